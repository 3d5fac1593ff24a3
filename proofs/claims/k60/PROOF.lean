import PyProof.Rows.All
import Wide.All
import OpenK.AllK
import Wide.FinOn
import Lean
import PyProof.EqAt
import PyProof.EqKinds
import PyProof.TupleCall
import PyProof.StationsW
import PyProof.ExcAttrAll.ValueError
import KE.KIsAll
import PyProof.RulesAs
import PyProof.NsDelKeeps
import PyProof.FString
import PyProof.FString4
import PyProof.Rows.FStr
import PyProof.Rows.FStrParts
import PyProof.StrCalls2
import PyProof.StrLawsRepr
import PyProof.StrLawsJoin
import PyProof.StrLaws
import PyProof.Rows.ReprOcc
import PyProof.ExcInit
import PyProof.InstStoreFacts
import KE.KDictOf
import PyProof.AttrMissHeap
import PyProof.AttrMissSeq
import PyProof.WalksS
import PyProof.Walks
import PyProof.Seq
import PyProof.DictList
import PyProof.DictUpdate
import PyProof.MakeMany
import PyProof.Rows.SetFrom
import PyProof.ZipIter
import PyProof.Rows.TupDisplay
import PyProof.EnumFor
import PyProof.EnumMake
import PyProof.EnumStmt
import PyProof.SeqI3
import PyProof.Rows.SumAny
import KE.KDictIter
import PyProof.DictWalks
import PyProof.StrLawsChain
import PyProof.StrLawsTight
import KE.KIntText
import PyProof.CallType
import PyProof.Rows.CallKwBuiltin
import PyProof.Draws
import PyProof.DefCall
import PyProof.SetKind
import PyProof.DictKinds
import PyProof.CollectWalk
import PyProof.FactsAll.set
import PyProof.DictIter
import PyProof.FactsTree
import PyProof.CollectStr
import KE.KDictLaws
import PyProof.Rows.SortShellK
import PyProof.Rows.SortWalk
import PyProof.Rows.StrNews2
import KE.KRevIter
import PyProof.ListNew
import PyProof.ListRange
import PyProof.WalkInts
import KE.KLam
import KE.KSortKey
import PyProof.AutoSeq1
import PyProof.ListIndex
import PyProof.DictRoadsH
import PySem.Challenge.RW_joinload_k60_what_is_there_at_first
open Lean.Parser.Command in
local macro_rules
 | `(command| def $i:declId $s:optDeclSig $v:declVal) => `(command| noncomputable def $i:declId $s:optDeclSig $v:declVal)
 | `(command| abbrev $i:declId $s:optDeclSig $v:declVal) => `(command| noncomputable abbrev $i:declId $s:optDeclSig $v:declVal)
local macro_rules | `(s!$x) => match x.raw[0].isInterpolatedStrLit? with | some s => `(PySem.Str.ofString $(Lean.quote s)) | none => Lean.Macro.throwUnsupported
set_option genInjectivity false
set_option compiler.extract_closed false
open PySem PySem.W PyProof.Rows in
set_option maxRecDepth 100000 in
set_option maxHeartbeats 0 in
theorem Zk:PySem.Challenge.rw_joinload_k60_what_is_there_at_first.wellSaid=true:=by kernel_rfl
set_option Elab.async false
set_option linter.all false
set_option maxRecDepth 100000
set_option genSizeOfSpec false
abbrev Wf:=PySem.W.Frag
abbrev Vs:=PySem.Value->PySem.Shared->Prop
abbrev Lo:=List (PySem.Addr×PySem.Obj)
abbrev So:=PySem.Str->Option PySem.Value
open PySem.W (instObj methodObj lookIn plainGet hasDictIn findIn handedIn plainGet_of isFn plainOver takerIn makesIn emptyDict keepIn specialIn takesIn mroIn kitOne kia_one kitx_list kitx_dict callWith_K methodCall_KW cellsFrom_some fnOf codeIn KdkAt tabObj codeHdIn kla_obj codeHd_of_K kla_fn nsIn mg_of mg_none_of)
abbrev aI := @List.length_map
abbrev aC := @PySem.wpAny_bind
abbrev cD := @List.mem_singleton
abbrev bP := @List.map_append
abbrev d9 := @PySem.Heap.get?_push_of_some
abbrev cy := @List.mem_append
abbrev bw := @Nat.le_refl
abbrev bI := @List.mem_map
abbrev fW := @Option.map_eq_some_iff
abbrev e7 := @List.mem_of_getElem?
abbrev bB := @PySem.wpAny_pure
abbrev hV := @List.getElem?_eq_some_iff
abbrev eY := @List.length_append
abbrev cY := @PySem.Heap.lt_size
abbrev h8 := @List.mem_cons_of_mem
abbrev lz := @List.getElem?_eq_getElem
abbrev iy := @PySem.Heap.get?_push_size
abbrev hU := @List.size_toArray
abbrev jW := @List.mem_append_right
abbrev g7 := @List.mem_flatMap
abbrev jF := @Nat.lt_of_lt_of_le
abbrev lC := @List.mem_append_left
abbrev jA := @List.getElem?_map
abbrev iR := @List.take_length
abbrev fX := @List.map_map
abbrev lE := @Bool.false_ne_true
abbrev gI := @Nat.ne_of_lt
abbrev lO := @List.mem_cons_self
abbrev hZ := @List.mem_cons
abbrev lD := @List.nodup_append
abbrev jB := @List.nodup_cons
abbrev BZ := @List.mem_of_find?_eq_some
abbrev gH := @Nat.zero_le
abbrev jH := @List.take_succ
abbrev lW := @Bool.and_eq_true
abbrev p_ := @List.length_take
abbrev jt := @Nat.le_trans
abbrev lF := @List.map_cons
abbrev B7 := @List.getElem_of_mem
abbrev LG := @List.getElem?_append_right
abbrev LD := @List.getElem?_append_left
abbrev zS := @List.length_cons
abbrev MW := @List.pairwise_iff_getElem
abbrev D9 := @Array.length_toList
abbrev xv := @Nat.lt_irrefl
abbrev Ci := @List.any_eq_true
abbrev LB := @List.flatMap_append
abbrev Ea := @List.getElem_map
abbrev Ld := @PySem.wpAny_newObj_type
abbrev Kf := @List.take_add_one
abbrev Ei := @Int.toNat_natCast
abbrev Ed := @List.append_nil
abbrev M4 := @List.map_congr_left
abbrev pG := @PySem.wpAny_mono
abbrev Ov := @PySem.Heap.get?_update_self
abbrev FI := @List.find?_cons
abbrev LC := @PySem.wpAny_askSetting
abbrev MI := @PySem.wpAny_setState_of
abbrev D_ := @PySem.wpAny_holding
abbrev Pp := @List.length_singleton
abbrev OH := @List.length_filter_le
abbrev Nl := @List.find?_eq_none
abbrev N5 := @List.append_assoc
abbrev Sq := @List.getD_eq_getElem?_getD
abbrev NY := @PySem.wpAny_call_entry
abbrev Om := @List.getElem_mem
abbrev MD := @List.mem_range
abbrev S9 := @Array.getElem?_eq_getElem
abbrev N1 := @List.mem_filter
abbrev Uz := @PySem.wpAny_callSpecial?_slot
abbrev SQ := @Nat.testBit_div_two_pow
abbrev Rc := @PySem.Heap.get?_update_ne
abbrev VO := @List.take_append_of_le_length
abbrev Ri := @PySem.wpAny_Call_Name_kw
abbrev QW := @PySem.wpAny_passesOwn
abbrev VS := @Nat.testBit_two_pow_mul_add
abbrev LQ := @Nat.le_of_lt
abbrev QC := @Bool.eq_iff_iff
abbrev Rf := @PySem.wpAny_truthy_bool
abbrev Ro := @Option.isSome_map
abbrev Rl := @Nat.lt_trichotomy
abbrev Rq := @List.foldl_append
abbrev VI := @Int.fmod_eq_emod_of_nonneg
abbrev Up := @Nat.pow_le_pow_right
abbrev RW := @List.pairwise_append
abbrev QS := @List.find?_map
abbrev Rg := @List.lookup_cons
abbrev Uo := @PySem.wpAny_setEntries_of
abbrev Sj := @Int.toNat_of_nonneg
abbrev Nm := @List.any_map
abbrev Q9 := @List.sum_append
abbrev Rj := @List.length_set
abbrev VQ := @Nat.testBit_lt_two_pow
abbrev VV := @List.take_of_length_le
abbrev VW := @PySem.Heap.get?_update_other
abbrev TK := @List.take_sublist
abbrev Um := @List.length_range
abbrev Sx := @List.find?_append
abbrev Tw := @Nat.lt_succ_self
abbrev SA := @Nat.le_add_right
abbrev TF := @List.length_drop
abbrev Tr := @List.cons_append
abbrev Rk := @PySem.wpAny_attempt
abbrev Q7 := @List.any_cons
abbrev Oh := @PySem.wpAny_rule
namespace L2
open PySem PySem.Spec PyProof.Rows
abbrev Key:=Sum Int Str
def keyIs:Key->Value->Bool
 |.inl k,v=>Value.isInt k v
 |.inr x,v=>Value.isStrOf x v
def keyH(w:World):Key->Int
 |.inl k=>hashInt k
 |.inr x=>hashStr w x
theorem lN:∀{k:Key}{v:Value},keyIs k v=true->(∃i t,k=Sum.inl i/\v=Value.int i t)\/(∃x t,k=Sum.inr x/\v=Value.str x t)
 |.inl i,v,h=>by
  obtain⟨t,e⟩:=Value.isInt_shape (k:=i) (v:=v) h;exact .inl ⟨i,t,rfl,e⟩
 |.inr x,v,h=>by
  obtain⟨t,e⟩:=Value.isStrOf_shape (x:=x) (v:=v) h;exact .inr ⟨x,t,rfl,e⟩
theorem De(i:Int)(t:Tok):keyIs (.inl i) (.int i t)=true:=by simp[keyIs,Value.isInt]
theorem C4(x:Str)(t:Tok):keyIs (.inr x) (.str x t)=true:=by simp[keyIs,Value.isStrOf]
theorem Ph(a b:Int):decide ((Sum.inl a:Key)=Sum.inl b)=(a == b):=by
 by_cases e:a=b
 ·subst e;simp
 ·have h:¬(Sum.inl a:Key)=Sum.inl b:=λq=>e (Sum.inl.inj q);rw[decide_eq_false h];exact(beq_eq_false_iff_ne.mpr e).symm
theorem Pf(a b:Str):decide ((Sum.inr a:Key)=Sum.inr b)=decide (a=b):=by
 by_cases e:a=b
 ·subst e;simp
 ·have h:¬(Sum.inr a:Key)=Sum.inr b:=λq=>e (Sum.inr.inj q);rw[decide_eq_false h,decide_eq_false e]
theorem Qp(a:Int)(b:Str):decide ((Sum.inl a:Key)=Sum.inr b)=false:=decide_eq_false (λq=>nomatch q)
theorem OY(a:Str)(b:Int):decide ((Sum.inr a:Key)=Sum.inl b)=false:=decide_eq_false (λq=>nomatch q)
def bc(prog:Program)(w:World):PySem.KeyKind prog w Key where
 is:=keyIs
 hash:=keyH w
 inj:=λv a b ha hb=>by
  rcases lN ha with ⟨i,t,rfl,rfl⟩|⟨x,t,rfl,rfl⟩
  ·rcases lN hb with ⟨j,u,rfl,e⟩|⟨y,u,rfl,e⟩
   ·injection e with e1 _;rw[e1]
   ·exact nomatch e
  ·rcases lN hb with ⟨j,u,rfl,e⟩|⟨y,u,rfl,e⟩
   ·exact nomatch e
   ·injection e with e1 _;rw[e1]
 byValue:=λk v h=>by
  rcases lN h with ⟨i,t,rfl,rfl⟩|⟨x,t,rfl,rfl⟩<;>rfl
 pyHash:=λhv h=>by
  rcases lN hv with ⟨i,t,rfl,rfl⟩|⟨x,t,rfl,rfl⟩
  ·exact wpAny_pyHash_int h
  ·exact wpAny_pyHash_str h
 eqBool:=λhu hv h=>by
  rcases lN hu with ⟨i,t,rfl,rfl⟩|⟨x,t,rfl,rfl⟩
  ·rcases lN hv with ⟨j,u,rfl,rfl⟩|⟨y,u,rfl,rfl⟩
   ·rw[Ph]at h;exact wpAny_eqBool_int h
   ·rw[Qp]at h;exact SeqAt.EqAt.int_str i t y u _ _ _ _ h
  ·rcases lN hv with ⟨j,u,rfl,rfl⟩|⟨y,u,rfl,rfl⟩
   ·rw[OY]at h;exact SeqAt.EqAt.str_int x t j u _ _ _ _ h
   ·rw[Pf]at h;exact wpAny_eqBool_str h
 «strs»:=λk x t v h=>by
  rcases lN h with ⟨i,u,rfl,e⟩|⟨y,u,rfl,e⟩
  ·exact nomatch e
  ·injection e with e1 _;subst e1;cases v<;>rfl
theorem xM(prog:Program)(w:World)(i:Int)(t:Tok):(bc prog w).is (.inl i) (.int i t)=true:=De i t
theorem yq(prog:Program)(w:World)(x:Str)(t:Tok):(bc prog w).is (.inr x) (.str x t)=true:=C4 x t
set_option genInjectivity true in
inductive V where
 |bh|bl (b:Bool)|int (i:Int)|str (x:Str)|yX (b:Array UInt8)|Qa (b:UInt64)|ref (a:Addr)|ty (n:String)
 deriving DecidableEq
def RelV:V->Value->Prop
 |.bh,u=>u=Value.none
 |.bl b,u=>u=Value.bool b
 |.int i,u=>∃t,u=Value.int i t
 |.str x,u=>∃t,u=Value.str x t
 |.yX b,u=>∃t,u=Value.bytes b t
 |.Qa b,u=>∃t,u=Value.float b t
 |.ref a,u=>u=Value.ref a
 |.ty n,u=>u=Value.type n
abbrev Vals:List V->List Value->Prop:=Paired RelV
theorem Vals.length{xs:List V}{us:List Value}(r:Vals xs us):xs.length=us.length:=Paired.length r
theorem Vals.get:∀{xs:List V}{us:List Value}{i:Nat}{x:V},Vals xs us->xs[i]?=some x->∃u,us[i]?=some u/\RelV x u
 |_,_,_,_,.nil,e=>by simp at e
 |_,_,0,_,.cons r _,e=>by simp at e;subst e;exact⟨_,rfl,r⟩
 |_,_,i+1,x,.cons _ t,e=>by
  obtain⟨u,h1,h2⟩:=Vals.get (i:=i) (x:=x) t (by simpa using e);exact⟨u,by simpa using h1,h2⟩
theorem Vals.set(r:RelV x u):∀{xs:List V}{us:List Value}(i:Nat),Vals xs us->Vals (xs.set i x) (us.set i u)
 |_,_,_,.nil=>.nil
 |_,_,0,.cons _ t=>.cons r t
 |_,_,i+1,.cons q t=>.cons q (Vals.set r i t)
theorem Vals.append:∀{xs ys:List V}{us ws:List Value},Vals xs us->Vals ys ws->Vals (xs++ys) (us++ws)
 |_,_,_,_,.nil,s=>s
 |_,_,_,_,.cons r t,s=>.cons r (Vals.append t s)
theorem Vals.take:∀{xs:List V}{us:List Value}(n:Nat),Vals xs us->Vals (xs.take n) (us.take n)
 |_,_,0,_=>.nil
 |_,_,_+1,.nil=>.nil
 |_,_,n+1,.cons r t=>.cons r (Vals.take n t)
theorem Vals.drop:∀{xs:List V}{us:List Value}(n:Nat),Vals xs us->Vals (xs.drop n) (us.drop n)
 |_,_,0,r=>r
 |_,_,_+1,.nil=>.nil
 |_,_,n+1,.cons _ t=>Vals.drop n t
def fK:Option V->Option Value->Prop
 |some v,some u=>RelV v u
 |none,none=>True
 |_,_=>False
def KV{κ:Type}:List (κ×V)->List (κ×Value)->Prop:=Paired λ(p:κ×V) (q:κ×Value)=>p.1=q.1/\RelV p.2 q.2
def kV:Key->V
 |.inl i=>.int i
 |.inr x=>.str x
set_option genInjectivity true in
inductive HO where
  |lst (xs:List V)
  |tup (xs:List V)
  |dK (kvs:List (Key×V))|dT (kvs:List (List Key×V))
  |set (S:Int->Bool) (n:Nat)
  |ins (C dx:Addr) (fs:List (Str×V))
  |own (x:Addr)
  |xd (fs:List (Str×V))
  |met (f x:Addr)
  |Yo (lo hi:Int)
  |fY (o:Obj) (u:HO)
  |g9 (ps:Array Value)
  |ext (φ:Heap->Prop)
abbrev Hp:=Addr->Option HO
def upd(H:Hp)(a:Addr)(o:HO):Hp:=λb=>if b=a then some o else H b
theorem aD:upd H a o a=some o:=by unfold upd;rw[if_pos rfl]
theorem ae(h:b≠a):upd H a o b=H b:=by unfold upd;rw[if_neg h]
theorem LW:upd (upd H a o) a u=upd H a u:=by
 funext b;unfold upd;split<;>rfl
theorem ba{H:Hp}{a b:Addr}{o u:HO}(h:H a=some o)(h':H b=some u)(d:o≠u):a≠b:=by
 intro e;subst e;rw[h]at h';exact d (Option.some.inj h')
theorem bD{H:Hp}{a b:Addr}{o:HO}(h:H a=some o)(h':H b=none):a≠b:=by
 intro e;subst e;rw[h]at h';cases h'
section
variable(P:Program)(w:World)
def bg(H:Hp)(h:Heap)(a:Addr):HO->Prop
 |.lst xs=>xs.length<=sizeLine/\∃(its:List Value) (n:Nat),Vals xs its/\h.get? a=some { cls:=.type "list", data:=.seq its.toArray n }
 |.tup xs=>xs.length<=sizeLine/\∃its:List Value,Vals xs its/\IsTup h a its.toArray
 |.dK kvs=>kvs.length<=sizeLine/\(a == sysModules)=false/\∃vs,KV kvs vs/\h.DictOf (bc P w) a vs
 |.dT kvs=>kvs.length<=sizeLine/\(a == sysModules)=false/\∃xs:List (List Key×Addr×Value),
   Paired (λ(p:List Key×V) (q:List Key×Addr×Value)=>p.1=q.1/\H q.2.1=some (.tup (p.1.map kV))/\RelV p.2 q.2.2) kvs xs/\
   ∃o es ep,h.get? a=some o/\o.ExactDict/\o.data=.dict es ep/\es.toList=xs.map (entryOfKey (tupleKind (bc P w)))/\(xs.map (·.1)).Nodup
 |.set S n=>h.SetOf (intKind P w) a S n
 |.ins C dx fs=>H dx=some (.own a)/\fs.length<=1000/\dx≠a/\h.get? a=some (instObj C dx)/\
   ∃mA,h.Ns1 dx mA/\(∀f,fK (fs.lookup f) (mA f))/\PySem.Within mA (fs.map (·.1))
 |.own _=>∃o,h.get? a=some o
 |.xd fs=>∃mA,h.Ns1 a mA/\∀f,fK (fs.lookup f) (mA f)
 |.Yo lo hi=>∃t u v,h.get? a=some { cls:=.type "range", data:=.fields #[.int lo t,.int hi u,.int 1 v] }
 |.fY o u=>h.get? a=some o/\bg H h a u
 |.g9 ps=>h.get? a=some { cls:=.none,data:=.fields ps }
 |.met f x=>h.get? a=some (methodObj (.ref f) (.ref x))
 |.ext φ=>φ h/\(∃o,h.get? a=some o)/\∀h1 h2:Heap,φ h1->(∀o,h1.get? a=some o->h2.get? a=some o)->φ h2
def gL(H:Hp)(h:Heap):Prop:=∀a o,H a=some o->bg P w H h a o
end
section
variable{P:Program}{w:World}{H H':Hp}{h h':Heap}{a:Addr}{o:HO}
theorem bg.lt(x:bg P w H h a o):a<h.objs.size:=by
 cases o with
 |lst xs=>obtain⟨_,_,_,_,e⟩:=x;exact cY e
 |tup xs=>obtain⟨_,_,_,p⟩:=x;exact p.lt
 |dK kvs=>obtain⟨_,_,_,_,o,_,_,e,_⟩:=x;exact cY e
 |dT kvs=>obtain⟨_,_,_,_,o,_,_,e,_⟩:=x;exact cY e
 |set S n=>obtain⟨o,_,_,_,e,_⟩:=x;exact cY e
 |ins C dx fs=>obtain⟨_,_,_,e,_⟩:=x;exact cY e
 |own y=>obtain⟨_,e⟩:=x;exact cY e
 |xd fs=>obtain⟨_,⟨_,_,_,e,_⟩,_⟩:=x;exact cY e
 |Yo lo hi=>obtain⟨_,_,_,e⟩:=x;exact cY e
 |fY ob u=>obtain⟨e,_⟩:=x;exact cY e
 |g9 ps=>exact cY (show h.get? a=some _ from x)
 |met f y=>exact cY (show h.get? a=some _ from x)
 |ext φ=>obtain⟨_,⟨_,e⟩,_⟩:=x;exact cY e
theorem Paired.OZ{α β:Type}{F G:α->β->Prop}:∀{l₁:List α}{l₂:List β},Paired F l₁ l₂->(∀a b,F a b->G a b)->Paired G l₁ l₂
 |_,_,.nil,_=>.nil
 |_,_,.cons r t,f=>.cons (f _ _ r) (Paired.OZ t f)
theorem bg.jf(x:bg P w H h a o)(k:∀b u,(b=a\/H b=some (.own a))->h.get? b=some u->h'.get? b=some u)
  (ho:∀b,H b=some (.own a)->H' b=some (.own a)) (ht:∀b xs,H b=some (.tup xs)->H' b=some (.tup xs)):bg P w H' h' a o:=by
 induction o with
 |lst xs=>obtain⟨z,its,n,r,e⟩:=x;exact⟨z,its,n,r,k _ _ (.inl rfl) e⟩
 |tup xs=>obtain⟨z,its,r,ob,e,c⟩:=x;exact⟨z,its,r,ob,k _ _ (.inl rfl) e,c⟩
 |dK kvs=>obtain⟨z,y,vs,r,ob,es,ep,e,c⟩:=x;exact⟨z,y,vs,r,ob,es,ep,k _ _ (.inl rfl) e,c⟩
 |dT kvs=>
  obtain⟨z,y,xs,r,ob,es,ep,e,c⟩:=x;exact⟨z,y,xs,Paired.OZ r λp q z=>⟨z.1,ht _ _ z.2.1,z.2.2⟩,ob,es,ep,k _ _ (.inl rfl) e,c⟩
 |set S n=>obtain⟨ob,es,ep,t,e,c⟩:=x;exact⟨ob,es,ep,t,k _ _ (.inl rfl) e,c⟩
 |ins C dx fs=>
  obtain⟨d,z,ne,e,mA,⟨od,es,ep,e2,c⟩,r⟩:=x;exact⟨ho _ d,z,ne,k _ _ (.inl rfl) e,mA,⟨od,es,ep,k _ _ (.inr d) e2,c⟩,r⟩
 |own y=>obtain⟨ob,e⟩:=x;exact⟨ob,k _ _ (.inl rfl) e⟩
 |xd fs=>obtain⟨mA,⟨od,es,ep,e,c⟩,r⟩:=x;exact⟨mA,⟨od,es,ep,k _ _ (.inl rfl) e,c⟩,r⟩
 |Yo lo hi=>obtain⟨t,u,v,e⟩:=x;exact⟨t,u,v,k _ _ (.inl rfl) e⟩
 |fY ob u ih=>obtain⟨e,q⟩:=x;exact⟨k _ _ (.inl rfl) e,ih q⟩
 |g9 ps=>
  have e:h.get? a=some { cls:=.none,data:=.fields ps }:=x;show h'.get? a=some { cls:=.none,data:=.fields ps };exact k a _ (.inl rfl) e
 |met f y=>
  have e:h.get? a=some (methodObj (.ref f) (.ref y)):=x;show h'.get? a=some (methodObj (.ref f) (.ref y));exact k a _ (.inl rfl) e
 |ext φ=>obtain⟨p,⟨o,e⟩,st⟩:=x;exact⟨st _ _ p λo q=>k _ _ (.inl rfl) q,⟨o,k _ _ (.inl rfl) e⟩,st⟩
theorem gL.lt(x:gL P w H h)(e:H a=some o):a<h.objs.size:=(x a o e).lt
theorem gL.fresh(x:gL P w H h)(e:h.objs.size<=a):H a=none:=by
 cases q:H a with
 |none=>rfl
 |some u=>exact absurd (jF (x.lt q) e) (xv _)
theorem gL.kept(x:gL P w H h)(k:∀b u,h.get? b=some u->h'.get? b=some u):gL P w H h':=λa o e=>
 (x a o e).jf (λb u _ q=>k b u q) (λ_ q=>q) λ_ _ q=>q
theorem gL.laid(x:gL P w H h)(k:∀b u,h.get? b=some u->h'.get? b=some u)(hp:h.objs.size<=a)(new:bg P w (upd H a o) h' a o):gL P w (upd H a o) h':=λb u e=>by
 have hn:=x.fresh hp;by_cases hb:b=a
 ·subst hb;rw[aD]at e;cases e;exact new
 ·rw[ae hb]at e;exact(x b u e).jf (λc v _ q=>k c v q) (λc q=>by rw[ae (bD q hn)];exact q) λc xs q=>by rw[ae (bD q hn)];exact q
end
def Rd(H:Hp)(a:Addr)(u:HO):Prop:=H a=some u\/∃o,H a=some (.fY o u)
theorem Rd.ok{P:Program}{w:World}{H:Hp}{h:Heap}{a:Addr}{u:HO}(r:Rd H a u)(x:gL P w H h):bg P w H h a u:=by
 rcases r with r|⟨o,r⟩
 ·exact x a u r
 ·obtain⟨_,q⟩:=x a _ r;exact q
def TC:Option HO->Prop
 |some (.lst _)=>True
 |some (.dK _)=>True
 |some (.dT _)=>True
 |some (.set _ _)=>True
 |some (.ins _ _ _)=>True
 |some (.ext _)=>True
 |_=>False
section
variable{P:Program}{w:World}{H:Hp}{h h':Heap}{x e:Addr}{o':HO}
theorem gL.write(ok:gL P w H h)(mu:TC (H x))(he:e=x\/H e=some (.own x))(k:∀b u,b≠e->h.get? b=some u->h'.get? b=some u)(heo:∃u,h'.get? e=some u)
  (new:bg P w (upd H x o') h' x o'):gL P w (upd H x o') h':=λb u q=>by
 have nown:∀c y,H c=some (.own y)->c≠x:=λc y r z=>by subst z;rw[r]at mu;exact mu
 have ntup:∀c xs,H c=some (.tup xs)->c≠x:=λc xs r z=>by subst z;rw[r]at mu;exact mu
 by_cases hb:b=x
 ·subst hb;rw[aD]at q;cases q;exact new
 ·rw[ae hb]at q;by_cases hbe:b=e
  ·have q':H b=some (.own x):=by
    rcases he with z|z
    ·exact absurd (hbe.trans z) hb
    ·rw[hbe];exact z
   rw[q]at q';cases q';obtain⟨v,hv⟩:=heo;exact⟨v,by rw[hbe];exact hv⟩
  ·refine(ok b u q).jf (λc v hc r=>k c v ?_ r) (λc r=>by rw[ae (nown c b r)];exact r) λc xs r=>by rw[ae (ntup c xs r)];exact r
   rcases hc with rfl|hc
   ·exact hbe
   ·rintro rfl;rcases he with z|z
    ·exact nown c b hc z
    ·rw[hc]at z;cases z;exact hb rfl
end
structure Un(fs ex:List Addr)(H H':Hp)(h h':Heap):Prop where
 keep:∀b o,h.get? b=some o->H b=none->b∉fs->b∉ex->h'.get? b=some o
 slot:∀b o,h.get? b=some o->H b=none->b∈fs->b∉ex->∃sl,h'.get? b=some { o with slots:=sl }
 free:∀b o,h.get? b=some o->H b=none->b∉ex->H' b=none
 there:∀b o,h.get? b=some o->b∉ex->∃o',h'.get? b=some o'
 uE:∀b xs,H b=some (.tup xs)->H' b=some (.tup xs)
 lJ:∀b o u,H b=some (.fY o u)->H' b=some (.fY o u)
 lK:∀b ps,H b=some (.g9 ps)->∃more,H' b=some (.g9 (ps++more))
section
variable{fs fs' ex ex':List Addr}{H H1 H2:Hp}{h h1 h2 h':Heap}{a x e:Addr}{o:HO}
theorem Un.any(u:Un fs ex H H1 h h1){b:Addr}{ob:Obj}(q:h.get? b=some ob)(n:H b=none)(hx:b∉ex):∃sl,h1.get? b=some { ob with slots:=sl }:=by
 by_cases hb:b∈fs
 ·exact u.slot b ob q n hb hx
 ·exact⟨ob.slots,u.keep b ob q n hb hx⟩
theorem Un.kept(k:∀b u,h.get? b=some u->h'.get? b=some u):Un fs ex H H h h':=
 ⟨λb ob q _ _ _=>k b ob q,λb ob q _ _ _=>⟨ob.slots,k b ob q⟩,λ_ _ _ n _=>n,λb ob q _=>⟨ob,k b ob q⟩,λ_ _ q=>q,λ_ _ _ q=>q,λ_ ps q=>⟨#[],by rw[q];simp⟩⟩
theorem Un.refl:Un fs ex H H h h:=Un.kept λ_ _ q=>q
theorem Un.laid(k:∀b u,h.get? b=some u->h'.get? b=some u)(hp:h.objs.size<=a)(hn:H a=none):Un fs ex H (upd H a o) h h' where
 keep:=λb u q _ _ _=>k b u q
 slot:=λb u q _ _ _=>⟨u.slots,k b u q⟩
 free:=λb u q n _=>by rw[ae (gI (jF (cY q) hp))];exact n
 there:=λb u q _=>⟨u,k b u q⟩
 uE:=λb xs q=>by rw[ae (bD q hn)];exact q
 lJ:=λb u xs q=>by rw[ae (bD q hn)];exact q
 lK:=λb ps q=>⟨#[],by rw[ae (bD q hn),q];simp⟩
theorem Un.write(mu:TC (H x))(he:e=x\/H e=some (.own x))(k:∀b u,b≠e->h.get? b=some u->h'.get? b=some u)(heo:∃u,h'.get? e=some u):Un fs ex H (upd H x o) h h':=by
 have hx:∀b,H b=none->b≠x:=λb n z=>by subst z;rw[n]at mu;exact mu
 have hb:∀b,H b=none->b≠e:=λb n z=>by
  subst z;rcases he with r|r
  ·exact hx b n r
  ·rw[n]at r;cases r
 have hm:∀b u,H b=some u->¬TC (some u)->b≠x:=λb u q nm z=>by subst z;rw[q]at mu;exact nm mu
 refine⟨λb u q n _ _=>k b u (hb b n) q,λb u q n _ _=>⟨u.slots,k b u (hb b n) q⟩,λb u q n _=>by rw[ae (hx b n)];exact n,λb u q _=>?_,
  λb xs q=>by rw[ae (hm b _ q λz=>z)];exact q,λb u xs q=>by rw[ae (hm b _ q λz=>z)];exact q,λb ps q=>⟨#[],by rw[ae (hm b _ q λz=>z),q];simp⟩⟩
 by_cases hbe:b=e
 ·subst hbe;exact heo
 ·exact⟨u,k b u hbe q⟩
end
def yW(h:Heap)(H:Hp):List Addr:=(List.range h.objs.size).filter λa=>(H a).isSome
def rb(h:Heap)(H:Hp):Heap:=PySem.W.hideAll h (yW h H)
theorem C5(h:Heap)(H:Hp):(rb h H).objs.size=h.objs.size:=PySem.W.hideAll_size _ _
theorem EW(e:h.get? b=some o)(n:H b=none):(rb h H).get? b=some o:=
 PySem.W.hideAll_get _ e λhm=>by
  have q:(H b).isSome=true:=(N1.mp hm).2;rw[n]at q;simp at q
theorem Mq(e:(rb h H).get? b=some o):h.get? b=some o/\H b=none:=by
 have e':h.get? b=some o:=PySem.W.of_hideAll (yW h H) e;refine⟨e',?_⟩;cases q:H b with
 |none=>rfl
 |some x=>
  have hm:b∈yW h H:=N1.mpr ⟨MD.mpr (cY e'),by simp[q]⟩;have z:(rb h H).get? b=none:=PySem.W.hideAll_none (yW h H) hm;rw[z]at e;cases e
def Mi(g h:Heap)(L:Addr):Lo:=(List.range h.objs.size).filterMap λa=>if a=L\/(g.get? a).isSome=true then none else (h.get? a).map λo=>(a,o)
def rest(g h:Heap)(L d:Addr):Lo:=(Mi g h L).filter λp=>decide (p.1≠d)
structure Mod(K:Wf)(mg:So)(base:Heap):Prop where
 Q3:K.In base
 glob:base.Ns mainGlobals mg
 blt:∃mb,base.Ns builtinsNs mb/\∀x:Str,x ≠ "__name__" -> mb x=bootBuiltins x
 nolimit:base.NoLimit
structure Cx where
 prog:Program
 w:World
 K:Wf
 mg:Str->Option Value
 base:Heap
 A:Around
 N:List Str
 s₀:Shared
 H₀:Hp
 env:Env
 outer:List Env
 stack:List Env
 ex:List Addr
 fn:Str->Bool
 calm:Bool
 pn:Lo
 xe:Value->Shared->Prop
def yV(l:List Env):List Addr:=l.filterMap (·.frame)
abbrev Cx.fs(X:Cx):List Addr:=yV X.outer
def WX(sc:Scope)(x:Str):Prop:=sc.names.lookup x=some .local\/sc.names.lookup x=some .cell\/sc.names.lookup x=some .free
def Loc(sc:Scope)(x:Str):Prop:=sc.names.lookup x=some .local\/sc.names.lookup x=some .cell
def Look(env:Env)(h:Heap)(m:So)(x:Str)(u:Value):Prop:=
 (env.kindOf x=some .local/\m x=some u)\/((env.kindOf x=some .cell\/env.kindOf x=some .free)/\∃c,env.cells.lookup x=some c/\h.IsCell c (some u))
structure Cx.Ok(X:Cx):Prop where
 mod:Mod X.K X.mg X.base
 kind:X.env.scope.kind=.function
 glob:X.env.globals=mainGlobals
 blt:X.env.builtins=builtinsNs
 above:X.s₀.heap.objs.size<=X.env.locals
 inj:∀x y c,X.env.cells.lookup x=some c->X.env.cells.lookup y=some c->x=y
 has:∀x,(X.env.kindOf x=some .cell\/X.env.kindOf x=some .free)->∃c,X.env.cells.lookup x=some c
 Q0:∀x c,X.fn x=true->X.env.cells.lookup x=some c->X.s₀.heap.objs.size<=c
 hd:X.calm=true->X.A.handled=none
 frames:X.A.frames=some X.stack
 Ol:X.stack=X.outer\/(X.stack=X.env::X.outer/\X.env.frame=some X.env.locals)
 TR:∀b∈X.ex,b≠X.env.locals/\∀x c,X.env.cells.lookup x=some c->c≠b
 bs:∀b o,X.base.get? b=some o->X.s₀.heap.get? b=some o/\X.H₀ b=none
 EU:X.base.objs.size<=X.s₀.heap.objs.size
 Di:∀b o,X.base.get? b=some o->b∉X.ex
 zt:∀b∈X.ex,b∉X.fs
 ir:X.s₀.heap.FunFrames X.base X.outer
 LZ:∀b∈X.fs,X.H₀ b=none
structure Inv(X:Cx)(pins:Lo)(σ:List (Option V))(H:Hp)(s:Shared):Prop where
 ok:X.Ok
 os:s.os=X.s₀.os
 bare:AllBare s.gens
 base:Un X.fs X.ex X.H₀ H X.s₀.heap s.heap
 loc:∃m,s.heap.Ns X.env.locals m/\∀(i:Nat) (x:Str) (v:V),X.N[i]?=some x->σ[i]?=some (some v)->WX X.env.scope x->∃u,RelV v u/\Look X.env s.heap m x u
 cell:∀x c,X.env.cells.lookup x=some c->∃v,s.heap.IsCell c v
 free:H X.env.locals=none
 gz:∀x c,X.env.cells.lookup x=some c->H c=none
 pin:∀p∈X.pn++pins,s.heap.get? p.1=some p.2/\H p.1=none/\p.1≠X.env.locals/\p.1∉X.fs/\∀v,p.2.data≠.cell v
 aW:gL X.prog X.w H s.heap
 len:σ.length=X.N.length
section
variable{X:Cx}{pins:Lo}{σ:List (Option V)}{H H':Hp}{s:Shared}{h':Heap}
theorem Cx.Ok.XF(ok:X.Ok){b:Addr}{o:Obj}(e:X.base.get? b=some o):b∉X.fs:=λhb=>by
 have:=(ok.ir.mem hb).1;rw[e]at this;cases this
theorem Inv.bs(I:Inv X pins σ H s):∀b o,X.base.get? b=some o->s.heap.get? b=some o/\H b=none:=λb o e=>
 ⟨I.base.keep b o (I.ok.bs b o e).1 (I.ok.bs b o e).2 (I.ok.XF e) (I.ok.Di b o e),I.base.free b o (I.ok.bs b o e).1 (I.ok.bs b o e).2 (I.ok.Di b o e)⟩
theorem Inv.bk(I:Inv X pins σ H s):∀b o,X.base.get? b=some o->s.heap.get? b=some o:=λb o e=>(I.bs b o e).1
theorem Inv.mod(I:Inv X pins σ H s):Mod X.K X.mg X.base:=I.ok.mod
theorem Inv.i8(I:Inv X pins σ H s):X.K.In s.heap:=I.ok.mod.Q3.keeps I.bk
theorem Inv.lt(I:Inv X pins σ H s):X.env.locals<s.heap.objs.size:=let ⟨_,hn,_⟩:=I.loc;hn.lt
theorem Inv.sz(I:Inv X pins σ H s):X.s₀.heap.objs.size<=s.heap.objs.size:=jt I.ok.above (LQ I.lt)
theorem Inv.UJ(I:Inv X pins σ H s){a:Addr}(h:s.heap.objs.size<=a):a∉X.fs:=λhb=>by
 obtain⟨_,o,ho,_⟩:=I.ok.ir.mem hb;exact absurd (jF (cY ho) (jt I.sz h)) (xv _)
theorem Inv.PK(I:Inv X pins σ H s):∀x c,X.env.cells.lookup x=some c->c≠X.env.locals:=λx c e z=>by
 obtain⟨v,o,ho,hd⟩:=I.cell x c e;obtain⟨m,⟨o',es,ep,ho',hd',_⟩,_⟩:=I.loc;rw[z,ho']at ho;cases ho;rw[hd']at hd;cases hd
theorem Inv.ir(I:Inv X pins σ H s):s.heap.FunFrames X.base X.outer:=by
 have all:∀(l:List Env),(∀b∈yV l,b∈X.fs)->X.s₀.heap.FunFrames X.base l->s.heap.FunFrames X.base l:=by
  intro l
  induction l with
  |nil=>intro _ _;trivial
  |cons env r ih=>
   intro hs hl;obtain⟨hk,⟨L,o,hf,hn,ho,hd⟩,hr⟩:=hl;have hL:L∈X.fs:=hs L (by unfold yV;rw[List.filterMap_cons,hf];exact List.mem_cons_self);obtain⟨sl,e⟩:=I.base.slot L o ho (I.ok.LZ L hL) hL λz=>I.ok.zt L z hL;exact⟨hk,⟨L,_,hf,hn,e,hd⟩,ih (λb hb=>hs b (by unfold yV;rw[List.filterMap_cons,hf];exact List.mem_cons_of_mem _ hb)) hr⟩
 exact all X.outer (λ_ hb=>hb) I.ok.ir
theorem Inv.stack(I:Inv X pins σ H s):s.heap.FunFrames X.base X.stack:=by
 rcases I.ok.Ol with e|⟨e,hf⟩
 ·rw[e];exact I.ir
 ·rw[e];obtain⟨m,hn,_⟩:=I.loc;refine .cons (by rw[I.ok.kind];decide) hf hn ?_ I.ir;exact Heap.get?_none_of_le (jt I.ok.EU I.ok.above)
theorem Inv.vo(I:Inv X pins σ H s):∀b∈yV X.stack,b∈X.env.locals::X.fs:=λb hb=>by
 rcases I.ok.Ol with e|⟨e,hf⟩
 ·rw[e]at hb;exact h8 _ hb
 ·rw[e]at hb;unfold yV at hb;rw[List.filterMap_cons,hf]at hb;exact hb
theorem Inv.Cy(I:Inv X pins σ H s):∀b∈yV X.stack,H b=none:=λb hb=>by
 rcases hZ.mp (I.vo b hb) with e|hb
 ·rw[e];exact I.free
 ·obtain⟨_,o,ho,_⟩:=I.ok.ir.mem hb;exact I.base.free b o ho (I.ok.LZ b hb) λz=>I.ok.zt b z hb
theorem Inv.step{g':Array GenState}{t':Nat}{d':Drawn}{ch:List Addr}(I:Inv X pins σ H s)
  (hch:∀b∈ch,(b∈X.ex\/X.s₀.heap.objs.size<=b)/\b≠X.env.locals/\(∀x c,X.env.cells.lookup x=some c->c≠b)/\∀p∈X.pn++pins,p.1≠b)
  (keep:∀b o,b≠X.env.locals->b∉X.fs->b∉ch->s.heap.get? b=some o->H b=none->h'.get? b=some o)
  (slot:∀b o,b≠X.env.locals->b∈X.fs->b∉ch->s.heap.get? b=some o->H b=none->∃sl,h'.get? b=some { o with slots:=sl }) (free:∀b o,b∉ch->s.heap.get? b=some o->H b=none->H' b=none)
  (there:∀b o,b∉ch->s.heap.get? b=some o->∃o',h'.get? b=some o')
  (uE:∀b xs,H b=some (.tup xs)->H' b=some (.tup xs)) (lJ:∀b o u,H b=some (.fY o u)->H' b=some (.fY o u)) (lK:∀b ps,H b=some (.g9 ps)->∃more,H' b=some (.g9 (ps++more)))
  (ns:∀m,s.heap.Ns X.env.locals m->h'.Ns X.env.locals m) (aW:gL X.prog X.w H' h') (hg:AllBare g'):
  Inv X pins σ H' { s with heap:=h',gens:=g',drawn:=d',toks:=t' }:=by
 have neL:∀b o,X.s₀.heap.get? b=some o->b≠X.env.locals:=λb o e=>gI (jF (cY e) I.ok.above);have neC:∀b o,X.s₀.heap.get? b=some o->b∉X.ex->b∉ch:=λb o e hx hb=>by
  rcases (hch b hb).1 with z|z
  ·exact hx z
  ·exact absurd (jF (cY e) z) (xv _)
 have cellK:∀x c,X.env.cells.lookup x=some c->∀v,s.heap.IsCell c v->h'.IsCell c v:=λx c e v ⟨o,ho,hd⟩=>by
  have nch:c∉ch:=λz=>(hch c z).2.2.1 x c e rfl;by_cases hc:c∈X.fs
  ·obtain⟨sl,q⟩:=slot c o (I.PK x c e) hc nch ho (I.gz x c e);exact⟨_,q,hd⟩
  ·exact⟨o,keep c o (I.PK x c e) hc nch ho (I.gz x c e),hd⟩
 refine⟨I.ok,I.os,hg,⟨λb o e n hb hx=>?_,λb o e n hb hx=>?_,λb o e n hx=>?_,λb o e hx=>?_,λb xs e=>uE b xs (I.base.uE b xs e),λb o xs e=>lJ b o xs (I.base.lJ b o xs e),λb ps e=>?_⟩,?_,λx c e=>?_,?_,λx c e=>?_,λp hp=>?_,aW,I.len⟩
 ·exact keep b o (neL b o e) hb (neC b o e hx) (I.base.keep b o e n hb hx) (I.base.free b o e n hx)
 ·obtain⟨sl,e1⟩:=I.base.slot b o e n hb hx;obtain⟨sl',e2⟩:=slot b _ (neL b o e) hb (neC b o e hx) e1 (I.base.free b o e n hx);exact⟨sl',e2⟩
 ·obtain⟨o',e1⟩:=I.base.there b o e hx;exact free b o' (neC b o e hx) e1 (I.base.free b o e n hx)
 ·obtain⟨o',e1⟩:=I.base.there b o e hx;exact there b o' (neC b o e hx) e1
 ·obtain⟨m1,e1⟩:=I.base.lK b ps e;obtain⟨m2,e2⟩:=lK b _ e1;exact⟨m1++m2,by rw[e2,Array.append_assoc]⟩
 ·obtain⟨m,hn,hl⟩:=I.loc;refine⟨m,ns m hn,λi x v e1 e2 e3=>?_⟩;obtain⟨u,r,l⟩:=hl i x v e1 e2 e3;refine⟨u,r,?_⟩;rcases l with l|⟨k,c,e,z⟩
  ·exact .inl l
  ·exact .inr ⟨k,c,e,cellK x c e _ z⟩
 ·obtain⟨v,z⟩:=I.cell x c e;exact⟨v,cellK x c e v z⟩
 ·obtain⟨m,⟨o,_,_,ho,_⟩,_⟩:=I.loc;exact free _ o (λz=>(hch _ z).2.1 rfl) ho I.free
 ·obtain⟨v,o,ho,hd⟩:=I.cell x c e;exact free c o (λz=>(hch c z).2.2.1 x c e rfl) ho (I.gz x c e)
 ·obtain⟨e,n,ne,nf,d⟩:=I.pin p hp;have nch:p.1∉ch:=λz=>(hch p.1 z).2.2.2 p hp rfl;exact⟨keep p.1 p.2 ne nf nch e n,free p.1 p.2 nch e n,ne,nf,d⟩
theorem Inv.un(I:Inv X pins σ H s)(u:Un X.fs [] H H' s.heap h')(aW:gL X.prog X.w H' h'):Inv X pins σ H' { s with heap:=h',toks:=t' }:=by
 obtain⟨m,⟨o,es,ep,ho,r⟩,_⟩:=id I.loc;obtain⟨sl,hL⟩:=u.any ho I.free (by simp);exact I.step (g':=s.gens) (d':=s.drawn) (ch:=[]) (λ_ z=>nomatch z) (λb o _ hb _ e n=>u.keep b o e n hb (by simp)) (λb o _ hb _ e n=>u.slot b o e n hb (by simp)) (λb o _ e n=>u.free b o e n (by simp)) (λb o _ e=>u.there b o e (by simp)) u.uE u.lJ u.lK (λm' hm=>by
  obtain⟨o',es',ep',ho',r'⟩:=hm;rw[ho]at ho';cases ho';exact⟨_,es',ep',hL,r'⟩) aW I.bare
theorem Inv.call(I:Inv X pins σ H s)(u:Un (yV X.stack) ch H H' s.heap h')(aW:gL X.prog X.w H' h')(hg:AllBare g')
  (hch:∀b∈ch,(b∈X.ex\/X.s₀.heap.objs.size<=b)/\b≠X.env.locals/\(∀x c,X.env.cells.lookup x=some c->c≠b)/\∀p∈X.pn++pins,p.1≠b):
  Inv X pins σ H' { s with heap:=h',gens:=g',drawn:=d',toks:=t' }:=by
 obtain⟨m,⟨o,es,ep,ho,r⟩,_⟩:=id I.loc;obtain⟨sl,hL⟩:=u.any ho I.free λz=>(hch _ z).2.1 rfl;exact I.step (ch:=ch) hch (λb o hL hb hc e n=>u.keep b o e n (λz=>(hZ.mp (I.vo b z)).elim hL hb) hc) (λb o _ _ hc e n=>u.any e n hc) (λb o hc e n=>u.free b o e n hc) (λb o hc e=>u.there b o e hc) u.uE u.lJ u.lK (λm' hm=>by
  obtain⟨o',es',ep',ho',r'⟩:=hm;rw[ho]at ho';cases ho';exact⟨_,es',ep',hL,r'⟩) aW hg
theorem Inv.turned(I:Inv X pins σ H s)(k:∀b o,b≠it->s.heap.get? b=some o->h'.get? b=some o)(hn:H it=none)(hL:it≠X.env.locals)
  (h1:it∈X.ex\/X.s₀.heap.objs.size<=it) (h2:∀x c,X.env.cells.lookup x=some c->c≠it) (h3:∀p∈X.pn++pins,p.1≠it):Inv X pins σ H { s with heap:=h',toks:=t' }:=by
 have nit:∀b u,H b=some u->b≠it:=λb u e z=>by rw[z,hn]at e;cases e
 refine I.step (g':=s.gens) (d':=s.drawn) (ch:=[it]) (λb hb=>?_) (λb o _ _ hc e _=>k b o (λz=>hc (by simp[z])) e) (λb o _ _ hc e _=>⟨o.slots,k b o (λz=>hc (by simp[z])) e⟩) (λ_ _ _ _ n=>n)
  (λb o hc e=>⟨o,k b o (λz=>hc (by simp[z])) e⟩) (λ_ _ e=>e) (λ_ _ _ e=>e) (λb ps e=>⟨#[],by rw[e];simp⟩) (λm hm=>?_) (λb u e=>?_) I.bare
 ·have e:b=it:=by simpa using hb
  subst e;exact⟨h1,hL,h2,h3⟩
 ·obtain⟨o,es,ep,ho,r⟩:=hm;exact⟨o,es,ep,k _ o (Ne.symm hL) ho,r⟩
 ·refine(I.aW b u e).jf (λc v hc q=>k c v ?_ q) (λ_ q=>q) λ_ _ q=>q;rcases hc with z|z
  ·rw[z];exact nit b u e
  ·exact nit c _ z
theorem Inv.tok(I:Inv X pins σ H s)(t:Nat):Inv X pins σ H { s with toks:=t }:=I.un (h':=s.heap) (t':=t) Un.refl I.aW
theorem Inv.kept(I:Inv X pins σ H s)(k:∀b u,s.heap.get? b=some u->h'.get? b=some u):Inv X pins σ H { s with heap:=h',toks:=t' }:=I.un (Un.kept k) (I.aW.kept k)
theorem Inv.laid{a:Addr}{o:HO}{t':Nat}(I:Inv X pins σ H s)(k:∀b u,s.heap.get? b=some u->h'.get? b=some u)(hp:s.heap.objs.size<=a)(new:bg X.prog X.w (upd H a o) h' a o):
  Inv X pins σ (upd H a o) { s with heap:=h',toks:=t' }:=I.un (Un.laid k hp (I.aW.fresh hp)) (I.aW.laid k hp new)
theorem Inv.write(I:Inv X pins σ H s)(mu:TC (H x))(he:e=x\/H e=some (.own x))(k:∀b u,b≠e->s.heap.get? b=some u->h'.get? b=some u)(heo:∃u,h'.get? e=some u)
  (new:bg X.prog X.w (upd H x o) h' x o):Inv X pins σ (upd H x o) { s with heap:=h',toks:=t' }:=I.un (Un.write mu he k heo) (I.aW.write mu he k heo new)
theorem Inv.weak(I:Inv X pins σ H s)(hl:σ'.length=σ.length)(w:∀(i:Nat) v,σ'[i]?=some (some v)->σ[i]?=some (some v)):Inv X pins σ' H s:=
 ⟨I.ok,I.os,I.bare,I.base,let ⟨m,hn,hl'⟩:=I.loc;⟨m,hn,λi x v e1 e2 e3=>hl' i x v e1 (w i v e2) e3⟩,I.cell,I.free,I.gz,I.pin,I.aW,hl.trans I.len⟩
theorem Inv.jR{pins':Lo}(I:Inv X pins σ H s)(h:∀p∈pins',s.heap.get? p.1=some p.2/\H p.1=none/\p.1≠X.env.locals/\p.1∉X.fs/\∀v,p.2.data≠.cell v):Inv X pins' σ H s:=
 ⟨I.ok,I.os,I.bare,I.base,I.loc,I.cell,I.free,I.gz,λp hp=>(cy.mp hp).elim (λz=>I.pin p (lC _ z)) (h p),I.aW,I.len⟩
theorem xJ{N:List Str}(hN:N.Nodup){i j:Nat}{x:Str}(a:N[i]?=some x)(b:N[j]?=some x):i=j:=by
 obtain⟨h1,e1⟩:=hV.mp a;obtain⟨h2,e2⟩:=hV.mp b;exact(List.getElem_inj hN).mp (e1.trans e2.symm)
theorem DZ{M:Model}{A:Around}{E:Vs}{i:Nat}{x:Str}{v:V}{u:Value}{Q:Unit->Shared->Prop}(I:Inv X pins σ H s)(hN:X.N.Nodup)(hi:X.N[i]?=some x)(hx:Loc X.env.scope x)(r:RelV v u)
  (h:∀s',Inv X pins (σ.set i (some v)) H s'->(∃a,Heap.SameBut a s.heap s'.heap/\(a=X.env.locals\/X.env.cells.lookup x=some a))->Q () s') (hf:X.fn x=true\/X.env.scope.names.lookup x=some .local:=by first|exact .inl rfl|exact .inr rfl|assumption):wpAny M A (storeName X.env x u) Q E s:=by
 obtain⟨m,hn,hl⟩:=id I.loc;have hcls:(X.env.scope.kind == .class || (X.env.scope.kind == .module&&X.env.locals != X.env.globals))=false:=by rw[I.ok.kind];rfl
 have hiσ:i<σ.length:=by rw[I.len];exact(hV.mp hi).1
 have PK:=I.PK;have tracked:∀{a:Addr}{h':Heap},(∃o,s.heap.get? a=some o/\H a=none)->Heap.SameBut a s.heap h'->gL X.prog X.w H h':=λ{a h'} ha hs b ob e=>by
  obtain⟨_,_,hfree⟩:=ha;refine(I.aW b ob e).jf (λc w' hc q=>(hs.2 c ?_).trans q) (λ_ q=>q) λ_ _ q=>q;rintro rfl;rcases hc with rfl|hc
  ·rw[hfree]at e;cases e
  ·rw[hfree]at hc;cases hc
 rcases hx with hk|hk
 ·refine wpAny_storeName_local hk hn (λh' hn' hs=>?_) hcls;obtain⟨oL,_,_,hoL,_⟩:=id hn;refine h _ ⟨I.ok,I.os,I.bare,⟨λb o e n hb hx=>?_,λb o e n hb hx=>?_,I.base.free,λb o e hx=>?_,I.base.uE,I.base.lJ,I.base.lK⟩,⟨_,hn',λj y v' e1 e2 e3=>?_⟩,λy c e=>?_,I.free,I.gz,λp hp=>?_,tracked ⟨oL,hoL,I.free⟩ hs,by simpa using I.len⟩ ⟨_,hs,.inl rfl⟩
  ·exact(hs.2 b (gI (jF (cY e) I.ok.above))).trans (I.base.keep b o e n hb hx)
  ·obtain⟨sl,e1⟩:=I.base.slot b o e n hb hx;exact⟨sl,(hs.2 b (gI (jF (cY e) I.ok.above))).trans e1⟩
  ·obtain⟨o',e1⟩:=I.base.there b o e hx;exact⟨o',(hs.2 b (gI (jF (cY e) I.ok.above))).trans e1⟩
  ·by_cases hj:j=i
   ·subst hj;rw[hi]at e1;cases e1;rw[List.getElem?_set_self hiσ]at e2;cases e2;exact⟨u,r,.inl ⟨hk,by simp⟩⟩
   ·rw[List.getElem?_set_ne (Ne.symm hj)]at e2;obtain⟨u',r',q⟩:=hl j y v' e1 e2 e3;refine⟨u',r',?_⟩;rcases q with ⟨k,e⟩|⟨k,c,e,z⟩
    ·refine .inl ⟨k,?_⟩;have:y≠x:=λe=>hj (xJ hN e1 (e▸hi));simp[this,e]
    ·exact .inr ⟨k,c,e,z.sameBut hs (PK y c e)⟩
  ·obtain⟨w',z⟩:=I.cell y c e;exact⟨w',z.sameBut hs (PK y c e)⟩
  ·obtain⟨e,n,ne,nf,d⟩:=I.pin p hp;exact⟨(hs.2 p.1 ne).trans e,n,ne,nf,d⟩
 ·have hfn:X.fn x=true:=by
   rcases hf with z|z
   ·exact z
   ·rw[z]at hk;cases hk
  obtain⟨c,hc⟩:=I.ok.has x (.inl hk);obtain⟨w',z⟩:=I.cell x c hc;refine wpAny_storeName_cell I.ok.kind hk hc z (λh' hc' hs=>?_);obtain⟨oc,hoc,hocd⟩:=id z;refine h { s with heap:=h' } ⟨I.ok,I.os,I.bare,⟨λb o e n hb hx=>?_,λb o e n hb hx=>?_,I.base.free,λb o e hx=>?_,I.base.uE,I.base.lJ,I.base.lK⟩,⟨m,hn.sameBut hs (Ne.symm (PK x c hc)),λj y v' e1 e2 e3=>?_⟩,λy c' e=>?_,I.free,I.gz,λp hp=>?_,tracked ⟨oc,hoc,I.gz x c hc⟩ hs,by simpa using I.len⟩ ⟨c,hs,.inr hc⟩
  ·exact(hs.2 b (gI (jF (cY e) (I.ok.Q0 x c hfn hc)))).trans (I.base.keep b o e n hb hx)
  ·obtain⟨sl,e1⟩:=I.base.slot b o e n hb hx;exact⟨sl,(hs.2 b (gI (jF (cY e) (I.ok.Q0 x c hfn hc)))).trans e1⟩
  ·obtain⟨o',e1⟩:=I.base.there b o e hx;exact⟨o',(hs.2 b (gI (jF (cY e) (I.ok.Q0 x c hfn hc)))).trans e1⟩
  ·by_cases hj:j=i
   ·subst hj;rw[hi]at e1;cases e1;rw[List.getElem?_set_self hiσ]at e2;cases e2;exact⟨u,r,.inr ⟨.inl hk,c,hc,hc'⟩⟩
   ·rw[List.getElem?_set_ne (Ne.symm hj)]at e2;obtain⟨u',r',q⟩:=hl j y v' e1 e2 e3;refine⟨u',r',?_⟩;rcases q with q|⟨k,c',e,z'⟩
    ·exact .inl q
    ·refine .inr ⟨k,c',e,z'.sameBut hs ?_⟩;rintro rfl;exact hj (xJ hN e1 (I.ok.inj _ _ _ e hc▸hi))
  ·by_cases hcc:c'=c
   ·subst hcc;exact⟨_,hc'⟩
   ·obtain⟨w2,z2⟩:=I.cell y c' e;exact⟨w2,z2.sameBut hs hcc⟩
  ·obtain⟨e,n,ne,nf,d⟩:=I.pin p hp;refine⟨(hs.2 p.1 ?_).trans e,n,ne,nf,d⟩;intro q;rw[q,hoc]at e;have q':oc=p.2:=Option.some.inj e;exact d w' (by rw[<-q'];exact hocd)
theorem ie{M:Model}{A:Around}{E:Vs}{i:Nat}{x:Str}{v:V}{u:Value}{Q:Unit->Shared->Prop}(I:Inv X pins σ H s)(hN:X.N.Nodup)(hi:X.N[i]?=some x)(hx:Loc X.env.scope x)(r:RelV v u)
  (h:∀s',Inv X pins (σ.set i (some v)) H s'->Q () s') (hf:X.fn x=true\/X.env.scope.names.lookup x=some .local:=by first|exact .inl rfl|exact .inr rfl|assumption):wpAny M A (storeName X.env x u) Q E s:=
 DZ I hN hi hx r (λs' I' _=>h s' I') hf
theorem Inv.Av(I:Inv X pins σ H s)(ho:s'.os=s.os)(u:Un (yV X.stack) ch H H' s.heap s'.heap)(aW:gL X.prog X.w H' s'.heap)(hg:AllBare s'.gens)
  (hch:∀b∈ch,(b∈X.ex\/X.s₀.heap.objs.size<=b)/\b≠X.env.locals/\(∀x c,X.env.cells.lookup x=some c->c≠b)/\∀p∈X.pn++pins,p.1≠b):Inv X pins σ H' s':=by
 obtain⟨h',g',d',t',o'⟩:=s';have e:o'=s.os:=ho;subst e;exact I.call (g':=g') (t':=t') (d':=d') u aW hg hch
end
abbrev XK:=Value->Option Addr->Hp->Prop
abbrev St:=List (Option V)
abbrev VK:=V->Hp->Prop
abbrev TE:=St->Hp->VK->Prop
abbrev TT:=St->Hp->(Bool->Hp->Prop)->Prop
abbrev TA:=St->Hp->(List V->Hp->Prop)->Prop
structure Ends where
 nx:St->Hp->Prop
 rt:VK
 bk:St->Hp->Prop:=λ_ _=>False
 ct:St->Hp->Prop:=λ_ _=>False
abbrev TS:=Ends->St->Hp->Prop
def EP(X:Cx)(pins:Lo)(σ:St)(Q:VK)(u:Value)(s':Shared):Prop:=∃v H',Inv X pins σ H' s'/\RelV v u/\Q v H'
def TP(X:Cx)(pins:Lo)(σ:St)(Q:Bool->Hp->Prop)(b:Bool)(s':Shared):Prop:=∃H',Inv X pins σ H' s'/\Q b H'
def AP(X:Cx)(pins:Lo)(σ:St)(Q:List V->Hp->Prop)(us:List Value)(s':Shared):Prop:=∃vs H',Inv X pins σ H' s'/\Vals vs us/\Q vs H'
def SP(X:Cx)(pins:Lo)(D:Ends)(f:Flow)(s':Shared):Prop:=
 match f with
 |.next=>∃σ' H',Inv X pins σ' H' s'/\D.nx σ' H'
 |.brk=>∃σ' H',Inv X pins σ' H' s'/\D.bk σ' H'
 |.cont=>∃σ' H',Inv X pins σ' H' s'/\D.ct σ' H'
 |.ret u=>∃v σ' H',Inv X pins σ' H' s'/\RelV v u/\D.rt v H'
def PE(X:Cx)(e:Expr)(t:TE):Prop:=
 ∀(pins:Lo) (s:Shared) (σ:St) (H:Hp) (Q:VK),Inv X pins σ H s->t σ H Q->wpAny (model X.prog X.w) X.A (eval e X.env) (EP X pins σ Q) X.xe s
def PT(X:Cx)(e:Expr)(t:TT):Prop:=
 ∀(pins:Lo) (s:Shared) (σ:St) (H:Hp) (Q:Bool->Hp->Prop),Inv X pins σ H s->t σ H Q->wpAny (model X.prog X.w) X.A (isTrue e X.env (eval e X.env)) (TP X pins σ Q) X.xe s
def PW(X:Cx)(e:Expr)(t:TT):Prop:=
 ∀(whole:Sem Value) (pins:Lo) (s:Shared) (σ:St) (H:Hp) (Q:Bool->Hp->Prop),Inv X pins σ H s->t σ H Q->wpAny (model X.prog X.w) X.A (isTrue e X.env whole) (TP X pins σ Q) X.xe s
theorem PW.pt(h:PW X e t):PT X e t:=h _
def PA(X:Cx)(es:List Expr)(t:TA):Prop:=
 ∀(pos:Pos) (pins:Lo) (s:Shared) (σ:St) (H:Hp) (Q:List V->Hp->Prop),Inv X pins σ H s->t σ H Q->wpAny (model X.prog X.w) X.A (spliced (backTo pos (starEach es X.env))) (AP X pins σ Q) X.xe s
def PS(X:Cx)(st:Stmt)(t:TS):Prop:=
 ∀(pins:Lo) (s:Shared) (σ:St) (H:Hp) (D:Ends),Inv X pins σ H s->t D σ H->wpAny (model X.prog X.w) X.A (exec st X.env) (SP X pins D) X.xe s
def vM(X:Cx)(st:List Stmt)(t:TS):Prop:=
 ∀(pins:Lo) (s:Shared) (σ:St) (H:Hp) (D:Ends),Inv X pins σ H s->t D σ H->wpAny (model X.prog X.w) X.A (execs st X.env) (SP X pins D) X.xe s
theorem bA{α:Type}{t:Sem α}{Q Q':α->Shared->Prop}{M:Model}{A:Around}{E:Vs}{s:Shared}(h:wpAny M A t Q E s)(hQ:∀a s,Q a s->Q' a s):wpAny M A t Q' E s:=pG h hQ λ_ _ x=>x
section
variable{X:Cx}
def Yl:List (Option V)->Nat->(V->Prop)->Prop
 |[],_,_=>False
 |o::_,0,Q=>match o with
  |some v=>Q v
  |none=>False
 |_::r,n+1,Q=>Yl r n Q
theorem IX:∀{σ:List (Option V)}{i:Nat}{Q:V->Prop},Yl σ i Q->∃v,σ[i]?=some (some v)/\Q v
 |some v::_,0,_,h=>⟨v,rfl,h⟩
 |_::r,n+1,_,h=>IX (σ:=r) (i:=n) h
def Hr(i:Nat):TE:=λσ H Q=>Yl σ i λv=>Q v H
def tC(v:V):TE:=λ_ H Q=>Q v H
theorem QJ{i:Nat}{x:Str}{pos:Pos}(hN:X.N[i]?=some x)(hv:WX X.env.scope x)(hd:(x == ("__debug__" : Str))=false:=by decide)(hcd:(x == ("__classdict__" : Str))=false:=by decide):PE X (.Name x pos) (Hr i):=by
 intro pins s σ H Q I h;obtain⟨v,e,h⟩:=IX h;obtain⟨m,hn,hl⟩:=I.loc;obtain⟨u,r,l⟩:=hl i x v hN e hv;have fin:EP X pins σ Q u s:=⟨v,H,I,r,h⟩
 rcases l with ⟨hk,hm⟩|⟨hk,c,hc,hcell⟩
 ·exact wpAny_Name (wpAny_loadName_local I.ok.kind hk hn hm fin) hd
 ·rcases hk with hk|hk
  ·exact wpAny_Name (wpAny_loadName_cell I.ok.kind hk hc hcell fin) hd
  ·exact wpAny_Name (wpAny_loadName_free I.ok.kind hk hc hcell fin hcd) hd
theorem af:PE X (.Constant (.int i) j pos) (tC (.int i)):=λ_ _ _ H _ I h=>wpAny_Constant_int ⟨.int i,H,I.tok _,⟨_,rfl⟩,h⟩
theorem dy:PE X (.Constant (.bool b) j pos) (tC (.bl b)):=λ_ _ _ H _ I h=>Constant_bool ⟨.bl b,H,I,rfl,h⟩
theorem fT:PE X (.Constant .none j pos) (tC .bh):=λ_ _ _ H _ I h=>Constant_none ⟨.bh,H,I,rfl,h⟩
theorem aF:PE X (.Constant (.str x) j pos) (tC (.str x)):=λ_ _ _ H _ I h=>Calls.Constant_str ⟨.str x,H,I.tok _,⟨_,rfl⟩,h⟩
def Gl(X:Cx)(x:Str):Prop:=X.env.kindOf x=some .globalImplicit
theorem xp{E:Vs}{pins:Lo}{s:Shared}{σ:St}{H:Hp}{x:Str}{u:Value}{pos:Pos}{Q:Vs}(I:Inv X pins σ H s)(hg:Gl X x)(hm:X.mg x=some u)(h:Q u s)
  (hd:(x == ("__debug__" : Str))=false:=by decide):wpAny (model X.prog X.w) X.A (eval (.Name x pos) X.env) Q E s:=
 Calls.Name_function_global I.ok.kind hg (Calls.loadGlobal_global (by rw[I.ok.glob];exact I.mod.glob.keeps I.bk) hm h) hd
theorem gq{E:Vs}{pins:Lo}{s:Shared}{σ:St}{H:Hp}{x:Str}{u:Value}{pos:Pos}{Q:Vs}(I:Inv X pins σ H s)(hg:Gl X x)(hm:X.mg x=none)(hv:bootBuiltins x=some u)(h:Q u s)
  (hn:x ≠ "__name__" := by decide) (hd:(x == ("__debug__" : Str))=false:=by decide):wpAny (model X.prog X.w) X.A (eval (.Name x pos) X.env) Q E s:=by
 obtain⟨mb,h1,h2⟩:=I.mod.blt;exact Calls.Name_function_global I.ok.kind hg (Calls.loadGlobal_builtin (by rw[I.ok.glob];exact I.mod.glob.keeps I.bk) hm (by rw[I.ok.blt];exact h1.keeps I.bk) ((h2 x hn).trans hv) h) hd
theorem A9(hg:Gl X x)(hm:X.mg x=some u)(r:RelV v u)(hd:(x == ("__debug__" : Str))=false:=by decide):PE X (.Name x pos) (tC v):=
 λ_ _ _ H _ I h=>xp I hg hm ⟨v,H,I,r,h⟩ hd
theorem dv{x:Str}{v:V}{u:Value}{pos:Pos}(hg:Gl X x)(hm:X.mg x=none)(hv:bootBuiltins x=some u)(r:RelV v u)(hn:x ≠ "__name__" := by decide)(hd:(x == ("__debug__" : Str))=false:=by decide):PE X (.Name x pos) (tC v):=
 λ_ _ _ H _ I h=>gq I hg hm hv ⟨v,H,I,r,h⟩ hn hd
variable{a b:Expr}{ta tb:TE}{pos:Pos}
def PC(X:Cx)(op:CmpOp)(a b:Expr)(t:TE):Prop:=
 ∀(pins:Lo) (s:Shared) (σ:St) (H:Hp) (Q:VK),Inv X pins σ H s->t σ H Q->
  wpAny (model X.prog X.w) X.A (eval a X.env) (λv s₁=>wpAny (model X.prog X.w) X.A (eval b X.env) (λu s₂=>wpAny (model X.prog X.w) X.A (compareOp op v u) (EP X pins σ Q) X.xe s₂) X.xe s₁) X.xe s
theorem FT(b:Expr){op:CmpOp}(h:op≠.In)(h2:op≠.NotIn):behindInMarks op b=false:=by
 have e1:(op == CmpOp.In)=false:=by cases op<;>first|rfl|exact absurd rfl h
 have e2:(op == CmpOp.NotIn)=false:=by cases op<;>first|rfl|exact absurd rfl h2
 cases b<;>simp[behindInMarks,e1,e2]
def tB(t:TE):TT:=λσ H Q=>t σ H λx H1=>∃c,x=.bl c/\Q c H1
theorem gc(h:PC X op a b t)(h1:behindInMarks op b=false:=by first|exact FT _ (by decide) (by decide)|rfl):PT X (.Compare a [op] [b] pos) (tB t):=by
 intro pins s σ H Q I hw;refine wpAny_isTrue_Compare1 (bA (h pins s σ H _ I hw) λv s1 h1=>bA h1 λu s2 h2=>bA h2 λc s3 ⟨x,H1,I1,r1,q1⟩=>?_) h1;obtain⟨d,rfl,q⟩:=q1;cases r1;exact Rf ⟨H1,I1,q⟩
theorem bU(h:PE X e t)(he:∀whole,isTrue e X.env whole=(do let v <-whole;standAt e.pos;holding [v] (truthy v)):=by intro _;rfl):PT X e (tB t):=by
 intro pins s σ H Q I hw;refine isTrue_plain (bA (h pins s σ H _ I hw) λv s1 ⟨x,H1,I1,r1,q1⟩=>?_) (he _);obtain⟨d,rfl,q⟩:=q1;cases r1;exact Rf ⟨H1,I1,q⟩
variable{tA tB':TT}{rest:List Expr}
def XX(t u:TT):TT:=λσ H Q=>t σ H λc H1=>if c=true then u σ H1 Q else Q false H1
def ZO(t u:TT):TT:=λσ H Q=>t σ H λc H1=>if c=true then Q true H1 else u σ H1 Q
def W3(t:TT):TT:=λσ H Q=>t σ H λc H1=>Q (!c) H1
theorem iE(ha:PT X a tA):PW X (.BoolOp .And [a] pos) tA:=by
 intro wh pins s σ H Q I h;refine isTrue_and (bA (ha pins s σ H Q I h) λc s1 e=>?_);cases c with
 |true=>exact isTrue_and_nil e
 |false=>exact e
theorem eV(ha:PT X a tA):PW X (.BoolOp .Or [a] pos) tA:=by
 intro wh pins s σ H Q I h;refine isTrue_or (bA (ha pins s σ H Q I h) λc s1 e=>?_);cases c with
 |false=>exact isTrue_or_nil e
 |true=>exact e
theorem iW(ha:PT X a tA)(hb:PW X (.BoolOp .And (b::rest) pos) tB'):PW X (.BoolOp .And (a::b::rest) pos) (XX tA tB'):=by
 intro wh pins s σ H Q I h;refine isTrue_and (bA (ha pins s σ H _ I h) λc s1 ⟨H1,I1,q1⟩=>?_);cases c with
 |true=>exact hb wh pins s1 σ H1 Q I1 q1
 |false=>exact⟨H1,I1,q1⟩
theorem fV(ha:PT X a tA)(hb:PW X (.BoolOp .Or (b::rest) pos) tB'):PW X (.BoolOp .Or (a::b::rest) pos) (ZO tA tB'):=by
 intro wh pins s σ H Q I h;refine isTrue_or (bA (ha pins s σ H _ I h) λc s1 ⟨H1,I1,q1⟩=>?_);cases c with
 |true=>exact⟨H1,I1,q1⟩
 |false=>exact hb wh pins s1 σ H1 Q I1 q1
theorem de(ha:PT X a tA):PT X (.UnaryOp .Not a pos) (W3 tA):=by
 intro pins s σ H Q I h;exact isTrue_not (ha pins s σ H (λc H1=>Q (!c) H1) I h)
def U1(ta tb:TE):TE:=λσ H Q=>ta σ H λx H1=>∃c,x=.bl c/\if c=true then tb σ H1 Q else Q (.bl false) H1
def ZD(ta tb:TE):TE:=λσ H Q=>ta σ H λx H1=>∃c,x=.bl c/\if c=true then Q (.bl true) H1 else tb σ H1 Q
def Vg(ta:TE):TE:=λσ H Q=>ta σ H λx H1=>∃c,x=.bl c/\Q (.bl (!c)) H1
theorem i4(h:PE X a t):PE X (.BoolOp op [a] pos) t:=λpins s σ H Q I hw=>BoolOp_one (h pins s σ H Q I hw)
theorem gm(ha:PE X a ta)(hb:PE X (.BoolOp .And (b::rest) pos) tb):PE X (.BoolOp .And (a::b::rest) pos) (U1 ta tb):=by
 intro pins s σ H Q I h;refine BoolOp_and (bA (ha pins s σ H _ I h) λv s1 ⟨x,H1,I1,r1,q1⟩=>?_);obtain⟨c,rfl,q1⟩:=q1;cases r1;refine Rf ?_;cases c with
 |true=>exact hb pins s1 σ H1 Q I1 q1
 |false=>exact⟨.bl false,H1,I1,rfl,q1⟩
theorem Qq(ha:PE X a ta):PE X (.UnaryOp .Not a pos) (Vg ta):=by
 intro pins s σ H Q I h;refine UnaryOp_ (bA (ha pins s σ H _ I h) λv s1 ⟨x,H1,I1,r1,q1⟩=>?_);obtain⟨c,rfl,q1⟩:=q1;cases r1;exact not_of (Rf ⟨.bl (!c),H1,I1,rfl,q1⟩)
def ZV(t:TT)(ta tb:TE):TE:=λσ H Q=>t σ H λc H1=>if c=true then ta σ H1 Q else tb σ H1 Q
theorem yB(hc:PT X c tA)(ha:PE X a ta)(hb:PE X b tb):PE X (.IfExp c a b pos) (ZV tA ta tb):=by
 intro pins s σ H Q I h;refine wpAny_IfExp (bA (hc pins s σ H _ I h) λd s1 ⟨H1,I1,q1⟩=>?_);cases d with
 |true=>exact ha pins s1 σ H1 Q I1 q1
 |false=>exact hb pins s1 σ H1 Q I1 q1
end
def aA(K:Wf)(H:Hp)(a:Addr)(xs:List V):Prop:=
 Rd H a (.lst xs) \/
  ∃(o:Obj) (its:Array Value) (n:Nat),K.lookup a=some o/\o.cls=.type "list" /\ o.dict=none/\o.data=.seq its n/\its.size<=sizeLine/\Vals xs its.toList
def aS(K:Wf)(H:Hp)(a:Addr)(xs:List V):Prop:=
 Rd H a (.tup xs) \/
  ∃(o:Obj) (its:Array Value) (n:Nat),K.lookup a=some o/\o.cls=.type "tuple" /\ o.data=.seq its n/\its.size<=sizeLine/\Vals xs its.toList
def W5:Value->Option V
 |.none=>some .bh
 |.bool b=>some (.bl b)
 |.int i _=>some (.int i)
 |.str x _=>some (.str x)
 |.bytes b _=>some (.yX b)
 |.float b _=>some (.Qa b)
 |.ref a=>some (.ref a)
 |.type n=>some (.ty n)
 |_=>none
theorem RelV.abs(r:RelV x u):W5 u=some x:=by
 cases x with
 |bh=>cases r;rfl
 |bl _=>cases r;rfl
 |int _=>obtain⟨t,rfl⟩:=r;rfl
 |str _=>obtain⟨t,rfl⟩:=r;rfl
 |yX _=>obtain⟨t,rfl⟩:=r;rfl
 |Qa _=>obtain⟨t,rfl⟩:=r;rfl
 |ref _=>cases r;rfl
 |ty _=>cases r;rfl
theorem RelV.inj{x y:V}{u:Value}(r:RelV x u)(q:RelV y u):x=y:=Option.some.inj (r.abs.symm.trans q.abs)
theorem Vals.inj:∀{xs ys:List V}{us:List Value},Vals xs us->Vals ys us->xs=ys
 |_,_,_,.nil,.nil=>rfl
 |_,_,_,.cons r t,.cons r' t'=>by rw[r.inj r',Vals.inj t t']
section
variable{X:Cx}{pins:Lo}{σ:St}{H:Hp}{s:Shared}{a:Addr}{xs ys:List V}
theorem aA.of{K:Wf}(h:H a=some (.lst xs)):aA K H a xs:=.inl (.inl h)
theorem aS.of{K:Wf}(h:H a=some (.tup xs)):aS K H a xs:=.inl (.inl h)
theorem Inv.list(I:Inv X pins σ H s)(h:aA X.K H a xs):∃its:List Value,Vals xs its/\PlainL s.heap a its.toArray/\xs.length<=sizeLine:=by
 rcases h with h|⟨o,its,n,hk,hc,hd,hs,hz,r⟩
 ·obtain⟨z,its,n,r,e⟩:=h.ok I.aW;exact⟨its,r,⟨_,n,e,rfl,rfl,rfl⟩,z⟩
 ·refine⟨its.toList,r,⟨o,n,I.i8 a o hk,hc,hd,by simpa using hs⟩,?_⟩;have e:=r.length;simp only[Array.length_toList]at e;omega
theorem Inv.tuple(I:Inv X pins σ H s)(h:aS X.K H a xs):∃its:List Value,Vals xs its/\IsTup s.heap a its.toArray/\xs.length<=sizeLine:=by
 rcases h with h|⟨o,its,n,hk,hc,hs,hz,r⟩
 ·obtain⟨z,its,r,p⟩:=h.ok I.aW;exact⟨its,r,p,z⟩
 ·refine⟨its.toList,r,⟨o,I.i8 a o hk,hc,n,by simpa using hs⟩,?_⟩;have e:=r.length;simp only[Array.length_toList]at e;omega
theorem Inv.fi(I:Inv X pins σ H s)(h:aA X.K H a xs)(h':aA X.K H a ys):xs=ys:=by
 obtain⟨its,r,⟨o,n,e,_,_,d⟩,_⟩:=I.list h;obtain⟨its',r',⟨o',n',e',_,_,d'⟩,_⟩:=I.list h';rw[e]at e';cases e';rw[d]at d';injection d' with d1 _;have:its=its':=by simpa using congrArg Array.toList d1
 subst this;exact r.inj r'
theorem Inv.iZ(I:Inv X pins σ H s)(h:aS X.K H a xs)(h':aS X.K H a ys):xs=ys:=by
 obtain⟨its,r,⟨o,e,_,n,d⟩,_⟩:=I.tuple h;obtain⟨its',r',⟨o',e',_,n',d'⟩,_⟩:=I.tuple h';rw[e]at e';cases e';rw[d]at d';injection d' with d1 _;have:its=its':=by simpa using congrArg Array.toList d1
 subst this;exact r.inj r'
end
abbrev Cx.lS(X:Cx)(E:Vs):Cx:={ X with xe:=E }
abbrev Cx.Rr(X:Cx):Cx:=X.lS λ_ _=>False
theorem Cx.Ok.lS{X:Cx}(ok:X.Ok)(E:Vs):(X.lS E).Ok:=
 ⟨ok.mod,ok.kind,ok.glob,ok.blt,ok.above,ok.inj,ok.has,ok.Q0,ok.hd,ok.frames,ok.Ol,ok.TR,ok.bs,ok.EU,ok.Di,ok.zt,ok.ir,ok.LZ⟩
theorem Cx.Ok.gp{X:Cx}{E:Vs}(ok:(X.lS E).Ok):X.Ok:=
 ⟨ok.mod,ok.kind,ok.glob,ok.blt,ok.above,ok.inj,ok.has,ok.Q0,ok.hd,ok.frames,ok.Ol,ok.TR,ok.bs,ok.EU,ok.Di,ok.zt,ok.ir,ok.LZ⟩
section
variable{X:Cx}{pins:Lo}{σ:St}{H:Hp}{s:Shared}{E:Vs}
theorem Inv.lS(I:Inv X pins σ H s)(E:Vs):Inv (X.lS E) pins σ H s:=⟨I.ok.lS E,I.os,I.bare,I.base,I.loc,I.cell,I.free,I.gz,I.pin,I.aW,I.len⟩
theorem Inv.gp(I:Inv (X.lS E) pins σ H s):Inv X pins σ H s:=⟨I.ok.gp,I.os,I.bare,I.base,I.loc,I.cell,I.free,I.gz,I.pin,I.aW,I.len⟩
theorem SP.gp{D:Ends}{f:Flow}{s':Shared}(h:SP (X.lS E) pins D f s'):SP X pins D f s':=by
 cases f with
 |next=>obtain⟨σ',H',I,q⟩:=h;exact⟨σ',H',I.gp,q⟩
 |brk=>obtain⟨σ',H',I,q⟩:=h;exact⟨σ',H',I.gp,q⟩
 |cont=>obtain⟨σ',H',I,q⟩:=h;exact⟨σ',H',I.gp,q⟩
 |ret u=>obtain⟨v,σ',H',I,r,q⟩:=h;exact⟨v,σ',H',I.gp,r,q⟩
theorem vM.Rr{st:List Stmt}{t:TS}(h:vM X.Rr st t):vM X st t:=λpins s σ H D I hw=>
 pG (h pins s σ H D (I.lS _) hw) (λ_ _ q=>q.gp) λ_ _ z=>False.elim z
end
section
variable{X:Cx}{st:Stmt}{rest:List Stmt}{t u:TS}{e:Expr}{te:TE}{pos:Pos}
def TB:TS:=λD σ H=>D.nx σ H
def W7(t u:TS):TS:=λD σ H=>t { D with nx:=u D } σ H
theorem eL:vM X [] TB:=λ_ _ σ H _ I h=>wpAny_execs_nil ⟨σ,H,I,h⟩
theorem aJ(h1:PS X st t)(h2:vM X rest u):vM X (st::rest) (W7 t u):=by
 intro pins s σ H D I h;refine wpAny_execs_cons (bA (h1 pins s σ H { D with nx:=u D } I h) λf s1 q=>?_);cases f with
 |next=>
  obtain⟨σ',H',I',q⟩:=q;exact h2 pins s1 σ' H' D I' q
 |ret v=>exact q
 |brk=>exact q
 |cont=>exact q
theorem aX(h1:PS X st t):vM X [st] t:=by
 intro pins s σ H D I h;refine wpAny_execs_cons (bA (h1 pins s σ H D I h) λf s1 q=>?_);cases f with
 |next=>exact wpAny_execs_nil q
 |ret v=>exact q
 |brk=>exact q
 |cont=>exact q
theorem Inv.quiet{pins:Lo}{σ:St}{H:Hp}{s:Shared}(I:Inv X pins σ H s):interactive X.env=false:=by simp[interactive,I.ok.kind]
def TL(te:TE):TS:=λD σ H=>te σ H λ_ H1=>D.nx σ H1
theorem dh(he:PE X e te)(hs:swapsWith e none pos.line X.env=pure false:=by rfl):PS X (.Expr e pos) (TL te):=by
 intro pins s σ H D I h;exact wpAny_Expr_any (bA (he pins s σ H _ I h) λv s1 ⟨x,H1,I1,r1,q1⟩=>⟨σ,H1,I1,q1⟩) I.quiet hs
def Xo(te:TE):TS:=λD σ H=>te σ H D.rt
theorem ay(he:PE X e te):PS X (.Return (some e) pos) (Xo te):=by
 intro pins s σ H D I h;exact wpAny_Return_some (bA (he pins s σ H _ I h) λv s1 ⟨x,H1,I1,r1,q1⟩=>⟨x,σ,H1,I1,r1,q1⟩)
def Sz:TS:=λD _ H=>D.rt .bh H
theorem v5:PS X (.Return none pos) Sz:=λ_ _ σ H _ I h=>wpAny_Return_none ⟨.bh,σ,H,I,rfl,h⟩
def U6(c:TT)(t u:TS):TS:=λD σ H=>c σ H λb H1=>if b=true then t D σ H1 else u D σ H1
theorem aO(hc:PT X c tc)(ha:vM X a t)(hb:vM X b u):PS X (.If c a b pos) (U6 tc t u):=by
 intro pins s σ H D I h;refine wpAny_If (bA (hc pins s σ H _ I h) λd s1 ⟨H1,I1,q1⟩=>?_);cases d with
 |true=>exact ha pins s1 σ H1 D I1 q1
 |false=>exact hb pins s1 σ H1 D I1 q1
def P8:TS:=λ_ _ _=>False
theorem cB:PS X st P8:=λ_ _ _ _ _ _ h=>h.elim
end
abbrev TG:=V->St->Hp->(St->Hp->Prop)->Prop
abbrev PY:=List V->St->Hp->(St->Hp->Prop)->Prop
def PG(X:Cx)(target:Expr)(t:TG):Prop:=
 ∀(pins:Lo) (s:Shared) (σ:St) (H:Hp) (v:V) (u:Value) (Q:St->Hp->Prop),Inv X pins σ H s->RelV v u->t v σ H Q->
  wpAny (model X.prog X.w) X.A (assign target X.env u) (λ_ s'=>∃σ' H',Inv X pins σ' H' s'/\Q σ' H') X.xe s
def Sk(X:Cx)(ts:List Expr)(t:PY):Prop:=
 ∀(pins:Lo) (s:Shared) (σ:St) (H:Hp) (vs:List V) (us:List Value) (Q:St->Hp->Prop),Inv X pins σ H s->Vals vs us->t vs σ H Q->
  wpAny (model X.prog X.w) X.A (assignInOrder ((assignEach ts X.env).map (·.2)) us) (λ_ s'=>∃σ' H',Inv X pins σ' H' s'/\Q σ' H') X.xe s
abbrev Ue:=V->V->V->Hp->(Hp->Prop)->Prop
def S7(X:Cx)(t:Ue):Prop:=
 ∀(pins:Lo) (s:Shared) (σ:St) (H:Hp) (o i v:V) (ov iv u:Value) (Q:Hp->Prop),Inv X pins σ H s->RelV o ov->RelV i iv->RelV v u->t o i v H Q->
  wpAny (model X.prog X.w) X.A (setItem ov iv u) (λ_ s'=>∃H',Inv X pins σ H' s'/\Q H') X.xe s
abbrev Yb:=V->V->Hp->VK->Prop
def Yv(X:Cx)(op:Operator)(t:Yb):Prop:=
 ∀(pins:Lo) (s:Shared) (σ:St) (H:Hp) (x y:V) (v u:Value) (Q:VK),Inv X pins σ H s->RelV x v->RelV y u->t x y H Q->
  wpAny (model X.prog X.w) X.A (inplaceOp op v u) (EP X pins σ Q) X.xe s
section
variable{X:Cx}{pos:Pos}
def mr(i:Nat):TG:=λv σ H Q=>Q (σ.set i (some v)) H
theorem M5(hN:X.N.Nodup)(hi:X.N[i]?=some x)(hx:Loc X.env.scope x)(hf:X.fn x=true\/X.env.scope.names.lookup x=some .local:=by first|exact .inl rfl|exact .inr rfl|assumption):PG X (.Name x pos) (mr i):=by
 intro pins s σ H v u Q I r h;exact wpAny_assign_Name (ie I hN hi hx r (λs' I'=>⟨_,H,I',h⟩) hf)
def Xh:PY:=λvs σ H Q=>vs=[]/\Q σ H
def T_(t:TG)(u:PY):PY:=λvs σ H Q=>∃v r,vs=v::r/\t v σ H λσ' H'=>u r σ' H' Q
theorem bY:Sk X [] Xh:=by
 intro pins s σ H vs us Q I r h;obtain⟨e,h⟩:=h;subst e;cases r;exact assignInOrder_nil ⟨σ,H,I,h⟩
theorem dC(h1:PG X e t)(h2:Sk X es u)
  (hs:(assignEach (e::es) X.env).map (·.2)=assign e X.env::(assignEach es X.env).map (·.2):=by rfl):Sk X (e::es) (T_ t u):=by
 intro pins s σ H vs us Q I r h;obtain⟨v,vr,e1,h⟩:=h;subst e1;cases r with
 |cons r rr=>
  rw[hs];refine assignInOrder_cons (bA (h1 pins s σ H _ _ _ I r h) λ_ s1 ⟨σ1,H1,I1,q1⟩=>?_);exact h2 pins s1 σ1 H1 _ _ Q I1 rr q1
def Ti(K:Wf)(n:Nat)(t:PY):TG:=λv σ H Q=>∃a xs,v=.ref a/\aS K H a xs/\xs.length=n/\t xs σ H Q
theorem QQ{es:List Expr}{k:Nat}{t:PY}{n:Nat}(hc:X.calm=true)(h:Sk X es t)
  (hn:(assignEach es X.env).length=n:=by rfl) (hst:(assignEach es X.env).findIdx? (·.1)=none:=by rfl):PG X (.Tuple es k pos) (Ti X.K n t):=by
 intro pins s σ H v u Q I r hw;obtain⟨a,xs,e1,hq,hl,hw⟩:=hw;subst e1;cases r;obtain⟨its,rv,ht,hz⟩:=I.tuple hq;refine assign_Tuple_tuple (I.ok.hd hc) ht (by simp[hn,<-hl,rv.length]) hst λh' hx=>?_;have I1:Inv X pins σ H { s with heap:=h' }:=I.kept (t':=s.toks) λb o e=>hx b o (gI (cY e)) e;exact h pins _ σ H xs _ Q I1 (by simpa using rv) hw
def XM(to ti:TE)(t:Ue):TG:=λv σ H Q=>to σ H λo H1=>ti σ H1 λi H2=>t o i v H2 λH3=>Q σ H3
theorem zE(ho:PE X o to)(hi:PE X i ti)(hs:S7 X t)
  (ha:∀v,assign (.Subscript o i pos) X.env v=(do
   let ov <-holding [v] (eval o X.env)
   let iv <-holding [v,ov] (eval i X.env)
   standAt pos
   holding [v,ov,iv] (setItem ov iv v)
   release [v,ov,iv] []):=by intro _;rfl):PG X (.Subscript o i pos) (XM to ti t):=by
 intro pins s σ H v u Q I r h;rw[ha];refine aC (D_ (bA (ho pins s σ H _ I h) λov s1 ⟨x,H1,I1,r1,q1⟩=>?_));refine aC (D_ (bA (hi pins s1 σ H1 _ I1 q1) λiv s2 ⟨y,H2,I2,r2,q2⟩=>?_));refine aC (wpAny_standAt (aC (D_ (bA (hs pins s2 σ H2 x y v ov iv u _ I2 r1 r2 r q2) λ_ s3 ⟨H3,I3,q3⟩=>?_))));exact wpAny_release ⟨σ,H3,I3,q3⟩
def MR(te:TE)(g:TG):TS:=λD σ H=>te σ H λx H1=>g x σ H1 D.nx
theorem kq(he:PE X e te)(hg:PG X tg g)(hs:swapsWithSole [tg] e pos.line X.env=pure false:=by rfl)(hw:swappedStores [tg] e X.env=pure none:=by rfl)
  (h1:(assignEach [tg] X.env).map (·.2)=[assign tg X.env]:=by rfl):PS X (.Assign [tg] e pos) (MR te g):=by
 intro pins s σ H D I h;refine wpAny_Assign_stores (bA (he pins s σ H _ I h) λv s1 ⟨x,H1,I1,r1,q1⟩=>?_) hs hw;rw[h1];exact bA (hg pins s1 σ H1 x v _ I1 r1 q1) λ_ s2 q=>q
theorem Px(hN:X.N.Nodup)(hi:X.N[i]?=some x)(hx:Loc X.env.scope x)(he:PE X e te)(hs:swapsWith e (some (.Name x pos')) pos.line X.env=pure false:=by rfl)(hf:X.fn x=true\/X.env.scope.names.lookup x=some .local:=by first|exact .inl rfl|exact .inr rfl|assumption):
  PS X (.Assign [.Name x pos'] e pos) (MR te (mr i)):=by
 intro pins s σ H D I h;refine wpAny_Assign_Name (bA (he pins s σ H _ I h) λv s1 ⟨y,H1,I1,r1,q1⟩=>?_) hs;exact ie I1 hN hi hx r1 (λs2 I2=>⟨_,H1,I2,q1⟩) hf
def X0(i:Nat)(te:TE)(ti:Yb):TS:=λD σ H=>∃x,σ[i]?=some (some x)/\te σ H λy H1=>ti x y H1 λz H2=>D.nx (σ.set i (some z)) H2
theorem OD(hN:X.N.Nodup)(hi:X.N[i]?=some x)(hx:Loc X.env.scope x)(he:PE X e te)(ho:Yv X op ti)(hf:X.fn x=true\/X.env.scope.names.lookup x=some .local:=by first|exact .inl rfl|exact .inr rfl|assumption):
  PS X (.AugAssign (.Name x pos') op e pos) (X0 i te ti):=by
 intro pins s σ H D I h;obtain⟨v,e1,h⟩:=h;obtain⟨m,hn,hl⟩:=I.loc;have vis:WX X.env.scope x:=by rcases hx with k|k;exact .inl k;exact .inr (.inl k)
 obtain⟨u,r,l⟩:=hl i x v hi e1 vis;refine wpAny_AugAssign_Name ?_;have go:wpAny (model X.prog X.w) X.A (eval e X.env) (λw s₂=>wpAny (model X.prog X.w) X.A (inplaceOp op u w) (λr s₃=>wpAny (model X.prog X.w) X.A (storeName X.env x r) (λ_=>SP X pins D .next) X.xe s₃) X.xe s₂) X.xe s:=by
  refine bA (he pins s σ H _ I h) λw s1 ⟨y,H1,I1,r1,q1⟩=>?_;refine bA (ho pins s1 σ H1 v y u w _ I1 r r1 q1) λz s2 ⟨zv,H2,I2,r2,q2⟩=>?_;exact ie I2 hN hi hx r2 (λs3 I3=>⟨_,H2,I3,q2⟩) hf
 rcases l with ⟨hk,hm⟩|⟨hk,c,hc,hcell⟩
 ·exact wpAny_loadName_local I.ok.kind hk hn hm go
 ·rcases hk with hk|hk
  ·exact wpAny_loadName_cell I.ok.kind hk hc hcell go
  ·rcases hx with k|k
   ·have:X.env.scope.names.lookup x=some .free:=hk;rw[k]at this;cases this
   ·have:X.env.scope.names.lookup x=some .free:=hk;rw[k]at this;cases this
def ZQ(f:Int->Int->Int):Yb:=λx y H Q=>∃i j,x=.int i/\y=.int j/\Q (.int (f i j)) H
theorem Qe:Yv X .Add (ZQ λi j=>i+j):=by
 intro pins s σ H x y v u Q I r1 r2 h;obtain⟨i,j,e1,e2,q⟩:=h;subst e1;subst e2;obtain⟨t,rfl⟩:=r1;obtain⟨t',rfl⟩:=r2;exact iadd_int ⟨.int _,H,I.tok _,⟨_,rfl⟩,q⟩
end
section
variable{X:Cx}{pos:Pos}
def QD(c:TT)(tb:TS):TS:=λD σ H=>∃W:Nat->St->Hp->Prop,(∃m,W m σ H)/\∀m σ H,W m σ H->
 c σ H λb H1=>if b=true then ∃N:St->Hp->Prop,(∀σ' H',N σ' H'->∃m',m'<m/\W m' σ' H')/\tb { D with nx:=N,ct:=N,bk:=D.nx } σ H1 else D.nx σ H1
theorem IZ(hp:PassesOwn (model X.prog X.w) X.A X.env X.xe)(hc:PT X c tc)(hb:vM X body tb):PS X (.While c body [] pos) (QD tc tb):=by
 intro pins s σ H D I h;obtain⟨W,⟨m0,w0⟩,turn⟩:=h;refine wpAny_While (codeAny_whileLoop (λn s'=>∃σ' H',Inv X pins σ' H' s'/\W n σ' H') ?_ m0 ⟨σ,H,I,w0⟩);rintro n s1 ⟨σ1,H1,I1,w1⟩;refine QW hp (bA (hc pins s1 σ1 H1 _ I1 (turn n σ1 H1 w1)) λb s2 ⟨H2,I2,q2⟩=>?_);cases b with
 |true=>
  obtain⟨N,hN,q2⟩:=q2;rw[if_pos rfl];refine QW hp (bA (hb pins s2 σ1 H2 _ I2 q2) λf s3 q3=>?_);cases f with
  |next=>
   obtain⟨σ3,H3,I3,n3⟩:=q3;obtain⟨m',hm,w3⟩:=hN σ3 H3 n3;exact⟨m',hm,σ3,H3,I3,w3⟩
  |cont=>
   obtain⟨σ3,H3,I3,n3⟩:=q3;obtain⟨m',hm,w3⟩:=hN σ3 H3 n3;exact⟨m',hm,σ3,H3,I3,w3⟩
  |brk=>exact q3
  |ret v=>exact q3
 |false=>
  rw[if_neg lE];exact wpAny_execs_nil ⟨σ1,H2,I2,q2⟩
end
structure It where
 go:Nat->Hp->Prop
 DY:Nat->Hp->V->Hp->Prop
 stop:Nat->Hp->Prop
def eT(X:Cx)(pins:Lo)(H:Hp)(b:Addr):Prop:=
 H b=none/\b≠X.env.locals/\b∉X.fs/\(b∈X.ex\/X.s₀.heap.objs.size<=b)/\(∀x c,X.env.cells.lookup x=some c->c≠b)/\∀p∈X.pn++pins,p.1≠b
theorem Inv.qd{X:Cx}{pins:Lo}{σ:St}{H H':Hp}{s:Shared}{b:Addr}(I:Inv X pins σ H s)(hb:s.heap.objs.size<=b)(hn:H' b=none):eT X pins H' b:=by
 refine⟨hn,Nat.ne_of_gt (jF I.lt hb),I.UJ hb,.inr (jt I.sz hb),λx c e z=>?_,λp hp z=>?_⟩
 ·obtain⟨v,q⟩:=I.cell x c e;exact absurd (jF q.lt (by rw[z];exact hb)) (xv _)
 ·exact absurd (jF (cY (I.pin p hp).1) (by rw[z];exact hb)) (xv _)
structure Turn(P:Program)(w:World)(K:Wf)(tg:Expr)(J:It)(fp:List Addr)(it:Addr)(tn:Nat->Heap->Prop):Prop where
 mem:it∈fp
 obj:∀i h,tn i h->∀b∈fp,∃o,h.get? b=some o/\∀v,o.data≠.cell v
 keep:∀i h h',tn i h->(∀b∈fp,∀o,h.get? b=some o->h'.get? b=some o)->tn i h'
 item:∀(X:Cx),X.prog=P->X.w=w->X.K=K->X.calm=true->∀(i:Nat) (pins:Lo) (s:Shared) (σ:St) (H:Hp) (E:Vs),Inv X pins σ H s->(∀b∈fp,eT X pins H b)->tn i s.heap->J.go i H->
  wpAny (model P w) X.A (pyNext (.ref it)) (λr s1=>∃u,r=some u/\
   wpAny (model P w) X.A (letOwnedTupleGo tg (.ref it) u) (λ_ s2=>∃x H',Inv X pins σ H' s2/\RelV x u/\J.DY i H x H'/\tn (i+1) s2.heap/\∀b∈fp,H' b=none) E s1) E s
 done:∀(X:Cx),X.prog=P->X.w=w->X.K=K->X.calm=true->∀(i:Nat) (pins:Lo) (s:Shared) (σ:St) (H:Hp) (E:Vs),Inv X pins σ H s->(∀b∈fp,eT X pins H b)->tn i s.heap->J.stop i H->
  wpAny (model P w) X.A (pyNext (.ref it)) (λr s1=>r=none/\Inv X pins σ H s1) E s
 self:∀(A:Around) (i:Nat) (s:Shared) (Q:Vs) (E:Vs),tn i s.heap->Q (.ref it) s->wpAny (model P w) A (pyIter (.ref it)) Q E s
abbrev TI:=St->Hp->(It->Hp->Prop)->Prop
def YT(X:Cx)(pins:Lo)(σ:St)(tg:Expr)(R:It->Hp->Prop)(itv:Value)(s2:Shared):Prop:=
 ∃(it:Addr) (fp:List Addr) (tn:Nat->Heap->Prop) (J:It) (H':Hp),itv=.ref it/\Inv X pins σ H' s2/\Turn X.prog X.w X.K tg J fp it tn/\tn 0 s2.heap/\(∀b∈fp,eT X pins H' b)/\R J H'
def PI(X:Cx)(tg iter:Expr)(wi:TI):Prop:=
 ∀(pins:Lo) (s:Shared) (σ:St) (H:Hp) (R:It->Hp->Prop),Inv X pins σ H s->wi σ H R->
  wpAny (model X.prog X.w) X.A (eval iter X.env) (λv s1=>wpAny (model X.prog X.w) X.A (pyIter v) (YT X pins σ tg R) X.xe s1) X.xe s
theorem xV{M:Model}{A:Around}{E:Vs}{s:Shared}{tg:Expr}{it:Addr}{u:Value}{o:Obj}{n:String}{vs:Array Value}{Q:Unit->Shared->Prop}(ho:s.heap.get? it=some o)(hc:o.cls=.type n)(hd:o.data=.fields vs)
  (hn:["enumerate", "zip", "dict_itemiterator", "dict_reverseitemiterator", "odict_iterator", "itertools.zip_longest", "itertools.pairwise"].contains n=false) (hQ:Q () s):wpAny M A (letOwnedTupleGo tg (.ref it) u) Q E s:=by
 unfold letOwnedTupleGo;cases tg<;>first
  |exact bB hQ
  | (cases u<;>first
    |exact bB hQ
    | (refine aC (wpAny_load ho ?_)
       rw[hc,hd];show wpAny M A (if (["enumerate", "zip", "dict_itemiterator", "dict_reverseitemiterator", "odict_iterator", "itertools.zip_longest", "itertools.pairwise"].contains n&&vs[0]? == some (rawInt _))=true then _ else _) Q E s;rw[if_neg (by intro h;rw[hn,Bool.false_and]at h;cases h)];exact bB hQ))
def JH(K:Wf)(a:Addr):It:=
 ⟨λi H=>∃xs x,aA K H a xs/\xs[i]?=some x,λi H x H'=>H'=H/\∀xs,aA K H a xs->xs[i]?=some x,λi H=>∃xs,aA K H a xs/\xs.length<=i⟩
def Ql(K:Wf)(a:Addr):It:=
 ⟨λi H=>∃xs x,aS K H a xs/\xs[i]?=some x,λi H x H'=>H'=H/\∀xs,aS K H a xs->xs[i]?=some x,λi H=>∃xs,aS K H a xs/\xs.length<=i⟩
def D5(lo:Int)(n:Nat):It:=⟨λi _=>i<n,λi H x H'=>H'=H/\x=.int (lo+i),λi _=>n<=i⟩
theorem DB{P:Program}{w:World}{K:Wf}{tg:Expr}(a it:Addr):Turn P w K tg (JH K a) [it] it (λi h=>h.IsListIter it a i) where
 mem:=by simp
 obj:=λi h st b hb=>by
  have e:b=it:=by simpa using hb
  subst e;obtain⟨o,e,c,d⟩:=st;exact⟨o,e,λv z=>by rw[d]at z;cases z⟩
 keep:=λi h h' st k=>st.at λo e=>k it (by simp) o e
 item:=by
  intro X hP hw hK hc i pins s σ H E I hf st hg;subst hP hw hK;obtain⟨xs,x,hq,hx⟩:=hg;obtain⟨its,rv,p,hz⟩:=I.list hq;obtain⟨u,hu,ru⟩:=rv.get hx;obtain⟨f0,f1,f2,f3,f4,f5⟩:=hf it (by simp);refine wpAny_pyNext_list_item st p.isList (x:=u) (by simpa using hu) λh' st' sb=>?_;have I1:Inv X pins σ H { s with heap:=h' }:=I.turned (t':=s.toks) (λb o hb e=>(sb.2 b hb).trans e) f0 f1 f3 f4 f5;obtain⟨o,e,c,d⟩:=id st';exact⟨u,rfl,xV (s:={ s with heap:=h' }) e c d (by decide) ⟨x,H,I1,ru,⟨rfl,λys hy=>by rw[I.fi hy hq];exact hx⟩,st',λb hb=>(hf b hb).1⟩⟩
 done:=by
  intro X hP hw hK hc i pins s σ H E I hf st hg;subst hP hw hK;obtain⟨xs,hq,hx⟩:=hg;obtain⟨its,rv,p,hz⟩:=I.list hq;obtain⟨f0,f1,f2,f3,f4,f5⟩:=hf it (by simp);have hl:=rv.length;exact wpAny_pyNext_list_end (I.ok.hd hc) st p.isList (by simp;omega) λh' eb=>⟨rfl,I.turned (t':=s.toks) (λb o hb e=>eb b o hb e) f0 f1 f3 f4 f5⟩
 self:=λ_ _ _ _ _ st h=>wpAny_pyIter_listiter st h
theorem zk{P:Program}{w:World}{K:Wf}{tg:Expr}(a it:Addr):Turn P w K tg (Ql K a) [it] it (λi h=>h.IsTupleIter it a i) where
 mem:=by simp
 obj:=λi h st b hb=>by
  have e:b=it:=by simpa using hb
  subst e;obtain⟨o,e,c,d⟩:=st;exact⟨o,e,λv z=>by rw[d]at z;cases z⟩
 keep:=λi h h' st k=>st.at λo e=>k it (by simp) o e
 item:=by
  intro X hP hw hK hc i pins s σ H E I hf st hg;subst hP hw hK;obtain⟨xs,x,hq,hx⟩:=hg;obtain⟨its,rv,p,hz⟩:=I.tuple hq;obtain⟨u,hu,ru⟩:=rv.get hx;obtain⟨f0,f1,f2,f3,f4,f5⟩:=hf it (by simp);refine wpAny_pyNext_tuple_item st (show s.heap.IsTuple a its.toArray from p) (x:=u) (by simpa using hu) λh' st' sb=>?_;have I1:Inv X pins σ H { s with heap:=h' }:=I.turned (t':=s.toks) (λb o hb e=>(sb.2 b hb).trans e) f0 f1 f3 f4 f5;obtain⟨o,e,c,d⟩:=id st';exact⟨u,rfl,xV (s:={ s with heap:=h' }) e c d (by decide) ⟨x,H,I1,ru,⟨rfl,λys hy=>by rw[I.iZ hy hq];exact hx⟩,st',λb hb=>(hf b hb).1⟩⟩
 done:=by
  intro X hP hw hK hc i pins s σ H E I hf st hg;subst hP hw hK;obtain⟨xs,hq,hx⟩:=hg;obtain⟨its,rv,p,hz⟩:=I.tuple hq;obtain⟨f0,f1,f2,f3,f4,f5⟩:=hf it (by simp);have hl:=rv.length;exact wpAny_pyNext_tuple_end (I.ok.hd hc) st (show s.heap.IsTuple a its.toArray from p) (by simp;omega) λh' eb=>⟨rfl,I.turned (t':=s.toks) (λb o hb e=>eb b o hb e) f0 f1 f3 f4 f5⟩
 self:=λ_ _ _ _ _ st h=>wpAny_pyIter_tupleiter st h
theorem Ac{P:Program}{w:World}{K:Wf}{tg:Expr}(it:Addr)(lo:Int)(n:Nat):Turn P w K tg (D5 lo n) [it] it (λi h=>IsRangeIter h it (lo+(i:Nat)*1) ((n:Int) - (i:Nat)) 1) where
 mem:=by simp
 obj:=λi h st b hb=>by
  have e:b=it:=by simpa using hb
  subst e;exact⟨_,st,λv z=>by
   have z':Data.fields _=Data.cell v:=z;cases z'⟩
 keep:=λi h h' st k=>k it (by simp) _ st
 item:=by
  intro X hP hw hK hc i pins s σ H E I hf st hg;subst hP hw hK;obtain⟨f0,f1,f2,f3,f4,f5⟩:=hf it (by simp);have W:=Walks.range (prog:=X.prog) (w:=X.w) (I.ok.hd hc) it lo 1 n;refine W.item i s _ _ hg st λv h' tk hv st' kk=>?_;obtain⟨t,rfl⟩:=hv;have I1:Inv X pins σ H { s with heap:=h',toks:=tk }:=I.turned (λb o hb e=>kk b o (by simpa using hb) e) f0 f1 f3 f4 f5;refine⟨_,rfl,xV (s:={ s with heap:=h',toks:=tk }) (n := "range_iterator") st' rfl rfl (by decide) ⟨.int (lo+i),H,I1,⟨t,?_⟩,⟨rfl,rfl⟩,st',λb hb=>(hf b hb).1⟩⟩;rw[Int.mul_one]
 done:=by
  intro X hP hw hK hc i pins s σ H E I hf st hg;subst hP hw hK;obtain⟨f0,f1,f2,f3,f4,f5⟩:=hf it (by simp);exact wpAny_pyNext_range_end (I.ok.hd hc) st (by have:n<=i:=hg;omega) λh' eb=>⟨rfl,I.turned (t':=s.toks) (λb o hb e=>eb b o hb e) f0 f1 f3 f4 f5⟩
 self:=λ_ _ _ _ _ st h=>wpAny_pyIter_rangeiter st h
section
variable{X:Cx}{tg:Expr}
def xy(K:Wf)(tl:TE):TI:=λσ H R=>tl σ H λx H1=>∃a,x=.ref a/\(∃xs,aA K H1 a xs)/\R (JH K a) H1
def MM(K:Wf)(tl:TE):TI:=λσ H R=>tl σ H λx H1=>∃a,x=.ref a/\(∃xs,aS K H1 a xs)/\R (Ql K a) H1
theorem LU(hl:PE X l tl):PI X tg l (xy X.K tl):=by
 intro pins s σ H R I h;refine bA (hl pins s σ H _ I h) λv s1 ⟨x,H1,I1,r1,q1⟩=>?_;obtain⟨a,e,⟨xs,hq⟩,q⟩:=q1;subst e;cases r1;obtain⟨its,rv,p,hz⟩:=I1.list hq;refine wpAny_pyIter_list p.isList ?_;refine⟨s1.heap.objs.size,[s1.heap.objs.size],_,_,H1,rfl,I1.kept (t':=s1.toks) λb o e=>d9 _ e,DB a _,⟨_,iy _ rfl,rfl,rfl⟩,λb hb=>?_,q⟩;have e:b=s1.heap.objs.size:=by simpa using hb
 subst e;exact I1.qd (bw _) (I1.aW.fresh (bw _))
theorem Qw(hl:PE X l tl):PI X tg l (MM X.K tl):=by
 intro pins s σ H R I h;refine bA (hl pins s σ H _ I h) λv s1 ⟨x,H1,I1,r1,q1⟩=>?_;obtain⟨a,e,⟨xs,hq⟩,q⟩:=q1;subst e;cases r1;obtain⟨its,rv,p,hz⟩:=I1.tuple hq;refine wpAny_pyIter_tuple (show s1.heap.IsTuple a its.toArray from p) ?_;refine⟨s1.heap.objs.size,[s1.heap.objs.size],_,_,H1,rfl,I1.kept (t':=s1.toks) λb o e=>d9 _ e,zk a _,⟨_,iy _ rfl,rfl,rfl⟩,λb hb=>?_,q⟩;have e:b=s1.heap.objs.size:=by simpa using hb
 subst e;exact I1.qd (bw _) (I1.aW.fresh (bw _))
theorem Ge{pins:Lo}{σ:St}{H:Hp}{s:Shared}{R:It->Hp->Prop}{E:Vs}{lo hi:Int}{t u v:Tok}{tk:Nat}(I:Inv X pins σ H s)(h1 : -(2 ^ 62)<=lo)(h2:lo<2 ^ 62)(h3 : -(2 ^ 62)<=hi)(h4:hi<2 ^ 62)
  (q:R (D5 lo (hi - lo).toNat) H):wpAny (model X.prog X.w) X.A (pyIter (.ref s.heap.objs.size)) (YT X pins σ tg R) E { s with heap:=s.heap.push { cls:=.type "range", data:=.fields #[.int lo t,.int hi u,.int 1 v] },toks:=tk }:=by
 refine wpAny_pyIter_range (IsRange.new ..) (small_one h1 h2 h3 h4) ?_;have I1:Inv X pins σ H { s with heap:=s.heap.push { cls:=.type "range", data:=.fields #[.int lo t,.int hi u,.int 1 v] },toks:=tk }:=I.kept λb o e=>d9 _ e;refine⟨(s.heap.push { cls:=.type "range", data:=.fields #[.int lo t,.int hi u,.int 1 v] }).objs.size,[(s.heap.push { cls:=.type "range", data:=.fields #[.int lo t,.int hi u,.int 1 v] }).objs.size],_,_,H,rfl,
  I1.kept (t':=tk) λb o e=>d9 _ e,Ac _ lo (hi - lo).toNat,?_,λb hb=>?_,q⟩
 ·have e1:lo+((0:Nat):Int)*1=lo:=by simp
  have e2:(((hi - lo).toNat:Nat):Int) - ((0:Nat):Int)=Builtin.Range.rangeSize lo hi 1:=by rw[rangeSize_one];split<;>omega
  show IsRangeIter _ _ (lo+((0:Nat):Int)*1) ((((hi - lo).toNat:Nat):Int) - ((0:Nat):Int)) 1;rw[e1,e2];exact iy _ rfl
 ·have e:b=(s.heap.push { cls:=.type "range", data:=.fields #[.int lo t,.int hi u,.int 1 v] }).objs.size:=by simpa using hb
  subst e;exact I1.qd (bw _) (I1.aW.fresh (bw _))
def Fu(ta:TA):TI:=λσ H R=>ta σ H λvs H1=>∃j:Int,vs=[.int j] /\ -(2 ^ 62)<=j/\j<2 ^ 62/\R (D5 0 j.toNat) H1
def R8(ta:TA):TI:=λσ H R=>ta σ H λvs H1=>∃i j:Int,vs=[.int i,.int j]/\(-(2 ^ 62)<=i/\i<2 ^ 62 /\ -(2 ^ 62)<=j/\j<2 ^ 62)/\R (D5 i (j - i).toNat) H1
theorem d6(hg:Gl X "range")(hm:X.mg "range" = none)(ha:PA X [a] ta)(hs:starEach [a] X.env=[(false,eval a X.env)]:=by rfl):PI X tg (.Call (.Name "range" p) [a] [] pos) (Fu ta):=by
 intro pins s σ H R I h;refine Call_ (gq I hg hm boot_range (PyProof.Rows.callWith_type1 (bA (ha pos pins s σ H _ I h) λus s1 ⟨vs,H1,I1,r1,q1⟩=>?_) hs rfl));obtain⟨j,e,q1,q2,q⟩:=q1;subst e;cases r1 with
 |cons r rr=>
  cases rr;obtain⟨t,rfl⟩:=r;exact call_range_1 (Ge I1 (by omega) (by omega) q1 q2 (by simpa using q))
def jD(wi:TI)(g:TG)(tb:TS):TS:=λD σ H=>wi σ H λJ H1=>∃W:Nat->Nat->St->Hp->Prop,(∃m,W 0 m σ H1)/\∀i m σ H,W i m σ H->
 (J.stop i H/\D.nx σ H)\/(J.go i H/\∃N:St->Hp->Prop,(∀σ' H',N σ' H'->∃m',m'<m/\W (i+1) m' σ' H')/\∀x H',J.DY i H x H'->g x σ H' λσ2 H2=>tb { D with nx:=N,ct:=N,bk:=D.nx } σ2 H2)
def j6(fp:List Addr)(h:Heap):Lo:=fp.filterMap λb=>(h.get? b).map λo=>(b,o)
theorem fJ(hb:b∈fp)(e:h.get? b=some o):(b,o)∈j6 fp h:=List.mem_filterMap.mpr ⟨b,hb,by rw[e];rfl⟩
theorem D7(hp:p∈j6 fp h):p.1∈fp/\h.get? p.1=some p.2:=by
 obtain⟨b,hb,e⟩:=List.mem_filterMap.mp hp;cases q:h.get? b with
 |none=>rw[q]at e;cases e
 |some o=>
  rw[q]at e;have e':(b,o)=p:=Option.some.inj e;subst e';exact⟨hb,q⟩
theorem Inv.pinned{pins:Lo}{σ:St}{H:Hp}{s:Shared}{fp:List Addr}(I:Inv X pins σ H s)(hf:∀b∈fp,eT X pins H b)(ho:∀b∈fp,∃o,s.heap.get? b=some o/\∀v,o.data≠.cell v):Inv X (pins++j6 fp s.heap) σ H s:=
 I.jR λp hp=>(cy.mp hp).elim (λz=>I.pin p (jW _ z)) λz=>by
  obtain⟨hb,e⟩:=D7 z;obtain⟨f0,f1,f2,_⟩:=hf p.1 hb;obtain⟨o,e',d⟩:=ho p.1 hb;rw[e]at e';cases e';exact⟨e,f0,f1,f2,d⟩
theorem Inv.iJ{pins pl:Lo}{σ:St}{H:Hp}{s:Shared}(I:Inv X (pins++pl) σ H s):Inv X pins σ H s:=I.jR λp hp=>I.pin p (jW _ (lC _ hp))
theorem PV(hp:PassesOwn (model X.prog X.w) X.A X.env X.xe)(hc:X.calm=true)(hi:PI X tg iter wi)(hg:PG X tg g)(hb:vM X body tb)
  (hs:∀x,foldedSetIterable iter X.env x=pure x:=by intro _;rfl):PS X (.For tg iter body [] pos) (jD wi g tb):=by
 intro pins s σ H D I h;refine wpAny_For (bA (hi pins s σ H _ I h) λv s1 h1=>bA h1 λitv s2 h2=>?_) hs;obtain⟨it,fp,tn,J,H2,e,I2,T,st2,f2,W,⟨m0,w0⟩,turn⟩:=h2;subst e;have stat:∀{H':Hp},(∀b∈fp,H' b=none)->∀b∈fp,eT X pins H' b:=λhn b hb=>⟨hn b hb,(f2 b hb).2⟩;refine codeAny_forLoop_any (λn s'=>∃i σ' H',Inv X pins σ' H' s'/\tn i s'.heap/\(∀b∈fp,H' b=none)/\W i n σ' H') ?_ m0 ⟨0,σ,H2,I2,st2,λb hb=>(f2 b hb).1,w0⟩;rintro n s3 ⟨i,σ3,H3,I3,st3,fr3,w3⟩;rcases turn i n σ3 H3 w3 with ⟨stop,qn⟩|⟨go,N,hN,step⟩
 ·refine QW hp (bA (T.done X rfl rfl rfl hc i pins s3 σ3 H3 X.xe I3 (stat fr3) st3 stop) λr s4 ⟨hr,I4⟩=>?_);subst hr;exact wpAny_execs_nil ⟨σ3,H3,I4,qn⟩
 ·refine QW hp (bA (T.item X rfl rfl rfl hc i pins s3 σ3 H3 X.xe I3 (stat fr3) st3 go) λr s4 ⟨u,hr,h4⟩=>?_);subst hr;refine QW hp (bA h4 λ_ s5 ⟨x,H5,I5,r5,y5,st5,fr5⟩=>?_);have I5':=I5.pinned (stat fr5) (T.obj _ _ st5);refine QW hp (bA (hg _ s5 σ3 H5 x u _ I5' r5 (step x H5 y5)) λ_ s6 ⟨σ6,H6,I6,q6⟩=>?_);refine QW hp (bA (hb _ s6 σ6 H6 _ I6 q6) λf s7 q7=>?_);have again:∀{σ7:St}{H7:Hp},Inv X (pins++j6 fp s5.heap) σ7 H7 s7->N σ7 H7->∃m,m<n/\∃i σ' H',Inv X pins σ' H' s7/\tn i s7.heap/\(∀b∈fp,H' b=none)/\W i m σ' H':=λ{σ7 H7} I7 n7=>by
   obtain⟨m',hm,w7⟩:=hN σ7 H7 n7;refine⟨m',hm,i+1,σ7,H7,I7.iJ,T.keep _ _ _ st5 λb hb o e=>(I7.pin (b,o) (jW _ (jW _ (fJ hb e)))).1,λb hb=>?_,w7⟩;obtain⟨o,e,d⟩:=T.obj _ _ st5 b hb;exact(I7.pin (b,o) (jW _ (jW _ (fJ hb e)))).2.1
  cases f with
  |next=>obtain⟨σ7,H7,I7,n7⟩:=q7;exact again I7 n7
  |cont=>obtain⟨σ7,H7,I7,n7⟩:=q7;exact again I7 n7
  |brk=>obtain⟨σ7,H7,I7,q7⟩:=q7;exact⟨σ7,H7,I7.iJ,q7⟩
  |ret v=>obtain⟨x7,σ7,H7,I7,r7,q7⟩:=q7;exact⟨x7,σ7,H7,I7.iJ,r7,q7⟩
end
theorem Js{K:Wf}{a:Addr}{xs:List V}{g:TG}{tb:TS}{D:Ends}{σ:St}{H:Hp}(Pv:Nat->St->Hp->Prop)(h0:Pv 0 σ H)(hl:∀i σ H,i<=xs.length->Pv i σ H->aA K H a xs)
  (hs:∀i x σ H,xs[i]?=some x->Pv i σ H->g x σ H λσ2 H2=>tb { D with nx:=Pv (i+1),ct:=Pv (i+1),bk:=D.nx } σ2 H2) (hd:∀σ H,Pv xs.length σ H->D.nx σ H):
  ∃W:Nat->Nat->St->Hp->Prop,(∃m,W 0 m σ H)/\∀i m σ H,W i m σ H->
   ((JH K a).stop i H/\D.nx σ H)\/((JH K a).go i H/\∃N:St->Hp->Prop,(∀σ' H',N σ' H'->∃m',m'<m/\W (i+1) m' σ' H')/\∀x H',(JH K a).DY i H x H'->g x σ H' λσ2 H2=>tb { D with nx:=N,ct:=N,bk:=D.nx } σ2 H2):=by
 refine⟨λi m σ H=>m=xs.length - i/\i<=xs.length/\Pv i σ H,⟨xs.length,by simp,Nat.zero_le _,h0⟩,?_⟩;rintro i m σ H ⟨rfl,hi,p⟩;have q:=hl i σ H hi p;by_cases hlt:i<xs.length
 ·refine .inr ⟨⟨xs,xs[i],q,by simp[hlt]⟩,Pv (i+1),λσ' H' p'=>⟨xs.length - (i+1),by omega,rfl,hlt,p'⟩,λx H' y=>?_⟩;obtain⟨e,y⟩:=y;subst e;exact hs i x σ _ (y xs q) p
 ·have e:i=xs.length:=by omega
  subst e;exact .inl ⟨⟨xs,q,bw _⟩,hd σ H p⟩
theorem L_{K:Wf}{a:Addr}{xs:List V}{g:TG}{tb:TS}{D:Ends}{σ:St}{H:Hp}(Pv:Nat->St->Hp->Prop)(h0:Pv 0 σ H)(hl:∀i σ H,i<=xs.length->Pv i σ H->aS K H a xs)
  (hs:∀i x σ H,xs[i]?=some x->Pv i σ H->g x σ H λσ2 H2=>tb { D with nx:=Pv (i+1),ct:=Pv (i+1),bk:=D.nx } σ2 H2) (hd:∀σ H,Pv xs.length σ H->D.nx σ H):
  ∃W:Nat->Nat->St->Hp->Prop,(∃m,W 0 m σ H)/\∀i m σ H,W i m σ H->
   ((Ql K a).stop i H/\D.nx σ H)\/((Ql K a).go i H/\∃N:St->Hp->Prop,(∀σ' H',N σ' H'->∃m',m'<m/\W (i+1) m' σ' H')/\∀x H',(Ql K a).DY i H x H'->g x σ H' λσ2 H2=>tb { D with nx:=N,ct:=N,bk:=D.nx } σ2 H2):=by
 refine⟨λi m σ H=>m=xs.length - i/\i<=xs.length/\Pv i σ H,⟨xs.length,by simp,Nat.zero_le _,h0⟩,?_⟩;rintro i m σ H ⟨rfl,hi,p⟩;have q:=hl i σ H hi p;by_cases hlt:i<xs.length
 ·refine .inr ⟨⟨xs,xs[i],q,by simp[hlt]⟩,Pv (i+1),λσ' H' p'=>⟨xs.length - (i+1),by omega,rfl,hlt,p'⟩,λx H' y=>?_⟩;obtain⟨e,y⟩:=y;subst e;exact hs i x σ _ (y xs q) p
 ·have e:i=xs.length:=by omega
  subst e;exact .inl ⟨⟨xs,q,bw _⟩,hd σ H p⟩
theorem Df{lo:Int}{n:Nat}{g:TG}{tb:TS}{D:Ends}{σ:St}{H:Hp}(Pv:Nat->St->Hp->Prop)(h0:Pv 0 σ H)
  (hs:∀i σ H,i<n->Pv i σ H->g (.int (lo+i)) σ H λσ2 H2=>tb { D with nx:=Pv (i+1),ct:=Pv (i+1),bk:=D.nx } σ2 H2) (hd:∀σ H,Pv n σ H->D.nx σ H):
  ∃W:Nat->Nat->St->Hp->Prop,(∃m,W 0 m σ H)/\∀i m σ H,W i m σ H->
   ((D5 lo n).stop i H/\D.nx σ H)\/((D5 lo n).go i H/\∃N:St->Hp->Prop,(∀σ' H',N σ' H'->∃m',m'<m/\W (i+1) m' σ' H')/\∀x H',(D5 lo n).DY i H x H'->g x σ H' λσ2 H2=>tb { D with nx:=N,ct:=N,bk:=D.nx } σ2 H2):=by
 refine⟨λi m σ H=>m=n - i/\i<=n/\Pv i σ H,⟨n,by simp,Nat.zero_le _,h0⟩,?_⟩;rintro i m σ H ⟨rfl,hi,p⟩;by_cases hlt:i<n
 ·refine .inr ⟨hlt,Pv (i+1),λσ' H' p'=>⟨n - (i+1),by omega,rfl,hlt,p'⟩,λx H' y=>?_⟩;obtain⟨e,y⟩:=y;subst e y;exact hs i σ _ hlt p
 ·have e:i=n:=by omega
  subst e;exact .inl ⟨bw _,hd σ H p⟩
abbrev R2:=V->V->Hp->VK->Prop
def gF(X:Cx)(f:Value->Value->Sem Value)(r:R2):Prop:=
 ∀(pins:Lo) (s:Shared) (σ:St) (H:Hp) (x y:V) (v u:Value) (Q:VK),Inv X pins σ H s->RelV x v->RelV y u->r x y H Q->
  wpAny (model X.prog X.w) X.A (f v u) (EP X pins σ Q) X.xe s
def VR(X:Cx)(f:Value->Sem Value)(r:V->Hp->VK->Prop):Prop:=
 ∀(pins:Lo) (s:Shared) (σ:St) (H:Hp) (x:V) (v:Value) (Q:VK),Inv X pins σ H s->RelV x v->r x H Q->
  wpAny (model X.prog X.w) X.A (f v) (EP X pins σ Q) X.xe s
def dA(X:Cx)(f:Value)(r:List V->Hp->VK->Prop):Prop:=
 ∀(pins:Lo) (s:Shared) (σ:St) (H:Hp) (xs:List V) (us:List Value) (Q:VK),Inv X pins σ H s->Vals xs us->r xs H Q->
  wpAny (model X.prog X.w) X.A (call f us) (EP X pins σ Q) X.xe s
def Xa(X:Cx)(r:V->Hp->(Bool->Hp->Prop)->Prop):Prop:=
 ∀(pins:Lo) (s:Shared) (σ:St) (H:Hp) (x:V) (v:Value) (Q:Bool->Hp->Prop),Inv X pins σ H s->RelV x v->r x H Q->
  wpAny (model X.prog X.w) X.A (truthy v) (TP X pins σ Q) X.xe s
def N7(r:R2)(ta tb:TE):TE:=λσ H Q=>ta σ H λx H1=>tb σ H1 λy H2=>r x y H2 Q
def ZJ(r:V->Hp->VK->Prop)(ta:TE):TE:=λσ H Q=>ta σ H λx H1=>r x H1 Q
def rI(C:Int->Int->Prop)(g:Int->Int->V):R2:=λx y H Q=>∃i j,x=.int i/\y=.int j/\C i j/\Q (g i j) H
def Nd(g:Int->Int->V):R2:=λx y H Q=>∃i j,x=.int i/\y=.int j/\Q (g i j) H
def rU(g:Int->V):V->Hp->VK->Prop:=λx H Q=>∃i,x=.int i/\Q (g i) H
section
variable{X:Cx}{a b c:Expr}{ta tb tc:TE}{pos:Pos}
theorem OE(ha:PE X a ta)(hb:PE X b tb){pins:Lo}{s:Shared}{σ:St}{H:Hp}{R:V->V->Hp->Prop}(I:Inv X pins σ H s)
  (h:ta σ H λx H1=>tb σ H1 λy H2=>R x y H2) {Q:Vs}{f:Value->Value->Sem Value}
  (hf:∀v u s2 x y H2,Inv X pins σ H2 s2->RelV x v->RelV y u->R x y H2->wpAny (model X.prog X.w) X.A (f v u) Q X.xe s2):
  wpAny (model X.prog X.w) X.A (eval a X.env) (λv s₁=>wpAny (model X.prog X.w) X.A (eval b X.env) (λu s₂=>wpAny (model X.prog X.w) X.A (f v u) Q X.xe s₂) X.xe s₁) X.xe s:=by
 refine bA (ha pins s σ H _ I h) λv s1 ⟨x,H1,I1,r1,q1⟩=>?_;refine bA (hb pins s1 σ H1 _ I1 q1) λu s2 ⟨y,H2,I2,r2,q2⟩=>?_;exact hf v u s2 x y H2 I2 r1 r2 q2
theorem ax(ho:gF X (binaryOp op) r)(ha:PE X a ta)(hb:PE X b tb):PE X (.BinOp a op b pos) (N7 r ta tb):=by
 intro pins s σ H Q I h;exact wpAny_BinOp (OE ha hb I h λv u s2 x y H2 I2 rx ry q=>ho pins s2 σ H2 x y v u Q I2 rx ry q)
theorem iK(ho:VR X (unaryOp op) r)(ha:PE X a ta):PE X (.UnaryOp op a pos) (ZJ r ta):=by
 intro pins s σ H Q I h;exact UnaryOp_ (bA (ha pins s σ H _ I h) λv s1 ⟨x,H1,I1,r1,q1⟩=>ho pins s1 σ H1 x v Q I1 r1 q1)
theorem Vt{f:Value->Value->Sem Value}{C:Int->Int->Prop}{g:Int->Int->Int}
  (rule:∀(i j:Int) (t u:Tok) (s:Shared) (Q:Vs) (E:Vs),C i j->Q (.int (g i j) s.toks) { s with toks:=s.toks+1 }->wpAny (model X.prog X.w) X.A (f (.int i t) (.int j u)) Q E s):
  gF X f (rI C λi j=>.int (g i j)):=by
 intro pins s σ H x y v u Q I rx ry h;obtain⟨i,j,rfl,rfl,hc,q⟩:=h;obtain⟨t,rfl⟩:=rx;obtain⟨t',rfl⟩:=ry;exact rule i j t t' s _ _ hc ⟨.int (g i j),H,I.tok _,⟨_,rfl⟩,q⟩
theorem L8{f:Value->Value->Sem Value}{g:Int->Int->Int}
  (rule:∀(i j:Int) (t u:Tok) (s:Shared) (Q:Vs) (E:Vs),Q (.int (g i j) s.toks) { s with toks:=s.toks+1 }->wpAny (model X.prog X.w) X.A (f (.int i t) (.int j u)) Q E s):
  gF X f (Nd λi j=>.int (g i j)):=by
 intro pins s σ H x y v u Q I rx ry h;obtain⟨i,j,rfl,rfl,q⟩:=h;obtain⟨t,rfl⟩:=rx;obtain⟨t',rfl⟩:=ry;exact rule i j t t' s _ _ ⟨.int (g i j),H,I.tok _,⟨_,rfl⟩,q⟩
theorem RA{f:Value->Value->Sem Value}{g:Int->Int->Bool}
  (rule:∀(i j:Int) (t u:Tok) (s:Shared) (Q:Vs) (E:Vs),Q (.bool (g i j)) s->wpAny (model X.prog X.w) X.A (f (.int i t) (.int j u)) Q E s):
  gF X f (Nd λi j=>.bl (g i j)):=by
 intro pins s σ H x y v u Q I rx ry h;obtain⟨i,j,rfl,rfl,q⟩:=h;obtain⟨t,rfl⟩:=rx;obtain⟨t',rfl⟩:=ry;exact rule i j t t' s _ _ ⟨.bl (g i j),H,I,rfl,q⟩
def Sr(i j:Int):Prop:=0<j/\j<1073741824
def Xn(i j:Int):Prop:=0<=j/\j<=1000000/\i.natAbs<2 ^ 64
def MX(i j:Int):Prop:=(-(2 ^ 64)<i/\i<2 ^ 64)\/(-(2 ^ 64)<j/\j<2 ^ 64)
theorem MX.ok{i j:Int}(h:MX i j):IntMulOk i j:=by
 rcases h with ⟨h1,h2⟩|⟨h1,h2⟩
 ·exact .of_left (intBits_le_64 h1 h2)
 ·exact .of_right (intBits_le_64 h1 h2)
theorem zU(k:Nat):(0:Int)<=2 ^ k:=by
 rw[two_pow_cast];exact Int.natCast_nonneg _
theorem cH:gF X (binaryOp .Add) (Nd λi j=>.int (i+j)):=L8 λ_ _ _ _ _ _ _ q=>add_int q
theorem kA:gF X (binaryOp .Sub) (Nd λi j=>.int (i - j)):=L8 λ_ _ _ _ _ _ _ q=>sub_int q
theorem fR:gF X (binaryOp .Mult) (rI MX λi j=>.int (i*j)):=Vt λ_ _ _ _ _ _ _ hc q=>mul_int q hc.ok
theorem e8:gF X (binaryOp .FloorDiv) (rI Sr λi j=>.int (i/j)):=Vt λi j _ _ _ _ _ hc q=>by
 have h1:(0:Int)<j:=hc.1;have h2:j<1073741824:=hc.2;exact floordiv_int (by omega) (by rw[Int.fdiv_eq_ediv_of_nonneg i (by omega)];exact q) (.inl (PyProof.noPylong_small (by omega)))
theorem aZ:gF X (binaryOp .Mod) (rI (λ_ j=>0<j) λi j=>.int (i%j)):=Vt λi j _ _ _ _ _ hc q=>by
 have h1:(0:Int)<j:=hc;exact mod_int' (by omega) (by rw[VI i (by omega)];exact q)
theorem JI:gF X (binaryOp .LShift) (rI Xn λi j=>.int (i*2 ^ j.toNat)):=Vt λ_ _ _ _ _ _ _ hc q=>lshift_int_small hc.1 hc.2.1 hc.2.2 q
theorem QM:gF X (binaryOp .RShift) (rI (λ_ j=>0<=j) λi j=>.int (i/2 ^ j.toNat)):=Vt λi j _ _ _ _ _ hc q=>
 rshift_int hc (by rw[Int.fdiv_eq_ediv_of_nonneg i (zU _)];exact q)
theorem Ji:gF X (binaryOp .BitAnd) (Nd λi j=>.int (Builtin.bitAnd i j)):=L8 λ_ _ _ _ _ _ _ q=>and_int q
theorem Uv:gF X (binaryOp .BitOr) (Nd λi j=>.int (Builtin.bitOr i j)):=L8 λ_ _ _ _ _ _ _ q=>or_int q
theorem YM{f:Value->Sem Value}{g:Int->Int}
  (rule:∀(i:Int) (t:Tok) (s:Shared) (Q:Vs) (E:Vs),Q (.int (g i) s.toks) { s with toks:=s.toks+1 }->wpAny (model X.prog X.w) X.A (f (.int i t)) Q E s):
  VR X f (rU λi=>.int (g i)):=by
 intro pins s σ H x v Q I rx h;obtain⟨i,rfl,q⟩:=h;obtain⟨t,rfl⟩:=rx;exact rule i t s _ _ ⟨.int (g i),H,I.tok _,⟨_,rfl⟩,q⟩
theorem gr:VR X (unaryOp .USub) (rU λi=>.int (-i)):=YM λ_ _ _ _ _ q=>neg_int q
theorem Pb:VR X (unaryOp .Invert) (rU λi=>.int (Builtin.bitNot i)):=YM λ_ _ _ _ _ q=>invert_int q
end
def gS:V->V->Bool
 |.bh,.bh=>true|.bh,.int _=>true|.int _,.bh=>true|.bh,.bl _=>true|.bl _,.bh=>true|.bh,.str _=>true|.str _,.bh=>true
 |.int _,.int _=>true|.bl _,.bl _=>true|.str _,.str _=>true|.yX _,.yX _=>true
 |.int _,.str _=>true|.str _,.int _=>true|.bl _,.str _=>true|.str _,.bl _=>true
 |_,_=>false
theorem Z6:gS .bh .bh=true:=rfl
theorem Z4:gS .bh (.int i)=true:=rfl
theorem sc2:gS (.int i) .bh=true:=rfl
theorem Z8:gS .bh (.bl i)=true:=rfl
theorem sc4:gS (.bl i) .bh=true:=rfl
theorem Z9:gS .bh (.str i)=true:=rfl
theorem Z_:gS (.str i) .bh=true:=rfl
theorem sc7:gS (.int i) (.int j)=true:=rfl
theorem sc8:gS (.bl i) (.bl j)=true:=rfl
theorem sc9:gS (.str i) (.str j)=true:=rfl
theorem Zt:gS (.int i) (.str j)=true:=rfl
theorem ZM:gS (.str i) (.int j)=true:=rfl
theorem ZI:gS (.bl i) (.str j)=true:=rfl
theorem Zd:gS (.str i) (.bl j)=true:=rfl
def Zg:R2:=λx y H Q=>gS x y=true/\Q (.bl (decide (x=y))) H
def ZR:R2:=λx y H Q=>gS x y=true/\Q (.bl (!decide (x=y))) H
theorem Az:decide (V.int i=V.int j)=(i == j):=by
 rw[QC];simp
theorem IG:decide (V.bl i=V.bl j)=(i == j):=by
 rw[QC];simp
theorem Bs:decide (V.str i=V.str j)=(i == j):=by
 rw[QC];simp
theorem Ck:decide (V.yX i=V.yX j)=(i.toList == j.toList):=by
 rw[QC];cases i;cases j;simp
section
variable{X:Cx}{a b c:Expr}{ta tb tc:TE}{pos:Pos}
theorem aU{pins:Lo}{σ:St}{H:Hp}{s:Shared}{Q:VK}{k k':Bool}(I:Inv X pins σ H s)(q:Q (.bl k) H)(e:k=k'):EP X pins σ Q (.bool k') s:=by
 subst e;exact⟨.bl k,H,I,rfl,q⟩
theorem bW:gF X (compareOp .Eq) Zg:=by
 intro pins s σ H x y v u Q I rx ry h;obtain⟨hs,q⟩:=h;cases x with
 |bh=>
  cases rx;cases y with
  |bh=>cases ry;exact PySem.EqNone.eq_none_none (aU I q (by simp))
  |bl j=>cases ry;exact PySem.EqNone.eq_none_bool (aU I q (by simp))
  |int j=>obtain⟨t',rfl⟩:=ry;exact PySem.EqNone.eq_none_int (aU I q (by simp))
  |str j=>obtain⟨t',rfl⟩:=ry;exact PySem.EqNone.eq_none_str (aU I q (by simp))
  |_=>exact absurd (show false=true from hs) lE
 |bl i=>
  cases rx;cases y with
  |bh=>cases ry;exact PySem.EqNone.eq_bool_none (aU I q (by simp))
  |bl j=>cases ry;exact eq_bool (aU I q IG)
  |str j=>obtain⟨t',rfl⟩:=ry;exact PySem.EqMixed.eq_bool_str (aU I q (by simp))
  |_=>exact absurd (show false=true from hs) lE
 |int i=>
  obtain⟨t,rfl⟩:=rx;cases y with
  |bh=>cases ry;exact PySem.EqNone.eq_int_none (aU I q (by simp))
  |int j=>obtain⟨t',rfl⟩:=ry;exact eq_int (aU I q Az)
  |str j=>obtain⟨t',rfl⟩:=ry;exact PySem.EqMixed.eq_int_str (aU I q (by simp))
  |_=>exact absurd (show false=true from hs) lE
 |str i=>
  obtain⟨t,rfl⟩:=rx;cases y with
  |bh=>cases ry;exact PySem.EqNone.eq_str_none (aU I q (by simp))
  |bl j=>cases ry;exact PySem.EqMixed.eq_str_bool (aU I q (by simp))
  |int j=>obtain⟨t',rfl⟩:=ry;exact PySem.EqMixed.eq_str_int (aU I q (by simp))
  |str j=>obtain⟨t',rfl⟩:=ry;exact eq_str (aU I q Bs)
  |_=>exact absurd (show false=true from hs) lE
 |yX i=>
  obtain⟨t,rfl⟩:=rx;cases y with
  |yX j=>obtain⟨t',rfl⟩:=ry;exact PySem.W.eq_bytes (aU I q Ck)
  |_=>exact absurd (show false=true from hs) lE
 |_=>cases y<;>exact absurd (show false=true from hs) lE
theorem AG:gF X (compareOp .NotEq) ZR:=by
 intro pins s σ H x y v u Q I rx ry h;obtain⟨hs,q⟩:=h;cases x with
 |bh=>
  cases rx;cases y with
  |bh=>cases ry;exact PySem.EqNone.ne_none_none (aU I q (by simp))
  |bl j=>cases ry;exact PySem.EqNone.ne_none_bool (aU I q (by simp))
  |int j=>obtain⟨t',rfl⟩:=ry;exact PySem.EqNone.ne_none_int (aU I q (by simp))
  |str j=>obtain⟨t',rfl⟩:=ry;exact PySem.EqNone.ne_none_str (aU I q (by simp))
  |_=>exact absurd (show false=true from hs) lE
 |bl i=>
  cases rx;cases y with
  |bh=>cases ry;exact PySem.EqNone.ne_bool_none (aU I q (by simp))
  |bl j=>cases ry;exact ne_bool (aU I q (congrArg not IG))
  |str j=>obtain⟨t',rfl⟩:=ry;exact PySem.EqMixed.ne_bool_str (aU I q (by simp))
  |_=>exact absurd (show false=true from hs) lE
 |int i=>
  obtain⟨t,rfl⟩:=rx;cases y with
  |bh=>cases ry;exact PySem.EqNone.ne_int_none (aU I q (by simp))
  |int j=>obtain⟨t',rfl⟩:=ry;exact ne_int (aU I q (congrArg not Az))
  |str j=>obtain⟨t',rfl⟩:=ry;exact PySem.EqMixed.ne_int_str (aU I q (by simp))
  |_=>exact absurd (show false=true from hs) lE
 |str i=>
  obtain⟨t,rfl⟩:=rx;cases y with
  |bh=>cases ry;exact PySem.EqNone.ne_str_none (aU I q (by simp))
  |bl j=>cases ry;exact PySem.EqMixed.ne_str_bool (aU I q (by simp))
  |int j=>obtain⟨t',rfl⟩:=ry;exact PySem.EqMixed.ne_str_int (aU I q (by simp))
  |str j=>obtain⟨t',rfl⟩:=ry;exact ne_str (aU I q (congrArg not Bs))
  |_=>exact absurd (show false=true from hs) lE
 |yX i=>
  obtain⟨t,rfl⟩:=rx;cases y with
  |yX j=>obtain⟨t',rfl⟩:=ry;exact PySem.W.ne_bytes (aU I q (congrArg not Ck))
  |_=>exact absurd (show false=true from hs) lE
 |_=>cases y<;>exact absurd (show false=true from hs) lE
theorem lB:gF X (compareOp .Lt) (Nd λi j=>.bl (decide (i<j))):=RA λ_ _ _ _ _ _ _ q=>lt_int q
theorem TV:gF X (compareOp .Gt) (Nd λi j=>.bl (decide (j<i))):=RA λ_ _ _ _ _ _ _ q=>gt_int q
theorem Dm:gF X (compareOp .Lt) (λx y H Q=>∃i j,x=.str i/\y=.str j/\Q (.bl (decide (i.cps.toList<j.cps.toList))) H):=by
 intro pins s σ H x y v u Q I rx ry h;obtain⟨i,j,rfl,rfl,q⟩:=h;obtain⟨t,rfl⟩:=rx;obtain⟨t',rfl⟩:=ry;exact lt_str (aU I q rfl)
theorem uP:gF X (compareOp .Is) (λx y H Q=>y=.bh/\Q (.bl (decide (x=.bh))) H):=by
 intro pins s σ H x y v u Q I rx ry h;obtain⟨rfl,q⟩:=h;cases ry;refine is_none_gen (aU I q ?_);cases x<;>first
  | (cases rx;rfl)
  | (obtain⟨t,rfl⟩:=rx;rfl)
theorem BL:gF X (compareOp .IsNot) (λx y H Q=>y=.bh/\Q (.bl (!decide (x=.bh))) H):=by
 intro pins s σ H x y v u Q I rx ry h;obtain⟨rfl,q⟩:=h;cases ry;refine isnot_none_gen (aU I q ?_);cases x<;>first
  | (cases rx;rfl)
  | (obtain⟨t,rfl⟩:=rx;rfl)
theorem aB(b:Expr){op:CmpOp}(h:op≠.In:=by decide)(h2:op≠.NotIn:=by decide):behindInMarks op b=false:=by
 have e1:(op == CmpOp.In)=false:=by cases op<;>first|rfl|exact absurd rfl h
 have e2:(op == CmpOp.NotIn)=false:=by cases op<;>first|rfl|exact absurd rfl h2
 cases b<;>simp[behindInMarks,e1,e2]
theorem eR(ho:gF X (compareOp op) r)(ha:PE X a ta)(hb:PE X b tb)(hm:behindInMarks op b=false):PE X (.Compare a [op] [b] pos) (N7 r ta tb):=by
 intro pins s σ H Q I h;exact wpAny_Compare1 (OE ha hb I h λv u s2 x y H2 I2 rx ry q=>ho pins s2 σ H2 x y v u Q I2 rx ry q) hm
def TQ(t:TE):TT:=λσ H Q=>t σ H λx H'=>∃k,x=.bl k/\Q k H'
theorem eZ(ho:gF X (compareOp op) r)(ha:PE X a ta)(hb:PE X b tb)(hm:behindInMarks op b=false):PT X (.Compare a [op] [b] pos) (TQ (N7 r ta tb)):=by
 intro pins s σ H Q I h;refine wpAny_isTrue_Compare1 (bA (ha pins s σ H _ I h) λv s1 ⟨x,H1,I1,r1,q1⟩=>bA (hb pins s1 σ H1 _ I1 q1) λu s2 ⟨y,H2,I2,r2,q2⟩=>
  bA (ho pins s2 σ H2 x y v u _ I2 r1 r2 q2) λc s3 ⟨z,H3,I3,r3,k,e,q3⟩=>?_) hm
 subst e;cases r3;exact Rf ⟨H3,I3,q3⟩
def WI(r r':R2)(ta tb tc:TE):TE:=λσ H Q=>ta σ H λx H1=>tb σ H1 λy H2=>r x y H2 λz H3=>∃k,z=.bl k/\
 (if k=true then tc σ H3 λw' H4=>r' y w' H4 Q else Q (.bl false) H3)
def S6(K:Wf)(x:V)(H:Hp)(k:Bool):Prop:=
 match x with
 |.bh=>k=false
 |.bl b=>k=b
 |.int i=>k=(i != 0)
 |.str y=>y.length<=sizeLine/\k=((y.length:Int) != 0)
 |.yX y=>y.size<=sizeLine/\k=((y.size:Int) != 0)
 |.ref p=>(∃xs,aA K H p xs/\k = !xs.isEmpty)\/(∃xs,aS K H p xs/\k = !xs.isEmpty)\/∃kvs,H p=some (.dK kvs)/\k = !kvs.isEmpty
 |_=>False
theorem zu{κ:Type}{kvs:List (κ×V)}{vs:List (κ×Value)}(r:KV kvs vs):(!vs.isEmpty) = !kvs.isEmpty:=by
 cases r<;>rfl
theorem kQ(r:Vals xs its):(!its.toArray.isEmpty) = !xs.isEmpty:=by
 cases r<;>simp
theorem iU:(sizeLine:Nat)<2 ^ 63:=by rw[sizeLine_eq];decide
theorem PJ:Xa X (λx H Q=>∃k,S6 X.K x H k/\Q k H):=by
 intro pins s σ H x v Q I rx h;obtain⟨k,e,q⟩:=h;have hl:=iU;have hs:sizeLine=16777216:=sizeLine_eq;cases x with
 |bh=>
  cases rx;have e':k=false:=e;subst e';exact truthy_none ⟨H,I,q⟩
 |bl b=>
  cases rx;have e':k=b:=e;subst e';exact Rf ⟨H,I,q⟩
 |int i=>
  obtain⟨t,rfl⟩:=rx;have e':k=(i != 0):=e;subst e';exact PySem.P.truthy_int ⟨H,I,q⟩
 |str y=>
  obtain⟨t,rfl⟩:=rx;obtain⟨hy,e'⟩:y.length<=sizeLine/\k=((y.length:Int) != 0):=e;subst e';exact PySem.P.truthy_str (by omega) ⟨H,I.tok _,q⟩
 |yX y=>
  obtain⟨t,rfl⟩:=rx;obtain⟨hy,e'⟩:y.size<=sizeLine/\k=((y.size:Int) != 0):=e;subst e';exact PySem.W.truthy_bytes (by omega) ⟨H,I.tok _,q⟩
 |ref p=>
  cases rx;have e':(∃xs,aA X.K H p xs/\k = !xs.isEmpty)\/(∃xs,aS X.K H p xs/\k = !xs.isEmpty)\/∃kvs,H p=some (.dK kvs)/\k = !kvs.isEmpty:=e;rcases e' with ⟨xs,hx,e'⟩|⟨xs,hx,e'⟩|⟨kvs,hx,e'⟩
  ·subst e';obtain⟨its,r,pl,hz⟩:=I.list hx;have hlen:=r.length;exact wpAny_truthy_list pl.isList (by simp only[List.size_toArray];omega) ⟨H,I.tok _,by rw[kQ r];exact q⟩
  ·subst e';obtain⟨its,r,pl,hz⟩:=I.tuple hx;have hlen:=r.length;exact truthy_tuple pl (by simp only[List.size_toArray];omega) ⟨H,I.tok _,by rw[kQ r];exact q⟩
  ·subst e';obtain⟨hz,hS,vs,r,m⟩:kvs.length<=sizeLine/\(p == sysModules)=false/\∃vs,KV kvs vs/\s.heap.DictOf (bc X.prog X.w) p vs:=I.aW p _ hx;have hlen:kvs.length=vs.length:=Paired.length r;exact wpAny_truthy_dict hS m (by omega) ⟨H,I.tok _,by rw[zu r];exact q⟩
 |_=>exact(show False from e).elim
theorem kE(ha:PE X a ta)(he:∀whole,isTrue a X.env whole=(do let v <-whole;standAt a.pos;holding [v] (truthy v))):
  PT X a (λσ H Q=>ta σ H λx H'=>∃k,S6 X.K x H' k/\Q k H'):=by
 intro pins s σ H Q I h;exact isTrue_plain (bA (ha pins s σ H _ I h) λv s1 ⟨x,H1,I1,r1,q1⟩=>PJ pins s1 σ H1 x v Q I1 r1 q1) (he _)
theorem y9:gF X (binaryOp .Add) (λx y H Q=>∃i j,x=.str i/\y=.str j/\i.length+j.length<=sizeLine/\Q (.str (i++j)) H):=by
 intro pins s σ H x y v u Q I rx ry h;obtain⟨i,j,rfl,rfl,hz,q⟩:=h;obtain⟨t,rfl⟩:=rx;obtain⟨t',rfl⟩:=ry;exact add_str (λt' tk=>⟨.str (i++j),H,I.tok _,⟨_,rfl⟩,q⟩) hz
theorem vals1(r:Vals [x] us):∃u,us=[u]/\RelV x u:=by
 cases r with
 |cons r1 r2=>cases r2;exact⟨_,rfl,r1⟩
theorem vals2(r:Vals [x,y] us):∃u w',us=[u,w']/\RelV x u/\RelV y w':=by
 cases r with
 |cons r1 r2=>
  cases r2 with
  |cons r3 r4=>cases r4;exact⟨_,_,rfl,r1,r3⟩
theorem C8(hc:X.calm=true):dA X (.builtin "max") (λxs H Q=>∃i j,xs=[.int i,.int j]/\Q (.int (if j>i then j else i)) H):=by
 intro pins s σ H xs us Q I r h;obtain⟨i,j,rfl,q⟩:=h;obtain⟨u,w',rfl,⟨t,rfl⟩,⟨t',rfl⟩⟩:=vals2 r;refine max_two_ints (I.ok.hd hc) λh' tk k=>⟨_,H,I.kept k,?_,q⟩;by_cases hj:j>i
 ·rw[if_pos hj,if_pos hj];exact⟨_,rfl⟩
 ·rw[if_neg hj,if_neg hj];exact⟨_,rfl⟩
theorem i5:dA X (.type "int") (λxs H Q=>(∃i,xs=[.int i]/\Q (.int i) H)\/∃k,xs=[.bl k]/\Q (.int (if k then 1 else 0)) H):=by
 intro pins s σ H xs us Q I r h;rcases h with ⟨i,rfl,q⟩|⟨k,rfl,q⟩
 ·obtain⟨u,rfl,t,rfl⟩:=vals1 r;exact call_int_int ⟨.int i,H,I,⟨_,rfl⟩,q⟩
 ·obtain⟨u,rfl,r1⟩:=vals1 r;cases r1;exact call_int_bool ⟨.int (if k then 1 else 0),H,I.tok _,⟨_,rfl⟩,q⟩
def RX(K:Wf)(x:V)(H:Hp)(n:Nat):Prop:=
 match x with
 |.str y=>y.length<=sizeLine/\n=y.length
 |.yX y=>y.size<=sizeLine/\n=y.size
 |.ref p=>(∃xs,aA K H p xs/\n=xs.length)\/∃xs,aS K H p xs/\n=xs.length
 |_=>False
theorem Fy:dA X (.builtin "len") (λxs H Q=>∃x n,xs=[x]/\RX X.K x H n/\Q (.int n) H):=by
 intro pins s σ H xs us Q I r h;obtain⟨x,n,rfl,e,q⟩:=h;obtain⟨u,rfl,rx⟩:=vals1 r;have hl:=iU;have hs:sizeLine=16777216:=sizeLine_eq;cases x with
 |str y=>
  obtain⟨t,rfl⟩:=rx;obtain⟨hy,e'⟩:y.length<=sizeLine/\n=y.length:=e;subst e';exact len_str (by omega) ⟨.int _,H,I.tok _,⟨_,rfl⟩,q⟩
 |yX y=>
  obtain⟨t,rfl⟩:=rx;obtain⟨hy,e'⟩:y.size<=sizeLine/\n=y.size:=e;subst e';exact PySem.W.len_bytes (by omega) ⟨.int _,H,I.tok _,⟨_,rfl⟩,q⟩
 |ref p=>
  cases rx;have e':(∃xs,aA X.K H p xs/\n=xs.length)\/∃xs,aS X.K H p xs/\n=xs.length:=e;rcases e' with ⟨xs,hx,e'⟩|⟨xs,hx,e'⟩
  ·subst e';obtain⟨its,r',pl,hz⟩:=I.list hx;have hlen:=r'.length;exact Calls.call_len_list pl.isList (by simp only[List.size_toArray];omega) ⟨.int xs.length,H,I.tok _,⟨_,by simp only[List.size_toArray];rw[hlen]⟩,q⟩
  ·subst e';obtain⟨its,r',pl,hz⟩:=I.tuple hx;have hlen:=r'.length;exact len_tuple pl (by simp only[List.size_toArray];omega) ⟨.int xs.length,H,I.tok _,⟨_,by simp only[List.size_toArray];rw[hlen]⟩,q⟩
 |_=>exact(show False from e).elim
end
structure zd(h:Heap)(x dx C:Addr)(mA:So):Prop where
 obj:h.get? x=some (instObj C dx)
 ns:h.Ns1 dx mA
 ne:dx≠x
theorem DF{h:Heap}{dx:Addr}{mA:So}(n:h.Ns1 dx mA):∃od,h.get? dx=some od/\∀name,lookIn name od=some (mA name):=by
 obtain⟨o,es,ep,ho,hd,hk,_,hm⟩:=n;refine⟨o,ho,λname=>?_⟩;have e:=hm name;unfold nsFind findBy at e;rw[<-Array.find?_toList]at e;unfold lookIn;rw[hd];dsimp only;split
 ·rename_i y q;rw[q]at e;exact congrArg some e
 ·rename_i q;rw[q]at e;have a:es.toList.any (·.refKey)=false:=by
   rw[List.any_eq_false];intro y hy;obtain⟨z,t,hkey⟩:=hk y (Array.mem_toList_iff.mp hy);simp[DictEntry.refKey,hkey]
  have a':¬es.toList.any (·.refKey)=true:=by rw[a];exact lE
  rw[if_neg a'];exact congrArg some e
theorem zd.look(I:zd h x dx C mA):∃od,PySem.W.InstAt h x (instObj C dx) C (some od)/\∀name,lookIn name od=some (mA name):=
 let ⟨od,ho,hl⟩:=DF I.ns
 ⟨od,⟨I.obj,rfl,rfl,ho⟩,hl⟩
section
variable{prog:Program}{w:World}{A:Around}{E:Vs}{s:Shared}{K:Wf}{x dx C f:Addr}{mA:So}{name:Str}{v:Value}
theorem get_map{expr:Bool}{Q:Vs}(X:K.In s.heap)(I:zd s.heap x dx C mA)(hg:plainGet K C name=true)(hh:hasDictIn K C=true)
  (ha:findIn K (.ref C) name=some none) (hv:mA name=some v) (hv':handedIn v=true) (h:Q v { s with toks:=s.toks+1 }):
  wpAny (model prog w) A (getAttr (.ref x) name expr) Q E s:=by
 obtain⟨od,J,hl⟩:=I.look;exact PySem.W.get_value X J (plainGet_of hg).1 (PySem.W.findObj_own hh ha rfl (by rw[hl,hv])) hv' h
theorem Iz(X:K.In s.heap)(I:zd s.heap x dx C mA)(hg:plainGet K C name=true)
  (hf:findIn K (.ref C) name=some (some (.ref f))) (ht:isFn K (.ref f)=true) (hv:mA name=none) (h:Q (.ref f,[.ref x]) s):
  wpAny (model prog w) A (getMethod (.ref x) name pl) Q E s:=by
 obtain⟨od,J,hl⟩:=I.look;exact PySem.W.method_fn X J (plainGet_of hg).1 (plainGet_of hg).2 hf (beq_iff_eq.mp ht) (by show(lookIn name od).map (·.isSome)=some false;rw[hl,hv];rfl) h
theorem Mj(X:K.In s.heap)(I:zd s.heap x dx C mA)
  (hs:findIn K (.ref C) "__setattr__" = some (some (.builtin "object.__setattr__"))) (hp:plainOver K C=true) (ht:takerIn K C name=some none) (hh:hasDictIn K C=true)
  (hw:PySem.Within mA ns) (hsz:ns.length<=sizeLine)
  (h:∀h',zd h' x dx C (λy=>if y=name then some v else mA y)->Heap.SameBut dx s.heap h'->Q () { s with heap:=h',toks:=s.toks+2 }):
  wpAny (model prog w) A (setAttr (.ref x) name v) Q E s:=by
 obtain⟨od,J,hl⟩:=I.look;refine PySem.W.set_plain X J hs (PySem.W.osa_open (s:={ s with toks:=s.toks+1 }) (r:=none) X J hp ht λb=>?_);obtain⟨cd,hc,hd'⟩:=PySem.W.any_some hh;have hx:s.heap.get? x=some ⟨.ref C,some dx,.plain,#[]⟩:=I.obj;refine aC (bB (aC (aC (wpAny_loadPart hx (aC (PySem.W.Looks.here (s:={ s with toks:=s.toks+1 }) (PySem.W.looks_clsIn X hc) ?_))))));rw[hd'];refine bB (a:=some dx) (aC (bB (aC ?_)));refine wpAny_nsSet1 (s:={ s with toks:=s.toks+1 }) I.ns λh' hn2 hs2=>?_;obtain⟨oD,esD,epD,hoD,hdD,hcD⟩:=hn2.count (PySem.Within.cons name v hw);refine aC (wpAny_lookBehind hoD (by rw[hdD];exact pastItsLine_dict (jt hcD (by rw[zS];omega))) ?_);exact bB (h _ ⟨(hs2.2 _ (Ne.symm I.ne)).trans I.obj,hn2,I.ne⟩ hs2)
theorem FN(X:K.In s.heap)(hm:makesIn K C=true)
  (hi:findIn K (.ref C) "__init__" = some (some (.ref f))) (hf:PySem.W.typeIn K (.ref f)=some (.type "function"))
  (h:codeAny (model prog w) (A.under (.builtin "type.__call__" ⟨.ref C::vs,kw⟩)) (.call (.ref f) ⟨.ref (s.heap.objs.size+1)::vs,kw⟩) (PySem.W.InitBack (s.heap.objs.size+1) R)
   { s with heap:=(s.heap.push emptyDict).push (instObj C s.heap.objs.size) }):
  codeAny (model prog w) A (.call (.ref C) ⟨vs,kw⟩) R s:=by
 obtain⟨hh,g,d,t,os⟩:=s;exact PySem.W.make_core (PySem.W.makes_of X hm) (PySem.W.looks_findIn X hi) (λself=>PySem.W.bind_fn X self hf) (.inl rfl) h
end
def putF(f:Str)(v:V):List (Str×V)->List (Str×V)
 |[]=>[(f,v)]
 | (g,x)::r=>if g=f then (g,v)::r else (g,x)::putF f v r
theorem jj(f g:Str)(v:V):∀fs:List (Str×V),(putF f v fs).lookup g=if g=f then some v else fs.lookup g
 |[]=>by
  show List.lookup g [(f,v)]=_;by_cases h:g=f
  ·have hb:(g == f)=true:=beq_iff_eq.mpr h;simp only[List.lookup,hb,if_pos h]
  ·have hb:(g == f)=false:=beq_eq_false_iff_ne.mpr h;simp only[List.lookup,hb,if_neg h]
 | (k,x)::r=>by
  have ih:=jj f g v r;rw[show putF f v ((k,x)::r)=(if k=f then (k,v)::r else (k,x)::putF f v r) from rfl];by_cases hk:k=f
  ·rw[if_pos hk];by_cases h:g=k
   ·have hb:(g == k)=true:=beq_iff_eq.mpr h;simp only[List.lookup,hb,if_pos (h.trans hk)]
   ·have hb:(g == k)=false:=beq_eq_false_iff_ne.mpr h;simp only[List.lookup,hb,if_neg (λe:g=f=>h (e.trans hk.symm))]
  ·rw[if_neg hk];by_cases h:g=k
   ·have hb:(g == k)=true:=beq_iff_eq.mpr h;simp only[List.lookup,hb,if_neg (λe:g=f=>hk (h.symm.trans e))]
   ·have hb:(g == k)=false:=beq_eq_false_iff_ne.mpr h;simp only[List.lookup,hb];exact ih
theorem iY(f:Str)(v:V):∀fs:List (Str×V),f∈(putF f v fs).map (·.1)/\∀g,g∈fs.map (·.1)->g∈(putF f v fs).map (·.1)
 |[]=>⟨by simp[putF],λg h=>by simp at h⟩
 | (k,x)::r=>by
  obtain⟨i1,i2⟩:=iY f v r;rw[show putF f v ((k,x)::r)=(if k=f then (k,v)::r else (k,x)::putF f v r) from rfl];by_cases hk:k=f
  ·rw[if_pos hk];subst hk;exact⟨by simp,λg h=>by simpa using h⟩
  ·rw[if_neg hk];refine⟨?_,λg h=>?_⟩
   ·rw[lF];exact h8 _ i1
   ·rw[lF]at h ⊢;rcases hZ.mp h with e|e
    ·exact hZ.mpr (.inl e)
    ·exact h8 _ (i2 g e)
theorem jy(f:Str)(v:V):∀fs:List (Str×V),(putF f v fs).length<=fs.length+1
 |[]=>by simp[putF]
 | (k,x)::r=>by
  have ih:=jy f v r;rw[show putF f v ((k,x)::r)=(if k=f then (k,v)::r else (k,x)::putF f v r) from rfl];by_cases hk:k=f
  ·rw[if_pos hk,zS,zS];omega
  ·rw[if_neg hk,zS,zS];omega
theorem fK.some_of(r:fK (some v) o):∃u,o=some u/\RelV v u:=by
 cases o with
 |none=>exact(show False from r).elim
 |some u=>exact⟨u,rfl,r⟩
theorem fK.none_of(r:fK none o):o=none:=by
 cases o with
 |none=>rfl
 |some u=>exact(show False from r).elim
theorem Dc(r:RelV v u):handedIn u=true:=by
 cases v with
 |bh=>cases (show u=Value.none from r);rfl
 |bl b=>cases (show u=Value.bool b from r);rfl
 |int i=>obtain⟨t,e⟩:=(show ∃t,u=Value.int i t from r);cases e;rfl
 |str x=>obtain⟨t,e⟩:=(show ∃t,u=Value.str x t from r);cases e;rfl
 |yX b=>obtain⟨t,e⟩:=(show ∃t,u=Value.bytes b t from r);cases e;rfl
 |Qa b=>obtain⟨t,e⟩:=(show ∃t,u=Value.float b t from r);cases e;rfl
 |ref a=>cases (show u=Value.ref a from r);rfl
 |ty n=>cases (show u=Value.type n from r);rfl
section
variable{P:Program}{w:World}{H H':Hp}{h h':Heap}{a C dx:Addr}{fs fs':List (Str×V)}
theorem jL(aW:gL P w H h)(e:H a=some (.ins C dx fs)):∃mA,zd h a dx C mA/\(∀f,fK (fs.lookup f) (mA f))/\PySem.Within mA (fs.map (·.1))/\fs.length<=1000/\H dx=some (.own a):=by
 obtain⟨d,z,ne,ob,mA,n,r,q⟩:=(show bg P w H h a (.ins C dx fs) from aW a _ e)
 exact⟨mA,⟨ob,n,ne⟩,r,q,z,d⟩
end
structure xw(K:Wf)(C:Addr):Prop where
 pg:plainGet K C Str.empty=true
 hd:hasDictIn K C=true
 po:plainOver K C=true
 sa:findIn K (.ref C) "__setattr__" = some (some (.builtin "object.__setattr__"))
theorem xw.get{K:Wf}{C:Addr}(c:xw K C)(f:Str):plainGet K C f=true:=c.pg
def bf(K:Wf)(C:Addr)(f:Str):Prop:=findIn K (.ref C) f=some none
theorem bf.Rv{K:Wf}{C:Addr}{f:Str}(n:bf K C f):takerIn K C f=some none:=by
 unfold takerIn;rw[show findIn K (.ref C) f=some none from n];rfl
structure Meth(K:Wf)(C:Addr)(m:Str)(f:Addr):Prop where
 at_:findIn K (.ref C) m=some (some (.ref f))
 fn:isFn K (.ref f)=true
 kp:keepIn K (.ref f)=true
section
variable{X:Cx}{pins:Lo}{σ:St}{H:Hp}{s:Shared}{a C dx:Addr}{fs:List (Str×V)}{f:Str}{v:V}{A:Around}{E:Vs}
theorem zG{b:Bool}{Q:Vs}(I:Inv X pins σ H s)(e:H a=some (.ins C dx fs))(c:xw X.K C)(n:bf X.K C f)(l:fs.lookup f=some v)
  (h:∀u s',Inv X pins σ H s'->RelV v u->Q u s'):wpAny (model X.prog X.w) A (getAttr (.ref a) f b) Q E s:=by
 obtain⟨mA,O,r,_,_,_⟩:=jL I.aW e;obtain⟨u,hu,ru⟩:=fK.some_of (v:=v) (o:=mA f) (by rw[<-l];exact r f);exact get_map I.i8 O (c.get f) c.hd n hu (Dc ru) (h u _ (I.tok _) ru)
theorem lx(I:Inv X pins σ H s)(e:H a=some (.ins C dx fs))(c:xw X.K C)(k:Meth X.K C m g)(l:fs.lookup m=none)
  (h:Q (.ref g,[.ref a]) s):wpAny (model X.prog X.w) A (getMethod (.ref a) m pl) Q E s:=by
 obtain⟨mA,O,r,_,_,_⟩:=jL I.aW e;have hn:mA m=none:=fK.none_of (by rw[<-l];exact r m);exact Iz I.i8 O (c.get m) k.at_ k.fn hn h
theorem zA(I:Inv X pins σ H s)(e:H a=some (.ins C dx fs))(c:xw X.K C)(n:bf X.K C f)(hl:fs.length<1000)(ry:RelV y u)
  (h:∀s',Inv X pins σ (upd H a (.ins C dx (putF f y fs))) s'->Q () s'):wpAny (model X.prog X.w) A (setAttr (.ref a) f u) Q E s:=by
 obtain⟨mA,O,r,wi,_,ho⟩:=jL I.aW e;have hz:(fs.map (·.1)).length<=sizeLine:=by rw[aI,sizeLine_eq];omega
 refine Mj I.i8 O c.sa c.po n.Rv c.hd wi hz λh' O' sb=>h _ ?_;have hd:∃o,h'.get? dx=some o:=let ⟨o,_,_,e',_⟩:=O'.ns;⟨o,e'⟩
 refine I.write (x:=a) (e:=dx) (by rw[e];exact True.intro) (.inr ho) (λb q hb z=>(sb.2 b hb).trans z) hd ?_;refine⟨by rw[ae O.ne];exact ho,?_,O.ne,O'.obj,_,O'.ns,λg=>?_,λg hg=>?_⟩
 ·have:=jy f y fs;omega
 ·show fK ((putF f y fs).lookup g) (if g=f then some u else mA g);rw[jj];by_cases q:g=f
  ·rw[if_pos q,if_pos q];exact ry
  ·rw[if_neg q,if_neg q];exact r g
 ·by_cases q:g=f
  ·rw[q];exact(iY f y fs).1
  ·refine(iY f y fs).2 g (wi g λz=>hg ?_);show(if g=f then some u else mA g)=none;rw[if_neg q];exact z
theorem Inv.made(I:Inv X pins σ H s):Inv X pins σ (upd (upd H s.heap.objs.size (.own (s.heap.objs.size+1))) (s.heap.objs.size+1) (.ins C s.heap.objs.size []))
  { s with heap:=(s.heap.push emptyDict).push (instObj C s.heap.objs.size) }:=by
 have e1:(s.heap.push emptyDict).get? s.heap.objs.size=some emptyDict:=iy s.heap rfl;have e2:((s.heap.push emptyDict).push (instObj C s.heap.objs.size)).get? (s.heap.objs.size+1)=some (instObj C s.heap.objs.size):=by
  have:=iy (s.heap.push emptyDict) (o:=instObj C s.heap.objs.size) rfl
  rwa [Heap.size_push]at this
 have e3:(s.heap.push emptyDict).Ns s.heap.objs.size (λ_=>none):=⟨emptyDict,#[],_,e1,rfl,(λe he=>absurd he (by simp)),λ_=>rfl⟩
 have I1:=I.laid (a:=s.heap.objs.size) (o:=.own (s.heap.objs.size+1)) (h':=s.heap.push emptyDict) (t':=s.toks) (λb u q=>d9 _ q) (bw _) ⟨_,e1⟩;refine I1.laid (a:=s.heap.objs.size+1) (o:=.ins C s.heap.objs.size []) (t':=s.toks) (λb u q=>d9 _ q) (Nat.le_of_eq (Heap.size_push _ _)) ?_;have ne:s.heap.objs.size≠s.heap.objs.size+1:=gI (Tw _);refine⟨by rw[ae ne,aD],gH _,ne,e2,λ_=>none,(Heap.Ns1.of_empty e3).at λo q=>d9 _ q,λ_=>True.intro,λy hy=>absurd rfl hy⟩
theorem Na{prog:Program}{w:World}{env:Env}{e:Expr}{f:Str}{pos:Pos}{s:Shared}{Q:Vs}(hb:attributeBase e f env (eval e env)=eval e env)
  (h:wpAny (model prog w) A (eval e env) (λo s₁=>wpAny (model prog w) A (getAttr o f true) Q E s₁) E s):wpAny (model prog w) A (eval (.Attribute e f pos) env) Q E s:=
 Attribute_any_ h (by rw[arm_eval_Attribute,hb])
end
def XE(K:Wf)(ta:TE)(f:Str):TE:=λσ H Q=>ta σ H λx H1=>∃a C dx fs v,x=.ref a/\H1 a=some (.ins C dx fs)/\xw K C/\bf K C f/\fs.lookup f=some v/\Q v H1
def X1(K:Wf)(ta tv:TE)(f:Str):TS:=λD σ H=>tv σ H λy H1=>ta σ H1 λx H2=>∃a C dx fs,x=.ref a/\H2 a=some (.ins C dx fs)/\xw K C/\bf K C f/\fs.length<1000/\
 D.nx σ (upd H2 a (.ins C dx (putF f y fs)))
section
variable{X:Cx}{o e value:Expr}{f:Str}{pos pos' tpos:Pos}{ta tv:TE}
theorem bN(he:PE X e ta)(hb:attributeBase e f X.env (eval e X.env)=eval e X.env):PE X (.Attribute e f pos) (XE X.K ta f):=by
 intro pins s σ H Q I h;refine Na hb (bA (he pins s σ H _ I h) λu s1 ⟨x,H1,I1,rx,a,C,dx,fs,v,ex,ea,c,n,l,q⟩=>?_);subst ex;obtain rfl:u=Value.ref a:=rx;exact zG I1 ea c n l λu' s2 I2 ru=>⟨v,H1,I2,ru,q⟩
theorem cA(ha:PE X o ta)(hv:PE X value tv)(hs:swapsWith value (some (.Attribute o f pos')) pos.line X.env=pure false):PS X (.Assign [.Attribute o f pos'] value pos) (X1 X.K ta tv f):=by
 intro pins s σ H D I h;refine plainObj_wpAny_Assign_Attribute (bA (hv pins s σ H _ I h) λu s1 ⟨y,H1,I1,ry,q⟩=>bA (ha pins s1 σ H1 _ I1 q) λov s2 ⟨x,H2,I2,rx,a,C,dx,fs,ex,ea,c,n,l,q2⟩=>?_) hs;subst ex;obtain rfl:ov=Value.ref a:=rx;exact zA I2 ea c n l ry λs3 I3=>⟨σ,_,I3,q2⟩
end
section
variable{X:Cx}{pins:Lo}{σ:St}{H:Hp}{s:Shared}{A:Around}{E:Vs}{Q:Vs}{c:Value}{b:Bool}
set_option genInjectivity true in
inductive h7 (K:Wf) (H:Hp):V->Value->Prop where
 |bh:h7 K H .bh (.type "NoneType")
 |bl (x:Bool):h7 K H (.bl x) (.type "bool")
 |int (i:Int):h7 K H (.int i) (.type "int")
 |str (x:Str):h7 K H (.str x) (.type "str")
 |Qa (x:UInt64):h7 K H (.Qa x) (.type "float")
 |lst {a:Addr}{xs:List V}(e:H a=some (.lst xs)):h7 K H (.ref a) (.type "list")
 |fY {a:Addr}{o:Obj}{xs:List V}(e:H a=some (.fY o (.lst xs))):h7 K H (.ref a) (.type "list")
 |tup {a:Addr}{xs:List V}(e:H a=some (.tup xs)):h7 K H (.ref a) (.type "tuple")
 |dK {a:Addr}{kvs:List (Key×V)}(e:H a=some (.dK kvs)):h7 K H (.ref a) (.type "dict")
 |dT {a:Addr}{kvs:List (List Key×V)}(e:H a=some (.dT kvs)):h7 K H (.ref a) (.type "dict")
 |ins {a C dx:Addr}{fs:List (Str×V)}(e:H a=some (.ins C dx fs)) (cl:xw K C) (ha:findIn K (.ref C) "__class__" = some (some (.builtin "object.__class__")))
   (hn:specialIn K (.builtin "object.__class__") "__get__" = some (some (.builtin "getset_descriptor.__get__"))) (htk:takesIn K (.builtin "object.__class__")=some true)
   (hm:mroIn K C (.type "object")=some true):h7 K H (.ref a) (.ref C)
theorem mF(I:Inv X pins σ H s)(rx:RelV x u)(ty:h7 X.K H x t)(e:kitOne X.K t c=some b)(h:∀tk,Q (.bool b) { s with toks:=tk }):
  wpAny (model X.prog X.w) A (call (.builtin "isinstance") [u,c]) Q E s:=by
 cases ty with
 |bh=>cases (show u=Value.none from rx);exact kia_one PySem.W.kitx_none I.i8 True.intro e (λz=>nomatch z) h
 |bl y=>cases (show u=Value.bool y from rx);exact kia_one PySem.W.kitx_bool I.i8 True.intro e (λz=>nomatch z) h
 |int i=>obtain⟨t,q⟩:=(show ∃t,u=Value.int i t from rx);cases q;exact kia_one PySem.W.kitx_int I.i8 True.intro e (λz=>nomatch z) h
 |str y=>obtain⟨t,q⟩:=(show ∃t,u=Value.str y t from rx);cases q;exact kia_one PySem.W.kitx_str I.i8 True.intro e (λz=>nomatch z) h
 |Qa y=>obtain⟨t,q⟩:=(show ∃t,u=Value.float y t from rx);cases q;exact kia_one PySem.W.kitx_float I.i8 True.intro e (λz=>nomatch z) h
 |@lst a xs ea=>
  cases (show u=Value.ref a from rx);obtain⟨_,_,n,_,h1⟩:=(show bg X.prog X.w H s.heap a (.lst xs) from I.aW a _ ea)
  exact kia_one kitx_list I.i8 ⟨_,h1,rfl⟩ e (λz=>nomatch z) h
 |@fY a ob xs ea=>
  cases (show u=Value.ref a from rx);obtain⟨_,_,_,n,_,h1⟩:=(show bg X.prog X.w H s.heap a (.fY ob (.lst xs)) from I.aW a _ ea)
  exact kia_one kitx_list I.i8 ⟨_,h1,rfl⟩ e (λz=>nomatch z) h
 |@tup a xs ea=>
  cases (show u=Value.ref a from rx);obtain⟨_,_,_,p⟩:=(show bg X.prog X.w H s.heap a (.tup xs) from I.aW a _ ea)
  obtain⟨o,h1,h2,_⟩:=p;exact kia_one PySem.W.kitx_tuple I.i8 ⟨o,h1,h2⟩ e (λz=>nomatch z) h
 |@dK a kvs ea=>
  cases (show u=Value.ref a from rx);obtain⟨_,_,vs,_,p⟩:=(show bg X.prog X.w H s.heap a (.dK kvs) from I.aW a _ ea)
  obtain⟨o,es,ep,h1,h2,_⟩:=p;exact kia_one kitx_dict I.i8 ⟨o,h1,h2.1⟩ e (λz=>nomatch z) h
 |@dT a kvs ea=>
  cases (show u=Value.ref a from rx);obtain⟨_,_,xs,_,o,es,ep,h1,h2,_⟩:=(show bg X.prog X.w H s.heap a (.dT kvs) from I.aW a _ ea)
  exact kia_one kitx_dict I.i8 ⟨o,h1,h2.1⟩ e (λz=>nomatch z) h
 |@ins a C dx fs ea cl ha hn htk hm=>
  cases (show u=Value.ref a from rx);obtain⟨mA,O,_⟩:=jL I.aW ea;obtain⟨od,J,_⟩:=O.look;exact kia_one (PySem.W.kitx_own (cl.get _) cl.hd ha hn htk hm) I.i8 J e (λz=>nomatch z) h
end
structure cz(k:Nat)(A:Around):Prop where
 hd:A.handled=none
 dp:A.depth+3*k+5<recursionLimit
 un:A.units+16*k+200<cLine
theorem cz.mono{j k:Nat}{A:Around}(r:cz k A)(h:j<=k):cz j A:=⟨r.hd,by have:=r.dp;omega,by have:=r.un;omega⟩
theorem cz.deeper(r:cz (k+1) A)(env:Env):cz k (A.deeper env):=
 ⟨r.hd,by have:=r.dp;show A.depth+1+3*k+5<_;omega,by have:=r.un;show A.units+3+16*k+200<_;omega⟩
theorem cz.in1{k:Nat}{A:Around}(r:cz (k+1) A):cz k A.in1:=
 ⟨r.hd,by have:=r.dp;show A.depth+3*k+5<_;omega,by have:=r.un;show A.units+1+16*k+200<_;omega⟩
theorem ze{A:Around}{C:Addr}{us:List Value}{kw:List (Str×Value)}:(A.under (.builtin "type.__call__" ⟨.ref C::us,kw⟩)).depth=A.depth+1:=by
 first|rfl|simp[Around.under,Code.weight,Code.isCreation,Code.isGuard,Code.isCaller,Code.frames,Code.isFrame,guardIds]
theorem zg{A:Around}{C:Addr}{us:List Value}{kw:List (Str×Value)}:(A.under (.builtin "type.__call__" ⟨.ref C::us,kw⟩)).units=A.units+1:=by
 first|rfl|simp[Around.under,Code.cUnits,Code.frames,Code.isFrame]
theorem cz.make{k:Nat}{A:Around}(r:cz (k+1) A)(C:Addr)(us:List Value)(kw:List (Str×Value)):cz k (A.under (.builtin "type.__call__" ⟨.ref C::us,kw⟩)):=
 ⟨r.hd,by have:=r.dp;rw[ze];omega,by have:=r.un;rw[zg];omega⟩
theorem cz.depth(r:cz k A):A.depth<recursionLimit:=by have:=r.dp;omega
theorem cz.units(r:cz k A):A.units+64<cLine:=by have:=r.un;omega
def O8:TA:=λ_ H Q=>Q [] H
def N4(ta:TE)(tr:TA):TA:=λσ H Q=>ta σ H λx H1=>tr σ H1 λxs H2=>Q (x::xs) H2
section
variable{X:Cx}{e:Expr}{es:List Expr}{te:TE}{t:TA}{pos:Pos}
theorem aa:PA X [] O8:=λ_ _ _ _ H Q I h=>Calls.spliced_nil ⟨[],H,I,.nil,h⟩
theorem ah(ha:PE X e te)(hr:PA X es t)(hs:starEach (e::es) X.env=(false,eval e X.env)::starEach es X.env:=by rfl):PA X (e::es) (N4 te t):=by
 intro pos pins s σ H Q I h;rw[hs];show wpAny _ _ (spliced ((false,eval e X.env)::backTo pos (starEach es X.env))) _ _ s;refine Calls.spliced_cons (bA (ha pins s σ H _ I h) λu s1 ⟨x,H1,I1,r1,q1⟩=>?_);exact bA (hr pos pins s1 σ H1 _ I1 q1) λus s2 ⟨xs,H2,I2,r2,q2⟩=>⟨x::xs,H2,I2,.cons r1 r2,q2⟩
def XZ(t:TA):TE:=λσ H Q=>t σ H λxs H1=>xs.length<=sizeLine/\∀p,H1 p=none->Q (.ref p) (upd H1 p (.tup xs))
def V4(t:TA):TE:=λσ H Q=>t σ H λxs H1=>xs.length<=sizeLine/\∀p,H1 p=none->Q (.ref p) (upd H1 p (.lst xs))
theorem aQ(h:PA X es t):PE X (.Tuple es x1 pos) (XZ t):=by
 intro pins s σ H Q I hq;refine wpAny_Tuple_spliced (bA (h pos pins s σ H _ I hq) λus s1 ⟨xs,H1,I1,r,z,q⟩=>⟨by rw[<-r.length];exact z,?_⟩);have hf:H1 s1.heap.objs.size=none:=I1.aW.fresh (bw _);refine⟨.ref s1.heap.objs.size,upd H1 s1.heap.objs.size (.tup xs),I1.laid (t':=s1.toks) (λb u e=>d9 _ e) (bw _) ?_,rfl,q _ hf⟩;exact⟨z,us,r,⟨_,iy _ rfl,rfl,_,rfl⟩⟩
theorem bx(h:PA X es t):PE X (.List es pos) (V4 t):=by
 intro pins s σ H Q I hq;refine wpAny_List_spliced (bA (h pos pins s σ H _ I hq) λus s1 ⟨xs,H1,I1,r,z,q⟩=>⟨by rw[<-r.length];exact z,?_⟩);have hf:H1 s1.heap.objs.size=none:=I1.aW.fresh (bw _);refine⟨.ref s1.heap.objs.size,upd H1 s1.heap.objs.size (.lst xs),I1.laid (t':=s1.toks) (λb u e=>d9 _ e) (bw _) ?_,rfl,q _ hf⟩;exact⟨z,us,0,r,iy _ rfl⟩
end
abbrev Sp:=List V->Hp->VK->XK->Prop
abbrev Eb:=List Env->Hp->Shared->XK->Value->Shared->Prop
structure lh(P:Program)(w:World)(K:Wf)(mg:So)(base:Heap)(A:Around)(outer:List Env)(s:Shared)(H:Hp):Prop where
 frames:A.frames=some outer
 mod:Mod K mg base
 bs:∀b o,base.get? b=some o->s.heap.get? b=some o/\H b=none
 EU:base.objs.size<=s.heap.objs.size
 ir:s.heap.FunFrames base outer
 LZ:∀b∈yV outer,H b=none
 aW:gL P w H s.heap
 bare:AllBare s.gens
def CE(outer:List Env)(P:Program)(w:World)(H:Hp)(s:Shared)(Q:VK)(u:Value)(s':Shared):Prop:=
 ∃v H',s'.os=s.os/\AllBare s'.gens/\Un (yV outer) [] H H' s.heap s'.heap/\gL P w H' s'.heap/\RelV v u/\Q v H'
def CR(CX:Eb)(outer:List Env)(P:Program)(w:World)(H:Hp)(s:Shared)(Q:VK)(E:XK)(r:Result)(s':Shared):Prop:=
 match r with
 |.ok (.ret u)=>CE outer P w H s Q u s'
 |.ok _=>False
 |.error e=>CX outer H s E e s'
structure aY(P:Program)(w:World)(K:Wf)(mg:So)(base:Heap)(CX:Eb)(k:Nat)(f:Addr)(fd:FuncData)(ps:List Str)(sp:Sp):Prop where
 len:∀vs H Q E,sp vs H Q E->vs.length=ps.length
 run:∀(A:Around) (outer:List Env) (s:Shared) (H:Hp) (args:Args) (us:List Value) (vs:List V) (Q:VK) (E:XK),cz k A->lh P w K mg base A outer s H->BindsTo s fd args (ps.zip us)->Vals vs us->sp vs H Q E->
  codeAny (model P w) A (.call (.ref f) args) (CR CX outer P w H s Q E) s
theorem lh.make{P:Program}{w:World}{K:Wf}{mg:So}{base:Heap}{A:Around}{outer:List Env}{s:Shared}{H:Hp}(e:lh P w K mg base A outer s H)(C:Addr)(us:List Value)(kw:List (Str×Value)):
  lh P w K mg base (A.under (.builtin "type.__call__" ⟨.ref C::us,kw⟩)) outer s H:=⟨by first|exact e.frames|(simpa [Around.under,Code.envs,Code.isFrame,pushEnvs] using e.frames),e.mod,e.bs,e.EU,e.ir,e.LZ,e.aW,e.bare⟩
theorem lh.in1{P:Program}{w:World}{K:Wf}{mg:So}{base:Heap}{A:Around}{outer:List Env}{s:Shared}{H:Hp}(e:lh P w K mg base A outer s H):
  lh P w K mg base A.in1 outer s H:=⟨e.frames,e.mod,e.bs,e.EU,e.ir,e.LZ,e.aW,e.bare⟩
section
variable{X:Cx}{pins:Lo}{σ:St}{H:Hp}{s s':Shared}
theorem Inv.OT(I:Inv X pins σ H s):lh X.prog X.w X.K X.mg X.base X.A X.stack s H:=
 ⟨I.ok.frames,I.ok.mod,I.bs,jt I.ok.EU I.sz,I.stack,I.Cy,I.aW,I.bare⟩
theorem Inv.after(I:Inv X pins σ H s)(h:CE X.stack X.prog X.w H s Q u s'):EP X pins σ Q u s':=by
 obtain⟨v,H',os,bare,un,aW,r,q⟩:=h;obtain⟨hh,g,d,t,os'⟩:=s';obtain rfl:os'=s.os:=os;exact⟨v,H',I.call (h':=hh) (g':=g) (d':=d) (t':=t) (ch:=[]) un aW bare (λb z=>absurd z (by simp)),r,q⟩
end
def JG(sp:Sp)(dvs:List V)(E:XK)(t:TA):TE:=λσ H Q=>t σ H λvs H1=>sp (vs++dvs) H1 Q E
def N2(C:Addr)(m:Str)(sp:Sp)(dvs:List V)(E:XK)(ta:TE)(t:TA):TE:=λσ H Q=>ta σ H λx H1=>∃a dx fs,x=.ref a/\H1 a=some (.ins C dx fs)/\fs.lookup m=none/\
 t σ H1 λvs H2=>sp (x::(vs++dvs)) H2 Q E
def UB(C:Addr)(sp:Sp)(dvs:List V)(E:XK)(t:TA):TE:=λσ H Q=>t σ H λvs H1=>∀x dx,H1 x=none->H1 dx=none->dx≠x->
 sp (.ref x::(vs++dvs)) (upd (upd H1 dx (.own x)) x (.ins C dx [])) (λv H2=>v=.bh/\Q (.ref x) H2) E
def Binds(K:Wf)(fd:FuncData)(ps:List Str)(ds:List Value):Prop:=
 ∀(s:Shared) (us:List Value),K.In s.heap->(us++ds).length=ps.length->BindsTo s fd ⟨us,[]⟩ (ps.zip (us++ds))
theorem Binds.all{K:Wf}{fd:FuncData}{ps:List Str}(h:∀us:List Value,us.length=ps.length->bindArgs fd ⟨us,[]⟩=pure (ps.zip us)):Binds K fd ps []:=λs us _ hl=>by
 rw[Ed]at hl ⊢;exact .of_eq (h us hl)
def Passes(CX:Eb)(X:Cx)(E:XK):Prop:=∀(pins:Lo) (σ:St) (H:Hp) (s:Shared) (e:Value) (s':Shared),Inv X pins σ H s->CX X.stack H s E e s'->X.xe e s'
section
variable{X:Cx}{CX:Eb}{k:Nat}{f C:Addr}{fd:FuncData}{ps:List Str}{sp:Sp}{dvs:List V}{ds:List Value}{E:XK}{x m:Str}{p pos apos:Pos}{e o:Expr}{es:List Expr}{ta:TE}{t:TA}
theorem zc{pins:Lo}{σ:St}{H:Hp}{s:Shared}{Q:VK}{us:List Value}{vs:List V}(F:aY X.prog X.w X.K X.mg X.base CX k f fd ps sp)(hr:cz k X.A)(hb:Binds X.K fd ps ds)(hd:Vals dvs ds)(hx:Passes CX X E)
  (I:Inv X pins σ H s) (r:Vals vs us) (h:sp (vs++dvs) H Q E):wpAny (model X.prog X.w) X.A (call (.ref f) us) (EP X pins σ Q) X.xe s:=by
 have r2:Vals (vs++dvs) (us++ds):=r.append hd;have hl:(us++ds).length=ps.length:=by rw[<-r2.length];exact F.len _ _ _ _ h
 refine wpAny_call (codeAny_mono (F.run X.A X.stack s H ⟨us,[]⟩ (us++ds) (vs++dvs) Q E hr I.OT (hb s us I.i8 hl) r2 h) λr s' hq=>?_);cases r with
 |error e=>exact hx pins σ H s e s' I hq
 |ok fl=>
  cases fl with
  |ret u=>exact I.after hq
  |next=>exact False.elim hq
  |brk=>exact False.elim hq
  |cont=>exact False.elim hq
theorem LS(F:aY X.prog X.w X.K X.mg X.base CX k f fd ps sp)(hr:cz k X.A)(hg:Gl X x)(hm:X.mg x=some (.ref f))(hk:keepIn X.K (.ref f)=true)(hb:Binds X.K fd ps ds)(hd:Vals dvs ds)(hx:Passes CX X E)
  (ha:PA X (e::es) t) (hdb:(x == ("__debug__" : Str))=false:=by decide) (he:starEach (e::es) X.env=(false,eval e X.env)::starEach es X.env:=by rfl) (hpl:(backTo pos (starEach es X.env)).any (·.1)=false:=by rfl):
  PE X (.Call (.Name x p) (e::es) [] pos) (JG sp dvs E t):=by
 intro pins s σ H Q I h;refine Ri (xp I hg hm ?_ hdb);refine callWith_K (h₀:=X.base) I.ok.mod.Q3 hk (bA (ha pos pins s σ H _ I h) λus s1 ⟨vs,H1,I1,r,q⟩=>⟨I1.i8,?_⟩) he hpl;exact zc F hr hb hd hx I1 r q
theorem fC{pl:Sem Bool}(he:PE X o ta)(c:xw X.K C)(hm:Meth X.K C m f)(F:aY X.prog X.w X.K X.mg X.base CX k f fd ps sp)(hr:cz k X.A)(hb:Binds X.K fd ps ds)(hd:Vals dvs ds)(hx:Passes CX X E)(ha:PA X (e::es) t)
  (hst:starEach (e::es) X.env=(false,eval e X.env)::starEach es X.env:=by rfl) (hpl:(backTo pos (starEach es X.env)).any (·.1)=false:=by rfl)
  (ht:eval (.Call (.Attribute o m apos) (e::es) [] pos) X.env=(do
   let ov <-eval o X.env
   standAt apos.atName
   let (f,first) <-holding [ov] (getMethod ov m pl)
   callWith pos f first (backTo pos (starEach (e::es) X.env)) (backToKw pos (keywordEach [] X.env))):=by rfl):
  PE X (.Call (.Attribute o m apos) (e::es) [] pos) (N2 C m sp dvs E ta t):=by
 intro pins s σ H Q I h;refine methodCall_KW (pl:=pl) (bA (he pins s σ H _ I h) λu s1 ⟨x,H1,I1,rx,a,dx,fs,ex,ea,l,q⟩=>?_) ht;subst ex;obtain rfl:u=Value.ref a:=rx;refine lx I1 ea c hm l ?_;refine callWith_K (first:=[.ref a]) (h₀:=X.base) I.ok.mod.Q3 hm.kp (bA (ha pos pins s1 σ H1 _ I1 q) λus s2 ⟨vs,H2,I2,r,q2⟩=>⟨I2.i8,?_⟩) hst hpl;exact zc (us:=.ref a::us) (vs:=.ref a::vs) F hr hb hd hx I2 (.cons rfl r) q2
theorem kj(he:PE X o ta)(c:xw X.K C)(hm:Meth X.K C m f)(F:aY X.prog X.w X.K X.mg X.base CX k f fd ps sp)(hr:cz k X.A)(hb:Binds X.K fd ps ds)(hd:Vals dvs ds)(hx:Passes CX X E)
  (ht:eval (.Call (.Attribute o m apos) [] [] pos) X.env=(do
   let ov <-eval o X.env
   standAt apos.atName
   let (f,first) <-holding [ov] (getMethod ov m pl)
   callWith pos f first (backTo pos (starEach [] X.env)) (backToKw pos (keywordEach [] X.env))):=by rfl):
  PE X (.Call (.Attribute o m apos) [] [] pos) (N2 C m sp dvs E ta O8):=by
 intro pins s σ H Q I h;refine methodCall_KW (pl:=pl) (bA (he pins s σ H _ I h) λu s1 ⟨x,H1,I1,rx,a,dx,fs,ex,ea,l,q⟩=>?_) ht;subst ex;obtain rfl:u=Value.ref a:=rx;refine lx I1 ea c hm l ?_;exact PySem.W.callWith_K0 (first:=[.ref a]) I1.i8 hm.kp (zc (us:=[.ref a]) (vs:=[.ref a]) F hr hb hd hx I1 (.cons rfl .nil) q)
structure Mk(K:Wf)(C f:Addr):Prop where
 makes:makesIn K C=true
 init:findIn K (.ref C) "__init__" = some (some (.ref f))
 fn:isFn K (.ref f)=true
 kp:keepIn K (.ref C)=true
theorem FA{pins:Lo}{σ:St}{H:Hp}{s:Shared}{Q:VK}{us:List Value}{vs:List V}(M:Mk X.K C f)(F:aY X.prog X.w X.K X.mg X.base CX k f fd ps sp)(hr:cz (k+1) X.A)(hb:Binds X.K fd ps ds)(hd:Vals dvs ds)
  (hx:Passes CX X E) (I:Inv X pins σ H s) (r:Vals vs us)
  (h:∀x dx,H x=none->H dx=none->dx≠x->sp (.ref x::(vs++dvs)) (upd (upd H dx (.own x)) x (.ins C dx [])) (λv H2=>v=.bh/\Q (.ref x) H2) E):
  wpAny (model X.prog X.w) X.A (call (.ref C) us) (EP X pins σ Q) X.xe s:=by
 have hq:=h (s.heap.objs.size+1) s.heap.objs.size (I.aW.fresh (Nat.le_succ _)) (I.aW.fresh (bw _)) (gI (Tw _));have I2:=Inv.made (C:=C) I;have r2:Vals (V.ref (s.heap.objs.size+1)::(vs++dvs)) (Value.ref (s.heap.objs.size+1)::(us++ds)):=.cons rfl (r.append hd);have hl:(Value.ref (s.heap.objs.size+1)::us++ds).length=ps.length:=by
  have e:=r2.length;rw[F.len _ _ _ _ hq]at e;exact e.symm
 refine wpAny_call (FN (f:=f) I.i8 M.makes M.init (beq_iff_eq.mp M.fn) (codeAny_mono (F.run _ X.stack _ _ ⟨Value.ref (s.heap.objs.size+1)::us,[]⟩ (Value.ref (s.heap.objs.size+1)::(us++ds)) _ _ E (hr.make C us [])
  (I2.OT.make C us []) (hb _ (Value.ref (s.heap.objs.size+1)::us) I2.i8 hl) r2 hq) λr s' hq'=>?_))
 cases r with
 |error e=>exact hx pins σ _ _ e s' I2 hq'
 |ok fl=>
  cases fl with
  |ret u=>
   obtain⟨v,H',I3,rv,ev,q3⟩:=I2.after hq';subst ev;exact⟨rv,⟨V.ref (s.heap.objs.size+1),H',I3,rfl,q3⟩⟩
  |next=>exact False.elim hq'
  |brk=>exact False.elim hq'
  |cont=>exact False.elim hq'
theorem gJ(M:Mk X.K C f)(F:aY X.prog X.w X.K X.mg X.base CX k f fd ps sp)(hr:cz (k+1) X.A)(hg:Gl X x)(hm:X.mg x=some (.ref C))(hb:Binds X.K fd ps ds)(hd:Vals dvs ds)(hx:Passes CX X E)
  (ha:PA X (e::es) t) (hdb:(x == ("__debug__" : Str))=false:=by decide) (he:starEach (e::es) X.env=(false,eval e X.env)::starEach es X.env:=by rfl) (hpl:(backTo pos (starEach es X.env)).any (·.1)=false:=by rfl):
  PE X (.Call (.Name x p) (e::es) [] pos) (UB C sp dvs E t):=by
 intro pins s σ H Q I h;refine Ri (xp I hg hm ?_ hdb);refine callWith_K (h₀:=X.base) I.ok.mod.Q3 M.kp (bA (ha pos pins s σ H _ I h) λus s1 ⟨vs,H1,I1,r,q⟩=>⟨I1.i8,?_⟩) he hpl;exact FA M F hr hb hd hx I1 r q
end
structure au(N P:List Str)(sc:Scope):Prop where
 kind:sc.kind=.function
 co:sc.isCoroutine=false
 gen:sc.isGenerator=false
 nd:N.Nodup
 pre:N.take P.length=P
 par:∀x∈P,sc.names.lookup x=some .local\/sc.names.lookup x=some .cell
 QP:∀y∈sc.names,y.2≠.free
theorem mJ{kindOf:Str->Option NameKind}:∀{binds:List (Str×Value)}{m:So},(∀v,(x,v)∉binds)->bindL kindOf binds m x=m x
 |[],_,_=>rfl
 | (n,v)::r,m,h=>by
  unfold bindL;rw[mJ λw hw=>h w (h8 _ hw)];split
  ·have:x≠n:=by rintro rfl;exact h v lO
   simp[this]
  ·rfl
theorem mx{kindOf:Str->Option NameKind}:∀{binds:List (Str×Value)}{m:So},(∀v,(x,v)∉binds)->bindC kindOf binds m x=m x
 |[],_,_=>rfl
 | (n,v)::r,m,h=>by
  unfold bindC;rw[mx λw hw=>h w (h8 _ hw)];split
  ·rfl
  ·have:x≠n:=by rintro rfl;exact h v lO
   simp[this]
theorem mR{kindOf:Str->Option NameKind}:∀{P:List Str}{vs:List Value}{i:Nat}{m:So},P.Nodup->P[i]?=some x->vs[i]?=some v->kindOf x=some .local->
  bindL kindOf (P.zip vs) m x=some v
 |[],_,_,_,_,h,_,_=>by simp at h
 |_::_,[],_,_,_,_,h,_=>by simp at h
 |p::P,w::vs,0,m,nd,h1,h2,hk=>by
  simp at h1 h2;subst h1;subst h2;show bindL kindOf ((p,w)::P.zip vs) m p=_;unfold bindL;rw[mJ λv hv=>(jB.mp nd).1 (List.of_mem_zip hv).1,if_pos hk];simp
 |p::P,w::vs,i+1,m,nd,h1,h2,hk=>by
  show bindL kindOf ((p,w)::P.zip vs) m x=_;unfold bindL;exact mR (i:=i) (jB.mp nd).2 (by simpa using h1) (by simpa using h2) hk
theorem mI{kindOf:Str->Option NameKind}:∀{P:List Str}{vs:List Value}{i:Nat}{m:So},P.Nodup->P[i]?=some x->vs[i]?=some v->kindOf x≠some .local->
  bindC kindOf (P.zip vs) m x=some v
 |[],_,_,_,_,h,_,_=>by simp at h
 |_::_,[],_,_,_,_,h,_=>by simp at h
 |p::P,w::vs,0,m,nd,h1,h2,hk=>by
  simp at h1 h2;subst h1;subst h2;show bindC kindOf ((p,w)::P.zip vs) m p=_;unfold bindC;rw[mx λv hv=>(jB.mp nd).1 (List.of_mem_zip hv).1,if_neg hk];simp
 |p::P,w::vs,i+1,m,nd,h1,h2,hk=>by
  show bindC kindOf ((p,w)::P.zip vs) m x=_;unfold bindC;exact mI (i:=i) (jB.mp nd).2 (by simpa using h1) (by simpa using h2) hk
def start(N:List Str)(vs:List V):St:=vs.map some++List.replicate (N.length - vs.length) none
def j9(CX:Eb)(P:Program)(w:World)(K:Wf)(mg:So)(base:Heap)(N:List Str)(qual:Str)(scope:Scope)(f:Addr)(cd:Value)(A:Around)(outer:List Env)(s:Shared)(H:Hp)(E:XK):Cx where
 prog:=P
 w:=w
 K:=K
 mg:=mg
 base:=base
 A:=A.deeper (envOfC qual scope s.heap.objs.size f cd)
 N:=N
 s₀:=s
 H₀:=H
 env:=envOfC qual scope s.heap.objs.size f cd
 outer:=outer
 stack:=envOfC qual scope s.heap.objs.size f cd::outer
 ex:=[]
 calm:=true
 fn:=λ_=>true
 pn:=[]
 xe:=λe s'=>wpAny (model P w) (A.deeper (envOfC qual scope s.heap.objs.size f cd)) (leaving (envOfC qual scope s.heap.objs.size f cd) e) (λ_ s''=>CX outer H s E e s'') (λe' s''=>CX outer H s E e' s'') s'
theorem yD{sc:Scope}{n:Nat}{x:Str}(h:sc.names.lookup x=some .cell):∃c,(cellsFrom n sc.names []).lookup x=some c:=by
 have q:=cellsFrom_some sc.names n [] (.inl h);exact Option.isSome_iff_exists.mp q
theorem m7{CX:Eb}{P:Program}{w:World}{K:Wf}{mg:So}{base:Heap}{N ps:List Str}{qual:Str}{scope:Scope}{f:Addr}{cd:Value}{A:Around}{outer:List Env}{s s1:Shared}{H:Hp}{E:XK}{us:List Value}{vs:List V}
  (S:au N ps scope) (hd:A.handled=none) (e0:lh P w K mg base A outer s H) (hl:vs.length=ps.length) (r:Vals vs us)
  (x:InCallC s s.heap.objs.size (bindL (envOfC qual scope s.heap.objs.size f cd).kindOf (ps.zip us) λ_=>none) (cellsFrom (s.heap.objs.size+1) scope.names []) (bindC (envOfC qual scope s.heap.objs.size f cd).kindOf (ps.zip us) λ_=>none) s1):
  Inv (j9 CX P w K mg base N qual scope f cd A outer s H E) [] (start N vs) H s1:=by
 have hpl:ps.length<=N.length:=by have:=congrArg List.length S.pre;rw[p_]at this;omega
 obtain⟨h1,tk,rfl,hk⟩:=x.done;have noA:∀b:Addr,b∉(j9 CX P w K mg base N qual scope f cd A outer s H E).ex:=λb z=>absurd (show b∈([]:List Addr) from z) (by simp);refine⟨⟨e0.mod,S.kind,rfl,rfl,bw _,λy z c h1 h2=>?_,λy hy=>?_,λy c _ h=>?_,λ_=>hd,Around.frames_deeper e0.frames,.inr ⟨rfl,rfl⟩,λb z=>absurd z (noA b),e0.bs,e0.EU,λb _ _=>noA b,λb z=>absurd z (noA b),e0.ir,e0.LZ⟩,
  rfl,e0.bare,Un.kept hk,⟨_,x.toInCall.ns,λi y v h1 h2 h3=>?_⟩,λy c h=>⟨_,x.cell y c h⟩,e0.aW.fresh (bw _),λy c h=>?_,λp hp=>absurd (show p∈([]:Lo) from hp) (by simp),e0.aW.kept hk,?_⟩
 ·exact name_of_addr x.apart (PySem.mem_of_lookup h1) (PySem.mem_of_lookup h2)
 ·have hy:scope.names.lookup y=some .cell\/scope.names.lookup y=some .free:=hy;rcases hy with hy|hy
  ·exact yD hy
  ·exact absurd rfl (S.QP _ (PySem.mem_of_lookup hy))
 ·exact LQ (x.above y c (PySem.mem_of_lookup h))
 ·have hi:i<vs.length:=by
   unfold start at h2;by_cases hi:i<vs.length
   ·exact hi
   ·rw[LG (by simpa using hi)]at h2;rw[List.getElem?_replicate]at h2;split at h2<;>cases h2
  have ha:vs[i]?=some v:=by
   unfold start at h2;rw[LD (by simpa using hi),List.getElem?_map]at h2;cases e:vs[i]? with
   |none=>rw[e]at h2;cases h2
   |some a=>rw[e]at h2;cases h2;rfl
  obtain⟨u,hu,rv⟩:=r.get ha;have hp:ps[i]?=some y:=by
   rw[<-S.pre,List.getElem?_take_of_lt (by omega)];exact h1
  have ndP:ps.Nodup:=by rw[<-S.pre];exact S.nd.sublist (TK _ _)
  refine⟨u,rv,?_⟩;rcases S.par y (e7 hp) with k|k
  ·exact .inl ⟨k,mR ndP hp hu k⟩
  ·obtain⟨c,e⟩:=yD (n:=s.heap.objs.size+1) k;refine .inr ⟨.inl k,c,e,?_⟩;have q:=x.cell y c e;rw[mI ndP hp hu (by show scope.names.lookup y≠_;rw[k];decide)]at q;exact q
 ·exact e0.aW.fresh (LQ (x.above y c (PySem.mem_of_lookup h)))
 ·unfold start;show _=N.length;rw[eY,aI,List.length_replicate];omega
theorem NC{CX:Eb}{P:Program}{w:World}{K:Wf}{mg:So}{base:Heap}{k:Nat}{f:Addr}{name qual:Str}{params:Arguments}{body:List Stmt}{scope:Scope}{dV kV doc pm cdv ct oc:Value}{an od:Option Addr}
  {osl:Array (Option Value)}{N ps:List Str}{sp:Sp}(lk:K.lookup f=some ⟨oc,od,.func (fnOf name qual params body scope dV kV doc pm an cdv ct),osl⟩) (hcd:codeIn K cdv qual=true) (S:au N ps scope)
  (len:∀vs H Q E,sp vs H Q E->vs.length=ps.length)
  (hbody:∀(A:Around) (outer:List Env) (s:Shared) (H:Hp) (vs:List V) (Q:VK) (E:XK),cz k (A.deeper (envOfC qual scope s.heap.objs.size f cdv))->sp vs H Q E->
   ∃t,vM (j9 CX P w K mg base N qual scope f cdv A outer s H E) body t/\t { nx:=λ_ H'=>Q .bh H',rt:=Q } (start N vs) H):
  aY P w K mg base CX (k+1) f (fnOf name qual params body scope dV kV doc pm an cdv ct) ps sp:=by
 refine⟨len,λA outer s H args us vs Q E hr e0 hb r hsp=>?_⟩;have hl:=len _ _ _ _ hsp;have KX:K.In s.heap:=e0.mod.Q3.keeps λb o e=>(e0.bs b o e).1;have lim:s.heap.NoLimit:=e0.mod.nolimit.keeps λb o e=>(e0.bs b o e).1;have hkind:∀y∈ps.zip us,scope.names.lookup y.1=some .local\/(scope.names.lookup y.1=some .cell/\((cellsFrom (s.heap.objs.size+1) scope.names []).lookup y.1).isSome=true):=λ⟨n,v⟩ hy=>by
  rcases S.par n (List.of_mem_zip hy).1 with q|q
  ·exact .inl q
  ·exact .inr ⟨q,cellsFrom_some _ _ _ (.inl q)⟩
 refine codeAny_call_function hr.depth (KX _ _ lk) rfl S.co S.gen rfl (PySem.W.codeRec_of KX hcd) (hb _ _ _ _ ?_);refine wpAny_newFunctionEnv_cells S.kind hkind λenv he s1 x=>?_;subst he;refine⟨lim.keeps x.toInCall.keep,codeAny_func ?_⟩;obtain⟨t,ht,hq⟩:=hbody A outer s H vs Q E (hr.deeper _) hsp;have I:Inv (j9 CX P w K mg base N qual scope f cdv A outer s H E) [] (start N vs) H s1:=m7 S hr.hd e0 hl r x;refine pG (ht [] s1 (start N vs) H _ I hq) (λfl s' hs=>?_) λe s' hs=>hs;have fin:∀{σ':St}{H':Hp}{v:V}{u:Value},Inv (j9 CX P w K mg base N qual scope f cdv A outer s H E) [] σ' H' s'->RelV v u->Q v H'->CE outer P w H s Q u s':=
  λ{σ' H' v u} J rv q=>⟨v,H',J.os,J.bare,J.base,J.aW,rv,q⟩
 cases fl with
 |ret u=>
  obtain⟨v,σ',H',J,rv,q⟩:=hs;exact fin J rv q
 |next=>
  obtain⟨σ',H',J,q⟩:=hs;exact fin (v:=V.bh) (u:=Value.none) J rfl q
 |brk=>
  obtain⟨_,_,_,q⟩:=hs;exact False.elim q
 |cont=>
  obtain⟨_,_,_,q⟩:=hs;exact False.elim q
section
variable{X:Cx}{x:Str}{p pos:Pos}{e:Expr}{es:List Expr}{t:TA}{id T:String}{r:List V->Hp->VK->Prop}
def YY(r:List V->Hp->VK->Prop)(t:TA):TE:=λσ H Q=>t σ H λvs H1=>r vs H1 Q
theorem cG(hc:dA X (.builtin id) r)(hg:Gl X x)(hm:X.mg x=none)(hv:bootBuiltins x=some (.builtin id))(ha:PA X (e::es) t)(hn:x ≠ "__name__" := by decide)(hdb:(x == ("__debug__" : Str))=false:=by decide)
  (he:starEach (e::es) X.env=(false,eval e X.env)::starEach es X.env:=by rfl) (hpl:(backTo pos (starEach es X.env)).any (·.1)=false:=by rfl):PE X (.Call (.Name x p) (e::es) [] pos) (YY r t):=by
 intro pins s σ H Q I h;refine Ri (gq I hg hm hv ?_ hn hdb);exact PyProof.Rows.callWith_builtin1 (bA (ha pos pins s σ H _ I h) λus s1 ⟨vs,H1,I1,r1,q1⟩=>hc pins s1 σ H1 vs us Q I1 r1 q1) he hpl
theorem bM(hc:dA X (.type T) r)(hg:Gl X x)(hm:X.mg x=none)(hv:bootBuiltins x=some (.type T))(ha:PA X (e::es) t)(hn:x ≠ "__name__" := by decide)(hdb:(x == ("__debug__" : Str))=false:=by decide)
  (he:starEach (e::es) X.env=(false,eval e X.env)::starEach es X.env:=by rfl) (hpl:(backTo pos (starEach es X.env)).any (·.1)=false:=by rfl):PE X (.Call (.Name x p) (e::es) [] pos) (YY r t):=by
 intro pins s σ H Q I h;refine Ri (gq I hg hm hv ?_ hn hdb);exact PyProof.Rows.callWith_type1 (bA (ha pos pins s σ H _ I h) λus s1 ⟨vs,H1,I1,r1,q1⟩=>hc pins s1 σ H1 vs us Q I1 r1 q1) he hpl
end
end L2
namespace HT
open PySem PyProof.Rows
section
variable{prog:Program}{w:World}{A:Around}{E:Vs}{s:Shared}
theorem cat_tup{t b:Addr}{vs ws:List Value}{Q:Vs}(ht:IsTup s.heap t vs.toArray)(hb:IsTup s.heap b ws.toArray)(hv:vs≠[])
  (h1:ws=[]->Q (.ref t) s) (h2:ws≠[]->Q (.ref s.heap.objs.size) { s with heap:=s.heap.push { cls:=.type "tuple", data:=.seq (vs++ws).toArray } })
  (hsz:vs.length+ws.length<=sizeLine):wpAny (model prog w) A (binaryOp .Add (.ref t) (.ref b)) Q E s:=by
 obtain⟨⟨cls,dd,data,sl⟩,ho,hc,n,hd⟩:=id ht;obtain⟨⟨cls2,dd2,data2,sl2⟩,ho2,hc2,n2,hd2⟩:=id hb;simp only at hc hd hc2 hd2;subst hc hd hc2 hd2;have e:vs.toArray++ws.toArray=(vs++ws).toArray:=by simp
 by_cases hw:ws=[]
 ·exact concat_meets ⟨_,ho,rfl⟩ ⟨_,ho2,rfl⟩ noFill_tuple_add seq_tuple_add PySem.F.slot_tuple_add PySem.F.entry_tuple_add (PySem.F.args_tuple_add_2 _ _)
   (tuple_addW1 t b vs.toArray ws.toArray n n2 dd dd2 sl sl2 (by simpa using hv) (by simp[hw])) ⟨ho,ho2,h1 hw⟩
 ·refine concat_meets ⟨_,ho,rfl⟩ ⟨_,ho2,rfl⟩ noFill_tuple_add seq_tuple_add PySem.F.slot_tuple_add PySem.F.entry_tuple_add (PySem.F.args_tuple_add_2 _ _)
   (tuple_addW2 t b vs.toArray ws.toArray n n2 dd dd2 sl sl2 (by simpa using hv) (by simpa using hw) (by rw[List.size_toArray,List.size_toArray];exact hsz)) ⟨ho,ho2,?_⟩
  rw[e];exact h2 hw
def sIx(n d:Nat):Option Int->Nat
 |none=>d
 |some v=>if v<0 then (v+(n:Int)).toNat else min v.toNat n
theorem sIx_nat(n d k:Nat):sIx n d (some (k:Int))=min k n:=by
 show(if (k:Int)<0 then ((k:Int)+(n:Int)).toNat else min (k:Int).toNat n)=min k n;rw[if_neg (by omega),Ei]
theorem sIx_le(n d:Nat)(hd:d<=n)(o:Option Int):sIx n d o<=n:=by
 cases o with
 |none=>exact hd
 |some v=>
  show(if v<0 then (v+(n:Int)).toNat else min v.toNat n)<=n;by_cases hv:v<0
  ·rw[if_pos hv];omega
  ·rw[if_neg hv];exact Nat.min_le_right _ _
theorem clip_eq(v:Int)(n d:Nat):(if v<0 then max (v+(n:Int)) 0 else min v (n:Int))=((sIx n d (some v):Nat):Int):=by
 show(if v<0 then max (v+(n:Int)) 0 else min v (n:Int))=(((if v<0 then (v+(n:Int)).toNat else min v.toNat n):Nat):Int);by_cases hv:v<0
 ·simp only[if_pos hv];omega
 ·simp only[if_neg hv];omega
theorem adjust_gen(lo hi:Option Int)(n:Nat):Builtin.Slice.sliceAdjust lo hi 1 (n:Int)=(((sIx n 0 lo:Nat):Int),((sIx n n hi:Nat):Int)):=by
 have h1:¬((1:Int)<0):=by omega
 unfold Builtin.Slice.sliceAdjust;simp only[h1,if_false];refine Prod.ext ?_ ?_
 ·cases lo with
  |none=>rfl
  |some v=>exact clip_eq v n 0
 ·cases hi with
  |none=>rfl
  |some v=>exact clip_eq v n n
theorem places_gen(i j:Nat):Builtin.Slice.slicePlaces (i:Int) (j:Int) 1=j - i:=by
 unfold Builtin.Slice.slicePlaces;have h1:(1:Int)>0:=by omega
 simp only[h1,if_true,Int.ediv_one];split<;>omega
theorem slicePart_(p:IsPart v o)(h:Q o s):wpAny (model prog w) A (Builtin.Slice.slicePartIndex v) Q E s:=by
 cases p with
 |none=>exact slicePart_none h
 |int i t=>exact slicePart_int h
theorem sliceApplied_gen{sl:Addr}{vl vu:Value}{lo hi:Option Int}{n:Nat}{Q:Int×Int×Nat->Shared->Prop}(hs:s.heap.IsSliceOf sl vl vu .none)(pl:IsPart vl lo)(pu:IsPart vu hi)
  (h:Q (((sIx n 0 lo:Nat):Int),1,sIx n n hi - sIx n 0 lo) s):wpAny (model prog w) A (Builtin.Slice.sliceApplied (.ref sl) (pure (n:Int))) Q E s:=by
 obtain⟨os,hos,hcs,hds⟩:=id hs;unfold Builtin.Slice.sliceApplied Builtin.Slice.sliceFields;refine aC (aC (wpAny_field hos hds (x:=vl) rfl (aC (wpAny_field hos hds (x:=vu) rfl (aC (wpAny_field hos hds (x:=.none) rfl (bB ?_)))))));refine aC (slicePart_none ?_);show wpAny _ _ (if ((1:Int) == 0)=true then _ else _) _ _ s;rw[if_neg (by decide)];refine aC (slicePart_ pl (aC (slicePart_ pu (aC (bB ?_)))));show wpAny _ _ (match Builtin.Slice.sliceAdjust lo hi 1 (n:Int) with | (lo,hi)=>pure (lo,(1:Int),Builtin.Slice.slicePlaces lo hi 1)) _ _ s;rw[adjust_gen lo hi n];show wpAny _ _ (pure (((sIx n 0 lo:Nat):Int),(1:Int),Builtin.Slice.slicePlaces ((sIx n 0 lo:Nat):Int) ((sIx n n hi:Nat):Int) 1)) _ _ s;rw[places_gen];exact bB h
theorem pick_gen(xs:Array Value)(i k:Nat):((List.range k).filterMap λ(m:Nat)=>xs[((i:Int)+(m:Int)*1).toNat]?).toArray=((xs.toList.drop i).take k).toArray:=by
 have e:(λ(m:Nat)=>xs[((i:Int)+(m:Int)*1).toNat]?)=λm=>xs[i+m]?:=by
  funext m;have:((i:Int)+(m:Int)*1).toNat=i+m:=by omega
  rw[this]
 rw[e];have:=pick_run xs i k;rw[List.filterMap_map]at this;have e2:((λx=>xs[x]?) ∘ λx=>i+x)=λm=>xs[i+m]?:=rfl;rw[e2]at this;rw[this]
theorem getItem_tuple_cut{t sl:Addr}{items:Array Value}{vl vu:Value}{lo hi:Option Int}{Q:Vs}(ht:IsTup s.heap t items)(hs:s.heap.IsSliceOf sl vl vu .none)(pl:IsPart vl lo)(pu:IsPart vu hi)
  (hw:¬(sIx items.size 0 lo=0/\sIx items.size items.size hi=items.size))
  (h:Q (.ref s.heap.objs.size) { s with heap:=s.heap.push { cls:=.type "tuple", data:=.seq ((items.toList.drop (sIx items.size 0 lo)).take (sIx items.size items.size hi - sIx items.size 0 lo)).toArray } })
  (hsz:items.size<=sizeLine):wpAny (model prog w) A (getItem (.ref t) (.ref sl)) Q E s:=by
 have htake:sizeOk (.seq ((items.toList.drop (sIx items.size 0 lo)).take (sIx items.size items.size hi - sIx items.size 0 lo)).toArray):=by
  show((items.toList.drop (sIx items.size 0 lo)).take (sIx items.size items.size hi - sIx items.size 0 lo)).toArray.size<=sizeLine;rw[hU,p_,TF,D9];omega
 have hj:sIx items.size items.size hi<=items.size:=sIx_le _ _ (bw _) hi;obtain⟨os,hos,hcs,hds⟩:=id hs;have hTs:s.TypeIs (.ref sl) "slice" := ⟨os,hos,hcs⟩
 unfold getItem
 try with_reducible refine D_ ?_
 first|refine aC (bB ?_)|skip
 refine aC (wpAny_sequenceKey ht.typeIs (by decide) ?_);refine aC (Uz (name:=s!"__getitem__") ht.typeIs PyProof.Rows.slot_tuple_getitem
  (NY PyProof.Rows.slot_tuple_getitem ht.typeIs entry_tuple_getitem ?_ (args_tuple_getitem _ _)))
 show wpAny _ _ (Builtin.Tuple.tupleItemsOf (.ref t) >>= _) _ _ s;refine aC (tupleItemsOf_ ht ?_);refine aC (wpAny_typeOf hTs ?_);rw[if_pos (by decide)];refine aC (sliceApplied_gen hs pl pu ?_);have hno:¬((((sIx items.size 0 lo:Nat):Int) == 0&&(1:Int) == 1&&(sIx items.size items.size hi - sIx items.size 0 lo) == items.size)=true):=by
  intro q;rw[lW,lW]at q;have q1:((sIx items.size 0 lo:Nat):Int)=0:=eq_of_beq q.1.1;have q2:sIx items.size items.size hi - sIx items.size 0 lo=items.size:=eq_of_beq q.2;exact hw ⟨by omega,by omega⟩
 show wpAny _ _ (if (((sIx items.size 0 lo:Nat):Int) == 0&&(1:Int) == 1&&(sIx items.size items.size hi - sIx items.size 0 lo) == items.size)=true then _ else _) _ _ s;rw[if_neg hno,pick_gen]
 first
  |exact aC (m:=Builtin.Tuple.tupleExact _) (Ld (bB ⟨_,rfl,bB h⟩) htake)
  |exact aC (m:=Builtin.Tuple.tupleExact _) (Ld (aC (bB (bB ⟨_,rfl,bB h⟩))) htake)
  |exact aC (aC (m:=Builtin.Tuple.tupleExact _) (Ld (bB (bB ⟨_,rfl,bB h⟩)) htake))
  |exact aC (aC (m:=Builtin.Tuple.tupleExact _) (Ld (bB ⟨_,rfl,bB h⟩) htake))
end
end HT
namespace L2
open PySem PySem.Spec PyProof.Rows
abbrev TO:=St->Hp->(Option Int->Hp->Prop)->Prop
def PO(X:Cx)(e:Option Expr)(t:TO):Prop:=
 ∀(pins:Lo) (s:Shared) (σ:St) (H:Hp) (Q:Option Int->Hp->Prop),Inv X pins σ H s->t σ H Q->
  wpAny (model X.prog X.w) X.A (evalPart e X.env) (λu s'=>∃o H',Inv X pins σ H' s'/\IsPart u o/\Q o H') X.xe s
def Mb:TO:=λ_ H Q=>Q none H
def RH(t:TE):TO:=λσ H Q=>t σ H λx H1=>∃i,x=.int i/\Q (some i) H1
section
variable{X:Cx}{e:Expr}{te:TE}{lo hi:Option Expr}{tl th:TO}{pos p2:Pos}
theorem BC:PO X none Mb:=by
 intro pins s σ H Q I h;rw[evalPart_none];exact bB ⟨none,H,I,.none,h⟩
theorem jQ(h:PE X e te):PO X (some e) (RH te):=by
 intro pins s σ H Q I hw;rw[evalPart_some];refine bA (h pins s σ H _ I hw) λu s1 ⟨x,H1,I1,r1,q1⟩=>?_;obtain⟨i,rfl,q⟩:=q1;obtain⟨t,rfl⟩:=r1;exact⟨some i,H1,I1,.int i t,q⟩
def Ve(X:Cx)(r:V->Option Int->Option Int->Hp->VK->Prop):Prop:=
 ∀(pins:Lo) (s:Shared) (σ:St) (H:Hp) (x:V) (v vl vu:Value) (lo hi:Option Int) (sl:Addr) (Q:VK),Inv X pins σ H s->RelV x v->s.heap.IsSliceOf sl vl vu .none->IsPart vl lo->IsPart vu hi->r x lo hi H Q->
  ∃T id,typeLookup (.type T) "__getitem__" = pure (some (.builtin id))/\s.TypeIs v T/\wpAny (model X.prog X.w) X.A (getItem v (.ref sl)) (EP X pins σ Q) X.xe s
def ZU(r:V->Option Int->Option Int->Hp->VK->Prop)(te:TE)(tl th:TO):TE:=λσ H Q=>te σ H λx H1=>tl σ H1 λl H2=>th σ H2 λu H3=>r x l u H3 Q
theorem kb(hr:Ve X r)(he:PE X e te)(hl:PO X lo tl)(hu:PO X hi th):PE X (.Subscript e (.Slice lo hi none p2) pos) (ZU r te tl th):=by
 intro pins s σ H Q I h;refine Subscript_ (bA (he pins s σ H _ I h) λv s1 ⟨x,H1,I1,r1,q1⟩=>?_);refine wpAny_Slice (bA (hl pins s1 σ H1 _ I1 q1) λvl s2 ⟨l,H2,I2,pl,q2⟩=>bA (hu pins s2 σ H2 _ I2 q2) λvu s3 ⟨u,H3,I3,pu,q3⟩=>?_);rw[evalPart_none];refine bB ?_;have I4:Inv X pins σ H3 { s3 with heap:=s3.heap.push { cls:=.type "slice", data:=.fields #[vl,vu,.none] } }:=I3.kept (t':=s3.toks) λb ob q=>d9 _ q;obtain⟨T,id,hT,ht,hg⟩:=hr pins { s3 with heap:=s3.heap.push { cls:=.type "slice", data:=.fields #[vl,vu,.none] } } σ H3 x v vl vu l u s3.heap.objs.size Q I4 r1 (Heap.IsSliceOf.new ..) pl pu q3;show wpAny (model X.prog X.w) X.A (subscriptTail e (.Slice lo hi none p2) v (.ref s3.heap.objs.size)) (EP X pins σ Q) X.xe { s3 with heap:=s3.heap.push { cls:=.type "slice", data:=.fields #[vl,vu,.none] } };exact tail_any (ops:=[.ref s3.heap.objs.size,v]) ht hT hg (by with_unfolding_all rfl)
def jg(xs:List V)(lo hi:Option Int):List V:=(xs.drop (HT.sIx xs.length 0 lo)).take (HT.sIx xs.length xs.length hi - HT.sIx xs.length 0 lo)
theorem jw(xs:List V)(lo hi:Option Int):(jg xs lo hi).length<=xs.length:=by
 unfold jg;rw[p_,TF];omega
def Rz(K:Wf):V->Option Int->Option Int->Hp->VK->Prop:=λx lo hi H Q=>∃a xs,x=.ref a/\aS K H a xs/\
 ¬(HT.sIx xs.length 0 lo=0/\HT.sIx xs.length xs.length hi=xs.length)/\∀p,H p=none->Q (.ref p) (upd H p (.tup (jg xs lo hi)))
theorem OG:Ve X (Rz X.K):=by
 intro pins s σ H x v vl vu lo hi sl Q I rx hs pl pu h;obtain⟨a,xs,rfl,hx,hw,q⟩:=h;cases rx;obtain⟨its,r,ht,hz⟩:=I.tuple hx;have hlen:its.toArray.size=xs.length:=by rw[hU];exact r.length.symm
 refine⟨"tuple", _,PyProof.Rows.slot_tuple_getitem.lookup,ht.typeIs,?_⟩;refine HT.getItem_tuple_cut ht hs pl pu (by rw[hlen];exact hw) ?_ (by rw[hlen];exact hz);rw[hlen];refine⟨.ref s.heap.objs.size,_,I.laid (t':=s.toks) (o:=.tup (jg xs lo hi)) (λb ob q=>d9 _ q) (bw _) ?_,rfl,q _ (I.aW.fresh (bw _))⟩;exact⟨jt (jw xs lo hi) hz,_,(r.drop (HT.sIx xs.length 0 lo)).take (HT.sIx xs.length xs.length hi - HT.sIx xs.length 0 lo),IsTup.new _ _⟩
def NT(K:Wf):R2:=λx y H Q=>∃a b xs ys,x=.ref a/\y=.ref b/\aS K H a xs/\aS K H b ys/\xs≠[]/\xs.length+ys.length<=sizeLine/\
 (ys=[]->Q (.ref a) H)/\(ys≠[]->∀p,H p=none->Q (.ref p) (upd H p (.tup (xs++ys))))
theorem Vals.uG(r:Vals xs us):us=[]↔xs=[]:=by
 cases r with
 |nil=>simp
 |cons _ _=>simp
theorem M7:gF X (binaryOp .Add) (NT X.K):=by
 intro pins s σ H x y v u Q I rx ry h;obtain⟨a,b,xs,ys,rfl,rfl,ha,hb,hx,hz,q1,q2⟩:=h;cases rx;cases ry;obtain⟨its,r1,p1,_⟩:=I.tuple ha;obtain⟨its2,r2,p2,_⟩:=I.tuple hb;refine HT.cat_tup p1 p2 (λz=>hx (r1.uG.mp z)) (λz=>⟨.ref a,H,I,rfl,q1 (r2.uG.mp z)⟩) (λz=>?_) (by rw[<-r1.length,<-r2.length];exact hz);refine⟨.ref s.heap.objs.size,_,I.laid (t':=s.toks) (o:=.tup (xs++ys)) (λb ob q=>d9 _ q) (bw _) ?_,rfl,q2 (λw=>z (r2.uG.mpr w)) _ (I.aW.fresh (bw _))⟩;exact⟨by rw[eY];exact hz,_,r1.append r2,IsTup.new _ _⟩
end
def Ca(n:Nat)(i:Int):Option Nat:=if 0<=i then (if i<n then some i.toNat else none) else if -(n:Int)<=i then some (i+n).toNat else none
def h_{α:Type}(xs:List α)(i:Int):Option α:=(Ca xs.length i).bind λj=>xs[j]?
theorem B4(h:Ca n i=some j):seqIndex? i n=some j/\j<n /\ -(n:Int)<=i/\i<n:=by
 unfold Ca at h;by_cases h0:0<=i
 ·rw[if_pos h0]at h;by_cases h1:i<n
  ·rw[if_pos h1]at h;have e:i.toNat=j:=Option.some.inj h;exact⟨by rw[seqIndex_of h0 h1,e],by omega,by omega,h1⟩
  ·rw[if_neg h1]at h;cases h
 ·rw[if_neg h0]at h;by_cases h1 : -(n:Int)<=i
  ·rw[if_pos h1]at h;have e:(i+n).toNat=j:=Option.some.inj h;exact⟨by rw[seqIndex_neg (by omega) h1,e],by omega,h1,by omega⟩
  ·rw[if_neg h1]at h;cases h
theorem w6{α:Type}{xs:List α}{i:Int}{v:α}(h:h_ xs i=some v):∃j,seqIndex? i xs.length=some j/\xs[j]?=some v/\j<xs.length /\ -(xs.length:Int)<=i/\i<xs.length:=by
 unfold h_ at h;cases e:Ca xs.length i with
 |none=>rw[e]at h;cases h
 |some j=>
  rw[e]at h;obtain⟨h1,h2,h3,h4⟩:=B4 e;exact⟨j,h1,h,h2,h3,h4⟩
theorem dJ{α:Type}{xs:List α}{j:Nat}{v:α}(h:xs[j]?=some v):h_ xs (j:Int)=some v:=by
 have hj:j<xs.length:=(hV.mp h).1;have e:Ca xs.length (j:Int)=some j:=by
  unfold Ca;rw[if_pos (by omega),if_pos (by omega)];simp
 unfold h_;rw[e];exact h
theorem eE{α:Type}(xs:List α)(v:α):h_ (xs++[v]) (-1)=some v:=by
 have hl:(xs++[v]).length=xs.length+1:=by simp
 have e:Ca (xs++[v]).length (-1)=some xs.length:=by
  unfold Ca;rw[hl,if_neg (by decide),if_pos (by omega)];congr 1;omega
 unfold h_;rw[e];show(xs++[v])[xs.length]?=some v;simp
def ME(b:Expr):Prop:=∀o i,subscripted b false o i=operate [o,i] (getItem o i)
def Q6(X:Cx)(r:R2):Prop:=
 ∀(value slice:Expr) (pins:Lo) (s:Shared) (σ:St) (H:Hp) (x y:V) (v u:Value) (Q:VK),Inv X pins σ H s->RelV x v->RelV y u->r x y H Q->
  subscripted slice false v u=operate [v,u] (getItem v u)->wpAny (model X.prog X.w) X.A (subscriptTail value slice v u) (EP X pins σ Q) X.xe s
def XG(X:Cx)(id:String)(r:V->List V->Hp->VK->Prop):Prop:=
 ∀(pins:Lo) (s:Shared) (σ:St) (H:Hp) (x:V) (xs:List V) (v:Value) (us:List Value) (Q:VK),Inv X pins σ H s->RelV x v->Vals xs us->r x xs H Q->
  wpAny (model X.prog X.w) X.A (call (.builtin id) (v::us)) (EP X pins σ Q) X.xe s
section
variable{X:Cx}{a b:Expr}{ta tb:TE}{pos:Pos}
theorem cw(hr:Q6 X r)(ha:PE X a ta)(hb:PE X b tb)(hs:ME b):PE X (.Subscript a b pos) (N7 r ta tb):=by
 intro pins s σ H Q I h;exact Subscript_ (OE ha hb I h λv u s2 x y H2 I2 rx ry q=>hr a b pins s2 σ H2 x y v u Q I2 rx ry q (hs _ _))
def Si(K:Wf):R2:=λx y H Q=>∃p xs i v,x=.ref p/\y=.int i/\aA K H p xs/\h_ xs i=some v/\Q v H
def Jg(K:Wf):R2:=λx y H Q=>∃p xs i v,x=.ref p/\y=.int i/\aS K H p xs/\h_ xs i=some v/\Q v H
def Wq:R2:=λx y H Q=>∃z i c,x=.str z/\y=.int i/\z.length<=sizeLine/\h_ z.cps.toList i=some c/\Q (.str ⟨#[c]⟩) H
theorem Mv:Q6 X (Si X.K):=by
 intro value slice pins s σ H x y v u Q I rx ry h hs;obtain⟨p,xs,i,z,rfl,rfl,hq,he,q⟩:=h;cases rx;obtain⟨t,rfl⟩:=ry;obtain⟨its,r,pl,hz⟩:=I.list hq;obtain⟨j,h1,h2,h3,h4,h5⟩:=w6 he;obtain⟨w,ew,rw'⟩:=r.get h2;have hl:=r.length;have hn:=iU;have fin:EP X pins σ Q w s:=⟨z,H,I,rw',q⟩
 by_cases h0:0<=i
 ·have hj:i.toNat=j:=by
   rw[seqIndex_of h0 h5]at h1;exact Option.some.inj h1
  exact item_listR pl.isList h0 (by omega) (by rw[hj];simpa using ew) fin hs
 ·have hj:(i+(its.toArray.size:Int)).toNat=j:=by
   rw[seqIndex_neg (by omega) h4]at h1;rw[hU,<-hl];exact Option.some.inj h1
  exact subscriptTail_builtinR (x:=w) pl.isList.typeIs slot_list_getitem.lookup
   (wpAny_getItem_list_neg (Q:=λr s'=>r=w/\EP X pins σ Q r s') pl.isList (by omega) (by rw[hU]<;>omega) (by omega) (by rw[hj];simpa using ew) ⟨rfl,fin⟩) hs
theorem PN:Q6 X (Jg X.K):=by
 intro value slice pins s σ H x y v u Q I rx ry h hs;obtain⟨p,xs,i,z,rfl,rfl,hq,he,q⟩:=h;cases rx;obtain⟨t,rfl⟩:=ry;obtain⟨its,r,pl,hz⟩:=I.tuple hq;obtain⟨j,h1,h2,h3,h4,h5⟩:=w6 he;obtain⟨w,ew,rw'⟩:=r.get h2;have hl:=r.length;have hn:=iU;have fin:EP X pins σ Q w s:=⟨z,H,I,rw',q⟩
 exact subscriptTail_builtinR (x:=w) pl.typeIs slot_tuple_getitem.lookup
  (getItem_tuple (j:=j) (Q:=λr s'=>r=w/\EP X pins σ Q r s') pl (by omega) (by omega) (by rw[hU,<-hl];exact h1) (by simpa using ew) ⟨rfl,fin⟩) hs
theorem QE:Q6 X Wq:=by
 intro value slice pins s σ H x y v u Q I rx ry h hs;obtain⟨z,i,c,rfl,rfl,hz,he,q⟩:=h;obtain⟨t,rfl⟩:=rx;obtain⟨t',rfl⟩:=ry;obtain⟨j,h1,h2,h3,h4,h5⟩:=w6 he;have hl:z.cps.toList.length=z.length:=by simp[Str.length]
 rw[hl]at h1 h4 h5;have hn:=iU;exact tail_any (typeIs_str s z t) slot_str_getitem.lookup (getItem_str (c:=c) (by
  have e1:decide (i < -(2 ^ 63:Int))=false:=decide_eq_false (by omega);have e2:decide (i≥2 ^ 63)=false:=decide_eq_false (by omega);rw[e1,e2,Bool.or_false]) (by rw[h1];simpa using h2) ⟨.str ⟨#[c]⟩,H,I.tok _,⟨_,rfl⟩,q⟩) hs
theorem yZ(its:List Value)(n j:Nat)(u:Value):Obj.mapSeq (·.setIfInBounds j u) { cls:=.type "list", data:=.seq its.toArray n }={ cls:=.type "list", data:=.seq (its.set j u).toArray n }:=by
 simp[Obj.mapSeq]
theorem Inv.lst{pins:Lo}{σ:St}{H:Hp}{s:Shared}{p:Addr}{xs:List V}(I:Inv X pins σ H s)(h:H p=some (.lst xs)):
  ∃(its:List Value) (n:Nat),Vals xs its/\s.heap.get? p=some { cls:=.type "list", data:=.seq its.toArray n }/\xs.length<=sizeLine:=by
 obtain⟨z,its,n,r,e⟩:=I.aW p _ h;exact⟨its,n,r,e,z⟩
theorem Inv.Py{pins:Lo}{σ:St}{H:Hp}{s:Shared}{p:Addr}{xs ys:List V}{its its':List Value}{n n':Nat}{f:Obj->Obj}(I:Inv X pins σ H s)(h:H p=some (.lst xs))
  (ho:s.heap.get? p=some { cls:=.type "list", data:=.seq its.toArray n }) (hf:f { cls:=.type "list", data:=.seq its.toArray n }={ cls:=.type "list", data:=.seq its'.toArray n' }) (r:Vals ys its') (hz:ys.length<=sizeLine) (t:Nat):
  Inv X pins σ (upd H p (.lst ys)) { s with heap:=s.heap.update p f,toks:=t }:=by
 have e:(s.heap.update p f).get? p=some { cls:=.type "list", data:=.seq its'.toArray n' }:=by
  rw[Ov f ho (by rw[hf]<;>rfl),hf]
 refine I.write (x:=p) (e:=p) (by rw[h];trivial) (.inl rfl) (λb u hb q=>(VW _ _ (Ne.symm hb)).trans q) ⟨_,e⟩ ?_;exact⟨hz,its',n',r,e⟩
def SD:V->V->V->Hp->(Hp->Prop)->Prop:=λo i v H Q=>∃p xs k j,o=.ref p/\i=.int k/\H p=some (.lst xs)/\Ca xs.length k=some j/\Q (upd H p (.lst (xs.set j v)))
theorem set_list:S7 X SD:=by
 intro pins s σ H o i v ov iv u Q I ro ri rv h;obtain⟨p,xs,k,j,rfl,rfl,hp,hj,q⟩:=h;cases ro;obtain⟨t,rfl⟩:=ri;obtain⟨its,n,r,ho,hz⟩:=I.lst hp;obtain⟨h1,h2,h3,h4⟩:=B4 hj;have hl:=r.length;have hn:=iU;have I':Inv X pins σ (upd H p (.lst (xs.set j v))) { s with heap:=s.heap.update p (Obj.mapSeq (·.setIfInBounds j u)) }:=
  I.Py hp ho (yZ its n j u) (r.set rv j) (by rw[Rj];exact hz) s.toks
 by_cases h0:0<=k
 ·have hk:k.toNat=j:=by
   rw[seqIndex_of h0 h4]at h1;exact Option.some.inj h1
  exact PySem.W.ki_setAt ho h0 (by omega) (by rw[hU,<-hl];exact h4) (by rw[hk];exact⟨_,I',q⟩)
 ·have hk:(k+(its.toArray.size:Int)).toNat=j:=by
   rw[seqIndex_neg (by omega) h3]at h1;rw[hU,<-hl];exact Option.some.inj h1
  exact PySem.W.ki_setBack ho (by omega) (by rw[hU,<-hl];exact h3) (by omega) (by rw[hk];exact⟨_,I',q⟩)
theorem oZ(lo hi:Option Int)(n:Nat):(sliceBounds lo hi none n).1=((HT.sIx n 0 lo:Nat):Int)/\(sliceBounds lo hi none n).2.1=((HT.sIx n n hi:Nat):Int)/\(sliceBounds lo hi none n).2.2=1:=by
 refine⟨?_,?_,rfl⟩
 ·cases lo with
  |none=>simp[sliceBounds,HT.sIx]
  |some i=>
   simp only[sliceBounds,HT.sIx,Option.getD_none,show(1:Int)>0 by decide,if_true];by_cases h:i<0
   ·simp only[h,if_true]<;>omega
   ·simp only[h,if_false]<;>omega
 ·cases hi with
  |none=>simp[sliceBounds,HT.sIx]
  |some i=>
   simp only[sliceBounds,HT.sIx,Option.getD_none,show(1:Int)>0 by decide,if_true];by_cases h:i<0
   ·simp only[h,if_true]<;>omega
   ·simp only[h,if_false]<;>omega
theorem lV(its:List Value)(lo hi:Option Int):slicePick its.toArray lo hi none=((its.drop (HT.sIx its.length 0 lo)).take (HT.sIx its.length its.length hi - HT.sIx its.length 0 lo)).toArray:=by
 obtain⟨h1,h2,h3⟩:=oZ lo hi its.toArray.size;unfold slicePick;rw[h1,h2,h3];simp only[sliceRange_one,pick_run,List.size_toArray]<;>rfl
def Vx(K:Wf):V->Option Int->Option Int->Hp->VK->Prop:=λx lo hi H Q=>∃a xs,x=.ref a/\aA K H a xs/\∀p,H p=none->Q (.ref p) (upd H p (.lst (jg xs lo hi)))
theorem L9:Ve X (Vx X.K):=by
 intro pins s σ H x v vl vu lo hi sl Q I rx hs pl pu h;obtain⟨a,xs,rfl,hx,q⟩:=h;cases rx;obtain⟨its,r,ht,hz⟩:=I.list hx;have hlen:=r.length;refine⟨"list", _,slot_list_getitem.lookup,ht.isList.typeIs,?_⟩;refine wpAny_getItem_list_slice ht.isList hs pl pu .none (by simp) ?_ (by rw[List.size_toArray]<;>omega);rw[lV,<-hlen];refine⟨.ref s.heap.objs.size,_,I.laid (t':=s.toks) (o:=.lst (jg xs lo hi)) (λb ob q=>d9 _ q) (bw _) ?_,rfl,q _ (I.aW.fresh (bw _))⟩;exact⟨jt (jw xs lo hi) hz,_,0,(r.drop (HT.sIx xs.length 0 lo)).take (HT.sIx xs.length xs.length hi - HT.sIx xs.length 0 lo),iy _ rfl⟩
def gZ:V->Bool
 |.bh=>true
 |.bl _=>true
 |.int _=>true
 |.str _=>true
 |_=>false
def Gk:V->V->Bool
 |.bh,.bh=>true
 |.bl a,.bl b=>a == b
 |.bl a,.int b=>(if a then 1 else 0) == b
 |.int a,.bl b=>a == (if b then 1 else 0)
 |.int a,.int b=>a == b
 |.str a,.str b=>a == b
 |_,_=>false
theorem Pd(ry:RelV y u)(rx:RelV x v)(fy:gZ y=true)(fx:gZ x=true):SeqAt.EqAt A s u v (Gk y x):=by
 cases y with
 |bh=>
  cases ry;cases x with
  |bh=>cases rx;exact SeqAt.EqAt.same _
  |bl b=>cases rx;exact SeqAt.EqAt.none_bool b
  |int b=>obtain⟨t,rfl⟩:=rx;exact SeqAt.EqAt.none_int b t
  |str b=>obtain⟨t,rfl⟩:=rx;exact SeqAt.EqAt.none_str b t
  |_=>exact absurd (show false=true from fx) lE
 |bl a=>
  cases ry;cases x with
  |bh=>cases rx;exact SeqAt.EqAt.bool_none a
  |bl b=>cases rx;exact SeqAt.EqAt.bool_bool a b
  |int b=>obtain⟨t,rfl⟩:=rx;exact SeqAt.EqAt.bool_int a b t
  |str b=>obtain⟨t,rfl⟩:=rx;exact SeqAt.EqAt.bool_str a b t
  |_=>exact absurd (show false=true from fx) lE
 |int a=>
  obtain⟨t',rfl⟩:=ry;cases x with
  |bh=>cases rx;exact SeqAt.EqAt.int_none a t'
  |bl b=>cases rx;exact SeqAt.EqAt.int_bool a t' b
  |int b=>obtain⟨t,rfl⟩:=rx;exact SeqAt.EqAt.int_int a t' b t
  |str b=>obtain⟨t,rfl⟩:=rx;exact SeqAt.EqAt.int_str a t' b t
  |_=>exact absurd (show false=true from fx) lE
 |str a=>
  obtain⟨t',rfl⟩:=ry;cases x with
  |bh=>cases rx;exact SeqAt.EqAt.str_none a t'
  |bl b=>cases rx;exact SeqAt.EqAt.str_bool a t' b
  |int b=>obtain⟨t,rfl⟩:=rx;exact SeqAt.EqAt.str_int a t' b t
  |str b=>obtain⟨t,rfl⟩:=rx;exact SeqAt.EqAt.str_str a t' b t
  |_=>exact absurd (show false=true from fx) lE
 |_=>exact absurd (show false=true from fy) lE
def MK(x:V)(u:Value):Bool:=match u with
 |.none=>Gk .bh x
 |.bool b=>Gk (.bl b) x
 |.int i _=>Gk (.int i) x
 |.str z _=>Gk (.str z) x
 |_=>false
theorem EE(r:RelV y u)(f:gZ y=true):MK x u=Gk y x:=by
 cases y with
 |bh=>cases r;rfl
 |bl b=>cases r;rfl
 |int i=>obtain⟨t,rfl⟩:=r;rfl
 |str z=>obtain⟨t,rfl⟩:=r;rfl
 |_=>exact absurd (show false=true from f) lE
theorem wK:∀{xs:List V}{us:List Value},Vals xs us->xs.all gZ=true->us.any (MK x)=xs.any λy=>Gk y x
 |_,_,.nil,_=>rfl
 |y::xs,u::us,.cons r t,f=>by
  rw[List.all_cons,lW]at f;rw[Q7,Q7,EE r f.1,wK t f.2]
theorem j7(rx:RelV x v)(fx:gZ x=true):∀{xs:List V}{us:List Value},Vals xs us->xs.all gZ=true->∀u∈us,SeqAt.EqAt A s u v (MK x u)
 |_,_,.nil,_=>λu hu=>by cases hu
 |y::xs,u::us,.cons r t,f=>λu' hu=>by
  rw[List.all_cons,lW]at f;rcases hZ.mp hu with rfl|hu
  ·rw[EE r f.1];exact Pd r rx f.1 fx
  ·exact j7 rx fx t f.2 u' hu
def VL(x:V)(xs:List V):Bool:=xs.any λy=>Gk y x
def YD(K:Wf)(neg:Bool):R2:=λx y H Q=>∃p xs,y=.ref p/\(aA K H p xs\/aS K H p xs)/\gZ x=true/\xs.all gZ=true/\Q (.bl (if neg then !VL x xs else VL x xs)) H
theorem Dr:gF X (compareOp .In) (YD X.K false):=by
 intro pins s σ H x y v u Q I rx ry h;obtain⟨p,xs,rfl,hq,fx,fs,q⟩:=h;cases ry;rcases hq with hq|hq
 ·obtain⟨its,r,pl,hz⟩:=I.list hq;refine SeqAt.in_listAt (MK x) pl.isList (λw hw=>j7 rx fx r fs w (by simpa using hw)) ⟨.bl _,H,I,rfl,?_⟩;rw[show its.toArray.any (MK x)=its.any (MK x) by simp,wK r fs];exact q
 ·obtain⟨its,r,pl,hz⟩:=I.tuple hq;refine SeqAt.in_tupleAt (MK x) pl (λw hw=>j7 rx fx r fs w (by simpa using hw)) ⟨.bl _,H,I,rfl,?_⟩;rw[show its.toArray.any (MK x)=its.any (MK x) by simp,wK r fs];exact q
theorem qq:dA X (.type "list") (λxs H Q=>∃p ys,xs=[.ref p]/\(aA X.K H p ys\/aS X.K H p ys)/\∀l,H l=none->Q (.ref l) (upd H l (.lst ys))):=by
 intro pins s σ H xs us Q I r h;obtain⟨p,ys,rfl,hq,q⟩:=h;obtain⟨u,rfl,rx⟩:=vals1 r;cases rx;have fin:∀(its:List Value),Vals ys its->ys.length<=sizeLine->∀(h':Heap) (c':Nat),(∀b o',s.heap.get? b=some o'->h'.get? b=some o')->
   h'.get? s.heap.objs.size=some { cls:=.type "list", dict:=none,data:=.seq its.toArray c',slots:=#[] }->EP X pins σ Q (.ref s.heap.objs.size) { s with heap:=h' }:=λits r' hz h' c' kp e=>
  ⟨.ref s.heap.objs.size,_,I.laid (t':=s.toks) kp (bw _) (show bg X.prog X.w _ h' _ (.lst ys) from ⟨hz,its,c',r',e⟩),rfl,q _ (I.aW.fresh (bw _))⟩
 rcases hq with hq|hq
 ·obtain⟨its,r',pl,hz⟩:=I.list hq;have hlen:=r'.length;obtain⟨o,ho,hc,n,hd⟩:=pl.isList;exact call_list_seq p (.inl rfl) ho hc hd (λh' c' kp e=>fin its r' hz h' c' kp e) (by simp only[List.size_toArray]<;>omega)
 ·obtain⟨its,r',pl,hz⟩:=I.tuple hq;have hlen:=r'.length;obtain⟨o,ho,hc,n,hd⟩:=pl;exact call_list_seq p (.inr rfl) ho hc hd (λh' c' kp e=>fin its r' hz h' c' kp e) (by simp only[List.size_toArray]<;>omega)
def Xm(K:Wf)(T:String)(x:V)(H:Hp):Prop:=match x with
 |.str _=>T = "str"
 |.int _=>T = "int"
 |.ref p=>(T = "list" /\ ∃xs,aA K H p xs)\/(T = "tuple" /\ ∃o,K.lookup p=some o/\o.cls=.type "tuple" /\ o.dict=none) \/
   (T = "dict" /\ ((∃kvs,H p=some (.dK kvs))\/∃kvs,H p=some (.dT kvs)))\/(T = "set" /\ ∃S n,H p=some (.set S n))
 |_=>False
theorem JL{pins:Lo}{σ:St}{H:Hp}{s:Shared}{T:String}{x:V}{v:Value}(I:Inv X pins σ H s)(r:RelV x v)(ty:Xm X.K T x H):
  s.TypeIs v T/\∀a,v=.ref a->∃ob,s.heap.get? a=some ob/\ob.dict=none:=by
 cases x with
 |str z=>
  obtain⟨t,rfl⟩:=r;cases (show T = "str" from ty);exact⟨typeIs_str s z t,λ_ e=>nomatch e⟩
 |int i=>
  obtain⟨t,rfl⟩:=r;cases (show T = "int" from ty);exact⟨typeIs_int s i t,λ_ e=>nomatch e⟩
 |ref p=>
  cases r;rcases ty with ⟨rfl,xs,hq⟩|⟨rfl,o,hk,hc,hd⟩|⟨rfl,hk⟩|⟨rfl,S,n,hk⟩
  ·obtain⟨its,_,pl,_⟩:=I.list hq;refine⟨pl.isList.typeIs,λa e=>?_⟩;cases e;obtain⟨o,n,e,c,hd,_⟩:=pl;exact⟨o,e,hd⟩
  ·refine⟨⟨o,I.i8 p o hk,hc⟩,λa e=>?_⟩;cases e;exact⟨o,I.i8 _ o hk,hd⟩
  ·have z:∃o,s.heap.get? p=some o/\o.ExactDict:=by
    rcases hk with ⟨kvs,hk⟩|⟨kvs,hk⟩
    ·obtain⟨_,_,_,_,o,_,_,e,ex,_⟩:=I.aW p _ hk;exact⟨o,e,ex⟩
    ·obtain⟨_,_,_,_,o,_,_,e,ex,_⟩:=I.aW p _ hk;exact⟨o,e,ex⟩
   obtain⟨o,e,ex⟩:=z;refine⟨⟨o,e,ex.1⟩,λa e2=>?_⟩;cases e2;exact⟨o,e,ex.2.1⟩
  ·obtain⟨o,_,_,_,e,ex,_⟩:=I.aW p _ hk;refine⟨⟨o,e,ex.1⟩,λa e2=>?_⟩;cases e2;exact⟨o,e,ex.2.1⟩
 |_=>exact False.elim ty
def WD(K:Wf)(T:String)(r:V->List V->Hp->VK->Prop)(to:TE):TE:=λσ H Q=>to σ H λx H1=>Xm K T x H1/\r x [] H1 Q
def YJ(K:Wf)(T:String)(r:V->List V->Hp->VK->Prop)(to:TE)(t:TA):TE:=λσ H Q=>to σ H λx H1=>Xm K T x H1/\t σ H1 λxs H2=>r x xs H2 Q
variable{o e:Expr}{es:List Expr}{to:TE}{t:TA}{name:Str}{apos cpos:Pos}{T id:String}{r:V->List V->Hp->VK->Prop}
theorem Li(pa:PlainAttrs T)(slot:Slot T name id)(hty:typeOf (.builtin id)=pure (.type "method_descriptor"))(hm:XG X id r)(ho:PE X o to)
  (hbase:attributeBase o name X.env (eval o X.env)=eval o X.env:=by rfl) (hline:(apos.endLine == cpos.line)=true:=by rfl):PE X (.Call (.Attribute o name apos) [] [] cpos) (WD X.K T r to):=by
 intro pins s σ H Q I h;refine wpAny_Call_method0_late hbase hline (bA (ho pins s σ H _ I h) λv s1 ⟨x,H1,I1,r1,ty,q1⟩=>?_);obtain⟨h1,h2⟩:=JL I1 r1 ty;exact⟨T,id,pa,slot,hty,h1,h2,Calls.callWith_builtin rfl (PySem.evalArgs_none (hm pins s1 σ H1 x [] v [] Q I1 r1 .nil q1))⟩
theorem mD(pa:PlainAttrs T)(slot:Slot T name id)(hty:typeOf (.builtin id)=pure (.type "method_descriptor"))(hm:XG X id r)(ho:PE X o to)(ha:PA X (e::es) t)
  (hbase:attributeBase o name X.env (eval o X.env)=eval o X.env:=by rfl)
  (hfew:((backTo cpos (starEach (e::es) X.env)).all (λx=>!x.1)&&(backToKw cpos (keywordEach [] X.env)).all (λx=>x.1.isSome)
   && decide ((e::es).length+([]:List Keyword).length+(if ([]:List Keyword).isEmpty then 0 else 1)<30))=true:=by rfl)
  (hline:(apos.endLine == cpos.line)=true:=by rfl) (hs:starEach (e::es) X.env=(false,eval e X.env)::starEach es X.env:=by rfl) (hplain:(backTo cpos (starEach es X.env)).any (·.1)=false:=by rfl):
  PE X (.Call (.Attribute o name apos) (e::es) [] cpos) (YJ X.K T r to t):=by
 intro pins s σ H Q I h;refine wpAny_Call_method_late hbase hfew hline rfl (bA (ho pins s σ H _ I h) λv s1 ⟨x,H1,I1,r1,ty,q1⟩=>?_);obtain⟨h1,h2⟩:=JL I1 r1 ty;refine⟨T,id,pa,slot,hty,h1,h2,?_⟩;have hA:=ha cpos pins s1 σ H1 _ I1 q1;rw[hs]at hA ⊢;refine Calls.callWith_builtin (by show(false || (backTo cpos (starEach es X.env)).any (·.1))=false;rw[hplain]<;>rfl) (Calls.evalArgs_plain ?_);exact bA hA λus s2 ⟨vs,H2,I2,r2,q2⟩=>hm pins s2 σ H2 x vs v us Q I2 r1 r2 q2
/- xs.append(e),list.index on a module's tuple .. are XG facts of 06m -/
end
def Ss(X:Cx)(id:String)(r:V->List V->Hp->VK->Prop):Prop:=
 ∀(pins:Lo) (s:Shared) (σ:St) (H:Hp) (x:V) (xs:List V) (v:Value) (us:List Value) (Q:VK),Inv X pins σ H s->RelV x v->Vals xs us->r x xs H Q->
  wpAny (model X.prog X.w) X.A (call (.builtin id) (v::us)) (EP X pins σ Q) X.xe s
theorem Vals.one:∀{x:V}{us:List Value},Vals [x] us->∃u,us=[u]/\RelV x u
 |_,_,.cons r .nil=>⟨_,rfl,r⟩
theorem Vals.zero:∀{us:List Value},Vals [] us->us=[]
 |_,.nil=>rfl
section
variable{X:Cx}{pins:Lo}{σ:St}{H:Hp}{s:Shared}{l b:Addr}{xs ys zs:List V}
theorem Inv.MP{its its':List Value}{n:Nat}{f:Array Value->Array Value}{t':Nat}(I:Inv X pins σ H s)(hH:H l=some (.lst xs))
  (e:s.heap.get? l=some { cls:=.type "list", data:=.seq its.toArray n }) (hf:f its.toArray=its'.toArray) (hv:Vals ys its') (hz:ys.length<=sizeLine):
  Inv X pins σ (upd H l (.lst ys)) { s with heap:=s.heap.update l (Obj.mapSeq f),toks:=t' }:=by
 have q:=PySem.IsL.update e f;rw[hf]at q;refine I.write (x:=l) (e:=l) (by rw[hH];exact trivial) (.inl rfl) (λb' u hb hu=>(VW s.heap (Obj.mapSeq f) (Ne.symm hb)).trans hu) ⟨_,q⟩ ?_;exact⟨hz,its',_,hv,q⟩
theorem Inv.P9(I:Inv X pins σ H s)(hv:Vals ys its)(hz:ys.length<=sizeLine):
  Inv X pins σ (upd H s.heap.objs.size (.lst ys)) { s with heap:=s.heap.push { cls:=.type "list", data:=.seq its.toArray },toks:=t' }:=
 I.laid (λ_ _ q=>d9 _ q) (bw _) ⟨hz,its,0,hv,iy _ rfl⟩
theorem Inv.fresh(I:Inv X pins σ H s):H s.heap.objs.size=none:=I.aW.fresh (bw _)
theorem Inv.Eu(I:Inv X pins σ H s)(hH:H l=some (.lst xs)):xs.length<=sizeLine/\∃(its:List Value) (n:Nat),Vals xs its/\xs.length=its.length/\s.heap.get? l=some { cls:=.type "list", data:=.seq its.toArray n }:=by
 obtain⟨z,its,n,r,e⟩:=I.aW l _ hH;exact⟨z,its,n,r,r.length,e⟩
theorem Ki(h:n<=sizeLine):Builtin.List.listTooLong n=false:=by
 unfold Builtin.List.listTooLong;exact decide_eq_false (by omega)
end
section
variable{X:Cx}
def BF:V->List V->Hp->VK->Prop:=λx vs H Q=>∃l xs y,x=.ref l/\vs=[y]/\H l=some (.lst xs)/\xs.length<sizeLine/\Q .bh (upd H l (.lst (xs++[y])))
theorem mV:Ss X "list.append" BF:=by
 intro pins s σ H x vs v us Q I rx rv h;obtain⟨l,xs,y,rfl,rfl,hH,hz,q⟩:=h;cases rx;obtain⟨u,rfl,ru⟩:=rv.one;obtain⟨z,its,n,r,hl,e⟩:=I.Eu hH;refine call_meets F.slot_list_append ⟨_,e,rfl⟩ F.entry_list_append (F.args_list_append_2 _ _) (PySem.list_append l its.toArray n u (by rw[hU];omega)) ⟨e,?_⟩;refine⟨.bh,_,I.MP (its':=its++[u]) hH e (by simp) (r.append (.cons ru .nil)) ?_,rfl,q⟩;rw[eY,Pp];omega
def Mf:V->List V->Hp->VK->Prop:=λx vs H Q=>∃l b xs zs,x=.ref l/\vs=[.ref b]/\H l=some (.lst xs)/\H b=some (.lst zs)/\xs.length+zs.length<=sizeLine/\Q .bh (upd H l (.lst (xs++zs)))
theorem Dj:Ss X "list.extend" Mf:=by
 intro pins s σ H x vs v us Q I rx rv h;obtain⟨l,b,xs,zs,rfl,rfl,hH,hB,hz,q⟩:=h;cases rx;obtain⟨u,rfl,ru⟩:=rv.one;cases ru;obtain⟨z,its,n,r,hl,e⟩:=I.Eu hH;obtain⟨z2,its2,n2,r2,hl2,e2⟩:=I.Eu hB;have hsz:its.toArray.size+its2.toArray.size<=sizeLine:=by rw[hU,hU];omega
 have hlong:¬(!its.toArray.isEmpty&&Builtin.List.listTooLong (its.toArray.size+its2.toArray.size))=true:=by
  rw[Ki hsz,Bool.and_false];exact lE
 refine call_meets F.slot_list_extend ⟨_,e,rfl⟩ F.entry_list_extend (F.args_list_extend_2 _ _)
  (AutoSeq1.list_extend_list_list_0 l its.toArray n b its2.toArray n2 hlong (by rw[hU];omega) (by omega)) ⟨e,e2,?_⟩
 refine⟨.bh,_,I.MP (its':=its++its2) hH e (by simp) (r.append r2) ?_,rfl,q⟩;rw[eY];omega
def QZ:V->List V->Hp->VK->Prop:=λx vs H Q=>∃l xs,x=.ref l/\vs=[]/\H l=some (.lst xs)/\Q .bh (upd H l (.lst []))
theorem x_:Ss X "list.clear" QZ:=by
 intro pins s σ H x vs v us Q I rx rv h;obtain⟨l,xs,rfl,rfl,hH,q⟩:=h;cases rx;have hus:=rv.zero;subst hus;obtain⟨z,its,n,r,hl,e⟩:=I.Eu hH;refine call_meets F.slot_list_clear ⟨_,e,rfl⟩ F.entry_list_clear (F.args_list_clear_1 _) (AutoSeq1.list_clear_list_0 l its.toArray n (by rw[hU];omega)) ⟨e,?_⟩;exact⟨.bh,_,I.MP (its':=[]) (ys:=[]) hH e rfl .nil (gH _),rfl,q⟩
end
section
variable{prog:Program}{w:World}{A:Around}{E:Vs}{s:Shared}
set_option maxRecDepth 100000 in
end
section
variable{κ:Type} [DecidableEq κ]
def bj(kvs:List (κ×V))(k:κ):Option V:=(kvs.find? λkv=>decide (kv.1=k)).map (·.2)
def putK(kvs:List (κ×V))(k:κ)(v:V):List (κ×V):=
 if (kvs.any λkv=>decide (kv.1=k))=true then kvs.map (λkv=>if kv.1=k then (kv.1,v) else kv) else kvs++[(k,v)]
theorem cb{p:κ×V}{r:List (κ×V)}{k:κ}(e:p.1=k):bj (p::r) k=some p.2:=by simp[bj,List.find?_cons,e]
theorem b_{p:κ×V}{r:List (κ×V)}{k:κ}(e:¬p.1=k):bj (p::r) k=bj r k:=by simp[bj,List.find?_cons,e]
theorem eA(k:κ):∀kvs:List (κ×V),(kvs.any λkv=>decide (kv.1=k))=(bj kvs k).isSome
 |[]=>rfl
 |p::r=>by
  rw[Q7];by_cases e:p.1=k
  ·simp only[cb e,decide_eq_true e,Bool.true_or,Option.isSome_some]
  ·rw[b_ e,decide_eq_false e,Bool.false_or];exact eA k r
theorem yT(k j:κ)(y:V):∀kvs:List (κ×V),bj (kvs.map λkv=>if kv.1=k then (kv.1,y) else kv) j=(bj kvs j).map λx=>if j=k then y else x
 |[]=>rfl
 |p::r=>by
  have ih:=yT k j y r;rw[lF];by_cases h:p.1=k
  ·rw[if_pos h];by_cases e:p.1=j
   ·rw[cb (p:=(p.1,y)) e,cb e,Option.map_some,if_pos (e.symm.trans h)]
   ·rw[b_ (p:=(p.1,y)) e,b_ e,ih]
  ·rw[if_neg h];by_cases e:p.1=j
   ·rw[cb (p:=p) e,cb e,Option.map_some,if_neg (λz=>h (e.trans z))]
   ·rw[b_ (p:=p) e,b_ e,ih]
theorem l9(k j:κ)(y:V):∀kvs:List (κ×V),bj kvs k=none->bj (kvs++[(k,y)]) j=if j=k then some y else bj kvs j
 |[],_=>by
  by_cases e:k=j
  ·rw[if_pos e.symm];exact cb (p:=(k,y)) e
  ·rw[if_neg (λz=>e z.symm)];exact b_ (p:=(k,y)) e
 |p::r,hn=>by
  rw[Tr];have hk:¬p.1=k:=λz=>by rw[cb z]at hn;cases hn
  rw[b_ hk]at hn;have ih:=l9 k j y r hn;by_cases e:p.1=j
  ·rw[cb e,cb e,if_neg (λz=>hk (e.trans z))]
  ·rw[b_ e,b_ e,ih]
theorem iB(kvs:List (κ×V))(k j:κ)(y:V):bj (putK kvs k y) j=if j=k then some y else bj kvs j:=by
 unfold putK;by_cases a:(kvs.any λkv=>decide (kv.1=k))=true
 ·rw[if_pos a,yT];rw[eA]at a;by_cases e:j=k
  ·obtain⟨x,hx⟩:=Option.isSome_iff_exists.mp a;rw[if_pos e,e,hx,Option.map_some,if_pos rfl]
  ·rw[if_neg e];cases bj kvs j with
   |none=>rfl
   |some x=>rw[Option.map_some,if_neg e]
 ·rw[if_neg a];refine l9 k j y kvs ?_;rw[eA]at a;cases q:bj kvs k with
  |none=>rfl
  |some x=>rw[q]at a;exact(a rfl).elim
theorem xF(kvs:List (κ×V))(k:κ)(v:V):(putK kvs k v).length<=kvs.length+1:=by
 unfold putK;split
 ·rw[aI];omega
 ·rw[eY,zS,List.length_nil];omega
theorem Ga{kvs:List (κ×V)}{k:κ}(v:V)(h:bj kvs k=none):putK kvs k v=kvs++[(k,v)]:=by
 unfold putK;rw[eA,h];exact if_neg (by decide)
theorem fK.fh(r:fK o u):o.isSome=u.isSome:=by
 cases o with
 |none=>cases u with
  |none=>rfl
  |some _=>exact(show False from r).elim
 |some _=>cases u with
  |none=>exact(show False from r).elim
  |some _=>rfl
theorem fK.getD(r:fK o u)(rd:RelV d d'):RelV (o.getD d) (u.getD d'):=by
 cases o with
 |none=>cases u with
  |none=>exact rd
  |some _=>exact(show False from r).elim
 |some _=>cases u with
  |none=>exact(show False from r).elim
  |some _=>exact r
theorem KV.val{kvs:List (κ×V)}{vs:List (κ×Value)}(r:KV kvs vs)(k:κ):fK (bj kvs k) (valueAt vs k):=by
 unfold KV at r
 induction r with
 |nil=>exact True.intro
 |@cons p q ps qs h t ih=>
  obtain⟨h1,h2⟩:=h;by_cases e:p.1=k
  ·have e':q.1=k:=h1.symm.trans e;have b:valueAt (q::qs) k=some q.2:=by simp[valueAt,List.find?_cons,e']
   rw[cb e,b];exact h2
  ·have e':¬q.1=k:=λz=>e (h1.trans z);have b:valueAt (q::qs) k=valueAt qs k:=by simp[valueAt,List.find?_cons,e']
   rw[b_ e,b];exact ih
theorem KV.any{kvs:List (κ×V)}{vs:List (κ×Value)}(r:KV kvs vs)(k:κ):(kvs.any λkv=>decide (kv.1=k))=vs.any λkv=>decide (kv.1=k):=by
 unfold KV at r
 induction r with
 |nil=>rfl
 |cons h t ih=>rw[Q7,Q7,ih,h.1]
theorem KV.O2{kvs:List (κ×V)}{vs:List (κ×Value)}(r:KV kvs vs)(k:κ){y:V}{u:Value}(ry:RelV y u):
  KV (kvs.map λkv=>if kv.1=k then (kv.1,y) else kv) (vs.map λkv=>if kv.1=k then (kv.1,u) else kv):=by
 unfold KV at r ⊢
 induction r with
 |nil=>exact .nil
 |@cons p q ps qs h t ih=>
  rw[lF,lF];refine .cons ?_ ih;obtain⟨h1,h2⟩:=h;by_cases e:p.1=k
  ·rw[if_pos e,if_pos (h1.symm.trans e)];exact⟨h1,ry⟩
  ·rw[if_neg e,if_neg (λz=>e (h1.trans z))];exact⟨h1,h2⟩
theorem KV.put{kvs:List (κ×V)}{vs:List (κ×Value)}(r:KV kvs vs)(k:κ){y:V}{u:Value}(ry:RelV y u):KV (putK kvs k y) (stored vs k u):=by
 unfold putK stored;rw[r.any k];by_cases e:(vs.any λkv=>decide (kv.1=k))=true
 ·rw[if_pos e,if_pos e];exact r.O2 k ry
 ·rw[if_neg e,if_neg e];exact Paired.snoc r ⟨rfl,ry⟩
theorem KV.length{kvs:List (κ×V)}{vs:List (κ×Value)}(r:KV kvs vs):kvs.length=vs.length:=Paired.length r
end
theorem ju(r:RelV (kV k) u):(bc P w).is k u=true:=by
 cases k with
 |inl i=>obtain⟨t,e⟩:=(show ∃t,u=Value.int i t from r);subst e;exact xM P w i t
 |inr x=>obtain⟨t,e⟩:=(show ∃t,u=Value.str x t from r);subst e;exact yq P w x t
theorem mH:∀{ks:List Key}{us:List Value},Vals (ks.map kV) us->ItemsAre (bc P w) ks us
 |[],_,r=>by rw[List.map_nil]at r;cases r;exact .nil
 |k::ks,_,r=>by
  rw[lF]at r;cases r with
  |cons h t=>exact .cons (ju h) (mH t)
abbrev KT(H:Hp):List (List Key×V)->List (List Key×Addr×Value)->Prop:=Paired λp q=>p.1=q.1/\H q.2.1=some (.tup (p.1.map kV))/\RelV p.2 q.2.2
theorem KT.val{H:Hp}{kvs:List (List Key×V)}{xs:List (List Key×Addr×Value)}(r:KT H kvs xs)(k:List Key):fK (bj kvs k) ((atKey xs k).map (·.2)):=by
 induction r with
 |nil=>exact True.intro
 |@cons p q ps qs h t ih=>
  obtain⟨h1,_,h2⟩:=h;by_cases e:p.1=k
  ·have e':q.1=k:=h1.symm.trans e;have b:atKey (q::qs) k=some q.2:=by simp[atKey,List.find?_cons,e']
   rw[cb e,b];exact h2
  ·have e':¬q.1=k:=λz=>e (h1.trans z);have b:atKey (q::qs) k=atKey qs k:=by simp[atKey,List.find?_cons,e']
   rw[b_ e,b];exact ih
theorem KT.O2{H:Hp}{kvs:List (List Key×V)}{xs:List (List Key×Addr×Value)}(r:KT H kvs xs)(k:List Key){y:V}{u:Value}(ry:RelV y u):
  KT H (kvs.map λkv=>if kv.1=k then (kv.1,y) else kv) (xs.map (putAt k u)):=by
 induction r with
 |nil=>exact .nil
 |@cons p q ps qs h t ih=>
  rw[lF,lF];refine .cons ?_ ih;obtain⟨h1,h2,h3⟩:=h;unfold putAt;by_cases e:p.1=k
  ·rw[if_pos e,if_pos (h1.symm.trans e)];exact⟨h1,h2,ry⟩
  ·rw[if_neg e,if_neg (λz=>e (h1.trans z))];exact⟨h1,h2,h3⟩
theorem KT.put{H:Hp}{kvs:List (List Key×V)}{xs:List (List Key×Addr×Value)}(r:KT H kvs xs)(k:List Key){b:Addr}{y:V}{u:Value}(hb:H b=some (.tup (k.map kV)))(ry:RelV y u):
  KT H (putK kvs k y) (storedH xs k b u):=by
 have e:(kvs.any λkv=>decide (kv.1=k))=(atKey xs k).isSome:=by
  rw[eA,(r.val k).fh,Ro]
 unfold putK storedH;rw[e];by_cases q:(atKey xs k).isSome=true
 ·rw[if_pos q,if_pos q];exact r.O2 k ry
 ·rw[if_neg q,if_neg q];exact Paired.snoc r ⟨rfl,hb,ry⟩
theorem KT.keeps(r:KT H kvs xs)(ht:∀b ys,H b=some (.tup ys)->H' b=some (.tup ys)):KT H' kvs xs:=
 Paired.OZ r λ_ _ z=>⟨z.1,ht _ _ z.2.1,z.2.2⟩
section
variable{P:Program}{w:World}{H:Hp}{h:Heap}{a:Addr}
theorem Np(ok:gL P w H h)(e:Rd H a u):bg P w H h a u:=e.ok ok
theorem jq(ok:gL P w H h)(e:Rd H a (.dK kvs)):kvs.length<=sizeLine/\(a == sysModules)=false/\∃vs,KV kvs vs/\h.DictOf (bc P w) a vs:=
 show bg P w H h a (.dK kvs) from Np ok e
theorem mM(ok:gL P w H h)(e:H a=some (.dK kvs)):kvs.length<=sizeLine/\(a == sysModules)=false/\∃vs,KV kvs vs/\h.DictOf (bc P w) a vs:=jq ok (.inl e)
theorem gh(ok:gL P w H h)(e:H a=some (.tup (ks.map kV))):(tupleKind (bc P w)).is h ks a:=by
 obtain⟨_,its,r,o,h1,h2,n,h3⟩:=(show bg P w H h a (.tup (ks.map kV)) from ok a _ e)
 exact⟨o,its.toArray,n,h1,h2,h3,by simpa using mH r⟩
theorem jr(ok:gL P w H h)(e:Rd H a (.dT kvs)):kvs.length<=sizeLine/\(a == sysModules)=false/\
  ∃xs,KT H kvs xs/\h.DictOfH (tupleKind (bc P w)) a xs:=by
 obtain⟨z,y,xs,r,o,es,ep,h1,h2,h3,h4,h5⟩:=(show bg P w H h a (.dT kvs) from Np ok e)
 refine⟨z,y,xs,r,o,es,ep,h1,h2,h3,h4,λx hx=>?_,h5⟩;have all:∀{l:List (List Key×V)}{m:List (List Key×Addr×Value)},KT H l m->∀x∈m,(tupleKind (bc P w)).is h x.1 x.2.1:=by
  intro l m q
  induction q with
  |nil=>intro x hx;exact nomatch hx
  |@cons p q ps qs hq t ih=>
   intro x hx;rcases hZ.mp hx with e|hx
   ·subst e;exact gh ok (by rw[<-hq.1];exact hq.2.1)
   ·exact ih x hx
 exact all r x hx
theorem N8(ok:gL P w H h)(e:H a=some (.dT kvs)):kvs.length<=sizeLine/\(a == sysModules)=false/\
  ∃xs,KT H kvs xs/\h.DictOfH (tupleKind (bc P w)) a xs:=jr ok (.inl e)
end
def bT(H:Hp)(a:Addr)(y:V)(r:Option V):Prop:=
 (∃kvs k,Rd H a (.dK kvs)/\y=kV k/\r=bj kvs k)\/∃kvs k b,Rd H a (.dT kvs)/\y=.ref b/\H b=some (.tup (k.map kV))/\r=bj kvs k
def dG(H:Hp)(a:Addr)(y v:V)(H':Hp):Prop:=
 (∃kvs k,H a=some (.dK kvs)/\y=kV k/\kvs.length<sizeLine/\H'=upd H a (.dK (putK kvs k v))) \/
 ∃kvs k b,H a=some (.dT kvs)/\y=.ref b/\H b=some (.tup (k.map kV))/\kvs.length<sizeLine/\H'=upd H a (.dT (putK kvs k v))
theorem bT.k{H:Hp}{a:Addr}{kvs:List (Key×V)}{k:Key}(e:H a=some (.dK kvs)):bT H a (kV k) (bj kvs k):=.inl ⟨kvs,k,.inl e,rfl,rfl⟩
theorem bT.t{H:Hp}{a b:Addr}{kvs:List (List Key×V)}{k:List Key}(e:H a=some (.dT kvs))(eb:H b=some (.tup (k.map kV))):bT H a (.ref b) (bj kvs k):=.inr ⟨kvs,k,b,.inl e,rfl,eb,rfl⟩
theorem dG.k{H:Hp}{a:Addr}{kvs:List (Key×V)}{k:Key}{v:V}(e:H a=some (.dK kvs))(hl:kvs.length<sizeLine):dG H a (kV k) v (upd H a (.dK (putK kvs k v))):=.inl ⟨kvs,k,e,rfl,hl,rfl⟩
theorem dG.t{H:Hp}{a b:Addr}{kvs:List (List Key×V)}{k:List Key}{v:V}(e:H a=some (.dT kvs))(eb:H b=some (.tup (k.map kV)))(hl:kvs.length<sizeLine):
  dG H a (.ref b) v (upd H a (.dT (putK kvs k v))):=.inr ⟨kvs,k,b,e,rfl,eb,hl,rfl⟩
section
variable{X:Cx}{pins:Lo}{σ:St}{H:Hp}{s:Shared}{a:Addr}{y v:V}{u r:Value}{o:Option V}{A:Around}{E:Vs}
theorem Inv.big(I:Inv X pins σ H s):sysModules<s.heap.objs.size:=by
 have h:mainGlobals<s.heap.objs.size:=(I.mod.glob.keeps I.bk).lt;exact Nat.lt_trans (by decide) h
theorem DQ{Q:Vs}(hu:A.units+1<cLine)(I:Inv X pins σ H s)(g:bT H a y (some v))(ry:RelV y u)(h:∀w' s',Inv X pins σ H s'->RelV v w'->Q w' s'):
  wpAny (model X.prog X.w) A (getItem (.ref a) u) Q E s:=by
 rcases g with ⟨kvs,k,e,ey,l⟩|⟨kvs,k,b,e,ey,eb,l⟩
 ·subst ey;obtain⟨z,hd,vs,rel,dd⟩:=jq I.aW e;obtain⟨w',hw,rw'⟩:=fK.some_of (v:=v) (o:=valueAt vs k) (by rw[l];exact rel.val k);exact wpAny_getItem_of (ju ry) dd.mapOf hw (h w' _ (I.tok _) rw')
 ·subst ey;cases (show u=Value.ref b from ry);obtain⟨z,hd,xs,rel,dd⟩:=jr I.aW e;obtain⟨w',hw,rw'⟩:=fK.some_of (v:=v) (o:=(atKey xs k).map (·.2)) (by rw[l];exact rel.val k);obtain⟨p,hp,hp2⟩:=fW.mp hw;refine wpAny_getItem_heap (tupleKind_room_in1 hu) (gh I.aW eb) dd hp ?_;rw[hp2];exact h w' _ (I.tok _) rw'
theorem Xk{Q:Vs}(hu:A.units+1<cLine)(I:Inv X pins σ H s)(g:bT H a y o)(ry:RelV y u)(h:∀s',Inv X pins σ H s'->Q (.bool o.isSome) s'):
  wpAny (model X.prog X.w) A (compareOp .In u (.ref a)) Q E s:=by
 rcases g with ⟨kvs,k,e,ey,l⟩|⟨kvs,k,b,e,ey,eb,l⟩
 ·subst ey;obtain⟨z,hd,vs,rel,dd⟩:=jq I.aW e;refine wpAny_in_of (ju ry) hd dd.mapOf ?_;rw[<-(rel.val k).fh,<-l];exact h _ (I.tok _)
 ·subst ey;cases (show u=Value.ref b from ry);obtain⟨z,hd,xs,rel,dd⟩:=jr I.aW e;refine wpAny_in_heap (tupleKind_room_in1 hu) (gh I.aW eb) hd dd ?_;have q:=(rel.val k).fh;rw[Ro]at q;rw[<-q,<-l];exact h _ (I.tok _)
theorem M0{Q:Vs}(hu:A.units+1<cLine)(I:Inv X pins σ H s)(g:bT H a y o)(ry:RelV y u)(h:∀s',Inv X pins σ H s'->Q (.bool (!o.isSome)) s'):
  wpAny (model X.prog X.w) A (compareOp .NotIn u (.ref a)) Q E s:=by
 rcases g with ⟨kvs,k,e,ey,l⟩|⟨kvs,k,b,e,ey,eb,l⟩
 ·subst ey;obtain⟨z,hd,vs,rel,dd⟩:=jq I.aW e;refine wpAny_notIn_of (ju ry) hd dd.mapOf ?_;rw[<-(rel.val k).fh,<-l];exact h _ (I.tok _)
 ·subst ey;cases (show u=Value.ref b from ry);obtain⟨z,hd,xs,rel,dd⟩:=jr I.aW e;refine wpAny_notIn_heap (tupleKind_room_in1 hu) (gh I.aW eb) hd dd ?_;have q:=(rel.val k).fh;rw[Ro]at q;rw[<-q,<-l];exact h _ (I.tok _)
theorem ig(I:Inv X pins σ H s)(mu:TC (H a))(hs:Heap.SameBut a s.heap h')(he:∃q,h'.get? a=some q)(new:bg X.prog X.w (upd H a ob) h' a ob):
  Inv X pins σ (upd H a ob) { s with heap:=h',toks:=t' }:=
 I.write (x:=a) (e:=a) mu (.inl rfl) (λb q hb z=>(hs.2 b hb).trans z) he new
theorem zq(z:kvs.length<=sizeLine)(hd:(a == sysModules)=false)(rel:KV kvs vs)(dd:h'.DictOf (bc P w) a vs):
  bg P w H' h' a (.dK kvs):=⟨z,hd,vs,rel,dd⟩
theorem C3(hu:A.units+1<cLine)(I:Inv X pins σ H s)(g:dG H a y v H')(ry:RelV y u)(rv:RelV v r)(h:∀s',Inv X pins σ H' s'->Q () s'):
  wpAny (model X.prog X.w) A (setItem (.ref a) u r) Q E s:=by
 rcases g with ⟨kvs,k,e,ey,l,eH⟩|⟨kvs,k,b,e,ey,eb,l,eH⟩
 ·subst ey eH;obtain⟨z,hd,vs,rel,dd⟩:=mM I.aW e;have hz:vs.length<=sizeLine:=by rw[<-rel.length];exact z
  have hl:(putK kvs k v).length<=sizeLine:=by have:=xF kvs k v;omega
  refine wpAny_setItem_pairs (hsz:=hz) (ju ry) dd λh' dd' hs=>h _ ?_;have he:∃q,h'.get? a=some q:=let ⟨q,_,_,hq,_⟩:=dd';⟨q,hq⟩
  exact ig I (by rw[e];exact True.intro) hs he (zq hl hd (rel.put k rv) dd')
 ·subst ey eH;cases (show u=Value.ref b from ry);obtain⟨z,hd,xs,rel,dd⟩:=N8 I.aW e;have hz:xs.length<=sizeLine:=by rw[<-Paired.length rel];exact z
  have hl:(putK kvs k v).length<=sizeLine:=by have:=xF kvs k v;omega
  refine wpAny_setItem_heap (hsz:=hz) (tupleKind_room_in1 hu) (gh I.aW eb) dd λh' dd' hs=>h _ ?_;obtain⟨q,es,ep,hq,h2,h3,h4,_,h5⟩:=dd';refine ig I (by rw[e];exact True.intro) hs ⟨q,hq⟩ ⟨hl,hd,_,(rel.put k eb rv).keeps λc ys ec=>?_,q,es,ep,hq,h2,h3,h4,h5⟩;rw[ae (ba ec e (λz=>nomatch z))];exact ec
end
def Ru(i:Expr):Prop:=∀ov iv,subscripted i false ov iv=operate [ov,iv] (getItem ov iv)
theorem MS{prog:Program}{w:World}{A:Around}{E:Vs}{s:Shared}{env:Env}{value slice:Expr}{pos:Pos}{T id:String}{Q:Vs}
  (hl:typeLookup (.type T) "__getitem__" = pure (some (.builtin id))) (hs:Ru slice)
  (h:wpAny (model prog w) A (eval value env) (λo s₁=>wpAny (model prog w) A (eval slice env) (λi s₂=>s₂.TypeIs o T/\wpAny (model prog w) A (getItem o i) Q E s₂) E s₁) E s):
  wpAny (model prog w) A (eval (.Subscript value slice pos) env) Q E s:=by
 refine Subscript_ (pG h (λo s₁ h₁=>pG h₁ (λi s₂ h₂=>?_) λ_ _ x=>x) λ_ _ x=>x);obtain⟨hT,h₂⟩:=h₂;unfold subscriptTail;refine aC ?_;rw[getitemInPython_of_ne hT.not_modules];refine aC (wpAny_specialOf hT hl ?_);have fin:wpAny (model prog w) A (subscripted slice false o i) (λr s₃=>wpAny (model prog w) A (letTemporaryGo value o r >>= λ_=>pure r) Q E s₃) E s₂:=by
  rw[hs o i];exact wpAny_operating (pG h₂ (λr s₃ h₃=>aC (wpAny_letTemporaryGo (bB h₃))) λ_ _ x=>x)
 first
  |exact bB (aC fin)
  |exact aC (bB (aC fin))
  |exact aC fin
theorem yO{X:Cx}{pins:Lo}{σ:St}{H:Hp}{s:Shared}{a:Addr}{y:V}{o:Option V}(I:Inv X pins σ H s)(g:bT H a y o):s.TypeIs (.ref a) "dict" := by
 rcases g with ⟨kvs,k,e,_,_⟩|⟨kvs,k,b,e,_,_,_⟩
 ·obtain⟨_,_,vs,_,dd⟩:=jq I.aW e;exact dd.typeIs
 ·obtain⟨_,_,xs,_,dd⟩:=jr I.aW e;exact dd.typeIs
def Vo(td ty:TE):TE:=λσ H Q=>td σ H λx H1=>ty σ H1 λy H2=>∃a v,x=.ref a/\bT H2 a y (some v)/\Q v H2
def X2(ty td:TE):TE:=λσ H Q=>ty σ H λy H1=>td σ H1 λx H2=>∃a o,x=.ref a/\bT H2 a y o/\Q (.bl o.isSome) H2
def Ms(ty td:TE):TE:=λσ H Q=>ty σ H λy H1=>td σ H1 λx H2=>∃a o,x=.ref a/\bT H2 a y o/\Q (.bl (!o.isSome)) H2
def R9(td ty tv:TE):TS:=λD σ H=>tv σ H λv H1=>td σ H1 λx H2=>ty σ H2 λy H3=>∃a H4,x=.ref a/\dG H3 a y v H4/\D.nx σ H4
section
variable{X:Cx}{o i e value:Expr}{pos pos' tpos:Pos}{td ty tv:TE}
theorem fB(hu:X.A.units+1<cLine)(ho:PE X o td)(hi:PE X i ty)(hs:Ru i):PE X (.Subscript o i pos) (Vo td ty):=by
 intro pins s σ H Q I h;refine MS PySem.F.slot_dict_getitem.lookup hs (bA (ho pins s σ H _ I h) λu s1 ⟨x,H1,I1,rx,q1⟩=>bA (hi pins s1 σ H1 _ I1 q1) λiv s2 ⟨y,H2,I2,ry,a,v,ex,g,q2⟩=>?_);subst ex;obtain rfl:u=Value.ref a:=rx;exact⟨yO I2 g,DQ hu I2 g ry λw' s3 I3 rw'=>⟨v,H2,I3,rw',q2⟩⟩
theorem zW(hu:X.A.units+1<cLine)(hi:PE X i ty)(ho:PE X o td):PC X .In i o (X2 ty td):=by
 intro pins s σ H Q I h;refine bA (hi pins s σ H _ I h) λiv s1 ⟨y,H1,I1,ry,q1⟩=>bA (ho pins s1 σ H1 _ I1 q1) λu s2 ⟨x,H2,I2,rx,a,ov,ex,g,q2⟩=>?_;subst ex;obtain rfl:u=Value.ref a:=rx;exact Xk hu I2 g ry λs3 I3=>⟨.bl ov.isSome,H2,I3,rfl,q2⟩
theorem e_(hu:X.A.units+1<cLine)(hi:PE X i ty)(ho:PE X o td):PC X .NotIn i o (Ms ty td):=by
 intro pins s σ H Q I h;refine bA (hi pins s σ H _ I h) λiv s1 ⟨y,H1,I1,ry,q1⟩=>bA (ho pins s1 σ H1 _ I1 q1) λu s2 ⟨x,H2,I2,rx,a,ov,ex,g,q2⟩=>?_;subst ex;obtain rfl:u=Value.ref a:=rx;exact M0 hu I2 g ry λs3 I3=>⟨.bl (!ov.isSome),H2,I3,rfl,q2⟩
theorem cT(hu:X.A.units+1<cLine)(ho:PE X o td)(hi:PE X i ty)(hv:PE X value tv)(hs:swapsWith value (some (.Subscript o i pos')) pos.line X.env=pure false):
  PS X (.Assign [.Subscript o i pos'] value pos) (R9 td ty tv):=by
 intro pins s σ H D I h;refine wpAny_Assign_Subscript (bA (hv pins s σ H _ I h) λr s1 ⟨v,H1,I1,rv,q1⟩=>bA (ho pins s1 σ H1 _ I1 q1) λu s2 ⟨x,H2,I2,rx,q2⟩=>bA (hi pins s2 σ H2 _ I2 q2) λiv s3 ⟨y,H3,I3,ry,a,H4,ex,g,q3⟩=>?_) hs;subst ex;obtain rfl:u=Value.ref a:=rx;exact C3 hu I3 g ry rv λs4 I4=>⟨σ,H4,I4,q3⟩
end
theorem Kc(h:Heap)(hb:sysModules<h.objs.size):bg P w H (h.push { cls:=.type "dict", data:=.dict #[] }) h.objs.size (.dK []):=
 ⟨gH _,beq_eq_false_iff_ne.mpr (Ne.symm (gI hb)),[],.nil,Heap.DictOf.new h⟩
theorem KD(h:Heap)(hb:sysModules<h.objs.size):bg P w H (h.push { cls:=.type "dict", data:=.dict #[] }) h.objs.size (.dT []):=
 ⟨gH _,beq_eq_false_iff_ne.mpr (Ne.symm (gI hb)),[],.nil,_,#[],0,iy _ rfl,⟨rfl,rfl,rfl⟩,rfl,rfl,List.nodup_nil⟩
def OK:TE:=λ_ H Q=>∀p,H p=none->Q (.ref p) (upd H p (.dK []))
def Pw:TE:=λ_ H Q=>∀p,H p=none->Q (.ref p) (upd H p (.dT []))
section
variable{X:Cx}{pos:Pos}
theorem cg:PE X (.Dict [] [] pos) OK:=λpins s σ H Q I h=>
 wpAny_Dict_empty ⟨.ref s.heap.objs.size,_,I.laid (a:=s.heap.objs.size) (o:=.dK []) (t':=s.toks) (λ_ _ q=>d9 _ q) (bw _) (Kc s.heap I.big),rfl,h _ (I.aW.fresh (bw _))⟩
theorem yK:PE X (.Dict [] [] pos) Pw:=λpins s σ H Q I h=>
 wpAny_Dict_empty ⟨.ref s.heap.objs.size,_,I.laid (a:=s.heap.objs.size) (o:=.dT []) (t':=s.toks) (λ_ _ q=>d9 _ q) (bw _) (KD s.heap I.big),rfl,h _ (I.aW.fresh (bw _))⟩
end
def ke(kvs more:List (Key×V)):List (Key×V):=more.foldl (λacc kv=>putK acc kv.1 kv.2) kvs
theorem KV.merge:∀{more:List (Key×V)}{rs:List (Key×Value)}{kvs:List (Key×V)}{vs:List (Key×Value)},KV more rs->KV kvs vs->KV (ke kvs more) (merged vs rs):=by
 intro more rs kvs vs r;unfold KV at r
 induction r generalizing kvs vs with
 |nil=>intro q;exact q
 |@cons p q ps qs h t ih=>
  intro r0;have e:KV (putK kvs p.1 p.2) (stored vs q.1 q.2):=by
   have:=r0.put p.1 h.2;rw[<-h.1];exact this
  exact ih e
theorem g6:∀(more kvs:List (Key×V)),(ke kvs more).length<=kvs.length+more.length
 |[],kvs=>by show kvs.length<=kvs.length+0;omega
 |p::r,kvs=>by
  have h1:=g6 r (putK kvs p.1 p.2);have h2:=xF kvs p.1 p.2;show(ke (putK kvs p.1 p.2) r).length<=_;rw[zS];omega
structure M1(X:Cx)(o:Expr)(m:Str)(apos:Pos)(e:Expr)(cpos:Pos):Prop where
 base:attributeBase o m X.env (eval o X.env)=eval o X.env
 d7:((backTo cpos (starEach [e] X.env)).all (λx=>!x.1)&&(backToKw cpos (keywordEach [] X.env)).all (λx=>x.1.isSome)
  && decide (([e]:List Expr).length+([]:List Keyword).length+(if ([]:List Keyword).isEmpty then 0 else 1)<30))=true
 line:(apos.endLine == cpos.line)=true
 trees:backTo cpos (starEach [e] X.env)=[(false,eval e X.env)]
structure M2(X:Cx)(o:Expr)(m:Str)(apos:Pos)(e f:Expr)(cpos:Pos):Prop where
 base:attributeBase o m X.env (eval o X.env)=eval o X.env
 d7:((backTo cpos (starEach [e,f] X.env)).all (λx=>!x.1)&&(backToKw cpos (keywordEach [] X.env)).all (λx=>x.1.isSome)
  && decide (([e,f]:List Expr).length+([]:List Keyword).length+(if ([]:List Keyword).isEmpty then 0 else 1)<30))=true
 line:(apos.endLine == cpos.line)=true
 trees:backTo cpos (starEach [e,f] X.env)=[(false,eval e X.env),(false,eval f X.env)]
def VG(H:Hp)(a:Addr):Prop:=(∃kvs,Rd H a (.dK kvs))\/∃kvs,Rd H a (.dT kvs)
theorem Ah{X:Cx}{pins:Lo}{σ:St}{H:Hp}{s:Shared}{a:Addr}(I:Inv X pins σ H s)(d:VG H a):
  s.TypeIs (.ref a) "dict" /\ (∀b,Value.ref a=.ref b->∃ob,s.heap.get? b=some ob/\ob.dict=none)/\(a == sysModules)=false:=by
 rcases d with ⟨kvs,e⟩|⟨kvs,e⟩
 ·obtain⟨_,hd,vs,_,dd⟩:=jq I.aW e;refine⟨dd.typeIs,λb q=>?_,hd⟩;cases q;obtain⟨ob,_,_,h1,h2,_⟩:=dd;exact⟨ob,h1,h2.2.1⟩
 ·obtain⟨_,hd,xs,_,dd⟩:=jr I.aW e;refine⟨dd.typeIs,λb q=>?_,hd⟩;cases q;obtain⟨ob,_,_,h1,h2,_⟩:=dd;exact⟨ob,h1,h2.2.1⟩
section
variable{X:Cx}{pins:Lo}{σ:St}{H:Hp}{s:Shared}{a:Addr}{y d:V}{u r:Value}{o:Option V}{A:Around}{E:Vs}
theorem QT{Q:Vs}(hu:A.units+1<cLine)(I:Inv X pins σ H s)(g:bT H a y o)(ry:RelV y u)(h:∀w' s',Inv X pins σ H s'->RelV (o.getD .bh) w'->Q w' s'):
  wpAny (model X.prog X.w) A (call (.builtin "dict.get") [.ref a,u]) Q E s:=by
 rcases g with ⟨kvs,k,e,ey,l⟩|⟨kvs,k,b,e,ey,eb,l⟩
 ·subst ey;obtain⟨z,hd,vs,rel,dd⟩:=jq I.aW e;refine call_meetsIn PySem.F.slot_dict_get dd.typeIs PySem.F.entry_dict_get (PySem.F.args_dict_get_2 _ _) (meets_dict_get (bc X.prog X.w) a (ju ry) hd) ⟨_,dd.mapOf,h _ _ (I.tok _) ?_⟩;rw[l];exact(rel.val k).getD rfl
 ·subst ey;cases (show u=Value.ref b from ry);obtain⟨z,hd,xs,rel,dd⟩:=jr I.aW e;refine call_meetsIn PySem.F.slot_dict_get dd.typeIs PySem.F.entry_dict_get (PySem.F.args_dict_get_2 _ _) (meetsH_dict_get (tupleKind (bc X.prog X.w)) a b hd) ⟨tupleKind_room_in1 hu,k,xs,gh I.aW eb,dd,h _ _ (I.tok _) ?_⟩;rw[l];exact(rel.val k).getD rfl
theorem Qt{Q:Vs}(hu:A.units+1<cLine)(I:Inv X pins σ H s)(g:bT H a y o)(ry:RelV y u)(rd:RelV d r)(h:∀w' s',Inv X pins σ H s'->RelV (o.getD d) w'->Q w' s'):
  wpAny (model X.prog X.w) A (call (.builtin "dict.get") [.ref a,u,r]) Q E s:=by
 rcases g with ⟨kvs,k,e,ey,l⟩|⟨kvs,k,b,e,ey,eb,l⟩
 ·subst ey;obtain⟨z,hd,vs,rel,dd⟩:=jq I.aW e;refine call_meetsIn PySem.F.slot_dict_get dd.typeIs PySem.F.entry_dict_get (PySem.F.args_dict_get_3 _ _ _) (meets_dict_get_default (bc X.prog X.w) a (ju ry) hd r) ⟨_,dd.mapOf,h _ _ (I.tok _) ?_⟩;rw[l];exact(rel.val k).getD rd
 ·subst ey;cases (show u=Value.ref b from ry);obtain⟨z,hd,xs,rel,dd⟩:=jr I.aW e;refine call_meetsIn PySem.F.slot_dict_get dd.typeIs PySem.F.entry_dict_get (PySem.F.args_dict_get_3 _ _ _) (meetsH_dict_get_default (tupleKind (bc X.prog X.w)) a b hd r) ⟨tupleKind_room_in1 hu,k,xs,gh I.aW eb,dd,h _ _ (I.tok _) ?_⟩;rw[l];exact(rel.val k).getD rd
end
def ON(td ty:TE):TE:=λσ H Q=>td σ H λx H1=>∃a,x=.ref a/\VG H1 a/\ty σ H1 λy H2=>∃o,bT H2 a y o/\Q (o.getD .bh) H2
def OO(td ty tx:TE):TE:=λσ H Q=>td σ H λx H1=>∃a,x=.ref a/\VG H1 a/\ty σ H1 λy H2=>tx σ H2 λz H3=>∃o,bT H3 a y o/\Q (o.getD z) H3
section
variable{X:Cx}{o e f:Expr}{apos cpos:Pos}{td ty tx:TE}
theorem kR(hu:X.A.units+1<cLine)(ho:PE X o td)(he:PE X e ty)(m:M1 X o "get" apos e cpos):PE X (.Call (.Attribute o "get" apos) [e] [] cpos) (ON td ty):=by
 intro pins s σ H Q I h;refine wpAny_Call_method m.base m.d7 m.line PySem.F.plainAttrs_dict PySem.F.slot_dict_get PySem.F.type_dict_get (bA (ho pins s σ H _ I h) λu s1 ⟨x,H1,I1,rx,a,ex,d,q1⟩=>?_);subst ex;obtain rfl:u=Value.ref a:=rx;obtain⟨t1,t2,_⟩:=Ah I1 d;refine⟨t1,t2,?_⟩;rw[m.trees];refine Calls.callWith_builtin rfl (Calls.evalArgs_plain (Calls.spliced_cons (bA (he pins s1 σ H1 _ I1 q1) λiv s2 ⟨y,H2,I2,ry,ov,g,q2⟩=>Calls.spliced_nil ?_)));exact QT hu I2 g ry λw' s3 I3 rw'=>⟨_,H2,I3,rw',q2⟩
theorem GN(hu:X.A.units+1<cLine)(ho:PE X o td)(he:PE X e ty)(hf:PE X f tx)(m:M2 X o "get" apos e f cpos):PE X (.Call (.Attribute o "get" apos) [e,f] [] cpos) (OO td ty tx):=by
 intro pins s σ H Q I h;refine wpAny_Call_method m.base m.d7 m.line PySem.F.plainAttrs_dict PySem.F.slot_dict_get PySem.F.type_dict_get (bA (ho pins s σ H _ I h) λu s1 ⟨x,H1,I1,rx,a,ex,d,q1⟩=>?_);subst ex;obtain rfl:u=Value.ref a:=rx;obtain⟨t1,t2,_⟩:=Ah I1 d;refine⟨t1,t2,?_⟩;rw[m.trees];refine Calls.callWith_builtin rfl (Calls.evalArgs_plain (Calls.spliced_cons (bA (he pins s1 σ H1 _ I1 q1) λiv s2 ⟨y,H2,I2,ry,q2⟩=>
  Calls.spliced_cons (bA (hf pins s2 σ H2 _ I2 q2) λfv s3 ⟨z,H3,I3,rz,ov,g,q3⟩=>Calls.spliced_nil ?_))))
 exact Qt hu I3 g ry rz λw' s4 I4 rw'=>⟨_,H3,I4,rw',q3⟩
end
end L2
namespace Att
open PySem PySem.W PySem.Calls PyProof.Rows
theorem ints_of_wellAll:∀(ns:List Int) (vs:List Value),WellAll P h vs (ns.map WData.int)->IntsAre vs ns:=by
 intro ns
 induction ns with
 |nil=>
  intro vs w;rw[List.map_nil]at w;cases w;exact .nil
 |cons n ns ih=>
  intro vs w;rw[lF]at w;cases w with
  |cons a b=>
   cases a;exact .cons _ _ (ih _ b)
theorem script_of{l:OpenLaw}{n:Nat}(hn:l.most=some n){P:Params}{h:Heap}{args:List WData}{vals:List Value}
  (hpre:l.row.toRowW.claim.pre args=true) (hwl:WellAll P h vals args):
  ∃a vs ns,vals=[Value.ref a]/\args=[WData.list (ns.map WData.int)]/\h.get? a=some { cls:=.type "list", data:=.seq vs.toArray }/\IntsAre vs ns/\ns.length<=n:=by
 have hsh:WShape.hasAll [] args [.list .int]=true:=(pre_splitW hpre).1;have hc:l.pre.holds [] { args:=args }=true:=(pre_splitW hpre).2;obtain⟨d,r,rfl,h1,h2⟩:=hasAllW_cons hsh;obtain rfl:=hasAllW_nil h2;obtain⟨xs,rfl,h3⟩:=hasW_list h1;obtain⟨ns,rfl⟩:=items_int h3;have hlen:ns.length<=n:=by
  unfold OpenLaw.pre at hc;have h4:(WTm.not (.lt (.lit (.int (n:Int))) (.len (.arg 0)))).holds [] { args:=[.list (ns.map .int)] }=true:=by
   have h4:=(holds_andW hc).1;rw[hn]at h4;exact h4
  have h5:=condW_of h4 (w_not (w_lt w_lit (w_len_list (w_arg rfl))));rw[aI]at h5;refine Nat.le_of_not_lt λq=>?_;have q':(n:Int)<((ns.length:Nat):Int):=by omega
  first
   | (rw[decide_eq_true q']at h5;exact absurd h5 (by decide))
   | (simp at h5;omega)
 cases hwl with
 |cons w1 w2=>
  cases w2;cases w1 with
  |list ho hall=>exact⟨_,_,ns,rfl,rfl,ho,ints_of_wellAll ns _ hall,hlen⟩
theorem post_true(l:OpenLaw)(args:List WData):l.row.toRowW.claim.post args (.bool true) args=true:=
 postW_of (r:=l.row.toRowW) (X:=(true == true))
  (show WShape.has [] (.bool true) .bool=true by first|rfl|decide|simp[WShape.has,WShape.arms,WShape.armsAll])
  (show(WTm.eq .res (.lit (.bool true))).value [] { args:=args,res:=some (.bool true),after:=args }=some (.bool (true == true)) from w_eq_bool (w_res rfl) w_lit) rfl
theorem attach_call{l:OpenLaw}{n:Nat}{q:Program}{loose:List Str}{XP:(Str->Option Value)->Heap->Prop}{YP:World->Heap->Prop}{d:DefRec}
  (hn:l.most=some n) (hdf:d.params.defaults=[])
  (call:∀(w:World) (s₀ s₁:Shared) (mg mb:So) (fa:Addr) (o:Obj) (pm cd doc:Value) (a:Addr) (vs:List Value) (ns:List Int),
   Ground q loose [] XP w s₀ mg mb s₁.heap->YP w s₁.heap->
   s₁.heap.get? fa=some o->o.data=.func (docDef d.name d.params d.body d.scope pm cd doc)->s₁.heap.CodeRec cd d.name->mg d.name=some (.ref fa)->
   s₁.heap.get? a=some { cls:=.type "list", data:=.seq vs.toArray }->IntsAre vs ns->ns.length<=n->s₁.gens=#[]->
   codeAny (model l.prog w) callerA (.call (.ref fa) ⟨[.ref a],[]⟩) (λr s'=>r=.ok (.ret (.bool true))/\OldK s₁.heap s'.heap/\s'.os=s₁.os/\AllBare s'.gens) s₁):
  WalkO q loose XP YP l.row.toRowW d [] (λf vs=>PySem.call f vs):=by
 intro w s₀ s₁ mg mb G Y fa o pm cd doc dV kV ho hd hcd hD hmg hg args vals as hpre hlay hrd hwl hlo;obtain rfl:dV=.none:=Dflts.none hD hdf;obtain rfl:kV=.none:=Dflts.noKw hD;obtain⟨a,vs,ns,rfl,rfl,hobj,hints,hlen⟩:=script_of hn hpre hwl;refine enter_call (codeAny_mono (call w s₀ s₁ mg mb fa o pm cd doc a vs ns G Y ho (fd_plain hd) hcd hmg hobj hints hlen hg) λr s' hq=>?_);obtain⟨rfl,h2,h3,h4⟩:=hq;exact⟨.inl ⟨.bool true,.bool true,[],rfl,λ_=>rfl,.bool true,post_true l _,λ_=>⟨List.Pairwise.nil,λ_ hm=>(nomatch hm)⟩⟩,h2,h3,h4⟩
section
variable{prog:Program}{w:World}{A:Around}{E:Vs}{s:Shared}{K:Frag}
def ledger(h:Heap)(L d:Addr):Lo:=(List.range h.objs.size).filterMap λa=>if a=L\/a=d then none else (h.get? a).map λo=>(a,o)
end
end Att
namespace L2
open PySem PySem.Spec PyProof.Rows
theorem mq:∀{vs:List Value}{ns:List Int},IntsAre vs ns->Vals (ns.map V.int) vs
 |_,_,.nil=>.nil
 |_,_,.cons n t h=>.cons ⟨t,rfl⟩ (mq h)
def inClass(s:Stmt)(j:Nat):Stmt:=match s with
 |.ClassDef _ _ _ body _ _ _ _ _ _ _=>body.getD j (.Pass ⟨0,0,0,0⟩)
 |_=>.Pass ⟨0,0,0,0⟩
def fz(s:Stmt):Arguments:=match s with
 |.FunctionDef _ a _ _ _ _ _ _ _ _=>a
 |_=>{ posonlyargs:=[],args:=[],vararg:=none,kwonlyargs:=[],kw_defaults:=[],kwarg:=none,defaults:=[] }
def dU(s:Stmt):List Stmt:=match s with
 |.FunctionDef _ _ b _ _ _ _ _ _ _=>b
 |_=>[]
def ag(s:Stmt):Scope:=match s with
 |.FunctionDef _ _ _ _ _ _ sc _ _ _=>sc
 |_=>{ kind:=.function,names:=[],isGenerator:=false,isCoroutine:=false }
abbrev cF:Eb:=λ_ _ _ _ _ _=>False
abbrev E0:XK:=λ_ _ _=>False
theorem dB:Passes cF X E0:=λ_ _ _ _ _ _ _ h=>h.elim
structure cW(K:Wf)(x qual:Str)(st:Stmt)(f:Addr)(fd:FuncData):Prop where
 ex:∃(oc:Value) (od:Option Addr) (kV doc pm:Value) (an:Option Addr) (cdv ct:Value) (osl:Array (Option Value)),
  fd=fnOf x qual (fz st) (dU st) (ag st) .none kV doc pm an cdv ct/\K.lookup f=some ⟨oc,od,.func fd,osl⟩/\codeIn K cdv qual=true
 kp:keepIn K (.ref f)=true
section
variable{P:Program}{w:World}{K:Wf}{mg:So}{base:Heap}
theorem cW.ok{x qual:Str}{st:Stmt}{f:Addr}{fd:FuncData}{N ps:List Str}{k:Nat}{sp:Sp}(F:cW K x qual st f fd)(S:au N ps (ag st))(len:∀vs H Q E,sp vs H Q E->vs.length=ps.length)
  (hbody:∀(cdv:Value) (A:Around) (outer:List Env) (s:Shared) (H:Hp) (vs:List V) (Q:VK) (E:XK),cz k (A.deeper (envOfC qual (ag st) s.heap.objs.size f cdv))->sp vs H Q E->
   ∃t,vM (j9 cF P w K mg base N qual (ag st) f cdv A outer s H E).Rr (dU st) t/\t { nx:=λ_ H'=>Q .bh H',rt:=Q } (start N vs) H):aY P w K mg base cF (k+1) f fd ps sp:=by
 obtain⟨oc,od,kV,doc,pm,an,cdv,ct,osl,rfl,lk,hcd⟩:=F.ex;refine NC lk hcd S len λA outer s H vs Q E hr hsp=>?_;obtain⟨t,h,q⟩:=hbody cdv A outer s H vs Q E hr hsp;exact⟨t,h.Rr,q⟩
theorem cW.binds{x qual:Str}{st:Stmt}{f:Addr}{fd:FuncData}{ps:List Str}(F:cW K x qual st f fd)
  (h:∀(kV doc pm:Value) (an:Option Addr) (cdv ct:Value) (us:List Value),us.length=ps.length->bindArgs (fnOf x qual (fz st) (dU st) (ag st) .none kV doc pm an cdv ct) ⟨us,[]⟩=pure (ps.zip us)):Binds K fd ps []:=by
 obtain⟨oc,od,kV,doc,pm,an,cdv,ct,osl,rfl,lk,hcd⟩:=F.ex;exact .all (h kV doc pm an cdv ct)
theorem wU{x qual:Str}{st:Stmt}{f:Addr}{oc:Value}{od an:Option Addr}{osl:Array (Option Value)}{kV doc pm cdv ct:Value}(l:K.lookup f=some ⟨oc,od,.func (fnOf x qual (fz st) (dU st) (ag st) .none kV doc pm an cdv ct),osl⟩)
  (c:codeIn K cdv qual=true) (k:keepIn K (.ref f)=true):cW K x qual st f (fnOf x qual (fz st) (dU st) (ag st) .none kV doc pm an cdv ct):=⟨⟨oc,od,kV,doc,pm,an,cdv,ct,osl,rfl,l,c⟩,k⟩
end
theorem bC(hr:cz k A):A.units+1<cLine:=Nat.lt_of_le_of_lt (Nat.add_le_add_left (by decide:1<=64) _) hr.units
section
variable{X:Cx}
def visB(sc:Scope)(x:Str):Bool:=match sc.names.lookup x with
 |some .local=>true
 |some .cell=>true
 |some .free=>true
 |_=>false
def varB(N:List Str)(sc:Scope)(i:Nat)(x:Str):Bool:=match N[i]? with
 |some y=>decide (y=x)&&(visB sc x&&(!(x == ("__debug__" : Str)) && !(x == ("__classdict__" : Str))))
 |none=>false
theorem pv(i:Nat){x:Str}{pos:Pos}(h:varB X.N X.env.scope i x=true:=by kernel_rfl):PE X (.Name x pos) (Hr i):=by
 unfold varB at h;split at h
 ·rename_i y hy;rw[lW,lW,lW]at h;obtain⟨h1,h2,h3,h4⟩:=h;refine QJ (hy.trans (congrArg some (of_decide_eq_true h1))) ?_ (by simpa using h3) (by simpa using h4);unfold visB at h2;split at h2
  ·rename_i e;exact .inl e
  ·rename_i e;exact .inr (.inl e)
  ·rename_i e;exact .inr (.inr e)
  ·cases h2
 ·cases h
end
theorem yr{A B:Prop}(h:B):if false=true then A else B:=by
 rw[if_neg lE];exact h
theorem Pz{A B:Prop}(h:A):if true=true then A else B:=by
 rw[if_pos rfl];exact h
theorem cX{c A B:Prop} [Decidable c](h1:c->A)(h2:¬c->B):if c then A else B:=by
 by_cases h:c
 ·rw[if_pos h];exact h1 h
 ·rw[if_neg h];exact h2 h
def az(H H':Hp):Prop:=∀b o,H b=some o->H' b=some o
theorem az.refl(H:Hp):az H H:=λ_ _ h=>h
theorem az.trans(a:az H H1)(b:az H1 H2):az H H2:=λc o h=>b c o (a c o h)
theorem az.free(e:az H H'){l:Addr}(h:H' l=Option.none):H l=Option.none:=by
 cases q:H l with
 |none=>rfl
 |some o=>
  rw[e l o q]at h;cases h
theorem az.seq{K:Wf}{H H':Hp}{a:Addr}{xs:List V}(e:az H H')(h:aA K H a xs):aA K H' a xs:=by
 rcases h with (h|⟨o,h⟩)|h
 ·exact .inl (.inl (e _ _ h))
 ·exact .inl (.inr ⟨o,e _ _ h⟩)
 ·exact .inr h
def jI(env:Env):List (Str×NameKind)->List (Str×Addr)->List (Str×Addr)
 |[],acc=>acc
 | (n,k)::r,acc=>jI env r (if (k == NameKind.free)=true then (n,(env.cells.lookup n).getD 0)::acc else acc)
theorem A1:∀(ns:List (Str×NameKind)) (acc:List (Str×Addr)),(∀x∈ns,x.2=.free->∃c,env.cells.lookup x.1=some c)->
  (∀x c,acc.lookup x=some c->env.cells.lookup x=some c)->∀x c,(jI env ns acc).lookup x=some c->env.cells.lookup x=some c
 |[],acc,_,ha=>ha
 | (n,k)::r,acc,hn,ha=>by
  refine A1 r _ (λx hx=>hn x (h8 _ hx)) ?_;intro x c e;by_cases hk:(k == NameKind.free)=true
  ·rw[if_pos hk]at e;have hk':k=.free:=by simpa using hk
   obtain⟨c',ec⟩:=hn (n,k) lO hk';rw[Rg]at e;cases hx:x == n with
   |true=>
    rw[hx]at e;have:x=n:=by simpa using hx
    subst this;have ec':List.lookup x env.cells=some c':=ec;rw[ec']at e;simp at e;rw[<-e];exact ec'
   |false=>rw[hx]at e;exact ha x c e
  ·rw[if_neg hk]at e;exact ha x c e
theorem md:∀(ns:List (Str×NameKind)) (acc:List (Str×Addr)) (x:Str),(∃c,acc.lookup x=some c)->∃c,(jI env ns acc).lookup x=some c
 |[],acc,x,h=>h
 | (n,k)::r,acc,x,h=>by
  refine md r _ x ?_;by_cases hk:(k == NameKind.free)=true
  ·rw[if_pos hk,Rg];cases hx:x == n with
   |true=>exact⟨_,rfl⟩
   |false=>exact h
  ·rw[if_neg hk];exact h
theorem kW:∀(ns:List (Str×NameKind)) (acc:List (Str×Addr)) (x:Str),(x,NameKind.free)∈ns->∃c,(jI env ns acc).lookup x=some c
 |[],acc,x,h=>absurd h (by simp)
 | (n,k)::r,acc,x,h=>by
  rcases hZ.mp h with e|e
  ·injection e with e1 e2;subst e1 e2;refine md r _ x ⟨(env.cells.lookup x).getD 0,?_⟩;rw[if_pos (by decide)];simp
  ·exact kW r _ x e
theorem gX{scope:Scope}(h:∀x∈scope.names,x.2=.free->∃c,env.cells.lookup x.1=some c):closureFor scope env=pure (jI env scope.names []):=by
 have key:∀(ns:List (Str×NameKind)) (acc:List (Str×Addr)),(∀x∈ns,x.2=.free->∃c,env.cells.lookup x.1=some c)->
   (do let r <-forIn (m:=Sem) ns acc (λx r=>if (x.2 == NameKind.free)=true then do let c <-cellOf env x.1;pure (ForInStep.yield ((x.1,c)::r)) else pure (ForInStep.yield r));pure r:Sem (List (Str×Addr)))=pure (jI env ns acc):=by
  intro ns
  induction ns with
  |nil=>intro acc _;rfl
  |cons y r ih=>
   intro acc hy;obtain⟨n,k⟩:=y;rw[List.forIn_cons];by_cases hk:(k == NameKind.free)=true
   ·have hk':k=.free:=by simpa using hk
    obtain⟨c,ec⟩:=hy (n,k) lO hk';have ec':List.lookup n env.cells=some c:=ec;have e1:cellOf env n=pure c:=by unfold cellOf;rw[ec']
    simp only[hk,if_true,e1];have:=ih ((n,c)::acc) λx hx=>hy x (h8 _ hx);show _=pure (jI env r (if (k == NameKind.free)=true then (n,(List.lookup n env.cells).getD 0)::acc else acc));rw[if_pos hk,ec'];exact this
   ·simp only[hk];have:=ih acc λx hx=>hy x (h8 _ hx);show _=pure (jI env r (if (k == NameKind.free)=true then (n,(List.lookup n env.cells).getD 0)::acc else acc));rw[if_neg hk];exact this
 simp only[closureFor];rw[key scope.names [] h];rfl
section
variable{prog:Program}{w:World}{A:Around}{R:Result->Shared->Prop}{s:Shared}
theorem sN{elt target iter:Expr}{scope:Scope}(I:Nat->Shared->Prop)
  (turn:∀n s,I n s->wpAny (model prog w) A (pyNext it) (λr s₁=>match r with
   |none=>R (.ok .next) s₁
   |some v=>wpAny (model prog w) A (letOwnedTupleGo target it v) (λ_ s₁'=>wpAny (model prog w) A (assign target env v) (λ_ s₂=>
     wpAny (model prog w) A (forIn ifs true λc r=>if r=true then do let ok <-isTrue c env (eval c env);pure (ForInStep.yield ok) else pure (ForInStep.yield r)) (λok s₃=>
      if ok=true then wpAny (model prog w) A (eval elt env) (λx s₄=>
       wpAny (model prog w) A (call (.builtin "list.append") [acc,x]) (λ_ s₅=>∃m,m<n/\I m s₅) (λ_ _=>False) s₄) (λ_ _=>False) s₃
      else ∃m,m<n/\I m s₃) (λ_ _=>False) s₂) (λ_ _=>False) s₁') (λ_ _=>False) s₁) (λ_ _=>False) s)
  (n:Nat) (h:I n s):
  codeAny (model prog w) A (.compLoop (.ListComp elt [⟨target,iter,ifs,0⟩] scope pos) 0 it acc env) R s:=by
 refine codeAny_loop rfl I (λn s hI=>?_) n h;show wpAny _ A ((compTurn (.ListComp elt [⟨target,iter,ifs,0⟩] scope pos) 0 it acc env).onRaise (λx=>do noteFrame x env;theTreesLotGoes x)) _ _ s;refine wpAny_noted ?_;rw[compTurn_list];refine aC (wpAny_standAt (aC (pG (turn n s hI) (λr s₁ h₁=>?_) λ_ _ h'=>h'.elim)));cases r with
 |none=>exact bB h₁
 |some v=>
  refine aC (pG h₁ (λ_ s₁' h₁'=>?_) λ_ _ h'=>h'.elim);refine aC (pG h₁' (λ_ s₂ h₂=>aC (pG h₂ (λok s₃ h₃=>?_) λ_ _ h'=>h'.elim)) λ_ _ h'=>h'.elim);cases ok with
  |false=>exact bB ⟨rfl,h₃⟩
  |true=>
   exact aC (aC (pG h₃ (λx s₄ h₄=>aC (pG h₄ (λ_ s₅ h₅=>bB (bB ⟨rfl,h₅⟩)) λ_ _ h'=>h'.elim)) λ_ _ h'=>h'.elim))
end
def C_(X:Cx)(N':List Str)(scope:Scope)(fp:List Addr)(s:Shared)(H:Hp):Cx:=
 { X with N:=N',s₀:=s,H₀:=H,env:=compEnvC scope (jI X.env scope.names []) s.heap.objs.size X.env,outer:=X.stack,stack:=X.stack,ex:=fp,fn:=λ_=>false,xe:=λ_ _=>False }
def UC(X:Cx)(ifs:List Expr)(t:TT):Prop:=
 ∀(pins:Lo) (s:Shared) (σ:St) (H:Hp) (Q:Bool->Hp->Prop),Inv X pins σ H s->t σ H Q->
  wpAny (model X.prog X.w) X.A (forIn ifs true λc r=>if r=true then do let ok <-isTrue c X.env (eval c X.env);pure (ForInStep.yield ok) else pure (ForInStep.yield r)) (TP X pins σ Q) X.xe s
def UI:TT:=λ_ H Q=>Q true H
theorem cj:UC X [] UI:=λ_ _ _ H _ I h=>wpAny_tests_nil ⟨H,I,h⟩
theorem BO(h:PT X c t):UC X [c] t:=λpins s σ H Q I q=>wpAny_tests_one (h pins s σ H Q I q)
set_option genInjectivity true in
inductive Ext:St->St->Prop
 |nil:Ext [] []
 |no {σ τ:St}{a:Option V}:Ext σ τ->Ext (none::σ) (a::τ)
 |yes {σ τ:St}{v:V}:Ext σ τ->Ext (some v::σ) (some v::τ)
theorem Ext.len:∀{σ τ:St},Ext σ τ->σ.length=τ.length
 |_,_,.nil=>rfl
 |_,_,.no h=>by simp[h.len]
 |_,_,.yes h=>by simp[h.len]
theorem Ext.get:∀{σ τ:St},Ext σ τ->∀(i:Nat) (v:V),σ[i]?=some (some v)->τ[i]?=some (some v)
 |_,_,.nil,i,v,e=>e
 |_,_,.no h,0,v,e=>by simp at e
 |_,_,.no h,i+1,v,e=>by simpa using h.get i v (by simpa using e)
 |_,_,.yes h,0,v,e=>by simpa using e
 |_,_,.yes h,i+1,v,e=>by simpa using h.get i v (by simpa using e)
def eg(k:Nat)(fm:List Nat)(σ:St):St:=List.replicate k none++fm.map λj=>(σ[j]?).join
def k9(k:Nat)(fm:List Nat)(wi:TI)(g:TG)(tt:TT)(te:TE):TE:=λσ H Q=>wi σ H λJ H1=>∀D,H1 D=none->∃W:Nat->Nat->List V->Hp->Prop,
 (∃m,W 0 m [] (upd H1 D (.lst [])))/\∀i m ys H2,W i m ys H2->H2 D=some (.lst ys)/\ys.length<sizeLine/\((J.stop i H2/\Q (.ref D) H2)\/(J.go i H2/\∃N:List V->Hp->Prop,(∀ys' H',N ys' H'->∃m',m'<m/\W (i+1) m' ys' H')/\∀x H3,J.DY i H2 x H3->
  g x (eg k fm σ) H3 λσ3 H4=>Ext (eg k fm σ) σ3/\tt σ3 H4 λb H5=>if b=true then te σ3 H5 λy H6=>H6 D=some (.lst ys)/\N (ys++[y]) (upd H6 D (.lst (ys++[y]))) else N ys H5))
theorem Un.tail(u:Un fs ex H H' h h1)(k:∀b o,b≠C->h1.get? b=some o->h2.get? b=some o)(hC:h.get? C=none):Un fs ex H H' h h2:=by
 have ne:∀b o,h.get? b=some o->b≠C:=λb o e z=>by rw[z,hC]at e;cases e
 exact⟨λb o e n hf hx=>k b o (ne b o e) (u.keep b o e n hf hx),λb o e n hf hx=>let ⟨sl,q⟩:=u.slot b o e n hf hx;⟨sl,k b _ (ne b o e) q⟩,u.free,
  λb o e hx=>let ⟨o',q⟩:=u.there b o e hx;⟨o',k b _ (ne b o e) q⟩,u.uE,u.lJ,u.lK⟩
theorem gL.tail(ok:gL P w H h1)(k:∀b o,b≠C->h1.get? b=some o->h2.get? b=some o)(hC:H C=none):gL P w H h2:=λa o e=>by
 have ne:∀b u,H b=some u->b≠C:=λb u q z=>by rw[z,hC]at q;cases q
 refine(ok a o e).jf (λb u hb q=>k b u ?_ q) (λ_ q=>q) λ_ _ q=>q;rcases hb with z|z
 ·rw[z];exact ne a o e
 ·exact ne b _ z
theorem cN{env:Env}:∀{names:List (Str×NameKind)}{x:Str}{k:NameKind},
  (names.map λ(n,k)=>if (k == NameKind.free&&env.scope.kind == .function&&env.kindOf n == some .cell) then (n,NameKind.cell) else (n,k)).lookup x=some k->∃k',names.lookup x=some k'/\(k=k'\/(k'=.free/\k=.cell))
 |[],_,_,h=>by simp at h
 | (n,k0)::r,x,k,h=>by
  have ih:=@cN env r x k;have h:List.lookup x ((if (k0 == NameKind.free&&env.scope.kind == .function&&env.kindOf n == some .cell)=true then (n,NameKind.cell) else (n,k0))::(r.map λ(n,k)=>if (k == NameKind.free&&env.scope.kind == .function&&env.kindOf n == some .cell) then (n,NameKind.cell) else (n,k)))=some k:=h;by_cases hc:(k0 == NameKind.free&&env.scope.kind == .function&&env.kindOf n == some .cell)=true
  ·rw[if_pos hc,Rg]at h;have k0f:k0=.free:=by
    simp only[Bool.and_eq_true]at hc;simpa using hc.1.1
   rw[Rg];cases hx:x == n with
   |true=>rw[hx]at h;injection h with h;exact⟨k0,rfl,.inr ⟨k0f,h.symm⟩⟩
   |false=>rw[hx]at h;exact ih h
  ·rw[if_neg hc,Rg]at h;rw[Rg];cases hx:x == n with
   |true=>rw[hx]at h;injection h with h;exact⟨k0,rfl,.inl h.symm⟩
   |false=>rw[hx]at h;exact ih h
structure gE(X:Cx)(N':List Str)(k:Nat)(fm:List Nat)(scope:Scope):Prop where
 kind:scope.kind=.function
 zZ:∀y∈scope.names,y.2≠.cell
 names:∀y∈scope.names,y.2=.local->scope.names.lookup y.1=some .local
 free:∀y∈scope.names,y.2=.free->X.env.kindOf y.1=some .cell\/X.env.kindOf y.1=some .free
 len:N'.length=k+fm.length
 slots:∀i x,k<=i->N'[i]?=some x->scope.names.lookup x=some .free/\∃j,fm[i - k]?=some j/\X.N[j]?=some x
section
variable{X:Cx}{pins:Lo}{σ:St}{H:Hp}{s:Shared}
theorem Inv.block{scope:Scope}(B:gE X N' k fm scope)(I:Inv X pins σ H s)(hf:∀b∈fp,eT X pins H b)(ho:∀b∈fp,∃o,s.heap.get? b=some o)
  (ns:h'.Ns s.heap.objs.size (λ_=>none)) (kp:∀b o,s.heap.get? b=some o->h'.get? b=some o):Inv (C_ X N' scope fp s H) [] (eg k fm σ) H { s with heap:=h',toks:=tk }:=by
 have hfree:∀x∈scope.names,x.2=.free->∃c,X.env.cells.lookup x.1=some c:=λx hx hk=>I.ok.has x.1 (B.free x hx hk);have hcl:∀x c,(jI X.env scope.names []).lookup x=some c->X.env.cells.lookup x=some c:=A1 scope.names [] hfree λx c e=>by simp at e
 have Ol:∀b∈yV X.stack,b∈X.env.locals::X.fs:=I.vo;have hC:H s.heap.objs.size=none:=I.aW.fresh (bw _);have ok:(C_ X N' scope fp s H).Ok:={
  mod:=I.ok.mod
  kind:=B.kind
  glob:=I.ok.glob
  blt:=I.ok.blt
  above:=bw _
  inj:=λx y c h1 h2=>I.ok.inj x y c (hcl x c h1) (hcl y c h2)
  has:=λx hx=>by
   have hx:(relabel scope X.env).names.lookup x=some .cell\/(relabel scope X.env).names.lookup x=some .free:=hx;have:scope.names.lookup x=some .free:=by
    rcases hx with e|e
    ·obtain⟨k',e1,e2⟩:=cN e;rcases e2 with e2|⟨e2,_⟩
     ·subst e2;exact absurd rfl (B.zZ _ (PySem.mem_of_lookup e1))
     ·rw[e1,e2]
    ·obtain⟨k',e1,e2⟩:=cN e;rcases e2 with e2|⟨e2,e3⟩
     ·rw[e1,e2]
     ·rw[e1,e2]
   exact kW scope.names [] x (PySem.mem_of_lookup this)
  Q0:=λx c e=>by cases e
  hd:=I.ok.hd
  frames:=I.ok.frames
  Ol:=.inl rfl
  TR:=λb hb=>⟨λz=>by
    obtain⟨o,e⟩:=ho b hb;have hlt:=cY e;rw[z]at hlt;exact xv _ hlt,λx c e=>(hf b hb).2.2.2.2.1 x c (hcl x c e)⟩
  bs:=I.bs
  EU:=jt I.ok.EU I.sz
  Di:=λb o e hb=>by
   rcases (hf b hb).2.2.2.1 with z|z
   ·exact I.ok.Di b o e z
   ·exact absurd (jF (cY e) (jt I.ok.EU z)) (xv _)
  zt:=λb hb z=>(hZ.mp (Ol b z)).elim (hf b hb).2.1 (hf b hb).2.2.1
  ir:=I.stack
  LZ:=I.Cy }
 refine⟨ok,rfl,I.bare,Un.kept kp,⟨_,ns,λi x v h1 h2 h3=>?_⟩,λx c e=>?_,hC,λx c e=>I.gz x c (hcl x c e),λp hp=>?_,I.aW.kept kp,?_⟩
 ·have hk:k<=i:=by
   refine Nat.le_of_not_lt λz=>?_;unfold eg at h2;rw[LD (by simpa using z),List.getElem?_replicate,if_pos z]at h2;cases h2
  obtain⟨e1,j,e2,e3⟩:=B.slots i x hk h1;have e4:σ[j]?=some (some v):=by
   unfold eg at h2;rw[LG (by simpa using hk),List.length_replicate,List.getElem?_map,e2]at h2;have h2:some (σ[j]?).join=some (some v):=h2;injection h2 with h2;cases e:σ[j]? with
   |none=>rw[e]at h2;cases h2
   |some o=>rw[e]at h2;rw[show o=some v from h2]
  have kf:=B.free (x,.free) (PySem.mem_of_lookup e1) rfl;obtain⟨m,hn,hl⟩:=I.loc;obtain⟨u,ru,lk⟩:=hl j x v e3 e4 (.inr kf);refine⟨u,ru,.inr ⟨?_,?_⟩⟩
  ·have h3:(relabel scope X.env).names.lookup x=some .local\/(relabel scope X.env).names.lookup x=some .cell\/(relabel scope X.env).names.lookup x=some .free:=h3;rcases h3 with z|z
   ·obtain⟨k',q1,q2⟩:=cN z;rw[e1]at q1;injection q1 with q1;subst q1;rcases q2 with q2|⟨_,q2⟩<;>cases q2
   ·exact z
  ·obtain⟨c,hc⟩:=kW (env:=X.env) scope.names [] x (PySem.mem_of_lookup e1);refine⟨c,hc,?_⟩;rcases lk with ⟨z,_⟩|⟨_,c',ec,ic⟩
   ·rcases kf with y|y<;>(rw[z]at y;cases y)
   ·rw[hcl x c hc]at ec;injection ec with ec;subst ec;exact ic.keeps kp
 ·obtain⟨v,q⟩:=I.cell x c (hcl x c e);exact⟨v,q.keeps kp⟩
 ·obtain⟨p1,p2,p3,p4,p5⟩:=I.pin p ((cy.mp hp).elim (λz=>lC _ z) λz=>absurd z (by simp));refine⟨kp _ _ p1,p2,λz=>?_,λz=>(hZ.mp (Ol _ z)).elim p3 p4,p5⟩;have hlt:=cY p1;rw[z]at hlt;exact xv _ hlt
 ·show(eg k fm σ).length=N'.length;unfold eg;rw[eY,List.length_replicate,aI,B.len]
theorem yu{X:Cx}{elt iter tg:Expr}{ifs:List Expr}{scope:Scope}{pos:Pos}{g:TG}{tt:TT}{te:TE}{J:It}{fp:List Addr}{it D:Addr}{tn:Nat->Heap->Prop}{σ0:St}{H3:Hp}{s4:Shared}{Q:VK}{R:Result->Shared->Prop}{W:Nat->Nat->List V->Hp->Prop}{m0:Nat}
  (hx:X.xe=λ_ _=>False) (hc:X.calm=true) (T:Turn X.prog X.w X.K tg J fp it tn) (stat:∀{H':Hp},(∀b∈fp,H' b=none)->∀b∈fp,eT X [] H' b) (hg:PG X tg g) (ht:UC X ifs tt) (he:PE X elt te)
  (turn:∀i m ys H2,W i m ys H2->H2 D=some (.lst ys)/\ys.length<sizeLine/\((J.stop i H2/\Q (.ref D) H2)\/(J.go i H2/\∃N:List V->Hp->Prop,(∀ys' H',N ys' H'->∃m',m'<m/\W (i+1) m' ys' H')/\∀x H3,J.DY i H2 x H3->
   g x σ0 H3 λσ3 H4=>Ext σ0 σ3/\tt σ3 H4 λb H5=>if b=true then te σ3 H5 λy H6=>H6 D=some (.lst ys)/\N (ys++[y]) (upd H6 D (.lst (ys++[y]))) else N ys H5)))
  (I4:Inv X [] σ0 H3 s4) (st4:tn 0 s4.heap) (fr4:∀b∈fp,H3 b=none) (w4:W 0 m0 [] H3)
  (hR:∀H' s',Inv X [] σ0 H' s'->Q (.ref D) H'->R (.ok .next) s'):
  codeAny (model X.prog X.w) X.A (.compLoop (.ListComp elt [⟨tg,iter,ifs,0⟩] scope pos) 0 (.ref it) (.ref D) X.env) R s4:=by
 refine sN (λn s'=>∃i ys H',Inv X [] σ0 H' s'/\tn i s'.heap/\(∀b∈fp,H' b=none)/\W i n ys H') ?_ m0 ⟨0,[],H3,I4,st4,fr4,w4⟩;rintro n s5 ⟨i,ys,H5,I5,st5,fr5,w5⟩;obtain⟨hD,hl,cs⟩:=turn i n ys H5 w5;rcases cs with ⟨stop,q⟩|⟨go,N,hN,step⟩
 ·refine bA (T.done X rfl rfl rfl hc i [] s5 σ0 H5 _ I5 (stat fr5) st5 stop) λr s6 ⟨hr,I6⟩=>?_;subst hr;exact hR H5 s6 I6 q
 ·refine bA (T.item X rfl rfl rfl hc i [] s5 σ0 H5 _ I5 (stat fr5) st5 go) λr s6 ⟨u,hr,h6⟩=>?_;subst hr;refine bA h6 λ_ s7 ⟨x,H7,I7,r7,y7,st7,fr7⟩=>?_;have I7':=I7.pinned (stat fr7) (T.obj _ _ st7);have again:∀{σ':St}{H':Hp}{s':Shared},Ext σ0 σ'->Inv X ([]++j6 fp s7.heap) σ' H' s'->Inv X [] σ0 H' s'/\tn (i+1) s'.heap/\∀b∈fp,H' b=none:=λ{σ' H' s'} ex I'=>by
   refine⟨I'.iJ.weak ex.len ex.get,T.keep _ _ _ st7 λb hb o e=>(I'.pin (b,o) (jW _ (jW _ (fJ hb e)))).1,λb hb=>?_⟩;obtain⟨o,e,d⟩:=T.obj _ _ st7 b hb;exact(I'.pin (b,o) (jW _ (jW _ (fJ hb e)))).2.1
  have w8:=hg _ s7 σ0 H7 x u _ I7' r7 (step x H7 y7);rw[hx]at w8;refine bA w8 λ_ s8 ⟨σ8,H8,I8,ex8,q8⟩=>?_;have w9:=ht _ s8 σ8 H8 _ I8 q8;rw[hx]at w9;refine bA w9 λok s9 ⟨H9,I9,q9⟩=>?_;cases ok with
  |false=>
   obtain⟨m',hm,w'⟩:=hN _ _ q9;obtain⟨a1,a2,a3⟩:=again ex8 I9;exact⟨m',hm,i+1,ys,H9,a1,a2,a3,w'⟩
  |true=>
   have w10:=he _ s9 σ8 H9 _ I9 q9;rw[hx]at w10;refine bA w10 λy s10 ⟨yv,H10,I10,r10,hD10,n10⟩=>?_;obtain⟨m',hm,w'⟩:=hN _ _ n10;have w11:=mV (X:=X) _ s10 σ8 H10 (.ref D) [yv] (.ref D) [y] (λv H'=>v=.bh/\H'=upd H10 D (.lst (ys++[yv]))) I10 rfl (.cons r10 .nil) ⟨D,ys,yv,rfl,rfl,hD10,hl,rfl,rfl⟩;rw[hx]at w11;refine bA w11 λ_ s11 ⟨_,H11,I11,_,_,e11⟩=>?_;subst e11;obtain⟨a1,a2,a3⟩:=again ex8 I11;exact⟨m',hm,i+1,_,_,a1,a2,a3,w'⟩
theorem fH{scope:Scope}(B:gE X N' k fm scope)(hc:X.calm=true)(hi:PI X tg iter wi)
  (hb:∀fp s H,PG (C_ X N' scope fp s H) tg g/\UC (C_ X N' scope fp s H) ifs tt/\PE (C_ X N' scope fp s H) elt te)
  (hs:∀x,foldedSetIterable iter X.env x=pure x:=by intro _;rfl):PE X (.ListComp elt [⟨tg,iter,ifs,0⟩] scope pos) (k9 k fm wi g tt te):=by
 intro pins s σ H Q I h;have hfree:∀x∈scope.names,x.2=.free->∃c,X.env.cells.lookup x.1=some c:=λx hx hk=>I.ok.has x.1 (B.free x hx hk);rw[eval_ListComp];refine wpAny_comprehension_free (use:=none) rfl hs (gX hfree) B.kind B.names (bA (hi pins s σ H _ I h) λv s1 h1=>bA h1 λitv s2 h2=>?_);obtain⟨it,fp,tn,J,H2,e,I2,T,st2,f2,h2⟩:=h2;subst e;obtain⟨W,⟨m0,w0⟩,turn⟩:=h2 s2.heap.objs.size I2.fresh;refine Ld (wpAny_newFunctionEnv B.zZ (by intro y hy;simp at hy) (λh4 hns4 hsb4=>?_) B.kind);have I3:=I2.P9 (its:=[]) (ys:=[]) (t':=s2.toks) .nil (gH _);have hf3:∀b∈fp,eT X pins (upd H2 s2.heap.objs.size (.lst [])) b:=λb hb=>by
  obtain⟨o,e,_⟩:=T.obj _ _ st2 b hb;refine⟨?_,(f2 b hb).2⟩;rw[ae (λz=>xv _ (z▸cY e))];exact(f2 b hb).1
 have ho3:∀b∈fp,∃o,(s2.heap.push { cls:=.type "list", data:=.seq ([]:List Value).toArray }).get? b=some o:=λb hb=>by
  obtain⟨o,e,_⟩:=T.obj _ _ st2 b hb;exact⟨o,d9 _ e⟩
 have kp4:∀b o,(s2.heap.push { cls:=.type "list", data:=.seq ([]:List Value).toArray }).get? b=some o->h4.get? b=some o:=λb o e=>
  hsb4.extBut b o (λz=>xv _ (z▸cY e)) (d9 _ e)
 have I4:=I3.block (fp:=fp) (h':=h4) (tk:=s2.toks+([]:List (Str×Value)).length) B hf3 ho3 hns4 kp4;generalize hs3:({ s2 with heap:=s2.heap.push { cls:=.type "list", data:=.seq ([]:List Value).toArray },toks:=s2.toks }:Shared)=s3 at *;obtain⟨hg,ht,he⟩:=hb fp s3 (upd H2 s2.heap.objs.size (.lst []));have st4:tn 0 h4:=T.keep _ _ _ st2 λb hb o e=>kp4 b o (d9 _ e);have stat:∀{H':Hp},(∀b∈fp,H' b=none)->∀b∈fp,eT (C_ X N' scope fp s3 (upd H2 s2.heap.objs.size (.lst []))) [] H' b:=λ{H'} hn b hb=>by
  obtain⟨f0,f1,f3,f4,f5,f6⟩:=hf3 b hb;obtain⟨g1,g2⟩:=I4.ok.TR b hb;exact⟨hn b hb,g1,I4.ok.zt b hb,.inl hb,g2,λp hp=>f6 p ((cy.mp hp).elim (λz=>lC _ z) λz=>absurd z (by simp))⟩
 have loop:codeAny (model X.prog X.w) X.A (.compLoop (.ListComp elt [⟨tg,iter,ifs,0⟩] scope pos) 0 (.ref it) (.ref s2.heap.objs.size) (compEnvC scope (jI X.env scope.names []) s3.heap.objs.size X.env))
   (compPost (model X.prog X.w) X.A X.xe none (EP X pins σ Q) (.ref s2.heap.objs.size) s3.heap.objs.size) { s3 with heap:=h4,toks:=s2.toks+([]:List (Str×Value)).length }:=by
  refine yu (X:=C_ X N' scope fp s3 (upd H2 s2.heap.objs.size (.lst []))) (D:=s2.heap.objs.size) (Q:=Q) (W:=W) (m0:=m0) rfl hc T stat hg ht he turn I4 st4 (λb hb=>(hf3 b hb).1) w0 ?_;intro H' s' I' q;obtain⟨m,hn,_⟩:=I'.loc;refine⟨m,hn,λh'' hs''=>?_⟩;have hC:s3.heap.get? s3.heap.objs.size=none:=by
   cases e:s3.heap.get? s3.heap.objs.size with
   |none=>rfl
   |some o=>exact absurd (cY e) (xv _)
  have u:Un (yV X.stack) fp (upd H2 s2.heap.objs.size (.lst [])) H' s3.heap h'':=Un.tail I'.base (λb o hb e=>hs''.extBut b o hb e) hC;refine⟨.ref s2.heap.objs.size,H',?_,rfl,q⟩;refine I3.Av (s':={ s' with heap:=h'' }) (ch:=fp) I'.os u (I'.aW.tail (λb o hb e=>hs''.extBut b o hb e) I'.free) I'.bare λb hb=>?_;obtain⟨f0,f1,f3,f4,f5,f6⟩:=hf3 b hb;exact⟨f4,f1,f5,f6⟩
 subst hs3;exact codeAny_compStart_list loop (T.self X.A 0 _ _ _ st4 loop)
end
def WJ(z:Str):It:=⟨λi _=>i<z.cps.size,λi H x H'=>H'=H/\∃c,z.cps[i]?=some c/\x=.str ⟨#[c]⟩,λi _=>z.cps.size<=i⟩
section
variable{X:Cx}{tg:Expr}
def Vc(tl:TE):TI:=λσ H R=>tl σ H λx H1=>∃z,x=.str z/\R (WJ z) H1
end
section
variable{X:Cx}
def ZZ:V->Option Int->Option Int->Hp->VK->Prop:=λx lo hi H Q=>∃z,x=.str z/\z.length<=sizeLine/\Q (.str (Txt.slice z lo hi)) H
def Zs(K:Wf):List V->Hp->VK->Prop:=λxs H Q=>∃(a:Addr) (bs:List Bool),xs=[.ref a]/\aA K H a (bs.map V.bl)/\Q (.bl (bs.all id)) H
def Vj(K:Wf):List V->Hp->VK->Prop:=λxs H Q=>∃x n t b,xs=[x,.ty n]/\h7 K H x t/\kitOne K t (.type n)=some b/\Q (.bl b) H
theorem ED:dA X (.builtin "isinstance") (Vj X.K):=by
 intro pins s σ H xs us Q I r h;obtain⟨x,n,t,b,rfl,ty,e,q⟩:=h;obtain⟨u,u2,rfl,ru,ru2⟩:=vals2 r;cases ru2;exact mF I ru ty e λtk=>⟨.bl b,H,I.tok tk,rfl,q⟩
def Nk(K:Wf):List V->Hp->VK->Prop:=λxs H Q=>∃x C t b,xs=[x,.ref C]/\h7 K H x t/\kitOne K t (.ref C)=some b/\Q (.bl b) H
theorem DA:dA X (.builtin "isinstance") (Nk X.K):=by
 intro pins s σ H xs us Q I r h;obtain⟨x,n,t,b,rfl,ty,e,q⟩:=h;obtain⟨u,u2,rfl,ru,ru2⟩:=vals2 r;cases ru2;exact mF I ru ty e λtk=>⟨.bl b,H,I.tok tk,rfl,q⟩
def Ni(K:Wf):R2:=λx y H Q=>∃l b xs zs,x=.ref l/\y=.ref b/\aA K H l xs/\aA K H b zs/\xs.length+zs.length<=sizeLine/\∀p,H p=none->Q (.ref p) (upd H p (.lst (xs++zs)))
theorem Mx:gF X (binaryOp .Add) (Ni X.K):=by
 intro pins s σ H x y v u Q I rx ry h;obtain⟨l,b,xs,zs,rfl,rfl,hH,hB,hz,q⟩:=h;cases rx;cases ry;obtain⟨vs,r,p,z⟩:=I.list hH;obtain⟨ws,r2,p2,z2⟩:=I.list hB;have l1:=r.length;have l2:=r2.length;obtain⟨⟨cls,dd,data,sl⟩,n,ho,hc,hdd,hd⟩:=p;obtain⟨⟨cls2,dd2,data2,sl2⟩,n2,ho2,hc2,hdd2,hd2⟩:=p2;simp only at hc hd hc2 hd2;subst hc hd hc2 hd2;have e:vs.toArray++ws.toArray=(vs++ws).toArray:=by simp
 refine concat_meets ⟨_,ho,rfl⟩ ⟨_,ho2,rfl⟩ noFill_list_add seq_list_add PySem.F.slot_list_add PySem.F.entry_list_add (PySem.F.args_list_add_2 _ _) (list_addW l b vs.toArray ws.toArray n n2 dd dd2 sl sl2 (by simp;omega)) ⟨ho,ho2,?_⟩;rw[e];exact⟨.ref _,_,I.P9 (t':=s.toks) (r.append r2) (by rw[eY];omega),rfl,q _ I.fresh⟩
end
set_option genInjectivity true in
inductive Slots (X:Cx) (scope:Scope):List Str->List Nat->Prop
 |nil:Slots X scope [] []
 |cons {x:Str}{j:Nat}{xs:List Str}{js:List Nat}(h1:scope.names.lookup x=some .free) (h2:X.env.kindOf x=some .cell\/X.env.kindOf x=some .free) (h3:X.N[j]?=some x) (r:Slots X scope xs js):Slots X scope (x::xs) (j::js)
theorem Slots.len{X:Cx}{scope:Scope}:∀{xs:List Str}{js:List Nat},Slots X scope xs js->xs.length=js.length
 |_,_,.nil=>rfl
 |_,_,.cons _ _ _ r=>by simp[r.len]
theorem Slots.kind{scope:Scope}:∀{xs:List Str}{js:List Nat},Slots X scope xs js->∀x∈xs,X.env.kindOf x=some .cell\/X.env.kindOf x=some .free
 |_,_,.nil,x,h=>absurd h (by simp)
 |_,_,.cons _ h2 _ r,x,h=>by
  rcases hZ.mp h with e|e
  ·subst e;exact h2
  ·exact r.kind x e
theorem Slots.get{X:Cx}{scope:Scope}:∀{xs:List Str}{js:List Nat},Slots X scope xs js->∀(i:Nat) (x:Str),xs[i]?=some x->scope.names.lookup x=some .free/\∃j,js[i]?=some j/\X.N[j]?=some x
 |_,_,.nil,i,x,h=>by simp at h
 |_,_,.cons h1 _ h3 r,0,x,h=>by
  simp only[List.getElem?_cons_zero,Option.some.injEq]at h;subst h;exact⟨h1,_,by simp,h3⟩
 |_,_,.cons _ _ _ r,i+1,x,h=>by simpa using r.get i x (by simpa using h)
theorem kY{scope:Scope}(kind:scope.kind=.function)(h1:∀y∈scope.names,y.2≠.cell)(h2:∀y∈scope.names,y.2=.local->scope.names.lookup y.1=some .local)
  (h3:∀y∈scope.names,y.2=.free->y.1∈fr) (S:Slots X scope fr fm):gE X (own++fr) own.length fm scope:=
 ⟨kind,h1,h2,λy hy hk=>S.kind y.1 (h3 y hy hk),by rw[eY,S.len],λi x hi h=>by
  rw[LG hi]at h;exact S.get _ x h⟩
theorem zD{lo:Int}{n:Nat}{g:TG}{tt:TT}{te:TE}{σ0:St}{H:Hp}{D:Addr}{Q:VK}(hz:n<sizeLine)(Pv:Nat->List V->Hp->Prop)(h0:Pv 0 [] (upd H D (.lst [])))
  (hl:∀i ys H,i<=n->Pv i ys H->H D=some (.lst ys)/\ys.length<=i)
  (hs:∀i ys H,i<n->Pv i ys H->g (.int (lo+i)) σ0 H λσ3 H4=>Ext σ0 σ3/\tt σ3 H4 λb H5=>if b=true then te σ3 H5 λy H6=>H6 D=some (.lst ys)/\Pv (i+1) (ys++[y]) (upd H6 D (.lst (ys++[y]))) else Pv (i+1) ys H5)
  (hd:∀ys H,Pv n ys H->Q (.ref D) H):
  ∃W:Nat->Nat->List V->Hp->Prop,(∃m,W 0 m [] (upd H D (.lst [])))/\∀i m ys H2,W i m ys H2->H2 D=some (.lst ys)/\ys.length<sizeLine/\(((D5 lo n).stop i H2/\Q (.ref D) H2)\/((D5 lo n).go i H2/\∃N:List V->Hp->Prop,(∀ys' H',N ys' H'->∃m',m'<m/\W (i+1) m' ys' H')/\∀x H3,(D5 lo n).DY i H2 x H3->
   g x σ0 H3 λσ3 H4=>Ext σ0 σ3/\tt σ3 H4 λb H5=>if b=true then te σ3 H5 λy H6=>H6 D=some (.lst ys)/\N (ys++[y]) (upd H6 D (.lst (ys++[y]))) else N ys H5)):=by
 refine⟨λi m ys H=>m=n - i/\i<=n/\Pv i ys H,⟨n,by simp,Nat.zero_le _,h0⟩,?_⟩;rintro i m ys H2 ⟨rfl,hi,p⟩;obtain⟨l1,l2⟩:=hl i ys H2 hi p;refine⟨l1,by omega,?_⟩;by_cases hlt:i<n
 ·refine .inr ⟨hlt,Pv (i+1),λys' H' p'=>⟨_,(by omega:n - (i+1)<n - i),rfl,hlt,p'⟩,λx H3 y=>?_⟩;obtain⟨e,ex⟩:=y;subst e ex;exact hs i ys _ hlt p
 ·have e:i=n:=by omega
  subst e;exact .inl ⟨bw _,hd ys H2 p⟩
theorem Dq{K:Wf}{a:Addr}{xs:List V}{g:TG}{tt:TT}{te:TE}{σ0:St}{H:Hp}{D:Addr}{Q:VK}(hz:xs.length<sizeLine)(Pv:Nat->List V->Hp->Prop)(h0:Pv 0 [] (upd H D (.lst [])))
  (hl:∀i ys H,i<=xs.length->Pv i ys H->aA K H a xs/\H D=some (.lst ys)/\ys.length<=i)
  (hs:∀i x ys H,xs[i]?=some x->Pv i ys H->g x σ0 H λσ3 H4=>Ext σ0 σ3/\tt σ3 H4 λb H5=>if b=true then te σ3 H5 λy H6=>H6 D=some (.lst ys)/\Pv (i+1) (ys++[y]) (upd H6 D (.lst (ys++[y]))) else Pv (i+1) ys H5)
  (hd:∀ys H,Pv xs.length ys H->Q (.ref D) H):
  ∃W:Nat->Nat->List V->Hp->Prop,(∃m,W 0 m [] (upd H D (.lst [])))/\∀i m ys H2,W i m ys H2->H2 D=some (.lst ys)/\ys.length<sizeLine/\(((JH K a).stop i H2/\Q (.ref D) H2)\/((JH K a).go i H2/\∃N:List V->Hp->Prop,(∀ys' H',N ys' H'->∃m',m'<m/\W (i+1) m' ys' H')/\∀x H3,(JH K a).DY i H2 x H3->
   g x σ0 H3 λσ3 H4=>Ext σ0 σ3/\tt σ3 H4 λb H5=>if b=true then te σ3 H5 λy H6=>H6 D=some (.lst ys)/\N (ys++[y]) (upd H6 D (.lst (ys++[y]))) else N ys H5)):=by
 refine⟨λi m ys H=>m=xs.length - i/\i<=xs.length/\Pv i ys H,⟨xs.length,by simp,Nat.zero_le _,h0⟩,?_⟩;rintro i m ys H2 ⟨rfl,hi,p⟩;obtain⟨l0,l1,l2⟩:=hl i ys H2 hi p;refine⟨l1,by omega,?_⟩;by_cases hlt:i<xs.length
 ·refine .inr ⟨⟨xs,xs[i],l0,by simp[hlt]⟩,Pv (i+1),λys' H' p'=>⟨_,(by omega:xs.length - (i+1)<xs.length - i),rfl,hlt,p'⟩,λx H3 y=>?_⟩;obtain⟨e,y⟩:=y;subst e;exact hs i x ys _ (y xs l0) p
 ·have e:i=xs.length:=by omega
  subst e;exact .inl ⟨⟨xs,l0,bw _⟩,hd ys H2 p⟩
def lL(g:TG)(tb:TS)(D:Ends)(σ:St)(J:It)(H1:Hp):Prop:=∃W:Nat->Nat->St->Hp->Prop,(∃m,W 0 m σ H1)/\∀i m σ H,W i m σ H->
 (J.stop i H/\D.nx σ H)\/(J.go i H/\∃N:St->Hp->Prop,(∀σ' H',N σ' H'->∃m',m'<m/\W (i+1) m' σ' H')/\∀x H',J.DY i H x H'->g x σ H' λσ2 H2=>tb { D with nx:=N,ct:=N,bk:=D.nx } σ2 H2)
def eM(K:Wf)(g:TG)(tb:TS)(D:Ends)(σ:St):VK:=λx H1=>∃a,x=.ref a/\(∃xs,aA K H1 a xs)/\lL g tb D σ (JH K a) H1
def MV(K:Wf)(g:TG)(tb:TS)(D:Ends)(σ:St):VK:=λx H1=>∃a,x=.ref a/\(∃xs,aS K H1 a xs)/\lL g tb D σ (Ql K a) H1
def Yj(g:TG)(tb:TS)(D:Ends)(σ:St):VK:=λx H1=>∃z,x=.str z/\lL g tb D σ (WJ z) H1
def xx(g:TG)(tb:TS)(D:Ends)(σ:St):List V->Hp->Prop:=λvs H1=>∃j:Int,vs=[.int j] /\ -(2 ^ 62)<=j/\j<2 ^ 62/\lL g tb D σ (D5 0 j.toNat) H1
def Uh(g:TG)(tb:TS)(D:Ends)(σ:St):List V->Hp->Prop:=λvs H1=>∃i j:Int,vs=[.int i,.int j]/\(-(2 ^ 62)<=i/\i<2 ^ 62 /\ -(2 ^ 62)<=j/\j<2 ^ 62)/\lL g tb D σ (D5 i (j - i).toNat) H1
section
variable{K:Wf}{te:TE}{ta:TA}{g:TG}{tb:TS}{D:Ends}{σ:St}{H:Hp}
theorem Rb:jD (xy K te) g tb D σ H=te σ H (eM K g tb D σ):=rfl
theorem RV:jD (MM K te) g tb D σ H=te σ H (MV K g tb D σ):=rfl
theorem TU:jD (Vc te) g tb D σ H=te σ H (Yj g tb D σ):=rfl
theorem Q5:jD (Fu ta) g tb D σ H=ta σ H (xx g tb D σ):=rfl
theorem Q8:jD (R8 ta) g tb D σ H=ta σ H (Uh g tb D σ):=rfl
theorem eM.of{a:Addr}{xs:List V}(Pv:Nat->St->Hp->Prop)(h0:Pv 0 σ H)(hl:∀i σ H,i<=xs.length->Pv i σ H->aA K H a xs)
  (hs:∀i x σ H,xs[i]?=some x->Pv i σ H->g x σ H λσ2 H2=>tb { D with nx:=Pv (i+1),ct:=Pv (i+1),bk:=D.nx } σ2 H2) (hd:∀σ H,Pv xs.length σ H->D.nx σ H):eM K g tb D σ (.ref a) H:=
 ⟨a,rfl,⟨xs,hl 0 _ _ (gH _) h0⟩,Js Pv h0 hl hs hd⟩
theorem MV.of{a:Addr}{xs:List V}(Pv:Nat->St->Hp->Prop)(h0:Pv 0 σ H)(hl:∀i σ H,i<=xs.length->Pv i σ H->aS K H a xs)
  (hs:∀i x σ H,xs[i]?=some x->Pv i σ H->g x σ H λσ2 H2=>tb { D with nx:=Pv (i+1),ct:=Pv (i+1),bk:=D.nx } σ2 H2) (hd:∀σ H,Pv xs.length σ H->D.nx σ H):MV K g tb D σ (.ref a) H:=
 ⟨a,rfl,⟨xs,hl 0 _ _ (gH _) h0⟩,L_ Pv h0 hl hs hd⟩
theorem xx.of{n:Int}(h1:n<2 ^ 62)(h2 : -(2 ^ 62)<=n)(Pv:Nat->St->Hp->Prop)(h0:Pv 0 σ H)
  (hs:∀i σ H,i<n.toNat->Pv i σ H->g (.int (i:Int)) σ H λσ2 H2=>tb { D with nx:=Pv (i+1),ct:=Pv (i+1),bk:=D.nx } σ2 H2) (hd:∀σ H,Pv n.toNat σ H->D.nx σ H):xx g tb D σ [.int n] H:=
 ⟨n,rfl,h2,h1,Df (n:=n.toNat) Pv h0 (λi σ H hi p=>by
  have e:(0:Int)+(i:Int)=i:=by omega
  rw[e];exact hs i σ H hi p) hd⟩
end
def x9(g:TG)(tt:TT)(te:TE)(σ0:St)(Q:VK)(J:It)(H1:Hp):Prop:=∀DD,H1 DD=none->∃W:Nat->Nat->List V->Hp->Prop,
 (∃m,W 0 m [] (upd H1 DD (.lst [])))/\∀i m ys H2,W i m ys H2->H2 DD=some (.lst ys)/\ys.length<sizeLine/\((J.stop i H2/\Q (.ref DD) H2)\/(J.go i H2/\∃N:List V->Hp->Prop,(∀ys' H',N ys' H'->∃m',m'<m/\W (i+1) m' ys' H')/\∀x H3,J.DY i H2 x H3->
  g x σ0 H3 λσ3 H4=>Ext σ0 σ3/\tt σ3 H4 λb H5=>if b=true then te σ3 H5 λy H6=>H6 DD=some (.lst ys)/\N (ys++[y]) (upd H6 DD (.lst (ys++[y]))) else N ys H5))
def dH(K:Wf)(g:TG)(tt:TT)(te:TE)(σ0:St)(Q:VK):VK:=λx H1=>∃a,x=.ref a/\(∃xs,aA K H1 a xs)/\x9 g tt te σ0 Q (JH K a) H1
def Su(K:Wf)(g:TG)(tt:TT)(te:TE)(σ0:St)(Q:VK):VK:=λx H1=>∃a,x=.ref a/\(∃xs,aS K H1 a xs)/\x9 g tt te σ0 Q (Ql K a) H1
def U8(g:TG)(tt:TT)(te:TE)(σ0:St)(Q:VK):VK:=λx H1=>∃z,x=.str z/\x9 g tt te σ0 Q (WJ z) H1
def yn(g:TG)(tt:TT)(te:TE)(σ0:St)(Q:VK):List V->Hp->Prop:=λvs H1=>∃j:Int,vs=[.int j] /\ -(2 ^ 62)<=j/\j<2 ^ 62/\x9 g tt te σ0 Q (D5 0 j.toNat) H1
section
variable{K:Wf}{k:Nat}{fm:List Nat}{tl te:TE}{ta:TA}{g:TG}{tt:TT}{σ σ0:St}{H H1:Hp}{Q:VK}
theorem Pe:k9 k fm (xy K tl) g tt te σ H Q=tl σ H (dH K g tt te (eg k fm σ) Q):=rfl
theorem Q2:k9 k fm (MM K tl) g tt te σ H Q=tl σ H (Su K g tt te (eg k fm σ) Q):=rfl
theorem Rh:k9 k fm (Vc tl) g tt te σ H Q=tl σ H (U8 g tt te (eg k fm σ) Q):=rfl
theorem Qd:k9 k fm (Fu ta) g tt te σ H Q=ta σ H (yn g tt te (eg k fm σ) Q):=rfl
theorem dH.of{a:Addr}{xs:List V}(hz:xs.length<sizeLine)(hx:aA K H1 a xs)(Pv:Addr->Nat->List V->Hp->Prop)(h0:∀D,H1 D=none->Pv D 0 [] (upd H1 D (.lst [])))
  (hl:∀D i ys H',H1 D=none->i<=xs.length->Pv D i ys H'->aA K H' a xs/\H' D=some (.lst ys)/\ys.length<=i)
  (hs:∀D i x ys H',H1 D=none->xs[i]?=some x->Pv D i ys H'->g x σ0 H' λσ3 H4=>Ext σ0 σ3/\tt σ3 H4 λb H5=>if b=true then te σ3 H5 λy H6=>H6 D=some (.lst ys)/\Pv D (i+1) (ys++[y]) (upd H6 D (.lst (ys++[y]))) else Pv D (i+1) ys H5)
  (hd:∀D ys H',H1 D=none->Pv D xs.length ys H'->Q (.ref D) H'):dH K g tt te σ0 Q (.ref a) H1:=
 ⟨a,rfl,⟨xs,hx⟩,λD hD=>Dq hz (Pv D) (h0 D hD) (λi ys H'=>hl D i ys H' hD) (λi x ys H'=>hs D i x ys H' hD) λys H'=>hd D ys H' hD⟩
theorem yn.of{n:Int}(h1:n<16777216)(h2 : -(2 ^ 62)<=n)(Pv:Addr->Nat->List V->Hp->Prop)(h0:∀D,H1 D=none->Pv D 0 [] (upd H1 D (.lst [])))
  (hl:∀D i ys H',H1 D=none->i<=n.toNat->Pv D i ys H'->H' D=some (.lst ys)/\ys.length<=i)
  (hs:∀D i ys H',H1 D=none->i<n.toNat->Pv D i ys H'->g (.int (i:Int)) σ0 H' λσ3 H4=>Ext σ0 σ3/\tt σ3 H4 λb H5=>if b=true then te σ3 H5 λy H6=>H6 D=some (.lst ys)/\Pv D (i+1) (ys++[y]) (upd H6 D (.lst (ys++[y]))) else Pv D (i+1) ys H5)
  (hd:∀D ys H',H1 D=none->Pv D n.toNat ys H'->Q (.ref D) H'):yn g tt te σ0 Q [.int n] H1:=
 ⟨n,rfl,h2,by omega,λD hD=>zD (lo:=0) (n:=n.toNat) (by rw[sizeLine_eq];omega) (Pv D) (h0 D hD) (λi ys H'=>hl D i ys H' hD) (λi ys H' hi p=>by
  have e:(0:Int)+(i:Int)=i:=by omega
  rw[e];exact hs D i ys H' hD hi p) λys H'=>hd D ys H' hD⟩
end
set_option genInjectivity true in
inductive D where
 |bh|bl (b:Bool)|int (i:Int)|str (z:Str)|lst (xs:List D)|tup (xs:List D)
mutual
def Rep(K:Wf)(H:Hp):D->V->Prop
 |.bh,v=>v=.bh
 |.bl b,v=>v=.bl b
 |.int i,v=>v=.int i
 |.str z,v=>v=.str z
 |.lst ds,v=>∃a xs,v=.ref a/\aA K H a xs/\RepL K H ds xs
 |.tup ds,v=>∃a xs,v=.ref a/\aS K H a xs/\RepL K H ds xs
def RepL(K:Wf)(H:Hp):List D->List V->Prop
 |[],xs=>xs=[]
 |d::ds,xs=>∃y ys,xs=y::ys/\Rep K H d y/\RepL K H ds ys
end
mutual
def deq:D->D->Bool
 |.bh,.bh=>true
 |.bl a,.bl b=>a == b
 |.bl a,.int b=>(if a then 1 else 0) == b
 |.int a,.bl b=>a == (if b then 1 else 0)
 |.int a,.int b=>a == b
 |.str a,.str b=>a == b
 |.lst a,.lst b=>deqL a b
 |.tup a,.tup b=>deqL a b
 |_,_=>false
def deqL:List D->List D->Bool
 |[],[]=>true
 |a::as,b::bs=>deq a b&&deqL as bs
 |_,_=>false
end
mutual
def dep:D->Nat
 |.lst ds=>depL ds+1
 |.tup ds=>depL ds+1
 |_=>0
def depL:List D->Nat
 |[]=>0
 |d::ds=>max (dep d) (depL ds)
end
mutual
theorem ku:∀d:D,deq d d=true
 |.bh=>rfl
 |.bl a=>by simp[deq]
 |.int a=>by simp[deq]
 |.str a=>by simp[deq]
 |.lst a=>by simp only[deq];exact d3 a
 |.tup a=>by simp only[deq];exact d3 a
theorem d3:∀ds:List D,deqL ds ds=true
 |[]=>rfl
 |d::ds=>by simp only[deqL,ku d,d3 ds,Bool.and_self]
end
theorem RepL.len{K:Wf}{H:Hp}:∀{ds:List D}{xs:List V},RepL K H ds xs->ds.length=xs.length
 |[],xs,h=>by simp only[RepL]at h;subst h;rfl
 |d::ds,xs,h=>by
  simp only[RepL]at h;obtain⟨y,ys,rfl,_,r⟩:=h;simp[r.len]
def eAt(ds es:List D)(j:Nat):Bool:=match ds[j]?,es[j]? with
 |some d,some e=>deq d e
 |_,_=>true
theorem iF:∀(ds es:List D),((List.range (min ds.length es.length)).all (eAt ds es)&&ds.length == es.length)=deqL ds es
 |[],[]=>by simp[deqL]
 |[],e::es=>by simp[deqL]
 |d::ds,[]=>by simp[deqL]
 |d::ds,e::es=>by
  have ih:=iF ds es;have h1:min (d::ds).length (e::es).length=min ds.length es.length+1:=by simp only[List.length_cons];omega
  rw[h1,List.range_succ_eq_map,List.all_cons,List.all_map];have h2:(eAt (d::ds) (e::es) ∘ Nat.succ)=eAt ds es:=by funext j;simp[eAt]
  have h3:eAt (d::ds) (e::es) 0=deq d e:=by simp[eAt]
  rw[h2,h3];simp only[deqL,<-ih,List.length_cons,Bool.and_assoc];congr 2;simp
section
variable{X:Cx}{pins:Lo}{σ:St}{H:Hp}{s:Shared}
mutual
theorem Mh(I:Inv X pins σ H s):∀(d e:D) (x:V),Rep X.K H d x->Rep X.K H e x->d=e
 |d,e,x,hd,he=>by
  cases d with
  |bh=>
   simp only[Rep]at hd;subst hd;cases e<;>simp only[Rep]at he<;>first|rfl|(obtain⟨a,xs,z,_⟩:=he;cases z;done)|(cases he;done)
  |bl b=>
   simp only[Rep]at hd;subst hd;cases e<;>simp only[Rep]at he<;>first|(obtain⟨a,xs,z,_⟩:=he;cases z;done)|(cases he;rfl)|(cases he;done)
  |int b=>
   simp only[Rep]at hd;subst hd;cases e<;>simp only[Rep]at he<;>first|(obtain⟨a,xs,z,_⟩:=he;cases z;done)|(cases he;rfl)|(cases he;done)
  |str b=>
   simp only[Rep]at hd;subst hd;cases e<;>simp only[Rep]at he<;>first|(obtain⟨a,xs,z,_⟩:=he;cases z;done)|(cases he;rfl)|(cases he;done)
  |lst ds=>
   simp only[Rep]at hd;obtain⟨a,xs,rfl,hx,r⟩:=hd;cases e with
   |lst es=>
    simp only[Rep]at he;obtain⟨a',xs',z,hx',r'⟩:=he;cases z;have:=I.fi hx hx';subst this;rw[f9 I ds es xs r r']
   |tup es=>
    simp only[Rep]at he;obtain⟨a',xs',z,hx',r'⟩:=he;cases z
    exfalso
    obtain⟨_,_,p,_⟩:=I.list hx;obtain⟨_,_,q,_⟩:=I.tuple hx';obtain⟨o,n,e1,e2,_⟩:=p;obtain⟨o',e1',e2',_⟩:=q;rw[e1]at e1';cases e1';rw[e2]at e2';exact absurd e2' (by decide)
   |_=>simp only[Rep]at he;cases he
  |tup ds=>
   simp only[Rep]at hd;obtain⟨a,xs,rfl,hx,r⟩:=hd;cases e with
   |tup es=>
    simp only[Rep]at he;obtain⟨a',xs',z,hx',r'⟩:=he;cases z;have:=I.iZ hx hx';subst this;rw[f9 I ds es xs r r']
   |lst es=>
    simp only[Rep]at he;obtain⟨a',xs',z,hx',r'⟩:=he;cases z
    exfalso
    obtain⟨_,_,p,_⟩:=I.list hx';obtain⟨_,_,q,_⟩:=I.tuple hx;obtain⟨o,n,e1,e2,_⟩:=p;obtain⟨o',e1',e2',_⟩:=q;rw[e1]at e1';cases e1';rw[e2]at e2';exact absurd e2' (by decide)
   |_=>simp only[Rep]at he;cases he
theorem f9(I:Inv X pins σ H s):∀(ds es:List D) (xs:List V),RepL X.K H ds xs->RepL X.K H es xs->ds=es
 |[],es,xs,hd,he=>by
  simp only[RepL]at hd;subst hd;cases es with
  |nil=>rfl
  |cons e es=>simp only[RepL]at he;obtain⟨y,ys,z,_⟩:=he;cases z
 |d::ds,es,xs,hd,he=>by
  simp only[RepL]at hd;obtain⟨y,ys,rfl,r,rs⟩:=hd;cases es with
  |nil=>simp only[RepL]at he;cases he
  |cons e es=>
   simp only[RepL]at he;obtain⟨y',ys',z,r',rs'⟩:=he;cases z;rw[Mh I d e y r r',f9 I ds es ys rs rs']
end
theorem gT(p:IsTup h a its):h.IsTuple a its:=by
 obtain⟨o,e,c,n,d⟩:=p;exact⟨o,e,c,n,d⟩
mutual
theorem Bg(I:Inv X pins σ H s):∀(d e:D) (x y:V) (u v:Value) (A:Around),A.units+dep d<cLine->Rep X.K H d x->Rep X.K H e y->RelV x u->RelV y v->SeqAt.EqAt A s u v (deq d e)
 |.bh,e,x,y,u,v,A,hu,hd,he,rx,ry=>by
  have hu:A.units<cLine:=by omega
  simp only[Rep]at hd;subst hd;cases rx;cases e<;>simp only[Rep]at he
  ·subst he;cases ry;exact SeqAt.EqAt.same _
  ·subst he;cases ry;exact SeqAt.EqAt.none_bool _
  ·subst he;obtain⟨t,rfl⟩:=ry;exact SeqAt.EqAt.none_int _ _
  ·subst he;obtain⟨t,rfl⟩:=ry;exact SeqAt.EqAt.none_str _ _
  ·obtain⟨a,xs,rfl,hx,_⟩:=he;cases ry;obtain⟨_,_,p,_⟩:=I.list hx;exact SeqAt.EqAt.none_list p.isList hu
  ·obtain⟨a,xs,rfl,hx,_⟩:=he;cases ry;obtain⟨_,_,p,_⟩:=I.tuple hx;exact SeqAt.EqAt.none_tuple (gT p) hu
 |.bl b,e,x,y,u,v,A,hu,hd,he,rx,ry=>by
  have hu:A.units<cLine:=by omega
  simp only[Rep]at hd;subst hd;cases rx;cases e<;>simp only[Rep]at he
  ·subst he;cases ry;exact SeqAt.EqAt.bool_none _
  ·subst he;cases ry;exact SeqAt.EqAt.bool_bool _ _
  ·subst he;obtain⟨t,rfl⟩:=ry;exact SeqAt.EqAt.bool_int _ _ _
  ·subst he;obtain⟨t,rfl⟩:=ry;exact SeqAt.EqAt.bool_str _ _ _
  ·obtain⟨a,xs,rfl,hx,_⟩:=he;cases ry;obtain⟨_,_,p,_⟩:=I.list hx;exact SeqAt.EqAt.bool_list _ p.isList hu
  ·obtain⟨a,xs,rfl,hx,_⟩:=he;cases ry;obtain⟨_,_,p,_⟩:=I.tuple hx;exact SeqAt.EqAt.bool_tuple _ (gT p) hu
 |.int b,e,x,y,u,v,A,hu,hd,he,rx,ry=>by
  have hu:A.units<cLine:=by omega
  simp only[Rep]at hd;subst hd;obtain⟨t0,rfl⟩:=rx;cases e<;>simp only[Rep]at he
  ·subst he;cases ry;exact SeqAt.EqAt.int_none _ _
  ·subst he;cases ry;exact SeqAt.EqAt.int_bool _ _ _
  ·subst he;obtain⟨t,rfl⟩:=ry;exact SeqAt.EqAt.int_int _ _ _ _
  ·subst he;obtain⟨t,rfl⟩:=ry;exact SeqAt.EqAt.int_str _ _ _ _
  ·obtain⟨a,xs,rfl,hx,_⟩:=he;cases ry;obtain⟨_,_,p,_⟩:=I.list hx;exact SeqAt.EqAt.int_list _ _ p.isList hu
  ·obtain⟨a,xs,rfl,hx,_⟩:=he;cases ry;obtain⟨_,_,p,_⟩:=I.tuple hx;exact SeqAt.EqAt.int_tuple _ _ (gT p) hu
 |.str b,e,x,y,u,v,A,hu,hd,he,rx,ry=>by
  have hu:A.units<cLine:=by omega
  simp only[Rep]at hd;subst hd;obtain⟨t0,rfl⟩:=rx;cases e<;>simp only[Rep]at he
  ·subst he;cases ry;exact SeqAt.EqAt.str_none _ _
  ·subst he;cases ry;exact SeqAt.EqAt.str_bool _ _ _
  ·subst he;obtain⟨t,rfl⟩:=ry;exact SeqAt.EqAt.str_int _ _ _ _
  ·subst he;obtain⟨t,rfl⟩:=ry;exact SeqAt.EqAt.str_str _ _ _ _
  ·obtain⟨a,xs,rfl,hx,_⟩:=he;cases ry;obtain⟨_,_,p,_⟩:=I.list hx;exact SeqAt.EqAt.str_list _ _ p.isList hu
  ·obtain⟨a,xs,rfl,hx,_⟩:=he;cases ry;obtain⟨_,_,p,_⟩:=I.tuple hx;exact SeqAt.EqAt.str_tuple _ _ (gT p) hu
 |.lst ds,e,x,y,u,v,A,hu,hd,he,rx,ry=>by
  have hu0:A.units<cLine:=by omega
  simp only[dep]at hu;simp only[Rep]at hd;obtain⟨a,xs,rfl,hx,r⟩:=hd;cases rx;obtain⟨its,rv,p,hz⟩:=I.list hx;cases e<;>simp only[Rep]at he
  ·subst he;cases ry;exact SeqAt.EqAt.list_none p.isList hu0
  ·subst he;cases ry;exact SeqAt.EqAt.list_bool _ p.isList hu0
  ·subst he;obtain⟨t,rfl⟩:=ry;exact SeqAt.EqAt.list_int _ _ p.isList hu0
  ·subst he;obtain⟨t,rfl⟩:=ry;exact SeqAt.EqAt.list_str _ _ p.isList hu0
  ·rename_i es;obtain⟨b,ys,rfl,hy,r'⟩:=he;cases ry;obtain⟨its',rv',p',hz'⟩:=I.list hy;by_cases hab:a=b
   ·subst hab;have:=I.fi hx hy;subst this;rw[f9 I ds es xs r r',ku];exact SeqAt.EqAt.same _
   ·have l1:=r.len;have l2:=rv.length;have l3:=r'.len;have l4:=rv'.length;have key:=iF ds es;simp only[deq];rw[<-key];by_cases hl:its.length=its'.length
    ·have:=SeqAt.EqAt.of_refs hab (SeqAt.RcAt.lists (e:=eAt ds es) p.isList p'.isList (by simpa using hl) hu0 (λj h1 h2=>by
      have q:=eG I ds es xs ys its its' A.in1 (by show A.units+1+depL ds<cLine;omega) r r' rv rv' j (by simpa using h1) (by simpa using h2);simpa using q))
     have e1:its.toArray.size=min ds.length es.length:=by rw[hU];omega
     rw[e1]at this;have e2:(ds.length == es.length)=true:=by simp;omega
     rw[e2,Bool.and_true];exact this
    ·have e2:(ds.length == es.length)=false:=by simp;omega
     rw[e2,Bool.and_false];exact SeqAt.EqAt.of_refs hab (SeqAt.RcAt.lists_lengths p.isList p'.isList (by simpa using hl) hu0)
  ·obtain⟨b,ys,rfl,hy,r'⟩:=he;cases ry;obtain⟨_,_,q,_⟩:=I.tuple hy;exact SeqAt.EqAt.list_tuple p.isList (gT q) hu0
 |.tup ds,e,x,y,u,v,A,hu,hd,he,rx,ry=>by
  have hu0:A.units<cLine:=by omega
  simp only[dep]at hu;simp only[Rep]at hd;obtain⟨a,xs,rfl,hx,r⟩:=hd;cases rx;obtain⟨its,rv,p,hz⟩:=I.tuple hx;cases e<;>simp only[Rep]at he
  ·subst he;cases ry;exact SeqAt.EqAt.tuple_none (gT p) hu0
  ·subst he;cases ry;exact SeqAt.EqAt.tuple_bool _ (gT p) hu0
  ·subst he;obtain⟨t,rfl⟩:=ry;exact SeqAt.EqAt.tuple_int _ _ (gT p) hu0
  ·subst he;obtain⟨t,rfl⟩:=ry;exact SeqAt.EqAt.tuple_str _ _ (gT p) hu0
  ·obtain⟨b,ys,rfl,hy,r'⟩:=he;cases ry;obtain⟨_,_,q,_⟩:=I.list hy;exact SeqAt.EqAt.tuple_list (gT p) q.isList hu0
  ·rename_i es;obtain⟨b,ys,rfl,hy,r'⟩:=he;cases ry;obtain⟨its',rv',p',hz'⟩:=I.tuple hy;by_cases hab:a=b
   ·subst hab;have:=I.iZ hx hy;subst this;rw[f9 I ds es xs r r',ku];exact SeqAt.EqAt.same _
   ·have l1:=r.len;have l2:=rv.length;have l3:=r'.len;have l4:=rv'.length;have key:=iF ds es;simp only[deq];rw[<-key];have:=SeqAt.EqAt.of_refs hab (SeqAt.RcAt.tuples (e:=eAt ds es) (gT p) (gT p') hu0 (λj h1 h2=>by
      have q:=eG I ds es xs ys its its' A.in1 (by show A.units+1+depL ds<cLine;omega) r r' rv rv' j (by simpa using h1) (by simpa using h2);simpa using q))
    have e1:its.toArray.size=ds.length:=by rw[hU];omega
    have e2:its'.toArray.size=es.length:=by rw[hU];omega
    rw[e1,e2]at this;exact this
theorem eG(I:Inv X pins σ H s):∀(ds es:List D) (xs ys:List V) (us vs:List Value) (A:Around),A.units+depL ds<cLine->RepL X.K H ds xs->RepL X.K H es ys->Vals xs us->Vals ys vs->
  ∀(j:Nat) (h1:j<us.length) (h2:j<vs.length),SeqAt.EqAt A s us[j] vs[j] (eAt ds es j)
 |[],es,xs,ys,us,vs,A,hu,hd,he,rx,ry,j,h1,h2=>by
  simp only[RepL]at hd;subst hd;cases rx;exact absurd h1 (by simp)
 |d::ds,es,xs,ys,us,vs,A,hu,hd,he,rx,ry,j,h1,h2=>by
  simp only[depL]at hu;simp only[RepL]at hd;obtain⟨x,xs',rfl,rd,rds⟩:=hd;cases rx with
  |cons r0 rr=>
   cases es with
   |nil=>
    simp only[RepL]at he;subst he;cases ry;exact absurd h2 (by simp)
   |cons e es=>
    simp only[RepL]at he;obtain⟨y,ys',rfl,re,res⟩:=he;cases ry with
    |cons q0 qr=>
     cases j with
     |zero=>
      have:eAt (d::ds) (e::es) 0=deq d e:=by simp[eAt]
      rw[this];exact Bg I d e x y _ _ A (by omega) rd re r0 q0
     |succ j=>
      have:eAt (d::ds) (e::es) (j+1)=eAt ds es j:=by simp[eAt]
      rw[this];exact eG I ds es xs' ys' _ _ A (by omega) rds res rr qr j (by simpa using h1) (by simpa using h2)
end
def QY(K:Wf):R2:=λx y H Q=>∃ds es,((Rep K H (.lst ds) x/\Rep K H (.lst es) y)\/(Rep K H (.tup ds) x/\Rep K H (.tup es) y))/\depL ds<=20/\Q (.bl (deqL ds es)) H
theorem QR(hu:X.A.units+64<cLine):gF X (compareOp .Eq) (QY X.K):=by
 intro pins s σ H x y v u Q I rx ry h;obtain⟨ds,es,h,hdep,q⟩:=h;have hu0:X.A.units<cLine:=by omega
 have hin:X.A.in1.units+depL ds<cLine:=by show X.A.units+1+depL ds<cLine;omega
 have key:=iF ds es;rcases h with ⟨h1,h2⟩|⟨h1,h2⟩
 ·simp only[Rep]at h1 h2;obtain⟨a,xs,rfl,hx,r⟩:=h1;obtain⟨b,ys,rfl,hy,r'⟩:=h2;cases rx;cases ry;obtain⟨its,rv,p,hz⟩:=I.list hx;obtain⟨its',rv',p',hz'⟩:=I.list hy;have l1:=r.len;have l2:=rv.length;have l3:=r'.len;have l4:=rv'.length;by_cases hl:its.length=its'.length
  ·refine SeqAt.eq_listAt (e:=eAt ds es) p.isList p'.isList (by simpa using hl) hu0 (λj h1 h2=>?_) ?_
   ·have q:=eG I ds es xs ys its its' X.A.in1 hin r r' rv rv' j (by simpa using h1) (by simpa using h2);simpa using q
   ·have e1:its.toArray.size=min ds.length es.length:=by rw[hU];omega
    have e2:(ds.length == es.length)=true:=by simp;omega
    rw[e2,Bool.and_true]at key;rw[e1,key];exact⟨.bl (deqL ds es),H,I,rfl,q⟩
  ·have e2:(ds.length == es.length)=false:=by simp;omega
   rw[e2,Bool.and_false]at key;rw[<-key]at q;exact SeqAt.eq_list_lengthsAt p.isList p'.isList (by simpa using hl) hu0 ⟨.bl false,H,I,rfl,q⟩
 ·simp only[Rep]at h1 h2;obtain⟨a,xs,rfl,hx,r⟩:=h1;obtain⟨b,ys,rfl,hy,r'⟩:=h2;cases rx;cases ry;obtain⟨its,rv,p,hz⟩:=I.tuple hx;obtain⟨its',rv',p',hz'⟩:=I.tuple hy;have l1:=r.len;have l2:=rv.length;have l3:=r'.len;have l4:=rv'.length;refine SeqAt.eq_tupleAt (e:=eAt ds es) (gT p) (gT p') hu0 (λj h1 h2=>?_) ?_
  ·have q:=eG I ds es xs ys its its' X.A.in1 hin r r' rv rv' j (by simpa using h1) (by simpa using h2);simpa using q
  ·have e1:its.toArray.size=ds.length:=by rw[hU];omega
   have e2:its'.toArray.size=es.length:=by rw[hU];omega
   rw[e1,e2,key];exact⟨.bl (deqL ds es),H,I,rfl,q⟩
def Vz(K:Wf):R2:=λx y H Q=>∃ds es,((Rep K H (.lst ds) x/\Rep K H (.lst es) y)\/(Rep K H (.tup ds) x/\Rep K H (.tup es) y))/\depL ds<=20/\Q (.bl (!deqL ds es)) H
theorem PZ(hu:X.A.units+64<cLine):gF X (compareOp .NotEq) (Vz X.K):=by
 intro pins s σ H x y v u Q I rx ry h;obtain⟨ds,es,h,hdep,q⟩:=h;have hu0:X.A.units<cLine:=by omega
 have hin:X.A.in1.units+depL ds<cLine:=by show X.A.units+1+depL ds<cLine;omega
 have key:=iF ds es;rcases h with ⟨h1,h2⟩|⟨h1,h2⟩
 ·simp only[Rep]at h1 h2;obtain⟨a,xs,rfl,hx,r⟩:=h1;obtain⟨b,ys,rfl,hy,r'⟩:=h2;cases rx;cases ry;obtain⟨its,rv,p,hz⟩:=I.list hx;obtain⟨its',rv',p',hz'⟩:=I.list hy;have l1:=r.len;have l2:=rv.length;have l3:=r'.len;have l4:=rv'.length;by_cases hl:its.length=its'.length
  ·refine SeqAt.RcNeAt.lists (e:=eAt ds es) p.isList p'.isList (by simpa using hl) hu0 (λj h1 h2=>?_) X.prog X.w X.xe _ ?_
   ·have q:=eG I ds es xs ys its its' X.A.in1 hin r r' rv rv' j (by simpa using h1) (by simpa using h2);simpa using q
   ·have e1:its.toArray.size=min ds.length es.length:=by rw[hU];omega
    have e2:(ds.length == es.length)=true:=by simp;omega
    rw[e2,Bool.and_true]at key;rw[e1,key];exact⟨.bl (!deqL ds es),H,I,rfl,q⟩
  ·have e2:(ds.length == es.length)=false:=by simp;omega
   rw[e2,Bool.and_false]at key;rw[<-key]at q;exact SeqAt.RcNeAt.lists_lengths p.isList p'.isList (by simpa using hl) hu0 X.prog X.w X.xe _ ⟨.bl true,H,I,rfl,q⟩
 ·simp only[Rep]at h1 h2;obtain⟨a,xs,rfl,hx,r⟩:=h1;obtain⟨b,ys,rfl,hy,r'⟩:=h2;cases rx;cases ry;obtain⟨its,rv,p,hz⟩:=I.tuple hx;obtain⟨its',rv',p',hz'⟩:=I.tuple hy;have l1:=r.len;have l2:=rv.length;have l3:=r'.len;have l4:=rv'.length;refine SeqAt.RcNeAt.tuples (e:=eAt ds es) (gT p) (gT p') hu0 (λj h1 h2=>?_) X.prog X.w X.xe _ ?_
  ·have q:=eG I ds es xs ys its its' X.A.in1 hin r r' rv rv' j (by simpa using h1) (by simpa using h2);simpa using q
  ·have e1:its.toArray.size=ds.length:=by rw[hU];omega
   have e2:its'.toArray.size=es.length:=by rw[hU];omega
   rw[e1,e2,key];exact⟨.bl (!deqL ds es),H,I,rfl,q⟩
theorem RepL.ints{K:Wf}{H:Hp}:∀ns:List Int,RepL K H (ns.map D.int) (ns.map V.int)
 |[]=>by simp only[List.map_nil,RepL]
 |n::ns=>by simp only[List.map_cons,RepL];exact⟨_,_,rfl,by simp only[Rep],RepL.ints ns⟩
end
section
variable{X:Cx}{K:Wf}
theorem fj(e:X.K=K):Q6 X (Si K):=e▸Mv
theorem Ml(e:X.K=K):Q6 X (Jg K):=e▸PN
theorem yF(e:X.K=K):Ve X (Vx K):=e▸L9
theorem LL(e:X.K=K):Ve X (Rz K):=e▸OG
theorem IS(e:X.K=K):gF X (binaryOp .Add) (Ni K):=e▸Mx
theorem x8(e:X.K=K):gF X (binaryOp .Add) (NT K):=e▸M7
theorem Mn(e:X.K=K):gF X (compareOp .In) (YD K false):=e▸Dr
theorem qD(hu:X.A.units+64<cLine)(e:X.K=K):gF X (compareOp .Eq) (QY K):=e▸QR hu
theorem CF(hu:X.A.units+64<cLine)(e:X.K=K):gF X (compareOp .NotEq) (Vz K):=e▸PZ hu
theorem gj(e:X.K=K):dA X (.builtin "len") (λxs H Q=>∃x n,xs=[x]/\RX K x H n/\Q (.int n) H):=e▸Fy
theorem bR(e:X.K=K):dA X (.builtin "isinstance") (Vj K):=e▸ED
theorem zM(e:X.K=K):dA X (.builtin "isinstance") (Nk K):=e▸DA
theorem zY(e:X.K=K):dA X (.type "list") (λxs H Q=>∃p ys,xs=[.ref p]/\(aA K H p ys\/aS K H p ys)/\∀l,H l=none->Q (.ref l) (upd H l (.lst ys))):=e▸qq
theorem cJ(e:X.K=K)(hl:PE X l tl):PI X tg l (xy K tl):=e▸LU hl
theorem LN(e:X.K=K)(hl:PE X l tl):PI X tg l (MM K tl):=e▸Qw hl
theorem bV{es:List Expr}{k:Nat}{t:PY}{n:Nat}{pos:Pos}(e:X.K=K)(hc:X.calm=true)(h:Sk X es t)
  (hn:(assignEach es X.env).length=n:=by rfl) (hst:(assignEach es X.env).findIdx? (·.1)=none:=by rfl):PG X (.Tuple es k pos) (Ti K n t):=e▸QQ hc h hn hst
end
section
variable{X:Cx}
def VH:V->List V->Hp->VK->Prop:=λx vs H Q=>∃z y,x=.str z/\vs=[.str y]/\Q (.bl (Txt.startswith z y)) H
def VY:V->List V->Hp->VK->Prop:=λx vs H Q=>∃z y i,x=.str z/\vs=[.str y]/\(∃rest,Builtin.Str.occurrences z y 0 z.length 1=i::rest)/\Q (.int (i:Nat)) H
end
def SV(h:Heap)(e:Addr)(cls:Value)(dx:Option Addr)(fl:Value)(T:Addr):Prop:=
 ∃oe vs oT ts,h.get? e=some oe/\oe.cls=cls/\oe.dict=dx/\oe.data=.fields vs/\vs[1]?=some (.ref T)/\T≠e/\h.get? T=some oT/\oT.data=.fields ts/\ts[3]?=some fl
def Zv(P:Program)(w:World):Eb:=λouter H s E e s'=>∃(a T:Addr) (cls:Value) (dx:Option Addr) (H':Hp),e=.ref a/\s'.os=s.os/\AllBare s'.gens/\Un (yV outer) [] H H' s.heap s'.heap/\gL P w H' s'.heap/\
 s.heap.get? a=none/\s.heap.get? T=none/\H' a=none/\H' T=none/\SV s'.heap a cls dx .none T/\E cls dx H'
section
variable{X:Cx}
def X5(C:Addr)(E:XK)(t:TA):TS:=λ_ σ H=>t σ H λvs H1=>vs.length<=sizeLine/\E (.ref C) none H1
end
end L2
namespace L2
open PySem PySem.Spec PyProof.Rows PySem.W
structure SY(K:Frag)(C:Addr):Prop where
 ga:findIn K (.ref C) "__getattribute__" = some (some (.builtin "BaseException.__getattribute__"))
 gn:findIn K (.ref C) "__getattr__" = some none
 cl:findIn K (.ref C) "__class__" = some (some (.builtin "object.__class__"))
 sg:specialIn K (.builtin "object.__class__") "__get__" = some (some (.builtin "getset_descriptor.__get__"))
 tk:takesIn K (.builtin "object.__class__")=some true
 mo:mroIn K C (.type "object")=some true
 mb:mroIn K C (.type "BaseException")=some true
end L2
namespace L2
open PySem PySem.Spec PyProof.Rows
structure Catch(K:Wf)(B C:Addr):Prop where
 ty:PySem.W.instIn K (.ref B) (.type "tuple")=some false
 bb:mroIn K B (.type "BaseException")=some true
 sub:mroIn K C (.ref B)=some true
def XO(a C:Addr)(dx:Option Addr):HO:=.ext λh=>∃ob vs,h.get? a=some ob/\ob.cls=.ref C/\ob.dict=dx/\ob.data=.fields vs
abbrev XS:=St->XK
def XP(X:Cx)(pins:Lo)(E:XS)(e:Value)(s':Shared):Prop:=∃σ H s,Inv X pins σ H s/\Zv X.prog X.w X.stack H s (E σ) e s'
abbrev LK:=St->Hp->VK->XK->Prop
abbrev LJ:=Ends->XS->St->Hp->Prop
section
variable{X:Cx}{k:Nat}{f C:Addr}{fd:FuncData}{ps:List Str}{sp:Sp}{dvs:List V}{ds:List Value}{x m:Str}{p pos apos:Pos}{e o:Expr}{es:List Expr}{ta:TE}{t:TA}
def Y1(sp:Sp)(dvs:List V)(t:TA):LK:=λσ H Q E=>t σ H λvs H1=>sp (vs++dvs) H1 Q E
def YW(C:Addr)(m:Str)(sp:Sp)(dvs:List V)(ta:TE)(t:TA):LK:=λσ H Q E=>ta σ H λx H1=>∃a dx fs,x=.ref a/\H1 a=some (.ins C dx fs)/\fs.lookup m=none/\
 t σ H1 λvs H2=>sp (x::(vs++dvs)) H2 Q E
end
section
variable{X:Cx}{st:Stmt}{rest:List Stmt}{t:TS}{tx ux:LJ}{e:Expr}{te:LK}{pos:Pos}
def Yy(te:LK):LJ:=λD E σ H=>te σ H (λ_ H1=>D.nx σ H1) (E σ)
def Ze(i:Nat)(te:LK):LJ:=λD E σ H=>te σ H (λv H1=>D.nx (σ.set i (some v)) H1) (E σ)
def ZN(te:LK):LJ:=λD E σ H=>te σ H D.rt (E σ)
def Z5(t:TS):LJ:=λD _ σ H=>t D σ H
def Zc(t u:LJ):LJ:=λD E σ H=>t { D with nx:=u D E } E σ H
end
section
variable{X:Cx}{pins:Lo}{σ:St}{H H':Hp}{s s':Shared}{a T:Addr}{cls:Value}{dx:Option Addr}{M:Model}{A:Around}{E:Vs}
def PH(dx:Option Addr)(H:Hp):Prop:=dx=none\/∃d fs,dx=some d/\H d=some (.xd fs)
end
def ZL(i:Nat)(D:Ends):Ends:={ nx:=λσ H=>D.nx (σ.set i none) H,rt:=D.rt,bk:=λσ H=>D.bk (σ.set i none) H,ct:=λσ H=>D.ct (σ.set i none) H }
def WR(K:Wf)(B:Addr)(i:Nat)(tb:LJ)(th:TS):TS:=λD σ H=>
 tb D (λσ' cls dx H'=>∃C,cls=.ref C/\Catch K B C/\PH dx H'/\∀a,H' a=none->th (ZL i D) (σ'.set i (some (.ref a))) (upd H' a (XO a C dx))) σ H
def Yw(K:Wf)(B:Addr)(tb:LJ)(th:TS):TS:=λD σ H=>
 tb D (λσ' cls dx H'=>∃C,cls=.ref C/\Catch K B C/\PH dx H'/\th D σ' H') σ H
section
variable{X:Cx}
def Sg(z:Str):Prop:=∀c∈z.cps.toList,c<16 ^ 8
def YS(t:TE):TE:=λσ H Q=>t σ H λx H1=>∃z,x=.str z/\(reprText z).length<=sizeLine/\Q (.str (reprText z)) H1
def Z0(t:TE):TE:=λσ H Q=>t σ H λx H1=>(∃z,x=.str z/\z.length<=sizeLine/\Q (.str z) H1)\/∃i:Int,x=.int i/\i.natAbs.log2<1920/\Q (.str (toString i)) H1
abbrev TJ:=Str->St->Hp->VK->Prop
def ZP:TJ:=λacc _ H Q=>acc.length<=sizeLine/\Q (.str acc) H
def Y2(t:TE)(u:TJ):TJ:=λacc σ H Q=>t σ H λx H1=>∃y,x=.str y/\(acc++y).length<=sizeLine/\u (acc++y) σ H1 Q
def VF(t:TJ):TE:=λσ H Q=>t Str.empty σ H Q
def rJoin(K:Wf):V->List V->Hp->VK->Prop:=λx vs H Q=>∃z a zs,x=.str z/\vs=[.ref a]/\aA K H a (zs.map V.str)/\JoinOk z zs=true/\Q (.str (Txt.join z zs)) H
def Yr(K:Wf)(H:Hp)(x:V)(t:Value):Prop:=h7 K H x t\/∃a C dx,x=.ref a/\t=.ref C/\H a=some (XO a C dx)/\PH dx H/\SY K C
def Y8:V->Value
 |.ref a=>.ref a
 |.ty n=>.type n
 |_=>.none
def RZ:V->Bool
 |.ref _=>true
 |.ty _=>true
 |_=>false
def Zp(K:Wf):List V->Hp->VK->Prop:=λxs H Q=>∃x c t b,xs=[x,c]/\RZ c=true/\Yr K H x t/\kitOne K t (Y8 c)=some b/\Q (.bl b) H
def Zb(K:Wf):List V->Hp->VK->Prop:=λxs H Q=>∃x tp cs t b,xs=[x,.ref tp]/\H tp=some (.tup cs)/\cs.all RZ=true/\Yr K H x t/\PySem.W.kitAny K t (cs.map Y8)=some b/\Q (.bl b) H
end
end L2
namespace L2
theorem GF(h1:PE X e t)(h2:PE X e u):PE X e (λσ H Q=>t σ H Q\/u σ H Q):=λpins s σ H Q I h=>by
 rcases h with h|h
 ·exact h1 pins s σ H Q I h
 ·exact h2 pins s σ H Q I h
end L2
namespace L2
open PySem PySem.Spec PyProof.Rows
structure ai where
 a:Addr
 at_:Int
 rule:Str
 name:Str
 add:Int
 soft:Bool
structure aK where
 t:Addr
 lw:Addr
 lf:Addr
 kind:Str
 step:Int
 words:List Int
 fills:List ai
structure aj where
 a:Addr
 name:Str
 sort:Str
 st:Int
 off:Int
structure ao where
 t:Addr
 ls:Addr
 ln:Addr
 name:Str
 aP:List aK
 aH:List aj
abbrev ai.v(f:ai):V:=.ref f.a
abbrev aK.v(s:aK):V:=.ref s.t
abbrev aj.v(n:aj):V:=.ref n.a
abbrev ao.v(p:ao):V:=.ref p.t
def ai.At(H:Hp)(f:ai):Prop:=H f.a=some (.tup [.int f.at_,.str f.rule,.str f.name,.int f.add,.bl f.soft])
def aj.At(H:Hp)(n:aj):Prop:=H n.a=some (.tup [.str n.name,.str n.sort,.int n.st,.int n.off])
structure aK.At(H:Hp)(s:aK):Prop where
 top:H s.t=some (.tup [.str s.kind,.int s.step,.ref s.lw,.ref s.lf])
 wd:H s.lw=some (.lst (s.words.map V.int))
 fl:H s.lf=some (.lst (s.fills.map ai.v))
 fs:∀f∈s.fills,f.At H
structure ao.At(H:Hp)(p:ao):Prop where
 top:H p.t=some (.tup [.str p.name,.ref p.ls,.ref p.ln])
 sl:H p.ls=some (.lst (p.aP.map aK.v))
 nl:H p.ln=some (.lst (p.aH.map aj.v))
 ss:∀s∈p.aP,s.At H
 ns:∀n∈p.aH,n.At H
def aK.lists(s:aK):List Addr:=[s.lw,s.lf]
def ao.lists(p:ao):List Addr:=p.ls::p.ln::p.aP.flatMap aK.lists
def aE(ps:List ao):List Addr:=ps.flatMap ao.lists
structure d0(H:Hp)(L:Addr)(ps:List ao):Prop where
 top:H L=some (.lst (ps.map ao.v))
 at_:∀p∈ps,p.At H
 nd:(L::aE ps).Nodup
theorem ai.At.mono{H H':Hp}{f:ai}(h:f.At H)(e:az H H'):f.At H':=e _ _ h
theorem aj.At.mono{H H':Hp}{n:aj}(h:n.At H)(e:az H H'):n.At H':=e _ _ h
theorem aK.At.mono{H H':Hp}{s:aK}(h:s.At H)(e:az H H'):s.At H':=⟨e _ _ h.top,e _ _ h.wd,e _ _ h.fl,λf hf=>(h.fs f hf).mono e⟩
theorem ao.At.mono{H H':Hp}{p:ao}(h:p.At H)(e:az H H'):p.At H':=⟨e _ _ h.top,e _ _ h.sl,e _ _ h.nl,λs hs=>(h.ss s hs).mono e,λn hn=>(h.ns n hn).mono e⟩
theorem d0.mono{H H':Hp}{L:Addr}{ps:List ao}(h:d0 H L ps)(e:az H H'):d0 H' L ps:=⟨e _ _ h.top,λp hp=>(h.at_ p hp).mono e,h.nd⟩
def fb(H H':Hp)(l:Addr):Prop:=(∃xs,H l=some (.lst xs))/\∀b o,H b=some o->b≠l->H' b=some o
theorem fb.upd(h:H l=some (.lst xs)):fb H (L2.upd H l o) l:=⟨⟨xs,h⟩,λb u e n=>by rw[ae n];exact e⟩
theorem fb.tup{H H':Hp}{l a:Addr}{xs:List V}(b:fb H H' l)(h:H a=some (.tup xs)):H' a=some (.tup xs):=by
 obtain⟨ys,hl⟩:=b.1;exact b.2 _ _ h λe=>by rw[e,hl]at h;cases h
theorem ai.At.but{H H':Hp}{l:Addr}{f:ai}(h:f.At H)(b:fb H H' l):f.At H':=b.tup h
theorem aj.At.but{H H':Hp}{l:Addr}{n:aj}(h:n.At H)(b:fb H H' l):n.At H':=b.tup h
theorem aK.At.but{H H':Hp}{l:Addr}{s:aK}(h:s.At H)(b:fb H H' l)(n:l∉s.lists):s.At H':=
 ⟨b.tup h.top,b.2 _ _ h.wd λe=>n (by simp[aK.lists,e]),b.2 _ _ h.fl λe=>n (by simp[aK.lists,e]),λf hf=>(h.fs f hf).but b⟩
theorem ao.At.but{H H':Hp}{l:Addr}{p:ao}(h:p.At H)(b:fb H H' l)(n:l∉p.lists):p.At H':=
 ⟨b.tup h.top,b.2 _ _ h.sl λe=>n (by simp[ao.lists,e]),b.2 _ _ h.nl λe=>n (by simp[ao.lists,e]),
  λs hs=>(h.ss s hs).but b λz=>n (by simp only[ao.lists,List.mem_cons];exact .inr (.inr (List.mem_flatMap.mpr ⟨s,hs,z⟩))),λm hm=>(h.ns m hm).but b⟩
theorem aK.At.list{H:Hp}{s:aK}(h:s.At H){b:Addr}(hb:b∈s.lists):∃xs,H b=some (.lst xs):=by
 simp only[aK.lists,List.mem_cons,List.not_mem_nil,or_false]at hb;rcases hb with e|e
 ·rw[e];exact⟨_,h.wd⟩
 ·rw[e];exact⟨_,h.fl⟩
theorem ao.At.list{H:Hp}{p:ao}(h:p.At H){b:Addr}(hb:b∈p.lists):∃xs,H b=some (.lst xs):=by
 simp only[ao.lists,List.mem_cons]at hb;rcases hb with e|e|e
 ·rw[e];exact⟨_,h.sl⟩
 ·rw[e];exact⟨_,h.nl⟩
 ·obtain⟨s,hs,z⟩:=g7.mp e;exact(h.ss s hs).list z
theorem d0.list{H:Hp}{L:Addr}{ps:List ao}(h:d0 H L ps){b:Addr}(hb:b∈L::aE ps):∃xs,H b=some (.lst xs):=by
 rcases hZ.mp hb with e|e
 ·rw[e];exact⟨_,h.top⟩
 ·obtain⟨p,hp,z⟩:=g7.mp e;exact(h.at_ p hp).list z
theorem d0.fresh(h:d0 H L ps){b:Addr}(hb:H b=none):b∉L::aE ps:=λz=>by
 obtain⟨xs,e⟩:=h.list z;rw[hb]at e;cases e
theorem fZ(ps:List ao)(p:ao):aE (ps++[p])=aE ps++p.lists:=by simp[aE,List.flatMap_append]
theorem d0.apart(h:d0 H L (ps++[p])):(∀q∈ps,∀b∈p.lists,b∉q.lists)/\p.lists.Nodup/\L∉p.lists/\∀q∈ps,L∉q.lists:=by
 have n:=h.nd;rw[fZ]at n;obtain⟨n1,n2⟩:=jB.mp n;obtain⟨n3,n4,n5⟩:=lD.mp n2;refine⟨λq hq b hb z=>n5 b (g7.mpr ⟨q,hq,z⟩) b hb rfl,n4,λz=>n1 (jW _ z),λq hq z=>n1 (lC _ (g7.mpr ⟨q,hq,z⟩))⟩
theorem d0.nil(h:H L=some (.lst [])):d0 H L []:=⟨h,λp hp=>absurd hp (by simp),by simp[aE]⟩
theorem d0.F6(h:d0 H L ps)(h1:H t=some (.tup [.str nm,.ref ls,.ref ln]))(h2:H ls=some (.lst []))(h3:H ln=some (.lst []))(n1:ls≠ln)
  (n2:ls∉L::aE ps) (n3:ln∉L::aE ps):d0 (upd H L (.lst (ps.map ao.v++[.ref t]))) L (ps++[⟨t,ls,ln,nm,[],[]⟩]):=by
 have b:fb H (upd H L (.lst (ps.map ao.v++[.ref t]))) L:=fb.upd h.top;have nL:=(jB.mp h.nd).1;refine⟨by rw[aD];simp,λp hp=>?_,?_⟩
 ·rcases cy.mp hp with z|z
  ·exact(h.at_ p z).but b λq=>nL (g7.mpr ⟨p,z,q⟩)
  ·have e:=cD.mp z;subst e;refine⟨b.tup h1,b.2 _ _ h2 λ(e:ls=L)=>n2 (e▸lO),b.2 _ _ h3 λ(e:ln=L)=>n3 (e▸lO),λs hs=>absurd hs (by simp),λn hn=>absurd hn (by simp)⟩
 ·rw[fZ];show(L::(aE ps++[ls,ln])).Nodup;rw[<-Tr];refine lD.mpr ⟨h.nd,by simp[n1],λx hx y hy e=>?_⟩;subst e;simp only[List.mem_cons,List.not_mem_nil,or_false]at hy;rcases hy with e|e
  ·subst e;exact n2 hx
  ·subst e;exact n3 hx
theorem d0.last(h:d0 H L (ps++[p]))(hl:l∈p.lists)(ht:p'.t=p.t)(hp:p'.At (upd H l o))(hn:(L::aE (ps++[p'])).Nodup):d0 (upd H l o) L (ps++[p']):=by
 obtain⟨a1,a2,a3,a4⟩:=h.apart;obtain⟨xs,hx⟩:=(h.at_ p (by simp)).list hl;have b:fb H (upd H l o) l:=fb.upd hx;refine⟨?_,λq hq=>?_,hn⟩
 ·rw[b.2 _ _ h.top λe=>a3 (by rw[e];exact hl)];simp[ao.v,ht]
 ·rcases cy.mp hq with z|z
  ·exact(h.at_ q (lC _ z)).but b (a1 q z l hl)
  ·rw[cD.mp z];exact hp
theorem d0.zK{H:Hp}{L t lw lf:Addr}{kind:Str}{step:Int}{ps:List ao}{p:ao}(h:d0 H L (ps++[p]))(h1:H t=some (.tup [.str kind,.int step,.ref lw,.ref lf]))(h2:H lw=some (.lst []))(h3:H lf=some (.lst []))
  (n1:lw≠lf) (n2:lw∉L::aE (ps++[p])) (n3:lf∉L::aE (ps++[p])):
  d0 (upd H p.ls (.lst (p.aP.map aK.v++[.ref t]))) L (ps++[{ p with aP:=p.aP++[⟨t,lw,lf,kind,step,[],[]⟩] }]):=by
 have hp:=h.at_ p (by simp);obtain⟨a1,a2,a3,a4⟩:=h.apart;have b:fb H (upd H p.ls (.lst (p.aP.map aK.v++[.ref t]))) p.ls:=fb.upd hp.sl;have in1:∀x,x∈p.lists->x∈L::aE (ps++[p]):=λx hx=>h8 _ (by rw[fZ];exact jW _ hx);have hls:p.ls∈p.lists:=by simp[ao.lists]
 have nd:p.ls≠p.ln/\p.ls∉p.aP.flatMap aK.lists:=by
  have:=a2;simp only[ao.lists,List.nodup_cons,List.mem_cons,not_or]at this;exact this.1
 refine h.last hls rfl ⟨b.tup hp.top,by rw[aD];simp,b.2 _ _ hp.nl (Ne.symm nd.1),λs hs=>?_,λn hn=>(hp.ns n hn).but b⟩ ?_
 ·rcases cy.mp hs with z|z
  ·exact(hp.ss s z).but b λq=>nd.2 (g7.mpr ⟨s,z,q⟩)
  ·have e:=cD.mp z;subst e;exact⟨b.tup h1,b.2 _ _ h2 λ(e:lw=p.ls)=>n2 (in1 _ (e▸hls)),b.2 _ _ h3 λ(e:lf=p.ls)=>n3 (in1 _ (e▸hls)),λf hf=>absurd hf (by simp)⟩
 ·have e:L::aE (ps++[{ p with aP:=p.aP++[⟨t,lw,lf,kind,step,[],[]⟩] }])=(L::aE (ps++[p]))++[lw,lf]:=by
   rw[fZ,fZ];simp[ao.lists,aK.lists,List.flatMap_append]
  rw[e];refine lD.mpr ⟨h.nd,by simp[n1],λx hx y hy e=>?_⟩;subst e;simp only[List.mem_cons,List.not_mem_nil,or_false]at hy;rcases hy with e|e
  ·subst e;exact n2 hx
  ·subst e;exact n3 hx
theorem d0.M3(h:d0 H L (ps++[p]))(h1:n.At H):d0 (upd H p.ln (.lst (p.aH.map aj.v++[n.v]))) L (ps++[{ p with aH:=p.aH++[n] }]):=by
 have hp:=h.at_ p (by simp);obtain⟨a1,a2,a3,a4⟩:=h.apart;have b:fb H (upd H p.ln (.lst (p.aH.map aj.v++[n.v]))) p.ln:=fb.upd hp.nl;have hln:p.ln∈p.lists:=by simp[ao.lists]
 have nd:p.ls≠p.ln/\p.ln∉p.aP.flatMap aK.lists:=by
  have:=a2;simp only[ao.lists,List.nodup_cons,List.mem_cons,not_or]at this;exact⟨this.1.1,this.2.1⟩
 refine h.last hln rfl ⟨b.tup hp.top,b.2 _ _ hp.sl nd.1,by rw[aD];simp,λs hs=>(hp.ss s hs).but b λq=>nd.2 (List.mem_flatMap.mpr ⟨s,hs,q⟩),λm hm=>?_⟩ ?_
 ·rcases cy.mp hm with z|z
  ·exact(hp.ns m z).but b
  ·rw[cD.mp z];exact h1.but b
 ·have:=h.nd;rw[fZ]at this ⊢;exact this
theorem d0.kO(h:d0 H L (ps++[p]))(e:p.aP=ss++[s]):s.lw∈p.lists/\s.lf∈p.lists/\s.lw≠s.lf/\(∀b∈s.lists,b≠p.ls/\b≠p.ln/\∀r∈ss,b∉r.lists):=by
 obtain⟨a1,a2,a3,a4⟩:=h.apart;have hs:s∈p.aP:=by rw[e];simp
 have m:∀b∈s.lists,b∈p.aP.flatMap aK.lists:=λb hb=>g7.mpr ⟨s,hs,hb⟩;have m':∀b∈s.lists,b∈p.lists:=λb hb=>by simp only[ao.lists,List.mem_cons];exact .inr (.inr (m b hb))
 simp only[ao.lists,List.nodup_cons,List.mem_cons,not_or]at a2;obtain⟨⟨_,b1⟩,b2,b3⟩:=a2;rw[e,LB]at b3;obtain⟨_,c2,c3⟩:=lD.mp b3;have c2':s.lists.Nodup:=by simpa using c2
 refine⟨m' _ (by simp[aK.lists]),m' _ (by simp[aK.lists]),?_,λb hb=>⟨λz=>b1 (z▸m b hb),λz=>b2 (z▸m b hb),λr hr z=>c3 b (List.mem_flatMap.mpr ⟨r,hr,z⟩) b (by simpa using hb) rfl⟩⟩;simpa [aK.lists] using c2'
theorem d0.LX(h:d0 H L (ps++[p]))(e:p.aP=ss++[s])(h1:f.At H):
  d0 (upd H s.lf (.lst (s.fills.map ai.v++[f.v]))) L (ps++[{ p with aP:=ss++[{ s with fills:=s.fills++[f] }] }]):=by
 have hp:=h.at_ p (by simp);obtain⟨m1,m2,n1,n2⟩:=h.kO e;have hs:s.At H:=hp.ss s (by rw[e];simp);have b:fb H (upd H s.lf (.lst (s.fills.map ai.v++[f.v]))) s.lf:=fb.upd hs.fl;obtain⟨q1,q2,q3⟩:=n2 s.lf (by simp[aK.lists]);refine h.last m2 rfl ⟨b.tup hp.top,?_,b.2 _ _ hp.nl (Ne.symm q2),λr hr=>?_,λn hn=>(hp.ns n hn).but b⟩ ?_
 ·rw[b.2 _ _ hp.sl (Ne.symm q1),e];simp[aK.v]
 ·rcases cy.mp hr with z|z
  ·exact(hp.ss r (by rw[e];exact lC _ z)).but b (q3 r z)
  ·have er:=cD.mp z;subst er;refine⟨b.tup hs.top,b.2 _ _ hs.wd n1,by rw[aD];simp,λg hg=>?_⟩;rcases cy.mp hg with y|y
   ·exact(hs.fs g y).but b
   ·rw[cD.mp y];exact h1.but b
 ·have:=h.nd;rw[fZ]at this ⊢;simp only[ao.lists,e,List.flatMap_append]at this ⊢;exact this
theorem d0.Bw(h:d0 H L (ps++[p]))(e:p.aP=ss++[s]):
  d0 (upd H s.lw (.lst (s.words.map V.int++[.int i]))) L (ps++[{ p with aP:=ss++[{ s with words:=s.words++[i] }] }]):=by
 have hp:=h.at_ p (by simp);obtain⟨m1,m2,n1,n2⟩:=h.kO e;have hs:s.At H:=hp.ss s (by rw[e];simp);have b:fb H (upd H s.lw (.lst (s.words.map V.int++[.int i]))) s.lw:=fb.upd hs.wd;obtain⟨q1,q2,q3⟩:=n2 s.lw (by simp[aK.lists]);refine h.last m1 rfl ⟨b.tup hp.top,?_,b.2 _ _ hp.nl (Ne.symm q2),λr hr=>?_,λn hn=>(hp.ns n hn).but b⟩ ?_
 ·rw[b.2 _ _ hp.sl (Ne.symm q1),e];simp[aK.v]
 ·rcases cy.mp hr with z|z
  ·exact(hp.ss r (by rw[e];exact lC _ z)).but b (q3 r z)
  ·have er:=cD.mp z;subst er;exact⟨b.tup hs.top,by rw[aD];simp,b.2 _ _ hs.fl (Ne.symm n1),λg hg=>(hs.fs g hg).but b⟩
 ·have:=h.nd;rw[fZ]at this ⊢;simp only[ao.lists,e,List.flatMap_append]at this ⊢;exact this
def ai.d(f:ai):D:=.tup [.int f.at_,.str f.rule,.str f.name,.int f.add,.bl f.soft]
def aK.d(s:aK):D:=.tup [.str s.kind,.int s.step,.lst (s.words.map D.int),.lst (s.fills.map ai.d)]
def aj.d(n:aj):D:=.tup [.str n.name,.str n.sort,.int n.st,.int n.off]
def ao.d(p:ao):D:=.tup [.str p.name,.lst (p.aP.map aK.d),.lst (p.aH.map aj.d)]
theorem RepL.map{K:Wf}{H:Hp}{α:Type}{f:α->D}{g:α->V}:∀{xs:List α},(∀x∈xs,Rep K H (f x) (g x))->RepL K H (xs.map f) (xs.map g)
 |[],_=>by simp[RepL]
 |x::xs,h=>by
  simp only[List.map_cons,RepL];exact⟨_,_,rfl,h x (lO ..),RepL.map λy hy=>h y (h8 _ hy)⟩
theorem ai.At.rep{K:Wf}{H:Hp}{f:ai}(h:f.At H):Rep K H f.d f.v:=by
 simp only[ai.d,Rep];exact⟨_,_,rfl,aS.of h,by simp[RepL,Rep]⟩
theorem aj.At.rep{K:Wf}{H:Hp}{n:aj}(h:n.At H):Rep K H n.d n.v:=by
 simp only[aj.d,Rep];exact⟨_,_,rfl,aS.of h,by simp[RepL,Rep]⟩
theorem aK.At.rep{K:Wf}{H:Hp}{s:aK}(h:s.At H):Rep K H s.d s.v:=by
 simp only[aK.d,Rep];refine⟨_,_,rfl,aS.of h.top,?_⟩;simp only[RepL,Rep];exact⟨_,_,rfl,rfl,_,_,rfl,rfl,_,_,rfl,⟨_,_,rfl,aA.of h.wd,RepL.ints _⟩,_,_,rfl,⟨_,_,rfl,aA.of h.fl,RepL.map λf hf=>(h.fs f hf).rep⟩,rfl⟩
theorem ao.At.rep{K:Wf}{H:Hp}{p:ao}(h:p.At H):Rep K H p.d p.v:=by
 simp only[ao.d,Rep];refine⟨_,_,rfl,aS.of h.top,?_⟩;simp only[RepL,Rep];exact⟨_,_,rfl,rfl,_,_,rfl,⟨_,_,rfl,aA.of h.sl,RepL.map λs hs=>(h.ss s hs).rep⟩,_,_,rfl,⟨_,_,rfl,aA.of h.nl,RepL.map λn hn=>(h.ns n hn).rep⟩,rfl⟩
theorem dY{α:Type}{f:α->D}{n:Nat}:∀{xs:List α},(∀x∈xs,dep (f x)<=n)->depL (xs.map f)<=n
 |[],_=>by simp[depL]
 |x::xs,h=>by
  simp only[List.map_cons,depL];exact Nat.max_le.mpr ⟨h x (lO ..),dY λy hy=>h y (h8 _ hy)⟩
theorem Fw(f:ai):dep f.d<=1:=by simp[ai.d,dep,depL]
theorem IP(n:aj):dep n.d<=1:=by simp[aj.d,dep,depL]
theorem Je(s:aK):dep s.d<=3:=by
 have h1:depL (s.words.map D.int)<=0:=dY λx _=>by simp[dep]
 have h2:depL (s.fills.map ai.d)<=1:=dY λx _=>Fw x;simp only[aK.d,dep,depL];omega
theorem Jz(p:ao):dep p.d<=5:=by
 have h1:depL (p.aP.map aK.d)<=3:=dY λx _=>Je x;have h2:depL (p.aH.map aj.d)<=1:=dY λx _=>IP x;simp only[ao.d,dep,depL];omega
theorem kX(ds:List D):deqL ds []=decide (ds=[]):=by cases ds<;>simp[deqL]
theorem d0.rep{K:Wf}{H:Hp}{L:Addr}{ps:List ao}(h:d0 H L ps):Rep K H (.lst (ps.map ao.d)) (.ref L):=by
 simp only[Rep];exact⟨_,_,rfl,aA.of h.top,RepL.map λp hp=>(h.at_ p hp).rep⟩
def aK.core(s:aK):Str×Int×List Int×List ai:=(s.kind,s.step,s.words,s.fills)
theorem aK.PM{s r:aK}(h:s.core=r.core):s.d=r.d:=by
 simp only[aK.core,Prod.mk.injEq]at h;simp[aK.d,h]
theorem kP:∀{ss rs:List aK},ss.map aK.core=rs.map aK.core->ss.map aK.d=rs.map aK.d
 |[],[],_=>rfl
 |[],_::_,h=>by simp at h
 |_::_,[],h=>by simp at h
 |s::ss,r::rs,h=>by
  simp only[List.map_cons,List.cons.injEq]at h ⊢;exact⟨aK.PM h.1,kP h.2⟩
structure ao.DV(p q:ao):Prop where
 name:q.name=p.name
 aH:q.aH=p.aH
 aP:q.aP.map aK.core=p.aP.map aK.core
theorem ao.DV.d{p q:ao}(h:p.DV q):q.d=p.d:=by simp[ao.d,h.name,h.aH,kP h.aP]
end L2
namespace L2
open PySem PySem.Spec PyProof.Rows PySem.W
abbrev VE:List Value:=[.type "ValueError", .type "Exception", .type "BaseException", .type "object"]
def ownInit(K:Frag)(C fI:Addr):Bool:=
 match K.lookup C with
 |none=>false
 |some ob=>
  match ob.cls,ob.data,ob.slots.toList with
  |.type "type", .cls cd,[_,_,_,_,some (.builtin n),_]=>
   (match cd.mro with
    |.ref C'::bm=>C' == C&&(n == "ValueError.__new__" && (!cd.hasDel&&(tailIn K VE bm&&(nsOkIn K cd.ns&&(cd.hasDict&&nsIn K cd.ns "__init__" == some (some (.ref fI)))))))
    |_=>false)
  |_,_,_=>false
def Cm:List Value->Bool
 |.ref _::r=>Cm r
 |l=>l == VE
def SX(K:Frag)(C:Addr):Bool:=(clsIn K C).any λcd=>cd.hasDict&&Cm cd.mro
end L2
namespace L2
open PySem PySem.Spec PyProof.Rows PySem.W
def XN(a C:Addr)(dx:Option Addr):HO:=.ext λh=>∃ob vs v0,h.get? a=some ob/\ob.cls=.ref C/\ob.dict=dx/\ob.data=.fields vs/\vs[0]?=some v0/\vs[1]?=some .none
def XD(d:Addr)(fs:List (Str×V)):HO:=.ext λh=>∃mA,h.Ns1 d mA/\(∀f,fK (fs.lookup f) (mA f))/\PySem.Within mA (fs.map (·.1))
def del(H:Hp)(a:Addr):Hp:=λb=>if b=a then none else H b
end L2
namespace L2
open PySem PySem.Spec PyProof.Rows PySem.W
structure UK(K:Frag)(C f:Addr):Prop where
 Z7:ownInit K C f=true
 ei:SX K C=true
 sa:findIn K (.ref C) "__setattr__" = some (some (.builtin "object.__setattr__"))
 fn:isFn K (.ref f)=true
def VU(C:Addr)(sp:Sp)(E:XK)(t:TA):TS:=λ_ σ H=>t σ H λvs H1=>vs.length<=sizeLine/\∀x,H1 x=none->sp (.ref x::vs) (upd H1 x (XN x C none)) (λv H2=>v=.bh/\
 ((H2 x=some (XN x C none)/\E (.ref C) none (del H2 x))\/∃d fs,d≠x/\H2 x=some (XN x C (some d))/\H2 d=some (XD d fs)/\E (.ref C) (some d) (del (upd H2 d (.xd fs)) x))) E0
def Yn(K:Frag)(t:TA):TE:=λσ H Q=>t σ H λvs H1=>∃a C dx rest f,vs=.ref a::rest/\H1 a=some (XN a C dx)/\UK K C f/\rest.length<=sizeLine/\Q .bh H1
def YC(K:Frag)(ta tv:TE)(f:Str):TS:=λD σ H=>tv σ H λy H1=>ta σ H1 λx H2=>∃a C fI dx,x=.ref a/\H2 a=some (XN a C dx)/\UK K C fI/\bf K C f/\
 ((dx=none/\∀d,H2 d=none->D.nx σ (upd (upd H2 d (XD d [(f,y)])) a (XN a C (some d))))\/∃d fs,dx=some d/\H2 d=some (XD d fs)/\fs.length<1000/\D.nx σ (upd H2 d (XD d (putF f y fs))))
def Y6(K:Frag)(ta:TE)(f:Str):TE:=λσ H Q=>ta σ H λx H1=>∃a C d fs v,x=.ref a/\H1 a=some (XO a C (some d))/\H1 d=some (.xd fs)/\SY K C/\hasDictIn K C=true/\bf K C f/\fs.lookup f=some v/\Q v H1
end L2
namespace L2
open PySem PySem.Spec PyProof.Rows
section
variable{X:Cx}
theorem ia(h:vM X b t)(w:∀D σ H,u D σ H->t D σ H):vM X b u:=λpins s σ H D I q=>h pins s σ H D I (w D σ H q)
theorem Bb(h:PT X e t)(w:∀σ H R,u σ H R->t σ H R):PT X e u:=λpins s σ H R I q=>h pins s σ H R I (w σ H R q)
end
section
variable{X:Cx}
theorem eP{elt iter tg:Expr}{ifs:List Expr}{scope:Scope}{pos spos py:Pos}{y:Str}{i:Nat}{N':List Str}{k:Nat}{fm:List Nat}{wi:TI}{g:TG}{tt:TT}{te:TE}(hN:X.N.Nodup)(hi':X.N[i]?=some y)(hy:Loc X.env.scope y)(B:gE X N' k fm scope)(hc:X.calm=true)(hi:PI X tg iter wi)
  (hb:∀fp s H,PG (C_ X N' scope fp s H) tg g/\UC (C_ X N' scope fp s H) ifs tt/\PE (C_ X N' scope fp s H) elt te)
  (hsw:swapsWith (.ListComp elt [⟨tg,iter,ifs,0⟩] scope pos) (some (.Name y py)) spos.line X.env=pure true:=by rfl)
  (hs:∀x,foldedSetIterable iter X.env x=pure x:=by intro _;rfl) (hfn:X.fn y=true\/X.env.scope.names.lookup y=some .local:=by first|exact .inl rfl|exact .inr rfl|assumption):
  PS X (.Assign [.Name y py] (.ListComp elt [⟨tg,iter,ifs,0⟩] scope pos) spos) (MR (k9 k fm wi g tt te) (mr i)):=by
 intro pins s σ H DD I h;have hfree:∀x∈scope.names,x.2=.free->∃c,X.env.cells.lookup x.1=some c:=λx hx hk=>I.ok.has x.1 (B.free x hx hk);rw[exec_Assign_Name_used _ _ _ _ hsw];refine aC (wpAny_standAt (aC ?_));show wpAny _ X.A (do let _ <-comprehension (.ListComp elt [⟨tg,iter,ifs,0⟩] scope pos) scope X.env _ (newList []) false (eval iter X.env) (some (assign (.Name y py) X.env))) _ _ s;refine aC (pG (wpAny_comprehension_free (use:=some (assign (.Name y py) X.env)) (Q:=λ_ s'=>SP X pins DD .next s') rfl hs (gX hfree) B.kind B.names (bA (hi pins s σ H _ I h) λv s1 h1=>bA h1 λitv s2 h2=>?_)) (λ_ s' hq=>bB (bB hq)) λ_ _ e=>e);obtain⟨it,fp,tn,J,H2,e,I2,T,st2,f2,h2⟩:=h2;subst e;obtain⟨W,⟨m0,w0⟩,turn⟩:=h2 s2.heap.objs.size I2.fresh;refine Ld (wpAny_newFunctionEnv B.zZ (by intro y hy;simp at hy) (λh4 hns4 hsb4=>?_) B.kind);have I3:=I2.P9 (its:=[]) (ys:=[]) (t':=s2.toks) .nil (gH _);have hf3:∀b∈fp,eT X pins (upd H2 s2.heap.objs.size (.lst [])) b:=λb hb=>by
  obtain⟨o,e,_⟩:=T.obj _ _ st2 b hb;refine⟨?_,(f2 b hb).2⟩;rw[ae (λz=>xv _ (z▸cY e))];exact(f2 b hb).1
 have ho3:∀b∈fp,∃o,(s2.heap.push { cls:=.type "list", data:=.seq ([]:List Value).toArray }).get? b=some o:=λb hb=>by
  obtain⟨o,e,_⟩:=T.obj _ _ st2 b hb;exact⟨o,d9 _ e⟩
 have kp4:∀b o,(s2.heap.push { cls:=.type "list", data:=.seq ([]:List Value).toArray }).get? b=some o->h4.get? b=some o:=λb o e=>
  hsb4.extBut b o (λz=>xv _ (z▸cY e)) (d9 _ e)
 have I4:=I3.block (fp:=fp) (h':=h4) (tk:=s2.toks+([]:List (Str×Value)).length) B hf3 ho3 hns4 kp4;generalize hs3:({ s2 with heap:=s2.heap.push { cls:=.type "list", data:=.seq ([]:List Value).toArray },toks:=s2.toks }:Shared)=s3 at *;obtain⟨hg,ht,he⟩:=hb fp s3 (upd H2 s2.heap.objs.size (.lst []));have st4:tn 0 h4:=T.keep _ _ _ st2 λb hb o e=>kp4 b o (d9 _ e);have stat:∀{H':Hp},(∀b∈fp,H' b=none)->∀b∈fp,eT (C_ X N' scope fp s3 (upd H2 s2.heap.objs.size (.lst []))) [] H' b:=λ{H'} hn b hb=>by
  obtain⟨f0,f1,f3,f4,f5,f6⟩:=hf3 b hb;obtain⟨g1,g2⟩:=I4.ok.TR b hb;exact⟨hn b hb,g1,I4.ok.zt b hb,.inl hb,g2,λp hp=>f6 p ((cy.mp hp).elim (λz=>lC _ z) λz=>absurd z (by simp))⟩
 have loop:codeAny (model X.prog X.w) X.A (.compLoop (.ListComp elt [⟨tg,iter,ifs,0⟩] scope pos) 0 (.ref it) (.ref s2.heap.objs.size) (compEnvC scope (jI X.env scope.names []) s3.heap.objs.size X.env))
   (compPost (model X.prog X.w) X.A X.xe (some (assign (.Name y py) X.env)) (λ_ s'=>SP X pins DD .next s') (.ref s2.heap.objs.size) s3.heap.objs.size) { s3 with heap:=h4,toks:=s2.toks+([]:List (Str×Value)).length }:=by
  refine yu (X:=C_ X N' scope fp s3 (upd H2 s2.heap.objs.size (.lst []))) (D:=s2.heap.objs.size) (Q:=λv H'=>DD.nx (σ.set i (some v)) H') (W:=W) (m0:=m0) rfl hc T stat hg ht he turn I4 st4 (λb hb=>(hf3 b hb).1) w0 ?_;intro H' s' I' q;obtain⟨m,hn,_⟩:=I'.loc;have hCn:s3.heap.get? s3.heap.objs.size=none:=by
   cases e:s3.heap.get? s3.heap.objs.size with
   |none=>rfl
   |some o=>exact absurd (cY e) (xv _)
  have J:∀h'':Heap,(∀b o,b≠s3.heap.objs.size->s'.heap.get? b=some o->h''.get? b=some o)->Inv X pins σ H' { s' with heap:=h'' }:=λh'' hk=>by
   have u:Un (yV X.stack) fp (upd H2 s2.heap.objs.size (.lst [])) H' s3.heap h'':=Un.tail I'.base hk hCn;refine I3.Av (s':={ s' with heap:=h'' }) (ch:=fp) I'.os u (I'.aW.tail hk I'.free) I'.bare λb hb=>?_;obtain⟨f0,f1,f3,f4,f5,f6⟩:=hf3 b hb;exact⟨f4,f1,f5,f6⟩
  have J1:Inv X pins σ H' s':=J s'.heap λ_ _ _ e=>e;obtain⟨oC,es,ep,hoC,hdC,rC⟩:=hn;have hCf:H' s3.heap.objs.size=none:=I'.free;have hCL:s3.heap.objs.size≠X.env.locals:=Ne.symm (gI I3.lt);have hCfs:=I3.UJ (bw _);have J2:Inv X (pins++[(s3.heap.objs.size,oC)]) σ H' s':=J1.jR λp hp=>by
   rcases cy.mp hp with z|z
   ·exact J1.pin p (jW _ z)
   ·rw[cD.mp z];exact⟨hoC,hCf,hCL,hCfs,λv e=>by rw[hdC]at e;cases e⟩
  show wpAny _ X.A (assign (.Name y py) X.env (.ref s2.heap.objs.size)) _ _ _;refine wpAny_assign_Name (ie J2 hN hi' hy (v:=.ref s2.heap.objs.size) rfl (λs5 I5=>?_) hfn);have hC5:=(I5.pin (s3.heap.objs.size,oC) (jW _ (jW _ (cD.mpr rfl)))).1;refine⟨m,⟨oC,es,ep,hC5,hdC,rC⟩,λh'' hs''=>?_⟩;have I6:Inv X pins (σ.set i (some (.ref s2.heap.objs.size))) H' s5:=I5.jR λp hp=>I5.pin p (jW _ (lC _ hp));refine⟨_,H',I6.turned (t':=s5.toks) (it:=s3.heap.objs.size) (λb o hb e=>hs''.extBut b o hb e) hCf hCL (.inr I3.sz) (λx c e z=>?_) (λp hp z=>?_),q⟩
  ·obtain⟨v,o,ho,_⟩:=I3.cell x c e;rw[z]at ho;exact absurd (cY ho) (xv _)
  ·have z':=(I3.pin p hp).1;rw[z]at z';exact absurd (cY z') (xv _)
 subst hs3;exact codeAny_compStart_list loop (T.self X.A 0 _ _ _ st4 loop)
end
section
variable{X:Cx}
def VP(K:Wf):R2:=λx y H Q=>∃p q kvs,x=.ref p/\y=.ref q/\H p=some (.dK kvs)/\H q=some (.dK kvs)/\(∀kv∈kvs,∃d,Rep K H d kv.2/\dep d<=20)/\Q (.bl true) H
def VM:List V->Hp->VK->Prop:=λxs H Q=>∃p kvs,xs=[.ref p]/\H p=some (.dK kvs)/\∀q,H q=none->Q (.ref q) (upd H q (.dK kvs))
def Wt(x:V)(xs:List V):Nat:=xs.countP λy=>Gk y x
def Yq(K:Wf):V->List V->Hp->VK->Prop:=λx vs H Q=>∃p xs y,x=.ref p/\vs=[y]/\aA K H p xs/\gZ y=true/\xs.all gZ=true/\Q (.int (Wt y xs:Nat)) H
end
section
variable{X:Cx}
def Qy(E:XK)(k:Nat)(fm:List Nat)(wi:TI)(g:TG)(tt:TT)(te:LK):TE:=λσ H Q=>wi σ H λJ H1=>∀D,H1 D=none->∃W:Nat->Nat->List V->Hp->Prop,
 (∃m,W 0 m [] (upd H1 D (.lst [])))/\∀i m ys H2,W i m ys H2->H2 D=some (.lst ys)/\ys.length<sizeLine/\((J.stop i H2/\Q (.ref D) H2)\/(J.go i H2/\∃N:List V->Hp->Prop,(∀ys' H',N ys' H'->∃m',m'<m/\W (i+1) m' ys' H')/\∀x H3,J.DY i H2 x H3->
  g x (eg k fm σ) H3 λσ3 H4=>Ext (eg k fm σ) σ3/\tt σ3 H4 λb H5=>if b=true then te σ3 H5 (λy H6=>H6 D=some (.lst ys)/\N (ys++[y]) (upd H6 D (.lst (ys++[y])))) E else N ys H5))
end
def Qv(E:XK)(g:TG)(tt:TT)(te:LK)(σ0:St)(Q:VK)(J:It)(H1:Hp):Prop:=∀DD,H1 DD=none->∃W:Nat->Nat->List V->Hp->Prop,
 (∃m,W 0 m [] (upd H1 DD (.lst [])))/\∀i m ys H2,W i m ys H2->H2 DD=some (.lst ys)/\ys.length<sizeLine/\((J.stop i H2/\Q (.ref DD) H2)\/(J.go i H2/\∃N:List V->Hp->Prop,(∀ys' H',N ys' H'->∃m',m'<m/\W (i+1) m' ys' H')/\∀x H3,J.DY i H2 x H3->
  g x σ0 H3 λσ3 H4=>Ext σ0 σ3/\tt σ3 H4 λb H5=>if b=true then te σ3 H5 (λy H6=>H6 DD=some (.lst ys)/\N (ys++[y]) (upd H6 DD (.lst (ys++[y])))) E else N ys H5))
def PX(K:Wf)(E:XK)(g:TG)(tt:TT)(te:LK)(σ0:St)(Q:VK):VK:=λx H1=>∃a,x=.ref a/\(∃xs,aA K H1 a xs)/\Qv E g tt te σ0 Q (JH K a) H1
section
variable{K:Wf}{k:Nat}{fm:List Nat}{tl:TE}{te:LK}{g:TG}{tt:TT}{σ σ0:St}{H H1:Hp}{Q:VK}{E:XK}
theorem NR:Qy E k fm (xy K tl) g tt te σ H Q=tl σ H (PX K E g tt te (eg k fm σ) Q):=rfl
end
def D1(a b:Str):Prop:=a.cps.toList<=b.cps.toList
theorem DT(x:D1 a b)(y:D1 b c):D1 a c:=List.le_trans x y
theorem mW:∀{l:List Str}{p:Str},risingS p l=true->(p::l).Pairwise D1
 |[],p,_=>List.pairwise_singleton ..
 |x::r,p,h=>by
  rw[risingS,lW,ltCps_eq]at h;have px:D1 p x:=by
   have z:=h.1;rw[Bool.not_eq_true',decide_eq_false_iff_not]at z;exact z
  have ih:=mW h.2;refine List.Pairwise.cons (λy hy=>?_) ih;rcases hZ.mp hy with rfl|hy
  ·exact px
  ·exact DT px ((List.pairwise_cons.mp ih).1 y hy)
theorem Dv:∀{l:List Str},sortedS l=true->l.Pairwise D1
 |[],_=>.nil
 |_::_,h=>mW h
theorem n_:∀{ss:List Str}{us:List Value},StrsAre us ss->Vals (ss.map V.str) us
 |_,_,.nil=>.nil
 |_,_,.cons x k t=>.cons ⟨k,rfl⟩ (n_ t)
theorem tN:∀{us:List Value}{ss:List Str},us.length=ss.length->(∀(j:Nat) (v:Value),us[j]?=some v->∃y k,ss[j]?=some y/\v=Value.str y k)->StrsAre us ss
 |[],[],_,_=>.nil
 |u::us,s::ss,hl,h=>by
  obtain⟨y,k,e,rfl⟩:=h 0 u rfl;cases e;exact .cons _ k (tN (by simpa using hl) λj v hv=>by simpa using h (j+1) v (by simpa using hv))
theorem mK{prog:Program}{w:World}{A:Around}{E:Vs}{s:Shared}{a:Value}{Q:Vs}
  (hc:wpAny (model prog w) A.in1 (collect a) (λvs s1=>∃ss:List Str,StrsAre vs ss/\vs.length<64/\
   ∀(h':Heap) (out:List Value) (ss':List Str) (D:Addr) (e:Nat),(∀b o,s1.heap.get? b=some o->h'.get? b=some o)->s1.heap.objs.size<=D->h'.get? D=some (seqObj "list" out.toArray e)->
    StrsAre out ss'->ss'.Perm ss->ss'.Pairwise D1->Q (.ref D) { s1 with heap:=h' }) E s):
  wpAny (model prog w) A (call (.builtin "sorted") [a]) Q E s:=by
 refine Calls.call_function_entry kind_sorted plain_sorted entry_sorted (args_sorted1 _) ?_;unfold Builtin.«sorted»;refine aC (m:=checkCount "sorted" 1 1 _) (bB ?_);refine aC (pG hc (λvs s1 hv=>?_) λ_ _ z=>z);obtain⟨ss,S,hz,q⟩:=hv;refine aC (wpAny_newList ?_ (by rw[sizeLine_eq];omega));have hoL:(s1.heap.push (seqObj "list" vs.toArray 0)).get? s1.heap.objs.size=some (seqObj "list" vs.toArray 0):=iy _ rfl;refine aC (D_ (NY slot_list_sort ⟨_,hoL,rfl⟩ entry_list_sort
  (list_sort_treeK strKind_oneLt hoL S.keysOf (λv₁ v₂ rest z=>keyKind_strs (by rw[<-z];exact S)) hz λst a1 a2=>⟨_,rfl,?_⟩) (args_list_sort _)))
 obtain⟨ss',t1,t2,t3⟩:=sorted_out_str S a1 a2;obtain⟨e,he⟩:=sortedHeap_at (out:=(arrOf st).map (·.2)) hoL;refine bB ⟨_,rfl,q _ ((arrOf st).map (·.2)).toList ss' s1.heap.objs.size e (λb o z=>?_) (bw _) (by rw[Array.toArray_toList];exact he) t1 t2 (Dv t3)⟩;have lt:=cY z;rw[sortedHeap_old (gI lt) (by rw[size_push'];exact Nat.lt_succ_of_lt lt)];exact d9 _ z
section
variable{X:Cx}
def FH:List V->Hp->VK->Prop:=λxs H Q=>∃p kvs,∃ss:List Str,xs=[.ref p]/\H p=some (.dK kvs)/\kvs.map (·.1)=ss.map Sum.inr/\ss.length<64/\∀(l:Addr) (ss':List Str),H l=none->ss'.Perm ss->ss'.Pairwise D1->Q (.ref l) (upd H l (.lst (ss'.map V.str)))
theorem AX{kvs:List (Key×V)}{vs:List (Key×Value)}(r:KV kvs vs):kvs.map (·.1)=vs.map (·.1):=by
 unfold KV at r
 induction r with
 |nil=>rfl
 |cons h _ ih=>rw[lF,lF,h.1,ih]
theorem vI(hc:X.calm=true):dA X (.builtin "sorted") FH:=by
 intro pins s σ H xs us Q I r h;obtain⟨p,kvs,ss,rfl,hq,hk,hz,q⟩:=h;obtain⟨u,rfl,rx⟩:=vals1 r;cases rx;obtain⟨z,hS,vs,rel,dd⟩:=mM I.aW hq;obtain⟨ep,da⟩:=dd.dictAt;have hh:X.A.in1.handled=none:=by simp[I.ok.hd hc]
 have hkeys:vs.map (·.1)=ss.map Sum.inr:=(AX rel).symm.trans hk;have hlen:vs.length=ss.length:=by have e:=congrArg List.length hkeys;simpa using e
 refine mK (PySem.W.kdu_collect (PySem.W.kdl_dict hS) hh da (by rw[hlen,sizeLine_eq];omega) λh1 tk acc kp it=>?_);have hal:acc.toList.length=ss.length:=by rw[D9,it.1,hlen]
 refine⟨ss,tN hal (λj v hv=>?_),by rw[hal];exact hz,λh2 out ss' D e k2 hD hg S pm pw=>?_⟩
 ·rw[Array.getElem?_toList]at hv;obtain⟨k,x,e,hi⟩:=it.2 j v hv;have e1:(vs.map (·.1))[j]?=some k:=by rw[jA,e];rfl
  rw[hkeys,jA]at e1;cases hj:ss[j]? with
  |none=>rw[hj]at e1;cases e1
  |some y=>
   rw[hj]at e1;cases e1;obtain⟨t,rfl⟩:=Value.isStrOf_shape (x:=y) (v:=v) hi;exact⟨y,t,rfl,rfl⟩
 ·have I1:=I.kept (t':=tk) kp;exact⟨.ref D,_,I1.laid (a:=D) (o:=.lst (ss'.map V.str)) (t':=tk) k2 hD ⟨by rw[aI,pm.length_eq,sizeLine_eq];omega,out,e,n_ S,by simpa using hg⟩,rfl,q _ ss' (I1.aW.fresh hD) pm pw⟩
theorem qm:∀{as:List Addr}{us:List Value},Vals (as.map V.ref) us->us=as.map Value.ref
 |[],[],.nil=>rfl
 |a::as,u::us,.cons r t=>by
  cases r;rw[qm t];rfl
def YE(g:Addr->D)(d:D):Value->Bool
 |.ref a=>deq (g a) d
 |_=>false
def U3(K:Wf)(neg:Bool):R2:=λx y H Q=>∃(p:Addr) (as:List Addr) (g:Addr->D) (d:D),y=.ref p/\aA K H p (as.map V.ref)/\(∀a∈as,Rep K H (g a) (.ref a)/\dep (g a)<=20)/\Rep K H d x/\Q (.bl (if neg then !(as.any λa=>deq (g a) d) else as.any λa=>deq (g a) d)) H
theorem MC(g:Addr->D)(d:D)(as:List Addr):(as.map Value.ref).toArray.any (YE g d)=as.any λa=>deq (g a) d:=by
 rw[List.any_toArray,Nm];rfl
theorem OM(hu:X.A.units+64<cLine):gF X (compareOp .In) (U3 X.K false):=by
 intro pins s σ H x y v u Q I rx ry h;obtain⟨p,as,g,d,rfl,hq,ha,hd,q⟩:=h;cases ry;obtain⟨its,r,pl,hz⟩:=I.list hq;have e:=qm r;subst e;refine SeqAt.in_listAt (YE g d) pl.isList (λw hw=>?_) ⟨.bl _,H,I,rfl,by rw[MC];exact q⟩;obtain⟨a,hm,rfl⟩:=bI.mp (by simpa using hw);exact Bg I (g a) d (.ref a) x (.ref a) v X.A.in1 (by have:=(ha a hm).2;show X.A.units+1+_<_;omega) (ha a hm).1 hd rfl rx
theorem M9{K:Wf}(hu:X.A.units+64<cLine)(e:X.K=K):gF X (compareOp .In) (U3 K false):=e▸OM hu
end
end L2
namespace L2
open PySem
section
variable{prog:Program}{w:World}{A:Around}{E:Vs}{s:Shared}
set_option maxHeartbeats 3200000 in
set_option maxHeartbeats 3200000 in
set_option maxHeartbeats 3200000 in
end
end L2
namespace L2
open PySem PySem.Spec PyProof.Rows
section
variable{X:Cx}{pins:Lo}{σ:List (Option V)}{H H':Hp}{s:Shared}{h':Heap}
theorem Inv.AJ{t':Nat}{fp:List Addr}(I:Inv X pins σ H s)(k:∀b o,b∉fp->s.heap.get? b=some o->h'.get? b=some o)(hf:∀b∈fp,eT X pins H b):Inv X pins σ H { s with heap:=h',toks:=t' }:=by
 have nit:∀b u,H b=some u->b∉fp:=λb u e z=>by rw[(hf b z).1]at e;cases e
 have hL:X.env.locals∉fp:=λz=>(hf _ z).2.1 rfl;refine I.step (g':=s.gens) (d':=s.drawn) (ch:=fp) (λb hb=>?_) (λb o _ _ hc e _=>k b o hc e) (λb o _ _ hc e _=>⟨o.slots,k b o hc e⟩) (λ_ _ _ _ n=>n)
  (λb o hc e=>⟨o,k b o hc e⟩) (λ_ _ e=>e) (λ_ _ _ e=>e) (λb ps e=>⟨#[],by rw[e];simp⟩) (λm hm=>?_) (λb u e=>?_) I.bare
 ·obtain⟨_,a1,_,a2,a3,a4⟩:=hf b hb;exact⟨a2,a1,a3,a4⟩
 ·obtain⟨o,es,ep,ho,r⟩:=hm;exact⟨o,es,ep,k _ o hL ho,r⟩
 ·refine(I.aW b u e).jf (λc v hc q=>k c v ?_ q) (λ_ q=>q) λ_ _ q=>q;rcases hc with z|z
  ·rw[z];exact nit b u e
  ·exact nit c _ z
theorem Inv.CQ{t':Nat}{fp:List Addr}{q:Addr}{xs:List V}(I:Inv X pins σ H s)(k:∀b o,b∉fp->s.heap.get? b=some o->h'.get? b=some o)(hf:∀b∈fp,eT X pins H b)(hq:s.heap.objs.size<=q)(new:bg X.prog X.w (upd H q (.tup xs)) h' q (.tup xs)):
  Inv X pins σ (upd H q (.tup xs)) { s with heap:=h',toks:=t' }:=by
 have nit:∀b u,H b=some u->b∉fp:=λb u e z=>by rw[(hf b z).1]at e;cases e
 have hL:X.env.locals∉fp:=λz=>(hf _ z).2.1 rfl;have fq:H q=none:=I.aW.fresh hq;have ne:∀b u,H b=some u->b≠q:=λb u e z=>by rw[z,fq]at e;cases e
 have ne':∀b (o:Obj),s.heap.get? b=some o->b≠q:=λb o e z=>absurd (cY e) (by rw[z];exact Nat.not_lt.mpr hq);refine I.step (g':=s.gens) (d':=s.drawn) (ch:=fp) (λb hb=>?_) (λb o _ _ hc e _=>k b o hc e) (λb o _ _ hc e _=>⟨o.slots,k b o hc e⟩) (λb o _ e n=>by rw[ae (ne' b o e)];exact n)
  (λb o hc e=>⟨o,k b o hc e⟩) (λb _ e=>by rw[ae (ne b _ e)];exact e) (λb _ _ e=>by rw[ae (ne b _ e)];exact e) (λb ps e=>⟨#[],by rw[ae (ne b _ e),e];simp⟩) (λm hm=>?_) (λb u e=>?_) I.bare
 ·obtain⟨_,a1,_,a2,a3,a4⟩:=hf b hb;exact⟨a2,a1,a3,a4⟩
 ·obtain⟨o,es,ep,ho,r⟩:=hm;exact⟨o,es,ep,k _ o hL ho,r⟩
 ·by_cases z:b=q
  ·subst z;rw[aD]at e;cases e;exact new
  ·rw[ae z]at e;refine(I.aW b u e).jf (λc v hc q=>k c v ?_ q) (λc q=>?_) λc o q=>?_
   ·rcases hc with z|z
    ·rw[z];exact nit b u e
    ·exact nit c _ z
   ·rw[ae (ne c _ q)];exact q
   ·rw[ae (ne c _ q)];exact q
end
structure Zf(z TI TO i1 i2:Addr):Prop where
 TIz:TI≠z
 TOz:TO≠z
 i1z:i1≠z
 i2z:i2≠z
 TITO:TI≠TO
 TIi1:TI≠i1
 TIi2:TI≠i2
 TOi1:TO≠i1
 TOi2:TO≠i2
 i12:i1≠i2
def X6(K:Wf)(a b:Addr):It:=
 ⟨λi H=>∃ xs ys x y, aA K H a xs /\ aA K H b ys /\ xs[i]? = some x /\ ys[i]? = some y,
  λi H v H'=>∃q x y,v=.ref q/\H q=none/\(∀xs,aA K H a xs->xs[i]?=some x)/\(∀ys,aA K H b ys->ys[i]?=some y)/\H'=upd H q (.tup [x,y]),
  λi H=>∃xs ys,aA K H a xs/\aA K H b ys/\(xs.length<=i\/ys.length<=i)⟩
def Tz(z TI TO i1 i2 l1 l2:Addr)(i:Nat)(h:Heap):Prop:=IsZip h z TI TO .none/\IsPair h TI (.ref i1) (.ref i2)/\(∃a b,IsPair h TO a b)/\h.IsListIter i1 l1 i/\h.IsListIter i2 l2 i
theorem yH{h:Heap}{z TI TO i1 i2 l1 l2:Addr}{i:Nat}{xs ys:Array Value}(f:Zf z TI TO i1 i2)(t:Tz z TI TO i1 i2 l1 l2 i h)(p1:PlainL h l1 xs)(p2:PlainL h l2 ys):ZipApart z TI TO i1 i2 l1 l2:=by
 obtain⟨t1,t2,⟨a,b,t3⟩,⟨o4,t4,c4,_⟩,⟨o5,t5,c5,_⟩⟩:=t;have ne:∀{l:Addr}{its:Array Value},PlainL h l its->l≠z/\l≠TO/\l≠i1/\l≠i2:=λ{l its} p=>by
  obtain⟨o,n,e,c,_⟩:=p;refine⟨λq=>?_,λq=>?_,λq=>?_,λq=>?_⟩
  ·rw[q,t1]at e;cases e;exact absurd (Value.type.inj c) (by decide)
  ·rw[q,t3]at e;cases e;exact absurd (Value.type.inj c) (by decide)
  ·rw[q,t4]at e;cases e;rw[c4]at c;exact absurd (Value.type.inj c) (by decide)
  ·rw[q,t5]at e;cases e;rw[c5]at c;exact absurd (Value.type.inj c) (by decide)
 obtain⟨a1,a2,a3,a4⟩:=ne p1;obtain⟨b1,b2,b3,b4⟩:=ne p2;exact { TIz:=f.TIz,TOz:=f.TOz,i1z:=f.i1z,i2z:=f.i2z,TITO:=f.TITO,TIi1:=f.TIi1,TIi2:=f.TIi2,TOi1:=f.TOi1,TOi2:=f.TOi2,i12:=f.i12,l1z:=a1,l1TO:=a2,l1i1:=a3,l1i2:=a4,l2z:=b1,l2TO:=b2,l2i1:=b3,l2i2:=b4 }
theorem EI{P:Program}{w:World}{K:Wf}{elts:List Expr}{x1}{pos:Pos}{z TI TO i1 i2:Addr}(l1 l2:Addr)(f:Zf z TI TO i1 i2):Turn P w K (.Tuple elts x1 pos) (X6 K l1 l2) [z,TI,TO,i1,i2] z (Tz z TI TO i1 i2 l1 l2) where
 mem:=by simp
 obj:=λi h st b hb=>by
  obtain⟨t1,t2,⟨a,b',t3⟩,⟨o4,t4,c4,d4⟩,⟨o5,t5,c5,d5⟩⟩:=st;simp only[List.mem_cons,List.not_mem_nil,or_false]at hb;rcases hb with rfl|rfl|rfl|rfl|rfl
  ·exact⟨_,t1,λv q=>by cases q⟩
  ·exact⟨_,t2,λv q=>by cases q⟩
  ·exact⟨_,t3,λv q=>by cases q⟩
  ·exact⟨_,t4,λv q=>by rw[d4]at q;cases q⟩
  ·exact⟨_,t5,λv q=>by rw[d5]at q;cases q⟩
 keep:=λi h h' st k=>by
  obtain⟨t1,t2,⟨a,b',t3⟩,t4,t5⟩:=st;exact⟨k z (by simp) _ t1,k TI (by simp) _ t2,⟨a,b',k TO (by simp) _ t3⟩,t4.at λo e=>k i1 (by simp) o e,t5.at λo e=>k i2 (by simp) o e⟩
 item:=by
  intro X hP hw hK hc i pins s σ H E I hf st hg;subst hP hw hK;obtain⟨xs,ys,x,y,q1,q2,hx,hy⟩:=hg;obtain⟨its1,rv1,p1,_⟩:=I.list q1;obtain⟨its2,rv2,p2,_⟩:=I.list q2;obtain⟨u,hu,ru⟩:=rv1.get hx;obtain⟨v,hv,rv⟩:=rv2.get hy;have D:=yH f st p1 p2;obtain⟨t1,t2,⟨a,b',t3⟩,t4,t5⟩:=id st;have lt:∀b∈[z,TI,TO,i1,i2],b<s.heap.objs.size:=λb hb=>by
   simp only[List.mem_cons,List.not_mem_nil,or_false]at hb;rcases hb with rfl|rfl|rfl|rfl|rfl
   ·exact cY t1
   ·exact cY t2
   ·exact cY t3
   ·obtain⟨_,e,_⟩:=t4;exact cY e
   ·obtain⟨_,e,_⟩:=t5;exact cY e
  refine wpAny_pyNext_zip_item D t1 t2 t3 t4 t5 p1.isList p2.isList (x:=u) (y:=v) (by simpa using hu) (by simpa using hv) λh' z' TO' i1' i2' pr sz kp=>⟨.ref s.heap.objs.size,rfl,?_⟩;refine wpAny_letOwnedTupleGo_zip z' λh'' z'' sb=>?_;have hTI:IsPair h' TI (.ref i1) (.ref i2):=kp _ _ f.TIz f.TITO f.TIi1 f.TIi2 t2;have nz:s.heap.objs.size≠z:=Nat.ne_of_gt (lt z (by simp));have kk:∀b o,b∉[z,TI,TO,i1,i2]->s.heap.get? b=some o->h''.get? b=some o:=λb o nb e=>by
   simp only[List.mem_cons,List.not_mem_nil,or_false,not_or]at nb;exact(sb.2 b nb.1).trans (kp b o nb.1 nb.2.2.1 nb.2.2.2.1 nb.2.2.2.2 e)
  have new:IsTup h'' s.heap.objs.size #[u,v]:=⟨_,(sb.2 _ nz).trans pr,rfl,0,rfl⟩
  refine⟨.ref s.heap.objs.size,_,I.CQ (q:=s.heap.objs.size) (xs:=[x,y]) (t':=s.toks) kk hf (bw _) ⟨by rw[sizeLine_eq];exact(by decide:(2:Nat)<=16777216),[u,v],.cons ru (.cons rv .nil),new⟩,rfl,⟨_,x,y,rfl,I.aW.fresh (bw _),λzs hz=>by rw[I.fi hz q1];exact hx,λzs hz=>by rw[I.fi hz q2];exact hy,rfl⟩,?_,λb hb=>?_⟩
  ·exact⟨z'',(sb.2 _ f.TIz).trans hTI,⟨u,v,(sb.2 _ f.TOz).trans TO'⟩,i1'.at λo e=>(sb.2 _ f.i1z).trans e,i2'.at λo e=>(sb.2 _ f.i2z).trans e⟩
  ·rw[ae (gI (lt b hb))];exact(hf b hb).1
 done:=by
  intro X hP hw hK hc i pins s σ H E I hf st hg;subst hP hw hK;obtain⟨xs,ys,q1,q2,hx⟩:=hg;obtain⟨its1,rv1,p1,_⟩:=I.list q1;obtain⟨its2,rv2,p2,_⟩:=I.list q2;have D:=yH f st p1 p2;obtain⟨t1,t2,⟨a,b',t3⟩,t4,t5⟩:=id st;have e1:=rv1.length;have e2:=rv2.length;refine wpAny_pyNext_zip_end (I.ok.hd hc) D t1 t2 t3 t4 t5 p1.isList p2.isList ?_ λh' kp=>⟨rfl,I.AJ (t':=s.toks) (λb o nb e=>?_) hf⟩
  ·rcases hx with z|z
   ·exact .inl (by simp;omega)
   ·exact .inr (by simp;omega)
  ·simp only[List.mem_cons,List.not_mem_nil,or_false,not_or]at nb;exact kp b o nb.1 nb.2.2.1 nb.2.2.2.1 nb.2.2.2.2 e
 self:=λ_ _ _ _ _ st h=>wpAny_pyIter_zip st.1 h
theorem zf(n:Nat):Zf (n+4) (n+2) (n+3) n (n+1):=by
 refine⟨?_,?_,?_,?_,?_,?_,?_,?_,?_,?_⟩<;>intro h<;>simp at h<;>omega
section
variable{X:Cx}
def Vl(K:Wf)(ta:TA):TI:=λσ H R=>ta σ H λvs H1=>∃a b xs ys,vs=[.ref a,.ref b]/\aA K H1 a xs/\aA K H1 b ys/\R (X6 K a b) H1
theorem QF{elts:List Expr}{x1}{tp:Pos}{a b:Expr}{ta:TA}{p pos:Pos}(hg:Gl X "zip")(hm:X.mg "zip" = none)(ha:PA X [a,b] ta)(hs:starEach [a,b] X.env=[(false,eval a X.env),(false,eval b X.env)]:=by rfl)(hs2:starEach [b] X.env=[(false,eval b X.env)]:=by rfl):
  PI X (.Tuple elts x1 tp) (.Call (.Name "zip" p) [a,b] [] pos) (Vl X.K ta):=by
 intro pins s σ H R I h;refine Call_ (gq I hg hm boot_zip (PyProof.Rows.callWith_type1 (bA (ha pos pins s σ H _ I h) λus s1 ⟨vs,H1,I1,r1,q1⟩=>?_) (by rw[hs,hs2]) (by rw[hs2];rfl)));obtain⟨l1,l2,xs,ys,e,h1,h2,q⟩:=q1;subst e;cases r1 with
 |cons r rr=>
  cases rr with
  |cons r' rr=>
   cases rr;cases r;cases r';obtain⟨its1,rv1,p1,_⟩:=I1.list h1;obtain⟨its2,rv2,p2,_⟩:=I1.list h2;refine call_zip_2 p1.isList p2.isList λh' z TI TO j1 j2 sz kp=>?_;have I2:=I1.kept (h':=h') (t':=s1.toks) kp;refine wpAny_pyIter_zip z ?_;refine⟨_,_,_,_,H1,rfl,I2,EI l1 l2 (zf s1.heap.objs.size),⟨z,TI,⟨_,_,TO⟩,j1,j2⟩,λb hb=>?_,q⟩;have lb:s1.heap.objs.size<=b:=by
    simp only[List.mem_cons,List.not_mem_nil,or_false]at hb;rcases hb with rfl|rfl|rfl|rfl|rfl
    ·exact SA _ 4
    ·exact SA _ 2
    ·exact SA _ 3
    ·exact bw _
    ·exact SA _ 1
   exact I1.qd lb (I1.aW.fresh lb)
end
def Xi(K:Wf)(a:Addr):It:=
 ⟨λi H=>∃ xs x, aA K H a xs /\ xs[i]? = some x,
  λi H v H'=>∃q x,v=.ref q/\H q=none/\(∀xs,aA K H a xs->xs[i]?=some x)/\H'=upd H q (.tup [.int i,x]),
  λi H=>∃xs,aA K H a xs/\xs.length<=i⟩
def Te(e it l:Addr)(i:Nat)(h:Heap):Prop:=(∃old,IsEnum h e it i old)/\h.IsListIter it l i
theorem DR{P:Program}{w:World}{K:Wf}{elts:List Expr}{x1}{pos:Pos}{e it:Addr}(l:Addr)(f:e≠it):Turn P w K (.Tuple elts x1 pos) (Xi K l) [e,it] e (Te e it l) where
 mem:=by simp
 obj:=λi h st b hb=>by
  obtain⟨⟨old,t1⟩,⟨o4,t4,c4,d4⟩⟩:=st;simp only[List.mem_cons,List.not_mem_nil,or_false]at hb;rcases hb with rfl|rfl
  ·exact⟨_,t1,λv q=>by cases q⟩
  ·exact⟨_,t4,λv q=>by rw[d4]at q;cases q⟩
 keep:=λi h h' st k=>by
  obtain⟨⟨old,t1⟩,t4⟩:=st;exact⟨⟨old,k e (by simp) _ t1⟩,t4.at λo q=>k it (by simp) o q⟩
 item:=by
  intro X hP hw hK hc i pins s σ H E I hf st hg;subst hP hw hK;obtain⟨xs,x,q1,hx⟩:=hg;obtain⟨its1,rv1,p1,_⟩:=I.list q1;obtain⟨u,hu,ru⟩:=rv1.get hx;obtain⟨⟨old,t1⟩,t4⟩:=id st;have lt:∀b∈[e,it],b<s.heap.objs.size:=λb hb=>by
   simp only[List.mem_cons,List.not_mem_nil,or_false]at hb;rcases hb with rfl|rfl
   ·exact cY t1
   ·obtain⟨_,q,_⟩:=t4;exact cY q
  refine wpAny_pyNext_enum_item t1 t4 p1.isList (x:=u) (by simpa using hu) f λh' z' i1' pr sz kp=>⟨.ref s.heap.objs.size,rfl,?_⟩;refine wpAny_letOwnedTupleGo_enum z' λh'' z'' sb=>?_;have nz:s.heap.objs.size≠e:=Nat.ne_of_gt (lt e (by simp));have kk:∀b o,b∉[e,it]->s.heap.get? b=some o->h''.get? b=some o:=λb o nb q=>by
   simp only[List.mem_cons,List.not_mem_nil,or_false,not_or]at nb;exact(sb.2 b nb.1).trans (kp b o nb.1 nb.2 q)
  have new:IsTup h'' s.heap.objs.size #[.int i s.toks,u]:=⟨_,(sb.2 _ nz).trans pr,rfl,0,rfl⟩
  refine⟨.ref s.heap.objs.size,_,I.CQ (q:=s.heap.objs.size) (xs:=[.int i,x]) (t':=s.toks+1) kk hf (bw _) ⟨by rw[sizeLine_eq];exact(by decide:(2:Nat)<=16777216),[_,u],.cons ⟨_,rfl⟩ (.cons ru .nil),new⟩,rfl,⟨_,x,rfl,I.aW.fresh (bw _),λzs hz=>by rw[I.fi hz q1];exact hx,rfl⟩,?_,λb hb=>?_⟩
  ·exact ⟨⟨_, by have : ((i + 1 : Nat) : Int) = (i : Int) + 1 := by push_cast; rfl
                 rw[this];exact z''⟩,i1'.at λo q=>(sb.2 _ (Ne.symm f)).trans q⟩
  ·rw[ae (gI (lt b hb))];exact(hf b hb).1
 done:=by
  intro X hP hw hK hc i pins s σ H E I hf st hg;subst hP hw hK;obtain⟨xs,q1,hx⟩:=hg;obtain⟨its1,rv1,p1,_⟩:=I.list q1;obtain⟨⟨old,t1⟩,t4⟩:=id st;have e1:=rv1.length;refine wpAny_pyNext_enum_end (I.ok.hd hc) t1 t4 p1.isList (by simp;omega) λh' kp=>⟨rfl,I.AJ (t':=s.toks) (λb o nb q=>?_) hf⟩;simp only[List.mem_cons,List.not_mem_nil,or_false,not_or]at nb;exact kp b o nb.2 q
 self:=λ_ _ _ _ _ st h=>by
  obtain⟨⟨old,t1⟩,_⟩:=st;exact wpAny_pyIter_enum t1 h
section
variable{X:Cx}
theorem boot_enumerate:bootBuiltins "enumerate" = some (.type "enumerate"):=by decide +kernel
def Nz(K:Wf)(ta:TA):TI:=λσ H R=>ta σ H λvs H1=>∃a xs,vs=[.ref a]/\aA K H1 a xs/\R (Xi K a) H1
theorem AN{K:Wf}(eK:X.K=K){elts:List Expr}{x1}{tp:Pos}{a:Expr}{ta:TA}{p pos:Pos}(hg:Gl X "enumerate")(hm:X.mg "enumerate" = none)(ha:PA X [a] ta)(hs:starEach [a] X.env=[(false,eval a X.env)]:=by rfl):
  PI X (.Tuple elts x1 tp) (.Call (.Name "enumerate" p) [a] [] pos) (Nz K ta):=by
 subst eK;intro pins s σ H R I h;refine Call_ (gq I hg hm boot_enumerate (PyProof.Rows.callWith_type1 (bA (ha pos pins s σ H _ I h) λus s1 ⟨vs,H1,I1,r1,q1⟩=>?_) (by rw[hs];rfl) (by rfl)));obtain⟨l1,xs,e,h1,q⟩:=q1;subst e;cases r1 with
 |cons r rr=>
  cases rr;cases r;obtain⟨its1,rv1,p1,_⟩:=I1.list h1;refine call_enumerate_list p1.isList λh' z j1 sz kp=>?_;have I2:=I1.kept (h':=h') (t':=s1.toks) kp;refine wpAny_pyIter_enum z ?_;refine⟨_,_,_,_,H1,rfl,I2,DR l1 (Nat.succ_ne_self _),⟨⟨_,z⟩,j1⟩,λb hb=>?_,q⟩;have lb:s1.heap.objs.size<=b:=by
   simp only[List.mem_cons,List.not_mem_nil,or_false]at hb;rcases hb with rfl|rfl
   ·exact SA _ 1
   ·exact bw _
  exact I1.qd lb (I1.aW.fresh lb)
end
def Fs(K:Wf)(g:TG)(tb:TS)(D:Ends)(σ:St):List V->Hp->Prop:=λvs H1=>∃a xs,vs=[.ref a]/\aA K H1 a xs/\lL g tb D σ (Xi K a) H1
section
variable{K:Wf}{te:TE}{ta:TA}{g:TG}{tb:TS}{D:Ends}{σ:St}{H:Hp}
theorem Q4:jD (Nz K ta) g tb D σ H=ta σ H (Fs K g tb D σ):=rfl
theorem Fs.of{a:Addr}{xs:List V}(Pv:Nat->St->Hp->Prop)(h0:Pv 0 σ H)(hl:∀i σ H,i<=xs.length->Pv i σ H->aA K H a xs)
  (hs:∀i x σ H q,xs[i]?=some x->Pv i σ H->H q=none->g (.ref q) σ (upd H q (.tup [.int i,x])) λσ2 H2=>tb { D with nx:=Pv (i+1),ct:=Pv (i+1),bk:=D.nx } σ2 H2) (hd:∀σ H,Pv xs.length σ H->D.nx σ H):Fs K g tb D σ [.ref a] H:=by
 refine⟨a,xs,rfl,hl 0 _ _ (gH _) h0,λi m σ H=>m=xs.length - i/\i<=xs.length/\Pv i σ H,⟨xs.length,by simp,Nat.zero_le _,h0⟩,?_⟩;rintro i m σ H ⟨rfl,hi,p⟩;have q:=hl i σ H hi p;by_cases hlt:i<xs.length
 ·refine .inr ⟨⟨xs,xs[i],q,by simp[hlt]⟩,Pv (i+1),λσ' H' p'=>⟨xs.length - (i+1),by omega,rfl,hlt,p'⟩,λx H' y=>?_⟩;obtain⟨b,u,rfl,nb,y,rfl⟩:=y;exact hs i u σ H b (y xs q) p nb
 ·have e:i=xs.length:=by omega
  subst e;exact .inl ⟨⟨xs,q,bw _⟩,hd σ H p⟩
end
theorem Inv.freeze{X:Cx}{pins:Lo}{σ:St}{H:Hp}{s:Shared}{a:Addr}{kvs:List (Key×V)}(I:Inv X pins σ H s)(e:H a=some (.dK kvs)):
  ∃(o:Obj) (vs:List (Key×Value)) (ep:Nat),s.heap.get? a=some o/\(a == sysModules)=false/\KV kvs vs/\KdkAt (bc X.prog X.w) o vs ep/\Inv X pins σ (upd H a (.fY o (.dK kvs))) s:=by
 obtain⟨z,hS,vs,rel,dd⟩:=mM I.aW e;obtain⟨ep,o,es,ho,r⟩:=dd.dictAt;refine⟨o,vs,ep,ho,hS,rel,⟨es,r⟩,?_⟩;have ne:∀{b:Addr}{u:HO},H b=some u->u≠.dK kvs->b≠a:=λ{b u} q n z=>by rw[z,e]at q;cases q;exact n rfl
 refine I.step (h':=s.heap) (g':=s.gens) (d':=s.drawn) (t':=s.toks) (ch:=[]) (λ_ z=>nomatch z) (λb o _ _ _ q _=>q) (λb o _ _ _ q _=>⟨o.slots,q⟩) (λb o _ _ n=>?_) (λb o _ q=>⟨o,q⟩)
  (λb xs q=>by rw[ae (ne q (λz=>nomatch z))];exact q) (λb o u q=>by rw[ae (ne q (λz=>nomatch z))];exact q) (λb ps q=>⟨#[],by rw[ae (ne q (λz=>nomatch z)),q];simp⟩) (λm hm=>hm) (λb u q=>?_) I.bare
 ·rw[ae (λz=>by rw[z,e]at n;cases n)];exact n
 ·by_cases z:b=a
  ·subst z;rw[aD]at q;cases q;exact⟨ho,I.aW b _ e⟩
  ·rw[ae z]at q;refine(I.aW b u q).jf (λc v _ r=>r) (λc r=>?_) λc xs r=>?_
   ·rw[ae (ne r (λz=>nomatch z))];exact r
   ·rw[ae (ne r (λz=>nomatch z))];exact r
def VJ(a:Addr)(o:Obj)(kvs:List (Key×V)):It:=
 ⟨λi H=>H a = some (.fY o (.dK kvs)) /\ ∃ p, kvs[i]? = some p,
  λi H v H'=>H'=H/\∃p,kvs[i]?=some p/\v=kV p.1,
  λi H=>H a=some (.fY o (.dK kvs))/\kvs.length<=i⟩
theorem KV.len{kvs:List (Key×V)}{vs:List (Key×Value)}(h:KV kvs vs):kvs.length=vs.length:=Paired.length h
theorem DL{P:Program}{w:World}{K:Wf}{tg:Expr}{a it:Addr}{o:Obj}{kvs:List (Key×V)}{vs:List (Key×Value)}{ep:Nat}(rel:KV kvs vs)(kd:KdkAt (bc P w) o vs ep):
  Turn P w K tg (VJ a o kvs) [it] it (λi h=>h.IsKeyIter it a i vs.length ep) where
 mem:=by simp
 obj:=λi h st b hb=>by
  have e:b=it:=by simpa using hb
  subst e;obtain⟨o,e,c,d⟩:=st;exact⟨o,e,λv z=>by rw[d]at z;cases z⟩
 keep:=λi h h' st k=>st.at λo e=>k it (by simp) o e
 item:=by
  intro X hP hw hK hc i pins s σ H E I hf st hg;subst hP hw hK;obtain⟨hH,p,hp⟩:=hg;obtain⟨ho,_⟩:=(show bg X.prog X.w H s.heap a (.fY o (.dK kvs)) from I.aW a _ hH)
  have hl:=rel.len;have hil:=(hV.mp hp).1;have hv:vs[i]?=some vs[i]:=lz (by omega);have hk:vs[i].1=p.1:=by
   have e1:(kvs.map (·.1))[i]?=some p.1:=by rw[jA,hp];rfl
   rw[AX rel,jA,hv]at e1;exact Option.some.inj e1
  obtain⟨f0,f1,f2,f3,f4,f5⟩:=hf it (by simp);refine wpAny_pyNext_dict_item st (KdkAt.dictAt kd ho) (k:=vs[i].1) (v:=vs[i].2) hv λkey h' hkey st' sb=>?_;have I1:Inv X pins σ H { s with heap:=h' }:=I.turned (t':=s.toks) (λb o hb e=>(sb.2 b hb).trans e) f0 f1 f3 f4 f5;obtain⟨oi,e,c,d⟩:=id st';rw[hk]at hkey;have rk:RelV (kV p.1) key:=by
   rcases lN hkey with ⟨n,t,e1,rfl⟩|⟨x,t,e1,rfl⟩
   ·rw[e1];exact⟨t,rfl⟩
   ·rw[e1];exact⟨t,rfl⟩
  exact⟨key,rfl,xV (s:={ s with heap:=h' }) e c d (by decide) ⟨kV p.1,H,I1,rk,⟨rfl,p,hp,rfl⟩,st',λb hb=>(hf b hb).1⟩⟩
 done:=by
  intro X hP hw hK hc i pins s σ H E I hf st hg;subst hP hw hK;obtain⟨hH,hi⟩:=hg;obtain⟨ho,_⟩:=(show bg X.prog X.w H s.heap a (.fY o (.dK kvs)) from I.aW a _ hH)
  obtain⟨f0,f1,f2,f3,f4,f5⟩:=hf it (by simp);have hl:=rel.len;exact wpAny_pyNext_dict_end (I.ok.hd hc) st (KdkAt.dictAt kd ho) (by simp;omega) λh' eb=>⟨rfl,I.turned (t':=s.toks) (λb o hb e=>eb b o hb e) f0 f1 f3 f4 f5⟩
 self:=λ_ _ _ _ _ st h=>wpAny_pyIter_keyiter st h
section
variable{X:Cx}
def E7(te:TE):TI:=λσ H R=>te σ H λx H1=>∃a kvs,x=.ref a/\H1 a=some (.dK kvs)/\∀o,R (VJ a o kvs) (upd H1 a (.fY o (.dK kvs)))
theorem wx(hl:PE X l tl):PI X tg l (E7 tl):=by
 intro pins s σ H R I h;refine bA (hl pins s σ H _ I h) λv s1 ⟨x,H1,I1,r1,q1⟩=>?_;obtain⟨a,kvs,e,hq,q⟩:=q1;subst e;cases r1;obtain⟨o,vs,ep,ho,hS,rel,kd,I2⟩:=I1.freeze hq;refine wpAny_pyIter_dict hS (KdkAt.dictAt kd ho) ?_;refine⟨s1.heap.objs.size,[s1.heap.objs.size],_,_,_,rfl,I2.kept (t':=s1.toks) λb o e=>d9 _ e,DL rel kd,⟨_,iy _ rfl,rfl,rfl⟩,λb hb=>?_,q o⟩;have e:b=s1.heap.objs.size:=by simpa using hb
 subst e;exact I2.qd (bw _) (I2.aW.fresh (bw _))
end
def HE(g:TG)(tb:TS)(D:Ends)(σ:St):VK:=λx H1=>∃a kvs,x=.ref a/\H1 a=some (.dK kvs)/\∀o,lL g tb D σ (VJ a o kvs) (upd H1 a (.fY o (.dK kvs)))
section
variable{te:TE}{g:TG}{tb:TS}{D:Ends}{σ:St}{H:Hp}
theorem Rn:jD (E7 te) g tb D σ H=te σ H (HE g tb D σ):=rfl
theorem HE.of{a:Addr}{kvs:List (Key×V)}(hd:H a=some (.dK kvs))(Pv:Obj->Nat->St->Hp->Prop)(h0:∀o,Pv o 0 σ (upd H a (.fY o (.dK kvs))))(hl:∀o i σ H,i<=kvs.length->Pv o i σ H->H a=some (.fY o (.dK kvs)))
  (hs:∀o i p σ H,kvs[i]?=some p->Pv o i σ H->g (kV p.1) σ H λσ2 H2=>tb { D with nx:=Pv o (i+1),ct:=Pv o (i+1),bk:=D.nx } σ2 H2) (he:∀o σ H,Pv o kvs.length σ H->D.nx σ H):HE g tb D σ (.ref a) H:=by
 refine⟨a,kvs,rfl,hd,λo=>⟨λi m σ H=>m=kvs.length - i/\i<=kvs.length/\Pv o i σ H,⟨kvs.length,by simp,Nat.zero_le _,h0 o⟩,?_⟩⟩;rintro i m σ H ⟨rfl,hi,p⟩;have q:=hl o i σ H hi p;by_cases hlt:i<kvs.length
 ·refine .inr ⟨⟨q,kvs[i],by simp[hlt]⟩,Pv o (i+1),λσ' H' p'=>⟨kvs.length - (i+1),by omega,rfl,hlt,p'⟩,λx H' y=>?_⟩;obtain⟨rfl,u,hu,rfl⟩:=y;exact hs o i u σ _ hu p
 ·have e:i=kvs.length:=by omega
  subst e;exact .inl ⟨⟨q,bw _⟩,he o σ H p⟩
end
end L2
namespace L2
open PySem
theorem lR(t:SetTable)(n:Nat):(t.orStandIn n).led=t.led:=by
 unfold SetTable.orStandIn;split<;>rfl
theorem z8(t:SetTable)(es:Array (Int×Value))(h:Int)(x:Value):(layNew t es h x).2.1.led=t.led:=by
 unfold layNew;split
 ·rename_i slot wd _;exact(lR (t.put slot).1 _)
 ·rfl
theorem Gg(h:SetTable.laid m f v b c hs=some (t',o)):t'.led=b/\t'.plain=c:=by
 unfold SetTable.laid at h;cases hl:SetTable.layClean m hs with
 |none=>rw[hl]at h;cases h
 |some ow=>rw[hl]at h;cases h;exact⟨rfl,rfl⟩
theorem CV(t:SetTable)(es:Array (Int×Value))(n:Nat):(relayAll t es n).2.1.led=t.led/\((relayAll t es n).2.1.plain=true->t.plain=true):=by
 unfold relayAll;split
 ·rename_i t' o hr;have z:=Gg hr;dsimp only;split
  ·exact⟨z.1,λq=>z.2▸q⟩
  ·exact⟨rfl,λq=>(nomatch q)⟩
 ·exact⟨rfl,λq=>(nomatch q)⟩
def mw(w:World):Bool:=w.params.followText "set-order"
def txtOf:Value->Str
 |.str x _=>x
 |_=>Str.empty
def gM(w:World)(h:Heap)(a:Addr)(L:List Str):Prop:=
 ∃(es:Array (Int×Value)) (ep:Nat) (t:SetTable),h.get? a=some { cls:=.type "set", dict:=none,data:=.set es ep t,slots:=#[] }/\
  (∀e∈es.toList,∃y k,e=(hashStr w y,Value.str y k))/\es.toList.map (λe=>txtOf e.2)=L/\es.size<scanBound/\t.fits es.size=true/\t.led = !mw w/\(t.plain=true->L=[])
section
variable{prog:Program}{w:World}{A:Around}{E:Vs}{s:Shared}{a:Addr}{L:List Str}
theorem kF(h:∀e∈es,∃y k,e=(hashStr w y,Value.str y k)):ElemsOf (PySem.strKind prog w) es:=λe he=>by
 obtain⟨y,k,rfl⟩:=h e he;exact⟨⟨y,by simp[PySem.strKind,Value.isStrOf],rfl⟩,rfl⟩
theorem jK{es:List (Int×Value)}(h:∀e∈es,∃y k,e=(hashStr w y,Value.str y k))(x:Str):x∈es.map (λe=>txtOf e.2)↔∃e∈es,(PySem.strKind prog w).is x e.2=true:=by
 constructor
 ·intro hx;obtain⟨e,he,rfl⟩:=bI.mp hx;obtain⟨y,k,rfl⟩:=h e he;exact⟨_,he,by simp[PySem.strKind,Value.isStrOf,txtOf]⟩
 ·rintro⟨e,he,hi⟩;obtain⟨y,k,rfl⟩:=h e he;obtain⟨t,z⟩:=Value.isStrOf_shape (x:=x) (v:=Value.str y k) hi;cases z;exact bI.mpr ⟨_,he,rfl⟩
theorem Fp(S:gM w s.heap a L)(hz:L.length+1<scanBound)
  (h:∀h' L' b,Heap.SameBut a s.heap h'->gM w h' a L'->L'.Perm (if x∈L then L else L++[x])->Q b { s with heap:=h' }):
  wpAny (model prog w) A (setAddHashed a (.str x k) (hashStr w x)) Q E s:=by
 obtain⟨es,ep,t,ho,he,hL,hb,hf,hl,hp⟩:=id S;have hel:=kF (prog:=prog) he;have hx:(PySem.strKind prog w).is x (.str x k)=true:=by simp[PySem.strKind,Value.isStrOf]
 have hn:es.size=L.length:=by rw[<-hL,aI,D9]
 unfold setAddHashed setAddHashedIn;refine D_ (aC (MI ho rfl hf ?_));dsimp only;rw[byScan_of (knd:=PySem.strKind prog w) rfl hb hel,if_pos rfl];unfold setAddByScan;refine aC (aC (Oh (aC (wpAny_setScan_of (knd:=PySem.strKind prog w) (k:=x) hx ho rfl hf hel ?_))));have gw:∀(b:Bool) {s1:Shared}{Q':Unit->Shared->Prop},Q' () s1->wpAny (model prog w) A (match b with | true=>rule "set.scan.the-table-gave-way" |false=>pure ()) Q' E s1:=λb s1 Q' q=>by
  cases b
  ·exact bB q
  ·exact Oh q
 cases hr:List.findIdx? (λe=>(PySem.strKind prog w).is x e.2) es.toList with
 |some j=>
  dsimp only;have hm:x∈L:=by
   obtain⟨hj,pj,_⟩:=List.findIdx?_eq_some_iff_getElem.mp hr;rw[<-hL];exact(jK he x).mpr ⟨_,Om hj,pj⟩
  exact bB (bB (h s.heap L _ (Heap.SameBut.refl a s.heap) S (by rw[if_pos hm])))
 |none=>
  dsimp only;have hm:x∉L:=λhm=>by
   rw[<-hL]at hm;obtain⟨e,m,z⟩:=(jK (prog:=prog) he x).mp hm;have:=List.findIdx?_eq_none_iff.mp hr e m;rw[z]at this;cases this
  have lp:=layNew_perm t es (hashStr w x) (.str x k);have lf:=layNew_fits t es (hashStr w x) (.str x k);have ll:=z8 t es (hashStr w x) (.str x k);generalize layNew t es (hashStr w x) (.str x k)=R at lp lf ll ⊢;obtain⟨e1,t1,wd,gv⟩:=R;dsimp only at lp lf ll ⊢;rw[Array.toList_push]at lp;refine aC (gw _ ?_);have he1:∀e∈e1.toList,∃y k,e=(hashStr w y,Value.str y k):=λe m=>by
   rcases cy.mp (lp.mem_iff.mp m) with m|m
   ·exact he e m
   ·exact⟨x,k,cD.mp m⟩
  have hp1:(e1.toList.map (λe=>txtOf e.2)).Perm (if x∈L then L else L++[x]):=by
   rw[if_neg hm,<-hL];have z:=lp.map (λe=>txtOf e.2);rw[bP]at z;exact z
  have hs1:e1.size=L.length+1:=by
   rw[<-D9,lp.length_eq,eY,D9,hn];rfl
  have hb1:e1.size<scanBound:=by rw[hs1];exact hz
  have tail:∀t2:SetTable,t2.fits e1.size=true->t2.led=(!mw w)->t2.plain=false->
    wpAny (model prog w) A (do
     storeSet a e1 t2
     if (!wd&&t2.tooFull)=true then do
       (match (relayAll t2 e1 (SetTable.grown e1.size)).2.2 with | true=>rule "set.scan.the-table-gave-way" |false=>pure ())
       storeSet a (relayAll t2 e1 (SetTable.grown e1.size)).1 (relayAll t2 e1 (SetTable.grown e1.size)).2.1
       pure (some true)
      else pure (some true)) (λ(r:Option Bool) s'=>wpAny (model prog w) A (match r with | some b=>pure b | none=>setAddHashedIn a (.str x k) (hashStr w x) 99999) Q E s') E s:=by
   intro t2 f2 l2 p2;have u1:=(SetOf_store (knd:=PySem.strKind prog w) (S':=λy=>decide (y∈e1.toList.map (λe=>txtOf e.2))) (h:=s.heap) ho ⟨rfl,rfl,rfl⟩ rfl (kF he1) (λy=>by rw[decide_eq_true_eq];exact jK he1 y) hb1 f2).1;have sb1:=Heap.SameBut.update s.heap a (Obj.putSet e1 t2);refine aC (wpAny_storeSet_of ho rfl ?_ (fits_of_scanBound hb1));have S1:gM w (s.heap.update a (Obj.putSet e1 t2)) a (e1.toList.map (λe=>txtOf e.2)):=⟨e1,ep+1,t2,u1,he1,rfl,hb1,f2,l2,λq=>by rw[p2]at q;cases q⟩
   split
   ·have rp:=relayAll_perm t2 e1 (SetTable.grown e1.size);have rf:=relayAll_fits t2 e1 (SetTable.grown e1.size);have rl:=CV t2 e1 (SetTable.grown e1.size);generalize relayAll t2 e1 (SetTable.grown e1.size)=R at rp rf rl ⊢;obtain⟨e2,t3,g2⟩:=R;dsimp only at rp rf rl ⊢;have he2:∀e∈e2.toList,∃y k,e=(hashStr w y,Value.str y k):=λe m=>he1 e (rp.mem_iff.mp m);have hs2:e2.size=e1.size:=by rw[<-D9,rp.length_eq,D9]
    have hb2:e2.size<scanBound:=by rw[hs2];exact hb1
    refine aC (gw _ ?_);refine aC (wpAny_storeSet_of u1 rfl ?_ (fits_of_scanBound hb2));have u2:=(SetOf_store (knd:=PySem.strKind prog w) (S':=λy=>decide (y∈e2.toList.map (λe=>txtOf e.2))) u1 ⟨rfl,rfl,rfl⟩ rfl (kF he2) (λy=>by rw[decide_eq_true_eq];exact jK he2 y) hb2 rf).1;refine bB (bB (h _ (e2.toList.map (λe=>txtOf e.2)) _ (sb1.trans (Heap.SameBut.update _ a _)) ⟨e2,_,t3,u2,he2,rfl,hb2,rf,rl.1.trans l2,λq=>?_⟩ ((rp.map _).trans hp1)));rw[rl.2 q]at p2;cases p2
   ·exact bB (bB (h _ _ _ sb1 S1 hp1))
  rw[hl]at ll;cases pl:t1.plain with
  |true=>
   rw[if_pos rfl];refine aC (wpAny_of_eq (hashByValue_scannable 8 rfl) ?_);exact tail { t1 with plain:=false } (SetTable.fits_plain_off lf) ll rfl
  |false=>
   rw[if_neg (by simp)];refine aC (bB ?_);exact tail t1 lf ll pl
end
end L2
namespace L2
open PySem
theorem jG:Slot "set_iterator" "__next__" "set_iterator.__next__" := .of (owner := "set_iterator") (n := "__next__") (by rw[typeLookup_type,builtinLookup_eq_fast];kernel_rfl) (by decide +kernel) (by decide +kernel) (by decide +kernel) (by first|exact .inl (by decide +kernel)|exact .inr (by decide +kernel)) (by rw[isSubtype_type];kernel_rfl)
theorem dw:entryFor table "set_iterator.__next__" = some Builtin.«set_iterator.__next__»:=entryFor_of_tree (by kernel_rfl)
theorem dQ(a:Value):argsOk "set_iterator.__next__" ⟨[a],[]⟩:=by unfold argsOk;kernel_rfl
theorem nQ:entryFor table "set.__iter__" = some Builtin.«frozenset.__iter__»:=entryFor_alias (id' := "frozenset.__iter__") (by kernel_rfl) rfl (by decide +kernel) (by kernel_rfl)
def D8(f:Value)(i:Nat)(a:Value)(n ep:Nat):Obj:={ cls:=.type "set_iterator", data:=.fields #[f,.int i 0,a,.int n 0,.int ep 0] }
section
variable{prog:Program}{w:World}{A:Around}{E:Vs}{s:Shared}{it a:Addr}{i n ep slot next:Nat}{es:Array (Int×Value)}{t:SetTable}{Q:Option Value->Shared->Prop}{x:Value}
theorem mB(ho:s.heap.get? it=some (D8 (.int slot 0) i (.ref a) n ep))(hs:s.heap.get? a=some { cls:=.type "set", dict:=none,data:=.set es ep t,slots:=#[] })(hf:t.fits es.size=true)(hn:es.size=n)
  (hx:∀(A:Around) (E:Vs) (Q':Option (Value×Nat)->Shared->Prop),Q' (some (x,next)) s->wpAny (model prog w) A (setNext a slot i ep) Q' E s)
  (hQ:∀h',h'.get? it=some (D8 (.int next 0) (i+1) (.ref a) n ep)->Heap.SameBut it s.heap h'->Q (some x) { s with heap:=h' }):wpAny (model prog w) A (pyNext (.ref it)) Q E s:=by
 have hT:s.TypeIs (.ref it) "set_iterator" := ⟨_,ho,rfl⟩
 unfold pyNext;refine aC (Rk (Uz (name:=s!"__next__") hT jG (NY jG hT dw ?_ (dQ _))));unfold Builtin.«set_iterator.__next__»;refine aC (bB (aC (wpAny_fieldsOf ho rfl ?_)));dsimp only;refine aC (Uo hs rfl hf ?_);rw[if_neg (by rw[hn];simp)];refine aC (hx _ _ _ ?_);dsimp only;have u1:(s.heap.update it (Obj.mapFields (·.setIfInBounds 0 (rawInt next)))).get? it=some (D8 (.int next 0) i (.ref a) n ep):=Ov (Obj.mapFields (·.setIfInBounds 0 (rawInt next))) ho rfl;refine aC (wpAny_setField ho rfl (by simp) (wpAny_bind (wpAny_setField (s:={ s with heap:=s.heap.update it (Obj.mapFields (·.setIfInBounds 0 (rawInt next))) }) u1 rfl (by simp) (wpAny_pure ⟨x,rfl,wpAny_pure (hQ _ ?_ ((Heap.SameBut.update ..).trans (Heap.SameBut.update ..)))⟩))));exact Ov (Obj.mapFields (·.setIfInBounds 1 (rawInt ((i:Int)+1)))) u1 rfl
theorem yf(hh:A.handled=none){h0:Heap}(hQ:∀h',Heap.ExtBut it h0 h'->Q none { s with heap:=h' }):
  wpAny (model prog w) A.in1 (do let e <-newExc (Value.type "StopIteration") [];raiseNew e) (λ(fin:PySem.Fin) s'=>∃v,fin=Fin.done (Flow.ret v)/\wpAny (model prog w) A (pure (some v)) Q E s')
  (λe s'=>wpAny (model prog w) A (do let b <-isInstance e (Value.type "StopIteration");if b=true then pure none else throw e) Q E s') { s with heap:=h0 }:=by
 refine aC ?_;simp only[newExc,newTuple];refine aC (Ld ?_ (by size_fits));refine aC (m:=firstArgMember _ _) (wpAny_of_eq (a:=Value.none) (by first|rfl|(simp only[firstArgMember];rfl)) (wpAny_newObj_type ?_ (by size_fits)));simp only[raiseNew];refine aC (wpAny_handled ?_);rw[show A.in1.handled=none from hh];refine aC (bB (wpAny_throw ?_));refine aC (wpAny_isInstance (T := "StopIteration") ⟨_,iy _ rfl,rfl⟩ isSubtype_stop ?_);rw[if_pos rfl];refine bB (hQ _ λb o hb e=>?_);exact d9 _ (d9 _ e)
theorem m9(hh:A.handled=none)(ho:s.heap.get? it=some (D8 (.int slot 0) i (.ref a) n ep))(hs:s.heap.get? a=some { cls:=.type "set", dict:=none,data:=.set es ep t,slots:=#[] })(hf:t.fits es.size=true)(hn:es.size=n)
  (hx:∀(A:Around) (E:Vs) (Q':Option (Value×Nat)->Shared->Prop),Q' none s->wpAny (model prog w) A (setNext a slot i ep) Q' E s)
  (hQ:∀h',Heap.ExtBut it s.heap h'->Q none { s with heap:=h' }):wpAny (model prog w) A (pyNext (.ref it)) Q E s:=by
 have hT:s.TypeIs (.ref it) "set_iterator" := ⟨_,ho,rfl⟩
 unfold pyNext;refine aC (Rk (Uz (name:=s!"__next__") hT jG (NY jG hT dw ?_ (dQ _))));unfold Builtin.«set_iterator.__next__»;refine aC (bB (aC (wpAny_fieldsOf ho rfl ?_)));dsimp only;refine aC (Uo hs rfl hf ?_);rw[if_neg (by rw[hn];simp)];refine aC (hx _ _ _ ?_);dsimp only;refine aC (wpAny_setField ho rfl (by simp) ?_);exact yf hh λh' e=>hQ h' λb o hb z=>e b o hb (((Heap.SameBut.update s.heap it _).2 b hb).trans z)
theorem zR{p:Addr}{ps:List Nat}{j:Nat}{hv:Int}(ho:s.heap.get? it=some (D8 (.ref p) i (.ref a) n ep))(hs:s.heap.get? a=some { cls:=.type "set", dict:=none,data:=.set es ep t,slots:=#[] })(hf:t.fits es.size=true)(hn:es.size=n)
  (hp:s.heap.get? p=some { cls:=.type "tuple", data:=.seq (List.toArray (ps.map λj=>rawInt (j:Nat))) 0 }) (hj:ps[i]?=some j) (hx:es[j]?=some (hv,x))
  (hQ:∀h',h'.get? it=some (D8 (.ref p) (i+1) (.ref a) n ep)->Heap.SameBut it s.heap h'->Q (some x) { s with heap:=h' }):wpAny (model prog w) A (pyNext (.ref it)) Q E s:=by
 have hT:s.TypeIs (.ref it) "set_iterator" := ⟨_,ho,rfl⟩
 unfold pyNext;refine aC (Rk (Uz (name:=s!"__next__") hT jG (NY jG hT dw ?_ (dQ _))));unfold Builtin.«set_iterator.__next__»;refine aC (bB (aC (wpAny_fieldsOf ho rfl ?_)));dsimp only;refine aC (Uo hs rfl hf ?_);rw[if_neg (by rw[hn];simp)];refine aC (wpAny_seqItems hp rfl ?_);have e1:(List.map (λj=>rawInt (j:Nat)) ps).toArray[(i:Int).toNat]?=some (.int (j:Nat) 0):=by
  rw[Ei,List.getElem?_toArray,jA,hj];rfl
 dsimp only;rw[e1];dsimp only;unfold setNextDrawn;refine aC (aC (MI hs rfl hf ?_));dsimp only;rw[Ei,Ei,if_neg (by simp),hx];refine bB ?_;refine aC (wpAny_setField ho rfl (by simp) (wpAny_pure ⟨x,rfl,wpAny_pure (hQ _ ?_ (Heap.SameBut.update ..))⟩));exact Ov (Obj.mapFields (·.setIfInBounds 1 (rawInt ((i:Int)+1)))) ho rfl
theorem kH(hh:A.handled=none){p:Addr}{ps:List Nat}(ho:s.heap.get? it=some (D8 (.ref p) i (.ref a) n ep))(hs:s.heap.get? a=some { cls:=.type "set", dict:=none,data:=.set es ep t,slots:=#[] })(hf:t.fits es.size=true)(hn:es.size=n)
  (hp:s.heap.get? p=some { cls:=.type "tuple", data:=.seq (List.toArray (ps.map λj=>rawInt (j:Nat))) 0 }) (hj:ps[i]?=none)
  (hQ:∀h',Heap.ExtBut it s.heap h'->Q none { s with heap:=h' }):wpAny (model prog w) A (pyNext (.ref it)) Q E s:=by
 have hT:s.TypeIs (.ref it) "set_iterator" := ⟨_,ho,rfl⟩
 unfold pyNext;refine aC (Rk (Uz (name:=s!"__next__") hT jG (NY jG hT dw ?_ (dQ _))));unfold Builtin.«set_iterator.__next__»;refine aC (bB (aC (wpAny_fieldsOf ho rfl ?_)));dsimp only;refine aC (Uo hs rfl hf ?_);rw[if_neg (by rw[hn];simp)];refine aC (wpAny_seqItems hp rfl ?_);have e1:(List.map (λj=>rawInt (j:Nat)) ps).toArray[(i:Int).toNat]?=none:=by
  rw[Ei,List.getElem?_toArray,jA,hj];rfl
 dsimp only;rw[e1];dsimp only;have u1:(s.heap.update it (Obj.mapFields (·.setIfInBounds 0 (rawInt 0)))).get? it=some (D8 (.int 0 0) i (.ref a) n ep):=Ov (Obj.mapFields (·.setIfInBounds 0 (rawInt 0))) ho rfl;refine aC (wpAny_setField ho rfl (by simp) (wpAny_bind (wpAny_setField (s:={ s with heap:=s.heap.update it (Obj.mapFields (·.setIfInBounds 0 (rawInt 0))) }) u1 rfl (by simp) ?_)));exact yf hh λh' e=>hQ h' λb o hb z=>e b o hb ((((Heap.SameBut.update s.heap it _).trans (Heap.SameBut.update _ it _)).2 b hb).trans z)
end
end L2
namespace L2
open PySem
theorem iM:Slot "set_iterator" "__iter__" "set_iterator.__iter__" := .of (owner := "set_iterator") (n := "__iter__") (by rw[typeLookup_type,builtinLookup_eq_fast];kernel_rfl) (by decide +kernel) (by decide +kernel) (by decide +kernel) (by first|exact .inl (by decide +kernel)|exact .inr (by decide +kernel)) (by rw[isSubtype_type];kernel_rfl)
theorem lQ:entryFor table "set_iterator.__iter__" = some Builtin.«dict_keyiterator.__iter__»:=entryFor_alias (id' := "dict_keyiterator.__iter__") (by kernel_rfl) rfl (by decide +kernel) (by kernel_rfl)
theorem xr(a:Value):argsOk "set_iterator.__iter__" ⟨[a],[]⟩:=by unfold argsOk;kernel_rfl
theorem g_{α:Type}:∀{l:List α}{i:Nat}(h:i<l.length),(l[i]::l.eraseIdx i).Perm l
 |x::xs,0,_=>.rfl
 |x::xs,i+1,h=>(List.Perm.swap x _ _).trans ((g_ (l:=xs) (i:=i) (Nat.lt_of_succ_lt_succ h)).cons x)
theorem Br{α:Type}(next:Nat->Nat):∀(f k:Nat) (l:List α) (out:Array α),f=l.length->(pickOrder.go next f k l out).toList.Perm (out.toList++l)
 |0,k,l,out,h=>by
  rw[List.length_eq_zero_iff.mp h.symm,Ed];exact .rfl
 |f+1,k,l,out,h=>by
  have hl:next k%l.length<l.length:=Nat.mod_lt _ (by omega)
  unfold pickOrder.go;rw[lz hl];dsimp only;refine(Br next f (k+1) _ _ (by rw[List.length_eraseIdx_of_lt hl];omega)).trans ?_;rw[Array.toList_push,N5];exact List.Perm.append_left _ (g_ hl)
theorem jh{α:Type}(next:Nat->Nat)(xs:Array α):(pickOrder next xs).toList.Perm xs.toList:=by
 have z:=Br next xs.size 0 xs.toList #[] (by rw[D9])
 exact z
section
variable{prog:Program}{w:World}{A:Around}{E:Vs}{s:Shared}{I a:Addr}{n ep:Nat}{es:Array (Int×Value)}{t:SetTable}
theorem ite_no{α:Type}{c:Prop} [Decidable c]{x y:Sem α}{Q:α->Shared->Prop}(hc:¬c)(h:wpAny (model prog w) A y Q E s):wpAny (model prog w) A (if c then x else y) Q E s:=by
 rw[if_neg hc];exact h
theorem ite_yes{α:Type}{c:Prop} [Decidable c]{x y:Sem α}{Q:α->Shared->Prop}(hc:c)(h:wpAny (model prog w) A x Q E s):wpAny (model prog w) A (if c then x else y) Q E s:=by
 rw[if_pos hc];exact h
theorem lG(h0:0<m)(h:∀i d,i<m->Q i { s with drawn:=d }):wpAny (model prog w) A (choose src m) Q E s:=λΓ p _=>by
 show Sem.wp _ _ (.choose src m .pure) _ _ _ _;rw[Sem.wp_choose];refine⟨by omega,?_⟩;show Sem.wp _ _ (pure _) _ _ _ _;rw[Sem.wp_pure'];exact h _ _ (Nat.mod_lt _ h0)
theorem yU{α:Type}:∀(m:Nat) (xs:List α) (s:Shared) {Q:List α->Shared->Prop},m=xs.length->(∀ys d,ys.Perm xs->Q ys { s with drawn:=d })->wpAny (model prog w) A (drawOrder m xs) Q E s
 |0,xs,s,Q,hm,h=>by
  unfold drawOrder;exact bB (h [] s.drawn (by rw[List.length_eq_zero_iff.mp hm.symm]))
 |m+1,[],s,Q,hm,h=>by simp at hm
 |m+1,x::xs,s,Q,hm,h=>by
  unfold drawOrder;refine aC (lG (by simp) λi d hi=>?_);rw[lz hi];refine aC (yU m _ _ (by rw[List.length_eraseIdx_of_lt hi];omega) λys d' hp=>bB ?_);exact h _ d' ((hp.cons _).trans (g_ hi))
theorem iP{f:Value}{i:Nat}{a:Value}{Q:Vs}(ho:s.heap.get? I=some (D8 f i a n ep))(h:Q (.ref I) s):wpAny (model prog w) A (pyIter (.ref I)) Q E s:=by
 have hT:s.TypeIs (.ref I) "set_iterator" := ⟨_,ho,rfl⟩
 refine wpAny_pyIter_slot hT iM (NY iM hT lQ ?_ (xr _));show wpAny _ _ (ret (.ref I)) _ _ s;exact bB ⟨_,rfl, "set_iterator", _,hT,jG.lookup,h⟩
abbrev gy(es:Array (Int×Value))(ep:Nat)(t:SetTable):Obj:={ cls:=.type "set", dict:=none,data:=.set es ep t,slots:=#[] }
theorem m6(h:xs.size=1)(hx:xs[0]?=some j):SetTable.below xs 0=0/\SetTable.below xs (j+1)=1:=by
 obtain⟨l⟩:=xs
 match l,h with
 |[x],_=>
  simp at hx;subst hx;simp[SetTable.below,SetTable.below.go]
theorem M_(h:xs.size=0)(j:Nat):SetTable.below xs j=0:=by
 unfold SetTable.below;rw[h];rfl
theorem DS(bt:mw w=true)(hh:A.handled=none)(hne:a≠I)(hf:t.fits es.size=true):
  Walks prog w A I [I,a] [I] es.size (λi v=>∃h,(pickOrder (w.params.setOrder a ep) es)[i]?=some (h,v)) (λi h=>h.get? I=some (D8 (.int 0 0) i (.ref a) es.size ep)/\h.get? a=some (gy es ep t)) where
 sub:=λb hb=>by simp at hb;simp[hb]
 frame:=λ_ _ _ st k=>⟨k I (by simp) _ st.1,k a (by simp) _ st.2⟩
 item:=λi s Q E hi st hQ=>by
  have hlen:(pickOrder (w.params.setOrder a ep) es).size=es.size:=by
   have z:=(jh (w.params.setOrder a ep) es).length_eq;simpa using z
  obtain⟨x,hx⟩:∃x,(pickOrder (w.params.setOrder a ep) es)[i]?=some x:=⟨_,S9 (by rw[hlen];exact hi)⟩
  refine mB (next:=0) (x:=x.2) st.1 st.2 hf rfl (λA E Q' q=>?_) λh' o' sb=>hQ x.2 h' s.toks ⟨x.1,hx⟩ ⟨o',(sb.2 a hne).trans st.2⟩ λb o hb e=>(sb.2 b (by simpa using hb)).trans e;unfold setNext setsByText;refine aC (MI st.2 rfl hf ?_);dsimp only;refine aC (aC (LC (bB ?_)));rw[show(model prog w).w.params.followText "set-order" = true from bt,if_pos rfl,if_neg (by simp)];unfold setWalk setsByText;refine aC (aC (MI st.2 rfl hf ?_));dsimp only;refine aC (aC (LC (bB ?_)));rw[show(model prog w).w.params.followText "set-order" = true from bt,if_pos rfl];refine aC (LC (bB (bB ?_)));rw[show(pickOrder ((model prog w).w.params.setOrder a ep) es)[i]?=some x from hx];exact q
 done:=λs Q E st hQ=>by
  refine m9 hh st.1 st.2 hf rfl (λA E Q' q=>?_) λh' e=>hQ h' s.toks λb o hb z=>e b o (by simpa using hb) z;have hlen:(pickOrder (w.params.setOrder a ep) es).size=es.size:=by
   have z:=(jh (w.params.setOrder a ep) es).length_eq;simpa using z
  unfold setNext setsByText;refine aC (MI st.2 rfl hf ?_);dsimp only;refine aC (aC (LC (bB ?_)));rw[show(model prog w).w.params.followText "set-order" = true from bt,if_pos rfl,if_neg (by simp)];unfold setWalk setsByText;refine aC (aC (MI st.2 rfl hf ?_));dsimp only;refine aC (aC (LC (bB ?_)));rw[show(model prog w).w.params.followText "set-order" = true from bt,if_pos rfl];refine aC (LC (bB (bB ?_)));rw[show(pickOrder ((model prog w).w.params.setOrder a ep) es)[es.size]?=none from Array.getElem?_eq_none (by rw[<-hlen];exact bw _)];exact q
 self:=λ_ _ _ _ st hQ=>iP st.1 hQ
theorem D4(bt:mw w=false)(hh:A.handled=none)(hne:a≠I)(hf:t.fits es.size=true)(hl:t.led=true)(h1:es.size<=1):
  Walks prog w A I [I,a] [I] es.size (λi v=>∃h,es[i]?=some (h,v)) (λi h=>(∃sl,h.get? I=some (D8 (.int (sl:Nat) 0) i (.ref a) es.size ep)/\(i=0->sl=0)/\(i=1->∃j,t.place[0]?=some j/\sl=j+1))/\h.get? a=some (gy es ep t)) where
 sub:=λb hb=>by simp at hb;simp[hb]
 frame:=λ_ _ _ st k=>by
  obtain⟨⟨sl,o,z⟩,q⟩:=st;exact⟨⟨sl,k I (by simp) _ o,z⟩,k a (by simp) _ q⟩
 item:=λi s Q E hi st hQ=>by
  obtain⟨⟨sl,o,z0,z1⟩,hs⟩:=st;have e1:es.size=1:=by omega
  have i0:i=0:=by omega
  subst i0;have s0:=z0 rfl;subst s0;have hp:t.place.size=1:=by
   have z:=hf;simp only[SetTable.fits,Bool.and_eq_true,beq_iff_eq]at z;omega
  obtain⟨j,hj⟩:∃j,t.place[0]?=some j:=⟨_,S9 (by omega)⟩
  obtain⟨⟨hv,x⟩,hx⟩:∃x,es[0]?=some x:=⟨_,S9 (by omega)⟩
  refine mB (next:=j+1) (x:=x) o hs hf rfl (λA E Q' q=>?_) λh' o' sb=>hQ x h' s.toks ⟨hv,hx⟩ ⟨⟨j+1,o',λz=>absurd z (by omega),λ_=>⟨j,hj,rfl⟩⟩,(sb.2 a hne).trans hs⟩ λb o hb e=>(sb.2 b (by simpa using hb)).trans e;unfold setNext setsByText;refine aC (MI hs rfl hf ?_);dsimp only;refine aC (aC (LC (bB ?_)));rw[show(model prog w).w.params.followText "set-order" = false from bt,if_neg (by simp)];refine ite_no (λz=>absurd (show(!t.plain&&decide (es.size>1))=true from z) (by rw[e1];simp)) ?_;refine aC ?_;show wpAny _ _ (if (!t.led && !es.isEmpty)=true then unsupported "set:maker-not-led" else pure ()) _ _ _;rw[hl,if_neg (by simp)];refine bB ?_;rw[(m6 hp hj).1,hx,hj];exact bB q
 done:=λs Q E st hQ=>by
  obtain⟨⟨sl,o,z0,z1⟩,hs⟩:=st;refine m9 hh o hs hf rfl (λA E Q' q=>?_) λh' e=>hQ h' s.toks λb o hb z=>e b o (by simpa using hb) z;unfold setNext setsByText;refine aC (MI hs rfl hf ?_);dsimp only;refine aC (aC (LC (bB ?_)));rw[show(model prog w).w.params.followText "set-order" = false from bt,if_neg (by simp)];refine ite_no (λz=>absurd (show(!t.plain&&decide (es.size>1))=true from z) (by simp;omega)) ?_;refine aC ?_;show wpAny _ _ (if (!t.led && !es.isEmpty)=true then unsupported "set:maker-not-led" else pure ()) _ _ _;rw[hl,if_neg (by simp)];refine bB ?_;have hb:es[SetTable.below t.place sl]?=none:=by
   have z:=hf;simp only[SetTable.fits,Bool.and_eq_true,beq_iff_eq]at z;by_cases e1:es.size=1
   ·obtain⟨j,hj,rfl⟩:=z1 e1;rw[(m6 (by omega) hj).2];exact Array.getElem?_eq_none (by omega)
   ·rw[M_ (by omega)];exact Array.getElem?_eq_none (by omega)
  rw[hb];exact bB q
 self:=λ_ _ _ _ st hQ=>by
  obtain⟨⟨sl,o,_⟩,_⟩:=st;exact iP o hQ
theorem yL{p:Addr}{ps:List Nat}(hh:A.handled=none)(hne:a≠I)(hpI:p≠I)(hf:t.fits es.size=true)(hps:ps.Perm (List.range es.size)):
  Walks prog w A I [I,a,p] [I] es.size (λi v=>∃j h,ps[i]?=some j/\es[j]?=some (h,v)) (λi h=>h.get? I=some (D8 (.ref p) i (.ref a) es.size ep)/\h.get? a=some (gy es ep t)/\h.get? p=some { cls:=.type "tuple", data:=.seq (List.toArray (ps.map λj=>rawInt (j:Nat))) 0 }) where
 sub:=λb hb=>by simp at hb;simp[hb]
 frame:=λ_ _ _ st k=>⟨k I (by simp) _ st.1,k a (by simp) _ st.2.1,k p (by simp) _ st.2.2⟩
 item:=λi s Q E hi st hQ=>by
  have hl:ps.length=es.size:=by rw[hps.length_eq,Um]
  obtain⟨j,hj⟩:∃j,ps[i]?=some j:=⟨_,lz (by omega)⟩
  have hj1:j<es.size:=MD.mp (hps.mem_iff.mp (e7 hj));obtain⟨⟨hv,x⟩,hx⟩:∃x,es[j]?=some x:=⟨_,S9 hj1⟩
  exact zR st.1 st.2.1 hf rfl st.2.2 hj hx λh' o' sb=>hQ x h' s.toks ⟨j,hv,hj,hx⟩ ⟨o',(sb.2 a hne).trans st.2.1,(sb.2 p hpI).trans st.2.2⟩ λb o hb e=>(sb.2 b (by simpa using hb)).trans e
 done:=λs Q E st hQ=>kH hh st.1 st.2.1 hf rfl st.2.2 (List.getElem?_eq_none (by rw[hps.length_eq,Um];exact bw _)) λh' e=>hQ h' s.toks λb o hb z=>e b o (by simpa using hb) z
 self:=λ_ _ _ _ st hQ=>iP st.1 hQ
end
end L2
namespace L2
open PySem
section
variable{prog:Program}{w:World}{A:Around}{E:Vs}{s:Shared}{a:Addr}{L:List Str}
theorem Ey{es:Array (Int×Value)}:∀(l:List Nat),(∀j∈l,j<es.size)->∀(i j:Nat),l[i]?=some j->(l.filterMap λj=>es[j]?)[i]?=es[j]?
 |[],_,i,j,q=>by simp at q
 |x::l,hl,i,j,q=>by
  have hx:=S9 (hl x (.head _));rw[List.filterMap_cons,hx];cases i with
  |zero=>simp at q;subst q;simp[hx]
  |succ i=>
   simp at q ⊢;exact Ey l (λj hj=>hl j (.tail _ hj)) i j q
def Vv(w:World)(ord:List (Int×Value))(i:Nat)(v:Value):Prop:=∃h,ord[i]?=some (h,v)
theorem ES{Q:Vs}{es:Array (Int×Value)}{ep:Nat}{t:SetTable}(ho:s.heap.get? a=some (gy es ep t))(hf:t.fits es.size=true)(hl:t.led = !mw w)(hp:t.plain=true->es.size=0)(hz:es.size<scanBound)
  (hQ:∀(s':Shared) (I:Addr) (fp:List Addr) (St:Nat->Heap->Prop) (P:Nat->Value->Prop) (ord:List (Int×Value)),(∀b o,s.heap.get? b=some o->s'.heap.get? b=some o)->s'.gens=s.gens->s'.os=s.os->
   (∀A':Around,A'.handled=none->Walks prog w A' I fp [I] es.size P St)->St 0 s'.heap->(∀b∈fp,b=a\/s.heap.objs.size<=b)->s.heap.objs.size<=I->ord.Perm es.toList->(∀i v,P i v->Vv w ord i v)->Q (.ref I) s'):
  wpAny (model prog w) A (pyIter (.ref a)) Q E s:=by
 have hT:s.TypeIs (.ref a) "set" := ⟨_,ho,rfl⟩
 have hlt:a<s.heap.objs.size:=cY ho;refine wpAny_pyIter_slot hT PySem.F.slot_set_iter (NY PySem.F.slot_set_iter hT nQ ?_ (PySem.F.args_set_iter_1 _));unfold Builtin.«frozenset.__iter__» Builtin.Frozenset.sizeOf setDrawn setsByText;refine aC (bB ?_);refine aC (aC (Uo ho rfl hf (bB ?_)));refine aC (aC (MI ho rfl hf ?_));dsimp only;refine aC (aC (LC (bB (bB ?_))));cases bt:mw w with
 |true=>
  refine ite_no (λz=>absurd (show(!(mw w)&&(!t.plain&&decide (es.size>1)))=true from z) (by rw[bt];simp)) ?_;refine aC (bB (aC (wpAny_setEpoch_of ho rfl hf (aC (Ld ?_)))));refine bB ⟨_,rfl, "set_iterator", _,⟨_,iy _ rfl,rfl⟩,jG.lookup,?_⟩;exact hQ _ s.heap.objs.size [s.heap.objs.size,a] _ _ (pickOrder (w.params.setOrder a ep) es).toList (λb o z=>d9 _ z) rfl rfl (λA' h'=>DS bt h' (gI hlt) hf) ⟨iy _ rfl,d9 _ ho⟩
   (λb hb=>by simp at hb;rcases hb with rfl|rfl<;>simp) (Nat.le_refl _) (jh _ _) λi v ⟨h,z⟩=>⟨h,by rw[Array.getElem?_toList];exact z⟩
 |false=>
  rw[bt]at hl;by_cases h1:es.size<=1
  ·refine ite_no (λz=>absurd (show(!(mw w)&&(!t.plain&&decide (es.size>1)))=true from z) (by simp;omega)) ?_;refine aC (bB (aC (wpAny_setEpoch_of ho rfl hf (aC (Ld ?_)))));refine bB ⟨_,rfl, "set_iterator", _,⟨_,iy _ rfl,rfl⟩,jG.lookup,?_⟩;exact hQ _ s.heap.objs.size [s.heap.objs.size,a] _ _ es.toList (λb o z=>d9 _ z) rfl rfl (λA' h'=>D4 bt h' (gI hlt) hf hl h1) ⟨⟨0,iy _ rfl,λ_=>rfl,λz=>absurd z (by omega)⟩,d9 _ ho⟩
    (λb hb=>by simp at hb;rcases hb with rfl|rfl<;>simp) (Nat.le_refl _) .rfl λi v ⟨h,z⟩=>⟨h,by rw[Array.getElem?_toList];exact z⟩
  ·have np:t.plain=false:=by
    cases z:t.plain with
    |false=>rfl
    |true=>exact absurd (hp z) (by omega)
   refine ite_yes (show(!(mw w)&&(!t.plain&&decide (es.size>1)))=true by rw[bt,np];simp;omega) ?_;refine aC (yU es.size (List.range es.size) s (by simp) λps d hps=>?_);refine aC <| wpAny_newTuple ?_ (by rw[aI,hps.length_eq,Um];exact fits_of_scanBound hz)
   have ho1:(s.heap.push { cls:=.type "tuple", data:=.seq (List.toArray (ps.map λj=>rawInt (j:Nat))) 0 }).get? a=some (gy es ep t):=d9 _ ho;refine aC (wpAny_setEpoch_of (s:={ s with heap:=s.heap.push { cls:=.type "tuple", data:=.seq (List.toArray (ps.map λj=>rawInt (j:Nat))) 0 },drawn:=d }) ho1 rfl hf (aC (Ld ?_)));refine bB ⟨_,rfl, "set_iterator", _,⟨_,iy _ rfl,rfl⟩,jG.lookup,?_⟩;have hs1:(s.heap.push { cls:=.type "tuple", data:=.seq (List.toArray (ps.map λj=>rawInt (j:Nat))) 0 }).objs.size=s.heap.objs.size+1:=Heap.size_push ..;refine hQ _ _ [_,a,s.heap.objs.size] _ _ (ps.filterMap λj=>es[j]?) (λb o z=>d9 _ (d9 _ z)) rfl rfl (λA' h'=>yL (ps:=ps) (p:=s.heap.objs.size) h' (hs1▸gI (Nat.lt_succ_of_lt hlt)) (hs1▸gI (Tw _)) hf hps)
    ⟨iy _ rfl,d9 _ ho1,d9 _ (iy _ rfl)⟩ (λb hb=>?_) (by first|exact Nat.le_succ _|exact hs1.symm▸Nat.le_succ _) ?_ λi v ⟨j,h,z1,z2⟩=>?_
   ·simp at hb;rcases hb with rfl|rfl|rfl
    ·exact .inr (by first|exact Nat.le_succ _|exact hs1.symm▸Nat.le_succ _)
    ·exact .inl rfl
    ·exact .inr (bw _)
   ·refine(hps.filterMap _).trans ?_;rw[filterMap_getElem?_range]
   ·exact⟨h,by rw[Ey ps (λj hj=>MD.mp (hps.mem_iff.mp hj)) i j z1,z2]⟩
theorem J9(hT:s.TypeIs (.ref a) "set")(h:Q false s):wpAny (model prog w) A (Builtin.List.listLengthHint (.ref a)) Q E s:=by
 unfold Builtin.List.listLengthHint;refine aC (wpAny_specialOf hT PySem.F.slot_set_len.lookup ?_);generalize hid:("set.__len__" : String)=id0
 wp_delta
 rw[show splitId id0=some ("set", "__len__") from by subst hid;decide +kernel];subst hid;refine aC (wpAny_isInstance (T := "set") (b:=true) hT (by rw[isSubtype_type];kernel_rfl) ?_);refine ite_no (by decide) (ite_yes (by decide +kernel) ?_);exact aC (wpAny_typeOf hT (bB h))
theorem yi(S:gM w s.heap a L)(hh:A.handled=none)
  (h:∀(s':Shared) (vs:List Value) (ord:List Str),(∀b o,s.heap.get? b=some o->s'.heap.get? b=some o)->s'.gens=s.gens->s'.os=s.os->ord.Perm L->vs.length=ord.length->(∀(j:Nat) (v:Value),vs[j]?=some v->∃y k,ord[j]?=some y/\v=Value.str y k)->R vs s'):
  wpAny (model prog w) A (collect (.ref a)) R E s:=by
 obtain⟨es,ep,t,ho,he,hL,hb,hf,hl,hp⟩:=id S;have hn:es.size=L.length:=by rw[<-hL,aI,D9]
 have hlt:a<s.heap.objs.size:=cY ho;unfold collect;refine aC (wpAny_runValue (codeAny_builtin PySem.F.entry_proto_collect ?_));rw[Around.under_plainId PySem.F.plain_proto_collect _];show wpAny _ A.in1 (newList [] >>= λl=>again (.builtin "list.__iadd__" ⟨[l,.ref a],[]⟩)) _ _ s;refine aC (Ld (bB ⟨plainId_quiet PySem.F.plain_list_iadd _,codeAny_builtin PySem.F.entry_list_iadd ?_⟩));rw[Around.under_plainId PySem.F.plain_list_iadd _];show wpAny _ A.in1 (Builtin.List.listExtendWith (.ref s.heap.objs.size) (.ref a) (.ref s.heap.objs.size)) _ _ _;generalize hH:s.heap.push { cls:=.type "list", data:=.seq ([]:List Value).toArray }=H;have hHs:H.objs.size=s.heap.objs.size+1:=by rw[<-hH];exact Heap.size_push ..
 have hS0:H.get? s.heap.objs.size=some { cls:=.type "list", data:=.seq ([]:List Value).toArray }:=hH▸iy _ rfl;have ho1:H.get? a=some (gy es ep t):=hH▸d9 _ ho;have kp:∀b o,s.heap.get? b=some o->H.get? b=some o:=λb o z=>hH▸d9 _ z;unfold Builtin.List.listExtendWith;refine aC (wpAny_typeOf (T := "set") ⟨_,ho1,rfl⟩ ?_);have h1:Builtin.List.listSameRef (.ref s.heap.objs.size) (.ref a)=false:=by simp[Builtin.List.listSameRef];exact Ne.symm (Nat.ne_of_lt hlt)
 refine ite_no (by rw[h1];decide) ?_;refine aC (ES (s:={ s with heap:=H }) ho1 hf hl (λz=>by rw[hn,hp z];rfl) hb λs1 I fp St P ord k1 g1 o1 W st hfp hI hord hP=>?_);have hI':s.heap.objs.size+1<=I:=hHs▸hI;have hSI:s.heap.objs.size≠I:=gI hI';have hSf:s.heap.objs.size∉fp:=λz=>by
  rcases hfp _ z with q|q
  ·exact absurd q (Ne.symm (gI hlt))
  ·exact absurd (show H.objs.size<=s.heap.objs.size from q) (by rw[hHs];exact Nat.not_succ_le_self _)
 have hS1:=k1 _ _ hS0;have ord_len:(ord.map λe=>txtOf e.2).Perm L:=by rw[<-hL];exact hord.map _
 refine aC (D_ (J9 (s:=s1) ⟨_,k1 _ _ ho1,rfl⟩ ?_));refine ite_yes (by decide +kernel) (aC (Oh (aC ?_)));show wpAny _ _ (updateSeq s.heap.objs.size (λq=>q.push Value.none) >>= λ_=>updateSeq s.heap.objs.size (λq=>q.pop)) _ _ _;refine aC (wpAny_updateSeq hS1 rfl ?_);have hS2:=Ov (Obj.mapSeq (λq=>q.push Value.none)) hS1 rfl;refine wpAny_updateSeq (hz:=by seq_fits) hS2 rfl ?_;have hS3:=Ov (Obj.mapSeq (λq=>q.pop)) hS2 rfl;have k2:∀b o,b≠s.heap.objs.size->s1.heap.get? b=some o->((s1.heap.update s.heap.objs.size (Obj.mapSeq λq=>q.push Value.none)).update s.heap.objs.size (Obj.mapSeq λq=>q.pop)).get? b=some o:=λb o hb z=>
  (VW _ _ (Ne.symm hb)).trans ((VW _ _ (Ne.symm hb)).trans z)
 have W1:=(W A.in1 hh).toS;refine bB ⟨plainId_quiet PySem.F.plain_extend_loop _,codeAny_extend_loopS W1 (fits_of_scanBound hb) _ hSf _ es.size 0 _ #[] _ rfl (gH _) ((W A.in1 hh).frame 0 _ _ st λb hb o z=>k2 b o (λq=>hSf (q▸hb)) z) hS3 (ItemsOf.nil _) λs2 acc c hm hS2 hacc=>?_⟩;show wpAny _ A (load s.heap.objs.size >>= _) _ _ s2;refine aC (wpAny_load hS2 (bB (h s2 acc.toList (ord.map λe=>txtOf e.2) (λb o z=>?_) (hm.gens.trans g1) (hm.os.trans o1) ord_len ?_ λj v hv=>?_)))
 ·refine hm.heap b o (λq=>?_) (k2 b o (gI (cY z)) (k1 b o (kp b o z)));have lt:=cY z;rcases hZ.mp q with q|q
  ·exact absurd lt (q▸xv _)
  ·rw[cD.mp q]at lt;exact absurd (jF (Nat.lt_succ_of_lt lt) hI') (xv _)
 ·rw[D9,hacc.1,aI,hord.length_eq,D9]
 ·rw[Array.getElem?_toList]at hv;obtain⟨hh,z⟩:=hP j v (hacc.2 j v hv);obtain⟨y,k,e⟩:=he _ (hord.mem_iff.mp (e7 z));refine⟨y,k,?_,congrArg Prod.snd e⟩;rw[jA,z,e];rfl
end
end L2
namespace L2
open PySem PySem.Spec
section
variable{prog:Program}{w:World}{A:Around}{E:Vs}
theorem Dy(a:Value){Q₁:Vs}(h:Q₁ (.ref s.heap.objs.size) { s with heap:=s.heap.push (gy #[] 0 (.fresh 0 0 (!mw w))) }):
  codeAny (model prog w) A (.call (.builtin "set.__new__") ⟨[.type "set", a],[]⟩) (wants Q₁ E) s:=by
 refine codeAny_of_tree ?_;show wpAny _ A.in1 (checkBuiltinCall "set.__new__" ⟨[.type "set", a],[]⟩ >>= λ_=>again (.builtin "set.__new__" ⟨[.type "set", a],[]⟩)) _ _ s;refine aC (wpAny_of_eq (PySem.F.newCall_set_1 a) (bB ⟨plainId_quiet PySem.F.plain_set_new _,codeAny_builtin PySem.F.entry_set_new ?_⟩));rw[Around.under_plainId PySem.F.plain_set_new _];unfold Builtin.«set.__new__» Builtin.Frozenset.newClass;have hs:=sub_set_self;obtain⟨hp,g,d,tk,os⟩:=s;dsimp only
 wp_walk
 refine LC (bB ?_);dsimp only;simp only[newObj];exact aC (wpAny_alloc (bB (bB h)))
theorem zI{h:Heap}:gM w (h.push (gy #[] 0 (.fresh 0 0 (!mw w)))) h.objs.size []:=
 ⟨#[],0,_,iy _ rfl,λe he=>by simp at he,rfl,by decide,rfl,rfl,λ_=>rfl⟩
theorem gM.keep{h h':Heap}{a:Addr}{L:List Str}(S:gM w h a L)(k:∀o,h.get? a=some o->h'.get? a=some o):gM w h' a L:=
 let ⟨es,ep,t,ho,r⟩:=S;⟨es,ep,t,k _ ho,r⟩
theorem Km{L L':List Str}{x:Str}(h:L'.Perm (if x∈L then L else L++[x]))(hn:L.Nodup):L'.Nodup/\(∀y,y∈L'↔y∈L\/y=x)/\L'.length<=L.length+1:=by
 by_cases m:x∈L
 ·rw[if_pos m]at h;exact⟨h.symm.nodup hn,λy=>by rw[h.mem_iff];exact⟨.inl,λz=>z.elim id λe=>e▸m⟩,by rw[h.length_eq];omega⟩
 ·rw[if_neg m]at h;refine⟨h.symm.nodup ?_,λy=>by rw[h.mem_iff];simp,by rw[h.length_eq];simp⟩;rw[lD];exact⟨hn,by simp,λa ha b hb=>by simp at hb;subst hb;exact λe=>m (e▸ha)⟩
theorem G2{R:Result->Shared->Prop}{I:Addr}{fp wr:List Addr}{G:Array GenState->Array GenState->Prop}{n:Nat}{P:Nat->Value->Prop}{St:Nat->Shared->Prop}(W:WalksS prog w A.in1 I fp wr G n P St)(S:Addr)(hSf:S∉fp)
  (val:Nat->Str) (hval:∀i v,P i v->∃t,v=Value.str (val i) t) (hb:n+1<scanBound):
  ∀(k i:Nat) (s:Shared) (L:List Str),n - i=k->i<=n->St i s->gM w s.heap S L->L.Nodup->L.length<=i->(∀y,y∈L↔∃j,j<i/\val j=y)->
   (∀s' L',Moved (S::wr) G s s'->gM w s'.heap S L'->L'.Nodup->L'.length<=n->(∀y,y∈L'↔∃j,j<n/\val j=y)->R (.ok (.ret .none)) s')->
   codeAny (model prog w) A (.builtin "set.update.loop" ⟨[.ref S,.ref I],[]⟩) R s:=by
 have hSw:S∉wr:=λh=>hSf (W.sub _ h);have sub:∀b∈wr,b∈S::wr:=λb hb=>h8 _ hb;intro k
 induction k with
 |zero=>
  intro i s L hk hi st hS hN hl hm hR;obtain rfl:i=n:=by omega
  refine codeAny_builtin PyProof.Rows.F.entry_set_update_loop ?_;rw[Around.under_plainId PyProof.Rows.F.plain_set_update_loop _];show wpAny _ A.in1 (pyNext (.ref I) >>= _) _ _ s;refine aC (W.done s _ _ st λs' mv=>?_);exact bB (hR s' L (mv.mono sub) (hS.keep λo z=>mv.heap S o hSw z) hN hl hm)
 |succ k ih=>
  intro i s L hk hi st hS hN hl hm hR;have lt:i<n:=by omega
  refine codeAny_builtin PyProof.Rows.F.entry_set_update_loop ?_;rw[Around.under_plainId PyProof.Rows.F.plain_set_update_loop _];show wpAny _ A.in1 (pyNext (.ref I) >>= _) _ _ s;refine aC (W.item i s _ _ lt st λv s' hP st' mv=>?_);obtain⟨t,rfl⟩:=hval i v hP;have hS':gM w s'.heap S L:=hS.keep λo z=>mv.heap S o hSw z;show wpAny _ A.in1 (holding [Value.str (val i) t] (setAdd S (.str (val i) t)) >>= _) _ _ s';refine aC (D_ ?_);unfold setAdd;refine D_ (aC ((PySem.strKind prog w).pyHash (k:=val i) (by simp[PySem.strKind,Value.isStrOf]) ?_));refine Fp (s:={ s' with toks:=s'.toks+1 }) hS' (by omega) λh' L' b sb S2 pm=>?_;obtain⟨n2,m2,l2⟩:=Km pm hN;refine bB ⟨plainId_quiet PyProof.Rows.F.plain_set_update_loop _,ih (i+1) _ L' (by omega) lt (W.frame _ s' _ _ st' (Nat.le_succ _) λb hb o e=>?_) S2 n2 (by omega) (λy=>?_) λs'' L'' mv' S3 n3 l3 m3=>?_⟩
  ·rw[sb.2 b (λh:b=S=>hSf (by rw[<-h];exact hb))];exact e
  ·rw[m2 y,hm y];constructor
   ·rintro (⟨j,hj,e⟩|e)
    ·exact⟨j,by omega,e⟩
    ·exact⟨i,by omega,e.symm⟩
   ·rintro⟨j,hj,e⟩;by_cases ji:j=i
    ·exact .inr (ji▸e.symm)
    ·exact .inl ⟨j,by omega,e⟩
  ·refine hR s'' L'' (Moved.trans W.gtrans ((mv.mono sub).then_heap (Nat.le_succ _) λb o hb e=>?_) mv') S3 n3 l3 m3;rw[sb.2 b (λh:b=S=>hb (by rw[h];exact lO))];exact e
set_option maxHeartbeats 3200000 in
theorem Dz{s:Shared}{l:Addr}{items:Array Value}{val:Nat->Str}{Q:Vs}(hh:A.handled=none)(hl:s.heap.IsList l items)(hi:∀(i:Nat) (v:Value),items[i]?=some v->∃t,v=Value.str (val i) t)(hb:items.size+1<scanBound)
  (h:∀(h':Heap) (tk:Nat) (L:List Str),gM w h' s.heap.objs.size L->L.Nodup->L.length<=items.size->(∀y,y∈L↔∃j,j<items.size/\val j=y)->(∀b o,s.heap.get? b=some o->h'.get? b=some o)->Q (.ref s.heap.objs.size) { s with heap:=h',toks:=tk }):
  wpAny (model prog w) A (call (.type "set") [.ref l]) Q E s:=by
 obtain⟨c0,tl0,mro0⟩:=PySem.F.called_set.mro;have made0:=PySem.F.called_set.made;have sub0:=PySem.F.called_set.sub;refine wpAny_call (codeAny_of_tree (show wpAny _ _ (callAny (.type "set") _) _ _ _ from ?_));refine bB ⟨Code.quiet_builtin _ (by decide +kernel),codeAny_builtin PySem.F.entry_type_call ?_⟩;rw[Around.under_plain (weight_type_call_type "set" [.ref l] []) rfl];have n1:=PySem.F.called_set.notType;have n2:=PySem.F.called_set.canCreate;have n3:=PySem.F.typeCall_set_1 (.ref l)
 repeat (any_goals (first|assumption|wp_step))
 refine codeAny_mono (Dy (.ref l) (E:=E) (Q₁:=λobj s1=>obj=.ref s.heap.objs.size/\s1={ s with heap:=s.heap.push (gy #[] 0 (.fresh 0 0 (!mw w))) }) ⟨rfl,rfl⟩) λr s1 hr=>?_;cases r with
 |error e=>exact hr
 |ok fl=>
  cases fl with
  |ret obj=>
   obtain⟨rfl,rfl⟩:=hr;have hS:(s.heap.push (gy #[] 0 (.fresh 0 0 (!mw w)))).get? s.heap.objs.size=some (gy #[] 0 (.fresh 0 0 (!mw w))):=iy _ rfl;have hT:Shared.TypeIs { s with heap:=s.heap.push (gy #[] 0 (.fresh 0 0 (!mw w))) } (.ref s.heap.objs.size) "set" := ⟨_,hS,rfl⟩
   have li:=PySem.F.called_set.init.lookup;have bi:=PySem.F.called_set.init.bind (.ref s.heap.objs.size)
   repeat (any_goals (first|assumption|wp_step))
   refine codeAny_mono (codeAny_call_builtin (R:=wants (λr s2=>r=.none/\∃h' tk L,s2={ s with heap:=h',toks:=tk }/\gM w h' s.heap.objs.size L/\L.Nodup/\L.length<=items.size/\(∀y,y∈L↔∃j,j<items.size/\val j=y)/\∀b o,s.heap.get? b=some o->h'.get? b=some o) E) PySem.F.called_set.init.plain PySem.F.entry_set_init (check_set_init_1 hT ?_)) λr2 s2 hr2=>?_
   ·obtain⟨ol,hol,hcl,nl,hdl⟩:=hl;obtain⟨ocls,odict,odata,oslots⟩:=ol;simp only at hcl hdl;subst hcl hdl;have hol':(s.heap.push (gy #[] 0 (.fresh 0 0 (!mw w)))).get? l=some { cls:=.type "list", dict:=odict,data:=.seq items nl,slots:=oslots }:=d9 _ hol;have q1:=PySem.F.sub_list_set;have q2:=PySem.F.sub_list_frozenset;have q3:(Value.type "list" == Value.type "dict")=false:=by decide
    have hl1:(s.heap.push (gy #[] 0 (.fresh 0 0 (!mw w)))).IsList l items:=⟨_,hol',rfl,nl,rfl⟩
    unfold Builtin.«set.__init__» noKeywords Builtin.Frozenset.updateFrom;generalize hPI:pyIter=PI
    wp_walk
    subst hPI;refine wpAny_pyIter_list hl1 (aC (wpAny_runValue ?_));have hlS:l<s.heap.objs.size:=cY hol;have hs1:(s.heap.push (gy #[] 0 (.fresh 0 0 (!mw w)))).objs.size=s.heap.objs.size+1:=Heap.size_push ..;have h3:A.in1.in1.in1.handled=none:=by simp[hh]
    have nI:l≠(s.heap.push (gy #[] 0 (.fresh 0 0 (!mw w)))).objs.size:=hs1▸gI (Nat.lt_succ_of_lt hlS);have hSf:s.heap.objs.size∉[(s.heap.push (gy #[] 0 (.fresh 0 0 (!mw w)))).objs.size,l]:=by
     rw[hs1];simp only[List.mem_cons,List.not_mem_nil,or_false,not_or];exact⟨gI (Tw _),Nat.ne_of_gt hlS⟩
    refine G2 ((Walks.list h3 _ l nI items).toS) s.heap.objs.size hSf val hi hb (items.size - 0) 0 _ [] (by omega) (gH _) ⟨⟨_,iy _ rfl,rfl,rfl⟩,(hl1.push _)⟩
     (zI.keep λo z=>d9 _ z) .nil (gH _) (λy=>by simp) λs' L' mv S' N' l' m'=>?_
    obtain⟨h',g',d',tk',os'⟩:=s';obtain rfl:g'=s.gens:=mv.gens;obtain rfl:d'=s.drawn:=mv.drawn;obtain rfl:os'=s.os:=mv.os;show wpAny _ _ _ _ _ _;refine bB ?_;show wpAny _ _ (ret Value.none) _ _ _;refine bB ⟨rfl,h',tk',L',rfl,S',N',l',m',λb o e=>?_⟩;have lt:=cY e;exact mv.heap b o (by rw[hs1];simp only[List.mem_cons,List.not_mem_nil,or_false,not_or];exact⟨Nat.ne_of_lt lt,Nat.ne_of_lt (Nat.lt_succ_of_lt lt)⟩) (Heap.get?_push_of_some _ (Heap.get?_push_of_some _ e))
   ·cases r2 with
    |error e=>exact hr2
    |ok f2=>
     cases f2 with
     |ret r=>
      obtain⟨rfl,h',tk,L,rfl,S',N',l',m',k'⟩:=hr2
      repeat (any_goals (first|assumption|wp_step))
      exact h _ _ _ S' N' l' m' k'
     |_=>exact hr2.elim
  |_=>exact hr.elim
end
section
open PyProof.Rows
variable{X:Cx}
def zy(w:World)(L:List Str)(a:Addr):HO:=.ext λh=>gM w h a L
theorem zy.ok{P:Program}{w:World}{H:Hp}{h:Heap}{a:Addr}{L:List Str}(S:gM w h a L):bg P w H h a (zy w L a):=
 ⟨S,let ⟨_,_,_,ho,_⟩:=S;⟨_,ho⟩,λ_ _ s k=>s.keep k⟩
def Uq(w:World)(K:Wf):List V->Hp->VK->Prop:=λxs H Q=>∃(p:Addr) (ss:List Str),xs=[.ref p]/\aA K H p (ss.map V.str)/\ss.length<4000/\∀(q:Addr) (L:List Str),H q=none->L.Nodup->L.length<=ss.length->(∀y,y∈L↔y∈ss)->Q (.ref q) (upd H q (zy w L q))
theorem Ir(hc:X.calm=true):dA X (.type "set") (Uq X.w X.K):=by
 intro pins s σ H xs us Q I r h;obtain⟨p,ss,rfl,hq,hz,q⟩:=h;obtain⟨u,rfl,rx⟩:=vals1 r;cases rx;obtain⟨its,r',pl,_⟩:=I.list hq;have hl:its.length=ss.length:=by rw[<-r'.length,aI]
 have at_:∀(i:Nat) (v:Value),its.toArray[i]?=some v->∃t,v=Value.str (ss.getD i Str.empty) t:=λi v hv=>by
  rw[List.getElem?_toArray]at hv;have hi:i<ss.length:=by rw[<-hl];exact(hV.mp hv).1
  obtain⟨u,hu,ru⟩:=r'.get (i:=i) (x:=.str ss[i]) (by rw[jA,lz hi];rfl);rw[hv]at hu;cases hu;obtain⟨t,rfl⟩:=ru;exact⟨t,by rw[Sq,lz hi];rfl⟩
 refine Dz (I.ok.hd hc) pl.isList at_ (by rw[hU,hl];show _<4096;omega) λh' tk L S N hle hm kp=>?_;rw[hU,hl]at hle;refine⟨.ref s.heap.objs.size,_,I.laid (a:=s.heap.objs.size) (o:=zy X.w L s.heap.objs.size) (t':=tk) kp (bw _) (zy.ok S),rfl,q _ L (I.aW.fresh (bw _)) N hle λy=>?_⟩;rw[hm y,hU,hl];constructor
 ·rintro⟨j,hj,rfl⟩;rw[Sq,lz hj];exact Om hj
 ·intro z;obtain⟨j,hj,rfl⟩:=B7 z;exact⟨j,hj,by rw[Sq,lz hj];rfl⟩
def xO(w:World):List V->Hp->VK->Prop:=λxs H Q=>∃(p:Addr) (L:List Str),xs=[.ref p]/\H p=some (zy w L p)/\L.length<64/\∀(l:Addr) (ss':List Str),H l=none->ss'.Perm L->ss'.Pairwise D1->Q (.ref l) (upd H l (.lst (ss'.map V.str)))
theorem oo(hc:X.calm=true):dA X (.builtin "sorted") (xO X.w):=by
 intro pins s σ H xs us Q I r h;obtain⟨p,L,rfl,hq,hz,q⟩:=h;obtain⟨u,rfl,rx⟩:=vals1 r;cases rx;have S:gM X.w s.heap p L:=(I.aW p _ hq).1;have hh:X.A.in1.handled=none:=by simp[I.ok.hd hc]
 refine mK (yi S hh λs1 vs ord kp g1 o1 pm hl at_=>?_);refine⟨ord,tN hl at_,by rw[hl,pm.length_eq];exact hz,λh2 out ss' D e k2 hD hg S2 pm2 pw=>?_⟩;have I1:Inv X pins σ H s1:=I.Av (ch:=[]) o1 (Un.kept kp) (I.aW.kept kp) (g1▸I.bare) λb hb=>nomatch hb
 exact⟨.ref D,_,I1.laid (a:=D) (o:=.lst (ss'.map V.str)) (t':=s1.toks) k2 hD ⟨by rw[aI,pm2.length_eq,pm.length_eq,sizeLine_eq];omega,out,e,n_ S2,by simpa using hg⟩,rfl,q _ ss' (I1.aW.fresh hD) (pm2.trans pm) pw⟩
end
end L2
namespace L2
open PySem PySem.Spec PyProof.Rows
section
variable{prog:Program}{w:World}{K:Type} [DecidableEq K]{knd:HeapKind prog w K}{A:Around}{E:Vs}{s:Shared}
theorem grown{d a:Addr}{o:Obj}{es:Array DictEntry}{ep:Nat}{xs:List (K×Addr×Value)}{k:K}{v:Value}{h:Heap}(ho:h.get? d=some o)(hd:o.data=.dict es ep)(hc:o.ExactDict)
  (he:es.toList=xs.map (entryOfKey knd)) (his:∀x∈xs,knd.is h x.1 x.2.1) (hn:(xs.map (·.1)).Nodup) (hkey:knd.is h k a) (hno:∀(j:Nat) (p:Addr×Value),xs[j]?≠some (k,p)):
  (h.update d (Obj.mapDictKeys λl=>l.push ⟨knd.hash k,.ref a,v⟩)).DictOfH knd d (storedH xs k a v):=by
 have e:storedH xs k a v=xs++[(k,a,v)]:=storedH_new (atKey_none_of_get hno) a v;have keep:∀{c:K}{b:Addr},knd.is h c b->knd.is (h.update d (Obj.mapDictKeys λl=>l.push ⟨knd.hash k,.ref a,v⟩)) c b:=λq=>knd.keeps q ho hd (Heap.SameBut.update ..);have dat:=Obj.data_mapDictKeys hd λl=>l.push ⟨knd.hash k,.ref a,v⟩;refine e▸⟨_,es.push ⟨knd.hash k,.ref a,v⟩,ep+1,Ov _ ho (Obj.isFreed_of_dict dat),hc.mapDictKeys _,dat,?_,?_,?_⟩
 ·rw[Array.toList_push,he,bP];rfl
 ·exact λx hx=>(cy.mp hx).elim (λq=>keep (his x q)) λq=>by cases cD.mp q;exact keep hkey
 ·rw[bP];refine lD.mpr ⟨hn,by simp,λx hx y hy q=>not_mem_keys_of_get hno ?_⟩;have ey:y=k:=by simpa using hy
  rw[<-ey,<-q];exact hx
theorem yz{d a:Addr}{xs:List (K×Addr×Value)}{k:K}{v:Value}{Q:Vs}(hu:knd.room A)(hkey:knd.is s.heap k a)(hm:s.heap.DictOfH knd d xs)(hsz:xs.length<=sizeLine)
  (there:∀u,(atKey xs k).map (·.2)=some u->Q u { s with toks:=s.toks+knd.draws k })
  (new:(atKey xs k).map (·.2)=none->∀h',h'.DictOfH knd d (storedH xs k a v)->Heap.SameBut d s.heap h'->Q v { s with heap:=h',toks:=s.toks+knd.draws k }):
  wpAny (model prog w) A (dictSetDefault d (.ref a) v) Q E s:=by
 obtain⟨o,es,ep,ho,hc,hd,he,his,hn⟩:=hm;have hes:es.size<=sizeLine:=by rw[size_of_entries he];exact hsz
 have none_of:∀hno:(∀(j:Nat) (p:Addr×Value),xs[j]?≠some (k,p)),(atKey xs k).map (·.2)=none:=λhno=>by rw[atKey_none_of_get hno];rfl
 exact D_ (aC (knd.pyHash hu hkey (aC (wpAny_dictFind_heap (s:={ s with toks:=s.toks+knd.draws k }) hu hkey ho hd he his hn
  (λhno=>aC (Oh (aC (wpAny_updateDictKeys (hz:=hes) (s:={ s with toks:=s.toks+knd.draws k }) ho hd (bB (new (none_of hno) _ (grown ho hd hc he his hn hkey hno) (Heap.SameBut.update ..)))))))
  λj p hj=>aC (wpAny_dictEntries (s:={ s with toks:=s.toks+knd.draws k }) ho hd (by
   rw[entry_at he j,hj];exact aC (Oh (bB (there p.2 (by rw[atKey_of_get hn hj];rfl))))))))))
theorem Jn(knd:HeapKind prog w K){d:Addr}(a:Addr)(hd:(d == sysModules)=false)(x:Value):
  MeetsIn prog w (Builtin.«dict.setdefault» ⟨[.ref d,.ref a,x],[]⟩) λA R s=>knd.room A.in1/\∃k xs,knd.is s.heap k a/\s.heap.DictOfH knd d xs/\xs.length<=sizeLine/\
   (∀v,(atKey xs k).map (·.2)=some v->R (.ok (.ret v)) { s with toks:=s.toks+knd.draws k })/\
   ((atKey xs k).map (·.2)=none->∀h',h'.DictOfH knd d (storedH xs k a x)->Heap.SameBut d s.heap h'->R (.ok (.ret x)) { s with heap:=h',toks:=s.toks+knd.draws k }):=by
 refine .of_wp ?_;rintro A R s ⟨hu,k,xs,hkey,hm,hz,there,new⟩;have main:=yz (v:=x) (E:=λe s'=>R (.error e) s') (Q:=λv s'=>R (.ok (.ret v)) s') hu hkey hm hz there new;refine aC (aC (wpAny_notOrdered_dict hm.typeIs (bB ?_)));simp only[hd,Bool.false_eq_true,if_false];exact aC (pG main (λv s' q=>bB ⟨v,rfl,q⟩) λ_ _ q=>q)
end
section
variable{X:Cx}{pins:Lo}{σ:St}{H:Hp}{s:Shared}{a:Addr}{y d:V}{u r:Value}{o:Option V}{A:Around}{E:Vs}
theorem JC{H':Hp}{Q:Vs}(hu:A.units+1<cLine)(I:Inv X pins σ H s)(g:bT H a y o)(p:dG H a y d H')(ry:RelV y u)(rd:RelV d r)
  (h1:∀v w' s',o=some v->Inv X pins σ H s'->RelV v w'->Q w' s') (h2:∀w' s',o=none->Inv X pins σ H' s'->RelV d w'->Q w' s'):
  wpAny (model X.prog X.w) A (call (.builtin "dict.setdefault") [.ref a,u,r]) Q E s:=by
 rcases p with ⟨kvs,k,e,ey,l,eH⟩|⟨kvs,k,b,e,ey,eb,l,eH⟩
 ·subst ey eH;obtain⟨z,hd,vs,rel,dd⟩:=mM I.aW e;have go:o=bj kvs k:=by
   rcases g with ⟨kvs',k',e',ey',l'⟩|⟨kvs',k',b,e',ey',eb',l'⟩
   ·have ek:k'=k:=by cases k<;>cases k'<;>simp_all [kV]
    rcases e' with e'|⟨ob,e'⟩
    ·rw[e]at e';cases e';rw[l',ek]
    ·rw[e]at e';cases e'
   ·cases k<;>cases ey'
  have hz:vs.length<=sizeLine:=by rw[<-rel.length];exact z
  have hl:(putK kvs k d).length<=sizeLine:=by have:=xF kvs k d;omega
  refine call_meetsIn PySem.F.slot_dict_setdefault dd.typeIs PySem.F.entry_dict_setdefault (PySem.F.args_dict_setdefault_3 _ _ _) (kt_meets_setdefault (bc X.prog X.w) a (ju ry) hd r) ⟨vs,dd,hz,λv hv=>?_,λhn h' dd' hs=>?_⟩
  ·have q:=rel.val k;rw[hv]at q;cases ho:bj kvs k with
   |none=>rw[ho]at q;exact q.elim
   |some v'=>rw[ho]at q;exact h1 v' v _ (by rw[go,ho]) (I.tok _) q
  ·have q:=rel.val k;rw[hn]at q;have ho:bj kvs k=none:=by
    cases ho:bj kvs k with
    |none=>rfl
    |some v'=>rw[ho]at q;exact q.elim
   have he:∃q,h'.get? a=some q:=let ⟨q,_,_,hq,_⟩:=dd';⟨q,hq⟩
   exact h2 r _ (by rw[go,ho]) (ig I (by rw[e];exact True.intro) hs he (zq hl hd (rel.put k rd) dd')) rd
 ·subst ey eH;cases (show u=Value.ref b from ry);obtain⟨z,hd,xs,rel,dd⟩:=N8 I.aW e;have go:o=bj kvs k:=by
   rcases g with ⟨kvs',k',e',ey',l'⟩|⟨kvs',k',b',e',ey',eb',l'⟩
   ·cases k'<;>cases ey'
   ·cases ey';have ek:k'=k:=by
     rw[eb]at eb';injection eb' with eb';injection eb' with eb';exact(List.map_inj_right (f:=kV) (by intro x y q;cases x<;>cases y<;>simp_all [kV])).mp eb'.symm
    rcases e' with e'|⟨ob,e'⟩
    ·rw[e]at e';cases e';rw[l',ek]
    ·rw[e]at e';cases e'
  have hz:xs.length<=sizeLine:=by rw[<-Paired.length rel];exact z
  have hl:(putK kvs k d).length<=sizeLine:=by have:=xF kvs k d;omega
  refine call_meetsIn PySem.F.slot_dict_setdefault dd.typeIs PySem.F.entry_dict_setdefault (PySem.F.args_dict_setdefault_3 _ _ _) (Jn (tupleKind (bc X.prog X.w)) b hd r) ⟨tupleKind_room_in1 hu,k,xs,gh I.aW eb,dd,hz,λv hv=>?_,λhn h' dd' hs=>?_⟩
  ·have q:=rel.val k;rw[hv]at q;cases ho:bj kvs k with
   |none=>rw[ho]at q;exact q.elim
   |some v'=>rw[ho]at q;exact h1 v' v _ (by rw[go,ho]) (I.tok _) q
  ·have q:=rel.val k;rw[hn]at q;have ho:bj kvs k=none:=by
    cases ho:bj kvs k with
    |none=>rfl
    |some v'=>rw[ho]at q;exact q.elim
   obtain⟨qo,es,ep,hq,g2,g3,g4,_,g5⟩:=dd';refine h2 r _ (by rw[go,ho]) (ig I (by rw[e];exact True.intro) hs ⟨qo,hq⟩ ⟨hl,hd,_,(rel.put k eb rd).keeps λc ys ec=>?_,qo,es,ep,hq,g2,g3,g4,g5⟩) rd;rw[ae (ba ec e (λz=>nomatch z))];exact ec
end
def V3(td ty tx:TE):TE:=λσ H Q=>td σ H λx H1=>∃a,x=.ref a/\VG H1 a/\ty σ H1 λy H2=>tx σ H2 λz H3=>∃o H4,bT H3 a y o/\dG H3 a y z H4/\(∀v,o=some v->Q v H3)/\(o=none->Q z H4)
section
variable{X:Cx}{o e f:Expr}{apos cpos:Pos}{td ty tx:TE}
theorem HB(hu:X.A.units+1<cLine)(ho:PE X o td)(he:PE X e ty)(hf:PE X f tx)(m:M2 X o "setdefault" apos e f cpos):PE X (.Call (.Attribute o "setdefault" apos) [e,f] [] cpos) (V3 td ty tx):=by
 intro pins s σ H Q I h;refine wpAny_Call_method m.base m.d7 m.line PySem.F.plainAttrs_dict PySem.F.slot_dict_setdefault PySem.F.type_dict_setdefault (bA (ho pins s σ H _ I h) λu s1 ⟨x,H1,I1,rx,a,ex,d,q1⟩=>?_);subst ex;obtain rfl:u=Value.ref a:=rx;obtain⟨t1,t2,_⟩:=Ah I1 d;refine⟨t1,t2,?_⟩;rw[m.trees];refine Calls.callWith_builtin rfl (Calls.evalArgs_plain (Calls.spliced_cons (bA (he pins s1 σ H1 _ I1 q1) λiv s2 ⟨y,H2,I2,ry,q2⟩=>
  Calls.spliced_cons (bA (hf pins s2 σ H2 _ I2 q2) λfv s3 ⟨z,H3,I3,rz,ov,H4,g,p,q3,q4⟩=>Calls.spliced_nil ?_))))
 exact JC hu I3 g p ry rz (λv w' s4 e4 I4 rw'=>⟨v,H3,I4,rw',q3 v e4⟩) (λw' s4 e4 I4 rw'=>⟨z,H4,I4,rw',q4 e4⟩)
end
section
variable{prog:Program}{w:World}{A:Around}{E:Vs}{s:Shared}{kd:SortKind}{r:Keyed->Nat}{base:Array Keyed}
def rk(r:Keyed->Nat)(xs:Array Keyed)(i:Nat):Nat:=(xs[i]?.map r).getD 0
def eC(r:Keyed->Nat)(xs:Array Keyed)(n:Nat):Prop:=∀i j,i<=j->j<n->rk r xs i<=rk r xs j
def iz(r:Keyed->Nat)(xs:Array Keyed)(n:Nat):Prop:=∀i j,i<=j->j<n->rk r xs j<=rk r xs i
def Flat(r:Keyed->Nat)(xs:Array Keyed)(n q:Nat):Prop:=q+1<=n/\∀i,n<=i+(q+1)->i<n->rk r xs i=rk r xs (n - 1)
theorem eC.one(xs:Array Keyed):eC r xs 1:=λi j a b=>by rw[show i=j by omega];exact bw _
theorem iz.one(xs:Array Keyed):iz r xs 1:=λi j a b=>by rw[show i=j by omega];exact bw _
theorem eC.more(h:eC r xs n)(h1:1<=n)(hn:rk r xs (n - 1)<=rk r xs n):eC r xs (n+1):=λi j a b=>by
 by_cases z:j<n
 ·exact h i j a z
 ·rw[show j=n by omega];by_cases y:i=n
  ·rw[y];exact bw _
  ·exact jt (h i (n - 1) (by omega) (by omega)) hn
theorem iz.more(h:iz r xs n)(h1:1<=n)(hn:rk r xs n<=rk r xs (n - 1)):iz r xs (n+1):=λi j a b=>by
 by_cases z:j<n
 ·exact h i j a z
 ·rw[show j=n by omega];by_cases y:i=n
  ·rw[y];exact bw _
  ·exact jt hn (h i (n - 1) (by omega) (by omega))
theorem jX(hj:j<=xs.size)(k:Nat):rk r (mirror xs i j ((j - i)/2)) k=if i<=k/\k<j then rk r xs (i+j - 1 - k) else rk r xs k:=by
 unfold rk;rw[getElem?_mirror_all hj k];by_cases z:i<=k/\k<j
 ·rw[if_pos z,if_pos z]
 ·rw[if_neg z,if_neg z]
theorem CK(h:Flat r xs n q)(hn:n<=xs.size)(k:Nat):rk r (mirror xs (n - (q+1)) n ((n - (n - (q+1)))/2)) k=rk r xs k:=by
 rw[jX hn];by_cases z:n - (q+1)<=k/\k<n
 ·rw[if_pos z,h.2 _ (by omega) (by omega),h.2 k (by omega) (by omega)]
 ·rw[if_neg z]
theorem iz.turned(h:iz r xs n)(hn:n<=xs.size):eC r (mirror xs 0 n ((n - 0)/2)) n:=λi j a b=>by
 rw[jX hn,jX hn,if_pos (by omega),if_pos (by omega)];exact h _ _ (by omega) (by omega)
structure jV(kd:SortKind)(base:Array Keyed)(st:SortSt):Prop where
 pm:(arrOf st).Perm base
 kd:kindOf st=kd
 ok:failedOf st=none
 pn:pendingOf st=#[]
theorem jV.len{st:SortSt}(h:jV kd base st):(arrOf st).size=base.size:=h.pm.size_eq
theorem jV.put{st:SortSt}(h:jV kd base st){xs:Array Keyed}(p:xs.Perm (arrOf st)):jV kd base (setArr st xs):=⟨p.trans h.pm,h.kd,h.ok,h.pn⟩
def wb(prog:Program)(w:World)(A:Around)(E:Vs)(s:Shared)(kd:SortKind)(r:Keyed->Nat)(base:Array Keyed):Prop:=
 ∀x∈base.toList,∀y∈base.toList,∀Q:Bool->Shared->Prop,Q (decide (r x<r y)) s->wpAny (model prog w) A (keyLt' kd x.1 y.1) Q (λ_ _=>False) s
theorem asked{st:SortSt}{i j:Nat}{Q:Option Bool->SortSt->Prop}(ask:wb prog w A E s kd r base)(S:jV kd base st)(hi:i<base.size)(hj:j<base.size)
  (q:Q (some (decide (rk r (arrOf st) i<rk r (arrOf st) j))) st):wpS (model prog w) A E s (ltAt' i j) Q st:=by
 have li:i<(arrOf st).size:=by rw[S.len];exact hi
 have lj:j<(arrOf st).size:=by rw[S.len];exact hj
 have ei:(arrOf st)[i]?=some (arrOf st)[i]:=getElem?_pos _ i li;have ej:(arrOf st)[j]?=some (arrOf st)[j]:=getElem?_pos _ j lj;have mem:∀{k:Nat}(h:k<(arrOf st).size),(arrOf st)[k]∈base.toList:=λ{k} h=>(Array.perm_iff_toList_perm.mp S.pm).mem_iff.mp (Array.getElem_mem_toList h);unfold rk at q;rw[ei,ej]at q;rw[ltAt'_eq];refine wpS_bind (wpS_get ?_);dsimp only;rw[elem'_eq,elem'_eq,ei,ej];refine wpS_bind (wpS_pure (wpS_bind (wpS_pure ?_)));rw[lt'_eq];refine wpS_bind (wpS_get (wpS_bind (wpS_lift (Rk ?_))));rw[S.kd];exact pG (ask _ (mem li) _ (mem lj) (λb s'=>b=decide (r (arrOf st)[i]<r (arrOf st)[j])/\s'=s) ⟨rfl,rfl⟩) (λb s' ⟨e1,e2⟩=>⟨e2,by subst e1;exact wpS_pure q⟩) λ_ _ z=>z.elim
theorem yS{st:SortSt}{a n:Nat}{Q:AscSt->SortSt->Prop}(ask:wb prog w A E s kd r base)(S:jV kd base st)(ha:1<=a)(han:a<=n)(hn:n<=base.size)(up:eC r (arrOf st) a)
  (k:∀m,a<=m->m<=n->eC r (arrOf st) m->(m=n\/rk r (arrOf st) m<rk r (arrOf st) (m - 1))->Q (none,m) st):wpS (model prog w) A E s (ascLoop a n) Q st:=by
 refine wpS_forRange (I:=λm c st'=>st'=st/\c=(none,m)/\eC r (arrOf st) m) (λm c st' am mn ⟨e1,e2,up'⟩=>?_) (λc st' ⟨e1,e2,up'⟩=>?_) ⟨rfl,rfl,up⟩
 ·subst e1 e2;refine wpS_bind (asked ask S (by omega) (by show m - 1<_;omega) ?_);by_cases lt:rk r (arrOf st') m<rk r (arrOf st') (m - 1)
  ·simp only[decide_eq_true lt,if_true];exact wpS_pure (k m am (by omega) up' (.inr lt))
  ·simp only[decide_eq_false lt,Bool.false_eq_true,if_false];exact wpS_pure ⟨rfl,rfl,up'.more (by omega) (by omega)⟩
 ·subst e1 e2;have e:max a n=n:=by omega
  rw[e]at up' ⊢;exact k n han (bw _) up' (.inl rfl)
theorem l_{st:SortSt}{m n:Nat}{Q:Option Nat->SortSt->Prop}(ask:wb prog w A E s kd r base)(S:jV kd base st)(h1:1<=m)(hm:m<=n)(hn:n<=base.size)(dn:iz r (arrOf st) m)
  (k:∀j st',jV kd base st'->1<=j->j<=n->eC r (arrOf st') j->Q (some j) st'):wpS (model prog w) A E s (tail3 m n) Q st:=by
 have up:=dn.turned (by rw[S.len];omega);have S':=S.put (mirror_perm (arrOf st) 0 m ((m - 0)/2));exact wpS_bind (wpS_reverse (wpS_bind (yS ask S' h1 hm hn up λj mj jn up' _=>wpS_pure (k j _ S' (by omega) jn up'))))
theorem Dl{st:SortSt}{a n:Nat}{Q:DescSt->SortSt->Prop}(ask:wb prog w A E s kd r base)(S:jV kd base st)(ha:1<=a)(han:a<=n)(hn:n<=base.size)(dn:iz r (arrOf st) a)
  (k:∀m q st',jV kd base st'->a<=m->m<=n->iz r (arrOf st') m->Flat r (arrOf st') m q->Q (none,m,q) st'):wpS (model prog w) A E s (descLoop a n) Q st:=by
 refine wpS_forRange (I:=λm c st'=>jV kd base st'/\∃q,c=(none,m,q)/\iz r (arrOf st') m/\Flat r (arrOf st') m q) (λm c st' am mn ⟨S',q,e,dn',fl⟩=>?_) (λc st' ⟨S',q,e,dn',fl⟩=>?_)
  ⟨S,0,rfl,dn,ha,λi p1 p2=>by rw[show i=a - 1 by omega]⟩
 ·subst e;have sz:m<(arrOf st').size:=by rw[S'.len];omega
  have one:∀xs:Array Keyed,Flat r xs (m+1) 0:=λxs=>⟨by omega,λi a b=>by rw[show i=m by omega];rfl⟩;refine wpS_bind (asked ask S' (by show m<_;omega) (by show m - 1<_;omega) ?_);by_cases lt:rk r (arrOf st') m<rk r (arrOf st') (m - 1)
  ·simp only[decide_eq_true lt,if_true];by_cases q0:q>0
   ·rw[if_pos q0];have same:=CK fl (LQ sz);refine wpS_bind (wpS_reverse (wpS_pure ⟨S'.put (mirror_perm ..),0,rfl,iz.more (λi j a b=>?_) (by omega) ?_,one _⟩))
    ·show rk r (mirror _ _ _ _) j<=rk r (mirror _ _ _ _) i;rw[same,same];exact dn' i j a b
    ·show rk r (mirror _ _ _ _) m<=rk r (mirror _ _ _ _) (m - 1);rw[same,same];exact LQ lt
   ·rw[if_neg q0];exact wpS_pure ⟨S',0,rfl,dn'.more (by omega) (LQ lt),one _⟩
  ·simp only[decide_eq_false lt,Bool.false_eq_true,if_false];refine wpS_bind (asked ask S' (by show m - 1<_;omega) (by show m<_;omega) ?_);by_cases gt:rk r (arrOf st') (m - 1)<rk r (arrOf st') m
   ·simp only[decide_eq_true gt,if_true];exact wpS_pure (k m q st' S' am (by omega) dn' fl)
   ·simp only[decide_eq_false gt,Bool.false_eq_true,if_false];refine wpS_pure ⟨S',q+1,rfl,dn'.more (by omega) (by omega),by have:=fl.1;omega,λi a b=>?_⟩;show _=rk r (arrOf st') m;by_cases z:i=m
    ·rw[z]
    ·have:=fl.2 i (by omega) (by omega);omega
 ·subst e;have e:max a n=n:=by omega
  rw[e]at dn' fl ⊢;exact k n q st' S' han (bw _) dn' fl
theorem mX{st:SortSt}{m n:Nat}{Q:Option Nat->SortSt->Prop}(ask:wb prog w A E s kd r base)(S:jV kd base st)(hm:m+1<=n)(hn:n<=base.size)(dn:iz r (arrOf st) (m+1))
  (k:∀j st',jV kd base st'->1<=j->j<=n->eC r (arrOf st') j->Q (some j) st'):wpS (model prog w) A E s (descPart m n) Q st:=by
 refine wpS_bind (wpS_lift (Oh ⟨rfl,wpS_bind (Dl ask S (by omega) hm hn dn λj q st' S' mj jn dn' fl=>?_)⟩));by_cases q0:q>0
 ·have same:=CK fl (by rw[S'.len];omega);simp only[q0,if_true];exact wpS_bind (wpS_reverse (l_ ask (S'.put (mirror_perm ..)) (by omega) jn hn (λi l a b=>by show rk r (mirror _ _ _ _) l<=rk r (mirror _ _ _ _) i;rw[same,same];exact dn' i l a b) k))
 ·simp only[q0,if_false];exact l_ ask S' (by omega) jn hn dn' k
theorem C2{st:SortSt}{n:Nat}{Q:Option Nat->SortSt->Prop}(ask:wb prog w A E s kd r base)(S:jV kd base st)(h1:1<=n)(hn:n<=base.size)
  (k:∀j st',jV kd base st'->1<=j->j<=n->eC r (arrOf st') j->Q (some j) st'):wpS (model prog w) A E s (countRun' 0 n) Q st:=by
 rw[countRun0_eq];refine wpS_bind (yS ask S (bw 1) h1 hn (eC.one _) λm m1 mn up why=>?_);by_cases z:m=n
 ·simp only[beq_iff_eq,z,if_true];exact wpS_pure (k n st S h1 (bw _) (z▸up))
 ·have lt:=why.resolve_left z;simp only[beq_iff_eq,z,if_false];by_cases m2:m>1
  ·rw[if_pos m2];refine wpS_bind (asked ask S (by omega) (by show m - 1<_;omega) ?_);by_cases rose:rk r (arrOf st) 0<rk r (arrOf st) (m - 1)
   ·simp only[decide_eq_true rose,if_true];exact wpS_pure (k m st S m1 mn up)
   ·simp only[decide_eq_false rose,Bool.false_eq_true,if_false];have eq:∀i,i<m->rk r (arrOf st) i=rk r (arrOf st) (m - 1):=λi hi=>by
     have a:=up 0 i (by omega) hi;have b:=up i (m - 1) (by omega) (by omega);omega
    have sz:m<=(arrOf st).size:=by rw[S.len];omega
    have same:∀i,rk r (mirror (arrOf st) 0 m ((m - 0)/2)) i=rk r (arrOf st) i:=λi=>by
     rw[jX sz];by_cases y:0<=i/\i<m
     ·rw[if_pos y,eq _ (by omega),eq i y.2]
     ·rw[if_neg y]
    refine wpS_bind (wpS_reverse (mX ask (S.put (mirror_perm ..)) (by omega) hn (λi j a b=>?_) k));show rk r (mirror (arrOf st) 0 m ((m - 0)/2)) j<=rk r (mirror (arrOf st) 0 m ((m - 0)/2)) i;rw[same,same];by_cases jm:j=m
    ·by_cases im:i=m
     ·rw[jm,im];exact bw _
     ·have:=eq i (by omega);rw[jm];omega
    ·have a1:=eq i (by omega);have a2:=eq j (by omega);omega
  ·rw[if_neg m2];have e:m=1:=by omega
   subst e;exact mX ask S (by omega) hn ((iz.one _).more (bw _) (LQ lt)) k
theorem yy(hk:k<xs.size)(hl:l<=k)(i:Nat):rk r (bubble xs k (k - l)) i=if i=l then rk r xs k else if l<i/\i<=k then rk r xs (i - 1) else rk r xs i:=by
 have e:=getElem?_bubble hk (k - l) (by omega) i;rw[show k - (k - l)=l by omega]at e;unfold rk;rw[e];by_cases a:i=l
 ·rw[if_pos a,if_pos a]
 ·rw[if_neg a,if_neg a];by_cases b:l<i/\i<=k
  ·rw[if_pos b,if_pos b]
  ·rw[if_neg b,if_neg b]
theorem QN{st:SortSt}{n ok:Nat}{Q:Bool->SortSt->Prop}(ask:wb prog w A E s kd r base)(S:jV kd base st)(h1:1<=ok)(aW:ok<=n)(hn:n<=base.size)(up:eC r (arrOf st) ok)
  (q:∀st',jV kd base st'->eC r (arrOf st') n->Q true st'):wpS (model prog w) A E s (binarySort' 0 n ok) Q st:=by
 rw[binarySort'_eq];simp only[Nat.zero_add];have e1:max ok 1=ok:=by omega
 rw[e1];refine wpS_bind (wpS_mono (wpS_forRange (I:=λk c st'=>c=(none,())/\jV kd base st'/\eC r (arrOf st') k) (Q:=λc st'=>c=(none,())/\jV kd base st'/\eC r (arrOf st') n) (λk c st' ak kn ⟨e,S',up'⟩=>?step) (λc st' ⟨e,S',up'⟩=>?fin) ⟨rfl,S,up⟩) ?post)
 case step=>
  subst e;have hk:k<(arrOf st').size:=by rw[S'.len];omega
  refine wpS_bind (wpS_mono (wpS_forRange (I:=λx c st2=>st2=st'/\∃l u,c=(none,l,u)/\l<=u/\u<=k/\u - l+x<=k/\(∀i,i<l->rk r (arrOf st') i<=rk r (arrOf st') k)/\∀i,u<=i->i<k->rk r (arrOf st') k<rk r (arrOf st') i)
   (Q:=λc st2=>st2=st'/\∃l u,c=(none,l,u)/\l<=k/\(∀i,i<l->rk r (arrOf st') i<=rk r (arrOf st') k)/\∀i,l<=i->i<k->rk r (arrOf st') k<rk r (arrOf st') i)
   (λx c st2 _ xk ⟨e,l,u,ec,lu,uk,small,lo,hi⟩=>?look) (λc st2 ⟨e,l,u,ec,lu,uk,small,lo,hi⟩=>⟨e,l,u,ec,by omega,lo,λi a b=>hi i (by omega) b⟩) ⟨rfl,0,k,rfl,by omega,by omega,by omega,λi a=>by omega,λi a b=>by omega⟩) ?move)
  case look=>
   subst e ec;dsimp only;by_cases z:l≥u
   ·rw[if_pos z];exact wpS_pure ⟨rfl,l,u,rfl,by omega,lo,λi a b=>hi i (by omega) b⟩
   ·rw[if_neg z];refine wpS_bind (asked ask S' (by omega) (by omega) ?_);by_cases lt:rk r (arrOf st2) k<rk r (arrOf st2) ((l+u)/2)
    ·simp only[decide_eq_true lt,if_true];exact wpS_pure ⟨rfl,l,(l+u)/2,rfl,by omega,by omega,by omega,lo,λi a b=>jF lt (up' _ _ a b)⟩
    ·simp only[decide_eq_false lt,Bool.false_eq_true,if_false];exact wpS_pure ⟨rfl,(l+u)/2+1,u,rfl,by omega,by omega,by omega,λi a=>jt (up' i ((l+u)/2) (by omega) (by omega)) (by omega),hi⟩
  case move=>
   rintro c st2 ⟨rfl,l,u,rfl,lk,lo,hi⟩;dsimp only;rw[moveDown'_eq];refine wpS_bind (wpS_modify (wpS_pure ⟨rfl,S'.put (bubble_perm ..),λi j a b=>?_⟩));show rk r (bubble (arrOf st2) k (k - l)) i<=rk r (bubble (arrOf st2) k (k - l)) j;rw[yy hk lk,yy hk lk];have U:=λx y (p:x<=y) (q:y<k)=>up' x y p q;by_cases c1:i=l
   ·rw[if_pos c1];by_cases c2:j=l
    ·rw[if_pos c2];exact bw _
    ·rw[if_neg c2,if_pos (by omega)];exact LQ (hi _ (by omega) (by omega))
   ·rw[if_neg c1];by_cases c3:l<i/\i<=k
    ·rw[if_pos c3,if_neg (by omega),if_pos (by omega)];exact U _ _ (by omega) (by omega)
    ·rw[if_neg c3];by_cases c2:j=l
     ·rw[if_pos c2];exact lo i (by omega)
     ·rw[if_neg c2];by_cases c4:l<j/\j<=k
      ·rw[if_pos c4];exact U _ _ (by omega) (by omega)
      ·rw[if_neg c4];exact U _ _ (by omega) (by omega)
 case fin=>
  have e2:max ok n=n:=by omega
  rw[e2]at up';exact⟨e,S',up'⟩
 case post=>
  rintro c st' ⟨rfl,S',up'⟩;exact wpS_pure (q st' S' up')
theorem EJ{st:SortSt}{Q:Unit->SortSt->Prop}(ask:wb prog w A E s kd r base)(S:jV kd base st)(h2:2<=base.size)(h64:base.size<64)
  (k:∀st',(arrOf st').Perm base->failedOf st'=none->eC r (arrOf st') base.size->Q () st'):wpS (model prog w) A E s sortRuns' Q st:=by
 have run:minRun' base.size base.size 0=base.size:=by
  generalize base.size=n at h2 h64;cases n with
  |zero=>omega
  |succ f=>rw[minRun'_succ,if_pos h64]
 rw[sortRuns'_eq];refine wpS_bind (wpS_get ?_);simp only[S.len,run];refine wpS_bind (wpS_mono (wpS_forRange (I:=λx c st'=>if x=0 then c=(none,0)/\jV kd base st' else c=(none,base.size)/\(arrOf st').Perm base/\failedOf st'=none/\(pendingOf st').size=1/\eC r (arrOf st') base.size)
  (Q:=λc st'=>c=(none,base.size)/\(arrOf st').Perm base/\failedOf st'=none/\(pendingOf st').size=1/\eC r (arrOf st') base.size) (λx c st' _ xn h=>?turn) (λc st' h=>?end_) ?start) ?rest)
 case start=>rw[if_pos rfl];exact⟨rfl,S⟩
 case end_=>rwa [if_neg (by omega)]at h
 case turn=>
  by_cases x0:x=0
  ·rw[if_pos x0]at h;obtain⟨rfl,S'⟩:=h;have pend:∀{st2:SortSt},jV kd base st2->eC r (arrOf st2) base.size->(arrOf (setPending st2 ((pendingOf st2).push (0,base.size,0)))).Perm base/\failedOf (setPending st2 ((pendingOf st2).push (0,base.size,0)))=none/\(pendingOf (setPending st2 ((pendingOf st2).push (0,base.size,0)))).size=1/\eC r (arrOf (setPending st2 ((pendingOf st2).push (0,base.size,0)))) base.size:=λ{st2} S2 up=>by
    refine⟨S2.pm,S2.ok,?_,up⟩;show((pendingOf st2).push (0,base.size,0)).size=1;rw[S2.pn];rfl
   dsimp only;rw[if_neg (by omega)];simp only[Nat.sub_zero,Nat.min_self,Nat.zero_add];refine wpS_bind (C2 ask S' (by omega) (bw _) λm st2 S2 m1 mn up=>?_);have last:∀{st3:SortSt},jV kd base st3->(pendingOf st3).back?=none:=λ{st3} S3=>by rw[S3.pn];rfl
   dsimp only;by_cases lt:m<base.size
   ·rw[if_pos lt];refine wpS_bind (wpS_lift (Oh ⟨rfl,wpS_bind (QN ask S2 m1 mn (bw _) up λst3 S3 up3=>?_)⟩));simp only[Bool.not_true,Bool.false_eq_true,if_false];refine wpS_bind (wpS_get ?_);rw[last S3];refine wpS_bind (wpS_modify (wpS_pure ?_));dsimp only;rw[if_neg (by omega)];exact⟨rfl,pend S3 up3⟩
   ·rw[if_neg lt];have e:m=base.size:=by omega
    subst e;refine wpS_bind (wpS_get ?_);rw[last S2];refine wpS_bind (wpS_modify (wpS_pure ?_));dsimp only;rw[if_neg (by omega)];exact⟨rfl,pend S2 up⟩
  ·rw[if_neg x0]at h;obtain⟨rfl,h⟩:=h;dsimp only;rw[if_pos (bw _)];exact wpS_pure ⟨rfl,h⟩
 case rest=>
  rintro c st' ⟨rfl,p1,p2,p3,p4⟩;refine wpS_bind (wpS_mono (wpS_forRange (I:=λ_ c st2=>c=(none,())/\st2=st') (Q:=λc st2=>c=(none,())/\st2=st') (λx c st2 _ _ ⟨e1,e2⟩=>?jf) (λ_ _ h=>h) ⟨rfl,rfl⟩) ?done)
  case jf=>
   subst e1 e2;refine wpS_bind (wpS_get ?_);rw[if_pos (Nat.le_of_eq p3)];exact wpS_pure ⟨rfl,rfl⟩
  case done=>
   rintro c st2 ⟨rfl,rfl⟩;exact wpS_pure (k st2 p1 p2 p4)
end
abbrev bX:=Str×Int
def lU(a b:bX):Bool:=if a.1=b.1 then decide (a.2<b.2) else decide (a.1.cps.toList<b.1.cps.toList)
def yE(a b:bX):Prop:=lU b a=false
theorem AU{a b:Str}(h:a.cps.toList=b.cps.toList):a=b:=by
 cases a;cases b;congr 1;exact Array.toList_inj.mp h
theorem Cd(a:bX):lU a a=false:=by unfold lU;rw[if_pos rfl];simp
theorem fc(a b:bX):lU a b=true↔a.1.cps.toList<b.1.cps.toList\/(a.1=b.1/\a.2<b.2):=by
 unfold lU;by_cases h:a.1=b.1
 ·rw[if_pos h,decide_eq_true_eq];exact⟨λq=>.inr ⟨h,q⟩,λq=>q.elim (λz=>absurd z (by rw[h];exact List.lt_irrefl _)) (·.2)⟩
 ·rw[if_neg h,decide_eq_true_eq];exact⟨.inl,λq=>q.elim id λz=>absurd z.1 h⟩
theorem iS(h1:lU a b=true)(h2:lU b c=true):lU a c=true:=by
 rw[fc]at *;rcases h1 with h1|⟨e1,h1⟩<;>rcases h2 with h2|⟨e2,h2⟩
 ·exact .inl (List.lt_trans h1 h2)
 ·exact .inl (by rw[<-e2];exact h1)
 ·exact .inl (by rw[e1];exact h2)
 ·exact .inr ⟨e1.trans e2,by omega⟩
theorem mh(h1:lU a b=false)(h2:lU b a=false):a=b:=by
 have n1:¬(a.1.cps.toList<b.1.cps.toList\/(a.1=b.1/\a.2<b.2)):=λq=>by rw[(fc a b).mpr q]at h1;cases h1
 have n2:¬(b.1.cps.toList<a.1.cps.toList\/(b.1=a.1/\b.2<a.2)):=λq=>by rw[(fc b a).mpr q]at h2;cases h2
 have e:a.1=b.1:=AU (List.le_antisymm (List.not_lt.mp λq=>n2 (.inl q)) (List.not_lt.mp λq=>n1 (.inl q)));have e2:a.2=b.2:=by
  have m1:¬a.2<b.2:=λq=>n1 (.inr ⟨e,q⟩);have m2:¬b.2<a.2:=λq=>n2 (.inr ⟨e.symm,q⟩);omega
 exact Prod.ext e e2
theorem C0(h1:yE a b)(h2:yE b c):yE a c:=by
 unfold yE at *;cases h:lU c a with
 |false=>rfl
 |true=>
  exfalso
  cases hb:lU b a with
  |true=>rw[hb]at h1;cases h1
  |false=>
   cases ha:lU a b with
   |true=>rw[iS h ha]at h2;cases h2
   |false=>rw[mh ha hb]at h;rw[h]at h2;cases h2
def mz(ds:List bX)(d:bX):Nat:=ds.countP λe=>lU e d
theorem mE{α:Type}{p q:α->Bool}:∀{l:List α},(∀x∈l,p x=true->q x=true)->(∃x∈l,q x=true/\p x=false)->l.countP p<l.countP q
 |[],_,⟨x,hx,_⟩=>nomatch hx
 |y::l,h,⟨x,hx,h1,h2⟩=>by
  have le:l.countP p<=l.countP q:=List.countP_mono_left λz hz hp=>h z (.tail _ hz) hp;rw[List.countP_cons,List.countP_cons];rcases hZ.mp hx with rfl|hx
  ·rw[if_pos h1,if_neg (by rw[h2];simp)];omega
  ·have:=mE (λz hz=>h z (.tail _ hz)) ⟨x,hx,h1,h2⟩;by_cases z:p y=true
   ·rw[if_pos z,if_pos (h y (.head _) z)];omega
   ·rw[if_neg z];split<;>omega
theorem yJ(ha:a∈ds):decide (mz ds a<mz ds b)=lU a b:=by
 cases h:lU a b with
 |true=>exact decide_eq_true (mE (λx _ q=>iS q h) ⟨a,ha,h,Cd a⟩)
 |false=>
  refine decide_eq_false (Nat.not_lt.mpr (List.countP_mono_left λx _ q=>?_));have le:yE x a:=C0 (a:=x) (b:=b) (c:=a) (by
   unfold yE;cases z:lU b x with
   |false=>rfl
   |true=>have:=iS q z;rw[Cd]at this;cases this) h
  cases z:lU x a with
  |true=>rfl
  |false=>
   have e:x=a:=mh z le;rw[e]at q;rw[q]at h;cases h
section
variable{prog:Program}{w:World}{A:Around}{E:Vs}{s:Shared}
def adr:Value->Addr
 |.ref b=>b
 |_=>0
def twice(bs:List Addr):List Keyed:=bs.map λb=>(Value.ref b,Value.ref b)
end
section
variable{X:Cx}
theorem mf:∀{as:List Addr},Vals (as.map V.ref) (as.map Value.ref)
 |[]=>.nil
 |_::_=>.cons rfl mf
end
section
variable{X:Cx}{e:Expr}{te:TE}{p1 p2 pos1 pos2:Pos}
def YA(K:Wf)(te:TE):TE:=λσ H Q=>te σ H λx H1=>∃p ys,x=.ref p/\aA K H1 p ys/\ys.length<sizeLine/\∀l,H1 l=none->Q (.ref l) (upd H1 l (.lst ys.reverse))
end
def ij(P:Addr)(H H':Hp):Prop:=∀b o,b≠P->H b=some o->H' b=some o
def Jc(c:Addr)(q:Str):HO:=.ext λh=>h.CodeRec (.ref c) q
def Dk(f:Addr)(o:Obj):HO:=.ext λh=>h.get? f=some o
def gG(P:Addr)(pos:Pos)(q:Str)(H:Hp):Prop:=∃ps:Array Value,H P=some (.g9 ps)/\TriplesOk ps.toList/\(codeAmong pos ps.toList=none\/∃c,codeAmong pos ps.toList=some (.ref c)/\H c=some (Jc c q))
theorem gG.more(h:gG P pos q H)(s:∀b o,H b=some o->H' b=some o):gG P pos q H':=by
 obtain⟨ps,h1,h2,h3⟩:=h;exact⟨ps,s _ _ h1,h2,h3.imp id λ⟨c,h4,h5⟩=>⟨c,h4,s _ _ h5⟩⟩
theorem LR(e:h.CodeRec (.ref c) q):bg P w H h c (Jc c q):=by
 refine⟨e,?_,?_⟩
 ·obtain⟨c',o,_,_,e1,e2,_⟩:=e;cases e1;exact⟨o,e2⟩
 ·rintro h1 h2 ⟨c',o,vs,t,e1,e2,e3⟩ k;cases e1;exact⟨c,o,vs,t,rfl,k o e2,e3⟩
theorem Cu(e:h.get? f=some o):bg P w H h f (Dk f o):=⟨e,⟨o,e⟩,λ_ _ e1 k=>k o e1⟩
def BMod(K:Wf)(mg:So):Prop:=∃(bm:Addr) (sl:Array (Option Value)),mg s!"__builtins__"=some (.ref bm)/\bm≠builtinsNs/\bm≠mainGlobals/\K.lookup bm=some ⟨.type "module", some builtinsNs,.plain,sl⟩
section
variable{X:Cx}{pins:Lo}{σ:St}{H:Hp}{s:Shared}
theorem Inv.grow{P c f:Addr}{ps more:Array Value}{o1 o2:HO}{h':Heap}{t':Nat}(I:Inv X pins σ H s)(hP:H P=some (.g9 ps))(k:∀b o,b≠P->s.heap.get? b=some o->h'.get? b=some o)(hP':h'.get? P=some (tabObj (ps++more)))
  (hc:s.heap.objs.size<=c) (hf:s.heap.objs.size<=f) (hcf:c≠f) (ok1:∀H'',bg X.prog X.w H'' h' c o1) (ok2:∀H'',bg X.prog X.w H'' h' f o2):
  Inv X pins σ (upd (upd (upd H P (.g9 (ps++more))) c o1) f o2) { s with heap:=h',toks:=t' }:=by
 have c0:H c=none:=I.aW.fresh hc;have f0:H f=none:=I.aW.fresh hf;have cP:P≠c:=bD hP c0;have fP:P≠f:=bD hP f0;have get:∀b,b≠P->b≠c->b≠f->upd (upd (upd H P (.g9 (ps++more))) c o1) f o2 b=H b:=λb n1 n2 n3=>by rw[ae n3,ae n2,ae n1]
 have old:∀b o,s.heap.get? b=some o->b≠c/\b≠f:=λb o e=>⟨gI (jF (cY e) hc),gI (jF (cY e) hf)⟩;have yW:∀b o,H b=some o->b≠P->upd (upd (upd H P (.g9 (ps++more))) c o1) f o2 b=some o:=λb o e n=>by
  rw[get b n (bD e c0) (bD e f0)];exact e
 have atP:upd (upd (upd H P (.g9 (ps++more))) c o1) f o2 P=some (.g9 (ps++more)):=by rw[ae fP,ae cP,aD]
 refine I.un ⟨λb o e n _ _=>k b o (λz=>by rw[z,hP]at n;cases n) e,λb o e n _ _=>⟨o.slots,k b o (λz=>by rw[z,hP]at n;cases n) e⟩,λb o e n _=>?_,λb o e _=>?_,λb xs e=>yW b _ e (λz=>by rw[z,hP]at e;cases e),λb o u e=>yW b _ e (λz=>by rw[z,hP]at e;cases e),λb ps' e=>?_⟩ λb u e=>?_
 ·rw[get b (λz=>by rw[z,hP]at n;cases n) (old b o e).1 (old b o e).2];exact n
 ·by_cases z:b=P
  ·rw[z];exact⟨_,hP'⟩
  ·exact⟨o,k b o z e⟩
 ·by_cases z:b=P
  ·rw[z,hP]at e;cases e;rw[z];exact⟨more,atP⟩
  ·exact⟨#[],by rw[yW b _ e z];simp⟩
 ·by_cases z3:b=f
  ·rw[z3,aD]at e;cases e;rw[z3];exact ok2 _
  ·by_cases z2:b=c
   ·rw[z2,ae hcf,aD]at e;cases e;rw[z2];exact ok1 _
   ·by_cases z1:b=P
    ·rw[z1,atP]at e;cases e;rw[z1];exact hP'
    ·rw[get b z1 z2 z3]at e;refine(I.aW b u e).jf (λd v hd q=>k d v ?_ q) (λd q=>yW d _ q (λz=>by rw[z,hP]at q;cases q)) λd xs q=>yW d _ q (λz=>by rw[z,hP]at q;cases q);rcases hd with z|z
     ·rw[z];exact z1
     ·intro y;rw[y,hP]at z;cases z
theorem IF{A:Around}{P c:Addr}{pos:Pos}{x q:Str}{pr:Arguments}{bd:Expr}{sc:Scope}{line:Nat}{E:Vs}{Q:Vs}(I:Inv X pins σ H s)(hcl:closureFor sc X.env=pure [])(hcd:X.env.code=.ref c)(hc:codeHdIn X.K c P=true)(hb:BMod X.K X.mg)(ht:gG P pos q H)
  (k:∀(f c':Addr) (ctv pm:Value) (H':Hp) (s':Shared),Inv X pins σ H' s'->ij P H H'->gG P pos q H'->H f=none->f≠P->H' f=some (Dk f (kla_obj x q pr bd sc [] pm c' ctv))->H' c'=some (Jc c' q)->Q (.ref f) s'):
  wpAny (model X.prog X.w) A (makeFunction x q pr (.expr bd) sc X.env [] [] [] pos line) Q E s:=by
 obtain⟨ps,hP,tri,cs⟩:=ht;have gP:s.heap.get? P=some (tabObj ps):=I.aW P _ hP;have ns:s.heap.Ns mainGlobals X.mg:=I.ok.mod.glob.keeps I.bk;have nP:∀b o,X.base.get? b=some o->b≠P:=λb o e z=>by
  have:=(I.bs b o e).2;rw[z,hP]at this;cases this
 have mP:mainGlobals≠P:=by
  obtain⟨o,_,_,e,_⟩:=I.ok.mod.glob;exact nP _ o e
 have hd:PySem.W.CodeHd s.heap c P:=codeHd_of_K I.i8 hc;have bl:s.heap.BuiltinsAt X.mg P:=by
  obtain⟨bm,sl,e1,e2,e3,e4⟩:=hb;exact⟨bm,_,e1,e2,e3,nP bm _ (I.ok.mod.Q3 _ _ e4),I.i8 _ _ e4,rfl,rfl,rfl⟩
 rcases cs with cs|⟨c',cs,hc'⟩
 ·refine PySem.W.kla_makeFunction hcl I.ok.glob ns hcd hd gP tri cs mP bl λc' ctv h' tk ext h1 h2 h3 h4=>?_;have pk:∀b o,h'.get? b=some o->(h'.push (kla_obj x q pr bd sc [] ((X.mg s!"__name__").getD .none) c' ctv)).get? b=some o:=λb o e=>d9 _ e;have sz:s.heap.objs.size<=h'.objs.size:=by omega
  have fP:P≠h'.objs.size:=gI (cY h4);have cP:P≠c':=gI (jF (cY gP) h1);have J:=I.grow (P:=P) (c:=c') (f:=h'.objs.size) (t':=tk) (h':=h'.push (kla_obj x q pr bd sc [] ((X.mg s!"__name__").getD .none) c' ctv)) (o1:=Jc c' q) (o2:=Dk h'.objs.size (kla_obj x q pr bd sc [] ((X.mg s!"__name__").getD .none) c' ctv)) hP
   (λb o n e=>pk b o (ext b o n e)) (pk _ _ h4) h1 sz (gI h2) (λH''=>LR (by
    obtain⟨c2,o,vs,t,e1,e2,e3⟩:=h3;exact⟨c2,o,vs,t,e1,pk _ _ e2,e3⟩)) (λH''=>Cu (iy _ rfl))
  refine k _ c' ctv _ _ _ J (λb o n e=>?_) ⟨_,by rw[ae fP,ae cP,aD],?_,.inr ⟨c',?_,by rw[ae (gI h2),aD]⟩⟩ (I.aW.fresh sz) (Ne.symm fP) aD (by rw[ae (gI h2),aD])
  ·rw[ae (bD e (I.aW.fresh sz)),ae (bD e (I.aW.fresh h1)),ae n];exact e
  ·rw[Array.toList_append];exact TriplesOk_snoc _ _ _ _ tri
  ·rw[Array.toList_append];exact codeAmong_snoc _ tri cs
 ·refine PySem.W.kla_makeFunctionHit hcl I.ok.glob ns hcd hd gP tri cs bl λctv h' tk kp sz=>?_;have J:=I.laid (a:=h'.objs.size) (t':=tk) (h':=h'.push (kla_obj x q pr bd sc [] ((X.mg s!"__name__").getD .none) c' ctv)) (o:=Dk h'.objs.size (kla_obj x q pr bd sc [] ((X.mg s!"__name__").getD .none) c' ctv)) (λb o e=>d9 _ (kp b o e)) sz (Cu (iy _ rfl));have f0:=I.aW.fresh sz;have st:∀b o,H b=some o->upd H h'.objs.size (Dk h'.objs.size (kla_obj x q pr bd sc [] ((X.mg s!"__name__").getD .none) c' ctv)) b=some o:=λb o e=>by rw[ae (bD e f0)];exact e
  exact k _ c' ctv _ _ _ J (λb o _ e=>st b o e) ⟨ps,st _ _ hP,tri,.inr ⟨c',cs,st _ _ hc'⟩⟩ f0 (λz=>by rw[z,hP]at f0;cases f0) aD (st _ _ hc')
end
theorem Mu{P:Program}{w:World}{K:Wf}{mg:So}{base:Heap}{A:Around}{outer:List Env}{s:Shared}{H:Hp}{f c:Addr}{x q:Str}{pr:Arguments}{bd:Expr}{sc:Scope}{pm ct:Value}{N ps:List Str}{us:List Value}{vs:List V}{Q:VK}{t:TE}
  (ho:s.heap.get? f=some (kla_obj x q pr bd sc [] pm c ct)) (hc:s.heap.CodeRec (.ref c) q) (S:au N ps sc) (hr:cz 1 A) (e0:lh P w K mg base A outer s H)
  (hb:BindsTo s (kla_fn x q pr bd sc [] pm (.ref c) ct) ⟨us,[]⟩ (ps.zip us)) (hl:vs.length=ps.length) (r:Vals vs us)
  (ht:PE (j9 cF P w K mg base N q sc f (.ref c) A outer s H E0) bd t) (hq:t (start N vs) H Q):codeAny (model P w) A (.call (.ref f) ⟨us,[]⟩) (CR cF outer P w H s Q E0) s:=by
 have lim:s.heap.NoLimit:=e0.mod.nolimit.keeps λb o e=>(e0.bs b o e).1;have hkind:∀y∈ps.zip us,sc.names.lookup y.1=some .local\/(sc.names.lookup y.1=some .cell/\((cellsFrom (s.heap.objs.size+1) sc.names []).lookup y.1).isSome=true):=λ⟨n,v⟩ hy=>by
  rcases S.par n (List.of_mem_zip hy).1 with q|q
  ·exact .inl q
  ·exact .inr ⟨q,cellsFrom_some _ _ _ (.inl q)⟩
 refine PySem.W.kla_callFunE hr.depth ho rfl S.co S.gen rfl hc (hb _ _ _ _ ?_);refine wpAny_newFunctionEnv_cells S.kind hkind λenv he s1 x=>?_;subst he;refine⟨lim.keeps x.toInCall.keep,PySem.W.kla_codeExpr ?_⟩;have I:=m7 (CX:=cF) (E:=E0) (f:=f) (cd:=.ref c) (qual:=q) S hr.hd e0 hl r x;refine pG (ht [] s1 (start N vs) H Q I hq) (λu s' ⟨v,H',J,rv,q⟩=>?_) λe s' hs=>hs;exact⟨v,H',J.os,J.bare,J.base,J.aW,rv,q⟩
theorem xZ{bs:List Addr}{z:Addr->Str}(h:bs.length<2):(bs.map λb=>((z b,0):bX)).Pairwise yE:=by
 rw[MW];intro i j hi hj lt;rw[aI]at hj;omega
def keyed(kt:List Value)(bs:List Addr):List Keyed:=kt.zip (bs.map Value.ref)
def Sb:Value->Str
 |.str x _=>x
 |_=>s!""
section
variable{X:Cx}{pins:Lo}{σ:St}{H:Hp}{s:Shared}{A:Around}{E:Vs}
theorem BE:∀{kt:List Value}{ss:List Str}{i:Nat}{k:Value},StrsAre kt ss->kt[i]?=some k->ss[i]?=some (Sb k)/\∃t,k=.str (Sb k) t
 |_,_,0,_,.cons y t h,e=>by cases e;exact⟨rfl,t,rfl⟩
 |_,_,i+1,_,.cons _ _ h,e=>BE (i:=i) h e
theorem kI:∀{kt:List Value}{ss:List Str},StrsAre kt ss->kt.length=ss.length
 |_,_,.nil=>rfl
 |_,_,.cons _ _ h=>by rw[zS,zS,kI h]
theorem l7:∀{kt:List Value}{ss:List Str}{y:Str}{t:Tok},StrsAre kt ss->StrsAre (kt++[.str y t]) (ss++[y])
 |_,_,y,t,.nil=>.cons y t .nil
 |_,_,_,_,.cons a b h=>.cons a b (l7 h)
theorem je(h:StrsAre kt (bs.map z))(hx:x∈keyed kt bs):∃b t,b∈bs/\x=(.str (z b) t,.ref b):=by
 obtain⟨i,hi⟩:=List.getElem?_of_mem hx;unfold keyed at hi;rw[List.getElem?_zip_eq_some]at hi;obtain⟨h1,h2⟩:=hi;rw[jA]at h2;obtain⟨b,h3,h4⟩:=fW.mp h2;obtain⟨h5,t,h6⟩:=BE h h1;rw[jA,h3]at h5;refine⟨b,t,e7 h3,?_⟩;rw[<-Option.some.inj h5]at h6;exact Prod.ext h6 h4.symm
theorem II(I:Inv X pins σ H s)(fa:eT X pins H a)(fk:eT X pins H kS)(nak:a≠kS)(ha:s.heap.get? a=some (seqObj "list" #[] n))(hk:s.heap.get? kS=some (seqObj "list" kt.toArray e))(hz:StrsAre kt (bs.map z))(h64:bs.length<64)
  (k:∀(s':Shared) (bs':List Addr) (e':Nat),Inv X pins σ H s'->bs'.Perm bs->(bs'.map λb=>((z b,0):bX)).Pairwise yE->s'.heap.get? a=some (seqObj "list" (bs'.map Value.ref).toArray e')->Q (.done (.ret .none)) s'):
  wpAny (model X.prog X.w) A (ksk_end a false (bs.map Value.ref).toArray n (.ref kS) kt.toArray) Q E s:=by
 have kl:kt.length=bs.length:=by have:=kI hz;rwa [aI]at this
 have sl:(kt.toArray.zip (bs.map Value.ref).toArray).toList=keyed kt bs:=ksk_zip kt.toArray (bs.map Value.ref);have epi:∀(st:SortSt) (bs':List Addr),failedOf st=none->(arrOf st).toList.map (·.2)=bs'.map Value.ref->bs'.Perm bs->(bs'.map λb=>((z b,0):bX)).Pairwise yE->wpAny (model X.prog X.w) A (ksk_tail a false n (.ref kS) st) Q E s:=λst bs' f ea p pw=>by
  unfold ksk_tail;have ea':((arrOf st).map λx=>x.2)=(bs'.map Value.ref).toArray:=by
   apply Array.ext';rw[Array.toList_map,ea]
  rw[f,ea'];refine aC (listUpdate_at hk rfl ?_ (hsz2:=by simp));have k1:∀b o,b≠kS->s.heap.get? b=some o->(s.heap.update kS (Obj.mapSeq λ_=>#[])).get? b=some o:=λb o nb g=>by rw[Rc _ _ _ _ nb];exact g
  have I1:=I.turned (t':=s.toks) k1 fk.1 fk.2.1 fk.2.2.2.1 fk.2.2.2.2.1 fk.2.2.2.2.2;have ha1:=k1 a _ nak ha;generalize s.heap.update kS (Obj.mapSeq λ_=>#[])=h1 at k1 I1 ha1;refine aC (wpAny_letGo (aC (seqEpoch_at ha1 rfl (aC (listUpdate_at ha1 rfl ?_ (hsz2 := ?_))))))
  ·have k2:∀b o,b≠a->h1.get? b=some o->(h1.update a (Obj.mapSeq λ_=>(bs'.map Value.ref).toArray)).get? b=some o:=λb o nb g=>by rw[Rc _ _ _ _ nb];exact g
   have I2:=I1.turned (t':=s.toks) k2 fa.1 fa.2.1 fa.2.2.2.1 fa.2.2.2.2.1 fa.2.2.2.2.2;have e2:=get?_update_seq ha1 λ_=>(bs'.map Value.ref).toArray;simp only[bne_self_eq_false,Bool.false_eq_true,if_false];exact bB (k _ bs' _ I2 p pw e2)
  ·simp only[Bool.false_eq_true,if_false];rw[hU,aI,p.length_eq,sizeLine_eq];omega
 unfold ksk_end;simp only[Bool.false_eq_true,if_false,List.size_toArray,List.length_map];by_cases d7:bs.length<2
 ·simp only[if_pos d7];refine aC (bB ?_);rw[StateT.run_pure];refine aC (bB ?_);refine epi _ bs rfl ?_ (.refl _) (xZ d7);show(kt.toArray.zip (bs.map Value.ref).toArray).toList.map (·.2)=_;rw[sl];unfold keyed;exact List.map_snd_zip (by rw[aI,kl];exact bw _)
 ·simp only[if_neg d7];have kk:keyKind' kt.toArray=pure oneType':=by
   match kt,hz,kl with
   |[],_,kl=>exact absurd kl (by simp;omega)
   |[_],_,kl=>exact absurd kl (by simp;omega)
   |_::_::_,hz,_=>exact keyKind_strs hz
  refine aC (wpAny_of_eq kk ?_);have bz:(kt.toArray.zip (bs.map Value.ref).toArray).size=bs.length:=by rw[<-D9,sl];unfold keyed;rw[List.length_zip,List.length_map,kl,Nat.min_self]
  have ask:wb X.prog X.w A E s oneType' (λx=>mz (bs.map λb=>((z b,0):bX)) (Sb x.1,0)) (kt.toArray.zip (bs.map Value.ref).toArray):=λx hx y hy Q q=>by
   rw[sl]at hx hy;obtain⟨b,t,hb,rfl⟩:=je hz hx;obtain⟨c,u,hc,rfl⟩:=je hz hy;refine oneLt_str (?_:Q (decide ((z b).cps.toList<(z c).cps.toList)) s);have e:=yJ (ds:=bs.map λb=>((z b,0):bX)) (a:=(z b,0)) (b:=(z c,0)) (bI.mpr ⟨b,hb,rfl⟩);have e2:lU ((z b,0):bX) (z c,0)=decide ((z b).cps.toList<(z c).cps.toList):=by
    unfold lU;by_cases h:z b=z c
    ·rw[if_pos h,h,decide_eq_false (by omega),decide_eq_false (List.lt_irrefl _)]
    ·rw[if_neg h]
   rw[<-e2,<-e];exact q
  refine aC (pG (EJ (Q:=λ_ st=>(arrOf st).Perm (kt.toArray.zip (bs.map Value.ref).toArray)/\failedOf st=none/\eC (λx=>mz (bs.map λb=>((z b,0):bX)) (Sb x.1,0)) (arrOf st) bs.length) ask (st:=SortSt.mk' oneType' (kt.toArray.zip (bs.map Value.ref).toArray) #[] 7 none) ⟨.refl _,rfl,rfl,rfl⟩ (by rw[bz];omega) (by rw[bz];exact h64) λst p f up=>⟨p,f,by rw[bz]at up;exact up⟩) ?_ λ_ _ z=>z);rintro⟨⟨⟩,st⟩ s' ⟨rfl,p,f,up⟩;have p':=Array.perm_iff_toList_perm.mp p;rw[sl]at p';have all:∀x∈(arrOf st).toList,∃b t,b∈bs/\x=(Value.str (z b) t,Value.ref b):=λx hx=>je hz (p'.mem_iff.mp hx);have e2:(arrOf st).toList.map (·.2)=((arrOf st).toList.map λx=>adr x.2).map Value.ref:=by
   rw[fX];refine M4 λx hx=>?_;obtain⟨b,t,_,rfl⟩:=all x hx;rfl
  have pb:((arrOf st).toList.map λx=>adr x.2).Perm bs:=by
   have:=p'.map λx:Keyed=>adr x.2;have e3:(keyed kt bs).map (λx:Keyed=>adr x.2)=bs:=by
    unfold keyed;have:(λx:Keyed=>adr x.2)=adr ∘ (·.2):=rfl;rw[this,<-fX,List.map_snd_zip (by rw[aI,kl];exact bw _),fX];exact(M4 λ_ _=>rfl).trans (List.map_id _)
   rwa [e3]at this
  refine epi st _ f e2 pb ?_;rw[MW];intro i j hi hj lt;rw[aI,aI]at hi hj;have at_:∀m (hm:m<(arrOf st).toList.length),rk (λx=>mz (bs.map λb=>((z b,0):bX)) (Sb x.1,0)) (arrOf st) m=mz (bs.map λb=>((z b,0):bX)) (z (adr ((arrOf st).toList[m]).2),0):=λm hm=>by
   unfold rk;rw[<-Array.getElem?_toList,lz hm];obtain⟨b,t,_,e⟩:=all _ (Om hm);rw[e];rfl
  have len:(arrOf st).toList.length=bs.length:=by rw[<-pb.length_eq,aI]
  have h:=up i j (LQ lt) (by omega);rw[at_ i hi,at_ j hj]at h;simp only[List.getElem_map];unfold yE;rw[<-yJ (ds:=bs.map λb=>((z b,0):bX))]
  ·exact decide_eq_false (Nat.not_lt.mpr h)
  ·obtain⟨b,t,hb,e⟩:=all _ (Om hj);rw[e];exact bI.mpr ⟨b,hb,rfl⟩
theorem Dd{a f:Addr}{bs:List Addr}{z:Addr->Str}{n:Nat}{Q:Fin->Shared->Prop}(I:Inv X pins σ H s)(fa:eT X pins H a)(ha:s.heap.get? a=some (seqObj "list" (bs.map Value.ref).toArray n))(h64:bs.length<64)
  (key:∀s',Inv X pins σ H s'->∀b∈bs,wpAny (model X.prog X.w) A (call (.ref f) [.ref b]) (λu s''=>∃t,u=.str (z b) t/\Inv X pins σ H s''/\∀d o,eT X pins H d->s'.heap.get? d=some o->s''.heap.get? d=some o) (λ_ _=>False) s')
  (k:∀(s':Shared) (bs':List Addr) (e':Nat),Inv X pins σ H s'->bs'.Perm bs->(bs'.map λb=>((z b,0):bX)).Pairwise yE->s'.heap.get? a=some (seqObj "list" (bs'.map Value.ref).toArray e')->Q (.done (.ret .none)) s'):
  wpAny (model X.prog X.w) A (ksk_tree a (.ref f) false) Q E s:=by
 unfold ksk_tree;refine aC (listItems_at ha rfl (aC (listUpdate_at ha rfl ?_ (hsz2:=by simp))));have k1:∀b o,b≠a->s.heap.get? b=some o->(s.heap.update a (Obj.mapSeq λ_=>#[])).get? b=some o:=λb o nb g=>by rw[Rc _ _ _ _ nb];exact g
 have I1:=I.turned (t':=s.toks) k1 fa.1 fa.2.1 fa.2.2.2.1 fa.2.2.2.2.1 fa.2.2.2.2.2;have e1:=get?_update_seq ha λ_=>#[];generalize (if (#[]:Array Value).size == (bs.map Value.ref).toArray.size then n else n+1)=n1 at e1;generalize s.heap.update a (Obj.mapSeq λ_=>#[])=h1 at k1 I1 e1;refine aC (seqEpoch_at e1 rfl (aC (wpAny_newTuple (aC (wpAny_newList (D_ ?_) (gH _))) ?_)))
 ·have I2:=I1.kept (h':=h1.push { cls:=Value.type "tuple", data:=Data.seq (bs.map Value.ref).toArray.toList.toArray }) (t':=s.toks) λb o g=>d9 _ g;have e2:(h1.push { cls:=Value.type "tuple", data:=Data.seq (bs.map Value.ref).toArray.toList.toArray }).get? a=some (seqObj "list" #[] n1):=d9 _ e1;generalize h1.push { cls:=Value.type "tuple", data:=Data.seq (bs.map Value.ref).toArray.toList.toArray }=h2 at I2 e2;have fk:eT X pins H h2.objs.size:=I2.qd (bw _) (I2.aW.fresh (bw _));have nak:a≠h2.objs.size:=gI (cY e2);have I3:=I2.kept (h':=h2.push { cls:=Value.type "list", data:=Data.seq ([]:List Value).toArray }) (t':=s.toks) λb o g=>d9 _ g;have e3:(h2.push { cls:=Value.type "list", data:=Data.seq ([]:List Value).toArray }).get? a=some (seqObj "list" #[] n1):=d9 _ e2;have k3:(h2.push { cls:=Value.type "list", data:=Data.seq ([]:List Value).toArray }).get? h2.objs.size=some (seqObj "list" ([]:List Value).toArray 0):=iy _ rfl;dsimp only;generalize h2.objs.size=kS at fk nak k3 ⊢;generalize h2.push { cls:=Value.type "list", data:=Data.seq ([]:List Value).toArray }=h3 at I3 e3 k3;unfold ksk_rest;refine aC (Oh (aC ?_));rw[List.forIn_toArray];refine ksk_fold (λi s'=>∃(kt:List Value) (e:Nat),Inv X pins σ H s'/\s'.heap.get? a=some (seqObj "list" #[] n1)/\s'.heap.get? kS=some (seqObj "list" kt.toArray e)/\StrsAre kt ((bs.take i).map z)) (bs.map Value.ref) 0 _ ⟨[],0,I3,e3,k3,.nil⟩ (λj v s' hv hI=>?_) λs' hI=>?_
  ·rw[Nat.zero_add]at hI ⊢;obtain⟨kt,e,J,ja,jk,jz⟩:=hI;rw[jA]at hv;obtain⟨b,hb,rfl⟩:=fW.mp hv;have jl:=kI jz;rw[aI,p_]at jl;refine aC (Rk (pG (key s' J b (e7 hb)) (λu s'' hu=>?_) λ_ _ h=>h.elim));obtain⟨t,rfl,J2,kp⟩:=hu;have ja2:=kp a _ fa ja;have jk2:=kp kS _ fk jk;dsimp only;have up:=get?_update_seq jk2 λx=>x.push (.str (z b) t);rw[List.push_toArray]at up;refine aC (listUpdate_at jk2 rfl (bB ⟨rfl,kt++[.str (z b) t],_,J2.turned (t':=s''.toks) (λd o nd g=>by rw[Rc _ _ _ _ nd];exact g) fk.1 fk.2.1 fk.2.2.2.1 fk.2.2.2.2.1 fk.2.2.2.2.2,by rw[Rc _ _ _ _ nak];exact ja2,up,?_⟩) ?_ ?_)
   ·rw[jH,hb,bP];exact l7 jz
   ·rw[hU,sizeLine_eq];omega
   ·rw[Array.size_push,hU,sizeLine_eq];omega
  ·rw[Nat.zero_add,aI,iR]at hI;obtain⟨kt,e,J,ja,jk,jz⟩:=hI;refine aC (listItems_at jk rfl ?_);exact II J fa fk nak ja jk jz h64 k
 ·rw[List.toList_toArray,aI,sizeLine_eq];omega
theorem Inv.U7(I:Inv X pins σ H s)(fa:eT X pins H a)(new:∀H'',bg X.prog X.w H'' s.heap a o):Inv X pins σ (upd H a o) s:=by
 have n0:=fa.1;have yW:∀b u,H b=some u->upd H a o b=some u:=λb u e=>by rw[ae (bD e n0)];exact e
 refine I.step (g':=s.gens) (d':=s.drawn) (t':=s.toks) (h':=s.heap) (ch:=[a]) (λb hb=>?_) (λb o _ _ _ e _=>e) (λb o _ _ _ e _=>⟨o.slots,e⟩) (λb u hb _ n=>?_) (λb u _ e=>⟨u,e⟩) (λb xs e=>yW b _ e) (λb u v e=>yW b _ e) (λb ps e=>⟨#[],by rw[yW b _ e];simp⟩) (λm hm=>hm) (λb u e=>?_) I.bare
 ·rw[cD.mp hb];exact⟨fa.2.2.2.1,fa.2.1,fa.2.2.2.2.1,fa.2.2.2.2.2⟩
 ·rw[ae (λz=>hb (by rw[z];exact List.mem_singleton_self _))];exact n
 ·by_cases z:b=a
  ·rw[z,aD]at e;cases e;rw[z];exact new _
  ·rw[ae z]at e;exact(I.aW b u e).jf (λ_ _ _ q=>q) (λd q=>yW d _ q) λd xs q=>yW d _ q
theorem yg{p f c:Addr}{bs:List Addr}{z:Addr->Str}{x q:Str}{pr:Arguments}{bd:Expr}{sc:Scope}{pm ct:Value}{y:Str}{rs:Addr->List V}{Q:VK}(I:Inv X pins σ H s)(hr:cz 4 X.A)(hp:aA X.K H p (bs.map V.ref))(hd:∀b∈bs,H b=some (.tup (.str (z b)::rs b)))(h64:bs.length<64)
  (hf:H f=some (Dk f (kla_obj x q pr bd sc [] pm c ct))) (hc:H c=some (Jc c q)) (S:au [y] [y] sc) (hb:∀(s:Shared) (u:Value),BindsTo s (kla_fn x q pr bd sc [] pm (.ref c) ct) ⟨[u],[]⟩ [(y,u)])
  (ht:∀A outer s H,PE (j9 cF X.prog X.w X.K X.mg X.base [y] q sc f (.ref c) A outer s H E0) bd (N7 (Jg X.K) (Hr 0) (tC (.int 0))))
  (k:∀(l:Addr) (bs':List Addr),H l=none->bs'.Perm bs->(bs'.map λb=>((z b,0):bX)).Pairwise yE->Q (.ref l) (upd H l (.lst (bs'.map V.ref)))):
  wpAny (model X.prog X.w) X.A (call (.builtin "sorted") [.ref p] [(s!"key", .ref f)]) (EP X pins σ Q) X.xe s:=by
 obtain⟨its,r',pl,_⟩:=I.list hp;have e:=qm r';subst e;have fit:(bs.map Value.ref).length<=sizeLine:=by rw[aI,sizeLine_eq];omega
 refine call_function_entry_kw kind_sorted plain_sorted entry_sorted (ksk_s1 _ _) (aC (m:=checkCount "sorted" 1 1 _) (bB (aC (collect_list pl.isList (aC (wpAny_newList ?_ fit)) fit))));dsimp only;have k1:∀b o,s.heap.get? b=some o->((s.heap.push (seqObj "list" #[] 0)).update s.heap.objs.size (Obj.mapSeq (·++(bs.map Value.ref).toArray))).get? b=some o:=λb o g=>by
  rw[Rc _ _ _ _ (gI (cY g))];exact d9 _ g
 have I1:=I.kept (t':=s.toks) k1;generalize (s.heap.push (seqObj "list" #[] 0)).update s.heap.objs.size (Obj.mapSeq (·++(bs.map Value.ref).toArray))=h1 at k1 I1;have I2:=I1.kept (t':=s.toks) (h':=h1.push { cls:=.type "list", data:=.seq (bs.map Value.ref).toArray }) λb o g=>d9 _ g;have new:(h1.push { cls:=.type "list", data:=.seq (bs.map Value.ref).toArray }).get? h1.objs.size=some (seqObj "list" (bs.map Value.ref).toArray 0):=iy _ rfl;have fa:eT X pins H h1.objs.size:=I1.qd (bw _) (I1.aW.fresh (bw _));refine aC (D_ (wpAny_call_entry_kw slot_list_sort ⟨_,new,rfl⟩ entry_list_sort ?_ (ksk_l1 _ _)));rw[ksk_t1];refine Dd (z:=z) I2 fa new h64 (λs' J b hb'=>?_) λs' bs' e' J pb pw g=>?_
 ·refine wpAny_call (codeAny_mono (Mu (vs:=[.ref b]) (us:=[.ref b]) (Q:=λv H'=>v=.str (z b)/\H'=H) (J.aW f _ hf).1 (J.aW c _ hc).1 S (hr.in1.in1.mono (by decide)) J.OT.in1.in1 (hb s' _) rfl (.cons rfl .nil) (ht _ _ _ _) ?_) λr s'' hq=>?_)
  ·show N7 _ _ _ [some (V.ref b)] _ _;exact⟨b,_,0,_,rfl,rfl,aS.of (hd b hb'),show h_ (V.str (z b)::rs b) ((0:Nat):Int)=_ from dJ rfl,rfl,rfl⟩
  ·cases r with
   |error e=>exact hq.elim
   |ok fl=>
    cases fl with
    |next=>exact False.elim hq
    |brk=>exact False.elim hq
    |cont=>exact False.elim hq
    |ret u=>
     obtain⟨v,H',os,bare,un,aW,rv,hv,hH⟩:=hq;subst hv hH;obtain⟨t,rfl⟩:=rv;refine⟨t,rfl,J.Av (ch:=[]) os un aW bare (λb z=>absurd z (by simp)),λd o fd g=>un.keep d o g fd.1 (λz=>?_) (by simp)⟩;exact(hZ.mp (J.vo d z)).elim fd.2.1 fd.2.2.1
 ·refine⟨_,rfl,bB ⟨_,rfl,.ref h1.objs.size,upd H h1.objs.size (.lst (bs'.map V.ref)),?_,rfl,k _ bs' fa.1 pb pw⟩⟩;exact J.U7 fa λH''=>⟨by rw[aI,pb.length_eq,sizeLine_eq];omega,bs'.map Value.ref,e',mf,g⟩
def QU(K:Wf)(P:Addr)(lp:Pos)(q:Str)(te:TE):TE:=λσ H Q=>te σ H λx H1=>∃(p:Addr) (bs:List Addr) (z:Addr->Str) (rs:Addr->List V),x=.ref p/\aA K H1 p (bs.map V.ref)/\(∀b∈bs,H1 b=some (.tup (.str (z b)::rs b)))/\bs.length<64/\gG P lp q H1/\
 ∀(l:Addr) (bs':List Addr) (H2:Hp),H1 l=none->bs'.Perm bs->(bs'.map λb=>((z b,0):bX)).Pairwise yE->ij P H1 H2->gG P lp q H2->H2 l=some (.lst (bs'.map V.ref))->Q (.ref l) H2
theorem yc{K:Wf}{P c:Addr}{e:Expr}{te:TE}{p kp lp pos:Pos}{pr:Arguments}{bd:Expr}{sc:Scope}{y q:Str}(eK:X.K=K)(hr:cz 4 X.A)(he:PE X e te)(hg:Gl X "sorted")(hm:X.mg "sorted" = none)(hcd:X.env.code=.ref c)(hc:codeHdIn K c P=true)(bm:BMod K X.mg)(S:au [y] [y] sc)
  (ht:∀(f c:Addr) A outer s H,PE (j9 cF X.prog X.w X.K X.mg X.base [y] q sc f (.ref c) A outer s H E0) bd (N7 (Jg X.K) (Hr 0) (tC (.int 0))))
  (hb:∀(pm cd ct u:Value),bindArgs (kla_fn s!"<lambda>" q pr bd sc [] pm cd ct) ⟨[u],[]⟩=pure [(y,u)]:=by intros;rfl)
  (hcl:closureFor sc X.env=pure []:=by rfl) (hq:X.env.qual++s!"<lambda>" = q:=by rfl) (hdf:defaultsOf pr X.env=([],[]):=by rfl) (s1:starEach [e] X.env=[(false,eval e X.env)]:=by rfl):
  PE X (.Call (.Name "sorted" p) [e] [⟨some "key", .Lambda pr bd sc lp,kp⟩] pos) (QU K P lp q te):=by
 subst eK;intro pins s σ H Q I h;refine Ri (gq I hg hm (show bootBuiltins "sorted" = some (.builtin "sorted") by kernel_rfl) ?_);refine PyProof.Rows.callWith_kw ?_ (by rw[s1];rfl) (by rw[s1];rfl);rw[s1];refine Calls.spliced_cons (bA (he pins s σ H _ I h) λu s2 hh=>?_);obtain⟨x,H1,I1,r1,p',bs,z,rs,ex,hp,hd,h64,tb,k⟩:=hh;refine Calls.spliced_nil (kws_cons (PySem.W.kla_eval hdf ?_));subst ex;cases r1;rw[hq];refine IF I1 hcl hcd hc bm tb λf c' ctv pm H' s' J sx tb' f0 fP hf hc'=>kws_nil ?_;have pt:∀(b:Addr) (o:HO),(∀ps,o≠.g9 ps)->H1 b=some o->H' b=some o:=λb o ne e=>sx b o (λzz=>by
  obtain⟨ps,hP,_⟩:=tb;rw[zz,hP]at e;exact ne ps (Option.some.inj e).symm) e
 have hp':aA X.K H' p' (bs.map V.ref):=by
  rcases hp with hp|hp
  ·rcases hp with hp|⟨o,hp⟩
   ·exact .inl (.inl (pt _ _ (λps z=>by cases z) hp))
   ·exact .inl (.inr ⟨o,pt _ _ (λps z=>by cases z) hp⟩)
  ·exact .inr hp
 refine yg (z:=z) (rs:=rs) J hr hp' (λb hb=>pt _ _ (λps z=>by cases z) (hd b hb)) h64 hf hc' S (λs u=>.of_eq (hb _ _ _ _)) (λA outer s H=>ht f c' A outer s H) λl bs' l0 pb pw=>?_;have st:∀b o,H' b=some o->upd H' l (.lst (bs'.map V.ref)) b=some o:=λb o e=>by rw[ae (bD e l0)];exact e
 have l1:H1 l=none:=by
  cases e:H1 l with
  |none=>rfl
  |some o=>
   obtain⟨ps,hP,_⟩:=tb';have:=sx l o (λzz=>by rw[zz,hP]at l0;cases l0) e;rw[l0]at this;cases this
 exact k l bs' _ l1 pb pw (λb o n e=>st b o (sx b o n e)) (tb'.more st) aD
end
section
variable{P:Program}{w:World}{K:Wf}{mg:So}{base:Heap}
def Xw(K:Wf)(fd:FuncData)(T:Addr):Prop:=∃c,fd.code=.ref c/\codeHdIn K c T=true
theorem cW.Y0{x qual:Str}{st:Stmt}{f T:Addr}{fd:FuncData}{N ps:List Str}{k:Nat}{sp:Sp}(F:cW K x qual st f fd)(L:Xw K fd T)(S:au N ps (ag st))(len:∀vs H Q E,sp vs H Q E->vs.length=ps.length)
  (hbody:∀(c:Addr) (cdv:Value) (A:Around) (outer:List Env) (s:Shared) (H:Hp) (vs:List V) (Q:VK) (E:XK),cdv=.ref c->codeHdIn K c T=true->cz k (A.deeper (envOfC qual (ag st) s.heap.objs.size f cdv))->sp vs H Q E->
   ∃t,vM (j9 cF P w K mg base N qual (ag st) f cdv A outer s H E).Rr (dU st) t/\t { nx:=λ_ H'=>Q .bh H',rt:=Q } (start N vs) H):aY P w K mg base cF (k+1) f fd ps sp:=by
 obtain⟨oc,od,kV,doc,pm,an,cdv,ct,osl,rfl,lk,hcd⟩:=F.ex;obtain⟨c,e1,e2⟩:=L;refine NC lk hcd S len λA outer s H vs Q E hr hsp=>?_;obtain⟨t,h,q⟩:=hbody c cdv A outer s H vs Q E e1 e2 hr hsp;exact⟨t,h.Rr,q⟩
end
def uB(Ts:List Addr)(H:Hp):Prop:=∀T∈Ts,H T=some (.g9 #[])
theorem DO{P:Program}{w:World}{K:Wf}{mg mb:So}{CX:Eb}{k:Nat}{fa a:Addr}{fd:FuncData}{x:Str}{sp:Sp}{s₁:Shared}{vs:List Value}{ns:List Int}{Ts:List Addr}
  (KX:K.In s₁.heap) (hns:s₁.heap.Ns mainGlobals mg) (hb:s₁.heap.Ns builtinsNs mb) (hbb:∀x:Str,x ≠ "__name__" -> mb x=bootBuiltins x) (hlim:s₁.heap.NoLimit) (hg:s₁.gens=#[])
  (ha:s₁.heap.get? a=some { cls:=.type "list", data:=.seq vs.toArray }) (hi:IntsAre vs ns) (hl:ns.length<=sizeLine) (hr:cz k callerA)
  (hT:∀T∈Ts,s₁.heap.get? T=some (tabObj #[])/\isCodeTable s₁.heap T/\K.lookup T=none)
  (F:∀base:Heap,K.In base->base.Ns mainGlobals mg->aY P w K mg base CX k fa fd [x] sp) (hbind:∀(s:Shared) (u:Value),BindsTo s fd ⟨[u],[]⟩ [(x,u)])
  (hsp:∀H:Hp,uB Ts H->aA K H a (ns.map V.int)->sp [.ref a] H (λv _=>v=.bl true) λ_ _ _=>False)
  (hCX:∀H e s',CX [] H s₁ (λ_ _ _=>False) e s'->False):
  codeAny (model P w) callerA (.call (.ref fa) ⟨[.ref a],[]⟩) (λr s'=>r=.ok (.ret (.bool true))/\OldK s₁.heap s'.heap/\s'.os=s₁.os/\AllBare s'.gens) s₁:=by
 have rv:=mq hi;have lenV:=hi.length;have aT:a∉Ts:=λz=>by
  have:=(hT a z).1;rw[ha]at this;cases this
 have core:∀H:Hp,aA K H a (ns.map V.int)->(∀b,H b=none\/(b=a/\K.lookup a=none/\H b=some (.fY { cls:=.type "list", data:=.seq vs.toArray } (.lst (ns.map V.int))))\/(b∈Ts/\H b=some (.g9 #[])))->uB Ts H->
   codeAny (model P w) callerA (.call (.ref fa) ⟨[.ref a],[]⟩) (λr s'=>r=.ok (.ret (.bool true))/\OldK s₁.heap s'.heap/\s'.os=s₁.os/\AllBare s'.gens) s₁:=by
  intro H hS hO hE;have aW:gL P w H s₁.heap:=λb u z=>by
   rcases hO b with y|⟨rfl,_,y⟩|⟨y1,y⟩
   ·rw[y]at z;cases z
   ·rw[y]at z;cases z;exact⟨ha,by rw[aI];exact hl,vs,_,rv,ha⟩
   ·rw[y]at z;cases z;exact(hT b y1).1
  have base_of:∀{b:Addr}{o:Obj},s₁.heap.get? b=some o->H b=none->(rb s₁.heap H).get? b=some o:=λe n=>EW e n;have noA:∀{b:Addr}{o:Obj}{es:Array DictEntry}{ep:Nat},s₁.heap.get? b=some o->o.data=.dict es ep->H b=none:=λ{b o es ep} e d=>by
   rcases hO b with y|⟨rfl,_,y⟩|⟨y1,y⟩
   ·exact y
   ·rw[ha]at e;cases e;have d':Data.seq vs.toArray _=Data.dict es ep:=d;cases d'
   ·rw[(hT b y1).1]at e;cases e;have d':Data.fields #[]=Data.dict es ep:=d;cases d'
  have nsK:∀{b:Addr}{m:So},s₁.heap.Ns b m->(rb s₁.heap H).Ns b m:=λ{b m} ⟨o,es,ep,e,d,r⟩=>⟨o,es,ep,base_of e (noA e d),d,r⟩;have hKb:K.In (rb s₁.heap H):=λb o e=>base_of (KX b o e) (by
   rcases hO b with y|⟨rfl,y1,y⟩|⟨y1,y⟩
   ·exact y
   ·rw[y1]at e;cases e
   ·rw[(hT b y1).2.2]at e;cases e)
  have hM:Mod K mg (rb s₁.heap H):=⟨hKb,nsK hns,⟨mb,nsK hb,hbb⟩,let ⟨mc,h1,h2⟩:=hlim;⟨mc,nsK h1,h2⟩⟩
  have e0:lh P w K mg (rb s₁.heap H) callerA [] s₁ H:=⟨rfl,hM,λb o e=>Mq e,Nat.le_of_eq (C5 _ _),trivial,λb hb=>absurd (show b∈([]:List Addr) from hb) (by simp),aW,.of_eq hg⟩
  refine codeAny_mono ((F _ hKb (nsK hns)).run callerA [] s₁ H ⟨[.ref a],[]⟩ [.ref a] [.ref a] _ _ hr e0 (hbind s₁ (.ref a)) (.cons rfl .nil) (hsp H hE hS)) λr s' h=>?_;cases r with
  |error e=>exact(hCX H e s' h).elim
  |ok fl=>
   cases fl with
   |next=>exact False.elim h
   |brk=>exact False.elim h
   |cont=>exact False.elim h
   |ret u=>
    obtain⟨v,H',os,bare,un,hok',r',q⟩:=h;have q':v=.bl true:=q;subst q';obtain rfl:u=Value.bool true:=r';have nf:∀b:Addr,b∉yV []:=λb z=>absurd (show b∈([]:List Addr) from z) (by simp);refine⟨rfl,⟨λb o e=>?_,λb o e=>un.there b o e (by simp)⟩,os,bare⟩;rcases hO b with y|⟨_,_,y⟩|⟨y1,y⟩
    ·exact .inl (un.keep b o e y (nf b) (by simp))
    ·obtain⟨e1,_⟩:=aW b _ y;obtain⟨e2,_⟩:=hok' b _ (un.lJ b _ _ y);rw[e]at e1;cases e1;exact .inl e2
    ·obtain⟨more,z⟩:=un.lK b _ y;have e2:s'.heap.get? b=some { cls:=.none,data:=.fields (#[]++more) }:=hok' b _ z;obtain⟨t1,t2,_⟩:=hT b y1;rw[e]at t1;cases t1;exact .inr (.inl ⟨t2,rfl,#[],more,rfl,e2⟩)
 cases hk:K.lookup a with
 |some o=>
  have e:=KX a o hk;rw[ha]at e;cases e;refine core (λb=>if b∈Ts then some (.g9 #[]) else none) (.inr ⟨_,vs.toArray,_,hk,rfl,rfl,rfl,by rw[hU,lenV];exact hl,by simpa using rv⟩) (λb=>?_) λT hT'=>if_pos hT';by_cases z:b∈Ts
  ·exact .inr (.inr ⟨z,if_pos z⟩)
  ·exact .inl (if_neg z)
 |none=>
  refine core (λb=>if b∈Ts then some (.g9 #[]) else if b=a then some (.fY { cls:=.type "list", data:=.seq vs.toArray } (.lst (ns.map V.int))) else none) (.inl (.inr ⟨{ cls:=.type "list", data:=.seq vs.toArray },(if_neg aT).trans (if_pos rfl)⟩)) (λb=>?_) λT hT'=>if_pos hT';by_cases z:b∈Ts
  ·exact .inr (.inr ⟨z,if_pos z⟩)
  ·by_cases y:b=a
   ·exact .inr (.inl ⟨y,hk,(if_neg z).trans (if_pos y)⟩)
   ·exact .inl ((if_neg z).trans (if_neg y))
def WA(K:Wf)(f T:Addr)(st:Stmt)(x q:Str):Prop:=∃(oc:Value) (od an:Option Addr) (sl:Array (Option Value)) (kV dc pm ct:Value) (c:Addr),K.lookup f=some ⟨oc,od,.func (fnOf x q (fz st) (dU st) (ag st) .none kV dc pm an (.ref c) ct),sl⟩/\codeIn K (.ref c) q=true/\keepIn K (.ref f)=true/\codeHdIn K c T=true
def GS(K:Wf)(h:Heap)(T:Addr):Prop:=h.get? T=some (tabObj #[])/\(∃c,codeHdIn K c T=true)/\K.lookup T=none
theorem En{q:Program}{loose:List Str}{mean:ExcName->Option Value}{mg mb:So}{h:Heap}{K:Wf}{f T:Addr}{st:Stmt}{x y:Str}(KX:K.In h)(TP:Top q loose mean mg mb h)(hrec:((recsOf q).any λd=>d.name == x)=true)(a:nsIn K mainGlobals x=some (some (.ref f)))(l:WA K f T st x y)(n:K.lookup T=none):GS K h T:=by
 obtain⟨oc,od,an,sl,kV,dc,pm,ct,c,lk,_,_,hc⟩:=l;obtain⟨d,hd,en⟩:=Ci.mp hrec;have en:d.name=x:=by simpa using en
 obtain⟨a',o,fd,c',P,e1,e2,e3,e4,_,e6⟩:=TP.tab d hd;have ef:=mg_of KX TP.g a;rw[en,ef]at e1;cases e1;rw[KX _ _ lk]at e2;cases e2;cases e3;have ec:c=c':=Value.ref.inj e4;subst ec;obtain⟨⟨o2,vs2,g1,g2,g3,g4⟩,g5⟩:=e6;obtain⟨o3,vs3,_,_,_,_,_,_,_,k1,k2,k3,k4,_⟩:=codeHd_of_K KX hc;rw[k1]at g1;cases g1;rw[k3]at g3;cases g3;rw[k4]at g4;cases g4;exact⟨g5,⟨c,hc⟩,n⟩
theorem Ll{l:PySem.W.OpenLaw}{n k:Nat}{q:Program}{loose:List Str}{XP:(Str->Option Value)->Heap->Prop}{YP:World->Heap->Prop}{d:DefRec}{K:Params->Wf}{CX:World->Eb}{sp:World->Sp}{x:Str}{Ts:List Addr}
  (hn:l.most=some n) (hn2:n<=sizeLine) (hdf:d.params.defaults=[]) (hr:cz k callerA)
  (hY:∀(w:World) (h:Heap),YP w h->(K w.params).In h)
  (hT:∀(w:World) (h:Heap) (lo:List Str) (mean:ExcName->Option Value) (mg mb:So),(K w.params).In h->Top q lo mean mg mb h->∀T∈Ts,GS (K w.params) h T)
  (F:∀(w:World) (mg:So) (fa:Addr) (h:Heap),(K w.params).In h->h.Ns mainGlobals mg->mg d.name=some (.ref fa)->
   ∃fd:FuncData,(∀(s:Shared) (u:Value),BindsTo s fd ⟨[u],[]⟩ [(x,u)])/\
    ∀base:Heap,(K w.params).In base->base.Ns mainGlobals mg->aY l.prog w (K w.params) mg base (CX w) k fa fd [x] (sp w))
  (hsp:∀(w:World) (H:Hp) (a:Addr) (ns:List Int),ns.length<=n->uB Ts H->aA (K w.params) H a (ns.map V.int)->sp w [.ref a] H (λv _=>v=.bl true) λ_ _ _=>False)
  (hCX:∀(w:World) (H:Hp) (s:Shared) (e:Value) (s':Shared),CX w [] H s (λ_ _ _=>False) e s'->False):
  PySem.W.WalkO q loose XP YP l.row.toRowW d [] (λf vs=>PySem.call f vs):=by
 refine Att.attach_call hn hdf λw s₀ s₁ mg mb fa o pm cd doc a vs ns G Y ho hd hcd hmg hobj hints hlen hg=>?_;have KX:=hY w _ Y;obtain⟨fd,hb,hF⟩:=F w mg fa _ KX G.T.g hmg;refine DO KX G.T.g G.T.b G.T.builtins G.T.nolimit hg hobj hints (jt hlen hn2) hr (λT hT'=>?_) hF hb (λH hO hS=>hsp w H a ns hlen hO hS) λH e s'=>hCX w H s₁ e s';obtain⟨t1,⟨c,t2⟩,t3⟩:=hT w _ _ _ mg mb KX G.T T hT';obtain⟨o',vs',_,_,_,_,_,_,_,e1,e2,e3,e4,_⟩:=codeHd_of_K KX t2;exact⟨t1,⟨c,o',vs',e1,e2,e3,e4⟩,t3⟩
def LF(P:Addr)(H:Hp):Hp:=λb=>if b=P then none else H b
theorem eQ(hP:H P=some (.g9 ps))(e:H b=some o)(n:∀ps,o≠.g9 ps):LF P H b=some o:=by
 unfold LF;rw[if_neg (λz=>by rw[z,hP]at e;exact n ps (Option.some.inj e).symm)];exact e
theorem ij.same(s:ij P H H'):az (LF P H) H':=λb o e=>by
 unfold LF at e;by_cases z:b=P
 ·rw[if_pos z]at e;cases e
 ·rw[if_neg z]at e;exact s b o z e
theorem ij.free(s:ij P H H'){b:Addr}(hb:b≠P)(h:H' b=none):H b=none:=by
 cases e:H b with
 |none=>rfl
 |some o=>rw[s b o hb e]at h;cases h
theorem aK.At.LF{P:Addr}{ps:Array Value}{H:Hp}{s:aK}(hP:H P=some (.g9 ps))(h:s.At H):s.At (LF P H):=
 ⟨eQ hP h.top (λ_ z=>by cases z),eQ hP h.wd (λ_ z=>by cases z),eQ hP h.fl (λ_ z=>by cases z),λf hf=>eQ hP (h.fs f hf) (λ_ z=>by cases z)⟩
theorem ao.At.LF{P:Addr}{ps:Array Value}{H:Hp}{p:ao}(hP:H P=some (.g9 ps))(h:p.At H):p.At (LF P H):=
 ⟨eQ hP h.top (λ_ z=>by cases z),eQ hP h.sl (λ_ z=>by cases z),eQ hP h.nl (λ_ z=>by cases z),λs hs=>(h.ss s hs).LF hP,λn hn=>eQ hP (h.ns n hn) (λ_ z=>by cases z)⟩
theorem ao.At.keep{P:Addr}{ps:Array Value}{H H':Hp}{p:ao}(h:p.At H)(hP:H P=some (.g9 ps))(s:ij P H H'):p.At H':=(h.LF hP).mono s.same
def XB(K:Wf)(a:Addr)(xs:List V):It:=
 ⟨λi H=>aA K H a xs/\i<xs.length,λi H x H'=>H'=H/\xs.reverse[i]?=some x,λi H=>aA K H a xs/\xs.length<=i⟩
theorem KG{P:Program}{w:World}{K:Wf}{tg:Expr}(a it:Addr)(xs:List V):Turn P w K tg (XB K a xs) [it] it (λi h=>i<=xs.length/\h.IsRevIter it a ((xs.length:Int) - 1 - i)) where
 mem:=by simp
 obj:=λi h st b hb=>by
  have e:b=it:=by simpa using hb
  subst e;obtain⟨_,o,e,c,d⟩:=st;exact⟨o,e,λv z=>by rw[d]at z;cases z⟩
 keep:=λi h h' st k=>⟨st.1,st.2.at λo e=>k it (by simp) o e⟩
 item:=by
  intro X hP hw hK hc i pins s σ H E I hf st hg;subst hP hw hK;obtain⟨hq,hi⟩:=hg;obtain⟨its,rv,p,hz⟩:=I.list hq;obtain⟨f0,f1,f2,f3,f4,f5⟩:=hf it (by simp);have hl:=rv.length;have hx:xs[xs.length - 1 - i]?=some xs[xs.length - 1 - i]:=lz (by omega);generalize hxx:xs[xs.length - 1 - i]=x at hx;obtain⟨u,hu,ru⟩:=rv.get hx;have st2:s.heap.IsRevIter it a ((xs.length - 1 - i:Nat):Int):=by
   have:=st.2
   rwa [show((xs.length:Int) - 1 - i)=((xs.length - 1 - i:Nat):Int) by omega]at this
  refine wpAny_pyNext_rev_item st2 p.isList (x:=u) (by simpa using hu) λh' st' sb=>?_;have I1:Inv X pins σ H { s with heap:=h' }:=I.turned (t':=s.toks) (λb o hb e=>(sb.2 b hb).trans e) f0 f1 f3 f4 f5;obtain⟨o,e,c,d⟩:=id st';refine⟨u,rfl,xV (s:={ s with heap:=h' }) e c d (by decide) ⟨x,H,I1,ru,⟨rfl,?_⟩,⟨by omega,?_⟩,λb hb=>(hf b hb).1⟩⟩
  ·rw[List.getElem?_reverse hi];exact hx
  ·rwa [show((xs.length:Int) - 1 - ((i+1:Nat):Int))=((xs.length - 1 - i:Nat):Int) - 1 by omega]
 done:=by
  intro X hP hw hK hc i pins s σ H E I hf st hg;subst hP hw hK;obtain⟨hq,hi⟩:=hg;obtain⟨f0,f1,f2,f3,f4,f5⟩:=hf it (by simp);have st2:s.heap.IsRevIter it a (-1):=by
   have:=st.2
   rwa [show((xs.length:Int) - 1 - i) = -1 by have:=st.1;omega]at this
  exact wpAny_pyNext_rev_end (I.ok.hd hc) st2 λh' eb=>⟨rfl,I.turned (t':=s.toks) (λb o hb e=>eb b o hb e) f0 f1 f3 f4 f5⟩
 self:=λ_ _ _ _ _ st h=>wpAny_pyIter_revIter st.2 h
section
variable{X:Cx}{tg:Expr}{K:Wf}
def U5(K:Wf)(tl:TE):TI:=λσ H R=>tl σ H λx H1=>∃a xs,x=.ref a/\aA K H1 a xs/\R (XB K a xs) H1
theorem O5(eK:X.K=K)(hg:Gl X "reversed")(hm:X.mg "reversed" = none)(hl:PE X l tl)(hs:starEach [l] X.env=[(false,eval l X.env)]:=by rfl):PI X tg (.Call (.Name "reversed" p) [l] [] pos) (U5 K tl):=by
 subst eK;intro pins s σ H R I h;refine Ri (gq I hg hm (show bootBuiltins "reversed" = some (.type "reversed") by kernel_rfl) ?_);refine PyProof.Rows.callWith_type1 ?_ (by rw[hs];rfl) rfl;rw[hs];show wpAny _ _ (spliced ((false,eval l X.env)::[])) _ _ s;refine Calls.spliced_cons (bA (hl pins s σ H _ I h) λu s1 ⟨x,H1,I1,r1,a,xs,ex,hq,q⟩=>Calls.spliced_nil ?_);subst ex;cases r1;obtain⟨its,r',pl,hz'⟩:=I1.list hq;refine call_reversed_list pl.isList ?_;have ln:=r'.length;have it0:(s1.heap.push (revObj a ((its.toArray.size:Int) - 1))).IsRevIter s1.heap.objs.size a ((xs.length:Int) - 1 - ((0:Nat):Int)):=⟨_,iy _ rfl,rfl,by
  show(revObj a ((its.toArray.size:Int) - 1)).data=_;rw[hU,<-ln,show((xs.length:Int) - 1 - ((0:Nat):Int))=(xs.length:Int) - 1 by omega];rfl⟩
 refine wpAny_pyIter_revIter it0 ?_;refine⟨s1.heap.objs.size,[s1.heap.objs.size],_,_,H1,rfl,I1.kept (t':=s1.toks) λb o e=>d9 _ e,KG a _ xs,⟨gH _,it0⟩,λb hb=>?_,q⟩;have e:b=s1.heap.objs.size:=by simpa using hb
 subst e;exact I1.qd (bw _) (I1.aW.fresh (bw _))
def Mw(K:Wf)(g:TG)(tb:TS)(D:Ends)(σ:St):VK:=λx H1=>∃a xs,x=.ref a/\aA K H1 a xs/\lL g tb D σ (XB K a xs) H1
section
variable{te:TE}{g:TG}{tb:TS}{D:Ends}{σ:St}{H:Hp}
theorem U0:jD (U5 K te) g tb D σ H=te σ H (Mw K g tb D σ):=rfl
theorem Mw.of{a:Addr}{xs:List V}(Pv:Nat->St->Hp->Prop)(h0:Pv 0 σ H)(hl:∀i σ H,i<=xs.length->Pv i σ H->aA K H a xs)
  (hs:∀i x σ H,xs.reverse[i]?=some x->Pv i σ H->g x σ H λσ2 H2=>tb { D with nx:=Pv (i+1),ct:=Pv (i+1),bk:=D.nx } σ2 H2) (hd:∀σ H,Pv xs.length σ H->D.nx σ H):Mw K g tb D σ (.ref a) H:=by
 refine⟨a,xs,rfl,hl 0 _ _ (gH _) h0,λi m σ H=>m=xs.length - i/\i<=xs.length/\Pv i σ H,⟨xs.length,by simp,Nat.zero_le _,h0⟩,?_⟩;rintro i m σ H ⟨rfl,hi,p⟩;have q:=hl i σ H hi p;by_cases hlt:i<xs.length
 ·refine .inr ⟨⟨q,hlt⟩,Pv (i+1),λσ' H' p'=>⟨xs.length - (i+1),by omega,rfl,hlt,p'⟩,λx H' y=>?_⟩;obtain⟨rfl,hx⟩:=y;exact hs i x σ _ hx p
 ·have e:i=xs.length:=by omega
  subst e;exact .inl ⟨⟨q,bw _⟩,hd σ H p⟩
end
def TM:V->List V->Hp->VK->Prop:=λx vs H Q=>∃d o kvs more,x=.ref d/\vs=[.ref o]/\H d=some (.dK kvs)/\H o=some (.dK more)/\d≠o/\kvs.length+more.length<=100000/\Q .bh (upd H d (.dK (ke kvs more)))
theorem zm:Ss X "dict.update" TM:=by
 intro pins s σ H x vs v us Q I rx rv h;obtain⟨d,o,kvs,more,rfl,rfl,hd,ho,ne,z,q⟩:=h;cases rx;obtain⟨u,rfl,ru⟩:=vals1 rv;cases ru;obtain⟨_,hS,ws,rel,dd⟩:=mM I.aW hd;obtain⟨_,hS2,ws2,rel2,dd2⟩:=mM I.aW ho;have l1:kvs.length=ws.length:=Paired.length rel;have l2:more.length=ws2.length:=Paired.length rel2;have l3:=g6 more kvs;refine call_meetsIn PySem.F.slot_dict_update dd.typeIs PySem.F.entry_dict_update (PySem.F.args_dict_update_2 _ _) (meets_dict_update (bc X.prog X.w) d o ne hS2) ⟨ws,ws2,dd,dd2,by rw[sizeLine_eq];omega,λh' d1 d2 sb=>?_⟩;have he:∃q,h'.get? d=some q:=let ⟨q,_,_,hq,_⟩:=d1;⟨q,hq⟩
 exact⟨.bh,_,ig (t':=s.toks) I (by rw[hd];exact True.intro) sb he (zq (by rw[sizeLine_eq];omega) hS (KV.merge rel2 rel) d1),rfl,q⟩
def AF(g:TG)(tt:TT)(te:TE)(σ0:St)(Q:VK):VK:=λx H1=>∃a kvs,x=.ref a/\H1 a=some (.dK kvs)/\∀o,x9 g tt te σ0 Q (VJ a o kvs) (upd H1 a (.fY o (.dK kvs)))
section
variable{k:Nat}{fm:List Nat}{tl te:TE}{g:TG}{tt:TT}{σ σ0:St}{H H1:Hp}{Q:VK}
theorem Pj:k9 k fm (E7 tl) g tt te σ H Q=tl σ H (AF g tt te (eg k fm σ) Q):=rfl
theorem AF.of{a:Addr}{kvs:List (Key×V)}(hz:kvs.length<sizeLine)(hx:H1 a=some (.dK kvs))(Pv:Obj->Addr->Nat->List V->Hp->Prop)(h0:∀o D,H1 D=none->Pv o D 0 [] (upd (upd H1 a (.fY o (.dK kvs))) D (.lst [])))
  (hl:∀o D i ys H',H1 D=none->i<=kvs.length->Pv o D i ys H'->H' a=some (.fY o (.dK kvs))/\H' D=some (.lst ys)/\ys.length<=i)
  (hs:∀o D i p ys H',H1 D=none->kvs[i]?=some p->Pv o D i ys H'->g (kV p.1) σ0 H' λσ3 H4=>Ext σ0 σ3/\tt σ3 H4 λb H5=>if b=true then te σ3 H5 λy H6=>H6 D=some (.lst ys)/\Pv o D (i+1) (ys++[y]) (upd H6 D (.lst (ys++[y]))) else Pv o D (i+1) ys H5)
  (hd:∀o D ys H',H1 D=none->Pv o D kvs.length ys H'->Q (.ref D) H'):AF g tt te σ0 Q (.ref a) H1:=by
 refine⟨a,kvs,rfl,hx,λo D hD0=>?_⟩;have nD:D≠a:=λe=>by rw[e,aD]at hD0;cases hD0
 have hD:H1 D=none:=by rwa [ae nD]at hD0
 refine⟨λi m ys H=>m=kvs.length - i/\i<=kvs.length/\Pv o D i ys H,⟨kvs.length,by simp,Nat.zero_le _,h0 o D hD⟩,?_⟩;rintro i m ys H2 ⟨rfl,hi,p⟩;obtain⟨l0,l1,l2⟩:=hl o D i ys H2 hD hi p;refine⟨l1,by omega,?_⟩;by_cases hlt:i<kvs.length
 ·refine .inr ⟨⟨l0,kvs[i],by simp[hlt]⟩,Pv o D (i+1),λys' H' p'=>⟨_,(by omega:kvs.length - (i+1)<kvs.length - i),rfl,hlt,p'⟩,λx H3 y=>?_⟩;obtain⟨rfl,u,hu,rfl⟩:=y;exact hs o D i u ys _ hD hu p
 ·have e:i=kvs.length:=by omega
  subst e;exact .inl ⟨⟨l0,bw _⟩,hd o D ys H2 hD p⟩
end
end
section
variable{X:Cx}
def M8:V->List V->Hp->VK->Prop:=λx vs H Q=>∃l xs,∃i:Int,∃y,x=.ref l/\vs=[.int i,y]/\H l=some (.lst xs)/\0<=i/\i<2 ^ 62/\xs.length<sizeLine/\Q .bh (upd H l (.lst (xs.take i.toNat++y::xs.drop i.toNat)))
theorem iX:Ss X "list.insert" M8:=by
 intro pins s σ H x vs v us Q I rx rv h;obtain⟨l,xs,i,y,rfl,rfl,hH,h0,h1,hz,q⟩:=h;cases rx;obtain⟨u1,u2,rfl,r1,r2⟩:=vals2 rv;obtain⟨t,rfl⟩:=r1;obtain⟨z,its,n,r,hl,e⟩:=I.Eu hH;have hlen:xs.length=its.length:=r.length;have hf:Builtin.List.listFitsIndex i=true:=fitsIndex_of h0 (by omega);refine call_meets F.slot_list_insert ⟨_,e,rfl⟩ F.entry_list_insert (F.args_list_insert_3 _ _ _) (PySem.AutoSeq1.list_insert_list_int_val_1 l its.toArray n i t u2 (by rw[hf];decide) (by rw[hU];omega)) ⟨e,?_⟩;refine⟨.bh,_,I.MP (its':=its.take i.toNat++u2::its.drop i.toNat) hH e ?_ ((r.take _).append (.cons r2 (r.drop _))) ?_,rfl,q⟩
 ·have hn:¬i<0:=by omega
  simp only[hn,if_false,List.size_toArray];apply Array.toList_inj.mp;simp[Array.toList_extract];by_cases hi:i.toNat<=its.length
  ·rw[Nat.min_eq_left hi,VV (show(its.drop i.toNat).length<=its.length - i.toNat by rw[TF];exact bw _)]
  ·rw[Nat.min_eq_right (by omega),iR,List.drop_length,List.take_nil,VV (show its.length<=i.toNat by omega),List.drop_of_length_le (show its.length<=i.toNat by omega)]
 ·rw[eY,p_,zS,TF];omega
end
end L2
namespace L2
open PySem
section
variable{prog:Program}{w:World}{A:Around}{E:Vs}{s:Shared}
set_option maxHeartbeats 3200000 in
set_option maxHeartbeats 3200000 in
end
section
open PySem.Spec PyProof.Rows
def Y3(a:Addr)(o:Obj)(kvs:List (List Key×V))(ks:List Addr):It:=
 ⟨λi H=>H a = some (.fY o (.dT kvs)) /\ ∃ b, ks[i]? = some b,
  λi H v H'=>H'=H/\∃b,ks[i]?=some b/\v=.ref b,
  λi H=>H a=some (.fY o (.dT kvs))/\ks.length<=i⟩
def Hy(H:Hp)(kvs:List (List Key×V))(ks:List Addr):Prop:=Paired (λ(p:List Key×V) (b:Addr)=>H b=some (.tup (p.1.map kV))) kvs ks
variable{X:Cx}
def OI(te:TE):TI:=λσ H R=>te σ H λx H1=>∃a kvs,x=.ref a/\Rd H1 a (.dT kvs)/\∀o ks H2,H2 a=some (.fY o (.dT kvs))->(∀b,b≠a->H2 b=H1 b)->Hy H2 kvs ks->R (Y3 a o kvs ks) H2
def RU(g:TG)(tb:TS)(D:Ends)(σ:St):VK:=λx H1=>∃a kvs,x=.ref a/\Rd H1 a (.dT kvs)/\∀o ks H2,H2 a=some (.fY o (.dT kvs))->(∀b,b≠a->H2 b=H1 b)->Hy H2 kvs ks->lL g tb D σ (Y3 a o kvs ks) H2
section
variable{te:TE}{g:TG}{tb:TS}{D:Ends}{σ:St}{H:Hp}
theorem PF:jD (OI te) g tb D σ H=te σ H (RU g tb D σ):=rfl
end
end
end L2
namespace L2
open PySem PySem.Spec PyProof.Rows
def M6(K:Wf)(g:TG)(tb:TS)(D:Ends)(σ:St):(List V->Hp->Prop):=λvs H1=>∃a b xs ys,vs=[.ref a,.ref b]/\aA K H1 a xs/\aA K H1 b ys/\lL g tb D σ (X6 K a b) H1
section
variable{K:Wf}{ta:TA}{g:TG}{tb:TS}{D:Ends}{σ:St}{H:Hp}
theorem Ta:jD (Vl K ta) g tb D σ H=ta σ H (M6 K g tb D σ):=rfl
theorem M6.of{a b:Addr}{xs ys:List V}(he:ys.length=xs.length)(hx:aA K H a xs)(hy:aA K H b ys)(Pv:Nat->St->Hp->Prop)(h0:Pv 0 σ H)(hl:∀i σ H',i<=xs.length->Pv i σ H'->aA K H' a xs/\aA K H' b ys)
  (hs:∀i x y σ H' q,xs[i]?=some x->ys[i]?=some y->Pv i σ H'->H' q=none->g (.ref q) σ (upd H' q (.tup [x,y])) λσ2 H2=>tb { D with nx:=Pv (i+1),ct:=Pv (i+1),bk:=D.nx } σ2 H2) (hd:∀σ H',Pv xs.length σ H'->D.nx σ H'):M6 K g tb D σ [.ref a,.ref b] H:=by
 refine⟨a,b,xs,ys,rfl,hx,hy,λi m σ H=>m=xs.length - i/\i<=xs.length/\Pv i σ H,⟨xs.length,by simp,Nat.zero_le _,h0⟩,?_⟩;rintro i m σ H2 ⟨rfl,hi,p⟩;obtain⟨l0,l0'⟩:=hl i σ H2 hi p;by_cases hlt:i<xs.length
 ·have hlt':i<ys.length:=by omega
  refine .inr ⟨⟨xs,ys,xs[i],ys[i],l0,l0',by simp[hlt],by simp[hlt']⟩,Pv (i+1),λσ' H' p'=>⟨xs.length - (i+1),by omega,rfl,hlt,p'⟩,λx H3 y=>?_⟩;obtain⟨q,u,v,rfl,nq,y1,y2,rfl⟩:=y;exact hs i u v σ H2 q (y1 xs l0) (y2 ys l0') p nq
 ·have e:i=xs.length:=by omega
  subst e;exact .inl ⟨⟨xs,ys,l0,l0',.inl (bw _)⟩,hd σ H2 p⟩
end
def hold(t:TS):TS:=t
theorem bu{t:TS}{D:Ends}{σ:St}{H:Hp}(h:t D σ H):hold t D σ H:=h
theorem fM(h:vM X b t):vM X b (hold t):=h
end L2
set_option maxHeartbeats 0
set_option pp.deepTerms true
set_option pp.maxSteps 100000
namespace L2
open PySem PySem.Spec PyProof.Rows
section
variable{X:Cx}
theorem tx(K:Wf){a:Expr}{ta:TE}{n:Int}{j:Nat}{p pos:Pos}(ha:PE X a ta)(e:X.K=K:=by rfl):PE X (.Subscript a (.Constant (.int n) j p) pos) (N7 (Jg K) ta (tC (.int n))):=cw (Ml e) ha af (λ_ _=>rfl)
theorem pn(i:Nat){x:Str}{pos:Pos}(hN:X.N.Nodup)(hi:X.N[i]?=some x:=by rfl)(hx:Loc X.env.scope x:=by first|exact Or.inl rfl|exact Or.inr rfl)(hf:X.fn x=true\/X.env.scope.names.lookup x=some .local:=by first|exact .inl rfl|exact .inr rfl|assumption):PG X (.Name x pos) (mr i):=M5 hN hi hx hf
theorem pS(i:Nat){x:Str}{e:Expr}{te:TE}{pos pos':Pos}(hN:X.N.Nodup)(he:PE X e te)(hi:X.N[i]?=some x:=by rfl)(hx:Loc X.env.scope x:=by first|exact Or.inl rfl|exact Or.inr rfl)(hs:swapsWith e (some (.Name x pos')) pos.line X.env=pure false:=by rfl)(hf:X.fn x=true\/X.env.scope.names.lookup x=some .local:=by first|exact .inl rfl|exact .inr rfl|assumption):PS X (.Assign [.Name x pos'] e pos) (MR te (mr i)):=Px hN hi hx he hs hf
theorem pC{k n:Nat}{f:Addr}{fd:FuncData}{ps:List Str}{sp:Sp}{x:Str}{e:Expr}{es:List Expr}{t:TA}{p pos:Pos}(F:aY X.prog X.w X.K X.mg X.base cF k f fd ps sp)(hr:cz n X.A)(hm:X.mg x=some (.ref f))(hk:keepIn X.K (.ref f)=true)(hb:Binds X.K fd ps [])(ha:PA X (e::es) t)(hl:k<=n:=by decide)(hg:Gl X x:=by rfl)(hdb:(x == ("__debug__" : Str))=false:=by decide)(he:starEach (e::es) X.env=(false,eval e X.env)::starEach es X.env:=by rfl)(hpl:(backTo pos (starEach es X.env)).any (·.1)=false:=by rfl):PE X (.Call (.Name x p) (e::es) [] pos) (JG sp [] E0 t):=LS F (hr.mono hl) hg hm hk hb .nil dB ha hdb he hpl
theorem kD(own:List Str){scope:Scope}(kind:scope.kind=.function:=by rfl)(h1:∀y∈scope.names,y.2≠.cell:=by decide +kernel)(h2:∀y∈scope.names,y.2=.local->scope.names.lookup y.1=some .local:=by decide +kernel)(h3:∀y∈scope.names,y.2=.free->y.1∈([]:List Str):=by decide +kernel):gE X (own++[]) own.length [] scope:=kY kind h1 h2 h3 .nil
theorem dE{o e:Expr}{es:List Expr}{to:TE}{t:TA}{apos cpos:Pos}(ho:PE X o to)(ha:PA X (e::es) t)(hbase:attributeBase o "append" X.env (eval o X.env)=eval o X.env:=by rfl)(hfew:((backTo cpos (starEach (e::es) X.env)).all (λx=>!x.1)&&(backToKw cpos (keywordEach [] X.env)).all (λx=>x.1.isSome)&&decide ((e::es).length+([]:List Keyword).length+(if ([]:List Keyword).isEmpty then 0 else 1)<30))=true:=by rfl)(hline:(apos.endLine == cpos.line)=true:=by rfl)(hs:starEach (e::es) X.env=(false,eval e X.env)::starEach es X.env:=by rfl)(hp:(backTo cpos (starEach es X.env)).any (·.1)=false:=by rfl):PE X (.Call (.Attribute o "append" apos) (e::es) [] cpos) (YJ X.K "list" BF to t):=mD PySem.F.plainAttrs_list PySem.F.slot_list_append PySem.F.type_list_append mV ho ha hbase hfew hline hs hp
theorem pF{tg iter:Expr}{body:List Stmt}{wi:TI}{g:TG}{tb:TS}{pos:Pos}(hi:PI X tg iter wi)(hg:PG X tg g)(hb:vM X body tb)(hc:X.calm=true:=by rfl)(hs:∀x,foldedSetIterable iter X.env x=pure x:=by intro _;rfl)(hn:PassesOwn (model X.prog X.w) X.A X.env X.xe:=by exact PassesOwn.never):PS X (.For tg iter body [] pos) (jD wi g tb):=PV hn hc hi hg hb hs
end
end L2
namespace My
open PySem PySem.Spec PyProof.Rows L2
abbrev OA(a:Addr):List (Str×V):=putF s!"pieces" (V.ref a) []
abbrev Pl(a b:Addr):List (Str×V):=putF s!"reasons" (V.ref b) (OA a)
abbrev Q1(a b c:Addr):List (Str×V):=putF s!"told_by_given" (V.ref c) (Pl a b)
abbrev Se(a b c d:Addr):List (Str×V):=putF s!"on_shelves" (V.ref d) (Q1 a b c)
abbrev VT(a b c d e:Addr):List (Str×V):=putF s!"from_shelves" (V.ref e) (Se a b c d)
set_option hygiene false in
local macro_rules | `(tactic| walk_at "j") => `(tactic| (repeat (first | (obtain ⟨rfl, _⟩ := h; rfl) | (obtain ⟨_, h⟩ := h))))
set_option hygiene false in
local macro_rules | `(tactic| walk_at "k") => `(tactic| ((focus (intro vs H Q E h; walk_at "j")); (intro cdv Ar outer s H vs Q E hr h)))
set_option hygiene false in
local macro_rules | `(tactic| walk_at "0") => `(tactic| rw [jA] at hx)
set_option hygiene false in
local macro_rules | `(tactic| walk_at "1") => `(tactic| rw [aI, iR] at e)
set_option hygiene false in
local macro_rules | `(tactic| walk_at "2") => `(tactic| have mem : ∀ b ∈ p.lists, b ∈ L :: aE (ps ++ [p]) := fun b hb => h8 _ (by rw [fZ]; exact jW _ hb))
set_option hygiene false in
local macro_rules | `(tactic| walk_at "3") => `(tactic| rw [aI, aI] at this)
set_option hygiene false in
local macro_rules | `(tactic| walk_at "4") => `(tactic| rw [jA] at hv)
set_option hygiene false in
local macro_rules | `(tactic| walk_at "5") => `(tactic| obtain ⟨p, hp, rfl⟩ := fW.mp hv)
set_option hygiene false in
local macro_rules | `(tactic| walk_at "6") => `(tactic| have tk : ps.take (i + 1) = ps.take i ++ [p] := by rw [jH, hp]; rfl)
set_option hygiene false in
local macro_rules | `(tactic| walk_at "7") => `(tactic| rw [aI, aI, p_] at this)
set_option hygiene false in
local macro_rules | `(tactic| walk_at "8") => `(tactic| have inL : ∀ x ∈ R, x ∈ R ++ [r] := fun x hx => lC _ hx)
local macro_rules | `(tactic| walk_at "o") => `(tactic| first | exact Or.inl rfl | exact Or.inr rfl)
local macro_rules | `(tactic| walk_at "s") => `(tactic| (rw [sizeLine_eq]; decide))
local macro_rules | `(tactic| walk_at "p") => `(tactic| first | exact Or.inl rfl | exact Or.inr (Or.inl rfl) | exact Or.inr (Or.inr rfl))
local macro_rules | `(tactic| walk_at "q") => `(tactic| first | exact .inl rfl | exact .inr rfl | assumption)
local macro_rules | `(tactic| walk_at "n") => `(tactic| exact of_decide_eq_true (by kernel_rfl))
local macro_rules | `(tactic| walk_at "F") => `(tactic| exact ⟨rfl, rfl, rfl, by decide +kernel, rfl, by decide +kernel, by decide +kernel⟩)
def top(i:Nat):Stmt:=PySem.Challenge.pw_joinload_k60_what_is_there_at_first.main.body.getD i (.Pass ⟨0,0,0,0⟩)
abbrev Ip:Stmt:=top 3
abbrev GG:Stmt:=top 4
abbrev Ai:Stmt:=top 5
abbrev v9:Stmt:=top 6
abbrev oz:Stmt:=top 15
abbrev oy:Stmt:=top 16
abbrev Cp:Stmt:=top 17
abbrev IW:Stmt:=top 18
abbrev Ab:Stmt:=top 19
abbrev Gp:Stmt:=top 20
abbrev GZ:Stmt:=top 21
abbrev Kt:Stmt:=top 23
abbrev Io:Stmt:=inClass (top 24) 0
abbrev Hv:Stmt:=inClass (top 25) 0
abbrev Ic:Stmt:=inClass (top 26) 0
abbrev Jy:Stmt:=inClass (top 27) 0
abbrev JT:Stmt:=top 32
abbrev ER:Stmt:=top 33
abbrev j4:Stmt:=top 35
abbrev EO:Stmt:=inClass (top 36) 0
abbrev GO:Stmt:=inClass (top 36) 1
abbrev Ep:Stmt:=inClass (top 36) 2
abbrev Gq:Stmt:=top 37
abbrev JV:Stmt:=top 38
abbrev KU:Stmt:=top 39
abbrev Gy:Stmt:=inClass (top 41) 0
abbrev Gv:Stmt:=top 42
abbrev FQ:Stmt:=top 44
abbrev IB:Stmt:=top 45
abbrev KR:Stmt:=top 47
abbrev HV:Stmt:=inClass (top 49) 0
abbrev E1:Stmt:=inClass (top 49) 1
abbrev G9:Stmt:=inClass (top 49) 3
abbrev Jx:Stmt:=inClass (top 49) 4
abbrev Ls:Stmt:=top 51
abbrev Fh:Stmt:=top 52
abbrev Es:Stmt:=top 53
abbrev E_:Stmt:=top 54
abbrev Lf:Stmt:=top 55
abbrev IA:Stmt:=top 56
abbrev JO:Stmt:=top 57
abbrev HY:Stmt:=top 58
abbrev HW:Stmt:=top 59
abbrev JP:Stmt:=top 60
abbrev FF:Stmt:=top 61
abbrev Gb:Stmt:=top 62
abbrev ID:Stmt:=top 63
abbrev Ky:Stmt:=top 64
abbrev KW:Stmt:=top 65
abbrev Gw:Stmt:=top 66
theorem CI:bootBuiltins "bool" = some (.type "bool"):=by decide +kernel
theorem i_:bootBuiltins "int" = some (.type "int"):=by decide +kernel
theorem ka:bootBuiltins "isinstance" = some (.builtin "isinstance"):=by decide +kernel
theorem b0:bootBuiltins "len" = some (.builtin "len"):=by decide +kernel
theorem eO:bootBuiltins "list" = some (.type "list"):=by decide +kernel
theorem QI:bootBuiltins "max" = some (.builtin "max"):=by decide +kernel
theorem O1:bootBuiltins "set" = some (.type "set"):=by decide +kernel
theorem nh:bootBuiltins "sorted" = some (.builtin "sorted"):=by decide +kernel
theorem FZ:bootBuiltins "str" = some (.type "str"):=by decide +kernel
theorem yh:bootBuiltins "tuple" = some (.type "tuple"):=by decide +kernel
theorem WV:RelV (.int i) (.int i t):=⟨t,rfl⟩
theorem lH:RelV (.ty n) (.type n):=rfl
structure Ad where
 Sm:Addr
 nT:FuncData
 SH:Addr
 nA:FuncData
 ones:Addr
 jZ:FuncData
 moved:Addr
 iw:FuncData
 tells:Addr
 iD:FuncData
 wants:Addr
 ik:FuncData
 Rw:Addr
 ly:FuncData
 Rt:Addr
 qJ:FuncData
 Kz:Addr
 jS:FuncData
 Tb:Addr
 vf:FuncData
 Vq:Addr
 qp:FuncData
 Vk:Addr
 sX:FuncData
 Pg:Addr
 vc:FuncData
 Ub:Addr
 uz:FuncData
 S_:Addr
 ve:FuncData
 RB:Addr
 qz:FuncData
 RY:Addr
 wF:FuncData
 Ug:Addr
 s_:FuncData
 taken:Addr
 gD:FuncData
 Ry:Addr
 sP:FuncData
 Ut:Addr
 nY:FuncData
 Ui:Addr
 oO:FuncData
 UM:Addr
 wq:FuncData
 S4:Addr
 oJ:FuncData
 RN:Addr
 r_:FuncData
 UG:Addr
 rA:FuncData
 SS:Addr
 oS:FuncData
 TY:Addr
 oG:FuncData
 RG:Addr
 rg:FuncData
 SR:Addr
 tH:FuncData
 RM:Addr
 vJ:FuncData
 Sv:Addr
 uF:FuncData
 RS:Addr
 vP:FuncData
 RF:Addr
 tS:FuncData
 Tq:Addr
 wg:FuncData
 Vy:Addr
 sk:FuncData
 Tx:Addr
 o7:FuncData
 UE:Addr
 rK:FuncData
 SU:Addr
 rq:FuncData
 Sn:Addr
 nu:FuncData
 U9:Addr
 um:FuncData
 UO:Addr
 rB:FuncData
 Vn:Addr
 uK:FuncData
 UY:Addr
 vY:FuncData
 Tg:Addr
 se:FuncData
 Uj:Addr
 wJ:FuncData
 RL:Addr
 q_:FuncData
 TN:Addr
 xh:FuncData
 Sl:Addr
 uZ:FuncData
 RT:Addr
 sV:FuncData
 br:Addr
 aN:Addr
 xB:Tok
 fQ:Addr
 iC:Addr
 cu:Addr
 aG:Addr
 iH:Addr
 cQ:Addr
structure Txt(K:Wf)(mg:So)(A:Ad):Prop where
 yM:mg "wrapped" = some (.ref A.Sm)
 mS:keepIn K (.ref A.Sm)=true
 mL:Binds K A.nT ["number"] []
 Ap:cW K "wrapped" "wrapped" Ip A.Sm A.nT
 Iq:mg "with_field" = some (.ref A.SH)
 BM:keepIn K (.ref A.SH)=true
 B2:Binds K A.nA ["word", "low", "many", "number"] []
 A8:cW K "with_field" "with_field" GG A.SH A.nA
 zT:mg "ones" = some (.ref A.ones)
 vq:keepIn K (.ref A.ones)=true
 oX:Binds K A.jZ ["many"] []
 tD:cW K "ones" "ones" Ai A.ones A.jZ
 pI:mg "moved" = some (.ref A.moved)
 jO:keepIn K (.ref A.moved)=true
 jT:Binds K A.iw ["number", "up"] []
 jU:cW K "moved" "moved" v9 A.moved A.iw
 AM:mg "tells" = some (.ref A.tells)
 pB:keepIn K (.ref A.tells)=true
 qU:Binds K A.iD ["piece"] []
 j3:cW K "tells" "tells" oz A.tells A.iD
 Ax:mg "wants" = some (.ref A.wants)
 pH:keepIn K (.ref A.wants)=true
 qg:Binds K A.ik ["piece"] []
 j0:cW K "wants" "wants" oy A.wants A.ik
 NW:mg "names_of" = some (.ref A.Rw)
 Bx:keepIn K (.ref A.Rw)=true
 HN:Binds K A.ly ["pieces"] []
 AW:cW K "names_of" "names_of" Cp A.Rw A.ly
 Oi:mg "refuse_twice" = some (.ref A.Rt)
 Lp:keepIn K (.ref A.Rt)=true
 ET:Binds K A.qJ ["ordered"] []
 Cw:cW K "refuse_twice" "refuse_twice" IW A.Rt A.qJ
 IL:mg "aims" = some (.ref A.Kz)
 zV:keepIn K (.ref A.Kz)=true
 zX:Binds K A.jS ["piece", "names", "fills"] []
 qb:cW K "aims" "aims" Ab A.Kz A.jS
 NQ:mg "aim_by" = some (.ref A.Tb)
 Fv:keepIn K (.ref A.Tb)=true
 FE:Binds K A.vf ["piece_name", "own", "names", "fill"] []
 A5:cW K "aim_by" "aim_by" Gp A.Tb A.vf
 yN:mg "places_told" = some (.ref A.Vq)
 m_:keepIn K (.ref A.Vq)=true
 mO:Binds K A.qp ["piece", "told_by"] []
 CA:cW K "places_told" "places_told" GZ A.Vq A.qp
 BX:mg "rule_of" = some (.ref A.Vk)
 xY:keepIn K (.ref A.Vk)=true
 yR:Binds K A.sX ["title"] []
 Bu:cW K "rule_of" "rule_of" Kt A.Vk A.sX
 Oz:keepIn K (.ref A.Pg)=true
 ye:Binds K A.vc ["self", "title"] []
 AD:cW K "__init__" "Rule.__init__" Io A.Pg A.vc
 Eo:keepIn K (.ref A.Ub)=true
 Jw:Binds K A.uz ["self", "word", "here", "there"] []
 Am:cW K "filled" "Whole.filled" Hv A.Ub A.uz
 HG:keepIn K (.ref A.S_)=true
 Ju:Binds K A.ve ["self", "word", "here", "there"] []
 An:cW K "filled" "High.filled" Ic A.S_ A.ve
 Fn:keepIn K (.ref A.RB)=true
 J7:Binds K A.qz ["self", "word", "here", "there"] []
 Bi:cW K "filled" "Low.filled" Jy A.RB A.qz
 Nu:mg "copied_piece" = some (.ref A.RY)
 HI:keepIn K (.ref A.RY)=true
 IY:Binds K A.wF ["piece"] []
 AH:cW K "copied_piece" "copied_piece" JT A.RY A.wF
 NX:mg "copied_fills" = some (.ref A.Ug)
 K7:keepIn K (.ref A.Ug)=true
 FP:Binds K A.s_ ["fills"] []
 B0:cW K "copied_fills" "copied_fills" ER A.Ug A.s_
 CJ:mg "taken" = some (.ref A.taken)
 jP:keepIn K (.ref A.taken)=true
 qE:Binds K A.gD ["given", "shelves", "entry"] []
 jM:cW K "taken" "taken" j4 A.taken A.gD
 Of:keepIn K (.ref A.Ry)=true
 Kx:Binds K A.sP ["self", "given", "shelves", "entry"] []
 Ba:cW K "__init__" "Taking.__init__" EO A.Ry A.sP
 Et:keepIn K (.ref A.Ut)=true
 EV:Binds K A.nY ["self"] []
 B9:cW K "take_for_pieces" "Taking.take_for_pieces" GO A.Ut A.nY
 Ff:keepIn K (.ref A.Ui)=true
 Bz:Binds K A.oO ["self", "name", "by"] []
 AB:cW K "take_for" "Taking.take_for" Ep A.Ui A.oO
 Oo:mg "pieces_on" = some (.ref A.UM)
 JZ:keepIn K (.ref A.UM)=true
 Jp:Binds K A.wq ["shelves"] []
 Ay:cW K "pieces_on" "pieces_on" Gq A.UM A.wq
 Oa:mg "refuse_same_name" = some (.ref A.S4)
 Iv:keepIn K (.ref A.S4)=true
 GI:Binds K A.oJ ["pieces"] []
 Bd:cW K "refuse_same_name" "refuse_same_name" JV A.S4 A.oJ
 Lx:mg "first_tellers" = some (.ref A.RN)
 Bm:keepIn K (.ref A.RN)=true
 Bv:Binds K A.r_ ["pieces"] []
 Bq:cW K "first_tellers" "first_tellers" KU A.RN A.r_
 Oc:keepIn K (.ref A.UG)=true
 Fg:Binds K A.rA ["self", "word", "title", "aimed"] []
 A0:cW K "__init__" "WithFill.__init__" Gy A.UG A.rA
 Gn:mg "is_word" = some (.ref A.SS)
 A2:keepIn K (.ref A.SS)=true
 Cg:Binds K A.oS ["value"] []
 CB:cW K "is_word" "is_word" Gv A.SS A.oS
 B1:mg "at_value" = some (.ref A.TY)
 yI:keepIn K (.ref A.TY)=true
 xP:Binds K A.oG ["aimed"] []
 BN:cW K "at_value" "at_value" FQ A.TY A.oG
 xD:mg "copied_value" = some (.ref A.RG)
 lX:keepIn K (.ref A.RG)=true
 mU:Binds K A.rg ["value"] []
 AZ:cW K "copied_value" "copied_value" IB A.RG A.rg
 Og:mg "at_first" = some (.ref A.SR)
 KL:keepIn K (.ref A.SR)=true
 HU:Binds K A.tH ["word", "title", "aimed"] []
 B8:cW K "at_first" "at_first" KR A.SR A.tH
 NI:keepIn K (.ref A.RM)=true
 JB:Binds K A.vJ ["self", "given", "shelves", "entry", "registers"] []
 CG:cW K "__init__" "Named.__init__" HV A.RM A.vJ
 JM:keepIn K (.ref A.Sv)=true
 HQ:Binds K A.uF ["self", "piece", "names"] []
 Bl:cW K "take_in" "Named.take_in" E1 A.Sv A.uF
 Eh:keepIn K (.ref A.RS)=true
 AO:Binds K A.vP ["self"] []
 CL:cW K "state" "Named.state" G9 A.RS A.vP
 Gz:keepIn K (.ref A.RF)=true
 JW:Binds K A.tS ["self", "piece", "stretch", "offset"] []
 BJ:cW K "value_at" "Named.value_at" Jx A.RF A.tS
 xT:mg "_law_cell_at" = some (.ref A.Tq)
 mC:keepIn K (.ref A.Tq)=true
 me:Binds K A.wg ["_law_script", "_law_k"] []
 CD:cW K "_law_cell_at" "_law_cell_at" Ls A.Tq A.wg
 jx:mg "_law_name_by" = some (.ref A.Vy)
 ix:keepIn K (.ref A.Vy)=true
 iI:Binds K A.sk ["_law_cell", "_law_k"] []
 AI:cW K "_law_name_by" "_law_name_by" Fh A.Vy A.sk
 Ox:mg "_law_word_row" = some (.ref A.Tx)
 FL:keepIn K (.ref A.Tx)=true
 E9:Binds K A.o7 ["_law_cell", "_law_names_by"] []
 Cq:cW K "_law_word_row" "_law_word_row" Es A.Tx A.o7
 Nv:mg "_law_told_by" = some (.ref A.UE)
 Fm:keepIn K (.ref A.UE)=true
 Iy:Binds K A.rK ["_law_pieces", "_law_cell", "_law_names_by", "_law_strict"] []
 Bt:cW K "_law_told_by" "_law_told_by" E_ A.UE A.rK
 Nn:mg "_law_drawn" = some (.ref A.SU)
 FC:keepIn K (.ref A.SU)=true
 JR:Binds K A.rq ["_law_cells", "_law_names_by", "_law_titles_by", "_law_strict"] []
 Cj:cW K "_law_drawn" "_law_drawn" Lf A.SU A.rq
 NK:mg "_law_copy" = some (.ref A.Sn)
 GK:keepIn K (.ref A.Sn)=true
 GB:Binds K A.nu ["_law_piece"] []
 CP:cW K "_law_copy" "_law_copy" IA A.Sn A.nu
 By:mg "_law_whole" = some (.ref A.U9)
 yp:keepIn K (.ref A.U9)=true
 xH:Binds K A.um ["_law_found"] []
 CM:cW K "_law_whole" "_law_whole" JO A.U9 A.um
 BY:mg "_law_value" = some (.ref A.UO)
 xC:keepIn K (.ref A.UO)=true
 yt:Binds K A.rB ["_law_found", "_law_due_here"] []
 Bj:cW K "_law_value" "_law_value" HY A.UO A.rB
 IT:mg "_law_values" = some (.ref A.Vn)
 Cn:keepIn K (.ref A.Vn)=true
 CN:Binds K A.uK ["_law_found", "_law_due_here"] []
 AR:cW K "_law_values" "_law_values" HW A.Vn A.uK
 Fo:mg "_law_state" = some (.ref A.UY)
 Ak:keepIn K (.ref A.UY)=true
 BD:Binds K A.vY ["_law_found", "_law_spot", "_law_row", "_law_told", "_law_ended"] []
 AS:cW K "_law_state" "_law_state" JP A.UY A.vY
 Nj:mg "_law_rest" = some (.ref A.Tg)
 Fl:keepIn K (.ref A.Tg)=true
 Gu:Binds K A.se ["_law_names_by", "_law_titles_by"] []
 Cb:cW K "_law_rest" "_law_rest" FF A.Tg A.se
 Od:mg "_law_names" = some (.ref A.Uj)
 Lh:keepIn K (.ref A.Uj)=true
 E2:Binds K A.wJ ["_law_pieces"] []
 BK:cW K "_law_names" "_law_names" Gb A.Uj A.wJ
 N0:mg "_law_filled" = some (.ref A.RL)
 FY:keepIn K (.ref A.RL)=true
 EF:Binds K A.q_ ["_law_word", "_law_rule", "_law_add"] []
 CO:cW K "_law_filled" "_law_filled" ID A.RL A.q_
 N_:mg "_law_due" = some (.ref A.TN)
 JK:keepIn K (.ref A.TN)=true
 FR:Binds K A.xh ["_law_piece", "_law_some", "_law_word", "_law_fill"] []
 BH:cW K "_law_due" "_law_due" Ky A.TN A.xh
 KH:mg "_law_holds" = some (.ref A.Sl)
 CS:keepIn K (.ref A.Sl)=true
 BV:Binds K A.uZ ["_law_machine", "_law_pieces", "_law_some"] []
 Bo:cW K "_law_holds" "_law_holds" KW A.Sl A.uZ
 Ua:mg "law" = some (.ref A.RT)
 K_:keepIn K (.ref A.RT)=true
 NZ:Binds K A.sV ["_law_script"] []
 A3:cW K "law" "law" Gw A.RT A.sV
 BS:mg "WORD_COUNT" = some (.int 4294967296 A.xB)
 k_:mg "bool" = none
 dz:mg "enumerate" = none
 iL:mg "int" = none
 aM:mg "isinstance" = none
 cL:mg "len" = none
 eF:mg "list" = none
 CU:mg "max" = none
 dM:mg "range" = none
 fD:mg "reversed" = none
 AA:mg "set" = none
 d_:mg "sorted" = none
 yC:mg "str" = none
 iq:mg "tuple" = none
 Cv:mg "zip" = none
 bm:BMod K mg
 Ko:Xw K A.ly A.br
 xW:Xw K A.gD A.aN
 B5:mg "High" = some (.ref A.fQ)
 rJ:xw K A.fQ
 KA:mg "Low" = some (.ref A.iC)
 zB:xw K A.iC
 HH:mg "Named" = some (.ref A.cu)
 bO:xw K A.cu
 Hs:mg "Taking" = some (.ref A.aG)
 bG:xw K A.aG
 G3:mg "Whole" = some (.ref A.iH)
 Af:xw K A.iH
 zp:mg "WithFill" = some (.ref A.cQ)
 kK:xw K A.cQ
 kw:kitOne K (.type "int") (.ref A.cQ)=some false
 kt:kitOne K (.type "tuple") (.ref A.cQ)=some false
 Pt:kitOne K (.ref A.cQ) (.ref A.cQ)=some true
 PD:findIn K (.ref A.cQ) "__class__" = some (some (.builtin "object.__class__"))
 QK:specialIn K (.builtin "object.__class__") "__get__" = some (some (.builtin "getset_descriptor.__get__"))
 QA:takesIn K (.builtin "object.__class__")=some true
 Qk:mroIn K A.cQ (.type "object")=some true
 Oe:specialIn K (.builtin "object.__class__") "__get__" = some (some (.builtin "getset_descriptor.__get__"))
 Nw:takesIn K (.builtin "object.__class__")=some true
 Ao:Mk K A.fQ A.Pg
 HP:Mk K A.iC A.Pg
 F1:Mk K A.cu A.RM
 KN:Mk K A.aG A.Ry
 Lz:Mk K A.iH A.Pg
 Kh:Mk K A.cQ A.UG
 G1:Meth K A.fQ "filled" A.S_
 K0:Meth K A.iC "filled" A.RB
 zw:Meth K A.cu "state" A.RS
 Kd:Meth K A.cu "take_in" A.Sv
 Fe:Meth K A.cu "value_at" A.RF
 zL:Meth K A.aG "take_for" A.Ui
 GH:Meth K A.aG "take_for_pieces" A.Ut
 Fc:Meth K A.iH "filled" A.Ub
 bH:bf K A.aG "pieces"
 cR:bf K A.aG "reasons"
 bF:bf K A.aG "told_by_given"
 bE:bf K A.aG "on_shelves"
 bq:bf K A.aG "from_shelves"
 dX:bf K A.aG "unmet"
 bS:bf K A.cu "memory"
 cn:bf K A.cu "stretches"
 dZ:bf K A.cu "place"
 ck:bf K A.cu "registers"
 cV:bf K A.cu "numbers"
 dR:bf K A.cu "ended"
 fL:bf K A.iH "title"
 eU:bf K A.fQ "title"
 fN:bf K A.iC "title"
 f_:bf K A.cQ "word"
 fO:bf K A.cQ "title"
 dW:bf K A.cQ "aimed"
theorem OV:au ["number"] ["number"] (ag Ip):=by walk_at "F"
theorem Il:au ["word", "low", "many", "number", "others"] ["word", "low", "many", "number"] (ag GG):=by walk_at "F"
theorem Mp:au ["many"] ["many"] (ag Ai):=by walk_at "F"
theorem Gi:au ["number", "up"] ["number", "up"] (ag v9):=by walk_at "F"
theorem Kq:au ["piece"] ["piece"] (ag oz):=by walk_at "F"
theorem bQ:au ["piece", "own", "wanted", "kind", "step", "words", "fills", "at", "rule", "name", "add", "soft"] ["piece"] (ag oy):=by walk_at "F"
theorem ky:au ["pieces", "ordered", "names", "sort", "piece"] ["pieces"] (ag Cp):=by walk_at "F"
theorem kx:au ["ordered", "tellers", "piece", "name", "twice", "least"] ["ordered"] (ag IW):=by walk_at "F"
theorem Aw:au ["piece", "names", "fills", "own"] ["piece", "names", "fills"] (ag Ab):=by walk_at "F"
theorem kh:au ["piece_name", "own", "names", "fill", "name", "add", "soft", "place"] ["piece_name", "own", "names", "fill"] (ag Gp):=by walk_at "F"
theorem jd:au ["piece", "told_by", "places", "name", "sort", "stretch", "offset"] ["piece", "told_by"] (ag GZ):=by walk_at "F"
theorem Qn:au ["title"] ["title"] (ag Kt):=by walk_at "F"
theorem OS:au ["self", "title"] ["self", "title"] (ag Io):=by walk_at "F"
theorem Qb:au ["self", "word", "here", "there"] ["self", "word", "here", "there"] (ag Hv):=by walk_at "F"
theorem OF:au ["self", "word", "here", "there"] ["self", "word", "here", "there"] (ag Ic):=by walk_at "F"
theorem Qc:au ["self", "word", "here", "there"] ["self", "word", "here", "there"] (ag Jy):=by walk_at "F"
theorem zO:au ["piece", "stretches", "names"] ["piece"] (ag JT):=by walk_at "F"
theorem Pu:au ["fills"] ["fills"] (ag ER):=by walk_at "F"
theorem kL:au ["given", "shelves", "entry", "taking", "ordered"] ["given", "shelves", "entry"] (ag j4):=by walk_at "F"
theorem KI:au ["self", "given", "shelves", "entry", "on_shelves", "least"] ["self", "given", "shelves", "entry"] (ag EO):=by walk_at "F"
theorem kJ:au ["self", "done", "piece", "name"] ["self"] (ag GO):=by walk_at "F"
theorem Ka:au ["self", "name", "by", "piece"] ["self", "name", "by"] (ag Ep):=by walk_at "F"
theorem yY:au ["shelves", "pieces", "shelf"] ["shelves"] (ag Gq):=by walk_at "F"
theorem uJ:au ["pieces", "seen", "again", "piece"] ["pieces"] (ag JV):=by walk_at "F"
theorem p8:au ["pieces", "first", "piece", "name"] ["pieces"] (ag KU):=by walk_at "F"
theorem O7:au ["self", "word", "title", "aimed"] ["self", "word", "title", "aimed"] (ag Gy):=by walk_at "F"
theorem Pm:au ["value"] ["value"] (ag Gv):=by walk_at "F"
theorem OW:au ["aimed"] ["aimed"] (ag FQ):=by walk_at "F"
theorem Pc:au ["value"] ["value"] (ag IB):=by walk_at "F"
theorem QB:au ["word", "title", "aimed"] ["word", "title", "aimed"] (ag KR):=by walk_at "F"
theorem vL:au ["self", "given", "shelves", "entry", "registers", "pieces", "names", "piece"] ["self", "given", "shelves", "entry", "registers"] (ag HV):=by walk_at "F"
theorem eS:au ["self", "piece", "names", "number", "stretch", "words", "fills", "at", "word", "fill", "aimed"] ["self", "piece", "names"] (ag E1):=by walk_at "F"
theorem Jh:au ["self", "registers"] ["self"] (ag G9):=by walk_at "F"
theorem Ej:au ["self", "piece", "stretch", "offset", "found"] ["self", "piece", "stretch", "offset"] (ag Jx):=by walk_at "F"
theorem QG:au ["_law_script", "_law_k"] ["_law_script", "_law_k"] (ag Ls):=by walk_at "F"
theorem eJ:au ["_law_cell", "_law_k", "_law_signs", "_law_size", "_law_at", "_law_name", "_law_j", "_law_many", "_law_place"] ["_law_cell", "_law_k"] (ag Fh):=by walk_at "F"
theorem hX:au ["_law_cell", "_law_names_by", "_law_what", "_law_rest_here", "_law_soft", "_law_add", "_law_rule"] ["_law_cell", "_law_names_by"] (ag Es):=by walk_at "F"
theorem iO:au ["_law_pieces", "_law_cell", "_law_names_by", "_law_strict", "_law_piece", "_law_name", "_law_sort", "_law_other"] ["_law_pieces", "_law_cell", "_law_names_by", "_law_strict"] (ag E_):=by walk_at "F"
theorem hJ:au ["_law_cells", "_law_names_by", "_law_titles_by", "_law_strict", "_law_pieces", "_law_cell", "_law_what", "_law_step", "_law_stretch", "_law_more"] ["_law_cells", "_law_names_by", "_law_titles_by", "_law_strict"] (ag Lf):=by walk_at "F"
theorem JU:au ["_law_piece", "_law_stretches"] ["_law_piece"] (ag IA):=by walk_at "F"
theorem PR:au ["_law_found"] ["_law_found"] (ag JO):=by walk_at "F"
theorem Qf:au ["_law_found", "_law_due_here"] ["_law_found", "_law_due_here"] (ag HY):=by walk_at "F"
theorem Jq:au ["_law_found", "_law_due_here", "_law_k"] ["_law_found", "_law_due_here"] (ag HW):=by walk_at "F"
theorem OU:au ["_law_found", "_law_spot", "_law_row", "_law_told", "_law_ended"] ["_law_found", "_law_spot", "_law_row", "_law_told", "_law_ended"] (ag JP):=by walk_at "F"
theorem Jo:au ["_law_names_by", "_law_titles_by", "_law_told"] ["_law_names_by", "_law_titles_by"] (ag FF):=by walk_at "F"
theorem eI:au ["_law_pieces", "_law_due_here", "_law_weak", "_law_title", "_law_stretches", "_law_told", "_law_name", "_law_sort", "_law_stretch", "_law_offset"] ["_law_pieces"] (ag Gb):=by walk_at "F"
theorem O4:au ["_law_word", "_law_rule", "_law_add"] ["_law_word", "_law_rule", "_law_add"] (ag ID):=by walk_at "F"
theorem fF:au ["_law_piece", "_law_some", "_law_word", "_law_fill", "_law_at", "_law_rule", "_law_name", "_law_add", "_law_soft", "_law_spot", "_law_row"] ["_law_piece", "_law_some", "_law_word", "_law_fill"] (ag Ky):=by walk_at "F"
theorem dD:au ["_law_machine", "_law_pieces", "_law_some", "_law_piece", "_law_number", "_law_kind", "_law_step", "_law_words", "_law_fills", "_law_filled_here", "_law_fill", "_law_at", "_law_due_here"] ["_law_machine", "_law_pieces", "_law_some"] (ag KW):=by walk_at "F"
theorem cx:au ["_law_script", "_law_names_by", "_law_titles_by", "_law_by", "_law_pieces", "_law_title", "_law_some", "_law_entry", "_law_row", "_law_handed", "_law_registers", "_law_machine", "_law_spot", "_law_found", "_law_piece", "_law_stretch"] ["_law_script"] (ag Gw):=by walk_at "F"
theorem cK{CX P w K mg base N qual scope f cd Ar outer s H E}:(j9 CX P w K mg base N qual scope f cd Ar outer s H E).K=K:=rfl
theorem bK{scope:Scope}:(C_ X N' scope fp s H).K=X.K:=rfl
theorem z_{α:Type}{xs:List α}{i:Int}(h1 : -(xs.length:Int)<=i)(h2:i<xs.length):∃v,h_ xs i=some v/\v∈xs:=by
 unfold h_ Ca;by_cases h0:0<=i
 ·have hl:i.toNat<xs.length:=by omega
  refine⟨xs[i.toNat],?_,Om hl⟩;rw[if_pos h0,if_pos h2];show xs[i.toNat]?=_;rw[lz hl]
 ·have hl:(i+xs.length).toNat<xs.length:=by omega
  refine⟨xs[(i+xs.length).toNat],?_,Om hl⟩;rw[if_neg h0,if_pos h1];show xs[(i+xs.length).toNat]?=_;rw[lz hl]
namespace M50
end M50
namespace K3
open PySem PySem.W PySem.Calls PyProof.Rows
theorem iV(a i j:Nat):(2 ^ i*a).testBit j=(decide (i<=j)&&a.testBit (j - i)):=by
 have h:=VS a (b:=0) (i:=i) (Nat.two_pow_pos i) j;rw[Nat.add_zero]at h;rw[h];by_cases c:j<i
 ·simp[c,Nat.not_le.mpr c]
 ·simp[c,Nat.not_lt.mp c]
theorem DE(W l m:Nat):W &&& (2 ^ l*(2 ^ m - 1))=2 ^ l*(W/2 ^ l%2 ^ m):=by
 apply Nat.eq_of_testBit_eq;intro j;rw[Nat.testBit_and,iV,iV,Nat.testBit_two_pow_sub_one,Nat.testBit_mod_two_pow,SQ];by_cases c:l<=j
 ·have e:j - l+l=j:=by omega
  simp[c,e,Bool.and_comm]
 ·simp[c]
def rest(W l m:Nat):Nat:=2 ^ l*(2 ^ m*(W/2 ^ l/2 ^ m))+W%2 ^ l
theorem rest_eq(W l m:Nat):W=rest W l m+2 ^ l*(W/2 ^ l%2 ^ m):=by
 have h1:=Nat.div_add_mod W (2 ^ l);have h2:=Nat.div_add_mod (W/2 ^ l) (2 ^ m);unfold rest;have h3:2 ^ l*(2 ^ m*(W/2 ^ l/2 ^ m))+2 ^ l*(W/2 ^ l%2 ^ m)=2 ^ l*(W/2 ^ l):=by
  rw[<-Nat.mul_add,h2]
 omega
theorem vj(W l m j:Nat):(rest W l m).testBit j=if j<l then W.testBit j else (decide (l+m<=j)&&W.testBit j):=by
 unfold rest;rw[VS _ (Nat.mod_lt _ (Nat.two_pow_pos l))];by_cases c:j<l
 ·simp[c,Nat.testBit_mod_two_pow]
 ·simp only[c,if_false];rw[iV,SQ,SQ];by_cases d:l+m<=j
  ·have e:j - l+l=j:=by omega
   have d':m<=j - l:=by omega
   simp[d,d',e]
  ·have d':¬m<=j - l:=by omega
   simp[d,d']
theorem Ex(W l m y:Nat)(hy:y<2 ^ m):rest W l m &&& (2 ^ l*y)=0:=by
 apply Nat.eq_of_testBit_eq;intro j;rw[Nat.testBit_and,vj,iV,Nat.zero_testBit];by_cases c:j<l
 ·have:¬l<=j:=by omega
  simp[this]
 ·by_cases d:l+m<=j
  ·have:y.testBit (j - l)=false:=VQ (jF hy (Up (by decide) (by omega)));simp[this]
  ·simp[c,d]
def put(W l m y:Nat):Nat:=rest W l m+2 ^ l*y
theorem Qo(W l m y:Nat)(hy:y<2 ^ m):rest W l m ||| (2 ^ l*y)=put W l m y:=by
 apply Nat.eq_of_testBit_eq;intro j;have e:put W l m y=2 ^ l*(2 ^ m*(W/2 ^ l/2 ^ m)+y)+W%2 ^ l:=by
  unfold put rest;rw[Nat.mul_add];omega
 rw[e,Nat.testBit_or,vj,iV,VS _ (Nat.mod_lt _ (Nat.two_pow_pos l)),VS _ hy];by_cases c:j<l
 ·have:¬l<=j:=by omega
  simp[c,this,Nat.testBit_mod_two_pow]
 ·have c':l<=j:=by omega
  by_cases d:l+m<=j
  ·have z:y.testBit (j - l)=false:=VQ (jF hy (Up (by decide) (by omega)));have d':¬(j - l<m):=by omega
   have e:j - l - m+m+l=j:=by omega
   rw[SQ,SQ];simp[c,c',d,d',z,e]
  ·have d':j - l<m:=by omega
   simp[c,c',d,d']
theorem OL(W l m y j:Nat)(hy:y<2 ^ m):(put W l m y).testBit j=if l<=j/\j<l+m then y.testBit (j - l) else W.testBit j:=by
 rw[<-Qo W l m y hy,Nat.testBit_or,vj,iV];by_cases c:j<l
 ·have:¬l<=j:=by omega
  simp[c,this]
 ·have c':l<=j:=by omega
  by_cases d:l+m<=j
  ·have z:y.testBit (j - l)=false:=VQ (jF hy (Up (by decide) (by omega)));have d':¬(j<l+m):=by omega
   simp[c,c',d,d',z]
  ·have d':j<l+m:=by omega
   simp[c,c',d,d']
theorem Qg(W l m y:Nat)(hy:y<2 ^ m)(hw:W<2 ^ 32)(h:l+m<=32):put W l m y<2 ^ 32:=by
 apply Nat.lt_pow_two_of_testBit;intro j hj;rw[OL W l m y j hy];have:¬(l<=j/\j<l+m):=by omega
 simp only[this,if_false];exact VQ (jF hw (Up (by decide) hj))
def pw(m:Int):Int:=2 ^ m.toNat
theorem pow_pos(k:Nat):(0:Int)<2 ^ k:=Int.pow_pos (by decide)
theorem i6(m:Int):0<pw m:=pow_pos _
theorem iA(k:Nat):((2 ^ k:Nat):Int)=(2:Int) ^ k:=by
 induction k with
 |zero=>rfl
 |succ k ih=>rw[Nat.pow_succ,Int.pow_succ,Int.natCast_mul,ih];rfl
theorem pL(m:Int):pw m=((2 ^ m.toNat:Nat):Int):=(iA _).symm
def Qu(w l m:Int):Int:=(w.fdiv (pw l)).fmod (pw m)
def putF(w l m n:Int):Int:=(put w.toNat l.toNat m.toNat (n.fmod (pw m)).toNat:Nat)
theorem gW(n m:Int):(n.fmod (pw m)).toNat<2 ^ m.toNat:=by
 have a:=Int.fmod_nonneg_of_pos n (i6 m);have b:=Int.fmod_lt_of_pos n (i6 m);have c:=pL m;omega
theorem O3(hw:0<=w):
  Builtin.bitOr (Builtin.bitAnd w (Builtin.bitNot ((pw m - 1)*pw l))) (n.fmod (pw m)*pw l)=putF w l m n:=by
 have a:=Int.fmod_nonneg_of_pos n (i6 m);have hy:=gW n m;have pm:=i6 m;have pl:=i6 l;have e1:Builtin.bitAnd w ((pw m - 1)*pw l)=((2 ^ l.toNat*(w.toNat/2 ^ l.toNat%2 ^ m.toNat):Nat):Int):=by
  have z:0<=(pw m - 1)*pw l:=Int.mul_nonneg (by omega) (by omega);have t:((pw m - 1)*pw l).toNat=2 ^ l.toNat*(2 ^ m.toNat - 1):=by
   have c1:=pL m;have c2:=pL l;have c3:pw m - 1=((2 ^ m.toNat - 1:Nat):Int):=by
    have:=Nat.two_pow_pos m.toNat;omega
   rw[c3,c2,<-Int.natCast_mul,Ei,Nat.mul_comm]
  rw[bitAnd_pp hw z,t,DE]
 have e2:Builtin.bitAnd w (Builtin.bitNot ((pw m - 1)*pw l))=(rest w.toNat l.toNat m.toNat:Nat):=by
  rw[bitAnd_not,e1];have:=rest_eq w.toNat l.toNat m.toNat;omega
 have e3:n.fmod (pw m)*pw l=((2 ^ l.toNat*(n.fmod (pw m)).toNat:Nat):Int):=by
  rw[Int.natCast_mul,<-pL l,Sj a,Int.mul_comm]
 have e4:Builtin.bitAnd ((rest w.toNat l.toNat m.toNat:Nat):Int) ((2 ^ l.toNat*(n.fmod (pw m)).toNat:Nat):Int)=0:=by
  rw[bitAnd_pp (by omega) (by omega),Ei,Ei,Ex _ _ _ _ hy];rfl
 rw[e2,e3,bitOr_and,e4,Int.sub_zero];unfold putF put;rw[Int.natCast_add]
theorem zQ(hw:0<=w)(hw1:w<=4294967295)(hl:0<=l)(hm:0<=m)(hlm:l+m<=32):0<=putF w l m n/\putF w l m n<=4294967295:=by
 have h:=Qg w.toNat l.toNat m.toNat (n.fmod (pw m)).toNat (gW n m) (by omega) (by omega);unfold putF;omega
def jv(m:Int):Int:=pw m - 1
theorem MO(h:a<=b):(2:Int) ^ a<=2 ^ b:=by
 have:=Up (show 0<2 by decide) h;rw[<-iA,<-iA];omega
theorem zP(m:Int)(h:m<=32):0<=jv m/\jv m<=4294967295:=by
 have a:=i6 m;have b:pw m<=4294967296:=by
  have:=MO (a:=m.toNat) (b:=32) (by omega);unfold pw;have e:(2:Int) ^ 32=4294967296:=by decide
  omega
 unfold jv;omega
def dF(n up:Int):Int:=if up<0 then n.fdiv (pw (-up)) else n*pw up
theorem zi(h:up<0):n.fdiv (2 ^ (-up).toNat)=dF n up:=by
 unfold dF;rw[if_pos h];rfl
theorem Jf(h:¬up<0):n*2 ^ up.toNat=dF n up:=by
 unfold dF;rw[if_neg h];rfl
theorem MB(h:k=m\/(m<=0/\k=0)):(1:Int)*2 ^ k.toNat - 1=jv m:=by
 have e:k.toNat=m.toNat:=by omega
 rw[e,Int.one_mul];rfl
theorem LP(hr:r=Builtin.bitAnd n (jv m))(hw:0<=w)(hw1:w<=4294967295)(hl:0<=l)(hm:1<=m)(hlm:l+m<=32):
  (Builtin.bitOr (Builtin.bitAnd w (Builtin.bitNot (dF (jv m) l))) (dF r l)).fmod 4294967296=putF w l m n:=by
 have e1:dF (jv m) l=(pw m - 1)*pw l:=by
  unfold dF;rw[if_neg (by omega)];rfl
 have e2:r=n.fmod (pw m):=by
  rw[hr];show Builtin.bitAnd n (2 ^ m.toNat - 1)=_;rw[kbt_maskF];rfl
 have e3:dF r l=n.fmod (pw m)*pw l:=by
  unfold dF;rw[if_neg (by omega),e2]
 rw[e1,e3,O3 hw];have:=zQ (n:=n) hw hw1 hl (by omega) hlm;rw[VI _ (by decide)];omega
def sg(n m:Int):Int:=(n+pw (m - 1)).fmod (pw m) - pw (m - 1)
theorem Zy(k:Nat)(v:Int)(h:(2:Int) ^ k=v):pw (k:Int)=v:=by
 unfold pw;rw[Int.toNat_natCast];exact h
theorem PB(w n:Int)(l m:Nat)(a b:Int)(ha:(2:Int) ^ l=a)(hb:(2:Int) ^ m=b)(hw:0<=w):putF w l m n=a*(b*(w/a/b))+w%a+a*(n%b):=by
 have pa:=pow_pos l;have pb:=pow_pos m;unfold putF put rest;rw[Zy m b hb,Ei,Ei];have z:=Int.emod_nonneg n (show b≠0 by omega);rw[VI _ (by omega)];simp only[Int.natCast_add,Int.natCast_mul,Int.natCast_ediv,Int.natCast_emod,iA,ha,hb];rw[Sj hw,Sj z]
end K3
def OX:Sp:=λvs H Q _=>∃n:Int,vs=[.int n]/\Q (.int (n%4294967296)) H
def K9:Sp:=λvs H Q _=>∃n u:Int,vs=[.int n,.int u]/\0<=n/\n<=4294967296/\u<=100/\Q (.int (K3.dF n u)) H
def Mt:Sp:=λvs H Q _=>∃m:Int,vs=[.int m]/\0<=m/\m<=32/\Q (.int (K3.jv m)) H
def Tn:Sp:=λvs H Q _=>∃a l m:Int,vs=[.int a,.int l,.int m]/\0<=a/\a<=4294967295/\0<=l/\l<=31/\1<=m/\m<=32/\Q (.int (K3.Qu a l m)) H
def XA:Sp:=λvs H Q _=>∃n m:Int,vs=[.int n,.int m]/\1<=m/\m<=32/\Q (.int (K3.sg n m)) H
def LO:Sp:=λvs H Q _=>∃a l m n:Int,vs=[.int a,.int l,.int m,.int n]/\0<=a/\a<=4294967295/\0<=l/\l<=31/\1<=m/\l+m<=32/\Q (.int (K3.putF a l m n)) H
def PQ(C:Addr)(z:Str)(H:Hp)(p:Addr):Prop:=∃dx,H p=some (.ins C dx [("title", .str z)])
def RC(A:Ad)(C:Addr):Prop:=C=A.iH\/C=A.fQ\/C=A.iC
def Yt(A:Ad)(z:Str)(C:Addr):Prop:=(z=s!"whole" /\ C=A.iH)\/(z=s!"high" /\ C=A.fQ)\/(z=s!"low" /\ C=A.iC)
def Q_(z:Str):Prop:=z=s!"whole" \/ z=s!"high" \/ z=s!"low"
def IH(A:Ad):Sp:=λvs H Q _=>∃(p dx C:Addr) (x:V),vs=[.ref p,x]/\H p=some (.ins C dx [])/\RC A C/\Q .bh (upd H p (.ins C dx [("title", x)]))
def MU(A:Ad):Sp:=λvs H Q _=>∃z:Str,vs=[.str z]/\Q_ z/\∀C,Yt A z C->∀p H',az H H'->PQ C z H' p->Q (.ref p) H'
def gu(r:Str)(w t:Int):Int:=if r=s!"whole" then t%4294967296 else if r=s!"high" then K3.putF w 0 16 ((t+32768)/65536) else K3.putF w 0 16 t
def MN:Sp:=λvs H Q _=>∃(v:V) (a h t:Int),vs=[v,.int a,.int h,.int t]/\Q (.int (t%4294967296)) H
def LY:Sp:=λvs H Q _=>∃(v:V) (a h t:Int),vs=[v,.int a,.int h,.int t]/\0<=a/\a<=4294967295/\Q (.int (K3.putF a 0 16 ((t+32768)/65536))) H
def Mc:Sp:=λvs H Q _=>∃(v:V) (a h t:Int),vs=[v,.int a,.int h,.int t]/\0<=a/\a<=4294967295/\Q (.int (K3.putF a 0 16 t)) H
def Yu(z:Str):Prop:=z=s!"whole" \/ z=s!"high" \/ z=s!"low" \/ z=s!"near" \/ z=s!"split"
def isSort(z:Str):Prop:=z=s!"tell" \/ z=s!"weak" \/ z=s!"own"
def Gx(z:Str):Prop:=z=s!"code" \/ z=s!"data"
def signs:Str:=s!"abcdefghijklmnopqrstuvwxyz0123456789_"
def sgn(i:Int):Nat:=(h_ signs.cps.toList i).getD 0
def gb(c k:Int):Int:=if c/256%3=0 then 1+k%16 else 1+c%16
def pX(c:Int):Int:=if c/256%3=0 then 16 else c/16%(1+c%16)
def iT(c k:Int)(j:Int):Int:=(c/(j+3)+j*j+k*(if decide (j=pX c)=true then 1 else 0))%(37 - 11*(if decide (j=0)=true then 1 else 0))
def jC(c k:Int)(n:Nat):Str:=⟨((List.range n).map λj:Nat=>sgn (iT c k j)).toArray⟩
def nameOf(c k:Int):Str:=jC c k (gb c k).toNat
def qx(c:Int)(z:Str):Prop:=∃k:Int,0<=k/\k<12/\z=nameOf c k
structure za(c:Int)(n:Nat)(f:ai):Prop where
 rule:Yu f.rule
 name:f.soft=true\/qx c f.name
 lo:0<=f.at_
 hi:f.at_<n
 Jr : -2147483648<=f.add
 JN:f.add<2147483648
 soft:f.soft=true->f.rule=s!"whole" \/ f.rule=s!"high" \/ f.rule=s!"low"
structure lP(c:Int)(s:aK):Prop where
 kind:Gx s.kind
 step:s.step=1\/s.step=2\/s.step=4\/s.step=16\/s.step=65536
 words:∀i∈s.words,0<=i/\i<4294967296
 fills:∀f∈s.fills,za c s.words.length f
 asc:s.fills.Pairwise λf g=>f.at_<g.at_
 d7:s.fills.length<=s.words.length
structure Ew(c:Int)(ss:List aK)(n:aj):Prop where
 name:qx c n.name
 sort:isSort n.sort
 at_:∃(k:Nat) (s:aK),ss[k]?=some s/\n.st=k/\0<=n.off/\n.off<=s.words.length
structure gR(c:Int)(p:ao):Prop where
 aP:∀s∈p.aP,lP c s
 aH:∀n∈p.aH,Ew c p.aP n
 nd:(p.aH.map aj.name).Nodup
def _root_.L2.ao.size(p:ao):Nat:=1+p.aP.length+(p.aP.map λs=>s.words.length).sum+p.aH.length
structure Drawn(c t:Int)(n:Nat)(ps:List ao):Prop where
 ok:∀p∈ps,gR c p
 d7:ps.length<=12
 names:ps.map ao.name=(List.range ps.length).map λi:Nat=>nameOf t i
 size:(ps.map ao.size).sum<=n
 tw:ps.Pairwise λp q=>∀x∈p.aH,∀y∈q.aH,x.sort=s!"tell" -> y.sort=s!"tell" -> x.name≠y.name
structure DC(H0:Hp)(a L:Addr)(c t v:Int)(i:Nat)(ps:List ao)(σ:L2.St)(H:Hp):Prop where
 st:∃b7 b8 b9,σ=[some (V.ref a),some (V.int c),some (V.int t),some (V.bl false),some (V.ref L),some (V.int v),some (V.int (v%9)),b7,b8,b9]
 same:az H0 H
 Zj:d0 H L ps
 new:∀b∈L::aE ps,H0 b=none
 dr:Drawn c t i ps
 lt:i<61
theorem DC.mono{H0:Hp}{a L:Addr}{c t v:Int}{i:Nat}{ps:List ao}{σ:L2.St}{H H':Hp}(d:DC H0 a L c t v i ps σ H)(e:az H H'):DC H0 a L c t v i ps σ H':=⟨d.st,d.same.trans e,d.Zj.mono e,d.new,d.dr,d.lt⟩
def DN(H0:Hp)(a L:Addr)(c t:Int)(i:Nat)(D:Ends):Prop:=∀ps σ H,(∃b5 b6 b7 b8 b9,σ=[some (V.ref a),some (V.int c),some (V.int t),some (V.bl false),some (V.ref L),b5,b6,b7,b8,b9])->az H0 H->d0 H L ps->(∀b∈L::aE ps,H0 b=none)->Drawn c t (i+1) ps->D.nx σ H
def ZH:TS:=λD σ H=>∃H0 a L c t v i ps,DC H0 a L c t v i ps σ H/\ps.length<12/\DN H0 a L c t i D
def Zn:TS:=λD σ H=>∃H0 a L c t v i ps p,DC H0 a L c t v i (ps++[p]) σ H/\DN H0 a L c t i D
def Zh:TS:=λD σ H=>∃H0 a L c t v i ps p ss s,DC H0 a L c t v i (ps++[p]) σ H/\p.aP=ss++[s]/\DN H0 a L c t i D
def ZA:TS:=λD σ H=>∃H0 a L c t v i ps p ss s,DC H0 a L c t v i (ps++[p]) σ H/\p.aP=ss++[s]/\DN H0 a L c t i D
def Za:TT:=λσ H R=>∃H0 a L c t v i ps,DC H0 a L c t v i ps σ H/\∀(b:Bool) H',az H H'->(b=true->ps.length<12)->(b=false->ps≠[])->R b H'
def Zz:TT:=λσ H R=>∃H0 a L c t v i ps p,DC H0 a L c t v i (ps++[p]) σ H/\∀(b:Bool) H',az H H'->(b=false->p.aP≠[])->R b H'
def DH(K:Wf):Sp:=λvs H Q _=>∃(a:Addr) (ns:List Int) (k:Int),vs=[.ref a,.int k]/\aA K H a (ns.map V.int)/\ns.length<=63/\0<=k/\∀i:Int,Q (.int i) H
def DM:Sp:=λvs H Q _=>∃c k:Int,vs=[.int c,.int k]/\Q (.str (nameOf c k)) H
def zx:Sp:=λvs H Q _=>∃c n:Int,vs=[.int c,.int n]/\∀H',az H H'->Q .bh H'/\∀f:ai,za n 1 { f with at_:=0 }->H' f.a=some (.tup [.str f.rule,.str f.name,.int f.add,.bl f.soft])->H f.a=none->Q (.ref f.a) H'
def DG(K:Wf):Sp:=λvs H Q _=>∃(L:Addr) (c n:Int) (ps:List ao) (p:ao) (ss:List aK) (s:aK),vs=[.ref L,.int c,.int n,.bl false]/\d0 H L (ps++[p])/\p.aP=ss++[s]/\ps.length<=12/\p.aH.length<=61/\p.aP.length<=61/\s.words.length<=61/\(∀q∈ps,q.aH.length<=61)/\
 (∀H',az H H'->Q .bh H')/\∀(m:aj) (H':Hp),az H H'->m.At H'->qx n m.name->m.name∉p.aH.map aj.name->isSort m.sort->m.st=ss.length->m.off=s.words.length->(m.sort=s!"tell" -> ∀q∈ps,∀x∈q.aH,x.sort=s!"tell" -> x.name≠m.name)->Q .bh (upd H' p.ln (.lst (p.aH.map aj.v++[m.v])))
def Kb(K:Wf):Sp:=λvs H Q _=>∃(a:Addr) (ns:List Int) (c t:Int),vs=[.ref a,.int c,.int t,.bl false]/\aA K H a (ns.map V.int)/\ns.length<=61/\∀(L:Addr) (ps:List ao) (H':Hp),az H H'->d0 H' L ps->(∀b∈L::aE ps,H b=none)->Drawn c t ns.length ps->Q (.ref L) H'
def BR(K:Wf):Sp:=λvs H Q _=>∃p:ao,vs=[p.v]/\p.At H/\p.aP.length<=61/\p.aH.length<=62/\(∀s∈p.aP,s.words.length<=61/\s.fills.length<=61)/\∀(q:ao) (H':Hp),az H H'->q.At H'->p.DV q->(∀b∈q.lists,H b=none)->q.lists.Nodup->Q q.v H'
structure aq where
 name:Str
 t:Addr
 a:Str
 b:Int
 c:Int
def aq.kv(m:aq):Key×V:=(.inr m.name,.ref m.t)
def aq.At(H:Hp)(m:aq):Prop:=H m.t=some (.tup [.str m.a,.int m.b,.int m.c])
structure Tab(H:Hp)(d:Addr)(ms:List aq):Prop where
 top:H d=some (.dK (ms.map aq.kv))
 at_:∀m∈ms,aq.At H m
def ar(ms:List aq)(z:Str):Option aq:=ms.find? λm=>decide (m.name=z)
def dI(ms:List aq)(m:aq):List aq:=if (ms.any λn=>decide (n.name=m.name))=true then ms.map (λn=>if n.name=m.name then m else n) else ms++[m]
theorem kN(ms:List aq)(z:Str):bj (ms.map aq.kv) (.inr z)=(ar ms z).map λm=>V.ref m.t:=by
 unfold bj ar;rw[QS,Option.map_map];congr 1;congr 1;funext m;simp[aq.kv]
theorem QV(ms:List aq)(z:Str):((ms.map aq.kv).any λkv=>decide (kv.1=(.inr z:Key)))=ms.any λn=>decide (n.name=z):=by
 rw[Nm];congr 1;funext m;simp[aq.kv]
theorem Ef(ms:List aq)(m:aq):putK (ms.map aq.kv) (.inr m.name) (.ref m.t)=(dI ms m).map aq.kv:=by
 unfold putK dI;rw[QV];by_cases h:(ms.any λn=>decide (n.name=m.name))=true
 ·rw[if_pos h,if_pos h,fX,fX];congr 1;funext n;by_cases e:n.name=m.name
  ·simp[aq.kv,e]
  ·simp[aq.kv,e]
 ·rw[if_neg h,if_neg h,bP];rfl
theorem xX(h:n∈dI ms m):n∈ms\/n=m:=by
 unfold dI at h;split at h
 ·obtain⟨x,hx,e⟩:=bI.mp h;split at e
  ·exact .inr e.symm
  ·exact .inl (e▸hx)
 ·rcases cy.mp h with z|z
  ·exact .inl z
  ·exact .inr (cD.mp z)
theorem gC:(dI ms m).length<=ms.length+1:=by
 unfold dI;split
 ·rw[aI];omega
 ·rw[eY];simp
theorem IU(h:m.name∉ms.map aq.name):dI ms m=ms++[m]:=by
 unfold dI;rw[if_neg];intro z;obtain⟨n,hn,e⟩:=Ci.mp z;exact h (bI.mpr ⟨n,hn,of_decide_eq_true e⟩)
theorem Tab.mono{H H':Hp}{d:Addr}{ms:List aq}(h:Tab H d ms)(e:az H H'):Tab H' d ms:=⟨e _ _ h.top,λm hm=>e _ _ (h.at_ m hm)⟩
theorem Tab.put{H:Hp}{d:Addr}{ms:List aq}{m:aq}(h:Tab H d ms)(hm:aq.At H m):Tab (upd H d (.dK (putK (ms.map aq.kv) (.inr m.name) (.ref m.t)))) d (dI ms m):=by
 refine⟨by rw[aD,Ef],λn hn=>?_⟩;have tup:∀n:aq,aq.At H n->aq.At (upd H d (.dK (putK (ms.map aq.kv) (.inr m.name) (.ref m.t)))) n:=λn hn=>by
  unfold aq.At;rw[ae (ba hn h.top (by intro z;cases z))];exact hn
 rcases xX hn with z|z
 ·exact tup n (h.at_ n z)
 ·rw[z];exact tup m hm
def cU:Str:=s!"own"
def cZ(p:ao)(ms:List aq)(f:ai):Option (Str×Int×Int):=
 match p.aH.find? λn=>decide (n.name=f.name)&&decide (n.sort=cU) with
 |some n=>some (p.name,n.st,n.off)
 |none=>(ar ms f.name).map λm=>(m.a,m.b,m.c)
def Tj(a:Str)(b c:Int):HO:=.tup [.str a,.int b,.int c]
def DI:Sp:=λvs H Q _=>∃(p:ao) (z:Str),vs=[p.v,.str z]/\p.At H/\p.aH.length<=61/\(p.aH.map aj.name).Nodup/\
 ∀d ms H',az H H'->Tab H' d ms->ms.map (λm=>(m.name,m.a,m.b,m.c))=(p.aH.filter λn=>decide (n.sort=z)).map (λn=>(n.name,p.name,n.st,n.off))->H d=none->Q (.ref d) H'
structure PL(H:Hp)(L:Addr)(ps:List ao):Prop where
 top:H L=some (.lst (ps.map ao.v))
 at_:∀p∈ps,p.At H
def bZ:Str:=s!"tell"
def cq:Str:=s!"weak"
def bo(ps:List ao):List (Str×aj):=ps.flatMap λp=>p.aH.map λn=>(p.name,n)
def N9(r:Str×aj):Str×Int×Int:=(r.1,r.2.st,r.2.off)
def aq.vl(m:aq):Str×Int×Int:=(m.a,m.b,m.c)
def Y7(a b:Str):Prop:=¬b.cps.toList<a.cps.toList
structure gi(R:List (Str×aj))(ms:List aq):Prop where
 nd:(ms.map aq.name).Nodup
 Ul:∀z m,ar ms z=some m->(∃r∈R,r.2.name=z/\r.2.sort=bZ/\aq.vl m=N9 r)\/((∀r∈R,r.2.name=z->r.2.sort≠bZ)/\∃r∈R,r.2.name=z/\r.2.sort=cq/\aq.vl m=N9 r/\∀r'∈R,r'.2.name=z->r'.2.sort=cq->Y7 r.1 r'.1)
 bh:∀z,ar ms z=none->∀r∈R,r.2.name=z->r.2.sort≠bZ/\r.2.sort≠cq
structure BU(ps:List ao):Prop where
 d7:ps.length<=14
 nd:(ps.map ao.name).Nodup
 aH:∀p∈ps,p.aH.length<=61/\(p.aH.map aj.name).Nodup
 tw:ps.Pairwise λp q=>∀x∈p.aH,∀y∈q.aH,x.sort=bZ->y.sort=bZ->x.name≠y.name
def CW:Sp:=λvs H Q _=>∃(L:Addr) (ps:List ao),vs=[.ref L]/\PL H L ps/\BU ps/\∀H',az H H'->Q .bh H'
def Fi:Pos:=⟨54,33,54,55⟩
def GP:Str:=(s!"names_of" ++ s!".<locals>.")++s!"<lambda>"
def zN(A:Ad):Sp:=λvs H Q _=>∃(L:Addr) (ps:List ao),vs=[.ref L]/\PL H L ps/\BU ps/\gG A.br Fi GP H/\
 ∀(d:Addr) (ms:List aq) (H':Hp),ij A.br H H'->gG A.br Fi GP H'->Tab H' d ms->gi (bo ps) ms->H d=none->Q (.ref d) H'
def gY(p:ao):List Str:=(p.aH.filter λn=>decide (n.sort≠cU)).map aj.name
def eX(p:ao)(z:Str):Bool:=p.aH.any λn=>decide (n.name=z)&&decide (n.sort=cU)
def addW(W:List Str)(y:Str):List Str:=if y∈W then W else W++[y]
def jJ(y:Str):Key×V:=(.inr y,.bl true)
def ip(p:ao)(W:List Str)(f:ai):List Str:=if (!f.soft && !eX p f.name)=true then addW W f.name else W
def aV(ss:List aK):List ai:=ss.flatMap aK.fills
def yQ(p:ao):List Str:=(aV p.aP).foldl (ip p) []
def xG(l:Addr)(N:List Str)(H:Hp):Prop:=∃ss:List Str,ss.Perm N/\ss.Pairwise D1/\H l=some (.lst (ss.map V.str))
structure Ae(p:ao):Prop where
 nm:p.aH.length<=61
 st:p.aP.length<=61
 ss:∀s∈p.aP,s.words.length<=61/\s.fills.length<=61
 fl:(aV p.aP).length<=61
 nd:(p.aH.map aj.name).Nodup
def K4:Sp:=λvs H Q _=>∃p:ao,vs=[p.v]/\p.At H/\Ae p/\∀l H',az H H'->xG l (gY p) H'->H l=none->Q (.ref l) H'
def KP:Sp:=λvs H Q _=>∃p:ao,vs=[p.v]/\p.At H/\Ae p/\∀l H',az H H'->xG l (yQ p) H'->H l=none->Q (.ref l) H'
abbrev Co:=Str×List aj×List (Str×Int×List Int×List ai)
def aj.e(n:aj):aj:={ n with a:=0 }
def ai.e(f:ai):ai:={ f with a:=0 }
def aK.e(s:aK):Str×Int×List Int×List ai:=(s.kind,s.step,s.words,s.fills.map ai.e)
def aL(p:ao):Co:=(p.name,p.aH.map aj.e,p.aP.map aK.e)
def fE(z:Str)(c:Co):Bool:=c.2.1.any λn=>decide (n.name=z) && !decide (n.sort=cU)
def Hk(z:Str)(c:Co):Bool:=c.2.1.any λn=>decide (n.name=z)&&decide (n.sort=cU)
def cO(z:Str)(c:Co):Bool := !Hk z c&&c.2.2.any λs=>s.2.2.2.any λf=>decide (f.name=z) && !f.soft
def eB(cs:List Co)(z:Str):Option Co:=cs.find? (fE z)
def c_(ps:List ao)(z:Str):Option ao:=ps.find? λp=>fE z (aL p)
structure A4(G S:List Co)(e:Str)(T:List Co)(rs:List (Str×Str×Str)):Prop where
 nd:(T.map (·.1)).Nodup
 sub:∀p∈T,p∈S
 len:rs.map (·.1)=T.map (·.1)
 X_:∀(i:Nat) (p:Co) (r:Str×Str×Str),T[i]?=some p->rs[i]?=some r->eB G r.2.1=none/\eB S r.2.1=some p/\(r.2.2=s!"" /\ r.2.1=e\/∃q∈G++T.take i,q.1=r.2.2/\cO r.2.1 q=true)
def j5(G S T:List Co)(z:Str):Prop:=(eB G z).isSome=true\/∃p∈T,eB S z=some p
def EZ(G S:List Co)(e:Str)(T:List Co):Prop:=j5 G S T e/\∀q∈G++T,∀z,cO z q=true->j5 G S T z
def Mr(G S:List Co)(z:Str):Prop:=(eB G z).isSome=true\/(eB S z).isSome=true
structure MG(G S:List ao)(e:Str):Prop where
 d7:(G++S).length<=14
 CZ:∀p∈G++S,Ae p
 nd:((G++S).map ao.name).Nodup
 ent:Mr (G.map aL) (S.map aL) e
 met:∀p∈G++S,∀z,cO z (aL p)=true->Mr (G.map aL) (S.map aL) z
structure VD(H:Hp)(S:Addr)(xs:List (Addr×List ao)):Prop where
 top:H S=some (.lst (xs.map λx=>V.ref x.1))
 at_:∀x∈xs,PL H x.1 x.2
def flat(xs:List (Addr×List ao)):List ao:=xs.flatMap (·.2)
def Ud:Sp:=λvs H Q _=>∃(S:Addr) (xs:List (Addr×List ao)),vs=[.ref S]/\VD H S xs/\(flat xs).length<=100/\∀(l:Addr) (H':Hp),az H H'->H l=none->H' l=some (.lst ((flat xs).map ao.v))->Q (.ref l) H'
def DX:Sp:=λvs H Q _=>∃(L:Addr) (ps:List ao),vs=[.ref L]/\PL H L ps/\ps.length<=100/\(ps.map ao.name).Nodup/\∀H',az H H'->Q .bh H'
def WS(H:Hp)(d:Addr)(ps:List ao):Prop:=∃kvs:List (Key×V),H d=some (.dK kvs)/\∀z,bj kvs (.inr z)=(c_ ps z).map ao.v
def Kw:Sp:=λvs H Q _=>∃(L:Addr) (ps:List ao),vs=[.ref L]/\PL H L ps/\ps.length<=14/\(∀p∈ps,Ae p)/\∀(d:Addr) (H':Hp),az H H'->H d=none->WS H' d ps->Q (.ref d) H'
structure iN where
 x:Addr
 dx:Addr
 lp:Addr
 lr:Addr
 dg:Addr
 ds:Addr
 df:Addr
 du:Addr
def iN.attrs(t:iN):List (Str×V):=putF s!"unmet" (.ref t.du) (putF s!"from_shelves" (.ref t.df) (putF s!"on_shelves" (.ref t.ds) (putF s!"told_by_given" (.ref t.dg) (putF s!"reasons" (.ref t.lr) (putF s!"pieces" (.ref t.lp) [])))))
abbrev LI:=Addr×Str×Str×Str
structure zb(C:Addr)(H:Hp)(t:iN)(G S T:List ao)(rs:List LI):Prop where
 top:H t.x=some (.ins C t.dx t.attrs)
 lp:H t.lp=some (.lst ((G++T).map ao.v))
 lr:H t.lr=some (.lst (rs.map λr=>V.ref r.1))
 rs:∀r∈rs,H r.1=some (.tup [.str r.2.1,.str r.2.2.1,.str r.2.2.2])
 dg:WS H t.dg G
 ds:WS H t.ds S
 df:H t.df=some (.dK ((T.map ao.name).map jJ))
 du:H t.du=some (.dK [])
 at_:∀p∈G++S,p.At H/\t.lp∉p.lists/\t.lr∉p.lists
 ne:t.lp≠t.lr
 nf:t.dg≠t.df/\t.ds≠t.df/\t.du≠t.df
 sub:∀p∈T,p∈S
def Mo(t:iN)(H H':Hp):Prop:=∀b o,b≠t.lp->b≠t.lr->b≠t.df->H b=some o->H' b=some o
def zH(C:Addr):Sp:=λvs H Q _=>∃(t:iN) (z b e:Str) (G S T:List ao) (rs:List LI),vs=[.ref t.x,.str z,.str b]/\zb C H t G S T rs/\MG G S e/\Mr (G.map aL) (S.map aL) z/\A4 (G.map aL) (S.map aL) e (T.map aL) (rs.map (·.2))/\(b=s!"" /\ z=e\/∃q∈G++T,q.name=b/\cO z (aL q)=true)/\
 ∀(T':List ao) (rs':List LI) (H':Hp),zb C H' t G S (T++T') rs'->Mo t H H'->A4 (G.map aL) (S.map aL) e ((T++T').map aL) (rs'.map (·.2))->j5 (G.map aL) (S.map aL) ((T++T').map aL) z->Q .bh H'
def OQ(C:Addr):Sp:=λvs H Q _=>∃(t:iN) (e:Str) (G S T:List ao) (rs:List LI),vs=[.ref t.x]/\zb C H t G S T rs/\MG G S e/\A4 (G.map aL) (S.map aL) e (T.map aL) (rs.map (·.2))/\j5 (G.map aL) (S.map aL) (T.map aL) e/\
 ∀(T':List ao) (rs':List LI) (H':Hp),zb C H' t G S T' rs'->Mo t H H'->A4 (G.map aL) (S.map aL) e (T'.map aL) (rs'.map (·.2))->EZ (G.map aL) (S.map aL) e (T'.map aL)->Q .bh H'
def YX(H:Hp)(g s:Addr)(e:Str)(G:List ao)(xs:List (Addr×List ao)):Prop:=PL H g G/\VD H s xs/\MG G (flat xs) e
def C6(C:Addr):Sp:=λvs H Q _=>∃(x dx g s:Addr) (e:Str) (G:List ao) (xs:List (Addr×List ao)),vs=[.ref x,.ref g,.ref s,.str e]/\H x=some (.ins C dx [])/\YX H g s e G xs/\
 ∀(t:iN) (T:List ao) (rs:List LI) (H':Hp),t.x=x->zb C H' t G (flat xs) T rs->(∀b o,b≠x->H b=some o->H' b=some o)->H t.lp=none->H t.lr=none->A4 (G.map aL) ((flat xs).map aL) e (T.map aL) (rs.map (·.2))->EZ (G.map aL) ((flat xs).map aL) e (T.map aL)->Q .bh H'
def VC:Pos:=⟨178,40,178,62⟩
def VN:Str:=(s!"taken" ++ s!".<locals>.")++s!"<lambda>"
def Dg:Sp:=λvs H Q _=>∃(l:Addr) (fs:List ai),vs=[.ref l]/\H l=some (.lst (fs.map ai.v))/\(∀f∈fs,f.At H)/\fs.length<=62/\∀(l':Addr) (gs:List ai) (H':Hp),az H H'->H l'=none->H' l'=some (.lst (gs.map ai.v))->(∀f∈gs,f.At H')->gs.map ai.e=fs.map ai.e->Q (.ref l') H'
def D6:Sp:=λvs H Q _=>∃p:ao,vs=[p.v]/\p.At H/\p.aP.length<=62/\p.aH.length<=62/\(∀s∈p.aP,s.fills.length<=62)/\∀(q:ao) (H':Hp),az H H'->q.At H'->aL q=aL p->(∀b∈q.lists,H b=none)->q.lists.Nodup->Q q.v H'
def HC(A:Ad):Sp:=λvs H Q _=>∃(g s:Addr) (e:Str) (G:List ao) (xs:List (Addr×List ao)),vs=[.ref g,.ref s,.str e]/\YX H g s e G xs/\gG A.aN VC VN H/\
 ∀(l:Addr) (T:List Co) (rs:List (Str×Str×Str)) (qs:List ao) (H':Hp),ij A.aN H H'->gG A.aN VC VN H'->d0 H' l qs->(∀b∈l::aE qs,H b=none)->A4 (G.map aL) ((flat xs).map aL) e T rs->EZ (G.map aL) ((flat xs).map aL) e T->(qs.map aL).Perm (G.map aL++T)->(qs.map ao.name).Pairwise D1->Q (.ref l) H'
def fA(H H':Hp):Prop:=∀b o,((∃xs,o=.lst xs)\/∃xs,o=.tup xs)->H b=some o->H' b=some o
def D3:Sp:=λvs H Q _=>∃(pn:Str) (dO dN:Addr) (f:ai) (mo mn:List aq),vs=[.str pn,.ref dO,.ref dN,f.v]/\f.At H/\Tab H dO mo/\Tab H dN mn/\
 (∀m,((ar mo f.name).or (ar mn f.name))=some m->∀q,H q=none->Q (.ref q) (upd H q (Tj m.a m.b (m.c+f.add))))/\((ar mo f.name).or (ar mn f.name)=none->f.soft=true/\Q (.int (f.add%4294967296)) H)
def Mg(H:Hp)(p:ao)(mn:List aq)(f:ai)(v:V):Prop:=(∃a b c q,cZ p mn f=some (a,b,c)/\v=.ref q/\H q=some (Tj a b (c+f.add)))\/(cZ p mn f=none/\v=.int (f.add%4294967296))
def F7:Sp:=λvs H Q _=>∃(p:ao) (dN l:Addr) (fs:List ai) (mn:List aq),vs=[p.v,.ref dN,.ref l]/\p.At H/\p.aH.length<=61/\(p.aH.map aj.name).Nodup/\Tab H dN mn/\H l=some (.lst (fs.map ai.v))/\fs.length<=61/\(∀f∈fs,f.At H/\(cZ p mn f=none->f.soft=true))/\
 ∀(l':Addr) (ys:List V) (H':Hp),az H H'->H' l'=some (.lst ys)->ys.length=fs.length->(∀(i:Nat) f v,fs[i]?=some f->ys[i]?=some v->Mg H' p mn f v)->H l'=none->Q (.ref l') H'
def atT(z:Str)(s o:Int):HO:=.tup [.str s!"at",.str z,.int s,.int o]
abbrev Va:=Int ⊕ (Str×Str×Int×Int)
def Qr:Str:=s!"at"
def RK(g z:Str)(s o:Int):HO:=.tup [.str g,.str z,.int s,.int o]
def Va.Is(H:Hp)(x:Va)(v:V):Prop:=match x with
 |.inl n=>v=.int n
 |.inr (g,z,s,o)=>∃t,v=.ref t/\H t=some (RK g z s o)
structure jE(H:Hp)(rs:List Va)(vs:List V):Prop where
 len:vs.length=rs.length
 at_:∀(i:Nat) (x:Va),rs[i]?=some x->∃v,vs[i]?=some v/\Va.Is H x v
def kp(z:Str)(s o:Int):List Key:=[.inr z,.inl s,.inl o]
abbrev Ec:=Str×Int×Int
def Aa:Sp:=λvs H Q _=>∃(t:Addr) (a:Str) (b c:Int),vs=[.ref t]/\H t=some (.tup [.str a,.int b,.int c])/\∀q,H q=none->Q (.ref q) (upd H q (atT a b (c%4294967296)))
def Dt:Sp:=λvs H Q _=>∃(x:Va) (v:V),vs=[v]/\Va.Is H x v/\∀v' H',az H H'->Va.Is H' x v'->Q v' H'
structure NO where
 x:Addr
 dx:Addr
 dm:Addr
 ds:Addr
 tp:Addr
 lr:Addr
 ln:Addr
def NO.fs(M:NO)(en:Bool):List (Str×V):=[("memory", .ref M.dm),("stretches", .ref M.ds),("place", .ref M.tp),("registers", .ref M.lr),("numbers", .ref M.ln),("ended", .bl en)]
abbrev Ce:=Va ⊕ (Int×Str×Ec)
def Ce.Is(A:Ad)(H:Hp)(x:Ce)(v:V):Prop:=match x with
 |.inl y=>Va.Is H y v
 |.inr (w,r,z,s,o)=>∃t dx q,v=.ref t/\H t=some (.ins A.cQ dx [("word", .int w),("title", .str r),("aimed", .ref q)])/\H q=some (atT z s o)
def i9(w:Int)(r:Str)(p:Ec):Ce:=if r=s!"whole" then .inl (.inr (Qr,p.1,p.2.1,p.2.2%4294967296)) else .inr (w,r,p.1,p.2.1,p.2.2%4294967296)
def Pr:Sp:=λvs H Q _=>∃v:V,vs=[v]/\((∃n:Int,v=.int n/\Q (.bl true) H)\/∃(t:Addr) (xs:List V),v=.ref t/\H t=some (.tup xs)/\Q (.bl false) H)
def C7(A:Ad):Sp:=λvs H Q _=>∃(p dx q:Addr) (w:Int) (r:Str),vs=[.ref p,.int w,.str r,.ref q]/\H p=some (.ins A.cQ dx [])/\Q .bh (upd (upd (upd H p (.ins A.cQ dx [("word", .int w)])) p (.ins A.cQ dx [("word", .int w),("title", .str r)])) p (.ins A.cQ dx [("word", .int w),("title", .str r),("aimed", .ref q)]))
def xU(A:Ad):Sp:=λvs H Q _=>∃(w:Int) (r:Str) (av:V),vs=[.int w,.str r,av]/\0<=w/\w<=4294967295/\((∃a:Int,av=.int a/\Q_ r/\∀H',az H H'->Q (.int (gu r w a)) H')\/∃(q:Addr) (p:Ec),av=.ref q/\H q=some (.tup [.str p.1,.int p.2.1,.int p.2.2])/\∀v' H',az H H'->Ce.Is A H' (i9 w r p) v'->Q v' H')
structure NF(A:Ad)(H:Hp)(M:NO)(mem:List Key->Option Ce)(pl:Ec)(rs:List Va):Prop where
 top:H M.x=some (.ins A.cu M.dx (M.fs false))
 jb:∃km:List (List Key×V),H M.dm=some (.dT km)/\(∀k x,mem k=some x->∃v,bj km k=some v/\Ce.Is A H x v)/\∀k,mem k=none->bj km k=none
 Rm:H M.tp=some (atT pl.1 pl.2.1 pl.2.2)
 AE:∃vs:List V,H M.lr=some (.lst vs)/\jE H rs vs
 len:rs.length=8
 Gs:H M.ln=some (.lst [])
 nd:M.lr≠M.ln
def yj(A:Ad):Sp:=λvs H Q _=>∃(M:NO) (mem:List Key->Option Ce) (pl:Ec) (rs:List Va) (z:Str) (s o:Int) (x:Ce),vs=[.ref M.x,.str z,.int s,.int o]/\NF A H M mem pl rs/\mem (kp z s o)=some x/\(∀y,x=.inl y->∀v' H',az H H'->Va.Is H' y v'->Q v' H')/\∀c,x=.inr c->∀H',az H H'->Q .bh H'
structure T9(H:Hp)(t q lr ln:Addr)(pl:Ec)(rs:List Va):Prop where
 top:H t=some (.tup [.ref q,.ref lr,.ref ln,.bl false])
 Rm:H q=some (atT pl.1 pl.2.1 pl.2.2)
 AE:∃vs:List V,H lr=some (.lst vs)/\jE H rs vs
 Gs:H ln=some (.lst [])
def zJ(A:Ad):Sp:=λvs H Q _=>∃(M:NO) (mem:List Key->Option Ce) (pl:Ec) (rs:List Va),vs=[.ref M.x]/\NF A H M mem pl rs/\∀(t q lr ln:Addr) (H':Hp),az H H'->T9 H' t q lr ln pl rs->H lr=none->H ln=none->Q (.ref t) H'
abbrev cI:=List Key->Option Ce
def Iw(A:Ad)(H:Hp)(km:List (List Key×V))(mem:cI):Prop:=(∀k x,mem k=some x->∃v,bj km k=some v/\Ce.Is A H x v)/\∀k,mem k=none->bj km k=none
def setC(mem:cI)(k:List Key)(x:Ce):cI:=λj=>if j=k then some x else mem j
def dj(z:Str)(n:Int):List Int->Nat->cI->cI
 |[],_,m=>m
 |w::r,j,m=>dj z n r (j+1) (setC m (kp z n j) (.inl (.inl w)))
def cM(p:ao)(mn:List aq)(ws:List Int)(f:ai):Ce:=match cZ p mn f with
 |some (a,b,c)=>i9 (ws.getD f.at_.toNat 0) f.rule (a,b,c+f.add)
 |none=>.inl (.inl (gu f.rule (ws.getD f.at_.toNat 0) (f.add%4294967296)))
def kB(p:ao)(mn:List aq)(n:Int)(ws:List Int)(m:cI)(f:ai):cI:=setC m (kp p.name n f.at_) (cM p mn ws f)
def stC(p:ao)(mn:List aq)(n:Int)(s:aK)(m:cI):cI:=s.fills.foldl (kB p mn n s.words) (dj p.name n s.words 0 m)
def gU(p:ao)(mn:List aq):List aK->Nat->cI->cI
 |[],_,m=>m
 |s::r,j,m=>gU p mn r (j+1) (stC p mn j s m)
structure NN(p:ao)(mn:List aq):Prop where
 bn:Ae p
 UD:∀s∈p.aP,∀w∈s.words,0<=w/\w<=4294967295
 Ra:∀s∈p.aP,∀f∈s.fills,0<=f.at_/\f.at_<s.words.length/\(cZ p mn f=none->f.soft=true/\Q_ f.rule)
def zC(A:Ad):Sp:=λvs H Q _=>∃(x dx dm ds dN:Addr) (p:ao) (mn:List aq) (km ks:List (List Key×V)) (mem:cI),vs=[.ref x,p.v,.ref dN]/\H x=some (.ins A.cu dx [("memory", .ref dm),("stretches", .ref ds)])/\H dm=some (.dT km)/\H ds=some (.dT ks)/\dm≠ds/\km.length<=1000000/\ks.length<=1000000/\Iw A H km mem/\p.At H/\NN p mn/\Tab H dN mn/\
 ∀(km' ks':List (List Key×V)) (H':Hp),(∀b o,b≠dm->b≠ds->H b=some o->H' b=some o)->H' dm=some (.dT km')->H' ds=some (.dT ks')->Iw A H' km' (gU p mn p.aP 0 mem)->km'.length<=km.length+200*p.aP.length->ks'.length<=ks.length+p.aP.length->Q .bh H'
structure AV(A:Ad)(H H':Hp)(dm ds:Addr)(mem:cI)(n j:Nat):Prop where
 off:∀b o,b≠dm->b≠ds->H b=some o->H' b=some o
 jb:∃km,H' dm=some (.dT km)/\Iw A H' km mem/\km.length<=n
 str:∃ks,H' ds=some (.dT ks)/\ks.length<=j
def yP:Sp:=λvs H Q _=>∃(w a:Int) (r:Str),vs=[.int w,.str r,.int a]/\Q_ r/\0<=w/\Q (.int (gu r w (a%4294967296))) H
def W6(Q:VK)(H:Hp)(x:Ce):Prop:=(∀y,x=.inl y->∀v' H',az H H'->Va.Is H' y v'->Q v' H')/\∀c,x=.inr c->∀H',az H H'->Q .bh H'
def Le:Sp:=λvs H Q _=>∃(p:ao) (dS:Addr) (mn:List aq) (ws:List Int) (f:ai),vs=[p.v,.ref dS,.int (ws.getD f.at_.toNat 0),f.v]/\p.At H/\p.aH.length<=61/\(p.aH.map aj.name).Nodup/\f.At H/\Tab H dS mn/\0<=ws.getD f.at_.toNat 0/\(cZ p mn f=none->Q_ f.rule)/\W6 Q H (cM p mn ws f)
def KZ:Sp:=λvs H Q _=>∃n:Int,vs=[.int n]/\Q (.bl true) H
def xQ:Sp:=λvs H Q _=>∃(v u:V),vs=[v,u]/\((∃x:Va,Va.Is H x v/\Va.Is H x u)\/(v=.bh/\u=.bh))/\Q (.bl true) H
def zj:Sp:=λvs H Q _=>∃(a b:Addr) (rs:List Va) (xs ys:List V),vs=[.ref a,.ref b]/\H a=some (.lst xs)/\H b=some (.lst ys)/\jE H rs xs/\jE H rs ys/\rs.length<=1000/\Q (.bl true) H
def xK:Sp:=λvs H Q _=>∃(t q lr ln sp lw lt:Addr) (pl:Ec) (rs:List Va) (us:List V),vs=[.ref t,.ref sp,.ref lw,.ref lt,.bl false]/\T9 H t q lr ln pl rs/\H sp=some (atT pl.1 pl.2.1 pl.2.2)/\H lw=some (.lst us)/\jE H rs us/\H lt=some (.lst [])/\rs.length<=1000/\Q (.bl true) H
def fU(fs:List ai)(o:Int):Option ai:=fs.foldl (λc f=>if f.at_=o then some f else c) none
def fu(p:ao)(mn:List aq)(st:aK)(o w:Int):Ce:=match fU st.fills o with
 |some f=>cM p mn st.words f
 |none=>.inl (.inl w)
def O9(ps:List ao)(mn:List aq)(mem:cI):Prop:=∀p∈ps,∀(i:Nat) (st:aK) (o:Nat) (w:Int),p.aP[i]?=some st->st.words[o]?=some w->mem (kp p.name i o)=some (fu p mn st o w)
def Qm(x:Addr)(H H':Hp):Prop:=∀b o,b≠x->(∀ps,o≠.g9 ps)->H b=some o->H' b=some o
def C9(A:Ad):Sp:=λvs H Q _=>∃(x dx g s l:Addr) (e:Str) (ps:List ao) (mn:List aq) (m:aq) (rs:List Va) (us:List V),vs=[.ref x,.ref g,.ref s,.str e,.ref l]/\H x=some (.ins A.cu dx [])/\PL H g ps/\H s=some (.lst [])/\MG ps [] e/\BU ps/\gi (bo ps) mn/\ar mn e=some m/\(∀q∈ps,NN q mn)/\H l=some (.lst us)/\jE H rs us/\rs.length=8/\gG A.aN VC VN H/\gG A.br Fi GP H/\A.br≠A.aN/\
 ∀(M:NO) (mem:cI) (H':Hp),M.x=x->Qm x H H'->NF A H' M mem (m.a,m.b,m.c%4294967296) rs->O9 ps mn mem->H M.lr=none->H M.ln=none->Q .bh H'
structure HF(c t:Int)(p:ao):Prop where
 name:p.name=nameOf t 14
 aH:p.aH.map aj.name=(List.range 12).map λk:Nat=>nameOf c k
 weak:∀n∈p.aH,n.sort=s!"weak"
 aP:∃s,p.aP=[s]/\s.words=[5]/\s.fills=[]
 off:∀n∈p.aH,0<=n.off/\n.off<=1
def Dp:Sp:=λvs H Q _=>∃c t:Int,vs=[.int c,.int t]/\∀(p:ao) (H':Hp),az H H'->p.At H'->HF c t p->(∀b∈p.lists,H b=none)->p.lists.Nodup->Q p.v H'
def y8:Sp:=λvs H Q _=>∃(L:Addr) (ps:List ao),vs=[.ref L]/\PL H L ps/\BU ps/\∀(d:Addr) (ms:List aq) (H':Hp),az H H'->Tab H' d ms->gi (bo ps) ms->H d=none->Q (.ref d) H'
def z6(A:Ad):Sp:=λvs H Q _=>∃(M:NO) (L dS:Addr) (mem:cI) (pl:Ec) (rs:List Va) (ps:List ao) (mn:List aq),vs=[.ref M.x,.ref L,.ref dS]/\NF A H M mem pl rs/\O9 ps mn mem/\PL H L ps/\Tab H dS mn/\ps.length<=14/\(∀p∈ps,NN p mn)/\∀H',az H H'->Q (.bl true) H'
def p0(K:Wf)(tn tb:Addr):Sp:=λvs H Q _=>∃(a:Addr) (ns:List Int),vs=[.ref a]/\aA K H a (ns.map V.int)/\ns.length<=63/\H tn=some (.g9 #[])/\H tb=some (.g9 #[])/\tn≠tb/\∀H',Q (.bl true) H'
private def YB:Array Lean.Ident:=("W7 MR mr tC N7 ZJ Hr Yl Xo U6 ZO XX W3 TQ tB WI YY N4 O8 JG ZU Mb RH TB TL V4 XZ UI Vg U1 ZD L2.start List.set List.map List.length List.replicate List.cons_append List.nil_append List.append_nil cK bK Nd rI rU Wq Si Jg Sz Vx YD NT Ti T_ Xh VU Yn Vo ON OO X2 Ms R9 OK VM VP Yq NR Y1 YC Y6 ZZ Zg ZR Z6 Z4 sc2 Z8 sc4 Z9 Z_ sc7 sc8 sc9 Zt ZM ZI Zd Ni Vj RX Zs Rb RV TU Q5 Q8 Pe Q2 Rh Qd eg YJ BF VH VY ZV UB N2 X1 XE YS Z0 ZP Y2 VF rJoin Zp Zb X5 WR Yw ZL YW Yy Ze ZN Z5 Zc List.getElem?_cons_zero List.getElem?_cons_succ Option.some.injEq V.int.injEq V.str.injEq V.bl.injEq V.ref.injEq V.ty.injEq List.cons.injEq exists_eq_left' exists_eq_left exists_eq' and_assoc if_true if_false Bool.not_false Bool.not_true Bool.not_not Bool.false_eq_true exists_and_left and_true true_and List.set_cons_zero List.set_cons_succ Option.join_some false_and or_false false_or exists_false DH DM zx DG Kb BR Dp y8 z6 DI K4 KP Ud DX Kw zH OQ C6 Dg D6 HC CW zN D3 F7 zC C9 OX K9 Mt Tn LO XA IH MU MN LY Mc C7 Pr Aa Dt xU zJ yj yP Le KZ xQ zj xK Uq xO FH Rz U3 QU V3 ZQ X0 TM U0 Rn Pj YA Pw Ta Q4 PF SD XM VP WD QZ Ends.nx Nat.reduceSub Nat.reduceAdd".splitOn " ").toArray.map λs=>Lean.mkIdent s.toName
local macro_rules | `(tactic| walk_at "rdd") => do
 let a<-YB.mapM λx=>`(Lean.Parser.Tactic.simpLemma| $x:ident)
 `(tactic| try dsimp only [$a,*])
local macro_rules | `(tactic| walk_at "rd") => do
 let a<-YB.mapM λx=>`(Lean.Parser.Tactic.simpLemma| $x:ident)
 let a:=a.push (<-`(Lean.Parser.Tactic.simpLemma| reduceCtorEq))
 `(tactic| (walk_at "rdd";try simp only [$a,*]))
section
variable{P:Program}{w:World}{K:Wf}{mg:So}{base:Heap}{A:Ad}
theorem a_(h:H p=none):az H (upd H p o):=λb u e=>by rw[ae (bD e h)];exact e
theorem bJ(h:upd H p o q=none):q≠p/\H q=none:=by
 have n:q≠p:=λe=>by rw[e,aD]at h;cases h
 exact⟨n,by rw[ae n]at h;exact h⟩
theorem f7(h:H0 L=none)(e:az H0 H):az H0 (upd H L o):=λb u q=>by rw[ae (bD q h)];exact e b u q
theorem cC(s:az H H')(h:H' a=none):H a=none:=by
 cases e:H a with
 |none=>rfl
 |some o=>exact nomatch h.symm.trans (s _ _ e)
theorem ng(c k:Int)(n:Nat):jC c k (n+1)=jC c k n++(⟨#[sgn (iT c k n)]⟩:Str):=by
 show(⟨_⟩:Str)=⟨_⟩;congr 1;rw[List.range_succ,bP];apply Array.ext';unfold jC;simp
theorem gk(c k:Int)(n:Nat):(jC c k n).length=n:=by
 show((List.range n).map _).toArray.size=n;simp
theorem Eg(h0:0<=i)(h1:i<37):h_ signs.cps.toList i=some (sgn i):=by
 have hl:signs.cps.toList.length=37:=by decide +kernel
 obtain⟨v,hv,_⟩:=z_ (xs:=signs.cps.toList) (i:=i) (by omega) (by omega);unfold sgn;rw[hv];rfl
theorem eN(c k:Int)(j:Nat):0<=iT c k j/\iT c k j<37:=by
 unfold iT;generalize c/((j:Int)+3)+(j:Int)*(j:Int)+k*(if decide ((j:Int)=pX c)=true then 1 else 0)=x;split<;>omega
theorem Pq(h0:0<=i)(h1:i<37):sgn i<16 ^ 8:=by
 have hl:signs.cps.toList.length=37:=by decide +kernel
 obtain⟨v,hv,hm⟩:=z_ (xs:=signs.cps.toList) (i:=i) (by omega) (by omega);unfold sgn;rw[hv];have all:signs.cps.toList.all (λc=>decide (c<16 ^ 8))=true:=by decide +kernel
 exact of_decide_eq_true (List.all_eq_true.mp all v hm)
theorem Du(c k:Int)(hk:0<=k):(nameOf c k).length<=16/\Sg (nameOf c k):=by
 unfold nameOf;refine⟨?_,λx hx=>?_⟩
 ·rw[gk];unfold gb;split<;>omega
 ·unfold jC at hx;simp only[List.mem_toArray,List.mem_map,List.mem_range]at hx;obtain⟨j,_,rfl⟩:=hx;exact Pq (eN c k j).1 (eN c k j).2
theorem BG(T:Txt K mg A):aY P w K mg base cF 1 A.Tq A.wg ["_law_script", "_law_k"] (DH K):=by
 refine T.CD.ok QG ?_ ?_;walk_at "k"
 obtain⟨a,ns,i,rfl,hS,hl,h0,k⟩:=h;refine⟨_,(aJ (aO (eZ lB (pv 1) (cG (gj (K:=K) rfl) (by rfl) T.cL b0 (ah (pv 0) aa)) (aB _)) (aX (ay (cw (fj (K:=K) rfl) (pv 0) (pv 1) (λ_ _=>rfl)))) eL) (aX (ay af))),?_⟩;walk_at "rd";refine⟨ns.length,.inl ⟨_,hS,by simp⟩,cX (λhi=>?_) (λ_=>k 0)⟩;have hi:=of_decide_eq_true hi;obtain⟨v,hv,hm⟩:=z_ (xs:=ns.map V.int) (i:=i) (by simp;omega) (by simpa using hi);obtain⟨j,_,rfl⟩:=bI.mp hm;exact⟨_,hS,_,hv,k j⟩
theorem lA(T:Txt K mg A):aY P w K mg base cF 1 A.Vy A.sk ["_law_cell", "_law_k"] DM:=by
 refine T.AI.ok eJ ?_ ?_;walk_at "k"
 obtain⟨c,i,rfl,k⟩:=h;refine⟨_,(aJ (pS 2 eJ.nd aF) (aJ (pS 3 eJ.nd (ax cH af (ax aZ (pv 0) af))) (aJ (pS 4 eJ.nd (ax aZ (ax e8 (pv 0) af) (pv 3))) (aJ (aO (eZ bW (ax aZ (ax e8 (pv 0) af) af) af (aB _)) (aJ (pS 3 eJ.nd (ax cH af (ax aZ (pv 1) af))) (aX (pS 4 eJ.nd af))) eL) (aJ (pS 5 eJ.nd aF) (aJ (pF (d6 rfl T.dM (ah (pv 3) aa)) (pn 6 eJ.nd) (aJ (pS 7 eJ.nd (ax kA af (ax fR af (bM i5 (by rfl) T.iL i_ (ah (eR bW (pv 6) af (aB _)) aa))))) (aJ (pS 8 eJ.nd (ax cH (ax cH (ax e8 (pv 0) (ax cH (pv 6) af)) (ax fR (pv 6) (pv 6))) (ax fR (pv 1) (bM i5 (by rfl) T.iL i_ (ah (eR bW (pv 6) (pv 4) (aB _)) aa))))) (aX (pS 5 eJ.nd (ax y9 (pv 5) (cw QE (pv 2) (ax aZ (pv 8) (pv 7)) (λ_ _=>rfl)))))))) (aX (ay (pv 5))))))))),?_⟩;walk_at "rd";refine⟨by decide,⟨by decide,by decide⟩,by omega,⟨by decide,by decide⟩,by decide,cX (λhc=>⟨by decide,?_⟩) (λhc=>?_)⟩
 ·have hc:=of_decide_eq_true hc;have e1:gb c i=1+i%16:=by unfold gb;rw[if_pos hc]
  have e2:pX c=16:=by unfold pX;rw[if_pos hc]
  refine xx.of (by omega) (by omega) (λn σ H'=>H'=H/\∃b6 b7 b8,σ=[some (.int c),some (.int i),some (.str signs),some (.int (1+i%16)),some (.int 16),some (.str (jC c i n)),b6,b7,b8]) ⟨rfl,_,_,_,rfl⟩ ?_ ?_
  ·rintro n σ H' hn ⟨rfl,b6,b7,b8,rfl⟩;walk_at "rd";have lo:=eN c i n;have at_:=Eg lo.1 lo.2;unfold iT at at_ lo;rw[e2]at at_ lo;exact⟨.inl ⟨by decide,by decide⟩,⟨by omega,by omega⟩,.inl ⟨by omega,by omega⟩,.inr (by split<;>exact⟨by decide,by decide⟩),by split<;>decide,by rw[sizeLine_eq];decide +kernel,_,at_,by rw[gk,sizeLine_eq];show n+1<=_;omega,by rw[ng];unfold iT;rw[e2]⟩
  ·rintro σ H' ⟨rfl,b6,b7,b8,rfl⟩;walk_at "rd";rw[<-e1];exact k
 ·have hc:¬c/256%3=0:=by simpa using hc
  have e1:gb c i=1+c%16:=by unfold gb;rw[if_neg hc]
  have e2:pX c=c/16%(1+c%16):=by unfold pX;rw[if_neg hc]
  refine xx.of (by omega) (by omega) (λn σ H'=>H'=H/\∃b6 b7 b8,σ=[some (.int c),some (.int i),some (.str signs),some (.int (1+c%16)),some (.int (c/16%(1+c%16))),some (.str (jC c i n)),b6,b7,b8]) ⟨rfl,_,_,_,rfl⟩ ?_ ?_
  ·rintro n σ H' hn ⟨rfl,b6,b7,b8,rfl⟩;walk_at "rd";have lo:=eN c i n;have at_:=Eg lo.1 lo.2;unfold iT at at_ lo;rw[e2]at at_ lo;exact⟨.inl ⟨by decide,by decide⟩,⟨by omega,by omega⟩,.inl ⟨by omega,by omega⟩,.inr (by split<;>exact⟨by decide,by decide⟩),by split<;>decide,by rw[sizeLine_eq];decide +kernel,_,at_,by rw[gk,sizeLine_eq];show n+1<=_;omega,by rw[ng];unfold iT;rw[e2]⟩
  ·rintro σ H' ⟨rfl,b6,b7,b8,rfl⟩;walk_at "rd";rw[<-e1];exact k
theorem UR(T:Txt K mg A):aY P w K mg base cF 2 A.Tx A.o7 ["_law_cell", "_law_names_by"] zx:=by
 refine T.Cq.ok hX ?_ ?_;walk_at "k"
 obtain⟨c,n,rfl,k⟩:=h;refine⟨_,(aJ (pS 2 hX.nd (ax aZ (pv 0) af)) (aJ (pS 3 hX.nd (ax e8 (pv 0) af)) (aJ (pS 4 hX.nd (gm (eR bW (ax aZ (ax e8 (pv 3) af) af) af (aB _)) (i4 (eR lB (ax aZ (pv 3) af) af (aB _))))) (aJ (pS 5 hX.nd (ax kA (ax aZ (ax e8 (pv 3) af) af) af)) (aJ (aO (eZ bW (ax aZ (ax e8 (pv 3) af) af) af (aB _)) (aX (pS 5 hX.nd (ax kA (ax aZ (ax fR (ax e8 (pv 3) af) af) af) af))) eL) (aJ (pS 6 hX.nd (cw (fj (K:=K) rfl) (bx (ah aF (ah aF (ah aF (ah aF (ah aF aa)))))) (ax aZ (pv 3) af) (λ_ _=>rfl))) (aJ (aO (eZ bW (pv 2) af (aB _)) (aX (ay fT)) eL) (aX (ay (aQ (ah (pv 6) (ah (pC (lA T) hr T.jx T.ix T.iI (ah (pv 1) (ah (ax aZ (ax e8 (pv 3) af) (ax cH af (ax fR af (bM i5 (by rfl) T.iL i_ (ah (pv 4) aa))))) aa))) (ah (pv 5) (ah (pv 4) aa)))))))))))))),?_⟩;walk_at "rd";have five:∀(p:Addr) (sf:Bool) (add:Int),H p=none->(sf=true->c/9%5<3) -> -2147483648<=add->add<2147483648->
   (0:Int)<5/\∃x,aA K (upd H p (HO.lst [V.str s!"whole",V.str s!"high",V.str s!"low",V.str s!"near",V.str s!"split"])) p x/\
    ∃x_1,h_ x (c/9%5)=some x_1/\
     if decide (c%9=2)=true then Q V.bh (upd H p (HO.lst [V.str s!"whole",V.str s!"high",V.str s!"low",V.str s!"near",V.str s!"split"]))
     else Sr (c/9) 5/\MX 3 (if sf=true then 1 else 0)/\((0:Int)<12+3*if sf=true then 1 else 0)/\4<=sizeLine/\∀(p_1:Addr),
      upd H p (HO.lst [V.str s!"whole",V.str s!"high",V.str s!"low",V.str s!"near",V.str s!"split"]) p_1=none->
      Q (V.ref p_1) (upd (upd H p (HO.lst [V.str s!"whole",V.str s!"high",V.str s!"low",V.str s!"near",V.str s!"split"])) p_1 (HO.tup [x_1,V.str (nameOf n (c/9/5%(12+3*(if sf=true then 1 else 0)))),V.int add,V.bl sf])):=by
  intro p sf add hp hsf h1 h2;refine⟨by decide,_,aA.of aD,?_⟩;obtain⟨z,hz,hT,hS⟩:∃z:Str,h_ [V.str s!"whole",V.str s!"high",V.str s!"low",V.str s!"near",V.str s!"split"] (c/9%5)=some (V.str z)/\Yu z/\(c/9%5<3->z=s!"whole" \/ z=s!"high" \/ z=s!"low"):=by
   have hd:c/9%5=0\/c/9%5=1\/c/9%5=2\/c/9%5=3\/c/9%5=4:=by omega
   rcases hd with e|e|e|e|e<;>rw[e]
   ·exact⟨_,rfl,.inl rfl,λ_=>.inl rfl⟩
   ·exact⟨_,rfl,.inr (.inl rfl),λ_=>.inr (.inl rfl)⟩
   ·exact⟨_,rfl,.inr (.inr (.inl rfl)),λ_=>.inr (.inr rfl)⟩
   ·exact⟨_,rfl,.inr (.inr (.inr (.inl rfl))),λh=>absurd h (by decide)⟩
   ·exact⟨_,rfl,.inr (.inr (.inr (.inr rfl))),λh=>absurd h (by decide)⟩
  refine⟨_,hz,cX (λ_=>(k _ λb o e=>?_).1) (λ_=>⟨⟨by decide,by decide⟩,.inr (by split<;>exact⟨by decide,by decide⟩),by split<;>decide,by walk_at "s", λq hq=>?_⟩)⟩
  ·rw[ae (bD e hp)];exact e
  ·have hqp:q≠p:=λe=>by rw[e,aD]at hq;cases hq
   have hq':H q=none:=by rw[ae hqp]at hq;exact hq
   refine(k _ λb o e=>?_).2 ⟨q,0,z,nameOf n (c/9/5%(12+3*(if sf=true then 1 else 0))),add,sf⟩ ⟨hT,(by cases sf;exact .inr ⟨_,Int.emod_nonneg _ (by decide),Int.emod_lt_of_pos _ (by decide),rfl⟩;exact .inl rfl),by show(0:Int)<=0;decide,by show(0:Int)<(1:Nat);decide,h1,h2,λh=>hS (hsf h)⟩ aD hq';rw[ae (bD e hq'),ae (bD e hp)];exact e
 refine⟨by decide,⟨by decide,by decide⟩,⟨by decide,by decide⟩,by decide,cX (λ_=>⟨by decide,⟨by decide,by decide⟩,by decide,⟨by decide,by decide⟩,by decide,cX (λ_=>⟨⟨by decide,by decide⟩,.inr ⟨by decide,by decide⟩,by decide,by walk_at "s", λp hp=>?_⟩) (λ_=>⟨by rw[sizeLine_eq];decide,λp hp=>?_⟩)⟩)
  (λhs=>⟨⟨by decide,by decide⟩,by decide,⟨by decide,by decide⟩,by decide,cX (λ_=>⟨⟨by decide,by decide⟩,.inr ⟨by decide,by decide⟩,by decide,by walk_at "s", λp hp=>?_⟩) (λ_=>⟨by rw[sizeLine_eq];decide,λp hp=>?_⟩)⟩)⟩
 ·refine five p _ _ hp (λh=>of_decide_eq_true h) ?_ ?_<;>omega
 ·refine five p _ _ hp (λh=>of_decide_eq_true h) ?_ ?_<;>omega
 ·refine five p false _ hp (λh=>absurd h (by decide)) ?_ ?_<;>omega
 ·refine five p false _ hp (λh=>absurd h (by decide)) ?_ ?_<;>omega
theorem eE{α:Type}{xs:List α}{x:α}:h_ (xs++[x]) (-1)=some x:=by
 unfold h_ Ca;rw[if_neg (by decide),if_pos (by simp;omega)];show(xs++[x])[(-1+((xs++[x]).length:Int)).toNat]?=some x;have e:(-1+((xs++[x]).length:Int)).toNat=xs.length:=by simp;omega
 rw[e];simp
theorem MA{z:Str}{xs:List Str}:VL (.str z) (xs.map V.str)=true↔z∈xs:=by
 unfold VL;rw[Nm,Ci];constructor
 ·rintro⟨y,hy,e⟩;have:y=z:=by simpa [Function.comp,Gk] using e
  exact this▸hy
 ·intro h;exact⟨z,h,by simp[Function.comp,Gk]⟩
theorem Ma:∃z:Str,h_ [V.str s!"tell",V.str s!"weak",V.str s!"own"] (c%3)=some (V.str z)/\isSort z:=by
 have hd:c%3=0\/c%3=1\/c%3=2:=by omega
 rcases hd with e|e|e<;>rw[e]
 ·exact⟨_,rfl,.inl rfl⟩
 ·exact⟨_,rfl,.inr (.inl rfl)⟩
 ·exact⟨_,rfl,.inr (.inr rfl)⟩
theorem QX(m:Nat):HT.sIx (m+1) (m+1) (some (-1))=m:=by
 unfold HT.sIx;simp;try omega
def gO:Option HO->D
 |some (.tup [.str n,.str s])=>.tup [.str n,.str s]
 |_=>.bh
def lI(n:aj):Option HO:=some (.tup [.str n.name,.str n.sort])
def Sh(p:ao)(z s:Str):Bool:=p.aH.any λn=>decide (n.name=z)&&decide (n.sort=s)
theorem ML{H:Hp}{as:List Addr}{p:ao}{z s:Str}(e:as.map H=p.aH.map lI):(as.any λa=>deq (gO (H a)) (.tup [.str z,.str s]))=Sh p z s:=by
 have h:(as.any λa=>deq (gO (H a)) (.tup [.str z,.str s]))=(as.map H).any λo=>deq (gO o) (.tup [.str z,.str s]):=by rw[Nm];rfl
 rw[h,e,Nm];unfold Sh;congr 1;funext n;show deq (.tup [.str n.name,.str n.sort]) (.tup [.str z,.str s])=_;simp only[deq,deqL,Bool.and_true];by_cases a:n.name=z<;>by_cases b:n.sort=s<;>simp[a,b]
theorem rV{H:Hp}{as:List Addr}{ns:List aj}(e:as.map H=ns.map lI){a:Addr}(ha:a∈as):∃n∈ns,H a=lI n:=by
 have h:H a∈ns.map lI:=by rw[<-e];exact bI.mpr ⟨a,ha,rfl⟩
 obtain⟨n,hn,q⟩:=bI.mp h;exact⟨n,hn,q.symm⟩
theorem C1{H H':Hp}{as:List Addr}{ns:List aj}(e:as.map H=ns.map lI)(s:∀a∈as,∀o,H a=some o->H' a=some o):as.map H'=ns.map lI:=by
 rw[<-e];refine M4 λa ha=>?_;obtain⟨n,_,q⟩:=rV e ha;rw[s a ha _ q,q];rfl
theorem SG(T:Txt K mg A):aY P w K mg base cF 2 A.UE A.rK ["_law_pieces", "_law_cell", "_law_names_by", "_law_strict"] (DG K):=by
 refine T.Bt.ok iO ?_ ?_;walk_at "k"
 obtain⟨L,c,n,ps,p,ss,st,rfl,hP,hst,b1,b2,b3,b4,b5,k0,k1⟩:=h
 refine⟨_,(aJ (pS 4 iO.nd (cw (fj (K:=K) rfl) (pv 0) (iK gr af) (λ_ _=>rfl))) (aJ (pS 5 iO.nd (pC (lA T) hr T.jx T.ix T.iI (ah (pv 2) (ah (ax aZ (ax e8 (pv 1) af) af) aa)))) (aJ (aO (eZ (Mn (K:=K) rfl) (pv 5) (fH (kD ["_law_row"]) rfl (cJ (K:=K) rfl (tx K (pv 4))) (λ_ _ _=>⟨(pn 0 (by walk_at "n")),cj,(tx K (pv 0))⟩)) (by with_unfolding_all rfl)) (aX v5) eL) (aJ (pS 6 iO.nd (cw (fj (K:=K) rfl) (bx (ah aF (ah aF (ah aF aa)))) (ax aZ (pv 1) af) (λ_ _=>rfl))) (aJ (pF (cJ (K:=K) rfl (kb (yF (K:=K) rfl) (pv 0) BC (jQ (iK gr af)))) (pn 7 iO.nd) (aX (aO (PW.pt (iW (eZ bW (pv 6) aF (aB _)) (iW (de (bU (pv 3))) (iE (eZ (M9 hr.units (K:=K) rfl) (aQ (ah (pv 5) (ah aF aa))) (fH (kD ["_law_row"]) rfl (cJ (K:=K) rfl (tx K (pv 7))) (λ_ _ _=>⟨(pn 0 (by walk_at "n")),cj,(kb (LL (K:=K) rfl) (pv 0) BC (jQ af))⟩)) (by with_unfolding_all rfl)))))) (aX (pS 6 iO.nd aF)) eL))) (aX (dh (dE (tx K (pv 4)) (ah (aQ (ah (pv 5) (ah (pv 6) (ah (ax kA (cG (gj (K:=K) rfl) (by rfl) T.cL b0 (ah (tx K (pv 4)) aa)) af) (ah (cG (gj (K:=K) rfl) (by rfl) T.cL b0 (ah (tx K (cw (fj (K:=K) rfl) (tx K (pv 4)) (iK gr af) (λ_ _=>rfl))) aa)) aa))))) aa))))))))),?_⟩
 walk_at "rd";have hp:=hP.at_ p (by simp);refine⟨_,aA.of hP.top,V.ref p.t,by rw[bP];exact eE,⟨by decide,by decide⟩,by decide,p.t,rfl,_,aS.of hp.top,_,rfl,?_⟩;refine dH.of (by rw[aI,sizeLine_eq];omega) (aA.of hp.nl) (λD i ys H'=>ys=(p.aH.take i).map (λm=>V.str m.name)/\H'=upd H D (.lst ys)) (λD hD=>⟨rfl,rfl⟩) (λD i ys H' hD hi ⟨e1,e2⟩=>?_) (λD i x ys H' hD hx ⟨e1,e2⟩=>?_) (λD ys H' hD ⟨e1,e2⟩=>?_)
 ·subst e2;refine⟨aA.of (by rw[ae (bD hp.nl hD)];exact hp.nl),aD,?_⟩;rw[e1,aI];exact List.length_take_le ..
 ·subst e2;walk_at "0";obtain⟨m,hm,rfl⟩:=fW.mp hx;have ma:=hp.ns m (e7 hm);walk_at "rd";refine⟨.no .nil,_,aS.of (by rw[ae (bD ma hD)];exact ma),_,rfl,aD,?_,LW⟩;rw[e1,jH,hm,bP];rfl
 ·subst e2;have e3:ys=(p.aH.map aj.name).map V.str:=by rw[e1,aI,iR,fX];rfl
  refine⟨D,rfl,ys,.inl (aA.of aD),rfl,?_,cX (λ_=>k0 _ (a_ hD)) (λhin=>⟨by rw[sizeLine_eq];decide,λp1 h1=>?_⟩)⟩
  ·rw[e3,List.all_map];exact List.all_eq_true.mpr λ_ _=>rfl
  ·obtain⟨z,hz,hs⟩:=Ma (c:=c);have sm:az H (upd (upd H D (.lst ys)) p1 (.lst [V.str s!"tell",V.str s!"weak",V.str s!"own"])):=(a_ hD).trans (a_ h1);refine⟨by decide,_,aA.of aD,_,hz,_,aA.of (sm _ _ hP.top),λp2 h2=>?_⟩;have sm2:=sm.trans (a_ (o:=HO.lst (jg ((ps++[p]).map ao.v) none (some (-1)))) h2);generalize hH4:upd (upd (upd H D (.lst ys)) p1 (.lst [V.str s!"tell",V.str s!"weak",V.str s!"own"])) p2 (HO.lst (jg ((ps++[p]).map ao.v) none (some (-1))))=H4 at *;have hl4:H4 p2=some (HO.lst (jg ((ps++[p]).map ao.v) none (some (-1)))):=by rw[<-hH4];exact aD
   have ecut:jg ((ps++[p]).map ao.v) none (some (-1))=ps.map ao.v:=by
    unfold jg;have e:HT.sIx ((ps++[p]).map ao.v).length ((ps++[p]).map ao.v).length (some (-1))=ps.length:=by
     rw[aI,eY,Pp];exact QX ps.length
    have e0:HT.sIx ((ps++[p]).map ao.v).length 0 none=0:=rfl;rw[e,e0,List.drop_zero,Nat.sub_zero,bP,VO (by rw[aI];exact bw _),VV (by rw[aI];exact bw _)]
   rw[ecut]at hl4;have tl:z=s!"tell" \/ z≠s!"tell" := Decidable.em _;refine eM.of (xs:=ps.map ao.v) (λi σ H'=>∃(zz:Str) (b7:Option V),σ=[some (V.ref L),some (V.int c),some (V.int n),some (V.bl false),some (V.ref p.t),some (V.str (nameOf n (c/9%12))),some (V.str zz),b7]/\az H4 H'/\isSort zz/\(zz=s!"tell" -> ∀q∈ps.take i,∀x∈q.aH,x.sort=s!"tell" -> x.name≠nameOf n (c/9%12))) ⟨z,_,rfl,az.refl _,hs,λ_ q hq=>by simp at hq⟩ (λi σ H' _ ⟨_,_,_,s5,_⟩=>aA.of (s5 _ _ hl4)) ?_ ?_
   ·rintro i x σ H' hx ⟨zz,b7,rfl,s5,hzz,no⟩;walk_at "0";obtain⟨ot,hot,rfl⟩:=fW.mp hx;have om:=e7 hot;have oa:=((hP.at_ ot (lC _ om)).mono sm2).mono s5;have tk:ps.take (i+1)=ps.take i++[ot]:=by rw[jH,hot];rfl
    walk_at "rd";refine cX (λh1=>?_) (λh1=>⟨s5,hzz,λe=>absurd (decide_eq_true e) h1⟩);have ez:zz=s!"tell" := of_decide_eq_true h1;refine⟨by rw[sizeLine_eq];decide,λq hq=>⟨_,aS.of (a_ hq _ _ oa.top),_,rfl,?_⟩⟩;have sq:=a_ (o:=HO.tup [V.str (nameOf n (c/9%12)),V.str s!"tell"]) hq;have hqq:upd H' q (HO.tup [V.str (nameOf n (c/9%12)),V.str s!"tell"]) q=some (HO.tup [V.str (nameOf n (c/9%12)),V.str s!"tell"]):=aD;have oa3:=oa.mono sq;have s53:=s5.trans sq;generalize upd H' q (HO.tup [V.str (nameOf n (c/9%12)),V.str s!"tell"])=H3 at *;refine dH.of (xs:=ot.aH.map aj.v) (by rw[aI,sizeLine_eq];have:=b5 ot om;omega) (aA.of oa3.nl) (λD i ys H6=>az H3 H6/\H6 D=some (.lst ys)/\∃as:List Addr,ys=as.map V.ref/\as.map H6=(ot.aH.take i).map lI)
     (λD hD=>⟨a_ hD,aD,[],rfl,rfl⟩) ?_ ?_ ?_
    ·rintro D i ys H6 hD hi ⟨s6,hDD,as,rfl,e⟩;refine⟨aA.of (s6 _ _ oa3.nl),hDD,?_⟩;have h:=congrArg List.length e;rw[aI,aI,p_]at h;rw[aI];omega
    ·rintro D i x ys H6 hD hx ⟨s6,hDD,as,rfl,e⟩;walk_at "0";obtain⟨n',hn,rfl⟩:=fW.mp hx;have na:=s6 _ _ (oa3.ns n' (e7 hn));have tk':(ot.aH.take (i+1))=ot.aH.take i++[n']:=by rw[jH,hn];rfl
     walk_at "rd";refine⟨.no .nil,_,aS.of na,λz=>absurd (show HT.sIx 4 4 (some 2)=4 from z.2) (by decide),λq2 hq2=>⟨by rw[ae (bD hDD hq2)];exact hDD,f7 hD (s6.trans (a_ hq2)),aD,as++[q2],by rw[bP];rfl,?_⟩⟩;rw[tk',bP,bP];congr 1
     ·refine C1 e λa ha o ho=>?_;obtain⟨_,_,q'⟩:=rV e ha;have nD:a≠D:=λz=>by rw[z,hDD]at q';cases q'
      rw[ae nD,ae (bD ho hq2)];exact ho
     ·show [upd (upd H6 q2 _) D _ q2]=[lI n'];rw[ae (Ne.symm (bD hDD hq2)),aD];rfl
    ·rintro D ys H6 hD ⟨s6,hDD,as,rfl,e⟩;walk_at "1";have any:=ML (z:=nameOf n (c/9%12)) (s:=s!"tell") e;refine⟨D,rfl,as,aA.of hDD,λa=>gO (H6 a),λa ha=>?_,.tup [.str (nameOf n (c/9%12)),.str s!"tell"],?_,cX (λh2=>⟨s53.trans s6,.inr (.inl rfl),λe=>absurd e (by decide +kernel)⟩) (λh2=>⟨s53.trans s6,hzz,λ_ y hy x hx hxs hxn=>?_⟩)⟩
     ·obtain⟨n',_,q'⟩:=rV e ha;show Rep K H6 (gO (H6 a)) (V.ref a)/\dep (gO (H6 a))<=20;rw[q'];refine⟨?_,by simp[gO,lI,dep,depL]⟩;simp only[gO,lI,Rep];exact⟨_,_,rfl,aS.of q',by simp[RepL,Rep]⟩
     ·simp only[Rep];exact⟨_,_,rfl,aS.of (s6 _ _ hqq),by simp[RepL,Rep]⟩
     ·rw[tk]at hy;rcases cy.mp hy with hy|hy
      ·exact no ez y hy x hx hxs hxn
      ·rw[cD.mp hy]at hx;rw[any]at h2;exact h2 (Ci.mpr ⟨x,hx,by rw[decide_eq_true hxn,decide_eq_true hxs];rfl⟩)
   ·rintro σ H' ⟨zz,b7,rfl,s5,hzz,no⟩;rw[aI,iR]at no;have sm2:=sm2.trans s5;walk_at "rd";have hs':=hp.ss st (by rw[hst];simp);refine⟨_,aS.of (sm2 _ _ hp.top),_,rfl,.inl ⟨rfl,_,aA.of (sm2 _ _ hp.nl)⟩,_,aS.of (sm2 _ _ hp.top),_,rfl,p.aP.length,.inl ⟨_,aA.of (sm2 _ _ hp.sl),by simp⟩,_,aS.of (sm2 _ _ hp.top),_,rfl,p.ls,rfl,_,aA.of (sm2 _ _ hp.sl),st.v,(by rw[hst,List.map_append];exact eE),st.t,rfl,_,aS.of (sm2 _ _ hs'.top),_,rfl,st.words.length,.inl ⟨_,aA.of (sm2 _ _ hs'.wd),by simp⟩,by walk_at "s", λm hm=>⟨p.ln,rfl,p.aH.map aj.v,?_,?_,?_⟩⟩
    ·rw[ae (bD (sm2 _ _ hp.nl) hm)];exact sm2 _ _ hp.nl
    ·rw[aI,sizeLine_eq];omega
    ·refine k1 ⟨m,nameOf n (c/9%12),zz,(p.aP.length:Int) - 1,st.words.length⟩ _ (sm2.trans (a_ hm)) aD ⟨_,by omega,by omega,rfl⟩ (λhn=>hin ?_) hzz ?_ rfl no
     ·rw[e3];exact MA.mpr hn
     ·show(p.aP.length:Int) - 1=ss.length;rw[hst,eY];simp
theorem gR.empty:gR c ⟨t,ls,ln,nm,[],[]⟩:=⟨λs hs=>absurd hs (by simp),λn hn=>absurd hn (by simp),by simp⟩
theorem Drawn.push(d:Drawn c t i ps)(h:ps.length<12):Drawn c t (i+1) (ps++[⟨a,ls,ln,nameOf t ps.length,[],[]⟩]):=by
 refine⟨λp hp=>?_,by rw[eY];simp;omega,?_,?_,List.pairwise_append.mpr ⟨d.tw,by simp,λx hx y hy u hu v hv=>by rw[List.mem_singleton.mp hy]at hv;cases hv⟩⟩
 ·rcases cy.mp hp with z|z
  ·exact d.ok p z
  ·rw[cD.mp z];exact gR.empty
 ·rw[bP,d.names,eY,Pp,List.range_succ,bP];rfl
 ·have:=d.size;rw[bP,Q9];simp[ao.size];exact this
theorem Drawn.last(d:Drawn c t i (ps++[p]))(h:gR c p')(hn:p'.name=p.name)(hs:p'.size<=p.size+1)(ht:∀m∈p'.aH,m∈p.aH\/(m.sort=s!"tell" -> ∀q∈ps,∀x∈q.aH,x.sort=s!"tell" -> x.name≠m.name)):Drawn c t (i+1) (ps++[p']):=by
 refine⟨λq hq=>?_,by have:=d.d7;simpa using this,?_,?_,?_⟩
 ·rcases cy.mp hq with z|z
  ·exact d.ok q (lC _ z)
  ·rw[cD.mp z];exact h
 ·have:=d.names;simpa [hn] using this
 ·have:=d.size;rw[bP,Q9]at this ⊢;simp at this ⊢;omega
 ·obtain⟨t1,_,t3⟩:=RW.mp d.tw;refine RW.mpr ⟨t1,by simp,λx hx y hy u hu v hv h1 h2=>?_⟩;rw[cD.mp hy]at hv;rcases ht v hv with z|z
  ·exact t3 x hx p (by simp) u hu v z h1 h2
  ·exact z h2 x hx u hu h1
theorem Drawn.kz(d:Drawn c t i (ps++[p])):p.size<=i:=by
 have:=d.size;rw[bP,Q9]at this;simp at this;omega
theorem P_{ps:List ao}{p:ao}(h:p∈ps):p.size<=(ps.map ao.size).sum:=by
 induction ps with
 |nil=>cases h
 |cons q r ih=>
  rw[lF,List.sum_cons];rcases hZ.mp h with e|e
  ·rw[e];omega
  ·have:=ih e;omega
theorem Drawn.Xe(d:Drawn c t i ps)(h:p∈ps)(hi:i<61):p.aH.length<=61:=by
 have h1:=P_ h;have h2:=d.size;have h3:p.aH.length<=p.size:=by unfold ao.size;omega
 omega
theorem Drawn.keep{c t:Int}{i:Nat}{ps:List ao}(d:Drawn c t i ps):Drawn c t (i+1) ps:=⟨d.ok,d.d7,d.names,Nat.le_succ_of_le d.size,d.tw⟩
theorem gR.MQ(h:gR c p)(hs:lP c s):gR c { p with aP:=p.aP++[s] }:=by
 refine⟨λr hr=>?_,λn hn=>?_,h.nd⟩
 ·rcases cy.mp hr with z|z
  ·exact h.aP r z
  ·rw[cD.mp z];exact hs
 ·obtain⟨a,b,k,r,e,q⟩:=h.aH n hn;exact⟨a,b,k,r,by rw[LD (hV.mp e).1];exact e,q⟩
theorem gR.kO(h:gR c p)(e:p.aP=ss++[s])(hs:lP c s')(hw:s.words.length<=s'.words.length):gR c { p with aP:=ss++[s'] }:=by
 refine⟨λr hr=>?_,λn hn=>?_,h.nd⟩
 ·rcases cy.mp hr with z|z
  ·exact h.aP r (by rw[e];exact lC _ z)
  ·rw[cD.mp z];exact hs
 ·obtain⟨a,b,k,r,g,q1,q2,q3⟩:=h.aH n hn;rw[e]at g;by_cases hk:k<ss.length
  ·rw[LD hk]at g;exact⟨a,b,k,r,by show(ss++[s'])[k]?=some r;rw[LD hk];exact g,q1,q2,q3⟩
  ·rw[LG (by omega)]at g;have hk0:k - ss.length=0:=by
    have:=(hV.mp g).1;simp at this;omega
   rw[hk0]at g;simp at g;subst g;exact⟨a,b,k,s',by show(ss++[s'])[k]?=some s';rw[LG (by omega),hk0];rfl,q1,q2,Int.le_trans q3 (by omega)⟩
theorem gR.told(h:gR c p)(hm:Ew c p.aP m)(hn:m.name∉p.aH.map aj.name):gR c { p with aH:=p.aH++[m] }:=by
 refine⟨h.aP,λn hn=>?_,?_⟩
 ·rcases cy.mp hn with z|z
  ·exact h.aH n z
  ·rw[cD.mp z];exact hm
 ·show((p.aH++[m]).map aj.name).Nodup;rw[bP];refine lD.mpr ⟨h.nd,by simp,λx hx y hy e=>?_⟩;have:y=m.name:=by simpa using hy
  subst this;exact hn (e▸hx)
theorem step_at:∃z:Int,h_ [V.int 1,V.int 1,V.int 2,V.int 4,V.int 16,V.int 65536] (v%6)=some (V.int z)/\(z=1\/z=2\/z=4\/z=16\/z=65536):=by
 have hd:v%6=0\/v%6=1\/v%6=2\/v%6=3\/v%6=4\/v%6=5:=by omega
 rcases hd with e|e|e|e|e|e<;>rw[e]<;>exact⟨_,rfl,by decide⟩
theorem Md:∃z:Str,h_ [V.str s!"code",V.str s!"data"] (v%2)=some (V.str z)/\Gx z:=by
 have hd:v%2=0\/v%2=1:=by omega
 rcases hd with e|e<;>rw[e]
 ·exact⟨_,rfl,.inl rfl⟩
 ·exact⟨_,rfl,.inr rfl⟩
theorem my{p:ao}{ss:List aK}{s:aK}(e:p.aP=ss++[s]):s.words.length+p.aP.length+p.aH.length<p.size:=by
 unfold ao.size;rw[e,bP,Q9];simp;omega
theorem Au{p:ao}{ss:List aK}{s s':aK}(e:p.aP=ss++[s])(h:s'.words.length=s.words.length+1):({ p with aP:=ss++[s'] }:ao).size<=p.size+1:=by
 unfold ao.size;rw[e,bP,Q9,bP,Q9];simp[h];omega
theorem lP.word(h:lP c s)(h1:0<=wd)(h2:wd<4294967296):lP c { s with words:=s.words++[wd] }:=by
 refine⟨h.kind,h.step,λi hi=>?_,λf hf=>?_,h.asc,?_⟩
 ·rcases cy.mp hi with z|z
  ·exact h.words i z
  ·rw[cD.mp z];exact⟨h1,h2⟩
 ·have g:=h.fills f hf;exact⟨g.rule,g.name,g.lo,by have:=g.hi;show f.at_<((s.words++[wd]).length:Int);rw[eY];simp;omega,g.Jr,g.JN,g.soft⟩
 ·have:=h.d7;show s.fills.length<=(s.words++[wd]).length;rw[eY];simp;omega
theorem lP.fill{c:Int}{s:aK}{f:ai}{wd:Int}(h:lP c s)(hf:za c 1 { f with at_:=0 })(ha:f.at_=s.words.length)(h1:0<=wd)(h2:wd<4294967296):lP c { s with fills:=s.fills++[f],words:=s.words++[wd] }:=by
 have w:=h.word h1 h2;refine⟨h.kind,h.step,w.words,λg hg=>?_,?_,?_⟩
 ·rcases cy.mp hg with z|z
  ·exact w.fills g z
  ·rw[cD.mp z];exact⟨hf.rule,hf.name,by omega,by show f.at_<((s.words++[wd]).length:Int);rw[eY];simp;omega,hf.Jr,hf.JN,hf.soft⟩
 ·show(s.fills++[f]).Pairwise _;refine RW.mpr ⟨h.asc,by simp,λg hg y hy=>?_⟩;rw[cD.mp hy,ha];exact(h.fills g hg).hi
 ·have:=h.d7;show(s.fills++[f]).length<=(s.words++[wd]).length;rw[eY,eY];simp;omega
theorem Vi(T:Txt K mg A):aY P w K mg base cF 3 A.SU A.rq ["_law_cells", "_law_names_by", "_law_titles_by", "_law_strict"] (Kb K):=by
 refine T.Cj.ok hJ ?_ ?_;walk_at "k"
 obtain⟨a,ns,c,t,rfl,hS,hl,k⟩:=h
 refine⟨_,(aJ (pS 4 hJ.nd (bx aa)) (aJ (pF (cJ (K:=K) rfl (pv 0)) (pn 5 hJ.nd) (aJ (pS 6 hJ.nd (ax aZ (pv 5) af)) (aX (aO (Bb (u:=Za) (PW.pt (fV (PW.pt (iW (eZ bW (pv 6) af (aB _)) (iE (eZ lB (cG (gj (K:=K) rfl) (by rfl) T.cL b0 (ah (pv 4) aa)) af (aB _))))) (eV (eZ (qD hr.units (K:=K) rfl) (pv 4) (bx aa) (aB _))))) ?wt1) (ia (u:=ZH) (aX (dh (dE (pv 4) (ah (aQ (ah (pC (lA T) hr T.jx T.ix T.iI (ah (pv 2) (ah (cG (gj (K:=K) rfl) (by rfl) T.cL b0 (ah (pv 4) aa)) aa))) (ah (bx aa) (ah (bx aa) aa)))) aa)))) ?wb1) (aX (aO (Bb (u:=Zz) (PW.pt (fV (eZ lB (pv 6) af (aB _)) (eV (eZ (qD hr.units (K:=K) rfl) (tx K (cw (fj (K:=K) rfl) (pv 4) (iK gr af) (λ_ _=>rfl))) (bx aa) (aB _))))) ?wt2) (ia (u:=Zn) (aJ (pS 7 hJ.nd (cw (fj (K:=K) rfl) (bx (ah af (ah af (ah af (ah af (ah af (ah af aa))))))) (ax aZ (ax e8 (pv 5) af) af) (λ_ _=>rfl))) (aX (dh (dE (tx K (cw (fj (K:=K) rfl) (pv 4) (iK gr af) (λ_ _=>rfl))) (ah (aQ (ah (cw (fj (K:=K) rfl) (bx (ah aF (ah aF aa))) (ax aZ (ax e8 (pv 5) af) af) (λ_ _=>rfl)) (ah (pv 7) (ah (bx aa) (ah (bx aa) aa))))) aa))))) ?wb2) (aX (aO (eZ lB (pv 6) af (aB _)) (ia (u:=Zh) (aJ (pS 8 hJ.nd (cw (fj (K:=K) rfl) (tx K (cw (fj (K:=K) rfl) (pv 4) (iK gr af) (λ_ _=>rfl))) (iK gr af) (λ_ _=>rfl))) (aJ (pS 9 hJ.nd (pC (UR T) hr T.Ox T.FL T.E9 (ah (pv 5) (ah (pv 1) aa)))) (aJ (aO (eZ BL (pv 9) fT (aB _)) (aX (dh (dE (tx K (pv 8)) (ah (ax (x8 (K:=K) rfl) (aQ (ah (cG (gj (K:=K) rfl) (by rfl) T.cL b0 (ah (tx K (pv 8)) aa)) aa)) (pv 9)) aa)))) eL) (aX (dh (dE (tx K (pv 8)) (ah (ax aZ (ax fR (pv 5) af) af) aa))))))) ?wb3) (ia (u:=ZA) (aX (dh (pC (SG T) hr T.Nv T.Fm T.Iy (ah (pv 4) (ah (pv 5) (ah (pv 1) (ah (pv 3) aa))))))) ?wb4))))))))) (aX (ay (pv 4))))),?main⟩
 case wt1=>
  rintro σ H R ⟨H0,a,L,c,t,v,i,ps,⟨⟨b7,b8,b9,rfl⟩,sm,hP,hf,hd,hi⟩,k⟩;walk_at "rd";have z:(0:Nat)<=sizeLine:=gH _;have eqd:∀q,H q=none->QY K (V.ref L) (V.ref q) (upd H q (HO.lst [])) λx H'=>∃k,x=V.bl k/\R k H':=λq hq=>by
   refine⟨ps.map ao.d,[],.inl ⟨(hP.mono (a_ hq)).rep,⟨q,[],rfl,aA.of aD,by simp[RepL]⟩⟩,Nat.le_trans (dY λp _=>Jz p) (by decide),_,rfl,k _ _ (a_ hq) (λh=>?_) λh e=>?_⟩
   ·rw[kX]at h;have e:=of_decide_eq_true h;rw[List.map_eq_nil_iff.mp e];decide
   ·rw[kX,e]at h;simp at h
  exact cX (λ_=>⟨ps.length,.inl ⟨_,aA.of hP.top,by simp⟩,cX (λh=>k true H (az.refl _) (λ_=>by have:=of_decide_eq_true h;omega) (λh=>by cases h)) (λ_=>⟨z,eqd⟩)⟩) (λ_=>⟨z,eqd⟩)
 case wt2=>
  rintro σ H R ⟨H0,a,L,c,t,v,i,ps,p,⟨⟨b7,b8,b9,rfl⟩,sm,hP,hf,hd,hi⟩,k⟩;walk_at "rd";have hp:=hP.at_ p (by simp);refine cX (λ_=>k true H (az.refl _) (λh=>by cases h)) (λ_=>⟨_,aA.of hP.top,V.ref p.t,by rw[bP];exact eE,p.t,rfl,_,aS.of hp.top,_,rfl,gH _,λq hq=>?_⟩);refine⟨p.aP.map aK.d,[],.inl ⟨⟨p.ls,_,rfl,aA.of (a_ hq _ _ hp.sl),RepL.map λs hs=>((hp.ss s hs).mono (a_ hq)).rep⟩,⟨q,[],rfl,aA.of aD,by simp[RepL]⟩⟩,Nat.le_trans (dY λp _=>Je p) (by decide),_,rfl,k _ _ (a_ hq) λh e=>?_⟩;rw[kX,e]at h;simp at h
 case wb1=>
  rintro D σ H ⟨H0,a,L,c,t,v,i,ps,⟨⟨b7,b8,b9,rfl⟩,sm,hP,hf,hd,hi⟩,hz,k⟩;walk_at "rd";refine⟨.inl ⟨rfl,_,aA.of hP.top⟩,ps.length,.inl ⟨_,aA.of hP.top,by simp⟩,Nat.zero_le _,λls h1=>⟨Nat.zero_le _,λln h2=>⟨by rw[sizeLine_eq];decide,λtt h3=>?_⟩⟩⟩;obtain⟨n2,h2'⟩:=bJ h2;obtain⟨n3,h3a⟩:=bJ h3;obtain⟨n4,h3'⟩:=bJ h3a;have s3:=((a_ (o:=HO.lst []) h1).trans (a_ (o:=HO.lst []) h2)).trans (a_ (o:=HO.tup [V.str (nameOf t (ps.length:Int)),V.ref ls,V.ref ln]) h3);refine⟨_,s3 _ _ hP.top,by rw[aI,sizeLine_eq];omega,?_⟩;have hL0:=hf L lO;refine k _ _ _ ⟨_,_,_,_,_,rfl⟩ (f7 hL0 (sm.trans s3)) ((hP.mono s3).F6 aD (by rw[ae (Ne.symm n4),ae (Ne.symm n2),aD]) (by rw[ae (Ne.symm n3),aD]) (Ne.symm n2) (hP.fresh h1) (hP.fresh h2')) (λb hb=>?_) (hd.push hz);rw[fZ,<-Tr]at hb;rcases cy.mp hb with e|e
  ·exact hf b e
  ·simp[ao.lists]at e;rcases e with e|e
   ·rw[e];exact sm.free h1
   ·rw[e];exact sm.free h2'
 case wb2=>
  rintro D σ H ⟨H0,a,L,c,t,v,i,ps,p,⟨⟨b7,b8,b9,rfl⟩,sm,hP,hf,hd,hi⟩,k⟩;walk_at "rd";have hp:=hP.at_ p (by simp);have hsz:=hd.kz;obtain⟨z,hz,hz'⟩:=step_at (v:=v/9);obtain⟨kd,hk,hk'⟩:=Md (v:=v/54);refine⟨by rw[sizeLine_eq];decide,λq1 h1=>⟨⟨by decide,by decide⟩,by decide,_,aA.of aD,_,hz,_,aA.of (a_ h1 _ _ hP.top),V.ref p.t,by rw[bP];exact eE,p.t,rfl,_,aS.of (a_ h1 _ _ hp.top),_,rfl,.inl ⟨rfl,_,aA.of (a_ h1 _ _ hp.sl)⟩,by walk_at "s", λq2 h2=>⟨⟨by decide,by decide⟩,by decide,_,aA.of aD,_,hk,gH _,λlw h3=>⟨gH _,λlf h4=>⟨by rw[sizeLine_eq];decide,λtt h5=>⟨p.ls,rfl,?_⟩⟩⟩⟩⟩⟩;have s2:=(a_ (o:=HO.lst [V.int 1,V.int 1,V.int 2,V.int 4,V.int 16,V.int 65536]) h1).trans (a_ (o:=HO.lst [V.str s!"code",V.str s!"data"]) h2);generalize upd (upd H q1 (HO.lst [V.int 1,V.int 1,V.int 2,V.int 4,V.int 16,V.int 65536])) q2 (HO.lst [V.str s!"code",V.str s!"data"])=H2 at *;obtain⟨n4,h4'⟩:=bJ h4;obtain⟨n5,h5a⟩:=bJ h5;obtain⟨n6,h5'⟩:=bJ h5a;have sA:=s2.trans (((a_ (o:=HO.lst []) h3).trans (a_ (o:=HO.lst []) h4)).trans (a_ (o:=HO.tup [V.str kd,V.int z,V.ref lw,V.ref lf]) h5));refine⟨_,sA _ _ hp.sl,by rw[aI,sizeLine_eq];unfold ao.size at hsz;omega,?_⟩;walk_at "2"
  refine k _ _ _ ⟨_,_,_,_,_,rfl⟩ (f7 (hf p.ls (mem _ (by simp[ao.lists]))) (sm.trans sA)) ((hP.mono sA).zK aD (by rw[ae (Ne.symm n6),ae (Ne.symm n4),aD]) (by rw[ae (Ne.symm n5),aD]) (Ne.symm n4) ((hP.mono s2).fresh h3) ((hP.mono s2).fresh h4')) (λb hb=>?_) (hd.last ((hd.ok p (by simp)).MQ ⟨hk',hz',by simp,by simp,by simp,by simp⟩) rfl ?_ λm hm=>.inl hm)
  ·have hb':b∈L::aE (ps++[p])\/b=lw\/b=lf:=by
    rw[fZ]at hb ⊢;simp only[ao.lists,List.flatMap_append,List.mem_cons,List.mem_append,List.flatMap_cons,List.flatMap_nil,aK.lists,List.append_nil,List.not_mem_nil,or_false]at hb ⊢
    grind
   rcases hb' with e|e|e
   ·exact hf b e
   ·rw[e];exact(sm.trans s2).free h3
   ·rw[e];exact(sm.trans s2).free h4'
  ·unfold ao.size;simp;omega
 case wb3=>
  rintro D σ H ⟨H0,a,L,c,t,v,i,ps,p,ss,s,⟨⟨b7,b8,b9,rfl⟩,sm,hP,hf,hd,hi⟩,hs,k⟩;walk_at "rd";have hp:=hP.at_ p (by simp);have hsz:=hd.kz;have hs':=hp.ss s (by rw[hs];simp);have hw:=my hs;walk_at "2";refine⟨_,aA.of hP.top,V.ref p.t,by rw[bP];exact eE,p.t,rfl,_,aS.of hp.top,_,rfl,p.ls,rfl,_,aA.of hp.sl,s.v,by rw[hs,bP];exact eE,λH' s1=>⟨?_,λf hf1 hf2 hf3=>?_⟩⟩
  ·rw[if_neg (by simp)];refine⟨s.t,rfl,_,aS.of (s1 _ _ hs'.top),_,rfl,.inl ⟨rfl,_,aA.of (s1 _ _ hs'.wd)⟩,.inr ⟨by decide,by decide⟩,by decide,s.lw,rfl,_,s1 _ _ hs'.wd,by rw[aI,sizeLine_eq];omega,?_⟩;refine k _ _ _ ⟨_,_,_,_,_,rfl⟩ (f7 (hf _ (mem _ (by simp[ao.lists,hs,aK.lists]))) (sm.trans s1)) ((hP.mono s1).Bw hs) (λb hb=>hf b ?_) (hd.last (gR.kO (hd.ok p (by simp)) hs (((hd.ok p (by simp)).aP s (by rw[hs];simp)).word (by omega) (by omega)) (by simp)) rfl (Au hs (by simp)) λm hm=>.inl hm);rw[fZ]at hb ⊢;simpa [ao.lists,hs,aK.lists] using hb
  ·rw[if_pos (by simp)];refine⟨s.t,rfl,_,aS.of (s1 _ _ hs'.top),_,rfl,.inl ⟨rfl,_,aA.of (s1 _ _ hs'.fl)⟩,s.t,rfl,_,aS.of (s1 _ _ hs'.top),_,rfl,s.words.length,.inl ⟨_,aA.of (s1 _ _ hs'.wd),by simp⟩,by walk_at "s", λq1 h1=>⟨_,aS.of aD,_,aS.of (a_ h1 _ _ hf2),by simp,by rw[sizeLine_eq];simp,λe=>(by cases e),λ_ q2 h2=>⟨s.lf,rfl,?_⟩⟩⟩;have s3:=s1.trans ((a_ (o:=HO.tup [V.int (s.words.length:Int)]) h1).trans (a_ (o:=HO.tup ([V.int (s.words.length:Int)]++[V.str f.rule,V.str f.name,V.int f.add,V.bl f.soft])) h2));have hat:ai.At (upd (upd H' q1 (HO.tup [V.int (s.words.length:Int)])) q2 (HO.tup ([V.int (s.words.length:Int)]++[V.str f.rule,V.str f.name,V.int f.add,V.bl f.soft]))) ⟨q2,s.words.length,f.rule,f.name,f.add,f.soft⟩:=aD;generalize upd (upd H' q1 (HO.tup [V.int (s.words.length:Int)])) q2 (HO.tup ([V.int (s.words.length:Int)]++[V.str f.rule,V.str f.name,V.int f.add,V.bl f.soft]))=H3 at *;have P1:=(hP.mono s3).LX hs hat;have ok:=gR.kO (p:=p) (s':={ s with fills:=s.fills++[⟨q2,s.words.length,f.rule,f.name,f.add,f.soft⟩],words:=s.words++[v*48271%4294967296] }) (hd.ok p (by simp)) hs (lP.fill ((hd.ok p (by simp)).aP s (by rw[hs];simp)) (f:=⟨q2,s.words.length,f.rule,f.name,f.add,f.soft⟩) ⟨hf1.rule,hf1.name,hf1.lo,hf1.hi,hf1.Jr,hf1.JN,hf1.soft⟩ rfl (by omega) (by omega)) (by simp)
   have sz:=Au (p:=p) (s':={ s with fills:=s.fills++[⟨q2,s.words.length,f.rule,f.name,f.add,f.soft⟩],words:=s.words++[v*48271%4294967296] }) hs (by simp);have a1:=(P1.at_ _ (jW _ (cD.mpr rfl))).ss _ (jW _ (cD.mpr rfl));refine⟨_,s3 _ _ hs'.fl,by rw[aI,sizeLine_eq];have:=((hd.ok p (by simp)).aP s (by rw[hs];simp)).d7;omega,s.t,rfl,_,aS.of a1.top,_,rfl,.inl ⟨rfl,_,aA.of a1.wd⟩,.inr ⟨by decide,by decide⟩,by decide,s.lw,rfl,_,a1.wd,by rw[List.length_map,sizeLine_eq];show s.words.length<_;omega,?_⟩;have P2:=P1.Bw (i:=v*48271%4294967296) rfl;refine k (ps++[({ p with aP:=ss++[{ s with fills:=s.fills++[⟨q2,s.words.length,f.rule,f.name,f.add,f.soft⟩],words:=s.words++[v*48271%4294967296] }] }:ao)]) _ _ ⟨_,_,_,_,_,rfl⟩ (f7 (hf _ (mem _ (by simp[ao.lists,hs,aK.lists]))) (f7 (hf _ (mem _ (by simp[ao.lists,hs,aK.lists]))) (sm.trans s3))) (by exact P2) (λb hb=>hf b ?_) (hd.last ok rfl sz λm hm=>.inl hm);rw[fZ]at hb ⊢;simpa [ao.lists,hs,aK.lists] using hb
 case wb4=>
  rintro D σ H ⟨H0,a,L,c,t,v,i,ps,p,ss,s,⟨⟨b7,b8,b9,rfl⟩,sm,hP,hf,hd,hi⟩,hs,k⟩;walk_at "rd";have hsz:=hd.kz;have hw:=my hs;have hfew:=hd.d7;walk_at "2";refine⟨ps,p,hP,ss,s,hs,by simp at hfew;omega,by omega,by omega,by omega,λq hq=>hd.Xe (List.mem_append_left _ hq) hi,λH' s1=>k _ _ _ ⟨_,_,_,_,_,rfl⟩ (sm.trans s1) (hP.mono s1) hf hd.keep,λm H' s1 hm hn hne hso hst hoff htw=>?_⟩;refine k _ _ _ ⟨_,_,_,_,_,rfl⟩ (f7 (hf _ (mem _ (by simp[ao.lists]))) (sm.trans s1)) ((hP.mono s1).M3 hm) (λb hb=>hf b ?_) (hd.last ((hd.ok p (by simp)).told ⟨hn,hso,ss.length,s,by rw[hs];simp,hst,by omega,by omega⟩ hne) rfl ?_ λx hx=>?_)
  ·rw[fZ]at hb ⊢;exact hb
  ·unfold ao.size;simp;omega
  ·rcases cy.mp hx with y|y
   ·exact .inl y
   ·rw[cD.mp y];exact .inr htw
 case main=>
 walk_at "rd";refine⟨by rw[sizeLine_eq];decide,λL hL=>?_⟩;refine eM.of (xs:=ns.map V.int) (λi σ H'=>∃ps b5 b6 b7 b8 b9,σ=[some (V.ref a),some (V.int c),some (V.int t),some (V.bl false),some (V.ref L),b5,b6,b7,b8,b9]/\az H H'/\d0 H' L ps/\(∀b∈L::aE ps,H b=none)/\Drawn c t i ps)
  ⟨[],_,_,_,_,_,rfl,a_ hL,d0.nil aD,by simpa [aE] using hL,⟨by simp,by simp,rfl,by simp,.nil⟩⟩ (λi σ H' _ ⟨_,_,_,_,_,_,_,sm,_⟩=>sm.seq hS) ?_ ?_
 ·rintro i x σ H' hx ⟨ps,b5,b6,b7,b8,b9,rfl,sm,hP,hf,hd⟩;walk_at "0";obtain⟨v,hv,rfl⟩:=fW.mp hx;have hi:i<61:=jF (hV.mp hv).1 hl;walk_at "rd";have dc:DC H a L c t v i ps [some (V.ref a),some (V.int c),some (V.int t),some (V.bl false),some (V.ref L),some (V.int v),some (V.int (v%9)),b7,b8,b9] H':=⟨⟨_,_,_,rfl⟩,sm,hP,hf,hd,hi⟩
  refine⟨by decide,H,a,L,c,t,v,i,ps,dc,λb H1 s1 ht hn=>?_⟩;cases b with
  |true=>exact⟨H,a,L,c,t,v,i,ps,dc.mono s1,ht rfl,λps' σ' H'' ⟨b5,b6,b7,b8,b9,e⟩ s1 s2 s3 s4=>⟨ps',b5,b6,b7,b8,b9,e,s1,s2,s3,s4⟩⟩
  |false=>
   obtain⟨ps0,p,e⟩:∃ps0 p,ps=ps0++[p]:=by
    rcases List.eq_nil_or_concat ps with e|⟨l,x,e⟩
    ·exact absurd e (hn rfl)
    ·exact⟨l,x,by rw[e,List.concat_eq_append]⟩
   subst e;refine⟨H,a,L,c,t,v,i,ps0,p,dc.mono s1,λb H2 s2 hn2=>?_⟩;cases b with
   |true=>exact⟨H,a,L,c,t,v,i,ps0,p,(dc.mono s1).mono s2,λps' σ' H'' ⟨b5,b6,b7,b8,b9,e⟩ s1 s2 s3 s4=>⟨ps',b5,b6,b7,b8,b9,e,s1,s2,s3,s4⟩⟩
   |false=>
    obtain⟨ss,r,e⟩:∃ss r,p.aP=ss++[r]:=by
     rcases List.eq_nil_or_concat p.aP with e|⟨l,x,e⟩
     ·exact absurd e (hn2 rfl)
     ·exact⟨l,x,by rw[e,List.concat_eq_append]⟩
    by_cases h6:v%9<6
    ·rw[if_neg (by decide),if_pos (decide_eq_true h6)];exact⟨H,a,L,c,t,v,i,ps0,p,ss,r,(dc.mono s1).mono s2,e,λps' σ' H'' ⟨b5,b6,b7,b8,b9,e⟩ s1 s2 s3 s4=>⟨ps',b5,b6,b7,b8,b9,e,s1,s2,s3,s4⟩⟩
    ·rw[if_neg (by decide),if_neg (by simpa using h6)];exact⟨H,a,L,c,t,v,i,ps0,p,ss,r,(dc.mono s1).mono s2,e,λps' σ' H'' ⟨b5,b6,b7,b8,b9,e⟩ s1 s2 s3 s4=>⟨ps',b5,b6,b7,b8,b9,e,s1,s2,s3,s4⟩⟩
 ·rintro σ H' ⟨ps,b5,b6,b7,b8,b9,rfl,sm,hP,hf,hd⟩;rw[aI]at hd;walk_at "rd";exact k L ps H' sm hP hf hd
theorem Vh(T:Txt K mg A):aY P w K mg base cF 1 A.Sn A.nu ["_law_piece"] (BR K):=by
 refine T.CP.ok JU ?_ ?_;walk_at "k"
 obtain⟨p,rfl,hp,b1,b2,b3,k⟩:=h;refine⟨_,(aJ (eP (i:=1) JU.nd rfl (by walk_at "o") (kD ["_law_row"]) rfl (cJ (K:=K) rfl (tx K (pv 0))) (λ_ _ _=>⟨(pn 0 (by walk_at "n")),cj,(aQ (ah (tx K (pv 0)) (ah (tx K (pv 0)) (ah (bM (zY (K:=K) rfl) (by rfl) T.eF eO (ah (tx K (pv 0)) aa)) (ah (bM (zY (K:=K) rfl) (by rfl) T.eF eO (ah (tx K (pv 0)) aa)) aa)))))⟩)) (aX (ay (aQ (ah (tx K (pv 0)) (ah (pv 1) (ah (bM (zY (K:=K) rfl) (by rfl) T.eF eO (ah (tx K (pv 0)) aa)) aa))))))),?_⟩;walk_at "rd";refine⟨_,aS.of hp.top,_,rfl,?_⟩;refine dH.of (by rw[aI,sizeLine_eq];omega) (aA.of hp.sl) (λD i ys H'=>∃qs:List aK,ys=qs.map aK.v/\qs.map aK.core=(p.aP.take i).map aK.core/\az H H'/\H' D=some (.lst ys)/\(∀q∈qs,q.At H')/\(∀b∈qs.flatMap aK.lists,H b=none/\b≠D)/\(qs.flatMap aK.lists).Nodup)
  (λD hD=>⟨[],rfl,rfl,a_ hD,aD,by simp,by simp,by simp⟩) ?_ ?_ ?_
 ·rintro D i ys H' hD hi ⟨qs,rfl,hc,sm,hDD,_⟩;refine⟨aA.of (sm _ _ hp.sl),hDD,?_⟩;have e:=congrArg List.length hc;rw[aI,aI]at e;rw[aI,e];exact List.length_take_le ..
 ·rintro D i x ys H' hD hx ⟨qs,rfl,hc,sm,hDD,hat,hnew,hnd⟩;walk_at "0";obtain⟨s,hs,rfl⟩:=fW.mp hx;have hs':=hp.ss s (e7 hs);walk_at "rd";refine⟨.no .nil,_,aS.of (sm _ _ hs'.top),_,rfl,_,aS.of (sm _ _ hs'.top),_,rfl,_,aS.of (sm _ _ hs'.top),_,rfl,s.lw,rfl,_,.inl (aA.of (sm _ _ hs'.wd)),λlw h1=>⟨_,aS.of (a_ h1 _ _ (sm _ _ hs'.top)),_,rfl,s.lf,rfl,_,.inl (aA.of (a_ h1 _ _ (sm _ _ hs'.fl))),λlf h2=>⟨by rw[sizeLine_eq];decide,λt h3=>?_⟩⟩⟩;obtain⟨n2,h2'⟩:=bJ h2;obtain⟨n3,h3a⟩:=bJ h3;obtain⟨n4,h3'⟩:=bJ h3a;have s3:=((a_ (o:=HO.lst (s.words.map V.int)) h1).trans (a_ (o:=HO.lst (s.fills.map ai.v)) h2)).trans (a_ (o:=HO.tup [V.str s.kind,V.int s.step,V.ref lw,V.ref lf]) h3);have e1:upd (upd (upd H' lw (HO.lst (s.words.map V.int))) lf (HO.lst (s.fills.map ai.v))) t (HO.tup [V.str s.kind,V.int s.step,V.ref lw,V.ref lf]) lw=some (HO.lst (s.words.map V.int)):=by rw[ae (Ne.symm n4),ae (Ne.symm n2),aD]
  have e2:upd (upd (upd H' lw (HO.lst (s.words.map V.int))) lf (HO.lst (s.fills.map ai.v))) t (HO.tup [V.str s.kind,V.int s.step,V.ref lw,V.ref lf]) lf=some (HO.lst (s.fills.map ai.v)):=by rw[ae (Ne.symm n3),aD]
  have e3:upd (upd (upd H' lw (HO.lst (s.words.map V.int))) lf (HO.lst (s.fills.map ai.v))) t (HO.tup [V.str s.kind,V.int s.step,V.ref lw,V.ref lf]) t=some (HO.tup [V.str s.kind,V.int s.step,V.ref lw,V.ref lf]):=aD;generalize upd (upd (upd H' lw (HO.lst (s.words.map V.int))) lf (HO.lst (s.fills.map ai.v))) t (HO.tup [V.str s.kind,V.int s.step,V.ref lw,V.ref lf])=H3 at *;have bt:fb H3 (upd H3 D (HO.lst (qs.map aK.v++[V.ref t]))) D:=fb.upd (s3 _ _ hDD);have d1:lw≠D:=Ne.symm (bD hDD h1);have d2:lf≠D:=Ne.symm (bD hDD h2');refine⟨s3 _ _ hDD,qs++[⟨t,lw,lf,s.kind,s.step,s.words,s.fills⟩],by simp,?_,f7 hD (sm.trans s3),aD,λq hq=>?_,λb hb=>?_,?_⟩
  ·rw[bP,hc,jH,hs,bP];rfl
  ·rcases cy.mp hq with z|z
   ·exact((hat q z).mono s3).but bt λy=>(hnew D (g7.mpr ⟨q,z,y⟩)).2 rfl
   ·rw[cD.mp z];exact⟨bt.tup e3,bt.2 _ _ e1 d1,bt.2 _ _ e2 d2,λf hf=>(((hs'.fs f hf).mono sm).mono s3).but bt⟩
  ·rw[LB]at hb;rcases cy.mp hb with z|z
   ·exact hnew b z
   ·simp[aK.lists]at z;rcases z with e|e
    ·rw[e];exact⟨sm.free h1,d1⟩
    ·rw[e];exact⟨sm.free h2',d2⟩
  ·rw[LB];refine lD.mpr ⟨hnd,by simp[aK.lists,Ne.symm n2],λx hx y hy e=>?_⟩;obtain⟨q,hq,hb'⟩:=g7.mp hx;obtain⟨xs,he⟩:=(hat q hq).list hb';simp[aK.lists]at hy;rcases hy with z|z
   ·rw[e,z,h1]at he;cases he
   ·rw[e,z,h2']at he;cases he
 ·rintro D ys H' hD ⟨qs,rfl,hc,sm,hDD,hat,hnew,hnd⟩;rw[aI,iR]at hc;refine⟨_,aS.of (sm _ _ hp.top),_,rfl,_,aS.of (sm _ _ hp.top),_,rfl,p.ln,rfl,_,.inl (aA.of (sm _ _ hp.nl)),λl hl=>⟨by rw[sizeLine_eq];decide,λt ht=>?_⟩⟩;obtain⟨n1,ht'⟩:=bJ ht;have s2:=(a_ (o:=HO.lst (p.aH.map aj.v)) hl).trans (a_ (o:=HO.tup [V.str p.name,V.ref D,V.ref l]) ht);have nl:∀b∈qs.flatMap aK.lists,b≠l/\b≠t:=λb hb=>by
   obtain⟨q,hq,hb'⟩:=g7.mp hb;obtain⟨xs,e⟩:=(hat q hq).list hb';exact⟨bD e hl,bD e ht'⟩
  refine k ⟨t,D,l,p.name,qs,p.aH⟩ _ (sm.trans s2) ⟨aD,s2 _ _ hDD,by rw[ae (Ne.symm n1),aD],λq hq=>(hat q hq).mono s2,λn hn=>((hp.ns n hn).mono sm).mono s2⟩ ⟨rfl,rfl,hc⟩ (λb hb=>?_) ?_
  ·simp only[ao.lists,List.mem_cons]at hb;rcases hb with e|e|e
   ·rw[e];exact hD
   ·rw[e];exact sm.free hl
   ·exact(hnew b e).1
  ·show(D::l::qs.flatMap aK.lists).Nodup;refine jB.mpr ⟨λz=>?_,jB.mpr ⟨λz=>(nl l z).1 rfl,hnd⟩⟩;rcases hZ.mp z with e|e
   ·exact bD hDD hl e
   ·exact(hnew D e).2 rfl
theorem B6(T:Txt K mg A):aY P w K mg base cF 1 A.Sm A.nT ["number"] OX:=by
 refine T.Ap.ok OV ?_ ?_;walk_at "k"
 obtain⟨c,rfl,k⟩:=h;refine⟨_,(aX (ay (ax aZ (pv 0) (A9 rfl T.BS WV)))),?_⟩;walk_at "rd";exact⟨by decide,k⟩
theorem Gh(h:u<0):n/2 ^ (-u).toNat=K3.dF n u:=by
 rw[<-K3.zi h,Int.fdiv_eq_ediv_of_nonneg _ (Int.le_of_lt (K3.pow_pos _))]
theorem Ct(T:Txt K mg A):aY P w K mg base cF 1 A.moved A.iw ["number", "up"] K9:=by
 refine T.jU.ok Gi ?_ ?_;walk_at "k"
 obtain⟨n,u,rfl,h1,h2,h3,k⟩:=h;refine⟨_,(aJ (aO (eZ lB (pv 1) af (aB _)) (aX (ay (ax QM (pv 0) (iK gr (pv 1))))) eL) (aX (ay (ax JI (pv 0) (pv 1))))),?_⟩;walk_at "rd";refine cX (λh=>?_) (λh=>?_)
 ·have h:=of_decide_eq_true h;rw[<-Gh h]at k;exact⟨by omega,k⟩
 ·have h:¬u<0:=of_decide_eq_false (by simpa using h);rw[<-K3.Jf h]at k;exact⟨⟨by omega,by omega,by omega⟩,k⟩
theorem H_(T:Txt K mg A):aY P w K mg base cF 1 A.ones A.jZ ["many"] Mt:=by
 refine T.tD.ok Mp ?_ ?_;walk_at "k"
 obtain⟨m,rfl,h1,h2,k⟩:=h;refine⟨_,(aX (ay (ax kA (ax JI af (cG (C8 rfl) (by rfl) T.CU QI (ah (pv 0) (ah af aa)))) af))),?_⟩;walk_at "rd";rw[<-K3.MB (k:=if 0>m then 0 else m) (by split<;>omega)]at k;exact⟨⟨by split<;>omega,by split<;>omega,by decide⟩,k⟩
theorem Ln(x:Int){y:Int}(hy:0<=y):0<=Builtin.bitAnd x y/\Builtin.bitAnd x y<=y:=by
 open PySem PySem.W PySem.Calls PyProof.Rows in exact bitAnd_range x hy
theorem Ou(T:Txt K mg A):aY P w K mg base cF 2 A.SH A.nA ["word", "low", "many", "number"] LO:=by
 refine T.A8.ok Il ?_ ?_;walk_at "k"
 obtain⟨a,l,m,n,rfl,h1,h2,h3,h4,h5,h6,k⟩:=h;refine⟨_,(aJ (pS 4 Il.nd (ax Ji (pv 0) (iK Pb (pC (Ct T) hr T.pI T.jO T.jT (ah (pC (H_ T) hr T.zT T.vq T.oX (ah (pv 2) aa)) (ah (pv 1) aa)))))) (aX (ay (pC (B6 T) hr T.yM T.mS T.mL (ah (ax Uv (pv 4) (pC (Ct T) hr T.pI T.jO T.jT (ah (ax Ji (pv 3) (pC (H_ T) hr T.zT T.vq T.oX (ah (pv 2) aa))) (ah (pv 1) aa)))) aa))))),?_⟩;walk_at "rd";have o1:=K3.zP m (by omega);have o2:=Ln n o1.1;have e:=K3.LP (w:=a) (l:=l) (m:=m) (n:=n) rfl h1 h2 h3 h5 h6;rw[VI _ (by decide)]at e;rw[<-e]at k;exact⟨by omega,by omega,o1.1,by omega,by omega,by omega,by omega,o2.1,by omega,by omega,k⟩
theorem Nf(T:Txt K mg A){C:Addr}(h:RC A C):xw K C/\bf K C "title" := by
 rcases h with e|e|e<;>subst e
 ·exact⟨T.Af,T.fL⟩
 ·exact⟨T.rJ,T.eU⟩
 ·exact⟨T.zB,T.fN⟩
theorem HJ(T:Txt K mg A):aY P w K mg base cF 1 A.Pg A.vc ["self", "title"] (IH A):=by
 refine T.AD.ok OS ?_ ?_;walk_at "k"
 obtain⟨p,dx,C,x,rfl,hp,hC,k⟩:=h;refine⟨_,(aX (cA (pv 0) (pv 1) rfl)),?_⟩;walk_at "rd";exact⟨C,dx,[],hp,(Nf T hC).1,(Nf T hC).2,by decide,k⟩
theorem Hu(T:Txt K mg A):aY P w K mg base cF 4 A.Vk A.sX ["title"] (MU A):=by
 refine T.Bu.ok Qn ?_ ?_;walk_at "k"
 obtain⟨z,rfl,hz,k⟩:=h;refine⟨_,(aJ (aO (eZ bW (pv 0) aF (aB _)) (aX (ay (gJ T.Lz (HJ T) (hr.mono (by decide)) rfl T.G3 T.ye .nil dB (ah (pv 0) aa)))) eL) (aJ (aO (eZ bW (pv 0) aF (aB _)) (aX (ay (gJ T.Ao (HJ T) (hr.mono (by decide)) rfl T.B5 T.ye .nil dB (ah (pv 0) aa)))) eL) (aJ (aO (eZ bW (pv 0) aF (aB _)) (aX (ay (gJ T.HP (HJ T) (hr.mono (by decide)) rfl T.KA T.ye .nil dB (ah (pv 0) aa)))) eL) (aJ (aO (eZ bW (pv 0) aF (aB _)) (aX cB) eL) (aJ (aO (eZ bW (pv 0) aF (aB _)) (aX cB) eL) (aX cB)))))),?_⟩;walk_at "rd";have go:∀C,RC A C->Yt A z C->∀(x dx:Addr),H x=none->H dx=none->dx≠x->
   ∃x_1 x_2,upd (upd H dx (HO.own x)) x (HO.ins C dx []) x=some (HO.ins x_2 x_1 [])/\RC A x_2/\Q (V.ref x) (upd (upd (upd H dx (HO.own x)) x (HO.ins C dx [])) x (HO.ins x_2 x_1 [(s!"title", V.str z)])):=by
  intro C hC hc x dx hx hd hne;refine⟨dx,C,aD,hC,k C hc x _ (λb o e=>?_) ⟨dx,aD⟩⟩;rw[ae (bD e hx),ae (bD e hx),ae (bD e hd)];exact e
 refine cX (λh=>?_) (λh=>?_)
 ·have h:=of_decide_eq_true h;exact go _ (.inl rfl) (.inl ⟨h,rfl⟩)
 have h1:¬z=s!"whole" := by simpa using h
 refine cX (λh=>?_) (λh=>?_)
 ·have h:=of_decide_eq_true h;exact go _ (.inr (.inl rfl)) (.inr (.inl ⟨h,rfl⟩))
 have h2:¬z=s!"high" := by simpa using h
 refine cX (λh=>?_) (λh=>?_)
 ·have h:=of_decide_eq_true h;exact go _ (.inr (.inr rfl)) (.inr (.inr ⟨h,rfl⟩))
 have h3:¬z=s!"low" := by simpa using h
 exact(hz.elim h1 λx=>x.elim h2 h3).elim
theorem SF(T:Txt K mg A):aY P w K mg base cF 2 A.Ub A.uz ["self", "word", "here", "there"] MN:=by
 refine T.Am.ok Qb ?_ ?_;walk_at "k"
 obtain⟨v,a,h,t,rfl,k⟩:=h;refine⟨_,(aX (ay (pC (B6 T) hr T.yM T.mS T.mL (ah (pv 3) aa)))),?_⟩;walk_at "rd";exact k
theorem RO(T:Txt K mg A):aY P w K mg base cF 3 A.S_ A.ve ["self", "word", "here", "there"] LY:=by
 refine T.An.ok OF ?_ ?_;walk_at "k"
 obtain⟨v,a,h,t,rfl,h1,h2,k⟩:=h;refine⟨_,(aX (ay (pC (Ou T) hr T.Iq T.BM T.B2 (ah (pv 1) (ah af (ah af (ah (ax e8 (ax cH (pv 3) af) af) aa))))))),?_⟩;walk_at "rd";exact⟨⟨by decide,by decide⟩,h1,h2,by decide,by decide,by decide,by decide,k⟩
theorem Vm(T:Txt K mg A):aY P w K mg base cF 3 A.RB A.qz ["self", "word", "here", "there"] Mc:=by
 refine T.Bi.ok Qc ?_ ?_;walk_at "k"
 obtain⟨v,a,h,t,rfl,h1,h2,k⟩:=h;refine⟨_,(aX (ay (pC (Ou T) hr T.Iq T.BM T.B2 (ah (pv 1) (ah af (ah af (ah (pv 3) aa))))))),?_⟩;walk_at "rd";exact⟨h1,h2,by decide,by decide,by decide,by decide,k⟩
theorem j_:∀{a b:List Str},a.Nodup->b.Nodup->(∀x,x∈a↔x∈b)->a.Perm b
 |[],b,_,_,h=>by
  have:b=[]:=List.eq_nil_iff_forall_not_mem.mpr λx hx=>by simpa using (h x).mpr hx
  rw[this]
 |x::a,b,ha,hb,h=>by
  have hx:x∈b:=(h x).mp (.head _);refine((j_ (jB.mp ha).2 (hb.erase x) λy=>?_).cons x).trans (List.perm_cons_erase hx).symm;rw[hb.mem_erase_iff];constructor
  ·intro hy;exact⟨λe=>(jB.mp ha).1 (e▸hy),(h y).mp (.tail _ hy)⟩
  ·rintro⟨ne,hy⟩;exact(hZ.mp ((h y).mpr hy)).resolve_left ne
theorem O_(W:List Str)(y:Str):putK (W.map jJ) (.inr y) (.bl true)=(addW W y).map jJ:=by
 unfold putK addW;have e:((W.map jJ).any λkv=>decide (kv.1=(.inr y:Key)))=decide (y∈W):=by
  rw[Nm,QC,Ci,decide_eq_true_eq];constructor
  ·rintro⟨z,hz,q⟩;have:z=y:=by simpa [jJ] using q
   exact this▸hz
  ·intro hy;exact⟨y,hy,by simp[jJ]⟩
 rw[e];by_cases m:y∈W
 ·rw[if_pos (decide_eq_true m),if_pos m,fX];refine M4 λz hz=>?_;by_cases q:z=y
  ·simp[jJ,q]
  ·simp[jJ,q]
 ·rw[if_neg (by simpa using m),if_neg m,List.map_append];rfl
theorem F9(W:List Str)(y:Str):(addW W y).length<=W.length+1:=by
 unfold addW;split
 ·omega
 ·simp
theorem Lv(p:ao)(W:List Str)(f:ai):(ip p W f).length<=W.length+1:=by
 unfold ip;split
 ·exact F9 W f.name
 ·omega
theorem kG(p:ao):∀(fs:List ai) (W:List Str),(fs.foldl (ip p) W).length<=W.length+fs.length
 |[],W=>by simp
 |f::fs,W=>by
  have h1:=kG p fs (ip p W f);have h2:=Lv p W f;rw[List.foldl_cons,zS];omega
theorem wm(h:¬(!f.soft && !eX p f.name)=true):ip p W f=W:=if_neg h
theorem yo(h:(!f.soft && !eX p f.name)=true):ip p W f=addW W f.name:=if_pos h
theorem Dn(hc:X.calm=true){w:World}(ew:X.w=w){K:Wf}(e:X.K=K):dA X (.type "set") (Uq w K):=ew▸e▸Ir hc
theorem lM(hc:X.calm=true){w:World}(ew:X.w=w):dA X (.builtin "sorted") (xO w):=ew▸oo hc
theorem Ag(h:(p.aH.map aj.name).Nodup):(gY p).Nodup:=List.Nodup.sublist (List.Sublist.map _ List.filter_sublist) h
theorem J3(e:ms.map (λm=>(m.name,m.a,m.b,m.c))=(p.aH.filter λn=>decide (n.sort=s!"own")).map (λn=>(n.name,p.name,n.st,n.off)))(z:Str):(ar ms z).isSome=eX p z:=by
 have e1:ms.map aq.name=(p.aH.filter λn=>decide (n.sort=s!"own")).map aj.name:=by
  have h:=congrArg (List.map (·.1)) e;rw[fX,fX]at h;exact h
 have a:(ar ms z).isSome=decide (z∈ms.map aq.name):=by
  unfold ar;rw[QC,List.find?_isSome,decide_eq_true_eq];constructor
  ·rintro⟨m,hm,q⟩;exact bI.mpr ⟨m,hm,of_decide_eq_true q⟩
  ·intro h;obtain⟨m,hm,q⟩:=bI.mp h;exact⟨m,hm,decide_eq_true q⟩
 rw[a,e1];unfold eX;rw[QC,decide_eq_true_eq,Ci];constructor
 ·intro h;obtain⟨n,hn,q⟩:=bI.mp h;obtain⟨h1,h2⟩:=N1.mp hn;exact⟨n,h1,by rw[lW];exact⟨decide_eq_true q,h2⟩⟩
 ·rintro⟨n,hn,q⟩;rw[lW]at q;exact bI.mpr ⟨n,N1.mpr ⟨hn,q.2⟩,of_decide_eq_true q.1⟩
theorem TH(W:List Str):List.map (λx=>x.fst) (W.map jJ)=W.map Sum.inr:=by rw[fX];rfl
theorem LV(h:(!decide (V.str z=V.str s!"own"))=true):z≠cU:=λe=>by
 rw[e]at h;exact absurd h (by simp[cU])
theorem Qz(h:¬(!decide (V.str z=V.str s!"own"))=true):z=cU:=by
 have q:V.str z=V.str s!"own":=by simpa using h
 injection q
theorem y_{p:ao}{i:Nat}{st:aK}(h:p.aP[i]?=some st):aV (p.aP.take (i+1))=aV (p.aP.take i)++st.fills:=by
 unfold aV;rw[jH,h,LB];simp
theorem EN{p:ao}(i:Nat):(aV (p.aP.take i)).length<=(aV p.aP).length:=by
 have h:aV p.aP=aV (p.aP.take i)++aV (p.aP.drop i):=by
  unfold aV;rw[<-LB,List.take_append_drop]
 rw[h,eY];omega
theorem A7(T:Txt K mg A):aY P w K mg base cF 1 A.Vq A.qp ["piece", "told_by"] DI:=by
 refine T.CA.ok jd ?_ ?_;walk_at "k"
 obtain⟨p,z,rfl,hp,hf,hd,k⟩:=h;refine⟨_,(aJ (pS 2 jd.nd cg) (aJ (pF (cJ (K:=K) rfl (tx K (pv 0))) (bV (K:=K) (n:=4) rfl rfl (dC (pn 3 jd.nd) (dC (pn 4 jd.nd) (dC (pn 5 jd.nd) (dC (pn 6 jd.nd) bY))))) (aX (aO (eZ bW (pv 4) (pv 1) (aB _)) (aX (cT (bC hr) (pv 2) (pv 3) (aQ (ah (tx K (pv 0)) (ah (pv 5) (ah (pv 6) aa)))) rfl)) eL))) (aX (ay (pv 2))))),?_⟩;walk_at "rd";intro d hdn;refine⟨_,aS.of (a_ hdn _ _ hp.top),_,rfl,?_⟩;refine eM.of (xs:=p.aH.map aj.v) (λi σ H'=>∃ms b3 b4 b5 b6,σ=[some p.v,some (V.str z),some (V.ref d),b3,b4,b5,b6]/\az H H'/\Tab H' d ms/\ms.map (λm=>(m.name,m.a,m.b,m.c))=((p.aH.take i).filter λn=>decide (n.sort=z)).map (λn=>(n.name,p.name,n.st,n.off)))
  ⟨[],_,_,_,_,rfl,a_ hdn,⟨aD,by simp⟩,rfl⟩ (λi σ H' _ ⟨_,_,_,_,_,_,sm,_⟩=>aA.of (sm _ _ hp.nl)) ?_ ?_
 ·rintro i x σ H' hx ⟨ms,b3,b4,b5,b6,rfl,sm,tab,e⟩;walk_at "0";obtain⟨n,hn,rfl⟩:=fW.mp hx;have na:=sm _ _ (hp.ns n (e7 hn));have tk:(p.aH.take (i+1))=p.aH.take i++[n]:=by rw[jH,hn];rfl
  have hnew:n.name∉ms.map aq.name:=by
   have e1:ms.map aq.name=((p.aH.take i).filter λn=>decide (n.sort=z)).map aj.name:=by
    have:=congrArg (List.map (·.1)) e;rw[fX,fX]at this;exact this
   rw[e1];intro h;obtain⟨n',h1,h2⟩:=bI.mp h;have h3:=(N1.mp h1).1;have nd:((p.aH.take (i+1)).map aj.name).Nodup:=List.Nodup.sublist (List.Sublist.map _ (TK _ _)) hd;rw[tk,bP]at nd;exact(lD.mp nd).2.2 n'.name (bI.mpr ⟨n',h3,rfl⟩) n.name (by simp) h2
  have hlen:ms.length<=61:=by
   have:=congrArg List.length e;walk_at "3";have h1:=OH (λn:aj=>decide (n.sort=z)) (p.aH.take i);have h2:=List.length_take_le i p.aH;have h3:(p.aH.take i).length<=p.aH.length:=by rw[p_];omega
   omega
  walk_at "rd";refine⟨_,aS.of na,rfl,_,_,rfl,_,_,rfl,_,_,rfl,_,_,rfl,rfl,rfl,cX (λhz=>?_) (λhz=>?_)⟩
  ·have hz':n.sort=z:=by
    have:=of_decide_eq_true hz;injection this
   refine⟨_,aS.of (sm _ _ hp.top),_,rfl,by walk_at "s", λq hq=>⟨_,dG.k (k:=Sum.inr n.name) (a_ hq _ _ tab.top) (by rw[aI,sizeLine_eq];omega),f7 hdn (sm.trans (a_ hq)),_,(tab.mono (a_ hq)).put (m:=⟨n.name,q,p.name,n.st,n.off⟩) aD,?_⟩⟩;rw[IU hnew,bP,e,tk,List.filter_append,bP];simp[hz']
  ·have hz':n.sort≠z:=λy=>hz (decide_eq_true (by rw[y]));refine⟨sm,ms,tab,?_⟩;rw[tk,List.filter_append,e];simp[hz']
 ·rintro σ H' ⟨ms,b3,b4,b5,b6,rfl,sm,tab,e⟩;walk_at "1";walk_at "rd";exact k d ms H' sm tab e hdn
theorem MJ(T:Txt K mg A):aY P w K mg base cF 2 A.tells A.iD ["piece"] K4:=by
 refine T.j3.ok Kq ?_ ?_;walk_at "k"
 obtain⟨p,rfl,hp,hb,k⟩:=h;refine⟨_,(aX (ay (cG (lM rfl (w:=w) rfl) (by rfl) T.d_ nh (ah (bM (Dn rfl (w:=w) rfl (K:=K) rfl) (by rfl) T.AA O1 (ah (fH (kD ["name", "sort", "stretch", "offset"]) rfl (cJ (K:=K) rfl (tx K (pv 0))) (λ_ _ _=>⟨(bV (K:=K) (n:=4) rfl rfl (dC (pn 0 (by walk_at "n")) (dC (pn 1 (by walk_at "n")) (dC (pn 2 (by walk_at "n")) (dC (pn 3 (by walk_at "n")) bY))))),(BO (eZ AG (pv 1) aF (aB _))),(pv 0)⟩)) aa)) aa)))),?_⟩;walk_at "rd";refine⟨_,aS.of hp.top,_,rfl,?_⟩;refine dH.of (xs:=p.aH.map aj.v) (by rw[aI,sizeLine_eq];have:=hb.nm;omega) (aA.of hp.nl) (λD i ys H'=>az H H'/\H' D=some (.lst ys)/\ys=(((p.aH.take i).filter λn=>decide (n.sort≠cU)).map aj.name).map V.str)
  (λD hD=>⟨a_ hD,aD,rfl⟩) ?_ ?_ ?_
 ·rintro D i ys H' hD hi ⟨sm,hDD,e⟩;refine⟨sm.seq (aA.of hp.nl),hDD,?_⟩;rw[e,aI,aI];exact jt (OH _ _) (by rw[p_];omega)
 ·rintro D i x ys H' hD hx ⟨sm,hDD,e⟩;walk_at "0";obtain⟨n,hn,rfl⟩:=fW.mp hx;have na:=sm _ _ (hp.ns n (e7 hn));have tk:(p.aH.take (i+1))=p.aH.take i++[n]:=by rw[jH,hn];rfl
  walk_at "rd";refine⟨_,aS.of na,rfl,_,_,rfl,_,_,rfl,_,_,rfl,_,_,rfl,rfl,.no (.no (.no (.no .nil))),rfl,cX (λh=>?_) (λh=>?_)⟩
  ·have hz:=LV h;refine⟨hDD,f7 hD sm,aD,?_⟩;rw[e,tk,List.filter_append,bP,bP];simp[hz]
  ·have hz:=Qz h;refine⟨sm,hDD,?_⟩;rw[e,tk,List.filter_append];simp[hz]
 ·rintro D ys H' hD ⟨sm,hDD,e⟩;walk_at "1";have hle:(gY p).length<=61:=by
   unfold gY;rw[aI];exact jt (OH _ _) hb.nm
  refine⟨D,rfl,gY p,aA.of (by rw[hDD,e];rfl),by omega,λq L hq nd hL hm=>⟨L,aD,by omega,λl ss hl pm pw=>?_⟩⟩;have s2:=sm.trans (a_ (o:=zy w L q) hq);exact k l _ (s2.trans (a_ hl)) ⟨ss,pm.trans (j_ nd (Ag hb.nd) hm),pw,aD⟩ (cC s2 hl)
theorem MT(T:Txt K mg A):aY P w K mg base cF 2 A.wants A.ik ["piece"] KP:=by
 refine T.j0.ok bQ ?_ ?_;walk_at "k"
 obtain⟨p,rfl,hp,hb,k⟩:=h;refine⟨_,(aJ (pS 1 bQ.nd (pC (A7 T) hr T.yN T.m_ T.mO (ah (pv 0) (ah aF aa)))) (aJ (pS 2 bQ.nd cg) (aJ (pF (cJ (K:=K) rfl (tx K (pv 0))) (bV (K:=K) (n:=4) rfl rfl (dC (pn 3 bQ.nd) (dC (pn 4 bQ.nd) (dC (pn 5 bQ.nd) (dC (pn 6 bQ.nd) bY))))) (aX (pF (cJ (K:=K) rfl (pv 6)) (bV (K:=K) (n:=5) rfl rfl (dC (pn 7 bQ.nd) (dC (pn 8 bQ.nd) (dC (pn 9 bQ.nd) (dC (pn 10 bQ.nd) (dC (pn 11 bQ.nd) bY)))))) (aX (aO (PW.pt (iW (de (bU (pv 11))) (iE (gc (e_ (bC hr) (pv 9) (pv 1)))))) (aX (cT (bC hr) (pv 2) (pv 9) dy rfl)) eL))))) (aX (ay (cG (vI rfl) (by rfl) T.d_ nh (ah (pv 2) aa))))))),?_⟩;walk_at "rd";refine⟨p,rfl,hp,hb.nm,hb.nd,λdO ms H1 s1 tab eo hdO d hd=>⟨_,aS.of (a_ hd _ _ (s1 _ _ hp.top)),_,rfl,?_⟩⟩;have p1:=hp.mono s1;refine eM.of (xs:=p.aP.map aK.v) (λi σ H'=>∃b3 b4 b5 b6 b7 b8 b9 b10 b11,σ=[some p.v,some (V.ref dO),some (V.ref d),b3,b4,b5,b6,b7,b8,b9,b10,b11]/\az H1 H'/\H' d=some (.dK (((aV (p.aP.take i)).foldl (ip p) []).map jJ)))
  ⟨_,_,_,_,_,_,_,_,_,rfl,a_ hd,aD⟩ (λi σ H' _ ⟨_,_,_,_,_,_,_,_,_,_,sm,_⟩=>aA.of (sm _ _ p1.sl)) ?_ ?_
 ·rintro i x σ H' hx ⟨b3,b4,b5,b6,b7,b8,b9,b10,b11,rfl,sm,hd'⟩;walk_at "0";obtain⟨st,hst,rfl⟩:=fW.mp hx;have sa0:=p1.ss st (e7 hst);have sa:=sa0.mono sm;have tk:=y_ hst;have bd:=EN (p:=p) (i+1);have bd2:=hb.fl;rw[tk,eY]at bd;walk_at "rd";refine⟨_,aS.of sa.top,rfl,_,_,rfl,_,_,rfl,_,_,rfl,_,_,rfl,rfl,?_⟩;refine eM.of (xs:=st.fills.map ai.v) (λj σ H2=>∃b7 b8 b9 b10 b11,σ=[some p.v,some (V.ref dO),some (V.ref d),some (V.str st.kind),some (V.int st.step),some (V.ref st.lw),some (V.ref st.lf),b7,b8,b9,b10,b11]/\az H1 H2/\H2 d=some (.dK (((aV (p.aP.take i)++st.fills.take j).foldl (ip p) []).map jJ)))
   ⟨_,_,_,_,_,rfl,sm,by rw[hd'];simp⟩ (λj σ H' _ ⟨_,_,_,_,_,_,sm,_⟩=>aA.of (sm _ _ sa0.fl)) ?_ ?_
  ·rintro j x σ H2 hx ⟨b7,b8,b9,b10,b11,rfl,sm2,hd2⟩;walk_at "0";obtain⟨f,hf,rfl⟩:=fW.mp hx;have fa:=sm2 _ _ (sa0.fs f (e7 hf));have tb:=tab.mono sm2;have hj:j<st.fills.length:=(hV.mp hf).1;have gO:bT H2 dO (V.str f.name) ((ar ms f.name).map λm=>V.ref m.t):=by rw[<-kN];exact bT.k (k:=Sum.inr f.name) tb.top
   have tj:aV (p.aP.take i)++st.fills.take (j+1)=(aV (p.aP.take i)++st.fills.take j)++[f]:=by rw[jH,hf,N5];rfl
   have ow:=J3 eo f.name;have flen:((aV (p.aP.take i)++st.fills.take j).foldl (ip p) []).length<=61:=by
    have h1:=kG p (aV (p.aP.take i)++st.fills.take j) [];rw[eY,p_,List.length_nil]at h1;omega
   have step:(aV (p.aP.take i)++st.fills.take (j+1)).foldl (ip p) []=ip p ((aV (p.aP.take i)++st.fills.take j).foldl (ip p) []) f:=by rw[tj,Rq];rfl
   walk_at "rd";refine⟨_,aS.of fa,rfl,_,_,rfl,_,_,rfl,_,_,rfl,_,_,rfl,_,_,rfl,rfl,_,rfl,cX (λh1=>⟨_,gO,cX (λh2=>?_) (λh2=>?_)⟩) (λh1=>?_)⟩
   ·rw[Ro,ow]at h2;refine⟨_,dG.k (k:=Sum.inr f.name) hd2 (by rw[aI,sizeLine_eq];omega),f7 hd sm2,?_⟩;rw[aD,O_,step,yo (by rw[h1,h2];rfl)]
   ·rw[Ro,ow]at h2;refine⟨sm2,?_⟩;rw[hd2,step];rw[wm (by rw[lW];exact λz=>h2 z.2)]
   ·refine⟨sm2,?_⟩;rw[hd2,step];rw[wm (by rw[lW];exact λz=>h1 z.1)]
  ·rintro σ H2 ⟨b7,b8,b9,b10,b11,rfl,sm2,hd2⟩;rw[aI,iR]at hd2;exact⟨_,_,_,_,_,_,_,_,_,rfl,sm2,by rw[hd2,tk]⟩
 ·rintro σ H' ⟨b3,b4,b5,b6,b7,b8,b9,b10,b11,rfl,sm,hd'⟩;rw[aI,iR]at hd';have hle:(yQ p).length<=61:=jt (kG p _ []) (by have:=hb.fl;simpa using this);walk_at "rd";have s2:=s1.trans sm;exact⟨_,hd',yQ p,TH _,by omega,λl ss hl pm pw=>k l _ (s2.trans (a_ hl)) ⟨ss,pm,pw,aD⟩ (cC s2 hl)⟩
theorem Pa{β:Type}{es:List (Str×Addr×β)}{z:Str}(h:z∉es.map (·.1)):bj (es.map λe=>((.inr e.1:Key),V.ref e.2.1)) (.inr z)=none:=by
 unfold bj;rw[Nl.mpr]
 ·rfl
 ·intro x hx;obtain⟨e,he,rfl⟩:=bI.mp hx;intro q;exact h (bI.mpr ⟨e,he,Sum.inr.inj (of_decide_eq_true q)⟩)
theorem F4{β:Type}{es:List (Str×Addr×β)}{z:Str}{v:V}(h:z∉es.map (·.1)):putK (es.map λe=>((.inr e.1:Key),V.ref e.2.1)) (.inr z) v=(es.map λe=>((.inr e.1:Key),V.ref e.2.1))++[(.inr z,v)]:=by
 unfold putK;rw[if_neg];intro q;obtain⟨x,hx,q⟩:=Ci.mp q;obtain⟨e,he,rfl⟩:=bI.mp hx;exact h (bI.mpr ⟨e,he,Sum.inr.inj (of_decide_eq_true q)⟩)
theorem O6{kvs:List (Key×V)}{k:Key}{v:V}(h:(k,v)∈kvs):∃v',bj kvs k=some v'/\(k,v')∈kvs:=by
 unfold bj;cases hf:kvs.find? λkv=>decide (kv.1=k) with
 |none=>exact absurd (decide_eq_true (rfl:k=k)) (Nl.mp hf (k,v) h)
 |some x=>
  have h1:=List.find?_some hf;have h2:=BZ hf;refine⟨x.2,rfl,?_⟩;rw[<-(of_decide_eq_true h1:x.1=k)];exact h2
def zF(H:Hp)(b:Addr):Str:=match H b with | some (.tup (.str n::_))=>n | _=>s!""
def rF(H:Hp)(b:Addr):List V:=match H b with | some (.tup (.str _::r))=>r | _=>[]
theorem Gf(at_:∀p∈ps,p.At H)(nd:(ps.map ao.name).Nodup)(pm:bs.Perm (ps.map ao.t)):∃so:List ao,so.Perm ps/\so.map ao.t=bs:=by
 have one:∀p∈ps,∀q∈ps,p.t=q.t->p=q:=λp hp q hq e=>by
  have h1:=(at_ p hp).top;have h2:=(at_ q hq).top;rw[e,h2]at h1;have en:q.name=p.name:=by
   have:=Option.some.inj h1;injection this with this;injection this with this _;injection this
  obtain⟨i,hi,rfl⟩:=B7 hp;obtain⟨j,hj,rfl⟩:=B7 hq;have pw:=MW.mp nd;rcases Rl i j with z|z|z
  ·exact absurd (by rw[Ea,Ea];exact en.symm) (pw i j (by simpa using hi) (by simpa using hj) z)
  ·subst z;rfl
  ·exact absurd (by rw[Ea,Ea];exact en) (pw j i (by simpa using hj) (by simpa using hi) z)
 let g:Addr->ao:=λb=>(ps.find? λp=>decide (p.t=b)).getD ⟨0,0,0,s!"", [],[]⟩
 have hg:∀p∈ps,g p.t=p:=λp hp=>by
  show(ps.find? λq=>decide (q.t=p.t)).getD _=p;cases hf:ps.find? λq=>decide (q.t=p.t) with
  |none=>exact absurd (decide_eq_true rfl) (Nl.mp hf p hp)
  |some q=>exact(one p hp q (BZ hf) (of_decide_eq_true (List.find?_some (p:=λq:ao=>decide (q.t=p.t)) hf)).symm).symm
 refine⟨bs.map g,?_,?_⟩
 ·have:=pm.map g;rw[fX,(M4 (f:=g ∘ ao.t) (g:=id) λp hp=>hg p hp),List.map_id]at this;exact this
 ·rw[fX];refine(M4 (g:=id) λb hb=>?_).trans (List.map_id _);obtain⟨p,hp,rfl⟩:=bI.mp (pm.mem_iff.mp hb);show(g p.t).t=p.t;rw[hg p hp]
def dk(p:ao)(s z:Str):Option (Str×Int×Int):=(p.aH.find? λn=>decide (n.name=z)&&decide (n.sort=s)).map λn=>(p.name,n.st,n.off)
def dt(so:List ao)(s z:Str):Option (Str×Int×Int):=so.findSome? λp=>dk p s z
theorem fe(ms:List aq)(m:aq)(z:Str):ar (dI ms m) z=if m.name=z then some m else ar ms z:=by
 unfold dI ar;by_cases h:(ms.any λn=>decide (n.name=m.name))=true
 ·rw[if_pos h];by_cases e:m.name=z
  ·rw[if_pos e]
   induction ms with
   |nil=>cases h
   |cons n r ih=>
    rw[lF,FI];by_cases q:n.name=m.name
    ·rw[if_pos q,decide_eq_true e]
    ·rw[if_neg q,decide_eq_false (λy=>q (y.trans e.symm))];refine ih ?_;rw[Q7,decide_eq_false q]at h;exact h
  ·rw[if_neg e];clear h
   induction ms with
   |nil=>rfl
   |cons n r ih=>
    rw[lF,FI,FI];by_cases q:n.name=m.name
    ·rw[if_pos q,decide_eq_false e,decide_eq_false (λy=>e (q.symm.trans y))];exact ih
    ·rw[if_neg q];by_cases y:n.name=z
     ·rw[decide_eq_true y]
     ·rw[decide_eq_false y];exact ih
 ·rw[if_neg h,Sx];by_cases e:m.name=z
  ·rw[if_pos e,Nl.mpr]
   ·rw[FI,decide_eq_true e];rfl
   ·intro n hn q;exact h (Ci.mpr ⟨n,hn,decide_eq_true ((of_decide_eq_true q).trans e.symm)⟩)
  ·rw[if_neg e,FI,decide_eq_false e];cases ms.find? λn=>decide (n.name=z)<;>rfl
theorem v8(h:(ms.map aq.name).Nodup):((dI ms m).map aq.name).Nodup:=by
 unfold dI;by_cases q:(ms.any λn=>decide (n.name=m.name))=true
 ·rw[if_pos q,fX];have e:(aq.name ∘ λn=>if n.name=m.name then m else n)=aq.name:=by
   funext n;show aq.name (if n.name=m.name then m else n)=n.name;by_cases y:n.name=m.name
   ·rw[if_pos y,y]
   ·rw[if_neg y]
  rw[e];exact h
 ·rw[if_neg q,bP];refine lD.mpr ⟨h,by simp,λx hx y hy e=>?_⟩;obtain⟨n,hn,rfl⟩:=bI.mp hx;rw[List.map_singleton,cD]at hy;exact q (Ci.mpr ⟨n,hn,decide_eq_true (e.trans hy)⟩)
theorem BA:∀(ns ms:List aq),ke (ms.map aq.kv) (ns.map aq.kv)=(ns.foldl dI ms).map aq.kv
 |[],ms=>rfl
 |n::ns,ms=>by
  rw[lF,List.foldl_cons,<-BA ns,<-Ef];rfl
theorem yx:∀{ns ms:List aq},(ms.map aq.name).Nodup->((ns.foldl dI ms).map aq.name).Nodup
 |[],_,h=>h
 |n::ns,ms,h=>yx (ns:=ns) (v8 h)
theorem mQ:∀{ns ms:List aq}{m:aq},m∈ns.foldl dI ms->m∈ns\/m∈ms
 |[],_,_,h=>.inr h
 |n::ns,ms,m,h=>by
  rcases mQ (ns:=ns) h with z|z
  ·exact .inl (h8 _ z)
  ·rcases xX z with y|y
   ·exact .inr y
   ·exact .inl (y▸lO)
theorem lY:∀{ns ms:List aq},(ns.foldl dI ms).length<=ms.length+ns.length
 |[],_=>bw _
 |n::ns,ms=>by
  have h1:=lY (ns:=ns) (ms:=dI ms n);have h2:=gC (ms:=ms) (m:=n);rw[List.foldl_cons,zS];omega
theorem j8:∀{ns ms:List aq}{z:Str},(ns.map aq.name).Nodup->ar (ns.foldl dI ms) z=(ar ns z).or (ar ms z)
 |[],ms,z,_=>rfl
 |n::ns,ms,z,h=>by
  rw[lF]at h;obtain⟨h1,h2⟩:=jB.mp h;rw[List.foldl_cons,j8 h2,fe];by_cases e:n.name=z
  ·rw[if_pos e];have:ar ns z=none:=Nl.mpr λm hm q=>h1 (bI.mpr ⟨m,hm,(of_decide_eq_true q).trans e.symm⟩);rw[this];unfold ar;rw[FI,decide_eq_true e];rfl
  ·rw[if_neg e];unfold ar;rw[FI,decide_eq_false e]
theorem DW(e:ms.map (λm=>(m.name,m.a,m.b,m.c))=(p.aH.filter λn=>decide (n.sort=s)).map (λn=>(n.name,p.name,n.st,n.off))):(ar ms z).map aq.vl=dk p s z:=by
 have h1:(ar ms z).map aq.vl=((ms.map (λm=>(m.name,m.a,m.b,m.c))).find? λt=>decide (t.1=z)).map (·.2):=by
  unfold ar;rw[QS,Option.map_map];rfl
 rw[h1,e,QS,Option.map_map,List.find?_filter];unfold dk;congr 1;refine congrArg (λf=>List.find? f p.aH) (funext λn=>?_);show decide (decide (n.sort=s)=true/\decide (n.name=z)=true)=_;by_cases a:n.name=z<;>by_cases b:n.sort=s<;>simp[a,b]
theorem LM{p:ao}{s:Str}{ms:List aq}(h:(p.aH.map aj.name).Nodup)(e:ms.map (λm=>(m.name,m.a,m.b,m.c))=(p.aH.filter λn=>decide (n.sort=s)).map (λn=>(n.name,p.name,n.st,n.off))):(ms.map aq.name).Nodup:=by
 have e1:ms.map aq.name=(p.aH.filter λn=>decide (n.sort=s)).map aj.name:=by
  have:=congrArg (List.map (·.1)) e;rw[fX,fX]at this;exact this
 rw[e1];exact List.Nodup.sublist (List.Sublist.map _ List.filter_sublist) h
theorem Ia{p:ao}{s:Str}{ms:List aq}(e:ms.map (λm=>(m.name,m.a,m.b,m.c))=(p.aH.filter λn=>decide (n.sort=s)).map (λn=>(n.name,p.name,n.st,n.off))):ms.length<=p.aH.length:=by
 have:=congrArg List.length e;walk_at "3";have h1:=OH (λn:aj=>decide (n.sort=s)) p.aH;omega
theorem mN(h:dk p s z=some v):∃n∈p.aH,n.name=z/\n.sort=s/\v=N9 (p.name,n):=by
 unfold dk at h;obtain⟨n,h1,h2⟩:=fW.mp h;have h3:=List.find?_some h1;rw[lW]at h3;exact⟨n,BZ h1,of_decide_eq_true h3.1,of_decide_eq_true h3.2,h2.symm⟩
theorem gK(h:dk p s z=none):∀n∈p.aH,n.name=z->n.sort≠s:=λn hn h1 h2=>by
 unfold dk at h;have:=Nl.mp (Option.map_eq_none_iff.mp h) n hn;exact this (by rw[decide_eq_true h1,decide_eq_true h2];rfl)
theorem bL:r∈bo ps↔∃p∈ps,p.name=r.1/\r.2∈p.aH:=by
 unfold bo;rw[g7];constructor
 ·rintro⟨p,hp,h⟩;obtain⟨n,hn,rfl⟩:=bI.mp h;exact⟨p,hp,rfl,hn⟩
 ·rintro⟨p,hp,h1,h2⟩;exact⟨p,hp,bI.mpr ⟨r.2,h2,by rw[h1]⟩⟩
theorem RR(pm:so.Perm ps)(pw:(so.map λp=>((p.name,0):bX)).Pairwise yE)(nd:(ms.map aq.name).Nodup)(h:∀z,(ar ms z).map aq.vl=(dt so bZ z).or (dt so cq z)):gi (bo ps) ms:=by
 refine⟨nd,λz m hm=>?_,λz hz r hr hn=>?_⟩
 ·have e:=h z;rw[hm]at e;cases h1:dt so bZ z with
  |some v=>
   rw[h1]at e;obtain⟨p,hp,hv⟩:=List.exists_of_findSome?_eq_some h1;obtain⟨n,hn,q1,q2,q3⟩:=mN hv;exact .inl ⟨(p.name,n),bL.mpr ⟨p,pm.mem_iff.mp hp,rfl,hn⟩,q1,q2,(Option.some.inj e).trans q3⟩
  |none=>
   rw[h1]at e;refine .inr ⟨λr hr hn=>?_,?_⟩
   ·obtain⟨p,hp,q1,q2⟩:=bL.mp hr;exact gK (List.findSome?_eq_none_iff.mp h1 p (pm.mem_iff.mpr hp)) r.2 q2 hn
   ·obtain⟨l1,p,l2,el,hv,nn⟩:=List.findSome?_eq_some_iff.mp (show dt so cq z=some (aq.vl m) from e.symm);obtain⟨n,hn,q1,q2,q3⟩:=mN hv;have hp:p∈so:=by rw[el];simp
    refine⟨(p.name,n),bL.mpr ⟨p,pm.mem_iff.mp hp,rfl,hn⟩,q1,q2,q3,λr' hr' n' s'=>?_⟩;obtain⟨q,hq,y1,y2⟩:=bL.mp hr';have hq':=pm.mem_iff.mpr hq;rw[el]at hq';rcases cy.mp hq' with y|y
    ·exact absurd s' (gK (nn q y) r'.2 y2 n')
    ·rcases hZ.mp y with y|y
     ·rw[<-y1,y];exact List.lt_irrefl _
     ·rw[el,bP,lF]at pw;have:=(List.pairwise_cons.mp (RW.mp pw).2.1).1 (q.name,0) (bI.mpr ⟨q,y,rfl⟩);show ¬r'.1.cps.toList<p.name.cps.toList;rw[<-y1];intro z;unfold yE at this;rw[(fc (q.name,0) (p.name,0)).mpr (.inl z)]at this;cases this
 ·have e:=h z;rw[hz]at e;have e:(dt so bZ z).or (dt so cq z)=none:=e.symm;obtain⟨e1,e2⟩:=Option.or_eq_none_iff.mp e;obtain⟨p,hp,q1,q2⟩:=bL.mp hr;have hp':=pm.mem_iff.mpr hp;exact⟨gK (List.findSome?_eq_none_iff.mp e1 p hp') r.2 q2 hn,gK (List.findSome?_eq_none_iff.mp e2 p hp') r.2 q2 hn⟩
theorem zh(so:List ao)(s z:Str)(b:Option (Str×Int×Int)):so.reverse.foldl (λb p=>(dk p s z).or b) b=(dt so s z).or b:=by
 induction so with
 |nil=>rfl
 |cons p r ih=>
  rw[List.reverse_cons,Rq,ih];unfold dt;rw[List.findSome?_cons];show(dk p s z).or ((r.findSome? λp=>dk p s z).or b)=_;cases dk p s z<;>rfl
structure YU(H:Hp)(d:Addr)(es:List (Str×Addr×Str)):Prop where
 top:H d=some (.dK (es.map λe=>((.inr e.1:Key),V.ref e.2.1)))
 one:∀e∈es,H e.2.1=some (.lst [.str e.2.2])
theorem Us(T:Txt K mg A):aY P w K mg base cF 2 A.Rt A.qJ ["ordered"] CW:=by
 refine T.Cw.ok kx ?_ ?_;walk_at "k"
 obtain⟨L,ps,rfl,hP,hN,k⟩:=h;refine⟨_,(aJ (pS 1 kx.nd cg) (aJ (pF (cJ (K:=K) rfl (pv 0)) (pn 2 kx.nd) (aX (pF (wx (pC (A7 T) hr T.yN T.m_ T.mO (ah (pv 2) (ah aF aa)))) (pn 3 kx.nd) (aX (dh (dE (HB (bC hr) (pv 1) (pv 3) (bx aa) ⟨rfl,rfl,rfl,rfl⟩) (ah (tx K (pv 2)) aa))))))) (aJ (eP (i:=4) kx.nd rfl (by walk_at "o") (kY (own:=["name"]) (fr:=["tellers"]) (fm:=[1]) rfl (by decide +kernel) (by decide +kernel) (by decide +kernel) (.cons rfl (by walk_at "o") rfl .nil)) rfl (wx (pv 1)) (λ_ _ _=>⟨(pn 0 (by walk_at "n")),(BO (eZ TV (cG (gj (K:=K) rfl) (by rfl) T.cL b0 (ah (fB (bC hr) (pv 1) (pv 0) (λ_ _=>rfl)) aa)) af (aB _))),(pv 0)⟩)) (aX (aO (kE (pv 4) (λ_=>rfl)) (aJ cB (aX cB)) eL))))),?_⟩;walk_at "rd";intro d hd;refine eM.of (xs:=ps.map ao.v) (λi σ H'=>∃(es:List (Str×Addr×Str)) (b2 b3:Option V),σ=[some (.ref L),some (.ref d),b2,b3,none,none]/\az H H'/\YU H' d es/\es.length<=61*i/\∀e∈es,∃p∈ps.take i,∃n∈p.aH,n.sort=bZ/\n.name=e.1)
  ⟨[],_,_,rfl,a_ hd,⟨aD,λe he=>by cases he⟩,by simp,λe he=>by cases he⟩ ?_ ?_ ?_
 ·rintro i σ H' hi ⟨es,b2,b3,rfl,s1,_⟩;exact aA.of (s1 _ _ hP.top)
 ·rintro i v σ H' hv ⟨es,b2,b3,rfl,s1,tw,el,ek⟩;walk_at "4";walk_at "5";have hm:=e7 hp;have pa:=(hP.at_ p hm).mono s1;obtain⟨n1,n2⟩:=hN.aH p hm;walk_at "rd";refine⟨p,rfl,pa,n1,n2,λd2 ms H2 s2 tab em f2=>?_⟩;refine HE.of tab.top (λo j σ H3=>∃(es':List (Str×Addr×Str)) (b3:Option V),σ=[some (.ref L),some (.ref d),some p.v,b3,none,none]/\az H H3/\H3 d2=some (.fY o (.dK (ms.map aq.kv)))/\YU H3 d es'/\es'.map (·.1)=es.map (·.1)++(ms.take j).map aq.name) ?_ ?_ ?_ ?_
  ·intro o;have nd2:d2≠d:=λe=>by rw[e,tw.top]at f2;cases f2
   have nf:∀x u,H' x=some u->upd H2 d2 (.fY o (.dK (ms.map aq.kv))) x=some u:=λx u e=>by rw[ae (bD e f2)];exact s2 _ _ e
   exact⟨es,_,rfl,λx u e=>nf x u (s1 _ _ e),aD,⟨nf _ _ tw.top,λe he=>nf _ _ (tw.one e he)⟩,by simp⟩
  ·rintro o j σ H3 hj ⟨es',b3,rfl,s3,hz,_⟩;exact hz
  ·rintro o j pr σ H3 hv ⟨es',b3,rfl,s3,hz,tw',ek'⟩;walk_at "4";obtain⟨m,hj,rfl⟩:=fW.mp hv;have new:m.name∉es'.map (·.1):=by
    have nn:∀m∈ms,∃n∈p.aH,n.sort=bZ/\n.name=m.name:=λm hm=>by
     have:(m.name,m.a,m.b,m.c)∈ms.map λm=>(m.name,m.a,m.b,m.c):=bI.mpr ⟨m,hm,rfl⟩;rw[em]at this;obtain⟨n,hn,e⟩:=bI.mp this;obtain⟨q1,q2⟩:=N1.mp hn;exact⟨n,q1,of_decide_eq_true q2,congrArg (·.1) e⟩
    have mnd:(ms.map aq.name).Nodup:=by
     have e1:ms.map aq.name=(p.aH.filter λn=>decide (n.sort=bZ)).map aj.name:=by
      have:=congrArg (List.map (·.1)) em;rw[fX,fX]at this;exact this
     rw[e1];exact List.Nodup.sublist (List.Sublist.map _ List.filter_sublist) n2
    rw[ek'];intro z;rcases cy.mp z with z|z
    ·obtain⟨e,he,ee⟩:=bI.mp z;obtain⟨q,hq,n,hn,q1,q2⟩:=ek e he;obtain⟨n',hn',q3,q4⟩:=nn m (e7 hj);have pw:=hN.tw;obtain⟨k',hk',hqk⟩:=B7 hq;rw[p_]at hk';rw[List.getElem_take]at hqk;have pi:=(hV.mp hp)
     obtain⟨pi1,pi2⟩:=pi;have:=MW.mp pw k' i (by omega) pi1 (by omega);rw[hqk,pi2]at this;exact this n hn n' hn' q1 q3 (by rw[q2,q4,ee])
    ·have:(ms.take (j+1)).map aq.name=(ms.take j).map aq.name++[m.name]:=by rw[jH,hj,bP];rfl
     have nd':((ms.take (j+1)).map aq.name).Nodup:=List.Nodup.sublist (List.Sublist.map _ (TK _ _)) mnd;rw[this]at nd';exact(lD.mp nd').2.2 _ z _ (by simp) rfl
   have pa3:=(hP.at_ p hm).mono s3;walk_at "rd";have vn:bj (es'.map λe=>((.inr e.1:Key),V.ref e.2.1)) (.inr m.name)=none:=Pa new;have pn:putK (es'.map λe=>((.inr e.1:Key),V.ref e.2.1)) (.inr m.name) (V.ref 0)=(es'.map λe=>((.inr e.1:Key),V.ref e.2.1))++[(.inr m.name,V.ref 0)]:=F4 new;have el':=congrArg List.length ek';rw[eY,aI,aI,aI,p_]at el';have ml:ms.length<=61:=by
    have:=congrArg List.length em;walk_at "3";have h1:=OH (λn:aj=>decide (n.sort=s!"tell")) p.aH;omega
   have il:=(hV.mp hp).1;have fw:=hN.d7;refine⟨.inl ⟨_,.inl tw'.top⟩,gH _,λl hl=>?_⟩;have sl:=a_ (o:=HO.lst []) hl;have nl:d≠l:=bD tw'.top hl;refine⟨none,.inl ⟨_,.inr m.name,.inl (sl _ _ tw'.top),rfl,vn.symm⟩,_,dG.k (k:=.inr m.name) (sl _ _ tw'.top) (by rw[aI,sizeLine_eq];omega),(λv hv=>by cases hv),λ_=>?_⟩;have l1:upd (upd H3 l (.lst [])) d (.dK (putK (es'.map λe=>((.inr e.1:Key),V.ref e.2.1)) (.inr m.name) (.ref l))) l=some (.lst []):=by rw[ae (Ne.symm nl),aD]
   have tp:upd (upd H3 l (.lst [])) d (.dK (putK (es'.map λe=>((.inr e.1:Key),V.ref e.2.1)) (.inr m.name) (.ref l))) p.t=some (.tup [.str p.name,.ref p.ls,.ref p.ln]):=by
    rw[ae (ba pa3.top tw'.top (by intro z;cases z))];exact sl _ _ pa3.top
   refine⟨.inl ⟨rfl,_,aA.of l1⟩,_,aS.of tp,_,rfl,_,l1,by walk_at "s", ?_,?_,es'++[(m.name,l,p.name)],⟨?_,λe he=>?_⟩,?_⟩
   ·exact f7 (s3.free hl) (f7 hd (s3.trans sl))
   ·have n2':d2≠d:=λe=>by rw[e,tw'.top]at hz;cases hz
    rw[ae (bD hz hl),ae n2'];exact sl _ _ hz
   ·rw[ae nl,aD,F4 new,bP];rfl
   ·rcases cy.mp he with z|z
    ·have e1:=tw'.one e z;rw[ae (bD e1 hl),ae (ba e1 tw'.top (by intro z;cases z))];exact sl _ _ e1
    ·rw[cD.mp z];exact aD
   ·rw[bP,ek',N5,jH,hj,bP];rfl
  ·rintro o σ H3 ⟨es',b3,rfl,s3,hz,tw',ek'⟩;rw[aI,iR]at ek';have ml:ms.length<=61:=by
    have:=congrArg List.length em;walk_at "3";have h1:=OH (λn:aj=>decide (n.sort=s!"tell")) p.aH;omega
   have el':=congrArg List.length ek';rw[eY,aI,aI,aI]at el';walk_at "6";refine⟨es',_,_,rfl,s3,tw',by omega,λe he=>?_⟩;have:e.1∈es'.map (·.1):=bI.mpr ⟨e,he,rfl⟩;rw[ek']at this;rcases cy.mp this with z|z
   ·obtain⟨e0,he0,e1⟩:=bI.mp z;obtain⟨q,hq,n,hn,q1,q2⟩:=ek e0 he0;exact⟨q,by rw[tk];exact lC _ hq,n,hn,q1,by rw[q2,e1]⟩
   ·obtain⟨m,hm',e1⟩:=bI.mp z;have:(m.name,m.a,m.b,m.c)∈ms.map λm=>(m.name,m.a,m.b,m.c):=bI.mpr ⟨m,hm',rfl⟩;rw[em]at this;obtain⟨n,hn,e2⟩:=bI.mp this;obtain⟨q1,q2⟩:=N1.mp hn;exact⟨p,by rw[tk];simp,n,q1,of_decide_eq_true q2,by rw[<-e1];exact congrArg (·.1) e2⟩
 ·rintro σ H' ⟨es,b2,b3,rfl,s1,tw,el,ek⟩;walk_at "rd";rw[aI]at el;have d7:=hN.d7;refine AF.of (by rw[aI,sizeLine_eq];omega) tw.top (λo D i ys H2=>ys=[]/\H2=upd (upd H' d (.fY o (.dK (es.map λe=>((.inr e.1:Key),V.ref e.2.1))))) D (.lst [])) (λo D hD=>⟨rfl,rfl⟩) ?_ ?_ ?_
  ·rintro o D i ys H2 hD hi ⟨rfl,rfl⟩;exact⟨by rw[ae (bD tw.top hD),aD],aD,gH _⟩
  ·rintro o D i pr ys H2 hD hv ⟨rfl,rfl⟩;walk_at "4";obtain⟨e,he,rfl⟩:=fW.mp hv;walk_at "rd";obtain⟨v',v1,v2⟩:=O6 (bI.mpr ⟨e,e7 he,rfl⟩:((.inr e.1:Key),V.ref e.2.1)∈es.map λe=>((.inr e.1:Key),V.ref e.2.1));obtain⟨e',he',ee⟩:=bI.mp v2;have ev:V.ref e'.2.1=v':=congrArg (·.2) ee;subst ev;have hd2:upd (upd H' d (.fY o (.dK (es.map λe=>((.inr e.1:Key),V.ref e.2.1))))) D (.lst []) d=some (.fY o (.dK (es.map λe=>((.inr e.1:Key),V.ref e.2.1)))):=by rw[ae (bD tw.top hD),aD]
   have o1:=tw.one e' he';refine⟨.no (.yes .nil),_,.inl ⟨_,.inr e.1,.inr ⟨o,hd2⟩,rfl,v1.symm⟩,1,.inl ⟨[.str e'.2.2],aA.of (by rw[ae (bD o1 hD),ae (ba o1 tw.top (by intro z;cases z))];exact o1),rfl⟩,?_⟩;rw[if_neg (by decide)];trivial
  ·rintro o D ys H2 hD ⟨rfl,rfl⟩;refine⟨false,.inl ⟨[],aA.of aD,rfl⟩,?_⟩;rw[if_neg (by decide)];exact k _ (f7 (s1.free hD) (f7 hd s1))
theorem BU.perm(h:BU ps)(pm:so.Perm ps):BU so:=
 ⟨by rw[pm.length_eq];exact h.d7,(pm.map _).nodup_iff.mpr h.nd,λp hp=>h.aH p (pm.mem_iff.mp hp),(pm.pairwise_iff λ{x y} r a ha b hb h1 h2 e=>r b hb a ha h2 h1 e.symm).mpr h.tw⟩
theorem Vp(T:Txt K mg A):aY P w K mg base cF 6 A.Rw A.ly ["pieces"] (zN A):=by
 refine T.AW.Y0 T.Ko ky (λvs H Q E h=>?_) (λc cdv Ar outer s H vs Q E hcd hcc hr h=>?_)
 ·obtain⟨L,ps,rfl,_⟩:=h;rfl
 ·obtain⟨L,ps,rfl,hP,hN,tb,k⟩:=h;refine⟨_,(aJ (pS 1 ky.nd (yc (K:=K) (P:=A.br) (y := "piece") rfl (hr.mono (by decide)) (pv 0) (by rfl) T.d_ hcd hcc T.bm ⟨rfl,rfl,rfl,by decide +kernel,rfl,by decide +kernel,by decide +kernel⟩ (λ_ _ _ _ _ _=>(tx K (pv 0))))) (aJ (dh (pC (Us T) hr T.Oi T.Lp T.ET (ah (pv 1) aa))) (aJ (pS 2 ky.nd cg) (aJ (pF (LN (K:=K) rfl (aQ (ah aF (ah aF aa)))) (pn 3 ky.nd) (aX (pF (O5 (K:=K) rfl rfl T.fD (pv 1)) (pn 4 ky.nd) (aX (dh (mD PySem.F.plainAttrs_dict PySem.F.slot_dict_update PySem.F.type_dict_update zm (pv 2) (ah (pC (A7 T) hr T.yN T.m_ T.mO (ah (pv 4) (ah (pv 3) aa))) aa))))))) (aX (ay (pv 2))))))),?_⟩;walk_at "rd";obtain⟨ps0,hT,_⟩:=id tb;have hz:∀p∈ps,zF H p.t=p.name/\rF H p.t=[.ref p.ls,.ref p.ln]:=λp hp=>by
   unfold zF rF;rw[(hP.at_ p hp).top];exact⟨rfl,rfl⟩
  refine⟨ps.map ao.t,by rw[fX];exact aA.of hP.top,zF H,rF H,λb hb=>?_,by rw[aI];have:=hN.d7;omega,tb,λl bs H2 l0 pm pw sx tb2 hl=>?_⟩
  ·obtain⟨p,hp,rfl⟩:=bI.mp hb;rw[(hz p hp).1,(hz p hp).2];exact(hP.at_ p hp).top
  obtain⟨so,sp,rfl⟩:=Gf hP.at_ hN.nd pm;have pw2:(so.map λp=>((p.name,0):bX)).Pairwise yE:=by
   rw[fX]at pw
   rwa [M4 (g:=λp:ao=>((p.name,0):bX)) λp hp=>by show(zF H p.t,(0:Int))=_;rw[(hz p (sp.mem_iff.mp hp)).1]]at pw
  have hP2:PL H2 l so:=⟨by rw[fX]at hl;exact hl,λp hp=>(hP.at_ p (sp.mem_iff.mp hp)).keep hT sx⟩
  have hN2:=hN.perm sp;refine⟨so,hP2,hN2,λH3 s3 d hd=>⟨by rw[sizeLine_eq];decide,λq hq=>?_⟩⟩;have s4:=a_ (o:=HO.dK []) hd;have s5:=a_ (o:=HO.tup [V.str s!"weak",V.str s!"tell"]) hq;have d5:upd (upd H3 d (.dK [])) q (.tup [V.str s!"weak",V.str s!"tell"]) d=some (.dK []):=s5 _ _ aD;have q5:upd (upd H3 d (.dK [])) q (.tup [V.str s!"weak",V.str s!"tell"]) q=some (.tup [V.str s!"weak",V.str s!"tell"]):=aD;have s25:az H2 (upd (upd H3 d (.dK [])) q (.tup [V.str s!"weak",V.str s!"tell"])):=s3.trans (s4.trans s5);have d2:H2 d=none:=s3.free hd;have ndq:d≠q:=bD (aD (H:=H3) (a:=d) (o:=HO.dK [])) hq;have d7:=hN2.d7;generalize upd (upd H3 d (.dK [])) q (.tup [V.str s!"weak",V.str s!"tell"])=H5 at *;refine MV.of (xs:=[V.str s!"weak",V.str s!"tell"]) (λa σ H'=>∃(ms:List aq) (b3 b4:Option V),σ=[some (.ref L),some (.ref l),some (.ref d),b3,b4]/\az H2 H'/\H' q=some (.tup [V.str s!"weak",V.str s!"tell"])/\Tab H' d ms/\ms.length<=61*14*a/\(ms.map aq.name).Nodup/\∀z,(ar ms z).map aq.vl=if a=0 then none else if a=1 then dt so cq z else (dt so bZ z).or (dt so cq z))
   ⟨[],_,_,rfl,s25,q5,⟨d5,λm hm=>by cases hm⟩,by simp,by simp,λz=>rfl⟩ ?_ ?_ ?_
  ·rintro a σ H' ha ⟨ms,b3,b4,rfl,s6,hq6,_⟩;exact aS.of hq6
  ·rintro a v σ H' hv ⟨ms,b3,b4,rfl,s6,hq6,tab,len,nd,look⟩;obtain⟨s,hs,rfl,ha⟩:∃s:Str,True/\v=.str s/\((a=0/\s=cq)\/(a=1/\s=bZ)):=by
    match a,hv with
    |0,hv=>cases hv;exact⟨_,trivial,rfl,.inl ⟨rfl,rfl⟩⟩
    |1,hv=>cases hv;exact⟨_,trivial,rfl,.inr ⟨rfl,rfl⟩⟩
   walk_at "rd";refine Mw.of (xs:=so.map ao.v) (λi σ H'=>∃(ms':List aq) (b4:Option V),σ=[some (.ref L),some (.ref l),some (.ref d),some (.str s),b4]/\az H2 H'/\H' q=some (.tup [V.str s!"weak",V.str s!"tell"])/\Tab H' d ms'/\ms'.length<=61*14*a+61*i/\(ms'.map aq.name).Nodup/\∀z,(ar ms' z).map aq.vl=(so.reverse.take i).foldl (λb p=>(dk p s z).or b) ((ar ms z).map aq.vl))
    ⟨ms,_,rfl,s6,hq6,tab,by omega,nd,λz=>rfl⟩ ?_ ?_ ?_
   ·rintro i σ H7 hi ⟨ms',b4,rfl,s7,_⟩;exact aA.of (s7 _ _ hP2.top)
   ·rintro i v σ H7 hv ⟨ms',b4,rfl,s7,hq7,tab7,len7,nd7,look7⟩;rw[<-List.map_reverse,jA]at hv;walk_at "5";have pm':p∈so:=List.mem_reverse.mp (e7 hp);have il:=(hV.mp hp).1;rw[List.length_reverse]at il;have pa:=(hP2.at_ p pm').mono s7;obtain⟨n1,n2⟩:=hN2.aH p pm';walk_at "rd";refine⟨.inr (.inr (.inl ⟨rfl,.inl ⟨_,tab7.top⟩⟩)),p,rfl,pa,n1,n2,λd8 ns H8 s8 tab8 em f8=>?_⟩;have nd8:d≠d8:=bD tab7.top f8;have tl:=Ia em;have tab7':=tab7.mono s8;refine⟨_,tab7'.top,_,tab8.top,nd8,by rw[aI,aI];rcases ha with ⟨rfl,_⟩|⟨rfl,_⟩<;>omega,?_⟩;rw[BA];refine⟨f7 d2 (s7.trans s8),?_,ns.foldl dI ms',⟨aD,λm hm=>?_⟩,?_,yx nd7,λz=>?_⟩
    ·rw[ae (ba hq7 tab7.top (by intro z;cases z))];exact s8 _ _ hq7
    ·have key:aq.At H8 m:=(mQ hm).elim (λy=>tab8.at_ m y) λy=>tab7'.at_ m y;unfold aq.At;rw[ae (ba key tab7'.top (by intro z;cases z))];exact key
    ·have:=lY (ns:=ns) (ms:=ms');omega
    ·rw[j8 (LM n2 em),jH,hp,Rq];show _=(dk p s z).or _;rw[<-look7 z,<-DW em];cases ar ns z<;>rfl
   ·rintro σ H7 ⟨ms',b4,rfl,s7,hq7,tab7,len7,nd7,look7⟩;rw[aI]at len7;refine⟨ms',_,_,rfl,s7,hq7,tab7,by omega,nd7,λz=>?_⟩;rw[look7 z,aI,VV (by rw[List.length_reverse];exact bw _),zh,look z];rcases ha with ⟨rfl,rfl⟩|⟨rfl,rfl⟩
    ·show(dt so cq z).or none=dt so cq z;rw[Option.or_none]
    ·rfl
  ·rintro σ H' ⟨ms,b3,b4,rfl,s6,hq6,tab,len,nd,look⟩;walk_at "rd";have dP:d≠A.br:=λe=>by
    obtain⟨_,e1,_⟩:=tb2;rw[e,e1]at d2;cases d2
   exact k d ms H' (λb o n e=>s6 _ _ (sx b o n e)) (tb2.more s6) tab (RR sp pw2 nd λz=>by rw[look z];rfl) (sx.free dP d2)
theorem Mz(b:Ae p):(gY p).length<=61:=by
 unfold gY;rw[aI];exact jt (OH _ _) b.nm
theorem yk:z∈gY p↔fE z (aL p)=true:=by
 unfold gY fE aL;simp only[List.any_map,List.any_eq_true,List.mem_map,List.mem_filter];constructor
 ·rintro⟨n,⟨h1,h2⟩,rfl⟩;have h2:n.sort≠cU:=of_decide_eq_true h2;refine⟨n,h1,?_⟩;show(decide (n.name=n.name) && !decide (n.sort=cU))=true;rw[decide_eq_true rfl,decide_eq_false h2];rfl
 ·rintro⟨n,h1,h2⟩;have h2:(decide (n.name=z) && !decide (n.sort=cU))=true:=h2;rw[lW,Bool.not_eq_true',decide_eq_false_iff_not]at h2;exact⟨n,⟨h1,decide_eq_true h2.2⟩,of_decide_eq_true h2.1⟩
def Ee(p:ao)(z:Str):Prop:=∃f∈aV p.aP,(!f.soft && !eX p f.name)=true/\f.name=z
theorem JY(p:ao)(z:Str):Hk z (aL p)=eX p z:=by
 unfold Hk eX aL;rw[Nm];rfl
theorem i7:Ee p z↔cO z (aL p)=true:=by
 unfold Ee cO;rw[JY,lW];have e:(aL p).2.2=p.aP.map aK.e:=rfl;rw[e,Nm,Ci];constructor
 ·rintro⟨f,hf,h,rfl⟩;obtain⟨s,hs,hf⟩:=g7.mp hf;rw[lW]at h;exact⟨h.2,s,hs,Ci.mpr ⟨ai.e f,bI.mpr ⟨f,hf,rfl⟩,by rw[lW];exact⟨decide_eq_true rfl,h.1⟩⟩⟩
 ·rintro⟨h0,s,hs,h⟩;obtain⟨g,hg,h⟩:=Ci.mp h;obtain⟨f,hf,rfl⟩:=bI.mp hg;rw[lW]at h;have hn:f.name=z:=of_decide_eq_true h.1;exact⟨f,g7.mpr ⟨s,hs,hf⟩,by rw[lW,hn];exact⟨h.2,h0⟩,hn⟩
theorem J8:z∈addW W y↔z∈W\/z=y:=by
 unfold addW;split
 ·rename_i h;exact⟨.inl,λq=>q.elim id λe=>e▸h⟩
 ·simp
theorem ym(p:ao){z:Str}:∀(fs:List ai) (W:List Str),z∈fs.foldl (ip p) W↔z∈W\/∃f∈fs,(!f.soft && !eX p f.name)=true/\f.name=z
 |[],W=>by simp
 |f::fs,W=>by
  rw[List.foldl_cons,ym p fs];by_cases h:(!f.soft && !eX p f.name)=true
  ·rw[yo h,J8];constructor
   ·rintro ((q|q)|⟨g,hg,q⟩)
    ·exact .inl q
    ·exact .inr ⟨f,lO,h,q.symm⟩
    ·exact .inr ⟨g,h8 _ hg,q⟩
   ·rintro (q|⟨g,hg,q⟩)
    ·exact .inl (.inl q)
    ·rcases hZ.mp hg with e|e
     ·exact .inl (.inr (by rw[<-q.2,e]))
     ·exact .inr ⟨g,e,q⟩
  ·rw[wm h];constructor
   ·rintro (q|⟨g,hg,q⟩)
    ·exact .inl q
    ·exact .inr ⟨g,h8 _ hg,q⟩
   ·rintro (q|⟨g,hg,q⟩)
    ·exact .inl q
    ·rcases hZ.mp hg with e|e
     ·rw[e]at q;exact absurd q.1 h
     ·exact .inr ⟨g,e,q⟩
theorem yA:z∈yQ p↔cO z (aL p)=true:=by
 rw[<-i7];unfold yQ;rw[ym];simp[Ee]
theorem iQ(ps:List ao)(z:Str):eB (ps.map aL) z=(c_ ps z).map aL:=by
 unfold eB c_;rw[QS];rfl
theorem eW(s:fA H H'){b:Addr}{xs:List V}(h:H b=some (.lst xs)):H' b=some (.lst xs):=s b _ (.inl ⟨_,rfl⟩) h
theorem gQ(s:fA H H'){b:Addr}{xs:List V}(h:H b=some (.tup xs)):H' b=some (.tup xs):=s b _ (.inr ⟨_,rfl⟩) h
theorem jo(s:fA H H'){p:ao}(q:p.At H):p.At H':=
 ⟨gQ s q.top,eW s q.sl,eW s q.nl,λst hs=>have y:=q.ss st hs;⟨gQ s y.top,eW s y.wd,eW s y.fl,λf hf=>gQ s (y.fs f hf)⟩,λn hn=>gQ s (q.ns n hn)⟩
theorem VB(s:fA H H')(h:PL H L ps):PL H' L ps:=⟨eW s h.top,λp hp=>jo s (h.at_ p hp)⟩
theorem EA(hx:H x=some u)(n:(∀xs,u≠.lst xs)/\∀xs,u≠.tup xs)(s:∀b o,b≠x->H b=some o->H' b=some o):fA H H':=λb o h e=>s b o (λq=>by
 rw[q,hx]at e;have e:=Option.some.inj e;rcases h with ⟨xs,h⟩|⟨xs,h⟩
 ·exact n.1 xs (e.trans h)
 ·exact n.2 xs (e.trans h)) e
theorem jY(h:PL H L ps)(s:az H H'):PL H' L ps:=⟨s _ _ h.top,λp hp=>(h.at_ p hp).mono s⟩
theorem JQ(h:VD H S xs)(s:az H H'):VD H' S xs:=⟨s _ _ h.top,λx hx=>jY (h.at_ x hx) s⟩
theorem CY{xs:List (Addr×List ao)}{i:Nat}{x:Addr×List ao}(h:xs[i]?=some x):flat (xs.take (i+1))=flat (xs.take i)++x.2:=by
 unfold flat;rw[jH,h,LB];simp
theorem MF(xs:List (Addr×List ao))(i:Nat):(flat (xs.take i)).length<=(flat xs).length:=by
 have h:flat xs=flat (xs.take i)++flat (xs.drop i):=by
  unfold flat;rw[<-LB,List.take_append_drop]
 rw[h,eY];omega
theorem RI(T:Txt K mg A):aY P w K mg base cF 1 A.UM A.wq ["shelves"] Ud:=by
 refine T.Ay.ok yY ?_ ?_;walk_at "k"
 obtain⟨S,xs,rfl,hS,hl,k⟩:=h;refine⟨_,(aJ (pS 1 yY.nd (bx aa)) (aJ (pF (cJ (K:=K) rfl (pv 0)) (pn 2 yY.nd) (aX (dh (mD PySem.F.plainAttrs_list PySem.F.slot_list_extend PySem.F.type_list_extend Dj (pv 1) (ah (pv 2) aa))))) (aX (ay (pv 1))))),?_⟩;walk_at "rd";refine⟨gH _,λl hn=>?_⟩;refine eM.of (xs:=xs.map λx=>V.ref x.1) (λi σ H'=>∃b2:Option V,σ=[some (.ref S),some (.ref l),b2]/\az H H'/\H' l=some (.lst ((flat (xs.take i)).map ao.v)))
  ⟨_,rfl,a_ hn,aD⟩ ?_ ?_ ?_
 ·rintro i σ H' hi ⟨b2,rfl,s1,_⟩;exact aA.of (s1 _ _ hS.top)
 ·rintro i v σ H' hv ⟨b2,rfl,s1,h1⟩;walk_at "4";obtain⟨x,hx,rfl⟩:=fW.mp hv;have hm:=e7 hx;have px:=s1 _ _ (hS.at_ x hm).top;have tk:=CY hx;have fl:=MF xs (i+1);rw[tk,eY]at fl;walk_at "rd";refine⟨.inl ⟨rfl,_,aA.of h1⟩,l,x.1,_,_,rfl,rfl,h1,px,by rw[aI,aI,sizeLine_eq];omega,f7 hn s1,?_⟩;rw[aD,tk,bP]
 ·rintro σ H' ⟨b2,rfl,s1,h1⟩;walk_at "rd";rw[aI,iR]at h1;exact k l H' s1 hn h1
theorem Al{W:List Str}{z:Str}(h:z∉W):bj (W.map jJ) (.inr z)=none:=by
 cases q:bj (W.map jJ) (.inr z) with
 |none=>rfl
 |some v=>
  have a:=eA (.inr z:Key) (W.map jJ);rw[q]at a;obtain⟨x,hx,e⟩:=Ci.mp (a.trans rfl);obtain⟨y,hy,rfl⟩:=bI.mp hx;exact absurd (Sum.inr.inj (of_decide_eq_true e:(Sum.inr y:Key)=Sum.inr z)▸hy) h
theorem Jd{W:List Str}{z:Str}(h:z∈W):bj (W.map jJ) (.inr z)=some (.bl true):=by
 have a:=eA (.inr z:Key) (W.map jJ);have b:((W.map jJ).any λkv=>decide (kv.1=(.inr z:Key)))=true:=Ci.mpr ⟨jJ z,bI.mpr ⟨z,h,rfl⟩,decide_eq_true rfl⟩;rw[b]at a;cases q:bj (W.map jJ) (.inr z) with
 |none=>rw[q]at a;cases a
 |some v=>
  unfold bj at q;obtain⟨x,hx,e⟩:=fW.mp q;obtain⟨y,hy,e2⟩:=bI.mp (BZ hx);rw[<-e,<-e2];rfl
theorem SN(T:Txt K mg A):aY P w K mg base cF 1 A.S4 A.oJ ["pieces"] DX:=by
 refine T.Bd.ok uJ ?_ ?_;walk_at "k"
 obtain⟨L,ps,rfl,hP,hl,nd,k⟩:=h;refine⟨_,(aJ (pS 1 uJ.nd cg) (aJ (pS 2 uJ.nd (bx aa)) (aJ (pF (cJ (K:=K) rfl (pv 0)) (pn 3 uJ.nd) (aJ (aO (gc (zW (bC hr) (tx K (pv 3)) (pv 1))) (aX (dh (dE (pv 2) (ah (tx K (pv 3)) aa)))) eL) (aX (cT (bC hr) (pv 1) (tx K (pv 3)) dy rfl)))) (aX (aO (kE (pv 2) (λ_=>rfl)) (aX cB) eL))))),?_⟩;walk_at "rd";refine λd hd=>⟨gH _,λl hn=>?_⟩;have s0:=(a_ (o:=HO.dK []) hd).trans (a_ (o:=HO.lst []) hn);have hln:H l=none:=(bJ hn).2;have nld:l≠d:=(bJ hn).1;refine eM.of (xs:=ps.map ao.v) (λi σ H'=>∃b3:Option V,σ=[some (.ref L),some (.ref d),some (.ref l),b3]/\az H H'/\H' l=some (.lst [])/\H' d=some (.dK (((ps.take i).map ao.name).map jJ)))
  ⟨_,rfl,s0,aD,by rw[ae (Ne.symm nld),aD];rfl⟩ ?_ ?_ ?_
 ·rintro i σ H' hi ⟨b2,rfl,s1,_⟩;exact aA.of (s1 _ _ hP.top)
 ·rintro i v σ H' hv ⟨b3,rfl,s1,h1,h2⟩;walk_at "4";walk_at "5";have hm:=e7 hp;have pa:=s1 _ _ (hP.at_ p hm).top;have hi:=(hV.mp hp).1;walk_at "6";have new:p.name∉(ps.take i).map ao.name:=λz=>by
   have h:((ps.take (i+1)).map ao.name).Nodup:=List.Nodup.sublist (List.Sublist.map _ (TK _ _)) nd;rw[tk,bP]at h;exact(lD.mp h).2.2 p.name z p.name (by simp) rfl
  have g:bT H' d (V.str p.name) none:=by
   have:=bT.k (k:=Sum.inr p.name) h2;rw[Al new]at this;exact this
  walk_at "rd";refine⟨_,aS.of pa,_,rfl,none,g,?_⟩;rw[if_neg (by decide)];refine⟨_,aS.of pa,_,rfl,_,dG.k (k:=Sum.inr p.name) h2 (by rw[aI,aI,p_,sizeLine_eq];omega),f7 hd s1,by rw[ae nld];exact h1,?_⟩;rw[aD,O_];unfold addW;rw[if_neg new,tk];simp
 ·rintro σ H' ⟨b3,rfl,s1,h1,h2⟩;walk_at "rd";refine⟨false,?_,?_⟩
  ·exact .inl ⟨[],aA.of h1,rfl⟩
  ·exact k H' s1
theorem NH(T:Txt K mg A):aY P w K mg base cF 3 A.RN A.r_ ["pieces"] Kw:=by
 refine T.Bq.ok p8 ?_ ?_;walk_at "k"
 obtain⟨L,ps,rfl,hP,hl,hb,k⟩:=h;refine⟨_,(aJ (pS 1 p8.nd cg) (aJ (pF (cJ (K:=K) rfl (pv 0)) (pn 2 p8.nd) (aX (pF (cJ (K:=K) rfl (pC (MJ T) hr T.AM T.pB T.qU (ah (pv 2) aa))) (pn 3 p8.nd) (aX (dh (HB (bC hr) (pv 1) (pv 3) (pv 2) ⟨rfl,rfl,rfl,rfl⟩)))))) (aX (ay (pv 1))))),?_⟩;walk_at "rd";intro d hd;refine eM.of (xs:=ps.map ao.v) (λi σ H'=>∃(b2 b3:Option V) (kvs:List (Key×V)),σ=[some (.ref L),some (.ref d),b2,b3]/\az H H'/\H' d=some (.dK kvs)/\kvs.length<=61*i/\∀z,bj kvs (.inr z)=(c_ (ps.take i) z).map ao.v)
  ⟨_,_,[],rfl,a_ hd,aD,by simp,λz=>rfl⟩ ?_ ?_ ?_
 ·rintro i σ H' hi ⟨b2,b3,kvs,rfl,s1,_⟩;exact aA.of (s1 _ _ hP.top)
 ·rintro i v σ H' hv ⟨b2,b3,kvs,rfl,s1,h1,hk,hz⟩;walk_at "4";walk_at "5";have hm:=e7 hp;have hi:=(hV.mp hp).1;walk_at "6";walk_at "rd";refine⟨p,rfl,(hP.at_ p hm).mono s1,hb p hm,λl H2 s2 ⟨ss,pm,pw,hl2⟩ hn=>?_⟩;have sl:ss.length<=61:=by rw[pm.length_eq];exact Mz (hb p hm)
  have nld:l≠d:=λe=>by rw[e,h1]at hn;cases hn
  refine eM.of (xs:=ss.map V.str) (λj σ H3=>∃(b3:Option V) (kvs':List (Key×V)),σ=[some (.ref L),some (.ref d),some p.v,b3]/\az H H3/\H3 l=some (.lst (ss.map V.str))/\H3 d=some (.dK kvs')/\kvs'.length<=kvs.length+j/\∀z,bj kvs' (.inr z)=((c_ (ps.take i) z).map ao.v).or (if z∈ss.take j then some p.v else none))
   ⟨_,kvs,rfl,s1.trans s2,hl2,s2 _ _ h1,by omega,λz=>by rw[hz];simp⟩ ?_ ?_ ?_
  ·rintro j σ H3 hj ⟨b3,kvs',rfl,s3,h3,_⟩;exact aA.of h3
  ·rintro j v σ H3 hv ⟨b3,kvs',rfl,s3,h3,h4,hk',hz'⟩;walk_at "4";obtain⟨y,hy,rfl⟩:=fW.mp hv;have hj:=(hV.mp hy).1;have tj:ss.take (j+1)=ss.take j++[y]:=by rw[jH,hy];rfl
   walk_at "rd";have gd:=bT.k (k:=Sum.inr y) h4;refine⟨.inl ⟨_,.inl h4⟩,_,gd,_,dG.k (k:=Sum.inr y) h4 (by rw[sizeLine_eq];omega),λv hv=>⟨s3,h3,kvs',h4,by omega,λz=>?_⟩,λhv=>⟨f7 hd s3,by rw[ae nld];exact h3,_,aD,?_,λz=>?_⟩⟩
   ·rw[hz',tj];by_cases e:z=y
    ·rw[e];have hv:=(hz' y).symm.trans hv;cases q:c_ (ps.take i) y with
     |some u=>simp
     |none=>
      rw[q]at hv;have:y∈ss.take j:=by
       by_cases m:y∈ss.take j
       ·exact m
       ·rw[if_neg m]at hv;cases hv
      simp[this]
    ·simp[e]
   ·rw[Ga _ hv,eY,Pp];omega
   ·rw[iB,hz',tj];by_cases e:z=y
    ·rw[e,if_pos rfl];have hv:=(hz' y).symm.trans hv;cases q:c_ (ps.take i) y with
     |some u=>rw[q]at hv;cases hv
     |none=>simp
    ·rw[if_neg (λh=>e (Sum.inr.inj h))];simp[e]
  ·rintro σ H3 ⟨b3,kvs',rfl,s3,h3,h4,hk',hz'⟩;rw[aI,iR]at hz';refine⟨_,_,rfl,s3,kvs',h4,by rw[aI]at hk';omega,λz=>?_⟩;have e:(z∈ss)=(fE z (aL p)=true):=propext (pm.mem_iff.trans yk);rw[hz',tk];unfold c_;rw[Sx];cases q:(ps.take i).find? (λp=>fE z (aL p)) with
   |some u=>simp
   |none=>
    by_cases t:fE z (aL p)=true
    ·simp[e,t]
    ·simp[e,t]
 ·rintro σ H' ⟨b2,b3,kvs,rfl,s1,h1,hk,hz⟩;rw[aI,iR]at hz;walk_at "rd";exact k d H' s1 hd ⟨kvs,h1,hz⟩
theorem RE(T:Txt K mg A):aY P w K mg base cF 1 A.Ug A.s_ ["fills"] Dg:=by
 refine T.B0.ok Pu ?_ ?_;walk_at "k"
 obtain⟨l,fs,rfl,hl,ha,hn,k⟩:=h;refine⟨_,(aX (ay (fH (kD ["at", "rule", "name", "add", "soft"]) rfl (cJ (K:=K) rfl (pv 0)) (λ_ _ _=>⟨(bV (K:=K) (n:=5) rfl rfl (dC (pn 0 (by walk_at "n")) (dC (pn 1 (by walk_at "n")) (dC (pn 2 (by walk_at "n")) (dC (pn 3 (by walk_at "n")) (dC (pn 4 (by walk_at "n")) bY)))))),cj,(aQ (ah (pv 0) (ah (pv 1) (ah (pv 2) (ah (pv 3) (ah (pv 4) aa))))))⟩)))),?_⟩;walk_at "rd";refine dH.of (xs:=fs.map ai.v) (by rw[aI,sizeLine_eq];omega) (aA.of hl) (λD i ys H'=>∃gs:List ai,ys=gs.map ai.v/\az H H'/\H' D=some (.lst ys)/\(∀g∈gs,ai.At H' g)/\gs.map ai.e=(fs.take i).map ai.e)
  (λD hD=>⟨[],rfl,a_ hD,aD,(λq hq=>by cases hq),rfl⟩) ?_ ?_ ?_
 ·rintro D i ys H' hD hi ⟨gs,rfl,s1,hDD,ga,e⟩;refine⟨aA.of (s1 _ _ hl),hDD,?_⟩;have:=congrArg List.length e;walk_at "7";rw[aI];omega
 ·rintro D i x ys H' hD hx ⟨gs,rfl,s1,hDD,ga,e⟩;walk_at "0";obtain⟨f,hf,rfl⟩:=fW.mp hx;have fa:=s1 _ _ (ha f (e7 hf));walk_at "rd";refine⟨_,aS.of fa,rfl,_,_,rfl,_,_,rfl,_,_,rfl,_,_,rfl,_,_,rfl,rfl,.no (.no (.no (.no (.no .nil)))),by walk_at "s", λq hq=>?_⟩;have s2:=a_ (o:=HO.tup [V.int f.at_,V.str f.rule,V.str f.name,V.int f.add,V.bl f.soft]) hq;refine⟨s2 _ _ hDD,gs++[{ f with a:=q }],by simp,f7 hD (s1.trans s2),aD,λg hg=>?_,?_⟩
  ·have bt:fb (upd H' q (HO.tup [V.int f.at_,V.str f.rule,V.str f.name,V.int f.add,V.bl f.soft])) (upd (upd H' q (HO.tup [V.int f.at_,V.str f.rule,V.str f.name,V.int f.add,V.bl f.soft])) D (HO.lst (gs.map ai.v++[V.ref q]))) D:=fb.upd (s2 _ _ hDD);rcases cy.mp hg with z|z
   ·exact ai.At.but (ai.At.mono (ga g z) s2) bt
   ·rw[cD.mp z];exact bt.tup aD
  ·rw[bP,e,jH,hf,bP];rfl
 ·rintro D ys H' hD ⟨gs,rfl,s1,hDD,ga,e⟩;walk_at "1";exact k D gs H' s1 hD hDD ga e
theorem TZ(T:Txt K mg A):aY P w K mg base cF 2 A.RY A.wF ["piece"] D6:=by
 refine T.AH.ok zO ?_ ?_;walk_at "k"
 obtain⟨p,rfl,hp,b1,b2,b3,k⟩:=h;refine⟨_,(aJ (eP (i:=1) zO.nd rfl (by walk_at "o") (kD ["kind", "step", "words", "fills"]) rfl (cJ (K:=K) rfl (tx K (pv 0))) (λ_ _ _=>⟨(bV (K:=K) (n:=4) rfl rfl (dC (pn 0 (by walk_at "n")) (dC (pn 1 (by walk_at "n")) (dC (pn 2 (by walk_at "n")) (dC (pn 3 (by walk_at "n")) bY))))),cj,(aQ (ah (pv 0) (ah (pv 1) (ah (bM (zY (K:=K) rfl) (by rfl) T.eF eO (ah (pv 2) aa)) (ah (pC (RE T) hr T.NX T.K7 T.FP (ah (pv 3) aa)) aa)))))⟩)) (aJ (eP (i:=2) zO.nd rfl (by walk_at "o") (kD ["name", "sort", "stretch", "offset"]) rfl (cJ (K:=K) rfl (tx K (pv 0))) (λ_ _ _=>⟨(bV (K:=K) (n:=4) rfl rfl (dC (pn 0 (by walk_at "n")) (dC (pn 1 (by walk_at "n")) (dC (pn 2 (by walk_at "n")) (dC (pn 3 (by walk_at "n")) bY))))),cj,(aQ (ah (pv 0) (ah (pv 1) (ah (pv 2) (ah (pv 3) aa)))))⟩)) (aX (ay (aQ (ah (tx K (pv 0)) (ah (pv 1) (ah (pv 2) aa)))))))),?_⟩;walk_at "rd";refine⟨_,aS.of hp.top,_,rfl,?_⟩;refine dH.of (xs:=p.aP.map aK.v) (by rw[aI,sizeLine_eq];omega) (aA.of hp.sl) (λD i ys H'=>∃qs:List aK,ys=qs.map aK.v/\qs.map aK.e=(p.aP.take i).map aK.e/\az H H'/\H' D=some (.lst ys)/\(∀q∈qs,q.At H')/\(∀b∈qs.flatMap aK.lists,H b=none/\b≠D)/\(qs.flatMap aK.lists).Nodup)
  (λD hD=>⟨[],rfl,rfl,a_ hD,aD,by simp,by simp,by simp⟩) ?_ ?_ ?_
 ·rintro D i ys H' hD hi ⟨qs,rfl,hc,sm,hDD,_⟩;refine⟨aA.of (sm _ _ hp.sl),hDD,?_⟩;have e:=congrArg List.length hc;rw[aI,aI]at e;rw[aI,e];exact List.length_take_le ..
 ·rintro D i x ys H' hD hx ⟨qs,rfl,hc,sm,hDD,hat,hnew,hnd⟩;walk_at "0";obtain⟨s,hs,rfl⟩:=fW.mp hx;have hm:=e7 hs;have hs':=(hp.ss s hm).mono sm;walk_at "rd";refine⟨_,aS.of hs'.top,rfl,_,_,rfl,_,_,rfl,_,_,rfl,_,_,rfl,rfl,.no (.no (.no (.no .nil))),s.lw,rfl,_,.inl (aA.of hs'.wd),λlw h1=>?_⟩;have s1:=a_ (o:=HO.lst (s.words.map V.int)) h1;have ew:upd H' lw (HO.lst (s.words.map V.int)) lw=some (HO.lst (s.words.map V.int)):=aD;generalize upd H' lw (HO.lst (s.words.map V.int))=H1 at *;refine⟨s.lf,rfl,s.fills,s1 _ _ hs'.fl,λf hf=>s1 _ _ (hs'.fs f hf),b3 s hm,λlf gs H2 s2 h2 el ga ge=>⟨by rw[sizeLine_eq];decide,λt h3=>?_⟩⟩;have s3:=a_ (o:=HO.tup [V.str s.kind,V.int s.step,V.ref lw,V.ref lf]) h3;have e1:upd H2 t (HO.tup [V.str s.kind,V.int s.step,V.ref lw,V.ref lf]) lw=some (HO.lst (s.words.map V.int)):=s3 _ _ (s2 _ _ ew);have e2:=s3 _ _ el;have e3:upd H2 t (HO.tup [V.str s.kind,V.int s.step,V.ref lw,V.ref lf]) t=some (HO.tup [V.str s.kind,V.int s.step,V.ref lw,V.ref lf]):=aD;have n2:lw≠lf:=bD ew h2;have d1:lw≠D:=Ne.symm (bD hDD h1);have d2:lf≠D:=Ne.symm (bD (s1 _ _ hDD) h2);have sA:=(s1.trans s2).trans s3;generalize upd H2 t (HO.tup [V.str s.kind,V.int s.step,V.ref lw,V.ref lf])=H3 at *;have bt:fb H3 (upd H3 D (HO.lst (qs.map aK.v++[V.ref t]))) D:=fb.upd (sA _ _ hDD);refine⟨sA _ _ hDD,qs++[⟨t,lw,lf,s.kind,s.step,s.words,gs⟩],by simp,?_,f7 hD (sm.trans sA),aD,λq hq=>?_,λb hb=>?_,?_⟩
  ·rw[bP,hc,jH,hs,bP];congr 1;show [(s.kind,s.step,s.words,gs.map ai.e)]=[(s.kind,s.step,s.words,s.fills.map ai.e)];rw[ge]
  ·rcases cy.mp hq with z|z
   ·exact((hat q z).mono sA).but bt λy=>(hnew D (g7.mpr ⟨q,z,y⟩)).2 rfl
   ·rw[cD.mp z];exact⟨bt.tup e3,bt.2 _ _ e1 d1,bt.2 _ _ e2 d2,λf hf=>ai.At.but (ai.At.mono (ga f hf) s3) bt⟩
  ·rw[LB]at hb;rcases cy.mp hb with z|z
   ·exact hnew b z
   ·simp[aK.lists]at z;rcases z with e|e
    ·rw[e];exact⟨sm.free h1,d1⟩
    ·rw[e];exact⟨(sm.trans s1).free h2,d2⟩
  ·rw[LB];refine lD.mpr ⟨hnd,by simp[aK.lists,n2],λx hx y hy e=>?_⟩;obtain⟨q,hq,hb'⟩:=g7.mp hx;obtain⟨xs,he⟩:=(hat q hq).list hb';simp[aK.lists]at hy;rcases hy with z|z
   ·rw[e,z,h1]at he;cases he
   ·have:=s1 _ _ he;rw[e,z,h2]at this;cases this
 ·rintro D ys H' hD ⟨qs,rfl,hc,sm,hDD,hat,hnew,hnd⟩;rw[aI,iR]at hc;have hpm:=hp.mono sm;refine⟨_,aS.of hpm.top,_,rfl,?_⟩;refine dH.of (xs:=p.aH.map aj.v) (by rw[aI,sizeLine_eq];omega) (aA.of hpm.nl) (λD2 i ys H2=>∃gs:List aj,ys=gs.map aj.v/\az H' H2/\H2 D2=some (.lst ys)/\(∀g∈gs,aj.At H2 g)/\gs.map aj.e=(p.aH.take i).map aj.e)
   (λD2 hD2=>⟨[],rfl,a_ hD2,aD,(λq hq=>by cases hq),rfl⟩) ?_ ?_ ?_
  ·rintro D2 i ys H2 hD2 hi ⟨gs,rfl,s1,hDD2,ga,e⟩;refine⟨aA.of (s1 _ _ hpm.nl),hDD2,?_⟩;have:=congrArg List.length e;walk_at "7";rw[aI];omega
  ·rintro D2 i x ys H2 hD2 hx ⟨gs,rfl,s1,hDD2,ga,e⟩;walk_at "0";obtain⟨f,hf,rfl⟩:=fW.mp hx;have fa:=s1 _ _ (hpm.ns f (e7 hf));walk_at "rd";refine⟨_,aS.of fa,rfl,_,_,rfl,_,_,rfl,_,_,rfl,_,_,rfl,rfl,.no (.no (.no (.no .nil))),by walk_at "s", λq hq=>?_⟩;have s2:=a_ (o:=HO.tup [V.str f.name,V.str f.sort,V.int f.st,V.int f.off]) hq;refine⟨s2 _ _ hDD2,gs++[{ f with a:=q }],by simp,f7 hD2 (s1.trans s2),aD,λg hg=>?_,?_⟩
   ·have bt:fb (upd H2 q (HO.tup [V.str f.name,V.str f.sort,V.int f.st,V.int f.off])) (upd (upd H2 q (HO.tup [V.str f.name,V.str f.sort,V.int f.st,V.int f.off])) D2 (HO.lst (gs.map aj.v++[V.ref q]))) D2:=fb.upd (s2 _ _ hDD2);rcases cy.mp hg with z|z
    ·exact aj.At.but (aj.At.mono (ga g z) s2) bt
    ·rw[cD.mp z];exact bt.tup aD
   ·rw[bP,e,jH,hf,bP];rfl
  ·rintro D2 ys H2 hD2 ⟨gs,rfl,s1,hDD2,ga,e⟩;walk_at "1";refine⟨_,aS.of (s1 _ _ hpm.top),_,rfl,by walk_at "s", λt ht=>?_⟩;have s2:=a_ (o:=HO.tup [V.str p.name,V.ref D,V.ref D2]) ht;have nl:∀b∈qs.flatMap aK.lists,b≠D2:=λb hb=>by
    obtain⟨q,hq,hb'⟩:=g7.mp hb;obtain⟨xs,e⟩:=(hat q hq).list hb';exact bD e hD2
   refine k ⟨t,D,D2,p.name,qs,gs⟩ _ ((sm.trans s1).trans s2) ⟨aD,s2 _ _ (s1 _ _ hDD),s2 _ _ hDD2,λq hq=>(hat q hq).mono (s1.trans s2),λn hn=>aj.At.mono (ga n hn) s2⟩ ?_ (λb hb=>?_) ?_
   ·unfold aL;rw[hc,e]
   ·simp only[ao.lists,List.mem_cons]at hb;rcases hb with e|e|e
    ·rw[e];exact hD
    ·rw[e];exact sm.free hD2
    ·exact(hnew b e).1
   ·show(D::D2::qs.flatMap aK.lists).Nodup;refine jB.mpr ⟨λz=>?_,jB.mpr ⟨λz=>nl D2 z rfl,hnd⟩⟩;rcases hZ.mp z with e|e
    ·exact bD hDD hD2 e
    ·exact(hnew D e).2 rfl
theorem iN.l1(t:iN):List.lookup s!"pieces" t.attrs=some (.ref t.lp):=rfl
theorem iN.l2(t:iN):List.lookup s!"reasons" t.attrs=some (.ref t.lr):=rfl
theorem iN.l3(t:iN):List.lookup s!"told_by_given" t.attrs=some (.ref t.dg):=rfl
theorem iN.l4(t:iN):List.lookup s!"on_shelves" t.attrs=some (.ref t.ds):=rfl
theorem iN.l5(t:iN):List.lookup s!"from_shelves" t.attrs=some (.ref t.df):=rfl
theorem iN.l6(t:iN):List.lookup s!"unmet" t.attrs=some (.ref t.du):=rfl
theorem Kn(o:zb C H t G S T rs)(kp:Mo t H H'){b:Addr}{xs:List V}(h:H b=some (.lst xs))(n1:b≠t.lp)(n2:b≠t.lr):H' b=some (.lst xs):=kp b _ n1 n2 (λe=>by rw[e,o.df]at h;cases h) h
theorem ko(o:zb C H t G S T rs)(kp:Mo t H H'){b:Addr}{xs:List V}(h:H b=some (.tup xs)):H' b=some (.tup xs):=kp b _ (λe=>by rw[e,o.lp]at h;cases h) (λe=>by rw[e,o.lr]at h;cases h) (λe=>by rw[e,o.df]at h;cases h) h
theorem U_(o:zb C H t G S T rs)(kp:Mo t H H'){p:ao}(h:p.At H)(n1:t.lp∉p.lists)(n2:t.lr∉p.lists):p.At H':=by
 have ls:∀b∈p.lists,∀xs,H b=some (.lst xs)->H' b=some (.lst xs):=λb hb xs e=>Kn o kp e (λq=>n1 (q▸hb)) (λq=>n2 (q▸hb));refine⟨ko o kp h.top,ls _ (by simp[ao.lists]) _ h.sl,ls _ (by simp[ao.lists]) _ h.nl,λs hs=>?_,λn hn=>ko o kp (h.ns n hn)⟩;have hs':=h.ss s hs;have m:∀b∈s.lists,b∈p.lists:=λb hb=>by
  simp only[ao.lists,List.mem_cons];exact .inr (.inr (g7.mpr ⟨s,hs,hb⟩))
 exact⟨ko o kp hs'.top,ls _ (m _ (by simp[aK.lists])) _ hs'.wd,ls _ (m _ (by simp[aK.lists])) _ hs'.fl,λf hf=>ko o kp (hs'.fs f hf)⟩
theorem len_sub{l m:List Str}(h:l.Nodup)(s:∀x∈l,x∈m):l.length<=m.length:=by
 induction l generalizing m with
 |nil=>exact gH _
 |cons x r ih=>
  obtain⟨h1,h2⟩:=jB.mp h;have hx:=s x lO;have:=ih (m:=m.erase x) h2 λy hy=>(List.mem_erase_of_ne (λ(e:y=x)=>h1 (e▸hy))).mpr (s y (h8 _ hy));rw[List.length_erase_of_mem hx]at this;have:=List.length_pos_of_mem hx;rw[zS];omega
theorem GR{ps:List ao}(nd:(ps.map ao.name).Nodup){p q:ao}(hp:p∈ps)(hq:q∈ps)(e:p.name=q.name):p=q:=by
 induction ps with
 |nil=>cases hp
 |cons x r ih=>
  rw[lF,jB]at nd;rcases hZ.mp hp with a|a<;>rcases hZ.mp hq with b|b
  ·rw[a,b]
  ·exact absurd (bI.mpr ⟨q,b,by rw[<-e,a]⟩) nd.1
  ·exact absurd (bI.mpr ⟨p,a,by rw[e,b]⟩) nd.1
  ·exact ih nd.2 a b
theorem A4.snoc(h:A4 G S e T rs)(h1:eB G z=none)(h2:eB S z=some p)(n:p.1∉T.map (·.1))(wy:b=s!"" /\ z=e\/∃q∈G++T,q.1=b/\cO z q=true):A4 G S e (T++[p]) (rs++[(p.1,z,b)]):=by
 have hl:rs.length=T.length:=by have:=congrArg List.length h.len;rwa [aI,aI]at this
 refine⟨?_,λq hq=>?_,by rw[bP,bP,h.len];rfl,λi q r hq hr=>?_⟩
 ·rw[bP];exact lD.mpr ⟨h.nd,by simp,λx hx y hy e=>n (by rw[List.map_cons,List.map_nil,List.mem_singleton]at hy;rw[<-hy,<-e];exact hx)⟩
 ·rcases cy.mp hq with y|y
  ·exact h.sub q y
  ·rw[cD.mp y];exact BZ h2
 ·by_cases hi:i<T.length
  ·rw[LD hi]at hq;rw[LD (by omega)]at hr;rw[VO (by omega)];exact h.X_ i q r hq hr
  ·have hi2:i=T.length:=by
    have:=(hV.mp hq).1;rw[eY,Pp]at this;omega
   rw[hi2,LG (bw _),Nat.sub_self]at hq;rw[hi2,<-hl,LG (bw _),Nat.sub_self]at hr;have hq:=Option.some.inj hq;have hr:=Option.some.inj hr;rw[<-hq,<-hr,hi2,VO (bw _),iR];exact⟨h1,h2,wy⟩
theorem NG(T:Txt K mg A):aY P w K mg base cF 1 A.Ui A.oO ["self", "name", "by"] (zH A.aG):=by
 refine T.AB.ok Ka ?_ ?_;walk_at "k"
 obtain⟨t,z,b,e,G,S,Tp,rs,rfl,o,bd,mt,tc,wy,k⟩:=h;refine⟨_,(aJ (aO (gc (zW (bC hr) (pv 1) (bN (pv 0) rfl))) (aX v5) eL) (aJ (aO (gc (e_ (bC hr) (pv 1) (bN (pv 0) rfl))) (aJ cB (aX v5)) eL) (aJ (pS 3 Ka.nd (fB (bC hr) (bN (pv 0) rfl) (pv 1) (λ_ _=>rfl))) (aX (aO (gc (e_ (bC hr) (tx K (pv 3)) (bN (pv 0) rfl))) (aJ (cT (bC hr) (bN (pv 0) rfl) (tx K (pv 3)) dy rfl) (aJ (dh (dE (bN (pv 0) rfl) (ah (pv 3) aa))) (aX (dh (dE (bN (pv 0) rfl) (ah (aQ (ah (tx K (pv 3)) (ah (pv 1) (ah (pv 2) aa)))) aa)))))) eL))))),?_⟩;walk_at "rd";obtain⟨kg,hkg,vg⟩:=o.dg;obtain⟨ks,hks,vs⟩:=o.ds;have gg:=bT.k (k:=Sum.inr z) hkg;have gs:=bT.k (k:=Sum.inr z) hks;rw[vg]at gg;rw[vs]at gs;have fG:=iQ G z;have fS:=iQ S z;refine⟨_,_,_,o.top,T.bG,T.bF,_,t.l3,t.dg,rfl,_,gg,cX (λh=>?_) (λh=>?_)⟩
 ·refine k [] rs H (by rw[Ed];exact o) (λb o _ _ _ e=>e) (by rw[Ed];exact tc) (.inl ?_);rw[fG];cases q:c_ G z with
  |none=>rw[q]at h;cases h
  |some u=>rfl
 ·have nG:c_ G z=none:=by
   cases q:c_ G z with
   |none=>rfl
   |some u=>rw[q]at h;exact absurd rfl h
  rw[nG]at fG;cases q:c_ S z with
  |none=>
   rcases mt with m|m
   ·rw[fG]at m;cases m
   ·rw[fS,q]at m;cases m
  |some p=>
   rw[q]at gs fS;have pS:p∈S:=BZ q;obtain⟨pa,n1,n2⟩:=o.at_ p (jW _ pS);refine⟨_,_,_,o.top,T.bG,T.bE,_,t.l4,t.ds,rfl,_,gs,?_⟩;rw[if_neg (by simp)];have ndS:(S.map ao.name).Nodup:=by have:=bd.nd;rw[bP]at this;exact(lD.mp this).2.1
   have gf:=bT.k (k:=Sum.inr p.name) o.df;refine⟨_,_,_,o.top,T.bG,T.bE,_,t.l4,t.ds,rfl,_,gs,_,rfl,_,aS.of pa.top,_,rfl,_,_,_,o.top,T.bG,T.bq,_,t.l5,t.df,rfl,_,gf,?_⟩;by_cases m:p.name∈Tp.map ao.name
   ·rw[Jd m,if_neg (by decide)];obtain⟨u,hu,eu⟩:=bI.mp m;have eu:=GR ndS (o.sub u hu) pS eu;exact k [] rs H (by rw[Ed];exact o) (λb o _ _ _ e=>e) (by rw[Ed];exact tc) (.inr ⟨aL p,bI.mpr ⟨p,by rw[Ed,<-eu];exact hu,rfl⟩,fS⟩)
   ·rw[Al m,if_pos (by decide)];have hl:Tp.length<=14:=by
     have h1:=tc.nd;have:(Tp.map ao.name).length<=(S.map ao.name).length:=len_sub (by rw[fX]at h1;exact h1) λy hy=>by
      obtain⟨u,hu,rfl⟩:=bI.mp hy;exact bI.mpr ⟨u,o.sub u hu,rfl⟩
     walk_at "3";have b:=bd.d7;rw[eY]at b;omega
    have hlG:G.length<=14:=by have b:=bd.d7;rw[eY]at b;omega
    have hrl:rs.length=Tp.length:=by have:=congrArg List.length tc.len;rwa [aI,aI,aI,aI]at this
    have nx1:t.x≠t.df:=λe=>by have:=o.top;rw[e,o.df]at this;cases this
    have nx2:t.x≠t.lp:=λe=>by have:=o.top;rw[e,o.lp]at this;cases this
    have nx3:t.x≠t.lr:=λe=>by have:=o.top;rw[e,o.lr]at this;cases this
    have nl1:t.lp≠t.df:=λe=>by have:=o.lp;rw[e,o.df]at this;cases this
    have nl2:t.lr≠t.df:=λe=>by have:=o.lr;rw[e,o.df]at this;cases this
    have np1:p.t≠t.df:=λe=>by have:=pa.top;rw[e,o.df]at this;cases this
    have np2:p.t≠t.lp:=λe=>by have:=pa.top;rw[e,o.lp]at this;cases this
    refine⟨_,_,_,o.top,T.bG,T.bq,_,t.l5,_,rfl,_,aS.of pa.top,_,rfl,t.df,rfl,_,dG.k (k:=Sum.inr p.name) o.df (by rw[aI,aI,sizeLine_eq];omega),?_⟩;rw[O_];unfold addW;rw[if_neg m];have a1:upd H t.df (HO.dK ((Tp.map ao.name++[p.name]).map jJ)) t.df=some (HO.dK ((Tp.map ao.name++[p.name]).map jJ)):=aD;have k1:∀b u,b≠t.df->H b=some u->upd H t.df (HO.dK ((Tp.map ao.name++[p.name]).map jJ)) b=some u:=λb u n e=>by rw[ae n];exact e
    generalize upd H t.df (HO.dK ((Tp.map ao.name++[p.name]).map jJ))=H1 at *;have lp1:=k1 _ _ nl1 o.lp;refine⟨_,_,_,k1 _ _ nx1 o.top,T.bG,T.bH,_,t.l1,.inl ⟨rfl,_,aA.of lp1⟩,t.lp,rfl,_,lp1,by rw[aI,eY,sizeLine_eq];omega,?_⟩;have a2:upd H1 t.lp (HO.lst ((G++Tp).map ao.v++[V.ref p.t])) t.lp=some (HO.lst ((G++Tp).map ao.v++[V.ref p.t])):=aD;have k2:∀b u,b≠t.lp->H1 b=some u->upd H1 t.lp (HO.lst ((G++Tp).map ao.v++[V.ref p.t])) b=some u:=λb u n e=>by rw[ae n];exact e
    generalize upd H1 t.lp (HO.lst ((G++Tp).map ao.v++[V.ref p.t]))=H2 at *;have lr2:=k2 _ _ (Ne.symm o.ne) (k1 _ _ nl2 o.lr);refine⟨_,_,_,k2 _ _ nx2 (k1 _ _ nx1 o.top),T.bG,T.cR,_,t.l2,.inl ⟨rfl,_,aA.of lr2⟩,_,rfl,_,aS.of (k2 _ _ np2 (k1 _ _ np1 pa.top)),_,rfl,by walk_at "s", λr hr=>⟨t.lr,rfl,_,a_ hr _ _ lr2,by rw[aI,sizeLine_eq];omega,?_⟩⟩;have s3:=a_ (o:=HO.tup [V.str p.name,V.str z,V.str b]) hr;have a3:upd H2 r (HO.tup [V.str p.name,V.str z,V.str b]) r=some (HO.tup [V.str p.name,V.str z,V.str b]):=aD;generalize upd H2 r (HO.tup [V.str p.name,V.str z,V.str b])=H3 at *;have k4:∀b u,b≠t.lr->H3 b=some u->upd H3 t.lr (HO.lst (rs.map (λr=>V.ref r.1)++[V.ref r])) b=some u:=λb u n e=>by rw[ae n];exact e
    have kp:Mo t H (upd H3 t.lr (HO.lst (rs.map (λr=>V.ref r.1)++[V.ref r]))):=λb u m1 m2 m3 e=>k4 b u m2 (s3 _ _ (k2 _ _ m1 (k1 _ _ m3 e)));have nr:r≠t.lr:=Ne.symm (bD lr2 hr);refine k [p] (rs++[(r,p.name,z,b)]) _ ⟨?_,?_,?_,?_,?_,?_,?_,?_,?_,o.ne,o.nf,?_⟩ kp ?_ ?_
    ·exact kp _ _ nx2 nx3 nx1 o.top
    ·rw[<-N5,bP];exact k4 _ _ o.ne (s3 _ _ a2)
    ·rw[aD,bP];rfl
    ·intro y hy;rcases cy.mp hy with c|c
     ·exact ko o kp (o.rs y c)
     ·rw[cD.mp c];exact k4 _ _ nr a3
    ·exact⟨kg,kp _ _ (λe=>by rw[e,o.lp]at hkg;cases hkg) (λe=>by rw[e,o.lr]at hkg;cases hkg) o.nf.1 hkg,vg⟩
    ·exact⟨ks,kp _ _ (λe=>by rw[e,o.lp]at hks;cases hks) (λe=>by rw[e,o.lr]at hks;cases hks) o.nf.2.1 hks,vs⟩
    ·rw[bP];exact k4 _ _ (Ne.symm nl2) (s3 _ _ (k2 _ _ (Ne.symm nl1) a1))
    ·have du:=o.du;exact kp _ _ (λe=>by rw[e,o.lp]at du;cases du) (λe=>by rw[e,o.lr]at du;cases du) o.nf.2.2 du
    ·intro y hy;obtain⟨ya,m1,m2⟩:=o.at_ y hy;exact⟨U_ o kp ya m1 m2,m1,m2⟩
    ·intro y hy;rcases cy.mp hy with c|c
     ·exact o.sub y c
     ·rw[cD.mp c];exact pS
    ·rw[bP,bP];refine tc.snoc fG fS (λc=>m ?_) (wy.imp id λ⟨y,hy,e1,e2⟩=>⟨aL y,by rw[<-bP];exact bI.mpr ⟨y,hy,rfl⟩,e1,e2⟩);rw[fX]at c;exact c
    ·exact .inr ⟨aL p,bI.mpr ⟨p,by simp,rfl⟩,fS⟩
theorem EX(bd:MG G S e)(tc:A4 (G.map aL) (S.map aL) e (T.map aL) rs)(sub:∀p∈T,p∈S):(G++T).length<=14:=by
 have h1:=tc.nd;have:(T.map ao.name).length<=(S.map ao.name).length:=len_sub (by rw[fX]at h1;exact h1) λy hy=>by
  obtain⟨u,hu,rfl⟩:=bI.mp hy;exact bI.mpr ⟨u,sub u hu,rfl⟩
 walk_at "3";have b:=bd.d7;rw[eY]at b ⊢;omega
theorem ki(U:List Co)(h:j5 G S T z):j5 G S (T++U) z:=h.imp id λ⟨p,hp,e⟩=>⟨p,lC _ hp,e⟩
theorem zb.mono{C:Addr}{H H':Hp}{t:iN}{G S T:List ao}{rs:List LI}(o:zb C H t G S T rs)(s:az H H'):zb C H' t G S T rs:=
 ⟨s _ _ o.top,s _ _ o.lp,s _ _ o.lr,λr hr=>s _ _ (o.rs r hr),o.dg.imp λ_ h=>⟨s _ _ h.1,h.2⟩,o.ds.imp λ_ h=>⟨s _ _ h.1,h.2⟩,s _ _ o.df,s _ _ o.du,λp hp=>have h:=o.at_ p hp;⟨h.1.mono s,h.2⟩,o.ne,o.nf,o.sub⟩
theorem Uk(T:Txt K mg A):aY P w K mg base cF 3 A.Ut A.nY ["self"] (OQ A.aG):=by
 refine T.B9.ok kJ ?_ ?_;walk_at "k"
 obtain⟨t,e,G,S,Tp,rs,rfl,o,bd,tc,cv,k⟩:=h;refine⟨_,(aJ (pS 1 kJ.nd af) (aX (IZ PassesOwn.never (eZ lB (pv 1) (cG (gj (K:=K) rfl) (by rfl) T.cL b0 (ah (bN (pv 0) rfl) aa)) (aB _)) (aJ (pS 2 kJ.nd (cw (fj (K:=K) rfl) (bN (pv 0) rfl) (pv 1) (λ_ _=>rfl))) (aJ (pF (cJ (K:=K) rfl (pC (MT T) hr T.Ax T.pH T.qg (ah (pv 2) aa))) (pn 3 kJ.nd) (aX (dh (fC (pv 0) T.bG T.zL (NG T) (hr.mono (by decide)) T.Bz .nil dB (ah (pv 3) (ah (tx K (pv 2)) aa)))))) (aX (OD (i:=1) kJ.nd rfl (by walk_at "o") af Qe))))))),?_⟩;walk_at "rd";refine⟨λm σ Hc=>∃(dn:Nat) (Tc:List ao) (rc:List LI) (b2 b3:Option V),σ=[some (V.ref t.x),some (V.int dn),b2,b3]/\zb A.aG Hc t G S Tc rc/\Mo t H Hc/\A4 (G.map aL) (S.map aL) e (Tc.map aL) (rc.map (·.2))/\j5 (G.map aL) (S.map aL) (Tc.map aL) e/\m+dn=15/\dn<=(G++Tc).length/\∀q∈(G++Tc).take dn,∀z,cO z (aL q)=true->j5 (G.map aL) (S.map aL) (Tc.map aL) z,
  ⟨15,0,Tp,rs,_,_,rfl,o,λb o _ _ _ e=>e,tc,cv,rfl,gH _,λq hq=>by simp at hq⟩,?_⟩
 rintro m σ Hc ⟨dn,Tc,rc,b2,b3,rfl,oc,kc,tcc,cvc,hm,hd,cl⟩;have bl:=EX bd tcc oc.sub;walk_at "rd";refine⟨_,_,_,oc.top,T.bG,T.bH,_,t.l1,_,.inl ⟨_,aA.of oc.lp,by rw[aI]⟩,cX (λhlt=>?_) (λhge=>?_)⟩
 ·have hlt:dn<(G++Tc).length:=by have:=of_decide_eq_true hlt;omega
  obtain⟨m',rfl⟩:∃m',m=m'+1:=⟨m - 1,by omega⟩
  have hp:(G++Tc)[dn]?=some (G++Tc)[dn]:=lz hlt;have hmem:(G++Tc)[dn]∈G++Tc:=Om hlt;generalize (G++Tc)[dn]=p at hp hmem;have hpS:p∈G++S:=(cy.mp hmem).elim (lC _) λy=>jW _ (oc.sub p y);obtain⟨pa,n1,n2⟩:=oc.at_ p hpS;refine⟨λσ' H'=>∃(dn:Nat) (Tc:List ao) (rc:List LI) (b2 b3:Option V),σ'=[some (V.ref t.x),some (V.int dn),b2,b3]/\zb A.aG H' t G S Tc rc/\Mo t H H'/\A4 (G.map aL) (S.map aL) e (Tc.map aL) (rc.map (·.2))/\j5 (G.map aL) (S.map aL) (Tc.map aL) e/\m'+dn=15/\dn<=(G++Tc).length/\∀q∈(G++Tc).take dn,∀z,cO z (aL q)=true->j5 (G.map aL) (S.map aL) (Tc.map aL) z,λσ' H' z=>⟨m',Tw _,z⟩,?_⟩;refine⟨_,_,_,oc.top,T.bG,T.bH,_,t.l1,_,rfl,_,aA.of oc.lp,_,dJ (by rw[jA,hp];rfl),p,rfl,pa,bd.CZ p hpS,λl H2 s2 ⟨ss,pm,pw,hl2⟩ hl=>?_⟩;have o2:=oc.mono s2;have nl1:l≠t.lp:=Ne.symm (bD oc.lp hl);have nl2:l≠t.lr:=Ne.symm (bD oc.lr hl);refine eM.of (xs:=ss.map V.str) (λj σ H3=>∃(T':List ao) (rc':List LI) (b3:Option V),σ=[some (V.ref t.x),some (V.int dn),some p.v,b3]/\zb A.aG H3 t G S (Tc++T') rc'/\Mo t H2 H3/\A4 (G.map aL) (S.map aL) e ((Tc++T').map aL) (rc'.map (·.2))/\∀z∈ss.take j,j5 (G.map aL) (S.map aL) ((Tc++T').map aL) z)
   ⟨[],rc,_,rfl,by rw[Ed];exact o2,(λb o _ _ _ e=>e),by rw[Ed];exact tcc,λz hz=>by simp at hz⟩ ?_ ?_ ?_
  ·rintro j σ H3 hj ⟨T',rc',b3,rfl,o3,k3,_⟩;exact aA.of (Kn o2 k3 hl2 nl1 nl2)
  ·rintro j v σ H3 hv ⟨T',rc',b3,rfl,o3,k3,tc3,c3⟩;walk_at "4";obtain⟨y,hy,rfl⟩:=fW.mp hv;have tj:ss.take (j+1)=ss.take j++[y]:=by rw[jH,hy];rfl
   have wy:cO y (aL p)=true:=yA.mp (pm.mem_iff.mp (e7 hy));obtain⟨pa3,_⟩:=o3.at_ p hpS;walk_at "rd";refine⟨_,_,o3.top,rfl,_,aS.of pa3.top,_,rfl,t,rfl,_,rfl,e,G,S,Tc++T',rc',o3,bd,bd.met p hpS y wy,tc3,.inr ⟨p,?_,rfl,wy⟩,λU rc2 H4 o4 k4 tc4 c4=>⟨T'++U,rc2,?_⟩⟩
   ·rw[<-N5];exact lC _ hmem
   ·rw[<-N5];refine⟨o4,λb u m1 m2 m3 h=>k4 b u m1 m2 m3 (k3 b u m1 m2 m3 h),tc4,λz hz=>?_⟩;rw[tj]at hz;rcases cy.mp hz with y1|y1
    ·rw[bP];exact ki _ (c3 z y1)
    ·rw[cD.mp y1];exact c4
  ·rintro σ H3 ⟨T',rc',b3,rfl,o3,k3,tc3,c3⟩;rw[aI,iR]at c3;walk_at "rd";refine⟨dn+1,by simp,Tc++T',rc',o3,λb u m1 m2 m3 h=>k3 b u m1 m2 m3 (s2 _ _ (kc b u m1 m2 m3 h)),tc3,by rw[List.map_append];exact ki _ cvc,by omega,by rw[<-List.append_assoc,List.length_append];omega,λq hq z hz=>?_⟩;rw[<-N5,VO (by omega),jH,hp]at hq;rcases cy.mp hq with y1|y1
   ·rw[bP];exact ki _ (cl q y1 z hz)
   ·have e1:q=p:=cD.mp y1;rw[e1]at hz;exact c3 z (pm.mem_iff.mpr (yA.mpr hz))
 ·have hge:dn=(G++Tc).length:=by
   have:=of_decide_eq_false (Bool.eq_false_iff.mpr hge);omega
  rw[hge,iR]at cl;refine k Tc rc Hc oc kc tcc ⟨cvc,λq hq z hz=>?_⟩;rw[<-bP]at hq;obtain⟨u,hu,rfl⟩:=bI.mp hq;exact cl u hu z hz
theorem yw{H0 H:Hp}{x:Addr}{o:HO}(fr:∀b o,b≠x->H0 b=some o->H b=some o):∀b u,b≠x->H0 b=some u->upd H x o b=some u:=λb u n e=>by rw[ae n];exact fr b u n e
theorem Tv(T:Txt K mg A):aY P w K mg base cF 4 A.Ry A.sP ["self", "given", "shelves", "entry"] (C6 A.aG):=by
 refine T.Ba.ok KI ?_ ?_;walk_at "k"
 obtain⟨x,dx,g,s,e,G,xs,rfl,hx,⟨hG,hS,bd⟩,k⟩:=h;refine⟨_,(aJ (pS 4 KI.nd (pC (RI T) hr T.Oo T.JZ T.Jp (ah (pv 2) aa))) (aJ (dh (pC (SN T) hr T.Oa T.Iv T.GI (ah (ax (IS (K:=K) rfl) (pv 1) (pv 4)) aa))) (aJ (cA (pv 0) (bM (zY (K:=K) rfl) (by rfl) T.eF eO (ah (pv 1) aa)) rfl) (aJ (cA (pv 0) (bx aa) rfl) (aJ (cA (pv 0) (pC (NH T) hr T.Lx T.Bm T.Bv (ah (pv 1) aa)) rfl) (aJ (cA (pv 0) (pC (NH T) hr T.Lx T.Bm T.Bv (ah (pv 4) aa)) rfl) (aJ (cA (pv 0) cg rfl) (aJ (cA (pv 0) cg rfl) (aJ (dh (fC (pv 0) T.bG T.zL (NG T) (hr.mono (by decide)) T.Bz .nil dB (ah (pv 3) (ah aF aa)))) (aJ (dh (kj (pv 0) T.bG T.GH (Uk T) (hr.mono (by decide)) T.EV .nil dB )) (aX (aO (kE (bN (pv 0) rfl) (λ_=>rfl)) (aJ cB (aX cB)) eL)))))))))))),?_⟩;walk_at "rd";have d7:=bd.d7;rw[eY]at d7;refine⟨xs,hS,by omega,λl H1 s1 hl e1=>⟨_,aA.of (s1 _ _ hG.top),_,aA.of e1,by rw[aI,aI,sizeLine_eq];omega,λp hp=>?_⟩⟩;have atA:∀q∈G++flat xs,q.At H:=λq hq=>(cy.mp hq).elim (hG.at_ q) λy=>by
  obtain⟨x',hx',y⟩:=g7.mp y;exact(hS.at_ x' hx').at_ q y
 have s2:=s1.trans (a_ (o:=HO.lst (G.map ao.v++(flat xs).map ao.v)) hp);refine⟨G++flat xs,⟨by rw[aD,bP],λq hq=>(atA q hq).mono s2⟩,by rw[eY];omega,bd.nd,λH2 s3=>⟨_,.inl (aA.of (s3 _ _ (s2 _ _ hG.top))),λlp hlp=>?_⟩⟩;have s4:=s2.trans s3;have e4:=s3 _ _ (a_ hp _ _ e1);clear s1 s2 s3 e1 hp;have s5:=s4.trans (a_ (o:=HO.lst (G.map ao.v)) hlp);have e5:=a_ (o:=HO.lst (G.map ao.v)) hlp _ _ e4;have lp5:upd H2 lp (HO.lst (G.map ao.v)) lp=some (HO.lst (G.map ao.v)):=aD;have lpn:H lp=none:=s4.free hlp;have nx5:=s5 _ _ hx;have n1:lp≠x:=Ne.symm (bD (s4 _ _ hx) hlp);have n1l:l≠lp:=bD e4 hlp;generalize upd H2 lp (HO.lst (G.map ao.v))=H5 at *;refine⟨_,_,_,nx5,T.bG,T.bH,by show 0<1000;decide,gH _,λlr hlr=>?_⟩;have ra:=yw (x:=x) (o:=HO.ins A.aG dx (OA lp)) (λb o _ e=>s5 b o e);have lpa:=ae n1 (H:=H5) (o:=HO.ins A.aG dx (OA lp))▸lp5;have nlx:l≠x:=λe=>by rw[e,hx]at hl;cases hl
 have la:upd H5 x (HO.ins A.aG dx (OA lp)) l=some (HO.lst ((flat xs).map ao.v)):=by rw[ae nlx];exact e5
 have xa:upd H5 x (HO.ins A.aG dx (OA lp)) x=some (HO.ins A.aG dx (OA lp)):=aD;generalize upd H5 x (HO.ins A.aG dx (OA lp))=Ha at *;have n2:lr≠x:=Ne.symm (bD xa hlr);have n12:lp≠lr:=bD lpa hlr;have lrn:H lr=none:=by
  cases q:H lr with
  |none=>rfl
  |some u=>rw[ra lr u n2 q]at hlr;cases hlr
 have sb:=a_ (o:=HO.lst []) hlr;have lrb:upd Ha lr (HO.lst []) lr=some (HO.lst []):=aD;generalize upd Ha lr (HO.lst [])=Hb at *;refine⟨_,_,_,sb _ _ xa,T.bG,T.cR,by show 1<1000;decide,?_⟩;have rc:=yw (x:=x) (o:=HO.ins A.aG dx (Pl lp lr)) (λb o n e=>sb b o (ra b o n e));have rac:=yw (x:=x) (o:=HO.ins A.aG dx (Pl lp lr)) (λb o _ e=>sb b o e);have lrc:upd Hb x (HO.ins A.aG dx (Pl lp lr)) lr=some (HO.lst []):=by rw[ae n2];exact lrb
 have xc:upd Hb x (HO.ins A.aG dx (Pl lp lr)) x=some (HO.ins A.aG dx (Pl lp lr)):=aD;generalize upd Hb x (HO.ins A.aG dx (Pl lp lr))=Hc at *;have insx:(∀xs:List V,HO.ins A.aG dx []≠.lst xs)/\∀xs:List V,HO.ins A.aG dx []≠.tup xs:=⟨(λ_ z=>by cases z),(λ_ z=>by cases z)⟩
 refine⟨G,VB (EA hx insx rc) hG,by omega,λp hp=>bd.CZ p (lC _ hp),λdg Hd sd hdg fg=>⟨_,_,_,sd _ _ xc,T.bG,T.bF,by show 2<1000;decide,?_⟩⟩;have n3:dg≠x:=Ne.symm (bD xc hdg);have rce:=yw (x:=x) (o:=HO.ins A.aG dx (Q1 lp lr dg)) (λb o _ e=>sd b o e);have rde:=yw (H0:=Hd) (x:=x) (o:=HO.ins A.aG dx (Q1 lp lr dg)) (λb o _ e=>e);have xe:upd Hd x (HO.ins A.aG dx (Q1 lp lr dg)) x=some (HO.ins A.aG dx (Q1 lp lr dg)):=aD;generalize upd Hd x (HO.ins A.aG dx (Q1 lp lr dg))=He at *;have re:∀b o,b≠x->H b=some o->He b=some o:=λb o n e=>rce b o n (rc b o n e);have le:=rce _ _ nlx (rac _ _ nlx la);refine⟨flat xs,⟨le,λp hp=>jo (EA hx insx re) (atA p (jW _ hp))⟩,by omega,λp hp=>bd.CZ p (jW _ hp),λds Hf sf hds fs=>⟨_,_,_,sf _ _ xe,T.bG,T.bE,by show 3<1000;decide,λdf hdf=>?_⟩⟩;obtain⟨kg,hkg,vg⟩:=fg;obtain⟨ks,hks,vs⟩:=fs;have n4:ds≠x:=Ne.symm (bD xe hds);have rfg:=yw (H0:=Hf) (x:=x) (o:=HO.ins A.aG dx (Se lp lr dg ds)) (λb o _ e=>e);have xg:upd Hf x (HO.ins A.aG dx (Se lp lr dg ds)) x=some (HO.ins A.aG dx (Se lp lr dg ds)):=aD;generalize upd Hf x (HO.ins A.aG dx (Se lp lr dg ds))=Hg at *;have AE:∀b o,b≠x->He b=some o->Hg b=some o:=λb o n e=>rfg b o n (sf b o e);have dgg:=AE _ _ n3 (rde _ _ n3 hkg);have dsg:=rfg _ _ n4 hks;have n5:df≠x:=Ne.symm (bD xg hdf);have sh:=a_ (o:=HO.dK []) hdf;have dfh:upd Hg df (HO.dK []) df=some (HO.dK []):=aD
 have dfn:H df=none:=by
  cases q:H df with
  |none=>rfl
  |some u=>rw[AE df u n5 (re df u n5 q)]at hdf;cases hdf
 have n35:dg≠df:=bD dgg hdf;have n45:ds≠df:=bD dsg hdf;generalize upd Hg df (HO.dK [])=Hh at *;refine⟨_,_,_,sh _ _ xg,T.bG,T.bq,by show 4<1000;decide,λdu hdu=>?_⟩;have rhi:=yw (H0:=Hh) (x:=x) (o:=HO.ins A.aG dx (VT lp lr dg ds df)) (λb o _ e=>e);have xi:upd Hh x (HO.ins A.aG dx (VT lp lr dg ds df)) x=some (HO.ins A.aG dx (VT lp lr dg ds df)):=aD;generalize upd Hh x (HO.ins A.aG dx (VT lp lr dg ds df))=Hi at *;have n6:du≠x:=Ne.symm (bD xi hdu);have n65:du≠df:=Ne.symm (bD (rhi _ _ n5 dfh) hdu);have sj:=a_ (o:=HO.dK []) hdu;have duj:upd Hi du (HO.dK []) du=some (HO.dK []):=aD;generalize upd Hi du (HO.dK [])=Hj at *;refine⟨_,_,_,sj _ _ xi,T.bG,T.dX,by show 5<1000;decide,?_⟩;have rjk:=yw (H0:=Hj) (x:=x) (o:=HO.ins A.aG dx (iN.attrs ⟨x,dx,lp,lr,dg,ds,df,du⟩)) (λb o _ e=>e);have xk:upd Hj x (HO.ins A.aG dx (iN.attrs ⟨x,dx,lp,lr,dg,ds,df,du⟩)) x=some (HO.ins A.aG dx (iN.attrs ⟨x,dx,lp,lr,dg,ds,df,du⟩)):=aD;show ∃x_18 x_19,upd Hj x (HO.ins A.aG dx (iN.attrs ⟨x,dx,lp,lr,dg,ds,df,du⟩)) x=some (HO.ins A.aG x_18 x_19)/\_;have rgk:∀b o,b≠x->Hg b=some o->upd Hj x (HO.ins A.aG dx (iN.attrs ⟨x,dx,lp,lr,dg,ds,df,du⟩)) b=some o:=λb o n e=>rjk b o n (sj _ _ (rhi b o n (sh _ _ e)));refine⟨_,_,xk,rfl,⟨x,dx,lp,lr,dg,ds,df,du⟩,rfl,e,G,flat xs,[],[],?_⟩
 have rHk:∀b o,b≠x->H b=some o->upd Hj x (HO.ins A.aG dx (iN.attrs ⟨x,dx,lp,lr,dg,ds,df,du⟩)) b=some o:=λb o n e=>rgk b o n (AE b o n (re b o n e));have o:zb A.aG (upd Hj x (HO.ins A.aG dx (iN.attrs ⟨x,dx,lp,lr,dg,ds,df,du⟩))) ⟨x,dx,lp,lr,dg,ds,df,du⟩ G (flat xs) [] []:=by
  refine⟨xk,?_,?_,(λr hr=>by cases hr),⟨kg,rgk _ _ n3 dgg,vg⟩,⟨ks,rgk _ _ n4 dsg,vs⟩,rjk _ _ n5 (sj _ _ (rhi _ _ n5 dfh)),rjk _ _ n6 duj,λp hp=>⟨jo (EA hx insx rHk) (atA p hp),λy=>?_,λy=>?_⟩,n12,⟨n35,n45,n65⟩,(λp hp=>by cases hp)⟩
  ·rw[Ed];exact rgk _ _ n1 (AE _ _ n1 (rce _ _ n1 (rac _ _ n1 lpa)))
  ·exact rgk _ _ n2 (AE _ _ n2 (rce _ _ n2 lrc))
  ·obtain⟨ys,z⟩:=(atA p hp).list y;rw[lpn]at z;cases z
  ·obtain⟨ys,z⟩:=(atA p hp).list y;rw[lrn]at z;cases z
 refine⟨o,bd,bd.ent,⟨List.nodup_nil,(λp hp=>by cases hp),rfl,(λi p r hp=>by cases hp)⟩,.inl rfl,λT' rs' Hl ol kl tl cl=>?_⟩;refine⟨_,_,ol.top,rfl,⟨x,dx,lp,lr,dg,ds,df,du⟩,rfl,e,G,flat xs,_,rs',ol,bd,tl,cl,λT2 rs2 Hm om km tm cm=>⟨_,_,_,om.top,T.bG,T.dX,_,iN.l6 _,false,.inr (.inr ⟨[],om.du,rfl⟩),?_⟩⟩;rw[if_neg (by decide)];refine k ⟨x,dx,lp,lr,dg,ds,df,du⟩ T2 rs2 Hm rfl om (λb u n h=>km b u ?_ ?_ ?_ (kl b u ?_ ?_ ?_ (rHk b u n h))) lpn lrn tm cm
 ·exact λq=>by rw[q,lpn]at h;cases h
 ·exact λq=>by rw[q,lrn]at h;cases h
 ·exact λq=>by rw[q,dfn]at h;cases h
 ·exact λq=>by rw[q,lpn]at h;cases h
 ·exact λq=>by rw[q,lrn]at h;cases h
 ·exact λq=>by rw[q,dfn]at h;cases h
theorem S5(bd:MG G S e)(tc:A4 (G.map aL) (S.map aL) e (T.map aL) rs)(sub:∀p∈T,p∈S):((G++T).map ao.name).Nodup:=by
 have h:=bd.nd;rw[bP]at h ⊢;obtain⟨h1,h2,h3⟩:=lD.mp h;refine lD.mpr ⟨h1,?_,λx hx y hy=>?_⟩
 ·have:=tc.nd;rw[fX]at this;exact this
 ·obtain⟨u,hu,rfl⟩:=bI.mp hy;exact h3 x hx _ (bI.mpr ⟨u,sub u hu,rfl⟩)
theorem le_str{so:List ao}(h:(so.map λp=>((p.name,0):bX)).Pairwise yE):(so.map ao.name).Pairwise D1:=by
 rw[List.pairwise_map]at h ⊢;refine h.imp λ{a b} h=>List.not_lt.mp λq=>?_;have h:lU (b.name,0) (a.name,0)=false:=h;rw[(fc _ _).mpr (.inl q)]at h;cases h
theorem Ds(h:d0 H L ps)(hq:q.At H)(nq:q.lists.Nodup)(fr:∀b∈q.lists,b∉L::aE ps):d0 (upd H L (.lst (ps.map ao.v++[q.v]))) L (ps++[q]):=by
 have b:fb H (upd H L (.lst (ps.map ao.v++[q.v]))) L:=fb.upd h.top;have nL:=(jB.mp h.nd).1;refine⟨by rw[aD];simp,λp hp=>?_,?_⟩
 ·rcases cy.mp hp with z|z
  ·exact(h.at_ p z).but b λy=>nL (g7.mpr ⟨p,z,y⟩)
  ·rw[cD.mp z];exact hq.but b λy=>fr _ y lO
 ·rw[fZ,<-Tr];exact lD.mpr ⟨h.nd,nq,λx hx y hy e=>fr y hy (e▸hx)⟩
theorem MY(T:Txt K mg A):aY P w K mg base cF 6 A.taken A.gD ["given", "shelves", "entry"] (HC A):=by
 refine T.jM.Y0 T.xW kL (λvs H Q E h=>?_) (λc cdv Ar outer s H vs Q E hcd hcc hr h=>?_)
 ·obtain⟨g,s,e,G,xs,rfl,_⟩:=h;rfl
 ·obtain⟨g,s,e,G,xs,rfl,hp,tb,k⟩:=h;refine⟨_,(aJ (pS 3 kL.nd (gJ T.KN (Tv T) (hr.mono (by decide)) rfl T.Hs T.Kx .nil dB (ah (pv 0) (ah (pv 1) (ah (pv 2) aa))))) (aJ (pS 4 kL.nd (yc (K:=K) (P:=A.aN) (y := "piece") rfl (hr.mono (by decide)) (bN (pv 3) rfl) (by rfl) T.d_ hcd hcc T.bm ⟨rfl,rfl,rfl,by decide +kernel,rfl,by decide +kernel,by decide +kernel⟩ (λ_ _ _ _ _ _=>(tx K (pv 0))))) (aX (ay (fH (kD ["piece"]) rfl (cJ (K:=K) rfl (pv 4)) (λ_ _ _=>⟨(pn 0 (by walk_at "n")),cj,(pC (TZ T) hr T.Nu T.HI T.IY (ah (pv 0) aa))⟩)))))),?_⟩;walk_at "rd";obtain⟨hG,hS,bd⟩:=hp;intro x dx hx hdx n;have s1:az H (upd (upd H dx (HO.own x)) x (HO.ins A.aG dx [])):=(a_ hdx).trans (a_ (by rw[ae (Ne.symm n)];exact hx));refine⟨_,aD,G,xs,⟨jY hG s1,JQ hS s1,bd⟩,λt T' rs H1 ex o r f1 f2 tc cl=>⟨_,_,_,by rw[<-ex];exact o.top,T.bG,T.bH,_,t.l1,?_⟩⟩;have s2:az H H1:=λb u e=>r b u (bD e hx) (s1 _ _ e);have tb1:=tb.more s2;have bl:=EX bd tc o.sub;have inS:∀p∈G++T',p∈G++flat xs:=λp hp=>(cy.mp hp).elim (lC _) λy=>jW _ (o.sub p y);have ndT:=S5 bd tc o.sub;have atA:∀p∈G++T',p.At H1:=λp hp=>(o.at_ p (inS p hp)).1;have hz:∀p∈G++T',zF H1 p.t=p.name/\rF H1 p.t=[.ref p.ls,.ref p.ln]:=λp hp=>by
   unfold zF rF;rw[(atA p hp).top];exact⟨rfl,rfl⟩
  refine⟨_,rfl,(G++T').map ao.t,by rw[fX];exact aA.of o.lp,zF H1,rF H1,λb hb=>?_,by rw[aI];omega,tb1,λl bs H2 hl pm pw sx tb2 hl2=>?_⟩
  ·obtain⟨p,hp,rfl⟩:=bI.mp hb;rw[(hz p hp).1,(hz p hp).2];exact(atA p hp).top
  obtain⟨ps0,hT,_⟩:=id tb1;obtain⟨so,sp,rfl⟩:=Gf atA ndT pm;have pw2:(so.map ao.name).Pairwise D1:=by
   rw[fX]at pw;rw[M4 (g:=λp:ao=>((p.name,0):bX)) λp hp=>by show(zF H1 p.t,(0:Int))=_;rw[(hz p (sp.mem_iff.mp hp)).1]]at pw;exact le_str pw
  have at2:∀p∈so,p.At H2:=λp hp=>(atA p (sp.mem_iff.mp hp)).keep hT sx;rw[fX]at hl2;have hl2:H2 l=some (.lst (so.map ao.v)):=hl2;have sln:so.length<=14:=by rw[sp.length_eq];exact bl
  have lT:l≠A.aN:=λe=>by rw[e,hT]at hl;cases hl
  refine dH.of (xs:=so.map ao.v) (by rw[aI,sizeLine_eq];omega) (aA.of hl2) (λD i ys H'=>∃qs:List ao,ys=qs.map ao.v/\az H2 H'/\d0 H' D qs/\qs.map aL=(so.take i).map aL/\∀b∈D::aE qs,H2 b=none)
   (λD hD=>⟨[],rfl,a_ hD,d0.nil aD,rfl,λb hb=>by simp[aE]at hb;rw[hb];exact hD⟩) ?_ ?_ ?_
  ·rintro D i ys H' hD hi ⟨qs,rfl,s3,hQ,e,_⟩;refine⟨aA.of (s3 _ _ hl2),hQ.top,?_⟩;have:=congrArg List.length e;walk_at "7";rw[aI];omega
  ·rintro D i x ys H' hD hx ⟨qs,rfl,s3,hQ,e,fr⟩;walk_at "0";obtain⟨p,hp,rfl⟩:=fW.mp hx;have hm:=e7 hp;have pb:=bd.CZ p (inS p (sp.mem_iff.mp hm));walk_at "rd";refine⟨.no .nil,p,rfl,(at2 p hm).mono s3,Nat.le_succ_of_le pb.st,Nat.le_succ_of_le pb.nm,λs hs=>Nat.le_succ_of_le (pb.ss s hs).2,λq H4 s4 qa qe qf qn=>⟨s4 _ _ hQ.top,qs++[q],by simp,f7 hD (s3.trans s4),?_,?_,λb hb=>?_⟩⟩
   ·exact Ds (hQ.mono s4) qa qn λb hb=>hQ.fresh (qf b hb)
   ·rw[bP,e,jH,hp,bP];congr 1;show [aL q]=[aL p];rw[qe]
   ·rw[fZ,<-Tr]at hb;rcases cy.mp hb with z|z
    ·exact fr b z
    ·exact s3.free (qf b z)
  ·rintro D ys H' hD ⟨qs,rfl,s3,hQ,e,fr⟩;walk_at "1";have f2:∀b,H2 b=none->H b=none:=λb hb=>by
    cases q:H b with
    |none=>rfl
    |some u=>
     by_cases n:b=A.aN
     ·obtain⟨w,hw,_⟩:=tb2;rw[n,hw]at hb;cases hb
     ·rw[sx b u n (s2 _ _ q)]at hb;cases hb
   have en:qs.map ao.name=so.map ao.name:=by
    have:=congrArg (List.map (·.1)) e;rw[fX,fX]at this;exact this
   refine k D (T'.map aL) (rs.map (·.2)) qs H' (λb u n h=>s3 _ _ (sx b u n (s2 _ _ h))) (tb2.more s3) hQ (λb hb=>f2 b (fr b hb)) tc cl ?_ (by rw[en];exact pw2);rw[e,<-bP];exact sp.map _
theorem Dw{ms:List aq}{ns:List aj}{pn z:Str}(e:ms.map (λm=>(m.name,m.a,m.b,m.c))=ns.map (λn=>(n.name,pn,n.st,n.off))):(ar ms z).map (λm=>(m.a,m.b,m.c))=(ns.find? λn=>decide (n.name=z)).map λn=>(pn,n.st,n.off):=by
 have h1:(ar ms z).map (λm=>(m.a,m.b,m.c))=((ms.map (λm=>(m.name,m.a,m.b,m.c))).find? λt=>decide (t.1=z)).map (·.2):=by
  unfold ar;rw[QS,Option.map_map];rfl
 have h2:((ns.find? λn=>decide (n.name=z)).map λn=>(pn,n.st,n.off))=((ns.map (λn=>(n.name,pn,n.st,n.off))).find? λt=>decide (t.1=z)).map (·.2):=by
  rw[QS,Option.map_map];rfl
 rw[h1,h2,e]
theorem OP(e:mo.map (λm=>(m.name,m.a,m.b,m.c))=(p.aH.filter λn=>decide (n.sort=s!"own")).map (λn=>(n.name,p.name,n.st,n.off))):
  cZ p mn f=((ar mo f.name).or (ar mn f.name)).map λm=>(m.a,m.b,m.c):=by
 have h:=Dw (z:=f.name) e;rw[List.find?_filter]at h;have h':(p.aH.find? λa=>decide (decide (a.sort=s!"own")=true/\decide (a.name=f.name)=true))=p.aH.find? λn=>decide (n.name=f.name)&&decide (n.sort=cU):=by
  congr 1;funext n;unfold cU;by_cases a:n.sort=s!"own" <;> by_cases b:n.name=f.name<;>simp[a,b]
 unfold cZ;rw[h']at h;cases q:p.aH.find? λn=>decide (n.name=f.name)&&decide (n.sort=cU) with
 |none=>
  rw[q]at h;have:ar mo f.name=none:=by simpa using h
  rw[this];rfl
 |some n=>
  rw[q]at h;cases q2:ar mo f.name with
  |none=>rw[q2]at h;cases h
  |some m=>rw[q2]at h;simpa using h.symm
theorem SE(T:Txt K mg A):aY P w K mg base cF 3 A.Tb A.vf ["piece_name", "own", "names", "fill"] D3:=by
 refine T.A5.ok kh ?_ ?_;walk_at "k"
 obtain⟨pn,dO,dN,f,mo,mn,rfl,hf,hO,hN,k1,k2⟩:=h;refine⟨_,(aJ (pS 4 kh.nd (tx K (pv 3))) (aJ (pS 5 kh.nd (tx K (pv 3))) (aJ (pS 6 kh.nd (tx K (pv 3))) (aJ (pS 7 kh.nd (GN (bC hr) (pv 1) (pv 4) (kR (bC hr) (pv 2) (pv 4) ⟨rfl,rfl,rfl,rfl⟩) ⟨rfl,rfl,rfl,rfl⟩)) (aJ (aO (eZ BL (pv 7) fT (aB _)) (aX (ay (aQ (ah (tx K (pv 7)) (ah (tx K (pv 7)) (ah (ax cH (tx K (pv 7)) (pv 5)) aa)))))) eL) (aJ (aO (bU (pv 6)) (aX (ay (pC (B6 T) hr T.yM T.mS T.mL (ah (pv 5) aa)))) eL) (aX cB))))))),?_⟩;walk_at "rd";have gO:bT H dO (V.str f.name) ((ar mo f.name).map λm=>V.ref m.t):=by rw[<-kN];exact bT.k (k:=Sum.inr f.name) hO.top
 have gN:bT H dN (V.str f.name) ((ar mn f.name).map λm=>V.ref m.t):=by rw[<-kN];exact bT.k (k:=Sum.inr f.name) hN.top
 refine⟨_,aS.of hf,_,rfl,_,aS.of hf,_,rfl,_,aS.of hf,_,rfl,.inl ⟨_,.inl hO.top⟩,.inl ⟨_,.inl hN.top⟩,_,gN,_,gO,?_⟩;cases q1:ar mo f.name with
 |some m=>
  rw[q1]at k1 k2;have hm:=hO.at_ m (BZ q1);simp only[Option.map_some,Option.getD_some];rw[if_pos (by simp)];exact⟨m.t,rfl,_,aS.of hm,_,rfl,m.t,rfl,_,aS.of hm,_,rfl,m.t,rfl,_,aS.of hm,_,rfl,m.c,rfl,f.add,rfl,by walk_at "s", λq hq=>k1 m rfl q hq⟩
 |none=>
  rw[q1]at k1 k2;cases q2:ar mn f.name with
  |some m=>
   rw[q2]at k1 k2;have hm:=hN.at_ m (BZ q2);simp only[Option.map_some,Option.getD_some,Option.map_none,Option.getD_none];rw[if_pos (by simp)];exact⟨m.t,rfl,_,aS.of hm,_,rfl,m.t,rfl,_,aS.of hm,_,rfl,m.t,rfl,_,aS.of hm,_,rfl,m.c,rfl,f.add,rfl,by walk_at "s", λq hq=>k1 m rfl q hq⟩
  |none=>
   rw[q2]at k1 k2;simp only[Option.map_none,Option.getD_none];rw[if_neg (by simp)];obtain⟨hs,k⟩:=k2 rfl;exact⟨f.soft,rfl,cX (λ_=>⟨f.add,rfl,k⟩) (λz=>absurd hs z)⟩
theorem Qs(T:Txt K mg A):aY P w K mg base cF 4 A.Kz A.jS ["piece", "names", "fills"] F7:=by
 refine T.qb.ok Aw ?_ ?_;walk_at "k"
 obtain⟨p,dN,l,fs,mn,rfl,hp,hf,hd,hN,hl,hn,hfs,k⟩:=h;refine⟨_,(aJ (pS 3 Aw.nd (pC (A7 T) hr T.yN T.m_ T.mO (ah (pv 0) (ah aF aa)))) (aX (ay (fH (kY (own:=["fill"]) (fr:=["own", "names", "piece"]) (fm:=[3,1,0]) rfl (by decide +kernel) (by decide +kernel) (by decide +kernel) (.cons rfl (by walk_at "o") rfl (.cons rfl (by walk_at "o") rfl (.cons rfl (by walk_at "o") rfl .nil)))) rfl (cJ (K:=K) rfl (pv 2)) (λ_ _ _=>⟨(pn 0 (by walk_at "n")),cj,(pC (SE T) hr T.NQ T.Fv T.FE (ah (tx K (pv 3)) (ah (pv 1) (ah (pv 2) (ah (pv 0) aa)))))⟩))))),?_⟩;walk_at "rd";refine⟨p,rfl,hp,hf,hd,λd mo H1 s1 tab e nd=>?_⟩;have er:∀f,cZ p mn f=((ar mo f.name).or (ar mn f.name)).map λm=>(m.a,m.b,m.c):=λf=>OP (mn:=mn) (f:=f) e;refine dH.of (xs:=fs.map ai.v) (by rw[aI,sizeLine_eq];omega) (aA.of (s1 _ _ hl)) (λD i ys H2=>az H1 H2/\H2 D=some (.lst ys)/\ys.length=i/\∀(j:Nat) f v,fs[j]?=some f->ys[j]?=some v->Mg H2 p mn f v)
  (λD hD=>⟨a_ hD,aD,rfl,λj f v _ h=>by cases h⟩) ?_ ?_ ?_
 ·rintro D i ys H2 hD hi ⟨s2,hDD,hl2,_⟩;exact⟨aA.of (s2 _ _ (s1 _ _ hl)),hDD,by omega⟩
 ·rintro D i x ys H2 hD hx ⟨s2,hDD,hl2,ha⟩;walk_at "0";obtain⟨f,hfi,rfl⟩:=fW.mp hx;obtain⟨fa,fr⟩:=hfs f (e7 hfi);have s12:=s1.trans s2;have step:∀(v:V) (H3:Hp),(∀b o,b≠D->H2 b=some o->H3 b=some o)->Mg H3 p mn f v->∀(j:Nat) f' v',fs[j]?=some f'->(ys++[v])[j]?=some v'->Mg H3 p mn f' v':=λv H3 kp av j f' v' h1 h2=>by
   by_cases hj:j<ys.length
   ·rw[LD hj]at h2;rcases ha j f' v' h1 h2 with ⟨a,b,c,q,r1,r2,r3⟩|z
    ·exact .inl ⟨a,b,c,q,r1,r2,kp q _ (ba r3 hDD (by intro z;cases z)) r3⟩
    ·exact .inr z
   ·have hj2:j=ys.length:=by
     have:=(hV.mp h2).1;rw[eY]at this;simp at this;omega
    subst hj2;rw[LG (bw _),Nat.sub_self]at h2;cases h2;rw[hl2,hfi]at h1;cases h1;exact av
  walk_at "rd";refine⟨.no (.yes (.yes (.yes .nil))),_,aS.of (s12 _ _ hp.top),_,rfl,p.name,rfl,f,rfl,s12 _ _ fa,mo,tab.mono s2,mn,(hN.mono s1).mono s2,λm hm q hq=>?_,λhm=>?_⟩
  ·have hqD:D≠q:=bD hDD hq;refine⟨by rw[ae hqD];exact hDD,f7 hD (s2.trans (a_ hq)),aD,by rw[eY,hl2];rfl,step _ _ (λb o nb e=>?_) (.inl ⟨m.a,m.b,m.c,q,by rw[er,hm];rfl,rfl,by rw[ae (Ne.symm hqD),aD]⟩)⟩;rw[ae nb,ae (bD e hq)];exact e
  ·have rn:cZ p mn f=none:=by rw[er,hm];rfl
   exact⟨fr rn,hDD,f7 hD s2,aD,by rw[eY,hl2];rfl,step _ _ (λb o nb e=>by rw[ae nb];exact e) (.inr ⟨rn,rfl⟩)⟩
 ·rintro D ys H2 hD ⟨s2,hDD,hl2,ha⟩;rw[aI]at hl2;exact k D ys H2 (s1.trans s2) hDD hl2 ha (cC s1 hD)
theorem Va.Is.mono{H H':Hp}{x:Va}{v:V}(h:Va.Is H x v)(s:az H H'):Va.Is H' x v:=by
 rcases x with n|⟨g,z,a,o⟩
 ·exact h
 ·obtain⟨t,e,ht⟩:=h;exact⟨t,e,s _ _ ht⟩
theorem Va.Is.keep{H H':Hp}{x:Va}{v:V}(h:Va.Is H x v)(s:∀b xs,H b=some (.tup xs)->H' b=some (.tup xs)):Va.Is H' x v:=by
 rcases x with n|⟨g,z,a,o⟩
 ·exact h
 ·obtain⟨t,e,ht⟩:=h;exact⟨t,e,s _ _ ht⟩
theorem jE.keep{H H':Hp}{rs:List Va}{vs:List V}(h:jE H rs vs)(s:∀b xs,H b=some (.tup xs)->H' b=some (.tup xs)):jE H' rs vs:=⟨h.len,λi x e=>by
 obtain⟨v,h1,h2⟩:=h.at_ i x e;exact⟨v,h1,h2.keep s⟩⟩
theorem jE.mono{H H':Hp}{rs:List Va}{vs:List V}(h:jE H rs vs)(s:az H H'):jE H' rs vs:=h.keep λ_ _ e=>s _ _ e
theorem jE.set(h:jE H rs vs){x:Va}{v:V}(hx:Va.Is H x v)(i:Nat):jE H (rs.set i x) (vs.set i v):=⟨by rw[Rj,Rj,h.len],λj y e=>by
 rw[List.getElem?_set]at e ⊢;by_cases hj:i=j
 ·subst hj;rw[if_pos rfl]at e ⊢;split at e
  ·rename_i hl;rw[if_pos (by rw[h.len];exact hl)];cases e;exact⟨v,rfl,hx⟩
  ·cases e
 ·rw[if_neg hj]at e ⊢;exact h.at_ j y e⟩
theorem dJ{vs:List V}{n:Nat}(h:n<vs.length):h_ vs (n:Int)=vs[n]?:=by
 unfold h_ Ca;rw[if_pos (Int.natCast_nonneg n)];simp[h]
theorem jE.snoc(h:jE H rs vs){x:Va}{v:V}(hx:Va.Is H x v):jE H (rs++[x]) (vs++[v]):=⟨by simp[h.len],λi y e=>by
 by_cases hi:i<rs.length
 ·rw[LD hi]at e;rw[LD (by rw[h.len];exact hi)];exact h.at_ i y e
 ·rw[LG (by omega)]at e;rw[LG (by rw[h.len];omega),h.len];have h0:i - rs.length=0:=by
   cases hj:i - rs.length with
   |zero=>rfl
   |succ n=>rw[hj]at e;simp at e
  rw[h0]at e ⊢;cases e;exact⟨v,rfl,hx⟩⟩
theorem La(T:Txt K mg A):aY P w K mg base cF 2 A.TY A.oG ["aimed"] Aa:=by
 refine T.BN.ok OW ?_ ?_;walk_at "k"
 obtain⟨t,z,a,o,rfl,ht,k⟩:=h;refine⟨_,(aX (ay (aQ (ah aF (ah (tx K (pv 0)) (ah (tx K (pv 0)) (ah (pC (B6 T) hr T.yM T.mS T.mL (ah (tx K (pv 0)) aa)) aa))))))),?_⟩;walk_at "rd";exact⟨_,.of ht,_,rfl,_,.of ht,_,rfl,_,.of ht,_,rfl,_,rfl,by decide,k⟩
theorem Nb(T:Txt K mg A):aY P w K mg base cF 1 A.SS A.oS ["value"] Pr:=by
 refine T.CB.ok Pm ?_ ?_;walk_at "k"
 obtain⟨v,rfl,h⟩:=h;refine⟨_,(aX (ay (cG (bR (K:=K) rfl) (by rfl) T.aM ka (ah (pv 0) (ah (dv rfl T.iL i_ lH) aa))))),?_⟩;rcases h with ⟨n,rfl,k⟩|⟨t,xs,rfl,ht,k⟩
 ·walk_at "rd";exact⟨_,.int n,true,rfl,k⟩
 ·walk_at "rd";exact⟨_,.tup ht,false,rfl,k⟩
theorem BB(T:Txt K mg A):aY P w K mg base cF 2 A.RG A.rg ["value"] Dt:=by
 refine T.AZ.ok Pc ?_ ?_;walk_at "k"
 obtain⟨x,v,rfl,h,k⟩:=h;refine⟨_,(aX (ay (yB (bU (pC (Nb T) hr T.Gn T.A2 T.Cg (ah (pv 0) aa))) (pv 0) (aQ (ah (tx K (pv 0)) (ah (tx K (pv 0)) (ah (tx K (pv 0)) (ah (tx K (pv 0)) aa)))))))),?_⟩;walk_at "rd";rcases x with n|⟨g,z,a,o⟩
 ·exact .inl ⟨n,h,k v H (λ_ _ e=>e) h⟩
 ·obtain⟨t,rfl,ht⟩:=h;refine .inr ⟨t,rfl,_,ht,⟨t,rfl,_,.of ht,_,rfl,t,rfl,_,.of ht,_,rfl,t,rfl,_,.of ht,_,rfl,t,rfl,_,.of ht,_,rfl,by decide,λq hq=>k _ _ (a_ hq) ⟨q,rfl,aD⟩⟩⟩
theorem RD(T:Txt K mg A):aY P w K mg base cF 1 A.UG A.rA ["self", "word", "title", "aimed"] (C7 A):=by
 refine T.A0.ok O7 ?_ ?_;walk_at "k"
 obtain⟨p,dx,q,c,r,rfl,hp,k⟩:=h;refine⟨_,(aJ (cA (pv 0) (pv 1) rfl) (aJ (cA (pv 0) (pv 2) rfl) (aX (cA (pv 0) (pv 3) rfl)))),?_⟩;walk_at "rd";exact⟨_,_,_,hp,T.kK,T.f_,by decide,_,_,_,aD,T.kK,T.fO,(by show 1<1000;decide),_,_,_,aD,T.kK,T.dW,(by show 2<1000;decide),k⟩
theorem Tu(T:Txt K mg A):aY P w K mg base cF 5 A.SR A.tH ["word", "title", "aimed"] (xU A):=by
 refine T.B8.ok QB ?_ ?_;walk_at "k"
 obtain⟨c,r,av,rfl,h1,h2,k⟩:=h;refine⟨_,(aJ (aO (bU (pC (Nb T) hr T.Gn T.A2 T.Cg (ah (pv 2) aa))) (aX (ay (GF (fC (pC (Hu T) hr T.BX T.xY T.yR (ah (pv 1) aa)) T.Af T.Fc (SF T) (hr.mono (by decide)) T.Jw .nil dB (ah (pv 0) (ah af (ah (pv 2) aa)))) (GF (fC (pC (Hu T) hr T.BX T.xY T.yR (ah (pv 1) aa)) T.rJ T.G1 (RO T) (hr.mono (by decide)) T.Ju .nil dB (ah (pv 0) (ah af (ah (pv 2) aa)))) (fC (pC (Hu T) hr T.BX T.xY T.yR (ah (pv 1) aa)) T.zB T.K0 (Vm T) (hr.mono (by decide)) T.J7 .nil dB (ah (pv 0) (ah af (ah (pv 2) aa)))))))) eL) (aJ (aO (eZ bW (pv 1) aF (aB _)) (aX (ay (pC (La T) hr T.B1 T.yI T.xP (ah (pv 2) aa)))) eL) (aX (ay (gJ T.Kh (RD T) (hr.mono (by decide)) rfl T.zp T.Fg .nil dB (ah (pv 0) (ah (pv 1) (ah (pC (La T) hr T.B1 T.yI T.xP (ah (pv 2) aa)) aa)))))))),?_⟩;walk_at "rd";rcases k with ⟨b,rfl,hr1,k⟩|⟨q,p,rfl,hq,k⟩
 ·refine .inl ⟨b,rfl,?_⟩;rcases hr1 with rfl|rfl|rfl
  ·refine .inl ⟨.inl rfl,λC hC p H' sm ⟨dx,hp⟩=>?_⟩;obtain rfl:C=A.iH:=by rcases hC with ⟨_,e⟩|⟨e,_⟩|⟨e,_⟩<;>first|exact e|exact absurd e (by decide)
   exact⟨_,_,hp,rfl,b,rfl,k H' sm⟩
  ·refine .inr (.inl ⟨.inr (.inl rfl),λC hC p H' sm ⟨dx,hp⟩=>?_⟩);obtain rfl:C=A.fQ:=by rcases hC with ⟨e,_⟩|⟨_,e⟩|⟨e,_⟩<;>first|exact e|exact absurd e (by decide)
   exact⟨_,_,hp,rfl,b,rfl,h1,h2,k H' sm⟩
  ·refine .inr (.inr ⟨.inr (.inr rfl),λC hC p H' sm ⟨dx,hp⟩=>?_⟩);obtain rfl:C=A.iC:=by rcases hC with ⟨e,_⟩|⟨e,_⟩|⟨_,e⟩<;>first|exact e|exact absurd e (by decide)
   exact⟨_,_,hp,rfl,b,rfl,h1,h2,k H' sm⟩
 ·refine .inr ⟨q,rfl,_,hq,cX (λhw=>?_) (λhw=>?_)⟩
  ·have hw:r=s!"whole" := of_decide_eq_true hw;refine⟨q,rfl,_,_,_,hq,λt ht=>k _ _ (a_ ht) ?_⟩;rw[show i9 c r p=.inl (.inr (Qr,p.1,p.2.1,p.2.2%4294967296)) from if_pos hw];exact⟨t,rfl,aD⟩
  ·have hw:¬r=s!"whole" := λz=>hw (decide_eq_true z);refine⟨q,rfl,_,_,_,hq,λt ht x dx hx hdx ndx=>?_⟩;have s1:=a_ (o:=atT p.1 p.2.1 (p.2.2%4294967296)) ht;have e1:upd H t (atT p.1 p.2.1 (p.2.2%4294967296)) t=some (atT p.1 p.2.1 (p.2.2%4294967296)):=aD;generalize upd H t (atT p.1 p.2.1 (p.2.2%4294967296))=H1 at *;have hx2:upd H1 dx (HO.own x) x=none:=by rw[ae ndx.symm];exact hx
   have s2:=a_ (o:=HO.own x) hdx;have e2:=s2 _ _ e1;generalize upd H1 dx (HO.own x)=H2 at *;refine⟨_,aD,k _ _ (λb u e=>?_) ?_⟩
   ·have nb:b≠x:=bD (s2 _ _ (s1 _ _ e)) hx2;rw[ae nb,ae nb,ae nb,ae nb];exact s2 _ _ (s1 _ _ e)
   ·rw[show i9 c r p=.inr (c,r,p.1,p.2.1,p.2.2%4294967296) from if_neg hw];have nt:t≠x:=bD e2 hx2;exact⟨x,dx,t,rfl,aD,by rw[ae nt,ae nt,ae nt,ae nt];exact e2⟩
theorem Ce.Is.mono{A:Ad}{H H':Hp}{x:Ce}{v:V}(h:Ce.Is A H x v)(s:az H H'):Ce.Is A H' x v:=by
 rcases x with y|⟨w,r,z,a,o⟩
 ·exact Va.Is.mono h s
 ·obtain⟨t,dx,q,rfl,h1,h2⟩:=h;exact⟨t,dx,q,rfl,s _ _ h1,s _ _ h2⟩
theorem NF.mono{A:Ad}{H H':Hp}{M:NO}{mem:List Key->Option Ce}{pl:Ec}{rs:List Va}(h:NF A H M mem pl rs)(s:az H H'):NF A H' M mem pl rs:=by
 obtain⟨km,h1,h2,h3⟩:=h.jb;obtain⟨vs,h4,h5⟩:=h.AE;exact⟨s _ _ h.top,⟨km,s _ _ h1,λk x e=>by obtain⟨v,a,b⟩:=h2 k x e;exact⟨v,a,b.mono s⟩,h3⟩,s _ _ h.Rm,⟨vs,s _ _ h4,h5.mono s⟩,h.len,s _ _ h.Gs,h.nd⟩
theorem UA(T:Txt K mg A):aY P w K mg base cF 3 A.RF A.tS ["self", "piece", "stretch", "offset"] (yj A):=by
 refine T.BJ.ok Ej ?_ ?_;walk_at "k"
 obtain⟨M,mem,pl,rs,z,a,o,x,rfl,r,hx,k1,k2⟩:=h;refine⟨_,(aJ (pS 4 Ej.nd (kR (bC hr) (bN (pv 0) rfl) (aQ (ah (pv 1) (ah (pv 2) (ah (pv 3) aa)))) ⟨rfl,rfl,rfl,rfl⟩)) (aX (ay (yB (PW.pt (fV (eZ uP (pv 4) fT (aB _)) (eV (bU (cG (zM (K:=K) rfl) (by rfl) T.aM ka (ah (pv 4) (ah (A9 (v:=.ref A.cQ) rfl T.zp rfl) aa))))))) fT (pC (BB T) hr T.xD T.lX T.mU (ah (pv 4) aa)))))),?_⟩;walk_at "rd";obtain⟨km,hm,mi,_⟩:=r.jb;obtain⟨v',hv',hi⟩:=mi _ _ hx;refine⟨_,_,_,r.top,T.bO,T.bS,_,rfl,_,rfl,.inr ⟨_,.inl hm⟩,by decide,λp hp=>?_⟩;have s1:=a_ (o:=.tup [.str z,.int a,.int o]) hp;have gg:=bT.t (k:=kp z a o) (s1 _ _ hm) (aD (o:=.tup [.str z,.int a,.int o]));rw[hv']at gg;refine⟨_,gg,?_⟩;have h1:=hi.mono s1;rcases x with y|c
 ·rcases y with n|⟨g,z',a',o'⟩
  ·cases h1;rw[if_neg (by simp)];exact⟨_,_,_,false,rfl,.int n,T.kw,_,rfl,.inl n,rfl,λv2 H2 s2 h2=>k1 _ rfl v2 H2 (s1.trans s2) h2⟩
  ·obtain⟨t,rfl,ht⟩:=h1;rw[if_neg (by simp)];exact⟨_,_,_,false,rfl,.tup ht,T.kt,_,rfl,.inr (g,z',a',o'),⟨t,rfl,ht⟩,λv2 H2 s2 h2=>k1 _ rfl v2 H2 (s1.trans s2) h2⟩
 ·obtain⟨t,dx,q,rfl,ht,hq⟩:=h1;rw[if_neg (by simp)];exact⟨_,_,_,true,rfl,.ins ht T.kK T.PD T.QK T.QA T.Qk,T.Pt,_,rfl,k2 _ rfl _ s1⟩
theorem Ot(T:Txt K mg A):aY P w K mg base cF 3 A.RS A.vP ["self"] (zJ A):=by
 refine T.CL.ok Jh ?_ ?_;walk_at "k"
 obtain⟨M,mem,pl,rs,rfl,r,k⟩:=h;refine⟨_,(aJ (eP (i:=1) Jh.nd rfl (by walk_at "o") (kD ["value"]) rfl (cJ (K:=K) rfl (bN (pv 0) rfl)) (λ_ _ _=>⟨(pn 0 (by walk_at "n")),cj,(pC (BB T) hr T.xD T.lX T.mU (ah (pv 0) aa))⟩)) (aX (ay (aQ (ah (pC (BB T) hr T.xD T.lX T.mU (ah (bN (pv 0) rfl) aa)) (ah (pv 1) (ah (bM (zY (K:=K) rfl) (by rfl) T.eF eO (ah (bN (pv 0) rfl) aa)) (ah (bN (pv 0) rfl) aa)))))))),?_⟩;walk_at "rd";obtain⟨us,hu,hl⟩:=r.AE;refine⟨_,_,_,r.top,T.bO,T.ck,_,rfl,?_⟩;refine dH.of (xs:=us) (by rw[hl.len,r.len,sizeLine_eq];decide) (aA.of hu) (λD i ys H'=>jE H' (rs.take i) ys/\az H H'/\H' D=some (.lst ys)) (λD hD=>⟨⟨rfl,λi x e=>by cases e⟩,a_ hD,aD⟩) (λD i ys H' hD hi ⟨e,s1,h1⟩=>⟨aA.of (s1 _ _ hu),h1,by rw[e.len,p_];omega⟩) ?_ ?_
 ·rintro D i x ys H' hD hx ⟨e,s1,h1⟩;walk_at "rd";refine⟨.no .nil,?_⟩;have hi:i<rs.length:=by rw[<-hl.len];exact(hV.mp hx).1
  obtain⟨v,h2,h3⟩:=hl.at_ i _ (lz hi);rw[h2]at hx;cases hx;refine⟨_,h3.mono s1,λv' H2 s2 h4=>⟨s2 _ _ h1,?_,f7 hD (s1.trans s2),aD⟩⟩;rw[Kf,lz hi];have b:=fb.upd (o:=.lst (ys++[v'])) (s2 _ _ h1);exact((e.mono s2).keep λ_ _ z=>b.tup z).snoc (h4.keep λ_ _ z=>b.tup z)
 ·rintro D ys H' hD ⟨e,s1,h1⟩;rw[hl.len,iR]at e;have n1:=r.mono s1;refine⟨_,_,_,n1.top,T.bO,T.dZ,_,rfl,?_⟩;refine⟨.inr (Qr,pl),⟨_,rfl,n1.Rm⟩,λv' H2 s2 h4=>?_⟩;obtain⟨q,rfl,hq⟩:=h4;have n2:=n1.mono s2;refine⟨_,_,_,n2.top,T.bO,T.cV,_,rfl,_,rfl,_,.inl (aA.of n2.Gs),λl hl'=>?_⟩;have s3:=a_ (o:=.lst []) hl';have n3:=n2.mono s3;refine⟨_,_,_,n3.top,T.bO,T.dR,_,rfl,by decide,λp hp=>?_⟩;have s4:=a_ (o:=.tup [.ref q,.ref D,.ref l,.bl false]) hp;have s24:=s2.trans (s3.trans s4);exact k p q D l _ (s1.trans s24) ⟨aD,s4 _ _ (s3 _ _ hq),⟨ys,s24 _ _ h1,e.mono s24⟩,s4 _ _ aD⟩ hD (cC s1 (cC s2 hl'))
theorem Mm{rs:List Int}{i:Int}(h0:0<=i)(h1:i<rs.length):∃v:Int,h_ (rs.map V.int) i=some (V.int v)/\rs.getD i.toNat 0=v/\v∈rs:=by
 have hi:i.toNat<rs.length:=by omega
 have e:i=((i.toNat:Nat):Int):=by omega
 refine⟨rs[i.toNat],?_,by rw[Sq,lz hi];rfl,Om hi⟩;have z:h_ (rs.map V.int) ((i.toNat:Nat):Int)=some (V.int rs[i.toNat]):=L2.dJ (by rw[jA,lz hi];rfl);rw[<-e]at z;exact z
theorem Ce.Is.keep{A:Ad}{H H':Hp}{x:Ce}{v:V}(h:Ce.Is A H x v)(s:∀b o,(∃xs,o=.tup xs)\/(∃a c f,o=.ins a c f)->H b=some o->H' b=some o):Ce.Is A H' x v:=by
 rcases x with y|⟨w,r,z,a,o⟩
 ·exact Va.Is.keep h λb xs e=>s b _ (.inl ⟨_,rfl⟩) e
 ·obtain⟨t,dx,q,rfl,h1,h2⟩:=h;exact⟨t,dx,q,rfl,s _ _ (.inr ⟨_,_,_,rfl⟩) h1,s _ _ (.inl ⟨_,rfl⟩) h2⟩
theorem xA(z:Str)(n w:Int):∀(l:List Int) (j:Nat) (m:cI),dj z n (l++[w]) j m=setC (dj z n l j m) (kp z n ((j+l.length:Nat):Int)) (.inl (.inl w))
 |[],j,m=>rfl
 |a::l,j,m=>by
  show dj z n (l++[w]) (j+1) _=setC (dj z n l (j+1) _) _ _;rw[xA z n w l (j+1)];rw[show j+1+l.length=j+(a::l).length from by rw[zS];omega]
theorem J_(p:ao)(mn:List aq)(s:aK):∀(l:List aK) (j:Nat) (m:cI),gU p mn (l++[s]) j m=stC p mn ((j+l.length:Nat):Int) s (gU p mn l j m)
 |[],j,m=>rfl
 |a::l,j,m=>by
  show gU p mn (l++[s]) (j+1) _=stC p mn _ s (gU p mn l (j+1) _);rw[J_ p mn s l (j+1)];rw[show j+1+l.length=j+(a::l).length from by rw[zS];omega]
theorem AV.more(h:AV A H H1 dm ds mem n j)(s:az H1 H2):AV A H H2 dm ds mem n j:=by
 obtain⟨km,h1,h2,h3⟩:=h.jb;obtain⟨ks,h4,h5⟩:=h.str;exact⟨λb o a1 a2 e=>s _ _ (h.off b o a1 a2 e),⟨km,s _ _ h1,⟨λk x e=>by obtain⟨v,a,b⟩:=h2.1 k x e;exact⟨v,a,b.mono s⟩,h2.2⟩,h3⟩,⟨ks,s _ _ h4,h5⟩⟩
theorem AV.put{A:Ad}{H H1:Hp}{dm ds:Addr}{mem:cI}{n j:Nat}(h:AV A H H1 dm ds mem n j)(nd:dm≠ds){km:List (List Key×V)}(hm:H1 dm=some (.dT km)){k:List Key}{x:Ce}{v:V}(hx:Ce.Is A H1 x v):AV A H (upd H1 dm (.dT (putK km k v))) dm ds (setC mem k x) (n+1) j:=by
 obtain⟨km',h1,h2,h3⟩:=h.jb;obtain rfl:km'=km:=by have:=h1.symm.trans hm;injection this with this;injection this
 obtain⟨ks,h4,h5⟩:=h.str;have kc:∀b o,(∃xs,o=HO.tup xs)\/(∃a c f,o=HO.ins a c f)->H1 b=some o->upd H1 dm (.dT (putK km' k v)) b=some o:=λb o ho e=>by
  rw[ae (ba e hm (by rcases ho with ⟨_,rfl⟩|⟨_,_,_,rfl⟩<;>intro z<;>cases z))];exact e
 refine⟨λb o a1 a2 e=>by rw[ae a1];exact h.off b o a1 a2 e,⟨_,aD,⟨λi y e=>?_,λi e=>?_⟩,?_⟩,⟨ks,by rw[ae nd.symm];exact h4,h5⟩⟩
 ·rw[iB];unfold setC at e;by_cases hi:i=k
  ·rw[if_pos hi]at e ⊢;cases e;exact⟨v,rfl,hx.keep kc⟩
  ·rw[if_neg hi]at e ⊢;obtain⟨u,a,b⟩:=h2.1 i y e;exact⟨u,a,b.keep kc⟩
 ·rw[iB];unfold setC at e;by_cases hi:i=k
  ·rw[if_pos hi]at e;cases e
  ·rw[if_neg hi]at e ⊢;exact h2.2 i e
 ·have:=xF km' k v;omega
theorem AV.W_(h:AV A H H1 dm ds mem n j)(nd:dm≠ds){ks:List (List Key×V)}(hs:H1 ds=some (.dT ks))(k:List Key)(v:V):AV A H (upd H1 ds (.dT (putK ks k v))) dm ds mem n (j+1):=by
 obtain⟨km,h1,h2,h3⟩:=h.jb;obtain⟨ks',h4,h5⟩:=h.str;obtain rfl:ks'=ks:=by have:=h4.symm.trans hs;injection this with this;injection this
 have kc:∀b o,(∃xs,o=HO.tup xs)\/(∃a c f,o=HO.ins a c f)->H1 b=some o->upd H1 ds (.dT (putK ks' k v)) b=some o:=λb o ho e=>by
  rw[ae (ba e hs (by rcases ho with ⟨_,rfl⟩|⟨_,_,_,rfl⟩<;>intro z<;>cases z))];exact e
 refine⟨λb o a1 a2 e=>by rw[ae a2];exact h.off b o a1 a2 e,⟨km,by rw[ae nd];exact h1,⟨λi y e=>?_,h2.2⟩,h3⟩,⟨_,aD,?_⟩⟩
 ·obtain⟨u,a,b⟩:=h2.1 i y e;exact⟨u,a,b.keep kc⟩
 ·have:=xF ks' k v;omega
theorem Vf(T:Txt K mg A):aY P w K mg base cF 6 A.Sv A.uF ["self", "piece", "names"] (zC A):=by
 refine T.Bl.ok eS ?_ ?_;walk_at "k"
 obtain⟨x,dx,dm,ds,dN,p,mn,km,ks,mem,rfl,hx,hm,hs,nd,lm,ls,mo,pa,pf,tn,k⟩:=h;refine⟨_,(aX (pF (AN (K:=K) rfl rfl T.dz (ah (tx K (pv 1)) aa)) (bV (K:=K) (n:=2) rfl rfl (dC (pn 3 eS.nd) (dC (pn 4 eS.nd) bY))) (aJ (pS 5 eS.nd (tx K (pv 4))) (aJ (pS 6 eS.nd (tx K (pv 4))) (aJ (cT (bC hr) (bN (pv 0) rfl) (aQ (ah (tx K (pv 1)) (ah (pv 3) aa))) (aQ (ah (tx K (pv 4)) (ah (cG (gj (K:=K) rfl) (by rfl) T.cL b0 (ah (pv 5) aa)) aa))) rfl) (fM (aJ (pF (AN (K:=K) rfl rfl T.dz (ah (pv 5) aa)) (bV (K:=K) (n:=2) rfl rfl (dC (pn 7 eS.nd) (dC (pn 8 eS.nd) bY))) (aX (cT (bC hr) (bN (pv 0) rfl) (aQ (ah (tx K (pv 1)) (ah (pv 3) (ah (pv 7) aa)))) (pv 8) rfl))) (fM (aX (pF (QF rfl T.Cv (ah (pv 6) (ah (pC (Qs T) hr T.IL T.zV T.zX (ah (pv 1) (ah (pv 2) (ah (pv 6) aa)))) aa))) (bV (K:=K) (n:=2) rfl rfl (dC (pn 9 eS.nd) (dC (pn 10 eS.nd) bY))) (aJ (pS 7 eS.nd (tx K (pv 9))) (aX (cT (bC hr) (bN (pv 0) rfl) (aQ (ah (tx K (pv 1)) (ah (pv 3) (ah (pv 7) aa)))) (pC (Tu T) hr T.Og T.KL T.HU (ah (cw (fj (K:=K) rfl) (pv 5) (pv 7) (λ_ _=>rfl)) (ah (tx K (pv 9)) (ah (pv 10) aa)))) rfl))))))))))))),?_⟩;walk_at "rd";refine⟨_,aS.of pa.top,_,rfl,?_⟩
 have fr {H':Hp}(f:∀b o,b≠dm->b≠ds->H b=some o->H' b=some o) {b:Addr}{o:HO}(h:H b=some o) (no:∀kv,o≠.dT kv):H' b=some o:=f b o (ba h hm (no _)) (ba h hs (no _)) h;have lt {H':Hp}(f:∀b o,b≠dm->b≠ds->H b=some o->H' b=some o):fA H H':=λb o h e=>fr f e (by rcases h with ⟨_,rfl⟩|⟨_,rfl⟩<;>intro _ z<;>cases z);refine Fs.of (xs:=p.aP.map aK.v) (λi σ H'=>∃a3 a4 a5 a6 a7 a8 a9 a10,σ=[some (V.ref x),some p.v,some (V.ref dN),a3,a4,a5,a6,a7,a8,a9,a10]/\AV A H H' dm ds (gU p mn (p.aP.take i) 0 mem) (km.length+200*i) (ks.length+i)) ⟨_,_,_,_,_,_,_,_,rfl,λb o _ _ h=>h,⟨km,hm,mo,bw _⟩,⟨ks,hs,bw _⟩⟩ (λi σ H' hi ⟨_,_,_,_,_,_,_,_,_,ti⟩=>aA.of (eW (lt ti.off) pa.sl)) ?_ ?_
 ·rintro i v σ H' q hv ⟨_,_,_,_,_,_,_,_,rfl,ti⟩ hq;walk_at "rd";walk_at "4";obtain⟨st,hst,rfl⟩:=fW.mp hv;have hin:st∈p.aP:=e7 hst;have hil:i<p.aP.length:=(hV.mp hst).1;have tk1:p.aP.take (i+1)=p.aP.take i++[st]:=by rw[Kf,hst];rfl
  have eD:(p.aP.take i).length=i:=by rw[p_];omega
  have sb:=pf.bn.ss st hin;have d7:=pf.bn.st;have sa:=pa.ss st hin;have s1:=a_ (o:=HO.tup [V.int i,st.v]) hq;have t1:=ti.more s1;have eq1:upd H' q (HO.tup [V.int i,st.v]) q=some (HO.tup [V.int i,st.v]):=aD;generalize upd H' q (HO.tup [V.int i,st.v])=H1 at *;have lt1:=lt t1.off;have lw1:=eW lt1 sa.wd;have st1:=gQ lt1 sa.top;refine⟨_,aS.of eq1,rfl,_,_,rfl,_,_,rfl,rfl,_,rfl,_,aS.of st1,_,rfl,_,rfl,_,aS.of st1,_,rfl,_,rfl,_,aS.of st1,_,rfl,st.words.length,.inl ⟨_,aA.of lw1,by rw[aI]⟩,by decide,λq4 hq4=>?_⟩;have s2:=a_ (o:=HO.tup [V.str st.kind,V.int st.words.length]) hq4;have t2:=t1.more s2;generalize upd H1 q4 (HO.tup [V.str st.kind,V.int st.words.length])=H2 at *;refine⟨_,_,_,fr t2.off hx (by intro _ z;cases z),T.bO,T.cn,_,rfl,_,aS.of (gQ (lt t2.off) pa.top),_,rfl,by decide,λq5 hq5=>?_⟩;have s3:=a_ (o:=HO.tup [V.str p.name,V.int i]) hq5;have eq5:upd H2 q5 (HO.tup [V.str p.name,V.int i]) q5=some (HO.tup [V.str p.name,V.int i]):=aD;have t3:=t2.more s3;generalize upd H2 q5 (HO.tup [V.str p.name,V.int i])=H3 at *;obtain⟨ks1,hs1,lk1⟩:=t3.str;refine⟨_,rfl,_,dG.t (k:=[.inr p.name,.inl (i:Int)]) hs1 eq5 (by rw[sizeLine_eq];omega),?_⟩;have t4:=t3.W_ nd hs1 [.inr p.name,.inl (i:Int)] (V.ref q4);generalize upd H3 ds (HO.dT (putK ks1 [.inr p.name,.inl (i:Int)] (V.ref q4)))=H4 at *;generalize hB:gU p mn (p.aP.take i) 0 mem=B at *;refine bu ?_;walk_at "rd"
  refine Fs.of (xs:=st.words.map V.int) (λj σ H5=>∃a7 a8 a9 a10,σ=[some (V.ref x),some p.v,some (V.ref dN),some (V.int i),some st.v,some (V.ref st.lw),some (V.ref st.lf),a7,a8,a9,a10]/\AV A H H5 dm ds (dj p.name i (st.words.take j) 0 B) (km.length+200*i+j) (ks.length+i+1)) ⟨_,_,_,_,rfl,t4⟩ (λj σ H5 _ ⟨_,_,_,_,_,ti⟩=>aA.of (eW (lt ti.off) sa.wd)) ?_ ?_
  ·rintro j w5 σ H5 r hw ⟨_,_,_,_,rfl,ti5⟩ hr5;walk_at "rd";rw[jA]at hw;obtain⟨wv,hwv,rfl⟩:=fW.mp hw;have u1:=a_ (o:=HO.tup [V.int j,V.int wv]) hr5;have er:upd H5 r (HO.tup [V.int j,V.int wv]) r=some (HO.tup [V.int j,V.int wv]):=aD;have t5:=ti5.more u1;generalize upd H5 r (HO.tup [V.int j,V.int wv])=H6 at *;refine⟨_,aS.of er,rfl,_,_,rfl,_,_,rfl,rfl,_,_,_,fr t5.off hx (by intro _ z;cases z),T.bO,T.bS,_,rfl,_,aS.of (gQ (lt t5.off) pa.top),_,rfl,by decide,λq6 hq6=>?_⟩;have u2:=a_ (o:=HO.tup [V.str p.name,V.int i,V.int j]) hq6;have e6:upd H6 q6 (HO.tup [V.str p.name,V.int i,V.int j]) q6=some (HO.tup [V.str p.name,V.int i,V.int j]):=aD;have t6:=t5.more u2;generalize upd H6 q6 (HO.tup [V.str p.name,V.int i,V.int j])=H7 at *;have hj:=(hV.mp hwv).1;obtain⟨km6,hm6,_,lk6⟩:=t6.jb;refine⟨_,rfl,_,dG.t (k:=kp p.name i j) hm6 e6 (by rw[sizeLine_eq];omega),?_⟩;rw[Kf,hwv,show(some wv).toList=[wv] from rfl,xA,p_,Nat.min_eq_left (by omega),Nat.zero_add];exact t6.put nd hm6 (x:=.inl (.inl wv)) rfl
  ·rintro σ H5 ⟨_,_,_,_,rfl,ti5⟩;rw[aI,iR]at ti5;dsimp only;refine bu ?_;walk_at "rd";have lt5:=lt ti5.off;have tn5:Tab H5 dN mn:=⟨fr ti5.off tn.top (by intro _ z;cases z),λm hm=>gQ lt5 (tn.at_ m hm)⟩
   refine⟨p,rfl,jo lt5 pa,pf.bn.nm,pf.bn.nd,st.fills,mn,tn5,eW lt5 sa.fl,sb.2,λf hf=>⟨gQ lt5 (sa.fs f hf),λz=>((pf.Ra st hin f hf).2.2 z).1⟩,λl' ys H6 s6 hl' hyl hy hln=>?_⟩;generalize hW:dj p.name i st.words 0 B=W at *;have t6:=ti5.more s6;refine M6.of (xs:=st.fills.map ai.v) (ys:=ys) (by rw[aI,hyl]) (aA.of (eW (lt t6.off) sa.fl)) (aA.of hl') (λj σ H7=>∃a7 a8 a9 a10,σ=[some (V.ref x),some p.v,some (V.ref dN),some (V.int i),some st.v,some (V.ref st.lw),some (V.ref st.lf),a7,a8,a9,a10]/\AV A H H7 dm ds ((st.fills.take j).foldl (kB p mn i st.words) W) (km.length+200*i+st.words.length+j) (ks.length+i+1)/\H7 l'=some (.lst ys)/\∀b xs,H6 b=some (.tup xs)->H7 b=some (.tup xs)) ⟨_,_,_,_,rfl,t6,hl',λ_ _ e=>e⟩ (λj σ H7 _ ⟨_,_,_,_,_,ti,hl,_⟩=>⟨aA.of (eW (lt ti.off) sa.fl),aA.of hl⟩) ?_ ?_
   ·rintro j fv v7 σ H7 r hf hv7 ⟨_,_,_,_,rfl,t7,hl7,tt7⟩ hr7;rw[jA]at hf;obtain⟨f,hfj,rfl⟩:=fW.mp hf;have hfm:f∈st.fills:=e7 hfj;have hfo:=pf.Ra st hin f hfm;have av:=hy j f v7 hfj hv7;walk_at "rd";have u1:=a_ (o:=HO.tup [f.v,v7]) hr7;have er:upd H7 r (HO.tup [f.v,v7]) r=some (HO.tup [f.v,v7]):=aD;have t8:=t7.more u1;have hl8:=u1 _ _ hl7;have tt8:∀b xs,H6 b=some (.tup xs)->upd H7 r (HO.tup [f.v,v7]) b=some (.tup xs):=λb xs e=>u1 _ _ (tt7 b xs e);generalize upd H7 r (HO.tup [f.v,v7])=H8 at *;have fa:=gQ (lt t8.off) (sa.fs f hfm);obtain⟨wv,hwa,hwg,hwm⟩:=Mm (rs:=st.words) (i:=f.at_) hfo.1 hfo.2.1;have hwr:=pf.UD st hin wv hwm;have fin:∀(v':V) (H9:Hp),az H8 H9->Ce.Is A H9 (cM p mn st.words f) v'->∃C d fs,H9 x=some (HO.ins C d fs)/\xw K C/\bf K C s!"memory"/\∃u,List.lookup s!"memory" fs=some u/\∃xs,aS K H9 p.t xs/\∃y,h_ xs 0=some y/\3<=sizeLine/\∀(q9:Addr),H9 q9=none->∃a,u=V.ref a/\∃HX,dG (upd H9 q9 (HO.tup [y,V.int i,V.int f.at_])) a (V.ref q9) v' HX/\AV A H HX dm ds ((st.fills.take (j+1)).foldl (kB p mn i st.words) W) (km.length+200*i+st.words.length+(j+1)) (ks.length+i+1)/\HX l'=some (.lst ys)/\∀b xs,H6 b=some (.tup xs)->HX b=some (.tup xs):=λv' H9 s9 hc=>by
     have t9:=t8.more s9;refine⟨_,_,_,fr t9.off hx (by intro _ z;cases z),T.bO,T.bS,_,rfl,_,aS.of (gQ (lt t9.off) pa.top),_,rfl,by decide,λq9 hq9=>?_⟩;have u9:=a_ (o:=HO.tup [V.str p.name,V.int i,V.int f.at_]) hq9;have e9:upd H9 q9 (HO.tup [V.str p.name,V.int i,V.int f.at_]) q9=some (HO.tup [V.str p.name,V.int i,V.int f.at_]):=aD;have t10:=t9.more u9;have hc':=hc.mono u9;have hl9:=u9 _ _ (s9 _ _ hl8);have tt9:∀b xs,H6 b=some (.tup xs)->upd H9 q9 (HO.tup [V.str p.name,V.int i,V.int f.at_]) b=some (.tup xs):=λb xs e=>u9 _ _ (s9 _ _ (tt8 b xs e));generalize upd H9 q9 (HO.tup [V.str p.name,V.int i,V.int f.at_])=H10 at *;obtain⟨km9,hm9,_,lk9⟩:=t10.jb;have hjl:=(hV.mp hfj).1;refine⟨_,rfl,_,dG.t (k:=kp p.name i f.at_) hm9 e9 (by rw[sizeLine_eq];have:=sb.1;have:=sb.2;omega),?_,?_,λb xs e=>?_⟩
     ·rw[Kf,hfj,show(some f).toList=[f] from rfl,Rq];exact t10.put nd hm9 hc'
     ·rw[ae (ba hl9 hm9 (by intro z;cases z))];exact hl9
     ·have e':=tt9 b xs e;rw[ae (ba e' hm9 (by intro z;cases z))];exact e'
    refine⟨_,aS.of er,rfl,_,_,rfl,_,_,rfl,rfl,_,rfl,_,aS.of fa,_,rfl,_,_,rfl,aA.of (eW (lt t8.off) sa.wd),_,hwa,_,rfl,_,aS.of fa,_,rfl,wv,rfl,_,rfl,hwr.1,hwr.2,?_⟩;rcases av with ⟨a,b,c,q0,hres,rfl,hq0⟩|⟨hres,rfl⟩
    ·have ec:cM p mn st.words f=i9 wv f.rule (a,b,c+f.add):=by unfold cM;rw[hres,hwg]
     exact .inr ⟨q0,rfl,(a,b,c+f.add),tt8 _ _ hq0,λv' H9 s9 hc=>fin v' H9 s9 (ec▸hc)⟩
    ·have ec:cM p mn st.words f=.inl (.inl (gu f.rule wv (f.add%4294967296))):=by unfold cM;rw[hres,hwg]
     exact .inl ⟨_,rfl,(hfo.2.2 hres).2,λH9 s9=>fin _ H9 s9 (ec▸rfl)⟩
   ·rintro σ H7 ⟨_,_,_,_,rfl,t7,_,_⟩;rw[aI,iR]at t7;refine⟨_,_,_,_,_,_,_,_,rfl,t7.off,?_,?_⟩
    ·obtain⟨km7,h1,h2,h3⟩:=t7.jb;refine⟨km7,h1,?_,by have:=sb.1;have:=sb.2;omega⟩;rw[tk1,J_,eD,Nat.zero_add,hB];unfold stC;rw[hW];exact h2
    ·obtain⟨ks7,h1,h2⟩:=t7.str;exact⟨ks7,h1,by omega⟩
 ·rintro σ H' ⟨_,_,_,_,_,_,_,_,rfl,ti⟩;rw[aI,iR]at ti;obtain⟨km',h1,h2,h3⟩:=ti.jb;obtain⟨ks',h4,h5⟩:=ti.str;exact k km' ks' H' ti.off h1 h4 h2 h3 h5
theorem Nq(w x:Int)(h:0<=w):K3.putF w 0 16 x=65536*(w/65536)+x%65536:=by
 have:=K3.PB w x 0 16 1 65536 (by decide) (by decide) h;simp only[Int.ediv_one,Int.emod_one,Int.one_mul,Int.add_zero]at this;exact this
theorem DK{w a:Int}(hw:0<=w):w/65536*65536+(a+32768)/65536%65536=gu s!"high" w (a%4294967296):=by
 unfold gu;rw[if_neg (by decide),if_pos rfl,Nq _ _ hw];omega
theorem Ik{w a:Int}(hw:0<=w):w/65536*65536+a%65536=gu s!"low" w (a%4294967296):=by
 unfold gu;rw[if_neg (by decide),if_neg (by decide),Nq _ _ hw];omega
theorem Uu(T:Txt K mg A):aY P w K mg base cF 1 A.RL A.q_ ["_law_word", "_law_rule", "_law_add"] yP:=by
 refine T.CO.ok O4 ?_ ?_;walk_at "k"
 obtain⟨c,a,r,rfl,hr1,h0,k⟩:=h;refine⟨_,(aJ (aO (eZ bW (pv 1) aF (aB _)) (aX (ay (ax aZ (pv 2) af))) eL) (aJ (aO (eZ bW (pv 1) aF (aB _)) (aX (ay (ax cH (ax fR (ax e8 (pv 0) af) af) (ax aZ (ax e8 (ax cH (pv 2) af) af) af)))) eL) (aX (ay (ax cH (ax fR (ax e8 (pv 0) af) af) (ax aZ (pv 2) af)))))),?_⟩;walk_at "rd";rcases hr1 with rfl|rfl|rfl
 ·rw[if_pos (by decide)];refine⟨by decide,?_⟩;rw[show gu s!"whole" c (a%4294967296)=a%4294967296 from by unfold gu;rw[if_pos rfl];omega]at k;exact k
 ·rw[if_neg (by decide),if_pos (by decide)];refine⟨⟨by decide,by decide⟩,.inr ⟨by decide,by decide⟩,⟨by decide,by decide⟩,by decide,?_⟩;rw[DK h0];exact k
 ·rw[if_neg (by decide),if_neg (by decide)];refine⟨⟨by decide,by decide⟩,.inr ⟨by decide,by decide⟩,by decide,?_⟩;rw[Ik h0];exact k
def z9(H:Hp)(r:Option (Str×Int×Int))(sv:V):Prop:=match r with
 |none=>sv=.bh
 |some (a,b,c)=>∃q,sv=.ref q/\H q=some (.tup [.str a,.int b,.int c])
def iu(p:ao)(mn:List aq)(f:ai)(i:Nat):Option (Str×Int×Int):=
 match (p.aH.take i).find? λn=>decide (n.name=f.name)&&decide (n.sort=cU) with
 |some n=>some (p.name,n.st,n.off)
 |none=>(ar mn f.name).map λm=>(m.a,m.b,m.c)
theorem DU(nd:(p.aH.map aj.name).Nodup)(hn:p.aH[i]?=some n)(e1:n.name=f.name)(e2:n.sort=cU):iu p mn f (i+1)=some (p.name,n.st,n.off):=by
 have h0:((p.aH.take i).find? λn=>decide (n.name=f.name)&&decide (n.sort=cU))=none:=Nl.mpr λx hx=>by
  obtain⟨j,hj⟩:=List.mem_iff_getElem?.mp hx;have hjl:=(hV.mp hj).1;rw[p_]at hjl;rw[List.getElem?_take,if_pos (by omega)]at hj;intro z;have ez:x.name=f.name:=by
   rw[lW]at z;exact of_decide_eq_true z.1
  have:=(List.getElem?_inj (l:=p.aH.map aj.name) (i:=j) (j:=i) (by rw[aI];omega) nd).mp (by rw[jA,jA,hj,hn];show some x.name=some n.name;rw[ez,e1]);omega
 unfold iu;rw[Kf,hn,Sx,h0];rw[show(some n).toList=[n] from rfl,FI,decide_eq_true e1,decide_eq_true e2];rfl
theorem k6(hn:p.aH[i]?=some n)(h:¬(n.name=f.name/\n.sort=cU)):iu p mn f (i+1)=iu p mn f i:=by
 unfold iu;rw[Kf,hn,Sx,show(some n).toList=[n] from rfl,FI,List.find?_nil];have e:(decide (n.name=f.name)&&decide (n.sort=cU))=false:=by
  cases z:(decide (n.name=f.name)&&decide (n.sort=cU)) with
  |false=>rfl
  |true=>rw[lW]at z;exact absurd ⟨of_decide_eq_true z.1,of_decide_eq_true z.2⟩ h
 rw[e];cases (p.aH.take i).find? λn=>decide (n.name=f.name)&&decide (n.sort=cU)<;>rfl
theorem Sy(tn:Tab H dS mn):z9 H (iu p mn f 0) (((ar mn f.name).map λm=>V.ref m.t).getD V.bh):=by
 show z9 H ((ar mn f.name).map λm=>(m.a,m.b,m.c)) _;cases e:ar mn f.name with
 |none=>rfl
 |some m=>exact⟨m.t,rfl,tn.at_ m (BZ e)⟩
theorem Vw(T:Txt K mg A):aY P w K mg base cF 2 A.TN A.xh ["_law_piece", "_law_some", "_law_word", "_law_fill"] Le:=by
 refine T.BH.ok fF ?_ ?_;walk_at "k"
 obtain⟨p,dS,mn,ws,f,rfl,pa,ln,nd,fa,tn,h0,hR,k⟩:=h;refine⟨_,(aJ (kq (pv 3) (bV (K:=K) (n:=5) rfl rfl (dC (pn 4 fF.nd) (dC (pn 5 fF.nd) (dC (pn 6 fF.nd) (dC (pn 7 fF.nd) (dC (pn 8 fF.nd) bY))))))) (aJ (pS 9 fF.nd (kR (bC hr) (pv 1) (pv 6) ⟨rfl,rfl,rfl,rfl⟩)) (aJ (pF (cJ (K:=K) rfl (tx K (pv 0))) (pn 10 fF.nd) (aX (aO (PW.pt (iW (eZ bW (tx K (pv 10)) (pv 6) (aB _)) (iE (eZ bW (tx K (pv 10)) aF (aB _))))) (aX (pS 9 fF.nd (aQ (ah (tx K (pv 0)) (ah (tx K (pv 10)) (ah (tx K (pv 10)) aa)))))) eL))) (aJ (aO (eZ uP (pv 9) fT (aB _)) (aX (ay (pC (Uu T) hr T.N0 T.FY T.EF (ah (pv 2) (ah (pv 5) (ah (pv 7) aa)))))) eL) (aJ (aO (eZ bW (pv 5) aF (aB _)) (aX (ay (aQ (ah aF (ah (tx K (pv 9)) (ah (tx K (pv 9)) (ah (ax aZ (ax cH (tx K (pv 9)) (pv 7)) af) aa))))))) eL) (aX (ay fT))))))),?_⟩;walk_at "rd";have dg:=bT.k (k:=Sum.inr f.name) tn.top;rw[kN]at dg;refine⟨_,aS.of fa,rfl,_,_,rfl,_,_,rfl,_,_,rfl,_,_,rfl,_,_,rfl,rfl,.inl ⟨_,.inl tn.top⟩,_,dg,_,aS.of pa.top,_,rfl,?_⟩
 refine eM.of (xs:=p.aH.map aj.v) (λi σ H'=>∃(sv:V) (b10:Option V),σ=[some p.v,some (.ref dS),some (.int (ws.getD f.at_.toNat 0)),some f.v,some (.int f.at_),some (.str f.rule),some (.str f.name),some (.int f.add),some (.bl f.soft),some sv,b10]/\az H H'/\z9 H' (iu p mn f i) sv) ⟨_,_,rfl,λ_ _ e=>e,Sy tn⟩ (λi σ H' _ ⟨_,_,_,s1,_⟩=>aA.of (s1 _ _ pa.nl)) ?_ ?_
 ·rintro i v σ H' hv ⟨sv,b10,rfl,s1,sp⟩;walk_at "4";obtain⟨n,hn,rfl⟩:=fW.mp hv;have na:=s1 _ _ (pa.ns n (e7 hn));walk_at "rd";refine⟨_,aS.of na,_,rfl,rfl,cX (λe1=>?_) (λe1=>?_)⟩
  ·have e1:n.name=f.name:=by have:=of_decide_eq_true e1;injection this
   refine⟨_,aS.of na,_,rfl,rfl,cX (λe2=>?_) (λe2=>?_)⟩
   ·have e2:n.sort=cU:=by have:=of_decide_eq_true e2;injection this
    refine⟨_,aS.of (s1 _ _ pa.top),_,rfl,_,aS.of na,_,rfl,_,aS.of na,_,rfl,by decide,λq hq=>⟨s1.trans (a_ hq),?_⟩⟩;rw[DU nd hn e1 e2];exact⟨q,rfl,aD⟩
   ·refine⟨s1,?_⟩;rw[k6 hn (λz=>e2 (decide_eq_true (by rw[z.2];rfl)))];exact sp
  ·refine⟨s1,?_⟩;rw[k6 hn (λz=>e1 (decide_eq_true (by rw[z.1])))];exact sp
 ·rintro σ H' ⟨sv,b10,rfl,s1,sp⟩;rw[aI,show iu p mn f p.aH.length=cZ p mn f from by unfold iu cZ;rw[List.take_length]<;>(cases p.aH.find? λn=>decide (n.name=f.name)&&decide (n.sort=cU)<;>rfl)]at sp;walk_at "rd";cases hres:cZ p mn f with
  |none=>
   rw[hres]at sp;have sp:sv=.bh:=sp;subst sp;rw[if_pos (by decide)];have ec:cM p mn ws f=.inl (.inl (gu f.rule (ws.getD f.at_.toNat 0) (f.add%4294967296))):=by unfold cM;rw[hres]
   exact⟨hR hres,h0,k.1 _ ec _ _ s1 rfl⟩
  |some r=>
   obtain⟨a,b,c⟩:=r;rw[hres]at sp;obtain⟨q,rfl,hq⟩:=sp;have ec:cM p mn ws f=i9 (ws.getD f.at_.toNat 0) f.rule (a,b,c+f.add):=by unfold cM;rw[hres]
   rw[if_neg (by simp)];refine cX (λhw=>?_) (λhw=>?_)
   ·have hw:f.rule=s!"whole" := of_decide_eq_true hw;refine⟨q,rfl,_,aS.of hq,_,rfl,q,rfl,_,aS.of hq,_,rfl,q,rfl,_,aS.of hq,_,rfl,c,rfl,by decide,by decide,λt ht=>?_⟩;exact k.1 _ (ec.trans (if_pos hw)) _ _ (s1.trans (a_ ht)) ⟨t,rfl,aD⟩
   ·have hw:¬f.rule=s!"whole" := λz=>hw (decide_eq_true z);exact k.2 _ (ec.trans (if_neg hw)) _ s1
theorem tF(h:H a=some (RK g z i o)):Rep K H (.tup [.str g,.str z,.int i,.int o]) (.ref a):=⟨a,_,rfl,aS.of h,by simp[RepL,Rep]⟩
theorem G4(T:Txt K mg A):aY P w K mg base cF 1 A.U9 A.um ["_law_found"] KZ:=by
 refine T.CM.ok PR ?_ ?_;walk_at "k"
 obtain⟨c,rfl,k⟩:=h;refine⟨_,(aX (ay (gm (cG (bR (K:=K) rfl) (by rfl) T.aM ka (ah (pv 0) (ah (dv rfl T.iL i_ lH) aa))) (i4 (Qq (cG (bR (K:=K) rfl) (by rfl) T.aM ka (ah (pv 0) (ah (dv rfl T.k_ CI lH) aa)))))))),?_⟩;walk_at "rd";exact⟨_,.int c,true,rfl,Pz ⟨_,.int c,false,rfl,k⟩⟩
theorem Fd(T:Txt K mg A):aY P w K mg base cF 2 A.UO A.rB ["_law_found", "_law_due_here"] xQ:=by
 refine T.Bj.ok Qf ?_ ?_;walk_at "k"
 obtain⟨v,u,rfl,h,k⟩:=h;refine⟨_,(aJ (aO (bU (cG (bR (K:=K) rfl) (by rfl) T.aM ka (ah (pv 1) (ah (dv rfl T.iL i_ lH) aa)))) (aX (ay (gm (pC (G4 T) hr T.By T.yp T.xH (ah (pv 0) aa)) (i4 (eR bW (pv 0) (pv 1) (aB _)))))) eL) (aJ (aO (eZ uP (pv 1) fT (aB _)) (aX (ay (eR uP (pv 0) fT (aB _)))) eL) (aJ (aO (PW.pt (fV (de (bU (cG (bR (K:=K) rfl) (by rfl) T.aM ka (ah (pv 0) (ah (dv rfl T.iq yh lH) aa))))) (fV (eZ AG (cG (gj (K:=K) rfl) (by rfl) T.cL b0 (ah (pv 0) aa)) af (aB _)) (eV (de (bU (cG (bR (K:=K) rfl) (by rfl) T.aM ka (ah (tx K (pv 0)) (ah (dv rfl T.yC FZ lH) aa))))))))) (aX (ay dy)) eL) (aX (ay (gm (cG (bR (K:=K) rfl) (by rfl) T.aM ka (ah (tx K (pv 0)) (ah (dv rfl T.yC FZ lH) aa))) (gm (pC (G4 T) hr T.By T.yp T.xH (ah (tx K (pv 0)) aa)) (gm (pC (G4 T) hr T.By T.yp T.xH (ah (tx K (pv 0)) aa)) (i4 (eR (qD hr.units (K:=K) rfl) (pv 0) (pv 1) (aB _))))))))))),?_⟩;rcases h with ⟨x,ha,hb⟩|⟨rfl,rfl⟩
 ·rcases x with n|⟨g,z,i,o⟩
  ·subst ha;subst hb;walk_at "rd";exact⟨_,.int n,true,rfl,k⟩
  ·obtain⟨a,rfl,ha⟩:=ha;obtain⟨b,rfl,hb⟩:=hb;walk_at "rd";refine⟨_,.tup hb,false,rfl,yr ?_⟩;rw[if_neg (by decide)];refine⟨_,.tup ha,true,rfl,yr ⟨4,.inr ⟨_,aS.of ha,rfl⟩,yr ⟨_,aS.of ha,_,rfl,_,.str _,true,rfl,yr ⟨_,aS.of ha,_,rfl,_,.str _,true,rfl,Pz ⟨_,aS.of ha,_,rfl,_,rfl,_,aS.of ha,_,rfl,_,rfl,?_⟩⟩⟩⟩⟩;exact⟨_,_,.inr ⟨tF ha,tF hb⟩,by simp[depL,dep],by rw[d3];exact k⟩
 ·walk_at "rd";refine⟨_,.bh,false,rfl,yr ?_⟩;rw[if_pos (by decide)];exact k
theorem NP(T:Txt K mg A):aY P w K mg base cF 3 A.Vn A.uK ["_law_found", "_law_due_here"] zj:=by
 refine T.AR.ok Jq ?_ ?_;walk_at "k"
 obtain⟨a,b,rs,xs,ys,rfl,ha,hb,vx,vy,hn,k⟩:=h;refine⟨_,(aJ (aO (PW.pt (fV (de (bU (cG (bR (K:=K) rfl) (by rfl) T.aM ka (ah (pv 0) (ah (dv rfl T.eF eO lH) aa))))) (eV (eZ AG (cG (gj (K:=K) rfl) (by rfl) T.cL b0 (ah (pv 0) aa)) (cG (gj (K:=K) rfl) (by rfl) T.cL b0 (ah (pv 1) aa)) (aB _))))) (aX (ay dy)) eL) (aJ (pF (d6 rfl T.dM (ah (cG (gj (K:=K) rfl) (by rfl) T.cL b0 (ah (pv 1) aa)) aa)) (pn 2 Jq.nd) (aX (aO (de (bU (pC (Fd T) hr T.BY T.xC T.yt (ah (cw (fj (K:=K) rfl) (pv 0) (pv 2) (λ_ _=>rfl)) (ah (cw (fj (K:=K) rfl) (pv 1) (pv 2) (λ_ _=>rfl)) aa))))) (aX (ay dy)) eL))) (aX (ay dy)))),?_⟩;walk_at "rd";refine⟨_,.lst ha,true,rfl,yr ⟨rs.length,.inl ⟨_,aA.of ha,by rw[vx.len]⟩,rs.length,.inl ⟨_,aA.of hb,by rw[vy.len]⟩,?_⟩⟩;rw[if_neg (by simp)];refine⟨rs.length,.inl ⟨_,aA.of hb,by rw[vy.len]⟩,xx.of (by omega) (by omega) (λi σ H'=>H'=H/\∃c,σ=[some (V.ref a),some (V.ref b),c]) ⟨rfl,none,rfl⟩ ?_ ?_⟩
 ·rintro i σ H' hi ⟨rfl,c,rfl⟩;walk_at "rd";have hi:i<rs.length:=by omega
  obtain⟨v,h1,h2⟩:=vx.at_ i _ (lz hi);obtain⟨u,h3,h4⟩:=vy.at_ i _ (lz hi);exact⟨_,aA.of ha,_,(dJ (by rw[vx.len];exact hi)).trans h1,_,aA.of hb,_,(dJ (by rw[vy.len];exact hi)).trans h3,.inl ⟨_,h2,h4⟩⟩
 ·rintro σ H' ⟨rfl,c,rfl⟩;walk_at "rd";exact k
theorem Nc(T:Txt K mg A):aY P w K mg base cF 4 A.UY A.vY ["_law_found", "_law_spot", "_law_row", "_law_told", "_law_ended"] xK:=by
 refine T.AS.ok OU ?_ ?_;walk_at "k"
 obtain⟨t,q,lr,ln,sp,lw,lt,pl,rs,us,rfl,so,hp,hw,hv,ht,h1,k⟩:=h;refine⟨_,(aJ (aO (PW.pt (fV (de (bU (cG (bR (K:=K) rfl) (by rfl) T.aM ka (ah (pv 0) (ah (dv rfl T.iq yh lH) aa))))) (fV (eZ AG (cG (gj (K:=K) rfl) (by rfl) T.cL b0 (ah (pv 0) aa)) af (aB _)) (eV (de (bU (pC (Fd T) hr T.BY T.xC T.yt (ah (tx K (pv 0)) (ah (pv 1) aa))))))))) (aX (ay dy)) eL) (aJ (aO (PW.pt (fV (de (bU (pC (NP T) hr T.IT T.Cn T.CN (ah (tx K (pv 0)) (ah (pv 2) aa))))) (eV (de (bU (pC (NP T) hr T.IT T.Cn T.CN (ah (tx K (pv 0)) (ah (pv 3) aa)))))))) (aX (ay dy)) eL) (aX (ay (gm (cG (bR (K:=K) rfl) (by rfl) T.aM ka (ah (tx K (pv 0)) (ah (dv rfl T.k_ CI lH) aa))) (i4 (eR bW (tx K (pv 0)) (pv 4) (aB _)))))))),?_⟩;walk_at "rd";obtain⟨xs,hr1,hr2⟩:=so.AE;refine⟨_,.tup so.top,true,rfl,yr ⟨4,.inr ⟨_,aS.of so.top,rfl⟩,yr ⟨_,aS.of so.top,_,rfl,?_⟩⟩⟩;refine⟨.inl ⟨.inr (Qr,pl),⟨_,rfl,so.Rm⟩,⟨_,rfl,hp⟩⟩,_,aS.of so.top,_,rfl,_,rfl,_,_,hr1,_,hw,hr2,hv,h1,_,aS.of so.top,_,rfl,_,rfl,[],_,so.Gs,_,ht,⟨rfl,λi x e=>by cases e⟩,⟨rfl,λi x e=>by cases e⟩,gH _,_,aS.of so.top,_,rfl,_,.bl _,true,rfl,Pz ⟨_,aS.of so.top,_,rfl,rfl,?_⟩⟩;rw[decide_eq_true rfl];exact k
structure nc(R:List (Str×aj))(du wk:List aq):Prop where
 nd:(du.map aq.name).Nodup
 nw:(wk.map aq.name).Nodup
 ds:∀z m,ar du z=some m->∃r∈R,r.2.name=z/\r.2.sort=bZ/\aq.vl m=N9 r
 dn:∀z,ar du z=none->∀r∈R,r.2.name=z->r.2.sort≠bZ
 ws:∀z m,ar wk z=some m->∃r∈R,r.2.name=z/\r.2.sort=cq/\aq.vl m=N9 r/\∀r'∈R,r'.2.name=z->r'.2.sort=cq->Y7 r.1 r'.1
 wn:∀z,ar wk z=none->∀r∈R,r.2.name=z->r.2.sort≠cq
theorem ff:bZ≠cq:=by decide +kernel
def kU(t:Addr)(r:Str×aj):aq:=⟨r.2.name,t,r.1,r.2.st,r.2.off⟩
theorem nc.tell(h:nc R du wk)(e:r.2.sort=bZ):nc (R++[r]) (dI du (kU t r)) wk:=by
 walk_at "8";refine⟨v8 h.nd,h.nw,λz m hm=>?_,λz hz x hx hn=>?_,λz m hm=>?_,λz hz x hx hn=>?_⟩
 ·rw[fe]at hm;by_cases q:(kU t r).name=z
  ·rw[if_pos q]at hm;cases hm;exact⟨r,by simp,q,e,rfl⟩
  ·rw[if_neg q]at hm;obtain⟨x,hx,y⟩:=h.ds z m hm;exact⟨x,inL x hx,y⟩
 ·rw[fe]at hz;by_cases q:(kU t r).name=z
  ·rw[if_pos q]at hz;cases hz
  ·rw[if_neg q]at hz;rcases cy.mp hx with y|y
   ·exact h.dn z hz x y hn
   ·rw[cD.mp y]at hn;exact absurd hn q
 ·obtain⟨x,hx,y1,y2,y3,y4⟩:=h.ws z m hm;refine⟨x,inL x hx,y1,y2,y3,λr' hr' n' s'=>?_⟩;rcases cy.mp hr' with y|y
  ·exact y4 r' y n' s'
  ·rw[cD.mp y]at s';exact absurd (e.symm.trans s') ff
 ·rcases cy.mp hx with y|y
  ·exact h.wn z hz x y hn
  ·rw[cD.mp y,e];exact ff
theorem nc.UU(h:nc R du wk)(e:r.2.sort=cq)(hw:∀m,ar wk r.2.name=some m->r.1.cps.toList<m.a.cps.toList):nc (R++[r]) du (dI wk (kU t r)):=by
 walk_at "8";refine⟨h.nd,v8 h.nw,λz m hm=>?_,λz hz x hx hn=>?_,λz m hm=>?_,λz hz x hx hn=>?_⟩
 ·obtain⟨x,hx,y⟩:=h.ds z m hm;exact⟨x,inL x hx,y⟩
 ·rcases cy.mp hx with y|y
  ·exact h.dn z hz x y hn
  ·rw[cD.mp y,e];exact ff.symm
 ·rw[fe]at hm;by_cases q:(kU t r).name=z
  ·rw[if_pos q]at hm;cases hm;refine⟨r,by simp,q,e,rfl,λr' hr' n' s'=>?_⟩;rcases cy.mp hr' with y|y
   ·cases hl:ar wk z with
    |none=>exact absurd s' (h.wn z hl r' y n')
    |some m0=>
     obtain⟨x,hx,y1,y2,y3,y4⟩:=h.ws z m0 hl;have lt:=hw m0 (by rw[show r.2.name=z from q];exact hl);have ea:m0.a=x.1:=congrArg (·.1) y3;rw[ea]at lt;exact λlt2=>y4 r' y n' s' (List.lt_trans lt2 lt)
   ·rw[cD.mp y];exact List.lt_irrefl _
  ·rw[if_neg q]at hm;obtain⟨x,hx,y1,y2,y3,y4⟩:=h.ws z m hm;refine⟨x,inL x hx,y1,y2,y3,λr' hr' n' s'=>?_⟩;rcases cy.mp hr' with y|y
   ·exact y4 r' y n' s'
   ·rw[cD.mp y]at n';exact absurd n' q
 ·rw[fe]at hz;by_cases q:(kU t r).name=z
  ·rw[if_pos q]at hz;cases hz
  ·rw[if_neg q]at hz;rcases cy.mp hx with y|y
   ·exact h.wn z hz x y hn
   ·rw[cD.mp y]at hn;exact absurd hn q
theorem nc.UQ(h:nc R du wk)(e:r.2.sort=cq)(hw:ar wk r.2.name=some m0)(lt:¬r.1.cps.toList<m0.a.cps.toList):nc (R++[r]) du wk:=by
 walk_at "8";refine⟨h.nd,h.nw,λz m hm=>?_,λz hz x hx hn=>?_,λz m hm=>?_,λz hz x hx hn=>?_⟩
 ·obtain⟨x,hx,y⟩:=h.ds z m hm;exact⟨x,inL x hx,y⟩
 ·rcases cy.mp hx with y|y
  ·exact h.dn z hz x y hn
  ·rw[cD.mp y,e];exact ff.symm
 ·obtain⟨x,hx,y1,y2,y3,y4⟩:=h.ws z m hm;refine⟨x,inL x hx,y1,y2,y3,λr' hr' n' s'=>?_⟩;rcases cy.mp hr' with y|y
  ·exact y4 r' y n' s'
  ·have er:=cD.mp y;rw[er]at n' ⊢;rw[n',hm]at hw;cases hw;have ea:m0.a=x.1:=congrArg (·.1) y3;rw[ea]at lt;exact lt
 ·rcases cy.mp hx with y|y
  ·exact h.wn z hz x y hn
  ·rw[cD.mp y]at hn;rw[hn,hz]at hw;cases hw
theorem nc.other(h:nc R du wk)(e1:r.2.sort≠bZ)(e2:r.2.sort≠cq):nc (R++[r]) du wk:=by
 walk_at "8";refine⟨h.nd,h.nw,λz m hm=>?_,λz hz x hx hn=>?_,λz m hm=>?_,λz hz x hx hn=>?_⟩
 ·obtain⟨x,hx,y⟩:=h.ds z m hm;exact⟨x,inL x hx,y⟩
 ·rcases cy.mp hx with y|y
  ·exact h.dn z hz x y hn
  ·rw[cD.mp y];exact e1
 ·obtain⟨x,hx,y1,y2,y3,y4⟩:=h.ws z m hm;refine⟨x,inL x hx,y1,y2,y3,λr' hr' n' s'=>?_⟩;rcases cy.mp hr' with y|y
  ·exact y4 r' y n' s'
  ·rw[cD.mp y]at s';exact absurd s' e2
 ·rcases cy.mp hx with y|y
  ·exact h.wn z hz x y hn
  ·rw[cD.mp y];exact e2
theorem nc.done(h:nc R du wk)(nd:(ms.map aq.name).Nodup)(e:∀z,ar ms z=(ar du z).or (ar wk z)):gi R ms:=by
 refine⟨nd,λz m hm=>?_,λz hz r hr hn=>?_⟩
 ·rw[e z]at hm;cases hd:ar du z with
  |some m'=>rw[hd]at hm;cases hm;exact .inl (h.ds z m hd)
  |none=>
   rw[hd]at hm;exact .inr ⟨h.dn z hd,h.ws z m hm⟩
 ·rw[e z]at hz;obtain⟨h1,h2⟩:=Option.or_eq_none_iff.mp hz;exact⟨h.dn z h1 r hr hn,h.wn z h2 r hr hn⟩
theorem A_(hN:BU ps){r r':Str×aj}(hr:r∈bo ps)(hr':r'∈bo ps)(e1:r.1=r'.1)(e2:r.2.name=r'.2.name):r=r':=by
 obtain⟨p,hp,q1,q2⟩:=bL.mp hr;obtain⟨p',hp',q3,q4⟩:=bL.mp hr';have pe:p=p':=by
  obtain⟨i,hi,rfl⟩:=B7 hp;obtain⟨j,hj,rfl⟩:=B7 hp';have pw:=MW.mp hN.nd;have en:ps[i].name=ps[j].name:=by rw[q1,q3,e1]
  rcases Rl i j with z|z|z
  ·exact absurd (by rw[Ea,Ea];exact en) (pw i j (by simpa using hi) (by simpa using hj) z)
  ·subst z;rfl
  ·exact absurd (by rw[Ea,Ea];exact en.symm) (pw j i (by simpa using hj) (by simpa using hi) z)
 subst pe;have nn:=(hN.aH p hp).2;obtain⟨i,hi,h1⟩:=B7 q2;obtain⟨j,hj,h2⟩:=B7 q4;have pw:=MW.mp nn;have:r.2=r'.2:=by
  rcases Rl i j with z|z|z
  ·exact absurd (by rw[Ea,Ea,h1,h2];exact e2) (pw i j (by simpa using hi) (by simpa using hj) z)
  ·subst z;exact h1.symm.trans h2
  ·exact absurd (by rw[Ea,Ea,h1,h2];exact e2.symm) (pw j i (by simpa using hj) (by simpa using hi) z)
 exact Prod.ext e1 this
theorem E6(hN:BU ps){r r':Str×aj}(hr:r∈bo ps)(hr':r'∈bo ps)(s1:r.2.sort=bZ)(s2:r'.2.sort=bZ)(e2:r.2.name=r'.2.name):r=r':=by
 obtain⟨p,hp,q1,q2⟩:=bL.mp hr;obtain⟨p',hp',q3,q4⟩:=bL.mp hr';obtain⟨i,hi,rfl⟩:=B7 hp;obtain⟨j,hj,rfl⟩:=B7 hp';have pw:=MW.mp hN.tw;rcases Rl i j with z|z|z
 ·exact absurd e2 (pw i j hi hj z r.2 q2 r'.2 q4 s1 s2)
 ·subst z;exact A_ hN hr hr' (by rw[<-q1,<-q3]) e2
 ·exact absurd e2.symm (pw j i hj hi z r'.2 q4 r.2 q2 s2 s1)
theorem gi.one(hN:BU ps)(h:gi (bo ps) ms)(h':gi (bo ps) ns){z:Str}{m n:aq}(hm:ar ms z=some m)(hn:ar ns z=some n):aq.vl m=aq.vl n:=by
 rcases h.Ul z m hm with ⟨r,hr,a1,a2,a3⟩|⟨no,r,hr,a1,a2,a3,a4⟩<;>rcases h'.Ul z n hn with ⟨r',hr',b1,b2,b3⟩|⟨no',r',hr',b1,b2,b3,b4⟩
 ·rw[a3,b3,E6 hN hr hr' a2 b2 (a1.trans b1.symm)]
 ·exact absurd a2 (no' r hr a1)
 ·exact absurd b2 (no r' hr' b1)
 ·have e:r.1=r'.1:=AU (List.le_antisymm (List.not_lt.mp (a4 r' hr' b1 b2)) (List.not_lt.mp (b4 r hr a1 a2)));rw[a3,b3,A_ hN hr hr' e (a1.trans b1.symm)]
theorem ed:z∈ms.map aq.name↔ar ms z≠none:=by
 constructor
 ·intro h e;obtain⟨m,hm,q⟩:=bI.mp h;exact Nl.mp e m hm (decide_eq_true q)
 ·intro h;cases e:ar ms z with
  |none=>exact absurd e h
  |some m=>exact bI.mpr ⟨m,BZ e,of_decide_eq_true (List.find?_some (p:=λm:aq=>decide (m.name=z)) e)⟩
theorem gi.mem(h:gi R ms){z:Str}:z∈ms.map aq.name↔∃r∈R,r.2.name=z/\(r.2.sort=bZ\/r.2.sort=cq):=by
 rw[ed];constructor
 ·intro q;cases e:ar ms z with
  |none=>exact absurd e q
  |some m=>
   rcases h.Ul z m e with ⟨r,hr,a1,a2,_⟩|⟨_,r,hr,a1,a2,_⟩
   ·exact⟨r,hr,a1,.inl a2⟩
   ·exact⟨r,hr,a1,.inr a2⟩
 ·rintro⟨r,hr,a1,a2⟩ e;have:=h.bh z e r hr a1;exact a2.elim this.1 this.2
theorem DP(nd:(ms.map aq.name).Nodup)(h:m∈ms):ar ms m.name=some m:=by
 unfold ar
 induction ms with
 |nil=>cases h
 |cons n r ih=>
  rw[lF]at nd;obtain⟨n1,n2⟩:=jB.mp nd;rw[FI];rcases hZ.mp h with e|e
  ·rw[e,decide_eq_true rfl]
  ·rw[decide_eq_false (λq=>n1 (bI.mpr ⟨m,e,q.symm⟩))];exact ih n2 e
theorem CH(s:az H0 H)(f:H0 d=none)(nde:d≠e)(td:Tab H d du)(te:Tab H e wk)(ht:H t=none)(len:du.length<=1000):
  ∃H',dG (upd H t (.tup [.str r.1,.int r.2.st,.int r.2.off])) d (V.str r.2.name) (V.ref t) H'/\az H0 H'/\Tab H' d (dI du (kU t r))/\Tab H' e wk:=by
 have sn:=a_ (o:=HO.tup [.str r.1,.int r.2.st,.int r.2.off]) ht;refine⟨_,dG.k (k:=.inr r.2.name) (sn _ _ td.top) (by rw[aI,sizeLine_eq];omega),f7 f (s.trans sn),(td.mono sn).put (m:=kU t r) (show upd H t _ t=_ from aD),?_⟩;have te':=te.mono sn;exact⟨by rw[ae (Ne.symm nde)];exact te'.top,λm hm=>by
  unfold aq.At;rw[ae (ba (te'.at_ m hm) (sn _ _ td.top) (by intro z;cases z))];exact te'.at_ m hm⟩
theorem qT(h:kp z a o=kp z' a' o'):z=z'/\a=a'/\o=o':=by
 unfold kp at h;injection h with h1 h;injection h with h2 h;injection h with h3 _;injection h1 with h1;injection h2 with h2;injection h3 with h3;exact⟨h1,h2,h3⟩
theorem yb{P:Addr}{pos:Pos}{s:Str}{H:Hp}(tk:gG P pos s H){b:Addr}{o:HO}(h:H b=some o)(no:∀ps,o≠.g9 ps):b≠P:=by
 obtain⟨ps,h1,_⟩:=tk;exact ba h h1 (no ps)
theorem zo(e:aL q=aL p){n:aj}(hn:n∈q.aH):∃m∈p.aH,m.name=n.name/\m.sort=n.sort/\m.st=n.st/\m.off=n.off:=by
 have h:aj.e n∈p.aH.map aj.e:=by
  have:=congrArg (·.2.1) e;rw[show p.aH.map aj.e=q.aH.map aj.e from this.symm];exact bI.mpr ⟨n,hn,rfl⟩
 obtain⟨m,hm,z⟩:=bI.mp h;unfold aj.e at z;injection z with z1 z2 z3 z4 z5;exact⟨m,hm,z2,z3,z4,z5⟩
theorem z7(e:aL q=aL p):q.aP.map aK.e=p.aP.map aK.e:=congrArg (·.2.2) e
theorem iG(e:aL q=aL p):q.name=p.name:=congrArg (·.1) e
theorem gi.co(h:gi R' ms)(e1:∀r∈R',∃x∈R,x.1=r.1/\x.2.name=r.2.name/\x.2.sort=r.2.sort/\x.2.st=r.2.st/\x.2.off=r.2.off)(e2:∀r∈R,∃x∈R',x.1=r.1/\x.2.name=r.2.name/\x.2.sort=r.2.sort/\x.2.st=r.2.st/\x.2.off=r.2.off):gi R ms:=by
 refine⟨h.nd,λz m hm=>?_,λz hz r hr hn=>?_⟩
 ·rcases h.Ul z m hm with ⟨r,hr,a1,a2,a3⟩|⟨no,r,hr,a1,a2,a3,a4⟩
  ·obtain⟨x,hx,x1,x2,x3,x4,x5⟩:=e1 r hr;exact .inl ⟨x,hx,x2.trans a1,x3.trans a2,by rw[a3];unfold N9;rw[x1,x4,x5]⟩
  ·obtain⟨x,hx,x1,x2,x3,x4,x5⟩:=e1 r hr;refine .inr ⟨λy hy n1 n2=>?_,x,hx,x2.trans a1,x3.trans a2,by rw[a3];unfold N9;rw[x1,x4,x5],λy hy n1 n2=>?_⟩
   ·obtain⟨y',hy',_,y2,y3,_⟩:=e2 y hy;exact no y' hy' (y2.trans n1) (y3.trans n2)
   ·obtain⟨y',hy',y1,y2,y3,_⟩:=e2 y hy;rw[x1,<-y1];exact a4 y' hy' (y2.trans n1) (y3.trans n2)
 ·obtain⟨x,hx,_,x2,x3,_⟩:=e2 r hr;have:=h.bh z hz x hx (x2.trans hn);rw[x3]at this;exact this
theorem jN(h:∀q∈qs,∃p∈ps,aL q=aL p):∀r∈bo qs,∃x∈bo ps,x.1=r.1/\x.2.name=r.2.name/\x.2.sort=r.2.sort/\x.2.st=r.2.st/\x.2.off=r.2.off:=λr hr=>by
 obtain⟨q,hq,q1,q2⟩:=bL.mp hr;obtain⟨p,hp,e⟩:=h q hq;obtain⟨m,hm,m1,m2,m3,m4⟩:=zo e q2;exact⟨(p.name,m),bL.mpr ⟨p,hp,rfl,hm⟩,by rw[<-q1];exact(iG e).symm,m1,m2,m3,m4⟩
theorem cS{ps qs:List ao}(pm:(qs.map aL).Perm (ps.map aL)):∀q∈qs,∃p∈ps,aL q=aL p:=λq hq=>by
 obtain⟨p,hp,e⟩:=bI.mp (pm.mem_iff.mp (bI.mpr ⟨q,hq,rfl⟩));exact⟨p,hp,e.symm⟩
theorem KJ(hN:BU ps)(pm:(qs.map aL).Perm (ps.map aL))(h:gi (bo ps) ms)(h':gi (bo qs) ms')(z:Str):(ar ms' z).map aq.vl=(ar ms z).map aq.vl:=by
 have g:=h'.co (jN (cS pm)) (jN (cS pm.symm));cases a:ar ms z with
 |none=>
  cases b:ar ms' z with
  |none=>rfl
  |some n=>
   have:=g.mem.mp (ed.mpr (by rw[b];simp));exact absurd a (ed.mp (h.mem.mpr this))
 |some m=>
  cases b:ar ms' z with
  |none=>
   have:=h.mem.mp (ed.mpr (by rw[a];simp));exact absurd b (ed.mp (g.mem.mpr this))
  |some n=>
   show some _=some _;rw[h.one hN g a b]
def SW(c:Co)(lk:Str->Option (Str×Int×Int))(f:ai):Option (Str×Int×Int):=
 match c.2.1.find? λn=>decide (n.name=f.name)&&decide (n.sort=cU) with
 |some n=>some (c.1,n.st,n.off)
 |none=>lk f.name
theorem yl(p:ao)(ms:List aq)(f:ai):cZ p ms f=SW (aL p) (λz=>(ar ms z).map aq.vl) (ai.e f):=by
 unfold cZ SW;have e:((aL p).2.1.find? λn=>decide (n.name=(ai.e f).name)&&decide (n.sort=cU))=(p.aH.find? λn=>decide (n.name=f.name)&&decide (n.sort=cU)).map aj.e:=by
  show(p.aH.map aj.e).find? _=_;rw[QS];rfl
 rw[e];cases p.aH.find? λn=>decide (n.name=f.name)&&decide (n.sort=cU)<;>rfl
theorem SO{ps:List ao}{R:ao->ao->Prop}(nd:(ps.map ao.name).Nodup)(h:∀p∈ps,∀q∈ps,p.name≠q.name->R p q):ps.Pairwise R:=
 List.Pairwise.imp_of_mem (λ{a b} ha hb n=>h a ha b hb n) (List.pairwise_map.mp nd)
theorem Bk(c:List (Str×Int×List Int×List ai)):∀{ss:List aK},ss.map aK.e=c->(aV ss).length=(c.map λs=>s.2.2.2.length).sum/\ss.length=c.length/\∀s∈ss,∃x∈c,s.words.length=x.2.2.1.length/\s.fills.length=x.2.2.2.length
 := by
 intro ss h;subst h;refine⟨?_,by rw[aI],λs hs=>⟨aK.e s,bI.mpr ⟨s,hs,rfl⟩,rfl,by unfold aK.e;rw[List.length_map]⟩⟩;unfold aV;rw[List.length_flatMap,fX];refine congrArg List.sum (M4 λs _=>?_);show s.fills.length=(s.fills.map ai.e).length;rw[aI]
theorem xS(h:Ae p)(e:aL q=aL p):Ae q:=by
 have e1:q.aH.map aj.e=p.aH.map aj.e:=congrArg (·.2.1) e;have e2:q.aP.map aK.e=p.aP.map aK.e:=congrArg (·.2.2) e;have l1:q.aH.length=p.aH.length:=by have:=congrArg List.length e1;rwa [aI,aI]at this
 have l2:q.aP.length=p.aP.length:=by have:=congrArg List.length e2;rwa [aI,aI]at this
 obtain⟨f1,_,_⟩:=Bk _ e2;obtain⟨g1,_,_⟩:=Bk _ (rfl:p.aP.map aK.e=_);refine⟨by rw[l1];exact h.nm,by rw[l2];exact h.st,λs hs=>?_,by rw[f1,<-g1];exact h.fl,?_⟩
 ·have m:aK.e s∈q.aP.map aK.e:=bI.mpr ⟨s,hs,rfl⟩;rw[e2]at m;obtain⟨s',hs',es⟩:=bI.mp m;have h1:=h.ss s' hs';have w:s'.words=s.words:=congrArg (·.2.2.1) es;have f:(s'.fills.map ai.e).length=(s.fills.map ai.e).length:=congrArg (λx:Str×Int×List Int×List ai=>x.2.2.2.length) es;rw[aI,aI]at f;rw[<-w,<-f];exact h1
 ·have n:∀l:List aj,l.map aj.name=(l.map aj.e).map aj.name:=λl=>by rw[fX];rfl
  rw[n,e1,<-n];exact h.nd
theorem Ij(h:BU ps)(pm:(qs.map aL).Perm (ps.map aL)):BU qs/\(qs.map ao.name).Nodup:=by
 have e1:∀l:List ao,l.map ao.name=(l.map aL).map (·.1):=λl=>by rw[fX];rfl
 have nd:(qs.map ao.name).Nodup:=by
  have:=h.nd;rw[e1]at this ⊢;exact(pm.map (·.1)).nodup_iff.mpr this
 have lq:=pm.length_eq;rw[aI,aI]at lq;refine⟨⟨by rw[lq];exact h.d7,nd,λq hq=>?_,SO nd λp hp q hq ne x hx y hy s1 s2=>?_⟩,nd⟩
 ·obtain⟨p,hp,e⟩:=cS pm q hq;have e2:q.aH.map aj.e=p.aH.map aj.e:=congrArg (·.2.1) e;have n:∀l:List aj,l.map aj.name=(l.map aj.e).map aj.name:=λl=>by rw[fX];rfl
  have l1:q.aH.length=p.aH.length:=by have:=congrArg List.length e2;rwa [aI,aI]at this
  rw[l1,n,e2,<-n];exact h.aH p hp
 ·obtain⟨p',hp',e⟩:=cS pm p hp;obtain⟨q',hq',e'⟩:=cS pm q hq;obtain⟨m,hm,m1,m2,_⟩:=zo e hx;obtain⟨m',hm',m1',m2',_⟩:=zo e' hy;rw[<-m1,<-m1'];obtain⟨i,hi,rfl⟩:=B7 hp';obtain⟨j,hj,rfl⟩:=B7 hq';have pw:=MW.mp h.tw;rcases Rl i j with z|z|z
  ·exact pw i j hi hj z m hm m' hm' (m2.trans s1) (m2'.trans s2)
  ·subst z;exact absurd ((iG e).trans (iG e').symm) ne
  ·exact λy=>pw j i hj hi z m' hm' m hm (m2'.trans s2) (m2.trans s1) y.symm
theorem jc:∀(ws:List Int) (j:Nat) (m:cI) (k:List Key),(∀o:Nat,j<=o->k≠kp z n o)->dj z n ws j m k=m k
 |[],_,_,_,_=>rfl
 |w::r,j,m,k,h=>by
  show dj z n r (j+1) (setC m (kp z n j) _) k=m k;rw[jc r (j+1) _ k λo ho=>h o (by omega)];exact if_neg (h j (bw _))
theorem xE:∀(ws:List Int) (j:Nat) (m:cI) (o:Nat) (w:Int),ws[o]?=some w->dj z n ws j m (kp z n ((j+o:Nat):Int))=some (.inl (.inl w))
 |w0::r,j,m,0,w,h=>by
  cases h;show dj z n r (j+1) (setC m (kp z n j) _) _=_;rw[jc r (j+1) _ _ λo ho e=>by have:=(qT e).2.2;omega];exact if_pos rfl
 |w0::r,j,m,o+1,w,h=>by
  have:=xE (z:=z) (n:=n) r (j+1) (setC m (kp z n j) (.inl (.inl w0))) o w h;show dj z n r (j+1) (setC m (kp z n j) _) _=_;rw[show j+(o+1)=j+1+o by omega];exact this
theorem xR:∀(fs:List ai) (m:cI) (c:Option ai) (d:Option Ce),m (kp p.name n o)=(c.map (cM p mn ws)).or d->(fs.foldl (kB p mn n ws) m) (kp p.name n o)=((fs.foldl (λc f=>if f.at_=o then some f else c) c).map (cM p mn ws)).or d
 |[],_,_,_,h=>h
 |f::r,m,c,d,h=>by
  refine xR r (kB p mn n ws m f) (if f.at_=o then some f else c) d ?_;show(if kp p.name n o=kp p.name n f.at_ then _ else _)=_;by_cases e:f.at_=o
  ·rw[if_pos (by rw[e]),if_pos e];rfl
  ·rw[if_neg (λz=>e (qT z).2.2.symm),if_neg e];exact h
theorem mT(h:∀o:Int,k≠kp p.name n o):∀(fs:List ai) (m:cI),(fs.foldl (kB p mn n ws) m) k=m k
 |[],_=>rfl
 |f::r,m=>(mT h r (kB p mn n ws m f)).trans (if_neg (h _))
theorem Vr{p:ao}{mn:List aq}{n:Int}{s:aK}{m:cI}{o:Nat}{w:Int}(h:s.words[o]?=some w):stC p mn n s m (kp p.name n o)=some (fu p mn s o w):=by
 unfold stC;rw[xR s.fills _ none (some (.inl (.inl w))) (by have:=xE (z:=p.name) (n:=n) s.words 0 m o w h;rw[Nat.zero_add]at this;exact this)];unfold fu fU;cases s.fills.foldl (λc f=>if f.at_=(o:Int) then some f else c) none<;>rfl
theorem Pk(h:∀o:Int,k≠kp p.name n o):stC p mn n s m k=m k:=by
 unfold stC;rw[mT h,jc _ _ _ _ λo _=>h o]
theorem sQ:∀(ss:List aK) (j:Nat) (m:cI),(∀(i:Nat) (o:Int),j<=i->k≠kp p.name i o)->gU p mn ss j m k=m k
 |[],_,_,_=>rfl
 |s::r,j,m,h=>by
  show gU p mn r (j+1) (stC p mn j s m) k=m k;rw[sQ r (j+1) _ λi o hi=>h i o (by omega)];exact Pk λo=>h j o (bw _)
theorem Kl{p:ao}{mn:List aq}{o:Nat}{w:Int}{st:aK}(hw:st.words[o]?=some w):∀(ss:List aK) (j:Nat) (m:cI) (i:Nat),ss[i]?=some st->gU p mn ss j m (kp p.name ((j+i:Nat):Int) o)=some (fu p mn st o w)
 |s::r,j,m,0,h=>by
  cases h;show gU p mn r (j+1) (stC p mn j st m) _=_;rw[sQ r (j+1) _ λi o hi e=>by have:=(qT e).2.1;omega];exact Vr hw
 |s::r,j,m,i+1,h=>by
  show gU p mn r (j+1) (stC p mn j s m) _=_;rw[show j+(i+1)=j+1+i by omega];exact Kl hw r (j+1) _ i h
def mG(mn:List aq)(qs:List ao)(m:cI):cI:=qs.foldl (λm q=>gU q mn q.aP 0 m) m
theorem yG:∀(qs:List ao) (m:cI),(∀q∈qs,q.name≠z)->mG mn qs m (kp z i o)=m (kp z i o)
 |[],_,_=>rfl
 |q::r,m,h=>(yG r (gU q mn q.aP 0 m) λx hx=>h x (h8 _ hx)).trans (sQ _ _ _ λ_ _ _ e=>h q lO (qT e).1.symm)
theorem Cs{mn:List aq}{q:ao}{i o:Nat}{w:Int}{st:aK}(hs:q.aP[i]?=some st)(hw:st.words[o]?=some w):∀(qs:List ao) (m:cI),(qs.map ao.name).Nodup->q∈qs->mG mn qs m (kp q.name i o)=some (fu q mn st o w)
 |a::r,m,nd,h=>by
  rw[lF]at nd;obtain⟨n1,n2⟩:=jB.mp nd;show mG mn r (gU a mn a.aP 0 m) _=_;rcases hZ.mp h with e|e
  ·subst e;rw[yG r _ λx hx e=>n1 (bI.mpr ⟨x,hx,e⟩)];have:=Kl (p:=q) (mn:=mn) hw q.aP 0 m i hs
   rwa [Nat.zero_add]at this
  ·exact Cs hs hw r _ n2 e
theorem kM(o:Int):∀(fs:List ai) (c:Option ai),(fs.foldl (λc f=>if f.at_=o then some f else c) c).map ai.e=(fs.map ai.e).foldl (λc f=>if f.at_=o then some f else c) (c.map ai.e)
 |[],_=>rfl
 |f::r,c=>by
  show _=(r.map ai.e).foldl _ (if (ai.e f).at_=o then some (ai.e f) else c.map ai.e);rw[show(if (ai.e f).at_=o then some (ai.e f) else c.map ai.e)=(if f.at_=o then some f else c).map ai.e from by
   show(if f.at_=o then some (ai.e f) else c.map ai.e)=_;by_cases e:f.at_=o
   ·rw[if_pos e,if_pos e];rfl
   ·rw[if_neg e,if_neg e]]
  exact kM o r _
theorem K5(e:aL q=aL p)(lk:∀z,(ar ns z).map aq.vl=(ar ms z).map aq.vl)(ef:ai.e g=ai.e f):cZ q ns g=cZ p ms f:=by
 rw[yl,yl,e,ef,funext lk]
theorem IJ(e:aL q=aL p)(lk:∀z,(ar ns z).map aq.vl=(ar ms z).map aq.vl)(ef:ai.e g=ai.e f):cM q ns ws g=cM p ms ws f:=by
 unfold cM;rw[K5 e lk ef];unfold ai.e at ef;injection ef with _ a1 a2 a3 a4 a5;rw[a1,a2,a4]
theorem xI{p q:ao}{ms ns:List aq}{s t:aK}{o w:Int}(e:aL q=aL p)(lk:∀z,(ar ns z).map aq.vl=(ar ms z).map aq.vl)(es:aK.e t=aK.e s):fu q ns t o w=fu p ms s o w:=by
 have ew:t.words=s.words:=congrArg (·.2.2.1) es;have ef:t.fills.map ai.e=s.fills.map ai.e:=congrArg (·.2.2.2) es;have el:(fU t.fills o).map ai.e=(fU s.fills o).map ai.e:=by
  unfold fU;rw[kM,kM,ef]
 unfold fu;cases a:fU t.fills o with
 |none=>
  rw[a]at el;cases b:fU s.fills o with
  |none=>rfl
  |some f=>rw[b]at el;cases el
 |some g=>
  rw[a]at el;cases b:fU s.fills o with
  |none=>rw[b]at el;cases el
  |some f=>
   rw[b]at el;show cM q ns t.words g=cM p ms s.words f;rw[ew];exact IJ e lk (by injection el)
theorem Lc(h:NN p ms)(e:aL q=aL p)(lk:∀z,(ar ns z).map aq.vl=(ar ms z).map aq.vl):NN q ns:=by
 have st:∀t∈q.aP,∃s∈p.aP,aK.e t=aK.e s:=λt ht=>by
  have m:aK.e t∈p.aP.map aK.e:=by rw[<-z7 e];exact bI.mpr ⟨t,ht,rfl⟩
  obtain⟨s,hs,es⟩:=bI.mp m;exact⟨s,hs,es.symm⟩
 refine⟨xS h.bn e,λt ht w hw=>?_,λt ht g hg=>?_⟩
 ·obtain⟨s,hs,es⟩:=st t ht;have ew:t.words=s.words:=congrArg (·.2.2.1) es;exact h.UD s hs w (ew▸hw)
 ·obtain⟨s,hs,es⟩:=st t ht;have ew:t.words=s.words:=congrArg (·.2.2.1) es;have ef:t.fills.map ai.e=s.fills.map ai.e:=congrArg (·.2.2.2) es;have m:ai.e g∈s.fills.map ai.e:=by rw[<-ef];exact bI.mpr ⟨g,hg,rfl⟩
  obtain⟨f,hf,efg⟩:=bI.mp m;have h1:=h.Ra s hs f hf;rw[K5 e lk efg.symm,ew];unfold ai.e at efg;injection efg with _ a1 a2 a3 a4 a5;rw[<-a1,<-a2,<-a5];exact h1
theorem Ce.Is.Nx(h:Ce.Is A H x v)(s:∀b o,((∃xs,o=.tup xs)\/∃c d p q r,o=.ins c d [p,q,r])->H b=some o->H' b=some o):Ce.Is A H' x v:=by
 rcases x with y|⟨w,r,z,a,o⟩
 ·exact Va.Is.keep h λb xs e=>s b _ (.inl ⟨xs,rfl⟩) e
 ·obtain⟨t,dx,q,rfl,h1,h2⟩:=h;exact⟨t,dx,q,rfl,s _ _ (.inr ⟨_,_,_,_,_,rfl⟩) h1,s _ _ (.inl ⟨_,rfl⟩) h2⟩
theorem U2(T:Txt K mg A):aY P w K mg base cF 8 A.RM A.vJ ["self", "given", "shelves", "entry", "registers"] (C9 A):=by
 refine T.CG.ok vL ?_ ?_;walk_at "k"
 obtain⟨x,dx,g,sl,l,e,ps,mn,m,rs,us,rfl,hx,pl,hs,tkb,psn,nmk,hlm,pf,hl',hrs,l8,tk,tb,nt,k⟩:=h;refine⟨_,(aJ (pS 5 vL.nd (pC (MY T) hr T.CJ T.jP T.qE (ah (pv 1) (ah (pv 2) (ah (pv 3) aa))))) (aJ (pS 6 vL.nd (pC (Vp T) hr T.NW T.Bx T.HN (ah (pv 5) aa))) (aJ (cA (pv 0) yK rfl) (aJ (cA (pv 0) yK rfl) (aJ (pF (cJ (K:=K) rfl (pv 5)) (pn 7 vL.nd) (aX (dh (fC (pv 0) T.bO T.Kd (Vf T) (hr.mono (by decide)) T.HQ .nil dB (ah (pv 7) (ah (pv 6) aa)))))) (aJ (cA (pv 0) (pC (La T) hr T.B1 T.yI T.xP (ah (fB (bC hr) (pv 6) (pv 3) (λ_ _=>rfl)) aa)) rfl) (aJ (cA (pv 0) (fH (kD ["value"]) rfl (cJ (K:=K) rfl (pv 4)) (λ_ _ _=>⟨(pn 0 (by walk_at "n")),cj,(pC (BB T) hr T.xD T.lX T.mU (ah (pv 0) aa))⟩)) rfl) (aJ (cA (pv 0) (bx aa) rfl) (aX (cA (pv 0) dy rfl)))))))))),?_⟩;walk_at "rd";refine⟨ps,[],⟨pl,⟨hs,λx hx=>by cases hx⟩,tkb⟩,tk,λL T5 rs5 qs H1 sx1 tk1 hp1 fr1 tc cc pm srt=>?_⟩;obtain rfl:T5=[]:=List.eq_nil_iff_forall_not_mem.mpr λc hc=>by have:=tc.sub c hc;simp[flat]at this
 rw[Ed]at pm;have pq:=cS pm.symm;obtain⟨psq,ndq⟩:=Ij psn pm;have nb1:gG A.br Fi GP H1:=by
  obtain⟨ps,h1,h2,h3⟩:=tb;refine⟨ps,sx1 _ _ nt h1,h2,?_⟩;rcases h3 with h3|⟨c,h3,h4⟩
  ·exact .inl h3
  ·exact .inr ⟨c,h3,sx1 _ _ (yb tk h4 (by intro _ z;cases z)) h4⟩
 refine⟨qs,⟨hp1.top,hp1.at_⟩,psq,nb1,λd ms H2 sx2 nb2 tab nm hd dm hdm=>?_⟩;have lk:=KJ psn pm nmk nm;have qw:∀q∈qs,NN q ms:=λq hq=>by
  obtain⟨p,h1,h2⟩:=cS pm q hq;exact Lc (pf p h1) h2 lk
 have gx {b:Addr}{o:HO}(h:H b=some o) (no:∀ps,o≠.g9 ps):H2 b=some o:=sx2 _ _ (yb nb1 (sx1 _ _ (yb tk h no) h) no) (sx1 _ _ (yb tk h no) h);have g1 {b:Addr}{o:HO}(h:H1 b=some o) (no:∀ps,o≠.g9 ps):H2 b=some o:=sx2 _ _ (yb nb1 h no) h;have hx2:=gx hx (by intro _ z;cases z);have xm:x≠dm:=bD hx2 hdm;refine⟨_,_,_,by rw[ae xm];exact hx2,T.bO,T.bS,(by show 0<1000;decide),λds hds=>?_⟩;obtain⟨dsx,hds⟩:=bJ hds;obtain⟨dsm,hds⟩:=bJ hds;refine⟨_,_,_,by rw[ae dsx.symm,aD],T.bO,T.cn,(by show 1<1000;decide),?_⟩;generalize hH3:upd (upd (upd (upd H2 dm (HO.dT [])) x _) ds (HO.dT [])) x _=H3;have k3 {b:Addr}{o:HO}(n:b≠x) (h:H2 b=some o):H3 b=some o:=by rw[<-hH3,ae n,ae (bD h hds),ae n,ae (bD h hdm)];exact h
 have x3:H3 x=some (.ins A.cu dx [("memory", .ref dm),("stretches", .ref ds)]):=by rw[<-hH3,aD];rfl
 have m3:H3 dm=some (.dT []):=by rw[<-hH3,ae xm.symm,ae dsm.symm,ae xm.symm,aD]
 have s3:H3 ds=some (.dT []):=by rw[<-hH3,ae dsx,aD]
 have lt3:fA H1 H3:=λb o h e=>by
  have no:∀ps,o≠.g9 ps:=by rcases h with ⟨_,rfl⟩|⟨_,rfl⟩<;>intro _ z<;>cases z
  have e2:=g1 e no;exact k3 (ba e2 hx2 (by rcases h with ⟨_,rfl⟩|⟨_,rfl⟩<;>intro z<;>cases z)) e2
 have lto {H':Hp}(f:∀b o,b≠dm->b≠ds->H3 b=some o->H' b=some o):fA H3 H':=λb o h e=>f b o (ba e m3 (by rcases h with ⟨_,rfl⟩|⟨_,rfl⟩<;>intro z<;>cases z)) (ba e s3 (by rcases h with ⟨_,rfl⟩|⟨_,rfl⟩<;>intro z<;>cases z)) e;have tab3:Tab H3 d ms:=⟨k3 (ba tab.top hx2 (by intro z;cases z)) tab.top,λm hm=>k3 (ba (tab.at_ m hm) hx2 (by intro z;cases z)) (tab.at_ m hm)⟩
 have f4x {H':Hp}(f4:∀b o,b≠dm->b≠ds->H3 b=some o->H' b=some o) {b:Addr}{o:HO}(h:H3 b=some o) (no:∀kv,o≠.dT kv):H' b=some o:=f4 b o (ba h m3 (no _)) (ba h s3 (no _)) h;have d7:=psq.d7;refine eM.of (xs:=qs.map ao.v) (λi σ H'=>∃c7:Option V,σ=[some (V.ref x),some (V.ref g),some (V.ref sl),some (V.str e),some (V.ref l),some (V.ref L),some (V.ref d),c7]/\AV A H3 H' dm ds (mG ms (qs.take i) λ_=>none) (12200*i) (61*i)) ⟨none,rfl,λ_ _ _ _ h=>h,⟨[],m3,⟨λk x e=>(by cases e),λ_ _=>rfl⟩,bw _⟩,[],s3,bw _⟩ (λi σ H' _ ⟨_,_,ti⟩=>aA.of (eW (lto ti.off) (eW lt3 hp1.top))) ?_ ?_
 ·rintro i v σ H' hv ⟨c7,rfl,ti⟩;walk_at "4";obtain⟨q,hq,rfl⟩:=fW.mp hv;have hqm:=e7 hq;have hi:i<qs.length:=(hV.mp hq).1;have tk1:qs.take (i+1)=qs.take i++[q]:=by rw[Kf,hq];rfl
  obtain⟨km,hm1,hm2,hm3⟩:=ti.jb;obtain⟨ks,hk1,hk2⟩:=ti.str;have x4:=f4x ti.off x3 (by intro _ z;cases z);have tab4:Tab H' d ms:=⟨f4x ti.off tab3.top (by intro _ z;cases z),λm hm=>gQ (lto ti.off) (tab3.at_ m hm)⟩
  walk_at "rd";refine⟨_,_,x4,rfl,dx,dm,ds,d,q,rfl,rfl,x4,ms,km,hm1,ks,hk1,dsm.symm,by omega,by omega,_,hm2,jo (lto ti.off) (jo lt3 (hp1.at_ q hqm)),qw q hqm,tab4,λkm' ks' H5 f5 m5 s5 mk5 l5 l6=>?_⟩;have hst:=(qw q hqm).bn.st;refine⟨λb o n1 n2 h=>f5 b o n1 n2 (ti.off b o n1 n2 h),⟨km',m5,?_,by omega⟩,⟨ks',s5,by omega⟩⟩;rw[tk1];unfold mG;rw[Rq];exact mk5
 ·rintro σ H' ⟨c7,rfl,ti⟩;obtain⟨km,hm1,hm2,hm3⟩:=ti.jb;rw[aI,iR]at hm2;have f4:=ti.off;walk_at "rd";obtain⟨m',hl2,hv2⟩:∃m',ar ms e=some m'/\aq.vl m'=aq.vl m:=by
   have:=lk e;rw[hlm]at this;cases c:ar ms e with
   |none=>rw[c]at this;cases this
   |some m'=>rw[c]at this;exact⟨m',rfl,by injection this⟩
  have hmm:=BZ hl2;have lt4:=lto f4;have f4' {b:Addr}{o:HO}(h:H3 b=some o) (no:∀kv,o≠.dT kv):H' b=some o:=f4x f4 h no;have d4:=f4' tab3.top (by intro _ z;cases z);have gd:bT H' d (V.str e) (some (V.ref m'.t)):=by
   have:=bT.k (k:=Sum.inr e) d4;rw[kN,hl2]at this;exact this
  have x4:=f4' x3 (by intro _ z;cases z);refine⟨_,gd,_,rfl,_,_,_,gQ lt4 (tab3.at_ m' hmm),λtp htp=>?_⟩;have ma:m'.a=m.a:=congrArg (·.1) hv2;have mb:m'.b=m.b:=congrArg (·.2.1) hv2;have mc:m'.c=m.c:=congrArg (·.2.2) hv2;rw[ma,mb,mc];have xt:x≠tp:=bD x4 htp;refine⟨_,_,_,by rw[ae xt];exact x4,T.bO,T.dZ,(by show 2<1000;decide),?_⟩;generalize hH5:upd (upd H' tp (atT m.a m.b (m.c%4294967296))) x _=H5;have k5 {b:Addr}{o:HO}(nx:b≠x) (h:H' b=some o):H5 b=some o:=by rw[<-hH5,ae nx,ae (bD h htp)];exact h
  have x5:H5 x=some (.ins A.cu dx [("memory", .ref dm),("stretches", .ref ds),("place", .ref tp)]):=by rw[<-hH5,aD];rfl
  have p5:H5 tp=some (atT m.a m.b (m.c%4294967296)):=by rw[<-hH5,ae xt.symm,aD]
  have tup5:∀b xs,H b=some (.tup xs)->H5 b=some (.tup xs):=λb xs h=>by
   have h2:=gx h (by intro _ z;cases z);have h3:=k3 (ba h2 hx2 (by intro z;cases z)) h2;have h4:=gQ lt4 h3;exact k5 (ba h4 x4 (by intro z;cases z)) h4
  have l3:H3 l=some (.lst us):=by
   have h2:=gx hl' (by intro _ z;cases z);exact k3 (ba h2 hx2 (by intro z;cases z)) h2
  have l4:=eW lt4 l3;have l5:H5 l=some (.lst us):=k5 (ba l4 x4 (by intro z;cases z)) l4;have rs5:jE H5 rs us:=hrs.keep tup5;refine dH.of (xs:=us) (by rw[hrs.len,l8,sizeLine_eq];decide) (aA.of l5) (λD i ys H'=>jE H' (rs.take i) ys/\az H5 H'/\H' D=some (.lst ys)) (λD hD=>⟨⟨rfl,λi x e=>(by cases e)⟩,a_ hD,aD⟩) (λD i ys H' hD hi ⟨e,s1,h1⟩=>⟨aA.of (s1 _ _ l5),h1,by rw[e.len,p_];omega⟩) ?_ ?_
  ·rintro D i x ys H' hD hx ⟨e,s1,h1⟩;walk_at "rd";refine⟨.no .nil,?_⟩;have hi:i<rs.length:=by rw[<-hrs.len];exact(hV.mp hx).1
   obtain⟨v,h2,h3⟩:=rs5.at_ i _ (lz hi);rw[h2]at hx;cases hx;refine⟨_,h3.mono s1,λv' H2 s2 h4=>⟨s2 _ _ h1,?_,f7 hD (s1.trans s2),aD⟩⟩;rw[Kf,lz hi];have b:=fb.upd (o:=.lst (ys++[v'])) (s2 _ _ h1);exact((e.mono s2).keep λ_ _ z=>b.tup z).snoc (h4.keep λ_ _ z=>b.tup z)
  ·rintro D ys H6 hD ⟨e6,s6,h6⟩;rw[hrs.len,iR]at e6;have x6:=s6 _ _ x5;refine⟨_,_,_,x6,T.bO,T.ck,(by show 3<1000;decide),gH _,λln hln=>?_⟩;obtain⟨lnx,hln6⟩:=bJ hln;refine⟨_,_,_,by rw[ae lnx.symm,aD],T.bO,T.cV,(by show 4<1000;decide),_,_,_,aD,T.bO,T.dR,(by show 5<1000;decide),?_⟩;generalize hH7:upd (upd (upd (upd H6 x _) ln (HO.lst [])) x _) x _=H7;have k7 {b:Addr}{o:HO}(nx:b≠x) (h:H6 b=some o):H7 b=some o:=by rw[<-hH7,ae nx,ae nx,ae (bD h hln6),ae nx];exact h
   have t7:∀b xs,H6 b=some (.tup xs)->H7 b=some (.tup xs):=λb xs h=>k7 (ba h x6 (by intro z;cases z)) h;have k47 {b:Addr}{o:HO}(nx:b≠x) (h:H' b=some o):H7 b=some o:=k7 nx (s6 _ _ (k5 nx h));have ns (b:Addr) (h:H b≠none):H2 b≠none:=by
    have n1:H1 b≠none:=by
     by_cases c:b=A.aN
     ·obtain⟨ps,z,_⟩:=tk1;rw[c,z];simp
     ·obtain⟨o,z⟩:=Option.ne_none_iff_exists'.mp h;rw[sx1 b o c z];simp
    by_cases c:b=A.br
    ·obtain⟨ps,z,_⟩:=nb2;rw[c,z];simp
    ·obtain⟨o,z⟩:=Option.ne_none_iff_exists'.mp n1;rw[sx2 b o c z];simp
   have nz {b:Addr}(h:H5 b=none):H b=none:=Classical.byContradiction λz=>by
    obtain⟨o,y⟩:=Option.ne_none_iff_exists'.mp (ns b z);by_cases c:b=x
    ·rw[c,x5]at h;cases h
    ·rw[k5 c (f4 b o (bD y hdm) (bD y hds) (k3 c y))]at h;cases h
   have Dx:D≠x:=Ne.symm (bD x5 hD);have kc:∀b o,((∃xs,o=.tup xs)\/∃c d p q r,o=.ins c d [p,q,r])->H' b=some o->H7 b=some o:=λb o c h=>k47 (ba h x4 (by
    rcases c with ⟨_,rfl⟩|⟨_,_,_,_,_,rfl⟩
    ·intro z;cases z
    ·intro z;injection z with _ _ z;injection z with _ z;injection z with _ z;cases z)) h
   refine k ⟨x,dx,dm,ds,tp,D,ln⟩ (mG ms qs λ_=>none) H7 rfl (λb o nx no h=>?_) ⟨by rw[<-hH7,aD];rfl,⟨km,k47 xm.symm hm1,λk y hy=>?_,hm2.2⟩,t7 _ _ (s6 _ _ p5),⟨ys,k7 Dx h6,e6.keep t7⟩,l8,by rw[<-hH7,ae lnx,ae lnx,aD],bD h6 hln6⟩ (λp hp i st o w hst hw=>?_) (nz hD) (nz (cC s6 hln6))
   ·have h2:=gx h no;exact k47 nx (f4 b o (bD h2 hdm) (bD h2 hds) (k3 nx h2))
   ·obtain⟨v,h1,h2⟩:=hm2.1 k y hy;exact⟨v,h1,h2.Nx kc⟩
   ·obtain⟨q,hq,eq⟩:=pq p hp;have hst':(q.aP.map aK.e)[i]?=some (aK.e st):=by rw[<-z7 eq,jA,hst];rfl
    rw[jA]at hst';obtain⟨t,ht,et⟩:=fW.mp hst';have ew:t.words=st.words:=congrArg (·.2.2.1) et;rw[iG eq,Cs ht (by rw[ew];exact hw) qs _ ndq hq,xI eq.symm lk et]
theorem MZ(h0:0<=i)(h1:i<37)(g0:0<=j)(g1:j<37)(e:sgn i=sgn j):i=j:=by
 obtain⟨m,rfl⟩:=Int.eq_ofNat_of_zero_le h0;obtain⟨n,rfl⟩:=Int.eq_ofNat_of_zero_le g0;have hm:m<37:=by omega
 have hn:n<37:=by omega
 have:∀a:Nat,a<37->∀b:Nat,b<37->sgn (a:Int)=sgn (b:Int)->a=b:=by decide +kernel
 rw[this m hm n hn e]
theorem kT(h0:0<=k)(h1:k<16)(g0:0<=k')(g1:k'<16)(e:nameOf t k=nameOf t k'):k=k':=by
 unfold nameOf at e;by_cases hc:t/256%3=0
 ·have l:=congrArg Str.length e;rw[gk,gk]at l;unfold gb at l;rw[if_pos hc,if_pos hc]at l;omega
 ·unfold gb at e;rw[if_neg hc,if_neg hc]at e;have a0:0<=t/16%(1+t%16):=Int.emod_nonneg _ (by omega);have a1:t/16%(1+t%16)<1+t%16:=Int.emod_lt_of_pos _ (by omega);have ea:pX t=t/16%(1+t%16):=by unfold pX;rw[if_neg hc]
  obtain⟨j,ej⟩:=Int.eq_ofNat_of_zero_le a0;have hj:j<(1+t%16).toNat:=by omega
  have e1:=congrArg (λz:Str=>z.cps.toList[j]?) e;have get:∀k:Int,(jC t k (1+t%16).toNat).cps.toList[j]?=some (sgn (iT t k j)):=λk=>by
   unfold jC;simp[hj]
  have e2:sgn (iT t k j)=sgn (iT t k' j):=by
   have e1:(jC t k (1+t%16).toNat).cps.toList[j]?=(jC t k' (1+t%16).toNat).cps.toList[j]?:=e1;rw[get,get]at e1;exact Option.some.inj e1
  have e3:=MZ (eN t k j).1 (eN t k j).2 (eN t k' j).1 (eN t k' j).2 e2;unfold iT at e3;rw[decide_eq_true (show(j:Int)=pX t by rw[ea,ej])]at e3;simp only[if_true,Int.mul_one]at e3;generalize t/((j:Int)+3)+(j:Int)*(j:Int)=y at e3;by_cases hj0:(j:Int)=0
  ·rw[decide_eq_true hj0]at e3;simp at e3;omega
  ·rw[decide_eq_false hj0]at e3;simp at e3;omega
theorem xN:∀n:Nat,n<=12->(((List.range n).map λi:Nat=>nameOf t i)++[nameOf t 14]).Nodup:=λn hn=>by
 rw[lD];refine⟨?_,by simp,λx hx y hy e=>?_⟩
 ·rw[List.Nodup,List.pairwise_map];refine List.Pairwise.imp_of_mem (λ{a b} ha hb hne e=>hne ?_) (List.nodup_range (n:=n));have:=kT (k:=(a:Int)) (k':=(b:Int)) (by omega) (by have:=MD.mp ha;omega) (by omega) (by have:=MD.mp hb;omega) e;omega
 ·obtain⟨i,hi,rfl⟩:=bI.mp hx;rw[cD.mp hy]at e;have:=kT (k:=(i:Int)) (k':=14) (by omega) (by have:=MD.mp hi;omega) (by omega) (by omega) e;have:=MD.mp hi;omega
theorem nW{l:List Nat}{x:Nat}(h:x∈l):x<=l.sum:=by
 induction l with
 |nil=>cases h
 |cons a l ih=>
  rw[List.sum_cons];rcases hZ.mp h with e|e
  ·omega
  ·have:=ih e;omega
theorem Drawn.pc(d:Drawn c t n ps)(h:p∈ps):(p.name.length<=16/\Sg p.name)/\p.aH.length<=n/\p.aP.length<=n/\∀s∈p.aP,s.words.length<=n/\s.fills.length<=n:=by
 have h1:p.size<=n:=jt (nW (bI.mpr ⟨p,h,rfl⟩)) d.size;have h2:p.name∈(List.range ps.length).map λi:Nat=>nameOf t i:=by rw[<-d.names];exact bI.mpr ⟨p,h,rfl⟩
 obtain⟨i,_,e⟩:=bI.mp h2;unfold ao.size at h1;refine⟨by rw[<-e];exact Du t i (Int.natCast_nonneg i),by omega,by omega,λs hs=>?_⟩;have h3:=nW (bI.mpr ⟨s,hs,rfl⟩:s.words.length∈p.aP.map λs=>s.words.length);have h4:=((d.ok p h).aP s hs).d7;exact⟨by omega,by omega⟩
theorem mY:∀{ss:List aK},(∀s∈ss,s.fills.length<=s.words.length)->(aV ss).length<=(ss.map λs=>s.words.length).sum
 |[],_=>bw _
 |s::ss,h=>by
  have h1:=mY (ss:=ss) λr hr=>h r (.tail _ hr);have h2:=h s (.head _);unfold aV at h1 ⊢;rw[List.flatMap_cons,eY,lF,List.sum_cons];omega
theorem Drawn.CZ(d:Drawn c t n ps)(hn:n<=61)(h:p∈ps):Ae p:=by
 have h1:p.size<=n:=jt (nW (bI.mpr ⟨p,h,rfl⟩)) d.size;obtain⟨_,h2,h3,h4⟩:=d.pc h;have h5:=mY λs hs=>((d.ok p h).aP s hs).d7;unfold ao.size at h1;exact⟨by omega,by omega,λs hs=>⟨jt (h4 s hs).1 hn,jt (h4 s hs).2 hn⟩,by omega,(d.ok p h).nd⟩
theorem Ur(h:HF c t p):Ae p:=by
 obtain⟨s,hs,hw,hf⟩:=h.aP;have hl:p.aH.length=12:=by have:=congrArg List.length h.aH;rwa [aI,aI,Um]at this
 refine⟨by omega,by rw[hs];simp,λs' hs'=>?_,?_,?_⟩
 ·rw[hs]at hs';rw[cD.mp hs',hw,hf];exact⟨by decide,by decide⟩
 ·unfold aV;rw[hs];simp[hf]
 ·rw[h.aH];have:=xN (t:=c) 12 (bw _);exact(lD.mp this).1
theorem m8(h:HF c t p){z:Str}(hz:qx c z):fE z (aL p)=true:=by
 refine yk.mp ?_;obtain⟨k,k0,k1,rfl⟩:=hz;have m:nameOf c k∈p.aH.map aj.name:=by
  rw[h.aH];exact bI.mpr ⟨k.toNat,MD.mpr (by omega),by rw[Sj k0]⟩
 obtain⟨n,hn,e⟩:=bI.mp m;unfold gY;refine bI.mpr ⟨n,N1.mpr ⟨hn,?_⟩,e⟩;rw[h.weak n hn];decide +kernel
theorem DJ(h:HF c t p){z:Str}:cO z (aL p)=false:=by
 obtain⟨s,hs,_,hf⟩:=h.aP;cases q:cO z (aL p) with
 |false=>rfl
 |true=>
  obtain⟨f,hf',_⟩:=i7.mpr q;unfold aV at hf';rw[hs]at hf';simp[hf]at hf'
theorem Lg{G S:List ao}{r:ao}{z:Str}(h:r∈G++S)(ht:fE z (aL r)=true):Mr (G.map aL) (S.map aL) z:=by
 have f:∀l:List ao,r∈l->(eB (l.map aL) z).isSome=true:=λl hl=>by
  rw[iQ,Ro];unfold c_;rw[List.find?_isSome];exact⟨r,hl,ht⟩
 exact(cy.mp h).imp (f G) (f S)
theorem yd(d:Drawn c t n ps)(h:p∈ps){z:Str}(hz:cO z (aL p)=true):qx c z:=by
 obtain⟨f,hf,w,e⟩:=i7.mpr hz;obtain⟨s,hs,hf⟩:=g7.mp hf;rw[<-e];rcases (((d.ok p h).aP s hs).fills f hf).name with y|y
 ·rw[y]at w;cases w
 ·exact y
theorem S8(T:Txt K mg A):aY P w K mg base cF 1 A.Uj A.wJ ["_law_pieces"] y8:=by
 refine T.BK.ok eI ?_ ?_;walk_at "k"
 obtain⟨L,ps,rfl,hP,hN,k⟩:=h;refine⟨_,(aJ (pS 1 eI.nd cg) (aJ (pS 2 eI.nd cg) (aJ (pF (cJ (K:=K) rfl (pv 0)) (bV (K:=K) (n:=3) rfl rfl (dC (pn 3 eI.nd) (dC (pn 4 eI.nd) (dC (pn 5 eI.nd) bY)))) (aX (pF (cJ (K:=K) rfl (pv 5)) (bV (K:=K) (n:=4) rfl rfl (dC (pn 6 eI.nd) (dC (pn 7 eI.nd) (dC (pn 8 eI.nd) (dC (pn 9 eI.nd) bY))))) (aJ (aO (eZ bW (pv 7) aF (aB _)) (aX (cT (bC hr) (pv 1) (pv 6) (aQ (ah (pv 3) (ah (pv 8) (ah (pv 9) aa)))) rfl)) eL) (aX (aO (PW.pt (iW (eZ bW (pv 7) aF (aB _)) (iE (PW.pt (fV (gc (e_ (bC hr) (pv 6) (pv 2))) (eV (eZ Dm (pv 3) (tx K (fB (bC hr) (pv 2) (pv 6) (λ_ _=>rfl))) (aB _)))))))) (aX (cT (bC hr) (pv 2) (pv 6) (aQ (ah (pv 3) (ah (pv 8) (ah (pv 9) aa)))) rfl)) eL)))))) (aJ (pF (wx (pv 2)) (pn 6 eI.nd) (aX (aO (gc (e_ (bC hr) (pv 6) (pv 1))) (aX (cT (bC hr) (pv 1) (pv 6) (fB (bC hr) (pv 2) (pv 6) (λ_ _=>rfl)) rfl)) eL))) (aX (ay (pv 1))))))),?_⟩;walk_at "rd";intro d hd e he;obtain⟨ned,he'⟩:=bJ he;have s0:az H (upd (upd H d (.dK [])) e (.dK [])):=(a_ hd).trans (a_ he);have d7:=hN.d7
 refine eM.of (xs:=ps.map ao.v) (λi σ H'=>∃(du wk:List aq) (b3 b4 b5 b6 b7 b8 b9:Option V),σ=[some (.ref L),some (.ref d),some (.ref e),b3,b4,b5,b6,b7,b8,b9]/\az H H'/\Tab H' d du/\Tab H' e wk/\du.length<=61*i/\wk.length<=61*i/\nc (bo (ps.take i)) du wk)
  ⟨[],[],_,_,_,_,_,_,_,rfl,s0,⟨by rw[ae (Ne.symm ned),aD];rfl,λm hm=>by cases hm⟩,⟨aD,λm hm=>by cases hm⟩,by simp,by simp,⟨by simp,by simp,(λz m hm=>by cases hm),(λz _ r hr=>by simp[bo]at hr),(λz m hm=>by cases hm),(λz _ r hr=>by simp[bo]at hr)⟩⟩ ?_ ?_ ?_
 ·rintro i σ H' hi ⟨du,wk,b3,b4,b5,b6,b7,b8,b9,rfl,s1,_⟩;exact aA.of (s1 _ _ hP.top)
 ·rintro i v σ H' hv ⟨du,wk,b3,b4,b5,b6,b7,b8,b9,rfl,s1,td,te,ld,lw,I⟩;walk_at "4";walk_at "5";have hm:=e7 hp;have il:=(hV.mp hp).1;have pa:=(hP.at_ p hm).mono s1;have pn:=(hN.aH p hm).1;have tk:bo (ps.take (i+1))=bo (ps.take i)++p.aH.map λn=>(p.name,n):=by
   unfold bo;rw[jH,hp,LB];simp
  walk_at "rd";refine⟨_,aS.of pa.top,rfl,_,_,rfl,_,_,rfl,_,_,rfl,rfl,?_⟩;refine eM.of (xs:=p.aH.map aj.v) (λj σ H2=>∃(du wk:List aq) (b6 b7 b8 b9:Option V),σ=[some (.ref L),some (.ref d),some (.ref e),some (.str p.name),some (.ref p.ls),some (.ref p.ln),b6,b7,b8,b9]/\az H H2/\Tab H2 d du/\Tab H2 e wk/\du.length<=61*i+j/\wk.length<=61*i+j/\nc (bo (ps.take i)++(p.aH.take j).map λn=>(p.name,n)) du wk)
   ⟨du,wk,_,_,_,_,rfl,s1,td,te,ld,lw,by simpa using I⟩ ?_ ?_ ?_
  ·rintro j σ H2 hj ⟨du,wk,b6,b7,b8,b9,rfl,s2,_⟩;exact aA.of (s2 _ _ (hP.at_ p hm).nl)
  ·rintro j v σ H2 hv ⟨du,wk,b6,b7,b8,b9,rfl,s2,td,te,ld,lw,I⟩;walk_at "4";obtain⟨n,hn,rfl⟩:=fW.mp hv;have jl:=(hV.mp hn).1;have na:=s2 _ _ ((hP.at_ p hm).ns n (e7 hn));have tj:bo (ps.take i)++((p.aH.take (j+1)).map λn=>(p.name,n))=(bo (ps.take i)++(p.aH.take j).map λn=>(p.name,n))++[(p.name,n)]:=by rw[jH,hn,bP,N5];rfl
   rw[tj];have nde:d≠e:=Ne.symm ned;walk_at "rd";refine⟨_,aS.of na,rfl,_,_,rfl,_,_,rfl,_,_,rfl,_,_,rfl,rfl,rfl,?_⟩;have weakP:∀Hx:Hp,az H Hx->Tab Hx d du->Tab Hx e wk->n.sort=cq->∃x,bT Hx e (V.str n.name) x/\if (!x.isSome)=true then 3<=sizeLine/\∀(p_1:Addr),Hx p_1=none->∃x,dG (upd Hx p_1 (HO.tup [V.str p.name,V.int n.st,V.int n.off])) e (V.str n.name) (V.ref p_1) x/\az H x/\∃x_1,Tab x d x_1/\∃x_2,Tab x e x_2/\x_1.length<=61*i+(j+1)/\x_2.length<=61*i+(j+1)/\nc (bo (List.take i ps)++List.map (λn=>(p.name,n)) (List.take j p.aH)++[(p.name,n)]) x_1 x_2 else ∃x,bT Hx e (V.str n.name) (some x)/\∃p_1,x=V.ref p_1/\∃x,aS K Hx p_1 x/\∃x_1,h_ x 0=some x_1/\∃x,x_1=V.str x/\if decide (p.name.cps.toList<x.cps.toList)=true then 3<=sizeLine/\∀(p_2:Addr),Hx p_2=none->∃x,dG (upd Hx p_2 (HO.tup [V.str p.name,V.int n.st,V.int n.off])) e (V.str n.name) (V.ref p_2) x/\az H x/\∃x_2,Tab x d x_2/\∃x_3,Tab x e x_3/\x_2.length<=61*i+(j+1)/\x_3.length<=61*i+(j+1)/\nc (bo (List.take i ps)++List.map (λn=>(p.name,n)) (List.take j p.aH)++[(p.name,n)]) x_2 x_3 else az H Hx/\∃x,Tab Hx d x/\∃x_2,Tab Hx e x_2/\x.length<=61*i+(j+1)/\x_2.length<=61*i+(j+1)/\nc (bo (List.take i ps)++List.map (λn=>(p.name,n)) (List.take j p.aH)++[(p.name,n)]) x x_2:=by
    intro Hx sx td te hs;have wl:=gC (ms:=wk) (m:=kU 0 (p.name,n));have put:∀t,Hx t=none->(∀m,ar wk n.name=some m->p.name.cps.toList<m.a.cps.toList)->∃x,dG (upd Hx t (HO.tup [V.str p.name,V.int n.st,V.int n.off])) e (V.str n.name) (V.ref t) x/\az H x/\∃x_1,Tab x d x_1/\∃x_2,Tab x e x_2/\x_1.length<=61*i+(j+1)/\x_2.length<=61*i+(j+1)/\nc (bo (List.take i ps)++List.map (λn=>(p.name,n)) (List.take j p.aH)++[(p.name,n)]) x_1 x_2:=λt ht hw=>by
     obtain⟨H',q1,q2,q3,q4⟩:=CH (r:=(p.name,n)) sx he' ned te td ht (by omega);exact⟨H',q1,q2,du,q4,_,q3,by omega,by have:=gC (ms:=wk) (m:=kU t (p.name,n));omega,I.UU hs hw⟩
    cases hl:ar wk n.name with
    |none=>
     refine⟨none,.inl ⟨_,.inr n.name,.inl te.top,rfl,by rw[kN,hl];rfl⟩,?_⟩;rw[if_pos (by simp)];exact⟨by rw[sizeLine_eq];decide,λt ht=>put t ht λm hm=>by rw[hl]at hm;cases hm⟩
    |some m0=>
     have vm:bj (wk.map aq.kv) (.inr n.name)=some (.ref m0.t):=by rw[kN,hl];rfl
     refine⟨some (.ref m0.t),.inl ⟨_,.inr n.name,.inl te.top,rfl,vm.symm⟩,?_⟩;rw[if_neg (by simp)];refine⟨_,.inl ⟨_,.inr n.name,.inl te.top,rfl,vm.symm⟩,_,rfl,_,aS.of (te.at_ m0 (BZ hl)),_,rfl,_,rfl,cX (λlt=>⟨by rw[sizeLine_eq];decide,λt ht=>put t ht λm hm=>?_⟩) (λlt=>⟨sx,du,td,wk,te,by omega,by omega,I.UQ hs hl (λy=>lt (decide_eq_true y))⟩)⟩;rw[hl]at hm;cases hm;exact of_decide_eq_true lt
   by_cases st:n.sort=bZ
   ·rw[decide_eq_true (show V.str n.sort=V.str s!"tell" from congrArg V.str st),if_pos rfl];refine⟨by rw[sizeLine_eq];decide,λt ht=>?_⟩;obtain⟨H3,q1,q2,q3,q4⟩:=CH (r:=(p.name,n)) s2 hd nde td te ht (by omega);refine⟨H3,q1,rfl,?_⟩;rw[decide_eq_false (show ¬V.str n.sort=V.str s!"weak" from λq=>ff (st.symm.trans (V.str.inj q))),if_neg (by decide)];exact⟨q2,_,q3,wk,q4,by have:=gC (ms:=du) (m:=kU t (p.name,n));omega,by omega,I.tell st⟩
   ·rw[decide_eq_false (show ¬V.str n.sort=V.str s!"tell" from λq=>st (V.str.inj q)),if_neg (by decide)];refine⟨rfl,?_⟩;by_cases sw:n.sort=cq
    ·rw[decide_eq_true (show V.str n.sort=V.str s!"weak" from congrArg V.str sw),if_pos rfl];exact weakP H2 s2 td te sw
    ·rw[decide_eq_false (show ¬V.str n.sort=V.str s!"weak" from λq=>sw (V.str.inj q)),if_neg (by decide)];exact⟨s2,du,td,wk,te,by omega,by omega,I.other st sw⟩
  ·rintro σ H2 ⟨du,wk,b6,b7,b8,b9,rfl,s2,td,te,ld,lw,I⟩;rw[aI,iR]at I;rw[aI]at ld lw;exact⟨du,wk,_,_,_,_,_,_,_,rfl,s2,td,te,by omega,by omega,by rw[tk];exact I⟩
 ·rintro σ H' ⟨du,wk,b3,b4,b5,b6,b7,b8,b9,rfl,s1,td,te,ld,lw,I⟩;rw[aI,iR]at I;rw[aI]at ld lw;walk_at "rd";refine HE.of te.top (λo j σ H2=>∃(du':List aq) (b6:Option V),σ=[some (.ref L),some (.ref d),some (.ref e),b3,b4,b5,b6,b7,b8,b9]/\az H H2/\H2 e=some (.fY o (.dK (wk.map aq.kv)))/\(∀m∈wk,aq.At H2 m)/\Tab H2 d du'/\du'.length<=61*14+j/\(du'.map aq.name).Nodup/\∀z,ar du' z=(ar du z).or (ar (wk.take j) z)) ?_ ?_ ?_ ?_
  ·intro o;have nf:∀x u,x≠e->H' x=some u->upd H' e (.fY o (.dK (wk.map aq.kv))) x=some u:=λx u ne q=>by rw[ae ne];exact q
   refine⟨du,_,rfl,λx u q=>nf x u (bD q he') (s1 _ _ q),aD,λm hm=>nf _ _ (ba (te.at_ m hm) te.top (by intro z;cases z)) (te.at_ m hm),⟨nf _ _ (Ne.symm ned) td.top,λm hm=>nf _ _ (ba (td.at_ m hm) te.top (by intro z;cases z)) (td.at_ m hm)⟩,by omega,I.nd,λz=>by simp[ar]⟩
  ·rintro o j σ H2 hj ⟨du',b6,rfl,s2,hz,_⟩;exact hz
  ·rintro o j pr σ H2 hv ⟨du',b6,rfl,s2,hz,aw,td',ld',nd',look⟩;walk_at "4";obtain⟨m,hj,rfl⟩:=fW.mp hv;have jl:=(hV.mp hj).1;have mm:=e7 hj;walk_at "rd";have tk:∀z,ar (wk.take (j+1)) z=(ar (wk.take j) z).or (if m.name=z then some m else none):=λz=>by
    unfold ar;rw[jH,hj,Sx];congr 1;show [m].find? _=_;rw[FI];by_cases q:m.name=z
    ·rw[if_pos q,decide_eq_true q]
    ·rw[if_neg q,decide_eq_false q];rfl
   have ntk:ar (wk.take j) m.name=none:=by
    cases q:ar (wk.take j) m.name with
    |none=>rfl
    |some m'=>
     have nd':((wk.take (j+1)).map aq.name).Nodup:=List.Nodup.sublist (List.Sublist.map _ (TK _ _)) I.nw;rw[jH,hj,bP]at nd';exact absurd (of_decide_eq_true (List.find?_some (p:=λn:aq=>decide (n.name=m.name)) q)) ((lD.mp nd').2.2 _ (bI.mpr ⟨m',BZ q,rfl⟩) _ (by simp))
   cases hl:ar du' m.name with
   |none=>
    refine⟨none,.inl ⟨_,.inr m.name,.inl td'.top,rfl,by rw[kN,hl];rfl⟩,?_⟩;rw[if_pos (by simp)];have vm:bj (wk.map aq.kv) (.inr m.name)=some (.ref m.t):=by rw[kN,DP I.nw mm];rfl
    have nde:d≠e:=Ne.symm ned;have nf:∀x u,x≠d->H2 x=some u->upd H2 d (.dK (putK (du'.map aq.kv) (.inr m.name) (.ref m.t))) x=some u:=λx u ne q=>by rw[ae ne];exact q
    refine⟨_,.inl ⟨_,.inr m.name,.inr ⟨o,hz⟩,rfl,vm.symm⟩,_,dG.k (k:=.inr m.name) td'.top (by rw[aI,sizeLine_eq];omega),f7 hd s2,nf _ _ ned hz,λx hx=>nf _ _ (ba (aw x hx) td'.top (by intro z;cases z)) (aw x hx),dI du' m,td'.put (aw m mm),by have:=gC (ms:=du') (m:=m);omega,v8 nd',λz=>?_⟩;rw[fe,tk z];by_cases q:m.name=z
    ·rw[if_pos q,if_pos q,<-q];rw[look m.name,Option.or_eq_none_iff]at hl;rw[hl.1,hl.2];rfl
    ·rw[if_neg q,if_neg q,look z,Option.or_none]
   |some m'=>
    refine⟨some (.ref m'.t),.inl ⟨_,.inr m.name,.inl td'.top,rfl,by rw[kN,hl];rfl⟩,?_⟩;rw[if_neg (by simp)];refine⟨s2,hz,aw,du',td',by omega,nd',λz=>?_⟩;rw[look z,tk z];by_cases q:m.name=z
    ·rw[if_pos q,<-q];rw[look m.name,ntk,Option.or_none]at hl;rw[hl,ntk];rfl
    ·rw[if_neg q,Option.or_none]
  ·rintro o σ H2 ⟨du',b6,rfl,s2,hz,aw,td',ld',nd',look⟩;walk_at "rd";refine k d du' H2 s2 td' (I.done nd' λz=>?_) hd;rw[look z,aI,iR]
theorem Th(T:Txt K mg A):aY P w K mg base cF 2 A.Tg A.se ["_law_names_by", "_law_titles_by"] Dp:=by
 refine T.Cb.ok Jo ?_ ?_;walk_at "k"
 obtain⟨c,t,rfl,k⟩:=h;refine⟨_,(aJ (eP (i:=2) Jo.nd rfl (by walk_at "o") (kY (own:=["_law_k"]) (fr:=["_law_names_by"]) (fm:=[0]) rfl (by decide +kernel) (by decide +kernel) (by decide +kernel) (.cons rfl (by walk_at "o") rfl .nil)) rfl (d6 rfl T.dM (ah af aa)) (λ_ _ _=>⟨(pn 0 (by walk_at "n")),cj,(aQ (ah (pC (lA T) hr T.jx T.ix T.iI (ah (pv 1) (ah (pv 0) aa))) (ah aF (ah af (ah (ax e8 (pv 0) af) aa)))))⟩)) (aX (ay (aQ (ah (pC (lA T) hr T.jx T.ix T.iI (ah (pv 1) (ah af aa))) (ah (bx (ah (aQ (ah aF (ah af (ah (bx (ah af aa)) (ah (bx aa) aa))))) aa)) (ah (pv 2) aa))))))),?_⟩;walk_at "rd";refine yn.of (by decide) (by decide) (λD i ys H'=>∃ns:List aj,ys=ns.map aj.v/\az H H'/\H' D=some (.lst ys)/\(∀n∈ns,n.At H')/\ns.map aj.name=(List.range i).map (λk:Nat=>nameOf c k)/\∀n∈ns,n.sort=s!"weak" /\ 0<=n.off/\n.off<=1)
  (λD hD=>⟨[],rfl,a_ hD,aD,(λn hn=>by cases hn),rfl,(λn hn=>by cases hn)⟩) (λD i ys H' hD hi ⟨ns,e,s1,h1,ha,hn,hw⟩=>⟨h1,by have:=congrArg List.length hn;rw[aI,aI,Um]at this;rw[e,aI,this];exact bw _⟩) ?_ ?_
 ·rintro D i ys H' hD hi ⟨ns,rfl,s1,h1,ha,hn,hw⟩;have hi:i<12:=by omega
  walk_at "rd";refine⟨.no (.yes .nil),⟨by decide,by decide⟩,by walk_at "s", λq hq=>?_⟩;have s2:=a_ (o:=HO.tup [V.str (nameOf c i),V.str s!"weak",V.int 0,V.int ((i:Int)/6)]) hq;have eq:upd H' q (HO.tup [V.str (nameOf c i),V.str s!"weak",V.int 0,V.int ((i:Int)/6)]) q=some (HO.tup [V.str (nameOf c i),V.str s!"weak",V.int 0,V.int ((i:Int)/6)]):=aD;generalize upd H' q (HO.tup [V.str (nameOf c i),V.str s!"weak",V.int 0,V.int ((i:Int)/6)])=H2 at *;have bt:fb H2 (upd H2 D (HO.lst (ns.map aj.v++[V.ref q]))) D:=fb.upd (s2 _ _ h1);refine⟨s2 _ _ h1,ns++[⟨q,nameOf c i,s!"weak", 0,(i:Int)/6⟩],by rw[bP];rfl,f7 hD (s1.trans s2),aD,λn hn'=>?_,?_,λn hn'=>?_⟩
  ·rcases cy.mp hn' with z|z
   ·exact aj.At.but (aj.At.mono (ha n z) s2) bt
   ·rw[cD.mp z];exact bt.tup eq
  ·rw[bP,hn,List.range_succ,bP];rfl
  ·rcases cy.mp hn' with z|z
   ·exact hw n z
   ·rw[cD.mp z];refine⟨rfl,?_,?_⟩
    ·show(0:Int)<=(i:Int)/6;omega
    ·show(i:Int)/6<=1;omega
 ·rintro D ys H' hD ⟨ns,rfl,s1,h1,ha,hn,hw⟩;refine⟨by rw[sizeLine_eq];decide,λlw g1=>⟨gH _,λlf g2=>⟨by rw[sizeLine_eq];decide,λst g3=>⟨by rw[sizeLine_eq];decide,λls g4=>⟨by rw[sizeLine_eq];decide,λtp g5=>?_⟩⟩⟩⟩⟩;have t1:=a_ (o:=HO.lst [V.int 5]) g1;have t2:=a_ (o:=HO.lst []) g2;have t3:=a_ (o:=HO.tup [V.str s!"data",V.int 1,V.ref lw,V.ref lf]) g3;have t4:=a_ (o:=HO.lst [V.ref st]) g4;have t5:=a_ (o:=HO.tup [V.str (nameOf t 14),V.ref ls,V.ref D]) g5;have tA:=((((t1.trans t2).trans t3).trans t4).trans t5)
  have u1:=s1.free g1;have u2:=(s1.trans t1).free g2;have u4:=((s1.trans t1).trans (t2.trans t3)).free g4;refine k ⟨tp,ls,D,nameOf t 14,[⟨st,lw,lf,s!"data", 1,[5],[]⟩],ns⟩ _ (s1.trans tA) ⟨aD,t5 _ _ aD,tA _ _ h1,λq hq=>?_,λn hn'=>aj.At.mono (ha n hn') tA⟩ ⟨rfl,hn,λn hm=>(hw n hm).1,⟨_,rfl,rfl,rfl⟩,λn hm=>(hw n hm).2⟩ (λb hb=>?_) ?_
  ·rw[cD.mp hq];exact⟨t5 _ _ (t4 _ _ aD),t5 _ _ (t4 _ _ (t3 _ _ (t2 _ _ aD))),t5 _ _ (t4 _ _ (t3 _ _ aD)),(λf hf=>by cases hf)⟩
  ·simp[ao.lists,aK.lists]at hb;rcases hb with e|e|e|e<;>rw[e]<;>assumption
  ·have n1:D≠lw:=bD h1 g1;have n2:D≠lf:=bD (t1 _ _ h1) g2;have n4:D≠ls:=bD ((t1.trans (t2.trans t3)) _ _ h1) g4;have n5:lw≠lf:=bD aD g2;have n6:lw≠ls:=bD ((t2.trans t3) _ _ aD) g4;have n7:lf≠ls:=bD (t3 _ _ aD) g4;simp[ao.lists,aK.lists,n1,n2,n4.symm,n5,n6.symm,n7.symm]
theorem Ja(h:fU fs o=some f):f∈fs/\f.at_=o:=by
 have:∀(fs:List ai) (c:Option ai),fs.foldl (λc f=>if f.at_=o then some f else c) c=some f->(f∈fs/\f.at_=o)\/c=some f:=λfs=>by
  induction fs with
  |nil=>exact λc h=>.inr h
  |cons g r ih=>
   intro c h;rcases ih _ h with ⟨z,y⟩|z
   ·exact .inl ⟨h8 _ z,y⟩
   ·have z:(if g.at_=o then some g else c)=some f:=z;by_cases e:g.at_=o
    ·rw[if_pos e]at z;cases z;exact .inl ⟨lO,e⟩
    ·rw[if_neg e]at z;exact .inr z
 rcases this fs none h with z|z
 ·exact z
 ·cases z
theorem Oj(T:Txt K mg A):aY P w K mg base cF 6 A.Sl A.uZ ["_law_machine", "_law_pieces", "_law_some"] (z6 A):=by
 refine T.Bo.ok dD ?_ ?_;walk_at "k"
 obtain⟨M,L,dS,mem,pl,rs,ps,mn,rfl,nf,mp,hP,tn,d7,pf,k⟩:=h;refine⟨_,(aJ (pF (cJ (K:=K) rfl (pv 1)) (pn 3 dD.nd) (aX (pF (d6 rfl T.dM (ah (cG (gj (K:=K) rfl) (by rfl) T.cL b0 (ah (tx K (pv 3)) aa)) aa)) (pn 4 dD.nd) (aJ (kq (cw (fj (K:=K) rfl) (tx K (pv 3)) (pv 4) (λ_ _=>rfl)) (bV (K:=K) (n:=4) rfl rfl (dC (pn 5 dD.nd) (dC (pn 6 dD.nd) (dC (pn 7 dD.nd) (dC (pn 8 dD.nd) bY)))))) (fM (aJ (pS 9 dD.nd cg) (aJ (pF (cJ (K:=K) rfl (pv 8)) (pn 10 dD.nd) (aX (cT (bC hr) (pv 9) (tx K (pv 10)) (pv 10) rfl))) (fM (aX (pF (d6 rfl T.dM (ah (cG (gj (K:=K) rfl) (by rfl) T.cL b0 (ah (pv 7) aa)) aa)) (pn 11 dD.nd) (aJ (pS 12 dD.nd (cw (fj (K:=K) rfl) (pv 7) (pv 11) (λ_ _=>rfl))) (aJ (aO (gc (zW (bC hr) (pv 11) (pv 9))) (aX (pS 12 dD.nd (pC (Vw T) hr T.N_ T.JK T.FR (ah (pv 3) (ah (pv 2) (ah (cw (fj (K:=K) rfl) (pv 7) (pv 11) (λ_ _=>rfl)) (ah (fB (bC hr) (pv 9) (pv 11) (λ_ _=>rfl)) aa))))))) eL) (fM (aX (aO (de (bU (pC (Fd T) hr T.BY T.xC T.yt (ah (fC (pv 0) T.bO T.Fe (UA T) (hr.mono (by decide)) T.JW .nil dB (ah (tx K (pv 3)) (ah (pv 4) (ah (pv 11) aa)))) (ah (pv 12) aa))))) (aX (ay dy)) eL))))))))))))))) (aX (ay dy))),?_⟩;walk_at "rd"
 refine eM.of (xs:=ps.map ao.v) (λi σ H'=>∃c3 c4 c5 c6 c7 c8 c9 c10 c11 c12:Option V,σ=[some (.ref M.x),some (.ref L),some (.ref dS),c3,c4,c5,c6,c7,c8,c9,c10,c11,c12]/\az H H') ⟨_,_,_,_,_,_,_,_,_,_,rfl,λ_ _ e=>e⟩ (λi σ H' _ ⟨_,_,_,_,_,_,_,_,_,_,_,s1⟩=>aA.of (s1 _ _ hP.top)) ?_ ?_
 ·rintro i v σ H1 hv ⟨c3,c4,c5,c6,c7,c8,c9,c10,c11,c12,rfl,s1⟩;walk_at "4";walk_at "5";have hpm:=e7 hp;have pa:=(hP.at_ p hpm).mono s1;have pb:=pf p hpm;have pst:=pb.bn.st;walk_at "rd";refine⟨_,aS.of pa.top,_,rfl,p.aP.length,.inl ⟨_,aA.of pa.sl,by simp⟩,xx.of (by omega) (by omega) (λi σ H'=>∃c4 c5 c6 c7 c8 c9 c10 c11 c12:Option V,σ=[some (.ref M.x),some (.ref L),some (.ref dS),some p.v,c4,c5,c6,c7,c8,c9,c10,c11,c12]/\az H H') ⟨_,_,_,_,_,_,_,_,_,rfl,s1⟩ ?_ ?_⟩
  ·rintro j σ H2 hj ⟨c4,c5,c6,c7,c8,c9,c10,c11,c12,rfl,s2⟩;have hj:j<p.aP.length:=by omega
   have hsj:p.aP[j]?=some p.aP[j]:=lz hj;generalize p.aP[j]=st at hsj;have hsm:=e7 hsj;have pa2:=(hP.at_ p hpm).mono s2;have sa:=pa2.ss st hsm;walk_at "rd";refine⟨_,aS.of pa2.top,_,rfl,_,rfl,_,aA.of pa2.sl,st.v,(dJ (by rw[aI];exact hj)).trans (by rw[jA,hsj];rfl),?_⟩;refine⟨_,rfl,_,aS.of sa.top,rfl,_,_,rfl,_,_,rfl,_,_,rfl,_,_,rfl,rfl,bu ?_⟩;walk_at "rd";intro d hd;have hdH:H d=none:=cC s2 hd;have fl61:=(pb.bn.ss st hsm).2;have wl61:=(pb.bn.ss st hsm).1;refine eM.of (xs:=st.fills.map ai.v) (λu σ H'=>∃(c10 c11 c12:Option V) (kvs:List (Key×V)),σ=[some (.ref M.x),some (.ref L),some (.ref dS),some p.v,some (.int j),some (.str st.kind),some (.int st.step),some (.ref st.lw),some (.ref st.lf),some (.ref d),c10,c11,c12]/\az H H'/\H' d=some (.dK kvs)/\kvs.length<=u/\∀o:Int,bj kvs (.inl o)=(fU (st.fills.take u) o).map ai.v) ⟨_,_,_,[],rfl,s2.trans (a_ hd),aD,bw _,λo=>rfl⟩ (λu σ H' _ ⟨_,_,_,_,_,s3,_⟩=>aA.of (s3 _ _ ((hP.at_ p hpm).ss st hsm).fl)) ?_ ?_
   ·rintro u v σ H3 hv ⟨c10,c11,c12,kvs,rfl,s3,hd3,lk,vk⟩;walk_at "4";obtain⟨f,hf,rfl⟩:=fW.mp hv;have hu:=(hV.mp hf).1;have fa:=s3 _ _ (((hP.at_ p hpm).ss st hsm).fs f (e7 hf));walk_at "rd";refine⟨_,aS.of fa,_,rfl,_,dG.k (k:=.inl f.at_) hd3 (by rw[sizeLine_eq];omega),f7 hdH s3,_,aD,jt (xF kvs _ _) (by omega),λo=>?_⟩;rw[iB,Kf,hf];unfold fU;rw[Rq];show _=Option.map ai.v (if f.at_=o then some f else _);by_cases e:f.at_=o
    ·rw[if_pos (by rw[e]),if_pos e];rfl
    ·rw[if_neg (λz=>e (by injection z with z;exact z.symm)),if_neg e];exact vk o
   ·rintro σ H3 ⟨c10,c11,c12,kvs,rfl,s3,hd3,lk,vk⟩;rw[aI,iR]at vk;have sa3:=((hP.at_ p hpm).ss st hsm).mono s3;dsimp only;refine bu ?_;walk_at "rd";refine⟨st.words.length,.inl ⟨_,aA.of sa3.wd,by simp⟩,xx.of (by omega) (by omega) (λu σ H'=>∃(c11 c12:Option V),σ=[some (.ref M.x),some (.ref L),some (.ref dS),some p.v,some (.int j),some (.str st.kind),some (.int st.step),some (.ref st.lw),some (.ref st.lf),some (.ref d),c10,c11,c12]/\az H3 H') ⟨_,_,rfl,λ_ _ e=>e⟩ ?_ ?_⟩
    ·rintro o σ H4 ho ⟨c11,c12,rfl,s4⟩;have ho:o<st.words.length:=by omega
     have how:st.words[o]?=some st.words[o]:=lz ho;generalize st.words[o]=wd at how;have wr:=pb.UD st hsm wd (e7 how);have wl:aA K H4 st.lw (st.words.map V.int):=aA.of (s4 _ _ sa3.wd);have wa:h_ (st.words.map V.int) (o:Int)=some (.int wd):=(dJ (by rw[aI];exact ho)).trans (by rw[jA,how];rfl);walk_at "rd";generalize hB:hold (U6 _ _ _)=B;generalize hD:Ends.mk _ _ _ _=D;have fin:∀(u:V) (H5:Hp),az H4 H5->((∃y,fu p mn st o wd=.inl y/\Va.Is H5 y u)\/∃c,fu p mn st o wd=.inr c/\u=.bh)->B D [some (.ref M.x),some (.ref L),some (.ref dS),some p.v,some (.int j),some (.str st.kind),some (.int st.step),some (.ref st.lw),some (.ref st.lf),some (.ref d),c10,some (.int o),some u] H5:=by
      intro u H5 s5 hc;subst hB hD;refine bu ?_;walk_at "rd";have s35:=s3.trans (s4.trans s5);have nf5:=nf.mono s35;refine⟨_,_,nf5.top,rfl,_,aS.of ((hP.at_ p hpm).mono s35).top,_,rfl,M,rfl,mem,pl,rs,p.name,rfl,nf5,_,mp p hpm j st o wd hsj how,λy e v' H' s6 hv=>⟨.inl ⟨y,hv,?_⟩,(s4.trans s5).trans s6⟩,λc e H' s6=>⟨.inr ?_,(s4.trans s5).trans s6⟩⟩
      ·rcases hc with ⟨y',e',hv'⟩|⟨c,e',_⟩
       ·rw[e]at e';cases e';exact hv'.mono s6
       ·rw[e]at e';cases e'
      ·rcases hc with ⟨y',e',hv'⟩|⟨c,e',z⟩
       ·rw[e]at e';cases e'
       ·exact z
     refine⟨_,wl,_,wa,?_⟩;have dg:=bT.k (k:=.inl (o:Int)) (s4 _ _ hd3);rw[vk]at dg;cases hlf:fU st.fills o with
     |none=>
      rw[hlf]at dg;refine⟨_,dg,?_⟩;rw[if_neg (by decide)];exact fin _ _ (λ_ _ e=>e) (.inl ⟨.inl wd,by unfold fu;rw[hlf],rfl⟩)
     |some f=>
      rw[hlf]at dg;obtain⟨hfm,hfa⟩:=Ja hlf;have fo:=pb.Ra st hsm f hfm;have hwg:st.words.getD f.at_.toNat 0=wd:=by
       rw[hfa,Ei,Sq,how];rfl
      have ec:fu p mn st o wd=cM p mn st.words f:=by unfold fu;rw[hlf]
      refine⟨_,dg,?_⟩;rw[if_pos (by rfl)];refine⟨_,wl,_,wa,_,dg,p,rfl,mn,st.words,f,by rw[hwg],rfl,(hP.at_ p hpm).mono (s3.trans s4),pb.bn.nm,pb.bn.nd,(s3.trans s4) _ _ (((hP.at_ p hpm).ss st hsm).fs f hfm),tn.mono (s3.trans s4),by rw[hwg];exact wr.1,λz=>(fo.2.2 z).2,?_,?_⟩
      ·exact λy e v' H5 s5 hv=>fin _ _ s5 (.inl ⟨y,ec.trans e,hv⟩)
      ·exact λc e H5 s5=>fin _ _ s5 (.inr ⟨c,ec.trans e,rfl⟩)
    ·rintro σ H4 ⟨c11,c12,rfl,s4⟩;exact⟨_,_,_,_,_,_,_,_,_,rfl,s3.trans s4⟩
  ·rintro σ H2 ⟨c4,c5,c6,c7,c8,c9,c10,c11,c12,rfl,s2⟩;exact⟨_,_,_,_,_,_,_,_,_,_,rfl,s2⟩
 ·rintro σ H1 ⟨c3,c4,c5,c6,c7,c8,c9,c10,c11,c12,rfl,s1⟩;walk_at "rd";exact k H1 s1
theorem Qh(ns:List Int)(h:ns.length<=63):∃ms:List Int,jg (ns.map V.int) (some 4) (some 203)=ms.map V.int/\ms.length<=61:=by
 refine⟨(ns.drop (HT.sIx (ns.map V.int).length 0 (some 4))).take (HT.sIx (ns.map V.int).length (ns.map V.int).length (some 203) - HT.sIx (ns.map V.int).length 0 (some 4)),?_,?_⟩
 ·unfold jg;rw[List.map_take,List.map_drop]
 ·have e:HT.sIx (ns.map V.int).length 0 (some 4)=min 4 ns.length:=by
   rw[show(some (4:Int))=some ((4:Nat):Int) from rfl,HT.sIx_nat,aI]
  rw[p_,TF,e];omega
theorem DV.e(h:p.DV q):aL q=aL p:=by
 have e:∀l:List aK,l.map aK.e=(l.map aK.core).map λc=>(c.1,c.2.1,c.2.2.1,c.2.2.2.map ai.e):=λl=>by rw[fX];rfl
 unfold aL;rw[h.name,h.aH,e,h.aP,<-e]
theorem Fz(h:MG G S e)(e1:G'.map aL=G.map aL)(e2:S'.map aL=S.map aL):MG G' S' e:=by
 have e3:(G'++S').map aL=(G++S).map aL:=by rw[bP,bP,e1,e2]
 have back:∀q∈G'++S',∃p∈G++S,aL p=aL q:=λq hq=>by
  have m:aL q∈(G'++S').map aL:=bI.mpr ⟨q,hq,rfl⟩;rw[e3]at m;exact bI.mp m
 refine⟨?_,λq hq=>?_,?_,by rw[e1,e2];exact h.ent,λq hq z hz=>?_⟩
 ·have:=congrArg List.length e3;walk_at "3";rw[this];exact h.d7
 ·obtain⟨p,hp,ep⟩:=back q hq;exact xS (h.CZ p hp) ep.symm
 ·have n:∀l:List ao,l.map ao.name=(l.map aL).map (·.1):=λl=>by rw[fX];rfl
  rw[n,e3,<-n];exact h.nd
 ·obtain⟨p,hp,ep⟩:=back q hq;rw[e1,e2];exact h.met p hp z (by rw[ep];exact hz)
theorem K8(h:PL H L ps):Rep K H (.lst (ps.map ao.d)) (.ref L):=by
 simp only[Rep];exact⟨_,_,rfl,aA.of h.top,RepL.map λp hp=>(h.at_ p hp).rep⟩
theorem Pn(ps:List ao):depL (ps.map ao.d)<=20:=jt (dY (n:=5) λx _=>Jz x) (by decide)
theorem Me(hP:PL H L ps)(d7:ps.length<=100)(bd:∀p∈ps,Ae p)(k:∀(D:Addr) (qs:List ao) (H':Hp),az H H'->d0 H' D qs->(∀b∈D::aE qs,H b=none)->qs.map aL=ps.map aL->qs.map ao.d=ps.map ao.d->Q (.ref D) H'):
  dH K (mr 0) UI (JG (BR K) [] E0 (N4 (Hr 0) O8)) [none] Q (V.ref L) H:=by
 refine dH.of (xs:=ps.map ao.v) (by rw[aI,sizeLine_eq];omega) (aA.of hP.top) (λD i ys H'=>∃qs:List ao,ys=qs.map ao.v/\az H H'/\d0 H' D qs/\(∀b∈D::aE qs,H b=none)/\qs.map aL=(ps.take i).map aL/\qs.map ao.d=(ps.take i).map ao.d)
  (λD hD=>⟨[],rfl,a_ hD,d0.nil aD,by simpa [aE] using hD,rfl,rfl⟩) ?_ ?_ ?_
 ·rintro D i ys H' hD hi ⟨qs,rfl,s1,pc,fr,e1,e2⟩;refine⟨aA.of (s1 _ _ hP.top),pc.top,?_⟩;have:=congrArg List.length e1;walk_at "7";rw[aI];omega
 ·rintro D i x ys H' hD hx ⟨qs,rfl,s1,pc,fr,e1,e2⟩;walk_at "0";obtain⟨p,hp,rfl⟩:=fW.mp hx;have hpm:=e7 hp;have b:=bd p hpm;walk_at "rd";refine⟨.no .nil,p,rfl,(hP.at_ p hpm).mono s1,b.st,jt b.nm (by decide),b.ss,λq H2 s2 qa cp fq nq=>⟨s2 _ _ pc.top,qs++[q],by rw[bP];rfl,f7 hD (s1.trans s2),?_,λb hb=>?_,?_,?_⟩⟩
  ·have bt:fb H2 (upd H2 D (HO.lst (qs.map ao.v++[q.v]))) D:=fb.upd (s2 _ _ pc.top);have nd:=jB.mp pc.nd;have nq2:∀b∈q.lists,b≠D/\b∉aE qs:=λb hb=>by
    have h1:=fq b hb;refine⟨λe=>(by rw[e,pc.top]at h1;cases h1),λz=>?_⟩;obtain⟨r,hr,y⟩:=g7.mp z;obtain⟨xs,e⟩:=(pc.at_ r hr).list y;rw[e]at h1;cases h1
   refine⟨by rw[aD,bP];rfl,λr hr=>?_,?_⟩
   ·rcases cy.mp hr with z|z
    ·exact((pc.at_ r z).mono s2).but bt λy=>nd.1 (g7.mpr ⟨r,z,y⟩)
    ·rw[cD.mp z];exact qa.but bt λy=>(nq2 D y).1 rfl
   ·rw[fZ];refine jB.mpr ⟨λz=>?_,lD.mpr ⟨nd.2,nq,λa ha b hb e=>(nq2 b hb).2 (e▸ha)⟩⟩;rcases cy.mp z with y|y
    ·exact nd.1 y
    ·exact(nq2 D y).1 rfl
  ·rw[fZ]at hb;rcases hZ.mp hb with z|z
   ·rw[z];exact hD
   ·rcases cy.mp z with y|y
    ·exact fr b (h8 _ y)
    ·exact cC s1 (fq b y)
  ·rw[bP,e1,Kf,hp,bP];show _++[aL q]=_++[aL p];rw[DV.e cp]
  ·rw[bP,e2,Kf,hp,bP];show _++[q.d]=_++[p.d];rw[cp.d]
 ·rintro D ys H' hD ⟨qs,rfl,s1,pc,fr,e1,e2⟩;rw[aI,iR]at e1 e2;exact k D qs H' s1 pc fr e1 e2
structure R_(qs:List ao)(c:Int):Prop where
 tk:∀e,qx c e->MG qs [] e
 ps:BU qs
 tl:∀z,qx c z->∃r∈bo qs,r.2.name=z/\(r.2.sort=bZ\/r.2.sort=cq)
 off:∀r∈bo qs,0<=r.2.off/\r.2.off<=61
 UD:∀p∈qs,∀s∈p.aP,∀w∈s.words,0<=w/\w<=4294967295
 Ra:∀p∈qs,∀s∈p.aP,∀f∈s.fills,0<=f.at_/\f.at_<s.words.length/\(f.soft=true/\Q_ f.rule\/qx c f.name)
theorem Zl(d:Drawn c t n ps)(hn:n<=61)(hr:HF c t r)(pm:qs.Perm (ps++[r])):R_ qs c:=by
 have inn:∀p∈qs,p∈ps\/p=r:=λp hp=>(cy.mp (pm.mem_iff.mp hp)).imp id cD.mp;have rin:r∈qs:=pm.mem_iff.mpr (by simp);have d7:=d.d7;have CZ:∀p∈qs,Ae p:=λp hp=>by
  rcases inn p hp with h|h
  ·exact d.CZ hn h
  ·rw[h];exact Ur hr
 have nd:(qs.map ao.name).Nodup:=by
  refine(pm.map ao.name).nodup_iff.mpr ?_;rw[bP,d.names];show(_++[r.name]).Nodup;rw[hr.name];exact xN _ d7
 have len:qs.length<=14:=by rw[pm.length_eq,eY,Pp];omega
 have nt:∀y∈r.aH,y.sort≠bZ:=λy hy e=>absurd ((hr.weak y hy).symm.trans e) (by decide +kernel);have s1:∀{l:List ao},l++([]:List ao)=l:=Ed _;obtain⟨s,hs,hw,hf⟩:=hr.aP;refine⟨λe he=>⟨by rw[s1];exact len,by rw[s1];exact CZ,by rw[s1];exact nd,Lg (by rw[s1];exact rin) (m8 hr he),λp hp z hz=>?_⟩,⟨len,nd,λp hp=>⟨(CZ p hp).nm,(CZ p hp).nd⟩,?_⟩,λz hz=>?_,λx hx=>?_,λp hp s' hs' w hw'=>?_,λp hp s' hs' f hf'=>?_⟩
 ·rw[s1]at hp;rcases inn p hp with h|h
  ·exact Lg (by rw[s1];exact rin) (m8 hr (yd d h hz))
  ·rw[h,DJ hr]at hz;cases hz
 ·refine(pm.pairwise_iff λ{x y} h a ha b hb s1 s2 e=>h b hb a ha s2 s1 e.symm).mpr (RW.mpr ⟨d.tw,List.pairwise_singleton _ _,λx hx y hy a ha b hb s1 s2=>?_⟩);rw[cD.mp hy]at hb;exact absurd s2 (nt b hb)
 ·obtain⟨k,k0,k1,rfl⟩:=hz;have m:nameOf c k∈r.aH.map aj.name:=by
   rw[hr.aH];exact bI.mpr ⟨k.toNat,MD.mpr (by omega),by rw[Sj k0]⟩
  obtain⟨n,hn,e⟩:=bI.mp m;exact⟨(r.name,n),bL.mpr ⟨r,rin,rfl,hn⟩,e,.inr (hr.weak n hn)⟩
 ·obtain⟨p,hp,_,hx⟩:=bL.mp hx;rcases inn p hp with h|h
  ·obtain⟨k,s',h1,h2,h3,h4⟩:=((d.ok p h).aH x.2 hx).at_;have:=(d.pc h).2.2.2 s' (e7 h1);omega
  ·rw[h]at hx;have:=hr.off x.2 hx;omega
 ·rcases inn p hp with h|h
  ·have:=((d.ok p h).aP s' hs').words w hw';omega
  ·rw[h,hs]at hs';rw[cD.mp hs',hw]at hw';rw[cD.mp hw'];decide
 ·rcases inn p hp with h|h
  ·have:=((d.ok p h).aP s' hs').fills f hf';exact⟨this.lo,this.hi,this.name.imp (λy=>⟨y,this.soft y⟩) id⟩
  ·rw[h,hs]at hs';rw[cD.mp hs',hf]at hf';cases hf'
theorem R_.YR(h:R_ qs c)(nm:gi (bo qs) mn):∀q∈qs,NN q mn:=λq hq=>by
 have tk:=h.tk (nameOf c 0) ⟨0,by decide,by decide,rfl⟩;refine⟨tk.CZ q (lC _ hq),h.UD q hq,λs hs f hf=>?_⟩;obtain⟨h1,h2,h3⟩:=h.Ra q hq s hs f hf;refine⟨h1,h2,λhres=>?_⟩;rcases h3 with y|y
 ·exact y
 ·have:=ed.mp (nm.mem.mpr (h.tl f.name y));unfold cZ at hres;cases e:q.aH.find? λn=>decide (n.name=f.name)&&decide (n.sort=cU) with
  |some n=>rw[e]at hres;cases hres
  |none=>
   rw[e]at hres;cases e2:ar mn f.name with
   |none=>exact absurd e2 this
   |some m=>rw[e2]at hres;cases hres
theorem R_.ent(h:R_ qs c)(nm:gi (bo qs) mn)(he:qx c e):∃m,ar mn e=some m/\m.c%4294967296=m.c:=by
 have:=ed.mp (nm.mem.mpr (h.tl e he));cases e2:ar mn e with
 |none=>exact absurd e2 this
 |some m=>
  refine⟨m,rfl,?_⟩;have key:∀r∈bo qs,aq.vl m=N9 r->m.c%4294967296=m.c:=λr hr e=>by
   have h1:m.c=r.2.off:=congrArg (·.2.2) e;have:=h.off r hr;omega
  rcases nm.Ul e m e2 with ⟨r,hr,_,_,z⟩|⟨_,r,hr,_,_,z,_⟩
  ·exact key r hr z
  ·exact key r hr z
theorem T9.mono{H H':Hp}{t q lr ln:Addr}{pl:Ec}{rs:List Va}(h:T9 H t q lr ln pl rs)(s:az H H'):T9 H' t q lr ln pl rs:=by
 obtain⟨vs,h1,h2⟩:=h.AE;exact⟨s _ _ h.top,s _ _ h.Rm,⟨vs,s _ _ h1,h2.mono s⟩,s _ _ h.Gs⟩
def TX(x:Va):D:=match x with
 |.inl n=>.int n
 |.inr (g,z,i,o)=>.tup [.str g,.str z,.int i,.int o]
theorem OR(h:Va.Is H x v):Rep K H (TX x) v:=by
 rcases x with n|⟨g,z,i,o⟩
 ·rw[show v=.int n from h];simp[TX,Rep]
 ·obtain⟨t,rfl,ht⟩:=h;exact tF ht
theorem si:∀{rs:List Va}{us:List V},jE H rs us->RepL K H (rs.map TX) us
 |[],[],_=>by simp[RepL]
 |[],_::_,h=>by have:=h.len;cases this
 |_::_,[],h=>by have:=h.len;cases this
 |x::r,u::us,h=>by
  obtain⟨v,h1,h2⟩:=h.at_ 0 x rfl;cases h1;exact⟨u,us,rfl,OR h2,si ⟨by have:=h.len;simpa using this,λi y e=>h.at_ (i+1) y e⟩⟩
theorem QL(rs:List Va):depL (rs.map TX)<=20:=jt (dY (n:=2) λx _=>by rcases x with n|⟨g,z,i,o⟩<;>simp[TX,dep,depL]) (by decide)
theorem NF.off{A:Ad}{H H':Hp}{M:NO}{mem:cI}{pl:Ec}{rs:List Va}(h:NF A H M mem pl rs)(kn:∀b o,(∀xs,o≠.lst xs)->H b=some o->H' b=some o)(kr:∀xs,H M.lr=some (.lst xs)->H' M.lr=some (.lst xs))(kl:∀xs,H M.ln=some (.lst xs)->H' M.ln=some (.lst xs)):NF A H' M mem pl rs:=by
 obtain⟨km,h1,h2,h3⟩:=h.jb;obtain⟨vs,h4,h5⟩:=h.AE;exact⟨kn _ _ (by intro _ z;cases z) h.top,⟨km,kn _ _ (by intro _ z;cases z) h1,λk x e=>by obtain⟨v,a,b⟩:=h2 k x e;exact⟨v,a,b.Nx λb o c e=>kn b o (by rcases c with ⟨_,rfl⟩|⟨_,_,_,_,_,rfl⟩<;>intro _ z<;>cases z) e⟩,h3⟩,kn _ _ (by intro _ z;cases z) h.Rm,⟨vs,kr _ h4,h5.keep λb xs e=>kn b _ (by intro _ z;cases z) e⟩,h.len,kl _ h.Gs,h.nd⟩
theorem Jm{H H':Hp}{p:ao}(h:p.At H)(kt:∀b xs,H b=some (.tup xs)->H' b=some (.tup xs))(kl:∀b∈p.lists,∀xs,H b=some (.lst xs)->H' b=some (.lst xs)):p.At H':=by
 have sl:∀s∈p.aP,∀b∈s.lists,b∈p.lists:=λs hs b hb=>h8 _ (h8 _ (g7.mpr ⟨s,hs,hb⟩));exact⟨kt _ _ h.top,kl _ (by simp[ao.lists]) _ h.sl,kl _ (by simp[ao.lists]) _ h.nl,λs hs=>⟨kt _ _ (h.ss s hs).top,kl _ (sl s hs _ (by simp[aK.lists])) _ (h.ss s hs).wd,kl _ (sl s hs _ (by simp[aK.lists])) _ (h.ss s hs).fl,λf hf=>kt _ _ ((h.ss s hs).fs f hf)⟩,λn hn=>kt _ _ (h.ns n hn)⟩
structure OB(F:Addr->Prop)(H H':Hp)(n:Nat):Prop where
 off:∀b o,¬F b->H b=some o->H' b=some o
 lst:∀b,F b->∃xs,H' b=some (.lst xs)/\xs.length<=61+n
theorem OB.set(h:OB F H H' n){a:Addr}(ha:F a)(hn:n<=n'){xs:List V}(hx:xs.length<=61+n'):OB F H (upd H' a (.lst xs)) n':=by
 refine⟨λb o nb e=>?_,λb hb=>?_⟩
 ·rw[ae (λz:b=a=>nb (by rw[z];exact ha))];exact h.off b o nb e
 ·by_cases e:b=a
  ·rw[e];exact⟨xs,aD,hx⟩
  ·obtain⟨ys,h1,h2⟩:=h.lst b hb;exact⟨ys,by rw[ae e];exact h1,by omega⟩
def LH(hs:List ao)(b:Addr):Prop:=∃q∈hs,b∈q.ln::q.aP.flatMap aK.lists
theorem GU(nd:(aE hs).Nodup){p:ao}(hp:p∈hs):¬LH hs p.ls:=by
 rintro⟨q,hq,hb⟩;obtain⟨h1,h2⟩:=List.pairwise_flatMap.mp nd;have h3:=h1 p hp;obtain⟨i,hi,e1⟩:=B7 hp;obtain⟨j,hj,e2⟩:=B7 hq;have pw:=MW.mp h2;have m1:p.ls∈p.lists:=by simp[ao.lists]
 have m2:p.ls∈q.lists:=h8 _ hb;rcases Rl i j with z|z|z
 ·have:=pw i j hi hj z;rw[e1,e2]at this;exact this _ m1 _ m2 rfl
 ·subst z;have e:p=q:=e1.symm.trans e2;rw[<-e]at hb;exact(jB.mp h3).1 hb
 ·have:=pw j i hj hi z;rw[e1,e2]at this;exact this _ m2 _ m1 rfl
theorem Xp(at_:∀p∈hs,p.At H)(bn:∀p∈hs,Ae p):OB (LH hs) H H 0:=by
 refine⟨λ_ _ _ e=>e,λb hb=>?_⟩;obtain⟨q,hq,hb⟩:=hb;rcases hZ.mp hb with e|e
 ·rw[e];exact⟨_,(at_ q hq).nl,by rw[aI];exact(bn q hq).nm⟩
 ·obtain⟨s,hs',y⟩:=g7.mp e;have sb:=(bn q hq).ss s hs';have sa:=(at_ q hq).ss s hs';simp only[aK.lists,List.mem_cons,List.not_mem_nil,or_false]at y;rcases y with y|y
  ·rw[y];exact⟨_,sa.wd,by rw[aI];exact sb.1⟩
  ·rw[y];exact⟨_,sa.fl,by rw[aI];exact sb.2⟩
theorem Tt(T:Txt K mg A):aY P w K mg base cF 10 A.RT A.sV ["_law_script"] (p0 K A.br A.aN):=by
 refine T.A3.ok cx ?_ ?_;walk_at "k"
 obtain⟨sc,ns,rfl,hS,hl,hTn,hT,hne,k⟩:=h
 refine⟨_,(aJ (pS 1 cx.nd (pC (BG T) hr T.xT T.mC T.me (ah (pv 0) (ah af aa)))) (aJ (pS 2 cx.nd (pC (BG T) hr T.xT T.mC T.me (ah (pv 0) (ah af aa)))) (aJ (pS 3 cx.nd (pC (BG T) hr T.xT T.mC T.me (ah (pv 0) (ah af aa)))) (aJ (pS 4 cx.nd (pC (Vi T) hr T.Nn T.FC T.JR (ah (kb (yF (K:=K) rfl) (pv 0) (jQ af) (jQ af)) (ah (pv 1) (ah (pv 2) (ah dy aa)))))) (fM (aJ (dh (mD PySem.F.plainAttrs_list PySem.F.slot_list_insert PySem.F.type_list_insert iX (pv 4) (ah (ax aZ (pv 3) (ax cH af (cG (gj (K:=K) rfl) (by rfl) T.cL b0 (ah (pv 4) aa)))) (ah (pC (Th T) hr T.Nj T.Fl T.Gu (ah (pv 1) (ah (pv 2) aa))) aa)))) (aJ (pS 5 cx.nd (pC (lA T) hr T.jx T.ix T.iI (ah (pv 2) (ah af aa)))) (fM (aJ (pS 6 cx.nd (pC (S8 T) hr T.Od T.Lh T.E2 (ah (pv 4) aa))) (aJ (pS 7 cx.nd (pC (lA T) hr T.jx T.ix T.iI (ah (pv 1) (ah (ax aZ (pC (BG T) hr T.xT T.mC T.me (ah (pv 0) (ah af aa))) af) aa)))) (fM (aJ (eP (i:=8) cx.nd rfl (by walk_at "o") (kY (own:=["_law_k"]) (fr:=["_law_by"]) (fm:=[3]) rfl (by decide +kernel) (by decide +kernel) (by decide +kernel) (.cons rfl (by walk_at "o") rfl .nil)) rfl (d6 rfl T.dM (ah af aa)) (λ_ _ _=>⟨(pn 0 (by walk_at "n")),cj,(ax aZ (ax fR (ax cH (pv 1) (pv 0)) (ax cH af (pv 0))) af)⟩)) (fM (aJ (kq (aQ (ah aF (ah (pv 5) (ah af (ah (ax aZ (ax e8 (pv 3) af) af) aa))))) (zE (pv 8) (ax aZ (ax e8 (pv 3) af) af) set_list)) (aJ (kq (aQ (ah aF (ah (pv 5) (ah af (ah (ax aZ (pv 3) af) aa))))) (zE (pv 8) (ax aZ (ax e8 (pv 3) af) af) set_list)) (fM (aJ (eP (i:=9) cx.nd rfl (by walk_at "o") (kD ["_law_piece"]) rfl (cJ (K:=K) rfl (pv 4)) (λ_ _ _=>⟨(pn 0 (by walk_at "n")),cj,(pC (Vh T) hr T.NK T.GK T.GB (ah (pv 0) aa))⟩)) (aJ (pS 10 cx.nd (bM (zY (K:=K) rfl) (by rfl) T.eF eO (ah (pv 8) aa))) (fM (aJ (pS 11 cx.nd (gJ T.F1 (U2 T) (hr.mono (by decide)) rfl T.HH T.JB .nil dB (ah (pv 9) (ah (bx aa) (ah (pv 7) (ah (pv 10) aa)))))) (fM (aJ (pS 12 cx.nd (ax (x8 (K:=K) rfl) (aQ (ah aF aa)) (fB (bC hr) (pv 6) (pv 7) (λ_ _=>rfl)))) (fM (aJ (pS 13 cx.nd (kj (pv 11) T.bO T.zw (Ot T) (hr.mono (by decide)) T.AO .nil dB )) (fM (aJ (aO (PW.pt (fV (de (bU (pC (Nc T) hr T.Fo T.Ak T.BD (ah (pv 13) (ah (pv 12) (ah (pv 8) (ah (bx aa) (ah dy aa)))))))) (eV (de (bU (pC (Oj T) hr T.KH T.CS T.BV (ah (pv 11) (ah (pv 4) (ah (pv 6) aa))))))))) (aX (ay dy)) eL) (fM (aJ (aO (PW.pt (fV (eZ (CF hr.units (K:=K) rfl) (pv 9) (pv 4) (aB _)) (eV (eZ (CF hr.units (K:=K) rfl) (pv 10) (pv 8) (aB _))))) (aX (ay dy)) eL) (fM (aJ (dh (dE (tx K (pv 13)) (ah af aa))) (aJ (dh (dE (tx K (pv 13)) (ah af aa))) (aJ (kq af (zE (pv 10) af set_list)) (fM (aJ (pF (cJ (K:=K) rfl (pv 9)) (pn 14 cx.nd) (aJ (pF (cJ (K:=K) rfl (tx K (pv 14))) (pn 15 cx.nd) (aJ (dh (mD PySem.F.plainAttrs_list PySem.F.slot_list_insert PySem.F.type_list_insert iX (tx K (pv 15)) (ah af (ah af aa)))) (aX (dh (Li PySem.F.plainAttrs_list PySem.F.slot_list_clear PySem.F.type_list_clear x_ (tx K (pv 15))))))) (aX (dh (Li PySem.F.plainAttrs_list PySem.F.slot_list_clear PySem.F.type_list_clear x_ (tx K (pv 14))))))) (fM (aJ (dh (mD PySem.F.plainAttrs_list PySem.F.slot_list_insert PySem.F.type_list_insert iX (tx K (cw (fj (K:=K) rfl) (pv 9) af (λ_ _=>rfl))) (ah af (ah (aQ (ah aF (ah af (ah (bx (ah af aa)) (ah (bx aa) aa))))) aa)))) (aJ (dh (dE (pv 9) (ah (cw (fj (K:=K) rfl) (pv 9) af (λ_ _=>rfl)) aa))) (fM (aX (ay (gm (pC (Oj T) hr T.KH T.CS T.BV (ah (pv 11) (ah (pv 4) (ah (pv 6) aa)))) (i4 (pC (Nc T) hr T.Fo T.Ak T.BD (ah (kj (pv 11) T.bO T.zw (Ot T) (hr.mono (by decide)) T.AO .nil dB ) (ah (pv 12) (ah (pv 8) (ah (bx aa) (ah dy aa)))))))))))))))))))))))))))))))))))))))))))))))),?_⟩
 walk_at "rd";obtain⟨ms0,em,lm⟩:=Qh ns hl;refine⟨ns,hS,hl,by decide,λc=>⟨ns,hS,hl,by decide,λt=>⟨ns,hS,hl,by decide,λib=>⟨_,hS,λp hp=>?_⟩⟩⟩⟩;rw[em];have s1:=a_ (o:=HO.lst (ms0.map V.int)) hp;refine⟨ms0,aA.of aD,lm,λL ps H1 s2 hP fr1 dr=>bu ?_⟩;have sH1:=s1.trans s2;have d7:=dr.d7;walk_at "rd";have em0:0<=ib%(1+(ps.length:Int)):=Int.emod_nonneg _ (by omega);have em1:=Int.emod_lt_of_pos ib (show 0<1+(ps.length:Int) by omega);refine⟨.inl ⟨rfl,_,aA.of hP.top⟩,ps.length,.inl ⟨_,aA.of hP.top,by simp⟩,by omega,λr H2 s3 ra rp rf rn=>⟨L,ps.map ao.v,ib%(1+(ps.length:Int)),r.v,rfl,rfl,s3 _ _ hP.top,em0,by omega,by rw[List.length_map,sizeLine_eq];omega,bu ?_⟩⟩;obtain⟨qs,hqs,pm⟩:∃qs:List ao,(ps.map ao.v).take (ib%(1+(ps.length:Int))).toNat++r.v::(ps.map ao.v).drop (ib%(1+(ps.length:Int))).toNat=qs.map ao.v/\qs.Perm (ps++[r]):=by
  generalize (ib%(1+(ps.length:Int))).toNat=n;refine⟨ps.take n++r::ps.drop n,by rw[bP,lF,List.map_take,List.map_drop],?_⟩;refine List.perm_middle.trans ?_;rw[List.take_append_drop];exact(List.perm_append_singleton r ps).symm
 rw[hqs];have bt:fb H2 (upd H2 L (HO.lst (qs.map ao.v))) L:=fb.upd (s3 _ _ hP.top);have hQ:PL (upd H2 L (HO.lst (qs.map ao.v))) L qs:=⟨aD,λq hq=>by
  rcases cy.mp (pm.mem_iff.mp hq) with z|z
  ·exact((hP.at_ q z).mono s3).but bt λy=>(jB.mp hP.nd).1 (g7.mpr ⟨q,z,y⟩)
  ·rw[cD.mp z];exact ra.but bt λy=>by have:=rf L y;rw[hP.top]at this;cases this⟩
 have sH3:az H (upd H2 L (HO.lst (qs.map ao.v))):=f7 (cC s1 (fr1 L lO)) (sH1.trans s3);generalize upd H2 L (HO.lst (qs.map ao.v))=H3 at *;have dq:=Zl dr lm rp pm;walk_at "rd";refine⟨qs,hQ,dq.ps,λdS ms H4 s4 tab nm hdS=>⟨ns,(sH3.trans s4).seq hS,hl,by decide,λi3=>⟨by decide,bu ?_⟩⟩⟩;have hQ4:PL H4 L qs:=⟨s4 _ _ hQ.top,λq hq=>(hQ.at_ q hq).mono s4⟩
 have sH4:=sH3.trans s4;obtain⟨m,hlm,hmc⟩:=dq.ent nm (e:=nameOf c (i3%12)) ⟨i3%12,by omega,by omega,rfl⟩;have tkq:=dq.tk (nameOf c (i3%12)) ⟨i3%12,by omega,by omega,rfl⟩;clear hQ hqs bt ra rf rn hP fr1 s3 em0 em1 hdS;generalize nameOf c (i3%12)=ent at *;walk_at "rd";refine yn.of (by decide) (by decide) (λD i ys H'=>∃rs:List Va,jE H' rs ys/\rs.length=i/\az H4 H'/\H' D=some (.lst ys)) (λD hD=>⟨[],⟨rfl,λi x e=>(by cases e)⟩,rfl,a_ hD,aD⟩) (λD i ys H' hD hi ⟨rs,e,l,s1,h1⟩=>⟨h1,by rw[e.len,l];exact bw _⟩) (λD i ys H' hD hi ⟨rs,e,l,s1,h1⟩=>?_) (λW ws H5 hW ⟨rs0,va0,l0,s5,hW5⟩=>bu ?_)
 ·walk_at "rd";refine⟨.no (.yes .nil),.inr ⟨by omega,by omega⟩,by decide,h1,rs++[.inl ((ib+(i:Int))*(48271+(i:Int))%4294967296)],?_,by rw[eY,l];rfl,f7 hD s1,aD⟩;have b:=fb.upd (o:=.lst (ys++[V.int ((ib+(i:Int))*(48271+(i:Int))%4294967296)])) h1;exact(e.keep λ_ _ z=>b.tup z).snoc rfl
 have l0:rs0.length=8:=l0;have sH5:=sH4.trans s5;have hW0:H W=none:=cC sH4 hW;generalize nameOf t 14=ttl;walk_at "rd";have ix8:∀(n:Nat) (i:Int),0<=i->i<n->∃j,Ca n i=some j:=λn i h0 h1=>by
  unfold Ca
  repeat' split
  all_goals first|exact⟨_,rfl⟩|(exfalso;omega)
 have lw:=va0.len;obtain⟨n1,hn1⟩:=ix8 ws.length (ib/13%8) (by omega) (by omega);obtain⟨n2,hn2⟩:=ix8 ws.length (ib/5%8) (by omega) (by omega);refine⟨⟨by decide,by decide⟩,by decide,by walk_at "s", λt1 ht1=>⟨⟨by decide,by decide⟩,by decide,ws,a_ ht1 _ _ hW5,n1,hn1,by decide,by walk_at "s", λt2 ht2=>⟨⟨by decide,by decide⟩,by decide,_,a_ ht2 _ _ aD,n2,by rw[Rj];exact hn2,bu ?_⟩⟩⟩;have u1:=a_ (o:=HO.tup [V.str s!"at",V.str ttl,V.int 0,V.int (ib/104%4294967296)]) ht1;have va1:=((va0.mono u1).set (x:=.inr (Qr,ttl,0,ib/104%4294967296)) (v:=.ref t1) ⟨t1,rfl,aD⟩ n1)
 have w1:=u1 _ _ hW5;generalize upd H5 t1 (HO.tup [V.str s!"at",V.str ttl,V.int 0,V.int (ib/104%4294967296)])=H5a at *;have bt1:=fb.upd (o:=.lst (ws.set n1 (.ref t1))) w1;have va2:=va1.keep λ_ _ z=>bt1.tup z;have sA:az H4 (upd H5a W (.lst (ws.set n1 (.ref t1)))):=f7 hW (s5.trans u1);have w2:upd H5a W (.lst (ws.set n1 (.ref t1))) W=some (.lst (ws.set n1 (.ref t1))):=aD;generalize upd H5a W (.lst (ws.set n1 (.ref t1)))=H5b at *;have u2:=a_ (o:=HO.tup [V.str s!"high",V.str ttl,V.int 0,V.int (ib%4294967296)]) ht2;have va3:=((va2.mono u2).set (x:=.inr (s!"high", ttl,0,ib%4294967296)) (v:=.ref t2) ⟨t2,rfl,aD⟩ n2)
 have w3:=u2 _ _ w2;generalize upd H5b t2 (HO.tup [V.str s!"high",V.str ttl,V.int 0,V.int (ib%4294967296)])=H5c at *;have bt2:=fb.upd (o:=.lst ((ws.set n1 (.ref t1)).set n2 (.ref t2))) w3;have va4:=va3.keep λ_ _ z=>bt2.tup z;have s6:az H4 (upd H5c W (.lst ((ws.set n1 (.ref t1)).set n2 (.ref t2)))):=f7 hW (sA.trans u2);have w4:upd H5c W (.lst ((ws.set n1 (.ref t1)).set n2 (.ref t2))) W=some (.lst ((ws.set n1 (.ref t1)).set n2 (.ref t2))):=aD;generalize upd H5c W (.lst ((ws.set n1 (.ref t1)).set n2 (.ref t2)))=H6 at *;have r8:((rs0.set n1 (.inr (Qr,ttl,0,ib/104%4294967296))).set n2 (.inr (s!"high", ttl,0,ib%4294967296))).length=8:=by rw[Rj,Rj,l0]
 generalize (rs0.set n1 (.inr (Qr,ttl,0,ib/104%4294967296))).set n2 (.inr (s!"high", ttl,0,ib%4294967296))=rs at *;generalize (ws.set n1 (.ref t1)).set n2 (.ref t2)=us at *;clear va0 va1 va2 va3 w1 w2 w3 bt1 bt2 sA u1 u2 ht1 ht2 hn1 hn2 ix8 hW5 s5 sH5;have hQ6:PL H6 L qs:=⟨s6 _ _ hQ4.top,λq hq=>(hQ4.at_ q hq).mono s6⟩
 have sH6:=sH4.trans s6;have tab6:=tab.mono s6;have bnq:∀q∈qs,Ae q:=λq hq=>tkq.CZ q (lC _ hq);have fewq:=dq.ps.d7;walk_at "rd";refine Me hQ6 (by omega) bnq λDh hs H7 s7 ph frh eh edh=>?_;refine⟨us,.inl (aA.of (s7 _ _ w4)),λlg hlg=>bu ?_⟩;have s8:=a_ (o:=HO.lst us) hlg;have g8:upd H7 lg (HO.lst us) lg=some (.lst us):=aD;generalize upd H7 lg (HO.lst us)=H8 at *;walk_at "rd";refine⟨gH _,λsl hsl x dx hx hdx ndx=>?_⟩;have v1:=a_ (o:=HO.lst []) hsl;have esl:upd H8 sl (HO.lst []) sl=some (.lst []):=aD;generalize upd H8 sl (HO.lst [])=H8a at *;have v2:=a_ (o:=HO.own x) hdx;have hx2:upd H8a dx (HO.own x) x=none:=by rw[ae ndx.symm];exact hx
 generalize upd H8a dx (HO.own x)=H8b at *;have v3:=a_ (o:=HO.ins A.cu dx []) hx2;have ex:upd H8b x (HO.ins A.cu dx []) x=some (.ins A.cu dx []):=aD;generalize upd H8b x (HO.ins A.cu dx [])=H9 at *;have s89:az H8 H9:=v1.trans (v2.trans v3);have s79:az H7 H9:=s8.trans s89;have s69:az H6 H9:=s7.trans s79;have sH9:=sH6.trans s69;have pm2:(hs.map aL).Perm (qs.map aL):=by rw[eh]
 have pch:∀q∈hs,NN q ms:=λq hq=>by
  obtain⟨p,hp,e⟩:=cS pm2 q hq;exact Lc (dq.YR nm p hp) e λz=>rfl
 have tkO:gG A.aN VC VN H:=⟨#[],hT,trivial,.inl rfl⟩
 have tnO:gG A.br Fi GP H:=⟨#[],hTn,trivial,.inl rfl⟩
 refine⟨dx,ex,hs,⟨s79 _ _ ph.top,λq hq=>(ph.at_ q hq).mono s79⟩,(v2.trans v3) _ _ esl,Fz tkq eh rfl,(Ij dq.ps pm2).1,ms,nm.co (jN (cS pm2.symm)) (jN (cS pm2)),m,hlm,pch,rs,us,s89 _ _ g8,va4.mono s69,r8,tkO.more sH9,tnO.more sH9,hne,λM mem H10 ex' sx nf mp frr frn=>bu ?_⟩;have k8 {b:Addr}{o:HO}(h:H8 b=some o) (no:∀ps,o≠.g9 ps):H10 b=some o:=sx b o (bD (v1 _ _ h) hx) no (s89 _ _ h);have lt8:fA H8 H10:=λb o h e=>k8 e (by rcases h with ⟨_,rfl⟩|⟨_,rfl⟩<;>intro _ z<;>cases z);have s68:=s7.trans s8;have hQA:PL H10 L qs:=⟨eW lt8 (s68 _ _ hQ6.top),λq hq=>jo lt8 ((hQ6.at_ q hq).mono s68)⟩
 have phA:d0 H10 Dh hs:=⟨eW lt8 (s8 _ _ ph.top),λq hq=>jo lt8 ((ph.at_ q hq).mono s8),ph.nd⟩
 have tabA:Tab H10 dS ms:=⟨k8 (s68 _ _ tab6.top) (by intro _ z;cases z),λy hy=>gQ lt8 (s68 _ _ (tab6.at_ y hy))⟩
 have wA:=eW lt8 (s68 _ _ w4);have gA:=eW lt8 g8;have vaA:jE H10 rs us:=(va4.mono s68).keep λ_ _ z=>gQ lt8 z;have mpA:O9 qs ms mem:=λp hp i st o w hst hw=>by
  obtain⟨q,hq,e⟩:=cS pm2.symm p hp;have hst':(q.aP.map aK.e)[i]?=some (aK.e st):=by rw[<-z7 e,jA,hst];rfl
  rw[jA]at hst';obtain⟨st',ht,et⟩:=fW.mp hst';have ew:st'.words=st.words:=congrArg (·.2.2.1) et;rw[iG e,mp q hq i st' o w ht (by rw[ew];exact hw),xI e.symm (λz=>rfl) et]
 have pfq:=dq.YR nm;have mmem:=BZ hlm;rw[hmc]at nf;subst ex';walk_at "rd";refine⟨by rw[sizeLine_eq];decide,λq0 hq0=>?_⟩;have y0:=a_ (o:=HO.tup [V.str s!"at"]) hq0;have e0:upd H10 q0 (HO.tup [V.str s!"at"]) q0=some (HO.tup [V.str s!"at"]):=aD;generalize upd H10 q0 (HO.tup [V.str s!"at"])=H11 at *;have dg:=bT.k (k:=.inr ent) (y0 _ _ tabA.top);rw[kN,hlm]at dg;refine⟨_,dg,_,rfl,_,aS.of e0,_,aS.of (y0 _ _ (tabA.at_ m mmem)),by simp,by rw[sizeLine_eq];simp,λe=>(by cases e),λ_ sp hsp=>bu ?_⟩;have y1:=a_ (o:=HO.tup ([V.str s!"at"]++[V.str m.a,V.int m.b,V.int m.c])) hsp;have esp:upd H11 sp (HO.tup ([V.str s!"at"]++[V.str m.a,V.int m.b,V.int m.c])) sp=some (atT m.a m.b m.c):=aD;generalize upd H11 sp (HO.tup ([V.str s!"at"]++[V.str m.a,V.int m.b,V.int m.c]))=H12 at *;have y2:=y0.trans y1;have nf12:=nf.mono y2;walk_at "rd";refine⟨_,_,nf12.top,rfl,M,rfl,mem,(m.a,m.b,m.c),rs,nf12,λtf qf lf nf' H13 s13 stf f1 f2=>bu ?_⟩;have y3:=y2.trans s13;walk_at "rd";refine⟨gH _,λpe hpe=>?_⟩;have y4:=a_ (o:=HO.lst []) hpe;have epe:upd H13 pe (HO.lst []) pe=some (.lst []):=aD;generalize upd H13 pe (HO.lst [])=H14 at *;have y5:=y3.trans y4;refine⟨qf,lf,nf',(m.a,m.b,m.c),rs,stf.mono y4,(s13.trans y4) _ _ esp,us,y5 _ _ wA,vaA.mono y5,epe,by omega,M,rfl,mem,(m.a,m.b,m.c),rs,nf.mono y5,qs,ms,mpA,jY hQA y5,tabA.mono y5,fewq,pfq,λH15 s15=>bu ?_⟩
 have y6:=y5.trans s15;have stf15:=stf.mono (y4.trans s15);have hQB:=jY hQA y6;have phB:=phA.mono y6;have nfB:=nf.mono y6;have tabB:=tabA.mono y6;have vaB:=vaA.mono y6;have wB:=y6 _ _ wA;have gB:=y6 _ _ gA;have espB:=(s13.trans (y4.trans s15)) _ _ esp;have lfn:H10 lf=none:=cC y2 f1;have lnn:H10 nf'=none:=cC y2 f2;walk_at "rd";refine⟨_,_,.inl ⟨K8 ⟨phB.top,phB.at_⟩,K8 hQB⟩,Pn _,_,rfl,?_⟩;rw[edh,d3,if_neg (by decide)];refine⟨_,_,.inl ⟨⟨_,_,rfl,aA.of gB,si vaB⟩,⟨_,_,rfl,aA.of wB,si vaB⟩⟩,QL _,_,rfl,?_⟩;rw[d3,if_neg (by decide)];refine bu ?_;walk_at "rd";obtain⟨fv,hf1,hf2⟩:=stf15.AE;have nlf:nf'≠lf:=λe=>by
  have h1:=stf15.Gs;rw[e,hf1]at h1;injection h1 with h1;injection h1 with h1;have h2:=hf2.len;rw[r8,h1]at h2;cases h2
 have glf:lg≠lf:=bD gA lfn;have glg:lg≠nf':=bD gA lnn;have tl1:upd H15 lf (HO.lst (fv++[V.int 1])) nf'=some (HO.lst []):=by rw[ae nlf];exact stf15.Gs
 refine⟨_,aS.of stf15.top,_,rfl,.inl ⟨rfl,_,aA.of hf1⟩,lf,rfl,fv,hf1,by rw[hf2.len,r8,sizeLine_eq];decide,_,aS.of (by rw[ae (ba stf15.top hf1 (by intro z;cases z))];exact stf15.top),V.ref nf',rfl,.inl ⟨rfl,_,aA.of tl1⟩,nf',rfl,[],tl1,by walk_at "s", us,by rw[ae glg,ae glf];exact gB,0,by rw[vaB.len,r8];rfl,bu ?_⟩;have off16:∀b o,b≠lf->b≠nf'->b≠lg->H15 b=some o->upd (upd (upd H15 lf (HO.lst (fv++[V.int 1]))) nf' (HO.lst ([]++[V.int 1]))) lg (HO.lst (us.set 0 (V.int 7))) b=some o:=λb o n1 n2 n3 e=>by rw[ae n3,ae n2,ae n1];exact e
 generalize upd (upd (upd H15 lf (HO.lst (fv++[V.int 1]))) nf' (HO.lst ([]++[V.int 1]))) lg (HO.lst (us.set 0 (V.int 7)))=H16 at *;have k16:∀b o,(∀xs,o≠.lst xs)->H15 b=some o->H16 b=some o:=λb o no e=>off16 b o (ba e hf1 (no _)) (ba e stf15.Gs (no _)) (ba e gB (no _)) e;have ex10:∀b∈Dh::aE hs,∃xs,H7 b=some (.lst xs):=λb hb=>by
  rcases hZ.mp hb with e|e
  ·rw[e];exact⟨_,ph.top⟩
  ·obtain⟨p,hp,y⟩:=g7.mp e;exact(ph.at_ p hp).list y
 have l16:∀b∈Dh::aE hs,∀xs,H15 b=some (.lst xs)->H16 b=some (.lst xs):=λb hb xs e=>by
  obtain⟨ys,hy⟩:=ex10 b hb;have h1:=eW lt8 (s8 _ _ hy);exact off16 b _ (bD h1 lfn) (bD h1 lnn) (bD hy hlg) e
 have phC:d0 H16 Dh hs:=⟨l16 Dh lO _ phB.top,λq hq=>Jm (phB.at_ q hq) (λb xs e=>k16 b _ (by intro _ z;cases z) e) λb hb xs e=>l16 b (h8 _ (g7.mpr ⟨q,hq,hb⟩)) xs e,ph.nd⟩
 have bnh:∀q∈hs,Ae q:=λq hq=>(pch q hq).bn;walk_at "rd";have nDh:¬LH hs Dh:=λ⟨q,hq,hb⟩=>(jB.mp ph.nd).1 (g7.mpr ⟨q,hq,h8 _ hb⟩);have nls:∀p∈hs,¬LH hs p.ls:=λp hp=>GU (jB.mp ph.nd).2 hp;have i0:=Xp phC.at_ bnh;have kt:∀{H':Hp}{n:Nat},OB (LH hs) H16 H' n->∀b xs,H16 b=some (.tup xs)->H' b=some (.tup xs):=λh b xs e=>h.off b _ (λz=>by obtain⟨ys,h1,_⟩:=i0.lst b z;rw[e]at h1;cases h1) e;have hsl:hs.length<=14:=by have:=congrArg List.length eh;rw[aI,aI]at this;omega
 refine eM.of (xs:=hs.map ao.v) (λi σ H'=>∃c14 c15:Option V,σ=[some (V.ref sc),some (V.int c),some (V.int t),some (V.int ib),some (V.ref L),some (V.str ttl),some (V.ref dS),some (V.str ent),some (V.ref W),some (V.ref Dh),some (V.ref lg),some (V.ref M.x),some (V.ref sp),some (V.ref tf),c14,c15]/\OB (LH hs) H16 H' (61*i)) ⟨_,_,rfl,i0⟩ (λi σ H' _ ⟨_,_,_,h⟩=>aA.of (h.off _ _ nDh phC.top)) ?_ ?_
 ·rintro i v σ H' hv ⟨c14,c15,rfl,sp1⟩;walk_at "4";walk_at "5";have hpm:=e7 hp;have pi:=(hV.mp hp).1;have pst:=(bnh p hpm).st;have pa:=phC.at_ p hpm;walk_at "rd";refine⟨_,aS.of (kt sp1 _ _ pa.top),_,rfl,eM.of (xs:=p.aP.map aK.v) (λj σ H'=>∃c15:Option V,σ=[some (V.ref sc),some (V.int c),some (V.int t),some (V.int ib),some (V.ref L),some (V.str ttl),some (V.ref dS),some (V.str ent),some (V.ref W),some (V.ref Dh),some (V.ref lg),some (V.ref M.x),some (V.ref sp),some (V.ref tf),some p.v,c15]/\OB (LH hs) H16 H' (61*i+j)) ⟨_,rfl,sp1⟩ (λj σ H' _ ⟨_,_,h⟩=>aA.of (h.off _ _ (nls p hpm) pa.sl)) ?_ ?_⟩
  ·rintro j v σ H' hv ⟨c15,rfl,sp2⟩;walk_at "4";obtain⟨st,hst,rfl⟩:=fW.mp hv;have hsm:=e7 hst;have pj:=(hV.mp hst).1;have f1:LH hs st.lw:=⟨p,hpm,h8 _ (g7.mpr ⟨st,hsm,by simp[aK.lists]⟩)⟩
   have f2:LH hs st.lf:=⟨p,hpm,h8 _ (g7.mpr ⟨st,hsm,by simp[aK.lists]⟩)⟩
   obtain⟨xs,hx1,hx2⟩:=sp2.lst _ f1;walk_at "rd";refine⟨_,aS.of (kt sp2 _ _ (pa.ss st hsm).top),_,rfl,.inl ⟨rfl,_,aA.of hx1⟩,st.lw,xs,0,.int 9,rfl,rfl,hx1,by decide,by decide,by rw[sizeLine_eq];omega,?_⟩;dsimp only;have sp3:=sp2.set (n':=61*i+(j+1)) (xs:=xs.take (0:Int).toNat++V.int 9::xs.drop (0:Int).toNat) f1 (by omega) (by simp;omega);obtain⟨zs,hz1,hz2⟩:=sp3.lst _ f2;exact⟨_,aS.of (kt sp3 _ _ (pa.ss st hsm).top),V.ref st.lf,rfl,.inl ⟨rfl,_,aA.of hz1⟩,st.lf,rfl,zs,hz1,sp3.set f2 (bw _) (gH _)⟩
  ·rintro σ H' ⟨c15,rfl,sp2⟩;rw[aI]at sp2;have f1:LH hs p.ln:=⟨p,hpm,lO⟩
   obtain⟨xs,hx1,hx2⟩:=sp2.lst _ f1;walk_at "rd";exact⟨_,aS.of (kt sp2 _ _ pa.top),V.ref p.ln,rfl,.inl ⟨rfl,_,aA.of hx1⟩,p.ln,rfl,xs,hx1,sp2.set f1 (by omega) (gH _)⟩
 ·rintro σ H17 ⟨c14,c15,rfl,sp1⟩;rw[aI]at sp1;dsimp only;refine bu ?_;walk_at "rd";obtain⟨h0,hr0,eh0⟩:∃h0 hr0,hs=h0::hr0:=by
   cases hz:hs with
   |cons h0 hr0=>exact⟨h0,hr0,rfl⟩
   |nil=>
    have h1:=congrArg List.length eh;rw[hz,aI,aI,pm.length_eq,eY,Pp]at h1;cases h1
  have m0:h0∈hs:=by rw[eh0];exact lO
  have Rp:h_ (hs.map ao.v) 0=some h0.v:=(show h_ (hs.map ao.v) ((0:Nat):Int)=_ from (dJ (vs:=hs.map ao.v) (by rw[eh0];simp)).trans (by rw[eh0];rfl))
  have top17:=sp1.off _ _ nDh phC.top;have t17:=kt sp1 _ _ (phC.at_ h0 m0).top;have l17:=sp1.off _ _ (nls h0 m0) (phC.at_ h0 m0).sl;have st0:=(bnh h0 m0).st;have mls:∀p∈hs,∀b∈p.lists,b∈aE hs:=λp hp b hb=>g7.mpr ⟨p,hp,hb⟩;have ml0:h0.ls∈aE hs:=mls h0 m0 _ (by simp[ao.lists]);refine⟨_,aA.of top17,_,Rp,h0.t,rfl,_,aS.of t17,V.ref h0.ls,rfl,.inl ⟨rfl,_,aA.of l17⟩,by walk_at "s", λa1 g1=>⟨gH _,λa2 g2=>⟨by rw[sizeLine_eq];decide,λa3 g3=>?_⟩⟩⟩;have sz:=(a_ (o:=HO.lst [V.int 9]) g1).trans ((a_ (o:=HO.lst []) g2).trans (a_ (o:=HO.tup [V.str s!"code",V.int 1,V.ref a1,V.ref a2]) g3));generalize upd (upd (upd H17 a1 (HO.lst [V.int 9])) a2 (HO.lst [])) a3 (HO.tup [V.str s!"code",V.int 1,V.ref a1,V.ref a2])=H18 at *;refine⟨h0.ls,h0.aP.map aK.v,0,V.ref a3,rfl,rfl,sz _ _ l17,by decide,by decide,by rw[aI,sizeLine_eq];omega,?_⟩;dsimp only;generalize (h0.aP.map aK.v).take (Int.toNat 0)++V.ref a3::(h0.aP.map aK.v).drop (Int.toNat 0)=zl;have nD:Dh≠h0.ls:=λe=>(jB.mp ph.nd).1 (e▸ml0);have top18:upd H18 h0.ls (HO.lst zl) Dh=some (.lst (hs.map ao.v)):=by rw[ae nD];exact sz _ _ top17
  refine⟨.inl ⟨rfl,_,aA.of top18⟩,_,aA.of top18,_,Rp,_,top18,by rw[aI,sizeLine_eq];omega,bu ?_⟩;have offZ:∀b o,b≠lf->b≠nf'->b≠lg->b∉Dh::aE hs->H15 b=some o->upd (upd H18 h0.ls (HO.lst zl)) Dh (HO.lst (hs.map ao.v++[h0.v])) b=some o:=λb o n1 n2 n3 n4 e=>by
   rw[ae (λz:b=Dh=>n4 (by rw[z];exact lO)),ae (λz:b=h0.ls=>n4 (by rw[z];exact h8 _ ml0))];exact sz _ _ (sp1.off b o (λ⟨q,hq,hb⟩=>n4 (h8 _ (mls q hq b (h8 _ hb)))) (off16 b o n1 n2 n3 e))
  generalize upd (upd H18 h0.ls (HO.lst zl)) Dh (HO.lst (hs.map ao.v++[h0.v]))=HZ at *;have kZ:∀b o,(∀xs,o≠.lst xs)->H15 b=some o->HZ b=some o:=λb o no e=>offZ b o (ba e hf1 (no _)) (ba e stf15.Gs (no _)) (ba e gB (no _)) (λz=>by
   rcases hZ.mp z with y|y
   ·rw[y,phB.top]at e;injection e with e;exact no _ e.symm
   ·obtain⟨p,hp,y⟩:=g7.mp y;obtain⟨xs,h1⟩:=(phB.at_ p hp).list y;rw[h1]at e;injection e with e;exact no _ e.symm) e
  have lZ:∀b xs,H6 b=some (.lst xs)->∀ys,H15 b=some (.lst ys)->HZ b=some (.lst ys):=λb xs h ys e=>by
   have h10:=eW lt8 (s68 _ _ h);exact offZ b _ (bD h10 lfn) (bD h10 lnn) (bD (s7 _ _ h) hlg) (λz=>by have:=frh b z;rw[h]at this;cases this) e
  have mZ:∀b xs,H10 b=some (.lst xs)->H9 b=none->∀ys,H15 b=some (.lst ys)->HZ b=some (.lst ys):=λb xs h h9 ys e=>by
   refine offZ b _ (bD h lfn) (bD h lnn) (λz=>?_) (λz=>?_) e
   ·have:=s89 _ _ g8;rw[<-z,h9]at this;cases this
   ·obtain⟨zs,hz⟩:=ex10 b z;rw[s79 _ _ hz]at h9;cases h9
  obtain⟨mv,hmv,_⟩:=nf.AE;have nfZ:=nfB.off kZ (mZ _ _ hmv frr) (mZ _ _ nf.Gs frn);have hQZ:PL HZ L qs:=⟨lZ _ _ hQ6.top _ hQB.top,λq hq=>Jm (hQB.at_ q hq) (λb xs e=>kZ b _ (by intro _ z;cases z) e) λb hb xs e=>by
   obtain⟨ys,hy⟩:=(hQ6.at_ q hq).list hb;exact lZ b ys hy xs e⟩
  have tabZ:Tab HZ dS ms:=⟨kZ _ _ (by intro _ z;cases z) tabB.top,λy hy=>kZ _ _ (by intro _ z;cases z) (tabB.at_ y hy)⟩
  have wZ:=lZ _ _ w4 _ wB;have vaZ:jE HZ rs us:=vaB.keep λb xs e=>kZ b _ (by intro _ z;cases z) e;have spZ:=kZ _ _ (by intro _ z;cases z) espB;walk_at "rd";refine⟨M,rfl,mem,(m.a,m.b,m.c),rs,nfZ,qs,ms,mpA,hQZ,tabZ,fewq,pfq,λH19 z1=>⟨_,_,(nfZ.mono z1).top,rfl,M,rfl,mem,(m.a,m.b,m.c),rs,nfZ.mono z1,λt3 q3 lr3 ln3 H20 z2 st3 _ _=>⟨gH _,λp3 hp3=>?_⟩⟩⟩;have z3:=z1.trans (z2.trans (a_ (o:=HO.lst []) hp3));exact⟨q3,lr3,ln3,(m.a,m.b,m.c),rs,st3.mono (a_ hp3),z3 _ _ spZ,us,z3 _ _ wZ,vaZ.mono z3,aD,by omega,k _⟩
end
@[elab_as_elim] theorem eD{α:Type}{p:List α->Prop}(us:List α)(h:us.length=1)(f:∀a,p [a]):p us:=by
 match us,h with | [a],_=>exact f a
@[elab_as_elim] theorem pE{α:Type}{p:List α->Prop}(us:List α)(h:us.length=2)(f:∀a b,p [a,b]):p us:=by
 match us,h with | [a,b],_=>exact f a b
@[elab_as_elim] theorem zr{α:Type}{p:List α->Prop}(us:List α)(h:us.length=3)(f:∀a b c,p [a,b,c]):p us:=by
 match us,h with | [a,b,c],_=>exact f a b c
@[elab_as_elim] theorem kC{α:Type}{p:List α->Prop}(us:List α)(h:us.length=4)(f:∀a b c d,p [a,b,c,d]):p us:=by
 match us,h with | [a,b,c,d],_=>exact f a b c d
@[elab_as_elim] theorem Rx{α:Type}{p:List α->Prop}(us:List α)(h:us.length=5)(f:∀a b c d e,p [a,b,c,d,e]):p us:=by
 match us,h with | [a,b,c,d,e],_=>exact f a b c d e
def FO(K:Wf)(f:Addr)(st:Stmt)(x q:Str):Prop:=∃(oc:Value) (od an:Option Addr) (sl:Array (Option Value)) (kV dc pm cd ct:Value),K.lookup f=some ⟨oc,od,.func (fnOf x q (fz st) (dU st) (ag st) .none kV dc pm an cd ct),sl⟩/\codeIn K cd q=true/\keepIn K (.ref f)=true
def Z2(K:Wf)(bm:Addr):Prop:=∃sl,bm≠builtinsNs/\bm≠mainGlobals/\K.lookup bm=some ⟨.type "module", some builtinsNs,.plain,sl⟩
theorem aR{K:Wf}{f:Addr}{st:Stmt}{x q:Str}(h:FO K f st x q):∃fd,cW K x q st f fd/\keepIn K (.ref f)=true:=by
 obtain⟨_,_,_,_,_,_,_,_,_,l,e,k⟩:=h;exact⟨_,wU l e k,k⟩
theorem all_mk{l:PySem.W.OpenLaw}{w:World}{K:Wf}{h:Heap}{mg:So}{fa f_qkz f_qyk f_ones f_moved f_tells f_wants f_qxx f_qwk f_aims f_qkx f_qzx f_qkw f_qqv f_qzz f_qzy f_qyv f_qzq f_qwj f_taken f_qqy f_qqq f_qqx f_qxz f_qqz f_qwq f_qqw f_qky f_qxk f_qwy f_qxv f_qqj f_qwz f_qzj f_qqk f_qwx f_qwv f_qww f_qzw f_qyx f_qxw f_qxq f_qyz f_qzv f_qyq f_qxy f_qyy f_qzk f_qkq f_qyj f_law C_High C_Low C_qkv C_qkk C_qjq C_qxj bm br aN:Addr}{xB:Tok}(X:K.In h)(G:h.Ns mainGlobals mg)(hfa:mg "law" = some (.ref fa))
  (ac_High:nsIn K mainGlobals "High" = some (some (.ref C_High)))
  (ac_Low:nsIn K mainGlobals "Low" = some (some (.ref C_Low)))
  (ac_qkv:nsIn K mainGlobals "Named" = some (some (.ref C_qkv)))
  (ac_qkk:nsIn K mainGlobals "Taking" = some (some (.ref C_qkk)))
  (ac_qjq:nsIn K mainGlobals "Whole" = some (some (.ref C_qjq)))
  (ac_qxj:nsIn K mainGlobals "WithFill" = some (some (.ref C_qxj)))
  (a_qkz:nsIn K mainGlobals "wrapped" = some (some (.ref f_qkz)))
  (l_qkz:FO K f_qkz Ip "wrapped" "wrapped")
  (a_qyk:nsIn K mainGlobals "with_field" = some (some (.ref f_qyk)))
  (l_qyk:FO K f_qyk GG "with_field" "with_field")
  (a_ones:nsIn K mainGlobals "ones" = some (some (.ref f_ones)))
  (l_ones:FO K f_ones Ai "ones" "ones")
  (a_moved:nsIn K mainGlobals "moved" = some (some (.ref f_moved)))
  (l_moved:FO K f_moved v9 "moved" "moved")
  (a_tells:nsIn K mainGlobals "tells" = some (some (.ref f_tells)))
  (l_tells:FO K f_tells oz "tells" "tells")
  (a_wants:nsIn K mainGlobals "wants" = some (some (.ref f_wants)))
  (l_wants:FO K f_wants oy "wants" "wants")
  (a_qxx:nsIn K mainGlobals "names_of" = some (some (.ref f_qxx)))
  (l_qxx:WA K f_qxx br Cp "names_of" "names_of")
  (a_qwk:nsIn K mainGlobals "refuse_twice" = some (some (.ref f_qwk)))
  (l_qwk:FO K f_qwk IW "refuse_twice" "refuse_twice")
  (a_aims:nsIn K mainGlobals "aims" = some (some (.ref f_aims)))
  (l_aims:FO K f_aims Ab "aims" "aims")
  (a_qkx:nsIn K mainGlobals "aim_by" = some (some (.ref f_qkx)))
  (l_qkx:FO K f_qkx Gp "aim_by" "aim_by")
  (a_qzx:nsIn K mainGlobals "places_told" = some (some (.ref f_qzx)))
  (l_qzx:FO K f_qzx GZ "places_told" "places_told")
  (a_qkw:nsIn K mainGlobals "rule_of" = some (some (.ref f_qkw)))
  (l_qkw:FO K f_qkw Kt "rule_of" "rule_of")
  (a_qqv:findIn K (.ref C_High) "__init__" = some (some (.ref f_qqv)))
  (i_qqv:isFn K (.ref f_qqv)=true)
  (l_qqv:FO K f_qqv Io "__init__" "Rule.__init__")
  (a_qzz:findIn K (.ref C_qjq) "filled" = some (some (.ref f_qzz)))
  (i_qzz:isFn K (.ref f_qzz)=true)
  (l_qzz:FO K f_qzz Hv "filled" "Whole.filled")
  (a_qzy:findIn K (.ref C_High) "filled" = some (some (.ref f_qzy)))
  (i_qzy:isFn K (.ref f_qzy)=true)
  (l_qzy:FO K f_qzy Ic "filled" "High.filled")
  (a_qyv:findIn K (.ref C_Low) "filled" = some (some (.ref f_qyv)))
  (i_qyv:isFn K (.ref f_qyv)=true)
  (l_qyv:FO K f_qyv Jy "filled" "Low.filled")
  (a_qzq:nsIn K mainGlobals "copied_piece" = some (some (.ref f_qzq)))
  (l_qzq:FO K f_qzq JT "copied_piece" "copied_piece")
  (a_qwj:nsIn K mainGlobals "copied_fills" = some (some (.ref f_qwj)))
  (l_qwj:FO K f_qwj ER "copied_fills" "copied_fills")
  (a_taken:nsIn K mainGlobals "taken" = some (some (.ref f_taken)))
  (l_taken:WA K f_taken aN j4 "taken" "taken")
  (a_qqy:findIn K (.ref C_qkk) "__init__" = some (some (.ref f_qqy)))
  (i_qqy:isFn K (.ref f_qqy)=true)
  (l_qqy:FO K f_qqy EO "__init__" "Taking.__init__")
  (a_qqq:findIn K (.ref C_qkk) "take_for_pieces" = some (some (.ref f_qqq)))
  (i_qqq:isFn K (.ref f_qqq)=true)
  (l_qqq:FO K f_qqq GO "take_for_pieces" "Taking.take_for_pieces")
  (a_qqx:findIn K (.ref C_qkk) "take_for" = some (some (.ref f_qqx)))
  (i_qqx:isFn K (.ref f_qqx)=true)
  (l_qqx:FO K f_qqx Ep "take_for" "Taking.take_for")
  (a_qxz:nsIn K mainGlobals "pieces_on" = some (some (.ref f_qxz)))
  (l_qxz:FO K f_qxz Gq "pieces_on" "pieces_on")
  (a_qqz:nsIn K mainGlobals "refuse_same_name" = some (some (.ref f_qqz)))
  (l_qqz:FO K f_qqz JV "refuse_same_name" "refuse_same_name")
  (a_qwq:nsIn K mainGlobals "first_tellers" = some (some (.ref f_qwq)))
  (l_qwq:FO K f_qwq KU "first_tellers" "first_tellers")
  (a_qqw:findIn K (.ref C_qxj) "__init__" = some (some (.ref f_qqw)))
  (i_qqw:isFn K (.ref f_qqw)=true)
  (l_qqw:FO K f_qqw Gy "__init__" "WithFill.__init__")
  (a_qky:nsIn K mainGlobals "is_word" = some (some (.ref f_qky)))
  (l_qky:FO K f_qky Gv "is_word" "is_word")
  (a_qxk:nsIn K mainGlobals "at_value" = some (some (.ref f_qxk)))
  (l_qxk:FO K f_qxk FQ "at_value" "at_value")
  (a_qwy:nsIn K mainGlobals "copied_value" = some (some (.ref f_qwy)))
  (l_qwy:FO K f_qwy IB "copied_value" "copied_value")
  (a_qxv:nsIn K mainGlobals "at_first" = some (some (.ref f_qxv)))
  (l_qxv:FO K f_qxv KR "at_first" "at_first")
  (a_qqj:findIn K (.ref C_qkv) "__init__" = some (some (.ref f_qqj)))
  (i_qqj:isFn K (.ref f_qqj)=true)
  (l_qqj:FO K f_qqj HV "__init__" "Named.__init__")
  (a_qwz:findIn K (.ref C_qkv) "take_in" = some (some (.ref f_qwz)))
  (i_qwz:isFn K (.ref f_qwz)=true)
  (l_qwz:FO K f_qwz E1 "take_in" "Named.take_in")
  (a_qzj:findIn K (.ref C_qkv) "state" = some (some (.ref f_qzj)))
  (i_qzj:isFn K (.ref f_qzj)=true)
  (l_qzj:FO K f_qzj G9 "state" "Named.state")
  (a_qqk:findIn K (.ref C_qkv) "value_at" = some (some (.ref f_qqk)))
  (i_qqk:isFn K (.ref f_qqk)=true)
  (l_qqk:FO K f_qqk Jx "value_at" "Named.value_at")
  (a_qwx:nsIn K mainGlobals "_law_cell_at" = some (some (.ref f_qwx)))
  (l_qwx:FO K f_qwx Ls "_law_cell_at" "_law_cell_at")
  (a_qwv:nsIn K mainGlobals "_law_name_by" = some (some (.ref f_qwv)))
  (l_qwv:FO K f_qwv Fh "_law_name_by" "_law_name_by")
  (a_qww:nsIn K mainGlobals "_law_word_row" = some (some (.ref f_qww)))
  (l_qww:FO K f_qww Es "_law_word_row" "_law_word_row")
  (a_qzw:nsIn K mainGlobals "_law_told_by" = some (some (.ref f_qzw)))
  (l_qzw:FO K f_qzw E_ "_law_told_by" "_law_told_by")
  (a_qyx:nsIn K mainGlobals "_law_drawn" = some (some (.ref f_qyx)))
  (l_qyx:FO K f_qyx Lf "_law_drawn" "_law_drawn")
  (a_qxw:nsIn K mainGlobals "_law_copy" = some (some (.ref f_qxw)))
  (l_qxw:FO K f_qxw IA "_law_copy" "_law_copy")
  (a_qxq:nsIn K mainGlobals "_law_whole" = some (some (.ref f_qxq)))
  (l_qxq:FO K f_qxq JO "_law_whole" "_law_whole")
  (a_qyz:nsIn K mainGlobals "_law_value" = some (some (.ref f_qyz)))
  (l_qyz:FO K f_qyz HY "_law_value" "_law_value")
  (a_qzv:nsIn K mainGlobals "_law_values" = some (some (.ref f_qzv)))
  (l_qzv:FO K f_qzv HW "_law_values" "_law_values")
  (a_qyq:nsIn K mainGlobals "_law_state" = some (some (.ref f_qyq)))
  (l_qyq:FO K f_qyq JP "_law_state" "_law_state")
  (a_qxy:nsIn K mainGlobals "_law_rest" = some (some (.ref f_qxy)))
  (l_qxy:FO K f_qxy FF "_law_rest" "_law_rest")
  (a_qyy:nsIn K mainGlobals "_law_names" = some (some (.ref f_qyy)))
  (l_qyy:FO K f_qyy Gb "_law_names" "_law_names")
  (a_qzk:nsIn K mainGlobals "_law_filled" = some (some (.ref f_qzk)))
  (l_qzk:FO K f_qzk ID "_law_filled" "_law_filled")
  (a_qkq:nsIn K mainGlobals "_law_due" = some (some (.ref f_qkq)))
  (l_qkq:FO K f_qkq Ky "_law_due" "_law_due")
  (a_qyj:nsIn K mainGlobals "_law_holds" = some (some (.ref f_qyj)))
  (l_qyj:FO K f_qyj KW "_law_holds" "_law_holds")
  (a_law:nsIn K mainGlobals "law" = some (some (.ref f_law)))
  (l_law:FO K f_law Gw "law" "law")
  (fi_Low:findIn K (.ref C_Low) "__init__" = some (some (.ref f_qqv)))
  (fi_qjq:findIn K (.ref C_qjq) "__init__" = some (some (.ref f_qqv)))
  (pg_High:plainGet K C_High Str.empty=true)
  (hd_High:hasDictIn K C_High=true)
  (po_High:plainOver K C_High=true)
  (sa_High:findIn K (.ref C_High) "__setattr__" = some (some (.builtin "object.__setattr__")))
  (mm_High:makesIn K C_High=true)
  (kc_High:keepIn K (.ref C_High)=true)
  (pg_Low:plainGet K C_Low Str.empty=true)
  (hd_Low:hasDictIn K C_Low=true)
  (po_Low:plainOver K C_Low=true)
  (sa_Low:findIn K (.ref C_Low) "__setattr__" = some (some (.builtin "object.__setattr__")))
  (mm_Low:makesIn K C_Low=true)
  (kc_Low:keepIn K (.ref C_Low)=true)
  (pg_qkv:plainGet K C_qkv Str.empty=true)
  (hd_qkv:hasDictIn K C_qkv=true)
  (po_qkv:plainOver K C_qkv=true)
  (sa_qkv:findIn K (.ref C_qkv) "__setattr__" = some (some (.builtin "object.__setattr__")))
  (mm_qkv:makesIn K C_qkv=true)
  (kc_qkv:keepIn K (.ref C_qkv)=true)
  (pg_qkk:plainGet K C_qkk Str.empty=true)
  (hd_qkk:hasDictIn K C_qkk=true)
  (po_qkk:plainOver K C_qkk=true)
  (sa_qkk:findIn K (.ref C_qkk) "__setattr__" = some (some (.builtin "object.__setattr__")))
  (mm_qkk:makesIn K C_qkk=true)
  (kc_qkk:keepIn K (.ref C_qkk)=true)
  (pg_qjq:plainGet K C_qjq Str.empty=true)
  (hd_qjq:hasDictIn K C_qjq=true)
  (po_qjq:plainOver K C_qjq=true)
  (sa_qjq:findIn K (.ref C_qjq) "__setattr__" = some (some (.builtin "object.__setattr__")))
  (mm_qjq:makesIn K C_qjq=true)
  (kc_qjq:keepIn K (.ref C_qjq)=true)
  (pg_qxj:plainGet K C_qxj Str.empty=true)
  (hd_qxj:hasDictIn K C_qxj=true)
  (po_qxj:plainOver K C_qxj=true)
  (sa_qxj:findIn K (.ref C_qxj) "__setattr__" = some (some (.builtin "object.__setattr__")))
  (mm_qxj:makesIn K C_qxj=true)
  (kc_qxj:keepIn K (.ref C_qxj)=true)
  (kw:kitOne K (.type "int") (.ref C_qxj)=some false)
  (kt:kitOne K (.type "tuple") (.ref C_qxj)=some false)
  (Pt:kitOne K (.ref C_qxj) (.ref C_qxj)=some true)
  (PD:findIn K (.ref C_qxj) "__class__" = some (some (.builtin "object.__class__")))
  (QK:specialIn K (.builtin "object.__class__") "__get__" = some (some (.builtin "getset_descriptor.__get__")))
  (QA:takesIn K (.builtin "object.__class__")=some true)
  (Qk:mroIn K C_qxj (.type "object")=some true)
  (Oe:specialIn K (.builtin "object.__class__") "__get__" = some (some (.builtin "getset_descriptor.__get__")))
  (Nw:takesIn K (.builtin "object.__class__")=some true)
  (bH:findIn K (.ref C_qkk) "pieces" = some none)
  (cR:findIn K (.ref C_qkk) "reasons" = some none)
  (bF:findIn K (.ref C_qkk) "told_by_given" = some none)
  (bE:findIn K (.ref C_qkk) "on_shelves" = some none)
  (bq:findIn K (.ref C_qkk) "from_shelves" = some none)
  (dX:findIn K (.ref C_qkk) "unmet" = some none)
  (bS:findIn K (.ref C_qkv) "memory" = some none)
  (cn:findIn K (.ref C_qkv) "stretches" = some none)
  (dZ:findIn K (.ref C_qkv) "place" = some none)
  (ck:findIn K (.ref C_qkv) "registers" = some none)
  (cV:findIn K (.ref C_qkv) "numbers" = some none)
  (dR:findIn K (.ref C_qkv) "ended" = some none)
  (fL:findIn K (.ref C_qjq) "title" = some none)
  (eU:findIn K (.ref C_High) "title" = some none)
  (fN:findIn K (.ref C_Low) "title" = some none)
  (f_:findIn K (.ref C_qxj) "word" = some none)
  (fO:findIn K (.ref C_qxj) "title" = some none)
  (dW:findIn K (.ref C_qxj) "aimed" = some none)
  (BS:nsIn K mainGlobals "WORD_COUNT" = some (some (.int 4294967296 xB)))
  (k_:nsIn K mainGlobals "bool" = some none)
  (dz:nsIn K mainGlobals "enumerate" = some none)
  (iL:nsIn K mainGlobals "int" = some none)
  (aM:nsIn K mainGlobals "isinstance" = some none)
  (cL:nsIn K mainGlobals "len" = some none)
  (eF:nsIn K mainGlobals "list" = some none)
  (CU:nsIn K mainGlobals "max" = some none)
  (dM:nsIn K mainGlobals "range" = some none)
  (fD:nsIn K mainGlobals "reversed" = some none)
  (AA:nsIn K mainGlobals "set" = some none)
  (d_:nsIn K mainGlobals "sorted" = some none)
  (yC:nsIn K mainGlobals "str" = some none)
  (iq:nsIn K mainGlobals "tuple" = some none)
  (Cv:nsIn K mainGlobals "zip" = some none)
  (a_bm:nsIn K mainGlobals "__builtins__" = some (some (.ref bm)))
  (l_bm:Z2 K bm):
  ∃fd:FuncData,(∀(s:Shared) (v:Value),BindsTo s fd ⟨[v],[]⟩ [("_law_script", v)])/\∀base:Heap,K.In base->base.Ns mainGlobals mg->aY l.prog w K mg base cF 10 fa fd ["_law_script"] (p0 K br aN):=by
 have e:=hfa.symm.trans (mg_of X G a_law);cases e;obtain⟨_,Ap,mS⟩:=aR l_qkz;have mL:=Ap.binds (ps:=["number"]) λ_ _ _ _ _ _ us hl=>eD us hl λ_=>rfl;obtain⟨_,A8,BM⟩:=aR l_qyk;have B2:=A8.binds (ps:=["word", "low", "many", "number"]) λ_ _ _ _ _ _ us hl=>kC us hl λ_ _ _ _=>rfl;obtain⟨_,tD,vq⟩:=aR l_ones;have oX:=tD.binds (ps:=["many"]) λ_ _ _ _ _ _ us hl=>eD us hl λ_=>rfl;obtain⟨_,jU,jO⟩:=aR l_moved;have jT:=jU.binds (ps:=["number", "up"]) λ_ _ _ _ _ _ us hl=>pE us hl λ_ _=>rfl;obtain⟨_,j3,pB⟩:=aR l_tells;have qU:=j3.binds (ps:=["piece"]) λ_ _ _ _ _ _ us hl=>eD us hl λ_=>rfl;obtain⟨_,j0,pH⟩:=aR l_wants;have qg:=j0.binds (ps:=["piece"]) λ_ _ _ _ _ _ us hl=>eD us hl λ_=>rfl;obtain⟨_,_,_,_,_,_,_,_,_,l_qxx,e_qxx,Bx,h_qxx⟩:=l_qxx;have AW:=wU l_qxx e_qxx Bx;have HN:=AW.binds (ps:=["pieces"]) λ_ _ _ _ _ _ us hl=>eD us hl λ_=>rfl;obtain⟨_,Cw,Lp⟩:=aR l_qwk;have ET:=Cw.binds (ps:=["ordered"]) λ_ _ _ _ _ _ us hl=>eD us hl λ_=>rfl;obtain⟨_,qb,zV⟩:=aR l_aims;have zX:=qb.binds (ps:=["piece", "names", "fills"]) λ_ _ _ _ _ _ us hl=>zr us hl λ_ _ _=>rfl;obtain⟨_,A5,Fv⟩:=aR l_qkx;have FE:=A5.binds (ps:=["piece_name", "own", "names", "fill"]) λ_ _ _ _ _ _ us hl=>kC us hl λ_ _ _ _=>rfl;obtain⟨_,CA,m_⟩:=aR l_qzx
 have mO:=CA.binds (ps:=["piece", "told_by"]) λ_ _ _ _ _ _ us hl=>pE us hl λ_ _=>rfl;obtain⟨_,Bu,xY⟩:=aR l_qkw;have yR:=Bu.binds (ps:=["title"]) λ_ _ _ _ _ _ us hl=>eD us hl λ_=>rfl;obtain⟨_,AD,Oz⟩:=aR l_qqv;have ye:=AD.binds (ps:=["self", "title"]) λ_ _ _ _ _ _ us hl=>pE us hl λ_ _=>rfl;obtain⟨_,Am,Eo⟩:=aR l_qzz;have Jw:=Am.binds (ps:=["self", "word", "here", "there"]) λ_ _ _ _ _ _ us hl=>kC us hl λ_ _ _ _=>rfl;obtain⟨_,An,HG⟩:=aR l_qzy;have Ju:=An.binds (ps:=["self", "word", "here", "there"]) λ_ _ _ _ _ _ us hl=>kC us hl λ_ _ _ _=>rfl;obtain⟨_,Bi,Fn⟩:=aR l_qyv;have J7:=Bi.binds (ps:=["self", "word", "here", "there"]) λ_ _ _ _ _ _ us hl=>kC us hl λ_ _ _ _=>rfl;obtain⟨_,AH,HI⟩:=aR l_qzq;have IY:=AH.binds (ps:=["piece"]) λ_ _ _ _ _ _ us hl=>eD us hl λ_=>rfl;obtain⟨_,B0,K7⟩:=aR l_qwj;have FP:=B0.binds (ps:=["fills"]) λ_ _ _ _ _ _ us hl=>eD us hl λ_=>rfl;obtain⟨_,_,_,_,_,_,_,_,_,l_taken,e_taken,jP,h_taken⟩:=l_taken;have jM:=wU l_taken e_taken jP;have qE:=jM.binds (ps:=["given", "shelves", "entry"]) λ_ _ _ _ _ _ us hl=>zr us hl λ_ _ _=>rfl;obtain⟨_,Ba,Of⟩:=aR l_qqy;have Kx:=Ba.binds (ps:=["self", "given", "shelves", "entry"]) λ_ _ _ _ _ _ us hl=>kC us hl λ_ _ _ _=>rfl;obtain⟨_,B9,Et⟩:=aR l_qqq
 have EV:=B9.binds (ps:=["self"]) λ_ _ _ _ _ _ us hl=>eD us hl λ_=>rfl;obtain⟨_,AB,Ff⟩:=aR l_qqx;have Bz:=AB.binds (ps:=["self", "name", "by"]) λ_ _ _ _ _ _ us hl=>zr us hl λ_ _ _=>rfl;obtain⟨_,Ay,JZ⟩:=aR l_qxz;have Jp:=Ay.binds (ps:=["shelves"]) λ_ _ _ _ _ _ us hl=>eD us hl λ_=>rfl;obtain⟨_,Bd,Iv⟩:=aR l_qqz;have GI:=Bd.binds (ps:=["pieces"]) λ_ _ _ _ _ _ us hl=>eD us hl λ_=>rfl;obtain⟨_,Bq,Bm⟩:=aR l_qwq;have Bv:=Bq.binds (ps:=["pieces"]) λ_ _ _ _ _ _ us hl=>eD us hl λ_=>rfl;obtain⟨_,A0,Oc⟩:=aR l_qqw;have Fg:=A0.binds (ps:=["self", "word", "title", "aimed"]) λ_ _ _ _ _ _ us hl=>kC us hl λ_ _ _ _=>rfl;obtain⟨_,CB,A2⟩:=aR l_qky;have Cg:=CB.binds (ps:=["value"]) λ_ _ _ _ _ _ us hl=>eD us hl λ_=>rfl;obtain⟨_,BN,yI⟩:=aR l_qxk;have xP:=BN.binds (ps:=["aimed"]) λ_ _ _ _ _ _ us hl=>eD us hl λ_=>rfl;obtain⟨_,AZ,lX⟩:=aR l_qwy;have mU:=AZ.binds (ps:=["value"]) λ_ _ _ _ _ _ us hl=>eD us hl λ_=>rfl;obtain⟨_,B8,KL⟩:=aR l_qxv;have HU:=B8.binds (ps:=["word", "title", "aimed"]) λ_ _ _ _ _ _ us hl=>zr us hl λ_ _ _=>rfl;obtain⟨_,CG,NI⟩:=aR l_qqj;have JB:=CG.binds (ps:=["self", "given", "shelves", "entry", "registers"]) λ_ _ _ _ _ _ us hl=>Rx us hl λ_ _ _ _ _=>rfl;obtain⟨_,Bl,JM⟩:=aR l_qwz
 have HQ:=Bl.binds (ps:=["self", "piece", "names"]) λ_ _ _ _ _ _ us hl=>zr us hl λ_ _ _=>rfl;obtain⟨_,CL,Eh⟩:=aR l_qzj;have AO:=CL.binds (ps:=["self"]) λ_ _ _ _ _ _ us hl=>eD us hl λ_=>rfl;obtain⟨_,BJ,Gz⟩:=aR l_qqk;have JW:=BJ.binds (ps:=["self", "piece", "stretch", "offset"]) λ_ _ _ _ _ _ us hl=>kC us hl λ_ _ _ _=>rfl;obtain⟨_,CD,mC⟩:=aR l_qwx;have me:=CD.binds (ps:=["_law_script", "_law_k"]) λ_ _ _ _ _ _ us hl=>pE us hl λ_ _=>rfl;obtain⟨_,AI,ix⟩:=aR l_qwv;have iI:=AI.binds (ps:=["_law_cell", "_law_k"]) λ_ _ _ _ _ _ us hl=>pE us hl λ_ _=>rfl;obtain⟨_,Cq,FL⟩:=aR l_qww;have E9:=Cq.binds (ps:=["_law_cell", "_law_names_by"]) λ_ _ _ _ _ _ us hl=>pE us hl λ_ _=>rfl;obtain⟨_,Bt,Fm⟩:=aR l_qzw;have Iy:=Bt.binds (ps:=["_law_pieces", "_law_cell", "_law_names_by", "_law_strict"]) λ_ _ _ _ _ _ us hl=>kC us hl λ_ _ _ _=>rfl;obtain⟨_,Cj,FC⟩:=aR l_qyx;have JR:=Cj.binds (ps:=["_law_cells", "_law_names_by", "_law_titles_by", "_law_strict"]) λ_ _ _ _ _ _ us hl=>kC us hl λ_ _ _ _=>rfl;obtain⟨_,CP,GK⟩:=aR l_qxw;have GB:=CP.binds (ps:=["_law_piece"]) λ_ _ _ _ _ _ us hl=>eD us hl λ_=>rfl;obtain⟨_,CM,yp⟩:=aR l_qxq;have xH:=CM.binds (ps:=["_law_found"]) λ_ _ _ _ _ _ us hl=>eD us hl λ_=>rfl;obtain⟨_,Bj,xC⟩:=aR l_qyz
 have yt:=Bj.binds (ps:=["_law_found", "_law_due_here"]) λ_ _ _ _ _ _ us hl=>pE us hl λ_ _=>rfl;obtain⟨_,AR,Cn⟩:=aR l_qzv;have CN:=AR.binds (ps:=["_law_found", "_law_due_here"]) λ_ _ _ _ _ _ us hl=>pE us hl λ_ _=>rfl;obtain⟨_,AS,Ak⟩:=aR l_qyq;have BD:=AS.binds (ps:=["_law_found", "_law_spot", "_law_row", "_law_told", "_law_ended"]) λ_ _ _ _ _ _ us hl=>Rx us hl λ_ _ _ _ _=>rfl;obtain⟨_,Cb,Fl⟩:=aR l_qxy;have Gu:=Cb.binds (ps:=["_law_names_by", "_law_titles_by"]) λ_ _ _ _ _ _ us hl=>pE us hl λ_ _=>rfl;obtain⟨_,BK,Lh⟩:=aR l_qyy;have E2:=BK.binds (ps:=["_law_pieces"]) λ_ _ _ _ _ _ us hl=>eD us hl λ_=>rfl;obtain⟨_,CO,FY⟩:=aR l_qzk;have EF:=CO.binds (ps:=["_law_word", "_law_rule", "_law_add"]) λ_ _ _ _ _ _ us hl=>zr us hl λ_ _ _=>rfl;obtain⟨_,BH,JK⟩:=aR l_qkq;have FR:=BH.binds (ps:=["_law_piece", "_law_some", "_law_word", "_law_fill"]) λ_ _ _ _ _ _ us hl=>kC us hl λ_ _ _ _=>rfl;obtain⟨_,Bo,CS⟩:=aR l_qyj;have BV:=Bo.binds (ps:=["_law_machine", "_law_pieces", "_law_some"]) λ_ _ _ _ _ _ us hl=>zr us hl λ_ _ _=>rfl;obtain⟨_,_,_,_,_,_,_,_,_,l_law,e_law,K_⟩:=l_law;have A3:=wU l_law e_law K_;have NZ:=A3.binds (ps:=["_law_script"]) λ_ _ _ _ _ _ us hl=>eD us hl λ_=>rfl;obtain⟨_,n1_bm,n2_bm,l_bm⟩:=l_bm
 have T:Txt K mg { Sm:=f_qkz,nT:=_,SH:=f_qyk,nA:=_,ones:=f_ones,jZ:=_,moved:=f_moved,iw:=_,tells:=f_tells,iD:=_,wants:=f_wants,ik:=_,Rw:=f_qxx,ly:=_,Rt:=f_qwk,qJ:=_,Kz:=f_aims,jS:=_,Tb:=f_qkx,vf:=_,Vq:=f_qzx,qp:=_,Vk:=f_qkw,sX:=_,Pg:=f_qqv,vc:=_,Ub:=f_qzz,uz:=_,S_:=f_qzy,ve:=_,RB:=f_qyv,qz:=_,RY:=f_qzq,wF:=_,Ug:=f_qwj,s_:=_,taken:=f_taken,gD:=_,Ry:=f_qqy,sP:=_,Ut:=f_qqq,nY:=_,Ui:=f_qqx,oO:=_,UM:=f_qxz,wq:=_,S4:=f_qqz,oJ:=_,RN:=f_qwq,r_:=_,UG:=f_qqw,rA:=_,SS:=f_qky,oS:=_,TY:=f_qxk,oG:=_,RG:=f_qwy,rg:=_,SR:=f_qxv,tH:=_,RM:=f_qqj,vJ:=_,Sv:=f_qwz,uF:=_,RS:=f_qzj,vP:=_,RF:=f_qqk,tS:=_,Tq:=f_qwx,wg:=_,Vy:=f_qwv,sk:=_,Tx:=f_qww,o7:=_,UE:=f_qzw,rK:=_,SU:=f_qyx,rq:=_,Sn:=f_qxw,nu:=_,U9:=f_qxq,um:=_,UO:=f_qyz,rB:=_,Vn:=f_qzv,uK:=_,UY:=f_qyq,vY:=_,Tg:=f_qxy,se:=_,Uj:=f_qyy,wJ:=_,RL:=f_qzk,q_:=_,TN:=f_qkq,xh:=_,Sl:=f_qyj,uZ:=_,RT:=fa,sV:=_,xB:=xB,fQ:=C_High,iC:=C_Low,cu:=C_qkv,aG:=C_qkk,iH:=C_qjq,cQ:=C_qxj,br:=br,aN:=aN }:={
  yM:=mg_of X G a_qkz
  mS,
  mL,
  Ap,
  Iq:=mg_of X G a_qyk
  BM,
  B2,
  A8,
  zT:=mg_of X G a_ones
  vq,
  oX,
  tD,
  pI:=mg_of X G a_moved
  jO,
  jT,
  jU,
  AM:=mg_of X G a_tells
  pB,
  qU,
  j3,
  Ax:=mg_of X G a_wants
  pH,
  qg,
  j0,
  Ko:=⟨_,rfl,h_qxx⟩
  NW:=mg_of X G a_qxx
  Bx,
  HN,
  AW,
  Oi:=mg_of X G a_qwk
  Lp,
  ET,
  Cw,
  IL:=mg_of X G a_aims
  zV,
  zX,
  qb,
  NQ:=mg_of X G a_qkx
  Fv,
  FE,
  A5,
  yN:=mg_of X G a_qzx
  m_,
  mO,
  CA,
  BX:=mg_of X G a_qkw
  xY,
  yR,
  Bu,
  Oz,
  ye,
  AD,
  Eo,
  Jw,
  Am,
  HG,
  Ju,
  An,
  Fn,
  J7,
  Bi,
  Nu:=mg_of X G a_qzq
  HI,
  IY,
  AH,
  NX:=mg_of X G a_qwj
  K7,
  FP,
  B0,
  xW:=⟨_,rfl,h_taken⟩
  CJ:=mg_of X G a_taken
  jP,
  qE,
  jM,
  Of,
  Kx,
  Ba,
  Et,
  EV,
  B9,
  Ff,
  Bz,
  AB,
  Oo:=mg_of X G a_qxz
  JZ,
  Jp,
  Ay,
  Oa:=mg_of X G a_qqz
  Iv,
  GI,
  Bd,
  Lx:=mg_of X G a_qwq
  Bm,
  Bv,
  Bq,
  Oc,
  Fg,
  A0,
  Gn:=mg_of X G a_qky
  A2,
  Cg,
  CB,
  B1:=mg_of X G a_qxk
  yI,
  xP,
  BN,
  xD:=mg_of X G a_qwy
  lX,
  mU,
  AZ,
  Og:=mg_of X G a_qxv
  KL,
  HU,
  B8,
  NI,
  JB,
  CG,
  JM,
  HQ,
  Bl,
  Eh,
  AO,
  CL,
  Gz,
  JW,
  BJ,
  xT:=mg_of X G a_qwx
  mC,
  me,
  CD,
  jx:=mg_of X G a_qwv
  ix,
  iI,
  AI,
  Ox:=mg_of X G a_qww
  FL,
  E9,
  Cq,
  Nv:=mg_of X G a_qzw
  Fm,
  Iy,
  Bt,
  Nn:=mg_of X G a_qyx
  FC,
  JR,
  Cj,
  NK:=mg_of X G a_qxw
  GK,
  GB,
  CP,
  By:=mg_of X G a_qxq
  yp,
  xH,
  CM,
  BY:=mg_of X G a_qyz
  xC,
  yt,
  Bj,
  IT:=mg_of X G a_qzv
  Cn,
  CN,
  AR,
  Fo:=mg_of X G a_qyq
  Ak,
  BD,
  AS,
  Nj:=mg_of X G a_qxy
  Fl,
  Gu,
  Cb,
  Od:=mg_of X G a_qyy
  Lh,
  E2,
  BK,
  N0:=mg_of X G a_qzk
  FY,
  EF,
  CO,
  N_:=mg_of X G a_qkq
  JK,
  FR,
  BH,
  KH:=mg_of X G a_qyj
  CS,
  BV,
  Bo,
  Ua:=mg_of X G a_law
  K_,
  NZ,
  A3,
  BS:=mg_of X G BS
  bm:=⟨bm,_,mg_of X G a_bm,n1_bm,n2_bm,l_bm⟩
  k_:=mg_none_of X G k_
  dz:=mg_none_of X G dz
  iL:=mg_none_of X G iL
  aM:=mg_none_of X G aM
  cL:=mg_none_of X G cL
  eF:=mg_none_of X G eF
  CU:=mg_none_of X G CU
  dM:=mg_none_of X G dM
  fD:=mg_none_of X G fD
  AA:=mg_none_of X G AA
  d_:=mg_none_of X G d_
  yC:=mg_none_of X G yC
  iq:=mg_none_of X G iq
  Cv:=mg_none_of X G Cv
  B5:=mg_of X G ac_High
  rJ:=⟨pg_High,hd_High,po_High,sa_High⟩
  KA:=mg_of X G ac_Low
  zB:=⟨pg_Low,hd_Low,po_Low,sa_Low⟩
  HH:=mg_of X G ac_qkv
  bO:=⟨pg_qkv,hd_qkv,po_qkv,sa_qkv⟩
  Hs:=mg_of X G ac_qkk
  bG:=⟨pg_qkk,hd_qkk,po_qkk,sa_qkk⟩
  G3:=mg_of X G ac_qjq
  Af:=⟨pg_qjq,hd_qjq,po_qjq,sa_qjq⟩
  zp:=mg_of X G ac_qxj
  kK:=⟨pg_qxj,hd_qxj,po_qxj,sa_qxj⟩
  kw,
  kt,
  Pt,
  PD,
  QK,
  QA,
  Qk,
  Oe,
  Nw,
  Ao:=⟨mm_High,a_qqv,i_qqv,kc_High⟩
  HP:=⟨mm_Low,fi_Low,i_qqv,kc_Low⟩
  F1:=⟨mm_qkv,a_qqj,i_qqj,kc_qkv⟩
  KN:=⟨mm_qkk,a_qqy,i_qqy,kc_qkk⟩
  Lz:=⟨mm_qjq,fi_qjq,i_qqv,kc_qjq⟩
  Kh:=⟨mm_qxj,a_qqw,i_qqw,kc_qxj⟩
  G1:=⟨a_qzy,i_qzy,HG⟩
  K0:=⟨a_qyv,i_qyv,Fn⟩
  zw:=⟨a_qzj,i_qzj,Eh⟩
  Kd:=⟨a_qwz,i_qwz,JM⟩
  Fe:=⟨a_qqk,i_qqk,Gz⟩
  zL:=⟨a_qqx,i_qqx,Ff⟩
  GH:=⟨a_qqq,i_qqq,Et⟩
  Fc:=⟨a_qzz,i_qzz,Eo⟩
  bH,
  cR,
  bF,
  bE,
  bq,
  dX,
  bS,
  cn,
  dZ,
  ck,
  cV,
  dR,
  fL,
  eU,
  fN,
  f_,
  fO,
  dW:=dW }
 exact⟨_,λs v=>.of_eq rfl,λbase _ _=>Tt T⟩
theorem walk{l:PySem.W.OpenLaw}{q:Program}{loose:List Str}{XP:(Str->Option Value)->Heap->Prop}{YP:World->Heap->Prop}{d:DefRec}{K:Params->Wf}{br aN:Addr}(hn:l.most=some 63)(hdf:d.params.defaults=[])(hne:br≠aN)
  (hY:∀(w:World) (h:Heap),YP w h->(K w.params).In h)
  (hT:∀(w:World) (h:Heap) (lo:List Str) (mean:ExcName->Option Value) (mg mb:So),(K w.params).In h->Top q lo mean mg mb h->∀T∈[br,aN],GS (K w.params) h T)
  (F:∀(w:World) (mg:So) (fa:Addr) (h:Heap),(K w.params).In h->h.Ns mainGlobals mg->mg d.name=some (.ref fa)->
   ∃fd:FuncData,(∀(s:Shared) (u:Value),BindsTo s fd ⟨[u],[]⟩ [("_law_script", u)])/\∀base:Heap,(K w.params).In base->base.Ns mainGlobals mg->aY l.prog w (K w.params) mg base cF 10 fa fd ["_law_script"] (p0 (K w.params) br aN)):
  PySem.W.WalkO q loose XP YP l.row.toRowW d [] (λf vs=>PySem.call f vs):=
 L2.Ll (n:=63) (k:=10) (x := "_law_script") (CX:=λ_=>cF) (sp:=λw=>p0 (K w.params) br aN) hn (by decide) hdf ⟨rfl,by decide,by decide⟩ hY hT F (λ_ _ a ns hl hE hS=>⟨a,ns,rfl,hS,hl,hE _ (by simp),hE _ (by simp),hne,λ_=>rfl⟩) λ_ _ _ _ _ z=>z
end My
namespace Hd
open PySem PySem.W PySem.Calls PyProof.Rows
variable(P:Params)
abbrev pw:Program:=PySem.Challenge.pw_joinload_k60_what_is_there_at_first
def T(i:Nat):Stmt:=My.top i
def C(i j:Nat):Stmt:=L2.inClass (My.top i) j
abbrev k(P:Params)(x:Str)(t:Tok)(v:Value):DictEntry:=⟨PyData.keyHash P x,.str x t,v⟩
abbrev fn(s:Stmt)(x q:Str)(dV kV doc pm:Value)(an:Option Addr)(cd ct:Value):FuncData:=fnOf x q (L2.fz s) (L2.dU s) (L2.ag s) dV kV doc pm an cd ct
abbrev e1:Obj:=⟨.type "tuple", none,.seq #[] 0,#[]⟩
abbrev e2:Obj:=⟨.none,none,.fields #[],#[]⟩
abbrev bp:Obj:=⟨.type "builtin_function_or_method", none,.fields #[.builtin "type.__prepare__", .type "type"],#[]⟩
abbrev tu(x:Array Value):Obj:=⟨.type "tuple", none,.seq x 0,#[]⟩
abbrev nf(x:Array Value):Obj:=⟨.none,none,.fields x,#[]⟩
abbrev bs(a:Addr):Obj:=⟨.type "builtin_function_or_method", none,.fields #[.builtin "object.__init_subclass__", .ref a],#[]⟩
abbrev su(a:Addr):Obj:=⟨.type "super", none,.fields #[.ref a,.ref a,.ref a],#[]⟩
abbrev co(x q:Str)(t:Nat)(l a b:Int)(r:Addr)(o:Bool)(r2:Addr)(v:Value)(u:Nat):Obj:=⟨.type "code", none,.fields #[.str x t,.str q (t+1),.str "/claim/cut.py" (t+2),.int l 0,.int a 0,.int 0 0,.int 0 0,.int b 0,.ref r,.bool o,.int 181 0,.ref r2,.none,.none,.none,v,.int (Int.ofNat u) 0,.int l 0,.str "/claim/cut.py" (u+1)],#[]⟩
abbrev cf(x q:Str)(t:Nat)(l a:Int)(r u:Nat):Obj:=⟨.type "code", none,.fields #[.str x t,.str q (t+1),.str "/claim/cut.py" (t+2),.int l 0,.int a 0,.int 0 0,.int 0 0,.int 3 0,.ref r,.bool true,.int 181 0,.ref (r+1),.none,.ref (r+2),.ref (r+3),.ref (r+4),.int (Int.ofNat u) 0,.int l 0,.str "/claim/cut.py" (u+1)],#[]⟩
abbrev cc(x:Str)(b:Value)(s:Addr)(m:List Value)(d:Addr)(l:List Value)(o:Option Value)(t u:Nat)(n:String):Obj:=⟨.type "type", none,.cls ⟨x,[b],.ref s::m,d,x,true,[],l,false,none,false⟩,#[o,none,some (.str x t),some (.str x u),some (.builtin n),some (.bool true)]⟩
def nl:List Nat->List Value
 |a::b::c::r=>.int (Int.ofNat a) 0::.int (Int.ofNat b) 0::.ref c::nl r
 |_=>[]
abbrev fm(a b:Addr)(v:Value):Obj:=⟨.type "frame", none,.plain,#[some (.ref a),some (.ref 3),some (.ref b),none,some v,none,some (.ref 0)]⟩
abbrev fo(s:Stmt)(x q m:Str)(t:Nat)(c:Addr):Obj:=⟨.type "function", none,.func (fn s x q .none .none .none (.str m t) none (.ref c) .none),#[]⟩
abbrev ft(s:Stmt)(x q:Str):Obj:=⟨.none,none,.func { fn s x q .none .none .none .none none .none .none with globals:=0,closure:=[],builtins:=0 },#[]⟩
abbrev di(l:List DictEntry)(n:Nat):Obj:=⟨.type "dict", none,.dict l.toArray n,#[]⟩
def sv:List DictEntry->Nat->Value->List DictEntry
 |[],_,_=>[]
 |e::r,0,v=>⟨e.hash,e.key,v⟩::r
 |e::r,n+1,v=>e::sv r n v
def od:List (Nat×Obj)->List (Nat×Obj)
 |[]=>[]
 | (i,o)::r=>match Nat.beq (i % 2) 1 with
  |true=>(i / 2,o)::od r
  |false=>od r
def ev:List (Nat×Obj)->List (Nat×Obj)
 |[]=>[]
 | (i,o)::r=>match Nat.beq i 0 with
  |true=>ev r
  |false=>match Nat.beq (i % 2) 1 with
   |true=>ev r
   |false=>(i / 2 - 1,o)::ev r
def Rp(v:Obj):List (Nat×Obj)->Obj
 |[]=>v
 | (i,o)::r=>match Nat.beq i 0 with
  |true=>o
  |false=>Rp v r
def mg:Nat->BT->List (Nat×Obj)->BT
 |0,t,_=>t
 |f+1,t,d=>match d with
  |[]=>t
  |x::r=>match t with
   |.nil=>.node (Rp default (x::r)) (mg f .nil (od (x::r))) (mg f .nil (ev (x::r)))
   |.node v a b=>.node (Rp v (x::r)) (mg f a (od (x::r))) (mg f b (ev (x::r)))
def bd:List Stmt:=behindTheImports pw
def en:Env:={ scope:=pw.main.scope,locals:=mainNs,globals:=mainNs,cells:=[],code:=(.ref 13),frame:=some 14 }
abbrev cE:Code:=.body bd en
abbrev B:List Frame:=[topFrame ⟨0,0,0,0⟩]
def li:Life:={ registered:=[],finalised:=[],alive:=[],known:=0,ids:=[],orphanDicts:=[],counting:=false,cnt:=⟨[]⟩,zero:=[],soft:=0,below:=false,collecting:=false,loading:=false,debug:=0,thresholds:=[2000,10,10],woke:=false,asked:=0,gcEnabled:=true,old:=[],middle:=[],young:=0,intoMiddle:=false }
abbrev an:Option Value:=(some (.ref 6))
abbrev sT(t:BT)(n k:Nat)(os:OsState):SharedT:=⟨t,n,li,⟨[]⟩,boot_drawn,k,os⟩
abbrev sR(w:World)(n:Nat)(S S':World->OsState->SharedT)(l:List Stmt)(p p':Pos):Prop:=(λos=>segRunT treeTable pw w 11 an 1 n (S w os) (piecesOf l en cE p B))=λos=>some (.next,S' w os,cE,p')
def Im:Obj:=co "<module>" "<module>" 182 1 0 0 11 false 12 .none 185
def EH:Obj:=fm 13 3 (.str "__main__" 164)
def Ha(P:Params):Heap:=⟨⟨boot_o_0 P::boot_o_1 P::boot_o_2 P::boot_o_3 P::boot_o_4 P::boot_o_5 P::boot_o_6 P::boot_o_7 P::boot_o_8 P::boot_o_9 P::boot_o_10 P::e1::e2::Im::EH::[]⟩,li⟩
def S0(w:World)(os:OsState):Shared:=⟨boot_heap w.params,⟨[]⟩,boot_drawn,boot_toks,os⟩
def Sa(w:World)(os:OsState):Shared:=⟨Ha w.params,⟨[]⟩,boot_drawn,187,os⟩
def Pre(w:World):Prop:=(λos=>topGo treeTable pw w 11 an 12 (S0 w os) (topStub pw))=λos=>some (Sa w os,⟨denote treeTable cE,cE,⟨0,0,0,0⟩,B⟩)
def D0(P:Params):List (Nat×Obj):=(0,boot_o_0 P)::(1,boot_o_1 P)::(2,boot_o_2 P)::(3,boot_o_3 P)::(4,boot_o_4 P)::(5,boot_o_5 P)::(6,boot_o_6 P)::(7,boot_o_7 P)::(8,boot_o_8 P)::(9,boot_o_9 P)::(10,boot_o_10 P)::(11,e1)::(12,e2)::(13,Im)::(14,EH)::[]
def T0(P:Params):BT:=mg 14 .nil (D0 P)
def Xr(w:World):OsState->SharedT:=sT (T0 w.params) 15 187
def Ys(w:World):Prop:=(λos=>segRun treeTable pw w 11 an 1 1 (Sa w os) (blockOf bd en cE ⟨0,0,0,0⟩ B))=λos=>some (.next,(Xr w os).abs,cE,⟨0,0,0,0⟩)
def VA(P:Params):List DictEntry:=[k P "__name__" 165 (.str "joinload.errors" 231),k P "__doc__" 166 .none,k P "__package__" 167 .none,k P "__loader__" 168 (.builtin "__main__.__loader__#opaque"),k P "__spec__" 169 .none,k P "__annotations__" 170 (.ref 6),k P "__builtins__" 171 (.ref 4),k P "__file__" 173 (.str "/claim/cut.py" 172),k P "__cached__" 174 .none,k P "_wall" 193 (.ref 21),k P "WORD_COUNT" 197 (.int 4294967296 196),k P "wrapped" 204 (.ref 28),k P "with_field" 215 (.ref 35),k P "ones" 222 (.ref 42),k P "moved" 230 (.ref 49),k P "JoinError" 250 (.ref 59),k P "NoRule" 266 (.ref 72),k P "Twice" 295 (.ref 91)]
def XH:Obj:=⟨(.type "dict"),none,.dict (VA P).toArray 18,#[]⟩
def US:Obj:=nf (nl [1,0,20,6,0,27,8,0,34,11,0,41,13,0,48,18,0,55,20,0,68,22,0,80]).toArray
def BW:Obj:=tu #[.str "k" 190]
def NJ:Obj:=ft (T 0) "_wall" "_wall"
def Bn:Obj:=cf "_wall" "_wall" 187 1 1 15 191
def A6:Obj:=fo (T 0) "_wall" "_wall" "__main__" 164 20
def B3:Obj:=tu #[.str "number" 201]
def N6:Obj:=ft (T 3) "wrapped" "wrapped"
def CC:Obj:=cf "wrapped" "wrapped" 198 6 1 22 202
def Bh:Obj:=fo (T 3) "wrapped" "wrapped" "joinload.bits" 194 27
def Cc:Obj:=tu #[.str "word" 208,.str "low" 209,.str "many" 210,.str "number" 211,.str "others" 212]
def NM:Obj:=ft (T 4) "with_field" "with_field"
def Bp:Obj:=cf "with_field" "with_field" 205 8 4 29 213
def Cz:Obj:=fo (T 4) "with_field" "with_field" "joinload.bits" 194 34
def BI:Obj:=tu #[.str "many" 219]
def Oq:Obj:=ft (T 5) "ones" "ones"
def Cf:Obj:=cf "ones" "ones" 216 11 1 36 220
def AL:Obj:=fo (T 5) "ones" "ones" "joinload.bits" 194 41
def Be:Obj:=tu #[.str "number" 226,.str "up" 227]
def NL:Obj:=ft (T 6) "moved" "moved"
def Aj:Obj:=cf "moved" "moved" 223 13 2 43 228
def Cr:Obj:=fo (T 6) "moved" "moved" "joinload.bits" 194 48
def Ng:=di [k P "__module__" 240 (.str "joinload.errors" 231),k P "__qualname__" 242 (.str "JoinError" 241),k P "__firstlineno__" 244 (.int 18 243),k P "__static_attributes__" 245 (.ref 57)] 4
def NB:Obj:=co "JoinError" "JoinError" 235 18 0 0 53 false 54 .none 238
def Nr:Obj:=fm 55 52 (.str "joinload.errors" 231)
def AQ:=di [k P "__module__" 240 (.str "joinload.errors" 231),k P "__firstlineno__" 244 (.int 18 243),k P "__static_attributes__" 245 (.ref 57),k P "__weakref__" 247 (.ref 60),k P "__doc__" 248 .none] 3
def To:Obj:=cc "JoinError" (.type "ValueError") 59 [.type "ValueError",.type "Exception",.type "BaseException",.type "object"] 58 [.ref 72,.ref 91] (some (.ref 50)) 233 241 "ValueError.__new__"
def Aq:Obj:=⟨(.type "getset_descriptor"),none,(.fields #[.str "__weakref__" 246,.ref 59,.builtin "ExceptionGroup.__weakref__",.none]),#[]⟩
def NV:=di [k P "__module__" 258 (.str "joinload.errors" 231),k P "__qualname__" 260 (.str "NoRule" 259),k P "__firstlineno__" 262 (.int 20 261),k P "__static_attributes__" 263 (.ref 70)] 4
def Ow:Obj:=co "NoRule" "NoRule" 253 20 0 0 66 false 67 .none 256
def Nh:Obj:=fm 68 65 (.str "joinload.errors" 231)
def AK:=di [k P "__module__" 258 (.str "joinload.errors" 231),k P "__firstlineno__" 262 (.int 20 261),k P "__static_attributes__" 263 (.ref 70),k P "__doc__" 264 .none] 2
def As:Obj:=cc "NoRule" (.ref 59) 72 [.ref 59,.type "ValueError",.type "Exception",.type "BaseException",.type "object"] 71 [] (some (.ref 63)) 251 259 "ValueError.__new__"
def Ny:=di [k P "__module__" 274 (.str "joinload.errors" 231),k P "__qualname__" 276 (.str "Twice" 275),k P "__firstlineno__" 278 (.int 22 277),k P "__init__" 288 (.ref 88),k P "__static_attributes__" 292 (.ref 89)] 5
def Ob:Obj:=nf (nl [24,4,87]).toArray
def NS:Obj:=co "Twice" "Twice" 269 22 0 0 78 false 79 .none 272
def Nt:Obj:=fm 80 77 (.str "joinload.errors" 231)
def B_:Obj:=tu #[.str "self" 282,.str "name" 283,.str "one" 284,.str "other" 285]
def N3:Obj:=ft (C 10 0) "__init__" "Twice.__init__"
def BQ:Obj:=cf "__init__" "Twice.__init__" 279 24 4 82 286
def AY:Obj:=fo (C 10 0) "__init__" "Twice.__init__" "joinload.errors" 231 87
def CT:Obj:=tu #[.str "name" 289,.str "one" 290,.str "other" 291]
def BP:=di [k P "__module__" 274 (.str "joinload.errors" 231),k P "__firstlineno__" 278 (.int 22 277),k P "__init__" 288 (.ref 88),k P "__static_attributes__" 292 (.ref 89),k P "__doc__" 293 .none] 2
def Bf:Obj:=cc "Twice" (.ref 59) 91 [.ref 59,.type "ValueError",.type "Exception",.type "BaseException",.type "object"] 90 [] (some (.ref 75)) 267 275 "ValueError.__new__"
def WC(P:Params)(r:List (Nat×Obj)):List (Nat×Obj):=(3,XH P)::(12,US)::(15,e1)::(16,e2)::(17,BW)::(18,e1)::(19,NJ)::(20,Bn)::(21,A6)::(22,e1)::(23,e2)::(24,B3)::(25,e1)::(26,N6)::(27,CC)::(28,Bh)::(29,e1)::(30,e2)::(31,Cc)::(32,e1)::(33,NM)::(34,Bp)::(35,Cz)::(36,e1)::r
def WN(P:Params)(r:List (Nat×Obj)):List (Nat×Obj):=(37,e2)::(38,BI)::(39,e1)::(40,Oq)::(41,Cf)::(42,AL)::(43,e1)::(44,e2)::(45,Be)::(46,e1)::(47,NL)::(48,Aj)::(49,Cr)::(50,tu #[.type "ValueError"])::(51,bp)::(52,Ng P)::(53,e1)::(54,e2)::(55,NB)::(56,Nr)::(57,e1)::(58,AQ P)::(59,To)::(60,Aq)::r
def WU(P:Params)(r:List (Nat×Obj)):List (Nat×Obj):=(61,su 59)::(62,bs 59)::(63,tu #[.ref 59])::(64,bp)::(65,NV P)::(66,e1)::(67,e2)::(68,Ow)::(69,Nh)::(70,e1)::(71,AK P)::(72,As)::(73,su 72)::(74,bs 72)::(75,tu #[.ref 59])::(76,bp)::(77,Ny P)::(78,e1)::(79,Ob)::(80,NS)::(81,Nt)::(82,e1)::(83,e2)::(84,B_)::r
def Wb(P:Params)(r:List (Nat×Obj)):List (Nat×Obj):=(85,e1)::(86,N3)::(87,BQ)::(88,AY)::(89,CT)::(90,BP P)::(91,Bf)::(92,su 91)::(93,bs 91)::r
def T1(P:Params):BT:=mg 14 (T0 P) (WC P (WN P (WU P (Wb P ([])))))
def YZ(w:World):OsState->SharedT:=sT (T1 w.params) 94 296
def L0:List Stmt:=My.top 0::My.top 1::My.top 2::My.top 3::My.top 4::My.top 5::My.top 6::My.top 7::My.top 8::My.top 9::My.top 10::[]
def P0(w:World):Prop:=sR w 826 Xr YZ L0 ⟨0,0,0,0⟩ ⟨22,0,28,26⟩
def UP(P:Params):List DictEntry:=sv (VA P) 0 (.str "joinload.names" 364)++[k P "SameName" 320 (.ref 110),k P "Unmet" 347 (.ref 129),k P "NoSense" 363 (.ref 141),k P "tells" 371 (.ref 148),k P "wants" 389 (.ref 155),k P "names_of" 400 (.ref 162),k P "refuse_twice" 406 (.ref 167),k P "aims" 412 (.ref 172)]
def Ws:Obj:=⟨(.type "dict"),none,.dict (UP P).toArray 26,#[]⟩
def Vd:Obj:=nf (nl [1,0,20,6,0,27,8,0,34,11,0,41,13,0,48,18,0,55,20,0,68,22,0,80,29,0,99,34,0,118,40,0,137,43,0,147,45,0,154,53,0,161,61,0,166,70,0,171]).toArray
def Bc:Obj:=cc "JoinError" (.type "ValueError") 59 [.type "ValueError",.type "Exception",.type "BaseException",.type "object"] 58 [.ref 72,.ref 91,.ref 110,.ref 129,.ref 141] (some (.ref 50)) 233 241 "ValueError.__new__"
def NU:=di [k P "__module__" 303 (.str "joinload.errors" 231),k P "__qualname__" 305 (.str "SameName" 304),k P "__firstlineno__" 307 (.int 29 306),k P "__init__" 315 (.ref 107),k P "__static_attributes__" 317 (.ref 108)] 5
def Oy:Obj:=nf (nl [31,4,106]).toArray
def NA:Obj:=co "SameName" "SameName" 298 29 0 0 97 false 98 .none 301
def FV:Obj:=fm 99 96 (.str "joinload.errors" 231)
def uH:Obj:=tu #[.str "self" 311,.str "name" 312]
def E5:Obj:=ft (C 11 0) "__init__" "SameName.__init__"
def oQ:Obj:=cf "__init__" "SameName.__init__" 308 31 2 101 313
def vA:Obj:=fo (C 11 0) "__init__" "SameName.__init__" "joinload.errors" 231 106
def qR:Obj:=tu #[.str "name" 316]
def sJ:=di [k P "__module__" 303 (.str "joinload.errors" 231),k P "__firstlineno__" 307 (.int 29 306),k P "__init__" 315 (.ref 107),k P "__static_attributes__" 317 (.ref 108),k P "__doc__" 318 .none] 2
def pV:Obj:=cc "SameName" (.ref 59) 110 [.ref 59,.type "ValueError",.type "Exception",.type "BaseException",.type "object"] 109 [] (some (.ref 94)) 296 304 "ValueError.__new__"
def Lq:=di [k P "__module__" 328 (.str "joinload.errors" 231),k P "__qualname__" 330 (.str "Unmet" 329),k P "__firstlineno__" 332 (.int 34 331),k P "__init__" 341 (.ref 126),k P "__static_attributes__" 344 (.ref 127)] 5
def Kv:Obj:=nf (nl [36,4,125]).toArray
def Jj:Obj:=co "Unmet" "Unmet" 323 34 0 0 116 false 117 .none 326
def Lb:Obj:=fm 118 115 (.str "joinload.errors" 231)
def oM:Obj:=tu #[.str "self" 336,.str "name" 337,.str "piece" 338]
def Er:Obj:=ft (C 12 0) "__init__" "Unmet.__init__"
def o6:Obj:=cf "__init__" "Unmet.__init__" 333 36 3 120 339
def qv:Obj:=fo (C 12 0) "__init__" "Unmet.__init__" "joinload.errors" 231 125
def ou:Obj:=tu #[.str "name" 342,.str "piece" 343]
def qM:=di [k P "__module__" 328 (.str "joinload.errors" 231),k P "__firstlineno__" 332 (.int 34 331),k P "__init__" 341 (.ref 126),k P "__static_attributes__" 344 (.ref 127),k P "__doc__" 345 .none] 2
def sZ:Obj:=cc "Unmet" (.ref 59) 129 [.ref 59,.type "ValueError",.type "Exception",.type "BaseException",.type "object"] 128 [] (some (.ref 113)) 321 329 "ValueError.__new__"
def Lj:=di [k P "__module__" 355 (.str "joinload.errors" 231),k P "__qualname__" 357 (.str "NoSense" 356),k P "__firstlineno__" 359 (.int 40 358),k P "__static_attributes__" 360 (.ref 139)] 4
def G5:Obj:=co "NoSense" "NoSense" 350 40 0 0 135 false 136 .none 353
def GQ:Obj:=fm 137 134 (.str "joinload.errors" 231)
def uy:=di [k P "__module__" 355 (.str "joinload.errors" 231),k P "__firstlineno__" 359 (.int 40 358),k P "__static_attributes__" 360 (.ref 139),k P "__doc__" 361 .none] 2
def wI:Obj:=cc "NoSense" (.ref 59) 141 [.ref 59,.type "ValueError",.type "Exception",.type "BaseException",.type "object"] 140 [] (some (.ref 132)) 348 356 "ValueError.__new__"
def Kg:Obj:=ft (T 15) "tells" "tells"
def uM:Obj:=co "tells" "tells" 366 43 1 3 144 true 145 (.ref 146) 369
def oH:Obj:=fo (T 15) "tells" "tells" "joinload.names" 364 147
def uu:Obj:=tu #[.str "piece" 375,.str "own" 376,.str "wanted" 377,.str "kind" 378,.str "step" 379,.str "words" 380,.str "fills" 381,.str "at" 382,.str "rule" 383,.str "name" 384,.str "add" 385,.str "soft" 386]
def GJ:Obj:=ft (T 16) "wants" "wants"
def vb:Obj:=cf "wants" "wants" 372 45 1 149 387
def oU:Obj:=fo (T 16) "wants" "wants" "joinload.names" 364 154
def pZ:Obj:=tu #[.str "pieces" 393,.str "ordered" 394,.str "names" 395,.str "sort" 396,.str "piece" 397]
def Lr:Obj:=ft (T 17) "names_of" "names_of"
def u3:Obj:=cf "names_of" "names_of" 390 53 1 156 398
def tP:Obj:=fo (T 17) "names_of" "names_of" "joinload.names" 364 161
def Fq:Obj:=ft (T 18) "refuse_twice" "refuse_twice"
def uR:Obj:=co "refuse_twice" "refuse_twice" 401 61 1 3 163 true 164 (.ref 165) 404
def wX:Obj:=fo (T 18) "refuse_twice" "refuse_twice" "joinload.names" 364 166
def Ho:Obj:=ft (T 19) "aims" "aims"
def pR:Obj:=co "aims" "aims" 407 70 3 3 168 true 169 (.ref 170) 410
def ue:Obj:=fo (T 19) "aims" "aims" "joinload.names" 364 171
def X9(P:Params)(r:List (Nat×Obj)):List (Nat×Obj):=(3,Ws P)::(12,Vd)::(59,Bc)::(94,tu #[.ref 59])::(95,bp)::(96,NU P)::(97,e1)::(98,Oy)::(99,NA)::(100,FV)::(101,e1)::(102,e2)::(103,uH)::(104,e1)::(105,E5)::(106,oQ)::(107,vA)::(108,qR)::(109,sJ P)::(110,pV)::(111,su 110)::(112,bs 110)::(113,tu #[.ref 59])::(114,bp)::r
def Wz(P:Params)(r:List (Nat×Obj)):List (Nat×Obj):=(115,Lq P)::(116,e1)::(117,Kv)::(118,Jj)::(119,Lb)::(120,e1)::(121,e2)::(122,oM)::(123,e1)::(124,Er)::(125,o6)::(126,qv)::(127,ou)::(128,qM P)::(129,sZ)::(130,su 129)::(131,bs 129)::(132,tu #[.ref 59])::(133,bp)::(134,Lj P)::(135,e1)::(136,e2)::(137,G5)::(138,GQ)::r
def Wc(P:Params)(r:List (Nat×Obj)):List (Nat×Obj):=(139,e1)::(140,uy P)::(141,wI)::(142,su 141)::(143,bs 141)::(144,e1)::(145,e2)::(146,Kg)::(147,uM)::(148,oH)::(149,e1)::(150,e2)::(151,uu)::(152,e1)::(153,GJ)::(154,vb)::(155,oU)::(156,e1)::(157,e2)::(158,pZ)::(159,e1)::(160,Lr)::(161,u3)::(162,tP)::r
def W4(P:Params)(r:List (Nat×Obj)):List (Nat×Obj):=(163,e1)::(164,e2)::(165,Fq)::(166,uR)::(167,wX)::(168,e1)::(169,e2)::(170,Ho)::(171,pR)::(172,ue)::r
def T2(P:Params):BT:=mg 14 (T1 P) (X9 P (Wz P (Wc P (W4 P ([])))))
def YL(w:World):OsState->SharedT:=sT (T2 w.params) 173 413
def L1:List Stmt:=My.top 11::My.top 12::My.top 13::My.top 14::My.top 15::My.top 16::My.top 17::My.top 18::My.top 19::[]
def P1(w:World):Prop:=sR w 866 YZ YL L1 ⟨22,0,28,26⟩ ⟨70,0,72,65⟩
def Uw(P:Params):List DictEntry:=sv (UP P) 0 (.str "joinload.rules" 440)++[k P "aim_by" 426 (.ref 179),k P "places_told" 439 (.ref 186),k P "rule_of" 448 (.ref 193),k P "Rule" 512 (.ref 238),k P "Whole" 547 (.ref 266)]
def Wn:Obj:=⟨(.type "dict"),none,.dict (Uw P).toArray 31,#[]⟩
def Sd:Obj:=nf (nl [1,0,20,6,0,27,8,0,34,11,0,41,13,0,48,18,0,55,20,0,68,22,0,80,29,0,99,34,0,118,40,0,137,43,0,147,45,0,154,53,0,161,61,0,166,70,0,171,73,0,178,83,0,185,90,0,192,102,0,199,118,0,248]).toArray
def tR:Obj:=tu #[.str "piece_name" 416,.str "own" 417,.str "names" 418,.str "fill" 419,.str "name" 420,.str "add" 421,.str "soft" 422,.str "place" 423]
def Iu:Obj:=ft (T 20) "aim_by" "aim_by"
def tV:Obj:=cf "aim_by" "aim_by" 413 73 4 173 424
def uO:Obj:=fo (T 20) "aim_by" "aim_by" "joinload.names" 364 178
def qu:Obj:=tu #[.str "piece" 430,.str "told_by" 431,.str "places" 432,.str "name" 433,.str "sort" 434,.str "stretch" 435,.str "offset" 436]
def HL:Obj:=ft (T 21) "places_told" "places_told"
def wL:Obj:=cf "places_told" "places_told" 427 83 2 180 437
def nZ:Obj:=fo (T 21) "places_told" "places_told" "joinload.names" 364 185
def ua:Obj:=tu #[.str "title" 445]
def G6:Obj:=ft (T 23) "rule_of" "rule_of"
def rZ:Obj:=cf "rule_of" "rule_of" 442 90 1 187 446
def nS:Obj:=fo (T 23) "rule_of" "rule_of" "joinload.rules" 440 192
def Qi(P:Params):List DictEntry:=[k P "__module__" 456 (.str "joinload.rules" 440),k P "__qualname__" 458 (.str "Rule" 457),k P "__firstlineno__" 460 (.int 102 459),k P "__init__" 468 (.ref 207),k P "fits" 477 (.ref 214),k P "filled" 487 (.ref 221),k P "read_back" 496 (.ref 228),k P "leans" 503 (.ref 235),k P "__static_attributes__" 505 (.ref 236)]
def IQ:Obj:=⟨(.type "dict"),none,.dict (Qi P).toArray 9,#[]⟩
def EB:Obj:=nf (nl [104,4,206,107,4,213,110,4,220,113,4,227,116,4,234]).toArray
def EG:Obj:=co "Rule" "Rule" 451 102 0 0 197 false 198 .none 454
def Ft:Obj:=fm 199 196 (.str "joinload.rules" 440)
def uf:Obj:=tu #[.str "self" 464,.str "title" 465]
def Lk:Obj:=ft (C 24 0) "__init__" "Rule.__init__"
def r9:Obj:=cf "__init__" "Rule.__init__" 461 104 2 201 466
def vh:Obj:=fo (C 24 0) "__init__" "Rule.__init__" "joinload.rules" 440 206
def pD:Obj:=tu #[.str "self" 472,.str "here" 473,.str "there" 474]
def Ez:Obj:=ft (C 24 1) "fits" "Rule.fits"
def wW:Obj:=cf "fits" "Rule.fits" 469 107 3 208 475
def uD:Obj:=fo (C 24 1) "fits" "Rule.fits" "joinload.rules" 440 213
def qV:Obj:=tu #[.str "self" 481,.str "word" 482,.str "here" 483,.str "there" 484]
def HK:Obj:=ft (C 24 2) "filled" "Rule.filled"
def vD:Obj:=cf "filled" "Rule.filled" 478 110 4 215 485
def o8:Obj:=fo (C 24 2) "filled" "Rule.filled" "joinload.rules" 440 220
def qL:Obj:=tu #[.str "self" 491,.str "word" 492,.str "here" 493]
def FX:Obj:=ft (C 24 3) "read_back" "Rule.read_back"
def rP:Obj:=cf "read_back" "Rule.read_back" 488 113 3 222 494
def sS:Obj:=fo (C 24 3) "read_back" "Rule.read_back" "joinload.rules" 440 227
def p6:Obj:=tu #[.str "self" 500]
def Ht:Obj:=ft (C 24 4) "leans" "Rule.leans"
def vQ:Obj:=cf "leans" "Rule.leans" 497 116 1 229 501
def vi:Obj:=fo (C 24 4) "leans" "Rule.leans" "joinload.rules" 440 234
def vV:Obj:=tu #[.str "title" 504]
def O0(P:Params):List DictEntry:=[k P "__module__" 456 (.str "joinload.rules" 440),k P "__firstlineno__" 460 (.int 102 459),k P "__init__" 468 (.ref 207),k P "fits" 477 (.ref 214),k P "filled" 487 (.ref 221),k P "read_back" 496 (.ref 228),k P "leans" 503 (.ref 235),k P "__static_attributes__" 505 (.ref 236),k P "__dict__" 507 (.ref 239),k P "__weakref__" 509 (.ref 240),k P "__doc__" 510 .none]
def vt:Obj:=⟨(.type "dict"),none,.dict (O0 P).toArray 4,#[]⟩
def OC:Obj:=cc "Rule" (.type "object") 238 [.type "object"] 237 [.ref 266] none 449 457 "object.__new__"
def tq:Obj:=⟨(.type "getset_descriptor"),none,(.fields #[.str "__dict__" 506,.ref 238,.builtin "function.__dict__",.builtin "function.__dict__#set"]),#[]⟩
def sH:Obj:=⟨(.type "getset_descriptor"),none,(.fields #[.str "__weakref__" 508,.ref 238,.builtin "ExceptionGroup.__weakref__",.none]),#[]⟩
def KS:=di [k P "__module__" 520 (.str "joinload.rules" 440),k P "__qualname__" 522 (.str "Whole" 521),k P "__firstlineno__" 524 (.int 118 523),k P "filled" 534 (.ref 256),k P "read_back" 543 (.ref 263),k P "__static_attributes__" 544 (.ref 264)] 6
def JE:Obj:=nf (nl [120,4,255,123,4,262]).toArray
def FU:Obj:=co "Whole" "Whole" 515 118 0 0 246 false 247 .none 518
def IK:Obj:=fm 248 245 (.str "joinload.rules" 440)
def wY:Obj:=tu #[.str "self" 528,.str "word" 529,.str "here" 530,.str "there" 531]
def JS:Obj:=ft (C 25 0) "filled" "Whole.filled"
def wj:Obj:=cf "filled" "Whole.filled" 525 120 4 250 532
def pd:Obj:=fo (C 25 0) "filled" "Whole.filled" "joinload.rules" 440 255
def sC:Obj:=tu #[.str "self" 538,.str "word" 539,.str "here" 540]
def Lm:Obj:=ft (C 25 1) "read_back" "Whole.read_back"
def pW:Obj:=cf "read_back" "Whole.read_back" 535 123 3 257 541
def uL:Obj:=fo (C 25 1) "read_back" "Whole.read_back" "joinload.rules" 440 262
def tX:=di [k P "__module__" 520 (.str "joinload.rules" 440),k P "__firstlineno__" 524 (.int 118 523),k P "filled" 534 (.ref 256),k P "read_back" 543 (.ref 263),k P "__static_attributes__" 544 (.ref 264),k P "__doc__" 545 .none] 2
def xo:Obj:=cc "Whole" (.ref 238) 266 [.ref 238,.type "object"] 265 [] (some (.ref 243)) 513 521 "object.__new__"
def WL(P:Params)(r:List (Nat×Obj)):List (Nat×Obj):=(3,Wn P)::(12,Sd)::(173,e1)::(174,e2)::(175,tR)::(176,e1)::(177,Iu)::(178,tV)::(179,uO)::(180,e1)::(181,e2)::(182,qu)::(183,e1)::(184,HL)::(185,wL)::(186,nZ)::(187,e1)::(188,e2)::(189,ua)::(190,e1)::(191,G6)::(192,rZ)::(193,nS)::(194,e1)::r
def X3(P:Params)(r:List (Nat×Obj)):List (Nat×Obj):=(195,bp)::(196,IQ P)::(197,e1)::(198,EB)::(199,EG)::(200,Ft)::(201,e1)::(202,e2)::(203,uf)::(204,e1)::(205,Lk)::(206,r9)::(207,vh)::(208,e1)::(209,e2)::(210,pD)::(211,e1)::(212,Ez)::(213,wW)::(214,uD)::(215,e1)::(216,e2)::(217,qV)::(218,e1)::r
def Wu(P:Params)(r:List (Nat×Obj)):List (Nat×Obj):=(219,HK)::(220,vD)::(221,o8)::(222,e1)::(223,e2)::(224,qL)::(225,e1)::(226,FX)::(227,rP)::(228,sS)::(229,e1)::(230,e2)::(231,p6)::(232,e1)::(233,Ht)::(234,vQ)::(235,vi)::(236,vV)::(237,vt P)::(238,OC)::(239,tq)::(240,sH)::(241,su 238)::(242,bs 238)::r
def XR(P:Params)(r:List (Nat×Obj)):List (Nat×Obj):=(243,tu #[.ref 238])::(244,bp)::(245,KS P)::(246,e1)::(247,JE)::(248,FU)::(249,IK)::(250,e1)::(251,e2)::(252,wY)::(253,e1)::(254,JS)::(255,wj)::(256,pd)::(257,e1)::(258,e2)::(259,sC)::(260,e1)::(261,Lm)::(262,pW)::(263,uL)::(264,e1)::(265,tX P)::(266,xo)::r
def Wr(P:Params)(r:List (Nat×Obj)):List (Nat×Obj):=(267,su 266)::(268,bs 266)::r
def T3(P:Params):BT:=mg 14 (T2 P) (WL P (X3 P (Wu P (XR P (Wr P ([]))))))
def Y4(w:World):OsState->SharedT:=sT (T3 w.params) 269 548
def L2:List Stmt:=My.top 20::My.top 21::My.top 22::My.top 23::My.top 24::My.top 25::[]
def P2(w:World):Prop:=sR w 742 YL Y4 L2 ⟨70,0,72,65⟩ ⟨118,0,124,16⟩
def Ux(P:Params):List DictEntry:=Uw P++[k P "High" 582 (.ref 292),k P "Low" 617 (.ref 318)]
def W8:Obj:=⟨(.type "dict"),none,.dict (Ux P).toArray 33,#[]⟩
def RQ:Obj:=nf (nl [1,0,20,6,0,27,8,0,34,11,0,41,13,0,48,18,0,55,20,0,68,22,0,80,29,0,99,34,0,118,40,0,137,43,0,147,45,0,154,53,0,161,61,0,166,70,0,171,73,0,178,83,0,185,90,0,192,102,0,199,118,0,248,125,0,274,132,0,300]).toArray
def QO:Obj:=cc "Rule" (.type "object") 238 [.type "object"] 237 [.ref 266,.ref 292,.ref 318] none 449 457 "object.__new__"
def JX:=di [k P "__module__" 555 (.str "joinload.rules" 440),k P "__qualname__" 557 (.str "High" 556),k P "__firstlineno__" 559 (.int 125 558),k P "filled" 569 (.ref 282),k P "read_back" 578 (.ref 289),k P "__static_attributes__" 579 (.ref 290)] 6
def Ek:Obj:=nf (nl [127,4,281,130,4,288]).toArray
def E8:Obj:=co "High" "High" 550 125 0 0 272 false 273 .none 553
def HD:Obj:=fm 274 271 (.str "joinload.rules" 440)
def uc:Obj:=tu #[.str "self" 563,.str "word" 564,.str "here" 565,.str "there" 566]
def KQ:Obj:=ft (C 26 0) "filled" "High.filled"
def oh:Obj:=cf "filled" "High.filled" 560 127 4 276 567
def qA:Obj:=fo (C 26 0) "filled" "High.filled" "joinload.rules" 440 281
def ud:Obj:=tu #[.str "self" 573,.str "word" 574,.str "here" 575]
def FJ:Obj:=ft (C 26 1) "read_back" "High.read_back"
def nK:Obj:=cf "read_back" "High.read_back" 570 130 3 283 576
def nV:Obj:=fo (C 26 1) "read_back" "High.read_back" "joinload.rules" 440 288
def uT:=di [k P "__module__" 555 (.str "joinload.rules" 440),k P "__firstlineno__" 559 (.int 125 558),k P "filled" 569 (.ref 282),k P "read_back" 578 (.ref 289),k P "__static_attributes__" 579 (.ref 290),k P "__doc__" 580 .none] 2
def nE:Obj:=cc "High" (.ref 238) 292 [.ref 238,.type "object"] 291 [] (some (.ref 269)) 548 556 "object.__new__"
def IM:=di [k P "__module__" 590 (.str "joinload.rules" 440),k P "__qualname__" 592 (.str "Low" 591),k P "__firstlineno__" 594 (.int 132 593),k P "filled" 604 (.ref 308),k P "read_back" 613 (.ref 315),k P "__static_attributes__" 614 (.ref 316)] 6
def EY:Obj:=nf (nl [134,4,307,137,4,314]).toArray
def Ie:Obj:=co "Low" "Low" 585 132 0 0 298 false 299 .none 588
def Lw:Obj:=fm 300 297 (.str "joinload.rules" 440)
def ug:Obj:=tu #[.str "self" 598,.str "word" 599,.str "here" 600,.str "there" 601]
def EL:Obj:=ft (C 27 0) "filled" "Low.filled"
def vX:Obj:=cf "filled" "Low.filled" 595 134 4 302 602
def oY:Obj:=fo (C 27 0) "filled" "Low.filled" "joinload.rules" 440 307
def tJ:Obj:=tu #[.str "self" 608,.str "word" 609,.str "here" 610]
def JJ:Obj:=ft (C 27 1) "read_back" "Low.read_back"
def rL:Obj:=cf "read_back" "Low.read_back" 605 137 3 309 611
def rR:Obj:=fo (C 27 1) "read_back" "Low.read_back" "joinload.rules" 440 314
def xf:=di [k P "__module__" 590 (.str "joinload.rules" 440),k P "__firstlineno__" 594 (.int 132 593),k P "filled" 604 (.ref 308),k P "read_back" 613 (.ref 315),k P "__static_attributes__" 614 (.ref 316),k P "__doc__" 615 .none] 2
def wH:Obj:=cc "Low" (.ref 238) 318 [.ref 238,.type "object"] 317 [] (some (.ref 295)) 583 591 "object.__new__"
def V0(P:Params)(r:List (Nat×Obj)):List (Nat×Obj):=(3,W8 P)::(12,RQ)::(238,QO)::(269,tu #[.ref 238])::(270,bp)::(271,JX P)::(272,e1)::(273,Ek)::(274,E8)::(275,HD)::(276,e1)::(277,e2)::(278,uc)::(279,e1)::(280,KQ)::(281,oh)::(282,qA)::(283,e1)::(284,e2)::(285,ud)::(286,e1)::(287,FJ)::(288,nK)::(289,nV)::r
def Wy(P:Params)(r:List (Nat×Obj)):List (Nat×Obj):=(290,e1)::(291,uT P)::(292,nE)::(293,su 292)::(294,bs 292)::(295,tu #[.ref 238])::(296,bp)::(297,IM P)::(298,e1)::(299,EY)::(300,Ie)::(301,Lw)::(302,e1)::(303,e2)::(304,ug)::(305,e1)::(306,EL)::(307,vX)::(308,oY)::(309,e1)::(310,e2)::(311,tJ)::(312,e1)::(313,JJ)::r
def V6(P:Params)(r:List (Nat×Obj)):List (Nat×Obj):=(314,rL)::(315,rR)::(316,e1)::(317,xf P)::(318,wH)::(319,su 318)::(320,bs 318)::r
def T4(P:Params):BT:=mg 14 (T3 P) (V0 P (Wy P (V6 P ([]))))
def Yx(w:World):OsState->SharedT:=sT (T4 w.params) 321 618
def L3:List Stmt:=My.top 26::My.top 27::[]
def P3(w:World):Prop:=sR w 559 Y4 Yx L3 ⟨118,0,124,16⟩ ⟨132,0,138,16⟩
def SK(P:Params):List DictEntry:=sv (Ux P) 0 (.str "joinload.shelves" 743)++[k P "Near" 668 (.ref 358),k P "Split" 720 (.ref 398),k P "way" 728 (.ref 407),k P "copied_piece" 736 (.ref 412),k P "copied_fills" 742 (.ref 417),k P "taken" 750 (.ref 422)]
def XJ:Obj:=⟨(.type "dict"),none,.dict (SK P).toArray 39,#[]⟩
def Vu:Obj:=nf (nl [1,0,20,6,0,27,8,0,34,11,0,41,13,0,48,18,0,55,20,0,68,22,0,80,29,0,99,34,0,118,40,0,137,43,0,147,45,0,154,53,0,161,61,0,166,70,0,171,73,0,178,83,0,185,90,0,192,102,0,199,118,0,248,125,0,274,132,0,300,139,0,326,152,0,366,166,0,406,169,0,411,173,0,416,176,0,421]).toArray
def oF:Obj:=cc "Rule" (.type "object") 238 [.type "object"] 237 [.ref 266,.ref 292,.ref 318,.ref 358,.ref 398] none 449 457 "object.__new__"
def G0:=di [k P "__module__" 625 (.str "joinload.rules" 440),k P "__qualname__" 627 (.str "Near" 626),k P "__firstlineno__" 629 (.int 139 628),k P "fits" 638 (.ref 334),k P "filled" 648 (.ref 341),k P "read_back" 657 (.ref 348),k P "leans" 664 (.ref 355),k P "__static_attributes__" 665 (.ref 356)] 8
def GD:Obj:=nf (nl [141,4,333,144,4,340,147,4,347,150,4,354]).toArray
def Hn:Obj:=co "Near" "Near" 620 139 0 0 324 false 325 .none 623
def J4:Obj:=fm 326 323 (.str "joinload.rules" 440)
def oW:Obj:=tu #[.str "self" 633,.str "here" 634,.str "there" 635]
def FG:Obj:=ft (C 28 0) "fits" "Near.fits"
def nj:Obj:=cf "fits" "Near.fits" 630 141 3 328 636
def vw:Obj:=fo (C 28 0) "fits" "Near.fits" "joinload.rules" 440 333
def qC:Obj:=tu #[.str "self" 642,.str "word" 643,.str "here" 644,.str "there" 645]
def F3:Obj:=ft (C 28 1) "filled" "Near.filled"
def uY:Obj:=cf "filled" "Near.filled" 639 144 4 335 646
def tE:Obj:=fo (C 28 1) "filled" "Near.filled" "joinload.rules" 440 340
def wc:Obj:=tu #[.str "self" 652,.str "word" 653,.str "here" 654]
def J0:Obj:=ft (C 28 2) "read_back" "Near.read_back"
def qZ:Obj:=cf "read_back" "Near.read_back" 649 147 3 342 655
def nR:Obj:=fo (C 28 2) "read_back" "Near.read_back" "joinload.rules" 440 347
def rh:Obj:=tu #[.str "self" 661]
def Hq:Obj:=ft (C 28 3) "leans" "Near.leans"
def wG:Obj:=cf "leans" "Near.leans" 658 150 1 349 662
def rY:Obj:=fo (C 28 3) "leans" "Near.leans" "joinload.rules" 440 354
def qc:=di [k P "__module__" 625 (.str "joinload.rules" 440),k P "__firstlineno__" 629 (.int 139 628),k P "fits" 638 (.ref 334),k P "filled" 648 (.ref 341),k P "read_back" 657 (.ref 348),k P "leans" 664 (.ref 355),k P "__static_attributes__" 665 (.ref 356),k P "__doc__" 666 .none] 2
def qY:Obj:=cc "Near" (.ref 238) 358 [.ref 238,.type "object"] 357 [] (some (.ref 321)) 618 626 "object.__new__"
def FK:=di [k P "__module__" 676 (.str "joinload.rules" 440),k P "__qualname__" 678 (.str "Split" 677),k P "__firstlineno__" 680 (.int 152 679),k P "fits" 689 (.ref 374),k P "filled" 700 (.ref 381),k P "read_back" 709 (.ref 388),k P "leans" 716 (.ref 395),k P "__static_attributes__" 717 (.ref 396)] 8
def Jb:Obj:=nf (nl [154,4,373,157,4,380,161,4,387,164,4,394]).toArray
def IE:Obj:=co "Split" "Split" 671 152 0 0 364 false 365 .none 674
def Kk:Obj:=fm 366 363 (.str "joinload.rules" 440)
def r6:Obj:=tu #[.str "self" 684,.str "here" 685,.str "there" 686]
def Jk:Obj:=ft (C 29 0) "fits" "Split.fits"
def o9:Obj:=cf "fits" "Split.fits" 681 154 3 368 687
def rS:Obj:=fo (C 29 0) "fits" "Split.fits" "joinload.rules" 440 373
def tT:Obj:=tu #[.str "self" 693,.str "word" 694,.str "here" 695,.str "there" 696,.str "lower" 697]
def Jv:Obj:=ft (C 29 1) "filled" "Split.filled"
def nN:Obj:=cf "filled" "Split.filled" 690 157 4 375 698
def sy:Obj:=fo (C 29 1) "filled" "Split.filled" "joinload.rules" 440 380
def tZ:Obj:=tu #[.str "self" 704,.str "word" 705,.str "here" 706]
def HM:Obj:=ft (C 29 2) "read_back" "Split.read_back"
def oK:Obj:=cf "read_back" "Split.read_back" 701 161 3 382 707
def qH:Obj:=fo (C 29 2) "read_back" "Split.read_back" "joinload.rules" 440 387
def tU:Obj:=tu #[.str "self" 713]
def El:Obj:=ft (C 29 3) "leans" "Split.leans"
def sL:Obj:=cf "leans" "Split.leans" 710 164 1 389 714
def vS:Obj:=fo (C 29 3) "leans" "Split.leans" "joinload.rules" 440 394
def w_:=di [k P "__module__" 676 (.str "joinload.rules" 440),k P "__firstlineno__" 680 (.int 152 679),k P "fits" 689 (.ref 374),k P "filled" 700 (.ref 381),k P "read_back" 709 (.ref 388),k P "leans" 716 (.ref 395),k P "__static_attributes__" 717 (.ref 396),k P "__doc__" 718 .none] 2
def oV:Obj:=cc "Split" (.ref 238) 398 [.ref 238,.type "object"] 397 [] (some (.ref 361)) 669 677 "object.__new__"
def sG:Obj:=tu #[.str "here" 724,.str "there" 725]
def E4:Obj:=ft (T 30) "way" "way"
def oP:Obj:=cf "way" "way" 721 166 2 401 726
def uh:Obj:=fo (T 30) "way" "way" "joinload.rules" 440 406
def Em:Obj:=ft (T 32) "copied_piece" "copied_piece"
def oN:Obj:=co "copied_piece" "copied_piece" 731 169 1 3 408 true 409 (.ref 410) 734
def u6:Obj:=fo (T 32) "copied_piece" "copied_piece" "joinload.pieces" 729 411
def Kj:Obj:=ft (T 33) "copied_fills" "copied_fills"
def pz:Obj:=co "copied_fills" "copied_fills" 737 173 1 3 413 true 414 (.ref 415) 740
def vd:Obj:=fo (T 33) "copied_fills" "copied_fills" "joinload.pieces" 729 416
def Gj:Obj:=ft (T 35) "taken" "taken"
def wO:Obj:=co "taken" "taken" 745 176 3 3 418 true 419 (.ref 420) 748
def u_:Obj:=fo (T 35) "taken" "taken" "joinload.shelves" 743 421
def XT(P:Params)(r:List (Nat×Obj)):List (Nat×Obj):=(3,XJ P)::(12,Vu)::(238,oF)::(321,tu #[.ref 238])::(322,bp)::(323,G0 P)::(324,e1)::(325,GD)::(326,Hn)::(327,J4)::(328,e1)::(329,e2)::(330,oW)::(331,e1)::(332,FG)::(333,nj)::(334,vw)::(335,e1)::(336,e2)::(337,qC)::(338,e1)::(339,F3)::(340,uY)::(341,tE)::r
def V1(P:Params)(r:List (Nat×Obj)):List (Nat×Obj):=(342,e1)::(343,e2)::(344,wc)::(345,e1)::(346,J0)::(347,qZ)::(348,nR)::(349,e1)::(350,e2)::(351,rh)::(352,e1)::(353,Hq)::(354,wG)::(355,rY)::(356,e1)::(357,qc P)::(358,qY)::(359,su 358)::(360,bs 358)::(361,tu #[.ref 238])::(362,bp)::(363,FK P)::(364,e1)::(365,Jb)::r
def Wd(P:Params)(r:List (Nat×Obj)):List (Nat×Obj):=(366,IE)::(367,Kk)::(368,e1)::(369,e2)::(370,r6)::(371,e1)::(372,Jk)::(373,o9)::(374,rS)::(375,e1)::(376,e2)::(377,tT)::(378,e1)::(379,Jv)::(380,nN)::(381,sy)::(382,e1)::(383,e2)::(384,tZ)::(385,e1)::(386,HM)::(387,oK)::(388,qH)::(389,e1)::r
def V2(P:Params)(r:List (Nat×Obj)):List (Nat×Obj):=(390,e2)::(391,tU)::(392,e1)::(393,El)::(394,sL)::(395,vS)::(396,e1)::(397,w_ P)::(398,oV)::(399,su 398)::(400,bs 398)::(401,e1)::(402,e2)::(403,sG)::(404,e1)::(405,E4)::(406,oP)::(407,uh)::(408,e1)::(409,e2)::(410,Em)::(411,oN)::(412,u6)::(413,e1)::r
def Wk(P:Params)(r:List (Nat×Obj)):List (Nat×Obj):=(414,e2)::(415,Kj)::(416,pz)::(417,vd)::(418,e1)::(419,e2)::(420,Gj)::(421,wO)::(422,u_)::r
def T5(P:Params):BT:=mg 14 (T4 P) (XT P (V1 P (Wd P (V2 P (Wk P ([]))))))
def YK(w:World):OsState->SharedT:=sT (T5 w.params) 423 751
def L4:List Stmt:=My.top 28::My.top 29::My.top 30::My.top 31::My.top 32::My.top 33::My.top 34::My.top 35::[]
def P4(w:World):Prop:=sR w 814 Yx YK L4 ⟨132,0,138,16⟩ ⟨176,0,179,53⟩
def RP(P:Params):List DictEntry:=sv (SK P) 0 (.str "joinload.named" 918)++[k P "Taking" 808 (.ref 453),k P "pieces_on" 817 (.ref 464),k P "refuse_same_name" 827 (.ref 471),k P "first_tellers" 837 (.ref 478),k P "WithFill" 872 (.ref 495),k P "is_word" 879 (.ref 506),k P "is_at" 886 (.ref 513),k P "at_value" 893 (.ref 520),k P "copied_value" 900 (.ref 527),k P "in_one_stretch" 908 (.ref 534),k P "at_first" 917 (.ref 541)]
def VZ:Obj:=⟨(.type "dict"),none,.dict (RP P).toArray 50,#[]⟩
def Td:Obj:=nf (nl [1,0,20,6,0,27,8,0,34,11,0,41,13,0,48,18,0,55,20,0,68,22,0,80,29,0,99,34,0,118,40,0,137,43,0,147,45,0,154,53,0,161,61,0,166,70,0,171,73,0,178,83,0,185,90,0,192,102,0,199,118,0,248,125,0,274,132,0,300,139,0,326,152,0,366,166,0,406,169,0,411,173,0,416,176,0,421,180,0,428,216,0,463,221,0,470,230,0,477,237,0,484,243,0,505,245,0,512,247,0,519,249,0,526,251,0,533,253,0,540]).toArray
def J5:=di [k P "__module__" 758 (.str "joinload.shelves" 743),k P "__qualname__" 760 (.str "Taking" 759),k P "__firstlineno__" 762 (.int 180 761),k P "__init__" 774 (.ref 436),k P "take_for_pieces" 784 (.ref 443),k P "take_for" 794 (.ref 450),k P "__static_attributes__" 801 (.ref 451)] 7
def HA:Obj:=nf (nl [182,4,435,197,4,442,205,4,449]).toArray
def JA:Obj:=co "Taking" "Taking" 753 180 0 0 426 false 427 .none 756
def EK:Obj:=fm 428 425 (.str "joinload.shelves" 743)
def qk:Obj:=tu #[.str "self" 766,.str "given" 767,.str "shelves" 768,.str "entry" 769,.str "on_shelves" 770,.str "least" 771]
def Lu:Obj:=ft (C 36 0) "__init__" "Taking.__init__"
def vB:Obj:=cf "__init__" "Taking.__init__" 763 182 4 430 772
def xl:Obj:=fo (C 36 0) "__init__" "Taking.__init__" "joinload.shelves" 743 435
def vC:Obj:=tu #[.str "self" 778,.str "done" 779,.str "piece" 780,.str "name" 781]
def GX:Obj:=ft (C 36 1) "take_for_pieces" "Taking.take_for_pieces"
def o_:Obj:=cf "take_for_pieces" "Taking.take_for_pieces" 775 197 1 437 782
def rM:Obj:=fo (C 36 1) "take_for_pieces" "Taking.take_for_pieces" "joinload.shelves" 743 442
def qQ:Obj:=tu #[.str "self" 788,.str "name" 789,.str "by" 790,.str "piece" 791]
def Hz:Obj:=ft (C 36 2) "take_for" "Taking.take_for"
def oB:Obj:=cf "take_for" "Taking.take_for" 785 205 3 444 792
def uQ:Obj:=fo (C 36 2) "take_for" "Taking.take_for" "joinload.shelves" 743 449
def nk:Obj:=tu #[.str "from_shelves" 795,.str "on_shelves" 796,.str "pieces" 797,.str "reasons" 798,.str "told_by_given" 799,.str "unmet" 800]
def OJ(P:Params):List DictEntry:=[k P "__module__" 758 (.str "joinload.shelves" 743),k P "__firstlineno__" 762 (.int 180 761),k P "__init__" 774 (.ref 436),k P "take_for_pieces" 784 (.ref 443),k P "take_for" 794 (.ref 450),k P "__static_attributes__" 801 (.ref 451),k P "__dict__" 803 (.ref 454),k P "__weakref__" 805 (.ref 455),k P "__doc__" 806 .none]
def rG:Obj:=⟨(.type "dict"),none,.dict (OJ P).toArray 4,#[]⟩
def rE:Obj:=cc "Taking" (.type "object") 453 [.type "object"] 452 [] none 751 759 "object.__new__"
def qi:Obj:=⟨(.type "getset_descriptor"),none,(.fields #[.str "__dict__" 802,.ref 453,.builtin "function.__dict__",.builtin "function.__dict__#set"]),#[]⟩
def wD:Obj:=⟨(.type "getset_descriptor"),none,(.fields #[.str "__weakref__" 804,.ref 453,.builtin "ExceptionGroup.__weakref__",.none]),#[]⟩
def t_:Obj:=tu #[.str "shelves" 812,.str "pieces" 813,.str "shelf" 814]
def Ks:Obj:=ft (T 37) "pieces_on" "pieces_on"
def sM:Obj:=cf "pieces_on" "pieces_on" 809 216 1 458 815
def vK:Obj:=fo (T 37) "pieces_on" "pieces_on" "joinload.shelves" 743 463
def tW:Obj:=tu #[.str "pieces" 821,.str "seen" 822,.str "again" 823,.str "piece" 824]
def Ig:Obj:=ft (T 38) "refuse_same_name" "refuse_same_name"
def nC:Obj:=cf "refuse_same_name" "refuse_same_name" 818 221 1 465 825
def oj:Obj:=fo (T 38) "refuse_same_name" "refuse_same_name" "joinload.shelves" 743 470
def uW:Obj:=tu #[.str "pieces" 831,.str "first" 832,.str "piece" 833,.str "name" 834]
def GW:Obj:=ft (T 39) "first_tellers" "first_tellers"
def pP:Obj:=cf "first_tellers" "first_tellers" 828 230 1 472 835
def qh:Obj:=fo (T 39) "first_tellers" "first_tellers" "joinload.shelves" 743 477
def Ke:=di [k P "__module__" 847 (.str "joinload.values" 838),k P "__qualname__" 849 (.str "WithFill" 848),k P "__firstlineno__" 851 (.int 237 850),k P "__init__" 861 (.ref 492),k P "__static_attributes__" 865 (.ref 493)] 5
def Ku:Obj:=nf (nl [239,4,491]).toArray
def Fb:Obj:=co "WithFill" "WithFill" 842 237 0 0 482 false 483 .none 845
def GV:Obj:=fm 484 481 (.str "joinload.values" 838)
def oq:Obj:=tu #[.str "self" 855,.str "word" 856,.str "title" 857,.str "aimed" 858]
def E3:Obj:=ft (C 41 0) "__init__" "WithFill.__init__"
def tG:Obj:=cf "__init__" "WithFill.__init__" 852 239 4 486 859
def nU:Obj:=fo (C 41 0) "__init__" "WithFill.__init__" "joinload.values" 838 491
def sY:Obj:=tu #[.str "aimed" 862,.str "title" 863,.str "word" 864]
def rQ:=di [k P "__module__" 847 (.str "joinload.values" 838),k P "__firstlineno__" 851 (.int 237 850),k P "__init__" 861 (.ref 492),k P "__static_attributes__" 865 (.ref 493),k P "__dict__" 867 (.ref 496),k P "__weakref__" 869 (.ref 497),k P "__doc__" 870 .none] 4
def u7:Obj:=cc "WithFill" (.type "object") 495 [.type "object"] 494 [] none 840 848 "object.__new__"
def ni:Obj:=⟨(.type "getset_descriptor"),none,(.fields #[.str "__dict__" 866,.ref 495,.builtin "function.__dict__",.builtin "function.__dict__#set"]),#[]⟩
def pJ:Obj:=⟨(.type "getset_descriptor"),none,(.fields #[.str "__weakref__" 868,.ref 495,.builtin "ExceptionGroup.__weakref__",.none]),#[]⟩
def rj:Obj:=tu #[.str "value" 876]
def HR:Obj:=ft (T 42) "is_word" "is_word"
def wt:Obj:=cf "is_word" "is_word" 873 243 1 500 877
def vZ:Obj:=fo (T 42) "is_word" "is_word" "joinload.values" 838 505
def vz:Obj:=tu #[.str "value" 883]
def HS:Obj:=ft (T 43) "is_at" "is_at"
def pU:Obj:=cf "is_at" "is_at" 880 245 1 507 884
def vT:Obj:=fo (T 43) "is_at" "is_at" "joinload.values" 838 512
def rT:Obj:=tu #[.str "aimed" 890]
def KO:Obj:=ft (T 44) "at_value" "at_value"
def u5:Obj:=cf "at_value" "at_value" 887 247 1 514 891
def wQ:Obj:=fo (T 44) "at_value" "at_value" "joinload.values" 838 519
def ql:Obj:=tu #[.str "value" 897]
def F8:Obj:=ft (T 45) "copied_value" "copied_value"
def tO:Obj:=cf "copied_value" "copied_value" 894 249 1 521 898
def pO:Obj:=fo (T 45) "copied_value" "copied_value" "joinload.values" 838 526
def uI:Obj:=tu #[.str "first" 904,.str "second" 905]
def IC:Obj:=ft (T 46) "in_one_stretch" "in_one_stretch"
def qO:Obj:=cf "in_one_stretch" "in_one_stretch" 901 251 2 528 906
def sF:Obj:=fo (T 46) "in_one_stretch" "in_one_stretch" "joinload.values" 838 533
def vp:Obj:=tu #[.str "word" 912,.str "title" 913,.str "aimed" 914]
def J6:Obj:=ft (T 47) "at_first" "at_first"
def p9:Obj:=cf "at_first" "at_first" 909 253 3 535 915
def uX:Obj:=fo (T 47) "at_first" "at_first" "joinload.values" 838 540
def Xz(P:Params)(r:List (Nat×Obj)):List (Nat×Obj):=(3,VZ P)::(12,Td)::(423,e1)::(424,bp)::(425,J5 P)::(426,e1)::(427,HA)::(428,JA)::(429,EK)::(430,e1)::(431,e2)::(432,qk)::(433,e1)::(434,Lu)::(435,vB)::(436,xl)::(437,e1)::(438,e2)::(439,vC)::(440,e1)::(441,GX)::(442,o_)::(443,rM)::(444,e1)::r
def Wo(P:Params)(r:List (Nat×Obj)):List (Nat×Obj):=(445,e2)::(446,qQ)::(447,e1)::(448,Hz)::(449,oB)::(450,uQ)::(451,nk)::(452,rG P)::(453,rE)::(454,qi)::(455,wD)::(456,su 453)::(457,bs 453)::(458,e1)::(459,e2)::(460,t_)::(461,e1)::(462,Ks)::(463,sM)::(464,vK)::(465,e1)::(466,e2)::(467,tW)::(468,e1)::r
def WT(P:Params)(r:List (Nat×Obj)):List (Nat×Obj):=(469,Ig)::(470,nC)::(471,oj)::(472,e1)::(473,e2)::(474,uW)::(475,e1)::(476,GW)::(477,pP)::(478,qh)::(479,e1)::(480,bp)::(481,Ke P)::(482,e1)::(483,Ku)::(484,Fb)::(485,GV)::(486,e1)::(487,e2)::(488,oq)::(489,e1)::(490,E3)::(491,tG)::(492,nU)::r
def Yh(P:Params)(r:List (Nat×Obj)):List (Nat×Obj):=(493,sY)::(494,rQ P)::(495,u7)::(496,ni)::(497,pJ)::(498,su 495)::(499,bs 495)::(500,e1)::(501,e2)::(502,rj)::(503,e1)::(504,HR)::(505,wt)::(506,vZ)::(507,e1)::(508,e2)::(509,vz)::(510,e1)::(511,HS)::(512,pU)::(513,vT)::(514,e1)::(515,e2)::(516,rT)::r
def V9(P:Params)(r:List (Nat×Obj)):List (Nat×Obj):=(517,e1)::(518,KO)::(519,u5)::(520,wQ)::(521,e1)::(522,e2)::(523,ql)::(524,e1)::(525,F8)::(526,tO)::(527,pO)::(528,e1)::(529,e2)::(530,uI)::(531,e1)::(532,IC)::(533,qO)::(534,sF)::(535,e1)::(536,e2)::(537,vp)::(538,e1)::(539,J6)::(540,p9)::r
def Wg(P:Params)(r:List (Nat×Obj)):List (Nat×Obj):=(541,uX)::r
def T6(P:Params):BT:=mg 14 (T5 P) (Xz P (Wo P (WT P (Yh P (V9 P (Wg P ([])))))))
def Y9(w:World):OsState->SharedT:=sT (T6 w.params) 542 920
def L5:List Stmt:=My.top 36::My.top 37::My.top 38::My.top 39::My.top 40::My.top 41::My.top 42::My.top 43::My.top 44::My.top 45::My.top 46::My.top 47::My.top 48::[]
def P5(w:World):Prop:=sR w 816 YK Y9 L5 ⟨176,0,179,53⟩ ⟨259,0,259,8⟩
def SM(P:Params):List DictEntry:=sv (RP P) 0 (.str "law_joinload_k60_what_is_there_at_first" 1095)++[k P "Named" 1094 (.ref 664),k P "_law_cell_at" 1104 (.ref 675),k P "_law_name_by" 1119 (.ref 682),k P "_law_word_row" 1132 (.ref 689),k P "_law_told_by" 1138 (.ref 694)]
def WG:Obj:=⟨(.type "dict"),none,.dict (SM P).toArray 55,#[]⟩
def UT:Obj:=nf (nl [1,0,20,6,0,27,8,0,34,11,0,41,13,0,48,18,0,55,20,0,68,22,0,80,29,0,99,34,0,118,40,0,137,43,0,147,45,0,154,53,0,161,61,0,166,70,0,171,73,0,178,83,0,185,90,0,192,102,0,199,118,0,248,125,0,274,132,0,300,139,0,326,152,0,366,166,0,406,169,0,411,173,0,416,176,0,421,180,0,428,216,0,463,221,0,470,230,0,477,237,0,484,243,0,505,245,0,512,247,0,519,249,0,526,251,0,533,253,0,540,260,0,547,342,0,674,346,0,681,359,0,688,370,0,693]).toArray
def QH(P:Params):List DictEntry:=[k P "__module__" 927 (.str "joinload.named" 918),k P "__qualname__" 929 (.str "Named" 928),k P "__firstlineno__" 931 (.int 260 930),k P "__init__" 937 (.ref 553),k P "take_in" 954 (.ref 560),k P "go_on" 961 (.ref 567),k P "state" 967 (.ref 572),k P "value_at" 978 (.ref 579),k P "is_inside" 986 (.ref 586),k P "found" 994 (.ref 593),k P "stretch_of" 1002 (.ref 600),k P "deed_here" 1009 (.ref 607),k P "do" 1018 (.ref 614),k P "sought" 1027 (.ref 621),k P "store" 1036 (.ref 628),k P "result" 1046 (.ref 635),k P "value_found" 1054 (.ref 642),k P "goes" 1064 (.ref 649),k P "same" 1070 (.ref 654),k P "under" 1080 (.ref 661),k P "__static_attributes__" 1087 (.ref 662)]
def Fx:Obj:=⟨(.type "dict"),none,.dict (QH P).toArray 21,#[]⟩
def Gm:Obj:=nf (nl [262,4,552,274,4,559,285,4,566,288,4,571,292,4,578,296,4,585,299,4,592,304,4,599,307,4,606,310,4,613,313,4,620,316,4,627,319,4,634,322,4,641,325,4,648,328,4,653,335,4,660]).toArray
def KC:Obj:=co "Named" "Named" 922 260 0 0 545 false 546 .none 925
def FD:Obj:=fm 547 544 (.str "joinload.named" 918)
def GA:Obj:=ft (C 49 0) "__init__" "Named.__init__"
def tL:Obj:=co "__init__" "Named.__init__" 932 262 5 3 549 true 550 (.ref 551) 935
def wV:Obj:=fo (C 49 0) "__init__" "Named.__init__" "joinload.named" 918 552
def uj:Obj:=tu #[.str "self" 941,.str "piece" 942,.str "names" 943,.str "number" 944,.str "stretch" 945,.str "words" 946,.str "fills" 947,.str "at" 948,.str "word" 949,.str "fill" 950,.str "aimed" 951]
def GC:Obj:=ft (C 49 1) "take_in" "Named.take_in"
def uC:Obj:=cf "take_in" "Named.take_in" 938 274 3 554 952
def wo:Obj:=fo (C 49 1) "take_in" "Named.take_in" "joinload.named" 918 559
def uv:Obj:=tu #[.str "self" 958]
def K1:Obj:=ft (C 49 2) "go_on" "Named.go_on"
def qX:Obj:=cf "go_on" "Named.go_on" 955 285 1 561 959
def wC:Obj:=fo (C 49 2) "go_on" "Named.go_on" "joinload.named" 918 566
def KY:Obj:=ft (C 49 3) "state" "Named.state"
def nv:Obj:=co "state" "Named.state" 962 288 1 3 568 true 569 (.ref 570) 965
def ub:Obj:=fo (C 49 3) "state" "Named.state" "joinload.named" 918 571
def qP:Obj:=tu #[.str "self" 971,.str "piece" 972,.str "stretch" 973,.str "offset" 974,.str "found" 975]
def Fj:Obj:=ft (C 49 4) "value_at" "Named.value_at"
def xu:Obj:=cf "value_at" "Named.value_at" 968 292 4 573 976
def vE:Obj:=fo (C 49 4) "value_at" "Named.value_at" "joinload.named" 918 578
def rX:Obj:=tu #[.str "self" 982,.str "value" 983]
def GL:Obj:=ft (C 49 5) "is_inside" "Named.is_inside"
def qN:Obj:=cf "is_inside" "Named.is_inside" 979 296 2 580 984
def oE:Obj:=fo (C 49 5) "is_inside" "Named.is_inside" "joinload.named" 918 585
def sr:Obj:=tu #[.str "self" 990,.str "value" 991]
def Gr:Obj:=ft (C 49 6) "found" "Named.found"
def uU:Obj:=cf "found" "Named.found" 987 299 2 587 992
def uV:Obj:=fo (C 49 6) "found" "Named.found" "joinload.named" 918 592
def nJ:Obj:=tu #[.str "self" 998,.str "value" 999]
def Ib:Obj:=ft (C 49 7) "stretch_of" "Named.stretch_of"
def uN:Obj:=cf "stretch_of" "Named.stretch_of" 995 304 2 594 1000
def rW:Obj:=fo (C 49 7) "stretch_of" "Named.stretch_of" "joinload.named" 918 599
def tI:Obj:=tu #[.str "self" 1006]
def G_:Obj:=ft (C 49 8) "deed_here" "Named.deed_here"
def vR:Obj:=cf "deed_here" "Named.deed_here" 1003 307 1 601 1007
def qB:Obj:=fo (C 49 8) "deed_here" "Named.deed_here" "joinload.named" 918 606
def uo:Obj:=tu #[.str "self" 1013,.str "word" 1014,.str "aimed" 1015]
def FW:Obj:=ft (C 49 9) "do" "Named.do"
def pM:Obj:=cf "do" "Named.do" 1010 310 3 608 1016
def ny:Obj:=fo (C 49 9) "do" "Named.do" "joinload.named" 918 613
def tQ:Obj:=tu #[.str "self" 1022,.str "word" 1023,.str "aimed" 1024]
def G8:Obj:=ft (C 49 10) "sought" "Named.sought"
def rH:Obj:=cf "sought" "Named.sought" 1019 313 3 615 1025
def uA:Obj:=fo (C 49 10) "sought" "Named.sought" "joinload.named" 918 620
def u0:Obj:=tu #[.str "self" 1031,.str "place" 1032,.str "value" 1033]
def EM:Obj:=ft (C 49 11) "store" "Named.store"
def qt:Obj:=cf "store" "Named.store" 1028 316 3 622 1034
def nB:Obj:=fo (C 49 11) "store" "Named.store" "joinload.named" 918 627
def sD:Obj:=tu #[.str "self" 1040,.str "deed" 1041,.str "word" 1042,.str "aimed" 1043]
def F5:Obj:=ft (C 49 12) "result" "Named.result"
def qy:Obj:=cf "result" "Named.result" 1037 319 4 629 1044
def oI:Obj:=fo (C 49 12) "result" "Named.result" "joinload.named" 918 634
def n8:Obj:=tu #[.str "self" 1050,.str "place" 1051]
def EC:Obj:=ft (C 49 13) "value_found" "Named.value_found"
def p7:Obj:=cf "value_found" "Named.value_found" 1047 322 2 636 1052
def pA:Obj:=fo (C 49 13) "value_found" "Named.value_found" "joinload.named" 918 641
def wu:Obj:=tu #[.str "self" 1058,.str "deed" 1059,.str "first" 1060,.str "second" 1061]
def Kr:Obj:=ft (C 49 14) "goes" "Named.goes"
def ui:Obj:=cf "goes" "Named.goes" 1055 325 4 643 1062
def xb:Obj:=fo (C 49 14) "goes" "Named.goes" "joinload.named" 918 648
def Hw:Obj:=ft (C 49 15) "same" "Named.same"
def qG:Obj:=co "same" "Named.same" 1065 328 3 3 650 true 651 (.ref 652) 1068
def qF:Obj:=fo (C 49 15) "same" "Named.same" "joinload.named" 918 653
def we:Obj:=tu #[.str "self" 1074,.str "first" 1075,.str "second" 1076,.str "many" 1077]
def I0:Obj:=ft (C 49 16) "under" "Named.under"
def vN:Obj:=cf "under" "Named.under" 1071 335 3 655 1078
def vG:Obj:=fo (C 49 16) "under" "Named.under" "joinload.named" 918 660
def ur:Obj:=tu #[.str "ended" 1081,.str "memory" 1082,.str "numbers" 1083,.str "place" 1084,.str "registers" 1085,.str "stretches" 1086]
def Qx(P:Params):List DictEntry:=[k P "__module__" 927 (.str "joinload.named" 918),k P "__firstlineno__" 931 (.int 260 930),k P "__init__" 937 (.ref 553),k P "take_in" 954 (.ref 560),k P "go_on" 961 (.ref 567),k P "state" 967 (.ref 572),k P "value_at" 978 (.ref 579),k P "is_inside" 986 (.ref 586),k P "found" 994 (.ref 593),k P "stretch_of" 1002 (.ref 600),k P "deed_here" 1009 (.ref 607),k P "do" 1018 (.ref 614),k P "sought" 1027 (.ref 621),k P "store" 1036 (.ref 628),k P "result" 1046 (.ref 635),k P "value_found" 1054 (.ref 642),k P "goes" 1064 (.ref 649),k P "same" 1070 (.ref 654),k P "under" 1080 (.ref 661),k P "__static_attributes__" 1087 (.ref 662),k P "__dict__" 1089 (.ref 665),k P "__weakref__" 1091 (.ref 666),k P "__doc__" 1092 .none]
def wM:Obj:=⟨(.type "dict"),none,.dict (Qx P).toArray 4,#[]⟩
def nO:Obj:=cc "Named" (.type "object") 664 [.type "object"] 663 [] none 920 928 "object.__new__"
def qW:Obj:=⟨(.type "getset_descriptor"),none,(.fields #[.str "__dict__" 1088,.ref 664,.builtin "function.__dict__",.builtin "function.__dict__#set"]),#[]⟩
def sI:Obj:=⟨(.type "getset_descriptor"),none,(.fields #[.str "__weakref__" 1090,.ref 664,.builtin "ExceptionGroup.__weakref__",.none]),#[]⟩
def qI:Obj:=tu #[.str "_law_script" 1100,.str "_law_k" 1101]
def JF:Obj:=ft (T 51) "_law_cell_at" "_law_cell_at"
def va:Obj:=cf "_law_cell_at" "_law_cell_at" 1097 342 2 669 1102
def v_:Obj:=fo (T 51) "_law_cell_at" "_law_cell_at" "law_joinload_k60_what_is_there_at_first" 1095 674
def pN:Obj:=tu #[.str "_law_cell" 1108,.str "_law_k" 1109,.str "_law_signs" 1110,.str "_law_size" 1111,.str "_law_at" 1112,.str "_law_name" 1113,.str "_law_j" 1114,.str "_law_many" 1115,.str "_law_place" 1116]
def I_:Obj:=ft (T 52) "_law_name_by" "_law_name_by"
def oR:Obj:=cf "_law_name_by" "_law_name_by" 1105 346 2 676 1117
def tK:Obj:=fo (T 52) "_law_name_by" "_law_name_by" "law_joinload_k60_what_is_there_at_first" 1095 681
def sO:Obj:=tu #[.str "_law_cell" 1123,.str "_law_names_by" 1124,.str "_law_what" 1125,.str "_law_rest_here" 1126,.str "_law_soft" 1127,.str "_law_add" 1128,.str "_law_rule" 1129]
def Jl:Obj:=ft (T 53) "_law_word_row" "_law_word_row"
def og:Obj:=cf "_law_word_row" "_law_word_row" 1120 359 2 683 1130
def vv:Obj:=fo (T 53) "_law_word_row" "_law_word_row" "law_joinload_k60_what_is_there_at_first" 1095 688
def F_:Obj:=ft (T 54) "_law_told_by" "_law_told_by"
def tM:Obj:=co "_law_told_by" "_law_told_by" 1133 370 4 3 690 true 691 (.ref 692) 1136
def uq:Obj:=fo (T 54) "_law_told_by" "_law_told_by" "law_joinload_k60_what_is_there_at_first" 1095 693
def V7(P:Params)(r:List (Nat×Obj)):List (Nat×Obj):=(3,WG P)::(12,UT)::(542,e1)::(543,bp)::(544,Fx P)::(545,e1)::(546,Gm)::(547,KC)::(548,FD)::(549,e1)::(550,e2)::(551,GA)::(552,tL)::(553,wV)::(554,e1)::(555,e2)::(556,uj)::(557,e1)::(558,GC)::(559,uC)::(560,wo)::(561,e1)::(562,e2)::(563,uv)::r
def X7(P:Params)(r:List (Nat×Obj)):List (Nat×Obj):=(564,e1)::(565,K1)::(566,qX)::(567,wC)::(568,e1)::(569,e2)::(570,KY)::(571,nv)::(572,ub)::(573,e1)::(574,e2)::(575,qP)::(576,e1)::(577,Fj)::(578,xu)::(579,vE)::(580,e1)::(581,e2)::(582,rX)::(583,e1)::(584,GL)::(585,qN)::(586,oE)::(587,e1)::r
def WO(P:Params)(r:List (Nat×Obj)):List (Nat×Obj):=(588,e2)::(589,sr)::(590,e1)::(591,Gr)::(592,uU)::(593,uV)::(594,e1)::(595,e2)::(596,nJ)::(597,e1)::(598,Ib)::(599,uN)::(600,rW)::(601,e1)::(602,e2)::(603,tI)::(604,e1)::(605,G_)::(606,vR)::(607,qB)::(608,e1)::(609,e2)::(610,uo)::(611,e1)::r
def WK(P:Params)(r:List (Nat×Obj)):List (Nat×Obj):=(612,FW)::(613,pM)::(614,ny)::(615,e1)::(616,e2)::(617,tQ)::(618,e1)::(619,G8)::(620,rH)::(621,uA)::(622,e1)::(623,e2)::(624,u0)::(625,e1)::(626,EM)::(627,qt)::(628,nB)::(629,e1)::(630,e2)::(631,sD)::(632,e1)::(633,F5)::(634,qy)::(635,oI)::r
def XC(P:Params)(r:List (Nat×Obj)):List (Nat×Obj):=(636,e1)::(637,e2)::(638,n8)::(639,e1)::(640,EC)::(641,p7)::(642,pA)::(643,e1)::(644,e2)::(645,wu)::(646,e1)::(647,Kr)::(648,ui)::(649,xb)::(650,e1)::(651,e2)::(652,Hw)::(653,qG)::(654,qF)::(655,e1)::(656,e2)::(657,we)::(658,e1)::(659,I0)::r
def Xs(P:Params)(r:List (Nat×Obj)):List (Nat×Obj):=(660,vN)::(661,vG)::(662,ur)::(663,wM P)::(664,nO)::(665,qW)::(666,sI)::(667,su 664)::(668,bs 664)::(669,e1)::(670,e2)::(671,qI)::(672,e1)::(673,JF)::(674,va)::(675,v_)::(676,e1)::(677,e2)::(678,pN)::(679,e1)::(680,I_)::(681,oR)::(682,tK)::(683,e1)::r
def WQ(P:Params)(r:List (Nat×Obj)):List (Nat×Obj):=(684,e2)::(685,sO)::(686,e1)::(687,Jl)::(688,og)::(689,vv)::(690,e1)::(691,e2)::(692,F_)::(693,tM)::(694,uq)::r
def T7(P:Params):BT:=mg 14 (T6 P) (V7 P (X7 P (WO P (WK P (XC P (Xs P (WQ P ([]))))))))
def YG(w:World):OsState->SharedT:=sT (T7 w.params) 695 1139
def L6:List Stmt:=My.top 49::My.top 50::My.top 51::My.top 52::My.top 53::My.top 54::[]
def P6(w:World):Prop:=sR w 884 Y9 YG L6 ⟨259,0,259,8⟩ ⟨370,0,379,99⟩
def XY(P:Params):List DictEntry:=SM P++[k P "_law_drawn" 1154 (.ref 701),k P "_law_copy" 1160 (.ref 706),k P "_law_whole" 1167 (.ref 713),k P "_law_value" 1175 (.ref 720),k P "_law_values" 1184 (.ref 727),k P "_law_state" 1195 (.ref 734),k P "_law_rest" 1201 (.ref 739),k P "_law_names" 1217 (.ref 746),k P "_law_filled" 1226 (.ref 753),k P "_law_due" 1243 (.ref 760),k P "_law_holds" 1262 (.ref 767),k P "law" 1268 (.ref 772)]
def MH:Obj:=⟨(.type "dict"),none,.dict (XY P).toArray 67,#[]⟩
def ND:Obj:=nf (nl [1,0,20,6,0,27,8,0,34,11,0,41,13,0,48,18,0,55,20,0,68,22,0,80,29,0,99,34,0,118,40,0,137,43,0,147,45,0,154,53,0,161,61,0,166,70,0,171,73,0,178,83,0,185,90,0,192,102,0,199,118,0,248,125,0,274,132,0,300,139,0,326,152,0,366,166,0,406,169,0,411,173,0,416,176,0,421,180,0,428,216,0,463,221,0,470,230,0,477,237,0,484,243,0,505,245,0,512,247,0,519,249,0,526,251,0,533,253,0,540,260,0,547,342,0,674,346,0,681,359,0,688,370,0,693,380,0,700,398,0,705,401,0,712,403,0,719,411,0,726,418,0,733,424,0,738,427,0,745,440,0,752,446,0,759,457,0,766,471,0,771]).toArray
def xq:Obj:=tu #[.str "_law_cells" 1142,.str "_law_names_by" 1143,.str "_law_titles_by" 1144,.str "_law_strict" 1145,.str "_law_pieces" 1146,.str "_law_cell" 1147,.str "_law_what" 1148,.str "_law_step" 1149,.str "_law_stretch" 1150,.str "_law_more" 1151]
def Ih:Obj:=ft (T 55) "_law_drawn" "_law_drawn"
def n9:Obj:=cf "_law_drawn" "_law_drawn" 1139 380 4 695 1152
def nM:Obj:=fo (T 55) "_law_drawn" "_law_drawn" "law_joinload_k60_what_is_there_at_first" 1095 700
def Jt:Obj:=ft (T 56) "_law_copy" "_law_copy"
def vW:Obj:=co "_law_copy" "_law_copy" 1155 398 1 3 702 true 703 (.ref 704) 1158
def nH:Obj:=fo (T 56) "_law_copy" "_law_copy" "law_joinload_k60_what_is_there_at_first" 1095 705
def rN:Obj:=tu #[.str "_law_found" 1164]
def JD:Obj:=ft (T 57) "_law_whole" "_law_whole"
def vU:Obj:=cf "_law_whole" "_law_whole" 1161 401 1 707 1165
def qS:Obj:=fo (T 57) "_law_whole" "_law_whole" "law_joinload_k60_what_is_there_at_first" 1095 712
def pT:Obj:=tu #[.str "_law_found" 1171,.str "_law_due_here" 1172]
def F0:Obj:=ft (T 58) "_law_value" "_law_value"
def uS:Obj:=cf "_law_value" "_law_value" 1168 403 2 714 1173
def pK:Obj:=fo (T 58) "_law_value" "_law_value" "law_joinload_k60_what_is_there_at_first" 1095 719
def qK:Obj:=tu #[.str "_law_found" 1179,.str "_law_due_here" 1180,.str "_law_k" 1181]
def Ii:Obj:=ft (T 59) "_law_values" "_law_values"
def wN:Obj:=cf "_law_values" "_law_values" 1176 411 2 721 1182
def rD:Obj:=fo (T 59) "_law_values" "_law_values" "law_joinload_k60_what_is_there_at_first" 1095 726
def uw:Obj:=tu #[.str "_law_found" 1188,.str "_law_spot" 1189,.str "_law_row" 1190,.str "_law_told" 1191,.str "_law_ended" 1192]
def IV:Obj:=ft (T 60) "_law_state" "_law_state"
def nX:Obj:=cf "_law_state" "_law_state" 1185 418 5 728 1193
def vF:Obj:=fo (T 60) "_law_state" "_law_state" "law_joinload_k60_what_is_there_at_first" 1095 733
def G7:Obj:=ft (T 61) "_law_rest" "_law_rest"
def qj:Obj:=co "_law_rest" "_law_rest" 1196 424 2 3 735 true 736 (.ref 737) 1199
def wR:Obj:=fo (T 61) "_law_rest" "_law_rest" "law_joinload_k60_what_is_there_at_first" 1095 738
def rO:Obj:=tu #[.str "_law_pieces" 1205,.str "_law_due_here" 1206,.str "_law_weak" 1207,.str "_law_title" 1208,.str "_law_stretches" 1209,.str "_law_told" 1210,.str "_law_name" 1211,.str "_law_sort" 1212,.str "_law_stretch" 1213,.str "_law_offset" 1214]
def GY:Obj:=ft (T 62) "_law_names" "_law_names"
def oA:Obj:=cf "_law_names" "_law_names" 1202 427 1 740 1215
def sE:Obj:=fo (T 62) "_law_names" "_law_names" "law_joinload_k60_what_is_there_at_first" 1095 745
def wz:Obj:=tu #[.str "_law_word" 1221,.str "_law_rule" 1222,.str "_law_add" 1223]
def F2:Obj:=ft (T 63) "_law_filled" "_law_filled"
def rm:Obj:=cf "_law_filled" "_law_filled" 1218 440 3 747 1224
def pQ:Obj:=fo (T 63) "_law_filled" "_law_filled" "law_joinload_k60_what_is_there_at_first" 1095 752
def sU:Obj:=tu #[.str "_law_piece" 1230,.str "_law_some" 1231,.str "_law_word" 1232,.str "_law_fill" 1233,.str "_law_at" 1234,.str "_law_rule" 1235,.str "_law_name" 1236,.str "_law_add" 1237,.str "_law_soft" 1238,.str "_law_spot" 1239,.str "_law_row" 1240]
def Gd:Obj:=ft (T 64) "_law_due" "_law_due"
def sW:Obj:=cf "_law_due" "_law_due" 1227 446 4 754 1241
def tY:Obj:=fo (T 64) "_law_due" "_law_due" "law_joinload_k60_what_is_there_at_first" 1095 759
def vH:Obj:=tu #[.str "_law_machine" 1247,.str "_law_pieces" 1248,.str "_law_some" 1249,.str "_law_piece" 1250,.str "_law_number" 1251,.str "_law_kind" 1252,.str "_law_step" 1253,.str "_law_words" 1254,.str "_law_fills" 1255,.str "_law_filled_here" 1256,.str "_law_fill" 1257,.str "_law_at" 1258,.str "_law_due_here" 1259]
def Ly:Obj:=ft (T 65) "_law_holds" "_law_holds"
def xj:Obj:=cf "_law_holds" "_law_holds" 1244 457 3 761 1260
def pY:Obj:=fo (T 65) "_law_holds" "_law_holds" "law_joinload_k60_what_is_there_at_first" 1095 766
def K6:Obj:=ft (T 66) "law" "law"
def nF:Obj:=co "law" "law" 1263 471 1 3 768 true 769 (.ref 770) 1266
def vO:Obj:=fo (T 66) "law" "law" "law_joinload_k60_what_is_there_at_first" 1095 771
def Xf(P:Params)(r:List (Nat×Obj)):List (Nat×Obj):=(3,MH P)::(12,ND)::(695,e1)::(696,e2)::(697,xq)::(698,e1)::(699,Ih)::(700,n9)::(701,nM)::(702,e1)::(703,e2)::(704,Jt)::(705,vW)::(706,nH)::(707,e1)::(708,e2)::(709,rN)::(710,e1)::(711,JD)::(712,vU)::(713,qS)::(714,e1)::(715,e2)::(716,pT)::r
def W0(P:Params)(r:List (Nat×Obj)):List (Nat×Obj):=(717,e1)::(718,F0)::(719,uS)::(720,pK)::(721,e1)::(722,e2)::(723,qK)::(724,e1)::(725,Ii)::(726,wN)::(727,rD)::(728,e1)::(729,e2)::(730,uw)::(731,e1)::(732,IV)::(733,nX)::(734,vF)::(735,e1)::(736,e2)::(737,G7)::(738,qj)::(739,wR)::(740,e1)::r
def Yc(P:Params)(r:List (Nat×Obj)):List (Nat×Obj):=(741,e2)::(742,rO)::(743,e1)::(744,GY)::(745,oA)::(746,sE)::(747,e1)::(748,e2)::(749,wz)::(750,e1)::(751,F2)::(752,rm)::(753,pQ)::(754,e1)::(755,e2)::(756,sU)::(757,e1)::(758,Gd)::(759,sW)::(760,tY)::(761,e1)::(762,e2)::(763,vH)::(764,e1)::r
def V8(P:Params)(r:List (Nat×Obj)):List (Nat×Obj):=(765,Ly)::(766,xj)::(767,pY)::(768,e1)::(769,e2)::(770,K6)::(771,nF)::(772,vO)::r
def T8(P:Params):BT:=mg 14 (T7 P) (Xf P (W0 P (Yc P (V8 P ([])))))
def YF(w:World):OsState->SharedT:=sT (T8 w.params) 773 1269
def L7:List Stmt:=My.top 55::My.top 56::My.top 57::My.top 58::My.top 59::My.top 60::My.top 61::My.top 62::My.top 63::My.top 64::My.top 65::My.top 66::[]
def P7(w:World):Prop:=sR w 389 YG YF L7 ⟨370,0,379,99⟩ ⟨471,0,502,128⟩
def Zo(P:Params)(r:List Obj):List Obj:=boot_o_0 P::boot_o_1 P::boot_o_2 P::MH P::boot_o_4 P::boot_o_5 P::boot_o_6 P::boot_o_7 P::boot_o_8 P::boot_o_9 P::boot_o_10 P::e1::ND::Im::EH::e1::e2::BW::e1::NJ::Bn::A6::e1::e2::r
def Zw(P:Params)(r:List Obj):List Obj:=B3::e1::N6::CC::Bh::e1::e2::Cc::e1::NM::Bp::Cz::e1::e2::BI::e1::Oq::Cf::AL::e1::e2::Be::e1::NL::r
def Zm(P:Params)(r:List Obj):List Obj:=Aj::Cr::tu #[.type "ValueError"]::bp::Ng P::e1::e2::NB::Nr::e1::AQ P::Bc::Aq::su 59::bs 59::tu #[.ref 59]::bp::NV P::e1::e2::Ow::Nh::e1::AK P::r
def ZW(P:Params)(r:List Obj):List Obj:=As::su 72::bs 72::tu #[.ref 59]::bp::Ny P::e1::Ob::NS::Nt::e1::e2::B_::e1::N3::BQ::AY::CT::BP P::Bf::su 91::bs 91::tu #[.ref 59]::bp::r
def ZG(P:Params)(r:List Obj):List Obj:=NU P::e1::Oy::NA::FV::e1::e2::uH::e1::E5::oQ::vA::qR::sJ P::pV::su 110::bs 110::tu #[.ref 59]::bp::Lq P::e1::Kv::Jj::Lb::r
def Z3(P:Params)(r:List Obj):List Obj:=e1::e2::oM::e1::Er::o6::qv::ou::qM P::sZ::su 129::bs 129::tu #[.ref 59]::bp::Lj P::e1::e2::G5::GQ::e1::uy P::wI::su 141::bs 141::r
def ZY(P:Params)(r:List Obj):List Obj:=e1::e2::Kg::uM::oH::e1::e2::uu::e1::GJ::vb::oU::e1::e2::pZ::e1::Lr::u3::tP::e1::e2::Fq::uR::wX::r
def Zu(P:Params)(r:List Obj):List Obj:=e1::e2::Ho::pR::ue::e1::e2::tR::e1::Iu::tV::uO::e1::e2::qu::e1::HL::wL::nZ::e1::e2::ua::e1::G6::r
def Zx(P:Params)(r:List Obj):List Obj:=rZ::nS::e1::bp::IQ P::e1::EB::EG::Ft::e1::e2::uf::e1::Lk::r9::vh::e1::e2::pD::e1::Ez::wW::uD::e1::r
def ZT(P:Params)(r:List Obj):List Obj:=e2::qV::e1::HK::vD::o8::e1::e2::qL::e1::FX::rP::sS::e1::e2::p6::e1::Ht::vQ::vi::vV::vt P::oF::tq::r
def WH(P:Params)(r:List Obj):List Obj:=sH::su 238::bs 238::tu #[.ref 238]::bp::KS P::e1::JE::FU::IK::e1::e2::wY::e1::JS::wj::pd::e1::e2::sC::e1::Lm::pW::uL::r
def XU(P:Params)(r:List Obj):List Obj:=e1::tX P::xo::su 266::bs 266::tu #[.ref 238]::bp::JX P::e1::Ek::E8::HD::e1::e2::uc::e1::KQ::oh::qA::e1::e2::ud::e1::FJ::r
def VX(P:Params)(r:List Obj):List Obj:=nK::nV::e1::uT P::nE::su 292::bs 292::tu #[.ref 238]::bp::IM P::e1::EY::Ie::Lw::e1::e2::ug::e1::EL::vX::oY::e1::e2::tJ::r
def XW(P:Params)(r:List Obj):List Obj:=e1::JJ::rL::rR::e1::xf P::wH::su 318::bs 318::tu #[.ref 238]::bp::G0 P::e1::GD::Hn::J4::e1::e2::oW::e1::FG::nj::vw::e1::r
def Ww(P:Params)(r:List Obj):List Obj:=e2::qC::e1::F3::uY::tE::e1::e2::wc::e1::J0::qZ::nR::e1::e2::rh::e1::Hq::wG::rY::e1::qc P::qY::su 358::r
def Xb(P:Params)(r:List Obj):List Obj:=bs 358::tu #[.ref 238]::bp::FK P::e1::Jb::IE::Kk::e1::e2::r6::e1::Jk::o9::rS::e1::e2::tT::e1::Jv::nN::sy::e1::e2::r
def W2(P:Params)(r:List Obj):List Obj:=tZ::e1::HM::oK::qH::e1::e2::tU::e1::El::sL::vS::e1::w_ P::oV::su 398::bs 398::e1::e2::sG::e1::E4::oP::uh::r
def Wl(P:Params)(r:List Obj):List Obj:=e1::e2::Em::oN::u6::e1::e2::Kj::pz::vd::e1::e2::Gj::wO::u_::e1::bp::J5 P::e1::HA::JA::EK::e1::e2::r
def WM(P:Params)(r:List Obj):List Obj:=qk::e1::Lu::vB::xl::e1::e2::vC::e1::GX::o_::rM::e1::e2::qQ::e1::Hz::oB::uQ::nk::rG P::rE::qi::wD::r
def WZ(P:Params)(r:List Obj):List Obj:=su 453::bs 453::e1::e2::t_::e1::Ks::sM::vK::e1::e2::tW::e1::Ig::nC::oj::e1::e2::uW::e1::GW::pP::qh::e1::r
def Ye(P:Params)(r:List Obj):List Obj:=bp::Ke P::e1::Ku::Fb::GV::e1::e2::oq::e1::E3::tG::nU::sY::rQ P::u7::ni::pJ::su 495::bs 495::e1::e2::rj::e1::r
def Yi(P:Params)(r:List Obj):List Obj:=HR::wt::vZ::e1::e2::vz::e1::HS::pU::vT::e1::e2::rT::e1::KO::u5::wQ::e1::e2::ql::e1::F8::tO::pO::r
def Xx(P:Params)(r:List Obj):List Obj:=e1::e2::uI::e1::IC::qO::sF::e1::e2::vp::e1::J6::p9::uX::e1::bp::Fx P::e1::Gm::KC::FD::e1::e2::GA::r
def Xq(P:Params)(r:List Obj):List Obj:=tL::wV::e1::e2::uj::e1::GC::uC::wo::e1::e2::uv::e1::K1::qX::wC::e1::e2::KY::nv::ub::e1::e2::qP::r
def XI(P:Params)(r:List Obj):List Obj:=e1::Fj::xu::vE::e1::e2::rX::e1::GL::qN::oE::e1::e2::sr::e1::Gr::uU::uV::e1::e2::nJ::e1::Ib::uN::r
def Yg(P:Params)(r:List Obj):List Obj:=rW::e1::e2::tI::e1::G_::vR::qB::e1::e2::uo::e1::FW::pM::ny::e1::e2::tQ::e1::G8::rH::uA::e1::e2::r
def WB(P:Params)(r:List Obj):List Obj:=u0::e1::EM::qt::nB::e1::e2::sD::e1::F5::qy::oI::e1::e2::n8::e1::EC::p7::pA::e1::e2::wu::e1::Kr::r
def Wa(P:Params)(r:List Obj):List Obj:=ui::xb::e1::e2::Hw::qG::qF::e1::e2::we::e1::I0::vN::vG::ur::wM P::nO::qW::sI::su 664::bs 664::e1::e2::qI::r
def X8(P:Params)(r:List Obj):List Obj:=e1::JF::va::v_::e1::e2::pN::e1::I_::oR::tK::e1::e2::sO::e1::Jl::og::vv::e1::e2::F_::tM::uq::e1::r
def W9(P:Params)(r:List Obj):List Obj:=e2::xq::e1::Ih::n9::nM::e1::e2::Jt::vW::nH::e1::e2::rN::e1::JD::vU::qS::e1::e2::pT::e1::F0::uS::r
def Wi(P:Params)(r:List Obj):List Obj:=pK::e1::e2::qK::e1::Ii::wN::rD::e1::e2::uw::e1::IV::nX::vF::e1::e2::G7::qj::wR::e1::e2::rO::e1::r
def Xg(P:Params)(r:List Obj):List Obj:=GY::oA::sE::e1::e2::wz::e1::F2::rm::pQ::e1::e2::sU::e1::Gd::sW::tY::e1::e2::vH::e1::Ly::xj::pY::r
def Xu(P:Params)(r:List Obj):List Obj:=e1::e2::K6::nF::vO::r
def Hf(P:Params):Heap:=⟨⟨Zo P (Zw P (Zm P (ZW P (ZG P (Z3 P (ZY P (Zu P (Zx P (ZT P (WH P (XU P (VX P (XW P (Ww P (Xb P (W2 P (Wl P (WM P (WZ P (Ye P (Yi P (Xx P (Xq P (XI P (Yg P (WB P (Wa P (X8 P (W9 P (Wi P (Xg P (Xu P ([])))))))))))))))))))))))))))))))))⟩,li⟩
def Sf(w:World)(os:OsState):Shared:=⟨Hf w.params,⟨[]⟩,boot_drawn,1269,os⟩
def Fin(w:World):Prop:=(λos=>topRun treeTable pw w 11 an 2 (YF w os).abs ⟨doneF .next,cE,⟨471,0,502,128⟩,B⟩)=λos=>some (Sf w os)
def q:Program:={ pw with main:={ pw.main with body:=My.top 0::My.top 2::My.top 3::My.top 4::My.top 5::My.top 6::My.top 8::My.top 9::My.top 10::My.top 11::My.top 12::My.top 13::My.top 15::My.top 16::My.top 17::My.top 18::My.top 19::My.top 20::My.top 21::My.top 23::My.top 24::My.top 25::My.top 26::My.top 27::My.top 28::My.top 29::My.top 30::My.top 32::My.top 33::My.top 35::My.top 36::My.top 37::My.top 38::My.top 39::My.top 41::My.top 42::My.top 43::My.top 44::My.top 45::My.top 46::My.top 47::My.top 49::My.top 51::My.top 52::My.top 53::My.top 54::My.top 55::My.top 56::My.top 57::My.top 58::My.top 59::My.top 60::My.top 61::My.top 62::My.top 63::My.top 64::My.top 65::My.top 66::[] } }
section
local macro_rules | `(term| $n:num) => `(nat_lit $n)
def K(P:Params):Frag:=(2,boot_o_2 P)::(3,MH P)::(4,boot_o_4 P)::(15,e1)::(17,BW)::(18,e1)::(20,Bn)::(21,A6)::(22,e1)::(24,B3)::(25,e1)::(27,CC)::(28,Bh)::(29,e1)::(31,Cc)::(32,e1)::(34,Bp)::(35,Cz)::(36,e1)::(38,BI)::(39,e1)::(41,Cf)::(42,AL)::(43,e1)::(45,Be)::(46,e1)::(48,Aj)::(49,Cr)::(50,tu #[.type "ValueError"])::(57,e1)::(58,AQ P)::(59,Bc)::(60,Aq)::(63,tu #[.ref 59])::(70,e1)::(71,AK P)::(72,As)::(75,tu #[.ref 59])::(82,e1)::(84,B_)::(85,e1)::(87,BQ)::(88,AY)::(89,CT)::(90,BP P)::(91,Bf)::(94,tu #[.ref 59])::(101,e1)::(103,uH)::(104,e1)::(106,oQ)::(107,vA)::(108,qR)::(109,sJ P)::(110,pV)::(113,tu #[.ref 59])::(120,e1)::(122,oM)::(123,e1)::(125,o6)::(126,qv)::(127,ou)::(128,qM P)::(129,sZ)::(132,tu #[.ref 59])::(139,e1)::(140,uy P)::(141,wI)::(144,e1)::(147,uM)::(148,oH)::(149,e1)::(151,uu)::(152,e1)::(154,vb)::(155,oU)::(156,e1)::(158,pZ)::(159,e1)::(161,u3)::(162,tP)::(163,e1)::(166,uR)::(167,wX)::(168,e1)::(171,pR)::(172,ue)::(173,e1)::(175,tR)::(176,e1)::(178,tV)::(179,uO)::(180,e1)::(182,qu)::(183,e1)::(185,wL)::(186,nZ)::(187,e1)::(189,ua)::(190,e1)::(192,rZ)::(193,nS)::(201,e1)::(203,uf)::(204,e1)::(206,r9)::(207,vh)::(208,e1)::(210,pD)::(211,e1)::(213,wW)::(214,uD)::(215,e1)::(217,qV)::(218,e1)::(220,vD)::(221,o8)::(222,e1)::(224,qL)::(225,e1)::(227,rP)::(228,sS)::(229,e1)::(231,p6)::(232,e1)::(234,vQ)::(235,vi)::(236,vV)::(237,vt P)::(238,oF)::(239,tq)::(240,sH)::(243,tu #[.ref 238])::(250,e1)::(252,wY)::(253,e1)::(255,wj)::(256,pd)::(257,e1)::(259,sC)::(260,e1)::(262,pW)::(263,uL)::(264,e1)::(265,tX P)::(266,xo)::(269,tu #[.ref 238])::(276,e1)::(278,uc)::(279,e1)::(281,oh)::(282,qA)::(283,e1)::(285,ud)::(286,e1)::(288,nK)::(289,nV)::(290,e1)::(291,uT P)::(292,nE)::(295,tu #[.ref 238])::(302,e1)::(304,ug)::(305,e1)::(307,vX)::(308,oY)::(309,e1)::(311,tJ)::(312,e1)::(314,rL)::(315,rR)::(316,e1)::(317,xf P)::(318,wH)::(321,tu #[.ref 238])::(328,e1)::(330,oW)::(331,e1)::(333,nj)::(334,vw)::(335,e1)::(337,qC)::(338,e1)::(340,uY)::(341,tE)::(342,e1)::(344,wc)::(345,e1)::(347,qZ)::(348,nR)::(349,e1)::(351,rh)::(352,e1)::(354,wG)::(355,rY)::(356,e1)::(357,qc P)::(358,qY)::(361,tu #[.ref 238])::(368,e1)::(370,r6)::(371,e1)::(373,o9)::(374,rS)::(375,e1)::(377,tT)::(378,e1)::(380,nN)::(381,sy)::(382,e1)::(384,tZ)::(385,e1)::(387,oK)::(388,qH)::(389,e1)::(391,tU)::(392,e1)::(394,sL)::(395,vS)::(396,e1)::(397,w_ P)::(398,oV)::(401,e1)::(403,sG)::(404,e1)::(406,oP)::(407,uh)::(408,e1)::(411,oN)::(412,u6)::(413,e1)::(416,pz)::(417,vd)::(418,e1)::(421,wO)::(422,u_)::(430,e1)::(432,qk)::(433,e1)::(435,vB)::(436,xl)::(437,e1)::(439,vC)::(440,e1)::(442,o_)::(443,rM)::(444,e1)::(446,qQ)::(447,e1)::(449,oB)::(450,uQ)::(451,nk)::(452,rG P)::(453,rE)::(454,qi)::(455,wD)::(458,e1)::(460,t_)::(461,e1)::(463,sM)::(464,vK)::(465,e1)::(467,tW)::(468,e1)::(470,nC)::(471,oj)::(472,e1)::(474,uW)::(475,e1)::(477,pP)::(478,qh)::(486,e1)::(488,oq)::(489,e1)::(491,tG)::(492,nU)::(493,sY)::(494,rQ P)::(495,u7)::(496,ni)::(497,pJ)::(500,e1)::(502,rj)::(503,e1)::(505,wt)::(506,vZ)::(507,e1)::(509,vz)::(510,e1)::(512,pU)::(513,vT)::(514,e1)::(516,rT)::(517,e1)::(519,u5)::(520,wQ)::(521,e1)::(523,ql)::(524,e1)::(526,tO)::(527,pO)::(528,e1)::(530,uI)::(531,e1)::(533,qO)::(534,sF)::(535,e1)::(537,vp)::(538,e1)::(540,p9)::(541,uX)::(549,e1)::(552,tL)::(553,wV)::(554,e1)::(556,uj)::(557,e1)::(559,uC)::(560,wo)::(561,e1)::(563,uv)::(564,e1)::(566,qX)::(567,wC)::(568,e1)::(571,nv)::(572,ub)::(573,e1)::(575,qP)::(576,e1)::(578,xu)::(579,vE)::(580,e1)::(582,rX)::(583,e1)::(585,qN)::(586,oE)::(587,e1)::(589,sr)::(590,e1)::(592,uU)::(593,uV)::(594,e1)::(596,nJ)::(597,e1)::(599,uN)::(600,rW)::(601,e1)::(603,tI)::(604,e1)::(606,vR)::(607,qB)::(608,e1)::(610,uo)::(611,e1)::(613,pM)::(614,ny)::(615,e1)::(617,tQ)::(618,e1)::(620,rH)::(621,uA)::(622,e1)::(624,u0)::(625,e1)::(627,qt)::(628,nB)::(629,e1)::(631,sD)::(632,e1)::(634,qy)::(635,oI)::(636,e1)::(638,n8)::(639,e1)::(641,p7)::(642,pA)::(643,e1)::(645,wu)::(646,e1)::(648,ui)::(649,xb)::(650,e1)::(653,qG)::(654,qF)::(655,e1)::(657,we)::(658,e1)::(660,vN)::(661,vG)::(662,ur)::(663,wM P)::(664,nO)::(665,qW)::(666,sI)::(669,e1)::(671,qI)::(672,e1)::(674,va)::(675,v_)::(676,e1)::(678,pN)::(679,e1)::(681,oR)::(682,tK)::(683,e1)::(685,sO)::(686,e1)::(688,og)::(689,vv)::(690,e1)::(693,tM)::(694,uq)::(695,e1)::(697,xq)::(698,e1)::(700,n9)::(701,nM)::(702,e1)::(705,vW)::(706,nH)::(707,e1)::(709,rN)::(710,e1)::(712,vU)::(713,qS)::(714,e1)::(716,pT)::(717,e1)::(719,uS)::(720,pK)::(721,e1)::(723,qK)::(724,e1)::(726,wN)::(727,rD)::(728,e1)::(730,uw)::(731,e1)::(733,nX)::(734,vF)::(735,e1)::(738,qj)::(739,wR)::(740,e1)::(742,rO)::(743,e1)::(745,oA)::(746,sE)::(747,e1)::(749,wz)::(750,e1)::(752,rm)::(753,pQ)::(754,e1)::(756,sU)::(757,e1)::(759,sW)::(760,tY)::(761,e1)::(763,vH)::(764,e1)::(766,xj)::(767,pY)::(768,e1)::(771,nF)::(772,vO)::[]
end
def K2(P:Params):Frag:=K P
section
local macro_rules | `(term| $n:num) => `(nat_lit $n)
def as:List Addr:=2::3::4::15::17::18::20::21::22::24::25::27::28::29::31::32::34::35::36::38::39::41::42::43::45::46::48::49::50::57::58::59::60::63::70::71::72::75::82::84::85::87::88::89::90::91::94::101::103::104::106::107::108::109::110::113::120::122::123::125::126::127::128::129::132::139::140::141::144::147::148::149::151::152::154::155::156::158::159::161::162::163::166::167::168::171::172::173::175::176::178::179::180::182::183::185::186::187::189::190::192::193::201::203::204::206::207::208::210::211::213::214::215::217::218::220::221::222::224::225::227::228::229::231::232::234::235::236::237::238::239::240::243::250::252::253::255::256::257::259::260::262::263::264::265::266::269::276::278::279::281::282::283::285::286::288::289::290::291::292::295::302::304::305::307::308::309::311::312::314::315::316::317::318::321::328::330::331::333::334::335::337::338::340::341::342::344::345::347::348::349::351::352::354::355::356::357::358::361::368::370::371::373::374::375::377::378::380::381::382::384::385::387::388::389::391::392::394::395::396::397::398::401::403::404::406::407::408::411::412::413::416::417::418::421::422::430::432::433::435::436::437::439::440::442::443::444::446::447::449::450::451::452::453::454::455::458::460::461::463::464::465::467::468::470::471::472::474::475::477::478::486::488::489::491::492::493::494::495::496::497::500::502::503::505::506::507::509::510::512::513::514::516::517::519::520::521::523::524::526::527::528::530::531::533::534::535::537::538::540::541::549::552::553::554::556::557::559::560::561::563::564::566::567::568::571::572::573::575::576::578::579::580::582::583::585::586::587::589::590::592::593::594::596::597::599::600::601::603::604::606::607::608::610::611::613::614::615::617::618::620::621::622::624::625::627::628::629::631::632::634::635::636::638::639::641::642::643::645::646::648::649::650::653::654::655::657::658::660::661::662::663::664::665::666::669::671::672::674::675::676::678::679::681::682::683::685::686::688::689::690::693::694::695::697::698::700::701::702::705::706::707::709::710::712::713::714::716::717::719::720::721::723::724::726::727::728::730::731::733::734::735::738::739::740::742::743::745::746::747::749::750::752::753::754::756::757::759::760::761::763::764::766::767::768::771::772::[]
end
def H:Hook:=kHook K as (λ_=>by kernel_rfl)
abbrev R:WRecords:=RowW.records (OpenRow.toRowW (OpenLaw.row PySem.Challenge.rw_joinload_k60_what_is_there_at_first))
abbrev Xt(s:Shared):Bool:=xlAt q [] s&&recOk R s
def Uy(w:World):Prop:=((boot_heap w.params).isNs mainGlobals&&(⟨[]⟩:Array GenState).size == 0,(boot_heap w.params).objs.size,(boot_heap w.params).nsMap mainGlobals "__annotations__")=(true,11,an)
def LA(w:World):Prop:=(λos=>staticsOk (importedModules pw.main.body) (boot_heap w.params) (Hf w.params)&&namesBound pw (Hf w.params)&&gensDone (Sf w os)&&laidKept (boot_heap w.params) (Hf w.params))=λ_=>true
def Yz(w:World):Prop:=(λos=>seen ((recsOf q).map (·.name)) (ownsOf q) [] { Sf w os with gens:=#[] })=λ_=>expectedOf q
def YV(w:World):Prop:=(λos=>(Sf w os).heap.bltView)=λ_=>bltViewBooted
def Y_(w:World):Prop:=(λos=>(Sf w os).heap.keysOk (looseW q []) ((recsOf q).map (·.name)) ((litsOf q).map (·.1)) ((clssOf q (looseW q [])).map (·.name))&&(Sf w os).heap.accountedOkI (importedModules pw.main.body)&&(Sf w os).heap.isNs mainGlobals&&(Sf w os).heap.isNs builtinsNs&&tablesOk q (Sf w os).heap&&Xt (Sf w os)&&(if true then (Sf w os).gens.size == 0 else !leftWithCleanup (Sf w os).gens))=λ_=>true
def YO(w:World):Prop:=(λos=>tabsOk q (Sf w os))=λ_=>true
def Y5(w:World):Prop:=(λos=>pinSeenD q (drecsOf q) (Sf w os))=λ_=>pinGoodD (drecsOf q)
def YN(w:World):Prop:=(λos=>plainSeenE q (looseW q []) (Sf w os))=λ_=>plainGoodE q (looseW q [])
def YQ(w:World):Prop:=(λos=>plainSeenD q [] (Sf w os))=λ_=>plainGoodD q []
def YI(w:World):Prop:=(λos=>wideSeen q (Sf w os))=λ_=>wideGood q
def YH(w:World):Prop:=(λos=>clsSeenW q [] (Sf w os))=λ_=>clsGoodW q []
def Yk(w:World):Prop:=(λos=>as.map (Sf w os).heap.get?)=λ_=>(K2 w.params).map λp=>some p.2
theorem Yp:K=K2:=by kernel_rfl
end Hd
namespace Hd
open PySem PySem.W PySem.Calls PyProof.Rows
theorem Vb(w:World):Pre w:=by
 delta Pre
 kernel_rfl
theorem UL(w:World):Ys w:=by
 delta Ys
 kernel_rfl
theorem WE(w:World):P0 w:=by
 delta P0
 kernel_rfl
theorem V_(w:World):P1 w:=by
 delta P1
 kernel_rfl
theorem Xc(w:World):P2 w:=by
 delta P2
 kernel_rfl
theorem X4(w:World):P3 w:=by
 delta P3
 kernel_rfl
theorem Xv(w:World):P4 w:=by
 delta P4
 kernel_rfl
theorem V5(w:World):P5 w:=by
 delta P5
 kernel_rfl
theorem Xy(w:World):P6 w:=by
 delta P6
 kernel_rfl
theorem Wh(w:World):P7 w:=by
 delta P7
 kernel_rfl
theorem UZ(w:World):Fin w:=by
 delta Fin
 kernel_rfl
theorem PU(w:World):Uy w:=by
 delta Uy
 kernel_rfl
theorem Yd(w:World):LA w:=by
 delta LA
 kernel_rfl
theorem SJ(w:World):Yz w:=by
 delta Yz
 kernel_rfl
theorem U4(w:World):YV w:=by
 delta YV
 kernel_rfl
theorem Tf(w:World):Y_ w:=by
 delta Y_
 kernel_rfl
theorem UW(w:World):YO w:=by
 delta YO
 kernel_rfl
theorem UX(w:World):Y5 w:=by
 delta Y5
 kernel_rfl
theorem UN(w:World):YN w:=by
 delta YN
 kernel_rfl
theorem SI(w:World):YQ w:=by
 delta YQ
 kernel_rfl
theorem Sw(w:World):YI w:=by
 delta YI
 kernel_rfl
theorem Uc(w:World):YH w:=by
 delta YH
 kernel_rfl
theorem WW(w:World):Yk w:=by
 delta Yk
 kernel_rfl
def R7:List Stmt:=L7++[]
def R6:List Stmt:=L6++R7
def R5:List Stmt:=L5++R6
def R4:List Stmt:=L4++R5
def R3:List Stmt:=L3++R4
def R2:List Stmt:=L2++R3
def R1:List Stmt:=L1++R2
def R0:List Stmt:=L0++R1
theorem RJ:bd=R0:=by kernel_rfl
theorem Qj(w:World)(os:OsState):topRun treeTable pw w 11 an (826+(866+(742+(559+(814+(816+(884+(389+2)))))))) (Xr w os).abs (restOf R0 en cE ⟨0,0,0,0⟩ B)=some (Sf w os):=
 (piece_app (l:=L0) (segRun_of (congrFun (WE w) os)) (piece_app (l:=L1) (segRun_of (congrFun (V_ w) os)) (piece_app (l:=L2) (segRun_of (congrFun (Xc w) os)) (piece_app (l:=L3) (segRun_of (congrFun (X4 w) os)) (piece_app (l:=L4) (segRun_of (congrFun (Xv w) os)) (piece_app (l:=L5) (segRun_of (congrFun (V5 w) os)) (piece_app (l:=L6) (segRun_of (congrFun (Xy w) os)) (piece_app (l:=L7) (segRun_of (congrFun (Wh w) os)) (congrFun (UZ w) os)))))))))
theorem UH(w:World)(os:OsState):topRun treeTable pw w 11 an (12+(1+(826+(866+(742+(559+(814+(816+(884+(389+2)))))))))) (S0 w os) (topStub pw)=some (Sf w os):=
 go_top (congrFun (Vb w) os) (piece_block (congrFun (UL w) os) (by
  rw[show restOf bd en cE ⟨0,0,0,0⟩ B=restOf R0 en cE ⟨0,0,0,0⟩ B from congrArg (λl=>restOf l en cE ⟨0,0,0,0⟩ B) RJ]
  exact Qj w os))
theorem Wx(w:World)(os:OsState):Hook.obs H (Sf w os)=Hook.val H w:=by
 show as.map (Sf w os).heap.get?=(K w.params).map λp=>some p.2
 rw[Yp];exact congrFun (WW w) os
theorem Po:LeftO pw q [] Xt (Hook.obs H) (Hook.val H) 11902:=
 LeftO.of_pieces (H₀:=boot_heap) (H₁:=Hf) (m₀:=11) (ann:=an) (boot_open rfl rfl (λ_=>rfl)) PU UH (by decide +kernel) λw=>funext λos=>
  looks_pair (congrFun (Yd w) os) (looks_pair
   (show openSeen q [] (importedModules pw.main.body) Xt true (Sf w os)=openGood q [] from
    looks_pair (congrFun (SJ w) os) (looks_pair (congrFun (U4 w) os) (looks_pair (congrFun (Tf w) os) (looks_pair (congrFun (UW w) os) (looks_pair (congrFun (UX w) os) (looks_pair (congrFun (UN w) os) (looks_pair (congrFun (SI w) os) (looks_pair (congrFun (Sw w) os) (congrFun (Uc w) os)))))))))
   (Wx w os))
end Hd
open PySem PySem.W PyProof.Rows
set_option maxRecDepth 100000 in
set_option maxHeartbeats 0 in
theorem PySem.Challenge.cw_joinload_k60_what_is_there_at_first_holds : PySem.Challenge.rw_joinload_k60_what_is_there_at_first.Holds := by
 w_on;refine holds_law Zk λsaid=>?_
 refine holds_open (q:=Hd.q) (loose:=[]) (Xt:=Hd.Xt) (XP:=XL Hd.q []) (Yf:=Hook.obs Hd.H) (Ya:=Hook.val Hd.H) (YP:=InK Hd.K) Hd.Po (Hook.of Hd.H) (Hook.keeps Hd.H) (λs e=>xl_of s (Bool.and_eq_true_iff.mp e).1) XL.keeps (by rfl) (by rfl) (by rfl) (λs e=>recFacts_of (Bool.and_eq_true_iff.mp e).2) (by rfl) (by first|assumption|decide +kernel) (by decide +kernel) ⟨rfl,rfl,rfl,rfl,rfl,by decide +kernel⟩ ?hw ?hc
 (case hw=>w_witness2)
 k_fill
 refine My.walk (l:=PySem.Challenge.rw_joinload_k60_what_is_there_at_first) (K:=Hd.K) (br:=157) (aN:=419) rfl rfl (by decide) (λw h Y=>Y) ?hT ?F
 case hT=>
  intro w h lo mean mg mb KX TP T hT
  simp only[List.mem_cons,List.not_mem_nil,or_false]at hT
  rcases hT with rfl|rfl
  ·refine' L2.En (x := "names_of") (y := "names_of") (st:=My.Cp) (T:=157) KX TP (by kernel_rfl) _ _ _
   all_goals first|exact⟨_,_,_,_,_,_,_,_,_,by k_is,by k_is,by k_is,by kernel_rfl⟩|k_is|kernel_rfl|skip
  ·refine' L2.En (x := "taken") (y := "taken") (st:=My.j4) (T:=419) KX TP (by kernel_rfl) _ _ _
   all_goals first|exact⟨_,_,_,_,_,_,_,_,_,by k_is,by k_is,by k_is,by kernel_rfl⟩|k_is|kernel_rfl|skip
 case F=>
  intro w mg fa h KX G hmg
  refine' My.all_mk (br:=157) (aN:=419) KX G hmg _ _ _ _ _ _ _ _ _ _ _ _ _ _ _ _ _ _ _ _ _ _ _ _ _ _ _ _ _ _ _ _ _ _ _ _ _ _ _ _ _ _ _ _ _ _ _ _ _ _ _ _ _ _ _ _ _ _ _ _ _ _ _ _ _ _ _ _ _ _ _ _ _ _ _ _ _ _ _ _ _ _ _ _ _ _ _ _ _ _ _ _ _ _ _ _ _ _ _ _ _ _ _ _ _ _ _ _ _ _ _ _ _ _ _ _ _ _ _ _ _ _ _ _ _ _ _ _ _ _ _ _ _ _ _ _ _ _ _ _ _ _ _ _ _ _ _ _ _ _ _ _ _ _ _ _ _ _ _ _ _ _ _ _ _ _ _ _ _ _ _ _ _ _ _ _ _ _ _ _ _ _ _ _ _ _ _ _ _ _ _ _ _ _ _ _ _ _ _ _
  all_goals first|exact⟨_,_,_,_,_,_,_,_,_,by k_is,by k_is,by k_is⟩|exact⟨_,_,_,_,_,_,_,_,_,by k_is,by k_is,by k_is,by kernel_rfl⟩|exact⟨_,by decide,by decide,by k_is⟩|k_is|kit_is|skip
#print axioms PySem.Challenge.cw_joinload_k60_what_is_there_at_first_holds
