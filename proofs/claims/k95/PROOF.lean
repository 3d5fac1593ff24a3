import PyProof.Rows.All
import Wide.All
import OpenK.AllK
import Wide.FinOn
import Lean
import PyProof.EqAt
import PyProof.EqKinds
import PyProof.TupleCall
import PyProof.StationsW
import PyProof.ExcAttrAll.ValueError
import KE.KIsAll
import PyProof.RulesAs
import PyProof.NsDelKeeps
import PyProof.FString
import PyProof.FString4
import PyProof.Rows.FStr
import PyProof.Rows.FStrParts
import PyProof.StrCalls2
import PyProof.StrLawsRepr
import PyProof.StrLawsJoin
import PyProof.StrLaws
import PyProof.Rows.ReprOcc
import PyProof.ExcInit
import PyProof.InstStoreFacts
import KE.KDictOf
import PyProof.AttrMissHeap
import PyProof.AttrMissSeq
import PyProof.WalksS
import PyProof.Walks
import PyProof.Seq
import PyProof.DictList
import PyProof.DictUpdate
import PyProof.MakeMany
import PyProof.Rows.SetFrom
import PyProof.ZipIter
import PyProof.Rows.TupDisplay
import PyProof.EnumFor
import PyProof.EnumMake
import PyProof.EnumStmt
import PyProof.SeqI3
import PyProof.Rows.SumAny
import KE.KDictIter
import PyProof.DictWalks
import PyProof.StrLawsChain
import PyProof.StrLawsTight
import KE.KIntText
import PyProof.CallType
import PyProof.Rows.CallKwBuiltin
import PyProof.Draws
import PyProof.DefCall
import PyProof.SetKind
import PyProof.DictKinds
import PyProof.CollectWalk
import PyProof.FactsAll.set
import PyProof.DictIter
import PyProof.FactsTree
import PyProof.CollectStr
import KE.KDictLaws
import PyProof.Rows.SortShellK
import PyProof.Rows.SortWalk
import PyProof.Rows.StrNews2
import KE.KRevIter
import PyProof.ListNew
import PyProof.ListRange
import PyProof.WalkInts
import KE.KLam
import KE.KSortKey
import PyProof.AutoSeq1
import PyProof.ListIndex
import PyProof.DictRoadsH
import PyProof.NeKinds
import PyProof.DictFindH
import PySem.Challenge.RW_joinload_k95_whole_not_taken_is_nothing
open Lean.Parser.Command in
local macro_rules
 | `(command| def $i:declId $s:optDeclSig $v:declVal) => `(command| noncomputable def $i:declId $s:optDeclSig $v:declVal)
 | `(command| abbrev $i:declId $s:optDeclSig $v:declVal) => `(command| noncomputable abbrev $i:declId $s:optDeclSig $v:declVal)
local macro_rules | `(s!$x) => match x.raw[0].isInterpolatedStrLit? with | some s => `(PySem.Str.ofString $(Lean.quote s)) | none => Lean.Macro.throwUnsupported
set_option genInjectivity false
set_option compiler.extract_closed false
abbrev Wf:=PySem.W.Frag
abbrev Vs:=PySem.Value->PySem.Shared->Prop
abbrev Lo:=List (PySem.Addr×PySem.Obj)
abbrev So:=PySem.Str->Option PySem.Value
open PySem.W (instObj lookIn plainGet hasDictIn findIn handedIn plainGet_of isFn plainOver takerIn makesIn emptyDict keepIn specialIn takesIn mroIn kitOne kia_one kitx_list kitx_dict callWith_K methodCall_KW cellsFrom_some fnOf codeIn KdkAt tabObj codeHdIn kla_obj codeHd_of_K kla_fn)
abbrev aD := @List.length_map
abbrev aE := @PySem.wpAny_bind
abbrev aQ := @List.mem_map
abbrev bu := @List.map_append
abbrev cS := @PySem.Heap.get?_push_of_some
abbrev cx := @List.mem_singleton
abbrev bM := @List.mem_append
abbrev bh := @PySem.wpAny_pure
abbrev dI := @List.mem_of_getElem?
abbrev dv := @List.length_append
abbrev eZ := @Option.map_eq_some_iff
abbrev gZ := @List.getElem?_eq_some_iff
abbrev bS := @Nat.le_refl
abbrev cC := @List.map_map
abbrev h9 := @List.getElem?_eq_getElem
abbrev gi := @List.mem_append_right
abbrev cR := @PySem.Heap.lt_size
abbrev gG := @List.mem_append_left
abbrev hV := @PySem.Heap.get?_push_size
abbrev gX := @List.nodup_append
abbrev gU := @List.getElem?_map
abbrev jD := @List.mem_cons_of_mem
abbrev d0 := @Nat.ne_of_lt
abbrev iC := @List.size_toArray
abbrev d_ := @Nat.zero_le
abbrev kx := @Nat.lt_of_lt_of_le
abbrev ko := @List.mem_cons_self
abbrev wF := @List.mem_of_find?_eq_some
abbrev jE := @List.mem_flatMap
abbrev ix := @List.take_succ
abbrev jM := @List.length_take
abbrev kD := @List.take_length
abbrev iu := @List.mem_cons
abbrev md := @List.length_cons
abbrev lx := @Bool.and_eq_true
abbrev nM := @Bool.false_ne_true
abbrev iZ := @List.map_cons
abbrev ia := @Nat.le_trans
abbrev mH := @List.nodup_cons
abbrev nj := @List.any_eq_true
abbrev nY := @List.append_nil
abbrev wC := @List.getElem_map
abbrev D6 := @List.pairwise_iff_getElem
abbrev mI := @PySem.wpAny_holding
abbrev AN := @List.getElem_of_mem
abbrev wR := @List.getElem_mem
abbrev Ki := @List.getD_eq_getElem?_getD
abbrev qV := @List.mem_range
abbrev yz := @List.append_assoc
abbrev Cg := @List.map_congr_left
abbrev C2 := @List.getElem?_of_mem
abbrev yw := @List.mem_filter
abbrev CU := @List.flatMap_append
abbrev wB := @Nat.lt_irrefl
abbrev C3 := @List.find?_eq_none
abbrev Ko := @List.length_filter_le
abbrev DY := @Array.length_toList
abbrev A3 := @List.foldl_cons
abbrev C0 := @Int.toNat_natCast
abbrev m8 := @PySem.wpAny_mono
abbrev Pb := @List.getElem?_append_left
abbrev Jz := @Nat.lt_succ_self
abbrev Kl := @PySem.wpAny_askSetting
abbrev Rg := @List.getElem?_append_right
abbrev O7 := @PySem.Heap.get?_update_other
abbrev LQ := @PySem.wpAny_truthy_bool
abbrev KU := @PySem.wpAny_setState_of
abbrev Nk := @PySem.Heap.get?_update_ne
abbrev Kq := @List.find?_some
abbrev QQ := @PySem.Heap.get?_update_self
abbrev NU := @List.mem_filterMap
abbrev Om := @List.length_range
abbrev KI := @List.find?_cons
abbrev MV := @PySem.wpAny_call_entry
abbrev Qm := @PySem.wpAny_Call_Name_kw
abbrev CV := @Nat.le_succ
abbrev KO := @List.find?_map
abbrev Va := @Array.getElem?_eq_getElem
abbrev Rl := @Nat.pow_le_pow_right
abbrev Vl := @List.getElem?_take_of_lt
abbrev OD := @List.foldl_append
abbrev U9 := @Nat.testBit_div_two_pow
abbrev S4 := @Int.eq_ofNat_of_zero_le
abbrev CW := @PySem.wpAny_rule
abbrev MS := @Option.map_map
abbrev OY := @PySem.wpAny_passesOwn
abbrev VP := @Nat.testBit_two_pow_mul_add
abbrev LK := @Nat.le_of_lt
abbrev S8 := @List.getElem?_toArray
abbrev Qn := @Bool.eq_iff_iff
abbrev Rt := @Nat.lt_trichotomy
abbrev Ru := @Nat.le_succ_of_le
abbrev Rq := @List.pairwise_map
abbrev Rj := @Nat.le_add_right
abbrev TH := @PySem.wpAny_setEntries_of
abbrev TQ := @List.length_take_le
abbrev UJ := @Int.toNat_of_nonneg
abbrev Vz := @Option.isSome_iff_exists
abbrev V6 := @PySem.wpAny_getItem_str_slice
abbrev VD := @PySem.wpAny_callSpecial?_slot
abbrev Ry := @List.sum_append
abbrev S7 := @List.filter_append
abbrev VF := @Nat.testBit_lt_two_pow
abbrev Ti := @PySem.wpAny_pyIter_list
abbrev Ug := @PySem.wpAny_newObj_type
abbrev S5 := @PySem.wpAny_dictEntries
abbrev Tv := @Option.isSome_map
abbrev Tr := @Nat.lt_succ_of_lt
abbrev Rx := @PySem.wpAny_seqItems
abbrev RF := @PySem.Heap.size_push
abbrev Wb := @List.take_append_drop
abbrev Vu := @List.length_singleton
abbrev Wl := @Array.getElem?_toList
abbrev Up := @PySem.wpAny_typeOf_ref
abbrev X0 := @List.take_append_of_le_length
abbrev Ur := @List.filter_cons
abbrev Ve := @List.cons_append
abbrev VO := @List.pairwise_append
abbrev RD := @PySem.wpAny_attempt
abbrev Rb := @List.any_cons
set_option hygiene false in
local macro_rules
|`('a')=>`((hr.mono (by decide)))
|`('b')=>`((model X.prog X.w))
|`('c')=>`((model prog w))
|`('d')=>`((bs.map Value.ref))
|`('e')=>`((by decide +kernel))
|`('f')=>`((eY (((a0,G)::xs).map λx=>V.ref x.1) (some 1) none))
|`('g')=>`((by walk_at "n"))
|`('h')=>`((cz (K:=K) rfl))
|`('i')=>`((List Key×V))
|`('j')=>`((by rw[aD,sizeLine_eq];omega))
|`('k')=>`((by intro z;cases z))
|`('l')=>`((bq I q (by simp)))
|`('m')=>`((s.heap.objs.size+1))
|`('q')=>`((upd H2 s2.heap.objs.size (.lst [])))
|`('r')=>`((ps.map ah.name))
|`('t')=>`((Addr×List ah))
|`('u')=>`((ns.map V.int))
|`('v')=>`((ao (pv 2) aa))
|`('z')=>`((by walk_at "o"))
|`('B')=>`((tx K (pv 0)))
|`('C')=>`((.ref s.heap.objs.size))
|`('D')=>`((ao (pv 3) aa))
|`('E')=>`((ao (pv 1) aa))
|`('F')=>`((.type "dict"))
|`('H')=>`(((flat xs).map aC))
|`('K')=>`((.builtin "object.__class__"))
|`('Q')=>`((.builtin "sorted"))
|`('S')=>`((s1.trans s2))
|`('T')=>`((EP X pins σ Q))
|`('V')=>`((p.aS.map aw.name))
|`('*')=>`((K w.params))
|`('<')=>`((List.range ps.length))
namespace Ws
open PySem PySem.W PyProof.Rows
set_option maxRecDepth 100000
set_option genSizeOfSpec false
set_option maxHeartbeats 0
theorem fJ(h:xs.all id=true->a=true):(b::xs).all id=true->(a&&b)=true:=λe=>by
 rw[List.all_cons,lx]at e;rw[h e.2];exact e.1
theorem ws0:[a].all id=true->a=true:=λe=>by simpa using e
theorem zJ{xs:List Bool}(n:Nat)(a:(xs.take n).all id=true)(b:(xs.drop n).all id=true):xs.all id=true:=by
 rw[<-Wb n xs,List.all_append,a,b];rfl
def wPs(l:OpenLaw):{ ps:List Bool // ps.all id=true->l.wellSaid=true }:=by
 unfold OpenLaw.wellSaid;exact⟨_,fJ (fJ (fJ (fJ (fJ (fJ (fJ (fJ (fJ (fJ (fJ (fJ (fJ (fJ (fJ (fJ (fJ (fJ (fJ (fJ (fJ (fJ (fJ (fJ (fJ (fJ (fJ (fJ (fJ (fJ (fJ (fJ (fJ (fJ (fJ (fJ (fJ (fJ (fJ (ws0)))))))))))))))))))))))))))))))))))))))⟩
abbrev wX:List Bool:=(wPs PySem.Challenge.rw_joinload_k95_whole_not_taken_is_nothing).1
theorem wc0:((wX).take 5).all id=true:=by kernel_rfl
theorem wc1:((wX.drop 5).take 5).all id=true:=by kernel_rfl
theorem wc2:(((wX.drop 5).drop 5).take 5).all id=true:=by kernel_rfl
theorem wc3:((((wX.drop 5).drop 5).drop 5).take 5).all id=true:=by kernel_rfl
theorem wc4:(((((wX.drop 5).drop 5).drop 5).drop 5).take 5).all id=true:=by kernel_rfl
theorem wc5:((((((wX.drop 5).drop 5).drop 5).drop 5).drop 5).take 5).all id=true:=by kernel_rfl
theorem wc6:(((((((wX.drop 5).drop 5).drop 5).drop 5).drop 5).drop 5).take 5).all id=true:=by kernel_rfl
theorem wc7:(((((((wX.drop 5).drop 5).drop 5).drop 5).drop 5).drop 5).drop 5).all id=true:=by kernel_rfl
theorem wSa:PySem.Challenge.rw_joinload_k95_whole_not_taken_is_nothing.wellSaid=true:=(wPs _).2 (zJ 5 wc0 (zJ 5 wc1 (zJ 5 wc2 (zJ 5 wc3 (zJ 5 wc4 (zJ 5 wc5 (zJ 5 wc6 (wc7))))))))
end Ws
set_option Elab.async false
set_option linter.all false
set_option maxRecDepth 100000
namespace L2
open PySem PySem.Spec PyProof.Rows
abbrev Key:=Sum Int Str
def keyIs:Key->Value->Bool
 |.inl k,v=>Value.isInt k v
 |.inr x,v=>Value.isStrOf x v
def keyH(w:World):Key->Int
 |.inl k=>hashInt k
 |.inr x=>hashStr w x
theorem mS:∀{k:Key}{v:Value},keyIs k v=true->(∃i t,k=Sum.inl i/\v=Value.int i t)\/(∃x t,k=Sum.inr x/\v=Value.str x t)
 |.inl i,v,h=>by
  obtain⟨t,e⟩:=Value.isInt_shape h;exact .inl ⟨i,t,rfl,e⟩
 |.inr x,v,h=>by
  obtain⟨t,e⟩:=Value.isStrOf_shape h;exact .inr ⟨x,t,rfl,e⟩
theorem CA(i:Int)(t:Tok):keyIs (.inl i) (.int i t)=true:=by simp[keyIs,Value.isInt]
theorem BN(x:Str)(t:Tok):keyIs (.inr x) (.str x t)=true:=by simp[keyIs,Value.isStrOf]
theorem Pr(a b:Int):decide ((Sum.inl a:Key)=Sum.inl b)=(a == b):=by grind
theorem QP(a b:Str):decide ((Sum.inr a:Key)=Sum.inr b)=decide (a=b):=by simp_all
theorem Q0(a:Int)(b:Str):decide ((Sum.inl a:Key)=Sum.inr b)=false:=decide_eq_false (λq=>nomatch q)
theorem O5(a:Str)(b:Int):decide ((Sum.inr a:Key)=Sum.inl b)=false:=decide_eq_false (λq=>nomatch q)
def aX(prog:Program)(w:World):PySem.KeyKind prog w Key where
 is:=keyIs
 hash:=keyH w
 inj:=λv a b ha hb=>by
  rcases mS ha with ⟨i,t,rfl,rfl⟩|⟨x,t,rfl,rfl⟩
  ·rcases mS hb with ⟨j,u,rfl,e⟩|⟨y,u,rfl,e⟩
   ·injection e with e1 _;rw[e1]
   ·exact nomatch e
  ·rcases mS hb with ⟨j,u,rfl,e⟩|⟨y,u,rfl,e⟩
   ·exact nomatch e
   ·injection e with e1 _;rw[e1]
 byValue:=λk v h=>by
  rcases mS h with ⟨i,t,rfl,rfl⟩|⟨x,t,rfl,rfl⟩<;>rfl
 pyHash:=λhv h=>by
  rcases mS hv with ⟨i,t,rfl,rfl⟩|⟨x,t,rfl,rfl⟩
  ·exact wpAny_pyHash_int h
  ·exact wpAny_pyHash_str h
 eqBool:=λhu hv h=>by
  rcases mS hu with ⟨i,t,rfl,rfl⟩|⟨x,t,rfl,rfl⟩
  ·rcases mS hv with ⟨j,u,rfl,rfl⟩|⟨y,u,rfl,rfl⟩
   ·rw[Pr]at h;exact wpAny_eqBool_int h
   ·rw[Q0]at h;exact SeqAt.EqAt.int_str i t y u _ _ _ _ h
  ·rcases mS hv with ⟨j,u,rfl,rfl⟩|⟨y,u,rfl,rfl⟩
   ·rw[O5]at h;exact SeqAt.EqAt.str_int x t j u _ _ _ _ h
   ·rw[QP]at h;exact wpAny_eqBool_str h
 «strs»:=λk x t v h=>by
  rcases mS h with ⟨i,u,rfl,e⟩|⟨y,u,rfl,e⟩
  ·exact nomatch e
  ·injection e with e1 _;subst e1;cases v<;>rfl
theorem xT(prog:Program)(w:World)(i:Int)(t:Tok):(aX prog w).is (.inl i) (.int i t)=true:=CA i t
theorem xA(prog:Program)(w:World)(x:Str)(t:Tok):(aX prog w).is (.inr x) (.str x t)=true:=BN x t
set_option genInjectivity true in
inductive V where
 |bB|bl (b:Bool)|int (i:Int)|str (x:Str)|yy (b:Array UInt8)|QS (b:UInt64)|ref (a:Addr)|ty (n:String)
 deriving DecidableEq
def RelV:V->Value->Prop
 |.bB,u=>u=Value.none
 |.bl b,u=>u=Value.bool b
 |.int i,u=>∃t,u=Value.int i t
 |.str x,u=>∃t,u=Value.str x t
 |.yy b,u=>∃t,u=Value.bytes b t
 |.QS b,u=>∃t,u=Value.float b t
 |.ref a,u=>u=Value.ref a
 |.ty n,u=>u=Value.type n
abbrev Vals:List V->List Value->Prop:=Paired RelV
theorem Vals.length{xs:List V}{us:List Value}(r:Vals xs us):xs.length=us.length:=Paired.length r
theorem Vals.get:∀{xs:List V}{us:List Value}{i:Nat}{x:V},Vals xs us->xs[i]?=some x->∃u,us[i]?=some u/\RelV x u
 |_,_,_,_,.nil,e=>by simp at e
 |_,_,0,_,.cons r _,e=>by simp at e;subst e;exact⟨_,rfl,r⟩
 |_,_,i+1,x,.cons _ t,e=>by
  obtain⟨u,h1,h2⟩:=Vals.get t e;exact⟨u,by simpa using h1,h2⟩
theorem Vals.set(r:RelV x u):∀{xs:List V}{us:List Value}(i:Nat),Vals xs us->Vals (xs.set i x) (us.set i u)
 |_,_,_,.nil=>.nil
 |_,_,0,.cons _ t=>.cons r t
 |_,_,i+1,.cons q t=>.cons q (Vals.set r i t)
theorem Vals.append:∀{xs ys:List V}{us ws:List Value},Vals xs us->Vals ys ws->Vals (xs++ys) (us++ws)
 |_,_,_,_,.nil,s=>s
 |_,_,_,_,.cons r t,s=>.cons r (Vals.append t s)
theorem Vals.take:∀{xs:List V}{us:List Value}(n:Nat),Vals xs us->Vals (xs.take n) (us.take n)
 |_,_,0,_=>.nil
 |_,_,_+1,.nil=>.nil
 |_,_,n+1,.cons r t=>.cons r (Vals.take n t)
theorem Vals.drop:∀{xs:List V}{us:List Value}(n:Nat),Vals xs us->Vals (xs.drop n) (us.drop n)
 |_,_,0,r=>r
 |_,_,_+1,.nil=>.nil
 |_,_,n+1,.cons _ t=>Vals.drop n t
def fV:Option V->Option Value->Prop
 |some v,some u=>RelV v u
 |none,none=>True
 |_,_=>False
def KV{κ:Type}:List (κ×V)->List (κ×Value)->Prop:=Paired λ(p:κ×V) (q:κ×Value)=>p.1=q.1/\RelV p.2 q.2
def kV:Key->V
 |.inl i=>.int i
 |.inr x=>.str x
set_option genInjectivity true in
inductive HO where
  |lst (xs:List V)
  |tup (xs:List V)
  |dK (ag:List (Key×V))|dT (ag:List 'i')
  |set (S:Int->Bool) (n:Nat)
  |ins (C dx:Addr) (fs:List (Str×V))
  |own (x:Addr)
  |xd (fs:List (Str×V))
  |met (f x:Addr)
  |KS (lo hi:Int)
  |iw (o:Obj) (u:HO)
  |iO (ps:Array Value)
  |ext (φ:Heap->Prop)
abbrev Hp:=Addr->Option HO
def upd(H:Hp)(a:Addr)(o:HO):Hp:=λb=>if b=a then some o else H b
theorem aJ:upd H a o a=some o:=by unfold upd;rw[if_pos rfl]
theorem ae(h:b≠a):upd H a o b=H b:=by unfold upd;rw[if_neg h]
theorem kW:upd (upd H a o) a u=upd H a u:=by
 funext b;unfold upd;split<;>rfl
theorem cj{H:Hp}{a b:Addr}{o u:HO}(h:H a=some o)(h':H b=some u)(d:o≠u):a≠b:=by
 intro e;subst e;rw[h]at h';exact d (Option.some.inj h')
theorem bA{H:Hp}{a b:Addr}{o:HO}(h:H a=some o)(h':H b=none):a≠b:=by grind
section
variable(P:Program)(w:World)
def cg(H:Hp)(h:Heap)(a:Addr):HO->Prop
 |.lst xs=>xs.length<=sizeLine/\∃(its:List Value) (n:Nat),Vals xs its/\h.get? a=some { cls:=.type "list", data:=.seq its.toArray n }
 |.tup xs=>xs.length<=sizeLine/\∃its:List Value,Vals xs its/\IsTup h a its.toArray
 |.dK ag=>ag.length<=sizeLine/\(a == sysModules)=false/\∃vs,KV ag vs/\h.DictOf (aX P w) a vs
 |.dT ag=>ag.length<=sizeLine/\(a == sysModules)=false/\∃xs:List (List Key×Addr×Value),
   Paired (λ(p:List Key×V) (q:List Key×Addr×Value)=>p.1=q.1/\H q.2.1=some (.tup (p.1.map kV))/\RelV p.2 q.2.2) ag xs/\
   ∃o es ep,h.get? a=some o/\o.ExactDict/\o.data=.dict es ep/\es.toList=xs.map (entryOfKey (tupleKind (aX P w)))/\(xs.map (·.1)).Nodup
 |.set S n=>h.SetOf (intKind P w) a S n
 |.ins C dx fs=>H dx=some (.own a)/\fs.length<=1000/\dx≠a/\h.get? a=some (instObj C dx)/\
   ∃mA,h.Ns1 dx mA/\(∀f,fV (fs.lookup f) (mA f))/\PySem.Within mA (fs.map (·.1))
 |.own _=>∃o,h.get? a=some o
 |.xd fs=>∃mA,h.Ns1 a mA/\∀f,fV (fs.lookup f) (mA f)
 |.KS lo hi=>∃t u v,h.get? a=some { cls:=.type "range", data:=.fields #[.int lo t,.int hi u,.int 1 v] }
 |.iw o u=>h.get? a=some o/\cg H h a u
 |.iO ps=>h.get? a=some { cls:=.none,data:=.fields ps }
 |.met f x=>h.get? a=some (PySem.W.methodObj (.ref f) (.ref x))
 |.ext φ=>φ h/\(∃o,h.get? a=some o)/\∀h1 h2:Heap,φ h1->(∀o,h1.get? a=some o->h2.get? a=some o)->φ h2
def gT(H:Hp)(h:Heap):Prop:=∀a o,H a=some o->cg P w H h a o
end
section
variable{P:Program}{w:World}{H H':Hp}{h h':Heap}{a:Addr}{o:HO}
theorem cg.lt(x:cg P w H h a o):a<h.objs.size:=by
 cases o with
 |lst xs=>obtain⟨_,_,_,_,e⟩:=x;exact cR e
 |tup xs=>obtain⟨_,_,_,p⟩:=x;exact p.lt
 |dK ag=>obtain⟨_,_,_,_,o,_,_,e,_⟩:=x;exact cR e
 |dT ag=>obtain⟨_,_,_,_,o,_,_,e,_⟩:=x;exact cR e
 |set S n=>obtain⟨o,_,_,_,e,_⟩:=x;exact cR e
 |ins C dx fs=>obtain⟨_,_,_,e,_⟩:=x;exact cR e
 |own y=>obtain⟨_,e⟩:=x;exact cR e
 |xd fs=>obtain⟨_,⟨_,_,_,e,_⟩,_⟩:=x;exact cR e
 |KS lo hi=>obtain⟨_,_,_,e⟩:=x;exact cR e
 |iw ob u=>obtain⟨e,_⟩:=x;exact cR e
 |iO ps=>exact cR x
 |met f y=>exact cR x
 |ext φ=>obtain⟨_,⟨_,e⟩,_⟩:=x;exact cR e
theorem Paired.Q2{α β:Type}{F G:α->β->Prop}:∀{l₁:List α}{l₂:List β},Paired F l₁ l₂->(∀a b,F a b->G a b)->Paired G l₁ l₂
 |_,_,.nil,_=>.nil
 |_,_,.cons r t,f=>.cons (f _ _ r) (Paired.Q2 t f)
theorem cg.jU(x:cg P w H h a o)(k:∀b u,(b=a\/H b=some (.own a))->h.get? b=some u->h'.get? b=some u)
  (ho:∀b,H b=some (.own a)->H' b=some (.own a)) (ht:∀b xs,H b=some (.tup xs)->H' b=some (.tup xs)):cg P w H' h' a o:=by
 induction o with
 |lst xs=>obtain⟨z,its,n,r,e⟩:=x;exact⟨z,its,n,r,k _ _ (.inl rfl) e⟩
 |tup xs=>obtain⟨z,its,r,ob,e,c⟩:=x;exact⟨z,its,r,ob,k _ _ (.inl rfl) e,c⟩
 |dK ag=>obtain⟨z,y,vs,r,ob,es,ep,e,c⟩:=x;exact⟨z,y,vs,r,ob,es,ep,k _ _ (.inl rfl) e,c⟩
 |dT ag=>
  obtain⟨z,y,xs,r,ob,es,ep,e,c⟩:=x;exact⟨z,y,xs,Paired.Q2 r λp q z=>⟨z.1,ht _ _ z.2.1,z.2.2⟩,ob,es,ep,k _ _ (.inl rfl) e,c⟩
 |set S n=>obtain⟨ob,es,ep,t,e,c⟩:=x;exact⟨ob,es,ep,t,k _ _ (.inl rfl) e,c⟩
 |ins C dx fs=>
  obtain⟨d,z,ne,e,mA,⟨od,es,ep,e2,c⟩,r⟩:=x;exact⟨ho _ d,z,ne,k _ _ (.inl rfl) e,mA,⟨od,es,ep,k _ _ (.inr d) e2,c⟩,r⟩
 |own y=>obtain⟨ob,e⟩:=x;exact⟨ob,k _ _ (.inl rfl) e⟩
 |xd fs=>obtain⟨mA,⟨od,es,ep,e,c⟩,r⟩:=x;exact⟨mA,⟨od,es,ep,k _ _ (.inl rfl) e,c⟩,r⟩
 |KS lo hi=>obtain⟨t,u,v,e⟩:=x;exact⟨t,u,v,k _ _ (.inl rfl) e⟩
 |iw ob u ih=>obtain⟨e,q⟩:=x;exact⟨k _ _ (.inl rfl) e,ih q⟩
 |iO ps=>
  have e:=x;exact k a _ (.inl rfl) e
 |met f y=>
  have e:=x;exact k a _ (.inl rfl) e
 |ext φ=>obtain⟨p,⟨o,e⟩,st⟩:=x;exact⟨st _ _ p λo q=>k _ _ (.inl rfl) q,⟨o,k _ _ (.inl rfl) e⟩,st⟩
theorem gT.lt(x:gT P w H h)(e:H a=some o):a<h.objs.size:=(x a o e).lt
theorem gT.fresh(x:gT P w H h)(e:h.objs.size<=a):H a=none:=by
 cases q:H a with
 |none=>rfl
 |some u=>exact absurd (kx (x.lt q) e) (wB _)
theorem gT.kept(x:gT P w H h)(k:∀b u,h.get? b=some u->h'.get? b=some u):gT P w H h':=λa o e=>
 (x a o e).jU (λb u _ q=>k b u q) (λ_ q=>q) λ_ _ q=>q
theorem gT.laid(x:gT P w H h)(k:∀b u,h.get? b=some u->h'.get? b=some u)(hp:h.objs.size<=a)(new:cg P w (upd H a o) h' a o):gT P w (upd H a o) h':=λb u e=>by
 have hn:=x.fresh hp;by_cases hb:b=a
 ·subst hb;rw[aJ]at e;cases e;exact new
 ·rw[ae hb]at e;exact(x b u e).jU (λc v _ q=>k c v q) (λc q=>(ae (bA q hn))▸q) λc xs q=>(ae (bA q hn))▸q
end
def Rd(H:Hp)(a:Addr)(u:HO):Prop:=H a=some u\/∃o,H a=some (.iw o u)
theorem Rd.ok{P:Program}{w:World}{H:Hp}{h:Heap}{a:Addr}{u:HO}(r:Rd H a u)(x:gT P w H h):cg P w H h a u:=by
 rcases r with r|⟨o,r⟩
 ·exact x a u r
 ·obtain⟨_,q⟩:=x a _ r;exact q
def U5:Option HO->Prop
 |some (.lst _)=>True
 |some (.dK _)=>True
 |some (.dT _)=>True
 |some (.set _ _)=>True
 |some (.ins _ _ _)=>True
 |some (.ext _)=>True
 |_=>False
section
variable{P:Program}{w:World}{H:Hp}{h h':Heap}{x e:Addr}{o':HO}
theorem gT.write(ok:gT P w H h)(mu:U5 (H x))(he:e=x\/H e=some (.own x))(k:∀b u,b≠e->h.get? b=some u->h'.get? b=some u)(heo:∃u,h'.get? e=some u)
  (new:cg P w (upd H x o') h' x o'):gT P w (upd H x o') h':=λb u q=>by
 have nown:∀c y,H c=some (.own y)->c≠x:=λc y r z=>by subst z;rw[r]at mu;exact mu
 have ntup:∀c xs,H c=some (.tup xs)->c≠x:=λc xs r z=>by subst z;rw[r]at mu;exact mu
 by_cases hb:b=x
 ·subst hb;rw[aJ]at q;cases q;exact new
 ·rw[ae hb]at q;by_cases hbe:b=e
  ·have q':H b=some (.own x):=by
    rcases he with z|z
    ·exact absurd (hbe.trans z) hb
    ·rw[hbe];exact z
   rw[q]at q';cases q';obtain⟨v,hv⟩:=heo;exact⟨v,hbe▸hv⟩
  ·refine(ok b u q).jU (λc v hc r=>k c v ?_ r) (λc r=>(ae (nown c b r))▸r) λc xs r=>(ae (ntup c xs r))▸r;rcases hc with rfl|hc
   ·exact hbe
   ·grind
end
structure Un(fs ex:List Addr)(H H':Hp)(h h':Heap):Prop where
 keep:∀b o,h.get? b=some o->H b=none->b∉fs->b∉ex->h'.get? b=some o
 slot:∀b o,h.get? b=some o->H b=none->b∈fs->b∉ex->∃sl,h'.get? b=some { o with slots:=sl }
 free:∀b o,h.get? b=some o->H b=none->b∉ex->H' b=none
 there:∀b o,h.get? b=some o->b∉ex->∃o',h'.get? b=some o'
 qv:∀b xs,H b=some (.tup xs)->H' b=some (.tup xs)
 mX:∀b o u,H b=some (.iw o u)->H' b=some (.iw o u)
 mQ:∀b ps,H b=some (.iO ps)->∃more,H' b=some (.iO (ps++more))
section
variable{fs fs' ex ex':List Addr}{H H1 H2:Hp}{h h1 h2 h':Heap}{a x e:Addr}{o:HO}
theorem Un.any(u:Un fs ex H H1 h h1){b:Addr}{ob:Obj}(q:h.get? b=some ob)(n:H b=none)(hx:b∉ex):∃sl,h1.get? b=some { ob with slots:=sl }:=by
 by_cases hb:b∈fs
 ·exact u.slot b ob q n hb hx
 ·exact⟨ob.slots,u.keep b ob q n hb hx⟩
theorem Un.kept(k:∀b u,h.get? b=some u->h'.get? b=some u):Un fs ex H H h h':=
 ⟨λb ob q _ _ _=>k b ob q,λb ob q _ _ _=>⟨ob.slots,k b ob q⟩,λ_ _ _ n _=>n,λb ob q _=>⟨ob,k b ob q⟩,λ_ _ q=>q,λ_ _ _ q=>q,λ_ ps q=>⟨#[],by rw[q];simp⟩⟩
theorem Un.refl:Un fs ex H H h h:=Un.kept λ_ _ q=>q
theorem Un.laid(k:∀b u,h.get? b=some u->h'.get? b=some u)(hp:h.objs.size<=a)(hn:H a=none):Un fs ex H (upd H a o) h h' where
 keep:=λb u q _ _ _=>k b u q
 slot:=λb u q _ _ _=>⟨u.slots,k b u q⟩
 free:=λb u q n _=>(ae (d0 (kx (cR q) hp)))▸n
 there:=λb u q _=>⟨u,k b u q⟩
 qv:=λb xs q=>(ae (bA q hn))▸q
 mX:=λb u xs q=>(ae (bA q hn))▸q
 mQ:=λb ps q=>⟨#[],by rw[ae (bA q hn),q];simp⟩
theorem Un.write(mu:U5 (H x))(he:e=x\/H e=some (.own x))(k:∀b u,b≠e->h.get? b=some u->h'.get? b=some u)(heo:∃u,h'.get? e=some u):Un fs ex H (upd H x o) h h':=by
 have hx:∀b,H b=none->b≠x:=λb n z=>by subst z;rw[n]at mu;exact mu
 have hb:∀b,H b=none->b≠e:=λb n z=>by
  subst z;rcases he with r|r
  ·exact hx b n r
  ·rw[n]at r;cases r
 have hm:∀b u,H b=some u->¬U5 (some u)->b≠x:=λb u q nm z=>by subst z;rw[q]at mu;exact nm mu
 refine⟨λb u q n _ _=>k b u (hb b n) q,λb u q n _ _=>⟨u.slots,k b u (hb b n) q⟩,λb u q n _=>(ae (hx b n))▸n,λb u q _=>?_,
  λb xs q=>(ae (hm b _ q λz=>z))▸q,λb u xs q=>(ae (hm b _ q λz=>z))▸q,λb ps q=>⟨#[],by rw[ae (hm b _ q λz=>z),q];simp⟩⟩
 by_cases hbe:b=e
 ·subst hbe;exact heo
 ·exact⟨u,k b u hbe q⟩
end
def yx(h:Heap)(H:Hp):List Addr:=(List.range h.objs.size).filter λa=>(H a).isSome
def xj(h:Heap)(H:Hp):Heap:=PySem.W.hideAll h (yx h H)
theorem Cy(h:Heap)(H:Hp):(xj h H).objs.size=h.objs.size:=PySem.W.hideAll_size _ _
theorem Eg(e:h.get? b=some o)(n:H b=none):(xj h H).get? b=some o:=
 PySem.W.hideAll_get _ e λhm=>by
  have q:=(yw.mp hm).2;rw[n]at q;simp at q
theorem Kz(e:(xj h H).get? b=some o):h.get? b=some o/\H b=none:=by
 have e':=PySem.W.of_hideAll (yx h H) e;refine⟨e',?_⟩;cases q:H b with
 |none=>rfl
 |some x=>
  have hm:b∈yx h H:=yw.mpr ⟨qV.mpr (cR e'),by simp[q]⟩;have z:(xj h H).get? b=none:=PySem.W.hideAll_none (yx h H) hm;rw[z]at e;cases e
def KW(g h:Heap)(L:Addr):Lo:=(List.range h.objs.size).filterMap λa=>if a=L\/(g.get? a).isSome=true then none else (h.get? a).map λo=>(a,o)
def rest(g h:Heap)(L d:Addr):Lo:=(KW g h L).filter λp=>decide (p.1≠d)
structure Mod(K:Wf)(mg:So)(base:Heap):Prop where
 Rn:K.In base
 glob:base.Ns mainGlobals mg
 blt:∃mb,base.Ns builtinsNs mb/\∀x:Str,x ≠ "__name__" -> mb x=bootBuiltins x
 nolimit:base.NoLimit
structure Cx where
 prog:Program
 w:World
 K:Wf
 mg:Str->Option Value
 base:Heap
 A:Around
 N:List Str
 s₀:Shared
 H₀:Hp
 env:Env
 outer:List Env
 stack:List Env
 ex:List Addr
 fn:Str->Bool
 calm:Bool
 pn:Lo
 xe:Value->Shared->Prop
def Bc(l:List Env):List Addr:=l.filterMap (·.frame)
abbrev Cx.fs(X:Cx):List Addr:=Bc X.outer
def Wt(sc:Scope)(x:Str):Prop:=sc.names.lookup x=some .local\/sc.names.lookup x=some .cell\/sc.names.lookup x=some .free
def Loc(sc:Scope)(x:Str):Prop:=sc.names.lookup x=some .local\/sc.names.lookup x=some .cell
def Look(env:Env)(h:Heap)(m:So)(x:Str)(u:Value):Prop:=
 (env.kindOf x=some .local/\m x=some u)\/((env.kindOf x=some .cell\/env.kindOf x=some .free)/\∃c,env.cells.lookup x=some c/\h.IsCell c (some u))
structure Cx.Ok(X:Cx):Prop where
 mod:Mod X.K X.mg X.base
 kind:X.env.scope.kind=.function
 glob:X.env.globals=mainGlobals
 blt:X.env.builtins=builtinsNs
 above:X.s₀.heap.objs.size<=X.env.locals
 inj:∀x y c,X.env.cells.lookup x=some c->X.env.cells.lookup y=some c->x=y
 has:∀x,(X.env.kindOf x=some .cell\/X.env.kindOf x=some .free)->∃c,X.env.cells.lookup x=some c
 Rp:∀x c,X.fn x=true->X.env.cells.lookup x=some c->X.s₀.heap.objs.size<=c
 hd:X.calm=true->X.A.handled=none
 frames:X.A.frames=some X.stack
 NF:X.stack=X.outer\/(X.stack=X.env::X.outer/\X.env.frame=some X.env.locals)
 RL:∀b∈X.ex,b≠X.env.locals/\∀x c,X.env.cells.lookup x=some c->c≠b
 bs:∀b o,X.base.get? b=some o->X.s₀.heap.get? b=some o/\X.H₀ b=none
 Gv:X.base.objs.size<=X.s₀.heap.objs.size
 Ct:∀b o,X.base.get? b=some o->b∉X.ex
 yE:∀b∈X.ex,b∉X.fs
 jB:X.s₀.heap.FunFrames X.base X.outer
 LY:∀b∈X.fs,X.H₀ b=none
structure Inv(X:Cx)(pins:Lo)(σ:List (Option V))(H:Hp)(s:Shared):Prop where
 ok:X.Ok
 os:s.os=X.s₀.os
 bare:AllBare s.gens
 base:Un X.fs X.ex X.H₀ H X.s₀.heap s.heap
 loc:∃m,s.heap.Ns X.env.locals m/\∀(i:Nat) (x:Str) (v:V),X.N[i]?=some x->σ[i]?=some (some v)->Wt X.env.scope x->∃u,RelV v u/\Look X.env s.heap m x u
 cell:∀x c,X.env.cells.lookup x=some c->∃v,s.heap.IsCell c v
 free:H X.env.locals=none
 gr:∀x c,X.env.cells.lookup x=some c->H c=none
 pin:∀p∈X.pn++pins,s.heap.get? p.1=some p.2/\H p.1=none/\p.1≠X.env.locals/\p.1∉X.fs/\∀v,p.2.data≠.cell v
 a6:gT X.prog X.w H s.heap
 len:σ.length=X.N.length
section
variable{X:Cx}{pins:Lo}{σ:List (Option V)}{H H':Hp}{s:Shared}{h':Heap}
theorem Cx.Ok.YK(ok:X.Ok){b:Addr}{o:Obj}(e:X.base.get? b=some o):b∉X.fs:=λhb=>by
 have:=(ok.jB.mem hb).1;rw[e]at this;cases this
theorem Inv.bs(I:Inv X pins σ H s):∀b o,X.base.get? b=some o->s.heap.get? b=some o/\H b=none:=λb o e=>
 ⟨I.base.keep b o (I.ok.bs b o e).1 (I.ok.bs b o e).2 (I.ok.YK e) (I.ok.Ct b o e),I.base.free b o (I.ok.bs b o e).1 (I.ok.bs b o e).2 (I.ok.Ct b o e)⟩
theorem Inv.bk(I:Inv X pins σ H s):∀b o,X.base.get? b=some o->s.heap.get? b=some o:=λb o e=>(I.bs b o e).1
theorem Inv.mod(I:Inv X pins σ H s):Mod X.K X.mg X.base:=I.ok.mod
theorem Inv.jV(I:Inv X pins σ H s):X.K.In s.heap:=I.ok.mod.Rn.keeps I.bk
theorem Inv.lt(I:Inv X pins σ H s):X.env.locals<s.heap.objs.size:=let ⟨_,hn,_⟩:=I.loc;hn.lt
theorem Inv.sz(I:Inv X pins σ H s):X.s₀.heap.objs.size<=s.heap.objs.size:=ia I.ok.above (LK I.lt)
theorem Inv.Tw(I:Inv X pins σ H s){a:Addr}(h:s.heap.objs.size<=a):a∉X.fs:=λhb=>by
 obtain⟨_,o,ho,_⟩:=I.ok.jB.mem hb;exact absurd (kx (cR ho) (ia I.sz h)) (wB _)
theorem Inv.Qg(I:Inv X pins σ H s):∀x c,X.env.cells.lookup x=some c->c≠X.env.locals:=λx c e z=>by
 obtain⟨v,o,ho,hd⟩:=I.cell x c e;obtain⟨m,⟨o',es,ep,ho',hd',_⟩,_⟩:=I.loc;rw[z,ho']at ho;cases ho;rw[hd']at hd;cases hd
theorem Inv.jB(I:Inv X pins σ H s):s.heap.FunFrames X.base X.outer:=by
 have all:∀l,(∀b∈Bc l,b∈X.fs)->X.s₀.heap.FunFrames X.base l->s.heap.FunFrames X.base l:=by
  intro l
  induction l with
  |nil=>intro _ _;trivial
  |cons env r ih=>
   intro hs hl;obtain⟨hk,⟨L,o,hf,hn,ho,hd⟩,hr⟩:=hl;have hL:=hs L (by unfold Bc;rw[List.filterMap_cons,hf];exact List.mem_cons_self);obtain⟨sl,e⟩:=I.base.slot L o ho (I.ok.LY L hL) hL λz=>I.ok.yE L z hL;exact⟨hk,⟨L,_,hf,hn,e,hd⟩,ih (λb hb=>hs b (by unfold Bc;rw[List.filterMap_cons,hf];exact List.mem_cons_of_mem _ hb)) hr⟩
 exact all X.outer (λ_ hb=>hb) I.ok.jB
theorem Inv.stack(I:Inv X pins σ H s):s.heap.FunFrames X.base X.stack:=by
 rcases I.ok.NF with e|⟨e,hf⟩
 ·rw[e];exact I.jB
 ·rw[e];obtain⟨m,hn,_⟩:=I.loc;exact .cons (by rw[I.ok.kind];decide) hf hn (Heap.get?_none_of_le (ia I.ok.Gv I.ok.above)) I.jB
theorem Inv.rB(I:Inv X pins σ H s):∀b∈Bc X.stack,b∈X.env.locals::X.fs:=λb hb=>by
 rcases I.ok.NF with e|⟨e,hf⟩
 ·rw[e]at hb;exact jD _ hb
 ·rw[e]at hb;unfold Bc at hb;rw[List.filterMap_cons,hf]at hb;exact hb
theorem Inv.By(I:Inv X pins σ H s):∀b∈Bc X.stack,H b=none:=λb hb=>by
 rcases iu.mp (I.rB b hb) with e|hb
 ·rw[e];exact I.free
 ·obtain⟨_,o,ho,_⟩:=I.ok.jB.mem hb;exact I.base.free b o ho (I.ok.LY b hb) λz=>I.ok.yE b z hb
theorem Inv.step{g':Array GenState}{t':Nat}{d':Drawn}{ch:List Addr}(I:Inv X pins σ H s)
  (hch:∀b∈ch,(b∈X.ex\/X.s₀.heap.objs.size<=b)/\b≠X.env.locals/\(∀x c,X.env.cells.lookup x=some c->c≠b)/\∀p∈X.pn++pins,p.1≠b)
  (keep:∀b o,b≠X.env.locals->b∉X.fs->b∉ch->s.heap.get? b=some o->H b=none->h'.get? b=some o)
  (slot:∀b o,b≠X.env.locals->b∈X.fs->b∉ch->s.heap.get? b=some o->H b=none->∃sl,h'.get? b=some { o with slots:=sl }) (free:∀b o,b∉ch->s.heap.get? b=some o->H b=none->H' b=none)
  (there:∀b o,b∉ch->s.heap.get? b=some o->∃o',h'.get? b=some o')
  (qv:∀b xs,H b=some (.tup xs)->H' b=some (.tup xs)) (mX:∀b o u,H b=some (.iw o u)->H' b=some (.iw o u)) (mQ:∀b ps,H b=some (.iO ps)->∃more,H' b=some (.iO (ps++more)))
  (ns:∀m,s.heap.Ns X.env.locals m->h'.Ns X.env.locals m) (a6:gT X.prog X.w H' h') (hg:AllBare g'):
  Inv X pins σ H' { s with heap:=h',gens:=g',drawn:=d',toks:=t' }:=by
 have neL:∀b o,X.s₀.heap.get? b=some o->b≠X.env.locals:=λb o e=>d0 (kx (cR e) I.ok.above);have neC:∀b o,X.s₀.heap.get? b=some o->b∉X.ex->b∉ch:=λb o e hx hb=>by
  rcases (hch b hb).1 with z|z
  ·exact hx z
  ·exact absurd (kx (cR e) z) (wB _)
 have cellK:∀x c,X.env.cells.lookup x=some c->∀v,s.heap.IsCell c v->h'.IsCell c v:=λx c e v ⟨o,ho,hd⟩=>by
  have nch:=λz=>(hch c z).2.2.1 x c e rfl;by_cases hc:c∈X.fs
  ·obtain⟨sl,q⟩:=slot c o (I.Qg x c e) hc nch ho (I.gr x c e);exact⟨_,q,hd⟩
  ·exact⟨o,keep c o (I.Qg x c e) hc nch ho (I.gr x c e),hd⟩
 refine⟨I.ok,I.os,hg,⟨λb o e n hb hx=>?_,λb o e n hb hx=>?_,λb o e n hx=>?_,λb o e hx=>?_,λb xs e=>qv b xs (I.base.qv b xs e),λb o xs e=>mX b o xs (I.base.mX b o xs e),λb ps e=>?_⟩,?_,λx c e=>?_,?_,λx c e=>?_,λp hp=>?_,a6,I.len⟩
 ·exact keep b o (neL b o e) hb (neC b o e hx) (I.base.keep b o e n hb hx) (I.base.free b o e n hx)
 ·obtain⟨sl,e1⟩:=I.base.slot b o e n hb hx;obtain⟨sl',e2⟩:=slot b _ (neL b o e) hb (neC b o e hx) e1 (I.base.free b o e n hx);exact⟨sl',e2⟩
 ·obtain⟨o',e1⟩:=I.base.there b o e hx;exact free b o' (neC b o e hx) e1 (I.base.free b o e n hx)
 ·obtain⟨o',e1⟩:=I.base.there b o e hx;exact there b o' (neC b o e hx) e1
 ·obtain⟨m1,e1⟩:=I.base.mQ b ps e;obtain⟨m2,e2⟩:=mQ b _ e1;exact⟨m1++m2,by rw[e2,Array.append_assoc]⟩
 ·obtain⟨m,hn,hl⟩:=I.loc;refine⟨m,ns m hn,λi x v e1 e2 e3=>?_⟩;obtain⟨u,r,l⟩:=hl i x v e1 e2 e3;refine⟨u,r,?_⟩;rcases l with l|⟨k,c,e,z⟩
  ·exact .inl l
  ·exact .inr ⟨k,c,e,cellK x c e _ z⟩
 ·obtain⟨v,z⟩:=I.cell x c e;exact⟨v,cellK x c e v z⟩
 ·obtain⟨m,⟨o,_,_,ho,_⟩,_⟩:=I.loc;exact free _ o (λz=>(hch _ z).2.1 rfl) ho I.free
 ·obtain⟨v,o,ho,hd⟩:=I.cell x c e;exact free c o (λz=>(hch c z).2.2.1 x c e rfl) ho (I.gr x c e)
 ·obtain⟨e,n,ne,nf,d⟩:=I.pin p hp;have nch:=λz=>(hch p.1 z).2.2.2 p hp rfl;exact⟨keep p.1 p.2 ne nf nch e n,free p.1 p.2 nch e n,ne,nf,d⟩
theorem Inv.un(I:Inv X pins σ H s)(u:Un X.fs [] H H' s.heap h')(a6:gT X.prog X.w H' h'):Inv X pins σ H' { s with heap:=h',toks:=t' }:=by
 obtain⟨m,⟨o,es,ep,ho,r⟩,_⟩:=id I.loc;obtain⟨sl,hL⟩:=u.any ho I.free (by simp);exact I.step (ch:=[]) (λ_ z=>nomatch z) (λb o _ hb _ e n=>u.keep b o e n hb (by simp)) (λb o _ hb _ e n=>u.slot b o e n hb (by simp)) (λb o _ e n=>u.free b o e n (by simp)) (λb o _ e=>u.there b o e (by simp)) u.qv u.mX u.mQ (λm' hm=>by
  obtain⟨o',es',ep',ho',r'⟩:=hm;rw[ho]at ho';cases ho';exact⟨_,es',ep',hL,r'⟩) a6 I.bare
theorem Inv.call(I:Inv X pins σ H s)(u:Un (Bc X.stack) ch H H' s.heap h')(a6:gT X.prog X.w H' h')(hg:AllBare g')
  (hch:∀b∈ch,(b∈X.ex\/X.s₀.heap.objs.size<=b)/\b≠X.env.locals/\(∀x c,X.env.cells.lookup x=some c->c≠b)/\∀p∈X.pn++pins,p.1≠b):
  Inv X pins σ H' { s with heap:=h',gens:=g',drawn:=d',toks:=t' }:=by
 obtain⟨m,⟨o,es,ep,ho,r⟩,_⟩:=id I.loc;obtain⟨sl,hL⟩:=u.any ho I.free λz=>(hch _ z).2.1 rfl;exact I.step hch (λb o hL hb hc e n=>u.keep b o e n (λz=>(iu.mp (I.rB b z)).elim hL hb) hc) (λb o _ _ hc e n=>u.any e n hc) (λb o hc e n=>u.free b o e n hc) (λb o hc e=>u.there b o e hc) u.qv u.mX u.mQ (λm' hm=>by
  obtain⟨o',es',ep',ho',r'⟩:=hm;rw[ho]at ho';cases ho';exact⟨_,es',ep',hL,r'⟩) a6 hg
theorem Inv.turned(I:Inv X pins σ H s)(k:∀b o,b≠it->s.heap.get? b=some o->h'.get? b=some o)(hn:H it=none)(hL:it≠X.env.locals)
  (h1:it∈X.ex\/X.s₀.heap.objs.size<=it) (h2:∀x c,X.env.cells.lookup x=some c->c≠it) (h3:∀p∈X.pn++pins,p.1≠it):Inv X pins σ H { s with heap:=h',toks:=t' }:=by
 have nit:∀b u,H b=some u->b≠it:=λb u e z=>by rw[z,hn]at e;cases e
 refine I.step (ch:=[it]) (λb hb=>?_) (λb o _ _ hc e _=>k b o (λz=>hc (by simp[z])) e) (λb o _ _ hc e _=>⟨o.slots,k b o (λz=>hc (by simp[z])) e⟩) (λ_ _ _ _ n=>n)
  (λb o hc e=>⟨o,k b o (λz=>hc (by simp[z])) e⟩) (λ_ _ e=>e) (λ_ _ _ e=>e) (λb ps e=>⟨#[],by rw[e];simp⟩) (λm hm=>?_) (λb u e=>?_) I.bare
 ·have e:=by simpa using hb
  subst e;exact⟨h1,hL,h2,h3⟩
 ·obtain⟨o,es,ep,ho,r⟩:=hm;exact⟨o,es,ep,k _ o (Ne.symm hL) ho,r⟩
 ·refine(I.a6 b u e).jU (λc v hc q=>k c v ?_ q) (λ_ q=>q) λ_ _ q=>q;rcases hc with z|z
  ·rw[z];exact nit b u e
  ·exact nit c _ z
theorem Inv.tok(I:Inv X pins σ H s)(t:Nat):Inv X pins σ H { s with toks:=t }:=I.un Un.refl I.a6
theorem Inv.kept(I:Inv X pins σ H s)(k:∀b u,s.heap.get? b=some u->h'.get? b=some u):Inv X pins σ H { s with heap:=h',toks:=t' }:=I.un (Un.kept k) (I.a6.kept k)
theorem Inv.laid{a:Addr}{o:HO}{t':Nat}(I:Inv X pins σ H s)(k:∀b u,s.heap.get? b=some u->h'.get? b=some u)(hp:s.heap.objs.size<=a)(new:cg X.prog X.w (upd H a o) h' a o):
  Inv X pins σ (upd H a o) { s with heap:=h',toks:=t' }:=I.un (Un.laid k hp (I.a6.fresh hp)) (I.a6.laid k hp new)
theorem Inv.write(I:Inv X pins σ H s)(mu:U5 (H x))(he:e=x\/H e=some (.own x))(k:∀b u,b≠e->s.heap.get? b=some u->h'.get? b=some u)(heo:∃u,h'.get? e=some u)
  (new:cg X.prog X.w (upd H x o) h' x o):Inv X pins σ (upd H x o) { s with heap:=h',toks:=t' }:=I.un (Un.write mu he k heo) (I.a6.write mu he k heo new)
theorem Inv.weak(I:Inv X pins σ H s)(hl:σ'.length=σ.length)(w:∀(i:Nat) v,σ'[i]?=some (some v)->σ[i]?=some (some v)):Inv X pins σ' H s:=
 ⟨I.ok,I.os,I.bare,I.base,let ⟨m,hn,hl'⟩:=I.loc;⟨m,hn,λi x v e1 e2 e3=>hl' i x v e1 (w i v e2) e3⟩,I.cell,I.free,I.gr,I.pin,I.a6,hl.trans I.len⟩
theorem Inv.kX{pins':Lo}(I:Inv X pins σ H s)(h:∀p∈pins',s.heap.get? p.1=some p.2/\H p.1=none/\p.1≠X.env.locals/\p.1∉X.fs/\∀v,p.2.data≠.cell v):Inv X pins' σ H s:=
 ⟨I.ok,I.os,I.bare,I.base,I.loc,I.cell,I.free,I.gr,λp hp=>(bM.mp hp).elim (λz=>I.pin p (gG _ z)) (h p),I.a6,I.len⟩
theorem xH{N:List Str}(hN:N.Nodup){i j:Nat}{x:Str}(a:N[i]?=some x)(b:N[j]?=some x):i=j:=by
 obtain⟨h1,e1⟩:=gZ.mp a;obtain⟨h2,e2⟩:=gZ.mp b;exact(List.getElem_inj hN).mp (e1.trans e2.symm)
theorem Cd{M:Model}{A:Around}{E:Vs}{i:Nat}{x:Str}{v:V}{u:Value}{Q:Unit->Shared->Prop}(I:Inv X pins σ H s)(hN:X.N.Nodup)(hi:X.N[i]?=some x)(hx:Loc X.env.scope x)(r:RelV v u)
  (h:∀s',Inv X pins (σ.set i (some v)) H s'->(∃a,Heap.SameBut a s.heap s'.heap/\(a=X.env.locals\/X.env.cells.lookup x=some a))->Q () s') (hf:X.fn x=true\/X.env.scope.names.lookup x=some .local:=by first|exact .inl rfl|exact .inr rfl|assumption):wpAny M A (storeName X.env x u) Q E s:=by
 obtain⟨m,hn,hl⟩:=id I.loc;have hcls:(X.env.scope.kind == .class || (X.env.scope.kind == .module&&X.env.locals != X.env.globals))=false:=by rw[I.ok.kind];rfl
 have hiσ:i<σ.length:=I.len▸(gZ.mp hi).1;have Qg:=I.Qg;have tracked:∀{a:Addr}{h':Heap},(∃o,s.heap.get? a=some o/\H a=none)->Heap.SameBut a s.heap h'->gT X.prog X.w H h':=λ{a h'} ha hs b ob e=>by
  obtain⟨_,_,hfree⟩:=ha;refine(I.a6 b ob e).jU (λc w' hc q=>(hs.2 c ?_).trans q) (λ_ q=>q) λ_ _ q=>q;rintro rfl;rcases hc with rfl|hc
  ·rw[hfree]at e;cases e
  ·rw[hfree]at hc;cases hc
 rcases hx with hk|hk
 ·refine wpAny_storeName_local hk hn (λh' hn' hs=>?_) hcls;obtain⟨oL,_,_,hoL,_⟩:=id hn;refine h _ ⟨I.ok,I.os,I.bare,⟨λb o e n hb hx=>?_,λb o e n hb hx=>?_,I.base.free,λb o e hx=>?_,I.base.qv,I.base.mX,I.base.mQ⟩,⟨_,hn',λj y v' e1 e2 e3=>?_⟩,λy c e=>?_,I.free,I.gr,λp hp=>?_,tracked ⟨oL,hoL,I.free⟩ hs,by simpa using I.len⟩ ⟨_,hs,.inl rfl⟩
  ·exact (hs.2 b (d0 (kx (cR e) I.ok.above))).trans (I.base.keep b o e n hb hx)
  ·obtain⟨sl,e1⟩:=I.base.slot b o e n hb hx;exact⟨sl,(hs.2 b (d0 (kx (cR e) I.ok.above))).trans e1⟩
  ·obtain⟨o',e1⟩:=I.base.there b o e hx;exact⟨o',(hs.2 b (d0 (kx (cR e) I.ok.above))).trans e1⟩
  ·by_cases hj:j=i
   ·subst hj;rw[hi]at e1;cases e1;rw[List.getElem?_set_self hiσ]at e2;cases e2;exact⟨u,r,.inl ⟨hk,by simp⟩⟩
   ·rw[List.getElem?_set_ne (Ne.symm hj)]at e2;obtain⟨u',r',q⟩:=hl j y v' e1 e2 e3;refine⟨u',r',?_⟩;rcases q with ⟨k,e⟩|⟨k,c,e,z⟩
    ·refine .inl ⟨k,?_⟩;have:y≠x:=λe=>hj (xH hN e1 (e▸hi));simp[this,e]
    ·exact .inr ⟨k,c,e,z.sameBut hs (Qg y c e)⟩
  ·obtain⟨w',z⟩:=I.cell y c e;exact⟨w',z.sameBut hs (Qg y c e)⟩
  ·obtain⟨e,n,ne,nf,d⟩:=I.pin p hp;exact⟨(hs.2 p.1 ne).trans e,n,ne,nf,d⟩
 ·have hfn:X.fn x=true:=by
   rcases hf with z|z
   ·exact z
   ·rw[z]at hk;cases hk
  obtain⟨c,hc⟩:=I.ok.has x (.inl hk);obtain⟨w',z⟩:=I.cell x c hc;refine wpAny_storeName_cell I.ok.kind hk hc z (λh' hc' hs=>?_);obtain⟨oc,hoc,hocd⟩:=id z;refine h { s with heap:=h' } ⟨I.ok,I.os,I.bare,⟨λb o e n hb hx=>?_,λb o e n hb hx=>?_,I.base.free,λb o e hx=>?_,I.base.qv,I.base.mX,I.base.mQ⟩,⟨m,hn.sameBut hs (Ne.symm (Qg x c hc)),λj y v' e1 e2 e3=>?_⟩,λy c' e=>?_,I.free,I.gr,λp hp=>?_,tracked ⟨oc,hoc,I.gr x c hc⟩ hs,by simpa using I.len⟩ ⟨c,hs,.inr hc⟩
  ·exact (hs.2 b (d0 (kx (cR e) (I.ok.Rp x c hfn hc)))).trans (I.base.keep b o e n hb hx)
  ·obtain⟨sl,e1⟩:=I.base.slot b o e n hb hx;exact⟨sl,(hs.2 b (d0 (kx (cR e) (I.ok.Rp x c hfn hc)))).trans e1⟩
  ·obtain⟨o',e1⟩:=I.base.there b o e hx;exact⟨o',(hs.2 b (d0 (kx (cR e) (I.ok.Rp x c hfn hc)))).trans e1⟩
  ·by_cases hj:j=i
   ·subst hj;rw[hi]at e1;cases e1;rw[List.getElem?_set_self hiσ]at e2;cases e2;exact⟨u,r,.inr ⟨.inl hk,c,hc,hc'⟩⟩
   ·rw[List.getElem?_set_ne (Ne.symm hj)]at e2;obtain⟨u',r',q⟩:=hl j y v' e1 e2 e3;refine⟨u',r',?_⟩;rcases q with q|⟨k,c',e,z'⟩
    ·exact .inl q
    ·refine .inr ⟨k,c',e,z'.sameBut hs ?_⟩;rintro rfl;exact hj (xH hN e1 (I.ok.inj _ _ _ e hc▸hi))
  ·by_cases hcc:c'=c
   ·subst hcc;exact⟨_,hc'⟩
   ·obtain⟨w2,z2⟩:=I.cell y c' e;exact⟨w2,z2.sameBut hs hcc⟩
  ·obtain⟨e,n,ne,nf,d⟩:=I.pin p hp;refine⟨(hs.2 p.1 ?_).trans e,n,ne,nf,d⟩;intro q;rw[q,hoc]at e;have q':=Option.some.inj e;exact d w' (q'▸hocd)
theorem iW{M:Model}{A:Around}{E:Vs}{i:Nat}{x:Str}{v:V}{u:Value}{Q:Unit->Shared->Prop}(I:Inv X pins σ H s)(hN:X.N.Nodup)(hi:X.N[i]?=some x)(hx:Loc X.env.scope x)(r:RelV v u)
  (h:∀s',Inv X pins (σ.set i (some v)) H s'->Q () s') (hf:X.fn x=true\/X.env.scope.names.lookup x=some .local:=by first|exact .inl rfl|exact .inr rfl|assumption):wpAny M A (storeName X.env x u) Q E s:=
 Cd I hN hi hx r (λs' I' _=>h s' I') hf
theorem Inv.AJ(I:Inv X pins σ H s)(ho:s'.os=s.os)(u:Un (Bc X.stack) ch H H' s.heap s'.heap)(a6:gT X.prog X.w H' s'.heap)(hg:AllBare s'.gens)
  (hch:∀b∈ch,(b∈X.ex\/X.s₀.heap.objs.size<=b)/\b≠X.env.locals/\(∀x c,X.env.cells.lookup x=some c->c≠b)/\∀p∈X.pn++pins,p.1≠b):Inv X pins σ H' s':=by
 obtain⟨h',g',d',t',o'⟩:=s';have e:=ho;subst e;exact I.call u a6 hg hch
end
abbrev XK:=Value->Option Addr->Hp->Prop
abbrev St:=List (Option V)
abbrev VK:=V->Hp->Prop
abbrev TE:=St->Hp->VK->Prop
abbrev TT:=St->Hp->(Bool->Hp->Prop)->Prop
abbrev TA:=St->Hp->(List V->Hp->Prop)->Prop
structure Ends where
 nx:St->Hp->Prop
 rt:VK
 bk:St->Hp->Prop:=λ_ _=>False
 ct:St->Hp->Prop:=λ_ _=>False
abbrev TS:=Ends->St->Hp->Prop
def EP(X:Cx)(pins:Lo)(σ:St)(Q:VK)(u:Value)(s':Shared):Prop:=∃v H',Inv X pins σ H' s'/\RelV v u/\Q v H'
def TP(X:Cx)(pins:Lo)(σ:St)(Q:Bool->Hp->Prop)(b:Bool)(s':Shared):Prop:=∃H',Inv X pins σ H' s'/\Q b H'
def AP(X:Cx)(pins:Lo)(σ:St)(Q:List V->Hp->Prop)(us:List Value)(s':Shared):Prop:=∃vs H',Inv X pins σ H' s'/\Vals vs us/\Q vs H'
def SP(X:Cx)(pins:Lo)(D:Ends)(f:Flow)(s':Shared):Prop:=
 match f with
 |.next=>∃σ' H',Inv X pins σ' H' s'/\D.nx σ' H'
 |.brk=>∃σ' H',Inv X pins σ' H' s'/\D.bk σ' H'
 |.cont=>∃σ' H',Inv X pins σ' H' s'/\D.ct σ' H'
 |.ret u=>∃v σ' H',Inv X pins σ' H' s'/\RelV v u/\D.rt v H'
def PE(X:Cx)(e:Expr)(t:TE):Prop:=
 ∀(pins:Lo) (s:Shared) (σ:St) (H:Hp) (Q:VK),Inv X pins σ H s->t σ H Q->wpAny 'b' X.A (eval e X.env) 'T' X.xe s
def PT(X:Cx)(e:Expr)(t:TT):Prop:=
 ∀(pins:Lo) (s:Shared) (σ:St) (H:Hp) (Q:Bool->Hp->Prop),Inv X pins σ H s->t σ H Q->wpAny 'b' X.A (isTrue e X.env (eval e X.env)) (TP X pins σ Q) X.xe s
def PW(X:Cx)(e:Expr)(t:TT):Prop:=
 ∀(whole:Sem Value) (pins:Lo) (s:Shared) (σ:St) (H:Hp) (Q:Bool->Hp->Prop),Inv X pins σ H s->t σ H Q->wpAny 'b' X.A (isTrue e X.env whole) (TP X pins σ Q) X.xe s
theorem PW.pt(h:PW X e t):PT X e t:=h _
def PA(X:Cx)(es:List Expr)(t:TA):Prop:=
 ∀(pos:Pos) (pins:Lo) (s:Shared) (σ:St) (H:Hp) (Q:List V->Hp->Prop),Inv X pins σ H s->t σ H Q->wpAny 'b' X.A (spliced (backTo pos (starEach es X.env))) (AP X pins σ Q) X.xe s
def PS(X:Cx)(st:Stmt)(t:TS):Prop:=
 ∀(pins:Lo) (s:Shared) (σ:St) (H:Hp) (D:Ends),Inv X pins σ H s->t D σ H->wpAny 'b' X.A (exec st X.env) (SP X pins D) X.xe s
def yi(X:Cx)(st:List Stmt)(t:TS):Prop:=
 ∀(pins:Lo) (s:Shared) (σ:St) (H:Hp) (D:Ends),Inv X pins σ H s->t D σ H->wpAny 'b' X.A (execs st X.env) (SP X pins D) X.xe s
theorem bG{α:Type}{t:Sem α}{Q Q':α->Shared->Prop}{M:Model}{A:Around}{E:Vs}{s:Shared}(h:wpAny M A t Q E s)(hQ:∀a s,Q a s->Q' a s):wpAny M A t Q' E s:=m8 h hQ λ_ _ x=>x
section
variable{X:Cx}
def Yh:List (Option V)->Nat->(V->Prop)->Prop
 |[],_,_=>False
 |o::_,0,Q=>match o with
  |some v=>Q v
  |none=>False
 |_::r,n+1,Q=>Yh r n Q
theorem G2:∀{σ:List (Option V)}{i:Nat}{Q:V->Prop},Yh σ i Q->∃v,σ[i]?=some (some v)/\Q v
 |some v::_,0,_,h=>⟨v,rfl,h⟩
 |_::r,n+1,_,h=>G2 (σ:=r) h
def tH(i:Nat):TE:=λσ H Q=>Yh σ i λv=>Q v H
def tC(v:V):TE:=λ_ H Q=>Q v H
theorem Ox{i:Nat}{x:Str}{pos:Pos}(hN:X.N[i]?=some x)(hv:Wt X.env.scope x)(hd:(x == ("__debug__" : Str))=false:=by decide)(hcd:(x == ("__classdict__" : Str))=false:=by decide):PE X (.Name x pos) (tH i):=by
 intro pins s σ H Q I h;obtain⟨v,e,h⟩:=G2 h;obtain⟨m,hn,hl⟩:=I.loc;obtain⟨u,r,l⟩:=hl i x v hN e hv;have fin:EP X pins σ Q u s:=⟨v,H,I,r,h⟩
 rcases l with ⟨hk,hm⟩|⟨hk,c,hc,hcell⟩
 ·exact wpAny_Name (wpAny_loadName_local I.ok.kind hk hn hm fin) hd
 ·rcases hk with hk|hk
  ·exact wpAny_Name (wpAny_loadName_cell I.ok.kind hk hc hcell fin) hd
  ·exact wpAny_Name (wpAny_loadName_free I.ok.kind hk hc hcell fin hcd) hd
theorem af:PE X (.Constant (.int i) j pos) (tC (.int i)):=λ_ _ _ H _ I h=>wpAny_Constant_int ⟨.int i,H,I.tok _,⟨_,rfl⟩,h⟩
theorem fU:PE X (.Constant (.bool b) j pos) (tC (.bl b)):=λ_ _ _ H _ I h=>Constant_bool ⟨.bl b,H,I,rfl,h⟩
theorem y_:PE X (.Constant .none j pos) (tC .bB):=λ_ _ _ H _ I h=>Constant_none ⟨.bB,H,I,rfl,h⟩
theorem a5:PE X (.Constant (.str x) j pos) (tC (.str x)):=λ_ _ _ H _ I h=>Calls.Constant_str ⟨.str x,H,I.tok _,⟨_,rfl⟩,h⟩
def Gl(X:Cx)(x:Str):Prop:=X.env.kindOf x=some .globalImplicit
theorem sL{E:Vs}{pins:Lo}{s:Shared}{σ:St}{H:Hp}{x:Str}{u:Value}{pos:Pos}{Q:Vs}(I:Inv X pins σ H s)(hg:Gl X x)(hm:X.mg x=some u)(h:Q u s)
  (hd:(x == ("__debug__" : Str))=false:=by decide):wpAny 'b' X.A (eval (.Name x pos) X.env) Q E s:=
 Calls.Name_function_global I.ok.kind hg (Calls.loadGlobal_global (I.ok.glob▸I.mod.glob.keeps I.bk) hm h) hd
theorem gc{E:Vs}{pins:Lo}{s:Shared}{σ:St}{H:Hp}{x:Str}{u:Value}{pos:Pos}{Q:Vs}(I:Inv X pins σ H s)(hg:Gl X x)(hm:X.mg x=none)(hv:bootBuiltins x=some u)(h:Q u s)
  (hn:x ≠ "__name__" := by decide) (hd:(x == ("__debug__" : Str))=false:=by decide):wpAny 'b' X.A (eval (.Name x pos) X.env) Q E s:=by
 obtain⟨mb,h1,h2⟩:=I.mod.blt;exact Calls.Name_function_global I.ok.kind hg (Calls.loadGlobal_builtin (I.ok.glob▸I.mod.glob.keeps I.bk) hm (I.ok.blt▸h1.keeps I.bk) ((h2 x hn).trans hv) h) hd
theorem LW(hg:Gl X x)(hm:X.mg x=some u)(r:RelV v u)(hd:(x == ("__debug__" : Str))=false:=by decide):PE X (.Name x pos) (tC v):=
 λ_ _ _ H _ I h=>sL I hg hm ⟨v,H,I,r,h⟩ hd
theorem AQ{x:Str}{v:V}{u:Value}{pos:Pos}(hg:Gl X x)(hm:X.mg x=none)(hv:bootBuiltins x=some u)(r:RelV v u)(hn:x ≠ "__name__" := by decide)(hd:(x == ("__debug__" : Str))=false:=by decide):PE X (.Name x pos) (tC v):=
 λ_ _ _ H _ I h=>gc I hg hm hv ⟨v,H,I,r,h⟩ hn hd
variable{a b:Expr}{ta tb:TE}{pos:Pos}
def PC(X:Cx)(op:CmpOp)(a b:Expr)(t:TE):Prop:=
 ∀(pins:Lo) (s:Shared) (σ:St) (H:Hp) (Q:VK),Inv X pins σ H s->t σ H Q->
  wpAny 'b' X.A (eval a X.env) (λv s₁=>wpAny 'b' X.A (eval b X.env) (λu s₂=>wpAny 'b' X.A (compareOp op v u) 'T' X.xe s₂) X.xe s₁) X.xe s
theorem F3(b:Expr){op:CmpOp}(h:op≠.In)(h2:op≠.NotIn):behindInMarks op b=false:=by
 have e1:(op == CmpOp.In)=false:=by cases op<;>first|rfl|exact absurd rfl h
 have e2:(op == CmpOp.NotIn)=false:=by cases op<;>first|rfl|exact absurd rfl h2
 cases b<;>simp[behindInMarks,e1,e2]
def tB(t:TE):TT:=λσ H Q=>t σ H λx H1=>∃c,x=.bl c/\Q c H1
theorem iD(h:PC X op a b t)(h1:behindInMarks op b=false:=by first|exact F3 _ (by decide) (by decide)|rfl):PT X (.Compare a [op] [b] pos) (tB t):=by
 intro pins s σ H Q I hw;refine wpAny_isTrue_Compare1 (bG (h pins s σ H _ I hw) λv s1 h1=>bG h1 λu s2 h2=>bG h2 λc s3 ⟨x,H1,I1,r1,q1⟩=>?_) h1;obtain⟨d,rfl,q⟩:=q1;cases r1;exact LQ ⟨H1,I1,q⟩
theorem jR(h:PE X e t)(he:∀whole,isTrue e X.env whole=(do let v <-whole;standAt e.pos;holding [v] (truthy v)):=by intro _;rfl):PT X e (tB t):=by
 intro pins s σ H Q I hw;refine isTrue_plain (bG (h pins s σ H _ I hw) λv s1 ⟨x,H1,I1,r1,q1⟩=>?_) (he _);obtain⟨d,rfl,q⟩:=q1;cases r1;exact LQ ⟨H1,I1,q⟩
variable{tA tB':TT}{rest:List Expr}
def Zk(t u:TT):TT:=λσ H Q=>t σ H λc H1=>if c=true then u σ H1 Q else Q false H1
def tOr(t u:TT):TT:=λσ H Q=>t σ H λc H1=>if c=true then Q true H1 else u σ H1 Q
def Y4(t:TT):TT:=λσ H Q=>t σ H λc H1=>Q (!c) H1
theorem kR(ha:PT X a tA):PW X (.BoolOp .And [a] pos) tA:=by
 intro wh pins s σ H Q I h;refine isTrue_and (bG (ha pins s σ H Q I h) λc s1 e=>?_);cases c with
 |true=>exact isTrue_and_nil e
 |false=>exact e
theorem yJ(ha:PT X a tA):PW X (.BoolOp .Or [a] pos) tA:=by
 intro wh pins s σ H Q I h;refine isTrue_or (bG (ha pins s σ H Q I h) λc s1 e=>?_);cases c with
 |false=>exact isTrue_or_nil e
 |true=>exact e
theorem wx(ha:PT X a tA)(hb:PW X (.BoolOp .And (b::rest) pos) tB'):PW X (.BoolOp .And (a::b::rest) pos) (Zk tA tB'):=by
 intro wh pins s σ H Q I h;refine isTrue_and (bG (ha pins s σ H _ I h) λc s1 ⟨H1,I1,q1⟩=>?_);cases c with
 |true=>exact hb wh pins s1 σ H1 Q I1 q1
 |false=>exact⟨H1,I1,q1⟩
theorem IQ(ha:PT X a tA)(hb:PW X (.BoolOp .Or (b::rest) pos) tB'):PW X (.BoolOp .Or (a::b::rest) pos) (tOr tA tB'):=by
 intro wh pins s σ H Q I h;refine isTrue_or (bG (ha pins s σ H _ I h) λc s1 ⟨H1,I1,q1⟩=>?_);cases c with
 |true=>exact⟨H1,I1,q1⟩
 |false=>exact hb wh pins s1 σ H1 Q I1 q1
theorem Ek(ha:PT X a tA):PT X (.UnaryOp .Not a pos) (Y4 tA):=by
 intro pins s σ H Q I h;exact isTrue_not (ha pins s σ H (λc H1=>Q (!c) H1) I h)
def UY(ta tb:TE):TE:=λσ H Q=>ta σ H λx H1=>∃c,x=.bl c/\if c=true then tb σ H1 Q else Q (.bl false) H1
def aak(ta tb:TE):TE:=λσ H Q=>ta σ H λx H1=>∃c,x=.bl c/\if c=true then Q (.bl true) H1 else tb σ H1 Q
def aah(ta:TE):TE:=λσ H Q=>ta σ H λx H1=>∃c,x=.bl c/\Q (.bl (!c)) H1
theorem OV(h:PE X a t):PE X (.BoolOp op [a] pos) t:=λpins s σ H Q I hw=>BoolOp_one (h pins s σ H Q I hw)
theorem Pl(ha:PE X a ta)(hb:PE X (.BoolOp .And (b::rest) pos) tb):PE X (.BoolOp .And (a::b::rest) pos) (UY ta tb):=by
 intro pins s σ H Q I h;refine BoolOp_and (bG (ha pins s σ H _ I h) λv s1 ⟨x,H1,I1,r1,q1⟩=>?_);obtain⟨c,rfl,q1⟩:=q1;cases r1;refine LQ ?_;cases c with
 |true=>exact hb pins s1 σ H1 Q I1 q1
 |false=>exact⟨.bl false,H1,I1,rfl,q1⟩
def tIf(t:TT)(ta tb:TE):TE:=λσ H Q=>t σ H λc H1=>if c=true then ta σ H1 Q else tb σ H1 Q
end
def aH(K:Wf)(H:Hp)(a:Addr)(xs:List V):Prop:=
 Rd H a (.lst xs) \/
  ∃(o:Obj) (its:Array Value) (n:Nat),K.lookup a=some o/\o.cls=.type "list" /\ o.dict=none/\o.data=.seq its n/\its.size<=sizeLine/\Vals xs its.toList
def bg(K:Wf)(H:Hp)(a:Addr)(xs:List V):Prop:=
 Rd H a (.tup xs) \/
  ∃(o:Obj) (its:Array Value) (n:Nat),K.lookup a=some o/\o.cls=.type "tuple" /\ o.data=.seq its n/\its.size<=sizeLine/\Vals xs its.toList
def WX:Value->Option V
 |.none=>some .bB
 |.bool b=>some (.bl b)
 |.int i _=>some (.int i)
 |.str x _=>some (.str x)
 |.bytes b _=>some (.yy b)
 |.float b _=>some (.QS b)
 |.ref a=>some (.ref a)
 |.type n=>some (.ty n)
 |_=>none
theorem RelV.abs(r:RelV x u):WX u=some x:=by
 cases x with
 |bB=>cases r;rfl
 |bl _=>cases r;rfl
 |int _=>obtain⟨t,rfl⟩:=r;rfl
 |str _=>obtain⟨t,rfl⟩:=r;rfl
 |yy _=>obtain⟨t,rfl⟩:=r;rfl
 |QS _=>obtain⟨t,rfl⟩:=r;rfl
 |ref _=>cases r;rfl
 |ty _=>cases r;rfl
theorem RelV.inj{x y:V}{u:Value}(r:RelV x u)(q:RelV y u):x=y:=Option.some.inj (r.abs.symm.trans q.abs)
theorem Vals.inj:∀{xs ys:List V}{us:List Value},Vals xs us->Vals ys us->xs=ys
 |_,_,_,.nil,.nil=>rfl
 |_,_,_,.cons r t,.cons r' t'=>by rw[r.inj r',Vals.inj t t']
section
variable{X:Cx}{pins:Lo}{σ:St}{H:Hp}{s:Shared}{a:Addr}{xs ys:List V}
theorem aH.of{K:Wf}(h:H a=some (.lst xs)):aH K H a xs:=.inl (.inl h)
theorem bg.of{K:Wf}(h:H a=some (.tup xs)):bg K H a xs:=.inl (.inl h)
theorem Inv.list(I:Inv X pins σ H s)(h:aH X.K H a xs):∃its:List Value,Vals xs its/\PlainL s.heap a its.toArray/\xs.length<=sizeLine:=by
 rcases h with h|⟨o,its,n,hk,hc,hd,hs,hz,r⟩
 ·obtain⟨z,its,n,r,e⟩:=h.ok I.a6;exact⟨its,r,⟨_,n,e,rfl,rfl,rfl⟩,z⟩
 ·refine⟨its.toList,r,⟨o,n,I.jV a o hk,hc,hd,by simpa using hs⟩,?_⟩;have e:=r.length;simp only[Array.length_toList]at e;lia
theorem Inv.tuple(I:Inv X pins σ H s)(h:bg X.K H a xs):∃its:List Value,Vals xs its/\IsTup s.heap a its.toArray/\xs.length<=sizeLine:=by
 rcases h with h|⟨o,its,n,hk,hc,hs,hz,r⟩
 ·obtain⟨z,its,r,p⟩:=h.ok I.a6;exact⟨its,r,p,z⟩
 ·refine⟨its.toList,r,⟨o,I.jV a o hk,hc,n,by simpa using hs⟩,?_⟩;have e:=r.length;simp only[Array.length_toList]at e;lia
theorem Inv.gz(I:Inv X pins σ H s)(h:aH X.K H a xs)(h':aH X.K H a ys):xs=ys:=by
 obtain⟨its,r,⟨o,n,e,_,_,d⟩,_⟩:=I.list h;obtain⟨its',r',⟨o',n',e',_,_,d'⟩,_⟩:=I.list h';rw[e]at e';cases e';rw[d]at d';injection d' with d1 _;have:its=its':=by simpa using congrArg Array.toList d1
 subst this;exact r.inj r'
theorem Inv.jP(I:Inv X pins σ H s)(h:bg X.K H a xs)(h':bg X.K H a ys):xs=ys:=by
 obtain⟨its,r,⟨o,e,_,n,d⟩,_⟩:=I.tuple h;obtain⟨its',r',⟨o',e',_,n',d'⟩,_⟩:=I.tuple h';rw[e]at e';cases e';rw[d]at d';injection d' with d1 _;have:its=its':=by simpa using congrArg Array.toList d1
 subst this;exact r.inj r'
end
abbrev Cx.mR(X:Cx)(E:Vs):Cx:={ X with xe:=E }
abbrev Cx.RE(X:Cx):Cx:=X.mR λ_ _=>False
theorem Cx.Ok.mR{X:Cx}(ok:X.Ok)(E:Vs):(X.mR E).Ok:=
 ⟨ok.mod,ok.kind,ok.glob,ok.blt,ok.above,ok.inj,ok.has,ok.Rp,ok.hd,ok.frames,ok.NF,ok.RL,ok.bs,ok.Gv,ok.Ct,ok.yE,ok.jB,ok.LY⟩
theorem Cx.Ok.gA{X:Cx}{E:Vs}(ok:(X.mR E).Ok):X.Ok:=
 ⟨ok.mod,ok.kind,ok.glob,ok.blt,ok.above,ok.inj,ok.has,ok.Rp,ok.hd,ok.frames,ok.NF,ok.RL,ok.bs,ok.Gv,ok.Ct,ok.yE,ok.jB,ok.LY⟩
section
variable{X:Cx}{pins:Lo}{σ:St}{H:Hp}{s:Shared}{E:Vs}
theorem Inv.mR(I:Inv X pins σ H s)(E:Vs):Inv (X.mR E) pins σ H s:=⟨I.ok.mR E,I.os,I.bare,I.base,I.loc,I.cell,I.free,I.gr,I.pin,I.a6,I.len⟩
theorem Inv.gA(I:Inv (X.mR E) pins σ H s):Inv X pins σ H s:=⟨I.ok.gA,I.os,I.bare,I.base,I.loc,I.cell,I.free,I.gr,I.pin,I.a6,I.len⟩
theorem SP.gA{D:Ends}{f:Flow}{s':Shared}(h:SP (X.mR E) pins D f s'):SP X pins D f s':=by
 cases f with
 |next=>obtain⟨σ',H',I,q⟩:=h;exact⟨σ',H',I.gA,q⟩
 |brk=>obtain⟨σ',H',I,q⟩:=h;exact⟨σ',H',I.gA,q⟩
 |cont=>obtain⟨σ',H',I,q⟩:=h;exact⟨σ',H',I.gA,q⟩
 |ret u=>obtain⟨v,σ',H',I,r,q⟩:=h;exact⟨v,σ',H',I.gA,r,q⟩
theorem yi.RE{st:List Stmt}{t:TS}(h:yi X.RE st t):yi X st t:=λpins s σ H D I hw=>
 m8 (h pins s σ H D (I.mR _) hw) (λ_ _ q=>q.gA) λ_ _ z=>False.elim z
end
section
variable{X:Cx}{st:Stmt}{rest:List Stmt}{t u:TS}{e:Expr}{te:TE}{pos:Pos}
def TN:TS:=λD σ H=>D.nx σ H
def SV(t u:TS):TS:=λD σ H=>t { D with nx:=u D } σ H
theorem cW:yi X [] TN:=λ_ _ σ H _ I h=>wpAny_execs_nil ⟨σ,H,I,h⟩
theorem aU(h1:PS X st t)(h2:yi X rest u):yi X (st::rest) (SV t u):=by
 intro pins s σ H D I h;refine wpAny_execs_cons (bG (h1 pins s σ H { D with nx:=u D } I h) λf s1 q=>?_);cases f with
 |next=>
  obtain⟨σ',H',I',q⟩:=q;exact h2 pins s1 σ' H' D I' q
 |ret v=>exact q
 |brk=>exact q
 |cont=>exact q
theorem bo(h1:PS X st t):yi X [st] t:=by
 intro pins s σ H D I h;refine wpAny_execs_cons (bG (h1 pins s σ H D I h) λf s1 q=>?_);cases f with
 |next=>exact wpAny_execs_nil q
 |ret v=>exact q
 |brk=>exact q
 |cont=>exact q
theorem Inv.quiet{pins:Lo}{σ:St}{H:Hp}{s:Shared}(I:Inv X pins σ H s):interactive X.env=false:=by simp[interactive,I.ok.kind]
def MB(te:TE):TS:=λD σ H=>te σ H λ_ H1=>D.nx σ H1
theorem c8(he:PE X e te)(hs:swapsWith e none pos.line X.env=pure false:=by rfl):PS X (.Expr e pos) (MB te):=by
 intro pins s σ H D I h;exact wpAny_Expr_any (bG (he pins s σ H _ I h) λv s1 ⟨x,H1,I1,r1,q1⟩=>⟨σ,H1,I1,q1⟩) I.quiet hs
def Zg(te:TE):TS:=λD σ H=>te σ H D.rt
theorem aG(he:PE X e te):PS X (.Return (some e) pos) (Zg te):=by
 intro pins s σ H D I h;exact wpAny_Return_some (bG (he pins s σ H _ I h) λv s1 ⟨x,H1,I1,r1,q1⟩=>⟨x,σ,H1,I1,r1,q1⟩)
def Vq:TS:=λD _ H=>D.rt .bB H
theorem Bs:PS X (.Return none pos) Vq:=λ_ _ σ H _ I h=>wpAny_Return_none ⟨.bB,σ,H,I,rfl,h⟩
def Qq(c:TT)(t u:TS):TS:=λD σ H=>c σ H λb H1=>if b=true then t D σ H1 else u D σ H1
theorem bC(hc:PT X c tc)(ha:yi X a t)(hb:yi X b u):PS X (.If c a b pos) (Qq tc t u):=by
 intro pins s σ H D I h;refine wpAny_If (bG (hc pins s σ H _ I h) λd s1 ⟨H1,I1,q1⟩=>?_);cases d with
 |true=>exact ha pins s1 σ H1 D I1 q1
 |false=>exact hb pins s1 σ H1 D I1 q1
def PJ:TS:=λ_ _ _=>False
theorem dt:PS X st PJ:=λ_ _ _ _ _ _ h=>h.elim
end
abbrev TG:=V->St->Hp->(St->Hp->Prop)->Prop
abbrev Q_:=List V->St->Hp->(St->Hp->Prop)->Prop
def PG(X:Cx)(target:Expr)(t:TG):Prop:=
 ∀(pins:Lo) (s:Shared) (σ:St) (H:Hp) (v:V) (u:Value) (Q:St->Hp->Prop),Inv X pins σ H s->RelV v u->t v σ H Q->
  wpAny 'b' X.A (assign target X.env u) (λ_ s'=>∃σ' H',Inv X pins σ' H' s'/\Q σ' H') X.xe s
def SN(X:Cx)(ts:List Expr)(t:Q_):Prop:=
 ∀(pins:Lo) (s:Shared) (σ:St) (H:Hp) (vs:List V) (us:List Value) (Q:St->Hp->Prop),Inv X pins σ H s->Vals vs us->t vs σ H Q->
  wpAny 'b' X.A (assignInOrder ((assignEach ts X.env).map (·.2)) us) (λ_ s'=>∃σ' H',Inv X pins σ' H' s'/\Q σ' H') X.xe s
abbrev TB:=V->V->V->Hp->(Hp->Prop)->Prop
def SE(X:Cx)(t:TB):Prop:=
 ∀(pins:Lo) (s:Shared) (σ:St) (H:Hp) (o i v:V) (ov iv u:Value) (Q:Hp->Prop),Inv X pins σ H s->RelV o ov->RelV i iv->RelV v u->t o i v H Q->
  wpAny 'b' X.A (setItem ov iv u) (λ_ s'=>∃H',Inv X pins σ H' s'/\Q H') X.xe s
abbrev Xh:=V->V->Hp->VK->Prop
def PIp(X:Cx)(op:Operator)(t:Xh):Prop:=
 ∀(pins:Lo) (s:Shared) (σ:St) (H:Hp) (x y:V) (v u:Value) (Q:VK),Inv X pins σ H s->RelV x v->RelV y u->t x y H Q->
  wpAny 'b' X.A (inplaceOp op v u) 'T' X.xe s
section
variable{X:Cx}{pos:Pos}
def m5(i:Nat):TG:=λv σ H Q=>Q (σ.set i (some v)) H
theorem KG(hN:X.N.Nodup)(hi:X.N[i]?=some x)(hx:Loc X.env.scope x)(hf:X.fn x=true\/X.env.scope.names.lookup x=some .local:=by first|exact .inl rfl|exact .inr rfl|assumption):PG X (.Name x pos) (m5 i):=by
 intro pins s σ H v u Q I r h;exact wpAny_assign_Name (iW I hN hi hx r (λs' I'=>⟨_,H,I',h⟩) hf)
def Y5:Q_:=λvs σ H Q=>vs=[]/\Q σ H
def U0(t:TG)(u:Q_):Q_:=λvs σ H Q=>∃v r,vs=v::r/\t v σ H λσ' H'=>u r σ' H' Q
theorem bX:SN X [] Y5:=by
 intro pins s σ H vs us Q I r h;obtain⟨e,h⟩:=h;subst e;exact assignInOrder_nil ⟨σ,H,I,h⟩
theorem dW(h1:PG X e t)(h2:SN X es u)
  (hs:(assignEach (e::es) X.env).map (·.2)=assign e X.env::(assignEach es X.env).map (·.2):=by rfl):SN X (e::es) (U0 t u):=by
 intro pins s σ H vs us Q I r h;obtain⟨v,vr,e1,h⟩:=h;subst e1;cases r with
 |cons r rr=>
  exact hs▸assignInOrder_cons (bG (h1 pins s σ H _ _ _ I r h) λ_ s1 ⟨σ1,H1,I1,q1⟩=>(h2 pins s1 σ1 H1 _ _ Q I1 rr q1))
def SD(K:Wf)(n:Nat)(t:Q_):TG:=λv σ H Q=>∃a xs,v=.ref a/\bg K H a xs/\xs.length=n/\t xs σ H Q
theorem QD{es:List Expr}{k:Nat}{t:Q_}{n:Nat}(hc:X.calm=true)(h:SN X es t)
  (hn:(assignEach es X.env).length=n:=by rfl) (hst:(assignEach es X.env).findIdx? (·.1)=none:=by rfl):PG X (.Tuple es k pos) (SD X.K n t):=by
 intro pins s σ H v u Q I r hw;obtain⟨a,xs,e1,hq,hl,hw⟩:=hw;subst e1;cases r;obtain⟨its,rv,ht,hz⟩:=I.tuple hq;refine assign_Tuple_tuple (I.ok.hd hc) ht (by simp[hn,<-hl,rv.length]) hst λh' hx=>?_;have I1:=I.kept (t':=s.toks) λb o e=>hx b o (d0 (cR e)) e;exact h pins _ σ H xs _ Q I1 rv hw
def X4(to ti:TE)(t:TB):TG:=λv σ H Q=>to σ H λo H1=>ti σ H1 λi H2=>t o i v H2 λH3=>Q σ H3
theorem zM(ho:PE X o to)(hi:PE X i ti)(hs:SE X t)
  (ha:∀v,assign (.Subscript o i pos) X.env v=(do
   let ov <-holding [v] (eval o X.env)
   let iv <-holding [v,ov] (eval i X.env)
   standAt pos
   holding [v,ov,iv] (setItem ov iv v)
   release [v,ov,iv] []):=by intro _;rfl):PG X (.Subscript o i pos) (X4 to ti t):=by
 intro pins s σ H v u Q I r h;rw[ha];exact aE (mI (bG (ho pins s σ H _ I h) λov s1 ⟨x,H1,I1,r1,q1⟩=>(aE (mI (bG (hi pins s1 σ H1 _ I1 q1) λiv s2 ⟨y,H2,I2,r2,q2⟩=>(aE (wpAny_standAt (aE (mI (bG (hs pins s2 σ H2 x y v ov iv u _ I2 r1 r2 r q2) λ_ s3 ⟨H3,I3,q3⟩=>(wpAny_release ⟨σ,H3,I3,q3⟩)))))))))))
def FJ(te:TE)(g:TG):TS:=λD σ H=>te σ H λx H1=>g x σ H1 D.nx
theorem zN(he:PE X e te)(hg:PG X tg g)(hs:swapsWithSole [tg] e pos.line X.env=pure false:=by rfl)(hw:swappedStores [tg] e X.env=pure none:=by rfl)
  (h1:(assignEach [tg] X.env).map (·.2)=[assign tg X.env]:=by rfl):PS X (.Assign [tg] e pos) (FJ te g):=by
 intro pins s σ H D I h;exact wpAny_Assign_stores (bG (he pins s σ H _ I h) λv s1 ⟨x,H1,I1,r1,q1⟩=>(h1▸bG (hg pins s1 σ H1 x v _ I1 r1 q1) λ_ s2 q=>q)) hs hw
theorem OR(hN:X.N.Nodup)(hi:X.N[i]?=some x)(hx:Loc X.env.scope x)(he:PE X e te)(hs:swapsWith e (some (.Name x pos')) pos.line X.env=pure false:=by rfl)(hf:X.fn x=true\/X.env.scope.names.lookup x=some .local:=by first|exact .inl rfl|exact .inr rfl|assumption):
  PS X (.Assign [.Name x pos'] e pos) (FJ te (m5 i)):=by
 intro pins s σ H D I h;exact wpAny_Assign_Name (bG (he pins s σ H _ I h) λv s1 ⟨y,H1,I1,r1,q1⟩=>(iW I1 hN hi hx r1 (λs2 I2=>⟨_,H1,I2,q1⟩) hf)) hs
def Wq(i:Nat)(te:TE)(ti:Xh):TS:=λD σ H=>∃x,σ[i]?=some (some x)/\te σ H λy H1=>ti x y H1 λz H2=>D.nx (σ.set i (some z)) H2
theorem Hw(hN:X.N.Nodup)(hi:X.N[i]?=some x)(hx:Loc X.env.scope x)(he:PE X e te)(ho:PIp X op ti)(hf:X.fn x=true\/X.env.scope.names.lookup x=some .local:=by first|exact .inl rfl|exact .inr rfl|assumption):
  PS X (.AugAssign (.Name x pos') op e pos) (Wq i te ti):=by
 intro pins s σ H D I h;obtain⟨v,e1,h⟩:=h;obtain⟨m,hn,hl⟩:=I.loc;have vis:Wt X.env.scope x:=by rcases hx with k|k;exact .inl k;exact .inr (.inl k)
 obtain⟨u,r,l⟩:=hl i x v hi e1 vis;refine wpAny_AugAssign_Name ?_;have go:wpAny 'b' X.A (eval e X.env) (λw s₂=>wpAny 'b' X.A (inplaceOp op u w) (λr s₃=>wpAny 'b' X.A (storeName X.env x r) (λ_=>SP X pins D .next) X.xe s₃) X.xe s₂) X.xe s:=by
  exact bG (he pins s σ H _ I h) λw s1 ⟨y,H1,I1,r1,q1⟩=>(bG (ho pins s1 σ H1 v y u w _ I1 r r1 q1) λz s2 ⟨zv,H2,I2,r2,q2⟩=>(iW I2 hN hi hx r2 (λs3 I3=>⟨_,H2,I3,q2⟩) hf))
 rcases l with ⟨hk,hm⟩|⟨hk,c,hc,hcell⟩
 ·exact wpAny_loadName_local I.ok.kind hk hn hm go
 ·rcases hk with hk|hk
  ·exact wpAny_loadName_cell I.ok.kind hk hc hcell go
  ·rcases hx with k|k
   ·have:X.env.scope.names.lookup x=some .free:=hk;rw[k]at this;cases this
   ·have:X.env.scope.names.lookup x=some .free:=hk;rw[k]at this;cases this
def ipI(f:Int->Int->Int):Xh:=λx y H Q=>∃i j,x=.int i/\y=.int j/\Q (.int (f i j)) H
theorem DH:PIp X .Add (ipI λi j=>i+j):=by
 intro pins s σ H x y v u Q I r1 r2 h;obtain⟨i,j,e1,e2,q⟩:=h;subst e1;subst e2;obtain⟨t,rfl⟩:=r1;obtain⟨t',rfl⟩:=r2;exact iadd_int ⟨.int _,H,I.tok _,⟨_,rfl⟩,q⟩
def Pk(c:TT)(tb:TS):TS:=λD σ H=>∃W:Nat->St->Hp->Prop,(∃m,W m σ H)/\∀m σ H,W m σ H->
 c σ H λb H1=>if b=true then ∃N:St->Hp->Prop,(∀σ' H',N σ' H'->∃m',m'<m/\W m' σ' H')/\tb { D with nx:=N,ct:=N,bk:=D.nx } σ H1 else D.nx σ H1
theorem yp(hp:PassesOwn 'b' X.A X.env X.xe)(hc:PT X c tc)(hb:yi X body tb):PS X (.While c body [] pos) (Pk tc tb):=by
 intro pins s σ H D I h;obtain⟨W,⟨m0,w0⟩,turn⟩:=h;refine wpAny_While (codeAny_whileLoop (λn s'=>∃σ' H',Inv X pins σ' H' s'/\W n σ' H') ?_ m0 ⟨σ,H,I,w0⟩);rintro n s1 ⟨σ1,H1,I1,w1⟩;refine OY hp (bG (hc pins s1 σ1 H1 _ I1 (turn n σ1 H1 w1)) λb s2 ⟨H2,I2,q2⟩=>?_);cases b with
 |true=>
  obtain⟨N,hN,q2⟩:=q2;refine OY hp (bG (hb pins s2 σ1 H2 _ I2 q2) λf s3 q3=>?_);cases f with
  |next=>
   obtain⟨σ3,H3,I3,n3⟩:=q3;obtain⟨m',hm,w3⟩:=hN σ3 H3 n3;exact⟨m',hm,σ3,H3,I3,w3⟩
  |cont=>
   obtain⟨σ3,H3,I3,n3⟩:=q3;obtain⟨m',hm,w3⟩:=hN σ3 H3 n3;exact⟨m',hm,σ3,H3,I3,w3⟩
  |brk=>exact q3
  |ret v=>exact q3
 |false=>
  exact wpAny_execs_nil ⟨σ1,H2,I2,q2⟩
end
structure It where
 go:Nat->Hp->Prop
 Cj:Nat->Hp->V->Hp->Prop
 stop:Nat->Hp->Prop
def fi(X:Cx)(pins:Lo)(H:Hp)(b:Addr):Prop:=
 H b=none/\b≠X.env.locals/\b∉X.fs/\(b∈X.ex\/X.s₀.heap.objs.size<=b)/\(∀x c,X.env.cells.lookup x=some c->c≠b)/\∀p∈X.pn++pins,p.1≠b
theorem Inv.xG{X:Cx}{pins:Lo}{σ:St}{H H':Hp}{s:Shared}{b:Addr}(I:Inv X pins σ H s)(hb:s.heap.objs.size<=b)(hn:H' b=none):fi X pins H' b:=by
 refine⟨hn,Nat.ne_of_gt (kx I.lt hb),I.Tw hb,.inr (ia I.sz hb),λx c e z=>?_,λp hp z=>?_⟩
 ·obtain⟨v,q⟩:=I.cell x c e;exact absurd (kx q.lt (z▸hb)) (wB _)
 ·exact absurd (kx (cR (I.pin p hp).1) (z▸hb)) (wB _)
structure Turn(P:Program)(w:World)(K:Wf)(tg:Expr)(J:It)(fp:List Addr)(it:Addr)(tn:Nat->Heap->Prop):Prop where
 mem:it∈fp
 obj:∀i h,tn i h->∀b∈fp,∃o,h.get? b=some o/\∀v,o.data≠.cell v
 keep:∀i h h',tn i h->(∀b∈fp,∀o,h.get? b=some o->h'.get? b=some o)->tn i h'
 item:∀(X:Cx),X.prog=P->X.w=w->X.K=K->X.calm=true->∀(i:Nat) (pins:Lo) (s:Shared) (σ:St) (H:Hp) (E:Vs),Inv X pins σ H s->(∀b∈fp,fi X pins H b)->tn i s.heap->J.go i H->
  wpAny (model P w) X.A (pyNext (.ref it)) (λr s1=>∃u,r=some u/\
   wpAny (model P w) X.A (letOwnedTupleGo tg (.ref it) u) (λ_ s2=>∃x H',Inv X pins σ H' s2/\RelV x u/\J.Cj i H x H'/\tn (i+1) s2.heap/\∀b∈fp,H' b=none) E s1) E s
 done:∀(X:Cx),X.prog=P->X.w=w->X.K=K->X.calm=true->∀(i:Nat) (pins:Lo) (s:Shared) (σ:St) (H:Hp) (E:Vs),Inv X pins σ H s->(∀b∈fp,fi X pins H b)->tn i s.heap->J.stop i H->
  wpAny (model P w) X.A (pyNext (.ref it)) (λr s1=>r=none/\Inv X pins σ H s1) E s
 self:∀(A:Around) (i:Nat) (s:Shared) (Q:Vs) (E:Vs),tn i s.heap->Q (.ref it) s->wpAny (model P w) A (pyIter (.ref it)) Q E s
abbrev TI:=St->Hp->(It->Hp->Prop)->Prop
def ZC(X:Cx)(pins:Lo)(σ:St)(tg:Expr)(R:It->Hp->Prop)(itv:Value)(s2:Shared):Prop:=
 ∃(it:Addr) (fp:List Addr) (tn:Nat->Heap->Prop) (J:It) (H':Hp),itv=.ref it/\Inv X pins σ H' s2/\Turn X.prog X.w X.K tg J fp it tn/\tn 0 s2.heap/\(∀b∈fp,fi X pins H' b)/\R J H'
def PI(X:Cx)(tg iter:Expr)(wi:TI):Prop:=
 ∀(pins:Lo) (s:Shared) (σ:St) (H:Hp) (R:It->Hp->Prop),Inv X pins σ H s->wi σ H R->
  wpAny 'b' X.A (eval iter X.env) (λv s1=>wpAny 'b' X.A (pyIter v) (ZC X pins σ tg R) X.xe s1) X.xe s
theorem x_{M:Model}{A:Around}{E:Vs}{s:Shared}{tg:Expr}{it:Addr}{u:Value}{o:Obj}{n:String}{vs:Array Value}{Q:Unit->Shared->Prop}(ho:s.heap.get? it=some o)(hc:o.cls=.type n)(hd:o.data=.fields vs)
  (hn:["enumerate", "zip", "dict_itemiterator", "dict_reverseitemiterator", "odict_iterator", "itertools.zip_longest", "itertools.pairwise"].contains n=false) (hQ:Q () s):wpAny M A (letOwnedTupleGo tg (.ref it) u) Q E s:=by
 cases tg<;>first
  |exact bh hQ
  | (cases u<;>first
    |exact bh hQ
    | (refine aE (wpAny_load ho ?_)
       rw[hc,hd];show wpAny M A (if (["enumerate", "zip", "dict_itemiterator", "dict_reverseitemiterator", "odict_iterator", "itertools.zip_longest", "itertools.pairwise"].contains n&&vs[0]? == some (rawInt _))=true then _ else _) Q E s;rw[if_neg (by intro h;rw[hn,Bool.false_and]at h;cases h)];exact bh hQ))
def EH(K:Wf)(a:Addr):It:=
 ⟨λi H=>∃xs x,aH K H a xs/\xs[i]?=some x,λi H x H'=>H'=H/\∀xs,aH K H a xs->xs[i]?=some x,λi H=>∃xs,aH K H a xs/\xs.length<=i⟩
def Pd(K:Wf)(a:Addr):It:=
 ⟨λi H=>∃xs x,bg K H a xs/\xs[i]?=some x,λi H x H'=>H'=H/\∀xs,bg K H a xs->xs[i]?=some x,λi H=>∃xs,bg K H a xs/\xs.length<=i⟩
def CM(lo:Int)(n:Nat):It:=⟨λi _=>i<n,λi H x H'=>H'=H/\x=.int (lo+i),λi _=>n<=i⟩
theorem B9{P:Program}{w:World}{K:Wf}{tg:Expr}(a it:Addr):Turn P w K tg (EH K a) [it] it (λi h=>h.IsListIter it a i) where
 mem:=by simp
 obj:=λi h st b hb=>by
  have e:=by simpa using hb
  subst e;obtain⟨o,e,c,d⟩:=st;exact⟨o,e,λv z=>by rw[d]at z;cases z⟩
 keep:=λi h h' st k=>st.at λo e=>k it (by simp) o e
 item:=by
  intro X hP hw hK hc i pins s σ H E I hf st hg;subst hP hw hK;obtain⟨xs,x,hq,hx⟩:=hg;obtain⟨its,rv,p,hz⟩:=I.list hq;obtain⟨u,hu,ru⟩:=rv.get hx;obtain⟨f0,f1,f2,f3,f4,f5⟩:=hf it (by simp);refine wpAny_pyNext_list_item st p.isList (by simpa using hu) λh' st' sb=>?_;have I1:=I.turned (t':=s.toks) (λb o hb e=>(sb.2 b hb).trans e) f0 f1 f3 f4 f5;obtain⟨o,e,c,d⟩:=id st';exact⟨u,rfl,x_ e c d (by decide) ⟨x,H,I1,ru,⟨rfl,λys hy=>(I.gz hy hq)▸hx⟩,st',λb hb=>(hf b hb).1⟩⟩
 done:=by
  intro X hP hw hK hc i pins s σ H E I hf st hg;subst hP hw hK;obtain⟨xs,hq,hx⟩:=hg;obtain⟨its,rv,p,hz⟩:=I.list hq;obtain⟨f0,f1,f2,f3,f4,f5⟩:=hf it (by simp);have hl:=rv.length;exact wpAny_pyNext_list_end (I.ok.hd hc) st p.isList (by simp;omega) λh' eb=>⟨rfl,I.turned (t':=s.toks) (λb o hb e=>eb b o hb e) f0 f1 f3 f4 f5⟩
 self:=λ_ _ _ _ _ st h=>wpAny_pyIter_listiter st h
theorem yB{P:Program}{w:World}{K:Wf}{tg:Expr}(a it:Addr):Turn P w K tg (Pd K a) [it] it (λi h=>h.IsTupleIter it a i) where
 mem:=by simp
 obj:=λi h st b hb=>by
  have e:=by simpa using hb
  subst e;obtain⟨o,e,c,d⟩:=st;exact⟨o,e,λv z=>by rw[d]at z;cases z⟩
 keep:=λi h h' st k=>st.at λo e=>k it (by simp) o e
 item:=by
  intro X hP hw hK hc i pins s σ H E I hf st hg;subst hP hw hK;obtain⟨xs,x,hq,hx⟩:=hg;obtain⟨its,rv,p,hz⟩:=I.tuple hq;obtain⟨u,hu,ru⟩:=rv.get hx;obtain⟨f0,f1,f2,f3,f4,f5⟩:=hf it (by simp);refine wpAny_pyNext_tuple_item st p (by simpa using hu) λh' st' sb=>?_;have I1:=I.turned (t':=s.toks) (λb o hb e=>(sb.2 b hb).trans e) f0 f1 f3 f4 f5;obtain⟨o,e,c,d⟩:=id st';exact⟨u,rfl,x_ e c d (by decide) ⟨x,H,I1,ru,⟨rfl,λys hy=>(I.jP hy hq)▸hx⟩,st',λb hb=>(hf b hb).1⟩⟩
 done:=by
  intro X hP hw hK hc i pins s σ H E I hf st hg;subst hP hw hK;obtain⟨xs,hq,hx⟩:=hg;obtain⟨its,rv,p,hz⟩:=I.tuple hq;obtain⟨f0,f1,f2,f3,f4,f5⟩:=hf it (by simp);have hl:=rv.length;exact wpAny_pyNext_tuple_end (I.ok.hd hc) st p (by simp;omega) λh' eb=>⟨rfl,I.turned (t':=s.toks) (λb o hb e=>eb b o hb e) f0 f1 f3 f4 f5⟩
 self:=λ_ _ _ _ _ st h=>wpAny_pyIter_tupleiter st h
theorem yV{P:Program}{w:World}{K:Wf}{tg:Expr}(it:Addr)(lo:Int)(n:Nat):Turn P w K tg (CM lo n) [it] it (λi h=>IsRangeIter h it (lo+(i:Nat)*1) ((n:Int) - (i:Nat)) 1) where
 mem:=by simp
 obj:=λi h st b hb=>by
  have e:=by simpa using hb
  subst e;exact⟨_,st,λv z=>by
   have z':=z;cases z'⟩
 keep:=λi h h' st k=>k it (by simp) _ st
 item:=by
  intro X hP hw hK hc i pins s σ H E I hf st hg;subst hP hw hK;obtain⟨f0,f1,f2,f3,f4,f5⟩:=hf it (by simp);have W:=Walks.range (prog:=X.prog) (w:=X.w) (I.ok.hd hc) it lo 1 n;refine W.item i s _ _ hg st λv h' tk hv st' kk=>?_;obtain⟨t,rfl⟩:=hv;have I1:Inv X pins σ H { s with heap:=h',toks:=tk }:=I.turned (λb o hb e=>kk b o (by simpa using hb) e) f0 f1 f3 f4 f5;refine⟨_,rfl,x_ st' rfl rfl (by decide) ⟨.int (lo+i),H,I1,⟨t,?_⟩,⟨rfl,rfl⟩,st',λb hb=>(hf b hb).1⟩⟩;rw[Int.mul_one]
 done:=by
  intro X hP hw hK hc i pins s σ H E I hf st hg;subst hP hw hK;obtain⟨f0,f1,f2,f3,f4,f5⟩:=hf it (by simp);exact wpAny_pyNext_range_end (I.ok.hd hc) st (by have:n<=i:=hg;lia) λh' eb=>⟨rfl,I.turned (λb o hb e=>eb b o hb e) f0 f1 f3 f4 f5⟩
 self:=λ_ _ _ _ _ st h=>wpAny_pyIter_rangeiter st h
section
variable{X:Cx}{tg:Expr}
def xS(K:Wf)(tl:TE):TI:=λσ H R=>tl σ H λx H1=>∃a,x=.ref a/\(∃xs,aH K H1 a xs)/\R (EH K a) H1
def Lz(K:Wf)(tl:TE):TI:=λσ H R=>tl σ H λx H1=>∃a,x=.ref a/\(∃xs,bg K H1 a xs)/\R (Pd K a) H1
theorem Mh(hl:PE X l tl):PI X tg l (xS X.K tl):=by
 intro pins s σ H R I h;refine bG (hl pins s σ H _ I h) λv s1 ⟨x,H1,I1,r1,q1⟩=>?_;obtain⟨a,e,⟨xs,hq⟩,q⟩:=q1;subst e;cases r1;obtain⟨its,rv,p,hz⟩:=I1.list hq;refine Ti p.isList (⟨s1.heap.objs.size,[s1.heap.objs.size],_,_,H1,rfl,I1.kept λb o e=>cS _ e,B9 a _,⟨_,hV _ rfl,rfl,rfl⟩,λb hb=>?_,q⟩);have e:=by simpa using hb
 subst e;exact I1.xG (bS _) (I1.a6.fresh (bS _))
theorem O_(hl:PE X l tl):PI X tg l (Lz X.K tl):=by
 intro pins s σ H R I h;refine bG (hl pins s σ H _ I h) λv s1 ⟨x,H1,I1,r1,q1⟩=>?_;obtain⟨a,e,⟨xs,hq⟩,q⟩:=q1;subst e;cases r1;obtain⟨its,rv,p,hz⟩:=I1.tuple hq;refine wpAny_pyIter_tuple p (⟨s1.heap.objs.size,[s1.heap.objs.size],_,_,H1,rfl,I1.kept λb o e=>cS _ e,yB a _,⟨_,hV _ rfl,rfl,rfl⟩,λb hb=>?_,q⟩);have e:=by simpa using hb
 subst e;exact I1.xG (bS _) (I1.a6.fresh (bS _))
theorem GG{pins:Lo}{σ:St}{H:Hp}{s:Shared}{R:It->Hp->Prop}{E:Vs}{lo hi:Int}{t u v:Tok}{tk:Nat}(I:Inv X pins σ H s)(h1 : -(2 ^ 62)<=lo)(h2:lo<2 ^ 62)(h3 : -(2 ^ 62)<=hi)(h4:hi<2 ^ 62)
  (q:R (CM lo (hi - lo).toNat) H):wpAny 'b' X.A (pyIter 'C') (ZC X pins σ tg R) E { s with heap:=s.heap.push { cls:=.type "range", data:=.fields #[.int lo t,.int hi u,.int 1 v] },toks:=tk }:=by
 refine wpAny_pyIter_range (IsRange.new ..) (small_one h1 h2 h3 h4) ?_;have I1:Inv X pins σ H { s with heap:=s.heap.push { cls:=.type "range", data:=.fields #[.int lo t,.int hi u,.int 1 v] },toks:=tk }:=I.kept λb o e=>cS _ e;refine⟨(s.heap.push { cls:=.type "range", data:=.fields #[.int lo t,.int hi u,.int 1 v] }).objs.size,[(s.heap.push { cls:=.type "range", data:=.fields #[.int lo t,.int hi u,.int 1 v] }).objs.size],_,_,H,rfl,
  I1.kept λb o e=>cS _ e,yV _ lo (hi - lo).toNat,?_,λb hb=>?_,q⟩
 ·have e1:lo+((0:Nat):Int)*1=lo:=by simp
  have e2:(((hi - lo).toNat:Nat):Int) - ((0:Nat):Int)=Builtin.Range.rangeSize lo hi 1:=by rw[rangeSize_one];split<;>lia
  rw[e1,e2];exact hV _ rfl
 ·have e:b=(s.heap.push { cls:=.type "range", data:=.fields #[.int lo t,.int hi u,.int 1 v] }).objs.size:=by simpa using hb
  subst e;exact I1.xG (bS _) (I1.a6.fresh (bS _))
def Ga(ta:TA):TI:=λσ H R=>ta σ H λvs H1=>∃j:Int,vs=[.int j] /\ -(2 ^ 62)<=j/\j<2 ^ 62/\R (CM 0 j.toNat) H1
def Vb(ta:TA):TI:=λσ H R=>ta σ H λvs H1=>∃i j:Int,vs=[.int i,.int j]/\(-(2 ^ 62)<=i/\i<2 ^ 62 /\ -(2 ^ 62)<=j/\j<2 ^ 62)/\R (CM i (j - i).toNat) H1
theorem g8(hg:Gl X "range")(hm:X.mg "range" = none)(ha:PA X [a] ta)(hs:starEach [a] X.env=[(false,eval a X.env)]:=by rfl):PI X tg (.Call (.Name "range" p) [a] [] pos) (Ga ta):=by
 intro pins s σ H R I h;refine Call_ (gc I hg hm boot_range (PyProof.Rows.callWith_type1 (bG (ha pos pins s σ H _ I h) λus s1 ⟨vs,H1,I1,r1,q1⟩=>?_) hs rfl));obtain⟨j,e,q1,q2,q⟩:=q1;subst e;cases r1 with
 |cons r rr=>
  cases rr;obtain⟨t,rfl⟩:=r;exact call_range_1 (GG I1 (by lia) (by lia) q1 q2 (by simpa using q))
def lP(wi:TI)(g:TG)(tb:TS):TS:=λD σ H=>wi σ H λJ H1=>∃W:Nat->Nat->St->Hp->Prop,(∃m,W 0 m σ H1)/\∀i m σ H,W i m σ H->
 (J.stop i H/\D.nx σ H)\/(J.go i H/\∃N:St->Hp->Prop,(∀σ' H',N σ' H'->∃m',m'<m/\W (i+1) m' σ' H')/\∀x H',J.Cj i H x H'->g x σ H' λσ2 H2=>tb { D with nx:=N,ct:=N,bk:=D.nx } σ2 H2)
def lX(fp:List Addr)(h:Heap):Lo:=fp.filterMap λb=>(h.get? b).map λo=>(b,o)
theorem fL(hb:b∈fp)(e:h.get? b=some o):(b,o)∈lX fp h:=NU.mpr ⟨b,hb,by rw[e];rfl⟩
theorem BY(hp:p∈lX fp h):p.1∈fp/\h.get? p.1=some p.2:=by
 obtain⟨b,hb,e⟩:=NU.mp hp;cases q:h.get? b with
 |none=>rw[q]at e;cases e
 |some o=>
  rw[q]at e;have e':=Option.some.inj e;subst e';exact⟨hb,q⟩
theorem Inv.pinned{pins:Lo}{σ:St}{H:Hp}{s:Shared}{fp:List Addr}(I:Inv X pins σ H s)(hf:∀b∈fp,fi X pins H b)(ho:∀b∈fp,∃o,s.heap.get? b=some o/\∀v,o.data≠.cell v):Inv X (pins++lX fp s.heap) σ H s:=
 I.kX λp hp=>(bM.mp hp).elim (λz=>I.pin p (gi _ z)) λz=>by
  obtain⟨hb,e⟩:=BY z;obtain⟨f0,f1,f2,_⟩:=hf p.1 hb;obtain⟨o,e',d⟩:=ho p.1 hb;rw[e]at e';cases e';exact⟨e,f0,f1,f2,d⟩
theorem Inv.i5{pins pl:Lo}{σ:St}{H:Hp}{s:Shared}(I:Inv X (pins++pl) σ H s):Inv X pins σ H s:=I.kX λp hp=>I.pin p (gi _ (gG _ hp))
theorem Qh(hp:PassesOwn 'b' X.A X.env X.xe)(hc:X.calm=true)(hi:PI X tg iter wi)(hg:PG X tg g)(hb:yi X body tb)
  (hs:∀x,foldedSetIterable iter X.env x=pure x:=by intro _;rfl):PS X (.For tg iter body [] pos) (lP wi g tb):=by
 intro pins s σ H D I h;refine wpAny_For (bG (hi pins s σ H _ I h) λv s1 h1=>bG h1 λitv s2 h2=>?_) hs;obtain⟨it,fp,tn,J,H2,e,I2,T,st2,f2,W,⟨m0,w0⟩,turn⟩:=h2;subst e;have stat:∀{H':Hp},(∀b∈fp,H' b=none)->∀b∈fp,fi X pins H' b:=λhn b hb=>⟨hn b hb,(f2 b hb).2⟩;refine codeAny_forLoop_any (λn s'=>∃i σ' H',Inv X pins σ' H' s'/\tn i s'.heap/\(∀b∈fp,H' b=none)/\W i n σ' H') ?_ m0 ⟨0,σ,H2,I2,st2,λb hb=>(f2 b hb).1,w0⟩;rintro n s3 ⟨i,σ3,H3,I3,st3,fr3,w3⟩;rcases turn i n σ3 H3 w3 with ⟨stop,qn⟩|⟨go,N,hN,step⟩
 ·refine OY hp (bG (T.done X rfl rfl rfl hc i pins s3 σ3 H3 X.xe I3 (stat fr3) st3 stop) λr s4 ⟨hr,I4⟩=>?_);subst hr;exact wpAny_execs_nil ⟨σ3,H3,I4,qn⟩
 ·refine OY hp (bG (T.item X rfl rfl rfl hc i pins s3 σ3 H3 X.xe I3 (stat fr3) st3 go) λr s4 ⟨u,hr,h4⟩=>?_);subst hr;refine OY hp (bG h4 λ_ s5 ⟨x,H5,I5,r5,y5,st5,fr5⟩=>?_);have I5':=I5.pinned (stat fr5) (T.obj _ _ st5);refine OY hp (bG (hg _ s5 σ3 H5 x u _ I5' r5 (step x H5 y5)) λ_ s6 ⟨σ6,H6,I6,q6⟩=>(OY hp (bG (hb _ s6 σ6 H6 _ I6 q6) λf s7 q7=>?_)));have again:∀{σ7:St}{H7:Hp},Inv X (pins++lX fp s5.heap) σ7 H7 s7->N σ7 H7->∃m,m<n/\∃i σ' H',Inv X pins σ' H' s7/\tn i s7.heap/\(∀b∈fp,H' b=none)/\W i m σ' H':=λ{σ7 H7} I7 n7=>by
   obtain⟨m',hm,w7⟩:=hN σ7 H7 n7;refine⟨m',hm,i+1,σ7,H7,I7.i5,T.keep _ _ _ st5 λb hb o e=>(I7.pin (b,o) (gi _ (gi _ (fL hb e)))).1,λb hb=>?_,w7⟩;obtain⟨o,e,d⟩:=T.obj _ _ st5 b hb;exact(I7.pin (b,o) (gi _ (gi _ (fL hb e)))).2.1
  cases f with
  |next=>obtain⟨σ7,H7,I7,n7⟩:=q7;exact again I7 n7
  |cont=>obtain⟨σ7,H7,I7,n7⟩:=q7;exact again I7 n7
  |brk=>obtain⟨σ7,H7,I7,q7⟩:=q7;exact⟨σ7,H7,I7.i5,q7⟩
  |ret v=>obtain⟨x7,σ7,H7,I7,r7,q7⟩:=q7;exact⟨x7,σ7,H7,I7.i5,r7,q7⟩
end
theorem JX{K:Wf}{a:Addr}{xs:List V}{g:TG}{tb:TS}{D:Ends}{σ:St}{H:Hp}(Pv:Nat->St->Hp->Prop)(h0:Pv 0 σ H)(hl:∀i σ H,i<=xs.length->Pv i σ H->aH K H a xs)
  (hs:∀i x σ H,xs[i]?=some x->Pv i σ H->g x σ H λσ2 H2=>tb { D with nx:=Pv (i+1),ct:=Pv (i+1),bk:=D.nx } σ2 H2) (hd:∀σ H,Pv xs.length σ H->D.nx σ H):
  ∃W:Nat->Nat->St->Hp->Prop,(∃m,W 0 m σ H)/\∀i m σ H,W i m σ H->
   ((EH K a).stop i H/\D.nx σ H)\/((EH K a).go i H/\∃N:St->Hp->Prop,(∀σ' H',N σ' H'->∃m',m'<m/\W (i+1) m' σ' H')/\∀x H',(EH K a).Cj i H x H'->g x σ H' λσ2 H2=>tb { D with nx:=N,ct:=N,bk:=D.nx } σ2 H2):=by
 refine⟨λi m σ H=>m=xs.length - i/\i<=xs.length/\Pv i σ H,⟨xs.length,by simp,Nat.zero_le _,h0⟩,?_⟩;rintro i m σ H ⟨rfl,hi,p⟩;have q:=hl i σ H hi p;by_cases hlt:i<xs.length
 ·refine .inr ⟨⟨xs,xs[i],q,by simp⟩,Pv (i+1),λσ' H' p'=>⟨xs.length - (i+1),by lia,rfl,hlt,p'⟩,λx H' y=>?_⟩;obtain⟨e,y⟩:=y;subst e;exact hs i x σ _ (y xs q) p
 ·have e:i=xs.length:=by lia
  subst e;exact .inl ⟨⟨xs,q,bS _⟩,hd σ H p⟩
theorem KR{K:Wf}{a:Addr}{xs:List V}{g:TG}{tb:TS}{D:Ends}{σ:St}{H:Hp}(Pv:Nat->St->Hp->Prop)(h0:Pv 0 σ H)(hl:∀i σ H,i<=xs.length->Pv i σ H->bg K H a xs)
  (hs:∀i x σ H,xs[i]?=some x->Pv i σ H->g x σ H λσ2 H2=>tb { D with nx:=Pv (i+1),ct:=Pv (i+1),bk:=D.nx } σ2 H2) (hd:∀σ H,Pv xs.length σ H->D.nx σ H):
  ∃W:Nat->Nat->St->Hp->Prop,(∃m,W 0 m σ H)/\∀i m σ H,W i m σ H->
   ((Pd K a).stop i H/\D.nx σ H)\/((Pd K a).go i H/\∃N:St->Hp->Prop,(∀σ' H',N σ' H'->∃m',m'<m/\W (i+1) m' σ' H')/\∀x H',(Pd K a).Cj i H x H'->g x σ H' λσ2 H2=>tb { D with nx:=N,ct:=N,bk:=D.nx } σ2 H2):=by
 refine⟨λi m σ H=>m=xs.length - i/\i<=xs.length/\Pv i σ H,⟨xs.length,by simp,Nat.zero_le _,h0⟩,?_⟩;rintro i m σ H ⟨rfl,hi,p⟩;have q:=hl i σ H hi p;by_cases hlt:i<xs.length
 ·refine .inr ⟨⟨xs,xs[i],q,by simp⟩,Pv (i+1),λσ' H' p'=>⟨xs.length - (i+1),by lia,rfl,hlt,p'⟩,λx H' y=>?_⟩;obtain⟨e,y⟩:=y;subst e;exact hs i x σ _ (y xs q) p
 ·have e:i=xs.length:=by lia
  subst e;exact .inl ⟨⟨xs,q,bS _⟩,hd σ H p⟩
theorem BG{lo:Int}{n:Nat}{g:TG}{tb:TS}{D:Ends}{σ:St}{H:Hp}(Pv:Nat->St->Hp->Prop)(h0:Pv 0 σ H)
  (hs:∀i σ H,i<n->Pv i σ H->g (.int (lo+i)) σ H λσ2 H2=>tb { D with nx:=Pv (i+1),ct:=Pv (i+1),bk:=D.nx } σ2 H2) (hd:∀σ H,Pv n σ H->D.nx σ H):
  ∃W:Nat->Nat->St->Hp->Prop,(∃m,W 0 m σ H)/\∀i m σ H,W i m σ H->
   ((CM lo n).stop i H/\D.nx σ H)\/((CM lo n).go i H/\∃N:St->Hp->Prop,(∀σ' H',N σ' H'->∃m',m'<m/\W (i+1) m' σ' H')/\∀x H',(CM lo n).Cj i H x H'->g x σ H' λσ2 H2=>tb { D with nx:=N,ct:=N,bk:=D.nx } σ2 H2):=by
 refine⟨λi m σ H=>m=n - i/\i<=n/\Pv i σ H,⟨n,by simp,Nat.zero_le _,h0⟩,?_⟩;rintro i m σ H ⟨rfl,hi,p⟩;by_cases hlt:i<n
 ·refine .inr ⟨hlt,Pv (i+1),λσ' H' p'=>⟨n - (i+1),by lia,rfl,hlt,p'⟩,λx H' y=>?_⟩;obtain⟨e,y⟩:=y;subst e y;exact hs i σ _ hlt p
 ·have e:i=n:=by lia
  subst e;exact .inl ⟨bS _,hd σ H p⟩
abbrev R2:=V->V->Hp->VK->Prop
def fZ(X:Cx)(f:Value->Value->Sem Value)(r:R2):Prop:=
 ∀(pins:Lo) (s:Shared) (σ:St) (H:Hp) (x y:V) (v u:Value) (Q:VK),Inv X pins σ H s->RelV x v->RelV y u->r x y H Q->
  wpAny 'b' X.A (f v u) 'T' X.xe s
def VZ(X:Cx)(f:Value->Sem Value)(r:V->Hp->VK->Prop):Prop:=
 ∀(pins:Lo) (s:Shared) (σ:St) (H:Hp) (x:V) (v:Value) (Q:VK),Inv X pins σ H s->RelV x v->r x H Q->
  wpAny 'b' X.A (f v) 'T' X.xe s
def cL(X:Cx)(f:Value)(r:List V->Hp->VK->Prop):Prop:=
 ∀(pins:Lo) (s:Shared) (σ:St) (H:Hp) (xs:List V) (us:List Value) (Q:VK),Inv X pins σ H s->Vals xs us->r xs H Q->
  wpAny 'b' X.A (call f us) 'T' X.xe s
def YN(X:Cx)(r:V->Hp->(Bool->Hp->Prop)->Prop):Prop:=
 ∀(pins:Lo) (s:Shared) (σ:St) (H:Hp) (x:V) (v:Value) (Q:Bool->Hp->Prop),Inv X pins σ H s->RelV x v->r x H Q->
  wpAny 'b' X.A (truthy v) (TP X pins σ Q) X.xe s
def BL(r:R2)(ta tb:TE):TE:=λσ H Q=>ta σ H λx H1=>tb σ H1 λy H2=>r x y H2 Q
def tUn(r:V->Hp->VK->Prop)(ta:TE):TE:=λσ H Q=>ta σ H λx H1=>r x H1 Q
def rI(C:Int->Int->Prop)(g:Int->Int->V):R2:=λx y H Q=>∃i j,x=.int i/\y=.int j/\C i j/\Q (g i j) H
def Lw(g:Int->Int->V):R2:=λx y H Q=>∃i j,x=.int i/\y=.int j/\Q (g i j) H
def rU(g:Int->V):V->Hp->VK->Prop:=λx H Q=>∃i,x=.int i/\Q (g i) H
section
variable{X:Cx}{a b c:Expr}{ta tb tc:TE}{pos:Pos}
theorem Pt(ha:PE X a ta)(hb:PE X b tb){pins:Lo}{s:Shared}{σ:St}{H:Hp}{R:V->V->Hp->Prop}(I:Inv X pins σ H s)
  (h:ta σ H λx H1=>tb σ H1 λy H2=>R x y H2) {Q:Vs}{f:Value->Value->Sem Value}
  (hf:∀v u s2 x y H2,Inv X pins σ H2 s2->RelV x v->RelV y u->R x y H2->wpAny 'b' X.A (f v u) Q X.xe s2):
  wpAny 'b' X.A (eval a X.env) (λv s₁=>wpAny 'b' X.A (eval b X.env) (λu s₂=>wpAny 'b' X.A (f v u) Q X.xe s₂) X.xe s₁) X.xe s:=by
 exact bG (ha pins s σ H _ I h) λv s1 ⟨x,H1,I1,r1,q1⟩=>(bG (hb pins s1 σ H1 _ I1 q1) λu s2 ⟨y,H2,I2,r2,q2⟩=>(hf v u s2 x y H2 I2 r1 r2 q2))
theorem az(ho:fZ X (binaryOp op) r)(ha:PE X a ta)(hb:PE X b tb):PE X (.BinOp a op b pos) (BL r ta tb):=by
 intro pins s σ H Q I h;exact wpAny_BinOp (Pt ha hb I h λv u s2 x y H2 I2 rx ry q=>ho pins s2 σ H2 x y v u Q I2 rx ry q)
theorem iq(ho:VZ X (unaryOp op) r)(ha:PE X a ta):PE X (.UnaryOp op a pos) (tUn r ta):=by
 intro pins s σ H Q I h;exact UnaryOp_ (bG (ha pins s σ H _ I h) λv s1 ⟨x,H1,I1,r1,q1⟩=>ho pins s1 σ H1 x v Q I1 r1 q1)
theorem RY{f:Value->Value->Sem Value}{C:Int->Int->Prop}{g:Int->Int->Int}
  (rule:∀(i j:Int) (t u:Tok) (s:Shared) (Q:Vs) (E:Vs),C i j->Q (.int (g i j) s.toks) { s with toks:=s.toks+1 }->wpAny 'b' X.A (f (.int i t) (.int j u)) Q E s):
  fZ X f (rI C λi j=>.int (g i j)):=by
 intro pins s σ H x y v u Q I rx ry h;obtain⟨i,j,rfl,rfl,hc,q⟩:=h;obtain⟨t,rfl⟩:=rx;obtain⟨t',rfl⟩:=ry;exact rule i j t t' s _ _ hc ⟨.int (g i j),H,I.tok _,⟨_,rfl⟩,q⟩
theorem LX{f:Value->Value->Sem Value}{g:Int->Int->Int}
  (rule:∀(i j:Int) (t u:Tok) (s:Shared) (Q:Vs) (E:Vs),Q (.int (g i j) s.toks) { s with toks:=s.toks+1 }->wpAny 'b' X.A (f (.int i t) (.int j u)) Q E s):
  fZ X f (Lw λi j=>.int (g i j)):=by
 intro pins s σ H x y v u Q I rx ry h;obtain⟨i,j,rfl,rfl,q⟩:=h;obtain⟨t,rfl⟩:=rx;obtain⟨t',rfl⟩:=ry;exact rule i j t t' s _ _ ⟨.int (g i j),H,I.tok _,⟨_,rfl⟩,q⟩
theorem Qu{f:Value->Value->Sem Value}{g:Int->Int->Bool}
  (rule:∀(i j:Int) (t u:Tok) (s:Shared) (Q:Vs) (E:Vs),Q (.bool (g i j)) s->wpAny 'b' X.A (f (.int i t) (.int j u)) Q E s):
  fZ X f (Lw λi j=>.bl (g i j)):=by
 intro pins s σ H x y v u Q I rx ry h;obtain⟨i,j,rfl,rfl,q⟩:=h;obtain⟨t,rfl⟩:=rx;obtain⟨t',rfl⟩:=ry;exact rule i j t t' s _ _ ⟨.bl (g i j),H,I,rfl,q⟩
def Xo(i j:Int):Prop:=0<j/\j<1073741824
def Xk(i j:Int):Prop:=0<=j/\j<=1000000/\i.natAbs<2 ^ 64
def La(i j:Int):Prop:=(-(2 ^ 64)<i/\i<2 ^ 64)\/(-(2 ^ 64)<j/\j<2 ^ 64)
theorem La.ok{i j:Int}(h:La i j):IntMulOk i j:=by
 rcases h with ⟨h1,h2⟩|⟨h1,h2⟩
 ·exact .of_left (intBits_le_64 h1 h2)
 ·exact .of_right (intBits_le_64 h1 h2)
theorem yQ(k:Nat):(0:Int)<=2 ^ k:=by
 exact Int.natCast_nonneg _
theorem cG:fZ X (binaryOp .Add) (Lw λi j=>.int (i+j)):=LX λ_ _ _ _ _ _ _ q=>add_int q
theorem gq:fZ X (binaryOp .Sub) (Lw λi j=>.int (i - j)):=LX λ_ _ _ _ _ _ _ q=>sub_int q
theorem eS:fZ X (binaryOp .Mult) (rI La λi j=>.int (i*j)):=RY λ_ _ _ _ _ _ _ hc q=>mul_int q hc.ok
theorem eV:fZ X (binaryOp .FloorDiv) (rI Xo λi j=>.int (i/j)):=RY λi j _ _ _ _ _ hc q=>by
 have h1:=hc.1;have h2:=hc.2;exact floordiv_int (by lia) (by rw[Int.fdiv_eq_ediv_of_nonneg i (by lia)];exact q) (.inl (PyProof.noPylong_small (by lia)))
theorem ba:fZ X (binaryOp .Mod) (rI (λ_ j=>0<j) λi j=>.int (i%j)):=RY λi j _ _ _ _ _ hc q=>by
 exact mod_int' (by lia) (by rw[Int.fmod_eq_emod_of_nonneg i (by lia)];exact q)
theorem Ez:fZ X (binaryOp .LShift) (rI Xk λi j=>.int (i*2 ^ j.toNat)):=RY λ_ _ _ _ _ _ _ hc q=>lshift_int_small hc.1 hc.2.1 hc.2.2 q
theorem OH:fZ X (binaryOp .RShift) (rI (λ_ j=>0<=j) λi j=>.int (i/2 ^ j.toNat)):=RY λi j _ _ _ _ _ hc q=>
 rshift_int hc ((Int.fdiv_eq_ediv_of_nonneg i (yQ _))▸q)
theorem Gq:fZ X (binaryOp .BitAnd) (Lw λi j=>.int (Builtin.bitAnd i j)):=LX λ_ _ _ _ _ _ _ q=>and_int q
theorem Sg:fZ X (binaryOp .BitOr) (Lw λi j=>.int (Builtin.bitOr i j)):=LX λ_ _ _ _ _ _ _ q=>or_int q
theorem ZH{f:Value->Sem Value}{g:Int->Int}
  (rule:∀(i:Int) (t:Tok) (s:Shared) (Q:Vs) (E:Vs),Q (.int (g i) s.toks) { s with toks:=s.toks+1 }->wpAny 'b' X.A (f (.int i t)) Q E s):
  VZ X f (rU λi=>.int (g i)):=by
 intro pins s σ H x v Q I rx h;obtain⟨i,rfl,q⟩:=h;obtain⟨t,rfl⟩:=rx;exact rule i t s _ _ ⟨.int (g i),H,I.tok _,⟨_,rfl⟩,q⟩
theorem fM:VZ X (unaryOp .USub) (rU λi=>.int (-i)):=ZH λ_ _ _ _ _ q=>neg_int q
theorem QV:VZ X (unaryOp .Invert) (rU λi=>.int (Builtin.bitNot i)):=ZH λ_ _ _ _ _ q=>invert_int q
end
def hX:V->V->Bool
 |.bB,.bB=>true|.bB,.int _=>true|.int _,.bB=>true|.bB,.bl _=>true|.bl _,.bB=>true|.bB,.str _=>true|.str _,.bB=>true
 |.int _,.int _=>true|.bl _,.bl _=>true|.str _,.str _=>true|.yy _,.yy _=>true
 |.int _,.str _=>true|.str _,.int _=>true|.bl _,.str _=>true|.str _,.bl _=>true
 |_,_=>false
theorem sc0:hX .bB .bB=true:=rfl
theorem sc1:hX .bB (.int i)=true:=rfl
theorem sc2:hX (.int i) .bB=true:=rfl
theorem sc3:hX .bB (.bl i)=true:=rfl
theorem sc4:hX (.bl i) .bB=true:=rfl
theorem sc5:hX .bB (.str i)=true:=rfl
theorem sc6:hX (.str i) .bB=true:=rfl
theorem sc7:hX (.int i) (.int j)=true:=rfl
theorem sc8:hX (.bl i) (.bl j)=true:=rfl
theorem sc9:hX (.str i) (.str j)=true:=rfl
theorem aal:hX (.int i) (.str j)=true:=rfl
theorem aap:hX (.str i) (.int j)=true:=rfl
theorem aas:hX (.bl i) (.str j)=true:=rfl
theorem aan:hX (.str i) (.bl j)=true:=rfl
def Zs:R2:=λx y H Q=>hX x y=true/\Q (.bl (decide (x=y))) H
def rNe:R2:=λx y H Q=>hX x y=true/\Q (.bl (!decide (x=y))) H
theorem Ak:decide (V.int i=V.int j)=(i == j):=by
 rw[Qn];simp
theorem Fe:decide (V.bl i=V.bl j)=(i == j):=by
 rw[Qn];simp
theorem AG:decide (V.str i=V.str j)=(i == j):=by
 rw[Qn];simp
theorem AO:decide (V.yy i=V.yy j)=(i.toList == j.toList):=by
 rw[Qn];cases i;cases j;simp
section
variable{X:Cx}{a b c:Expr}{ta tb tc:TE}{pos:Pos}
theorem bq{pins:Lo}{σ:St}{H:Hp}{s:Shared}{Q:VK}{k k':Bool}(I:Inv X pins σ H s)(q:Q (.bl k) H)(e:k=k'):EP X pins σ Q (.bool k') s:=by
 subst e;exact⟨.bl k,H,I,rfl,q⟩
theorem dk:fZ X (compareOp .Eq) Zs:=by
 intro pins s σ H x y v u Q I rx ry h;obtain⟨hs,q⟩:=h;cases x with
 |bB=>
  cases rx;cases y with
  |bB=>cases ry;exact PySem.EqNone.eq_none_none 'l'
  |bl j=>cases ry;exact PySem.EqNone.eq_none_bool 'l'
  |int j=>obtain⟨t',rfl⟩:=ry;exact PySem.EqNone.eq_none_int 'l'
  |str j=>obtain⟨t',rfl⟩:=ry;exact PySem.EqNone.eq_none_str 'l'
  |_=>exact absurd (show false=true from hs) nM
 |bl i=>
  cases rx;cases y with
  |bB=>cases ry;exact PySem.EqNone.eq_bool_none 'l'
  |bl j=>cases ry;exact eq_bool (bq I q Fe)
  |str j=>obtain⟨t',rfl⟩:=ry;exact PySem.EqMixed.eq_bool_str 'l'
  |_=>exact absurd (show false=true from hs) nM
 |int i=>
  obtain⟨t,rfl⟩:=rx;cases y with
  |bB=>cases ry;exact PySem.EqNone.eq_int_none 'l'
  |int j=>obtain⟨t',rfl⟩:=ry;exact eq_int (bq I q Ak)
  |str j=>obtain⟨t',rfl⟩:=ry;exact PySem.EqMixed.eq_int_str 'l'
  |_=>exact absurd (show false=true from hs) nM
 |str i=>
  obtain⟨t,rfl⟩:=rx;cases y with
  |bB=>cases ry;exact PySem.EqNone.eq_str_none 'l'
  |bl j=>cases ry;exact PySem.EqMixed.eq_str_bool 'l'
  |int j=>obtain⟨t',rfl⟩:=ry;exact PySem.EqMixed.eq_str_int 'l'
  |str j=>obtain⟨t',rfl⟩:=ry;exact eq_str (bq I q AG)
  |_=>exact absurd (show false=true from hs) nM
 |yy i=>
  obtain⟨t,rfl⟩:=rx;cases y with
  |yy j=>obtain⟨t',rfl⟩:=ry;exact PySem.W.eq_bytes (bq I q AO)
  |_=>exact absurd (show false=true from hs) nM
 |_=>cases y<;>exact absurd (show false=true from hs) nM
theorem RX:fZ X (compareOp .NotEq) rNe:=by
 intro pins s σ H x y v u Q I rx ry h;obtain⟨hs,q⟩:=h;cases x with
 |bB=>
  cases rx;cases y with
  |bB=>cases ry;exact PySem.EqNone.ne_none_none 'l'
  |bl j=>cases ry;exact PySem.EqNone.ne_none_bool 'l'
  |int j=>obtain⟨t',rfl⟩:=ry;exact PySem.EqNone.ne_none_int 'l'
  |str j=>obtain⟨t',rfl⟩:=ry;exact PySem.EqNone.ne_none_str 'l'
  |_=>exact absurd (show false=true from hs) nM
 |bl i=>
  cases rx;cases y with
  |bB=>cases ry;exact PySem.EqNone.ne_bool_none 'l'
  |bl j=>cases ry;exact ne_bool (bq I q (congrArg not Fe))
  |str j=>obtain⟨t',rfl⟩:=ry;exact PySem.EqMixed.ne_bool_str 'l'
  |_=>exact absurd (show false=true from hs) nM
 |int i=>
  obtain⟨t,rfl⟩:=rx;cases y with
  |bB=>cases ry;exact PySem.EqNone.ne_int_none 'l'
  |int j=>obtain⟨t',rfl⟩:=ry;exact ne_int (bq I q (congrArg not Ak))
  |str j=>obtain⟨t',rfl⟩:=ry;exact PySem.EqMixed.ne_int_str 'l'
  |_=>exact absurd (show false=true from hs) nM
 |str i=>
  obtain⟨t,rfl⟩:=rx;cases y with
  |bB=>cases ry;exact PySem.EqNone.ne_str_none 'l'
  |bl j=>cases ry;exact PySem.EqMixed.ne_str_bool 'l'
  |int j=>obtain⟨t',rfl⟩:=ry;exact PySem.EqMixed.ne_str_int 'l'
  |str j=>obtain⟨t',rfl⟩:=ry;exact ne_str (bq I q (congrArg not AG))
  |_=>exact absurd (show false=true from hs) nM
 |yy i=>
  obtain⟨t,rfl⟩:=rx;cases y with
  |yy j=>obtain⟨t',rfl⟩:=ry;exact PySem.W.ne_bytes (bq I q (congrArg not AO))
  |_=>exact absurd (show false=true from hs) nM
 |_=>cases y<;>exact absurd (show false=true from hs) nM
theorem kr:fZ X (compareOp .Lt) (Lw λi j=>.bl (decide (i<j))):=Qu λ_ _ _ _ _ _ _ q=>lt_int q
theorem zV:fZ X (compareOp .LtE) (Lw λi j=>.bl (decide (i<=j))):=Qu λ_ _ _ _ _ _ _ q=>le_int q
theorem Je:fZ X (compareOp .Gt) (Lw λi j=>.bl (decide (j<i))):=Qu λ_ _ _ _ _ _ _ q=>gt_int q
theorem KA:fZ X (compareOp .IsNot) (λx y H Q=>y=.bB/\Q (.bl (!decide (x=.bB))) H):=by
 intro pins s σ H x y v u Q I rx ry h;obtain⟨rfl,q⟩:=h;cases ry;refine isnot_none_gen (bq I q ?_);cases x<;>first
  | (cases rx;rfl)
  | (obtain⟨t,rfl⟩:=rx;rfl)
theorem aV(b:Expr){op:CmpOp}(h:op≠.In:=by decide)(h2:op≠.NotIn:=by decide):behindInMarks op b=false:=by
 have e1:(op == CmpOp.In)=false:=by cases op<;>first|rfl|exact absurd rfl h
 have e2:(op == CmpOp.NotIn)=false:=by cases op<;>first|rfl|exact absurd rfl h2
 cases b<;>simp[behindInMarks,e1,e2]
theorem gQ(ho:fZ X (compareOp op) r)(ha:PE X a ta)(hb:PE X b tb)(hm:behindInMarks op b=false):PE X (.Compare a [op] [b] pos) (BL r ta tb):=by
 intro pins s σ H Q I h;exact wpAny_Compare1 (Pt ha hb I h λv u s2 x y H2 I2 rx ry q=>ho pins s2 σ H2 x y v u Q I2 rx ry q) hm
def NL(t:TE):TT:=λσ H Q=>t σ H λx H'=>∃k,x=.bl k/\Q k H'
theorem cJ(ho:fZ X (compareOp op) r)(ha:PE X a ta)(hb:PE X b tb)(hm:behindInMarks op b=false):PT X (.Compare a [op] [b] pos) (NL (BL r ta tb)):=by
 intro pins s σ H Q I h;refine wpAny_isTrue_Compare1 (bG (ha pins s σ H _ I h) λv s1 ⟨x,H1,I1,r1,q1⟩=>bG (hb pins s1 σ H1 _ I1 q1) λu s2 ⟨y,H2,I2,r2,q2⟩=>
  bG (ho pins s2 σ H2 x y v u _ I2 r1 r2 q2) λc s3 ⟨z,H3,I3,r3,k,e,q3⟩=>?_) hm
 subst e;cases r3;exact LQ ⟨H3,I3,q3⟩
def Oy(r r':R2)(ta tb tc:TE):TE:=λσ H Q=>ta σ H λx H1=>tb σ H1 λy H2=>r x y H2 λz H3=>∃k,z=.bl k/\
 (if k=true then tc σ H3 λw' H4=>r' y w' H4 Q else Q (.bl false) H3)
theorem xv(ho:fZ X (compareOp op) r)(ho':fZ X (compareOp op') r')(ha:PE X a ta)(hb:PE X b tb)(hc:PE X c tc)
  (hm:lastMarks [op,op'] [b,c]=false:=by with_unfolding_all rfl):PE X (.Compare a [op,op'] [b,c] pos) (Oy r r' ta tb tc):=by
 intro pins s σ H Q I h;refine Compare_chain (bG (ha pins s σ H _ I h) λv s1 ⟨x,H1,I1,r1,q1⟩=>chain_link (bG (hb pins s1 σ H1 _ I1 q1) λu s2 ⟨y,H2,I2,r2,q2⟩=>
  bG (ho pins s2 σ H2 x y v u _ I2 r1 r2 q2) λd s3 ⟨z,H3,I3,r3,k,e,q3⟩=>?_)) hm
 subst e;cases r3;refine LQ ?_;cases k with
 |false=>exact ite_ff ⟨.bl false,H3,I3,rfl,q3⟩
 |true=>exact ite_tt (chain_last (bG (hc pins s3 σ H3 _ I3 q3) λw' s4 ⟨z',H4,I4,r4,q4⟩=>ho' pins s4 σ H4 y z' u w' Q I4 r2 r4 q4))
def Sv(K:Wf)(x:V)(H:Hp)(k:Bool):Prop:=
 match x with
 |.bB=>k=false
 |.bl b=>k=b
 |.int i=>k=(i != 0)
 |.str y=>y.length<=sizeLine/\k=((y.length:Int) != 0)
 |.yy y=>y.size<=sizeLine/\k=((y.size:Int) != 0)
 |.ref p=>(∃xs,aH K H p xs/\k = !xs.isEmpty)\/(∃xs,bg K H p xs/\k = !xs.isEmpty)\/∃ag,H p=some (.dK ag)/\k = !ag.isEmpty
 |_=>False
theorem zx{κ:Type}{ag:List (κ×V)}{vs:List (κ×Value)}(r:KV ag vs):(!vs.isEmpty) = !ag.isEmpty:=by
 cases r<;>rfl
theorem mz(r:Vals xs its):(!its.toArray.isEmpty) = !xs.isEmpty:=by
 cases r<;>simp
theorem qu:(sizeLine:Nat)<2 ^ 63:=by rw[sizeLine_eq];decide
theorem QT:YN X (λx H Q=>∃k,Sv X.K x H k/\Q k H):=by
 intro pins s σ H x v Q I rx h;obtain⟨k,e,q⟩:=h;have hs:=sizeLine_eq;cases x with
 |bB=>
  cases rx;have e':=e;subst e';exact truthy_none ⟨H,I,q⟩
 |bl b=>
  cases rx;have e':=e;subst e';exact LQ ⟨H,I,q⟩
 |int i=>
  obtain⟨t,rfl⟩:=rx;have e':=e;subst e';exact PySem.P.truthy_int ⟨H,I,q⟩
 |str y=>
  obtain⟨t,rfl⟩:=rx;obtain⟨hy,e'⟩:y.length<=sizeLine/\k=((y.length:Int) != 0):=e;subst e';exact PySem.P.truthy_str (by lia) ⟨H,I.tok _,q⟩
 |yy y=>
  obtain⟨t,rfl⟩:=rx;obtain⟨hy,e'⟩:y.size<=sizeLine/\k=((y.size:Int) != 0):=e;subst e';exact PySem.W.truthy_bytes (by lia) ⟨H,I.tok _,q⟩
 |ref p=>
  cases rx;have e':=e;rcases e' with ⟨xs,hx,e'⟩|⟨xs,hx,e'⟩|⟨ag,hx,e'⟩
  ·subst e';obtain⟨its,r,pl,hz⟩:=I.list hx;have hlen:=r.length;exact wpAny_truthy_list pl.isList (by simp only[List.size_toArray];omega) ⟨H,I.tok _,(mz r)▸q⟩
  ·subst e';obtain⟨its,r,pl,hz⟩:=I.tuple hx;have hlen:=r.length;exact truthy_tuple pl (by simp only[List.size_toArray];omega) ⟨H,I.tok _,(mz r)▸q⟩
  ·subst e';obtain⟨hz,hS,vs,r,m⟩:ag.length<=sizeLine/\(p == sysModules)=false/\∃vs,KV ag vs/\s.heap.DictOf (aX X.prog X.w) p vs:=I.a6 p _ hx;have hlen:=Paired.length r;exact wpAny_truthy_dict hS m (by lia) ⟨H,I.tok _,(zx r)▸q⟩
 |_=>exact e.elim
theorem jv(ha:PE X a ta)(he:∀whole,isTrue a X.env whole=(do let v <-whole;standAt a.pos;holding [v] (truthy v))):
  PT X a (λσ H Q=>ta σ H λx H'=>∃k,Sv X.K x H' k/\Q k H'):=by
 intro pins s σ H Q I h;exact isTrue_plain (bG (ha pins s σ H _ I h) λv s1 ⟨x,H1,I1,r1,q1⟩=>QT pins s1 σ H1 x v Q I1 r1 q1) (he _)
theorem iK:fZ X (binaryOp .Add) (λx y H Q=>∃i j,x=.str i/\y=.str j/\i.length+j.length<=sizeLine/\Q (.str (i++j)) H):=by
 intro pins s σ H x y v u Q I rx ry h;obtain⟨i,j,rfl,rfl,hz,q⟩:=h;obtain⟨t,rfl⟩:=rx;obtain⟨t',rfl⟩:=ry;exact add_str (λt' tk=>⟨.str (i++j),H,I.tok _,⟨_,rfl⟩,q⟩) hz
theorem vals1(r:Vals [x] us):∃u,us=[u]/\RelV x u:=by
 cases r with
 |cons r1 r2=>cases r2;exact⟨_,rfl,r1⟩
theorem vals2(r:Vals [x,y] us):∃u w',us=[u,w']/\RelV x u/\RelV y w':=by
 cases r with
 |cons r1 r2=>
  cases r2 with
  |cons r3 r4=>cases r4;exact⟨_,_,rfl,r1,r3⟩
theorem CH(hc:X.calm=true):cL X (.builtin "max") (λxs H Q=>∃i j,xs=[.int i,.int j]/\Q (.int (if j>i then j else i)) H):=by
 intro pins s σ H xs us Q I r h;obtain⟨i,j,rfl,q⟩:=h;obtain⟨u,w',rfl,⟨t,rfl⟩,⟨t',rfl⟩⟩:=vals2 r;refine max_two_ints (I.ok.hd hc) λh' tk k=>⟨_,H,I.kept k,?_,q⟩;by_cases hj:j>i
 ·rw[if_pos hj,if_pos hj];exact⟨_,rfl⟩
 ·rw[if_neg hj,if_neg hj];exact⟨_,rfl⟩
theorem jS:cL X (.type "int") (λxs H Q=>(∃i,xs=[.int i]/\Q (.int i) H)\/∃k,xs=[.bl k]/\Q (.int (if k then 1 else 0)) H):=by
 intro pins s σ H xs us Q I r h;rcases h with ⟨i,rfl,q⟩|⟨k,rfl,q⟩
 ·obtain⟨u,rfl,t,rfl⟩:=vals1 r;exact call_int_int ⟨.int i,H,I,⟨_,rfl⟩,q⟩
 ·obtain⟨u,rfl,r1⟩:=vals1 r;cases r1;exact call_int_bool ⟨.int (if k then 1 else 0),H,I.tok _,⟨_,rfl⟩,q⟩
theorem vU:cL X (.type "str") (λxs H Q=>∃i,xs=[.int i]/\i.natAbs.log2<1920/\Q (.str (toString i)) H):=by
 intro pins s σ H xs us Q I r h;obtain⟨i,rfl,hz,q⟩:=h;obtain⟨u,rfl,t,rfl⟩:=vals1 r;exact PySem.P.str_of_int hz ⟨.str _,H,I.tok _,⟨_,rfl⟩,q⟩
def UE(K:Wf)(x:V)(H:Hp)(n:Nat):Prop:=
 match x with
 |.str y=>y.length<=sizeLine/\n=y.length
 |.yy y=>y.size<=sizeLine/\n=y.size
 |.ref p=>(∃xs,aH K H p xs/\n=xs.length)\/∃xs,bg K H p xs/\n=xs.length
 |_=>False
theorem Eb:cL X (.builtin "len") (λxs H Q=>∃x n,xs=[x]/\UE X.K x H n/\Q (.int n) H):=by
 intro pins s σ H xs us Q I r h;obtain⟨x,n,rfl,e,q⟩:=h;obtain⟨u,rfl,rx⟩:=vals1 r;have hs:=sizeLine_eq;cases x with
 |str y=>
  obtain⟨t,rfl⟩:=rx;obtain⟨hy,e'⟩:y.length<=sizeLine/\n=y.length:=e;subst e';exact len_str (by lia) ⟨.int _,H,I.tok _,⟨_,rfl⟩,q⟩
 |yy y=>
  obtain⟨t,rfl⟩:=rx;obtain⟨hy,e'⟩:y.size<=sizeLine/\n=y.size:=e;subst e';exact PySem.W.len_bytes (by lia) ⟨.int _,H,I.tok _,⟨_,rfl⟩,q⟩
 |ref p=>
  cases rx;have e':=e;rcases e' with ⟨xs,hx,e'⟩|⟨xs,hx,e'⟩
  ·subst e';obtain⟨its,r',pl,hz⟩:=I.list hx;have hlen:=r'.length;exact Calls.call_len_list pl.isList (by simp only[List.size_toArray];omega) ⟨.int xs.length,H,I.tok _,⟨_,by simp only[List.size_toArray];rw[hlen]⟩,q⟩
  ·subst e';obtain⟨its,r',pl,hz⟩:=I.tuple hx;have hlen:=r'.length;exact len_tuple pl (by simp only[List.size_toArray];omega) ⟨.int xs.length,H,I.tok _,⟨_,by simp only[List.size_toArray];rw[hlen]⟩,q⟩
 |_=>exact e.elim
end
structure yC(h:Heap)(x dx C:Addr)(mA:So):Prop where
 obj:h.get? x=some (instObj C dx)
 ns:h.Ns1 dx mA
 ne:dx≠x
theorem Cq{h:Heap}{dx:Addr}{mA:So}(n:h.Ns1 dx mA):∃od,h.get? dx=some od/\∀name,lookIn name od=some (mA name):=by
 obtain⟨o,es,ep,ho,hd,hk,_,hm⟩:=n;refine⟨o,ho,λname=>?_⟩;have e:=hm name;unfold nsFind findBy at e;rw[<-Array.find?_toList]at e;unfold lookIn;rw[hd];dsimp only;split
 ·rename_i y q;rw[q]at e;exact congrArg some e
 ·rename_i q;rw[q]at e;have a:es.toList.any (·.refKey)=false:=by
   rw[List.any_eq_false];intro y hy;obtain⟨z,t,hkey⟩:=hk y (Array.mem_toList_iff.mp hy);simp[DictEntry.refKey,hkey]
  have a':¬es.toList.any (·.refKey)=true:=a▸nM;exact(if_neg a')▸congrArg some e
theorem yC.look(I:yC h x dx C mA):∃od,PySem.W.InstAt h x (instObj C dx) C (some od)/\∀name,lookIn name od=some (mA name):=
 let ⟨od,ho,hl⟩:=Cq I.ns
 ⟨od,⟨I.obj,rfl,rfl,ho⟩,hl⟩
section
variable{prog:Program}{w:World}{A:Around}{E:Vs}{s:Shared}{K:Wf}{x dx C f:Addr}{mA:So}{name:Str}{v:Value}
theorem get_map{expr:Bool}{Q:Vs}(X:K.In s.heap)(I:yC s.heap x dx C mA)(hg:plainGet K C name=true)(hh:hasDictIn K C=true)
  (ha:findIn K (.ref C) name=some none) (hv:mA name=some v) (hv':handedIn v=true) (h:Q v { s with toks:=s.toks+1 }):
  wpAny 'c' A (getAttr (.ref x) name expr) Q E s:=by
 obtain⟨od,J,hl⟩:=I.look;exact PySem.W.get_value X J (plainGet_of hg).1 (PySem.W.findObj_own hh ha rfl (by rw[hl,hv])) hv' h
theorem FT(X:K.In s.heap)(I:yC s.heap x dx C mA)(hg:plainGet K C name=true)
  (hf:findIn K (.ref C) name=some (some (.ref f))) (ht:isFn K (.ref f)=true) (hv:mA name=none) (h:Q (.ref f,[.ref x]) s):
  wpAny 'c' A (getMethod (.ref x) name pl) Q E s:=by
 obtain⟨od,J,hl⟩:=I.look;exact PySem.W.method_fn X J (plainGet_of hg).1 (plainGet_of hg).2 hf (beq_iff_eq.mp ht) (by show(lookIn name od).map (·.isSome)=some false;rw[hl,hv];rfl) h
theorem LP(X:K.In s.heap)(I:yC s.heap x dx C mA)
  (hs:findIn K (.ref C) "__setattr__" = some (some (.builtin "object.__setattr__"))) (hp:plainOver K C=true) (ht:takerIn K C name=some none) (hh:hasDictIn K C=true)
  (hw:PySem.Within mA ns) (hsz:ns.length<=sizeLine)
  (h:∀h',yC h' x dx C (λy=>if y=name then some v else mA y)->Heap.SameBut dx s.heap h'->Q () { s with heap:=h',toks:=s.toks+2 }):
  wpAny 'c' A (setAttr (.ref x) name v) Q E s:=by
 obtain⟨od,J,hl⟩:=I.look;refine PySem.W.set_plain X J hs (PySem.W.osa_open X J hp ht λb=>?_);obtain⟨cd,hc,hd'⟩:=PySem.W.any_some hh;have hx:=I.obj;refine aE (bh (aE (aE (wpAny_loadPart hx (aE (PySem.W.Looks.here (PySem.W.looks_clsIn X hc) ?_))))));rw[hd'];refine bh (aE (bh (aE (wpAny_nsSet1 I.ns λh' hn2 hs2=>?_))));obtain⟨oD,esD,epD,hoD,hdD,hcD⟩:=hn2.count (PySem.Within.cons name v hw);exact aE (wpAny_lookBehind hoD (hdD▸pastItsLine_dict (ia hcD (by rw[md];lia))) (bh (h _ ⟨(hs2.2 _ (Ne.symm I.ne)).trans I.obj,hn2,I.ne⟩ hs2)))
theorem Ij(X:K.In s.heap)(hm:makesIn K C=true)
  (hi:findIn K (.ref C) "__init__" = some (some (.ref f))) (hf:PySem.W.typeIn K (.ref f)=some (.type "function"))
  (h:codeAny 'c' (A.under (.builtin "type.__call__" ⟨.ref C::vs,kw⟩)) (.call (.ref f) ⟨.ref 'm'::vs,kw⟩) (PySem.W.InitBack 'm' R)
   { s with heap:=(s.heap.push emptyDict).push (instObj C s.heap.objs.size) }):
  codeAny 'c' A (.call (.ref C) ⟨vs,kw⟩) R s:=by
 exact PySem.W.make_core (PySem.W.makes_of X hm) (PySem.W.looks_findIn X hi) (λself=>PySem.W.bind_fn X self hf) (.inl rfl) h
end
def putF(f:Str)(v:V):List (Str×V)->List (Str×V)
 |[]=>[(f,v)]
 | (g,x)::r=>if g=f then (g,v)::r else (g,x)::putF f v r
theorem kh(f g:Str)(v:V):∀fs:List (Str×V),(putF f v fs).lookup g=if g=f then some v else fs.lookup g
 |[]=>by
  show List.lookup g [(f,v)]=_;by_cases h:g=f
  ·simp_all
  ·simp_all
 | (k,x)::r=>by
  have ih:=kh f g v r;rw[show putF f v ((k,x)::r)=(if k=f then (k,v)::r else (k,x)::putF f v r) from rfl];by_cases hk:k=f
  ·rw[if_pos hk];by_cases h:g=k
   ·simp_all
   ·have hb:=beq_eq_false_iff_ne.mpr h;simp only[List.lookup,hb,if_neg (λe:g=f=>h (e.trans hk.symm))]
  ·rw[if_neg hk];by_cases h:g=k
   ·simp_all
   ·have hb:=beq_eq_false_iff_ne.mpr h;simp only[List.lookup,hb];exact ih
theorem j6(f:Str)(v:V):∀fs:List (Str×V),f∈(putF f v fs).map (·.1)/\∀g,g∈fs.map (·.1)->g∈(putF f v fs).map (·.1)
 |[]=>⟨by simp[putF],λg h=>by simp at h⟩
 | (k,x)::r=>by
  obtain⟨i1,i2⟩:=j6 f v r;rw[show putF f v ((k,x)::r)=(if k=f then (k,v)::r else (k,x)::putF f v r) from rfl];by_cases hk:k=f
  ·simp_all
  ·rw[if_neg hk];refine⟨?_,λg h=>?_⟩
   ·exact jD _ i1
   ·rcases iu.mp h with e|e
    ·exact iu.mpr (.inl e)
    ·exact jD _ (i2 g e)
theorem ki(f:Str)(v:V):∀fs:List (Str×V),(putF f v fs).length<=fs.length+1
 |[]=>by simp[putF]
 | (k,x)::r=>by
  have ih:=ki f v r;rw[show putF f v ((k,x)::r)=(if k=f then (k,v)::r else (k,x)::putF f v r) from rfl];by_cases hk:k=f
  ·simp_all
  ·simp_all
theorem fV.some_of(r:fV (some v) o):∃u,o=some u/\RelV v u:=by
 cases o with
 |none=>exact r.elim
 |some u=>exact⟨u,rfl,r⟩
theorem fV.none_of(r:fV none o):o=none:=by
 cases o with
 |none=>rfl
 |some u=>exact r.elim
theorem Cp(r:RelV v u):handedIn u=true:=by
 cases v with
 |bB=>cases r;rfl
 |bl b=>cases r;rfl
 |int i=>obtain⟨t,e⟩:=r;cases e;rfl
 |str x=>obtain⟨t,e⟩:=r;cases e;rfl
 |yy b=>obtain⟨t,e⟩:=r;cases e;rfl
 |QS b=>obtain⟨t,e⟩:=r;cases e;rfl
 |ref a=>cases r;rfl
 |ty n=>cases r;rfl
section
variable{P:Program}{w:World}{H H':Hp}{h h':Heap}{a C dx:Addr}{fs fs':List (Str×V)}
theorem kY(a6:gT P w H h)(e:H a=some (.ins C dx fs)):∃mA,yC h a dx C mA/\(∀f,fV (fs.lookup f) (mA f))/\PySem.Within mA (fs.map (·.1))/\fs.length<=1000/\H dx=some (.own a):=by
 obtain⟨d,z,ne,ob,mA,n,r,q⟩:=(a6 a _ e)
 exact⟨mA,⟨ob,n,ne⟩,r,q,z,d⟩
end
structure wD(K:Wf)(C:Addr):Prop where
 pg:plainGet K C Str.empty=true
 hd:hasDictIn K C=true
 po:plainOver K C=true
 sa:findIn K (.ref C) "__setattr__" = some (some (.builtin "object.__setattr__"))
theorem wD.get{K:Wf}{C:Addr}(c:wD K C)(f:Str):plainGet K C f=true:=c.pg
def bI(K:Wf)(C:Addr)(f:Str):Prop:=findIn K (.ref C) f=some none
theorem bI.U4{K:Wf}{C:Addr}{f:Str}(n:bI K C f):takerIn K C f=some none:=by
 unfold takerIn;rw[n];rfl
structure Meth(K:Wf)(C:Addr)(m:Str)(f:Addr):Prop where
 at_:findIn K (.ref C) m=some (some (.ref f))
 fn:isFn K (.ref f)=true
 kp:keepIn K (.ref f)=true
section
variable{X:Cx}{pins:Lo}{σ:St}{H:Hp}{s:Shared}{a C dx:Addr}{fs:List (Str×V)}{f:Str}{v:V}{A:Around}{E:Vs}
theorem zR{b:Bool}{Q:Vs}(I:Inv X pins σ H s)(e:H a=some (.ins C dx fs))(c:wD X.K C)(n:bI X.K C f)(l:fs.lookup f=some v)
  (h:∀u s',Inv X pins σ H s'->RelV v u->Q u s'):wpAny 'b' A (getAttr (.ref a) f b) Q E s:=by
 obtain⟨mA,O,r,_,_,_⟩:=kY I.a6 e;obtain⟨u,hu,ru⟩:=fV.some_of (l▸r f);exact get_map I.jV O (c.get f) c.hd n hu (Cp ru) (h u _ (I.tok _) ru)
theorem lI(I:Inv X pins σ H s)(e:H a=some (.ins C dx fs))(c:wD X.K C)(k:Meth X.K C m g)(l:fs.lookup m=none)
  (h:Q (.ref g,[.ref a]) s):wpAny 'b' A (getMethod (.ref a) m pl) Q E s:=by
 obtain⟨mA,O,r,_,_,_⟩:=kY I.a6 e;have hn:=fV.none_of (l▸r m);exact FT I.jV O (c.get m) k.at_ k.fn hn h
theorem zi(I:Inv X pins σ H s)(e:H a=some (.ins C dx fs))(c:wD X.K C)(n:bI X.K C f)(hl:fs.length<1000)(ry:RelV y u)
  (h:∀s',Inv X pins σ (upd H a (.ins C dx (putF f y fs))) s'->Q () s'):wpAny 'b' A (setAttr (.ref a) f u) Q E s:=by
 obtain⟨mA,O,r,wi,_,ho⟩:=kY I.a6 e;have hz:(fs.map (·.1)).length<=sizeLine:=by rw[aD,sizeLine_eq];lia
 refine LP I.jV O c.sa c.po n.U4 c.hd wi hz λh' O' sb=>h _ ?_;have hd:∃o,h'.get? dx=some o:=let ⟨o,_,_,e',_⟩:=O'.ns;⟨o,e'⟩
 refine I.write (e▸True.intro) (.inr ho) (λb q hb z=>(sb.2 b hb).trans z) hd (⟨(ae O.ne)▸ho,?_,O.ne,O'.obj,_,O'.ns,λg=>?_,λg hg=>?_⟩)
 ·have:=ki f y fs;lia
 ·rw[kh];by_cases q:g=f
  ·rw[if_pos q,if_pos q];exact ry
  ·rw[if_neg q,if_neg q];exact r g
 ·by_cases q:g=f
  ·rw[q];exact(j6 f y fs).1
  ·refine(j6 f y fs).2 g (wi g λz=>hg ?_);show(if g=f then some u else mA g)=none;rw[if_neg q];exact z
theorem Inv.made(I:Inv X pins σ H s):Inv X pins σ (upd (upd H s.heap.objs.size (.own 'm')) 'm' (.ins C s.heap.objs.size []))
  { s with heap:=(s.heap.push emptyDict).push (instObj C s.heap.objs.size) }:=by
 have e1:(s.heap.push emptyDict).get? s.heap.objs.size=some emptyDict:=hV s.heap rfl;have e2:=by
  have:=hV (s.heap.push emptyDict) (o:=instObj C s.heap.objs.size) rfl
  rwa [RF]at this
 have e3:(s.heap.push emptyDict).Ns s.heap.objs.size (λ_=>none):=⟨emptyDict,#[],_,e1,rfl,(λe he=>absurd he (by simp)),λ_=>rfl⟩
 have I1:=I.laid (o:=.own 'm') (t':=s.toks) (λb u q=>cS _ q) (bS _) ⟨_,e1⟩;refine I1.laid (λb u q=>cS _ q) (Nat.le_of_eq (RF _ _)) ?_;have ne:s.heap.objs.size≠s.heap.objs.size+1:=d0 (Jz _);refine⟨by rw[ae ne,aJ],d_ _,ne,e2,λ_=>none,(Heap.Ns1.of_empty e3).at λo q=>cS _ q,λ_=>True.intro,λy hy=>absurd rfl hy⟩
theorem LG{prog:Program}{w:World}{env:Env}{e:Expr}{f:Str}{pos:Pos}{s:Shared}{Q:Vs}(hb:attributeBase e f env (eval e env)=eval e env)
  (h:wpAny 'c' A (eval e env) (λo s₁=>wpAny 'c' A (getAttr o f true) Q E s₁) E s):wpAny 'c' A (eval (.Attribute e f pos) env) Q E s:=
 Attribute_any_ h (by rw[arm_eval_Attribute,hb])
end
def Y6(K:Wf)(ta:TE)(f:Str):TE:=λσ H Q=>ta σ H λx H1=>∃a C dx fs v,x=.ref a/\H1 a=some (.ins C dx fs)/\wD K C/\bI K C f/\fs.lookup f=some v/\Q v H1
def YI(K:Wf)(ta tv:TE)(f:Str):TS:=λD σ H=>tv σ H λy H1=>ta σ H1 λx H2=>∃a C dx fs,x=.ref a/\H2 a=some (.ins C dx fs)/\wD K C/\bI K C f/\fs.length<1000/\
 D.nx σ (upd H2 a (.ins C dx (putF f y fs)))
section
variable{X:Cx}{o e value:Expr}{f:Str}{pos pos' tpos:Pos}{ta tv:TE}
theorem ck(he:PE X e ta)(hb:attributeBase e f X.env (eval e X.env)=eval e X.env):PE X (.Attribute e f pos) (Y6 X.K ta f):=by
 intro pins s σ H Q I h;refine LG hb (bG (he pins s σ H _ I h) λu s1 ⟨x,H1,I1,rx,a,C,dx,fs,v,ex,ea,c,n,l,q⟩=>?_);subst ex;obtain rfl:u=Value.ref a:=rx;exact zR I1 ea c n l λu' s2 I2 ru=>⟨v,H1,I2,ru,q⟩
theorem eD(ha:PE X o ta)(hv:PE X value tv)(hs:swapsWith value (some (.Attribute o f pos')) pos.line X.env=pure false):PS X (.Assign [.Attribute o f pos'] value pos) (YI X.K ta tv f):=by
 intro pins s σ H D I h;refine plainObj_wpAny_Assign_Attribute (bG (hv pins s σ H _ I h) λu s1 ⟨y,H1,I1,ry,q⟩=>bG (ha pins s1 σ H1 _ I1 q) λov s2 ⟨x,H2,I2,rx,a,C,dx,fs,ex,ea,c,n,l,q2⟩=>?_) hs;subst ex;obtain rfl:ov=Value.ref a:=rx;exact zi I2 ea c n l ry λs3 I3=>⟨σ,_,I3,q2⟩
end
section
variable{X:Cx}{pins:Lo}{σ:St}{H:Hp}{s:Shared}{A:Around}{E:Vs}{Q:Vs}{c:Value}{b:Bool}
set_option genInjectivity true in
inductive iQ (K:Wf) (H:Hp):V->Value->Prop where
 |bB:iQ K H .bB (.type "NoneType")
 |bl (x:Bool):iQ K H (.bl x) (.type "bool")
 |int (i:Int):iQ K H (.int i) (.type "int")
 |str (x:Str):iQ K H (.str x) (.type "str")
 |QS (x:UInt64):iQ K H (.QS x) (.type "float")
 |lst {a:Addr}{xs:List V}(e:H a=some (.lst xs)):iQ K H (.ref a) (.type "list")
 |iw {a:Addr}{o:Obj}{xs:List V}(e:H a=some (.iw o (.lst xs))):iQ K H (.ref a) (.type "list")
 |tup {a:Addr}{xs:List V}(e:H a=some (.tup xs)):iQ K H (.ref a) (.type "tuple")
 |dK {a:Addr}{ag:List (Key×V)}(e:H a=some (.dK ag)):iQ K H (.ref a) 'F'
 |dT {a:Addr}{ag:List 'i'}(e:H a=some (.dT ag)):iQ K H (.ref a) 'F'
 |ins {a C dx:Addr}{fs:List (Str×V)}(e:H a=some (.ins C dx fs)) (cl:wD K C) (ha:findIn K (.ref C) "__class__" = some (some 'K'))
   (hn:specialIn K 'K' "__get__" = some (some (.builtin "getset_descriptor.__get__"))) (htk:takesIn K 'K'=some true)
   (hm:mroIn K C (.type "object")=some true):iQ K H (.ref a) (.ref C)
theorem CQ(I:Inv X pins σ H s)(rx:RelV x u)(ty:iQ X.K H x t)(e:kitOne X.K t c=some b)(h:∀tk,Q (.bool b) { s with toks:=tk }):
  wpAny 'b' A (call (.builtin "isinstance") [u,c]) Q E s:=by
 cases ty with
 |bB=>cases rx;exact kia_one PySem.W.kitx_none I.jV True.intro e (λz=>nomatch z) h
 |bl y=>cases rx;exact kia_one PySem.W.kitx_bool I.jV True.intro e (λz=>nomatch z) h
 |int i=>obtain⟨t,q⟩:=rx;cases q;exact kia_one PySem.W.kitx_int I.jV True.intro e (λz=>nomatch z) h
 |str y=>obtain⟨t,q⟩:=rx;cases q;exact kia_one PySem.W.kitx_str I.jV True.intro e (λz=>nomatch z) h
 |QS y=>obtain⟨t,q⟩:=rx;cases q;exact kia_one PySem.W.kitx_float I.jV True.intro e (λz=>nomatch z) h
 |@lst a xs ea=>
  cases (show u=Value.ref a from rx);obtain⟨_,_,n,_,h1⟩:=(I.a6 a _ ea)
  exact kia_one kitx_list I.jV ⟨_,h1,rfl⟩ e (λz=>nomatch z) h
 |@iw a ob xs ea=>
  cases (show u=Value.ref a from rx);obtain⟨_,_,_,n,_,h1⟩:=(I.a6 a _ ea)
  exact kia_one kitx_list I.jV ⟨_,h1,rfl⟩ e (λz=>nomatch z) h
 |@tup a xs ea=>
  cases (show u=Value.ref a from rx);obtain⟨_,_,_,p⟩:=(I.a6 a _ ea)
  obtain⟨o,h1,h2,_⟩:=p;exact kia_one PySem.W.kitx_tuple I.jV ⟨o,h1,h2⟩ e (λz=>nomatch z) h
 |@dK a ag ea=>
  cases (show u=Value.ref a from rx);obtain⟨_,_,vs,_,p⟩:=(I.a6 a _ ea)
  obtain⟨o,es,ep,h1,h2,_⟩:=p;exact kia_one kitx_dict I.jV ⟨o,h1,h2.1⟩ e (λz=>nomatch z) h
 |@dT a ag ea=>
  cases (show u=Value.ref a from rx);obtain⟨_,_,xs,_,o,es,ep,h1,h2,_⟩:=(I.a6 a _ ea)
  exact kia_one kitx_dict I.jV ⟨o,h1,h2.1⟩ e (λz=>nomatch z) h
 |@ins a C dx fs ea cl ha hn htk hm=>
  cases (show u=Value.ref a from rx);obtain⟨mA,O,_⟩:=kY I.a6 ea;obtain⟨od,J,_⟩:=O.look;exact kia_one (PySem.W.kitx_own (cl.get _) cl.hd ha hn htk hm) I.jV J e (λz=>nomatch z) h
end
structure cQ(k:Nat)(A:Around):Prop where
 hd:A.handled=none
 dp:A.depth+3*k+5<recursionLimit
 un:A.units+16*k+200<cLine
theorem cQ.mono{j k:Nat}{A:Around}(r:cQ k A)(h:j<=k):cQ j A:=⟨r.hd,by have:=r.dp;lia,by have:=r.un;lia⟩
theorem cQ.deeper(r:cQ (k+1) A)(env:Env):cQ k (A.deeper env):=
 ⟨r.hd,by have:=r.dp;show A.depth+1+3*k+5<_;lia,by have:=r.un;show A.units+3+16*k+200<_;lia⟩
theorem cQ.in1{k:Nat}{A:Around}(r:cQ (k+1) A):cQ k A.in1:=
 ⟨r.hd,by have:=r.dp;show A.depth+3*k+5<_;lia,by have:=r.un;show A.units+1+16*k+200<_;lia⟩
theorem zo{A:Around}{C:Addr}{us:List Value}{kw:List (Str×Value)}:(A.under (.builtin "type.__call__" ⟨.ref C::us,kw⟩)).depth=A.depth+1:=by
 first|rfl|simp
theorem yK{A:Around}{C:Addr}{us:List Value}{kw:List (Str×Value)}:(A.under (.builtin "type.__call__" ⟨.ref C::us,kw⟩)).units=A.units+1:=by
 first|rfl|simp
theorem cQ.make{k:Nat}{A:Around}(r:cQ (k+1) A)(C:Addr)(us:List Value)(kw:List (Str×Value)):cQ k (A.under (.builtin "type.__call__" ⟨.ref C::us,kw⟩)):=
 ⟨r.hd,by have:=r.dp;rw[zo];lia,by have:=r.un;rw[yK];lia⟩
theorem cQ.depth(r:cQ k A):A.depth<recursionLimit:=by have:=r.dp;lia
theorem cQ.units(r:cQ k A):A.units+64<cLine:=by have:=r.un;lia
def SM:TA:=λ_ H Q=>Q [] H
def RR(ta:TE)(tr:TA):TA:=λσ H Q=>ta σ H λx H1=>tr σ H1 λxs H2=>Q (x::xs) H2
section
variable{X:Cx}{e:Expr}{es:List Expr}{te:TE}{t:TA}{pos:Pos}
theorem aa:PA X [] SM:=λ_ _ _ _ H Q I h=>Calls.spliced_nil ⟨[],H,I,.nil,h⟩
theorem ao(ha:PE X e te)(hr:PA X es t)(hs:starEach (e::es) X.env=(false,eval e X.env)::starEach es X.env:=by rfl):PA X (e::es) (RR te t):=by
 intro pos pins s σ H Q I h;rw[hs];show wpAny _ _ (spliced ((false,eval e X.env)::backTo pos (starEach es X.env))) _ _ s;exact Calls.spliced_cons (bG (ha pins s σ H _ I h) λu s1 ⟨x,H1,I1,r1,q1⟩=>(bG (hr pos pins s1 σ H1 _ I1 q1) λus s2 ⟨xs,H2,I2,r2,q2⟩=>⟨x::xs,H2,I2,.cons r1 r2,q2⟩))
def Xx(t:TA):TE:=λσ H Q=>t σ H λxs H1=>xs.length<=sizeLine/\∀p,H1 p=none->Q (.ref p) (upd H1 p (.tup xs))
def Yb(t:TA):TE:=λσ H Q=>t σ H λxs H1=>xs.length<=sizeLine/\∀p,H1 p=none->Q (.ref p) (upd H1 p (.lst xs))
theorem a_(h:PA X es t):PE X (.Tuple es x1 pos) (Xx t):=by
 intro pins s σ H Q I hq;refine wpAny_Tuple_spliced (bG (h pos pins s σ H _ I hq) λus s1 ⟨xs,H1,I1,r,z,q⟩=>⟨r.length▸z,?_⟩);have hf:=I1.a6.fresh (bS _);refine⟨.ref s1.heap.objs.size,upd H1 s1.heap.objs.size (.tup xs),I1.laid (λb u e=>cS _ e) (bS _) ?_,rfl,q _ hf⟩;exact⟨z,us,r,⟨_,hV _ rfl,rfl,_,rfl⟩⟩
theorem aW(h:PA X es t):PE X (.List es pos) (Yb t):=by
 intro pins s σ H Q I hq;refine wpAny_List_spliced (bG (h pos pins s σ H _ I hq) λus s1 ⟨xs,H1,I1,r,z,q⟩=>⟨r.length▸z,?_⟩);have hf:=I1.a6.fresh (bS _);refine⟨.ref s1.heap.objs.size,upd H1 s1.heap.objs.size (.lst xs),I1.laid (λb u e=>cS _ e) (bS _) ?_,rfl,q _ hf⟩;exact⟨z,us,0,r,hV _ rfl⟩
end
abbrev Sp:=List V->Hp->VK->XK->Prop
abbrev CY:=List Env->Hp->Shared->XK->Value->Shared->Prop
structure k7(P:Program)(w:World)(K:Wf)(mg:So)(base:Heap)(A:Around)(outer:List Env)(s:Shared)(H:Hp):Prop where
 frames:A.frames=some outer
 mod:Mod K mg base
 bs:∀b o,base.get? b=some o->s.heap.get? b=some o/\H b=none
 Gv:base.objs.size<=s.heap.objs.size
 jB:s.heap.FunFrames base outer
 LY:∀b∈Bc outer,H b=none
 a6:gT P w H s.heap
 bare:AllBare s.gens
def CE(outer:List Env)(P:Program)(w:World)(H:Hp)(s:Shared)(Q:VK)(u:Value)(s':Shared):Prop:=
 ∃v H',s'.os=s.os/\AllBare s'.gens/\Un (Bc outer) [] H H' s.heap s'.heap/\gT P w H' s'.heap/\RelV v u/\Q v H'
def CR(CX:CY)(outer:List Env)(P:Program)(w:World)(H:Hp)(s:Shared)(Q:VK)(E:XK)(r:Result)(s':Shared):Prop:=
 match r with
 |.ok (.ret u)=>CE outer P w H s Q u s'
 |.ok _=>False
 |.error e=>CX outer H s E e s'
structure aY(P:Program)(w:World)(K:Wf)(mg:So)(base:Heap)(CX:CY)(k:Nat)(f:Addr)(fd:FuncData)(ps:List Str)(sp:Sp):Prop where
 len:∀vs H Q E,sp vs H Q E->vs.length=ps.length
 run:∀(A:Around) (outer:List Env) (s:Shared) (H:Hp) (args:Args) (us:List Value) (vs:List V) (Q:VK) (E:XK),cQ k A->k7 P w K mg base A outer s H->BindsTo s fd args (ps.zip us)->Vals vs us->sp vs H Q E->
  codeAny (model P w) A (.call (.ref f) args) (CR CX outer P w H s Q E) s
theorem k7.make{P:Program}{w:World}{K:Wf}{mg:So}{base:Heap}{A:Around}{outer:List Env}{s:Shared}{H:Hp}(e:k7 P w K mg base A outer s H)(C:Addr)(us:List Value)(kw:List (Str×Value)):
  k7 P w K mg base (A.under (.builtin "type.__call__" ⟨.ref C::us,kw⟩)) outer s H:=⟨by first|exact e.frames|(simpa [Around.under,Code.envs,Code.isFrame,pushEnvs] using e.frames),e.mod,e.bs,e.Gv,e.jB,e.LY,e.a6,e.bare⟩
theorem k7.in1{P:Program}{w:World}{K:Wf}{mg:So}{base:Heap}{A:Around}{outer:List Env}{s:Shared}{H:Hp}(e:k7 P w K mg base A outer s H):
  k7 P w K mg base A.in1 outer s H:=⟨e.frames,e.mod,e.bs,e.Gv,e.jB,e.LY,e.a6,e.bare⟩
section
variable{X:Cx}{pins:Lo}{σ:St}{H:Hp}{s s':Shared}
theorem Inv.Pe(I:Inv X pins σ H s):k7 X.prog X.w X.K X.mg X.base X.A X.stack s H:=
 ⟨I.ok.frames,I.ok.mod,I.bs,ia I.ok.Gv I.sz,I.stack,I.By,I.a6,I.bare⟩
theorem Inv.after(I:Inv X pins σ H s)(h:CE X.stack X.prog X.w H s Q u s'):EP X pins σ Q u s':=by
 obtain⟨v,H',os,bare,un,a6,r,q⟩:=h;obtain⟨hh,g,d,t,os'⟩:=s';obtain rfl:os'=s.os:=os;exact⟨v,H',I.call un a6 bare (λb z=>absurd z (by simp)),r,q⟩
end
def M0(sp:Sp)(dvs:List V)(E:XK)(t:TA):TE:=λσ H Q=>t σ H λvs H1=>sp (vs++dvs) H1 Q E
def N7(C:Addr)(m:Str)(sp:Sp)(dvs:List V)(E:XK)(ta:TE)(t:TA):TE:=λσ H Q=>ta σ H λx H1=>∃a dx fs,x=.ref a/\H1 a=some (.ins C dx fs)/\fs.lookup m=none/\
 t σ H1 λvs H2=>sp (x::(vs++dvs)) H2 Q E
def SF(C:Addr)(sp:Sp)(dvs:List V)(E:XK)(t:TA):TE:=λσ H Q=>t σ H λvs H1=>∀x dx,H1 x=none->H1 dx=none->dx≠x->
 sp (.ref x::(vs++dvs)) (upd (upd H1 dx (.own x)) x (.ins C dx [])) (λv H2=>v=.bB/\Q (.ref x) H2) E
def Binds(K:Wf)(fd:FuncData)(ps:List Str)(ds:List Value):Prop:=
 ∀(s:Shared) (us:List Value),K.In s.heap->(us++ds).length=ps.length->BindsTo s fd ⟨us,[]⟩ (ps.zip (us++ds))
theorem Binds.all{K:Wf}{fd:FuncData}{ps:List Str}(h:∀us:List Value,us.length=ps.length->bindArgs fd ⟨us,[]⟩=pure (ps.zip us)):Binds K fd ps []:=λs us _ hl=>by
 rw[nY]at hl ⊢;exact .of_eq (h us hl)
def Passes(CX:CY)(X:Cx)(E:XK):Prop:=∀(pins:Lo) (σ:St) (H:Hp) (s:Shared) (e:Value) (s':Shared),Inv X pins σ H s->CX X.stack H s E e s'->X.xe e s'
section
variable{X:Cx}{CX:CY}{k:Nat}{f C:Addr}{fd:FuncData}{ps:List Str}{sp:Sp}{dvs:List V}{ds:List Value}{E:XK}{x m:Str}{p pos apos:Pos}{e o:Expr}{es:List Expr}{ta:TE}{t:TA}
theorem zc{pins:Lo}{σ:St}{H:Hp}{s:Shared}{Q:VK}{us:List Value}{vs:List V}(F:aY X.prog X.w X.K X.mg X.base CX k f fd ps sp)(hr:cQ k X.A)(hb:Binds X.K fd ps ds)(hd:Vals dvs ds)(hx:Passes CX X E)
  (I:Inv X pins σ H s) (r:Vals vs us) (h:sp (vs++dvs) H Q E):wpAny 'b' X.A (call (.ref f) us) 'T' X.xe s:=by
 have r2:=r.append hd;have hl:(us++ds).length=ps.length:=r2.length▸F.len _ _ _ _ h;refine wpAny_call (codeAny_mono (F.run X.A X.stack s H ⟨us,[]⟩ (us++ds) (vs++dvs) Q E hr I.Pe (hb s us I.jV hl) r2 h) λr s' hq=>?_);cases r with
 |error e=>exact hx pins σ H s e s' I hq
 |ok fl=>
  cases fl with
  |ret u=>exact I.after hq
  |next=>exact False.elim hq
  |brk=>exact False.elim hq
  |cont=>exact False.elim hq
theorem bO(F:aY X.prog X.w X.K X.mg X.base CX k f fd ps sp)(hr:cQ k X.A)(hg:Gl X x)(hm:X.mg x=some (.ref f))(hk:keepIn X.K (.ref f)=true)(hb:Binds X.K fd ps ds)(hd:Vals dvs ds)(hx:Passes CX X E)
  (ha:PA X (e::es) t) (hdb:(x == ("__debug__" : Str))=false:=by decide) (he:starEach (e::es) X.env=(false,eval e X.env)::starEach es X.env:=by rfl) (hpl:(backTo pos (starEach es X.env)).any (·.1)=false:=by rfl):
  PE X (.Call (.Name x p) (e::es) [] pos) (M0 sp dvs E t):=by
 intro pins s σ H Q I h;exact Qm (sL I hg hm (callWith_K (h₀:=X.base) I.ok.mod.Rn hk (bG (ha pos pins s σ H _ I h) λus s1 ⟨vs,H1,I1,r,q⟩=>⟨I1.jV,zc F hr hb hd hx I1 r q⟩) he hpl) hdb)
theorem d6{pl:Sem Bool}(he:PE X o ta)(c:wD X.K C)(hm:Meth X.K C m f)(F:aY X.prog X.w X.K X.mg X.base CX k f fd ps sp)(hr:cQ k X.A)(hb:Binds X.K fd ps ds)(hd:Vals dvs ds)(hx:Passes CX X E)(ha:PA X (e::es) t)
  (hst:starEach (e::es) X.env=(false,eval e X.env)::starEach es X.env:=by rfl) (hpl:(backTo pos (starEach es X.env)).any (·.1)=false:=by rfl)
  (ht:eval (.Call (.Attribute o m apos) (e::es) [] pos) X.env=(do
   let ov <-eval o X.env
   standAt apos.atName
   let (f,first) <-holding [ov] (getMethod ov m pl)
   callWith pos f first (backTo pos (starEach (e::es) X.env)) (backToKw pos (keywordEach [] X.env))):=by rfl):
  PE X (.Call (.Attribute o m apos) (e::es) [] pos) (N7 C m sp dvs E ta t):=by
 intro pins s σ H Q I h;refine methodCall_KW (bG (he pins s σ H _ I h) λu s1 ⟨x,H1,I1,rx,a,dx,fs,ex,ea,l,q⟩=>?_) ht;subst ex;obtain rfl:u=Value.ref a:=rx;exact lI I1 ea c hm l (callWith_K (h₀:=X.base) I.ok.mod.Rn hm.kp (bG (ha pos pins s1 σ H1 _ I1 q) λus s2 ⟨vs,H2,I2,r,q2⟩=>⟨I2.jV,zc (vs:=.ref a::vs) F hr hb hd hx I2 (.cons rfl r) q2⟩) hst hpl)
theorem fj(he:PE X o ta)(c:wD X.K C)(hm:Meth X.K C m f)(F:aY X.prog X.w X.K X.mg X.base CX k f fd ps sp)(hr:cQ k X.A)(hb:Binds X.K fd ps ds)(hd:Vals dvs ds)(hx:Passes CX X E)
  (ht:eval (.Call (.Attribute o m apos) [] [] pos) X.env=(do
   let ov <-eval o X.env
   standAt apos.atName
   let (f,first) <-holding [ov] (getMethod ov m pl)
   callWith pos f first (backTo pos (starEach [] X.env)) (backToKw pos (keywordEach [] X.env))):=by rfl):
  PE X (.Call (.Attribute o m apos) [] [] pos) (N7 C m sp dvs E ta SM):=by
 intro pins s σ H Q I h;refine methodCall_KW (bG (he pins s σ H _ I h) λu s1 ⟨x,H1,I1,rx,a,dx,fs,ex,ea,l,q⟩=>?_) ht;subst ex;obtain rfl:u=Value.ref a:=rx;exact lI I1 ea c hm l (PySem.W.callWith_K0 I1.jV hm.kp (zc (vs:=[.ref a]) F hr hb hd hx I1 (.cons rfl .nil) q))
structure Mk(K:Wf)(C f:Addr):Prop where
 makes:makesIn K C=true
 init:findIn K (.ref C) "__init__" = some (some (.ref f))
 fn:isFn K (.ref f)=true
 kp:keepIn K (.ref C)=true
theorem Gi{pins:Lo}{σ:St}{H:Hp}{s:Shared}{Q:VK}{us:List Value}{vs:List V}(M:Mk X.K C f)(F:aY X.prog X.w X.K X.mg X.base CX k f fd ps sp)(hr:cQ (k+1) X.A)(hb:Binds X.K fd ps ds)(hd:Vals dvs ds)
  (hx:Passes CX X E) (I:Inv X pins σ H s) (r:Vals vs us)
  (h:∀x dx,H x=none->H dx=none->dx≠x->sp (.ref x::(vs++dvs)) (upd (upd H dx (.own x)) x (.ins C dx [])) (λv H2=>v=.bB/\Q (.ref x) H2) E):
  wpAny 'b' X.A (call (.ref C) us) 'T' X.xe s:=by
 have hq:=h 'm' s.heap.objs.size (I.a6.fresh (CV _)) (I.a6.fresh (bS _)) (d0 (Jz _));have I2:=Inv.made (C:=C) I;have r2:Vals (V.ref 'm'::(vs++dvs)) (Value.ref 'm'::(us++ds)):=.cons rfl (r.append hd);have hl:=by
  have e:=r2.length;rw[F.len _ _ _ _ hq]at e;exact e.symm
 refine wpAny_call (Ij I.jV M.makes M.init (beq_iff_eq.mp M.fn) (codeAny_mono (F.run _ X.stack _ _ ⟨Value.ref 'm'::us,[]⟩ (Value.ref 'm'::(us++ds)) _ _ E (hr.make C us [])
  (I2.Pe.make C us []) (hb _ (Value.ref 'm'::us) I2.jV hl) r2 hq) λr s' hq'=>?_))
 cases r with
 |error e=>exact hx pins σ _ _ e s' I2 hq'
 |ok fl=>
  cases fl with
  |ret u=>
   obtain⟨v,H',I3,rv,ev,q3⟩:=I2.after hq';subst ev;exact⟨rv,⟨V.ref 'm',H',I3,rfl,q3⟩⟩
  |next=>exact False.elim hq'
  |brk=>exact False.elim hq'
  |cont=>exact False.elim hq'
theorem eQ(M:Mk X.K C f)(F:aY X.prog X.w X.K X.mg X.base CX k f fd ps sp)(hr:cQ (k+1) X.A)(hg:Gl X x)(hm:X.mg x=some (.ref C))(hb:Binds X.K fd ps ds)(hd:Vals dvs ds)(hx:Passes CX X E)
  (ha:PA X (e::es) t) (hdb:(x == ("__debug__" : Str))=false:=by decide) (he:starEach (e::es) X.env=(false,eval e X.env)::starEach es X.env:=by rfl) (hpl:(backTo pos (starEach es X.env)).any (·.1)=false:=by rfl):
  PE X (.Call (.Name x p) (e::es) [] pos) (SF C sp dvs E t):=by
 intro pins s σ H Q I h;exact Qm (sL I hg hm (callWith_K (h₀:=X.base) I.ok.mod.Rn M.kp (bG (ha pos pins s σ H _ I h) λus s1 ⟨vs,H1,I1,r,q⟩=>⟨I1.jV,Gi M F hr hb hd hx I1 r q⟩) he hpl) hdb)
end
structure ar(N P:List Str)(sc:Scope):Prop where
 kind:sc.kind=.function
 co:sc.isCoroutine=false
 gen:sc.isGenerator=false
 nd:N.Nodup
 pre:N.take P.length=P
 par:∀x∈P,sc.names.lookup x=some .local\/sc.names.lookup x=some .cell
 QM:∀y∈sc.names,y.2≠.free
theorem nu{kindOf:Str->Option NameKind}:∀{binds:List (Str×Value)}{m:So},(∀v,(x,v)∉binds)->bindL kindOf binds m x=m x
 |[],_,_=>rfl
 | (n,v)::r,m,h=>by
  unfold bindL;rw[nu λw hw=>h w (jD _ hw)];split
  ·have:x≠n:=by rintro rfl;exact h v ko
   simp[this]
  ·rfl
theorem nX{kindOf:Str->Option NameKind}:∀{binds:List (Str×Value)}{m:So},(∀v,(x,v)∉binds)->bindC kindOf binds m x=m x
 |[],_,_=>rfl
 | (n,v)::r,m,h=>by
  unfold bindC;rw[nX λw hw=>h w (jD _ hw)];split
  ·rfl
  ·have:x≠n:=by rintro rfl;exact h v ko
   simp[this]
theorem nH{kindOf:Str->Option NameKind}:∀{P:List Str}{vs:List Value}{i:Nat}{m:So},P.Nodup->P[i]?=some x->vs[i]?=some v->kindOf x=some .local->
  bindL kindOf (P.zip vs) m x=some v
 |[],_,_,_,_,h,_,_=>by simp at h
 |_::_,[],_,_,_,_,h,_=>by simp at h
 |p::P,w::vs,0,m,nd,h1,h2,hk=>by
  simp at h1 h2;subst h1;subst h2;show bindL kindOf ((p,w)::P.zip vs) m p=_;unfold bindL;rw[nu λv hv=>(mH.mp nd).1 (List.of_mem_zip hv).1,if_pos hk];simp
 |p::P,w::vs,i+1,m,nd,h1,h2,hk=>by
  unfold bindL;exact nH (mH.mp nd).2 h1 h2 hk
theorem oh{kindOf:Str->Option NameKind}:∀{P:List Str}{vs:List Value}{i:Nat}{m:So},P.Nodup->P[i]?=some x->vs[i]?=some v->kindOf x≠some .local->
  bindC kindOf (P.zip vs) m x=some v
 |[],_,_,_,_,h,_,_=>by simp at h
 |_::_,[],_,_,_,_,h,_=>by simp at h
 |p::P,w::vs,0,m,nd,h1,h2,hk=>by
  simp at h1 h2;subst h1;subst h2;show bindC kindOf ((p,w)::P.zip vs) m p=_;unfold bindC;rw[nX λv hv=>(mH.mp nd).1 (List.of_mem_zip hv).1,if_neg hk];simp
 |p::P,w::vs,i+1,m,nd,h1,h2,hk=>by
  unfold bindC;exact oh (mH.mp nd).2 h1 h2 hk
def start(N:List Str)(vs:List V):St:=vs.map some++List.replicate (N.length - vs.length) none
def lq(CX:CY)(P:Program)(w:World)(K:Wf)(mg:So)(base:Heap)(N:List Str)(qual:Str)(scope:Scope)(f:Addr)(cd:Value)(A:Around)(outer:List Env)(s:Shared)(H:Hp)(E:XK):Cx where
 prog:=P
 w:=w
 K:=K
 mg:=mg
 base:=base
 A:=A.deeper (envOfC qual scope s.heap.objs.size f cd)
 N:=N
 s₀:=s
 H₀:=H
 env:=envOfC qual scope s.heap.objs.size f cd
 outer:=outer
 stack:=envOfC qual scope s.heap.objs.size f cd::outer
 ex:=[]
 calm:=true
 fn:=λ_=>true
 pn:=[]
 xe:=λe s'=>wpAny (model P w) (A.deeper (envOfC qual scope s.heap.objs.size f cd)) (leaving (envOfC qual scope s.heap.objs.size f cd) e) (λ_ s''=>CX outer H s E e s'') (λe' s''=>CX outer H s E e' s'') s'
theorem xY{sc:Scope}{n:Nat}{x:Str}(h:sc.names.lookup x=some .cell):∃c,(cellsFrom n sc.names []).lookup x=some c:=by
 have q:=cellsFrom_some sc.names n [] (.inl h);exact Vz.mp q
theorem n8{CX:CY}{P:Program}{w:World}{K:Wf}{mg:So}{base:Heap}{N ps:List Str}{qual:Str}{scope:Scope}{f:Addr}{cd:Value}{A:Around}{outer:List Env}{s s1:Shared}{H:Hp}{E:XK}{us:List Value}{vs:List V}
  (S:ar N ps scope) (hd:A.handled=none) (e0:k7 P w K mg base A outer s H) (hl:vs.length=ps.length) (r:Vals vs us)
  (x:InCallC s s.heap.objs.size (bindL (envOfC qual scope s.heap.objs.size f cd).kindOf (ps.zip us) λ_=>none) (cellsFrom 'm' scope.names []) (bindC (envOfC qual scope s.heap.objs.size f cd).kindOf (ps.zip us) λ_=>none) s1):
  Inv (lq CX P w K mg base N qual scope f cd A outer s H E) [] (start N vs) H s1:=by
 have hpl:ps.length<=N.length:=by have:=congrArg List.length S.pre;rw[jM]at this;lia
 obtain⟨h1,tk,rfl,hk⟩:=x.done;have noA:∀b:Addr,b∉(lq CX P w K mg base N qual scope f cd A outer s H E).ex:=λb z=>absurd (show b∈([]:List Addr) from z) (by simp);refine⟨⟨e0.mod,S.kind,rfl,rfl,bS _,λy z c h1 h2=>?_,λy hy=>?_,λy c _ h=>?_,λ_=>hd,Around.frames_deeper e0.frames,.inr ⟨rfl,rfl⟩,λb z=>absurd z (noA b),e0.bs,e0.Gv,λb _ _=>noA b,λb z=>absurd z (noA b),e0.jB,e0.LY⟩,
  rfl,e0.bare,Un.kept hk,⟨_,x.toInCall.ns,λi y v h1 h2 h3=>?_⟩,λy c h=>⟨_,x.cell y c h⟩,e0.a6.fresh (bS _),λy c h=>?_,λp hp=>absurd (show p∈([]:Lo) from hp) (by simp),e0.a6.kept hk,?_⟩
 ·exact name_of_addr x.apart (PySem.mem_of_lookup h1) (PySem.mem_of_lookup h2)
 ·rcases hy with hy|hy
  ·exact xY hy
  ·exact absurd rfl (S.QM _ (PySem.mem_of_lookup hy))
 ·exact LK (x.above y c (PySem.mem_of_lookup h))
 ·have hi:i<vs.length:=by
   unfold start at h2;by_cases hi:i<vs.length
   ·exact hi
   ·rw[Rg (by simpa using hi)]at h2;rw[List.getElem?_replicate]at h2;split at h2<;>cases h2
  have ha:vs[i]?=some v:=by
   unfold start at h2;rw[Pb (by simpa using hi),List.getElem?_map]at h2;cases e:vs[i]? with
   |none=>rw[e]at h2;cases h2
   |some a=>rw[e]at h2;cases h2;rfl
  obtain⟨u,hu,rv⟩:=r.get ha;have hp:ps[i]?=some y:=by
   rw[<-S.pre,Vl (by lia)];exact h1
  have ndP:=S.pre▸S.nd.sublist (List.take_sublist _ _);refine⟨u,rv,?_⟩;rcases S.par y (dI hp) with k|k
  ·exact .inl ⟨k,nH ndP hp hu k⟩
  ·obtain⟨c,e⟩:=xY k;refine .inr ⟨.inl k,c,e,?_⟩;have q:=x.cell y c e;rw[oh ndP hp hu (by show scope.names.lookup y≠_;rw[k];decide)]at q;exact q
 ·exact e0.a6.fresh (LK (x.above y c (PySem.mem_of_lookup h)))
 ·unfold start;show _=N.length;rw[dv,aD,List.length_replicate];lia
theorem Nf{CX:CY}{P:Program}{w:World}{K:Wf}{mg:So}{base:Heap}{k:Nat}{f:Addr}{name qual:Str}{params:Arguments}{body:List Stmt}{scope:Scope}{dV kV doc pm cdv ct oc:Value}{an od:Option Addr}
  {osl:Array (Option Value)}{N ps:List Str}{sp:Sp}(lk:K.lookup f=some ⟨oc,od,.func (fnOf name qual params body scope dV kV doc pm an cdv ct),osl⟩) (hcd:codeIn K cdv qual=true) (S:ar N ps scope)
  (len:∀vs H Q E,sp vs H Q E->vs.length=ps.length)
  (hbody:∀(A:Around) (outer:List Env) (s:Shared) (H:Hp) (vs:List V) (Q:VK) (E:XK),cQ k (A.deeper (envOfC qual scope s.heap.objs.size f cdv))->sp vs H Q E->
   ∃t,yi (lq CX P w K mg base N qual scope f cdv A outer s H E) body t/\t { nx:=λ_ H'=>Q .bB H',rt:=Q } (start N vs) H):
  aY P w K mg base CX (k+1) f (fnOf name qual params body scope dV kV doc pm an cdv ct) ps sp:=by
 refine⟨len,λA outer s H args us vs Q E hr e0 hb r hsp=>?_⟩;have hl:=len _ _ _ _ hsp;have KX:=e0.mod.Rn.keeps λb o e=>(e0.bs b o e).1;have lim:=e0.mod.nolimit.keeps λb o e=>(e0.bs b o e).1;have hkind:∀y∈ps.zip us,scope.names.lookup y.1=some .local\/(scope.names.lookup y.1=some .cell/\((cellsFrom 'm' scope.names []).lookup y.1).isSome=true):=λ⟨n,v⟩ hy=>by
  rcases S.par n (List.of_mem_zip hy).1 with q|q
  ·exact .inl q
  ·exact .inr ⟨q,cellsFrom_some _ _ _ (.inl q)⟩
 refine codeAny_call_function hr.depth (KX _ _ lk) rfl S.co S.gen rfl (PySem.W.codeRec_of KX hcd) (hb _ _ _ _ (wpAny_newFunctionEnv_cells S.kind hkind λenv he s1 x=>?_));subst he;refine⟨lim.keeps x.toInCall.keep,codeAny_func ?_⟩;obtain⟨t,ht,hq⟩:=hbody A outer s H vs Q E (hr.deeper _) hsp;have I:Inv (lq CX P w K mg base N qual scope f cdv A outer s H E) [] (start N vs) H s1:=n8 S hr.hd e0 hl r x;refine m8 (ht [] s1 (start N vs) H _ I hq) (λfl s' hs=>?_) λe s' hs=>hs;have fin:∀{σ':St}{H':Hp}{v:V}{u:Value},Inv (lq CX P w K mg base N qual scope f cdv A outer s H E) [] σ' H' s'->RelV v u->Q v H'->CE outer P w H s Q u s':=
  λ{σ' H' v u} J rv q=>⟨v,H',J.os,J.bare,J.base,J.a6,rv,q⟩
 cases fl with
 |ret u=>
  obtain⟨v,σ',H',J,rv,q⟩:=hs;exact fin J rv q
 |next=>
  obtain⟨σ',H',J,q⟩:=hs;exact fin (v:=V.bB) J rfl q
 |brk=>
  obtain⟨_,_,_,q⟩:=hs;exact False.elim q
 |cont=>
  obtain⟨_,_,_,q⟩:=hs;exact False.elim q
section
variable{X:Cx}{x:Str}{p pos:Pos}{e:Expr}{es:List Expr}{t:TA}{id T:String}{r:List V->Hp->VK->Prop}
def tCB(r:List V->Hp->VK->Prop)(t:TA):TE:=λσ H Q=>t σ H λvs H1=>r vs H1 Q
theorem fX(hc:cL X (.builtin id) r)(hg:Gl X x)(hm:X.mg x=none)(hv:bootBuiltins x=some (.builtin id))(ha:PA X (e::es) t)(hn:x ≠ "__name__" := by decide)(hdb:(x == ("__debug__" : Str))=false:=by decide)
  (he:starEach (e::es) X.env=(false,eval e X.env)::starEach es X.env:=by rfl) (hpl:(backTo pos (starEach es X.env)).any (·.1)=false:=by rfl):PE X (.Call (.Name x p) (e::es) [] pos) (tCB r t):=by
 intro pins s σ H Q I h;exact Qm (gc I hg hm hv (PyProof.Rows.callWith_builtin1 (bG (ha pos pins s σ H _ I h) λus s1 ⟨vs,H1,I1,r1,q1⟩=>hc pins s1 σ H1 vs us Q I1 r1 q1) he hpl) hn hdb)
theorem kE(hc:cL X (.type T) r)(hg:Gl X x)(hm:X.mg x=none)(hv:bootBuiltins x=some (.type T))(ha:PA X (e::es) t)(hn:x ≠ "__name__" := by decide)(hdb:(x == ("__debug__" : Str))=false:=by decide)
  (he:starEach (e::es) X.env=(false,eval e X.env)::starEach es X.env:=by rfl) (hpl:(backTo pos (starEach es X.env)).any (·.1)=false:=by rfl):PE X (.Call (.Name x p) (e::es) [] pos) (tCB r t):=by
 intro pins s σ H Q I h;exact Qm (gc I hg hm hv (PyProof.Rows.callWith_type1 (bG (ha pos pins s σ H _ I h) λus s1 ⟨vs,H1,I1,r1,q1⟩=>hc pins s1 σ H1 vs us Q I1 r1 q1) he hpl) hn hdb)
end
end L2
namespace HT
open PySem PyProof.Rows
section
variable{prog:Program}{w:World}{A:Around}{E:Vs}{s:Shared}
def sIx(n d:Nat):Option Int->Nat
 |none=>d
 |some v=>if v<0 then (v+(n:Int)).toNat else min v.toNat n
theorem sIx_nat(n d k:Nat):sIx n d (some (k:Int))=min k n:=by
 show(if k<0 then (k+(n:Int)).toNat else min (k:Int).toNat n)=min k n;rw[if_neg (by lia),C0]
end
end HT
namespace L2
open PySem PySem.Spec PyProof.Rows
abbrev TO:=St->Hp->(Option Int->Hp->Prop)->Prop
def PO(X:Cx)(e:Option Expr)(t:TO):Prop:=
 ∀(pins:Lo) (s:Shared) (σ:St) (H:Hp) (Q:Option Int->Hp->Prop),Inv X pins σ H s->t σ H Q->
  wpAny 'b' X.A (evalPart e X.env) (λu s'=>∃o H',Inv X pins σ H' s'/\IsPart u o/\Q o H') X.xe s
def Lu:TO:=λ_ H Q=>Q none H
def SS(t:TE):TO:=λσ H Q=>t σ H λx H1=>∃i,x=.int i/\Q (some i) H1
section
variable{X:Cx}{e:Expr}{te:TE}{lo hi:Option Expr}{tl th:TO}{pos p2:Pos}
theorem fF:PO X none Lu:=by
 intro pins s σ H Q I h;exact bh ⟨none,H,I,.none,h⟩
theorem d7(h:PE X e te):PO X (some e) (SS te):=by
 intro pins s σ H Q I hw;refine bG (h pins s σ H _ I hw) λu s1 ⟨x,H1,I1,r1,q1⟩=>?_;obtain⟨i,rfl,q⟩:=q1;obtain⟨t,rfl⟩:=r1;exact⟨some i,H1,I1,.int i t,q⟩
def V4(X:Cx)(r:V->Option Int->Option Int->Hp->VK->Prop):Prop:=
 ∀(pins:Lo) (s:Shared) (σ:St) (H:Hp) (x:V) (v vl vu:Value) (lo hi:Option Int) (sl:Addr) (Q:VK),Inv X pins σ H s->RelV x v->s.heap.IsSliceOf sl vl vu .none->IsPart vl lo->IsPart vu hi->r x lo hi H Q->
  ∃T id,typeLookup (.type T) "__getitem__" = pure (some (.builtin id))/\s.TypeIs v T/\wpAny 'b' X.A (getItem v (.ref sl)) 'T' X.xe s
def tSl(r:V->Option Int->Option Int->Hp->VK->Prop)(te:TE)(tl th:TO):TE:=λσ H Q=>te σ H λx H1=>tl σ H1 λl H2=>th σ H2 λu H3=>r x l u H3 Q
theorem dE(hr:V4 X r)(he:PE X e te)(hl:PO X lo tl)(hu:PO X hi th):PE X (.Subscript e (.Slice lo hi none p2) pos) (tSl r te tl th):=by
 intro pins s σ H Q I h;refine Subscript_ (bG (he pins s σ H _ I h) λv s1 ⟨x,H1,I1,r1,q1⟩=>(wpAny_Slice (bG (hl pins s1 σ H1 _ I1 q1) λvl s2 ⟨l,H2,I2,pl,q2⟩=>bG (hu pins s2 σ H2 _ I2 q2) λvu s3 ⟨u,H3,I3,pu,q3⟩=>(bh ?_))));have I4:Inv X pins σ H3 { s3 with heap:=s3.heap.push { cls:=.type "slice", data:=.fields #[vl,vu,.none] } }:=I3.kept λb ob q=>cS _ q;obtain⟨T,id,hT,ht,hg⟩:=hr pins { s3 with heap:=s3.heap.push { cls:=.type "slice", data:=.fields #[vl,vu,.none] } } σ H3 x v vl vu l u s3.heap.objs.size Q I4 r1 (Heap.IsSliceOf.new ..) pl pu q3;exact tail_any ht hT hg (by with_unfolding_all rfl)
def eY(xs:List V)(lo hi:Option Int):List V:=(xs.drop (HT.sIx xs.length 0 lo)).take (HT.sIx xs.length xs.length hi - HT.sIx xs.length 0 lo)
theorem wY(xs:List V)(lo hi:Option Int):(eY xs lo hi).length<=xs.length:=by
 unfold eY;rw[jM,List.length_drop];lia
def aam(K:Wf):V->Option Int->Option Int->Hp->VK->Prop:=λx lo hi H Q=>∃a xs,x=.ref a/\bg K H a xs/\
 ¬(HT.sIx xs.length 0 lo=0/\HT.sIx xs.length xs.length hi=xs.length)/\∀p,H p=none->Q (.ref p) (upd H p (.tup (eY xs lo hi)))
def ZA(K:Wf):R2:=λx y H Q=>∃a b xs ys,x=.ref a/\y=.ref b/\bg K H a xs/\bg K H b ys/\xs≠[]/\xs.length+ys.length<=sizeLine/\
 (ys=[]->Q (.ref a) H)/\(ys≠[]->∀p,H p=none->Q (.ref p) (upd H p (.tup (xs++ys))))
end
def C1(n:Nat)(i:Int):Option Nat:=if 0<=i then (if i<n then some i.toNat else none) else if -(n:Int)<=i then some (i+n).toNat else none
def hW{α:Type}(xs:List α)(i:Int):Option α:=(C1 xs.length i).bind λj=>xs[j]?
theorem BD(h:C1 n i=some j):seqIndex? i n=some j/\j<n /\ -(n:Int)<=i/\i<n:=by
 unfold C1 at h;by_cases h0:0<=i
 ·rw[if_pos h0]at h;by_cases h1:i<n
  ·rw[if_pos h1]at h;have e:=Option.some.inj h;exact⟨by rw[seqIndex_of h0 h1,e],by lia,by lia,h1⟩
  ·rw[if_neg h1]at h;cases h
 ·rw[if_neg h0]at h;by_cases h1 : -n<=i
  ·rw[if_pos h1]at h;have e:=Option.some.inj h;exact⟨by rw[seqIndex_neg (by lia) h1,e],by lia,h1,by lia⟩
  ·rw[if_neg h1]at h;cases h
theorem vM{α:Type}{xs:List α}{i:Int}{v:α}(h:hW xs i=some v):∃j,seqIndex? i xs.length=some j/\xs[j]?=some v/\j<xs.length /\ -(xs.length:Int)<=i/\i<xs.length:=by
 unfold hW at h;cases e:C1 xs.length i with
 |none=>rw[e]at h;cases h
 |some j=>
  rw[e]at h;obtain⟨h1,h2,h3,h4⟩:=BD e;exact⟨j,h1,h,h2,h3,h4⟩
theorem cw{α:Type}{xs:List α}{j:Nat}{v:α}(h:xs[j]?=some v):hW xs (j:Int)=some v:=by
 have hj:=(gZ.mp h).1;have e:C1 xs.length j=some j:=by
  unfold C1;rw[if_pos (by lia),if_pos (by lia)];simp
 unfold hW;rw[e];exact h
theorem eF{α:Type}(xs:List α)(v:α):hW (xs++[v]) (-1)=some v:=by
 have hl:(xs++[v]).length=xs.length+1:=by simp
 have e:C1 (xs++[v]).length (-1)=some xs.length:=by
  unfold C1;rw[hl,if_neg (by decide),if_pos (by lia)];congr 1;lia
 unfold hW;rw[e];show(xs++[v])[xs.length]?=some v;simp
def K0(b:Expr):Prop:=∀o i,subscripted b false o i=operate [o,i] (getItem o i)
def RG(X:Cx)(r:R2):Prop:=
 ∀(value slice:Expr) (pins:Lo) (s:Shared) (σ:St) (H:Hp) (x y:V) (v u:Value) (Q:VK),Inv X pins σ H s->RelV x v->RelV y u->r x y H Q->
  subscripted slice false v u=operate [v,u] (getItem v u)->wpAny 'b' X.A (subscriptTail value slice v u) 'T' X.xe s
def Zp(X:Cx)(id:String)(r:V->List V->Hp->VK->Prop):Prop:=
 ∀(pins:Lo) (s:Shared) (σ:St) (H:Hp) (x:V) (xs:List V) (v:Value) (us:List Value) (Q:VK),Inv X pins σ H s->RelV x v->Vals xs us->r x xs H Q->
  wpAny 'b' X.A (call (.builtin id) (v::us)) 'T' X.xe s
section
variable{X:Cx}{a b:Expr}{ta tb:TE}{pos:Pos}
theorem bx(hr:RG X r)(ha:PE X a ta)(hb:PE X b tb)(hs:K0 b):PE X (.Subscript a b pos) (BL r ta tb):=by
 intro pins s σ H Q I h;exact Subscript_ (Pt ha hb I h λv u s2 x y H2 I2 rx ry q=>hr a b pins s2 σ H2 x y v u Q I2 rx ry q (hs _ _))
def OU(K:Wf):R2:=λx y H Q=>∃p xs i v,x=.ref p/\y=.int i/\aH K H p xs/\hW xs i=some v/\Q v H
def tD(K:Wf):R2:=λx y H Q=>∃p xs i v,x=.ref p/\y=.int i/\bg K H p xs/\hW xs i=some v/\Q v H
def Wu:R2:=λx y H Q=>∃z i c,x=.str z/\y=.int i/\z.length<=sizeLine/\hW z.cps.toList i=some c/\Q (.str ⟨#[c]⟩) H
theorem Kt:RG X (OU X.K):=by
 intro value slice pins s σ H x y v u Q I rx ry h hs;obtain⟨p,xs,i,z,rfl,rfl,hq,he,q⟩:=h;cases rx;obtain⟨t,rfl⟩:=ry;obtain⟨its,r,pl,hz⟩:=I.list hq;obtain⟨j,h1,h2,h3,h4,h5⟩:=vM he;obtain⟨w,ew,rw'⟩:=r.get h2;have hl:=r.length;have hn:=qu;have fin:EP X pins σ Q w s:=⟨z,H,I,rw',q⟩
 by_cases h0:0<=i
 ·have hj:=by
   rw[seqIndex_of h0 h5]at h1;exact Option.some.inj h1
  exact item_listR pl.isList h0 (by lia) (by rw[hj];simpa using ew) fin hs
 ·have hj:(i+(its.toArray.size:Int)).toNat=j:=by
   rw[seqIndex_neg (by lia) h4]at h1;exact iC▸hl▸Option.some.inj h1
  exact subscriptTail_builtinR pl.isList.typeIs slot_list_getitem.lookup
   (wpAny_getItem_list_neg pl.isList (by lia) (by rw[iC]<;>lia) (by lia) (by rw[hj];simpa using ew) ⟨rfl,fin⟩) hs
theorem ON:RG X (tD X.K):=by
 intro value slice pins s σ H x y v u Q I rx ry h hs;obtain⟨p,xs,i,z,rfl,rfl,hq,he,q⟩:=h;cases rx;obtain⟨t,rfl⟩:=ry;obtain⟨its,r,pl,hz⟩:=I.tuple hq;obtain⟨j,h1,h2,h3,h4,h5⟩:=vM he;obtain⟨w,ew,rw'⟩:=r.get h2;have hl:=r.length;have hn:=qu;have fin:EP X pins σ Q w s:=⟨z,H,I,rw',q⟩
 exact subscriptTail_builtinR pl.typeIs slot_tuple_getitem.lookup
  (getItem_tuple pl (by lia) (by lia) (iC▸hl▸h1) (by simpa using ew) ⟨rfl,fin⟩) hs
theorem P8:RG X Wu:=by
 intro value slice pins s σ H x y v u Q I rx ry h hs;obtain⟨z,i,c,rfl,rfl,hz,he,q⟩:=h;obtain⟨t,rfl⟩:=rx;obtain⟨t',rfl⟩:=ry;obtain⟨j,h1,h2,h3,h4,h5⟩:=vM he;have hl:z.cps.toList.length=z.length:=by simp[Str.length]
 rw[hl]at h1 h4 h5;have hn:=qu;exact tail_any (typeIs_str s z t) slot_str_getitem.lookup (getItem_str (by
  have e1:decide (i < -(2 ^ 63:Int))=false:=decide_eq_false (by lia);have e2:decide (i≥2 ^ 63)=false:=decide_eq_false (by lia);rw[e1,e2,Bool.or_false]) (by rw[h1];simpa using h2) ⟨.str ⟨#[c]⟩,H,I.tok _,⟨_,rfl⟩,q⟩) hs
theorem yR(its:List Value)(n j:Nat)(u:Value):Obj.mapSeq (·.setIfInBounds j u) { cls:=.type "list", data:=.seq its.toArray n }={ cls:=.type "list", data:=.seq (its.set j u).toArray n }:=by
 simp[Obj.mapSeq]
theorem Inv.lst{pins:Lo}{σ:St}{H:Hp}{s:Shared}{p:Addr}{xs:List V}(I:Inv X pins σ H s)(h:H p=some (.lst xs)):
  ∃(its:List Value) (n:Nat),Vals xs its/\s.heap.get? p=some { cls:=.type "list", data:=.seq its.toArray n }/\xs.length<=sizeLine:=by
 obtain⟨z,its,n,r,e⟩:=I.a6 p _ h;exact⟨its,n,r,e,z⟩
theorem Inv.Pa{pins:Lo}{σ:St}{H:Hp}{s:Shared}{p:Addr}{xs ys:List V}{its its':List Value}{n n':Nat}{f:Obj->Obj}(I:Inv X pins σ H s)(h:H p=some (.lst xs))
  (ho:s.heap.get? p=some { cls:=.type "list", data:=.seq its.toArray n }) (hf:f { cls:=.type "list", data:=.seq its.toArray n }={ cls:=.type "list", data:=.seq its'.toArray n' }) (r:Vals ys its') (hz:ys.length<=sizeLine) (t:Nat):
  Inv X pins σ (upd H p (.lst ys)) { s with heap:=s.heap.update p f,toks:=t }:=by
 have e:(s.heap.update p f).get? p=some { cls:=.type "list", data:=.seq its'.toArray n' }:=by
  rw[QQ f ho (by rw[hf]<;>rfl),hf]
 refine I.write (by rw[h];trivial) (.inl rfl) (λb u hb q=>(O7 _ _ (Ne.symm hb)).trans q) ⟨_,e⟩ ?_;exact⟨hz,its',n',r,e⟩
def Uy:V->V->V->Hp->(Hp->Prop)->Prop:=λo i v H Q=>∃p xs k j,o=.ref p/\i=.int k/\H p=some (.lst xs)/\C1 xs.length k=some j/\Q (upd H p (.lst (xs.set j v)))
theorem set_list:SE X Uy:=by
 intro pins s σ H o i v ov iv u Q I ro ri rv h;obtain⟨p,xs,k,j,rfl,rfl,hp,hj,q⟩:=h;cases ro;obtain⟨t,rfl⟩:=ri;obtain⟨its,n,r,ho,hz⟩:=I.lst hp;obtain⟨h1,h2,h3,h4⟩:=BD hj;have hl:=r.length;have hn:=qu;have I':=
  I.Pa hp ho (yR its n j u) (r.set rv j) (by rw[List.length_set];exact hz) s.toks
 by_cases h0:0<=k
 ·have hk:=by
   rw[seqIndex_of h0 h4]at h1;exact Option.some.inj h1
  exact PySem.W.ki_setAt ho h0 (by lia) (iC▸hl▸h4) (hk▸⟨_,I',q⟩)
 ·have hk:(k+(its.toArray.size:Int)).toNat=j:=by
   rw[seqIndex_neg (by lia) h3]at h1;exact iC▸hl▸Option.some.inj h1
  exact PySem.W.ki_setBack ho (by lia) (iC▸hl▸h3) (by lia) (hk▸⟨_,I',q⟩)
theorem wj(lo hi:Option Int)(n:Nat):(sliceBounds lo hi none n).1=((HT.sIx n 0 lo:Nat):Int)/\(sliceBounds lo hi none n).2.1=((HT.sIx n n hi:Nat):Int)/\(sliceBounds lo hi none n).2.2=1:=by
 refine⟨?_,?_,rfl⟩
 ·cases lo with
  |none=>simp[sliceBounds,HT.sIx]
  |some i=>
   simp only[sliceBounds,HT.sIx,Option.getD_none,show(1:Int)>0 by decide,if_true];by_cases h:i<0
   ·simp only[h,if_true]<;>lia
   ·simp only[h,if_false]<;>lia
 ·cases hi with
  |none=>simp[sliceBounds,HT.sIx]
  |some i=>
   simp only[sliceBounds,HT.sIx,Option.getD_none,show(1:Int)>0 by decide,if_true];by_cases h:i<0
   ·simp only[h,if_true]<;>lia
   ·simp only[h,if_false]<;>lia
theorem mK(its:List Value)(lo hi:Option Int):slicePick its.toArray lo hi none=((its.drop (HT.sIx its.length 0 lo)).take (HT.sIx its.length its.length hi - HT.sIx its.length 0 lo)).toArray:=by
 obtain⟨h1,h2,h3⟩:=wj lo hi its.toArray.size;unfold slicePick;rw[h1,h2,h3];simp only[sliceRange_one,pick_run]<;>rfl
def RU(K:Wf):V->Option Int->Option Int->Hp->VK->Prop:=λx lo hi H Q=>∃a xs,x=.ref a/\aH K H a xs/\∀p,H p=none->Q (.ref p) (upd H p (.lst (eY xs lo hi)))
theorem Mc:V4 X (RU X.K):=by
 intro pins s σ H x v vl vu lo hi sl Q I rx hs pl pu h;obtain⟨a,xs,rfl,hx,q⟩:=h;cases rx;obtain⟨its,r,ht,hz⟩:=I.list hx;have hlen:=r.length;refine⟨"list", _,slot_list_getitem.lookup,ht.isList.typeIs,wpAny_getItem_list_slice ht.isList hs pl pu .none (by simp) ?_ (by rw[List.size_toArray]<;>lia)⟩;rw[mK,<-hlen];refine⟨.ref s.heap.objs.size,_,I.laid (λb ob q=>cS _ q) (bS _) ?_,rfl,q _ (I.a6.fresh (bS _))⟩;exact⟨ia (wY xs lo hi) hz,_,0,(r.drop (HT.sIx xs.length 0 lo)).take (HT.sIx xs.length xs.length hi - HT.sIx xs.length 0 lo),hV _ rfl⟩
def iA:V->Bool
 |.bB=>true
 |.bl _=>true
 |.int _=>true
 |.str _=>true
 |_=>false
def HV:V->V->Bool
 |.bB,.bB=>true
 |.bl a,.bl b=>a == b
 |.bl a,.int b=>(if a then 1 else 0) == b
 |.int a,.bl b=>a == (if b then 1 else 0)
 |.int a,.int b=>a == b
 |.str a,.str b=>a == b
 |_,_=>false
theorem O6(ry:RelV y u)(rx:RelV x v)(fy:iA y=true)(fx:iA x=true):SeqAt.EqAt A s u v (HV y x):=by
 cases y with
 |bB=>
  cases ry;cases x with
  |bB=>cases rx;exact SeqAt.EqAt.same _
  |bl b=>cases rx;exact SeqAt.EqAt.none_bool b
  |int b=>obtain⟨t,rfl⟩:=rx;exact SeqAt.EqAt.none_int b t
  |str b=>obtain⟨t,rfl⟩:=rx;exact SeqAt.EqAt.none_str b t
  |_=>exact absurd fx nM
 |bl a=>
  cases ry;cases x with
  |bB=>cases rx;exact SeqAt.EqAt.bool_none a
  |bl b=>cases rx;exact SeqAt.EqAt.bool_bool a b
  |int b=>obtain⟨t,rfl⟩:=rx;exact SeqAt.EqAt.bool_int a b t
  |str b=>obtain⟨t,rfl⟩:=rx;exact SeqAt.EqAt.bool_str a b t
  |_=>exact absurd fx nM
 |int a=>
  obtain⟨t',rfl⟩:=ry;cases x with
  |bB=>cases rx;exact SeqAt.EqAt.int_none a t'
  |bl b=>cases rx;exact SeqAt.EqAt.int_bool a t' b
  |int b=>obtain⟨t,rfl⟩:=rx;exact SeqAt.EqAt.int_int a t' b t
  |str b=>obtain⟨t,rfl⟩:=rx;exact SeqAt.EqAt.int_str a t' b t
  |_=>exact absurd fx nM
 |str a=>
  obtain⟨t',rfl⟩:=ry;cases x with
  |bB=>cases rx;exact SeqAt.EqAt.str_none a t'
  |bl b=>cases rx;exact SeqAt.EqAt.str_bool a t' b
  |int b=>obtain⟨t,rfl⟩:=rx;exact SeqAt.EqAt.str_int a t' b t
  |str b=>obtain⟨t,rfl⟩:=rx;exact SeqAt.EqAt.str_str a t' b t
  |_=>exact absurd fx nM
 |_=>exact absurd fy nM
def ze(x:V)(u:Value):Bool:=match u with
 |.none=>HV .bB x
 |.bool b=>HV (.bl b) x
 |.int i _=>HV (.int i) x
 |.str z _=>HV (.str z) x
 |_=>false
theorem JU(r:RelV y u)(f:iA y=true):ze x u=HV y x:=by
 cases y with
 |bB=>cases r;rfl
 |bl b=>cases r;rfl
 |int i=>obtain⟨t,rfl⟩:=r;rfl
 |str z=>obtain⟨t,rfl⟩:=r;rfl
 |_=>exact absurd f nM
theorem i_:∀{xs:List V}{us:List Value},Vals xs us->xs.all iA=true->us.any (ze x)=xs.any λy=>HV y x
 |_,_,.nil,_=>rfl
 |y::xs,u::us,.cons r t,f=>by
  rw[List.all_cons,lx]at f;rw[Rb,Rb,JU r f.1,i_ t f.2]
theorem gb(rx:RelV x v)(fx:iA x=true):∀{xs:List V}{us:List Value},Vals xs us->xs.all iA=true->∀u∈us,SeqAt.EqAt A s u v (ze x u)
 |_,_,.nil,_=>λu hu=>by cases hu
 |y::xs,u::us,.cons r t,f=>λu' hu=>by
  rw[List.all_cons,lx]at f;rcases iu.mp hu with rfl|hu
  ·rw[JU r f.1];exact O6 r rx f.1 fx
  ·exact gb rx fx t f.2 u' hu
def Vv(x:V)(xs:List V):Bool:=xs.any λy=>HV y x
def Wj(K:Wf)(neg:Bool):R2:=λx y H Q=>∃p xs,y=.ref p/\(aH K H p xs\/bg K H p xs)/\iA x=true/\xs.all iA=true/\Q (.bl (if neg then !Vv x xs else Vv x xs)) H
theorem Cr:fZ X (compareOp .In) (Wj X.K false):=by
 intro pins s σ H x y v u Q I rx ry h;obtain⟨p,xs,rfl,hq,fx,fs,q⟩:=h;cases ry;rcases hq with hq|hq
 ·obtain⟨its,r,pl,hz⟩:=I.list hq;refine SeqAt.in_listAt (ze x) pl.isList (λw hw=>gb rx fx r fs w (by simpa using hw)) ⟨.bl _,H,I,rfl,?_⟩;rw[show its.toArray.any (ze x)=its.any (ze x) by simp,i_ r fs];exact q
 ·obtain⟨its,r,pl,hz⟩:=I.tuple hq;refine SeqAt.in_tupleAt (ze x) pl (λw hw=>gb rx fx r fs w (by simpa using hw)) ⟨.bl _,H,I,rfl,?_⟩;rw[show its.toArray.any (ze x)=its.any (ze x) by simp,i_ r fs];exact q
theorem tW:fZ X (compareOp .NotIn) (Wj X.K true):=by
 intro pins s σ H x y v u Q I rx ry h;obtain⟨p,xs,rfl,hq,fx,fs,q⟩:=h;cases ry;rcases hq with hq|hq
 ·obtain⟨its,r,pl,hz⟩:=I.list hq;refine SeqAt.notIn_listAt (ze x) pl.isList (λw hw=>gb rx fx r fs w (by simpa using hw)) ⟨.bl _,H,I,rfl,?_⟩;rw[show its.toArray.any (ze x)=its.any (ze x) by simp,i_ r fs];exact q
 ·obtain⟨its,r,pl,hz⟩:=I.tuple hq;refine SeqAt.notIn_tupleAt (ze x) pl (λw hw=>gb rx fx r fs w (by simpa using hw)) ⟨.bl _,H,I,rfl,?_⟩;rw[show its.toArray.any (ze x)=its.any (ze x) by simp,i_ r fs];exact q
theorem oP:cL X (.type "list") (λxs H Q=>∃p ys,xs=[.ref p]/\(aH X.K H p ys\/bg X.K H p ys)/\∀l,H l=none->Q (.ref l) (upd H l (.lst ys))):=by
 intro pins s σ H xs us Q I r h;obtain⟨p,ys,rfl,hq,q⟩:=h;obtain⟨u,rfl,rx⟩:=vals1 r;cases rx;have fin:∀its,Vals ys its->ys.length<=sizeLine->∀h' c',(∀b o',s.heap.get? b=some o'->h'.get? b=some o')->
   h'.get? s.heap.objs.size=some { cls:=.type "list", dict:=none,data:=.seq its.toArray c',slots:=#[] }->EP X pins σ Q 'C' { s with heap:=h' }:=λits r' hz h' c' kp e=>
  ⟨.ref s.heap.objs.size,_,I.laid kp (bS _) (show cg X.prog X.w _ h' _ (.lst ys) from ⟨hz,its,c',r',e⟩),rfl,q _ (I.a6.fresh (bS _))⟩
 rcases hq with hq|hq
 ·obtain⟨its,r',pl,hz⟩:=I.list hq;have hlen:=r'.length;obtain⟨o,ho,hc,n,hd⟩:=pl.isList;exact call_list_seq p (.inl rfl) ho hc hd (λh' c' kp e=>fin its r' hz h' c' kp e) (by simp only[List.size_toArray]<;>lia)
 ·obtain⟨its,r',pl,hz⟩:=I.tuple hq;have hlen:=r'.length;obtain⟨o,ho,hc,n,hd⟩:=pl;exact call_list_seq p (.inr rfl) ho hc hd (λh' c' kp e=>fin its r' hz h' c' kp e) (by simp only[List.size_toArray]<;>lia)
def VC(K:Wf)(T:String)(x:V)(H:Hp):Prop:=match x with
 |.str _=>T = "str"
 |.int _=>T = "int"
 |.ref p=>(T = "list" /\ ∃xs,aH K H p xs)\/(T = "tuple" /\ ∃o,K.lookup p=some o/\o.cls=.type "tuple" /\ o.dict=none) \/
   (T = "dict" /\ ((∃ag,H p=some (.dK ag))\/∃ag,H p=some (.dT ag)))\/(T = "set" /\ ∃S n,H p=some (.set S n))
 |_=>False
theorem QI{pins:Lo}{σ:St}{H:Hp}{s:Shared}{T:String}{x:V}{v:Value}(I:Inv X pins σ H s)(r:RelV x v)(ty:VC X.K T x H):
  s.TypeIs v T/\∀a,v=.ref a->∃ob,s.heap.get? a=some ob/\ob.dict=none:=by
 cases x with
 |str z=>
  obtain⟨t,rfl⟩:=r;cases ty;exact⟨typeIs_str s z t,λ_ e=>nomatch e⟩
 |int i=>
  obtain⟨t,rfl⟩:=r;cases ty;exact⟨typeIs_int s i t,λ_ e=>nomatch e⟩
 |ref p=>
  cases r;rcases ty with ⟨rfl,xs,hq⟩|⟨rfl,o,hk,hc,hd⟩|⟨rfl,hk⟩|⟨rfl,S,n,hk⟩
  ·obtain⟨its,_,pl,_⟩:=I.list hq;refine⟨pl.isList.typeIs,λa e=>?_⟩;cases e;obtain⟨o,n,e,c,hd,_⟩:=pl;exact⟨o,e,hd⟩
  ·refine⟨⟨o,I.jV p o hk,hc⟩,λa e=>?_⟩;cases e;exact⟨o,I.jV _ o hk,hd⟩
  ·have z:∃o,s.heap.get? p=some o/\o.ExactDict:=by
    rcases hk with ⟨ag,hk⟩|⟨ag,hk⟩
    ·obtain⟨_,_,_,_,o,_,_,e,ex,_⟩:=I.a6 p _ hk;exact⟨o,e,ex⟩
    ·obtain⟨_,_,_,_,o,_,_,e,ex,_⟩:=I.a6 p _ hk;exact⟨o,e,ex⟩
   obtain⟨o,e,ex⟩:=z;refine⟨⟨o,e,ex.1⟩,λa e2=>?_⟩;cases e2;exact⟨o,e,ex.2.1⟩
  ·obtain⟨o,_,_,_,e,ex,_⟩:=I.a6 p _ hk;refine⟨⟨o,e,ex.1⟩,λa e2=>?_⟩;cases e2;exact⟨o,e,ex.2.1⟩
 |_=>exact False.elim ty
def aai(K:Wf)(T:String)(r:V->List V->Hp->VK->Prop)(to:TE):TE:=λσ H Q=>to σ H λx H1=>VC K T x H1/\r x [] H1 Q
def YM(K:Wf)(T:String)(r:V->List V->Hp->VK->Prop)(to:TE)(t:TA):TE:=λσ H Q=>to σ H λx H1=>VC K T x H1/\t σ H1 λxs H2=>r x xs H2 Q
variable{o e:Expr}{es:List Expr}{to:TE}{t:TA}{name:Str}{apos cpos:Pos}{T id:String}{r:V->List V->Hp->VK->Prop}
theorem A6(pa:PlainAttrs T)(slot:Slot T name id)(hty:typeOf (.builtin id)=pure (.type "method_descriptor"))(hm:Zp X id r)(ho:PE X o to)(ha:PA X (e::es) t)
  (hbase:attributeBase o name X.env (eval o X.env)=eval o X.env:=by rfl)
  (hfew:((backTo cpos (starEach (e::es) X.env)).all (λx=>!x.1)&&(backToKw cpos (keywordEach [] X.env)).all (λx=>x.1.isSome)
   && decide ((e::es).length+([]:List Keyword).length+(if ([]:List Keyword).isEmpty then 0 else 1)<30))=true:=by rfl)
  (hline:(apos.endLine == cpos.line)=true:=by rfl) (hs:starEach (e::es) X.env=(false,eval e X.env)::starEach es X.env:=by rfl) (hplain:(backTo cpos (starEach es X.env)).any (·.1)=false:=by rfl):
  PE X (.Call (.Attribute o name apos) (e::es) [] cpos) (YM X.K T r to t):=by
 intro pins s σ H Q I h;refine wpAny_Call_method_late hbase hfew hline rfl (bG (ho pins s σ H _ I h) λv s1 ⟨x,H1,I1,r1,ty,q1⟩=>?_);obtain⟨h1,h2⟩:=QI I1 r1 ty;refine⟨T,id,pa,slot,hty,h1,h2,?_⟩;have hA:=ha cpos pins s1 σ H1 _ I1 q1;rw[hs]at hA ⊢;exact Calls.callWith_builtin (by show(false || (backTo cpos (starEach es X.env)).any (·.1))=false;rw[hplain]<;>rfl) (Calls.evalArgs_plain (bG hA λus s2 ⟨vs,H2,I2,r2,q2⟩=>hm pins s2 σ H2 x vs v us Q I2 r1 r2 q2))
/- xs.append(e),list.index on a module's tuple .. are Zp facts of 06m -/
end
def V9(X:Cx)(id:String)(r:V->List V->Hp->VK->Prop):Prop:=
 ∀(pins:Lo) (s:Shared) (σ:St) (H:Hp) (x:V) (xs:List V) (v:Value) (us:List Value) (Q:VK),Inv X pins σ H s->RelV x v->Vals xs us->r x xs H Q->
  wpAny 'b' X.A (call (.builtin id) (v::us)) 'T' X.xe s
theorem Vals.one:∀{x:V}{us:List Value},Vals [x] us->∃u,us=[u]/\RelV x u
 |_,_,.cons r .nil=>⟨_,rfl,r⟩
section
variable{X:Cx}{pins:Lo}{σ:St}{H:Hp}{s:Shared}{l b:Addr}{xs ys zs:List V}
theorem Inv.Ud{its its':List Value}{n:Nat}{f:Array Value->Array Value}{t':Nat}(I:Inv X pins σ H s)(hH:H l=some (.lst xs))
  (e:s.heap.get? l=some { cls:=.type "list", data:=.seq its.toArray n }) (hf:f its.toArray=its'.toArray) (hv:Vals ys its') (hz:ys.length<=sizeLine):
  Inv X pins σ (upd H l (.lst ys)) { s with heap:=s.heap.update l (Obj.mapSeq f),toks:=t' }:=by
 have q:=PySem.IsL.update e f;rw[hf]at q;refine I.write (hH▸trivial) (.inl rfl) (λb' u hb hu=>(O7 s.heap (Obj.mapSeq f) (Ne.symm hb)).trans hu) ⟨_,q⟩ ?_;exact⟨hz,its',_,hv,q⟩
theorem Inv.PF(I:Inv X pins σ H s)(hv:Vals ys its)(hz:ys.length<=sizeLine):
  Inv X pins σ (upd H s.heap.objs.size (.lst ys)) { s with heap:=s.heap.push { cls:=.type "list", data:=.seq its.toArray },toks:=t' }:=
 I.laid (λ_ _ q=>cS _ q) (bS _) ⟨hz,its,0,hv,hV _ rfl⟩
theorem Inv.fresh(I:Inv X pins σ H s):H s.heap.objs.size=none:=I.a6.fresh (bS _)
theorem Inv.QF(I:Inv X pins σ H s)(hH:H l=some (.lst xs)):xs.length<=sizeLine/\∃(its:List Value) (n:Nat),Vals xs its/\xs.length=its.length/\s.heap.get? l=some { cls:=.type "list", data:=.seq its.toArray n }:=by
 obtain⟨z,its,n,r,e⟩:=I.a6 l _ hH;exact⟨z,its,n,r,r.length,e⟩
theorem Fv(h:n<=sizeLine):Builtin.List.listTooLong n=false:=by
 unfold Builtin.List.listTooLong;exact decide_eq_false (by lia)
end
section
variable{X:Cx}
def AZ:V->List V->Hp->VK->Prop:=λx vs H Q=>∃l xs y,x=.ref l/\vs=[y]/\H l=some (.lst xs)/\xs.length<sizeLine/\Q .bB (upd H l (.lst (xs++[y])))
theorem ng:V9 X "list.append" AZ:=by
 intro pins s σ H x vs v us Q I rx rv h;obtain⟨l,xs,y,rfl,rfl,hH,hz,q⟩:=h;cases rx;obtain⟨u,rfl,ru⟩:=rv.one;obtain⟨z,its,n,r,hl,e⟩:=I.QF hH;refine call_meets F.slot_list_append ⟨_,e,rfl⟩ F.entry_list_append (F.args_list_append_2 _ _) (PySem.list_append l its.toArray n u (by rw[iC];lia)) ⟨e,⟨.bB,_,I.Ud hH e (by simp) (r.append (.cons ru .nil)) ?_,rfl,q⟩⟩;rw[dv,Vu];lia
def KJ:V->List V->Hp->VK->Prop:=λx vs H Q=>∃l b xs zs,x=.ref l/\vs=[.ref b]/\H l=some (.lst xs)/\H b=some (.lst zs)/\xs.length+zs.length<=sizeLine/\Q .bB (upd H l (.lst (xs++zs)))
theorem Cc:V9 X "list.extend" KJ:=by
 intro pins s σ H x vs v us Q I rx rv h;obtain⟨l,b,xs,zs,rfl,rfl,hH,hB,hz,q⟩:=h;cases rx;obtain⟨u,rfl,ru⟩:=rv.one;cases ru;obtain⟨z,its,n,r,hl,e⟩:=I.QF hH;obtain⟨z2,its2,n2,r2,hl2,e2⟩:=I.QF hB;have hsz:its.toArray.size+its2.toArray.size<=sizeLine:=by rw[iC,iC];lia
 have hlong:¬(!its.toArray.isEmpty&&Builtin.List.listTooLong (its.toArray.size+its2.toArray.size))=true:=by
  rw[Fv hsz,Bool.and_false];exact nM
 refine call_meets F.slot_list_extend ⟨_,e,rfl⟩ F.entry_list_extend (F.args_list_extend_2 _ _)
  (AutoSeq1.list_extend_list_list_0 l its.toArray n b its2.toArray n2 hlong (by rw[iC];lia) (by lia)) ⟨e,e2,?_⟩
 refine⟨.bB,_,I.Ud (its':=its++its2) hH e (by simp) (r.append r2) ?_,rfl,q⟩;rw[dv];lia
def aay:V->List V->Hp->VK->Prop:=λx vs H Q=>∃l xs y,x=.ref l/\vs=[]/\H l=some (.lst xs)/\xs[xs.length - 1]?=some y/\Q y (upd H l (.lst xs.dropLast))
end
section
variable{prog:Program}{w:World}{A:Around}{E:Vs}{s:Shared}
set_option maxRecDepth 100000 in
end
section
variable{κ:Type} [DecidableEq κ]
def br(ag:List (κ×V))(k:κ):Option V:=(ag.find? λkv=>decide (kv.1=k)).map (·.2)
def putK(ag:List (κ×V))(k:κ)(v:V):List (κ×V):=
 if (ag.any λkv=>decide (kv.1=k))=true then ag.map (λkv=>if kv.1=k then (kv.1,v) else kv) else ag++[(k,v)]
theorem cA{p:κ×V}{r:List (κ×V)}{k:κ}(e:p.1=k):br (p::r) k=some p.2:=by simp[br,e]
theorem cB{p:κ×V}{r:List (κ×V)}{k:κ}(e:¬p.1=k):br (p::r) k=br r k:=by simp[br,e]
theorem eE(k:κ):∀ag:List (κ×V),(ag.any λkv=>decide (kv.1=k))=(br ag k).isSome
 |[]=>rfl
 |p::r=>by
  rw[Rb];by_cases e:p.1=k
  ·simp only[cA e,decide_eq_true e,Bool.true_or,Option.isSome_some]
  ·rw[cB e,decide_eq_false e,Bool.false_or];exact eE k r
theorem wV(k j:κ)(y:V):∀ag:List (κ×V),br (ag.map λkv=>if kv.1=k then (kv.1,y) else kv) j=(br ag j).map λx=>if j=k then y else x
 |[]=>rfl
 |p::r=>by
  have ih:=wV k j y r;rw[iZ];by_cases h:p.1=k
  ·rw[if_pos h];by_cases e:p.1=j
   ·rw[cA (p:=(p.1,y)) e,cA e,Option.map_some,if_pos (e.symm.trans h)]
   ·rw[cB (p:=(p.1,y)) e,cB e,ih]
  ·rw[if_neg h];by_cases e:p.1=j
   ·rw[cA e,cA e,Option.map_some,if_neg (λz=>h (e.trans z))]
   ·rw[cB e,cB e,ih]
theorem nF(k j:κ)(y:V):∀ag:List (κ×V),br ag k=none->br (ag++[(k,y)]) j=if j=k then some y else br ag j
 |[],_=>by
  by_cases e:k=j
  ·rw[if_pos e.symm];exact cA e
  ·rw[if_neg (λz=>e z.symm)];exact cB e
 |p::r,hn=>by
  rw[Ve];have hk:¬p.1=k:=λz=>by rw[cA z]at hn;cases hn
  rw[cB hk]at hn;have ih:=nF k j y r hn;by_cases e:p.1=j
  ·rw[cA e,cA e,if_neg (λz=>hk (e.trans z))]
  ·rw[cB e,cB e,ih]
theorem Gz(ag:List (κ×V))(k j:κ)(y:V):br (putK ag k y) j=if j=k then some y else br ag j:=by
 unfold putK;by_cases a:(ag.any λkv=>decide (kv.1=k))=true
 ·rw[if_pos a,wV];rw[eE]at a;by_cases e:j=k
  ·obtain⟨x,hx⟩:=Vz.mp a;rw[if_pos e,e,hx,Option.map_some,if_pos rfl]
  ·simp_all
 ·rw[if_neg a];refine nF k j y ag ?_;rw[eE]at a;cases q:br ag k with
  |none=>rfl
  |some x=>rw[q]at a;exact(a rfl).elim
theorem cX(ag:List (κ×V))(k:κ)(v:V):(putK ag k v).length<=ag.length+1:=by
 unfold putK;split
 ·rw[aD];lia
 ·simp_all
theorem Gp{ag:List (κ×V)}{k:κ}(v:V)(h:br ag k=none):putK ag k v=ag++[(k,v)]:=by
 unfold putK;rw[eE,h];exact if_neg (by decide)
theorem fV.fh(r:fV o u):o.isSome=u.isSome:=by
 cases o with
 |none=>cases u with
  |none=>rfl
  |some _=>exact r.elim
 |some _=>cases u with
  |none=>exact r.elim
  |some _=>rfl
theorem fV.getD(r:fV o u)(rd:RelV d d'):RelV (o.getD d) (u.getD d'):=by
 cases o with
 |none=>cases u with
  |none=>exact rd
  |some _=>exact(show False from r).elim
 |some _=>cases u with
  |none=>exact(show False from r).elim
  |some _=>exact r
theorem KV.val{ag:List (κ×V)}{vs:List (κ×Value)}(r:KV ag vs)(k:κ):fV (br ag k) (valueAt vs k):=by
 induction r with
 |nil=>exact True.intro
 |@cons p q ps qs h t ih=>
  obtain⟨h1,h2⟩:=h;by_cases e:p.1=k
  ·have e':=h1.symm.trans e;have b:valueAt (q::qs) k=some q.2:=by simp[valueAt,e']
   rw[cA e,b];exact h2
  ·have e':¬q.1=k:=λz=>e (h1.trans z);have b:valueAt (q::qs) k=valueAt qs k:=by simp[valueAt,e']
   rw[cB e,b];exact ih
theorem KV.any{ag:List (κ×V)}{vs:List (κ×Value)}(r:KV ag vs)(k:κ):(ag.any λkv=>decide (kv.1=k))=vs.any λkv=>decide (kv.1=k):=by
 induction r with
 |nil=>rfl
 |cons h t ih=>rw[Rb,Rb,ih,h.1]
theorem KV.O3{ag:List (κ×V)}{vs:List (κ×Value)}(r:KV ag vs)(k:κ){y:V}{u:Value}(ry:RelV y u):
  KV (ag.map λkv=>if kv.1=k then (kv.1,y) else kv) (vs.map λkv=>if kv.1=k then (kv.1,u) else kv):=by
 induction r with
 |nil=>exact .nil
 |@cons p q ps qs h t ih=>
  rw[iZ,iZ];refine .cons ?_ ih;obtain⟨h1,h2⟩:=h;by_cases e:p.1=k
  ·rw[if_pos e,if_pos (h1.symm.trans e)];exact⟨h1,ry⟩
  ·rw[if_neg e,if_neg (λz=>e (h1.trans z))];exact⟨h1,h2⟩
theorem KV.put{ag:List (κ×V)}{vs:List (κ×Value)}(r:KV ag vs)(k:κ){y:V}{u:Value}(ry:RelV y u):KV (putK ag k y) (stored vs k u):=by
 unfold putK stored;rw[r.any k];by_cases e:(vs.any λkv=>decide (kv.1=k))=true
 ·rw[if_pos e,if_pos e];exact r.O3 k ry
 ·rw[if_neg e,if_neg e];exact Paired.snoc r ⟨rfl,ry⟩
theorem KV.length{ag:List (κ×V)}{vs:List (κ×Value)}(r:KV ag vs):ag.length=vs.length:=Paired.length r
end
theorem jy(r:RelV (kV k) u):(aX P w).is k u=true:=by
 cases k with
 |inl i=>obtain⟨t,e⟩:=r;subst e;exact xT P w i t
 |inr x=>obtain⟨t,e⟩:=r;subst e;exact xA P w x t
theorem nZ:∀{ks:List Key}{us:List Value},Vals (ks.map kV) us->ItemsAre (aX P w) ks us
 |[],_,r=>by rw[List.map_nil]at r;cases r;exact .nil
 |k::ks,_,r=>by
  cases r with
  |cons h t=>exact .cons (jy h) (nZ t)
abbrev KT(H:Hp):List 'i'->List (List Key×Addr×Value)->Prop:=Paired λp q=>p.1=q.1/\H q.2.1=some (.tup (p.1.map kV))/\RelV p.2 q.2.2
theorem KT.val{H:Hp}{ag:List 'i'}{xs:List (List Key×Addr×Value)}(r:KT H ag xs)(k:List Key):fV (br ag k) ((atKey xs k).map (·.2)):=by
 induction r with
 |nil=>exact True.intro
 |@cons p q ps qs h t ih=>
  obtain⟨h1,_,h2⟩:=h;by_cases e:p.1=k
  ·have e':=h1.symm.trans e;have b:atKey (q::qs) k=some q.2:=by simp[atKey,e']
   rw[cA e,b];exact h2
  ·have e':¬q.1=k:=λz=>e (h1.trans z);have b:atKey (q::qs) k=atKey qs k:=by simp[atKey,e']
   rw[cB e,b];exact ih
theorem KT.O3{H:Hp}{ag:List 'i'}{xs:List (List Key×Addr×Value)}(r:KT H ag xs)(k:List Key){y:V}{u:Value}(ry:RelV y u):
  KT H (ag.map λkv=>if kv.1=k then (kv.1,y) else kv) (xs.map (putAt k u)):=by
 induction r with
 |nil=>exact .nil
 |@cons p q ps qs h t ih=>
  rw[iZ,iZ];refine .cons ?_ ih;obtain⟨h1,h2,h3⟩:=h;unfold putAt;by_cases e:p.1=k
  ·rw[if_pos e,if_pos (h1.symm.trans e)];exact⟨h1,h2,ry⟩
  ·rw[if_neg e,if_neg (λz=>e (h1.trans z))];exact⟨h1,h2,h3⟩
theorem KT.put{H:Hp}{ag:List 'i'}{xs:List (List Key×Addr×Value)}(r:KT H ag xs)(k:List Key){b:Addr}{y:V}{u:Value}(hb:H b=some (.tup (k.map kV)))(ry:RelV y u):
  KT H (putK ag k y) (storedH xs k b u):=by
 have e:(ag.any λkv=>decide (kv.1=k))=(atKey xs k).isSome:=by
  rw[eE,(r.val k).fh,Tv]
 unfold putK storedH;rw[e];by_cases q:(atKey xs k).isSome=true
 ·rw[if_pos q,if_pos q];exact r.O3 k ry
 ·rw[if_neg q,if_neg q];exact Paired.snoc r ⟨rfl,hb,ry⟩
theorem KT.keeps(r:KT H ag xs)(ht:∀b ys,H b=some (.tup ys)->H' b=some (.tup ys)):KT H' ag xs:=
 Paired.Q2 r λ_ _ z=>⟨z.1,ht _ _ z.2.1,z.2.2⟩
section
variable{P:Program}{w:World}{H:Hp}{h:Heap}{a:Addr}
theorem Nt(ok:gT P w H h)(e:Rd H a u):cg P w H h a u:=e.ok ok
theorem kC(ok:gT P w H h)(e:Rd H a (.dK ag)):ag.length<=sizeLine/\(a == sysModules)=false/\∃vs,KV ag vs/\h.DictOf (aX P w) a vs:=
 Nt ok e
theorem nU(ok:gT P w H h)(e:H a=some (.dK ag)):ag.length<=sizeLine/\(a == sysModules)=false/\∃vs,KV ag vs/\h.DictOf (aX P w) a vs:=kC ok (.inl e)
theorem eT(ok:gT P w H h)(e:H a=some (.tup (ks.map kV))):(tupleKind (aX P w)).is h ks a:=by
 obtain⟨_,its,r,o,h1,h2,n,h3⟩:=(ok a _ e)
 exact⟨o,its.toArray,n,h1,h2,h3,by simpa using nZ r⟩
theorem kj(ok:gT P w H h)(e:Rd H a (.dT ag)):ag.length<=sizeLine/\(a == sysModules)=false/\
  ∃xs,KT H ag xs/\h.DictOfH (tupleKind (aX P w)) a xs:=by
 obtain⟨z,y,xs,r,o,es,ep,h1,h2,h3,h4,h5⟩:=(Nt ok e)
 refine⟨z,y,xs,r,o,es,ep,h1,h2,h3,h4,λx hx=>?_,h5⟩;have all:∀{l:List 'i'}{m:List (List Key×Addr×Value)},KT H l m->∀x∈m,(tupleKind (aX P w)).is h x.1 x.2.1:=by
  intro l m q
  induction q with
  |nil=>intro x hx;exact nomatch hx
  |@cons p q ps qs hq t ih=>
   intro x hx;rcases iu.mp hx with e|hx
   ·subst e;exact eT ok (hq.1▸hq.2.1)
   ·exact ih x hx
 exact all r x hx
theorem xq(ok:gT P w H h)(e:H a=some (.dT ag)):ag.length<=sizeLine/\(a == sysModules)=false/\
  ∃xs,KT H ag xs/\h.DictOfH (tupleKind (aX P w)) a xs:=kj ok (.inl e)
end
def bR(H:Hp)(a:Addr)(y:V)(r:Option V):Prop:=
 (∃ag k,Rd H a (.dK ag)/\y=kV k/\r=br ag k)\/∃ag k b,Rd H a (.dT ag)/\y=.ref b/\H b=some (.tup (k.map kV))/\r=br ag k
def iF(H:Hp)(a:Addr)(y v:V)(H':Hp):Prop:=
 (∃ag k,H a=some (.dK ag)/\y=kV k/\ag.length<sizeLine/\H'=upd H a (.dK (putK ag k v))) \/
 ∃ag k b,H a=some (.dT ag)/\y=.ref b/\H b=some (.tup (k.map kV))/\ag.length<sizeLine/\H'=upd H a (.dT (putK ag k v))
theorem bR.k{H:Hp}{a:Addr}{ag:List (Key×V)}{k:Key}(e:H a=some (.dK ag)):bR H a (kV k) (br ag k):=.inl ⟨ag,k,.inl e,rfl,rfl⟩
theorem bR.t{H:Hp}{a b:Addr}{ag:List 'i'}{k:List Key}(e:H a=some (.dT ag))(eb:H b=some (.tup (k.map kV))):bR H a (.ref b) (br ag k):=.inr ⟨ag,k,b,.inl e,rfl,eb,rfl⟩
theorem iF.k{H:Hp}{a:Addr}{ag:List (Key×V)}{k:Key}{v:V}(e:H a=some (.dK ag))(hl:ag.length<sizeLine):iF H a (kV k) v (upd H a (.dK (putK ag k v))):=.inl ⟨ag,k,e,rfl,hl,rfl⟩
theorem iF.t{H:Hp}{a b:Addr}{ag:List 'i'}{k:List Key}{v:V}(e:H a=some (.dT ag))(eb:H b=some (.tup (k.map kV)))(hl:ag.length<sizeLine):
  iF H a (.ref b) v (upd H a (.dT (putK ag k v))):=.inr ⟨ag,k,b,e,rfl,eb,hl,rfl⟩
section
variable{X:Cx}{pins:Lo}{σ:St}{H:Hp}{s:Shared}{a:Addr}{y v:V}{u r:Value}{o:Option V}{A:Around}{E:Vs}
theorem Inv.big(I:Inv X pins σ H s):sysModules<s.heap.objs.size:=by
 have h:=(I.mod.glob.keeps I.bk).lt;exact Nat.lt_trans (by decide) h
theorem Cz{Q:Vs}(hu:A.units+1<cLine)(I:Inv X pins σ H s)(g:bR H a y (some v))(ry:RelV y u)(h:∀w' s',Inv X pins σ H s'->RelV v w'->Q w' s'):
  wpAny 'b' A (getItem (.ref a) u) Q E s:=by
 rcases g with ⟨ag,k,e,ey,l⟩|⟨ag,k,b,e,ey,eb,l⟩
 ·subst ey;obtain⟨z,hd,vs,rel,dd⟩:=kC I.a6 e;obtain⟨w',hw,rw'⟩:=fV.some_of (l▸rel.val k);exact wpAny_getItem_of (jy ry) dd.mapOf hw (h w' _ (I.tok _) rw')
 ·subst ey;cases ry;obtain⟨z,hd,xs,rel,dd⟩:=kj I.a6 e;obtain⟨w',hw,rw'⟩:=fV.some_of (l▸rel.val k);obtain⟨p,hp,hp2⟩:=eZ.mp hw;exact wpAny_getItem_heap (tupleKind_room_in1 hu) (eT I.a6 eb) dd hp (hp2▸h w' _ (I.tok _) rw')
theorem Yy{Q:Vs}(hu:A.units+1<cLine)(I:Inv X pins σ H s)(g:bR H a y o)(ry:RelV y u)(h:∀s',Inv X pins σ H s'->Q (.bool o.isSome) s'):
  wpAny 'b' A (compareOp .In u (.ref a)) Q E s:=by
 rcases g with ⟨ag,k,e,ey,l⟩|⟨ag,k,b,e,ey,eb,l⟩
 ·subst ey;obtain⟨z,hd,vs,rel,dd⟩:=kC I.a6 e;exact wpAny_in_of (jy ry) hd dd.mapOf (((rel.val k).fh)▸l▸h _ (I.tok _))
 ·subst ey;cases ry;obtain⟨z,hd,xs,rel,dd⟩:=kj I.a6 e;refine wpAny_in_heap (tupleKind_room_in1 hu) (eT I.a6 eb) hd dd ?_;have q:=(rel.val k).fh;rw[Tv]at q;exact q▸l▸h _ (I.tok _)
theorem KL{Q:Vs}(hu:A.units+1<cLine)(I:Inv X pins σ H s)(g:bR H a y o)(ry:RelV y u)(h:∀s',Inv X pins σ H s'->Q (.bool (!o.isSome)) s'):
  wpAny 'b' A (compareOp .NotIn u (.ref a)) Q E s:=by
 rcases g with ⟨ag,k,e,ey,l⟩|⟨ag,k,b,e,ey,eb,l⟩
 ·subst ey;obtain⟨z,hd,vs,rel,dd⟩:=kC I.a6 e;refine wpAny_notIn_of (jy ry) hd dd.mapOf ?_;rw[<-(rel.val k).fh,<-l];exact h _ (I.tok _)
 ·subst ey;cases (show u=Value.ref b from ry);obtain⟨z,hd,xs,rel,dd⟩:=kj I.a6 e;refine wpAny_notIn_heap (tupleKind_room_in1 hu) (eT I.a6 eb) hd dd ?_;have q:=(rel.val k).fh;rw[Tv]at q;rw[<-q,<-l];exact h _ (I.tok _)
theorem gY(I:Inv X pins σ H s)(mu:U5 (H a))(hs:Heap.SameBut a s.heap h')(he:∃q,h'.get? a=some q)(new:cg X.prog X.w (upd H a ob) h' a ob):
  Inv X pins σ (upd H a ob) { s with heap:=h',toks:=t' }:=
 I.write mu (.inl rfl) (λb q hb z=>(hs.2 b hb).trans z) he new
theorem oU(z:ag.length<=sizeLine)(hd:(a == sysModules)=false)(rel:KV ag vs)(dd:h'.DictOf (aX P w) a vs):
  cg P w H' h' a (.dK ag):=⟨z,hd,vs,rel,dd⟩
theorem Cm(hu:A.units+1<cLine)(I:Inv X pins σ H s)(g:iF H a y v H')(ry:RelV y u)(rv:RelV v r)(h:∀s',Inv X pins σ H' s'->Q () s'):
  wpAny 'b' A (setItem (.ref a) u r) Q E s:=by
 rcases g with ⟨ag,k,e,ey,l,eH⟩|⟨ag,k,b,e,ey,eb,l,eH⟩
 ·subst ey eH;obtain⟨z,hd,vs,rel,dd⟩:=nU I.a6 e;have hz:vs.length<=sizeLine:=rel.length▸z;have hl:(putK ag k v).length<=sizeLine:=by have:=cX ag k v;lia
  refine wpAny_setItem_pairs (jy ry) dd λh' dd' hs=>h _ ?_;have he:∃q,h'.get? a=some q:=let ⟨q,_,_,hq,_⟩:=dd';⟨q,hq⟩
  exact gY I (e▸True.intro) hs he (oU hl hd (rel.put k rv) dd')
 ·subst ey eH;cases ry;obtain⟨z,hd,xs,rel,dd⟩:=xq I.a6 e;have hz:xs.length<=sizeLine:=(Paired.length rel)▸z;have hl:(putK ag k v).length<=sizeLine:=by have:=cX ag k v;lia
  refine wpAny_setItem_heap (tupleKind_room_in1 hu) (eT I.a6 eb) dd λh' dd' hs=>h _ ?_;obtain⟨q,es,ep,hq,h2,h3,h4,_,h5⟩:=dd';exact gY I (e▸True.intro) hs ⟨q,hq⟩ ⟨hl,hd,_,(rel.put k eb rv).keeps λc ys ec=>((ae (cj ec e (λz=>nomatch z)))▸ec),q,es,ep,hq,h2,h3,h4,h5⟩
end
def Ui(i:Expr):Prop:=∀ov iv,subscripted i false ov iv=operate [ov,iv] (getItem ov iv)
theorem Ll{prog:Program}{w:World}{A:Around}{E:Vs}{s:Shared}{env:Env}{value slice:Expr}{pos:Pos}{T id:String}{Q:Vs}
  (hl:typeLookup (.type T) "__getitem__" = pure (some (.builtin id))) (hs:Ui slice)
  (h:wpAny 'c' A (eval value env) (λo s₁=>wpAny 'c' A (eval slice env) (λi s₂=>s₂.TypeIs o T/\wpAny 'c' A (getItem o i) Q E s₂) E s₁) E s):
  wpAny 'c' A (eval (.Subscript value slice pos) env) Q E s:=by
 refine Subscript_ (m8 h (λo s₁ h₁=>m8 h₁ (λi s₂ h₂=>?_) λ_ _ x=>x) λ_ _ x=>x);obtain⟨hT,h₂⟩:=h₂;refine aE (aE (wpAny_specialOf hT hl ?_));have fin:wpAny 'c' A (subscripted slice false o i) (λr s₃=>wpAny 'c' A (letTemporaryGo value o r >>= λ_=>pure r) Q E s₃) E s₂:=by
  exact(hs o i)▸wpAny_operating (m8 h₂ (λr s₃ h₃=>aE (wpAny_letTemporaryGo (bh h₃))) λ_ _ x=>x)
 first
  |exact bh (aE fin)
  |exact aE (bh (aE fin))
  |exact aE fin
theorem wK{X:Cx}{pins:Lo}{σ:St}{H:Hp}{s:Shared}{a:Addr}{y:V}{o:Option V}(I:Inv X pins σ H s)(g:bR H a y o):s.TypeIs (.ref a) "dict" := by
 rcases g with ⟨ag,k,e,_,_⟩|⟨ag,k,b,e,_,_,_⟩
 ·obtain⟨_,_,vs,_,dd⟩:=kC I.a6 e;exact dd.typeIs
 ·obtain⟨_,_,xs,_,dd⟩:=kj I.a6 e;exact dd.typeIs
def MH(td ty:TE):TE:=λσ H Q=>td σ H λx H1=>ty σ H1 λy H2=>∃a v,x=.ref a/\bR H2 a y (some v)/\Q v H2
def Yn(ty td:TE):TE:=λσ H Q=>ty σ H λy H1=>td σ H1 λx H2=>∃a o,x=.ref a/\bR H2 a y o/\Q (.bl o.isSome) H2
def K8(ty td:TE):TE:=λσ H Q=>ty σ H λy H1=>td σ H1 λx H2=>∃a o,x=.ref a/\bR H2 a y o/\Q (.bl (!o.isSome)) H2
def TK(td ty tv:TE):TS:=λD σ H=>tv σ H λv H1=>td σ H1 λx H2=>ty σ H2 λy H3=>∃a H4,x=.ref a/\iF H3 a y v H4/\D.nx σ H4
section
variable{X:Cx}{o i e value:Expr}{pos pos' tpos:Pos}{td ty tv:TE}
theorem dj(hu:X.A.units+1<cLine)(ho:PE X o td)(hi:PE X i ty)(hs:Ui i):PE X (.Subscript o i pos) (MH td ty):=by
 intro pins s σ H Q I h;refine Ll PySem.F.slot_dict_getitem.lookup hs (bG (ho pins s σ H _ I h) λu s1 ⟨x,H1,I1,rx,q1⟩=>bG (hi pins s1 σ H1 _ I1 q1) λiv s2 ⟨y,H2,I2,ry,a,v,ex,g,q2⟩=>?_);subst ex;obtain rfl:u=Value.ref a:=rx;exact⟨wK I2 g,Cz hu I2 g ry λw' s3 I3 rw'=>⟨v,H2,I3,rw',q2⟩⟩
theorem zL(hu:X.A.units+1<cLine)(hi:PE X i ty)(ho:PE X o td):PC X .In i o (Yn ty td):=by
 intro pins s σ H Q I h;refine bG (hi pins s σ H _ I h) λiv s1 ⟨y,H1,I1,ry,q1⟩=>bG (ho pins s1 σ H1 _ I1 q1) λu s2 ⟨x,H2,I2,rx,a,ov,ex,g,q2⟩=>?_;subst ex;obtain rfl:u=Value.ref a:=rx;exact Yy hu I2 g ry λs3 I3=>⟨.bl ov.isSome,H2,I3,rfl,q2⟩
theorem g0(hu:X.A.units+1<cLine)(hi:PE X i ty)(ho:PE X o td):PC X .NotIn i o (K8 ty td):=by
 intro pins s σ H Q I h;refine bG (hi pins s σ H _ I h) λiv s1 ⟨y,H1,I1,ry,q1⟩=>bG (ho pins s1 σ H1 _ I1 q1) λu s2 ⟨x,H2,I2,rx,a,ov,ex,g,q2⟩=>?_;subst ex;obtain rfl:u=Value.ref a:=rx;exact KL hu I2 g ry λs3 I3=>⟨.bl (!ov.isSome),H2,I3,rfl,q2⟩
theorem gR(hu:X.A.units+1<cLine)(ho:PE X o td)(hi:PE X i ty)(hv:PE X value tv)(hs:swapsWith value (some (.Subscript o i pos')) pos.line X.env=pure false):
  PS X (.Assign [.Subscript o i pos'] value pos) (TK td ty tv):=by
 intro pins s σ H D I h;refine wpAny_Assign_Subscript (bG (hv pins s σ H _ I h) λr s1 ⟨v,H1,I1,rv,q1⟩=>bG (ho pins s1 σ H1 _ I1 q1) λu s2 ⟨x,H2,I2,rx,q2⟩=>bG (hi pins s2 σ H2 _ I2 q2) λiv s3 ⟨y,H3,I3,ry,a,H4,ex,g,q3⟩=>?_) hs;subst ex;obtain rfl:u=Value.ref a:=rx;exact Cm hu I3 g ry rv λs4 I4=>⟨σ,H4,I4,q3⟩
end
theorem GQ(h:Heap)(hb:sysModules<h.objs.size):cg P w H (h.push { cls:=.type "dict", data:=.dict #[] }) h.objs.size (.dK []):=
 ⟨d_ _,beq_eq_false_iff_ne.mpr (Ne.symm (d0 hb)),[],.nil,Heap.DictOf.new h⟩
theorem Gh(h:Heap)(hb:sysModules<h.objs.size):cg P w H (h.push { cls:=.type "dict", data:=.dict #[] }) h.objs.size (.dT []):=
 ⟨d_ _,beq_eq_false_iff_ne.mpr (Ne.symm (d0 hb)),[],.nil,_,#[],0,hV _ rfl,⟨rfl,rfl,rfl⟩,rfl,rfl,List.nodup_nil⟩
def OK:TE:=λ_ H Q=>∀p,H p=none->Q (.ref p) (upd H p (.dK []))
def WJ:TE:=λ_ H Q=>∀p,H p=none->Q (.ref p) (upd H p (.dT []))
section
variable{X:Cx}{pos:Pos}
theorem dq:PE X (.Dict [] [] pos) OK:=λpins s σ H Q I h=>
 wpAny_Dict_empty ⟨.ref s.heap.objs.size,_,I.laid (λ_ _ q=>cS _ q) (bS _) (GQ s.heap I.big),rfl,h _ (I.a6.fresh (bS _))⟩
end
def cn(ag more:List (Key×V)):List (Key×V):=more.foldl (λacc kv=>putK acc kv.1 kv.2) ag
theorem KV.merge:∀{more:List (Key×V)}{rs:List (Key×Value)}{ag:List (Key×V)}{vs:List (Key×Value)},KV more rs->KV ag vs->KV (cn ag more) (merged vs rs):=by
 intro more rs ag vs r
 induction r generalizing ag vs with
 |nil=>intro q;exact q
 |@cons p q ps qs h t ih=>
  intro r0;have e:KV (putK ag p.1 p.2) (stored vs q.1 q.2):=by
   have:=r0.put p.1 h.2;rw[<-h.1];exact this
  exact ih e
theorem ie:∀(more ag:List (Key×V)),(cn ag more).length<=ag.length+more.length
 |[],ag=>by show ag.length<=ag.length+0;lia
 |p::r,ag=>by
  have h1:=ie r (putK ag p.1 p.2);have h2:=cX ag p.1 p.2;show(cn (putK ag p.1 p.2) r).length<=_;rw[md];lia
structure M1(X:Cx)(o:Expr)(m:Str)(apos:Pos)(e:Expr)(cpos:Pos):Prop where
 base:attributeBase o m X.env (eval o X.env)=eval o X.env
 bQ:((backTo cpos (starEach [e] X.env)).all (λx=>!x.1)&&(backToKw cpos (keywordEach [] X.env)).all (λx=>x.1.isSome)
  && decide (([e]:List Expr).length+([]:List Keyword).length+(if ([]:List Keyword).isEmpty then 0 else 1)<30))=true
 line:(apos.endLine == cpos.line)=true
 trees:backTo cpos (starEach [e] X.env)=[(false,eval e X.env)]
structure M2(X:Cx)(o:Expr)(m:Str)(apos:Pos)(e f:Expr)(cpos:Pos):Prop where
 base:attributeBase o m X.env (eval o X.env)=eval o X.env
 bQ:((backTo cpos (starEach [e,f] X.env)).all (λx=>!x.1)&&(backToKw cpos (keywordEach [] X.env)).all (λx=>x.1.isSome)
  && decide (([e,f]:List Expr).length+([]:List Keyword).length+(if ([]:List Keyword).isEmpty then 0 else 1)<30))=true
 line:(apos.endLine == cpos.line)=true
 trees:backTo cpos (starEach [e,f] X.env)=[(false,eval e X.env),(false,eval f X.env)]
def Wc(H:Hp)(a:Addr):Prop:=(∃ag,Rd H a (.dK ag))\/∃ag,Rd H a (.dT ag)
theorem zl{X:Cx}{pins:Lo}{σ:St}{H:Hp}{s:Shared}{a:Addr}(I:Inv X pins σ H s)(d:Wc H a):
  s.TypeIs (.ref a) "dict" /\ (∀b,Value.ref a=.ref b->∃ob,s.heap.get? b=some ob/\ob.dict=none)/\(a == sysModules)=false:=by
 rcases d with ⟨ag,e⟩|⟨ag,e⟩
 ·obtain⟨_,hd,vs,_,dd⟩:=kC I.a6 e;refine⟨dd.typeIs,λb q=>?_,hd⟩;cases q;obtain⟨ob,_,_,h1,h2,_⟩:=dd;exact⟨ob,h1,h2.2.1⟩
 ·obtain⟨_,hd,xs,_,dd⟩:=kj I.a6 e;refine⟨dd.typeIs,λb q=>?_,hd⟩;cases q;obtain⟨ob,_,_,h1,h2,_⟩:=dd;exact⟨ob,h1,h2.2.1⟩
section
variable{X:Cx}{pins:Lo}{σ:St}{H:Hp}{s:Shared}{a:Addr}{y d:V}{u r:Value}{o:Option V}{A:Around}{E:Vs}
theorem Qk{Q:Vs}(hu:A.units+1<cLine)(I:Inv X pins σ H s)(g:bR H a y o)(ry:RelV y u)(h:∀w' s',Inv X pins σ H s'->RelV (o.getD .bB) w'->Q w' s'):
  wpAny 'b' A (call (.builtin "dict.get") [.ref a,u]) Q E s:=by
 rcases g with ⟨ag,k,e,ey,l⟩|⟨ag,k,b,e,ey,eb,l⟩
 ·subst ey;obtain⟨z,hd,vs,rel,dd⟩:=kC I.a6 e;refine call_meetsIn PySem.F.slot_dict_get dd.typeIs PySem.F.entry_dict_get (PySem.F.args_dict_get_2 _ _) (meets_dict_get (aX X.prog X.w) a (jy ry) hd) ⟨_,dd.mapOf,h _ _ (I.tok _) ?_⟩;rw[l];exact(rel.val k).getD rfl
 ·subst ey;cases (show u=Value.ref b from ry);obtain⟨z,hd,xs,rel,dd⟩:=kj I.a6 e;refine call_meetsIn PySem.F.slot_dict_get dd.typeIs PySem.F.entry_dict_get (PySem.F.args_dict_get_2 _ _) (meetsH_dict_get (tupleKind (aX X.prog X.w)) a b hd) ⟨tupleKind_room_in1 hu,k,xs,eT I.a6 eb,dd,h _ _ (I.tok _) ?_⟩;rw[l];exact(rel.val k).getD rfl
theorem Q6{Q:Vs}(hu:A.units+1<cLine)(I:Inv X pins σ H s)(g:bR H a y o)(ry:RelV y u)(rd:RelV d r)(h:∀w' s',Inv X pins σ H s'->RelV (o.getD d) w'->Q w' s'):
  wpAny 'b' A (call (.builtin "dict.get") [.ref a,u,r]) Q E s:=by
 rcases g with ⟨ag,k,e,ey,l⟩|⟨ag,k,b,e,ey,eb,l⟩
 ·subst ey;obtain⟨z,hd,vs,rel,dd⟩:=kC I.a6 e;refine call_meetsIn PySem.F.slot_dict_get dd.typeIs PySem.F.entry_dict_get (PySem.F.args_dict_get_3 _ _ _) (meets_dict_get_default (aX X.prog X.w) a (jy ry) hd r) ⟨_,dd.mapOf,h _ _ (I.tok _) ?_⟩;rw[l];exact(rel.val k).getD rd
 ·subst ey;cases (show u=Value.ref b from ry);obtain⟨z,hd,xs,rel,dd⟩:=kj I.a6 e;refine call_meetsIn PySem.F.slot_dict_get dd.typeIs PySem.F.entry_dict_get (PySem.F.args_dict_get_3 _ _ _) (meetsH_dict_get_default (tupleKind (aX X.prog X.w)) a b hd r) ⟨tupleKind_room_in1 hu,k,xs,eT I.a6 eb,dd,h _ _ (I.tok _) ?_⟩;rw[l];exact(rel.val k).getD rd
end
def Qw(td ty:TE):TE:=λσ H Q=>td σ H λx H1=>∃a,x=.ref a/\Wc H1 a/\ty σ H1 λy H2=>∃o,bR H2 a y o/\Q (o.getD .bB) H2
def Qb(td ty tx:TE):TE:=λσ H Q=>td σ H λx H1=>∃a,x=.ref a/\Wc H1 a/\ty σ H1 λy H2=>tx σ H2 λz H3=>∃o,bR H3 a y o/\Q (o.getD z) H3
section
variable{X:Cx}{o e f:Expr}{apos cpos:Pos}{td ty tx:TE}
theorem Gj(hu:X.A.units+1<cLine)(ho:PE X o td)(he:PE X e ty)(m:M1 X o "get" apos e cpos):PE X (.Call (.Attribute o "get" apos) [e] [] cpos) (Qw td ty):=by
 intro pins s σ H Q I h;refine wpAny_Call_method m.base m.bQ m.line PySem.F.plainAttrs_dict PySem.F.slot_dict_get PySem.F.type_dict_get (bG (ho pins s σ H _ I h) λu s1 ⟨x,H1,I1,rx,a,ex,d,q1⟩=>?_);subst ex;obtain rfl:u=Value.ref a:=rx;obtain⟨t1,t2,_⟩:=zl I1 d;refine⟨t1,t2,?_⟩;rw[m.trees];refine Calls.callWith_builtin rfl (Calls.evalArgs_plain (Calls.spliced_cons (bG (he pins s1 σ H1 _ I1 q1) λiv s2 ⟨y,H2,I2,ry,ov,g,q2⟩=>Calls.spliced_nil ?_)));exact Qk hu I2 g ry λw' s3 I3 rw'=>⟨_,H2,I3,rw',q2⟩
theorem Dv(hu:X.A.units+1<cLine)(ho:PE X o td)(he:PE X e ty)(hf:PE X f tx)(m:M2 X o "get" apos e f cpos):PE X (.Call (.Attribute o "get" apos) [e,f] [] cpos) (Qb td ty tx):=by
 intro pins s σ H Q I h;refine wpAny_Call_method m.base m.bQ m.line PySem.F.plainAttrs_dict PySem.F.slot_dict_get PySem.F.type_dict_get (bG (ho pins s σ H _ I h) λu s1 ⟨x,H1,I1,rx,a,ex,d,q1⟩=>?_);subst ex;obtain rfl:u=Value.ref a:=rx;obtain⟨t1,t2,_⟩:=zl I1 d;refine⟨t1,t2,?_⟩;rw[m.trees];refine Calls.callWith_builtin rfl (Calls.evalArgs_plain (Calls.spliced_cons (bG (he pins s1 σ H1 _ I1 q1) λiv s2 ⟨y,H2,I2,ry,q2⟩=>
  Calls.spliced_cons (bG (hf pins s2 σ H2 _ I2 q2) λfv s3 ⟨z,H3,I3,rz,ov,g,q3⟩=>Calls.spliced_nil ?_))))
 exact Q6 hu I3 g ry rz λw' s4 I4 rw'=>⟨_,H3,I4,rw',q3⟩
end
end L2
namespace Att
open PySem PySem.W PySem.Calls PyProof.Rows
theorem ints_of_wellAll:∀(ns:List Int) (vs:List Value),WellAll P h vs (ns.map WData.int)->IntsAre vs ns:=by
 intro ns
 induction ns with
 |nil=>
  intro vs w;cases w;exact .nil
 |cons n ns ih=>
  intro vs w;cases w with
  |cons a b=>
   cases a;exact .cons _ _ (ih _ b)
theorem script_of{l:OpenLaw}{n:Nat}(hn:l.most=some n){P:Params}{h:Heap}{args:List WData}{vals:List Value}
  (hpre:l.row.toRowW.claim.pre args=true) (hwl:WellAll P h vals args):
  ∃a vs ns,vals=[Value.ref a]/\args=[WData.list (ns.map WData.int)]/\h.get? a=some { cls:=.type "list", data:=.seq vs.toArray }/\IntsAre vs ns/\ns.length<=n:=by
 have hsh:WShape.hasAll [] args [.list .int]=true:=(pre_splitW hpre).1;have hc:l.pre.holds [] { args:=args }=true:=(pre_splitW hpre).2;obtain⟨d,r,rfl,h1,h2⟩:=hasAllW_cons hsh;obtain rfl:=hasAllW_nil h2;obtain⟨xs,rfl,h3⟩:=hasW_list h1;obtain⟨ns,rfl⟩:=items_int h3;have hlen:=by
  have h4:=by
   have h4:=(holds_andW hc).1;rw[hn]at h4;exact h4
  have h5:=condW_of h4 (w_not (w_lt w_lit (w_len_list (w_arg rfl))))
  first
   | (rw[decide_eq_true q']at h5;exact absurd h5 (by decide))
   | (simp at h5;omega)
 cases hwl with
 |cons w1 w2=>
  cases w2;cases w1 with
  |list ho hall=>exact⟨_,_,ns,rfl,rfl,ho,ints_of_wellAll ns _ hall,hlen⟩
theorem post_true(l:OpenLaw)(args:List WData):l.row.toRowW.claim.post args (.bool true) args=true:=
 postW_of
  (show WShape.has [] (.bool true) .bool=true by first|rfl|decide|simp)
  (w_eq_bool (w_res rfl) w_lit) rfl
theorem attach_call{l:OpenLaw}{n:Nat}{q:Program}{loose:List Str}{XP:(Str->Option Value)->Heap->Prop}{YP:World->Heap->Prop}{d:DefRec}
  (hn:l.most=some n) (hdf:d.params.defaults=[])
  (call:∀(w:World) (s₀ s₁:Shared) (mg mb:So) (fa:Addr) (o:Obj) (pm cd doc:Value) (a:Addr) (vs:List Value) (ns:List Int),
   Ground q loose [] XP w s₀ mg mb s₁.heap->YP w s₁.heap->
   s₁.heap.get? fa=some o->o.data=.func (docDef d.name d.params d.body d.scope pm cd doc)->s₁.heap.CodeRec cd d.name->mg d.name=some (.ref fa)->
   s₁.heap.get? a=some { cls:=.type "list", data:=.seq vs.toArray }->IntsAre vs ns->ns.length<=n->s₁.gens=#[]->
   codeAny (model l.prog w) callerA (.call (.ref fa) ⟨[.ref a],[]⟩) (λr s'=>r=.ok (.ret (.bool true))/\OldK s₁.heap s'.heap/\s'.os=s₁.os/\AllBare s'.gens) s₁):
  WalkO q loose XP YP l.row.toRowW d [] (λf vs=>PySem.call f vs):=by
 intro w s₀ s₁ mg mb G Y fa o pm cd doc dV kV ho hd hcd hD hmg hg args vals as hpre hlay hrd hwl hlo;obtain rfl:dV=.none:=Dflts.none hD hdf;obtain rfl:kV=.none:=Dflts.noKw hD;obtain⟨a,vs,ns,rfl,rfl,hobj,hints,hlen⟩:=script_of hn hpre hwl;refine enter_call (codeAny_mono (call w s₀ s₁ mg mb fa o pm cd doc a vs ns G Y ho (fd_plain hd) hcd hmg hobj hints hlen hg) λr s' hq=>?_);obtain⟨rfl,h2,h3,h4⟩:=hq;exact⟨.inl ⟨.bool true,.bool true,[],rfl,λ_=>rfl,.bool true,post_true l _,λ_=>⟨List.Pairwise.nil,λ_ hm=>(nomatch hm)⟩⟩,h2,h3,h4⟩
section
variable{prog:Program}{w:World}{A:Around}{E:Vs}{s:Shared}{K:Frag}
def ledger(h:Heap)(L d:Addr):Lo:=(List.range h.objs.size).filterMap λa=>if a=L\/a=d then none else (h.get? a).map λo=>(a,o)
end
end Att
namespace L2
open PySem PySem.Spec PyProof.Rows
theorem oq:∀{vs:List Value}{ns:List Int},IntsAre vs ns->Vals 'u' vs
 |_,_,.nil=>.nil
 |_,_,.cons n t h=>.cons ⟨t,rfl⟩ (oq h)
def inClass(s:Stmt)(j:Nat):Stmt:=match s with
 |.ClassDef _ _ _ body _ _ _ _ _ _ _=>body.getD j (.Pass ⟨0,0,0,0⟩)
 |_=>.Pass ⟨0,0,0,0⟩
def d3(s:Stmt):Arguments:=match s with
 |.FunctionDef _ a _ _ _ _ _ _ _ _=>a
 |_=>{ posonlyargs:=[],args:=[],vararg:=none,kwonlyargs:=[],kw_defaults:=[],kwarg:=none,defaults:=[] }
def de(s:Stmt):List Stmt:=match s with
 |.FunctionDef _ _ b _ _ _ _ _ _ _=>b
 |_=>[]
def aj(s:Stmt):Scope:=match s with
 |.FunctionDef _ _ _ _ _ _ sc _ _ _=>sc
 |_=>{ kind:=.function,names:=[],isGenerator:=false,isCoroutine:=false }
abbrev cF:CY:=λ_ _ _ _ _ _=>False
abbrev E0:XK:=λ_ _ _=>False
theorem aq:Passes cF X E0:=λ_ _ _ _ _ _ _ h=>h.elim
structure Ng(K:Wf)(x qual:Str)(st:Stmt)(f:Addr)(fd:FuncData):Prop where
 ex:∃(oc:Value) (od:Option Addr) (kV doc pm:Value) (an:Option Addr) (cdv ct:Value) (osl:Array (Option Value)),
  fd=fnOf x qual (d3 st) (de st) (aj st) .none kV doc pm an cdv ct/\K.lookup f=some ⟨oc,od,.func fd,osl⟩/\codeIn K cdv qual=true
 kp:keepIn K (.ref f)=true
section
variable{P:Program}{w:World}{K:Wf}{mg:So}{base:Heap}
theorem Ng.ok{x qual:Str}{st:Stmt}{f:Addr}{fd:FuncData}{N ps:List Str}{k:Nat}{sp:Sp}(F:Ng K x qual st f fd)(S:ar N ps (aj st))(len:∀vs H Q E,sp vs H Q E->vs.length=ps.length)
  (hbody:∀(cdv:Value) (A:Around) (outer:List Env) (s:Shared) (H:Hp) (vs:List V) (Q:VK) (E:XK),cQ k (A.deeper (envOfC qual (aj st) s.heap.objs.size f cdv))->sp vs H Q E->
   ∃t,yi (lq cF P w K mg base N qual (aj st) f cdv A outer s H E).RE (de st) t/\t { nx:=λ_ H'=>Q .bB H',rt:=Q } (start N vs) H):aY P w K mg base cF (k+1) f fd ps sp:=by
 obtain⟨oc,od,kV,doc,pm,an,cdv,ct,osl,rfl,lk,hcd⟩:=F.ex;refine Nf lk hcd S len λA outer s H vs Q E hr hsp=>?_;obtain⟨t,h,q⟩:=hbody cdv A outer s H vs Q E hr hsp;exact⟨t,h.RE,q⟩
theorem Ng.binds{x qual:Str}{st:Stmt}{f:Addr}{fd:FuncData}{ps:List Str}(F:Ng K x qual st f fd)
  (h:∀(kV doc pm:Value) (an:Option Addr) (cdv ct:Value) (us:List Value),us.length=ps.length->bindArgs (fnOf x qual (d3 st) (de st) (aj st) .none kV doc pm an cdv ct) ⟨us,[]⟩=pure (ps.zip us)):Binds K fd ps []:=by
 obtain⟨oc,od,kV,doc,pm,an,cdv,ct,osl,rfl,lk,hcd⟩:=F.ex;exact .all (h kV doc pm an cdv ct)
theorem IH{x qual:Str}{st:Stmt}{f:Addr}{oc:Value}{od an:Option Addr}{osl:Array (Option Value)}{kV doc pm cdv ct:Value}(l:K.lookup f=some ⟨oc,od,.func (fnOf x qual (d3 st) (de st) (aj st) .none kV doc pm an cdv ct),osl⟩)
  (c:codeIn K cdv qual=true) (k:keepIn K (.ref f)=true):Ng K x qual st f (fnOf x qual (d3 st) (de st) (aj st) .none kV doc pm an cdv ct):=⟨⟨oc,od,kV,doc,pm,an,cdv,ct,osl,rfl,l,c⟩,k⟩
end
theorem bN(hr:cQ k A):A.units+1<cLine:=Nat.lt_of_le_of_lt (Nat.add_le_add_left (by decide:1<=64) _) hr.units
section
variable{X:Cx}
def visB(sc:Scope)(x:Str):Bool:=match sc.names.lookup x with
 |some .local=>true
 |some .cell=>true
 |some .free=>true
 |_=>false
def varB(N:List Str)(sc:Scope)(i:Nat)(x:Str):Bool:=match N[i]? with
 |some y=>decide (y=x)&&(visB sc x&&(!(x == ("__debug__" : Str)) && !(x == ("__classdict__" : Str))))
 |none=>false
theorem pv(i:Nat){x:Str}{pos:Pos}(h:varB X.N X.env.scope i x=true:=by kernel_rfl):PE X (.Name x pos) (tH i):=by
 unfold varB at h;split at h
 ·rename_i y hy;rw[lx,lx,lx]at h;obtain⟨h1,h2,h3,h4⟩:=h;refine Ox (hy.trans (congrArg some (of_decide_eq_true h1))) ?_ (by simpa using h3) (by simpa using h4);unfold visB at h2;split at h2
  ·rename_i e;exact .inl e
  ·rename_i e;exact .inr (.inl e)
  ·rename_i e;exact .inr (.inr e)
  ·cases h2
 ·cases h
end
theorem WA{A B:Prop}(h:B):if false=true then A else B:=by simp_all
theorem YE{A B:Prop}(h:A):if true=true then A else B:=by
 exact h
theorem cH{c A B:Prop} [Decidable c](h1:c->A)(h2:¬c->B):if c then A else B:=by simp_all
def aI(H H':Hp):Prop:=∀b o,H b=some o->H' b=some o
theorem aI.trans(a:aI H H1)(b:aI H1 H2):aI H H2:=λc o h=>b c o (a c o h)
theorem aI.free(e:aI H H'){l:Addr}(h:H' l=Option.none):H l=Option.none:=by
 cases q:H l with
 |none=>rfl
 |some o=>
  rw[e l o q]at h;cases h
theorem aI.seq{K:Wf}{H H':Hp}{a:Addr}{xs:List V}(e:aI H H')(h:aH K H a xs):aH K H' a xs:=by
 rcases h with (h|⟨o,h⟩)|h
 ·exact .inl (.inl (e _ _ h))
 ·exact .inl (.inr ⟨o,e _ _ h⟩)
 ·exact .inr h
def k_(env:Env):List (Str×NameKind)->List (Str×Addr)->List (Str×Addr)
 |[],acc=>acc
 | (n,k)::r,acc=>k_ env r (if (k == NameKind.free)=true then (n,(env.cells.lookup n).getD 0)::acc else acc)
theorem AH:∀(ns:List (Str×NameKind)) (acc:List (Str×Addr)),(∀x∈ns,x.2=.free->∃c,env.cells.lookup x.1=some c)->
  (∀x c,acc.lookup x=some c->env.cells.lookup x=some c)->∀x c,(k_ env ns acc).lookup x=some c->env.cells.lookup x=some c
 |[],acc,_,ha=>ha
 | (n,k)::r,acc,hn,ha=>by
  refine AH r _ (λx hx=>hn x (jD _ hx)) ?_;intro x c e;by_cases hk:(k == NameKind.free)=true
  ·rw[if_pos hk]at e;have hk':=by simpa using hk
   obtain⟨c',ec⟩:=hn (n,k) ko hk';rw[List.lookup_cons]at e;cases hx:x == n with
   |true=>
    have:x=n:=by simpa using hx
    subst this;have ec':=ec;rw[ec']at e;simp at e;rw[<-e];exact ec'
   |false=>rw[hx]at e;exact ha x c e
  ·rw[if_neg hk]at e;exact ha x c e
theorem m9:∀(ns:List (Str×NameKind)) (acc:List (Str×Addr)) (x:Str),(∃c,acc.lookup x=some c)->∃c,(k_ env ns acc).lookup x=some c
 |[],acc,x,h=>h
 | (n,k)::r,acc,x,h=>by
  refine m9 r _ x ?_;by_cases hk:(k == NameKind.free)=true
  ·rw[if_pos hk,List.lookup_cons];cases hx:x == n with
   |true=>exact⟨_,rfl⟩
   |false=>exact h
  ·rw[if_neg hk];exact h
theorem k9:∀(ns:List (Str×NameKind)) (acc:List (Str×Addr)) (x:Str),(x,NameKind.free)∈ns->∃c,(k_ env ns acc).lookup x=some c
 |[],acc,x,h=>absurd h (by simp)
 | (n,k)::r,acc,x,h=>by
  rcases iu.mp h with e|e
  ·injection e with e1 e2;subst e1 e2;refine m9 r _ x ⟨(env.cells.lookup x).getD 0,?_⟩;simp
  ·exact k9 r _ x e
theorem ij{scope:Scope}(h:∀x∈scope.names,x.2=.free->∃c,env.cells.lookup x.1=some c):closureFor scope env=pure (k_ env scope.names []):=by
 have key:∀ns acc,(∀x∈ns,x.2=.free->∃c,env.cells.lookup x.1=some c)->
   (do let r <-forIn ns acc (λx r=>if (x.2 == NameKind.free)=true then do let c <-cellOf env x.1;pure (ForInStep.yield ((x.1,c)::r)) else pure (ForInStep.yield r));pure r:Sem (List (Str×Addr)))=pure (k_ env ns acc):=by
  intro ns
  induction ns with
  |nil=>intro acc _;rfl
  |cons y r ih=>
   intro acc hy;obtain⟨n,k⟩:=y;rw[List.forIn_cons];by_cases hk:(k == NameKind.free)=true
   ·have hk':=by simpa using hk
    obtain⟨c,ec⟩:=hy (n,k) ko hk';have ec':=ec;have e1:cellOf env n=pure c:=by unfold cellOf;rw[ec']
    simp only[hk,e1];have:=ih ((n,c)::acc) λx hx=>hy x (jD _ hx);show _=pure (k_ env r (if (k == NameKind.free)=true then (n,(List.lookup n env.cells).getD 0)::acc else acc));rw[if_pos hk,ec'];exact this
   ·simp only[hk];have:=ih acc λx hx=>hy x (jD _ hx);show _=pure (k_ env r (if (k == NameKind.free)=true then (n,(List.lookup n env.cells).getD 0)::acc else acc));rw[if_neg hk];exact this
 simp only[closureFor];rw[key scope.names [] h];rfl
section
variable{prog:Program}{w:World}{A:Around}{R:Result->Shared->Prop}{s:Shared}
theorem qw{elt target iter:Expr}{scope:Scope}(I:Nat->Shared->Prop)
  (turn:∀n s,I n s->wpAny 'c' A (pyNext it) (λr s₁=>match r with
   |none=>R (.ok .next) s₁
   |some v=>wpAny 'c' A (letOwnedTupleGo target it v) (λ_ s₁'=>wpAny 'c' A (assign target env v) (λ_ s₂=>
     wpAny 'c' A (forIn ifs true λc r=>if r=true then do let ok <-isTrue c env (eval c env);pure (ForInStep.yield ok) else pure (ForInStep.yield r)) (λok s₃=>
      if ok=true then wpAny 'c' A (eval elt env) (λx s₄=>
       wpAny 'c' A (call (.builtin "list.append") [acc,x]) (λ_ s₅=>∃m,m<n/\I m s₅) (λ_ _=>False) s₄) (λ_ _=>False) s₃
      else ∃m,m<n/\I m s₃) (λ_ _=>False) s₂) (λ_ _=>False) s₁') (λ_ _=>False) s₁) (λ_ _=>False) s)
  n (h:I n s):
  codeAny 'c' A (.compLoop (.ListComp elt [⟨target,iter,ifs,0⟩] scope pos) 0 it acc env) R s:=by
 refine codeAny_loop rfl I (λn s hI=>(wpAny_noted ?_)) n h;rw[compTurn_list];refine aE (wpAny_standAt (aE (m8 (turn n s hI) (λr s₁ h₁=>?_) λ_ _ h'=>h'.elim)));cases r with
 |none=>exact bh h₁
 |some v=>
  refine aE (m8 h₁ (λ_ s₁' h₁'=>(aE (m8 h₁' (λ_ s₂ h₂=>aE (m8 h₂ (λok s₃ h₃=>?_) λ_ _ h'=>h'.elim)) λ_ _ h'=>h'.elim))) λ_ _ h'=>h'.elim);cases ok with
  |false=>exact bh ⟨rfl,h₃⟩
  |true=>
   exact aE (aE (m8 h₃ (λx s₄ h₄=>aE (m8 h₄ (λ_ s₅ h₅=>bh (bh ⟨rfl,h₅⟩)) λ_ _ h'=>h'.elim)) λ_ _ h'=>h'.elim))
end
def BU(X:Cx)(N':List Str)(scope:Scope)(fp:List Addr)(s:Shared)(H:Hp):Cx:=
 { X with N:=N',s₀:=s,H₀:=H,env:=compEnvC scope (k_ X.env scope.names []) s.heap.objs.size X.env,outer:=X.stack,stack:=X.stack,ex:=fp,fn:=λ_=>false,xe:=λ_ _=>False }
def Td(X:Cx)(ifs:List Expr)(t:TT):Prop:=
 ∀(pins:Lo) (s:Shared) (σ:St) (H:Hp) (Q:Bool->Hp->Prop),Inv X pins σ H s->t σ H Q->
  wpAny 'b' X.A (forIn ifs true λc r=>if r=true then do let ok <-isTrue c X.env (eval c X.env);pure (ForInStep.yield ok) else pure (ForInStep.yield r)) (TP X pins σ Q) X.xe s
def YV:TT:=λ_ H Q=>Q true H
theorem cu:Td X [] YV:=λ_ _ _ H _ I h=>wpAny_tests_nil ⟨H,I,h⟩
theorem iY(h:PT X c t):Td X [c] t:=λpins s σ H Q I q=>wpAny_tests_one (h pins s σ H Q I q)
set_option genInjectivity true in
inductive Ext:St->St->Prop
 |nil:Ext [] []
 |no {σ τ:St}{a:Option V}:Ext σ τ->Ext (none::σ) (a::τ)
 |yes {σ τ:St}{v:V}:Ext σ τ->Ext (some v::σ) (some v::τ)
theorem Ext.len:∀{σ τ:St},Ext σ τ->σ.length=τ.length
 |_,_,.nil=>rfl
 |_,_,.no h=>by simp[h.len]
 |_,_,.yes h=>by simp[h.len]
theorem Ext.get:∀{σ τ:St},Ext σ τ->∀(i:Nat) (v:V),σ[i]?=some (some v)->τ[i]?=some (some v)
 |_,_,.nil,i,v,e=>e
 |_,_,.no h,0,v,e=>by simp at e
 |_,_,.no h,i+1,v,e=>by simpa using h.get i v e
 |_,_,.yes h,0,v,e=>by simpa using e
 |_,_,.yes h,i+1,v,e=>by simpa using h.get i v e
def dX(k:Nat)(fm:List Nat)(σ:St):St:=List.replicate k none++fm.map λj=>(σ[j]?).join
def kz(k:Nat)(fm:List Nat)(wi:TI)(g:TG)(tt:TT)(te:TE):TE:=λσ H Q=>wi σ H λJ H1=>∀D,H1 D=none->∃W:Nat->Nat->List V->Hp->Prop,
 (∃m,W 0 m [] (upd H1 D (.lst [])))/\∀i m ys H2,W i m ys H2->H2 D=some (.lst ys)/\ys.length<sizeLine/\((J.stop i H2/\Q (.ref D) H2)\/(J.go i H2/\∃N:List V->Hp->Prop,(∀ys' H',N ys' H'->∃m',m'<m/\W (i+1) m' ys' H')/\∀x H3,J.Cj i H2 x H3->
  g x (dX k fm σ) H3 λσ3 H4=>Ext (dX k fm σ) σ3/\tt σ3 H4 λb H5=>if b=true then te σ3 H5 λy H6=>H6 D=some (.lst ys)/\N (ys++[y]) (upd H6 D (.lst (ys++[y]))) else N ys H5))
theorem Un.tail(u:Un fs ex H H' h h1)(k:∀b o,b≠C->h1.get? b=some o->h2.get? b=some o)(hC:h.get? C=none):Un fs ex H H' h h2:=by
 have ne:∀b o,h.get? b=some o->b≠C:=λb o e z=>by rw[z,hC]at e;cases e
 exact⟨λb o e n hf hx=>k b o (ne b o e) (u.keep b o e n hf hx),λb o e n hf hx=>let ⟨sl,q⟩:=u.slot b o e n hf hx;⟨sl,k b _ (ne b o e) q⟩,u.free,
  λb o e hx=>let ⟨o',q⟩:=u.there b o e hx;⟨o',k b _ (ne b o e) q⟩,u.qv,u.mX,u.mQ⟩
theorem gT.tail(ok:gT P w H h1)(k:∀b o,b≠C->h1.get? b=some o->h2.get? b=some o)(hC:H C=none):gT P w H h2:=λa o e=>by
 have ne:∀b u,H b=some u->b≠C:=λb u q z=>by rw[z,hC]at q;cases q
 refine(ok a o e).jU (λb u hb q=>k b u ?_ q) (λ_ q=>q) λ_ _ q=>q;rcases hb with z|z
 ·rw[z];exact ne a o e
 ·exact ne b _ z
theorem c9{env:Env}:∀{names:List (Str×NameKind)}{x:Str}{k:NameKind},
  (names.map λ(n,k)=>if (k == NameKind.free&&env.scope.kind == .function&&env.kindOf n == some .cell) then (n,NameKind.cell) else (n,k)).lookup x=some k->∃k',names.lookup x=some k'/\(k=k'\/(k'=.free/\k=.cell))
 |[],_,_,h=>by simp at h
 | (n,k0)::r,x,k,h=>by
  have ih:=@c9 env r x k;have h:List.lookup x ((if (k0 == NameKind.free&&env.scope.kind == .function&&env.kindOf n == some .cell)=true then (n,NameKind.cell) else (n,k0))::(r.map λ(n,k)=>if (k == NameKind.free&&env.scope.kind == .function&&env.kindOf n == some .cell) then (n,NameKind.cell) else (n,k)))=some k:=h;by_cases hc:(k0 == NameKind.free&&env.scope.kind == .function&&env.kindOf n == some .cell)=true
  ·grind
  ·grind
structure gh(X:Cx)(N':List Str)(k:Nat)(fm:List Nat)(scope:Scope):Prop where
 kind:scope.kind=.function
 zS:∀y∈scope.names,y.2≠.cell
 names:∀y∈scope.names,y.2=.local->scope.names.lookup y.1=some .local
 free:∀y∈scope.names,y.2=.free->X.env.kindOf y.1=some .cell\/X.env.kindOf y.1=some .free
 len:N'.length=k+fm.length
 slots:∀i x,k<=i->N'[i]?=some x->scope.names.lookup x=some .free/\∃j,fm[i - k]?=some j/\X.N[j]?=some x
section
variable{X:Cx}{pins:Lo}{σ:St}{H:Hp}{s:Shared}
theorem Inv.block{scope:Scope}(B:gh X N' k fm scope)(I:Inv X pins σ H s)(hf:∀b∈fp,fi X pins H b)(ho:∀b∈fp,∃o,s.heap.get? b=some o)
  (ns:h'.Ns s.heap.objs.size (λ_=>none)) (kp:∀b o,s.heap.get? b=some o->h'.get? b=some o):Inv (BU X N' scope fp s H) [] (dX k fm σ) H { s with heap:=h',toks:=tk }:=by
 have hfree:=λx hx hk=>I.ok.has x.1 (B.free x hx hk);have hcl:=AH scope.names [] hfree λx c e=>by simp at e
 have NF:=I.rB;have hC:=I.a6.fresh (bS _);have ok:(BU X N' scope fp s H).Ok:={
  mod:=I.ok.mod
  kind:=B.kind
  glob:=I.ok.glob
  blt:=I.ok.blt
  above:=bS _
  inj:=λx y c h1 h2=>I.ok.inj x y c (hcl x c h1) (hcl y c h2)
  has:=λx hx=>by
   have:scope.names.lookup x=some .free:=by
    rcases hx with e|e
    ·obtain⟨k',e1,e2⟩:=c9 e;rcases e2 with e2|⟨e2,_⟩
     ·subst e2;exact absurd rfl (B.zS _ (PySem.mem_of_lookup e1))
     ·rw[e1,e2]
    ·obtain⟨k',e1,e2⟩:=c9 e;rcases e2 with e2|⟨e2,e3⟩
     ·rw[e1,e2]
     ·rw[e1,e2]
   exact k9 scope.names [] x (PySem.mem_of_lookup this)
  Rp:=λx c e=>by cases e
  hd:=I.ok.hd
  frames:=I.ok.frames
  NF:=.inl rfl
  RL:=λb hb=>⟨λz=>by
    obtain⟨o,e⟩:=ho b hb;have hlt:=cR e;rw[z]at hlt;exact wB _ hlt,λx c e=>(hf b hb).2.2.2.2.1 x c (hcl x c e)⟩
  bs:=I.bs
  Gv:=ia I.ok.Gv I.sz
  Ct:=λb o e hb=>by
   rcases (hf b hb).2.2.2.1 with z|z
   ·exact I.ok.Ct b o e z
   ·exact absurd (kx (cR e) (ia I.ok.Gv z)) (wB _)
  yE:=λb hb z=>(iu.mp (NF b z)).elim (hf b hb).2.1 (hf b hb).2.2.1
  jB:=I.stack
  LY:=I.By }
 refine⟨ok,rfl,I.bare,Un.kept kp,⟨_,ns,λi x v h1 h2 h3=>?_⟩,λx c e=>?_,hC,λx c e=>I.gr x c (hcl x c e),λp hp=>?_,I.a6.kept kp,?_⟩
 ·have hk:k<=i:=by
   refine Nat.le_of_not_lt λz=>?_;unfold dX at h2;rw[Pb (by simpa using z),List.getElem?_replicate,if_pos z]at h2;cases h2
  obtain⟨e1,j,e2,e3⟩:=B.slots i x hk h1;have e4:σ[j]?=some (some v):=by
   unfold dX at h2;rw[Rg (by simpa using hk),List.length_replicate,List.getElem?_map,e2]at h2;have h2:some (σ[j]?).join=some (some v):=h2;injection h2 with h2;cases e:σ[j]? with
   |none=>rw[e]at h2;cases h2
   |some o=>rw[e]at h2;rw[show o=some v from h2]
  have kf:=B.free (x,.free) (PySem.mem_of_lookup e1) rfl;obtain⟨m,hn,hl⟩:=I.loc;obtain⟨u,ru,lk⟩:=hl j x v e3 e4 (.inr kf);refine⟨u,ru,.inr ⟨?_,?_⟩⟩
  ·rcases h3 with z|z
   ·obtain⟨k',q1,q2⟩:=c9 z;rw[e1]at q1;injection q1 with q1;subst q1;rcases q2 with q2|⟨_,q2⟩<;>cases q2
   ·exact z
  ·obtain⟨c,hc⟩:=k9 scope.names [] x (PySem.mem_of_lookup e1);refine⟨c,hc,?_⟩;rcases lk with ⟨z,_⟩|⟨_,c',ec,ic⟩
   ·rcases kf with y|y<;>(rw[z]at y;cases y)
   ·rw[hcl x c hc]at ec;injection ec with ec;subst ec;exact ic.keeps kp
 ·obtain⟨v,q⟩:=I.cell x c (hcl x c e);exact⟨v,q.keeps kp⟩
 ·obtain⟨p1,p2,p3,p4,p5⟩:=I.pin p ((bM.mp hp).elim (λz=>gG _ z) λz=>absurd z (by simp));refine⟨kp _ _ p1,p2,λz=>?_,λz=>(iu.mp (NF _ z)).elim p3 p4,p5⟩;have hlt:=cR p1;rw[z]at hlt;exact wB _ hlt
 ·show(dX k fm σ).length=N'.length;unfold dX;rw[dv,List.length_replicate,aD,B.len]
theorem xx{X:Cx}{elt iter tg:Expr}{ifs:List Expr}{scope:Scope}{pos:Pos}{g:TG}{tt:TT}{te:TE}{J:It}{fp:List Addr}{it D:Addr}{tn:Nat->Heap->Prop}{σ0:St}{H3:Hp}{s4:Shared}{Q:VK}{R:Result->Shared->Prop}{W:Nat->Nat->List V->Hp->Prop}{m0:Nat}
  (hx:X.xe=λ_ _=>False) (hc:X.calm=true) (T:Turn X.prog X.w X.K tg J fp it tn) (stat:∀{H':Hp},(∀b∈fp,H' b=none)->∀b∈fp,fi X [] H' b) (hg:PG X tg g) (ht:Td X ifs tt) (he:PE X elt te)
  (turn:∀i m ys H2,W i m ys H2->H2 D=some (.lst ys)/\ys.length<sizeLine/\((J.stop i H2/\Q (.ref D) H2)\/(J.go i H2/\∃N:List V->Hp->Prop,(∀ys' H',N ys' H'->∃m',m'<m/\W (i+1) m' ys' H')/\∀x H3,J.Cj i H2 x H3->
   g x σ0 H3 λσ3 H4=>Ext σ0 σ3/\tt σ3 H4 λb H5=>if b=true then te σ3 H5 λy H6=>H6 D=some (.lst ys)/\N (ys++[y]) (upd H6 D (.lst (ys++[y]))) else N ys H5)))
  (I4:Inv X [] σ0 H3 s4) (st4:tn 0 s4.heap) (fr4:∀b∈fp,H3 b=none) (w4:W 0 m0 [] H3)
  (hR:∀H' s',Inv X [] σ0 H' s'->Q (.ref D) H'->R (.ok .next) s'):
  codeAny 'b' X.A (.compLoop (.ListComp elt [⟨tg,iter,ifs,0⟩] scope pos) 0 (.ref it) (.ref D) X.env) R s4:=by
 refine qw (λn s'=>∃i ys H',Inv X [] σ0 H' s'/\tn i s'.heap/\(∀b∈fp,H' b=none)/\W i n ys H') ?_ m0 ⟨0,[],H3,I4,st4,fr4,w4⟩;rintro n s5 ⟨i,ys,H5,I5,st5,fr5,w5⟩;obtain⟨hD,hl,cs⟩:=turn i n ys H5 w5;rcases cs with ⟨stop,q⟩|⟨go,N,hN,step⟩
 ·refine bG (T.done X rfl rfl rfl hc i [] s5 σ0 H5 _ I5 (stat fr5) st5 stop) λr s6 ⟨hr,I6⟩=>?_;subst hr;exact hR H5 s6 I6 q
 ·refine bG (T.item X rfl rfl rfl hc i [] s5 σ0 H5 _ I5 (stat fr5) st5 go) λr s6 ⟨u,hr,h6⟩=>?_;subst hr;refine bG h6 λ_ s7 ⟨x,H7,I7,r7,y7,st7,fr7⟩=>?_;have I7':=I7.pinned (stat fr7) (T.obj _ _ st7);have again:∀{σ':St}{H':Hp}{s':Shared},Ext σ0 σ'->Inv X ([]++lX fp s7.heap) σ' H' s'->Inv X [] σ0 H' s'/\tn (i+1) s'.heap/\∀b∈fp,H' b=none:=λ{σ' H' s'} ex I'=>by
   refine⟨I'.i5.weak ex.len ex.get,T.keep _ _ _ st7 λb hb o e=>(I'.pin (b,o) (gi _ (gi _ (fL hb e)))).1,λb hb=>?_⟩;obtain⟨o,e,d⟩:=T.obj _ _ st7 b hb;exact(I'.pin (b,o) (gi _ (gi _ (fL hb e)))).2.1
  have w8:=hg _ s7 σ0 H7 x u _ I7' r7 (step x H7 y7);rw[hx]at w8;refine bG w8 λ_ s8 ⟨σ8,H8,I8,ex8,q8⟩=>?_;have w9:=ht _ s8 σ8 H8 _ I8 q8;rw[hx]at w9;refine bG w9 λok s9 ⟨H9,I9,q9⟩=>?_;cases ok with
  |false=>
   obtain⟨m',hm,w'⟩:=hN _ _ q9;obtain⟨a1,a2,a3⟩:=again ex8 I9;exact⟨m',hm,i+1,ys,H9,a1,a2,a3,w'⟩
  |true=>
   have w10:=he _ s9 σ8 H9 _ I9 q9;rw[hx]at w10;refine bG w10 λy s10 ⟨yv,H10,I10,r10,hD10,n10⟩=>?_;obtain⟨m',hm,w'⟩:=hN _ _ n10;have w11:=ng _ s10 σ8 H10 (.ref D) [yv] (.ref D) [y] (λv H'=>v=.bB/\H'=upd H10 D (.lst (ys++[yv]))) I10 rfl (.cons r10 .nil) ⟨D,ys,yv,rfl,rfl,hD10,hl,rfl,rfl⟩;rw[hx]at w11;refine bG w11 λ_ s11 ⟨_,H11,I11,_,_,e11⟩=>?_;subst e11;obtain⟨a1,a2,a3⟩:=again ex8 I11;exact⟨m',hm,i+1,_,_,a1,a2,a3,w'⟩
theorem cI{scope:Scope}(B:gh X N' k fm scope)(hc:X.calm=true)(hi:PI X tg iter wi)
  (hb:∀fp s H,PG (BU X N' scope fp s H) tg g/\Td (BU X N' scope fp s H) ifs tt/\PE (BU X N' scope fp s H) elt te)
  (hs:∀x,foldedSetIterable iter X.env x=pure x:=by intro _;rfl):PE X (.ListComp elt [⟨tg,iter,ifs,0⟩] scope pos) (kz k fm wi g tt te):=by
 intro pins s σ H Q I h;have hfree:=λx hx hk=>I.ok.has x.1 (B.free x hx hk);refine wpAny_comprehension_free rfl hs (ij hfree) B.kind B.names (bG (hi pins s σ H _ I h) λv s1 h1=>bG h1 λitv s2 h2=>?_);obtain⟨it,fp,tn,J,H2,e,I2,T,st2,f2,h2⟩:=h2;subst e;obtain⟨W,⟨m0,w0⟩,turn⟩:=h2 s2.heap.objs.size I2.fresh;refine Ug (wpAny_newFunctionEnv B.zS (by intro y hy;simp at hy) (λh4 hns4 hsb4=>?_) B.kind);have I3:=I2.PF (t':=s2.toks) .nil (d_ _);have hf3:∀b∈fp,fi X pins 'q' b:=λb hb=>by
  obtain⟨o,e,_⟩:=T.obj _ _ st2 b hb;refine⟨?_,(f2 b hb).2⟩;rw[ae (λz=>wB _ (z▸cR e))];exact(f2 b hb).1
 have ho3:∀b∈fp,∃o,(s2.heap.push { cls:=.type "list", data:=.seq ([]:List Value).toArray }).get? b=some o:=λb hb=>by
  obtain⟨o,e,_⟩:=T.obj _ _ st2 b hb;exact⟨o,cS _ e⟩
 have kp4:∀b o,(s2.heap.push { cls:=.type "list", data:=.seq ([]:List Value).toArray }).get? b=some o->h4.get? b=some o:=λb o e=>
  hsb4.extBut b o (λz=>wB _ (z▸cR e)) (cS _ e)
 have I4:=I3.block (tk:=s2.toks+([]:List (Str×Value)).length) B hf3 ho3 hns4 kp4;generalize hs3:({ s2 with heap:=s2.heap.push { cls:=.type "list", data:=.seq ([]:List Value).toArray },toks:=s2.toks }:Shared)=s3 at *;obtain⟨hg,ht,he⟩:=hb fp s3 'q';have st4:=T.keep _ _ _ st2 λb hb o e=>kp4 b o (cS _ e);have stat:∀{H':Hp},(∀b∈fp,H' b=none)->∀b∈fp,fi (BU X N' scope fp s3 'q') [] H' b:=λ{H'} hn b hb=>by
  obtain⟨f0,f1,f3,f4,f5,f6⟩:=hf3 b hb;obtain⟨g1,g2⟩:=I4.ok.RL b hb;exact⟨hn b hb,g1,I4.ok.yE b hb,.inl hb,g2,λp hp=>f6 p ((bM.mp hp).elim (λz=>gG _ z) λz=>absurd z (by simp))⟩
 have loop:codeAny 'b' X.A (.compLoop (.ListComp elt [⟨tg,iter,ifs,0⟩] scope pos) 0 (.ref it) (.ref s2.heap.objs.size) (compEnvC scope (k_ X.env scope.names []) s3.heap.objs.size X.env))
   (compPost 'b' X.A X.xe none 'T' (.ref s2.heap.objs.size) s3.heap.objs.size) { s3 with heap:=h4,toks:=s2.toks+([]:List (Str×Value)).length }:=by
  refine xx (X:=BU X N' scope fp s3 'q') rfl hc T stat hg ht he turn I4 st4 (λb hb=>(hf3 b hb).1) w0 ?_;intro H' s' I' q;obtain⟨m,hn,_⟩:=I'.loc;refine⟨m,hn,λh'' hs''=>?_⟩;have hC:s3.heap.get? s3.heap.objs.size=none:=by
   cases e:s3.heap.get? s3.heap.objs.size with
   |none=>rfl
   |some o=>exact absurd (cR e) (wB _)
  have u:=Un.tail I'.base (λb o hb e=>hs''.extBut b o hb e) hC;refine⟨.ref s2.heap.objs.size,H',I3.AJ I'.os u (I'.a6.tail (λb o hb e=>hs''.extBut b o hb e) I'.free) I'.bare λb hb=>?_,rfl,q⟩;obtain⟨f0,f1,f3,f4,f5,f6⟩:=hf3 b hb;exact⟨f4,f1,f5,f6⟩
 subst hs3;exact codeAny_compStart_list loop (T.self X.A 0 _ _ _ st4 loop)
end
def Xw(z:Str):It:=⟨λi _=>i<z.cps.size,λi H x H'=>H'=H/\∃c,z.cps[i]?=some c/\x=.str ⟨#[c]⟩,λi _=>z.cps.size<=i⟩
section
variable{X:Cx}{tg:Expr}
def UK(tl:TE):TI:=λσ H R=>tl σ H λx H1=>∃z,x=.str z/\R (Xw z) H1
end
section
variable{X:Cx}
def Wm:V->Option Int->Option Int->Hp->VK->Prop:=λx lo hi H Q=>∃z,x=.str z/\z.length<=sizeLine/\Q (.str (Txt.slice z lo hi)) H
theorem DR:V4 X Wm:=by
 intro pins s σ H x v vl vu lo hi sl Q I rx hs pl pu h;obtain⟨z,rfl,hz,q⟩:=h;obtain⟨t,rfl⟩:=rx;refine⟨"str", _,F.slot_str_getitem.lookup,typeIs_str _ _ _,?_⟩;have fin:∀t' k,EP X pins σ Q (.str (Txt.slice z lo hi) t') { s with toks:=k }:=λt' k=>⟨.str (Txt.slice z lo hi),H,I.tok k,⟨t',rfl⟩,q⟩;obtain⟨o,ho,hc,hd⟩:=hs;cases pl with
 |none=>
  cases pu with
  |none=>exact V6 (l:=none) (u:=none) (st:=none) ⟨o,ho,hc,hd⟩ rfl (post_val_or_str ⟨ia (Txt.slice_le z _ _) hz,λt' k=>fin t' k⟩)
  |int j uj=>exact V6 (l:=none) (u:=some (j,uj)) (st:=none) ⟨o,ho,hc,hd⟩ rfl (post_val_or_str ⟨ia (Txt.slice_le z _ _) hz,λt' k=>fin t' k⟩)
 |int i ui=>
  cases pu with
  |none=>exact V6 (l:=some (i,ui)) (u:=none) (st:=none) ⟨o,ho,hc,hd⟩ rfl (post_val_or_str ⟨ia (Txt.slice_le z _ _) hz,λt' k=>fin t' k⟩)
  |int j uj=>exact V6 (l:=some (i,ui)) (u:=some (j,uj)) (st:=none) ⟨o,ho,hc,hd⟩ rfl (post_val_or_str ⟨ia (Txt.slice_le z _ _) hz,λt' k=>fin t' k⟩)
def aav(K:Wf):List V->Hp->VK->Prop:=λxs H Q=>∃(a:Addr) (bs:List Bool),xs=[.ref a]/\aH K H a (bs.map V.bl)/\Q (.bl (bs.all id)) H
def RW(K:Wf):List V->Hp->VK->Prop:=λxs H Q=>∃x n t b,xs=[x,.ty n]/\iQ K H x t/\kitOne K t (.type n)=some b/\Q (.bl b) H
theorem Fu:cL X (.builtin "isinstance") (RW X.K):=by
 intro pins s σ H xs us Q I r h;obtain⟨x,n,t,b,rfl,ty,e,q⟩:=h;obtain⟨u,u2,rfl,ru,ru2⟩:=vals2 r;cases ru2;exact CQ I ru ty e λtk=>⟨.bl b,H,I.tok tk,rfl,q⟩
def Ny(K:Wf):R2:=λx y H Q=>∃l b xs zs,x=.ref l/\y=.ref b/\aH K H l xs/\aH K H b zs/\xs.length+zs.length<=sizeLine/\∀p,H p=none->Q (.ref p) (upd H p (.lst (xs++zs)))
theorem LI:fZ X (binaryOp .Add) (Ny X.K):=by
 intro pins s σ H x y v u Q I rx ry h;obtain⟨l,b,xs,zs,rfl,rfl,hH,hB,hz,q⟩:=h;cases rx;cases ry;obtain⟨vs,r,p,z⟩:=I.list hH;obtain⟨ws,r2,p2,z2⟩:=I.list hB;have l1:=r.length;have l2:=r2.length;obtain⟨⟨cls,dd,data,sl⟩,n,ho,hc,hdd,hd⟩:=p;obtain⟨⟨cls2,dd2,data2,sl2⟩,n2,ho2,hc2,hdd2,hd2⟩:=p2;simp only at hc hd hc2 hd2;subst hc hd hc2 hd2;have e:vs.toArray++ws.toArray=(vs++ws).toArray:=by simp
 exact concat_meets ⟨_,ho,rfl⟩ ⟨_,ho2,rfl⟩ noFill_list_add seq_list_add PySem.F.slot_list_add PySem.F.entry_list_add (PySem.F.args_list_add_2 _ _) (list_addW l b vs.toArray ws.toArray n n2 dd dd2 sl sl2 (by simp;omega)) ⟨ho,ho2,e▸⟨.ref _,_,I.PF (r.append r2) (by rw[List.length_append];omega),rfl,q _ I.fresh⟩⟩
end
set_option genInjectivity true in
inductive Slots (X:Cx) (scope:Scope):List Str->List Nat->Prop
 |nil:Slots X scope [] []
 |cons {x:Str}{j:Nat}{xs:List Str}{js:List Nat}(h1:scope.names.lookup x=some .free) (h2:X.env.kindOf x=some .cell\/X.env.kindOf x=some .free) (h3:X.N[j]?=some x) (r:Slots X scope xs js):Slots X scope (x::xs) (j::js)
theorem Slots.len{X:Cx}{scope:Scope}:∀{xs:List Str}{js:List Nat},Slots X scope xs js->xs.length=js.length
 |_,_,.nil=>rfl
 |_,_,.cons _ _ _ r=>by simp[r.len]
theorem Slots.kind{scope:Scope}:∀{xs:List Str}{js:List Nat},Slots X scope xs js->∀x∈xs,X.env.kindOf x=some .cell\/X.env.kindOf x=some .free
 |_,_,.nil,x,h=>absurd h (by simp)
 |_,_,.cons _ h2 _ r,x,h=>by
  rcases iu.mp h with e|e
  ·subst e;exact h2
  ·exact r.kind x e
theorem Slots.get{X:Cx}{scope:Scope}:∀{xs:List Str}{js:List Nat},Slots X scope xs js->∀(i:Nat) (x:Str),xs[i]?=some x->scope.names.lookup x=some .free/\∃j,js[i]?=some j/\X.N[j]?=some x
 |_,_,.nil,i,x,h=>by simp at h
 |_,_,.cons h1 _ h3 r,0,x,h=>by
  simp only[List.getElem?_cons_zero,Option.some.injEq]at h;subst h;exact⟨h1,_,by simp,h3⟩
 |_,_,.cons _ _ _ r,i+1,x,h=>by simpa using r.get i x h
theorem iE{scope:Scope}(kind:scope.kind=.function)(h1:∀y∈scope.names,y.2≠.cell)(h2:∀y∈scope.names,y.2=.local->scope.names.lookup y.1=some .local)
  (h3:∀y∈scope.names,y.2=.free->y.1∈fr) (S:Slots X scope fr fm):gh X (own++fr) own.length fm scope:=
 ⟨kind,h1,h2,λy hy hk=>S.kind y.1 (h3 y hy hk),by rw[dv,S.len],λi x hi h=>by
  rw[Rg hi]at h;exact S.get _ x h⟩
theorem zy{lo:Int}{n:Nat}{g:TG}{tt:TT}{te:TE}{σ0:St}{H:Hp}{D:Addr}{Q:VK}(hz:n<sizeLine)(Pv:Nat->List V->Hp->Prop)(h0:Pv 0 [] (upd H D (.lst [])))
  (hl:∀i ys H,i<=n->Pv i ys H->H D=some (.lst ys)/\ys.length<=i)
  (hs:∀i ys H,i<n->Pv i ys H->g (.int (lo+i)) σ0 H λσ3 H4=>Ext σ0 σ3/\tt σ3 H4 λb H5=>if b=true then te σ3 H5 λy H6=>H6 D=some (.lst ys)/\Pv (i+1) (ys++[y]) (upd H6 D (.lst (ys++[y]))) else Pv (i+1) ys H5)
  (hd:∀ys H,Pv n ys H->Q (.ref D) H):
  ∃W:Nat->Nat->List V->Hp->Prop,(∃m,W 0 m [] (upd H D (.lst [])))/\∀i m ys H2,W i m ys H2->H2 D=some (.lst ys)/\ys.length<sizeLine/\(((CM lo n).stop i H2/\Q (.ref D) H2)\/((CM lo n).go i H2/\∃N:List V->Hp->Prop,(∀ys' H',N ys' H'->∃m',m'<m/\W (i+1) m' ys' H')/\∀x H3,(CM lo n).Cj i H2 x H3->
   g x σ0 H3 λσ3 H4=>Ext σ0 σ3/\tt σ3 H4 λb H5=>if b=true then te σ3 H5 λy H6=>H6 D=some (.lst ys)/\N (ys++[y]) (upd H6 D (.lst (ys++[y]))) else N ys H5)):=by
 refine⟨λi m ys H=>m=n - i/\i<=n/\Pv i ys H,⟨n,by simp,Nat.zero_le _,h0⟩,?_⟩;rintro i m ys H2 ⟨rfl,hi,p⟩;obtain⟨l1,l2⟩:=hl i ys H2 hi p;refine⟨l1,by lia,?_⟩;by_cases hlt:i<n
 ·refine .inr ⟨hlt,Pv (i+1),λys' H' p'=>⟨_,by lia,rfl,hlt,p'⟩,λx H3 y=>?_⟩;obtain⟨e,ex⟩:=y;subst e ex;exact hs i ys _ hlt p
 ·have e:i=n:=by lia
  subst e;exact .inl ⟨bS _,hd ys H2 p⟩
theorem BM{K:Wf}{a:Addr}{xs:List V}{g:TG}{tt:TT}{te:TE}{σ0:St}{H:Hp}{D:Addr}{Q:VK}(hz:xs.length<sizeLine)(Pv:Nat->List V->Hp->Prop)(h0:Pv 0 [] (upd H D (.lst [])))
  (hl:∀i ys H,i<=xs.length->Pv i ys H->aH K H a xs/\H D=some (.lst ys)/\ys.length<=i)
  (hs:∀i x ys H,xs[i]?=some x->Pv i ys H->g x σ0 H λσ3 H4=>Ext σ0 σ3/\tt σ3 H4 λb H5=>if b=true then te σ3 H5 λy H6=>H6 D=some (.lst ys)/\Pv (i+1) (ys++[y]) (upd H6 D (.lst (ys++[y]))) else Pv (i+1) ys H5)
  (hd:∀ys H,Pv xs.length ys H->Q (.ref D) H):
  ∃W:Nat->Nat->List V->Hp->Prop,(∃m,W 0 m [] (upd H D (.lst [])))/\∀i m ys H2,W i m ys H2->H2 D=some (.lst ys)/\ys.length<sizeLine/\(((EH K a).stop i H2/\Q (.ref D) H2)\/((EH K a).go i H2/\∃N:List V->Hp->Prop,(∀ys' H',N ys' H'->∃m',m'<m/\W (i+1) m' ys' H')/\∀x H3,(EH K a).Cj i H2 x H3->
   g x σ0 H3 λσ3 H4=>Ext σ0 σ3/\tt σ3 H4 λb H5=>if b=true then te σ3 H5 λy H6=>H6 D=some (.lst ys)/\N (ys++[y]) (upd H6 D (.lst (ys++[y]))) else N ys H5)):=by
 refine⟨λi m ys H=>m=xs.length - i/\i<=xs.length/\Pv i ys H,⟨xs.length,by simp,Nat.zero_le _,h0⟩,?_⟩;rintro i m ys H2 ⟨rfl,hi,p⟩;obtain⟨l0,l1,l2⟩:=hl i ys H2 hi p;refine⟨l1,by lia,?_⟩;by_cases hlt:i<xs.length
 ·refine .inr ⟨⟨xs,xs[i],l0,by simp⟩,Pv (i+1),λys' H' p'=>⟨_,by lia,rfl,hlt,p'⟩,λx H3 y=>?_⟩;obtain⟨e,y⟩:=y;subst e;exact hs i x ys _ (y xs l0) p
 ·have e:i=xs.length:=by lia
  subst e;exact .inl ⟨⟨xs,l0,bS _⟩,hd ys H2 p⟩
def s_(g:TG)(tb:TS)(D:Ends)(σ:St)(J:It)(H1:Hp):Prop:=∃W:Nat->Nat->St->Hp->Prop,(∃m,W 0 m σ H1)/\∀i m σ H,W i m σ H->
 (J.stop i H/\D.nx σ H)\/(J.go i H/\∃N:St->Hp->Prop,(∀σ' H',N σ' H'->∃m',m'<m/\W (i+1) m' σ' H')/\∀x H',J.Cj i H x H'->g x σ H' λσ2 H2=>tb { D with nx:=N,ct:=N,bk:=D.nx } σ2 H2)
def fH(K:Wf)(g:TG)(tb:TS)(D:Ends)(σ:St):VK:=λx H1=>∃a,x=.ref a/\(∃xs,aH K H1 a xs)/\s_ g tb D σ (EH K a) H1
def K9(K:Wf)(g:TG)(tb:TS)(D:Ends)(σ:St):VK:=λx H1=>∃a,x=.ref a/\(∃xs,bg K H1 a xs)/\s_ g tb D σ (Pd K a) H1
def WM(g:TG)(tb:TS)(D:Ends)(σ:St):VK:=λx H1=>∃z,x=.str z/\s_ g tb D σ (Xw z) H1
def BQ(g:TG)(tb:TS)(D:Ends)(σ:St):List V->Hp->Prop:=λvs H1=>∃j:Int,vs=[.int j] /\ -(2 ^ 62)<=j/\j<2 ^ 62/\s_ g tb D σ (CM 0 j.toNat) H1
def Tb(g:TG)(tb:TS)(D:Ends)(σ:St):List V->Hp->Prop:=λvs H1=>∃i j:Int,vs=[.int i,.int j]/\(-(2 ^ 62)<=i/\i<2 ^ 62 /\ -(2 ^ 62)<=j/\j<2 ^ 62)/\s_ g tb D σ (CM i (j - i).toNat) H1
section
variable{K:Wf}{te:TE}{ta:TA}{g:TG}{tb:TS}{D:Ends}{σ:St}{H:Hp}
theorem Rm:lP (xS K te) g tb D σ H=te σ H (fH K g tb D σ):=rfl
theorem Vf:lP (Lz K te) g tb D σ H=te σ H (K9 K g tb D σ):=rfl
theorem UQ:lP (UK te) g tb D σ H=te σ H (WM g tb D σ):=rfl
theorem Rr:lP (Ga ta) g tb D σ H=ta σ H (BQ g tb D σ):=rfl
theorem RC:lP (Vb ta) g tb D σ H=ta σ H (Tb g tb D σ):=rfl
theorem fH.of{a:Addr}{xs:List V}(Pv:Nat->St->Hp->Prop)(h0:Pv 0 σ H)(hl:∀i σ H,i<=xs.length->Pv i σ H->aH K H a xs)
  (hs:∀i x σ H,xs[i]?=some x->Pv i σ H->g x σ H λσ2 H2=>tb { D with nx:=Pv (i+1),ct:=Pv (i+1),bk:=D.nx } σ2 H2) (hd:∀σ H,Pv xs.length σ H->D.nx σ H):fH K g tb D σ (.ref a) H:=
 ⟨a,rfl,⟨xs,hl 0 _ _ (d_ _) h0⟩,JX Pv h0 hl hs hd⟩
theorem K9.of{a:Addr}{xs:List V}(Pv:Nat->St->Hp->Prop)(h0:Pv 0 σ H)(hl:∀i σ H,i<=xs.length->Pv i σ H->bg K H a xs)
  (hs:∀i x σ H,xs[i]?=some x->Pv i σ H->g x σ H λσ2 H2=>tb { D with nx:=Pv (i+1),ct:=Pv (i+1),bk:=D.nx } σ2 H2) (hd:∀σ H,Pv xs.length σ H->D.nx σ H):K9 K g tb D σ (.ref a) H:=
 ⟨a,rfl,⟨xs,hl 0 _ _ (d_ _) h0⟩,KR Pv h0 hl hs hd⟩
theorem BQ.of{n:Int}(h1:n<2 ^ 62)(h2 : -(2 ^ 62)<=n)(Pv:Nat->St->Hp->Prop)(h0:Pv 0 σ H)
  (hs:∀i σ H,i<n.toNat->Pv i σ H->g (.int (i:Int)) σ H λσ2 H2=>tb { D with nx:=Pv (i+1),ct:=Pv (i+1),bk:=D.nx } σ2 H2) (hd:∀σ H,Pv n.toNat σ H->D.nx σ H):BQ g tb D σ [.int n] H:=
 ⟨n,rfl,h2,h1,BG Pv h0 (λi σ H hi p=>by
  have e:0+(i:Int)=i:=by lia
  rw[e];exact hs i σ H hi p) hd⟩
end
def nk(g:TG)(tt:TT)(te:TE)(σ0:St)(Q:VK)(J:It)(H1:Hp):Prop:=∀DD,H1 DD=none->∃W:Nat->Nat->List V->Hp->Prop,
 (∃m,W 0 m [] (upd H1 DD (.lst [])))/\∀i m ys H2,W i m ys H2->H2 DD=some (.lst ys)/\ys.length<sizeLine/\((J.stop i H2/\Q (.ref DD) H2)\/(J.go i H2/\∃N:List V->Hp->Prop,(∀ys' H',N ys' H'->∃m',m'<m/\W (i+1) m' ys' H')/\∀x H3,J.Cj i H2 x H3->
  g x σ0 H3 λσ3 H4=>Ext σ0 σ3/\tt σ3 H4 λb H5=>if b=true then te σ3 H5 λy H6=>H6 DD=some (.lst ys)/\N (ys++[y]) (upd H6 DD (.lst (ys++[y]))) else N ys H5))
def cY(K:Wf)(g:TG)(tt:TT)(te:TE)(σ0:St)(Q:VK):VK:=λx H1=>∃a,x=.ref a/\(∃xs,aH K H1 a xs)/\nk g tt te σ0 Q (EH K a) H1
def Uk(K:Wf)(g:TG)(tt:TT)(te:TE)(σ0:St)(Q:VK):VK:=λx H1=>∃a,x=.ref a/\(∃xs,bg K H1 a xs)/\nk g tt te σ0 Q (Pd K a) H1
def UH(g:TG)(tt:TT)(te:TE)(σ0:St)(Q:VK):VK:=λx H1=>∃z,x=.str z/\nk g tt te σ0 Q (Xw z) H1
def Bx(g:TG)(tt:TT)(te:TE)(σ0:St)(Q:VK):List V->Hp->Prop:=λvs H1=>∃j:Int,vs=[.int j] /\ -(2 ^ 62)<=j/\j<2 ^ 62/\nk g tt te σ0 Q (CM 0 j.toNat) H1
section
variable{K:Wf}{k:Nat}{fm:List Nat}{tl te:TE}{ta:TA}{g:TG}{tt:TT}{σ σ0:St}{H H1:Hp}{Q:VK}
theorem PV:kz k fm (xS K tl) g tt te σ H Q=tl σ H (cY K g tt te (dX k fm σ) Q):=rfl
theorem RA:kz k fm (Lz K tl) g tt te σ H Q=tl σ H (Uk K g tt te (dX k fm σ) Q):=rfl
theorem RB:kz k fm (UK tl) g tt te σ H Q=tl σ H (UH g tt te (dX k fm σ) Q):=rfl
theorem OM:kz k fm (Ga ta) g tt te σ H Q=ta σ H (Bx g tt te (dX k fm σ) Q):=rfl
theorem cY.of{a:Addr}{xs:List V}(hz:xs.length<sizeLine)(hx:aH K H1 a xs)(Pv:Addr->Nat->List V->Hp->Prop)(h0:∀D,H1 D=none->Pv D 0 [] (upd H1 D (.lst [])))
  (hl:∀D i ys H',H1 D=none->i<=xs.length->Pv D i ys H'->aH K H' a xs/\H' D=some (.lst ys)/\ys.length<=i)
  (hs:∀D i x ys H',H1 D=none->xs[i]?=some x->Pv D i ys H'->g x σ0 H' λσ3 H4=>Ext σ0 σ3/\tt σ3 H4 λb H5=>if b=true then te σ3 H5 λy H6=>H6 D=some (.lst ys)/\Pv D (i+1) (ys++[y]) (upd H6 D (.lst (ys++[y]))) else Pv D (i+1) ys H5)
  (hd:∀D ys H',H1 D=none->Pv D xs.length ys H'->Q (.ref D) H'):cY K g tt te σ0 Q (.ref a) H1:=
 ⟨a,rfl,⟨xs,hx⟩,λD hD=>BM hz (Pv D) (h0 D hD) (λi ys H'=>hl D i ys H' hD) (λi x ys H'=>hs D i x ys H' hD) λys H'=>hd D ys H' hD⟩
theorem Bx.of{n:Int}(h1:n<16777216)(h2 : -(2 ^ 62)<=n)(Pv:Addr->Nat->List V->Hp->Prop)(h0:∀D,H1 D=none->Pv D 0 [] (upd H1 D (.lst [])))
  (hl:∀D i ys H',H1 D=none->i<=n.toNat->Pv D i ys H'->H' D=some (.lst ys)/\ys.length<=i)
  (hs:∀D i ys H',H1 D=none->i<n.toNat->Pv D i ys H'->g (.int (i:Int)) σ0 H' λσ3 H4=>Ext σ0 σ3/\tt σ3 H4 λb H5=>if b=true then te σ3 H5 λy H6=>H6 D=some (.lst ys)/\Pv D (i+1) (ys++[y]) (upd H6 D (.lst (ys++[y]))) else Pv D (i+1) ys H5)
  (hd:∀D ys H',H1 D=none->Pv D n.toNat ys H'->Q (.ref D) H'):Bx g tt te σ0 Q [.int n] H1:=
 ⟨n,rfl,h2,by lia,λD hD=>zy (by rw[sizeLine_eq];omega) (Pv D) (h0 D hD) (λi ys H'=>hl D i ys H' hD) (λi ys H' hi p=>by
  have e:0+(i:Int)=i:=by lia
  rw[e];exact hs D i ys H' hD hi p) λys H'=>hd D ys H' hD⟩
end
set_option genInjectivity true in
inductive D where
 |bB|bl (b:Bool)|int (i:Int)|str (z:Str)|lst (xs:List D)|tup (xs:List D)
mutual
def Rep(K:Wf)(H:Hp):D->V->Prop
 |.bB,v=>v=.bB
 |.bl b,v=>v=.bl b
 |.int i,v=>v=.int i
 |.str z,v=>v=.str z
 |.lst ds,v=>∃a xs,v=.ref a/\aH K H a xs/\RepL K H ds xs
 |.tup ds,v=>∃a xs,v=.ref a/\bg K H a xs/\RepL K H ds xs
def RepL(K:Wf)(H:Hp):List D->List V->Prop
 |[],xs=>xs=[]
 |d::ds,xs=>∃y ys,xs=y::ys/\Rep K H d y/\RepL K H ds ys
end
mutual
def deq:D->D->Bool
 |.bB,.bB=>true
 |.bl a,.bl b=>a == b
 |.bl a,.int b=>(if a then 1 else 0) == b
 |.int a,.bl b=>a == (if b then 1 else 0)
 |.int a,.int b=>a == b
 |.str a,.str b=>a == b
 |.lst a,.lst b=>deqL a b
 |.tup a,.tup b=>deqL a b
 |_,_=>false
def deqL:List D->List D->Bool
 |[],[]=>true
 |a::as,b::bs=>deq a b&&deqL as bs
 |_,_=>false
end
mutual
def dep:D->Nat
 |.lst ds=>depL ds+1
 |.tup ds=>depL ds+1
 |_=>0
def depL:List D->Nat
 |[]=>0
 |d::ds=>max (dep d) (depL ds)
end
mutual
theorem iT:∀d:D,deq d d=true
 |.bB=>rfl
 |.bl a=>by simp[deq]
 |.int a=>by simp[deq]
 |.str a=>by simp[deq]
 |.lst a=>by simp only[deq];exact jH a
 |.tup a=>by simp only[deq];exact jH a
theorem jH:∀ds:List D,deqL ds ds=true
 |[]=>rfl
 |d::ds=>by simp only[deqL,iT d,jH ds,Bool.and_self]
end
theorem RepL.len{K:Wf}{H:Hp}:∀{ds:List D}{xs:List V},RepL K H ds xs->ds.length=xs.length
 |[],xs,h=>by simp only[RepL]at h;subst h;rfl
 |d::ds,xs,h=>by
  obtain⟨y,ys,rfl,_,r⟩:=h;simp[r.len]
def eAt(ds es:List D)(j:Nat):Bool:=match ds[j]?,es[j]? with
 |some d,some e=>deq d e
 |_,_=>true
theorem kL:∀(ds es:List D),((List.range (min ds.length es.length)).all (eAt ds es)&&ds.length == es.length)=deqL ds es
 |[],[]=>by simp[deqL]
 |[],e::es=>by simp[deqL]
 |d::ds,[]=>by simp[deqL]
 |d::ds,e::es=>by
  have ih:=kL ds es;have h1:min (d::ds).length (e::es).length=min ds.length es.length+1:=by simp only[List.length_cons];omega
  rw[h1,List.range_succ_eq_map,List.all_cons,List.all_map];have h2:(eAt (d::ds) (e::es) ∘ Nat.succ)=eAt ds es:=by funext j;simp[eAt]
  have h3:eAt (d::ds) (e::es) 0=deq d e:=by simp[eAt]
  simp only[deqL,<-ih,Bool.and_assoc];congr 2;simp
section
variable{X:Cx}{pins:Lo}{σ:St}{H:Hp}{s:Shared}
mutual
theorem Le(I:Inv X pins σ H s):∀(d e:D) (x:V),Rep X.K H d x->Rep X.K H e x->d=e
 |d,e,x,hd,he=>by
  cases d with
  |bB=>
   simp only[Rep]at hd;subst hd;cases e<;>simp only[Rep]at he<;>first|rfl|(obtain⟨a,xs,z,_⟩:=he;cases z;done)|(cases he;done)
  |bl b=>
   simp only[Rep]at hd;subst hd;cases e<;>simp only[Rep]at he<;>first|(obtain⟨a,xs,z,_⟩:=he;cases z;done)|(cases he;rfl)|(cases he;done)
  |int b=>
   simp only[Rep]at hd;subst hd;cases e<;>simp only[Rep]at he<;>first|(obtain⟨a,xs,z,_⟩:=he;cases z;done)|(cases he;rfl)|(cases he;done)
  |str b=>
   simp only[Rep]at hd;subst hd;cases e<;>simp only[Rep]at he<;>first|(obtain⟨a,xs,z,_⟩:=he;cases z;done)|(cases he;rfl)|(cases he;done)
  |lst ds=>
   simp only[Rep]at hd;obtain⟨a,xs,rfl,hx,r⟩:=hd;cases e with
   |lst es=>
    simp only[Rep]at he;obtain⟨a',xs',z,hx',r'⟩:=he;cases z;have:=I.gz hx hx';subst this;rw[f9 I ds es xs r r']
   |tup es=>
    simp only[Rep]at he;obtain⟨a',xs',z,hx',r'⟩:=he;cases z
    exfalso
    obtain⟨_,_,p,_⟩:=I.list hx;obtain⟨_,_,q,_⟩:=I.tuple hx';obtain⟨o,n,e1,e2,_⟩:=p;obtain⟨o',e1',e2',_⟩:=q;rw[e1]at e1';cases e1';rw[e2]at e2';exact absurd e2' (by decide)
   |_=>simp only[Rep]at he;cases he
  |tup ds=>
   simp only[Rep]at hd;obtain⟨a,xs,rfl,hx,r⟩:=hd;cases e with
   |tup es=>
    simp only[Rep]at he;obtain⟨a',xs',z,hx',r'⟩:=he;cases z;have:=I.jP hx hx';subst this;rw[f9 I ds es xs r r']
   |lst es=>
    simp only[Rep]at he;obtain⟨a',xs',z,hx',r'⟩:=he;cases z
    exfalso
    obtain⟨_,_,p,_⟩:=I.list hx';obtain⟨_,_,q,_⟩:=I.tuple hx;obtain⟨o,n,e1,e2,_⟩:=p;obtain⟨o',e1',e2',_⟩:=q;rw[e1]at e1';cases e1';rw[e2]at e2';exact absurd e2' (by decide)
   |_=>simp only[Rep]at he;cases he
theorem f9(I:Inv X pins σ H s):∀(ds es:List D) (xs:List V),RepL X.K H ds xs->RepL X.K H es xs->ds=es
 |[],es,xs,hd,he=>by
  subst hd;cases es with
  |nil=>rfl
  |cons e es=>simp only[RepL]at he;obtain⟨y,ys,z,_⟩:=he;cases z
 |d::ds,es,xs,hd,he=>by
  obtain⟨y,ys,rfl,r,rs⟩:=hd;cases es with
  |nil=>simp only[RepL]at he;cases he
  |cons e es=>
   obtain⟨y',ys',z,r',rs'⟩:=he;cases z;rw[Le I d e y r r',f9 I ds es ys rs rs']
end
theorem fY(p:IsTup h a its):h.IsTuple a its:=by
 obtain⟨o,e,c,n,d⟩:=p;exact⟨o,e,c,n,d⟩
mutual
theorem Ba(I:Inv X pins σ H s):∀(d e:D) (x y:V) (u v:Value) (A:Around),A.units+dep d<cLine->Rep X.K H d x->Rep X.K H e y->RelV x u->RelV y v->SeqAt.EqAt A s u v (deq d e)
 |.bB,e,x,y,u,v,A,hu,hd,he,rx,ry=>by
  have hu:A.units<cLine:=by lia
  simp only[Rep]at hd;subst hd;cases rx;cases e<;>simp only[Rep]at he
  ·subst he;cases ry;exact SeqAt.EqAt.same _
  ·subst he;cases ry;exact SeqAt.EqAt.none_bool _
  ·subst he;obtain⟨t,rfl⟩:=ry;exact SeqAt.EqAt.none_int _ _
  ·subst he;obtain⟨t,rfl⟩:=ry;exact SeqAt.EqAt.none_str _ _
  ·obtain⟨a,xs,rfl,hx,_⟩:=he;cases ry;obtain⟨_,_,p,_⟩:=I.list hx;exact SeqAt.EqAt.none_list p.isList hu
  ·obtain⟨a,xs,rfl,hx,_⟩:=he;cases ry;obtain⟨_,_,p,_⟩:=I.tuple hx;exact SeqAt.EqAt.none_tuple (fY p) hu
 |.bl b,e,x,y,u,v,A,hu,hd,he,rx,ry=>by
  have hu:A.units<cLine:=by lia
  simp only[Rep]at hd;subst hd;cases rx;cases e<;>simp only[Rep]at he
  ·subst he;cases ry;exact SeqAt.EqAt.bool_none _
  ·subst he;cases ry;exact SeqAt.EqAt.bool_bool _ _
  ·subst he;obtain⟨t,rfl⟩:=ry;exact SeqAt.EqAt.bool_int _ _ _
  ·subst he;obtain⟨t,rfl⟩:=ry;exact SeqAt.EqAt.bool_str _ _ _
  ·obtain⟨a,xs,rfl,hx,_⟩:=he;cases ry;obtain⟨_,_,p,_⟩:=I.list hx;exact SeqAt.EqAt.bool_list _ p.isList hu
  ·obtain⟨a,xs,rfl,hx,_⟩:=he;cases ry;obtain⟨_,_,p,_⟩:=I.tuple hx;exact SeqAt.EqAt.bool_tuple _ (fY p) hu
 |.int b,e,x,y,u,v,A,hu,hd,he,rx,ry=>by
  have hu:A.units<cLine:=by lia
  simp only[Rep]at hd;subst hd;obtain⟨t0,rfl⟩:=rx;cases e<;>simp only[Rep]at he
  ·subst he;cases ry;exact SeqAt.EqAt.int_none _ _
  ·subst he;cases ry;exact SeqAt.EqAt.int_bool _ _ _
  ·subst he;obtain⟨t,rfl⟩:=ry;exact SeqAt.EqAt.int_int _ _ _ _
  ·subst he;obtain⟨t,rfl⟩:=ry;exact SeqAt.EqAt.int_str _ _ _ _
  ·obtain⟨a,xs,rfl,hx,_⟩:=he;cases ry;obtain⟨_,_,p,_⟩:=I.list hx;exact SeqAt.EqAt.int_list _ _ p.isList hu
  ·obtain⟨a,xs,rfl,hx,_⟩:=he;cases ry;obtain⟨_,_,p,_⟩:=I.tuple hx;exact SeqAt.EqAt.int_tuple _ _ (fY p) hu
 |.str b,e,x,y,u,v,A,hu,hd,he,rx,ry=>by
  have hu:A.units<cLine:=by lia
  simp only[Rep]at hd;subst hd;obtain⟨t0,rfl⟩:=rx;cases e<;>simp only[Rep]at he
  ·subst he;cases ry;exact SeqAt.EqAt.str_none _ _
  ·subst he;cases ry;exact SeqAt.EqAt.str_bool _ _ _
  ·subst he;obtain⟨t,rfl⟩:=ry;exact SeqAt.EqAt.str_int _ _ _ _
  ·subst he;obtain⟨t,rfl⟩:=ry;exact SeqAt.EqAt.str_str _ _ _ _
  ·obtain⟨a,xs,rfl,hx,_⟩:=he;cases ry;obtain⟨_,_,p,_⟩:=I.list hx;exact SeqAt.EqAt.str_list _ _ p.isList hu
  ·obtain⟨a,xs,rfl,hx,_⟩:=he;cases ry;obtain⟨_,_,p,_⟩:=I.tuple hx;exact SeqAt.EqAt.str_tuple _ _ (fY p) hu
 |.lst ds,e,x,y,u,v,A,hu,hd,he,rx,ry=>by
  have hu0:A.units<cLine:=by lia
  simp only[dep]at hu;simp only[Rep]at hd;obtain⟨a,xs,rfl,hx,r⟩:=hd;cases rx;obtain⟨its,rv,p,hz⟩:=I.list hx;cases e<;>simp only[Rep]at he
  ·subst he;cases ry;exact SeqAt.EqAt.list_none p.isList hu0
  ·subst he;cases ry;exact SeqAt.EqAt.list_bool _ p.isList hu0
  ·subst he;obtain⟨t,rfl⟩:=ry;exact SeqAt.EqAt.list_int _ _ p.isList hu0
  ·subst he;obtain⟨t,rfl⟩:=ry;exact SeqAt.EqAt.list_str _ _ p.isList hu0
  ·rename_i es;obtain⟨b,ys,rfl,hy,r'⟩:=he;cases ry;obtain⟨its',rv',p',hz'⟩:=I.list hy;by_cases hab:a=b
   ·subst hab;have:=I.gz hx hy;subst this;rw[f9 I ds es xs r r',iT];exact SeqAt.EqAt.same _
   ·have l1:=r.len;have l2:=rv.length;have l3:=r'.len;have l4:=rv'.length;have key:=kL ds es;simp only[deq];rw[<-key];by_cases hl:its.length=its'.length
    ·have:=SeqAt.EqAt.of_refs hab (SeqAt.RcAt.lists (e:=eAt ds es) p.isList p'.isList (by simpa using hl) hu0 (λj h1 h2=>by
      have q:=gk I ds es xs ys its its' A.in1 (by show A.units+1+depL ds<cLine;lia) r r' rv rv' j (by simpa using h1) (by simpa using h2);simpa using q))
     have e1:its.toArray.size=min ds.length es.length:=by rw[iC];lia
     rw[e1]at this;have e2:(ds.length == es.length)=true:=by simp;lia
     rw[e2,Bool.and_true];exact this
    ·have e2:(ds.length == es.length)=false:=by simp;lia
     rw[e2,Bool.and_false];exact SeqAt.EqAt.of_refs hab (SeqAt.RcAt.lists_lengths p.isList p'.isList (by simpa using hl) hu0)
  ·obtain⟨b,ys,rfl,hy,r'⟩:=he;cases ry;obtain⟨_,_,q,_⟩:=I.tuple hy;exact SeqAt.EqAt.list_tuple p.isList (fY q) hu0
 |.tup ds,e,x,y,u,v,A,hu,hd,he,rx,ry=>by
  have hu0:A.units<cLine:=by lia
  simp only[dep]at hu;simp only[Rep]at hd;obtain⟨a,xs,rfl,hx,r⟩:=hd;cases rx;obtain⟨its,rv,p,hz⟩:=I.tuple hx;cases e<;>simp only[Rep]at he
  ·subst he;cases ry;exact SeqAt.EqAt.tuple_none (fY p) hu0
  ·subst he;cases ry;exact SeqAt.EqAt.tuple_bool _ (fY p) hu0
  ·subst he;obtain⟨t,rfl⟩:=ry;exact SeqAt.EqAt.tuple_int _ _ (fY p) hu0
  ·subst he;obtain⟨t,rfl⟩:=ry;exact SeqAt.EqAt.tuple_str _ _ (fY p) hu0
  ·obtain⟨b,ys,rfl,hy,r'⟩:=he;cases ry;obtain⟨_,_,q,_⟩:=I.list hy;exact SeqAt.EqAt.tuple_list (fY p) q.isList hu0
  ·rename_i es;obtain⟨b,ys,rfl,hy,r'⟩:=he;cases ry;obtain⟨its',rv',p',hz'⟩:=I.tuple hy;by_cases hab:a=b
   ·subst hab;have:=I.jP hx hy;subst this;rw[f9 I ds es xs r r',iT];exact SeqAt.EqAt.same _
   ·have l1:=r.len;have l2:=rv.length;have l3:=r'.len;have l4:=rv'.length;have key:=kL ds es;simp only[deq];rw[<-key];have:=SeqAt.EqAt.of_refs hab (SeqAt.RcAt.tuples (e:=eAt ds es) (fY p) (fY p') hu0 (λj h1 h2=>by
      have q:=gk I ds es xs ys its its' A.in1 (by show A.units+1+depL ds<cLine;lia) r r' rv rv' j (by simpa using h1) (by simpa using h2);simpa using q))
    have e1:its.toArray.size=ds.length:=by rw[iC];lia
    have e2:its'.toArray.size=es.length:=by rw[iC];lia
    rw[e1,e2]at this;exact this
theorem gk(I:Inv X pins σ H s):∀(ds es:List D) (xs ys:List V) (us vs:List Value) (A:Around),A.units+depL ds<cLine->RepL X.K H ds xs->RepL X.K H es ys->Vals xs us->Vals ys vs->
  ∀(j:Nat) (h1:j<us.length) (h2:j<vs.length),SeqAt.EqAt A s us[j] vs[j] (eAt ds es j)
 |[],es,xs,ys,us,vs,A,hu,hd,he,rx,ry,j,h1,h2=>by
  subst hd;cases rx;exact absurd h1 (by simp)
 |d::ds,es,xs,ys,us,vs,A,hu,hd,he,rx,ry,j,h1,h2=>by
  simp only[depL]at hu;obtain⟨x,xs',rfl,rd,rds⟩:=hd;cases rx with
  |cons r0 rr=>
   cases es with
   |nil=>
    subst he;cases ry;exact absurd h2 (by simp)
   |cons e es=>
    obtain⟨y,ys',rfl,re,res⟩:=he;cases ry with
    |cons q0 qr=>
     cases j with
     |zero=>
      have:eAt (d::ds) (e::es) 0=deq d e:=by simp[eAt]
      exact Ba I d e x y _ _ A (by lia) rd re r0 q0
     |succ j=>
      have:eAt (d::ds) (e::es) (j+1)=eAt ds es j:=by simp[eAt]
      exact gk I ds es xs' ys' _ _ A (by lia) rds res rr qr j (by simpa using h1) (by simpa using h2)
end
def Ua(K:Wf):R2:=λx y H Q=>∃ds es,((Rep K H (.lst ds) x/\Rep K H (.lst es) y)\/(Rep K H (.tup ds) x/\Rep K H (.tup es) y))/\depL ds<=20/\Q (.bl (deqL ds es)) H
theorem Pz(hu:X.A.units+64<cLine):fZ X (compareOp .Eq) (Ua X.K):=by
 intro pins s σ H x y v u Q I rx ry h;obtain⟨ds,es,h,hdep,q⟩:=h;have hu0:X.A.units<cLine:=by lia
 have hin:X.A.in1.units+depL ds<cLine:=by show X.A.units+1+depL ds<cLine;lia
 have key:=kL ds es;rcases h with ⟨h1,h2⟩|⟨h1,h2⟩
 ·simp only[Rep]at h1 h2;obtain⟨a,xs,rfl,hx,r⟩:=h1;obtain⟨b,ys,rfl,hy,r'⟩:=h2;cases rx;cases ry;obtain⟨its,rv,p,hz⟩:=I.list hx;obtain⟨its',rv',p',hz'⟩:=I.list hy;have l1:=r.len;have l2:=rv.length;have l3:=r'.len;have l4:=rv'.length;by_cases hl:its.length=its'.length
  ·refine SeqAt.eq_listAt (e:=eAt ds es) p.isList p'.isList (by simpa using hl) hu0 (λj h1 h2=>?_) ?_
   ·have q:=gk I ds es xs ys its its' X.A.in1 hin r r' rv rv' j (by simpa using h1) (by simpa using h2);simpa using q
   ·have e1:its.toArray.size=min ds.length es.length:=by rw[iC];lia
    have e2:(ds.length == es.length)=true:=by simp;lia
    rw[e2,Bool.and_true]at key;rw[e1,key];exact⟨.bl (deqL ds es),H,I,rfl,q⟩
  ·have e2:(ds.length == es.length)=false:=by simp;lia
   rw[e2,Bool.and_false]at key;rw[<-key]at q;exact SeqAt.eq_list_lengthsAt p.isList p'.isList (by simpa using hl) hu0 ⟨.bl false,H,I,rfl,q⟩
 ·simp only[Rep]at h1 h2;obtain⟨a,xs,rfl,hx,r⟩:=h1;obtain⟨b,ys,rfl,hy,r'⟩:=h2;cases rx;cases ry;obtain⟨its,rv,p,hz⟩:=I.tuple hx;obtain⟨its',rv',p',hz'⟩:=I.tuple hy;have l1:=r.len;have l2:=rv.length;have l3:=r'.len;have l4:=rv'.length;refine SeqAt.eq_tupleAt (e:=eAt ds es) (fY p) (fY p') hu0 (λj h1 h2=>?_) ?_
  ·have q:=gk I ds es xs ys its its' X.A.in1 hin r r' rv rv' j (by simpa using h1) (by simpa using h2);simpa using q
  ·have e1:its.toArray.size=ds.length:=by rw[iC];lia
   have e2:its'.toArray.size=es.length:=by rw[iC];lia
   rw[e1,e2,key];exact⟨.bl (deqL ds es),H,I,rfl,q⟩
theorem RepL.ints{K:Wf}{H:Hp}:∀ns:List Int,RepL K H (ns.map D.int) 'u'
 |[]=>by simp only[List.map_nil,RepL]
 |n::ns=>by simp only[List.map_cons,RepL];exact⟨_,_,rfl,by simp only[Rep],RepL.ints ns⟩
end
section
variable{X:Cx}{K:Wf}
theorem cz(e:X.K=K):RG X (OU K):=e▸Kt
theorem K7(e:X.K=K):RG X (tD K):=e▸ON
theorem fA(e:X.K=K):V4 X (RU K):=e▸Mc
theorem i6(e:X.K=K):fZ X (binaryOp .Add) (Ny K):=e▸LI
theorem Kx(e:X.K=K):fZ X (compareOp .In) (Wj K false):=e▸Cr
theorem zt(e:X.K=K):fZ X (compareOp .NotIn) (Wj K true):=e▸tW
theorem A5(hu:X.A.units+64<cLine)(e:X.K=K):fZ X (compareOp .Eq) (Ua K):=e▸Pz hu
theorem b_(e:X.K=K):cL X (.builtin "len") (λxs H Q=>∃x n,xs=[x]/\UE K x H n/\Q (.int n) H):=e▸Eb
theorem m7(e:X.K=K):cL X (.builtin "isinstance") (RW K):=e▸Fu
theorem dC(e:X.K=K):cL X (.type "list") (λxs H Q=>∃p ys,xs=[.ref p]/\(aH K H p ys\/bg K H p ys)/\∀l,H l=none->Q (.ref l) (upd H l (.lst ys))):=e▸oP
theorem cN(e:X.K=K)(hl:PE X l tl):PI X tg l (xS K tl):=e▸Mh hl
theorem KP(e:X.K=K)(hl:PE X l tl):PI X tg l (Lz K tl):=e▸O_ hl
theorem bV{es:List Expr}{k:Nat}{t:Q_}{n:Nat}{pos:Pos}(e:X.K=K)(hc:X.calm=true)(h:SN X es t)
  (hn:(assignEach es X.env).length=n:=by rfl) (hst:(assignEach es X.env).findIdx? (·.1)=none:=by rfl):PG X (.Tuple es k pos) (SD K n t):=e▸QD hc h hn hst
end
section
variable{X:Cx}
def Wk:V->List V->Hp->VK->Prop:=λx vs H Q=>∃z y,x=.str z/\vs=[.str y]/\Q (.bl (Txt.startswith z y)) H
def WW:V->List V->Hp->VK->Prop:=λx vs H Q=>∃z y i,x=.str z/\vs=[.str y]/\(∃rest,Builtin.Str.occurrences z y 0 z.length 1=i::rest)/\Q (.int (i:Nat)) H
end
def SX(h:Heap)(e:Addr)(cls:Value)(dx:Option Addr)(fl:Value)(T:Addr):Prop:=
 ∃oe vs oT ts,h.get? e=some oe/\oe.cls=cls/\oe.dict=dx/\oe.data=.fields vs/\vs[1]?=some (.ref T)/\T≠e/\h.get? T=some oT/\oT.data=.fields ts/\ts[3]?=some fl
def CXE(P:Program)(w:World):CY:=λouter H s E e s'=>∃(a T:Addr) (cls:Value) (dx:Option Addr) (H':Hp),e=.ref a/\s'.os=s.os/\AllBare s'.gens/\Un (Bc outer) [] H H' s.heap s'.heap/\gT P w H' s'.heap/\
 s.heap.get? a=none/\s.heap.get? T=none/\H' a=none/\H' T=none/\SX s'.heap a cls dx .none T/\E cls dx H'
section
variable{X:Cx}
def WR(C:Addr)(E:XK)(t:TA):TS:=λ_ σ H=>t σ H λvs H1=>vs.length<=sizeLine/\E (.ref C) none H1
end
end L2
namespace L2
open PySem PySem.Spec PyProof.Rows PySem.W
structure Ux(K:Frag)(C:Addr):Prop where
 ga:findIn K (.ref C) "__getattribute__" = some (some (.builtin "BaseException.__getattribute__"))
 gn:findIn K (.ref C) "__getattr__" = some none
 cl:findIn K (.ref C) "__class__" = some (some 'K')
 sg:specialIn K 'K' "__get__" = some (some (.builtin "getset_descriptor.__get__"))
 tk:takesIn K 'K'=some true
 mo:mroIn K C (.type "object")=some true
 mb:mroIn K C (.type "BaseException")=some true
end L2
namespace L2
open PySem PySem.Spec PyProof.Rows
structure Catch(K:Wf)(B C:Addr):Prop where
 ty:PySem.W.instIn K (.ref B) (.type "tuple")=some false
 bb:mroIn K B (.type "BaseException")=some true
 sub:mroIn K C (.ref B)=some true
def XO(a C:Addr)(dx:Option Addr):HO:=.ext λh=>∃ob vs,h.get? a=some ob/\ob.cls=.ref C/\ob.dict=dx/\ob.data=.fields vs
abbrev XS:=St->XK
def XP(X:Cx)(pins:Lo)(E:XS)(e:Value)(s':Shared):Prop:=∃σ H s,Inv X pins σ H s/\CXE X.prog X.w X.stack H s (E σ) e s'
abbrev Kj:=St->Hp->VK->XK->Prop
abbrev Kg:=Ends->XS->St->Hp->Prop
section
variable{X:Cx}{k:Nat}{f C:Addr}{fd:FuncData}{ps:List Str}{sp:Sp}{dvs:List V}{ds:List Value}{x m:Str}{p pos apos:Pos}{e o:Expr}{es:List Expr}{ta:TE}{t:TA}
def Z0(sp:Sp)(dvs:List V)(t:TA):Kj:=λσ H Q E=>t σ H λvs H1=>sp (vs++dvs) H1 Q E
def Zl(C:Addr)(m:Str)(sp:Sp)(dvs:List V)(ta:TE)(t:TA):Kj:=λσ H Q E=>ta σ H λx H1=>∃a dx fs,x=.ref a/\H1 a=some (.ins C dx fs)/\fs.lookup m=none/\
 t σ H1 λvs H2=>sp (x::(vs++dvs)) H2 Q E
end
section
variable{X:Cx}{st:Stmt}{rest:List Stmt}{t:TS}{tx ux:Kg}{e:Expr}{te:Kj}{pos:Pos}
def ZX(te:Kj):Kg:=λD E σ H=>te σ H (λ_ H1=>D.nx σ H1) (E σ)
def aau(i:Nat)(te:Kj):Kg:=λD E σ H=>te σ H (λv H1=>D.nx (σ.set i (some v)) H1) (E σ)
def aaq(te:Kj):Kg:=λD E σ H=>te σ H D.rt (E σ)
def xOf(t:TS):Kg:=λD _ σ H=>t D σ H
def aat(t u:Kg):Kg:=λD E σ H=>t { D with nx:=u D E } E σ H
end
section
variable{X:Cx}{pins:Lo}{σ:St}{H H':Hp}{s s':Shared}{a T:Addr}{cls:Value}{dx:Option Addr}{M:Model}{A:Around}{E:Vs}
def Py(dx:Option Addr)(H:Hp):Prop:=dx=none\/∃d fs,dx=some d/\H d=some (.xd fs)
end
def un1(i:Nat)(D:Ends):Ends:={ nx:=λσ H=>D.nx (σ.set i none) H,rt:=D.rt,bk:=λσ H=>D.bk (σ.set i none) H,ct:=λσ H=>D.ct (σ.set i none) H }
def X7(K:Wf)(B:Addr)(i:Nat)(tb:Kg)(th:TS):TS:=λD σ H=>
 tb D (λσ' cls dx H'=>∃C,cls=.ref C/\Catch K B C/\Py dx H'/\∀a,H' a=none->th (un1 i D) (σ'.set i (some (.ref a))) (upd H' a (XO a C dx))) σ H
def ZT(K:Wf)(B:Addr)(tb:Kg)(th:TS):TS:=λD σ H=>
 tb D (λσ' cls dx H'=>∃C,cls=.ref C/\Catch K B C/\Py dx H'/\th D σ' H') σ H
section
variable{X:Cx}
def ZN(t:TE):TE:=λσ H Q=>t σ H λx H1=>∃z,x=.str z/\(reprText z).length<=sizeLine/\Q (.str (reprText z)) H1
def aao(t:TE):TE:=λσ H Q=>t σ H λx H1=>(∃z,x=.str z/\z.length<=sizeLine/\Q (.str z) H1)\/∃i:Int,x=.int i/\i.natAbs.log2<1920/\Q (.str (toString i)) H1
abbrev TJ:=Str->St->Hp->VK->Prop
def aaj:TJ:=λacc _ H Q=>acc.length<=sizeLine/\Q (.str acc) H
def Z2(t:TE)(u:TJ):TJ:=λacc σ H Q=>t σ H λx H1=>∃y,x=.str y/\(acc++y).length<=sizeLine/\u (acc++y) σ H1 Q
def VH(t:TJ):TE:=λσ H Q=>t Str.empty σ H Q
def rJoin(K:Wf):V->List V->Hp->VK->Prop:=λx vs H Q=>∃z a zs,x=.str z/\vs=[.ref a]/\aH K H a (zs.map V.str)/\JoinOk z zs=true/\Q (.str (Txt.join z zs)) H
def Z8(K:Wf)(H:Hp)(x:V)(t:Value):Prop:=iQ K H x t\/∃a C dx,x=.ref a/\t=.ref C/\H a=some (XO a C dx)/\Py dx H/\Ux K C
def ZI:V->Value
 |.ref a=>.ref a
 |.ty n=>.type n
 |_=>.none
def TR:V->Bool
 |.ref _=>true
 |.ty _=>true
 |_=>false
def aax(K:Wf):List V->Hp->VK->Prop:=λxs H Q=>∃x c t b,xs=[x,c]/\TR c=true/\Z8 K H x t/\kitOne K t (ZI c)=some b/\Q (.bl b) H
def aaw(K:Wf):List V->Hp->VK->Prop:=λxs H Q=>∃x tp cs t b,xs=[x,.ref tp]/\H tp=some (.tup cs)/\cs.all TR=true/\Z8 K H x t/\PySem.W.kitAny K t (cs.map ZI)=some b/\Q (.bl b) H
end
end L2
namespace L2
theorem dA(h1:PE X e t)(h2:PE X e u):PE X e (λσ H Q=>t σ H Q\/u σ H Q):=λpins s σ H Q I h=>by
 rcases h with h|h
 ·exact h1 pins s σ H Q I h
 ·exact h2 pins s σ H Q I h
end L2
namespace L2
open PySem PySem.Spec PyProof.Rows
structure aB where
 a:Addr
 at_:Int
 rule:Str
 name:Str
 add:Int
 soft:Bool
structure aM where
 t:Addr
 lw:Addr
 lf:Addr
 kind:Str
 step:Int
 words:List Int
 fills:List aB
structure aw where
 a:Addr
 name:Str
 sort:Str
 st:Int
 off:Int
structure ah where
 t:Addr
 ls:Addr
 ln:Addr
 name:Str
 aO:List aM
 aS:List aw
abbrev aB.v(f:aB):V:=.ref f.a
abbrev aM.v(s:aM):V:=.ref s.t
abbrev aw.v(n:aw):V:=.ref n.a
abbrev ah.v(p:ah):V:=.ref p.t
def aB.At(H:Hp)(f:aB):Prop:=H f.a=some (.tup [.int f.at_,.str f.rule,.str f.name,.int f.add,.bl f.soft])
def aw.At(H:Hp)(n:aw):Prop:=H n.a=some (.tup [.str n.name,.str n.sort,.int n.st,.int n.off])
structure aM.At(H:Hp)(s:aM):Prop where
 top:H s.t=some (.tup [.str s.kind,.int s.step,.ref s.lw,.ref s.lf])
 wd:H s.lw=some (.lst (s.words.map V.int))
 fl:H s.lf=some (.lst (s.fills.map aB.v))
 fs:∀f∈s.fills,f.At H
structure ah.At(H:Hp)(p:ah):Prop where
 top:H p.t=some (.tup [.str p.name,.ref p.ls,.ref p.ln])
 sl:H p.ls=some (.lst (p.aO.map aM.v))
 nl:H p.ln=some (.lst (p.aS.map aw.v))
 ss:∀s∈p.aO,s.At H
 ns:∀n∈p.aS,n.At H
def aM.lists(s:aM):List Addr:=[s.lw,s.lf]
def ah.lists(p:ah):List Addr:=p.ls::p.ln::p.aO.flatMap aM.lists
def bj(ps:List ah):List Addr:=ps.flatMap ah.lists
structure dZ(H:Hp)(L:Addr)(ps:List ah):Prop where
 top:H L=some (.lst (ps.map ah.v))
 at_:∀p∈ps,p.At H
 nd:(L::bj ps).Nodup
theorem aB.At.mono{H H':Hp}{f:aB}(h:f.At H)(e:aI H H'):f.At H':=e _ _ h
theorem aw.At.mono{H H':Hp}{n:aw}(h:n.At H)(e:aI H H'):n.At H':=e _ _ h
theorem aM.At.mono{H H':Hp}{s:aM}(h:s.At H)(e:aI H H'):s.At H':=⟨e _ _ h.top,e _ _ h.wd,e _ _ h.fl,λf hf=>(h.fs f hf).mono e⟩
theorem ah.At.mono{H H':Hp}{p:ah}(h:p.At H)(e:aI H H'):p.At H':=⟨e _ _ h.top,e _ _ h.sl,e _ _ h.nl,λs hs=>(h.ss s hs).mono e,λn hn=>(h.ns n hn).mono e⟩
theorem dZ.mono{H H':Hp}{L:Addr}{ps:List ah}(h:dZ H L ps)(e:aI H H'):dZ H' L ps:=⟨e _ _ h.top,λp hp=>(h.at_ p hp).mono e,h.nd⟩
def ff(H H':Hp)(l:Addr):Prop:=(∃xs,H l=some (.lst xs))/\∀b o,H b=some o->b≠l->H' b=some o
theorem ff.upd(h:H l=some (.lst xs)):ff H (L2.upd H l o) l:=⟨⟨xs,h⟩,λb u e n=>(ae n)▸e⟩
theorem ff.tup{H H':Hp}{l a:Addr}{xs:List V}(b:ff H H' l)(h:H a=some (.tup xs)):H' a=some (.tup xs):=by
 obtain⟨ys,hl⟩:=b.1;exact b.2 _ _ h λe=>by rw[e,hl]at h;cases h
theorem aB.At.but{H H':Hp}{l:Addr}{f:aB}(h:f.At H)(b:ff H H' l):f.At H':=b.tup h
theorem aw.At.but{H H':Hp}{l:Addr}{n:aw}(h:n.At H)(b:ff H H' l):n.At H':=b.tup h
theorem aM.At.but{H H':Hp}{l:Addr}{s:aM}(h:s.At H)(b:ff H H' l)(n:l∉s.lists):s.At H':=
 ⟨b.tup h.top,b.2 _ _ h.wd λe=>n (by simp[aM.lists,e]),b.2 _ _ h.fl λe=>n (by simp[aM.lists,e]),λf hf=>(h.fs f hf).but b⟩
theorem ah.At.but{H H':Hp}{l:Addr}{p:ah}(h:p.At H)(b:ff H H' l)(n:l∉p.lists):p.At H':=
 ⟨b.tup h.top,b.2 _ _ h.sl λe=>n (by simp[ah.lists,e]),b.2 _ _ h.nl λe=>n (by simp[ah.lists,e]),
  λs hs=>(h.ss s hs).but b λz=>n (by simp only[ah.lists,List.mem_cons];exact .inr (.inr (List.mem_flatMap.mpr ⟨s,hs,z⟩))),λm hm=>(h.ns m hm).but b⟩
theorem aM.At.list{H:Hp}{s:aM}(h:s.At H){b:Addr}(hb:b∈s.lists):∃xs,H b=some (.lst xs):=by
 simp only[aM.lists,List.mem_cons,List.not_mem_nil,or_false]at hb;rcases hb with e|e
 ·rw[e];exact⟨_,h.wd⟩
 ·rw[e];exact⟨_,h.fl⟩
theorem ah.At.list{H:Hp}{p:ah}(h:p.At H){b:Addr}(hb:b∈p.lists):∃xs,H b=some (.lst xs):=by
 simp only[ah.lists,List.mem_cons]at hb;rcases hb with e|e|e
 ·rw[e];exact⟨_,h.sl⟩
 ·rw[e];exact⟨_,h.nl⟩
 ·obtain⟨s,hs,z⟩:=jE.mp e;exact(h.ss s hs).list z
theorem dZ.list{H:Hp}{L:Addr}{ps:List ah}(h:dZ H L ps){b:Addr}(hb:b∈L::bj ps):∃xs,H b=some (.lst xs):=by
 rcases iu.mp hb with e|e
 ·rw[e];exact⟨_,h.top⟩
 ·obtain⟨p,hp,z⟩:=jE.mp e;exact(h.at_ p hp).list z
theorem dZ.fresh(h:dZ H L ps){b:Addr}(hb:H b=none):b∉L::bj ps:=λz=>by
 obtain⟨xs,e⟩:=h.list z;rw[hb]at e;cases e
theorem gp(ps:List ah)(p:ah):bj (ps++[p])=bj ps++p.lists:=by simp[bj,List.flatMap_append]
theorem dZ.apart(h:dZ H L (ps++[p])):(∀q∈ps,∀b∈p.lists,b∉q.lists)/\p.lists.Nodup/\L∉p.lists/\∀q∈ps,L∉q.lists:=by
 have n:=h.nd;rw[gp]at n;obtain⟨n1,n2⟩:=mH.mp n;obtain⟨n3,n4,n5⟩:=gX.mp n2;refine⟨λq hq b hb z=>n5 b (jE.mpr ⟨q,hq,z⟩) b hb rfl,n4,λz=>n1 (gi _ z),λq hq z=>n1 (gG _ (jE.mpr ⟨q,hq,z⟩))⟩
theorem dZ.nil(h:H L=some (.lst [])):dZ H L []:=⟨h,λp hp=>absurd hp (by simp),by simp[bj]⟩
theorem dZ.DG(h:dZ H L ps)(h1:H t=some (.tup [.str nm,.ref ls,.ref ln]))(h2:H ls=some (.lst []))(h3:H ln=some (.lst []))(n1:ls≠ln)
  (n2:ls∉L::bj ps) (n3:ln∉L::bj ps):dZ (upd H L (.lst (ps.map ah.v++[.ref t]))) L (ps++[⟨t,ls,ln,nm,[],[]⟩]):=by
 have b:ff H (upd H L (.lst (ps.map ah.v++[.ref t]))) L:=ff.upd h.top;have nL:=(mH.mp h.nd).1;refine⟨by rw[aJ];simp,λp hp=>?_,?_⟩
 ·rcases bM.mp hp with z|z
  ·exact(h.at_ p z).but b λq=>nL (jE.mpr ⟨p,z,q⟩)
  ·have e:=cx.mp z;subst e;refine⟨b.tup h1,b.2 _ _ h2 λ(e:ls=L)=>n2 (e▸ko),b.2 _ _ h3 λ(e:ln=L)=>n3 (e▸ko),λs hs=>absurd hs (by simp),λn hn=>absurd hn (by simp)⟩
 ·rw[gp];show(L::(bj ps++[ls,ln])).Nodup;rw[<-Ve];refine gX.mpr ⟨h.nd,by simp[n1],λx hx y hy e=>?_⟩;subst e;simp only[List.mem_cons,List.not_mem_nil,or_false]at hy;rcases hy with e|e
  ·subst e;exact n2 hx
  ·subst e;exact n3 hx
theorem dZ.last(h:dZ H L (ps++[p]))(hl:l∈p.lists)(ht:p'.t=p.t)(hp:p'.At (upd H l o))(hn:(L::bj (ps++[p'])).Nodup):dZ (upd H l o) L (ps++[p']):=by
 obtain⟨a1,a2,a3,a4⟩:=h.apart;obtain⟨xs,hx⟩:=(h.at_ p (by simp)).list hl;have b:ff H (upd H l o) l:=ff.upd hx;refine⟨?_,λq hq=>?_,hn⟩
 ·rw[b.2 _ _ h.top λe=>a3 (by rw[e];exact hl)];simp[ah.v,ht]
 ·rcases bM.mp hq with z|z
  ·exact(h.at_ q (gG _ z)).but b (a1 q z l hl)
  ·rw[cx.mp z];exact hp
theorem dZ.zj{H:Hp}{L t lw lf:Addr}{kind:Str}{step:Int}{ps:List ah}{p:ah}(h:dZ H L (ps++[p]))(h1:H t=some (.tup [.str kind,.int step,.ref lw,.ref lf]))(h2:H lw=some (.lst []))(h3:H lf=some (.lst []))
  (n1:lw≠lf) (n2:lw∉L::bj (ps++[p])) (n3:lf∉L::bj (ps++[p])):
  dZ (upd H p.ls (.lst (p.aO.map aM.v++[.ref t]))) L (ps++[{ p with aO:=p.aO++[⟨t,lw,lf,kind,step,[],[]⟩] }]):=by
 have hp:=h.at_ p (by simp);obtain⟨a1,a2,a3,a4⟩:=h.apart;have b:ff H (upd H p.ls (.lst (p.aO.map aM.v++[.ref t]))) p.ls:=ff.upd hp.sl;have in1:∀x,x∈p.lists->x∈L::bj (ps++[p]):=λx hx=>jD _ (by rw[gp];exact gi _ hx);have hls:p.ls∈p.lists:=by simp[ah.lists]
 have nd:p.ls≠p.ln/\p.ls∉p.aO.flatMap aM.lists:=by
  have:=a2;simp only[ah.lists,List.nodup_cons,List.mem_cons,not_or]at this;exact this.1
 refine h.last hls rfl ⟨b.tup hp.top,by rw[aJ];simp,b.2 _ _ hp.nl (Ne.symm nd.1),λs hs=>?_,λn hn=>(hp.ns n hn).but b⟩ ?_
 ·rcases bM.mp hs with z|z
  ·exact(hp.ss s z).but b λq=>nd.2 (jE.mpr ⟨s,z,q⟩)
  ·have e:=cx.mp z;subst e;exact⟨b.tup h1,b.2 _ _ h2 λ(e:lw=p.ls)=>n2 (in1 _ (e▸hls)),b.2 _ _ h3 λ(e:lf=p.ls)=>n3 (in1 _ (e▸hls)),λf hf=>absurd hf (by simp)⟩
 ·have e:L::bj (ps++[{ p with aO:=p.aO++[⟨t,lw,lf,kind,step,[],[]⟩] }])=(L::bj (ps++[p]))++[lw,lf]:=by
   rw[gp,gp];simp[ah.lists,aM.lists,List.flatMap_append]
  rw[e];refine gX.mpr ⟨h.nd,by simp[n1],λx hx y hy e=>?_⟩;subst e;simp only[List.mem_cons,List.not_mem_nil,or_false]at hy;rcases hy with e|e
  ·subst e;exact n2 hx
  ·subst e;exact n3 hx
theorem dZ.zW(h:dZ H L (ps++[p]))(h1:n.At H):dZ (upd H p.ln (.lst (p.aS.map aw.v++[n.v]))) L (ps++[{ p with aS:=p.aS++[n] }]):=by
 have hp:=h.at_ p (by simp);obtain⟨a1,a2,a3,a4⟩:=h.apart;have b:ff H (upd H p.ln (.lst (p.aS.map aw.v++[n.v]))) p.ln:=ff.upd hp.nl;have hln:p.ln∈p.lists:=by simp[ah.lists]
 have nd:p.ls≠p.ln/\p.ln∉p.aO.flatMap aM.lists:=by
  have:=a2;simp only[ah.lists,List.nodup_cons,List.mem_cons,not_or]at this;exact⟨this.1.1,this.2.1⟩
 refine h.last hln rfl ⟨b.tup hp.top,b.2 _ _ hp.sl nd.1,by rw[aJ];simp,λs hs=>(hp.ss s hs).but b λq=>nd.2 (List.mem_flatMap.mpr ⟨s,hs,q⟩),λm hm=>?_⟩ ?_
 ·rcases bM.mp hm with z|z
  ·exact(hp.ns m z).but b
  ·rw[cx.mp z];exact h1.but b
 ·have:=h.nd;rw[gp]at this ⊢;exact this
theorem dZ.ka(h:dZ H L (ps++[p]))(e:p.aO=ss++[s]):s.lw∈p.lists/\s.lf∈p.lists/\s.lw≠s.lf/\(∀b∈s.lists,b≠p.ls/\b≠p.ln/\∀r∈ss,b∉r.lists):=by
 obtain⟨a1,a2,a3,a4⟩:=h.apart;have hs:s∈p.aO:=by rw[e];simp
 have m:∀b∈s.lists,b∈p.aO.flatMap aM.lists:=λb hb=>jE.mpr ⟨s,hs,hb⟩;have m':∀b∈s.lists,b∈p.lists:=λb hb=>by simp only[ah.lists,List.mem_cons];exact .inr (.inr (m b hb))
 simp only[ah.lists,List.nodup_cons,List.mem_cons,not_or]at a2;obtain⟨⟨_,b1⟩,b2,b3⟩:=a2;rw[e,CU]at b3;obtain⟨_,c2,c3⟩:=gX.mp b3;have c2':s.lists.Nodup:=by simpa using c2
 refine⟨m' _ (by simp[aM.lists]),m' _ (by simp[aM.lists]),?_,λb hb=>⟨λz=>b1 (z▸m b hb),λz=>b2 (z▸m b hb),λr hr z=>c3 b (List.mem_flatMap.mpr ⟨r,hr,z⟩) b (by simpa using hb) rfl⟩⟩;simpa [aM.lists] using c2'
theorem dZ.LN(h:dZ H L (ps++[p]))(e:p.aO=ss++[s])(h1:f.At H):
  dZ (upd H s.lf (.lst (s.fills.map aB.v++[f.v]))) L (ps++[{ p with aO:=ss++[{ s with fills:=s.fills++[f] }] }]):=by
 have hp:=h.at_ p (by simp);obtain⟨m1,m2,n1,n2⟩:=h.ka e;have hs:s.At H:=hp.ss s (by rw[e];simp);have b:ff H (upd H s.lf (.lst (s.fills.map aB.v++[f.v]))) s.lf:=ff.upd hs.fl;obtain⟨q1,q2,q3⟩:=n2 s.lf (by simp[aM.lists]);refine h.last m2 rfl ⟨b.tup hp.top,?_,b.2 _ _ hp.nl (Ne.symm q2),λr hr=>?_,λn hn=>(hp.ns n hn).but b⟩ ?_
 ·rw[b.2 _ _ hp.sl (Ne.symm q1),e];simp[aM.v]
 ·rcases bM.mp hr with z|z
  ·exact(hp.ss r (by rw[e];exact gG _ z)).but b (q3 r z)
  ·have er:=cx.mp z;subst er;refine⟨b.tup hs.top,b.2 _ _ hs.wd n1,by rw[aJ];simp,λg hg=>?_⟩;rcases bM.mp hg with y|y
   ·exact(hs.fs g y).but b
   ·rw[cx.mp y];exact h1.but b
 ·have:=h.nd;rw[gp]at this ⊢;simp only[ah.lists,e,List.flatMap_append]at this ⊢;exact this
theorem dZ.AB(h:dZ H L (ps++[p]))(e:p.aO=ss++[s]):
  dZ (upd H s.lw (.lst (s.words.map V.int++[.int i]))) L (ps++[{ p with aO:=ss++[{ s with words:=s.words++[i] }] }]):=by
 have hp:=h.at_ p (by simp);obtain⟨m1,m2,n1,n2⟩:=h.ka e;have hs:s.At H:=hp.ss s (by rw[e];simp);have b:ff H (upd H s.lw (.lst (s.words.map V.int++[.int i]))) s.lw:=ff.upd hs.wd;obtain⟨q1,q2,q3⟩:=n2 s.lw (by simp[aM.lists]);refine h.last m1 rfl ⟨b.tup hp.top,?_,b.2 _ _ hp.nl (Ne.symm q2),λr hr=>?_,λn hn=>(hp.ns n hn).but b⟩ ?_
 ·rw[b.2 _ _ hp.sl (Ne.symm q1),e];simp[aM.v]
 ·rcases bM.mp hr with z|z
  ·exact(hp.ss r (by rw[e];exact gG _ z)).but b (q3 r z)
  ·have er:=cx.mp z;subst er;exact⟨b.tup hs.top,by rw[aJ];simp,b.2 _ _ hs.fl (Ne.symm n1),λg hg=>(hs.fs g hg).but b⟩
 ·have:=h.nd;rw[gp]at this ⊢;simp only[ah.lists,e,List.flatMap_append]at this ⊢;exact this
def aB.d(f:aB):D:=.tup [.int f.at_,.str f.rule,.str f.name,.int f.add,.bl f.soft]
def aM.d(s:aM):D:=.tup [.str s.kind,.int s.step,.lst (s.words.map D.int),.lst (s.fills.map aB.d)]
def aw.d(n:aw):D:=.tup [.str n.name,.str n.sort,.int n.st,.int n.off]
def ah.d(p:ah):D:=.tup [.str p.name,.lst (p.aO.map aM.d),.lst (p.aS.map aw.d)]
theorem RepL.map{K:Wf}{H:Hp}{α:Type}{f:α->D}{g:α->V}:∀{xs:List α},(∀x∈xs,Rep K H (f x) (g x))->RepL K H (xs.map f) (xs.map g)
 |[],_=>by simp[RepL]
 |x::xs,h=>by
  simp only[List.map_cons,RepL];exact⟨_,_,rfl,h x (ko ..),RepL.map λy hy=>h y (jD _ hy)⟩
theorem aB.At.rep{K:Wf}{H:Hp}{f:aB}(h:f.At H):Rep K H f.d f.v:=by
 simp only[aB.d,Rep];exact⟨_,_,rfl,bg.of h,by simp[RepL,Rep]⟩
theorem aw.At.rep{K:Wf}{H:Hp}{n:aw}(h:n.At H):Rep K H n.d n.v:=by
 simp only[aw.d,Rep];exact⟨_,_,rfl,bg.of h,by simp[RepL,Rep]⟩
theorem aM.At.rep{K:Wf}{H:Hp}{s:aM}(h:s.At H):Rep K H s.d s.v:=by
 simp only[aM.d,Rep];refine⟨_,_,rfl,bg.of h.top,?_⟩;simp only[RepL,Rep];exact⟨_,_,rfl,rfl,_,_,rfl,rfl,_,_,rfl,⟨_,_,rfl,aH.of h.wd,RepL.ints _⟩,_,_,rfl,⟨_,_,rfl,aH.of h.fl,RepL.map λf hf=>(h.fs f hf).rep⟩,rfl⟩
theorem ah.At.rep{K:Wf}{H:Hp}{p:ah}(h:p.At H):Rep K H p.d p.v:=by
 simp only[ah.d,Rep];refine⟨_,_,rfl,bg.of h.top,?_⟩;simp only[RepL,Rep];exact⟨_,_,rfl,rfl,_,_,rfl,⟨_,_,rfl,aH.of h.sl,RepL.map λs hs=>(h.ss s hs).rep⟩,_,_,rfl,⟨_,_,rfl,aH.of h.nl,RepL.map λn hn=>(h.ns n hn).rep⟩,rfl⟩
theorem dm{α:Type}{f:α->D}{n:Nat}:∀{xs:List α},(∀x∈xs,dep (f x)<=n)->depL (xs.map f)<=n
 |[],_=>by simp[depL]
 |x::xs,h=>by
  simp only[List.map_cons,depL];exact Nat.max_le.mpr ⟨h x (ko ..),dm λy hy=>h y (jD _ hy)⟩
theorem IT(f:aB):dep f.d<=1:=by simp[aB.d,dep,depL]
theorem FR(n:aw):dep n.d<=1:=by simp[aw.d,dep,depL]
theorem F6(s:aM):dep s.d<=3:=by
 have h1:depL (s.words.map D.int)<=0:=dm λx _=>by simp[dep]
 have h2:depL (s.fills.map aB.d)<=1:=dm λx _=>IT x;simp only[aM.d,dep,depL];lia
theorem PY(p:ah):dep p.d<=5:=by
 have h1:depL (p.aO.map aM.d)<=3:=dm λx _=>F6 x;have h2:depL (p.aS.map aw.d)<=1:=dm λx _=>FR x;simp only[ah.d,dep,depL];lia
theorem yo(ds:List D):deqL ds []=decide (ds=[]):=by cases ds<;>simp[deqL]
theorem dZ.rep{K:Wf}{H:Hp}{L:Addr}{ps:List ah}(h:dZ H L ps):Rep K H (.lst (ps.map ah.d)) (.ref L):=by
 simp only[Rep];exact⟨_,_,rfl,aH.of h.top,RepL.map λp hp=>(h.at_ p hp).rep⟩
end L2
namespace L2
open PySem PySem.Spec PyProof.Rows PySem.W
abbrev VE:List Value:=[.type "ValueError", .type "Exception", .type "BaseException", .type "object"]
def ownInit(K:Frag)(C fI:Addr):Bool:=
 match K.lookup C with
 |none=>false
 |some ob=>
  match ob.cls,ob.data,ob.slots.toList with
  |.type "type", .cls cd,[_,_,_,_,some (.builtin n),_]=>
   (match cd.mro with
    |.ref C'::bm=>C' == C&&(n == "ValueError.__new__" && (!cd.hasDel&&(tailIn K VE bm&&(nsOkIn K cd.ns&&(cd.hasDict&&nsIn K cd.ns "__init__" == some (some (.ref fI)))))))
    |_=>false)
  |_,_,_=>false
def Bh:List Value->Bool
 |.ref _::r=>Bh r
 |l=>l == VE
def TY(K:Frag)(C:Addr):Bool:=(clsIn K C).any λcd=>cd.hasDict&&Bh cd.mro
end L2
namespace L2
open PySem PySem.Spec PyProof.Rows PySem.W
def XN(a C:Addr)(dx:Option Addr):HO:=.ext λh=>∃ob vs v0,h.get? a=some ob/\ob.cls=.ref C/\ob.dict=dx/\ob.data=.fields vs/\vs[0]?=some v0/\vs[1]?=some .none
def XD(d:Addr)(fs:List (Str×V)):HO:=.ext λh=>∃mA,h.Ns1 d mA/\(∀f,fV (fs.lookup f) (mA f))/\PySem.Within mA (fs.map (·.1))
def del(H:Hp)(a:Addr):Hp:=λb=>if b=a then none else H b
end L2
namespace L2
open PySem PySem.Spec PyProof.Rows PySem.W
structure UD(K:Frag)(C f:Addr):Prop where
 ini:ownInit K C f=true
 ei:TY K C=true
 sa:findIn K (.ref C) "__setattr__" = some (some (.builtin "object.__setattr__"))
 fn:isFn K (.ref f)=true
def VN(C:Addr)(sp:Sp)(E:XK)(t:TA):TS:=λ_ σ H=>t σ H λvs H1=>vs.length<=sizeLine/\∀x,H1 x=none->sp (.ref x::vs) (upd H1 x (XN x C none)) (λv H2=>v=.bB/\
 ((H2 x=some (XN x C none)/\E (.ref C) none (del H2 x))\/∃d fs,d≠x/\H2 x=some (XN x C (some d))/\H2 d=some (XD d fs)/\E (.ref C) (some d) (del (upd H2 d (.xd fs)) x))) E0
def XX(K:Frag)(t:TA):TE:=λσ H Q=>t σ H λvs H1=>∃a C dx rest f,vs=.ref a::rest/\H1 a=some (XN a C dx)/\UD K C f/\rest.length<=sizeLine/\Q .bB H1
def Z9(K:Frag)(ta tv:TE)(f:Str):TS:=λD σ H=>tv σ H λy H1=>ta σ H1 λx H2=>∃a C fI dx,x=.ref a/\H2 a=some (XN a C dx)/\UD K C fI/\bI K C f/\
 ((dx=none/\∀d,H2 d=none->D.nx σ (upd (upd H2 d (XD d [(f,y)])) a (XN a C (some d))))\/∃d fs,dx=some d/\H2 d=some (XD d fs)/\fs.length<1000/\D.nx σ (upd H2 d (XD d (putF f y fs))))
def aab(K:Frag)(ta:TE)(f:Str):TE:=λσ H Q=>ta σ H λx H1=>∃a C d fs v,x=.ref a/\H1 a=some (XO a C (some d))/\H1 d=some (.xd fs)/\Ux K C/\hasDictIn K C=true/\bI K C f/\fs.lookup f=some v/\Q v H1
end L2
namespace L2
open PySem PySem.Spec PyProof.Rows
section
variable{X:Cx}
theorem Bv(h:PE X e t)(w:∀σ H Q,u σ H Q->t σ H Q):PE X e u:=λpins s σ H Q I q=>h pins s σ H Q I (w σ H Q q)
theorem Bw(h:PT X e t)(w:∀σ H R,u σ H R->t σ H R):PT X e u:=λpins s σ H R I q=>h pins s σ H R I (w σ H R q)
theorem fC{elt iter tg:Expr}{ifs:List Expr}{scope:Scope}{pos spos py:Pos}{y:Str}{i:Nat}{N':List Str}{k:Nat}{fm:List Nat}{wi:TI}{g:TG}{tt:TT}{te:TE}(hN:X.N.Nodup)(hi':X.N[i]?=some y)(hy:Loc X.env.scope y)(B:gh X N' k fm scope)(hc:X.calm=true)(hi:PI X tg iter wi)
  (hb:∀fp s H,PG (BU X N' scope fp s H) tg g/\Td (BU X N' scope fp s H) ifs tt/\PE (BU X N' scope fp s H) elt te)
  (hsw:swapsWith (.ListComp elt [⟨tg,iter,ifs,0⟩] scope pos) (some (.Name y py)) spos.line X.env=pure true:=by rfl)
  (hs:∀x,foldedSetIterable iter X.env x=pure x:=by intro _;rfl) (hfn:X.fn y=true\/X.env.scope.names.lookup y=some .local:=by first|exact .inl rfl|exact .inr rfl|assumption):
  PS X (.Assign [.Name y py] (.ListComp elt [⟨tg,iter,ifs,0⟩] scope pos) spos) (FJ (kz k fm wi g tt te) (m5 i)):=by
 intro pins s σ H DD I h;have hfree:=λx hx hk=>I.ok.has x.1 (B.free x hx hk);rw[exec_Assign_Name_used _ _ _ _ hsw];refine aE (wpAny_standAt (aE (aE (m8 (wpAny_comprehension_free rfl hs (ij hfree) B.kind B.names (bG (hi pins s σ H _ I h) λv s1 h1=>bG h1 λitv s2 h2=>?_)) (λ_ s' hq=>bh (bh hq)) λ_ _ e=>e))));obtain⟨it,fp,tn,J,H2,e,I2,T,st2,f2,h2⟩:=h2;subst e;obtain⟨W,⟨m0,w0⟩,turn⟩:=h2 s2.heap.objs.size I2.fresh;refine Ug (wpAny_newFunctionEnv B.zS (by intro y hy;simp at hy) (λh4 hns4 hsb4=>?_) B.kind);have I3:=I2.PF (t':=s2.toks) .nil (d_ _);have hf3:∀b∈fp,fi X pins 'q' b:=λb hb=>by
  obtain⟨o,e,_⟩:=T.obj _ _ st2 b hb;refine⟨?_,(f2 b hb).2⟩;rw[ae (λz=>wB _ (z▸cR e))];exact(f2 b hb).1
 have ho3:∀b∈fp,∃o,(s2.heap.push { cls:=.type "list", data:=.seq ([]:List Value).toArray }).get? b=some o:=λb hb=>by
  obtain⟨o,e,_⟩:=T.obj _ _ st2 b hb;exact⟨o,cS _ e⟩
 have kp4:∀b o,(s2.heap.push { cls:=.type "list", data:=.seq ([]:List Value).toArray }).get? b=some o->h4.get? b=some o:=λb o e=>
  hsb4.extBut b o (λz=>wB _ (z▸cR e)) (cS _ e)
 have I4:=I3.block (tk:=s2.toks+([]:List (Str×Value)).length) B hf3 ho3 hns4 kp4;generalize hs3:({ s2 with heap:=s2.heap.push { cls:=.type "list", data:=.seq ([]:List Value).toArray },toks:=s2.toks }:Shared)=s3 at *;obtain⟨hg,ht,he⟩:=hb fp s3 'q';have st4:=T.keep _ _ _ st2 λb hb o e=>kp4 b o (cS _ e);have stat:∀{H':Hp},(∀b∈fp,H' b=none)->∀b∈fp,fi (BU X N' scope fp s3 'q') [] H' b:=λ{H'} hn b hb=>by
  obtain⟨f0,f1,f3,f4,f5,f6⟩:=hf3 b hb;obtain⟨g1,g2⟩:=I4.ok.RL b hb;exact⟨hn b hb,g1,I4.ok.yE b hb,.inl hb,g2,λp hp=>f6 p ((bM.mp hp).elim (λz=>gG _ z) λz=>absurd z (by simp))⟩
 have loop:codeAny 'b' X.A (.compLoop (.ListComp elt [⟨tg,iter,ifs,0⟩] scope pos) 0 (.ref it) (.ref s2.heap.objs.size) (compEnvC scope (k_ X.env scope.names []) s3.heap.objs.size X.env))
   (compPost 'b' X.A X.xe (some (assign (.Name y py) X.env)) (λ_ s'=>SP X pins DD .next s') (.ref s2.heap.objs.size) s3.heap.objs.size) { s3 with heap:=h4,toks:=s2.toks+([]:List (Str×Value)).length }:=by
  refine xx (X:=BU X N' scope fp s3 'q') (Q:=λv H'=>DD.nx (σ.set i (some v)) H') rfl hc T stat hg ht he turn I4 st4 (λb hb=>(hf3 b hb).1) w0 ?_;intro H' s' I' q;obtain⟨m,hn,_⟩:=I'.loc;have hCn:s3.heap.get? s3.heap.objs.size=none:=by
   cases e:s3.heap.get? s3.heap.objs.size with
   |none=>rfl
   |some o=>exact absurd (cR e) (wB _)
  have J:=λh'' hk=>by
   have u:Un (Bc X.stack) fp 'q' H' s3.heap h'':=Un.tail I'.base hk hCn;refine I3.AJ (s':={ s' with heap:=h'' }) I'.os u (I'.a6.tail hk I'.free) I'.bare λb hb=>?_;obtain⟨f0,f1,f3,f4,f5,f6⟩:=hf3 b hb;exact⟨f4,f1,f5,f6⟩
  have J1:Inv X pins σ H' s':=J s'.heap λ_ _ _ e=>e;obtain⟨oC,es,ep,hoC,hdC,rC⟩:=hn;have hCf:=I'.free;have hCL:=Ne.symm (d0 I3.lt);have hCfs:=I3.Tw (bS _);have J2:Inv X (pins++[(s3.heap.objs.size,oC)]) σ H' s':=J1.kX λp hp=>by
   rcases bM.mp hp with z|z
   ·exact J1.pin p (gi _ z)
   ·exact(cx.mp z)▸⟨hoC,hCf,hCL,hCfs,λv e=>by rw[hdC]at e;cases e⟩
  refine wpAny_assign_Name (iW J2 hN hi' hy (v:=.ref s2.heap.objs.size) rfl (λs5 I5=>?_) hfn);have hC5:=(I5.pin (s3.heap.objs.size,oC) (gi _ (gi _ (cx.mpr rfl)))).1;refine⟨m,⟨oC,es,ep,hC5,hdC,rC⟩,λh'' hs''=>?_⟩;have I6:=I5.kX λp hp=>I5.pin p (gi _ (gG _ hp));refine⟨_,H',I6.turned (λb o hb e=>hs''.extBut b o hb e) hCf hCL (.inr I3.sz) (λx c e z=>?_) (λp hp z=>?_),q⟩
  ·obtain⟨v,o,ho,_⟩:=I3.cell x c e;rw[z]at ho;exact absurd (cR ho) (wB _)
  ·have z':=(I3.pin p hp).1;rw[z]at z';exact absurd (cR z') (wB _)
 subst hs3;exact codeAny_compStart_list loop (T.self X.A 0 _ _ _ st4 loop)
def VB(K:Wf):R2:=λx y H Q=>∃p q ag,x=.ref p/\y=.ref q/\H p=some (.dK ag)/\H q=some (.dK ag)/\(∀kv∈ag,∃d,Rep K H d kv.2/\dep d<=20)/\Q (.bl true) H
def V3:List V->Hp->VK->Prop:=λxs H Q=>∃p ag,xs=[.ref p]/\H p=some (.dK ag)/\∀q,H q=none->Q (.ref q) (upd H q (.dK ag))
def Xi(x:V)(xs:List V):Nat:=xs.countP λy=>HV y x
def YA(K:Wf):V->List V->Hp->VK->Prop:=λx vs H Q=>∃p xs y,x=.ref p/\vs=[y]/\aH K H p xs/\iA y=true/\xs.all iA=true/\Q (.int (Xi y xs:Nat)) H
def P7(E:XK)(k:Nat)(fm:List Nat)(wi:TI)(g:TG)(tt:TT)(te:Kj):TE:=λσ H Q=>wi σ H λJ H1=>∀D,H1 D=none->∃W:Nat->Nat->List V->Hp->Prop,
 (∃m,W 0 m [] (upd H1 D (.lst [])))/\∀i m ys H2,W i m ys H2->H2 D=some (.lst ys)/\ys.length<sizeLine/\((J.stop i H2/\Q (.ref D) H2)\/(J.go i H2/\∃N:List V->Hp->Prop,(∀ys' H',N ys' H'->∃m',m'<m/\W (i+1) m' ys' H')/\∀x H3,J.Cj i H2 x H3->
  g x (dX k fm σ) H3 λσ3 H4=>Ext (dX k fm σ) σ3/\tt σ3 H4 λb H5=>if b=true then te σ3 H5 (λy H6=>H6 D=some (.lst ys)/\N (ys++[y]) (upd H6 D (.lst (ys++[y])))) E else N ys H5))
end
def Qv(E:XK)(g:TG)(tt:TT)(te:Kj)(σ0:St)(Q:VK)(J:It)(H1:Hp):Prop:=∀DD,H1 DD=none->∃W:Nat->Nat->List V->Hp->Prop,
 (∃m,W 0 m [] (upd H1 DD (.lst [])))/\∀i m ys H2,W i m ys H2->H2 DD=some (.lst ys)/\ys.length<sizeLine/\((J.stop i H2/\Q (.ref DD) H2)\/(J.go i H2/\∃N:List V->Hp->Prop,(∀ys' H',N ys' H'->∃m',m'<m/\W (i+1) m' ys' H')/\∀x H3,J.Cj i H2 x H3->
  g x σ0 H3 λσ3 H4=>Ext σ0 σ3/\tt σ3 H4 λb H5=>if b=true then te σ3 H5 (λy H6=>H6 DD=some (.lst ys)/\N (ys++[y]) (upd H6 DD (.lst (ys++[y])))) E else N ys H5))
def PR(K:Wf)(E:XK)(g:TG)(tt:TT)(te:Kj)(σ0:St)(Q:VK):VK:=λx H1=>∃a,x=.ref a/\(∃xs,aH K H1 a xs)/\Qv E g tt te σ0 Q (EH K a) H1
section
variable{K:Wf}{k:Nat}{fm:List Nat}{tl:TE}{te:Kj}{g:TG}{tt:TT}{σ σ0:St}{H H1:Hp}{Q:VK}{E:XK}
theorem MP:P7 E k fm (xS K tl) g tt te σ H Q=tl σ H (PR K E g tt te (dX k fm σ) Q):=rfl
end
def sH(a b:Str):Prop:=a.cps.toList<=b.cps.toList
theorem Cw(x:sH a b)(y:sH b c):sH a c:=List.le_trans x y
theorem Hk(x:sH a b)(y:sH b a):a=b:=by
 have e:=List.le_antisymm x y;cases a;cases b;congr 1;exact Array.toList_inj.mp e
theorem nh:∀{l:List Str}{p:Str},risingS p l=true->(p::l).Pairwise sH
 |[],p,_=>List.pairwise_singleton ..
 |x::r,p,h=>by
  rw[risingS,lx,ltCps_eq]at h;have px:=by
   have z:=h.1;rw[Bool.not_eq_true',decide_eq_false_iff_not]at z;exact z
  have ih:=nh h.2;refine List.Pairwise.cons (λy hy=>?_) ih;rcases iu.mp hy with rfl|hy
  ·exact px
  ·exact Cw px ((List.pairwise_cons.mp ih).1 y hy)
theorem nT:∀{l:List Str},sortedS l=true->l.Pairwise sH
 |[],_=>.nil
 |_::_,h=>nh h
theorem Dp:∀{ss:List Str}{us:List Value},Vals (ss.map V.str) us->StrsAre us ss
 |[],[],.nil=>.nil
 |x::ss,u::us,.cons r t=>by
  obtain⟨k,rfl⟩:=r;exact .cons x k (Dp t)
theorem kQ:∀{ss:List Str}{us:List Value},StrsAre us ss->Vals (ss.map V.str) us
 |_,_,.nil=>.nil
 |_,_,.cons x k t=>.cons ⟨k,rfl⟩ (kQ t)
theorem ub:∀{us:List Value}{ss:List Str},us.length=ss.length->(∀(j:Nat) (v:Value),us[j]?=some v->∃y k,ss[j]?=some y/\v=Value.str y k)->StrsAre us ss
 |[],[],_,_=>.nil
 |u::us,s::ss,hl,h=>by
  obtain⟨y,k,e,rfl⟩:=h 0 u rfl;cases e;exact .cons _ k (ub (by simpa using hl) λj v hv=>by simpa using h (j+1) v hv)
theorem ku:∀{us:List Value}{ss:List Str},StrsAre us ss->us.length=ss.length
 |_,_,.nil=>rfl
 |_,_,.cons _ _ t=>by rw[md,md,ku t]
theorem nK{prog:Program}{w:World}{A:Around}{E:Vs}{s:Shared}{a:Value}{Q:Vs}
  (hc:wpAny 'c' A.in1 (collect a) (λvs s1=>∃ss:List Str,StrsAre vs ss/\vs.length<64/\
   ∀(h':Heap) (out:List Value) (ss':List Str) (D:Addr) (e:Nat),(∀b o,s1.heap.get? b=some o->h'.get? b=some o)->s1.heap.objs.size<=D->h'.get? D=some (seqObj "list" out.toArray e)->
    StrsAre out ss'->ss'.Perm ss->ss'.Pairwise sH->Q (.ref D) { s1 with heap:=h' }) E s):
  wpAny 'c' A (call 'Q' [a]) Q E s:=by
 refine Calls.call_function_entry kind_sorted plain_sorted entry_sorted (args_sorted1 _) (aE (bh (aE (m8 hc (λvs s1 hv=>?_) λ_ _ z=>z))));obtain⟨ss,S,hz,q⟩:=hv;refine aE (wpAny_newList ?_ (by rw[sizeLine_eq];omega));have hoL:(s1.heap.push (seqObj "list" vs.toArray 0)).get? s1.heap.objs.size=some (seqObj "list" vs.toArray 0):=hV _ rfl;refine aE (mI (MV slot_list_sort ⟨_,hoL,rfl⟩ entry_list_sort
  (list_sort_treeK strKind_oneLt hoL S.keysOf (λv₁ v₂ rest z=>keyKind_strs (z▸S)) hz λst a1 a2=>⟨_,rfl,?_⟩) (args_list_sort _)))
 obtain⟨ss',t1,t2,t3⟩:=sorted_out_str S a1 a2;obtain⟨e,he⟩:=sortedHeap_at hoL;refine bh ⟨_,rfl,q _ ((arrOf st).map (·.2)).toList ss' s1.heap.objs.size e (λb o z=>?_) (bS _) (Array.toArray_toList▸he) t1 t2 (nT t3)⟩;have lt:=cR z;rw[sortedHeap_old (d0 lt) (by rw[size_push'];exact Tr lt)];exact cS _ z
section
variable{X:Cx}
def Bg(K:Wf):List V->Hp->VK->Prop:=λxs H Q=>∃(p:Addr) (ss:List Str),xs=[.ref p]/\aH K H p (ss.map V.str)/\ss.length<64/\∀(l:Addr) (ss':List Str),H l=none->ss'.Perm ss->ss'.Pairwise sH->Q (.ref l) (upd H l (.lst (ss'.map V.str)))
theorem yq:cL X 'Q' (Bg X.K):=by
 intro pins s σ H xs us Q I r h;obtain⟨p,ss,rfl,hq,hz,q⟩:=h;obtain⟨u,rfl,rx⟩:=vals1 r;cases rx;obtain⟨its,r',pl,_⟩:=I.list hq;have S:StrsAre its ss:=Dp r';refine sorted_strs pl.isList S (by rw[ku S];exact hz) λout ss' a1 a2 a3=>?_;obtain⟨e,he⟩:=sortedAll_at s.heap its out;refine⟨.ref 'm',_,I.laid (a:=s.heap.objs.size+1) (o:=.lst (ss'.map V.str)) (t':=s.toks) (λb o=>sortedAll_old) (CV _) ⟨?_,out.toList,e,kQ a1,by simpa using he⟩,rfl,q _ ss' (I.a6.fresh (Nat.le_succ _)) a2 (nT a3)⟩;rw[aD,a2.length_eq,sizeLine_eq];lia
def Fy:List V->Hp->VK->Prop:=λxs H Q=>∃p ag,∃ss:List Str,xs=[.ref p]/\H p=some (.dK ag)/\ag.map (·.1)=ss.map Sum.inr/\ss.length<64/\∀(l:Addr) (ss':List Str),H l=none->ss'.Perm ss->ss'.Pairwise sH->Q (.ref l) (upd H l (.lst (ss'.map V.str)))
theorem zZ{ag:List (Key×V)}{vs:List (Key×Value)}(r:KV ag vs):ag.map (·.1)=vs.map (·.1):=by
 induction r with
 |nil=>rfl
 |cons h _ ih=>rw[iZ,iZ,h.1,ih]
theorem vD(hc:X.calm=true):cL X 'Q' Fy:=by
 intro pins s σ H xs us Q I r h;obtain⟨p,ag,ss,rfl,hq,hk,hz,q⟩:=h;obtain⟨u,rfl,rx⟩:=vals1 r;cases rx;obtain⟨z,hS,vs,rel,dd⟩:=nU I.a6 hq;obtain⟨ep,da⟩:=dd.dictAt;have hh:X.A.in1.handled=none:=by simp[I.ok.hd hc]
 have hkeys:=(zZ rel).symm.trans hk;have hlen:=by have e:=congrArg List.length hkeys;simpa using e
 refine nK (PySem.W.kdu_collect (PySem.W.kdl_dict hS) hh da (by rw[hlen,sizeLine_eq];lia) λh1 tk acc kp it=>?_);have hal:acc.toList.length=ss.length:=by rw[DY,it.1,hlen]
 refine⟨ss,ub hal (λj v hv=>?_),hal▸hz,λh2 out ss' D e k2 hD hg S pm pw=>?_⟩
 ·rw[Wl]at hv;obtain⟨k,x,e,hi⟩:=it.2 j v hv;have e1:(vs.map (·.1))[j]?=some k:=by rw[gU,e];rfl
  rw[hkeys,gU]at e1;cases hj:ss[j]? with
  |none=>rw[hj]at e1;cases e1
  |some y=>
   rw[hj]at e1;cases e1;obtain⟨t,rfl⟩:=Value.isStrOf_shape hi;exact⟨y,t,rfl,rfl⟩
 ·have I1:=I.kept (t':=tk) kp;exact⟨.ref D,_,I1.laid (o:=.lst (ss'.map V.str)) k2 hD ⟨by rw[aD,pm.length_eq,sizeLine_eq];lia,out,e,kQ S,by simpa using hg⟩,rfl,q _ ss' (I1.a6.fresh hD) pm pw⟩
theorem rZ{K:Wf}(e:X.K=K):cL X 'Q' (Bg K):=e▸yq
theorem sY:∀{as:List Addr}{us:List Value},Vals (as.map V.ref) us->us=as.map Value.ref
 |[],[],.nil=>rfl
 |a::as,u::us,.cons r t=>by
  cases r;rw[sY t];rfl
def aar(K:Wf)(neg:Bool):R2:=λx y H Q=>∃(p:Addr) (as:List Addr) (g:Addr->D) (d:D),y=.ref p/\aH K H p (as.map V.ref)/\(∀a∈as,Rep K H (g a) (.ref a)/\dep (g a)<=20)/\Rep K H d x/\Q (.bl (if neg then !(as.any λa=>deq (g a) d) else as.any λa=>deq (g a) d)) H
end
end L2
namespace L2
open PySem
section
variable{prog:Program}{w:World}{A:Around}{E:Vs}{s:Shared}
theorem sP:typeLookup (.type "list") "keys" = pure none:=by rw[typeLookup_type,builtinLookup_eq_fast];kernel_rfl
set_option maxHeartbeats 3200000 in
theorem f_(hL:PlainL s.heap a xs)(hA:A.handled=none)
  (h:∀h' tk,(∀b o,s.heap.get? b=some o->h'.get? b=some o)->Q none { s with heap:=h',toks:=tk }):
  wpAny 'c' A (getAttr? (.ref a) "keys") Q E s:=by
 obtain⟨o,k,hx,hc,hd,hdat⟩:=hL;obtain⟨c,dct,dat,sl⟩:=o;simp only at hc hdat hd;subst hc hdat hd;obtain⟨hp,g,d,tk,os⟩:=s;have hT:∀tk',(⟨hp,g,d,tk',os⟩:Shared).TypeIs (.ref a) "list" := λ_=>⟨_,hx,rfl⟩;have f1:=sub_AttributeError;have f3:=F.slot_list_getattribute.lookup;have f4:=F.slot_list_getattribute.bind (.ref a);have f5:=am_list_getattr_none;unfold getAttr? getAttrBy? getAttrBy
 repeat (any_goals (first|assumption|exact hT _|((with_reducible show wpAny _ _ (call (Value.builtin "list.__getattribute__") _ _) _ _ _);refine call_meets F.slot_list_getattribute (hT _) am_entry_list_getattribute (F.args_list_getattribute_2 _ _) (meets_getattribute_miss_list a xs k sl "keys" _ sP 'e') ⟨hx,hA,λh' tk' e hx'=>?_⟩)|wp_step))
 obtain⟨t',u',he⟩:=hx'.there;show wpAny _ _ (getattributeRaised _ _ _ _ _ _ _) _ _ _;unfold getattributeRaised
 repeat (any_goals (first|assumption|wp_step))
 exact h h' tk' hx'.keeps
theorem g7:entryFor table "dict.update.loop" = some Builtin.«dict.update.loop»:=entryFor_of_tree (by kernel_rfl)
theorem cZ:plainId "dict.update.loop" = true:=by decide +kernel
def dz(h:Heap)(a:Addr)(u v:Value):Prop:=∃o n,h.get? a=some o/\o.cls=.type "tuple" /\ o.data=.seq #[u,v] n
theorem gM{K:Type} [DecidableEq K]{knd:KeyKind prog w K}{h h':Heap}{S:Addr}{ag:List (K×Value)}(d:h.DictOf knd S ag)(k:∀o,h.get? S=some o->h'.get? S=some o):h'.DictOf knd S ag:=by
 obtain⟨o,es,ep,ho,r⟩:=d;exact⟨o,es,ep,k o ho,r⟩
set_option maxHeartbeats 3200000 in
theorem DA{K:Type} [DecidableEq K]{knd:KeyKind prog w K}{R:Result->Shared->Prop}{I:Addr}{fp wr:List Addr}{G:Array GenState->Array GenState->Prop}{n:Nat}{P:Nat->Value->Prop}{St:Nat->Shared->Prop}(W:WalksS prog w A.in1 I fp wr G n P St)(S:Addr)(hSf:S∉fp)
  (at_:Nat->Addr) (us vs:Nat->Value) (ks:Nat->K) (hval:∀i v,P i v->v=.ref (at_ i)) (hk:∀i,i<n->knd.is (ks i) (us i)=true) (hne:∀i,i<n->at_ i≠S/\at_ i∉wr) (hb:n+1<sizeLine):
  ∀(k i:Nat) (s:Shared) (ag:List (K×Value)),n - i=k->i<=n->St i s->s.heap.DictOf knd S ag->ag.length<=i->(∀j,j<n->dz s.heap (at_ j) (us j) (vs j))->ag=merged [] ((List.range i).map λj=>(ks j,vs j))->∀t:Tok,
   (∀s',Moved (S::wr) G s s'->s'.heap.DictOf knd S (merged [] ((List.range n).map λj=>(ks j,vs j)))->R (.ok (.ret .none)) s')->
   codeAny 'c' A (.builtin "dict.update.loop" ⟨[.ref S,.ref I,.int i t,.none],[]⟩) R s:=by
 have hSw:S∉wr:=λh=>hSf (W.sub _ h);have sub:∀b∈wr,b∈S::wr:=λb hb=>jD _ hb;intro k
 induction k with
 |zero=>
  intro i s ag hk' hi st hS hl hp em t hR;obtain rfl:i=n:=by lia
  refine codeAny_builtin g7 ?_;rw[Around.under_plainId cZ _];show wpAny _ A.in1 (pyNext (.ref I) >>= _) _ _ s;refine aE (W.done s _ _ st λs' mv=>?_);show wpAny _ _ (Builtin.Dict.addKeywords S [] >>= λ_=>ret Value.none) _ _ _;refine aE (bh (bh ?_));exact hR s' (mv.mono sub) (em▸gM hS λo z=>mv.heap S o hSw z)
 |succ k ih=>
  intro i s ag hk' hi st hS hl hp em t hR;have lt:i<n:=by lia
  refine codeAny_builtin g7 ?_;rw[Around.under_plainId cZ _];show wpAny _ A.in1 (pyNext (.ref I) >>= _) _ _ s;refine aE (W.item i s _ _ lt st λv s' hP st' mv=>?_);obtain rfl:=hval i v hP;have hS':s'.heap.DictOf knd S ag:=gM hS λo z=>mv.heap S o hSw z;have hp':∀j,j<n->dz s'.heap (at_ j) (us j) (vs j):=λj hj=>by
   obtain⟨o,m,e,c,d⟩:=hp j hj;exact⟨o,m,mv.heap _ o (hne j hj).2 e,c,d⟩
  obtain⟨o,m,ho,hc,hd⟩:=hp' i lt;show wpAny _ A.in1 (holding [Value.ref (at_ i)] (Sem.tryCatch (Builtin.Dict.pairItems (Value.ref (at_ i))) _ >>= _) >>= _) _ _ s';refine aE (mI (aE (wpAny_tryCatch ?_)));unfold Builtin.Dict.pairItems;refine aE (Up ho ?_);rw[hc,if_pos (by decide)];refine aE (Rx ho hd (bh ?_));show wpAny _ A.in1 (holding [us i,vs i] (dictSet S (us i) (vs i))) _ _ s';refine mI (wpAny_dictSet_pairs (hk i lt) hS' (λh' dd sb=>?_) );have er:rawInt ((i:Int)+1)=Value.int ((i+1:Nat):Int) 0:=rfl;rw[er];refine bh ⟨plainId_quiet cZ _,ih (i+1) _ _ (by lia) lt (W.frame _ s' _ _ st' (CV _) λb hb o e=>?_) dd (ia (stored_length_le ag (ks i) (vs i)) (by lia)) (λj hj=>?_) ?_ _ λs'' mv' dd'=>?_⟩
  ·rw[sb.2 b (λh:b=S=>hSf (by rw[<-h];exact hb))];exact e
  ·obtain⟨o,m,e,c,d⟩:=hp' j hj;exact⟨o,m,(sb.2 _ (hne j hj).1).trans e,c,d⟩
  ·rw[em,List.range_succ,bu];unfold merged;rw[OD];rfl
  ·refine hR s'' (Moved.trans W.gtrans ((mv.mono sub).then_heap (CV _) λb o hb e=>?_) mv') dd';rw[sb.2 b (λh:b=S=>hb (by rw[h];exact ko))];exact e
set_option maxHeartbeats 3200000 in
theorem zA{K:Type} [DecidableEq K]{knd:KeyKind prog w K}{s:Shared}{l:Addr}{items:Array Value}{at_:Nat->Addr}{us vs:Nat->Value}{ks:Nat->K}{Q:Vs}(hh:A.handled=none)(hl:PlainL s.heap l items)
  (hi:∀(i:Nat) (v:Value),items[i]?=some v->v=.ref (at_ i)) (hk:∀i,i<items.size->knd.is (ks i) (us i)=true) (hp:∀j,j<items.size->dz s.heap (at_ j) (us j) (vs j)) (hb:items.size+1<sizeLine)
  (h:∀(h':Heap) (tk:Nat),h'.DictOf knd s.heap.objs.size (merged [] ((List.range items.size).map λj=>(ks j,vs j)))->(∀b o,s.heap.get? b=some o->h'.get? b=some o)->Q 'C' { s with heap:=h',toks:=tk }):
  wpAny 'c' A (call 'F' [.ref l]) Q E s:=by
 refine callType_codes (Q₁:=λobj s₁=>obj=.ref s.heap.objs.size/\s₁={ s with heap:=s.heap.push { cls:=.type "dict", data:=.dict #[] } }) F.kt_called_dict (F.kt_typeCall_dict_1 _) F.entry_dict_init (kt_code_dict_new _ ⟨rfl,rfl⟩) ?_;rintro obj s₁ ⟨rfl,rfl⟩;have hnew:(s.heap.push { cls:=.type "dict", data:=.dict #[] }).DictOf knd s.heap.objs.size []:=Heap.DictOf.new s.heap;refine⟨hnew.typeIs,F.args_dict_init_2 _ _,?_⟩;unfold Builtin.«dict.__init__»;refine aE ?_;unfold Builtin.Dict.selfAndRest;refine aE (wpAny_notOrdered_dict hnew.typeIs ?_);show wpAny _ _ (pure (s.heap.objs.size,[Value.ref l])) _ _ _;refine bh ?_;show wpAny _ _ (Builtin.Dict.updateFrom "dict.__init__" s.heap.objs.size (.ref l) [] .none) _ _ _;unfold Builtin.Dict.updateFrom;have hl1:PlainL (s.heap.push { cls:=.type "dict", data:=.dict #[] }) l items:=hl.keeps λb o e=>cS _ e;obtain⟨ol,nl,hol,hcl,_⟩:=id hl1;refine aE (Up hol ?_);rw[hcl,if_pos (by decide)];refine aE (f_ hl1 (by simp[hh]) λh2 tk2 kp=>?_);rw[if_pos (show(none:Option Value).isNone=true from rfl)];have hl2:PlainL h2 l items:=hl1.keeps kp;have hn2:h2.DictOf knd s.heap.objs.size []:=gM hnew λo e=>kp _ o e;refine aE (CW ?_);refine aE (Ti hl2.isList ?_);have keep2:∀b o,s.heap.get? b=some o->h2.get? b=some o:=λb o e=>kp b o (cS _ e);have lS:s.heap.objs.size<h2.objs.size:=by
  obtain⟨o,_,_,ho,_⟩:=hn2;exact cR ho
 have lL:l<h2.objs.size:=hl2.lt;have h3:A.in1.in1.handled=none:=by simp[hh]
 have nI:l≠h2.objs.size:=d0 lL;have lt0:∀j,j<items.size->at_ j<s.heap.objs.size:=λj hj=>by
  obtain⟨o,m,e,_⟩:=hp j hj;exact cR e
 have hSf:s.heap.objs.size∉[h2.objs.size,l]:=by
  simp only[List.mem_cons,List.not_mem_nil,or_false,not_or];exact⟨d0 lS,Nat.ne_of_gt hl.lt⟩
 refine bh ⟨plainId_quiet cZ _,?_⟩;refine DA (knd:=knd) ((Walks.list h3 _ l nI items).toS) s.heap.objs.size hSf at_ us vs ks hi hk (λj hj=>⟨d0 (lt0 j hj),?_⟩) hb (items.size - 0) 0 _ [] (by lia) (d_ _) ⟨⟨_,hV _ rfl,rfl,rfl⟩,hl2.isList.push _⟩ (gM hn2 λo z=>cS _ z) (d_ _) (λj hj=>?_) rfl 0 λs' mv dd=>?_
 ·simp only[List.mem_cons,List.not_mem_nil,or_false];exact d0 (Nat.lt_trans (lt0 j hj) lS)
 ·obtain⟨o,m,e,c,d⟩:=hp j hj;exact⟨o,m,cS _ (keep2 _ _ e),c,d⟩
 ·obtain⟨h',g',d',tk',os'⟩:=s';obtain rfl:g'=s.gens:=mv.gens;obtain rfl:d'=s.drawn:=mv.drawn;obtain rfl:os'=s.os:=mv.os;refine⟨rfl,h h' tk' dd λb o e=>?_⟩;have lt:=cR e;refine mv.heap b o ?_ (cS _ (keep2 _ _ e));simp only[List.mem_cons,List.not_mem_nil,or_false,not_or];exact⟨d0 lt,d0 (Nat.lt_trans lt lS)⟩
end
section
open PyProof.Rows PySem.Spec
variable{X:Cx}
theorem iJ{α β γ:Type}{R:α->β->Prop}{f:γ->α}{g:γ->β}:∀(l:List γ),(∀j∈l,R (f j) (g j))->Paired R (l.map f) (l.map g)
 |[],_=>.nil
 |x::l,h=>.cons (h x (by simp)) (iJ l λj hj=>h j (by simp[hj]))
theorem map_range{α β:Type}(xs:List α)(d:α)(f:α->β):xs.map f=(List.range xs.length).map λj=>f (xs.getD j d):=by
 refine List.ext_getElem (by simp) λi h1 h2=>?_;have hi:i<xs.length:=by simpa using h1
 simp[List.getD_eq_getElem?_getD,List.getElem?_eq_getElem hi]
def O9(K:Wf):List V->Hp->VK->Prop:=λxs H Q=>∃(p:Addr) (ps:List (Addr×Key×V)),xs=[.ref p]/\aH K H p (ps.map λt=>V.ref t.1)/\(∀t∈ps,H t.1=some (.tup [kV t.2.1,t.2.2]))/\ps.length<4000/\∀d,H d=none->Q (.ref d) (upd H d (.dK (cn [] (ps.map (·.2)))))
theorem zw(hc:X.calm=true):cL X 'F' (O9 X.K):=by
 intro pins s σ H xs us Q I r h;obtain⟨p,ps,rfl,hq,hp,hz,q⟩:=h;obtain⟨u,rfl,rx⟩:=vals1 r;cases rx;obtain⟨its,r',pl,_⟩:=I.list hq;have hl:its.length=ps.length:=by rw[<-r'.length,aD]
 have tp:∀i (hi:i<ps.length),∃u v,dz s.heap ps[i].1 u v/\RelV (kV ps[i].2.1) u/\RelV ps[i].2.2 v:=λi hi=>by
  obtain⟨ts,rt,it,_⟩:=I.tuple (bg.of (hp ps[i] (wR hi)));obtain⟨o,ho,hcl,n,hd⟩:=it;cases rt with
  |cons r1 t1=>
   cases t1 with
   |cons r2 t2=>
    cases t2;exact⟨_,_,⟨o,n,ho,hcl,hd⟩,r1,r2⟩
 obtain⟨f,hf⟩:∃f:Nat->Value×Value,∀i (hi:i<ps.length),dz s.heap ps[i].1 (f i).1 (f i).2/\RelV (kV ps[i].2.1) (f i).1/\RelV ps[i].2.2 (f i).2:=
  ⟨λi=>if hi:i<ps.length then ⟨Classical.choose (tp i hi),Classical.choose (Classical.choose_spec (tp i hi))⟩ else ⟨.none,.none⟩,λi hi=>by
   simp only[dif_pos hi];exact Classical.choose_spec (Classical.choose_spec (tp i hi))⟩
 have gd:∀i (hi:i<ps.length),ps.getD i (0,.inl 0,.bB)=ps[i]:=λi hi=>by rw[Ki,h9 hi];rfl
 have sz:its.toArray.size=ps.length:=by rw[iC,hl]
 refine zA (knd:=aX X.prog X.w) (at_:=λi=>(ps.getD i (0,.inl 0,.bB)).1) (us:=λi=>(f i).1) (vs:=λi=>(f i).2) (ks:=λi=>(ps.getD i (0,.inl 0,.bB)).2.1) (I.ok.hd hc) pl (λi v hv=>?_) (λi hi=>?_) (λi hi=>?_) (by rw[sz,sizeLine_eq];lia) λh' tk dd kp=>?_
 ·rw[S8]at hv;have hi:i<ps.length:=by rw[<-hl];exact(gZ.mp hv).1
  obtain⟨u,hu,ru⟩:=r'.get (i:=i) (x:=.ref ps[i].1) (by rw[gU,h9 hi];rfl);rw[hv]at hu;cases hu;show v=Value.ref (ps.getD i (0,.inl 0,.bB)).1;rw[gd i hi];exact ru
 ·rw[sz]at hi;show (aX X.prog X.w).is (ps.getD i (0,.inl 0,.bB)).2.1 (f i).1=true;rw[gd i hi];exact jy (hf i hi).2.1
 ·rw[sz]at hi;show dz s.heap (ps.getD i (0,.inl 0,.bB)).1 _ _;rw[gd i hi];exact(hf i hi).1
 ·rw[sz]at dd;have rel:KV (ps.map (·.2)) ('<'.map λj=>((ps.getD j (0,.inl 0,.bB)).2.1,(f j).2)):=by
   rw[map_range ps (0,.inl 0,.bB)];refine iJ _ λj hj=>?_;have hj:=qV.mp hj;rw[gd j hj];exact⟨rfl,(hf j hj).2.2⟩
  have rm:KV (cn [] (ps.map (·.2))) _:=KV.merge rel (.nil);have z:(cn [] (ps.map (·.2))).length<=sizeLine:=by
   have:=merged_length_le ([]:List (Key×Value)) ('<'.map λj=>((ps.getD j (0,.inl 0,.bB)).2.1,(f j).2));rw[List.length_nil,aD,Om]at this;rw[KV.length rm,sizeLine_eq];lia
  exact⟨.ref s.heap.objs.size,_,I.laid (a:=s.heap.objs.size) (o:=.dK (cn [] (ps.map (·.2)))) (t':=tk) kp (bS _) (oU z (beq_eq_false_iff_ne.mpr (Ne.symm (d0 I.big))) rm dd),rfl,q _ (I.a6.fresh (bS _))⟩
end
end L2
namespace L2
open PySem PySem.Spec PyProof.Rows
section
variable{X:Cx}{pins:Lo}{σ:List (Option V)}{H H':Hp}{s:Shared}{h':Heap}
theorem Inv.KZ{t':Nat}{fp:List Addr}(I:Inv X pins σ H s)(k:∀b o,b∉fp->s.heap.get? b=some o->h'.get? b=some o)(hf:∀b∈fp,fi X pins H b):Inv X pins σ H { s with heap:=h',toks:=t' }:=by
 have nit:∀b u,H b=some u->b∉fp:=λb u e z=>by rw[(hf b z).1]at e;cases e
 have hL:=λz=>(hf _ z).2.1 rfl;refine I.step (λb hb=>?_) (λb o _ _ hc e _=>k b o hc e) (λb o _ _ hc e _=>⟨o.slots,k b o hc e⟩) (λ_ _ _ _ n=>n)
  (λb o hc e=>⟨o,k b o hc e⟩) (λ_ _ e=>e) (λ_ _ _ e=>e) (λb ps e=>⟨#[],by rw[e];simp⟩) (λm hm=>?_) (λb u e=>?_) I.bare
 ·obtain⟨_,a1,_,a2,a3,a4⟩:=hf b hb;exact⟨a2,a1,a3,a4⟩
 ·obtain⟨o,es,ep,ho,r⟩:=hm;exact⟨o,es,ep,k _ o hL ho,r⟩
 ·refine(I.a6 b u e).jU (λc v hc q=>k c v ?_ q) (λ_ q=>q) λ_ _ q=>q;rcases hc with z|z
  ·rw[z];exact nit b u e
  ·exact nit c _ z
theorem Inv.LO{t':Nat}{fp:List Addr}{q:Addr}{xs:List V}(I:Inv X pins σ H s)(k:∀b o,b∉fp->s.heap.get? b=some o->h'.get? b=some o)(hf:∀b∈fp,fi X pins H b)(hq:s.heap.objs.size<=q)(new:cg X.prog X.w (upd H q (.tup xs)) h' q (.tup xs)):
  Inv X pins σ (upd H q (.tup xs)) { s with heap:=h',toks:=t' }:=by
 have nit:∀b u,H b=some u->b∉fp:=λb u e z=>by rw[(hf b z).1]at e;cases e
 have hL:=λz=>(hf _ z).2.1 rfl;have fq:=I.a6.fresh hq;have ne:∀b u,H b=some u->b≠q:=λb u e z=>by rw[z,fq]at e;cases e
 have ne':∀b o,s.heap.get? b=some o->b≠q:=λb o e z=>absurd (cR e) (z▸Nat.not_lt.mpr hq);refine I.step (λb hb=>?_) (λb o _ _ hc e _=>k b o hc e) (λb o _ _ hc e _=>⟨o.slots,k b o hc e⟩) (λb o _ e n=>(ae (ne' b o e))▸n)
  (λb o hc e=>⟨o,k b o hc e⟩) (λb _ e=>(ae (ne b _ e))▸e) (λb _ _ e=>(ae (ne b _ e))▸e) (λb ps e=>⟨#[],by rw[ae (ne b _ e),e];simp⟩) (λm hm=>?_) (λb u e=>?_) I.bare
 ·obtain⟨_,a1,_,a2,a3,a4⟩:=hf b hb;exact⟨a2,a1,a3,a4⟩
 ·obtain⟨o,es,ep,ho,r⟩:=hm;exact⟨o,es,ep,k _ o hL ho,r⟩
 ·by_cases z:b=q
  ·subst z;rw[aJ]at e;cases e;exact new
  ·rw[ae z]at e;refine(I.a6 b u e).jU (λc v hc q=>k c v ?_ q) (λc q=>?_) λc o q=>?_
   ·rcases hc with z|z
    ·rw[z];exact nit b u e
    ·exact nit c _ z
   ·rw[ae (ne c _ q)];exact q
   ·rw[ae (ne c _ q)];exact q
end
structure Zf(z TI TO i1 i2:Addr):Prop where
 TIz:TI≠z
 TOz:TO≠z
 i1z:i1≠z
 i2z:i2≠z
 TITO:TI≠TO
 TIi1:TI≠i1
 TIi2:TI≠i2
 TOi1:TO≠i1
 TOi2:TO≠i2
 i12:i1≠i2
def V2(K:Wf)(a b:Addr):It:=
 ⟨λi H=>∃ xs ys x y, aH K H a xs /\ aH K H b ys /\ xs[i]? = some x /\ ys[i]? = some y,
  λi H v H'=>∃q x y,v=.ref q/\H q=none/\(∀xs,aH K H a xs->xs[i]?=some x)/\(∀ys,aH K H b ys->ys[i]?=some y)/\H'=upd H q (.tup [x,y]),
  λi H=>∃xs ys,aH K H a xs/\aH K H b ys/\(xs.length<=i\/ys.length<=i)⟩
def Tz(z TI TO i1 i2 l1 l2:Addr)(i:Nat)(h:Heap):Prop:=IsZip h z TI TO .none/\IsPair h TI (.ref i1) (.ref i2)/\(∃a b,IsPair h TO a b)/\h.IsListIter i1 l1 i/\h.IsListIter i2 l2 i
theorem xR{h:Heap}{z TI TO i1 i2 l1 l2:Addr}{i:Nat}{xs ys:Array Value}(f:Zf z TI TO i1 i2)(t:Tz z TI TO i1 i2 l1 l2 i h)(p1:PlainL h l1 xs)(p2:PlainL h l2 ys):ZipApart z TI TO i1 i2 l1 l2:=by
 obtain⟨t1,t2,⟨a,b,t3⟩,⟨o4,t4,c4,_⟩,⟨o5,t5,c5,_⟩⟩:=t;have ne:∀{l:Addr}{its:Array Value},PlainL h l its->l≠z/\l≠TO/\l≠i1/\l≠i2:=λ{l its} p=>by
  obtain⟨o,n,e,c,_⟩:=p;refine⟨λq=>?_,λq=>?_,λq=>?_,λq=>?_⟩
  ·grind
  ·grind
  ·simp_all
  ·simp_all
 obtain⟨a1,a2,a3,a4⟩:=ne p1;obtain⟨b1,b2,b3,b4⟩:=ne p2;exact { TIz:=f.TIz,TOz:=f.TOz,i1z:=f.i1z,i2z:=f.i2z,TITO:=f.TITO,TIi1:=f.TIi1,TIi2:=f.TIi2,TOi1:=f.TOi1,TOi2:=f.TOi2,i12:=f.i12,l1z:=a1,l1TO:=a2,l1i1:=a3,l1i2:=a4,l2z:=b1,l2TO:=b2,l2i1:=b3,l2i2:=b4 }
theorem IS{P:Program}{w:World}{K:Wf}{elts:List Expr}{x1}{pos:Pos}{z TI TO i1 i2:Addr}(l1 l2:Addr)(f:Zf z TI TO i1 i2):Turn P w K (.Tuple elts x1 pos) (V2 K l1 l2) [z,TI,TO,i1,i2] z (Tz z TI TO i1 i2 l1 l2) where
 mem:=by simp
 obj:=λi h st b hb=>by
  obtain⟨t1,t2,⟨a,b',t3⟩,⟨o4,t4,c4,d4⟩,⟨o5,t5,c5,d5⟩⟩:=st;simp only[List.mem_cons,List.not_mem_nil,or_false]at hb;rcases hb with rfl|rfl|rfl|rfl|rfl
  ·exact⟨_,t1,λv q=>by cases q⟩
  ·exact⟨_,t2,λv q=>by cases q⟩
  ·exact⟨_,t3,λv q=>by cases q⟩
  ·exact⟨_,t4,λv q=>by rw[d4]at q;cases q⟩
  ·exact⟨_,t5,λv q=>by rw[d5]at q;cases q⟩
 keep:=λi h h' st k=>by
  obtain⟨t1,t2,⟨a,b',t3⟩,t4,t5⟩:=st;exact⟨k z (by simp) _ t1,k TI (by simp) _ t2,⟨a,b',k TO (by simp) _ t3⟩,t4.at λo e=>k i1 (by simp) o e,t5.at λo e=>k i2 (by simp) o e⟩
 item:=by
  intro X hP hw hK hc i pins s σ H E I hf st hg;subst hP hw hK;obtain⟨xs,ys,x,y,q1,q2,hx,hy⟩:=hg;obtain⟨its1,rv1,p1,_⟩:=I.list q1;obtain⟨its2,rv2,p2,_⟩:=I.list q2;obtain⟨u,hu,ru⟩:=rv1.get hx;obtain⟨v,hv,rv⟩:=rv2.get hy;have D:=xR f st p1 p2;obtain⟨t1,t2,⟨a,b',t3⟩,t4,t5⟩:=id st;have lt:∀b∈[z,TI,TO,i1,i2],b<s.heap.objs.size:=λb hb=>by
   simp only[List.mem_cons,List.not_mem_nil,or_false]at hb;rcases hb with rfl|rfl|rfl|rfl|rfl
   ·exact cR t1
   ·exact cR t2
   ·exact cR t3
   ·obtain⟨_,e,_⟩:=t4;exact cR e
   ·obtain⟨_,e,_⟩:=t5;exact cR e
  refine wpAny_pyNext_zip_item D t1 t2 t3 t4 t5 p1.isList p2.isList (by simpa using hu) (by simpa using hv) λh' z' TO' i1' i2' pr sz kp=>⟨.ref s.heap.objs.size,rfl,wpAny_letOwnedTupleGo_zip z' λh'' z'' sb=>?_⟩;have hTI:=kp _ _ f.TIz f.TITO f.TIi1 f.TIi2 t2;have nz:=Nat.ne_of_gt (lt z (by simp));have kk:∀b o,b∉[z,TI,TO,i1,i2]->s.heap.get? b=some o->h''.get? b=some o:=λb o nb e=>by
   simp only[List.mem_cons,List.not_mem_nil,or_false,not_or]at nb;exact(sb.2 b nb.1).trans (kp b o nb.1 nb.2.2.1 nb.2.2.2.1 nb.2.2.2.2 e)
  have new:IsTup h'' s.heap.objs.size #[u,v]:=⟨_,(sb.2 _ nz).trans pr,rfl,0,rfl⟩
  refine⟨.ref s.heap.objs.size,_,I.LO kk hf (bS _) ⟨sizeLine_eq▸(by decide:2<=16777216),[u,v],.cons ru (.cons rv .nil),new⟩,rfl,⟨_,x,y,rfl,I.a6.fresh (bS _),λzs hz=>(I.gz hz q1)▸hx,λzs hz=>(I.gz hz q2)▸hy,rfl⟩,?_,λb hb=>?_⟩
  ·exact⟨z'',(sb.2 _ f.TIz).trans hTI,⟨u,v,(sb.2 _ f.TOz).trans TO'⟩,i1'.at λo e=>(sb.2 _ f.i1z).trans e,i2'.at λo e=>(sb.2 _ f.i2z).trans e⟩
  ·rw[ae (d0 (lt b hb))];exact(hf b hb).1
 done:=by
  intro X hP hw hK hc i pins s σ H E I hf st hg;subst hP hw hK;obtain⟨xs,ys,q1,q2,hx⟩:=hg;obtain⟨its1,rv1,p1,_⟩:=I.list q1;obtain⟨its2,rv2,p2,_⟩:=I.list q2;have D:=xR f st p1 p2;obtain⟨t1,t2,⟨a,b',t3⟩,t4,t5⟩:=id st;have e1:=rv1.length;have e2:=rv2.length;refine wpAny_pyNext_zip_end (I.ok.hd hc) D t1 t2 t3 t4 t5 p1.isList p2.isList ?_ λh' kp=>⟨rfl,I.KZ (λb o nb e=>?_) hf⟩
  ·simp_all
  ·simp only[List.mem_cons,List.not_mem_nil,or_false,not_or]at nb;exact kp b o nb.1 nb.2.2.1 nb.2.2.2.1 nb.2.2.2.2 e
 self:=λ_ _ _ _ _ st h=>wpAny_pyIter_zip st.1 h
theorem zf(n:Nat):Zf (n+4) (n+2) (n+3) n (n+1):=by
 refine⟨?_,?_,?_,?_,?_,?_,?_,?_,?_,?_⟩<;>intro h<;>simp at h<;>omega
section
variable{X:Cx}
def QY(K:Wf)(ta:TA):TI:=λσ H R=>ta σ H λvs H1=>∃a b xs ys,vs=[.ref a,.ref b]/\aH K H1 a xs/\aH K H1 b ys/\R (V2 K a b) H1
theorem Fm{elts:List Expr}{x1}{tp:Pos}{a b:Expr}{ta:TA}{p pos:Pos}(hg:Gl X "zip")(hm:X.mg "zip" = none)(ha:PA X [a,b] ta)(hs:starEach [a,b] X.env=[(false,eval a X.env),(false,eval b X.env)]:=by rfl)(hs2:starEach [b] X.env=[(false,eval b X.env)]:=by rfl):
  PI X (.Tuple elts x1 tp) (.Call (.Name "zip" p) [a,b] [] pos) (QY X.K ta):=by
 intro pins s σ H R I h;refine Call_ (gc I hg hm boot_zip (PyProof.Rows.callWith_type1 (bG (ha pos pins s σ H _ I h) λus s1 ⟨vs,H1,I1,r1,q1⟩=>?_) (by rw[hs,hs2]) (by rw[hs2];rfl)));obtain⟨l1,l2,xs,ys,e,h1,h2,q⟩:=q1;subst e;cases r1 with
 |cons r rr=>
  cases rr with
  |cons r' rr=>
   cases rr;cases r;cases r';obtain⟨its1,rv1,p1,_⟩:=I1.list h1;obtain⟨its2,rv2,p2,_⟩:=I1.list h2;refine call_zip_2 p1.isList p2.isList λh' z TI TO j1 j2 sz kp=>?_;have I2:=I1.kept (t':=s1.toks) kp;refine wpAny_pyIter_zip z (⟨_,_,_,_,H1,rfl,I2,IS l1 l2 (zf s1.heap.objs.size),⟨z,TI,⟨_,_,TO⟩,j1,j2⟩,λb hb=>?_,q⟩);have lb:s1.heap.objs.size<=b:=by
    simp only[List.mem_cons,List.not_mem_nil,or_false]at hb;rcases hb with rfl|rfl|rfl|rfl|rfl
    ·exact Rj _ 4
    ·exact Rj _ 2
    ·exact Rj _ 3
    ·exact bS _
    ·exact Rj _ 1
   exact I1.xG lb (I1.a6.fresh lb)
end
def Bt(K:Wf)(g:TG)(tt:TT)(te:TE)(σ0:St)(Q:VK):List V->Hp->Prop:=λvs H1=>∃a b xs ys,vs=[.ref a,.ref b]/\aH K H1 a xs/\aH K H1 b ys/\nk g tt te σ0 Q (V2 K a b) H1
section
variable{K:Wf}{k:Nat}{fm:List Nat}{te:TE}{ta:TA}{g:TG}{tt:TT}{σ σ0:St}{H H1:Hp}{Q:VK}
theorem Rv:kz k fm (QY K ta) g tt te σ H Q=ta σ H (Bt K g tt te (dX k fm σ) Q):=rfl
theorem Bt.of{a b:Addr}{xs ys:List V}(hz:xs.length<sizeLine)(he:ys.length=xs.length)(hx:aH K H1 a xs)(hy:aH K H1 b ys)(Pv:Addr->Nat->List V->Hp->Prop)(h0:∀D,H1 D=none->Pv D 0 [] (upd H1 D (.lst [])))
  (hl:∀D i zs H',H1 D=none->i<=xs.length->Pv D i zs H'->aH K H' a xs/\aH K H' b ys/\H' D=some (.lst zs)/\zs.length<=i)
  (hs:∀D i x y zs H' q,H1 D=none->xs[i]?=some x->ys[i]?=some y->Pv D i zs H'->H' q=none->g (.ref q) σ0 (upd H' q (.tup [x,y])) λσ3 H4=>Ext σ0 σ3/\tt σ3 H4 λb H5=>if b=true then te σ3 H5 λy H6=>H6 D=some (.lst zs)/\Pv D (i+1) (zs++[y]) (upd H6 D (.lst (zs++[y]))) else Pv D (i+1) zs H5)
  (hd:∀D zs H',H1 D=none->Pv D xs.length zs H'->Q (.ref D) H'):Bt K g tt te σ0 Q [.ref a,.ref b] H1:=by
 refine⟨a,b,xs,ys,rfl,hx,hy,λD hD=>⟨λi m zs H=>m=xs.length - i/\i<=xs.length/\Pv D i zs H,⟨xs.length,by simp,Nat.zero_le _,h0 D hD⟩,?_⟩⟩;rintro i m zs H2 ⟨rfl,hi,p⟩;obtain⟨l0,l0',l1,l2⟩:=hl D i zs H2 hD hi p;refine⟨l1,by lia,?_⟩;by_cases hlt:i<xs.length
 ·have hlt':i<ys.length:=by lia
  refine .inr ⟨⟨xs,ys,xs[i],ys[i],l0,l0',by simp[hlt],by simp[hlt']⟩,Pv D (i+1),λzs' H' p'=>⟨_,(by lia:xs.length - (i+1)<xs.length - i),rfl,hlt,p'⟩,λx H3 y=>?_⟩;obtain⟨q,u,v,rfl,nq,y1,y2,rfl⟩:=y;exact hs D i u v zs H2 q hD (y1 xs l0) (y2 ys l0') p nq
 ·have e:i=xs.length:=by lia
  subst e;exact .inl ⟨⟨xs,ys,l0,l0',.inl (bS _)⟩,hd D zs H2 hD p⟩
end
def OI(tk tv:TE):TE:=λσ H Q=>∀p,H p=none->tk σ (upd H p (.dT [])) λx H1=>tv σ H1 λy H2=>H2 p=some (.dT [])/\∃b ks,x=.ref b/\H2 b=some (.tup (ks.map kV))/\Q (.ref p) (upd H2 p (.dT [(ks,y)]))
theorem De(hu:X.A.units+1<cLine)(hk:PE X k tk)(hv:PE X v tv):PE X (.Dict [some k] [v] pos) (OI tk tv):=by
 intro pins s σ H Q I q;have hn:=I.a6.fresh (bS s.heap.objs.size);have I1:=I.laid (a:=s.heap.objs.size) (o:=.dT []) (h':=s.heap.push { cls:=.type "dict", data:=.dict #[] }) (t':=s.toks) (λ_ _ q=>cS _ q) (bS _) (Gh s.heap I.big);refine wpAny_Dict_any rfl rfl 'k' (by show 1<=15;decide) ?_;refine pairTrees_cons_walk (bG (hk pins _ σ _ _ I1 (q _ hn)) λu s1 ⟨x,H1,J1,rx,q1⟩=>bG (hv pins s1 σ H1 _ J1 q1) λw2 s2 ⟨y,H2,I2,ry,e,b,ks,ex,eb,q2⟩=>pairTrees_nil_walk ?_);subst ex;cases rx;obtain⟨z,hd,xs,rel,dd⟩:=xq I2.a6 e;have h0:xs.length=0:=by rw[<-Paired.length rel];rfl
 show wpAny _ _ (forIn [(Value.ref b,w2)] PUnit.unit λ(x:Value×Value) (_:PUnit)=>(do dictSet s.heap.objs.size x.1 x.2;pure (ForInStep.yield PUnit.unit):Sem (ForInStep PUnit))) _ _ _;rw[List.forIn_cons];refine aE (aE (wpAny_dictSet_heap (hsz:=by rw[h0];exact d_ _) (knd:=tupleKind (aX X.prog X.w)) (show X.A.units<cLine by lia) (eT I2.a6 eb) dd λh' dd' hs=>bh ?_));show wpAny _ _ (forIn [] PUnit.unit _) _ _ _;rw[List.forIn_nil];refine bh ⟨.ref s.heap.objs.size,_,?_,rfl,q2⟩;obtain⟨q',es,ep,hq,h2,h3,h4,_,h5⟩:=dd';refine gY I2 (by rw[e];exact True.intro) hs ⟨q',hq⟩ ⟨by rw[sizeLine_eq];exact(by decide:(1:Nat)<=16777216),hd,_,(rel.put ks eb ry).keeps λc ys ec=>?_,q',es,ep,hq,h2,h3,h4,h5⟩;rw[ae (cj ec e (λz=>nomatch z))];exact ec
theorem Inv.freeze{X:Cx}{pins:Lo}{σ:St}{H:Hp}{s:Shared}{a:Addr}{ag:List (Key×V)}(I:Inv X pins σ H s)(e:H a=some (.dK ag)):
  ∃(o:Obj) (vs:List (Key×Value)) (ep:Nat),s.heap.get? a=some o/\(a == sysModules)=false/\KV ag vs/\KdkAt (aX X.prog X.w) o vs ep/\Inv X pins σ (upd H a (.iw o (.dK ag))) s:=by
 obtain⟨z,hS,vs,rel,dd⟩:=nU I.a6 e;obtain⟨ep,o,es,ho,r⟩:=dd.dictAt;refine⟨o,vs,ep,ho,hS,rel,⟨es,r⟩,?_⟩;have ne:∀{b:Addr}{u:HO},H b=some u->u≠.dK ag->b≠a:=λ{b u} q n z=>by rw[z,e]at q;cases q;exact n rfl
 refine I.step (ch:=[]) (λ_ z=>nomatch z) (λb o _ _ _ q _=>q) (λb o _ _ _ q _=>⟨o.slots,q⟩) (λb o _ _ n=>?_) (λb o _ q=>⟨o,q⟩)
  (λb xs q=>(ae (ne q (λz=>nomatch z)))▸q) (λb o u q=>(ae (ne q (λz=>nomatch z)))▸q) (λb ps q=>⟨#[],by rw[ae (ne q (λz=>nomatch z)),q];simp⟩) (λm hm=>hm) (λb u q=>?_) I.bare
 ·rw[ae (λz=>by rw[z,e]at n;cases n)];exact n
 ·by_cases z:b=a
  ·subst z;rw[aJ]at q;cases q;exact⟨ho,I.a6 b _ e⟩
  ·rw[ae z]at q;refine(I.a6 b u q).jU (λc v _ r=>r) (λc r=>?_) λc xs r=>?_
   ·rw[ae (ne r (λz=>nomatch z))];exact r
   ·rw[ae (ne r (λz=>nomatch z))];exact r
def VS(a:Addr)(o:Obj)(ag:List (Key×V)):It:=
 ⟨λi H=>H a = some (.iw o (.dK ag)) /\ ∃ p, ag[i]? = some p,
  λi H v H'=>H'=H/\∃p,ag[i]?=some p/\v=kV p.1,
  λi H=>H a=some (.iw o (.dK ag))/\ag.length<=i⟩
theorem KV.len{ag:List (Key×V)}{vs:List (Key×Value)}(h:KV ag vs):ag.length=vs.length:=Paired.length h
theorem BV{P:Program}{w:World}{K:Wf}{tg:Expr}{a it:Addr}{o:Obj}{ag:List (Key×V)}{vs:List (Key×Value)}{ep:Nat}(rel:KV ag vs)(kd:KdkAt (aX P w) o vs ep):
  Turn P w K tg (VS a o ag) [it] it (λi h=>h.IsKeyIter it a i vs.length ep) where
 mem:=by simp
 obj:=λi h st b hb=>by
  have e:=by simpa using hb
  subst e;obtain⟨o,e,c,d⟩:=st;exact⟨o,e,λv z=>by rw[d]at z;cases z⟩
 keep:=λi h h' st k=>st.at λo e=>k it (by simp) o e
 item:=by
  intro X hP hw hK hc i pins s σ H E I hf st hg;obtain⟨hH,p,hp⟩:=hg;obtain⟨ho,_⟩:=(I.a6 a _ hH)
  have hl:=rel.len;have hil:=(gZ.mp hp).1;have hv:vs[i]?=some vs[i]:=h9 (by omega);have hk:vs[i].1=p.1:=by
   have e1:(ag.map (·.1))[i]?=some p.1:=by rw[gU,hp];rfl
   rw[zZ rel,gU,hv]at e1;exact Option.some.inj e1
  obtain⟨f0,f1,f2,f3,f4,f5⟩:=hf it (by simp);refine wpAny_pyNext_dict_item st (KdkAt.dictAt kd ho) (k:=vs[i].1) hv λkey h' hkey st' sb=>?_;have I1:=I.turned (t':=s.toks) (λb o hb e=>(sb.2 b hb).trans e) f0 f1 f3 f4 f5;obtain⟨oi,e,c,d⟩:=id st';rw[hk]at hkey;have rk:RelV (kV p.1) key:=by
   rcases mS hkey with ⟨n,t,e1,rfl⟩|⟨x,t,e1,rfl⟩
   ·rw[e1];exact⟨t,rfl⟩
   ·rw[e1];exact⟨t,rfl⟩
  exact⟨key,rfl,x_ e c d (by decide) ⟨kV p.1,H,I1,rk,⟨rfl,p,hp,rfl⟩,st',λb hb=>(hf b hb).1⟩⟩
 done:=by
  intro X hP hw hK hc i pins s σ H E I hf st hg;obtain⟨hH,hi⟩:=hg;obtain⟨ho,_⟩:=(I.a6 a _ hH)
  obtain⟨f0,f1,f2,f3,f4,f5⟩:=hf it (by simp);have hl:=rel.len;exact wpAny_pyNext_dict_end (I.ok.hd hc) st (KdkAt.dictAt kd ho) (by simp;omega) λh' eb=>⟨rfl,I.turned (t':=s.toks) (λb o hb e=>eb b o hb e) f0 f1 f3 f4 f5⟩
 self:=λ_ _ _ _ _ st h=>wpAny_pyIter_keyiter st h
section
variable{X:Cx}
def EC(te:TE):TI:=λσ H R=>te σ H λx H1=>∃a ag,x=.ref a/\H1 a=some (.dK ag)/\∀o,R (VS a o ag) (upd H1 a (.iw o (.dK ag)))
theorem Ab(hl:PE X l tl):PI X tg l (EC tl):=by
 intro pins s σ H R I h;refine bG (hl pins s σ H _ I h) λv s1 ⟨x,H1,I1,r1,q1⟩=>?_;obtain⟨a,ag,e,hq,q⟩:=q1;subst e;cases r1;obtain⟨o,vs,ep,ho,hS,rel,kd,I2⟩:=I1.freeze hq;refine wpAny_pyIter_dict hS (KdkAt.dictAt kd ho) (⟨s1.heap.objs.size,[s1.heap.objs.size],_,_,_,rfl,I2.kept λb o e=>cS _ e,BV rel kd,⟨_,hV _ rfl,rfl,rfl⟩,λb hb=>?_,q o⟩);have e:=by simpa using hb
 subst e;exact I2.xG (bS _) (I2.a6.fresh (bS _))
end
def LV(g:TG)(tb:TS)(D:Ends)(σ:St):VK:=λx H1=>∃a ag,x=.ref a/\H1 a=some (.dK ag)/\∀o,s_ g tb D σ (VS a o ag) (upd H1 a (.iw o (.dK ag)))
section
variable{te:TE}{g:TG}{tb:TS}{D:Ends}{σ:St}{H:Hp}
theorem Rf:lP (EC te) g tb D σ H=te σ H (LV g tb D σ):=rfl
theorem LV.of{a:Addr}{ag:List (Key×V)}(hd:H a=some (.dK ag))(Pv:Obj->Nat->St->Hp->Prop)(h0:∀o,Pv o 0 σ (upd H a (.iw o (.dK ag))))(hl:∀o i σ H,i<=ag.length->Pv o i σ H->H a=some (.iw o (.dK ag)))
  (hs:∀o i p σ H,ag[i]?=some p->Pv o i σ H->g (kV p.1) σ H λσ2 H2=>tb { D with nx:=Pv o (i+1),ct:=Pv o (i+1),bk:=D.nx } σ2 H2) (he:∀o σ H,Pv o ag.length σ H->D.nx σ H):LV g tb D σ (.ref a) H:=by
 refine⟨a,ag,rfl,hd,λo=>⟨λi m σ H=>m=ag.length - i/\i<=ag.length/\Pv o i σ H,⟨ag.length,by simp,Nat.zero_le _,h0 o⟩,?_⟩⟩;rintro i m σ H ⟨rfl,hi,p⟩;have q:=hl o i σ H hi p;by_cases hlt:i<ag.length
 ·refine .inr ⟨⟨q,ag[i],by simp⟩,Pv o (i+1),λσ' H' p'=>⟨ag.length - (i+1),by lia,rfl,hlt,p'⟩,λx H' y=>?_⟩;obtain⟨rfl,u,hu,rfl⟩:=y;exact hs o i u σ _ hu p
 ·have e:i=ag.length:=by lia
  subst e;exact .inl ⟨⟨q,bS _⟩,he o σ H p⟩
end
def QR(cs:List Nat):Nat:=cs.foldl (λacc c=>acc*10+(c - 48)) 0
end L2
namespace L2
open PySem
theorem mU(t:SetTable)(n:Nat):(t.orStandIn n).led=t.led:=by
 unfold SetTable.orStandIn;split<;>rfl
theorem zQ(t:SetTable)(es:Array (Int×Value))(h:Int)(x:Value):(layNew t es h x).2.1.led=t.led:=by
 unfold layNew;split
 ·rename_i slot wd _;exact(mU (t.put slot).1 _)
 ·rfl
theorem EU(h:SetTable.laid m f v b c hs=some (t',o)):t'.led=b/\t'.plain=c:=by
 unfold SetTable.laid at h;cases hl:SetTable.layClean m hs with
 |none=>rw[hl]at h;cases h
 |some ow=>rw[hl]at h;cases h;exact⟨rfl,rfl⟩
theorem CJ(t:SetTable)(es:Array (Int×Value))(n:Nat):(relayAll t es n).2.1.led=t.led/\((relayAll t es n).2.1.plain=true->t.plain=true):=by
 unfold relayAll;split
 ·rename_i t' o hr;have z:=EU hr;dsimp only;split
  ·exact⟨z.1,λq=>z.2▸q⟩
  ·exact⟨rfl,λq=>(nomatch q)⟩
 ·exact⟨rfl,λq=>(nomatch q)⟩
def mY(w:World):Bool:=w.params.followText "set-order"
def txtOf:Value->Str
 |.str x _=>x
 |_=>Str.empty
def iU(w:World)(h:Heap)(a:Addr)(L:List Str):Prop:=
 ∃(es:Array (Int×Value)) (ep:Nat) (t:SetTable),h.get? a=some { cls:=.type "set", dict:=none,data:=.set es ep t,slots:=#[] }/\
  (∀e∈es.toList,∃y k,e=(hashStr w y,Value.str y k))/\es.toList.map (λe=>txtOf e.2)=L/\es.size<scanBound/\t.fits es.size=true/\t.led = !mY w/\(t.plain=true->L=[])
section
variable{prog:Program}{w:World}{A:Around}{E:Vs}{s:Shared}{a:Addr}{L:List Str}
theorem lO(h:∀e∈es,∃y k,e=(hashStr w y,Value.str y k)):ElemsOf (PySem.strKind prog w) es:=λe he=>by
 obtain⟨y,k,rfl⟩:=h e he;exact⟨⟨y,by simp[PySem.strKind,Value.isStrOf],rfl⟩,rfl⟩
theorem kN{es:List (Int×Value)}(h:∀e∈es,∃y k,e=(hashStr w y,Value.str y k))(x:Str):x∈es.map (λe=>txtOf e.2)↔∃e∈es,(PySem.strKind prog w).is x e.2=true:=by
 constructor
 ·intro hx;obtain⟨e,he,rfl⟩:=aQ.mp hx;obtain⟨y,k,rfl⟩:=h e he;exact⟨_,he,by simp[PySem.strKind,Value.isStrOf,txtOf]⟩
 ·rintro⟨e,he,hi⟩;obtain⟨y,k,rfl⟩:=h e he;obtain⟨t,z⟩:=Value.isStrOf_shape (v:=Value.str y k) hi;cases z;exact aQ.mpr ⟨_,he,rfl⟩
theorem E6(S:iU w s.heap a L)(hz:L.length+1<scanBound)
  (h:∀h' L' b,Heap.SameBut a s.heap h'->iU w h' a L'->L'.Perm (if x∈L then L else L++[x])->Q b { s with heap:=h' }):
  wpAny 'c' A (setAddHashed a (.str x k) (hashStr w x)) Q E s:=by
 obtain⟨es,ep,t,ho,he,hL,hb,hf,hl,hp⟩:=id S;have hel:=lO (prog:=prog) he;have hx:(PySem.strKind prog w).is x (.str x k)=true:=by simp[PySem.strKind,Value.isStrOf]
 have hn:es.size=L.length:=by rw[<-hL,aD,DY]
 refine mI (aE (KU ho rfl hf ?_));dsimp only;rw[byScan_of rfl hb hel,if_pos rfl];refine aE (aE (CW (aE (wpAny_setScan_of hx ho rfl hf hel ?_))));have gw:∀b {s1:Shared}{Q':Unit->Shared->Prop},Q' () s1->wpAny 'c' A (match b with | true=>rule "set.scan.the-table-gave-way" |false=>pure ()) Q' E s1:=λb s1 Q' q=>by
  cases b
  ·exact bh q
  ·exact CW q
 cases hr:List.findIdx? (λe=>(PySem.strKind prog w).is x e.2) es.toList with
 |some j=>
  have hm:x∈L:=by
   obtain⟨hj,pj,_⟩:=List.findIdx?_eq_some_iff_getElem.mp hr;rw[<-hL];exact(kN he x).mpr ⟨_,wR hj,pj⟩
  exact bh (bh (h s.heap L _ (Heap.SameBut.refl a s.heap) S (by rw[if_pos hm])))
 |none=>
  have hm:x∉L:=λhm=>by
   rw[<-hL]at hm;obtain⟨e,m,z⟩:=(kN he x).mp hm;have:=List.findIdx?_eq_none_iff.mp hr e m;rw[z]at this;cases this
  have lp:=layNew_perm t es (hashStr w x) (.str x k);have lf:=layNew_fits t es (hashStr w x) (.str x k);have ll:=zQ t es (hashStr w x) (.str x k);generalize layNew t es (hashStr w x) (.str x k)=R at lp lf ll ⊢;obtain⟨e1,t1,wd,gv⟩:=R;rw[Array.toList_push]at lp;refine aE (gw _ ?_);have he1:∀e∈e1.toList,∃y k,e=(hashStr w y,Value.str y k):=λe m=>by
   rcases bM.mp (lp.mem_iff.mp m) with m|m
   ·exact he e m
   ·exact⟨x,k,cx.mp m⟩
  have hp1:(e1.toList.map (λe=>txtOf e.2)).Perm (if x∈L then L else L++[x]):=by
   rw[if_neg hm,<-hL];have z:=lp.map (λe=>txtOf e.2);rw[bu]at z;exact z
  have hs1:e1.size=L.length+1:=by
   rw[<-DY,lp.length_eq,dv,DY,hn];rfl
  have hb1:e1.size<scanBound:=hs1▸hz;have tail:∀t2:SetTable,t2.fits e1.size=true->t2.led=(!mY w)->t2.plain=false->
    wpAny 'c' A (do
     storeSet a e1 t2
     if (!wd&&t2.tooFull)=true then do
       (match (relayAll t2 e1 (SetTable.grown e1.size)).2.2 with | true=>rule "set.scan.the-table-gave-way" |false=>pure ())
       storeSet a (relayAll t2 e1 (SetTable.grown e1.size)).1 (relayAll t2 e1 (SetTable.grown e1.size)).2.1
       pure (some true)
      else pure (some true)) (λr s'=>wpAny (model prog w) A (match r with | some b=>pure b | none=>setAddHashedIn a (.str x k) (hashStr w x) 99999) Q E s') E s:=by
   intro t2 f2 l2 p2;have u1:=(SetOf_store (knd:=PySem.strKind prog w) (S':=λy=>decide (y∈e1.toList.map (λe=>txtOf e.2))) ho ⟨rfl,rfl,rfl⟩ rfl (lO he1) (λy=>by rw[decide_eq_true_eq];exact kN he1 y) hb1 f2).1;have sb1:=Heap.SameBut.update s.heap a (Obj.putSet e1 t2);refine aE (wpAny_storeSet_of ho rfl ?_ (fits_of_scanBound hb1));have S1:iU w (s.heap.update a (Obj.putSet e1 t2)) a (e1.toList.map (λe=>txtOf e.2)):=⟨e1,ep+1,t2,u1,he1,rfl,hb1,f2,l2,λq=>by rw[p2]at q;cases q⟩
   split
   ·have rp:=relayAll_perm t2 e1 (SetTable.grown e1.size);have rf:=relayAll_fits t2 e1 (SetTable.grown e1.size);have rl:=CJ t2 e1 (SetTable.grown e1.size);generalize relayAll t2 e1 (SetTable.grown e1.size)=R at rp rf rl ⊢;obtain⟨e2,t3,g2⟩:=R;have he2:=λe m=>he1 e (rp.mem_iff.mp m);have hs2:e2.size=e1.size:=by rw[<-DY,rp.length_eq,DY]
    have hb2:e2.size<scanBound:=hs2▸hb1;refine aE (gw _ (aE (wpAny_storeSet_of u1 rfl ?_ (fits_of_scanBound hb2))));have u2:=(SetOf_store (knd:=PySem.strKind prog w) (S':=λy=>decide (y∈e2.toList.map (λe=>txtOf e.2))) u1 ⟨rfl,rfl,rfl⟩ rfl (lO he2) (λy=>by rw[decide_eq_true_eq];exact kN he2 y) hb2 rf).1;refine bh (bh (h _ (e2.toList.map (λe=>txtOf e.2)) _ (sb1.trans (Heap.SameBut.update _ a _)) ⟨e2,_,t3,u2,he2,rfl,hb2,rf,rl.1.trans l2,λq=>?_⟩ ((rp.map _).trans hp1)));rw[rl.2 q]at p2;cases p2
   ·exact bh (bh (h _ _ _ sb1 S1 hp1))
  rw[hl]at ll;cases pl:t1.plain with
  |true=>
   exact tail { t1 with plain:=false } (SetTable.fits_plain_off lf) ll rfl
  |false=>
   exact tail t1 lf ll pl
end
end L2
namespace L2
open PySem
theorem kG:Slot "set_iterator" "__next__" "set_iterator.__next__" := .of (owner := "set_iterator") (n := "__next__") (by rw[typeLookup_type,builtinLookup_eq_fast];kernel_rfl) 'e' 'e' 'e' (by first|exact .inl 'e'|exact .inr 'e') (by rw[isSubtype_type];kernel_rfl)
theorem dD:entryFor table "set_iterator.__next__" = some Builtin.«set_iterator.__next__»:=entryFor_of_tree (by kernel_rfl)
theorem dY(a:Value):argsOk "set_iterator.__next__" ⟨[a],[]⟩:=by unfold argsOk;kernel_rfl
theorem uX:entryFor table "set.__iter__" = some Builtin.«frozenset.__iter__»:=entryFor_alias (id' := "frozenset.__iter__") (by kernel_rfl) rfl 'e' (by kernel_rfl)
def Kr(f:Value)(i:Nat)(a:Value)(n ep:Nat):Obj:={ cls:=.type "set_iterator", data:=.fields #[f,.int i 0,a,.int n 0,.int ep 0] }
section
variable{prog:Program}{w:World}{A:Around}{E:Vs}{s:Shared}{it a:Addr}{i n ep slot next:Nat}{es:Array (Int×Value)}{t:SetTable}{Q:Option Value->Shared->Prop}{x:Value}
theorem nc(ho:s.heap.get? it=some (Kr (.int slot 0) i (.ref a) n ep))(hs:s.heap.get? a=some { cls:=.type "set", dict:=none,data:=.set es ep t,slots:=#[] })(hf:t.fits es.size=true)(hn:es.size=n)
  (hx:∀(A:Around) (E:Vs) (Q':Option (Value×Nat)->Shared->Prop),Q' (some (x,next)) s->wpAny 'c' A (setNext a slot i ep) Q' E s)
  (hQ:∀h',h'.get? it=some (Kr (.int next 0) (i+1) (.ref a) n ep)->Heap.SameBut it s.heap h'->Q (some x) { s with heap:=h' }):wpAny 'c' A (pyNext (.ref it)) Q E s:=by
 have hT:s.TypeIs (.ref it) "set_iterator" := ⟨_,ho,rfl⟩
 refine aE (RD (VD hT kG (MV kG hT dD ?_ (dY _))));refine aE (bh (aE (wpAny_fieldsOf ho rfl ?_)));dsimp only;refine aE (TH hs rfl hf ?_);rw[if_neg (by rw[hn];simp)];refine aE (hx _ _ _ ?_);have u1:=QQ (Obj.mapFields (·.setIfInBounds 0 (rawInt next))) ho rfl;exact aE (wpAny_setField ho rfl (by simp) (wpAny_bind (wpAny_setField u1 rfl (by simp) (wpAny_pure ⟨x,rfl,wpAny_pure (hQ _ (Heap.get?_update_self (Obj.mapFields (·.setIfInBounds 1 (rawInt (i+1)))) u1 rfl) ((Heap.SameBut.update ..).trans (Heap.SameBut.update ..)))⟩))))
theorem xZ(hh:A.handled=none){h0:Heap}(hQ:∀h',Heap.ExtBut it h0 h'->Q none { s with heap:=h' }):
  wpAny 'c' A.in1 (do let e <-newExc (Value.type "StopIteration") [];raiseNew e) (λ(fin:PySem.Fin) s'=>∃v,fin=Fin.done (Flow.ret v)/\wpAny 'c' A (pure (some v)) Q E s')
  (λe s'=>wpAny 'c' A (do let b <-isInstance e (Value.type "StopIteration");if b=true then pure none else throw e) Q E s') { s with heap:=h0 }:=by
 refine aE (aE (m:=firstArgMember _ _) (wpAny_of_eq (a:=Value.none) (by first|rfl|(simp only)) (wpAny_newObj_type (wpAny_bind (wpAny_handled ?_)) (by size_fits))));rw[hh];refine aE (bh (wpAny_throw ?_));refine aE (wpAny_isInstance ⟨_,hV _ rfl,rfl⟩ isSubtype_stop ?_);exact bh (hQ _ λb o hb e=>(cS _ (cS _ e)))
theorem nN(hh:A.handled=none)(ho:s.heap.get? it=some (Kr (.int slot 0) i (.ref a) n ep))(hs:s.heap.get? a=some { cls:=.type "set", dict:=none,data:=.set es ep t,slots:=#[] })(hf:t.fits es.size=true)(hn:es.size=n)
  (hx:∀(A:Around) (E:Vs) (Q':Option (Value×Nat)->Shared->Prop),Q' none s->wpAny 'c' A (setNext a slot i ep) Q' E s)
  (hQ:∀h',Heap.ExtBut it s.heap h'->Q none { s with heap:=h' }):wpAny 'c' A (pyNext (.ref it)) Q E s:=by
 have hT:s.TypeIs (.ref it) "set_iterator" := ⟨_,ho,rfl⟩
 refine aE (RD (VD hT kG (MV kG hT dD ?_ (dY _))));refine aE (bh (aE (wpAny_fieldsOf ho rfl ?_)));dsimp only;refine aE (TH hs rfl hf ?_);rw[if_neg (by rw[hn];simp)];exact aE (hx _ _ _ (aE (wpAny_setField ho rfl (by simp) (xZ hh λh' e=>hQ h' λb o hb z=>e b o hb (((Heap.SameBut.update s.heap it _).2 b hb).trans z)))))
theorem zB{p:Addr}{ps:List Nat}{j:Nat}{hv:Int}(ho:s.heap.get? it=some (Kr (.ref p) i (.ref a) n ep))(hs:s.heap.get? a=some { cls:=.type "set", dict:=none,data:=.set es ep t,slots:=#[] })(hf:t.fits es.size=true)(hn:es.size=n)
  (hp:s.heap.get? p=some { cls:=.type "tuple", data:=.seq (List.toArray (ps.map λj=>rawInt (j:Nat))) 0 }) (hj:ps[i]?=some j) (hx:es[j]?=some (hv,x))
  (hQ:∀h',h'.get? it=some (Kr (.ref p) (i+1) (.ref a) n ep)->Heap.SameBut it s.heap h'->Q (some x) { s with heap:=h' }):wpAny 'c' A (pyNext (.ref it)) Q E s:=by
 have hT:s.TypeIs (.ref it) "set_iterator" := ⟨_,ho,rfl⟩
 refine aE (RD (VD hT kG (MV kG hT dD ?_ (dY _))));refine aE (bh (aE (wpAny_fieldsOf ho rfl ?_)));dsimp only;refine aE (TH hs rfl hf ?_);rw[if_neg (by rw[hn];simp)];refine aE (Rx hp rfl ?_);have e1:(List.map (λj=>rawInt (j:Nat)) ps).toArray[(i:Int).toNat]?=some (.int j 0):=by
  rw[C0,S8,gU,hj];rfl
 dsimp only;rw[e1];refine aE (aE (KU hs rfl hf ?_));dsimp only;rw[C0,C0,if_neg (by simp),hx];exact bh (aE (wpAny_setField ho rfl (by simp) (wpAny_pure ⟨x,rfl,wpAny_pure (hQ _ (Heap.get?_update_self (Obj.mapFields (·.setIfInBounds 1 (rawInt (i+1)))) ho rfl) (Heap.SameBut.update ..))⟩)))
theorem lZ(hh:A.handled=none){p:Addr}{ps:List Nat}(ho:s.heap.get? it=some (Kr (.ref p) i (.ref a) n ep))(hs:s.heap.get? a=some { cls:=.type "set", dict:=none,data:=.set es ep t,slots:=#[] })(hf:t.fits es.size=true)(hn:es.size=n)
  (hp:s.heap.get? p=some { cls:=.type "tuple", data:=.seq (List.toArray (ps.map λj=>rawInt (j:Nat))) 0 }) (hj:ps[i]?=none)
  (hQ:∀h',Heap.ExtBut it s.heap h'->Q none { s with heap:=h' }):wpAny 'c' A (pyNext (.ref it)) Q E s:=by
 have hT:s.TypeIs (.ref it) "set_iterator" := ⟨_,ho,rfl⟩
 refine aE (RD (VD hT kG (MV kG hT dD ?_ (dY _))));refine aE (bh (aE (wpAny_fieldsOf ho rfl ?_)));dsimp only;refine aE (TH hs rfl hf ?_);rw[if_neg (by rw[hn];simp)];refine aE (Rx hp rfl ?_);have e1:(List.map (λj=>rawInt (j:Nat)) ps).toArray[(i:Int).toNat]?=none:=by simp_all
 dsimp only;rw[e1];have u1:=QQ (Obj.mapFields (·.setIfInBounds 0 (rawInt 0))) ho rfl;exact aE (wpAny_setField ho rfl (by simp) (wpAny_bind (wpAny_setField u1 rfl (by simp) (xZ hh λh' e=>hQ h' λb o hb z=>e b o hb ((((Heap.SameBut.update s.heap it _).trans (Heap.SameBut.update _ it _)).2 b hb).trans z)))))
end
end L2
namespace L2
open PySem
theorem jb:Slot "set_iterator" "__iter__" "set_iterator.__iter__" := .of (owner := "set_iterator") (n := "__iter__") (by rw[typeLookup_type,builtinLookup_eq_fast];kernel_rfl) 'e' 'e' 'e' (by first|exact .inl 'e'|exact .inr 'e') (by rw[isSubtype_type];kernel_rfl)
theorem mO:entryFor table "set_iterator.__iter__" = some Builtin.«dict_keyiterator.__iter__»:=entryFor_alias (id' := "dict_keyiterator.__iter__") (by kernel_rfl) rfl 'e' (by kernel_rfl)
theorem ue(a:Value):argsOk "set_iterator.__iter__" ⟨[a],[]⟩:=by unfold argsOk;kernel_rfl
theorem iG{α:Type}:∀{l:List α}{i:Nat}(h:i<l.length),(l[i]::l.eraseIdx i).Perm l
 |x::xs,0,_=>.rfl
 |x::xs,i+1,h=>(List.Perm.swap x _ _).trans ((iG (Nat.lt_of_succ_lt_succ h)).cons x)
theorem Bf{α:Type}(next:Nat->Nat):∀(f k:Nat) (l:List α) (out:Array α),f=l.length->(pickOrder.go next f k l out).toList.Perm (out.toList++l)
 |0,k,l,out,h=>by
  rw[List.length_eq_zero_iff.mp h.symm,nY];exact .rfl
 |f+1,k,l,out,h=>by
  have hl:next k%l.length<l.length:=Nat.mod_lt _ (by lia)
  unfold pickOrder.go;rw[h9 hl];refine(Bf next f (k+1) _ _ (by rw[List.length_eraseIdx_of_lt hl];lia)).trans ?_;rw[Array.toList_push,yz];exact List.Perm.append_left _ (iG hl)
theorem j4{α:Type}(next:Nat->Nat)(xs:Array α):(pickOrder next xs).toList.Perm xs.toList:=by
 have z:=Bf next xs.size 0 xs.toList #[] (by rw[DY])
 exact z
section
variable{prog:Program}{w:World}{A:Around}{E:Vs}{s:Shared}{I a:Addr}{n ep:Nat}{es:Array (Int×Value)}{t:SetTable}
theorem ite_no{α:Type}{c:Prop} [Decidable c]{x y:Sem α}{Q:α->Shared->Prop}(hc:¬c)(h:wpAny 'c' A y Q E s):wpAny 'c' A (if c then x else y) Q E s:=by
 rw[if_neg hc];exact h
theorem ite_yes{α:Type}{c:Prop} [Decidable c]{x y:Sem α}{Q:α->Shared->Prop}(hc:c)(h:wpAny 'c' A x Q E s):wpAny 'c' A (if c then x else y) Q E s:=by
 rw[if_pos hc];exact h
theorem mW(h0:0<m)(h:∀i d,i<m->Q i { s with drawn:=d }):wpAny 'c' A (choose src m) Q E s:=λΓ p _=>by
 show Sem.wp _ _ (.choose src m .pure) _ _ _ _;refine⟨by lia,?_⟩;show Sem.wp _ _ (pure _) _ _ _ _;exact h _ _ (Nat.mod_lt _ h0)
theorem yd{α:Type}:∀(m:Nat) (xs:List α) (s:Shared) {Q:List α->Shared->Prop},m=xs.length->(∀ys d,ys.Perm xs->Q ys { s with drawn:=d })->wpAny 'c' A (drawOrder m xs) Q E s
 |0,xs,s,Q,hm,h=>by
  exact bh (h [] s.drawn (by rw[List.length_eq_zero_iff.mp hm.symm]))
 |m+1,[],s,Q,hm,h=>by simp at hm
 |m+1,x::xs,s,Q,hm,h=>by
  exact aE (mW (by simp) λi d hi=>((List.getElem?_eq_getElem hi)▸wpAny_bind (yd m _ _ (by rw[List.length_eraseIdx_of_lt hi];lia) λys d' hp=>wpAny_pure (h _ d' ((hp.cons _).trans (iG hi))))))
theorem jT{f:Value}{i:Nat}{a:Value}{Q:Vs}(ho:s.heap.get? I=some (Kr f i a n ep))(h:Q (.ref I) s):wpAny 'c' A (pyIter (.ref I)) Q E s:=by
 have hT:s.TypeIs (.ref I) "set_iterator" := ⟨_,ho,rfl⟩
 exact wpAny_pyIter_slot hT jb (MV jb hT mO (bh ⟨_,rfl, "set_iterator", _,hT,kG.lookup,h⟩) (ue _))
abbrev hU(es:Array (Int×Value))(ep:Nat)(t:SetTable):Obj:={ cls:=.type "set", dict:=none,data:=.set es ep t,slots:=#[] }
theorem nC(h:xs.size=1)(hx:xs[0]?=some j):SetTable.below xs 0=0/\SetTable.below xs (j+1)=1:=by
 obtain⟨l⟩:=xs
 match l,h with
 |[x],_=>
  simp at hx;subst hx;simp[SetTable.below,SetTable.below.go]
theorem VQ(h:xs.size=0)(j:Nat):SetTable.below xs j=0:=by
 unfold SetTable.below;rw[h];rfl
theorem BR(bt:mY w=true)(hh:A.handled=none)(hne:a≠I)(hf:t.fits es.size=true):
  Walks prog w A I [I,a] [I] es.size (λi v=>∃h,(pickOrder (w.params.setOrder a ep) es)[i]?=some (h,v)) (λi h=>h.get? I=some (Kr (.int 0 0) i (.ref a) es.size ep)/\h.get? a=some (hU es ep t)) where
 sub:=λb hb=>by simp at hb;simp[hb]
 frame:=λ_ _ _ st k=>⟨k I (by simp) _ st.1,k a (by simp) _ st.2⟩
 item:=λi s Q E hi st hQ=>by
  have hlen:=by
   have z:=(j4 (w.params.setOrder a ep) es).length_eq;simpa using z
  obtain⟨x,hx⟩:∃x,(pickOrder (w.params.setOrder a ep) es)[i]?=some x:=⟨_,Va (hlen▸hi)⟩
  refine nc st.1 st.2 hf rfl (λA E Q' q=>(aE (KU st.2 rfl hf (aE (aE (Kl (bh ?_))))))) λh' o' sb=>hQ x.2 h' s.toks ⟨x.1,hx⟩ ⟨o',(sb.2 a hne).trans st.2⟩ λb o hb e=>(sb.2 b (by simpa using hb)).trans e;rw[show 'c'.w.params.followText "set-order" = true from bt,if_pos rfl,if_neg (by simp)];refine aE (aE (KU st.2 rfl hf (aE (aE (Kl (bh ?_))))));rw[show 'c'.w.params.followText "set-order" = true from bt,if_pos rfl];refine aE (Kl (bh (bh ?_)));rw[show(pickOrder ('c'.w.params.setOrder a ep) es)[i]?=some x from hx];exact q
 done:=λs Q E st hQ=>by
  refine nN hh st.1 st.2 hf rfl (λA E Q' q=>?_) λh' e=>hQ h' s.toks λb o hb z=>e b o (by simpa using hb) z;have hlen:=by
   have z:=(j4 (w.params.setOrder a ep) es).length_eq;simpa using z
  refine aE (KU st.2 rfl hf (aE (aE (Kl (bh ?_)))));rw[show 'c'.w.params.followText "set-order" = true from bt,if_pos rfl,if_neg (by simp)];refine aE (aE (KU st.2 rfl hf (aE (aE (Kl (bh ?_))))));rw[show 'c'.w.params.followText "set-order" = true from bt,if_pos rfl];refine aE (Kl (bh (bh ?_)));rw[Array.getElem?_eq_none (hlen▸bS _)];exact q
 self:=λ_ _ _ _ st hQ=>jT st.1 hQ
theorem CP(bt:mY w=false)(hh:A.handled=none)(hne:a≠I)(hf:t.fits es.size=true)(hl:t.led=true)(h1:es.size<=1):
  Walks prog w A I [I,a] [I] es.size (λi v=>∃h,es[i]?=some (h,v)) (λi h=>(∃sl,h.get? I=some (Kr (.int (sl:Nat) 0) i (.ref a) es.size ep)/\(i=0->sl=0)/\(i=1->∃j,t.place[0]?=some j/\sl=j+1))/\h.get? a=some (hU es ep t)) where
 sub:=λb hb=>by simp at hb;simp[hb]
 frame:=λ_ _ _ st k=>by
  obtain⟨⟨sl,o,z⟩,q⟩:=st;exact⟨⟨sl,k I (by simp) _ o,z⟩,k a (by simp) _ q⟩
 item:=λi s Q E hi st hQ=>by
  obtain⟨⟨sl,o,z0,z1⟩,hs⟩:=st;have e1:es.size=1:=by lia
  have i0:i=0:=by lia
  subst i0;have s0:=z0 rfl;subst s0;have hp:t.place.size=1:=by
   have z:=hf;simp only[SetTable.fits,Bool.and_eq_true,beq_iff_eq]at z;lia
  obtain⟨j,hj⟩:∃j,t.place[0]?=some j:=⟨_,Va (by lia)⟩
  obtain⟨⟨hv,x⟩,hx⟩:∃x,es[0]?=some x:=⟨_,Va (by lia)⟩
  refine nc o hs hf rfl (λA E Q' q=>?_) λh' o' sb=>hQ x h' s.toks ⟨hv,hx⟩ ⟨⟨j+1,o',λz=>absurd z (by lia),λ_=>⟨j,hj,rfl⟩⟩,(sb.2 a hne).trans hs⟩ λb o hb e=>(sb.2 b (by simpa using hb)).trans e;refine aE (KU hs rfl hf (aE (aE (Kl (bh ?_)))));dsimp only;rw[show 'c'.w.params.followText "set-order" = false from bt,if_neg (by simp)];refine ite_no (λz=>absurd (show (!t.plain&&decide (es.size>1))=true from z) (by rw[e1];simp)) (wpAny_bind ?_);show wpAny _ _ (if (!t.led && !es.isEmpty)=true then unsupported "set:maker-not-led" else pure ()) _ _ _;rw[hl,if_neg (by simp)];refine bh ?_;rw[(nC hp hj).1,hx,hj];exact bh q
 done:=λs Q E st hQ=>by
  obtain⟨⟨sl,o,z0,z1⟩,hs⟩:=st;refine nN hh o hs hf rfl (λA E Q' q=>?_) λh' e=>hQ h' s.toks λb o hb z=>e b o (by simpa using hb) z;refine aE (KU hs rfl hf (aE (aE (Kl (bh ?_)))));dsimp only;rw[show 'c'.w.params.followText "set-order" = false from bt,if_neg (by simp)];refine ite_no (λz=>absurd (show (!t.plain&&decide (es.size>1))=true from z) (by simp;omega)) (wpAny_bind ?_);show wpAny _ _ (if (!t.led && !es.isEmpty)=true then unsupported "set:maker-not-led" else pure ()) _ _ _;rw[hl,if_neg (by simp)];refine bh ?_;have hb:es[SetTable.below t.place sl]?=none:=by
   have z:=hf;simp only[SetTable.fits,Bool.and_eq_true,beq_iff_eq]at z;by_cases e1:es.size=1
   ·obtain⟨j,hj,rfl⟩:=z1 e1;rw[(nC (by lia) hj).2];exact Array.getElem?_eq_none (by lia)
   ·grind
  exact hb▸bh q
 self:=λ_ _ _ _ st hQ=>by
  obtain⟨⟨sl,o,_⟩,_⟩:=st;exact jT o hQ
theorem xt{p:Addr}{ps:List Nat}(hh:A.handled=none)(hne:a≠I)(hpI:p≠I)(hf:t.fits es.size=true)(hps:ps.Perm (List.range es.size)):
  Walks prog w A I [I,a,p] [I] es.size (λi v=>∃j h,ps[i]?=some j/\es[j]?=some (h,v)) (λi h=>h.get? I=some (Kr (.ref p) i (.ref a) es.size ep)/\h.get? a=some (hU es ep t)/\h.get? p=some { cls:=.type "tuple", data:=.seq (List.toArray (ps.map λj=>rawInt (j:Nat))) 0 }) where
 sub:=λb hb=>by simp at hb;simp[hb]
 frame:=λ_ _ _ st k=>⟨k I (by simp) _ st.1,k a (by simp) _ st.2.1,k p (by simp) _ st.2.2⟩
 item:=λi s Q E hi st hQ=>by
  have hl:ps.length=es.size:=by rw[hps.length_eq,Om]
  obtain⟨j,hj⟩:∃j,ps[i]?=some j:=⟨_,h9 (by lia)⟩
  have hj1:=qV.mp (hps.mem_iff.mp (dI hj));obtain⟨⟨hv,x⟩,hx⟩:∃x,es[j]?=some x:=⟨_,Va hj1⟩
  exact zB st.1 st.2.1 hf rfl st.2.2 hj hx λh' o' sb=>hQ x h' s.toks ⟨j,hv,hj,hx⟩ ⟨o',(sb.2 a hne).trans st.2.1,(sb.2 p hpI).trans st.2.2⟩ λb o hb e=>(sb.2 b (by simpa using hb)).trans e
 done:=λs Q E st hQ=>lZ hh st.1 st.2.1 hf rfl st.2.2 (List.getElem?_eq_none (hps.length_eq▸Om▸bS _)) λh' e=>hQ h' s.toks λb o hb z=>e b o (by simpa using hb) z
 self:=λ_ _ _ _ st hQ=>jT st.1 hQ
end
end L2
namespace L2
open PySem
section
variable{prog:Program}{w:World}{A:Around}{E:Vs}{s:Shared}{a:Addr}{L:List Str}
theorem Gy{es:Array (Int×Value)}:∀(l:List Nat),(∀j∈l,j<es.size)->∀(i j:Nat),l[i]?=some j->(l.filterMap λj=>es[j]?)[i]?=es[j]?
 |[],_,i,j,q=>by simp at q
 |x::l,hl,i,j,q=>by
  have hx:=Va (hl x (.head _));rw[List.filterMap_cons,hx];cases i with
  |zero=>simp at q;subst q;simp
  |succ i=>
   exact Gy l (λj hj=>hl j (.tail _ hj)) i j q
def Ub(w:World)(ord:List (Int×Value))(i:Nat)(v:Value):Prop:=∃h,ord[i]?=some (h,v)
theorem JR{Q:Vs}{es:Array (Int×Value)}{ep:Nat}{t:SetTable}(ho:s.heap.get? a=some (hU es ep t))(hf:t.fits es.size=true)(hl:t.led = !mY w)(hp:t.plain=true->es.size=0)(hz:es.size<scanBound)
  (hQ:∀(s':Shared) (I:Addr) (fp:List Addr) (St:Nat->Heap->Prop) (P:Nat->Value->Prop) (ord:List (Int×Value)),(∀b o,s.heap.get? b=some o->s'.heap.get? b=some o)->s'.gens=s.gens->s'.os=s.os->
   (∀A':Around,A'.handled=none->Walks prog w A' I fp [I] es.size P St)->St 0 s'.heap->(∀b∈fp,b=a\/s.heap.objs.size<=b)->s.heap.objs.size<=I->ord.Perm es.toList->(∀i v,P i v->Ub w ord i v)->Q (.ref I) s'):
  wpAny 'c' A (pyIter (.ref a)) Q E s:=by
 have hT:s.TypeIs (.ref a) "set" := ⟨_,ho,rfl⟩
 have hlt:=cR ho;refine wpAny_pyIter_slot hT PySem.F.slot_set_iter (MV PySem.F.slot_set_iter hT uX (aE (bh (aE (aE (TH ho rfl hf (bh (aE (aE (KU ho rfl hf (aE (aE (Kl (bh (bh ?_)))))))))))))) (PySem.F.args_set_iter_1 _));cases bt:mY w with
 |true=>
  refine ite_no (λz=>absurd (show(!(mY w)&&(!t.plain&&decide (es.size>1)))=true from z) (by rw[bt];simp)) (wpAny_bind (wpAny_pure (wpAny_bind (wpAny_setEpoch_of ho rfl hf (wpAny_bind (wpAny_newObj_type (wpAny_pure ⟨_,rfl, "set_iterator", _,⟨_,hV _ rfl,rfl⟩,kG.lookup,?_⟩)))))));exact hQ _ s.heap.objs.size [s.heap.objs.size,a] _ _ (pickOrder (w.params.setOrder a ep) es).toList (λb o z=>cS _ z) rfl rfl (λA' h'=>BR bt h' (d0 hlt) hf) ⟨hV _ rfl,cS _ ho⟩
   (λb hb=>by simp at hb;rcases hb with rfl|rfl<;>simp) (Nat.le_refl _) (j4 _ _) λi v ⟨h,z⟩=>⟨h,Array.getElem?_toList▸z⟩
 |false=>
  rw[bt]at hl;by_cases h1:es.size<=1
  ·refine ite_no (λz=>absurd (show(!(mY w)&&(!t.plain&&decide (es.size>1)))=true from z) (by simp;omega)) (wpAny_bind (wpAny_pure (wpAny_bind (wpAny_setEpoch_of ho rfl hf (wpAny_bind (wpAny_newObj_type (wpAny_pure ⟨_,rfl, "set_iterator", _,⟨_,hV _ rfl,rfl⟩,kG.lookup,?_⟩)))))));exact hQ _ s.heap.objs.size [s.heap.objs.size,a] _ _ es.toList (λb o z=>cS _ z) rfl rfl (λA' h'=>CP bt h' (d0 hlt) hf hl h1) ⟨⟨0,hV _ rfl,λ_=>rfl,λz=>absurd z (by lia)⟩,cS _ ho⟩
    (λb hb=>by simp at hb;rcases hb with rfl|rfl<;>simp) (Nat.le_refl _) .rfl λi v ⟨h,z⟩=>⟨h,Array.getElem?_toList▸z⟩
  ·have np:t.plain=false:=by
    cases z:t.plain with
    |false=>rfl
    |true=>exact absurd (hp z) (by lia)
   refine ite_yes (show(!(mY w)&&(!t.plain&&decide (es.size>1)))=true by rw[bt,np];simp;lia) (wpAny_bind (yd es.size (List.range es.size) s (by simp) λps d hps=>(wpAny_bind <| wpAny_newTuple ?_ (by rw[List.length_map,hps.length_eq,List.length_range];exact fits_of_scanBound hz))));have ho1:(s.heap.push { cls:=.type "tuple", data:=.seq (List.toArray (ps.map λj=>rawInt (j:Nat))) 0 }).get? a=some (hU es ep t):=cS _ ho;refine aE (wpAny_setEpoch_of ho1 rfl hf (aE (Ug (bh ⟨_,rfl, "set_iterator", _,⟨_,hV _ rfl,rfl⟩,kG.lookup,?_⟩))));have hs1:(s.heap.push { cls:=.type "tuple", data:=.seq (List.toArray (ps.map λj=>rawInt (j:Nat))) 0 }).objs.size=s.heap.objs.size+1:=RF ..;refine hQ _ _ [_,a,s.heap.objs.size] _ _ (ps.filterMap λj=>es[j]?) (λb o z=>cS _ (cS _ z)) rfl rfl (λA' h'=>xt h' (hs1▸d0 (Tr hlt)) (hs1▸d0 (Jz _)) hf hps)
    ⟨hV _ rfl,cS _ ho1,cS _ (hV _ rfl)⟩ (λb hb=>?_) (by first|exact CV _|exact hs1.symm▸CV _) ?_ λi v ⟨j,h,z1,z2⟩=>?_
   ·simp at hb;rcases hb with rfl|rfl|rfl
    ·simp_all
    ·exact .inl rfl
    ·exact .inr (bS _)
   ·refine(hps.filterMap _).trans ?_;rw[filterMap_getElem?_range]
   ·exact⟨h,by rw[Gy ps (λj hj=>qV.mp (hps.mem_iff.mp hj)) i j z1,z2]⟩
theorem DC(hT:s.TypeIs (.ref a) "set")(h:Q false s):wpAny 'c' A (Builtin.List.listLengthHint (.ref a)) Q E s:=by
 refine aE (wpAny_specialOf hT PySem.F.slot_set_len.lookup ?_);generalize hid:("set.__len__" : String)=id0;subst hid;exact aE (wpAny_isInstance (b:=true) hT (by rw[isSubtype_type];kernel_rfl) (aE (wpAny_typeOf hT (bh h))))
theorem xV(S:iU w s.heap a L)(hh:A.handled=none)
  (h:∀(s':Shared) (vs:List Value) (ord:List Str),(∀b o,s.heap.get? b=some o->s'.heap.get? b=some o)->s'.gens=s.gens->s'.os=s.os->ord.Perm L->vs.length=ord.length->(∀(j:Nat) (v:Value),vs[j]?=some v->∃y k,ord[j]?=some y/\v=Value.str y k)->R vs s'):
  wpAny 'c' A (collect (.ref a)) R E s:=by
 obtain⟨es,ep,t,ho,he,hL,hb,hf,hl,hp⟩:=id S;have hn:es.size=L.length:=by rw[<-hL,aD,DY]
 have hlt:=cR ho;refine aE (wpAny_runValue (codeAny_builtin PySem.F.entry_proto_collect (aE (Ug (bh ⟨plainId_quiet PySem.F.plain_list_iadd _,codeAny_builtin PySem.F.entry_list_iadd ?_⟩)))));show wpAny _ A.in1 (Builtin.List.listExtendWith 'C' (.ref a) 'C') _ _ _;generalize hH:s.heap.push { cls:=.type "list", data:=.seq ([]:List Value).toArray }=H;have hHs:H.objs.size=s.heap.objs.size+1:=hH▸RF ..;have hS0:=hH▸hV _ rfl;have ho1:=hH▸cS _ ho;have kp:∀b o,s.heap.get? b=some o->H.get? b=some o:=λb o z=>hH▸cS _ z;refine aE (wpAny_typeOf ⟨_,ho1,rfl⟩ ?_);have h1:Builtin.List.listSameRef 'C' (.ref a)=false:=by simp[Builtin.List.listSameRef];exact Ne.symm (Nat.ne_of_lt hlt)
 refine ite_no (by rw[h1];decide) (aE (JR ho1 hf hl (λz=>by rw[hn,hp z];rfl) hb λs1 I fp St P ord k1 g1 o1 W st hfp hI hord hP=>?_));have hI':=hHs▸hI;have hSf:s.heap.objs.size∉fp:=λz=>by
  rcases hfp _ z with q|q
  ·exact absurd q (Ne.symm (d0 hlt))
  ·exact absurd (q) (hHs▸Nat.not_succ_le_self _)
 have hS1:=k1 _ _ hS0;have ord_len:(ord.map λe=>txtOf e.2).Perm L:=hL▸hord.map _;refine aE (mI (DC ⟨_,k1 _ _ ho1,rfl⟩ (ite_yes 'e' (aE (CW (aE (aE (wpAny_updateSeq hS1 rfl ?_))))))));have hS2:=QQ (Obj.mapSeq (λq=>q.push Value.none)) hS1 rfl;refine wpAny_updateSeq hS2 rfl ?_;have hS3:=QQ (Obj.mapSeq (λq=>q.pop)) hS2 rfl;have k2:∀b o,b≠s.heap.objs.size->s1.heap.get? b=some o->((s1.heap.update s.heap.objs.size (Obj.mapSeq λq=>q.push Value.none)).update s.heap.objs.size (Obj.mapSeq λq=>q.pop)).get? b=some o:=λb o hb z=>
  (O7 _ _ (Ne.symm hb)).trans ((O7 _ _ (Ne.symm hb)).trans z)
 have W1:=(W A.in1 hh).toS;refine bh ⟨plainId_quiet PySem.F.plain_extend_loop _,codeAny_extend_loopS W1 (fits_of_scanBound hb) _ hSf _ es.size 0 _ #[] _ rfl (d_ _) ((W A.in1 hh).frame 0 _ _ st λb hb o z=>k2 b o (λq=>hSf (q▸hb)) z) hS3 (ItemsOf.nil _) λs2 acc c hm hS2 hacc=>?_⟩;refine aE (wpAny_load hS2 (bh (h s2 acc.toList (ord.map λe=>txtOf e.2) (λb o z=>?_) (hm.gens.trans g1) (hm.os.trans o1) ord_len ?_ λj v hv=>?_)))
 ·refine hm.heap b o (λq=>?_) (k2 b o (d0 (cR z)) (k1 b o (kp b o z)));have lt:=cR z;rcases iu.mp q with q|q
  ·exact absurd lt (q▸wB _)
  ·rw[cx.mp q]at lt;exact absurd (kx (Tr lt) hI') (wB _)
 ·rw[DY,hacc.1,aD,hord.length_eq,DY]
 ·rw[Wl]at hv;obtain⟨hh,z⟩:=hP j v (hacc.2 j v hv);obtain⟨y,k,e⟩:=he _ (hord.mem_iff.mp (dI z));refine⟨y,k,?_,congrArg Prod.snd e⟩;rw[gU,z,e];rfl
end
end L2
namespace L2
open PySem PySem.Spec
section
variable{prog:Program}{w:World}{A:Around}{E:Vs}
theorem Ce(a:Value){Q₁:Vs}(h:Q₁ 'C' { s with heap:=s.heap.push (hU #[] 0 (.fresh 0 0 (!mY w))) }):
  codeAny 'c' A (.call (.builtin "set.__new__") ⟨[.type "set", a],[]⟩) (wants Q₁ E) s:=by
 refine codeAny_of_tree (aE (wpAny_of_eq (PySem.F.newCall_set_1 a) (bh ⟨plainId_quiet PySem.F.plain_set_new _,codeAny_builtin PySem.F.entry_set_new ?_⟩)));have hs:=sub_set_self
 wp_walk
 exact Kl (bh (aE (wpAny_alloc (bh (bh h)))))
theorem zE{h:Heap}:iU w (h.push (hU #[] 0 (.fresh 0 0 (!mY w)))) h.objs.size []:=
 ⟨#[],0,_,hV _ rfl,λe he=>by simp at he,rfl,by decide,rfl,rfl,λ_=>rfl⟩
theorem iU.keep{h h':Heap}{a:Addr}{L:List Str}(S:iU w h a L)(k:∀o,h.get? a=some o->h'.get? a=some o):iU w h' a L:=
 let ⟨es,ep,t,ho,r⟩:=S;⟨es,ep,t,k _ ho,r⟩
theorem JK{L L':List Str}{x:Str}(h:L'.Perm (if x∈L then L else L++[x]))(hn:L.Nodup):L'.Nodup/\(∀y,y∈L'↔y∈L\/y=x)/\L'.length<=L.length+1:=by
 by_cases m:x∈L
 ·rw[if_pos m]at h;exact⟨h.symm.nodup hn,λy=>by rw[h.mem_iff];exact⟨.inl,λz=>z.elim id λe=>e▸m⟩,by rw[h.length_eq];lia⟩
 ·rw[if_neg m]at h;refine⟨h.symm.nodup ?_,λy=>by rw[h.mem_iff];simp,by rw[h.length_eq];simp⟩;rw[gX];exact⟨hn,by simp,λa ha b hb=>by simp at hb;subst hb;exact λe=>m (e▸ha)⟩
theorem Ex{R:Result->Shared->Prop}{I:Addr}{fp wr:List Addr}{G:Array GenState->Array GenState->Prop}{n:Nat}{P:Nat->Value->Prop}{St:Nat->Shared->Prop}(W:WalksS prog w A.in1 I fp wr G n P St)(S:Addr)(hSf:S∉fp)
  (val:Nat->Str) (hval:∀i v,P i v->∃t,v=Value.str (val i) t) (hb:n+1<scanBound):
  ∀(k i:Nat) (s:Shared) (L:List Str),n - i=k->i<=n->St i s->iU w s.heap S L->L.Nodup->L.length<=i->(∀y,y∈L↔∃j,j<i/\val j=y)->
   (∀s' L',Moved (S::wr) G s s'->iU w s'.heap S L'->L'.Nodup->L'.length<=n->(∀y,y∈L'↔∃j,j<n/\val j=y)->R (.ok (.ret .none)) s')->
   codeAny 'c' A (.builtin "set.update.loop" ⟨[.ref S,.ref I],[]⟩) R s:=by
 have hSw:=λh=>hSf (W.sub _ h);have sub:∀b∈wr,b∈S::wr:=λb hb=>jD _ hb;intro k
 induction k with
 |zero=>
  intro i s L hk hi st hS hN hl hm hR;obtain rfl:i=n:=by lia
  exact codeAny_builtin PyProof.Rows.F.entry_set_update_loop (aE (W.done s _ _ st λs' mv=>(bh (hR s' L (mv.mono sub) (hS.keep λo z=>mv.heap S o hSw z) hN hl hm))))
 |succ k ih=>
  intro i s L hk hi st hS hN hl hm hR;have lt:i<n:=by lia
  refine codeAny_builtin PyProof.Rows.F.entry_set_update_loop (aE (W.item i s _ _ lt st λv s' hP st' mv=>?_));obtain⟨t,rfl⟩:=hval i v hP;have hS':=hS.keep λo z=>mv.heap S o hSw z;refine aE (mI (mI (aE ((PySem.strKind prog w).pyHash (k:=val i) (by simp[PySem.strKind,Value.isStrOf]) (E6 hS' (by lia) λh' L' b sb S2 pm=>?_)))));obtain⟨n2,m2,l2⟩:=JK pm hN;refine bh ⟨plainId_quiet PyProof.Rows.F.plain_set_update_loop _,ih (i+1) _ L' (by lia) lt (W.frame _ s' _ _ st' (CV _) λb hb o e=>?_) S2 n2 (by lia) (λy=>?_) λs'' L'' mv' S3 n3 l3 m3=>?_⟩
  ·rw[sb.2 b (λh:b=S=>hSf (h▸hb))];exact e
  ·grind
  ·refine hR s'' L'' (Moved.trans W.gtrans ((mv.mono sub).then_heap (CV _) λb o hb e=>?_) mv') S3 n3 l3 m3;rw[sb.2 b (λh:b=S=>hb (h▸ko))];exact e
set_option maxHeartbeats 3200000 in
theorem CF{s:Shared}{l:Addr}{items:Array Value}{val:Nat->Str}{Q:Vs}(hh:A.handled=none)(hl:s.heap.IsList l items)(hi:∀(i:Nat) (v:Value),items[i]?=some v->∃t,v=Value.str (val i) t)(hb:items.size+1<scanBound)
  (h:∀(h':Heap) (tk:Nat) (L:List Str),iU w h' s.heap.objs.size L->L.Nodup->L.length<=items.size->(∀y,y∈L↔∃j,j<items.size/\val j=y)->(∀b o,s.heap.get? b=some o->h'.get? b=some o)->Q 'C' { s with heap:=h',toks:=tk }):
  wpAny 'c' A (call (.type "set") [.ref l]) Q E s:=by
 obtain⟨c0,tl0,mro0⟩:=PySem.F.called_set.mro;have made0:=PySem.F.called_set.made;have sub0:=PySem.F.called_set.sub;refine wpAny_call (codeAny_of_tree (show wpAny _ _ (callAny (.type "set") _) _ _ _ from ?_));refine bh ⟨Code.quiet_builtin _ 'e',codeAny_builtin PySem.F.entry_type_call ?_⟩;rw[Around.under_plain (weight_type_call_type "set" [.ref l] []) rfl];have n1:=PySem.F.called_set.notType;have n2:=PySem.F.called_set.canCreate;have n3:=PySem.F.typeCall_set_1 (.ref l)
 repeat (any_goals (first|assumption|wp_step))
 refine codeAny_mono (Ce (.ref l) (E:=E) (Q₁:=λobj s1=>obj=.ref s.heap.objs.size/\s1={ s with heap:=s.heap.push (hU #[] 0 (.fresh 0 0 (!mY w))) }) ⟨rfl,rfl⟩) λr s1 hr=>?_;cases r with
 |error e=>exact hr
 |ok fl=>
  cases fl with
  |ret obj=>
   obtain⟨rfl,rfl⟩:=hr;have hS:(s.heap.push (hU #[] 0 (.fresh 0 0 (!mY w)))).get? s.heap.objs.size=some (hU #[] 0 (.fresh 0 0 (!mY w))):=hV _ rfl;have hT:Shared.TypeIs { s with heap:=s.heap.push (hU #[] 0 (.fresh 0 0 (!mY w))) } 'C' "set" := ⟨_,hS,rfl⟩
   have li:=PySem.F.called_set.init.lookup;have bi:=PySem.F.called_set.init.bind 'C'
   repeat (any_goals (first|assumption|wp_step))
   refine codeAny_mono (codeAny_call_builtin (R:=wants (λr s2=>r=.none/\∃h' tk L,s2={ s with heap:=h',toks:=tk }/\iU w h' s.heap.objs.size L/\L.Nodup/\L.length<=items.size/\(∀y,y∈L↔∃j,j<items.size/\val j=y)/\∀b o,s.heap.get? b=some o->h'.get? b=some o) E) PySem.F.called_set.init.plain PySem.F.entry_set_init (check_set_init_1 hT ?_)) λr2 s2 hr2=>?_
   ·obtain⟨ol,hol,hcl,nl,hdl⟩:=hl;obtain⟨ocls,odict,odata,oslots⟩:=ol;simp only at hcl hdl;subst hcl hdl;have hol':(s.heap.push (hU #[] 0 (.fresh 0 0 (!mY w)))).get? l=some { cls:=.type "list", dict:=odict,data:=.seq items nl,slots:=oslots }:=cS _ hol;have q1:=PySem.F.sub_list_set;have q2:=PySem.F.sub_list_frozenset;have q3:(Value.type "list" == Value.type "dict")=false:=by decide
    have hl1:(s.heap.push (hU #[] 0 (.fresh 0 0 (!mY w)))).IsList l items:=⟨_,hol',rfl,nl,rfl⟩
    unfold Builtin.«set.__init__» noKeywords Builtin.Frozenset.updateFrom;generalize hPI:pyIter=PI
    wp_walk
    subst hPI;refine Ti hl1 (aE (wpAny_runValue ?_));have hlS:l<s.heap.objs.size:=cR hol;have hs1:(s.heap.push (hU #[] 0 (.fresh 0 0 (!mY w)))).objs.size=s.heap.objs.size+1:=RF ..;have h3:A.in1.in1.in1.handled=none:=by simp[hh]
    have nI:l≠(s.heap.push (hU #[] 0 (.fresh 0 0 (!mY w)))).objs.size:=hs1▸d0 (Tr hlS);have hSf:s.heap.objs.size∉[(s.heap.push (hU #[] 0 (.fresh 0 0 (!mY w)))).objs.size,l]:=by
     rw[hs1];simp only[List.mem_cons,List.not_mem_nil,or_false,not_or];exact⟨d0 (Jz _),Nat.ne_of_gt hlS⟩
    refine Ex ((Walks.list h3 _ l nI items).toS) s.heap.objs.size hSf val hi hb (items.size - 0) 0 _ [] (by lia) (d_ _) ⟨⟨_,hV _ rfl,rfl,rfl⟩,(hl1.push _)⟩
     (zE.keep λo z=>cS _ z) .nil (d_ _) (λy=>by simp) λs' L' mv S' N' l' m'=>?_
    obtain⟨h',g',d',tk',os'⟩:=s';obtain rfl:g'=s.gens:=mv.gens;obtain rfl:d'=s.drawn:=mv.drawn;obtain rfl:os'=s.os:=mv.os;show wpAny _ _ _ _ _ _;refine bh ?_;show wpAny _ _ (ret Value.none) _ _ _;refine bh ⟨rfl,h',tk',L',rfl,S',N',l',m',λb o e=>?_⟩;have lt:=cR e;exact mv.heap b o (by rw[hs1];simp only[List.mem_cons,List.not_mem_nil,or_false,not_or];exact⟨Nat.ne_of_lt lt,Nat.ne_of_lt (Nat.lt_succ_of_lt lt)⟩) (Heap.get?_push_of_some _ (Heap.get?_push_of_some _ e))
   ·cases r2 with
    |error e=>exact hr2
    |ok f2=>
     cases f2 with
     |ret r=>
      obtain⟨rfl,h',tk,L,rfl,S',N',l',m',k'⟩:=hr2
      repeat (any_goals (first|assumption|wp_step))
      exact h _ _ _ S' N' l' m' k'
     |_=>exact hr2.elim
  |_=>exact hr.elim
end
section
open PyProof.Rows
variable{X:Cx}
def B6(w:World)(L:List Str)(a:Addr):HO:=.ext λh=>iU w h a L
theorem B6.ok{P:Program}{w:World}{H:Hp}{h:Heap}{a:Addr}{L:List Str}(S:iU w h a L):cg P w H h a (B6 w L a):=
 ⟨S,let ⟨_,_,_,ho,_⟩:=S;⟨_,ho⟩,λ_ _ s k=>s.keep k⟩
def Ss(w:World)(K:Wf):List V->Hp->VK->Prop:=λxs H Q=>∃(p:Addr) (ss:List Str),xs=[.ref p]/\aH K H p (ss.map V.str)/\ss.length<4000/\∀(q:Addr) (L:List Str),H q=none->L.Nodup->L.length<=ss.length->(∀y,y∈L↔y∈ss)->Q (.ref q) (upd H q (B6 w L q))
theorem DB(hc:X.calm=true):cL X (.type "set") (Ss X.w X.K):=by
 intro pins s σ H xs us Q I r h;obtain⟨p,ss,rfl,hq,hz,q⟩:=h;obtain⟨u,rfl,rx⟩:=vals1 r;cases rx;obtain⟨its,r',pl,_⟩:=I.list hq;have hl:its.length=ss.length:=by rw[<-r'.length,aD]
 have at_:∀i v,its.toArray[i]?=some v->∃t,v=Value.str (ss.getD i Str.empty) t:=λi v hv=>by
  rw[S8]at hv;have hi:i<ss.length:=hl▸(gZ.mp hv).1;obtain⟨u,hu,ru⟩:=r'.get (by rw[gU,h9 hi];rfl);rw[hv]at hu;cases hu;obtain⟨t,rfl⟩:=ru;exact⟨t,by rw[Ki,h9 hi];rfl⟩
 refine CF (I.ok.hd hc) pl.isList at_ (by rw[iC,hl];show _<4096;lia) λh' tk L S N hle hm kp=>?_;rw[iC,hl]at hle;refine⟨.ref s.heap.objs.size,_,I.laid kp (bS _) (B6.ok S),rfl,q _ L (I.a6.fresh (bS _)) N hle λy=>?_⟩;rw[hm y,iC,hl];constructor
 ·rintro⟨j,hj,rfl⟩;rw[Ki,h9 hj];exact wR hj
 ·intro z;obtain⟨j,hj,rfl⟩:=AN z;exact⟨j,hj,by rw[Ki,h9 hj];rfl⟩
def ye(w:World):List V->Hp->VK->Prop:=λxs H Q=>∃(p:Addr) (L:List Str),xs=[.ref p]/\H p=some (B6 w L p)/\L.length<64/\∀(l:Addr) (ss':List Str),H l=none->ss'.Perm L->ss'.Pairwise sH->Q (.ref l) (upd H l (.lst (ss'.map V.str)))
theorem sW(hc:X.calm=true):cL X 'Q' (ye X.w):=by
 intro pins s σ H xs us Q I r h;obtain⟨p,L,rfl,hq,hz,q⟩:=h;obtain⟨u,rfl,rx⟩:=vals1 r;cases rx;have S:=(I.a6 p _ hq).1;have hh:X.A.in1.handled=none:=by simp[I.ok.hd hc]
 refine nK (xV S hh λs1 vs ord kp g1 o1 pm hl at_=>(⟨ord,ub hl at_,hl▸pm.length_eq▸hz,λh2 out ss' D e k2 hD hg S2 pm2 pw=>?_⟩));have I1:=I.AJ (ch:=[]) o1 (Un.kept kp) (I.a6.kept kp) (g1▸I.bare) λb hb=>nomatch hb
 exact⟨.ref D,_,I1.laid (o:=.lst (ss'.map V.str)) k2 hD ⟨by rw[aD,pm2.length_eq,pm.length_eq,sizeLine_eq];lia,out,e,kQ S2,by simpa using hg⟩,rfl,q _ ss' (I1.a6.fresh hD) (pm2.trans pm) pw⟩
end
end L2
namespace L2
open PySem PySem.Spec PyProof.Rows
section
variable{X:Cx}
def OF:V->List V->Hp->VK->Prop:=λx vs H Q=>∃(z:Str) (n:Int),x=.str z/\vs=[.int n]/\0<=n/\n<=1000/\Q (.str (Txt.zfill z n)) H
theorem C8:V9 X "str.zfill" OF:=by
 intro pins s σ H x vs v us Q I rx rv h;obtain⟨z,n,rfl,rfl,h0,h1,q⟩:=h;obtain⟨t,rfl⟩:=rx;obtain⟨u,rfl,ru⟩:=rv.one;obtain⟨t',rfl⟩:=ru;have hp:PadOk n=true:=by
  unfold PadOk fitsSsize Builtin.Str.tooLong;rw[show sizeLine=16777216 from sizeLine_eq];simp;lia
 exact call_gives F.slot_str_zfill (typeIs_str _ _ _) F.entry_str_zfill (F.args_str_zfill_2 _ _) (gives_str_zfill z n t t' (PadOk.parts hp).1 (PadOk.parts hp).2) (post_val_or_made (fits_zfilled (PadOk.parts hp).2) λt2 k=>⟨.str (Txt.zfill z n),H,I.tok _,⟨_,rfl⟩,q⟩)
end
section
variable{prog:Program}{w:World}{K:Type} [DecidableEq K]{knd:HeapKind prog w K}{A:Around}{E:Vs}{s:Shared}
theorem grown{d a:Addr}{o:Obj}{es:Array DictEntry}{ep:Nat}{xs:List (K×Addr×Value)}{k:K}{v:Value}{h:Heap}(ho:h.get? d=some o)(hd:o.data=.dict es ep)(hc:o.ExactDict)
  (he:es.toList=xs.map (entryOfKey knd)) (his:∀x∈xs,knd.is h x.1 x.2.1) (hn:(xs.map (·.1)).Nodup) (hkey:knd.is h k a) (hno:∀(j:Nat) (p:Addr×Value),xs[j]?≠some (k,p)):
  (h.update d (Obj.mapDictKeys λl=>l.push ⟨knd.hash k,.ref a,v⟩)).DictOfH knd d (storedH xs k a v):=by
 have e:=storedH_new (atKey_none_of_get hno) a v;have keep:∀{c:K}{b:Addr},knd.is h c b->knd.is (h.update d (Obj.mapDictKeys λl=>l.push ⟨knd.hash k,.ref a,v⟩)) c b:=λq=>knd.keeps q ho hd (Heap.SameBut.update ..);have dat:=Obj.data_mapDictKeys hd λl=>l.push ⟨knd.hash k,.ref a,v⟩;refine e▸⟨_,es.push ⟨knd.hash k,.ref a,v⟩,ep+1,QQ _ ho (Obj.isFreed_of_dict dat),hc.mapDictKeys _,dat,?_,?_,?_⟩
 ·rw[Array.toList_push,he,bu];rfl
 ·exact λx hx=>(bM.mp hx).elim (λq=>keep (his x q)) λq=>by cases cx.mp q;exact keep hkey
 ·rw[bu];refine gX.mpr ⟨hn,by simp,λx hx y hy q=>not_mem_keys_of_get hno ?_⟩;have ey:=by simpa using hy
  rw[<-ey,<-q];exact hx
theorem yr{d a:Addr}{xs:List (K×Addr×Value)}{k:K}{v:Value}{Q:Vs}(hu:knd.room A)(hkey:knd.is s.heap k a)(hm:s.heap.DictOfH knd d xs)(hsz:xs.length<=sizeLine)
  (there:∀u,(atKey xs k).map (·.2)=some u->Q u { s with toks:=s.toks+knd.draws k })
  (new:(atKey xs k).map (·.2)=none->∀h',h'.DictOfH knd d (storedH xs k a v)->Heap.SameBut d s.heap h'->Q v { s with heap:=h',toks:=s.toks+knd.draws k }):
  wpAny 'c' A (dictSetDefault d (.ref a) v) Q E s:=by
 obtain⟨o,es,ep,ho,hc,hd,he,his,hn⟩:=hm;have hes:es.size<=sizeLine:=(size_of_entries he)▸hsz;have none_of:∀hno:(∀j p,xs[j]?≠some (k,p)),(atKey xs k).map (·.2)=none:=λhno=>by rw[atKey_none_of_get hno];rfl
 exact mI (aE (knd.pyHash hu hkey (aE (wpAny_dictFind_heap hu hkey ho hd he his hn
  (λhno=>aE (CW (aE (wpAny_updateDictKeys (hz:=hes) ho hd (bh (new (none_of hno) _ (grown ho hd hc he his hn hkey hno) (Heap.SameBut.update ..)))))))
  λj p hj=>aE (S5 ho hd (by
   rw[entry_at he j,hj];exact aE (CW (bh (there p.2 (by rw[atKey_of_get hn hj];rfl))))))))))
theorem JV(knd:HeapKind prog w K){d:Addr}(a:Addr)(hd:(d == sysModules)=false)(x:Value):
  MeetsIn prog w (Builtin.«dict.setdefault» ⟨[.ref d,.ref a,x],[]⟩) λA R s=>knd.room A.in1/\∃k xs,knd.is s.heap k a/\s.heap.DictOfH knd d xs/\xs.length<=sizeLine/\
   (∀v,(atKey xs k).map (·.2)=some v->R (.ok (.ret v)) { s with toks:=s.toks+knd.draws k })/\
   ((atKey xs k).map (·.2)=none->∀h',h'.DictOfH knd d (storedH xs k a x)->Heap.SameBut d s.heap h'->R (.ok (.ret x)) { s with heap:=h',toks:=s.toks+knd.draws k }):=by
 refine .of_wp ?_;rintro A R s ⟨hu,k,xs,hkey,hm,hz,there,new⟩;have main:=yr (E:=λe s'=>R (.error e) s') hu hkey hm hz there new;refine aE (aE (wpAny_notOrdered_dict hm.typeIs (bh ?_)));simp only[hd];exact aE (m8 main (λv s' q=>bh ⟨v,rfl,q⟩) λ_ _ q=>q)
end
section
variable{X:Cx}{pins:Lo}{σ:St}{H:Hp}{s:Shared}{a:Addr}{y d:V}{u r:Value}{o:Option V}{A:Around}{E:Vs}
theorem DW{H':Hp}{Q:Vs}(hu:A.units+1<cLine)(I:Inv X pins σ H s)(g:bR H a y o)(p:iF H a y d H')(ry:RelV y u)(rd:RelV d r)
  (h1:∀v w' s',o=some v->Inv X pins σ H s'->RelV v w'->Q w' s') (h2:∀w' s',o=none->Inv X pins σ H' s'->RelV d w'->Q w' s'):
  wpAny 'b' A (call (.builtin "dict.setdefault") [.ref a,u,r]) Q E s:=by
 rcases p with ⟨ag,k,e,ey,l,eH⟩|⟨ag,k,b,e,ey,eb,l,eH⟩
 ·subst ey eH;obtain⟨z,hd,vs,rel,dd⟩:=nU I.a6 e;have go:o=br ag k:=by
   rcases g with ⟨kvs',k',e',ey',l'⟩|⟨kvs',k',b,e',ey',eb',l'⟩
   ·have ek:k'=k:=by cases k<;>cases k'<;>simp_all [kV]
    rcases e' with e'|⟨ob,e'⟩
    ·rw[e]at e';cases e';rw[l',ek]
    ·rw[e]at e';cases e'
   ·cases k<;>cases ey'
  have hz:vs.length<=sizeLine:=rel.length▸z;have hl:(putK ag k d).length<=sizeLine:=by have:=cX ag k d;lia
  refine call_meetsIn PySem.F.slot_dict_setdefault dd.typeIs PySem.F.entry_dict_setdefault (PySem.F.args_dict_setdefault_3 _ _ _) (kt_meets_setdefault (aX X.prog X.w) a (jy ry) hd r) ⟨vs,dd,hz,λv hv=>?_,λhn h' dd' hs=>?_⟩
  ·have q:=rel.val k;rw[hv]at q;cases ho:br ag k with
   |none=>rw[ho]at q;exact q.elim
   |some v'=>rw[ho]at q;exact h1 v' v _ (by rw[go,ho]) (I.tok _) q
  ·have q:=rel.val k;rw[hn]at q;have ho:br ag k=none:=by
    cases ho:br ag k with
    |none=>rfl
    |some v'=>rw[ho]at q;exact q.elim
   have he:∃q,h'.get? a=some q:=let ⟨q,_,_,hq,_⟩:=dd';⟨q,hq⟩
   exact h2 r _ (by rw[go,ho]) (gY I (e▸True.intro) hs he (oU hl hd (rel.put k rd) dd')) rd
 ·subst ey eH;cases ry;obtain⟨z,hd,xs,rel,dd⟩:=xq I.a6 e;have go:o=br ag k:=by
   rcases g with ⟨kvs',k',e',ey',l'⟩|⟨kvs',k',b',e',ey',eb',l'⟩
   ·cases k'<;>cases ey'
   ·cases ey';have ek:k'=k:=by
     rw[eb]at eb';injection eb' with eb';injection eb' with eb';exact(List.map_inj_right (by intro x y q;cases x<;>cases y<;>simp_all [kV])).mp eb'.symm
    rcases e' with e'|⟨ob,e'⟩
    ·rw[e]at e';cases e';rw[l',ek]
    ·rw[e]at e';cases e'
  have hz:xs.length<=sizeLine:=(Paired.length rel)▸z;have hl:(putK ag k d).length<=sizeLine:=by have:=cX ag k d;lia
  refine call_meetsIn PySem.F.slot_dict_setdefault dd.typeIs PySem.F.entry_dict_setdefault (PySem.F.args_dict_setdefault_3 _ _ _) (JV (tupleKind (aX X.prog X.w)) b hd r) ⟨tupleKind_room_in1 hu,k,xs,eT I.a6 eb,dd,hz,λv hv=>?_,λhn h' dd' hs=>?_⟩
  ·have q:=rel.val k;rw[hv]at q;cases ho:br ag k with
   |none=>rw[ho]at q;exact q.elim
   |some v'=>rw[ho]at q;exact h1 v' v _ (by rw[go,ho]) (I.tok _) q
  ·have q:=rel.val k;rw[hn]at q;have ho:br ag k=none:=by
    cases ho:br ag k with
    |none=>rfl
    |some v'=>rw[ho]at q;exact q.elim
   obtain⟨qo,es,ep,hq,g2,g3,g4,_,g5⟩:=dd';exact h2 r _ (by rw[go,ho]) (gY I (e▸True.intro) hs ⟨qo,hq⟩ ⟨hl,hd,_,(rel.put k eb rd).keeps λc ys ec=>((ae (cj ec e (λz=>nomatch z)))▸ec),qo,es,ep,hq,g2,g3,g4,g5⟩) rd
end
def YT(td ty tx:TE):TE:=λσ H Q=>td σ H λx H1=>∃a,x=.ref a/\Wc H1 a/\ty σ H1 λy H2=>tx σ H2 λz H3=>∃o H4,bR H3 a y o/\iF H3 a y z H4/\(∀v,o=some v->Q v H3)/\(o=none->Q z H4)
section
variable{X:Cx}{o e f:Expr}{apos cpos:Pos}{td ty tx:TE}
theorem Dc(hu:X.A.units+1<cLine)(ho:PE X o td)(he:PE X e ty)(hf:PE X f tx)(m:M2 X o "setdefault" apos e f cpos):PE X (.Call (.Attribute o "setdefault" apos) [e,f] [] cpos) (YT td ty tx):=by
 intro pins s σ H Q I h;refine wpAny_Call_method m.base m.bQ m.line PySem.F.plainAttrs_dict PySem.F.slot_dict_setdefault PySem.F.type_dict_setdefault (bG (ho pins s σ H _ I h) λu s1 ⟨x,H1,I1,rx,a,ex,d,q1⟩=>?_);subst ex;obtain rfl:u=Value.ref a:=rx;obtain⟨t1,t2,_⟩:=zl I1 d;refine⟨t1,t2,?_⟩;rw[m.trees];refine Calls.callWith_builtin rfl (Calls.evalArgs_plain (Calls.spliced_cons (bG (he pins s1 σ H1 _ I1 q1) λiv s2 ⟨y,H2,I2,ry,q2⟩=>
  Calls.spliced_cons (bG (hf pins s2 σ H2 _ I2 q2) λfv s3 ⟨z,H3,I3,rz,ov,H4,g,p,q3,q4⟩=>Calls.spliced_nil ?_))))
 exact DW hu I3 g p ry rz (λv w' s4 e4 I4 rw'=>⟨v,H3,I4,rw',q3 v e4⟩) (λw' s4 e4 I4 rw'=>⟨z,H4,I4,rw',q4 e4⟩)
end
section
variable{prog:Program}{w:World}{A:Around}{E:Vs}{s:Shared}{kd:SortKind}{r:Keyed->Nat}{base:Array Keyed}
def rk(r:Keyed->Nat)(xs:Array Keyed)(i:Nat):Nat:=(xs[i]?.map r).getD 0
def dU(r:Keyed->Nat)(xs:Array Keyed)(n:Nat):Prop:=∀i j,i<=j->j<n->rk r xs i<=rk r xs j
def je(r:Keyed->Nat)(xs:Array Keyed)(n:Nat):Prop:=∀i j,i<=j->j<n->rk r xs j<=rk r xs i
def Flat(r:Keyed->Nat)(xs:Array Keyed)(n q:Nat):Prop:=q+1<=n/\∀i,n<=i+(q+1)->i<n->rk r xs i=rk r xs (n - 1)
theorem dU.one(xs:Array Keyed):dU r xs 1:=λi j a b=>(show i=j by lia)▸bS _
theorem je.one(xs:Array Keyed):je r xs 1:=λi j a b=>(show i=j by lia)▸bS _
theorem dU.more(h:dU r xs n)(h1:1<=n)(hn:rk r xs (n - 1)<=rk r xs n):dU r xs (n+1):=λi j a b=>by
 by_cases z:j<n
 ·exact h i j a z
 ·rw[show j=n by lia];by_cases y:i=n
  ·rw[y];exact bS _
  ·exact ia (h i (n - 1) (by lia) (by lia)) hn
theorem je.more(h:je r xs n)(h1:1<=n)(hn:rk r xs n<=rk r xs (n - 1)):je r xs (n+1):=λi j a b=>by
 by_cases z:j<n
 ·exact h i j a z
 ·rw[show j=n by lia];by_cases y:i=n
  ·rw[y];exact bS _
  ·exact ia hn (h i (n - 1) (by lia) (by lia))
theorem kZ(hj:j<=xs.size)(k:Nat):rk r (mirror xs i j ((j - i)/2)) k=if i<=k/\k<j then rk r xs (i+j - 1 - k) else rk r xs k:=by
 unfold rk;rw[getElem?_mirror_all hj k];by_cases z:i<=k/\k<j
 ·rw[if_pos z,if_pos z]
 ·rw[if_neg z,if_neg z]
theorem Ag(h:Flat r xs n q)(hn:n<=xs.size)(k:Nat):rk r (mirror xs (n - (q+1)) n ((n - (n - (q+1)))/2)) k=rk r xs k:=by
 rw[kZ hn];by_cases z:n - (q+1)<=k/\k<n
 ·rw[if_pos z,h.2 _ (by lia) (by lia),h.2 k (by lia) (by lia)]
 ·rw[if_neg z]
theorem je.turned(h:je r xs n)(hn:n<=xs.size):dU r (mirror xs 0 n ((n - 0)/2)) n:=λi j a b=>by
 rw[kZ hn,kZ hn,if_pos (by lia),if_pos (by lia)];exact h _ _ (by lia) (by lia)
structure kK(kd:SortKind)(base:Array Keyed)(st:SortSt):Prop where
 pm:(arrOf st).Perm base
 kd:kindOf st=kd
 ok:failedOf st=none
 pn:pendingOf st=#[]
theorem kK.len{st:SortSt}(h:kK kd base st):(arrOf st).size=base.size:=h.pm.size_eq
theorem kK.put{st:SortSt}(h:kK kd base st){xs:Array Keyed}(p:xs.Perm (arrOf st)):kK kd base (setArr st xs):=⟨p.trans h.pm,h.kd,h.ok,h.pn⟩
def mM(prog:Program)(w:World)(A:Around)(E:Vs)(s:Shared)(kd:SortKind)(r:Keyed->Nat)(base:Array Keyed):Prop:=
 ∀x∈base.toList,∀y∈base.toList,∀Q:Bool->Shared->Prop,Q (decide (r x<r y)) s->wpAny 'c' A (keyLt' kd x.1 y.1) Q (λ_ _=>False) s
theorem asked{st:SortSt}{i j:Nat}{Q:Option Bool->SortSt->Prop}(ask:mM prog w A E s kd r base)(S:kK kd base st)(hi:i<base.size)(hj:j<base.size)
  (q:Q (some (decide (rk r (arrOf st) i<rk r (arrOf st) j))) st):wpS 'c' A E s (ltAt' i j) Q st:=by
 have li:i<(arrOf st).size:=S.len▸hi;have lj:j<(arrOf st).size:=S.len▸hj;have ei:(arrOf st)[i]?=some (arrOf st)[i]:=getElem?_pos _ i li;have ej:(arrOf st)[j]?=some (arrOf st)[j]:=getElem?_pos _ j lj;have mem:∀{k:Nat} h,(arrOf st)[k]∈base.toList:=λ{k} h=>(Array.perm_iff_toList_perm.mp S.pm).mem_iff.mp (Array.getElem_mem_toList h);unfold rk at q;rw[ei,ej]at q;rw[ltAt'_eq];refine wpS_bind (wpS_get ?_);dsimp only;rw[elem'_eq,elem'_eq,ei,ej];refine wpS_bind (wpS_pure (wpS_bind (wpS_pure ?_)));rw[lt'_eq];exact wpS_bind (wpS_get (wpS_bind (wpS_lift (RD (S.kd▸m8 (ask _ (mem li) _ (mem lj) (λb s'=>b=decide (r (arrOf st)[i]<r (arrOf st)[j])/\s'=s) ⟨rfl,rfl⟩) (λb s' ⟨e1,e2⟩=>⟨e2,by subst e1;exact wpS_pure q⟩) λ_ _ z=>z.elim)))))
theorem xP{st:SortSt}{a n:Nat}{Q:AscSt->SortSt->Prop}(ask:mM prog w A E s kd r base)(S:kK kd base st)(ha:1<=a)(han:a<=n)(hn:n<=base.size)(up:dU r (arrOf st) a)
  (k:∀m,a<=m->m<=n->dU r (arrOf st) m->(m=n\/rk r (arrOf st) m<rk r (arrOf st) (m - 1))->Q (none,m) st):wpS 'c' A E s (ascLoop a n) Q st:=by
 refine wpS_forRange (I:=λm c st'=>st'=st/\c=(none,m)/\dU r (arrOf st) m) (λm c st' am mn ⟨e1,e2,up'⟩=>?_) (λc st' ⟨e1,e2,up'⟩=>?_) ⟨rfl,rfl,up⟩
 ·subst e1 e2;refine wpS_bind (asked ask S (by lia) (by show m - 1<_;lia) ?_);by_cases lt:rk r (arrOf st') m<rk r (arrOf st') (m - 1)
  ·simp only[decide_eq_true lt];exact wpS_pure (k m am (by lia) up' (.inr lt))
  ·simp only[decide_eq_false lt];exact wpS_pure ⟨rfl,rfl,up'.more (by lia) (by lia)⟩
 ·simp_all
theorem ou{st:SortSt}{m n:Nat}{Q:Option Nat->SortSt->Prop}(ask:mM prog w A E s kd r base)(S:kK kd base st)(h1:1<=m)(hm:m<=n)(hn:n<=base.size)(dn:je r (arrOf st) m)
  (k:∀j st',kK kd base st'->1<=j->j<=n->dU r (arrOf st') j->Q (some j) st'):wpS 'c' A E s (tail3 m n) Q st:=by
 have up:=dn.turned (by rw[S.len];lia);have S':=S.put (mirror_perm (arrOf st) 0 m ((m - 0)/2));exact wpS_bind (wpS_reverse (wpS_bind (xP ask S' h1 hm hn up λj mj jn up' _=>wpS_pure (k j _ S' (by lia) jn up'))))
theorem BJ{st:SortSt}{a n:Nat}{Q:DescSt->SortSt->Prop}(ask:mM prog w A E s kd r base)(S:kK kd base st)(ha:1<=a)(han:a<=n)(hn:n<=base.size)(dn:je r (arrOf st) a)
  (k:∀m q st',kK kd base st'->a<=m->m<=n->je r (arrOf st') m->Flat r (arrOf st') m q->Q (none,m,q) st'):wpS 'c' A E s (descLoop a n) Q st:=by
 refine wpS_forRange (I:=λm c st'=>kK kd base st'/\∃q,c=(none,m,q)/\je r (arrOf st') m/\Flat r (arrOf st') m q) (λm c st' am mn ⟨S',q,e,dn',fl⟩=>?_) (λc st' ⟨S',q,e,dn',fl⟩=>?_)
  ⟨S,0,rfl,dn,ha,λi p1 p2=>by rw[show i=a - 1 by lia]⟩
 ·subst e;have sz:m<(arrOf st').size:=by rw[S'.len];lia
  have one:∀xs:Array Keyed,Flat r xs (m+1) 0:=λxs=>⟨by lia,λi a b=>by rw[show i=m by lia];rfl⟩;refine wpS_bind (asked ask S' (by show m<_;lia) (by show m - 1<_;lia) ?_);by_cases lt:rk r (arrOf st') m<rk r (arrOf st') (m - 1)
  ·simp only[decide_eq_true lt,if_true];by_cases q0:q>0
   ·rw[if_pos q0];have same:=Ag fl (LK sz);refine wpS_bind (wpS_reverse (wpS_pure ⟨S'.put (mirror_perm ..),0,rfl,je.more (λi j a b=>?_) (by lia) ?_,one _⟩))
    ·rw[same,same];exact dn' i j a b
    ·rw[same,same];exact LK lt
   ·rw[if_neg q0];exact wpS_pure ⟨S',0,rfl,dn'.more (by lia) (LK lt),one _⟩
  ·simp only[decide_eq_false lt];refine wpS_bind (asked ask S' (by show m - 1<_;lia) (by show m<_;lia) ?_);by_cases gt:rk r (arrOf st') (m - 1)<rk r (arrOf st') m
   ·simp only[decide_eq_true gt];exact wpS_pure (k m q st' S' am (by lia) dn' fl)
   ·simp only[decide_eq_false gt];refine wpS_pure ⟨S',q+1,rfl,dn'.more (by lia) (by lia),by have:=fl.1;lia,λi a b=>?_⟩;show _=rk r (arrOf st') m;by_cases z:i=m
    ·rw[z]
    ·have:=fl.2 i (by lia) (by lia);lia
 ·simp_all
theorem n_{st:SortSt}{m n:Nat}{Q:Option Nat->SortSt->Prop}(ask:mM prog w A E s kd r base)(S:kK kd base st)(hm:m+1<=n)(hn:n<=base.size)(dn:je r (arrOf st) (m+1))
  (k:∀j st',kK kd base st'->1<=j->j<=n->dU r (arrOf st') j->Q (some j) st'):wpS 'c' A E s (descPart m n) Q st:=by
 refine wpS_bind (wpS_lift (CW ⟨rfl,wpS_bind (BJ ask S (by lia) hm hn dn λj q st' S' mj jn dn' fl=>?_)⟩));by_cases q0:q>0
 ·have same:=Ag fl (by rw[S'.len];lia);simp only[q0];exact wpS_bind (wpS_reverse (ou ask (S'.put (mirror_perm ..)) (by lia) jn hn (λi l a b=>by show rk r (mirror _ _ _ _) l<=rk r (mirror _ _ _ _) i;rw[same,same];exact dn' i l a b) k))
 ·simp only[q0];exact ou ask S' (by lia) jn hn dn' k
theorem CT{st:SortSt}{n:Nat}{Q:Option Nat->SortSt->Prop}(ask:mM prog w A E s kd r base)(S:kK kd base st)(h1:1<=n)(hn:n<=base.size)
  (k:∀j st',kK kd base st'->1<=j->j<=n->dU r (arrOf st') j->Q (some j) st'):wpS 'c' A E s (countRun' 0 n) Q st:=by
 rw[countRun0_eq];refine wpS_bind (xP ask S (bS 1) h1 hn (dU.one _) λm m1 mn up why=>?_);by_cases z:m=n
 ·simp only[beq_iff_eq,z];exact wpS_pure (k n st S h1 (bS _) (z▸up))
 ·have lt:=why.resolve_left z;simp only[beq_iff_eq,z];by_cases m2:m>1
  ·rw[if_pos m2];refine wpS_bind (asked ask S (by lia) (by show m - 1<_;lia) ?_);by_cases rose:rk r (arrOf st) 0<rk r (arrOf st) (m - 1)
   ·simp only[decide_eq_true rose];exact wpS_pure (k m st S m1 mn up)
   ·simp only[decide_eq_false rose];have eq:∀i,i<m->rk r (arrOf st) i=rk r (arrOf st) (m - 1):=λi hi=>by
     have a:=up 0 i (by lia) hi;have b:=up i (m - 1) (by lia) (by lia);lia
    have sz:m<=(arrOf st).size:=by rw[S.len];lia
    have same:∀i,rk r (mirror (arrOf st) 0 m ((m - 0)/2)) i=rk r (arrOf st) i:=λi=>by
     rw[kZ sz];by_cases y:0<=i/\i<m
     ·rw[if_pos y,eq _ (by lia),eq i y.2]
     ·rw[if_neg y]
    refine wpS_bind (wpS_reverse (n_ ask (S.put (mirror_perm ..)) (by lia) hn (λi j a b=>?_) k));rw[same,same];by_cases jm:j=m
    ·grind
    ·grind
  ·have e:m=1:=by lia
   subst e;exact n_ ask S (by lia) hn ((je.one _).more (bS _) (LK lt)) k
theorem wO(hk:k<xs.size)(hl:l<=k)(i:Nat):rk r (bubble xs k (k - l)) i=if i=l then rk r xs k else if l<i/\i<=k then rk r xs (i - 1) else rk r xs i:=by
 have e:=getElem?_bubble hk (k - l) (by lia) i;rw[show k - (k - l)=l by lia]at e;unfold rk;rw[e];by_cases a:i=l
 ·rw[if_pos a,if_pos a]
 ·rw[if_neg a,if_neg a];by_cases b:l<i/\i<=k
  ·rw[if_pos b,if_pos b]
  ·rw[if_neg b,if_neg b]
theorem Qz{st:SortSt}{n ok:Nat}{Q:Bool->SortSt->Prop}(ask:mM prog w A E s kd r base)(S:kK kd base st)(h1:1<=ok)(a6:ok<=n)(hn:n<=base.size)(up:dU r (arrOf st) ok)
  (q:∀st',kK kd base st'->dU r (arrOf st') n->Q true st'):wpS 'c' A E s (binarySort' 0 n ok) Q st:=by
 rw[binarySort'_eq];simp only[Nat.zero_add];have e1:max ok 1=ok:=by lia
 rw[e1];refine wpS_bind (wpS_mono (wpS_forRange (I:=λk c st'=>c=(none,())/\kK kd base st'/\dU r (arrOf st') k) (Q:=λc st'=>c=(none,())/\kK kd base st'/\dU r (arrOf st') n) (λk c st' ak kn ⟨e,S',up'⟩=>?step) (λc st' ⟨e,S',up'⟩=>?fin) ⟨rfl,S,up⟩) ?post)
 case step=>
  subst e;have hk:k<(arrOf st').size:=by rw[S'.len];lia
  refine wpS_bind (wpS_mono (wpS_forRange (I:=λx c st2=>st2=st'/\∃l u,c=(none,l,u)/\l<=u/\u<=k/\u - l+x<=k/\(∀i,i<l->rk r (arrOf st') i<=rk r (arrOf st') k)/\∀i,u<=i->i<k->rk r (arrOf st') k<rk r (arrOf st') i)
   (Q:=λc st2=>st2=st'/\∃l u,c=(none,l,u)/\l<=k/\(∀i,i<l->rk r (arrOf st') i<=rk r (arrOf st') k)/\∀i,l<=i->i<k->rk r (arrOf st') k<rk r (arrOf st') i)
   (λx c st2 _ xk ⟨e,l,u,ec,lu,uk,small,lo,hi⟩=>?look) (λc st2 ⟨e,l,u,ec,lu,uk,small,lo,hi⟩=>⟨e,l,u,ec,by lia,lo,λi a b=>hi i (by lia) b⟩) ⟨rfl,0,k,rfl,by lia,by lia,by lia,λi a=>by lia,λi a b=>by lia⟩) ?move)
  case look=>
   subst e ec;dsimp only;by_cases z:l≥u
   ·rw[if_pos z];exact wpS_pure ⟨rfl,l,u,rfl,by lia,lo,λi a b=>hi i (by lia) b⟩
   ·rw[if_neg z];refine wpS_bind (asked ask S' (by lia) (by lia) ?_);by_cases lt:rk r (arrOf st2) k<rk r (arrOf st2) ((l+u)/2)
    ·simp only[decide_eq_true lt,if_true];exact wpS_pure ⟨rfl,l,(l+u)/2,rfl,by lia,by lia,by lia,lo,λi a b=>kx lt (up' _ _ a b)⟩
    ·simp only[decide_eq_false lt,if_false];exact wpS_pure ⟨rfl,(l+u)/2+1,u,rfl,by lia,by lia,by lia,λi a=>ia (up' i ((l+u)/2) (by lia) (by lia)) (by lia),hi⟩
  case move=>
   rintro c st2 ⟨rfl,l,u,rfl,lk,lo,hi⟩;dsimp only;rw[moveDown'_eq];refine wpS_bind (wpS_modify (wpS_pure ⟨rfl,S'.put (bubble_perm ..),λi j a b=>?_⟩));rw[wO hk lk,wO hk lk];have U:=λx y (p:x<=y) (q:y<k)=>up' x y p q;by_cases c1:i=l
   ·rw[if_pos c1];by_cases c2:j=l
    ·rw[if_pos c2];exact bS _
    ·grind
   ·rw[if_neg c1];by_cases c3:l<i/\i<=k
    ·rw[if_pos c3,if_neg (by lia),if_pos (by lia)];exact U _ _ (by lia) (by lia)
    ·rw[if_neg c3];by_cases c2:j=l
     ·rw[if_pos c2];exact lo i (by lia)
     ·grind
 case fin=>
  have e2:max ok n=n:=by lia
  rw[e2]at up';exact⟨e,S',up'⟩
 case post=>
  rintro c st' ⟨rfl,S',up'⟩;exact wpS_pure (q st' S' up')
theorem wU{st:SortSt}{Q:Unit->SortSt->Prop}(ask:mM prog w A E s kd r base)(S:kK kd base st)(h2:2<=base.size)(h64:base.size<64)
  (k:∀st',(arrOf st').Perm base->failedOf st'=none->dU r (arrOf st') base.size->Q () st'):wpS 'c' A E s sortRuns' Q st:=by
 have run:minRun' base.size base.size 0=base.size:=by
  generalize base.size=n at h2 h64;cases n with
  |zero=>lia
  |succ f=>rw[minRun'_succ,if_pos h64]
 rw[sortRuns'_eq];refine wpS_bind (wpS_get ?_);simp only[S.len,run];refine wpS_bind (wpS_mono (wpS_forRange (I:=λx c st'=>if x=0 then c=(none,0)/\kK kd base st' else c=(none,base.size)/\(arrOf st').Perm base/\failedOf st'=none/\(pendingOf st').size=1/\dU r (arrOf st') base.size)
  (Q:=λc st'=>c=(none,base.size)/\(arrOf st').Perm base/\failedOf st'=none/\(pendingOf st').size=1/\dU r (arrOf st') base.size) (λx c st' _ xn h=>?turn) (λc st' h=>?end_) ?start) ?rest)
 case start=>rw[if_pos rfl];exact⟨rfl,S⟩
 case end_=>rwa [if_neg (by lia)]at h
 case turn=>
  by_cases x0:x=0
  ·rw[if_pos x0]at h;obtain⟨rfl,S'⟩:=h;have pend:∀{st2:SortSt},kK kd base st2->dU r (arrOf st2) base.size->(arrOf (setPending st2 ((pendingOf st2).push (0,base.size,0)))).Perm base/\failedOf (setPending st2 ((pendingOf st2).push (0,base.size,0)))=none/\(pendingOf (setPending st2 ((pendingOf st2).push (0,base.size,0)))).size=1/\dU r (arrOf (setPending st2 ((pendingOf st2).push (0,base.size,0)))) base.size:=λ{st2} S2 up=>by
    refine⟨S2.pm,S2.ok,?_,up⟩;rw[S2.pn];rfl
   rw[if_neg (by lia)];simp only[Nat.sub_zero,Nat.min_self,Nat.zero_add];refine wpS_bind (CT ask S' (by lia) (bS _) λm st2 S2 m1 mn up=>?_);have last:∀{st3:SortSt},kK kd base st3->(pendingOf st3).back?=none:=λ{st3} S3=>by rw[S3.pn];rfl
   dsimp only;by_cases lt:m<base.size
   ·rw[if_pos lt];refine wpS_bind (wpS_lift (CW ⟨rfl,wpS_bind (Qz ask S2 m1 mn (bS _) up λst3 S3 up3=>(wpS_bind (wpS_get ?_)))⟩));rw[last S3];exact wpS_bind (wpS_modify (wpS_pure (⟨rfl,pend S3 up3⟩)))
   ·rw[if_neg lt];have e:m=base.size:=by lia
    subst e;refine wpS_bind (wpS_get ?_);rw[last S2];refine wpS_bind (wpS_modify (wpS_pure ?_));exact⟨rfl,pend S2 up⟩
  ·rw[if_neg x0]at h;obtain⟨rfl,h⟩:=h;rw[if_pos (bS _)];exact wpS_pure ⟨rfl,h⟩
 case rest=>
  rintro c st' ⟨rfl,p1,p2,p3,p4⟩;refine wpS_bind (wpS_mono (wpS_forRange (I:=λ_ c st2=>c=(none,())/\st2=st') (λx c st2 _ _ ⟨e1,e2⟩=>?jU) (λ_ _ h=>h) ⟨rfl,rfl⟩) ?done)
  case jU=>
   subst e1 e2;refine wpS_bind (wpS_get ?_);rw[if_pos (Nat.le_of_eq p3)];exact wpS_pure ⟨rfl,rfl⟩
  case done=>
   rintro c st2 ⟨rfl,rfl⟩;exact wpS_pure (k st2 p1 p2 p4)
end
abbrev aF:=Str×Int
def lQ(a b:aF):Bool:=if a.1=b.1 then decide (a.2<b.2) else decide (a.1.cps.toList<b.1.cps.toList)
def kF(a b:aF):Prop:=lQ b a=false
theorem Al{a b:Str}(h:a.cps.toList=b.cps.toList):a=b:=by
 cases a;cases b;congr 1;exact Array.toList_inj.mp h
theorem z9(a:aF):lQ a a=false:=by unfold lQ;simp
theorem fc(a b:aF):lQ a b=true↔a.1.cps.toList<b.1.cps.toList\/(a.1=b.1/\a.2<b.2):=by
 unfold lQ;by_cases h:a.1=b.1
 ·rw[if_pos h,decide_eq_true_eq];exact⟨λq=>.inr ⟨h,q⟩,λq=>q.elim (λz=>absurd z (h▸List.lt_irrefl _)) (·.2)⟩
 ·simp_all
theorem jQ(h1:lQ a b=true)(h2:lQ b c=true):lQ a c=true:=by
 rw[fc]at *;rcases h1 with h1|⟨e1,h1⟩<;>rcases h2 with h2|⟨e2,h2⟩
 ·exact .inl (List.lt_trans h1 h2)
 ·exact .inl (e2▸h1)
 ·exact .inl (e1▸h2)
 ·exact .inr ⟨e1.trans e2,by lia⟩
theorem ke(h1:lQ a b=false)(h2:lQ b a=false):a=b:=by
 have n1:¬(a.1.cps.toList<b.1.cps.toList\/(a.1=b.1/\a.2<b.2)):=λq=>by rw[(fc a b).mpr q]at h1;cases h1
 have n2:¬(b.1.cps.toList<a.1.cps.toList\/(b.1=a.1/\b.2<a.2)):=λq=>by rw[(fc b a).mpr q]at h2;cases h2
 have e:=Al (List.le_antisymm (List.not_lt.mp λq=>n2 (.inl q)) (List.not_lt.mp λq=>n1 (.inl q)));have e2:a.2=b.2:=by grind
 exact Prod.ext e e2
theorem CO(h1:kF a b)(h2:kF b c):kF a c:=by
 unfold kF at *;cases h:lQ c a with
 |false=>rfl
 |true=>
  cases hb:lQ b a with
  |true=>rw[hb]at h1;cases h1
  |false=>
   cases ha:lQ a b with
   |true=>rw[jQ h ha]at h2;cases h2
   |false=>rw[ke ha hb]at h;rw[h]at h2;cases h2
theorem JG(h1:kF a b)(h2:kF b a):a=b:=ke h2 h1
def ky(ds:List aF)(d:aF):Nat:=ds.countP λe=>lQ e d
theorem nQ{α:Type}{p q:α->Bool}:∀{l:List α},(∀x∈l,p x=true->q x=true)->(∃x∈l,q x=true/\p x=false)->l.countP p<l.countP q
 |[],_,⟨x,hx,_⟩=>nomatch hx
 |y::l,h,⟨x,hx,h1,h2⟩=>by
  have le:=List.countP_mono_left λz hz hp=>h z (.tail _ hz) hp;rw[List.countP_cons,List.countP_cons];rcases iu.mp hx with rfl|hx
  ·rw[if_pos h1,if_neg (by rw[h2];simp)];lia
  ·have:=nQ (λz hz=>h z (.tail _ hz)) ⟨x,hx,h1,h2⟩;by_cases z:p y=true
   ·rw[if_pos z,if_pos (h y (.head _) z)];lia
   ·rw[if_neg z];split<;>lia
theorem jh(ha:a∈ds):decide (ky ds a<ky ds b)=lQ a b:=by
 cases h:lQ a b with
 |true=>exact decide_eq_true (nQ (λx _ q=>jQ q h) ⟨a,ha,h,z9 a⟩)
 |false=>
  refine decide_eq_false (Nat.not_lt.mpr (List.countP_mono_left λx _ q=>?_));have le:=CO (by
   unfold kF;cases z:lQ b x with
   |false=>rfl
   |true=>have:=jQ q z;rw[z9]at this;cases this) h
  cases z:lQ x a with
  |true=>rfl
  |false=>
   have e:=ke z le;rw[e]at q;rw[q]at h;cases h
section
variable{prog:Program}{w:World}{A:Around}{E:Vs}{s:Shared}
def B5(h:Heap)(b:Addr)(d:aF):Prop:=∃t u,dz h b (.str d.1 t) (.int d.2 u)
theorem w6(f:Bool)(x y:Value):keyLt' (tuples' f) x y=(do
  let xs <-Builtin.List.listItems x
  let ys <-Builtin.List.listItems y
  for ((p,q),i) in (xs.toList.zip ys.toList).zipIdx do
   if !(<-eqBool p q) then return <-oneLt' (f&&i == 0) p q
  return decide (xs.size<ys.size)):=rfl
theorem lt_num(q:Q (decide (a<b)) s):wpAny 'c' A (oneLt' false (.int a t) (.int b u)) Q E s:=
 aE (wpAny_lt_int (LQ q))
theorem Fp(hb:B5 s.heap b x)(hc:B5 s.heap c y)(q:Q (lQ x y) s):wpAny 'c' A (keyLt' (tuples' true) (.ref b) (.ref c)) Q E s:=by
 obtain⟨t,u,o1,n1,g1,_,d1⟩:=hb;obtain⟨t',u',o2,n2,g2,_,d2⟩:=hc;rw[w6];refine aE (listItems_at g1 d1 (aE (listItems_at g2 d2 ?_)));simp only[List.zip_cons_cons,List.zipIdx_cons,List.zip_nil_left,List.zipIdx_nil,List.forIn_cons,List.forIn_nil];unfold lQ at q;refine aE (aE (aE (wpAny_eqBool_str ?_)));by_cases h:x.1=y.1
 ·rw[if_pos h]at q;simp only[decide_eq_true h,Bool.not_true,Bool.false_eq_true,if_false];refine bh (aE (aE (wpAny_eqBool_int ?_)));by_cases h2:x.2=y.2
  ·rw[decide_eq_false (by lia)]at q;simp only[beq_iff_eq.mpr h2,Bool.not_true,Bool.false_eq_true,if_false];exact bh (bh (bh q))
  ·have e:(x.2 == y.2)=false:=by simpa using h2
   simp only[e,Bool.not_false,if_true];exact aE (lt_num (bh (bh (bh q))))
 ·rw[if_neg h]at q;simp only[decide_eq_false h,Bool.not_false,if_true];exact aE (oneLt_str (bh (bh (bh q))))
def Me(h:Heap)(b:Addr):Option Value:=match h.get? b with
 |some o=>(match o.data with | .seq xs _=>xs[0]? | _=>none)
 |none=>none
theorem Bm(g:h.get? b=some o)(e:o.data=.seq #[u,v] n):Me h b=some u:=by unfold Me;rw[g];dsimp only;rw[e];rfl
theorem uo{α β:Type}{f:α->Sem β}{g:α->β}:∀{l:List α}{Q:List β->Shared->Prop},(∀x∈l,∀Q:β->Shared->Prop,Q (g x) s->wpAny 'c' A (f x) Q E s)->Q (l.map g) s->wpAny 'c' A (l.mapM f) Q E s
 |[],Q,_,q=>by rw[List.mapM_nil];exact bh q
 |x::l,Q,h,q=>by
  rw[List.mapM_cons];exact aE (h x (.head _) _ (aE (uo (λy hy=>h y (.tail _ hy)) (bh q))))
theorem zU{bs:List Addr}{d:Addr->aF}(h2:bs≠[])(hd:∀b∈bs,B5 s.heap b (d b)){Q:SortKind->Shared->Prop}(q:Q (tuples' true) s):wpAny 'c' A (keyKind' 'd'.toArray) Q E s:=by
 have firsts:∃g:Value->Option Value,(∀v∈bs.map Value.ref,∃z t,g v=some (Value.str z t))/\∀v∈bs.map Value.ref,∀Q:Option Value->Shared->Prop,Q (g v) s->wpAny 'c' A (firstOfTuple' v) Q E s:=by
  refine⟨λv=>match v with | .ref b=>Me s.heap b | _=>none,λv hv=>?_,λv hv Q q=>?_⟩
  ·obtain⟨b,hb,rfl⟩:=aQ.mp hv;obtain⟨t,u,o,n,g,c,e⟩:=hd b hb;exact⟨(d b).1,t,Bm g e⟩
  ·obtain⟨b,hb,rfl⟩:=aQ.mp hv;obtain⟨t,u,o,n,g,c,e⟩:=hd b hb;have q:Q (Me s.heap b) s:=q;rw[Bm g e]at q;refine aE (Up g ?_);rw[c];exact aE (listItems_at g e (bh q))
 obtain⟨g,g1,g2⟩:=firsts;rw[keyKind'_eq,List.mapM_toArray];refine aE ?_;show wpAny _ _ (List.toArray <$> 'd'.mapM firstOfTuple') _ _ s;rw[map_eq_pure_bind];refine aE (uo g2 (bh ?_));have all:(('d'.map g).toArray.all λx=>x.isSome)=true:=by
  rw[List.all_toArray,List.all_eq_true];intro x hx;obtain⟨v,hv,rfl⟩:=aQ.mp hx;obtain⟨z,t,e⟩:=g1 v hv;rw[e];rfl
 rw[if_pos all];refine aE (CW (aE ?_));have fm:(('d'.map g).toArray.filterMap id)=('d'.filterMap g).toArray:=by
  rw[List.filterMap_toArray,List.filterMap_map];rfl
 rw[fm,oneTypeOnly'_eq,List.mapM_toArray];refine aE ?_;rw[map_eq_pure_bind];refine aE (uo (g:=λ_=>Value.type "str") (λv hv Q q=>?_) (bh ?_))
 ·obtain⟨r,hr,e⟩:=NU.mp hv;obtain⟨z,t,e2⟩:=g1 r hr;rw[e2]at e;cases e;exact wpAny_typeOf (typeIs_str s z t) q
 ·have ne:'d'.filterMap g≠[]:=by
   obtain⟨b,r,e⟩:∃b r,bs=b::r:=by cases bs with|nil=>exact absurd rfl h2|cons b r=>exact⟨b,r,rfl⟩
   obtain⟨z,t,e2⟩:=g1 (.ref b) (aQ.mpr ⟨b,by rw[e];exact .head _,rfl⟩);intro z0;have:Value.str z t∈'d'.filterMap g:=NU.mpr ⟨.ref b,aQ.mpr ⟨b,by rw[e];exact .head _,rfl⟩,e2⟩;rw[z0]at this;cases this
  generalize 'd'.filterMap g=l at ne;cases l with
  |nil=>exact absurd rfl ne
  |cons v l=>
   have e0:(((v::l).map λ_=>Value.type "str").toArray)[0]?=some (Value.type "str"):=rfl;rw[e0];have al:((((v::l).map λ_=>Value.type "str").toArray).all λx=>x == Value.type "str")=true:=by
    rw[List.all_toArray,List.all_eq_true];intro x hx;obtain⟨_,_,rfl⟩:=aQ.mp hx;rfl
   simp only[al,if_true];exact bh (bh q)
def adr:Value->Addr
 |.ref b=>b
 |_=>0
def twice(bs:List Addr):List Keyed:=bs.map λb=>(Value.ref b,Value.ref b)
theorem fO(bs:List Addr):(pairsOf 'd').toList=twice bs:=by
 rw[pairsOf_toList]
 induction bs with
 |nil=>rfl
 |cons b r ih=>rw[iZ,List.zip_cons_cons,ih];rfl
theorem yZ(p:l.Perm (twice bs)):∃bs':List Addr,l=twice bs'/\bs'.Perm bs:=by
 refine⟨l.map λx=>adr x.2,?_,?_⟩
 ·unfold twice;rw[cC];have e:∀x∈l,((λb=>(Value.ref b,Value.ref b)) ∘ λx:Keyed=>adr x.2) x=x:=λx hx=>by
   obtain⟨b,_,rfl⟩:=aQ.mp (p.mem_iff.mp hx);rfl
  rw[Cg e,List.map_id']
 ·have q:=p.map λx:Keyed=>adr x.2;unfold twice at q;rw[cC]at q;have e:((λx:Keyed=>adr x.2) ∘ λb:Addr=>(Value.ref b,Value.ref b))=id:=rfl
  rwa [e,List.map_id]at q
def VL(bs:List Addr)(d:Addr->aF)(x:Keyed):Nat:=ky (bs.map d) (d (adr x.1))
theorem zG(e:xs.toList=twice bs')(p:bs'.Perm bs)(up:dU (VL bs d) xs bs'.length):(bs'.map d).Pairwise kF:=by
 rw[D6];intro i j hi hj lt;rw[aD]at hi hj;have at_:∀k (hk:k<bs'.length),rk (VL bs d) xs k=ky (bs.map d) (d bs'[k]):=λk hk=>by
  unfold rk;rw[<-Wl,e];unfold twice;rw[gU,h9 hk];rfl
 have h:=up i j (LK lt) hj;rw[at_ i hi,at_ j hj]at h;rw[wC,wC];unfold kF;rw[<-jh (ds:=bs.map d) (aQ.mpr ⟨_,p.mem_iff.mp (wR hj),rfl⟩)];exact decide_eq_false (Nat.not_lt.mpr h)
theorem zH(ho:s.heap.get? a=some (seqObj "list" 'd'.toArray n))(hd:∀b∈bs,B5 s.heap b (d b))(h64:bs.length<64)
  (k:∀bs':List Addr,bs'.Perm bs->(bs'.map d).Pairwise kF->P (.done (.ret .none)) { s with heap:=sortedHeap s.heap a 'd' (bs'.map Value.ref).toArray }):wpAny 'c' A (Builtin.«list.sort» ⟨[.ref a],[]⟩) P E s:=by
 have la:a<s.heap.objs.size:=cR ho;have e1:=get?_update_seq ho λ_=>#[];generalize (if (#[]:Array Value).size == 'd'.toArray.size then n else n+1)=n1 at e1;have off:∀{b:Addr}{o:Obj},b≠a->s.heap.get? b=some o->((((s.heap.update a (Obj.mapSeq λ_=>#[])).push (seqObj "tuple" 'd'.toArray 0)).push (seqObj "list" #[] 0)).get? b=some o):=λ{b o} ne g=>
  cS _ (cS _ (by rw[Nk _ _ _ _ ne];exact g))
 have at_:(((s.heap.update a (Obj.mapSeq λ_=>#[])).push (seqObj "tuple" 'd'.toArray 0)).push (seqObj "list" #[] 0)).get? a=some (seqObj "list" #[] n1):=
  cS _ (cS _ e1)
 have pr:∀b∈bs,B5 (((s.heap.update a (Obj.mapSeq λ_=>#[])).push (seqObj "tuple" 'd'.toArray 0)).push (seqObj "list" #[] 0)) b (d b):=λb hb=>by
  obtain⟨t,u,o,m,g,c,e⟩:=hd b hb;refine⟨t,u,o,m,off (λz=>?_) g,c,e⟩;rw[z,ho]at g;cases g;exact absurd (Value.type.inj c) (by decide)
 have sz:'d'.toArray.size=bs.length:=by simp
 rw[list_sort_plain];refine aE (listItems_at ho rfl (aE (listUpdate_at ho rfl (aE (seqEpoch_at e1 rfl (aE (wpAny_newTuple (aE (wpAny_newList (mI ?_) ?_)) ?_)))))))
 ·have out:∀bs':List Addr,(sortedHeap s.heap a 'd' (bs'.map Value.ref).toArray)=(((s.heap.update a (Obj.mapSeq λ_=>#[])).push (seqObj "tuple" 'd'.toArray 0)).push (seqObj "list" #[] 0)).update a (Obj.mapSeq λ_=>(bs'.map Value.ref).toArray):=λ_=>rfl;simp only[out]at k;generalize ((s.heap.update a (Obj.mapSeq λ_=>#[])).push (seqObj "tuple" 'd'.toArray 0)).push (seqObj "list" #[] 0)=h6 at at_ pr k ⊢;dsimp only;have epi:∀(st:SortSt) (bs':List Addr),failedOf st=none->(arrOf st).toList=twice bs'->bs'.Perm bs->(bs'.map d).Pairwise kF->
    wpAny 'c' A (seqEpoch a >>= λe=>Builtin.List.listUpdate (.ref a) (λ_=>(arrOf st).map λx=>x.2) >>= λ_=>if (e != n1)=true then rule "list.sort.modified" >>= λ_=>(raiseError "ValueError" "list modified during sort" : Sem Unit) >>= λ_=>ret .none else ret .none) P E { s with heap:=h6 }:=λst bs' f e p pw=>by
   have ea:((arrOf st).map λx=>x.2)=(bs'.map Value.ref).toArray:=by
    apply Array.ext';rw[Array.toList_map,e];unfold twice;rw[cC];rfl
   rw[ea];refine aE (seqEpoch_at at_ rfl (aE (listUpdate_at at_ rfl ?_ (hsz2 := ?_))))
   ·simp only[bne_self_eq_false,Bool.false_eq_true,if_false];exact bh (k bs' p pw)
   ·rw[iC,aD,p.length_eq,sizeLine_eq];lia
  rw[sz];by_cases bQ:bs.length<2
  ·rw[if_pos bQ,if_pos bQ];refine aE (bh ?_);rw[StateT.run_pure];refine aE (bh ?_);refine epi (SortSt.mk' general' (pairsOf 'd') #[] 7 none) bs rfl (fO bs) (.refl _) ?_;rw[D6];intro i j hi hj lt;rw[aD]at hj;lia
  ·rw[if_neg bQ,if_neg bQ];refine aE (zU (d:=d) (λz=>bQ (by rw[z];decide)) pr ?_);have bz:(pairsOf 'd').size=bs.length:=by rw[pairsOf_size,aD]
   have ask:mM prog w A E { s with heap:=h6 } (tuples' true) (VL bs d) (pairsOf 'd'):=λx hx y hy Q q=>by
    rw[fO]at hx hy;obtain⟨b,hb,rfl⟩:=aQ.mp hx;obtain⟨c,hc,rfl⟩:=aQ.mp hy;refine Fp (pr b hb) (pr c hc) ?_;rw[<-jh (ds:=bs.map d) (aQ.mpr ⟨b,hb,rfl⟩)];exact q
   refine aE (m8 (wU (Q:=λ_ st=>(arrOf st).Perm (pairsOf 'd')/\failedOf st=none/\dU (VL bs d) (arrOf st) bs.length) ask (st:=SortSt.mk' (tuples' true) (pairsOf 'd') #[] 7 none) ⟨.refl _,rfl,rfl,rfl⟩ (by rw[bz];lia) (by rw[bz];exact h64) λst p f up=>⟨p,f,by rw[bz]at up;exact up⟩) ?_ λ_ _ z=>z);rintro⟨⟨⟩,st⟩ s' ⟨rfl,p,f,up⟩;have p':=Array.perm_iff_toList_perm.mp p;rw[fO]at p';obtain⟨bs',e,pb⟩:=yZ p';dsimp only;rw[f];refine epi st bs' f e pb (zG e pb ?_);rw[pb.length_eq];exact up
 ·exact d_ _
 ·rw[List.toList_toArray,aD,sizeLine_eq];lia
theorem rh{l:Addr}{bs:List Addr}{d:Addr->aF}{Q:Vs}(hl:s.heap.IsList l 'd'.toArray)(hd:∀b∈bs,B5 s.heap b (d b))(h64:bs.length<64)
  (k:∀bs':List Addr,bs'.Perm bs->(bs'.map d).Pairwise kF->Q (.ref 'm') { s with heap:=sortedAll s.heap 'd' (bs'.map Value.ref).toArray }):wpAny 'c' A (call 'Q' [.ref l]) Q E s:=by
 have one:((s.heap.push (seqObj "list" #[] 0)).update s.heap.objs.size (Obj.mapSeq (·++'d'.toArray))).objs.size=s.heap.objs.size+1:=by rw[Heap.size_update,size_push']
 have keep:∀{b:Addr}{o:Obj},s.heap.get? b=some o->(((s.heap.push (seqObj "list" #[] 0)).update s.heap.objs.size (Obj.mapSeq (·++'d'.toArray))).push (seqObj "list" 'd'.toArray 0)).get? b=some o:=λ{b o} g=>
  cS _ (by rw[Nk _ _ _ _ (d0 (cR g))];exact cS _ g)
 have new:(((s.heap.push (seqObj "list" #[] 0)).update s.heap.objs.size (Obj.mapSeq (·++'d'.toArray))).push (seqObj "list" 'd'.toArray 0)).get? 'm'=some (seqObj "list" 'd'.toArray 0):=by
  have:=hV ((s.heap.push (seqObj "list" #[] 0)).update s.heap.objs.size (Obj.mapSeq (·++'d'.toArray))) (o:=seqObj "list" 'd'.toArray 0) rfl
  rwa [one]at this
 have fit:'d'.length<=sizeLine:=by rw[aD,sizeLine_eq];lia
 refine Calls.call_function_entry kind_sorted plain_sorted entry_sorted (args_sorted1 _) (aE (m:=checkCount "sorted" 1 1 _) (bh (aE (collect_list hl (aE (wpAny_newList ?_ fit)) fit))));dsimp only;rw[one];refine aE (mI (MV slot_list_sort ⟨_,new,rfl⟩ entry_list_sort (zH new (λb hb=>?_) h64 λbs' p pw=>⟨_,rfl,bh ⟨_,rfl,k bs' p pw⟩⟩) (args_list_sort _)));obtain⟨t,u,o,m,g,c,e⟩:=hd b hb;exact⟨t,u,o,m,keep g,c,e⟩
end
section
variable{X:Cx}
def GS(K:Wf):List V->Hp->VK->Prop:=λxs H Q=>∃(p:Addr) (bs:List Addr) (d:Addr->aF),xs=[.ref p]/\aH K H p (bs.map V.ref)/\(∀b∈bs,H b=some (.tup [.str (d b).1,.int (d b).2]))/\bs.length<64/\
 ∀(l:Addr) (bs':List Addr),H l=none->bs'.Perm bs->(bs'.map d).Pairwise kF->Q (.ref l) (upd H l (.lst (bs'.map V.ref)))
theorem j8:∀{as:List Addr},Vals (as.map V.ref) (as.map Value.ref)
 |[]=>.nil
 |_::_=>.cons rfl j8
theorem zm:cL X 'Q' (GS X.K):=by
 intro pins s σ H xs us Q I r h;obtain⟨p,bs,d,rfl,hq,hd,hz,q⟩:=h;obtain⟨u,rfl,rx⟩:=vals1 r;cases rx;obtain⟨its,r',pl,_⟩:=I.list hq;have e:=sY r';subst e;refine rh (d:=d) pl.isList (λb hb=>?_) hz λbs' pb pw=>?_
 ·obtain⟨_,its,r2,o,h1,h2,n,h3⟩:=(show cg X.prog X.w H s.heap b (.tup [.str (d b).1,.int (d b).2]) from I.a6 b _ (hd b hb))
  cases r2 with
  |cons ra rb=>
   cases rb with
   |cons rc rd=>
    cases rd;obtain⟨t1,rfl⟩:=ra;obtain⟨t2,rfl⟩:=rc;exact⟨t1,t2,o,n,h1,h2,h3⟩
 ·obtain⟨e,he⟩:=sortedAll_at s.heap 'd' (bs'.map Value.ref).toArray;refine⟨.ref 'm',_,I.laid (a:=s.heap.objs.size+1) (o:=.lst (bs'.map V.ref)) (t':=s.toks) (λb o=>sortedAll_old) (CV _) ⟨?_,bs'.map Value.ref,e,j8,he⟩,rfl,q _ bs' (I.a6.fresh (CV _)) pb pw⟩;rw[aD,pb.length_eq,sizeLine_eq];lia
theorem wJ{K:Wf}(e:X.K=K):cL X 'Q' (GS K):=e▸zm
end
section
variable{X:Cx}{e:Expr}{te:TE}{p1 p2 pos1 pos2:Pos}
def Z3(K:Wf)(te:TE):TE:=λσ H Q=>te σ H λx H1=>∃p ys,x=.ref p/\aH K H1 p ys/\ys.length<sizeLine/\∀l,H1 l=none->Q (.ref l) (upd H1 l (.lst ys.reverse))
end
def BH(f:Nat->Int)(j:Nat)(xs:Array Value):Prop:=(j=0/\xs=#[])\/∃m t,xs=#[.int m t,.int m t]/\(∃i,i<j/\m=f i)/\∀i,i<j->f i<=m
def DI(f:Nat->Int)(n:Nat)(d v:Value):Prop:=(n=0/\v=d)\/∃m t,v=.int m t/\(∃i,i<n/\m=f i)/\∀i,i<n->f i<=m
section
variable{prog:Program}{w:World}{A:Around}{R:Result->Shared->Prop}{I S:Addr}{fp wr:List Addr}{n:Nat}{P:Nat->Value->Prop}{St:Nat->Heap->Prop}{d:Value}{f:Nat->Int}
abbrev FH(xs:Array Value)(c:Nat):Obj:={ cls:=.type "list", dict:=none,data:=.seq xs c,slots:=#[] }
theorem BK(W:Walks prog w A.in1 I fp wr n P St)(hP:∀i v,P i v->∃t,v=.int (f i) t)(hSf:S∉fp):∀(k j:Nat) (s:Shared) (xs:Array Value) (c:Nat),n - j=k->j<=n->St j s.heap->s.heap.get? S=some (FH xs c)->BH f j xs->
  (∀v h' tk,DI f n d v->(∀b o,b∉wr->b≠S->s.heap.get? b=some o->h'.get? b=some o)->R (.ok (.ret v)) { s with heap:=h',toks:=tk })->
  codeAny 'c' A (.builtin "max.loop" ⟨[.ref I,.none,.ref S],[(s!"default", d)]⟩) R s:=by
 have hSw:S∉wr:=λh=>hSf (W.sub _ h);have nm:(toString "max" ++ toString ".loop" : String) = "max.loop" := by decide
 intro k
 induction k with
 |zero=>
  intro j s xs c hk hj hst hS hb hR;have ej:j=n:=by lia
  subst ej;refine codeAny_builtin F.entry_max_loop ?_;rw[Around.under_plainId F.plain_max_loop _];show wpAny _ A.in1 (seqItems? (.ref S) >>= _) _ _ s;refine aE (Rx hS rfl ?_);refine aE (wpAny_tryCatch (W.done s _ _ hst λh' tk kp=>?_));have hS':=kp S _ hSw hS;rcases hb with ⟨z,rfl⟩|⟨m,t,rfl,z⟩
  ·exact aE (CW (bh (hR d h' tk (.inl ⟨z,rfl⟩) λb o b1 _ e=>kp b o b1 e)))
  ·refine aE (m:=updateSeq S λ_=>#[]) (wpAny_updateSeq hS' rfl (aE (wpAny_letGo (bh ?_))));exact hR _ _ tk (.inr ⟨m,t,rfl,z⟩) λb o b1 b2 e=>(O7 _ _ (Ne.symm b2)).trans (kp b o b1 e)
 |succ k ih=>
  intro j s xs c hk hj hst hS hb hR;have lt:j<n:=by lia
  refine codeAny_builtin F.entry_max_loop ?_;rw[Around.under_plainId F.plain_max_loop _];show wpAny _ A.in1 (seqItems? (.ref S) >>= _) _ _ s;refine aE (Rx hS rfl ?_);refine aE (wpAny_tryCatch (W.item j s _ _ lt hst λv h' tk hv hst' kp=>?_));have hS':=kp S _ hSw hS;obtain⟨t0,rfl⟩:=hP j v hv;have put:∀h'':Heap,St (j+1) h''->(∀b o,b≠S->h'.get? b=some o->h''.get? b=some o)->∀ys c',h''.get? S=some (FH ys c')->BH f (j+1) ys->codeAny 'c' A (.builtin "max.loop" ⟨[.ref I,.none,.ref S],[(s!"default", d)]⟩) R { s with heap:=h'',toks:=tk }:=λh'' st'' k2 ys c' e1 e2=>
   ih (j+1) _ ys c' (by lia) lt st'' e1 e2 λv h3 tk3 b3 k3=>hR v h3 tk3 b3 λb o b1 b2 e=>k3 b o b1 b2 (k2 b o b2 (kp b o b1 e))
  have write:∀ys:Array Value,BH f (j+1) ys->∃c',(h'.update S (Obj.mapSeq λ_=>ys)).get? S=some (FH ys c')/\St (j+1) (h'.update S (Obj.mapSeq λ_=>ys))/\∀b o,b≠S->h'.get? b=some o->(h'.update S (Obj.mapSeq λ_=>ys)).get? b=some o:=λys _=>
   ⟨_,QQ _ hS' rfl,W.frame _ _ _ hst' λb hbf o e=>(O7 _ _ (λq:S=b=>hSf (q▸hbf))).trans e,λb o hb e=>(O7 _ _ (Ne.symm hb)).trans e⟩
  rcases hb with ⟨z,rfl⟩|⟨m,t,rfl,z1,z2⟩
  ·have nb:BH f (j+1) #[.int (f j) t0,.int (f j) t0]:=.inr ⟨f j,t0,rfl,⟨j,by lia,rfl⟩,λi hi=>by rw[show i=j by lia];exact Int.le_refl _⟩;obtain⟨c',e1,e2,e3⟩:=write _ nb;refine aE (m:=updateSeq S λ_=>#[.int (f j) t0,.int (f j) t0]) (wpAny_updateSeq hS' rfl ?_);rw[nm];exact bh ⟨plainId_quiet F.plain_max_loop _,put _ e2 e3 _ c' e1 nb⟩
  ·refine aE (bh ?_);refine aE (wpAny_tryCatch (mI (aE ?_)));refine richCompare_gives (op:=.Gt) (typeIs_int _ _ t0) (typeIs_int _ _ t) F.slot_int_gt F.entry_int_gt (F.args_int_gt_2 _ _) (gives_int_gt _ _ t0 t) (λx=>nomatch x) ?_;refine aE (mI (LQ (aE (wpAny_letGo (bh ?_)))));by_cases gt:f j>m
   ·have nb:BH f (j+1) #[.int (f j) t0,.int (f j) t0]:=.inr ⟨f j,t0,rfl,⟨j,by lia,rfl⟩,λi hi=>by
     by_cases q:i=j
     ·rw[q];exact Int.le_refl _
     ·have:=z2 i (by lia);lia⟩
    obtain⟨c',e1,e2,e3⟩:=write _ nb;simp only[decide_eq_true gt,if_true];refine aE (m:=updateSeq S λ_=>#[.int (f j) t0,.int (f j) t0]) (wpAny_updateSeq hS' rfl (aE (wpAny_letGo ?_)));rw[nm];exact bh ⟨plainId_quiet F.plain_max_loop _,put _ e2 e3 _ c' e1 nb⟩
   ·have nb:BH f (j+1) #[.int m t,.int m t]:=.inr ⟨m,t,rfl,let ⟨i,a,b⟩:=z1;⟨i,by lia,b⟩,λi hi=>by
     by_cases q:i=j
     ·rw[q];lia
     ·exact z2 i (by lia)⟩
    simp only[decide_eq_false gt,Bool.false_eq_true,if_false];refine aE (wpAny_letGo ?_);rw[nm];exact bh ⟨plainId_quiet F.plain_max_loop _,put h' hst' (λb o _ e=>e) _ c hS' nb⟩
end
section
variable{prog:Program}{w:World}{A:Around}{E:Vs}{s:Shared}
theorem zu(a b:Value):checkBuiltinCall "max" ⟨[a],[(s!"default", b)]⟩=pure ():=by kernel_rfl
theorem xB{l:Addr}{items:Array Value}{f:Nat->Int}{d:Value}{Q:Vs}(hh:A.handled=none)(hl:s.heap.IsList l items)(hi:∀(i:Nat) (v:Value),items[i]?=some v->∃t,v=.int (f i) t)
  (hQ:∀v h' tk,DI f items.size d v->(∀b o,s.heap.get? b=some o->h'.get? b=some o)->Q v { s with heap:=h',toks:=tk }):
  wpAny 'c' A (call (.builtin "max") [.ref l] [(s!"default", d)]) Q E s:=by
 have ll:l<s.heap.objs.size:=let ⟨o,ho,_⟩:=hl;cR ho
 have nm:(toString "max" ++ toString ".loop" : String) = "max.loop" := by decide
 refine wpAny_call (codeAny_call_builtin F.plain_max F.entry_max (wpAny_of_eq (zu _ _) ?_));show wpAny _ A.in1 (Builtin.Builtins.bindParams "max" ["key", "default"] 0 ⟨[],[(s!"default", d)]⟩ >>= _) _ _ s;refine aE (wpAny_of_eq (show Builtin.Builtins.bindParams "max" ["key", "default"] 0 ⟨[],[(s!"default", d)]⟩=pure [none,some d] from rfl) ?_);refine aE (bh (aE (Ti hl (aE (Ug ?_)))));rw[nm];generalize h1:s.heap.push { cls:=.type "list_iterator", data:=.fields #[.ref l,.int 0 0] }=H1;have z1:H1.objs.size=s.heap.objs.size+1:=by rw[<-h1];exact RF ..
 have k1:∀b o,s.heap.get? b=some o->H1.get? b=some o:=λb o e=>h1▸cS _ e;have it:H1.IsListIter s.heap.objs.size l 0:=h1▸⟨_,hV _ rfl,rfl,rfl⟩
 have W:=Walks.list (prog:=prog) (w:=w) (A:=A.in1) hh s.heap.objs.size l (d0 ll) items;refine bh ⟨plainId_quiet F.plain_max_loop _,BK (f:=f) (S:=H1.objs.size) W hi (λq=>?_) items.size 0 _ #[] 0 rfl (d_ _) ⟨it.at λo e=>cS _ e,(hl.at λo e=>k1 _ _ e).at λo e=>cS _ e⟩ (hV _ rfl) (.inl ⟨rfl,rfl⟩) λv h' tk b kp=>?_⟩
 ·rw[z1]at q;rcases iu.mp q with q|q
  ·exact Nat.succ_ne_self _ q
  ·exact Nat.ne_of_gt (Tr ll) (cx.mp q)
 ·refine hQ v h' tk b λb o e=>kp b o (λq=>?_) (d0 (Nat.lt_trans (cR e) (z1▸Jz _))) (cS _ (k1 b o e));exact d0 (cR e) (cx.mp q)
end
section
variable{X:Cx}{e:Expr}{te:TE}{p pos cp kp:Pos}{n:Int}{j:Nat}
theorem zX:∀{xs:List V}{us:List Value}{i:Nat}{u:Value},Vals xs us->us[i]?=some u->∃x,xs[i]?=some x/\RelV x u
 |_,_,0,_,.cons h _,e=>by cases e;exact⟨_,rfl,h⟩
 |_,_,i+1,_,.cons _ r,e=>zX (i:=i) r e
def cV(ns:List Int)(n m:Int):Prop:=(ns=[]/\m=n)\/(m∈ns/\∀x∈ns,x<=m)
def T9(K:Wf)(n:Int)(te:TE):TE:=λσ H Q=>te σ H λx H1=>∃a ns,x=.ref a/\aH K H1 a 'u'/\∀m,cV ns n m->Q (.int m) H1
theorem A1{K:Wf}(hc:X.calm=true)(eK:X.K=K)(he:PE X e te)(hg:Gl X "max")(hm:X.mg "max" = none)(s1:starEach [e] X.env=[(false,eval e X.env)]:=by rfl):
  PE X (.Call (.Name "max" p) [e] [⟨some "default", .Constant (.int n) j cp,kp⟩] pos) (T9 K n te):=by
 subst eK;intro pins s σ H Q I h;refine Qm (gc I hg hm (show bootBuiltins "max" = some (.builtin "max") by kernel_rfl) ?_);refine PyProof.Rows.callWith_kw ?_ (by rw[s1];rfl) (by rw[s1];rfl);rw[s1];refine Calls.spliced_cons (bG (he pins s σ H _ I h) λu s1 ⟨x,H1,I1,r1,a,ns,ex,hq,q⟩=>Calls.spliced_nil (kws_cons (wpAny_Constant_int (kws_nil ?_))));subst ex;cases r1;obtain⟨its,r',pl,hz'⟩:=I1.list hq;have at_:∀(i:Nat) (v:Value),its.toArray[i]?=some v->∃t,v=.int (ns.getD i 0) t:=λi v hv=>by
  rw[S8]at hv;obtain⟨x,hx,rx⟩:=zX r' hv;rw[gU]at hx;obtain⟨k,hk,rfl⟩:=eZ.mp hx;obtain⟨t,rfl⟩:=rx;exact⟨t,by rw[Ki,hk];rfl⟩
 have len:its.toArray.size=ns.length:=by have:=r'.length;rw[aD]at this;simpa using this.symm
 refine xB (s:={ s1 with toks:=s1.toks+1 }) (f:=λi=>ns.getD i 0) (I1.ok.hd hc) pl.isList at_ λv h' tk b kp=>?_;have I2:=I1.kept (h':=h') (t':=tk) kp;rw[len]at b;rcases b with ⟨z,rfl⟩|⟨m,t,rfl,⟨i,hi,e⟩,z⟩
 ·exact⟨.int n,H1,I2,⟨_,rfl⟩,q n (.inl ⟨List.length_eq_zero_iff.mp z,rfl⟩)⟩
 ·have gd:∀i,i<ns.length->∃x,ns[i]?=some x/\ns.getD i 0=x:=λi hi=>⟨ns[i],h9 hi,by rw[Ki,h9 hi];rfl⟩;refine⟨.int m,H1,I2,⟨_,rfl⟩,q m (.inr ⟨?_,λx hx=>?_⟩)⟩
  ·obtain⟨x,h1,h2⟩:=gd i hi;have e:m=ns.getD i 0:=e;rw[e,h2];exact dI h1
  ·obtain⟨k,hk⟩:=C2 hx;obtain⟨y,h1,h2⟩:=gd k (gZ.mp hk).1;have:=z k (gZ.mp hk).1;have this:ns.getD k 0<=m:=this;rw[h2]at this;rw[hk]at h1;cases h1;exact this
end
def eM(P:Addr)(H H':Hp):Prop:=∀b o,b≠P->H b=some o->H' b=some o
def Mf(c:Addr)(q:Str):HO:=.ext λh=>h.CodeRec (.ref c) q
def Mi(f:Addr)(o:Obj):HO:=.ext λh=>h.get? f=some o
def bU(P:Addr)(pos:Pos)(q:Str)(H:Hp):Prop:=∃ps:Array Value,H P=some (.iO ps)/\TriplesOk ps.toList/\(codeAmong pos ps.toList=none\/∃c,codeAmong pos ps.toList=some (.ref c)/\H c=some (Mf c q))
theorem bU.more(h:bU P pos q H)(s:∀b o,H b=some o->H' b=some o):bU P pos q H':=by
 obtain⟨ps,h1,h2,h3⟩:=h;exact⟨ps,s _ _ h1,h2,h3.imp id λ⟨c,h4,h5⟩=>⟨c,h4,s _ _ h5⟩⟩
theorem Lj(e:h.CodeRec (.ref c) q):cg P w H h c (Mf c q):=by
 refine⟨e,?_,?_⟩
 ·obtain⟨c',o,_,_,e1,e2,_⟩:=e;cases e1;exact⟨o,e2⟩
 ·rintro h1 h2 ⟨c',o,vs,t,e1,e2,e3⟩ k;cases e1;exact⟨c,o,vs,t,rfl,k o e2,e3⟩
theorem AF(e:h.get? f=some o):cg P w H h f (Mi f o):=⟨e,⟨o,e⟩,λ_ _ e1 k=>k o e1⟩
def BMod(K:Wf)(mg:So):Prop:=∃(bm:Addr) (sl:Array (Option Value)),mg s!"__builtins__"=some (.ref bm)/\bm≠builtinsNs/\bm≠mainGlobals/\K.lookup bm=some ⟨.type "module", some builtinsNs,.plain,sl⟩
section
variable{X:Cx}{pins:Lo}{σ:St}{H:Hp}{s:Shared}
theorem Inv.grow{P c f:Addr}{ps more:Array Value}{o1 o2:HO}{h':Heap}{t':Nat}(I:Inv X pins σ H s)(hP:H P=some (.iO ps))(k:∀b o,b≠P->s.heap.get? b=some o->h'.get? b=some o)(hP':h'.get? P=some (tabObj (ps++more)))
  (hc:s.heap.objs.size<=c) (hf:s.heap.objs.size<=f) (hcf:c≠f) (ok1:∀H'',cg X.prog X.w H'' h' c o1) (ok2:∀H'',cg X.prog X.w H'' h' f o2):
  Inv X pins σ (upd (upd (upd H P (.iO (ps++more))) c o1) f o2) { s with heap:=h',toks:=t' }:=by
 have c0:=I.a6.fresh hc;have f0:=I.a6.fresh hf;have cP:=bA hP c0;have fP:=bA hP f0;have get:∀b,b≠P->b≠c->b≠f->upd (upd (upd H P (.iO (ps++more))) c o1) f o2 b=H b:=λb n1 n2 n3=>by rw[ae n3,ae n2,ae n1]
 have old:∀b o,s.heap.get? b=some o->b≠c/\b≠f:=λb o e=>⟨d0 (kx (cR e) hc),d0 (kx (cR e) hf)⟩;have yx:∀b o,H b=some o->b≠P->upd (upd (upd H P (.iO (ps++more))) c o1) f o2 b=some o:=λb o e n=>by
  rw[get b n (bA e c0) (bA e f0)];exact e
 have atP:upd (upd (upd H P (.iO (ps++more))) c o1) f o2 P=some (.iO (ps++more)):=by rw[ae fP,ae cP,aJ]
 refine I.un ⟨λb o e n _ _=>k b o (λz=>by rw[z,hP]at n;cases n) e,λb o e n _ _=>⟨o.slots,k b o (λz=>by rw[z,hP]at n;cases n) e⟩,λb o e n _=>?_,λb o e _=>?_,λb xs e=>yx b _ e (λz=>by rw[z,hP]at e;cases e),λb o u e=>yx b _ e (λz=>by rw[z,hP]at e;cases e),λb ps' e=>?_⟩ λb u e=>?_
 ·rw[get b (λz=>by rw[z,hP]at n;cases n) (old b o e).1 (old b o e).2];exact n
 ·by_cases z:b=P
  ·rw[z];exact⟨_,hP'⟩
  ·exact⟨o,k b o z e⟩
 ·by_cases z:b=P
  ·rw[z,hP]at e;cases e;rw[z];exact⟨more,atP⟩
  ·exact⟨#[],by rw[yx b _ e z];simp⟩
 ·by_cases z3:b=f
  ·rw[z3,aJ]at e;cases e;rw[z3];exact ok2 _
  ·by_cases z2:b=c
   ·rw[z2,ae hcf,aJ]at e;cases e;rw[z2];exact ok1 _
   ·by_cases z1:b=P
    ·rw[z1,atP]at e;cases e;rw[z1];exact hP'
    ·rw[get b z1 z2 z3]at e;refine(I.a6 b u e).jU (λd v hd q=>k d v ?_ q) (λd q=>yx d _ q (λz=>by rw[z,hP]at q;cases q)) λd xs q=>yx d _ q (λz=>by rw[z,hP]at q;cases q);rcases hd with z|z
     ·rw[z];exact z1
     ·intro y;rw[y,hP]at z;cases z
theorem EL{A:Around}{P c:Addr}{pos:Pos}{x q:Str}{pr:Arguments}{bd:Expr}{sc:Scope}{line:Nat}{E:Vs}{Q:Vs}(I:Inv X pins σ H s)(hcl:closureFor sc X.env=pure [])(hcd:X.env.code=.ref c)(hc:codeHdIn X.K c P=true)(hb:BMod X.K X.mg)(ht:bU P pos q H)
  (k:∀(f c':Addr) (ctv pm:Value) (H':Hp) (s':Shared),Inv X pins σ H' s'->eM P H H'->bU P pos q H'->H f=none->f≠P->H' f=some (Mi f (kla_obj x q pr bd sc [] pm c' ctv))->H' c'=some (Mf c' q)->Q (.ref f) s'):
  wpAny 'b' A (makeFunction x q pr (.expr bd) sc X.env [] [] [] pos line) Q E s:=by
 obtain⟨ps,hP,tri,cs⟩:=ht;have gP:=I.a6 P _ hP;have ns:=I.ok.mod.glob.keeps I.bk;have nP:∀b o,X.base.get? b=some o->b≠P:=λb o e z=>by
  have:=(I.bs b o e).2;rw[z,hP]at this;cases this
 have mP:mainGlobals≠P:=by
  obtain⟨o,_,_,e,_⟩:=I.ok.mod.glob;exact nP _ o e
 have hd:=codeHd_of_K I.jV hc;have bl:s.heap.BuiltinsAt X.mg P:=by
  obtain⟨bm,sl,e1,e2,e3,e4⟩:=hb;exact⟨bm,_,e1,e2,e3,nP bm _ (I.ok.mod.Rn _ _ e4),I.jV _ _ e4,rfl,rfl,rfl⟩
 rcases cs with cs|⟨c',cs,hc'⟩
 ·refine PySem.W.kla_makeFunction hcl I.ok.glob ns hcd hd gP tri cs mP bl λc' ctv h' tk ext h1 h2 h3 h4=>?_;have pk:∀b o,h'.get? b=some o->(h'.push (kla_obj x q pr bd sc [] ((X.mg s!"__name__").getD .none) c' ctv)).get? b=some o:=λb o e=>cS _ e;have sz:s.heap.objs.size<=h'.objs.size:=by lia
  have fP:=d0 (cR h4);have cP:=d0 (kx (cR gP) h1);have J:=I.grow (t':=tk) hP
   (λb o n e=>pk b o (ext b o n e)) (pk _ _ h4) h1 sz (d0 h2) (λH''=>Lj (by
    obtain⟨c2,o,vs,t,e1,e2,e3⟩:=h3;exact⟨c2,o,vs,t,e1,pk _ _ e2,e3⟩)) (λH''=>AF (hV _ rfl))
  refine k _ c' ctv _ _ _ J (λb o n e=>?_) ⟨_,by rw[ae fP,ae cP,aJ],?_,.inr ⟨c',?_,by rw[ae (d0 h2),aJ]⟩⟩ (I.a6.fresh sz) (Ne.symm fP) aJ (by rw[ae (d0 h2),aJ])
  ·rw[ae (bA e (I.a6.fresh sz)),ae (bA e (I.a6.fresh h1)),ae n];exact e
  ·rw[Array.toList_append];exact TriplesOk_snoc _ _ _ _ tri
  ·rw[Array.toList_append];exact codeAmong_snoc _ tri cs
 ·refine PySem.W.kla_makeFunctionHit hcl I.ok.glob ns hcd hd gP tri cs bl λctv h' tk kp sz=>?_;have J:=I.laid (t':=tk) (h':=h'.push (kla_obj x q pr bd sc [] ((X.mg s!"__name__").getD .none) c' ctv)) (λb o e=>cS _ (kp b o e)) sz (AF (hV _ rfl));have f0:=I.a6.fresh sz;have st:∀b o,H b=some o->upd H h'.objs.size (Mi h'.objs.size (kla_obj x q pr bd sc [] ((X.mg s!"__name__").getD .none) c' ctv)) b=some o:=λb o e=>(ae (bA e f0))▸e;exact k _ c' ctv _ _ _ J (λb o _ e=>st b o e) ⟨ps,st _ _ hP,tri,.inr ⟨c',cs,st _ _ hc'⟩⟩ f0 (λz=>by rw[z,hP]at f0;cases f0) aJ (st _ _ hc')
end
theorem Lh{P:Program}{w:World}{K:Wf}{mg:So}{base:Heap}{A:Around}{outer:List Env}{s:Shared}{H:Hp}{f c:Addr}{x q:Str}{pr:Arguments}{bd:Expr}{sc:Scope}{pm ct:Value}{N ps:List Str}{us:List Value}{vs:List V}{Q:VK}{t:TE}
  (ho:s.heap.get? f=some (kla_obj x q pr bd sc [] pm c ct)) (hc:s.heap.CodeRec (.ref c) q) (S:ar N ps sc) (hr:cQ 1 A) (e0:k7 P w K mg base A outer s H)
  (hb:BindsTo s (kla_fn x q pr bd sc [] pm (.ref c) ct) ⟨us,[]⟩ (ps.zip us)) (hl:vs.length=ps.length) (r:Vals vs us)
  (ht:PE (lq cF P w K mg base N q sc f (.ref c) A outer s H E0) bd t) (hq:t (start N vs) H Q):codeAny (model P w) A (.call (.ref f) ⟨us,[]⟩) (CR cF outer P w H s Q E0) s:=by
 have lim:=e0.mod.nolimit.keeps λb o e=>(e0.bs b o e).1;have hkind:∀y∈ps.zip us,sc.names.lookup y.1=some .local\/(sc.names.lookup y.1=some .cell/\((cellsFrom 'm' sc.names []).lookup y.1).isSome=true):=λ⟨n,v⟩ hy=>by
  rcases S.par n (List.of_mem_zip hy).1 with q|q
  ·exact .inl q
  ·exact .inr ⟨q,cellsFrom_some _ _ _ (.inl q)⟩
 refine PySem.W.kla_callFunE hr.depth ho rfl S.co S.gen rfl hc (hb _ _ _ _ (wpAny_newFunctionEnv_cells S.kind hkind λenv he s1 x=>?_));subst he;refine⟨lim.keeps x.toInCall.keep,PySem.W.kla_codeExpr ?_⟩;have I:=n8 (CX:=cF) (E:=E0) S hr.hd e0 hl r x;exact m8 (ht [] s1 (start N vs) H Q I hq) (λu s' ⟨v,H',J,rv,q⟩=>(⟨v,H',J.os,J.bare,J.base,J.a6,rv,q⟩)) λe s' hs=>hs
theorem xI{bs:List Addr}{z:Addr->Str}(h:bs.length<2):(bs.map λb=>((z b,0):aF)).Pairwise kF:=by
 rw[D6];intro i j hi hj lt;rw[aD]at hj;lia
def keyed(kt:List Value)(bs:List Addr):List Keyed:=kt.zip 'd'
def Uc:Value->Str
 |.str x _=>x
 |_=>s!""
section
variable{X:Cx}{pins:Lo}{σ:St}{H:Hp}{s:Shared}{A:Around}{E:Vs}
theorem Bb:∀{kt:List Value}{ss:List Str}{i:Nat}{k:Value},StrsAre kt ss->kt[i]?=some k->ss[i]?=some (Uc k)/\∃t,k=.str (Uc k) t
 |_,_,0,_,.cons y t h,e=>by cases e;exact⟨rfl,t,rfl⟩
 |_,_,i+1,_,.cons _ _ h,e=>Bb (i:=i) h e
theorem mG:∀{kt:List Value}{ss:List Str},StrsAre kt ss->kt.length=ss.length
 |_,_,.nil=>rfl
 |_,_,.cons _ _ h=>by rw[md,md,mG h]
theorem nO:∀{kt:List Value}{ss:List Str}{y:Str}{t:Tok},StrsAre kt ss->StrsAre (kt++[.str y t]) (ss++[y])
 |_,_,y,t,.nil=>.cons y t .nil
 |_,_,_,_,.cons a b h=>.cons a b (nO h)
theorem jK(h:StrsAre kt (bs.map z))(hx:x∈keyed kt bs):∃b t,b∈bs/\x=(.str (z b) t,.ref b):=by
 obtain⟨i,hi⟩:=C2 hx;unfold keyed at hi;rw[List.getElem?_zip_eq_some]at hi;obtain⟨h1,h2⟩:=hi;rw[gU]at h2;obtain⟨b,h3,h4⟩:=eZ.mp h2;obtain⟨h5,t,h6⟩:=Bb h h1;rw[gU,h3]at h5;refine⟨b,t,dI h3,?_⟩;rw[<-Option.some.inj h5]at h6;exact Prod.ext h6 h4.symm
theorem Im(I:Inv X pins σ H s)(fa:fi X pins H a)(fk:fi X pins H kS)(nak:a≠kS)(ha:s.heap.get? a=some (seqObj "list" #[] n))(hk:s.heap.get? kS=some (seqObj "list" kt.toArray e))(hz:StrsAre kt (bs.map z))(h64:bs.length<64)
  (k:∀(s':Shared) (bs':List Addr) (e':Nat),Inv X pins σ H s'->bs'.Perm bs->(bs'.map λb=>((z b,0):aF)).Pairwise kF->s'.heap.get? a=some (seqObj "list" (bs'.map Value.ref).toArray e')->Q (.done (.ret .none)) s'):
  wpAny 'b' A (ksk_end a false 'd'.toArray n (.ref kS) kt.toArray) Q E s:=by
 have kl:=by have:=mG hz;rwa [aD]at this
 have sl:(kt.toArray.zip 'd'.toArray).toList=keyed kt bs:=ksk_zip kt.toArray 'd';have epi:∀st (bs':List Addr),failedOf st=none->(arrOf st).toList.map (·.2)=bs'.map Value.ref->bs'.Perm bs->(bs'.map λb=>((z b,0):aF)).Pairwise kF->wpAny 'b' A (ksk_tail a false n (.ref kS) st) Q E s:=λst bs' f ea p pw=>by
  unfold ksk_tail;have ea':((arrOf st).map λx=>x.2)=(bs'.map Value.ref).toArray:=by
   apply Array.ext';rw[Array.toList_map,ea]
  rw[f,ea'];refine aE (listUpdate_at hk rfl ?_ (hsz2:=by simp));have k1:∀b o,b≠kS->s.heap.get? b=some o->(s.heap.update kS (Obj.mapSeq λ_=>#[])).get? b=some o:=λb o nb g=>by rw[Nk _ _ _ _ nb];exact g
  have I1:=I.turned (t':=s.toks) k1 fk.1 fk.2.1 fk.2.2.2.1 fk.2.2.2.2.1 fk.2.2.2.2.2;have ha1:=k1 a _ nak ha;generalize s.heap.update kS (Obj.mapSeq λ_=>#[])=h1 at k1 I1 ha1;refine aE (wpAny_letGo (aE (seqEpoch_at ha1 rfl (aE (listUpdate_at ha1 rfl ?_ (hsz2 := ?_))))))
  ·have k2:∀b o,b≠a->h1.get? b=some o->(h1.update a (Obj.mapSeq λ_=>(bs'.map Value.ref).toArray)).get? b=some o:=λb o nb g=>by rw[Nk _ _ _ _ nb];exact g
   have I2:=I1.turned (t':=s.toks) k2 fa.1 fa.2.1 fa.2.2.2.1 fa.2.2.2.2.1 fa.2.2.2.2.2;have e2:=get?_update_seq ha1 λ_=>(bs'.map Value.ref).toArray;simp only[bne_self_eq_false];exact bh (k _ bs' _ I2 p pw e2)
  ·simp only[Bool.false_eq_true,if_false];rw[iC,aD,p.length_eq,sizeLine_eq];lia
 unfold ksk_end;simp only[Bool.false_eq_true,if_false,List.size_toArray,List.length_map];by_cases bQ:bs.length<2
 ·simp only[if_pos bQ];exact epi _ bs rfl (sl▸List.map_snd_zip (by rw[aD,kl];exact bS _)) (.refl _) (xI bQ)
 ·simp only[if_neg bQ];have kk:keyKind' kt.toArray=pure oneType':=by
   match kt,hz,kl with
   |[],_,kl=>exact absurd kl (by simp;omega)
   |[_],_,kl=>exact absurd kl (by simp;omega)
   |_::_::_,hz,_=>exact keyKind_strs hz
  refine aE (wpAny_of_eq kk ?_);have bz:(kt.toArray.zip 'd'.toArray).size=bs.length:=by rw[<-DY,sl];unfold keyed;rw[List.length_zip,List.length_map,kl,Nat.min_self]
  have ask:mM X.prog X.w A E s oneType' (λx=>ky (bs.map λb=>((z b,0):aF)) (Uc x.1,0)) (kt.toArray.zip 'd'.toArray):=λx hx y hy Q q=>by
   rw[sl]at hx hy;obtain⟨b,t,hb,rfl⟩:=jK hz hx;obtain⟨c,u,hc,rfl⟩:=jK hz hy;refine oneLt_str (?_:Q (decide ((z b).cps.toList<(z c).cps.toList)) s);have e:=jh (ds:=bs.map λb=>((z b,0):aF)) (b:=(z c,0)) (aQ.mpr ⟨b,hb,rfl⟩);have e2:lQ ((z b,0):aF) (z c,0)=decide ((z b).cps.toList<(z c).cps.toList):=by
    unfold lQ;by_cases h:z b=z c
    ·simp_all
    ·rw[if_neg h]
   rw[<-e2,<-e];exact q
  refine aE (m8 (wU (Q:=λ_ st=>(arrOf st).Perm (kt.toArray.zip 'd'.toArray)/\failedOf st=none/\dU (λx=>ky (bs.map λb=>((z b,0):aF)) (Uc x.1,0)) (arrOf st) bs.length) ask ⟨.refl _,rfl,rfl,rfl⟩ (by rw[bz];lia) (bz▸h64) λst p f up=>⟨p,f,by rw[bz]at up;exact up⟩) ?_ λ_ _ z=>z);rintro⟨⟨⟩,st⟩ s' ⟨rfl,p,f,up⟩;have p':=Array.perm_iff_toList_perm.mp p;rw[sl]at p';have all:∀x∈(arrOf st).toList,∃b t,b∈bs/\x=(Value.str (z b) t,Value.ref b):=λx hx=>jK hz (p'.mem_iff.mp hx);have e2:(arrOf st).toList.map (·.2)=((arrOf st).toList.map λx=>adr x.2).map Value.ref:=by
   rw[cC];refine Cg λx hx=>?_;obtain⟨b,t,_,rfl⟩:=all x hx;rfl
  have pb:((arrOf st).toList.map λx=>adr x.2).Perm bs:=by
   have:=p'.map λx:Keyed=>adr x.2;have e3:(keyed kt bs).map (λx:Keyed=>adr x.2)=bs:=by
    unfold keyed;have:(λx:Keyed=>adr x.2)=adr ∘ (·.2):=rfl;rw[this,<-cC,List.map_snd_zip (by rw[aD,kl];exact bS _),cC];exact(Cg λ_ _=>rfl).trans (List.map_id _)
   rwa [e3]at this
  refine epi st _ f e2 pb ?_;rw[D6];intro i j hi hj lt;rw[aD,aD]at hi hj;have at_:∀m hm,rk (λx=>ky (bs.map λb=>((z b,0):aF)) (Uc x.1,0)) (arrOf st) m=ky (bs.map λb=>((z b,0):aF)) (z (adr ((arrOf st).toList[m]).2),0):=λm hm=>by
   unfold rk;rw[<-Wl,h9 hm];obtain⟨b,t,_,e⟩:=all _ (wR hm);rw[e];rfl
  have len:(arrOf st).toList.length=bs.length:=by rw[<-pb.length_eq,aD]
  have h:=up i j (LK lt) (by lia);rw[at_ i hi,at_ j hj]at h;simp only[List.getElem_map];unfold kF;rw[<-jh]
  ·exact decide_eq_false (Nat.not_lt.mpr h)
  ·obtain⟨b,t,hb,e⟩:=all _ (wR hj);rw[e];exact aQ.mpr ⟨b,hb,rfl⟩
theorem BX{a f:Addr}{bs:List Addr}{z:Addr->Str}{n:Nat}{Q:Fin->Shared->Prop}(I:Inv X pins σ H s)(fa:fi X pins H a)(ha:s.heap.get? a=some (seqObj "list" 'd'.toArray n))(h64:bs.length<64)
  (key:∀s',Inv X pins σ H s'->∀b∈bs,wpAny 'b' A (call (.ref f) [.ref b]) (λu s''=>∃t,u=.str (z b) t/\Inv X pins σ H s''/\∀d o,fi X pins H d->s'.heap.get? d=some o->s''.heap.get? d=some o) (λ_ _=>False) s')
  (k:∀(s':Shared) (bs':List Addr) (e':Nat),Inv X pins σ H s'->bs'.Perm bs->(bs'.map λb=>((z b,0):aF)).Pairwise kF->s'.heap.get? a=some (seqObj "list" (bs'.map Value.ref).toArray e')->Q (.done (.ret .none)) s'):
  wpAny 'b' A (ksk_tree a (.ref f) false) Q E s:=by
 refine aE (listItems_at ha rfl (aE (listUpdate_at ha rfl ?_ (hsz2:=by simp))));have k1:∀b o,b≠a->s.heap.get? b=some o->(s.heap.update a (Obj.mapSeq λ_=>#[])).get? b=some o:=λb o nb g=>by rw[Nk _ _ _ _ nb];exact g
 have I1:=I.turned (t':=s.toks) k1 fa.1 fa.2.1 fa.2.2.2.1 fa.2.2.2.2.1 fa.2.2.2.2.2;have e1:=get?_update_seq ha λ_=>#[];generalize (if (#[]:Array Value).size == 'd'.toArray.size then n else n+1)=n1 at e1;generalize s.heap.update a (Obj.mapSeq λ_=>#[])=h1 at k1 I1 e1;refine aE (seqEpoch_at e1 rfl (aE (wpAny_newTuple (aE (wpAny_newList (mI ?_) (d_ _))) ?_)))
 ·have I2:=I1.kept (h':=h1.push { cls:=Value.type "tuple", data:=Data.seq 'd'.toArray.toList.toArray }) (t':=s.toks) λb o g=>cS _ g;have e2:(h1.push { cls:=Value.type "tuple", data:=Data.seq 'd'.toArray.toList.toArray }).get? a=some (seqObj "list" #[] n1):=cS _ e1;generalize h1.push { cls:=Value.type "tuple", data:=Data.seq 'd'.toArray.toList.toArray }=h2 at I2 e2;have fk:=I2.xG (bS _) (I2.a6.fresh (bS _));have nak:=d0 (cR e2);have I3:=I2.kept (h':=h2.push { cls:=Value.type "list", data:=Data.seq ([]:List Value).toArray }) (t':=s.toks) λb o g=>cS _ g;have e3:(h2.push { cls:=Value.type "list", data:=Data.seq ([]:List Value).toArray }).get? a=some (seqObj "list" #[] n1):=cS _ e2;have k3:(h2.push { cls:=Value.type "list", data:=Data.seq ([]:List Value).toArray }).get? h2.objs.size=some (seqObj "list" ([]:List Value).toArray 0):=hV _ rfl;generalize h2.objs.size=kS at fk nak k3 ⊢;refine aE (CW (aE ?_));rw[List.forIn_toArray];refine ksk_fold (λi s'=>∃(kt:List Value) (e:Nat),Inv X pins σ H s'/\s'.heap.get? a=some (seqObj "list" #[] n1)/\s'.heap.get? kS=some (seqObj "list" kt.toArray e)/\StrsAre kt ((bs.take i).map z)) 'd' 0 _ ⟨[],0,I3,e3,k3,.nil⟩ (λj v s' hv hI=>?_) λs' hI=>?_
  ·rw[Nat.zero_add]at hI ⊢;obtain⟨kt,e,J,ja,jk,jz⟩:=hI;rw[gU]at hv;obtain⟨b,hb,rfl⟩:=eZ.mp hv;have jl:=mG jz;rw[aD,jM]at jl;refine aE (RD (m8 (key s' J b (dI hb)) (λu s'' hu=>?_) λ_ _ h=>h.elim));obtain⟨t,rfl,J2,kp⟩:=hu;have ja2:=kp a _ fa ja;have jk2:=kp kS _ fk jk;have up:=get?_update_seq jk2 λx=>x.push (.str (z b) t);rw[List.push_toArray]at up;refine aE (listUpdate_at jk2 rfl (bh ⟨rfl,kt++[.str (z b) t],_,J2.turned (λd o nd g=>by rw[Nk _ _ _ _ nd];exact g) fk.1 fk.2.1 fk.2.2.2.1 fk.2.2.2.2.1 fk.2.2.2.2.2,by rw[Nk _ _ _ _ nak];exact ja2,up,?_⟩) ?_ ?_)
   ·rw[ix,hb,bu];exact nO jz
   ·rw[iC,sizeLine_eq];lia
   ·rw[Array.size_push,iC,sizeLine_eq];lia
  ·rw[Nat.zero_add,aD,kD]at hI;obtain⟨kt,e,J,ja,jk,jz⟩:=hI;exact aE (listItems_at jk rfl (Im J fa fk nak ja jk jz h64 k))
 ·rw[List.toList_toArray,aD,sizeLine_eq];lia
theorem Inv.Tq(I:Inv X pins σ H s)(fa:fi X pins H a)(new:∀H'',cg X.prog X.w H'' s.heap a o):Inv X pins σ (upd H a o) s:=by
 have n0:=fa.1;have yx:∀b u,H b=some u->upd H a o b=some u:=λb u e=>(ae (bA e n0))▸e;refine I.step (ch:=[a]) (λb hb=>?_) (λb o _ _ _ e _=>e) (λb o _ _ _ e _=>⟨o.slots,e⟩) (λb u hb _ n=>?_) (λb u _ e=>⟨u,e⟩) (λb xs e=>yx b _ e) (λb u v e=>yx b _ e) (λb ps e=>⟨#[],by rw[yx b _ e];simp⟩) (λm hm=>hm) (λb u e=>?_) I.bare
 ·exact(cx.mp hb)▸⟨fa.2.2.2.1,fa.2.1,fa.2.2.2.2.1,fa.2.2.2.2.2⟩
 ·rw[ae (λz=>hb (by rw[z];exact List.mem_singleton_self _))];exact n
 ·by_cases z:b=a
  ·rw[z,aJ]at e;cases e;rw[z];exact new _
  ·rw[ae z]at e;exact(I.a6 b u e).jU (λ_ _ _ q=>q) (λd q=>yx d _ q) λd xs q=>yx d _ q
theorem w_{p f c:Addr}{bs:List Addr}{z:Addr->Str}{x q:Str}{pr:Arguments}{bd:Expr}{sc:Scope}{pm ct:Value}{y:Str}{rs:Addr->List V}{Q:VK}(I:Inv X pins σ H s)(hr:cQ 4 X.A)(hp:aH X.K H p (bs.map V.ref))(hd:∀b∈bs,H b=some (.tup (.str (z b)::rs b)))(h64:bs.length<64)
  (hf:H f=some (Mi f (kla_obj x q pr bd sc [] pm c ct))) (hc:H c=some (Mf c q)) (S:ar [y] [y] sc) (hb:∀(s:Shared) (u:Value),BindsTo s (kla_fn x q pr bd sc [] pm (.ref c) ct) ⟨[u],[]⟩ [(y,u)])
  (ht:∀A outer s H,PE (lq cF X.prog X.w X.K X.mg X.base [y] q sc f (.ref c) A outer s H E0) bd (BL (tD X.K) (tH 0) (tC (.int 0))))
  (k:∀(l:Addr) (bs':List Addr),H l=none->bs'.Perm bs->(bs'.map λb=>((z b,0):aF)).Pairwise kF->Q (.ref l) (upd H l (.lst (bs'.map V.ref)))):
  wpAny 'b' X.A (call 'Q' [.ref p] [(s!"key", .ref f)]) 'T' X.xe s:=by
 obtain⟨its,r',pl,_⟩:=I.list hp;have e:=sY r';subst e;have fit:'d'.length<=sizeLine:=by rw[aD,sizeLine_eq];lia
 refine call_function_entry_kw kind_sorted plain_sorted entry_sorted (ksk_s1 _ _) (aE (bh (aE (collect_list pl.isList (aE (wpAny_newList ?_ fit)) fit))));dsimp only;have k1:∀b o,s.heap.get? b=some o->((s.heap.push (seqObj "list" #[] 0)).update s.heap.objs.size (Obj.mapSeq (·++'d'.toArray))).get? b=some o:=λb o g=>by
  rw[Nk _ _ _ _ (d0 (cR g))];exact cS _ g
 have I1:=I.kept (t':=s.toks) k1;generalize (s.heap.push (seqObj "list" #[] 0)).update s.heap.objs.size (Obj.mapSeq (·++'d'.toArray))=h1 at k1 I1;have I2:=I1.kept (t':=s.toks) (h':=h1.push { cls:=.type "list", data:=.seq 'd'.toArray }) λb o g=>cS _ g;have new:(h1.push { cls:=.type "list", data:=.seq 'd'.toArray }).get? h1.objs.size=some (seqObj "list" 'd'.toArray 0):=hV _ rfl;have fa:fi X pins H h1.objs.size:=I1.xG (bS _) (I1.a6.fresh (bS _));refine aE (mI (wpAny_call_entry_kw slot_list_sort ⟨_,new,rfl⟩ entry_list_sort (BX (z:=z) I2 fa new h64 (λs' J b hb'=>?_) λs' bs' e' J pb pw g=>?_) (ksk_l1 _ _)))
 ·refine wpAny_call (codeAny_mono (Lh (vs:=[.ref b]) (Q:=λv H'=>v=.str (z b)/\H'=H) (J.a6 f _ hf).1 (J.a6 c _ hc).1 S (hr.in1.in1.mono (by decide)) J.Pe.in1.in1 (hb s' _) rfl (.cons rfl .nil) (ht _ _ _ _) ?_) λr s'' hq=>?_)
  ·exact⟨b,_,0,_,rfl,rfl,bg.of (hd b hb'),cw rfl,rfl,rfl⟩
  ·cases r with
   |error e=>exact hq.elim
   |ok fl=>
    cases fl with
    |next=>exact False.elim hq
    |brk=>exact False.elim hq
    |cont=>exact False.elim hq
    |ret u=>
     obtain⟨v,H',os,bare,un,a6,rv,hv,hH⟩:=hq;subst hv hH;obtain⟨t,rfl⟩:=rv;exact⟨t,rfl,J.AJ os un a6 bare (λb z=>absurd z (by simp)),λd o fd g=>un.keep d o g fd.1 (λz=>((List.mem_cons.mp (J.rB d z)).elim fd.2.1 fd.2.2.1)) (by simp)⟩
 ·exact⟨_,rfl,bh ⟨_,rfl,.ref h1.objs.size,upd H h1.objs.size (.lst (bs'.map V.ref)),J.Tq fa λH''=>⟨by rw[aD,pb.length_eq,sizeLine_eq];lia,bs'.map Value.ref,e',j8,g⟩,rfl,k _ bs' fa.1 pb pw⟩⟩
def Ot(K:Wf)(P:Addr)(lp:Pos)(q:Str)(te:TE):TE:=λσ H Q=>te σ H λx H1=>∃(p:Addr) (bs:List Addr) (z:Addr->Str) (rs:Addr->List V),x=.ref p/\aH K H1 p (bs.map V.ref)/\(∀b∈bs,H1 b=some (.tup (.str (z b)::rs b)))/\bs.length<64/\bU P lp q H1/\
 ∀(l:Addr) (bs':List Addr) (H2:Hp),H1 l=none->bs'.Perm bs->(bs'.map λb=>((z b,0):aF)).Pairwise kF->eM P H1 H2->bU P lp q H2->H2 l=some (.lst (bs'.map V.ref))->Q (.ref l) H2
theorem xO{K:Wf}{P c:Addr}{e:Expr}{te:TE}{p kp lp pos:Pos}{pr:Arguments}{bd:Expr}{sc:Scope}{y q:Str}(eK:X.K=K)(hr:cQ 4 X.A)(he:PE X e te)(hg:Gl X "sorted")(hm:X.mg "sorted" = none)(hcd:X.env.code=.ref c)(hc:codeHdIn K c P=true)(bm:BMod K X.mg)(S:ar [y] [y] sc)
  (ht:∀(f c:Addr) A outer s H,PE (lq cF X.prog X.w X.K X.mg X.base [y] q sc f (.ref c) A outer s H E0) bd (BL (tD X.K) (tH 0) (tC (.int 0))))
  (hb:∀(pm cd ct u:Value),bindArgs (kla_fn s!"<lambda>" q pr bd sc [] pm cd ct) ⟨[u],[]⟩=pure [(y,u)]:=by intros;rfl)
  (hcl:closureFor sc X.env=pure []:=by rfl) (hq:X.env.qual++s!"<lambda>" = q:=by rfl) (hdf:defaultsOf pr X.env=([],[]):=by rfl) (s1:starEach [e] X.env=[(false,eval e X.env)]:=by rfl):
  PE X (.Call (.Name "sorted" p) [e] [⟨some "key", .Lambda pr bd sc lp,kp⟩] pos) (Ot K P lp q te):=by
 subst eK;intro pins s σ H Q I h;refine Qm (gc I hg hm (show bootBuiltins "sorted" = some 'Q' by kernel_rfl) (PyProof.Rows.callWith_kw ?_ (by rw[s1];rfl) (by rw[s1];rfl)));rw[s1];refine Calls.spliced_cons (bG (he pins s σ H _ I h) λu s2 hh=>?_);obtain⟨x,H1,I1,r1,p',bs,z,rs,ex,hp,hd,h64,tb,k⟩:=hh;refine Calls.spliced_nil (kws_cons (PySem.W.kla_eval hdf ?_));subst ex;cases r1;rw[hq];refine EL I1 hcl hcd hc bm tb λf c' ctv pm H' s' J sx tb' f0 fP hf hc'=>kws_nil ?_;have pt:∀b o,(∀ps,o≠.iO ps)->H1 b=some o->H' b=some o:=λb o ne e=>sx b o (λzz=>by
  obtain⟨ps,hP,_⟩:=tb;rw[zz,hP]at e;exact ne ps (Option.some.inj e).symm) e
 have hp':aH X.K H' p' (bs.map V.ref):=by
  rcases hp with hp|hp
  ·rcases hp with hp|⟨o,hp⟩
   ·exact .inl (.inl (pt _ _ (λps z=>by cases z) hp))
   ·exact .inl (.inr ⟨o,pt _ _ (λps z=>by cases z) hp⟩)
  ·exact .inr hp
 refine w_ J hr hp' (λb hb=>pt _ _ (λps z=>by cases z) (hd b hb)) h64 hf hc' S (λs u=>.of_eq (hb _ _ _ _)) (λA outer s H=>ht f c' A outer s H) λl bs' l0 pb pw=>?_;have st:∀b o,H' b=some o->upd H' l (.lst (bs'.map V.ref)) b=some o:=λb o e=>(ae (bA e l0))▸e;have l1:H1 l=none:=by
  cases e:H1 l with
  |none=>rfl
  |some o=>
   obtain⟨ps,hP,_⟩:=tb';have:=sx l o (λzz=>by rw[zz,hP]at l0;cases l0) e;rw[l0]at this;cases this
 exact k l bs' _ l1 pb pw (λb o n e=>st b o (sx b o n e)) (tb'.more st) aJ
end
section
variable{P:Program}{w:World}{K:Wf}{mg:So}{base:Heap}
def YG(K:Wf)(fd:FuncData)(T:Addr):Prop:=∃c,fd.code=.ref c/\codeHdIn K c T=true
theorem Ng.ZJ{x qual:Str}{st:Stmt}{f T:Addr}{fd:FuncData}{N ps:List Str}{k:Nat}{sp:Sp}(F:Ng K x qual st f fd)(L:YG K fd T)(S:ar N ps (aj st))(len:∀vs H Q E,sp vs H Q E->vs.length=ps.length)
  (hbody:∀(c:Addr) (cdv:Value) (A:Around) (outer:List Env) (s:Shared) (H:Hp) (vs:List V) (Q:VK) (E:XK),cdv=.ref c->codeHdIn K c T=true->cQ k (A.deeper (envOfC qual (aj st) s.heap.objs.size f cdv))->sp vs H Q E->
   ∃t,yi (lq cF P w K mg base N qual (aj st) f cdv A outer s H E).RE (de st) t/\t { nx:=λ_ H'=>Q .bB H',rt:=Q } (start N vs) H):aY P w K mg base cF (k+1) f fd ps sp:=by
 obtain⟨oc,od,kV,doc,pm,an,cdv,ct,osl,rfl,lk,hcd⟩:=F.ex;obtain⟨c,e1,e2⟩:=L;refine Nf lk hcd S len λA outer s H vs Q E hr hsp=>?_;obtain⟨t,h,q⟩:=hbody c cdv A outer s H vs Q E e1 e2 hr hsp;exact⟨t,h.RE,q⟩
end
def tO(Ts:List Addr)(H:Hp):Prop:=∀T∈Ts,H T=some (.iO #[])
theorem B_{P:Program}{w:World}{K:Wf}{mg mb:So}{CX:CY}{k:Nat}{fa a:Addr}{fd:FuncData}{x:Str}{sp:Sp}{s₁:Shared}{vs:List Value}{ns:List Int}{Ts:List Addr}
  (KX:K.In s₁.heap) (hns:s₁.heap.Ns mainGlobals mg) (hb:s₁.heap.Ns builtinsNs mb) (hbb:∀x:Str,x ≠ "__name__" -> mb x=bootBuiltins x) (hlim:s₁.heap.NoLimit) (hg:s₁.gens=#[])
  (ha:s₁.heap.get? a=some { cls:=.type "list", data:=.seq vs.toArray }) (hi:IntsAre vs ns) (hl:ns.length<=sizeLine) (hr:cQ k callerA)
  (hT:∀T∈Ts,s₁.heap.get? T=some (tabObj #[])/\isCodeTable s₁.heap T/\K.lookup T=none)
  (F:∀base:Heap,K.In base->base.Ns mainGlobals mg->aY P w K mg base CX k fa fd [x] sp) (hbind:∀(s:Shared) (u:Value),BindsTo s fd ⟨[u],[]⟩ [(x,u)])
  (hsp:∀H:Hp,tO Ts H->aH K H a 'u'->sp [.ref a] H (λv _=>v=.bl true) λ_ _ _=>False)
  (hCX:∀H e s',CX [] H s₁ (λ_ _ _=>False) e s'->False):
  codeAny (model P w) callerA (.call (.ref fa) ⟨[.ref a],[]⟩) (λr s'=>r=.ok (.ret (.bool true))/\OldK s₁.heap s'.heap/\s'.os=s₁.os/\AllBare s'.gens) s₁:=by
 have rv:=oq hi;have lenV:=hi.length;have aT:a∉Ts:=λz=>by
  have:=(hT a z).1;rw[ha]at this;cases this
 have core:∀H:Hp,aH K H a 'u'->(∀b,H b=none\/(b=a/\K.lookup a=none/\H b=some (.iw { cls:=.type "list", data:=.seq vs.toArray } (.lst 'u')))\/(b∈Ts/\H b=some (.iO #[])))->tO Ts H->
   codeAny (model P w) callerA (.call (.ref fa) ⟨[.ref a],[]⟩) (λr s'=>r=.ok (.ret (.bool true))/\OldK s₁.heap s'.heap/\s'.os=s₁.os/\AllBare s'.gens) s₁:=by
  intro H hS hO hE;have a6:gT P w H s₁.heap:=λb u z=>by
   rcases hO b with y|⟨rfl,_,y⟩|⟨y1,y⟩
   ·rw[y]at z;cases z
   ·rw[y]at z;cases z;exact⟨ha,by rw[aD];exact hl,vs,_,rv,ha⟩
   ·rw[y]at z;cases z;exact(hT b y1).1
  have base_of:∀{b:Addr}{o:Obj},s₁.heap.get? b=some o->H b=none->(xj s₁.heap H).get? b=some o:=λe n=>Eg e n;have noA:∀{b:Addr}{o:Obj}{es:Array DictEntry}{ep:Nat},s₁.heap.get? b=some o->o.data=.dict es ep->H b=none:=λ{b o es ep} e d=>by
   rcases hO b with y|⟨rfl,_,y⟩|⟨y1,y⟩
   ·exact y
   ·grind
   ·rw[(hT b y1).1]at e;cases e;have d':=d;cases d'
  have nsK:∀{b:Addr}{m:So},s₁.heap.Ns b m->(xj s₁.heap H).Ns b m:=λ{b m} ⟨o,es,ep,e,d,r⟩=>⟨o,es,ep,base_of e (noA e d),d,r⟩;have hKb:=λb o e=>base_of (KX b o e) (by
   rcases hO b with y|⟨rfl,y1,y⟩|⟨y1,y⟩
   ·exact y
   ·rw[y1]at e;cases e
   ·rw[(hT b y1).2.2]at e;cases e)
  have hM:Mod K mg (xj s₁.heap H):=⟨hKb,nsK hns,⟨mb,nsK hb,hbb⟩,let ⟨mc,h1,h2⟩:=hlim;⟨mc,nsK h1,h2⟩⟩
  have e0:k7 P w K mg (xj s₁.heap H) callerA [] s₁ H:=⟨rfl,hM,λb o e=>Kz e,Nat.le_of_eq (Cy _ _),trivial,λb hb=>absurd (show b∈([]:List Addr) from hb) (by simp),a6,.of_eq hg⟩
  refine codeAny_mono ((F _ hKb (nsK hns)).run callerA [] s₁ H ⟨[.ref a],[]⟩ [.ref a] [.ref a] _ _ hr e0 (hbind s₁ (.ref a)) (.cons rfl .nil) (hsp H hE hS)) λr s' h=>?_;cases r with
  |error e=>exact(hCX H e s' h).elim
  |ok fl=>
   cases fl with
   |next=>exact False.elim h
   |brk=>exact False.elim h
   |cont=>exact False.elim h
   |ret u=>
    obtain⟨v,H',os,bare,un,hok',r',q⟩:=h;have q':=q;subst q';obtain rfl:u=Value.bool true:=r';have nf:∀b:Addr,b∉Bc []:=λb z=>absurd (show b∈([]:List Addr) from z) (by simp);refine⟨rfl,⟨λb o e=>?_,λb o e=>un.there b o e (by simp)⟩,os,bare⟩;rcases hO b with y|⟨_,_,y⟩|⟨y1,y⟩
    ·exact .inl (un.keep b o e y (nf b) (by simp))
    ·obtain⟨e1,_⟩:=a6 b _ y;obtain⟨e2,_⟩:=hok' b _ (un.mX b _ _ y);rw[e]at e1;cases e1;exact .inl e2
    ·obtain⟨more,z⟩:=un.mQ b _ y;have e2:=hok' b _ z;obtain⟨t1,t2,_⟩:=hT b y1;rw[e]at t1;cases t1;exact .inr (.inl ⟨t2,rfl,#[],more,rfl,e2⟩)
 cases hk:K.lookup a with
 |some o=>
  have e:=KX a o hk;rw[ha]at e;cases e;refine core (λb=>if b∈Ts then some (.iO #[]) else none) (.inr ⟨_,vs.toArray,_,hk,rfl,rfl,rfl,iC▸lenV▸hl,by simpa using rv⟩) (λb=>?_) λT hT'=>if_pos hT';by_cases z:b∈Ts
  ·exact .inr (.inr ⟨z,if_pos z⟩)
  ·exact .inl (if_neg z)
 |none=>
  refine core (λb=>if b∈Ts then some (.iO #[]) else if b=a then some (.iw { cls:=.type "list", data:=.seq vs.toArray } (.lst 'u')) else none) (.inl (.inr ⟨{ cls:=.type "list", data:=.seq vs.toArray },(if_neg aT).trans (if_pos rfl)⟩)) (λb=>?_) λT hT'=>if_pos hT';by_cases z:b∈Ts
  ·exact .inr (.inr ⟨z,if_pos z⟩)
  ·by_cases y:b=a
   ·exact .inr (.inl ⟨y,hk,(if_neg z).trans (if_pos y)⟩)
   ·exact .inl ((if_neg z).trans (if_neg y))
def FOT(K:Wf)(f T:Addr)(st:Stmt)(x q:Str):Prop:=∃(oc:Value) (od an:Option Addr) (sl:Array (Option Value)) (kV dc pm ct:Value) (c:Addr),K.lookup f=some ⟨oc,od,.func (fnOf x q (d3 st) (de st) (aj st) .none kV dc pm an (.ref c) ct),sl⟩/\codeIn K (.ref c) q=true/\keepIn K (.ref f)=true/\codeHdIn K c T=true
def Ju(K:Wf)(h:Heap)(T:Addr):Prop:=h.get? T=some (tabObj #[])/\(∃c,codeHdIn K c T=true)/\K.lookup T=none
theorem EG{q:Program}{loose:List Str}{mean:ExcName->Option Value}{mg mb:So}{h:Heap}{K:Wf}{f T:Addr}{st:Stmt}{x y:Str}(KX:K.In h)(TP:Top q loose mean mg mb h)(hrec:((recsOf q).any λd=>d.name == x)=true)(a:PySem.W.nsIn K mainGlobals x=some (some (.ref f)))(l:FOT K f T st x y)(n:K.lookup T=none):Ju K h T:=by
 obtain⟨oc,od,an,sl,kV,dc,pm,ct,c,lk,_,_,hc⟩:=l;obtain⟨d,hd,en⟩:=nj.mp hrec;have en:=by simpa using en
 obtain⟨a',o,fd,c',P,e1,e2,e3,e4,_,e6⟩:=TP.tab d hd;have ef:=PySem.W.mg_of KX TP.g a;rw[en,ef]at e1;cases e1;rw[KX _ _ lk]at e2;cases e2;cases e3;have ec:=Value.ref.inj e4;subst ec;obtain⟨⟨o2,vs2,g1,g2,g3,g4⟩,g5⟩:=e6;obtain⟨o3,vs3,_,_,_,_,_,_,_,k1,k2,k3,k4,_⟩:=codeHd_of_K KX hc;rw[k1]at g1;cases g1;rw[k3]at g3;cases g3;rw[k4]at g4;cases g4;exact⟨g5,⟨c,hc⟩,n⟩
theorem Dd{l:PySem.W.OpenLaw}{n k:Nat}{q:Program}{loose:List Str}{XP:(Str->Option Value)->Heap->Prop}{YP:World->Heap->Prop}{d:DefRec}{K:Params->Wf}{CX:World->CY}{sp:World->Sp}{x:Str}{Ts:List Addr}
  (hn:l.most=some n) (hn2:n<=sizeLine) (hdf:d.params.defaults=[]) (hr:cQ k callerA)
  (hY:∀(w:World) (h:Heap),YP w h->'*'.In h)
  (hT:∀(w:World) (h:Heap) (lo:List Str) (mean:ExcName->Option Value) (mg mb:So),'*'.In h->Top q lo mean mg mb h->∀T∈Ts,Ju '*' h T)
  (F:∀(w:World) (mg:So) (fa:Addr) (h:Heap),'*'.In h->h.Ns mainGlobals mg->mg d.name=some (.ref fa)->
   ∃fd:FuncData,(∀(s:Shared) (u:Value),BindsTo s fd ⟨[u],[]⟩ [(x,u)])/\
    ∀base:Heap,'*'.In base->base.Ns mainGlobals mg->aY l.prog w '*' mg base (CX w) k fa fd [x] (sp w))
  (hsp:∀(w:World) (H:Hp) (a:Addr) (ns:List Int),ns.length<=n->tO Ts H->aH '*' H a 'u'->sp w [.ref a] H (λv _=>v=.bl true) λ_ _ _=>False)
  (hCX:∀(w:World) (H:Hp) (s:Shared) (e:Value) (s':Shared),CX w [] H s (λ_ _ _=>False) e s'->False):
  PySem.W.WalkO q loose XP YP l.row.toRowW d [] (λf vs=>PySem.call f vs):=by
 refine Att.attach_call hn hdf λw s₀ s₁ mg mb fa o pm cd doc a vs ns G Y ho hd hcd hmg hobj hints hlen hg=>?_;have KX:=hY w _ Y;obtain⟨fd,hb,hF⟩:=F w mg fa _ KX G.T.g hmg;refine B_ KX G.T.g G.T.b G.T.builtins G.T.nolimit hg hobj hints (ia hlen hn2) hr (λT hT'=>?_) hF hb (λH hO hS=>hsp w H a ns hlen hO hS) λH e s'=>hCX w H s₁ e s';obtain⟨t1,⟨c,t2⟩,t3⟩:=hT w _ _ _ mg mb KX G.T T hT';obtain⟨o',vs',_,_,_,_,_,_,_,e1,e2,e3,e4,_⟩:=codeHd_of_K KX t2;exact⟨t1,⟨c,o',vs',e1,e2,e3,e4⟩,t3⟩
theorem eM.get{P:Addr}{ps:Array Value}{H H':Hp}(s:eM P H H')(hP:H P=some (.iO ps)){b:Addr}{o:HO}(e:H b=some o)(n:∀ps,o≠.iO ps):H' b=some o:=
 s b o (λz=>by rw[z,hP]at e;exact n ps (Option.some.inj e).symm) e
def Kh(P:Addr)(H:Hp):Hp:=λb=>if b=P then none else H b
theorem eN(hP:H P=some (.iO ps))(e:H b=some o)(n:∀ps,o≠.iO ps):Kh P H b=some o:=by
 unfold Kh;rw[if_neg (λz=>by rw[z,hP]at e;exact n ps (Option.some.inj e).symm)];exact e
theorem eM.same(s:eM P H H'):aI (Kh P H) H':=λb o e=>by
 unfold Kh at e;by_cases z:b=P
 ·rw[if_pos z]at e;cases e
 ·rw[if_neg z]at e;exact s b o z e
theorem eM.free(s:eM P H H'){b:Addr}(hb:b≠P)(h:H' b=none):H b=none:=by
 cases e:H b with
 |none=>rfl
 |some o=>rw[s b o hb e]at h;cases h
theorem aM.At.Kh{P:Addr}{ps:Array Value}{H:Hp}{s:aM}(hP:H P=some (.iO ps))(h:s.At H):s.At (Kh P H):=
 ⟨eN hP h.top (λ_ z=>by cases z),eN hP h.wd (λ_ z=>by cases z),eN hP h.fl (λ_ z=>by cases z),λf hf=>eN hP (h.fs f hf) (λ_ z=>by cases z)⟩
theorem ah.At.Kh{P:Addr}{ps:Array Value}{H:Hp}{p:ah}(hP:H P=some (.iO ps))(h:p.At H):p.At (Kh P H):=
 ⟨eN hP h.top (λ_ z=>by cases z),eN hP h.sl (λ_ z=>by cases z),eN hP h.nl (λ_ z=>by cases z),λs hs=>(h.ss s hs).Kh hP,λn hn=>eN hP (h.ns n hn) (λ_ z=>by cases z)⟩
theorem ah.At.keep{P:Addr}{ps:Array Value}{H H':Hp}{p:ah}(h:p.At H)(hP:H P=some (.iO ps))(s:eM P H H'):p.At H':=(h.Kh hP).mono s.same
def X3(K:Wf)(a:Addr)(xs:List V):It:=
 ⟨λi H=>aH K H a xs/\i<xs.length,λi H x H'=>H'=H/\xs.reverse[i]?=some x,λi H=>aH K H a xs/\xs.length<=i⟩
theorem EB{P:Program}{w:World}{K:Wf}{tg:Expr}(a it:Addr)(xs:List V):Turn P w K tg (X3 K a xs) [it] it (λi h=>i<=xs.length/\h.IsRevIter it a ((xs.length:Int) - 1 - i)) where
 mem:=by simp
 obj:=λi h st b hb=>by
  have e:=by simpa using hb
  subst e;obtain⟨_,o,e,c,d⟩:=st;exact⟨o,e,λv z=>by rw[d]at z;cases z⟩
 keep:=λi h h' st k=>⟨st.1,st.2.at λo e=>k it (by simp) o e⟩
 item:=by
  intro X hP hw hK hc i pins s σ H E I hf st hg;subst hP hw hK;obtain⟨hq,hi⟩:=hg;obtain⟨its,rv,p,hz⟩:=I.list hq;obtain⟨f0,f1,f2,f3,f4,f5⟩:=hf it (by simp);have hx:xs[xs.length - 1 - i]?=some xs[xs.length - 1 - i]:=h9 (by omega);generalize hxx:xs[xs.length - 1 - i]=x at hx;obtain⟨u,hu,ru⟩:=rv.get hx;have st2:s.heap.IsRevIter it a ((xs.length - 1 - i:Nat):Int):=by grind
  refine wpAny_pyNext_rev_item st2 p.isList (by simpa using hu) λh' st' sb=>?_;have I1:=I.turned (t':=s.toks) (λb o hb e=>(sb.2 b hb).trans e) f0 f1 f3 f4 f5;obtain⟨o,e,c,d⟩:=id st';refine⟨u,rfl,x_ e c d (by decide) ⟨x,H,I1,ru,⟨rfl,?_⟩,⟨by omega,?_⟩,λb hb=>(hf b hb).1⟩⟩
  ·rw[List.getElem?_reverse hi];exact hx
  ·grind
 done:=by
  intro X hP hw hK hc i pins s σ H E I hf st hg;subst hP hw hK;obtain⟨hq,hi⟩:=hg;obtain⟨f0,f1,f2,f3,f4,f5⟩:=hf it (by simp);have st2:s.heap.IsRevIter it a (-1):=by grind
  exact wpAny_pyNext_rev_end (I.ok.hd hc) st2 λh' eb=>⟨rfl,I.turned (t':=s.toks) (λb o hb e=>eb b o hb e) f0 f1 f3 f4 f5⟩
 self:=λ_ _ _ _ _ st h=>wpAny_pyIter_revIter st.2 h
section
variable{X:Cx}{tg:Expr}{K:Wf}
def Vt(K:Wf)(tl:TE):TI:=λσ H R=>tl σ H λx H1=>∃a xs,x=.ref a/\aH K H1 a xs/\R (X3 K a xs) H1
theorem Qy(eK:X.K=K)(hg:Gl X "reversed")(hm:X.mg "reversed" = none)(hl:PE X l tl)(hs:starEach [l] X.env=[(false,eval l X.env)]:=by rfl):PI X tg (.Call (.Name "reversed" p) [l] [] pos) (Vt K tl):=by
 subst eK;intro pins s σ H R I h;refine Qm (gc I hg hm (show bootBuiltins "reversed" = some (.type "reversed") by kernel_rfl) (PyProof.Rows.callWith_type1 ?_ (by rw[hs];rfl) rfl));rw[hs];show wpAny _ _ (spliced ((false,eval l X.env)::[])) _ _ s;refine Calls.spliced_cons (bG (hl pins s σ H _ I h) λu s1 ⟨x,H1,I1,r1,a,xs,ex,hq,q⟩=>Calls.spliced_nil ?_);subst ex;cases r1;obtain⟨its,r',pl,hz'⟩:=I1.list hq;refine call_reversed_list pl.isList ?_;have ln:=r'.length;have it0:(s1.heap.push (revObj a ((its.toArray.size:Int) - 1))).IsRevIter s1.heap.objs.size a ((xs.length:Int) - 1 - ((0:Nat):Int)):=⟨_,hV _ rfl,rfl,by
  rw[iC,<-ln,show((xs.length:Int) - 1 - ((0:Nat):Int))=(xs.length:Int) - 1 by lia];rfl⟩
 refine wpAny_pyIter_revIter it0 (⟨s1.heap.objs.size,[s1.heap.objs.size],_,_,H1,rfl,I1.kept λb o e=>cS _ e,EB a _ xs,⟨d_ _,it0⟩,λb hb=>?_,q⟩);have e:=by simpa using hb
 subst e;exact I1.xG (bS _) (I1.a6.fresh (bS _))
def Ml(K:Wf)(g:TG)(tb:TS)(D:Ends)(σ:St):VK:=λx H1=>∃a xs,x=.ref a/\aH K H1 a xs/\s_ g tb D σ (X3 K a xs) H1
section
variable{te:TE}{g:TG}{tb:TS}{D:Ends}{σ:St}{H:Hp}
theorem RO:lP (Vt K te) g tb D σ H=te σ H (Ml K g tb D σ):=rfl
theorem Ml.of{a:Addr}{xs:List V}(Pv:Nat->St->Hp->Prop)(h0:Pv 0 σ H)(hl:∀i σ H,i<=xs.length->Pv i σ H->aH K H a xs)
  (hs:∀i x σ H,xs.reverse[i]?=some x->Pv i σ H->g x σ H λσ2 H2=>tb { D with nx:=Pv (i+1),ct:=Pv (i+1),bk:=D.nx } σ2 H2) (hd:∀σ H,Pv xs.length σ H->D.nx σ H):Ml K g tb D σ (.ref a) H:=by
 refine⟨a,xs,rfl,hl 0 _ _ (d_ _) h0,λi m σ H=>m=xs.length - i/\i<=xs.length/\Pv i σ H,⟨xs.length,by simp,Nat.zero_le _,h0⟩,?_⟩;rintro i m σ H ⟨rfl,hi,p⟩;have q:=hl i σ H hi p;by_cases hlt:i<xs.length
 ·refine .inr ⟨⟨q,hlt⟩,Pv (i+1),λσ' H' p'=>⟨xs.length - (i+1),by lia,rfl,hlt,p'⟩,λx H' y=>?_⟩;obtain⟨rfl,hx⟩:=y;exact hs i x σ _ hx p
 ·have e:i=xs.length:=by lia
  subst e;exact .inl ⟨⟨q,bS _⟩,hd σ H p⟩
end
def Tg:V->List V->Hp->VK->Prop:=λx vs H Q=>∃d o ag more,x=.ref d/\vs=[.ref o]/\H d=some (.dK ag)/\H o=some (.dK more)/\d≠o/\ag.length+more.length<=100000/\Q .bB (upd H d (.dK (cn ag more)))
theorem y4:V9 X "dict.update" Tg:=by
 intro pins s σ H x vs v us Q I rx rv h;obtain⟨d,o,ag,more,rfl,rfl,hd,ho,ne,z,q⟩:=h;cases rx;obtain⟨u,rfl,ru⟩:=vals1 rv;cases ru;obtain⟨_,hS,ws,rel,dd⟩:=nU I.a6 hd;obtain⟨_,hS2,ws2,rel2,dd2⟩:=nU I.a6 ho;have l1:=Paired.length rel;have l2:=Paired.length rel2;have l3:=ie more ag;refine call_meetsIn PySem.F.slot_dict_update dd.typeIs PySem.F.entry_dict_update (PySem.F.args_dict_update_2 _ _) (meets_dict_update (aX X.prog X.w) d o ne hS2) ⟨ws,ws2,dd,dd2,by rw[sizeLine_eq];lia,λh' d1 d2 sb=>?_⟩;have he:∃q,h'.get? d=some q:=let ⟨q,_,_,hq,_⟩:=d1;⟨q,hq⟩
 exact⟨.bB,_,gY I (hd▸True.intro) sb he (oU (by rw[sizeLine_eq];omega) hS (KV.merge rel2 rel) d1),rfl,q⟩
def z8(g:TG)(tt:TT)(te:TE)(σ0:St)(Q:VK):VK:=λx H1=>∃a ag,x=.ref a/\H1 a=some (.dK ag)/\∀o,nk g tt te σ0 Q (VS a o ag) (upd H1 a (.iw o (.dK ag)))
section
variable{k:Nat}{fm:List Nat}{tl te:TE}{g:TG}{tt:TT}{σ σ0:St}{H H1:Hp}{Q:VK}
theorem Q7:kz k fm (EC tl) g tt te σ H Q=tl σ H (z8 g tt te (dX k fm σ) Q):=rfl
theorem z8.of{a:Addr}{ag:List (Key×V)}(hz:ag.length<sizeLine)(hx:H1 a=some (.dK ag))(Pv:Obj->Addr->Nat->List V->Hp->Prop)(h0:∀o D,H1 D=none->Pv o D 0 [] (upd (upd H1 a (.iw o (.dK ag))) D (.lst [])))
  (hl:∀o D i ys H',H1 D=none->i<=ag.length->Pv o D i ys H'->H' a=some (.iw o (.dK ag))/\H' D=some (.lst ys)/\ys.length<=i)
  (hs:∀o D i p ys H',H1 D=none->ag[i]?=some p->Pv o D i ys H'->g (kV p.1) σ0 H' λσ3 H4=>Ext σ0 σ3/\tt σ3 H4 λb H5=>if b=true then te σ3 H5 λy H6=>H6 D=some (.lst ys)/\Pv o D (i+1) (ys++[y]) (upd H6 D (.lst (ys++[y]))) else Pv o D (i+1) ys H5)
  (hd:∀o D ys H',H1 D=none->Pv o D ag.length ys H'->Q (.ref D) H'):z8 g tt te σ0 Q (.ref a) H1:=by
 refine⟨a,ag,rfl,hx,λo D hD0=>?_⟩;have nD:D≠a:=λe=>by rw[e,aJ]at hD0;cases hD0
 have hD:H1 D=none:=by rwa [ae nD]at hD0
 refine⟨λi m ys H=>m=ag.length - i/\i<=ag.length/\Pv o D i ys H,⟨ag.length,by simp,Nat.zero_le _,h0 o D hD⟩,?_⟩;rintro i m ys H2 ⟨rfl,hi,p⟩;obtain⟨l0,l1,l2⟩:=hl o D i ys H2 hD hi p;refine⟨l1,by lia,?_⟩;by_cases hlt:i<ag.length
 ·refine .inr ⟨⟨l0,ag[i],by simp⟩,Pv o D (i+1),λys' H' p'=>⟨_,by lia,rfl,hlt,p'⟩,λx H3 y=>?_⟩;obtain⟨rfl,u,hu,rfl⟩:=y;exact hs o D i u ys _ hD hu p
 ·have e:i=ag.length:=by lia
  subst e;exact .inl ⟨⟨l0,bS _⟩,hd o D ys H2 hD p⟩
end
end
end L2
namespace L2
open PySem
section
variable{prog:Program}{w:World}{A:Around}{E:Vs}{s:Shared}
theorem fQ{K:Type} [DecidableEq K]{knd:HeapKind prog w K}{h h':Heap}{S:Addr}{xs:List (K×Addr×Value)}(d:h.DictOfH knd S xs)(k:∀o,h.get? S=some o->h'.get? S=some o)(hk:∀x∈xs,knd.is h' x.1 x.2.1):h'.DictOfH knd S xs:=by
 obtain⟨o,es,ep,ho,h1,h2,h3,_,h5⟩:=d;exact⟨o,es,ep,k o ho,h1,h2,h3,hk,h5⟩
def kH{K:Type} [DecidableEq K](l:List (K×Addr×Value)):List (K×Addr×Value):=l.foldl (λxs t=>storedH xs t.1 t.2.1 t.2.2) []
theorem wI{K:Type} [DecidableEq K](xs:List (K×Addr×Value))(k:K)(a:Addr)(v:Value):(storedH xs k a v).length<=xs.length+1:=by
 unfold storedH;split
 ·rw[aD];lia
 ·rw[dv];simp
theorem xm{K:Type} [DecidableEq K]{xs:List (K×Addr×Value)}{k:K}{a:Addr}{v:Value}{x:K×Addr×Value}(h:x∈storedH xs k a v):(∃y∈xs,y.1=x.1/\y.2.1=x.2.1)\/(x.1=k/\x.2.1=a):=by
 unfold storedH at h;split at h
 ·obtain⟨y,hy,rfl⟩:=aQ.mp h;refine .inl ⟨y,hy,?_⟩;unfold putAt;split<;>exact⟨rfl,rfl⟩
 ·rcases bM.mp h with z|z
  ·exact .inl ⟨x,z,rfl,rfl⟩
  ·rw[cx.mp z];exact .inr ⟨rfl,rfl⟩
set_option maxHeartbeats 3200000 in
theorem YD{K:Type} [DecidableEq K]{knd:HeapKind prog w K}{R:Result->Shared->Prop}{I:Addr}{fp wr:List Addr}{G:Array GenState->Array GenState->Prop}{n:Nat}{P:Nat->Value->Prop}{St:Nat->Shared->Prop}(W:WalksS prog w A.in1 I fp wr G n P St)(S:Addr)(hSf:S∉fp)(hu:knd.room A.in1)
  (at_ kt:Nat->Addr) (vs:Nat->Value) (ks:Nat->K) (hval:∀i v,P i v->v=.ref (at_ i)) (hmv:∀{h h':Heap}{i:Nat},i<n->knd.is h (ks i) (kt i)->(∀o,h.get? (kt i)=some o->h'.get? (kt i)=some o)->knd.is h' (ks i) (kt i)) (hne:∀i,i<n->at_ i≠S/\at_ i∉wr/\kt i≠S/\kt i∉wr) (hb:n+1<sizeLine):
  ∀(k i:Nat) (s:Shared) (ag:List (K×Addr×Value)),n - i=k->i<=n->St i s->s.heap.DictOfH knd S ag->ag.length<=i->(∀x∈ag,∃j,j<n/\x.1=ks j/\x.2.1=kt j)->(∀j,j<n->dz s.heap (at_ j) (.ref (kt j)) (vs j)/\knd.is s.heap (ks j) (kt j))->ag=kH ((List.range i).map λj=>(ks j,kt j,vs j))->∀t:Tok,
   (∀s',Moved (S::wr) G s s'->s'.heap.DictOfH knd S (kH ((List.range n).map λj=>(ks j,kt j,vs j)))->R (.ok (.ret .none)) s')->
   codeAny 'c' A (.builtin "dict.update.loop" ⟨[.ref S,.ref I,.int i t,.none],[]⟩) R s:=by
 have hSw:S∉wr:=λh=>hSf (W.sub _ h);have sub:∀b∈wr,b∈S::wr:=λb hb=>jD _ hb;intro k
 induction k with
 |zero=>
  intro i s ag hk' hi st hS hl hx hp em t hR;obtain rfl:i=n:=by lia
  apply codeAny_builtin g7;rw[Around.under_plainId cZ _];show wpAny _ A.in1 (pyNext (.ref I) >>= _) _ _ s;refine aE (W.done s _ _ st λs' mv=>?_);show wpAny _ _ (Builtin.Dict.addKeywords S [] >>= λ_=>ret Value.none) _ _ _;refine aE (bh (bh ?_));refine hR s' (mv.mono sub) (em▸fQ hS (λo z=>mv.heap S o hSw z) λx hxx=>?_);obtain⟨j,hj,e1,e2⟩:=hx x hxx;rw[e1,e2];exact hmv hj (hp j hj).2 λo z=>mv.heap _ o (hne j hj).2.2.2 z
 |succ k ih=>
  intro i s ag hk' hi st hS hl hx hp em t hR;have lt:i<n:=by lia
  apply codeAny_builtin g7;rw[Around.under_plainId cZ _];show wpAny _ A.in1 (pyNext (.ref I) >>= _) _ _ s;refine aE (W.item i s _ _ lt st λv s' hP st' mv=>?_);obtain rfl:=hval i v hP;have hp':∀j,j<n->dz s'.heap (at_ j) (.ref (kt j)) (vs j)/\knd.is s'.heap (ks j) (kt j):=λj hj=>by
   obtain⟨⟨o,m,e,c,d⟩,ik⟩:=hp j hj;exact⟨⟨o,m,mv.heap _ o (hne j hj).2.1 e,c,d⟩,hmv hj ik λo z=>mv.heap _ o (hne j hj).2.2.2 z⟩
  have hS':s'.heap.DictOfH knd S ag:=fQ hS (λo z=>mv.heap S o hSw z) λx hxx=>by
   obtain⟨j,hj,e1,e2⟩:=hx x hxx;rw[e1,e2];exact(hp' j hj).2
  obtain⟨⟨o,m,ho,hc,hd⟩,hkey⟩:=hp' i lt;show wpAny _ A.in1 (holding [Value.ref (at_ i)] (Sem.tryCatch (Builtin.Dict.pairItems (Value.ref (at_ i))) _ >>= _) >>= _) _ _ s';apply aE;apply mI;apply aE;apply wpAny_tryCatch;unfold Builtin.Dict.pairItems;refine aE (Up ho ?_);rw[hc,if_pos (by decide)];refine aE (Rx ho hd (bh ?_));show wpAny _ A.in1 (holding [.ref (kt i),vs i] (dictSet S (.ref (kt i)) (vs i))) _ _ s';apply mI;refine wpAny_dictSet_heap (hsz:=by lia) hu hkey hS' λh' dd sb=>?_;rw[show rawInt ((i:Int)+1)=Value.int ((i+1:Nat):Int) 0 from rfl];refine bh ⟨plainId_quiet cZ _,ih (i+1) _ _ (by lia) lt (W.frame _ s' _ _ st' (Rj _ _) λb hb o e=>?_) dd (ia (wI ag (ks i) (kt i) (vs i)) (by lia)) (λx hxx=>?_) (λj hj=>?_) ?_ _ λs'' mv' dd'=>?_⟩
  ·rw[sb.2 b (λh:b=S=>hSf (by rw[<-h];exact hb))];exact e
  ·rcases xm hxx with ⟨y,hy,e1,e2⟩|⟨e1,e2⟩
   ·obtain⟨j,hj,f1,f2⟩:=hx y hy;exact⟨j,hj,e1.symm.trans f1,e2.symm.trans f2⟩
   ·exact⟨i,lt,e1,e2⟩
  ·obtain⟨⟨o,m,e,c,d⟩,ik⟩:=hp' j hj;exact⟨⟨o,m,(sb.2 _ (hne j hj).1).trans e,c,d⟩,hmv hj ik λo z=>(sb.2 _ (hne j hj).2.2.1).trans z⟩
  ·rw[em,List.range_succ,bu];unfold kH;rw[OD];rfl
  ·refine hR s'' (Moved.trans W.gtrans ((mv.mono sub).then_heap (Rj _ _) λb o hb e=>?_) mv') dd';rw[sb.2 b (λh:b=S=>hb (by rw[h];exact ko))];exact e
set_option maxHeartbeats 3200000 in
theorem yA{K:Type} [DecidableEq K]{knd:HeapKind prog w K}{s:Shared}{l:Addr}{items:Array Value}{at_ kt:Nat->Addr}{vs:Nat->Value}{ks:Nat->K}{Q:Vs}(hh:A.handled=none)(hu:∀A':Around,A'.units<=A.units+4->knd.room A')(hl:PlainL s.heap l items)
  (hi:∀(i:Nat) (v:Value),items[i]?=some v->v=.ref (at_ i)) (hp:∀j,j<items.size->dz s.heap (at_ j) (.ref (kt j)) (vs j)/\knd.is s.heap (ks j) (kt j)/\kt j<s.heap.objs.size) (hmv:∀{h h':Heap}{i:Nat},i<items.size->knd.is h (ks i) (kt i)->(∀o,h.get? (kt i)=some o->h'.get? (kt i)=some o)->knd.is h' (ks i) (kt i)) (hb:items.size+1<sizeLine)
  (h:∀(h':Heap) (tk:Nat),h'.DictOfH knd s.heap.objs.size (kH ((List.range items.size).map λj=>(ks j,kt j,vs j)))->(∀b o,s.heap.get? b=some o->h'.get? b=some o)->Q 'C' { s with heap:=h',toks:=tk }):
  wpAny 'c' A (call 'F' [.ref l]) Q E s:=by
 refine callType_codes (Q₁:=λobj s₁=>obj=.ref s.heap.objs.size/\s₁={ s with heap:=s.heap.push { cls:=.type "dict", data:=.dict #[] } }) F.kt_called_dict (F.kt_typeCall_dict_1 _) F.entry_dict_init (kt_code_dict_new _ ⟨rfl,rfl⟩) ?_;rintro obj s₁ ⟨rfl,rfl⟩;have new0:(s.heap.push { cls:=.type "dict", data:=.dict #[] }).DictOfH knd s.heap.objs.size []:=Heap.DictOfH.new s.heap;refine⟨new0.typeIs,F.args_dict_init_2 _ _,?_⟩;unfold Builtin.«dict.__init__»;apply aE;unfold Builtin.Dict.selfAndRest;apply wpAny_bind;apply wpAny_notOrdered_dict new0.typeIs;show wpAny _ _ (pure (s.heap.objs.size,[Value.ref l])) _ _ _;apply bh;show wpAny _ _ (Builtin.Dict.updateFrom "dict.__init__" s.heap.objs.size (.ref l) [] .none) _ _ _;unfold Builtin.Dict.updateFrom;have l1:PlainL (s.heap.push { cls:=.type "dict", data:=.dict #[] }) l items:=hl.keeps λb o e=>cS _ e;obtain⟨ol,nl,hol,hcl,_⟩:=id l1;refine aE (Up hol ?_);rw[hcl,if_pos (by decide)];refine aE (f_ l1 (by simp[hh]) λh2 tk2 kp=>?_);rw[if_pos (show(none:Option Value).isNone=true from rfl)];have l2:PlainL h2 l items:=l1.keeps kp;have n2:h2.DictOfH knd s.heap.objs.size []:=fQ new0 (λo e=>kp _ o e) λx hx=>nomatch hx
 refine aE (CW (aE (Ti l2.isList ?_)));have kp2:∀b o,s.heap.get? b=some o->h2.get? b=some o:=λb o e=>kp b o (cS _ e);have lS:s.heap.objs.size<h2.objs.size:=by
  obtain⟨o,_,_,ho,_⟩:=n2;exact cR ho
 have lt0:∀j,j<items.size->at_ j<s.heap.objs.size:=λj hj=>by
  obtain⟨⟨o,m,e,_⟩,_⟩:=hp j hj;exact cR e
 have hSf:s.heap.objs.size∉[h2.objs.size,l]:=by
  simp only[List.mem_cons,List.not_mem_nil,or_false,not_or];exact⟨d0 lS,Nat.ne_of_gt hl.lt⟩
 have off:∀b,b<s.heap.objs.size->b≠s.heap.objs.size/\b∉[h2.objs.size]:=λb lt=>⟨d0 lt,by simp only[List.mem_cons,List.not_mem_nil,or_false];exact Nat.ne_of_lt (Nat.lt_trans lt lS)⟩;refine bh ⟨plainId_quiet cZ _,?_⟩;refine YD (knd:=knd) ((Walks.list (by simp[hh]) _ l (Nat.ne_of_lt l2.lt) items).toS) s.heap.objs.size hSf (hu _ (by simp[Around.in1])) at_ kt vs ks hi hmv (λj hj=>⟨(off _ (lt0 j hj)).1,(off _ (lt0 j hj)).2,off _ (hp j hj).2.2⟩) hb (items.size - 0) 0 _ [] (by lia) (Nat.zero_le _) ⟨⟨_,Heap.get?_push_size _ rfl,rfl,rfl⟩,l2.isList.push _⟩ (fQ n2 (λo z=>Heap.get?_push_of_some _ z) λx hx=>nomatch hx) (Nat.zero_le _) (λx hx=>nomatch hx) (λj hj=>?_) rfl 0 λs' mv dd=>?_
 ·obtain⟨⟨o,m,e,c,d⟩,ik,_⟩:=hp j hj;exact⟨⟨o,m,cS _ (kp2 _ _ e),c,d⟩,hmv hj ik λo z=>cS _ (kp2 _ _ z)⟩
 ·obtain⟨h',g',d',tk',os'⟩:=s';obtain rfl:g'=s.gens:=mv.gens;obtain rfl:d'=s.drawn:=mv.drawn;obtain rfl:os'=s.os:=mv.os;refine⟨rfl,h h' tk' dd λb o e=>?_⟩;have lt:=cR e;refine mv.heap b o ?_ (cS _ (kp2 _ _ e));simp only[List.mem_cons,List.not_mem_nil,or_false,not_or];exact⟨d0 lt,d0 (Nat.lt_trans lt lS)⟩
end
section
open PySem.Spec PyProof.Rows
def ZP(a:Addr)(o:Obj)(ag:List 'i')(ks:List Addr):It:=
 ⟨λi H=>H a = some (.iw o (.dT ag)) /\ ∃ b, ks[i]? = some b,
  λi H v H'=>H'=H/\∃b,ks[i]?=some b/\v=.ref b,
  λi H=>H a=some (.iw o (.dT ag))/\ks.length<=i⟩
def Ef(H:Hp)(ag:List 'i')(ks:List Addr):Prop:=Paired (λ(p:List Key×V) (b:Addr)=>H b=some (.tup (p.1.map kV))) ag ks
variable{X:Cx}
def gL(ag more:List 'i'):List 'i':=more.foldl (λacc kv=>putK acc kv.1 kv.2) ag
def OS(K:Wf):List V->Hp->VK->Prop:=λxs H Q=>∃(p:Addr) (ps:List (Addr×Addr×List Key×V)),xs=[.ref p]/\aH K H p (ps.map λt=>V.ref t.1)/\(∀t∈ps,H t.1=some (.tup [.ref t.2.1,t.2.2.2])/\H t.2.1=some (.tup (t.2.2.1.map kV)))/\ps.length<4000/\∀d,H d=none->Q (.ref d) (upd H d (.dT (gL [] (ps.map (·.2.2)))))
theorem LL(k:(tupleKind (aX P w)).is h ks a)(e:∀o,h.get? a=some o->h'.get? a=some o):(tupleKind (aX P w)).is h' ks a:=by
 obtain⟨o,its,n,h1,r⟩:=k;exact⟨o,its,n,e o h1,r⟩
theorem KT.merge:∀{ps:List (Addr×Addr×List Key×V)}{vs:List Value}{ag:List 'i'}{xs:List (List Key×Addr×Value)},KT H ag xs->(∀t∈ps,H t.2.1=some (.tup (t.2.2.1.map kV)))->Paired (λ(t:Addr×Addr×List Key×V) (v:Value)=>RelV t.2.2.2 v) ps vs->
  KT H (gL ag (ps.map (·.2.2))) (((ps.zip vs).map λz=>(z.1.2.2.1,z.1.2.1,z.2)).foldl (λxs t=>storedH xs t.1 t.2.1 t.2.2) xs)
 |[],vs,ag,xs,r,_,q=>by cases q;exact r
 |t::ps,vs,ag,xs,r,hk,q=>by
  cases q with
  |@cons _ v _ vs q1 q2=>
   have:=KT.merge (ps:=ps) (vs:=vs) (ag:=putK ag t.2.2.1 t.2.2.2) (xs:=storedH xs t.2.2.1 t.2.1 v) (r.put t.2.2.1 (hk t (by simp)) q1) (λx hx=>hk x (by simp[hx])) q2;exact this
theorem mE:∀(l pre:List 'i'),(gL pre l).length<=pre.length+l.length
 |[],pre=>bS _
 |x::l,pre=>by
  have:=mE l (putK pre x.1 x.2);have h2:=cX pre x.1 x.2;simp only[gL,List.foldl_cons,List.length_cons]at this ⊢;lia
theorem mF(hc:X.calm=true)(hu:X.A.units+64<cLine):cL X 'F' (OS X.K):=by
 intro pins s σ H xs us Q I r h;obtain⟨p,ps,rfl,hq,hp,hz,q⟩:=h;obtain⟨u,rfl,rx⟩:=vals1 r;cases rx;obtain⟨its,r',pl,_⟩:=I.list hq;have hl:its.length=ps.length:=by rw[<-r'.length,aD]
 have tp:∀i (hi:i<ps.length),∃v,dz s.heap ps[i].1 (.ref ps[i].2.1) v/\RelV ps[i].2.2.2 v:=λi hi=>by
  obtain⟨ts,rt,it,_⟩:=I.tuple (bg.of (hp ps[i] (wR hi)).1);obtain⟨o,ho,hcl,n,hd⟩:=it;cases rt with
  |cons r1 t1=>
   cases t1 with
   |cons r2 t2=>
    cases t2;cases r1;exact⟨_,⟨o,n,ho,hcl,hd⟩,r2⟩
 obtain⟨f,hf⟩:∃f:Nat->Value,∀i (hi:i<ps.length),dz s.heap ps[i].1 (.ref ps[i].2.1) (f i)/\RelV ps[i].2.2.2 (f i):=
  ⟨λi=>if hi:i<ps.length then Classical.choose (tp i hi) else .none,λi hi=>by
   simp only[dif_pos hi];exact Classical.choose_spec (tp i hi)⟩
 have z0:∃z0:Addr×Addr×List Key×V,z0=(0,0,[],.bB):=⟨_,rfl⟩
 obtain⟨z0,_⟩:=z0;have gd:∀i (hi:i<ps.length),ps.getD i z0=ps[i]:=λi hi=>by rw[Ki,h9 hi];rfl
 have sz:its.toArray.size=ps.length:=by rw[iC,hl]
 refine yA (knd:=tupleKind (aX X.prog X.w)) (at_:=λi=>(ps.getD i z0).1) (kt:=λi=>(ps.getD i z0).2.1) (vs:=f) (ks:=λi=>(ps.getD i z0).2.2.1) (I.ok.hd hc) (λA' hA=>show A'.units<cLine by lia) pl (λi v hv=>?_) (λi hi=>?_) (λ{h h' i} hi k e=>LL k e) (by rw[sz,sizeLine_eq];lia) λh' tk dd kp=>?_
 ·rw[S8]at hv;have hi:i<ps.length:=by rw[<-hl];exact(gZ.mp hv).1
  obtain⟨u,hu,ru⟩:=r'.get (i:=i) (x:=.ref ps[i].1) (by rw[gU,h9 hi];rfl);rw[hv]at hu;cases hu;show v=Value.ref (ps.getD i z0).1;rw[gd i hi];exact ru
 ·rw[sz]at hi;show dz s.heap (ps.getD i z0).1 _ _/\_;rw[gd i hi];have hk:=(hp ps[i] (wR hi)).2;exact⟨(hf i hi).1,eT I.a6 hk,(I.a6 _ _ hk).lt⟩
 ·rw[sz]at dd;have ez:'<'.map (λj=>((ps.getD j z0).2.2.1,(ps.getD j z0).2.1,f j))=(ps.zip ('<'.map f)).map λz=>(z.1.2.2.1,z.1.2.1,z.2):=by
   refine List.ext_getElem (by simp) λi h1 h2=>?_;have hi:i<ps.length:=by simpa using h1
   simp[List.getD_eq_getElem?_getD,List.getElem?_eq_getElem hi]
  rw[ez]at dd;have rv:Paired (λ(t:Addr×Addr×List Key×V) (v:Value)=>RelV t.2.2.2 v) ps ('<'.map f):=by
   have e:ps='<'.map λj=>ps.getD j z0:=by
    have:=map_range ps z0 id;simpa using this
   have:=iJ (R:=λ(t:Addr×Addr×List Key×V) (v:Value)=>RelV t.2.2.2 v) (f:=λj=>ps.getD j z0) (g:=f) '<' λj hj=>by
    have hj:=qV.mp hj;show RelV (ps.getD j z0).2.2.2 _;rw[gd j hj];exact(hf j hj).2
   rw[<-e]at this;exact this
  have rm:=KT.merge (H:=H) (ag:=[]) (xs:=[]) .nil (λt ht=>(hp t ht).2) rv;have z:=mE (ps.map (·.2.2)) [];rw[aD,List.length_nil]at z;obtain⟨o,es,ep,h1,h2,h3,h4,_,h5⟩:=dd;have fr:H s.heap.objs.size=none:=I.a6.fresh (bS _);refine⟨.ref s.heap.objs.size,_,I.laid (a:=s.heap.objs.size) (o:=.dT (gL [] (ps.map (·.2.2)))) (t':=tk) kp (bS _) ⟨by rw[sizeLine_eq];lia,beq_eq_false_iff_ne.mpr (Ne.symm (d0 I.big)),_,rm.keeps λb ys e=>?_,o,es,ep,h1,h2,h3,h4,h5⟩,rfl,q _ fr⟩;rw[ae (bA e fr)];exact e
def QC(te:TE):TI:=λσ H R=>te σ H λx H1=>∃a ag,x=.ref a/\Rd H1 a (.dT ag)/\∀o ks H2,H2 a=some (.iw o (.dT ag))->(∀b,b≠a->H2 b=H1 b)->Ef H2 ag ks->R (ZP a o ag ks) H2
def Tt(g:TG)(tb:TS)(D:Ends)(σ:St):VK:=λx H1=>∃a ag,x=.ref a/\Rd H1 a (.dT ag)/\∀o ks H2,H2 a=some (.iw o (.dT ag))->(∀b,b≠a->H2 b=H1 b)->Ef H2 ag ks->s_ g tb D σ (ZP a o ag ks) H2
section
variable{te:TE}{g:TG}{tb:TS}{D:Ends}{σ:St}{H:Hp}
theorem Qx:lP (QC te) g tb D σ H=te σ H (Tt g tb D σ):=rfl
end
end
end L2
namespace L2
open PySem PySem.Spec PyProof.Rows
def Ku(K:Wf)(g:TG)(tb:TS)(D:Ends)(σ:St):(List V->Hp->Prop):=λvs H1=>∃a b xs ys,vs=[.ref a,.ref b]/\aH K H1 a xs/\aH K H1 b ys/\s_ g tb D σ (V2 K a b) H1
section
variable{K:Wf}{ta:TA}{g:TG}{tb:TS}{D:Ends}{σ:St}{H:Hp}
theorem S9:lP (QY K ta) g tb D σ H=ta σ H (Ku K g tb D σ):=rfl
theorem Ku.of{a b:Addr}{xs ys:List V}(he:ys.length=xs.length)(hx:aH K H a xs)(hy:aH K H b ys)(Pv:Nat->St->Hp->Prop)(h0:Pv 0 σ H)(hl:∀i σ H',i<=xs.length->Pv i σ H'->aH K H' a xs/\aH K H' b ys)
  (hs:∀i x y σ H' q,xs[i]?=some x->ys[i]?=some y->Pv i σ H'->H' q=none->g (.ref q) σ (upd H' q (.tup [x,y])) λσ2 H2=>tb { D with nx:=Pv (i+1),ct:=Pv (i+1),bk:=D.nx } σ2 H2) (hd:∀σ H',Pv xs.length σ H'->D.nx σ H'):Ku K g tb D σ [.ref a,.ref b] H:=by
 refine⟨a,b,xs,ys,rfl,hx,hy,λi m σ H=>m=xs.length - i/\i<=xs.length/\Pv i σ H,⟨xs.length,by simp,Nat.zero_le _,h0⟩,?_⟩;rintro i m σ H2 ⟨rfl,hi,p⟩;obtain⟨l0,l0'⟩:=hl i σ H2 hi p;by_cases hlt:i<xs.length
 ·have hlt':=by omega
  refine .inr ⟨⟨xs,ys,xs[i],ys[i],l0,l0',by simp,by simp⟩,Pv (i+1),λσ' H' p'=>⟨xs.length - (i+1),by lia,rfl,hlt,p'⟩,λx H3 y=>?_⟩;obtain⟨q,u,v,rfl,nq,y1,y2,rfl⟩:=y;exact hs i u v σ H2 q (y1 xs l0) (y2 ys l0') p nq
 ·have e:i=xs.length:=by lia
  subst e;exact .inl ⟨⟨xs,ys,l0,l0',.inl (bS _)⟩,hd σ H2 p⟩
end
def hold(t:TS):TS:=t
theorem bY{t:TS}{D:Ends}{σ:St}{H:Hp}(h:t D σ H):hold t D σ H:=h
theorem fB(h:yi X b t):yi X b (hold t):=h
section
variable{X:Cx}{f:Value->Value->Sem Value}{C:Int->Int->Prop}{g:Int->Int->V}
variable{a b:Expr}{ta tb:TE}{pos:Pos}
def q1:List V->(V->Prop)->Prop
 |[x],P=>P x
 |_,_=>False
def q2:List V->(V->V->Prop)->Prop
 |[x,y],P=>P x y
 |_,_=>False
end
section
variable{prog:Program}{w:World}{A:Around}{E:Vs}{s:Shared}
def L9(prog:Program)(w:World)(A:Around)(s:Shared)(y x:Value):Prop:=∀(E:Vs) (Q:Bool->Shared->Prop),Q true s->wpAny 'c' A (eqBool y x) Q E s
theorem L9.of{y x:Value}(h:SeqAt.EqAt A s y x true):L9 prog w A s y x:=λE Q q=>h prog w E Q q
theorem L9.rc(h:∀(E:Vs) (Q:Vs),Q (.bool true) s->wpAny 'c' A (richCompare .Eq (.ref a) (.ref b)) Q E s):L9 prog w A s (.ref a) (.ref b):=by
 by_cases e:a=b
 ·subst e;exact .of (SeqAt.EqAt.same _)
 ·intro E Q q;unfold eqBool;refine mI ?_;rw[if_neg (by simpa using e)];exact aE (h E _ (LQ q))
theorem ju{α β:Type}{f:α->β->Sem (ForInStep β)}{b:β}{Q:β->Shared->Prop}:∀{l:List α},(∀p∈l,∀Q:ForInStep β->Shared->Prop,Q (.yield b) s->wpAny 'c' A (f p b) Q E s)->Q b s->wpAny 'c' A (forIn l b f) Q E s
 |[],_,q=>by rw[List.forIn_nil];exact bh q
 |p::l,h,q=>by
  rw[List.forIn_cons];exact aE (h p ko _ (ju (λx hx=>h x (jD _ hx)) q))
theorem LB(l b:Addr)(ys xs:Array Value)(n n2:Nat)(dd dd2:Option Addr)(sl sl2:Array (Option Value))(hsz:ys.size=xs.size):
  MeetsIn prog w (Builtin.«tuple.__ne__» ⟨[.ref l,.ref b],[]⟩)
   (λA R s=>s.heap.get? l=some { cls:=.type "tuple", dict:=dd,data:=.seq ys n,slots:=sl }/\s.heap.get? b=some { cls:=.type "tuple", dict:=dd2,data:=.seq xs n2,slots:=sl2 }/\
    (∀p∈ys.toList.zip xs.toList,L9 prog w A.in1 s p.1 p.2)/\R (.ok (.ret (.bool false))) s):=by
 intro A R s h;obtain⟨hp,g,d,tk,os⟩:=s;obtain⟨hl,hb,he,h⟩:=h;have f2:=AutoSeq1.sub_tuple_tuple
 wp_walk using AutoSeq1.wpAny_loadPart' hl,AutoSeq1.wpAny_loadPart' hb,ju
 ·rintro⟨y,x⟩ hm Q q;refine aE (he _ hm _ _ ?_);rw[if_neg (by decide)];exact bh q
 ·wp_walk
  simpa [Builtin.Tuple.tupleCompareSizes,hsz] using h
theorem Lb(l b:Addr)(ys xs:Array Value)(n n2:Nat)(dd dd2:Option Addr)(sl sl2:Array (Option Value))(hsz:ys.size=xs.size):
  MeetsIn prog w (Builtin.«tuple.__eq__» ⟨[.ref l,.ref b],[]⟩)
   (λA R s=>s.heap.get? l=some { cls:=.type "tuple", dict:=dd,data:=.seq ys n,slots:=sl }/\s.heap.get? b=some { cls:=.type "tuple", dict:=dd2,data:=.seq xs n2,slots:=sl2 }/\
    (∀p∈ys.toList.zip xs.toList,L9 prog w A.in1 s p.1 p.2)/\R (.ok (.ret (.bool true))) s):=by
 intro A R s h;obtain⟨hp,g,d,tk,os⟩:=s;obtain⟨hl,hb,he,h⟩:=h;have f2:=AutoSeq1.sub_tuple_tuple
 wp_walk using AutoSeq1.wpAny_loadPart' hl,AutoSeq1.wpAny_loadPart' hb,ju
 ·rintro⟨y,x⟩ hm Q q;refine aE (he _ hm _ _ ?_);rw[if_neg (by decide)];exact bh q
 ·wp_walk
  simpa [Builtin.Tuple.tupleCompareSizes,hsz] using h
theorem xr{K:Type} [DecidableEq K]{knd:HeapKind prog w K}{id:String}{a b:Addr}{xs ys:List (K×Addr×Value)}{Q:Bool->Shared->Prop}(ha:(a == sysModules)=false)(hb:(b == sysModules)=false)(hu:knd.room A)(da:s.heap.DictOfH knd a xs)(db:s.heap.DictOfH knd b ys)
  (hk:xs.map (·.1)=ys.map (·.1)) (he:∀(i:Nat) (k:K) (u v:Addr×Value),xs[i]?=some (k,u)->ys[i]?=some (k,v)->L9 prog w A s u.2 v.2) (q:Q true s):wpAny 'c' A (Builtin.Dict.samePairs id a b) Q E s:=by
 obtain⟨oa,ea,pa,goa,xa,dda,la,isa,na⟩:=da;obtain⟨ob,eb,pb,gob,xb,ddb,lb,isb,nb⟩:=db;have za:=size_of_entries la;have zb:=size_of_entries lb;have lxy:xs.length=ys.length:=by have:=congrArg List.length hk;simpa using this
 have hsz:ea.size=eb.size:=by omega
 unfold Builtin.Dict.samePairs Builtin.Dict.showsAll;rw[ha,hb];refine aE (bh (aE (bh (aE (S5 goa dda (aE (S5 gob ddb ?_)))))));rw[if_neg (by simp[hsz])];refine aE (wpAny_dictEpoch goa dda ?_);refine aE ?_;rw[Std.Legacy.Range.forIn_eq_forIn_range'];simp only[Std.Legacy.Range.size,Nat.sub_zero,Nat.add_sub_cancel,Nat.div_one];refine ju (λx hx Q q=>?_) (bh q);have hlt:x<ea.size:=by have:=List.mem_range'.mp hx;omega
 have hx1:x<xs.length:=by omega
 have hy1:x<ys.length:=by omega
 obtain⟨⟨k,u⟩,hkv⟩:∃kv,xs[x]?=some kv:=⟨_,h9 hx1⟩
 obtain⟨⟨k2,v⟩,hkv2⟩:∃kv,ys[x]?=some kv:=⟨_,h9 hy1⟩
 have ek:k2=k:=by
  have a1:(xs.map (·.1))[x]?=some k:=by rw[gU,hkv];rfl
  have a2:(ys.map (·.1))[x]?=some k2:=by rw[gU,hkv2];rfl
  rw[hk,a2]at a1;exact Option.some.inj a1
 subst ek;refine aE (S5 goa dda ?_);rw[entry_at la x,hkv];show wpAny _ _ (holding [Value.ref u.1,u.2] _ >>= _) _ _ _;refine aE (mI ?_);refine aE (wpAny_dictFind_heap hu (isa _ (dI hkv)) gob ddb lb isb nb (λno=>absurd hkv2 (no x v)) λj p hj=>?_);have:(ys.map (·.1))[j]?=(ys.map (·.1))[x]?:=by rw[gU,gU,hj,hkv2];rfl
 have ej:j=x:=(List.getElem?_inj (by rw[aD];exact(gZ.mp hj).1) nb).mp this;subst ej;refine aE (S5 gob ddb ?_);rw[entry_at lb j,hkv2];show wpAny _ _ (holding [v.2] (eqBool u.2 v.2)) _ _ _;refine mI (he j k2 u v hkv hkv2 _ _ ?_);rw[if_neg (by decide)];refine aE (wpAny_dictEpoch goa dda ?_);rw[if_neg (by simp)];exact bh q
theorem DK{K:Type} [DecidableEq K]{knd:HeapKind prog w K}{a b:Addr}{xs ys:List (K×Addr×Value)}(ha:(a == sysModules)=false)(hb:(b == sysModules)=false)(hk:xs.map (·.1)=ys.map (·.1)):
  MeetsIn prog w (Builtin.«dict.__eq__» ⟨[.ref a,.ref b],[]⟩) (λA R s=>knd.room A.in1/\s.heap.DictOfH knd a xs/\s.heap.DictOfH knd b ys/\(∀(i:Nat) (k:K) (u v:Addr×Value),xs[i]?=some (k,u)->ys[i]?=some (k,v)->L9 prog w A.in1 s u.2 v.2)/\R (.ok (.ret (.bool true))) s):=by
 intro A R s ⟨hu,da,db,he,q⟩;obtain⟨hp,g,d,tk,os⟩:=s;have ta:=da.typeIs;have tb:=db.typeIs;show wpAny _ _ (Builtin.Dict.dictSlotArgs "__eq__" ⟨[.ref a,.ref b],[]⟩ >>= λso=>isInstance so.2 'F' >>= λi=>if (!i)=true then (rule _ >>= λ_=>ret .notImplemented) else (Builtin.Dict.addrOf so.1 >>= λx=>Builtin.Dict.addrOf so.2 >>= λy=>Builtin.Dict.samePairs _ x y >>= λr=>ret (.bool (r == true)))) _ _ _;unfold Builtin.Dict.dictSlotArgs;refine aE (aE (wpAny_notOrdered_dict ta ?_));refine aE (bh (bh (aE (wpAny_isInstance tb isSubtype_dict_dict ?_))));rw[if_neg (by decide)];exact aE (bh (aE (bh (aE (xr ha hb hu da db hk he (bh q))))))
end
section
variable{X:Cx}
def Wi(K:Wf)(H:Hp)(x y:V):Prop:=(∃d,Rep K H d x/\Rep K H d y/\dep d<=20)\/∃(p q:Addr) (ag:List 'i'),x=.ref p/\y=.ref q/\H p=some (.dT ag)/\H q=some (.dT ag)/\∀kv∈ag,∃n,kv.2=.int n
theorem NJ{pins:Lo}{σ:St}{H:Hp}{s:Shared}{x y:V}{u v:Value}{A:Around}(hu:A.units+40<cLine)(I:Inv X pins σ H s)(h:Wi X.K H x y)(rx:RelV x u)(ry:RelV y v):L9 X.prog X.w A s u v:=by
 rcases h with ⟨d,r1,r2,hd⟩|⟨p,q,ag,rfl,rfl,hp,hq,hv⟩
 ·have z:=Ba I d d x y u v A (by lia) r1 r2 rx ry;rw[iT]at z;exact .of z
 ·cases rx;cases ry;refine .rc λE Q k=>?_;obtain⟨_,s1,xs,rel,dd⟩:=xq I.a6 hp;obtain⟨_,s2,ys,rel',dd'⟩:=xq I.a6 hq;have keys:∀{l:List (List Key×V)}{m:List (List Key×Addr×Value)},KT H l m->m.map (·.1)=l.map (·.1):=λ{l m} r=>by
   induction r with
   |nil=>rfl
   |cons h _ ih=>rw[iZ,iZ,ih,h.1]
  have at_:∀{l:List 'i'}{m:List (List Key×Addr×Value)}(r:KT H l m) (i:Nat) (k:List Key) (u:Addr×Value),m[i]?=some (k,u)->∃z,l[i]?=some (k,z)/\RelV z u.2:=λ{l m} r=>by
   induction r with
   |nil=>intro i k w e;simp at e
   |@cons a b l m h _ ih=>
    intro i k w e;cases i with
    |zero=>
     rw[List.getElem?_cons_zero]at e;cases e;obtain⟨a1,a2⟩:=a;exact⟨a2,by rw[List.getElem?_cons_zero];congr 1;exact Prod.ext h.1 rfl,h.2.2⟩
    |succ i=>exact ih i k w (by simpa using e)
  refine wpAny_richCompare_same_room (op:=.Eq) dd.typeIs dd'.typeIs PySem.F.slot_dict_eq (call_meetsIn PySem.F.slot_dict_eq dd.typeIs PySem.F.entry_dict_eq (PySem.F.args_dict_eq_2 _ _) (DK s1 s2 ((keys rel).trans (keys rel').symm)) ⟨?_,dd,dd',λi kk w1 w2 e1 e2=>?_,?_⟩) (by lia)
  ·exact tupleKind_room_in1 (by lia)
  ·obtain⟨z1,f1,r1⟩:=at_ rel i kk w1 e1;obtain⟨z2,f2,r2⟩:=at_ rel' i kk w2 e2;rw[f1]at f2;cases f2;obtain⟨n,hn⟩:=hv (kk,z1) (dI f1);have hn:z1=.int n:=hn;subst hn;obtain⟨t1,e1⟩:=r1;obtain⟨t2,e2⟩:=r2;rw[e1,e2];have:=SeqAt.EqAt.int_int (A:=A.in1) (s:=s) n t1 n t2;rw[beq_self_eq_true]at this;exact .of this
  ·show Value.bool true≠Value.notImplemented/\Q (.bool true) s;exact⟨λz=>(nomatch z),k⟩
def TL(K:Wf):R2:=λx y H Q=>∃(p q:Addr) (xs ys:List V),x=.ref p/\y=.ref q/\bg K H p xs/\bg K H q ys/\xs.length=ys.length/\(∀t∈xs.zip ys,Wi K H t.1 t.2)/\Q (.bl false) H
def SI(K:Wf):R2:=λx y H Q=>∃(p q:Addr) (xs ys:List V),x=.ref p/\y=.ref q/\bg K H p xs/\bg K H q ys/\xs.length=ys.length/\(∀t∈xs.zip ys,Wi K H t.1 t.2)/\Q (.bl true) H
theorem mB{R:V->V->Prop}{S:Value->Value->Prop}(hRS:∀x y u v,R x y->RelV x u->RelV y v->S u v):∀{xs ys:List V}{us vs:List Value},Vals xs us->Vals ys vs->(∀t∈xs.zip ys,R t.1 t.2)->∀t∈us.zip vs,S t.1 t.2
 |_,_,_,_,.nil,_,_,t,ht=>by simp at ht
 |_,_,_,_,.cons _ _,.nil,_,t,ht=>by simp at ht
 |_,_,_,_,.cons r1 q1,.cons r2 q2,h,t,ht=>by
  rcases iu.mp ht with e|e
  ·rw[e];exact hRS _ _ _ _ (h _ ko) r1 r2
  ·exact mB hRS q1 q2 (λt ht=>h t (jD _ ht)) t e
theorem O4(hu:X.A.units+64<cLine):fZ X (compareOp .NotEq) (TL X.K):=by
 intro pins s σ H x y v u Q I rx ry h;obtain⟨p,q,xs,ys,rfl,rfl,hp,hq,hl,he,k⟩:=h;cases rx;cases ry;obtain⟨us,r,o1,h1⟩:=I.tuple hp;obtain⟨vs,r',o2,h2⟩:=I.tuple hq;obtain⟨⟨cls,dd,data,sl⟩,ho,hc,n,hd⟩:=fY o1;obtain⟨⟨cls2,dd2,data2,sl2⟩,ho2,hc2,n2,hd2⟩:=fY o2;simp only at hc hd hc2 hd2;subst hc hd hc2 hd2;refine wpAny_richCompare_same_room (op:=.NotEq) ⟨_,ho,rfl⟩ ⟨_,ho2,rfl⟩ F.slot_tuple_ne (call_meetsIn F.slot_tuple_ne ⟨_,ho,rfl⟩ F.entry_tuple_ne (F.args_tuple_ne_2 _ _) (LB _ _ _ _ n n2 dd dd2 sl sl2 ?_) ⟨ho,ho2,?_,?_⟩) (by lia)
 ·have:=r.length;have:=r'.length;rw[iC,iC];lia
 ·exact mB (λx y u v e a b=>NJ (by show X.A.units+1+40<cLine;lia) I e a b) r r' he
 ·show Value.bool false≠Value.notImplemented/\EP X pins σ Q (.bool false) s;exact⟨λz=>(nomatch z),V.bl false,H,I,rfl,k⟩
theorem QZ(hu:X.A.units+64<cLine):fZ X (compareOp .Eq) (SI X.K):=by
 intro pins s σ H x y v u Q I rx ry h;obtain⟨p,q,xs,ys,rfl,rfl,hp,hq,hl,he,k⟩:=h;cases rx;cases ry;obtain⟨us,r,o1,h1⟩:=I.tuple hp;obtain⟨vs,r',o2,h2⟩:=I.tuple hq;obtain⟨⟨cls,dd,data,sl⟩,ho,hc,n,hd⟩:=fY o1;obtain⟨⟨cls2,dd2,data2,sl2⟩,ho2,hc2,n2,hd2⟩:=fY o2;simp only at hc hd hc2 hd2;subst hc hd hc2 hd2;refine wpAny_richCompare_same_room (op:=.Eq) ⟨_,ho,rfl⟩ ⟨_,ho2,rfl⟩ F.slot_tuple_eq (call_meetsIn F.slot_tuple_eq ⟨_,ho,rfl⟩ F.entry_tuple_eq (F.args_tuple_eq_2 _ _) (Lb _ _ _ _ n n2 dd dd2 sl sl2 ?_) ⟨ho,ho2,?_,?_⟩) (by lia)
 ·have:=r.length;have:=r'.length;rw[iC,iC];lia
 ·exact mB (λx y u v e a b=>NJ (by show X.A.units+1+40<cLine;lia) I e a b) r r' he
 ·show Value.bool true≠Value.notImplemented/\EP X pins σ Q (.bool true) s;exact⟨λz=>(nomatch z),V.bl true,H,I,rfl,k⟩
theorem qq{K:Wf}(hu:X.A.units+64<cLine)(e:X.K=K):fZ X (compareOp .NotEq) (TL K):=e▸O4 hu
theorem Mb{K:Wf}(hu:X.A.units+64<cLine)(e:X.K=K):fZ X (compareOp .Eq) (SI K):=e▸QZ hu
end
end L2
set_option maxHeartbeats 0
set_option pp.deepTerms true
set_option pp.maxSteps 100000
namespace L2
open PySem PySem.Spec PyProof.Rows
section
variable{X:Cx}
theorem tx(K:Wf){a:Expr}{ta:TE}{n:Int}{j:Nat}{p pos:Pos}(ha:PE X a ta)(e:X.K=K:=by rfl):PE X (.Subscript a (.Constant (.int n) j p) pos) (BL (tD K) ta (tC (.int n))):=bx (K7 e) ha af (λ_ _=>rfl)
theorem pn(i:Nat){x:Str}{pos:Pos}(hN:X.N.Nodup)(hi:X.N[i]?=some x:=by rfl)(hx:Loc X.env.scope x:=by first|exact Or.inl rfl|exact Or.inr rfl)(hf:X.fn x=true\/X.env.scope.names.lookup x=some .local:=by first|exact .inl rfl|exact .inr rfl|assumption):PG X (.Name x pos) (m5 i):=KG hN hi hx hf
theorem pS(i:Nat){x:Str}{e:Expr}{te:TE}{pos pos':Pos}(hN:X.N.Nodup)(he:PE X e te)(hi:X.N[i]?=some x:=by rfl)(hx:Loc X.env.scope x:=by first|exact Or.inl rfl|exact Or.inr rfl)(hs:swapsWith e (some (.Name x pos')) pos.line X.env=pure false:=by rfl)(hf:X.fn x=true\/X.env.scope.names.lookup x=some .local:=by first|exact .inl rfl|exact .inr rfl|assumption):PS X (.Assign [.Name x pos'] e pos) (FJ te (m5 i)):=OR hN hi hx he hs hf
theorem pC{k n:Nat}{f:Addr}{fd:FuncData}{ps:List Str}{sp:Sp}{x:Str}{e:Expr}{es:List Expr}{t:TA}{p pos:Pos}(F:aY X.prog X.w X.K X.mg X.base cF k f fd ps sp)(hr:cQ n X.A)(hm:X.mg x=some (.ref f))(hk:keepIn X.K (.ref f)=true)(hb:Binds X.K fd ps [])(ha:PA X (e::es) t)(hl:k<=n:=by decide)(hg:Gl X x:=by rfl)(hdb:(x == ("__debug__" : Str))=false:=by decide)(he:starEach (e::es) X.env=(false,eval e X.env)::starEach es X.env:=by rfl)(hpl:(backTo pos (starEach es X.env)).any (·.1)=false:=by rfl):PE X (.Call (.Name x p) (e::es) [] pos) (M0 sp [] E0 t):=bO F (hr.mono hl) hg hm hk hb .nil aq ha hdb he hpl
theorem iP(own:List Str){scope:Scope}(kind:scope.kind=.function:=by rfl)(h1:∀y∈scope.names,y.2≠.cell:=by decide +kernel)(h2:∀y∈scope.names,y.2=.local->scope.names.lookup y.1=some .local:=by decide +kernel)(h3:∀y∈scope.names,y.2=.free->y.1∈([]:List Str):=by decide +kernel):gh X (own++[]) own.length [] scope:=iE kind h1 h2 h3 .nil
theorem cq{o e:Expr}{es:List Expr}{to:TE}{t:TA}{apos cpos:Pos}(ho:PE X o to)(ha:PA X (e::es) t)(hbase:attributeBase o "append" X.env (eval o X.env)=eval o X.env:=by rfl)(hfew:((backTo cpos (starEach (e::es) X.env)).all (λx=>!x.1)&&(backToKw cpos (keywordEach [] X.env)).all (λx=>x.1.isSome)&&decide ((e::es).length+([]:List Keyword).length+(if ([]:List Keyword).isEmpty then 0 else 1)<30))=true:=by rfl)(hline:(apos.endLine == cpos.line)=true:=by rfl)(hs:starEach (e::es) X.env=(false,eval e X.env)::starEach es X.env:=by rfl)(hp:(backTo cpos (starEach es X.env)).any (·.1)=false:=by rfl):PE X (.Call (.Attribute o "append" apos) (e::es) [] cpos) (YM X.K "list" AZ to t):=A6 PySem.F.plainAttrs_list PySem.F.slot_list_append PySem.F.type_list_append ng ho ha hbase hfew hline hs hp
theorem pF{tg iter:Expr}{body:List Stmt}{wi:TI}{g:TG}{tb:TS}{pos:Pos}(hi:PI X tg iter wi)(hg:PG X tg g)(hb:yi X body tb)(hc:X.calm=true:=by rfl)(hs:∀x,foldedSetIterable iter X.env x=pure x:=by intro _;rfl)(hn:PassesOwn 'b' X.A X.env X.xe:=by exact PassesOwn.never):PS X (.For tg iter body [] pos) (lP wi g tb):=Qh hn hc hi hg hb hs
end
end L2
namespace My
open PySem PySem.Spec PyProof.Rows L2
abbrev Pp(a:Addr):List (Str×V):=putF s!"pieces" (V.ref a) []
abbrev Pc(a b:Addr):List (Str×V):=putF s!"reasons" (V.ref b) (Pp a)
abbrev Ra(a b c:Addr):List (Str×V):=putF s!"told_by_given" (V.ref c) (Pc a b)
abbrev Vn(a b c d:Addr):List (Str×V):=putF s!"on_shelves" (V.ref d) (Ra a b c)
abbrev Wa(a b c d e:Addr):List (Str×V):=putF s!"from_shelves" (V.ref e) (Vn a b c d)
set_option hygiene false in
local macro_rules | `(tactic| walk_at "j") => `(tactic| (repeat (first | (obtain ⟨rfl, _⟩ := h; rfl) | (obtain ⟨_, h⟩ := h))))
set_option hygiene false in
local macro_rules | `(tactic| walk_at "k") => `(tactic| ((focus (intro vs H Q E h; walk_at "j")); (intro cdv Ar outer s H vs Q E hr h)))
set_option hygiene false in
local macro_rules | `(tactic| walk_at "0") => `(tactic| rw [gU] at hx)
set_option hygiene false in
local macro_rules | `(tactic| walk_at "1") => `(tactic| rw [cC, cC] at this)
set_option hygiene false in
local macro_rules | `(tactic| walk_at "2") => `(tactic| rw [aD, aD] at this)
set_option hygiene false in
local macro_rules | `(tactic| walk_at "3") => `(tactic| rw [aD, kD] at e)
set_option hygiene false in
local macro_rules | `(tactic| walk_at "4") => `(tactic| rw [gU] at hv)
set_option hygiene false in
local macro_rules | `(tactic| walk_at "5") => `(tactic| obtain ⟨p, hp, rfl⟩ := eZ.mp hv)
set_option hygiene false in
local macro_rules | `(tactic| walk_at "6") => `(tactic| have tk : ps.take (i + 1) = ps.take i ++ [p] := by rw [ix, hp]; rfl)
set_option hygiene false in
local macro_rules | `(tactic| walk_at "7") => `(tactic| have hl : rs.length = T.length := by have := congrArg List.length h.len; rwa [aD, aD] at this)
set_option hygiene false in
local macro_rules | `(tactic| walk_at "8") => `(tactic| have hr : rs[i]? = some (rs[i]'(by omega)) := h9 (by omega))
set_option hygiene false in
local macro_rules | `(tactic| walk_at "9") => `(tactic| rw [aD, aD, jM] at hl)
set_option hygiene false in
local macro_rules | `(tactic| walk_at "10") => `(tactic| have pre : BS H2 l d qs ms := ⟨⟨fK q2.lt pc.top, fun q hq => xu q2.lt (pc.at_ q hq), pc.nd⟩, tab, c.nd, by have := c.bQ; omega, by have := c.jn.all; omega, fun p hp => ⟨(c.bn p hp).nm, (c.bn p hp).nd⟩, fun p hp st hs => ⟨((c.bn p hp).ss st hs).2, fun f hf => c.res nm hp hs hf⟩⟩)
local macro_rules | `(tactic| walk_at "o") => `(tactic| first | exact Or.inl rfl | exact Or.inr rfl)
local macro_rules | `(tactic| walk_at "s") => `(tactic| (rw [sizeLine_eq]; decide))
local macro_rules | `(tactic| walk_at "p") => `(tactic| first | exact Or.inl rfl | exact Or.inr (Or.inl rfl) | exact Or.inr (Or.inr rfl))
local macro_rules | `(tactic| walk_at "q") => `(tactic| first | exact .inl rfl | exact .inr rfl | assumption)
local macro_rules | `(tactic| walk_at "n") => `(tactic| exact of_decide_eq_true (by kernel_rfl))
local macro_rules | `(tactic| walk_at "F") => `(tactic| exact ⟨rfl, rfl, rfl, by decide +kernel, rfl, by decide +kernel, by decide +kernel⟩)
def top(i:Nat):Stmt:=PySem.Challenge.pw_joinload_k95_whole_not_taken_is_nothing.main.body.getD i (.Pass ⟨0,0,0,0⟩)
abbrev NB:Stmt:=top 10
abbrev Og:Stmt:=top 11
abbrev GC:Stmt:=top 12
abbrev Am:Stmt:=top 13
abbrev Od:Stmt:=top 15
abbrev Oi:Stmt:=inClass (top 16) 0
abbrev NI:Stmt:=inClass (top 16) 4
abbrev Nh:Stmt:=inClass (top 17) 0
abbrev Mz:Stmt:=inClass (top 18) 0
abbrev M3:Stmt:=inClass (top 19) 0
abbrev Oc:Stmt:=inClass (top 20) 0
abbrev N5:Stmt:=inClass (top 20) 1
abbrev Nx:Stmt:=inClass (top 20) 3
abbrev Nl:Stmt:=inClass (top 21) 0
abbrev M5:Stmt:=inClass (top 21) 1
abbrev NV:Stmt:=inClass (top 21) 3
abbrev N6:Stmt:=top 22
abbrev MN:Stmt:=top 24
abbrev ND:Stmt:=top 25
abbrev NW:Stmt:=top 26
abbrev FO:Stmt:=top 28
abbrev Nc:Stmt:=top 29
abbrev MU:Stmt:=top 30
abbrev N0:Stmt:=top 31
abbrev Nq:Stmt:=top 32
abbrev NQ:Stmt:=top 33
abbrev Ah:Stmt:=top 35
abbrev AU:Stmt:=top 36
abbrev EZ:Stmt:=top 37
abbrev Oe:Stmt:=top 38
abbrev Fz:Stmt:=top 39
abbrev NC:Stmt:=top 40
abbrev NH:Stmt:=top 41
abbrev wt:Stmt:=top 43
abbrev NP:Stmt:=top 44
abbrev MT:Stmt:=inClass (top 45) 0
abbrev NX:Stmt:=inClass (top 45) 1
abbrev Mm:Stmt:=inClass (top 45) 2
abbrev Nz:Stmt:=top 46
abbrev MQ:Stmt:=top 47
abbrev Mw:Stmt:=top 48
abbrev NR:Stmt:=top 50
abbrev Mt:Stmt:=top 51
abbrev M4:Stmt:=top 53
abbrev Nj:Stmt:=top 54
abbrev FP:Stmt:=top 55
abbrev Mp:Stmt:=inClass (top 56) 0
abbrev NK:Stmt:=inClass (top 56) 1
abbrev N_:Stmt:=inClass (top 56) 2
abbrev MR:Stmt:=top 58
abbrev Np:Stmt:=top 59
abbrev M6:Stmt:=top 60
abbrev Mx:Stmt:=top 61
abbrev M_:Stmt:=top 62
abbrev MZ:Stmt:=top 63
abbrev N1:Stmt:=top 64
abbrev MY:Stmt:=top 65
abbrev N9:Stmt:=top 66
abbrev Nb:Stmt:=top 67
abbrev Nv:Stmt:=top 68
theorem vI:bootBuiltins "dict" = some 'F':=by decide +kernel
theorem lG:bootBuiltins "int" = some (.type "int"):=by decide +kernel
theorem iy:bootBuiltins "isinstance" = some (.builtin "isinstance"):=by decide +kernel
theorem eg:bootBuiltins "len" = some (.builtin "len"):=by decide +kernel
theorem kI:bootBuiltins "list" = some (.type "list"):=by decide +kernel
theorem Pf:bootBuiltins "max" = some (.builtin "max"):=by decide +kernel
theorem PQ:bootBuiltins "set" = some (.type "set"):=by decide +kernel
theorem g_:bootBuiltins "sorted" = some 'Q':=by decide +kernel
theorem QO:bootBuiltins "str" = some (.type "str"):=by decide +kernel
theorem WU:RelV (.int i) (.int i t):=⟨t,rfl⟩
theorem UW:RelV (.ty n) (.type n):=rfl
structure Ad where
 Yx:Addr
 GR:FuncData
 Ze:Addr
 Jb:FuncData
 ones:Addr
 Bo:FuncData
 moved:Addr
 xW:FuncData
 Xl:Addr
 Il:FuncData
 N8:Addr
 Kc:FuncData
 Ro:Addr
 FA:FuncData
 VR:Addr
 G8:FuncData
 V7:Addr
 G0:FuncData
 V_:Addr
 Dl:FuncData
 VJ:Addr
 Ih:FuncData
 VY:Addr
 Ke:FuncData
 VX:Addr
 Eh:FuncData
 V0:Addr
 JE:FuncData
 VI:Addr
 Dg:FuncData
 Wg:Addr
 Io:FuncData
 way:Addr
 Es:FuncData
 W7:Addr
 F9:FuncData
 XI:Addr
 GN:FuncData
 WC:Addr
 Fg:FuncData
 laid:Addr
 Bj:FuncData
 YU:Addr
 JJ:FuncData
 Wx:Addr
 C_:FuncData
 Yj:Addr
 Dw:FuncData
 YC:Addr
 G3:FuncData
 YW:Addr
 Em:FuncData
 tells:Addr
 yn:FuncData
 wants:Addr
 ym:FuncData
 Xa:Addr
 yY:FuncData
 XQ:Addr
 G_:FuncData
 zT:Addr
 Aj:FuncData
 WK:Addr
 EI:FuncData
 YB:Addr
 G6:FuncData
 taken:Addr
 mw:FuncData
 Y8:Addr
 D3:FuncData
 Vy:Addr
 FZ:FuncData
 Vw:Addr
 E8:FuncData
 VW:Addr
 DL:FuncData
 Xr:Addr
 Gw:FuncData
 WG:Addr
 GL:FuncData
 W2:Addr
 Dx:FuncData
 Wz:Addr
 JH:FuncData
 Y1:Addr
 Hv:FuncData
 YH:Addr
 Gd:FuncData
 Xb:Addr
 Ds:FuncData
 kept:Addr
 Ac:FuncData
 VG:Addr
 Gg:FuncData
 VA:Addr
 Gn:FuncData
 VT:Addr
 Ee:FuncData
 W8:Addr
 JD:FuncData
 Xf:Addr
 Iq:FuncData
 XU:Addr
 EX:FuncData
 Xp:Addr
 JW:FuncData
 Xs:Addr
 G9:FuncData
 WQ:Addr
 Ka:FuncData
 Yp:Addr
 F8:FuncData
 WO:Addr
 GZ:FuncData
 Zh:Addr
 C5:FuncData
 X2:Addr
 Jf:FuncData
 Xq:Addr
 IX:FuncData
 bf:Addr
 aK:Addr
 Dy:Tok
 eU:Addr
 cM:Addr
 kq:Addr
 eA:Addr
 gB:Addr
 aN:Addr
 kB:Addr
structure FB(K:Wf)(x q:Str)(st:Stmt)(f:Addr)(fd:FuncData)(ps:List Str):Prop extends Ng K x q st f fd where
 b:Binds K fd ps []
structure Txt(K:Wf)(mg:So)(A:Ad):Prop where
 L_:mg "High" = some (.ref A.eU)
 PZ:mg "Joining" = some (.ref A.cM)
 OZ:mg "Low" = some (.ref A.kq)
 Lx:mg "Near" = some (.ref A.eA)
 O8:mg "Split" = some (.ref A.gB)
 HX:mg "Taking" = some (.ref A.aN)
 OA:mg "Whole" = some (.ref A.kB)
 FC:mg "wrapped" = some (.ref A.Yx)
 x8:mg "with_field" = some (.ref A.Ze)
 C6:mg "ones" = some (.ref A.ones)
 Bu:mg "moved" = some (.ref A.moved)
 Uv:mg "rule_of" = some (.ref A.Xl)
 Zz:findIn K (.ref A.eU) "__init__" = some (some (.ref A.N8))
 aag:findIn K (.ref A.eU) "leans" = some (some (.ref A.Ro))
 aad:findIn K (.ref A.kB) "filled" = some (some (.ref A.VR))
 ZK:findIn K (.ref A.eU) "filled" = some (some (.ref A.V7))
 Z5:findIn K (.ref A.kq) "filled" = some (some (.ref A.V_))
 Zw:findIn K (.ref A.eA) "fits" = some (some (.ref A.VJ))
 aae:findIn K (.ref A.eA) "filled" = some (some (.ref A.VY))
 aaa:findIn K (.ref A.eA) "leans" = some (some (.ref A.VX))
 ZM:findIn K (.ref A.gB) "fits" = some (some (.ref A.V0))
 Zv:findIn K (.ref A.gB) "filled" = some (some (.ref A.VI))
 Z1:findIn K (.ref A.gB) "leans" = some (some (.ref A.Wg))
 xy:mg "way" = some (.ref A.way)
 Bi:mg "pieces_by_name" = some (.ref A.W7)
 RZ:mg "copied_piece" = some (.ref A.XI)
 Sd:mg "copied_fills" = some (.ref A.WC)
 J8:mg "laid" = some (.ref A.laid)
 Tu:mg "size_of" = some (.ref A.YU)
 U7:mg "step_of" = some (.ref A.Wx)
 Mu:mg "laid_with_ends" = some (.ref A.Yj)
 UI:mg "in_order" = some (.ref A.YC)
 Vm:mg "multiple_from" = some (.ref A.YW)
 Ly:mg "tells" = some (.ref A.tells)
 Ln:mg "wants" = some (.ref A.wants)
 MJ:mg "names_of" = some (.ref A.Xa)
 Sq:mg "refuse_twice" = some (.ref A.XQ)
 JZ:mg "aims" = some (.ref A.zT)
 Uh:mg "aim_by" = some (.ref A.WK)
 Bd:mg "places_told" = some (.ref A.YB)
 uN:mg "taken" = some (.ref A.taken)
 Tn:mg "reasons" = some (.ref A.Y8)
 Zr:findIn K (.ref A.aN) "__init__" = some (some (.ref A.Vy))
 aac:findIn K (.ref A.aN) "take_for_pieces" = some (some (.ref A.Vw))
 Z4:findIn K (.ref A.aN) "take_for" = some (some (.ref A.VW))
 R8:mg "pieces_on" = some (.ref A.Xr)
 UZ:mg "refuse_same_name" = some (.ref A.WG)
 Mn:mg "first_tellers" = some (.ref A.W2)
 Se:mg "reached" = some (.ref A.Wz)
 Ul:mg "keys_aimed_at" = some (.ref A.Y1)
 SR:mg "map_of" = some (.ref A.YH)
 U1:mg "joined" = some (.ref A.Xb)
 Jq:mg "kept" = some (.ref A.kept)
 ZG:findIn K (.ref A.cM) "__init__" = some (some (.ref A.VG))
 aaf:findIn K (.ref A.cM) "join_stretch" = some (some (.ref A.VA))
 ZW:findIn K (.ref A.cM) "place_of" = some (some (.ref A.VT))
 lW:mg "_law_cell_at" = some (.ref A.W8)
 iX:mg "_law_name_by" = some (.ref A.Xf)
 TX:mg "_law_put_word" = some (.ref A.XU)
 UL:mg "_law_put_name" = some (.ref A.Xp)
 Sw:mg "_law_drawn" = some (.ref A.Xs)
 To:mg "_law_rest" = some (.ref A.WQ)
 R7:mg "_law_shelved" = some (.ref A.Yp)
 yh:mg "_law_answer" = some (.ref A.WO)
 Fs:mg "_law_without" = some (.ref A.Zh)
 RH:mg "_law_more" = some (.ref A.X2)
 SU:mg "law" = some (.ref A.Xq)
 mC:FB K "wrapped" "wrapped" NB A.Yx A.GR ["number"]
 gu:FB K "with_field" "with_field" Og A.Ze A.Jb ["word", "low", "many", "number"]
 lh:FB K "ones" "ones" GC A.ones A.Bo ["many"]
 iS:FB K "moved" "moved" Am A.moved A.xW ["number", "up"]
 Ec:FB K "rule_of" "rule_of" Od A.Xl A.Il ["title"]
 nV:FB K "__init__" "Rule.__init__" Oi A.N8 A.Kc ["self", "title"]
 A7:FB K "leans" "Rule.leans" NI A.Ro A.FA ["self"]
 Gf:FB K "filled" "Whole.filled" Nh A.VR A.G8 ["self", "word", "here", "there"]
 Dj:FB K "filled" "High.filled" Mz A.V7 A.G0 ["self", "word", "here", "there"]
 HM:FB K "filled" "Low.filled" M3 A.V_ A.Dl ["self", "word", "here", "there"]
 Mo:FB K "fits" "Near.fits" Oc A.VJ A.Ih ["self", "here", "there"]
 Dt:FB K "filled" "Near.filled" N5 A.VY A.Ke ["self", "word", "here", "there"]
 Oa:FB K "leans" "Near.leans" Nx A.VX A.Eh ["self"]
 M8:FB K "fits" "Split.fits" Nl A.V0 A.JE ["self", "here", "there"]
 Hu:FB K "filled" "Split.filled" M5 A.VI A.Dg ["self", "word", "here", "there"]
 Nw:FB K "leans" "Split.leans" NV A.Wg A.Io ["self"]
 gj:FB K "way" "way" N6 A.way A.Es ["here", "there"]
 jr:FB K "pieces_by_name" "pieces_by_name" MN A.W7 A.F9 ["pieces"]
 D8:FB K "copied_piece" "copied_piece" ND A.XI A.GN ["piece"]
 Jw:FB K "copied_fills" "copied_fills" NW A.WC A.Fg ["fills"]
 l9:FB K "laid" "laid" FO A.laid A.Bj ["pieces", "keys"]
 Jt:FB K "size_of" "size_of" Nc A.YU A.JJ ["pieces", "keys"]
 DZ:FB K "step_of" "step_of" MU A.Wx A.C_ ["pieces", "keys"]
 xK:FB K "laid_with_ends" "laid_with_ends" N0 A.Yj A.Dw ["pieces", "keys"]
 ER:FB K "in_order" "in_order" Nq A.YC A.G3 ["by_name", "keys"]
 HS:FB K "multiple_from" "multiple_from" NQ A.YW A.Em ["number", "step"]
 pR:FB K "tells" "tells" Ah A.tells A.yn ["piece"]
 oG:FB K "wants" "wants" AU A.wants A.ym ["piece"]
 yf:FB K "names_of" "names_of" EZ A.Xa A.yY ["pieces"]
 Ia:FB K "refuse_twice" "refuse_twice" Oe A.XQ A.G_ ["ordered"]
 lK:FB K "aims" "aims" Fz A.zT A.Aj ["piece", "names", "fills"]
 EY:FB K "aim_by" "aim_by" NC A.WK A.EI ["piece_name", "own", "names", "fill"]
 jj:FB K "places_told" "places_told" NH A.YB A.G6 ["piece", "told_by"]
 fN:FB K "taken" "taken" wt A.taken A.mw ["given", "shelves", "entry"]
 HR:FB K "reasons" "reasons" NP A.Y8 A.D3 ["given", "shelves", "entry"]
 HH:FB K "__init__" "Taking.__init__" MT A.Vy A.FZ ["self", "given", "shelves", "entry"]
 Ni:FB K "take_for_pieces" "Taking.take_for_pieces" NX A.Vw A.E8 ["self"]
 Eo:FB K "take_for" "Taking.take_for" Mm A.VW A.DL ["self", "name", "by"]
 Jo:FB K "pieces_on" "pieces_on" Nz A.Xr A.Gw ["shelves"]
 Gk:FB K "refuse_same_name" "refuse_same_name" MQ A.WG A.GL ["pieces"]
 wH:FB K "first_tellers" "first_tellers" Mw A.W2 A.Dx ["pieces"]
 JF:FB K "reached" "reached" NR A.Wz A.JH ["pieces", "names", "root"]
 HD:FB K "keys_aimed_at" "keys_aimed_at" Mt A.Y1 A.Hv ["piece", "number", "names"]
 GK:FB K "map_of" "map_of" M4 A.YH A.Gd ["given", "shelves", "entry"]
 Iy:FB K "joined" "joined" Nj A.Xb A.Ds ["given", "shelves", "entry"]
 my:FB K "kept" "kept" FP A.kept A.Ac ["pieces", "names", "entry"]
 M9:FB K "__init__" "Joining.__init__" Mp A.VG A.Gg ["self", "pieces", "names", "rows"]
 MX:FB K "join_stretch" "Joining.join_stretch" NK A.VA A.Gn ["self", "piece", "number", "place"]
 h8:FB K "place_of" "Joining.place_of" N_ A.VT A.Ee ["self", "aimed"]
 ed:FB K "_law_cell_at" "_law_cell_at" MR A.W8 A.JD ["_law_script", "_law_k"]
 dh:FB K "_law_name_by" "_law_name_by" Np A.Xf A.Iq ["_law_cell", "_law_k"]
 DJ:FB K "_law_put_word" "_law_put_word" M6 A.XU A.EX ["_law_stretch", "_law_cell", "_law_number", "_law_names_by"]
 II:FB K "_law_put_name" "_law_put_name" Mx A.Xp A.JW ["_law_pieces", "_law_strong", "_law_number", "_law_names_by"]
 GY:FB K "_law_drawn" "_law_drawn" M_ A.Xs A.G9 ["_law_cells", "_law_names_by", "_law_titles_by"]
 Gu:FB K "_law_rest" "_law_rest" MZ A.WQ A.Ka ["_law_names_by", "_law_titles_by"]
 JB:FB K "_law_shelved" "_law_shelved" N1 A.Yp A.F8 ["_law_pieces", "_law_cell"]
 gK:FB K "_law_answer" "_law_answer" MY A.WO A.GZ ["_law_some", "_law_entry"]
 lF:FB K "_law_without" "_law_without" N9 A.Zh A.C5 ["_law_some", "_law_titles", "_law_number"]
 Jr:FB K "_law_more" "_law_more" Nb A.X2 A.Jf ["_law_script", "_law_number"]
 RQ:FB K "law" "law" Nv A.Xq A.IX ["_law_script"]
 S_:mg "WORD_COUNT" = some (.int 4294967296 A.Dy)
 zD:mg "dict" = none
 wL:mg "int" = none
 jg:mg "isinstance" = none
 gm:mg "len" = none
 uD:mg "list" = none
 GI:mg "max" = none
 kJ:mg "range" = none
 zp:mg "reversed" = none
 RT:mg "set" = none
 fz:mg "sorted" = none
 Su:mg "str" = none
 Oj:mg "zip" = none
 bm:BMod K mg
 Pw:YG K A.yY A.bf
 J4:YG K A.mw A.aK
 kU:wD K A.eU
 bZ:wD K A.cM
 vW:wD K A.kq
 i7:wD K A.eA
 lB:wD K A.gB
 bT:wD K A.aN
 v_:wD K A.kB
 ZZ:specialIn K 'K' "__get__" = some (some (.builtin "getset_descriptor.__get__"))
 ZR:takesIn K 'K'=some true
 KC:Mk K A.eU A.N8
 OP:Mk K A.cM A.VG
 Qa:Mk K A.kq A.N8
 Ld:Mk K A.eA A.N8
 Ow:Mk K A.gB A.N8
 EW:Mk K A.aN A.Vy
 OL:Mk K A.kB A.N8
 Fj:Meth K A.eU "filled" A.V7
 mL:Meth K A.eU "leans" A.Ro
 PM:Meth K A.cM "join_stretch" A.VA
 fR:Meth K A.cM "place_of" A.VT
 Dm:Meth K A.kq "filled" A.V_
 tq:Meth K A.kq "leans" A.Ro
 DT:Meth K A.eA "filled" A.VY
 OJ:Meth K A.eA "fits" A.VJ
 Ou:Meth K A.eA "leans" A.VX
 I_:Meth K A.gB "filled" A.VI
 Pm:Meth K A.gB "fits" A.V0
 OQ:Meth K A.gB "leans" A.Wg
 Jh:Meth K A.aN "take_for" A.VW
 PU:Meth K A.aN "take_for_pieces" A.Vw
 H_:Meth K A.kB "filled" A.VR
 vC:Meth K A.kB "leans" A.Ro
 cT:bI K A.aN "pieces"
 iB:bI K A.aN "reasons"
 dH:bI K A.aN "told_by_given"
 c_:bI K A.aN "on_shelves"
 cO:bI K A.aN "from_shelves"
 jx:bI K A.aN "unmet"
 jC:bI K A.cM "names"
 ib:bI K A.cM "places"
 fD:bI K A.cM "parts"
 eh:bI K A.cM "leaning"
 vw:bI K A.kB "title"
 mV:bI K A.eU "title"
 qJ:bI K A.kq "title"
 mN:bI K A.eA "title"
 uy:bI K A.gB "title"
theorem Q8:ar ["number"] ["number"] (aj NB):=by walk_at "F"
theorem EK:ar ["word", "low", "many", "number", "others"] ["word", "low", "many", "number"] (aj Og):=by walk_at "F"
theorem Lr:ar ["many"] ["many"] (aj GC):=by walk_at "F"
theorem Dz:ar ["number", "up"] ["number", "up"] (aj Am):=by walk_at "F"
theorem Q5:ar ["title"] ["title"] (aj Od):=by walk_at "F"
theorem OW:ar ["self", "title"] ["self", "title"] (aj Oi):=by walk_at "F"
theorem QA:ar ["self"] ["self"] (aj NI):=by walk_at "F"
theorem P_:ar ["self", "word", "here", "there"] ["self", "word", "here", "there"] (aj Nh):=by walk_at "F"
theorem Qs:ar ["self", "word", "here", "there"] ["self", "word", "here", "there"] (aj Mz):=by walk_at "F"
theorem Oq:ar ["self", "word", "here", "there"] ["self", "word", "here", "there"] (aj M3):=by walk_at "F"
theorem Pn:ar ["self", "here", "there"] ["self", "here", "there"] (aj Oc):=by walk_at "F"
theorem QN:ar ["self", "word", "here", "there"] ["self", "word", "here", "there"] (aj N5):=by walk_at "F"
theorem Qe:ar ["self"] ["self"] (aj Nx):=by walk_at "F"
theorem Po:ar ["self", "here", "there"] ["self", "here", "there"] (aj Nl):=by walk_at "F"
theorem HL:ar ["self", "word", "here", "there", "lower"] ["self", "word", "here", "there"] (aj M5):=by walk_at "F"
theorem Px:ar ["self"] ["self"] (aj NV):=by walk_at "F"
theorem Pg:ar ["here", "there"] ["here", "there"] (aj N6):=by walk_at "F"
theorem Pu:ar ["pieces"] ["pieces"] (aj MN):=by walk_at "F"
theorem zI:ar ["piece", "stretches", "names"] ["piece"] (aj ND):=by walk_at "F"
theorem OB:ar ["fills"] ["fills"] (aj NW):=by walk_at "F"
theorem LF:ar ["pieces", "keys"] ["pieces", "keys"] (aj FO):=by walk_at "F"
theorem OX:ar ["pieces", "keys"] ["pieces", "keys"] (aj Nc):=by walk_at "F"
theorem Fo:ar ["pieces", "keys", "by_name"] ["pieces", "keys"] (aj MU):=by walk_at "F"
theorem gF:ar ["pieces", "keys", "by_name", "rows", "end", "key", "stretch", "place"] ["pieces", "keys"] (aj N0):=by walk_at "F"
theorem t_:ar ["by_name", "keys", "ordered", "code", "data"] ["by_name", "keys"] (aj Nq):=by walk_at "F"
theorem Qt:ar ["number", "step"] ["number", "step"] (aj NQ):=by walk_at "F"
theorem EM:ar ["piece"] ["piece"] (aj Ah):=by walk_at "F"
theorem cy:ar ["piece", "own", "wanted", "kind", "step", "words", "fills", "at", "rule", "name", "add", "soft"] ["piece"] (aj AU):=by walk_at "F"
theorem lR:ar ["pieces", "ordered", "names", "sort", "piece"] ["pieces"] (aj EZ):=by walk_at "F"
theorem l7:ar ["ordered", "tellers", "piece", "name", "twice", "least"] ["ordered"] (aj Oe):=by walk_at "F"
theorem Ax:ar ["piece", "names", "fills", "own"] ["piece", "names", "fills"] (aj Fz):=by walk_at "F"
theorem l_:ar ["piece_name", "own", "names", "fill", "name", "add", "soft", "place"] ["piece_name", "own", "names", "fill"] (aj NC):=by walk_at "F"
theorem jY:ar ["piece", "told_by", "places", "name", "sort", "stretch", "offset"] ["piece", "told_by"] (aj NH):=by walk_at "F"
theorem lN:ar ["given", "shelves", "entry", "taking", "ordered"] ["given", "shelves", "entry"] (aj wt):=by walk_at "F"
theorem Oo:ar ["given", "shelves", "entry"] ["given", "shelves", "entry"] (aj NP):=by walk_at "F"
theorem FD:ar ["self", "given", "shelves", "entry", "on_shelves", "least"] ["self", "given", "shelves", "entry"] (aj MT):=by walk_at "F"
theorem k8:ar ["self", "done", "piece", "name"] ["self"] (aj NX):=by walk_at "F"
theorem Gm:ar ["self", "name", "by", "piece"] ["self", "name", "by"] (aj Mm):=by walk_at "F"
theorem zh:ar ["shelves", "pieces", "shelf"] ["shelves"] (aj Nz):=by walk_at "F"
theorem oI:ar ["pieces", "seen", "again", "piece"] ["pieces"] (aj MQ):=by walk_at "F"
theorem pG:ar ["pieces", "first", "piece", "name"] ["pieces"] (aj Mw):=by walk_at "F"
theorem eX:ar ["pieces", "names", "root", "by_name", "first", "ways", "seen", "done", "by", "key", "at"] ["pieces", "names", "root"] (aj NR):=by walk_at "F"
theorem yO:ar ["piece", "number", "names", "fills", "aimed"] ["piece", "number", "names"] (aj Mt):=by walk_at "F"
theorem Ir:ar ["given", "shelves", "entry", "pieces"] ["given", "shelves", "entry"] (aj M4):=by walk_at "F"
theorem j9:ar ["given", "shelves", "entry", "pieces", "names", "keys", "joining", "start"] ["given", "shelves", "entry"] (aj Nj):=by walk_at "F"
theorem zY:ar ["pieces", "names", "entry", "root"] ["pieces", "names", "entry"] (aj FP):=by walk_at "F"
theorem rY:ar ["self", "pieces", "names", "rows", "by_name", "key", "place"] ["self", "pieces", "names", "rows"] (aj Mp):=by walk_at "F"
theorem fT:ar ["self", "piece", "number", "place", "stretch", "words", "fills", "fill", "aimed", "at", "rule", "here"] ["self", "piece", "number", "place"] (aj NK):=by walk_at "F"
theorem PK:ar ["self", "aimed"] ["self", "aimed"] (aj N_):=by walk_at "F"
theorem Qd:ar ["_law_script", "_law_k"] ["_law_script", "_law_k"] (aj MR):=by walk_at "F"
theorem gJ:ar ["_law_cell", "_law_k", "_law_signs", "_law_base", "_law_j", "_law_at", "_law_figures"] ["_law_cell", "_law_k"] (aj Np):=by walk_at "F"
theorem iI:ar ["_law_stretch", "_law_cell", "_law_number", "_law_names_by", "_law_words", "_law_rule", "_law_soft", "_law_add", "_law_name"] ["_law_stretch", "_law_cell", "_law_number", "_law_names_by"] (aj M6):=by walk_at "F"
theorem mm:ar ["_law_pieces", "_law_strong", "_law_number", "_law_names_by", "_law_piece", "_law_name", "_law_sort"] ["_law_pieces", "_law_strong", "_law_number", "_law_names_by"] (aj Mx):=by walk_at "F"
theorem j_:ar ["_law_cells", "_law_names_by", "_law_titles_by", "_law_pieces", "_law_strong", "_law_cell", "_law_number", "_law_kind"] ["_law_cells", "_law_names_by", "_law_titles_by"] (aj M_):=by walk_at "F"
theorem Jm:ar ["_law_names_by", "_law_titles_by", "_law_told"] ["_law_names_by", "_law_titles_by"] (aj MZ):=by walk_at "F"
theorem lM:ar ["_law_pieces", "_law_cell", "_law_some", "_law_number", "_law_piece"] ["_law_pieces", "_law_cell"] (aj N1):=by walk_at "F"
theorem yN:ar ["_law_some", "_law_entry", "_law_titles", "_law_why"] ["_law_some", "_law_entry"] (aj MY):=by walk_at "F"
theorem jJ:ar ["_law_some", "_law_titles", "_law_number", "_law_found", "_law_shelf", "_law_row", "_law_piece"] ["_law_some", "_law_titles", "_law_number"] (aj N9):=by walk_at "F"
theorem gy:ar ["_law_script", "_law_number", "_law_names_by", "_law_row", "_law_k", "_law_told", "_law_j", "_law_wanted", "_law_stretch"] ["_law_script", "_law_number"] (aj Nb):=by walk_at "F"
theorem gD:ar ["_law_script", "_law_names_by", "_law_titles_by", "_law_number", "_law_some", "_law_entry", "_law_due", "_law_fuller"] ["_law_script"] (aj Nv):=by walk_at "F"
theorem cK{CX P w K mg base N qual scope f cd Ar outer s H E}:(lq CX P w K mg base N qual scope f cd Ar outer s H E).K=K:=rfl
theorem bK{scope:Scope}:(BU X N' scope fp s H).K=X.K:=rfl
theorem Q1(a b:Str):(a++b).length=a.length+b.length:=Array.size_append
namespace K3
open PySem PySem.W PySem.Calls PyProof.Rows
theorem jW(a i j:Nat):(2 ^ i*a).testBit j=(decide (i<=j)&&a.testBit (j - i)):=by
 have h:=VP a (b:=0) (i:=i) (Nat.two_pow_pos i) j;rw[Nat.add_zero]at h;rw[h];by_cases c:j<i
 ·simp[c,Nat.not_le.mpr c]
 ·simp[c,Nat.not_lt.mp c]
theorem B7(W l m:Nat):W &&& (2 ^ l*(2 ^ m - 1))=2 ^ l*(W/2 ^ l%2 ^ m):=by
 apply Nat.eq_of_testBit_eq;intro j;rw[Nat.testBit_and,jW,jW,Nat.testBit_two_pow_sub_one,Nat.testBit_mod_two_pow,U9];by_cases c:l<=j
 ·have e:j - l+l=j:=by lia
  simp[c,e,Bool.and_comm]
 ·simp[c]
def rest(W l m:Nat):Nat:=2 ^ l*(2 ^ m*(W/2 ^ l/2 ^ m))+W%2 ^ l
theorem rest_eq(W l m:Nat):W=rest W l m+2 ^ l*(W/2 ^ l%2 ^ m):=by
 have h1:=Nat.div_add_mod W (2 ^ l);have h2:=Nat.div_add_mod (W/2 ^ l) (2 ^ m);unfold rest;have h3:2 ^ l*(2 ^ m*(W/2 ^ l/2 ^ m))+2 ^ l*(W/2 ^ l%2 ^ m)=2 ^ l*(W/2 ^ l):=by
  rw[<-Nat.mul_add,h2]
 lia
theorem r9(W l m j:Nat):(rest W l m).testBit j=if j<l then W.testBit j else (decide (l+m<=j)&&W.testBit j):=by
 unfold rest;rw[VP _ (Nat.mod_lt _ (Nat.two_pow_pos l))];by_cases c:j<l
 ·simp[c,Nat.testBit_mod_two_pow]
 ·simp only[c,if_false];rw[jW,U9,U9];by_cases d:l+m<=j
  ·have e:j - l+l=j:=by lia
   have d':m<=j - l:=by lia
   simp[d,d',e]
  ·have d':¬m<=j - l:=by lia
   simp[d,d']
theorem E5(W l m y:Nat)(hy:y<2 ^ m):rest W l m &&& (2 ^ l*y)=0:=by
 apply Nat.eq_of_testBit_eq;intro j;rw[Nat.testBit_and,r9,jW,Nat.zero_testBit];by_cases c:j<l
 ·have:¬l<=j:=by lia
  simp[this]
 ·by_cases d:l+m<=j
  ·have:y.testBit (j - l)=false:=VF (kx hy (Rl (by decide) (by lia)));simp[this]
  ·simp[c,d]
def put(W l m y:Nat):Nat:=rest W l m+2 ^ l*y
theorem PB(W l m y:Nat)(hy:y<2 ^ m):rest W l m ||| (2 ^ l*y)=put W l m y:=by
 apply Nat.eq_of_testBit_eq;intro j;have e:put W l m y=2 ^ l*(2 ^ m*(W/2 ^ l/2 ^ m)+y)+W%2 ^ l:=by
  unfold put rest;rw[Nat.mul_add];lia
 rw[e,Nat.testBit_or,r9,jW,VP _ (Nat.mod_lt _ (Nat.two_pow_pos l)),VP _ hy];by_cases c:j<l
 ·have:¬l<=j:=by lia
  simp[c,this,Nat.testBit_mod_two_pow]
 ·have c':l<=j:=by lia
  by_cases d:l+m<=j
  ·have z:y.testBit (j - l)=false:=VF (kx hy (Rl (by decide) (by lia)));have d':¬(j - l<m):=by lia
   have e:j - l - m+m+l=j:=by lia
   rw[U9,U9];simp[c,c',d,d',z,e]
  ·have d':j - l<m:=by lia
   simp[c,c',d,d']
theorem OT(W l m y j:Nat)(hy:y<2 ^ m):(put W l m y).testBit j=if l<=j/\j<l+m then y.testBit (j - l) else W.testBit j:=by
 rw[<-PB W l m y hy,Nat.testBit_or,r9,jW];by_cases c:j<l
 ·have:¬l<=j:=by lia
  simp[c,this]
 ·have c':l<=j:=by lia
  by_cases d:l+m<=j
  ·have z:y.testBit (j - l)=false:=VF (kx hy (Rl (by decide) (by lia)));have d':¬(j<l+m):=by lia
   simp[c,c',d,d',z]
  ·have d':j<l+m:=by lia
   simp[c,c',d,d']
theorem QX(W l m y:Nat)(hy:y<2 ^ m)(hw:W<2 ^ 32)(h:l+m<=32):put W l m y<2 ^ 32:=by
 apply Nat.lt_pow_two_of_testBit;intro j hj;rw[OT W l m y j hy];have:¬(l<=j/\j<l+m):=by lia
 simp only[this,if_false];exact VF (kx hw (Rl (by decide) hj))
def pw(m:Int):Int:=2 ^ m.toNat
theorem pow_pos(k:Nat):(0:Int)<2 ^ k:=Int.pow_pos (by decide)
theorem j5(m:Int):0<pw m:=pow_pos _
theorem mh(k:Nat):((2 ^ k:Nat):Int)=(2:Int) ^ k:=by
 induction k with
 |zero=>rfl
 |succ k ih=>rw[Nat.pow_succ,Int.pow_succ,Int.natCast_mul,ih];rfl
theorem uV(m:Int):pw m=((2 ^ m.toNat:Nat):Int):=(mh _).symm
def putF(w l m n:Int):Int:=(put w.toNat l.toNat m.toNat (n.fmod (pw m)).toNat:Nat)
theorem hZ(n m:Int):(n.fmod (pw m)).toNat<2 ^ m.toNat:=by
 have a:=Int.fmod_nonneg_of_pos n (j5 m);have b:=Int.fmod_lt_of_pos n (j5 m);have c:=uV m;omega
theorem Pj(hw:0<=w):
  Builtin.bitOr (Builtin.bitAnd w (Builtin.bitNot ((pw m - 1)*pw l))) (n.fmod (pw m)*pw l)=putF w l m n:=by
 have a:=Int.fmod_nonneg_of_pos n (j5 m);have hy:=hZ n m;have pm:=j5 m;have pl:=j5 l;have e1:Builtin.bitAnd w ((pw m - 1)*pw l)=((2 ^ l.toNat*(w.toNat/2 ^ l.toNat%2 ^ m.toNat):Nat):Int):=by
  have z:0<=(pw m - 1)*pw l:=Int.mul_nonneg (by lia) (by lia);have t:((pw m - 1)*pw l).toNat=2 ^ l.toNat*(2 ^ m.toNat - 1):=by
   have c1:=uV m;have c2:=uV l;have c3:pw m - 1=((2 ^ m.toNat - 1:Nat):Int):=by
    have:=Nat.two_pow_pos m.toNat;lia
   rw[c3,c2,<-Int.natCast_mul,C0,Nat.mul_comm]
  rw[bitAnd_pp hw z,t,B7]
 have e2:Builtin.bitAnd w (Builtin.bitNot ((pw m - 1)*pw l))=(rest w.toNat l.toNat m.toNat:Nat):=by
  rw[bitAnd_not,e1];have:=rest_eq w.toNat l.toNat m.toNat;lia
 have e3:n.fmod (pw m)*pw l=((2 ^ l.toNat*(n.fmod (pw m)).toNat:Nat):Int):=by
  rw[Int.natCast_mul,<-uV l,UJ a,Int.mul_comm]
 have e4:Builtin.bitAnd ((rest w.toNat l.toNat m.toNat:Nat):Int) ((2 ^ l.toNat*(n.fmod (pw m)).toNat:Nat):Int)=0:=by
  rw[bitAnd_pp (by lia) (by lia),C0,C0,E5 _ _ _ _ hy];rfl
 rw[e2,e3,bitOr_and,e4,Int.sub_zero];unfold putF put;rw[Int.natCast_add]
theorem iM(hw:0<=w)(hw1:w<=4294967295)(hl:0<=l)(hm:0<=m)(hlm:l+m<=32):0<=putF w l m n/\putF w l m n<=4294967295:=by
 have h:=QX w.toNat l.toNat m.toNat (n.fmod (pw m)).toNat (hZ n m) (by lia) (by lia);unfold putF;lia
def kA(m:Int):Int:=pw m - 1
theorem KY(h:a<=b):(2:Int) ^ a<=2 ^ b:=by
 have:=Rl (show 0<2 by decide) h;rw[<-mh,<-mh];lia
theorem yU(m:Int)(h:m<=32):0<=kA m/\kA m<=4294967295:=by
 have a:=j5 m;have b:pw m<=4294967296:=by
  have:=KY (a:=m.toNat) (b:=32) (by lia);unfold pw;have e:(2:Int) ^ 32=4294967296:=by decide
  lia
 unfold kA;lia
def dJ(n up:Int):Int:=if up<0 then n.fdiv (pw (-up)) else n*pw up
theorem y6(h:up<0):n.fdiv (2 ^ (-up).toNat)=dJ n up:=by
 unfold dJ;rw[if_pos h];rfl
theorem GJ(h:¬up<0):n*2 ^ up.toNat=dJ n up:=by
 unfold dJ;rw[if_neg h];rfl
theorem Ky(h:k=m\/(m<=0/\k=0)):(1:Int)*2 ^ k.toNat - 1=kA m:=by
 have e:k.toNat=m.toNat:=by lia
 rw[e,Int.one_mul];rfl
theorem LU(hr:r=Builtin.bitAnd n (kA m))(hw:0<=w)(hw1:w<=4294967295)(hl:0<=l)(hm:1<=m)(hlm:l+m<=32):
  (Builtin.bitOr (Builtin.bitAnd w (Builtin.bitNot (dJ (kA m) l))) (dJ r l)).fmod 4294967296=putF w l m n:=by
 have e1:dJ (kA m) l=(pw m - 1)*pw l:=by
  unfold dJ;rw[if_neg (by lia)];rfl
 have e2:r=n.fmod (pw m):=by
  rw[hr];show Builtin.bitAnd n (2 ^ m.toNat - 1)=_;rw[kbt_maskF];rfl
 have e3:dJ r l=n.fmod (pw m)*pw l:=by
  unfold dJ;rw[if_neg (by lia),e2]
 rw[e1,e3,Pj hw];have:=iM (n:=n) hw hw1 hl (by lia) hlm;rw[Int.fmod_eq_emod_of_nonneg _ (by decide)];lia
def sg(n m:Int):Int:=(n+pw (m - 1)).fmod (pw m) - pw (m - 1)
end K3
def OC:Sp:=λvs H Q _=>∃n:Int,vs=[.int n]/\Q (.int (n%4294967296)) H
def GO:Sp:=λvs H Q _=>∃n u:Int,vs=[.int n,.int u]/\0<=n/\n<=4294967296/\u<=100/\Q (.int (K3.dJ n u)) H
def K6:Sp:=λvs H Q _=>∃m:Int,vs=[.int m]/\0<=m/\m<=32/\Q (.int (K3.kA m)) H
structure ay where
 name:Str
 t:Addr
 a:Str
 b:Int
 c:Int
def ay.kv(m:ay):Key×V:=(.inr m.name,.ref m.t)
def ay.At(H:Hp)(m:ay):Prop:=H m.t=some (.tup [.str m.a,.int m.b,.int m.c])
structure Tab(H:Hp)(d:Addr)(ms:List ay):Prop where
 top:H d=some (.dK (ms.map ay.kv))
 at_:∀m∈ms,ay.At H m
def aL(ms:List ay)(z:Str):Option ay:=ms.find? λm=>decide (m.name=z)
def fe(ms:List ay)(m:ay):List ay:=if (ms.any λn=>decide (n.name=m.name))=true then ms.map (λn=>if n.name=m.name then m else n) else ms++[m]
theorem DX(ms:List ay)(z:Str):br (ms.map ay.kv) (.inr z)=(aL ms z).map λm=>V.ref m.t:=by
 unfold br aL;rw[KO,MS];congr 1;congr 1;funext m;simp[ay.kv]
theorem Oz(ms:List ay)(z:Str):((ms.map ay.kv).any λkv=>decide (kv.1=(.inr z:Key)))=ms.any λn=>decide (n.name=z):=by
 rw[List.any_map];congr 1;funext m;simp[ay.kv]
theorem Jx(ms:List ay)(m:ay):putK (ms.map ay.kv) (.inr m.name) (.ref m.t)=(fe ms m).map ay.kv:=by
 unfold putK fe;rw[Oz];by_cases h:(ms.any λn=>decide (n.name=m.name))=true
 ·rw[if_pos h,if_pos h,cC,cC];congr 1;funext n;by_cases e:n.name=m.name
  ·simp[ay.kv,e]
  ·simp[ay.kv,e]
 ·rw[if_neg h,if_neg h,bu];rfl
theorem yg(h:n∈fe ms m):n∈ms\/n=m:=by
 unfold fe at h;split at h
 ·obtain⟨x,hx,e⟩:=aQ.mp h;split at e
  ·exact .inr e.symm
  ·exact .inl (e▸hx)
 ·rcases bM.mp h with z|z
  ·exact .inl z
  ·exact .inr (cx.mp z)
theorem Ep:(fe ms m).length<=ms.length+1:=by
 unfold fe;split
 ·rw[aD];lia
 ·rw[dv];simp
theorem ED(h:m.name∉ms.map ay.name):fe ms m=ms++[m]:=by
 unfold fe;rw[if_neg];intro z;obtain⟨n,hn,e⟩:=nj.mp z;exact h (aQ.mpr ⟨n,hn,of_decide_eq_true e⟩)
theorem Tab.mono{H H':Hp}{d:Addr}{ms:List ay}(h:Tab H d ms)(e:aI H H'):Tab H' d ms:=⟨e _ _ h.top,λm hm=>e _ _ (h.at_ m hm)⟩
theorem Tab.put{H:Hp}{d:Addr}{ms:List ay}{m:ay}(h:Tab H d ms)(hm:ay.At H m):Tab (upd H d (.dK (putK (ms.map ay.kv) (.inr m.name) (.ref m.t)))) d (fe ms m):=by
 refine⟨by rw[aJ,Jx],λn hn=>?_⟩;have tup:∀n:ay,ay.At H n->ay.At (upd H d (.dK (putK (ms.map ay.kv) (.inr m.name) (.ref m.t)))) n:=λn hn=>by
  unfold ay.At;rw[ae (cj hn h.top 'k')];exact hn
 rcases yg hn with z|z
 ·exact tup n (h.at_ n z)
 ·rw[z];exact tup m hm
def dM:Str:=s!"own"
def bE(p:ah)(ms:List ay)(f:aB):Option (Str×Int×Int):=
 match p.aS.find? λn=>decide (n.name=f.name)&&decide (n.sort=dM) with
 |some n=>some (p.name,n.st,n.off)
 |none=>(aL ms f.name).map λm=>(m.a,m.b,m.c)
def Ks(a:Str)(b c:Int):HO:=.tup [.str a,.int b,.int c]
def CB:Sp:=λvs H Q _=>∃(p:ah) (z:Str),vs=[p.v,.str z]/\p.At H/\p.aS.length<=61/\'V'.Nodup/\
 ∀d ms H',aI H H'->Tab H' d ms->ms.map (λm=>(m.name,m.a,m.b,m.c))=(p.aS.filter λn=>decide (n.sort=z)).map (λn=>(n.name,p.name,n.st,n.off))->H d=none->Q (.ref d) H'
structure PL(H:Hp)(L:Addr)(ps:List ah):Prop where
 top:H L=some (.lst (ps.map ah.v))
 at_:∀p∈ps,p.At H
def bP:Str:=s!"tell"
def eI:Str:=s!"weak"
def c6(ps:List ah):List (Str×aw):=ps.flatMap λp=>p.aS.map λn=>(p.name,n)
def S6(r:Str×aw):Str×Int×Int:=(r.1,r.2.st,r.2.off)
def ay.vl(m:ay):Str×Int×Int:=(m.a,m.b,m.c)
def leN(a b:Str):Prop:=¬b.cps.toList<a.cps.toList
structure fW(R:List (Str×aw))(ms:List ay):Prop where
 nd:(ms.map ay.name).Nodup
 OG:∀z m,aL ms z=some m->(∃r∈R,r.2.name=z/\r.2.sort=bP/\ay.vl m=S6 r)\/((∀r∈R,r.2.name=z->r.2.sort≠bP)/\∃r∈R,r.2.name=z/\r.2.sort=eI/\ay.vl m=S6 r/\∀r'∈R,r'.2.name=z->r'.2.sort=eI->leN r.1 r'.1)
 bB:∀z,aL ms z=none->∀r∈R,r.2.name=z->r.2.sort≠bP/\r.2.sort≠eI
structure Kn(ps:List ah):Prop where
 bQ:ps.length<=20
 nd:'r'.Nodup
 aS:∀p∈ps,p.aS.length<=61/\'V'.Nodup
 tw:ps.Pairwise λp q=>∀x∈p.aS,∀y∈q.aS,x.sort=bP->y.sort=bP->x.name≠y.name
def Cv:Sp:=λvs H Q _=>∃(L:Addr) (ps:List ah),vs=[.ref L]/\PL H L ps/\Kn ps/\∀H',aI H H'->Q .bB H'
def iH:Pos:=⟨173,33,173,55⟩
def iL:Str:=(s!"names_of" ++ s!".<locals>.")++s!"<lambda>"
def yX(A:Ad):Sp:=λvs H Q _=>∃(L:Addr) (ps:List ah),vs=[.ref L]/\PL H L ps/\Kn ps/\bU A.bf iH iL H/\
 ∀(d:Addr) (ms:List ay) (H':Hp),eM A.bf H H'->bU A.bf iH iL H'->Tab H' d ms->fW (c6 ps) ms->H d=none->Q (.ref d) H'
def ig(p:ah):List Str:=(p.aS.filter λn=>decide (n.sort≠dM)).map aw.name
def dS(p:ah)(z:Str):Bool:=p.aS.any λn=>decide (n.name=z)&&decide (n.sort=dM)
def addW(W:List Str)(y:Str):List Str:=if y∈W then W else W++[y]
def jc(y:Str):Key×V:=(.inr y,.bl true)
def jf(p:ah)(W:List Str)(f:aB):List Str:=if (!f.soft && !dS p f.name)=true then addW W f.name else W
def aZ(ss:List aM):List aB:=ss.flatMap aM.fills
def yk(p:ah):List Str:=(aZ p.aO).foldl (jf p) []
def yb(l:Addr)(N:List Str)(H:Hp):Prop:=∃ss:List Str,ss.Perm N/\ss.Pairwise sH/\H l=some (.lst (ss.map V.str))
structure yu(p:ah):Prop where
 nm:p.aS.length<=61
 st:p.aO.length<=61
 ss:∀s∈p.aO,s.words.length<=61/\s.fills.length<=61
 fl:(aZ p.aO).length<=61
 nd:'V'.Nodup
def GB:Sp:=λvs H Q _=>∃p:ah,vs=[p.v]/\p.At H/\yu p/\∀l H',aI H H'->yb l (ig p) H'->H l=none->Q (.ref l) H'
def Jp:Sp:=λvs H Q _=>∃p:ah,vs=[p.v]/\p.At H/\yu p/\∀l H',aI H H'->yb l (yk p) H'->H l=none->Q (.ref l) H'
abbrev Co:=Str×List aw×List (Str×Int×List Int×List aB)
def aw.e(n:aw):aw:={ n with a:=0 }
def aB.e(f:aB):aB:={ f with a:=0 }
def aM.e(s:aM):Str×Int×List Int×List aB:=(s.kind,s.step,s.words,s.fills.map aB.e)
def aC(p:ah):Co:=(p.name,p.aS.map aw.e,p.aO.map aM.e)
def cD(z:Str)(c:Co):Bool:=c.2.1.any λn=>decide (n.name=z) && !decide (n.sort=dM)
def IU(z:Str)(c:Co):Bool:=c.2.1.any λn=>decide (n.name=z)&&decide (n.sort=dM)
def bH(z:Str)(c:Co):Bool := !IU z c&&c.2.2.any λs=>s.2.2.2.any λf=>decide (f.name=z) && !f.soft
def bw(cs:List Co)(z:Str):Option Co:=cs.find? (cD z)
def dR(ps:List ah)(z:Str):Option ah:=ps.find? λp=>cD z (aC p)
structure iN(G S:List Co)(e:Str)(T:List Co)(rs:List (Str×Str×Str)):Prop where
 nd:(T.map (·.1)).Nodup
 sub:∀p∈T,p∈S
 len:rs.map (·.1)=T.map (·.1)
 zO:∀(i:Nat) (p:Co) (r:Str×Str×Str),T[i]?=some p->rs[i]?=some r->bw G r.2.1=none/\bw S r.2.1=some p/\(r.2.2=s!"" /\ r.2.1=e\/∃q∈G++T.take i,q.1=r.2.2/\bH r.2.1 q=true)
def gC(G S T:List Co)(z:Str):Prop:=(bw G z).isSome=true\/∃p∈T,bw S z=some p
def eJ(G S:List Co)(e:Str)(T:List Co):Prop:=gC G S T e/\∀q∈G++T,∀z,bH z q=true->gC G S T z
def Fd(G S:List Co)(z:Str):Prop:=(bw G z).isSome=true\/(bw S z).isSome=true
structure Rw(G S:List Co)(e:Str)(W:Str->Prop):Prop where
 ent:W e
 met:∀z,W z->Fd G S z
 ZO:∀p∈G,∀z,bH z p=true->W z
 Zu:∀z p,W z->bw G z=none->bw S z=some p->∀y,bH y p=true->W y
structure Fc(G S:List ah)(e:Str):Prop where
 bQ:(G++S).length<=20
 Sn:∀p∈G++S,yu p
 nd:((G++S).map ah.name).Nodup
 ent:Fd (G.map aC) (S.map aC) e
 met:∃W:Str->Prop,Rw (G.map aC) (S.map aC) e W
structure AV(H:Hp)(S:Addr)(xs:List (Addr×List ah)):Prop where
 top:H S=some (.lst (xs.map λx=>V.ref x.1))
 at_:∀x∈xs,PL H x.1 x.2
def flat(xs:List 't'):List ah:=xs.flatMap (·.2)
def RP:Sp:=λvs H Q _=>∃(S:Addr) (xs:List 't'),vs=[.ref S]/\AV H S xs/\(flat xs).length<=100/\∀(l:Addr) (H':Hp),aI H H'->H l=none->H' l=some (.lst ((flat xs).map ah.v))->Q (.ref l) H'
def Ci:Sp:=λvs H Q _=>∃(L:Addr) (ps:List ah),vs=[.ref L]/\PL H L ps/\ps.length<=100/\'r'.Nodup/\∀H',aI H H'->Q .bB H'
def Zi(H:Hp)(d:Addr)(ps:List ah):Prop:=∃ag:List (Key×V),H d=some (.dK ag)/\∀z,br ag (.inr z)=(dR ps z).map ah.v
def J7:Sp:=λvs H Q _=>∃(L:Addr) (ps:List ah),vs=[.ref L]/\PL H L ps/\ps.length<=20/\(∀p∈ps,yu p)/\∀(d:Addr) (H':Hp),aI H H'->H d=none->Zi H' d ps->Q (.ref d) H'
structure jF where
 x:Addr
 dx:Addr
 lp:Addr
 lr:Addr
 dg:Addr
 ds:Addr
 df:Addr
 du:Addr
def jF.attrs(t:jF):List (Str×V):=putF s!"unmet" (.ref t.du) (putF s!"from_shelves" (.ref t.df) (putF s!"on_shelves" (.ref t.ds) (putF s!"told_by_given" (.ref t.dg) (putF s!"reasons" (.ref t.lr) (putF s!"pieces" (.ref t.lp) [])))))
abbrev Iu:=Addr×Str×Str×Str
structure zP(C:Addr)(H:Hp)(t:jF)(G S T:List ah)(rs:List Iu):Prop where
 top:H t.x=some (.ins C t.dx t.attrs)
 lp:H t.lp=some (.lst ((G++T).map ah.v))
 lr:H t.lr=some (.lst (rs.map λr=>V.ref r.1))
 rs:∀r∈rs,H r.1=some (.tup [.str r.2.1,.str r.2.2.1,.str r.2.2.2])
 dg:Zi H t.dg G
 ds:Zi H t.ds S
 df:H t.df=some (.dK ((T.map ah.name).map jc))
 du:H t.du=some (.dK [])
 at_:∀p∈G++S,p.At H/\t.lp∉p.lists/\t.lr∉p.lists
 ne:t.lp≠t.lr
 nf:t.dg≠t.df/\t.ds≠t.df/\t.du≠t.df
 sub:∀p∈T,p∈S
def Lq(t:jF)(H H':Hp):Prop:=∀b o,b≠t.lp->b≠t.lr->b≠t.df->H b=some o->H' b=some o
def y8(C:Addr):Sp:=λvs H Q _=>∃(t:jF) (z b e:Str) (G S T:List ah) (rs:List Iu),vs=[.ref t.x,.str z,.str b]/\zP C H t G S T rs/\Fc G S e/\Fd (G.map aC) (S.map aC) z/\iN (G.map aC) (S.map aC) e (T.map aC) (rs.map (·.2))/\(b=s!"" /\ z=e\/∃q∈G++T,q.name=b/\bH z (aC q)=true)/\
 ∀(T':List ah) (rs':List Iu) (H':Hp),zP C H' t G S (T++T') rs'->Lq t H H'->iN (G.map aC) (S.map aC) e ((T++T').map aC) (rs'.map (·.2))->gC (G.map aC) (S.map aC) ((T++T').map aC) z->Q .bB H'
def P9(C:Addr):Sp:=λvs H Q _=>∃(t:jF) (e:Str) (G S T:List ah) (rs:List Iu),vs=[.ref t.x]/\zP C H t G S T rs/\Fc G S e/\iN (G.map aC) (S.map aC) e (T.map aC) (rs.map (·.2))/\gC (G.map aC) (S.map aC) (T.map aC) e/\
 ∀(T':List ah) (rs':List Iu) (H':Hp),zP C H' t G S T' rs'->Lq t H H'->iN (G.map aC) (S.map aC) e (T'.map aC) (rs'.map (·.2))->eJ (G.map aC) (S.map aC) e (T'.map aC)->Q .bB H'
def Rh(H:Hp)(g s:Addr)(e:Str)(G:List ah)(xs:List 't'):Prop:=PL H g G/\AV H s xs/\Fc G (flat xs) e
def B8(C:Addr):Sp:=λvs H Q _=>∃(x dx g s:Addr) (e:Str) (G:List ah) (xs:List 't'),vs=[.ref x,.ref g,.ref s,.str e]/\H x=some (.ins C dx [])/\Rh H g s e G xs/\
 ∀(t:jF) (T:List ah) (rs:List Iu) (H':Hp),t.x=x->zP C H' t G (flat xs) T rs->(∀b o,b≠x->H b=some o->H' b=some o)->H t.lp=none->H t.lr=none->iN (G.map aC) 'H' e (T.map aC) (rs.map (·.2))->eJ (G.map aC) 'H' e (T.map aC)->Q .bB H'
def O0:Sp:=λvs H Q _=>∃(g s:Addr) (e:Str) (G:List ah) (xs:List 't'),vs=[.ref g,.ref s,.str e]/\Rh H g s e G xs/\
 ∀(l:Addr) (T:List Co) (rs:List Iu) (H':Hp),aI H H'->H l=none->H' l=some (.lst (rs.map λr=>V.ref r.1))->(∀r∈rs,H' r.1=some (.tup [.str r.2.1,.str r.2.2.1,.str r.2.2.2]))->iN (G.map aC) 'H' e T (rs.map (·.2))->eJ (G.map aC) 'H' e T->Q (.ref l) H'
def y9:Pos:=⟨211,40,211,62⟩
def yH:Str:=(s!"taken" ++ s!".<locals>.")++s!"<lambda>"
def BI:Sp:=λvs H Q _=>∃(l:Addr) (fs:List aB),vs=[.ref l]/\H l=some (.lst (fs.map aB.v))/\(∀f∈fs,f.At H)/\fs.length<=62/\∀(l':Addr) (gs:List aB) (H':Hp),aI H H'->H l'=none->H' l'=some (.lst (gs.map aB.v))->(∀f∈gs,f.At H')->gs.map aB.e=fs.map aB.e->Q (.ref l') H'
def CN:Sp:=λvs H Q _=>∃p:ah,vs=[p.v]/\p.At H/\p.aO.length<=62/\p.aS.length<=62/\(∀s∈p.aO,s.fills.length<=62)/\∀(q:ah) (H':Hp),aI H H'->q.At H'->aC q=aC p->(∀b∈q.lists,H b=none)->q.lists.Nodup->Q q.v H'
def JC(A:Ad):Sp:=λvs H Q _=>∃(g s:Addr) (e:Str) (G:List ah) (xs:List 't'),vs=[.ref g,.ref s,.str e]/\Rh H g s e G xs/\bU A.aK y9 yH H/\
 ∀(l:Addr) (T:List Co) (rs:List (Str×Str×Str)) (qs:List ah) (H':Hp),eM A.aK H H'->bU A.aK y9 yH H'->dZ H' l qs->(∀b∈l::bj qs,H b=none)->iN (G.map aC) 'H' e T rs->eJ (G.map aC) 'H' e T->(qs.map aC).Perm (G.map aC++T)->(qs.map ah.name).Pairwise sH->Q (.ref l) H'
def jN(H H':Hp):Prop:=∀b o,((∃xs,o=.lst xs)\/∃xs,o=.tup xs)->H b=some o->H' b=some o
def Cb:Sp:=λvs H Q _=>∃(L:Addr) (ps:List ah),vs=[.ref L]/\dZ H L ps/\ps.length<=100/\∀(d:Addr) (H':Hp),aI H H'->H' d=some (.dK (cn [] (ps.map λp=>(.inr p.name,p.v))))->H d=none->Q (.ref d) H'
def gE(ps:List ah)(n:Str):Option ah:=ps.find? λp=>decide (p.name=n)
def eG(ps:List ah)(k:aF):Option aM:=(gE ps k.1).bind λp=>if 0<=k.2 then p.aO[k.2.toNat]? else none
structure i9(H:Hp)(ps:List ah):Prop where
 at_:∀p∈ps,p.At H
 nd:'r'.Nodup
 st:∀p∈ps,∀s∈p.aO,1<=s.step/\s.step<=65536/\(s.kind=s!"code" \/ s.kind=s!"data")/\s.words.length<=1000
def xX(H:Hp)(a:Addr)(qs:List (Addr×aF)):Prop:=H a=some (.lst (qs.map λq=>V.ref q.1))/\∀q∈qs,H q.1=some (.tup [.str q.2.1,.int q.2.2])
def cb(n st:Int):Int:=(n+st - 1)/st*st
def Lp:Sp:=λvs H Q _=>∃n st:Int,vs=[.int n,.int st]/\0<=n/\n<=10 ^ 12/\1<=st/\st<=65536/\Q (.int (cb n st)) H
def cU(ps:List ah)(kd:Str)(k:aF):Bool:=decide ((eG ps k).map aM.kind=some kd)
def h_(ps:List ah)(ks ls:List aF):Prop:=∃ss:List aF,ss.Perm ks/\ss.Pairwise kF/\ls=ss.filter (cU ps s!"code")++ss.filter (cU ps s!"data")
def FG:Sp:=λvs H Q _=>∃(d a:Addr) (ps:List ah) (qs:List (Addr×aF)),vs=[.ref d,.ref a]/\H d=some (.dK (cn [] (ps.map λp=>(.inr p.name,p.v))))/\i9 H ps/\xX H a qs/\qs.length<64/\(∀q∈qs,(eG ps q.2).isSome=true)/\
 ∀(l:Addr) (rs:List (Addr×aF)) (H':Hp),aI H H'->H l=none->xX H' l rs->h_ ps (qs.map (·.2)) (rs.map (·.2))->Q (.ref l) H'
def bF:Int->List aM->List (Int×Int)
 |_,[]=>[]
 |e,s::r=>(cb e s.step,cb e s.step+(s.words.length:Int))::bF (cb e s.step+(s.words.length:Int)) r
structure dQ where
 t:Addr
 b:Addr
 k:aF
 p:Int
 e:Int
def dQ.vs(r:dQ)(full:Bool):List V:=if full=true then [.ref r.b,.int r.p,.int r.e] else [.ref r.b,.int r.p]
structure mi(H:Hp)(full:Bool)(l:Addr)(ps:List ah)(ks:List aF)(rs:List dQ):Prop where
 top:H l=some (.lst (rs.map λr=>V.ref r.t))
 row:∀r∈rs,H r.t=some (.tup (r.vs full))
 key:∀r∈rs,H r.b=some (.tup [.str r.k.1,.int r.k.2])
 ord:h_ ps ks (rs.map (·.k))
 lay:∃ss:List aM,rs.map (λr=>eG ps r.k)=ss.map some/\rs.map (λr=>(r.p,r.e))=bF 0 ss
def QW:Sp:=λvs H Q _=>∃(L a:Addr) (ps:List ah) (qs:List (Addr×aF)),vs=[.ref L,.ref a]/\dZ H L ps/\ps.length<=100/\i9 H ps/\xX H a qs/\qs.length<64/\(∀q∈qs,(eG ps q.2).isSome=true)/\
 ∀(l:Addr) (rs:List dQ) (H':Hp),aI H H'->H l=none->mi H' true l ps (qs.map (·.2)) rs->Q (.ref l) H'
def Wd(H:Hp)(vs:List V)(ps:List ah)(ks:List aF):Prop:=∃(L a:Addr) (qs:List (Addr×aF)),vs=[.ref L,.ref a]/\ks=qs.map (·.2)/\dZ H L ps/\ps.length<=100/\i9 H ps/\xX H a qs/\qs.length<64/\∀q∈qs,(eG ps q.2).isSome=true
def Lf:Sp:=λvs H Q _=>∃(ps:List ah) (ks:List aF),Wd H vs ps ks/\∀(l:Addr) (rs:List dQ) (H':Hp),aI H H'->H l=none->mi H' false l ps ks rs->Q (.ref l) H'
def BW:Sp:=λvs H Q _=>∃(ps:List ah) (ks:List aF),Wd H vs ps ks/\∀(m:Int) (H':Hp),aI H H'->(∃(ls:List aF) (ss:List aM),h_ ps ks ls/\ls.map (eG ps)=ss.map some/\cV ((bF 0 ss).map (·.2)) 0 m)->Q (.int m) H'
def BO:Sp:=λvs H Q _=>∃(ps:List ah) (ks:List aF),Wd H vs ps ks/\∀(m:Int) (H':Hp),aI H H'->(∃ss:List aM,ks.map (eG ps)=ss.map some/\cV (ss.map aM.step) 1 m)->Q (.int m) H'
def Ca:Sp:=λvs H Q _=>∃(pn:Str) (dO dN:Addr) (f:aB) (mo mn:List ay),vs=[.str pn,.ref dO,.ref dN,f.v]/\f.At H/\Tab H dO mo/\Tab H dN mn/\
 (∀m,((aL mo f.name).or (aL mn f.name))=some m->∀q,H q=none->Q (.ref q) (upd H q (Ks m.a m.b (m.c+f.add))))/\((aL mo f.name).or (aL mn f.name)=none->f.soft=true/\Q (.int (f.add%4294967296)) H)
def K_(H:Hp)(p:ah)(mn:List ay)(f:aB)(v:V):Prop:=(∃a b c q,bE p mn f=some (a,b,c)/\v=.ref q/\H q=some (Ks a b (c+f.add)))\/(bE p mn f=none/\v=.int (f.add%4294967296))
def C9:Sp:=λvs H Q _=>∃(p:ah) (dN l:Addr) (fs:List aB) (mn:List ay),vs=[p.v,.ref dN,.ref l]/\p.At H/\p.aS.length<=61/\'V'.Nodup/\Tab H dN mn/\H l=some (.lst (fs.map aB.v))/\fs.length<=61/\(∀f∈fs,f.At H/\(bE p mn f=none->f.soft=true))/\
 ∀(l':Addr) (ys:List V) (H':Hp),aI H H'->H' l'=some (.lst ys)->ys.length=fs.length->(∀(i:Nat) f v,fs[i]?=some f->ys[i]?=some v->K_ H' p mn f v)->H l'=none->Q (.ref l') H'
structure L7 where
 t:Addr
 k:Addr
 a:Str
 b:Int
 at_:Int
def L7.At(H:Hp)(w:L7):Prop:=H w.t=some (.tup [.ref w.k,.int w.at_])/\H w.k=some (.tup [.str w.a,.int w.b])
def keysOf(p:ah)(mn:List ay)(fs:List aB):List (Str×Int×Int):=fs.filterMap λf=>(bE p mn f).map λr=>(r.1,r.2.1,f.at_)
def Md:Sp:=λvs H Q _=>∃(p:ah) (n:Int) (dN:Addr) (mn:List ay) (st:aM),vs=[p.v,.int n,.ref dN]/\p.At H/\p.aS.length<=61/\'V'.Nodup/\Tab H dN mn/\0<=n/\p.aO[n.toNat]?=some st/\st.fills.length<=61/\(∀f∈st.fills,bE p mn f=none->f.soft=true)/\
 ∀(l':Addr) (ws:List L7) (H':Hp),aI H H'->H' l'=some (.lst (ws.map λw=>V.ref w.t))->(∀w∈ws,w.At H')->ws.map (λw=>(w.a,w.b,w.at_))=keysOf p mn st.fills->H l'=none->Q (.ref l') H'
abbrev K2:=Str×Int
structure Wy where
 key:K2
 V5:Option (K2×Int)
def bL(ps:List ah)(mn:List ay)(k:K2):List (K2×Int):=
 match gE ps k.1 with
 |none=>[]
 |some p=>match p.aO[k.2.toNat]? with
  |none=>[]
  |some st=>(keysOf p mn st.fills).map λt=>((t.1,t.2.1),t.2.2)
def yM(acc:List Wy)(k:K2):Bool:=acc.any λw=>decide (w.key=k)
def eC(b:K2)(acc:List Wy)(t:K2×Int):List Wy:=if yM acc t.1=true then acc else acc++[⟨t.1,some (b,t.2)⟩]
def gH(ps:List ah)(mn:List ay)(acc:List Wy)(k:K2):List Wy:=(bL ps mn k).foldl (eC k) acc
def reachF(ps:List ah)(mn:List ay):Nat->Nat->List Wy->List Wy
 |0,_,acc=>acc
 |n+1,d,acc=>match acc[d]? with
  |none=>acc
  |some w=>reachF ps mn n (d+1) (gH ps mn acc w.key)
def aA(ps:List ah):List K2:=ps.flatMap λp=>(List.range p.aO.length).map λi:Nat=>(p.name,(i:Int))
def bc(ps:List ah)(mn:List ay)(r:K2):List Wy:=reachF ps mn ((aA ps).length+1) 0 [⟨r,none⟩]
structure Ew where
 t:Addr
 k:Addr
 b:Addr
 w:Wy
def kT(k:K2):List V:=[.str k.1,.int k.2]
structure Ew.At(H:Hp)(r:Ew):Prop where
 k:H r.k=some (.tup (kT r.w.key))
 n:r.w.V5=none->H r.t=some (.tup [.ref r.k,.bB,.bB])
 s:∀y a,r.w.V5=some (y,a)->H r.t=some (.tup [.ref r.k,.ref r.b,.int a])/\H r.b=some (.tup (kT y))
structure BS(H:Hp)(L dN:Addr)(ps:List ah)(mn:List ay):Prop where
 K4:dZ H L ps
 tab:Tab H dN mn
 nd:'r'.Nodup
 bQ:ps.length<=100
 all:(aA ps).length<=1000
 aS:∀p∈ps,p.aS.length<=61/\'V'.Nodup
 Y3:∀p∈ps,∀st∈p.aO,st.fills.length<=61/\∀f∈st.fills,(bE p mn f=none->f.soft=true)/\∀r,bE p mn f=some r->(r.1,r.2.1)∈aA ps
def Qr:Sp:=λvs H Q _=>∃(L dN R:Addr) (ps:List ah) (mn:List ay) (r:K2),vs=[.ref L,.ref dN,.ref R]/\H R=some (.tup (kT r))/\r∈aA ps/\BS H L dN ps mn/\
 ∀(l:Addr) (rows:List Ew) (H':Hp),aI H H'->H' l=some (.lst (rows.map λr=>V.ref r.t))->(∀r∈rows,r.At H')->rows.map Ew.w=bc ps mn r->H l=none->Q (.ref l) H'
def KH:Sp:=λvs H Q _=>∃(L dN:Addr) (e:Str) (ps:List ah) (mn:List ay) (m:ay),vs=[.ref L,.ref dN,.str e]/\BS H L dN ps mn/\aL mn e=some m/\(m.a,m.b)∈aA ps/\
 ∀(l:Addr) (qs:List (Addr×aF)) (H':Hp),aI H H'->H l=none->xX H' l qs->qs.map (·.2)=(bc ps mn (m.a,m.b)).map Wy.key->Q (.ref l) H'
def eB(ls:List aF)(rs:List (Int×Int)):List 'i':=(ls.zip rs).map λx=>([.inr x.1.1,.inl x.1.2],.int x.2.1)
structure mT(ps:List ah)(e:Str)(ms:List ay)(m:ay)(ls:List aF)(ss:List aM)(ag:List (List Key×V)):Prop where
 nm:fW (c6 ps) ms
 ent:aL ms e=some m
 ord:h_ ps ((bc ps ms (m.a,m.b)).map Wy.key) ls
 aO:ls.map (eG ps)=ss.map some
 ag:ag=eB ls (bF 0 ss)
structure Kf(ps:List ah):Prop where
 aS:∀p∈ps,∀n∈p.aS,0<=n.st/\n.st<p.aO.length/\(n.sort=bP\/n.sort=eI\/n.sort=dM)
 aO:∀p∈ps,∀s∈p.aO,1<=s.step/\s.step<=65536/\(s.kind=s!"code" \/ s.kind=s!"data")
 tw:∀p∈ps,∀q∈ps,p.name≠q.name->∀x∈p.aS,∀y∈q.aS,x.sort=bP->y.sort=bP->x.name≠y.name
 all:(aA ps).length<=62
def bD(H H':Hp):Prop:=∀b o,(∀ps,o≠.iO ps)->H b=some o->H' b=some o
def UB(G S:List ah)(e:Str):Prop:=∀(T:List Co) (rs:List (Str×Str×Str)) (qs:List ah),iN (G.map aC) (S.map aC) e T rs->eJ (G.map aC) (S.map aC) e T->(qs.map aC).Perm (G.map aC++T)->Kf qs
def E2(A:Ad):Sp:=λvs H Q _=>∃(g s:Addr) (e:Str) (G:List ah) (xs:List 't'),vs=[.ref g,.ref s,.str e]/\Rh H g s e G xs/\UB G (flat xs) e/\bU A.aK y9 yH H/\bU A.bf iH iL H/\A.bf≠A.aK/\
 ∀(d:Addr) (T:List Co) (rs:List (Str×Str×Str)) (qs:List ah) (ms:List ay) (m:ay) (ls:List aF) (ss:List aM) (ag:List 'i') (H':Hp),bD H H'->bU A.aK y9 yH H'->bU A.bf iH iL H'->H d=none->H' d=some (.dT ag)->iN (G.map aC) 'H' e T rs->eJ (G.map aC) 'H' e T->(qs.map aC).Perm (G.map aC++T)->mT qs e ms m ls ss ag->Q (.ref d) H'
def wW:Str:=s!"abcdefghijklmnopqrstuvwxyz0123456789_"
def Ys(i:Int):Str:=match hW wW.cps.toList i with | some c=>⟨#[c]⟩ | none=>s!""
def dG(c:Int):Nat->Str
 |0=>s!""
 |n+1=>dG c n++Ys ((c/((n:Int)+3)+(n:Int)*(n:Int))%(37 - 11*(if decide ((n:Int)=0)=true then (1:Int) else 0)))
def zd(c k:Int):Str:=if c/169%2=1 then Txt.zfill (Str.ofString (toString (k%400))) 3 else Str.ofString (toString (k%400))
def Vx(c:Int):Int:=1+c/13%((dG c (1+c%13).toNat).length:Int)
def aP(c k:Int):Str:=Txt.slice (dG c (1+c%13).toNat) none (some (Vx c))++zd c k++Txt.slice (dG c (1+c%13).toNat) (some (Vx c)) none
def DQ:Sp:=λvs H Q _=>∃c k:Int,vs=[.int c,.int k]/\0<=k/\k<400/\Q (.str (aP c k)) H
def CG(K:Wf):Sp:=λvs H Q _=>∃(a:Addr) (ns:List Int) (k:Int),vs=[.ref a,.int k]/\aH K H a 'u'/\0<=k/\Q (.int (ns.getD k.toNat 0)) H
def Lv:Sp:=λvs H Q _=>∃a l m n:Int,vs=[.int a,.int l,.int m,.int n]/\0<=a/\a<=4294967295/\0<=l/\l<=31/\1<=m/\l+m<=32/\Q (.int (K3.putF a l m n)) H
def TM:Str:=s!"whole"
def Uw:Str:=s!"high"
def UG:Str:=s!"low"
def QB:Str:=s!"near"
def Ri:Str:=s!"split"
def O2:Sp:=λvs H Q _=>∃h t:Int,vs=[.int h,.int t]/\Q (.int (t - h - 1)) H
def Sz(A:Ad)(z:Str)(C:Addr):Prop:=(z=TM/\C=A.kB)\/(z=Uw/\C=A.eU)\/(z=UG/\C=A.kq)\/(z=QB/\C=A.eA)\/(z=Ri/\C=A.gB)
def Rz(z:Str):Prop:=z=TM\/z=Uw\/z=UG\/z=QB\/z=Ri
def Rc(A:Ad)(H:Hp)(z:Str)(p:Addr):Prop:=∃C dx,Sz A z C/\H p=some (.ins C dx [("title", .str z)])
def F_(A:Ad):Sp:=λvs H Q _=>∃(p dx C:Addr) (z:Str),vs=[.ref p,.str z]/\H p=some (.ins C dx [])/\Sz A z C/\Q .bB (upd H p (.ins C dx [("title", .str z)]))
def KD(A:Ad):Sp:=λvs H Q _=>∃z:Str,vs=[.str z]/\Rz z/\∀p H',aI H H'->Rc A H' z p->Q (.ref p) H'
def ip(z:Str)(w h t:Int):Int:=if z=TM then t%4294967296 else if z=Uw then K3.putF w 0 16 ((t+32768)/65536) else if z=UG then K3.putF w 0 16 t else if z=QB then K3.putF w 0 19 (t - h - 1) else K3.putF (K3.putF w 0 7 (t - h - 1)) 14 5 ((t - h - 1)/128)
def ir(z:Str):Bool:=decide (z=TM\/z=Uw\/z=UG)
def wm(z:Str)(h t:Int):Bool:=if z=QB then decide (-262144<=t - h - 1)&&decide (t - h - 1<=262143) else if z=Ri then decide (-2048<=t - h - 1)&&decide (t - h - 1<=2047) else true
def mq(z:Str):Sp:=λvs H Q _=>∃(v:V) (a h t:Int),vs=[v,.int a,.int h,.int t]/\0<=a/\a<=4294967295/\Q (.int (ip z a h t)) H
def zK(b:Bool):Sp:=λvs H Q _=>∃v:V,vs=[v]/\Q (.bl b) H
def Dr(z:Str):Sp:=λvs H Q _=>∃(v:V) (h t:Int),vs=[v,.int h,.int t]/\Q (.bl (wm z h t)) H
structure PX where
 t:Addr
 lw:Addr
 pl:Int
 ws:List Int
structure yF where
 t:Addr
 d:Int×Str×Int
def PX.At(H:Hp)(q:PX):Prop:=H q.t=some (.tup [.int q.pl,.ref q.lw])/\H q.lw=some (.lst (q.ws.map V.int))
def yF.At(H:Hp)(q:yF):Prop:=H q.t=some (.tup [.int q.d.1,.str q.d.2.1,.int q.d.2.2])
abbrev Kk:=List Int×List (Int×Str×Int)
def wA(ag:List 'i')(a:Str)(b:Int):Int:=match br ag [.inr a,.inl b] with
 |some (.int n)=>n
 |_=>0
def dw(res:aB->Option (Str×Int×Int))(pl:Str->Int->Int)(p0:Int)(s:Kk)(f:aB):Kk:=match res f with
 |none=>(s.1.set f.at_.toNat (ip f.rule (s.1.getD f.at_.toNat 0) (p0+f.at_) (f.add%4294967296)),s.2)
 |some (a,b,c)=>if ir f.rule=true then (s.1,s.2++[(p0+f.at_,f.rule,pl a b+(c+f.add))]) else (s.1.set f.at_.toNat (ip f.rule (s.1.getD f.at_.toNat 0) (p0+f.at_) (pl a b+(c+f.add))),s.2)
def gx(res:aB->Option (Str×Int×Int))(pl:Str->Int->Int)(p0:Int)(ws:List Int)(fs:List aB):Kk:=fs.foldl (dw res pl p0) (ws,[])
structure Pq(A:Ad)(H:Hp)(x dx dN dP lp ll:Addr)(ms:List ay)(ag:List (List Key×V)):Prop where
 top:H x=some (.ins A.cM dx [("names", .ref dN),("places", .ref dP),("parts", .ref lp),("leaning", .ref ll)])
 tab:Tab H dN ms
 Wh:H dP=some (.dT ag)
 ne:lp≠ll
def Ma(A:Ad):Sp:=λvs H Q _=>∃(x dx dN dP lp ll t:Addr) (ms:List ay) (ag:List 'i') (a:Str) (b c n:Int),vs=[.ref x,.ref t]/\Pq A H x dx dN dP lp ll ms ag/\H t=some (Ks a b c)/\br ag [.inr a,.inl b]=some (.int n)/\∀H',aI H H'->Q (.int (n+c)) H'
def FlJ(res:aB->Option (Str×Int×Int))(ag:List 'i')(p0:Int)(n:Nat)(f:aB):Prop:=0<=f.at_/\f.at_<n/\Rz f.rule/\(res f=none->f.soft=true)/\∀a b c,res f=some (a,b,c)->∃k,br ag [.inr a,.inl b]=some (.int k)/\(ir f.rule=false->wm f.rule (p0+f.at_) (k+(c+f.add))=true)
structure ZS(p:ah)(ms:List ay)(ag:List (List Key×V))(p0:Int)(st:aM):Prop where
 wl:st.words.length<=61
 fl:st.fills.length<=61
 wr:∀w∈st.words,0<=w/\w<=4294967295
 fs:∀f∈st.fills,FlJ (bE p ms) ag p0 st.words.length f
def HU(H H':Hp)(a b:Addr):Prop:=∀x o,x≠a->x≠b->H x=some o->H' x=some o
def QJ(A:Ad):Sp:=λvs H Q _=>∃(x dx dN dP lp ll:Addr) (ms:List ay) (ag:List 'i') (p:ah) (n:Nat) (p0:Int) (st:aM) (us vs':List V),vs=[.ref x,p.v,.int n,.int p0]/\Pq A H x dx dN dP lp ll ms ag/\p.At H/\p.aS.length<=61/\'V'.Nodup/\p.aO[n]?=some st/\ZS p ms ag p0 st/\H lp=some (.lst us)/\H ll=some (.lst vs')/\st.lf≠lp/\st.lf≠ll/\us.length<=1000/\vs'.length<=10000/\
 ∀(PS:List PX) (LS:List yF) (H':Hp),HU H H' lp ll->H' lp=some (.lst (us++PS.map λq=>V.ref q.t))->H' ll=some (.lst (vs'++LS.map λq=>V.ref q.t))->(∀q∈PS,q.At H'/\q.lw≠lp/\q.lw≠ll)->(∀q∈LS,q.At H')->LS.map yF.d=(gx (bE p ms) (wA ag) p0 st.words st.fills).2->PS.map (λq=>(q.pl,q.ws))=(if (gx (bE p ms) (wA ag) p0 st.words st.fills).1=[] then [] else [(p0,(gx (bE p ms) (wA ag) p0 st.words st.fills).1)])->Q .bB H'
structure JI(H H':Hp)(lw ll:Addr)(vs:List V)(W:Kk)(n:Nat):Prop where
 but:HU H H' lw ll
 wd:H' lw=some (.lst (W.1.map V.int))
 ln:∃LS:List yF,H' ll=some (.lst (vs++LS.map λq=>V.ref q.t))/\(∀q∈LS,q.At H')/\LS.map yF.d=W.2
 len:W.1.length=n
 KS:∀w∈W.1,0<=w/\w<=4294967295
def uF(A:Ad):TE:=λσ H Q=>∃(b0 b1 b2 b3 b4 b6 b7:Option V) (lw ru:Addr) (z:Str) (ws:List Int) (a w h t:Int),σ=[b0,b1,b2,b3,b4,some (.ref lw),b6,b7,some (.int t),some (.int a),some (.ref ru),some (.int h)]/\Rc A H z ru/\H lw=some (.lst (ws.map V.int))/\hW (ws.map V.int) a=some (.int w)/\0<=w/\w<=4294967295/\Q (.int (ip z w h t)) H
def uL(A:Ad):TT:=λσ H Q=>∃(b0 b1 b2 b3 b4 b5 b6 b7 b8 b9 b11:Option V) (ru:Addr) (z:Str),σ=[b0,b1,b2,b3,b4,b5,b6,b7,b8,b9,some (.ref ru),b11]/\Rc A H z ru/\Q (ir z) H
structure We(A:Ad)(H:Hp)(x q0:Addr)(t:Int):Prop where
 ex:∃(dx dN dP lp ll:Addr) (ms:List ay) (ag:List 'i') (a:Str) (b c n:Int),Pq A H x dx dN dP lp ll ms ag/\H q0=some (Ks a b c)/\br ag [.inr a,.inl b]=some (.int n)/\t=n+c
def uT(A:Ad):TT:=λσ H Q=>∃(b1 b2 b3 b4 b5 b6 b7 b9:Option V) (x q0 ru:Addr) (z:Str) (h t:Int),σ=[some (.ref x),b1,b2,b3,b4,b5,b6,b7,some (.ref q0),b9,some (.ref ru),some (.int h)]/\Rc A H z ru/\ir z=false/\We A H x q0 t/\∀H',aI H H'->Q (wm z h t) H'
def uG(A:Ad):TE:=λσ H Q=>∃(b1 b2 b3 b4 b6 b7:Option V) (x q0 lw ru:Addr) (z:Str) (ws:List Int) (a w h t:Int),σ=[some (.ref x),b1,b2,b3,b4,some (.ref lw),b6,b7,some (.ref q0),some (.int a),some (.ref ru),some (.int h)]/\Rc A H z ru/\ir z=false/\We A H x q0 t/\H lw=some (.lst (ws.map V.int))/\hW (ws.map V.int) a=some (.int w)/\0<=w/\w<=4294967295/\∀H',aI H H'->Q (.int (ip z w h t)) H'
def Km(ps:List ah)(ms:List ay)(ag:List 'i')(k:aF)(p0:Int):Kk:=match gE ps k.1 with
 |some p=>match p.aO[k.2.toNat]? with
  |some st=>gx (bE p ms) (wA ag) p0 st.words st.fills
  |none=>([],[])
 |none=>([],[])
abbrev V1(ps:List ah)(ms:List ay)(ag:List 'i')(r:dQ):Kk:=Km ps ms ag r.k r.p
def X6(ps:List ah)(ms:List ay)(ag:List 'i')(k:aF)(p0:Int):List (Int×List Int):=if (Km ps ms ag k p0).1=[] then [] else [(p0,(Km ps ms ag k p0).1)]
abbrev XA(ps:List ah)(ms:List ay)(ag:List 'i')(r:dQ):List (Int×List Int):=X6 ps ms ag r.k r.p
structure Wr(ps:List ah)(ms:List ay)(ag:List (List Key×V))(k:aF)(p0:Int):Prop where
 ex:∃p∈ps,∃st,p.name=k.1/\0<=k.2/\p.aO[k.2.toNat]?=some st/\p.aS.length<=61/\'V'.Nodup/\ZS p ms ag p0 st
abbrev RwJ(ps:List ah)(ms:List ay)(ag:List 'i')(r:dQ):Prop:=Wr ps ms ag r.k r.p
def D4(A:Ad):Sp:=λvs H Q _=>∃(x dx L dN a:Addr) (ps:List ah) (ms:List ay) (ks:List aF) (rs:List dQ) (ag:List 'i'),vs=[.ref x,.ref L,.ref dN,.ref a]/\H x=some (.ins A.cM dx [])/\dZ H L ps/\ps.length<=100/\'r'.Nodup/\Tab H dN ms/\mi H false a ps ks rs/\rs.length<=62/\(rs.map (·.k)).Nodup/\ag=rs.map (λr=>([.inr r.k.1,.inl r.k.2],.int r.p))/\(∀r∈rs,RwJ ps ms ag r)/\
 ∀(dP lp ll:Addr) (PS:List PX) (LS:List yF) (H':Hp),(∀b o,b≠x->H b=some o->H' b=some o)->Pq A H' x dx dN dP lp ll ms ag->H' lp=some (.lst (PS.map λq=>V.ref q.t))->H' ll=some (.lst (LS.map λq=>V.ref q.t))->(∀q∈PS,q.At H')->(∀q∈LS,q.At H')->PS.map (λq=>(q.pl,q.ws))=rs.flatMap (XA ps ms ag)->LS.map yF.d=rs.flatMap (λr=>(V1 ps ms ag r).2)->H lp=none->H ll=none->Q .bB H'
def ZU(G S:List ah)(e:Str):Prop:=∀(T:List Co) (rs:List (Str×Str×Str)) (qs:List ah) (ms:List ay) (m:ay) (ls:List aF) (ss:List aM) (ag:List 'i'),iN (G.map aC) (S.map aC) e T rs->eJ (G.map aC) (S.map aC) e T->(qs.map aC).Perm (G.map aC++T)->mT qs e ms m ls ss ag->(∃n:Int,br ag [.inr m.a,.inl m.b]=some (.int n))/\∀x∈ls.zip (bF 0 ss),Wr qs ms ag x.1 x.2.1
structure R9(qs:List ah)(ms:List ay)(m:ay)(ls:List aF)(ss:List aM)(ag:List (List Key×V))(st sz en:Int)(ps:List (Int×List Int))(ns:List (Int×Str×Int)):Prop where
 st:∃ss':List aM,((bc qs ms (m.a,m.b)).map Wy.key).map (eG qs)=ss'.map some/\cV (ss'.map aM.step) 1 st
 sz:∃(ls':List aF) (ss':List aM),h_ qs ((bc qs ms (m.a,m.b)).map Wy.key) ls'/\ls'.map (eG qs)=ss'.map some/\cV ((bF 0 ss').map (·.2)) 0 sz
 en:∃n:Int,br ag [.inr m.a,.inl m.b]=some (.int n)/\en=n+m.c
 ps:ps=(ls.zip (bF 0 ss)).flatMap λx=>X6 qs ms ag x.1 x.2.1
 ns:ns=(ls.zip (bF 0 ss)).flatMap λx=>(Km qs ms ag x.1 x.2.1).2
def PD(A:Ad):Sp:=λvs H Q _=>∃(g s:Addr) (e:Str) (G:List ah) (xs:List 't'),vs=[.ref g,.ref s,.str e]/\Rh H g s e G xs/\UB G (flat xs) e/\ZU G (flat xs) e/\bU A.aK y9 yH H/\bU A.bf iH iL H/\A.bf≠A.aK/\
 ∀(t lp ll:Addr) (PS:List PX) (LS:List yF) (st sz en:Int) (T:List Co) (rs:List (Str×Str×Str)) (qs:List ah) (ms:List ay) (m:ay) (ls:List aF) (ss:List aM) (ag:List 'i') (H':Hp),bD H H'->bU A.aK y9 yH H'->bU A.bf iH iL H'->H t=none->H' t=some (.tup [.int st,.int sz,.int en,.ref lp,.ref ll])->H' lp=some (.lst (PS.map λq=>V.ref q.t))->H' ll=some (.lst (LS.map λq=>V.ref q.t))->(∀q∈PS,q.At H')->(∀q∈LS,q.At H')->iN (G.map aC) 'H' e T rs->eJ (G.map aC) 'H' e T->(qs.map aC).Perm (G.map aC++T)->mT qs e ms m ls ss ag->R9 qs ms m ls ss ag st sz en (PS.map λq=>(q.pl,q.ws)) (LS.map yF.d)->Q (.ref t) H'
structure XT(nb:Int)(n:Nat)(f:aB):Prop where
 at_:f.at_=n
 rule:Rz f.rule
 name:∃k:Int,0<=k/\f.name=aP nb k/\(k<12\/k<15/\f.soft=true)
 add:ir f.rule=false -> -4<=f.add/\f.add<=4
 KS : -2147483648<=f.add/\f.add<=2147483647
def yS:Sp:=λvs H Q _=>∃(t lw lf:Addr) (c m nb st:Int) (kd:Str) (ws fs:List V),vs=[.ref t,.int c,.int m,.int nb]/\0<=m/\H t=some (.tup [.str kd,.int st,.ref lw,.ref lf])/\H lw=some (.lst ws)/\H lf=some (.lst fs)/\lw≠lf/\ws.length<=100/\fs.length<=100/\
 (∀(w:Int) (H':Hp),aI H H'->0<=w->w<=4294967295->Q .bB (upd H' lw (.lst (ws++[.int w]))))/\
 ∀(w:Int) (f:aB) (H':Hp),aI H H'->0<=w->w<=4294967295->f.At H'->XT nb ws.length f->H f.a=none->Q .bB (upd (upd H' lf (.lst (fs++[f.v]))) lw (.lst (ws++[.int w])))
structure GD(c t:Int)(p:ah):Prop where
 name:p.name=aP t 13
 aS:p.aS.map aw.name=(List.range 12).map λk:Nat=>aP c k
 weak:∀n∈p.aS,n.sort=s!"weak"
 aO:∃s,p.aO=[s]/\s.words=[5]/\s.fills=[]/\s.kind=s!"data" /\ s.step=1
 off:∀n∈p.aS,0<=n.off/\n.off<=1/\n.st=0
def IK:Sp:=λvs H Q _=>∃c t:Int,vs=[.int c,.int t]/\∀(p:ah) (H':Hp),aI H H'->p.At H'->GD c t p->(∀b∈p.lists,H b=none)->p.lists.Nodup->Q p.v H'
def BC(z:Str):Prop:=z=bP\/z=eI\/z=dM
structure Zo(nb:Int)(p:ah)(ss:List aM)(s:aM)(n:aw):Prop where
 name:∃k:Int,0<=k/\k<12/\n.name=aP nb k
 sort:BC n.sort
 st:n.st=ss.length
 off:n.off=s.words.length
 new:n.name∉p.aS.map aw.name
def zk:Sp:=λvs H Q _=>∃(L d:Addr) (m nb:Int) (ps:List ah) (p:ah) (ss:List aM) (s:aM) (N:List Str),vs=[.ref L,.ref d,.int m,.int nb]/\0<=m/\dZ H L (ps++[p])/\p.aO=ss++[s]/\p.aS.length<=100/\p.aO.length<=100/\s.words.length<=100/\ps.length<=100/\N.length<=1000/\H d=some (.dK (N.map jc))/\
 (∀H',aI H H'->Q .bB H')/\
 ∀(n:aw) (H':Hp),aI H H'->n.At H'->Zo nb p ss s n->(n.sort≠bP->Q .bB (upd H' p.ln (.lst (p.aS.map aw.v++[n.v]))))/\(n.sort=bP->n.name∉N->Q .bB (upd (upd H' p.ln (.lst (p.aS.map aw.v++[n.v]))) d (.dK ((N++[n.name]).map jc))))
structure Ls(nb:Int)(s:aM):Prop where
 kind:s.kind=s!"code" \/ s.kind=s!"data"
 step:1<=s.step/\s.step<=4
 words:∀i∈s.words,0<=i/\i<=4294967295
 fills:∀f∈s.fills,∃i:Nat,i<s.words.length/\XT nb i f
 bQ:s.fills.length<=s.words.length
structure TlX(nb:Int)(k:Nat)(n:aw):Prop where
 name:∃k:Int,0<=k/\k<12/\n.name=aP nb k
 sort:BC n.sort
 st:0<=n.st/\n.st<k
 off:0<=n.off/\n.off<=100
structure x6(nb:Int)(p:ah):Prop where
 aO:∀s∈p.aO,Ls nb s
 aS:∀n∈p.aS,TlX nb p.aO.length n
 nd:'V'.Nodup
def _root_.L2.ah.size(p:ah):Nat:=1+p.aO.length+(p.aO.map λs=>s.words.length).sum+p.aS.length
def J6(p q:ah):Prop:=∀x∈p.aS,∀y∈q.aS,x.sort=bP->y.sort=bP->x.name≠y.name
structure y0(nb tb:Int)(n:Nat)(ps:List ah)(N:List Str):Prop where
 ok:∀p∈ps,x6 nb p
 bQ:ps.length<=12
 names:ps.map ah.name='<'.map λi:Nat=>aP tb ((i:Int)*5%13)
 size:(ps.map ah.size).sum<=n
 str:∀p∈ps,∀m∈p.aS,m.sort=bP->m.name∈N
 one:ps.Pairwise J6
 nl:N.length<=n
def HN(K:Wf):Sp:=λvs H Q _=>∃(a:Addr) (ns:List Int) (c t:Int),vs=[.ref a,.int c,.int t]/\aH K H a 'u'/\ns.length<=63/\∀(L:Addr) (ps:List ah) (N:List Str) (H':Hp),aI H H'->dZ H' L ps->(∀b∈L::bj ps,H b=none)->y0 c t ns.length ps N->Q (.ref L) H'
structure Vd(H H':Hp)(L d:Addr)(nb tb:Int)(i:Nat)(ps:List ah)(N:List Str):Prop where
 sm:aI H H'
 pc:dZ H' L ps
 new:∀b∈L::bj ps,H b=none
 nd:H d=none
 dd:H' d=some (.dK (N.map jc))
 dr:y0 nb tb i ps N
structure HJ where
 st:Int
 sz:Int
 en:Int
 ps:List (Int×List Int)
 ns:List (Int×Str×Int)
 ag:List 'i'
 ti:List Str
 why:List Str
structure Iw(qs:List ah)(e:Str):Prop where
 jn:Kf qs
 nd:(qs.map ah.name).Nodup
 bn:∀q∈qs,yu q
 bQ:qs.length<=20
 ent:∃q∈qs,cD e (aC q)=true
 V8:∀q∈qs,∀z,bH z (aC q)=true->∃r∈qs,cD z (aC r)=true
structure yD(G S:List Co)(e:Str)(T:List Co)(a:HJ):Prop where
 tk:∃rs,iN G S e T rs
 cl:eJ G S e T
 ti:a.ti.Pairwise sH/\a.ti.Perm ((G++T).map (·.1))
 why:a.why.Pairwise sH/\a.why.Perm (T.map (·.1))
 wh:∃(qs:List ah) (ms:List ay) (m:ay) (ls:List aF) (ss:List aM) (ag:List 'i'),Iw qs e/\(qs.map aC).Perm (G++T)/\mT qs e ms m ls ss ag/\R9 qs ms m ls ss ag a.st a.sz a.en a.ps a.ns
 mp:∃(qs:List ah) (ms:List ay) (m:ay) (ls:List aF) (ss:List aM),Iw qs e/\(qs.map aC).Perm (G++T)/\mT qs e ms m ls ss a.ag
structure eO(H:Hp)(t:Addr)(a:HJ)(lt:Addr):Prop where
 ti:H lt=some (.lst (a.ti.map V.str))
 int:∀kv∈a.ag,∃n,kv.2=.int n
 ex:∃(tj d lw lp ll:Addr) (PS:List PX) (LS:List yF),H t=some (.tup [.ref tj,.ref d,.ref lt,.ref lw])/\H tj=some (.tup [.int a.st,.int a.sz,.int a.en,.ref lp,.ref ll])/\H lp=some (.lst (PS.map λq=>V.ref q.t))/\H ll=some (.lst (LS.map λq=>V.ref q.t))/\(∀q∈PS,q.At H)/\(∀q∈LS,q.At H)/\PS.map (λq=>(q.pl,q.ws))=a.ps/\LS.map yF.d=a.ns/\H d=some (.dT a.ag)/\H lw=some (.lst (a.why.map V.str))
structure Um(G S:List ah)(e:Str):Prop where
 tk:Fc G S e
 jq:UB G S e
 jk:ZU G S e
def CL(A:Ad):Sp:=λvs H Q _=>∃(s a0:Addr) (e:Str) (G:List ah) (xs:List 't'),vs=[.ref s,.str e]/\AV H s ((a0,G)::xs)/\xs.length<=10/\Um G (flat xs) e/\bU A.aK y9 yH H/\bU A.bf iH iL H/\A.bf≠A.aK/\
 ∀(t lt:Addr) (a:HJ) (T:List Co) (H':Hp),bD H H'->bU A.aK y9 yH H'->bU A.bf iH iL H'->eO H' t a lt->yD (G.map aC) 'H' e T a->Q (.ref t) H'
def yL:Sp:=λvs H Q _=>∃(L:Addr) (c:Int) (ps:List ah),vs=[.ref L,.int c]/\PL H L ps/\ps.length<=12/\
 ∀(S:Addr) (xs:List 't') (H':Hp),aI H H'->AV H' S xs->(∀b∈S::xs.map (·.1),H b=none)->(S::xs.map (·.1)).Nodup->xs.length=4->(flat xs).Perm ps->Q (.ref S) H'
structure Wo(ti:List Str)(xs ys:List (Addr×List ah)):Prop where
 sub:(flat ys).Sublist (flat xs)
 all:∀p∈flat xs,p.name∈ti->p∈flat ys
def yG:Sp:=λvs H Q _=>∃(S t a0:Addr) (n:Int) (G:List ah) (xs:List 't') (ti:List Str),vs=[.ref S,.ref t,.int n]/\AV H S ((a0,G)::xs)/\H t=some (.lst (ti.map V.str))/\xs.length<=10/\(∀x∈xs,x.2.length<=100)/\G.length<=100/\
 ∀(l b0:Addr) (ys:List 't') (H':Hp),aI H H'->H l=none->AV H' l ((b0,G)::ys)->ys.length=xs.length->b0≠l->(∀y∈ys,y.1≠l)->Wo ti xs ys->Q (.ref l) H'
structure Mr(H H':Hp)(l b0:Addr)(G:List ah)(ti:List Str)(xs ys:List (Addr×List ah)):Prop where
 sm:aI H H'
 nl:H l=none
 top:H' l=some (.lst (V.ref b0::ys.map λy=>V.ref y.1))
 bb:H' b0=some (.lst (G.map ah.v))
 nb:b0≠l
 at_:∀y∈ys,H' y.1=some (.lst (y.2.map ah.v))/\y.1≠l
 len:ys.length=xs.length
 wo:Wo ti xs ys
structure Zj(tb:Int)(us:List ah):Prop where
 bQ:us.length<=5
 bn:∀p∈us,yu p
 names:us.map ah.name=(List.range us.length).map λk:Nat=>aP tb (20+(k:Int))
def LH(K:Wf):Sp:=λvs H Q _=>∃(a:Addr) (ns:List Int) (n:Int),vs=[.ref a,.int n]/\aH K H a 'u'/\0<=n/\∀(l:Addr) (us:List ah) (H':Hp),aI H H'->H l=none->PL H' l us->(∀p∈us,∀b∈p.lists,H b=none)->Zj (ns.getD 1 0) us->Q (.ref l) H'
structure Yv(nb:Int)(H H':Hp)(l:Addr)(j:Nat)(ts:List aw):Prop where
 sm:aI H H'
 nl:H l=none
 top:H' l=some (.lst (ts.map aw.v))
 at_:∀n∈ts,n.At H'
 nm:∀n∈ts,∃i:Nat,i<j/\n.name=aP nb i
 nd:(ts.map aw.name).Nodup
 len:ts.length<=j
def uO(K:Wf)(tn tb:Addr):Sp:=λvs H Q _=>∃(a:Addr) (ns:List Int),vs=[.ref a]/\aH K H a 'u'/\ns.length<=63/\H tn=some (.iO #[])/\H tb=some (.iO #[])/\tn≠tb/\∀H',Q (.bl true) H'
private def rdL:Array Lean.Ident:=("SV FJ m5 tC BL tUn tH Yh Zg Qq tOr Zk Y4 NL tB Oy tCB RR SM M0 tSl Lu SS TN MB Yb Xx YV aah UY aak L2.start List.set List.map List.length List.replicate List.cons_append List.nil_append List.append_nil cK bK Lw rI rU Wu OU tD Vq RU Wj ZA SD U0 Y5 VN XX MH Qw Qb Yn K8 TK OK V3 VB YA MP Z0 Z9 aab Wm Zs rNe sc0 sc1 sc2 sc3 sc4 sc5 sc6 sc7 sc8 sc9 aal aap aas aan Ny RW UE aav Rm Vf UQ Rr RC PV RA RB OM dX YM AZ Wk WW tIf SF N7 YI Y6 ZN aao aaj Z2 VH rJoin aax aaw WR X7 ZT un1 Zl ZX aau aaq xOf aat List.getElem?_cons_zero List.getElem?_cons_succ Option.some.injEq V.int.injEq V.str.injEq V.bl.injEq V.ref.injEq V.ty.injEq List.cons.injEq exists_eq_left' exists_eq_left exists_eq' and_assoc if_true if_false Bool.not_false Bool.not_true Bool.not_not Bool.false_eq_true exists_and_left and_true true_and List.set_cons_zero List.set_cons_succ Option.join_some false_and or_false false_or exists_false CB GB Jp RP Ci J7 y8 P9 B8 O0 BI CN JC Cv yX OC Ca C9 Cb Md Qr Lp FG QW Lf BW BO KH E2 K6 GO Lv O2 F_ KD mq zK Dr Ma QJ D4 PD DQ CG yS IK zk HN CL yL yG LH Ss ye Fy aam aar Ot YT ipI Wq Tg RO Rf Q7 Z3 O9 OI QY Rv GS WJ V3 aay aai Qx OS S9 T9 X4 Uy OF TL SI Bg Ends.nx Nat.reduceSub Nat.reduceAdd".splitOn " ").toArray.map λs=>Lean.mkIdent s.toName
local macro_rules | `(tactic| walk_at "rdd") => do
 let a<-rdL.mapM λx=>`(Lean.Parser.Tactic.simpLemma| $x:ident)
 `(tactic| try dsimp only [$a,*])
local macro_rules | `(tactic| walk_at "rd") => do
 let a<-rdL.mapM λx=>`(Lean.Parser.Tactic.simpLemma| $x:ident)
 let a:=a.push (<-`(Lean.Parser.Tactic.simpLemma| reduceCtorEq))
 `(tactic| (walk_at "rdd";try simp only [$a,*]))
section
variable{P:Program}{w:World}{K:Wf}{mg:So}{base:Heap}{A:Ad}
theorem aR(h:H p=none):aI H (upd H p o):=λb u e=>by rw[ae (bA e h)];exact e
theorem c7(h:upd H p o q=none):q≠p/\H q=none:=by
 have n:q≠p:=λe=>by rw[e,aJ]at h;cases h
 exact⟨n,by rw[ae n]at h;exact h⟩
theorem e_(h:H0 L=none)(e:aI H0 H):aI H0 (upd H L o):=λb u q=>by rw[ae (bA q h)];exact e b u q
theorem bW(s:aI H H')(h:H' a=none):H a=none:=by
 cases e:H a with
 |none=>rfl
 |some o=>exact nomatch h.symm.trans (s _ _ e)
theorem F7(T:Txt K mg A):aY P w K mg base cF 1 A.Yx A.GR ["number"] OC:=by
 refine T.mC.ok Q8 ?_ ?_;walk_at "k"
 obtain⟨c,rfl,k⟩:=h;refine⟨_,(bo (aG (az ba (pv 0) (LW rfl T.S_ WU)))),?_⟩;walk_at "rd";exact⟨by decide,k⟩
theorem DF(h:u<0):n/2 ^ (-u).toNat=K3.dJ n u:=by
 rw[<-K3.y6 h,Int.fdiv_eq_ediv_of_nonneg _ (Int.le_of_lt (K3.pow_pos _))]
theorem Bz(T:Txt K mg A):aY P w K mg base cF 1 A.moved A.xW ["number", "up"] GO:=by
 refine T.iS.ok Dz ?_ ?_;walk_at "k"
 obtain⟨n,u,rfl,h1,h2,h3,k⟩:=h;refine⟨_,(aU (bC (cJ kr (pv 1) af (aV _)) (bo (aG (az OH (pv 0) (iq fM (pv 1))))) cW) (bo (aG (az Ez (pv 0) (pv 1))))),?_⟩;walk_at "rd";refine cH (λh=>?_) (λh=>?_)
 ·have h:=of_decide_eq_true h;rw[<-DF h]at k;exact⟨by lia,k⟩
 ·have h:¬u<0:=of_decide_eq_false (by simpa using h);rw[<-K3.GJ h]at k;exact⟨⟨by lia,by lia,by lia⟩,k⟩
theorem FQ(T:Txt K mg A):aY P w K mg base cF 1 A.ones A.Bo ["many"] K6:=by
 refine T.lh.ok Lr ?_ ?_;walk_at "k"
 obtain⟨m,rfl,h1,h2,k⟩:=h;refine⟨_,(bo (aG (az gq (az Ez af (fX (CH rfl) (by rfl) T.GI Pf (ao (pv 0) (ao af aa)))) af))),?_⟩;walk_at "rd";rw[<-K3.Ky (k:=if 0>m then 0 else m) (by split<;>lia)]at k;exact⟨⟨by split<;>lia,by split<;>lia,by decide⟩,k⟩
theorem lJ:∀{a b:List Str},a.Nodup->b.Nodup->(∀x,x∈a↔x∈b)->a.Perm b
 |[],b,_,_,h=>by
  have:b=[]:=List.eq_nil_iff_forall_not_mem.mpr λx hx=>by simpa using (h x).mpr hx
  rw[this]
 |x::a,b,ha,hb,h=>by
  have hx:x∈b:=(h x).mp (.head _);refine((lJ (mH.mp ha).2 (hb.erase x) λy=>?_).cons x).trans (List.perm_cons_erase hx).symm;rw[hb.mem_erase_iff];constructor
  ·intro hy;exact⟨λe=>(mH.mp ha).1 (e▸hy),(h y).mp (.tail _ hy)⟩
  ·rintro⟨ne,hy⟩;exact(iu.mp ((h y).mpr hy)).resolve_left ne
theorem Lk(W:List Str)(y:Str):putK (W.map jc) (.inr y) (.bl true)=(addW W y).map jc:=by
 unfold putK addW;have e:((W.map jc).any λkv=>decide (kv.1=(.inr y:Key)))=decide (y∈W):=by
  rw[List.any_map,Qn,nj,decide_eq_true_eq];constructor
  ·rintro⟨z,hz,q⟩;have:z=y:=by simpa [jc] using q
   exact this▸hz
  ·intro hy;exact⟨y,hy,by simp[jc]⟩
 rw[e];by_cases m:y∈W
 ·rw[if_pos (decide_eq_true m),if_pos m,cC];refine Cg λz hz=>?_;by_cases q:z=y
  ·simp[jc,q]
  ·simp[jc,q]
 ·rw[if_neg (by simpa using m),if_neg m,List.map_append];rfl
theorem HY(W:List Str)(y:Str):(addW W y).length<=W.length+1:=by
 unfold addW;split
 ·lia
 ·simp
theorem Jd(p:ah)(W:List Str)(f:aB):(jf p W f).length<=W.length+1:=by
 unfold jf;split
 ·exact HY W f.name
 ·lia
theorem l8(p:ah):∀(fs:List aB) (W:List Str),(fs.foldl (jf p) W).length<=W.length+fs.length
 |[],W=>by simp
 |f::fs,W=>by
  have h1:=l8 p fs (jf p W f);have h2:=Jd p W f;rw[A3,md];lia
theorem pJ(h:¬(!f.soft && !dS p f.name)=true):jf p W f=W:=if_neg h
theorem wQ(h:(!f.soft && !dS p f.name)=true):jf p W f=addW W f.name:=if_pos h
theorem BZ(hc:X.calm=true){w:World}(ew:X.w=w){K:Wf}(e:X.K=K):cL X (.type "set") (Ss w K):=ew▸e▸DB hc
theorem mJ(hc:X.calm=true){w:World}(ew:X.w=w):cL X 'Q' (ye w):=ew▸sW hc
theorem zg(h:'V'.Nodup):(ig p).Nodup:=List.Nodup.sublist (List.Sublist.map _ List.filter_sublist) h
theorem Dn(e:ms.map (λm=>(m.name,m.a,m.b,m.c))=(p.aS.filter λn=>decide (n.sort=s!"own")).map (λn=>(n.name,p.name,n.st,n.off)))(z:Str):(aL ms z).isSome=dS p z:=by
 have e1:ms.map ay.name=(p.aS.filter λn=>decide (n.sort=s!"own")).map aw.name:=by
  have h:=congrArg (List.map (·.1)) e;rw[cC,cC]at h;exact h
 have a:(aL ms z).isSome=decide (z∈ms.map ay.name):=by
  unfold aL;rw[Qn,List.find?_isSome,decide_eq_true_eq];constructor
  ·rintro⟨m,hm,q⟩;exact aQ.mpr ⟨m,hm,of_decide_eq_true q⟩
  ·intro h;obtain⟨m,hm,q⟩:=aQ.mp h;exact⟨m,hm,decide_eq_true q⟩
 rw[a,e1];unfold dS;rw[Qn,decide_eq_true_eq,nj];constructor
 ·intro h;obtain⟨n,hn,q⟩:=aQ.mp h;obtain⟨h1,h2⟩:=yw.mp hn;exact⟨n,h1,by rw[lx];exact⟨decide_eq_true q,h2⟩⟩
 ·rintro⟨n,hn,q⟩;rw[lx]at q;exact aQ.mpr ⟨n,yw.mpr ⟨hn,q.2⟩,of_decide_eq_true q.1⟩
theorem SA(W:List Str):List.map (λx=>x.fst) (W.map jc)=W.map Sum.inr:=by rw[cC];rfl
theorem LD(h:(!decide (V.str z=V.str s!"own"))=true):z≠dM:=λe=>by
 rw[e]at h;exact absurd h (by simp[dM])
theorem QU(h:¬(!decide (V.str z=V.str s!"own"))=true):z=dM:=by
 have q:V.str z=V.str s!"own":=by simpa using h
 injection q
theorem yW{p:ah}{i:Nat}{st:aM}(h:p.aO[i]?=some st):aZ (p.aO.take (i+1))=aZ (p.aO.take i)++st.fills:=by
 unfold aZ;rw[ix,h,CU];simp
theorem EA{p:ah}(i:Nat):(aZ (p.aO.take i)).length<=(aZ p.aO).length:=by
 have h:aZ p.aO=aZ (p.aO.take i)++aZ (p.aO.drop i):=by
  unfold aZ;rw[<-CU,Wb]
 rw[h,dv];lia
theorem AK(T:Txt K mg A):aY P w K mg base cF 1 A.YB A.G6 ["piece", "told_by"] CB:=by
 refine T.jj.ok jY ?_ ?_;walk_at "k"
 obtain⟨p,z,rfl,hp,hf,hd,k⟩:=h;refine⟨_,(aU (pS 2 jY.nd dq) (aU (pF (cN (K:=K) rfl 'B') (bV (K:=K) (n:=4) rfl rfl (dW (pn 3 jY.nd) (dW (pn 4 jY.nd) (dW (pn 5 jY.nd) (dW (pn 6 jY.nd) bX))))) (bo (bC (cJ dk (pv 4) (pv 1) (aV _)) (bo (gR (bN hr) (pv 2) (pv 3) (a_ (ao 'B' (ao (pv 5) (ao (pv 6) aa)))) rfl)) cW))) (bo (aG (pv 2))))),?_⟩;walk_at "rd";intro d hdn;refine⟨_,bg.of (aR hdn _ _ hp.top),_,rfl,?_⟩;refine fH.of (xs:=p.aS.map aw.v) (λi σ H'=>∃ms b3 b4 b5 b6,σ=[some p.v,some (V.str z),some (V.ref d),b3,b4,b5,b6]/\aI H H'/\Tab H' d ms/\ms.map (λm=>(m.name,m.a,m.b,m.c))=((p.aS.take i).filter λn=>decide (n.sort=z)).map (λn=>(n.name,p.name,n.st,n.off)))
  ⟨[],_,_,_,_,rfl,aR hdn,⟨aJ,by simp⟩,rfl⟩ (λi σ H' _ ⟨_,_,_,_,_,_,sm,_⟩=>aH.of (sm _ _ hp.nl)) ?_ ?_
 ·rintro i x σ H' hx ⟨ms,b3,b4,b5,b6,rfl,sm,tab,e⟩;walk_at "0";obtain⟨n,hn,rfl⟩:=eZ.mp hx;have na:=sm _ _ (hp.ns n (dI hn));have tk:(p.aS.take (i+1))=p.aS.take i++[n]:=by rw[ix,hn];rfl
  have hnew:n.name∉ms.map ay.name:=by
   have e1:ms.map ay.name=((p.aS.take i).filter λn=>decide (n.sort=z)).map aw.name:=by
    have:=congrArg (List.map (·.1)) e;walk_at "1";exact this
   rw[e1];intro h;obtain⟨n',h1,h2⟩:=aQ.mp h;have h3:=(yw.mp h1).1;have nd:((p.aS.take (i+1)).map aw.name).Nodup:=List.Nodup.sublist (List.Sublist.map _ (List.take_sublist _ _)) hd;rw[tk,bu]at nd;exact(gX.mp nd).2.2 n'.name (aQ.mpr ⟨n',h3,rfl⟩) n.name (by simp) h2
  have hlen:ms.length<=61:=by
   have:=congrArg List.length e;walk_at "2";have h1:=Ko (λn:aw=>decide (n.sort=z)) (p.aS.take i);have h2:=TQ i p.aS;have h3:(p.aS.take i).length<=p.aS.length:=by rw[jM];lia
   lia
  walk_at "rd";refine⟨_,bg.of na,rfl,_,_,rfl,_,_,rfl,_,_,rfl,_,_,rfl,rfl,rfl,cH (λhz=>?_) (λhz=>?_)⟩
  ·have hz':n.sort=z:=by
    have:=of_decide_eq_true hz;injection this
   refine⟨_,bg.of (sm _ _ hp.top),_,rfl,by walk_at "s", λq hq=>⟨_,iF.k (k:=Sum.inr n.name) (aR hq _ _ tab.top) 'j',e_ hdn (sm.trans (aR hq)),_,(tab.mono (aR hq)).put (m:=⟨n.name,q,p.name,n.st,n.off⟩) aJ,?_⟩⟩;rw[ED hnew,bu,e,tk,S7,bu];simp[hz']
  ·have hz':n.sort≠z:=λy=>hz (decide_eq_true (by rw[y]));refine⟨sm,ms,tab,?_⟩;rw[tk,S7,e];simp[hz']
 ·rintro σ H' ⟨ms,b3,b4,b5,b6,rfl,sm,tab,e⟩;walk_at "3";walk_at "rd";exact k d ms H' sm tab e hdn
theorem Kv(T:Txt K mg A):aY P w K mg base cF 2 A.tells A.yn ["piece"] GB:=by
 refine T.pR.ok EM ?_ ?_;walk_at "k"
 obtain⟨p,rfl,hp,hb,k⟩:=h;refine⟨_,(bo (aG (fX (mJ rfl (w:=w) rfl) (by rfl) T.fz g_ (ao (kE (BZ rfl (w:=w) rfl (K:=K) rfl) (by rfl) T.RT PQ (ao (cI (iP ["name", "sort", "stretch", "offset"]) rfl (cN (K:=K) rfl 'B') (λ_ _ _=>⟨(bV (K:=K) (n:=4) rfl rfl (dW (pn 0 'g') (dW (pn 1 'g') (dW (pn 2 'g') (dW (pn 3 'g') bX))))),(iY (cJ RX (pv 1) a5 (aV _))),(pv 0)⟩)) aa)) aa)))),?_⟩;walk_at "rd";refine⟨_,bg.of hp.top,_,rfl,?_⟩;refine cY.of (xs:=p.aS.map aw.v) (by rw[aD,sizeLine_eq];have:=hb.nm;lia) (aH.of hp.nl) (λD i ys H'=>aI H H'/\H' D=some (.lst ys)/\ys=(((p.aS.take i).filter λn=>decide (n.sort≠dM)).map aw.name).map V.str)
  (λD hD=>⟨aR hD,aJ,rfl⟩) ?_ ?_ ?_
 ·rintro D i ys H' hD hi ⟨sm,hDD,e⟩;refine⟨sm.seq (aH.of hp.nl),hDD,?_⟩;rw[e,aD,aD];exact ia (Ko _ _) (by rw[jM];lia)
 ·rintro D i x ys H' hD hx ⟨sm,hDD,e⟩;walk_at "0";obtain⟨n,hn,rfl⟩:=eZ.mp hx;have na:=sm _ _ (hp.ns n (dI hn));have tk:(p.aS.take (i+1))=p.aS.take i++[n]:=by rw[ix,hn];rfl
  walk_at "rd";refine⟨_,bg.of na,rfl,_,_,rfl,_,_,rfl,_,_,rfl,_,_,rfl,rfl,.no (.no (.no (.no .nil))),rfl,cH (λh=>?_) (λh=>?_)⟩
  ·have hz:=LD h;refine⟨hDD,e_ hD sm,aJ,?_⟩;rw[e,tk,S7,bu,bu];simp[hz]
  ·have hz:=QU h;refine⟨sm,hDD,?_⟩;rw[e,tk,S7];simp[hz]
 ·rintro D ys H' hD ⟨sm,hDD,e⟩;walk_at "3";have hle:(ig p).length<=61:=by
   unfold ig;rw[aD];exact ia (Ko _ _) hb.nm
  refine⟨D,rfl,ig p,aH.of (by rw[hDD,e];rfl),by lia,λq L hq nd hL hm=>⟨L,aJ,by lia,λl ss hl pm pw=>?_⟩⟩;have s2:=sm.trans (aR (o:=B6 w L q) hq);exact k l _ (s2.trans (aR hl)) ⟨ss,pm.trans (lJ nd (zg hb.nd) hm),pw,aJ⟩ (bW s2 hl)
theorem Kw(T:Txt K mg A):aY P w K mg base cF 2 A.wants A.ym ["piece"] Jp:=by
 refine T.oG.ok cy ?_ ?_;walk_at "k"
 obtain⟨p,rfl,hp,hb,k⟩:=h;refine⟨_,(aU (pS 1 cy.nd (bO (AK T) 'a' rfl T.Bd T.jj.kp T.jj.b .nil aq (ao (pv 0) (ao a5 aa)))) (aU (pS 2 cy.nd dq) (aU (pF (cN (K:=K) rfl 'B') (bV (K:=K) (n:=4) rfl rfl (dW (pn 3 cy.nd) (dW (pn 4 cy.nd) (dW (pn 5 cy.nd) (dW (pn 6 cy.nd) bX))))) (bo (pF (cN (K:=K) rfl (pv 6)) (bV (K:=K) (n:=5) rfl rfl (dW (pn 7 cy.nd) (dW (pn 8 cy.nd) (dW (pn 9 cy.nd) (dW (pn 10 cy.nd) (dW (pn 11 cy.nd) bX)))))) (bo (bC (PW.pt (wx (Ek (jR (pv 11))) (kR (iD (g0 (bN hr) (pv 9) (pv 1)))))) (bo (gR (bN hr) (pv 2) (pv 9) fU rfl)) cW))))) (bo (aG (fX (vD rfl) (by rfl) T.fz g_ 'v')))))),?_⟩;walk_at "rd";refine⟨p,rfl,hp,hb.nm,hb.nd,λdO ms H1 s1 tab eo hdO d hd=>⟨_,bg.of (aR hd _ _ (s1 _ _ hp.top)),_,rfl,?_⟩⟩;have p1:=hp.mono s1;refine fH.of (xs:=p.aO.map aM.v) (λi σ H'=>∃b3 b4 b5 b6 b7 b8 b9 b10 b11,σ=[some p.v,some (V.ref dO),some (V.ref d),b3,b4,b5,b6,b7,b8,b9,b10,b11]/\aI H1 H'/\H' d=some (.dK (((aZ (p.aO.take i)).foldl (jf p) []).map jc)))
  ⟨_,_,_,_,_,_,_,_,_,rfl,aR hd,aJ⟩ (λi σ H' _ ⟨_,_,_,_,_,_,_,_,_,_,sm,_⟩=>aH.of (sm _ _ p1.sl)) ?_ ?_
 ·rintro i x σ H' hx ⟨b3,b4,b5,b6,b7,b8,b9,b10,b11,rfl,sm,hd'⟩;walk_at "0";obtain⟨st,hst,rfl⟩:=eZ.mp hx;have sa0:=p1.ss st (dI hst);have sa:=sa0.mono sm;have tk:=yW hst;have bd:=EA (p:=p) (i+1);have bd2:=hb.fl;rw[tk,dv]at bd;walk_at "rd";refine⟨_,bg.of sa.top,rfl,_,_,rfl,_,_,rfl,_,_,rfl,_,_,rfl,rfl,?_⟩;refine fH.of (xs:=st.fills.map aB.v) (λj σ H2=>∃b7 b8 b9 b10 b11,σ=[some p.v,some (V.ref dO),some (V.ref d),some (V.str st.kind),some (V.int st.step),some (V.ref st.lw),some (V.ref st.lf),b7,b8,b9,b10,b11]/\aI H1 H2/\H2 d=some (.dK (((aZ (p.aO.take i)++st.fills.take j).foldl (jf p) []).map jc)))
   ⟨_,_,_,_,_,rfl,sm,by rw[hd'];simp⟩ (λj σ H' _ ⟨_,_,_,_,_,_,sm,_⟩=>aH.of (sm _ _ sa0.fl)) ?_ ?_
  ·rintro j x σ H2 hx ⟨b7,b8,b9,b10,b11,rfl,sm2,hd2⟩;walk_at "0";obtain⟨f,hf,rfl⟩:=eZ.mp hx;have fa:=sm2 _ _ (sa0.fs f (dI hf));have tb:=tab.mono sm2;have hj:j<st.fills.length:=(gZ.mp hf).1;have gO:bR H2 dO (V.str f.name) ((aL ms f.name).map λm=>V.ref m.t):=by rw[<-DX];exact bR.k (k:=Sum.inr f.name) tb.top
   have tj:aZ (p.aO.take i)++st.fills.take (j+1)=(aZ (p.aO.take i)++st.fills.take j)++[f]:=by rw[ix,hf,yz];rfl
   have ow:=Dn eo f.name;have flen:((aZ (p.aO.take i)++st.fills.take j).foldl (jf p) []).length<=61:=by
    have h1:=l8 p (aZ (p.aO.take i)++st.fills.take j) [];rw[dv,jM,List.length_nil]at h1;lia
   have step:(aZ (p.aO.take i)++st.fills.take (j+1)).foldl (jf p) []=jf p ((aZ (p.aO.take i)++st.fills.take j).foldl (jf p) []) f:=by rw[tj,OD];rfl
   walk_at "rd";refine⟨_,bg.of fa,rfl,_,_,rfl,_,_,rfl,_,_,rfl,_,_,rfl,_,_,rfl,rfl,_,rfl,cH (λh1=>⟨_,gO,cH (λh2=>?_) (λh2=>?_)⟩) (λh1=>?_)⟩
   ·rw[Tv,ow]at h2;refine⟨_,iF.k (k:=Sum.inr f.name) hd2 'j',e_ hd sm2,?_⟩;rw[aJ,Lk,step,wQ (by rw[h1,h2];rfl)]
   ·rw[Tv,ow]at h2;refine⟨sm2,?_⟩;rw[hd2,step];rw[pJ (by rw[lx];exact λz=>h2 z.2)]
   ·refine⟨sm2,?_⟩;rw[hd2,step];rw[pJ (by rw[lx];exact λz=>h1 z.1)]
  ·rintro σ H2 ⟨b7,b8,b9,b10,b11,rfl,sm2,hd2⟩;rw[aD,kD]at hd2;exact⟨_,_,_,_,_,_,_,_,_,rfl,sm2,by rw[hd2,tk]⟩
 ·rintro σ H' ⟨b3,b4,b5,b6,b7,b8,b9,b10,b11,rfl,sm,hd'⟩;rw[aD,kD]at hd';have hle:(yk p).length<=61:=ia (l8 p _ []) (by have:=hb.fl;simpa using this);walk_at "rd";have s2:=s1.trans sm;exact⟨_,hd',yk p,SA _,by lia,λl ss hl pm pw=>k l _ (s2.trans (aR hl)) ⟨ss,pm,pw,aJ⟩ (bW s2 hl)⟩
theorem Ql{β:Type}{es:List (Str×Addr×β)}{z:Str}(h:z∉es.map (·.1)):br (es.map λe=>((.inr e.1:Key),V.ref e.2.1)) (.inr z)=none:=by
 unfold br;rw[C3.mpr]
 ·rfl
 ·intro x hx;obtain⟨e,he,rfl⟩:=aQ.mp hx;intro q;exact h (aQ.mpr ⟨e,he,Sum.inr.inj (of_decide_eq_true q)⟩)
theorem DV{β:Type}{es:List (Str×Addr×β)}{z:Str}{v:V}(h:z∉es.map (·.1)):putK (es.map λe=>((.inr e.1:Key),V.ref e.2.1)) (.inr z) v=(es.map λe=>((.inr e.1:Key),V.ref e.2.1))++[(.inr z,v)]:=by
 unfold putK;rw[if_neg];intro q;obtain⟨x,hx,q⟩:=nj.mp q;obtain⟨e,he,rfl⟩:=aQ.mp hx;exact h (aQ.mpr ⟨e,he,Sum.inr.inj (of_decide_eq_true q)⟩)
theorem Q4{ag:List (Key×V)}{k:Key}{v:V}(h:(k,v)∈ag):∃v',br ag k=some v'/\(k,v')∈ag:=by
 unfold br;cases hf:ag.find? λkv=>decide (kv.1=k) with
 |none=>exact absurd (decide_eq_true (rfl:k=k)) (C3.mp hf (k,v) h)
 |some x=>
  have h1:=Kq hf;have h2:=wF hf;refine⟨x.2,rfl,?_⟩;rw[<-(of_decide_eq_true h1:x.1=k)];exact h2
def zF(H:Hp)(b:Addr):Str:=match H b with | some (.tup (.str n::_))=>n | _=>s!""
def rF(H:Hp)(b:Addr):List V:=match H b with | some (.tup (.str _::r))=>r | _=>[]
theorem FN(at_:∀p∈ps,p.At H)(nd:'r'.Nodup)(pm:bs.Perm (ps.map ah.t)):∃so:List ah,so.Perm ps/\so.map ah.t=bs:=by
 have one:∀p∈ps,∀q∈ps,p.t=q.t->p=q:=λp hp q hq e=>by
  have h1:=(at_ p hp).top;have h2:=(at_ q hq).top;rw[e,h2]at h1;have en:q.name=p.name:=by
   have:=Option.some.inj h1;injection this with this;injection this with this _;injection this
  obtain⟨i,hi,rfl⟩:=AN hp;obtain⟨j,hj,rfl⟩:=AN hq;have pw:=D6.mp nd;rcases Rt i j with z|z|z
  ·exact absurd (by rw[wC,wC];exact en.symm) (pw i j (by simpa using hi) (by simpa using hj) z)
  ·subst z;rfl
  ·exact absurd (by rw[wC,wC];exact en) (pw j i (by simpa using hj) (by simpa using hi) z)
 let g:Addr->ah:=λb=>(ps.find? λp=>decide (p.t=b)).getD ⟨0,0,0,s!"", [],[]⟩
 have hg:∀p∈ps,g p.t=p:=λp hp=>by
  show(ps.find? λq=>decide (q.t=p.t)).getD _=p;cases hf:ps.find? λq=>decide (q.t=p.t) with
  |none=>exact absurd (decide_eq_true rfl) (C3.mp hf p hp)
  |some q=>exact(one p hp q (wF hf) (of_decide_eq_true (Kq (p:=λq:ah=>decide (q.t=p.t)) hf)).symm).symm
 refine⟨bs.map g,?_,?_⟩
 ·have:=pm.map g;rw[cC,(Cg (f:=g ∘ ah.t) (g:=id) λp hp=>hg p hp),List.map_id]at this;exact this
 ·rw[cC];refine(Cg (g:=id) λb hb=>?_).trans (List.map_id _);obtain⟨p,hp,rfl⟩:=aQ.mp (pm.mem_iff.mp hb);show(g p.t).t=p.t;rw[hg p hp]
def dy(p:ah)(s z:Str):Option (Str×Int×Int):=(p.aS.find? λn=>decide (n.name=z)&&decide (n.sort=s)).map λn=>(p.name,n.st,n.off)
def dB(so:List ah)(s z:Str):Option (Str×Int×Int):=so.findSome? λp=>dy p s z
theorem D5(ms:List ay)(m:ay)(z:Str):aL (fe ms m) z=if m.name=z then some m else aL ms z:=by
 unfold fe aL;by_cases h:(ms.any λn=>decide (n.name=m.name))=true
 ·rw[if_pos h];by_cases e:m.name=z
  ·rw[if_pos e]
   induction ms with
   |nil=>cases h
   |cons n r ih=>
    rw[iZ,KI];by_cases q:n.name=m.name
    ·rw[if_pos q,decide_eq_true e]
    ·rw[if_neg q,decide_eq_false (λy=>q (y.trans e.symm))];refine ih ?_;rw[Rb,decide_eq_false q]at h;exact h
  ·rw[if_neg e];clear h
   induction ms with
   |nil=>rfl
   |cons n r ih=>
    rw[iZ,KI,KI];by_cases q:n.name=m.name
    ·rw[if_pos q,decide_eq_false e,decide_eq_false (λy=>e (q.symm.trans y))];exact ih
    ·rw[if_neg q];by_cases y:n.name=z
     ·rw[decide_eq_true y]
     ·rw[decide_eq_false y];exact ih
 ·rw[if_neg h,List.find?_append];by_cases e:m.name=z
  ·rw[if_pos e,C3.mpr]
   ·rw[KI,decide_eq_true e];rfl
   ·intro n hn q;exact h (nj.mpr ⟨n,hn,decide_eq_true ((of_decide_eq_true q).trans e.symm)⟩)
  ·rw[if_neg e,KI,decide_eq_false e];cases ms.find? λn=>decide (n.name=z)<;>rfl
theorem Qj(h:(ms.map ay.name).Nodup):((fe ms m).map ay.name).Nodup:=by
 unfold fe;by_cases q:(ms.any λn=>decide (n.name=m.name))=true
 ·rw[if_pos q,cC];have e:(ay.name ∘ λn=>if n.name=m.name then m else n)=ay.name:=by
   funext n;show ay.name (if n.name=m.name then m else n)=n.name;by_cases y:n.name=m.name
   ·rw[if_pos y,y]
   ·rw[if_neg y]
  rw[e];exact h
 ·rw[if_neg q,bu];refine gX.mpr ⟨h,by simp,λx hx y hy e=>?_⟩;obtain⟨n,hn,rfl⟩:=aQ.mp hx;rw[List.map_singleton,cx]at hy;exact q (nj.mpr ⟨n,hn,decide_eq_true (e.trans hy)⟩)
theorem AL:∀(ns ms:List ay),cn (ms.map ay.kv) (ns.map ay.kv)=(ns.foldl fe ms).map ay.kv
 |[],ms=>rfl
 |n::ns,ms=>by
  rw[iZ,A3,<-AL ns,<-Jx];rfl
theorem xD:∀{ns ms:List ay},(ms.map ay.name).Nodup->((ns.foldl fe ms).map ay.name).Nodup
 |[],_,h=>h
 |n::ns,ms,h=>xD (ns:=ns) (Qj h)
theorem ni:∀{ns ms:List ay}{m:ay},m∈ns.foldl fe ms->m∈ns\/m∈ms
 |[],_,_,h=>.inr h
 |n::ns,ms,m,h=>by
  rcases ni (ns:=ns) h with z|z
  ·exact .inl (jD _ z)
  ·rcases yg z with y|y
   ·exact .inr y
   ·exact .inl (y▸ko)
theorem m_:∀{ns ms:List ay},(ns.foldl fe ms).length<=ms.length+ns.length
 |[],_=>bS _
 |n::ns,ms=>by
  have h1:=m_ (ns:=ns) (ms:=fe ms n);have h2:=Ep (ms:=ms) (m:=n);rw[A3,md];lia
theorem lU:∀{ns ms:List ay}{z:Str},(ns.map ay.name).Nodup->aL (ns.foldl fe ms) z=(aL ns z).or (aL ms z)
 |[],ms,z,_=>rfl
 |n::ns,ms,z,h=>by
  rw[iZ]at h;obtain⟨h1,h2⟩:=mH.mp h;rw[A3,lU h2,D5];by_cases e:n.name=z
  ·rw[if_pos e];have:aL ns z=none:=C3.mpr λm hm q=>h1 (aQ.mpr ⟨m,hm,(of_decide_eq_true q).trans e.symm⟩);rw[this];unfold aL;rw[KI,decide_eq_true e];rfl
  ·rw[if_neg e];unfold aL;rw[KI,decide_eq_false e]
theorem Cn(e:ms.map (λm=>(m.name,m.a,m.b,m.c))=(p.aS.filter λn=>decide (n.sort=s)).map (λn=>(n.name,p.name,n.st,n.off))):(aL ms z).map ay.vl=dy p s z:=by
 have h1:(aL ms z).map ay.vl=((ms.map (λm=>(m.name,m.a,m.b,m.c))).find? λt=>decide (t.1=z)).map (·.2):=by
  unfold aL;rw[KO,MS];rfl
 rw[h1,e,KO,MS,List.find?_filter];unfold dy;congr 1;refine congrArg (λf=>List.find? f p.aS) (funext λn=>?_);show decide (decide (n.sort=s)=true/\decide (n.name=z)=true)=_;by_cases a:n.name=z<;>by_cases b:n.sort=s<;>simp[a,b]
theorem LJ{p:ah}{s:Str}{ms:List ay}(h:'V'.Nodup)(e:ms.map (λm=>(m.name,m.a,m.b,m.c))=(p.aS.filter λn=>decide (n.sort=s)).map (λn=>(n.name,p.name,n.st,n.off))):(ms.map ay.name).Nodup:=by
 have e1:ms.map ay.name=(p.aS.filter λn=>decide (n.sort=s)).map aw.name:=by
  have:=congrArg (List.map (·.1)) e;walk_at "1";exact this
 rw[e1];exact List.Nodup.sublist (List.Sublist.map _ List.filter_sublist) h
theorem FV{p:ah}{s:Str}{ms:List ay}(e:ms.map (λm=>(m.name,m.a,m.b,m.c))=(p.aS.filter λn=>decide (n.sort=s)).map (λn=>(n.name,p.name,n.st,n.off))):ms.length<=p.aS.length:=by
 have:=congrArg List.length e;walk_at "2";have h1:=Ko (λn:aw=>decide (n.sort=s)) p.aS;lia
theorem mZ(h:dy p s z=some v):∃n∈p.aS,n.name=z/\n.sort=s/\v=S6 (p.name,n):=by
 unfold dy at h;obtain⟨n,h1,h2⟩:=eZ.mp h;have h3:=Kq h1;rw[lx]at h3;exact⟨n,wF h1,of_decide_eq_true h3.1,of_decide_eq_true h3.2,h2.symm⟩
theorem gW(h:dy p s z=none):∀n∈p.aS,n.name=z->n.sort≠s:=λn hn h1 h2=>by
 unfold dy at h;have:=C3.mp (Option.map_eq_none_iff.mp h) n hn;exact this (by rw[decide_eq_true h1,decide_eq_true h2];rfl)
theorem bJ:r∈c6 ps↔∃p∈ps,p.name=r.1/\r.2∈p.aS:=by
 unfold c6;rw[jE];constructor
 ·rintro⟨p,hp,h⟩;obtain⟨n,hn,rfl⟩:=aQ.mp h;exact⟨p,hp,rfl,hn⟩
 ·rintro⟨p,hp,h1,h2⟩;exact⟨p,hp,aQ.mpr ⟨r.2,h2,by rw[h1]⟩⟩
theorem UT(pm:so.Perm ps)(pw:(so.map λp=>((p.name,0):aF)).Pairwise kF)(nd:(ms.map ay.name).Nodup)(h:∀z,(aL ms z).map ay.vl=(dB so bP z).or (dB so eI z)):fW (c6 ps) ms:=by
 refine⟨nd,λz m hm=>?_,λz hz r hr hn=>?_⟩
 ·have e:=h z;rw[hm]at e;cases h1:dB so bP z with
  |some v=>
   rw[h1]at e;obtain⟨p,hp,hv⟩:=List.exists_of_findSome?_eq_some h1;obtain⟨n,hn,q1,q2,q3⟩:=mZ hv;exact .inl ⟨(p.name,n),bJ.mpr ⟨p,pm.mem_iff.mp hp,rfl,hn⟩,q1,q2,(Option.some.inj e).trans q3⟩
  |none=>
   rw[h1]at e;refine .inr ⟨λr hr hn=>?_,?_⟩
   ·obtain⟨p,hp,q1,q2⟩:=bJ.mp hr;exact gW (List.findSome?_eq_none_iff.mp h1 p (pm.mem_iff.mpr hp)) r.2 q2 hn
   ·obtain⟨l1,p,l2,el,hv,nn⟩:=List.findSome?_eq_some_iff.mp (show dB so eI z=some (ay.vl m) from e.symm);obtain⟨n,hn,q1,q2,q3⟩:=mZ hv;have hp:p∈so:=by rw[el];simp
    refine⟨(p.name,n),bJ.mpr ⟨p,pm.mem_iff.mp hp,rfl,hn⟩,q1,q2,q3,λr' hr' n' s'=>?_⟩;obtain⟨q,hq,y1,y2⟩:=bJ.mp hr';have hq':=pm.mem_iff.mpr hq;rw[el]at hq';rcases bM.mp hq' with y|y
    ·exact absurd s' (gW (nn q y) r'.2 y2 n')
    ·rcases iu.mp y with y|y
     ·rw[<-y1,y];exact List.lt_irrefl _
     ·rw[el,bu,iZ]at pw;have:=(List.pairwise_cons.mp (VO.mp pw).2.1).1 (q.name,0) (aQ.mpr ⟨q,y,rfl⟩);show ¬r'.1.cps.toList<p.name.cps.toList;rw[<-y1];intro z;unfold kF at this;rw[(fc (q.name,0) (p.name,0)).mpr (.inl z)]at this;cases this
 ·have e:=h z;rw[hz]at e;have e:(dB so bP z).or (dB so eI z)=none:=e.symm;obtain⟨e1,e2⟩:=Option.or_eq_none_iff.mp e;obtain⟨p,hp,q1,q2⟩:=bJ.mp hr;have hp':=pm.mem_iff.mpr hp;exact⟨gW (List.findSome?_eq_none_iff.mp e1 p hp') r.2 q2 hn,gW (List.findSome?_eq_none_iff.mp e2 p hp') r.2 q2 hn⟩
theorem yT(so:List ah)(s z:Str)(b:Option (Str×Int×Int)):so.reverse.foldl (λb p=>(dy p s z).or b) b=(dB so s z).or b:=by
 induction so with
 |nil=>rfl
 |cons p r ih=>
  rw[List.reverse_cons,OD,ih];unfold dB;rw[List.findSome?_cons];show(dy p s z).or ((r.findSome? λp=>dy p s z).or b)=_;cases dy p s z<;>rfl
structure ZQ(H:Hp)(d:Addr)(es:List (Str×Addr×Str)):Prop where
 top:H d=some (.dK (es.map λe=>((.inr e.1:Key),V.ref e.2.1)))
 one:∀e∈es,H e.2.1=some (.lst [.str e.2.2])
theorem Vg(T:Txt K mg A):aY P w K mg base cF 2 A.XQ A.G_ ["ordered"] Cv:=by
 refine T.Ia.ok l7 ?_ ?_;walk_at "k"
 obtain⟨L,ps,rfl,hP,hN,k⟩:=h;refine⟨_,(aU (pS 1 l7.nd dq) (aU (pF (cN (K:=K) rfl (pv 0)) (pn 2 l7.nd) (bo (pF (Ab (bO (AK T) 'a' rfl T.Bd T.jj.kp T.jj.b .nil aq (ao (pv 2) (ao a5 aa)))) (pn 3 l7.nd) (bo (c8 (cq (Dc (bN hr) (pv 1) (pv 3) (aW aa) ⟨rfl,rfl,rfl,rfl⟩) (ao (tx K (pv 2)) aa))))))) (aU (fC (i:=4) l7.nd rfl 'z' (iE (own:=["name"]) (fr:=["tellers"]) (fm:=[1]) rfl 'e' 'e' 'e' (.cons rfl 'z' rfl .nil)) rfl (Ab (pv 1)) (λ_ _ _=>⟨(pn 0 'g'),(iY (cJ Je (fX (b_ (K:=K) rfl) (by rfl) T.gm eg (ao (dj (bN hr) (pv 1) (pv 0) (λ_ _=>rfl)) aa)) af (aV _))),(pv 0)⟩)) (bo (bC (jv (pv 4) (λ_=>rfl)) (aU dt (bo dt)) cW))))),?_⟩;walk_at "rd";intro d hd;refine fH.of (xs:=ps.map ah.v) (λi σ H'=>∃(es:List (Str×Addr×Str)) (b2 b3:Option V),σ=[some (.ref L),some (.ref d),b2,b3,none,none]/\aI H H'/\ZQ H' d es/\es.length<=61*i/\∀e∈es,∃p∈ps.take i,∃n∈p.aS,n.sort=bP/\n.name=e.1)
  ⟨[],_,_,rfl,aR hd,⟨aJ,λe he=>by cases he⟩,by simp,λe he=>by cases he⟩ ?_ ?_ ?_
 ·rintro i σ H' hi ⟨es,b2,b3,rfl,s1,_⟩;exact aH.of (s1 _ _ hP.top)
 ·rintro i v σ H' hv ⟨es,b2,b3,rfl,s1,tw,el,ek⟩;walk_at "4";walk_at "5";have hm:=dI hp;have pa:=(hP.at_ p hm).mono s1;obtain⟨n1,n2⟩:=hN.aS p hm;walk_at "rd";refine⟨p,rfl,pa,n1,n2,λd2 ms H2 s2 tab em f2=>?_⟩;refine LV.of tab.top (λo j σ H3=>∃(es':List (Str×Addr×Str)) (b3:Option V),σ=[some (.ref L),some (.ref d),some p.v,b3,none,none]/\aI H H3/\H3 d2=some (.iw o (.dK (ms.map ay.kv)))/\ZQ H3 d es'/\es'.map (·.1)=es.map (·.1)++(ms.take j).map ay.name) ?_ ?_ ?_ ?_
  ·intro o;have nd2:d2≠d:=λe=>by rw[e,tw.top]at f2;cases f2
   have nf:∀x u,H' x=some u->upd H2 d2 (.iw o (.dK (ms.map ay.kv))) x=some u:=λx u e=>by rw[ae (bA e f2)];exact s2 _ _ e
   exact⟨es,_,rfl,λx u e=>nf x u (s1 _ _ e),aJ,⟨nf _ _ tw.top,λe he=>nf _ _ (tw.one e he)⟩,by simp⟩
  ·rintro o j σ H3 hj ⟨es',b3,rfl,s3,hz,_⟩;exact hz
  ·rintro o j pr σ H3 hv ⟨es',b3,rfl,s3,hz,tw',ek'⟩;walk_at "4";obtain⟨m,hj,rfl⟩:=eZ.mp hv;have new:m.name∉es'.map (·.1):=by
    have nn:∀m∈ms,∃n∈p.aS,n.sort=bP/\n.name=m.name:=λm hm=>by
     have:(m.name,m.a,m.b,m.c)∈ms.map λm=>(m.name,m.a,m.b,m.c):=aQ.mpr ⟨m,hm,rfl⟩;rw[em]at this;obtain⟨n,hn,e⟩:=aQ.mp this;obtain⟨q1,q2⟩:=yw.mp hn;exact⟨n,q1,of_decide_eq_true q2,congrArg (·.1) e⟩
    have mnd:(ms.map ay.name).Nodup:=by
     have e1:ms.map ay.name=(p.aS.filter λn=>decide (n.sort=bP)).map aw.name:=by
      have:=congrArg (List.map (·.1)) em;walk_at "1";exact this
     rw[e1];exact List.Nodup.sublist (List.Sublist.map _ List.filter_sublist) n2
    rw[ek'];intro z;rcases bM.mp z with z|z
    ·obtain⟨e,he,ee⟩:=aQ.mp z;obtain⟨q,hq,n,hn,q1,q2⟩:=ek e he;obtain⟨n',hn',q3,q4⟩:=nn m (dI hj);have pw:=hN.tw;obtain⟨k',hk',hqk⟩:=AN hq;rw[jM]at hk';rw[List.getElem_take]at hqk;have pi:=(gZ.mp hp)
     obtain⟨pi1,pi2⟩:=pi;have:=D6.mp pw k' i (by lia) pi1 (by lia);rw[hqk,pi2]at this;exact this n hn n' hn' q1 q3 (by rw[q2,q4,ee])
    ·have:(ms.take (j+1)).map ay.name=(ms.take j).map ay.name++[m.name]:=by rw[ix,hj,bu];rfl
     have nd':((ms.take (j+1)).map ay.name).Nodup:=List.Nodup.sublist (List.Sublist.map _ (List.take_sublist _ _)) mnd;rw[this]at nd';exact(gX.mp nd').2.2 _ z _ (by simp) rfl
   have pa3:=(hP.at_ p hm).mono s3;walk_at "rd";have vn:br (es'.map λe=>((.inr e.1:Key),V.ref e.2.1)) (.inr m.name)=none:=Ql new;have pn:putK (es'.map λe=>((.inr e.1:Key),V.ref e.2.1)) (.inr m.name) (V.ref 0)=(es'.map λe=>((.inr e.1:Key),V.ref e.2.1))++[(.inr m.name,V.ref 0)]:=DV new;have el':=congrArg List.length ek';rw[dv,aD,aD,aD,jM]at el';have ml:ms.length<=61:=by
    have:=congrArg List.length em;walk_at "2";have h1:=Ko (λn:aw=>decide (n.sort=s!"tell")) p.aS;lia
   have il:=(gZ.mp hp).1;have fw:=hN.bQ;refine⟨.inl ⟨_,.inl tw'.top⟩,d_ _,λl hl=>?_⟩;have sl:=aR (o:=HO.lst []) hl;have nl:d≠l:=bA tw'.top hl;refine⟨none,.inl ⟨_,.inr m.name,.inl (sl _ _ tw'.top),rfl,vn.symm⟩,_,iF.k (k:=.inr m.name) (sl _ _ tw'.top) 'j',(λv hv=>by cases hv),λ_=>?_⟩;have l1:upd (upd H3 l (.lst [])) d (.dK (putK (es'.map λe=>((.inr e.1:Key),V.ref e.2.1)) (.inr m.name) (.ref l))) l=some (.lst []):=by rw[ae (Ne.symm nl),aJ]
   have tp:upd (upd H3 l (.lst [])) d (.dK (putK (es'.map λe=>((.inr e.1:Key),V.ref e.2.1)) (.inr m.name) (.ref l))) p.t=some (.tup [.str p.name,.ref p.ls,.ref p.ln]):=by
    rw[ae (cj pa3.top tw'.top 'k')];exact sl _ _ pa3.top
   refine⟨.inl ⟨rfl,_,aH.of l1⟩,_,bg.of tp,_,rfl,_,l1,by walk_at "s", ?_,?_,es'++[(m.name,l,p.name)],⟨?_,λe he=>?_⟩,?_⟩
   ·exact e_ (s3.free hl) (e_ hd (s3.trans sl))
   ·have n2':d2≠d:=λe=>by rw[e,tw'.top]at hz;cases hz
    rw[ae (bA hz hl),ae n2'];exact sl _ _ hz
   ·rw[ae nl,aJ,DV new,bu];rfl
   ·rcases bM.mp he with z|z
    ·have e1:=tw'.one e z;rw[ae (bA e1 hl),ae (cj e1 tw'.top 'k')];exact sl _ _ e1
    ·rw[cx.mp z];exact aJ
   ·rw[bu,ek',yz,ix,hj,bu];rfl
  ·rintro o σ H3 ⟨es',b3,rfl,s3,hz,tw',ek'⟩;rw[aD,kD]at ek';have ml:ms.length<=61:=by
    have:=congrArg List.length em;walk_at "2";have h1:=Ko (λn:aw=>decide (n.sort=s!"tell")) p.aS;lia
   have el':=congrArg List.length ek';rw[dv,aD,aD,aD]at el';walk_at "6";refine⟨es',_,_,rfl,s3,tw',by lia,λe he=>?_⟩;have:e.1∈es'.map (·.1):=aQ.mpr ⟨e,he,rfl⟩;rw[ek']at this;rcases bM.mp this with z|z
   ·obtain⟨e0,he0,e1⟩:=aQ.mp z;obtain⟨q,hq,n,hn,q1,q2⟩:=ek e0 he0;exact⟨q,by rw[tk];exact gG _ hq,n,hn,q1,by rw[q2,e1]⟩
   ·obtain⟨m,hm',e1⟩:=aQ.mp z;have:(m.name,m.a,m.b,m.c)∈ms.map λm=>(m.name,m.a,m.b,m.c):=aQ.mpr ⟨m,hm',rfl⟩;rw[em]at this;obtain⟨n,hn,e2⟩:=aQ.mp this;obtain⟨q1,q2⟩:=yw.mp hn;exact⟨p,by rw[tk];simp,n,q1,of_decide_eq_true q2,by rw[<-e1];exact congrArg (·.1) e2⟩
 ·rintro σ H' ⟨es,b2,b3,rfl,s1,tw,el,ek⟩;walk_at "rd";rw[aD]at el;have bQ:=hN.bQ;refine z8.of 'j' tw.top (λo D i ys H2=>ys=[]/\H2=upd (upd H' d (.iw o (.dK (es.map λe=>((.inr e.1:Key),V.ref e.2.1))))) D (.lst [])) (λo D hD=>⟨rfl,rfl⟩) ?_ ?_ ?_
  ·rintro o D i ys H2 hD hi ⟨rfl,rfl⟩;exact⟨by rw[ae (bA tw.top hD),aJ],aJ,d_ _⟩
  ·rintro o D i pr ys H2 hD hv ⟨rfl,rfl⟩;walk_at "4";obtain⟨e,he,rfl⟩:=eZ.mp hv;walk_at "rd";obtain⟨v',v1,v2⟩:=Q4 (aQ.mpr ⟨e,dI he,rfl⟩:((.inr e.1:Key),V.ref e.2.1)∈es.map λe=>((.inr e.1:Key),V.ref e.2.1));obtain⟨e',he',ee⟩:=aQ.mp v2;have ev:V.ref e'.2.1=v':=congrArg (·.2) ee;subst ev;have hd2:upd (upd H' d (.iw o (.dK (es.map λe=>((.inr e.1:Key),V.ref e.2.1))))) D (.lst []) d=some (.iw o (.dK (es.map λe=>((.inr e.1:Key),V.ref e.2.1)))):=by rw[ae (bA tw.top hD),aJ]
   have o1:=tw.one e' he';refine⟨.no (.yes .nil),_,.inl ⟨_,.inr e.1,.inr ⟨o,hd2⟩,rfl,v1.symm⟩,1,.inl ⟨[.str e'.2.2],aH.of (by rw[ae (bA o1 hD),ae (cj o1 tw.top 'k')];exact o1),rfl⟩,?_⟩;rw[if_neg (by decide)];trivial
  ·rintro o D ys H2 hD ⟨rfl,rfl⟩;refine⟨false,.inl ⟨[],aH.of aJ,rfl⟩,?_⟩;rw[if_neg (by decide)];exact k _ (e_ (s1.free hD) (e_ hd s1))
theorem Kn.perm(h:Kn ps)(pm:so.Perm ps):Kn so:=
 ⟨by rw[pm.length_eq];exact h.bQ,(pm.map _).nodup_iff.mpr h.nd,λp hp=>h.aS p (pm.mem_iff.mp hp),(pm.pairwise_iff λ{x y} r a ha b hb h1 h2 e=>r b hb a ha h2 h1 e.symm).mpr h.tw⟩
theorem MD(T:Txt K mg A):aY P w K mg base cF 6 A.Xa A.yY ["pieces"] (yX A):=by
 refine T.yf.ZJ T.Pw lR (λvs H Q E h=>?_) (λc cdv Ar outer s H vs Q E hcd hcc hr h=>?_)
 ·obtain⟨L,ps,rfl,_⟩:=h;rfl
 ·obtain⟨L,ps,rfl,hP,hN,tb,k⟩:=h;refine⟨_,(aU (pS 1 lR.nd (xO (K:=K) (P:=A.bf) (y := "piece") rfl 'a' (pv 0) (by rfl) T.fz hcd hcc T.bm ⟨rfl,rfl,rfl,by decide +kernel,rfl,by decide +kernel,by decide +kernel⟩ (λ_ _ _ _ _ _=>'B'))) (aU (c8 (bO (Vg T) 'a' rfl T.Sq T.Ia.kp T.Ia.b .nil aq 'E')) (aU (pS 2 lR.nd dq) (aU (pF (KP (K:=K) rfl (a_ (ao a5 (ao a5 aa)))) (pn 3 lR.nd) (bo (pF (Qy (K:=K) rfl rfl T.zp (pv 1)) (pn 4 lR.nd) (bo (c8 (A6 PySem.F.plainAttrs_dict PySem.F.slot_dict_update PySem.F.type_dict_update y4 (pv 2) (ao (bO (AK T) 'a' rfl T.Bd T.jj.kp T.jj.b .nil aq (ao (pv 4) 'D')) aa))))))) (bo (aG (pv 2))))))),?_⟩;walk_at "rd";obtain⟨ps0,hT,_⟩:=id tb;have hz:∀p∈ps,zF H p.t=p.name/\rF H p.t=[.ref p.ls,.ref p.ln]:=λp hp=>by
   unfold zF rF;rw[(hP.at_ p hp).top];exact⟨rfl,rfl⟩
  refine⟨ps.map ah.t,by rw[cC];exact aH.of hP.top,zF H,rF H,λb hb=>?_,by rw[aD];have:=hN.bQ;lia,tb,λl bs H2 l0 pm pw sx tb2 hl=>?_⟩
  ·obtain⟨p,hp,rfl⟩:=aQ.mp hb;rw[(hz p hp).1,(hz p hp).2];exact(hP.at_ p hp).top
  obtain⟨so,sp,rfl⟩:=FN hP.at_ hN.nd pm;have pw2:(so.map λp=>((p.name,0):aF)).Pairwise kF:=by
   rw[cC]at pw
   rwa [Cg (g:=λp:ah=>((p.name,0):aF)) λp hp=>by show(zF H p.t,(0:Int))=_;rw[(hz p (sp.mem_iff.mp hp)).1]]at pw
  have hP2:PL H2 l so:=⟨by rw[cC]at hl;exact hl,λp hp=>(hP.at_ p (sp.mem_iff.mp hp)).keep hT sx⟩
  have hN2:=hN.perm sp;refine⟨so,hP2,hN2,λH3 s3 d hd=>⟨by rw[sizeLine_eq];decide,λq hq=>?_⟩⟩;have s4:=aR (o:=HO.dK []) hd;have s5:=aR (o:=HO.tup [V.str s!"weak",V.str s!"tell"]) hq;have d5:upd (upd H3 d (.dK [])) q (.tup [V.str s!"weak",V.str s!"tell"]) d=some (.dK []):=s5 _ _ aJ;have q5:upd (upd H3 d (.dK [])) q (.tup [V.str s!"weak",V.str s!"tell"]) q=some (.tup [V.str s!"weak",V.str s!"tell"]):=aJ;have s25:aI H2 (upd (upd H3 d (.dK [])) q (.tup [V.str s!"weak",V.str s!"tell"])):=s3.trans (s4.trans s5);have d2:H2 d=none:=s3.free hd;have ndq:d≠q:=bA (aJ (H:=H3) (a:=d) (o:=HO.dK [])) hq;have bQ:=hN2.bQ;generalize upd (upd H3 d (.dK [])) q (.tup [V.str s!"weak",V.str s!"tell"])=H5 at *;refine K9.of (xs:=[V.str s!"weak",V.str s!"tell"]) (λa σ H'=>∃(ms:List ay) (b3 b4:Option V),σ=[some (.ref L),some (.ref l),some (.ref d),b3,b4]/\aI H2 H'/\H' q=some (.tup [V.str s!"weak",V.str s!"tell"])/\Tab H' d ms/\ms.length<=61*20*a/\(ms.map ay.name).Nodup/\∀z,(aL ms z).map ay.vl=if a=0 then none else if a=1 then dB so eI z else (dB so bP z).or (dB so eI z))
   ⟨[],_,_,rfl,s25,q5,⟨d5,λm hm=>by cases hm⟩,by simp,by simp,λz=>rfl⟩ ?_ ?_ ?_
  ·rintro a σ H' ha ⟨ms,b3,b4,rfl,s6,hq6,_⟩;exact bg.of hq6
  ·rintro a v σ H' hv ⟨ms,b3,b4,rfl,s6,hq6,tab,len,nd,look⟩;obtain⟨s,hs,rfl,ha⟩:∃s:Str,True/\v=.str s/\((a=0/\s=eI)\/(a=1/\s=bP)):=by
    match a,hv with
    |0,hv=>cases hv;exact⟨_,trivial,rfl,.inl ⟨rfl,rfl⟩⟩
    |1,hv=>cases hv;exact⟨_,trivial,rfl,.inr ⟨rfl,rfl⟩⟩
   walk_at "rd";refine Ml.of (xs:=so.map ah.v) (λi σ H'=>∃(ms':List ay) (b4:Option V),σ=[some (.ref L),some (.ref l),some (.ref d),some (.str s),b4]/\aI H2 H'/\H' q=some (.tup [V.str s!"weak",V.str s!"tell"])/\Tab H' d ms'/\ms'.length<=61*20*a+61*i/\(ms'.map ay.name).Nodup/\∀z,(aL ms' z).map ay.vl=(so.reverse.take i).foldl (λb p=>(dy p s z).or b) ((aL ms z).map ay.vl))
    ⟨ms,_,rfl,s6,hq6,tab,by lia,nd,λz=>rfl⟩ ?_ ?_ ?_
   ·rintro i σ H7 hi ⟨ms',b4,rfl,s7,_⟩;exact aH.of (s7 _ _ hP2.top)
   ·rintro i v σ H7 hv ⟨ms',b4,rfl,s7,hq7,tab7,len7,nd7,look7⟩;rw[<-List.map_reverse,gU]at hv;walk_at "5";have pm':p∈so:=List.mem_reverse.mp (dI hp);have il:=(gZ.mp hp).1;rw[List.length_reverse]at il;have pa:=(hP2.at_ p pm').mono s7;obtain⟨n1,n2⟩:=hN2.aS p pm';walk_at "rd";refine⟨.inr (.inr (.inl ⟨rfl,.inl ⟨_,tab7.top⟩⟩)),p,rfl,pa,n1,n2,λd8 ns H8 s8 tab8 em f8=>?_⟩;have nd8:d≠d8:=bA tab7.top f8;have tl:=FV em;have tab7':=tab7.mono s8;refine⟨_,tab7'.top,_,tab8.top,nd8,by rw[aD,aD];rcases ha with ⟨rfl,_⟩|⟨rfl,_⟩<;>lia,?_⟩;rw[AL];refine⟨e_ d2 (s7.trans s8),?_,ns.foldl fe ms',⟨aJ,λm hm=>?_⟩,?_,xD nd7,λz=>?_⟩
    ·rw[ae (cj hq7 tab7.top 'k')];exact s8 _ _ hq7
    ·have key:ay.At H8 m:=(ni hm).elim (λy=>tab8.at_ m y) λy=>tab7'.at_ m y;unfold ay.At;rw[ae (cj key tab7'.top 'k')];exact key
    ·have:=m_ (ns:=ns) (ms:=ms');lia
    ·rw[lU (LJ n2 em),ix,hp,OD];show _=(dy p s z).or _;rw[<-look7 z,<-Cn em];cases aL ns z<;>rfl
   ·rintro σ H7 ⟨ms',b4,rfl,s7,hq7,tab7,len7,nd7,look7⟩;rw[aD]at len7;refine⟨ms',_,_,rfl,s7,hq7,tab7,by lia,nd7,λz=>?_⟩;rw[look7 z,aD,List.take_of_length_le (by rw[List.length_reverse];exact bS _),yT,look z];rcases ha with ⟨rfl,rfl⟩|⟨rfl,rfl⟩
    ·show(dB so eI z).or none=dB so eI z;rw[Option.or_none]
    ·rfl
  ·rintro σ H' ⟨ms,b3,b4,rfl,s6,hq6,tab,len,nd,look⟩;walk_at "rd";have dP:d≠A.bf:=λe=>by
    obtain⟨_,e1,_⟩:=tb2;rw[e,e1]at d2;cases d2
   exact k d ms H' (λb o n e=>s6 _ _ (sx b o n e)) (tb2.more s6) tab (UT sp pw2 nd λz=>by rw[look z];rfl) (sx.free dP d2)
theorem LC(b:yu p):(ig p).length<=61:=by
 unfold ig;rw[aD];exact ia (Ko _ _) b.nm
theorem xJ:z∈ig p↔cD z (aC p)=true:=by
 unfold ig cD aC;simp only[List.any_map,List.any_eq_true,List.mem_map,List.mem_filter];constructor
 ·rintro⟨n,⟨h1,h2⟩,rfl⟩;have h2:n.sort≠dM:=of_decide_eq_true h2;refine⟨n,h1,?_⟩;show(decide (n.name=n.name) && !decide (n.sort=dM))=true;rw[decide_eq_true rfl,decide_eq_false h2];rfl
 ·rintro⟨n,h1,h2⟩;have h2:(decide (n.name=z) && !decide (n.sort=dM))=true:=h2;rw[lx,Bool.not_eq_true',decide_eq_false_iff_not]at h2;exact⟨n,⟨h1,decide_eq_true h2.2⟩,of_decide_eq_true h2.1⟩
def FI(p:ah)(z:Str):Prop:=∃f∈aZ p.aO,(!f.soft && !dS p f.name)=true/\f.name=z
theorem F1(p:ah)(z:Str):IU z (aC p)=dS p z:=by
 unfold IU dS aC;rw[List.any_map];rfl
theorem oj:FI p z↔bH z (aC p)=true:=by
 unfold FI bH;rw[F1,lx];have e:(aC p).2.2=p.aO.map aM.e:=rfl;rw[e,List.any_map,nj];constructor
 ·rintro⟨f,hf,h,rfl⟩;obtain⟨s,hs,hf⟩:=jE.mp hf;rw[lx]at h;exact⟨h.2,s,hs,nj.mpr ⟨aB.e f,aQ.mpr ⟨f,hf,rfl⟩,by rw[lx];exact⟨decide_eq_true rfl,h.1⟩⟩⟩
 ·rintro⟨h0,s,hs,h⟩;obtain⟨g,hg,h⟩:=nj.mp h;obtain⟨f,hf,rfl⟩:=aQ.mp hg;rw[lx]at h;have hn:f.name=z:=of_decide_eq_true h.1;exact⟨f,jE.mpr ⟨s,hs,hf⟩,by rw[lx,hn];exact⟨h.2,h0⟩,hn⟩
theorem GF:z∈addW W y↔z∈W\/z=y:=by
 unfold addW;split
 ·rename_i h;exact⟨.inl,λq=>q.elim id λe=>e▸h⟩
 ·simp
theorem xF(p:ah){z:Str}:∀(fs:List aB) (W:List Str),z∈fs.foldl (jf p) W↔z∈W\/∃f∈fs,(!f.soft && !dS p f.name)=true/\f.name=z
 |[],W=>by simp
 |f::fs,W=>by
  rw[A3,xF p fs];by_cases h:(!f.soft && !dS p f.name)=true
  ·rw[wQ h,GF];constructor
   ·rintro ((q|q)|⟨g,hg,q⟩)
    ·exact .inl q
    ·exact .inr ⟨f,ko,h,q.symm⟩
    ·exact .inr ⟨g,jD _ hg,q⟩
   ·rintro (q|⟨g,hg,q⟩)
    ·exact .inl (.inl q)
    ·rcases iu.mp hg with e|e
     ·exact .inl (.inr (by rw[<-q.2,e]))
     ·exact .inr ⟨g,e,q⟩
  ·rw[pJ h];constructor
   ·rintro (q|⟨g,hg,q⟩)
    ·exact .inl q
    ·exact .inr ⟨g,jD _ hg,q⟩
   ·rintro (q|⟨g,hg,q⟩)
    ·exact .inl q
    ·rcases iu.mp hg with e|e
     ·rw[e]at q;exact absurd q.1 h
     ·exact .inr ⟨g,e,q⟩
theorem xh:z∈yk p↔bH z (aC p)=true:=by
 rw[<-oj];unfold yk;rw[xF];simp[FI]
theorem nE(ps:List ah)(z:Str):bw (ps.map aC) z=(dR ps z).map aC:=by
 unfold bw dR;rw[KO];rfl
theorem fK(s:jN H H'){b:Addr}{xs:List V}(h:H b=some (.lst xs)):H' b=some (.lst xs):=s b _ (.inl ⟨_,rfl⟩) h
theorem lE(s:jN H H'){b:Addr}{xs:List V}(h:H b=some (.tup xs)):H' b=some (.tup xs):=s b _ (.inr ⟨_,rfl⟩) h
theorem xu(s:jN H H'){p:ah}(q:p.At H):p.At H':=
 ⟨lE s q.top,fK s q.sl,fK s q.nl,λst hs=>have y:=q.ss st hs;⟨lE s y.top,fK s y.wd,fK s y.fl,λf hf=>lE s (y.fs f hf)⟩,λn hn=>lE s (q.ns n hn)⟩
theorem T8(s:jN H H')(h:PL H L ps):PL H' L ps:=⟨fK s h.top,λp hp=>xu s (h.at_ p hp)⟩
theorem DS(hx:H x=some u)(n:(∀xs,u≠.lst xs)/\∀xs,u≠.tup xs)(s:∀b o,b≠x->H b=some o->H' b=some o):jN H H':=λb o h e=>s b o (λq=>by
 rw[q,hx]at e;have e:=Option.some.inj e;rcases h with ⟨xs,h⟩|⟨xs,h⟩
 ·exact n.1 xs (e.trans h)
 ·exact n.2 xs (e.trans h)) e
theorem pX(h:PL H L ps)(s:aI H H'):PL H' L ps:=⟨s _ _ h.top,λp hp=>(h.at_ p hp).mono s⟩
theorem wZ(h:AV H S xs)(s:aI H H'):AV H' S xs:=⟨s _ _ h.top,λx hx=>pX (h.at_ x hx) s⟩
theorem Cs{xs:List 't'}{i:Nat}{x:Addr×List ah}(h:xs[i]?=some x):flat (xs.take (i+1))=flat (xs.take i)++x.2:=by
 unfold flat;rw[ix,h,CU];simp
theorem LZ(xs:List 't')(i:Nat):(flat (xs.take i)).length<=(flat xs).length:=by
 have h:flat xs=flat (xs.take i)++flat (xs.drop i):=by
  unfold flat;rw[<-CU,Wb]
 rw[h,dv];lia
theorem SJ(T:Txt K mg A):aY P w K mg base cF 1 A.Xr A.Gw ["shelves"] RP:=by
 refine T.Jo.ok zh ?_ ?_;walk_at "k"
 obtain⟨S,xs,rfl,hS,hl,k⟩:=h;refine⟨_,(aU (pS 1 zh.nd (aW aa)) (aU (pF (cN (K:=K) rfl (pv 0)) (pn 2 zh.nd) (bo (c8 (A6 PySem.F.plainAttrs_list PySem.F.slot_list_extend PySem.F.type_list_extend Cc (pv 1) 'v')))) (bo (aG (pv 1))))),?_⟩;walk_at "rd";refine⟨d_ _,λl hn=>?_⟩;refine fH.of (xs:=xs.map λx=>V.ref x.1) (λi σ H'=>∃b2:Option V,σ=[some (.ref S),some (.ref l),b2]/\aI H H'/\H' l=some (.lst ((flat (xs.take i)).map ah.v)))
  ⟨_,rfl,aR hn,aJ⟩ ?_ ?_ ?_
 ·rintro i σ H' hi ⟨b2,rfl,s1,_⟩;exact aH.of (s1 _ _ hS.top)
 ·rintro i v σ H' hv ⟨b2,rfl,s1,h1⟩;walk_at "4";obtain⟨x,hx,rfl⟩:=eZ.mp hv;have hm:=dI hx;have px:=s1 _ _ (hS.at_ x hm).top;have tk:=Cs hx;have fl:=LZ xs (i+1);rw[tk,dv]at fl;walk_at "rd";refine⟨.inl ⟨rfl,_,aH.of h1⟩,l,x.1,_,_,rfl,rfl,h1,px,by rw[aD,aD,sizeLine_eq];lia,e_ hn s1,?_⟩;rw[aJ,tk,bu]
 ·rintro σ H' ⟨b2,rfl,s1,h1⟩;walk_at "rd";rw[aD,kD]at h1;exact k l H' s1 hn h1
theorem vE{W:List Str}{z:Str}(h:z∉W):br (W.map jc) (.inr z)=none:=by
 cases q:br (W.map jc) (.inr z) with
 |none=>rfl
 |some v=>
  have a:=eE (.inr z:Key) (W.map jc);rw[q]at a;obtain⟨x,hx,e⟩:=nj.mp (a.trans rfl);obtain⟨y,hy,rfl⟩:=aQ.mp hx;exact absurd (Sum.inr.inj (of_decide_eq_true e:(Sum.inr y:Key)=Sum.inr z)▸hy) h
theorem xo{W:List Str}{z:Str}(h:z∈W):br (W.map jc) (.inr z)=some (.bl true):=by
 have a:=eE (.inr z:Key) (W.map jc);have b:((W.map jc).any λkv=>decide (kv.1=(.inr z:Key)))=true:=nj.mpr ⟨jc z,aQ.mpr ⟨z,h,rfl⟩,decide_eq_true rfl⟩;rw[b]at a;cases q:br (W.map jc) (.inr z) with
 |none=>rw[q]at a;cases a
 |some v=>
  unfold br at q;obtain⟨x,hx,e⟩:=eZ.mp q;obtain⟨y,hy,e2⟩:=aQ.mp (wF hx);rw[<-e,<-e2];rfl
theorem Vr(T:Txt K mg A):aY P w K mg base cF 1 A.WG A.GL ["pieces"] Ci:=by
 refine T.Gk.ok oI ?_ ?_;walk_at "k"
 obtain⟨L,ps,rfl,hP,hl,nd,k⟩:=h;refine⟨_,(aU (pS 1 oI.nd dq) (aU (pS 2 oI.nd (aW aa)) (aU (pF (cN (K:=K) rfl (pv 0)) (pn 3 oI.nd) (aU (bC (iD (zL (bN hr) (tx K (pv 3)) (pv 1))) (bo (c8 (cq (pv 2) (ao (tx K (pv 3)) aa)))) cW) (bo (gR (bN hr) (pv 1) (tx K (pv 3)) fU rfl)))) (bo (bC (jv (pv 2) (λ_=>rfl)) (bo dt) cW))))),?_⟩;walk_at "rd";refine λd hd=>⟨d_ _,λl hn=>?_⟩;have s0:=(aR (o:=HO.dK []) hd).trans (aR (o:=HO.lst []) hn);have hln:H l=none:=(c7 hn).2;have nld:l≠d:=(c7 hn).1;refine fH.of (xs:=ps.map ah.v) (λi σ H'=>∃b3:Option V,σ=[some (.ref L),some (.ref d),some (.ref l),b3]/\aI H H'/\H' l=some (.lst [])/\H' d=some (.dK (((ps.take i).map ah.name).map jc)))
  ⟨_,rfl,s0,aJ,by rw[ae (Ne.symm nld),aJ];rfl⟩ ?_ ?_ ?_
 ·rintro i σ H' hi ⟨b2,rfl,s1,_⟩;exact aH.of (s1 _ _ hP.top)
 ·rintro i v σ H' hv ⟨b3,rfl,s1,h1,h2⟩;walk_at "4";walk_at "5";have hm:=dI hp;have pa:=s1 _ _ (hP.at_ p hm).top;have hi:=(gZ.mp hp).1;walk_at "6";have new:p.name∉(ps.take i).map ah.name:=λz=>by
   have h:((ps.take (i+1)).map ah.name).Nodup:=List.Nodup.sublist (List.Sublist.map _ (List.take_sublist _ _)) nd;rw[tk,bu]at h;exact(gX.mp h).2.2 p.name z p.name (by simp) rfl
  have g:bR H' d (V.str p.name) none:=by
   have:=bR.k (k:=Sum.inr p.name) h2;rw[vE new]at this;exact this
  walk_at "rd";refine⟨_,bg.of pa,_,rfl,none,g,?_⟩;rw[if_neg (by decide)];refine⟨_,bg.of pa,_,rfl,_,iF.k (k:=Sum.inr p.name) h2 (by rw[aD,aD,jM,sizeLine_eq];lia),e_ hd s1,by rw[ae nld];exact h1,?_⟩;rw[aJ,Lk];unfold addW;rw[if_neg new,tk];simp
 ·rintro σ H' ⟨b3,rfl,s1,h1,h2⟩;walk_at "rd";refine⟨false,?_,?_⟩
  ·exact .inl ⟨[],aH.of h1,rfl⟩
  ·exact k H' s1
theorem MG(T:Txt K mg A):aY P w K mg base cF 3 A.W2 A.Dx ["pieces"] J7:=by
 refine T.wH.ok pG ?_ ?_;walk_at "k"
 obtain⟨L,ps,rfl,hP,hl,hb,k⟩:=h;refine⟨_,(aU (pS 1 pG.nd dq) (aU (pF (cN (K:=K) rfl (pv 0)) (pn 2 pG.nd) (bo (pF (cN (K:=K) rfl (bO (Kv T) 'a' rfl T.Ly T.pR.kp T.pR.b .nil aq 'v')) (pn 3 pG.nd) (bo (c8 (Dc (bN hr) (pv 1) (pv 3) (pv 2) ⟨rfl,rfl,rfl,rfl⟩)))))) (bo (aG (pv 1))))),?_⟩;walk_at "rd";intro d hd;refine fH.of (xs:=ps.map ah.v) (λi σ H'=>∃(b2 b3:Option V) (ag:List (Key×V)),σ=[some (.ref L),some (.ref d),b2,b3]/\aI H H'/\H' d=some (.dK ag)/\ag.length<=61*i/\∀z,br ag (.inr z)=(dR (ps.take i) z).map ah.v)
  ⟨_,_,[],rfl,aR hd,aJ,by simp,λz=>rfl⟩ ?_ ?_ ?_
 ·rintro i σ H' hi ⟨b2,b3,ag,rfl,s1,_⟩;exact aH.of (s1 _ _ hP.top)
 ·rintro i v σ H' hv ⟨b2,b3,ag,rfl,s1,h1,hk,hz⟩;walk_at "4";walk_at "5";have hm:=dI hp;have hi:=(gZ.mp hp).1;walk_at "6";walk_at "rd";refine⟨p,rfl,(hP.at_ p hm).mono s1,hb p hm,λl H2 s2 ⟨ss,pm,pw,hl2⟩ hn=>?_⟩;have sl:ss.length<=61:=by rw[pm.length_eq];exact LC (hb p hm)
  have nld:l≠d:=λe=>by rw[e,h1]at hn;cases hn
  refine fH.of (xs:=ss.map V.str) (λj σ H3=>∃(b3:Option V) (kvs':List (Key×V)),σ=[some (.ref L),some (.ref d),some p.v,b3]/\aI H H3/\H3 l=some (.lst (ss.map V.str))/\H3 d=some (.dK kvs')/\kvs'.length<=ag.length+j/\∀z,br kvs' (.inr z)=((dR (ps.take i) z).map ah.v).or (if z∈ss.take j then some p.v else none))
   ⟨_,ag,rfl,s1.trans s2,hl2,s2 _ _ h1,by lia,λz=>by rw[hz];simp⟩ ?_ ?_ ?_
  ·rintro j σ H3 hj ⟨b3,kvs',rfl,s3,h3,_⟩;exact aH.of h3
  ·rintro j v σ H3 hv ⟨b3,kvs',rfl,s3,h3,h4,hk',hz'⟩;walk_at "4";obtain⟨y,hy,rfl⟩:=eZ.mp hv;have hj:=(gZ.mp hy).1;have tj:ss.take (j+1)=ss.take j++[y]:=by rw[ix,hy];rfl
   walk_at "rd";have gd:=bR.k (k:=Sum.inr y) h4;refine⟨.inl ⟨_,.inl h4⟩,_,gd,_,iF.k (k:=Sum.inr y) h4 (by rw[sizeLine_eq];omega),λv hv=>⟨s3,h3,kvs',h4,by lia,λz=>?_⟩,λhv=>⟨e_ hd s3,by rw[ae nld];exact h3,_,aJ,?_,λz=>?_⟩⟩
   ·rw[hz',tj];by_cases e:z=y
    ·rw[e];have hv:=(hz' y).symm.trans hv;cases q:dR (ps.take i) y with
     |some u=>simp
     |none=>
      rw[q]at hv;have:y∈ss.take j:=by
       by_cases m:y∈ss.take j
       ·exact m
       ·rw[if_neg m]at hv;cases hv
      simp[this]
    ·simp[e]
   ·rw[Gp _ hv,dv,Vu];lia
   ·rw[Gz,hz',tj];by_cases e:z=y
    ·rw[e,if_pos rfl];have hv:=(hz' y).symm.trans hv;cases q:dR (ps.take i) y with
     |some u=>rw[q]at hv;cases hv
     |none=>simp
    ·rw[if_neg (λh=>e (Sum.inr.inj h))];simp[e]
  ·rintro σ H3 ⟨b3,kvs',rfl,s3,h3,h4,hk',hz'⟩;rw[aD,kD]at hz';refine⟨_,_,rfl,s3,kvs',h4,by rw[aD]at hk';lia,λz=>?_⟩;have e:(z∈ss)=(cD z (aC p)=true):=propext (pm.mem_iff.trans xJ);rw[hz',tk];unfold dR;rw[List.find?_append];cases q:(ps.take i).find? (λp=>cD z (aC p)) with
   |some u=>simp
   |none=>
    by_cases t:cD z (aC p)=true
    ·simp[e,t]
    ·simp[e,t]
 ·rintro σ H' ⟨b2,b3,ag,rfl,s1,h1,hk,hz⟩;rw[aD,kD]at hz;walk_at "rd";exact k d H' s1 hd ⟨ag,h1,hz⟩
theorem U_(T:Txt K mg A):aY P w K mg base cF 1 A.WC A.Fg ["fills"] BI:=by
 refine T.Jw.ok OB ?_ ?_;walk_at "k"
 obtain⟨l,fs,rfl,hl,ha,hn,k⟩:=h;refine⟨_,(bo (aG (cI (iP ["at", "rule", "name", "add", "soft"]) rfl (cN (K:=K) rfl (pv 0)) (λ_ _ _=>⟨(bV (K:=K) (n:=5) rfl rfl (dW (pn 0 'g') (dW (pn 1 'g') (dW (pn 2 'g') (dW (pn 3 'g') (dW (pn 4 'g') bX)))))),cu,(a_ (ao (pv 0) (ao (pv 1) (ao (pv 2) (ao (pv 3) (ao (pv 4) aa))))))⟩)))),?_⟩;walk_at "rd";refine cY.of (xs:=fs.map aB.v) 'j' (aH.of hl) (λD i ys H'=>∃gs:List aB,ys=gs.map aB.v/\aI H H'/\H' D=some (.lst ys)/\(∀g∈gs,aB.At H' g)/\gs.map aB.e=(fs.take i).map aB.e)
  (λD hD=>⟨[],rfl,aR hD,aJ,(λq hq=>by cases hq),rfl⟩) ?_ ?_ ?_
 ·rintro D i ys H' hD hi ⟨gs,rfl,s1,hDD,ga,e⟩;refine⟨aH.of (s1 _ _ hl),hDD,?_⟩;have:=congrArg List.length e;rw[aD,aD,jM]at this;rw[aD];lia
 ·rintro D i x ys H' hD hx ⟨gs,rfl,s1,hDD,ga,e⟩;walk_at "0";obtain⟨f,hf,rfl⟩:=eZ.mp hx;have fa:=s1 _ _ (ha f (dI hf));walk_at "rd";refine⟨_,bg.of fa,rfl,_,_,rfl,_,_,rfl,_,_,rfl,_,_,rfl,_,_,rfl,rfl,.no (.no (.no (.no (.no .nil)))),by walk_at "s", λq hq=>?_⟩;have s2:=aR (o:=HO.tup [V.int f.at_,V.str f.rule,V.str f.name,V.int f.add,V.bl f.soft]) hq;refine⟨s2 _ _ hDD,gs++[{ f with a:=q }],by simp,e_ hD 'S',aJ,λg hg=>?_,?_⟩
  ·have bt:ff (upd H' q (HO.tup [V.int f.at_,V.str f.rule,V.str f.name,V.int f.add,V.bl f.soft])) (upd (upd H' q (HO.tup [V.int f.at_,V.str f.rule,V.str f.name,V.int f.add,V.bl f.soft])) D (HO.lst (gs.map aB.v++[V.ref q]))) D:=ff.upd (s2 _ _ hDD);rcases bM.mp hg with z|z
   ·exact aB.At.but (aB.At.mono (ga g z) s2) bt
   ·rw[cx.mp z];exact bt.tup aJ
  ·rw[bu,e,ix,hf,bu];rfl
 ·rintro D ys H' hD ⟨gs,rfl,s1,hDD,ga,e⟩;walk_at "3";exact k D gs H' s1 hD hDD ga e
theorem Th(T:Txt K mg A):aY P w K mg base cF 2 A.XI A.GN ["piece"] CN:=by
 refine T.D8.ok zI ?_ ?_;walk_at "k"
 obtain⟨p,rfl,hp,b1,b2,b3,k⟩:=h;refine⟨_,(aU (fC (i:=1) zI.nd rfl 'z' (iP ["kind", "step", "words", "fills"]) rfl (cN (K:=K) rfl 'B') (λ_ _ _=>⟨(bV (K:=K) (n:=4) rfl rfl (dW (pn 0 'g') (dW (pn 1 'g') (dW (pn 2 'g') (dW (pn 3 'g') bX))))),cu,(a_ (ao (pv 0) (ao (pv 1) (ao (kE (dC (K:=K) rfl) (by rfl) T.uD kI 'v') (ao (bO (U_ T) 'a' rfl T.Sd T.Jw.kp T.Jw.b .nil aq 'D') aa)))))⟩)) (aU (fC (i:=2) zI.nd rfl 'z' (iP ["name", "sort", "stretch", "offset"]) rfl (cN (K:=K) rfl 'B') (λ_ _ _=>⟨(bV (K:=K) (n:=4) rfl rfl (dW (pn 0 'g') (dW (pn 1 'g') (dW (pn 2 'g') (dW (pn 3 'g') bX))))),cu,(a_ (ao (pv 0) (ao (pv 1) (ao (pv 2) 'D'))))⟩)) (bo (aG (a_ (ao 'B' (ao (pv 1) 'v'))))))),?_⟩;walk_at "rd";refine⟨_,bg.of hp.top,_,rfl,?_⟩;refine cY.of (xs:=p.aO.map aM.v) 'j' (aH.of hp.sl) (λD i ys H'=>∃qs:List aM,ys=qs.map aM.v/\qs.map aM.e=(p.aO.take i).map aM.e/\aI H H'/\H' D=some (.lst ys)/\(∀q∈qs,q.At H')/\(∀b∈qs.flatMap aM.lists,H b=none/\b≠D)/\(qs.flatMap aM.lists).Nodup)
  (λD hD=>⟨[],rfl,rfl,aR hD,aJ,by simp,by simp,by simp⟩) ?_ ?_ ?_
 ·rintro D i ys H' hD hi ⟨qs,rfl,hc,sm,hDD,_⟩;refine⟨aH.of (sm _ _ hp.sl),hDD,?_⟩;have e:=congrArg List.length hc;rw[aD,aD]at e;rw[aD,e];exact TQ ..
 ·rintro D i x ys H' hD hx ⟨qs,rfl,hc,sm,hDD,hat,hnew,hnd⟩;walk_at "0";obtain⟨s,hs,rfl⟩:=eZ.mp hx;have hm:=dI hs;have hs':=(hp.ss s hm).mono sm;walk_at "rd";refine⟨_,bg.of hs'.top,rfl,_,_,rfl,_,_,rfl,_,_,rfl,_,_,rfl,rfl,.no (.no (.no (.no .nil))),s.lw,rfl,_,.inl (aH.of hs'.wd),λlw h1=>?_⟩;have s1:=aR (o:=HO.lst (s.words.map V.int)) h1;have ew:upd H' lw (HO.lst (s.words.map V.int)) lw=some (HO.lst (s.words.map V.int)):=aJ;generalize upd H' lw (HO.lst (s.words.map V.int))=H1 at *;refine⟨s.lf,rfl,s.fills,s1 _ _ hs'.fl,λf hf=>s1 _ _ (hs'.fs f hf),b3 s hm,λlf gs H2 s2 h2 el ga ge=>⟨by rw[sizeLine_eq];decide,λt h3=>?_⟩⟩;have s3:=aR (o:=HO.tup [V.str s.kind,V.int s.step,V.ref lw,V.ref lf]) h3;have e1:upd H2 t (HO.tup [V.str s.kind,V.int s.step,V.ref lw,V.ref lf]) lw=some (HO.lst (s.words.map V.int)):=s3 _ _ (s2 _ _ ew);have e2:=s3 _ _ el;have e3:upd H2 t (HO.tup [V.str s.kind,V.int s.step,V.ref lw,V.ref lf]) t=some (HO.tup [V.str s.kind,V.int s.step,V.ref lw,V.ref lf]):=aJ;have n2:lw≠lf:=bA ew h2;have d1:lw≠D:=Ne.symm (bA hDD h1);have d2:lf≠D:=Ne.symm (bA (s1 _ _ hDD) h2);have sA:='S'.trans s3;generalize upd H2 t (HO.tup [V.str s.kind,V.int s.step,V.ref lw,V.ref lf])=H3 at *;have bt:ff H3 (upd H3 D (HO.lst (qs.map aM.v++[V.ref t]))) D:=ff.upd (sA _ _ hDD);refine⟨sA _ _ hDD,qs++[⟨t,lw,lf,s.kind,s.step,s.words,gs⟩],by simp,?_,e_ hD (sm.trans sA),aJ,λq hq=>?_,λb hb=>?_,?_⟩
  ·rw[bu,hc,ix,hs,bu];congr 1;show [(s.kind,s.step,s.words,gs.map aB.e)]=[(s.kind,s.step,s.words,s.fills.map aB.e)];rw[ge]
  ·rcases bM.mp hq with z|z
   ·exact((hat q z).mono sA).but bt λy=>(hnew D (jE.mpr ⟨q,z,y⟩)).2 rfl
   ·rw[cx.mp z];exact⟨bt.tup e3,bt.2 _ _ e1 d1,bt.2 _ _ e2 d2,λf hf=>aB.At.but (aB.At.mono (ga f hf) s3) bt⟩
  ·rw[CU]at hb;rcases bM.mp hb with z|z
   ·exact hnew b z
   ·simp[aM.lists]at z;rcases z with e|e
    ·rw[e];exact⟨sm.free h1,d1⟩
    ·rw[e];exact⟨(sm.trans s1).free h2,d2⟩
  ·rw[CU];refine gX.mpr ⟨hnd,by simp[aM.lists,n2],λx hx y hy e=>?_⟩;obtain⟨q,hq,hb'⟩:=jE.mp hx;obtain⟨xs,he⟩:=(hat q hq).list hb';simp[aM.lists]at hy;rcases hy with z|z
   ·rw[e,z,h1]at he;cases he
   ·have:=s1 _ _ he;rw[e,z,h2]at this;cases this
 ·rintro D ys H' hD ⟨qs,rfl,hc,sm,hDD,hat,hnew,hnd⟩;rw[aD,kD]at hc;have hpm:=hp.mono sm;refine⟨_,bg.of hpm.top,_,rfl,?_⟩;refine cY.of (xs:=p.aS.map aw.v) 'j' (aH.of hpm.nl) (λD2 i ys H2=>∃gs:List aw,ys=gs.map aw.v/\aI H' H2/\H2 D2=some (.lst ys)/\(∀g∈gs,aw.At H2 g)/\gs.map aw.e=(p.aS.take i).map aw.e)
   (λD2 hD2=>⟨[],rfl,aR hD2,aJ,(λq hq=>by cases hq),rfl⟩) ?_ ?_ ?_
  ·rintro D2 i ys H2 hD2 hi ⟨gs,rfl,s1,hDD2,ga,e⟩;refine⟨aH.of (s1 _ _ hpm.nl),hDD2,?_⟩;have:=congrArg List.length e;rw[aD,aD,jM]at this;rw[aD];lia
  ·rintro D2 i x ys H2 hD2 hx ⟨gs,rfl,s1,hDD2,ga,e⟩;walk_at "0";obtain⟨f,hf,rfl⟩:=eZ.mp hx;have fa:=s1 _ _ (hpm.ns f (dI hf));walk_at "rd";refine⟨_,bg.of fa,rfl,_,_,rfl,_,_,rfl,_,_,rfl,_,_,rfl,rfl,.no (.no (.no (.no .nil))),by walk_at "s", λq hq=>?_⟩;have s2:=aR (o:=HO.tup [V.str f.name,V.str f.sort,V.int f.st,V.int f.off]) hq;refine⟨s2 _ _ hDD2,gs++[{ f with a:=q }],by simp,e_ hD2 'S',aJ,λg hg=>?_,?_⟩
   ·have bt:ff (upd H2 q (HO.tup [V.str f.name,V.str f.sort,V.int f.st,V.int f.off])) (upd (upd H2 q (HO.tup [V.str f.name,V.str f.sort,V.int f.st,V.int f.off])) D2 (HO.lst (gs.map aw.v++[V.ref q]))) D2:=ff.upd (s2 _ _ hDD2);rcases bM.mp hg with z|z
    ·exact aw.At.but (aw.At.mono (ga g z) s2) bt
    ·rw[cx.mp z];exact bt.tup aJ
   ·rw[bu,e,ix,hf,bu];rfl
  ·rintro D2 ys H2 hD2 ⟨gs,rfl,s1,hDD2,ga,e⟩;walk_at "3";refine⟨_,bg.of (s1 _ _ hpm.top),_,rfl,by walk_at "s", λt ht=>?_⟩;have s2:=aR (o:=HO.tup [V.str p.name,V.ref D,V.ref D2]) ht;have nl:∀b∈qs.flatMap aM.lists,b≠D2:=λb hb=>by
    obtain⟨q,hq,hb'⟩:=jE.mp hb;obtain⟨xs,e⟩:=(hat q hq).list hb';exact bA e hD2
   refine k ⟨t,D,D2,p.name,qs,gs⟩ _ ((sm.trans s1).trans s2) ⟨aJ,s2 _ _ (s1 _ _ hDD),s2 _ _ hDD2,λq hq=>(hat q hq).mono 'S',λn hn=>aw.At.mono (ga n hn) s2⟩ ?_ (λb hb=>?_) ?_
   ·unfold aC;rw[hc,e]
   ·simp only[ah.lists,List.mem_cons]at hb;rcases hb with e|e|e
    ·rw[e];exact hD
    ·rw[e];exact sm.free hD2
    ·exact(hnew b e).1
   ·show(D::D2::qs.flatMap aM.lists).Nodup;refine mH.mpr ⟨λz=>?_,mH.mpr ⟨λz=>nl D2 z rfl,hnd⟩⟩;rcases iu.mp z with e|e
    ·exact bA hDD hD2 e
    ·exact(hnew D e).2 rfl
theorem jF.l1(t:jF):List.lookup s!"pieces" t.attrs=some (.ref t.lp):=rfl
theorem jF.l2(t:jF):List.lookup s!"reasons" t.attrs=some (.ref t.lr):=rfl
theorem jF.l3(t:jF):List.lookup s!"told_by_given" t.attrs=some (.ref t.dg):=rfl
theorem jF.l4(t:jF):List.lookup s!"on_shelves" t.attrs=some (.ref t.ds):=rfl
theorem jF.l5(t:jF):List.lookup s!"from_shelves" t.attrs=some (.ref t.df):=rfl
theorem jF.l6(t:jF):List.lookup s!"unmet" t.attrs=some (.ref t.du):=rfl
theorem DM(o:zP C H t G S T rs)(kp:Lq t H H'){b:Addr}{xs:List V}(h:H b=some (.lst xs))(n1:b≠t.lp)(n2:b≠t.lr):H' b=some (.lst xs):=kp b _ n1 n2 (λe=>by rw[e,o.df]at h;cases h) h
theorem lA(o:zP C H t G S T rs)(kp:Lq t H H'){b:Addr}{xs:List V}(h:H b=some (.tup xs)):H' b=some (.tup xs):=kp b _ (λe=>by rw[e,o.lp]at h;cases h) (λe=>by rw[e,o.lr]at h;cases h) (λe=>by rw[e,o.df]at h;cases h) h
theorem UP(o:zP C H t G S T rs)(kp:Lq t H H'){p:ah}(h:p.At H)(n1:t.lp∉p.lists)(n2:t.lr∉p.lists):p.At H':=by
 have ls:∀b∈p.lists,∀xs,H b=some (.lst xs)->H' b=some (.lst xs):=λb hb xs e=>DM o kp e (λq=>n1 (q▸hb)) (λq=>n2 (q▸hb));refine⟨lA o kp h.top,ls _ (by simp[ah.lists]) _ h.sl,ls _ (by simp[ah.lists]) _ h.nl,λs hs=>?_,λn hn=>lA o kp (h.ns n hn)⟩;have hs':=h.ss s hs;have m:∀b∈s.lists,b∈p.lists:=λb hb=>by
  simp only[ah.lists,List.mem_cons];exact .inr (.inr (jE.mpr ⟨s,hs,hb⟩))
 exact⟨lA o kp hs'.top,ls _ (m _ (by simp[aM.lists])) _ hs'.wd,ls _ (m _ (by simp[aM.lists])) _ hs'.fl,λf hf=>lA o kp (hs'.fs f hf)⟩
theorem len_sub{l m:List Str}(h:l.Nodup)(s:∀x∈l,x∈m):l.length<=m.length:=by
 induction l generalizing m with
 |nil=>exact d_ _
 |cons x r ih=>
  obtain⟨h1,h2⟩:=mH.mp h;have hx:=s x ko;have:=ih (m:=m.erase x) h2 λy hy=>(List.mem_erase_of_ne (λ(e:y=x)=>h1 (e▸hy))).mpr (s y (jD _ hy));rw[List.length_erase_of_mem hx]at this;have:=List.length_pos_of_mem hx;rw[md];lia
theorem D_{ps:List ah}(nd:'r'.Nodup){p q:ah}(hp:p∈ps)(hq:q∈ps)(e:p.name=q.name):p=q:=by
 induction ps with
 |nil=>cases hp
 |cons x r ih=>
  rw[iZ,mH]at nd;rcases iu.mp hp with a|a<;>rcases iu.mp hq with b|b
  ·rw[a,b]
  ·exact absurd (aQ.mpr ⟨q,b,by rw[<-e,a]⟩) nd.1
  ·exact absurd (aQ.mpr ⟨p,a,by rw[e,b]⟩) nd.1
  ·exact ih nd.2 a b
theorem iN.snoc(h:iN G S e T rs)(h1:bw G z=none)(h2:bw S z=some p)(n:p.1∉T.map (·.1))(wy:b=s!"" /\ z=e\/∃q∈G++T,q.1=b/\bH z q=true):iN G S e (T++[p]) (rs++[(p.1,z,b)]):=by
 walk_at "7";refine⟨?_,λq hq=>?_,by rw[bu,bu,h.len];rfl,λi q r hq hr=>?_⟩
 ·rw[bu];exact gX.mpr ⟨h.nd,by simp,λx hx y hy e=>n (by rw[List.map_cons,List.map_nil,List.mem_singleton]at hy;rw[<-hy,<-e];exact hx)⟩
 ·rcases bM.mp hq with y|y
  ·exact h.sub q y
  ·rw[cx.mp y];exact wF h2
 ·by_cases hi:i<T.length
  ·rw[Pb hi]at hq;rw[Pb (by lia)]at hr;rw[X0 (by lia)];exact h.zO i q r hq hr
  ·have hi2:i=T.length:=by
    have:=(gZ.mp hq).1;rw[dv,Vu]at this;lia
   rw[hi2,Rg (bS _),Nat.sub_self]at hq;rw[hi2,<-hl,Rg (bS _),Nat.sub_self]at hr;have hq:=Option.some.inj hq;have hr:=Option.some.inj hr;rw[<-hq,<-hr,hi2,X0 (bS _),kD];exact⟨h1,h2,wy⟩
theorem Nr(T:Txt K mg A):aY P w K mg base cF 1 A.VW A.DL ["self", "name", "by"] (y8 A.aN):=by
 refine T.Eo.ok Gm ?_ ?_;walk_at "k"
 obtain⟨t,z,b,e,G,S,Tp,rs,rfl,o,bd,mt,tc,wy,k⟩:=h;refine⟨_,(aU (bC (iD (zL (bN hr) (pv 1) (ck (pv 0) rfl))) (bo Bs) cW) (aU (bC (iD (g0 (bN hr) (pv 1) (ck (pv 0) rfl))) (aU dt (bo Bs)) cW) (aU (pS 3 Gm.nd (dj (bN hr) (ck (pv 0) rfl) (pv 1) (λ_ _=>rfl))) (bo (bC (iD (g0 (bN hr) (tx K (pv 3)) (ck (pv 0) rfl))) (aU (gR (bN hr) (ck (pv 0) rfl) (tx K (pv 3)) fU rfl) (aU (c8 (cq (ck (pv 0) rfl) 'D')) (bo (c8 (cq (ck (pv 0) rfl) (ao (a_ (ao (tx K (pv 3)) (ao (pv 1) 'v'))) aa)))))) cW))))),?_⟩;walk_at "rd";obtain⟨kg,hkg,vg⟩:=o.dg;obtain⟨ks,hks,vs⟩:=o.ds;have gg:=bR.k (k:=Sum.inr z) hkg;have gs:=bR.k (k:=Sum.inr z) hks;rw[vg]at gg;rw[vs]at gs;have fG:=nE G z;have fS:=nE S z;refine⟨_,_,_,o.top,T.bT,T.dH,_,t.l3,t.dg,rfl,_,gg,cH (λh=>?_) (λh=>?_)⟩
 ·refine k [] rs H (by rw[nY];exact o) (λb o _ _ _ e=>e) (by rw[nY];exact tc) (.inl ?_);rw[fG];cases q:dR G z with
  |none=>rw[q]at h;cases h
  |some u=>rfl
 ·have nG:dR G z=none:=by
   cases q:dR G z with
   |none=>rfl
   |some u=>rw[q]at h;exact absurd rfl h
  rw[nG]at fG;cases q:dR S z with
  |none=>
   rcases mt with m|m
   ·rw[fG]at m;cases m
   ·rw[fS,q]at m;cases m
  |some p=>
   rw[q]at gs fS;have pS:p∈S:=wF q;obtain⟨pa,n1,n2⟩:=o.at_ p (gi _ pS);refine⟨_,_,_,o.top,T.bT,T.c_,_,t.l4,t.ds,rfl,_,gs,?_⟩;rw[if_neg (by simp)];have ndS:(S.map ah.name).Nodup:=by have:=bd.nd;rw[bu]at this;exact(gX.mp this).2.1
   have gf:=bR.k (k:=Sum.inr p.name) o.df;refine⟨_,_,_,o.top,T.bT,T.c_,_,t.l4,t.ds,rfl,_,gs,_,rfl,_,bg.of pa.top,_,rfl,_,_,_,o.top,T.bT,T.cO,_,t.l5,t.df,rfl,_,gf,?_⟩;by_cases m:p.name∈Tp.map ah.name
   ·rw[xo m,if_neg (by decide)];obtain⟨u,hu,eu⟩:=aQ.mp m;have eu:=D_ ndS (o.sub u hu) pS eu;exact k [] rs H (by rw[nY];exact o) (λb o _ _ _ e=>e) (by rw[nY];exact tc) (.inr ⟨aC p,aQ.mpr ⟨p,by rw[nY,<-eu];exact hu,rfl⟩,fS⟩)
   ·rw[vE m,if_pos (by decide)];have hl:Tp.length<=20:=by
     have h1:=tc.nd;have:(Tp.map ah.name).length<=(S.map ah.name).length:=len_sub (by rw[cC]at h1;exact h1) λy hy=>by
      obtain⟨u,hu,rfl⟩:=aQ.mp hy;exact aQ.mpr ⟨u,o.sub u hu,rfl⟩
     walk_at "2";have b:=bd.bQ;rw[dv]at b;lia
    have hlG:G.length<=20:=by have b:=bd.bQ;rw[dv]at b;lia
    have hrl:rs.length=Tp.length:=by have:=congrArg List.length tc.len;rwa [aD,aD,aD,aD]at this
    have nx1:t.x≠t.df:=λe=>by have:=o.top;rw[e,o.df]at this;cases this
    have nx2:t.x≠t.lp:=λe=>by have:=o.top;rw[e,o.lp]at this;cases this
    have nx3:t.x≠t.lr:=λe=>by have:=o.top;rw[e,o.lr]at this;cases this
    have nl1:t.lp≠t.df:=λe=>by have:=o.lp;rw[e,o.df]at this;cases this
    have nl2:t.lr≠t.df:=λe=>by have:=o.lr;rw[e,o.df]at this;cases this
    have np1:p.t≠t.df:=λe=>by have:=pa.top;rw[e,o.df]at this;cases this
    have np2:p.t≠t.lp:=λe=>by have:=pa.top;rw[e,o.lp]at this;cases this
    refine⟨_,_,_,o.top,T.bT,T.cO,_,t.l5,_,rfl,_,bg.of pa.top,_,rfl,t.df,rfl,_,iF.k (k:=Sum.inr p.name) o.df (by rw[aD,aD,sizeLine_eq];lia),?_⟩;rw[Lk];unfold addW;rw[if_neg m];have a1:upd H t.df (HO.dK ((Tp.map ah.name++[p.name]).map jc)) t.df=some (HO.dK ((Tp.map ah.name++[p.name]).map jc)):=aJ;have k1:∀b u,b≠t.df->H b=some u->upd H t.df (HO.dK ((Tp.map ah.name++[p.name]).map jc)) b=some u:=λb u n e=>by rw[ae n];exact e
    generalize upd H t.df (HO.dK ((Tp.map ah.name++[p.name]).map jc))=H1 at *;have lp1:=k1 _ _ nl1 o.lp;refine⟨_,_,_,k1 _ _ nx1 o.top,T.bT,T.cT,_,t.l1,.inl ⟨rfl,_,aH.of lp1⟩,t.lp,rfl,_,lp1,by rw[aD,dv,sizeLine_eq];lia,?_⟩;have a2:upd H1 t.lp (HO.lst ((G++Tp).map ah.v++[V.ref p.t])) t.lp=some (HO.lst ((G++Tp).map ah.v++[V.ref p.t])):=aJ;have k2:∀b u,b≠t.lp->H1 b=some u->upd H1 t.lp (HO.lst ((G++Tp).map ah.v++[V.ref p.t])) b=some u:=λb u n e=>by rw[ae n];exact e
    generalize upd H1 t.lp (HO.lst ((G++Tp).map ah.v++[V.ref p.t]))=H2 at *;have lr2:=k2 _ _ (Ne.symm o.ne) (k1 _ _ nl2 o.lr);refine⟨_,_,_,k2 _ _ nx2 (k1 _ _ nx1 o.top),T.bT,T.iB,_,t.l2,.inl ⟨rfl,_,aH.of lr2⟩,_,rfl,_,bg.of (k2 _ _ np2 (k1 _ _ np1 pa.top)),_,rfl,by walk_at "s", λr hr=>⟨t.lr,rfl,_,aR hr _ _ lr2,by rw[aD,sizeLine_eq];lia,?_⟩⟩;have s3:=aR (o:=HO.tup [V.str p.name,V.str z,V.str b]) hr;have a3:upd H2 r (HO.tup [V.str p.name,V.str z,V.str b]) r=some (HO.tup [V.str p.name,V.str z,V.str b]):=aJ;generalize upd H2 r (HO.tup [V.str p.name,V.str z,V.str b])=H3 at *;have k4:∀b u,b≠t.lr->H3 b=some u->upd H3 t.lr (HO.lst (rs.map (λr=>V.ref r.1)++[V.ref r])) b=some u:=λb u n e=>by rw[ae n];exact e
    have kp:Lq t H (upd H3 t.lr (HO.lst (rs.map (λr=>V.ref r.1)++[V.ref r]))):=λb u m1 m2 m3 e=>k4 b u m2 (s3 _ _ (k2 _ _ m1 (k1 _ _ m3 e)));have nr:r≠t.lr:=Ne.symm (bA lr2 hr);refine k [p] (rs++[(r,p.name,z,b)]) _ ⟨?_,?_,?_,?_,?_,?_,?_,?_,?_,o.ne,o.nf,?_⟩ kp ?_ ?_
    ·exact kp _ _ nx2 nx3 nx1 o.top
    ·rw[<-yz,bu];exact k4 _ _ o.ne (s3 _ _ a2)
    ·rw[aJ,bu];rfl
    ·intro y hy;rcases bM.mp hy with c|c
     ·exact lA o kp (o.rs y c)
     ·rw[cx.mp c];exact k4 _ _ nr a3
    ·exact⟨kg,kp _ _ (λe=>by rw[e,o.lp]at hkg;cases hkg) (λe=>by rw[e,o.lr]at hkg;cases hkg) o.nf.1 hkg,vg⟩
    ·exact⟨ks,kp _ _ (λe=>by rw[e,o.lp]at hks;cases hks) (λe=>by rw[e,o.lr]at hks;cases hks) o.nf.2.1 hks,vs⟩
    ·rw[bu];exact k4 _ _ (Ne.symm nl2) (s3 _ _ (k2 _ _ (Ne.symm nl1) a1))
    ·have du:=o.du;exact kp _ _ (λe=>by rw[e,o.lp]at du;cases du) (λe=>by rw[e,o.lr]at du;cases du) o.nf.2.2 du
    ·intro y hy;obtain⟨ya,m1,m2⟩:=o.at_ y hy;exact⟨UP o kp ya m1 m2,m1,m2⟩
    ·intro y hy;rcases bM.mp hy with c|c
     ·exact o.sub y c
     ·rw[cx.mp c];exact pS
    ·rw[bu,bu];refine tc.snoc fG fS (λc=>m ?_) (wy.imp id λ⟨y,hy,e1,e2⟩=>⟨aC y,by rw[<-bu];exact aQ.mpr ⟨y,hy,rfl⟩,e1,e2⟩);rw[cC]at c;exact c
    ·exact .inr ⟨aC p,aQ.mpr ⟨p,by simp,rfl⟩,fS⟩
theorem Rw.zO(h:Rw G S e W)(tc:iN G S e T rs):∀p∈T,∃z,W z/\bw G z=none/\bw S z=some p:=by
 have hl:rs.length=T.length:=by have:=congrArg List.length tc.len;rwa [aD,aD]at this
 have key:∀n i:Nat,i<n->∀p,T[i]?=some p->∃z,W z/\bw G z=none/\bw S z=some p:=by
  intro n
  induction n with
  |zero=>intro i hi;lia
  |succ n ih=>
   intro i hi p hp;have hi2:=(gZ.mp hp).1;walk_at "8";generalize rs[i]'(by lia)=r at hr;obtain⟨j1,j2,j3⟩:=tc.zO i p r hp hr;refine⟨r.2.1,?_,j1,j2⟩;rcases j3 with ⟨_,b2⟩|⟨q,hq,_,b2⟩
   ·rw[b2];exact h.ent
   ·rcases bM.mp hq with y|y
    ·exact h.ZO q y _ b2
    ·obtain⟨j,hj⟩:=C2 y;have hj2:=(gZ.mp hj).1;rw[jM]at hj2;rw[Vl (by lia)]at hj;obtain⟨u,u1,u2,u3⟩:=ih j (by lia) q hj;exact h.Zu u q u1 u2 u3 _ b2
 intro p hp;obtain⟨i,hi⟩:=C2 hp;exact key (i+1) i (Jz i) p hi
theorem Rw.all{G S T:List Co}{e:Str}{W:Str->Prop}{rs:List (Str×Str×Str)}(h:Rw G S e W)(tc:iN G S e T rs):∀q∈G++T,∀z,bH z q=true->W z:=λq hq z hz=>(bM.mp hq).elim (λy=>h.ZO q y z hz) λy=>have ⟨u,u1,u2,u3⟩:=h.zO tc q y;h.Zu u q u1 u2 u3 z hz
theorem Dh(bd:Fc G S e)(tc:iN (G.map aC) (S.map aC) e (T.map aC) rs)(sub:∀p∈T,p∈S):(G++T).length<=20:=by
 have h1:=tc.nd;have:(T.map ah.name).length<=(S.map ah.name).length:=len_sub (by rw[cC]at h1;exact h1) λy hy=>by
  obtain⟨u,hu,rfl⟩:=aQ.mp hy;exact aQ.mpr ⟨u,sub u hu,rfl⟩
 walk_at "2";have b:=bd.bQ;rw[dv]at b ⊢;lia
theorem lD(U:List Co)(h:gC G S T z):gC G S (T++U) z:=h.imp id λ⟨p,hp,e⟩=>⟨p,gG _ hp,e⟩
theorem zP.mono{C:Addr}{H H':Hp}{t:jF}{G S T:List ah}{rs:List Iu}(o:zP C H t G S T rs)(s:aI H H'):zP C H' t G S T rs:=
 ⟨s _ _ o.top,s _ _ o.lp,s _ _ o.lr,λr hr=>s _ _ (o.rs r hr),o.dg.imp λ_ h=>⟨s _ _ h.1,h.2⟩,o.ds.imp λ_ h=>⟨s _ _ h.1,h.2⟩,s _ _ o.df,s _ _ o.du,λp hp=>have h:=o.at_ p hp;⟨h.1.mono s,h.2⟩,o.ne,o.nf,o.sub⟩
theorem Ut(T:Txt K mg A):aY P w K mg base cF 3 A.Vw A.E8 ["self"] (P9 A.aN):=by
 refine T.Ni.ok k8 ?_ ?_;walk_at "k"
 obtain⟨t,e,G,S,Tp,rs,rfl,o,bd,tc,cv,k⟩:=h;refine⟨_,(aU (pS 1 k8.nd af) (bo (yp PassesOwn.never (cJ kr (pv 1) (fX (b_ (K:=K) rfl) (by rfl) T.gm eg (ao (ck (pv 0) rfl) aa)) (aV _)) (aU (pS 2 k8.nd (bx 'h' (ck (pv 0) rfl) (pv 1) (λ_ _=>rfl))) (aU (pF (cN (K:=K) rfl (bO (Kw T) 'a' rfl T.Ln T.oG.kp T.oG.b .nil aq 'v')) (pn 3 k8.nd) (bo (c8 (d6 (pv 0) T.bT T.Jh (Nr T) 'a' T.Eo.b .nil aq (ao (pv 3) (ao (tx K (pv 2)) aa)))))) (bo (Hw (i:=1) k8.nd rfl 'z' af DH))))))),?_⟩;walk_at "rd";refine⟨λm σ Hc=>∃(dn:Nat) (Tc:List ah) (rc:List Iu) (b2 b3:Option V),σ=[some (V.ref t.x),some (V.int dn),b2,b3]/\zP A.aN Hc t G S Tc rc/\Lq t H Hc/\iN (G.map aC) (S.map aC) e (Tc.map aC) (rc.map (·.2))/\gC (G.map aC) (S.map aC) (Tc.map aC) e/\m+dn=21/\dn<=(G++Tc).length/\∀q∈(G++Tc).take dn,∀z,bH z (aC q)=true->gC (G.map aC) (S.map aC) (Tc.map aC) z,
  ⟨21,0,Tp,rs,_,_,rfl,o,λb o _ _ _ e=>e,tc,cv,rfl,d_ _,λq hq=>by simp at hq⟩,?_⟩
 rintro m σ Hc ⟨dn,Tc,rc,b2,b3,rfl,oc,kc,tcc,cvc,hm,hd,cl⟩;have bl:=Dh bd tcc oc.sub;walk_at "rd";refine⟨_,_,_,oc.top,T.bT,T.cT,_,t.l1,_,.inl ⟨_,aH.of oc.lp,by rw[aD]⟩,cH (λhlt=>?_) (λhge=>?_)⟩
 ·have hlt:dn<(G++Tc).length:=by have:=of_decide_eq_true hlt;lia
  obtain⟨m',rfl⟩:∃m',m=m'+1:=⟨m - 1,by lia⟩
  have hp:(G++Tc)[dn]?=some (G++Tc)[dn]:=h9 hlt;have hmem:(G++Tc)[dn]∈G++Tc:=wR hlt;generalize (G++Tc)[dn]=p at hp hmem;have hpS:p∈G++S:=(bM.mp hmem).elim (gG _) λy=>gi _ (oc.sub p y);obtain⟨pa,n1,n2⟩:=oc.at_ p hpS;refine⟨λσ' H'=>∃(dn:Nat) (Tc:List ah) (rc:List Iu) (b2 b3:Option V),σ'=[some (V.ref t.x),some (V.int dn),b2,b3]/\zP A.aN H' t G S Tc rc/\Lq t H H'/\iN (G.map aC) (S.map aC) e (Tc.map aC) (rc.map (·.2))/\gC (G.map aC) (S.map aC) (Tc.map aC) e/\m'+dn=21/\dn<=(G++Tc).length/\∀q∈(G++Tc).take dn,∀z,bH z (aC q)=true->gC (G.map aC) (S.map aC) (Tc.map aC) z,λσ' H' z=>⟨m',Jz _,z⟩,?_⟩;refine⟨_,_,_,oc.top,T.bT,T.cT,_,t.l1,_,rfl,_,aH.of oc.lp,_,cw (by rw[gU,hp];rfl),p,rfl,pa,bd.Sn p hpS,λl H2 s2 ⟨ss,pm,pw,hl2⟩ hl=>?_⟩;have o2:=oc.mono s2;have nl1:l≠t.lp:=Ne.symm (bA oc.lp hl);have nl2:l≠t.lr:=Ne.symm (bA oc.lr hl);refine fH.of (xs:=ss.map V.str) (λj σ H3=>∃(T':List ah) (rc':List Iu) (b3:Option V),σ=[some (V.ref t.x),some (V.int dn),some p.v,b3]/\zP A.aN H3 t G S (Tc++T') rc'/\Lq t H2 H3/\iN (G.map aC) (S.map aC) e ((Tc++T').map aC) (rc'.map (·.2))/\∀z∈ss.take j,gC (G.map aC) (S.map aC) ((Tc++T').map aC) z)
   ⟨[],rc,_,rfl,by rw[nY];exact o2,(λb o _ _ _ e=>e),by rw[nY];exact tcc,λz hz=>by simp at hz⟩ ?_ ?_ ?_
  ·rintro j σ H3 hj ⟨T',rc',b3,rfl,o3,k3,_⟩;exact aH.of (DM o2 k3 hl2 nl1 nl2)
  ·rintro j v σ H3 hv ⟨T',rc',b3,rfl,o3,k3,tc3,c3⟩;walk_at "4";obtain⟨y,hy,rfl⟩:=eZ.mp hv;have tj:ss.take (j+1)=ss.take j++[y]:=by rw[ix,hy];rfl
   have wy:bH y (aC p)=true:=xh.mp (pm.mem_iff.mp (dI hy));obtain⟨pa3,_⟩:=o3.at_ p hpS;walk_at "rd";refine⟨_,_,o3.top,rfl,_,bg.of pa3.top,_,rfl,t,rfl,_,rfl,e,G,S,Tc++T',rc',o3,bd,bd.met.elim λ_ wk=>wk.met _ (wk.all tcc _ (by rw[<-bu];exact aQ.mpr ⟨p,hmem,rfl⟩) _ wy),tc3,.inr ⟨p,?_,rfl,wy⟩,λU rc2 H4 o4 k4 tc4 c4=>⟨T'++U,rc2,?_⟩⟩
   ·rw[<-yz];exact gG _ hmem
   ·rw[<-yz];refine⟨o4,λb u m1 m2 m3 h=>k4 b u m1 m2 m3 (k3 b u m1 m2 m3 h),tc4,λz hz=>?_⟩;rw[tj]at hz;rcases bM.mp hz with y1|y1
    ·rw[bu];exact lD _ (c3 z y1)
    ·rw[cx.mp y1];exact c4
  ·rintro σ H3 ⟨T',rc',b3,rfl,o3,k3,tc3,c3⟩;rw[aD,kD]at c3;walk_at "rd";refine⟨dn+1,by simp,Tc++T',rc',o3,λb u m1 m2 m3 h=>k3 b u m1 m2 m3 (s2 _ _ (kc b u m1 m2 m3 h)),tc3,by rw[List.map_append];exact lD _ cvc,by lia,by rw[<-List.append_assoc,List.length_append];lia,λq hq z hz=>?_⟩;rw[<-yz,X0 (by lia),ix,hp]at hq;rcases bM.mp hq with y1|y1
   ·rw[bu];exact lD _ (cl q y1 z hz)
   ·have e1:q=p:=cx.mp y1;rw[e1]at hz;exact c3 z (pm.mem_iff.mpr (xh.mpr hz))
 ·have hge:dn=(G++Tc).length:=by
   have:=of_decide_eq_false (Bool.eq_false_iff.mpr hge);lia
  rw[hge,kD]at cl;refine k Tc rc Hc oc kc tcc ⟨cvc,λq hq z hz=>?_⟩;rw[<-bu]at hq;obtain⟨u,hu,rfl⟩:=aQ.mp hq;exact cl u hu z hz
theorem wM{H0 H:Hp}{x:Addr}{o:HO}(fr:∀b o,b≠x->H0 b=some o->H b=some o):∀b u,b≠x->H0 b=some u->upd H x o b=some u:=λb u n e=>by rw[ae n];exact fr b u n e
theorem NS(T:Txt K mg A):aY P w K mg base cF 4 A.Vy A.FZ ["self", "given", "shelves", "entry"] (B8 A.aN):=by
 refine T.HH.ok FD ?_ ?_;walk_at "k"
 obtain⟨x,dx,g,s,e,G,xs,rfl,hx,⟨hG,hS,bd⟩,k⟩:=h;refine⟨_,(aU (pS 4 FD.nd (bO (SJ T) 'a' rfl T.R8 T.Jo.kp T.Jo.b .nil aq 'v')) (aU (c8 (bO (Vr T) 'a' rfl T.UZ T.Gk.kp T.Gk.b .nil aq (ao (az (i6 (K:=K) rfl) (pv 1) (pv 4)) aa))) (aU (eD (pv 0) (kE (dC (K:=K) rfl) (by rfl) T.uD kI 'E') rfl) (aU (eD (pv 0) (aW aa) rfl) (aU (eD (pv 0) (bO (MG T) 'a' rfl T.Mn T.wH.kp T.wH.b .nil aq 'E') rfl) (aU (eD (pv 0) (bO (MG T) 'a' rfl T.Mn T.wH.kp T.wH.b .nil aq (ao (pv 4) aa)) rfl) (aU (eD (pv 0) dq rfl) (aU (eD (pv 0) dq rfl) (aU (c8 (d6 (pv 0) T.bT T.Jh (Nr T) 'a' T.Eo.b .nil aq (ao (pv 3) (ao a5 aa)))) (aU (c8 (fj (pv 0) T.bT T.PU (Ut T) 'a' T.Ni.b .nil aq )) (bo (bC (jv (ck (pv 0) rfl) (λ_=>rfl)) (aU dt (bo dt)) cW)))))))))))),?_⟩;walk_at "rd";have bQ:=bd.bQ;rw[dv]at bQ;refine⟨xs,hS,by lia,λl H1 s1 hl e1=>⟨_,aH.of (s1 _ _ hG.top),_,aH.of e1,by rw[aD,aD,sizeLine_eq];lia,λp hp=>?_⟩⟩;have atA:∀q∈G++flat xs,q.At H:=λq hq=>(bM.mp hq).elim (hG.at_ q) λy=>by
  obtain⟨x',hx',y⟩:=jE.mp y;exact(hS.at_ x' hx').at_ q y
 have s2:=s1.trans (aR (o:=HO.lst (G.map ah.v++(flat xs).map ah.v)) hp);refine⟨G++flat xs,⟨by rw[aJ,bu],λq hq=>(atA q hq).mono s2⟩,by rw[dv];lia,bd.nd,λH2 s3=>⟨_,.inl (aH.of (s3 _ _ (s2 _ _ hG.top))),λlp hlp=>?_⟩⟩;have s4:=s2.trans s3;have e4:=s3 _ _ (aR hp _ _ e1);clear s1 s2 s3 e1 hp;have s5:=s4.trans (aR (o:=HO.lst (G.map ah.v)) hlp);have e5:=aR (o:=HO.lst (G.map ah.v)) hlp _ _ e4;have lp5:upd H2 lp (HO.lst (G.map ah.v)) lp=some (HO.lst (G.map ah.v)):=aJ;have lpn:H lp=none:=s4.free hlp;have nx5:=s5 _ _ hx;have n1:lp≠x:=Ne.symm (bA (s4 _ _ hx) hlp);have n1l:l≠lp:=bA e4 hlp;generalize upd H2 lp (HO.lst (G.map ah.v))=H5 at *;refine⟨_,_,_,nx5,T.bT,T.cT,by show 0<1000;decide,d_ _,λlr hlr=>?_⟩;have ra:=wM (x:=x) (o:=HO.ins A.aN dx (Pp lp)) (λb o _ e=>s5 b o e);have lpa:=ae n1 (H:=H5) (o:=HO.ins A.aN dx (Pp lp))▸lp5;have nlx:l≠x:=λe=>by rw[e,hx]at hl;cases hl
 have la:upd H5 x (HO.ins A.aN dx (Pp lp)) l=some (HO.lst ((flat xs).map ah.v)):=by rw[ae nlx];exact e5
 have xa:upd H5 x (HO.ins A.aN dx (Pp lp)) x=some (HO.ins A.aN dx (Pp lp)):=aJ;generalize upd H5 x (HO.ins A.aN dx (Pp lp))=Ha at *;have n2:lr≠x:=Ne.symm (bA xa hlr);have n12:lp≠lr:=bA lpa hlr;have lrn:H lr=none:=by
  cases q:H lr with
  |none=>rfl
  |some u=>rw[ra lr u n2 q]at hlr;cases hlr
 have sb:=aR (o:=HO.lst []) hlr;have lrb:upd Ha lr (HO.lst []) lr=some (HO.lst []):=aJ;generalize upd Ha lr (HO.lst [])=Hb at *;refine⟨_,_,_,sb _ _ xa,T.bT,T.iB,by show 1<1000;decide,?_⟩;have rc:=wM (x:=x) (o:=HO.ins A.aN dx (Pc lp lr)) (λb o n e=>sb b o (ra b o n e));have rac:=wM (x:=x) (o:=HO.ins A.aN dx (Pc lp lr)) (λb o _ e=>sb b o e);have lrc:upd Hb x (HO.ins A.aN dx (Pc lp lr)) lr=some (HO.lst []):=by rw[ae n2];exact lrb
 have xc:upd Hb x (HO.ins A.aN dx (Pc lp lr)) x=some (HO.ins A.aN dx (Pc lp lr)):=aJ;generalize upd Hb x (HO.ins A.aN dx (Pc lp lr))=Hc at *;have insx:(∀xs:List V,HO.ins A.aN dx []≠.lst xs)/\∀xs:List V,HO.ins A.aN dx []≠.tup xs:=⟨(λ_ z=>by cases z),(λ_ z=>by cases z)⟩
 refine⟨G,T8 (DS hx insx rc) hG,by lia,λp hp=>bd.Sn p (gG _ hp),λdg Hd sd hdg fg=>⟨_,_,_,sd _ _ xc,T.bT,T.dH,by show 2<1000;decide,?_⟩⟩;have n3:dg≠x:=Ne.symm (bA xc hdg);have rce:=wM (x:=x) (o:=HO.ins A.aN dx (Ra lp lr dg)) (λb o _ e=>sd b o e);have rde:=wM (H0:=Hd) (x:=x) (o:=HO.ins A.aN dx (Ra lp lr dg)) (λb o _ e=>e);have xe:upd Hd x (HO.ins A.aN dx (Ra lp lr dg)) x=some (HO.ins A.aN dx (Ra lp lr dg)):=aJ;generalize upd Hd x (HO.ins A.aN dx (Ra lp lr dg))=He at *;have re:∀b o,b≠x->H b=some o->He b=some o:=λb o n e=>rce b o n (rc b o n e);have le:=rce _ _ nlx (rac _ _ nlx la);refine⟨flat xs,⟨le,λp hp=>xu (DS hx insx re) (atA p (gi _ hp))⟩,by lia,λp hp=>bd.Sn p (gi _ hp),λds Hf sf hds fs=>⟨_,_,_,sf _ _ xe,T.bT,T.c_,by show 3<1000;decide,λdf hdf=>?_⟩⟩;obtain⟨kg,hkg,vg⟩:=fg;obtain⟨ks,hks,vs⟩:=fs;have n4:ds≠x:=Ne.symm (bA xe hds);have rfg:=wM (H0:=Hf) (x:=x) (o:=HO.ins A.aN dx (Vn lp lr dg ds)) (λb o _ e=>e);have xg:upd Hf x (HO.ins A.aN dx (Vn lp lr dg ds)) x=some (HO.ins A.aN dx (Vn lp lr dg ds)):=aJ;generalize upd Hf x (HO.ins A.aN dx (Vn lp lr dg ds))=Hg at *;have reg:∀b o,b≠x->He b=some o->Hg b=some o:=λb o n e=>rfg b o n (sf b o e);have dgg:=reg _ _ n3 (rde _ _ n3 hkg);have dsg:=rfg _ _ n4 hks;have n5:df≠x:=Ne.symm (bA xg hdf);have sh:=aR (o:=HO.dK []) hdf;have dfh:upd Hg df (HO.dK []) df=some (HO.dK []):=aJ
 have dfn:H df=none:=by
  cases q:H df with
  |none=>rfl
  |some u=>rw[reg df u n5 (re df u n5 q)]at hdf;cases hdf
 have n35:dg≠df:=bA dgg hdf;have n45:ds≠df:=bA dsg hdf;generalize upd Hg df (HO.dK [])=Hh at *;refine⟨_,_,_,sh _ _ xg,T.bT,T.cO,by show 4<1000;decide,λdu hdu=>?_⟩;have rhi:=wM (H0:=Hh) (x:=x) (o:=HO.ins A.aN dx (Wa lp lr dg ds df)) (λb o _ e=>e);have xi:upd Hh x (HO.ins A.aN dx (Wa lp lr dg ds df)) x=some (HO.ins A.aN dx (Wa lp lr dg ds df)):=aJ;generalize upd Hh x (HO.ins A.aN dx (Wa lp lr dg ds df))=Hi at *;have n6:du≠x:=Ne.symm (bA xi hdu);have n65:du≠df:=Ne.symm (bA (rhi _ _ n5 dfh) hdu);have sj:=aR (o:=HO.dK []) hdu;have duj:upd Hi du (HO.dK []) du=some (HO.dK []):=aJ;generalize upd Hi du (HO.dK [])=Hj at *;refine⟨_,_,_,sj _ _ xi,T.bT,T.jx,by show 5<1000;decide,?_⟩;have rjk:=wM (H0:=Hj) (x:=x) (o:=HO.ins A.aN dx (jF.attrs ⟨x,dx,lp,lr,dg,ds,df,du⟩)) (λb o _ e=>e);have xk:upd Hj x (HO.ins A.aN dx (jF.attrs ⟨x,dx,lp,lr,dg,ds,df,du⟩)) x=some (HO.ins A.aN dx (jF.attrs ⟨x,dx,lp,lr,dg,ds,df,du⟩)):=aJ;show ∃x_18 x_19,upd Hj x (HO.ins A.aN dx (jF.attrs ⟨x,dx,lp,lr,dg,ds,df,du⟩)) x=some (HO.ins A.aN x_18 x_19)/\_;have rgk:∀b o,b≠x->Hg b=some o->upd Hj x (HO.ins A.aN dx (jF.attrs ⟨x,dx,lp,lr,dg,ds,df,du⟩)) b=some o:=λb o n e=>rjk b o n (sj _ _ (rhi b o n (sh _ _ e)));refine⟨_,_,xk,rfl,⟨x,dx,lp,lr,dg,ds,df,du⟩,rfl,e,G,flat xs,[],[],?_⟩
 have rHk:∀b o,b≠x->H b=some o->upd Hj x (HO.ins A.aN dx (jF.attrs ⟨x,dx,lp,lr,dg,ds,df,du⟩)) b=some o:=λb o n e=>rgk b o n (reg b o n (re b o n e));have o:zP A.aN (upd Hj x (HO.ins A.aN dx (jF.attrs ⟨x,dx,lp,lr,dg,ds,df,du⟩))) ⟨x,dx,lp,lr,dg,ds,df,du⟩ G (flat xs) [] []:=by
  refine⟨xk,?_,?_,(λr hr=>by cases hr),⟨kg,rgk _ _ n3 dgg,vg⟩,⟨ks,rgk _ _ n4 dsg,vs⟩,rjk _ _ n5 (sj _ _ (rhi _ _ n5 dfh)),rjk _ _ n6 duj,λp hp=>⟨xu (DS hx insx rHk) (atA p hp),λy=>?_,λy=>?_⟩,n12,⟨n35,n45,n65⟩,(λp hp=>by cases hp)⟩
  ·rw[nY];exact rgk _ _ n1 (reg _ _ n1 (rce _ _ n1 (rac _ _ n1 lpa)))
  ·exact rgk _ _ n2 (reg _ _ n2 (rce _ _ n2 lrc))
  ·obtain⟨ys,z⟩:=(atA p hp).list y;rw[lpn]at z;cases z
  ·obtain⟨ys,z⟩:=(atA p hp).list y;rw[lrn]at z;cases z
 refine⟨o,bd,bd.ent,⟨List.nodup_nil,(λp hp=>by cases hp),rfl,(λi p r hp=>by cases hp)⟩,.inl rfl,λT' rs' Hl ol kl tl cl=>?_⟩;refine⟨_,_,ol.top,rfl,⟨x,dx,lp,lr,dg,ds,df,du⟩,rfl,e,G,flat xs,_,rs',ol,bd,tl,cl,λT2 rs2 Hm om km tm cm=>⟨_,_,_,om.top,T.bT,T.jx,_,jF.l6 _,false,.inr (.inr ⟨[],om.du,rfl⟩),?_⟩⟩;rw[if_neg (by decide)];refine k ⟨x,dx,lp,lr,dg,ds,df,du⟩ T2 rs2 Hm rfl om (λb u n h=>km b u ?_ ?_ ?_ (kl b u ?_ ?_ ?_ (rHk b u n h))) lpn lrn tm cm
 ·exact λq=>by rw[q,lpn]at h;cases h
 ·exact λq=>by rw[q,lrn]at h;cases h
 ·exact λq=>by rw[q,dfn]at h;cases h
 ·exact λq=>by rw[q,lpn]at h;cases h
 ·exact λq=>by rw[q,lrn]at h;cases h
 ·exact λq=>by rw[q,dfn]at h;cases h
theorem TF(bd:Fc G S e)(tc:iN (G.map aC) (S.map aC) e (T.map aC) rs)(sub:∀p∈T,p∈S):((G++T).map ah.name).Nodup:=by
 have h:=bd.nd;rw[bu]at h ⊢;obtain⟨h1,h2,h3⟩:=gX.mp h;refine gX.mpr ⟨h1,?_,λx hx y hy=>?_⟩
 ·have:=tc.nd;rw[cC]at this;exact this
 ·obtain⟨u,hu,rfl⟩:=aQ.mp hy;exact h3 x hx _ (aQ.mpr ⟨u,sub u hu,rfl⟩)
theorem le_str{so:List ah}(h:(so.map λp=>((p.name,0):aF)).Pairwise kF):(so.map ah.name).Pairwise sH:=by
 rw[Rq]at h ⊢;refine h.imp λ{a b} h=>List.not_lt.mp λq=>?_;have h:lQ (b.name,0) (a.name,0)=false:=h;rw[(fc _ _).mpr (.inl q)]at h;cases h
theorem CI(h:dZ H L ps)(hq:q.At H)(nq:q.lists.Nodup)(fr:∀b∈q.lists,b∉L::bj ps):dZ (upd H L (.lst (ps.map ah.v++[q.v]))) L (ps++[q]):=by
 have b:ff H (upd H L (.lst (ps.map ah.v++[q.v]))) L:=ff.upd h.top;have nL:=(mH.mp h.nd).1;refine⟨by rw[aJ];simp,λp hp=>?_,?_⟩
 ·rcases bM.mp hp with z|z
  ·exact(h.at_ p z).but b λy=>nL (jE.mpr ⟨p,z,y⟩)
  ·rw[cx.mp z];exact hq.but b λy=>fr _ y ko
 ·rw[gp,<-Ve];exact gX.mpr ⟨h.nd,nq,λx hx y hy e=>fr y hy (e▸hx)⟩
theorem qi(T:Txt K mg A):aY P w K mg base cF 6 A.taken A.mw ["given", "shelves", "entry"] (JC A):=by
 refine T.fN.ZJ T.J4 lN (λvs H Q E h=>?_) (λc cdv Ar outer s H vs Q E hcd hcc hr h=>?_)
 ·obtain⟨g,s,e,G,xs,rfl,_⟩:=h;rfl
 ·obtain⟨g,s,e,G,xs,rfl,hp,tb,k⟩:=h;refine⟨_,(aU (pS 3 lN.nd (eQ T.EW (NS T) 'a' rfl T.HX T.HH.b .nil aq (ao (pv 0) (ao (pv 1) 'v')))) (aU (pS 4 lN.nd (xO (K:=K) (P:=A.aK) (y := "piece") rfl 'a' (ck (pv 3) rfl) (by rfl) T.fz hcd hcc T.bm ⟨rfl,rfl,rfl,by decide +kernel,rfl,by decide +kernel,by decide +kernel⟩ (λ_ _ _ _ _ _=>'B'))) (bo (aG (cI (iP ["piece"]) rfl (cN (K:=K) rfl (pv 4)) (λ_ _ _=>⟨(pn 0 'g'),cu,(bO (Th T) 'a' rfl T.RZ T.D8.kp T.D8.b .nil aq (ao (pv 0) aa))⟩)))))),?_⟩;walk_at "rd";obtain⟨hG,hS,bd⟩:=hp;intro x dx hx hdx n;have s1:aI H (upd (upd H dx (HO.own x)) x (HO.ins A.aN dx [])):=(aR hdx).trans (aR (by rw[ae (Ne.symm n)];exact hx));refine⟨_,aJ,G,xs,⟨pX hG s1,wZ hS s1,bd⟩,λt T' rs H1 ex o r f1 f2 tc cl=>⟨_,_,_,by rw[<-ex];exact o.top,T.bT,T.cT,_,t.l1,?_⟩⟩;have s2:aI H H1:=λb u e=>r b u (bA e hx) (s1 _ _ e);have tb1:=tb.more s2;have bl:=Dh bd tc o.sub;have inS:∀p∈G++T',p∈G++flat xs:=λp hp=>(bM.mp hp).elim (gG _) λy=>gi _ (o.sub p y);have ndT:=TF bd tc o.sub;have atA:∀p∈G++T',p.At H1:=λp hp=>(o.at_ p (inS p hp)).1;have hz:∀p∈G++T',zF H1 p.t=p.name/\rF H1 p.t=[.ref p.ls,.ref p.ln]:=λp hp=>by
   unfold zF rF;rw[(atA p hp).top];exact⟨rfl,rfl⟩
  refine⟨_,rfl,(G++T').map ah.t,by rw[cC];exact aH.of o.lp,zF H1,rF H1,λb hb=>?_,by rw[aD];lia,tb1,λl bs H2 hl pm pw sx tb2 hl2=>?_⟩
  ·obtain⟨p,hp,rfl⟩:=aQ.mp hb;rw[(hz p hp).1,(hz p hp).2];exact(atA p hp).top
  obtain⟨ps0,hT,_⟩:=id tb1;obtain⟨so,sp,rfl⟩:=FN atA ndT pm;have pw2:(so.map ah.name).Pairwise sH:=by
   rw[cC]at pw;rw[Cg (g:=λp:ah=>((p.name,0):aF)) λp hp=>by show(zF H1 p.t,(0:Int))=_;rw[(hz p (sp.mem_iff.mp hp)).1]]at pw;exact le_str pw
  have at2:∀p∈so,p.At H2:=λp hp=>(atA p (sp.mem_iff.mp hp)).keep hT sx;rw[cC]at hl2;have hl2:H2 l=some (.lst (so.map ah.v)):=hl2;have sln:so.length<=20:=by rw[sp.length_eq];exact bl
  have lT:l≠A.aK:=λe=>by rw[e,hT]at hl;cases hl
  refine cY.of (xs:=so.map ah.v) 'j' (aH.of hl2) (λD i ys H'=>∃qs:List ah,ys=qs.map ah.v/\aI H2 H'/\dZ H' D qs/\qs.map aC=(so.take i).map aC/\∀b∈D::bj qs,H2 b=none)
   (λD hD=>⟨[],rfl,aR hD,dZ.nil aJ,rfl,λb hb=>by simp[bj]at hb;rw[hb];exact hD⟩) ?_ ?_ ?_
  ·rintro D i ys H' hD hi ⟨qs,rfl,s3,hQ,e,_⟩;refine⟨aH.of (s3 _ _ hl2),hQ.top,?_⟩;have:=congrArg List.length e;rw[aD,aD,jM]at this;rw[aD];lia
  ·rintro D i x ys H' hD hx ⟨qs,rfl,s3,hQ,e,fr⟩;walk_at "0";obtain⟨p,hp,rfl⟩:=eZ.mp hx;have hm:=dI hp;have pb:=bd.Sn p (inS p (sp.mem_iff.mp hm));walk_at "rd";refine⟨.no .nil,p,rfl,(at2 p hm).mono s3,Ru pb.st,Ru pb.nm,λs hs=>Ru (pb.ss s hs).2,λq H4 s4 qa qe qf qn=>⟨s4 _ _ hQ.top,qs++[q],by simp,e_ hD (s3.trans s4),?_,?_,λb hb=>?_⟩⟩
   ·exact CI (hQ.mono s4) qa qn λb hb=>hQ.fresh (qf b hb)
   ·rw[bu,e,ix,hp,bu];congr 1;show [aC q]=[aC p];rw[qe]
   ·rw[gp,<-Ve]at hb;rcases bM.mp hb with z|z
    ·exact fr b z
    ·exact s3.free (qf b z)
  ·rintro D ys H' hD ⟨qs,rfl,s3,hQ,e,fr⟩;walk_at "3";have f2:∀b,H2 b=none->H b=none:=λb hb=>by
    cases q:H b with
    |none=>rfl
    |some u=>
     by_cases n:b=A.aK
     ·obtain⟨w,hw,_⟩:=tb2;rw[n,hw]at hb;cases hb
     ·rw[sx b u n (s2 _ _ q)]at hb;cases hb
   have en:qs.map ah.name=so.map ah.name:=by
    have:=congrArg (List.map (·.1)) e;walk_at "1";exact this
   refine k D (T'.map aC) (rs.map (·.2)) qs H' (λb u n h=>s3 _ _ (sx b u n (s2 _ _ h))) (tb2.more s3) hQ (λb hb=>f2 b (fr b hb)) tc cl ?_ (by rw[en];exact pw2);rw[e,<-bu];exact sp.map _
theorem Sk(T:Txt K mg A):aY P w K mg base cF 6 A.Y8 A.D3 ["given", "shelves", "entry"] O0:=by
 refine T.HR.ok Oo ?_ ?_;walk_at "k"
 obtain⟨g,s,e,G,xs,rfl,hp,k⟩:=h;refine⟨_,(bo (aG (ck (eQ T.EW (NS T) 'a' rfl T.HX T.HH.b .nil aq (ao (pv 0) (ao (pv 1) 'v'))) rfl))),?_⟩;walk_at "rd";obtain⟨hG,hS,bd⟩:=hp;intro x dx hx hdx n;have s1:aI H (upd (upd H dx (HO.own x)) x (HO.ins A.aN dx [])):=(aR hdx).trans (aR (by rw[ae (Ne.symm n)];exact hx));refine⟨_,aJ,G,xs,⟨pX hG s1,wZ hS s1,bd⟩,λt T' rs H' ex o r f1 f2 tc cl=>⟨_,_,_,by rw[<-ex];exact o.top,T.bT,T.iB,_,t.l2,?_⟩⟩;exact k t.lr (T'.map aC) rs H' (λb u e=>r b u (bA e hx) (s1 _ _ e)) (s1.free f2) o.lr o.rs tc cl
theorem m6:∀(l pre:List (Key×V)),((pre++l).map (·.1)).Nodup->cn pre l=pre++l
 |[],pre,_=>by unfold cn;simp
 |x::l,pre,h=>by
  show cn (putK pre x.1 x.2) l=_;have e:putK pre x.1 x.2=pre++[x]:=by
   unfold putK;rw[if_neg];intro z;obtain⟨y,hy,e⟩:=nj.mp z;rw[bu,iZ]at h;exact(gX.mp h).2.2 y.1 (aQ.mpr ⟨y,hy,rfl⟩) x.1 (by simp) (of_decide_eq_true e)
  rw[e,m6 l (pre++[x]) (by rw[yz];exact h),yz];rfl
theorem jw(nd:'r'.Nodup)(hp:p∈ps):gE ps p.name=some p:=by
 unfold gE
 induction ps with
 |nil=>cases hp
 |cons q ps ih=>
  rw[iZ,mH]at nd;rcases iu.mp hp with rfl|hp
  ·simp
  ·have:q.name≠p.name:=λe=>nd.1 (e▸aQ.mpr ⟨p,hp,rfl⟩);rw[List.find?_cons_of_neg (by simpa using this)];exact ih nd.2 hp
theorem jO{ps:List ah}{p:ah}(nd:'r'.Nodup)(hp:p∈ps):br (cn [] (ps.map λp=>((.inr p.name:Key),p.v))) (.inr p.name)=some p.v:=by
 have e:cn [] (ps.map λp=>((.inr p.name:Key),p.v))=ps.map λp=>((.inr p.name:Key),p.v):=by
  refine m6 _ [] ?_;rw[List.nil_append,cC];have e:(Prod.fst ∘ λp:ah=>((.inr p.name:Key),p.v))=(Sum.inr:Str->Key) ∘ ah.name:=rfl;rw[e,<-cC];exact List.Pairwise.map _ (λ_ _ h z=>h (Sum.inr.inj z)) nd
 rw[e];unfold br;rw[KO,MS];have h:=jw nd hp;unfold gE at h;have e2:((λkv:Key×V=>decide (kv.1=(.inr p.name:Key))) ∘ λp:ah=>((.inr p.name:Key),p.v))=λq:ah=>decide (q.name=p.name):=by
  funext q;simp
 rw[e2,h];rfl
theorem A8(T:Txt K mg A):aY P w K mg base cF 1 A.W7 A.F9 ["pieces"] Cb:=by
 refine T.jr.ok Pu ?_ ?_;walk_at "k"
 obtain⟨L,ps,rfl,hP,hn,k⟩:=h;refine⟨_,(bo (aG (kE (zw rfl) (by rfl) T.zD vI (ao (cI (iP ["piece"]) rfl (cN (K:=K) rfl (pv 0)) (λ_ _ _=>⟨(pn 0 'g'),cu,(a_ (ao 'B' (ao (pv 0) aa)))⟩)) aa)))),?_⟩;walk_at "rd";refine cY.of (xs:=ps.map ah.v) 'j' (aH.of hP.top) (λD i ys H2=>aI H H2/\H2 D=some (.lst ys)/\∃ts:List (Addr×Key×V),ys=ts.map (λt=>V.ref t.1)/\ts.map (·.2)=(ps.take i).map (λp=>((.inr p.name:Key),p.v))/\∀t∈ts,H2 t.1=some (.tup [kV t.2.1,t.2.2]))
  (λD hD=>⟨aR hD,aJ,[],rfl,rfl,λt h=>(nomatch h)⟩) ?_ ?_ ?_
 ·rintro D i ys H2 hD hi ⟨s2,hDD,ts,rfl,e,_⟩;have hl:=congrArg List.length e;walk_at "9";exact⟨aH.of (s2 _ _ hP.top),hDD,by rw[aD];lia⟩
 ·rintro D i x ys H2 hD hx ⟨s2,hDD,ts,rfl,e,ht⟩;walk_at "0";obtain⟨p,hp,rfl⟩:=eZ.mp hx;have pa:=hP.at_ p (dI hp);walk_at "rd";refine⟨.no .nil,_,bg.of (s2 _ _ pa.top),_,rfl,by walk_at "s", λq hq=>?_⟩;have hqD:D≠q:=bA hDD hq;refine⟨by rw[ae hqD];exact hDD,e_ hD (s2.trans (aR hq)),aJ,ts++[(q,.inr p.name,p.v)],by simp,?_,λt h=>?_⟩
  ·rw[ix,hp,bu,bu,e];rfl
  ·rcases bM.mp h with z|z
   ·have:=ht t z;rw[ae (cj this hDD 'k'),ae (bA this hq)];exact this
   ·rw[cx.mp z,ae (Ne.symm hqD),aJ];rfl
 ·rintro D ys H2 hD ⟨s2,hDD,ts,rfl,e,ht⟩;walk_at "3";have hl:=congrArg List.length e;rw[aD,aD]at hl;refine⟨D,rfl,ts,aH.of hDD,ht,by lia,λd hd=>?_⟩;rw[e];exact k d _ (s2.trans (aR hd)) aJ (bW s2 hd)
theorem TC(T:Txt K mg A):aY P w K mg base cF 1 A.YW A.Em ["number", "step"] Lp:=by
 refine T.HS.ok Qt ?_ ?_;walk_at "k"
 obtain⟨n,st,rfl,h0,h1,h2,h3,k⟩:=h;refine⟨_,(bo (aG (az eS (az eV (az gq (az cG (pv 0) (pv 1)) af) (pv 1)) (pv 1)))),?_⟩;walk_at "rd";exact⟨⟨by lia,by lia⟩,.inr ⟨by lia,by lia⟩,k⟩
theorem G5(h:(eG ps k).isSome=true):∃p s,p∈ps/\p.name=k.1/\0<=k.2/\p.aO[k.2.toNat]?=some s/\eG ps k=some s:=by
 unfold eG at h ⊢;cases hp:gE ps k.1 with
 |none=>rw[hp]at h;cases h
 |some p=>
  rw[hp]at h;have e:(if 0<=k.2 then p.aO[k.2.toNat]? else none).isSome=true:=h;by_cases z:0<=k.2
  ·rw[if_pos z]at e;obtain⟨s,hs⟩:=Vz.mp e;refine⟨p,s,wF hp,by have:=Kq hp;simpa using this,z,hs,?_⟩;show(if 0<=k.2 then p.aO[k.2.toNat]? else none)=some s;rw[if_pos z,hs]
  ·rw[if_neg z]at e;cases e
theorem zC(hd:H d=some (.dK (cn [] (ps.map λp=>(.inr p.name,p.v)))))(hS:i9 H ps)(h:(eG ps k).isSome=true):
  ∃(p:ah) (s:aM),eG ps k=some s/\p∈ps/\s∈p.aO/\br (cn [] (ps.map λp=>((.inr p.name:Key),p.v))) (.inr k.1)=some p.v/\H p.t=some (.tup [.str p.name,.ref p.ls,.ref p.ln])/\H p.ls=some (.lst (p.aO.map aM.v))/\hW (p.aO.map aM.v) k.2=some s.v/\s.At H:=by
 obtain⟨p,s,hp,e,z,hs,es⟩:=G5 h;have pa:=hS.at_ p hp;have hm:=dI hs;refine⟨p,s,es,hp,hm,by rw[<-e];exact jO hS.nd hp,pa.top,pa.sl,?_,pa.ss s hm⟩;obtain⟨i,hi⟩:=S4 z;rw[hi]at hs ⊢;exact cw (by rw[gU];exact congrArg (Option.map aM.v) hs)
def dF(H:Hp)(b:Addr):aF:=match H b with | some (.tup [.str z,.int n])=>(z,n) | _=>(s!"", 0)
theorem EO(h:H b=some (.tup [.str k.1,.int k.2])):dF H b=k:=by unfold dF;rw[h]
theorem Fi(hd:H d=some (.dK (cn [] (ps.map λp=>(.inr p.name,p.v)))))(hS:i9 H ps)(hK:xX H l qs)(hl:qs.length<64)(hin:∀q∈qs,(eG ps q.2).isSome=true)
  (k:∀(D:Addr) (H':Hp),aI H H'->xX H' D (qs.filter λq=>cU ps kd q.2)->R (.ref D) H'):
  cY K (m5 0) (NL (BL Zs (BL (tD K) (BL (OU K) (BL (tD K) (MH (tH 1) (BL (tD K) (tH 0) (tC (V.int 0)))) (tC (V.int 1))) (BL (tD K) (tH 0) (tC (V.int 1)))) (tC (V.int 0))) (tC (V.str kd)))) (tH 0) [none,some (V.ref d)] R (V.ref l) H:=by
 refine cY.of (xs:=qs.map λq=>V.ref q.1) (by rw[sizeLine_eq,aD];omega) (aH.of hK.1) (λD i ys H'=>aI H H'/\H' D=some (.lst ys)/\ys=((qs.take i).filter λq=>cU ps kd q.2).map λq=>V.ref q.1) (λD hD=>⟨aR hD,aJ,rfl⟩) ?_ ?_ ?_
 ·rintro D i ys H' hD hi ⟨s1,hDD,rfl⟩;refine⟨aH.of (s1 _ _ hK.1),hDD,?_⟩;rw[aD];exact ia (Ko _ _) (by rw[jM];lia)
 ·rintro D i x ys H' hD hx ⟨s1,hDD,rfl⟩;walk_at "0";obtain⟨q,hq,rfl⟩:=eZ.mp hx;have hm:=dI hq;obtain⟨p,st,es,hp,hst,e1,e2,e3,e4,sa⟩:=zC hd hS (hin q hm);have qa:=hK.2 q hm;have sa':=sa.mono s1;have dg:bR H' d (V.str q.2.1) (some p.v):=by
   have:=bR.k (k:=(.inr q.2.1:Key)) (s1 _ _ hd);rw[e1]at this;exact this
  walk_at "rd";refine⟨.no (.yes .nil),_,bg.of (s1 _ _ qa),_,rfl,_,dg,_,rfl,_,bg.of (s1 _ _ e2),_,rfl,_,bg.of (s1 _ _ qa),_,rfl,_,rfl,_,_,rfl,aH.of (s1 _ _ e3),_,e4,_,rfl,_,bg.of sa'.top,_,rfl,rfl,?_⟩;have ek:cU ps kd q.2=decide (st.kind=kd):=by unfold cU;rw[es];simp
  have et:(qs.take (i+1)).filter (λq=>cU ps kd q.2)=(qs.take i).filter (λq=>cU ps kd q.2)++if st.kind=kd then [q] else []:=by
   rw[ix,hq,S7];refine congrArg (λz=>List.filter (λq:Addr×aF=>cU ps kd q.2) (List.take i qs)++z) ?_;show List.filter _ [q]=_;rw[Ur,ek];by_cases z:st.kind=kd<;>simp[z]
  by_cases z:st.kind=kd
  ·rw[decide_eq_true (congrArg V.str z),if_pos rfl];rw[if_pos z]at et;refine⟨hDD,e_ hD s1,aJ,?_⟩;rw[et,bu];rfl
  ·rw[decide_eq_false (λe=>z (V.str.inj e)),if_neg (by decide)];rw[if_neg z,nY]at et;exact⟨s1,hDD,by rw[et]⟩
 ·rintro D ys H' hD ⟨s1,hDD,rfl⟩;rw[aD,kD]at hDD;exact k D H' s1 ⟨hDD,λq hq=>s1 _ _ (hK.2 q ((yw.mp hq).1))⟩
theorem UU(T:Txt K mg A):aY P w K mg base cF 1 A.YC A.G3 ["by_name", "keys"] FG:=by
 refine T.ER.ok t_ ?_ ?_;walk_at "k"
 obtain⟨d,a,ps,qs,rfl,hd,hS,hK,hl,hin,k⟩:=h;refine⟨_,(aU (pS 2 t_.nd (fX (wJ (K:=K) rfl) (by rfl) T.fz g_ (ao (cI (iP ["name", "number"]) rfl (cN (K:=K) rfl (pv 1)) (λ_ _ _=>⟨(bV (K:=K) (n:=2) rfl rfl (dW (pn 0 'g') (dW (pn 1 'g') bX))),cu,(a_ (ao (pv 0) 'E'))⟩)) aa))) (aU (fC (i:=3) t_.nd rfl 'z' (iE (own:=["key"]) (fr:=["by_name"]) (fm:=[0]) rfl 'e' 'e' 'e' (.cons rfl 'z' rfl .nil)) rfl (cN (K:=K) rfl (pv 2)) (λ_ _ _=>⟨(pn 0 'g'),(iY (cJ dk (tx K (bx 'h' (tx K (dj (bN hr) (pv 1) 'B' (λ_ _=>rfl))) 'B' (λ_ _=>rfl))) a5 (aV _))),(pv 0)⟩)) (aU (fC (i:=4) t_.nd rfl 'z' (iE (own:=["key"]) (fr:=["by_name"]) (fm:=[0]) rfl 'e' 'e' 'e' (.cons rfl 'z' rfl .nil)) rfl (cN (K:=K) rfl (pv 2)) (λ_ _ _=>⟨(pn 0 'g'),(iY (cJ dk (tx K (bx 'h' (tx K (dj (bN hr) (pv 1) 'B' (λ_ _=>rfl))) 'B' (λ_ _=>rfl))) a5 (aV _))),(pv 0)⟩)) (bo (aG (az (i6 (K:=K) rfl) (pv 3) (pv 4))))))),?_⟩;walk_at "rd"
 refine cY.of (xs:=qs.map λq=>V.ref q.1) (by rw[sizeLine_eq,aD];omega) (aH.of hK.1) (λD i ys H'=>aI H H'/\H' D=some (.lst ys)/\∃rs:List (Addr×aF),ys=rs.map (λr=>V.ref r.1)/\rs.map (·.2)=(qs.take i).map (·.2)/\∀r∈rs,H' r.1=some (.tup [.str r.2.1,.int r.2.2]))
  (λD hD=>⟨aR hD,aJ,[],rfl,rfl,λr h=>nomatch h⟩) ?_ ?_ ?_
 ·rintro D i ys H' hD hi ⟨s1,hDD,rs,rfl,e,_⟩;have hl:=congrArg List.length e;walk_at "9";exact⟨aH.of (s1 _ _ hK.1),hDD,by rw[aD];lia⟩
 ·rintro D i x ys H' hD hx ⟨s1,hDD,rs,rfl,e,ht⟩;walk_at "0";obtain⟨q,hq,rfl⟩:=eZ.mp hx;have qa:=s1 _ _ (hK.2 q (dI hq));walk_at "rd";refine⟨_,bg.of qa,rfl,_,_,rfl,_,_,rfl,rfl,.no (.no .nil),by walk_at "s", λp hp=>?_⟩;have hpD:D≠p:=bA hDD hp;refine⟨by rw[ae hpD];exact hDD,e_ hD (s1.trans (aR hp)),aJ,rs++[(p,q.2)],by simp,?_,λr h=>?_⟩
  ·rw[ix,hq,bu,bu,e];rfl
  ·rcases bM.mp h with z|z
   ·have:=ht r z;rw[ae (cj this hDD 'k'),ae (bA this hp)];exact this
   ·rw[cx.mp z,ae (Ne.symm hpD),aJ]
 ·rintro D ys H1 hD ⟨s1,hDD,rs,rfl,e,ht⟩;walk_at "3";have el:rs.length=qs.length:=by have:=congrArg List.length e;rwa [aD,aD]at this
  walk_at "rd";refine⟨rs.map (·.1),by rw[cC];exact aH.of hDD,dF H1,λb hb=>?_,by rw[aD];lia,λl bs' hl0 pm pw=>?_⟩
  ·obtain⟨r,hr,rfl⟩:=aQ.mp hb;rw[EO (ht r hr)];exact ht r hr
  ·have s2:=s1.trans (aR (o:=HO.lst (bs'.map V.ref)) hl0);have hb:∀b∈bs',∃r∈rs,r.1=b:=λb hb=>by
    obtain⟨r,hr,e⟩:=aQ.mp (pm.mem_iff.mp hb);exact⟨r,hr,e⟩
   have K1:xX (upd H1 l (HO.lst (bs'.map V.ref))) l (bs'.map λb=>(b,dF H1 b)):=by
    refine⟨by rw[aJ,cC];rfl,λq hq=>?_⟩;obtain⟨b,hb',rfl⟩:=aQ.mp hq;obtain⟨r,hr,rfl⟩:=hb b hb';rw[EO (ht r hr)];exact aR hl0 _ _ (ht r hr)
   have pk:(bs'.map (dF H1)).Perm (qs.map (·.2)):=by
    have:=pm.map (dF H1);rw[cC]at this;have e3:rs.map (dF H1 ∘ λr=>r.1)=rs.map (·.2):=Cg λr hr=>EO (ht r hr);rw[e3,e]at this;exact this
   have in1:∀q∈bs'.map (λb=>(b,dF H1 b)),(eG ps q.2).isSome=true:=λq hq=>by
    obtain⟨b,hb',rfl⟩:=aQ.mp hq;obtain⟨q',h1,h2⟩:=aQ.mp (pk.mem_iff.mp (aQ.mpr ⟨b,hb',rfl⟩));show(eG ps (dF H1 b)).isSome=true;rw[<-h2];exact hin q' h1
   have l1:(bs'.map λb=>(b,dF H1 b)).length<64:=by rw[aD];have:=pm.length_eq;rw[aD]at this;lia
   have sh:∀H',aI H H'->i9 H' ps:=λH' s=>⟨λp hp=>(hS.at_ p hp).mono s,hS.nd,hS.st⟩;refine Fi (s2 _ _ hd) (sh _ s2) K1 l1 in1 λD1 H2 s3 K2=>Fi (s3 _ _ (s2 _ _ hd)) (sh _ (s2.trans s3)) ⟨s3 _ _ K1.1,λq hq=>s3 _ _ (K1.2 q hq)⟩ l1 in1 λD2 H3 s4 K3=>?_;refine⟨_,rfl,_,rfl,_,aH.of (s4 _ _ K2.1),_,aH.of K3.1,?_,λl2 hl2=>?_⟩
   ·rw[sizeLine_eq,aD,aD];have a1:=Ko (λq:Addr×aF=>cU ps s!"code" q.2) (bs'.map λb=>(b,dF H1 b));have a2:=Ko (λq:Addr×aF=>cU ps s!"data" q.2) (bs'.map λb=>(b,dF H1 b));lia
   ·refine k l2 _ _ ((s2.trans s3).trans (s4.trans (aR hl2))) (bW ((s2.trans s3).trans s4) hl2) ⟨by rw[aJ,<-bu],λq hq=>aR hl2 _ _ ?_⟩ ⟨bs'.map (dF H1),pk,pw,?_⟩
    ·rcases bM.mp hq with z|z
     ·exact s4 _ _ (K2.2 q z)
     ·exact K3.2 q z
    ·rw[bu,List.filter_map,List.filter_map,List.filter_map,List.filter_map,cC,cC];rfl
theorem Mg{e st:Int}(h:1<=st):e<=cb e st/\cb e st<e+st/\cb e st%st=0:=by
 unfold cb;have h1:=Int.emod_def (e+st - 1) st;have h2:=Int.emod_nonneg (e+st - 1) (show st≠0 by lia);have h3:=Int.emod_lt_of_pos (e+st - 1) (show 0<st by lia);have h4:(e+st - 1)/st*st=st*((e+st - 1)/st):=Int.mul_comm _ _;refine⟨by lia,by lia,Int.mul_emod_left _ _⟩
theorem jZ:∀(e:Int) (ss:List aM) (s:aM),bF e (ss++[s])=bF e ss++[(cb (((bF e ss).getLast?.map (·.2)).getD e) s.step,cb (((bF e ss).getLast?.map (·.2)).getD e) s.step+(s.words.length:Int))]
 |e,[],s=>rfl
 |e,y::ss,s=>by
  have ih:=jZ (cb e y.step+(y.words.length:Int)) ss s;show(_::bF _ (ss++[s]))=_;rw[ih];have g:((bF e (y::ss)).getLast?.map (·.2)).getD e=((bF (cb e y.step+(y.words.length:Int)) ss).getLast?.map (·.2)).getD (cb e y.step+(y.words.length:Int)):=by
   show(((cb e y.step,cb e y.step+(y.words.length:Int))::bF (cb e y.step+(y.words.length:Int)) ss).getLast?.map (·.2)).getD e=_;rw[List.getLast?_cons];cases hg:(bF (cb e y.step+(y.words.length:Int)) ss).getLast?<;>rfl
  rw[g];rfl
theorem MO(T:Txt K mg A):aY P w K mg base cF 2 A.Yj A.Dw ["pieces", "keys"] QW:=by
 refine T.xK.ok gF ?_ ?_;walk_at "k"
 obtain⟨L,a,ps,qs,rfl,hP,hn,hS,hK,hl,hin,k⟩:=h;refine⟨_,(aU (pS 2 gF.nd (bO (A8 T) 'a' rfl T.Bi T.jr.kp T.jr.b .nil aq (ao (pv 0) aa))) (aU (pS 3 gF.nd (aW aa)) (aU (pS 4 gF.nd af) (aU (pF (cN (K:=K) rfl (bO (UU T) 'a' rfl T.UI T.ER.kp T.ER.b .nil aq (ao (pv 2) 'E'))) (pn 5 gF.nd) (aU (pS 6 gF.nd (bx 'h' (tx K (dj (bN hr) (pv 2) (tx K (pv 5)) (λ_ _=>rfl))) (tx K (pv 5)) (λ_ _=>rfl))) (aU (pS 7 gF.nd (bO (TC T) 'a' rfl T.Vm T.HS.kp T.HS.b .nil aq (ao (pv 4) (ao (tx K (pv 6)) aa)))) (aU (pS 4 gF.nd (az cG (pv 7) (fX (b_ (K:=K) rfl) (by rfl) T.gm eg (ao (tx K (pv 6)) aa)))) (bo (c8 (cq (pv 3) (ao (a_ (ao (pv 5) (ao (pv 7) (ao (pv 4) aa)))) aa)))))))) (bo (aG (pv 3))))))),?_⟩;walk_at "rd";refine⟨ps,hP,hn,λd H1 s1 hd _=>⟨d_ _,λp hp=>?_⟩⟩;have s2:=s1.trans (aR (o:=HO.lst []) hp);have sh:∀H',aI H H'->i9 H' ps:=λH' s=>⟨λp hp=>(hS.at_ p hp).mono s,hS.nd,hS.st⟩;refine⟨ps,aR hp _ _ hd,sh _ s2,qs,⟨s2 _ _ hK.1,λq hq=>s2 _ _ (hK.2 q hq)⟩,hl,hin,λl ls H2 s3 hlf hL hO=>?_⟩;have hln:ls.length<64:=by
  obtain⟨ss,pm,_,e⟩:=hO;have:=congrArg List.length e;rw[aD,dv]at this;have f:∀xs:List aF,(xs.filter (cU ps s!"code")).length+(xs.filter (cU ps s!"data")).length<=xs.length:=λxs=>by
   induction xs with
   |nil=>exact bS _
   |cons x xs ih=>
    have ne:¬(cU ps s!"code" x=true/\cU ps s!"data" x=true):=λ⟨h1,h2⟩=>by
     unfold cU at h1 h2;rw[of_decide_eq_true h1]at h2;exact absurd (Option.some.inj (of_decide_eq_true h2)) 'e'
    rw[Ur,Ur];by_cases a1:cU ps s!"code" x=true<;>by_cases a2:cU ps s!"data" x=true
    ·exact absurd ⟨a1,a2⟩ ne
    ·rw[if_pos a1,if_neg a2,md,md];lia
    ·rw[if_neg a1,if_pos a2,md,md];lia
    ·rw[if_neg a1,if_neg a2,md];lia
  have:=f ss;have:=pm.length_eq;rw[aD]at this;lia
 have inl:∀q∈ls,(eG ps q.2).isSome=true:=λq hq=>by
  obtain⟨ss,pm,_,e⟩:=hO;have:q.2∈ls.map (·.2):=aQ.mpr ⟨q,hq,rfl⟩;rw[e]at this;have:q.2∈ss:=by
   rcases bM.mp this with z|z
   ·exact(yw.mp z).1
   ·exact(yw.mp z).1
  obtain⟨q',h1,h2⟩:=aQ.mp (pm.mem_iff.mp this);rw[<-h2];exact hin q' h1
 refine fH.of (xs:=ls.map λq=>V.ref q.1) (λi σ H'=>∃(rs:List dQ) (ss:List aM) (en:Int) (b5 b6 b7:Option V),σ=[some (.ref L),some (.ref a),some (.ref d),some (.ref p),some (.int en),b5,b6,b7]/\(∀x o,x≠p->H2 x=some o->H' x=some o)/\H' p=some (.lst (rs.map λr=>V.ref r.t))/\(∀r∈rs,H' r.t=some (.tup [.ref r.b,.int r.p,.int r.e]))/\(∀r∈rs,H' r.b=some (.tup [.str r.k.1,.int r.k.2]))/\
  rs.map (·.k)=(ls.take i).map (·.2)/\rs.map (λr=>eG ps r.k)=ss.map some/\rs.map (λr=>(r.p,r.e))=bF 0 ss/\en=((bF 0 ss).getLast?.map (·.2)).getD 0/\0<=en/\en<=(i:Int)*70000) ?_ ?_ ?_ ?_
 ·exact⟨[],[],0,_,_,_,rfl,λx o _ e=>e,s3 _ _ aJ,(λr h=>by cases h),(λr h=>by cases h),rfl,rfl,rfl,rfl,Int.le_refl _,by lia⟩
 ·rintro i σ H' hi ⟨rs,ss,en,b5,b6,b7,rfl,fr,_⟩;exact aH.of (fr _ _ (λz=>by rw[z,aJ]at hlf;cases hlf) hL.1)
 ·rintro i v σ H' hv ⟨rs,ss,en,b5,b6,b7,rfl,fr,hp',hr1,hr2,e1,e2,e3,e4,e5,e6⟩;have hi:i<ls.length:=by have:=(gZ.mp hv).1;rwa [aD]at this
  walk_at "4";obtain⟨q,hq,rfl⟩:=eZ.mp hv;have hm:=dI hq;have h2p:H2 p=some (.lst []):=s3 _ _ aJ;have old:aI H H':=λx o e=>fr x o (bA (s1 _ _ e) hp) ((s2.trans s3) _ _ e);have hd':=fr d _ (bA hd hp) (s3 _ _ (aR hp _ _ hd));have qa:=fr q.1 _ (cj (hL.2 q hm) h2p 'k') (hL.2 q hm);obtain⟨pc,st,es,hpc,hst,g1,g2,g3,g4,sa⟩:=zC hd' (sh _ old) (inl q hm);obtain⟨c1,c2,_,c4⟩:=hS.st pc hpc st hst;have dg:bR H' d (V.str q.2.1) (some pc.v):=by
   have:=bR.k (k:=(.inr q.2.1:Key)) hd';rw[g1]at this;exact this
  have ml:=Mg (e:=en) c1;walk_at "rd";refine⟨_,bg.of qa,_,rfl,_,dg,_,rfl,_,bg.of g2,_,rfl,_,bg.of qa,_,rfl,_,rfl,_,_,rfl,aH.of g3,_,g4,_,rfl,?_⟩;have rl:rs.length=i:=by have:=congrArg List.length e1;rw[aD,aD,jM]at this;lia
  refine⟨_,bg.of sa.top,_,rfl,_,rfl,e5,by lia,c1,c2,_,rfl,_,bg.of sa.top,_,rfl,st.words.length,.inl ⟨_,aH.of sa.wd,by rw[aD]⟩,.inl ⟨rfl,_,aH.of hp'⟩,by walk_at "s", λt ht=>?_⟩;have ntp:t≠p:=λz=>by rw[z,hp']at ht;cases ht
  have up:∀{x:Addr}{o:HO},x≠p->H' x=some o->upd (upd H' t (HO.tup [V.ref q.fst,V.int (cb en st.step),V.int (cb en st.step+(st.words.length:Int))])) p (HO.lst (rs.map (λr=>V.ref r.t)++[V.ref t])) x=some o:=λh1 h2=>by
   rw[ae h1];exact aR ht _ _ h2
  have np:∀{x:Addr}{xs:List V},H' x=some (.tup xs)->x≠p:=λh=>cj h hp' 'k';refine⟨_,aR ht _ _ hp',by rw[sizeLine_eq,aD];lia,λx o h1 h2=>up h1 (fr x o h1 h2),rs++[⟨t,q.1,q.2,cb en st.step,cb en st.step+(st.words.length:Int)⟩],by rw[aJ,bu];rfl,λr hr=>?_,λr hr=>?_,?_,ss++[st],?_,?_,?_,by lia,by lia⟩
  ·rcases bM.mp hr with z|z
   ·exact up (np (hr1 r z)) (hr1 r z)
   ·rw[cx.mp z];show upd _ p _ t=_;rw[ae ntp,aJ]
  ·rcases bM.mp hr with z|z
   ·exact up (np (hr2 r z)) (hr2 r z)
   ·rw[cx.mp z];exact up (np qa) qa
  ·rw[bu,e1,ix,hq,bu];rfl
  ·rw[bu,bu,e2];exact congrArg (λz=>ss.map some++[z]) es
  ·rw[bu,e3,jZ,<-e4];rfl
  ·rw[jZ,<-e4,List.getLast?_concat];rfl
 ·rintro σ H' ⟨rs,ss,en,b5,b6,b7,rfl,fr,hp',hr1,hr2,e1,e2,e3,e4,e5,e6⟩;walk_at "rd";rw[aD,kD]at e1;exact k p rs H' (λx o e=>fr x o (bA (s1 _ _ e) hp) ((s2.trans s3) _ _ e)) (bW s1 hp) ⟨hp',hr1,hr2,by rw[e1];exact hO,ss,e2,e3⟩
def dQ.core(r:dQ):Addr×aF×Int×Int:=(r.b,r.k,r.p,r.e)
theorem lH{α:Type}{f:dQ->α}{g:Addr×aF×Int×Int->α}(e:∀r,f r=g r.core){xs ys:List dQ}(h:xs.map dQ.core=ys.map dQ.core):xs.map f=ys.map f:=by
 have e1:f=g ∘ dQ.core:=funext e;rw[e1,<-cC,<-cC,h]
theorem mi.len{H:Hp}{b:Bool}{l:Addr}{ps:List ah}{ks:List aF}{rs:List dQ}(h:mi H b l ps ks rs):rs.length<=ks.length:=by
 obtain⟨ss,pm,_,e⟩:=h.ord;have:=congrArg List.length e;rw[aD,dv]at this;have f:∀xs:List aF,(xs.filter (cU ps s!"code")).length+(xs.filter (cU ps s!"data")).length<=xs.length:=λxs=>by
  induction xs with
  |nil=>exact bS _
  |cons x xs ih=>
   have ne:¬(cU ps s!"code" x=true/\cU ps s!"data" x=true):=λ⟨h1,h2⟩=>by
    unfold cU at h1 h2;rw[of_decide_eq_true h1]at h2;exact absurd (Option.some.inj (of_decide_eq_true h2)) 'e'
   rw[Ur,Ur];by_cases a1:cU ps s!"code" x=true<;>by_cases a2:cU ps s!"data" x=true
   ·exact absurd ⟨a1,a2⟩ ne
   ·rw[if_pos a1,if_neg a2,md,md];lia
   ·rw[if_neg a1,if_pos a2,md,md];lia
   ·rw[if_neg a1,if_neg a2,md];lia
 have:=f ss;have:=pm.length_eq;lia
theorem E9(T:Txt K mg A):aY P w K mg base cF 3 A.laid A.Bj ["pieces", "keys"] Lf:=by
 refine T.l9.ok LF (λvs H Q E h=>?_) (λcdv Ar outer s H vs Q E hr h=>?_)
 ·obtain⟨ps,ks,⟨L,a,qs,rfl,_⟩,_⟩:=h;rfl
 ·obtain⟨ps,ks,⟨L,a,qs,rfl,rfl,hP,hn,hS,hK,hl,hin⟩,k⟩:=h;refine⟨_,(bo (aG (cI (iP ["key", "place", "end"]) rfl (cN (K:=K) rfl (bO (MO T) 'a' rfl T.Mu T.xK.kp T.xK.b .nil aq (ao (pv 0) 'E'))) (λ_ _ _=>⟨(bV (K:=K) (n:=3) rfl rfl (dW (pn 0 'g') (dW (pn 1 'g') (dW (pn 2 'g') bX)))),cu,(a_ (ao (pv 0) 'E'))⟩)))),?_⟩;walk_at "rd";refine⟨ps,hP,hn,hS,qs,hK,hl,hin,λl rs H1 s1 _ LA=>?_⟩;have rl:=LA.len;rw[aD]at rl;refine cY.of (xs:=rs.map λr=>V.ref r.t) (by rw[sizeLine_eq,aD];omega) (aH.of LA.top) (λD i ys H'=>aI H1 H'/\H' D=some (.lst ys)/\∃us:List dQ,ys=us.map (λr=>V.ref r.t)/\us.map dQ.core=(rs.take i).map dQ.core/\∀r∈us,H' r.t=some (.tup (r.vs false)))
   (λD hD=>⟨aR hD,aJ,[],rfl,rfl,λr h=>by cases h⟩) ?_ ?_ ?_
  ·rintro D i ys H' hD hi ⟨s2,hDD,us,rfl,e,_⟩;have hl:=congrArg List.length e;walk_at "9";exact⟨aH.of (s2 _ _ LA.top),hDD,by rw[aD];lia⟩
  ·rintro D i x ys H' hD hx ⟨s2,hDD,us,rfl,e,ht⟩;walk_at "0";obtain⟨r,hr,rfl⟩:=eZ.mp hx;have ra:H' r.t=some (.tup [.ref r.b,.int r.p,.int r.e]):=s2 _ _ (LA.row r (dI hr));walk_at "rd";refine⟨_,bg.of ra,rfl,_,_,rfl,_,_,rfl,_,_,rfl,rfl,.no (.no (.no .nil)),by walk_at "s", λp hp=>?_⟩;have hpD:D≠p:=bA hDD hp;refine⟨by rw[ae hpD];exact hDD,e_ hD (s2.trans (aR hp)),aJ,us++[⟨p,r.b,r.k,r.p,r.e⟩],by simp,?_,λu h=>?_⟩
   ·rw[ix,hr,bu,bu,e];rfl
   ·rcases bM.mp h with z|z
    ·have:=ht u z;rw[ae (cj this hDD 'k'),ae (bA this hp)];exact this
    ·rw[cx.mp z,ae (Ne.symm hpD),aJ];rfl
  ·rintro D ys H' hD ⟨s2,hDD,us,rfl,e,ht⟩;walk_at "3";refine k D us H' 'S' (bW s1 hD) ⟨hDD,ht,λr hr=>?_,?_,?_⟩
   ·have:r.core∈rs.map dQ.core:=by rw[<-e];exact aQ.mpr ⟨r,hr,rfl⟩
    obtain⟨r',h1,h2⟩:=aQ.mp this;have a1:r'.b=r.b:=congrArg (·.1) h2;have a2:r'.k=r.k:=congrArg (·.2.1) h2;rw[<-a1,<-a2];exact s2 _ _ (LA.key r' h1)
   ·rw[lH (f:=dQ.k) (g:=λc=>c.2.1) (λr=>rfl) e];exact LA.ord
   ·obtain⟨ss,h1,h2⟩:=LA.lay;refine⟨ss,?_,?_⟩
    ·rw[lH (f:=λr=>eG ps r.k) (g:=λc=>eG ps c.2.1) (λr=>rfl) e];exact h1
    ·rw[lH (f:=λr=>(r.p,r.e)) (g:=λc=>c.2.2) (λr=>rfl) e];exact h2
theorem SW(T:Txt K mg A):aY P w K mg base cF 3 A.YU A.JJ ["pieces", "keys"] BW:=by
 refine T.Jt.ok OX (λvs H Q E h=>?_) (λcdv Ar outer s H vs Q E hr h=>?_)
 ·obtain⟨ps,ks,⟨L,a,qs,rfl,_⟩,_⟩:=h;rfl
 ·obtain⟨ps,ks,⟨L,a,qs,rfl,rfl,hP,hn,hS,hK,hl,hin⟩,k⟩:=h;refine⟨_,(bo (aG (A1 rfl (K:=K) rfl (cI (iP ["key", "place", "end"]) rfl (cN (K:=K) rfl (bO (MO T) 'a' rfl T.Mu T.xK.kp T.xK.b .nil aq (ao (pv 0) 'E'))) (λ_ _ _=>⟨(bV (K:=K) (n:=3) rfl rfl (dW (pn 0 'g') (dW (pn 1 'g') (dW (pn 2 'g') bX)))),cu,(pv 2)⟩)) (by rfl) T.GI))),?_⟩;walk_at "rd";refine⟨ps,hP,hn,hS,qs,hK,hl,hin,λl rs H1 s1 _ LA=>?_⟩;have rl:=LA.len;rw[aD]at rl;refine cY.of (xs:=rs.map λr=>V.ref r.t) (by rw[sizeLine_eq,aD];omega) (aH.of LA.top) (λD i ys H'=>aI H1 H'/\H' D=some (.lst ys)/\ys=((rs.take i).map dQ.e).map V.int) (λD hD=>⟨aR hD,aJ,rfl⟩) ?_ ?_ ?_
  ·rintro D i ys H' hD hi ⟨s2,hDD,rfl⟩;exact⟨aH.of (s2 _ _ LA.top),hDD,by rw[aD,aD,jM];lia⟩
  ·rintro D i x ys H' hD hx ⟨s2,hDD,rfl⟩;walk_at "0";obtain⟨r,hr,rfl⟩:=eZ.mp hx;have ra:H' r.t=some (.tup [.ref r.b,.int r.p,.int r.e]):=s2 _ _ (LA.row r (dI hr));walk_at "rd";refine⟨_,bg.of ra,rfl,_,_,rfl,_,_,rfl,_,_,rfl,rfl,.no (.no (.no .nil)),hDD,e_ hD s2,aJ,?_⟩;rw[ix,hr,bu,bu];rfl
  ·rintro D ys H' hD ⟨s2,hDD,rfl⟩;rw[aD,kD]at hDD;walk_at "rd";refine⟨rs.map dQ.e,aH.of hDD,λm hg=>k m H' 'S' ?_⟩;obtain⟨ss,h1,h2⟩:=LA.lay;refine⟨rs.map (·.k),ss,LA.ord,by rw[cC];exact h1,?_⟩;rw[<-h2,cC];exact hg
theorem Vp(T:Txt K mg A):aY P w K mg base cF 2 A.Wx A.C_ ["pieces", "keys"] BO:=by
 refine T.DZ.ok Fo (λvs H Q E h=>?_) (λcdv Ar outer s H vs Q E hr h=>?_)
 ·obtain⟨ps,ks,⟨L,a,qs,rfl,_⟩,_⟩:=h;rfl
 ·obtain⟨ps,ks,⟨L,a,qs,rfl,rfl,hP,hn,hS,hK,hl,hin⟩,k⟩:=h;refine⟨_,(aU (pS 2 Fo.nd (bO (A8 T) 'a' rfl T.Bi T.jr.kp T.jr.b .nil aq (ao (pv 0) aa))) (bo (aG (A1 rfl (K:=K) rfl (cI (iE (own:=["name", "number"]) (fr:=["by_name"]) (fm:=[2]) rfl 'e' 'e' 'e' (.cons rfl 'z' rfl .nil)) rfl (cN (K:=K) rfl (pv 1)) (λ_ _ _=>⟨(bV (K:=K) (n:=2) rfl rfl (dW (pn 0 'g') (dW (pn 1 'g') bX))),cu,(tx K (bx 'h' (tx K (dj (bN hr) (pv 2) (pv 0) (λ_ _=>rfl))) (pv 1) (λ_ _=>rfl)))⟩)) (by rfl) T.GI)))),?_⟩;walk_at "rd";refine⟨ps,hP,hn,λd H1 s1 hd _=>?_⟩;have sh:i9 H1 ps:=⟨λp hp=>(hS.at_ p hp).mono s1,hS.nd,hS.st⟩
  refine cY.of (xs:=qs.map λq=>V.ref q.1) (by rw[sizeLine_eq,aD];omega) (aH.of (s1 _ _ hK.1)) (λD i ys H'=>aI H1 H'/\H' D=some (.lst ys)/\∃ss:List aM,ys=(ss.map aM.step).map V.int/\(qs.take i).map (λq=>eG ps q.2)=ss.map some) (λD hD=>⟨aR hD,aJ,[],rfl,rfl⟩) ?_ ?_ ?_
  ·rintro D i ys H' hD hi ⟨s2,hDD,ss,rfl,e⟩;have hl:=congrArg List.length e;walk_at "9";exact⟨aH.of (s2 _ _ (s1 _ _ hK.1)),hDD,by rw[aD,aD];lia⟩
  ·rintro D i x ys H' hD hx ⟨s2,hDD,ss,rfl,e⟩;walk_at "0";obtain⟨q,hq,rfl⟩:=eZ.mp hx;have hm:=dI hq;have qa:=s2 _ _ (s1 _ _ (hK.2 q hm));obtain⟨pc,st,es,hpc,hst,g1,g2,g3,g4,sa⟩:=zC hd sh (hin q hm);have dg:bR H' d (V.str q.2.1) (some pc.v):=by
    have:=bR.k (k:=(.inr q.2.1:Key)) (s2 _ _ hd);rw[g1]at this;exact this
   have sa:=sa.mono s2;walk_at "rd";refine⟨_,bg.of qa,rfl,_,_,rfl,_,_,rfl,rfl,.no (.no (.yes .nil)),_,dg,_,rfl,_,bg.of (s2 _ _ g2),_,rfl,_,rfl,_,_,rfl,aH.of (s2 _ _ g3),_,g4,_,rfl,_,bg.of sa.top,_,rfl,hDD,e_ hD s2,aJ,ss++[st],by simp,?_⟩;rw[ix,hq,bu,bu,e];exact congrArg (λz=>ss.map some++[z]) es
  ·rintro D ys H' hD ⟨s2,hDD,ss,rfl,e⟩;walk_at "3";walk_at "rd";exact⟨ss.map aM.step,aH.of hDD,λm hg=>k m H' 'S' ⟨ss,by rw[cC];exact e,hg⟩⟩
theorem Cu{ms:List ay}{ns:List aw}{pn z:Str}(e:ms.map (λm=>(m.name,m.a,m.b,m.c))=ns.map (λn=>(n.name,pn,n.st,n.off))):(aL ms z).map (λm=>(m.a,m.b,m.c))=(ns.find? λn=>decide (n.name=z)).map λn=>(pn,n.st,n.off):=by
 have h1:(aL ms z).map (λm=>(m.a,m.b,m.c))=((ms.map (λm=>(m.name,m.a,m.b,m.c))).find? λt=>decide (t.1=z)).map (·.2):=by
  unfold aL;rw[KO,MS];rfl
 have h2:((ns.find? λn=>decide (n.name=z)).map λn=>(pn,n.st,n.off))=((ns.map (λn=>(n.name,pn,n.st,n.off))).find? λt=>decide (t.1=z)).map (·.2):=by
  rw[KO,MS];rfl
 rw[h1,h2,e]
theorem QH(e:mo.map (λm=>(m.name,m.a,m.b,m.c))=(p.aS.filter λn=>decide (n.sort=s!"own")).map (λn=>(n.name,p.name,n.st,n.off))):
  bE p mn f=((aL mo f.name).or (aL mn f.name)).map λm=>(m.a,m.b,m.c):=by
 have h:=Cu (z:=f.name) e;rw[List.find?_filter]at h;have h':(p.aS.find? λa=>decide (decide (a.sort=s!"own")=true/\decide (a.name=f.name)=true))=p.aS.find? λn=>decide (n.name=f.name)&&decide (n.sort=dM):=by
  congr 1;funext n;unfold dM;by_cases a:n.sort=s!"own" <;> by_cases b:n.name=f.name<;>simp[a,b]
 unfold bE;rw[h']at h;cases q:p.aS.find? λn=>decide (n.name=f.name)&&decide (n.sort=dM) with
 |none=>
  rw[q]at h;have:aL mo f.name=none:=by simpa using h
  rw[this];rfl
 |some n=>
  rw[q]at h;cases q2:aL mo f.name with
  |none=>rw[q2]at h;cases h
  |some m=>rw[q2]at h;simpa using h.symm
theorem RV(T:Txt K mg A):aY P w K mg base cF 3 A.WK A.EI ["piece_name", "own", "names", "fill"] Ca:=by
 refine T.EY.ok l_ ?_ ?_;walk_at "k"
 obtain⟨pn,dO,dN,f,mo,mn,rfl,hf,hO,hN,k1,k2⟩:=h;refine⟨_,(aU (pS 4 l_.nd (tx K (pv 3))) (aU (pS 5 l_.nd (tx K (pv 3))) (aU (pS 6 l_.nd (tx K (pv 3))) (aU (pS 7 l_.nd (Dv (bN hr) (pv 1) (pv 4) (Gj (bN hr) (pv 2) (pv 4) ⟨rfl,rfl,rfl,rfl⟩) ⟨rfl,rfl,rfl,rfl⟩)) (aU (bC (cJ KA (pv 7) y_ (aV _)) (bo (aG (a_ (ao (tx K (pv 7)) (ao (tx K (pv 7)) (ao (az cG (tx K (pv 7)) (pv 5)) aa)))))) cW) (aU (bC (jR (pv 6)) (bo (aG (bO (F7 T) 'a' rfl T.FC T.mC.kp T.mC.b .nil aq (ao (pv 5) aa)))) cW) (bo dt))))))),?_⟩;walk_at "rd";have gO:bR H dO (V.str f.name) ((aL mo f.name).map λm=>V.ref m.t):=by rw[<-DX];exact bR.k (k:=Sum.inr f.name) hO.top
 have gN:bR H dN (V.str f.name) ((aL mn f.name).map λm=>V.ref m.t):=by rw[<-DX];exact bR.k (k:=Sum.inr f.name) hN.top
 refine⟨_,bg.of hf,_,rfl,_,bg.of hf,_,rfl,_,bg.of hf,_,rfl,.inl ⟨_,.inl hO.top⟩,.inl ⟨_,.inl hN.top⟩,_,gN,_,gO,?_⟩;cases q1:aL mo f.name with
 |some m=>
  rw[q1]at k1 k2;have hm:=hO.at_ m (wF q1);simp only[Option.map_some,Option.getD_some];rw[if_pos (by simp)];exact⟨m.t,rfl,_,bg.of hm,_,rfl,m.t,rfl,_,bg.of hm,_,rfl,m.t,rfl,_,bg.of hm,_,rfl,m.c,rfl,f.add,rfl,by walk_at "s", λq hq=>k1 m rfl q hq⟩
 |none=>
  rw[q1]at k1 k2;cases q2:aL mn f.name with
  |some m=>
   rw[q2]at k1 k2;have hm:=hN.at_ m (wF q2);simp only[Option.map_some,Option.getD_some,Option.map_none,Option.getD_none];rw[if_pos (by simp)];exact⟨m.t,rfl,_,bg.of hm,_,rfl,m.t,rfl,_,bg.of hm,_,rfl,m.t,rfl,_,bg.of hm,_,rfl,m.c,rfl,f.add,rfl,by walk_at "s", λq hq=>k1 m rfl q hq⟩
  |none=>
   rw[q2]at k1 k2;simp only[Option.map_none,Option.getD_none];rw[if_neg (by simp)];obtain⟨hs,k⟩:=k2 rfl;exact⟨f.soft,rfl,cH (λ_=>⟨f.add,rfl,k⟩) (λz=>absurd hs z)⟩
theorem FY(T:Txt K mg A):aY P w K mg base cF 4 A.zT A.Aj ["piece", "names", "fills"] C9:=by
 refine T.lK.ok Ax ?_ ?_;walk_at "k"
 obtain⟨p,dN,l,fs,mn,rfl,hp,hf,hd,hN,hl,hn,hfs,k⟩:=h;refine⟨_,(aU (pS 3 Ax.nd (bO (AK T) 'a' rfl T.Bd T.jj.kp T.jj.b .nil aq (ao (pv 0) (ao a5 aa)))) (bo (aG (cI (iE (own:=["fill"]) (fr:=["own", "names", "piece"]) (fm:=[3,1,0]) rfl 'e' 'e' 'e' (.cons rfl 'z' rfl (.cons rfl 'z' rfl (.cons rfl 'z' rfl .nil)))) rfl (cN (K:=K) rfl (pv 2)) (λ_ _ _=>⟨(pn 0 'g'),cu,(bO (RV T) 'a' rfl T.Uh T.EY.kp T.EY.b .nil aq (ao (tx K (pv 3)) (ao (pv 1) (ao (pv 2) (ao (pv 0) aa)))))⟩))))),?_⟩;walk_at "rd";refine⟨p,rfl,hp,hf,hd,λd mo H1 s1 tab e nd=>?_⟩;have er:∀f,bE p mn f=((aL mo f.name).or (aL mn f.name)).map λm=>(m.a,m.b,m.c):=λf=>QH (mn:=mn) (f:=f) e;refine cY.of (xs:=fs.map aB.v) 'j' (aH.of (s1 _ _ hl)) (λD i ys H2=>aI H1 H2/\H2 D=some (.lst ys)/\ys.length=i/\∀(j:Nat) f v,fs[j]?=some f->ys[j]?=some v->K_ H2 p mn f v)
  (λD hD=>⟨aR hD,aJ,rfl,λj f v _ h=>by cases h⟩) ?_ ?_ ?_
 ·rintro D i ys H2 hD hi ⟨s2,hDD,hl2,_⟩;exact⟨aH.of (s2 _ _ (s1 _ _ hl)),hDD,by lia⟩
 ·rintro D i x ys H2 hD hx ⟨s2,hDD,hl2,ha⟩;walk_at "0";obtain⟨f,hfi,rfl⟩:=eZ.mp hx;obtain⟨fa,fr⟩:=hfs f (dI hfi);have s12:=s1.trans s2;have step:∀(v:V) (H3:Hp),(∀b o,b≠D->H2 b=some o->H3 b=some o)->K_ H3 p mn f v->∀(j:Nat) f' v',fs[j]?=some f'->(ys++[v])[j]?=some v'->K_ H3 p mn f' v':=λv H3 kp av j f' v' h1 h2=>by
   by_cases hj:j<ys.length
   ·rw[Pb hj]at h2;rcases ha j f' v' h1 h2 with ⟨a,b,c,q,r1,r2,r3⟩|z
    ·exact .inl ⟨a,b,c,q,r1,r2,kp q _ (cj r3 hDD 'k') r3⟩
    ·exact .inr z
   ·have hj2:j=ys.length:=by
     have:=(gZ.mp h2).1;rw[dv]at this;simp at this;lia
    subst hj2;rw[Rg (bS _),Nat.sub_self]at h2;cases h2;rw[hl2,hfi]at h1;cases h1;exact av
  walk_at "rd";refine⟨.no (.yes (.yes (.yes .nil))),_,bg.of (s12 _ _ hp.top),_,rfl,p.name,rfl,f,rfl,s12 _ _ fa,mo,tab.mono s2,mn,(hN.mono s1).mono s2,λm hm q hq=>?_,λhm=>?_⟩
  ·have hqD:D≠q:=bA hDD hq;refine⟨by rw[ae hqD];exact hDD,e_ hD (s2.trans (aR hq)),aJ,by rw[dv,hl2];rfl,step _ _ (λb o nb e=>?_) (.inl ⟨m.a,m.b,m.c,q,by rw[er,hm];rfl,rfl,by rw[ae (Ne.symm hqD),aJ]⟩)⟩;rw[ae nb,ae (bA e hq)];exact e
  ·have rn:bE p mn f=none:=by rw[er,hm];rfl
   exact⟨fr rn,hDD,e_ hD s2,aJ,by rw[dv,hl2];rfl,step _ _ (λb o nb e=>by rw[ae nb];exact e) (.inr ⟨rn,rfl⟩)⟩
 ·rintro D ys H2 hD ⟨s2,hDD,hl2,ha⟩;rw[aD]at hl2;exact k D ys H2 'S' hDD hl2 ha (bW s1 hD)
theorem RJ(T:Txt K mg A):aY P w K mg base cF 5 A.Y1 A.Hv ["piece", "number", "names"] Md:=by
 refine T.HD.ok yO ?_ ?_;walk_at "k"
 obtain⟨p,n,dN,mn,st,rfl,hp,hf,hd,hN,h0,hst,hn,hr1,k⟩:=h;refine⟨_,(aU (pS 3 yO.nd (tx K (bx 'h' 'B' (pv 1) (λ_ _=>rfl)))) (aU (pS 4 yO.nd (bO (FY T) 'a' rfl T.JZ T.lK.kp T.lK.b .nil aq (ao (pv 0) (ao (pv 2) 'D')))) (bo (aG (cI (iP ["fill", "place"]) rfl (Fm rfl T.Oj (ao (pv 3) (ao (pv 4) aa))) (λ_ _ _=>⟨(bV (K:=K) (n:=2) rfl rfl (dW (pn 0 'g') (dW (pn 1 'g') bX))),(iY (Ek (jR (fX (m7 (K:=K) rfl) (by rfl) T.jg iy (ao (pv 1) (ao (AQ rfl T.wL lG UW) aa)))))),(a_ (ao (a_ (ao (tx K (pv 1)) (ao (tx K (pv 1)) aa))) (ao 'B' aa)))⟩)))))),?_⟩;have en:n=((n.toNat:Nat):Int):=by lia
 have hs:=hp.ss st (dI hst);have ei:hW (p.aO.map aM.v) n=some st.v:=by rw[en];exact cw (by rw[gU,hst];rfl)
 walk_at "rd";refine⟨_,bg.of hp.top,_,rfl,_,rfl,_,aH.of hp.sl,_,ei,_,rfl,_,bg.of hs.top,_,rfl,?_⟩;refine⟨p,rfl,st.lf,rfl,hp,hf,hd,st.fills,mn,hN,hs.fl,hn,λf hm=>⟨hs.fs f hm,hr1 f hm⟩,λl' ys H1 s1 hl' hlen hav nl=>?_⟩;refine Bt.of (xs:=st.fills.map aB.v) (ys:=ys) 'j' (by rw[aD];exact hlen) (aH.of (s1 _ _ hs.fl)) (aH.of hl') (λD i zs H2=>aI H1 H2/\H2 D=some (.lst zs)/\∃ws:List L7,zs=ws.map (λw=>V.ref w.t)/\(∀w∈ws,w.At H2)/\ws.map (λw=>(w.a,w.b,w.at_))=keysOf p mn (st.fills.take i))
  (λD hD=>⟨aR hD,aJ,[],rfl,λw h=>(nomatch h),rfl⟩) ?_ ?_ ?_
 ·rintro D i zs H2 hD hi ⟨s2,hDD,ws,rfl,hw,e⟩;refine⟨aH.of (s2 _ _ (s1 _ _ hs.fl)),aH.of (s2 _ _ hl'),hDD,?_⟩;have h1:=congrArg List.length e;have h2:(keysOf p mn (st.fills.take i)).length<=(st.fills.take i).length:=List.length_filterMap_le _ _;rw[aD]at h1;rw[aD];rw[jM]at h2;lia
 ·rintro D i x y zs H2 q hD hx hy ⟨s2,hDD,ws,rfl,hw,e⟩ hq;walk_at "0";obtain⟨f,hfi,rfl⟩:=eZ.mp hx;have fa:=(hs.fs f (dI hfi)).mono 'S';have av:=hav i f y hfi hy;have ek:keysOf p mn (st.fills.take (i+1))=keysOf p mn (st.fills.take i)++keysOf p mn [f]:=by unfold keysOf;rw[List.take_succ,hfi,List.filterMap_append];rfl
  walk_at "rd";have sq:=aR (o:=HO.tup [f.v,y]) hq;have hDq:=sq _ _ hDD;refine⟨_,bg.of aJ,rfl,_,_,rfl,_,_,rfl,rfl,.no (.no .nil),?_⟩;rcases av with ⟨a,b,c,r,r1,rfl,r3⟩|⟨r1,rfl⟩
  ·have hr2:=sq _ _ (s2 _ _ r3);have fq:=sq _ _ fa;generalize upd H2 q (HO.tup [f.v,V.ref r])=H3 at *;refine⟨_,.tup hr2,false,rfl,?_⟩;rw[if_pos (by simp)];refine⟨r,rfl,_,bg.of hr2,_,rfl,r,rfl,_,bg.of hr2,_,rfl,by walk_at "s", λt ht=>?_⟩;have s3:=aR (o:=HO.tup [V.str a,V.int b]) ht;have ht3:upd H3 t (HO.tup [V.str a,V.int b]) t=some (HO.tup [V.str a,V.int b]):=aJ;generalize upd H3 t (HO.tup [V.str a,V.int b])=H4 at *;refine⟨f.a,rfl,_,bg.of (s3 _ _ fq),_,rfl,by walk_at "s", λt2 ht2=>?_⟩;have s4:=aR (o:=HO.tup [V.ref t,V.int f.at_]) ht2;have ht4:upd H4 t2 (HO.tup [V.ref t,V.int f.at_]) t2=some (HO.tup [V.ref t,V.int f.at_]):=aJ;generalize upd H4 t2 (HO.tup [V.ref t,V.int f.at_])=H5 at *;have s25:=sq.trans (s3.trans s4);have hD5:=s25 _ _ hDD;have up:∀{b:Addr}{xs:List V}{zs:List V},H5 b=some (.tup xs)->upd H5 D (.lst zs) b=some (.tup xs):=λ{b xs zs} h=>by rw[ae (cj h hD5 'k')];exact h
   refine⟨hD5,e_ hD (s2.trans s25),aJ,ws++[⟨t2,t,a,b,f.at_⟩],by simp,λw h=>?_,?_⟩
   ·rcases bM.mp h with z|z
    ·exact⟨up (s25 _ _ (hw w z).1),up (s25 _ _ (hw w z).2)⟩
    ·rw[cx.mp z];exact⟨up ht4,up (s4 _ _ ht3)⟩
   ·rw[bu,e,ek];congr 1;simp[keysOf,r1]
  ·refine⟨_,.int _,true,rfl,?_⟩;rw[if_neg (by simp)];refine⟨s2.trans sq,hDq,ws,rfl,λw h=>⟨sq _ _ (hw w h).1,sq _ _ (hw w h).2⟩,?_⟩;rw[ek,e];simp[keysOf,r1]
 ·rintro D zs H2 hD ⟨s2,hDD,ws,rfl,hw,e⟩;walk_at "3";exact k D ws H2 'S' hDD hw e (bW s1 hD)
theorem fb{α:Type} [DecidableEq α]:∀{l m:List α},l.Nodup->(∀x∈l,x∈m)->l.length<=m.length
 |[],_,_,_=>d_ _
 |x::l,m,nd,h=>by
  obtain⟨n1,n2⟩:=mH.mp nd;have hx:=h x (by simp);have ih:=fb (m:=m.erase x) n2 λy hy=>(List.mem_erase_of_ne (λe:y=x=>n1 (by rw[<-e];exact hy))).mpr (h y (by simp[hy]));have e:=List.length_erase_of_mem hx;have:=List.length_pos_of_mem hx;rw[md];lia
theorem eR(h:k∈aA ps):∃p∈ps,p.name=k.1/\∃i:Nat,k.2=i/\i<p.aO.length:=by
 obtain⟨p,hp,h⟩:=jE.mp h;obtain⟨i,hi,rfl⟩:=aQ.mp h;exact⟨p,hp,rfl,i,rfl,qV.mp hi⟩
def kk(k:K2):List Key:=[.inr k.1,.inl k.2]
theorem QG(h:kk a=kk b):a=b:=by
 unfold kk at h;injection h with h1 h2;injection h2 with h2 _;exact Prod.ext (Sum.inr.inj h1) (Sum.inl.inj h2)
def Seen(H:Hp)(sd:Addr)(ws:List Wy):Prop:=∃ag,H sd=some (.dT ag)/\ag.map (·.1)=ws.map λw=>kk w.key
theorem yj:∀{ag:List 'i'}{ws:List Wy}(k:K2),ag.map (·.1)=ws.map (λw=>kk w.key)->(br ag (kk k)).isSome=yM ws k
 |[],[],_,_=>rfl
 |[],_::_,_,h=>by simp at h
 |_::_,[],_,h=>by simp at h
 |x::ag,w::ws,k,h=>by
  rw[iZ,iZ]at h;injection h with h1 h2;have ih:=yj k h2;unfold br yM at *;by_cases e:w.key=k
  ·rw[List.find?_cons_of_pos (by rw[h1,e];simp)];simp[e]
  ·rw[List.find?_cons_of_neg (by rw[h1];intro z;exact e (QG (of_decide_eq_true z)))];rw[ih];simp[e]
theorem Lc{ag:List 'i'}{k:List Key}{v:V}(h:br ag k=none):putK ag k v=ag++[(k,v)]:=by
 unfold putK;rw[if_neg];intro z;obtain⟨x,hx,e⟩:=nj.mp z;unfold br at h;have:=Option.map_eq_none_iff.mp h;exact(C3.mp this x hx) e
def Kp(l d:Addr)(H H':Hp):Prop:=∀b o,b≠l->b≠d->H b=some o->H' b=some o
theorem Kp.tup{l d:Addr}{H H':Hp}(h:Kp l d H H'){ys:List V}{ag:List 'i'}(hl:H l=some (.lst ys))(hd:H d=some (.dT ag)){b:Addr}{xs:List V}(e:H b=some (.tup xs)):H' b=some (.tup xs):=
 h b _ (cj e hl 'k') (cj e hd 'k') e
theorem Ew.At.by{H H':Hp}{r:Ew}(h:r.At H)(e:∀b xs,H b=some (HO.tup xs)->H' b=some (HO.tup xs)):r.At H':=
 ⟨e _ _ h.k,λn=>e _ _ (h.n n),λy a q=>⟨e _ _ (h.s y a q).1,e _ _ (h.s y a q).2⟩⟩
structure CZ(ps:List ah)(ws:List Wy):Prop where
 nd:(ws.map Wy.key).Nodup
 NT:∀w∈ws,w.key∈aA ps
theorem CZ.len{ps:List ah}{ws:List Wy}(h:CZ ps ws):ws.length<=(aA ps).length:=by
 have:=fb h.nd (m:=aA ps) λx hx=>by
  obtain⟨w,hw,rfl⟩:=aQ.mp hx;exact h.NT w hw
 rwa [aD]at this
theorem xN:yM ws k=true↔k∈ws.map Wy.key:=by
 unfold yM;rw[nj,aQ];constructor
 ·rintro⟨w,h1,h2⟩;exact⟨w,h1,of_decide_eq_true h2⟩
 ·rintro⟨w,h1,h2⟩;exact⟨w,h1,decide_eq_true h2⟩
theorem CZ.add(h:CZ ps ws)(ht:t.1∈aA ps):CZ ps (eC b ws t):=by
 unfold eC;split
 ·exact h
 ·next z=>
  have z':t.1∉ws.map Wy.key:=λq=>z (xN.mpr q);refine⟨?_,λw hw=>?_⟩
  ·rw[bu,gX];exact⟨h.nd,by simp,λa ha c hc e=>by simp at hc;rw[e,hc]at ha;exact z' ha⟩
  ·rcases bM.mp hw with q|q
   ·exact h.NT w q
   ·rw[cx.mp q];exact ht
theorem Fn(b:K2)(ws:List Wy)(t:K2×Int):ws.length<=(eC b ws t).length:=by
 unfold eC;split
 ·exact bS _
 ·rw[dv];lia
theorem nv(b:K2):∀(l:List (K2×Int)) (ws:List Wy),ws.length<=(l.foldl (eC b) ws).length
 |[],_=>bS _
 |t::l,ws=>ia (Fn b ws t) (nv b l _)
theorem CS(ps:List ah)(mn:List ay)(ws:List Wy)(k:K2):ws.length<=(gH ps mn ws k).length:=nv _ _ _
structure RI(H1:Hp)(lw sd:Addr)(ps:List ah)(ws:List Wy)(Hc:Hp)(rows:List Ew):Prop where
 kp:Kp lw sd H1 Hc
 top:Hc lw=some (.lst (rows.map λr=>V.ref r.t))
 at_:∀r∈rows,r.At Hc
 seen:Seen Hc sd ws
 we:rows.map Ew.w=ws
 ok:CZ ps ws
theorem kM{ps:List ah}{mn:List ay}{p:ah}{st:aM}{a:Str}{b:Int}(nd:'r'.Nodup)(hp:p∈ps)(ha:p.name=a)(hs:p.aO[b.toNat]?=some st):bL ps mn (a,b)=(keysOf p mn st.fills).map λt=>((t.1,t.2.1),t.2.2):=by
 unfold bL;rw[<-ha,jw nd hp];simp only[hs]
theorem Uo(T:Txt K mg A):aY P w K mg base cF 6 A.Wz A.JH ["pieces", "names", "root"] Qr:=by
 refine T.JF.ok eX ?_ ?_;walk_at "k"
 obtain⟨L,dN,R,ps,mn,r,rfl,hR,hrm,pre,k⟩:=h;refine⟨_,(aU (pS 3 eX.nd (bO (A8 T) 'a' rfl T.Bi T.jr.kp T.jr.b .nil aq (ao (pv 0) aa))) (aU (pS 4 eX.nd (a_ (ao (tx K (pv 2)) (ao (tx K (pv 2)) aa)))) (aU (pS 5 eX.nd (aW (ao (a_ (ao (pv 4) (ao y_ (ao y_ aa)))) aa))) (aU (pS 6 eX.nd (De (bN hr) (pv 4) fU)) (aU (pS 7 eX.nd af) (aU (yp PassesOwn.never (cJ kr (pv 7) (fX (b_ (K:=K) rfl) (by rfl) T.gm eg (ao (pv 5) aa)) (aV _)) (aU (pS 8 eX.nd (tx K (bx 'h' (pv 5) (pv 7) (λ_ _=>rfl)))) (aU (pF (cN (K:=K) rfl (bO (RJ T) 'a' rfl T.Ul T.HD.kp T.HD.b .nil aq (ao (dj (bN hr) (pv 3) (tx K (pv 8)) (λ_ _=>rfl)) (ao (tx K (pv 8)) 'E')))) (bV (K:=K) (n:=2) rfl rfl (dW (pn 9 eX.nd) (dW (pn 10 eX.nd) bX))) (bo (bC (iD (g0 (bN hr) (pv 9) (pv 6))) (aU (gR (bN hr) (pv 6) (pv 9) fU rfl) (bo (c8 (cq (pv 5) (ao (a_ (ao (pv 9) (ao (pv 8) (ao (pv 10) aa)))) aa))))) cW))) (bo (Hw (i:=7) eX.nd rfl 'z' af DH))))) (bo (aG (pv 5))))))))),?_⟩;walk_at "rd"
 refine⟨ps,pre.K4,pre.bQ,λd Hb sb hd hdn=>⟨_,bg.of (sb _ _ hR),_,rfl,_,bg.of (sb _ _ hR),_,rfl,by walk_at "s", λp0 n0=>⟨by rw[sizeLine_eq];decide,λp1 n1=>⟨by rw[sizeLine_eq];decide,λlw n2 sd n3=>⟨aJ,kk r,?_,?_⟩⟩⟩⟩⟩
 ·rw[ae (bA (by rw[ae (bA (by rw[ae (bA aJ n1)];exact aJ) n2),ae (bA aJ n1)];exact aJ) n3),ae (bA (by rw[ae (bA aJ n1)];exact aJ) n2),ae (bA aJ n1)];exact aJ
 ·have s1:=aR (o:=HO.tup [V.str r.1,V.int r.2]) n0;have e1:upd Hb p0 (HO.tup [V.str r.1,V.int r.2]) p0=some (HO.tup (kT r)):=aJ;generalize upd Hb p0 (HO.tup [V.str r.1,V.int r.2])=Ha at *;have s2:=aR (o:=HO.tup [V.ref p0,V.bB,V.bB]) n1;have e2:upd Ha p1 (HO.tup [V.ref p0,V.bB,V.bB]) p1=some (HO.tup [V.ref p0,V.bB,V.bB]):=aJ;generalize upd Ha p1 (HO.tup [V.ref p0,V.bB,V.bB])=Hd at *;have lwn:=bW 'S' n2;have s3:=aR (o:=HO.lst [V.ref p1]) n2;have e3:upd Hd lw (HO.lst [V.ref p1]) lw=some (HO.lst [V.ref p1]):=aJ;generalize upd Hd lw (HO.lst [V.ref p1])=He at *;have sdn:=bW ('S'.trans s3) n3;rw[kW];have s4:=aR (o:=HO.dT [(kk r,V.bl true)]) n3;have e4:upd He sd (HO.dT [(kk r,V.bl true)]) sd=some (HO.dT [(kk r,V.bl true)]):=aJ;generalize upd He sd (HO.dT [(kk r,V.bl true)])=Hf at *;have base:∀{Hc:Hp},Kp lw sd Hb Hc->aI Hb Hc:=λkp b o e=>kp b o (bA e lwn) (bA e sdn) e;refine⟨λm σ Hc=>∃(dn:Nat) (rows:List Ew) (b8 b9 b10:Option V) (ws:List Wy),σ=[some (V.ref L),some (V.ref dN),some (V.ref R),some (V.ref d),some (V.ref p0),some (V.ref lw),some (V.ref sd),some (V.int dn),b8,b9,b10]/\RI Hb lw sd ps ws Hc rows/\m+dn=(aA ps).length+1/\dn<=ws.length/\reachF ps mn m dn ws=bc ps mn r,⟨(aA ps).length+1,0,[⟨p1,p0,p0,⟨r,none⟩⟩],_,_,_,[⟨r,none⟩],rfl,?_,rfl,d_ _,rfl⟩,?_⟩
  ·refine⟨λb o _ _ e=>s4 _ _ (s3 _ _ (s2 _ _ (s1 _ _ e))),s4 _ _ e3,λx hx=>?_,⟨_,e4,rfl⟩,rfl,⟨by simp,λw hw=>?_⟩⟩
   ·rw[cx.mp hx];exact⟨s4 _ _ (s3 _ _ (s2 _ _ e1)),λ_=>s4 _ _ (s3 _ _ e2),λy a q=>by cases q⟩
   ·rw[cx.mp hw];exact hrm
  ·rintro m σ Hc ⟨dn,rows,b8,b9,b10,ws,rfl,ri,hm,hdn2,hreach⟩;have lw_len:rows.length=ws.length:=by rw[<-ri.we,aD]
   have wl:=ri.ok.len;walk_at "rd";refine⟨rows.length,.inl ⟨_,aH.of ri.top,by rw[aD]⟩,cH (λhlt=>?_) (λhge=>?_)⟩
   ·have hlt:dn<rows.length:=by have:=of_decide_eq_true hlt;lia
    obtain⟨m',rfl⟩:∃m',m=m'+1:=⟨m - 1,by lia⟩
    have hrow:rows[dn]?=some rows[dn]:=h9 hlt;have hmem:rows[dn]∈rows:=wR hlt;generalize rows[dn]=row at hrow hmem;have ra:=ri.at_ row hmem;have hw:ws[dn]?=some row.w:=by rw[<-ri.we,gU,hrow];rfl
    have hk:row.w.key∈aA ps:=ri.ok.NT _ (dI hw);obtain⟨p,hp,hpn,j,hj,hjl⟩:=eR hk;have sc:=base ri.kp;have pa:=(pre.K4.at_ p hp).mono (sb.trans sc);have hst:p.aO[j]?=some p.aO[j]:=h9 hjl;have hsm:p.aO[j]∈p.aO:=wR hjl;generalize p.aO[j]=st at hst hsm;obtain⟨fl1,fl2⟩:=pre.Y3 p hp st hsm;have hst':p.aO[(row.w.key.2).toNat]?=some st:=by rw[hj];exact hst
    have ea:=kM (mn:=mn) pre.nd hp hpn hst';obtain⟨ys,hys⟩:∃ys,Hc row.t=some (.tup (V.ref row.k::ys)):=by
     cases q:row.w.V5 with
     |none=>exact⟨_,ra.n q⟩
     |some z=>exact⟨_,(ra.s z.1 z.2 q).1⟩
    refine⟨λσ' H'=>∃(dn:Nat) (rows:List Ew) (b8 b9 b10:Option V),σ'=[some (V.ref L),some (V.ref dN),some (V.ref R),some (V.ref d),some (V.ref p0),some (V.ref lw),some (V.ref sd),some (V.int dn),b8,b9,b10]/\∃ws,RI Hb lw sd ps ws H' rows/\m'+dn=(aA ps).length+1/\dn<=ws.length/\reachF ps mn m' dn ws=bc ps mn r,λσ' H' z=>⟨m',Jz _,z⟩,?_⟩;refine⟨_,aH.of ri.top,_,cw (by rw[gU,hrow];rfl),_,rfl,_,bg.of hys,_,(show hW (V.ref row.k::ys) ((0:Nat):Int)=_ from cw rfl),_,rfl,_,bg.of ra.k,_,rfl,p.v,?_,_,rfl,_,bg.of ra.k,_,rfl,p,rfl,_,rfl,pa,(pre.aS p hp).1,(pre.aS p hp).2,mn,(pre.tab.mono sb).mono sc,by lia,st,hst',fl1,λf hf=>(fl2 f hf).1,λl' vs H1 s1 hl' hvs ev nl=>?_⟩
    ·have:=bR.k (k:=Sum.inr p.name) (sc _ _ hd);rw[jO pre.nd hp,hpn]at this;exact this
    ·have eaims:bL ps mn row.w.key=vs.map λv=>((v.a,v.b),v.at_):=by
      have e:row.w.key=(row.w.key.1,row.w.key.2):=rfl;rw[e,ea,<-ev,cC];rfl
     have valid:∀v∈vs,(v.a,v.b)∈aA ps:=λv hv=>by
      have:(v.a,v.b,v.at_)∈keysOf p mn st.fills:=by rw[<-ev];exact aQ.mpr ⟨v,hv,rfl⟩
      obtain⟨f,hf,e⟩:=NU.mp this;cases q:bE p mn f with
      |none=>rw[q]at e;cases e
      |some z=>
       rw[q]at e;have e1:=Option.some.inj e;have e2:(z.1,z.2.1)=(v.a,v.b):=by rw[<-(Prod.mk.inj e1).1,<-(Prod.mk.inj (Prod.mk.inj e1).2).1]
       rw[<-e2];exact(fl2 f hf).2 z q
     have top1:=s1 _ _ ri.top;obtain⟨kvs0,sd0,ek0⟩:=ri.seen;have sd1:=s1 _ _ sd0;refine fH.of (xs:=vs.map λv=>V.ref v.t) (λi σ H'=>∃(rows':List Ew) (b9 b10:Option V),σ=[some (V.ref L),some (V.ref dN),some (V.ref R),some (V.ref d),some (V.ref p0),some (V.ref lw),some (V.ref sd),some (V.int dn),some (V.ref row.k),b9,b10]/\RI H1 lw sd ps ((vs.take i).foldl (λacc v=>eC row.w.key acc ((v.a,v.b),v.at_)) ws) H' rows')
      ⟨rows,_,_,rfl,⟨λ_ _ _ _ e=>e,top1,λx hx=>(ri.at_ x hx).by λb xs e=>s1 _ _ e,⟨_,sd1,ek0⟩,ri.we,ri.ok⟩⟩ (λi σ H' _ ⟨rows',_,_,_,r2⟩=>aH.of (r2.kp _ _ (λe=>by have z:=ri.top;rw[<-e,nl]at z;cases z) (λe=>by rw[e]at nl;rw[nl]at sd0;cases sd0) hl')) ?_ ?_
     ·rintro i x σ H' hx ⟨rows',b9',b10',rfl,r2⟩;walk_at "0";obtain⟨v,hv,rfl⟩:=eZ.mp hx;have va:=hvs v (dI hv);have tk:(vs.take (i+1))=vs.take i++[v]:=by rw[ix,hv];rfl
      have vt:=r2.kp.tup top1 sd1 va.1;have vk:=r2.kp.tup top1 sd1 va.2;rw[tk,OD];generalize (vs.take i).foldl (λacc v=>eC row.w.key acc ((v.a,v.b),v.at_)) ws=acc at *;obtain⟨ag,hsd,ek⟩:=r2.seen;have hh:=yj (v.a,v.b) ek;have rk:=r2.kp.tup top1 sd1 (s1 _ _ ra.k);have hsl:sd≠lw:=cj hsd r2.top 'k';have hal:=r2.ok.len;have hkl:ag.length=acc.length:=by have:=congrArg List.length ek;rwa [aD,aD]at this
      walk_at "rd";refine⟨_,bg.of vt,rfl,_,_,rfl,_,_,rfl,rfl,_,bR.t (k:=kk (v.a,v.b)) hsd vk,cH (λhno=>?_) (λhyes=>?_)⟩
      ·have hn:br ag (kk (v.a,v.b))=none:=by
        cases q:br ag (kk (v.a,v.b)) with
        |none=>rfl
        |some z=>rw[q]at hno;cases hno
       have ha:yM acc (v.a,v.b)=false:=by rw[<-hh,hn];rfl
       have hadd:eC row.w.key acc ((v.a,v.b),v.at_)=acc++[⟨(v.a,v.b),some (row.w.key,v.at_)⟩]:=by unfold eC;rw[if_neg (by rw[ha];decide)]
       have okn:=r2.ok.add (b:=row.w.key) (t:=((v.a,v.b),v.at_)) (valid v (dI hv));rw[hadd]at okn;refine⟨_,iF.t (k:=kk (v.a,v.b)) hsd vk (by have:=pre.all;rw[hkl,sizeLine_eq];lia),.inl ⟨rfl,_,aH.of (by rw[ae (Ne.symm hsl)];exact r2.top)⟩,by walk_at "s", λq hq=>?_⟩;rw[Lc hn]at hq ⊢;obtain⟨qs,hq'⟩:q≠sd/\H' q=none:=by
        have n:q≠sd:=λe=>by rw[e,aJ]at hq;cases hq
        exact⟨n,by rw[ae n]at hq;exact hq⟩
       have hql:lw≠q:=bA r2.top hq';have tup:∀b xs,H' b=some (HO.tup xs)->upd (upd (upd H' sd (HO.dT (ag++[(kk (v.a,v.b),V.bl true)]))) q (HO.tup [V.ref v.k,V.ref row.k,V.int v.at_])) lw (HO.lst (rows'.map (λr=>V.ref r.t)++[V.ref q])) b=some (HO.tup xs):=λb xs e=>by
        rw[ae (cj e r2.top 'k'),ae (bA e hq'),ae (cj e hsd 'k')];exact e
       refine⟨rows'.map λr=>V.ref r.t,by rw[ae hql,ae (Ne.symm hsl)];exact r2.top,?_,rows'++[⟨q,v.k,row.k,⟨(v.a,v.b),some (row.w.key,v.at_)⟩⟩],?_⟩
       ·have:=pre.all;have:=congrArg List.length r2.we;rw[aD]at this;rw[aD,sizeLine_eq];lia
       ·rw[A3,List.foldl_nil,hadd];refine⟨λb o nl' nd' e=>?_,by rw[aJ,bu];rfl,λx hx=>?_,⟨ag++[(kk (v.a,v.b),V.bl true)],by rw[ae hsl,ae (Ne.symm qs),aJ],by rw[bu,bu,ek];rfl⟩,by rw[bu,r2.we];rfl,okn⟩
        ·have e':=r2.kp b o nl' nd' e;rw[ae nl',ae (bA e' hq'),ae nd'];exact e'
        ·rcases bM.mp hx with z|z
         ·exact(r2.at_ x z).by tup
         ·rw[cx.mp z];refine⟨tup _ _ vk,λz=>(nomatch z),λy a z=>?_⟩;cases z;exact⟨by rw[ae (Ne.symm hql),aJ],tup _ _ rk⟩
      ·have ha:yM acc (v.a,v.b)=true:=by
        rw[<-hh];cases q:(br ag (kk (v.a,v.b))).isSome with
        |true=>rfl
        |false=>rw[q]at hyes;exact absurd rfl hyes
       have hadd:eC row.w.key acc ((v.a,v.b),v.at_)=acc:=by unfold eC;rw[if_pos ha]
       rw[A3,List.foldl_nil,hadd];exact⟨rows',r2⟩
     ·rintro σ H' ⟨rows',b9',b10',rfl,r2⟩;rw[aD,kD]at r2;have et:vs.foldl (λacc v=>eC row.w.key acc ((v.a,v.b),v.at_)) ws=gH ps mn ws row.w.key:=by unfold gH;rw[eaims,List.foldl_map]
      rw[et]at r2;walk_at "rd";refine⟨dn+1,rfl,rows',_,⟨λb o nl' nd' e=>r2.kp b o nl' nd' (s1 _ _ (ri.kp b o nl' nd' e)),r2.top,r2.at_,r2.seen,r2.we,r2.ok⟩,by lia,?_,?_⟩
      ·have:=CS ps mn ws row.w.key;lia
      ·rw[<-hreach];show _=(match ws[dn]? with | none=>ws | some w=>reachF ps mn m' (dn+1) (gH ps mn ws w.key));rw[hw]
   ·have hge:¬dn<rows.length:=λz=>hge (decide_eq_true (by lia));have e:ws[dn]?=none:=List.getElem?_eq_none (by lia);have e2:reachF ps mn m dn ws=ws:=by
     cases m with
     |zero=>rfl
     |succ m=>show(match ws[dn]? with | none=>ws | some w=>_)=ws;rw[e]
    exact k lw rows Hc (sb.trans (base ri.kp)) ri.top ri.at_ (by rw[ri.we,<-hreach,e2]) (bW sb lwn)
theorem Bk(hN:Kn ps){r r':Str×aw}(hr:r∈c6 ps)(hr':r'∈c6 ps)(e1:r.1=r'.1)(e2:r.2.name=r'.2.name):r=r':=by
 obtain⟨p,hp,q1,q2⟩:=bJ.mp hr;obtain⟨p',hp',q3,q4⟩:=bJ.mp hr';have pe:p=p':=by
  obtain⟨i,hi,rfl⟩:=AN hp;obtain⟨j,hj,rfl⟩:=AN hp';have pw:=D6.mp hN.nd;have en:ps[i].name=ps[j].name:=by rw[q1,q3,e1]
  rcases Rt i j with z|z|z
  ·exact absurd (by rw[wC,wC];exact en) (pw i j (by simpa using hi) (by simpa using hj) z)
  ·subst z;rfl
  ·exact absurd (by rw[wC,wC];exact en.symm) (pw j i (by simpa using hj) (by simpa using hi) z)
 subst pe;have nn:=(hN.aS p hp).2;obtain⟨i,hi,h1⟩:=AN q2;obtain⟨j,hj,h2⟩:=AN q4;have pw:=D6.mp nn;have:r.2=r'.2:=by
  rcases Rt i j with z|z|z
  ·exact absurd (by rw[wC,wC,h1,h2];exact e2) (pw i j (by simpa using hi) (by simpa using hj) z)
  ·subst z;exact h1.symm.trans h2
  ·exact absurd (by rw[wC,wC,h1,h2];exact e2.symm) (pw j i (by simpa using hj) (by simpa using hi) z)
 exact Prod.ext e1 this
theorem Ip(hN:Kn ps){r r':Str×aw}(hr:r∈c6 ps)(hr':r'∈c6 ps)(s1:r.2.sort=bP)(s2:r'.2.sort=bP)(e2:r.2.name=r'.2.name):r=r':=by
 obtain⟨p,hp,q1,q2⟩:=bJ.mp hr;obtain⟨p',hp',q3,q4⟩:=bJ.mp hr';obtain⟨i,hi,rfl⟩:=AN hp;obtain⟨j,hj,rfl⟩:=AN hp';have pw:=D6.mp hN.tw;rcases Rt i j with z|z|z
 ·exact absurd e2 (pw i j hi hj z r.2 q2 r'.2 q4 s1 s2)
 ·subst z;exact Bk hN hr hr' (by rw[<-q1,<-q3]) e2
 ·exact absurd e2.symm (pw j i hj hi z r'.2 q4 r.2 q2 s2 s1)
theorem fW.one{ps:List ah}{ms ns:List ay}(hN:Kn ps)(h:fW (c6 ps) ms)(h':fW (c6 ps) ns){z:Str}{m n:ay}(hm:aL ms z=some m)(hn:aL ns z=some n):ay.vl m=ay.vl n:=by
 rcases h.OG z m hm with ⟨r,hr,a1,a2,a3⟩|⟨no,r,hr,a1,a2,a3,a4⟩<;>rcases h'.OG z n hn with ⟨r',hr',b1,b2,b3⟩|⟨no',r',hr',b1,b2,b3,b4⟩
 ·rw[a3,b3,Ip hN hr hr' a2 b2 (a1.trans b1.symm)]
 ·exact absurd a2 (no' r hr a1)
 ·exact absurd b2 (no r' hr' b1)
 ·have e:r.1=r'.1:=Al (List.le_antisymm (List.not_lt.mp (a4 r' hr' b1 b2)) (List.not_lt.mp (b4 r hr a1 a2)));rw[a3,b3,Bk hN hr hr' e (a1.trans b1.symm)]
theorem gI:z∈ms.map ay.name↔aL ms z≠none:=by
 constructor
 ·intro h e;obtain⟨m,hm,q⟩:=aQ.mp h;exact C3.mp e m hm (decide_eq_true q)
 ·intro h;cases e:aL ms z with
  |none=>exact absurd e h
  |some m=>exact aQ.mpr ⟨m,wF e,of_decide_eq_true (Kq (p:=λm:ay=>decide (m.name=z)) e)⟩
theorem fW.mem(h:fW R ms){z:Str}:z∈ms.map ay.name↔∃r∈R,r.2.name=z/\(r.2.sort=bP\/r.2.sort=eI):=by
 rw[gI];constructor
 ·intro q;cases e:aL ms z with
  |none=>exact absurd e q
  |some m=>
   rcases h.OG z m e with ⟨r,hr,a1,a2,_⟩|⟨_,r,hr,a1,a2,_⟩
   ·exact⟨r,hr,a1,.inl a2⟩
   ·exact⟨r,hr,a1,.inr a2⟩
 ·rintro⟨r,hr,a1,a2⟩ e;have:=h.bB z e r hr a1;exact a2.elim this.1 this.2
theorem A0(c:List (Str×Int×List Int×List aB)):∀{ss:List aM},ss.map aM.e=c->(aZ ss).length=(c.map λs=>s.2.2.2.length).sum/\ss.length=c.length/\∀s∈ss,∃x∈c,s.words.length=x.2.2.1.length/\s.fills.length=x.2.2.2.length
 := by
 intro ss h;subst h;refine⟨?_,by rw[aD],λs hs=>⟨aM.e s,aQ.mpr ⟨s,hs,rfl⟩,rfl,by unfold aM.e;rw[List.length_map]⟩⟩;unfold aZ;rw[List.length_flatMap,cC];refine congrArg List.sum (Cg λs _=>?_);show s.fills.length=(s.fills.map aB.e).length;rw[aD]
theorem Ho(h:yu p)(e:aC q=aC p):yu q:=by
 have e1:q.aS.map aw.e=p.aS.map aw.e:=congrArg (·.2.1) e;have e2:q.aO.map aM.e=p.aO.map aM.e:=congrArg (·.2.2) e;have l1:q.aS.length=p.aS.length:=by have:=congrArg List.length e1;rwa [aD,aD]at this
 have l2:q.aO.length=p.aO.length:=by have:=congrArg List.length e2;rwa [aD,aD]at this
 obtain⟨f1,_,_⟩:=A0 _ e2;obtain⟨g1,_,_⟩:=A0 _ (rfl:p.aO.map aM.e=_);refine⟨by rw[l1];exact h.nm,by rw[l2];exact h.st,λs hs=>?_,by rw[f1,<-g1];exact h.fl,?_⟩
 ·have m:aM.e s∈q.aO.map aM.e:=aQ.mpr ⟨s,hs,rfl⟩;rw[e2]at m;obtain⟨s',hs',es⟩:=aQ.mp m;have h1:=h.ss s' hs';have w:s'.words=s.words:=congrArg (·.2.2.1) es;have f:(s'.fills.map aB.e).length=(s.fills.map aB.e).length:=congrArg (λx:Str×Int×List Int×List aB=>x.2.2.2.length) es;rw[aD,aD]at f;rw[<-w,<-f];exact h1
 ·have n:∀l:List aw,l.map aw.name=(l.map aw.e).map aw.name:=λl=>by rw[cC];rfl
  rw[n,e1,<-n];exact h.nd
theorem vJ(e:aC q=aC p){n:aw}(hn:n∈q.aS):∃m∈p.aS,m.name=n.name/\m.sort=n.sort/\m.st=n.st/\m.off=n.off:=by
 have h:aw.e n∈p.aS.map aw.e:=by
  have:=congrArg (·.2.1) e;rw[show p.aS.map aw.e=q.aS.map aw.e from this.symm];exact aQ.mpr ⟨n,hn,rfl⟩
 obtain⟨m,hm,z⟩:=aQ.mp h;unfold aw.e at z;injection z with z1 z2 z3 z4 z5;exact⟨m,hm,z2,z3,z4,z5⟩
theorem FW(e:aC q=aC p):q.aO.map aM.e=p.aO.map aM.e:=congrArg (·.2.2) e
theorem yP(e:aC q=aC p):q.aO.length=p.aO.length:=by
 have:=congrArg List.length (FW e)
 rwa [aD,aD]at this
theorem Vh(e:aC q=aC p){s:aM}(hs:s∈q.aO):∃r∈p.aO,r.kind=s.kind/\r.step=s.step/\r.words=s.words:=by
 have h:aM.e s∈p.aO.map aM.e:=by rw[<-FW e];exact aQ.mpr ⟨s,hs,rfl⟩
 obtain⟨r,hr,z⟩:=aQ.mp h;unfold aM.e at z;exact⟨r,hr,congrArg (·.1) z,congrArg (·.2.1) z,congrArg (·.2.2.1) z⟩
theorem g9(e:aC q=aC p):q.name=p.name:=congrArg (·.1) e
theorem Gb(nd:'r'.Nodup):(aA ps).Nodup:=by
 unfold aA
 induction ps with
 |nil=>exact List.nodup_nil
 |cons p ps ih=>
  rw[iZ]at nd;obtain⟨n1,n2⟩:=mH.mp nd;rw[List.flatMap_cons];refine gX.mpr ⟨?_,ih n2,λa ha b hb e=>?_⟩
  ·refine List.Pairwise.map _ (λi j h z=>h ?_) (List.nodup_range (n:=p.aO.length));have:=congrArg (·.2) z;exact Int.ofNat.inj this
  ·subst e;obtain⟨i,_,rfl⟩:=aQ.mp ha;obtain⟨q,hq,y⟩:=jE.mp hb;obtain⟨j,_,z⟩:=aQ.mp y;exact n1 (aQ.mpr ⟨q,hq,congrArg (·.1) z⟩)
theorem Kf.co(h:Kf ps)(e:∀q∈qs,∃p∈ps,aC q=aC p)(nd:(qs.map ah.name).Nodup):Kf qs:=by
 refine⟨λq hq n hn=>?_,λq hq s hs=>?_,λq hq r hr ne x hx y hy s1 s2=>?_,?_⟩
 ·obtain⟨p,hp,c⟩:=e q hq;obtain⟨m,hm,_,m2,m3,_⟩:=vJ c hn;have:=h.aS p hp m hm;rw[m2,m3,<-yP c]at this;exact this
 ·obtain⟨p,hp,c⟩:=e q hq;obtain⟨r,hr,r1,r2,_⟩:=Vh c hs;have:=h.aO p hp r hr;rw[r1,r2]at this;exact this
 ·obtain⟨p,hp,c⟩:=e q hq;obtain⟨p',hp',c'⟩:=e r hr;obtain⟨m,hm,m1,m2,_⟩:=vJ c hx;obtain⟨m',hm',m1',m2',_⟩:=vJ c' hy;rw[<-m1,<-m1'];exact h.tw p hp p' hp' (by rw[<-g9 c,<-g9 c'];exact ne) m hm m' hm' (m2.trans s1) (m2'.trans s2)
 ·refine ia (fb (Gb nd) λk hk=>?_) h.all;obtain⟨q,hq,n1,i,n2,n3⟩:=eR hk;obtain⟨p,hp,c⟩:=e q hq;have:k=(p.name,(i:Int)):=Prod.ext (by rw[<-n1];exact g9 c) n2;rw[this];exact jE.mpr ⟨p,hp,aQ.mpr ⟨i,qV.mpr (by rw[<-yP c];exact n3),rfl⟩⟩
theorem Vo{ps:List ah}{R:ah->ah->Prop}(nd:'r'.Nodup)(h:∀p∈ps,∀q∈ps,p.name≠q.name->R p q):ps.Pairwise R:=
 List.Pairwise.imp_of_mem (λ{a b} ha hb n=>h a ha b hb n) (Rq.mp nd)
theorem Kf.XZ(h:Kf ps)(nd:'r'.Nodup)(bn:∀p∈ps,yu p)(bQ:ps.length<=20):Kn ps:=
 ⟨bQ,nd,λp hp=>⟨(bn p hp).nm,(bn p hp).nd⟩,Vo nd h.tw⟩
theorem xC(h:gC G S T z):∃c∈G++T,cD z c=true:=by
 rcases h with h|⟨p,hp,e⟩
 ·obtain⟨c,e⟩:=Vz.mp h;exact⟨c,gG _ (wF e),Kq (p:=cD z) e⟩
 ·exact⟨p,gi _ hp,Kq (p:=cD z) e⟩
theorem nt(h:Kf qs)(hn:fW (c6 qs) ms)(hq:q∈qs)(ht:cD z (aC q)=true):∃m,aL ms z=some m:=by
 cases e:aL ms z with
 |some m=>exact⟨m,rfl⟩
 |none=>
  obtain⟨n,hm,y⟩:=nj.mp ht;obtain⟨n',hn',rfl⟩:=aQ.mp hm;rw[lx]at y;obtain⟨y1,y2⟩:=y;have y1:n'.name=z:=of_decide_eq_true y1;have y2:n'.sort≠dM:=by intro c;rw[show(aw.e n').sort=n'.sort from rfl,c]at y2;simp at y2
  have no:=hn.bB z e (q.name,n') (bJ.mpr ⟨q,hq,rfl,hn'⟩) y1;rcases (h.aS q hq n' hn').2.2 with c|c|c
  ·exact absurd c no.1
  ·exact absurd c no.2
  ·exact absurd c y2
structure BB(qs:List ah)(e:Str):Prop where
 jn:Kf qs
 nd:(qs.map ah.name).Nodup
 bn:∀q∈qs,yu q
 bQ:qs.length<=20
 ent:∃q∈qs,cD e (aC q)=true
 V8:∀q∈qs,∀z,bH z (aC q)=true->∃r∈qs,cD z (aC r)=true
theorem jG(hB:Fc G S e)(hJ:UB G S e)(tc:iN (G.map aC) (S.map aC) e T rs)(cl:eJ (G.map aC) (S.map aC) e T)(pm:(qs.map aC).Perm (G.map aC++T)):BB qs e:=by
 have fr:∀q∈qs,∃p∈G++S,aC q=aC p:=λq hq=>by
  have:=pm.mem_iff.mp (aQ.mpr ⟨q,hq,rfl⟩);rcases bM.mp this with z|z
  ·obtain⟨p,hp,y⟩:=aQ.mp z;exact⟨p,gG _ hp,y.symm⟩
  ·obtain⟨p,hp,y⟩:=aQ.mp (tc.sub _ z);exact⟨p,gi _ hp,y.symm⟩
 have bk:∀c∈G.map aC++T,∃q∈qs,aC q=c:=λc hc=>aQ.mp (pm.mem_iff.mpr hc);have e1:qs.map ah.name=(qs.map aC).map (·.1):=by rw[cC];rfl
 have e2:(G.map aC++T).map (·.1)=G.map ah.name++T.map (·.1):=by rw[bu,cC];rfl
 have nb:=hB.nd;rw[bu]at nb;have nd:(qs.map ah.name).Nodup:=by
  rw[e1,(pm.map _).nodup_iff,e2];refine gX.mpr ⟨(gX.mp nb).1,tc.nd,λa ha b hb z=>?_⟩;obtain⟨c,hc,rfl⟩:=aQ.mp hb;obtain⟨p,hp,rfl⟩:=aQ.mp (tc.sub c hc);exact(gX.mp nb).2.2 a ha p.name (aQ.mpr ⟨p,hp,rfl⟩) z
 refine⟨hJ _ _ _ tc cl pm,nd,λq hq=>?_,?_,?_,λq hq z hz=>?_⟩
 ·obtain⟨p,hp,c⟩:=fr q hq;exact Ho (hB.Sn p hp) c
 ·have l1:qs.length<=((G++S).map ah.name).length:=by
   rw[<-aD (f:=ah.name)];refine fb nd λx hx=>?_;obtain⟨q,hq,rfl⟩:=aQ.mp hx;obtain⟨p,hp,c⟩:=fr q hq;exact aQ.mpr ⟨p,hp,(g9 c).symm⟩
  rw[aD]at l1;exact ia l1 hB.bQ
 ·obtain⟨c,hc,t⟩:=xC cl.1;obtain⟨q,hq,rfl⟩:=bk c hc;exact⟨q,hq,t⟩
 ·obtain⟨c,hc,t⟩:=xC (cl.2 (aC q) (pm.mem_iff.mp (aQ.mpr ⟨q,hq,rfl⟩)) z hz);obtain⟨r,hr,rfl⟩:=bk c hc;exact⟨r,hr,t⟩
theorem JQ:(p.aS.find? λn=>decide (n.name=z)&&decide (n.sort=dM))=none↔dS p z=false:=by
 unfold dS;rw[C3,List.any_eq_false]
theorem BB.res(h:BB qs e)(hn:fW (c6 qs) ms){q:ah}(hq:q∈qs){st:aM}(hs:st∈q.aO){f:aB}(hf:f∈st.fills):(bE q ms f=none->f.soft=true)/\∀r,bE q ms f=some r->(r.1,r.2.1)∈aA qs:=by
 have key:∀q∈qs,∀n∈q.aS,(q.name,n.st)∈aA qs:=λq hq n hn=>by
  have:=h.jn.aS q hq n hn;exact jE.mpr ⟨q,hq,aQ.mpr ⟨n.st.toNat,qV.mpr (by lia),by rw[UJ this.1]⟩⟩
 unfold bE;cases ho:q.aS.find? λn=>decide (n.name=f.name)&&decide (n.sort=dM) with
 |some n=>
  refine⟨λz=>(nomatch z),λr z=>?_⟩;cases z;exact key q hq n (wF ho)
 |none=>
  refine⟨λz=>?_,λr z=>?_⟩
  ·cases hso:f.soft with
   |true=>rfl
   |false=>
    have w:bH f.name (aC q)=true:=oj.mp ⟨f,jE.mpr ⟨st,hs,hf⟩,by rw[hso,JQ.mp ho];rfl,rfl⟩;obtain⟨r,hr,t⟩:=h.V8 q hq _ w;obtain⟨m,hm⟩:=nt h.jn hn hr t;simp only[hm]at z;cases z
  ·cases hl:aL ms f.name with
   |none=>simp only[hl]at z;cases z
   |some m=>
    simp only[hl]at z;cases z;rcases hn.OG f.name m hl with ⟨r,hr,_,_,y⟩|⟨_,r,hr,_,_,y,_⟩
    all_goals
     obtain⟨p,hp,n1,n2⟩:=bJ.mp hr;have:=key p hp r.2 n2;rw[n1]at this;have y1:m.a=r.1:=congrArg (·.1) y;have y2:m.b=r.2.st:=congrArg (·.2.1) y;show(m.a,m.b)∈_;rw[y1,y2];exact this
theorem BB.zq(h:BB qs e)(hn:fW (c6 qs) ms):∃m,aL ms e=some m/\(m.a,m.b)∈aA qs:=by
 obtain⟨q,hq,t⟩:=h.ent;obtain⟨m,hm⟩:=nt h.jn hn hq t;refine⟨m,hm,?_⟩;rcases hn.OG e m hm with ⟨r,hr,_,_,y⟩|⟨_,r,hr,_,_,y,_⟩
 all_goals
  obtain⟨p,hp,n1,n2⟩:=bJ.mp hr;have z:=h.jn.aS p hp r.2 n2;have y1:m.a=r.1:=congrArg (·.1) y;have y2:m.b=r.2.st:=congrArg (·.2.1) y;rw[y1,y2,<-n1];exact jE.mpr ⟨p,hp,aQ.mpr ⟨r.2.st.toNat,qV.mpr (by lia),by rw[UJ z.1]⟩⟩
theorem BB.zT(h:BB qs e)(hn:fW (c6 qs) ms):∀k∈aA qs,∀t∈bL qs ms k,t.1∈aA qs:=λk hk t ht=>by
 obtain⟨q,hq,n1,i,n2,n3⟩:=eR hk;have hs:q.aO[k.2.toNat]?=some (q.aO[i]):=by rw[n2,C0];exact h9 n3
 rw[show k=(k.1,k.2) from rfl,kM h.nd hq n1 hs]at ht;obtain⟨x,hx,rfl⟩:=aQ.mp ht;obtain⟨f,hf,y⟩:=NU.mp hx;obtain⟨r,hr,rfl⟩:=eZ.mp y;exact(h.res hn hq (wR n3) hf).2 r hr
theorem lY:∀(l:List (K2×Int)) (ws:List Wy),(∀t∈l,t.1∈aA ps)->CZ ps ws->CZ ps (l.foldl (eC k) ws)
 |[],_,_,h=>h
 |t::l,ws,hl,h=>lY l _ (λx hx=>hl x (by simp[hx])) (h.add (hl t (by simp)))
theorem nB(hv:∀k∈aA ps,∀t∈bL ps mn k,t.1∈aA ps):∀(n d:Nat) (ws:List Wy),CZ ps ws->CZ ps (reachF ps mn n d ws)
 |0,_,_,h=>h
 |n+1,d,ws,h=>by
  unfold reachF;cases e:ws[d]? with
  |none=>exact h
  |some w=>exact nB hv n (d+1) _ (lY _ _ (hv _ (h.NT w (dI e))) h)
theorem fE(hv:∀k∈aA ps,∀t∈bL ps mn k,t.1∈aA ps)(hr:r∈aA ps):CZ ps (bc ps mn r):=
 nB hv _ _ _ ⟨by simp,λw hw=>by rw[List.mem_singleton.mp hw];exact hr⟩
theorem BS.mono{H H':Hp}{L dN:Addr}{ps:List ah}{mn:List ay}(h:BS H L dN ps mn)(s:aI H H'):BS H' L dN ps mn:=⟨h.K4.mono s,h.tab.mono s,h.nd,h.bQ,h.all,h.aS,h.Y3⟩
theorem AA(h:aL ms z=some m):m∈ms:=wF h
theorem Ei(T:Txt K mg A):aY P w K mg base cF 7 A.kept A.Ac ["pieces", "names", "entry"] KH:=by
 refine T.my.ok zY ?_ ?_;walk_at "k"
 obtain⟨L,dN,e,ps,mn,m,rfl,pre,hm,hin,k⟩:=h;refine⟨_,(aU (pS 3 zY.nd (dj (bN hr) (pv 1) (pv 2) (λ_ _=>rfl))) (bo (aG (cI (iP ["key", "by", "at"]) rfl (cN (K:=K) rfl (bO (Uo T) 'a' rfl T.Se T.JF.kp T.JF.b .nil aq (ao (pv 0) (ao (pv 1) (ao (a_ (ao (tx K (pv 3)) (ao (tx K (pv 3)) aa))) aa))))) (λ_ _ _=>⟨(bV (K:=K) (n:=3) rfl rfl (dW (pn 0 'g') (dW (pn 1 'g') (dW (pn 2 'g') bX)))),cu,(pv 0)⟩))))),?_⟩;walk_at "rd";have ma:=pre.tab.at_ m (AA hm);have dg:bR H dN (V.str e) (some (V.ref m.t)):=by
  have:=bR.k (k:=.inr e) pre.tab.top;rw[DX,hm]at this;exact this
 refine⟨_,dg,_,rfl,_,bg.of ma,_,rfl,_,rfl,_,bg.of ma,_,rfl,by walk_at "s", λp hp=>⟨ps,mn,(m.a,m.b),aJ,hin,pre.mono (aR hp),λl rows H1 s1 hl ht er fl=>?_⟩⟩;have s01:aI H H1:=(aR hp).trans s1;have rl:rows.length<=1000:=by
  have e1:=congrArg List.length er;rw[aD]at e1;have hv:∀k∈aA ps,∀t∈bL ps mn k,t.1∈aA ps:=λk hk t htt=>by
   obtain⟨q,hq,n1,i,n2,n3⟩:=eR hk;have hs:q.aO[k.2.toNat]?=some (q.aO[i]):=by rw[n2,C0];exact h9 n3
   rw[show k=(k.1,k.2) from rfl,kM pre.nd hq n1 hs]at htt;obtain⟨x,hx,rfl⟩:=aQ.mp htt;obtain⟨f,hf,y⟩:=NU.mp hx;obtain⟨r,hr,rfl⟩:=eZ.mp y;exact((pre.Y3 q hq _ (wR n3)).2 f hf).2 r hr
  have:=(fE hv hin).len;have:=pre.all;lia
 refine cY.of (xs:=rows.map λr=>V.ref r.t) 'j' (aH.of hl) (λD i ys H2=>aI H1 H2/\H2 D=some (.lst ys)/\ys=(rows.take i).map λr=>V.ref r.k)
  (λD hD=>⟨aR hD,aJ,rfl⟩) ?_ ?_ ?_
 ·rintro D i ys H2 hD hi ⟨s2,hDD,rfl⟩;exact⟨aH.of (s2 _ _ hl),hDD,by rw[aD,jM];lia⟩
 ·rintro D i x ys H2 hD hx ⟨s2,hDD,rfl⟩;walk_at "0";obtain⟨r,hr,rfl⟩:=eZ.mp hx;have ra:=ht r (dI hr);have tk:rows.take (i+1)=rows.take i++[r]:=by rw[ix,hr];rfl
  have tp:∃u v,H2 r.t=some (.tup [.ref r.k,u,v]):=by
   cases hb:r.w.V5 with
   |none=>exact⟨_,_,s2 _ _ (ra.n hb)⟩
   |some y=>exact⟨_,_,s2 _ _ (ra.s y.1 y.2 hb).1⟩
  obtain⟨u,v,tp⟩:=tp;walk_at "rd";exact⟨_,bg.of tp,rfl,_,_,rfl,_,_,rfl,_,_,rfl,rfl,.no (.no (.no .nil)),hDD,e_ hD s2,aJ,by rw[tk,bu];rfl⟩
 ·rintro D ys H2 hD ⟨s2,hDD,rfl⟩;rw[aD,kD]at hDD;refine k D (rows.map λr=>(r.k,r.w.key)) H2 (s01.trans s2) (bW s01 hD) ⟨by rw[cC];exact hDD,λq hq=>?_⟩ ?_
  ·obtain⟨r,hr,rfl⟩:=aQ.mp hq;exact s2 _ _ (ht r hr).k
  ·rw[cC,<-er,cC];rfl
theorem jX:∀(l pre:List 'i'),((pre++l).map (·.1)).Nodup->gL pre l=pre++l
 |[],pre,_=>by unfold gL;simp
 |x::l,pre,h=>by
  show gL (putK pre x.1 x.2) l=_;have e:putK pre x.1 x.2=pre++[x]:=by
   unfold putK;rw[if_neg];intro z;obtain⟨y,hy,e⟩:=nj.mp z;rw[bu,iZ]at h;exact(gX.mp h).2.2 y.1 (aQ.mpr ⟨y,hy,rfl⟩) x.1 (by simp) (of_decide_eq_true e)
  rw[e,jX l (pre++[x]) (by rw[yz];exact h),yz];rfl
theorem yI(h:h_ ps ks ls)(nd:ks.Nodup):ls.Nodup:=by
 obtain⟨ss,pm,_,rfl⟩:=h;have ns:ss.Nodup:=pm.nodup_iff.mpr nd;refine gX.mpr ⟨ns.filter _,ns.filter _,λa ha b hb e=>?_⟩;subst e;have h1:=of_decide_eq_true (yw.mp ha).2;have h2:=of_decide_eq_true (yw.mp hb).2;rw[h1]at h2;exact absurd (Option.some.inj h2) 'e'
theorem yc{a b:aF}(h:([.inr a.1,.inl a.2]:List Key)=[.inr b.1,.inl b.2]):a=b:=by
 injection h with h1 h2;injection h2 with h2 _;exact Prod.ext (Sum.inr.inj h1) (Sum.inl.inj h2)
theorem nR:∀(e:Int) (ss:List aM),(bF e ss).length=ss.length
 |_,[]=>rfl
 |e,s::r=>by unfold bF;rw[List.length_cons,nR,List.length_cons]
theorem xQ(h:rs.length=ls.length):(eB ls rs).map (·.1)=ls.map λk=>[.inr k.1,.inl k.2]:=by
 unfold eB;rw[cC];have:((·.1) ∘ λx:aF×Int×Int=>(([.inr x.1.1,.inl x.1.2],.int x.2.1):List Key×V))=(λk:aF=>([.inr k.1,.inl k.2]:List Key)) ∘ Prod.fst:=rfl;rw[this,<-cC,List.map_fst_zip (by lia)]
theorem B0(h:rs.length=ls.length)(nd:ls.Nodup):((eB ls rs).map (·.1)).Nodup:=by
 rw[xQ h];exact List.Pairwise.map _ (λa b n z=>n (yc z)) nd
theorem Af(nd:'r'.Nodup)(h:k∈aA ps):(eG ps k).isSome=true:=by
 obtain⟨p,hp,n1,i,n2,n3⟩:=eR h;unfold eG;rw[<-n1,jw nd hp];show(if 0<=k.2 then p.aO[k.2.toNat]? else none).isSome=true;rw[if_pos (by lia),n2,C0,h9 n3];rfl
theorem BB.Jv(h:BB qs e)(ha:∀q∈qs,q.At H):i9 H qs:=
 ⟨ha,h.nd,λp hp s hs=>by
  have h1:=h.jn.aO p hp s hs;have h2:=((h.bn p hp).ss s hs).1;exact⟨h1.1,h1.2.1,h1.2.2,by lia⟩⟩
theorem bD.lt(s:bD H H'):jN H H':=λb o ho e=>s b o (by rcases ho with ⟨_,rfl⟩|⟨_,rfl⟩<;>exact λ_ z=>by cases z) e
theorem bD.of{H H':Hp}(s:aI H H'):bD H H':=λb o _ e=>s b o e
theorem bD.trans(s:bD H H')(t:bD H' H''):bD H H'':=λb o n e=>t b o n (s b o n e)
theorem Jc(hT:H T=some (.iO qs))(s:eM T H H'):bD H H':=λb o ho e=>s.get hT e ho
theorem jL(h:bU T p q H)(n:T≠T')(h':bU T' p' q' H)(s:eM T' H H'):bU T p q H':=by
 obtain⟨ps,h1,h2,h3⟩:=h;obtain⟨ps',h1',_⟩:=h';exact⟨ps,s _ _ n h1,h2,h3.imp id λ⟨c,h4,h5⟩=>⟨c,h4,s.get h1' h5 (λ_ z=>by cases z)⟩⟩
theorem Ao(h:bU T p q H)(s:eM T H H')(hb:H' b=none)(t:bU T p q H'):H b=none:=by
 obtain⟨_,h1,_⟩:=t;exact s.free (λz=>by rw[z,h1]at hb;cases hb) hb
theorem U6(T:Txt K mg A):aY P w K mg base cF 8 A.YH A.Gd ["given", "shelves", "entry"] (E2 A):=by
 refine T.GK.ok Ir ?_ ?_;walk_at "k"
 obtain⟨g,s',e,G,xs,rfl,hP,hJ,hT,hN,ne,k⟩:=h;refine⟨_,(aU (pS 3 Ir.nd (bO (qi T) 'a' rfl T.uN T.fN.kp T.fN.b .nil aq (ao (pv 0) (ao (pv 1) 'v')))) (bo (aG (kE (mF rfl hr.units) (by rfl) T.zD vI (ao (bO (E9 T) 'a' rfl T.J8 T.l9.kp T.l9.b .nil aq (ao (pv 3) (ao (bO (Ei T) 'a' rfl T.Jq T.my.kp T.my.b .nil aq (ao (pv 3) (ao (bO (MD T) 'a' rfl T.MJ T.yf.kp T.yf.b .nil aq 'D') 'v'))) aa))) aa))))),?_⟩;walk_at "rd";refine⟨G,xs,hP,hT,λl Tc rs qs H1 x1 t1 pc fr tc cl pm pw=>?_⟩;have c:=jG hP.2.2 hJ tc cl pm;refine⟨qs,⟨pc.top,pc.at_⟩,c.jn.XZ c.nd c.bn c.bQ,?_,λd ms H2 x2 t2 tab nm hd=>?_⟩
 ·exact jL hN ne hT x1
 have tn1:=jL hN ne hT x1;have tt2:=jL t1 (Ne.symm ne) tn1 x2;have q1:bD H H1:=by obtain⟨_,e,_⟩:=id hT;exact Jc e x1
 have q2:bD H1 H2:=by obtain⟨_,e,_⟩:=id tn1;exact Jc e x2
 obtain⟨m,hm,hin⟩:=c.zq nm;walk_at "10";refine⟨qs,ms,pre,m,hm,hin,λl2 ks H3 s3 f3 hk ek=>?_⟩;have wok:=fE (c.zT nm) hin;have kn:(ks.map (·.2)).Nodup:=by rw[ek];exact wok.nd
 have kl:ks.length<64:=by
  have h1:=wok.len;have h2:=c.jn.all;have h3:=congrArg List.length ek;rw[aD,aD]at h3;lia
 have p3:=pre.K4.mono s3;have bQ:=c.bQ;refine⟨qs,ks.map (·.2),⟨l,l2,ks,rfl,rfl,p3,by lia,c.Jv p3.at_,hk,kl,λq hq=>Af c.nd ?_⟩,λl3 rows H4 s4 f4 la=>?_⟩
 ·have:q.2∈ks.map (·.2):=aQ.mpr ⟨q,hq,rfl⟩;rw[ek]at this;obtain⟨y,hy,e⟩:=aQ.mp this;rw[<-e];exact wok.NT y hy
 obtain⟨ss,e1,e2⟩:=la.lay;have Lg:(bF 0 ss).length=(rows.map (·.k)).length:=by rw[<-e2,aD,aD]
 have rl:=la.len;rw[aD]at rl;refine⟨rows.map λr=>(r.t,r.b,[.inr r.k.1,.inl r.k.2],.int r.p),?_,?_,by rw[aD];lia,λd2 f5=>?_⟩
 ·rw[cC];exact aH.of la.top
 ·intro t ht;obtain⟨r,hr,rfl⟩:=aQ.mp ht;exact⟨la.row r hr,la.key r hr⟩
 have ep:(rows.map λr=>(r.t,r.b,([.inr r.k.1,.inl r.k.2]:List Key),V.int r.p)).map (λx=>x.2.2)=eB (rows.map (·.k)) (bF 0 ss):=by
  unfold eB;rw[<-e2,cC,List.zip_map',cC];rfl
 rw[ep,jX _ [] (by rw[List.nil_append];exact B0 Lg (yI la.ord kn)),List.nil_append];have s5:=aR (o:=HO.dT (eB (rows.map (·.k)) (bF 0 ss))) f5;have s25:aI H2 _:=(s3.trans s4).trans s5;refine k d2 Tc rs qs ms m (rows.map (·.k)) ss _ _ ((q1.trans q2).trans (bD.of s25)) (tt2.more s25) (t2.more s25) ?_ aJ tc cl pm ⟨nm,hm,?_,?_,rfl⟩
 ·exact Ao hT x1 (Ao tn1 x2 (bW (s3.trans s4) f5) t2) t1
 ·rw[<-ek];exact la.ord
 ·rw[cC];exact e1
theorem lC(T:Txt K mg A):aY P w K mg base cF 1 A.W8 A.JD ["_law_script", "_law_k"] (CG K):=by
 refine T.ed.ok Qd ?_ ?_;walk_at "k"
 obtain⟨a,ns,c,rfl,hS,h0,k⟩:=h;refine⟨_,(aU (bC (cJ kr (pv 1) (fX (b_ (K:=K) rfl) (by rfl) T.gm eg (ao (pv 0) aa)) (aV _)) (bo (aG (bx 'h' (pv 0) (pv 1) (λ_ _=>rfl)))) cW) (bo (aG af))),?_⟩;walk_at "rd";obtain⟨i,rfl⟩:=S4 h0;refine⟨ns.length,.inl ⟨_,hS,by rw[aD]⟩,cH (λq=>?_) λq=>?_⟩
 ·have q:=of_decide_eq_true q;have hx:ns[i]?=some ns[i]:=h9 (by lia);refine⟨_,hS,_,cw (by rw[gU,hx];rfl),?_⟩;rw[show((i:Int)).toNat=i from rfl,Ki,hx]at k;exact k
 ·have q:ns.length<=i:=by have:=of_decide_eq_false (by simpa using q:decide ((i:Int)<(ns.length:Int))=false);lia
  rw[show((i:Int)).toNat=i from rfl,Ki,List.getElem?_eq_none q]at k;exact k
theorem Qo(h0:0<=i)(h1:i<37):∃c,hW wW.cps.toList i=some c/\Ys i=⟨#[c]⟩:=by
 obtain⟨n,rfl⟩:=S4 h0;have l:wW.cps.toList.length=37:=by decide +kernel
 have e:hW wW.cps.toList (n:Int)=some (wW.cps.toList[n]'(by lia)):=cw (h9 (by lia));exact⟨_,e,by unfold Ys;rw[e]⟩
theorem LR{m:Nat}(h:m<400):(Str.ofString (toString (m:Int))).length<=3/\(Txt.zfill (Str.ofString (toString (m:Int))) 3).length<=3:=by
 have:∀m:Nat,m<400->(Str.ofString (toString (m:Int))).length<=3/\(Txt.zfill (Str.ofString (toString (m:Int))) 3).length<=3:=by decide +kernel
 exact this m h
theorem i8(T:Txt K mg A):aY P w K mg base cF 1 A.Xf A.Iq ["_law_cell", "_law_k"] DQ:=by
 refine T.dh.ok gJ ?_ ?_;walk_at "k"
 obtain⟨c,i,rfl,i0,i4,k⟩:=h;refine⟨_,(aU (pS 2 gJ.nd a5) (aU (pS 3 gJ.nd a5) (aU (pF (g8 rfl T.kJ (ao (az cG af (az ba (pv 0) af)) aa)) (pn 4 gJ.nd) (bo (pS 3 gJ.nd (az iK (pv 3) (bx P8 (pv 2) (az ba (az cG (az eV (pv 0) (az cG (pv 4) af)) (az eS (pv 4) (pv 4))) (az gq af (az eS af (kE jS (by rfl) T.wL lG (ao (gQ dk (pv 4) af (aV _)) aa))))) (λ_ _=>rfl)))))) (aU (pS 5 gJ.nd (az cG af (az ba (az eV (pv 0) af) (fX (b_ (K:=K) rfl) (by rfl) T.gm eg 'D')))) (aU (pS 6 gJ.nd (kE vU (by rfl) T.Su QO 'E')) (aU (bC (cJ dk (az ba (az eV (pv 0) af) af) af (aV _)) (bo (pS 6 gJ.nd (A6 PySem.F.plainAttrs_str PySem.F.slot_str_zfill PySem.F.type_str_zfill C8 (pv 6) (ao af aa)))) cW) (bo (aG (az iK (az iK (dE DR (pv 3) fF (d7 (pv 5))) (pv 6)) (dE DR (pv 3) (d7 (pv 5)) fF)))))))))),?_⟩;walk_at "rd";refine⟨by decide,?_⟩
 refine BQ.of (by omega) (by omega) (λn σ H'=>H'=H/\∃(b4 b5 b6:Option V),σ=[some (.int c),some (.int i),some (.str s!"abcdefghijklmnopqrstuvwxyz0123456789_"),some (.str (dG c n)),b4,b5,b6]/\(dG c n).length=n) ⟨rfl,_,_,_,rfl,show s!"".length=0 by decide +kernel⟩ ?_ ?_
 ·rintro n σ H' hn ⟨rfl,b4,b5,b6,rfl,hl⟩;have h13:n<13:=by omega
  walk_at "rd";have em:0<(37 - 11*(if decide ((n:Int)=0)=true then (1:Int) else 0))/\(37 - 11*(if decide ((n:Int)=0)=true then (1:Int) else 0))<=37:=by
   by_cases h:(n:Int)=0
   ·rw[decide_eq_true h];decide
   ·rw[decide_eq_false h];decide
  have lo:=Int.emod_nonneg (c/((n:Int)+3)+(n:Int)*(n:Int)) (show (37 - 11*(if decide ((n:Int)=0)=true then (1:Int) else 0))≠0 by omega);have hi:=Int.emod_lt_of_pos (c/((n:Int)+3)+(n:Int)*(n:Int)) em.1;obtain⟨x,ex,es⟩:=Qo lo (by omega);have eb:dG c (n+1)=dG c n++⟨#[x]⟩:=by rw[<-es];rfl
  have l1:(⟨#[x]⟩:Str).length=1:=rfl;refine⟨⟨by omega,by omega⟩,.inl ⟨by omega,by omega⟩,.inl ⟨by decide,by decide⟩,em.1,by rw[sizeLine_eq];decide +kernel,x,ex,by rw[sizeLine_eq];omega,eb.symm,by rw[eb,Q1,hl,l1]⟩
 ·rintro σ H' ⟨rfl,b4,b5,b6,rfl,hl⟩;have h1:1<=(dG c (1+c%13).toNat).length/\(dG c (1+c%13).toNat).length<=13:=by omega
  walk_at "rd";obtain⟨m,em⟩:=S4 i0;have m4:m<400:=by omega
  obtain⟨g1,g3⟩:=LR m4;have kk:Q (V.str (Txt.slice (dG c (1+c%13).toNat) none (some (1+c/13%((dG c (1+c%13).toNat).length:Int)))++zd c i++Txt.slice (dG c (1+c%13).toNat) (some (1+c/13%((dG c (1+c%13).toNat).length:Int))) none)) H':=k;unfold zd at kk;generalize dG c (1+c%13).toNat=z at h1 hl kk ⊢;have s1:=Txt.slice_le z none (some (1+c/13%(z.length:Int)));have s2:=Txt.slice_le z (some (1+c/13%(z.length:Int))) none;rw[show i%400=i by omega]at kk;rw[em]at kk ⊢;have lg:(m:Int).natAbs.log2<1920:=by
   by_cases h:m=0
   ·subst h;decide
   ·exact(Nat.log2_lt (n:=m) (k:=1920) h).mpr (Nat.lt_trans m4 (kx (by decide:400<2 ^ 9) (Rl (by decide) (by decide))))
  have sz:∀m:Nat,m<=2000->m<=sizeLine:=λm h=>by rw[sizeLine_eq];omega
  refine⟨⟨by decide,by decide⟩,sz _ (by omega),by omega,lg,⟨by decide,by decide⟩,by decide,cH (λq=>?_) λq=>?_⟩
  ·rw[if_pos (of_decide_eq_true q)]at kk;exact⟨rfl,by decide,by decide,sz _ (by omega),sz _ (by omega),sz _ (by omega),sz _ (by rw[Q1];omega),kk⟩
  ·rw[if_neg (λh=>q (decide_eq_true h))]at kk;exact⟨sz _ (by omega),sz _ (by omega),sz _ (by omega),sz _ (by rw[Q1];omega),kk⟩
theorem AI{c:Int}{m:Nat}(h:m<101):QR (zd c (m:Int)).cps.toList=m/\∃x r,(zd c (m:Int)).cps.toList=x::r/\48<=x/\x<=57:=by
 have key:∀m:Nat,m<101->(QR (Txt.zfill (Str.ofString (toString ((m:Int)%400))) 3).cps.toList=m/\((Txt.zfill (Str.ofString (toString ((m:Int)%400))) 3).cps.toList.head?.any λx=>48<=x/\x<=57)=true)/\QR (Str.ofString (toString ((m:Int)%400))).cps.toList=m/\((Str.ofString (toString ((m:Int)%400))).cps.toList.head?.any λx=>48<=x/\x<=57)=true:=by decide +kernel
 have hd:∀z:List Nat,(z.head?.any λx=>48<=x/\x<=57)=true->∃x r,z=x::r/\48<=x/\x<=57:=λz hz=>by
  cases z with
  |nil=>cases hz
  |cons x r=>exact⟨x,r,rfl,by simpa using hz⟩
 have k:=key m h;unfold zd;by_cases q:c/169%2=1
 ·rw[if_pos q];exact⟨k.1.1,hd _ k.1.2⟩
 ·rw[if_neg q];exact⟨k.2.1,hd _ k.2.2⟩
theorem wN(c k:Int):(aP c k).cps.toList=(Txt.slice (dG c (1+c%13).toNat) none (some (Vx c))).cps.toList++(zd c k).cps.toList++(Txt.slice (dG c (1+c%13).toNat) (some (Vx c)) none).cps.toList:=by
 unfold aP;rw[show ∀a b:Str,(a++b).cps=a.cps++b.cps from λ_ _=>rfl,Array.toList_append,show ∀a b:Str,(a++b).cps=a.cps++b.cps from λ_ _=>rfl,Array.toList_append]
theorem d9{c:Int}{m n:Nat}(hm:m<101)(hn:n<101)(h:aP c (m:Int)=aP c (n:Int)):m=n:=by
 have e:(aP c (m:Int)).cps.toList=(aP c (n:Int)).cps.toList:=congrArg (λz:Str=>z.cps.toList) h;rw[wN,wN]at e;have e:=List.append_cancel_left (List.append_cancel_right e);have a:=(AI (c:=c) hm).1;rw[e,(AI (c:=c) hn).1]at a;exact a.symm
theorem AX(h1:h_ ps ks a)(h2:h_ ps ks b):a=b:=by
 obtain⟨s1,p1,w1,rfl⟩:=h1;obtain⟨s2,p2,w2,rfl⟩:=h2;rw[(p1.trans p2.symm).eq_of_pairwise (λ_ _ _ _ x y=>JG x y) w1 w2]
theorem fW.co(h:fW R' ms)(e1:∀r∈R',∃x∈R,x.1=r.1/\x.2.name=r.2.name/\x.2.sort=r.2.sort/\x.2.st=r.2.st/\x.2.off=r.2.off)(e2:∀r∈R,∃x∈R',x.1=r.1/\x.2.name=r.2.name/\x.2.sort=r.2.sort/\x.2.st=r.2.st/\x.2.off=r.2.off):fW R ms:=by
 refine⟨h.nd,λz m hm=>?_,λz hz r hr hn=>?_⟩
 ·rcases h.OG z m hm with ⟨r,hr,a1,a2,a3⟩|⟨no,r,hr,a1,a2,a3,a4⟩
  ·obtain⟨x,hx,x1,x2,x3,x4,x5⟩:=e1 r hr;exact .inl ⟨x,hx,x2.trans a1,x3.trans a2,by rw[a3];unfold S6;rw[x1,x4,x5]⟩
  ·obtain⟨x,hx,x1,x2,x3,x4,x5⟩:=e1 r hr;refine .inr ⟨λy hy n1 n2=>?_,x,hx,x2.trans a1,x3.trans a2,by rw[a3];unfold S6;rw[x1,x4,x5],λy hy n1 n2=>?_⟩
   ·obtain⟨y',hy',_,y2,y3,_⟩:=e2 y hy;exact no y' hy' (y2.trans n1) (y3.trans n2)
   ·obtain⟨y',hy',y1,y2,y3,_⟩:=e2 y hy;rw[x1,<-y1];exact a4 y' hy' (y2.trans n1) (y3.trans n2)
 ·obtain⟨x,hx,_,x2,x3,_⟩:=e2 r hr;have:=h.bB z hz x hx (x2.trans hn);rw[x3]at this;exact this
theorem A_(h:∀q∈qs,∃p∈ps,aC q=aC p):∀r∈c6 qs,∃x∈c6 ps,x.1=r.1/\x.2.name=r.2.name/\x.2.sort=r.2.sort/\x.2.st=r.2.st/\x.2.off=r.2.off:=λr hr=>by
 obtain⟨q,hq,q1,q2⟩:=bJ.mp hr;obtain⟨p,hp,e⟩:=h q hq;obtain⟨m,hm,m1,m2,m3,m4⟩:=vJ e q2;exact⟨(p.name,m),bJ.mpr ⟨p,hp,rfl,hm⟩,by rw[<-q1];exact(g9 e).symm,m1,m2,m3,m4⟩
theorem Av{ps qs:List ah}(pm:(qs.map aC).Perm (ps.map aC)):∀q∈qs,∃p∈ps,aC q=aC p:=λq hq=>by
 obtain⟨p,hp,e⟩:=aQ.mp (pm.mem_iff.mp (aQ.mpr ⟨q,hq,rfl⟩));exact⟨p,hp,e.symm⟩
theorem J3(hN:Kn ps)(pm:(qs.map aC).Perm (ps.map aC))(h:fW (c6 ps) ms)(h':fW (c6 qs) ms')(z:Str):(aL ms' z).map ay.vl=(aL ms z).map ay.vl:=by
 have g:=h'.co (A_ (Av pm)) (A_ (Av pm.symm));cases a:aL ms z with
 |none=>
  cases b:aL ms' z with
  |none=>rfl
  |some n=>
   have:=g.mem.mp (gI.mpr (by rw[b];simp));exact absurd a (gI.mp (h.mem.mpr this))
 |some m=>
  cases b:aL ms' z with
  |none=>
   have:=h.mem.mp (gI.mpr (by rw[a];simp));exact absurd b (gI.mp (g.mem.mpr this))
  |some n=>
   show some _=some _;rw[h.one hN g a b]
def Ck(c:Co)(lk:Str->Option (Str×Int×Int))(f:aB):Option (Str×Int×Int):=
 match c.2.1.find? λn=>decide (n.name=f.name)&&decide (n.sort=dM) with
 |some n=>some (c.1,n.st,n.off)
 |none=>lk f.name
theorem xU(p:ah)(ms:List ay)(f:aB):bE p ms f=Ck (aC p) (λz=>(aL ms z).map ay.vl) (aB.e f):=by
 unfold bE Ck;have e:((aC p).2.1.find? λn=>decide (n.name=(aB.e f).name)&&decide (n.sort=dM))=(p.aS.find? λn=>decide (n.name=f.name)&&decide (n.sort=dM)).map aw.e:=by
  show(p.aS.map aw.e).find? _=_;rw[KO];rfl
 rw[e];cases p.aS.find? λn=>decide (n.name=f.name)&&decide (n.sort=dM)<;>rfl
def MK(c:Option Co)(lk:Str->Option (Str×Int×Int))(n:Int):List (K2×Int):=
 match c with
 |none=>[]
 |some c=>match c.2.2[n.toNat]? with
  |none=>[]
  |some s=>(s.2.2.2.filterMap λf=>(Ck c lk f).map λr=>(r.1,r.2.1,f.at_)).map λt=>((t.1,t.2.1),t.2.2)
theorem ot(ps:List ah)(ms:List ay)(k:K2):bL ps ms k=MK ((gE ps k.1).map aC) (λz=>(aL ms z).map ay.vl) k.2:=by
 unfold bL MK;cases gE ps k.1 with
 |none=>rfl
 |some p=>
  have e:(aC p).2.2[k.2.toNat]?=(p.aO[k.2.toNat]?).map aM.e:=by
   show(p.aO.map aM.e)[k.2.toNat]?=_;rw[gU]
  simp only[Option.map_some,e];cases p.aO[k.2.toNat]? with
  |none=>rfl
  |some st=>
   simp only[Option.map_some];congr 1;unfold keysOf;show _=(st.fills.map aB.e).filterMap _;rw[List.filterMap_map];congr 1;funext f;show(bE p ms f).map _=(Ck (aC p) _ (aB.e f)).map _;rw[xU];rfl
theorem KN:∀{a b:List Co}{z:Str},a.Perm b->(a.map (·.1)).Nodup->(a.find? λc=>decide (c.1=z))=b.find? λc=>decide (c.1=z):=λ{a b z} pm nd=>by
 have nb:(b.map (·.1)).Nodup:=(pm.map _).nodup_iff.mp nd;cases h:a.find? λc=>decide (c.1=z) with
 |none=>
  refine(C3.mpr λx hx=>?_).symm;exact C3.mp h x (pm.mem_iff.mpr hx)
 |some c=>
  have hc:=pm.mem_iff.mp (wF h);have ez:=of_decide_eq_true (Kq (p:=λc:Co=>decide (c.1=z)) h);cases g:b.find? λc=>decide (c.1=z) with
  |none=>exact absurd (decide_eq_true ez) (C3.mp g c hc)
  |some c'=>
   have hc':=wF g;have ez':=of_decide_eq_true (Kq (p:=λc:Co=>decide (c.1=z)) g);obtain⟨i,hi,rfl⟩:=AN hc;obtain⟨j,hj,rfl⟩:=AN hc';have pw:=D6.mp nb;have en:(b[i]).1=(b[j]).1:=ez.trans ez'.symm;rcases Rt i j with y|y|y
   ·exact absurd (by rw[wC,wC];exact en) (pw i j (by simpa using hi) (by simpa using hj) y)
   ·subst y;rfl
   ·exact absurd (by rw[wC,wC];exact en.symm) (pw j i (by simpa using hj) (by simpa using hi) y)
theorem nW(ps:List ah)(z:Str):(gE ps z).map aC=(ps.map aC).find? λc=>decide (c.1=z):=by
 unfold gE;rw[KO];rfl
theorem me(nd:'r'.Nodup)(pm:(qs.map aC).Perm (ps.map aC))(z:Str):(gE qs z).map aC=(gE ps z).map aC:=by
 rw[nW,nW];refine(KN pm.symm ?_).symm;rw[cC];exact nd
theorem AM(pm:(qs.map aC).Perm (ps.map aC)):(aA qs).length=(aA ps).length:=by
 have e:∀l:List ah,(aA l).length=((l.map aC).map λc=>c.2.2.length).sum:=λl=>by
  unfold aA;rw[List.length_flatMap,cC];congr 1;refine Cg λp _=>?_;show _=(p.aO.map aM.e).length;simp
 rw[e,e];exact(pm.map _).sum_nat
theorem CC(ha:bL qs ms'=bL ps ms)(hl:(aA qs).length=(aA ps).length):bc qs ms' r=bc ps ms r:=by
 have et:gH qs ms'=gH ps ms:=by unfold gH;rw[ha]
 have:∀n d ws,reachF qs ms' n d ws=reachF ps ms n d ws:=by
  intro n
  induction n with
  |zero=>intro d ws;rfl
  |succ n ih=>
   intro d ws;unfold reachF;cases ws[d]? with
   |none=>rfl
   |some w=>show reachF qs ms' n _ _=reachF ps ms n _ _;rw[ih,et]
 unfold bc;rw[this,hl]
theorem zr(nd:'r'.Nodup)(pm:(qs.map aC).Perm (ps.map aC))(k:aF):(eG qs k).map aM.e=(eG ps k).map aM.e:=by
 have e:∀l:List ah,(eG l k).map aM.e=((gE l k.1).map aC).bind λc=>if 0<=k.2 then c.2.2[k.2.toNat]? else none:=λl=>by
  unfold eG;cases gE l k.1 with
  |none=>rfl
  |some p=>
   show(if 0<=k.2 then p.aO[k.2.toNat]? else none).map aM.e=if 0<=k.2 then (p.aO.map aM.e)[k.2.toNat]? else none;split
   ·rw[gU]
   ·rfl
 rw[e,e,me nd pm]
theorem jd:∀{ss rr:List aM}(e:Int),rr.map aM.e=ss.map aM.e->bF e rr=bF e ss
 |[],[],_,_=>rfl
 |[],_::_,_,h=>by simp at h
 |_::_,[],_,h=>by simp at h
 |s::ss,r::rr,e,h=>by
  rw[iZ,iZ]at h;injection h with h1 h2;have a1:r.step=s.step:=congrArg (·.2.1) h1;have a2:r.words=s.words:=congrArg (·.2.2.1) h1;unfold bF;rw[a1,a2,jd _ h2]
theorem jA:∀(l:List (K2×Int)) (ws:List Wy),∃us,l.foldl (eC k) ws=ws++us
 |[],ws=>⟨[],by simp⟩
 |t::l,ws=>by
  obtain⟨us,e⟩:=jA (k:=k) l (eC k ws t);obtain⟨vs,e2⟩:∃vs,eC k ws t=ws++vs:=by
   unfold eC;split
   ·exact⟨[],by simp⟩
   ·exact⟨_,rfl⟩
  exact⟨vs++us,by rw[A3,e,e2,yz]⟩
theorem wG:∀(l:List (K2×Int)) (ws:List Wy) (t:K2×Int),t∈l->t.1∈(l.foldl (eC k) ws).map Wy.key
 |x::l,ws,t,ht=>by
  rw[A3];rcases iu.mp ht with e|e
  ·obtain⟨us,eu⟩:=jA (k:=k) l (eC k ws x);rw[eu,bu];refine gG _ ?_;rw[e];unfold eC;split
   ·rename_i h;exact xN.mp h
   ·simp
  ·exact wG l _ t e
theorem nJ(hv:∀k∈aA ps,∀t∈bL ps mn k,t.1∈aA ps):∀(n d:Nat) (ws:List Wy),CZ ps ws->(∀i w,i<d->ws[i]?=some w->∀t∈bL ps mn w.key,t.1∈ws.map Wy.key)->(aA ps).length<n+d->∀w∈reachF ps mn n d ws,∀t∈bL ps mn w.key,t.1∈(reachF ps mn n d ws).map Wy.key
 |0,d,ws,wk,hc,hn=>by
  intro w hw t ht;obtain⟨i,hi⟩:=C2 hw;have h1:ws.length<=_:=wk.len;have h2:=(gZ.mp hi).1;have h2:i<ws.length:=h2;exact hc i w (by lia) hi t ht
 |n+1,d,ws,wk,hc,hn=>by
  unfold reachF;cases q:ws[d]? with
  |none=>
   intro w hw t ht;obtain⟨i,hi⟩:=C2 hw;have h2:i<ws.length:=(gZ.mp hi).1;have h3:=List.getElem?_eq_none_iff.mp q;exact hc i w (by lia) hi t ht
  |some w0=>
   have hk:=wk.NT w0 (dI q);obtain⟨us,e⟩:=jA (k:=w0.key) (bL ps mn w0.key) ws;refine nJ hv n (d+1) _ (lY _ _ (hv _ hk) wk) (λi w hi hw t ht=>?_) (by lia);have hdl:=(gZ.mp q).1;have hw:((bL ps mn w0.key).foldl (eC w0.key) ws)[i]?=some w:=hw;show t.1∈((bL ps mn w0.key).foldl (eC w0.key) ws).map Wy.key;by_cases hid:i<d
   ·rw[e,Pb (by lia)]at hw;rw[e,bu];exact gG _ (hc i w hid hw t ht)
   ·have ei:i=d:=by lia
    rw[e,ei,Pb hdl,q]at hw;cases hw;exact wG _ _ _ ht
theorem og:∀(n d:Nat) (ws:List Wy),∃us,reachF ps mn n d ws=ws++us
 |0,_,ws=>⟨[],by simp[reachF]⟩
 |n+1,d,ws=>by
  unfold reachF;cases ws[d]? with
  |none=>exact⟨[],by simp⟩
  |some w=>
   obtain⟨us,e⟩:=jA (k:=w.key) (bL ps mn w.key) ws;obtain⟨vs,e2⟩:=og (ps:=ps) (mn:=mn) n (d+1) (gH ps mn ws w.key);exact⟨us++vs,by show reachF ps mn n (d+1) (gH ps mn ws w.key)=_;rw[e2];unfold gH;rw[e,List.append_assoc]⟩
theorem j7:∀{ls:List aF}{rs:List (Int×Int)},rs.length=ls.length->k∈ls->∃x∈rs,br (eB ls rs) [.inr k.1,.inl k.2]=some (.int x.1)
 |[],_,_,hk=>by cases hk
 |l::ls,[],h,_=>by simp at h
 |l::ls,r::rs,h,hk=>by
  have h:rs.length=ls.length:=by simpa using h
  by_cases e:l=k
  ·exact⟨r,ko,cA (by rw[e])⟩
  ·rcases iu.mp hk with y|y
   ·exact absurd y.symm e
   ·obtain⟨x,hx,ex⟩:=j7 h y;refine⟨x,jD _ hx,?_⟩;rw[<-ex];exact cB λy=>e (yc y)
theorem Mj{e st:Int}(h:1<=st/\st<=4):e<=cb e st/\cb e st<=e+3:=by
 have c:st=1\/st=2\/st=3\/st=4:=by lia
 unfold cb;rcases c with rfl|rfl|rfl|rfl<;>lia
theorem AY:∀(ss:List aM) (e:Int),0<=e->(∀s∈ss,(1<=s.step/\s.step<=4)/\s.words.length<=M)->∀x∈bF e ss,0<=x.1/\x.1<=e+((M:Int)+3)*(ss.length:Int)
 |[],_,_,_,x,hx=>by cases hx
 |s::ss,e,h0,h,x,hx=>by
  have m:=Mj (e:=e) (h s ko).1;have w:=(h s ko).2;have ex:((M:Int)+3)*((s::ss).length:Int)=((M:Int)+3)*(ss.length:Int)+((M:Int)+3):=by
   rw[md,Int.natCast_add,Int.mul_add];simp
  have p0:0<=((M:Int)+3)*(ss.length:Int):=Int.mul_nonneg (by lia) (by lia);rcases iu.mp hx with y|y
  ·rw[y,ex];exact⟨by show 0<=cb e s.step;lia,by show cb e s.step<=_;lia⟩
  ·have:=AY ss _ (by lia) (λr hr=>h r (jD _ hr)) x y;rw[ex];exact⟨this.1,by lia⟩
structure MM(M:Nat)(c:Co):Prop where
 aS:∀n∈c.2.1,0<=n.off/\n.off<=100
 aO:∀s∈c.2.2,s.2.2.1.length<=M/\(1<=s.2.1/\s.2.1<=4)/\(∀w∈s.2.2.1,0<=w/\w<=4294967295)/\∀f∈s.2.2.2,0<=f.at_/\f.at_<s.2.2.1.length/\Rz f.rule/\(ir f.rule=false -> -4<=f.add/\f.add<=4)
theorem MM.told(h:MM M (aC p)){n:aw}(hn:n∈p.aS):0<=n.off/\n.off<=100:=h.aS (aw.e n) (aQ.mpr ⟨n,hn,rfl⟩)
theorem MM.st(h:MM M (aC p)){s:aM}(hs:s∈p.aO):s.words.length<=M/\(1<=s.step/\s.step<=4)/\(∀w∈s.words,0<=w/\w<=4294967295)/\∀f∈s.fills,0<=f.at_/\f.at_<s.words.length/\Rz f.rule/\(ir f.rule=false -> -4<=f.add/\f.add<=4):=by
 have g:=h.aO (aM.e s) (aQ.mpr ⟨s,hs,rfl⟩);exact⟨g.1,g.2.1,g.2.2.1,λf hf=>g.2.2.2 (aB.e f) (aQ.mpr ⟨f,hf,rfl⟩)⟩
theorem L8(hn:fW (c6 qs) ms)(hv:∀q∈qs,MM M (aC q)){p:ah}(hp:p∈qs){f:aB}{a:Str}{b c:Int}(h:bE p ms f=some (a,b,c)):0<=c/\c<=100:=by
 unfold bE at h;cases q:p.aS.find? λn=>decide (n.name=f.name)&&decide (n.sort=dM) with
 |some n=>
  rw[q]at h;cases h;exact(hv p hp).told (wF q)
 |none=>
  rw[q]at h;obtain⟨m,hm,e⟩:=eZ.mp h;have ec:m.c=c:=congrArg (·.2.2) e;rcases hn.OG _ m hm with ⟨r,hr,_,_,y⟩|⟨_,r,hr,_,_,y,_⟩
  all_goals
   obtain⟨p',hp',_,n2⟩:=bJ.mp hr;have y2:m.c=r.2.off:=congrArg (·.2.2) y;rw[<-ec,y2];exact(hv p' hp').told n2
theorem Qf(e : -2000<=t - h - 1/\t - h - 1<=2000):wm z h t=true:=by
 unfold wm;split
 ·rw[lx];exact⟨decide_eq_true (by lia),decide_eq_true (by lia)⟩
 ·split
  ·rw[lx];exact⟨decide_eq_true (by lia),decide_eq_true (by lia)⟩
  ·rfl
theorem QL(c:BB qs e)(h:mT qs e ms m ls ss ag)(hv:∀q∈qs,MM M (aC q))(h61:M<=61)(hM:(M+3)*(aA qs).length<=1000):
  (∃n:Int,br ag [.inr m.a,.inl m.b]=some (.int n))/\∀x∈ls.zip (bF 0 ss),Wr qs ms ag x.1 x.2.1:=by
 obtain⟨m',hm',hr⟩:=c.zq h.nm;rw[h.ent]at hm';cases hm';have hv':=c.zT h.nm;have wk:=fE hv' hr;have clo:∀k∈(bc qs ms (m.a,m.b)).map Wy.key,∀t∈bL qs ms k,t.1∈(bc qs ms (m.a,m.b)).map Wy.key:=λk hk t ht=>by
  obtain⟨w,hw,rfl⟩:=aQ.mp hk;exact nJ hv' _ _ _ ⟨by simp,λw hw=>by rw[List.mem_singleton.mp hw];exact hr⟩ (λi w hi=>absurd hi (Nat.not_lt_zero _)) (Nat.lt_succ_self _) w hw t ht
 have root:(m.a,m.b)∈(bc qs ms (m.a,m.b)).map Wy.key:=by
  obtain⟨us,e⟩:=og (ps:=qs) (mn:=ms) ((aA qs).length+1) 0 [⟨(m.a,m.b),none⟩];unfold bc;rw[e];simp
 have inall:∀k∈(bc qs ms (m.a,m.b)).map Wy.key,k∈aA qs:=λk hk=>by
  obtain⟨w,hw,rfl⟩:=aQ.mp hk;exact wk.NT w hw
 obtain⟨so,pm,_,el⟩:=h.ord;have lsIn:∀k∈ls,k∈(bc qs ms (m.a,m.b)).map Wy.key:=λk hk=>by
  rw[el]at hk;rcases bM.mp hk with y|y<;>exact pm.mem_iff.mp (yw.mp y).1
 have inLs:∀k∈(bc qs ms (m.a,m.b)).map Wy.key,k∈ls:=λk hk=>by
  obtain⟨p,hp,n1,i,n2,n3⟩:=eR (inall k hk);have es:eG qs k=some p.aO[i]:=by
   unfold eG;rw[<-n1,jw c.nd hp];show(if 0<=k.2 then p.aO[k.2.toNat]? else none)=_;rw[if_pos (by lia),n2,C0,h9 n3]
  have kd:=(c.jn.aO p hp _ (wR n3)).2.2;have hk':=pm.mem_iff.mpr hk;rw[el];rcases kd with y|y
  ·exact gG _ (yw.mpr ⟨hk',by unfold cU;rw[es];exact decide_eq_true (congrArg some y)⟩)
  ·exact gi _ (yw.mpr ⟨hk',by unfold cU;rw[es];exact decide_eq_true (congrArg some y)⟩)
 have lnd:=yI h.ord wk.nd;have ll:ls.length<=(aA qs).length:=fb lnd λk hk=>inall k (lsIn k hk);have lss:ls.length=ss.length:=by have:=congrArg List.length h.aO;rwa [aD,aD]at this
 have lr:(bF 0 ss).length=ls.length:=by rw[nR,lss]
 have sb:∀s∈ss,(1<=s.step/\s.step<=4)/\s.words.length<=M:=λs hs=>by
  have:some s∈ls.map (eG qs):=by rw[h.aO];exact aQ.mpr ⟨s,hs,rfl⟩
  obtain⟨k,hk,e1⟩:=aQ.mp this;unfold eG at e1;obtain⟨p,hp,e2⟩:=Option.bind_eq_some_iff.mp e1;split at e2
  ·have g:=(hv p (wF hp)).st (dI e2);exact⟨g.2.1,g.1⟩
  ·cases e2
 have lim:((M:Int)+3)*(ss.length:Int)<=1000:=by
  have h1:(M+3)*ss.length<=(M+3)*(aA qs).length:=Nat.mul_le_mul_left _ (by lia);have h2:((M+3)*ss.length:Nat)<=1000:=ia h1 hM;have h3:(((M+3)*ss.length:Nat):Int)=((M:Int)+3)*(ss.length:Int):=by rw[Int.natCast_mul];rfl
  lia
 have plc:∀x∈bF 0 ss,0<=x.1/\x.1<=1000:=λx hx=>by
  have:=AY ss 0 (by lia) sb x hx;lia
 rw[h.ag];refine⟨?_,λx hx=>?_⟩
 ·obtain⟨x,_,ex⟩:=j7 lr (inLs _ root);exact⟨_,ex⟩
 ·obtain⟨k,row⟩:=x;have hz:=List.of_mem_zip hx;have hk:=lsIn k hz.1;have p0:=plc row hz.2;obtain⟨p,hp,n1,i,n2,n3⟩:=eR (inall k hk);have hs:p.aO[k.2.toNat]?=some p.aO[i]:=by rw[n2,C0];exact h9 n3
  have hsm:p.aO[i]∈p.aO:=wR n3;have bp:=c.bn p hp;generalize p.aO[i]=st at hs hsm;have g:=(hv p hp).st hsm;refine⟨p,hp,st,n1,by show 0<=k.2;lia,hs,bp.nm,bp.nd,(bp.ss st hsm).1,(bp.ss st hsm).2,g.2.2.1,λf hf=>?_⟩;have gf:=g.2.2.2 f hf;have rs:=c.res h.nm hp hsm hf;refine⟨gf.1,gf.2.1,gf.2.2.1,rs.1,λa b o ho=>?_⟩;have ha:((a,b),f.at_)∈bL qs ms (k.1,k.2):=by
   rw[kM c.nd hp n1 hs];exact aQ.mpr ⟨(a,b,f.at_),NU.mpr ⟨f,hf,by rw[ho];rfl⟩,rfl⟩
  obtain⟨y,hy,ey⟩:=j7 lr (inLs _ (clo k hk _ ha));have ho':=L8 h.nm hv hp ho;have py:=plc y hy;exact⟨y.1,ey,λhl=>Qf (by have:=gf.2.2.2 hl;have:=g.1;show -2000<=y.1+(o+f.add) - (row.1+f.at_) - 1/\y.1+(o+f.add) - (row.1+f.at_) - 1<=2000;lia)⟩
theorem gS(h:iN G S e T rs)(c:eJ G S e T'):∀p∈T,p∈T':=by
 walk_at "7";have key:∀n i:Nat,i<n->∀p,T[i]?=some p->p∈T':=by
  intro n
  induction n with
  |zero=>intro i hi;lia
  |succ n ih=>
   intro i hi p hp;have hi2:=(gZ.mp hp).1;walk_at "8";generalize rs[i]'(by lia)=r at hr;obtain⟨j1,j2,j3⟩:=h.zO i p r hp hr;have cv:gC G S T' r.2.1:=by
    rcases j3 with ⟨_,b2⟩|⟨q,hq,_,b2⟩
    ·rw[b2];exact c.1
    ·refine c.2 q ?_ _ b2;rcases bM.mp hq with y|y
     ·exact gG _ y
     ·obtain⟨j,hj⟩:=C2 y;have hj2:=(gZ.mp hj).1;rw[jM]at hj2;rw[Vl (by lia)]at hj;exact gi _ (ih j (by lia) q hj)
   rcases cv with a|⟨u,hu,a⟩
   ·rw[j1]at a;cases a
   ·rw[j2]at a;rw[Option.some.inj a];exact hu
 intro p hp;obtain⟨i,hi⟩:=C2 hp;exact key (i+1) i (Jz _) p hi
theorem Ay(h:iN G S' e T' rs)(c:eJ G S e T)(sm:∀z p,p∈T->bw S z=some p->bw S' z=some p):∀p∈T',p∈T:=by
 have hl:rs.length=T'.length:=by have:=congrArg List.length h.len;rwa [aD,aD]at this
 have key:∀n i:Nat,i<n->∀p,T'[i]?=some p->p∈T:=by
  intro n
  induction n with
  |zero=>intro i hi;lia
  |succ n ih=>
   intro i hi p hp;have hi2:=(gZ.mp hp).1;walk_at "8";generalize rs[i]'(by lia)=r at hr;obtain⟨j1,j2,j3⟩:=h.zO i p r hp hr;have cv:gC G S T r.2.1:=by
    rcases j3 with ⟨_,b2⟩|⟨q,hq,_,b2⟩
    ·rw[b2];exact c.1
    ·refine c.2 q ?_ _ b2;rcases bM.mp hq with y|y
     ·exact gG _ y
     ·obtain⟨j,hj⟩:=C2 y;have hj2:=(gZ.mp hj).1;rw[jM]at hj2;rw[Vl (by lia)]at hj;exact gi _ (ih j (by lia) q hj)
   rcases cv with a|⟨u,hu,a⟩
   ·rw[j1]at a;cases a
   ·have:=sm _ u hu a;rw[j2]at this;rw[Option.some.inj this];exact hu
 intro p hp;obtain⟨i,hi⟩:=C2 hp;exact key (i+1) i (Jz i) p hi
theorem Ht(h:iN G S e T rs)(c:eJ G S' e T')(sm:∀z p,p∈T->bw S z=some p->bw S' z=some p):∀p∈T,p∈T':=by
 walk_at "7";have key:∀n i:Nat,i<n->∀p,T[i]?=some p->p∈T':=by
  intro n
  induction n with
  |zero=>intro i hi;lia
  |succ n ih=>
   intro i hi p hp;have hi2:=(gZ.mp hp).1;walk_at "8";generalize rs[i]'(by lia)=r at hr;obtain⟨j1,j2,j3⟩:=h.zO i p r hp hr;have cv:gC G S' T' r.2.1:=by
    rcases j3 with ⟨_,b2⟩|⟨q,hq,_,b2⟩
    ·rw[b2];exact c.1
    ·refine c.2 q ?_ _ b2;rcases bM.mp hq with y|y
     ·exact gG _ y
     ·obtain⟨j,hj⟩:=C2 y;have hj2:=(gZ.mp hj).1;rw[jM]at hj2;rw[Vl (by lia)]at hj;exact gi _ (ih j (by lia) q hj)
   rcases cv with a|⟨u,hu,a⟩
   ·rw[j1]at a;cases a
   ·rw[sm _ p (dI hp) j2]at a;rw[Option.some.inj a];exact hu
 intro p hp;obtain⟨i,hi⟩:=C2 hp;exact key (i+1) i (Jz i) p hi
theorem Fx{T:List Co}(h:(T.map (·.1)).Nodup):T.Nodup:=(Rq.mp h).imp λn e=>n (by rw[e])
theorem kO{T T':List Co}(h:(T.map (·.1)).Nodup)(h':(T'.map (·.1)).Nodup)(a:∀p∈T,p∈T')(b:∀p∈T',p∈T):T.Perm T':=(List.perm_ext_iff_of_nodup (Fx h) (Fx h')).mpr λx=>⟨a x,b x⟩
structure VU(ps qs:List ah)(e:Str)(ms ms':List ay)(m m':ay)(ls ls':List aF)(ss ss':List aM)(ag kvs':List (List Key×V)):Prop where
 lk:∀z,(aL ms' z).map ay.vl=(aL ms z).map ay.vl
 vl:ay.vl m'=ay.vl m
 ls:ls'=ls
 ss:ss'.map aM.e=ss.map aM.e
 ag:kvs'=ag
 rc:bc qs ms' (m'.a,m'.b)=bc ps ms (m.a,m.b)
 kd:∀kd,cU qs kd=cU ps kd
theorem mT.two{ps qs:List ah}{e:Str}{ms ms':List ay}{m m':ay}{ls ls':List aF}{ss ss':List aM}{ag kvs':List 'i'}(c:BB ps e)(pm:(qs.map aC).Perm (ps.map aC))(h:mT ps e ms m ls ss ag)(h':mT qs e ms' m' ls' ss' kvs'):VU ps qs e ms ms' m m' ls ls' ss ss' ag kvs':=by
 have lk:=J3 (c.jn.XZ c.nd c.bn c.bQ) pm h.nm h'.nm;have ev:ay.vl m'=ay.vl m:=by
  have:=lk e;rw[h.ent,h'.ent]at this;exact Option.some.inj this
 have em:(m'.a,m'.b)=(m.a,m.b):=Prod.ext (congrArg (·.1) ev) (congrArg (·.2.1) ev);have ea:bL qs ms'=bL ps ms:=by
  funext k;rw[ot,ot,me c.nd pm,funext lk]
 have er:=CC (r:=(m.a,m.b)) ea (AM pm);have ek:∀kd,cU qs kd=cU ps kd:=λkd=>by
  funext k;unfold cU;have:=congrArg (Option.map (·.1)) (zr c.nd pm k);rw[MS,MS]at this;have this:(eG qs k).map aM.kind=(eG ps k).map aM.kind:=this;rw[this]
 have o':=h'.ord;rw[em,er]at o';have o2:h_ ps ((bc ps ms (m.a,m.b)).map Wy.key) ls':=by
  obtain⟨sk,q1,q2,q3⟩:=o';exact⟨sk,q1,q2,by rw[q3,ek,ek]⟩
 have el:=AX o2 h.ord;subst el;have es:ss'.map aM.e=ss.map aM.e:=by
  have h1:(ls'.map λk=>(eG qs k).map aM.e)=ls'.map λk=>(eG ps k).map aM.e:=Cg λk _=>zr c.nd pm k;have h2:(ls'.map λk=>(eG qs k).map aM.e)=(ss'.map aM.e).map some:=by
   have:=congrArg (List.map (Option.map aM.e)) h'.aO;walk_at "1";rw[cC];exact this
  have h3:(ls'.map λk=>(eG ps k).map aM.e)=(ss.map aM.e).map some:=by
   have:=congrArg (List.map (Option.map aM.e)) h.aO;walk_at "1";rw[cC];exact this
  rw[h2,h3]at h1;exact List.map_inj_right (λ_ _=>Option.some.inj) |>.mp h1
 exact⟨lk,ev,rfl,es,by rw[h'.ag,h.ag,jd 0 es],by rw[em,er],ek⟩
theorem cV.one{ns:List Int}{n a b:Int}(h:cV ns n a)(h':cV ns n b):a=b:=by
 rcases h with ⟨e,rfl⟩|⟨h1,h2⟩
 ·rcases h' with ⟨_,rfl⟩|⟨h3,_⟩
  ·rfl
  ·rw[e]at h3;cases h3
 ·rcases h' with ⟨e,_⟩|⟨h3,h4⟩
  ·rw[e]at h1;cases h1
  ·have:=h2 b h3;have:=h4 a h1;lia
def Z7(c:Option Co)(lk:Str->Option (Str×Int×Int))(pl:Str->Int->Int)(n p0:Int):Kk:=match c with
 |some c=>match c.2.2[n.toNat]? with
  |some s=>gx (Ck c lk) pl p0 s.2.2.1 s.2.2.2
  |none=>([],[])
 |none=>([],[])
theorem CD(p:ah)(ms:List ay)(pl:Str->Int->Int)(p0:Int)(fs:List aB):∀s:Kk,fs.foldl (dw (bE p ms) pl p0) s=(fs.map aB.e).foldl (dw (Ck (aC p) λz=>(aL ms z).map ay.vl) pl p0) s:=by
 induction fs with
 |nil=>intro s;rfl
 |cons f fs ih=>
  intro s;rw[A3,iZ,A3,<-ih];congr 1;unfold dw;rw[xU];rfl
theorem Au(ps:List ah)(ms:List ay)(ag:List 'i')(k:aF)(p0:Int):Km ps ms ag k p0=Z7 ((gE ps k.1).map aC) (λz=>(aL ms z).map ay.vl) (wA ag) k.2 p0:=by
 unfold Km Z7;cases gE ps k.1 with
 |none=>rfl
 |some p=>
  have e:(aC p).2.2[k.2.toNat]?=(p.aO[k.2.toNat]?).map aM.e:=by
   show(p.aO.map aM.e)[k.2.toNat]?=_;rw[gU]
  simp only[Option.map_some,e];cases p.aO[k.2.toNat]? with
  |none=>rfl
  |some st=>exact CD p ms (wA ag) p0 st.fills (st.words,[])
theorem VU.js{ps qs:List ah}{e:Str}{ms ms':List ay}{m m':ay}{ls ls':List aF}{ss ss':List aM}{ag kvs':List 'i'}(t:VU ps qs e ms ms' m m' ls ls' ss ss' ag kvs')(nd:'r'.Nodup)(pm:(qs.map aC).Perm (ps.map aC))(k:aF)(p0:Int):Km qs ms' kvs' k p0=Km ps ms ag k p0:=by
 rw[Au,Au,me nd pm,t.ag,funext t.lk]
theorem ML(nd:'r'.Nodup)(pm:(qs.map aC).Perm (ps.map aC)){ks:List aF}{ss ss':List aM}(h:ks.map (eG ps)=ss.map some)(h':ks.map (eG qs)=ss'.map some):ss'.map aM.e=ss.map aM.e:=by
 have h1:(ks.map λk=>(eG qs k).map aM.e)=ks.map λk=>(eG ps k).map aM.e:=Cg λk _=>zr nd pm k;have h2:(ks.map λk=>(eG qs k).map aM.e)=(ss'.map aM.e).map some:=by
  have:=congrArg (List.map (Option.map aM.e)) h';walk_at "1";rw[cC];exact this
 have h3:(ks.map λk=>(eG ps k).map aM.e)=(ss.map aM.e).map some:=by
  have:=congrArg (List.map (Option.map aM.e)) h;walk_at "1";rw[cC];exact this
 rw[h2,h3]at h1;exact List.map_inj_right (λ_ _=>Option.some.inj) |>.mp h1
theorem R9.one{ps qs:List ah}{e:Str}{ms ms':List ay}{m m':ay}{ls ls':List aF}{ss ss':List aM}{ag kvs':List 'i'}{st sz en st' sz' en':Int}{P P':List (Int×List Int)}{N N':List (Int×Str×Int)}(nd:'r'.Nodup)(pm:(qs.map aC).Perm (ps.map aC))(t:VU ps qs e ms ms' m m' ls ls' ss ss' ag kvs')(h:R9 ps ms m ls ss ag st sz en P N)(h':R9 qs ms' m' ls' ss' kvs' st' sz' en' P' N'):st'=st/\sz'=sz/\en'=en/\P'=P/\N'=N:=by
 have em:(m'.a,m'.b)=(m.a,m.b):=Prod.ext (congrArg (·.1) t.vl) (congrArg (·.2.1) t.vl);have ea:m'.a=m.a:=congrArg (·.1) t.vl;have eb:m'.b=m.b:=congrArg (·.2.1) t.vl;have ec:m'.c=m.c:=congrArg (·.2.2) t.vl;have er:=jd 0 t.ss;refine⟨?_,?_,?_,?_,?_⟩
 ·obtain⟨s1,a1,a2⟩:=h.st;obtain⟨s2,b1,b2⟩:=h'.st;rw[t.rc]at b1;have es:=ML nd pm a1 b1;have:s2.map aM.step=s1.map aM.step:=by
   have:=congrArg (List.map λx:Str×Int×List Int×List aB=>x.2.1) es;walk_at "1";exact this
  rw[this]at b2;exact cV.one b2 a2
 ·obtain⟨l1,s1,a0,a1,a2⟩:=h.sz;obtain⟨l2,s2,b0,b1,b2⟩:=h'.sz;rw[t.rc]at b0;have o2:h_ ps ((bc ps ms (m.a,m.b)).map Wy.key) l2:=by
   obtain⟨sk,q1,q2,q3⟩:=b0;exact⟨sk,q1,q2,by rw[q3,t.kd,t.kd]⟩
  have el:=AX o2 a0;subst el;rw[jd 0 (ML nd pm a1 b1)]at b2;exact cV.one b2 a2
 ·obtain⟨n,a1,a2⟩:=h.en;obtain⟨n',b1,b2⟩:=h'.en;rw[t.ag,ea,eb,a1]at b1;have en:n=n':=by injection b1 with q;injection q
  rw[b2,a2,ec,en]
 ·rw[h'.ps,h.ps,t.ls,er];congr 1;funext x;unfold X6;rw[t.js nd pm]
 ·rw[h'.ns,h.ns,t.ls,er];congr 1;funext x;rw[t.js nd pm]
theorem n9{a b:List Str}(pa:a.Pairwise sH)(pb:b.Pairwise sH)(h:a.Perm b):a=b:=h.eq_of_pairwise (λ_ _ _ _ x y=>Hk x y) pa pb
theorem Iw.c(h:Iw qs e):BB qs e:=⟨h.jn,h.nd,h.bn,h.bQ,h.ent,h.V8⟩
theorem BB.a(h:BB qs e):Iw qs e:=⟨h.jn,h.nd,h.bn,h.bQ,h.ent,h.V8⟩
theorem yD.one{G S S':List Co}{e:Str}{T T':List Co}{a a':HJ}(pT:T'.Perm T)(h:yD G S e T a)(h':yD G S' e T' a'):a'=a:=by
 obtain⟨qs,ms,m,ls,ss,ag,c,pm,mr,wr⟩:=h.wh;obtain⟨qs1,ms1,m1,ls1,ss1,kvs1,c1,pm1,mr1,wr1⟩:=h'.wh;obtain⟨qs2,ms2,m2,ls2,ss2,c2,pm2,mr2⟩:=h.mp;obtain⟨qs3,ms3,m3,ls3,ss3,c3,pm3,mr3⟩:=h'.mp;have pt:=pT.append_left G;have p1:=(pm1.trans pt).trans pm.symm;have p3:=(pm3.trans pt).trans pm2.symm;obtain⟨e1,e2,e3,e4,e5⟩:=wr.one c.nd p1 (mr.two c.c p1 mr1) wr1;have e6:=(mr2.two c2.c p3 mr3).ag;have e7:=n9 h'.ti.1 h.ti.1 ((h'.ti.2.trans (pt.map _)).trans h.ti.2.symm);have e8:=n9 h'.why.1 h.why.1 ((h'.why.2.trans (pT.map _)).trans h.why.2.symm);obtain⟨_,_,_,_,_,_,_,_⟩:=a;obtain⟨_,_,_,_,_,_,_,_⟩:=a';simp only at e1 e2 e3 e4 e5 e6 e7 e8;subst e1 e2 e3 e4 e5 e6 e7 e8;rfl
def Wn(nb:Int)(z:Str):Prop:=∃k:Int,0<=k/\k<12/\z=aP nb k
structure Jn(nb tb:Int)(B:List ah):Prop where
 bQ:B.length<=13
 bn:∀p∈B,yu p
 nd:(B.map ah.name).Nodup
 aS:∀p∈B,∃k:Nat,k<14/\p.name=aP tb k
 wn:∀p∈B,∀z,bH z (aC p)=true->Wn nb z
 jn:Kf B
 cv:∃M:Nat,M<=61/\(M+3)*(aA B).length<=1000/\∀p∈B,MM M (aC p)
 ZL:∃r∈B,∀z,Wn nb z->cD z (aC r)=true
theorem K5(e:∀q∈qs,∃p∈ps,aC q=aC p)(nd:(qs.map ah.name).Nodup):(aA qs).length<=(aA ps).length:=by
 refine fb (Gb nd) λk hk=>?_;obtain⟨q,hq,n1,i,n2,n3⟩:=eR hk;obtain⟨p,hp,c⟩:=e q hq;have:k=(p.name,(i:Int)):=Prod.ext (by rw[<-n1];exact g9 c) n2;rw[this];exact jE.mpr ⟨p,hp,aQ.mpr ⟨i,qV.mpr (by rw[<-yP c];exact n3),rfl⟩⟩
theorem Jn.perm(h:Jn nb tb B)(pm:B'.Perm B):Jn nb tb B':=by
 have nd:(B'.map ah.name).Nodup:=(pm.map _).nodup_iff.mpr h.nd;obtain⟨M,m1,m2,m3⟩:=h.cv;obtain⟨r,hr,tr⟩:=h.ZL;exact⟨by rw[pm.length_eq];exact h.bQ,λp hp=>h.bn p (pm.mem_iff.mp hp),nd,λp hp=>h.aS p (pm.mem_iff.mp hp),λp hp=>h.wn p (pm.mem_iff.mp hp),h.jn.co (λq hq=>⟨q,pm.mem_iff.mp hq,rfl⟩) nd,⟨M,m1,by rw[AM (pm.map aC)];exact m2,λp hp=>m3 p (pm.mem_iff.mp hp)⟩,⟨r,pm.mem_iff.mpr hr,tr⟩⟩
theorem N3{G S qs:List ah}{e:Str}{T:List Co}{rs:List (Str×Str×Str)}(nb:((G++S).map ah.name).Nodup)(tc:iN (G.map aC) (S.map aC) e T rs)(pm:(qs.map aC).Perm (G.map aC++T)):(qs.map ah.name).Nodup:=by
 have e1:qs.map ah.name=(qs.map aC).map (·.1):=by rw[cC];rfl
 have e2:(G.map aC++T).map (·.1)=G.map ah.name++T.map (·.1):=by rw[bu,cC];rfl
 rw[bu]at nb;rw[e1,(pm.map _).nodup_iff,e2];refine gX.mpr ⟨(gX.mp nb).1,tc.nd,λa ha b hb z=>?_⟩;obtain⟨c,hc,rfl⟩:=aQ.mp hb;obtain⟨p,hp,rfl⟩:=aQ.mp (tc.sub c hc);exact(gX.mp nb).2.2 a ha p.name (aQ.mpr ⟨p,hp,rfl⟩) z
theorem Ey(hB:Jn nb tb B)(tk:Fc G S e)(inB:∀T rs,iN (G.map aC) (S.map aC) e T rs->∀c∈G.map aC++T,∃p∈B,c=aC p):Um G S e:=by
 have fr:∀(T:List Co) (rs:List (Str×Str×Str)) (qs:List ah),iN (G.map aC) (S.map aC) e T rs->(qs.map aC).Perm (G.map aC++T)->∀q∈qs,∃p∈B,aC q=aC p:=λT rs qs tc pm q hq=>inB T rs tc (aC q) (pm.mem_iff.mp (aQ.mpr ⟨q,hq,rfl⟩));have jq:UB G S e:=λT rs qs tc cl pm=>hB.jn.co (fr T rs qs tc pm) (N3 tk.nd tc pm);refine⟨tk,jq,λT rs qs ms m ls ss ag tc cl pm mr=>?_⟩;obtain⟨M,m1,m2,m3⟩:=hB.cv;exact QL (jG tk jq tc cl pm) mr (λq hq=>by obtain⟨p,hp,c⟩:=fr T rs qs tc pm q hq;rw[c];exact m3 p hp) m1 (ia (Nat.mul_le_mul_left _ (K5 (fr T rs qs tc pm) (N3 tk.nd tc pm))) m2)
theorem oo(h:bw S z=some p):p∈S:=wF h
theorem Jj{G S:List ah}{r:ah}{z:Str}(hr:r∈G++S)(ht:cD z (aC r)=true):Fd (G.map aC) (S.map aC) z:=by
 have key:∀{l:List ah},r∈l->(bw (l.map aC) z).isSome=true:=λ{l} h=>by
  unfold bw;rw[List.find?_isSome];exact⟨aC r,aQ.mpr ⟨r,h,rfl⟩,ht⟩
 rcases bM.mp hr with y|y
 ·exact .inl (key y)
 ·exact .inr (key y)
theorem Jn.Rk(h:Jn nb tb (G++S))(he:Wn nb e):Um G S e:=by
 obtain⟨r,hr,tr⟩:=h.ZL;have w:∀c∈(G++S).map aC,∀z,bH z c=true->Wn nb z:=λc hc z hz=>by
  obtain⟨p,hp,rfl⟩:=aQ.mp hc;exact h.wn p hp z hz
 rw[bu]at w;have tk:Fc G S e:=⟨by have:=h.bQ;lia,h.bn,h.nd,Jj hr (tr e he),Wn nb,he,λz hz=>Jj hr (tr z hz),λc hc=>w c (gG _ hc),λz c _ _ hc=>w c (gi _ (oo hc))⟩
 refine Ey h tk λT rs tc c hc=>?_;have:c∈(G++S).map aC:=by
  rw[bu];rcases bM.mp hc with y|y
  ·exact gG _ y
  ·exact gi _ (tc.sub c y)
 obtain⟨p,hp,e⟩:=aQ.mp this;exact⟨p,hp,e.symm⟩
theorem Jn.two{nb tb:Int}{G S S':List ah}{e:Str}{T:List Co}(h:Jn nb tb (G++S))(he:Wn nb e){rs:List (Str×Str×Str)}(tc:iN (G.map aC) (S.map aC) e T rs)(cl:eJ (G.map aC) (S.map aC) e T)(sm:∀z p,p∈T->bw (S.map aC) z=some p->bw (S'.map aC) z=some p)(bQ:(G++S').length<=20)(bn:∀p∈S',yu p)(nd:((G++S').map ah.name).Nodup):Um G S' e:=by
 have met:∀{z},gC (G.map aC) (S.map aC) T z->Fd (G.map aC) (S'.map aC) z:=λ{z} c=>by
  rcases c with c|⟨p,hp,c⟩
  ·exact .inl c
  ·exact .inr (by rw[sm z p hp c];rfl)
 have W:Rw (G.map aC) (S'.map aC) e λz=>z=e\/∃q∈G.map aC++T,bH z q=true:=by
  have VM:∀z,(z=e\/∃q∈G.map aC++T,bH z q=true)->gC (G.map aC) (S.map aC) T z:=λz hz=>by
   rcases hz with rfl|⟨q,hq,w⟩
   ·exact cl.1
   ·exact cl.2 q hq z w
  refine⟨.inl rfl,λz hz=>met (VM z hz),λp hp z w=>.inr ⟨p,gG _ hp,w⟩,λz p hz hG hS y w=>?_⟩;rcases VM z hz with c|⟨u,hu,c⟩
  ·rw[hG]at c;cases c
  ·have:=sm z u hu c;rw[hS]at this;have eu:=Option.some.inj this;exact .inr ⟨p,gi _ (eu▸hu),w⟩
 have tk:Fc G S' e:=⟨bQ,λp hp=>(bM.mp hp).elim (λy=>h.bn p (gG _ y)) (bn p),nd,met cl.1,_,W⟩
 refine Ey h tk λT' rs' tc' c hc=>?_;have:c∈(G++S).map aC:=by
  rw[bu];rcases bM.mp hc with y|y
  ·exact gG _ y
  ·exact gi _ (tc.sub c (Ay tc' cl sm c y))
 obtain⟨p,hp,e⟩:=aQ.mp this;exact⟨p,hp,e.symm⟩
theorem mD{α:Type}{q:α->Bool}{p:α}:∀{l' l:List α},l'.Sublist l->l.Nodup->l.find? q=some p->p∈l'->l'.find? q=some p
 |_,_,.slnil,_,h,_=>by cases h
 |_,_,.cons (l₂:=l) x s,nd,h,hp=>by
  rw[mH]at nd;rw[KI]at h;split at h
  ·cases h;exact absurd (s.subset hp) nd.1
  ·exact mD s nd.2 h hp
 |_,_,.cons₂ x s,nd,h,hp=>by
  rw[mH]at nd;rw[KI]at h ⊢;split at h
  ·exact h
  ·rename_i e;have hq:=Kq h;refine mD s nd.2 h ?_;rcases iu.mp hp with y|y
   ·rw[y,e]at hq;cases hq
   ·exact y
theorem BP{S S':List ah}{us:List ah}{z:Str}{p:Co}(s:S'.Sublist S)(nd:(S.map ah.name).Nodup)(h:bw (S.map aC) z=some p)(al:∀u∈S,u.name=p.1->u∈S'):bw ((S'++us).map aC) z=some p:=by
 have ndc:(S.map aC).Nodup:=Fx (by rw[cC];exact nd);have hp:p∈S'.map aC:=by
  obtain⟨u,hu,e⟩:=aQ.mp (oo h);exact aQ.mpr ⟨u,al u hu (by rw[<-e];rfl),e⟩
 have f:=mD (s.map aC) ndc h hp;unfold bw;rw[bu,List.find?_append,f];rfl
theorem BA{l:List Nat}{x:Nat}(h:x∈l):x<=l.sum:=by
 induction l with
 |nil=>cases h
 |cons a l ih=>
  rw[List.sum_cons];rcases iu.mp h with e|e
  ·lia
  ·have:=ih e;lia
theorem keys_cons(p:ah)(ps:List ah):(aA (p::ps)).length=p.aO.length+(aA ps).length:=by
 unfold aA;rw[List.flatMap_cons,dv,aD,Om]
theorem W_:∀ps:List ah,(aA ps).length<=(ps.map ah.size).sum
 |[]=>bS _
 |p::ps=>by
  have:=W_ ps;rw[keys_cons,iZ,List.sum_cons];unfold ah.size;unfold ah.size at this;lia
theorem Aw{p:ah}{s:aM}(h:s∈p.aO):s.words.length+p.aO.length+p.aS.length+1<=p.size:=by
 have:=BA (aQ.mpr ⟨s,h,rfl⟩:s.words.length∈p.aO.map λs=>s.words.length);unfold ah.size;lia
theorem sz2:∀{ps:List ah}{p:ah},p∈ps->s∈p.aO->s.words.length+(aA ps).length<=(ps.map ah.size).sum
 |p0::ps,p,hp,hs=>by
  rw[keys_cons,iZ,List.sum_cons];rcases iu.mp hp with e|e
  ·have a:=W_ ps;have b:=Aw hs;rw[e]at b;lia
  ·have a:=sz2 e hs;have b:p0.aO.length<=p0.size:=by unfold ah.size;lia
   lia
theorem sz3{ps:List ah}{p:ah}(hp:p∈ps):p.size<=(ps.map ah.size).sum:=BA (aQ.mpr ⟨p,hp,rfl⟩)
theorem G4:∀{ss:List aM},(∀s∈ss,s.fills.length<=s.words.length)->(aZ ss).length<=(ss.map λs=>s.words.length).sum
 |[],_=>by simp[aZ]
 |s::ss,h=>by
  have a:=G4 λr hr=>h r (jD _ hr);have b:=h s ko;unfold aZ at a ⊢;rw[List.flatMap_cons,dv,iZ,List.sum_cons];lia
theorem x6.pcb(h:x6 nb p)(hs:p.size<=60):yu p:=by
 have f:=G4 λs hs=>(h.aO s hs).bQ;have sz:1+p.aO.length+(p.aO.map λs=>s.words.length).sum+p.aS.length<=60:=hs;refine⟨by lia,by lia,λs hs'=>?_,by lia,h.nd⟩;have a:=Aw hs';have b:=(h.aO s hs').bQ;lia
theorem x6.VM(h:x6 nb p)(hM:∀s∈p.aO,s.words.length<=M):MM M (aC p):=by
 refine⟨λn hn=>?_,λc hc=>?_⟩
 ·obtain⟨m,hm,rfl⟩:=aQ.mp hn;exact(h.aS m hm).off
 ·obtain⟨s,hs,rfl⟩:=aQ.mp hc;have g:=h.aO s hs;refine⟨hM s hs,g.step,g.words,λf hf=>?_⟩;obtain⟨f',hf',rfl⟩:=aQ.mp hf;obtain⟨i,hi,w⟩:=g.fills f' hf';have wa:f'.at_=i:=w.at_;exact⟨by show 0<=f'.at_;lia,by show f'.at_<s.words.length;lia,w.rule,w.add⟩
theorem x6.wn(h:x6 nb p){z:Str}(hz:bH z (aC p)=true):Wn nb z:=by
 unfold bH at hz;rw[lx]at hz;obtain⟨c,hc,hf⟩:=nj.mp hz.2;obtain⟨s,hs,rfl⟩:=aQ.mp hc;obtain⟨f,hf,e⟩:=nj.mp hf;obtain⟨f',hf',rfl⟩:=aQ.mp hf;rw[lx]at e;have e1:f'.name=z:=of_decide_eq_true e.1;have e2:(aB.e f').soft=false:=by simpa using e.2
 have e2:f'.soft=false:=e2;obtain⟨i,hi,w⟩:=(h.aO s hs).fills f' hf';obtain⟨k,k0,k1,k2⟩:=w.name;exact⟨k,k0,by rcases k2 with y|y;exact y;rw[e2]at y;exact absurd y.2 (by decide),by rw[<-e1];exact k1⟩
theorem Er(h:GD c t p)(z:Str):bH z (aC p)=false:=by
 obtain⟨s,hs,_,hf,_⟩:=h.aO;unfold bH aC;rw[hs];simp[aM.e,hf]
theorem CK(h:GD c t p){z:Str}(hz:Wn c z):cD z (aC p)=true:=by
 refine xJ.mp ?_;obtain⟨k,k0,k1,rfl⟩:=hz;have m:aP c k∈p.aS.map aw.name:=by
  rw[h.aS];exact aQ.mpr ⟨k.toNat,qV.mpr (by lia),by rw[UJ k0]⟩
 obtain⟨n,hn,e⟩:=aQ.mp m;unfold ig;refine aQ.mpr ⟨n,yw.mpr ⟨hn,?_⟩,e⟩;rw[h.weak n hn];decide +kernel
theorem Tx(h:GD c t p):yu p:=by
 obtain⟨s,hs,hw,hf,_⟩:=h.aO;have l:p.aS.length=12:=by have:=congrArg List.length h.aS;rwa [aD,aD,Om]at this
 refine⟨by lia,by rw[hs];simp,λr hr=>?_,by rw[hs];unfold aZ;simp[hf],?_⟩
 ·rw[hs]at hr;rw[cx.mp hr,hw,hf];decide
 ·rw[h.aS];refine Rq.mpr (List.Pairwise.imp_of_mem (λ{a b} ha hb ne e=>?_) (List.nodup_range (n:=12)));have:=d9 (by have:=qV.mp ha;lia) (by have:=qV.mp hb;lia) e;exact ne this
theorem J6.symm(h:J6 p q):J6 q p:=λx hx y hy a b e=>h y hy x hx b a e.symm
theorem y0.bs(d:y0 nb tb n ps N)(hn:n<=58)(hr:GD nb tb r):Jn nb tb (ps++[r]):=by
 have szA:=d.size;have szK:=W_ ps;obtain⟨s0,hs0,hw0,hf0,hk0,hst0⟩:=hr.aO;have K4:∀p∈ps,p.size<=60:=λp hp=>by have:=sz3 hp;lia
 have nmP:∀p∈ps,∃i:Nat,i<ps.length/\p.name=aP tb ((i:Int)*5%13):=λp hp=>by
  have:p.name∈ps.map ah.name:=aQ.mpr ⟨p,hp,rfl⟩;rw[d.names]at this;obtain⟨i,hi,e⟩:=aQ.mp this;exact⟨i,qV.mp hi,e.symm⟩
 have bQ:=d.bQ;have ndP:'r'.Nodup:=by
  rw[d.names];refine Rq.mpr (List.Pairwise.imp_of_mem (λ{a b} ha hb ne e=>?_) List.nodup_range);have ha:=qV.mp ha;have hb:=qV.mp hb;have ea:((a:Int)*5%13)=((a*5%13:Nat):Int):=by lia
  have eb:((b:Int)*5%13)=((b*5%13:Nat):Int):=by lia
  rw[ea,eb]at e;have:=d9 (by lia) (by lia) e;exact ne (by lia)
 have aS:∀p∈ps++[r],∃k:Nat,k<14/\p.name=aP tb k:=λp hp=>by
  rcases bM.mp hp with y|y
  ·obtain⟨i,hi,e⟩:=nmP p y;exact⟨i*5%13,by lia,by rw[e];congr 1⟩
  ·rw[cx.mp y];exact⟨13,by lia,hr.name⟩
 have nd:((ps++[r]).map ah.name).Nodup:=by
  rw[bu];refine gX.mpr ⟨ndP,by simp,λa ha b hb e=>?_⟩;obtain⟨p,hp,rfl⟩:=aQ.mp ha;have eb:b=r.name:=by simpa using hb
  obtain⟨i,hi,e1⟩:=nmP p hp;rw[e1,eb,hr.name,show((i:Int)*5%13)=((i*5%13:Nat):Int) by lia,show(13:Int)=((13:Nat):Int) from rfl]at e;have:=d9 (by lia) (by lia) e;lia
 have wk:∀x∈r.aS,x.sort≠bP:=λx hx e=>by rw[hr.weak x hx]at e;exact absurd e 'e'
 have one:∀p∈ps,∀q∈ps,p.name≠q.name->J6 p q:=λp hp q hq ne=>by
  obtain⟨i,hi,rfl⟩:=AN hp;obtain⟨j,hj,rfl⟩:=AN hq;have pw:=D6.mp d.one;rcases Rt i j with y|y|y
  ·exact pw i j hi hj y
  ·subst y;exact absurd rfl ne
  ·exact(pw j i hj hi y).symm
 have ak:(aA (ps++[r])).length=(aA ps).length+1:=by
  unfold aA;rw[CU,dv];simp[hs0]
 refine⟨by rw[dv];simp;lia,λp hp=>?_,nd,aS,λp hp z hz=>?_,⟨λp hp m hm=>?_,λp hp s hs=>?_,λp hp q hq ne x hx y hy a b=>?_,by rw[ak];lia⟩,⟨59 - (aA ps).length,by lia,?_,λp hp=>?_⟩,⟨r,by simp,λz hz=>CK hr hz⟩⟩
 ·rcases bM.mp hp with y|y
  ·exact(d.ok p y).pcb (K4 p y)
  ·rw[cx.mp y];exact Tx hr
 ·rcases bM.mp hp with y|y
  ·exact(d.ok p y).wn hz
  ·rw[cx.mp y,Er hr]at hz;cases hz
 ·rcases bM.mp hp with y|y
  ·have g:=(d.ok p y).aS m hm;exact⟨g.st.1,g.st.2,g.sort⟩
  ·rw[cx.mp y]at hm ⊢;exact⟨by rw[(hr.off m hm).2.2];lia,by rw[(hr.off m hm).2.2,hs0];simp,.inr (.inl (hr.weak m hm))⟩
 ·rcases bM.mp hp with y|y
  ·have g:=(d.ok p y).aO s hs;exact⟨g.step.1,by have:=g.step.2;lia,g.kind⟩
  ·rw[cx.mp y,hs0]at hs;rw[cx.mp hs,hst0,hk0];exact⟨by decide,by decide,.inr rfl⟩
 ·rcases bM.mp hp with p1|p1
  ·rcases bM.mp hq with q1|q1
   ·exact one p p1 q q1 ne x hx y hy a b
   ·rw[cx.mp q1]at hy;exact absurd b (wk y hy)
  ·rw[cx.mp p1]at hx;exact absurd a (wk x hx)
 ·rw[ak];have dec:∀a:Fin 59,(59 - a.val+3)*(a.val+1)<=1000:=by decide
  exact dec ⟨(aA ps).length,by lia⟩
 ·rcases bM.mp hp with y|y
  ·exact(d.ok p y).VM λs hs=>by have:=sz2 y hs;lia
  ·rw[cx.mp y];refine⟨λm hm=>?_,λc hc=>?_⟩
   ·obtain⟨m',hm',rfl⟩:=aQ.mp hm;have:=hr.off m' hm';exact⟨this.1,by show m'.off<=100;lia⟩
   ·obtain⟨s,hs,rfl⟩:=aQ.mp hc;rw[hs0]at hs;rw[cx.mp hs];refine⟨by show s0.words.length<=_;rw[hw0];simp;lia,by show 1<=s0.step/\s0.step<=4;rw[hst0];decide,λw hw=>?_,λf hf=>?_⟩
    ·have hw:w∈s0.words:=hw;rw[hw0]at hw;rw[cx.mp hw];decide
    ·have hf:f∈s0.fills.map aB.e:=hf;rw[hf0]at hf;cases hf
theorem xf(T:Txt K mg A):aY P w K mg base cF 1 A.way A.Es ["here", "there"] O2:=by
 refine T.gj.ok Pg ?_ ?_;walk_at "k"
 obtain⟨h,t,rfl,k⟩:=h;refine⟨_,(bo (aG (az gq (az gq (pv 1) (pv 0)) af))),?_⟩;walk_at "rd";exact k
theorem Ik(x:Int){y:Int}(hy:0<=y):0<=Builtin.bitAnd x y/\Builtin.bitAnd x y<=y:=by
 open PySem PySem.W PySem.Calls PyProof.Rows in exact bitAnd_range x hy
theorem xM(T:Txt K mg A):aY P w K mg base cF 2 A.Ze A.Jb ["word", "low", "many", "number"] Lv:=by
 refine T.gu.ok EK ?_ ?_;walk_at "k"
 obtain⟨a,l,m,n,rfl,h1,h2,h3,h4,h5,h6,k⟩:=h;refine⟨_,(aU (pS 4 EK.nd (az Gq (pv 0) (iq QV (bO (Bz T) 'a' rfl T.Bu T.iS.kp T.iS.b .nil aq (ao (bO (FQ T) 'a' rfl T.C6 T.lh.kp T.lh.b .nil aq 'v') 'E'))))) (bo (aG (bO (F7 T) 'a' rfl T.FC T.mC.kp T.mC.b .nil aq (ao (az Sg (pv 4) (bO (Bz T) 'a' rfl T.Bu T.iS.kp T.iS.b .nil aq (ao (az Gq (pv 3) (bO (FQ T) 'a' rfl T.C6 T.lh.kp T.lh.b .nil aq 'v')) 'E'))) aa))))),?_⟩;walk_at "rd";have o1:=K3.yU m (by lia);have o2:=Ik n o1.1;have e:=K3.LU (w:=a) (l:=l) (m:=m) (n:=n) rfl h1 h2 h3 h5 h6;rw[Int.fmod_eq_emod_of_nonneg _ (by decide)]at e;rw[<-e]at k;exact⟨by lia,by lia,o1.1,by lia,by lia,by lia,by lia,o2.1,by lia,by lia,k⟩
theorem Dk(T:Txt K mg A){z:Str}{C:Addr}(h:Sz A z C):wD K C/\bI K C "title" := by
 rcases h with ⟨_,e⟩|⟨_,e⟩|⟨_,e⟩|⟨_,e⟩|⟨_,e⟩<;>subst e
 ·exact⟨T.v_,T.vw⟩
 ·exact⟨T.kU,T.mV⟩
 ·exact⟨T.vW,T.qJ⟩
 ·exact⟨T.i7,T.mN⟩
 ·exact⟨T.lB,T.uy⟩
theorem xE(T:Txt K mg A):aY P w K mg base cF 1 A.N8 A.Kc ["self", "title"] (F_ A):=by
 refine T.nV.ok OW ?_ ?_;walk_at "k"
 obtain⟨p,dx,C,z,rfl,hp,hC,k⟩:=h;refine⟨_,(bo (eD (pv 0) (pv 1) rfl)),?_⟩;walk_at "rd";exact⟨C,dx,[],hp,(Dk T hC).1,(Dk T hC).2,by decide,k⟩
theorem Sx(T:Txt K mg A):aY P w K mg base cF 4 A.Xl A.Il ["title"] (KD A):=by
 refine T.Ec.ok Q5 ?_ ?_;walk_at "k"
 obtain⟨z,rfl,hz,k⟩:=h;refine⟨_,(aU (bC (cJ dk (pv 0) a5 (aV _)) (bo (aG (eQ T.OL (xE T) 'a' rfl T.OA T.nV.b .nil aq (ao (pv 0) aa)))) cW) (aU (bC (cJ dk (pv 0) a5 (aV _)) (bo (aG (eQ T.KC (xE T) 'a' rfl T.L_ T.nV.b .nil aq (ao (pv 0) aa)))) cW) (aU (bC (cJ dk (pv 0) a5 (aV _)) (bo (aG (eQ T.Qa (xE T) 'a' rfl T.OZ T.nV.b .nil aq (ao (pv 0) aa)))) cW) (aU (bC (cJ dk (pv 0) a5 (aV _)) (bo (aG (eQ T.Ld (xE T) 'a' rfl T.Lx T.nV.b .nil aq (ao (pv 0) aa)))) cW) (aU (bC (cJ dk (pv 0) a5 (aV _)) (bo (aG (eQ T.Ow (xE T) 'a' rfl T.O8 T.nV.b .nil aq (ao (pv 0) aa)))) cW) (bo dt)))))),?_⟩;walk_at "rd";have go:∀C,Sz A z C->∀(x dx:Addr),H x=none->H dx=none->dx≠x->
   ∃x_1 x_2,upd (upd H dx (HO.own x)) x (HO.ins C dx []) x=some (HO.ins x_2 x_1 [])/\Sz A z x_2/\Q (V.ref x) (upd (upd (upd H dx (HO.own x)) x (HO.ins C dx [])) x (HO.ins x_2 x_1 [(s!"title", V.str z)])):=by
  intro C hc x dx hx hd hne;refine⟨dx,C,aJ,hc,k x _ (λb o e=>?_) ⟨C,dx,hc,aJ⟩⟩;rw[ae (bA e hx),ae (bA e hx),ae (bA e hd)];exact e
 have st:∀{x:Str}{B C:Prop},(z=x->B)->(z≠x->C)->if decide (z=x)=true then B else C:=λh1 h2=>cH (λh=>h1 (of_decide_eq_true h)) (λh=>h2 λe=>h (decide_eq_true e));exact st (λh=>go _ (.inl ⟨h,rfl⟩)) λn1=>st (λh=>go _ (.inr (.inl ⟨h,rfl⟩))) λn2=>st (λh=>go _ (.inr (.inr (.inl ⟨h,rfl⟩)))) λn3=>st (λh=>go _ (.inr (.inr (.inr (.inl ⟨h,rfl⟩))))) λn4=>st (λh=>go _ (.inr (.inr (.inr (.inr ⟨h,rfl⟩))))) λn5=>(hz.elim n1 λh=>h.elim n2 λh=>h.elim n3 λh=>h.elim n4 n5).elim
theorem ME(T:Txt K mg A):aY P w K mg base cF 2 A.VR A.G8 ["self", "word", "here", "there"] (mq TM):=by
 refine T.Gf.ok P_ ?_ ?_;walk_at "k"
 obtain⟨v,a,h,t,rfl,h1,h2,k⟩:=h;refine⟨_,(bo (aG (bO (F7 T) 'a' rfl T.FC T.mC.kp T.mC.b .nil aq 'D'))),?_⟩;walk_at "rd";exact k
theorem NN(T:Txt K mg A):aY P w K mg base cF 3 A.V7 A.G0 ["self", "word", "here", "there"] (mq Uw):=by
 refine T.Dj.ok Qs ?_ ?_;walk_at "k"
 obtain⟨v,a,h,t,rfl,h1,h2,k⟩:=h;refine⟨_,(bo (aG (bO (xM T) 'a' rfl T.x8 T.gu.kp T.gu.b .nil aq (ao (pv 1) (ao af (ao af (ao (az eV (az cG (pv 3) af) af) aa))))))),?_⟩;walk_at "rd";exact⟨⟨by decide,by decide⟩,h1,h2,by decide,by decide,by decide,by decide,k⟩
theorem MC(T:Txt K mg A):aY P w K mg base cF 3 A.V_ A.Dl ["self", "word", "here", "there"] (mq UG):=by
 refine T.HM.ok Oq ?_ ?_;walk_at "k"
 obtain⟨v,a,h,t,rfl,h1,h2,k⟩:=h;refine⟨_,(bo (aG (bO (xM T) 'a' rfl T.x8 T.gu.kp T.gu.b .nil aq (ao (pv 1) (ao af (ao af 'D')))))),?_⟩;walk_at "rd";exact⟨h1,h2,by decide,by decide,by decide,by decide,k⟩
theorem NZ(T:Txt K mg A):aY P w K mg base cF 3 A.VY A.Ke ["self", "word", "here", "there"] (mq QB):=by
 refine T.Dt.ok QN ?_ ?_;walk_at "k"
 obtain⟨v,a,h,t,rfl,h1,h2,k⟩:=h;refine⟨_,(bo (aG (bO (xM T) 'a' rfl T.x8 T.gu.kp T.gu.b .nil aq (ao (pv 1) (ao af (ao af (ao (bO (xf T) 'a' rfl T.xy T.gj.kp T.gj.b .nil aq (ao (pv 2) 'D')) aa))))))),?_⟩;walk_at "rd";exact⟨h1,h2,by decide,by decide,by decide,by decide,k⟩
theorem MW(T:Txt K mg A):aY P w K mg base cF 3 A.VI A.Dg ["self", "word", "here", "there"] (mq Ri):=by
 refine T.Hu.ok HL ?_ ?_;walk_at "k"
 obtain⟨v,a,h,t,rfl,h1,h2,k⟩:=h;refine⟨_,(aU (pS 4 HL.nd (bO (xM T) 'a' rfl T.x8 T.gu.kp T.gu.b .nil aq (ao (pv 1) (ao af (ao af (ao (bO (xf T) 'a' rfl T.xy T.gj.kp T.gj.b .nil aq (ao (pv 2) 'D')) aa)))))) (bo (aG (bO (xM T) 'a' rfl T.x8 T.gu.kp T.gu.b .nil aq (ao (pv 4) (ao af (ao af (ao (az eV (bO (xf T) 'a' rfl T.xy T.gj.kp T.gj.b .nil aq (ao (pv 2) 'D')) af) aa)))))))),?_⟩;walk_at "rd";have r:=K3.iM (n:=t - h - 1) h1 h2 (show(0:Int)<=0 by decide) (show(0:Int)<=7 by decide) (by decide);exact⟨h1,h2,by decide,by decide,by decide,by decide,⟨by decide,by decide⟩,r.1,r.2,by decide,by decide,by decide,by decide,k⟩
theorem HI(T:Txt K mg A):aY P w K mg base cF 1 A.Ro A.FA ["self"] (zK true):=by
 refine T.A7.ok QA ?_ ?_;walk_at "k"
 obtain⟨v,rfl,k⟩:=h;refine⟨_,(bo (aG fU)),?_⟩;walk_at "rd";exact k
theorem U8(T:Txt K mg A):aY P w K mg base cF 1 A.VX A.Eh ["self"] (zK false):=by
 refine T.Oa.ok Qe ?_ ?_;walk_at "k"
 obtain⟨v,rfl,k⟩:=h;refine⟨_,(bo (aG fU)),?_⟩;walk_at "rd";exact k
theorem Uz(T:Txt K mg A):aY P w K mg base cF 1 A.Wg A.Io ["self"] (zK false):=by
 refine T.Nw.ok Px ?_ ?_;walk_at "k"
 obtain⟨v,rfl,k⟩:=h;refine⟨_,(bo (aG fU)),?_⟩;walk_at "rd";exact k
theorem RM(T:Txt K mg A):aY P w K mg base cF 2 A.VJ A.Ih ["self", "here", "there"] (Dr QB):=by
 refine T.Mo.ok Pn ?_ ?_;walk_at "k"
 obtain⟨v,h,t,rfl,k⟩:=h;refine⟨_,(bo (aG (xv zV zV (iq fM af) (bO (xf T) 'a' rfl T.xy T.gj.kp T.gj.b .nil aq (ao (pv 1) 'v')) af))),?_⟩;walk_at "rd";have e:wm QB h t=(decide (-262144<=t - h - 1)&&decide (t - h - 1<=262143)):=by unfold wm;rw[if_pos rfl]
 rw[e]at k;exact cH (λc=>by rw[c]at k;exact k) (λc=>by rw[Bool.eq_false_iff.mpr c]at k;exact k)
theorem SK(T:Txt K mg A):aY P w K mg base cF 2 A.V0 A.JE ["self", "here", "there"] (Dr Ri):=by
 refine T.M8.ok Po ?_ ?_;walk_at "k"
 obtain⟨v,h,t,rfl,k⟩:=h;refine⟨_,(bo (aG (xv zV zV (iq fM af) (bO (xf T) 'a' rfl T.xy T.gj.kp T.gj.b .nil aq (ao (pv 1) 'v')) af))),?_⟩;walk_at "rd";have e:wm Ri h t=(decide (-2048<=t - h - 1)&&decide (t - h - 1<=2047)):=by unfold wm;rw[if_neg (by decide),if_pos rfl]
 rw[e]at k;exact cH (λc=>by rw[c]at k;exact k) (λc=>by rw[Bool.eq_false_iff.mpr c]at k;exact k)
theorem iR(T:Txt K mg A):aY P w K mg base cF 1 A.VT A.Ee ["self", "aimed"] (Ma A):=by
 refine T.h8.ok PK ?_ ?_;walk_at "k"
 obtain⟨x,dx,dN,dP,lp,ll,t,ms,ag,a,b,c,n,rfl,jo,ht,hv,k⟩:=h;refine⟨_,(bo (aG (az cG (dj (bN hr) (ck (pv 0) rfl) (a_ (ao (tx K (pv 1)) (ao (tx K (pv 1)) aa))) (λ_ _=>rfl)) (tx K (pv 1))))),?_⟩;walk_at "rd";refine⟨_,_,_,jo.top,T.bZ,T.ib,_,rfl,_,bg.of ht,_,rfl,_,bg.of ht,_,rfl,by decide,λp hp=>?_⟩;have s1:=aR (o:=.tup [.str a,.int b]) hp;have gg:=bR.t (k:=[.inr a,.inl b]) (s1 _ _ jo.Wh) (aJ (o:=.tup [.str a,.int b]));rw[hv]at gg;exact⟨_,rfl,_,gg,_,bg.of (s1 _ _ ht),_,rfl,_,rfl,_,rfl,k _ s1⟩
theorem Lm{rs:List Int}{i:Int}(h0:0<=i)(h1:i<rs.length):∃v:Int,hW (rs.map V.int) i=some (V.int v)/\rs.getD i.toNat 0=v/\v∈rs:=by
 have hi:i.toNat<rs.length:=by lia
 have e:i=((i.toNat:Nat):Int):=by lia
 refine⟨rs[i.toNat],?_,by rw[Ki,h9 hi];rfl,wR hi⟩;have z:hW (rs.map V.int) ((i.toNat:Nat):Int)=some (V.int rs[i.toNat]):=cw (by rw[gU,h9 hi];rfl);rw[<-e]at z;exact z
theorem jI:∀(fs:List aB) (s:Kk),(fs.foldl (dw res pl p0) s).2.length<=s.2.length+fs.length
 |[],s=>bS _
 |f::r,s=>by
  have h:=jI (res:=res) (pl:=pl) (p0:=p0) r (dw res pl p0 s f);have h1:(dw res pl p0 s f).2.length<=s.2.length+1:=by
   unfold dw;split
   ·exact CV _
   ·split
    ·simp
    ·exact CV _
  rw[A3,md];lia
theorem Cf{z:Str}{w h t:Int}(h1:0<=w)(h2:w<=4294967295):0<=ip z w h t/\ip z w h t<=4294967295:=by
 have r:∀{w l m n:Int},0<=w->w<=4294967295->0<=l->0<=m->l+m<=32->0<=K3.putF w l m n/\K3.putF w l m n<=4294967295:=λa b c d e=>K3.iM a b c d e;unfold ip;split
 ·lia
 split
 ·exact r h1 h2 (by decide) (by decide) (by decide)
 split
 ·exact r h1 h2 (by decide) (by decide) (by decide)
 split
 ·exact r h1 h2 (by decide) (by decide) (by decide)
 ·have a:=r (n:=t - h - 1) h1 h2 (show(0:Int)<=0 by decide) (show(0:Int)<=7 by decide) (by decide);exact r a.1 a.2 (by decide) (by decide) (by decide)
theorem JI.more(h:JI H H1 lw ll vs W n)(s:aI H1 H2):JI H H2 lw ll vs W n:=⟨λb o n1 n2 e=>s _ _ (h.but b o n1 n2 e),s _ _ h.wd,by obtain⟨LS,h1,h2,h3⟩:=h.ln;exact⟨LS,s _ _ h1,λq hq=>s _ _ (h2 q hq),h3⟩,h.len,h.KS⟩
theorem JI.set(h:JI H H1 lw ll vs W n)(ne:lw≠ll)(hv:0<=v/\v<=4294967295):JI H (upd H1 lw (.lst ((W.1.map V.int).set i (.int v)))) lw ll vs (W.1.set i v,W.2) n:=by
 have b:=ff.upd (o:=.lst ((W.1.map V.int).set i (.int v))) h.wd;refine⟨λx o n1 n2 e=>by rw[ae n1];exact h.but x o n1 n2 e,by rw[aJ,List.map_set],?_,by show(W.1.set i v).length=n;rw[List.length_set];exact h.len,λw hw=>?_⟩
 ·obtain⟨LS,h1,h2,h3⟩:=h.ln;exact⟨LS,by rw[ae ne.symm];exact h1,λq hq=>b.tup (h2 q hq),h3⟩
 ·rcases List.mem_or_eq_of_mem_set hw with z|z
  ·exact h.KS w z
  ·rw[z];exact hv
theorem JI.lean(h:JI H H1 lw ll vs W n)(ne:lw≠ll)(hl:H1 ll=some (.lst xs))(ht:H1 t=some (.tup [.int d.1,.str d.2.1,.int d.2.2])):JI H (upd H1 ll (.lst (xs++[V.ref t]))) lw ll vs (W.1,W.2++[d]) n:=by
 have b:=ff.upd (o:=.lst (xs++[V.ref t])) hl;refine⟨λx o n1 n2 e=>by rw[ae n2];exact h.but x o n1 n2 e,by rw[ae ne];exact h.wd,?_,h.len,h.KS⟩;obtain⟨LS,h1,h2,h3⟩:=h.ln;rw[hl]at h1;have e1:xs=vs++LS.map λq=>V.ref q.t:=by injection h1 with h1;injection h1
 refine⟨LS++[⟨t,d⟩],by rw[aJ,e1,bu,yz];rfl,λq hq=>?_,by rw[bu,h3];rfl⟩;rcases bM.mp hq with z|z
 ·exact b.tup (h2 q z)
 ·rw[cx.mp z];exact b.tup ht
theorem UM(T:Txt K mg A):aY P w K mg base cF 5 A.VA A.Gn ["self", "piece", "number", "place"] (QJ A):=by
 refine T.MX.ok fT ?_ ?_;walk_at "k"
 obtain⟨x,dx,dN,dP,lp,ll,ms,ag,p,n,p0,st,us,vs',rfl,jo,pa,nl,nd,hst,sj,hlp,hll,nfp,nfl,lu,lv,k⟩:=h
 refine⟨_,(aU (pS 4 fT.nd (bx 'h' (tx K (pv 1)) (pv 2) (λ_ _=>rfl))) (aU (pS 5 fT.nd (kE (dC (K:=K) rfl) (by rfl) T.uD kI (ao (tx K (pv 4)) aa))) (aU (pS 6 fT.nd (tx K (pv 4))) (fB (aU (pF (Fm rfl T.Oj (ao (pv 6) (ao (bO (FY T) 'a' rfl T.JZ T.lK.kp T.lK.b .nil aq (ao (pv 1) (ao (ck (pv 0) rfl) (ao (pv 6) aa)))) aa))) (bV (K:=K) (n:=2) rfl rfl (dW (pn 7 fT.nd) (dW (pn 8 fT.nd) bX))) (aU (pS 9 fT.nd (tx K (pv 7))) (aU (pS 10 fT.nd (bO (Sx T) 'a' rfl T.Uv T.Ec.kp T.Ec.b .nil aq (ao (tx K (pv 7)) aa))) (aU (pS 11 fT.nd (az cG (pv 3) (pv 9))) (fB (bo (bC (jR (fX (m7 (K:=K) rfl) (by rfl) T.jg iy (ao (pv 8) (ao (AQ rfl T.wL lG UW) aa)))) (bo (zN (Bv (u:=uF A) (dA (d6 (pv 10) T.v_ T.H_ (ME T) 'a' T.Gf.b .nil aq (ao (bx 'h' (pv 5) (pv 9) (λ_ _=>rfl)) (ao (pv 11) (ao (pv 8) aa)))) (dA (d6 (pv 10) T.kU T.Fj (NN T) 'a' T.Dj.b .nil aq (ao (bx 'h' (pv 5) (pv 9) (λ_ _=>rfl)) (ao (pv 11) (ao (pv 8) aa)))) (dA (d6 (pv 10) T.vW T.Dm (MC T) 'a' T.HM.b .nil aq (ao (bx 'h' (pv 5) (pv 9) (λ_ _=>rfl)) (ao (pv 11) (ao (pv 8) aa)))) (dA (d6 (pv 10) T.i7 T.DT (NZ T) 'a' T.Dt.b .nil aq (ao (bx 'h' (pv 5) (pv 9) (λ_ _=>rfl)) (ao (pv 11) (ao (pv 8) aa)))) (d6 (pv 10) T.lB T.I_ (MW T) 'a' T.Hu.b .nil aq (ao (bx 'h' (pv 5) (pv 9) (λ_ _=>rfl)) (ao (pv 11) (ao (pv 8) aa)))))))) ?uf) (zM (pv 5) (pv 9) set_list))) (bo (bC (Bw (u:=uL A) (jR (dA (fj (pv 10) T.v_ T.vC (HI T) 'a' T.A7.b .nil aq ) (dA (fj (pv 10) T.kU T.mL (HI T) 'a' T.A7.b .nil aq ) (dA (fj (pv 10) T.vW T.tq (HI T) 'a' T.A7.b .nil aq ) (dA (fj (pv 10) T.i7 T.Ou (U8 T) 'a' T.Oa.b .nil aq ) (fj (pv 10) T.lB T.OQ (Uz T) 'a' T.Nw.b .nil aq )))))) ?ul) (bo (c8 (cq (ck (pv 0) rfl) (ao (a_ (ao (pv 11) (ao (ck (pv 10) rfl) (ao (d6 (pv 0) T.bZ T.fR (iR T) 'a' T.h8.b .nil aq (ao (pv 8) aa)) aa)))) aa)))) (bo (bC (Bw (u:=uT A) (jR (dA (d6 (pv 10) T.i7 T.OJ (RM T) 'a' T.Mo.b .nil aq (ao (pv 11) (ao (d6 (pv 0) T.bZ T.fR (iR T) 'a' T.h8.b .nil aq (ao (pv 8) aa)) aa))) (d6 (pv 10) T.lB T.Pm (SK T) 'a' T.M8.b .nil aq (ao (pv 11) (ao (d6 (pv 0) T.bZ T.fR (iR T) 'a' T.h8.b .nil aq (ao (pv 8) aa)) aa))))) ?ut) (bo (zN (Bv (u:=uG A) (dA (d6 (pv 10) T.v_ T.H_ (ME T) 'a' T.Gf.b .nil aq (ao (bx 'h' (pv 5) (pv 9) (λ_ _=>rfl)) (ao (pv 11) (ao (d6 (pv 0) T.bZ T.fR (iR T) 'a' T.h8.b .nil aq (ao (pv 8) aa)) aa)))) (dA (d6 (pv 10) T.kU T.Fj (NN T) 'a' T.Dj.b .nil aq (ao (bx 'h' (pv 5) (pv 9) (λ_ _=>rfl)) (ao (pv 11) (ao (d6 (pv 0) T.bZ T.fR (iR T) 'a' T.h8.b .nil aq (ao (pv 8) aa)) aa)))) (dA (d6 (pv 10) T.vW T.Dm (MC T) 'a' T.HM.b .nil aq (ao (bx 'h' (pv 5) (pv 9) (λ_ _=>rfl)) (ao (pv 11) (ao (d6 (pv 0) T.bZ T.fR (iR T) 'a' T.h8.b .nil aq (ao (pv 8) aa)) aa)))) (dA (d6 (pv 10) T.i7 T.DT (NZ T) 'a' T.Dt.b .nil aq (ao (bx 'h' (pv 5) (pv 9) (λ_ _=>rfl)) (ao (pv 11) (ao (d6 (pv 0) T.bZ T.fR (iR T) 'a' T.h8.b .nil aq (ao (pv 8) aa)) aa)))) (d6 (pv 10) T.lB T.I_ (MW T) 'a' T.Hu.b .nil aq (ao (bx 'h' (pv 5) (pv 9) (λ_ _=>rfl)) (ao (pv 11) (ao (d6 (pv 0) T.bZ T.fR (iR T) 'a' T.h8.b .nil aq (ao (pv 8) aa)) aa)))))))) ?ug) (zM (pv 5) (pv 9) set_list))) (bo dt)))))))))))) (fB (bo (bC (jv (pv 5) (λ_=>rfl)) (bo (c8 (cq (ck (pv 0) rfl) (ao (a_ (ao (pv 3) (ao (pv 5) aa))) aa)))) cW)))))))),?main⟩
 case uf=>
  rintro σ H Q ⟨b0,b1,b2,b3,b4,b6,b7,lw,ru,z,ws,a,w,h,t,rfl,⟨C,dx,hC,hp⟩,hl,ha,h1,h2,k⟩;walk_at "rd";rcases hC with ⟨rfl,rfl⟩|⟨rfl,rfl⟩|⟨rfl,rfl⟩|⟨rfl,rfl⟩|⟨rfl,rfl⟩
  ·exact .inl ⟨_,_,hp,rfl,_,aH.of hl,_,ha,w,rfl,h1,h2,k⟩
  ·exact .inr (.inl ⟨_,_,hp,rfl,_,aH.of hl,_,ha,w,rfl,h1,h2,k⟩)
  ·exact .inr (.inr (.inl ⟨_,_,hp,rfl,_,aH.of hl,_,ha,w,rfl,h1,h2,k⟩))
  ·exact .inr (.inr (.inr (.inl ⟨_,_,hp,rfl,_,aH.of hl,_,ha,w,rfl,h1,h2,k⟩)))
  ·exact .inr (.inr (.inr (.inr ⟨_,_,hp,rfl,_,aH.of hl,_,ha,w,rfl,h1,h2,k⟩)))
 case ul=>
  rintro σ H R ⟨b0,b1,b2,b3,b4,b5,b6,b7,b8,b9,b11,ru,z,rfl,⟨C,dx,hC,hp⟩,k⟩;walk_at "rd";rcases hC with ⟨rfl,rfl⟩|⟨rfl,rfl⟩|⟨rfl,rfl⟩|⟨rfl,rfl⟩|⟨rfl,rfl⟩
  ·exact .inl ⟨_,_,hp,rfl,k⟩
  ·exact .inr (.inl ⟨_,_,hp,rfl,k⟩)
  ·exact .inr (.inr (.inl ⟨_,_,hp,rfl,k⟩))
  ·exact .inr (.inr (.inr (.inl ⟨_,_,hp,rfl,k⟩)))
  ·exact .inr (.inr (.inr (.inr ⟨_,_,hp,rfl,k⟩)))
 case ut=>
  rintro σ H R ⟨b1,b2,b3,b4,b5,b6,b7,b9,x,q0,ru,z,h,t,rfl,⟨C,dx,hC,hp⟩,hz,ai,k⟩;walk_at "rd";obtain⟨dx',dN,dP,lp,ll,ms,ag,a,b,c,n,jo,hq,hv,rfl⟩:=ai.ex;rcases hC with ⟨rfl,rfl⟩|⟨rfl,rfl⟩|⟨rfl,rfl⟩|⟨rfl,rfl⟩|⟨rfl,rfl⟩
  ·exact absurd hz (by decide)
  ·exact absurd hz (by decide)
  ·exact absurd hz (by decide)
  ·exact .inl ⟨_,_,hp,rfl,_,_,jo.top,rfl,dx',dN,dP,lp,ll,ms,ag,jo,a,b,c,hq,n,hv,λH' s=>k H' s⟩
  ·exact .inr ⟨_,_,hp,rfl,_,_,jo.top,rfl,dx',dN,dP,lp,ll,ms,ag,jo,a,b,c,hq,n,hv,λH' s=>k H' s⟩
 case ug=>
  rintro σ H Q ⟨b1,b2,b3,b4,b6,b7,x,q0,lw,ru,z,ws,a0,w,h,t,rfl,⟨C,dx,hC,hp⟩,hz,ai,hl,ha,h1,h2,k⟩;walk_at "rd";obtain⟨dx',dN,dP,lp,ll,ms,ag,a,b,c,n,jo,hq,hv,rfl⟩:=ai.ex;rcases hC with ⟨rfl,rfl⟩|⟨rfl,rfl⟩|⟨rfl,rfl⟩|⟨rfl,rfl⟩|⟨rfl,rfl⟩
  ·exact absurd hz (by decide)
  ·exact absurd hz (by decide)
  ·exact absurd hz (by decide)
  ·exact .inr (.inr (.inr (.inl ⟨_,_,hp,rfl,_,aH.of hl,_,ha,_,_,jo.top,rfl,dx',dN,dP,lp,ll,ms,ag,jo,a,b,c,hq,n,hv,λH' s=>⟨w,rfl,h1,h2,k H' s⟩⟩)))
  ·exact .inr (.inr (.inr (.inr ⟨_,_,hp,rfl,_,aH.of hl,_,ha,_,_,jo.top,rfl,dx',dN,dP,lp,ll,ms,ag,jo,a,b,c,hq,n,hv,λH' s=>⟨w,rfl,h1,h2,k H' s⟩⟩)))
 walk_at "rd";have hin:st∈p.aO:=dI hst;have sa:=pa.ss st hin;refine⟨_,bg.of pa.top,_,rfl,_,rfl,_,aH.of pa.sl,_,L2.cw (by rw[gU,hst];rfl),_,rfl,_,bg.of sa.top,_,rfl,_,rfl,_,.inl (aH.of sa.wd),λlw hlw=>⟨_,rfl,_,bg.of (aR hlw _ _ sa.top),_,rfl,bY ?_⟩⟩;have s1:=aR (o:=.lst (st.words.map V.int)) hlw;have e1:upd H lw (.lst (st.words.map V.int)) lw=some (.lst (st.words.map V.int)):=aJ;generalize upd H lw (.lst (st.words.map V.int))=H1 at *;walk_at "rd";have jo1:Pq A H1 x dx dN dP lp ll ms ag:=⟨s1 _ _ jo.top,jo.tab.mono s1,s1 _ _ jo.Wh,jo.ne⟩
 refine⟨_,_,_,jo1.top,T.bZ,T.jC,_,rfl,p,rfl,dN,rfl,pa.mono s1,nl,nd,st.fills,ms,jo1.tab,s1 _ _ sa.fl,sj.fl,λf hf=>⟨s1 _ _ (sa.fs f hf),(sj.fs f hf).2.2.2.1⟩,λl' ys H2 s2 hl' hyl hy hln=>?_⟩;have nw:lw≠ll:=(bA hll hlw).symm;have nwp:lw≠lp:=(bA hlp hlw).symm;have s12:=s1.trans s2;have i0:JI H2 H2 lw ll vs' (st.words,[]) st.words.length:=⟨λ_ _ _ _ e=>e,s2 _ _ e1,⟨[],by rw[List.map_nil,nY];exact s12 _ _ hll,(λq hq=>by cases hq),rfl⟩,rfl,sj.wr⟩
 have lf2:=s12 _ _ sa.fl;have nlf:st.lf≠lw:=bA sa.fl hlw;have kl:∀{H3:Hp}{W:Kk},JI H2 H3 lw ll vs' W st.words.length->∀b o,(∀xs,o≠.lst xs)->H2 b=some o->H3 b=some o:=λji b o n e=>ji.but b o (cj e (s2 _ _ e1) (n _)) (cj e (s12 _ _ hll) (n _)) e;refine Ku.of (xs:=st.fills.map aB.v) (ys:=ys) (by rw[aD,hyl]) (aH.of lf2) (aH.of hl') (λj σ H3=>∃a7 a8 a9 a10 a11,σ=[some (V.ref x),some p.v,some (V.int n),some (V.int p0),some (V.ref st.t),some (V.ref lw),some (V.ref st.lf),a7,a8,a9,a10,a11]/\JI H2 H3 lw ll vs' ((st.fills.take j).foldl (dw (bE p ms) (wA ag) p0) (st.words,[])) st.words.length/\H3 st.lf=some (.lst (st.fills.map aB.v))/\H3 l'=some (.lst ys)) ⟨_,_,_,_,_,rfl,i0,lf2,hl'⟩ (λj σ H3 _ ⟨_,_,_,_,_,_,_,h1,h2⟩=>⟨aH.of h1,aH.of h2⟩) ?_ ?_
 ·rintro j fv v7 σ H3 r hf hv7 ⟨a7,a8,a9,a10,a11,rfl,ji,hlf3,hl3⟩ hr3;rw[gU]at hf;obtain⟨f,hfj,rfl⟩:=eZ.mp hf;have hfm:f∈st.fills:=dI hfj;obtain⟨g1,g2,g3,g4,g5⟩:=sj.fs f hfm;have av:=hy j f v7 hfj hv7;rw[List.take_add_one,hfj,show(some f).toList=[f] from rfl,OD];have hw2:((st.fills.take j).foldl (dw (bE p ms) (wA ag) p0) (st.words,[])).2.length<=61:=ia (jI _ _) (by have:=sj.fl;rw[jM];show 0+_<=_;lia);generalize ((st.fills.take j).foldl (dw (bE p ms) (wA ag) p0) (st.words,[]))=W at *;walk_at "rd";have u1:=aR (o:=.tup [f.v,v7]) hr3;have er:upd H3 r (.tup [f.v,v7]) r=some (.tup [f.v,v7]):=aJ;have fa:=u1 _ _ (kl ji _ _ (by intro _ z;cases z) (s12 _ _ (sa.fs f hfm)));generalize upd H3 r (.tup [f.v,v7])=H4 at *;refine⟨_,bg.of er,rfl,_,_,rfl,_,_,rfl,rfl,_,rfl,_,bg.of fa,_,rfl,_,rfl,_,bg.of fa,_,rfl,_,rfl,g3,λru H5 s5 hru=>⟨_,rfl,bY ?_⟩⟩;have u5:=u1.trans s5;have ji5:=ji.more u5;have jo5:Pq A H5 x dx dN dP lp ll ms ag:=⟨u5 _ _ (kl ji _ _ (by intro _ z;cases z) (s12 _ _ jo.top)),⟨u5 _ _ (kl ji _ _ (by intro _ z;cases z) (s12 _ _ jo.tab.top)),λm hm=>u5 _ _ (kl ji _ _ (by intro _ z;cases z) (s12 _ _ (jo.tab.at_ m hm)))⟩,u5 _ _ (kl ji _ _ (by intro _ z;cases z) (s12 _ _ jo.Wh)),jo.ne⟩
  have lf5:=u5 _ _ hlf3;have l5:=u5 _ _ hl3;have nl':l'≠lw/\l'≠ll:=⟨(bA e1 hln).symm,(bA (s1 _ _ hll) hln).symm⟩
  obtain⟨wv,hwa,hwg,hwm⟩:=Lm (rs:=W.1) (i:=f.at_) g1 (by rw[ji.len];exact g2);have wr:=ji.KS wv hwm;have put:∀(t:Int) (H6:Hp),aI H5 H6->dw (bE p ms) (wA ag) p0 W f=(W.1.set f.at_.toNat (ip f.rule wv (p0+f.at_) t),W.2)->JI H2 (upd H6 lw (.lst ((W.1.map V.int).set f.at_.toNat (.int (ip f.rule wv (p0+f.at_) t))))) lw ll vs' ([f].foldl (dw (bE p ms) (wA ag) p0) W) st.words.length:=λt H6 s6 e=>by
   rw[A3,List.foldl_nil,e];exact(ji5.more s6).set nw (Cf wr.1 wr.2)
  have ixs:C1 (W.1.map V.int).length f.at_=some f.at_.toNat:=by
   unfold C1;rw[if_pos g1,if_pos (by rw[aD,ji.len];exact g2)]
  rcases av with ⟨a,b,c,q0,hres,rfl,hq0⟩|⟨hres,rfl⟩
  ·walk_at "rd";have hq5:=u5 _ _ (kl ji _ _ (by intro _ z;cases z) hq0);obtain⟨kp_,hkp,hfit⟩:=g5 a b c hres;have ekp:wA ag a b=kp_:=by unfold wA;rw[hkp]
   have ai:We A H5 x q0 (kp_+(c+f.add)):=⟨_,_,_,_,_,_,_,_,_,_,_,jo5,hq5,hkp,rfl⟩
   refine⟨_,.tup hq5,false,rfl,WA ⟨_,_,_,_,_,_,_,_,_,_,_,ru,f.rule,rfl,hru,cH (λhl=>?_) (λhl=>?_)⟩⟩
   ·obtain⟨LS,hls,_,hld⟩:=ji5.ln;obtain⟨C,rdx,hC,hrp⟩:=hru;obtain⟨rc1,rc2⟩:=Dk T hC;refine⟨_,_,_,jo5.top,T.bZ,T.eh,_,rfl,.inl ⟨rfl,_,aH.of hls⟩,_,_,_,hrp,rc1,rc2,_,rfl,_,_,jo5.top,rfl,dx,dN,dP,lp,ll,ms,ag,jo5,a,b,_,hq5,kp_,hkp,λH6 s6=>⟨by decide,λq1 hq1=>?_⟩⟩;have s7:=s6.trans (aR (o:=.tup [.int (p0+f.at_),.str f.rule,.int (kp_+(c+f.add))]) hq1);have e7:upd H6 q1 (.tup [.int (p0+f.at_),.str f.rule,.int (kp_+(c+f.add))]) q1=some (.tup [.int (p0+f.at_),.str f.rule,.int (kp_+(c+f.add))]):=aJ;generalize upd H6 q1 (.tup [.int (p0+f.at_),.str f.rule,.int (kp_+(c+f.add))])=H7 at *;have h7:=s7 _ _ hls;refine⟨ll,rfl,_,h7,?_,?_,by rw[ae nfl];exact s7 _ _ lf5,by rw[ae nl'.2];exact s7 _ _ l5⟩
    ·have:=congrArg List.length hld;rw[aD]at this;rw[sizeLine_eq,dv,aD];lia
    ·rw[A3,List.foldl_nil,show dw (bE p ms) (wA ag) p0 W f=(W.1,W.2++[(p0+f.at_,f.rule,kp_+(c+f.add))]) by unfold dw;rw[hres];show(if _ then _ else _)=_;rw[if_pos hl,ekp]];exact(ji5.more s7).lean nw h7 e7
   ·have hl:=Bool.eq_false_iff.mpr hl;refine⟨_,_,_,_,_,_,_,_,x,q0,ru,f.rule,_,_,rfl,hru,hl,ai,λH6 s6=>?_⟩;dsimp only;rw[hfit hl,if_pos rfl];have hru6:Rc A H6 f.rule ru:=by obtain⟨C,rdx,hC,hrp⟩:=hru;exact⟨C,rdx,hC,s6 _ _ hrp⟩
    have ai6:We A H6 x q0 (kp_+(c+f.add)):=⟨_,_,_,_,_,_,_,_,_,_,_,⟨s6 _ _ jo5.top,jo5.tab.mono s6,s6 _ _ jo5.Wh,jo5.ne⟩,s6 _ _ hq5,hkp,rfl⟩
    refine⟨_,_,_,_,_,_,x,q0,lw,ru,f.rule,W.1,f.at_,wv,_,_,rfl,hru6,hl,ai6,s6 _ _ ji5.wd,hwa,wr.1,wr.2,λH7 s7=>?_⟩;walk_at "rd";have s67:=s6.trans s7;exact⟨_,s67 _ _ ji5.wd,_,ixs,put _ H7 s67 (by unfold dw;rw[hres];show(if _ then _ else _)=_;rw[if_neg (by rw[hl];decide),hwg,ekp]),by rw[ae nlf];exact s67 _ _ lf5,by rw[ae nl'.1];exact s67 _ _ l5⟩
  ·walk_at "rd";refine⟨_,.int _,true,rfl,YE ⟨_,_,_,_,_,_,_,lw,ru,f.rule,W.1,f.at_,wv,_,_,rfl,hru,ji5.wd,hwa,wr.1,wr.2,?_⟩⟩;walk_at "rd";exact⟨_,ji5.wd,_,ixs,put _ H5 (λ_ _ e=>e) (by unfold dw;rw[hres];show(_,_)=_;rw[hwg]),by rw[ae nlf];exact lf5,by rw[ae nl'.1];exact l5⟩
 ·rintro σ H3 ⟨a7,a8,a9,a10,a11,rfl,ji,_,_⟩;rw[aD,kD]at ji;dsimp only;refine bY ?_;walk_at "rd";have eW:gx (bE p ms) (wA ag) p0 st.words st.fills=st.fills.foldl (dw (bE p ms) (wA ag) p0) (st.words,[]):=rfl;rw[<-eW]at ji;generalize gx (bE p ms) (wA ag) p0 st.words st.fills=W at *;have kb:HU H H3 lp ll:=λb o n1 n2 e=>ji.but b o (bA e hlw) n2 (s12 _ _ e);have hlp3:=ji.but lp _ nwp.symm jo.ne (s12 _ _ hlp);obtain⟨LS,hls,hla,hld⟩:=ji.ln;refine⟨_,.inl ⟨_,aH.of ji.wd,rfl⟩,?_⟩;by_cases hw:W.1=[]
  ·rw[hw,if_neg (by simp)];exact k [] LS H3 kb (by rw[List.map_nil,nY];exact hlp3) hls (λq hq=>by cases hq) hla hld (by rw[if_pos hw];rfl)
  ·rw[if_pos (by cases h:W.1 with|nil=>exact absurd h hw|cons a l=>rfl)];have jt:=kl ji _ _ (by intro _ z;cases z) (s12 _ _ jo.top);refine⟨_,_,_,jt,T.bZ,T.fD,_,rfl,.inl ⟨rfl,_,aH.of hlp3⟩,by decide,λq1 hq1=>?_⟩;have s7:=aR (o:=.tup [.int p0,.ref lw]) hq1;have e7:upd H3 q1 (.tup [.int p0,.ref lw]) q1=some (.tup [.int p0,.ref lw]):=aJ;generalize upd H3 q1 (.tup [.int p0,.ref lw])=H7 at *;have h7:=s7 _ _ hlp3;refine⟨lp,rfl,_,h7,by rw[sizeLine_eq];lia,k [⟨q1,lw,p0,W.1⟩] LS _ (λb o n1 n2 e=>by rw[ae n1];exact s7 _ _ (kb b o n1 n2 e)) aJ (by rw[ae jo.ne.symm];exact s7 _ _ hls) (λq hq=>?_) (λq hq=>(ff.upd h7).tup (s7 _ _ (hla q hq))) hld (by rw[if_neg hw];rfl)⟩;rw[cx.mp hq];exact⟨⟨(ff.upd h7).tup e7,by rw[ae nwp];exact s7 _ _ ji.wd⟩,nwp,nw⟩
theorem U3(T:Txt K mg A):aY P w K mg base cF 6 A.VG A.Gg ["self", "pieces", "names", "rows"] (D4 A):=by
 refine T.M9.ok rY ?_ ?_;walk_at "k"
 obtain⟨x,dx,L,dN,a,ps,ms,ks,rs,ag,rfl,hx,pc,bQ,nd,tab,la,lr,ndk,ek,hrw,k⟩:=h;refine⟨_,(aU (eD (pv 0) (pv 2) rfl) (aU (eD (pv 0) (kE (mF rfl hr.units) (by rfl) T.zD vI 'D') rfl) (fB (aU (eD (pv 0) (aW aa) rfl) (aU (eD (pv 0) (aW aa) rfl) (fB (aU (pS 4 rY.nd (bO (A8 T) 'a' rfl T.Bi T.jr.kp T.jr.b .nil aq 'E')) (fB (bo (pF (cN (K:=K) rfl (pv 3)) (bV (K:=K) (n:=2) rfl rfl (dW (pn 5 rY.nd) (dW (pn 6 rY.nd) bX))) (bo (c8 (d6 (pv 0) T.bZ T.PM (UM T) 'a' T.MX.b .nil aq (ao (dj (bN hr) (pv 4) (tx K (pv 5)) (λ_ _=>rfl)) (ao (tx K (pv 5)) (ao (pv 6) aa)))))))))))))))),?_⟩;walk_at "rd";refine⟨_,_,_,hx,T.bZ,T.jC,(by show 0<1000;decide),?_⟩;generalize gH1:upd H x _=H1 at *;have k1:∀b o,b≠x->H b=some o->H1 b=some o:=λb o n e=>by rw[<-gH1,ae n];exact e
 have x1:H1 x=some (.ins A.cM dx [("names", .ref dN)]):=by rw[<-gH1,aJ];rfl
 have nx:∀{b:Addr}{o:HO},H b=some o->(∀c u v,o≠.ins c u v)->b≠x:=λe n=>cj e hx (n _ _ _);have ll:∀{b:Addr}{xs:List V},H b=some (.lst xs)->b≠x:=λe=>nx e (by intro _ _ _ z;cases z);have tl:∀{b:Addr}{xs:List V},H b=some (.tup xs)->b≠x:=λe=>nx e (by intro _ _ _ z;cases z);refine⟨rs.map λr=>(r.t,r.b,[.inr r.k.1,.inl r.k.2],.int r.p),?_,?_,by rw[aD];lia,λdP hdP=>?_⟩
 ·rw[cC];exact aH.of (k1 _ _ (ll la.top) la.top)
 ·intro t ht;obtain⟨r,hr,rfl⟩:=aQ.mp ht;exact⟨k1 _ _ (tl (la.row r hr)) (la.row r hr),k1 _ _ (tl (la.key r hr)) (la.key r hr)⟩
 have ep:(rs.map λr=>(r.t,r.b,([.inr r.k.1,.inl r.k.2]:List Key),V.int r.p)).map (λx=>x.2.2)=ag:=by rw[ek,cC];rfl
 rw[ep,jX _ [] (by
  rw[List.nil_append,ek,cC];have:(((rs.map (·.k)).map λk:aF=>([.inr k.1,.inl k.2]:List Key))).Nodup:=List.Pairwise.map _ (λp q h e=>h (by
   have e:([.inr p.1,.inl p.2]:List Key)=[.inr q.1,.inl q.2]:=e;simp at e;exact Prod.ext e.1 e.2)) ndk
  rw[cC]at this;exact this),List.nil_append]
 have xd:x≠dP:=bA x1 hdP;refine⟨_,_,_,by rw[ae xd];exact x1,T.bZ,T.ib,(by show 1<1000;decide),bY ?_⟩;generalize gH2:upd (upd H1 dP _) x _=H2 at *;have k2:∀b o,b≠x->H b=some o->H2 b=some o:=λb o n e=>by rw[<-gH2,ae n,ae (bA (k1 b o n e) hdP)];exact k1 b o n e
 have x2:H2 x=some (.ins A.cM dx [("names", .ref dN),("places", .ref dP)]):=by rw[<-gH2,aJ];rfl
 have p2:H2 dP=some (.dT ag):=by rw[<-gH2,ae xd.symm,aJ]
 walk_at "rd";refine⟨d_ _,λlp hlp=>?_⟩;have xp:x≠lp:=bA x2 hlp;refine⟨_,_,_,by rw[ae xp];exact x2,T.bZ,T.fD,(by show 2<1000;decide),d_ _,λl3 hl3=>?_⟩;generalize gH3:upd (upd H2 lp _) x _=H3 at *;have x3:H3 x=some (.ins A.cM dx [("names", .ref dN),("places", .ref dP),("parts", .ref lp)]):=by rw[<-gH3,aJ];rfl
 have k23:∀b o,b≠x->H2 b=some o->H3 b=some o:=λb o n e=>by rw[<-gH3,ae n,ae (bA e hlp)];exact e
 have lp3:H3 lp=some (.lst []):=by rw[<-gH3,ae xp.symm,aJ]
 have xl:x≠l3:=bA x3 hl3;refine⟨_,_,_,by rw[ae xl];exact x3,T.bZ,T.eh,(by show 3<1000;decide),bY ?_⟩;generalize gH4:upd (upd H3 l3 _) x _=H4 at *;have x4:H4 x=some (.ins A.cM dx [("names", .ref dN),("places", .ref dP),("parts", .ref lp),("leaning", .ref l3)]):=by rw[<-gH4,aJ];rfl
 have k34:∀b o,b≠x->H3 b=some o->H4 b=some o:=λb o n e=>by rw[<-gH4,ae n,ae (bA e hl3)];exact e
 have l4:H4 l3=some (.lst []):=by rw[<-gH4,ae xl.symm,aJ]
 have k4:∀b o,b≠x->H b=some o->H4 b=some o:=λb o n e=>k34 b o n (k23 b o n (k2 b o n e));have lp4:=k34 _ _ xp.symm lp3;have p4:=k34 _ _ xd.symm (k23 _ _ xd.symm p2);have npl:lp≠l3:=bA lp3 hl3;have fr:∀{b:Addr}{o:HO},H b=some o->b≠x->b≠lp/\b≠l3:=λe n=>⟨bA (k2 _ _ n e) hlp,bA (k23 _ _ n (k2 _ _ n e)) hl3⟩;have nolp:H lp=none:=by
  cases e:H lp with
  |none=>rfl
  |some o=>exact absurd rfl (fr e xp.symm).1
 have nol3:H l3=none:=by
  cases e:H l3 with
  |none=>rfl
  |some o=>exact absurd rfl (fr e xl.symm).2
 have tab4:Tab H4 dN ms:=⟨k4 _ _ (nx tab.top (by intro _ _ _ z;cases z)) tab.top,λm hm=>k4 _ _ (tl (tab.at_ m hm)) (tab.at_ m hm)⟩
 have at4:∀p∈ps,p.At H4:=λp hp=>by
  have h:=pc.at_ p hp;exact⟨k4 _ _ (tl h.top) h.top,k4 _ _ (ll h.sl) h.sl,k4 _ _ (ll h.nl) h.nl,λs hs=>⟨k4 _ _ (tl (h.ss s hs).top) (h.ss s hs).top,k4 _ _ (ll (h.ss s hs).wd) (h.ss s hs).wd,k4 _ _ (ll (h.ss s hs).fl) (h.ss s hs).fl,λf hf=>k4 _ _ (tl ((h.ss s hs).fs f hf)) ((h.ss s hs).fs f hf)⟩,λn hn=>k4 _ _ (tl (h.ns n hn)) (h.ns n hn)⟩
 walk_at "rd";refine⟨ps,⟨k4 _ _ (ll pc.top) pc.top,at4,pc.nd⟩,bQ,λdb H5 s5 hdb hdn=>bY ?_⟩;walk_at "rd";have k5:∀b o,b≠x->H b=some o->H5 b=some o:=λb o n e=>s5 _ _ (k4 b o n e);have x5:=s5 _ _ x4;have lp5:=s5 _ _ lp4;have l5:=s5 _ _ l4;have ndb:db≠lp/\db≠l3:=⟨(bA lp4 hdn).symm,(bA l4 hdn).symm⟩
 refine fH.of (xs:=rs.map λr=>V.ref r.t) (λi σ H'=>∃(PS:List PX) (LS:List yF) (b5 b6:Option V),σ=[some (.ref x),some (.ref L),some (.ref dN),some (.ref a),some (.ref db),b5,b6]/\HU H5 H' lp l3/\H' lp=some (.lst (PS.map λq=>V.ref q.t))/\H' l3=some (.lst (LS.map λq=>V.ref q.t))/\(∀q∈PS,q.At H'/\q.lw≠lp/\q.lw≠l3)/\(∀q∈LS,q.At H')/\PS.map (λq=>(q.pl,q.ws))=(rs.take i).flatMap (XA ps ms ag)/\LS.map yF.d=(rs.take i).flatMap (λr=>(V1 ps ms ag r).2)/\PS.length<=i/\LS.length<=61*i) ⟨[],[],_,_,rfl,λ_ _ _ _ e=>e,lp5,l5,(λq h=>by cases h),(λq h=>by cases h),rfl,rfl,bS _,d_ _⟩ ?_ ?_ ?_
 ·rintro i σ H' hi ⟨_,_,_,_,_,fr',_⟩;have n:=fr la.top (ll la.top);exact aH.of (fr' _ _ n.1 n.2 (k5 _ _ (ll la.top) la.top))
 ·rintro i v σ H' hv ⟨PS,LS,b5,b6,rfl,fr',hp',hl',ap,al,ep',el,np,nl⟩;have hi:i<rs.length:=by have:=(gZ.mp hv).1;rwa [aD]at this
  walk_at "4";obtain⟨r,hr',rfl⟩:=eZ.mp hv;have hm:=dI hr';obtain⟨p,hp,st,e1,e2,hst,nl1,nd1,sj⟩:=(hrw r hm).ex;have up:∀{b:Addr}{o:HO},b≠x->H b=some o->H' b=some o:=λn e=>fr' _ _ (fr e n).1 (fr e n).2 (k5 _ _ n e);have ra:=up (tl (la.row r hm)) (la.row r hm);have rb:=up (tl (la.key r hm)) (la.key r hm);have h:=pc.at_ p hp;have pa:p.At H':=⟨up (tl h.top) h.top,up (ll h.sl) h.sl,up (ll h.nl) h.nl,λs hs=>⟨up (tl (h.ss s hs).top) (h.ss s hs).top,up (ll (h.ss s hs).wd) (h.ss s hs).wd,up (ll (h.ss s hs).fl) (h.ss s hs).fl,λf hf=>up (tl ((h.ss s hs).fs f hf)) ((h.ss s hs).fs f hf)⟩,λn hn=>up (tl (h.ns n hn)) (h.ns n hn)⟩
  have sf:=(h.ss st (dI hst)).fl;have nf:=fr sf (ll sf);have dg:bR H' db (V.str r.k.1) (some p.v):=by
   have:=bR.k (k:=(.inr r.k.1:Key)) (fr' _ _ ndb.1 ndb.2 hdb);rw[<-e1,jO nd hp,e1]at this;exact this
  have ej:V1 ps ms ag r=gx (bE p ms) (wA ag) r.p st.words st.fills:=by
   show Km _ _ _ _ _=_;unfold Km;rw[<-e1,jw nd hp];dsimp only;rw[hst]
  have jo':Pq A H' x dx dN dP lp l3 ms ag:=⟨fr' _ _ xp xl x5,⟨up (nx tab.top (by intro _ _ _ z;cases z)) tab.top,λm hm=>up (tl (tab.at_ m hm)) (tab.at_ m hm)⟩,fr' _ _ (bA p2 hlp) (bA (k23 _ _ xd.symm p2) hl3) (s5 _ _ p4),npl⟩
  have etn:r.k.2=(r.k.2.toNat:Int):=(UJ e2).symm;walk_at "rd";refine⟨_,bg.of ra,rfl,_,_,rfl,_,_,rfl,rfl,_,_,jo'.top,rfl,_,rfl,_,bg.of rb,_,rfl,_,dg,_,rfl,_,bg.of rb,_,rfl,_,_,_,_,_,_,_,p,rfl,r.k.2.toNat,by rw[<-etn],_,rfl,jo',pa,nl1,nd1,st,hst,sj,_,hp',_,hl',nf.1,nf.2,by rw[aD];lia,by rw[aD];lia,λPS' LS' H6 f6 hp6 hl6 ap' al' el' ep6=>?_⟩;rw[<-ej]at el' ep6;have c1:PS'.length<=1:=by
   have:=congrArg List.length ep6;rw[aD]at this;rw[this];split
   ·exact d_ _
   ·exact bS _
  have c2:LS'.length<=61:=by
   have:=congrArg List.length el';rw[aD,ej]at this;rw[this];exact ia (jI _ _) (by have:=sj.fl;show 0+_<=_;lia)
  have tn:∀{b:Addr}{xs:List V},H' b=some (.tup xs)->H6 b=some (.tup xs):=λe=>f6 _ _ (cj e hp' 'k') (cj e hl' 'k') e;refine⟨λb o n1 n2 e=>f6 b o n1 n2 (fr' b o n1 n2 e),PS++PS',by rw[bu];exact hp6,LS++LS',by rw[bu];exact hl6,λq hq=>?_,λq hq=>?_,?_,?_,by rw[dv];lia,by rw[dv];lia⟩
  ·rcases bM.mp hq with z|z
   ·obtain⟨⟨q1,q2⟩,q3,q4⟩:=ap q z;exact⟨⟨tn q1,f6 _ _ q3 q4 q2⟩,q3,q4⟩
   ·exact ap' q z
  ·rcases bM.mp hq with z|z
   ·exact tn (al q z)
   ·exact al' q z
  ·rw[bu,ep',ep6,List.take_add_one,hr',CU];show _=_++(XA ps ms ag r++[]);rw[nY];rfl
  ·rw[bu,el,el',List.take_add_one,hr',CU];show _=_++((V1 ps ms ag r).2++[]);rw[nY]
 ·rintro σ H' ⟨PS,LS,b5,b6,rfl,fr',hp',hl',ap,al,ep',el,np,nl⟩;rw[aD,kD]at ep' el;walk_at "rd";have up:∀{b:Addr}{o:HO},b≠x->H b=some o->H' b=some o:=λn e=>fr' _ _ (fr e n).1 (fr e n).2 (k5 _ _ n e);exact k dP lp l3 PS LS H' (λb o n e=>up n e) ⟨fr' _ _ xp xl x5,⟨up (nx tab.top (by intro _ _ _ z;cases z)) tab.top,λm hm=>up (tl (tab.at_ m hm)) (tab.at_ m hm)⟩,fr' _ _ (bA p2 hlp) (bA (k23 _ _ xd.symm p2) hl3) (s5 _ _ p4),npl⟩ hp' hl' (λq hq=>(ap q hq).1) al ep' el nolp nol3
theorem UC(T:Txt K mg A):aY P w K mg base cF 8 A.Xb A.Ds ["given", "shelves", "entry"] (PD A):=by
 refine T.Iy.ok j9 ?_ ?_;walk_at "k"
 obtain⟨g,s',e,G,xs,rfl,hP,hJ,hK,hT,hN,ne,k⟩:=h;refine⟨_,(aU (pS 3 j9.nd (bO (qi T) 'a' rfl T.uN T.fN.kp T.fN.b .nil aq (ao (pv 0) (ao (pv 1) 'v')))) (aU (pS 4 j9.nd (bO (MD T) 'a' rfl T.MJ T.yf.kp T.yf.b .nil aq 'D')) (aU (pS 5 j9.nd (bO (Ei T) 'a' rfl T.Jq T.my.kp T.my.b .nil aq (ao (pv 3) (ao (pv 4) 'v')))) (aU (pS 6 j9.nd (eQ T.OP (U3 T) 'a' rfl T.PZ T.M9.b .nil aq (ao (pv 3) (ao (pv 4) (ao (bO (E9 T) 'a' rfl T.J8 T.l9.kp T.l9.b .nil aq (ao (pv 3) (ao (pv 5) aa))) aa))))) (aU (pS 7 j9.nd (d6 (pv 6) T.bZ T.fR (iR T) 'a' T.h8.b .nil aq (ao (dj (bN hr) (pv 4) (pv 2) (λ_ _=>rfl)) aa))) (bo (aG (a_ (ao (bO (Vp T) 'a' rfl T.U7 T.DZ.kp T.DZ.b .nil aq (ao (pv 3) (ao (pv 5) aa))) (ao (bO (SW T) 'a' rfl T.Tu T.Jt.kp T.Jt.b .nil aq (ao (pv 3) (ao (pv 5) aa))) (ao (pv 7) (ao (ck (pv 6) rfl) (ao (ck (pv 6) rfl) aa))))))))))))),?_⟩;walk_at "rd";refine⟨G,xs,hP,hT,λl Tc rs qs H1 x1 t1 pc fr tc cl pm pw=>?_⟩;have c:=jG hP.2.2 hJ tc cl pm;have tn1:=jL hN ne hT x1
 refine⟨qs,⟨pc.top,pc.at_⟩,c.jn.XZ c.nd c.bn c.bQ,tn1,λd ms H2 x2 t2 tab nm hd=>?_⟩;have tt2:=jL t1 (Ne.symm ne) tn1 x2;have q1:bD H H1:=by obtain⟨_,e,_⟩:=id hT;exact Jc e x1
 have q2:bD H1 H2:=by obtain⟨_,e,_⟩:=id tn1;exact Jc e x2
 obtain⟨m,hm,hin⟩:=c.zq nm;walk_at "10";refine⟨qs,ms,pre,m,hm,hin,λl2 ks H3 s3 f3 hk ek=>?_⟩;have wok:=fE (c.zT nm) hin;have kn:(ks.map (·.2)).Nodup:=by rw[ek];exact wok.nd
 have kl:ks.length<63:=by
  have h1:=wok.len;have h2:=c.jn.all;have h3:=congrArg List.length ek;rw[aD,aD]at h3;lia
 have p3:=pre.K4.mono s3;have bQ:=c.bQ;have ksn:∀q∈ks,(eG qs q.2).isSome=true:=λq hq=>Af c.nd (by
  have:q.2∈ks.map (·.2):=aQ.mpr ⟨q,hq,rfl⟩;rw[ek]at this;obtain⟨y,hy,e⟩:=aQ.mp this;rw[<-e];exact wok.NT y hy)
 refine⟨qs,ks.map (·.2),⟨l,l2,ks,rfl,rfl,p3,by lia,c.Jv p3.at_,hk,by lia,ksn⟩,λl3 rows H4 s4 f4 la x dx hx hdx ndx=>?_⟩;obtain⟨ss,e1,e2⟩:=la.lay;have Lg:(bF 0 ss).length=(rows.map (·.k)).length:=by rw[<-e2,aD,aD]
 have rl:=la.len;rw[aD]at rl;have ep:(rows.map λr=>(([.inr r.k.1,.inl r.k.2]:List Key),V.int r.p))=eB (rows.map (·.k)) (bF 0 ss):=by
  unfold eB;rw[<-e2,List.zip_map',cC];rfl
 have mr:mT qs e ms m (rows.map (·.k)) ss (eB (rows.map (·.k)) (bF 0 ss)):=⟨nm,hm,by rw[<-ek];exact la.ord,by rw[cC];exact e1,rfl⟩
 obtain⟨⟨n0,hn0⟩,hrw⟩:=hK Tc rs qs ms m _ ss _ tc cl pm mr;rw[<-ep]at mr hrw hn0;have sx:aI H4 (upd (upd H4 dx (HO.own x)) x (HO.ins A.cM dx [])):=(aR hdx).trans (aR (by rw[ae ndx.symm];exact hx));have xa:upd (upd H4 dx (HO.own x)) x (HO.ins A.cM dx []) x=some (HO.ins A.cM dx []):=aJ;generalize upd (upd H4 dx (HO.own x)) x (HO.ins A.cM dx [])=H5 at *;have p5:=(p3.mono s4).mono sx;have s35:=s4.trans sx;refine⟨dx,xa,qs,p5,by lia,c.nd,ms,pre.tab.mono (s3.trans s35),_,rows,⟨sx _ _ la.top,λr hr=>sx _ _ (la.row r hr),λr hr=>sx _ _ (la.key r hr),la.ord,la.lay⟩,by lia,yI la.ord kn,λr hr=>hrw (r.k,(r.p,r.e)) ?_,λdP lp ll PS LS H6 k6 jo hp6 hl6 ap al eP eL _ _=>?_⟩
 ·rw[<-e2,List.zip_map'];exact aQ.mpr ⟨r,hr,rfl⟩
 have s46:aI H4 H6:=λb o e=>k6 b o (bA e hx) (sx _ _ e);have s26:=(s3.trans s4).trans s46;have tab6:=pre.tab.mono s26;have ma:=tab6.at_ m (AA hm);have dg:bR H6 d (V.str e) (some (V.ref m.t)):=by
  have:=bR.k (k:=.inr e) tab6.top;rw[DX,hm]at this;exact this
 have ly:∀H',aI H6 H'->Wd H' [V.ref l,V.ref l2] qs (ks.map (·.2)):=λH' s=>⟨l,l2,ks,rfl,rfl,(pre.K4.mono s26).mono s,by lia,c.Jv ((pre.K4.mono s26).mono s).at_,⟨(s4.trans s46).trans s _ _ hk.1,λq hq=>(s4.trans s46).trans s _ _ (hk.2 q hq)⟩,by lia,ksn⟩;refine⟨_,_,jo.top,rfl,_,dg,dx,d,dP,lp,ll,m.t,rfl,ms,_,jo,m.a,m.b,m.c,ma,n0,hn0,λH7 s7=>⟨qs,_,ly H7 s7,λst H8 s8 hst=>⟨qs,_,ly H8 (s7.trans s8),λsz H9 s9 hsz=>?_⟩⟩⟩;have s69:=(s7.trans s8).trans s9;have x9:=s69 _ _ jo.top;refine⟨_,_,_,x9,T.bZ,T.fD,_,rfl,_,_,_,x9,T.bZ,T.eh,_,rfl,by walk_at "s", λt ht=>?_⟩;have sA:=aR (o:=HO.tup [V.int st,V.int sz,V.int (n0+m.c),V.ref lp,V.ref ll]) ht;have s6A:=s69.trans sA;have s2A:=s26.trans s6A;refine k t lp ll PS LS st sz _ Tc rs qs ms m _ ss _ _ ((q1.trans q2).trans (bD.of s2A)) (tt2.more s2A) (t2.more s2A) ?_ aJ (s6A _ _ hp6) (s6A _ _ hl6) (λq hq=>⟨s6A _ _ (ap q hq).1,s6A _ _ (ap q hq).2⟩) (λq hq=>s6A _ _ (al q hq)) tc cl pm mr ⟨?_,?_,⟨n0,hn0,rfl⟩,?_,?_⟩
 ·exact Ao hT x1 (Ao tn1 x2 (bW (s26.trans s69) ht) t2) t1
 ·rw[<-ek];exact hst
 ·rw[<-ek];obtain⟨a,b,c,d,e⟩:=hsz;exact⟨a,c,b,d,e⟩
 ·rw[eP,<-e2,List.zip_map',List.flatMap_map]
 ·rw[eL,<-e2,List.zip_map',List.flatMap_map]
theorem LM(h0:0<=i)(h5:i<5):∃z:Str,hW [V.str s!"whole",V.str s!"high",V.str s!"low",V.str s!"near",V.str s!"split"] i=some (.str z)/\Rz z/\ir z=decide (i<3):=by
 rcases (by lia:i=0\/i=1\/i=2\/i=3\/i=4) with rfl|rfl|rfl|rfl|rfl
 ·exact⟨_,rfl,.inl rfl,by decide +kernel⟩
 ·exact⟨_,rfl,.inr (.inl rfl),by decide +kernel⟩
 ·exact⟨_,rfl,.inr (.inr (.inl rfl)),by decide +kernel⟩
 ·exact⟨_,rfl,.inr (.inr (.inr (.inl rfl))),by decide +kernel⟩
 ·exact⟨_,rfl,.inr (.inr (.inr (.inr rfl))),by decide +kernel⟩
theorem UA(T:Txt K mg A):aY P w K mg base cF 2 A.XU A.EX ["_law_stretch", "_law_cell", "_law_number", "_law_names_by"] yS:=by
 refine T.DJ.ok iI ?_ ?_;walk_at "k"
 obtain⟨t,lw,lf,c,m,nb,st,kd,ws,fs,rfl,m0,ht,hlw,hlf,ne,wl,fl,k1,k2⟩:=h
 refine⟨_,(aU (pS 4 iI.nd 'B') (aU (pS 5 iI.nd (bx 'h' (aW (ao a5 (ao a5 (ao a5 (ao a5 (ao a5 aa)))))) (az ba (pv 2) af) (λ_ _=>rfl))) (aU (pS 6 iI.nd (Pl (gQ kr (az ba (pv 2) af) af (aV _)) (OV (gQ dk (az ba (az eV (pv 2) af) af) af (aV _))))) (fB (aU (pS 7 iI.nd (az gq (az ba (az eV (pv 2) af) af) af)) (aU (bC (PW.pt (wx (cJ kr (az ba (pv 2) af) af (aV _)) (kR (cJ dk (az ba (az eV (pv 2) af) af) af (aV _))))) (bo (pS 7 iI.nd (az gq (az ba (az eS (az eV (pv 2) af) af) af) af))) cW) (fB (aU (bC (cJ Je (az ba (pv 1) af) af (aV _)) (aU (pS 8 iI.nd (bO (i8 T) 'a' rfl T.iX T.dh.kp T.dh.b .nil aq (ao (pv 3) (ao (az ba (az eV (pv 2) af) (az cG af (az eS af (kE jS (by rfl) T.wL lG (ao (pv 6) aa))))) aa)))) (bo (c8 (cq 'B' (ao (a_ (ao (fX (b_ (K:=K) rfl) (by rfl) T.gm eg (ao (pv 4) aa)) (ao (pv 5) (ao (pv 8) (ao (pv 7) (ao (pv 6) aa)))))) aa))))) cW) (bo (c8 (cq (pv 4) (ao (az ba (az eS (pv 1) af) af) aa)))))))))))),?_⟩;walk_at "rd"
 refine⟨_,bg.of ht,_,rfl,by walk_at "s", λp hp=>?_⟩;obtain⟨z,hz,iz,lz⟩:=LM (i:=m%5) (by lia) (by lia);have s1:=aR (o:=HO.lst [V.str s!"whole",V.str s!"high",V.str s!"low",V.str s!"near",V.str s!"split"]) hp;have e1:upd H p (HO.lst [V.str s!"whole",V.str s!"high",V.str s!"low",V.str s!"near",V.str s!"split"]) p=some (HO.lst [V.str s!"whole",V.str s!"high",V.str s!"low",V.str s!"near",V.str s!"split"]):=aJ;generalize upd H p (HO.lst [V.str s!"whole",V.str s!"high",V.str s!"low",V.str s!"near",V.str s!"split"])=H1 at *;refine⟨by decide,_,aH.of e1,_,hz,by decide,?_⟩;generalize hB:hold _=B;generalize hD:Ends.mk _ _ _ _=D
 suffices main:∀b:Bool,(b=true->m%5<3)->B D [some (V.ref t),some (V.int c),some (V.int m),some (V.int nb),some (V.ref lw),some (V.str z),some (V.bl b),none,none] H1 by
  refine cH (λq=>⟨⟨by decide,by decide⟩,by decide,main _ λ_=>of_decide_eq_true q⟩) λq=>main _ λh=>nomatch h
 intro b hb;rw[<-hB,<-hD];refine bY ?_;walk_at "rd";refine⟨⟨by decide,by decide⟩,by decide,by decide,?_⟩;generalize hB:hold _=B;generalize hD:Ends.mk _ _ _ _=D
 suffices main:∀ad:Int,(ir z=false -> -4<=ad/\ad<=4) -> -2147483648<=ad->ad<=2147483647->B D [some (V.ref t),some (V.int c),some (V.int m),some (V.int nb),some (V.ref lw),some (V.str z),some (V.bl b),some (V.int ad),none] H1 by
  refine cH (λq=>⟨⟨by decide,by decide⟩,by decide,cH (λ_=>⟨⟨by decide,by decide⟩,.inr ⟨by decide,by decide⟩,by decide,main _ (λh=>?_) (by lia) (by lia)⟩) λ_=>main _ (λ_=>by lia) (by lia) (by lia)⟩) λq=>main _ (λ_=>by lia) (by lia) (by lia);rw[lz,q]at h;cases h
 intro ad ha hlo hhi;rw[<-hB,<-hD];refine bY ?_;walk_at "rd";have kk:0<(12+3*if b=true then (1:Int) else 0)/\0<=m/7%(12+3*if b=true then (1:Int) else 0)/\(m/7%(12+3*if b=true then (1:Int) else 0)<12\/m/7%(12+3*if b=true then (1:Int) else 0)<15/\b=true):=by
  cases b
  ·rw[if_neg (by decide)];lia
  ·rw[if_pos rfl];refine⟨by decide,by lia,.inr ⟨by lia,rfl⟩⟩
 have cm:La 3 (if b=true then (1:Int) else 0):=.inl ⟨by decide,by decide⟩;generalize m/7%(12+3*if b=true then (1:Int) else 0)=k0 at *;have w0:0<=c*48271%4294967296/\c*48271%4294967296<=4294967295:=by lia
 have lw1:=s1 _ _ hlw;refine⟨by decide,cH (λ_=>⟨⟨by decide,by decide⟩,cm,kk.1,kk.2.1,by lia,_,bg.of (s1 _ _ ht),_,rfl,.inl ⟨rfl,_,aH.of (s1 _ _ hlf)⟩,_,.inl ⟨_,aH.of lw1,rfl⟩,by walk_at "s", λq hq=>?_⟩) λ_=>⟨.inl ⟨rfl,_,aH.of lw1⟩,.inr ⟨by decide,by decide⟩,by decide,_,lw1,by rw[sizeLine_eq];lia,k1 _ _ s1 w0.1 w0.2⟩⟩;have s2:=aR (o:=HO.tup [V.int ↑ws.length,V.str z,V.str (aP nb k0),V.int ad,V.bl b]) hq;have e2:upd H1 q (HO.tup [V.int ↑ws.length,V.str z,V.str (aP nb k0),V.int ad,V.bl b]) q=some (HO.tup [V.int ↑ws.length,V.str z,V.str (aP nb k0),V.int ad,V.bl b]):=aJ;generalize upd H1 q (HO.tup [V.int ↑ws.length,V.str z,V.str (aP nb k0),V.int ad,V.bl b])=H2 at *;have lw2:upd H2 lf (HO.lst (fs++[V.ref q])) lw=some (.lst ws):=by rw[ae ne];exact s2 _ _ lw1
 exact⟨lf,rfl,_,s2 _ _ (s1 _ _ hlf),by rw[sizeLine_eq];lia,.inl ⟨rfl,_,aH.of lw2⟩,.inr ⟨by decide,by decide⟩,by decide,_,lw2,by rw[sizeLine_eq];lia,k2 _ ⟨q,ws.length,z,aP nb k0,ad,b⟩ H2 'S' w0.1 w0.2 e2 ⟨rfl,iz,⟨k0,kk.2.1,rfl,kk.2.2⟩,ha,hlo,hhi⟩ (bW s1 hq)⟩
theorem Sl(T:Txt K mg A):aY P w K mg base cF 2 A.WQ A.Ka ["_law_names_by", "_law_titles_by"] IK:=by
 refine T.Gu.ok Jm ?_ ?_;walk_at "k"
 obtain⟨c,t,rfl,k⟩:=h;refine⟨_,(aU (fC (i:=2) Jm.nd rfl 'z' (iE (own:=["_law_k"]) (fr:=["_law_names_by"]) (fm:=[0]) rfl 'e' 'e' 'e' (.cons rfl 'z' rfl .nil)) rfl (g8 rfl T.kJ (ao af aa)) (λ_ _ _=>⟨(pn 0 'g'),cu,(a_ (ao (bO (i8 T) 'a' rfl T.iX T.dh.kp T.dh.b .nil aq (ao (pv 1) (ao (pv 0) aa))) (ao a5 (ao af (ao (az eV (pv 0) af) aa)))))⟩)) (bo (aG (a_ (ao (bO (i8 T) 'a' rfl T.iX T.dh.kp T.dh.b .nil aq (ao (pv 1) (ao af aa))) (ao (aW (ao (a_ (ao a5 (ao af (ao (aW (ao af aa)) (ao (aW aa) aa))))) aa)) 'v')))))),?_⟩;walk_at "rd";refine Bx.of (by decide) (by decide) (λD i ys H'=>∃ns:List aw,ys=ns.map aw.v/\aI H H'/\H' D=some (.lst ys)/\(∀n∈ns,n.At H')/\ns.map aw.name=(List.range i).map (λk:Nat=>aP c k)/\∀n∈ns,n.sort=s!"weak" /\ 0<=n.off/\n.off<=1/\n.st=0)
  (λD hD=>⟨[],rfl,aR hD,aJ,(λn hn=>by cases hn),rfl,(λn hn=>by cases hn)⟩) (λD i ys H' hD hi ⟨ns,e,s1,h1,ha,hn,hw⟩=>⟨h1,by have:=congrArg List.length hn;rw[aD,aD,Om]at this;rw[e,aD,this];exact bS _⟩) ?_ ?_
 ·rintro D i ys H' hD hi ⟨ns,rfl,s1,h1,ha,hn,hw⟩;have hi:i<12:=by lia
  walk_at "rd";refine⟨.no (.yes .nil),by lia,by lia,⟨by decide,by decide⟩,by walk_at "s", λq hq=>?_⟩;have s2:=aR (o:=HO.tup [V.str (aP c i),V.str s!"weak",V.int 0,V.int ((i:Int)/6)]) hq;have eq:upd H' q (HO.tup [V.str (aP c i),V.str s!"weak",V.int 0,V.int ((i:Int)/6)]) q=some (HO.tup [V.str (aP c i),V.str s!"weak",V.int 0,V.int ((i:Int)/6)]):=aJ;generalize upd H' q (HO.tup [V.str (aP c i),V.str s!"weak",V.int 0,V.int ((i:Int)/6)])=H2 at *;have bt:ff H2 (upd H2 D (HO.lst (ns.map aw.v++[V.ref q]))) D:=ff.upd (s2 _ _ h1);refine⟨s2 _ _ h1,ns++[⟨q,aP c i,s!"weak", 0,(i:Int)/6⟩],by rw[bu];rfl,e_ hD 'S',aJ,λn hn'=>?_,?_,λn hn'=>?_⟩
  ·rcases bM.mp hn' with z|z
   ·exact aw.At.but (aw.At.mono (ha n z) s2) bt
   ·rw[cx.mp z];exact bt.tup eq
  ·rw[bu,hn,List.range_succ,bu];rfl
  ·rcases bM.mp hn' with z|z
   ·exact hw n z
   ·rw[cx.mp z];refine⟨rfl,?_,?_,rfl⟩
    ·show(0:Int)<=(i:Int)/6;lia
    ·show(i:Int)/6<=1;lia
 ·rintro D ys H' hD ⟨ns,rfl,s1,h1,ha,hn,hw⟩;refine⟨by decide,by decide,by walk_at "s", λlw g1=>⟨d_ _,λlf g2=>⟨by rw[sizeLine_eq];decide,λst g3=>⟨by rw[sizeLine_eq];decide,λls g4=>⟨by rw[sizeLine_eq];decide,λtp g5=>?_⟩⟩⟩⟩⟩;have t1:=aR (o:=HO.lst [V.int 5]) g1;have t2:=aR (o:=HO.lst []) g2;have t3:=aR (o:=HO.tup [V.str s!"data",V.int 1,V.ref lw,V.ref lf]) g3;have t4:=aR (o:=HO.lst [V.ref st]) g4;have t5:=aR (o:=HO.tup [V.str (aP t 13),V.ref ls,V.ref D]) g5;have tA:=((((t1.trans t2).trans t3).trans t4).trans t5)
  have u1:=s1.free g1;have u2:=(s1.trans t1).free g2;have u4:=((s1.trans t1).trans (t2.trans t3)).free g4;refine k ⟨tp,ls,D,aP t 13,[⟨st,lw,lf,s!"data", 1,[5],[]⟩],ns⟩ _ (s1.trans tA) ⟨aJ,t5 _ _ aJ,tA _ _ h1,λq hq=>?_,λn hn'=>aw.At.mono (ha n hn') tA⟩ ⟨rfl,hn,λn hm=>(hw n hm).1,⟨_,rfl,rfl,rfl,rfl,rfl⟩,λn hm=>(hw n hm).2⟩ (λb hb=>?_) ?_
  ·rw[cx.mp hq];exact⟨t5 _ _ (t4 _ _ aJ),t5 _ _ (t4 _ _ (t3 _ _ (t2 _ _ aJ))),t5 _ _ (t4 _ _ (t3 _ _ aJ)),(λf hf=>by cases hf)⟩
  ·simp[ah.lists,aM.lists]at hb;rcases hb with e|e|e|e<;>rw[e]<;>assumption
  ·have n1:D≠lw:=bA h1 g1;have n2:D≠lf:=bA (t1 _ _ h1) g2;have n4:D≠ls:=bA ((t1.trans (t2.trans t3)) _ _ h1) g4;have n5:lw≠lf:=bA aJ g2;have n6:lw≠ls:=bA ((t2.trans t3) _ _ aJ) g4;have n7:lf≠ls:=bA (t3 _ _ aJ) g4;simp[ah.lists,aM.lists,n1,n2,n4.symm,n5,n6.symm,n7.symm]
theorem A9{z:Str}{xs:List Str}:Vv (.str z) (xs.map V.str)=true↔z∈xs:=by
 unfold Vv;rw[List.any_map,nj];constructor
 ·rintro⟨y,hy,e⟩;have:y=z:=by simpa [Function.comp,HV] using e
  exact this▸hy
 ·intro h;exact⟨z,h,by simp[Function.comp,HV]⟩
theorem eF{α:Type}{xs:List α}{x:α}:hW (xs++[x]) (-1)=some x:=by
 unfold hW C1;rw[if_neg (by decide),if_pos (by simp;omega)];show(xs++[x])[(-1+((xs++[x]).length:Int)).toNat]?=some x;have e:(-1+((xs++[x]).length:Int)).toNat=xs.length:=by simp;lia
 rw[e];simp
theorem R_(T:Txt K mg A):aY P w K mg base cF 2 A.Xp A.JW ["_law_pieces", "_law_strong", "_law_number", "_law_names_by"] zk:=by
 refine T.II.ok mm ?_ ?_;walk_at "k"
 obtain⟨L,d,m,nb,ps,p,ss,st,N,rfl,m0,hP,hst,b1,b2,b3,b4,b5,hd,k0,k1⟩:=h;refine⟨_,(aU (pS 4 mm.nd (bx 'h' (pv 0) (iq fM af) (λ_ _=>rfl))) (aU (pS 5 mm.nd (bO (i8 T) 'a' rfl T.iX T.dh.kp T.dh.b .nil aq (ao (pv 3) (ao (az ba (az eV (pv 2) af) af) aa)))) (aU (pS 6 mm.nd (bx 'h' (aW (ao a5 (ao a5 (ao a5 aa)))) (az ba (pv 2) af) (λ_ _=>rfl))) (fB (aU (bC (PW.pt (wx (cJ dk (pv 6) a5 (aV _)) (kR (iD (zL (bN hr) (pv 5) (pv 1)))))) (bo (pS 6 mm.nd a5)) cW) (fB (bo (bC (cJ (zt (K:=K) rfl) (pv 5) (cI (iP ["_law_row"]) rfl (cN (K:=K) rfl (tx K (pv 4))) (λ_ _ _=>⟨(pn 0 'g'),cu,'B'⟩)) (by with_unfolding_all rfl)) (aU (c8 (cq (tx K (pv 4)) (ao (a_ (ao (pv 5) (ao (pv 6) (ao (az gq (fX (b_ (K:=K) rfl) (by rfl) T.gm eg (ao (tx K (pv 4)) aa)) af) (ao (fX (b_ (K:=K) rfl) (by rfl) T.gm eg (ao (tx K (bx 'h' (tx K (pv 4)) (iq fM af) (λ_ _=>rfl))) aa)) aa))))) aa))) (bo (bC (cJ dk (pv 6) a5 (aV _)) (bo (gR (bN hr) (pv 1) (pv 5) fU rfl)) cW))) cW)))))))),?_⟩;walk_at "rd";have hp:=hP.at_ p (by simp)
 refine⟨_,aH.of hP.top,V.ref p.t,by rw[bu];exact eF,⟨by decide,by decide⟩,by decide,by lia,by lia,by walk_at "s", λp1 h1=>⟨by decide,_,aH.of aJ,?_⟩⟩;have s1:aI H (upd H p1 (HO.lst [V.str s!"tell",V.str s!"weak",V.str s!"own"])):=aR h1;generalize upd H p1 (HO.lst [V.str s!"tell",V.str s!"weak",V.str s!"own"])=H1 at s1 ⊢;obtain⟨z,hz,hs⟩:∃z:Str,hW [V.str s!"tell",V.str s!"weak",V.str s!"own"] (m%3)=some (V.str z)/\BC z:=by
  have hd:m%3=0\/m%3=1\/m%3=2:=by lia
  rcases hd with e|e|e<;>rw[e]
  ·exact⟨_,rfl,.inl rfl⟩
  ·exact⟨_,rfl,.inr (.inl rfl)⟩
  ·exact⟨_,rfl,.inr (.inr rfl)⟩
 refine⟨_,hz,?_⟩;have hnm:∃k:Int,0<=k/\k<12/\aP nb (m/3%12)=aP nb k:=⟨m/3%12,by lia,by lia,rfl⟩
 generalize aP nb (m/3%12)=nm at hnm;refine bY ?_;walk_at "rd";generalize hB:hold _=B;generalize hD:Ends.mk _ _ _ _=D
 suffices main:∀z:Str,BC z->(z=bP->nm∉N)->B D [some (V.ref L),some (V.ref d),some (V.int m),some (V.int nb),some (V.ref p.t),some (V.str nm),some (V.str z)] H1 by
  refine cH (λe=>⟨_,.k (k:=.inr nm) (s1 _ _ hd),?_⟩) λe=>main z hs λy=>absurd (decide_eq_true y) e;by_cases hn:nm∈N
  ·rw[xo hn];refine cH (λ_=>?_) λn=>absurd rfl n;exact main _ (.inr (.inl rfl)) λy=>absurd y 'e'
  ·rw[vE hn];refine cH (λn=>absurd n (by decide)) λ_=>?_;exact main z hs λ_=>hn
 intro z hs ht;subst hB hD;refine bY ?_;walk_at "rd";have pa1:=hp.mono s1;refine⟨_,bg.of pa1.top,_,rfl,?_⟩;refine cY.of 'j' (aH.of pa1.nl) (λD i ys H'=>ys=(p.aS.take i).map (λm=>V.str m.name)/\H'=upd H1 D (.lst ys)) (λD hD=>⟨rfl,rfl⟩) (λD i ys H' hD hi ⟨e1,e2⟩=>?_) (λD i x ys H' hD hx ⟨e1,e2⟩=>?_) (λD ys H' hD ⟨e1,e2⟩=>?_)
 ·subst e2;refine⟨aH.of (by rw[ae (bA pa1.nl hD)];exact pa1.nl),aJ,?_⟩;rw[e1,aD];exact TQ ..
 ·subst e2;walk_at "0";obtain⟨m,hm,rfl⟩:=eZ.mp hx;have ma:=pa1.ns m (dI hm);walk_at "rd";refine⟨.no .nil,_,bg.of (by rw[ae (bA ma hD)];exact ma),_,rfl,aJ,?_,kW⟩;rw[e1,ix,hm,bu];rfl
 ·subst e2;have e3:ys='V'.map V.str:=by rw[e1,aD,kD,cC];rfl
  have s2:aI H (upd H1 D (.lst ys)):=s1.trans (aR hD);have hy:upd H1 D (.lst ys) D=some (.lst ys):=aJ;generalize upd H1 D (.lst ys)=H2 at s2 hy ⊢;walk_at "rd";refine⟨ys,.inl (aH.of hy),rfl,by rw[e3,List.all_map];exact List.all_eq_true.mpr λ_ _=>rfl,cH (λhin=>?_) λ_=>k0 _ s2⟩;have hn:nm∉p.aS.map aw.name:=λhx=>by
   rw[e3,A9.mpr hx]at hin;cases hin
  have pa:=hp.mono s2;have hs':=pa.ss st (by rw[hst];simp);refine⟨_,bg.of pa.top,_,rfl,.inl ⟨rfl,_,aH.of pa.nl⟩,_,bg.of pa.top,_,rfl,p.aO.length,.inl ⟨_,aH.of pa.sl,by rw[aD]⟩,_,bg.of pa.top,_,rfl,p.ls,rfl,_,aH.of pa.sl,st.v,(by rw[hst,bu];exact eF),st.t,rfl,_,bg.of hs'.top,_,rfl,st.words.length,.inl ⟨_,aH.of hs'.wd,by rw[aD]⟩,by walk_at "s", λq hq=>⟨p.ln,rfl,p.aS.map aw.v,?_,?_,?_⟩⟩
  ·rw[ae (bA pa.nl hq)];exact pa.nl
  ·rw[aD,sizeLine_eq];lia
  ·have s3:aI H (upd H2 q (.tup [V.str nm,V.str z,V.int ((p.aO.length:Int) - 1),V.int st.words.length])):=s2.trans (aR hq);have kk:=k1 ⟨q,nm,z,(p.aO.length:Int) - 1,st.words.length⟩ _ s3 aJ ⟨hnm,hs,by show(p.aO.length:Int) - 1=ss.length;rw[hst,dv];simp,rfl,hn⟩;refine cH (λe=>?_) λe=>kk.1 λy=>absurd (decide_eq_true y) e;have ez:z=bP:=of_decide_eq_true e;have nn:=ht ez;have dn:d≠p.ln:=λe=>by rw[e,hp.nl]at hd;cases hd
   refine⟨_,.k (k:=.inr nm) (by rw[ae dn];exact s3 _ _ hd) 'j',?_⟩;rw[Lk,show addW N nm=N++[nm] from if_neg nn];exact kk.2 ez nn
theorem y0.push(d:y0 c t i ps N)(h:ps.length<12):y0 c t (i+1) (ps++[⟨a,ls,ln,aP t ((ps.length:Int)*5%13),[],[]⟩]) N:=by
 refine⟨λp hp=>?_,by rw[dv];simp;lia,?_,?_,λp hp=>?_,?_,Nat.le_succ_of_le d.nl⟩
 ·rcases bM.mp hp with z|z
  ·exact d.ok p z
  ·rw[cx.mp z];exact⟨λs hs=>(by cases hs),λs hs=>(by cases hs),.nil⟩
 ·rw[bu,d.names,dv,Vu,List.range_succ,bu];rfl
 ·have:=d.size;rw[bu,Ry];simp[ah.size];exact this
 ·rcases bM.mp hp with z|z
  ·exact d.str p z
  ·rw[cx.mp z];intro m hm;cases hm
 ·refine VO.mpr ⟨d.one,List.pairwise_singleton ..,λp hp q hq x hx y hy=>?_⟩;rw[cx.mp hq]at hy;cases hy
theorem y0.last(d:y0 c t i (ps++[p]) N)(h:x6 c p')(hn:p'.name=p.name)(hs:p'.size<=p.size+1)(hm:∀m∈p'.aS,m.sort=bP->m∈p.aS\/m.name∉N/\m.name∈N')(hN:∀z∈N,z∈N')(hl:N'.length<=N.length+1):y0 c t (i+1) (ps++[p']) N':=by
 have one:=VO.mp d.one;refine⟨λq hq=>?_,by have:=d.bQ;simpa using this,?_,?_,λq hq m hq2 hq3=>?_,?_,by have:=d.nl;lia⟩
 ·rcases bM.mp hq with z|z
  ·exact d.ok q (gG _ z)
  ·rw[cx.mp z];exact h
 ·have:=d.names;simpa [hn] using this
 ·have:=d.size;rw[bu,Ry]at this ⊢;simp at this ⊢;lia
 ·rcases bM.mp hq with z|z
  ·exact hN _ (d.str q (gG _ z) m hq2 hq3)
  ·rw[cx.mp z]at hq2;rcases hm m hq2 hq3 with y|y
   ·exact hN _ (d.str p (by simp) m y hq3)
   ·exact y.2
 ·refine VO.mpr ⟨one.1,List.pairwise_singleton ..,λq hq r hr x hx y hy x1 y1=>?_⟩;rw[cx.mp hr]at hy;rcases hm y hy y1 with z|z
  ·exact one.2.2 q hq p (by simp) x hx y z x1 y1
  ·exact λe=>z.1 (e▸d.str q (gG _ hq) x hx x1)
theorem y0.En(d:y0 c t i (ps++[p]) N):p.size<=i:=by
 have:=d.size;rw[bu,Ry]at this;simp at this;lia
theorem y0.keep{c t:Int}{i:Nat}{ps:List ah}{N:List Str}(d:y0 c t i ps N):y0 c t (i+1) ps N:=⟨d.ok,d.bQ,d.names,Ru d.size,d.str,d.one,Ru d.nl⟩
theorem x6.KQ(h:x6 c p)(hs:Ls c s):x6 c { p with aO:=p.aO++[s] }:=by
 refine⟨λr hr=>?_,λn hn=>?_,h.nd⟩
 ·rcases bM.mp hr with z|z
  ·exact h.aO r z
  ·rw[cx.mp z];exact hs
 ·have g:=h.aS n hn;exact⟨g.name,g.sort,⟨g.st.1,by have:=g.st.2;show n.st<((p.aO++[s]).length:Int);rw[dv];simp;lia⟩,g.off⟩
theorem x6.ka(h:x6 c p)(e:p.aO=ss++[s])(hs:Ls c s'):x6 c { p with aO:=ss++[s'] }:=by
 refine⟨λr hr=>?_,λn hn=>?_,h.nd⟩
 ·rcases bM.mp hr with z|z
  ·exact h.aO r (by rw[e];exact gG _ z)
  ·rw[cx.mp z];exact hs
 ·have g:=h.aS n hn;exact⟨g.name,g.sort,⟨g.st.1,by have:=g.st.2;rw[e,dv]at this;show n.st<((ss++[s']).length:Int);rw[dv];exact this⟩,g.off⟩
theorem nA{p:ah}{ss:List aM}{s:aM}(e:p.aO=ss++[s]):s.words.length+p.aO.length+p.aS.length<p.size:=by
 unfold ah.size;rw[e,bu,Ry];simp;lia
theorem Ai{p:ah}{ss:List aM}{s s':aM}(e:p.aO=ss++[s])(h:s'.words.length=s.words.length+1):({ p with aO:=ss++[s'] }:ah).size<=p.size+1:=by
 unfold ah.size;rw[e,bu,Ry,bu,Ry];simp[h];lia
theorem Ls.word(h:Ls c s)(h1:0<=wd)(h2:wd<=4294967295):Ls c { s with words:=s.words++[wd] }:=by
 refine⟨h.kind,h.step,λi hi=>?_,λf hf=>?_,?_⟩
 ·rcases bM.mp hi with z|z
  ·exact h.words i z
  ·rw[cx.mp z];exact⟨h1,h2⟩
 ·obtain⟨i,hi,g⟩:=h.fills f hf;exact⟨i,by show i<(s.words++[wd]).length;rw[dv];lia,g⟩
 ·have:=h.bQ;show s.fills.length<=(s.words++[wd]).length;rw[dv];lia
theorem Ls.fill(h:Ls c s)(hf:XT c s.words.length f)(h1:0<=wd)(h2:wd<=4294967295):Ls c { s with fills:=s.fills++[f],words:=s.words++[wd] }:=by
 have w:=h.word h1 h2;refine⟨h.kind,h.step,w.words,λg hg=>?_,?_⟩
 ·rcases bM.mp hg with z|z
  ·exact w.fills g z
  ·rw[cx.mp z];exact⟨s.words.length,by show _<(s.words++[wd]).length;rw[dv];simp,hf⟩
 ·have:=h.bQ;show(s.fills++[f]).length<=(s.words++[wd]).length;rw[dv,dv];simp;omega
theorem Vd.mono{H H' H'':Hp}{L d:Addr}{nb tb:Int}{i:Nat}{ps:List ah}{N:List Str}(h:Vd H H' L d nb tb i ps N)(s:aI H' H''):Vd H H'' L d nb tb i ps N:=⟨h.sm.trans s,h.pc.mono s,h.new,h.nd,s _ _ h.dd,h.dr⟩
theorem Vj(h:dZ H L ps)(hd:H d=some (.dK ag)):dZ (upd H d (.dK kvs')) L ps:=by
 have k:∀b o,(∀kv,o≠HO.dK kv)->H b=some o->upd H d (.dK kvs') b=some o:=λb o n e=>by
  rw[ae λy=>?_];exact e;rw[y,hd]at e;cases e;exact n _ rfl
 have l:∀{b xs},H b=some (.lst xs)->upd H d (.dK kvs') b=some (.lst xs):=λe=>k _ _ (λ_ z=>by cases z) e;have t:∀{b xs},H b=some (.tup xs)->upd H d (.dK kvs') b=some (.tup xs):=λe=>k _ _ (λ_ z=>by cases z) e;exact⟨l h.top,λp hp=>have g:=h.at_ p hp;⟨t g.top,l g.sl,l g.nl,λs hs=>have u:=g.ss s hs;⟨t u.top,l u.wd,l u.fl,λf hf=>t (u.fs f hf)⟩,λn hn=>t (g.ns n hn)⟩,h.nd⟩
theorem Sh(T:Txt K mg A):aY P w K mg base cF 3 A.Xs A.G9 ["_law_cells", "_law_names_by", "_law_titles_by"] (HN K):=by
 refine T.GY.ok j_ ?_ ?_;walk_at "k"
 obtain⟨a,ns,c,t,rfl,hS,hl,k⟩:=h
 refine⟨_,(aU (pS 3 j_.nd (aW aa)) (aU (pS 4 j_.nd dq) (aU (pF (cN (K:=K) rfl (pv 0)) (pn 5 j_.nd) (aU (pS 6 j_.nd (az ba (az eS (pv 5) af) af)) (fB (bo (bC (PW.pt (IQ (cJ (A5 hr.units (K:=K) rfl) (pv 3) (aW aa) (aV _)) (yJ (PW.pt (wx (cJ dk (az ba (pv 5) af) af (aV _)) (kR (cJ kr (fX (b_ (K:=K) rfl) (by rfl) T.gm eg 'D') af (aV _)))))))) (fB (bo (c8 (cq (pv 3) (ao (a_ (ao (bO (i8 T) 'a' rfl T.iX T.dh.kp T.dh.b .nil aq (ao (pv 2) (ao (az ba (az eS (fX (b_ (K:=K) rfl) (by rfl) T.gm eg 'D') af) af) aa))) (ao (aW aa) (ao (aW aa) aa)))) aa))))) (fB (bo (bC (PW.pt (IQ (cJ (A5 hr.units (K:=K) rfl) (tx K (bx 'h' (pv 3) (iq fM af) (λ_ _=>rfl))) (aW aa) (aV _)) (yJ (cJ dk (az ba (pv 5) af) af (aV _))))) (fB (aU (pS 7 j_.nd (bx 'h' (aW (ao a5 (ao a5 aa))) (az ba (pv 6) af) (λ_ _=>rfl))) (bo (c8 (cq (tx K (bx 'h' (pv 3) (iq fM af) (λ_ _=>rfl))) (ao (a_ (ao (pv 7) (ao (bx 'h' (aW (ao af (ao af (ao af (ao af aa))))) (az ba (az eV (pv 6) af) af) (λ_ _=>rfl)) (ao (aW aa) (ao (aW aa) aa))))) aa)))))) (fB (bo (bC (cJ kr (az ba (pv 5) af) af (aV _)) (fB (bo (c8 (bO (UA T) 'a' rfl T.TX T.DJ.kp T.DJ.b .nil aq (ao (bx 'h' (tx K (bx 'h' (pv 3) (iq fM af) (λ_ _=>rfl))) (iq fM af) (λ_ _=>rfl)) (ao (pv 5) (ao (pv 6) 'E'))))))) (fB (bo (c8 (bO (R_ T) 'a' rfl T.UL T.II.kp T.II.b .nil aq (ao (pv 3) (ao (pv 4) (ao (pv 6) 'E')))))))))))))))))) (bo (aG (pv 3)))))),?_⟩
 walk_at "rd";refine⟨by rw[sizeLine_eq];decide,λL hL d hd=>?_⟩;obtain⟨nd,hd'⟩:=c7 hd;refine fH.of (xs:=ns.map V.int) (λi σ H'=>∃ps N b5 b6 b7,σ=[some (V.ref a),some (V.int c),some (V.int t),some (V.ref L),some (V.ref d),b5,b6,b7]/\Vd H H' L d c t i ps N)
  ⟨[],[],_,_,_,rfl,(aR hL).trans (aR hd),dZ.nil (by rw[ae (Ne.symm nd)];exact aJ),by simpa [bj] using hL,hd',aJ,⟨by simp,by simp,rfl,by simp,by simp,by simp,by simp⟩⟩ (λi σ H' _ ⟨_,_,_,_,_,_,I⟩=>I.sm.seq hS) ?_ ?_
 ·rintro i x σ H' hx ⟨ps,N,b5,b6,b7,rfl,I⟩;walk_at "0";obtain⟨v,hv,rfl⟩:=eZ.mp hx;have hi:i<63:=kx (gZ.mp hv).1 hl;walk_at "rd";refine⟨.inr ⟨by decide,by decide⟩,by decide,bY ?_⟩;generalize hm:v*1583458089%2147483647=m;have m0:0<=m:=by lia
  have hfew:=I.dr.bQ;generalize hB1:hold (MB (YM _ _ _ (tH 3) _))=B1;generalize hB2:hold (Qq _ _ _)=B2;generalize hD:Ends.mk _ _ _ _=D;have fin:∀(H2:Hp) (ps':List ah) (N':List Str) (b5 b6 b7:Option V),Vd H H2 L d c t (i+1) ps' N'->D.nx [some (V.ref a),some (V.int c),some (V.int t),some (V.ref L),some (V.ref d),b5,b6,b7] H2:=λH2 ps' N' b5 b6 b7 J=>by
   rw[<-hD];exact⟨ps',N',b5,b6,b7,rfl,J⟩
  clear hD
  suffices main:∀H1,aI H' H1->(ps.length<12->B1 D [some (V.ref a),some (V.int c),some (V.int t),some (V.ref L),some (V.ref d),some (V.int v),some (V.int m),b7] H1)/\(ps≠[]->B2 D [some (V.ref a),some (V.int c),some (V.int t),some (V.ref L),some (V.ref d),some (V.int v),some (V.int m),b7] H1) by
   walk_at "rd";refine⟨d_ _,λq hq=>⟨ps.map ah.d,[],.inl ⟨(I.pc.mono (aR hq)).rep,⟨q,[],rfl,aH.of aJ,by simp[RepL]⟩⟩,Nat.le_trans (dm λp _=>PY p) (by decide),_,rfl,?_⟩⟩;have s1:aI H' (upd H' q (.lst [])):=aR hq;generalize upd H' q (.lst [])=H1 at s1 ⊢;rw[yo];refine cH (λe=>(main H1 s1).1 ?_) λe=>?_
   ·rw[List.map_eq_nil_iff.mp (of_decide_eq_true e)];decide
   ·have hne:ps≠[]:=λy=>e (by rw[y];rfl);refine⟨by decide,cH (λ_=>⟨ps.length,.inl ⟨_,aH.of (s1 _ _ I.pc.top),by rw[aD]⟩,cH (λy=>(main H1 s1).1 (by have:=of_decide_eq_true y;lia)) λ_=>(main H1 s1).2 hne⟩) λ_=>(main H1 s1).2 hne⟩
  intro H1 s1;have J:=I.mono s1;subst hB1 hB2;constructor
  ·intro h12;refine bY ?_;walk_at "rd";refine⟨.inl ⟨rfl,_,aH.of J.pc.top⟩,ps.length,.inl ⟨_,aH.of J.pc.top,by rw[aD]⟩,.inr ⟨by decide,by decide⟩,by decide,by lia,by lia,d_ _,λls h1=>⟨d_ _,λln h2=>⟨by rw[sizeLine_eq];decide,λtt h3=>?_⟩⟩⟩;obtain⟨n2,h2'⟩:=c7 h2;obtain⟨n3,h3a⟩:=c7 h3;obtain⟨n4,h3'⟩:=c7 h3a;have s3:=((aR (o:=HO.lst []) h1).trans (aR (o:=HO.lst []) h2)).trans (aR (o:=HO.tup [V.str (aP t ((ps.length:Int)*5%13)),V.ref ls,V.ref ln]) h3);refine⟨_,s3 _ _ J.pc.top,by rw[aD,sizeLine_eq];lia,?_⟩;have hL0:=J.new L ko;refine fin _ (ps++[⟨tt,ls,ln,aP t ((ps.length:Int)*5%13),[],[]⟩]) N _ _ _ ⟨e_ hL0 (J.sm.trans s3),(J.pc.mono s3).DG aJ (by rw[ae (Ne.symm n4),ae (Ne.symm n2),aJ]) (by rw[ae (Ne.symm n3),aJ]) (Ne.symm n2) (J.pc.fresh h1) (J.pc.fresh h2'),λb hb=>?_,J.nd,by rw[ae nd];exact s3 _ _ J.dd,J.dr.push h12⟩;rw[gp,<-Ve]at hb;rcases bM.mp hb with e|e
   ·exact J.new b e
   ·simp[ah.lists]at e;rcases e with e|e
    ·rw[e];exact J.sm.free h1
    ·rw[e];exact J.sm.free h2'
  intro hne;obtain⟨qs,p,e⟩:∃qs p,ps=qs++[p]:=by
   rcases List.eq_nil_or_concat ps with e|⟨l,x,e⟩
   ·exact absurd e hne
   ·exact⟨l,x,by rw[e,List.concat_eq_append]⟩
  subst e;have hp:=J.pc.at_ p (by simp);have hsz:=J.dr.En;have mem:∀b∈p.lists,b∈L::bj (qs++[p]):=λb hb=>jD _ (by rw[gp];exact gi _ hb);refine bY ?_;generalize hB3:hold (SV _ _)=B3;generalize hB4:hold (Qq _ _ _)=B4
  suffices main:∀H2,aI H1 H2->B3 D [some (V.ref a),some (V.int c),some (V.int t),some (V.ref L),some (V.ref d),some (V.int v),some (V.int m),b7] H2/\(p.aO≠[]->B4 D [some (V.ref a),some (V.int c),some (V.int t),some (V.ref L),some (V.ref d),some (V.int v),some (V.int m),b7] H2) by
   walk_at "rd";refine⟨_,aH.of J.pc.top,V.ref p.t,by rw[bu];exact eF,p.t,rfl,_,bg.of hp.top,_,rfl,d_ _,λq hq=>⟨p.aO.map aM.d,[],.inl ⟨⟨p.ls,_,rfl,aH.of (aR hq _ _ hp.sl),RepL.map λs hs=>((hp.ss s hs).mono (aR hq)).rep⟩,⟨q,[],rfl,aH.of aJ,by simp[RepL]⟩⟩,Nat.le_trans (dm λp _=>F6 p) (by decide),_,rfl,?_⟩⟩;have s2:aI H1 (upd H1 q (.lst [])):=aR hq;generalize upd H1 q (.lst [])=H2 at s2 ⊢;rw[yo];refine cH (λe=>(main H2 s2).1) λe=>⟨by decide,cH (λ_=>(main H2 s2).1) λ_=>(main H2 s2).2 λy=>e (by rw[y];rfl)⟩
  intro H2 s2;have J2:=J.mono s2;have hp2:=hp.mono s2;subst hB3 hB4;constructor
  ·refine bY ?_;walk_at "rd";obtain⟨kd,hk,hk'⟩:∃z:Str,hW [V.str s!"code",V.str s!"data"] (m%2)=some (V.str z)/\(z=s!"code" \/ z=s!"data"):=by
    have hd:m%2=0\/m%2=1:=by lia
    rcases hd with e|e<;>rw[e]
    ·exact⟨_,rfl,.inl rfl⟩
    ·exact⟨_,rfl,.inr rfl⟩
   obtain⟨z,hz,hz'⟩:∃z:Int,hW [V.int 1,V.int 1,V.int 2,V.int 4] (m/2%4)=some (V.int z)/\1<=z/\z<=4:=by
    have hd:m/2%4=0\/m/2%4=1\/m/2%4=2\/m/2%4=3:=by lia
    rcases hd with e|e|e|e<;>rw[e]<;>exact⟨_,rfl,by decide⟩
   refine⟨by rw[sizeLine_eq];decide,λq1 h1=>⟨by decide,_,aH.of aJ,_,hk,_,aH.of (aR h1 _ _ J2.pc.top),V.ref p.t,by rw[bu];exact eF,p.t,rfl,_,bg.of (aR h1 _ _ hp2.top),_,rfl,.inl ⟨rfl,_,aH.of (aR h1 _ _ hp2.sl)⟩,by walk_at "s", λq2 h2=>⟨⟨by decide,by decide⟩,by decide,_,aH.of aJ,_,hz,d_ _,λlw h3=>⟨d_ _,λlf h4=>⟨by rw[sizeLine_eq];decide,λtt h5=>⟨p.ls,rfl,?_⟩⟩⟩⟩⟩⟩;have sa:=(aR (o:=HO.lst [V.str s!"code",V.str s!"data"]) h1).trans (aR (o:=HO.lst [V.int 1,V.int 1,V.int 2,V.int 4]) h2);generalize upd (upd H2 q1 (HO.lst [V.str s!"code",V.str s!"data"])) q2 (HO.lst [V.int 1,V.int 1,V.int 2,V.int 4])=H3 at *;obtain⟨n4,h4'⟩:=c7 h4;obtain⟨n5,h5a⟩:=c7 h5;obtain⟨n6,h5'⟩:=c7 h5a;have sA:=sa.trans (((aR (o:=HO.lst []) h3).trans (aR (o:=HO.lst []) h4)).trans (aR (o:=HO.tup [V.str kd,V.int z,V.ref lw,V.ref lf]) h5));refine⟨_,sA _ _ hp2.sl,by rw[aD,sizeLine_eq];unfold ah.size at hsz;lia,?_⟩
   refine fin _ (qs++[{ p with aO:=p.aO++[⟨tt,lw,lf,kd,z,[],[]⟩] }]) N _ _ _ ⟨e_ (J.new p.ls (mem _ (by simp[ah.lists]))) (J2.sm.trans sA),(J2.pc.mono sA).zj aJ (by rw[ae (Ne.symm n6),ae (Ne.symm n4),aJ]) (by rw[ae (Ne.symm n5),aJ]) (Ne.symm n4) ((J2.pc.mono sa).fresh h3) ((J2.pc.mono sa).fresh h4'),λb hb=>?_,J.nd,by rw[ae (λe=>by have a1:=J2.dd;rw[e,hp2.sl]at a1;cases a1)];exact sA _ _ J2.dd,J2.dr.last (((J2.dr.ok p (by simp)).KQ ⟨hk',hz',by simp,by simp,by simp⟩)) rfl ?_ (λm hm _=>.inl hm) (λ_ y=>y) (Nat.le_succ _)⟩
   ·have hb':b∈L::bj (qs++[p])\/b=lw\/b=lf:=by
     rw[gp]at hb ⊢;simp only[ah.lists,List.flatMap_append,List.mem_cons,List.mem_append,List.flatMap_cons,List.flatMap_nil,aM.lists,List.append_nil,List.not_mem_nil,or_false]at hb ⊢
     grind
    rcases hb' with e|e|e
    ·exact J.new b e
    ·rw[e];exact(J2.sm.trans sa).free h3
    ·rw[e];exact(J2.sm.trans sa).free h4'
   ·unfold ah.size;simp;lia
  intro hne2;obtain⟨ss,r,e⟩:∃ss r,p.aO=ss++[r]:=by
   rcases List.eq_nil_or_concat p.aO with e|⟨l,x,e⟩
   ·exact absurd e hne2
   ·exact⟨l,x,by rw[e,List.concat_eq_append]⟩
  refine bY ?_;walk_at "rd";refine⟨by decide,cH (λ_=>bY ?_) λ_=>bY ?_⟩
  ·skip
   walk_at "rd";have hr2:=hp2.ss r (by rw[e];simp);have hw:=nA e;have bQ:=((J.dr.ok p (by simp)).aO r (by rw[e];simp)).bQ;have okr:=(J.dr.ok p (by simp)).aO r (by rw[e];simp);have tup2:∀b,(∃xs,H2 b=some (.lst xs))->d≠b:=λb hb y=>by
    obtain⟨xs,hb⟩:=hb;have a1:=J2.dd;rw[y,hb]at a1;cases a1
   refine⟨_,aH.of J2.pc.top,V.ref p.t,by rw[bu];exact eF,p.t,rfl,_,bg.of hp2.top,_,rfl,p.ls,rfl,_,aH.of hp2.sl,r.v,by rw[e,bu];exact eF,r.t,rfl,m0,r.lw,r.lf,r.step,r.kind,hr2.top,_,hr2.wd,_,hr2.fl,(J2.pc.ka e).2.2.1,by rw[aD];lia,by rw[aD];lia,λwd H3 s3 w0 w1=>?_,λwd f H3 s3 w0 w1 fa fw fn=>?_⟩
   ·refine fin _ (qs++[{ p with aO:=ss++[{ r with words:=r.words++[wd] }] }]) N _ _ _ ⟨e_ (J.new _ (mem _ (by simp[ah.lists,e,aM.lists]))) (J2.sm.trans s3),(J2.pc.mono s3).AB e,λb hb=>J.new b ?_,J.nd,by rw[ae (tup2 _ ⟨_,hr2.wd⟩)];exact s3 _ _ J2.dd,J2.dr.last (x6.ka (J2.dr.ok p (by simp)) e (okr.word w0 w1)) rfl (Ai e (by simp)) (λm hm _=>.inl hm) (λ_ y=>y) (Nat.le_succ _)⟩;rw[gp]at hb ⊢;simpa [ah.lists,e,aM.lists] using hb
   ·have P1:=(J2.pc.mono s3).LN e fa;have P2:=P1.AB (i:=wd) rfl;rw[aD]at fw;refine fin _ (qs++[({ p with aO:=ss++[{ r with fills:=r.fills++[f],words:=r.words++[wd] }] }:ah)]) N _ _ _ ⟨e_ (J.new _ (mem _ (by simp[ah.lists,e,aM.lists]))) (e_ (J.new _ (mem _ (by simp[ah.lists,e,aM.lists]))) (J2.sm.trans s3)),by exact P2,λb hb=>J.new b ?_,J.nd,by rw[ae (tup2 _ ⟨_,hr2.wd⟩),ae (tup2 _ ⟨_,hr2.fl⟩)];exact s3 _ _ J2.dd,J2.dr.last (x6.ka (J2.dr.ok p (by simp)) e (okr.fill fw w0 w1)) rfl (Ai e (by simp)) (λm hm _=>.inl hm) (λ_ y=>y) (Nat.le_succ _)⟩;rw[gp]at hb ⊢;simpa [ah.lists,e,aM.lists] using hb
  ·skip
   walk_at "rd";have hw:=nA e;have nl:=J2.dr.nl;have dln:d≠p.ln:=λy=>by
    have a1:=J2.dd;rw[y,hp2.nl]at a1;cases a1
   have aS:∀(n:aw),Zo c p ss r n->x6 c { p with aS:=p.aS++[n] }:=λn tn=>by
    have g:=J2.dr.ok p (by simp);refine⟨g.aO,λx hx=>?_,?_⟩
    ·rcases bM.mp hx with z|z
     ·exact g.aS x z
     ·rw[cx.mp z];exact⟨tn.name,tn.sort,⟨by rw[tn.st];lia,by rw[tn.st,e,dv];simp;lia⟩,⟨by rw[tn.off];lia,by rw[tn.off];lia⟩⟩
    ·show((p.aS++[n]).map aw.name).Nodup;rw[bu];refine gX.mpr ⟨g.nd,by simp,λx hx y hy e=>?_⟩;have:y=n.name:=by simpa using hy
     subst this;exact tn.new (e▸hx)
   have sz:∀n:aw,({ p with aS:=p.aS++[n] }:ah).size<=p.size+1:=λn=>by unfold ah.size;simp;lia
   refine⟨m0,qs,p,J2.pc,ss,r,e,by lia,by lia,by lia,by rw[dv]at hfew;lia,N,by lia,J2.dd,λH3 s3=>fin _ _ N _ _ _ ⟨J2.sm.trans s3,J2.pc.mono s3,J.new,J.nd,s3 _ _ J2.dd,J2.dr.keep⟩,λn H3 s3 ha tn=>⟨λhs=>?_,λhs hn=>?_⟩⟩
   ·refine fin _ (qs++[{ p with aS:=p.aS++[n] }]) N _ _ _ ⟨e_ (J.new _ (mem _ (by simp[ah.lists]))) (J2.sm.trans s3),(J2.pc.mono s3).zW ha,λb hb=>J.new b ?_,J.nd,by rw[ae dln];exact s3 _ _ J2.dd,J2.dr.last (aS n tn) rfl (sz n) (λx hx h1=>?_) (λ_ y=>y) (Nat.le_succ _)⟩
    ·rw[gp]at hb ⊢;exact hb
    ·rcases bM.mp hx with z|z
     ·exact .inl z
     ·rw[cx.mp z]at h1;exact absurd h1 hs
   ·have bt:HU (upd H3 p.ln (.lst (p.aS.map aw.v++[n.v]))) (upd (upd H3 p.ln (.lst (p.aS.map aw.v++[n.v]))) d (.dK ((N++[n.name]).map jc))) d d:=λx o n1 _ h=>by rw[ae n1];exact h
    have P1:=(J2.pc.mono s3).zW ha;have hd3:upd H3 p.ln (.lst (p.aS.map aw.v++[n.v])) d=some (.dK (N.map jc)):=by rw[ae dln];exact s3 _ _ J2.dd
    refine fin _ (qs++[{ p with aS:=p.aS++[n] }]) (N++[n.name]) _ _ _ ⟨e_ J.nd (e_ (J.new _ (mem _ (by simp[ah.lists]))) (J2.sm.trans s3)),Vj P1 hd3,λb hb=>J.new b ?_,J.nd,aJ,J2.dr.last (aS n tn) rfl (sz n) (λx hx h1=>?_) (λ_ y=>List.mem_append_left _ y) (by rw[List.length_append];simp)⟩
    ·rw[gp]at hb ⊢;exact hb
    ·rcases bM.mp hx with z|z
     ·exact .inl z
     ·rw[cx.mp z];exact .inr ⟨hn,by simp⟩
 ·rintro σ H' ⟨ps,N,b5,b6,b7,rfl,I⟩;have J:=I.dr;rw[aD]at J;walk_at "rd";exact k L ps N H' I.sm I.pc I.new J
theorem Uq(xs:List V):eY xs (some 1) none=xs.drop 1:=by
 unfold eY;have e:HT.sIx xs.length 0 (some 1)=min 1 xs.length:=HT.sIx_nat _ _ 1;have e0:HT.sIx xs.length xs.length none=xs.length:=rfl;rw[e,e0];cases xs with
 |nil=>rfl
 |cons x r=>
  rw[show min 1 (x::r).length=1 by simp,List.take_of_length_le (by rw[List.length_drop];lia)]
theorem Ov(s:bD H H')(h:PL H L ps):PL H' L ps:=⟨fK s.lt h.top,λp hp=>xu s.lt (h.at_ p hp)⟩
theorem lV(s:bD H H')(h:AV H S xs):AV H' S xs:=⟨fK s.lt h.top,λx hx=>Ov s (h.at_ x hx)⟩
theorem kP(h:AV H S ((a0,G)::xs))(hp:H p=none)(b:Fc G (flat xs) e):Rh (upd H p (.lst 'f')) a0 p e G xs:=by
 have s:=bD.of (aR (o:=HO.lst 'f') hp);exact⟨Ov s (h.at_ _ ko),⟨by rw[aJ,Uq];rfl,λx hx=>Ov s (h.at_ x (jD _ hx))⟩,b⟩
theorem xw(T:Txt K mg A):aY P w K mg base cF 10 A.WO A.GZ ["_law_some", "_law_entry"] (CL A):=by
 refine T.gK.ok yN ?_ ?_;walk_at "k"
 obtain⟨S,a0,e,G,xs,rfl,hS,bQ,hA,tb1,tb2,tn,k⟩:=h;refine⟨_,(aU (fC (i:=2) yN.nd rfl 'z' (iP ["_law_piece"]) rfl (cN (K:=K) rfl (bO (qi T) 'a' rfl T.uN T.fN.kp T.fN.b .nil aq (ao (bx 'h' (pv 0) af (λ_ _=>rfl)) (ao (dE (fA (K:=K) rfl) (pv 0) (d7 af) fF) 'E')))) (λ_ _ _=>⟨(pn 0 'g'),cu,'B'⟩)) (fB (aU (pS 3 yN.nd (fX (rZ (K:=K) rfl) (by rfl) T.fz g_ (ao (cI (iP ["_law_row"]) rfl (cN (K:=K) rfl (bO (Sk T) 'a' rfl T.Tn T.HR.kp T.HR.b .nil aq (ao (bx 'h' (pv 0) af (λ_ _=>rfl)) (ao (dE (fA (K:=K) rfl) (pv 0) (d7 af) fF) 'E')))) (λ_ _ _=>⟨(pn 0 'g'),cu,'B'⟩)) aa))) (fB (bo (aG (a_ (ao (bO (UC T) 'a' rfl T.U1 T.Iy.kp T.Iy.b .nil aq (ao (bx 'h' (pv 0) af (λ_ _=>rfl)) (ao (dE (fA (K:=K) rfl) (pv 0) (d7 af) fF) 'E'))) (ao (bO (U6 T) 'a' rfl T.SR T.GK.kp T.GK.b .nil aq (ao (bx 'h' (pv 0) af (λ_ _=>rfl)) (ao (dE (fA (K:=K) rfl) (pv 0) (d7 af) fF) 'E'))) (ao (pv 2) 'D')))))))))),?_⟩;walk_at "rd"
 have shS:∀{H'},bD H H'->aH K H' S (((a0,G)::xs).map λx=>V.ref x.1):=λs=>aH.of (lV s hS).top;have ix0:hW (((a0,G)::xs).map λx=>V.ref x.1) 0=some (V.ref a0):=show hW _ ((0:Nat):Int)=_ from cw rfl;refine⟨_,aH.of hS.top,V.ref a0,ix0,_,aH.of hS.top,λp1 h1=>⟨a0,rfl,G,xs,kP hS h1 hA.tk,?_⟩⟩;have s1:bD H (upd H p1 (HO.lst 'f')):=.of (aR h1);have t1:bU A.aK y9 yH (upd H p1 (HO.lst 'f')):=tb1.more (aR h1);have u1:bU A.bf iH iL (upd H p1 (HO.lst 'f')):=tb2.more (aR h1);generalize upd H p1 (HO.lst 'f')=H1 at s1 t1 u1 ⊢;refine⟨t1,λl T1 rs1 qs1 H2 x2 t2 pc fr tc1 cl1 pm1 pw1=>?_⟩;have u2:=jL u1 tn t1 x2;have s2:bD H H2:=s1.trans (by obtain⟨_,e,_⟩:=id t1;exact Jc e x2);have c1:=jG hA.tk hA.jq tc1 cl1 pm1;have few1:=c1.bQ;refine cY.of 'j' (aH.of pc.top) (λD i ys H'=>ys=(qs1.take i).map (λm=>V.str m.name)/\H'=upd H2 D (.lst ys)) (λD hD=>⟨rfl,rfl⟩) (λD i ys H' hD hi ⟨e1,e2⟩=>?_) (λD i x ys H' hD hx ⟨e1,e2⟩=>?_) (λlt ys H' hD ⟨e1,e2⟩=>?_)
 ·subst e2;refine⟨aH.of (by rw[ae (bA pc.top hD)];exact pc.top),aJ,?_⟩;rw[e1,aD];exact TQ ..
 ·subst e2;walk_at "0";obtain⟨m,hm,rfl⟩:=eZ.mp hx;have ma:=(pc.at_ m (dI hm)).top;walk_at "rd";refine⟨.no .nil,_,bg.of (by rw[ae (bA ma hD)];exact ma),_,rfl,aJ,?_,kW⟩;rw[e1,ix,hm,bu];rfl
 subst e2;have e3:ys=(qs1.map ah.name).map V.str:=by rw[e1,aD,kD,cC];rfl
 subst e3;have s3:bD H (upd H2 lt (.lst ((qs1.map ah.name).map V.str))):=s2.trans (.of (aR hD));have t3:bU A.aK y9 yH (upd H2 lt (.lst ((qs1.map ah.name).map V.str))):=t2.more (aR hD);have u3:bU A.bf iH iL (upd H2 lt (.lst ((qs1.map ah.name).map V.str))):=u2.more (aR hD);have hlt:upd H2 lt (.lst ((qs1.map ah.name).map V.str)) lt=some (.lst ((qs1.map ah.name).map V.str)):=aJ;generalize upd H2 lt (.lst ((qs1.map ah.name).map V.str))=H3 at s3 t3 u3 hlt ⊢;clear e1 x2 fr hD pc;refine bY ?_;walk_at "rd";refine⟨_,shS s3,V.ref a0,ix0,_,shS s3,λp2 h2=>⟨a0,rfl,G,xs,kP (lV s3 hS) h2 hA.tk,?_⟩⟩;have s4:bD H3 (upd H3 p2 (HO.lst 'f')):=.of (aR h2);have t4:bU A.aK y9 yH (upd H3 p2 (HO.lst 'f')):=t3.more (aR h2);have u4:bU A.bf iH iL (upd H3 p2 (HO.lst 'f')):=u3.more (aR h2);generalize upd H3 p2 (HO.lst 'f')=H4 at s4 t4 u4 ⊢;intro lr T2 rs2 H5 s5 fr hlr hrs tc2 cl2;have l2:rs2.length<=20:=by
  have h1:=congrArg List.length tc2.len;rw[aD,aD,aD]at h1;have h2:(T2.map (·.1)).length<=('H'.map (·.1)).length:=len_sub tc2.nd λy hy=>by
   obtain⟨u,hu,rfl⟩:=aQ.mp hy;exact aQ.mpr ⟨u,tc2.sub u hu,rfl⟩
  rw[aD,aD,aD]at h2;have:=hA.tk.bQ;rw[dv]at this;lia
 refine cY.of 'j' (aH.of hlr) (λD i ys H'=>ys=(rs2.take i).map (λm=>V.str m.2.1)/\H'=upd H5 D (.lst ys)) (λD hD=>⟨rfl,rfl⟩) (λD i ys H' hD hi ⟨e1,e2⟩=>?_) (λD i x ys H' hD hx ⟨e1,e2⟩=>?_) (λD ys H' hD ⟨e1,e2⟩=>?_)
 ·subst e2;refine⟨aH.of (by rw[ae (bA hlr hD)];exact hlr),aJ,?_⟩;rw[e1,aD];exact TQ ..
 ·subst e2;walk_at "0";obtain⟨m,hm,rfl⟩:=eZ.mp hx;have ma:=hrs m (dI hm);walk_at "rd";refine⟨.no .nil,_,bg.of (by rw[ae (bA ma hD)];exact ma),_,rfl,aJ,?_,kW⟩;rw[e1,ix,hm,bu];rfl
 subst e2;have e3:ys=(rs2.map (·.2.1)).map V.str:=by rw[e1,aD,kD,cC];rfl
 subst e3;refine⟨D,rfl,rs2.map (·.2.1),aH.of aJ,by rw[aD];lia,λlw wy h6 pw2 so2=>?_⟩;have sa:=s5.trans ((aR (o:=HO.lst ((rs2.map (·.2.1)).map V.str)) hD).trans (aR (o:=HO.lst (wy.map V.str)) h6));have s6:bD H3 (upd (upd H5 D (.lst ((rs2.map (·.2.1)).map V.str))) lw (.lst (wy.map V.str))):=s4.trans (.of sa);have t6:bU A.aK y9 yH (upd (upd H5 D (.lst ((rs2.map (·.2.1)).map V.str))) lw (.lst (wy.map V.str))):=t4.more sa;have u6:bU A.bf iH iL (upd (upd H5 D (.lst ((rs2.map (·.2.1)).map V.str))) lw (.lst (wy.map V.str))):=u4.more sa;have hlw:upd (upd H5 D (.lst ((rs2.map (·.2.1)).map V.str))) lw (.lst (wy.map V.str)) lw=some (.lst (wy.map V.str)):=aJ;generalize upd (upd H5 D (.lst ((rs2.map (·.2.1)).map V.str))) lw (.lst (wy.map V.str))=H6 at s6 t6 u6 hlw ⊢;have hlt6:H6 lt=some (.lst ((qs1.map ah.name).map V.str)):=fK s6.lt hlt;have s6:=s3.trans s6;clear e1 hlr hrs fr h6 hD sa;refine bY ?_;walk_at "rd";refine⟨_,shS s6,V.ref a0,ix0,_,shS s6,λp3 h3=>⟨a0,rfl,G,xs,kP (lV s6 hS) h3 hA.tk,hA.jq,hA.jk,t6.more (aR h3),u6.more (aR h3),tn,λtj lp ll PS LS st sz en T3 rs3 qs3 ms3 m3 ls3 ss3 kvs3 H7 s7 t7 u7 f7 htj hlp hll hPS hLS tc3 cl3 pm3 mr3 wr3=>?_⟩⟩;have s67:bD H6 H7:=(bD.of (aR h3)).trans s7;have s07:=s6.trans s67
 refine⟨_,shS s07,V.ref a0,ix0,_,shS s07,λp4 h4=>⟨a0,rfl,G,xs,kP (lV s07 hS) h4 hA.tk,hA.jq,t7.more (aR h4),u7.more (aR h4),tn,λd T4 rs4 qs4 ms4 m4 ls4 ss4 kvs4 H8 s8 t8 u8 f8 hd tc4 cl4 pm4 mr4=>⟨by rw[sizeLine_eq];decide,λt ht=>?_⟩⟩⟩;have s78:bD H7 H8:=(bD.of (aR h4)).trans s8;have s79:=s78.trans (.of (aR (o:=HO.tup [V.ref tj,V.ref d,V.ref lt,V.ref lw]) ht));have p3:T3.Perm T1:=kO tc3.nd tc1.nd (gS tc3 cl1) (gS tc1 cl3);have p4:T4.Perm T1:=kO tc4.nd tc1.nd (gS tc4 cl1) (gS tc1 cl4);have p2':T2.Perm T1:=kO tc2.nd tc1.nd (gS tc2 cl1) (gS tc1 cl2);refine k t lt ⟨st,sz,en,PS.map (λq=>(q.pl,q.ws)),LS.map yF.d,kvs4,qs1.map ah.name,wy⟩ T1 _ (s07.trans s79) (t8.more (aR ht)) (u8.more (aR ht)) ⟨fK (s67.trans s79).lt hlt6,?_,tj,d,lw,lp,ll,PS,LS,aJ,lE s79.lt htj,fK s79.lt hlp,fK s79.lt hll,λq hq=>⟨lE s79.lt (hPS q hq).1,fK s79.lt (hPS q hq).2⟩,λq hq=>lE s79.lt (hLS q hq),rfl,rfl,aR ht _ _ hd,fK (s67.trans s79).lt hlw⟩ ⟨⟨rs1,tc1⟩,cl1,⟨pw1,?_⟩,⟨so2,?_⟩,⟨qs3,ms3,m3,ls3,ss3,kvs3,(jG hA.tk hA.jq tc3 cl3 pm3).a,pm3.trans (p3.append_left _),mr3,wr3⟩,⟨qs4,ms4,m4,ls4,ss4,(jG hA.tk hA.jq tc4 cl4 pm4).a,pm4.trans (p4.append_left _),mr4⟩⟩
 ·intro kv hkv;have hkv:kv∈kvs4:=hkv;rw[mr4.ag]at hkv;obtain⟨x,_,rfl⟩:=aQ.mp hkv;exact⟨_,rfl⟩
 ·have:=pm1.map (·.1);rw[cC]at this;exact this
 ·have:=tc2.len;rw[cC]at this;exact(pw2.trans (by rw[show rs2.map (·.2.1)=T2.map (·.1) from this])).trans (p2'.map _)
theorem Vc(T:Txt K mg A):aY P w K mg base cF 1 A.Yp A.F8 ["_law_pieces", "_law_cell"] yL:=by
 refine T.JB.ok lM ?_ ?_;walk_at "k"
 obtain⟨L,c,ps,rfl,hP,hl,k⟩:=h;refine⟨_,(aU (pS 2 lM.nd (aW (ao (aW aa) (ao (aW aa) (ao (aW aa) (ao (aW aa) aa)))))) (aU (pS 3 lM.nd (az ba (az eS (az cG (pv 1) af) af) af)) (aU (pF (cN (K:=K) rfl (pv 0)) (pn 4 lM.nd) (aU (c8 (cq (bx 'h' (pv 2) (az ba (pv 3) af) (λ_ _=>rfl)) (ao (pv 4) aa))) (bo (pS 3 lM.nd (az eV (pv 3) af))))) (bo (aG (pv 2)))))),?_⟩;walk_at "rd";refine⟨d_ _,λa0 h0=>⟨d_ _,λa1 h1=>⟨d_ _,λa2 h2=>⟨d_ _,λa3 h3=>⟨by rw[sizeLine_eq];decide,λS h4=>⟨.inr ⟨by decide,by decide⟩,by decide,?_⟩⟩⟩⟩⟩⟩;have s1:=aR (o:=HO.lst []) h0;have s2:=aR (o:=HO.lst []) h1;have s3:=aR (o:=HO.lst []) h2;have s4:=aR (o:=HO.lst []) h3;have s5:=aR (o:=HO.lst [V.ref a0,V.ref a1,V.ref a2,V.ref a3]) h4;have e0:=s5 _ _ (s4 _ _ (s3 _ _ (s2 _ _ (aJ (H:=H) (a:=a0) (o:=HO.lst [])))));have e1:=s5 _ _ (s4 _ _ (s3 _ _ (aJ (H:=upd H a0 (HO.lst [])) (a:=a1) (o:=HO.lst []))));have e2:=s5 _ _ (s4 _ _ (aJ (H:=upd (upd H a0 (HO.lst [])) a1 (HO.lst [])) (a:=a2) (o:=HO.lst [])));have e3:=s5 _ _ (aJ (H:=upd (upd (upd H a0 (HO.lst [])) a1 (HO.lst [])) a2 (HO.lst [])) (a:=a3) (o:=HO.lst []));have e4:=aJ (H:=upd (upd (upd (upd H a0 (HO.lst [])) a1 (HO.lst [])) a2 (HO.lst [])) a3 (HO.lst [])) (a:=S) (o:=HO.lst [V.ref a0,V.ref a1,V.ref a2,V.ref a3]);have sA:=((('S'.trans s3).trans s4).trans s5)
 have f1:=s1.free h1;have f2:='S'.free h2;have f3:=('S'.trans s3).free h3;have f4:=(('S'.trans s3).trans s4).free h4;have nd:[S,a0,a1,a2,a3].Nodup:=by
  have m01:=(c7 h1).1;have m02:=(c7 (c7 h2).2).1;have m12:=(c7 h2).1;have m23:=(c7 h3).1;have m13:=(c7 (c7 h3).2).1;have m03:=(c7 (c7 (c7 h3).2).2).1;have m34:=(c7 h4).1;have m24:=(c7 (c7 h4).2).1;have m14:=(c7 (c7 (c7 h4).2).2).1;have m04:=(c7 (c7 (c7 (c7 h4).2).2).2).1;simp[m04,m14,m24,m34,Ne.symm m01,Ne.symm m02,Ne.symm m03,Ne.symm m12,Ne.symm m13,Ne.symm m23]
 generalize upd (upd (upd (upd (upd H a0 (HO.lst [])) a1 (HO.lst [])) a2 (HO.lst [])) a3 (HO.lst [])) S (HO.lst [V.ref a0,V.ref a1,V.ref a2,V.ref a3])=H5 at *;clear s1 s2 s3 s4 s5;refine fH.of (xs:=ps.map ah.v) (λi σ H'=>∃(xs:List 't') (mx:Int) (b4:Option V),σ=[some (.ref L),some (.int c),some (.ref S),some (.int mx),b4]/\aI H H'/\H' S=some (.lst (xs.map λx=>V.ref x.1))/\(∀x∈xs,H' x.1=some (.lst (x.2.map ah.v)))/\xs.map (·.1)=[a0,a1,a2,a3]/\(flat xs).Perm (ps.take i))
  ⟨[(a0,[]),(a1,[]),(a2,[]),(a3,[])],_,_,rfl,sA,e4,?_,rfl,by simp[flat]⟩ ?_ ?_ ?_
 ·intro x hx;simp at hx;rcases hx with rfl|rfl|rfl|rfl
  ·exact e0
  ·exact e1
  ·exact e2
  ·exact e3
 ·rintro i σ H' hi ⟨xs,mx,b4,rfl,s1,_⟩;exact aH.of (s1 _ _ hP.top)
 ·rintro i v σ H' hv ⟨xs,mx,b4,rfl,s1,hT,hx,hn,pm⟩;walk_at "4";walk_at "5";walk_at "6";have xl:xs.length=4:=by have:=congrArg List.length hn;rwa [aD]at this
  obtain⟨m,em⟩:=S4 (show 0<=mx%4 by lia);have hm4:m<xs.length:=by lia
  have hxm:xs[m]?=some xs[m]:=h9 hm4;have hmem:xs[m]∈xs:=wR hm4;have ex:xs=xs.take m++xs[m]::xs.drop (m+1):=by
   have h1:=Wb (m+1) xs;rw[ix,hxm,yz]at h1;exact h1.symm
  generalize xs[m]=x at hxm hmem ex;have fl:x.2.length<=12:=by
   have h1:x.2.length<=(flat xs).length:=by
    rw[ex];unfold flat;rw[CU,List.flatMap_cons,dv,dv];lia
   rw[pm.length_eq,jM]at h1;lia
  have hxx:=hx x hmem;have nS:S≠x.1:=λe=>by
   have h1:x.1∈xs.map (·.1):=aQ.mpr ⟨x,hmem,rfl⟩;rw[hn,<-e]at h1;exact(mH.mp nd).1 h1
  have xn:H x.1=none:=by
   have h1:x.1∈xs.map (·.1):=aQ.mpr ⟨x,hmem,rfl⟩;rw[hn]at h1;simp at h1;rcases h1 with e|e|e|e<;>rw[e]<;>assumption
  have ndx:(xs.map (·.1)).Nodup:=by rw[hn];exact(mH.mp nd).2
  walk_at "rd";refine⟨by decide,_,aH.of hT,V.ref x.1,by rw[em];exact cw (by rw[gU,hxm];rfl),.inl ⟨rfl,_,aH.of hxx⟩,x.1,rfl,_,hxx,by rw[aD,sizeLine_eq];lia,⟨by decide,by decide⟩,e_ xn s1,xs.take m++(x.1,x.2++[p])::xs.drop (m+1),?_,λy hy=>?_,?_,?_⟩
  ·rw[ae nS,hT]
   conv=>lhs;rw[ex]
   simp
  ·have ey:y∈xs/\y.1≠x.1\/y=(x.1,x.2++[p]):=by
    rw[ex,bu,iZ]at ndx;have h3:=(gX.mp ndx).2.2;have h4:=(mH.mp (gX.mp ndx).2.1).1;rcases bM.mp hy with q|q
    ·exact .inl ⟨List.mem_of_mem_take q,h3 y.1 (aQ.mpr ⟨y,q,rfl⟩) x.1 ko⟩
    ·rcases iu.mp q with q|q
     ·exact .inr q
     ·exact .inl ⟨List.mem_of_mem_drop q,λe=>h4 (aQ.mpr ⟨y,q,e⟩)⟩
   rcases ey with ⟨h1,h2⟩|h1
   ·rw[ae h2];exact hx y h1
   ·rw[h1,aJ,bu];rfl
  ·rw[<-hn]
   conv=>rhs;rw[ex]
   simp
  ·rw[tk];refine List.Perm.trans ?_ (pm.append_right [p])
   conv=>rhs;rw[ex]
   unfold flat;simp only[List.flatMap_append,List.flatMap_cons,List.append_assoc];refine List.Perm.append_left _ (List.Perm.append_left _ ?_);exact List.perm_append_comm
 ·rintro σ H' ⟨xs,mx,b4,rfl,s1,hT,hx,hn,pm⟩;walk_at "rd";rw[aD,kD]at pm;refine k S xs H' s1 ⟨hT,λx hx'=>⟨hx x hx',λp hp=>(hP.at_ p (pm.mem_iff.mp (jE.mpr ⟨x,hx',hp⟩))).mono s1⟩⟩ ?_ (by rw[hn];exact nd) (by have:=congrArg List.length hn;rwa [aD]at this) pm;rw[hn];intro b hb;simp at hb;rcases hb with e|e|e|e|e<;>rw[e]<;>assumption
theorem j0(xs:List 't')(x:Addr×List ah):flat (xs++[x])=flat xs++x.2:=by
 unfold flat;rw[CU];simp
theorem Mr.mono{H H' H'':Hp}{l b0:Addr}{G:List ah}{ti:List Str}{xs ys:List 't'}(h:Mr H H' l b0 G ti xs ys)(s:aI H' H''):Mr H H'' l b0 G ti xs ys:=⟨h.sm.trans s,h.nl,s _ _ h.top,s _ _ h.bb,h.nb,λy hy=>⟨s _ _ (h.at_ y hy).1,(h.at_ y hy).2⟩,h.len,h.wo⟩
theorem Jy(T:Txt K mg A):aY P w K mg base cF 1 A.Zh A.C5 ["_law_some", "_law_titles", "_law_number"] yG:=by
 refine T.lF.ok jJ ?_ ?_;walk_at "k"
 obtain⟨S,t,a0,n,G,xs,ti,rfl,hS,ht,bQ,fx,fg,k⟩:=h;refine⟨_,(aU (pS 3 jJ.nd (aW (ao (kE (dC (K:=K) rfl) (by rfl) T.uD kI (ao (bx 'h' (pv 0) af (λ_ _=>rfl)) aa)) aa))) (fB (aU (pF (cN (K:=K) rfl (dE (fA (K:=K) rfl) (pv 0) (d7 af) fF)) (pn 4 jJ.nd) (aU (pS 5 jJ.nd (aW aa)) (fB (aU (pF (cN (K:=K) rfl (pv 4)) (pn 6 jJ.nd) (fB (aU (bC (PW.pt (IQ (cJ (Kx (K:=K) rfl) (tx K (pv 6)) (pv 1) (by with_unfolding_all rfl)) (yJ (cJ dk (az ba (pv 2) af) af (aV _))))) (bo (c8 (cq (pv 5) (ao (pv 6) aa)))) cW) (fB (bo (pS 2 jJ.nd (az eV (pv 2) af))))))) (fB (bo (c8 (cq (pv 3) (ao (pv 5) aa))))))))) (bo (aG (pv 3)))))),?_⟩;walk_at "rd";have ix0:hW (((a0,G)::xs).map λx=>V.ref x.1) 0=some (V.ref a0):=show hW _ ((0:Nat):Int)=_ from cw rfl;have hg:=hS.at_ _ ko;refine⟨_,aH.of hS.top,V.ref a0,ix0,a0,rfl,_,.inl (aH.of hg.top),λb0 h0=>⟨by rw[sizeLine_eq];decide,λl hl=>bY ?_⟩⟩;obtain⟨nl,hl'⟩:=c7 hl;have I0:Mr H (upd (upd H b0 (.lst (G.map ah.v))) l (.lst [V.ref b0])) l b0 G ti [] []:=⟨(aR h0).trans (aR hl),hl',aJ,by rw[ae (Ne.symm nl)];exact aJ,Ne.symm nl,λy hy=>(by cases hy),rfl,⟨List.Sublist.refl _,λp hp=>(by cases hp)⟩⟩
 generalize upd (upd H b0 (.lst (G.map ah.v))) l (.lst [V.ref b0])=H1 at I0 ⊢;walk_at "rd";refine⟨_,aH.of (I0.sm _ _ hS.top),λp1 h1=>?_⟩;have I1:=I0.mono (aR (o:=HO.lst 'f') h1);have hp1:upd H1 p1 (HO.lst 'f') p1=some (.lst (xs.map λx=>V.ref x.1)):=by rw[aJ,Uq];rfl
 have n1:l≠p1:=bA I0.top h1;generalize upd H1 p1 (HO.lst 'f')=H2 at I1 hp1 ⊢;refine fH.of (xs:=xs.map λx=>V.ref x.1) (λi σ H'=>∃(ys:List 't') (n:Int) (b4 b5 b6:Option V),σ=[some (V.ref S),some (V.ref t),some (V.int n),some (V.ref l),b4,b5,b6]/\Mr H H' l b0 G ti (xs.take i) ys/\H' p1=some (.lst (xs.map λx=>V.ref x.1)))
  ⟨[],n,_,_,_,rfl,I1,hp1⟩ (λi σ H' _ ⟨_,_,_,_,_,_,_,e⟩=>aH.of e) ?_ ?_
 ·rintro i v σ H' hv ⟨ys,n,b4,b5,b6,rfl,I,hp⟩;walk_at "4";obtain⟨x,hx,rfl⟩:=eZ.mp hv;have hxm:=dI hx;have tk:xs.take (i+1)=xs.take i++[x]:=by rw[ix,hx];rfl
  have hxs:=hS.at_ x (jD _ hxm);walk_at "rd";refine⟨d_ _,λq hq=>bY ?_⟩;have J0:=I.mono (aR (o:=HO.lst []) hq);have hp':=aR (o:=HO.lst []) hq _ _ hp;have hq0:H q=none:=I.sm.free hq;have nq:q≠l:=Ne.symm (bA I.top hq);have nqy:∀y∈ys,y.1≠q:=λy hy=>bA (I.at_ y hy).1 hq;have nqb:b0≠q:=bA I.bb hq;have nqp:p1≠q:=bA hp hq;have hqq:upd H' q (.lst []) q=some (.lst []):=aJ;generalize upd H' q (.lst [])=H3 at J0 hp' hqq ⊢;walk_at "rd";refine fH.of (xs:=x.2.map ah.v) (λj σ H4=>∃(r:List ah) (n:Int) (b6:Option V),σ=[some (V.ref S),some (V.ref t),some (V.int n),some (V.ref l),some (V.ref x.1),some (V.ref q),b6]/\Mr H H4 l b0 G ti (xs.take i) ys/\H4 p1=some (.lst (xs.map λx=>V.ref x.1))/\H4 q=some (.lst (r.map ah.v))/\r.Sublist (x.2.take j)/\∀p∈x.2.take j,p.name∈ti->p∈r)
   ⟨[],n,_,rfl,J0,hp',hqq,by simp,λp hp=>by simp at hp⟩ (λj σ H4 _ ⟨_,_,_,_,J,_⟩=>aH.of (J.sm _ _ hxs.top)) ?_ ?_
  ·rintro j v σ H4 hv ⟨r,n,b6,rfl,J,hp4,hq4,sb,al⟩;walk_at "4";obtain⟨p,hpj,rfl⟩:=eZ.mp hv;have tj:x.2.take (j+1)=x.2.take j++[p]:=by rw[ix,hpj];rfl
   have pa:=(hxs.at_ p (dI hpj)).mono J.sm;have rl:r.length<=100:=by have h1:=sb.length_le;rw[jM]at h1;have:=fx x hxm;lia
   walk_at "rd";refine bY ?_;generalize hB:hold (FJ _ _)=B;generalize hD:Ends.mk _ _ _ _=D
   suffices main:∀(H5:Hp) (r':List ah),Mr H H5 l b0 G ti (xs.take i) ys->H5 p1=some (.lst (xs.map λx=>V.ref x.1))->H5 q=some (.lst (r'.map ah.v))->(r'=r++[p]\/r'=r/\p.name∉ti)->B D [some (V.ref S),some (V.ref t),some (V.int n),some (V.ref l),some (V.ref x.1),some (V.ref q),some p.v] H5 by
    have yes:Mr H (upd H4 q (.lst (r.map ah.v++[p.v]))) l b0 G ti (xs.take i) ys:=⟨e_ hq0 J.sm,J.nl,by rw[ae (Ne.symm nq)];exact J.top,by rw[ae nqb];exact J.bb,J.nb,λy hy=>⟨by rw[ae (nqy y hy)];exact(J.at_ y hy).1,(J.at_ y hy).2⟩,J.len,J.wo⟩
    have go:B D [some (V.ref S),some (V.ref t),some (V.int n),some (V.ref l),some (V.ref x.1),some (V.ref q),some p.v] (upd H4 q (.lst (r.map ah.v++[p.v]))):=main _ (r++[p]) yes (by rw[ae nqp];exact hp4) (by rw[aJ,bu];rfl) (.inl rfl);walk_at "rd";refine⟨_,bg.of pa.top,_,rfl,_,.inl (aH.of (J.sm _ _ ht)),rfl,by rw[List.all_map];exact List.all_eq_true.mpr λ_ _=>rfl,?_⟩;have add:VC K "list" (V.ref q) H4/\∃x_1,H4 q=some (HO.lst x_1)/\x_1.length<sizeLine/\B D [some (V.ref S),some (V.ref t),some (V.int n),some (V.ref l),some (V.ref x.1),some (V.ref q),some p.v] (upd H4 q (HO.lst (x_1++[p.v]))):=⟨.inl ⟨rfl,_,aH.of hq4⟩,_,hq4,by rw[aD,sizeLine_eq];lia,go⟩
    refine cH (λ_=>add) λno=>⟨by decide,cH (λ_=>add) λ_=>main _ r J hp4 hq4 (.inr ⟨rfl,λy=>no (A9.mpr y)⟩)⟩
   intro H5 r' J5 h5 q5 e5;subst hB hD;refine bY ?_;walk_at "rd";refine⟨⟨by decide,by decide⟩,J5,h5,r',q5,?_,λy hy ny=>?_⟩
   ·rw[tj];rcases e5 with e|⟨e,_⟩
    ·rw[e];exact sb.append (List.Sublist.refl _)
    ·rw[e];exact sb.trans (List.sublist_append_left ..)
   ·rw[tj]at hy;rcases bM.mp hy with y1|y1
    ·have:=al y y1 ny;rcases e5 with e|⟨e,_⟩
     ·rw[e];exact gG _ this
     ·rw[e];exact this
    ·rw[cx.mp y1]at ny ⊢;rcases e5 with e|⟨_,e⟩
     ·rw[e];simp
     ·exact absurd ny e
  ·rintro σ H4 ⟨r,n,b6,rfl,J,hp4,hq4,sb,al⟩;rw[aD,kD]at sb al;refine bY ?_;walk_at "rd";refine bY ?_;walk_at "rd";refine⟨.inl ⟨rfl,_,aH.of J.top⟩,_,J.top,?_,ys++[(q,r)],?_,?_⟩
   ·rw[md,aD,J.len,jM,sizeLine_eq];lia
   ·rw[tk];refine⟨e_ J.nl J.sm,J.nl,by rw[aJ,bu];rfl,by rw[ae J.nb];exact J.bb,J.nb,λy hy=>?_,by rw[dv,dv,J.len];rfl,?_,?_⟩
    ·rcases bM.mp hy with z|z
     ·exact⟨by rw[ae (J.at_ y z).2];exact(J.at_ y z).1,(J.at_ y z).2⟩
     ·rw[cx.mp z];exact⟨by rw[ae nq];exact hq4,nq⟩
    ·rw[j0,j0];exact J.wo.sub.append sb
    ·intro p hp hn;rw[j0]at hp ⊢;rcases bM.mp hp with z|z
     ·exact gG _ (J.wo.all p z hn)
     ·exact gi _ (al p z hn)
   ·rw[ae (Ne.symm n1)];exact hp4
 ·rintro σ H' ⟨ys,n,b4,b5,b6,rfl,I,hp⟩;rw[aD,kD]at I;walk_at "rd";refine k l b0 ys H' I.sm I.nl ⟨I.top,λy hy=>?_⟩ I.len I.nb (λy hy=>(I.at_ y hy).2) I.wo;rcases iu.mp hy with e|e
  ·rw[e];exact⟨I.bb,λp hp=>(hg.at_ p hp).mono I.sm⟩
  ·refine⟨(I.at_ y e).1,λp hp=>?_⟩;obtain⟨x,hx,hpx⟩:=jE.mp (I.wo.sub.subset (jE.mpr ⟨y,e,hp⟩));exact((hS.at_ x (jD _ hx)).at_ p hpx).mono I.sm
theorem Uu(T:Txt K mg A):aY P w K mg base cF 2 A.X2 A.Jf ["_law_script", "_law_number"] (LH K):=by
 refine T.Jr.ok gy ?_ ?_;walk_at "k"
 obtain⟨a,ns,n,rfl,hS,n0,k⟩:=h
 refine⟨_,(aU (pS 2 gy.nd (bO (lC T) 'a' rfl T.lW T.ed.kp T.ed.b .nil aq (ao (pv 0) (ao af aa)))) (aU (pS 3 gy.nd (aW aa)) (fB (aU (pF (g8 rfl T.kJ (ao (az cG af (az ba (pv 1) af)) aa)) (pn 4 gy.nd) (aU (pS 5 gy.nd (aW aa)) (fB (aU (pF (g8 rfl T.kJ (ao af aa)) (pn 6 gy.nd) (fB (bo (bC (cJ dk (az ba (az eV (pv 1) (az cG (az cG af (pv 6)) (pv 4))) af) af (aV _)) (bo (c8 (cq (pv 5) (ao (a_ (ao (bO (i8 T) 'a' rfl T.iX T.dh.kp T.dh.b .nil aq (ao (pv 2) (ao (pv 6) aa))) (ao (bx 'h' (aW (ao a5 (ao a5 aa))) (az ba (az eV (pv 1) (az cG af (pv 4))) af) (λ_ _=>rfl)) (ao af (ao (kE jS (by rfl) T.wL lG (ao (gQ Je (pv 6) af (aV _)) aa)) aa))))) aa)))) cW)))) (fB (aU (pS 7 gy.nd (bO (i8 T) 'a' rfl T.iX T.dh.kp T.dh.b .nil aq (ao (pv 2) (ao (az ba (az eV (pv 1) af) af) aa)))) (fB (aU (pS 8 gy.nd (a_ (ao a5 (ao af (ao (aW (ao af aa)) (ao (aW (ao (a_ (ao af (ao a5 (ao (pv 7) (ao (pv 4) (ao (gQ dk (az ba (az eV (pv 1) af) af) af (aV _)) aa)))))) aa)) aa)))))) (fB (bo (c8 (cq (pv 3) (ao (a_ (ao (bO (i8 T) 'a' rfl T.iX T.dh.kp T.dh.b .nil aq (ao (bO (lC T) 'a' rfl T.lW T.ed.kp T.ed.b .nil aq (ao (pv 0) (ao af aa))) (ao (az cG af (pv 4)) aa))) (ao (aW (ao (pv 8) aa)) (ao (pv 5) aa)))) aa))))))))))))) (bo (aG (pv 3))))))),?_⟩
 walk_at "rd";refine⟨ns,hS,by decide,d_ _,λL hL=>bY ?_⟩;have e0:ns.getD (Int.toNat 0) 0=ns.getD 0 0:=rfl;generalize ns.getD (Int.toNat 0) 0=nb at e0 ⊢;walk_at "rd";refine⟨by decide,?_⟩;refine BQ.of (by omega) (by omega) (λi σ H'=>∃(us:List ah) (b4 b5 b6 b7 b8:Option V),σ=[some (V.ref a),some (V.int n),some (V.int nb),some (V.ref L),b4,b5,b6,b7,b8]/\aI H H'/\H' L=some (.lst (us.map ah.v))/\(∀p∈us,p.At H'/\L∉p.lists/\∀b∈p.lists,H b=none)/\(∀p∈us,yu p)/\us.map ah.name=(List.range i).map λk:Nat=>aP (ns.getD 1 0) (20+(k:Int)))
  ⟨[],_,_,_,_,_,rfl,aR hL,aJ,λp hp=>(by cases hp),λp hp=>(by cases hp),rfl⟩ ?_ ?_
 ·rintro i σ H' hi ⟨us,b4,b5,b6,b7,b8,rfl,sm,hLL,pa,pb,nm⟩;have hi5:(i:Int)<5:=by omega
  have ul:us.length=i:=by have:=congrArg List.length nm;rwa [aD,aD,Om]at this
  walk_at "rd";refine⟨d_ _,λlt hlt=>bY ?_⟩;have nL:L≠lt:=bA hLL hlt;have I0:Yv nb H' (upd H' lt (.lst [])) lt 0 []:=⟨aR hlt,hlt,aJ,λn hn=>(by cases hn),λn hn=>(by cases hn),.nil,bS _⟩
  generalize upd H' lt (.lst [])=H1 at I0 ⊢;walk_at "rd";refine BQ.of (by omega) (by omega) (λj σ H2=>∃(ts:List aw) (b6 b7 b8:Option V),σ=[some (V.ref a),some (V.int n),some (V.int nb),some (V.ref L),some (V.int i),some (V.ref lt),b6,b7,b8]/\Yv nb H' H2 lt j ts)
   ⟨[],_,_,_,rfl,I0⟩ ?_ ?_
  ·rintro j σ H2 hj ⟨ts,b6,b7,b8,rfl,I⟩;have hj:j<15:=by omega
   walk_at "rd";refine bY ?_;walk_at "rd";have keep:Yv nb H' H2 lt (j+1) ts:=⟨I.sm,I.nl,I.top,I.at_,λn hn=>by obtain⟨i,h1,h2⟩:=I.nm n hn;exact⟨i,by omega,h2⟩,I.nd,Ru I.len⟩
   refine⟨⟨by omega,by omega⟩,by decide,cH (λ_=>⟨.inl ⟨rfl,_,aH.of I.top⟩,by omega,by omega,by walk_at "s", λq1 h1=>⟨⟨by omega,by omega⟩,by decide,_,aH.of aJ,?_⟩⟩) λ_=>⟨ts,keep⟩⟩;obtain⟨z,hz⟩:∃z:Str,hW [V.str s!"tell",V.str s!"weak"] (n/(5+(i:Int))%2)=some (V.str z):=by
    have hd:n/(5+(i:Int))%2=0\/n/(5+(i:Int))%2=1:=by omega
    rcases hd with e|e<;>rw[e]<;>exact⟨_,rfl⟩
   refine⟨_,hz,by walk_at "s", λq h2=>?_⟩;have s3:=(aR (o:=HO.lst [V.str s!"tell",V.str s!"weak"]) h1).trans (aR (o:=HO.tup [V.str (aP nb j),V.str z,V.int 0,V.int (if decide ((7:Int)<j)=true then 1 else 0)]) h2);have hq:upd (upd H2 q1 (HO.lst [V.str s!"tell",V.str s!"weak"])) q (HO.tup [V.str (aP nb j),V.str z,V.int 0,V.int (if decide ((7:Int)<j)=true then 1 else 0)]) q=some (HO.tup [V.str (aP nb j),V.str z,V.int 0,V.int (if decide ((7:Int)<j)=true then 1 else 0)]):=aJ;generalize upd (upd H2 q1 (HO.lst [V.str s!"tell",V.str s!"weak"])) q (HO.tup [V.str (aP nb j),V.str z,V.int 0,V.int (if decide ((7:Int)<j)=true then 1 else 0)])=H3 at s3 hq ⊢;have len:=I.len;refine⟨_,s3 _ _ I.top,by rw[aD,sizeLine_eq];omega,ts++[⟨q,aP nb j,z,0,if decide ((7:Int)<j)=true then 1 else 0⟩],?_⟩;have bt:ff H3 (upd H3 lt (HO.lst (ts.map aw.v++[V.ref q]))) lt:=ff.upd (s3 _ _ I.top);refine⟨e_ I.nl (I.sm.trans s3),I.nl,by rw[aJ,bu];rfl,λx hx=>?_,λx hx=>?_,?_,by rw[dv];simp;omega⟩
   ·rcases bM.mp hx with y|y
    ·exact((I.at_ x y).mono s3).but bt
    ·rw[cx.mp y];exact bt.tup hq
   ·rcases bM.mp hx with y|y
    ·obtain⟨i,h1,h2⟩:=I.nm x y;exact⟨i,by omega,h2⟩
    ·rw[cx.mp y];exact⟨j,by omega,rfl⟩
   ·rw[bu];refine gX.mpr ⟨I.nd,by simp,λx hx y hy e=>?_⟩;have ey:y=aP nb j:=by simpa using hy
    obtain⟨t,ht,rfl⟩:=aQ.mp hx;obtain⟨i,h1,h2⟩:=I.nm t ht;rw[h2,ey]at e;have:=d9 (m:=i) (n:=j) (by omega) (by omega) e;omega
  ·rintro σ H2 ⟨ts,b6,b7,b8,rfl,I⟩;walk_at "rd";have tl:=I.len;refine bY ?_;walk_at "rd";refine⟨⟨by decide,by decide⟩,by decide,by omega,by omega,bY ?_⟩;generalize aP nb (n/11%20)=wn;walk_at "rd";refine⟨by rw[sizeLine_eq];decide,λlw g1=>⟨⟨by decide,by decide⟩,by decide,by walk_at "s", λfa g2=>⟨by rw[sizeLine_eq];decide,λlf g3=>⟨by rw[sizeLine_eq];decide,λst g4=>bY ?_⟩⟩⟩⟩;have t1:=aR (o:=HO.lst [V.int 7]) g1;have t2:=aR (o:=HO.tup [V.int 0,V.str s!"whole",V.str wn,V.int i,V.bl (decide (n/13%2=0))]) g2;have t3:=aR (o:=HO.lst [V.ref fa]) g3;have t4:=aR (o:=HO.tup [V.str s!"data",V.int 4,V.ref lw,V.ref lf]) g4;have tA:=((t1.trans t2).trans t3).trans t4;have e1:=((t2.trans t3).trans t4) _ _ (aJ (H:=H2) (a:=lw) (o:=HO.lst [V.int 7]));have e2:=(t3.trans t4) _ _ (aJ (H:=upd H2 lw (HO.lst [V.int 7])) (a:=fa) (o:=HO.tup [V.int 0,V.str s!"whole",V.str wn,V.int i,V.bl (decide (n/13%2=0))]));have e3:=t4 _ _ (aJ (H:=upd (upd H2 lw (HO.lst [V.int 7])) fa (HO.tup [V.int 0,V.str s!"whole",V.str wn,V.int i,V.bl (decide (n/13%2=0))])) (a:=lf) (o:=HO.lst [V.ref fa]));have e4:=aJ (H:=upd (upd (upd H2 lw (HO.lst [V.int 7])) fa (HO.tup [V.int 0,V.str s!"whole",V.str wn,V.int i,V.bl (decide (n/13%2=0))])) lf (HO.lst [V.ref fa])) (a:=st) (o:=HO.tup [V.str s!"data",V.int 4,V.ref lw,V.ref lf]);have nlw:L≠lw:=bA (I.sm _ _ hLL) g1
   have nlf:L≠lf:=bA ((t1.trans t2) _ _ (I.sm _ _ hLL)) g3;generalize upd (upd (upd (upd H2 lw (HO.lst [V.int 7])) fa (HO.tup [V.int 0,V.str s!"whole",V.str wn,V.int i,V.bl (decide (n/13%2=0))])) lf (HO.lst [V.ref fa])) st (HO.tup [V.str s!"data",V.int 4,V.ref lw,V.ref lf])=H3 at tA e1 e2 e3 e4 ⊢;have s3:=I.sm.trans tA;walk_at "rd";have hL3:=s3 _ _ hLL;refine⟨.inl ⟨rfl,_,aH.of hL3⟩,ns,(sm.trans s3).seq hS,by decide,by omega,by omega,by walk_at "s", λls g5=>⟨by rw[sizeLine_eq];decide,λtp g6=>?_⟩⟩;rw[show ns.getD (Int.toNat 1) 0=ns.getD 1 0 from rfl];have t5:=aR (o:=HO.lst [V.ref st]) g5;have t6:=aR (o:=HO.tup [V.str (aP (ns.getD 1 0) (20+(i:Int))),V.ref ls,V.ref lt]) g6;have nls:L≠ls:=bA hL3 g5;have e5:=t6 _ _ (aJ (H:=H3) (a:=ls) (o:=HO.lst [V.ref st]));have e6:=aJ (H:=upd H3 ls (HO.lst [V.ref st])) (a:=tp) (o:=HO.tup [V.str (aP (ns.getD 1 0) (20+(i:Int))),V.ref ls,V.ref lt]);have t56:=t5.trans t6;generalize upd (upd H3 ls (HO.lst [V.ref st])) tp (HO.tup [V.str (aP (ns.getD 1 0) (20+(i:Int))),V.ref ls,V.ref lt])=H4 at t56 e5 e6 ⊢;have s4:=s3.trans t56;have hL4:=s4 _ _ hLL;have bt:ff H4 (upd H4 L (HO.lst (us.map ah.v++[V.ref tp]))) L:=ff.upd hL4;have new:ah.At H4 ⟨tp,ls,lt,aP (ns.getD 1 0) (20+(i:Int)),[⟨st,lw,lf,s!"data", 4,[7],[⟨fa,0,s!"whole", wn,i,decide (n/13%2=0)⟩]⟩],ts⟩:=⟨e6,e5,(tA.trans t56) _ _ I.top,λs hs=>by
    rw[cx.mp hs];exact⟨t56 _ _ e4,t56 _ _ e1,t56 _ _ e3,λf hf=>by rw[cx.mp hf];exact t56 _ _ e2⟩,λm hm=>(I.at_ m hm).mono (tA.trans t56)⟩
   have nlists:L∉ah.lists ⟨tp,ls,lt,aP (ns.getD 1 0) (20+(i:Int)),[⟨st,lw,lf,s!"data", 4,[7],[⟨fa,0,s!"whole", wn,i,decide (n/13%2=0)⟩]⟩],ts⟩:=by simp[ah.lists,aM.lists,nls,nL,nlw,nlf]
   refine⟨_,hL4,by rw[aD,sizeLine_eq];omega,e_ hL (sm.trans s4),us++[⟨tp,ls,lt,aP (ns.getD 1 0) (20+(i:Int)),[⟨st,lw,lf,s!"data", 4,[7],[⟨fa,0,s!"whole", wn,i,decide (n/13%2=0)⟩]⟩],ts⟩],by rw[aJ,bu];rfl,λp hp=>?_,λp hp=>?_,?_⟩
   ·rcases bM.mp hp with y|y
    ·exact⟨((pa p y).1.mono s4).but bt (pa p y).2.1,(pa p y).2⟩
    ·rw[cx.mp y];refine⟨new.but bt nlists,nlists,λb hb=>?_⟩;simp[ah.lists,aM.lists]at hb;rcases hb with rfl|rfl|rfl|rfl
     ·exact(sm.trans s3).free g5
     ·exact sm.free hlt
     ·exact(sm.trans I.sm).free g1
     ·exact((sm.trans I.sm).trans (t1.trans t2)).free g3
   ·rcases bM.mp hp with y|y
    ·exact pb p y
    ·rw[cx.mp y];have tl:ts.length<=15:=tl;refine⟨by show ts.length<=61;omega,by show [_].length<=61;simp,λs hs=>?_,by show(aZ [_]).length<=61;simp[aZ],I.nd⟩;rw[cx.mp hs];exact⟨by show [(7:Int)].length<=61;decide,by simp⟩
   ·rw[bu,nm,List.range_succ,bu];rfl
 ·rintro σ H' ⟨us,b4,b5,b6,b7,b8,rfl,sm,hLL,pa,pb,nm⟩;walk_at "rd";have ul:=congrArg List.length nm;rw[aD,aD,Om]at ul;refine k L us H' sm hL ⟨hLL,λp hp=>(pa p hp).1⟩ (λp hp=>(pa p hp).2.2) ⟨by omega,pb,by rw[ul];exact nm⟩
theorem UX(ns:List Int)(h:ns.length<=63):∃ms:List Int,eY 'u' (some 5) (some 198)=ms.map V.int/\ms.length<=58:=by
 refine⟨(ns.drop (HT.sIx 'u'.length 0 (some 5))).take (HT.sIx 'u'.length 'u'.length (some 198) - HT.sIx 'u'.length 0 (some 5)),?_,?_⟩
 ·unfold eY;rw[List.map_take,List.map_drop]
 ·have e:HT.sIx 'u'.length 0 (some 5)=min 5 ns.length:=by
   rw[show(some (5:Int))=some ((5:Nat):Int) from rfl,HT.sIx_nat,aD]
  rw[jM,List.length_drop,e];omega
theorem Gx{α:Type}{l:List α}(h:l.length=4):∃a b c d,l=[a,b,c,d]:=by
 match l,h with
 |[a,b,c,d],_=>exact⟨a,b,c,d,rfl⟩
theorem eO.keep{H H':Hp}{t lt:Addr}{a:HJ}(h:eO H t a lt)(s:bD H H'):eO H' t a lt:=by
 obtain⟨tj,d,lw,lp,ll,PS,LS,e1,e2,e3,e4,e5,e6,e7,e8,e9,e10⟩:=h.ex;exact⟨fK s.lt h.ti,h.int,tj,d,lw,lp,ll,PS,LS,lE s.lt e1,lE s.lt e2,fK s.lt e3,fK s.lt e4,λq hq=>⟨lE s.lt (e5 q hq).1,fK s.lt (e5 q hq).2⟩,λq hq=>lE s.lt (e6 q hq),e7,e8,s _ _ (λ_ z=>by cases z) e9,fK s.lt e10⟩
def Sr(x:Int×List Int):D:=.tup [.int x.1,.lst (x.2.map D.int)]
def RS(x:Int×Str×Int):D:=.tup [.int x.1,.str x.2.1,.int x.2.2]
def VV(a:HJ):D:=.tup [.int a.st,.int a.sz,.int a.en,.lst (a.ps.map Sr),.lst (a.ns.map RS)]
theorem iV{H:Hp}{l:Addr}{zs:List Str}(h:H l=some (.lst (zs.map V.str))):Rep K H (.lst (zs.map D.str)) (.ref l):=by
 simp only[Rep];exact⟨_,_,rfl,aH.of h,RepL.map λz _=>by simp only[Rep]⟩
theorem OE(a:HJ):dep (VV a)<=20:=by
 have h1:depL (a.ps.map Sr)<=3:=dm λx _=>by
  have:depL (x.2.map D.int)<=0:=dm λy _=>by simp[dep]
  simp only[Sr,dep,depL];omega
 have h2:depL (a.ns.map RS)<=3:=dm λx _=>by simp[RS,dep,depL]
 simp only[VV,dep,depL];omega
theorem A2(zs:List Str):dep (.lst (zs.map D.str))<=20:=by
 have:depL (zs.map D.str)<=0:=dm λy _=>by simp[dep]
 simp only[dep];omega
theorem eO.wh(h:eO H t a lt):∃tj d lw,H t=some (.tup [.ref tj,.ref d,.ref lt,.ref lw])/\Rep K H (VV a) (.ref tj)/\H d=some (.dT a.ag)/\H lw=some (.lst (a.why.map V.str)):=by
 obtain⟨tj,d,lw,lp,ll,PS,LS,e1,e2,e3,e4,e5,e6,e7,e8,e9,e10⟩:=h.ex;refine⟨tj,d,lw,e1,?_,e9,e10⟩;have r1:Rep K H (.lst (a.ps.map Sr)) (.ref lp):=by
  rw[<-e7,cC];simp only[Rep];exact⟨_,_,rfl,aH.of e3,RepL.map λq hq=>by
   simp only[Function.comp,Sr,Rep];exact⟨_,_,rfl,bg.of (e5 q hq).1,by simp only[RepL,Rep];exact⟨_,_,rfl,rfl,_,_,rfl,⟨_,_,rfl,aH.of (e5 q hq).2,RepL.ints _⟩,rfl⟩⟩⟩
 have r2:Rep K H (.lst (a.ns.map RS)) (.ref ll):=by
  rw[<-e8,cC];simp only[Rep];exact⟨_,_,rfl,aH.of e4,RepL.map λq hq=>by
   simp only[Function.comp,RS,Rep];exact⟨_,_,rfl,bg.of (e6 q hq),by simp[RepL,Rep]⟩⟩
 unfold VV;simp only[Rep]at r1 r2 ⊢;exact⟨_,_,rfl,bg.of e2,by simp only[RepL,Rep];exact⟨_,_,rfl,rfl,_,_,rfl,rfl,_,_,rfl,rfl,_,_,rfl,r1,_,_,rfl,r2,rfl⟩⟩
theorem eO.eq{H:Hp}{t t' lt lt':Addr}{a:HJ}(h:eO H t a lt)(h':eO H t' a lt'):∃xs ys,bg K H t xs/\bg K H t' ys/\xs.length=ys.length/\∀z∈xs.zip ys,Wi K H z.1 z.2:=by
 obtain⟨tj,d,lw,e1,e2,e3,e4⟩:=h.wh (K:=K);obtain⟨tj',d',lw',f1,f2,f3,f4⟩:=h'.wh (K:=K);refine⟨_,_,bg.of e1,bg.of f1,rfl,λz hz=>?_⟩;simp only[List.zip_cons_cons,List.mem_cons,List.zip_nil_right,List.not_mem_nil,or_false]at hz;rcases hz with rfl|rfl|rfl|rfl
 ·exact .inl ⟨_,e2,f2,OE a⟩
 ·exact .inr ⟨_,_,_,rfl,rfl,e3,f3,h.int⟩
 ·exact .inl ⟨_,iV h.ti,iV h'.ti,A2 _⟩
 ·exact .inl ⟨_,iV e4,iV f4,A2 _⟩
structure yt(H:Hp)(A:Ad)(nb tb:Int)(S a0 t lt:Addr)(e:Str)(G:List ah)(xs:List (Addr×List ah))(a:HJ)(T:List Co):Prop where
 sh:AV H S ((a0,G)::xs)
 x3:xs.length=3
 bs:Jn nb tb (G++flat xs)
 en:Wn nb e
 at_:eO H t a lt
 rr:yD (G.map aC) 'H' e T a
 t1:bU A.aK y9 yH H
 t2:bU A.bf iH iL H
theorem yt.mono{H H':Hp}{nb tb:Int}{S a0 t lt:Addr}{e:Str}{G:List ah}{xs:List 't'}{a:HJ}{T:List Co}(h:yt H A nb tb S a0 t lt e G xs a T)(s:aI H H'):yt H' A nb tb S a0 t lt e G xs a T:=⟨lV (.of s) h.sh,h.x3,h.bs,h.en,h.at_.keep (.of s),h.rr,h.t1.more s,h.t2.more s⟩
theorem yt.next(h:yt H A nb tb S a0 t lt e G xs a T)(s:bD H H')(t1:bU A.aK y9 yH H')(t2:bU A.bf iH iL H'):yt H' A nb tb S a0 t lt e G xs a T:=⟨lV s h.sh,h.x3,h.bs,h.en,h.at_.keep s,h.rr,t1,t2⟩
theorem yt.bQ(h:yt H A nb tb S a0 t lt e G xs a T):G.length<=13/\(flat xs).length<=13/\∀x∈xs,x.2.length<=100:=by
 have:=h.bs.bQ;rw[dv]at this;refine⟨by omega,by omega,λx hx=>?_⟩;have:x.2.length<=(flat xs).length:=ia (List.sublist_flatten_of_mem (aQ.mpr ⟨x,hx,rfl⟩:x.2∈xs.map (·.2))).length_le (by unfold flat;rw[List.flatMap_def];exact Nat.le_refl _);omega
theorem yt.same(h:yt H A nb tb S a0 t lt e G xs a T)(wo:Wo a.ti xs ys)(us:List ah):∀z p,p∈T->bw 'H' z=some p->bw ((flat ys++us).map aC) z=some p:=λz p hp hf=>by
 have nd:=h.bs.nd;rw[bu]at nd;refine BP wo.sub (gX.mp nd).2.1 hf λu hu eu=>wo.all u hu ?_;rw[eu];exact h.rr.ti.2.mem_iff.mpr (aQ.mpr ⟨p,gi _ hp,rfl⟩)
theorem yt.Rk(h:yt H A nb tb S a0 t lt e G xs a T)(wo:Wo a.ti xs ys)(mr:Zj tb us):Um G (flat ys++us) e:=by
 obtain⟨rs,tc⟩:=h.rr.tk;have nd:=h.bs.nd;have bQ:=h.bs.bQ;have sl:=wo.sub.length_le;have fu:=mr.bQ;refine h.bs.two h.en tc h.rr.cl (h.same wo us) (by simp only[List.length_append]at bQ ⊢;omega) (λp hp=>?_) ?_
 ·rcases bM.mp hp with y|y
  ·exact h.bs.bn p (gi _ (wo.sub.subset y))
  ·exact mr.bn p y
 ·rw[<-yz,bu];refine gX.mpr ⟨(((List.Sublist.refl G).append wo.sub).map ah.name).nodup nd,?_,λx hx y hy e=>?_⟩
  ·rw[mr.names];refine Rq.mpr (List.Pairwise.imp_of_mem (λ{i j} hi hj ne e=>?_) List.nodup_range);have hi:=qV.mp hi;have hj:=qV.mp hj;have:=d9 (m:=20+i) (n:=20+j) (by omega) (by omega) (by rw[Int.natCast_add,Int.natCast_add];exact e);exact ne (by omega)
  ·obtain⟨p,hp,rfl⟩:=aQ.mp hx;have hp':p∈G++flat xs:=((List.Sublist.refl G).append wo.sub).subset hp;obtain⟨k,hk,ek⟩:=h.bs.aS p hp';rw[mr.names]at hy;obtain⟨j,hj,ej⟩:=aQ.mp hy;have hj:=qV.mp hj;have:=d9 (m:=k) (n:=20+j) (by omega) (by omega) (by rw[<-ek,Int.natCast_add];exact e.trans ej.symm);omega
theorem yt.one{H:Hp}{nb tb:Int}{S a0 t lt:Addr}{e:Str}{G:List ah}{xs ys:List 't'}{a a':HJ}{T T':List Co}{us:List ah}(h:yt H A nb tb S a0 t lt e G xs a T)(wo:Wo a.ti xs ys)(r':yD (G.map aC) ((flat ys++us).map aC) e T' a'):a'=a:=by
 obtain⟨rs,tc⟩:=h.rr.tk;obtain⟨rs',tc'⟩:=r'.tk;exact yD.one (kO tc'.nd tc.nd (Ay tc' h.rr.cl (h.same wo us)) (Ht tc r'.cl (h.same wo us))) h.rr r'
theorem O1(s:bD H H')(h:aH K H a xs):aH K H' a xs:=
 h.imp (λy=>y.imp (λy=>s _ _ (λ_ z=>by cases z) y) λ⟨o,y⟩=>⟨o,s _ _ (λ_ z=>by cases z) y⟩) id
theorem Dq(tb:Int):Zj tb []:=⟨d_ _,λp hp=>(by cases hp),rfl⟩
theorem RN(T:Txt K mg A):aY P w K mg base cF 12 A.Xq A.IX ["_law_script"] (uO K A.bf A.aK):=by
 refine T.RQ.ok gD ?_ ?_;walk_at "k"
 obtain⟨a,ns,rfl,hS,hl,tbn,tbt,tn,k⟩:=h
 refine⟨_,(aU (pS 1 gD.nd (bO (lC T) 'a' rfl T.lW T.ed.kp T.ed.b .nil aq (ao (pv 0) (ao af aa)))) (aU (pS 2 gD.nd (bO (lC T) 'a' rfl T.lW T.ed.kp T.ed.b .nil aq (ao (pv 0) (ao af aa)))) (aU (pS 3 gD.nd (az ba (az eS (bO (lC T) 'a' rfl T.lW T.ed.kp T.ed.b .nil aq (ao (pv 0) (ao af aa))) af) af)) (fB (aU (pS 4 gD.nd (bO (Vc T) 'a' rfl T.R7 T.JB.kp T.JB.b .nil aq (ao (bO (Sh T) 'a' rfl T.Sw T.GY.kp T.GY.b .nil aq (ao (dE (fA (K:=K) rfl) (pv 0) (d7 af) (d7 af)) (ao (pv 1) 'v'))) (ao (bO (lC T) 'a' rfl T.lW T.ed.kp T.ed.b .nil aq (ao (pv 0) (ao af aa))) aa)))) (fB (aU (c8 (cq (bx 'h' (pv 4) af (λ_ _=>rfl)) (ao (bO (Sl T) 'a' rfl T.To T.Gu.kp T.Gu.b .nil aq (ao (pv 1) 'v')) aa))) (fB (aU (pS 5 gD.nd (bO (i8 T) 'a' rfl T.iX T.dh.kp T.dh.b .nil aq (ao (pv 1) (ao (az ba (bO (lC T) 'a' rfl T.lW T.ed.kp T.ed.b .nil aq (ao (pv 0) (ao af aa))) af) aa)))) (fB (aU (pS 6 gD.nd (bO (xw T) 'a' rfl T.yh T.gK.kp T.gK.b .nil aq (ao (pv 4) (ao (pv 5) aa)))) (fB (aU (bC (cJ (qq hr.units (K:=K) rfl) (bO (xw T) 'a' rfl T.yh T.gK.kp T.gK.b .nil aq (ao (bO (Jy T) 'a' rfl T.Fs T.lF.kp T.lF.b .nil aq (ao (pv 4) (ao (tx K (pv 6)) (ao af aa)))) (ao (pv 5) aa))) (pv 6) (aV _)) (bo (aG fU)) cW) (fB (aU (bC (cJ (qq hr.units (K:=K) rfl) (bO (xw T) 'a' rfl T.yh T.gK.kp T.gK.b .nil aq (ao (bO (Jy T) 'a' rfl T.Fs T.lF.kp T.lF.b .nil aq (ao (pv 4) (ao (tx K (pv 6)) 'D'))) (ao (pv 5) aa))) (pv 6) (aV _)) (bo (aG fU)) cW) (fB (aU (pS 7 gD.nd (bO (Jy T) 'a' rfl T.Fs T.lF.kp T.lF.b .nil aq (ao (pv 4) (ao (tx K (pv 6)) (ao (az eV (pv 3) af) aa))))) (fB (aU (zN (az (i6 (K:=K) rfl) (bx 'h' (pv 7) af (λ_ _=>rfl)) (bO (Uu T) 'a' rfl T.RH T.Jr.kp T.Jr.b .nil aq (ao (pv 0) 'D'))) (zM (pv 7) af set_list)) (fB (aU (bC (cJ (qq hr.units (K:=K) rfl) (bO (xw T) 'a' rfl T.yh T.gK.kp T.gK.b .nil aq (ao (az (i6 (K:=K) rfl) (pv 7) (aW (ao (aW aa) aa))) (ao (pv 5) aa))) (pv 6) (aV _)) (bo (aG fU)) cW) (fB (bo (aG (gQ (Mb hr.units (K:=K) rfl) (bO (xw T) 'a' rfl T.yh T.gK.kp T.gK.b .nil aq (ao (pv 4) (ao (pv 5) aa))) (pv 6) (aV _)))))))))))))))))))))))))),?_⟩
 walk_at "rd";refine⟨ns,hS,by decide,ns,hS,by decide,ns,hS,by decide,.inr ⟨by decide,by decide⟩,by decide,bY ?_⟩;have m0:0<=ns.getD (Int.toNat 4) 0*1583458089%2147483647:=by omega
 generalize ns.getD (Int.toNat 4) 0*1583458089%2147483647=m at m0 ⊢;have etb:ns.getD (Int.toNat 1) 0=ns.getD 1 0:=rfl;generalize ns.getD (Int.toNat 1) 0=tb at etb ⊢;generalize ns.getD (Int.toNat 0) 0=nb;have u1:bU A.aK y9 yH H:=⟨#[],tbt,trivial,.inl rfl⟩
 have u2:bU A.bf iH iL H:=⟨#[],tbn,trivial,.inl rfl⟩
 walk_at "rd";obtain⟨ms,em,lm⟩:=UX ns hl;refine⟨_,hS,λp hp=>?_⟩;rw[em];have s1:=aR (o:=HO.lst (ms.map V.int)) hp;refine⟨ms,aH.of aJ,by omega,λL ps N H1 s2 hP fr1 dr=>?_⟩;have s12:=s1.trans s2;refine⟨ns,s12.seq hS,by decide,ps,⟨hP.top,hP.at_⟩,dr.bQ,λS x4 H2 s3 hv fr2 nd2 Q3 pm=>bY ?_⟩;have bQ:=dr.bQ;have sH2:=s12.trans s3;obtain⟨⟨a0,p0⟩,⟨a1,p1⟩,⟨a2,p2⟩,⟨a3,p3⟩,rfl⟩:=Gx Q3;have l3:=hv.at_ (a3,p3) (by simp);walk_at "rd";refine⟨_,aH.of hv.top,V.ref a3,(show hW [V.ref a0,V.ref a1,V.ref a2,V.ref a3] ((3:Nat):Int)=_ from cw rfl),.inl ⟨rfl,_,aH.of l3.top⟩,λr H3 s5 ra rp rf rn=>?_⟩;have p3l:p3.length<=12:=by
  have:=pm.length_eq;unfold flat at this;simp at this;omega
 refine⟨a3,rfl,_,s5 _ _ l3.top,by show(p3.map ah.v).length<sizeLine;rw[aD,sizeLine_eq];omega,bY ?_⟩;have bt:ff H3 (upd H3 a3 (HO.lst (p3.map ah.v++[r.v]))) a3:=ff.upd (s5 _ _ l3.top);have atP:∀p∈ps,p.At (upd H3 a3 (HO.lst (p3.map ah.v++[r.v]))):=λp hp=>(((hP.at_ p hp).mono s3).mono s5).but bt λy=>by
  obtain⟨zs,hz⟩:=(hP.at_ p hp).list y;rw[fr2 a3 (by simp)]at hz;cases hz
 have atR:r.At (upd H3 a3 (HO.lst (p3.map ah.v++[r.v]))):=ra.but bt λy=>by
  have:=rf a3 y;rw[l3.top]at this;cases this
 have inp:∀x∈[(a0,p0),(a1,p1),(a2,p2),(a3,p3)],∀p∈x.2,p∈ps:=λx hx p hp=>pm.mem_iff.mp (jE.mpr ⟨x,hx,hp⟩);have nS:S≠a3/\a0≠a3/\a1≠a3/\a2≠a3:=by
  simp at nd2;exact⟨nd2.1.2.2.2,nd2.2.1.2.2,nd2.2.2.1.2,nd2.2.2.2⟩
 have hv4:AV (upd H3 a3 (HO.lst (p3.map ah.v++[r.v]))) S ((a0,p0)::[(a1,p1),(a2,p2),(a3,p3++[r])]):=by
  refine⟨by rw[ae nS.1];exact s5 _ _ hv.top,λx hx=>?_⟩;have old:∀y∈[(a0,p0),(a1,p1),(a2,p2),(a3,p3)],y.1≠a3->PL (upd H3 a3 (HO.lst (p3.map ah.v++[r.v]))) y.1 y.2:=λy hy n=>⟨by rw[ae n];exact s5 _ _ (hv.at_ y hy).top,λp hp=>atP p (inp y hy p hp)⟩;simp only[List.mem_cons,List.not_mem_nil,or_false]at hx;rcases hx with rfl|rfl|rfl|rfl
  ·exact old _ (by simp) nS.2.1
  ·exact old _ (by simp) nS.2.2.1
  ·exact old _ (by simp) nS.2.2.2
  ·refine⟨by rw[aJ,bu];rfl,λp hp=>?_⟩;rcases bM.mp hp with y|y
   ·exact atP p (inp (a3,p3) (by simp) p y)
   ·rw[cx.mp y];exact atR
 have pm4:(p0++flat [(a1,p1),(a2,p2),(a3,p3++[r])]).Perm (ps++[r]):=by
  refine List.Perm.trans ?_ (pm.append_right [r]);unfold flat;simp
 have a3n:H a3=none:=bW s12 (fr2 a3 (by simp));have sH4:aI H (upd H3 a3 (HO.lst (p3.map ah.v++[r.v]))):=e_ a3n (sH2.trans s5);have bs:Jn nb tb (p0++flat [(a1,p1),(a2,p2),(a3,p3++[r])]):=(dr.bs lm rp).perm pm4;generalize hxs:[(a1,p1),(a2,p2),(a3,p3++[r])]=xs at hv4 bs;have x3:xs.length=3:=by rw[<-hxs];rfl
 generalize upd H3 a3 (HO.lst (p3.map ah.v++[r.v]))=H4 at hv4 sH4 ⊢;clear pm4 nS inp atR atP bt p3l rn rf rp ra s5 l3 pm nd2 fr2 hv s3 dr fr1 hP s12 s2 s1 hxs;walk_at "rd";refine⟨ns,sH4.seq hS,by decide,by decide,by omega,by omega,bY ?_⟩;have en:Wn nb (aP nb (ns.getD (Int.toNat 3) 0%12)):=⟨_,by omega,by omega,rfl⟩
 generalize aP nb (ns.getD (Int.toNat 3) 0%12)=e at en ⊢;walk_at "rd";refine⟨a0,p0,xs,hv4,by omega,bs.Rk en,u1.more sH4,u2.more sH4,tn,λt lt an Tk H5 s5 t5 v5 ha hr=>bY ?_⟩;have I:yt H5 A nb tb S a0 t lt e p0 xs an Tk:=⟨lV s5 hv4,x3,bs,en,ha,hr,t5,v5⟩
 have hS5:aH K H5 a 'u':=O1 ((bD.of sH4).trans s5) hS;clear hv4 ha hr t5 v5 s5 sH4 bs u1 u2;walk_at "rd";have due:∀{H'},yt H' A nb tb S a0 t lt e p0 xs an Tk->∃ys,bg K H' t ys/\hW ys 2=some (V.ref lt):=λI=>by
  obtain⟨tj,d,lw,e1,_⟩:=I.at_.wh (K:=K);exact⟨_,bg.of e1,rfl⟩
 obtain⟨y1,q1,i1⟩:=due I;refine⟨_,q1,_,i1,lt,rfl,a0,p0,xs,I.sh,an.ti,I.at_.ti,by omega,I.bQ.2.2,by have:=I.bQ.1;omega,λl b0 ys H6 s6 hl6 sh6 yl nb0 ny wo=>?_⟩;have I6:=I.mono s6;have ap:=I6.Rk wo (Dq tb);rw[nY]at ap;refine⟨b0,p0,ys,sh6,by omega,ap,I6.t1,I6.t2,tn,λt' lt' an' Tk' H7 s7 t7 v7 ha' hr'=>?_⟩;have I7:=I6.next s7 t7 v7;have ea:=I7.one (us:=[]) wo (by rw[nY];exact hr');rw[ea]at ha';obtain⟨x1,x2,z1,z2,z3,z4⟩:=eO.eq (K:=K) ha' I7.at_;have hS7:aH K H7 a 'u':=O1 ((bD.of s6).trans s7) hS5;refine⟨_,z1,_,z2,z3,z4,bY ?_⟩;clear z1 z2 z3 z4 ha' hr' ea v7 t7 s7 ap wo ny nb0 yl sh6 hl6 s6 I6 i1 q1 hS5 I;walk_at "rd";obtain⟨y2,q2,i2⟩:=due I7;refine⟨_,q2,_,i2,lt,rfl,a0,p0,xs,I7.sh,an.ti,I7.at_.ti,by omega,I7.bQ.2.2,by have:=I7.bQ.1;omega,λl b0 ys H8 s8 hl8 sh8 yl nb0 ny wo=>?_⟩;have I8:=I7.mono s8;have ap:=I8.Rk wo (Dq tb);rw[nY]at ap;refine⟨b0,p0,ys,sh8,by omega,ap,I8.t1,I8.t2,tn,λt' lt' an' Tk' H9 s9 t9 v9 ha' hr'=>?_⟩;have I9:=I8.next s9 t9 v9;have ea:=I9.one (us:=[]) wo (by rw[nY];exact hr');rw[ea]at ha';obtain⟨x1,x2,z1,z2,z3,z4⟩:=eO.eq (K:=K) ha' I9.at_;have hS9:aH K H9 a 'u':=O1 ((bD.of s8).trans s9) hS7;refine⟨_,z1,_,z2,z3,z4,bY ?_⟩;clear z1 z2 z3 z4 ha' hr' ea v9 t9 s9 ap wo ny nb0 yl sh8 hl8 s8 I8 i2 q2 hS7 I7;walk_at "rd";obtain⟨y3,q3,i3⟩:=due I9
 refine⟨_,q3,_,i3,⟨by decide,by decide⟩,lt,rfl,a0,p0,xs,I9.sh,an.ti,I9.at_.ti,by omega,I9.bQ.2.2,by have:=I9.bQ.1;omega,λl b0 ys HA sA hlA shA yl nb0 ny wo=>bY ?_⟩;have IA:=I9.mono sA;have hSA:=sA.seq hS9;obtain⟨⟨c1,w1⟩,⟨c2,w2⟩,⟨c3,w3⟩,rfl⟩:∃a b c,ys=[a,b,c]:=by
  match ys,(yl.trans x3) with
  |[a,b,c],_=>exact⟨a,b,c,rfl⟩
 walk_at "rd";have hl3:HA c3=some (.lst (w3.map ah.v)):=(shA.at_ (c3,w3) (by simp)).top;refine⟨_,aH.of shA.top,V.ref c3,(show hW [V.ref b0,V.ref c1,V.ref c2,V.ref c3] ((3:Nat):Int)=_ from cw rfl),ns,hSA,m0,λlu us HB sB hlu plu fu mr=>?_⟩;rw[<-etb]at mr;have hw3:w3.length<=13:=by
  have h1:=wo.sub.length_le;have h2:=IA.bQ.2.1;have h3:(flat [(c1,w1),(c2,w2),(c3,w3)]).length=w1.length+(w2.length+w3.length):=by unfold flat;simp
  omega
 have mf:=mr.bQ;refine⟨c3,rfl,_,aH.of (sB _ _ hl3),_,aH.of plu.top,by rw[aD,aD,sizeLine_eq];omega,λq hq=>?_⟩;have nlq:l≠q:=bA (sB _ _ shA.top) hq;refine⟨_,by rw[ae nlq];exact sB _ _ shA.top,3,rfl,bY ?_⟩;rw[show(List.map (λx:Addr×List ah=>V.ref x.1) [(b0,p0),(c1,w1),(c2,w2),(c3,w3)]).set 3 (V.ref q)=[V.ref b0,V.ref c1,V.ref c2,V.ref q] from rfl];have sAB:=sA.trans sB;have sC:aI H9 (upd (upd HB q (.lst (w3.map ah.v++us.map ah.v))) l (.lst [V.ref b0,V.ref c1,V.ref c2,V.ref q])):=e_ hlA (sAB.trans (aR hq));have IC:=I9.mono sC;have n1:=ny (c1,w1) (by simp);have n2:=ny (c2,w2) (by simp);have keep:∀{b xs},b≠l->HB b=some (.lst xs)->upd (upd HB q (.lst (w3.map ah.v++us.map ah.v))) l (.lst [V.ref b0,V.ref c1,V.ref c2,V.ref q]) b=some (.lst xs):=λnb hb=>by rw[ae nb];exact aR hq _ _ hb
 have eb:=keep nb0 (sB _ _ (shA.at_ (b0,p0) (by simp)).top);have e1:=keep n1 (sB _ _ (shA.at_ (c1,w1) (by simp)).top);have e2:=keep n2 (sB _ _ (shA.at_ (c2,w2) (by simp)).top);have eq:upd (upd HB q (.lst (w3.map ah.v++us.map ah.v))) l (.lst [V.ref b0,V.ref c1,V.ref c2,V.ref q]) q=some (.lst ((w3++us).map ah.v)):=by rw[ae (Ne.symm nlq),aJ,bu]
 have el:upd (upd HB q (.lst (w3.map ah.v++us.map ah.v))) l (.lst [V.ref b0,V.ref c1,V.ref c2,V.ref q]) l=some (.lst [V.ref b0,V.ref c1,V.ref c2,V.ref q]):=aJ;have au:∀p∈us,p.At (upd (upd HB q (.lst (w3.map ah.v++us.map ah.v))) l (.lst [V.ref b0,V.ref c1,V.ref c2,V.ref q])):=λp hp=>((plu.at_ p hp).mono (aR hq)).but (ff.upd (aR hq _ _ (sB _ _ shA.top))) λy=>by
  have:=fu p hp l y;rw[shA.top]at this;cases this
 have ax:∀p∈p0++(w1++w2++w3),p.At (upd (upd HB q (.lst (w3.map ah.v++us.map ah.v))) l (.lst [V.ref b0,V.ref c1,V.ref c2,V.ref q])):=λp hp=>by
  rcases bM.mp hp with y|y
  ·exact(IC.sh.at_ (a0,p0) ko).at_ p y
  ·obtain⟨x,hx,hpx⟩:=jE.mp (wo.sub.subset (show p∈flat [(c1,w1),(c2,w2),(c3,w3)] by unfold flat;simpa using y));exact(IC.sh.at_ x (jD _ hx)).at_ p hpx
 have hSC:=sC.seq hS9;generalize upd (upd HB q (.lst (w3.map ah.v++us.map ah.v))) l (.lst [V.ref b0,V.ref c1,V.ref c2,V.ref q])=HC at sC IC eb e1 e2 eq el au ax hSC ⊢;clear keep plu fu hlu sB hq nlq sAB hl3 shA sA hlA IA hSA q3 i3 I9 hS9;walk_at "rd";refine⟨d_ _,λz0 hz0=>⟨by rw[sizeLine_eq];decide,λz1 hz1=>?_⟩⟩;have sD:=(aR (o:=HO.lst []) hz0).trans (aR (o:=HO.lst [V.ref z0]) hz1);have ez:=(aR (o:=HO.lst [V.ref z0]) hz1) _ _ (aJ (H:=HC) (a:=z0) (o:=HO.lst []));refine⟨_,aH.of (sD _ _ el),_,aH.of aJ,by rw[sizeLine_eq];simp,λS2 hS2=>?_⟩;have sE:=sD.trans (aR (o:=HO.lst ([V.ref b0,V.ref c1,V.ref c2,V.ref q]++[V.ref z0])) hS2);have ID:=IC.mono sE;have ezE:=(aR (o:=HO.lst ([V.ref b0,V.ref c1,V.ref c2,V.ref q]++[V.ref z0])) hS2) _ _ ez;have efl:flat [(c1,w1),(c2,w2),(q,w3++us),(z0,[])]=flat [(c1,w1),(c2,w2),(c3,w3)]++us:=by unfold flat;simp
 have shE:AV (upd (upd (upd HC z0 (HO.lst [])) z1 (HO.lst [V.ref z0])) S2 (HO.lst ([V.ref b0,V.ref c1,V.ref c2,V.ref q]++[V.ref z0]))) S2 ((b0,p0)::[(c1,w1),(c2,w2),(q,w3++us),(z0,[])]):=by
  refine⟨aJ,λx hx=>?_⟩;simp only[List.mem_cons,List.not_mem_nil,or_false]at hx;rcases hx with rfl|rfl|rfl|rfl|rfl
  ·exact⟨sE _ _ eb,λp hp=>(ax p (by simp[hp])).mono sE⟩
  ·exact⟨sE _ _ e1,λp hp=>(ax p (by simp[hp])).mono sE⟩
  ·exact⟨sE _ _ e2,λp hp=>(ax p (by simp[hp])).mono sE⟩
  ·refine⟨sE _ _ eq,λp hp=>?_⟩;rcases bM.mp hp with y|y
   ·exact(ax p (by simp[y])).mono sE
   ·exact(au p y).mono sE
  ·exact⟨ezE,λp hp=>(by cases hp)⟩
 have ap:=ID.Rk wo mr;rw[<-efl]at ap;have hSE:=sE.seq hSC;generalize upd (upd (upd HC z0 (HO.lst [])) z1 (HO.lst [V.ref z0])) S2 (HO.lst ([V.ref b0,V.ref c1,V.ref c2,V.ref q]++[V.ref z0]))=HE at sE ID ezE shE hSE ⊢;refine⟨b0,p0,_,shE,by simp,ap,ID.t1,ID.t2,tn,λt' lt' an' Tk' HF sF tF vF ha' hr'=>?_⟩;have IF:=ID.next sF tF vF;rw[efl]at hr';have ea:=IF.one wo hr';rw[ea]at ha';obtain⟨x1,x2,z1,z2,z3,z4⟩:=eO.eq (K:=K) ha' IF.at_;refine⟨_,z1,_,z2,z3,z4,bY ?_⟩;clear z1 z2 z3 z4 ha' hr' ea vF tF;walk_at "rd";refine⟨a0,p0,xs,IF.sh,by omega,IF.bs.Rk IF.en,IF.t1,IF.t2,tn,λt2 lt2 an2 Tk2 HG sG tG vG ha2 hr2=>?_⟩;have IG:=IF.next sG tG vG;have ea:=IG.one (us:=[]) (ys:=xs) ⟨List.Sublist.refl _,λp hp _=>hp⟩ (by rw[nY];exact hr2);rw[ea]at ha2;obtain⟨x1,x2,z1,z2,z3,z4⟩:=eO.eq (K:=K) ha2 IG.at_;exact⟨_,z1,_,z2,z3,z4,k _⟩
end
@[elab_as_elim] theorem Lg{α:Type}{p:List α->Prop}(us:List α)(h:us.length=1)(f:∀a,p [a]):p us:=by
 match us,h with | [a],_=>exact f a
@[elab_as_elim] theorem WY{α:Type}{p:List α->Prop}(us:List α)(h:us.length=2)(f:∀a b,p [a,b]):p us:=by
 match us,h with | [a,b],_=>exact f a b
@[elab_as_elim] theorem W5{α:Type}{p:List α->Prop}(us:List α)(h:us.length=3)(f:∀a b c,p [a,b,c]):p us:=by
 match us,h with | [a,b,c],_=>exact f a b c
@[elab_as_elim] theorem Q3{α:Type}{p:List α->Prop}(us:List α)(h:us.length=4)(f:∀a b c d,p [a,b,c,d]):p us:=by
 match us,h with | [a,b,c,d],_=>exact f a b c d
@[elab_as_elim] theorem Xz{α:Type}{p:List α->Prop}(us:List α)(h:us.length=5)(f:∀a b c d e,p [a,b,c,d,e]):p us:=by
 match us,h with | [a,b,c,d,e],_=>exact f a b c d e
@[elab_as_elim] theorem Xu{α:Type}{p:List α->Prop}(us:List α)(h:us.length=6)(f:∀a b c d e g,p [a,b,c,d,e,g]):p us:=by
 match us,h with | [a,b,c,d,e,g],_=>exact f a b c d e g
theorem Sb{K:Wf}{x q:Str}{st:Stmt}{f:Addr}{oc:Value}{od an:Option Addr}{sl:Array (Option Value)}{kV dc pm cd ct:Value}{ps:List Str}(l:K.lookup f=some ⟨oc,od,.func (fnOf x q (d3 st) (de st) (aj st) .none kV dc pm an cd ct),sl⟩)(e:codeIn K cd q=true)(k:keepIn K (.ref f)=true)(hb:∀(kV doc pm:Value) (an:Option Addr) (cdv ct:Value) (us:List Value),us.length=ps.length->bindArgs (fnOf x q (d3 st) (de st) (aj st) .none kV doc pm an cdv ct) ⟨us,[]⟩=pure (ps.zip us)):FB K x q st f (fnOf x q (d3 st) (de st) (aj st) .none kV dc pm an cd ct) ps:=⟨IH l e k,(IH l e k).binds hb⟩
theorem QE{l:PySem.W.OpenLaw}{w:World}{K:Wf}{mg:So}{fa f_qkj f_qyj f_ones f_moved f_qky f_qwj f_qxq f_qzy f_qyz f_qxz f_qxk f_qyq f_qxy f_qyk f_qzq f_qyw f_way f_qwq f_qzv f_qzk f_laid f_qkx f_qkv f_qqv f_qkq f_qwy f_tells f_wants f_qkw f_qzx f_aims f_qjw f_qyy f_taken f_qjq f_qqk f_qqq f_qqj f_qxj f_qqz f_qwx f_qkz f_qwk f_qjz f_qjy f_kept f_qqy f_qqw f_qqx f_qzz f_qwv f_qwz f_qww f_qxw f_qxx f_qzj f_qyx f_qzw f_qxv f_law bf aK C_High C_qkk C_Low C_Near C_qjj C_qjx C_qjk:Addr}{d_qkj d_qyj d_ones d_moved d_qky d_qwj d_qxq d_qzy d_qyz d_qxz d_qxk d_qyq d_qxy d_qyk d_qzq d_qyw d_way d_qwq d_qzv d_qzk d_laid d_qkx d_qkv d_qqv d_qkq d_qwy d_tells d_wants d_qkw d_qzx d_aims d_qjw d_qyy d_taken d_qjq d_qqk d_qqq d_qqj d_qxj d_qqz d_qwx d_qkz d_qwk d_qjz d_qjy d_kept d_qqy d_qqw d_qqx d_qzz d_qwv d_qwz d_qww d_qxw d_qxx d_qzj d_qyx d_qzw d_qxv d_law:FuncData}{Dy:Tok}(hfa:mg "law" = some (.ref fa))(T:Txt K mg ⟨f_qkj,d_qkj,f_qyj,d_qyj,f_ones,d_ones,f_moved,d_moved,f_qky,d_qky,f_qwj,d_qwj,f_qxq,d_qxq,f_qzy,d_qzy,f_qyz,d_qyz,f_qxz,d_qxz,f_qxk,d_qxk,f_qyq,d_qyq,f_qxy,d_qxy,f_qyk,d_qyk,f_qzq,d_qzq,f_qyw,d_qyw,f_way,d_way,f_qwq,d_qwq,f_qzv,d_qzv,f_qzk,d_qzk,f_laid,d_laid,f_qkx,d_qkx,f_qkv,d_qkv,f_qqv,d_qqv,f_qkq,d_qkq,f_qwy,d_qwy,f_tells,d_tells,f_wants,d_wants,f_qkw,d_qkw,f_qzx,d_qzx,f_aims,d_aims,f_qjw,d_qjw,f_qyy,d_qyy,f_taken,d_taken,f_qjq,d_qjq,f_qqk,d_qqk,f_qqq,d_qqq,f_qqj,d_qqj,f_qxj,d_qxj,f_qqz,d_qqz,f_qwx,d_qwx,f_qkz,d_qkz,f_qwk,d_qwk,f_qjz,d_qjz,f_qjy,d_qjy,f_kept,d_kept,f_qqy,d_qqy,f_qqw,d_qqw,f_qqx,d_qqx,f_qzz,d_qzz,f_qwv,d_qwv,f_qwz,d_qwz,f_qww,d_qww,f_qxw,d_qxw,f_qxx,d_qxx,f_qzj,d_qzj,f_qyx,d_qyx,f_qzw,d_qzw,f_qxv,d_qxv,f_law,d_law,bf,aK,Dy,C_High,C_qkk,C_Low,C_Near,C_qjj,C_qjx,C_qjk⟩)(hb:∀(s:Shared) (v:Value),BindsTo s d_law ⟨[v],[]⟩ [("_law_script", v)]):∃fd:FuncData,(∀(s:Shared) (v:Value),BindsTo s fd ⟨[v],[]⟩ [("_law_script", v)])/\∀base:Heap,K.In base->base.Ns mainGlobals mg->aY l.prog w K mg base cF 12 fa fd ["_law_script"] (uO K bf aK):=by
 cases hfa.symm.trans T.SU;exact⟨_,hb,λ_ _ _=>RN T⟩
theorem walk{l:PySem.W.OpenLaw}{q:Program}{loose:List Str}{XP:(Str->Option Value)->Heap->Prop}{YP:World->Heap->Prop}{d:DefRec}{K:Params->Wf}{bf aK:Addr}(hn:l.most=some 63)(hdf:d.params.defaults=[])(hne:bf≠aK)
  (hY:∀(w:World) (h:Heap),YP w h->'*'.In h)
  (hT:∀(w:World) (h:Heap) (lo:List Str) (mean:ExcName->Option Value) (mg mb:So),'*'.In h->Top q lo mean mg mb h->∀T∈[bf,aK],Ju '*' h T)
  (F:∀(w:World) (mg:So) (fa:Addr) (h:Heap),'*'.In h->h.Ns mainGlobals mg->mg d.name=some (.ref fa)->
   ∃fd:FuncData,(∀(s:Shared) (u:Value),BindsTo s fd ⟨[u],[]⟩ [("_law_script", u)])/\∀base:Heap,'*'.In base->base.Ns mainGlobals mg->aY l.prog w '*' mg base cF 12 fa fd ["_law_script"] (uO '*' bf aK)):
  PySem.W.WalkO q loose XP YP l.row.toRowW d [] (λf vs=>PySem.call f vs):=
 L2.Dd (n:=63) (k:=12) (x := "_law_script") (CX:=λ_=>cF) (sp:=λw=>uO '*' bf aK) hn (by decide) hdf ⟨rfl,by decide,by decide⟩ hY hT F (λ_ _ a ns hl hE hS=>⟨a,ns,rfl,hS,hl,hE _ (by simp),hE _ (by simp),hne,λ_=>rfl⟩) λ_ _ _ _ _ z=>z
end My
namespace Hd
open PySem PySem.W PySem.Calls PyProof.Rows
variable(P:Params)
abbrev pw:Program:=PySem.Challenge.pw_joinload_k95_whole_not_taken_is_nothing
def T(i:Nat):Stmt:=My.top i
def C(i j:Nat):Stmt:=L2.inClass (My.top i) j
abbrev k(P:Params)(x:Str)(t:Tok)(v:Value):DictEntry:=⟨PyData.keyHash P x,.str x t,v⟩
abbrev fn(s:Stmt)(x q:Str)(dV kV doc pm:Value)(an:Option Addr)(cd ct:Value):FuncData:=fnOf x q (L2.d3 s) (L2.de s) (L2.aj s) dV kV doc pm an cd ct
abbrev e1:Obj:=⟨.type "tuple", none,.seq #[] 0,#[]⟩
abbrev e2:Obj:=⟨.none,none,.fields #[],#[]⟩
abbrev bp:Obj:=⟨.type "builtin_function_or_method", none,.fields #[.builtin "type.__prepare__", .type "type"],#[]⟩
abbrev tu(x:Array Value):Obj:=⟨.type "tuple", none,.seq x 0,#[]⟩
abbrev nf(x:Array Value):Obj:=⟨.none,none,.fields x,#[]⟩
abbrev bs(a:Addr):Obj:=⟨.type "builtin_function_or_method", none,.fields #[.builtin "object.__init_subclass__", .ref a],#[]⟩
abbrev su(a:Addr):Obj:=⟨.type "super", none,.fields #[.ref a,.ref a,.ref a],#[]⟩
abbrev co(x q:Str)(t:Nat)(l a b:Int)(r:Addr)(o:Bool)(r2:Addr)(v:Value)(u:Nat):Obj:=⟨.type "code", none,.fields #[.str x t,.str q (t+1),.str "/claim/cut.py" (t+2),.int l 0,.int a 0,.int 0 0,.int 0 0,.int b 0,.ref r,.bool o,.int 181 0,.ref r2,.none,.none,.none,v,.int (Int.ofNat u) 0,.int l 0,.str "/claim/cut.py" (u+1)],#[]⟩
abbrev cf(x q:Str)(t:Nat)(l a:Int)(r u:Nat):Obj:=⟨.type "code", none,.fields #[.str x t,.str q (t+1),.str "/claim/cut.py" (t+2),.int l 0,.int a 0,.int 0 0,.int 0 0,.int 3 0,.ref r,.bool true,.int 181 0,.ref (r+1),.none,.ref (r+2),.ref (r+3),.ref (r+4),.int (Int.ofNat u) 0,.int l 0,.str "/claim/cut.py" (u+1)],#[]⟩
abbrev cc(x:Str)(b:Value)(s:Addr)(m:List Value)(d:Addr)(l:List Value)(o:Option Value)(t u:Nat)(n:String):Obj:=⟨.type "type", none,.cls ⟨x,[b],.ref s::m,d,x,true,[],l,false,none,false⟩,#[o,none,some (.str x t),some (.str x u),some (.builtin n),some (.bool true)]⟩
def nl:List Nat->List Value
 |a::b::c::r=>.int (Int.ofNat a) 0::.int (Int.ofNat b) 0::.ref c::nl r
 |_=>[]
abbrev fm(a b:Addr)(v:Value):Obj:=⟨.type "frame", none,.plain,#[some (.ref a),some (.ref 3),some (.ref b),none,some v,none,some (.ref 0)]⟩
abbrev fo(s:Stmt)(x q m:Str)(t:Nat)(c:Addr):Obj:=⟨.type "function", none,.func (fn s x q .none .none .none (.str m t) none (.ref c) .none),#[]⟩
abbrev ft(s:Stmt)(x q:Str):Obj:=⟨.none,none,.func { fn s x q .none .none .none .none none .none .none with globals:=0,closure:=[],builtins:=0 },#[]⟩
abbrev fT1(i:Nat)(x:Str):Obj:=ft (T i) x x
abbrev fO1(i:Nat)(x:Str)(m:Str×Nat)(c:Addr):Obj:=fo (T i) x x m.1 m.2 c
abbrev fC1(i j:Nat)(x q:Str)(m:Str×Nat)(c:Addr):Obj:=fo (C i j) x q m.1 m.2 c
abbrev cF1(x:Str):=cf x x
abbrev m05:Str×Nat:=("joinload.errors",194)
abbrev m05v:Value:=.str "joinload.errors" 194
abbrev m11:Str×Nat:=("joinload.rules",379)
abbrev m11v:Value:=.str "joinload.rules" 379
abbrev m21:Str×Nat:=("joinload.bits",342)
abbrev m21v:Value:=.str "joinload.bits" 342
abbrev m31:Str×Nat:=("joinload.laying",688)
abbrev m31v:Value:=.str "joinload.laying" 688
abbrev m41:Str×Nat:=("joinload.pieces",668)
abbrev m41v:Value:=.str "joinload.pieces" 668
abbrev m51:Str×Nat:=("joinload.joining",941)
abbrev m51v:Value:=.str "joinload.joining" 941
abbrev m61:Str×Nat:=("joinload.names",736)
abbrev m61v:Value:=.str "joinload.names" 736
abbrev m71:Str×Nat:=("joinload.shelves",812)
abbrev m71v:Value:=.str "joinload.shelves" 812
abbrev di(l:List DictEntry)(n:Nat):Obj:=⟨.type "dict", none,.dict l.toArray n,#[]⟩
def sv:List DictEntry->Nat->Value->List DictEntry
 |[],_,_=>[]
 |e::r,0,v=>⟨e.hash,e.key,v⟩::r
 |e::r,n+1,v=>e::sv r n v
def od:List (Nat×Obj)->List (Nat×Obj)
 |[]=>[]
 | (i,o)::r=>match Nat.beq (i % 2) 1 with
  |true=>(i / 2,o)::od r
  |false=>od r
def ev:List (Nat×Obj)->List (Nat×Obj)
 |[]=>[]
 | (i,o)::r=>match Nat.beq i 0 with
  |true=>ev r
  |false=>match Nat.beq (i % 2) 1 with
   |true=>ev r
   |false=>(i / 2 - 1,o)::ev r
def Xn(v:Obj):List (Nat×Obj)->Obj
 |[]=>v
 | (i,o)::r=>match Nat.beq i 0 with
  |true=>o
  |false=>Xn v r
def mg:Nat->BT->List (Nat×Obj)->BT
 |0,t,_=>t
 |f+1,t,d=>match d with
  |[]=>t
  |x::r=>match t with
   |.nil=>.node (Xn default (x::r)) (mg f .nil (od (x::r))) (mg f .nil (ev (x::r)))
   |.node v a b=>.node (Xn v (x::r)) (mg f a (od (x::r))) (mg f b (ev (x::r)))
def bd:List Stmt:=behindTheImports pw
def en:Env:={ scope:=pw.main.scope,locals:=mainNs,globals:=mainNs,cells:=[],code:=(.ref 13),frame:=some 14 }
abbrev cE:Code:=.body bd en
abbrev B:List Frame:=[topFrame ⟨0,0,0,0⟩]
def li:Life:={ registered:=[],finalised:=[],alive:=[],known:=0,ids:=[],orphanDicts:=[],counting:=false,cnt:=⟨[]⟩,zero:=[],soft:=0,below:=false,collecting:=false,loading:=false,debug:=0,thresholds:=[2000,10,10],woke:=false,asked:=0,gcEnabled:=true,old:=[],middle:=[],young:=0,intoMiddle:=false }
abbrev an:Option Value:=(some (.ref 6))
abbrev sT(t:BT)(n k:Nat)(os:OsState):SharedT:=⟨t,n,li,⟨[]⟩,boot_drawn,k,os⟩
abbrev sR(w:World)(n:Nat)(S S':World->OsState->SharedT)(l:List Stmt)(p p':Pos):Prop:=(λos=>segRunT treeTable pw w 11 an 1 n (S w os) (piecesOf l en cE p B))=λos=>some (.next,S' w os,cE,p')
def Kb:Obj:=co "<module>" "<module>" 182 1 0 0 11 false 12 .none 185
def Ft:Obj:=fm 13 3 (.str "__main__" 164)
def Ha(P:Params):Heap:=⟨⟨boot_o_0 P::boot_o_1 P::boot_o_2 P::boot_o_3 P::boot_o_4 P::boot_o_5 P::boot_o_6 P::boot_o_7 P::boot_o_8 P::boot_o_9 P::boot_o_10 P::e1::e2::Kb::Ft::[]⟩,li⟩
def S0(w:World)(os:OsState):Shared:=⟨boot_heap w.params,⟨[]⟩,boot_drawn,boot_toks,os⟩
def Sa(w:World)(os:OsState):Shared:=⟨Ha w.params,⟨[]⟩,boot_drawn,187,os⟩
def Pre(w:World):Prop:=(λos=>topGo treeTable pw w 11 an 12 (S0 w os) (topStub pw))=λos=>some (Sa w os,⟨denote treeTable cE,cE,⟨0,0,0,0⟩,B⟩)
def D0(P:Params):List (Nat×Obj):=(0,boot_o_0 P)::(1,boot_o_1 P)::(2,boot_o_2 P)::(3,boot_o_3 P)::(4,boot_o_4 P)::(5,boot_o_5 P)::(6,boot_o_6 P)::(7,boot_o_7 P)::(8,boot_o_8 P)::(9,boot_o_9 P)::(10,boot_o_10 P)::(11,e1)::(12,e2)::(13,Kb)::(14,Ft)::[]
def T0(P:Params):BT:=mg 14 .nil (D0 P)
def YR(w:World):OsState->SharedT:=sT (T0 w.params) 15 187
def Zn(w:World):Prop:=(λos=>segRun treeTable pw w 11 an 1 1 (Sa w os) (blockOf bd en cE ⟨0,0,0,0⟩ B))=λos=>some (.next,(YR w os).abs,cE,⟨0,0,0,0⟩)
def Tf(P:Params):List DictEntry:=[k P "__name__" 165 m05v,k P "__doc__" 166 .none,k P "__package__" 167 .none,k P "__loader__" 168 (.builtin "__main__.__loader__#opaque"),k P "__spec__" 169 .none,k P "__annotations__" 170 (.ref 6),k P "__builtins__" 171 (.ref 4),k P "__file__" 173 (.str "/claim/cut.py" 172),k P "__cached__" 174 .none,k P "_wall" 193 (.ref 21),k P "JoinError" 213 (.ref 31),k P "NoRule" 229 (.ref 44),k P "Twice" 258 (.ref 63)]
def Yu:Obj:=⟨'F',none,.dict (Tf P).toArray 13,#[]⟩
def Ta:Obj:=nf (nl [1,0,20,5,0,27,7,0,40,9,0,52]).toArray
def Ap:Obj:=tu #[.str "k" 190]
def Na:Obj:=fT1 0 "_wall"
def BE:Obj:=cF1 "_wall" 187 1 1 15 191
def Be:Obj:=fo (T 0) "_wall" "_wall" "__main__" 164 20
def N4:=di [k P "__module__" 203 m05v,k P "__qualname__" 205 (.str "JoinError" 204),k P "__firstlineno__" 207 (.int 5 206),k P "__static_attributes__" 208 (.ref 29)] 4
def N2:Obj:=co "JoinError" "JoinError" 198 5 0 0 25 false 26 .none 201
def Ob:Obj:=fm 27 24 m05v
def As:=di [k P "__module__" 203 m05v,k P "__firstlineno__" 207 (.int 5 206),k P "__static_attributes__" 208 (.ref 29),k P "__weakref__" 210 (.ref 32),k P "__doc__" 211 .none] 3
def TU:Obj:=cc "JoinError" (.type "ValueError") 31 [.type "ValueError",.type "Exception",.type "BaseException",.type "object"] 30 [.ref 44,.ref 63] (some (.ref 22)) 196 204 "ValueError.__new__"
def Bp:Obj:=⟨(.type "getset_descriptor"),none,(.fields #[.str "__weakref__" 209,.ref 31,.builtin "ExceptionGroup.__weakref__",.none]),#[]⟩
def Ol:=di [k P "__module__" 221 m05v,k P "__qualname__" 223 (.str "NoRule" 222),k P "__firstlineno__" 225 (.int 7 224),k P "__static_attributes__" 226 (.ref 42)] 4
def MA:Obj:=co "NoRule" "NoRule" 216 7 0 0 38 false 39 .none 219
def NA:Obj:=fm 40 37 m05v
def An:=di [k P "__module__" 221 m05v,k P "__firstlineno__" 225 (.int 7 224),k P "__static_attributes__" 226 (.ref 42),k P "__doc__" 227 .none] 2
def BF:Obj:=cc "NoRule" (.ref 31) 44 [.ref 31,.type "ValueError",.type "Exception",.type "BaseException",.type "object"] 43 [] (some (.ref 35)) 214 222 "ValueError.__new__"
def NM:=di [k P "__module__" 237 m05v,k P "__qualname__" 239 (.str "Twice" 238),k P "__firstlineno__" 241 (.int 9 240),k P "__init__" 251 (.ref 60),k P "__static_attributes__" 255 (.ref 61)] 5
def Nm:Obj:=nf (nl [11,4,59]).toArray
def Nu:Obj:=co "Twice" "Twice" 232 9 0 0 50 false 51 .none 235
def Oh:Obj:=fm 52 49 m05v
def z_:Obj:=tu #[.str "self" 245,.str "name" 246,.str "one" 247,.str "other" 248]
def Ms:Obj:=ft (C 4 0) "__init__" "Twice.__init__"
def AE:Obj:=cf "__init__" "Twice.__init__" 242 11 4 54 249
def Az:Obj:=fC1 4 0 "__init__" "Twice.__init__" m05 59
def AW:Obj:=tu #[.str "name" 252,.str "one" 253,.str "other" 254]
def z6:=di [k P "__module__" 237 m05v,k P "__firstlineno__" 241 (.int 9 240),k P "__init__" 251 (.ref 60),k P "__static_attributes__" 255 (.ref 61),k P "__doc__" 256 .none] 2
def Aq:Obj:=cc "Twice" (.ref 31) 63 [.ref 31,.type "ValueError",.type "Exception",.type "BaseException",.type "object"] 62 [] (some (.ref 47)) 230 238 "ValueError.__new__"
def Y0(P:Params)(r:List (Nat×Obj)):List (Nat×Obj):=(3,Yu P)::(12,Ta)::(15,e1)::(16,e2)::(17,Ap)::(18,e1)::(19,Na)::(20,BE)::(21,Be)::(22,tu #[.type "ValueError"])::(23,bp)::(24,N4 P)::(25,e1)::(26,e2)::(27,N2)::(28,Ob)::(29,e1)::(30,As P)::(31,TU)::(32,Bp)::(33,su 31)::(34,bs 31)::(35,tu #[.ref 31])::(36,bp)::r
def Xc(P:Params)(r:List (Nat×Obj)):List (Nat×Obj):=(37,Ol P)::(38,e1)::(39,e2)::(40,MA)::(41,NA)::(42,e1)::(43,An P)::(44,BF)::(45,su 44)::(46,bs 44)::(47,tu #[.ref 31])::(48,bp)::(49,NM P)::(50,e1)::(51,Nm)::(52,Nu)::(53,Oh)::(54,e1)::(55,e2)::(56,z_)::(57,e1)::(58,Ms)::(59,AE)::(60,Az)::r
def Y9(P:Params)(r:List (Nat×Obj)):List (Nat×Obj):=(61,AW)::(62,z6 P)::(63,Aq)::(64,su 63)::(65,bs 63)::r
def T1(P:Params):BT:=mg 14 (T0 P) (Y0 P (Xc P (Y9 P ([]))))
def Zq(w:World):OsState->SharedT:=sT (T1 w.params) 66 259
def L0:List Stmt:=My.top 0::My.top 1::My.top 2::My.top 3::My.top 4::[]
def P0(w:World):Prop:=sR w 687 YR Zq L0 ⟨0,0,0,0⟩ ⟨9,0,15,26⟩
def Si(P:Params):List DictEntry:=sv (Tf P) 0 m11v++[k P "SameName" 283 (.ref 82),k P "Unmet" 310 (.ref 101),k P "TooFar" 341 (.ref 120),k P "WORD_COUNT" 345 (.int 4294967296 344),k P "wrapped" 352 (.ref 129),k P "with_field" 363 (.ref 136),k P "ones" 370 (.ref 143),k P "moved" 378 (.ref 150)]
def W0:Obj:=⟨'F',none,.dict (Si P).toArray 21,#[]⟩
def Vk:Obj:=nf (nl [1,0,20,5,0,27,7,0,40,9,0,52,16,0,71,21,0,90,27,0,109,37,0,128,39,0,135,42,0,142,44,0,149]).toArray
def Aa:Obj:=cc "JoinError" (.type "ValueError") 31 [.type "ValueError",.type "Exception",.type "BaseException",.type "object"] 30 [.ref 44,.ref 63,.ref 82,.ref 101,.ref 120] (some (.ref 22)) 196 204 "ValueError.__new__"
def Nd:=di [k P "__module__" 266 m05v,k P "__qualname__" 268 (.str "SameName" 267),k P "__firstlineno__" 270 (.int 16 269),k P "__init__" 278 (.ref 79),k P "__static_attributes__" 280 (.ref 80)] 5
def Nn:Obj:=nf (nl [18,4,78]).toArray
def Of:Obj:=co "SameName" "SameName" 261 16 0 0 69 false 70 .none 264
def NG:Obj:=fm 71 68 m05v
def AR:Obj:=tu #[.str "self" 274,.str "name" 275]
def NY:Obj:=ft (C 5 0) "__init__" "SameName.__init__"
def A4:Obj:=cf "__init__" "SameName.__init__" 271 18 2 73 276
def z7:Obj:=fC1 5 0 "__init__" "SameName.__init__" m05 78
def Bq:Obj:=tu #[.str "name" 279]
def AS:=di [k P "__module__" 266 m05v,k P "__firstlineno__" 270 (.int 16 269),k P "__init__" 278 (.ref 79),k P "__static_attributes__" 280 (.ref 80),k P "__doc__" 281 .none] 2
def Bn:Obj:=cc "SameName" (.ref 31) 82 [.ref 31,.type "ValueError",.type "Exception",.type "BaseException",.type "object"] 81 [] (some (.ref 66)) 259 267 "ValueError.__new__"
def Mq:=di [k P "__module__" 291 m05v,k P "__qualname__" 293 (.str "Unmet" 292),k P "__firstlineno__" 295 (.int 21 294),k P "__init__" 304 (.ref 98),k P "__static_attributes__" 307 (.ref 99)] 5
def NO:Obj:=nf (nl [23,4,97]).toArray
def MF:Obj:=co "Unmet" "Unmet" 286 21 0 0 88 false 89 .none 289
def M7:Obj:=fm 90 87 m05v
def Bl:Obj:=tu #[.str "self" 299,.str "name" 300,.str "piece" 301]
def Mv:Obj:=ft (C 6 0) "__init__" "Unmet.__init__"
def AD:Obj:=cf "__init__" "Unmet.__init__" 296 23 3 92 302
def Ae:Obj:=fC1 6 0 "__init__" "Unmet.__init__" m05 97
def Br:Obj:=tu #[.str "name" 305,.str "piece" 306]
def oQ:=di [k P "__module__" 291 m05v,k P "__firstlineno__" 295 (.int 21 294),k P "__init__" 304 (.ref 98),k P "__static_attributes__" 307 (.ref 99),k P "__doc__" 308 .none] 2
def uJ:Obj:=cc "Unmet" (.ref 31) 101 [.ref 31,.type "ValueError",.type "Exception",.type "BaseException",.type "object"] 100 [] (some (.ref 85)) 284 292 "ValueError.__new__"
def Hx:=di [k P "__module__" 318 m05v,k P "__qualname__" 320 (.str "TooFar" 319),k P "__firstlineno__" 322 (.int 27 321),k P "__init__" 333 (.ref 117),k P "__static_attributes__" 338 (.ref 118)] 5
def Jg:Obj:=nf (nl [29,4,116]).toArray
def Ea:Obj:=co "TooFar" "TooFar" 313 27 0 0 107 false 108 .none 316
def JM:Obj:=fm 109 106 m05v
def tJ:Obj:=tu #[.str "self" 326,.str "name" 327,.str "piece" 328,.str "stretch" 329,.str "at" 330]
def GX:Obj:=ft (C 7 0) "__init__" "TooFar.__init__"
def uW:Obj:=cf "__init__" "TooFar.__init__" 323 29 5 111 331
def rj:Obj:=fC1 7 0 "__init__" "TooFar.__init__" m05 116
def rQ:Obj:=tu #[.str "at" 334,.str "name" 335,.str "piece" 336,.str "stretch" 337]
def sI:=di [k P "__module__" 318 m05v,k P "__firstlineno__" 322 (.int 27 321),k P "__init__" 333 (.ref 117),k P "__static_attributes__" 338 (.ref 118),k P "__doc__" 339 .none] 2
def p7:Obj:=cc "TooFar" (.ref 31) 120 [.ref 31,.type "ValueError",.type "Exception",.type "BaseException",.type "object"] 119 [] (some (.ref 104)) 311 319 "ValueError.__new__"
def sS:Obj:=tu #[.str "number" 349]
def FF:Obj:=fT1 10 "wrapped"
def tU:Obj:=cF1 "wrapped" 346 37 1 123 350
def sr:Obj:=fO1 10 "wrapped" m21 128
def tf:Obj:=tu #[.str "word" 356,.str "low" 357,.str "many" 358,.str "number" 359,.str "others" 360]
def EJ:Obj:=fT1 11 "with_field"
def qM:Obj:=cF1 "with_field" 353 39 4 130 361
def qE:Obj:=fO1 11 "with_field" m21 135
def oM:Obj:=tu #[.str "many" 367]
def DN:Obj:=fT1 12 "ones"
def si:Obj:=cF1 "ones" 364 42 1 137 368
def o8:Obj:=fO1 12 "ones" m21 142
def qC:Obj:=tu #[.str "number" 374,.str "up" 375]
def GA:Obj:=fT1 13 "moved"
def oB:Obj:=cF1 "moved" 371 44 2 144 376
def qT:Obj:=fO1 13 "moved" m21 149
def Y2(P:Params)(r:List (Nat×Obj)):List (Nat×Obj):=(3,W0 P)::(12,Vk)::(31,Aa)::(66,tu #[.ref 31])::(67,bp)::(68,Nd P)::(69,e1)::(70,Nn)::(71,Of)::(72,NG)::(73,e1)::(74,e2)::(75,AR)::(76,e1)::(77,NY)::(78,A4)::(79,z7)::(80,Bq)::(81,AS P)::(82,Bn)::(83,su 82)::(84,bs 82)::(85,tu #[.ref 31])::(86,bp)::r
def Ym(P:Params)(r:List (Nat×Obj)):List (Nat×Obj):=(87,Mq P)::(88,e1)::(89,NO)::(90,MF)::(91,M7)::(92,e1)::(93,e2)::(94,Bl)::(95,e1)::(96,Mv)::(97,AD)::(98,Ae)::(99,Br)::(100,oQ P)::(101,uJ)::(102,su 101)::(103,bs 101)::(104,tu #[.ref 31])::(105,bp)::(106,Hx P)::(107,e1)::(108,Jg)::(109,Ea)::(110,JM)::r
def WB(P:Params)(r:List (Nat×Obj)):List (Nat×Obj):=(111,e1)::(112,e2)::(113,tJ)::(114,e1)::(115,GX)::(116,uW)::(117,rj)::(118,rQ)::(119,sI P)::(120,p7)::(121,su 120)::(122,bs 120)::(123,e1)::(124,e2)::(125,sS)::(126,e1)::(127,FF)::(128,tU)::(129,sr)::(130,e1)::(131,e2)::(132,tf)::(133,e1)::(134,EJ)::r
def XF(P:Params)(r:List (Nat×Obj)):List (Nat×Obj):=(135,qM)::(136,qE)::(137,e1)::(138,e2)::(139,oM)::(140,e1)::(141,DN)::(142,si)::(143,o8)::(144,e1)::(145,e2)::(146,qC)::(147,e1)::(148,GA)::(149,oB)::(150,qT)::r
def T2(P:Params):BT:=mg 14 (T1 P) (Y2 P (Ym P (WB P (XF P ([])))))
def ZY(w:World):OsState->SharedT:=sT (T2 w.params) 151 381
def L1:List Stmt:=My.top 5::My.top 6::My.top 7::My.top 8::My.top 9::My.top 10::My.top 11::My.top 12::My.top 13::My.top 14::[]
def P1(w:World):Prop:=sR w 892 Zq ZY L1 ⟨9,0,15,26⟩ ⟨48,0,48,8⟩
def U2(P:Params):List DictEntry:=Si P++[k P "rule_of" 387 (.ref 157),k P "Rule" 451 (.ref 202),k P "Whole" 486 (.ref 230)]
def YZ:Obj:=⟨'F',none,.dict (U2 P).toArray 24,#[]⟩
def SG:Obj:=nf (nl [1,0,20,5,0,27,7,0,40,9,0,52,16,0,71,21,0,90,27,0,109,37,0,128,39,0,135,42,0,142,44,0,149,49,0,156,61,0,163,77,0,212]).toArray
def qp:Obj:=tu #[.str "title" 384]
def D7:Obj:=fT1 15 "rule_of"
def vX:Obj:=cF1 "rule_of" 381 49 1 151 385
def ua:Obj:=fO1 15 "rule_of" m11 156
def Ph(P:Params):List DictEntry:=[k P "__module__" 395 m11v,k P "__qualname__" 397 (.str "Rule" 396),k P "__firstlineno__" 399 (.int 61 398),k P "__init__" 407 (.ref 171),k P "fits" 416 (.ref 178),k P "filled" 426 (.ref 185),k P "read_back" 435 (.ref 192),k P "leans" 442 (.ref 199),k P "__static_attributes__" 444 (.ref 200)]
def EN:Obj:=⟨'F',none,.dict (Ph P).toArray 9,#[]⟩
def FE:Obj:=nf (nl [63,4,170,66,4,177,69,4,184,72,4,191,75,4,198]).toArray
def C7:Obj:=co "Rule" "Rule" 390 61 0 0 161 false 162 .none 393
def Di:Obj:=fm 163 160 m11v
def o_:Obj:=tu #[.str "self" 403,.str "title" 404]
def Ie:Obj:=ft (C 16 0) "__init__" "Rule.__init__"
def uu:Obj:=cf "__init__" "Rule.__init__" 400 63 2 165 405
def vL:Obj:=fC1 16 0 "__init__" "Rule.__init__" m11 170
def sN:Obj:=tu #[.str "self" 411,.str "here" 412,.str "there" 413]
def DU:Obj:=ft (C 16 1) "fits" "Rule.fits"
def vf:Obj:=cf "fits" "Rule.fits" 408 66 3 172 414
def tT:Obj:=fC1 16 1 "fits" "Rule.fits" m11 177
def pQ:Obj:=tu #[.str "self" 420,.str "word" 421,.str "here" 422,.str "there" 423]
def Iv:Obj:=ft (C 16 2) "filled" "Rule.filled"
def qz:Obj:=cf "filled" "Rule.filled" 417 69 4 179 424
def vQ:Obj:=fC1 16 2 "filled" "Rule.filled" m11 184
def oz:Obj:=tu #[.str "self" 430,.str "word" 431,.str "here" 432]
def Ge:Obj:=ft (C 16 3) "read_back" "Rule.read_back"
def qB:Obj:=cf "read_back" "Rule.read_back" 427 72 3 186 433
def qO:Obj:=fC1 16 3 "read_back" "Rule.read_back" m11 191
def vT:Obj:=tu #[.str "self" 439]
def Fb:Obj:=ft (C 16 4) "leans" "Rule.leans"
def vz:Obj:=cf "leans" "Rule.leans" 436 75 1 193 440
def vZ:Obj:=fC1 16 4 "leans" "Rule.leans" m11 198
def uh:Obj:=tu #[.str "title" 443]
def Q9(P:Params):List DictEntry:=[k P "__module__" 395 m11v,k P "__firstlineno__" 399 (.int 61 398),k P "__init__" 407 (.ref 171),k P "fits" 416 (.ref 178),k P "filled" 426 (.ref 185),k P "read_back" 435 (.ref 192),k P "leans" 442 (.ref 199),k P "__static_attributes__" 444 (.ref 200),k P "__dict__" 446 (.ref 203),k P "__weakref__" 448 (.ref 204),k P "__doc__" 449 .none]
def wu:Obj:=⟨'F',none,.dict (Q9 P).toArray 4,#[]⟩
def PH:Obj:=cc "Rule" (.type "object") 202 [.type "object"] 201 [.ref 230] none 388 396 "object.__new__"
def vN:Obj:=⟨(.type "getset_descriptor"),none,(.fields #[.str "__dict__" 445,.ref 202,.builtin "function.__dict__",.builtin "function.__dict__#set"]),#[]⟩
def p8:Obj:=⟨(.type "getset_descriptor"),none,(.fields #[.str "__weakref__" 447,.ref 202,.builtin "ExceptionGroup.__weakref__",.none]),#[]⟩
def IW:=di [k P "__module__" 459 m11v,k P "__qualname__" 461 (.str "Whole" 460),k P "__firstlineno__" 463 (.int 77 462),k P "filled" 473 (.ref 220),k P "read_back" 482 (.ref 227),k P "__static_attributes__" 483 (.ref 228)] 6
def Fh:Obj:=nf (nl [79,4,219,82,4,226]).toArray
def E1:Obj:=co "Whole" "Whole" 454 77 0 0 210 false 211 .none 457
def C4:Obj:=fm 212 209 m11v
def qk:Obj:=tu #[.str "self" 467,.str "word" 468,.str "here" 469,.str "there" 470]
def EV:Obj:=ft (C 17 0) "filled" "Whole.filled"
def ud:Obj:=cf "filled" "Whole.filled" 464 79 4 214 471
def pV:Obj:=fC1 17 0 "filled" "Whole.filled" m11 219
def rO:Obj:=tu #[.str "self" 477,.str "word" 478,.str "here" 479]
def Du:Obj:=ft (C 17 1) "read_back" "Whole.read_back"
def tS:Obj:=cf "read_back" "Whole.read_back" 474 82 3 221 480
def rR:Obj:=fC1 17 1 "read_back" "Whole.read_back" m11 226
def qd:=di [k P "__module__" 459 m11v,k P "__firstlineno__" 463 (.int 77 462),k P "filled" 473 (.ref 220),k P "read_back" 482 (.ref 227),k P "__static_attributes__" 483 (.ref 228),k P "__doc__" 484 .none] 2
def o6:Obj:=cc "Whole" (.ref 202) 230 [.ref 202,.type "object"] 229 [] (some (.ref 207)) 452 460 "object.__new__"
def XJ(P:Params)(r:List (Nat×Obj)):List (Nat×Obj):=(3,YZ P)::(12,SG)::(151,e1)::(152,e2)::(153,qp)::(154,e1)::(155,D7)::(156,vX)::(157,ua)::(158,e1)::(159,bp)::(160,EN P)::(161,e1)::(162,FE)::(163,C7)::(164,Di)::(165,e1)::(166,e2)::(167,o_)::(168,e1)::(169,Ie)::(170,uu)::(171,vL)::(172,e1)::r
def Yd(P:Params)(r:List (Nat×Obj)):List (Nat×Obj):=(173,e2)::(174,sN)::(175,e1)::(176,DU)::(177,vf)::(178,tT)::(179,e1)::(180,e2)::(181,pQ)::(182,e1)::(183,Iv)::(184,qz)::(185,vQ)::(186,e1)::(187,e2)::(188,oz)::(189,e1)::(190,Ge)::(191,qB)::(192,qO)::(193,e1)::(194,e2)::(195,vT)::(196,e1)::r
def X8(P:Params)(r:List (Nat×Obj)):List (Nat×Obj):=(197,Fb)::(198,vz)::(199,vZ)::(200,uh)::(201,wu P)::(202,PH)::(203,vN)::(204,p8)::(205,su 202)::(206,bs 202)::(207,tu #[.ref 202])::(208,bp)::(209,IW P)::(210,e1)::(211,Fh)::(212,E1)::(213,C4)::(214,e1)::(215,e2)::(216,qk)::(217,e1)::(218,EV)::(219,ud)::(220,pV)::r
def YF(P:Params)(r:List (Nat×Obj)):List (Nat×Obj):=(221,e1)::(222,e2)::(223,rO)::(224,e1)::(225,Du)::(226,tS)::(227,rR)::(228,e1)::(229,qd P)::(230,o6)::(231,su 230)::(232,bs 230)::r
def T3(P:Params):BT:=mg 14 (T2 P) (XJ P (Yd P (X8 P (YF P ([])))))
def S3T(w:World):OsState->SharedT:=sT (T3 w.params) 233 487
def L2:List Stmt:=My.top 15::My.top 16::My.top 17::[]
def P2(w:World):Prop:=sR w 662 ZY S3T L2 ⟨48,0,48,8⟩ ⟨77,0,83,16⟩
def Uj(P:Params):List DictEntry:=U2 P++[k P "High" 521 (.ref 256),k P "Low" 556 (.ref 282)]
def WE:Obj:=⟨'F',none,.dict (Uj P).toArray 26,#[]⟩
def SH:Obj:=nf (nl [1,0,20,5,0,27,7,0,40,9,0,52,16,0,71,21,0,90,27,0,109,37,0,128,39,0,135,42,0,142,44,0,149,49,0,156,61,0,163,77,0,212,84,0,238,91,0,264]).toArray
def Qi:Obj:=cc "Rule" (.type "object") 202 [.type "object"] 201 [.ref 230,.ref 256,.ref 282] none 388 396 "object.__new__"
def Ii:=di [k P "__module__" 494 m11v,k P "__qualname__" 496 (.str "High" 495),k P "__firstlineno__" 498 (.int 84 497),k P "filled" 508 (.ref 246),k P "read_back" 517 (.ref 253),k P "__static_attributes__" 518 (.ref 254)] 6
def El:Obj:=nf (nl [86,4,245,89,4,252]).toArray
def Iz:Obj:=co "High" "High" 489 84 0 0 236 false 237 .none 492
def JO:Obj:=fm 238 235 m11v
def tP:Obj:=tu #[.str "self" 502,.str "word" 503,.str "here" 504,.str "there" 505]
def Jl:Obj:=ft (C 18 0) "filled" "High.filled"
def r8:Obj:=cf "filled" "High.filled" 499 86 4 240 506
def qG:Obj:=fC1 18 0 "filled" "High.filled" m11 245
def qR:Obj:=tu #[.str "self" 512,.str "word" 513,.str "here" 514]
def Ji:Obj:=ft (C 18 1) "read_back" "High.read_back"
def rL:Obj:=cf "read_back" "High.read_back" 509 89 3 247 515
def sM:Obj:=fC1 18 1 "read_back" "High.read_back" m11 252
def oH:=di [k P "__module__" 494 m11v,k P "__firstlineno__" 498 (.int 84 497),k P "filled" 508 (.ref 246),k P "read_back" 517 (.ref 253),k P "__static_attributes__" 518 (.ref 254),k P "__doc__" 519 .none] 2
def tQ:Obj:=cc "High" (.ref 202) 256 [.ref 202,.type "object"] 255 [] (some (.ref 233)) 487 495 "object.__new__"
def Ib:=di [k P "__module__" 529 m11v,k P "__qualname__" 531 (.str "Low" 530),k P "__firstlineno__" 533 (.int 91 532),k P "filled" 543 (.ref 272),k P "read_back" 552 (.ref 279),k P "__static_attributes__" 553 (.ref 280)] 6
def GH:Obj:=nf (nl [93,4,271,96,4,278]).toArray
def E7:Obj:=co "Low" "Low" 524 91 0 0 262 false 263 .none 527
def Df:Obj:=fm 264 261 m11v
def oK:Obj:=tu #[.str "self" 537,.str "word" 538,.str "here" 539,.str "there" 540]
def JN:Obj:=ft (C 19 0) "filled" "Low.filled"
def tX:Obj:=cf "filled" "Low.filled" 534 93 4 266 541
def vS:Obj:=fC1 19 0 "filled" "Low.filled" m11 271
def uE:Obj:=tu #[.str "self" 547,.str "word" 548,.str "here" 549]
def JT:Obj:=ft (C 19 1) "read_back" "Low.read_back"
def um:Obj:=cf "read_back" "Low.read_back" 544 96 3 273 550
def qW:Obj:=fC1 19 1 "read_back" "Low.read_back" m11 278
def qD:=di [k P "__module__" 529 m11v,k P "__firstlineno__" 533 (.int 91 532),k P "filled" 543 (.ref 272),k P "read_back" 552 (.ref 279),k P "__static_attributes__" 553 (.ref 280),k P "__doc__" 554 .none] 2
def u_:Obj:=cc "Low" (.ref 202) 282 [.ref 202,.type "object"] 281 [] (some (.ref 259)) 522 530 "object.__new__"
def Yr(P:Params)(r:List (Nat×Obj)):List (Nat×Obj):=(3,WE P)::(12,SH)::(202,Qi)::(233,tu #[.ref 202])::(234,bp)::(235,Ii P)::(236,e1)::(237,El)::(238,Iz)::(239,JO)::(240,e1)::(241,e2)::(242,tP)::(243,e1)::(244,Jl)::(245,r8)::(246,qG)::(247,e1)::(248,e2)::(249,qR)::(250,e1)::(251,Ji)::(252,rL)::(253,sM)::r
def Y7(P:Params)(r:List (Nat×Obj)):List (Nat×Obj):=(254,e1)::(255,oH P)::(256,tQ)::(257,su 256)::(258,bs 256)::(259,tu #[.ref 202])::(260,bp)::(261,Ib P)::(262,e1)::(263,GH)::(264,E7)::(265,Df)::(266,e1)::(267,e2)::(268,oK)::(269,e1)::(270,JN)::(271,tX)::(272,vS)::(273,e1)::(274,e2)::(275,uE)::(276,e1)::(277,JT)::r
def Zb(P:Params)(r:List (Nat×Obj)):List (Nat×Obj):=(278,um)::(279,qW)::(280,e1)::(281,qD P)::(282,u_)::(283,su 282)::(284,bs 282)::r
def T4(P:Params):BT:=mg 14 (T3 P) (Yr P (Y7 P (Zb P ([]))))
def S4T(w:World):OsState->SharedT:=sT (T4 w.params) 285 557
def L3:List Stmt:=My.top 18::My.top 19::[]
def P3(w:World):Prop:=sR w 559 S3T S4T L3 ⟨77,0,83,16⟩ ⟨91,0,97,16⟩
def SQ(P:Params):List DictEntry:=sv (Uj P) 0 m31v++[k P "Near" 607 (.ref 322),k P "Split" 659 (.ref 362),k P "way" 667 (.ref 371),k P "pieces_by_name" 675 (.ref 376),k P "copied_piece" 681 (.ref 381),k P "copied_fills" 687 (.ref 386),k P "laid" 695 (.ref 391),k P "size_of" 701 (.ref 396),k P "step_of" 707 (.ref 401)]
def XW:Obj:=⟨'F',none,.dict (SQ P).toArray 35,#[]⟩
def Sy:Obj:=nf (nl [1,0,20,5,0,27,7,0,40,9,0,52,16,0,71,21,0,90,27,0,109,37,0,128,39,0,135,42,0,142,44,0,149,49,0,156,61,0,163,77,0,212,84,0,238,91,0,264,98,0,290,111,0,330,125,0,370,128,0,375,130,0,380,134,0,385,137,0,390,139,0,395,141,0,400]).toArray
def sQ:Obj:=cc "Rule" (.type "object") 202 [.type "object"] 201 [.ref 230,.ref 256,.ref 282,.ref 322,.ref 362] none 388 396 "object.__new__"
def F5:=di [k P "__module__" 564 m11v,k P "__qualname__" 566 (.str "Near" 565),k P "__firstlineno__" 568 (.int 98 567),k P "fits" 577 (.ref 298),k P "filled" 587 (.ref 305),k P "read_back" 596 (.ref 312),k P "leans" 603 (.ref 319),k P "__static_attributes__" 604 (.ref 320)] 8
def FU:Obj:=nf (nl [100,4,297,103,4,304,106,4,311,109,4,318]).toArray
def D9:Obj:=co "Near" "Near" 559 98 0 0 288 false 289 .none 562
def Ic:Obj:=fm 290 287 m11v
def oS:Obj:=tu #[.str "self" 572,.str "here" 573,.str "there" 574]
def Gs:Obj:=ft (C 20 0) "fits" "Near.fits"
def vc:Obj:=cf "fits" "Near.fits" 569 100 3 292 575
def uR:Obj:=fC1 20 0 "fits" "Near.fits" m11 297
def ur:Obj:=tu #[.str "self" 581,.str "word" 582,.str "here" 583,.str "there" 584]
def Et:Obj:=ft (C 20 1) "filled" "Near.filled"
def qx:Obj:=cf "filled" "Near.filled" 578 103 4 299 585
def oR:Obj:=fC1 20 1 "filled" "Near.filled" m11 304
def rE:Obj:=tu #[.str "self" 591,.str "word" 592,.str "here" 593]
def Ed:Obj:=ft (C 20 2) "read_back" "Near.read_back"
def sU:Obj:=cf "read_back" "Near.read_back" 588 106 3 306 594
def vq:Obj:=fC1 20 2 "read_back" "Near.read_back" m11 311
def pU:Obj:=tu #[.str "self" 600]
def JA:Obj:=ft (C 20 3) "leans" "Near.leans"
def uw:Obj:=cf "leans" "Near.leans" 597 109 1 313 601
def qA:Obj:=fC1 20 3 "leans" "Near.leans" m11 318
def pd:=di [k P "__module__" 564 m11v,k P "__firstlineno__" 568 (.int 98 567),k P "fits" 577 (.ref 298),k P "filled" 587 (.ref 305),k P "read_back" 596 (.ref 312),k P "leans" 603 (.ref 319),k P "__static_attributes__" 604 (.ref 320),k P "__doc__" 605 .none] 2
def vR:Obj:=cc "Near" (.ref 202) 322 [.ref 202,.type "object"] 321 [] (some (.ref 285)) 557 565 "object.__new__"
def IV:=di [k P "__module__" 615 m11v,k P "__qualname__" 617 (.str "Split" 616),k P "__firstlineno__" 619 (.int 111 618),k P "fits" 628 (.ref 338),k P "filled" 639 (.ref 345),k P "read_back" 648 (.ref 352),k P "leans" 655 (.ref 359),k P "__static_attributes__" 656 (.ref 360)] 8
def Hq:Obj:=nf (nl [113,4,337,116,4,344,120,4,351,123,4,358]).toArray
def Fw:Obj:=co "Split" "Split" 610 111 0 0 328 false 329 .none 613
def Js:Obj:=fm 330 327 m11v
def vx:Obj:=tu #[.str "self" 623,.str "here" 624,.str "there" 625]
def J9:Obj:=ft (C 21 0) "fits" "Split.fits"
def sO:Obj:=cf "fits" "Split.fits" 620 113 3 332 626
def rM:Obj:=fC1 21 0 "fits" "Split.fits" m11 337
def ql:Obj:=tu #[.str "self" 632,.str "word" 633,.str "here" 634,.str "there" 635,.str "lower" 636]
def Hs:Obj:=ft (C 21 1) "filled" "Split.filled"
def pL:Obj:=cf "filled" "Split.filled" 629 116 4 339 637
def rJ:Obj:=fC1 21 1 "filled" "Split.filled" m11 344
def qj:Obj:=tu #[.str "self" 643,.str "word" 644,.str "here" 645]
def DP:Obj:=ft (C 21 2) "read_back" "Split.read_back"
def oN:Obj:=cf "read_back" "Split.read_back" 640 120 3 346 646
def rq:Obj:=fC1 21 2 "read_back" "Split.read_back" m11 351
def v8:Obj:=tu #[.str "self" 652]
def HW:Obj:=ft (C 21 3) "leans" "Split.leans"
def pD:Obj:=cf "leans" "Split.leans" 649 123 1 353 653
def uQ:Obj:=fC1 21 3 "leans" "Split.leans" m11 358
def oJ:=di [k P "__module__" 615 m11v,k P "__firstlineno__" 619 (.int 111 618),k P "fits" 628 (.ref 338),k P "filled" 639 (.ref 345),k P "read_back" 648 (.ref 352),k P "leans" 655 (.ref 359),k P "__static_attributes__" 656 (.ref 360),k P "__doc__" 657 .none] 2
def rP:Obj:=cc "Split" (.ref 202) 362 [.ref 202,.type "object"] 361 [] (some (.ref 325)) 608 616 "object.__new__"
def oA:Obj:=tu #[.str "here" 663,.str "there" 664]
def DO:Obj:=fT1 22 "way"
def qP:Obj:=cF1 "way" 660 125 2 365 665
def pY:Obj:=fO1 22 "way" m11 370
def JS:Obj:=fT1 24 "pieces_by_name"
def vm:Obj:=co "pieces_by_name" "pieces_by_name" 670 128 1 3 372 true 373 (.ref 374) 673
def rS:Obj:=fO1 24 "pieces_by_name" m41 375
def F2:Obj:=fT1 25 "copied_piece"
def wq:Obj:=co "copied_piece" "copied_piece" 676 130 1 3 377 true 378 (.ref 379) 679
def sy:Obj:=fO1 25 "copied_piece" m41 380
def GU:Obj:=fT1 26 "copied_fills"
def o9:Obj:=co "copied_fills" "copied_fills" 682 134 1 3 382 true 383 (.ref 384) 685
def oV:Obj:=fO1 26 "copied_fills" m41 385
def Fl:Obj:=fT1 28 "laid"
def vB:Obj:=co "laid" "laid" 690 137 2 3 387 true 388 (.ref 389) 693
def vo:Obj:=fO1 28 "laid" m31 390
def GV:Obj:=fT1 29 "size_of"
def rD:Obj:=co "size_of" "size_of" 696 139 2 3 392 true 393 (.ref 394) 699
def qL:Obj:=fO1 29 "size_of" m31 395
def FX:Obj:=fT1 30 "step_of"
def p6:Obj:=co "step_of" "step_of" 702 141 2 3 397 true 398 (.ref 399) 705
def wc:Obj:=fO1 30 "step_of" m31 400
def Yg(P:Params)(r:List (Nat×Obj)):List (Nat×Obj):=(3,XW P)::(12,Sy)::(202,sQ)::(285,tu #[.ref 202])::(286,bp)::(287,F5 P)::(288,e1)::(289,FU)::(290,D9)::(291,Ic)::(292,e1)::(293,e2)::(294,oS)::(295,e1)::(296,Gs)::(297,vc)::(298,uR)::(299,e1)::(300,e2)::(301,ur)::(302,e1)::(303,Et)::(304,qx)::(305,oR)::r
def XE(P:Params)(r:List (Nat×Obj)):List (Nat×Obj):=(306,e1)::(307,e2)::(308,rE)::(309,e1)::(310,Ed)::(311,sU)::(312,vq)::(313,e1)::(314,e2)::(315,pU)::(316,e1)::(317,JA)::(318,uw)::(319,qA)::(320,e1)::(321,pd P)::(322,vR)::(323,su 322)::(324,bs 322)::(325,tu #[.ref 202])::(326,bp)::(327,IV P)::(328,e1)::(329,Hq)::r
def YS(P:Params)(r:List (Nat×Obj)):List (Nat×Obj):=(330,Fw)::(331,Js)::(332,e1)::(333,e2)::(334,vx)::(335,e1)::(336,J9)::(337,sO)::(338,rM)::(339,e1)::(340,e2)::(341,ql)::(342,e1)::(343,Hs)::(344,pL)::(345,rJ)::(346,e1)::(347,e2)::(348,qj)::(349,e1)::(350,DP)::(351,oN)::(352,rq)::(353,e1)::r
def WL(P:Params)(r:List (Nat×Obj)):List (Nat×Obj):=(354,e2)::(355,v8)::(356,e1)::(357,HW)::(358,pD)::(359,uQ)::(360,e1)::(361,oJ P)::(362,rP)::(363,su 362)::(364,bs 362)::(365,e1)::(366,e2)::(367,oA)::(368,e1)::(369,DO)::(370,qP)::(371,pY)::(372,e1)::(373,e2)::(374,JS)::(375,vm)::(376,rS)::(377,e1)::r
def Xg(P:Params)(r:List (Nat×Obj)):List (Nat×Obj):=(378,e2)::(379,F2)::(380,wq)::(381,sy)::(382,e1)::(383,e2)::(384,GU)::(385,o9)::(386,oV)::(387,e1)::(388,e2)::(389,Fl)::(390,vB)::(391,vo)::(392,e1)::(393,e2)::(394,GV)::(395,rD)::(396,qL)::(397,e1)::(398,e2)::(399,FX)::(400,p6)::(401,wc)::r
def T5(P:Params):BT:=mg 14 (T4 P) (Yg P (XE P (YS P (WL P (Xg P ([]))))))
def Zt(w:World):OsState->SharedT:=sT (T5 w.params) 402 708
def L4:List Stmt:=My.top 20::My.top 21::My.top 22::My.top 23::My.top 24::My.top 25::My.top 26::My.top 27::My.top 28::My.top 29::My.top 30::[]
def P4(w:World):Prop:=sR w 892 S4T Zt L4 ⟨91,0,97,16⟩ ⟨141,0,143,81⟩
def Sj(P:Params):List DictEntry:=sv (SQ P) 0 m51v++[k P "laid_with_ends" 721 (.ref 408),k P "in_order" 727 (.ref 413),k P "multiple_from" 735 (.ref 420),k P "tells" 743 (.ref 425),k P "wants" 761 (.ref 432),k P "names_of" 772 (.ref 439),k P "refuse_twice" 778 (.ref 444),k P "aims" 784 (.ref 449),k P "aim_by" 798 (.ref 456),k P "places_told" 811 (.ref 463),k P "taken" 819 (.ref 468),k P "reasons" 828 (.ref 475),k P "Taking" 886 (.ref 506),k P "pieces_on" 895 (.ref 517),k P "refuse_same_name" 905 (.ref 524),k P "first_tellers" 915 (.ref 531),k P "reached" 934 (.ref 538),k P "keys_aimed_at" 940 (.ref 543),k P "map_of" 952 (.ref 550)]
def XB:Obj:=⟨'F',none,.dict (Sj P).toArray 54,#[]⟩
def Sm:Obj:=nf (nl [1,0,20,5,0,27,7,0,40,9,0,52,16,0,71,21,0,90,27,0,109,37,0,128,39,0,135,42,0,142,44,0,149,49,0,156,61,0,163,77,0,212,84,0,238,91,0,264,98,0,290,111,0,330,125,0,370,128,0,375,130,0,380,134,0,385,137,0,390,139,0,395,141,0,400,144,0,407,154,0,412,159,0,419,162,0,424,164,0,431,172,0,438,180,0,443,189,0,448,192,0,455,202,0,462,209,0,467,213,0,474,215,0,481,251,0,516,256,0,523,265,0,530,272,0,537,286,0,542,291,0,549]).toArray
def ph:Obj:=tu #[.str "pieces" 711,.str "keys" 712,.str "by_name" 713,.str "rows" 714,.str "end" 715,.str "key" 716,.str "stretch" 717,.str "place" 718]
def IB:Obj:=fT1 31 "laid_with_ends"
def sX:Obj:=cF1 "laid_with_ends" 708 144 2 402 719
def oF:Obj:=fO1 31 "laid_with_ends" m31 407
def Ej:Obj:=fT1 32 "in_order"
def qK:Obj:=co "in_order" "in_order" 722 154 2 3 409 true 410 (.ref 411) 725
def sV:Obj:=fO1 32 "in_order" m31 412
def p9:Obj:=tu #[.str "number" 731,.str "step" 732]
def E4:Obj:=fT1 33 "multiple_from"
def vK:Obj:=cF1 "multiple_from" 728 159 2 414 733
def vH:Obj:=fO1 33 "multiple_from" m31 419
def HZ:Obj:=fT1 35 "tells"
def uZ:Obj:=co "tells" "tells" 738 162 1 3 421 true 422 (.ref 423) 741
def qF:Obj:=fO1 35 "tells" m61 424
def pP:Obj:=tu #[.str "piece" 747,.str "own" 748,.str "wanted" 749,.str "kind" 750,.str "step" 751,.str "words" 752,.str "fills" 753,.str "at" 754,.str "rule" 755,.str "name" 756,.str "add" 757,.str "soft" 758]
def JL:Obj:=fT1 36 "wants"
def tY:Obj:=cF1 "wants" 744 164 1 426 759
def vV:Obj:=fO1 36 "wants" m61 431
def uI:Obj:=tu #[.str "pieces" 765,.str "ordered" 766,.str "names" 767,.str "sort" 768,.str "piece" 769]
def EE:Obj:=fT1 37 "names_of"
def pH:Obj:=cF1 "names_of" 762 172 1 433 770
def oy:Obj:=fO1 37 "names_of" m61 438
def G7:Obj:=fT1 38 "refuse_twice"
def wz:Obj:=co "refuse_twice" "refuse_twice" 773 180 1 3 440 true 441 (.ref 442) 776
def qU:Obj:=fO1 38 "refuse_twice" m61 443
def Hr:Obj:=fT1 39 "aims"
def qt:Obj:=co "aims" "aims" 779 189 3 3 445 true 446 (.ref 447) 782
def vP:Obj:=fO1 39 "aims" m61 448
def uU:Obj:=tu #[.str "piece_name" 788,.str "own" 789,.str "names" 790,.str "fill" 791,.str "name" 792,.str "add" 793,.str "soft" 794,.str "place" 795]
def GP:Obj:=fT1 40 "aim_by"
def pA:Obj:=cF1 "aim_by" 785 192 4 450 796
def q_:Obj:=fO1 40 "aim_by" m61 455
def vA:Obj:=tu #[.str "piece" 802,.str "told_by" 803,.str "places" 804,.str "name" 805,.str "sort" 806,.str "stretch" 807,.str "offset" 808]
def Gr:Obj:=fT1 41 "places_told"
def tN:Obj:=cF1 "places_told" 799 202 2 457 809
def u0:Obj:=fO1 41 "places_told" m61 462
def FL:Obj:=fT1 43 "taken"
def oW:Obj:=co "taken" "taken" 814 209 3 3 464 true 465 (.ref 466) 817
def vY:Obj:=fO1 43 "taken" m71 467
def uc:Obj:=tu #[.str "given" 823,.str "shelves" 824,.str "entry" 825]
def HK:Obj:=fT1 44 "reasons"
def qh:Obj:=cF1 "reasons" 820 213 3 469 826
def qS:Obj:=fO1 44 "reasons" m71 474
def Hz:=di [k P "__module__" 836 m71v,k P "__qualname__" 838 (.str "Taking" 837),k P "__firstlineno__" 840 (.int 215 839),k P "__init__" 852 (.ref 489),k P "take_for_pieces" 862 (.ref 496),k P "take_for" 872 (.ref 503),k P "__static_attributes__" 879 (.ref 504)] 7
def ES:Obj:=nf (nl [217,4,488,232,4,495,240,4,502]).toArray
def F4:Obj:=co "Taking" "Taking" 831 215 0 0 479 false 480 .none 834
def Ig:Obj:=fm 481 478 m71v
def uS:Obj:=tu #[.str "self" 844,.str "given" 845,.str "shelves" 846,.str "entry" 847,.str "on_shelves" 848,.str "least" 849]
def EF:Obj:=ft (C 45 0) "__init__" "Taking.__init__"
def qY:Obj:=cf "__init__" "Taking.__init__" 841 217 4 483 850
def uP:Obj:=fC1 45 0 "__init__" "Taking.__init__" m71 488
def qX:Obj:=tu #[.str "self" 856,.str "done" 857,.str "piece" 858,.str "name" 859]
def ET:Obj:=ft (C 45 1) "take_for_pieces" "Taking.take_for_pieces"
def rA:Obj:=cf "take_for_pieces" "Taking.take_for_pieces" 853 232 1 490 860
def oY:Obj:=fC1 45 1 "take_for_pieces" "Taking.take_for_pieces" m71 495
def vh:Obj:=tu #[.str "self" 866,.str "name" 867,.str "by" 868,.str "piece" 869]
def HP:Obj:=ft (C 45 2) "take_for" "Taking.take_for"
def rH:Obj:=cf "take_for" "Taking.take_for" 863 240 3 497 870
def pZ:Obj:=fC1 45 2 "take_for" "Taking.take_for" m71 502
def rV:Obj:=tu #[.str "from_shelves" 873,.str "on_shelves" 874,.str "pieces" 875,.str "reasons" 876,.str "told_by_given" 877,.str "unmet" 878]
def OO(P:Params):List DictEntry:=[k P "__module__" 836 m71v,k P "__firstlineno__" 840 (.int 215 839),k P "__init__" 852 (.ref 489),k P "take_for_pieces" 862 (.ref 496),k P "take_for" 872 (.ref 503),k P "__static_attributes__" 879 (.ref 504),k P "__dict__" 881 (.ref 507),k P "__weakref__" 883 (.ref 508),k P "__doc__" 884 .none]
def uz:Obj:=⟨'F',none,.dict (OO P).toArray 4,#[]⟩
def qZ:Obj:=cc "Taking" (.type "object") 506 [.type "object"] 505 [] none 829 837 "object.__new__"
def o7:Obj:=⟨(.type "getset_descriptor"),none,(.fields #[.str "__dict__" 880,.ref 506,.builtin "function.__dict__",.builtin "function.__dict__#set"]),#[]⟩
def tZ:Obj:=⟨(.type "getset_descriptor"),none,(.fields #[.str "__weakref__" 882,.ref 506,.builtin "ExceptionGroup.__weakref__",.none]),#[]⟩
def uM:Obj:=tu #[.str "shelves" 890,.str "pieces" 891,.str "shelf" 892]
def Jk:Obj:=fT1 46 "pieces_on"
def vd:Obj:=cF1 "pieces_on" 887 251 1 511 893
def r_:Obj:=fO1 46 "pieces_on" m71 516
def uC:Obj:=tu #[.str "pieces" 899,.str "seen" 900,.str "again" 901,.str "piece" 902]
def IL:Obj:=fT1 47 "refuse_same_name"
def pf:Obj:=cF1 "refuse_same_name" 896 256 1 518 903
def r6:Obj:=fO1 47 "refuse_same_name" m71 523
def sZ:Obj:=tu #[.str "pieces" 909,.str "first" 910,.str "piece" 911,.str "name" 912]
def JP:Obj:=fT1 48 "first_tellers"
def vp:Obj:=cF1 "first_tellers" 906 265 1 525 913
def rX:Obj:=fO1 48 "first_tellers" m71 530
def vO:Obj:=tu #[.str "pieces" 921,.str "names" 922,.str "root" 923,.str "by_name" 924,.str "first" 925,.str "ways" 926,.str "seen" 927,.str "done" 928,.str "by" 929,.str "key" 930,.str "at" 931]
def Ja:Obj:=fT1 50 "reached"
def qH:Obj:=cF1 "reached" 918 272 3 532 932
def rT:Obj:=fo (T 50) "reached" "reached" "joinload.ways" 916 537
def F0:Obj:=fT1 51 "keys_aimed_at"
def qg:Obj:=co "keys_aimed_at" "keys_aimed_at" 935 286 3 3 539 true 540 (.ref 541) 938
def qN:Obj:=fo (T 51) "keys_aimed_at" "keys_aimed_at" "joinload.ways" 916 542
def qQ:Obj:=tu #[.str "given" 946,.str "shelves" 947,.str "entry" 948,.str "pieces" 949]
def Ff:Obj:=fT1 53 "map_of"
def tR:Obj:=cF1 "map_of" 943 291 3 544 950
def uH:Obj:=fO1 53 "map_of" m51 549
def Wv(P:Params)(r:List (Nat×Obj)):List (Nat×Obj):=(3,XB P)::(12,Sm)::(402,e1)::(403,e2)::(404,ph)::(405,e1)::(406,IB)::(407,sX)::(408,oF)::(409,e1)::(410,e2)::(411,Ej)::(412,qK)::(413,sV)::(414,e1)::(415,e2)::(416,p9)::(417,e1)::(418,E4)::(419,vK)::(420,vH)::(421,e1)::(422,e2)::(423,HZ)::r
def W6(P:Params)(r:List (Nat×Obj)):List (Nat×Obj):=(424,uZ)::(425,qF)::(426,e1)::(427,e2)::(428,pP)::(429,e1)::(430,JL)::(431,tY)::(432,vV)::(433,e1)::(434,e2)::(435,uI)::(436,e1)::(437,EE)::(438,pH)::(439,oy)::(440,e1)::(441,e2)::(442,G7)::(443,wz)::(444,qU)::(445,e1)::(446,e2)::(447,Hr)::r
def Ww(P:Params)(r:List (Nat×Obj)):List (Nat×Obj):=(448,qt)::(449,vP)::(450,e1)::(451,e2)::(452,uU)::(453,e1)::(454,GP)::(455,pA)::(456,q_)::(457,e1)::(458,e2)::(459,vA)::(460,e1)::(461,Gr)::(462,tN)::(463,u0)::(464,e1)::(465,e2)::(466,FL)::(467,oW)::(468,vY)::(469,e1)::(470,e2)::(471,uc)::r
def WV(P:Params)(r:List (Nat×Obj)):List (Nat×Obj):=(472,e1)::(473,HK)::(474,qh)::(475,qS)::(476,e1)::(477,bp)::(478,Hz P)::(479,e1)::(480,ES)::(481,F4)::(482,Ig)::(483,e1)::(484,e2)::(485,uS)::(486,e1)::(487,EF)::(488,qY)::(489,uP)::(490,e1)::(491,e2)::(492,qX)::(493,e1)::(494,ET)::(495,rA)::r
def Y_(P:Params)(r:List (Nat×Obj)):List (Nat×Obj):=(496,oY)::(497,e1)::(498,e2)::(499,vh)::(500,e1)::(501,HP)::(502,rH)::(503,pZ)::(504,rV)::(505,uz P)::(506,qZ)::(507,o7)::(508,tZ)::(509,su 506)::(510,bs 506)::(511,e1)::(512,e2)::(513,uM)::(514,e1)::(515,Jk)::(516,vd)::(517,r_)::(518,e1)::(519,e2)::r
def Xe(P:Params)(r:List (Nat×Obj)):List (Nat×Obj):=(520,uC)::(521,e1)::(522,IL)::(523,pf)::(524,r6)::(525,e1)::(526,e2)::(527,sZ)::(528,e1)::(529,JP)::(530,vp)::(531,rX)::(532,e1)::(533,e2)::(534,vO)::(535,e1)::(536,Ja)::(537,qH)::(538,rT)::(539,e1)::(540,e2)::(541,F0)::(542,qg)::(543,qN)::r
def W9(P:Params)(r:List (Nat×Obj)):List (Nat×Obj):=(544,e1)::(545,e2)::(546,qQ)::(547,e1)::(548,Ff)::(549,tR)::(550,uH)::r
def T6(P:Params):BT:=mg 14 (T5 P) (Wv P (W6 P (Ww P (WV P (Y_ P (Xe P (W9 P ([]))))))))
def ZE(w:World):OsState->SharedT:=sT (T6 w.params) 551 953
def L5:List Stmt:=My.top 31::My.top 32::My.top 33::My.top 34::My.top 35::My.top 36::My.top 37::My.top 38::My.top 39::My.top 40::My.top 41::My.top 42::My.top 43::My.top 44::My.top 45::My.top 46::My.top 47::My.top 48::My.top 49::My.top 50::My.top 51::My.top 52::My.top 53::[]
def P5(w:World):Prop:=sR w 899 Zt ZE L5 ⟨141,0,143,81⟩ ⟨291,0,293,68⟩
def X5(P:Params):List DictEntry:=sv (Sj P) 0 (.str "law_joinload_k95_whole_not_taken_is_nothing" 1036)++[k P "joined" 966 (.ref 557),k P "kept" 972 (.ref 562),k P "Joining" 1035 (.ref 593),k P "_law_cell_at" 1045 (.ref 604),k P "_law_name_by" 1058 (.ref 611),k P "_law_put_word" 1073 (.ref 618),k P "_law_put_name" 1079 (.ref 623),k P "_law_drawn" 1093 (.ref 630),k P "_law_rest" 1099 (.ref 635),k P "_law_shelved" 1110 (.ref 642),k P "_law_answer" 1116 (.ref 647),k P "_law_without" 1129 (.ref 654),k P "_law_more" 1144 (.ref 661),k P "law" 1158 (.ref 668)]
def Li:Obj:=⟨'F',none,.dict (X5 P).toArray 68,#[]⟩
def MI:Obj:=nf (nl [1,0,20,5,0,27,7,0,40,9,0,52,16,0,71,21,0,90,27,0,109,37,0,128,39,0,135,42,0,142,44,0,149,49,0,156,61,0,163,77,0,212,84,0,238,91,0,264,98,0,290,111,0,330,125,0,370,128,0,375,130,0,380,134,0,385,137,0,390,139,0,395,141,0,400,144,0,407,154,0,412,159,0,419,162,0,424,164,0,431,172,0,438,180,0,443,189,0,448,192,0,455,202,0,462,209,0,467,213,0,474,215,0,481,251,0,516,256,0,523,265,0,530,272,0,537,286,0,542,291,0,549,294,0,556,301,0,561,304,0,568,337,0,603,341,0,610,351,0,617,362,0,622,372,0,629,387,0,634,390,0,641,397,0,646,401,0,653,411,0,660,423,0,667]).toArray
def qc:Obj:=tu #[.str "given" 956,.str "shelves" 957,.str "entry" 958,.str "pieces" 959,.str "names" 960,.str "keys" 961,.str "joining" 962,.str "start" 963]
def Kd:Obj:=fT1 54 "joined"
def oE:Obj:=cF1 "joined" 953 294 3 551 964
def vj:Obj:=fO1 54 "joined" m51 556
def J_:Obj:=fT1 55 "kept"
def rW:Obj:=co "kept" "kept" 967 301 3 3 558 true 559 (.ref 560) 970
def pW:Obj:=fO1 55 "kept" m51 561
def Fq:=di [k P "__module__" 980 m51v,k P "__qualname__" 982 (.str "Joining" 981),k P "__firstlineno__" 984 (.int 304 983),k P "__init__" 997 (.ref 576),k P "join_stretch" 1015 (.ref 583),k P "place_of" 1023 (.ref 590),k P "__static_attributes__" 1028 (.ref 591)] 7
def IE:Obj:=nf (nl [306,4,575,315,4,582,334,4,589]).toArray
def Eu:Obj:=co "Joining" "Joining" 975 304 0 0 566 false 567 .none 978
def IM:Obj:=fm 568 565 m51v
def vv:Obj:=tu #[.str "self" 988,.str "pieces" 989,.str "names" 990,.str "rows" 991,.str "by_name" 992,.str "key" 993,.str "place" 994]
def JY:Obj:=ft (C 56 0) "__init__" "Joining.__init__"
def wb:Obj:=cf "__init__" "Joining.__init__" 985 306 4 570 995
def qm:Obj:=fC1 56 0 "__init__" "Joining.__init__" m51 575
def sJ:Obj:=tu #[.str "self" 1001,.str "piece" 1002,.str "number" 1003,.str "place" 1004,.str "stretch" 1005,.str "words" 1006,.str "fills" 1007,.str "fill" 1008,.str "aimed" 1009,.str "at" 1010,.str "rule" 1011,.str "here" 1012]
def IP:Obj:=ft (C 56 1) "join_stretch" "Joining.join_stretch"
def rg:Obj:=cf "join_stretch" "Joining.join_stretch" 998 315 4 577 1013
def pq:Obj:=fC1 56 1 "join_stretch" "Joining.join_stretch" m51 582
def tK:Obj:=tu #[.str "self" 1019,.str "aimed" 1020]
def Hy:Obj:=ft (C 56 2) "place_of" "Joining.place_of"
def pN:Obj:=cf "place_of" "Joining.place_of" 1016 334 2 584 1021
def ve:Obj:=fC1 56 2 "place_of" "Joining.place_of" m51 589
def qI:Obj:=tu #[.str "leaning" 1024,.str "names" 1025,.str "parts" 1026,.str "places" 1027]
def PN(P:Params):List DictEntry:=[k P "__module__" 980 m51v,k P "__firstlineno__" 984 (.int 304 983),k P "__init__" 997 (.ref 576),k P "join_stretch" 1015 (.ref 583),k P "place_of" 1023 (.ref 590),k P "__static_attributes__" 1028 (.ref 591),k P "__dict__" 1030 (.ref 594),k P "__weakref__" 1032 (.ref 595),k P "__doc__" 1033 .none]
def u9:Obj:=⟨'F',none,.dict (PN P).toArray 4,#[]⟩
def tM:Obj:=cc "Joining" (.type "object") 593 [.type "object"] 592 [] none 973 981 "object.__new__"
def rN:Obj:=⟨(.type "getset_descriptor"),none,(.fields #[.str "__dict__" 1029,.ref 593,.builtin "function.__dict__",.builtin "function.__dict__#set"]),#[]⟩
def pK:Obj:=⟨(.type "getset_descriptor"),none,(.fields #[.str "__weakref__" 1031,.ref 593,.builtin "ExceptionGroup.__weakref__",.none]),#[]⟩
def pI:Obj:=tu #[.str "_law_script" 1041,.str "_law_k" 1042]
def Hn:Obj:=fT1 58 "_law_cell_at"
def pM:Obj:=cF1 "_law_cell_at" 1038 337 2 598 1043
def uY:Obj:=fo (T 58) "_law_cell_at" "_law_cell_at" "law_joinload_k95_whole_not_taken_is_nothing" 1036 603
def uK:Obj:=tu #[.str "_law_cell" 1049,.str "_law_k" 1050,.str "_law_signs" 1051,.str "_law_base" 1052,.str "_law_j" 1053,.str "_law_at" 1054,.str "_law_figures" 1055]
def FK:Obj:=fT1 59 "_law_name_by"
def v3:Obj:=cF1 "_law_name_by" 1046 341 2 605 1056
def tL:Obj:=fo (T 59) "_law_name_by" "_law_name_by" "law_joinload_k95_whole_not_taken_is_nothing" 1036 610
def oO:Obj:=tu #[.str "_law_stretch" 1062,.str "_law_cell" 1063,.str "_law_number" 1064,.str "_law_names_by" 1065,.str "_law_words" 1066,.str "_law_rule" 1067,.str "_law_soft" 1068,.str "_law_add" 1069,.str "_law_name" 1070]
def GW:Obj:=fT1 60 "_law_put_word"
def vy:Obj:=cF1 "_law_put_word" 1059 351 4 612 1071
def uv:Obj:=fo (T 60) "_law_put_word" "_law_put_word" "law_joinload_k95_whole_not_taken_is_nothing" 1036 617
def HQ:Obj:=fT1 61 "_law_put_name"
def qy:Obj:=co "_law_put_name" "_law_put_name" 1074 362 4 3 619 true 620 (.ref 621) 1077
def vb:Obj:=fo (T 61) "_law_put_name" "_law_put_name" "law_joinload_k95_whole_not_taken_is_nothing" 1036 622
def uA:Obj:=tu #[.str "_law_cells" 1083,.str "_law_names_by" 1084,.str "_law_titles_by" 1085,.str "_law_pieces" 1086,.str "_law_strong" 1087,.str "_law_cell" 1088,.str "_law_number" 1089,.str "_law_kind" 1090]
def IJ:Obj:=fT1 62 "_law_drawn"
def oX:Obj:=cF1 "_law_drawn" 1080 372 3 624 1091
def tI:Obj:=fo (T 62) "_law_drawn" "_law_drawn" "law_joinload_k95_whole_not_taken_is_nothing" 1036 629
def G1:Obj:=fT1 63 "_law_rest"
def rG:Obj:=co "_law_rest" "_law_rest" 1094 387 2 3 631 true 632 (.ref 633) 1097
def pz:Obj:=fo (T 63) "_law_rest" "_law_rest" "law_joinload_k95_whole_not_taken_is_nothing" 1036 634
def pO:Obj:=tu #[.str "_law_pieces" 1103,.str "_law_cell" 1104,.str "_law_some" 1105,.str "_law_number" 1106,.str "_law_piece" 1107]
def IZ:Obj:=fT1 64 "_law_shelved"
def se:Obj:=cF1 "_law_shelved" 1100 390 2 636 1108
def rK:Obj:=fo (T 64) "_law_shelved" "_law_shelved" "law_joinload_k95_whole_not_taken_is_nothing" 1036 641
def DE:Obj:=fT1 65 "_law_answer"
def p_:Obj:=co "_law_answer" "_law_answer" 1111 397 2 3 643 true 644 (.ref 645) 1114
def qb:Obj:=fo (T 65) "_law_answer" "_law_answer" "law_joinload_k95_whole_not_taken_is_nothing" 1036 646
def wg:Obj:=tu #[.str "_law_some" 1120,.str "_law_titles" 1121,.str "_law_number" 1122,.str "_law_found" 1123,.str "_law_shelf" 1124,.str "_law_row" 1125,.str "_law_piece" 1126]
def E3:Obj:=fT1 66 "_law_without"
def oZ:Obj:=cF1 "_law_without" 1117 401 3 648 1127
def tV:Obj:=fo (T 66) "_law_without" "_law_without" "law_joinload_k95_whole_not_taken_is_nothing" 1036 653
def vi:Obj:=tu #[.str "_law_script" 1133,.str "_law_number" 1134,.str "_law_names_by" 1135,.str "_law_row" 1136,.str "_law_k" 1137,.str "_law_told" 1138,.str "_law_j" 1139,.str "_law_wanted" 1140,.str "_law_stretch" 1141]
def E_:Obj:=fT1 67 "_law_more"
def pB:Obj:=cF1 "_law_more" 1130 411 2 655 1142
def tE:Obj:=fo (T 67) "_law_more" "_law_more" "law_joinload_k95_whole_not_taken_is_nothing" 1036 660
def pE:Obj:=tu #[.str "_law_script" 1148,.str "_law_names_by" 1149,.str "_law_titles_by" 1150,.str "_law_number" 1151,.str "_law_some" 1152,.str "_law_entry" 1153,.str "_law_due" 1154,.str "_law_fuller" 1155]
def IY:Obj:=fT1 68 "law"
def uq:Obj:=cF1 "law" 1145 423 1 662 1156
def uB:Obj:=fo (T 68) "law" "law" "law_joinload_k95_whole_not_taken_is_nothing" 1036 667
def Yi(P:Params)(r:List (Nat×Obj)):List (Nat×Obj):=(3,Li P)::(12,MI)::(551,e1)::(552,e2)::(553,qc)::(554,e1)::(555,Kd)::(556,oE)::(557,vj)::(558,e1)::(559,e2)::(560,J_)::(561,rW)::(562,pW)::(563,e1)::(564,bp)::(565,Fq P)::(566,e1)::(567,IE)::(568,Eu)::(569,IM)::(570,e1)::(571,e2)::(572,vv)::r
def Yo(P:Params)(r:List (Nat×Obj)):List (Nat×Obj):=(573,e1)::(574,JY)::(575,wb)::(576,qm)::(577,e1)::(578,e2)::(579,sJ)::(580,e1)::(581,IP)::(582,rg)::(583,pq)::(584,e1)::(585,e2)::(586,tK)::(587,e1)::(588,Hy)::(589,pN)::(590,ve)::(591,qI)::(592,u9 P)::(593,tM)::(594,rN)::(595,pK)::(596,su 593)::r
def YX(P:Params)(r:List (Nat×Obj)):List (Nat×Obj):=(597,bs 593)::(598,e1)::(599,e2)::(600,pI)::(601,e1)::(602,Hn)::(603,pM)::(604,uY)::(605,e1)::(606,e2)::(607,uK)::(608,e1)::(609,FK)::(610,v3)::(611,tL)::(612,e1)::(613,e2)::(614,oO)::(615,e1)::(616,GW)::(617,vy)::(618,uv)::(619,e1)::(620,e2)::r
def Yl(P:Params)(r:List (Nat×Obj)):List (Nat×Obj):=(621,HQ)::(622,qy)::(623,vb)::(624,e1)::(625,e2)::(626,uA)::(627,e1)::(628,IJ)::(629,oX)::(630,tI)::(631,e1)::(632,e2)::(633,G1)::(634,rG)::(635,pz)::(636,e1)::(637,e2)::(638,pO)::(639,e1)::(640,IZ)::(641,se)::(642,rK)::(643,e1)::(644,e2)::r
def WI(P:Params)(r:List (Nat×Obj)):List (Nat×Obj):=(645,DE)::(646,p_)::(647,qb)::(648,e1)::(649,e2)::(650,wg)::(651,e1)::(652,E3)::(653,oZ)::(654,tV)::(655,e1)::(656,e2)::(657,vi)::(658,e1)::(659,E_)::(660,pB)::(661,tE)::(662,e1)::(663,e2)::(664,pE)::(665,e1)::(666,IY)::(667,uq)::(668,uB)::r
def T7(P:Params):BT:=mg 14 (T6 P) (Yi P (Yo P (YX P (Yl P (WI P ([]))))))
def Zx(w:World):OsState->SharedT:=sT (T7 w.params) 669 1159
def L6:List Stmt:=My.top 54::My.top 55::My.top 56::My.top 57::My.top 58::My.top 59::My.top 60::My.top 61::My.top 62::My.top 63::My.top 64::My.top 65::My.top 66::My.top 67::My.top 68::[]
def P6(w:World):Prop:=sR w 733 ZE Zx L6 ⟨291,0,293,68⟩ ⟨423,0,439,57⟩
def h_0(P:Params)(r:List Obj):List Obj:=boot_o_0 P::boot_o_1 P::boot_o_2 P::Li P::boot_o_4 P::boot_o_5 P::boot_o_6 P::boot_o_7 P::boot_o_8 P::boot_o_9 P::boot_o_10 P::e1::MI::Kb::Ft::e1::e2::Ap::e1::Na::BE::Be::tu #[.type "ValueError"]::bp::r
def h_1(P:Params)(r:List Obj):List Obj:=N4 P::e1::e2::N2::Ob::e1::As P::Aa::Bp::su 31::bs 31::tu #[.ref 31]::bp::Ol P::e1::e2::MA::NA::e1::An P::BF::su 44::bs 44::tu #[.ref 31]::r
def h_2(P:Params)(r:List Obj):List Obj:=bp::NM P::e1::Nm::Nu::Oh::e1::e2::z_::e1::Ms::AE::Az::AW::z6 P::Aq::su 63::bs 63::tu #[.ref 31]::bp::Nd P::e1::Nn::Of::r
def h_3(P:Params)(r:List Obj):List Obj:=NG::e1::e2::AR::e1::NY::A4::z7::Bq::AS P::Bn::su 82::bs 82::tu #[.ref 31]::bp::Mq P::e1::NO::MF::M7::e1::e2::Bl::e1::r
def h_4(P:Params)(r:List Obj):List Obj:=Mv::AD::Ae::Br::oQ P::uJ::su 101::bs 101::tu #[.ref 31]::bp::Hx P::e1::Jg::Ea::JM::e1::e2::tJ::e1::GX::uW::rj::rQ::sI P::r
def h_5(P:Params)(r:List Obj):List Obj:=p7::su 120::bs 120::e1::e2::sS::e1::FF::tU::sr::e1::e2::tf::e1::EJ::qM::qE::e1::e2::oM::e1::DN::si::o8::r
def h_6(P:Params)(r:List Obj):List Obj:=e1::e2::qC::e1::GA::oB::qT::e1::e2::qp::e1::D7::vX::ua::e1::bp::EN P::e1::FE::C7::Di::e1::e2::o_::r
def h_7(P:Params)(r:List Obj):List Obj:=e1::Ie::uu::vL::e1::e2::sN::e1::DU::vf::tT::e1::e2::pQ::e1::Iv::qz::vQ::e1::e2::oz::e1::Ge::qB::r
def h_8(P:Params)(r:List Obj):List Obj:=qO::e1::e2::vT::e1::Fb::vz::vZ::uh::wu P::sQ::vN::p8::su 202::bs 202::tu #[.ref 202]::bp::IW P::e1::Fh::E1::C4::e1::e2::r
def h_9(P:Params)(r:List Obj):List Obj:=qk::e1::EV::ud::pV::e1::e2::rO::e1::Du::tS::rR::e1::qd P::o6::su 230::bs 230::tu #[.ref 202]::bp::Ii P::e1::El::Iz::JO::r
def XM(P:Params)(r:List Obj):List Obj:=e1::e2::tP::e1::Jl::r8::qG::e1::e2::qR::e1::Ji::rL::sM::e1::oH P::tQ::su 256::bs 256::tu #[.ref 202]::bp::Ib P::e1::GH::r
def Xd(P:Params)(r:List Obj):List Obj:=E7::Df::e1::e2::oK::e1::JN::tX::vS::e1::e2::uE::e1::JT::um::qW::e1::qD P::u_::su 282::bs 282::tu #[.ref 202]::bp::F5 P::r
def WT(P:Params)(r:List Obj):List Obj:=e1::FU::D9::Ic::e1::e2::oS::e1::Gs::vc::uR::e1::e2::ur::e1::Et::qx::oR::e1::e2::rE::e1::Ed::sU::r
def XC(P:Params)(r:List Obj):List Obj:=vq::e1::e2::pU::e1::JA::uw::qA::e1::pd P::vR::su 322::bs 322::tu #[.ref 202]::bp::IV P::e1::Hq::Fw::Js::e1::e2::vx::e1::r
def Yt(P:Params)(r:List Obj):List Obj:=J9::sO::rM::e1::e2::ql::e1::Hs::pL::rJ::e1::e2::qj::e1::DP::oN::rq::e1::e2::v8::e1::HW::pD::uQ::r
def X_(P:Params)(r:List Obj):List Obj:=e1::oJ P::rP::su 362::bs 362::e1::e2::oA::e1::DO::qP::pY::e1::e2::JS::vm::rS::e1::e2::F2::wq::sy::e1::e2::r
def Xj(P:Params)(r:List Obj):List Obj:=GU::o9::oV::e1::e2::Fl::vB::vo::e1::e2::GV::rD::qL::e1::e2::FX::p6::wc::e1::e2::ph::e1::IB::sX::r
def YY(P:Params)(r:List Obj):List Obj:=oF::e1::e2::Ej::qK::sV::e1::e2::p9::e1::E4::vK::vH::e1::e2::HZ::uZ::qF::e1::e2::pP::e1::JL::tY::r
def Xy(P:Params)(r:List Obj):List Obj:=vV::e1::e2::uI::e1::EE::pH::oy::e1::e2::G7::wz::qU::e1::e2::Hr::qt::vP::e1::e2::uU::e1::GP::pA::r
def X9(P:Params)(r:List Obj):List Obj:=q_::e1::e2::vA::e1::Gr::tN::u0::e1::e2::FL::oW::vY::e1::e2::uc::e1::HK::qh::qS::e1::bp::Hz P::e1::r
def Yc(P:Params)(r:List Obj):List Obj:=ES::F4::Ig::e1::e2::uS::e1::EF::qY::uP::e1::e2::qX::e1::ET::rA::oY::e1::e2::vh::e1::HP::rH::pZ::r
def Zc(P:Params)(r:List Obj):List Obj:=rV::uz P::qZ::o7::tZ::su 506::bs 506::e1::e2::uM::e1::Jk::vd::r_::e1::e2::uC::e1::IL::pf::r6::e1::e2::sZ::r
def WD(P:Params)(r:List Obj):List Obj:=e1::JP::vp::rX::e1::e2::vO::e1::Ja::qH::rT::e1::e2::F0::qg::qN::e1::e2::qQ::e1::Ff::tR::uH::e1::r
def XR(P:Params)(r:List Obj):List Obj:=e2::qc::e1::Kd::oE::vj::e1::e2::J_::rW::pW::e1::bp::Fq P::e1::IE::Eu::IM::e1::e2::vv::e1::JY::wb::r
def Yz(P:Params)(r:List Obj):List Obj:=qm::e1::e2::sJ::e1::IP::rg::pq::e1::e2::tK::e1::Hy::pN::ve::qI::u9 P::tM::rN::pK::su 593::bs 593::e1::e2::r
def XH(P:Params)(r:List Obj):List Obj:=pI::e1::Hn::pM::uY::e1::e2::uK::e1::FK::v3::tL::e1::e2::oO::e1::GW::vy::uv::e1::e2::HQ::qy::vb::r
def XY(P:Params)(r:List Obj):List Obj:=e1::e2::uA::e1::IJ::oX::tI::e1::e2::G1::rG::pz::e1::e2::pO::e1::IZ::se::rK::e1::e2::DE::p_::qb::r
def YL(P:Params)(r:List Obj):List Obj:=e1::e2::wg::e1::E3::oZ::tV::e1::e2::vi::e1::E_::pB::tE::e1::e2::pE::e1::IY::uq::uB::r
def Hf(P:Params):Heap:=⟨⟨h_0 P (h_1 P (h_2 P (h_3 P (h_4 P (h_5 P (h_6 P (h_7 P (h_8 P (h_9 P (XM P (Xd P (WT P (XC P (Yt P (X_ P (Xj P (YY P (Xy P (X9 P (Yc P (Zc P (WD P (XR P (Yz P (XH P (XY P (YL P ([]))))))))))))))))))))))))))))⟩,li⟩
def Sf(w:World)(os:OsState):Shared:=⟨Hf w.params,⟨[]⟩,boot_drawn,1159,os⟩
def Fin(w:World):Prop:=(λos=>topRun treeTable pw w 11 an 2 (Zx w os).abs ⟨doneF .next,cE,⟨423,0,439,57⟩,B⟩)=λos=>some (Sf w os)
def q:Program:={ pw with main:={ pw.main with body:=My.top 0::My.top 2::My.top 3::My.top 4::My.top 5::My.top 6::My.top 7::My.top 9::My.top 10::My.top 11::My.top 12::My.top 13::My.top 15::My.top 16::My.top 17::My.top 18::My.top 19::My.top 20::My.top 21::My.top 22::My.top 24::My.top 25::My.top 26::My.top 28::My.top 29::My.top 30::My.top 31::My.top 32::My.top 33::My.top 35::My.top 36::My.top 37::My.top 38::My.top 39::My.top 40::My.top 41::My.top 43::My.top 44::My.top 45::My.top 46::My.top 47::My.top 48::My.top 50::My.top 51::My.top 53::My.top 54::My.top 55::My.top 56::My.top 58::My.top 59::My.top 60::My.top 61::My.top 62::My.top 63::My.top 64::My.top 65::My.top 66::My.top 67::My.top 68::[] } }
section
local macro_rules | `(term| $n:num) => `(nat_lit $n)
def K(P:Params):Frag:=(2,boot_o_2 P)::(3,Li P)::(4,boot_o_4 P)::(15,e1)::(17,Ap)::(18,e1)::(20,BE)::(21,Be)::(22,tu #[.type "ValueError"])::(29,e1)::(30,As P)::(31,Aa)::(32,Bp)::(35,tu #[.ref 31])::(42,e1)::(43,An P)::(44,BF)::(47,tu #[.ref 31])::(54,e1)::(56,z_)::(57,e1)::(59,AE)::(60,Az)::(61,AW)::(62,z6 P)::(63,Aq)::(66,tu #[.ref 31])::(73,e1)::(75,AR)::(76,e1)::(78,A4)::(79,z7)::(80,Bq)::(81,AS P)::(82,Bn)::(85,tu #[.ref 31])::(92,e1)::(94,Bl)::(95,e1)::(97,AD)::(98,Ae)::(99,Br)::(100,oQ P)::(101,uJ)::(104,tu #[.ref 31])::(111,e1)::(113,tJ)::(114,e1)::(116,uW)::(117,rj)::(118,rQ)::(119,sI P)::(120,p7)::(123,e1)::(125,sS)::(126,e1)::(128,tU)::(129,sr)::(130,e1)::(132,tf)::(133,e1)::(135,qM)::(136,qE)::(137,e1)::(139,oM)::(140,e1)::(142,si)::(143,o8)::(144,e1)::(146,qC)::(147,e1)::(149,oB)::(150,qT)::(151,e1)::(153,qp)::(154,e1)::(156,vX)::(157,ua)::(165,e1)::(167,o_)::(168,e1)::(170,uu)::(171,vL)::(172,e1)::(174,sN)::(175,e1)::(177,vf)::(178,tT)::(179,e1)::(181,pQ)::(182,e1)::(184,qz)::(185,vQ)::(186,e1)::(188,oz)::(189,e1)::(191,qB)::(192,qO)::(193,e1)::(195,vT)::(196,e1)::(198,vz)::(199,vZ)::(200,uh)::(201,wu P)::(202,sQ)::(203,vN)::(204,p8)::(207,tu #[.ref 202])::(214,e1)::(216,qk)::(217,e1)::(219,ud)::(220,pV)::(221,e1)::(223,rO)::(224,e1)::(226,tS)::(227,rR)::(228,e1)::(229,qd P)::(230,o6)::(233,tu #[.ref 202])::(240,e1)::(242,tP)::(243,e1)::(245,r8)::(246,qG)::(247,e1)::(249,qR)::(250,e1)::(252,rL)::(253,sM)::(254,e1)::(255,oH P)::(256,tQ)::(259,tu #[.ref 202])::(266,e1)::(268,oK)::(269,e1)::(271,tX)::(272,vS)::(273,e1)::(275,uE)::(276,e1)::(278,um)::(279,qW)::(280,e1)::(281,qD P)::(282,u_)::(285,tu #[.ref 202])::(292,e1)::(294,oS)::(295,e1)::(297,vc)::(298,uR)::(299,e1)::(301,ur)::(302,e1)::(304,qx)::(305,oR)::(306,e1)::(308,rE)::(309,e1)::(311,sU)::(312,vq)::(313,e1)::(315,pU)::(316,e1)::(318,uw)::(319,qA)::(320,e1)::(321,pd P)::(322,vR)::(325,tu #[.ref 202])::(332,e1)::(334,vx)::(335,e1)::(337,sO)::(338,rM)::(339,e1)::(341,ql)::(342,e1)::(344,pL)::(345,rJ)::(346,e1)::(348,qj)::(349,e1)::(351,oN)::(352,rq)::(353,e1)::(355,v8)::(356,e1)::(358,pD)::(359,uQ)::(360,e1)::(361,oJ P)::(362,rP)::(365,e1)::(367,oA)::(368,e1)::(370,qP)::(371,pY)::(372,e1)::(375,vm)::(376,rS)::(377,e1)::(380,wq)::(381,sy)::(382,e1)::(385,o9)::(386,oV)::(387,e1)::(390,vB)::(391,vo)::(392,e1)::(395,rD)::(396,qL)::(397,e1)::(400,p6)::(401,wc)::(402,e1)::(404,ph)::(405,e1)::(407,sX)::(408,oF)::(409,e1)::(412,qK)::(413,sV)::(414,e1)::(416,p9)::(417,e1)::(419,vK)::(420,vH)::(421,e1)::(424,uZ)::(425,qF)::(426,e1)::(428,pP)::(429,e1)::(431,tY)::(432,vV)::(433,e1)::(435,uI)::(436,e1)::(438,pH)::(439,oy)::(440,e1)::(443,wz)::(444,qU)::(445,e1)::(448,qt)::(449,vP)::(450,e1)::(452,uU)::(453,e1)::(455,pA)::(456,q_)::(457,e1)::(459,vA)::(460,e1)::(462,tN)::(463,u0)::(464,e1)::(467,oW)::(468,vY)::(469,e1)::(471,uc)::(472,e1)::(474,qh)::(475,qS)::(483,e1)::(485,uS)::(486,e1)::(488,qY)::(489,uP)::(490,e1)::(492,qX)::(493,e1)::(495,rA)::(496,oY)::(497,e1)::(499,vh)::(500,e1)::(502,rH)::(503,pZ)::(504,rV)::(505,uz P)::(506,qZ)::(507,o7)::(508,tZ)::(511,e1)::(513,uM)::(514,e1)::(516,vd)::(517,r_)::(518,e1)::(520,uC)::(521,e1)::(523,pf)::(524,r6)::(525,e1)::(527,sZ)::(528,e1)::(530,vp)::(531,rX)::(532,e1)::(534,vO)::(535,e1)::(537,qH)::(538,rT)::(539,e1)::(542,qg)::(543,qN)::(544,e1)::(546,qQ)::(547,e1)::(549,tR)::(550,uH)::(551,e1)::(553,qc)::(554,e1)::(556,oE)::(557,vj)::(558,e1)::(561,rW)::(562,pW)::(570,e1)::(572,vv)::(573,e1)::(575,wb)::(576,qm)::(577,e1)::(579,sJ)::(580,e1)::(582,rg)::(583,pq)::(584,e1)::(586,tK)::(587,e1)::(589,pN)::(590,ve)::(591,qI)::(592,u9 P)::(593,tM)::(594,rN)::(595,pK)::(598,e1)::(600,pI)::(601,e1)::(603,pM)::(604,uY)::(605,e1)::(607,uK)::(608,e1)::(610,v3)::(611,tL)::(612,e1)::(614,oO)::(615,e1)::(617,vy)::(618,uv)::(619,e1)::(622,qy)::(623,vb)::(624,e1)::(626,uA)::(627,e1)::(629,oX)::(630,tI)::(631,e1)::(634,rG)::(635,pz)::(636,e1)::(638,pO)::(639,e1)::(641,se)::(642,rK)::(643,e1)::(646,p_)::(647,qb)::(648,e1)::(650,wg)::(651,e1)::(653,oZ)::(654,tV)::(655,e1)::(657,vi)::(658,e1)::(660,pB)::(661,tE)::(662,e1)::(664,pE)::(665,e1)::(667,uq)::(668,uB)::[]
end
def K2(P:Params):Frag:=K P
section
local macro_rules | `(term| $n:num) => `(nat_lit $n)
def as:List Addr:=2::3::4::15::17::18::20::21::22::29::30::31::32::35::42::43::44::47::54::56::57::59::60::61::62::63::66::73::75::76::78::79::80::81::82::85::92::94::95::97::98::99::100::101::104::111::113::114::116::117::118::119::120::123::125::126::128::129::130::132::133::135::136::137::139::140::142::143::144::146::147::149::150::151::153::154::156::157::165::167::168::170::171::172::174::175::177::178::179::181::182::184::185::186::188::189::191::192::193::195::196::198::199::200::201::202::203::204::207::214::216::217::219::220::221::223::224::226::227::228::229::230::233::240::242::243::245::246::247::249::250::252::253::254::255::256::259::266::268::269::271::272::273::275::276::278::279::280::281::282::285::292::294::295::297::298::299::301::302::304::305::306::308::309::311::312::313::315::316::318::319::320::321::322::325::332::334::335::337::338::339::341::342::344::345::346::348::349::351::352::353::355::356::358::359::360::361::362::365::367::368::370::371::372::375::376::377::380::381::382::385::386::387::390::391::392::395::396::397::400::401::402::404::405::407::408::409::412::413::414::416::417::419::420::421::424::425::426::428::429::431::432::433::435::436::438::439::440::443::444::445::448::449::450::452::453::455::456::457::459::460::462::463::464::467::468::469::471::472::474::475::483::485::486::488::489::490::492::493::495::496::497::499::500::502::503::504::505::506::507::508::511::513::514::516::517::518::520::521::523::524::525::527::528::530::531::532::534::535::537::538::539::542::543::544::546::547::549::550::551::553::554::556::557::558::561::562::570::572::573::575::576::577::579::580::582::583::584::586::587::589::590::591::592::593::594::595::598::600::601::603::604::605::607::608::610::611::612::614::615::617::618::619::622::623::624::626::627::629::630::631::634::635::636::638::639::641::642::643::646::647::648::650::651::653::654::655::657::658::660::661::662::664::665::667::668::[]
end
def H:Hook:=kHook K as (λ_=>by kernel_rfl)
abbrev R:WRecords:=RowW.records (OpenRow.toRowW (OpenLaw.row PySem.Challenge.rw_joinload_k95_whole_not_taken_is_nothing))
abbrev Xt(s:Shared):Bool:=xlAt q [] s&&recOk R s
def SY(w:World):Prop:=((boot_heap w.params).isNs mainGlobals&&(⟨[]⟩:Array GenState).size == 0,(boot_heap w.params).objs.size,(boot_heap w.params).nsMap mainGlobals "__annotations__")=(true,11,an)
def LA(w:World):Prop:=(λos=>staticsOk (importedModules pw.main.body) (boot_heap w.params) (Hf w.params)&&namesBound pw (Hf w.params)&&gensDone (Sf w os)&&laidKept (boot_heap w.params) (Hf w.params))=λ_=>true
def Ls1(w:World):Prop:=(λos=>seen ((recsOf q).map (·.name)) (ownsOf q) [] { Sf w os with gens:=#[] })=λ_=>expectedOf q
def ZV(w:World):Prop:=(λos=>(Sf w os).heap.bltView)=λ_=>bltViewBooted
def ZD(w:World):Prop:=(λos=>(Sf w os).heap.keysOk (looseW q []) ((recsOf q).map (·.name)) ((litsOf q).map (·.1)) ((clssOf q (looseW q [])).map (·.name))&&(Sf w os).heap.accountedOkI (importedModules pw.main.body)&&(Sf w os).heap.isNs mainGlobals&&(Sf w os).heap.isNs builtinsNs&&tablesOk q (Sf w os).heap&&Xt (Sf w os)&&(if true then (Sf w os).gens.size == 0 else !leftWithCleanup (Sf w os).gens))=λ_=>true
def ZF(w:World):Prop:=(λos=>tabsOk q (Sf w os))=λ_=>true
def Ls5(w:World):Prop:=(λos=>pinSeenD q (drecsOf q) (Sf w os))=λ_=>pinGoodD (drecsOf q)
def Zm(w:World):Prop:=(λos=>plainSeenE q (looseW q []) (Sf w os))=λ_=>plainGoodE q (looseW q [])
def Z_(w:World):Prop:=(λos=>plainSeenD q [] (Sf w os))=λ_=>plainGoodD q []
def Z6(w:World):Prop:=(λos=>wideSeen q (Sf w os))=λ_=>wideGood q
def Zy(w:World):Prop:=(λos=>clsSeenW q [] (Sf w os))=λ_=>clsGoodW q []
def Yk(w:World):Prop:=(λos=>as.map (Sf w os).heap.get?)=λ_=>(K2 w.params).map λp=>some p.2
theorem Ye:K=K2:=by kernel_rfl
end Hd
namespace Hd
open PySem PySem.W PySem.Calls PyProof.Rows
theorem TV(w:World):Pre w:=by
 delta Pre
 kernel_rfl
theorem SO(w:World):Zn w:=by
 delta Zn
 kernel_rfl
theorem YQ(w:World):P0 w:=by
 delta P0
 kernel_rfl
theorem WZ(w:World):P1 w:=by
 delta P1
 kernel_rfl
theorem X1(w:World):P2 w:=by
 delta P2
 kernel_rfl
theorem W4(w:World):P3 w:=by
 delta P3
 kernel_rfl
theorem Zd(w:World):P4 w:=by
 delta P4
 kernel_rfl
theorem XG(w:World):P5 w:=by
 delta P5
 kernel_rfl
theorem WS(w:World):P6 w:=by
 delta P6
 kernel_rfl
theorem Tj(w:World):Fin w:=by
 delta Fin
 kernel_rfl
theorem QK(w:World):SY w:=by
 delta SY
 kernel_rfl
theorem Xv(w:World):LA w:=by
 delta LA
 kernel_rfl
theorem RK(w:World):Ls1 w:=by
 delta Ls1
 kernel_rfl
theorem UN(w:World):ZV w:=by
 delta ZV
 kernel_rfl
theorem Us(w:World):ZD w:=by
 delta ZD
 kernel_rfl
theorem Te(w:World):ZF w:=by
 delta ZF
 kernel_rfl
theorem Vi(w:World):Ls5 w:=by
 delta Ls5
 kernel_rfl
theorem T_(w:World):Zm w:=by
 delta Zm
 kernel_rfl
theorem UO(w:World):Z_ w:=by
 delta Z_
 kernel_rfl
theorem TZ(w:World):Z6 w:=by
 delta Z6
 kernel_rfl
theorem US(w:World):Zy w:=by
 delta Zy
 kernel_rfl
theorem Yw(w:World):Yk w:=by
 delta Yk
 kernel_rfl
def R6:List Stmt:=L6++[]
def R5:List Stmt:=L5++R6
def R4:List Stmt:=L4++R5
def R3:List Stmt:=L3++R4
def R2:List Stmt:=L2++R3
def R1:List Stmt:=L1++R2
def R0:List Stmt:=L0++R1
theorem Ue:bd=R0:=by kernel_rfl
theorem Qp(w:World)(os:OsState):topRun treeTable pw w 11 an (687+(892+(662+(559+(892+(899+(733+2))))))) (YR w os).abs (restOf R0 en cE ⟨0,0,0,0⟩ B)=some (Sf w os):=
 (piece_app (l:=L0) (segRun_of (congrFun (YQ w) os)) (piece_app (l:=L1) (segRun_of (congrFun (WZ w) os)) (piece_app (l:=L2) (segRun_of (congrFun (X1 w) os)) (piece_app (l:=L3) (segRun_of (congrFun (W4 w) os)) (piece_app (l:=L4) (segRun_of (congrFun (Zd w) os)) (piece_app (l:=L5) (segRun_of (congrFun (XG w) os)) (piece_app (l:=L6) (segRun_of (congrFun (WS w) os)) (congrFun (Tj w) os))))))))
theorem UR(w:World)(os:OsState):topRun treeTable pw w 11 an (12+(1+(687+(892+(662+(559+(892+(899+(733+2))))))))) (S0 w os) (topStub pw)=some (Sf w os):=
 go_top (congrFun (TV w) os) (piece_block (congrFun (SO w) os) (by
  rw[show restOf bd en cE ⟨0,0,0,0⟩ B=restOf R0 en cE ⟨0,0,0,0⟩ B from congrArg (λl=>restOf l en cE ⟨0,0,0,0⟩ B) Ue]
  exact Qp w os))
theorem YO(w:World)(os:OsState):Hook.obs H (Sf w os)=Hook.val H w:=by
 show as.map (Sf w os).heap.get?='*'.map λp=>some p.2
 rw[Ye];exact congrFun (Yw w) os
theorem Qc:LeftO pw q [] Xt (Hook.obs H) (Hook.val H) 10760:=
 LeftO.of_pieces (H₀:=boot_heap) (H₁:=Hf) (m₀:=11) (ann:=an) (boot_open rfl rfl (λ_=>rfl)) QK UR 'e' λw=>funext λos=>
  looks_pair (congrFun (Xv w) os) (looks_pair
   (show openSeen q [] (importedModules pw.main.body) Xt true (Sf w os)=openGood q [] from
    looks_pair (congrFun (RK w) os) (looks_pair (congrFun (UN w) os) (looks_pair (congrFun (Us w) os) (looks_pair (congrFun (Te w) os) (looks_pair (congrFun (Vi w) os) (looks_pair (congrFun (T_ w) os) (looks_pair (congrFun (UO w) os) (looks_pair (congrFun (TZ w) os) (congrFun (US w) os)))))))))
   (YO w os))
end Hd
open PySem PySem.W PyProof.Rows
set_option maxRecDepth 100000 in
set_option maxHeartbeats 0 in
theorem PySem.Challenge.cw_joinload_k95_whole_not_taken_is_nothing_holds : PySem.Challenge.rw_joinload_k95_whole_not_taken_is_nothing.Holds := by
 w_on;refine holds_law Ws.wSa λsaid=>?_
 refine holds_open (q:=Hd.q) (loose:=[]) (Xt:=Hd.Xt) (XP:=XL Hd.q []) (Yf:=Hook.obs Hd.H) (Ya:=Hook.val Hd.H) (YP:=InK Hd.K) Hd.Qc (Hook.of Hd.H) (Hook.keeps Hd.H) (λs e=>xl_of s (Bool.and_eq_true_iff.mp e).1) XL.keeps (by rfl) (by rfl) (by rfl) (λs e=>recFacts_of (Bool.and_eq_true_iff.mp e).2) (by rfl) (by first|assumption|decide +kernel) 'e' ⟨rfl,rfl,rfl,rfl,rfl,by decide +kernel⟩ ?hw ?hc
 (case hw=>w_witness2)
 k_fill
 refine My.walk (l:=PySem.Challenge.rw_joinload_k95_whole_not_taken_is_nothing) (K:=Hd.K) (bf:=434) (aK:=465) rfl rfl (by decide) (λw h Y=>Y) ?hT ?F
 case hT=>
  intro w h lo mean mg mb KX TP T hT
  simp only[List.mem_cons,List.not_mem_nil,or_false]at hT
  rcases hT with rfl|rfl
  ·refine' L2.EG (x := "names_of") (y := "names_of") (st:=My.EZ) (T:=434) KX TP (by kernel_rfl) _ _ _
   all_goals first|exact⟨_,_,_,_,_,_,_,_,_,by k_is,by k_is,by k_is,by kernel_rfl⟩|k_is|kernel_rfl|skip
  ·refine' L2.EG (x := "taken") (y := "taken") (st:=My.wt) (T:=465) KX TP (by kernel_rfl) _ _ _
   all_goals first|exact⟨_,_,_,_,_,_,_,_,_,by k_is,by k_is,by k_is,by kernel_rfl⟩|k_is|kernel_rfl|skip
 case F=>
  intro w mg fa h KX G hmg
  refine' My.QE (bf:=434) (aK:=465) hmg ⟨_,_,_,_,_,_,_,_,_,_,_,_,_,_,_,_,_,_,_,_,_,_,_,_,_,_,_,_,_,_,_,_,_,_,_,_,_,_,_,_,_,_,_,_,_,_,_,_,_,_,_,_,_,_,_,_,_,_,_,_,_,_,_,_,_,_,_,_,_,_,_,_,_,_,_,_,_,_,_,_,_,_,_,_,_,_,_,_,_,_,_,_,_,_,_,_,_,_,_,_,_,_,_,_,_,_,_,_,_,_,_,_,_,_,_,_,_,_,_,_,_,_,_,_,_,_,_,_,_,_,_,_,_,_,_,_,_,_,_,_,_,_,_,_,_,_,_,_,_,_,_,_,_,_,_,_,_,_,_,_,_,_,_,_,_,_,_,_,_,_,_,_,_,_,_,_,_,_,_,_,_,_,_,_,_,_,_,_,_,_⟩ (λ_ _=>_)
  all_goals try dsimp only
  all_goals first|exact PySem.W.mg_of KX G (by k_is)|exact PySem.W.mg_none_of KX G (by k_is)|k_is|(refine My.Sb (by k_is) (by k_is) (by k_is) ?_;intro _ _ _ _ _ _ us hl;first|exact My.Lg us hl λ_=>rfl|exact My.WY us hl λ_ _=>rfl|exact My.W5 us hl λ_ _ _=>rfl|exact My.Q3 us hl λ_ _ _ _=>rfl|exact My.Xz us hl λ_ _ _ _ _=>rfl|exact My.Xu us hl λ_ _ _ _ _ _=>rfl)|exact⟨by k_is,by k_is,by k_is,by k_is⟩|exact⟨by k_is,by k_is,by k_is⟩|kernel_rfl|kit_is|k_exc|exact⟨by kernel_rfl,by kernel_rfl,by k_is,by k_is⟩|exact⟨by kernel_rfl,by kernel_rfl,by k_is⟩|(show PySem.W.findIn _ _ _=some none;k_is)|exact⟨_,_,PySem.W.mg_of KX G (by k_is),by decide,by decide,by k_is⟩|exact⟨_,rfl,by kernel_rfl⟩|exact .of_eq rfl|skip
#print axioms PySem.Challenge.cw_joinload_k95_whole_not_taken_is_nothing_holds
