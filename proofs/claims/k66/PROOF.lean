import PyProof.Rows.All
import Wide.All
import OpenK.AllK
import Wide.FinOn
import Lean
import PyProof.EqAt
import PyProof.EqKinds
import PyProof.TupleCall
import PyProof.StationsW
import PyProof.ExcAttrAll.ValueError
import KE.KIsAll
import PyProof.RulesAs
import PyProof.NsDelKeeps
import PyProof.FString
import PyProof.FString4
import PyProof.Rows.FStr
import PyProof.Rows.FStrParts
import PyProof.StrCalls2
import PyProof.StrLawsRepr
import PyProof.StrLawsJoin
import PyProof.StrLaws
import PyProof.Rows.ReprOcc
import PyProof.ExcInit
import PyProof.InstStoreFacts
import KE.KDictOf
import PyProof.AttrMissHeap
import PyProof.AttrMissSeq
import PyProof.WalksS
import PyProof.Walks
import PyProof.Seq
import PyProof.DictList
import PyProof.DictUpdate
import PyProof.MakeMany
import PyProof.Rows.SetFrom
import PyProof.ZipIter
import PyProof.Rows.TupDisplay
import PyProof.EnumFor
import PyProof.EnumMake
import PyProof.EnumStmt
import PyProof.SeqI3
import PyProof.Rows.SumAny
import KE.KDictIter
import PyProof.DictWalks
import PyProof.StrLawsChain
import PyProof.StrLawsTight
import KE.KIntText
import PyProof.CallType
import PyProof.Rows.CallKwBuiltin
import PyProof.Draws
import PyProof.DefCall
import PyProof.SetKind
import PyProof.DictKinds
import PyProof.CollectWalk
import PyProof.FactsAll.set
import PyProof.DictIter
import PyProof.FactsTree
import PyProof.CollectStr
import KE.KDictLaws
import PyProof.Rows.SortShellK
import PyProof.Rows.SortWalk
import PyProof.Rows.StrNews2
import KE.KRevIter
import PyProof.ListNew
import PyProof.ListRange
import PyProof.WalkInts
import KE.KLam
import KE.KSortKey
import PyProof.AutoSeq1
import PyProof.ListIndex
import PyProof.DictRoadsH
import PySem.Challenge.RW_joinload_k66_not_made_by_names
open Lean.Parser.Command in
local macro_rules
 | `(command| def $i:declId $s:optDeclSig $v:declVal) => if v.raw[1].isOfKind ``Lean.Parser.Term.byTactic then `(command| theorem $i:declId $(⟨.node .none ``declSig #[s.raw[0],s.raw[1][0]]⟩):declSig $v:declVal) else `(command| noncomputable def $i:declId $s:optDeclSig $v:declVal)
 | `(command| abbrev $i:declId $s:optDeclSig $v:declVal) => `(command| noncomputable abbrev $i:declId $s:optDeclSig $v:declVal)
local macro_rules | `(s!$x) => match x.raw[0].isInterpolatedStrLit? with | some s => `(PySem.Str.ofString $(Lean.quote s)) | none => Lean.Macro.throwUnsupported
set_option genInjectivity false
set_option compiler.extract_closed false
abbrev Wf:=PySem.W.Frag
abbrev Vs:=PySem.Value->PySem.Shared->Prop
abbrev Lo:=List (PySem.Addr×PySem.Obj)
abbrev So:=PySem.Str->Option PySem.Value
open PySem.W (instObj lookIn plainGet hasDictIn findIn handedIn plainGet_of isFn plainOver takerIn makesIn emptyDict keepIn specialIn takesIn mroIn kitOne kia_one kitx_list kitx_dict callWith_K methodCall_KW cellsFrom_some fnOf codeIn instIn clsIn looks_mroIn notCls isNs_of_in KdkAt tabObj codeHdIn kla_obj codeHd_of_K kla_fn)
abbrev aD := @List.length_map
abbrev aB := @PySem.wpAny_bind
abbrev aV := @List.map_append
abbrev aK := @List.mem_map
abbrev bU := @List.mem_singleton
abbrev cV := @PySem.Heap.get?_push_of_some
abbrev cw := @List.length_append
abbrev bT := @List.mem_append
abbrev fA := @List.getElem?_eq_some_iff
abbrev dZ := @List.mem_of_getElem?
abbrev bp := @PySem.wpAny_pure
abbrev eD := @List.mem_append_left
abbrev eW := @List.mem_append_right
abbrev bJ := @Nat.le_refl
abbrev fC := @Option.map_eq_some_iff
abbrev cy := @PySem.Heap.lt_size
abbrev jw := @List.getElem?_eq_getElem
abbrev fU := @List.mem_flatMap
abbrev iL := @PySem.Heap.get?_push_size
abbrev eP := @List.mem_cons
abbrev jQ := @List.mem_cons_of_mem
abbrev d9 := @List.map_map
abbrev i4 := @List.size_toArray
abbrev g9 := @List.take_length
abbrev i6 := @List.nodup_append
abbrev d6 := @Nat.zero_le
abbrev kA := @Nat.lt_of_lt_of_le
abbrev fu := @Nat.ne_of_lt
abbrev fF := @Nat.le_trans
abbrev gY := @List.take_succ
abbrev i_ := @List.nodup_cons
abbrev mm := @List.mem_cons_self
abbrev iS := @List.map_cons
abbrev u6 := @List.getElem?_append_left
abbrev lA := @List.length_take
abbrev lH := @Bool.and_eq_true
abbrev l_ := @List.getElem?_map
abbrev oJ := @List.flatMap_append
abbrev n8 := @Bool.false_ne_true
abbrev vM := @List.mem_of_find?_eq_some
abbrev zc := @List.getElem?_append_right
abbrev zM := @List.getD_eq_getElem?_getD
abbrev nZ := @List.any_eq_true
abbrev n9 := @List.append_nil
abbrev k9 := @Nat.lt_irrefl
abbrev oY := @List.length_cons
abbrev xh := @List.map_congr_left
abbrev tD := @List.append_assoc
abbrev Au := @List.length_filter_le
abbrev A0 := @PySem.Heap.get?_update_other
abbrev Gi := @List.pairwise_iff_getElem
abbrev AV := @PySem.Heap.get?_update_self
abbrev jV := @PySem.wpAny_mono
abbrev yA := @List.filter_append
abbrev sV := @List.mem_filter
abbrev AX := @Array.length_toList
abbrev uB := @PySem.wpAny_holding
abbrev Aw := @List.getElem_mem
abbrev Hu := @List.length_singleton
abbrev AS := @Nat.lt_succ_self
abbrev HP := @List.getElem?_of_mem
abbrev Gs := @List.find?_eq_none
abbrev GS := @List.getElem_of_mem
abbrev Gj := @PySem.wpAny_newObj_type
abbrev Kl := @List.take_append_drop
abbrev Gp := @PySem.wpAny_askSetting
abbrev O0 := @Array.getElem?_eq_some_iff
abbrev HA := @PySem.wpAny_setState_of
abbrev Il := @List.flatMap_cons
abbrev K7 := @PySem.Heap.get?_update_ne
abbrev CB := @List.nodup_nil
abbrev xS := @Nat.le_succ
abbrev QE := @List.take_append_of_le_length
abbrev Pe := @Int.eq_ofNat_of_zero_le
abbrev Gg := @PySem.Heap.size_push
abbrev JH := @Nat.lt_succ_of_lt
abbrev J7 := @List.pairwise_map
abbrev IF := @List.find?_some
abbrev JO := @PySem.wpAny_call_entry
abbrev Ng := @PySem.wpAny_Call_Name_kw
abbrev LS := @List.map_singleton
abbrev RR := @Array.getElem?_eq_getElem
abbrev MM := @Option.isSome_map
abbrev KU := @List.find?_cons
abbrev Jy := @Bool.eq_iff_iff
abbrev Q5 := @PySem.wpAny_callSpecial?_slot
abbrev NZ := @List.cons_append
abbrev Ks := @PySem.wpAny_setField
abbrev Je := @List.mem_range
abbrev Pd := @List.append_of_mem
abbrev N_ := @PySem.wpAny_passesOwn
abbrev Gr := @List.not_lt
abbrev OS := @PySem.wpAny_truthy_bool
abbrev Kq := @PySem.wpAny_attempt
abbrev OX := @Nat.le_succ_of_le
abbrev OW := @List.length_drop
abbrev O2 := @List.getElem_map
abbrev Rt := @PySem.wpAny_setEntries_of
abbrev GJ := @PySem.wpAny_field
abbrev RA := @List.replicate_succ
abbrev PN := @List.length_pos_iff
abbrev Gm := @PySem.wpAny_call
abbrev TK := @Option.isSome_iff_exists
abbrev Jw := @Nat.le_of_lt
abbrev Ji := @List.le_refl
abbrev Le := @List.any_map
abbrev OV := @PySem.wpAny_execs_nil
abbrev O6 := @List.sum_append
abbrev O1 := @List.foldl_cons
abbrev RK := @Int.natCast_nonneg
abbrev TH := @List.take_of_length_le
abbrev Qb := @PySem.wpAny_loadPart_at
abbrev Sv := @Nat.lt_trichotomy
abbrev RJ := @List.find?_append
abbrev Qx := @Int.toNat_natCast
abbrev OQ := @List.find?_map
abbrev Td := @Array.getElem?_toList
abbrev QR := @Nat.le_add_right
abbrev Sk := @List.filter_cons
abbrev TL := @List.mem_of_mem_take
abbrev O4 := @List.any_cons
abbrev Ll := @PySem.wpAny_rule
set_option hygiene false in
local macro_rules
|`('a')=>`((hr.mono (by decide)))
|`('b')=>`((model prog w))
|`('c')=>`((model X.prog X.w))
|`('d')=>`((by rw[aD,sizeLine_eq];omega))
|`('e')=>`((by decide +kernel))
|`('f')=>`(((flat xs).map ao))
|`('g')=>`((by walk_at "n"))
|`('i')=>`((s.heap.objs.size+1))
|`('j')=>`((by intro z;cases z))
|`('k')=>`((Addr×List aj))
|`('m')=>`((bj I q (by simp)))
|`('n')=>`((s1.trans s2))
|`('o')=>`((.builtin "object.__class__"))
|`('r')=>`((tx K (pv 0)))
|`('s')=>`((bs.map Value.ref))
|`('x')=>`((.builtin "BaseException.__getattribute__"))
|`('D')=>`((.type "object"))
|`('E')=>`((ss.map V.str))
|`('O')=>`((.ref s.heap.objs.size))
section
private def og(x:Lean.Syntax):Bool:=x[0].getHeadInfo matches .original ..
local macro_rules(kind:=Lean.Parser.Term.tuple)
 |x=>do if og x then if let `(($a,$b,*)):=x then return<-`(⟨$a,$b,*⟩)
        Lean.Macro.throwUnsupported
local macro_rules(kind:=Lean.Parser.Term.anonymousCtor)
 |x=>do if og x then if let a::b::l:=x[1].getSepArgs.toList then return<-`(($(⟨a⟩),$(.ofElems ((b::l).map (⟨·⟩)).toArray),*))
        Lean.Macro.throwUnsupported
private def pq:Nat->Lean.Syntax->Lean.MacroM (Lean.TSyntax `rcasesPat)
 |0,_=>Lean.Macro.throwUnsupported
 |n+1,p=>do
  let f(xs:Array Lean.Syntax):=do
   let q<-xs.mapM λx=>do `(Lean.Parser.Tactic.rcasesPatLo| $(<-pq n x):rcasesPat)
   `(rcasesPat| ⟨$q,*⟩)
  match p with
  |`(($a,$b,*))=>f (#[a.raw]++b.getElems.map (·.raw))
  |`(⟨$b,*⟩)=>f (b.getElems.map (·.raw))
  |`($x:ident)=>`(rcasesPat| $x:ident)
  |_=>`(rcasesPat| _)
local macro_rules|`(tactic| let $p:term := $e)=>do `(tactic| obtain $(<-pq 9 p):rcasesPat := $e)
namespace Ws
open PySem PySem.W PyProof.Rows
set_option maxRecDepth 100000
set_option genSizeOfSpec false
set_option maxHeartbeats 0
theorem gE(h:xs.all id=true->a=true):(b::xs).all id=true->(a&&b)=true:=λe=>by
 rw[List.all_cons,lH]at e;rw[h e.2];exact e.1
theorem XC:[a].all id=true->a=true:=λe=>by simpa using e
def vB{xs:List Bool}(n:Nat)(a:(xs.take n).all id=true)(b:(xs.drop n).all id=true):xs.all id=true:=by
 rw[<-Kl n xs,List.all_append,a,b];rfl
noncomputable def wPs(l:OpenLaw):{ ps:List Bool // ps.all id=true->l.wellSaid=true }:=by
 unfold OpenLaw.wellSaid;exact(_,gE (gE (gE (gE (gE (gE (gE (gE (gE (gE (gE (gE (gE (gE (gE (gE (gE (gE (gE (gE (gE (gE (gE (gE (gE (gE (gE (gE (gE (gE (gE (gE (gE (gE (gE (gE (gE (gE (gE (XC))))))))))))))))))))))))))))))))))))))))
abbrev wX:List Bool:=(wPs PySem.Challenge.rw_joinload_k66_not_made_by_names).1
def Yn:((wX).take 5).all id=true:=by kernel_rfl
def Yt:((wX.drop 5).take 5).all id=true:=by kernel_rfl
def X5:(((wX.drop 5).drop 5).take 5).all id=true:=by kernel_rfl
def X6:((((wX.drop 5).drop 5).drop 5).take 5).all id=true:=by kernel_rfl
def XB:(((((wX.drop 5).drop 5).drop 5).drop 5).take 5).all id=true:=by kernel_rfl
def X0:((((((wX.drop 5).drop 5).drop 5).drop 5).drop 5).take 5).all id=true:=by kernel_rfl
def X7:(((((((wX.drop 5).drop 5).drop 5).drop 5).drop 5).drop 5).take 5).all id=true:=by kernel_rfl
def Yr:(((((((wX.drop 5).drop 5).drop 5).drop 5).drop 5).drop 5).drop 5).all id=true:=by kernel_rfl
theorem X1:PySem.Challenge.rw_joinload_k66_not_made_by_names.wellSaid=true:=(wPs _).2 (vB 5 Yn (vB 5 Yt (vB 5 X5 (vB 5 X6 (vB 5 XB (vB 5 X0 (vB 5 X7 (Yr))))))))
end Ws
set_option Elab.async false
set_option linter.all false
set_option maxRecDepth 100000
namespace L2
open PySem PySem.Spec PyProof.Rows
abbrev Key:=Sum Int Str
def keyIs:Key->Value->Bool
 |.inl k,v=>Value.isInt k v
 |.inr x,v=>Value.isStrOf x v
def keyH(w:World):Key->Int
 |.inl k=>hashInt k
 |.inr x=>hashStr w x
theorem oy:∀{k:Key}{v:Value},keyIs k v=true->(∃i t,k=Sum.inl i/\v=Value.int i t)\/(∃x t,k=Sum.inr x/\v=Value.str x t)
 |.inl i,v,h=>by
  let(t,e):=Value.isInt_shape h;exact .inl (i,t,rfl,e)
 |.inr x,v,h=>by
  let(t,e):=Value.isStrOf_shape h;exact .inr (x,t,rfl,e)
def AB(i:Int)(t:Tok):keyIs (.inl i) (.int i t)=true:=by simp[keyIs,Value.isInt]
def zR(x:Str)(t:Tok):keyIs (.inr x) (.str x t)=true:=by simp[keyIs,Value.isStrOf]
def Nc(a b:Int):decide ((Sum.inl a:Key)=Sum.inl b)=(a == b):=by grind
def Om(a b:Str):decide ((Sum.inr a:Key)=Sum.inr b)=decide (a=b):=by simp_all
theorem MT(a:Int)(b:Str):decide ((Sum.inl a:Key)=Sum.inr b)=false:=decide_eq_false (λq=>nomatch q)
theorem MK(a:Str)(b:Int):decide ((Sum.inr a:Key)=Sum.inl b)=false:=decide_eq_false (λq=>nomatch q)
def bu(prog:Program)(w:World):PySem.KeyKind prog w Key where
 is:=keyIs
 hash:=keyH w
 inj:=λv a b ha hb=>by
  rcases oy ha with ⟨i,t,rfl,rfl⟩|⟨x,t,rfl,rfl⟩
  ·rcases oy hb with ⟨j,u,rfl,e⟩|⟨y,u,rfl,e⟩
   ·injection e with e1 _;rw[e1]
   ·exact nomatch e
  ·rcases oy hb with ⟨j,u,rfl,e⟩|⟨y,u,rfl,e⟩
   ·exact nomatch e
   ·injection e with e1 _;rw[e1]
 byValue:=λk v h=>by
  rcases oy h with ⟨i,t,rfl,rfl⟩|⟨x,t,rfl,rfl⟩<;>rfl
 pyHash:=λhv h=>by
  rcases oy hv with ⟨i,t,rfl,rfl⟩|⟨x,t,rfl,rfl⟩
  ·exact wpAny_pyHash_int h
  ·exact wpAny_pyHash_str h
 eqBool:=λhu hv h=>by
  rcases oy hu with ⟨i,t,rfl,rfl⟩|⟨x,t,rfl,rfl⟩
  ·rcases oy hv with ⟨j,u,rfl,rfl⟩|⟨y,u,rfl,rfl⟩
   ·rw[Nc]at h;exact wpAny_eqBool_int h
   ·rw[MT]at h;exact SeqAt.EqAt.int_str i t y u _ _ _ _ h
  ·rcases oy hv with ⟨j,u,rfl,rfl⟩|⟨y,u,rfl,rfl⟩
   ·rw[MK]at h;exact SeqAt.EqAt.str_int x t j u _ _ _ _ h
   ·rw[Om]at h;exact wpAny_eqBool_str h
 «strs»:=λk x t v h=>by
  rcases oy h with ⟨i,u,rfl,e⟩|⟨y,u,rfl,e⟩
  ·exact nomatch e
  ·injection e with e1 _;subst e1;cases v<;>rfl
theorem uS(prog:Program)(w:World)(i:Int)(t:Tok):(bu prog w).is (.inl i) (.int i t)=true:=AB i t
theorem tL(prog:Program)(w:World)(x:Str)(t:Tok):(bu prog w).is (.inr x) (.str x t)=true:=zR x t
set_option genInjectivity true in
inductive V where
 |bw|bl (b:Bool)|int (i:Int)|str (x:Str)|vb (b:Array UInt8)|Mr (b:UInt64)|ref (a:Addr)|ty (n:String)
 deriving DecidableEq
def RelV:V->Value->Prop
 |.bw,u=>u=Value.none
 |.bl b,u=>u=Value.bool b
 |.int i,u=>∃t,u=Value.int i t
 |.str x,u=>∃t,u=Value.str x t
 |.vb b,u=>∃t,u=Value.bytes b t
 |.Mr b,u=>∃t,u=Value.float b t
 |.ref a,u=>u=Value.ref a
 |.ty n,u=>u=Value.type n
abbrev Vals:List V->List Value->Prop:=Paired RelV
theorem Vals.length{xs:List V}{us:List Value}(r:Vals xs us):xs.length=us.length:=Paired.length r
theorem Vals.get:∀{xs:List V}{us:List Value}{i:Nat}{x:V},Vals xs us->xs[i]?=some x->∃u,us[i]?=some u/\RelV x u
 |_,_,_,_,.nil,e=>by simp at e
 |_,_,0,_,.cons r _,e=>by simp at e;subst e;exact(_,rfl,r)
 |_,_,i+1,x,.cons _ t,e=>by
  let(u,h1,h2):=Vals.get t e;exact(u,by simpa using h1,h2)
theorem Vals.append:∀{xs ys:List V}{us ws:List Value},Vals xs us->Vals ys ws->Vals (xs++ys) (us++ws)
 |_,_,_,_,.nil,s=>s
 |_,_,_,_,.cons r t,s=>.cons r (Vals.append t s)
theorem Vals.take:∀{xs:List V}{us:List Value}(n:Nat),Vals xs us->Vals (xs.take n) (us.take n)
 |_,_,0,_=>.nil
 |_,_,_+1,.nil=>.nil
 |_,_,n+1,.cons r t=>.cons r (Vals.take n t)
theorem Vals.drop:∀{xs:List V}{us:List Value}(n:Nat),Vals xs us->Vals (xs.drop n) (us.drop n)
 |_,_,0,r=>r
 |_,_,_+1,.nil=>.nil
 |_,_,n+1,.cons _ t=>Vals.drop n t
def eX:Option V->Option Value->Prop
 |some v,some u=>RelV v u
 |none,none=>True
 |_,_=>False
def KV{κ:Type}:List (κ×V)->List (κ×Value)->Prop:=Paired λ(p:κ×V) (q:κ×Value)=>p.1=q.1/\RelV p.2 q.2
def kV:Key->V
 |.inl i=>.int i
 |.inr x=>.str x
set_option genInjectivity true in
inductive HO where
  |lst (xs:List V)
  |tup (xs:List V)
  |dK (kvs:List (Key×V))|dT (kvs:List (List Key×V))
  |set (S:Int->Bool) (n:Nat)
  |ins (C dx:Addr) (fs:List (Str×V))
  |own (x:Addr)
  |xd (fs:List (Str×V))
  |met (f x:Addr)
  |S_ (lo hi:Int)
  |g7 (o:Obj) (u:HO)
  |i3 (ps:Array Value)
  |ext (φ:Heap->Prop)
abbrev Hp:=Addr->Option HO
def upd(H:Hp)(a:Addr)(o:HO):Hp:=λb=>if b=a then some o else H b
def ax:upd H a o a=some o:=by unfold upd;rw[if_pos rfl]
def ae(h:b≠a):upd H a o b=H b:=by unfold upd;rw[if_neg h]
def IY:upd (upd H a o) a u=upd H a u:=by
 funext b;unfold upd;split<;>rfl
def bA{H:Hp}{a b:Addr}{o u:HO}(h:H a=some o)(h':H b=some u)(d:o≠u):a≠b:=by
 intro e;subst e;rw[h]at h';exact d (Option.some.inj h')
def bD{H:Hp}{a b:Addr}{o:HO}(h:H a=some o)(h':H b=none):a≠b:=by grind
section
variable(P:Program)(w:World)
def bS(H:Hp)(h:Heap)(a:Addr):HO->Prop
 |.lst xs=>xs.length<=sizeLine/\∃(its:List Value) (n:Nat),Vals xs its/\h.get? a=some { cls:=.type "list", data:=.seq its.toArray n }
 |.tup xs=>xs.length<=sizeLine/\∃its:List Value,Vals xs its/\IsTup h a its.toArray
 |.dK kvs=>kvs.length<=sizeLine/\(a == sysModules)=false/\∃vs,KV kvs vs/\h.DictOf (bu P w) a vs
 |.dT kvs=>kvs.length<=sizeLine/\(a == sysModules)=false/\∃xs:List (List Key×Addr×Value),
   Paired (λ(p:List Key×V) (q:List Key×Addr×Value)=>p.1=q.1/\H q.2.1=some (.tup (p.1.map kV))/\RelV p.2 q.2.2) kvs xs/\
   ∃o es ep,h.get? a=some o/\o.ExactDict/\o.data=.dict es ep/\es.toList=xs.map (entryOfKey (tupleKind (bu P w)))/\(xs.map (·.1)).Nodup
 |.set S n=>h.SetOf (intKind P w) a S n
 |.ins C dx fs=>H dx=some (.own a)/\fs.length<=1000/\dx≠a/\h.get? a=some (instObj C dx)/\
   ∃mA,h.Ns1 dx mA/\(∀f,eX (fs.lookup f) (mA f))/\PySem.Within mA (fs.map (·.1))
 |.own _=>∃o,h.get? a=some o
 |.xd fs=>∃mA,h.Ns1 a mA/\∀f,eX (fs.lookup f) (mA f)
 |.S_ lo hi=>∃t u v,h.get? a=some { cls:=.type "range", data:=.fields #[.int lo t,.int hi u,.int 1 v] }
 |.g7 o u=>h.get? a=some o/\bS H h a u
 |.i3 ps=>h.get? a=some { cls:=.none,data:=.fields ps }
 |.met f x=>h.get? a=some (PySem.W.methodObj (.ref f) (.ref x))
 |.ext φ=>φ h/\(∃o,h.get? a=some o)/\∀h1 h2:Heap,φ h1->(∀o,h1.get? a=some o->h2.get? a=some o)->φ h2
def gA(H:Hp)(h:Heap):Prop:=∀a o,H a=some o->bS P w H h a o
end
section
variable{P:Program}{w:World}{H H':Hp}{h h':Heap}{a:Addr}{o:HO}
def bS.lt(x:bS P w H h a o):a<h.objs.size:=by
 cases o with
 |lst xs=>let(_,_,_,_,e):=x;exact cy e
 |tup xs=>let(_,_,_,p):=x;exact p.lt
 |dK kvs=>let(_,_,_,_,o,_,_,e,_):=x;exact cy e
 |dT kvs=>let(_,_,_,_,o,_,_,e,_):=x;exact cy e
 |set S n=>let(o,_,_,_,e,_):=x;exact cy e
 |ins C dx fs=>let(_,_,_,e,_):=x;exact cy e
 |own y=>let(_,e):=x;exact cy e
 |xd fs=>let(_,(_,_,_,e,_),_):=x;exact cy e
 |S_ lo hi=>let(_,_,_,e):=x;exact cy e
 |g7 ob u=>let(e,_):=x;exact cy e
 |i3 ps=>exact cy x
 |met f y=>exact cy x
 |ext φ=>let(_,(_,e),_):=x;exact cy e
theorem Paired.Ly{α β:Type}{F G:α->β->Prop}:∀{l₁:List α}{l₂:List β},Paired F l₁ l₂->(∀a b,F a b->G a b)->Paired G l₁ l₂
 |_,_,.nil,_=>.nil
 |_,_,.cons r t,f=>.cons (f _ _ r) (Paired.Ly t f)
def bS.gU(x:bS P w H h a o)(k:∀b u,(b=a\/H b=some (.own a))->h.get? b=some u->h'.get? b=some u)
  (ho:∀b,H b=some (.own a)->H' b=some (.own a)) (ht:∀b xs,H b=some (.tup xs)->H' b=some (.tup xs)):bS P w H' h' a o:=by
 induction o with
 |lst xs=>let(z,its,n,r,e):=x;exact(z,its,n,r,k _ _ (.inl rfl) e)
 |tup xs=>let(z,its,r,ob,e,c):=x;exact(z,its,r,ob,k _ _ (.inl rfl) e,c)
 |dK kvs=>let(z,y,vs,r,ob,es,ep,e,c):=x;exact(z,y,vs,r,ob,es,ep,k _ _ (.inl rfl) e,c)
 |dT kvs=>
  let(z,y,xs,r,ob,es,ep,e,c):=x;exact(z,y,xs,Paired.Ly r λp q z=>(z.1,ht _ _ z.2.1,z.2.2),ob,es,ep,k _ _ (.inl rfl) e,c)
 |set S n=>let(ob,es,ep,t,e,c):=x;exact(ob,es,ep,t,k _ _ (.inl rfl) e,c)
 |ins C dx fs=>
  let(d,z,ne,e,mA,(od,es,ep,e2,c),r):=x;exact(ho _ d,z,ne,k _ _ (.inl rfl) e,mA,(od,es,ep,k _ _ (.inr d) e2,c),r)
 |own y=>let(ob,e):=x;exact(ob,k _ _ (.inl rfl) e)
 |xd fs=>let(mA,(od,es,ep,e,c),r):=x;exact(mA,(od,es,ep,k _ _ (.inl rfl) e,c),r)
 |S_ lo hi=>let(t,u,v,e):=x;exact(t,u,v,k _ _ (.inl rfl) e)
 |g7 ob u ih=>let(e,q):=x;exact(k _ _ (.inl rfl) e,ih q)
 |i3 ps=>
  have e:=x;exact k a _ (.inl rfl) e
 |met f y=>
  have e:=x;exact k a _ (.inl rfl) e
 |ext φ=>let(p,(o,e),st):=x;exact(st _ _ p λo q=>k _ _ (.inl rfl) q,(o,k _ _ (.inl rfl) e),st)
theorem gA.lt(x:gA P w H h)(e:H a=some o):a<h.objs.size:=(x a o e).lt
def gA.fresh(x:gA P w H h)(e:h.objs.size<=a):H a=none:=by
 cases q:H a with
 |none=>rfl
 |some u=>exact absurd (kA (x.lt q) e) (k9 _)
theorem gA.kept(x:gA P w H h)(k:∀b u,h.get? b=some u->h'.get? b=some u):gA P w H h':=λa o e=>
 (x a o e).gU (λb u _ q=>k b u q) (λ_ q=>q) λ_ _ q=>q
theorem gA.laid(x:gA P w H h)(k:∀b u,h.get? b=some u->h'.get? b=some u)(hp:h.objs.size<=a)(new:bS P w (upd H a o) h' a o):gA P w (upd H a o) h':=λb u e=>by
 have hn:=x.fresh hp;by_cases hb:b=a
 ·subst hb;rw[ax]at e;cases e;exact new
 ·rw[ae hb]at e;exact(x b u e).gU (λc v _ q=>k c v q) (λc q=>(ae (bD q hn))▸q) λc xs q=>(ae (bD q hn))▸q
end
def Rd(H:Hp)(a:Addr)(u:HO):Prop:=H a=some u\/∃o,H a=some (.g7 o u)
def Rd.ok{P:Program}{w:World}{H:Hp}{h:Heap}{a:Addr}{u:HO}(r:Rd H a u)(x:gA P w H h):bS P w H h a u:=by
 rcases r with r|⟨o,r⟩
 ·exact x a u r
 ·let(_,q):=x a _ r;exact q
def Q9:Option HO->Prop
 |some (.lst _)=>True
 |some (.dK _)=>True
 |some (.dT _)=>True
 |some (.set _ _)=>True
 |some (.ins _ _ _)=>True
 |some (.ext _)=>True
 |_=>False
section
variable{P:Program}{w:World}{H:Hp}{h h':Heap}{x e:Addr}{o':HO}
theorem gA.write(ok:gA P w H h)(mu:Q9 (H x))(he:e=x\/H e=some (.own x))(k:∀b u,b≠e->h.get? b=some u->h'.get? b=some u)(heo:∃u,h'.get? e=some u)
  (new:bS P w (upd H x o') h' x o'):gA P w (upd H x o') h':=λb u q=>by
 have nown:∀c y,H c=some (.own y)->c≠x:=λc y r z=>by subst z;rw[r]at mu;exact mu
 have ntup:∀c xs,H c=some (.tup xs)->c≠x:=λc xs r z=>by subst z;rw[r]at mu;exact mu
 by_cases hb:b=x
 ·subst hb;rw[ax]at q;cases q;exact new
 ·rw[ae hb]at q;by_cases hbe:b=e
  ·have q':H b=some (.own x):=by
    rcases he with z|z
    ·exact absurd (hbe.trans z) hb
    ·rw[hbe];exact z
   rw[q]at q';cases q';let(v,hv):=heo;exact(v,hbe▸hv)
  ·refine(ok b u q).gU (λc v hc r=>k c v ?_ r) (λc r=>(ae (nown c b r))▸r) λc xs r=>(ae (ntup c xs r))▸r;rcases hc with rfl|hc
   ·exact hbe
   ·grind
end
structure Un(fs ex:List Addr)(H H':Hp)(h h':Heap):Prop where
 keep:∀b o,h.get? b=some o->H b=none->b∉fs->b∉ex->h'.get? b=some o
 slot:∀b o,h.get? b=some o->H b=none->b∈fs->b∉ex->∃sl,h'.get? b=some { o with slots:=sl }
 free:∀b o,h.get? b=some o->H b=none->b∉ex->H' b=none
 there:∀b o,h.get? b=some o->b∉ex->∃o',h'.get? b=some o'
 jZ:∀b xs,H b=some (.tup xs)->H' b=some (.tup xs)
 jt:∀b o u,H b=some (.g7 o u)->H' b=some (.g7 o u)
 jd:∀b ps,H b=some (.i3 ps)->∃more,H' b=some (.i3 (ps++more))
section
variable{fs fs' ex ex':List Addr}{H H1 H2:Hp}{h h1 h2 h':Heap}{a x e:Addr}{o:HO}
def Un.any(u:Un fs ex H H1 h h1){b:Addr}{ob:Obj}(q:h.get? b=some ob)(n:H b=none)(hx:b∉ex):∃sl,h1.get? b=some { ob with slots:=sl }:=by
 by_cases hb:b∈fs
 ·exact u.slot b ob q n hb hx
 ·exact(ob.slots,u.keep b ob q n hb hx)
theorem Un.kept(k:∀b u,h.get? b=some u->h'.get? b=some u):Un fs ex H H h h':=
 (λb ob q _ _ _=>k b ob q,λb ob q _ _ _=>(ob.slots,k b ob q),λ_ _ _ n _=>n,λb ob q _=>(ob,k b ob q),λ_ _ q=>q,λ_ _ _ q=>q,λ_ ps q=>(#[],by rw[q];simp))
theorem Un.refl:Un fs ex H H h h:=Un.kept λ_ _ q=>q
theorem Un.laid(k:∀b u,h.get? b=some u->h'.get? b=some u)(hp:h.objs.size<=a)(hn:H a=none):Un fs ex H (upd H a o) h h' where
 keep:=λb u q _ _ _=>k b u q
 slot:=λb u q _ _ _=>(u.slots,k b u q)
 free:=λb u q n _=>(ae (fu (kA (cy q) hp)))▸n
 there:=λb u q _=>(u,k b u q)
 jZ:=λb xs q=>(ae (bD q hn))▸q
 jt:=λb u xs q=>(ae (bD q hn))▸q
 jd:=λb ps q=>(#[],by rw[ae (bD q hn),q];simp)
def Un.write(mu:Q9 (H x))(he:e=x\/H e=some (.own x))(k:∀b u,b≠e->h.get? b=some u->h'.get? b=some u)(heo:∃u,h'.get? e=some u):Un fs ex H (upd H x o) h h':=by
 have hx:∀b,H b=none->b≠x:=λb n z=>by subst z;rw[n]at mu;exact mu
 have hb:∀b,H b=none->b≠e:=λb n z=>by
  subst z;rcases he with r|r
  ·exact hx b n r
  ·rw[n]at r;cases r
 have hm:∀b u,H b=some u->¬Q9 (some u)->b≠x:=λb u q nm z=>by subst z;rw[q]at mu;exact nm mu
 refine(λb u q n _ _=>k b u (hb b n) q,λb u q n _ _=>(u.slots,k b u (hb b n) q),λb u q n _=>(ae (hx b n))▸n,λb u q _=>?_,
  λb xs q=>(ae (hm b _ q λz=>z))▸q,λb u xs q=>(ae (hm b _ q λz=>z))▸q,λb ps q=>(#[],by rw[ae (hm b _ q λz=>z),q];simp))
 by_cases hbe:b=e
 ·subst hbe;exact heo
 ·exact(u,k b u hbe q)
end
def u7(h:Heap)(H:Hp):List Addr:=(List.range h.objs.size).filter λa=>(H a).isSome
def uM(h:Heap)(H:Hp):Heap:=PySem.W.hideAll h (u7 h H)
theorem AL(h:Heap)(H:Hp):(uM h H).objs.size=h.objs.size:=PySem.W.hideAll_size _ _
theorem DY(e:h.get? b=some o)(n:H b=none):(uM h H).get? b=some o:=
 PySem.W.hideAll_get _ e λhm=>by
  have q:=(sV.mp hm).2;rw[n]at q;simp at q
def IM(e:(uM h H).get? b=some o):h.get? b=some o/\H b=none:=by
 have e':=PySem.W.of_hideAll (u7 h H) e;refine(e',?_);cases q:H b with
 |none=>rfl
 |some x=>
  have hm:b∈u7 h H:=sV.mpr (Je.mpr (cy e'),by simp[q]);have z:(uM h H).get? b=none:=PySem.W.hideAll_none (u7 h H) hm;rw[z]at e;cases e
def G_(g h:Heap)(L:Addr):Lo:=(List.range h.objs.size).filterMap λa=>if a=L\/(g.get? a).isSome=true then none else (h.get? a).map λo=>⟨a,o⟩
def rest(g h:Heap)(L d:Addr):Lo:=(G_ g h L).filter λp=>decide (p.1≠d)
structure Mod(K:Wf)(mg:So)(base:Heap):Prop where
 IA:K.In base
 glob:base.Ns mainGlobals mg
 blt:∃mb,base.Ns builtinsNs mb/\∀x:Str,x ≠ "__name__" -> mb x=bootBuiltins x
 nolimit:base.NoLimit
structure Cx where
 prog:Program
 w:World
 K:Wf
 mg:Str->Option Value
 base:Heap
 A:Around
 N:List Str
 s₀:Shared
 H₀:Hp
 env:Env
 outer:List Env
 stack:List Env
 ex:List Addr
 fn:Str->Bool
 calm:Bool
 pn:Lo
 xe:Value->Shared->Prop
def lK(l:List Env):List Addr:=l.filterMap (·.frame)
abbrev Cx.fs(X:Cx):List Addr:=lK X.outer
def Uw(sc:Scope)(x:Str):Prop:=sc.names.lookup x=some .local\/sc.names.lookup x=some .cell\/sc.names.lookup x=some .free
def Loc(sc:Scope)(x:Str):Prop:=sc.names.lookup x=some .local\/sc.names.lookup x=some .cell
def Look(env:Env)(h:Heap)(m:So)(x:Str)(u:Value):Prop:=
 (env.kindOf x=some .local/\m x=some u)\/((env.kindOf x=some .cell\/env.kindOf x=some .free)/\∃c,env.cells.lookup x=some c/\h.IsCell c (some u))
structure Cx.Ok(X:Cx):Prop where
 mod:Mod X.K X.mg X.base
 kind:X.env.scope.kind=.function
 glob:X.env.globals=mainGlobals
 blt:X.env.builtins=builtinsNs
 above:X.s₀.heap.objs.size<=X.env.locals
 inj:∀x y c,X.env.cells.lookup x=some c->X.env.cells.lookup y=some c->x=y
 has:∀x,(X.env.kindOf x=some .cell\/X.env.kindOf x=some .free)->∃c,X.env.cells.lookup x=some c
 LD:∀x c,X.fn x=true->X.env.cells.lookup x=some c->X.s₀.heap.objs.size<=c
 hd:X.calm=true->X.A.handled=none
 frames:X.A.frames=some X.stack
 G0:X.stack=X.outer\/(X.stack=X.env::X.outer/\X.env.frame=some X.env.locals)
 O7:∀b∈X.ex,b≠X.env.locals/\∀x c,X.env.cells.lookup x=some c->c≠b
 bs:∀b o,X.base.get? b=some o->X.s₀.heap.get? b=some o/\X.H₀ b=none
 A2:X.base.objs.size<=X.s₀.heap.objs.size
 xp:∀b o,X.base.get? b=some o->b∉X.ex
 uT:∀b∈X.ex,b∉X.fs
 ju:X.s₀.heap.FunFrames X.base X.outer
 Gh:∀b∈X.fs,X.H₀ b=none
structure Inv(X:Cx)(pins:Lo)(Z:List (Option V))(H:Hp)(s:Shared):Prop where
 ok:X.Ok
 os:s.os=X.s₀.os
 bare:AllBare s.gens
 base:Un X.fs X.ex X.H₀ H X.s₀.heap s.heap
 loc:∃m,s.heap.Ns X.env.locals m/\∀(i:Nat) (x:Str) (v:V),X.N[i]?=some x->Z[i]?=some (some v)->Uw X.env.scope x->∃u,RelV v u/\Look X.env s.heap m x u
 cell:∀x c,X.env.cells.lookup x=some c->∃v,s.heap.IsCell c v
 free:H X.env.locals=none
 fE:∀x c,X.env.cells.lookup x=some c->H c=none
 pin:∀p∈X.pn++pins,s.heap.get? p.1=some p.2/\H p.1=none/\p.1≠X.env.locals/\p.1∉X.fs/\∀v,p.2.data≠.cell v
 aP:gA X.prog X.w H s.heap
 len:Z.length=X.N.length
section
variable{X:Cx}{pins:Lo}{Z:List (Option V)}{H H':Hp}{s:Shared}{h':Heap}
theorem Cx.Ok.UM(ok:X.Ok){b:Addr}{o:Obj}(e:X.base.get? b=some o):b∉X.fs:=λhb=>by
 have:=(ok.ju.mem hb).1;rw[e]at this;cases this
theorem Inv.bs(I:Inv X pins Z H s):∀b o,X.base.get? b=some o->s.heap.get? b=some o/\H b=none:=λb o e=>
 (I.base.keep b o (I.ok.bs b o e).1 (I.ok.bs b o e).2 (I.ok.UM e) (I.ok.xp b o e),I.base.free b o (I.ok.bs b o e).1 (I.ok.bs b o e).2 (I.ok.xp b o e))
theorem Inv.bk(I:Inv X pins Z H s):∀b o,X.base.get? b=some o->s.heap.get? b=some o:=λb o e=>(I.bs b o e).1
theorem Inv.mod(I:Inv X pins Z H s):Mod X.K X.mg X.base:=I.ok.mod
theorem Inv.gG(I:Inv X pins Z H s):X.K.In s.heap:=I.ok.mod.IA.keeps I.bk
theorem Inv.lt(I:Inv X pins Z H s):X.env.locals<s.heap.objs.size:=let (_,hn,_):=I.loc;hn.lt
theorem Inv.sz(I:Inv X pins Z H s):X.s₀.heap.objs.size<=s.heap.objs.size:=fF I.ok.above (Jw I.lt)
theorem Inv.QB(I:Inv X pins Z H s){a:Addr}(h:s.heap.objs.size<=a):a∉X.fs:=λhb=>by
 let(_,o,ho,_):=I.ok.ju.mem hb;exact absurd (kA (cy ho) (fF I.sz h)) (k9 _)
theorem Inv.A9(I:Inv X pins Z H s):∀x c,X.env.cells.lookup x=some c->c≠X.env.locals:=λx c e z=>by
 let(v,o,ho,hd):=I.cell x c e;let(m,(o',es,ep,ho',hd',_),_):=I.loc;rw[z,ho']at ho;cases ho;rw[hd']at hd;cases hd
def Inv.ju(I:Inv X pins Z H s):s.heap.FunFrames X.base X.outer:=by
 have all:∀l,(∀b∈lK l,b∈X.fs)->X.s₀.heap.FunFrames X.base l->s.heap.FunFrames X.base l:=by
  intro l
  induction l with
  |nil=>intro _ _;trivial
  |cons env r ih=>
   intro hs hl;let(hk,(L,o,hf,hn,ho,hd),hr):=hl;have hL:=hs L (by unfold lK;rw[List.filterMap_cons,hf];exact List.mem_cons_self);let(sl,e):=I.base.slot L o ho (I.ok.Gh L hL) hL λz=>I.ok.uT L z hL;exact(hk,(L,_,hf,hn,e,hd),ih (λb hb=>hs b (by unfold lK;rw[List.filterMap_cons,hf];exact List.mem_cons_of_mem _ hb)) hr)
 exact all X.outer (λ_ hb=>hb) I.ok.ju
def Inv.stack(I:Inv X pins Z H s):s.heap.FunFrames X.base X.stack:=by
 rcases I.ok.G0 with e|⟨e,hf⟩
 ·rw[e];exact I.ju
 ·rw[e];let(m,hn,_):=I.loc;exact .cons (by rw[I.ok.kind];decide) hf hn (Heap.get?_none_of_le (fF I.ok.A2 I.ok.above)) I.ju
theorem Inv.rV(I:Inv X pins Z H s):∀b∈lK X.stack,b∈X.env.locals::X.fs:=λb hb=>by
 rcases I.ok.G0 with e|⟨e,hf⟩
 ·rw[e]at hb;exact jQ _ hb
 ·rw[e]at hb;unfold lK at hb;rw[List.filterMap_cons,hf]at hb;exact hb
theorem Inv.lW(I:Inv X pins Z H s):∀b∈lK X.stack,H b=none:=λb hb=>by
 rcases eP.mp (I.rV b hb) with e|hb
 ·rw[e];exact I.free
 ·let(_,o,ho,_):=I.ok.ju.mem hb;exact I.base.free b o ho (I.ok.Gh b hb) λz=>I.ok.uT b z hb
def Inv.step{g':Array GenState}{t':Nat}{d':Drawn}{ch:List Addr}(I:Inv X pins Z H s)
  (hch:∀b∈ch,(b∈X.ex\/X.s₀.heap.objs.size<=b)/\b≠X.env.locals/\(∀x c,X.env.cells.lookup x=some c->c≠b)/\∀p∈X.pn++pins,p.1≠b)
  (keep:∀b o,b≠X.env.locals->b∉X.fs->b∉ch->s.heap.get? b=some o->H b=none->h'.get? b=some o)
  (slot:∀b o,b≠X.env.locals->b∈X.fs->b∉ch->s.heap.get? b=some o->H b=none->∃sl,h'.get? b=some { o with slots:=sl }) (free:∀b o,b∉ch->s.heap.get? b=some o->H b=none->H' b=none)
  (there:∀b o,b∉ch->s.heap.get? b=some o->∃o',h'.get? b=some o')
  (jZ:∀b xs,H b=some (.tup xs)->H' b=some (.tup xs)) (jt:∀b o u,H b=some (.g7 o u)->H' b=some (.g7 o u)) (jd:∀b ps,H b=some (.i3 ps)->∃more,H' b=some (.i3 (ps++more)))
  (ns:∀m,s.heap.Ns X.env.locals m->h'.Ns X.env.locals m) (aP:gA X.prog X.w H' h') (hg:AllBare g'):
  Inv X pins Z H' { s with heap:=h',gens:=g',drawn:=d',toks:=t' }:=by
 have neL:∀b o,X.s₀.heap.get? b=some o->b≠X.env.locals:=λb o e=>fu (kA (cy e) I.ok.above);have neC:∀b o,X.s₀.heap.get? b=some o->b∉X.ex->b∉ch:=λb o e hx hb=>by
  rcases (hch b hb).1 with z|z
  ·exact hx z
  ·exact absurd (kA (cy e) z) (k9 _)
 have cellK:∀x c,X.env.cells.lookup x=some c->∀v,s.heap.IsCell c v->h'.IsCell c v:=λx c e v (o,ho,hd)=>by
  have nch:=λz=>(hch c z).2.2.1 x c e rfl;by_cases hc:c∈X.fs
  ·let(sl,q):=slot c o (I.A9 x c e) hc nch ho (I.fE x c e);exact(_,q,hd)
  ·exact(o,keep c o (I.A9 x c e) hc nch ho (I.fE x c e),hd)
 refine(I.ok,I.os,hg,(λb o e n hb hx=>?_,λb o e n hb hx=>?_,λb o e n hx=>?_,λb o e hx=>?_,λb xs e=>jZ b xs (I.base.jZ b xs e),λb o xs e=>jt b o xs (I.base.jt b o xs e),λb ps e=>?_),?_,λx c e=>?_,?_,λx c e=>?_,λp hp=>?_,aP,I.len)
 ·exact keep b o (neL b o e) hb (neC b o e hx) (I.base.keep b o e n hb hx) (I.base.free b o e n hx)
 ·let(sl,e1):=I.base.slot b o e n hb hx;let(sl',e2):=slot b _ (neL b o e) hb (neC b o e hx) e1 (I.base.free b o e n hx);exact(sl',e2)
 ·let(o',e1):=I.base.there b o e hx;exact free b o' (neC b o e hx) e1 (I.base.free b o e n hx)
 ·let(o',e1):=I.base.there b o e hx;exact there b o' (neC b o e hx) e1
 ·let(m1,e1):=I.base.jd b ps e;let(m2,e2):=jd b _ e1;exact(m1++m2,by rw[e2,Array.append_assoc])
 ·let(m,hn,hl):=I.loc;refine(m,ns m hn,λi x v e1 e2 e3=>?_);let(u,r,l):=hl i x v e1 e2 e3;refine(u,r,?_);rcases l with l|⟨k,c,e,z⟩
  ·exact .inl l
  ·exact .inr (k,c,e,cellK x c e _ z)
 ·let(v,z):=I.cell x c e;exact(v,cellK x c e v z)
 ·let(m,(o,_,_,ho,_),_):=I.loc;exact free _ o (λz=>(hch _ z).2.1 rfl) ho I.free
 ·let(v,o,ho,hd):=I.cell x c e;exact free c o (λz=>(hch c z).2.2.1 x c e rfl) ho (I.fE x c e)
 ·let(e,n,ne,nf,d):=I.pin p hp;have nch:=λz=>(hch p.1 z).2.2.2 p hp rfl;exact(keep p.1 p.2 ne nf nch e n,free p.1 p.2 nch e n,ne,nf,d)
def Inv.un(I:Inv X pins Z H s)(u:Un X.fs [] H H' s.heap h')(aP:gA X.prog X.w H' h'):Inv X pins Z H' { s with heap:=h',toks:=t' }:=by
 let(m,(o,es,ep,ho,r),_):=id I.loc;let(sl,hL):=u.any ho I.free (by simp);exact I.step (ch:=[]) (λ_ z=>nomatch z) (λb o _ hb _ e n=>u.keep b o e n hb (by simp)) (λb o _ hb _ e n=>u.slot b o e n hb (by simp)) (λb o _ e n=>u.free b o e n (by simp)) (λb o _ e=>u.there b o e (by simp)) u.jZ u.jt u.jd (λm' hm=>by
  let(o',es',ep',ho',r'):=hm;rw[ho]at ho';cases ho';exact(_,es',ep',hL,r')) aP I.bare
def Inv.call(I:Inv X pins Z H s)(u:Un (lK X.stack) ch H H' s.heap h')(aP:gA X.prog X.w H' h')(hg:AllBare g')
  (hch:∀b∈ch,(b∈X.ex\/X.s₀.heap.objs.size<=b)/\b≠X.env.locals/\(∀x c,X.env.cells.lookup x=some c->c≠b)/\∀p∈X.pn++pins,p.1≠b):
  Inv X pins Z H' { s with heap:=h',gens:=g',drawn:=d',toks:=t' }:=by
 let(m,(o,es,ep,ho,r),_):=id I.loc;let(sl,hL):=u.any ho I.free λz=>(hch _ z).2.1 rfl;exact I.step hch (λb o hL hb hc e n=>u.keep b o e n (λz=>(eP.mp (I.rV b z)).elim hL hb) hc) (λb o _ _ hc e n=>u.any e n hc) (λb o hc e n=>u.free b o e n hc) (λb o hc e=>u.there b o e hc) u.jZ u.jt u.jd (λm' hm=>by
  let(o',es',ep',ho',r'):=hm;rw[ho]at ho';cases ho';exact(_,es',ep',hL,r')) aP hg
def Inv.turned(I:Inv X pins Z H s)(k:∀b o,b≠it->s.heap.get? b=some o->h'.get? b=some o)(hn:H it=none)(hL:it≠X.env.locals)
  (h1:it∈X.ex\/X.s₀.heap.objs.size<=it) (h2:∀x c,X.env.cells.lookup x=some c->c≠it) (h3:∀p∈X.pn++pins,p.1≠it):Inv X pins Z H { s with heap:=h',toks:=t' }:=by
 have nit:∀b u,H b=some u->b≠it:=λb u e z=>by rw[z,hn]at e;cases e
 refine I.step (ch:=[it]) (λb hb=>?_) (λb o _ _ hc e _=>k b o (λz=>hc (by simp[z])) e) (λb o _ _ hc e _=>(o.slots,k b o (λz=>hc (by simp[z])) e)) (λ_ _ _ _ n=>n)
  (λb o hc e=>(o,k b o (λz=>hc (by simp[z])) e)) (λ_ _ e=>e) (λ_ _ _ e=>e) (λb ps e=>(#[],by rw[e];simp)) (λm hm=>?_) (λb u e=>?_) I.bare
 ·have e:=by simpa using hb
  subst e;exact(h1,hL,h2,h3)
 ·let(o,es,ep,ho,r):=hm;exact(o,es,ep,k _ o (Ne.symm hL) ho,r)
 ·refine(I.aP b u e).gU (λc v hc q=>k c v ?_ q) (λ_ q=>q) λ_ _ q=>q;rcases hc with z|z
  ·rw[z];exact nit b u e
  ·exact nit c _ z
theorem Inv.tok(I:Inv X pins Z H s)(t:Nat):Inv X pins Z H { s with toks:=t }:=I.un Un.refl I.aP
theorem Inv.kept(I:Inv X pins Z H s)(k:∀b u,s.heap.get? b=some u->h'.get? b=some u):Inv X pins Z H { s with heap:=h',toks:=t' }:=I.un (Un.kept k) (I.aP.kept k)
theorem Inv.laid{a:Addr}{o:HO}{t':Nat}(I:Inv X pins Z H s)(k:∀b u,s.heap.get? b=some u->h'.get? b=some u)(hp:s.heap.objs.size<=a)(new:bS X.prog X.w (upd H a o) h' a o):
  Inv X pins Z (upd H a o) { s with heap:=h',toks:=t' }:=I.un (Un.laid k hp (I.aP.fresh hp)) (I.aP.laid k hp new)
theorem Inv.write(I:Inv X pins Z H s)(mu:Q9 (H x))(he:e=x\/H e=some (.own x))(k:∀b u,b≠e->s.heap.get? b=some u->h'.get? b=some u)(heo:∃u,h'.get? e=some u)
  (new:bS X.prog X.w (upd H x o) h' x o):Inv X pins Z (upd H x o) { s with heap:=h',toks:=t' }:=I.un (Un.write mu he k heo) (I.aP.write mu he k heo new)
theorem Inv.weak(I:Inv X pins Z H s)(hl:σ'.length=Z.length)(w:∀(i:Nat) v,σ'[i]?=some (some v)->Z[i]?=some (some v)):Inv X pins σ' H s:=
 (I.ok,I.os,I.bare,I.base,let (m,hn,hl'):=I.loc;(m,hn,λi x v e1 e2 e3=>hl' i x v e1 (w i v e2) e3),I.cell,I.free,I.fE,I.pin,I.aP,hl.trans I.len)
theorem Inv.lT{pins':Lo}(I:Inv X pins Z H s)(h:∀p∈pins',s.heap.get? p.1=some p.2/\H p.1=none/\p.1≠X.env.locals/\p.1∉X.fs/\∀v,p.2.data≠.cell v):Inv X pins' Z H s:=
 (I.ok,I.os,I.bare,I.base,I.loc,I.cell,I.free,I.fE,λp hp=>(bT.mp hp).elim (λz=>I.pin p (eD _ z)) (h p),I.aP,I.len)
def mH{N:List Str}(hN:N.Nodup){i j:Nat}{x:Str}(a:N[i]?=some x)(b:N[j]?=some x):i=j:=by
 let(h1,e1):=fA.mp a;let(h2,e2):=fA.mp b;exact(List.getElem_inj hN).mp (e1.trans e2.symm)
def z9{M:Model}{A:Around}{E:Vs}{i:Nat}{x:Str}{v:V}{u:Value}{Q:Unit->Shared->Prop}(I:Inv X pins Z H s)(hN:X.N.Nodup)(hi:X.N[i]?=some x)(hx:Loc X.env.scope x)(r:RelV v u)
  (h:∀s',Inv X pins (Z.set i (some v)) H s'->(∃a,Heap.SameBut a s.heap s'.heap/\(a=X.env.locals\/X.env.cells.lookup x=some a))->Q () s') (hf:X.fn x=true\/X.env.scope.names.lookup x=some .local:=by first|exact .inl rfl|exact .inr rfl|assumption):wpAny M A (storeName X.env x u) Q E s:=by
 let(m,hn,hl):=id I.loc;have hcls:(X.env.scope.kind == .class || (X.env.scope.kind == .module&&X.env.locals != X.env.globals))=false:=by rw[I.ok.kind];rfl
 have hiZ:i<Z.length:=I.len▸(fA.mp hi).1;have A9:=I.A9;have tracked:∀{a:Addr}{h':Heap},(∃o,s.heap.get? a=some o/\H a=none)->Heap.SameBut a s.heap h'->gA X.prog X.w H h':=λ{a h'} ha hs b ob e=>by
  let(_,_,hfree):=ha;refine(I.aP b ob e).gU (λc w' hc q=>(hs.2 c ?_).trans q) (λ_ q=>q) λ_ _ q=>q;rintro rfl;rcases hc with rfl|hc
  ·rw[hfree]at e;cases e
  ·rw[hfree]at hc;cases hc
 rcases hx with hk|hk
 ·refine wpAny_storeName_local hk hn (λh' hn' hs=>?_) hcls;let(oL,_,_,hoL,_):=id hn;refine h _ (I.ok,I.os,I.bare,(λb o e n hb hx=>?_,λb o e n hb hx=>?_,I.base.free,λb o e hx=>?_,I.base.jZ,I.base.jt,I.base.jd),(_,hn',λj y v' e1 e2 e3=>?_),λy c e=>?_,I.free,I.fE,λp hp=>?_,tracked (oL,hoL,I.free) hs,by simpa using I.len) (_,hs,.inl rfl)
  ·exact (hs.2 b (fu (kA (cy e) I.ok.above))).trans (I.base.keep b o e n hb hx)
  ·let(sl,e1):=I.base.slot b o e n hb hx;exact(sl,(hs.2 b (fu (kA (cy e) I.ok.above))).trans e1)
  ·let(o',e1):=I.base.there b o e hx;exact(o',(hs.2 b (fu (kA (cy e) I.ok.above))).trans e1)
  ·by_cases hj:j=i
   ·subst hj;rw[hi]at e1;cases e1;rw[List.getElem?_set_self hiZ]at e2;cases e2;exact(u,r,.inl (hk,by simp))
   ·rw[List.getElem?_set_ne (Ne.symm hj)]at e2;let(u',r',q):=hl j y v' e1 e2 e3;refine(u',r',?_);rcases q with ⟨k,e⟩|⟨k,c,e,z⟩
    ·refine .inl (k,?_);have:y≠x:=λe=>hj (mH hN e1 (e▸hi));simp[this,e]
    ·exact .inr (k,c,e,z.sameBut hs (A9 y c e))
  ·let(w',z):=I.cell y c e;exact(w',z.sameBut hs (A9 y c e))
  ·let(e,n,ne,nf,d):=I.pin p hp;exact((hs.2 p.1 ne).trans e,n,ne,nf,d)
 ·have hfn:X.fn x=true:=by
   rcases hf with z|z
   ·exact z
   ·rw[z]at hk;cases hk
  let(c,hc):=I.ok.has x (.inl hk);let(w',z):=I.cell x c hc;refine wpAny_storeName_cell I.ok.kind hk hc z (λh' hc' hs=>?_);let(oc,hoc,hocd):=id z;refine h { s with heap:=h' } (I.ok,I.os,I.bare,(λb o e n hb hx=>?_,λb o e n hb hx=>?_,I.base.free,λb o e hx=>?_,I.base.jZ,I.base.jt,I.base.jd),(m,hn.sameBut hs (Ne.symm (A9 x c hc)),λj y v' e1 e2 e3=>?_),λy c' e=>?_,I.free,I.fE,λp hp=>?_,tracked (oc,hoc,I.fE x c hc) hs,by simpa using I.len) (c,hs,.inr hc)
  ·exact (hs.2 b (fu (kA (cy e) (I.ok.LD x c hfn hc)))).trans (I.base.keep b o e n hb hx)
  ·let(sl,e1):=I.base.slot b o e n hb hx;exact(sl,(hs.2 b (fu (kA (cy e) (I.ok.LD x c hfn hc)))).trans e1)
  ·let(o',e1):=I.base.there b o e hx;exact(o',(hs.2 b (fu (kA (cy e) (I.ok.LD x c hfn hc)))).trans e1)
  ·by_cases hj:j=i
   ·subst hj;rw[hi]at e1;cases e1;rw[List.getElem?_set_self hiZ]at e2;cases e2;exact(u,r,.inr (.inl hk,c,hc,hc'))
   ·rw[List.getElem?_set_ne (Ne.symm hj)]at e2;let(u',r',q):=hl j y v' e1 e2 e3;refine(u',r',?_);rcases q with q|⟨k,c',e,z'⟩
    ·exact .inl q
    ·refine .inr (k,c',e,z'.sameBut hs ?_);rintro rfl;exact hj (mH hN e1 (I.ok.inj _ _ _ e hc▸hi))
  ·by_cases hcc:c'=c
   ·subst hcc;exact(_,hc')
   ·let(w2,z2):=I.cell y c' e;exact(w2,z2.sameBut hs hcc)
  ·let(e,n,ne,nf,d):=I.pin p hp;refine((hs.2 p.1 ?_).trans e,n,ne,nf,d);intro q;rw[q,hoc]at e;have q':=Option.some.inj e;exact d w' (q'▸hocd)
theorem f7{M:Model}{A:Around}{E:Vs}{i:Nat}{x:Str}{v:V}{u:Value}{Q:Unit->Shared->Prop}(I:Inv X pins Z H s)(hN:X.N.Nodup)(hi:X.N[i]?=some x)(hx:Loc X.env.scope x)(r:RelV v u)
  (h:∀s',Inv X pins (Z.set i (some v)) H s'->Q () s') (hf:X.fn x=true\/X.env.scope.names.lookup x=some .local:=by first|exact .inl rfl|exact .inr rfl|assumption):wpAny M A (storeName X.env x u) Q E s:=
 z9 I hN hi hx r (λs' I' _=>h s' I') hf
def Inv.mI(I:Inv X pins Z H s)(ho:s'.os=s.os)(u:Un (lK X.stack) ch H H' s.heap s'.heap)(aP:gA X.prog X.w H' s'.heap)(hg:AllBare s'.gens)
  (hch:∀b∈ch,(b∈X.ex\/X.s₀.heap.objs.size<=b)/\b≠X.env.locals/\(∀x c,X.env.cells.lookup x=some c->c≠b)/\∀p∈X.pn++pins,p.1≠b):Inv X pins Z H' s':=by
 let(h',g',d',t',o'):=s';have e:=ho;subst e;exact I.call u aP hg hch
end
abbrev XK:=Value->Option Addr->Hp->Prop
abbrev St:=List (Option V)
abbrev VK:=V->Hp->Prop
abbrev TE:=St->Hp->VK->Prop
abbrev TT:=St->Hp->(Bool->Hp->Prop)->Prop
abbrev TA:=St->Hp->(List V->Hp->Prop)->Prop
structure Ends where
 nx:St->Hp->Prop
 rt:VK
 bk:St->Hp->Prop:=λ_ _=>False
 ct:St->Hp->Prop:=λ_ _=>False
abbrev TS:=Ends->St->Hp->Prop
def EP(X:Cx)(pins:Lo)(Z:St)(Q:VK)(u:Value)(s':Shared):Prop:=∃v H',Inv X pins Z H' s'/\RelV v u/\Q v H'
def TP(X:Cx)(pins:Lo)(Z:St)(Q:Bool->Hp->Prop)(b:Bool)(s':Shared):Prop:=∃H',Inv X pins Z H' s'/\Q b H'
def AP(X:Cx)(pins:Lo)(Z:St)(Q:List V->Hp->Prop)(us:List Value)(s':Shared):Prop:=∃vs H',Inv X pins Z H' s'/\Vals vs us/\Q vs H'
def SP(X:Cx)(pins:Lo)(D:Ends)(f:Flow)(s':Shared):Prop:=
 match f with
 |.next=>∃σ' H',Inv X pins σ' H' s'/\D.nx σ' H'
 |.brk=>∃σ' H',Inv X pins σ' H' s'/\D.bk σ' H'
 |.cont=>∃σ' H',Inv X pins σ' H' s'/\D.ct σ' H'
 |.ret u=>∃v σ' H',Inv X pins σ' H' s'/\RelV v u/\D.rt v H'
def PE(X:Cx)(e:Expr)(t:TE):Prop:=
 ∀(pins:Lo) (s:Shared) (Z:St) (H:Hp) (Q:VK),Inv X pins Z H s->t Z H Q->wpAny 'c' X.A (eval e X.env) (EP X pins Z Q) X.xe s
def PT(X:Cx)(e:Expr)(t:TT):Prop:=
 ∀(pins:Lo) (s:Shared) (Z:St) (H:Hp) (Q:Bool->Hp->Prop),Inv X pins Z H s->t Z H Q->wpAny 'c' X.A (isTrue e X.env (eval e X.env)) (TP X pins Z Q) X.xe s
def PW(X:Cx)(e:Expr)(t:TT):Prop:=
 ∀(whole:Sem Value) (pins:Lo) (s:Shared) (Z:St) (H:Hp) (Q:Bool->Hp->Prop),Inv X pins Z H s->t Z H Q->wpAny 'c' X.A (isTrue e X.env whole) (TP X pins Z Q) X.xe s
theorem PW.pt(h:PW X e t):PT X e t:=h _
def PA(X:Cx)(es:List Expr)(t:TA):Prop:=
 ∀(pos:Pos) (pins:Lo) (s:Shared) (Z:St) (H:Hp) (Q:List V->Hp->Prop),Inv X pins Z H s->t Z H Q->wpAny 'c' X.A (spliced (backTo pos (starEach es X.env))) (AP X pins Z Q) X.xe s
def PS(X:Cx)(st:Stmt)(t:TS):Prop:=
 ∀(pins:Lo) (s:Shared) (Z:St) (H:Hp) (D:Ends),Inv X pins Z H s->t D Z H->wpAny 'c' X.A (exec st X.env) (SP X pins D) X.xe s
def n_(X:Cx)(st:List Stmt)(t:TS):Prop:=
 ∀(pins:Lo) (s:Shared) (Z:St) (H:Hp) (D:Ends),Inv X pins Z H s->t D Z H->wpAny 'c' X.A (execs st X.env) (SP X pins D) X.xe s
theorem bL{α:Type}{t:Sem α}{Q Q':α->Shared->Prop}{M:Model}{A:Around}{E:Vs}{s:Shared}(h:wpAny M A t Q E s)(hQ:∀a s,Q a s->Q' a s):wpAny M A t Q' E s:=jV h hQ λ_ _ x=>x
section
variable{X:Cx}
def Wb:List (Option V)->Nat->(V->Prop)->Prop
 |[],_,_=>False
 |o::_,0,Q=>match o with
  |some v=>Q v
  |none=>False
 |_::r,n+1,Q=>Wb r n Q
theorem DB:∀{Z:List (Option V)}{i:Nat}{Q:V->Prop},Wb Z i Q->∃v,Z[i]?=some (some v)/\Q v
 |some v::_,0,_,h=>(v,rfl,h)
 |_::r,n+1,_,h=>DB (Z:=r) h
def lL(i:Nat):TE:=λZ H Q=>Wb Z i λv=>Q v H
def tC(v:V):TE:=λ_ H Q=>Q v H
def NI{i:Nat}{x:Str}{pos:Pos}(hN:X.N[i]?=some x)(hv:Uw X.env.scope x)(hd:(x == ("__debug__" : Str))=false:=by decide)(hcd:(x == ("__classdict__" : Str))=false:=by decide):PE X (.Name x pos) (lL i):=by
 intro pins s Z H Q I h;let(v,e,h):=DB h;let(m,hn,hl):=I.loc;let(u,r,l):=hl i x v hN e hv;have fin:EP X pins Z Q u s:=(v,H,I,r,h)
 rcases l with ⟨hk,hm⟩|⟨hk,c,hc,hcell⟩
 ·exact wpAny_Name (wpAny_loadName_local I.ok.kind hk hn hm fin) hd
 ·rcases hk with hk|hk
  ·exact wpAny_Name (wpAny_loadName_cell I.ok.kind hk hc hcell fin) hd
  ·exact wpAny_Name (wpAny_loadName_free I.ok.kind hk hc hcell fin hcd) hd
theorem af:PE X (.Constant (.int i) j pos) (tC (.int i)):=λ_ _ _ H _ I h=>wpAny_Constant_int (.int i,H,I.tok _,(_,rfl),h)
theorem iw:PE X (.Constant (.bool b) j pos) (tC (.bl b)):=λ_ _ _ H _ I h=>Constant_bool (.bl b,H,I,rfl,h)
theorem bW:PE X (.Constant .none j pos) (tC .bw):=λ_ _ _ H _ I h=>Constant_none (.bw,H,I,rfl,h)
theorem aH:PE X (.Constant (.str x) j pos) (tC (.str x)):=λ_ _ _ H _ I h=>Calls.Constant_str (.str x,H,I.tok _,(_,rfl),h)
def Gl(X:Cx)(x:Str):Prop:=X.env.kindOf x=some .globalImplicit
theorem gM{E:Vs}{pins:Lo}{s:Shared}{Z:St}{H:Hp}{x:Str}{u:Value}{pos:Pos}{Q:Vs}(I:Inv X pins Z H s)(hg:Gl X x)(hm:X.mg x=some u)(h:Q u s)
  (hd:(x == ("__debug__" : Str))=false:=by decide):wpAny 'c' X.A (eval (.Name x pos) X.env) Q E s:=
 Calls.Name_function_global I.ok.kind hg (Calls.loadGlobal_global (I.ok.glob▸I.mod.glob.keeps I.bk) hm h) hd
def iy{E:Vs}{pins:Lo}{s:Shared}{Z:St}{H:Hp}{x:Str}{u:Value}{pos:Pos}{Q:Vs}(I:Inv X pins Z H s)(hg:Gl X x)(hm:X.mg x=none)(hv:bootBuiltins x=some u)(h:Q u s)
  (hn:x ≠ "__name__" := by decide) (hd:(x == ("__debug__" : Str))=false:=by decide):wpAny 'c' X.A (eval (.Name x pos) X.env) Q E s:=by
 let(mb,h1,h2):=I.mod.blt;exact Calls.Name_function_global I.ok.kind hg (Calls.loadGlobal_builtin (I.ok.glob▸I.mod.glob.keeps I.bk) hm (I.ok.blt▸h1.keeps I.bk) ((h2 x hn).trans hv) h) hd
theorem cn(hg:Gl X x)(hm:X.mg x=some u)(r:RelV v u)(hd:(x == ("__debug__" : Str))=false:=by decide):PE X (.Name x pos) (tC v):=
 λ_ _ _ H _ I h=>gM I hg hm (v,H,I,r,h) hd
theorem qQ{x:Str}{v:V}{u:Value}{pos:Pos}(hg:Gl X x)(hm:X.mg x=none)(hv:bootBuiltins x=some u)(r:RelV v u)(hn:x ≠ "__name__" := by decide)(hd:(x == ("__debug__" : Str))=false:=by decide):PE X (.Name x pos) (tC v):=
 λ_ _ _ H _ I h=>iy I hg hm hv (v,H,I,r,h) hn hd
variable{a b:Expr}{ta tb:TE}{pos:Pos}
def PC(X:Cx)(op:CmpOp)(a b:Expr)(t:TE):Prop:=
 ∀(pins:Lo) (s:Shared) (Z:St) (H:Hp) (Q:VK),Inv X pins Z H s->t Z H Q->
  wpAny 'c' X.A (eval a X.env) (λv s₁=>wpAny 'c' X.A (eval b X.env) (λu s₂=>wpAny 'c' X.A (compareOp op v u) (EP X pins Z Q) X.xe s₂) X.xe s₁) X.xe s
def Bk(b:Expr){op:CmpOp}(h:op≠.In)(h2:op≠.NotIn):behindInMarks op b=false:=by
 have e1:(op == CmpOp.In)=false:=by cases op<;>first|rfl|exact absurd rfl h
 have e2:(op == CmpOp.NotIn)=false:=by cases op<;>first|rfl|exact absurd rfl h2
 cases b<;>simp[behindInMarks,e1,e2]
def tB(t:TE):TT:=λZ H Q=>t Z H λx H1=>∃c,x=.bl c/\Q c H1
def kF(h:PC X op a b t)(h1:behindInMarks op b=false:=by first|exact Bk _ (by decide) (by decide)|rfl):PT X (.Compare a [op] [b] pos) (tB t):=by
 intro pins s Z H Q I hw;refine wpAny_isTrue_Compare1 (bL (h pins s Z H _ I hw) λv s1 h1=>bL h1 λu s2 h2=>bL h2 λc s3 (x,H1,I1,r1,q1)=>?_) h1;let(d,rfl,q):=q1;cases r1;exact OS (H1,I1,q)
def N2(h:PE X e t)(he:∀whole,isTrue e X.env whole=(do let v <-whole;standAt e.pos;holding [v] (truthy v)):=by intro _;rfl):PT X e (tB t):=by
 intro pins s Z H Q I hw;refine isTrue_plain (bL (h pins s Z H _ I hw) λv s1 (x,H1,I1,r1,q1)=>?_) (he _);let(d,rfl,q):=q1;cases r1;exact OS (H1,I1,q)
variable{tA tB':TT}{rest:List Expr}
def Wi(t u:TT):TT:=λZ H Q=>t Z H λc H1=>if c=true then u Z H1 Q else Q false H1
def Yy(t u:TT):TT:=λZ H Q=>t Z H λc H1=>if c=true then Q true H1 else u Z H1 Q
def Wc(t:TT):TT:=λZ H Q=>t Z H λc H1=>Q (!c) H1
def gD(ha:PT X a tA):PW X (.BoolOp .And [a] pos) tA:=by
 intro wh pins s Z H Q I h;refine isTrue_and (bL (ha pins s Z H Q I h) λc s1 e=>?_);cases c with
 |true=>exact isTrue_and_nil e
 |false=>exact e
def vY(ha:PT X a tA):PW X (.BoolOp .Or [a] pos) tA:=by
 intro wh pins s Z H Q I h;refine isTrue_or (bL (ha pins s Z H Q I h) λc s1 e=>?_);cases c with
 |false=>exact isTrue_or_nil e
 |true=>exact e
def gC(ha:PT X a tA)(hb:PW X (.BoolOp .And (b::rest) pos) tB'):PW X (.BoolOp .And (a::b::rest) pos) (Wi tA tB'):=by
 intro wh pins s Z H Q I h;refine isTrue_and (bL (ha pins s Z H _ I h) λc s1 (H1,I1,q1)=>?_);cases c with
 |true=>exact hb wh pins s1 Z H1 Q I1 q1
 |false=>exact(H1,I1,q1)
def Ge(ha:PT X a tA)(hb:PW X (.BoolOp .Or (b::rest) pos) tB'):PW X (.BoolOp .Or (a::b::rest) pos) (Yy tA tB'):=by
 intro wh pins s Z H Q I h;refine isTrue_or (bL (ha pins s Z H _ I h) λc s1 (H1,I1,q1)=>?_);cases c with
 |true=>exact(H1,I1,q1)
 |false=>exact hb wh pins s1 Z H1 Q I1 q1
def kO(ha:PT X a tA):PT X (.UnaryOp .Not a pos) (Wc tA):=by
 intro pins s Z H Q I h;exact isTrue_not (ha pins s Z H (λc H1=>Q (!c) H1) I h)
def B0(ta tb:TE):TE:=λZ H Q=>ta Z H λx H1=>∃c,x=.bl c/\if c=true then tb Z H1 Q else Q (.bl false) H1
def XJ(ta tb:TE):TE:=λZ H Q=>ta Z H λx H1=>∃c,x=.bl c/\if c=true then Q (.bl true) H1 else tb Z H1 Q
def WU(ta:TE):TE:=λZ H Q=>ta Z H λx H1=>∃c,x=.bl c/\Q (.bl (!c)) H1
theorem v9(h:PE X a t):PE X (.BoolOp op [a] pos) t:=λpins s Z H Q I hw=>BoolOp_one (h pins s Z H Q I hw)
def NK(ha:PE X a ta)(hb:PE X (.BoolOp .And (b::rest) pos) tb):PE X (.BoolOp .And (a::b::rest) pos) (B0 ta tb):=by
 intro pins s Z H Q I h;refine BoolOp_and (bL (ha pins s Z H _ I h) λv s1 (x,H1,I1,r1,q1)=>?_);let(c,rfl,q1):=q1;cases r1;refine OS ?_;cases c with
 |true=>exact hb pins s1 Z H1 Q I1 q1
 |false=>exact(.bl false,H1,I1,rfl,q1)
def Yq(t:TT)(ta tb:TE):TE:=λZ H Q=>t Z H λc H1=>if c=true then ta Z H1 Q else tb Z H1 Q
def sO(hc:PT X c tA)(ha:PE X a ta)(hb:PE X b tb):PE X (.IfExp c a b pos) (Yq tA ta tb):=by
 intro pins s Z H Q I h;refine wpAny_IfExp (bL (hc pins s Z H _ I h) λd s1 (H1,I1,q1)=>?_);cases d with
 |true=>exact ha pins s1 Z H1 Q I1 q1
 |false=>exact hb pins s1 Z H1 Q I1 q1
end
def az(K:Wf)(H:Hp)(a:Addr)(xs:List V):Prop:=
 Rd H a (.lst xs) \/
  ∃(o:Obj) (its:Array Value) (n:Nat),K.lookup a=some o/\o.cls=.type "list" /\ o.dict=none/\o.data=.seq its n/\its.size<=sizeLine/\Vals xs its.toList
def bc(K:Wf)(H:Hp)(a:Addr)(xs:List V):Prop:=
 Rd H a (.tup xs) \/
  ∃(o:Obj) (its:Array Value) (n:Nat),K.lookup a=some o/\o.cls=.type "tuple" /\ o.data=.seq its n/\its.size<=sizeLine/\Vals xs its.toList
def UO:Value->Option V
 |.none=>some .bw
 |.bool b=>some (.bl b)
 |.int i _=>some (.int i)
 |.str x _=>some (.str x)
 |.bytes b _=>some (.vb b)
 |.float b _=>some (.Mr b)
 |.ref a=>some (.ref a)
 |.type n=>some (.ty n)
 |_=>none
def RelV.abs(r:RelV x u):UO u=some x:=by
 cases x with
 |bw=>cases r;rfl
 |bl _=>cases r;rfl
 |int _=>let(t,rfl):=r;rfl
 |str _=>let(t,rfl):=r;rfl
 |vb _=>let(t,rfl):=r;rfl
 |Mr _=>let(t,rfl):=r;rfl
 |ref _=>cases r;rfl
 |ty _=>cases r;rfl
theorem RelV.inj{x y:V}{u:Value}(r:RelV x u)(q:RelV y u):x=y:=Option.some.inj (r.abs.symm.trans q.abs)
theorem Vals.inj:∀{xs ys:List V}{us:List Value},Vals xs us->Vals ys us->xs=ys
 |_,_,_,.nil,.nil=>rfl
 |_,_,_,.cons r t,.cons r' t'=>by rw[r.inj r',Vals.inj t t']
section
variable{X:Cx}{pins:Lo}{Z:St}{H:Hp}{s:Shared}{a:Addr}{xs ys:List V}
theorem az.of{K:Wf}(h:H a=some (.lst xs)):az K H a xs:=.inl (.inl h)
theorem bc.of{K:Wf}(h:H a=some (.tup xs)):bc K H a xs:=.inl (.inl h)
def Inv.list(I:Inv X pins Z H s)(h:az X.K H a xs):∃its:List Value,Vals xs its/\PlainL s.heap a its.toArray/\xs.length<=sizeLine:=by
 rcases h with h|⟨o,its,n,hk,hc,hd,hs,hz,r⟩
 ·let(z,its,n,r,e):=h.ok I.aP;exact(its,r,(_,n,e,rfl,rfl,rfl),z)
 ·refine(its.toList,r,(o,n,I.gG a o hk,hc,hd,by simpa using hs),?_);have e:=r.length;simp only[Array.length_toList]at e;lia
def Inv.tuple(I:Inv X pins Z H s)(h:bc X.K H a xs):∃its:List Value,Vals xs its/\IsTup s.heap a its.toArray/\xs.length<=sizeLine:=by
 rcases h with h|⟨o,its,n,hk,hc,hs,hz,r⟩
 ·let(z,its,r,p):=h.ok I.aP;exact(its,r,p,z)
 ·refine(its.toList,r,(o,I.gG a o hk,hc,n,by simpa using hs),?_);have e:=r.length;simp only[Array.length_toList]at e;lia
def Inv.gy(I:Inv X pins Z H s)(h:az X.K H a xs)(h':az X.K H a ys):xs=ys:=by
 let(its,r,(o,n,e,_,_,d),_):=I.list h;let(its',r',(o',n',e',_,_,d'),_):=I.list h';rw[e]at e';cases e';rw[d]at d';injection d' with d1 _;have:its=its':=by simpa using congrArg Array.toList d1
 subst this;exact r.inj r'
def Inv.kM(I:Inv X pins Z H s)(h:bc X.K H a xs)(h':bc X.K H a ys):xs=ys:=by
 let(its,r,(o,e,_,n,d),_):=I.tuple h;let(its',r',(o',e',_,n',d'),_):=I.tuple h';rw[e]at e';cases e';rw[d]at d';injection d' with d1 _;have:its=its':=by simpa using congrArg Array.toList d1
 subst this;exact r.inj r'
end
abbrev Cx.lN(X:Cx)(E:Vs):Cx:={ X with xe:=E }
abbrev Cx.zl(X:Cx):Cx:=X.lN λ_ _=>False
theorem Cx.Ok.lN{X:Cx}(ok:X.Ok)(E:Vs):(X.lN E).Ok:=
 (ok.mod,ok.kind,ok.glob,ok.blt,ok.above,ok.inj,ok.has,ok.LD,ok.hd,ok.frames,ok.G0,ok.O7,ok.bs,ok.A2,ok.xp,ok.uT,ok.ju,ok.Gh)
theorem Cx.Ok.fN{X:Cx}{E:Vs}(ok:(X.lN E).Ok):X.Ok:=
 (ok.mod,ok.kind,ok.glob,ok.blt,ok.above,ok.inj,ok.has,ok.LD,ok.hd,ok.frames,ok.G0,ok.O7,ok.bs,ok.A2,ok.xp,ok.uT,ok.ju,ok.Gh)
section
variable{X:Cx}{pins:Lo}{Z:St}{H:Hp}{s:Shared}{E:Vs}
theorem Inv.lN(I:Inv X pins Z H s)(E:Vs):Inv (X.lN E) pins Z H s:=(I.ok.lN E,I.os,I.bare,I.base,I.loc,I.cell,I.free,I.fE,I.pin,I.aP,I.len)
theorem Inv.fN(I:Inv (X.lN E) pins Z H s):Inv X pins Z H s:=(I.ok.fN,I.os,I.bare,I.base,I.loc,I.cell,I.free,I.fE,I.pin,I.aP,I.len)
def SP.fN{D:Ends}{f:Flow}{s':Shared}(h:SP (X.lN E) pins D f s'):SP X pins D f s':=by
 cases f with
 |next=>let(σ',H',I,q):=h;exact(σ',H',I.fN,q)
 |brk=>let(σ',H',I,q):=h;exact(σ',H',I.fN,q)
 |cont=>let(σ',H',I,q):=h;exact(σ',H',I.fN,q)
 |ret u=>let(v,σ',H',I,r,q):=h;exact(v,σ',H',I.fN,r,q)
theorem n_.zl{st:List Stmt}{t:TS}(h:n_ X.zl st t):n_ X st t:=λpins s Z H D I hw=>
 jV (h pins s Z H D (I.lN _) hw) (λ_ _ q=>q.fN) λ_ _ z=>False.elim z
end
section
variable{X:Cx}{st:Stmt}{rest:List Stmt}{t u:TS}{e:Expr}{te:TE}{pos:Pos}
def Rw:TS:=λD Z H=>D.nx Z H
def Wh(t u:TS):TS:=λD Z H=>t { D with nx:=u D } Z H
theorem bN:n_ X [] Rw:=λ_ _ Z H _ I h=>OV (Z,H,I,h)
def aL(h1:PS X st t)(h2:n_ X rest u):n_ X (st::rest) (Wh t u):=by
 intro pins s Z H D I h;refine wpAny_execs_cons (bL (h1 pins s Z H { D with nx:=u D } I h) λf s1 q=>?_);cases f with
 |next=>
  let(σ',H',I',q):=q;exact h2 pins s1 σ' H' D I' q
 |ret v=>exact q
 |brk=>exact q
 |cont=>exact q
def aU(h1:PS X st t):n_ X [st] t:=by
 intro pins s Z H D I h;refine wpAny_execs_cons (bL (h1 pins s Z H D I h) λf s1 q=>?_);cases f with
 |next=>exact OV q
 |ret v=>exact q
 |brk=>exact q
 |cont=>exact q
def Inv.quiet{pins:Lo}{Z:St}{H:Hp}{s:Shared}(I:Inv X pins Z H s):interactive X.env=false:=by simp[interactive,I.ok.kind]
def Su(te:TE):TS:=λD Z H=>te Z H λ_ H1=>D.nx Z H1
def dB(he:PE X e te)(hs:swapsWith e none pos.line X.env=pure false:=by rfl):PS X (.Expr e pos) (Su te):=by
 intro pins s Z H D I h;exact wpAny_Expr_any (bL (he pins s Z H _ I h) λv s1 (x,H1,I1,r1,q1)=>(Z,H1,I1,q1)) I.quiet hs
def Uu(te:TE):TS:=λD Z H=>te Z H D.rt
def aw(he:PE X e te):PS X (.Return (some e) pos) (Uu te):=by
 intro pins s Z H D I h;exact wpAny_Return_some (bL (he pins s Z H _ I h) λv s1 (x,H1,I1,r1,q1)=>(x,Z,H1,I1,r1,q1))
def Pm:TS:=λD _ H=>D.rt .bw H
theorem sC:PS X (.Return none pos) Pm:=λ_ _ Z H _ I h=>wpAny_Return_none (.bw,Z,H,I,rfl,h)
def UP(c:TT)(t u:TS):TS:=λD Z H=>c Z H λb H1=>if b=true then t D Z H1 else u D Z H1
def aQ(hc:PT X c tc)(ha:n_ X a t)(hb:n_ X b u):PS X (.If c a b pos) (UP tc t u):=by
 intro pins s Z H D I h;refine wpAny_If (bL (hc pins s Z H _ I h) λd s1 (H1,I1,q1)=>?_);cases d with
 |true=>exact ha pins s1 Z H1 D I1 q1
 |false=>exact hb pins s1 Z H1 D I1 q1
def NJ:TS:=λ_ _ _=>False
theorem jK:PS X st NJ:=λ_ _ _ _ _ _ h=>h.elim
end
abbrev TG:=V->St->Hp->(St->Hp->Prop)->Prop
abbrev F7:=List V->St->Hp->(St->Hp->Prop)->Prop
def PG(X:Cx)(target:Expr)(t:TG):Prop:=
 ∀(pins:Lo) (s:Shared) (Z:St) (H:Hp) (v:V) (u:Value) (Q:St->Hp->Prop),Inv X pins Z H s->RelV v u->t v Z H Q->
  wpAny 'c' X.A (assign target X.env u) (λ_ s'=>∃σ' H',Inv X pins σ' H' s'/\Q σ' H') X.xe s
def M6(X:Cx)(ts:List Expr)(t:F7):Prop:=
 ∀(pins:Lo) (s:Shared) (Z:St) (H:Hp) (vs:List V) (us:List Value) (Q:St->Hp->Prop),Inv X pins Z H s->Vals vs us->t vs Z H Q->
  wpAny 'c' X.A (assignInOrder ((assignEach ts X.env).map (·.2)) us) (λ_ s'=>∃σ' H',Inv X pins σ' H' s'/\Q σ' H') X.xe s
abbrev UY:=V->V->V->Hp->(Hp->Prop)->Prop
abbrev U9:=V->V->Hp->VK->Prop
def Xa(X:Cx)(op:Operator)(t:U9):Prop:=
 ∀(pins:Lo) (s:Shared) (Z:St) (H:Hp) (x y:V) (v u:Value) (Q:VK),Inv X pins Z H s->RelV x v->RelV y u->t x y H Q->
  wpAny 'c' X.A (inplaceOp op v u) (EP X pins Z Q) X.xe s
section
variable{X:Cx}{pos:Pos}
def g_(i:Nat):TG:=λv Z H Q=>Q (Z.set i (some v)) H
def GU(hN:X.N.Nodup)(hi:X.N[i]?=some x)(hx:Loc X.env.scope x)(hf:X.fn x=true\/X.env.scope.names.lookup x=some .local:=by first|exact .inl rfl|exact .inr rfl|assumption):PG X (.Name x pos) (g_ i):=by
 intro pins s Z H v u Q I r h;exact wpAny_assign_Name (f7 I hN hi hx r (λs' I'=>(_,H,I',h)) hf)
def Uq:F7:=λvs Z H Q=>vs=[]/\Q Z H
def xY(t:TG)(u:F7):F7:=λvs Z H Q=>∃v r,vs=v::r/\t v Z H λσ' H'=>u r σ' H' Q
def cu:M6 X [] Uq:=by
 intro pins s Z H vs us Q I r h;let(e,h):=h;subst e;exact assignInOrder_nil (Z,H,I,h)
def d7(h1:PG X e t)(h2:M6 X es u)
  (hs:(assignEach (e::es) X.env).map (·.2)=assign e X.env::(assignEach es X.env).map (·.2):=by rfl):M6 X (e::es) (xY t u):=by
 intro pins s Z H vs us Q I r h;let(v,vr,e1,h):=h;subst e1;cases r with
 |cons r rr=>
  exact hs▸assignInOrder_cons (bL (h1 pins s Z H _ _ _ I r h) λ_ s1 (σ1,H1,I1,q1)=>(h2 pins s1 σ1 H1 _ _ Q I1 rr q1))
def Eo(K:Wf)(n:Nat)(t:F7):TG:=λv Z H Q=>∃a xs,v=.ref a/\bc K H a xs/\xs.length=n/\t xs Z H Q
def Mq{es:List Expr}{k:Nat}{t:F7}{n:Nat}(hc:X.calm=true)(h:M6 X es t)
  (hn:(assignEach es X.env).length=n:=by rfl) (hst:(assignEach es X.env).findIdx? (·.1)=none:=by rfl):PG X (.Tuple es k pos) (Eo X.K n t):=by
 intro pins s Z H v u Q I r hw;let(a,xs,e1,hq,hl,hw):=hw;subst e1;cases r;let(its,rv,ht,hz):=I.tuple hq;refine assign_Tuple_tuple (I.ok.hd hc) ht (by simp[hn,<-hl,rv.length]) hst λh' hx=>?_;have I1:=I.kept (t':=s.toks) λb o e=>hx b o (fu (cy e)) e;exact h pins _ Z H xs _ Q I1 rv hw
def Xx(to ti:TE)(t:UY):TG:=λv Z H Q=>to Z H λo H1=>ti Z H1 λi H2=>t o i v H2 λH3=>Q Z H3
def HW(te:TE)(g:TG):TS:=λD Z H=>te Z H λx H1=>g x Z H1 D.nx
def Bx(he:PE X e te)(hg:PG X tg g)(hs:swapsWithSole [tg] e pos.line X.env=pure false:=by rfl)(hw:swappedStores [tg] e X.env=pure none:=by rfl)
  (h1:(assignEach [tg] X.env).map (·.2)=[assign tg X.env]:=by rfl):PS X (.Assign [tg] e pos) (HW te g):=by
 intro pins s Z H D I h;exact wpAny_Assign_stores (bL (he pins s Z H _ I h) λv s1 (x,H1,I1,r1,q1)=>(h1▸bL (hg pins s1 Z H1 x v _ I1 r1 q1) λ_ s2 q=>q)) hs hw
def OK(hN:X.N.Nodup)(hi:X.N[i]?=some x)(hx:Loc X.env.scope x)(he:PE X e te)(hs:swapsWith e (some (.Name x pos')) pos.line X.env=pure false:=by rfl)(hf:X.fn x=true\/X.env.scope.names.lookup x=some .local:=by first|exact .inl rfl|exact .inr rfl|assumption):
  PS X (.Assign [.Name x pos'] e pos) (HW te (g_ i)):=by
 intro pins s Z H D I h;exact wpAny_Assign_Name (bL (he pins s Z H _ I h) λv s1 (y,H1,I1,r1,q1)=>(f7 I1 hN hi hx r1 (λs2 I2=>(_,H1,I2,q1)) hf)) hs
def Vp(i:Nat)(te:TE)(ti:U9):TS:=λD Z H=>∃x,Z[i]?=some (some x)/\te Z H λy H1=>ti x y H1 λz H2=>D.nx (Z.set i (some z)) H2
def OL(hN:X.N.Nodup)(hi:X.N[i]?=some x)(hx:Loc X.env.scope x)(he:PE X e te)(ho:Xa X op ti)(hf:X.fn x=true\/X.env.scope.names.lookup x=some .local:=by first|exact .inl rfl|exact .inr rfl|assumption):
  PS X (.AugAssign (.Name x pos') op e pos) (Vp i te ti):=by
 intro pins s Z H D I h;let(v,e1,h):=h;let(m,hn,hl):=I.loc;have vis:Uw X.env.scope x:=by rcases hx with k|k;exact .inl k;exact .inr (.inl k)
 let(u,r,l):=hl i x v hi e1 vis;refine wpAny_AugAssign_Name ?_;have go:wpAny 'c' X.A (eval e X.env) (λw s₂=>wpAny 'c' X.A (inplaceOp op u w) (λr s₃=>wpAny 'c' X.A (storeName X.env x r) (λ_=>SP X pins D .next) X.xe s₃) X.xe s₂) X.xe s:=by
  exact bL (he pins s Z H _ I h) λw s1 (y,H1,I1,r1,q1)=>(bL (ho pins s1 Z H1 v y u w _ I1 r r1 q1) λz s2 (zv,H2,I2,r2,q2)=>(f7 I2 hN hi hx r2 (λs3 I3=>(_,H2,I3,q2)) hf))
 rcases l with ⟨hk,hm⟩|⟨hk,c,hc,hcell⟩
 ·exact wpAny_loadName_local I.ok.kind hk hn hm go
 ·rcases hk with hk|hk
  ·exact wpAny_loadName_cell I.ok.kind hk hc hcell go
  ·rcases hx with k|k
   ·have:X.env.scope.names.lookup x=some .free:=hk;rw[k]at this;cases this
   ·have:X.env.scope.names.lookup x=some .free:=hk;rw[k]at this;cases this
def XI(f:Int->Int->Int):U9:=λx y H Q=>∃i j,x=.int i/\y=.int j/\Q (.int (f i j)) H
def ML:Xa X .Add (XI λi j=>i+j):=by
 intro pins s Z H x y v u Q I r1 r2 h;let(i,j,e1,e2,q):=h;subst e1;subst e2;let(t,rfl):=r1;let(t',rfl):=r2;exact iadd_int (.int _,H,I.tok _,(_,rfl),q)
def Lq(c:TT)(tb:TS):TS:=λD Z H=>∃W:Nat->St->Hp->Prop,(∃m,W m Z H)/\∀m Z H,W m Z H->
 c Z H λb H1=>if b=true then ∃N:St->Hp->Prop,(∀σ' H',N σ' H'->∃m',m'<m/\W m' σ' H')/\tb { D with nx:=N,ct:=N,bk:=D.nx } Z H1 else D.nx Z H1
def uV(hp:PassesOwn 'c' X.A X.env X.xe)(hc:PT X c tc)(hb:n_ X body tb):PS X (.While c body [] pos) (Lq tc tb):=by
 intro pins s Z H D I h;let(W,(m0,w0),turn):=h;refine wpAny_While (codeAny_whileLoop (λn s'=>∃σ' H',Inv X pins σ' H' s'/\W n σ' H') ?_ m0 (Z,H,I,w0));rintro n s1 ⟨σ1,H1,I1,w1⟩;refine N_ hp (bL (hc pins s1 σ1 H1 _ I1 (turn n σ1 H1 w1)) λb s2 (H2,I2,q2)=>?_);cases b with
 |true=>
  let(N,hN,q2):=q2;refine N_ hp (bL (hb pins s2 σ1 H2 _ I2 q2) λf s3 q3=>?_);cases f with
  |next=>
   let(σ3,H3,I3,n3):=q3;let(m',hm,w3):=hN σ3 H3 n3;exact(m',hm,σ3,H3,I3,w3)
  |cont=>
   let(σ3,H3,I3,n3):=q3;let(m',hm,w3):=hN σ3 H3 n3;exact(m',hm,σ3,H3,I3,w3)
  |brk=>exact q3
  |ret v=>exact q3
 |false=>
  exact OV (σ1,H2,I2,q2)
end
structure It where
 go:Nat->Hp->Prop
 A5:Nat->Hp->V->Hp->Prop
 stop:Nat->Hp->Prop
def fV(X:Cx)(pins:Lo)(H:Hp)(b:Addr):Prop:=
 H b=none/\b≠X.env.locals/\b∉X.fs/\(b∈X.ex\/X.s₀.heap.objs.size<=b)/\(∀x c,X.env.cells.lookup x=some c->c≠b)/\∀p∈X.pn++pins,p.1≠b
def Inv.qF{X:Cx}{pins:Lo}{Z:St}{H H':Hp}{s:Shared}{b:Addr}(I:Inv X pins Z H s)(hb:s.heap.objs.size<=b)(hn:H' b=none):fV X pins H' b:=by
 refine(hn,Nat.ne_of_gt (kA I.lt hb),I.QB hb,.inr (fF I.sz hb),λx c e z=>?_,λp hp z=>?_)
 ·let(v,q):=I.cell x c e;exact absurd (kA q.lt (z▸hb)) (k9 _)
 ·exact absurd (kA (cy (I.pin p hp).1) (z▸hb)) (k9 _)
structure Turn(P:Program)(w:World)(K:Wf)(tg:Expr)(J:It)(fp:List Addr)(it:Addr)(tn:Nat->Heap->Prop):Prop where
 mem:it∈fp
 obj:∀i h,tn i h->∀b∈fp,∃o,h.get? b=some o/\∀v,o.data≠.cell v
 keep:∀i h h',tn i h->(∀b∈fp,∀o,h.get? b=some o->h'.get? b=some o)->tn i h'
 item:∀(X:Cx),X.prog=P->X.w=w->X.K=K->X.calm=true->∀(i:Nat) (pins:Lo) (s:Shared) (Z:St) (H:Hp) (E:Vs),Inv X pins Z H s->(∀b∈fp,fV X pins H b)->tn i s.heap->J.go i H->
  wpAny (model P w) X.A (pyNext (.ref it)) (λr s1=>∃u,r=some u/\
   wpAny (model P w) X.A (letOwnedTupleGo tg (.ref it) u) (λ_ s2=>∃x H',Inv X pins Z H' s2/\RelV x u/\J.A5 i H x H'/\tn (i+1) s2.heap/\∀b∈fp,H' b=none) E s1) E s
 done:∀(X:Cx),X.prog=P->X.w=w->X.K=K->X.calm=true->∀(i:Nat) (pins:Lo) (s:Shared) (Z:St) (H:Hp) (E:Vs),Inv X pins Z H s->(∀b∈fp,fV X pins H b)->tn i s.heap->J.stop i H->
  wpAny (model P w) X.A (pyNext (.ref it)) (λr s1=>r=none/\Inv X pins Z H s1) E s
 self:∀(A:Around) (i:Nat) (s:Shared) (Q:Vs) (E:Vs),tn i s.heap->Q (.ref it) s->wpAny (model P w) A (pyIter (.ref it)) Q E s
abbrev TI:=St->Hp->(It->Hp->Prop)->Prop
def Xd(X:Cx)(pins:Lo)(Z:St)(tg:Expr)(R:It->Hp->Prop)(itv:Value)(s2:Shared):Prop:=
 ∃(it:Addr) (fp:List Addr) (tn:Nat->Heap->Prop) (J:It) (H':Hp),itv=.ref it/\Inv X pins Z H' s2/\Turn X.prog X.w X.K tg J fp it tn/\tn 0 s2.heap/\(∀b∈fp,fV X pins H' b)/\R J H'
def PI(X:Cx)(tg iter:Expr)(wi:TI):Prop:=
 ∀(pins:Lo) (s:Shared) (Z:St) (H:Hp) (R:It->Hp->Prop),Inv X pins Z H s->wi Z H R->
  wpAny 'c' X.A (eval iter X.env) (λv s1=>wpAny 'c' X.A (pyIter v) (Xd X pins Z tg R) X.xe s1) X.xe s
def sS{M:Model}{A:Around}{E:Vs}{s:Shared}{tg:Expr}{it:Addr}{u:Value}{o:Obj}{n:String}{vs:Array Value}{Q:Unit->Shared->Prop}(ho:s.heap.get? it=some o)(hc:o.cls=.type n)(hd:o.data=.fields vs)
  (hn:["enumerate", "zip", "dict_itemiterator", "dict_reverseitemiterator", "odict_iterator", "itertools.zip_longest", "itertools.pairwise"].contains n=false) (hQ:Q () s):wpAny M A (letOwnedTupleGo tg (.ref it) u) Q E s:=by
 cases tg<;>first
  |exact bp hQ
  | (cases u<;>first
    |exact bp hQ
    | (refine aB (wpAny_load ho ?_)
       rw[hc,hd];show wpAny M A (if (["enumerate", "zip", "dict_itemiterator", "dict_reverseitemiterator", "odict_iterator", "itertools.zip_longest", "itertools.pairwise"].contains n&&vs[0]? == some (rawInt _))=true then _ else _) Q E s;rw[if_neg (by intro h;rw[hn,Bool.false_and]at h;cases h)];exact bp hQ))
def BD(K:Wf)(a:Addr):It:=
 (λi H=>∃xs x,az K H a xs/\xs[i]?=some x,λi H x H'=>H'=H/\∀xs,az K H a xs->xs[i]?=some x,λi H=>∃xs,az K H a xs/\xs.length<=i)
def MU(K:Wf)(a:Addr):It:=
 (λi H=>∃xs x,bc K H a xs/\xs[i]?=some x,λi H x H'=>H'=H/\∀xs,bc K H a xs->xs[i]?=some x,λi H=>∃xs,bc K H a xs/\xs.length<=i)
def Gu(lo:Int)(n:Nat):It:=(λi _=>i<n,λi H x H'=>H'=H/\x=.int (lo+i),λi _=>n<=i)
theorem AK{P:Program}{w:World}{K:Wf}{tg:Expr}(a it:Addr):Turn P w K tg (BD K a) [it] it (λi h=>h.IsListIter it a i) where
 mem:=by simp
 obj:=λi h st b hb=>by
  have e:=by simpa using hb
  subst e;let(o,e,c,d):=st;exact(o,e,λv z=>by rw[d]at z;cases z)
 keep:=λi h h' st k=>st.at λo e=>k it (by simp) o e
 item:=by
  intro X hP hw hK hc i pins s Z H E I hf st hg;subst hP hw hK;let(xs,x,hq,hx):=hg;let(its,rv,p,hz):=I.list hq;let(u,hu,ru):=rv.get hx;let(f0,f1,f2,f3,f4,f5):=hf it (by simp);refine wpAny_pyNext_list_item st p.isList (by simpa using hu) λh' st' sb=>?_;have I1:=I.turned (t':=s.toks) (λb o hb e=>(sb.2 b hb).trans e) f0 f1 f3 f4 f5;let(o,e,c,d):=id st';exact(u,rfl,sS e c d (by decide) (x,H,I1,ru,(rfl,λys hy=>(I.gy hy hq)▸hx),st',λb hb=>(hf b hb).1))
 done:=by
  intro X hP hw hK hc i pins s Z H E I hf st hg;subst hP hw hK;let(xs,hq,hx):=hg;let(its,rv,p,hz):=I.list hq;let(f0,f1,f2,f3,f4,f5):=hf it (by simp);have hl:=rv.length;exact wpAny_pyNext_list_end (I.ok.hd hc) st p.isList (by simp;omega) λh' eb=>(rfl,I.turned (t':=s.toks) (λb o hb e=>eb b o hb e) f0 f1 f3 f4 f5)
 self:=λ_ _ _ _ _ st h=>wpAny_pyIter_listiter st h
theorem vw{P:Program}{w:World}{K:Wf}{tg:Expr}(a it:Addr):Turn P w K tg (MU K a) [it] it (λi h=>h.IsTupleIter it a i) where
 mem:=by simp
 obj:=λi h st b hb=>by
  have e:=by simpa using hb
  subst e;let(o,e,c,d):=st;exact(o,e,λv z=>by rw[d]at z;cases z)
 keep:=λi h h' st k=>st.at λo e=>k it (by simp) o e
 item:=by
  intro X hP hw hK hc i pins s Z H E I hf st hg;subst hP hw hK;let(xs,x,hq,hx):=hg;let(its,rv,p,hz):=I.tuple hq;let(u,hu,ru):=rv.get hx;let(f0,f1,f2,f3,f4,f5):=hf it (by simp);refine wpAny_pyNext_tuple_item st p (by simpa using hu) λh' st' sb=>?_;have I1:=I.turned (t':=s.toks) (λb o hb e=>(sb.2 b hb).trans e) f0 f1 f3 f4 f5;let(o,e,c,d):=id st';exact(u,rfl,sS e c d (by decide) (x,H,I1,ru,(rfl,λys hy=>(I.kM hy hq)▸hx),st',λb hb=>(hf b hb).1))
 done:=by
  intro X hP hw hK hc i pins s Z H E I hf st hg;subst hP hw hK;let(xs,hq,hx):=hg;let(its,rv,p,hz):=I.tuple hq;let(f0,f1,f2,f3,f4,f5):=hf it (by simp);have hl:=rv.length;exact wpAny_pyNext_tuple_end (I.ok.hd hc) st p (by simp;omega) λh' eb=>(rfl,I.turned (t':=s.toks) (λb o hb e=>eb b o hb e) f0 f1 f3 f4 f5)
 self:=λ_ _ _ _ _ st h=>wpAny_pyIter_tupleiter st h
theorem vP{P:Program}{w:World}{K:Wf}{tg:Expr}(it:Addr)(lo:Int)(n:Nat):Turn P w K tg (Gu lo n) [it] it (λi h=>IsRangeIter h it (lo+(i:Nat)*1) ((n:Int) - (i:Nat)) 1) where
 mem:=by simp
 obj:=λi h st b hb=>by
  have e:=by simpa using hb
  subst e;exact(_,st,λv z=>by
   have z':=z;cases z')
 keep:=λi h h' st k=>k it (by simp) _ st
 item:=by
  intro X hP hw hK hc i pins s Z H E I hf st hg;subst hP hw hK;let(f0,f1,f2,f3,f4,f5):=hf it (by simp);have W:=Walks.range (prog:=X.prog) (w:=X.w) (I.ok.hd hc) it lo 1 n;refine W.item i s _ _ hg st λv h' tk hv st' kk=>?_;let(t,rfl):=hv;have I1:Inv X pins Z H { s with heap:=h',toks:=tk }:=I.turned (λb o hb e=>kk b o (by simpa using hb) e) f0 f1 f3 f4 f5;refine(_,rfl,sS st' rfl rfl (by decide) (.int (lo+i),H,I1,(t,?_),(rfl,rfl),st',λb hb=>(hf b hb).1));rw[Int.mul_one]
 done:=by
  intro X hP hw hK hc i pins s Z H E I hf st hg;subst hP hw hK;let(f0,f1,f2,f3,f4,f5):=hf it (by simp);exact wpAny_pyNext_range_end (I.ok.hd hc) st (by have:n<=i:=hg;lia) λh' eb=>(rfl,I.turned (λb o hb e=>eb b o hb e) f0 f1 f3 f4 f5)
 self:=λ_ _ _ _ _ st h=>wpAny_pyIter_rangeiter st h
section
variable{X:Cx}{tg:Expr}
def p7(K:Wf)(tl:TE):TI:=λZ H R=>tl Z H λx H1=>∃a,x=.ref a/\(∃xs,az K H1 a xs)/\R (BD K a) H1
def HH(K:Wf)(tl:TE):TI:=λZ H R=>tl Z H λx H1=>∃a,x=.ref a/\(∃xs,bc K H1 a xs)/\R (MU K a) H1
def Gz(hl:PE X l tl):PI X tg l (p7 X.K tl):=by
 intro pins s Z H R I h;refine bL (hl pins s Z H _ I h) λv s1 (x,H1,I1,r1,q1)=>?_;let(a,e,(xs,hq),q):=q1;subst e;cases r1;let(its,rv,p,hz):=I1.list hq;refine wpAny_pyIter_list p.isList ((s1.heap.objs.size,[s1.heap.objs.size],_,_,H1,rfl,I1.kept λb o e=>cV _ e,AK a _,(_,iL _ rfl,rfl,rfl),λb hb=>?_,q));have e:=by simpa using hb
 subst e;exact I1.qF (bJ _) (I1.aP.fresh (bJ _))
def Oj(hl:PE X l tl):PI X tg l (HH X.K tl):=by
 intro pins s Z H R I h;refine bL (hl pins s Z H _ I h) λv s1 (x,H1,I1,r1,q1)=>?_;let(a,e,(xs,hq),q):=q1;subst e;cases r1;let(its,rv,p,hz):=I1.tuple hq;refine wpAny_pyIter_tuple p ((s1.heap.objs.size,[s1.heap.objs.size],_,_,H1,rfl,I1.kept λb o e=>cV _ e,vw a _,(_,iL _ rfl,rfl,rfl),λb hb=>?_,q));have e:=by simpa using hb
 subst e;exact I1.qF (bJ _) (I1.aP.fresh (bJ _))
def Dl{pins:Lo}{Z:St}{H:Hp}{s:Shared}{R:It->Hp->Prop}{E:Vs}{lo hi:Int}{t u v:Tok}{tk:Nat}(I:Inv X pins Z H s)(h1 : -(2 ^ 62)<=lo)(h2:lo<2 ^ 62)(h3 : -(2 ^ 62)<=hi)(h4:hi<2 ^ 62)
  (q:R (Gu lo (hi - lo).toNat) H):wpAny 'c' X.A (pyIter 'O') (Xd X pins Z tg R) E { s with heap:=s.heap.push { cls:=.type "range", data:=.fields #[.int lo t,.int hi u,.int 1 v] },toks:=tk }:=by
 refine wpAny_pyIter_range (IsRange.new ..) (small_one h1 h2 h3 h4) ?_;have I1:Inv X pins Z H { s with heap:=s.heap.push { cls:=.type "range", data:=.fields #[.int lo t,.int hi u,.int 1 v] },toks:=tk }:=I.kept λb o e=>cV _ e;refine((s.heap.push { cls:=.type "range", data:=.fields #[.int lo t,.int hi u,.int 1 v] }).objs.size,[(s.heap.push { cls:=.type "range", data:=.fields #[.int lo t,.int hi u,.int 1 v] }).objs.size],_,_,H,rfl,
  I1.kept λb o e=>cV _ e,vP _ lo (hi - lo).toNat,?_,λb hb=>?_,q)
 ·have e1:lo+((0:Nat):Int)*1=lo:=by simp
  have e2:(((hi - lo).toNat:Nat):Int) - ((0:Nat):Int)=Builtin.Range.rangeSize lo hi 1:=by rw[rangeSize_one];split<;>lia
  rw[e1,e2];exact iL _ rfl
 ·have e:b=(s.heap.push { cls:=.type "range", data:=.fields #[.int lo t,.int hi u,.int 1 v] }).objs.size:=by simpa using hb
  subst e;exact I1.qF (bJ _) (I1.aP.fresh (bJ _))
def F5(ta:TA):TI:=λZ H R=>ta Z H λvs H1=>∃j:Int,vs=[.int j] /\ -(2 ^ 62)<=j/\j<2 ^ 62/\R (Gu 0 j.toNat) H1
def Rq(ta:TA):TI:=λZ H R=>ta Z H λvs H1=>∃i j:Int,vs=[.int i,.int j]/\(-(2 ^ 62)<=i/\i<2 ^ 62 /\ -(2 ^ 62)<=j/\j<2 ^ 62)/\R (Gu i (j - i).toNat) H1
def qv(hg:Gl X "range")(hm:X.mg "range" = none)(ha:PA X [a] ta)(hs:starEach [a] X.env=[⟨false,eval a X.env⟩]:=by rfl):PI X tg (.Call (.Name "range" p) [a] [] pos) (F5 ta):=by
 intro pins s Z H R I h;refine Call_ (iy I hg hm boot_range (PyProof.Rows.callWith_type1 (bL (ha pos pins s Z H _ I h) λus s1 (vs,H1,I1,r1,q1)=>?_) hs rfl));let(j,e,q1,q2,q):=q1;subst e;cases r1 with
 |cons r rr=>
  cases rr;let(t,rfl):=r;exact call_range_1 (Dl I1 (by lia) (by lia) q1 q2 (by simpa using q))
def kD(wi:TI)(g:TG)(tb:TS):TS:=λD Z H=>wi Z H λJ H1=>∃W:Nat->Nat->St->Hp->Prop,(∃m,W 0 m Z H1)/\∀i m Z H,W i m Z H->
 (J.stop i H/\D.nx Z H)\/(J.go i H/\∃N:St->Hp->Prop,(∀σ' H',N σ' H'->∃m',m'<m/\W (i+1) m' σ' H')/\∀x H',J.A5 i H x H'->g x Z H' λσ2 H2=>tb { D with nx:=N,ct:=N,bk:=D.nx } σ2 H2)
def nO(fp:List Addr)(h:Heap):Lo:=fp.filterMap λb=>(h.get? b).map λo=>⟨b,o⟩
theorem gJ(hb:b∈fp)(e:h.get? b=some o):⟨b,o⟩∈nO fp h:=List.mem_filterMap.mpr (b,hb,by rw[e];rfl)
def zB(hp:p∈nO fp h):p.1∈fp/\h.get? p.1=some p.2:=by
 let(b,hb,e):=List.mem_filterMap.mp hp;cases q:h.get? b with
 |none=>rw[q]at e;cases e
 |some o=>
  rw[q]at e;have e':=Option.some.inj e;subst e';exact(hb,q)
theorem Inv.pinned{pins:Lo}{Z:St}{H:Hp}{s:Shared}{fp:List Addr}(I:Inv X pins Z H s)(hf:∀b∈fp,fV X pins H b)(ho:∀b∈fp,∃o,s.heap.get? b=some o/\∀v,o.data≠.cell v):Inv X (pins++nO fp s.heap) Z H s:=
 I.lT λp hp=>(bT.mp hp).elim (λz=>I.pin p (eW _ z)) λz=>by
  let(hb,e):=zB z;let(f0,f1,f2,_):=hf p.1 hb;let(o,e',d):=ho p.1 hb;rw[e]at e';cases e';exact(e,f0,f1,f2,d)
theorem Inv.kq{pins pl:Lo}{Z:St}{H:Hp}{s:Shared}(I:Inv X (pins++pl) Z H s):Inv X pins Z H s:=I.lT λp hp=>I.pin p (eW _ (eD _ hp))
def Lp(hp:PassesOwn 'c' X.A X.env X.xe)(hc:X.calm=true)(hi:PI X tg iter wi)(hg:PG X tg g)(hb:n_ X body tb)
  (hs:∀x,foldedSetIterable iter X.env x=pure x:=by intro _;rfl):PS X (.For tg iter body [] pos) (kD wi g tb):=by
 intro pins s Z H D I h;refine wpAny_For (bL (hi pins s Z H _ I h) λv s1 h1=>bL h1 λitv s2 h2=>?_) hs;let(it,fp,tn,J,H2,e,I2,T,st2,f2,W,(m0,w0),turn):=h2;subst e;have stat:∀{H':Hp},(∀b∈fp,H' b=none)->∀b∈fp,fV X pins H' b:=λhn b hb=>(hn b hb,(f2 b hb).2);refine codeAny_forLoop_any (λn s'=>∃i σ' H',Inv X pins σ' H' s'/\tn i s'.heap/\(∀b∈fp,H' b=none)/\W i n σ' H') ?_ m0 (0,Z,H2,I2,st2,λb hb=>(f2 b hb).1,w0);rintro n s3 ⟨i,σ3,H3,I3,st3,fr3,w3⟩;rcases turn i n σ3 H3 w3 with ⟨stop,qn⟩|⟨go,N,hN,step⟩
 ·refine N_ hp (bL (T.done X rfl rfl rfl hc i pins s3 σ3 H3 X.xe I3 (stat fr3) st3 stop) λr s4 (hr,I4)=>?_);subst hr;exact OV (σ3,H3,I4,qn)
 ·refine N_ hp (bL (T.item X rfl rfl rfl hc i pins s3 σ3 H3 X.xe I3 (stat fr3) st3 go) λr s4 (u,hr,h4)=>?_);subst hr;refine N_ hp (bL h4 λ_ s5 (x,H5,I5,r5,y5,st5,fr5)=>?_);have I5':=I5.pinned (stat fr5) (T.obj _ _ st5);refine N_ hp (bL (hg _ s5 σ3 H5 x u _ I5' r5 (step x H5 y5)) λ_ s6 (σ6,H6,I6,q6)=>(N_ hp (bL (hb _ s6 σ6 H6 _ I6 q6) λf s7 q7=>?_)));have again:∀{σ7:St}{H7:Hp},Inv X (pins++nO fp s5.heap) σ7 H7 s7->N σ7 H7->∃m,m<n/\∃i σ' H',Inv X pins σ' H' s7/\tn i s7.heap/\(∀b∈fp,H' b=none)/\W i m σ' H':=λ{σ7 H7} I7 n7=>by
   let(m',hm,w7):=hN σ7 H7 n7;refine(m',hm,i+1,σ7,H7,I7.kq,T.keep _ _ _ st5 λb hb o e=>(I7.pin ⟨b,o⟩ (eW _ (eW _ (gJ hb e)))).1,λb hb=>?_,w7);let(o,e,d):=T.obj _ _ st5 b hb;exact(I7.pin ⟨b,o⟩ (eW _ (eW _ (gJ hb e)))).2.1
  cases f with
  |next=>let(σ7,H7,I7,n7):=q7;exact again I7 n7
  |cont=>let(σ7,H7,I7,n7):=q7;exact again I7 n7
  |brk=>let(σ7,H7,I7,q7):=q7;exact(σ7,H7,I7.kq,q7)
  |ret v=>let(x7,σ7,H7,I7,r7,q7):=q7;exact(x7,σ7,H7,I7.kq,r7,q7)
end
def BR{K:Wf}{a:Addr}{xs:List V}{g:TG}{tb:TS}{D:Ends}{Z:St}{H:Hp}(Pv:Nat->St->Hp->Prop)(h0:Pv 0 Z H)(hl:∀i Z H,i<=xs.length->Pv i Z H->az K H a xs)
  (hs:∀i x Z H,xs[i]?=some x->Pv i Z H->g x Z H λσ2 H2=>tb { D with nx:=Pv (i+1),ct:=Pv (i+1),bk:=D.nx } σ2 H2) (hd:∀Z H,Pv xs.length Z H->D.nx Z H):
  ∃W:Nat->Nat->St->Hp->Prop,(∃m,W 0 m Z H)/\∀i m Z H,W i m Z H->
   ((BD K a).stop i H/\D.nx Z H)\/((BD K a).go i H/\∃N:St->Hp->Prop,(∀σ' H',N σ' H'->∃m',m'<m/\W (i+1) m' σ' H')/\∀x H',(BD K a).A5 i H x H'->g x Z H' λσ2 H2=>tb { D with nx:=N,ct:=N,bk:=D.nx } σ2 H2):=by
 refine(λi m Z H=>m=xs.length - i/\i<=xs.length/\Pv i Z H,(xs.length,by simp,Nat.zero_le _,h0),?_);rintro i m Z H ⟨rfl,hi,p⟩;have q:=hl i Z H hi p;by_cases hlt:i<xs.length
 ·refine .inr ((xs,xs[i],q,by simp),Pv (i+1),λσ' H' p'=>(xs.length - (i+1),by lia,rfl,hlt,p'),λx H' y=>?_);let(e,y):=y;subst e;exact hs i x Z _ (y xs q) p
 ·have e:i=xs.length:=by lia
  subst e;exact .inl ((xs,q,bJ _),hd Z H p)
def Iq{K:Wf}{a:Addr}{xs:List V}{g:TG}{tb:TS}{D:Ends}{Z:St}{H:Hp}(Pv:Nat->St->Hp->Prop)(h0:Pv 0 Z H)(hl:∀i Z H,i<=xs.length->Pv i Z H->bc K H a xs)
  (hs:∀i x Z H,xs[i]?=some x->Pv i Z H->g x Z H λσ2 H2=>tb { D with nx:=Pv (i+1),ct:=Pv (i+1),bk:=D.nx } σ2 H2) (hd:∀Z H,Pv xs.length Z H->D.nx Z H):
  ∃W:Nat->Nat->St->Hp->Prop,(∃m,W 0 m Z H)/\∀i m Z H,W i m Z H->
   ((MU K a).stop i H/\D.nx Z H)\/((MU K a).go i H/\∃N:St->Hp->Prop,(∀σ' H',N σ' H'->∃m',m'<m/\W (i+1) m' σ' H')/\∀x H',(MU K a).A5 i H x H'->g x Z H' λσ2 H2=>tb { D with nx:=N,ct:=N,bk:=D.nx } σ2 H2):=by
 refine(λi m Z H=>m=xs.length - i/\i<=xs.length/\Pv i Z H,(xs.length,by simp,Nat.zero_le _,h0),?_);rintro i m Z H ⟨rfl,hi,p⟩;have q:=hl i Z H hi p;by_cases hlt:i<xs.length
 ·refine .inr ((xs,xs[i],q,by simp),Pv (i+1),λσ' H' p'=>(xs.length - (i+1),by lia,rfl,hlt,p'),λx H' y=>?_);let(e,y):=y;subst e;exact hs i x Z _ (y xs q) p
 ·have e:i=xs.length:=by lia
  subst e;exact .inl ((xs,q,bJ _),hd Z H p)
def Am{lo:Int}{n:Nat}{g:TG}{tb:TS}{D:Ends}{Z:St}{H:Hp}(Pv:Nat->St->Hp->Prop)(h0:Pv 0 Z H)
  (hs:∀i Z H,i<n->Pv i Z H->g (.int (lo+i)) Z H λσ2 H2=>tb { D with nx:=Pv (i+1),ct:=Pv (i+1),bk:=D.nx } σ2 H2) (hd:∀Z H,Pv n Z H->D.nx Z H):
  ∃W:Nat->Nat->St->Hp->Prop,(∃m,W 0 m Z H)/\∀i m Z H,W i m Z H->
   ((Gu lo n).stop i H/\D.nx Z H)\/((Gu lo n).go i H/\∃N:St->Hp->Prop,(∀σ' H',N σ' H'->∃m',m'<m/\W (i+1) m' σ' H')/\∀x H',(Gu lo n).A5 i H x H'->g x Z H' λσ2 H2=>tb { D with nx:=N,ct:=N,bk:=D.nx } σ2 H2):=by
 refine(λi m Z H=>m=n - i/\i<=n/\Pv i Z H,(n,by simp,Nat.zero_le _,h0),?_);rintro i m Z H ⟨rfl,hi,p⟩;by_cases hlt:i<n
 ·refine .inr (hlt,Pv (i+1),λσ' H' p'=>(n - (i+1),by lia,rfl,hlt,p'),λx H' y=>?_);let(e,y):=y;subst e y;exact hs i Z _ hlt p
 ·have e:i=n:=by lia
  subst e;exact .inl (bJ _,hd Z H p)
abbrev R2:=V->V->Hp->VK->Prop
def dH(X:Cx)(f:Value->Value->Sem Value)(r:R2):Prop:=
 ∀(pins:Lo) (s:Shared) (Z:St) (H:Hp) (x y:V) (v u:Value) (Q:VK),Inv X pins Z H s->RelV x v->RelV y u->r x y H Q->
  wpAny 'c' X.A (f v u) (EP X pins Z Q) X.xe s
def S6(X:Cx)(f:Value->Sem Value)(r:V->Hp->VK->Prop):Prop:=
 ∀(pins:Lo) (s:Shared) (Z:St) (H:Hp) (x:V) (v:Value) (Q:VK),Inv X pins Z H s->RelV x v->r x H Q->
  wpAny 'c' X.A (f v) (EP X pins Z Q) X.xe s
def bP(X:Cx)(f:Value)(r:List V->Hp->VK->Prop):Prop:=
 ∀(pins:Lo) (s:Shared) (Z:St) (H:Hp) (xs:List V) (us:List Value) (Q:VK),Inv X pins Z H s->Vals xs us->r xs H Q->
  wpAny 'c' X.A (call f us) (EP X pins Z Q) X.xe s
def UH(X:Cx)(r:V->Hp->(Bool->Hp->Prop)->Prop):Prop:=
 ∀(pins:Lo) (s:Shared) (Z:St) (H:Hp) (x:V) (v:Value) (Q:Bool->Hp->Prop),Inv X pins Z H s->RelV x v->r x H Q->
  wpAny 'c' X.A (truthy v) (TP X pins Z Q) X.xe s
def Bj(r:R2)(ta tb:TE):TE:=λZ H Q=>ta Z H λx H1=>tb Z H1 λy H2=>r x y H2 Q
def Yp(r:V->Hp->VK->Prop)(ta:TE):TE:=λZ H Q=>ta Z H λx H1=>r x H1 Q
def rI(C:Int->Int->Prop)(g:Int->Int->V):R2:=λx y H Q=>∃i j,x=.int i/\y=.int j/\C i j/\Q (g i j) H
def HV(g:Int->Int->V):R2:=λx y H Q=>∃i j,x=.int i/\y=.int j/\Q (g i j) H
def rU(g:Int->V):V->Hp->VK->Prop:=λx H Q=>∃i,x=.int i/\Q (g i) H
section
variable{X:Cx}{a b c:Expr}{ta tb tc:TE}{pos:Pos}
def Nv(ha:PE X a ta)(hb:PE X b tb){pins:Lo}{s:Shared}{Z:St}{H:Hp}{R:V->V->Hp->Prop}(I:Inv X pins Z H s)
  (h:ta Z H λx H1=>tb Z H1 λy H2=>R x y H2) {Q:Vs}{f:Value->Value->Sem Value}
  (hf:∀v u s2 x y H2,Inv X pins Z H2 s2->RelV x v->RelV y u->R x y H2->wpAny 'c' X.A (f v u) Q X.xe s2):
  wpAny 'c' X.A (eval a X.env) (λv s₁=>wpAny 'c' X.A (eval b X.env) (λu s₂=>wpAny 'c' X.A (f v u) Q X.xe s₂) X.xe s₁) X.xe s:=by
 exact bL (ha pins s Z H _ I h) λv s1 (x,H1,I1,r1,q1)=>(bL (hb pins s1 Z H1 _ I1 q1) λu s2 (y,H2,I2,r2,q2)=>(hf v u s2 x y H2 I2 r1 r2 q2))
def aA(ho:dH X (binaryOp op) r)(ha:PE X a ta)(hb:PE X b tb):PE X (.BinOp a op b pos) (Bj r ta tb):=by
 intro pins s Z H Q I h;exact wpAny_BinOp (Nv ha hb I h λv u s2 x y H2 I2 rx ry q=>ho pins s2 Z H2 x y v u Q I2 rx ry q)
def kz(ho:S6 X (unaryOp op) r)(ha:PE X a ta):PE X (.UnaryOp op a pos) (Yp r ta):=by
 intro pins s Z H Q I h;exact UnaryOp_ (bL (ha pins s Z H _ I h) λv s1 (x,H1,I1,r1,q1)=>ho pins s1 Z H1 x v Q I1 r1 q1)
def Rn{f:Value->Value->Sem Value}{C:Int->Int->Prop}{g:Int->Int->Int}
  (rule:∀(i j:Int) (t u:Tok) (s:Shared) (Q:Vs) (E:Vs),C i j->Q (.int (g i j) s.toks) { s with toks:=s.toks+1 }->wpAny 'c' X.A (f (.int i t) (.int j u)) Q E s):
  dH X f (rI C λi j=>.int (g i j)):=by
 intro pins s Z H x y v u Q I rx ry h;let(i,j,rfl,rfl,hc,q):=h;let(t,rfl):=rx;let(t',rfl):=ry;exact rule i j t t' s _ _ hc (.int (g i j),H,I.tok _,(_,rfl),q)
def HS{f:Value->Value->Sem Value}{g:Int->Int->Int}
  (rule:∀(i j:Int) (t u:Tok) (s:Shared) (Q:Vs) (E:Vs),Q (.int (g i j) s.toks) { s with toks:=s.toks+1 }->wpAny 'c' X.A (f (.int i t) (.int j u)) Q E s):
  dH X f (HV λi j=>.int (g i j)):=by
 intro pins s Z H x y v u Q I rx ry h;let(i,j,rfl,rfl,q):=h;let(t,rfl):=rx;let(t',rfl):=ry;exact rule i j t t' s _ _ (.int (g i j),H,I.tok _,(_,rfl),q)
def Qn{f:Value->Value->Sem Value}{g:Int->Int->Bool}
  (rule:∀(i j:Int) (t u:Tok) (s:Shared) (Q:Vs) (E:Vs),Q (.bool (g i j)) s->wpAny 'c' X.A (f (.int i t) (.int j u)) Q E s):
  dH X f (HV λi j=>.bl (g i j)):=by
 intro pins s Z H x y v u Q I rx ry h;let(i,j,rfl,rfl,q):=h;let(t,rfl):=rx;let(t',rfl):=ry;exact rule i j t t' s _ _ (.bl (g i j),H,I,rfl,q)
def Oi(i j:Int):Prop:=0<j/\j<1073741824
def Ux(i j:Int):Prop:=0<=j/\j<=1000000/\i.natAbs<2 ^ 64
def GI(i j:Int):Prop:=(-(2 ^ 64)<i/\i<2 ^ 64)\/(-(2 ^ 64)<j/\j<2 ^ 64)
def GI.ok{i j:Int}(h:GI i j):IntMulOk i j:=by
 rcases h with ⟨h1,h2⟩|⟨h1,h2⟩
 ·exact .of_left (intBits_le_64 h1 h2)
 ·exact .of_right (intBits_le_64 h1 h2)
def vp(k:Nat):(0:Int)<=2 ^ k:=by
 exact RK _
theorem Lx:dH X (binaryOp .Add) (HV λi j=>.int (i+j)):=HS λ_ _ _ _ _ _ _ q=>add_int q
theorem M0:dH X (binaryOp .Sub) (HV λi j=>.int (i - j)):=HS λ_ _ _ _ _ _ _ q=>sub_int q
theorem M5:dH X (binaryOp .Mult) (rI GI λi j=>.int (i*j)):=Rn λ_ _ _ _ _ _ _ hc q=>mul_int q hc.ok
theorem IG:dH X (binaryOp .FloorDiv) (rI Oi λi j=>.int (i/j)):=Rn λi j _ _ _ _ _ hc q=>by
 have h1:=hc.1;have h2:=hc.2;exact floordiv_int (by lia) (by rw[Int.fdiv_eq_ediv_of_nonneg i (by lia)];exact q) (.inl (PyProof.noPylong_small (by lia)))
theorem Of:dH X (binaryOp .Mod) (rI (λ_ j=>0<j) λi j=>.int (i%j)):=Rn λi j _ _ _ _ _ hc q=>by
 exact mod_int' (by lia) (by rw[Int.fmod_eq_emod_of_nonneg i (by lia)];exact q)
theorem DS:dH X (binaryOp .LShift) (rI Ux λi j=>.int (i*2 ^ j.toNat)):=Rn λ_ _ _ _ _ _ _ hc q=>lshift_int_small hc.1 hc.2.1 hc.2.2 q
theorem Nz:dH X (binaryOp .RShift) (rI (λ_ j=>0<=j) λi j=>.int (i/2 ^ j.toNat)):=Rn λi j _ _ _ _ _ hc q=>
 rshift_int hc ((Int.fdiv_eq_ediv_of_nonneg i (vp _))▸q)
theorem OM:dH X (binaryOp .BitAnd) (HV λi j=>.int (Builtin.bitAnd i j)):=HS λ_ _ _ _ _ _ _ q=>and_int q
theorem PX:dH X (binaryOp .BitOr) (HV λi j=>.int (Builtin.bitOr i j)):=HS λ_ _ _ _ _ _ _ q=>or_int q
def W2{f:Value->Sem Value}{g:Int->Int}
  (rule:∀(i:Int) (t:Tok) (s:Shared) (Q:Vs) (E:Vs),Q (.int (g i) s.toks) { s with toks:=s.toks+1 }->wpAny 'c' X.A (f (.int i t)) Q E s):
  S6 X f (rU λi=>.int (g i)):=by
 intro pins s Z H x v Q I rx h;let(i,rfl,q):=h;let(t,rfl):=rx;exact rule i t s _ _ (.int (g i),H,I.tok _,(_,rfl),q)
theorem hW:S6 X (unaryOp .USub) (rU λi=>.int (-i)):=W2 λ_ _ _ _ _ q=>neg_int q
theorem Oy:S6 X (unaryOp .Invert) (rU λi=>.int (Builtin.bitNot i)):=W2 λ_ _ _ _ _ q=>invert_int q
end
def gW:V->V->Bool
 |.bw,.bw=>true|.bw,.int _=>true|.int _,.bw=>true|.bw,.bl _=>true|.bl _,.bw=>true|.bw,.str _=>true|.str _,.bw=>true
 |.int _,.int _=>true|.bl _,.bl _=>true|.str _,.str _=>true|.vb _,.vb _=>true
 |.int _,.str _=>true|.str _,.int _=>true|.bl _,.str _=>true|.str _,.bl _=>true
 |_,_=>false
theorem YI:gW .bw .bw=true:=rfl
theorem YK:gW .bw (.int i)=true:=rfl
theorem YE:gW (.int i) .bw=true:=rfl
theorem YG:gW .bw (.bl i)=true:=rfl
theorem YH:gW (.bl i) .bw=true:=rfl
theorem YN:gW .bw (.str i)=true:=rfl
theorem YL:gW (.str i) .bw=true:=rfl
theorem YF:gW (.int i) (.int j)=true:=rfl
theorem YM:gW (.bl i) (.bl j)=true:=rfl
theorem YJ:gW (.str i) (.str j)=true:=rfl
theorem XF:gW (.int i) (.str j)=true:=rfl
theorem Yh:gW (.str i) (.int j)=true:=rfl
theorem XR:gW (.bl i) (.str j)=true:=rfl
theorem XX:gW (.str i) (.bl j)=true:=rfl
def X8:R2:=λx y H Q=>gW x y=true/\Q (.bl (decide (x=y))) H
def YA:R2:=λx y H Q=>gW x y=true/\Q (.bl (!decide (x=y))) H
def xM:decide (V.int i=V.int j)=(i == j):=by
 rw[Jy];simp
def Dr:decide (V.bl i=V.bl j)=(i == j):=by
 rw[Jy];simp
def x8:decide (V.str i=V.str j)=(i == j):=by
 rw[Jy];simp
def xN:decide (V.vb i=V.vb j)=(i.toList == j.toList):=by
 rw[Jy];cases i;cases j;simp
section
variable{X:Cx}{a b c:Expr}{ta tb tc:TE}{pos:Pos}
def bj{pins:Lo}{Z:St}{H:Hp}{s:Shared}{Q:VK}{k k':Bool}(I:Inv X pins Z H s)(q:Q (.bl k) H)(e:k=k'):EP X pins Z Q (.bool k') s:=by
 subst e;exact(.bl k,H,I,rfl,q)
def Rm:dH X (compareOp .Eq) X8:=by
 intro pins s Z H x y v u Q I rx ry h;let(hs,q):=h;cases x with
 |bw=>
  cases rx;cases y with
  |bw=>cases ry;exact PySem.EqNone.eq_none_none 'm'
  |bl j=>cases ry;exact PySem.EqNone.eq_none_bool 'm'
  |int j=>let(t',rfl):=ry;exact PySem.EqNone.eq_none_int 'm'
  |str j=>let(t',rfl):=ry;exact PySem.EqNone.eq_none_str 'm'
  |_=>exact absurd (show false=true from hs) n8
 |bl i=>
  cases rx;cases y with
  |bw=>cases ry;exact PySem.EqNone.eq_bool_none 'm'
  |bl j=>cases ry;exact eq_bool (bj I q Dr)
  |str j=>let(t',rfl):=ry;exact PySem.EqMixed.eq_bool_str 'm'
  |_=>exact absurd (show false=true from hs) n8
 |int i=>
  let(t,rfl):=rx;cases y with
  |bw=>cases ry;exact PySem.EqNone.eq_int_none 'm'
  |int j=>let(t',rfl):=ry;exact eq_int (bj I q xM)
  |str j=>let(t',rfl):=ry;exact PySem.EqMixed.eq_int_str 'm'
  |_=>exact absurd (show false=true from hs) n8
 |str i=>
  let(t,rfl):=rx;cases y with
  |bw=>cases ry;exact PySem.EqNone.eq_str_none 'm'
  |bl j=>cases ry;exact PySem.EqMixed.eq_str_bool 'm'
  |int j=>let(t',rfl):=ry;exact PySem.EqMixed.eq_str_int 'm'
  |str j=>let(t',rfl):=ry;exact eq_str (bj I q x8)
  |_=>exact absurd (show false=true from hs) n8
 |vb i=>
  let(t,rfl):=rx;cases y with
  |vb j=>let(t',rfl):=ry;exact PySem.W.eq_bytes (bj I q xN)
  |_=>exact absurd (show false=true from hs) n8
 |_=>cases y<;>exact absurd (show false=true from hs) n8
def Q3:dH X (compareOp .NotEq) YA:=by
 intro pins s Z H x y v u Q I rx ry h;let(hs,q):=h;cases x with
 |bw=>
  cases rx;cases y with
  |bw=>cases ry;exact PySem.EqNone.ne_none_none 'm'
  |bl j=>cases ry;exact PySem.EqNone.ne_none_bool 'm'
  |int j=>let(t',rfl):=ry;exact PySem.EqNone.ne_none_int 'm'
  |str j=>let(t',rfl):=ry;exact PySem.EqNone.ne_none_str 'm'
  |_=>exact absurd (show false=true from hs) n8
 |bl i=>
  cases rx;cases y with
  |bw=>cases ry;exact PySem.EqNone.ne_bool_none 'm'
  |bl j=>cases ry;exact ne_bool (bj I q (congrArg not Dr))
  |str j=>let(t',rfl):=ry;exact PySem.EqMixed.ne_bool_str 'm'
  |_=>exact absurd (show false=true from hs) n8
 |int i=>
  let(t,rfl):=rx;cases y with
  |bw=>cases ry;exact PySem.EqNone.ne_int_none 'm'
  |int j=>let(t',rfl):=ry;exact ne_int (bj I q (congrArg not xM))
  |str j=>let(t',rfl):=ry;exact PySem.EqMixed.ne_int_str 'm'
  |_=>exact absurd (show false=true from hs) n8
 |str i=>
  let(t,rfl):=rx;cases y with
  |bw=>cases ry;exact PySem.EqNone.ne_str_none 'm'
  |bl j=>cases ry;exact PySem.EqMixed.ne_str_bool 'm'
  |int j=>let(t',rfl):=ry;exact PySem.EqMixed.ne_str_int 'm'
  |str j=>let(t',rfl):=ry;exact ne_str (bj I q (congrArg not x8))
  |_=>exact absurd (show false=true from hs) n8
 |vb i=>
  let(t,rfl):=rx;cases y with
  |vb j=>let(t',rfl):=ry;exact PySem.W.ne_bytes (bj I q (congrArg not xN))
  |_=>exact absurd (show false=true from hs) n8
 |_=>cases y<;>exact absurd (show false=true from hs) n8
theorem SH:dH X (compareOp .Lt) (HV λi j=>.bl (decide (i<j))):=Qn λ_ _ _ _ _ _ _ q=>lt_int q
theorem BZ:dH X (compareOp .Gt) (HV λi j=>.bl (decide (j<i))):=Qn λ_ _ _ _ _ _ _ q=>gt_int q
def Mg:dH X (compareOp .Is) (λx y H Q=>y=.bw/\Q (.bl (decide (x=.bw))) H):=by
 intro pins s Z H x y v u Q I rx ry h;let(rfl,q):=h;cases ry;refine is_none_gen (bj I q ?_);cases x<;>first
  | (cases rx;rfl)
  | (let(t,rfl):=rx;rfl)
def mh:dH X (compareOp .IsNot) (λx y H Q=>y=.bw/\Q (.bl (!decide (x=.bw))) H):=by
 intro pins s Z H x y v u Q I rx ry h;let(rfl,q):=h;cases ry;refine isnot_none_gen (bj I q ?_);cases x<;>first
  | (cases rx;rfl)
  | (let(t,rfl):=rx;rfl)
def aE(b:Expr){op:CmpOp}(h:op≠.In:=by decide)(h2:op≠.NotIn:=by decide):behindInMarks op b=false:=by
 have e1:(op == CmpOp.In)=false:=by cases op<;>first|rfl|exact absurd rfl h
 have e2:(op == CmpOp.NotIn)=false:=by cases op<;>first|rfl|exact absurd rfl h2
 cases b<;>simp[behindInMarks,e1,e2]
def eI(ho:dH X (compareOp op) r)(ha:PE X a ta)(hb:PE X b tb)(hm:behindInMarks op b=false):PE X (.Compare a [op] [b] pos) (Bj r ta tb):=by
 intro pins s Z H Q I h;exact wpAny_Compare1 (Nv ha hb I h λv u s2 x y H2 I2 rx ry q=>ho pins s2 Z H2 x y v u Q I2 rx ry q) hm
def FL(t:TE):TT:=λZ H Q=>t Z H λx H'=>∃k,x=.bl k/\Q k H'
def G4(ho:dH X (compareOp op) r)(ha:PE X a ta)(hb:PE X b tb)(hm:behindInMarks op b=false):PT X (.Compare a [op] [b] pos) (FL (Bj r ta tb)):=by
 intro pins s Z H Q I h;refine wpAny_isTrue_Compare1 (bL (ha pins s Z H _ I h) λv s1 (x,H1,I1,r1,q1)=>bL (hb pins s1 Z H1 _ I1 q1) λu s2 (y,H2,I2,r2,q2)=>
  bL (ho pins s2 Z H2 x y v u _ I2 r1 r2 q2) λc s3 (z,H3,I3,r3,k,e,q3)=>?_) hm
 subst e;cases r3;exact OS (H3,I3,q3)
def UG(r r':R2)(ta tb tc:TE):TE:=λZ H Q=>ta Z H λx H1=>tb Z H1 λy H2=>r x y H2 λz H3=>∃k,z=.bl k/\
 (if k=true then tc Z H3 λw' H4=>r' y w' H4 Q else Q (.bl false) H3)
def RB(K:Wf)(x:V)(H:Hp)(k:Bool):Prop:=
 match x with
 |.bw=>k=false
 |.bl b=>k=b
 |.int i=>k=(i != 0)
 |.str y=>y.length<=sizeLine/\k=((y.length:Int) != 0)
 |.vb y=>y.size<=sizeLine/\k=((y.size:Int) != 0)
 |.ref p=>(∃xs,az K H p xs/\k = !xs.isEmpty)\/(∃xs,bc K H p xs/\k = !xs.isEmpty)\/∃kvs,H p=some (.dK kvs)/\k = !kvs.isEmpty
 |_=>False
def wO{κ:Type}{kvs:List (κ×V)}{vs:List (κ×Value)}(r:KV kvs vs):(!vs.isEmpty) = !kvs.isEmpty:=by
 cases r<;>rfl
def nR(r:Vals xs its):(!its.toArray.isEmpty) = !xs.isEmpty:=by
 cases r<;>simp
def wW:(sizeLine:Nat)<2 ^ 63:=by rw[sizeLine_eq];decide
def Nd:UH X (λx H Q=>∃k,RB X.K x H k/\Q k H):=by
 intro pins s Z H x v Q I rx h;let(k,e,q):=h;have hs:=sizeLine_eq;cases x with
 |bw=>
  cases rx;have e':=e;subst e';exact truthy_none (H,I,q)
 |bl b=>
  cases rx;have e':=e;subst e';exact OS (H,I,q)
 |int i=>
  let(t,rfl):=rx;have e':=e;subst e';exact PySem.P.truthy_int (H,I,q)
 |str y=>
  let(t,rfl):=rx;obtain⟨hy,e'⟩:y.length<=sizeLine/\k=((y.length:Int) != 0):=e;subst e';exact PySem.P.truthy_str (by lia) (H,I.tok _,q)
 |vb y=>
  let(t,rfl):=rx;obtain⟨hy,e'⟩:y.size<=sizeLine/\k=((y.size:Int) != 0):=e;subst e';exact PySem.W.truthy_bytes (by lia) (H,I.tok _,q)
 |ref p=>
  cases rx;have e':=e;rcases e' with ⟨xs,hx,e'⟩|⟨xs,hx,e'⟩|⟨kvs,hx,e'⟩
  ·subst e';let(its,r,pl,hz):=I.list hx;have hlen:=r.length;exact wpAny_truthy_list pl.isList (by simp only[List.size_toArray];omega) (H,I.tok _,(nR r)▸q)
  ·subst e';let(its,r,pl,hz):=I.tuple hx;have hlen:=r.length;exact truthy_tuple pl (by simp only[List.size_toArray];omega) (H,I.tok _,(nR r)▸q)
  ·subst e';obtain⟨hz,hS,vs,r,m⟩:kvs.length<=sizeLine/\(p == sysModules)=false/\∃vs,KV kvs vs/\s.heap.DictOf (bu X.prog X.w) p vs:=I.aP p _ hx;have hlen:=Paired.length r;exact wpAny_truthy_dict hS m (by lia) (H,I.tok _,(wO r)▸q)
 |_=>exact e.elim
def mS(ha:PE X a ta)(he:∀whole,isTrue a X.env whole=(do let v <-whole;standAt a.pos;holding [v] (truthy v))):
  PT X a (λZ H Q=>ta Z H λx H'=>∃k,RB X.K x H' k/\Q k H'):=by
 intro pins s Z H Q I h;exact isTrue_plain (bL (ha pins s Z H _ I h) λv s1 (x,H1,I1,r1,q1)=>Nd pins s1 Z H1 x v Q I1 r1 q1) (he _)
def wH:dH X (binaryOp .Add) (λx y H Q=>∃i j,x=.str i/\y=.str j/\i.length+j.length<=sizeLine/\Q (.str (i++j)) H):=by
 intro pins s Z H x y v u Q I rx ry h;let(i,j,rfl,rfl,hz,q):=h;let(t,rfl):=rx;let(t',rfl):=ry;exact add_str (λt' tk=>(.str (i++j),H,I.tok _,(_,rfl),q)) hz
def vals1(r:Vals [x] us):∃u,us=[u]/\RelV x u:=by
 cases r with
 |cons r1 r2=>cases r2;exact(_,rfl,r1)
def vals2(r:Vals [x,y] us):∃u w',us=[u,w']/\RelV x u/\RelV y w':=by
 cases r with
 |cons r1 r2=>
  cases r2 with
  |cons r3 r4=>cases r4;exact(_,_,rfl,r1,r3)
def Du:bP X (.builtin "abs") (λxs H Q=>∃i,xs=[.int i]/\Q (.int (if i<0 then -i else i)) H):=by
 intro pins s Z H xs us Q I r h;let(i,rfl,q):=h;let(u,rfl,t,rfl):=vals1 r;exact call_abs_int λu tk=>(.int (if i<0 then -i else i),H,I.tok _,(_,rfl),q)
def zE(hc:X.calm=true):bP X (.builtin "max") (λxs H Q=>∃i j,xs=[.int i,.int j]/\Q (.int (if j>i then j else i)) H):=by
 intro pins s Z H xs us Q I r h;let(i,j,rfl,q):=h;let(u,w',rfl,(t,rfl),(t',rfl)):=vals2 r;refine max_two_ints (I.ok.hd hc) λh' tk k=>(_,H,I.kept k,?_,q);by_cases hj:j>i
 ·rw[if_pos hj,if_pos hj];exact(_,rfl)
 ·rw[if_neg hj,if_neg hj];exact(_,rfl)
def pI:bP X (.type "int") (λxs H Q=>(∃i,xs=[.int i]/\Q (.int i) H)\/∃k,xs=[.bl k]/\Q (.int (if k then 1 else 0)) H):=by
 intro pins s Z H xs us Q I r h;rcases h with ⟨i,rfl,q⟩|⟨k,rfl,q⟩
 ·let(u,rfl,t,rfl):=vals1 r;exact call_int_int (.int i,H,I,(_,rfl),q)
 ·let(u,rfl,r1):=vals1 r;cases r1;exact call_int_bool (.int (if k then 1 else 0),H,I.tok _,(_,rfl),q)
def Mb(K:Wf)(x:V)(H:Hp)(n:Nat):Prop:=
 match x with
 |.str y=>y.length<=sizeLine/\n=y.length
 |.vb y=>y.size<=sizeLine/\n=y.size
 |.ref p=>(∃xs,az K H p xs/\n=xs.length)\/∃xs,bc K H p xs/\n=xs.length
 |_=>False
def CZ:bP X (.builtin "len") (λxs H Q=>∃x n,xs=[x]/\Mb X.K x H n/\Q (.int n) H):=by
 intro pins s Z H xs us Q I r h;let(x,n,rfl,e,q):=h;let(u,rfl,rx):=vals1 r;have hs:=sizeLine_eq;cases x with
 |str y=>
  let(t,rfl):=rx;obtain⟨hy,e'⟩:y.length<=sizeLine/\n=y.length:=e;subst e';exact len_str (by lia) (.int _,H,I.tok _,(_,rfl),q)
 |vb y=>
  let(t,rfl):=rx;obtain⟨hy,e'⟩:y.size<=sizeLine/\n=y.size:=e;subst e';exact PySem.W.len_bytes (by lia) (.int _,H,I.tok _,(_,rfl),q)
 |ref p=>
  cases rx;have e':=e;rcases e' with ⟨xs,hx,e'⟩|⟨xs,hx,e'⟩
  ·subst e';let(its,r',pl,hz):=I.list hx;have hlen:=r'.length;exact Calls.call_len_list pl.isList (by simp only[List.size_toArray];omega) (.int xs.length,H,I.tok _,(_,by simp only[List.size_toArray];rw[hlen]),q)
  ·subst e';let(its,r',pl,hz):=I.tuple hx;have hlen:=r'.length;exact len_tuple pl (by simp only[List.size_toArray];omega) (.int xs.length,H,I.tok _,(_,by simp only[List.size_toArray];rw[hlen]),q)
 |_=>exact e.elim
end
structure wZ(h:Heap)(x dx C:Addr)(mA:So):Prop where
 obj:h.get? x=some (instObj C dx)
 ns:h.Ns1 dx mA
 ne:dx≠x
def p9{h:Heap}{dx:Addr}{mA:So}(n:h.Ns1 dx mA):∃od,h.get? dx=some od/\∀name,lookIn name od=some (mA name):=by
 let(o,es,ep,ho,hd,hk,_,hm):=n;refine(o,ho,λname=>?_);have e:=hm name;unfold nsFind findBy at e;rw[<-Array.find?_toList]at e;unfold lookIn;rw[hd];dsimp only;split
 ·rename_i y q;rw[q]at e;exact congrArg some e
 ·rename_i q;rw[q]at e;have a:es.toList.any (·.refKey)=false:=by
   rw[List.any_eq_false];intro y hy;let(z,t,hkey):=hk y (Array.mem_toList_iff.mp hy);simp[DictEntry.refKey,hkey]
  have a':¬es.toList.any (·.refKey)=true:=a▸n8;exact(if_neg a')▸congrArg some e
theorem wZ.look(I:wZ h x dx C mA):∃od,PySem.W.InstAt h x (instObj C dx) C (some od)/\∀name,lookIn name od=some (mA name):=
 let (od,ho,hl):=p9 I.ns
 (od,(I.obj,rfl,rfl,ho),hl)
section
variable{prog:Program}{w:World}{A:Around}{E:Vs}{s:Shared}{K:Wf}{x dx C f:Addr}{mA:So}{name:Str}{v:Value}
def get_map{expr:Bool}{Q:Vs}(X:K.In s.heap)(I:wZ s.heap x dx C mA)(hg:plainGet K C name=true)(hh:hasDictIn K C=true)
  (ha:findIn K (.ref C) name=some none) (hv:mA name=some v) (hv':handedIn v=true) (h:Q v { s with toks:=s.toks+1 }):
  wpAny 'b' A (getAttr (.ref x) name expr) Q E s:=by
 let(od,J,hl):=I.look;exact PySem.W.get_value X J (plainGet_of hg).1 (PySem.W.findObj_own hh ha rfl (by rw[hl,hv])) hv' h
def D8(X:K.In s.heap)(I:wZ s.heap x dx C mA)(hg:plainGet K C name=true)
  (hf:findIn K (.ref C) name=some (some (.ref f))) (ht:isFn K (.ref f)=true) (hv:mA name=none) (h:Q ⟨.ref f,[.ref x]⟩ s):
  wpAny 'b' A (getMethod (.ref x) name pl) Q E s:=by
 let(od,J,hl):=I.look;exact PySem.W.method_fn X J (plainGet_of hg).1 (plainGet_of hg).2 hf (beq_iff_eq.mp ht) (by show(lookIn name od).map (·.isSome)=some false;rw[hl,hv];rfl) h
def GH(X:K.In s.heap)(I:wZ s.heap x dx C mA)
  (hs:findIn K (.ref C) "__setattr__" = some (some (.builtin "object.__setattr__"))) (hp:plainOver K C=true) (ht:takerIn K C name=some none) (hh:hasDictIn K C=true)
  (hw:PySem.Within mA ns) (hsz:ns.length<=sizeLine)
  (h:∀h',wZ h' x dx C (λy=>if y=name then some v else mA y)->Heap.SameBut dx s.heap h'->Q () { s with heap:=h',toks:=s.toks+2 }):
  wpAny 'b' A (setAttr (.ref x) name v) Q E s:=by
 let(od,J,hl):=I.look;refine PySem.W.set_plain X J hs (PySem.W.osa_open X J hp ht λb=>?_);let(cd,hc,hd'):=PySem.W.any_some hh;have hx:=I.obj;refine aB (bp (aB (aB (wpAny_loadPart hx (aB (PySem.W.Looks.here (PySem.W.looks_clsIn X hc) ?_))))));rw[hd'];refine bp (aB (bp (aB (wpAny_nsSet1 I.ns λh' hn2 hs2=>?_))));let(oD,esD,epD,hoD,hdD,hcD):=hn2.count (PySem.Within.cons name v hw);exact aB (wpAny_lookBehind hoD (hdD▸pastItsLine_dict (fF hcD (by rw[oY];lia))) (bp (h _ ((hs2.2 _ (Ne.symm I.ne)).trans I.obj,hn2,I.ne) hs2)))
def tG(X:K.In s.heap)(hm:makesIn K C=true)
  (hi:findIn K (.ref C) "__init__" = some (some (.ref f))) (hf:PySem.W.typeIn K (.ref f)=some (.type "function"))
  (h:codeAny 'b' (A.under (.builtin "type.__call__" (.ref C::vs,kw))) (.call (.ref f) (.ref 'i'::vs,kw)) (PySem.W.InitBack 'i' R)
   { s with heap:=(s.heap.push emptyDict).push (instObj C s.heap.objs.size) }):
  codeAny 'b' A (.call (.ref C) (vs,kw)) R s:=by
 exact PySem.W.make_core (PySem.W.makes_of X hm) (PySem.W.looks_findIn X hi) (λself=>PySem.W.bind_fn X self hf) (.inl rfl) h
end
def putF(f:Str)(v:V):List (Str×V)->List (Str×V)
 |[]=>[⟨f,v⟩]
 | ⟨g,x⟩::r=>if g=f then ⟨g,v⟩::r else ⟨g,x⟩::putF f v r
theorem hU(f g:Str)(v:V):∀fs:List (Str×V),(putF f v fs).lookup g=if g=f then some v else fs.lookup g
 |[]=>by
  show List.lookup g [⟨f,v⟩]=_;by_cases h:g=f
  ·simp_all
  ·simp_all
 | ⟨k,x⟩::r=>by
  have ih:=hU f g v r;rw[show putF f v (⟨k,x⟩::r)=(if k=f then ⟨k,v⟩::r else ⟨k,x⟩::putF f v r) from rfl];by_cases hk:k=f
  ·rw[if_pos hk];by_cases h:g=k
   ·simp_all
   ·have hb:=beq_eq_false_iff_ne.mpr h;simp only[List.lookup,hb,if_neg (λe:g=f=>h (e.trans hk.symm))]
  ·rw[if_neg hk];by_cases h:g=k
   ·simp_all
   ·have hb:=beq_eq_false_iff_ne.mpr h;simp only[List.lookup,hb];exact ih
theorem gb(f:Str)(v:V):∀fs:List (Str×V),f∈(putF f v fs).map (·.1)/\∀g,g∈fs.map (·.1)->g∈(putF f v fs).map (·.1)
 |[]=>(by simp[putF],λg h=>by simp at h)
 | ⟨k,x⟩::r=>by
  let(i1,i2):=gb f v r;rw[show putF f v (⟨k,x⟩::r)=(if k=f then ⟨k,v⟩::r else ⟨k,x⟩::putF f v r) from rfl];by_cases hk:k=f
  ·simp_all
  ·rw[if_neg hk];refine(?_,λg h=>?_)
   ·exact jQ _ i1
   ·rcases eP.mp h with e|e
    ·exact eP.mpr (.inl e)
    ·exact jQ _ (i2 g e)
theorem lg(f:Str)(v:V):∀fs:List (Str×V),(putF f v fs).length<=fs.length+1
 |[]=>by simp[putF]
 | ⟨k,x⟩::r=>by
  have ih:=lg f v r;rw[show putF f v (⟨k,x⟩::r)=(if k=f then ⟨k,v⟩::r else ⟨k,x⟩::putF f v r) from rfl];by_cases hk:k=f
  ·simp_all
  ·simp_all
def eX.some_of(r:eX (some v) o):∃u,o=some u/\RelV v u:=by
 cases o with
 |none=>exact r.elim
 |some u=>exact(u,rfl,r)
def eX.none_of(r:eX none o):o=none:=by
 cases o with
 |none=>rfl
 |some u=>exact r.elim
def pQ(r:RelV v u):handedIn u=true:=by
 cases v with
 |bw=>cases r;rfl
 |bl b=>cases r;rfl
 |int i=>let(t,e):=r;cases e;rfl
 |str x=>let(t,e):=r;cases e;rfl
 |vb b=>let(t,e):=r;cases e;rfl
 |Mr b=>let(t,e):=r;cases e;rfl
 |ref a=>cases r;rfl
 |ty n=>cases r;rfl
section
variable{P:Program}{w:World}{H H':Hp}{h h':Heap}{a C dx:Addr}{fs fs':List (Str×V)}
def md(aP:gA P w H h)(e:H a=some (.ins C dx fs)):∃mA,wZ h a dx C mA/\(∀f,eX (fs.lookup f) (mA f))/\PySem.Within mA (fs.map (·.1))/\fs.length<=1000/\H dx=some (.own a):=by
 let(d,z,ne,ob,mA,n,r,q):=(aP a _ e)
 exact(mA,(ob,n,ne),r,q,z,d)
end
structure pY(K:Wf)(C:Addr):Prop where
 pg:plainGet K C Str.empty=true
 hd:hasDictIn K C=true
 po:plainOver K C=true
 sa:findIn K (.ref C) "__setattr__" = some (some (.builtin "object.__setattr__"))
theorem pY.get{K:Wf}{C:Addr}(c:pY K C)(f:Str):plainGet K C f=true:=c.pg
def aW(K:Wf)(C:Addr)(f:Str):Prop:=findIn K (.ref C) f=some none
def aW.Py{K:Wf}{C:Addr}{f:Str}(n:aW K C f):takerIn K C f=some none:=by
 unfold takerIn;rw[n];rfl
structure Meth(K:Wf)(C:Addr)(m:Str)(f:Addr):Prop where
 at_:findIn K (.ref C) m=some (some (.ref f))
 fn:isFn K (.ref f)=true
 kp:keepIn K (.ref f)=true
section
variable{X:Cx}{pins:Lo}{Z:St}{H:Hp}{s:Shared}{a C dx:Addr}{fs:List (Str×V)}{f:Str}{v:V}{A:Around}{E:Vs}
def wU{b:Bool}{Q:Vs}(I:Inv X pins Z H s)(e:H a=some (.ins C dx fs))(c:pY X.K C)(n:aW X.K C f)(l:fs.lookup f=some v)
  (h:∀u s',Inv X pins Z H s'->RelV v u->Q u s'):wpAny 'c' A (getAttr (.ref a) f b) Q E s:=by
 let(mA,O,r,_,_,_):=md I.aP e;let(u,hu,ru):=eX.some_of (l▸r f);exact get_map I.gG O (c.get f) c.hd n hu (pQ ru) (h u _ (I.tok _) ru)
def mK(I:Inv X pins Z H s)(e:H a=some (.ins C dx fs))(c:pY X.K C)(k:Meth X.K C m g)(l:fs.lookup m=none)
  (h:Q ⟨.ref g,[.ref a]⟩ s):wpAny 'c' A (getMethod (.ref a) m pl) Q E s:=by
 let(mA,O,r,_,_,_):=md I.aP e;have hn:=eX.none_of (l▸r m);exact D8 I.gG O (c.get m) k.at_ k.fn hn h
def vS(I:Inv X pins Z H s)(e:H a=some (.ins C dx fs))(c:pY X.K C)(n:aW X.K C f)(hl:fs.length<1000)(ry:RelV y u)
  (h:∀s',Inv X pins Z (upd H a (.ins C dx (putF f y fs))) s'->Q () s'):wpAny 'c' A (setAttr (.ref a) f u) Q E s:=by
 let(mA,O,r,wi,_,ho):=md I.aP e;have hz:(fs.map (·.1)).length<=sizeLine:=by rw[aD,sizeLine_eq];lia
 refine GH I.gG O c.sa c.po n.Py c.hd wi hz λh' O' sb=>h _ ?_;have hd:∃o,h'.get? dx=some o:=let (o,_,_,e',_):=O'.ns;(o,e')
 refine I.write (e▸True.intro) (.inr ho) (λb q hb z=>(sb.2 b hb).trans z) hd (((ae O.ne)▸ho,?_,O.ne,O'.obj,_,O'.ns,λg=>?_,λg hg=>?_))
 ·have:=lg f y fs;lia
 ·rw[hU];by_cases q:g=f
  ·rw[if_pos q,if_pos q];exact ry
  ·rw[if_neg q,if_neg q];exact r g
 ·by_cases q:g=f
  ·rw[q];exact(gb f y fs).1
  ·refine(gb f y fs).2 g (wi g λz=>hg ?_);show(if g=f then some u else mA g)=none;rw[if_neg q];exact z
def Inv.made(I:Inv X pins Z H s):Inv X pins Z (upd (upd H s.heap.objs.size (.own 'i')) 'i' (.ins C s.heap.objs.size []))
  { s with heap:=(s.heap.push emptyDict).push (instObj C s.heap.objs.size) }:=by
 have e1:(s.heap.push emptyDict).get? s.heap.objs.size=some emptyDict:=iL s.heap rfl;have e2:=by
  have:=iL (s.heap.push emptyDict) (o:=instObj C s.heap.objs.size) rfl
  rwa [Gg]at this
 have e3:(s.heap.push emptyDict).Ns s.heap.objs.size (λ_=>none):=(emptyDict,#[],_,e1,rfl,(λe he=>absurd he (by simp)),λ_=>rfl)
 have I1:=I.laid (o:=.own 'i') (t':=s.toks) (λb u q=>cV _ q) (bJ _) (_,e1);refine I1.laid (λb u q=>cV _ q) (Nat.le_of_eq (Gg _ _)) ?_;have ne:s.heap.objs.size≠s.heap.objs.size+1:=fu (AS _);refine(by rw[ae ne,ax],d6 _,ne,e2,λ_=>none,(Heap.Ns1.of_empty e3).at λo q=>cV _ q,λ_=>True.intro,λy hy=>absurd rfl hy)
theorem y6{prog:Program}{w:World}{env:Env}{e:Expr}{f:Str}{pos:Pos}{s:Shared}{Q:Vs}(hb:attributeBase e f env (eval e env)=eval e env)
  (h:wpAny 'b' A (eval e env) (λo s₁=>wpAny 'b' A (getAttr o f true) Q E s₁) E s):wpAny 'b' A (eval (.Attribute e f pos) env) Q E s:=
 Attribute_any_ h (by rw[arm_eval_Attribute,hb])
end
def OJ(K:Wf)(ta:TE)(f:Str):TE:=λZ H Q=>ta Z H λx H1=>∃a C dx fs v,x=.ref a/\H1 a=some (.ins C dx fs)/\pY K C/\aW K C f/\fs.lookup f=some v/\Q v H1
def GB(K:Wf)(ta tv:TE)(f:Str):TS:=λD Z H=>tv Z H λy H1=>ta Z H1 λx H2=>∃a C dx fs,x=.ref a/\H2 a=some (.ins C dx fs)/\pY K C/\aW K C f/\fs.length<1000/\
 D.nx Z (upd H2 a (.ins C dx (putF f y fs)))
section
variable{X:Cx}{o e value:Expr}{f:Str}{pos pos' tpos:Pos}{ta tv:TE}
def OO(he:PE X e ta)(hb:attributeBase e f X.env (eval e X.env)=eval e X.env):PE X (.Attribute e f pos) (OJ X.K ta f):=by
 intro pins s Z H Q I h;refine y6 hb (bL (he pins s Z H _ I h) λu s1 (x,H1,I1,rx,a,C,dx,fs,v,ex,ea,c,n,l,q)=>?_);subst ex;obtain rfl:u=Value.ref a:=rx;exact wU I1 ea c n l λu' s2 I2 ru=>(v,H1,I2,ru,q)
def cS(ha:PE X o ta)(hv:PE X value tv)(hs:swapsWith value (some (.Attribute o f pos')) pos.line X.env=pure false):PS X (.Assign [.Attribute o f pos'] value pos) (GB X.K ta tv f):=by
 intro pins s Z H D I h;refine plainObj_wpAny_Assign_Attribute (bL (hv pins s Z H _ I h) λu s1 (y,H1,I1,ry,q)=>bL (ha pins s1 Z H1 _ I1 q) λov s2 (x,H2,I2,rx,a,C,dx,fs,ex,ea,c,n,l,q2)=>?_) hs;subst ex;obtain rfl:ov=Value.ref a:=rx;exact vS I2 ea c n l ry λs3 I3=>(Z,_,I3,q2)
end
section
variable{X:Cx}{pins:Lo}{Z:St}{H:Hp}{s:Shared}{A:Around}{E:Vs}{Q:Vs}{c:Value}{b:Bool}
set_option genInjectivity true in
inductive jo (K:Wf) (H:Hp):V->Value->Prop where
 |bw:jo K H .bw (.type "NoneType")
 |bl (x:Bool):jo K H (.bl x) (.type "bool")
 |int (i:Int):jo K H (.int i) (.type "int")
 |str (x:Str):jo K H (.str x) (.type "str")
 |Mr (x:UInt64):jo K H (.Mr x) (.type "float")
 |lst {a:Addr}{xs:List V}(e:H a=some (.lst xs)):jo K H (.ref a) (.type "list")
 |g7 {a:Addr}{o:Obj}{xs:List V}(e:H a=some (.g7 o (.lst xs))):jo K H (.ref a) (.type "list")
 |tup {a:Addr}{xs:List V}(e:H a=some (.tup xs)):jo K H (.ref a) (.type "tuple")
 |dK {a:Addr}{kvs:List (Key×V)}(e:H a=some (.dK kvs)):jo K H (.ref a) (.type "dict")
 |dT {a:Addr}{kvs:List (List Key×V)}(e:H a=some (.dT kvs)):jo K H (.ref a) (.type "dict")
 |ins {a C dx:Addr}{fs:List (Str×V)}(e:H a=some (.ins C dx fs)) (cl:pY K C) (ha:findIn K (.ref C) "__class__" = some (some 'o'))
   (hn:specialIn K 'o' "__get__" = some (some (.builtin "getset_descriptor.__get__"))) (htk:takesIn K 'o'=some true)
   (hm:mroIn K C 'D'=some true):jo K H (.ref a) (.ref C)
def qt(I:Inv X pins Z H s)(rx:RelV x u)(ty:jo X.K H x t)(e:kitOne X.K t c=some b)(h:∀tk,Q (.bool b) { s with toks:=tk }):
  wpAny 'c' A (call (.builtin "isinstance") [u,c]) Q E s:=by
 cases ty with
 |bw=>cases rx;exact kia_one PySem.W.kitx_none I.gG True.intro e (λz=>nomatch z) h
 |bl y=>cases rx;exact kia_one PySem.W.kitx_bool I.gG True.intro e (λz=>nomatch z) h
 |int i=>let(t,q):=rx;cases q;exact kia_one PySem.W.kitx_int I.gG True.intro e (λz=>nomatch z) h
 |str y=>let(t,q):=rx;cases q;exact kia_one PySem.W.kitx_str I.gG True.intro e (λz=>nomatch z) h
 |Mr y=>let(t,q):=rx;cases q;exact kia_one PySem.W.kitx_float I.gG True.intro e (λz=>nomatch z) h
 |@lst a xs ea=>
  cases (show u=Value.ref a from rx);let(_,_,n,_,h1):=(I.aP a _ ea)
  exact kia_one kitx_list I.gG (_,h1,rfl) e (λz=>nomatch z) h
 |@g7 a ob xs ea=>
  cases (show u=Value.ref a from rx);let(_,_,_,n,_,h1):=(I.aP a _ ea)
  exact kia_one kitx_list I.gG (_,h1,rfl) e (λz=>nomatch z) h
 |@tup a xs ea=>
  cases (show u=Value.ref a from rx);let(_,_,_,p):=(I.aP a _ ea)
  let(o,h1,h2,_):=p;exact kia_one PySem.W.kitx_tuple I.gG (o,h1,h2) e (λz=>nomatch z) h
 |@dK a kvs ea=>
  cases (show u=Value.ref a from rx);let(_,_,vs,_,p):=(I.aP a _ ea)
  let(o,es,ep,h1,h2,_):=p;exact kia_one kitx_dict I.gG (o,h1,h2.1) e (λz=>nomatch z) h
 |@dT a kvs ea=>
  cases (show u=Value.ref a from rx);let(_,_,xs,_,o,es,ep,h1,h2,_):=(I.aP a _ ea)
  exact kia_one kitx_dict I.gG (o,h1,h2.1) e (λz=>nomatch z) h
 |@ins a C dx fs ea cl ha hn htk hm=>
  cases (show u=Value.ref a from rx);let(mA,O,_):=md I.aP ea;let(od,J,_):=O.look;exact kia_one (PySem.W.kitx_own (cl.get _) cl.hd ha hn htk hm) I.gG J e (λz=>nomatch z) h
end
structure cB(k:Nat)(A:Around):Prop where
 hd:A.handled=none
 dp:A.depth+3*k+5<recursionLimit
 un:A.units+16*k+200<cLine
theorem cB.mono{j k:Nat}{A:Around}(r:cB k A)(h:j<=k):cB j A:=(r.hd,by have:=r.dp;lia,by have:=r.un;lia)
theorem cB.deeper(r:cB (k+1) A)(env:Env):cB k (A.deeper env):=
 (r.hd,by have:=r.dp;show A.depth+1+3*k+5<_;lia,by have:=r.un;show A.units+3+16*k+200<_;lia)
theorem cB.in1{k:Nat}{A:Around}(r:cB (k+1) A):cB k A.in1:=
 (r.hd,by have:=r.dp;show A.depth+3*k+5<_;lia,by have:=r.un;show A.units+1+16*k+200<_;lia)
def vy{A:Around}{C:Addr}{us:List Value}{kw:List (Str×Value)}:(A.under (.builtin "type.__call__" (.ref C::us,kw))).depth=A.depth+1:=by
 first|rfl|simp
def vo{A:Around}{C:Addr}{us:List Value}{kw:List (Str×Value)}:(A.under (.builtin "type.__call__" (.ref C::us,kw))).units=A.units+1:=by
 first|rfl|simp
theorem cB.make{k:Nat}{A:Around}(r:cB (k+1) A)(C:Addr)(us:List Value)(kw:List (Str×Value)):cB k (A.under (.builtin "type.__call__" (.ref C::us,kw))):=
 (r.hd,by have:=r.dp;rw[vy];lia,by have:=r.un;rw[vo];lia)
def cB.depth(r:cB k A):A.depth<recursionLimit:=by have:=r.dp;lia
def cB.units(r:cB k A):A.units+64<cLine:=by have:=r.un;lia
def y_:TA:=λ_ H Q=>Q [] H
def tU(ta:TE)(tr:TA):TA:=λZ H Q=>ta Z H λx H1=>tr Z H1 λxs H2=>Q (x::xs) H2
section
variable{X:Cx}{e:Expr}{es:List Expr}{te:TE}{t:TA}{pos:Pos}
theorem aa:PA X [] y_:=λ_ _ _ _ H Q I h=>Calls.spliced_nil ([],H,I,.nil,h)
def ai(ha:PE X e te)(hr:PA X es t)(hs:starEach (e::es) X.env=⟨false,eval e X.env⟩::starEach es X.env:=by rfl):PA X (e::es) (tU te t):=by
 intro pos pins s Z H Q I h;rw[hs];show wpAny _ _ (spliced (⟨false,eval e X.env⟩::backTo pos (starEach es X.env))) _ _ s;exact Calls.spliced_cons (bL (ha pins s Z H _ I h) λu s1 (x,H1,I1,r1,q1)=>(bL (hr pos pins s1 Z H1 _ I1 q1) λus s2 (xs,H2,I2,r2,q2)=>(x::xs,H2,I2,.cons r1 r2,q2)))
def PB(t:TA):TE:=λZ H Q=>t Z H λxs H1=>xs.length<=sizeLine/\∀p,H1 p=none->Q (.ref p) (upd H1 p (.tup xs))
def Ri(t:TA):TE:=λZ H Q=>t Z H λxs H1=>xs.length<=sizeLine/\∀p,H1 p=none->Q (.ref p) (upd H1 p (.lst xs))
def aR(h:PA X es t):PE X (.Tuple es x1 pos) (PB t):=by
 intro pins s Z H Q I hq;refine wpAny_Tuple_spliced (bL (h pos pins s Z H _ I hq) λus s1 (xs,H1,I1,r,z,q)=>(r.length▸z,?_));have hf:=I1.aP.fresh (bJ _);refine(.ref s1.heap.objs.size,upd H1 s1.heap.objs.size (.tup xs),I1.laid (λb u e=>cV _ e) (bJ _) ?_,rfl,q _ hf);exact(z,us,r,(_,iL _ rfl,rfl,_,rfl))
def aF(h:PA X es t):PE X (.List es pos) (Ri t):=by
 intro pins s Z H Q I hq;refine wpAny_List_spliced (bL (h pos pins s Z H _ I hq) λus s1 (xs,H1,I1,r,z,q)=>(r.length▸z,?_));have hf:=I1.aP.fresh (bJ _);refine(.ref s1.heap.objs.size,upd H1 s1.heap.objs.size (.lst xs),I1.laid (λb u e=>cV _ e) (bJ _) ?_,rfl,q _ hf);exact(z,us,0,r,iL _ rfl)
end
abbrev Sp:=List V->Hp->VK->XK->Prop
abbrev AY:=List Env->Hp->Shared->XK->Value->Shared->Prop
structure ny(P:Program)(w:World)(K:Wf)(mg:So)(base:Heap)(A:Around)(outer:List Env)(s:Shared)(H:Hp):Prop where
 frames:A.frames=some outer
 mod:Mod K mg base
 bs:∀b o,base.get? b=some o->s.heap.get? b=some o/\H b=none
 A2:base.objs.size<=s.heap.objs.size
 ju:s.heap.FunFrames base outer
 Gh:∀b∈lK outer,H b=none
 aP:gA P w H s.heap
 bare:AllBare s.gens
def CE(outer:List Env)(P:Program)(w:World)(H:Hp)(s:Shared)(Q:VK)(u:Value)(s':Shared):Prop:=
 ∃v H',s'.os=s.os/\AllBare s'.gens/\Un (lK outer) [] H H' s.heap s'.heap/\gA P w H' s'.heap/\RelV v u/\Q v H'
def CR(CX:AY)(outer:List Env)(P:Program)(w:World)(H:Hp)(s:Shared)(Q:VK)(E:XK)(r:Result)(s':Shared):Prop:=
 match r with
 |.ok (.ret u)=>CE outer P w H s Q u s'
 |.ok _=>False
 |.error e=>CX outer H s E e s'
structure aS(P:Program)(w:World)(K:Wf)(mg:So)(base:Heap)(CX:AY)(k:Nat)(f:Addr)(fd:FuncData)(ps:List Str)(sp:Sp):Prop where
 len:∀vs H Q E,sp vs H Q E->vs.length=ps.length
 run:∀(A:Around) (outer:List Env) (s:Shared) (H:Hp) (args:Args) (us:List Value) (vs:List V) (Q:VK) (E:XK),cB k A->ny P w K mg base A outer s H->BindsTo s fd args (ps.zip us)->Vals vs us->sp vs H Q E->
  codeAny (model P w) A (.call (.ref f) args) (CR CX outer P w H s Q E) s
theorem ny.make{P:Program}{w:World}{K:Wf}{mg:So}{base:Heap}{A:Around}{outer:List Env}{s:Shared}{H:Hp}(e:ny P w K mg base A outer s H)(C:Addr)(us:List Value)(kw:List (Str×Value)):
  ny P w K mg base (A.under (.builtin "type.__call__" (.ref C::us,kw))) outer s H:=(by first|exact e.frames|(simpa [Around.under,Code.envs,Code.isFrame,pushEnvs] using e.frames),e.mod,e.bs,e.A2,e.ju,e.Gh,e.aP,e.bare)
theorem ny.in1{P:Program}{w:World}{K:Wf}{mg:So}{base:Heap}{A:Around}{outer:List Env}{s:Shared}{H:Hp}(e:ny P w K mg base A outer s H):
  ny P w K mg base A.in1 outer s H:=(e.frames,e.mod,e.bs,e.A2,e.ju,e.Gh,e.aP,e.bare)
section
variable{X:Cx}{pins:Lo}{Z:St}{H:Hp}{s s':Shared}
theorem Inv.De(I:Inv X pins Z H s):ny X.prog X.w X.K X.mg X.base X.A X.stack s H:=
 (I.ok.frames,I.ok.mod,I.bs,fF I.ok.A2 I.sz,I.stack,I.lW,I.aP,I.bare)
def Inv.after(I:Inv X pins Z H s)(h:CE X.stack X.prog X.w H s Q u s'):EP X pins Z Q u s':=by
 let(v,H',os,bare,un,aP,r,q):=h;let(hh,g,d,t,os'):=s';obtain rfl:os'=s.os:=os;exact(v,H',I.call un aP bare (λb z=>absurd z (by simp)),r,q)
end
def DP(sp:Sp)(dvs:List V)(E:XK)(t:TA):TE:=λZ H Q=>t Z H λvs H1=>sp (vs++dvs) H1 Q E
def yV(C:Addr)(m:Str)(sp:Sp)(dvs:List V)(E:XK)(ta:TE)(t:TA):TE:=λZ H Q=>ta Z H λx H1=>∃a dx fs,x=.ref a/\H1 a=some (.ins C dx fs)/\fs.lookup m=none/\
 t Z H1 λvs H2=>sp (x::(vs++dvs)) H2 Q E
def Qt(C:Addr)(sp:Sp)(dvs:List V)(E:XK)(t:TA):TE:=λZ H Q=>t Z H λvs H1=>∀x dx,H1 x=none->H1 dx=none->dx≠x->
 sp (.ref x::(vs++dvs)) (upd (upd H1 dx (.own x)) x (.ins C dx [])) (λv H2=>v=.bw/\Q (.ref x) H2) E
def Binds(K:Wf)(fd:FuncData)(ps:List Str)(ds:List Value):Prop:=
 ∀(s:Shared) (us:List Value),K.In s.heap->(us++ds).length=ps.length->BindsTo s fd (us,[]) (ps.zip (us++ds))
theorem Binds.all{K:Wf}{fd:FuncData}{ps:List Str}(h:∀us:List Value,us.length=ps.length->bindArgs fd (us,[])=pure (ps.zip us)):Binds K fd ps []:=λs us _ hl=>by
 rw[n9]at hl ⊢;exact .of_eq (h us hl)
def Passes(CX:AY)(X:Cx)(E:XK):Prop:=∀(pins:Lo) (Z:St) (H:Hp) (s:Shared) (e:Value) (s':Shared),Inv X pins Z H s->CX X.stack H s E e s'->X.xe e s'
section
variable{X:Cx}{CX:AY}{k:Nat}{f C:Addr}{fd:FuncData}{ps:List Str}{sp:Sp}{dvs:List V}{ds:List Value}{E:XK}{x m:Str}{p pos apos:Pos}{e o:Expr}{es:List Expr}{ta:TE}{t:TA}
def wG{pins:Lo}{Z:St}{H:Hp}{s:Shared}{Q:VK}{us:List Value}{vs:List V}(F:aS X.prog X.w X.K X.mg X.base CX k f fd ps sp)(hr:cB k X.A)(hb:Binds X.K fd ps ds)(hd:Vals dvs ds)(hx:Passes CX X E)
  (I:Inv X pins Z H s) (r:Vals vs us) (h:sp (vs++dvs) H Q E):wpAny 'c' X.A (call (.ref f) us) (EP X pins Z Q) X.xe s:=by
 have r2:=r.append hd;have hl:(us++ds).length=ps.length:=r2.length▸F.len _ _ _ _ h;refine Gm (codeAny_mono (F.run X.A X.stack s H (us,[]) (us++ds) (vs++dvs) Q E hr I.De (hb s us I.gG hl) r2 h) λr s' hq=>?_);cases r with
 |error e=>exact hx pins Z H s e s' I hq
 |ok fl=>
  cases fl with
  |ret u=>exact I.after hq
  |next=>exact False.elim hq
  |brk=>exact False.elim hq
  |cont=>exact False.elim hq
def cF(F:aS X.prog X.w X.K X.mg X.base CX k f fd ps sp)(hr:cB k X.A)(hg:Gl X x)(hm:X.mg x=some (.ref f))(hk:keepIn X.K (.ref f)=true)(hb:Binds X.K fd ps ds)(hd:Vals dvs ds)(hx:Passes CX X E)
  (ha:PA X (e::es) t) (hdb:(x == ("__debug__" : Str))=false:=by decide) (he:starEach (e::es) X.env=⟨false,eval e X.env⟩::starEach es X.env:=by rfl) (hpl:(backTo pos (starEach es X.env)).any (·.1)=false:=by rfl):
  PE X (.Call (.Name x p) (e::es) [] pos) (DP sp dvs E t):=by
 intro pins s Z H Q I h;exact Ng (gM I hg hm (callWith_K (h₀:=X.base) I.ok.mod.IA hk (bL (ha pos pins s Z H _ I h) λus s1 (vs,H1,I1,r,q)=>(I1.gG,wG F hr hb hd hx I1 r q)) he hpl) hdb)
def iJ{pl:Sem Bool}(he:PE X o ta)(c:pY X.K C)(hm:Meth X.K C m f)(F:aS X.prog X.w X.K X.mg X.base CX k f fd ps sp)(hr:cB k X.A)(hb:Binds X.K fd ps ds)(hd:Vals dvs ds)(hx:Passes CX X E)(ha:PA X (e::es) t)
  (hst:starEach (e::es) X.env=⟨false,eval e X.env⟩::starEach es X.env:=by rfl) (hpl:(backTo pos (starEach es X.env)).any (·.1)=false:=by rfl)
  (ht:eval (.Call (.Attribute o m apos) (e::es) [] pos) X.env=(do
   let ov <-eval o X.env
   standAt apos.atName
   let ⟨f,first⟩ <-holding [ov] (getMethod ov m pl)
   callWith pos f first (backTo pos (starEach (e::es) X.env)) (backToKw pos (keywordEach [] X.env))):=by rfl):
  PE X (.Call (.Attribute o m apos) (e::es) [] pos) (yV C m sp dvs E ta t):=by
 intro pins s Z H Q I h;refine methodCall_KW (bL (he pins s Z H _ I h) λu s1 (x,H1,I1,rx,a,dx,fs,ex,ea,l,q)=>?_) ht;subst ex;obtain rfl:u=Value.ref a:=rx;exact mK I1 ea c hm l (callWith_K (h₀:=X.base) I.ok.mod.IA hm.kp (bL (ha pos pins s1 Z H1 _ I1 q) λus s2 (vs,H2,I2,r,q2)=>(I2.gG,wG (vs:=.ref a::vs) F hr hb hd hx I2 (.cons rfl r) q2)) hst hpl)
def tY(he:PE X o ta)(c:pY X.K C)(hm:Meth X.K C m f)(F:aS X.prog X.w X.K X.mg X.base CX k f fd ps sp)(hr:cB k X.A)(hb:Binds X.K fd ps ds)(hd:Vals dvs ds)(hx:Passes CX X E)
  (ht:eval (.Call (.Attribute o m apos) [] [] pos) X.env=(do
   let ov <-eval o X.env
   standAt apos.atName
   let ⟨f,first⟩ <-holding [ov] (getMethod ov m pl)
   callWith pos f first (backTo pos (starEach [] X.env)) (backToKw pos (keywordEach [] X.env))):=by rfl):
  PE X (.Call (.Attribute o m apos) [] [] pos) (yV C m sp dvs E ta y_):=by
 intro pins s Z H Q I h;refine methodCall_KW (bL (he pins s Z H _ I h) λu s1 (x,H1,I1,rx,a,dx,fs,ex,ea,l,q)=>?_) ht;subst ex;obtain rfl:u=Value.ref a:=rx;exact mK I1 ea c hm l (PySem.W.callWith_K0 I1.gG hm.kp (wG (vs:=[.ref a]) F hr hb hd hx I1 (.cons rfl .nil) q))
structure Mk(K:Wf)(C f:Addr):Prop where
 makes:makesIn K C=true
 init:findIn K (.ref C) "__init__" = some (some (.ref f))
 fn:isFn K (.ref f)=true
 kp:keepIn K (.ref C)=true
def FR{pins:Lo}{Z:St}{H:Hp}{s:Shared}{Q:VK}{us:List Value}{vs:List V}(M:Mk X.K C f)(F:aS X.prog X.w X.K X.mg X.base CX k f fd ps sp)(hr:cB (k+1) X.A)(hb:Binds X.K fd ps ds)(hd:Vals dvs ds)
  (hx:Passes CX X E) (I:Inv X pins Z H s) (r:Vals vs us)
  (h:∀x dx,H x=none->H dx=none->dx≠x->sp (.ref x::(vs++dvs)) (upd (upd H dx (.own x)) x (.ins C dx [])) (λv H2=>v=.bw/\Q (.ref x) H2) E):
  wpAny 'c' X.A (call (.ref C) us) (EP X pins Z Q) X.xe s:=by
 have hq:=h 'i' s.heap.objs.size (I.aP.fresh (xS _)) (I.aP.fresh (bJ _)) (fu (AS _));have I2:=Inv.made (C:=C) I;have r2:Vals (V.ref 'i'::(vs++dvs)) (Value.ref 'i'::(us++ds)):=.cons rfl (r.append hd);have hl:=by
  have e:=r2.length;rw[F.len _ _ _ _ hq]at e;exact e.symm
 refine Gm (tG I.gG M.makes M.init (beq_iff_eq.mp M.fn) (codeAny_mono (F.run _ X.stack _ _ (Value.ref 'i'::us,[]) (Value.ref 'i'::(us++ds)) _ _ E (hr.make C us [])
  (I2.De.make C us []) (hb _ (Value.ref 'i'::us) I2.gG hl) r2 hq) λr s' hq'=>?_))
 cases r with
 |error e=>exact hx pins Z _ _ e s' I2 hq'
 |ok fl=>
  cases fl with
  |ret u=>
   let(v,H',I3,rv,ev,q3):=I2.after hq';subst ev;exact(rv,(V.ref 'i',H',I3,rfl,q3))
  |next=>exact False.elim hq'
  |brk=>exact False.elim hq'
  |cont=>exact False.elim hq'
def j4(M:Mk X.K C f)(F:aS X.prog X.w X.K X.mg X.base CX k f fd ps sp)(hr:cB (k+1) X.A)(hg:Gl X x)(hm:X.mg x=some (.ref C))(hb:Binds X.K fd ps ds)(hd:Vals dvs ds)(hx:Passes CX X E)
  (ha:PA X (e::es) t) (hdb:(x == ("__debug__" : Str))=false:=by decide) (he:starEach (e::es) X.env=⟨false,eval e X.env⟩::starEach es X.env:=by rfl) (hpl:(backTo pos (starEach es X.env)).any (·.1)=false:=by rfl):
  PE X (.Call (.Name x p) (e::es) [] pos) (Qt C sp dvs E t):=by
 intro pins s Z H Q I h;exact Ng (gM I hg hm (callWith_K (h₀:=X.base) I.ok.mod.IA M.kp (bL (ha pos pins s Z H _ I h) λus s1 (vs,H1,I1,r,q)=>(I1.gG,FR M F hr hb hd hx I1 r q)) he hpl) hdb)
end
structure ar(N P:List Str)(sc:Scope):Prop where
 kind:sc.kind=.function
 co:sc.isCoroutine=false
 gen:sc.isGenerator=false
 nd:N.Nodup
 pre:N.take P.length=P
 par:∀x∈P,sc.names.lookup x=some .local\/sc.names.lookup x=some .cell
 LB:∀y∈sc.names,y.2≠.free
def pR{kindOf:Str->Option NameKind}:∀{binds:List (Str×Value)}{m:So},(∀v,⟨x,v⟩∉binds)->bindL kindOf binds m x=m x
 |[],_,_=>rfl
 | ⟨n,v⟩::r,m,h=>by
  unfold bindL;rw[pR λw hw=>h w (jQ _ hw)];split
  ·have:x≠n:=by rintro rfl;exact h v mm
   simp[this]
  ·rfl
def pV{kindOf:Str->Option NameKind}:∀{binds:List (Str×Value)}{m:So},(∀v,⟨x,v⟩∉binds)->bindC kindOf binds m x=m x
 |[],_,_=>rfl
 | ⟨n,v⟩::r,m,h=>by
  unfold bindC;rw[pV λw hw=>h w (jQ _ hw)];split
  ·rfl
  ·have:x≠n:=by rintro rfl;exact h v mm
   simp[this]
theorem qg{kindOf:Str->Option NameKind}:∀{P:List Str}{vs:List Value}{i:Nat}{m:So},P.Nodup->P[i]?=some x->vs[i]?=some v->kindOf x=some .local->
  bindL kindOf (P.zip vs) m x=some v
 |[],_,_,_,_,h,_,_=>by simp at h
 |_::_,[],_,_,_,_,h,_=>by simp at h
 |p::P,w::vs,0,m,nd,h1,h2,hk=>by
  simp at h1 h2;subst h1;subst h2;show bindL kindOf (⟨p,w⟩::P.zip vs) m p=_;unfold bindL;rw[pR λv hv=>(i_.mp nd).1 (List.of_mem_zip hv).1,if_pos hk];simp
 |p::P,w::vs,i+1,m,nd,h1,h2,hk=>by
  unfold bindL;exact qg (i_.mp nd).2 h1 h2 hk
theorem oR{kindOf:Str->Option NameKind}:∀{P:List Str}{vs:List Value}{i:Nat}{m:So},P.Nodup->P[i]?=some x->vs[i]?=some v->kindOf x≠some .local->
  bindC kindOf (P.zip vs) m x=some v
 |[],_,_,_,_,h,_,_=>by simp at h
 |_::_,[],_,_,_,_,h,_=>by simp at h
 |p::P,w::vs,0,m,nd,h1,h2,hk=>by
  simp at h1 h2;subst h1;subst h2;show bindC kindOf (⟨p,w⟩::P.zip vs) m p=_;unfold bindC;rw[pV λv hv=>(i_.mp nd).1 (List.of_mem_zip hv).1,if_neg hk];simp
 |p::P,w::vs,i+1,m,nd,h1,h2,hk=>by
  unfold bindC;exact oR (i_.mp nd).2 h1 h2 hk
def start(N:List Str)(vs:List V):St:=vs.map some++List.replicate (N.length - vs.length) none
def k8(CX:AY)(P:Program)(w:World)(K:Wf)(mg:So)(base:Heap)(N:List Str)(qual:Str)(scope:Scope)(f:Addr)(cd:Value)(A:Around)(outer:List Env)(s:Shared)(H:Hp)(E:XK):Cx where
 prog:=P
 w:=w
 K:=K
 mg:=mg
 base:=base
 A:=A.deeper (envOfC qual scope s.heap.objs.size f cd)
 N:=N
 s₀:=s
 H₀:=H
 env:=envOfC qual scope s.heap.objs.size f cd
 outer:=outer
 stack:=envOfC qual scope s.heap.objs.size f cd::outer
 ex:=[]
 calm:=true
 fn:=λ_=>true
 pn:=[]
 xe:=λe s'=>wpAny (model P w) (A.deeper (envOfC qual scope s.heap.objs.size f cd)) (leaving (envOfC qual scope s.heap.objs.size f cd) e) (λ_ s''=>CX outer H s E e s'') (λe' s''=>CX outer H s E e' s'') s'
def sN{sc:Scope}{n:Nat}{x:Str}(h:sc.names.lookup x=some .cell):∃c,(cellsFrom n sc.names []).lookup x=some c:=by
 have q:=cellsFrom_some sc.names n [] (.inl h);exact TK.mp q
def qz{CX:AY}{P:Program}{w:World}{K:Wf}{mg:So}{base:Heap}{N ps:List Str}{qual:Str}{scope:Scope}{f:Addr}{cd:Value}{A:Around}{outer:List Env}{s s1:Shared}{H:Hp}{E:XK}{us:List Value}{vs:List V}
  (S:ar N ps scope) (hd:A.handled=none) (e0:ny P w K mg base A outer s H) (hl:vs.length=ps.length) (r:Vals vs us)
  (x:InCallC s s.heap.objs.size (bindL (envOfC qual scope s.heap.objs.size f cd).kindOf (ps.zip us) λ_=>none) (cellsFrom 'i' scope.names []) (bindC (envOfC qual scope s.heap.objs.size f cd).kindOf (ps.zip us) λ_=>none) s1):
  Inv (k8 CX P w K mg base N qual scope f cd A outer s H E) [] (start N vs) H s1:=by
 have hpl:ps.length<=N.length:=by have:=congrArg List.length S.pre;rw[lA]at this;lia
 let(h1,tk,rfl,hk):=x.done;have noA:∀b:Addr,b∉(k8 CX P w K mg base N qual scope f cd A outer s H E).ex:=λb z=>absurd (show b∈([]:List Addr) from z) (by simp);refine((e0.mod,S.kind,rfl,rfl,bJ _,λy z c h1 h2=>?_,λy hy=>?_,λy c _ h=>?_,λ_=>hd,Around.frames_deeper e0.frames,.inr (rfl,rfl),λb z=>absurd z (noA b),e0.bs,e0.A2,λb _ _=>noA b,λb z=>absurd z (noA b),e0.ju,e0.Gh),
  rfl,e0.bare,Un.kept hk,(_,x.toInCall.ns,λi y v h1 h2 h3=>?_),λy c h=>(_,x.cell y c h),e0.aP.fresh (bJ _),λy c h=>?_,λp hp=>absurd (show p∈([]:Lo) from hp) (by simp),e0.aP.kept hk,?_)
 ·exact name_of_addr x.apart (PySem.mem_of_lookup h1) (PySem.mem_of_lookup h2)
 ·rcases hy with hy|hy
  ·exact sN hy
  ·exact absurd rfl (S.LB _ (PySem.mem_of_lookup hy))
 ·exact Jw (x.above y c (PySem.mem_of_lookup h))
 ·have hi:i<vs.length:=by
   unfold start at h2;by_cases hi:i<vs.length
   ·exact hi
   ·rw[zc (by simpa using hi)]at h2;rw[List.getElem?_replicate]at h2;split at h2<;>cases h2
  have ha:vs[i]?=some v:=by
   unfold start at h2;rw[u6 (by simpa using hi),List.getElem?_map]at h2;cases e:vs[i]? with
   |none=>rw[e]at h2;cases h2
   |some a=>rw[e]at h2;cases h2;rfl
  let(u,hu,rv):=r.get ha;have hp:ps[i]?=some y:=by
   rw[<-S.pre,List.getElem?_take_of_lt (by lia)];exact h1
  have ndP:=S.pre▸S.nd.sublist (List.take_sublist _ _);refine(u,rv,?_);rcases S.par y (dZ hp) with k|k
  ·exact .inl (k,qg ndP hp hu k)
  ·let(c,e):=sN k;refine .inr (.inl k,c,e,?_);have q:=x.cell y c e;rw[oR ndP hp hu (by show scope.names.lookup y≠_;rw[k];decide)]at q;exact q
 ·exact e0.aP.fresh (Jw (x.above y c (PySem.mem_of_lookup h)))
 ·unfold start;show _=N.length;rw[cw,aD,List.length_replicate];lia
def D0{CX:AY}{P:Program}{w:World}{K:Wf}{mg:So}{base:Heap}{k:Nat}{f:Addr}{name qual:Str}{params:Arguments}{body:List Stmt}{scope:Scope}{dV kV doc pm cdv ct oc:Value}{an od:Option Addr}
  {osl:Array (Option Value)}{N ps:List Str}{sp:Sp}(lk:K.lookup f=some (oc,od,.func (fnOf name qual params body scope dV kV doc pm an cdv ct),osl)) (hcd:codeIn K cdv qual=true) (S:ar N ps scope)
  (len:∀vs H Q E,sp vs H Q E->vs.length=ps.length)
  (hbody:∀(A:Around) (outer:List Env) (s:Shared) (H:Hp) (vs:List V) (Q:VK) (E:XK),cB k (A.deeper (envOfC qual scope s.heap.objs.size f cdv))->sp vs H Q E->
   ∃t,n_ (k8 CX P w K mg base N qual scope f cdv A outer s H E) body t/\t { nx:=λ_ H'=>Q .bw H',rt:=Q } (start N vs) H):
  aS P w K mg base CX (k+1) f (fnOf name qual params body scope dV kV doc pm an cdv ct) ps sp:=by
 refine(len,λA outer s H args us vs Q E hr e0 hb r hsp=>?_);have hl:=len _ _ _ _ hsp;have KX:=e0.mod.IA.keeps λb o e=>(e0.bs b o e).1;have lim:=e0.mod.nolimit.keeps λb o e=>(e0.bs b o e).1;have hkind:∀y∈ps.zip us,scope.names.lookup y.1=some .local\/(scope.names.lookup y.1=some .cell/\((cellsFrom 'i' scope.names []).lookup y.1).isSome=true):=λ(n,v) hy=>by
  rcases S.par n (List.of_mem_zip hy).1 with q|q
  ·exact .inl q
  ·exact .inr (q,cellsFrom_some _ _ _ (.inl q))
 refine codeAny_call_function hr.depth (KX _ _ lk) rfl S.co S.gen rfl (PySem.W.codeRec_of KX hcd) (hb _ _ _ _ (wpAny_newFunctionEnv_cells S.kind hkind λenv he s1 x=>?_));subst he;refine(lim.keeps x.toInCall.keep,codeAny_func ?_);let(t,ht,hq):=hbody A outer s H vs Q E (hr.deeper _) hsp;have I:Inv (k8 CX P w K mg base N qual scope f cdv A outer s H E) [] (start N vs) H s1:=qz S hr.hd e0 hl r x;refine jV (ht [] s1 (start N vs) H _ I hq) (λfl s' hs=>?_) λe s' hs=>hs;have fin:∀{σ':St}{H':Hp}{v:V}{u:Value},Inv (k8 CX P w K mg base N qual scope f cdv A outer s H E) [] σ' H' s'->RelV v u->Q v H'->CE outer P w H s Q u s':=
  λ{σ' H' v u} J rv q=>(v,H',J.os,J.bare,J.base,J.aP,rv,q)
 cases fl with
 |ret u=>
  let(v,σ',H',J,rv,q):=hs;exact fin J rv q
 |next=>
  let(σ',H',J,q):=hs;exact fin (v:=V.bw) J rfl q
 |brk=>
  let(_,_,_,q):=hs;exact False.elim q
 |cont=>
  let(_,_,_,q):=hs;exact False.elim q
section
variable{X:Cx}{x:Str}{p pos:Pos}{e:Expr}{es:List Expr}{t:TA}{id T:String}{r:List V->Hp->VK->Prop}
def UI(r:List V->Hp->VK->Prop)(t:TA):TE:=λZ H Q=>t Z H λvs H1=>r vs H1 Q
def bV(hc:bP X (.builtin id) r)(hg:Gl X x)(hm:X.mg x=none)(hv:bootBuiltins x=some (.builtin id))(ha:PA X (e::es) t)(hn:x ≠ "__name__" := by decide)(hdb:(x == ("__debug__" : Str))=false:=by decide)
  (he:starEach (e::es) X.env=⟨false,eval e X.env⟩::starEach es X.env:=by rfl) (hpl:(backTo pos (starEach es X.env)).any (·.1)=false:=by rfl):PE X (.Call (.Name x p) (e::es) [] pos) (UI r t):=by
 intro pins s Z H Q I h;exact Ng (iy I hg hm hv (PyProof.Rows.callWith_builtin1 (bL (ha pos pins s Z H _ I h) λus s1 (vs,H1,I1,r1,q1)=>hc pins s1 Z H1 vs us Q I1 r1 q1) he hpl) hn hdb)
def lO(hc:bP X (.type T) r)(hg:Gl X x)(hm:X.mg x=none)(hv:bootBuiltins x=some (.type T))(ha:PA X (e::es) t)(hn:x ≠ "__name__" := by decide)(hdb:(x == ("__debug__" : Str))=false:=by decide)
  (he:starEach (e::es) X.env=⟨false,eval e X.env⟩::starEach es X.env:=by rfl) (hpl:(backTo pos (starEach es X.env)).any (·.1)=false:=by rfl):PE X (.Call (.Name x p) (e::es) [] pos) (UI r t):=by
 intro pins s Z H Q I h;exact Ng (iy I hg hm hv (PyProof.Rows.callWith_type1 (bL (ha pos pins s Z H _ I h) λus s1 (vs,H1,I1,r1,q1)=>hc pins s1 Z H1 vs us Q I1 r1 q1) he hpl) hn hdb)
end
end L2
namespace HT
open PySem PyProof.Rows
section
variable{prog:Program}{w:World}{A:Around}{E:Vs}{s:Shared}
def cat_tup{t b:Addr}{vs ws:List Value}{Q:Vs}(ht:IsTup s.heap t vs.toArray)(hb:IsTup s.heap b ws.toArray)(hv:vs≠[])
  (h1:ws=[]->Q (.ref t) s) (h2:ws≠[]->Q 'O' { s with heap:=s.heap.push { cls:=.type "tuple", data:=.seq (vs++ws).toArray } })
  (hsz:vs.length+ws.length<=sizeLine):wpAny 'b' A (binaryOp .Add (.ref t) (.ref b)) Q E s:=by
 let((cls,dd,data,sl),ho,hc,n,hd):=id ht;let((cls2,dd2,data2,sl2),ho2,hc2,n2,hd2):=id hb;simp only at hc hd hc2 hd2;subst hc hd hc2 hd2;have e:vs.toArray++ws.toArray=(vs++ws).toArray:=by simp
 by_cases hw:ws=[]
 ·exact concat_meets (_,ho,rfl) (_,ho2,rfl) noFill_tuple_add seq_tuple_add PySem.F.slot_tuple_add PySem.F.entry_tuple_add (PySem.F.args_tuple_add_2 _ _)
   (tuple_addW1 t b vs.toArray ws.toArray n n2 dd dd2 sl sl2 (by simpa using hv) (by simp[hw])) (ho,ho2,h1 hw)
 ·refine concat_meets (_,ho,rfl) (_,ho2,rfl) noFill_tuple_add seq_tuple_add PySem.F.slot_tuple_add PySem.F.entry_tuple_add (PySem.F.args_tuple_add_2 _ _)
   (tuple_addW2 t b vs.toArray ws.toArray n n2 dd dd2 sl sl2 (by simpa using hv) (by simpa using hw) (List.size_toArray▸List.size_toArray▸hsz)) (ho,ho2,?_)
  exact e▸h2 hw
def sIx(n d:Nat):Option Int->Nat
 |none=>d
 |some v=>if v<0 then (v+(n:Int)).toNat else min v.toNat n
def sIx_nat(n d k:Nat):sIx n d (some (k:Int))=min k n:=by
 show(if k<0 then (k+(n:Int)).toNat else min (k:Int).toNat n)=min k n;rw[if_neg (by lia),Qx]
def sIx_le(n d:Nat)(hd:d<=n)(o:Option Int):sIx n d o<=n:=by
 cases o with
 |none=>exact hd
 |some v=>
  show(if v<0 then (v+n).toNat else min v.toNat n)<=n;by_cases hv:v<0
  ·rw[if_pos hv];lia
  ·rw[if_neg hv];exact Nat.min_le_right _ _
def clip_eq(v:Int)(n d:Nat):(if v<0 then max (v+(n:Int)) 0 else min v (n:Int))=((sIx n d (some v):Nat):Int):=by
 show(if v<0 then max (v+n) 0 else min v n)=(((if v<0 then (v+n).toNat else min v.toNat n):Nat):Int);by_cases hv:v<0
 ·simp only[if_pos hv];lia
 ·simp only[if_neg hv];lia
def adjust_gen(lo hi:Option Int)(n:Nat):Builtin.Slice.sliceAdjust lo hi 1 (n:Int)=⟨((sIx n 0 lo:Nat):Int),((sIx n n hi:Nat):Int)⟩:=by
 refine Prod.ext ?_ ?_
 ·cases lo with
  |none=>rfl
  |some v=>exact clip_eq v n 0
 ·cases hi with
  |none=>rfl
  |some v=>exact clip_eq v n n
def places_gen(i j:Nat):Builtin.Slice.slicePlaces (i:Int) (j:Int) 1=j - i:=by
 unfold Builtin.Slice.slicePlaces;have h1:(1:Int)>0:=by lia
 simp only[h1,if_true,Int.ediv_one];split<;>lia
def slicePart_(p:IsPart v o)(h:Q o s):wpAny 'b' A (Builtin.Slice.slicePartIndex v) Q E s:=by
 cases p with
 |none=>exact slicePart_none h
 |int i t=>exact slicePart_int h
def sliceApplied_gen{sl:Addr}{vl vu:Value}{lo hi:Option Int}{n:Nat}{Q:Int×Int×Nat->Shared->Prop}(hs:s.heap.IsSliceOf sl vl vu .none)(pl:IsPart vl lo)(pu:IsPart vu hi)
  (h:Q ⟨((sIx n 0 lo:Nat):Int),1,sIx n n hi - sIx n 0 lo⟩ s):wpAny 'b' A (Builtin.Slice.sliceApplied (.ref sl) (pure (n:Int))) Q E s:=by
 let(os,hos,hcs,hds):=id hs;refine aB (aB (GJ hos hds (x:=vl) rfl (aB (GJ hos hds (x:=vu) rfl (aB (GJ hos hds (x:=.none) rfl (bp (aB (slicePart_none (aB (slicePart_ pl (aB (slicePart_ pu (aB (bp ?_)))))))))))))));show wpAny _ _ (match Builtin.Slice.sliceAdjust lo hi 1 n with | ⟨lo,hi⟩=>pure ⟨lo,(1:Int),Builtin.Slice.slicePlaces lo hi 1⟩) _ _ s;rw[adjust_gen lo hi n];show wpAny _ _ (pure ⟨(sIx n 0 lo:Int),1,Builtin.Slice.slicePlaces (sIx n 0 lo:Int) (sIx n n hi:Int) 1⟩) _ _ s;rw[places_gen];exact bp h
def pick_gen(xs:Array Value)(i k:Nat):((List.range k).filterMap λ(m:Nat)=>xs[((i:Int)+(m:Int)*1).toNat]?).toArray=((xs.toList.drop i).take k).toArray:=by
 have e:(λ(m:Nat)=>xs[(i+(m:Int)*1).toNat]?)=λm=>xs[i+m]?:=by grind
 rw[e];have:=pick_run xs i k;rw[List.filterMap_map]at this;have e2:((λx=>xs[x]?) ∘ λx=>i+x)=λm=>xs[i+m]?:=rfl;rw[e2]at this;rw[this]
def getItem_tuple_cut{t sl:Addr}{items:Array Value}{vl vu:Value}{lo hi:Option Int}{Q:Vs}(ht:IsTup s.heap t items)(hs:s.heap.IsSliceOf sl vl vu .none)(pl:IsPart vl lo)(pu:IsPart vu hi)
  (hw:¬(sIx items.size 0 lo=0/\sIx items.size items.size hi=items.size))
  (h:Q 'O' { s with heap:=s.heap.push { cls:=.type "tuple", data:=.seq ((items.toList.drop (sIx items.size 0 lo)).take (sIx items.size items.size hi - sIx items.size 0 lo)).toArray } })
  (hsz:items.size<=sizeLine):wpAny 'b' A (getItem (.ref t) (.ref sl)) Q E s:=by
 have htake:=by
  show((items.toList.drop (sIx items.size 0 lo)).take (sIx items.size items.size hi - sIx items.size 0 lo)).toArray.size<=sizeLine;rw[i4,lA,OW,AX];omega
 let(os,hos,hcs,hds):=id hs;have hTs:s.TypeIs (.ref sl) "slice" := (os,hos,hcs)
 unfold getItem
 try with_reducible refine uB ?_
 refine aB (wpAny_sequenceKey ht.typeIs (by decide) ?_);refine aB (Q5 ht.typeIs PyProof.Rows.slot_tuple_getitem
  (JO PyProof.Rows.slot_tuple_getitem ht.typeIs entry_tuple_getitem ?_ (args_tuple_getitem _ _)))
 show wpAny _ _ (Builtin.Tuple.tupleItemsOf (.ref t) >>= _) _ _ s;refine aB (tupleItemsOf_ ht (aB (wpAny_typeOf hTs (aB (sliceApplied_gen hs pl pu ?_)))));have hno:¬((((sIx items.size 0 lo:Nat):Int) == 0&&(1:Int) == 1&&(sIx items.size items.size hi - sIx items.size 0 lo) == items.size)=true):=by simp_all
 show wpAny _ _ (if (((sIx items.size 0 lo:Nat):Int) == 0&&(1:Int) == 1&&(sIx items.size items.size hi - sIx items.size 0 lo) == items.size)=true then _ else _) _ _ s;rw[if_neg hno,pick_gen]
 first
  |exact aB (Gj (bp (_,rfl,bp h)) htake)
  |exact aB (Gj (aB (bp (bp (_,rfl,bp h)))) htake)
  |exact aB (aB (Gj (bp (bp (_,rfl,bp h))) htake))
  |exact aB (aB (Gj (bp (_,rfl,bp h)) htake))
end
end HT
namespace L2
open PySem PySem.Spec PyProof.Rows
abbrev TO:=St->Hp->(Option Int->Hp->Prop)->Prop
def PO(X:Cx)(e:Option Expr)(t:TO):Prop:=
 ∀(pins:Lo) (s:Shared) (Z:St) (H:Hp) (Q:Option Int->Hp->Prop),Inv X pins Z H s->t Z H Q->
  wpAny 'c' X.A (evalPart e X.env) (λu s'=>∃o H',Inv X pins Z H' s'/\IsPart u o/\Q o H') X.xe s
def Iz:TO:=λ_ H Q=>Q none H
def Fs(t:TE):TO:=λZ H Q=>t Z H λx H1=>∃i,x=.int i/\Q (some i) H1
section
variable{X:Cx}{e:Expr}{te:TE}{lo hi:Option Expr}{tl th:TO}{pos p2:Pos}
def jB:PO X none Iz:=by
 intro pins s Z H Q I h;exact bp (none,H,I,.none,h)
def Ih(h:PE X e te):PO X (some e) (Fs te):=by
 intro pins s Z H Q I hw;refine bL (h pins s Z H _ I hw) λu s1 (x,H1,I1,r1,q1)=>?_;let(i,rfl,q):=q1;let(t,rfl):=r1;exact(some i,H1,I1,.int i t,q)
def G1(X:Cx)(r:V->Option Int->Option Int->Hp->VK->Prop):Prop:=
 ∀(pins:Lo) (s:Shared) (Z:St) (H:Hp) (x:V) (v vl vu:Value) (lo hi:Option Int) (sl:Addr) (Q:VK),Inv X pins Z H s->RelV x v->s.heap.IsSliceOf sl vl vu .none->IsPart vl lo->IsPart vu hi->r x lo hi H Q->
  ∃T id,typeLookup (.type T) "__getitem__" = pure (some (.builtin id))/\s.TypeIs v T/\wpAny 'c' X.A (getItem v (.ref sl)) (EP X pins Z Q) X.xe s
def X3(r:V->Option Int->Option Int->Hp->VK->Prop)(te:TE)(tl th:TO):TE:=λZ H Q=>te Z H λx H1=>tl Z H1 λl H2=>th Z H2 λu H3=>r x l u H3 Q
def gk(hr:G1 X r)(he:PE X e te)(hl:PO X lo tl)(hu:PO X hi th):PE X (.Subscript e (.Slice lo hi none p2) pos) (X3 r te tl th):=by
 intro pins s Z H Q I h;refine Subscript_ (bL (he pins s Z H _ I h) λv s1 (x,H1,I1,r1,q1)=>(wpAny_Slice (bL (hl pins s1 Z H1 _ I1 q1) λvl s2 (l,H2,I2,pl,q2)=>bL (hu pins s2 Z H2 _ I2 q2) λvu s3 (u,H3,I3,pu,q3)=>(bp ?_))));have I4:Inv X pins Z H3 { s3 with heap:=s3.heap.push { cls:=.type "slice", data:=.fields #[vl,vu,.none] } }:=I3.kept λb ob q=>cV _ q;let(T,id,hT,ht,hg):=hr pins { s3 with heap:=s3.heap.push { cls:=.type "slice", data:=.fields #[vl,vu,.none] } } Z H3 x v vl vu l u s3.heap.objs.size Q I4 r1 (Heap.IsSliceOf.new ..) pl pu q3;exact tail_any ht hT hg (by with_unfolding_all rfl)
def hJ(xs:List V)(lo hi:Option Int):List V:=(xs.drop (HT.sIx xs.length 0 lo)).take (HT.sIx xs.length xs.length hi - HT.sIx xs.length 0 lo)
def lI(xs:List V)(lo hi:Option Int):(hJ xs lo hi).length<=xs.length:=by
 unfold hJ;rw[lA,OW];lia
def Pt(K:Wf):V->Option Int->Option Int->Hp->VK->Prop:=λx lo hi H Q=>∃a xs,x=.ref a/\bc K H a xs/\
 ¬(HT.sIx xs.length 0 lo=0/\HT.sIx xs.length xs.length hi=xs.length)/\∀p,H p=none->Q (.ref p) (upd H p (.tup (hJ xs lo hi)))
def LZ:G1 X (Pt X.K):=by
 intro pins s Z H x v vl vu lo hi sl Q I rx hs pl pu h;let(a,xs,rfl,hx,hw,q):=h;cases rx;let(its,r,ht,hz):=I.tuple hx;have hlen:its.toArray.size=xs.length:=i4▸r.length.symm;refine("tuple", _,PyProof.Rows.slot_tuple_getitem.lookup,ht.typeIs,HT.getItem_tuple_cut ht hs pl pu (hlen▸hw) ?_ (hlen▸hz));rw[hlen];refine(.ref s.heap.objs.size,_,I.laid (λb ob q=>cV _ q) (bJ _) ?_,rfl,q _ (I.aP.fresh (bJ _)));exact(fF (lI xs lo hi) hz,_,(r.drop (HT.sIx xs.length 0 lo)).take (HT.sIx xs.length xs.length hi - HT.sIx xs.length 0 lo),IsTup.new _ _)
def J9(K:Wf):R2:=λx y H Q=>∃a b xs ys,x=.ref a/\y=.ref b/\bc K H a xs/\bc K H b ys/\xs≠[]/\xs.length+ys.length<=sizeLine/\
 (ys=[]->Q (.ref a) H)/\(ys≠[]->∀p,H p=none->Q (.ref p) (upd H p (.tup (xs++ys))))
def Vals.r_(r:Vals xs us):us=[]↔xs=[]:=by
 cases r with
 |nil=>simp
 |cons _ _=>simp
def GV:dH X (binaryOp .Add) (J9 X.K):=by
 intro pins s Z H x y v u Q I rx ry h;let(a,b,xs,ys,rfl,rfl,ha,hb,hx,hz,q1,q2):=h;cases rx;cases ry;let(its,r1,p1,_):=I.tuple ha;let(its2,r2,p2,_):=I.tuple hb;refine HT.cat_tup p1 p2 (λz=>hx (r1.r_.mp z)) (λz=>(.ref a,H,I,rfl,q1 (r2.r_.mp z))) (λz=>((.ref s.heap.objs.size,_,I.laid (λb ob q=>cV _ q) (bJ _) ?_,rfl,q2 (λw=>z (r2.r_.mpr w)) _ (I.aP.fresh (bJ _))))) (r1.length▸r2.length▸hz);exact(cw▸hz,_,r1.append r2,IsTup.new _ _)
end
def A1(n:Nat)(i:Int):Option Nat:=if 0<=i then (if i<n then some i.toNat else none) else if -(n:Int)<=i then some (i+n).toNat else none
def gz{α:Type}(xs:List α)(i:Int):Option α:=(A1 xs.length i).bind λj=>xs[j]?
def Hs(h:A1 n i=some j):seqIndex? i n=some j/\j<n /\ -(n:Int)<=i/\i<n:=by
 unfold A1 at h;by_cases h0:0<=i
 ·rw[if_pos h0]at h;by_cases h1:i<n
  ·rw[if_pos h1]at h;have e:=Option.some.inj h;exact(by rw[seqIndex_of h0 h1,e],by lia,by lia,h1)
  ·rw[if_neg h1]at h;cases h
 ·rw[if_neg h0]at h;by_cases h1 : -n<=i
  ·rw[if_pos h1]at h;have e:=Option.some.inj h;exact(by rw[seqIndex_neg (by lia) h1,e],by lia,h1,by lia)
  ·rw[if_neg h1]at h;cases h
def qK{α:Type}{xs:List α}{i:Int}{v:α}(h:gz xs i=some v):∃j,seqIndex? i xs.length=some j/\xs[j]?=some v/\j<xs.length /\ -(xs.length:Int)<=i/\i<xs.length:=by
 unfold gz at h;cases e:A1 xs.length i with
 |none=>rw[e]at h;cases h
 |some j=>
  rw[e]at h;let(h1,h2,h3,h4):=Hs e;exact(j,h1,h,h2,h3,h4)
def dq{α:Type}{xs:List α}{j:Nat}{v:α}(h:xs[j]?=some v):gz xs (j:Int)=some v:=by
 have hj:=(fA.mp h).1;have e:A1 xs.length j=some j:=by
  unfold A1;rw[if_pos (by lia),if_pos (by lia)];simp
 unfold gz;rw[e];exact h
def fb{α:Type}(xs:List α)(v:α):gz (xs++[v]) (-1)=some v:=by
 have hl:(xs++[v]).length=xs.length+1:=by simp
 have e:A1 (xs++[v]).length (-1)=some xs.length:=by
  unfold A1;rw[hl,if_neg (by decide),if_pos (by lia)];congr 1;lia
 unfold gz;rw[e];show(xs++[v])[xs.length]?=some v;simp
def G7(b:Expr):Prop:=∀o i,subscripted b false o i=operate [o,i] (getItem o i)
def Kf(X:Cx)(r:R2):Prop:=
 ∀(value slice:Expr) (pins:Lo) (s:Shared) (Z:St) (H:Hp) (x y:V) (v u:Value) (Q:VK),Inv X pins Z H s->RelV x v->RelV y u->r x y H Q->
  subscripted slice false v u=operate [v,u] (getItem v u)->wpAny 'c' X.A (subscriptTail value slice v u) (EP X pins Z Q) X.xe s
def Vb(X:Cx)(id:String)(r:V->List V->Hp->VK->Prop):Prop:=
 ∀(pins:Lo) (s:Shared) (Z:St) (H:Hp) (x:V) (xs:List V) (v:Value) (us:List Value) (Q:VK),Inv X pins Z H s->RelV x v->Vals xs us->r x xs H Q->
  wpAny 'c' X.A (call (.builtin id) (v::us)) (EP X pins Z Q) X.xe s
section
variable{X:Cx}{a b:Expr}{ta tb:TE}{pos:Pos}
def bX(hr:Kf X r)(ha:PE X a ta)(hb:PE X b tb)(hs:G7 b):PE X (.Subscript a b pos) (Bj r ta tb):=by
 intro pins s Z H Q I h;exact Subscript_ (Nv ha hb I h λv u s2 x y H2 I2 rx ry q=>hr a b pins s2 Z H2 x y v u Q I2 rx ry q (hs _ _))
def QJ(K:Wf):R2:=λx y H Q=>∃p xs i v,x=.ref p/\y=.int i/\az K H p xs/\gz xs i=some v/\Q v H
def IH(K:Wf):R2:=λx y H Q=>∃p xs i v,x=.ref p/\y=.int i/\bc K H p xs/\gz xs i=some v/\Q v H
def Uy:R2:=λx y H Q=>∃z i c,x=.str z/\y=.int i/\z.length<=sizeLine/\gz z.cps.toList i=some c/\Q (.str ⟨#[c]⟩) H
def GZ:Kf X (QJ X.K):=by
 intro value slice pins s Z H x y v u Q I rx ry h hs;let(p,xs,i,z,rfl,rfl,hq,he,q):=h;cases rx;let(t,rfl):=ry;let(its,r,pl,hz):=I.list hq;let(j,h1,h2,h3,h4,h5):=qK he;let(w,ew,rw'):=r.get h2;have hl:=r.length;have hn:=wW;have fin:EP X pins Z Q w s:=(z,H,I,rw',q)
 by_cases h0:0<=i
 ·have hj:=by
   rw[seqIndex_of h0 h5]at h1;exact Option.some.inj h1
  exact item_listR pl.isList h0 (by lia) (by rw[hj];simpa using ew) fin hs
 ·have hj:(i+(its.toArray.size:Int)).toNat=j:=by
   rw[seqIndex_neg (by lia) h4]at h1;exact i4▸hl▸Option.some.inj h1
  exact subscriptTail_builtinR pl.isList.typeIs slot_list_getitem.lookup
   (wpAny_getItem_list_neg pl.isList (by lia) (by rw[i4]<;>lia) (by lia) (by rw[hj];simpa using ew) (rfl,fin)) hs
def MF:Kf X (IH X.K):=by
 intro value slice pins s Z H x y v u Q I rx ry h hs;let(p,xs,i,z,rfl,rfl,hq,he,q):=h;cases rx;let(t,rfl):=ry;let(its,r,pl,hz):=I.tuple hq;let(j,h1,h2,h3,h4,h5):=qK he;let(w,ew,rw'):=r.get h2;have hl:=r.length;have hn:=wW;have fin:EP X pins Z Q w s:=(z,H,I,rw',q)
 exact subscriptTail_builtinR pl.typeIs slot_tuple_getitem.lookup
  (getItem_tuple pl (by lia) (by lia) (i4▸hl▸h1) (by simpa using ew) (rfl,fin)) hs
def Oh:Kf X Uy:=by
 intro value slice pins s Z H x y v u Q I rx ry h hs;let(z,i,c,rfl,rfl,hz,he,q):=h;let(t,rfl):=rx;let(t',rfl):=ry;let(j,h1,h2,h3,h4,h5):=qK he;have hl:z.cps.toList.length=z.length:=by simp[Str.length]
 rw[hl]at h1 h4 h5;have hn:=wW;exact tail_any (typeIs_str s z t) slot_str_getitem.lookup (getItem_str (by
  have e1:decide (i < -(2 ^ 63:Int))=false:=decide_eq_false (by lia);have e2:decide (i≥2 ^ 63)=false:=decide_eq_false (by lia);rw[e1,e2,Bool.or_false]) (by rw[h1];simpa using h2) (.str ⟨#[c]⟩,H,I.tok _,(_,rfl),q)) hs
def WY:V->V->V->Hp->(Hp->Prop)->Prop:=λo i v H Q=>∃p xs k j,o=.ref p/\i=.int k/\H p=some (.lst xs)/\A1 xs.length k=some j/\Q (upd H p (.lst (xs.set j v)))
def qV(lo hi:Option Int)(n:Nat):(sliceBounds lo hi none n).1=((HT.sIx n 0 lo:Nat):Int)/\(sliceBounds lo hi none n).2.1=((HT.sIx n n hi:Nat):Int)/\(sliceBounds lo hi none n).2.2=1:=by
 refine(?_,?_,rfl)
 ·cases lo with
  |none=>simp[sliceBounds,HT.sIx]
  |some i=>
   simp only[sliceBounds,HT.sIx,Option.getD_none,show(1:Int)>0 by decide,if_true];by_cases h:i<0
   ·simp only[h,if_true]<;>lia
   ·simp only[h,if_false]<;>lia
 ·cases hi with
  |none=>simp[sliceBounds,HT.sIx]
  |some i=>
   simp only[sliceBounds,HT.sIx,Option.getD_none,show(1:Int)>0 by decide,if_true];by_cases h:i<0
   ·simp only[h,if_true]<;>lia
   ·simp only[h,if_false]<;>lia
def oh(its:List Value)(lo hi:Option Int):slicePick its.toArray lo hi none=((its.drop (HT.sIx its.length 0 lo)).take (HT.sIx its.length its.length hi - HT.sIx its.length 0 lo)).toArray:=by
 let(h1,h2,h3):=qV lo hi its.toArray.size;unfold slicePick;rw[h1,h2,h3];simp only[sliceRange_one,pick_run]<;>rfl
def Ro(K:Wf):V->Option Int->Option Int->Hp->VK->Prop:=λx lo hi H Q=>∃a xs,x=.ref a/\az K H a xs/\∀p,H p=none->Q (.ref p) (upd H p (.lst (hJ xs lo hi)))
def HE:G1 X (Ro X.K):=by
 intro pins s Z H x v vl vu lo hi sl Q I rx hs pl pu h;let(a,xs,rfl,hx,q):=h;cases rx;let(its,r,ht,hz):=I.list hx;have hlen:=r.length;refine("list", _,slot_list_getitem.lookup,ht.isList.typeIs,wpAny_getItem_list_slice ht.isList hs pl pu .none (by simp) ?_ (by rw[List.size_toArray]<;>lia));rw[oh,<-hlen];refine(.ref s.heap.objs.size,_,I.laid (λb ob q=>cV _ q) (bJ _) ?_,rfl,q _ (I.aP.fresh (bJ _)));exact(fF (lI xs lo hi) hz,_,0,(r.drop (HT.sIx xs.length 0 lo)).take (HT.sIx xs.length xs.length hi - HT.sIx xs.length 0 lo),iL _ rfl)
def fW:V->Bool
 |.bw=>true
 |.bl _=>true
 |.int _=>true
 |.str _=>true
 |_=>false
def A3:V->V->Bool
 |.bw,.bw=>true
 |.bl a,.bl b=>a == b
 |.bl a,.int b=>(if a then 1 else 0) == b
 |.int a,.bl b=>a == (if b then 1 else 0)
 |.int a,.int b=>a == b
 |.str a,.str b=>a == b
 |_,_=>false
def N3(ry:RelV y u)(rx:RelV x v)(fy:fW y=true)(fx:fW x=true):SeqAt.EqAt A s u v (A3 y x):=by
 cases y with
 |bw=>
  cases ry;cases x with
  |bw=>cases rx;exact SeqAt.EqAt.same _
  |bl b=>cases rx;exact SeqAt.EqAt.none_bool b
  |int b=>let(t,rfl):=rx;exact SeqAt.EqAt.none_int b t
  |str b=>let(t,rfl):=rx;exact SeqAt.EqAt.none_str b t
  |_=>exact absurd fx n8
 |bl a=>
  cases ry;cases x with
  |bw=>cases rx;exact SeqAt.EqAt.bool_none a
  |bl b=>cases rx;exact SeqAt.EqAt.bool_bool a b
  |int b=>let(t,rfl):=rx;exact SeqAt.EqAt.bool_int a b t
  |str b=>let(t,rfl):=rx;exact SeqAt.EqAt.bool_str a b t
  |_=>exact absurd fx n8
 |int a=>
  let(t',rfl):=ry;cases x with
  |bw=>cases rx;exact SeqAt.EqAt.int_none a t'
  |bl b=>cases rx;exact SeqAt.EqAt.int_bool a t' b
  |int b=>let(t,rfl):=rx;exact SeqAt.EqAt.int_int a t' b t
  |str b=>let(t,rfl):=rx;exact SeqAt.EqAt.int_str a t' b t
  |_=>exact absurd fx n8
 |str a=>
  let(t',rfl):=ry;cases x with
  |bw=>cases rx;exact SeqAt.EqAt.str_none a t'
  |bl b=>cases rx;exact SeqAt.EqAt.str_bool a t' b
  |int b=>let(t,rfl):=rx;exact SeqAt.EqAt.str_int a t' b t
  |str b=>let(t,rfl):=rx;exact SeqAt.EqAt.str_str a t' b t
  |_=>exact absurd fx n8
 |_=>exact absurd fy n8
def uG(x:V)(u:Value):Bool:=match u with
 |.none=>A3 .bw x
 |.bool b=>A3 (.bl b) x
 |.int i _=>A3 (.int i) x
 |.str z _=>A3 (.str z) x
 |_=>false
def vT(r:RelV y u)(f:fW y=true):uG x u=A3 y x:=by
 cases y with
 |bw=>cases r;rfl
 |bl b=>cases r;rfl
 |int i=>let(t,rfl):=r;rfl
 |str z=>let(t,rfl):=r;rfl
 |_=>exact absurd f n8
theorem jR:∀{xs:List V}{us:List Value},Vals xs us->xs.all fW=true->us.any (uG x)=xs.any λy=>A3 y x
 |_,_,.nil,_=>rfl
 |y::xs,u::us,.cons r t,f=>by
  rw[List.all_cons,lH]at f;rw[O4,O4,vT r f.1,jR t f.2]
theorem gp(rx:RelV x v)(fx:fW x=true):∀{xs:List V}{us:List Value},Vals xs us->xs.all fW=true->∀u∈us,SeqAt.EqAt A s u v (uG x u)
 |_,_,.nil,_=>λu hu=>by cases hu
 |y::xs,u::us,.cons r t,f=>λu' hu=>by
  rw[List.all_cons,lH]at f;rcases eP.mp hu with rfl|hu
  ·rw[vT r f.1];exact N3 r rx f.1 fx
  ·exact gp rx fx t f.2 u' hu
def OU(x:V)(xs:List V):Bool:=xs.any λy=>A3 y x
def S5(K:Wf)(neg:Bool):R2:=λx y H Q=>∃p xs,y=.ref p/\(az K H p xs\/bc K H p xs)/\fW x=true/\xs.all fW=true/\Q (.bl (if neg then !OU x xs else OU x xs)) H
def AR:dH X (compareOp .In) (S5 X.K false):=by
 intro pins s Z H x y v u Q I rx ry h;let(p,xs,rfl,hq,fx,fs,q):=h;cases ry;rcases hq with hq|hq
 ·let(its,r,pl,hz):=I.list hq;refine SeqAt.in_listAt (uG x) pl.isList (λw hw=>gp rx fx r fs w (by simpa using hw)) (.bl _,H,I,rfl,?_);rw[show its.toArray.any (uG x)=its.any (uG x) by simp,jR r fs];exact q
 ·let(its,r,pl,hz):=I.tuple hq;refine SeqAt.in_tupleAt (uG x) pl (λw hw=>gp rx fx r fs w (by simpa using hw)) (.bl _,H,I,rfl,?_);rw[show its.toArray.any (uG x)=its.any (uG x) by simp,jR r fs];exact q
def qE:dH X (compareOp .NotIn) (S5 X.K true):=by
 intro pins s Z H x y v u Q I rx ry h;let(p,xs,rfl,hq,fx,fs,q):=h;cases ry;rcases hq with hq|hq
 ·let(its,r,pl,hz):=I.list hq;refine SeqAt.notIn_listAt (uG x) pl.isList (λw hw=>gp rx fx r fs w (by simpa using hw)) (.bl _,H,I,rfl,?_);rw[show its.toArray.any (uG x)=its.any (uG x) by simp,jR r fs];exact q
 ·let(its,r,pl,hz):=I.tuple hq;refine SeqAt.notIn_tupleAt (uG x) pl (λw hw=>gp rx fx r fs w (by simpa using hw)) (.bl _,H,I,rfl,?_);rw[show its.toArray.any (uG x)=its.any (uG x) by simp,jR r fs];exact q
def rM:bP X (.type "list") (λxs H Q=>∃p ys,xs=[.ref p]/\(az X.K H p ys\/bc X.K H p ys)/\∀l,H l=none->Q (.ref l) (upd H l (.lst ys))):=by
 intro pins s Z H xs us Q I r h;let(p,ys,rfl,hq,q):=h;let(u,rfl,rx):=vals1 r;cases rx;have fin:∀its,Vals ys its->ys.length<=sizeLine->∀h' c',(∀b o',s.heap.get? b=some o'->h'.get? b=some o')->
   h'.get? s.heap.objs.size=some { cls:=.type "list", dict:=none,data:=.seq its.toArray c',slots:=#[] }->EP X pins Z Q 'O' { s with heap:=h' }:=λits r' hz h' c' kp e=>
  (.ref s.heap.objs.size,_,I.laid kp (bJ _) (show bS X.prog X.w _ h' _ (.lst ys) from (hz,its,c',r',e)),rfl,q _ (I.aP.fresh (bJ _)))
 rcases hq with hq|hq
 ·let(its,r',pl,hz):=I.list hq;have hlen:=r'.length;let(o,ho,hc,n,hd):=pl.isList;exact call_list_seq p (.inl rfl) ho hc hd (λh' c' kp e=>fin its r' hz h' c' kp e) (by simp only[List.size_toArray]<;>lia)
 ·let(its,r',pl,hz):=I.tuple hq;have hlen:=r'.length;let(o,ho,hc,n,hd):=pl;exact call_list_seq p (.inr rfl) ho hc hd (λh' c' kp e=>fin its r' hz h' c' kp e) (by simp only[List.size_toArray]<;>lia)
def Vd(K:Wf)(T:String)(x:V)(H:Hp):Prop:=match x with
 |.str _=>T = "str"
 |.int _=>T = "int"
 |.ref p=>(T = "list" /\ ∃xs,az K H p xs)\/(T = "tuple" /\ ∃o,K.lookup p=some o/\o.cls=.type "tuple" /\ o.dict=none) \/
   (T = "dict" /\ ((∃kvs,H p=some (.dK kvs))\/∃kvs,H p=some (.dT kvs)))\/(T = "set" /\ ∃S n,H p=some (.set S n))
 |_=>False
def CS{pins:Lo}{Z:St}{H:Hp}{s:Shared}{T:String}{x:V}{v:Value}(I:Inv X pins Z H s)(r:RelV x v)(ty:Vd X.K T x H):
  s.TypeIs v T/\∀a,v=.ref a->∃ob,s.heap.get? a=some ob/\ob.dict=none:=by
 cases x with
 |str z=>
  let(t,rfl):=r;cases ty;exact(typeIs_str s z t,λ_ e=>nomatch e)
 |int i=>
  let(t,rfl):=r;cases ty;exact(typeIs_int s i t,λ_ e=>nomatch e)
 |ref p=>
  cases r;rcases ty with ⟨rfl,xs,hq⟩|⟨rfl,o,hk,hc,hd⟩|⟨rfl,hk⟩|⟨rfl,S,n,hk⟩
  ·let(its,_,pl,_):=I.list hq;refine(pl.isList.typeIs,λa e=>?_);cases e;let(o,n,e,c,hd,_):=pl;exact(o,e,hd)
  ·refine((o,I.gG p o hk,hc),λa e=>?_);cases e;exact(o,I.gG _ o hk,hd)
  ·have z:∃o,s.heap.get? p=some o/\o.ExactDict:=by
    rcases hk with ⟨kvs,hk⟩|⟨kvs,hk⟩
    ·let(_,_,_,_,o,_,_,e,ex,_):=I.aP p _ hk;exact(o,e,ex)
    ·let(_,_,_,_,o,_,_,e,ex,_):=I.aP p _ hk;exact(o,e,ex)
   let(o,e,ex):=z;refine((o,e,ex.1),λa e2=>?_);cases e2;exact(o,e,ex.2.1)
  ·let(o,_,_,_,e,ex,_):=I.aP p _ hk;refine((o,e,ex.1),λa e2=>?_);cases e2;exact(o,e,ex.2.1)
 |_=>exact False.elim ty
def Vy(K:Wf)(T:String)(r:V->List V->Hp->VK->Prop)(to:TE):TE:=λZ H Q=>to Z H λx H1=>Vd K T x H1/\r x [] H1 Q
def WV(K:Wf)(T:String)(r:V->List V->Hp->VK->Prop)(to:TE)(t:TA):TE:=λZ H Q=>to Z H λx H1=>Vd K T x H1/\t Z H1 λxs H2=>r x xs H2 Q
variable{o e:Expr}{es:List Expr}{to:TE}{t:TA}{name:Str}{apos cpos:Pos}{T id:String}{r:V->List V->Hp->VK->Prop}
def Oo(pa:PlainAttrs T)(slot:Slot T name id)(hty:typeOf (.builtin id)=pure (.type "method_descriptor"))(hm:Vb X id r)(ho:PE X o to)
  (hbase:attributeBase o name X.env (eval o X.env)=eval o X.env:=by rfl) (hline:(apos.endLine == cpos.line)=true:=by rfl):PE X (.Call (.Attribute o name apos) [] [] cpos) (Vy X.K T r to):=by
 intro pins s Z H Q I h;refine wpAny_Call_method0_late hbase hline (bL (ho pins s Z H _ I h) λv s1 (x,H1,I1,r1,ty,q1)=>?_);let(h1,h2):=CS I1 r1 ty;exact(T,id,pa,slot,hty,h1,h2,Calls.callWith_builtin rfl (PySem.evalArgs_none (hm pins s1 Z H1 x [] v [] Q I1 r1 .nil q1)))
def pZ(pa:PlainAttrs T)(slot:Slot T name id)(hty:typeOf (.builtin id)=pure (.type "method_descriptor"))(hm:Vb X id r)(ho:PE X o to)(ha:PA X (e::es) t)
  (hbase:attributeBase o name X.env (eval o X.env)=eval o X.env:=by rfl)
  (hfew:((backTo cpos (starEach (e::es) X.env)).all (λx=>!x.1)&&(backToKw cpos (keywordEach [] X.env)).all (λx=>x.1.isSome)
   && decide ((e::es).length+([]:List Keyword).length+(if ([]:List Keyword).isEmpty then 0 else 1)<30))=true:=by rfl)
  (hline:(apos.endLine == cpos.line)=true:=by rfl) (hs:starEach (e::es) X.env=⟨false,eval e X.env⟩::starEach es X.env:=by rfl) (hplain:(backTo cpos (starEach es X.env)).any (·.1)=false:=by rfl):
  PE X (.Call (.Attribute o name apos) (e::es) [] cpos) (WV X.K T r to t):=by
 intro pins s Z H Q I h;refine wpAny_Call_method_late hbase hfew hline rfl (bL (ho pins s Z H _ I h) λv s1 (x,H1,I1,r1,ty,q1)=>?_);let(h1,h2):=CS I1 r1 ty;refine(T,id,pa,slot,hty,h1,h2,?_);have hA:=ha cpos pins s1 Z H1 _ I1 q1;rw[hs]at hA ⊢;exact Calls.callWith_builtin (by show(false || (backTo cpos (starEach es X.env)).any (·.1))=false;rw[hplain]<;>rfl) (Calls.evalArgs_plain (bL hA λus s2 (vs,H2,I2,r2,q2)=>hm pins s2 Z H2 x vs v us Q I2 r1 r2 q2))
/- xs.append(e),list.index on a module's tuple .. are Vb facts of 06m -/
end
def Km(X:Cx)(id:String)(r:V->List V->Hp->VK->Prop):Prop:=
 ∀(pins:Lo) (s:Shared) (Z:St) (H:Hp) (x:V) (xs:List V) (v:Value) (us:List Value) (Q:VK),Inv X pins Z H s->RelV x v->Vals xs us->r x xs H Q->
  wpAny 'c' X.A (call (.builtin id) (v::us)) (EP X pins Z Q) X.xe s
theorem Vals.one:∀{x:V}{us:List Value},Vals [x] us->∃u,us=[u]/\RelV x u
 |_,_,.cons r .nil=>(_,rfl,r)
theorem Vals.zero:∀{us:List Value},Vals [] us->us=[]
 |_,.nil=>rfl
def Vals.dropLast(h:Vals xs us):Vals xs.dropLast us.dropLast:=by
 induction h with
 |nil=>exact .nil
 |cons r t ih=>
  cases t with
  |nil=>exact .nil
  |cons q t'=>exact .cons r ih
theorem Vals.rep{xs:List V}{us:List Value}(h:Vals xs us):∀k:Nat,Vals (List.replicate k xs).flatten (List.replicate k us).flatten
 |0=>.nil
 |k+1=>by
  rw[RA,RA,List.flatten_cons,List.flatten_cons];exact Vals.append h (Vals.rep h k)
def xu{α:Type}(l:List α):l.eraseIdx (l.length - 1)=l.dropLast:=by
 induction l with
 |nil=>rfl
 |cons a r ih=>
  cases r with
  |nil=>rfl
  |cons b r=>
   have e:(a::b::r).length - 1=((b::r).length - 1)+1:=by
    have h1:(a::b::r).length=r.length+2:=rfl;have h2:(b::r).length=r.length+1:=rfl;lia
   rw[e,List.eraseIdx_cons_succ,ih]
   all_goals rfl
def foldl_rep(its:List Value):∀(k:Nat) (acc:List Value),
  List.foldl (λx1 x2=>x1++x2) acc.toArray (List.replicate k its.toArray)=(acc++(List.replicate k its).flatten).toArray
 |0,acc=>by simp
 |k+1,acc=>by
  have e:acc.toArray++its.toArray=(acc++its).toArray:=by simp
  have e2:(acc++its)++(List.replicate k its).flatten=acc++(List.replicate (k+1) its).flatten:=by
   rw[RA,List.flatten_cons,tD]
  rw[<-e2,<-foldl_rep its k (acc++its),<-e,RA,O1]
section
variable{X:Cx}{pins:Lo}{Z:St}{H:Hp}{s:Shared}{l b:Addr}{xs ys zs:List V}
def Inv.G9{its its':List Value}{n:Nat}{f:Array Value->Array Value}{t':Nat}(I:Inv X pins Z H s)(hH:H l=some (.lst xs))
  (e:s.heap.get? l=some { cls:=.type "list", data:=.seq its.toArray n }) (hf:f its.toArray=its'.toArray) (hv:Vals ys its') (hz:ys.length<=sizeLine):
  Inv X pins Z (upd H l (.lst ys)) { s with heap:=s.heap.update l (Obj.mapSeq f),toks:=t' }:=by
 have q:=PySem.IsL.update e f;rw[hf]at q;refine I.write (hH▸trivial) (.inl rfl) (λb' u hb hu=>(A0 s.heap (Obj.mapSeq f) (Ne.symm hb)).trans hu) (_,q) ?_;exact(hz,its',_,hv,q)
theorem Inv.Hw(I:Inv X pins Z H s)(hv:Vals ys its)(hz:ys.length<=sizeLine):
  Inv X pins Z (upd H s.heap.objs.size (.lst ys)) { s with heap:=s.heap.push { cls:=.type "list", data:=.seq its.toArray },toks:=t' }:=
 I.laid (λ_ _ q=>cV _ q) (bJ _) (hz,its,0,hv,iL _ rfl)
theorem Inv.fresh(I:Inv X pins Z H s):H s.heap.objs.size=none:=I.aP.fresh (bJ _)
def Inv.zm(I:Inv X pins Z H s)(hH:H l=some (.lst xs)):xs.length<=sizeLine/\∃(its:List Value) (n:Nat),Vals xs its/\xs.length=its.length/\s.heap.get? l=some { cls:=.type "list", data:=.seq its.toArray n }:=by
 let(z,its,n,r,e):=I.aP l _ hH;exact(z,its,n,r,r.length,e)
def tQ(h:n<=sizeLine):Builtin.List.listTooLong n=false:=by
 unfold Builtin.List.listTooLong;exact decide_eq_false (by lia)
end
section
variable{X:Cx}
def r9:V->List V->Hp->VK->Prop:=λx vs H Q=>∃l xs y,x=.ref l/\vs=[y]/\H l=some (.lst xs)/\xs.length<sizeLine/\Q .bw (upd H l (.lst (xs++[y])))
def oQ:Km X "list.append" r9:=by
 intro pins s Z H x vs v us Q I rx rv h;let(l,xs,y,rfl,rfl,hH,hz,q):=h;cases rx;let(u,rfl,ru):=rv.one;let(z,its,n,r,hl,e):=I.zm hH;refine call_meets F.slot_list_append (_,e,rfl) F.entry_list_append (F.args_list_append_2 _ _) (PySem.list_append l its.toArray n u (by rw[i4];lia)) (e,(.bw,_,I.G9 hH e (by simp) (r.append (.cons ru .nil)) ?_,rfl,q));rw[cw,Hu];lia
def IE:V->List V->Hp->VK->Prop:=λx vs H Q=>∃l b xs zs,x=.ref l/\vs=[.ref b]/\H l=some (.lst xs)/\H b=some (.lst zs)/\xs.length+zs.length<=sizeLine/\Q .bw (upd H l (.lst (xs++zs)))
def Aj:Km X "list.extend" IE:=by
 intro pins s Z H x vs v us Q I rx rv h;let(l,b,xs,zs,rfl,rfl,hH,hB,hz,q):=h;cases rx;let(u,rfl,ru):=rv.one;cases ru;let(z,its,n,r,hl,e):=I.zm hH;let(z2,its2,n2,r2,hl2,e2):=I.zm hB;have hsz:its.toArray.size+its2.toArray.size<=sizeLine:=by rw[i4,i4];lia
 have hlong:¬(!its.toArray.isEmpty&&Builtin.List.listTooLong (its.toArray.size+its2.toArray.size))=true:=by
  rw[tQ hsz,Bool.and_false];exact n8
 refine call_meets F.slot_list_extend (_,e,rfl) F.entry_list_extend (F.args_list_extend_2 _ _)
  (AutoSeq1.list_extend_list_list_0 l its.toArray n b its2.toArray n2 hlong (by rw[i4];lia) (by lia)) (e,e2,?_)
 refine(.bw,_,I.G9 (its':=its++its2) hH e (by simp) (r.append r2) ?_,rfl,q);rw[cw];lia
def UE:V->List V->Hp->VK->Prop:=λx vs H Q=>∃l xs y,x=.ref l/\vs=[]/\H l=some (.lst xs)/\xs[xs.length - 1]?=some y/\Q y (upd H l (.lst xs.dropLast))
def Nk:Km X "list.pop" UE:=by
 intro pins s Z H x vs v us Q I rx rv h;let(l,xs,y,rfl,rfl,hH,hy,q):=h;cases rx;have hus:=rv.zero;subst hus;let(z,its,n,r,hl,e):=I.zm hH;let(u,hu,ru):=r.get hy;have hy':its.toArray[its.toArray.size - 1]?=some u:=by
  show its.toArray[its.length - 1]?=some u;rw[<-Td,<-hl];exact hu
 refine call_meets F.slot_list_pop (_,e,rfl) F.entry_list_pop (F.args_list_pop_1 _) (MeetsSeq.list_pop_last l its.toArray n u hy' (by rw[i4];lia)) (e,?_);refine(y,_,I.G9 (its':=its.dropLast) hH e ?_ r.dropLast ?_,ru,q)
 ·show its.toArray.eraseIdxIfInBounds (its.toArray.size - 1)=its.dropLast.toArray;rw[i4,List.eraseIdxIfInBounds_toArray,xu]
 ·rw[List.length_dropLast];lia
def TN:V->List V->Hp->VK->Prop:=λx vs H Q=>∃l xs,x=.ref l/\vs=[]/\H l=some (.lst xs)/\Q .bw (upd H l (.lst []))
def Uo:R2:=λx y H Q=>∃l k xs,x=.ref l/\y=.int k/\H l=some (.lst xs) /\ -(2 ^ 63)<=k/\k<2 ^ 63/\xs.length*k.toNat<=sizeLine/\
 ∀p,H p=none->Q (.ref p) (upd H p (.lst (List.replicate k.toNat xs).flatten))
def len_rep{α:Type}(xs:List α)(k:Nat):(List.replicate k xs).flatten.length=k*xs.length:=by
 induction k with
 |zero=>simp
 |succ k ih=>rw[RA,List.flatten_cons,cw,ih,Nat.succ_mul,Nat.add_comm]
def Dd:dH X (binaryOp .Mult) Uo:=by
 intro pins s Z H x y v u Q I rx ry h;let(l,k,xs,rfl,rfl,hH,h1,h2,hz,q):=h;cases rx;let(t,rfl):=ry;let(z,its,n,r,hl,e):=I.zm hH;have hlen:its.toArray.size*k.toNat<=sizeLine:=by rw[i4,<-hl];exact hz
 have hcap:¬its.toArray.size*k.toNat>(2 ^ 63 - 1)/8:=by
  have:(sizeLine:Nat)<=(2 ^ 63 - 1)/8:=by decide
  lia
 have hfit:¬(!Builtin.List.listFitsIndex k)=true:=by
  rw[fitsIndex_both h1 h2];exact n8
 have hlong:¬Builtin.List.listTooLong (its.toArray.size*k.toNat)=true:=by
  rw[tQ hlen];exact n8
 have hnew:List.foldl (λx1 x2=>x1++x2) #[] (List.replicate (if its.toArray.isEmpty=true then 0 else k.toNat) its.toArray)=(List.replicate k.toNat its).flatten.toArray:=by
  have f0:∀m:Nat,List.foldl (λx1 x2=>x1++x2) #[] (List.replicate m its.toArray)=(List.replicate m its).flatten.toArray:=λm=>by
   have:=foldl_rep its m [];rw[List.nil_append]at this;exact this
  rw[f0];cases its with
  |nil=>simp
  |cons a r'=>rw[if_neg (by simp)]
 refine wpAny_binaryOp_repeat_ref (T := "list") (U := "int") (by decide) (_,e,rfl) (λs'=>typeIs_int s' k t) noFill_list_mul F.fills_int_mul F.slot_int_rmul repeat_list F.slot_int_index.lookup
  (call_meets F.slot_int_rmul (typeIs_int s k t) F.entry_int_rmul (F.args_int_rmul_2 _ _) (int___rmul___int_list k t l its.toArray n)
   (e,rfl,(_,e,rfl),call_meets F.slot_list_mul (_,e,rfl) F.entry_list_mul (F.args_list_mul_2 _ _) (AutoListH.list___mul___list_int_3 l its.toArray n k t hfit hcap hlong) (e,?_)))
 rw[hnew];exact(.ref _,_,I.Hw (t':=s.toks) (r.rep k.toNat) (by rw[len_rep,Nat.mul_comm];exact hz),rfl,q _ I.fresh)
end
section
variable{prog:Program}{w:World}{A:Around}{E:Vs}{s:Shared}
set_option maxRecDepth 100000 in
end
section
variable{κ:Type} [DecidableEq κ]
def bE(kvs:List (κ×V))(k:κ):Option V:=(kvs.find? λkv=>decide (kv.1=k)).map (·.2)
def putK(kvs:List (κ×V))(k:κ)(v:V):List (κ×V):=
 if (kvs.any λkv=>decide (kv.1=k))=true then kvs.map (λkv=>if kv.1=k then ⟨kv.1,v⟩ else kv) else kvs++[⟨k,v⟩]
def cf{p:κ×V}{r:List (κ×V)}{k:κ}(e:p.1=k):bE (p::r) k=some p.2:=by simp[bE,e]
def bZ{p:κ×V}{r:List (κ×V)}{k:κ}(e:¬p.1=k):bE (p::r) k=bE r k:=by simp[bE,e]
theorem cX(k:κ):∀kvs:List (κ×V),(kvs.any λkv=>decide (kv.1=k))=(bE kvs k).isSome
 |[]=>rfl
 |p::r=>by
  rw[O4];by_cases e:p.1=k
  ·simp only[cf e,decide_eq_true e,Bool.true_or,Option.isSome_some]
  ·rw[bZ e,decide_eq_false e,Bool.false_or];exact cX k r
theorem uX(k j:κ)(y:V):∀kvs:List (κ×V),bE (kvs.map λkv=>if kv.1=k then ⟨kv.1,y⟩ else kv) j=(bE kvs j).map λx=>if j=k then y else x
 |[]=>rfl
 |p::r=>by
  have ih:=uX k j y r;rw[iS];by_cases h:p.1=k
  ·rw[if_pos h];by_cases e:p.1=j
   ·rw[cf (p:=⟨p.1,y⟩) e,cf e,Option.map_some,if_pos (e.symm.trans h)]
   ·rw[bZ (p:=⟨p.1,y⟩) e,bZ e,ih]
  ·rw[if_neg h];by_cases e:p.1=j
   ·rw[cf e,cf e,Option.map_some,if_neg (λz=>h (e.trans z))]
   ·rw[bZ e,bZ e,ih]
theorem o9(k j:κ)(y:V):∀kvs:List (κ×V),bE kvs k=none->bE (kvs++[⟨k,y⟩]) j=if j=k then some y else bE kvs j
 |[],_=>by
  by_cases e:k=j
  ·rw[if_pos e.symm];exact cf e
  ·rw[if_neg (λz=>e z.symm)];exact bZ e
 |p::r,hn=>by
  rw[NZ];have hk:¬p.1=k:=λz=>by rw[cf z]at hn;cases hn
  rw[bZ hk]at hn;have ih:=o9 k j y r hn;by_cases e:p.1=j
  ·rw[cf e,cf e,if_neg (λz=>hk (e.trans z))]
  ·rw[bZ e,bZ e,ih]
def Ek(kvs:List (κ×V))(k j:κ)(y:V):bE (putK kvs k y) j=if j=k then some y else bE kvs j:=by
 unfold putK;by_cases a:(kvs.any λkv=>decide (kv.1=k))=true
 ·rw[if_pos a,uX];rw[cX]at a;by_cases e:j=k
  ·let(x,hx):=TK.mp a;rw[if_pos e,e,hx,Option.map_some,if_pos rfl]
  ·simp_all
 ·rw[if_neg a];refine o9 k j y kvs ?_;rw[cX]at a;cases q:bE kvs k with
  |none=>rfl
  |some x=>rw[q]at a;exact(a rfl).elim
def cJ(kvs:List (κ×V))(k:κ)(v:V):(putK kvs k v).length<=kvs.length+1:=by
 unfold putK;split
 ·rw[aD];lia
 ·simp_all
def nN{kvs:List (κ×V)}{k:κ}(v:V)(h:bE kvs k=none):putK kvs k v=kvs++[⟨k,v⟩]:=by
 unfold putK;rw[cX,h];exact if_neg (by decide)
def eX.fX(r:eX o u):o.isSome=u.isSome:=by
 cases o with
 |none=>cases u with
  |none=>rfl
  |some _=>exact r.elim
 |some _=>cases u with
  |none=>exact r.elim
  |some _=>rfl
def eX.getD(r:eX o u)(rd:RelV d d'):RelV (o.getD d) (u.getD d'):=by
 cases o with
 |none=>cases u with
  |none=>exact rd
  |some _=>exact(show False from r).elim
 |some _=>cases u with
  |none=>exact(show False from r).elim
  |some _=>exact r
def KV.val{kvs:List (κ×V)}{vs:List (κ×Value)}(r:KV kvs vs)(k:κ):eX (bE kvs k) (valueAt vs k):=by
 induction r with
 |nil=>exact True.intro
 |@cons p q ps qs h t ih=>
  let(h1,h2):=h;by_cases e:p.1=k
  ·have e':=h1.symm.trans e;have b:valueAt (q::qs) k=some q.2:=by simp[valueAt,e']
   rw[cf e,b];exact h2
  ·have e':¬q.1=k:=λz=>e (h1.trans z);have b:valueAt (q::qs) k=valueAt qs k:=by simp[valueAt,e']
   rw[bZ e,b];exact ih
def KV.any{kvs:List (κ×V)}{vs:List (κ×Value)}(r:KV kvs vs)(k:κ):(kvs.any λkv=>decide (kv.1=k))=vs.any λkv=>decide (kv.1=k):=by
 induction r with
 |nil=>rfl
 |cons h t ih=>rw[O4,O4,ih,h.1]
def KV.M8{kvs:List (κ×V)}{vs:List (κ×Value)}(r:KV kvs vs)(k:κ){y:V}{u:Value}(ry:RelV y u):
  KV (kvs.map λkv=>if kv.1=k then ⟨kv.1,y⟩ else kv) (vs.map λkv=>if kv.1=k then ⟨kv.1,u⟩ else kv):=by
 induction r with
 |nil=>exact .nil
 |@cons p q ps qs h t ih=>
  rw[iS,iS];refine .cons ?_ ih;let(h1,h2):=h;by_cases e:p.1=k
  ·rw[if_pos e,if_pos (h1.symm.trans e)];exact(h1,ry)
  ·rw[if_neg e,if_neg (λz=>e (h1.trans z))];exact(h1,h2)
def KV.put{kvs:List (κ×V)}{vs:List (κ×Value)}(r:KV kvs vs)(k:κ){y:V}{u:Value}(ry:RelV y u):KV (putK kvs k y) (stored vs k u):=by
 unfold putK stored;rw[r.any k];by_cases e:(vs.any λkv=>decide (kv.1=k))=true
 ·rw[if_pos e,if_pos e];exact r.M8 k ry
 ·rw[if_neg e,if_neg e];exact Paired.snoc r (rfl,ry)
theorem KV.length{kvs:List (κ×V)}{vs:List (κ×Value)}(r:KV kvs vs):kvs.length=vs.length:=Paired.length r
end
def lq(r:RelV (kV k) u):(bu P w).is k u=true:=by
 cases k with
 |inl i=>let(t,e):=r;subst e;exact uS P w i t
 |inr x=>let(t,e):=r;subst e;exact tL P w x t
theorem qk:∀{ks:List Key}{us:List Value},Vals (ks.map kV) us->ItemsAre (bu P w) ks us
 |[],_,r=>by rw[List.map_nil]at r;cases r;exact .nil
 |k::ks,_,r=>by
  cases r with
  |cons h t=>exact .cons (lq h) (qk t)
abbrev KT(H:Hp):List (List Key×V)->List (List Key×Addr×Value)->Prop:=Paired λp q=>p.1=q.1/\H q.2.1=some (.tup (p.1.map kV))/\RelV p.2 q.2.2
def KT.val{H:Hp}{kvs:List (List Key×V)}{xs:List (List Key×Addr×Value)}(r:KT H kvs xs)(k:List Key):eX (bE kvs k) ((atKey xs k).map (·.2)):=by
 induction r with
 |nil=>exact True.intro
 |@cons p q ps qs h t ih=>
  let(h1,_,h2):=h;by_cases e:p.1=k
  ·have e':=h1.symm.trans e;have b:atKey (q::qs) k=some q.2:=by simp[atKey,e']
   rw[cf e,b];exact h2
  ·have e':¬q.1=k:=λz=>e (h1.trans z);have b:atKey (q::qs) k=atKey qs k:=by simp[atKey,e']
   rw[bZ e,b];exact ih
def KT.M8{H:Hp}{kvs:List (List Key×V)}{xs:List (List Key×Addr×Value)}(r:KT H kvs xs)(k:List Key){y:V}{u:Value}(ry:RelV y u):
  KT H (kvs.map λkv=>if kv.1=k then ⟨kv.1,y⟩ else kv) (xs.map (putAt k u)):=by
 induction r with
 |nil=>exact .nil
 |@cons p q ps qs h t ih=>
  rw[iS,iS];refine .cons ?_ ih;let(h1,h2,h3):=h;unfold putAt;by_cases e:p.1=k
  ·rw[if_pos e,if_pos (h1.symm.trans e)];exact(h1,h2,ry)
  ·rw[if_neg e,if_neg (λz=>e (h1.trans z))];exact(h1,h2,h3)
def KT.put{H:Hp}{kvs:List (List Key×V)}{xs:List (List Key×Addr×Value)}(r:KT H kvs xs)(k:List Key){b:Addr}{y:V}{u:Value}(hb:H b=some (.tup (k.map kV)))(ry:RelV y u):
  KT H (putK kvs k y) (storedH xs k b u):=by
 have e:(kvs.any λkv=>decide (kv.1=k))=(atKey xs k).isSome:=by
  rw[cX,(r.val k).fX,MM]
 unfold putK storedH;rw[e];by_cases q:(atKey xs k).isSome=true
 ·rw[if_pos q,if_pos q];exact r.M8 k ry
 ·rw[if_neg q,if_neg q];exact Paired.snoc r (rfl,hb,ry)
theorem KT.keeps(r:KT H kvs xs)(ht:∀b ys,H b=some (.tup ys)->H' b=some (.tup ys)):KT H' kvs xs:=
 Paired.Ly r λ_ _ z=>(z.1,ht _ _ z.2.1,z.2.2)
section
variable{P:Program}{w:World}{H:Hp}{h:Heap}{a:Addr}
theorem KJ(ok:gA P w H h)(e:Rd H a u):bS P w H h a u:=e.ok ok
theorem jW(ok:gA P w H h)(e:Rd H a (.dK kvs)):kvs.length<=sizeLine/\(a == sysModules)=false/\∃vs,KV kvs vs/\h.DictOf (bu P w) a vs:=
 KJ ok e
theorem pP(ok:gA P w H h)(e:H a=some (.dK kvs)):kvs.length<=sizeLine/\(a == sysModules)=false/\∃vs,KV kvs vs/\h.DictOf (bu P w) a vs:=jW ok (.inl e)
def h_(ok:gA P w H h)(e:H a=some (.tup (ks.map kV))):(tupleKind (bu P w)).is h ks a:=by
 let(_,its,r,o,h1,h2,n,h3):=(ok a _ e)
 exact(o,its.toArray,n,h1,h2,h3,by simpa using qk r)
def lG(ok:gA P w H h)(e:Rd H a (.dT kvs)):kvs.length<=sizeLine/\(a == sysModules)=false/\
  ∃xs,KT H kvs xs/\h.DictOfH (tupleKind (bu P w)) a xs:=by
 let(z,y,xs,r,o,es,ep,h1,h2,h3,h4,h5):=(KJ ok e)
 refine(z,y,xs,r,o,es,ep,h1,h2,h3,h4,λx hx=>?_,h5);have all:∀{l:List (List Key×V)}{m:List (List Key×Addr×Value)},KT H l m->∀x∈m,(tupleKind (bu P w)).is h x.1 x.2.1:=by
  intro l m q
  induction q with
  |nil=>intro x hx;exact nomatch hx
  |@cons p q ps qs hq t ih=>
   intro x hx;rcases eP.mp hx with e|hx
   ·subst e;exact h_ ok (hq.1▸hq.2.1)
   ·exact ih x hx
 exact all r x hx
theorem JA(ok:gA P w H h)(e:H a=some (.dT kvs)):kvs.length<=sizeLine/\(a == sysModules)=false/\
  ∃xs,KT H kvs xs/\h.DictOfH (tupleKind (bu P w)) a xs:=lG ok (.inl e)
end
def cU(H:Hp)(a:Addr)(y:V)(r:Option V):Prop:=
 (∃kvs k,Rd H a (.dK kvs)/\y=kV k/\r=bE kvs k)\/∃kvs k b,Rd H a (.dT kvs)/\y=.ref b/\H b=some (.tup (k.map kV))/\r=bE kvs k
def dQ(H:Hp)(a:Addr)(y v:V)(H':Hp):Prop:=
 (∃kvs k,H a=some (.dK kvs)/\y=kV k/\kvs.length<sizeLine/\H'=upd H a (.dK (putK kvs k v))) \/
 ∃kvs k b,H a=some (.dT kvs)/\y=.ref b/\H b=some (.tup (k.map kV))/\kvs.length<sizeLine/\H'=upd H a (.dT (putK kvs k v))
theorem cU.k{H:Hp}{a:Addr}{kvs:List (Key×V)}{k:Key}(e:H a=some (.dK kvs)):cU H a (kV k) (bE kvs k):=.inl (kvs,k,.inl e,rfl,rfl)
theorem dQ.k{H:Hp}{a:Addr}{kvs:List (Key×V)}{k:Key}{v:V}(e:H a=some (.dK kvs))(hl:kvs.length<sizeLine):dQ H a (kV k) v (upd H a (.dK (putK kvs k v))):=.inl (kvs,k,e,rfl,hl,rfl)
theorem dQ.t{H:Hp}{a b:Addr}{kvs:List (List Key×V)}{k:List Key}{v:V}(e:H a=some (.dT kvs))(eb:H b=some (.tup (k.map kV)))(hl:kvs.length<sizeLine):
  dQ H a (.ref b) v (upd H a (.dT (putK kvs k v))):=.inr (kvs,k,b,e,rfl,eb,hl,rfl)
section
variable{X:Cx}{pins:Lo}{Z:St}{H:Hp}{s:Shared}{a:Addr}{y v:V}{u r:Value}{o:Option V}{A:Around}{E:Vs}
def Inv.big(I:Inv X pins Z H s):sysModules<s.heap.objs.size:=by
 have h:=(I.mod.glob.keeps I.bk).lt;exact Nat.lt_trans (by decide) h
def zy{Q:Vs}(hu:A.units+1<cLine)(I:Inv X pins Z H s)(g:cU H a y (some v))(ry:RelV y u)(h:∀w' s',Inv X pins Z H s'->RelV v w'->Q w' s'):
  wpAny 'c' A (getItem (.ref a) u) Q E s:=by
 rcases g with ⟨kvs,k,e,ey,l⟩|⟨kvs,k,b,e,ey,eb,l⟩
 ·subst ey;let(z,hd,vs,rel,dd):=jW I.aP e;let(w',hw,rw'):=eX.some_of (l▸rel.val k);exact wpAny_getItem_of (lq ry) dd.mapOf hw (h w' _ (I.tok _) rw')
 ·subst ey;cases ry;let(z,hd,xs,rel,dd):=lG I.aP e;let(w',hw,rw'):=eX.some_of (l▸rel.val k);let(p,hp,hp2):=fC.mp hw;exact wpAny_getItem_heap (tupleKind_room_in1 hu) (h_ I.aP eb) dd hp (hp2▸h w' _ (I.tok _) rw')
def VV{Q:Vs}(hu:A.units+1<cLine)(I:Inv X pins Z H s)(g:cU H a y o)(ry:RelV y u)(h:∀s',Inv X pins Z H s'->Q (.bool o.isSome) s'):
  wpAny 'c' A (compareOp .In u (.ref a)) Q E s:=by
 rcases g with ⟨kvs,k,e,ey,l⟩|⟨kvs,k,b,e,ey,eb,l⟩
 ·subst ey;let(z,hd,vs,rel,dd):=jW I.aP e;exact wpAny_in_of (lq ry) hd dd.mapOf (((rel.val k).fX)▸l▸h _ (I.tok _))
 ·subst ey;cases ry;let(z,hd,xs,rel,dd):=lG I.aP e;refine wpAny_in_heap (tupleKind_room_in1 hu) (h_ I.aP eb) hd dd ?_;have q:=(rel.val k).fX;rw[MM]at q;exact q▸l▸h _ (I.tok _)
def Hy{Q:Vs}(hu:A.units+1<cLine)(I:Inv X pins Z H s)(g:cU H a y o)(ry:RelV y u)(h:∀s',Inv X pins Z H s'->Q (.bool (!o.isSome)) s'):
  wpAny 'c' A (compareOp .NotIn u (.ref a)) Q E s:=by
 rcases g with ⟨kvs,k,e,ey,l⟩|⟨kvs,k,b,e,ey,eb,l⟩
 ·subst ey;let(z,hd,vs,rel,dd):=jW I.aP e;refine wpAny_notIn_of (lq ry) hd dd.mapOf ?_;rw[<-(rel.val k).fX,<-l];exact h _ (I.tok _)
 ·subst ey;cases (show u=Value.ref b from ry);let(z,hd,xs,rel,dd):=lG I.aP e;refine wpAny_notIn_heap (tupleKind_room_in1 hu) (h_ I.aP eb) hd dd ?_;have q:=(rel.val k).fX;rw[MM]at q;rw[<-q,<-l];exact h _ (I.tok _)
theorem jO(I:Inv X pins Z H s)(mu:Q9 (H a))(hs:Heap.SameBut a s.heap h')(he:∃q,h'.get? a=some q)(new:bS X.prog X.w (upd H a ob) h' a ob):
  Inv X pins Z (upd H a ob) { s with heap:=h',toks:=t' }:=
 I.write mu (.inl rfl) (λb q hb z=>(hs.2 b hb).trans z) he new
theorem xE(z:kvs.length<=sizeLine)(hd:(a == sysModules)=false)(rel:KV kvs vs)(dd:h'.DictOf (bu P w) a vs):
  bS P w H' h' a (.dK kvs):=(z,hd,vs,rel,dd)
def Az(hu:A.units+1<cLine)(I:Inv X pins Z H s)(g:dQ H a y v H')(ry:RelV y u)(rv:RelV v r)(h:∀s',Inv X pins Z H' s'->Q () s'):
  wpAny 'c' A (setItem (.ref a) u r) Q E s:=by
 rcases g with ⟨kvs,k,e,ey,l,eH⟩|⟨kvs,k,b,e,ey,eb,l,eH⟩
 ·subst ey eH;let(z,hd,vs,rel,dd):=pP I.aP e;have hz:vs.length<=sizeLine:=rel.length▸z;have hl:(putK kvs k v).length<=sizeLine:=by have:=cJ kvs k v;lia
  refine wpAny_setItem_pairs (lq ry) dd λh' dd' hs=>h _ ?_;have he:∃q,h'.get? a=some q:=let (q,_,_,hq,_):=dd';(q,hq)
  exact jO I (e▸True.intro) hs he (xE hl hd (rel.put k rv) dd')
 ·subst ey eH;cases ry;let(z,hd,xs,rel,dd):=JA I.aP e;have hz:xs.length<=sizeLine:=(Paired.length rel)▸z;have hl:(putK kvs k v).length<=sizeLine:=by have:=cJ kvs k v;lia
  refine wpAny_setItem_heap (tupleKind_room_in1 hu) (h_ I.aP eb) dd λh' dd' hs=>h _ ?_;let(q,es,ep,hq,h2,h3,h4,_,h5):=dd';exact jO I (e▸True.intro) hs (q,hq) (hl,hd,_,(rel.put k eb rv).keeps λc ys ec=>((ae (bA ec e (λz=>nomatch z)))▸ec),q,es,ep,hq,h2,h3,h4,h5)
end
def Sq(i:Expr):Prop:=∀ov iv,subscripted i false ov iv=operate [ov,iv] (getItem ov iv)
def G2{prog:Program}{w:World}{A:Around}{E:Vs}{s:Shared}{env:Env}{value slice:Expr}{pos:Pos}{T id:String}{Q:Vs}
  (hl:typeLookup (.type T) "__getitem__" = pure (some (.builtin id))) (hs:Sq slice)
  (h:wpAny 'b' A (eval value env) (λo s₁=>wpAny 'b' A (eval slice env) (λi s₂=>s₂.TypeIs o T/\wpAny 'b' A (getItem o i) Q E s₂) E s₁) E s):
  wpAny 'b' A (eval (.Subscript value slice pos) env) Q E s:=by
 refine Subscript_ (jV h (λo s₁ h₁=>jV h₁ (λi s₂ h₂=>?_) λ_ _ x=>x) λ_ _ x=>x);let(hT,h₂):=h₂;refine aB (aB (wpAny_specialOf hT hl ?_));have fin:wpAny 'b' A (subscripted slice false o i) (λr s₃=>wpAny 'b' A (letTemporaryGo value o r >>= λ_=>pure r) Q E s₃) E s₂:=by
  exact(hs o i)▸wpAny_operating (jV h₂ (λr s₃ h₃=>aB (wpAny_letTemporaryGo (bp h₃))) λ_ _ x=>x)
 first
  |exact bp (aB fin)
  |exact aB (bp (aB fin))
  |exact aB fin
def tZ{X:Cx}{pins:Lo}{Z:St}{H:Hp}{s:Shared}{a:Addr}{y:V}{o:Option V}(I:Inv X pins Z H s)(g:cU H a y o):s.TypeIs (.ref a) "dict" := by
 rcases g with ⟨kvs,k,e,_,_⟩|⟨kvs,k,b,e,_,_,_⟩
 ·let(_,_,vs,_,dd):=jW I.aP e;exact dd.typeIs
 ·let(_,_,xs,_,dd):=lG I.aP e;exact dd.typeIs
def yl(td ty:TE):TE:=λZ H Q=>td Z H λx H1=>ty Z H1 λy H2=>∃a v,x=.ref a/\cU H2 a y (some v)/\Q v H2
def Uj(ty td:TE):TE:=λZ H Q=>ty Z H λy H1=>td Z H1 λx H2=>∃a o,x=.ref a/\cU H2 a y o/\Q (.bl o.isSome) H2
def GO(ty td:TE):TE:=λZ H Q=>ty Z H λy H1=>td Z H1 λx H2=>∃a o,x=.ref a/\cU H2 a y o/\Q (.bl (!o.isSome)) H2
def yC(td ty tv:TE):TS:=λD Z H=>tv Z H λv H1=>td Z H1 λx H2=>ty Z H2 λy H3=>∃a H4,x=.ref a/\dQ H3 a y v H4/\D.nx Z H4
section
variable{X:Cx}{o i e value:Expr}{pos pos' tpos:Pos}{td ty tv:TE}
def dX(hu:X.A.units+1<cLine)(ho:PE X o td)(hi:PE X i ty)(hs:Sq i):PE X (.Subscript o i pos) (yl td ty):=by
 intro pins s Z H Q I h;refine G2 PySem.F.slot_dict_getitem.lookup hs (bL (ho pins s Z H _ I h) λu s1 (x,H1,I1,rx,q1)=>bL (hi pins s1 Z H1 _ I1 q1) λiv s2 (y,H2,I2,ry,a,v,ex,g,q2)=>?_);subst ex;obtain rfl:u=Value.ref a:=rx;exact(tZ I2 g,zy hu I2 g ry λw' s3 I3 rw'=>(v,H2,I3,rw',q2))
def Bn(hu:X.A.units+1<cLine)(hi:PE X i ty)(ho:PE X o td):PC X .In i o (Uj ty td):=by
 intro pins s Z H Q I h;refine bL (hi pins s Z H _ I h) λiv s1 (y,H1,I1,ry,q1)=>bL (ho pins s1 Z H1 _ I1 q1) λu s2 (x,H2,I2,rx,a,ov,ex,g,q2)=>?_;subst ex;obtain rfl:u=Value.ref a:=rx;exact VV hu I2 g ry λs3 I3=>(.bl ov.isSome,H2,I3,rfl,q2)
def iG(hu:X.A.units+1<cLine)(hi:PE X i ty)(ho:PE X o td):PC X .NotIn i o (GO ty td):=by
 intro pins s Z H Q I h;refine bL (hi pins s Z H _ I h) λiv s1 (y,H1,I1,ry,q1)=>bL (ho pins s1 Z H1 _ I1 q1) λu s2 (x,H2,I2,rx,a,ov,ex,g,q2)=>?_;subst ex;obtain rfl:u=Value.ref a:=rx;exact Hy hu I2 g ry λs3 I3=>(.bl (!ov.isSome),H2,I3,rfl,q2)
def dU(hu:X.A.units+1<cLine)(ho:PE X o td)(hi:PE X i ty)(hv:PE X value tv)(hs:swapsWith value (some (.Subscript o i pos')) pos.line X.env=pure false):
  PS X (.Assign [.Subscript o i pos'] value pos) (yC td ty tv):=by
 intro pins s Z H D I h;refine wpAny_Assign_Subscript (bL (hv pins s Z H _ I h) λr s1 (v,H1,I1,rv,q1)=>bL (ho pins s1 Z H1 _ I1 q1) λu s2 (x,H2,I2,rx,q2)=>bL (hi pins s2 Z H2 _ I2 q2) λiv s3 (y,H3,I3,ry,a,H4,ex,g,q3)=>?_) hs;subst ex;obtain rfl:u=Value.ref a:=rx;exact Az hu I3 g ry rv λs4 I4=>(Z,H4,I4,q3)
end
theorem C1(h:Heap)(hb:sysModules<h.objs.size):bS P w H (h.push { cls:=.type "dict", data:=.dict #[] }) h.objs.size (.dK []):=
 (d6 _,beq_eq_false_iff_ne.mpr (Ne.symm (fu hb)),[],.nil,Heap.DictOf.new h)
theorem Cq(h:Heap)(hb:sysModules<h.objs.size):bS P w H (h.push { cls:=.type "dict", data:=.dict #[] }) h.objs.size (.dT []):=
 (d6 _,beq_eq_false_iff_ne.mpr (Ne.symm (fu hb)),[],.nil,_,#[],0,iL _ rfl,(rfl,rfl,rfl),rfl,rfl,CB)
def MP:TE:=λ_ H Q=>∀p,H p=none->Q (.ref p) (upd H p (.dK []))
def Ny:TE:=λ_ H Q=>∀p,H p=none->Q (.ref p) (upd H p (.dT []))
section
variable{X:Cx}{pos:Pos}
theorem cZ:PE X (.Dict [] [] pos) MP:=λpins s Z H Q I h=>
 wpAny_Dict_empty (.ref s.heap.objs.size,_,I.laid (λ_ _ q=>cV _ q) (bJ _) (C1 s.heap I.big),rfl,h _ (I.aP.fresh (bJ _)))
theorem uO:PE X (.Dict [] [] pos) Ny:=λpins s Z H Q I h=>
 wpAny_Dict_empty (.ref s.heap.objs.size,_,I.laid (λ_ _ q=>cV _ q) (bJ _) (Cq s.heap I.big),rfl,h _ (I.aP.fresh (bJ _)))
end
def nW(kvs more:List (Key×V)):List (Key×V):=more.foldl (λacc kv=>putK acc kv.1 kv.2) kvs
def KV.merge:∀{more:List (Key×V)}{rs:List (Key×Value)}{kvs:List (Key×V)}{vs:List (Key×Value)},KV more rs->KV kvs vs->KV (nW kvs more) (merged vs rs):=by
 intro more rs kvs vs r
 induction r generalizing kvs vs with
 |nil=>intro q;exact q
 |@cons p q ps qs h t ih=>
  intro r0;have e:KV (putK kvs p.1 p.2) (stored vs q.1 q.2):=by
   have:=r0.put p.1 h.2;rw[<-h.1];exact this
  exact ih e
theorem i7:∀(more kvs:List (Key×V)),(nW kvs more).length<=kvs.length+more.length
 |[],kvs=>by show kvs.length<=kvs.length+0;lia
 |p::r,kvs=>by
  have h1:=i7 r (putK kvs p.1 p.2);have h2:=cJ kvs p.1 p.2;show(nW (putK kvs p.1 p.2) r).length<=_;rw[oY];lia
structure M1(X:Cx)(o:Expr)(m:Str)(apos:Pos)(e:Expr)(cpos:Pos):Prop where
 base:attributeBase o m X.env (eval o X.env)=eval o X.env
 cY:((backTo cpos (starEach [e] X.env)).all (λx=>!x.1)&&(backToKw cpos (keywordEach [] X.env)).all (λx=>x.1.isSome)
  && decide (([e]:List Expr).length+([]:List Keyword).length+(if ([]:List Keyword).isEmpty then 0 else 1)<30))=true
 line:(apos.endLine == cpos.line)=true
 trees:backTo cpos (starEach [e] X.env)=[⟨false,eval e X.env⟩]
structure M2(X:Cx)(o:Expr)(m:Str)(apos:Pos)(e f:Expr)(cpos:Pos):Prop where
 base:attributeBase o m X.env (eval o X.env)=eval o X.env
 cY:((backTo cpos (starEach [e,f] X.env)).all (λx=>!x.1)&&(backToKw cpos (keywordEach [] X.env)).all (λx=>x.1.isSome)
  && decide (([e,f]:List Expr).length+([]:List Keyword).length+(if ([]:List Keyword).isEmpty then 0 else 1)<30))=true
 line:(apos.endLine == cpos.line)=true
 trees:backTo cpos (starEach [e,f] X.env)=[⟨false,eval e X.env⟩,⟨false,eval f X.env⟩]
def Tu(H:Hp)(a:Addr):Prop:=(∃kvs,Rd H a (.dK kvs))\/∃kvs,Rd H a (.dT kvs)
def vv{X:Cx}{pins:Lo}{Z:St}{H:Hp}{s:Shared}{a:Addr}(I:Inv X pins Z H s)(d:Tu H a):
  s.TypeIs (.ref a) "dict" /\ (∀b,Value.ref a=.ref b->∃ob,s.heap.get? b=some ob/\ob.dict=none)/\(a == sysModules)=false:=by
 rcases d with ⟨kvs,e⟩|⟨kvs,e⟩
 ·let(_,hd,vs,_,dd):=jW I.aP e;refine(dd.typeIs,λb q=>?_,hd);cases q;let(ob,_,_,h1,h2,_):=dd;exact(ob,h1,h2.2.1)
 ·let(_,hd,xs,_,dd):=lG I.aP e;refine(dd.typeIs,λb q=>?_,hd);cases q;let(ob,_,_,h1,h2,_):=dd;exact(ob,h1,h2.2.1)
section
variable{X:Cx}{pins:Lo}{Z:St}{H:Hp}{s:Shared}{a:Addr}{y d:V}{u r:Value}{o:Option V}{A:Around}{E:Vs}
def NL{Q:Vs}(hu:A.units+1<cLine)(I:Inv X pins Z H s)(g:cU H a y o)(ry:RelV y u)(h:∀w' s',Inv X pins Z H s'->RelV (o.getD .bw) w'->Q w' s'):
  wpAny 'c' A (call (.builtin "dict.get") [.ref a,u]) Q E s:=by
 rcases g with ⟨kvs,k,e,ey,l⟩|⟨kvs,k,b,e,ey,eb,l⟩
 ·subst ey;let(z,hd,vs,rel,dd):=jW I.aP e;refine call_meetsIn PySem.F.slot_dict_get dd.typeIs PySem.F.entry_dict_get (PySem.F.args_dict_get_2 _ _) (meets_dict_get (bu X.prog X.w) a (lq ry) hd) (_,dd.mapOf,h _ _ (I.tok _) ?_);rw[l];exact(rel.val k).getD rfl
 ·subst ey;cases (show u=Value.ref b from ry);let(z,hd,xs,rel,dd):=lG I.aP e;refine call_meetsIn PySem.F.slot_dict_get dd.typeIs PySem.F.entry_dict_get (PySem.F.args_dict_get_2 _ _) (meetsH_dict_get (tupleKind (bu X.prog X.w)) a b hd) (tupleKind_room_in1 hu,k,xs,h_ I.aP eb,dd,h _ _ (I.tok _) ?_);rw[l];exact(rel.val k).getD rfl
def N0{Q:Vs}(hu:A.units+1<cLine)(I:Inv X pins Z H s)(g:cU H a y o)(ry:RelV y u)(rd:RelV d r)(h:∀w' s',Inv X pins Z H s'->RelV (o.getD d) w'->Q w' s'):
  wpAny 'c' A (call (.builtin "dict.get") [.ref a,u,r]) Q E s:=by
 rcases g with ⟨kvs,k,e,ey,l⟩|⟨kvs,k,b,e,ey,eb,l⟩
 ·subst ey;let(z,hd,vs,rel,dd):=jW I.aP e;refine call_meetsIn PySem.F.slot_dict_get dd.typeIs PySem.F.entry_dict_get (PySem.F.args_dict_get_3 _ _ _) (meets_dict_get_default (bu X.prog X.w) a (lq ry) hd r) (_,dd.mapOf,h _ _ (I.tok _) ?_);rw[l];exact(rel.val k).getD rd
 ·subst ey;cases (show u=Value.ref b from ry);let(z,hd,xs,rel,dd):=lG I.aP e;refine call_meetsIn PySem.F.slot_dict_get dd.typeIs PySem.F.entry_dict_get (PySem.F.args_dict_get_3 _ _ _) (meetsH_dict_get_default (tupleKind (bu X.prog X.w)) a b hd r) (tupleKind_room_in1 hu,k,xs,h_ I.aP eb,dd,h _ _ (I.tok _) ?_);rw[l];exact(rel.val k).getD rd
end
def Ms(td ty:TE):TE:=λZ H Q=>td Z H λx H1=>∃a,x=.ref a/\Tu H1 a/\ty Z H1 λy H2=>∃o,cU H2 a y o/\Q (o.getD .bw) H2
def Nb(td ty tx:TE):TE:=λZ H Q=>td Z H λx H1=>∃a,x=.ref a/\Tu H1 a/\ty Z H1 λy H2=>tx Z H2 λz H3=>∃o,cU H3 a y o/\Q (o.getD z) H3
section
variable{X:Cx}{o e f:Expr}{apos cpos:Pos}{td ty tx:TE}
def Ce(hu:X.A.units+1<cLine)(ho:PE X o td)(he:PE X e ty)(m:M1 X o "get" apos e cpos):PE X (.Call (.Attribute o "get" apos) [e] [] cpos) (Ms td ty):=by
 intro pins s Z H Q I h;refine wpAny_Call_method m.base m.cY m.line PySem.F.plainAttrs_dict PySem.F.slot_dict_get PySem.F.type_dict_get (bL (ho pins s Z H _ I h) λu s1 (x,H1,I1,rx,a,ex,d,q1)=>?_);subst ex;obtain rfl:u=Value.ref a:=rx;let(t1,t2,_):=vv I1 d;refine(t1,t2,?_);rw[m.trees];refine Calls.callWith_builtin rfl (Calls.evalArgs_plain (Calls.spliced_cons (bL (he pins s1 Z H1 _ I1 q1) λiv s2 (y,H2,I2,ry,ov,g,q2)=>Calls.spliced_nil ?_)));exact NL hu I2 g ry λw' s3 I3 rw'=>(_,H2,I3,rw',q2)
def tM(hu:X.A.units+1<cLine)(ho:PE X o td)(he:PE X e ty)(hf:PE X f tx)(m:M2 X o "get" apos e f cpos):PE X (.Call (.Attribute o "get" apos) [e,f] [] cpos) (Nb td ty tx):=by
 intro pins s Z H Q I h;refine wpAny_Call_method m.base m.cY m.line PySem.F.plainAttrs_dict PySem.F.slot_dict_get PySem.F.type_dict_get (bL (ho pins s Z H _ I h) λu s1 (x,H1,I1,rx,a,ex,d,q1)=>?_);subst ex;obtain rfl:u=Value.ref a:=rx;let(t1,t2,_):=vv I1 d;refine(t1,t2,?_);rw[m.trees];refine Calls.callWith_builtin rfl (Calls.evalArgs_plain (Calls.spliced_cons (bL (he pins s1 Z H1 _ I1 q1) λiv s2 (y,H2,I2,ry,q2)=>
  Calls.spliced_cons (bL (hf pins s2 Z H2 _ I2 q2) λfv s3 (z,H3,I3,rz,ov,g,q3)=>Calls.spliced_nil ?_))))
 exact N0 hu I3 g ry rz λw' s4 I4 rw'=>(_,H3,I4,rw',q3)
end
end L2
namespace Att
open PySem PySem.W PySem.Calls PyProof.Rows
def ints_of_wellAll:∀(ns:List Int) (vs:List Value),WellAll P h vs (ns.map WData.int)->IntsAre vs ns:=by
 intro ns
 induction ns with
 |nil=>
  intro vs w;cases w;exact .nil
 |cons n ns ih=>
  intro vs w;cases w with
  |cons a b=>
   cases a;exact .cons _ _ (ih _ b)
def script_of{l:OpenLaw}{n:Nat}(hn:l.most=some n){P:Params}{h:Heap}{args:List WData}{vals:List Value}
  (hpre:l.row.toRowW.claim.pre args=true) (hwl:WellAll P h vals args):
  ∃a vs ns,vals=[Value.ref a]/\args=[WData.list (ns.map WData.int)]/\h.get? a=some { cls:=.type "list", data:=.seq vs.toArray }/\IntsAre vs ns/\ns.length<=n:=by
 have hsh:WShape.hasAll [] args [.list .int]=true:=(pre_splitW hpre).1;have hc:l.pre.holds [] { args:=args }=true:=(pre_splitW hpre).2;let(d,r,rfl,h1,h2):=hasAllW_cons hsh;obtain rfl:=hasAllW_nil h2;let(xs,rfl,h3):=hasW_list h1;let(ns,rfl):=items_int h3;have hlen:=by
  have h4:=by
   have h4:=(holds_andW hc).1;rw[hn]at h4;exact h4
  have h5:=condW_of h4 (w_not (w_lt w_lit (w_len_list (w_arg rfl))))
  first
   | (rw[decide_eq_true q']at h5;exact absurd h5 (by decide))
   | (simp at h5;omega)
 cases hwl with
 |cons w1 w2=>
  cases w2;cases w1 with
  |list ho hall=>exact(_,_,ns,rfl,rfl,ho,ints_of_wellAll ns _ hall,hlen)
theorem post_true(l:OpenLaw)(args:List WData):l.row.toRowW.claim.post args (.bool true) args=true:=
 postW_of
  (show WShape.has [] (.bool true) .bool=true by first|rfl|decide|simp)
  (w_eq_bool (w_res rfl) w_lit) rfl
def attach_call{l:OpenLaw}{n:Nat}{q:Program}{loose:List Str}{XP:(Str->Option Value)->Heap->Prop}{YP:World->Heap->Prop}{d:DefRec}
  (hn:l.most=some n) (hdf:d.params.defaults=[])
  (call:∀(w:World) (s₀ s₁:Shared) (mg mb:So) (fa:Addr) (o:Obj) (pm cd doc:Value) (a:Addr) (vs:List Value) (ns:List Int),
   Ground q loose [] XP w s₀ mg mb s₁.heap->YP w s₁.heap->
   s₁.heap.get? fa=some o->o.data=.func (docDef d.name d.params d.body d.scope pm cd doc)->s₁.heap.CodeRec cd d.name->mg d.name=some (.ref fa)->
   s₁.heap.get? a=some { cls:=.type "list", data:=.seq vs.toArray }->IntsAre vs ns->ns.length<=n->s₁.gens=#[]->
   codeAny (model l.prog w) callerA (.call (.ref fa) ([.ref a],[])) (λr s'=>r=.ok (.ret (.bool true))/\OldK s₁.heap s'.heap/\s'.os=s₁.os/\AllBare s'.gens) s₁):
  WalkO q loose XP YP l.row.toRowW d [] (λf vs=>PySem.call f vs):=by
 intro w s₀ s₁ mg mb G Y fa o pm cd doc dV kV ho hd hcd hD hmg hg args vals as hpre hlay hrd hwl hlo;obtain rfl:dV=.none:=Dflts.none hD hdf;obtain rfl:kV=.none:=Dflts.noKw hD;let(a,vs,ns,rfl,rfl,hobj,hints,hlen):=script_of hn hpre hwl;refine enter_call (codeAny_mono (call w s₀ s₁ mg mb fa o pm cd doc a vs ns G Y ho (fd_plain hd) hcd hmg hobj hints hlen hg) λr s' hq=>?_);let(rfl,h2,h3,h4):=hq;exact(.inl (.bool true,.bool true,[],rfl,λ_=>rfl,.bool true,post_true l _,λ_=>(List.Pairwise.nil,λ_ hm=>(nomatch hm))),h2,h3,h4)
section
variable{prog:Program}{w:World}{A:Around}{E:Vs}{s:Shared}{K:Frag}
def ledger(h:Heap)(L d:Addr):Lo:=(List.range h.objs.size).filterMap λa=>if a=L\/a=d then none else (h.get? a).map λo=>⟨a,o⟩
end
end Att
namespace L2
open PySem PySem.Spec PyProof.Rows
theorem p8:∀{vs:List Value}{ns:List Int},IntsAre vs ns->Vals (ns.map V.int) vs
 |_,_,.nil=>.nil
 |_,_,.cons n t h=>.cons (t,rfl) (p8 h)
def inClass(s:Stmt)(j:Nat):Stmt:=match s with
 |.ClassDef _ _ _ body _ _ _ _ _ _ _=>body.getD j (.Pass (0,0,0,0))
 |_=>.Pass (0,0,0,0)
def dh(s:Stmt):Arguments:=match s with
 |.FunctionDef _ a _ _ _ _ _ _ _ _=>a
 |_=>{ posonlyargs:=[],args:=[],vararg:=none,kwonlyargs:=[],kw_defaults:=[],kwarg:=none,defaults:=[] }
def cO(s:Stmt):List Stmt:=match s with
 |.FunctionDef _ _ b _ _ _ _ _ _ _=>b
 |_=>[]
def ah(s:Stmt):Scope:=match s with
 |.FunctionDef _ _ _ _ _ _ sc _ _ _=>sc
 |_=>{ kind:=.function,names:=[],isGenerator:=false,isCoroutine:=false }
abbrev de:AY:=λ_ _ _ _ _ _=>False
abbrev E0:XK:=λ_ _ _=>False
theorem aC:Passes de X E0:=λ_ _ _ _ _ _ _ h=>h.elim
structure Gw(K:Wf)(x qual:Str)(st:Stmt)(f:Addr)(fd:FuncData):Prop where
 ex:∃(oc:Value) (od:Option Addr) (kV doc pm:Value) (an:Option Addr) (cdv ct:Value) (osl:Array (Option Value)),
  fd=fnOf x qual (dh st) (cO st) (ah st) .none kV doc pm an cdv ct/\K.lookup f=some (oc,od,.func fd,osl)/\codeIn K cdv qual=true
 kp:keepIn K (.ref f)=true
section
variable{P:Program}{w:World}{K:Wf}{mg:So}{base:Heap}
def Gw.ok{x qual:Str}{st:Stmt}{f:Addr}{fd:FuncData}{N ps:List Str}{k:Nat}{sp:Sp}(F:Gw K x qual st f fd)(S:ar N ps (ah st))(len:∀vs H Q E,sp vs H Q E->vs.length=ps.length)
  (hbody:∀(cdv:Value) (A:Around) (outer:List Env) (s:Shared) (H:Hp) (vs:List V) (Q:VK) (E:XK),cB k (A.deeper (envOfC qual (ah st) s.heap.objs.size f cdv))->sp vs H Q E->
   ∃t,n_ (k8 de P w K mg base N qual (ah st) f cdv A outer s H E).zl (cO st) t/\t { nx:=λ_ H'=>Q .bw H',rt:=Q } (start N vs) H):aS P w K mg base de (k+1) f fd ps sp:=by
 let(oc,od,kV,doc,pm,an,cdv,ct,osl,rfl,lk,hcd):=F.ex;refine D0 lk hcd S len λA outer s H vs Q E hr hsp=>?_;let(t,h,q):=hbody cdv A outer s H vs Q E hr hsp;exact(t,h.zl,q)
def Gw.binds{x qual:Str}{st:Stmt}{f:Addr}{fd:FuncData}{ps:List Str}(F:Gw K x qual st f fd)
  (h:∀(kV doc pm:Value) (an:Option Addr) (cdv ct:Value) (us:List Value),us.length=ps.length->bindArgs (fnOf x qual (dh st) (cO st) (ah st) .none kV doc pm an cdv ct) (us,[])=pure (ps.zip us)):Binds K fd ps []:=by
 let(oc,od,kV,doc,pm,an,cdv,ct,osl,rfl,lk,hcd):=F.ex;exact .all (h kV doc pm an cdv ct)
theorem BS{x qual:Str}{st:Stmt}{f:Addr}{oc:Value}{od an:Option Addr}{osl:Array (Option Value)}{kV doc pm cdv ct:Value}(l:K.lookup f=some (oc,od,.func (fnOf x qual (dh st) (cO st) (ah st) .none kV doc pm an cdv ct),osl))
  (c:codeIn K cdv qual=true) (k:keepIn K (.ref f)=true):Gw K x qual st f (fnOf x qual (dh st) (cO st) (ah st) .none kV doc pm an cdv ct):=((oc,od,kV,doc,pm,an,cdv,ct,osl,rfl,l,c),k)
end
theorem bO(hr:cB k A):A.units+1<cLine:=Nat.lt_of_le_of_lt (Nat.add_le_add_left (by decide:1<=64) _) hr.units
section
variable{X:Cx}
def visB(sc:Scope)(x:Str):Bool:=match sc.names.lookup x with
 |some .local=>true
 |some .cell=>true
 |some .free=>true
 |_=>false
def varB(N:List Str)(sc:Scope)(i:Nat)(x:Str):Bool:=match N[i]? with
 |some y=>decide (y=x)&&(visB sc x&&(!(x == ("__debug__" : Str)) && !(x == ("__classdict__" : Str))))
 |none=>false
def pv(i:Nat){x:Str}{pos:Pos}(h:varB X.N X.env.scope i x=true:=by kernel_rfl):PE X (.Name x pos) (lL i):=by
 unfold varB at h;split at h
 ·rename_i y hy;rw[lH,lH,lH]at h;let(h1,h2,h3,h4):=h;refine NI (hy.trans (congrArg some (of_decide_eq_true h1))) ?_ (by simpa using h3) (by simpa using h4);unfold visB at h2;split at h2
  ·rename_i e;exact .inl e
  ·rename_i e;exact .inr (.inl e)
  ·rename_i e;exact .inr (.inr e)
  ·cases h2
 ·cases h
end
def cH{c A B:Prop} [Decidable c](h1:c->A)(h2:¬c->B):if c then A else B:=by simp_all
def au(H H':Hp):Prop:=∀b o,H b=some o->H' b=some o
theorem au.refl(H:Hp):au H H:=λ_ _ h=>h
theorem au.trans(a:au H H1)(b:au H1 H2):au H H2:=λc o h=>b c o (a c o h)
def au.free(e:au H H'){l:Addr}(h:H' l=Option.none):H l=Option.none:=by
 cases q:H l with
 |none=>rfl
 |some o=>
  rw[e l o q]at h;cases h
def au.seq{K:Wf}{H H':Hp}{a:Addr}{xs:List V}(e:au H H')(h:az K H a xs):az K H' a xs:=by
 rcases h with (h|⟨o,h⟩)|h
 ·exact .inl (.inl (e _ _ h))
 ·exact .inl (.inr (o,e _ _ h))
 ·exact .inr h
def mE(env:Env):List (Str×NameKind)->List (Str×Addr)->List (Str×Addr)
 |[],acc=>acc
 | ⟨n,k⟩::r,acc=>mE env r (if (k == NameKind.free)=true then ⟨n,(env.cells.lookup n).getD 0⟩::acc else acc)
def yt:∀(ns:List (Str×NameKind)) (acc:List (Str×Addr)),(∀x∈ns,x.2=.free->∃c,env.cells.lookup x.1=some c)->
  (∀x c,acc.lookup x=some c->env.cells.lookup x=some c)->∀x c,(mE env ns acc).lookup x=some c->env.cells.lookup x=some c
 |[],acc,_,ha=>ha
 | ⟨n,k⟩::r,acc,hn,ha=>by
  refine yt r _ (λx hx=>hn x (jQ _ hx)) ?_;intro x c e;by_cases hk:(k == NameKind.free)=true
  ·rw[if_pos hk]at e;have hk':=by simpa using hk
   let(c',ec):=hn ⟨n,k⟩ mm hk';rw[List.lookup_cons]at e;cases hx:x == n with
   |true=>
    have:x=n:=by simpa using hx
    subst this;have ec':=ec;rw[ec']at e;simp at e;rw[<-e];exact ec'
   |false=>rw[hx]at e;exact ha x c e
  ·rw[if_neg hk]at e;exact ha x c e
theorem p0:∀(ns:List (Str×NameKind)) (acc:List (Str×Addr)) (x:Str),(∃c,acc.lookup x=some c)->∃c,(mE env ns acc).lookup x=some c
 |[],acc,x,h=>h
 | ⟨n,k⟩::r,acc,x,h=>by
  refine p0 r _ x ?_;by_cases hk:(k == NameKind.free)=true
  ·rw[if_pos hk,List.lookup_cons];cases hx:x == n with
   |true=>exact(_,rfl)
   |false=>exact h
  ·rw[if_neg hk];exact h
theorem nX:∀(ns:List (Str×NameKind)) (acc:List (Str×Addr)) (x:Str),⟨x,NameKind.free⟩∈ns->∃c,(mE env ns acc).lookup x=some c
 |[],acc,x,h=>absurd h (by simp)
 | ⟨n,k⟩::r,acc,x,h=>by
  rcases eP.mp h with e|e
  ·injection e with e1 e2;subst e1 e2;refine p0 r _ x ((env.cells.lookup x).getD 0,?_);simp
  ·exact nX r _ x e
def i8{scope:Scope}(h:∀x∈scope.names,x.2=.free->∃c,env.cells.lookup x.1=some c):closureFor scope env=pure (mE env scope.names []):=by
 have key:∀ns acc,(∀x∈ns,x.2=.free->∃c,env.cells.lookup x.1=some c)->
   (do let r <-forIn ns acc (λx r=>if (x.2 == NameKind.free)=true then do let c <-cellOf env x.1;pure (ForInStep.yield (⟨x.1,c⟩::r)) else pure (ForInStep.yield r));pure r:Sem (List (Str×Addr)))=pure (mE env ns acc):=by
  intro ns
  induction ns with
  |nil=>intro acc _;rfl
  |cons y r ih=>
   intro acc hy;let(n,k):=y;rw[List.forIn_cons];by_cases hk:(k == NameKind.free)=true
   ·have hk':=by simpa using hk
    let(c,ec):=hy ⟨n,k⟩ mm hk';have ec':=ec;have e1:cellOf env n=pure c:=by unfold cellOf;rw[ec']
    simp only[hk,e1];have:=ih (⟨n,c⟩::acc) λx hx=>hy x (jQ _ hx);show _=pure (mE env r (if (k == NameKind.free)=true then ⟨n,(List.lookup n env.cells).getD 0⟩::acc else acc));rw[if_pos hk,ec'];exact this
   ·simp only[hk];have:=ih acc λx hx=>hy x (jQ _ hx);show _=pure (mE env r (if (k == NameKind.free)=true then ⟨n,(List.lookup n env.cells).getD 0⟩::acc else acc));rw[if_neg hk];exact this
 simp only[closureFor];rw[key scope.names [] h];rfl
section
variable{prog:Program}{w:World}{A:Around}{R:Result->Shared->Prop}{s:Shared}
def rW{elt target iter:Expr}{scope:Scope}(I:Nat->Shared->Prop)
  (turn:∀n s,I n s->wpAny 'b' A (pyNext it) (λr s₁=>match r with
   |none=>R (.ok .next) s₁
   |some v=>wpAny 'b' A (letOwnedTupleGo target it v) (λ_ s₁'=>wpAny 'b' A (assign target env v) (λ_ s₂=>
     wpAny 'b' A (forIn ifs true λc r=>if r=true then do let ok <-isTrue c env (eval c env);pure (ForInStep.yield ok) else pure (ForInStep.yield r)) (λok s₃=>
      if ok=true then wpAny 'b' A (eval elt env) (λx s₄=>
       wpAny 'b' A (call (.builtin "list.append") [acc,x]) (λ_ s₅=>∃m,m<n/\I m s₅) (λ_ _=>False) s₄) (λ_ _=>False) s₃
      else ∃m,m<n/\I m s₃) (λ_ _=>False) s₂) (λ_ _=>False) s₁') (λ_ _=>False) s₁) (λ_ _=>False) s)
  n (h:I n s):
  codeAny 'b' A (.compLoop (.ListComp elt [(target,iter,ifs,0)] scope pos) 0 it acc env) R s:=by
 refine codeAny_loop rfl I (λn s hI=>(wpAny_noted ?_)) n h;rw[compTurn_list];refine aB (wpAny_standAt (aB (jV (turn n s hI) (λr s₁ h₁=>?_) λ_ _ h'=>h'.elim)));cases r with
 |none=>exact bp h₁
 |some v=>
  refine aB (jV h₁ (λ_ s₁' h₁'=>(aB (jV h₁' (λ_ s₂ h₂=>aB (jV h₂ (λok s₃ h₃=>?_) λ_ _ h'=>h'.elim)) λ_ _ h'=>h'.elim))) λ_ _ h'=>h'.elim);cases ok with
  |false=>exact bp (rfl,h₃)
  |true=>
   exact aB (aB (jV h₃ (λx s₄ h₄=>aB (jV h₄ (λ_ s₅ h₅=>bp (bp (rfl,h₅))) λ_ _ h'=>h'.elim)) λ_ _ h'=>h'.elim))
end
def Al(X:Cx)(N':List Str)(scope:Scope)(fp:List Addr)(s:Shared)(H:Hp):Cx:=
 { X with N:=N',s₀:=s,H₀:=H,env:=compEnvC scope (mE X.env scope.names []) s.heap.objs.size X.env,outer:=X.stack,stack:=X.stack,ex:=fp,fn:=λ_=>false,xe:=λ_ _=>False }
def QX(X:Cx)(ifs:List Expr)(t:TT):Prop:=
 ∀(pins:Lo) (s:Shared) (Z:St) (H:Hp) (Q:Bool->Hp->Prop),Inv X pins Z H s->t Z H Q->
  wpAny 'c' X.A (forIn ifs true λc r=>if r=true then do let ok <-isTrue c X.env (eval c X.env);pure (ForInStep.yield ok) else pure (ForInStep.yield r)) (TP X pins Z Q) X.xe s
def zP:TT:=λ_ H Q=>Q true H
theorem bR:QX X [] zP:=λ_ _ _ H _ I h=>wpAny_tests_nil (H,I,h)
theorem lZ(h:PT X c t):QX X [c] t:=λpins s Z H Q I q=>wpAny_tests_one (h pins s Z H Q I q)
set_option genInjectivity true in
inductive Ext:St->St->Prop
 |nil:Ext [] []
 |no {Z τ:St}{a:Option V}:Ext Z τ->Ext (none::Z) (a::τ)
 |yes {Z τ:St}{v:V}:Ext Z τ->Ext (some v::Z) (some v::τ)
theorem Ext.len:∀{Z τ:St},Ext Z τ->Z.length=τ.length
 |_,_,.nil=>rfl
 |_,_,.no h=>by simp[h.len]
 |_,_,.yes h=>by simp[h.len]
theorem Ext.get:∀{Z τ:St},Ext Z τ->∀(i:Nat) (v:V),Z[i]?=some (some v)->τ[i]?=some (some v)
 |_,_,.nil,i,v,e=>e
 |_,_,.no h,0,v,e=>by simp at e
 |_,_,.no h,i+1,v,e=>by simpa using h.get i v e
 |_,_,.yes h,0,v,e=>by simpa using e
 |_,_,.yes h,i+1,v,e=>by simpa using h.get i v e
def eV(k:Nat)(fm:List Nat)(Z:St):St:=List.replicate k none++fm.map λj=>(Z[j]?).join
def lh(k:Nat)(fm:List Nat)(wi:TI)(g:TG)(tt:TT)(te:TE):TE:=λZ H Q=>wi Z H λJ H1=>∀D,H1 D=none->∃W:Nat->Nat->List V->Hp->Prop,
 (∃m,W 0 m [] (upd H1 D (.lst [])))/\∀i m ys H2,W i m ys H2->H2 D=some (.lst ys)/\ys.length<sizeLine/\((J.stop i H2/\Q (.ref D) H2)\/(J.go i H2/\∃N:List V->Hp->Prop,(∀ys' H',N ys' H'->∃m',m'<m/\W (i+1) m' ys' H')/\∀x H3,J.A5 i H2 x H3->
  g x (eV k fm Z) H3 λσ3 H4=>Ext (eV k fm Z) σ3/\tt σ3 H4 λb H5=>if b=true then te σ3 H5 λy H6=>H6 D=some (.lst ys)/\N (ys++[y]) (upd H6 D (.lst (ys++[y]))) else N ys H5))
def Un.tail(u:Un fs ex H H' h h1)(k:∀b o,b≠C->h1.get? b=some o->h2.get? b=some o)(hC:h.get? C=none):Un fs ex H H' h h2:=by
 have ne:∀b o,h.get? b=some o->b≠C:=λb o e z=>by rw[z,hC]at e;cases e
 exact(λb o e n hf hx=>k b o (ne b o e) (u.keep b o e n hf hx),λb o e n hf hx=>let (sl,q):=u.slot b o e n hf hx;(sl,k b _ (ne b o e) q),u.free,
  λb o e hx=>let (o',q):=u.there b o e hx;(o',k b _ (ne b o e) q),u.jZ,u.jt,u.jd)
theorem gA.tail(ok:gA P w H h1)(k:∀b o,b≠C->h1.get? b=some o->h2.get? b=some o)(hC:H C=none):gA P w H h2:=λa o e=>by
 have ne:∀b u,H b=some u->b≠C:=λb u q z=>by rw[z,hC]at q;cases q
 refine(ok a o e).gU (λb u hb q=>k b u ?_ q) (λ_ q=>q) λ_ _ q=>q;rcases hb with z|z
 ·rw[z];exact ne a o e
 ·exact ne b _ z
theorem dG{env:Env}:∀{names:List (Str×NameKind)}{x:Str}{k:NameKind},
  (names.map λ⟨n,k⟩=>if (k == NameKind.free&&env.scope.kind == .function&&env.kindOf n == some .cell) then ⟨n,NameKind.cell⟩ else ⟨n,k⟩).lookup x=some k->∃k',names.lookup x=some k'/\(k=k'\/(k'=.free/\k=.cell))
 |[],_,_,h=>by simp at h
 | ⟨n,k0⟩::r,x,k,h=>by
  have ih:=@dG env r x k;have h:List.lookup x ((if (k0 == NameKind.free&&env.scope.kind == .function&&env.kindOf n == some .cell)=true then ⟨n,NameKind.cell⟩ else ⟨n,k0⟩)::(r.map λ⟨n,k⟩=>if (k == NameKind.free&&env.scope.kind == .function&&env.kindOf n == some .cell) then ⟨n,NameKind.cell⟩ else ⟨n,k⟩))=some k:=h;by_cases hc:(k0 == NameKind.free&&env.scope.kind == .function&&env.kindOf n == some .cell)=true
  ·grind
  ·grind
structure ir(X:Cx)(N':List Str)(k:Nat)(fm:List Nat)(scope:Scope):Prop where
 kind:scope.kind=.function
 vz:∀y∈scope.names,y.2≠.cell
 names:∀y∈scope.names,y.2=.local->scope.names.lookup y.1=some .local
 free:∀y∈scope.names,y.2=.free->X.env.kindOf y.1=some .cell\/X.env.kindOf y.1=some .free
 len:N'.length=k+fm.length
 slots:∀i x,k<=i->N'[i]?=some x->scope.names.lookup x=some .free/\∃j,fm[i - k]?=some j/\X.N[j]?=some x
section
variable{X:Cx}{pins:Lo}{Z:St}{H:Hp}{s:Shared}
def Inv.block{scope:Scope}(B:ir X N' k fm scope)(I:Inv X pins Z H s)(hf:∀b∈fp,fV X pins H b)(ho:∀b∈fp,∃o,s.heap.get? b=some o)
  (ns:h'.Ns s.heap.objs.size (λ_=>none)) (kp:∀b o,s.heap.get? b=some o->h'.get? b=some o):Inv (Al X N' scope fp s H) [] (eV k fm Z) H { s with heap:=h',toks:=tk }:=by
 have hfree:=λx hx hk=>I.ok.has x.1 (B.free x hx hk);have hcl:=yt scope.names [] hfree λx c e=>by simp at e
 have G0:=I.rV;have hC:=I.aP.fresh (bJ _);have ok:(Al X N' scope fp s H).Ok:={
  mod:=I.ok.mod
  kind:=B.kind
  glob:=I.ok.glob
  blt:=I.ok.blt
  above:=bJ _
  inj:=λx y c h1 h2=>I.ok.inj x y c (hcl x c h1) (hcl y c h2)
  has:=λx hx=>by
   have:scope.names.lookup x=some .free:=by
    rcases hx with e|e
    ·let(k',e1,e2):=dG e;rcases e2 with e2|⟨e2,_⟩
     ·subst e2;exact absurd rfl (B.vz _ (PySem.mem_of_lookup e1))
     ·rw[e1,e2]
    ·let(k',e1,e2):=dG e;rcases e2 with e2|⟨e2,e3⟩
     ·rw[e1,e2]
     ·rw[e1,e2]
   exact nX scope.names [] x (PySem.mem_of_lookup this)
  LD:=λx c e=>by cases e
  hd:=I.ok.hd
  frames:=I.ok.frames
  G0:=.inl rfl
  O7:=λb hb=>(λz=>by
    let(o,e):=ho b hb;have hlt:=cy e;rw[z]at hlt;exact k9 _ hlt,λx c e=>(hf b hb).2.2.2.2.1 x c (hcl x c e))
  bs:=I.bs
  A2:=fF I.ok.A2 I.sz
  xp:=λb o e hb=>by
   rcases (hf b hb).2.2.2.1 with z|z
   ·exact I.ok.xp b o e z
   ·exact absurd (kA (cy e) (fF I.ok.A2 z)) (k9 _)
  uT:=λb hb z=>(eP.mp (G0 b z)).elim (hf b hb).2.1 (hf b hb).2.2.1
  ju:=I.stack
  Gh:=I.lW }
 refine(ok,rfl,I.bare,Un.kept kp,(_,ns,λi x v h1 h2 h3=>?_),λx c e=>?_,hC,λx c e=>I.fE x c (hcl x c e),λp hp=>?_,I.aP.kept kp,?_)
 ·have hk:k<=i:=by
   refine Nat.le_of_not_lt λz=>?_;unfold eV at h2;rw[u6 (by simpa using z),List.getElem?_replicate,if_pos z]at h2;cases h2
  let(e1,j,e2,e3):=B.slots i x hk h1;have e4:Z[j]?=some (some v):=by
   unfold eV at h2;rw[zc (by simpa using hk),List.length_replicate,List.getElem?_map,e2]at h2;have h2:some (Z[j]?).join=some (some v):=h2;injection h2 with h2;cases e:Z[j]? with
   |none=>rw[e]at h2;cases h2
   |some o=>rw[e]at h2;rw[show o=some v from h2]
  have kf:=B.free ⟨x,.free⟩ (PySem.mem_of_lookup e1) rfl;let(m,hn,hl):=I.loc;let(u,ru,lk):=hl j x v e3 e4 (.inr kf);refine(u,ru,.inr (?_,?_))
  ·rcases h3 with z|z
   ·let(k',q1,q2):=dG z;rw[e1]at q1;injection q1 with q1;subst q1;rcases q2 with q2|⟨_,q2⟩<;>cases q2
   ·exact z
  ·let(c,hc):=nX scope.names [] x (PySem.mem_of_lookup e1);refine(c,hc,?_);rcases lk with ⟨z,_⟩|⟨_,c',ec,ic⟩
   ·rcases kf with y|y<;>(rw[z]at y;cases y)
   ·rw[hcl x c hc]at ec;injection ec with ec;subst ec;exact ic.keeps kp
 ·let(v,q):=I.cell x c (hcl x c e);exact(v,q.keeps kp)
 ·let(p1,p2,p3,p4,p5):=I.pin p ((bT.mp hp).elim (λz=>eD _ z) λz=>absurd z (by simp));refine(kp _ _ p1,p2,λz=>?_,λz=>(eP.mp (G0 _ z)).elim p3 p4,p5);have hlt:=cy p1;rw[z]at hlt;exact k9 _ hlt
 ·show(eV k fm Z).length=N'.length;unfold eV;rw[cw,List.length_replicate,aD,B.len]
def uE{X:Cx}{elt iter tg:Expr}{ifs:List Expr}{scope:Scope}{pos:Pos}{g:TG}{tt:TT}{te:TE}{J:It}{fp:List Addr}{it D:Addr}{tn:Nat->Heap->Prop}{σ0:St}{H3:Hp}{s4:Shared}{Q:VK}{R:Result->Shared->Prop}{W:Nat->Nat->List V->Hp->Prop}{m0:Nat}
  (hx:X.xe=λ_ _=>False) (hc:X.calm=true) (T:Turn X.prog X.w X.K tg J fp it tn) (stat:∀{H':Hp},(∀b∈fp,H' b=none)->∀b∈fp,fV X [] H' b) (hg:PG X tg g) (ht:QX X ifs tt) (he:PE X elt te)
  (turn:∀i m ys H2,W i m ys H2->H2 D=some (.lst ys)/\ys.length<sizeLine/\((J.stop i H2/\Q (.ref D) H2)\/(J.go i H2/\∃N:List V->Hp->Prop,(∀ys' H',N ys' H'->∃m',m'<m/\W (i+1) m' ys' H')/\∀x H3,J.A5 i H2 x H3->
   g x σ0 H3 λσ3 H4=>Ext σ0 σ3/\tt σ3 H4 λb H5=>if b=true then te σ3 H5 λy H6=>H6 D=some (.lst ys)/\N (ys++[y]) (upd H6 D (.lst (ys++[y]))) else N ys H5)))
  (I4:Inv X [] σ0 H3 s4) (st4:tn 0 s4.heap) (fr4:∀b∈fp,H3 b=none) (w4:W 0 m0 [] H3)
  (hR:∀H' s',Inv X [] σ0 H' s'->Q (.ref D) H'->R (.ok .next) s'):
  codeAny 'c' X.A (.compLoop (.ListComp elt [(tg,iter,ifs,0)] scope pos) 0 (.ref it) (.ref D) X.env) R s4:=by
 refine rW (λn s'=>∃i ys H',Inv X [] σ0 H' s'/\tn i s'.heap/\(∀b∈fp,H' b=none)/\W i n ys H') ?_ m0 (0,[],H3,I4,st4,fr4,w4);rintro n s5 ⟨i,ys,H5,I5,st5,fr5,w5⟩;let(hD,hl,cs):=turn i n ys H5 w5;rcases cs with ⟨stop,q⟩|⟨go,N,hN,step⟩
 ·refine bL (T.done X rfl rfl rfl hc i [] s5 σ0 H5 _ I5 (stat fr5) st5 stop) λr s6 (hr,I6)=>?_;subst hr;exact hR H5 s6 I6 q
 ·refine bL (T.item X rfl rfl rfl hc i [] s5 σ0 H5 _ I5 (stat fr5) st5 go) λr s6 (u,hr,h6)=>?_;subst hr;refine bL h6 λ_ s7 (x,H7,I7,r7,y7,st7,fr7)=>?_;have I7':=I7.pinned (stat fr7) (T.obj _ _ st7);have again:∀{σ':St}{H':Hp}{s':Shared},Ext σ0 σ'->Inv X ([]++nO fp s7.heap) σ' H' s'->Inv X [] σ0 H' s'/\tn (i+1) s'.heap/\∀b∈fp,H' b=none:=λ{σ' H' s'} ex I'=>by
   refine(I'.kq.weak ex.len ex.get,T.keep _ _ _ st7 λb hb o e=>(I'.pin ⟨b,o⟩ (eW _ (eW _ (gJ hb e)))).1,λb hb=>?_);let(o,e,d):=T.obj _ _ st7 b hb;exact(I'.pin ⟨b,o⟩ (eW _ (eW _ (gJ hb e)))).2.1
  have w8:=hg _ s7 σ0 H7 x u _ I7' r7 (step x H7 y7);rw[hx]at w8;refine bL w8 λ_ s8 (σ8,H8,I8,ex8,q8)=>?_;have w9:=ht _ s8 σ8 H8 _ I8 q8;rw[hx]at w9;refine bL w9 λok s9 (H9,I9,q9)=>?_;cases ok with
  |false=>
   let(m',hm,w'):=hN _ _ q9;let(a1,a2,a3):=again ex8 I9;exact(m',hm,i+1,ys,H9,a1,a2,a3,w')
  |true=>
   have w10:=he _ s9 σ8 H9 _ I9 q9;rw[hx]at w10;refine bL w10 λy s10 (yv,H10,OZ,r10,hD10,n10)=>?_;let(m',hm,w'):=hN _ _ n10;have w11:=oQ _ s10 σ8 H10 (.ref D) [yv] (.ref D) [y] (λv H'=>v=.bw/\H'=upd H10 D (.lst (ys++[yv]))) OZ rfl (.cons r10 .nil) (D,ys,yv,rfl,rfl,hD10,hl,rfl,rfl);rw[hx]at w11;refine bL w11 λ_ s11 (_,H11,I11,_,_,e11)=>?_;subst e11;let(a1,a2,a3):=again ex8 I11;exact(m',hm,i+1,_,_,a1,a2,a3,w')
def cN{scope:Scope}(B:ir X N' k fm scope)(hc:X.calm=true)(hi:PI X tg iter wi)
  (hb:∀fp s H,PG (Al X N' scope fp s H) tg g/\QX (Al X N' scope fp s H) ifs tt/\PE (Al X N' scope fp s H) elt te)
  (hs:∀x,foldedSetIterable iter X.env x=pure x:=by intro _;rfl):PE X (.ListComp elt [(tg,iter,ifs,0)] scope pos) (lh k fm wi g tt te):=by
 intro pins s Z H Q I h;have hfree:=λx hx hk=>I.ok.has x.1 (B.free x hx hk);refine wpAny_comprehension_free rfl hs (i8 hfree) B.kind B.names (bL (hi pins s Z H _ I h) λv s1 h1=>bL h1 λitv s2 h2=>?_);let(it,fp,tn,J,H2,e,I2,T,st2,f2,h2):=h2;subst e;let(W,(m0,w0),turn):=h2 s2.heap.objs.size I2.fresh;refine Gj (wpAny_newFunctionEnv B.vz (by intro y hy;simp at hy) (λh4 hns4 hsb4=>?_) B.kind);have I3:=I2.Hw (t':=s2.toks) .nil (d6 _);have hf3:∀b∈fp,fV X pins (upd H2 s2.heap.objs.size (.lst [])) b:=λb hb=>by
  let(o,e,_):=T.obj _ _ st2 b hb;refine(?_,(f2 b hb).2);rw[ae (λz=>k9 _ (z▸cy e))];exact(f2 b hb).1
 have ho3:∀b∈fp,∃o,(s2.heap.push { cls:=.type "list", data:=.seq ([]:List Value).toArray }).get? b=some o:=λb hb=>by
  let(o,e,_):=T.obj _ _ st2 b hb;exact(o,cV _ e)
 have kp4:∀b o,(s2.heap.push { cls:=.type "list", data:=.seq ([]:List Value).toArray }).get? b=some o->h4.get? b=some o:=λb o e=>
  hsb4.extBut b o (λz=>k9 _ (z▸cy e)) (cV _ e)
 have I4:=I3.block (tk:=s2.toks+([]:List (Str×Value)).length) B hf3 ho3 hns4 kp4;generalize hs3:({ s2 with heap:=s2.heap.push { cls:=.type "list", data:=.seq ([]:List Value).toArray },toks:=s2.toks }:Shared)=s3 at *;let(hg,ht,he):=hb fp s3 (upd H2 s2.heap.objs.size (.lst []));have st4:=T.keep _ _ _ st2 λb hb o e=>kp4 b o (cV _ e);have stat:∀{H':Hp},(∀b∈fp,H' b=none)->∀b∈fp,fV (Al X N' scope fp s3 (upd H2 s2.heap.objs.size (.lst []))) [] H' b:=λ{H'} hn b hb=>by
  let(f0,f1,f3,f4,f5,f6):=hf3 b hb;let(g1,g2):=I4.ok.O7 b hb;exact(hn b hb,g1,I4.ok.uT b hb,.inl hb,g2,λp hp=>f6 p ((bT.mp hp).elim (λz=>eD _ z) λz=>absurd z (by simp)))
 have loop:codeAny 'c' X.A (.compLoop (.ListComp elt [(tg,iter,ifs,0)] scope pos) 0 (.ref it) (.ref s2.heap.objs.size) (compEnvC scope (mE X.env scope.names []) s3.heap.objs.size X.env))
   (compPost 'c' X.A X.xe none (EP X pins Z Q) (.ref s2.heap.objs.size) s3.heap.objs.size) { s3 with heap:=h4,toks:=s2.toks+([]:List (Str×Value)).length }:=by
  refine uE (X:=Al X N' scope fp s3 (upd H2 s2.heap.objs.size (.lst []))) rfl hc T stat hg ht he turn I4 st4 (λb hb=>(hf3 b hb).1) w0 ?_;intro H' s' I' q;let(m,hn,_):=I'.loc;refine(m,hn,λh'' hs''=>?_);have hC:s3.heap.get? s3.heap.objs.size=none:=by
   cases e:s3.heap.get? s3.heap.objs.size with
   |none=>rfl
   |some o=>exact absurd (cy e) (k9 _)
  have u:=Un.tail I'.base (λb o hb e=>hs''.extBut b o hb e) hC;refine(.ref s2.heap.objs.size,H',I3.mI I'.os u (I'.aP.tail (λb o hb e=>hs''.extBut b o hb e) I'.free) I'.bare λb hb=>?_,rfl,q);let(f0,f1,f3,f4,f5,f6):=hf3 b hb;exact(f4,f1,f5,f6)
 subst hs3;exact codeAny_compStart_list loop (T.self X.A 0 _ _ _ st4 loop)
end
def Ue(z:Str):It:=(λi _=>i<z.cps.size,λi H x H'=>H'=H/\∃c,z.cps[i]?=some c/\x=.str ⟨#[c]⟩,λi _=>z.cps.size<=i)
section
variable{X:Cx}{tg:Expr}
def Pr(tl:TE):TI:=λZ H R=>tl Z H λx H1=>∃z,x=.str z/\R (Ue z) H1
end
section
variable{X:Cx}
def Yg:V->Option Int->Option Int->Hp->VK->Prop:=λx lo hi H Q=>∃z,x=.str z/\z.length<=sizeLine/\Q (.str (Txt.slice z lo hi)) H
def Yo(K:Wf):List V->Hp->VK->Prop:=λxs H Q=>∃(a:Addr) (bs:List Bool),xs=[.ref a]/\az K H a (bs.map V.bl)/\Q (.bl (bs.all id)) H
def Sh(K:Wf):List V->Hp->VK->Prop:=λxs H Q=>∃x n t b,xs=[x,.ty n]/\jo K H x t/\kitOne K t (.type n)=some b/\Q (.bl b) H
def BC:bP X (.builtin "isinstance") (Sh X.K):=by
 intro pins s Z H xs us Q I r h;let(x,n,t,b,rfl,ty,e,q):=h;let(u,u2,rfl,ru,ru2):=vals2 r;cases ru2;exact qt I ru ty e λtk=>(.bl b,H,I.tok tk,rfl,q)
def KH(K:Wf):R2:=λx y H Q=>∃l b xs zs,x=.ref l/\y=.ref b/\az K H l xs/\az K H b zs/\xs.length+zs.length<=sizeLine/\∀p,H p=none->Q (.ref p) (upd H p (.lst (xs++zs)))
def HL:dH X (binaryOp .Add) (KH X.K):=by
 intro pins s Z H x y v u Q I rx ry h;let(l,b,xs,zs,rfl,rfl,hH,hB,hz,q):=h;cases rx;cases ry;let(vs,r,p,z):=I.list hH;let(ws,r2,p2,z2):=I.list hB;have l1:=r.length;have l2:=r2.length;let((cls,dd,data,sl),n,ho,hc,hdd,hd):=p;let((cls2,dd2,data2,sl2),n2,ho2,hc2,hdd2,hd2):=p2;simp only at hc hd hc2 hd2;subst hc hd hc2 hd2;have e:vs.toArray++ws.toArray=(vs++ws).toArray:=by simp
 exact concat_meets (_,ho,rfl) (_,ho2,rfl) noFill_list_add seq_list_add PySem.F.slot_list_add PySem.F.entry_list_add (PySem.F.args_list_add_2 _ _) (list_addW l b vs.toArray ws.toArray n n2 dd dd2 sl sl2 (by simp;omega)) (ho,ho2,e▸(.ref _,_,I.Hw (r.append r2) (by rw[List.length_append];omega),rfl,q _ I.fresh))
end
set_option genInjectivity true in
inductive Slots (X:Cx) (scope:Scope):List Str->List Nat->Prop
 |nil:Slots X scope [] []
 |cons {x:Str}{j:Nat}{xs:List Str}{js:List Nat}(h1:scope.names.lookup x=some .free) (h2:X.env.kindOf x=some .cell\/X.env.kindOf x=some .free) (h3:X.N[j]?=some x) (r:Slots X scope xs js):Slots X scope (x::xs) (j::js)
theorem Slots.len{X:Cx}{scope:Scope}:∀{xs:List Str}{js:List Nat},Slots X scope xs js->xs.length=js.length
 |_,_,.nil=>rfl
 |_,_,.cons _ _ _ r=>by simp[r.len]
theorem Slots.kind{scope:Scope}:∀{xs:List Str}{js:List Nat},Slots X scope xs js->∀x∈xs,X.env.kindOf x=some .cell\/X.env.kindOf x=some .free
 |_,_,.nil,x,h=>absurd h (by simp)
 |_,_,.cons _ h2 _ r,x,h=>by
  rcases eP.mp h with e|e
  ·subst e;exact h2
  ·exact r.kind x e
theorem Slots.get{X:Cx}{scope:Scope}:∀{xs:List Str}{js:List Nat},Slots X scope xs js->∀(i:Nat) (x:Str),xs[i]?=some x->scope.names.lookup x=some .free/\∃j,js[i]?=some j/\X.N[j]?=some x
 |_,_,.nil,i,x,h=>by simp at h
 |_,_,.cons h1 _ h3 r,0,x,h=>by
  simp only[List.getElem?_cons_zero,Option.some.injEq]at h;subst h;exact(h1,_,by simp,h3)
 |_,_,.cons _ _ _ r,i+1,x,h=>by simpa using r.get i x h
theorem nc{scope:Scope}(kind:scope.kind=.function)(h1:∀y∈scope.names,y.2≠.cell)(h2:∀y∈scope.names,y.2=.local->scope.names.lookup y.1=some .local)
  (h3:∀y∈scope.names,y.2=.free->y.1∈fr) (S:Slots X scope fr fm):ir X (own++fr) own.length fm scope:=
 (kind,h1,h2,λy hy hk=>S.kind y.1 (h3 y hy hk),by rw[cw,S.len],λi x hi h=>by
  rw[zc hi]at h;exact S.get _ x h)
def AH{K:Wf}{a:Addr}{xs:List V}{g:TG}{tt:TT}{te:TE}{σ0:St}{H:Hp}{D:Addr}{Q:VK}(hz:xs.length<sizeLine)(Pv:Nat->List V->Hp->Prop)(h0:Pv 0 [] (upd H D (.lst [])))
  (hl:∀i ys H,i<=xs.length->Pv i ys H->az K H a xs/\H D=some (.lst ys)/\ys.length<=i)
  (hs:∀i x ys H,xs[i]?=some x->Pv i ys H->g x σ0 H λσ3 H4=>Ext σ0 σ3/\tt σ3 H4 λb H5=>if b=true then te σ3 H5 λy H6=>H6 D=some (.lst ys)/\Pv (i+1) (ys++[y]) (upd H6 D (.lst (ys++[y]))) else Pv (i+1) ys H5)
  (hd:∀ys H,Pv xs.length ys H->Q (.ref D) H):
  ∃W:Nat->Nat->List V->Hp->Prop,(∃m,W 0 m [] (upd H D (.lst [])))/\∀i m ys H2,W i m ys H2->H2 D=some (.lst ys)/\ys.length<sizeLine/\(((BD K a).stop i H2/\Q (.ref D) H2)\/((BD K a).go i H2/\∃N:List V->Hp->Prop,(∀ys' H',N ys' H'->∃m',m'<m/\W (i+1) m' ys' H')/\∀x H3,(BD K a).A5 i H2 x H3->
   g x σ0 H3 λσ3 H4=>Ext σ0 σ3/\tt σ3 H4 λb H5=>if b=true then te σ3 H5 λy H6=>H6 D=some (.lst ys)/\N (ys++[y]) (upd H6 D (.lst (ys++[y]))) else N ys H5)):=by
 refine(λi m ys H=>m=xs.length - i/\i<=xs.length/\Pv i ys H,(xs.length,by simp,Nat.zero_le _,h0),?_);rintro i m ys H2 ⟨rfl,hi,p⟩;let(l0,l1,l2):=hl i ys H2 hi p;refine(l1,by lia,?_);by_cases hlt:i<xs.length
 ·refine .inr ((xs,xs[i],l0,by simp),Pv (i+1),λys' H' p'=>(_,by lia,rfl,hlt,p'),λx H3 y=>?_);let(e,y):=y;subst e;exact hs i x ys _ (y xs l0) p
 ·have e:i=xs.length:=by lia
  subst e;exact .inl ((xs,l0,bJ _),hd ys H2 p)
def mZ(g:TG)(tb:TS)(D:Ends)(Z:St)(J:It)(H1:Hp):Prop:=∃W:Nat->Nat->St->Hp->Prop,(∃m,W 0 m Z H1)/\∀i m Z H,W i m Z H->
 (J.stop i H/\D.nx Z H)\/(J.go i H/\∃N:St->Hp->Prop,(∀σ' H',N σ' H'->∃m',m'<m/\W (i+1) m' σ' H')/\∀x H',J.A5 i H x H'->g x Z H' λσ2 H2=>tb { D with nx:=N,ct:=N,bk:=D.nx } σ2 H2)
def dI(K:Wf)(g:TG)(tb:TS)(D:Ends)(Z:St):VK:=λx H1=>∃a,x=.ref a/\(∃xs,az K H1 a xs)/\mZ g tb D Z (BD K a) H1
def G6(K:Wf)(g:TG)(tb:TS)(D:Ends)(Z:St):VK:=λx H1=>∃a,x=.ref a/\(∃xs,bc K H1 a xs)/\mZ g tb D Z (MU K a) H1
def Ua(g:TG)(tb:TS)(D:Ends)(Z:St):VK:=λx H1=>∃z,x=.str z/\mZ g tb D Z (Ue z) H1
def AF(g:TG)(tb:TS)(D:Ends)(Z:St):List V->Hp->Prop:=λvs H1=>∃j:Int,vs=[.int j] /\ -(2 ^ 62)<=j/\j<2 ^ 62/\mZ g tb D Z (Gu 0 j.toNat) H1
def PM(g:TG)(tb:TS)(D:Ends)(Z:St):List V->Hp->Prop:=λvs H1=>∃i j:Int,vs=[.int i,.int j]/\(-(2 ^ 62)<=i/\i<2 ^ 62 /\ -(2 ^ 62)<=j/\j<2 ^ 62)/\mZ g tb D Z (Gu i (j - i).toNat) H1
section
variable{K:Wf}{te:TE}{ta:TA}{g:TG}{tb:TS}{D:Ends}{Z:St}{H:Hp}
theorem O3:kD (p7 K te) g tb D Z H=te Z H (dI K g tb D Z):=rfl
theorem RS:kD (HH K te) g tb D Z H=te Z H (G6 K g tb D Z):=rfl
theorem RQ:kD (Pr te) g tb D Z H=te Z H (Ua g tb D Z):=rfl
theorem Pc:kD (F5 ta) g tb D Z H=ta Z H (AF g tb D Z):=rfl
theorem Pg:kD (Rq ta) g tb D Z H=ta Z H (PM g tb D Z):=rfl
theorem dI.of{a:Addr}{xs:List V}(Pv:Nat->St->Hp->Prop)(h0:Pv 0 Z H)(hl:∀i Z H,i<=xs.length->Pv i Z H->az K H a xs)
  (hs:∀i x Z H,xs[i]?=some x->Pv i Z H->g x Z H λσ2 H2=>tb { D with nx:=Pv (i+1),ct:=Pv (i+1),bk:=D.nx } σ2 H2) (hd:∀Z H,Pv xs.length Z H->D.nx Z H):dI K g tb D Z (.ref a) H:=
 (a,rfl,(xs,hl 0 _ _ (d6 _) h0),BR Pv h0 hl hs hd)
theorem G6.of{a:Addr}{xs:List V}(Pv:Nat->St->Hp->Prop)(h0:Pv 0 Z H)(hl:∀i Z H,i<=xs.length->Pv i Z H->bc K H a xs)
  (hs:∀i x Z H,xs[i]?=some x->Pv i Z H->g x Z H λσ2 H2=>tb { D with nx:=Pv (i+1),ct:=Pv (i+1),bk:=D.nx } σ2 H2) (hd:∀Z H,Pv xs.length Z H->D.nx Z H):G6 K g tb D Z (.ref a) H:=
 (a,rfl,(xs,hl 0 _ _ (d6 _) h0),Iq Pv h0 hl hs hd)
theorem AF.of{n:Int}(h1:n<2 ^ 62)(h2 : -(2 ^ 62)<=n)(Pv:Nat->St->Hp->Prop)(h0:Pv 0 Z H)
  (hs:∀i Z H,i<n.toNat->Pv i Z H->g (.int (i:Int)) Z H λσ2 H2=>tb { D with nx:=Pv (i+1),ct:=Pv (i+1),bk:=D.nx } σ2 H2) (hd:∀Z H,Pv n.toNat Z H->D.nx Z H):AF g tb D Z [.int n] H:=
 (n,rfl,h2,h1,Am Pv h0 (λi Z H hi p=>by
  have e:0+(i:Int)=i:=by lia
  rw[e];exact hs i Z H hi p) hd)
end
def ud(g:TG)(tt:TT)(te:TE)(σ0:St)(Q:VK)(J:It)(H1:Hp):Prop:=∀DD,H1 DD=none->∃W:Nat->Nat->List V->Hp->Prop,
 (∃m,W 0 m [] (upd H1 DD (.lst [])))/\∀i m ys H2,W i m ys H2->H2 DD=some (.lst ys)/\ys.length<sizeLine/\((J.stop i H2/\Q (.ref DD) H2)\/(J.go i H2/\∃N:List V->Hp->Prop,(∀ys' H',N ys' H'->∃m',m'<m/\W (i+1) m' ys' H')/\∀x H3,J.A5 i H2 x H3->
  g x σ0 H3 λσ3 H4=>Ext σ0 σ3/\tt σ3 H4 λb H5=>if b=true then te σ3 H5 λy H6=>H6 DD=some (.lst ys)/\N (ys++[y]) (upd H6 DD (.lst (ys++[y]))) else N ys H5))
def b_(K:Wf)(g:TG)(tt:TT)(te:TE)(σ0:St)(Q:VK):VK:=λx H1=>∃a,x=.ref a/\(∃xs,az K H1 a xs)/\ud g tt te σ0 Q (BD K a) H1
def QY(K:Wf)(g:TG)(tt:TT)(te:TE)(σ0:St)(Q:VK):VK:=λx H1=>∃a,x=.ref a/\(∃xs,bc K H1 a xs)/\ud g tt te σ0 Q (MU K a) H1
def Rj(g:TG)(tt:TT)(te:TE)(σ0:St)(Q:VK):VK:=λx H1=>∃z,x=.str z/\ud g tt te σ0 Q (Ue z) H1
def SU(g:TG)(tt:TT)(te:TE)(σ0:St)(Q:VK):List V->Hp->Prop:=λvs H1=>∃j:Int,vs=[.int j] /\ -(2 ^ 62)<=j/\j<2 ^ 62/\ud g tt te σ0 Q (Gu 0 j.toNat) H1
section
variable{K:Wf}{k:Nat}{fm:List Nat}{tl te:TE}{ta:TA}{g:TG}{tt:TT}{Z σ0:St}{H H1:Hp}{Q:VK}
theorem LU:lh k fm (p7 K tl) g tt te Z H Q=tl Z H (b_ K g tt te (eV k fm Z) Q):=rfl
theorem O_:lh k fm (HH K tl) g tt te Z H Q=tl Z H (QY K g tt te (eV k fm Z) Q):=rfl
theorem Pa:lh k fm (Pr tl) g tt te Z H Q=tl Z H (Rj g tt te (eV k fm Z) Q):=rfl
theorem MV:lh k fm (F5 ta) g tt te Z H Q=ta Z H (SU g tt te (eV k fm Z) Q):=rfl
theorem b_.of{a:Addr}{xs:List V}(hz:xs.length<sizeLine)(hx:az K H1 a xs)(Pv:Addr->Nat->List V->Hp->Prop)(h0:∀D,H1 D=none->Pv D 0 [] (upd H1 D (.lst [])))
  (hl:∀D i ys H',H1 D=none->i<=xs.length->Pv D i ys H'->az K H' a xs/\H' D=some (.lst ys)/\ys.length<=i)
  (hs:∀D i x ys H',H1 D=none->xs[i]?=some x->Pv D i ys H'->g x σ0 H' λσ3 H4=>Ext σ0 σ3/\tt σ3 H4 λb H5=>if b=true then te σ3 H5 λy H6=>H6 D=some (.lst ys)/\Pv D (i+1) (ys++[y]) (upd H6 D (.lst (ys++[y]))) else Pv D (i+1) ys H5)
  (hd:∀D ys H',H1 D=none->Pv D xs.length ys H'->Q (.ref D) H'):b_ K g tt te σ0 Q (.ref a) H1:=
 (a,rfl,(xs,hx),λD hD=>AH hz (Pv D) (h0 D hD) (λi ys H'=>hl D i ys H' hD) (λi x ys H'=>hs D i x ys H' hD) λys H'=>hd D ys H' hD)
end
set_option genInjectivity true in
inductive D where
 |bw|bl (b:Bool)|int (i:Int)|str (z:Str)|lst (xs:List D)|tup (xs:List D)
mutual
def Rep(K:Wf)(H:Hp):D->V->Prop
 |.bw,v=>v=.bw
 |.bl b,v=>v=.bl b
 |.int i,v=>v=.int i
 |.str z,v=>v=.str z
 |.lst ds,v=>∃a xs,v=.ref a/\az K H a xs/\RepL K H ds xs
 |.tup ds,v=>∃a xs,v=.ref a/\bc K H a xs/\RepL K H ds xs
def RepL(K:Wf)(H:Hp):List D->List V->Prop
 |[],xs=>xs=[]
 |d::ds,xs=>∃y ys,xs=y::ys/\Rep K H d y/\RepL K H ds ys
end
mutual
def deq:D->D->Bool
 |.bw,.bw=>true
 |.bl a,.bl b=>a == b
 |.bl a,.int b=>(if a then 1 else 0) == b
 |.int a,.bl b=>a == (if b then 1 else 0)
 |.int a,.int b=>a == b
 |.str a,.str b=>a == b
 |.lst a,.lst b=>deqL a b
 |.tup a,.tup b=>deqL a b
 |_,_=>false
def deqL:List D->List D->Bool
 |[],[]=>true
 |a::as,b::bs=>deq a b&&deqL as bs
 |_,_=>false
end
mutual
def dep:D->Nat
 |.lst ds=>depL ds+1
 |.tup ds=>depL ds+1
 |_=>0
def depL:List D->Nat
 |[]=>0
 |d::ds=>max (dep d) (depL ds)
end
mutual
theorem ng:∀d:D,deq d d=true
 |.bw=>rfl
 |.bl a=>by simp[deq]
 |.int a=>by simp[deq]
 |.str a=>by simp[deq]
 |.lst a=>by simp only[deq];exact eR a
 |.tup a=>by simp only[deq];exact eR a
theorem eR:∀ds:List D,deqL ds ds=true
 |[]=>rfl
 |d::ds=>by simp only[deqL,ng d,eR ds,Bool.and_self]
end
theorem RepL.len{K:Wf}{H:Hp}:∀{ds:List D}{xs:List V},RepL K H ds xs->ds.length=xs.length
 |[],xs,h=>by simp only[RepL]at h;subst h;rfl
 |d::ds,xs,h=>by
  let(y,ys,rfl,_,r):=h;simp[r.len]
def eAt(ds es:List D)(j:Nat):Bool:=match ds[j]?,es[j]? with
 |some d,some e=>deq d e
 |_,_=>true
theorem jM:∀(ds es:List D),((List.range (min ds.length es.length)).all (eAt ds es)&&ds.length == es.length)=deqL ds es
 |[],[]=>by simp[deqL]
 |[],e::es=>by simp[deqL]
 |d::ds,[]=>by simp[deqL]
 |d::ds,e::es=>by
  have ih:=jM ds es;have h1:min (d::ds).length (e::es).length=min ds.length es.length+1:=by simp only[List.length_cons];omega
  rw[h1,List.range_succ_eq_map,List.all_cons,List.all_map];have h2:(eAt (d::ds) (e::es) ∘ Nat.succ)=eAt ds es:=by funext j;simp[eAt]
  have h3:eAt (d::ds) (e::es) 0=deq d e:=by simp[eAt]
  simp only[deqL,<-ih,Bool.and_assoc];congr 2;simp
section
variable{X:Cx}{pins:Lo}{Z:St}{H:Hp}{s:Shared}
mutual
theorem HC(I:Inv X pins Z H s):∀(d e:D) (x:V),Rep X.K H d x->Rep X.K H e x->d=e
 |d,e,x,hd,he=>by
  cases d with
  |bw=>
   simp only[Rep]at hd;subst hd;cases e<;>simp only[Rep]at he<;>first|rfl|(let(a,xs,z,_):=he;cases z;done)|(cases he;done)
  |bl b=>
   simp only[Rep]at hd;subst hd;cases e<;>simp only[Rep]at he<;>first|(let(a,xs,z,_):=he;cases z;done)|(cases he;rfl)|(cases he;done)
  |int b=>
   simp only[Rep]at hd;subst hd;cases e<;>simp only[Rep]at he<;>first|(let(a,xs,z,_):=he;cases z;done)|(cases he;rfl)|(cases he;done)
  |str b=>
   simp only[Rep]at hd;subst hd;cases e<;>simp only[Rep]at he<;>first|(let(a,xs,z,_):=he;cases z;done)|(cases he;rfl)|(cases he;done)
  |lst ds=>
   simp only[Rep]at hd;let(a,xs,rfl,hx,r):=hd;cases e with
   |lst es=>
    simp only[Rep]at he;let(a',xs',z,hx',r'):=he;cases z;have:=I.gy hx hx';subst this;rw[ib I ds es xs r r']
   |tup es=>
    simp only[Rep]at he;let(a',xs',z,hx',r'):=he;cases z
    exfalso
    let(_,_,p,_):=I.list hx;let(_,_,q,_):=I.tuple hx';let(o,n,e1,e2,_):=p;let(o',e1',e2',_):=q;rw[e1]at e1';cases e1';rw[e2]at e2';exact absurd e2' (by decide)
   |_=>simp only[Rep]at he;cases he
  |tup ds=>
   simp only[Rep]at hd;let(a,xs,rfl,hx,r):=hd;cases e with
   |tup es=>
    simp only[Rep]at he;let(a',xs',z,hx',r'):=he;cases z;have:=I.kM hx hx';subst this;rw[ib I ds es xs r r']
   |lst es=>
    simp only[Rep]at he;let(a',xs',z,hx',r'):=he;cases z
    exfalso
    let(_,_,p,_):=I.list hx';let(_,_,q,_):=I.tuple hx;let(o,n,e1,e2,_):=p;let(o',e1',e2',_):=q;rw[e1]at e1';cases e1';rw[e2]at e2';exact absurd e2' (by decide)
   |_=>simp only[Rep]at he;cases he
theorem ib(I:Inv X pins Z H s):∀(ds es:List D) (xs:List V),RepL X.K H ds xs->RepL X.K H es xs->ds=es
 |[],es,xs,hd,he=>by
  subst hd;cases es with
  |nil=>rfl
  |cons e es=>simp only[RepL]at he;let(y,ys,z,_):=he;cases z
 |d::ds,es,xs,hd,he=>by
  let(y,ys,rfl,r,rs):=hd;cases es with
  |nil=>simp only[RepL]at he;cases he
  |cons e es=>
   let(y',ys',z,r',rs'):=he;cases z;rw[HC I d e y r r',ib I ds es ys rs rs']
end
def iT(p:IsTup h a its):h.IsTuple a its:=by
 let(o,e,c,n,d):=p;exact(o,e,c,n,d)
mutual
theorem rK(I:Inv X pins Z H s):∀(d e:D) (x y:V) (u v:Value) (A:Around),A.units+dep d<cLine->Rep X.K H d x->Rep X.K H e y->RelV x u->RelV y v->SeqAt.EqAt A s u v (deq d e)
 |.bw,e,x,y,u,v,A,hu,hd,he,rx,ry=>by
  have hu:A.units<cLine:=by lia
  simp only[Rep]at hd;subst hd;cases rx;cases e<;>simp only[Rep]at he
  ·subst he;cases ry;exact SeqAt.EqAt.same _
  ·subst he;cases ry;exact SeqAt.EqAt.none_bool _
  ·subst he;let(t,rfl):=ry;exact SeqAt.EqAt.none_int _ _
  ·subst he;let(t,rfl):=ry;exact SeqAt.EqAt.none_str _ _
  ·let(a,xs,rfl,hx,_):=he;cases ry;let(_,_,p,_):=I.list hx;exact SeqAt.EqAt.none_list p.isList hu
  ·let(a,xs,rfl,hx,_):=he;cases ry;let(_,_,p,_):=I.tuple hx;exact SeqAt.EqAt.none_tuple (iT p) hu
 |.bl b,e,x,y,u,v,A,hu,hd,he,rx,ry=>by
  have hu:A.units<cLine:=by lia
  simp only[Rep]at hd;subst hd;cases rx;cases e<;>simp only[Rep]at he
  ·subst he;cases ry;exact SeqAt.EqAt.bool_none _
  ·subst he;cases ry;exact SeqAt.EqAt.bool_bool _ _
  ·subst he;let(t,rfl):=ry;exact SeqAt.EqAt.bool_int _ _ _
  ·subst he;let(t,rfl):=ry;exact SeqAt.EqAt.bool_str _ _ _
  ·let(a,xs,rfl,hx,_):=he;cases ry;let(_,_,p,_):=I.list hx;exact SeqAt.EqAt.bool_list _ p.isList hu
  ·let(a,xs,rfl,hx,_):=he;cases ry;let(_,_,p,_):=I.tuple hx;exact SeqAt.EqAt.bool_tuple _ (iT p) hu
 |.int b,e,x,y,u,v,A,hu,hd,he,rx,ry=>by
  have hu:A.units<cLine:=by lia
  simp only[Rep]at hd;subst hd;let(t0,rfl):=rx;cases e<;>simp only[Rep]at he
  ·subst he;cases ry;exact SeqAt.EqAt.int_none _ _
  ·subst he;cases ry;exact SeqAt.EqAt.int_bool _ _ _
  ·subst he;let(t,rfl):=ry;exact SeqAt.EqAt.int_int _ _ _ _
  ·subst he;let(t,rfl):=ry;exact SeqAt.EqAt.int_str _ _ _ _
  ·let(a,xs,rfl,hx,_):=he;cases ry;let(_,_,p,_):=I.list hx;exact SeqAt.EqAt.int_list _ _ p.isList hu
  ·let(a,xs,rfl,hx,_):=he;cases ry;let(_,_,p,_):=I.tuple hx;exact SeqAt.EqAt.int_tuple _ _ (iT p) hu
 |.str b,e,x,y,u,v,A,hu,hd,he,rx,ry=>by
  have hu:A.units<cLine:=by lia
  simp only[Rep]at hd;subst hd;let(t0,rfl):=rx;cases e<;>simp only[Rep]at he
  ·subst he;cases ry;exact SeqAt.EqAt.str_none _ _
  ·subst he;cases ry;exact SeqAt.EqAt.str_bool _ _ _
  ·subst he;let(t,rfl):=ry;exact SeqAt.EqAt.str_int _ _ _ _
  ·subst he;let(t,rfl):=ry;exact SeqAt.EqAt.str_str _ _ _ _
  ·let(a,xs,rfl,hx,_):=he;cases ry;let(_,_,p,_):=I.list hx;exact SeqAt.EqAt.str_list _ _ p.isList hu
  ·let(a,xs,rfl,hx,_):=he;cases ry;let(_,_,p,_):=I.tuple hx;exact SeqAt.EqAt.str_tuple _ _ (iT p) hu
 |.lst ds,e,x,y,u,v,A,hu,hd,he,rx,ry=>by
  have hu0:A.units<cLine:=by lia
  simp only[dep]at hu;simp only[Rep]at hd;let(a,xs,rfl,hx,r):=hd;cases rx;let(its,rv,p,hz):=I.list hx;cases e<;>simp only[Rep]at he
  ·subst he;cases ry;exact SeqAt.EqAt.list_none p.isList hu0
  ·subst he;cases ry;exact SeqAt.EqAt.list_bool _ p.isList hu0
  ·subst he;let(t,rfl):=ry;exact SeqAt.EqAt.list_int _ _ p.isList hu0
  ·subst he;let(t,rfl):=ry;exact SeqAt.EqAt.list_str _ _ p.isList hu0
  ·rename_i es;let(b,ys,rfl,hy,r'):=he;cases ry;let(its',rv',p',hz'):=I.list hy;by_cases hab:a=b
   ·subst hab;have:=I.gy hx hy;subst this;rw[ib I ds es xs r r',ng];exact SeqAt.EqAt.same _
   ·have l1:=r.len;have l2:=rv.length;have l3:=r'.len;have l4:=rv'.length;have key:=jM ds es;simp only[deq];rw[<-key];by_cases hl:its.length=its'.length
    ·have:=SeqAt.EqAt.of_refs hab (SeqAt.RcAt.lists (e:=eAt ds es) p.isList p'.isList (by simpa using hl) hu0 (λj h1 h2=>by
      have q:=eY I ds es xs ys its its' A.in1 (by show A.units+1+depL ds<cLine;lia) r r' rv rv' j (by simpa using h1) (by simpa using h2);simpa using q))
     have e1:its.toArray.size=min ds.length es.length:=by rw[i4];lia
     rw[e1]at this;have e2:(ds.length == es.length)=true:=by simp;lia
     rw[e2,Bool.and_true];exact this
    ·have e2:(ds.length == es.length)=false:=by simp;lia
     rw[e2,Bool.and_false];exact SeqAt.EqAt.of_refs hab (SeqAt.RcAt.lists_lengths p.isList p'.isList (by simpa using hl) hu0)
  ·let(b,ys,rfl,hy,r'):=he;cases ry;let(_,_,q,_):=I.tuple hy;exact SeqAt.EqAt.list_tuple p.isList (iT q) hu0
 |.tup ds,e,x,y,u,v,A,hu,hd,he,rx,ry=>by
  have hu0:A.units<cLine:=by lia
  simp only[dep]at hu;simp only[Rep]at hd;let(a,xs,rfl,hx,r):=hd;cases rx;let(its,rv,p,hz):=I.tuple hx;cases e<;>simp only[Rep]at he
  ·subst he;cases ry;exact SeqAt.EqAt.tuple_none (iT p) hu0
  ·subst he;cases ry;exact SeqAt.EqAt.tuple_bool _ (iT p) hu0
  ·subst he;let(t,rfl):=ry;exact SeqAt.EqAt.tuple_int _ _ (iT p) hu0
  ·subst he;let(t,rfl):=ry;exact SeqAt.EqAt.tuple_str _ _ (iT p) hu0
  ·let(b,ys,rfl,hy,r'):=he;cases ry;let(_,_,q,_):=I.list hy;exact SeqAt.EqAt.tuple_list (iT p) q.isList hu0
  ·rename_i es;let(b,ys,rfl,hy,r'):=he;cases ry;let(its',rv',p',hz'):=I.tuple hy;by_cases hab:a=b
   ·subst hab;have:=I.kM hx hy;subst this;rw[ib I ds es xs r r',ng];exact SeqAt.EqAt.same _
   ·have l1:=r.len;have l2:=rv.length;have l3:=r'.len;have l4:=rv'.length;have key:=jM ds es;simp only[deq];rw[<-key];have:=SeqAt.EqAt.of_refs hab (SeqAt.RcAt.tuples (e:=eAt ds es) (iT p) (iT p') hu0 (λj h1 h2=>by
      have q:=eY I ds es xs ys its its' A.in1 (by show A.units+1+depL ds<cLine;lia) r r' rv rv' j (by simpa using h1) (by simpa using h2);simpa using q))
    have e1:its.toArray.size=ds.length:=by rw[i4];lia
    have e2:its'.toArray.size=es.length:=by rw[i4];lia
    rw[e1,e2]at this;exact this
theorem eY(I:Inv X pins Z H s):∀(ds es:List D) (xs ys:List V) (us vs:List Value) (A:Around),A.units+depL ds<cLine->RepL X.K H ds xs->RepL X.K H es ys->Vals xs us->Vals ys vs->
  ∀(j:Nat) (h1:j<us.length) (h2:j<vs.length),SeqAt.EqAt A s us[j] vs[j] (eAt ds es j)
 |[],es,xs,ys,us,vs,A,hu,hd,he,rx,ry,j,h1,h2=>by
  subst hd;cases rx;exact absurd h1 (by simp)
 |d::ds,es,xs,ys,us,vs,A,hu,hd,he,rx,ry,j,h1,h2=>by
  simp only[depL]at hu;let(x,xs',rfl,rd,rds):=hd;cases rx with
  |cons r0 rr=>
   cases es with
   |nil=>
    subst he;cases ry;exact absurd h2 (by simp)
   |cons e es=>
    let(y,ys',rfl,re,res):=he;cases ry with
    |cons q0 qr=>
     cases j with
     |zero=>
      have:eAt (d::ds) (e::es) 0=deq d e:=by simp[eAt]
      exact rK I d e x y _ _ A (by lia) rd re r0 q0
     |succ j=>
      have:eAt (d::ds) (e::es) (j+1)=eAt ds es j:=by simp[eAt]
      exact eY I ds es xs' ys' _ _ A (by lia) rds res rr qr j (by simpa using h1) (by simpa using h2)
end
def MD(K:Wf):R2:=λx y H Q=>∃ds es,((Rep K H (.lst ds) x/\Rep K H (.lst es) y)\/(Rep K H (.tup ds) x/\Rep K H (.tup es) y))/\depL ds<=20/\Q (.bl (deqL ds es)) H
def NV(hu:X.A.units+64<cLine):dH X (compareOp .Eq) (MD X.K):=by
 intro pins s Z H x y v u Q I rx ry h;let(ds,es,h,hdep,q):=h;have hu0:X.A.units<cLine:=by lia
 have hin:X.A.in1.units+depL ds<cLine:=by show X.A.units+1+depL ds<cLine;lia
 have key:=jM ds es;rcases h with ⟨h1,h2⟩|⟨h1,h2⟩
 ·simp only[Rep]at h1 h2;let(a,xs,rfl,hx,r):=h1;let(b,ys,rfl,hy,r'):=h2;cases rx;cases ry;let(its,rv,p,hz):=I.list hx;let(its',rv',p',hz'):=I.list hy;have l1:=r.len;have l2:=rv.length;have l3:=r'.len;have l4:=rv'.length;by_cases hl:its.length=its'.length
  ·refine SeqAt.eq_listAt (e:=eAt ds es) p.isList p'.isList (by simpa using hl) hu0 (λj h1 h2=>?_) ?_
   ·have q:=eY I ds es xs ys its its' X.A.in1 hin r r' rv rv' j (by simpa using h1) (by simpa using h2);simpa using q
   ·have e1:its.toArray.size=min ds.length es.length:=by rw[i4];lia
    have e2:(ds.length == es.length)=true:=by simp;lia
    rw[e2,Bool.and_true]at key;rw[e1,key];exact(.bl (deqL ds es),H,I,rfl,q)
  ·have e2:(ds.length == es.length)=false:=by simp;lia
   rw[e2,Bool.and_false]at key;rw[<-key]at q;exact SeqAt.eq_list_lengthsAt p.isList p'.isList (by simpa using hl) hu0 (.bl false,H,I,rfl,q)
 ·simp only[Rep]at h1 h2;let(a,xs,rfl,hx,r):=h1;let(b,ys,rfl,hy,r'):=h2;cases rx;cases ry;let(its,rv,p,hz):=I.tuple hx;let(its',rv',p',hz'):=I.tuple hy;have l1:=r.len;have l2:=rv.length;have l3:=r'.len;have l4:=rv'.length;refine SeqAt.eq_tupleAt (e:=eAt ds es) (iT p) (iT p') hu0 (λj h1 h2=>?_) ?_
  ·have q:=eY I ds es xs ys its its' X.A.in1 hin r r' rv rv' j (by simpa using h1) (by simpa using h2);simpa using q
  ·have e1:its.toArray.size=ds.length:=by rw[i4];lia
   have e2:its'.toArray.size=es.length:=by rw[i4];lia
   rw[e1,e2,key];exact(.bl (deqL ds es),H,I,rfl,q)
def Mn(K:Wf):R2:=λx y H Q=>∃ds es,((Rep K H (.lst ds) x/\Rep K H (.lst es) y)\/(Rep K H (.tup ds) x/\Rep K H (.tup es) y))/\depL ds<=20/\Q (.bl (!deqL ds es)) H
def LH(hu:X.A.units+64<cLine):dH X (compareOp .NotEq) (Mn X.K):=by
 intro pins s Z H x y v u Q I rx ry h;let(ds,es,h,hdep,q):=h;have hu0:X.A.units<cLine:=by lia
 have hin:X.A.in1.units+depL ds<cLine:=by show X.A.units+1+depL ds<cLine;lia
 have key:=jM ds es;rcases h with ⟨h1,h2⟩|⟨h1,h2⟩
 ·simp only[Rep]at h1 h2;let(a,xs,rfl,hx,r):=h1;let(b,ys,rfl,hy,r'):=h2;cases rx;cases ry;let(its,rv,p,hz):=I.list hx;let(its',rv',p',hz'):=I.list hy;have l1:=r.len;have l2:=rv.length;have l3:=r'.len;have l4:=rv'.length;by_cases hl:its.length=its'.length
  ·refine SeqAt.RcNeAt.lists (e:=eAt ds es) p.isList p'.isList (by simpa using hl) hu0 (λj h1 h2=>?_) X.prog X.w X.xe _ ?_
   ·have q:=eY I ds es xs ys its its' X.A.in1 hin r r' rv rv' j (by simpa using h1) (by simpa using h2);simpa using q
   ·have e1:its.toArray.size=min ds.length es.length:=by rw[i4];lia
    have e2:(ds.length == es.length)=true:=by simp;lia
    rw[e2,Bool.and_true]at key;rw[e1,key];exact(.bl (!deqL ds es),H,I,rfl,q)
  ·have e2:(ds.length == es.length)=false:=by simp;lia
   rw[e2,Bool.and_false]at key;rw[<-key]at q;exact SeqAt.RcNeAt.lists_lengths p.isList p'.isList (by simpa using hl) hu0 X.prog X.w X.xe _ (.bl true,H,I,rfl,q)
 ·simp only[Rep]at h1 h2;let(a,xs,rfl,hx,r):=h1;let(b,ys,rfl,hy,r'):=h2;cases rx;cases ry;let(its,rv,p,hz):=I.tuple hx;let(its',rv',p',hz'):=I.tuple hy;have l1:=r.len;have l2:=rv.length;have l3:=r'.len;have l4:=rv'.length;refine SeqAt.RcNeAt.tuples (e:=eAt ds es) (iT p) (iT p') hu0 (λj h1 h2=>?_) X.prog X.w X.xe _ ?_
  ·have q:=eY I ds es xs ys its its' X.A.in1 hin r r' rv rv' j (by simpa using h1) (by simpa using h2);simpa using q
  ·have e1:its.toArray.size=ds.length:=by rw[i4];lia
   have e2:its'.toArray.size=es.length:=by rw[i4];lia
   rw[e1,e2,key];exact(.bl (!deqL ds es),H,I,rfl,q)
theorem RepL.ints{K:Wf}{H:Hp}:∀ns:List Int,RepL K H (ns.map D.int) (ns.map V.int)
 |[]=>by simp only[List.map_nil,RepL]
 |n::ns=>by simp only[List.map_cons,RepL];exact(_,_,rfl,by simp only[Rep],RepL.ints ns)
end
section
variable{X:Cx}{K:Wf}
theorem Bp(e:X.K=K):Kf X (QJ K):=e▸GZ
theorem rP(e:X.K=K):Kf X (IH K):=e▸MF
theorem Ed(e:X.K=K):G1 X (Ro K):=e▸HE
theorem HI(e:X.K=K):G1 X (Pt K):=e▸LZ
theorem CM(e:X.K=K):dH X (binaryOp .Add) (KH K):=e▸HL
theorem CI(e:X.K=K):dH X (binaryOp .Add) (J9 K):=e▸GV
theorem yH(e:X.K=K):dH X (compareOp .In) (S5 K false):=e▸AR
theorem wu(e:X.K=K):dH X (compareOp .NotIn) (S5 K true):=e▸qE
theorem qH(hu:X.A.units+64<cLine)(e:X.K=K):dH X (compareOp .Eq) (MD K):=e▸NV hu
theorem iB(hu:X.A.units+64<cLine)(e:X.K=K):dH X (compareOp .NotEq) (Mn K):=e▸LH hu
theorem Aq(e:X.K=K):bP X (.builtin "len") (λxs H Q=>∃x n,xs=[x]/\Mb K x H n/\Q (.int n) H):=e▸CZ
theorem zU(e:X.K=K):bP X (.builtin "isinstance") (Sh K):=e▸BC
theorem rO(e:X.K=K):bP X (.type "list") (λxs H Q=>∃p ys,xs=[.ref p]/\(az K H p ys\/bc K H p ys)/\∀l,H l=none->Q (.ref l) (upd H l (.lst ys))):=e▸rM
theorem fh(e:X.K=K)(hl:PE X l tl):PI X tg l (p7 K tl):=e▸Gz hl
theorem HQ(e:X.K=K)(hl:PE X l tl):PI X tg l (HH K tl):=e▸Oj hl
theorem cj{es:List Expr}{k:Nat}{t:F7}{n:Nat}{pos:Pos}(e:X.K=K)(hc:X.calm=true)(h:M6 X es t)
  (hn:(assignEach es X.env).length=n:=by rfl) (hst:(assignEach es X.env).findIdx? (·.1)=none:=by rfl):PG X (.Tuple es k pos) (Eo K n t):=e▸Mq hc h hn hst
end
section
variable{X:Cx}
def TC:V->List V->Hp->VK->Prop:=λx vs H Q=>∃z y,x=.str z/\vs=[.str y]/\Q (.bl (Txt.startswith z y)) H
def TU:V->List V->Hp->VK->Prop:=λx vs H Q=>∃z y i,x=.str z/\vs=[.str y]/\(∃rest,Builtin.Str.occurrences z y 0 z.length 1=i::rest)/\Q (.int (i:Nat)) H
end
def h8(h:Heap)(e:Addr)(cls:Value)(dx:Option Addr)(fl:Value)(T:Addr):Prop:=
 ∃oe vs oT ts,h.get? e=some oe/\oe.cls=cls/\oe.dict=dx/\oe.data=.fields vs/\vs[1]?=some (.ref T)/\T≠e/\h.get? T=some oT/\oT.data=.fields ts/\ts[3]?=some fl
structure ij(fs:List Addr)(e T0:Addr)(cls:Value)(dx:Option Addr)(fl:Value)(h h':Heap):Prop where
 keep:∀b o,b∉fs->b≠e->b≠T0->h.get? b=some o->h'.get? b=some o
 slot:∀b o,b∈fs->b≠e->b≠T0->h.get? b=some o->∃sl,h'.get? b=some { o with slots:=sl }
 there:∀b o,h.get? b=some o->∃o',h'.get? b=some o'
 exc:∃T,h.objs.size<=T/\h8 h' e cls dx fl T
section
variable{M:Model}{A:Around}{E:Vs}{s:Shared}
def jc(f:Array Value->Array Value)(o:Obj):(Obj.mapFields f o).dict=o.dict:=by
 let(c,d,da,sl):=o;cases da<;>rfl
def qA{outer:List Env}{hadNext:Bool}
  (hfr:A.frames=some (env::outer)) (hl:s.heap.FunFrames base (env::outer)) (hf:env.frame=some L)
  (he:s.heap.get? e=some oe) (hd:oe.data=.fields vs) (hsz:1<vs.size)
  (h:∀h',ij (lK (env::outer)) e T0 oe.cls oe.dict (rawInt L) s.heap h'->Q () { s with heap:=h' }):
  wpAny M A (do let a <-frameOf env;let pl <-entryPlaceOf L hadNext;let b <-EntryCells.newEntry head a .none (rawInt L) .none pl;setField (.ref e) 1 b) Q E s:=by
 have hene:e∉(env::outer).filterMap (·.frame):=λhm=>by
  let(_,o,ho,hnf):=hl.mem hm;rw[he]at ho;injection ho with ho;subst ho;exact hnf vs hd
 refine aB (wpAny_frameOf_fun hfr hl hf λh₁ hs₁=>(aB (wpAny_entryPlaceOf λpl hpl=>(aB (Gj ?_ (hpl.sizeOk5 _ _ _ _ _))))));have he₁:h₁.get? e=some oe:=(hs₁.2.1 e hene).trans he;have he₂:=cV { cls:=.type "traceback", dict:=none,data:=.fields ([head,.ref L,.none,rawInt L,.none]++(if pl.isEmpty then List.replicate 6 Value.none else pl)).toArray } he₁;refine Ks he₂ hd hsz (h _ ?_);have hTe:=Nat.ne_of_gt (cy he₁);have hd₃:=Obj.data_mapFields hd (·.setIfInBounds 1 (Value.ref h₁.objs.size));have he₃:=AV (Obj.mapFields (·.setIfInBounds 1 (Value.ref h₁.objs.size))) he₂ (Obj.isFreed_of_fields hd₃);have hT₃:=(A0 (h₁.push { cls:=.type "traceback", dict:=none,data:=.fields ([head,.ref L,.none,rawInt L,.none]++(if pl.isEmpty then List.replicate 6 Value.none else pl)).toArray })
  (Obj.mapFields (·.setIfInBounds 1 (Value.ref h₁.objs.size))) (Ne.symm hTe)).trans (iL h₁ rfl)
 have keep:∀b o,b≠e->h₁.get? b=some o->
   ((h₁.push { cls:=.type "traceback", dict:=none,data:=.fields ([head,.ref L,.none,rawInt L,.none]++(if pl.isEmpty then List.replicate 6 Value.none else pl)).toArray }).update e (Obj.mapFields (·.setIfInBounds 1 (Value.ref h₁.objs.size)))).get? b=some o:=
  λb o hbe hb=>by
   rw[A0 _ _ (Ne.symm hbe)];exact cV _ hb
 have new:=Nat.le_of_eq hs₁.1.symm;refine(λb o hb hbe _ hbo=>keep b o hbe ((hs₁.2.1 b hb).trans hbo),λb o _ hbe _ hbo=>?_,λb o hbo=>?_,h₁.objs.size,new,_,_,_,_,he₃,Obj.cls_mapFields _ _,jc _ _,hd₃,by simp[hsz],hTe,hT₃,rfl,?_)
 ·let(sl,hs):=hs₁.2.2 b o hbo;exact(sl,keep b _ hbe hs)
 ·by_cases hbe:b=e
  ·subst hbe;exact(_,he₃)
  ·let(sl,hs):=hs₁.2.2 b o hbo;exact(_,keep b _ hbe hs)
 ·simp_all
def vI(h:Heap)(e:Addr)(cls:Value)(dx:Option Addr):Prop:=∃oe vs,h.get? e=some oe/\oe.cls=cls/\oe.dict=dx/\oe.data=.fields vs/\vs[1]?=some .none
def Ew{outer:List Env}
  (hfr:A.frames=some (env::outer)) (hl:s.heap.FunFrames base (env::outer)) (hf:env.frame=some L) (hx:vI s.heap e cls dx)
  (h:∀h',ij (lK (env::outer)) e e cls dx (rawInt L) s.heap h'->Q () { s with heap:=h' }):wpAny M A (noteFrame (.ref e) env) Q E s:=by
 let(oe,vs,he,hc,hdx,hd,h1):=hx;subst hc hdx;unfold noteFrame;simp only[hf];exact aB (GJ he hd h1 (qA hfr hl hf he hd (O0.mp h1).1 h))
def ph{outer:List Env}
  (hfr:A.frames=some (env::outer)) (hl:s.heap.FunFrames base (env::outer)) (hf:env.frame=some L) (hx:h8 s.heap e cls dx .none T)
  (h:∀h',ij (lK (env::outer)) e T cls dx (rawInt L) s.heap h'->Q () { s with heap:=h' }):wpAny M A (noteFrame (.ref e) env) Q E s:=by
 let(oe,vs,oT,ts,he,hc,hdx,hd,h1,hTe,hT,hdT,h3):=hx;subst hc hdx;unfold noteFrame;simp only[hf];refine aB (GJ he hd h1 (aB (GJ hT hdT h3 (aB (Ks hT hdT (O0.mp h3).1 ?_)))));have other:∀b,b≠T->(s.heap.update T (Obj.mapFields (·.setIfInBounds 3 Value.none))).get? b=s.heap.get? b:=λb hb=>A0 _ _ (Ne.symm hb);have noRecord:∀b o,s.heap.get? b=some o->(∀vs,o.data≠.fields vs)->b≠T:=λb o hb hnf q=>by
  rw[q,hT]at hb;injection hb with hb;subst hb;exact hnf ts hdT
 have hT':=AV (Obj.mapFields (·.setIfInBounds 3 Value.none)) hT (Obj.isFreed_of_fields (Obj.data_mapFields hdT _));refine qA (T0:=T) hfr (hl.of_keeps λb o hb hnf=>(o,(other b (noRecord b o hb hnf)).trans hb,rfl)) hf ((other e (Ne.symm hTe)).trans he) hd (O0.mp h1).1 λh' x=>h h' ?_;refine(λb o hb hbe hbT hbo=>x.keep b o hb hbe hbT ((other b hbT).trans hbo),λb o hb hbe hbT hbo=>x.slot b o hb hbe hbT ((other b hbT).trans hbo),λb o hbo=>?_,?_)
 ·by_cases hb:b=T
  ·subst hb;exact x.there b _ hT'
  ·exact x.there b o ((other b hb).trans hbo)
 ·let(T',hn,y):=x.exc;exact(T',by rw[Heap.size_update]at hn;exact hn,y)
def gF(hx:h8 s.heap e cls dx fl T)
  (h:∀h',(∀b o,b≠T->s.heap.get? b=some o->h'.get? b=some o)->(∃o,h'.get? T=some o)->h8 h' e cls dx .none T->Q () { s with heap:=h' }):wpAny M A (setFlight (.ref e) none) Q E s:=by
 let(oe,vs,oT,ts,he,hc,hdx,hd,h1,hTe,hT,hdT,h3):=hx;refine aB (GJ he hd h1 ?_);have hs:=(O0.mp h3).1;refine Ks hT hdT hs (h _ (λb o hb hbo=>?_) ?_ ?_)
 ·rw[A0 _ _ (Ne.symm hb)];exact hbo
 ·exact(_,AV _ hT (Obj.isFreed_of_fields (Obj.data_mapFields hdT _)))
 ·refine(oe,vs,_,_,?_,hc,hdx,hd,h1,hTe,AV _ hT (Obj.isFreed_of_fields (Obj.data_mapFields hdT _)),Obj.data_mapFields hdT _,?_)
  ·rw[A0 _ _ hTe];exact he
  ·simp[hs]
def ij.off{fs:List Addr}{e T0 T:Addr}{cls:Value}{dx:Option Addr}{fl:Value}{h h1 h2:Heap}(x:ij fs e T0 cls dx fl h h1)(hT:h.objs.size<=T)(k:∀b o,b≠T->h1.get? b=some o->h2.get? b=some o)
  (hT2:∃o,h2.get? T=some o) (y:h8 h2 e cls dx .none T):ij fs e T0 cls dx .none h h2:=by
 have ne:∀b o,h.get? b=some o->b≠T:=λb o e z=>by
  have:=cy e;rw[z]at this;exact absurd (kA this hT) (k9 _)
 refine(λb o hb hbe hb0 hbo=>k b o (ne b o hbo) (x.keep b o hb hbe hb0 hbo),λb o hb hbe hb0 hbo=>?_,λb o hbo=>?_,T,hT,y)
 ·let(sl,q):=x.slot b o hb hbe hb0 hbo;exact(sl,k b _ (ne b o hbo) q)
 ·let(o',q):=x.there b o hbo;exact(o',k b _ (ne b o hbo) q)
def leave_new{outer:List Env}
  (hfr:A.frames=some (env::outer)) (hl:s.heap.FunFrames base (env::outer)) (hf:env.frame=some L) (hx:vI s.heap e cls dx)
  (h:∀h',ij (lK (env::outer)) e e cls dx .none s.heap h'->Q () { s with heap:=h' }):wpAny M A (leaving env (.ref e)) Q E s:=by
 refine aB (Ew hfr hl hf hx λh1 x=>?_);let(T,hT,y):=x.exc;exact gF y λh2 k hT2 z=>h h2 (x.off hT k hT2 z)
def xj{outer:List Env}
  (hfr:A.frames=some (env::outer)) (hl:s.heap.FunFrames base (env::outer)) (hf:env.frame=some L) (hx:h8 s.heap e cls dx .none T0)
  (h:∀h',ij (lK (env::outer)) e T0 cls dx .none s.heap h'->Q () { s with heap:=h' }):wpAny M A (leaving env (.ref e)) Q E s:=by
 refine aB (ph hfr hl hf hx λh1 x=>?_);let(T,hT,y):=x.exc;exact gF y λh2 k hT2 z=>h h2 (x.off hT k hT2 z)
end
def vc(P:Program)(w:World):AY:=λouter H s E e s'=>∃(a T:Addr) (cls:Value) (dx:Option Addr) (H':Hp),e=.ref a/\s'.os=s.os/\AllBare s'.gens/\Un (lK outer) [] H H' s.heap s'.heap/\gA P w H' s'.heap/\
 s.heap.get? a=none/\s.heap.get? T=none/\H' a=none/\H' T=none/\h8 s'.heap a cls dx .none T/\E cls dx H'
def ExcAt(X:Cx)(H:Hp)(h:Heap)(a:Addr)(cls:Value)(dx:Option Addr):Prop:=
 X.s₀.heap.get? a=none/\H a=none/\(vI h a cls dx\/∃T,X.s₀.heap.get? T=none/\H T=none/\h8 h a cls dx .none T)
def Xe(X:Cx)(E:XK):Prop:=∀(pins:Lo) (Z:St) (H:Hp) (s:Shared) (a:Addr) (cls:Value) (dx:Option Addr),Inv X pins Z H s->ExcAt X H s.heap a cls dx->E cls dx H->X.xe (.ref a) s
theorem gA.tracked(ok:gA P w H h)(k:∀b o u,H b=some u->h.get? b=some o->h'.get? b=some o):gA P w H h':=λa o e=>
 (ok a o e).gU (λb u hb q=>by
  rcases hb with z|z
  ·subst z;exact k b u o e q
  ·exact k b u _ z q) (λ_ q=>q) λ_ _ q=>q
def Un.left{X:Cx}{pins:Lo}{Z:St}{H:Hp}{s:Shared}{a T0:Addr}{cls:Value}{dx:Option Addr}{h':Heap}(I:Inv X pins Z H s)(hex:X.ex=[])(hst:X.stack=X.env::X.outer)(hfr:X.env.frame=some X.env.locals)
  (ha:X.s₀.heap.get? a=none) (hT:X.s₀.heap.get? T0=none) (x:ij (lK (X.env::X.outer)) a T0 cls dx .none s.heap h'):Un X.fs [] X.H₀ H X.s₀.heap h':=by
 have hfs:lK (X.env::X.outer)=X.env.locals::X.fs:=by simp[lK,hfr]
 have nl:∀b o,X.s₀.heap.get? b=some o->b≠X.env.locals:=λb o e z=>by
  have:=cy e;rw[z]at this;exact absurd (kA this I.ok.above) (k9 _)
 have na:∀b o,X.s₀.heap.get? b=some o->b≠a:=λb o e z=>by rw[z,ha]at e;cases e
 have nT:∀b o,X.s₀.heap.get? b=some o->b≠T0:=λb o e z=>by rw[z,hT]at e;cases e
 have nx:∀b:Addr,b∉X.ex:=λb=>by rw[hex];simp
 have B:=I.base;have nfs:∀b o,X.s₀.heap.get? b=some o->b∉X.fs->b∉lK (X.env::X.outer):=λb o e hb z=>by
  rw[hfs]at z;rcases eP.mp z with q|q
  ·exact nl b o e q
  ·exact hb q
 refine(λb o e n hb _=>x.keep b o (nfs b o e hb) (na b o e) (nT b o e) (B.keep b o e n hb (nx b)),λb o e n hb _=>?_,λb o e n _=>B.free b o e n (nx b),λb o e _=>?_,B.jZ,B.jt,B.jd)
 ·let(sl,q):=B.slot b o e n hb (nx b);let(sl2,q2):=x.slot b _ (hfs▸jQ _ hb) (na b o e) (nT b o e) q;exact(sl2,q2)
 ·let(o',q):=B.there b o e (nx b);exact x.there b o' q
def lF{P:Program}{w:World}{K:Wf}{mg:So}{base:Heap}{N:List Str}{qual:Str}{scope:Scope}{f:Addr}{cd:Value}{A:Around}{outer:List Env}{s₀:Shared}{H₀:Hp}{E₀:XK}:
  Xe (k8 (vc P w) P w K mg base N qual scope f cd A outer s₀ H₀ E₀) E₀:=by
 intro pins Z H s a cls dx I hx hE;let(ha,hHa,hx):=hx;have hfr:(envOfC qual scope s₀.heap.objs.size f cd).frame=some s₀.heap.objs.size:=rfl;have fin:∀T0 h',s₀.heap.get? T0=none->H T0=none->ij (lK (envOfC qual scope s₀.heap.objs.size f cd::outer)) a T0 cls dx .none s.heap h'->vc P w outer H₀ s₀ E₀ (.ref a) { s with heap:=h' }:=by
  intro T0 h' hT0 hHT0 x;let(T,hT,y):=x.exc;have hTn:s₀.heap.get? T=none:=by
   cases q:s₀.heap.get? T with
   |none=>rfl
   |some o=>exact absurd (kA (cy q) (fF I.sz hT)) (k9 _)
  refine(a,T,cls,dx,H,rfl,I.os,I.bare,Un.left I rfl rfl rfl ha hT0 x,I.aP.tracked λb o u hb q=>x.keep b o (λz=>?_) (λz=>by rw[z,hHa]at hb;cases hb) (λz=>by rw[z,hHT0]at hb;cases hb) q,ha,hTn,hHa,I.aP.fresh hT,y,hE);have:=I.lW b z;rw[this]at hb;cases hb
 rcases hx with hx|⟨T0,hT0,hHT0,hx⟩
 ·exact leave_new I.ok.frames I.stack hfr hx λh' x=>fin a h' ha hHa x
 ·exact xj I.ok.frames I.stack hfr hx λh' x=>fin T0 h' hT0 hHT0 x
def ko(h:Xe X E)(hex:X.ex=[]:=by rfl):Passes (vc X.prog X.w) X E:=by
 intro pins Z H s e s' I hx;let(a,T,cls,dx,H',rfl,ho,hg,u,aP,ha,hT,hHa,hHT,y,hE):=hx;have I':=I.mI ho u aP hg λb hb=>absurd hb (by simp);have old:∀b,s.heap.get? b=none->X.ex=[]->X.s₀.heap.get? b=none:=λb hb hx=>by
  cases q:X.s₀.heap.get? b with
  |none=>rfl
  |some o=>
   let(o',q'):=I.base.there b o q (by rw[hx];simp);rw[hb]at q';cases q'
 exact h pins Z H' s' a cls dx I' (old a ha hex,hHa,.inr (T,old T hT hex,hHT,y)) hE
def bS.there(x:bS P w H h a o):∃ob,h.get? a=some ob:=by
 cases o with
 |lst xs=>let(_,_,_,_,e):=x;exact(_,e)
 |tup xs=>let(_,_,_,o,e,_):=x;exact(_,e)
 |dK kvs=>let(_,_,_,_,o,_,_,e,_):=x;exact(_,e)
 |dT kvs=>let(_,_,_,_,o,_,_,e,_):=x;exact(_,e)
 |set S n=>let(o,_,_,_,e,_):=x;exact(_,e)
 |ins C dx fs=>let(_,_,_,e,_):=x;exact(_,e)
 |own y=>let(_,e):=x;exact(_,e)
 |xd fs=>let(_,(_,_,_,e,_),_):=x;exact(_,e)
 |S_ lo hi=>let(_,_,_,e):=x;exact(_,e)
 |g7 ob u=>let(e,_):=x;exact(_,e)
 |i3 ps=>exact(_,x)
 |met f y=>exact(_,x)
 |ext φ=>let(_,(_,e),_):=x;exact(_,e)
section
variable{X:Cx}
def UK(C:Addr)(E:XK)(t:TA):TS:=λ_ Z H=>t Z H λvs H1=>vs.length<=sizeLine/\E (.ref C) none H1
end
end L2
namespace L2
open PySem PySem.Spec PyProof.Rows PySem.W
structure lM(K:Frag)(C:Addr):Prop where
 ga:findIn K (.ref C) "__getattribute__" = some (some 'x')
 gn:findIn K (.ref C) "__getattr__" = some none
 cl:findIn K (.ref C) "__class__" = some (some 'o')
 sg:specialIn K 'o' "__get__" = some (some (.builtin "getset_descriptor.__get__"))
 tk:takesIn K 'o'=some true
 mo:mroIn K C 'D'=some true
 mb:mroIn K C (.type "BaseException")=some true
section
variable{prog:Program}{w:World}{A:Around}{E:Vs}{s:Shared}{K:Frag}{x C:Addr}{ox:Obj}{od:Option Obj}{name:Str}
def lR(e:mroIn K C b=some r):∃cd,clsIn K C=some cd:=by
 let(cd,a,_):=Option.bind_eq_some_iff.mp e;exact(cd,a)
theorem HN{nameV:Value}(X:K.In s.heap)(c:lM K C)(I:InstAt s.heap x ox C od)(q:Q () s):wpAny M A (checkBuiltinCall "BaseException.__getattribute__" ([.ref x,nameV],[])) Q E s:=
 @check_slot M A E s "BaseException.__getattribute__" "BaseException" "__getattribute__" (.ref x) [nameV] [] Q 'e' 'e' (I.type.andThen (looks_mroIn X c.mb)) (F.args_bexc_ga _ _) q
def og(X:K.In s.heap)(I:InstAt s.heap x ox C od)(hf:findObj K C od name=some (.value v))(h:Q (.done (.ret v)) s):
  wpAny 'b' A (Builtin.«object.__getattribute__» ([.ref x,.str name tk],[])) Q E s:=by
 have L0:=I.type (M:=model prog w);have L1:=looks_find (M:=model prog w) X I hf;unfold Builtin.«object.__getattribute__»;refine aB (bp ?_);refine aB (bp ?_);refine aB (L0.here (aB (L1.here ?_)));exact bp h
def oj(X:K.In s.heap)(c:lM K C)(I:InstAt s.heap x ox C od)(h:Q (.done (.ret (.ref C))) s):
  wpAny 'b' A (Builtin.«object.__getattribute__» ([.ref x,.str "__class__" tk],[])) Q E s:=by
 let(cd,hc):=lR c.mo;have hf:findObj K C od "__class__" = some (.bind (.builtin "getset_descriptor.__get__") 'o'):=by
  unfold findObj;rw[hc,c.cl];simp only[Option.bind_some];rw[c.sg];simp only[Option.bind_some];rfl
 have L0:=I.type (M:=model prog w);have L1:=looks_find (M:=model prog w) X I hf;exact aB (bp (aB (bp (aB (L0.here (aB (L1.here (aB (uB (Gm (class_get X I c.mo (bp h))))))))))))
theorem OR(self:Value):bindSpecial 'x' self=pure ⟨.builtin "BaseException.__getattribute__", [self]⟩:=F.attr_ValueError.ga.bind self
theorem vC:plainId "BaseException.__getattribute__" = true:=F.attr_ValueError.ga.plain
def SM{v nameV:Value}{fill expr:Bool}{Q:Vs}(X:K.In s.heap)(c:lM K C)(I:InstAt s.heap x ox C od)
  (he:∀(A:Around) (E:Vs) (Q:Fin->Shared->Prop),Q (.done (.ret v)) s->wpAny 'b' A (Builtin.«object.__getattribute__» ([.ref x,nameV],[])) Q E s)
  (hv:handedIn v=true) (h:Q v s):wpAny 'b' A (getAttrBy (.ref x) nameV fill expr) Q E s:=by
 have L0:=I.type (M:=model prog w);have L1:=looks_findIn (M:=model prog w) X c.ga;have L2:=looks_findIn (M:=model prog w) X c.gn;refine uB (aB (L0.here (aB (L1.here ?_))));have hne:(onTheHeap (Value.ref C)&&Value.builtin "BaseException.__getattribute__" == Value.builtin "object.__getattribute__")=false:=by
  show(true&&_)=false;decide +kernel
 show wpAny _ _ (if (onTheHeap (Value.ref C)&&Value.builtin "BaseException.__getattribute__" == Value.builtin "object.__getattribute__")=true then _ else getAttrByItsOwn _ _ _ _ _ _) _ _ _;refine aB (L2.here (aB (Kq (uB ?_))));have hcg:callGetattribute (.ref x) nameV 'x' expr=boundAndCalled 'x' (.ref x) nameV:=by
  unfold callGetattribute;rw[if_neg (by cases expr<;>decide)]
 rw[hcg];unfold boundAndCalled;refine Gm (codeAny_call_builtin vC F.entry_bexc_ga (HN X c I (he _ _ _ ?_)));show wpAny _ _ (handedOut v) _ _ _;rw[handedOut_of hv];exact bp h
def IQ(X:K.In s.heap)(c:lM K C)(I:InstAt s.heap x ox C od)(h:Q (some (.ref C)) { s with toks:=s.toks+1 }):wpAny 'b' A (getAttr? (.ref x) "__class__") Q E s:=by
 exact aB (wpAny_mkText (aB (Kq (SM X c I (λA E Q q=>oj X c I q) rfl (bp h)))))
def MG{v:Value}{expr:Bool}{Q:Vs}(X:K.In s.heap)(c:lM K C)(I:InstAt s.heap x ox C od)(hf:findObj K C od name=some (.value v))(hv:handedIn v=true)
  (h:Q v { s with toks:=s.toks+1 }):wpAny 'b' A (getAttr (.ref x) name expr) Q E s:=by
 unfold getAttr;refine aB (wpAny_mkText ?_);exact SM (s:={ s with toks:=s.toks+1 }) X c I (λA E Q q=>og (s:={ s with toks:=s.toks+1 }) X I hf q) hv h
theorem DR{ox:Obj}{od:Option Obj}(c:lM K C):KitX K (.ref x) (.ref C) (λh=>InstAt h x ox C od) where
 ty:=λ_ _ _ I=>I.type
 it:=λ_ _ X _=>by
  let(cdD,hcD):=lR c.mo;unfold clsIn at hcD;split at hcD
  ·rename_i c' d' cd' sl' ho;intro A' Q' E' s' k q;exact aB (wpAny_loadPart (k _ _ (X _ _ ho)) (bp q))
  ·cases hcD
 ne:=λh tp dd its n sl X htp=>by
  let(cdD,hcD):=lR c.mo;refine Bool.eq_false_iff.mpr λq=>?_;have e:=Value.ref.inj (beq_iff_eq.mp q);subst e;unfold clsIn at hcD;split at hcD
  ·rename_i c' d' cd' sl' ho;have z:=(X _ _ ho).symm.trans htp;cases z
  ·cases hcD
 ca:=λX I k=>IQ X c I k
end
end L2
namespace L2
open PySem PySem.Spec PyProof.Rows
structure Catch(K:Wf)(B C:Addr):Prop where
 ty:instIn K (.ref B) (.type "tuple")=some false
 bb:mroIn K B (.type "BaseException")=some true
 sub:mroIn K C (.ref B)=some true
def zO{K:Wf}{M:Model}{h:Heap}{C:Addr}{cd:ClassData}(X:K.In h)(hc:clsIn K C=some cd):PySem.W.Looks M h (isType (.ref C)) true:=by
 unfold clsIn at hc;split at hc
 ·rename_i c' d' cd' sl' ho;intro A' Q' E' s' k q;exact aB (wpAny_loadPart (k _ _ (X _ _ ho)) (bp q))
 ·cases hc
def oH{K:Wf}{M:Model}{A:Around}{E:Vs}{s:Shared}{a B C:Addr}{ox:Obj}{od:Option Obj}{Q:Bool->Shared->Prop}(X:K.In s.heap)(I:PySem.W.InstAt s.heap a ox C od)(c:Catch K B C)(h:Q true s):
  wpAny M A (excMatches (.ref a) (.ref B)) Q E s:=by
 let(cd,hcd):=lR c.bb;have L0:=PySem.W.looks_instIn (M:=M) X c.ty;have L1:=zO (M:=M) X hcd;have L2:=looks_mroIn (M:=M) X c.bb;have L3:=I.type (M:=M);have L4:=looks_mroIn (M:=M) X c.sub;refine aB (L0.here ?_);simp only;refine aB (bp ?_);rw[List.forIn_cons];refine aB (aB (aB (aB (L1.here (L2.here (bp (bp (aB (L3.here ?_)))))))));rw[List.forIn_cons];exact aB (aB (aB (L4.here (bp (bp (bp h))))))
abbrev Cx.hand(X:Cx)(a:Addr):Cx:={ X with A:=X.A.mark (some (.ref a)),calm:=false,xe:=λ_ _=>False }
theorem Cx.Ok.hand{X:Cx}(ok:X.Ok)(a:Addr):(X.hand a).Ok:=
 (ok.mod,ok.kind,ok.glob,ok.blt,ok.above,ok.inj,ok.has,ok.LD,(λz=>by cases z),ok.frames,ok.G0,ok.O7,ok.bs,ok.A2,ok.xp,ok.uT,ok.ju,ok.Gh)
section
variable{X:Cx}{pins:Lo}{Z:St}{H:Hp}{s:Shared}{a:Addr}
theorem Inv.hand(I:Inv X pins Z H s)(a:Addr):Inv (X.hand a) pins Z H s:=(I.ok.hand a,I.os,I.bare,I.base,I.loc,I.cell,I.free,I.fE,I.pin,I.aP,I.len)
theorem Inv.rN(ok:X.Ok)(I:Inv (X.hand a) pins Z H s):Inv X pins Z H s:=(ok,I.os,I.bare,I.base,I.loc,I.cell,I.free,I.fE,I.pin,I.aP,I.len)
end
def XO(a C:Addr)(dx:Option Addr):HO:=.ext λh=>∃ob vs,h.get? a=some ob/\ob.cls=.ref C/\ob.dict=dx/\ob.data=.fields vs
def XO.ok{P:Program}{w:World}{H:Hp}{h:Heap}{a C:Addr}{dx:Option Addr}{fl:Value}{T:Addr}(x:h8 h a (.ref C) dx fl T):bS P w H h a (XO a C dx):=by
 let(oe,vs,oT,ts,he,hc,hdx,hd,_):=x;exact((oe,vs,he,hc,hdx,hd),(oe,he),λh1 h2 (ob,ws,q,r) k=>(ob,ws,k _ q,r))
abbrev XS:=St->XK
def XP(X:Cx)(pins:Lo)(E:XS)(e:Value)(s':Shared):Prop:=∃Z H s,Inv X pins Z H s/\vc X.prog X.w X.stack H s (E Z) e s'
abbrev AW:=St->Hp->VK->XK->Prop
abbrev A4:=Ends->XS->St->Hp->Prop
def WW(X:Cx)(e:Expr)(t:AW):Prop:=∀(pins:Lo) (s:Shared) (Z:St) (H:Hp) (Q:VK) (E:XS),Inv X pins Z H s->t Z H Q (E Z)->
 wpAny 'c' X.A (eval e X.env) (EP X pins Z Q) (XP X pins E) s
def WJ(X:Cx)(st:Stmt)(t:A4):Prop:=∀(pins:Lo) (s:Shared) (Z:St) (H:Hp) (D:Ends) (E:XS),Inv X pins Z H s->t D E Z H->
 wpAny 'c' X.A (exec st X.env) (SP X pins D) (XP X pins E) s
def Mf(X:Cx)(st:List Stmt)(t:A4):Prop:=∀(pins:Lo) (s:Shared) (Z:St) (H:Hp) (D:Ends) (E:XS),Inv X pins Z H s->t D E Z H->
 wpAny 'c' X.A (execs st X.env) (SP X pins D) (XP X pins E) s
section
variable{X:Cx}{k:Nat}{f C:Addr}{fd:FuncData}{ps:List Str}{sp:Sp}{dvs:List V}{ds:List Value}{x m:Str}{p pos apos:Pos}{e o:Expr}{es:List Expr}{ta:TE}{t:TA}
def Xb(sp:Sp)(dvs:List V)(t:TA):AW:=λZ H Q E=>t Z H λvs H1=>sp (vs++dvs) H1 Q E
def WX(C:Addr)(m:Str)(sp:Sp)(dvs:List V)(ta:TE)(t:TA):AW:=λZ H Q E=>ta Z H λx H1=>∃a dx fs,x=.ref a/\H1 a=some (.ins C dx fs)/\fs.lookup m=none/\
 t Z H1 λvs H2=>sp (x::(vs++dvs)) H2 Q E
theorem Wr{α:Type}{t:Sem α}{Q:α->Shared->Prop}{M:Model}{A:Around}{E:Vs}{s:Shared}(h:wpAny M A t Q (λ_ _=>False) s):wpAny M A t Q E s:=jV h (λ_ _ q=>q) λ_ _ z=>False.elim z
end
section
variable{X:Cx}{st:Stmt}{rest:List Stmt}{t:TS}{tx ux:A4}{e:Expr}{te:AW}{pos:Pos}
def Xu(te:AW):A4:=λD E Z H=>te Z H (λ_ H1=>D.nx Z H1) (E Z)
def Ui(i:Nat)(te:AW):A4:=λD E Z H=>te Z H (λv H1=>D.nx (Z.set i (some v)) H1) (E Z)
def Hr(hN:X.N.Nodup)(hi:X.N[i]?=some x)(hx:Loc X.env.scope x)(he:WW X e te)(hs:swapsWith e (some (.Name x pos')) pos.line X.env=pure false:=by rfl)(hf:X.fn x=true\/X.env.scope.names.lookup x=some .local:=by first|exact .inl rfl|exact .inr rfl|assumption):
  WJ X (.Assign [.Name x pos'] e pos) (Ui i te):=by
 intro pins s Z H D E I h;refine wpAny_Assign_Name (bL (he pins s Z H _ E I h) λv s1 (y,H1,I1,r1,q1)=>?_) hs;exact f7 I1 hN hi hx r1 (λs2 I2=>(_,H1,I2,q1)) hf
def Yx(te:AW):A4:=λD E Z H=>te Z H D.rt (E Z)
def YO(t:TS):A4:=λD _ Z H=>t D Z H
def XT(t u:A4):A4:=λD E Z H=>t { D with nx:=u D E } E Z H
def DL(h1:WJ X st tx):Mf X [st] tx:=by
 intro pins s Z H D E I h;refine wpAny_execs_cons (bL (h1 pins s Z H D E I h) λf s1 q=>?_);cases f with
 |next=>exact OV q
 |ret v=>exact q
 |brk=>exact q
 |cont=>exact q
end
structure jv(X:Cx)(H:Hp)(s:Shared)(a T:Addr)(cls:Value)(dx:Option Addr)(H':Hp)(s':Shared):Prop where
 os:s'.os=s.os
 bare:AllBare s'.gens
 un:Un (lK X.stack) [] H H' s.heap s'.heap
 aP:gA X.prog X.w H' s'.heap
 fa:s.heap.get? a=none
 fT:s.heap.get? T=none
 na:H' a=none
 nT:H' T=none
 ex:h8 s'.heap a cls dx .none T
section
variable{X:Cx}{pins:Lo}{Z:St}{H H':Hp}{s s':Shared}{a T:Addr}{cls:Value}{dx:Option Addr}{M:Model}{A:Around}{E:Vs}
theorem jv.inv(L:jv X H s a T cls dx H' s')(I:Inv X pins Z H s):Inv X pins Z H' s':=I.mI L.os L.un L.aP L.bare λb hb=>absurd hb (by simp)
def jv.left{h':Heap}(L:jv X H s a T cls dx H' s')(I:Inv X pins Z H s)(x:ij (lK X.stack) a T cls dx .none s'.heap h'):∃T',jv X H s a T' cls dx H' { s' with heap:=h' }:=by
 have J:=L.inv I;have na:∀b o,s.heap.get? b=some o->b≠a:=λb o e z=>by rw[z,L.fa]at e;cases e
 have nT:∀b o,s.heap.get? b=some o->b≠T:=λb o e z=>by rw[z,L.fT]at e;cases e
 let(T',hT,y):=x.exc;have hT':s.heap.get? T'=none:=by
  cases q:s.heap.get? T' with
  |none=>rfl
  |some o=>
   let(o',q'):=L.un.there T' o q (by simp);exact absurd (kA (cy q') hT) (k9 _)
 refine(T',L.os,L.bare,(λb o e n hb hx=>x.keep b o hb (na b o e) (nT b o e) (L.un.keep b o e n hb hx),λb o e n hb hx=>?_,L.un.free,λb o e hx=>?_,L.un.jZ,L.un.jt,L.un.jd),?_,L.fa,hT',L.na,L.aP.fresh hT,y)
 ·let(sl,q):=L.un.slot b o e n hb hx;let(sl2,q2):=x.slot b _ hb (na b o e) (nT b o e) q;exact(sl2,q2)
 ·let(o',q):=L.un.there b o e hx;exact x.there b o' q
 ·refine L.aP.tracked λb o u hb q=>x.keep b o (λz=>?_) (λz=>by rw[z,L.na]at hb;cases hb) (λz=>by rw[z,L.nT]at hb;cases hb) q;have:=J.lW b z;rw[this]at hb;cases hb
def jv.off{h':Heap}(L:jv X H s a T cls dx H' s')(k:∀b o,b≠T->s'.heap.get? b=some o->h'.get? b=some o)(hT:∃o,h'.get? T=some o)(y:h8 h' a cls dx .none T):jv X H s a T cls dx H' { s' with heap:=h' }:=by
 have nT:∀b o,s.heap.get? b=some o->b≠T:=λb o e z=>by rw[z,L.fT]at e;cases e
 refine(L.os,L.bare,(λb o e n hb hx=>k b o (nT b o e) (L.un.keep b o e n hb hx),λb o e n hb hx=>?_,L.un.free,λb o e hx=>?_,L.un.jZ,L.un.jt,L.un.jd),?_,L.fa,L.fT,L.na,L.nT,y)
 ·let(sl,q):=L.un.slot b o e n hb hx;exact(sl,k b _ (nT b o e) q)
 ·let(o',q):=L.un.there b o e hx;exact(o',k b o' (nT b o e) q)
 ·exact L.aP.tracked λb o u hb q=>k b o (λz=>by rw[z,L.nT]at hb;cases hb) q
def jv.B8(L:jv X H s a T (.ref C) dx H' s')(I:Inv X pins Z H s):Inv X pins Z (upd H' a (XO a C dx)) s':=by
 have na:∀b o,s.heap.get? b=some o->b≠a:=λb o e z=>by rw[z,L.fa]at e;cases e
 have up:∀b u,H' b=some u->upd H' a (XO a C dx) b=some u:=λb u q=>(ae (bD q L.na))▸q;refine I.mI L.os (L.un.keep,L.un.slot,λb o e n hx=>?_,L.un.there,λb xs q=>up b _ (L.un.jZ b xs q),λb o u q=>up b _ (L.un.jt b o u q),λb ps q=>?_) (λb u q=>?_) L.bare λb hb=>absurd hb (by simp)
 ·rw[ae (na b o e)];exact L.un.free b o e n hx
 ·let(m,z):=L.un.jd b ps q;exact(m,up b _ z)
 ·by_cases hb:b=a
  ·subst hb;rw[ax]at q;cases q;exact XO.ok L.ex
  ·rw[ae hb]at q;exact(L.aP b u q).gU (λc v _ q=>q) (λc q=>up c _ q) λc xs q=>up c _ q
def uI(dx:Option Addr)(H:Hp):Prop:=dx=none\/∃d fs,dx=some d/\H d=some (.xd fs)
def jv.inst(L:jv X H s a T (.ref C) dx H' s')(hd:uI dx H'):∃ox od,PySem.W.InstAt s'.heap a ox C od:=by
 let(oe,vs,oT,ts,he,hc,hdx,hdt,_):=L.ex;rcases hd with e|⟨d,fs,e,hd⟩
 ·refine(oe,none,he,hc,?_,?_)
  ·unfold notCls;rw[hdt]
  ·rw[hdx,e];trivial
 ·let(o,q):=(L.aP d _ hd).there;refine(oe,some o,he,hc,?_,?_)
  ·unfold notCls;rw[hdt]
  ·rw[hdx,e];exact q
def zq{R:Shared->Prop}(hst:X.stack=X.env::X.outer)(hfr:X.env.frame=some X.env.locals)(L:jv X H s a T cls dx H' s')(I:Inv X pins Z H s)
  (h:∀T' s3,jv X H s a T' cls dx H' s3->R s3):wpAny M X.A (noteFrame (.ref a) X.env) (λ_ s2=>wpAny M X.A (setFlight (.ref a) none) (λ_ s3=>R s3) E s2) E s':=by
 have J:=L.inv I;refine ph (by rw[J.ok.frames,hst]) (hst▸J.stack) hfr L.ex λh1 x=>?_;let(T1,hT,y):=x.exc;refine gF y λh2 k hT2 z=>?_;let(T2,L2):=L.left I (hst▸x.off hT k hT2 z);exact h T2 _ L2
def iQ(I:Inv X pins Z H s)(hN:X.N.Nodup)(hi:X.N[i]?=some n)(hk:X.env.scope.names.lookup n=some .local)(h:∀s',Inv X pins (Z.set i none) H s'->Q () s'):
  wpAny M A (do bindName X.env n .none;unbindBehindTheSuite X.env n pos) Q E s:=by
 let(m,hn,hl):=id I.loc;have hcls:(X.env.scope.kind == .class || (X.env.scope.kind == .module&&X.env.locals != X.env.globals))=false:=by rw[I.ok.kind];rfl
 have hiZ:i<Z.length:=I.len▸(fA.mp hi).1;have A9:=I.A9;refine wpAny_nameGoes_keeps hk hn hcls λh' v hn' hs=>(h _ (I.ok,I.os,I.bare,(λb o e n hb hx=>?_,λb o e n hb hx=>?_,I.base.free,λb o e hx=>?_,I.base.jZ,I.base.jt,I.base.jd),(_,hn',λj y v' e1 e2 e3=>?_),λy c e=>?_,I.free,I.fE,λp hp=>?_,λb ob e=>?_,by simpa using I.len))
 ·exact (hs.2 b (fu (kA (cy e) I.ok.above))).trans (I.base.keep b o e n hb hx)
 ·let(sl,e1):=I.base.slot b o e n hb hx;exact(sl,(hs.2 b (fu (kA (cy e) I.ok.above))).trans e1)
 ·let(o',e1):=I.base.there b o e hx;exact(o',(hs.2 b (fu (kA (cy e) I.ok.above))).trans e1)
 ·by_cases hj:j=i
  ·simp_all
  ·rw[List.getElem?_set_ne (Ne.symm hj)]at e2;let(u',r',q):=hl j y v' e1 e2 e3;refine(u',r',?_);rcases q with ⟨k,e⟩|⟨k,c,e,z⟩
   ·refine .inl (k,?_);have:y≠n:=λe=>hj (mH hN e1 (e▸hi));simp[this,e]
   ·exact .inr (k,c,e,z.sameBut hs (A9 y c e))
 ·let(w',z):=I.cell y c e;exact(w',z.sameBut hs (A9 y c e))
 ·let(e,n,ne,nf,d):=I.pin p hp;exact((hs.2 p.1 ne).trans e,n,ne,nf,d)
 ·refine(I.aP b ob e).gU (λc w' hc q=>(hs.2 c ?_).trans q) (λ_ q=>q) λ_ _ q=>q;rintro rfl;have fr:=I.free;rcases hc with rfl|hc
  ·rw[fr]at e;cases e
  ·rw[fr]at hc;cases hc
end
def Xm(i:Nat)(D:Ends):Ends:={ nx:=λZ H=>D.nx (Z.set i none) H,rt:=D.rt,bk:=λZ H=>D.bk (Z.set i none) H,ct:=λZ H=>D.ct (Z.set i none) H }
def CW(K:Wf)(B:Addr)(i:Nat)(tb:A4)(th:TS):TS:=λD Z H=>
 tb D (λσ' cls dx H'=>∃C,cls=.ref C/\Catch K B C/\uI dx H'/\∀a,H' a=none->th (Xm i D) (σ'.set i (some (.ref a))) (upd H' a (XO a C dx))) Z H
def WG(K:Wf)(B:Addr)(tb:A4)(th:TS):TS:=λD Z H=>
 tb D (λσ' cls dx H'=>∃C,cls=.ref C/\Catch K B C/\uI dx H'/\th D σ' H') Z H
section
variable{X:Cx}{body suite:List Stmt}{b₀:Stmt}{x n:Str}{B:Addr}{i:Nat}{np hpos pos:Pos}{tb:A4}{th:TS}
def Fz(hst:X.stack=X.env::X.outer)(hfr:X.env.frame=some X.env.locals)(hN:X.N.Nodup)(hi:X.N[i]?=some n)(hlo:X.env.scope.names.lookup n=some .local)(hg:Gl X x)(hm:X.mg x=some (.ref B))(hb:Mf X body tb)
  (hs:∀a,n_ (X.hand a) (b₀::suite) th) (hd:(x == ("__debug__" : Str))=false:=by decide):PS X (.Try body [.ExceptHandler (some (.Name x np)) (some n) (b₀::suite) hpos] [] [] pos) (CW X.K B i tb th):=by
 intro pins s Z H D I h;refine wpAny_Try_except (jV (hb pins s Z H D _ I h) (λf s1 q=>?_) λe s1 hx=>?_)
 ·cases f with
  |next=>exact OV q
  |ret v=>exact q
  |brk=>exact q
  |cont=>exact q
 ·let(σ1,H1,s2,I1,a,T,cls,dx,H',rfl,ho,hg',u,aP,ha,hT,hHa,hHT,y,C,rfl,hcat,hdx,hth):=hx;have L:jv X H1 s2 a T (.ref C) dx H' s1:=(ho,hg',u,aP,ha,hT,hHa,hHT,y)
  refine zq hst hfr L I1 λT3 s3 L3=>?_;have J:=L3.inv I1;let(ox,od,ins):=L3.inst hdx;refine wpAny_handleBy_cons (codeAny_handlers_test (gM (J.hand a) hg hm (oH J.gG ins hcat (codeAny_handlers_suite_as (gF L3.ex λh4 k4 hT4 y4=>?_))) hd)) (by intro q;cases q);have J4:=(L3.off k4 hT4 y4).B8 I1;refine f7 (X:=X.hand a) (J4.hand a) hN hi (.inl hlo) (v:=.ref a) rfl (λs5 I5=>(Wr (bL (hs a pins s5 _ _ (Xm i D) I5 (hth a hHa)) λf s6 q=>?_))) (.inr hlo);have ok:=I.ok;cases f with
  |next=>
   let(σ',H2,I6,q):=q;exact iQ (I6.rN ok) hN hi hlo λs7 I7=>(_,H2,I7,q)
  |brk=>
   let(σ',H2,I6,q):=q;exact iQ (I6.rN ok) hN hi hlo λs7 I7=>(_,H2,I7,q)
  |cont=>
   let(σ',H2,I6,q):=q;exact iQ (I6.rN ok) hN hi hlo λs7 I7=>(_,H2,I7,q)
  |ret v=>
   let(v',σ',H2,I6,r,q):=q;exact iQ (I6.rN ok) hN hi hlo λs7 I7=>(v',_,H2,I7,r,q)
theorem zH{K:Wf}(e:X.K=K)(hst:X.stack=X.env::X.outer)(hfr:X.env.frame=some X.env.locals)(hN:X.N.Nodup)(hi:X.N[i]?=some n)(hlo:X.env.scope.names.lookup n=some .local)(hg:Gl X x)(hm:X.mg x=some (.ref B))(hb:Mf X body tb)
  (hs:∀a,n_ (X.hand a) (b₀::suite) th) (hd:(x == ("__debug__" : Str))=false:=by decide):PS X (.Try body [.ExceptHandler (some (.Name x np)) (some n) (b₀::suite) hpos] [] [] pos) (CW K B i tb th):=e▸Fz hst hfr hN hi hlo hg hm hb hs hd
end
section
variable{X:Cx}
def Sg(z:Str):Prop:=∀c∈z.cps.toList,c<16 ^ 8
def QZ(t:TE):TE:=λZ H Q=>t Z H λx H1=>∃z,x=.str z/\(reprText z).length<=sizeLine/\Q (.str (reprText z)) H1
def iM(he:PE X e t):PE X (.FormattedValue e 114 none pos) (QZ t):=by
 intro pins s Z H Q I h;refine wpAny_FormattedValue_repr (bL (he pins s Z H _ I h) λv s1 (x,H1,I1,r1,z,ez,hz,q)=>?_);subst ez;let(t',rfl):=r1;refine pyReprObj_str ?_ hz;exact formatField_str (λt'' tk=>(.str (reprText z),H1,I1.tok tk,(t'',rfl),q)) hz
def Xz(t:TE):TE:=λZ H Q=>t Z H λx H1=>(∃z,x=.str z/\z.length<=sizeLine/\Q (.str z) H1)\/∃i:Int,x=.int i/\i.natAbs.log2<1920/\Q (.str (toString i)) H1
abbrev TJ:=Str->St->Hp->VK->Prop
def PJ(X:Cx)(es:List Expr)(t:TJ):Prop:=∀(acc:Str) (pins:Lo) (s:Shared) (Z:St) (H:Hp) (Q:VK),Inv X pins Z H s->t acc Z H Q->
 wpAny 'c' X.A (joinParts acc (evalEach es X.env)) (EP X pins Z Q) X.xe s
def U8:TJ:=λacc _ H Q=>acc.length<=sizeLine/\Q (.str acc) H
def Pl(t:TE)(u:TJ):TJ:=λacc Z H Q=>t Z H λx H1=>∃y,x=.str y/\(acc++y).length<=sizeLine/\u (acc++y) Z H1 Q
theorem vL:PJ X [] U8:=λacc pins s Z H Q I h=>joinParts_nilE (joinParts_nil (.str acc,H,I.tok _,(_,rfl),h.2) h.1)
def dW(he:PE X e t)(hr:PJ X es u):PJ X (e::es) (Pl t u):=by
 intro acc pins s Z H Q I h;refine joinParts_consE (joinParts_cons (bL (he pins s Z H _ I h) λv s1 (x,H1,I1,r1,y,ey,hy,q)=>?_));subst ey;let(t',rfl):=r1;exact(hy,hr (acc++y) pins s1 Z H1 Q I1 q)
def HR(t:TJ):TE:=λZ H Q=>t Str.empty Z H Q
theorem kJ{v₁ v₂:Expr}{rest:List Expr}{pos:Pos}{t:TJ}(h:PJ X (v₁::v₂::rest) t):PE X (.JoinedStr (v₁::v₂::rest) pos) (HR t):=
 λpins s Z H Q I hw=>JoinedStr_many (h Str.empty pins s Z H Q I hw)
def rJoin(K:Wf):V->List V->Hp->VK->Prop:=λx vs H Q=>∃z a zs,x=.str z/\vs=[.ref a]/\az K H a (zs.map V.str)/\JoinOk z zs=true/\Q (.str (Txt.join z zs)) H
def Gv(K:Wf)(H:Hp)(x:V)(t:Value):Prop:=jo K H x t\/∃a C dx,x=.ref a/\t=.ref C/\H a=some (XO a C dx)/\uI dx H/\lM K C
def Tq:V->Value
 |.ref a=>.ref a
 |.ty n=>.type n
 |_=>.none
def H_:V->Bool
 |.ref _=>true
 |.ty _=>true
 |_=>false
def Ig{pins:Lo}{Z:St}{H:Hp}{s:Shared}{a C:Addr}{dx:Option Addr}(I:Inv X pins Z H s)(e:H a=some (XO a C dx))(hd:uI dx H):∃ox od,PySem.W.InstAt s.heap a ox C od:=by
 let((ob,vs,he,hc,hdx,hdt),_):=I.aP a _ e;rcases hd with e|⟨d,fs,e,hd⟩
 ·refine(ob,none,he,hc,?_,?_)
  ·unfold notCls;rw[hdt]
  ·rw[hdx,e];trivial
 ·let(o,q):=(I.aP d _ hd).there;refine(ob,some o,he,hc,?_,?_)
  ·unfold notCls;rw[hdt]
  ·rw[hdx,e];exact q
def RZ(K:Wf):List V->Hp->VK->Prop:=λxs H Q=>∃x c t b,xs=[x,c]/\H_ c=true/\Gv K H x t/\kitOne K t (Tq c)=some b/\Q (.bl b) H
def Hx(h:H_ c=true)(r:RelV c u):u=Tq c:=by
 cases c<;>first|exact r|cases h
def Et:bP X (.builtin "isinstance") (RZ X.K):=by
 intro pins s Z H xs us Q I r h;let(x,c,t,b,rfl,hc,ty,e,q):=h;let(u,u2,rfl,ru,ru2):=vals2 r;have e2:=Hx hc ru2;subst e2;rcases ty with ty|⟨a,C,dx,rfl,rfl,ha,hd,xc⟩
 ·exact qt I ru ty e λtk=>(.bl b,H,I.tok tk,rfl,q)
 ·cases ru;let(ox,od,J):=Ig I ha hd;exact kia_one (DR xc) I.gG J e (λz=>nomatch z) λtk=>(.bl b,H,I.tok tk,rfl,q)
def Yd(K:Wf):List V->Hp->VK->Prop:=λxs H Q=>∃x tp cs t b,xs=[x,.ref tp]/\H tp=some (.tup cs)/\cs.all H_=true/\Gv K H x t/\PySem.W.kitAny K t (cs.map Tq)=some b/\Q (.bl b) H
theorem Ay{K:Wf}(e:X.K=K):bP X (.builtin "isinstance") (RZ K):=e▸Et
end
section
variable{P:Program}{w:World}{K:Wf}{mg:So}{base:Heap}
def Gw.Tv{x qual:Str}{st:Stmt}{f:Addr}{fd:FuncData}{N ps:List Str}{k:Nat}{sp:Sp}(F:Gw K x qual st f fd)(S:ar N ps (ah st))(len:∀vs H Q E,sp vs H Q E->vs.length=ps.length)
  (hbody:∀(cdv:Value) (A:Around) (outer:List Env) (s:Shared) (H:Hp) (vs:List V) (Q:VK) (E:XK),cB k (A.deeper (envOfC qual (ah st) s.heap.objs.size f cdv))->sp vs H Q E->
   ∃t,n_ (k8 (vc P w) P w K mg base N qual (ah st) f cdv A outer s H E) (cO st) t/\t { nx:=λ_ H'=>Q .bw H',rt:=Q } (start N vs) H):aS P w K mg base (vc P w) (k+1) f fd ps sp:=by
 let(oc,od,kV,doc,pm,an,cdv,ct,osl,rfl,lk,hcd):=F.ex;refine D0 lk hcd S len λA outer s H vs Q E hr hsp=>?_;let(t,h,q):=hbody cdv A outer s H vs Q E hr hsp;exact(t,h,q)
end
end L2
namespace L2
theorem B9(h1:PE X e t)(h2:PE X e u):PE X e (λZ H Q=>t Z H Q\/u Z H Q):=λpins s Z H Q I h=>by
 rcases h with h|h
 ·exact h1 pins s Z H Q I h
 ·exact h2 pins s Z H Q I h
end L2
namespace L2
open PySem PySem.Spec PyProof.Rows
theorem iO(h:Sg z)(hz:z.length<=n):(reprText z).length<=10*n+2:=fF (StrLaws.reprText_len z h) (by lia)
structure ay where
 a:Addr
 at_:Int
 rule:Str
 name:Str
 add:Int
 soft:Bool
structure br where
 t:Addr
 lw:Addr
 lf:Addr
 kind:Str
 step:Int
 words:List Int
 fills:List ay
structure aq where
 a:Addr
 name:Str
 sort:Str
 st:Int
 off:Int
structure aj where
 t:Addr
 ls:Addr
 ln:Addr
 name:Str
 ba:List br
 aM:List aq
abbrev ay.v(f:ay):V:=.ref f.a
abbrev br.v(s:br):V:=.ref s.t
abbrev aq.v(n:aq):V:=.ref n.a
abbrev aj.v(p:aj):V:=.ref p.t
def ay.At(H:Hp)(f:ay):Prop:=H f.a=some (.tup [.int f.at_,.str f.rule,.str f.name,.int f.add,.bl f.soft])
def aq.At(H:Hp)(n:aq):Prop:=H n.a=some (.tup [.str n.name,.str n.sort,.int n.st,.int n.off])
structure br.At(H:Hp)(s:br):Prop where
 top:H s.t=some (.tup [.str s.kind,.int s.step,.ref s.lw,.ref s.lf])
 wd:H s.lw=some (.lst (s.words.map V.int))
 fl:H s.lf=some (.lst (s.fills.map ay.v))
 fs:∀f∈s.fills,f.At H
structure aj.At(H:Hp)(p:aj):Prop where
 top:H p.t=some (.tup [.str p.name,.ref p.ls,.ref p.ln])
 sl:H p.ls=some (.lst (p.ba.map br.v))
 nl:H p.ln=some (.lst (p.aM.map aq.v))
 ss:∀s∈p.ba,s.At H
 ns:∀n∈p.aM,n.At H
def br.lists(s:br):List Addr:=[s.lw,s.lf]
def aj.lists(p:aj):List Addr:=p.ls::p.ln::p.ba.flatMap br.lists
def bh(ps:List aj):List Addr:=ps.flatMap aj.lists
structure fK(H:Hp)(L:Addr)(ps:List aj):Prop where
 top:H L=some (.lst (ps.map aj.v))
 at_:∀p∈ps,p.At H
 nd:(L::bh ps).Nodup
theorem ay.At.mono{H H':Hp}{f:ay}(h:f.At H)(e:au H H'):f.At H':=e _ _ h
theorem aq.At.mono{H H':Hp}{n:aq}(h:n.At H)(e:au H H'):n.At H':=e _ _ h
theorem br.At.mono{H H':Hp}{s:br}(h:s.At H)(e:au H H'):s.At H':=(e _ _ h.top,e _ _ h.wd,e _ _ h.fl,λf hf=>(h.fs f hf).mono e)
theorem aj.At.mono{H H':Hp}{p:aj}(h:p.At H)(e:au H H'):p.At H':=(e _ _ h.top,e _ _ h.sl,e _ _ h.nl,λs hs=>(h.ss s hs).mono e,λn hn=>(h.ns n hn).mono e)
theorem fK.mono{H H':Hp}{L:Addr}{ps:List aj}(h:fK H L ps)(e:au H H'):fK H' L ps:=(e _ _ h.top,λp hp=>(h.at_ p hp).mono e,h.nd)
def eG(H H':Hp)(l:Addr):Prop:=(∃xs,H l=some (.lst xs))/\∀b o,H b=some o->b≠l->H' b=some o
theorem eG.upd(h:H l=some (.lst xs)):eG H (L2.upd H l o) l:=((xs,h),λb u e n=>(ae n)▸e)
def eG.tup{H H':Hp}{l a:Addr}{xs:List V}(b:eG H H' l)(h:H a=some (.tup xs)):H' a=some (.tup xs):=by
 let(ys,hl):=b.1;exact b.2 _ _ h λe=>by rw[e,hl]at h;cases h
theorem ay.At.but{H H':Hp}{l:Addr}{f:ay}(h:f.At H)(b:eG H H' l):f.At H':=b.tup h
theorem aq.At.but{H H':Hp}{l:Addr}{n:aq}(h:n.At H)(b:eG H H' l):n.At H':=b.tup h
theorem br.At.but{H H':Hp}{l:Addr}{s:br}(h:s.At H)(b:eG H H' l)(n:l∉s.lists):s.At H':=
 (b.tup h.top,b.2 _ _ h.wd λe=>n (by simp[br.lists,e]),b.2 _ _ h.fl λe=>n (by simp[br.lists,e]),λf hf=>(h.fs f hf).but b)
theorem aj.At.but{H H':Hp}{l:Addr}{p:aj}(h:p.At H)(b:eG H H' l)(n:l∉p.lists):p.At H':=
 (b.tup h.top,b.2 _ _ h.sl λe=>n (by simp[aj.lists,e]),b.2 _ _ h.nl λe=>n (by simp[aj.lists,e]),
  λs hs=>(h.ss s hs).but b λz=>n (by simp only[aj.lists,List.mem_cons];exact .inr (.inr (List.mem_flatMap.mpr (s,hs,z)))),λm hm=>(h.ns m hm).but b)
def br.At.list{H:Hp}{s:br}(h:s.At H){b:Addr}(hb:b∈s.lists):∃xs,H b=some (.lst xs):=by
 simp only[br.lists,List.mem_cons,List.not_mem_nil,or_false]at hb;rcases hb with e|e
 ·rw[e];exact(_,h.wd)
 ·rw[e];exact(_,h.fl)
def aj.At.list{H:Hp}{p:aj}(h:p.At H){b:Addr}(hb:b∈p.lists):∃xs,H b=some (.lst xs):=by
 simp only[aj.lists,List.mem_cons]at hb;rcases hb with e|e|e
 ·rw[e];exact(_,h.sl)
 ·rw[e];exact(_,h.nl)
 ·let(s,hs,z):=fU.mp e;exact(h.ss s hs).list z
def fK.list{H:Hp}{L:Addr}{ps:List aj}(h:fK H L ps){b:Addr}(hb:b∈L::bh ps):∃xs,H b=some (.lst xs):=by
 rcases eP.mp hb with e|e
 ·rw[e];exact(_,h.top)
 ·let(p,hp,z):=fU.mp e;exact(h.at_ p hp).list z
theorem fK.fresh(h:fK H L ps){b:Addr}(hb:H b=none):b∉L::bh ps:=λz=>by
 let(xs,e):=h.list z;rw[hb]at e;cases e
def i5(ps:List aj)(p:aj):bh (ps++[p])=bh ps++p.lists:=by simp[bh,List.flatMap_append]
def fK.apart(h:fK H L (ps++[p])):(∀q∈ps,∀b∈p.lists,b∉q.lists)/\p.lists.Nodup/\L∉p.lists/\∀q∈ps,L∉q.lists:=by
 have n:=h.nd;rw[i5]at n;let(n1,n2):=i_.mp n;let(n3,n4,n5):=i6.mp n2;refine(λq hq b hb z=>n5 b (fU.mpr (q,hq,z)) b hb rfl,n4,λz=>n1 (eW _ z),λq hq z=>n1 (eD _ (fU.mpr (q,hq,z))))
theorem fK.nil(h:H L=some (.lst [])):fK H L []:=(h,λp hp=>absurd hp (by simp),by simp[bh])
def fK.Fd(h:fK H L ps)(h1:H t=some (.tup [.str nm,.ref ls,.ref ln]))(h2:H ls=some (.lst []))(h3:H ln=some (.lst []))(n1:ls≠ln)
  (n2:ls∉L::bh ps) (n3:ln∉L::bh ps):fK (upd H L (.lst (ps.map aj.v++[.ref t]))) L (ps++[(t,ls,ln,nm,[],[])]):=by
 have b:eG H (upd H L (.lst (ps.map aj.v++[.ref t]))) L:=eG.upd h.top;have nL:=(i_.mp h.nd).1;refine(by rw[ax];simp,λp hp=>?_,?_)
 ·rcases bT.mp hp with z|z
  ·exact(h.at_ p z).but b λq=>nL (fU.mpr (p,z,q))
  ·have e:=bU.mp z;subst e;refine(b.tup h1,b.2 _ _ h2 λ(e:ls=L)=>n2 (e▸mm),b.2 _ _ h3 λ(e:ln=L)=>n3 (e▸mm),λs hs=>absurd hs (by simp),λn hn=>absurd hn (by simp))
 ·rw[i5];show(L::(bh ps++[ls,ln])).Nodup;rw[<-NZ];refine i6.mpr (h.nd,by simp[n1],λx hx y hy e=>?_);subst e;simp only[List.mem_cons,List.not_mem_nil,or_false]at hy;rcases hy with e|e
  ·subst e;exact n2 hx
  ·subst e;exact n3 hx
def fK.last(h:fK H L (ps++[p]))(hl:l∈p.lists)(ht:p'.t=p.t)(hp:p'.At (upd H l o))(hn:(L::bh (ps++[p'])).Nodup):fK (upd H l o) L (ps++[p']):=by
 let(a1,a2,a3,a4):=h.apart;let(xs,hx):=(h.at_ p (by simp)).list hl;have b:eG H (upd H l o) l:=eG.upd hx;refine(?_,λq hq=>?_,hn)
 ·rw[b.2 _ _ h.top λe=>a3 (by rw[e];exact hl)];simp[aj.v,ht]
 ·rcases bT.mp hq with z|z
  ·exact(h.at_ q (eD _ z)).but b (a1 q z l hl)
  ·rw[bU.mp z];exact hp
def fK.w6{H:Hp}{L t lw lf:Addr}{kind:Str}{step:Int}{ps:List aj}{p:aj}(h:fK H L (ps++[p]))(h1:H t=some (.tup [.str kind,.int step,.ref lw,.ref lf]))(h2:H lw=some (.lst []))(h3:H lf=some (.lst []))
  (n1:lw≠lf) (n2:lw∉L::bh (ps++[p])) (n3:lf∉L::bh (ps++[p])):
  fK (upd H p.ls (.lst (p.ba.map br.v++[.ref t]))) L (ps++[{ p with ba:=p.ba++[(t,lw,lf,kind,step,[],[])] }]):=by
 have hp:=h.at_ p (by simp);let(a1,a2,a3,a4):=h.apart;have b:eG H (upd H p.ls (.lst (p.ba.map br.v++[.ref t]))) p.ls:=eG.upd hp.sl;have in1:∀x,x∈p.lists->x∈L::bh (ps++[p]):=λx hx=>jQ _ (by rw[i5];exact eW _ hx);have hls:p.ls∈p.lists:=by simp[aj.lists]
 have nd:p.ls≠p.ln/\p.ls∉p.ba.flatMap br.lists:=by
  have:=a2;simp only[aj.lists,List.nodup_cons,List.mem_cons,not_or]at this;exact this.1
 refine h.last hls rfl (b.tup hp.top,by rw[ax];simp,b.2 _ _ hp.nl (Ne.symm nd.1),λs hs=>?_,λn hn=>(hp.ns n hn).but b) ?_
 ·rcases bT.mp hs with z|z
  ·exact(hp.ss s z).but b λq=>nd.2 (fU.mpr (s,z,q))
  ·have e:=bU.mp z;subst e;exact(b.tup h1,b.2 _ _ h2 λ(e:lw=p.ls)=>n2 (in1 _ (e▸hls)),b.2 _ _ h3 λ(e:lf=p.ls)=>n3 (in1 _ (e▸hls)),λf hf=>absurd hf (by simp))
 ·have e:L::bh (ps++[{ p with ba:=p.ba++[(t,lw,lf,kind,step,[],[])] }])=(L::bh (ps++[p]))++[lw,lf]:=by
   rw[i5,i5];simp[aj.lists,br.lists,List.flatMap_append]
  rw[e];refine i6.mpr (h.nd,by simp[n1],λx hx y hy e=>?_);subst e;simp only[List.mem_cons,List.not_mem_nil,or_false]at hy;rcases hy with e|e
  ·subst e;exact n2 hx
  ·subst e;exact n3 hx
def fK.Im(h:fK H L (ps++[p]))(h1:n.At H):fK (upd H p.ln (.lst (p.aM.map aq.v++[n.v]))) L (ps++[{ p with aM:=p.aM++[n] }]):=by
 have hp:=h.at_ p (by simp);let(a1,a2,a3,a4):=h.apart;have b:eG H (upd H p.ln (.lst (p.aM.map aq.v++[n.v]))) p.ln:=eG.upd hp.nl;have hln:p.ln∈p.lists:=by simp[aj.lists]
 have nd:p.ls≠p.ln/\p.ln∉p.ba.flatMap br.lists:=by
  have:=a2;simp only[aj.lists,List.nodup_cons,List.mem_cons,not_or]at this;exact(this.1.1,this.2.1)
 refine h.last hln rfl (b.tup hp.top,b.2 _ _ hp.sl nd.1,by rw[ax];simp,λs hs=>(hp.ss s hs).but b λq=>nd.2 (List.mem_flatMap.mpr (s,hs,q)),λm hm=>?_) ?_
 ·rcases bT.mp hm with z|z
  ·exact(hp.ns m z).but b
  ·rw[bU.mp z];exact h1.but b
 ·have:=h.nd;rw[i5]at this ⊢;exact this
def fK.mC(h:fK H L (ps++[p]))(e:p.ba=ss++[s]):s.lw∈p.lists/\s.lf∈p.lists/\s.lw≠s.lf/\(∀b∈s.lists,b≠p.ls/\b≠p.ln/\∀r∈ss,b∉r.lists):=by
 let(a1,a2,a3,a4):=h.apart;have hs:s∈p.ba:=by rw[e];simp
 have m:∀b∈s.lists,b∈p.ba.flatMap br.lists:=λb hb=>fU.mpr (s,hs,hb);have m':∀b∈s.lists,b∈p.lists:=λb hb=>by simp only[aj.lists,List.mem_cons];exact .inr (.inr (m b hb))
 simp only[aj.lists,List.nodup_cons,List.mem_cons,not_or]at a2;let((_,b1),b2,b3):=a2;rw[e,oJ]at b3;let(_,c2,c3):=i6.mp b3;have c2':s.lists.Nodup:=by simpa using c2
 refine(m' _ (by simp[br.lists]),m' _ (by simp[br.lists]),?_,λb hb=>(λz=>b1 (z▸m b hb),λz=>b2 (z▸m b hb),λr hr z=>c3 b (List.mem_flatMap.mpr (r,hr,z)) b (by simpa using hb) rfl));simpa [br.lists] using c2'
def fK.GR(h:fK H L (ps++[p]))(e:p.ba=ss++[s])(h1:f.At H):
  fK (upd H s.lf (.lst (s.fills.map ay.v++[f.v]))) L (ps++[{ p with ba:=ss++[{ s with fills:=s.fills++[f] }] }]):=by
 have hp:=h.at_ p (by simp);let(m1,m2,n1,n2):=h.mC e;have hs:s.At H:=hp.ss s (by rw[e];simp);have b:eG H (upd H s.lf (.lst (s.fills.map ay.v++[f.v]))) s.lf:=eG.upd hs.fl;let(q1,q2,q3):=n2 s.lf (by simp[br.lists]);refine h.last m2 rfl (b.tup hp.top,?_,b.2 _ _ hp.nl (Ne.symm q2),λr hr=>?_,λn hn=>(hp.ns n hn).but b) ?_
 ·rw[b.2 _ _ hp.sl (Ne.symm q1),e];simp[br.v]
 ·rcases bT.mp hr with z|z
  ·exact(hp.ss r (by rw[e];exact eD _ z)).but b (q3 r z)
  ·have er:=bU.mp z;subst er;refine(b.tup hs.top,b.2 _ _ hs.wd n1,by rw[ax];simp,λg hg=>?_);rcases bT.mp hg with y|y
   ·exact(hs.fs g y).but b
   ·rw[bU.mp y];exact h1.but b
 ·have:=h.nd;rw[i5]at this ⊢;simp only[aj.lists,e,List.flatMap_append]at this ⊢;exact this
def fK.xV(h:fK H L (ps++[p]))(e:p.ba=ss++[s]):
  fK (upd H s.lw (.lst (s.words.map V.int++[.int i]))) L (ps++[{ p with ba:=ss++[{ s with words:=s.words++[i] }] }]):=by
 have hp:=h.at_ p (by simp);let(m1,m2,n1,n2):=h.mC e;have hs:s.At H:=hp.ss s (by rw[e];simp);have b:eG H (upd H s.lw (.lst (s.words.map V.int++[.int i]))) s.lw:=eG.upd hs.wd;let(q1,q2,q3):=n2 s.lw (by simp[br.lists]);refine h.last m1 rfl (b.tup hp.top,?_,b.2 _ _ hp.nl (Ne.symm q2),λr hr=>?_,λn hn=>(hp.ns n hn).but b) ?_
 ·rw[b.2 _ _ hp.sl (Ne.symm q1),e];simp[br.v]
 ·rcases bT.mp hr with z|z
  ·exact(hp.ss r (by rw[e];exact eD _ z)).but b (q3 r z)
  ·have er:=bU.mp z;subst er;exact(b.tup hs.top,by rw[ax];simp,b.2 _ _ hs.fl (Ne.symm n1),λg hg=>(hs.fs g hg).but b)
 ·have:=h.nd;rw[i5]at this ⊢;simp only[aj.lists,e,List.flatMap_append]at this ⊢;exact this
def ay.d(f:ay):D:=.tup [.int f.at_,.str f.rule,.str f.name,.int f.add,.bl f.soft]
def br.d(s:br):D:=.tup [.str s.kind,.int s.step,.lst (s.words.map D.int),.lst (s.fills.map ay.d)]
def aq.d(n:aq):D:=.tup [.str n.name,.str n.sort,.int n.st,.int n.off]
def aj.d(p:aj):D:=.tup [.str p.name,.lst (p.ba.map br.d),.lst (p.aM.map aq.d)]
theorem RepL.map{K:Wf}{H:Hp}{α:Type}{f:α->D}{g:α->V}:∀{xs:List α},(∀x∈xs,Rep K H (f x) (g x))->RepL K H (xs.map f) (xs.map g)
 |[],_=>by simp[RepL]
 |x::xs,h=>by
  simp only[List.map_cons,RepL];exact(_,_,rfl,h x (mm ..),RepL.map λy hy=>h y (jQ _ hy))
def ay.At.rep{K:Wf}{H:Hp}{f:ay}(h:f.At H):Rep K H f.d f.v:=by
 simp only[ay.d,Rep];exact(_,_,rfl,bc.of h,by simp[RepL,Rep])
def aq.At.rep{K:Wf}{H:Hp}{n:aq}(h:n.At H):Rep K H n.d n.v:=by
 simp only[aq.d,Rep];exact(_,_,rfl,bc.of h,by simp[RepL,Rep])
def br.At.rep{K:Wf}{H:Hp}{s:br}(h:s.At H):Rep K H s.d s.v:=by
 simp only[br.d,Rep];refine(_,_,rfl,bc.of h.top,?_);simp only[RepL,Rep];exact(_,_,rfl,rfl,_,_,rfl,rfl,_,_,rfl,(_,_,rfl,az.of h.wd,RepL.ints _),_,_,rfl,(_,_,rfl,az.of h.fl,RepL.map λf hf=>(h.fs f hf).rep),rfl)
def aj.At.rep{K:Wf}{H:Hp}{p:aj}(h:p.At H):Rep K H p.d p.v:=by
 simp only[aj.d,Rep];refine(_,_,rfl,bc.of h.top,?_);simp only[RepL,Rep];exact(_,_,rfl,rfl,_,_,rfl,(_,_,rfl,az.of h.sl,RepL.map λs hs=>(h.ss s hs).rep),_,_,rfl,(_,_,rfl,az.of h.nl,RepL.map λn hn=>(h.ns n hn).rep),rfl)
theorem cG{α:Type}{f:α->D}{n:Nat}:∀{xs:List α},(∀x∈xs,dep (f x)<=n)->depL (xs.map f)<=n
 |[],_=>by simp[depL]
 |x::xs,h=>by
  simp only[List.map_cons,depL];exact Nat.max_le.mpr (h x (mm ..),cG λy hy=>h y (jQ _ hy))
def C0(f:ay):dep f.d<=1:=by simp[ay.d,dep,depL]
def Eb(n:aq):dep n.d<=1:=by simp[aq.d,dep,depL]
def El(s:br):dep s.d<=3:=by
 have h1:depL (s.words.map D.int)<=0:=cG λx _=>by simp[dep]
 have h2:depL (s.fills.map ay.d)<=1:=cG λx _=>C0 x;simp only[br.d,dep,depL];lia
def sD(p:aj):dep p.d<=5:=by
 have h1:depL (p.ba.map br.d)<=3:=cG λx _=>El x;have h2:depL (p.aM.map aq.d)<=1:=cG λx _=>Eb x;simp only[aj.d,dep,depL];lia
def nU(ds:List D):deqL ds []=decide (ds=[]):=by cases ds<;>simp[deqL]
def fK.rep{K:Wf}{H:Hp}{L:Addr}{ps:List aj}(h:fK H L ps):Rep K H (.lst (ps.map aj.d)) (.ref L):=by
 simp only[Rep];exact(_,_,rfl,az.of h.top,RepL.map λp hp=>(h.at_ p hp).rep)
def br.core(s:br):Str×Int×List Int×List ay:=⟨s.kind,s.step,s.words,s.fills⟩
structure aj.Ii(p q:aj):Prop where
 name:q.name=p.name
 aM:q.aM=p.aM
 ba:q.ba.map br.core=p.ba.map br.core
end L2
namespace L2
open PySem PySem.Spec PyProof.Rows PySem.W
abbrev VE:List Value:=[.type "ValueError", .type "Exception", .type "BaseException", .type "object"]
def ownInit(K:Frag)(C fI:Addr):Bool:=
 match K.lookup C with
 |none=>false
 |some ob=>
  match ob.cls,ob.data,ob.slots.toList with
  |.type "type", .cls cd,[_,_,_,_,some (.builtin n),_]=>
   (match cd.mro with
    |.ref C'::bm=>C' == C&&(n == "ValueError.__new__" && (!cd.hasDel&&(tailIn K VE bm&&(nsOkIn K cd.ns&&(cd.hasDict&&nsIn K cd.ns "__init__" == some (some (.ref fI)))))))
    |_=>false)
  |_,_,_=>false
def Nx{K:Frag}{h:Heap}{N:Addr}{m:So}{n:Str}{v:Value}(X:K.In h)(G:h.Ns N m)(e:nsIn K N n=some (some v)):m n=some v:=by
 let(o,es,ep,ho,hd,_,hf):=G;unfold nsIn at e;split at e
 ·rename_i c d es' n' sl q;have z:=X _ _ q;rw[ho]at z;cases z;cases hd;split at e
  ·rename_i en he;cases e;rw[<-hf];unfold nsFind findBy;rw[<-Array.find?_toList,he];rfl
  ·split at e<;>cases e
 ·cases e
def s_{K:Frag}{h:Heap}{C fI:Addr}(X:K.In h)(q:ownInit K C fI=true):
  ∃bm N nm q bs sn sub ab col dd k0 k1 k2 k3 k5 mN,h.get? C=some (excClassObj nm q C N bs bm true sn sub ab col dd k0 k1 k2 k3 k5 "ValueError.__new__")/\h.Ns N mN/\mN "__init__" = some (.ref fI)/\OwnTail h VE bm:=by
 unfold ownInit at q;split at q
 ·cases q
 ·rename_i ob ho;split at q
  ·rename_i cd _ _ _ _ n _ hc hd hs;split at q
   ·rename_i C' bm hm;simp only[Bool.and_eq_true,beq_iff_eq,Bool.not_eq_true']at q;let(rfl,rfl,hdel,ht,aP,hdi,hni):=q;let(oc,odi,oda,osl):=ob;dsimp only at hc hd hs;subst hc hd;let(nm,bs,mro,ns,qn,hdd,sn,sub,ab,col,del):=cd;dsimp only at hm hdel aP hni hdi;subst hm hdel hdi;let⟨l⟩:=osl;simp only at hs;subst hs;refine(bm,ns,nm,qn,bs,sn,sub,ab,col,odi,_,_,_,_,_,_,X _ _ ho,.of_isNs (isNs_of_in X aP),?_,PySem.W.tail_of_in X ht);exact Nx X (.of_isNs (isNs_of_in X aP)) hni
   ·cases q
  ·cases q
section
variable{prog:Program}{w:World}{A:Around}{E:Vs}{h:Heap}{g:Array GenState}{d:Drawn}{t:Nat}{os:OsState}
variable{nm q:Str}{C N:Addr}{bs bm bmB:List Value}{hdct:Bool}{sn:List Str}{sub:List Value}{ab:Bool}{col:Option Bool}{dd:Option Addr}{k0 k1 k2 k3 k5:Option Value}{B newId initId:String}
def mq(F:ExcBaseFacts B newId initId bmB)(T:OwnTail h bmB bm){mN:So}{rest:List Value}{fI:Addr}{oI:Obj}{Q:Fin->Shared->Prop}
  (hC:h.get? C=some (excClassObj nm q C N bs bm hdct sn sub ab col dd k0 k1 k2 k3 k5 newId)) (hn:h.Ns N mN) (hi:mN "__init__" = some (.ref fI))
  (hfI:h.get? fI=some oI) (hfc:oI.cls=.type "function")
  (hq:∀h' e,h.objs.size<=e->Heap.MadeExcOf h h' e (.ref C) rest->
   wpAny 'b' A (call (.ref fI) (.ref e::rest)) (λr s'=>r=.none/\Q (.done (.ret (.ref e))) s') E (h',g,d,t,os)) (hrest:rest.length<=sizeLine):
  wpAny 'b' A (Builtin.«type.__call__» (.ref C::rest,[])) Q E (h,g,d,t,os):=by
 repeat (first|with_reducible refine Qb hC ?_|with_reducible refine wpAny_madeBy_exc hC ?_|wp_step)
 refine codeAny_call_builtin_code (Code.quiet_builtin _ F.quiet) (wpAny_check_new_subT F T hC ?_);refine codeAny_exc_new_subT F T hC ?_ hrest;show wpAny _ _ _ _ _ _;have up:∀b o,h.get? b=some o->((h.push { cls:=.type "tuple", data:=.seq rest.toArray }).push { cls:=.ref C,data:=.fields #[.ref h.objs.size,.none,.none,.none,.bool false,.none] }).get? b=some o:=
  λb o e=>cV _ (cV _ e)
 have hC₁:=up _ _ hC;have hfI₁:=up _ _ hfI;have hn₁:=hn.keeps up;have hget:((h.push { cls:=.type "tuple", data:=.seq rest.toArray }).push
   { cls:=.ref C,data:=.fields #[.ref h.objs.size,.none,.none,.none,.bool false,.none] }).get? (h.objs.size+1)=some
   { cls:=.ref C,data:=.fields #[.ref h.objs.size,.none,.none,.none,.bool false,.none] }:=by heap_get
 have hcC:(Value.ref C::bm).contains (.ref C)=true:=by simp
 unfold isInstance
 repeat (first|with_reducible refine Qb hget ?_|(with_reducible refine wpAny_isSubtype_exc hC₁ ?_;rw[hcC])|wp_step)
 show wpAny _ _ (typeLookup (.ref C) _) _ _ _;refine wpAny_typeLookup_tail hC₁ hn₁ (T.keeps up) F.mroIs F.init.lookup ?_;rw[hi];refine uB (aB ?_);unfold bindSpecial;refine aB (wpAny_typeOf (T := "function") (_,hfI₁,hfc) ?_);rw[if_pos (by decide)];refine bp (aB (jV (hq _ (h.objs.size+1) (xS _) (up,Heap.get?_none_of_le (xS _),h.objs.size,hget,Heap.get?_none_of_le (bJ _),?_)) (λr s' hr=>?_) λ_ _ x=>x))
 ·exact cV _ (Heap.get?_push_at rfl rfl)
 ·let(rfl,hQ):=hr
  wp_walk
  exact hQ
def zI(F:ExcBaseFacts B newId initId bmB)(T:OwnTail h bmB bm){mN:So}{rest:List Value}{fI:Addr}{oI:Obj}{Q:Vs}
  (hC:h.get? C=some (excClassObj nm q C N bs bm hdct sn sub ab col dd k0 k1 k2 k3 k5 newId)) (hn:h.Ns N mN) (hi:mN "__init__" = some (.ref fI))
  (hfI:h.get? fI=some oI) (hfc:oI.cls=.type "function")
  (hq:∀h' e,h.objs.size<=e->Heap.MadeExcOf h h' e (.ref C) rest->
   wpAny 'b' (A.under (.builtin "type.__call__" (.ref C::rest,[]))) (call (.ref fI) (.ref e::rest)) (λr s'=>r=.none/\Q (.ref e) s') E (h',g,d,t,os)) (hrest:rest.length<=sizeLine):
  wpAny 'b' A (call (.ref C) rest) Q E (h,g,d,t,os):=by
 have f1:=tc_lookup;have f2:=tc_bind (.ref C);have hT:((h,g,d,t,os):Shared).TypeIs (.ref C) "type" := (_,hC,rfl)
 refine Gm (codeAny_of_tree ?_);show wpAny _ _ (callAny (.ref C) _) _ _ _
 repeat (any_goals (first|assumption|with_reducible refine Qb hC ?_|wp_step))
 refine(rfl,?_);refine codeAny_call_builtin_at (Code.quiet_builtin _ 'e') entry_typeCall (wpAny_check_type_call_sub hC (mq (hrest:=hrest) F T hC hn hi hfI hfc λh' e hz hm=>?_));exact hq h' e hz hm
def Ag(F:ExcBaseFacts B newId initId bmB)(T:OwnTail h bmB bm){e:Addr}{oe:Obj}{vs:Array Value}{v0:Value}{rest:List Value}{Q:Vs}
  (hC:h.get? C=some (excClassObj nm q C N bs bm hdct sn sub ab col dd k0 k1 k2 k3 k5 newId)) (he:h.get? e=some oe) (hcls:oe.cls=.ref C) (hd:oe.data=.fields vs) (h0:vs[0]?=some v0)
  (hq:∀h' T,(∀b o,b≠e->h.get? b=some o->h'.get? b=some o)->h'.get? e=some { oe with data:=.fields (vs.setIfInBounds 0 T) }->Q .none (h',g,d,t,os)) (hrest:rest.length<=sizeLine):
  wpAny 'b' A (call (.builtin initId) (.ref e::rest)) Q E (h,g,d,t,os):=by
 refine Gm (codeAny_call_builtin F.init.plain F.initEntry (wpAny_check_init_subT F T hC he hcls ?_));have he1:=cV { cls:=.type "tuple", data:=.seq rest.toArray } he;have hsz:=(O0.mp h0).1;unfold Builtin.«BaseException.__init__»
 repeat (first|with_reducible refine GJ he1 hd h0 ?_|with_reducible refine Ks he1 hd hsz ?_|wp_step)
 have hd3:(Obj.mapFields (·.setIfInBounds 0 (Value.ref h.objs.size)) oe).data=.fields (vs.setIfInBounds 0 (Value.ref h.objs.size)):=Obj.data_mapFields hd _;have e3:=AV (Obj.mapFields (·.setIfInBounds 0 (Value.ref h.objs.size))) he1 (Obj.isFreed_of_fields hd3);have e4:Obj.mapFields (·.setIfInBounds 0 (Value.ref h.objs.size)) oe={ oe with data:=.fields (vs.setIfInBounds 0 (Value.ref h.objs.size)) }:=by
  let(oc,od,oda,osl):=oe;dsimp only at hd;subst hd;rfl
 rw[e4]at e3;have fin:=hq _ (.ref h.objs.size) (λb o hb ho=>by rw[A0 _ _ (Ne.symm hb)];exact cV _ ho) e3;cases v0<;>repeat (first|exact fin|(unfold letGo;done)|with_reducible exact wpAny_holding (wpAny_point (wpAny_pure ?_))|wp_step)
end
def lV:List Value->Bool
 |.ref _::r=>lV r
 |l=>l == VE
def nF(K:Frag)(C:Addr):Bool:=(clsIn K C).any λcd=>cd.hasDict&&lV cd.mro
theorem m8(self:Value):∀{l:List Value},lV l=true->refuseLoop self "__setattr__" l=pure ()
 |.ref c::r,e=>by rw[refuseLoop_ref];exact m8 self (l:=r) e
 |[],e=>by cases (show([]:List Value)=VE from beq_iff_eq.mp e)
 |.type n::r,e=>by rw[show(Value.type n::r)=VE from beq_iff_eq.mp e];exact PySem.F.store_ValueError.passes self
 |.none::r,e=>nomatch (show(Value.none::r)=VE from beq_iff_eq.mp e)
 |.bool b::r,e=>nomatch (show(Value.bool b::r)=VE from beq_iff_eq.mp e)
 |.int b t::r,e=>nomatch (show(Value.int b t::r)=VE from beq_iff_eq.mp e)
 |.str b t::r,e=>nomatch (show(Value.str b t::r)=VE from beq_iff_eq.mp e)
 |.bytes b t::r,e=>nomatch (show(Value.bytes b t::r)=VE from beq_iff_eq.mp e)
 |.float b t::r,e=>nomatch (show(Value.float b t::r)=VE from beq_iff_eq.mp e)
 |.builtin b::r,e=>nomatch (show(Value.builtin b::r)=VE from beq_iff_eq.mp e)
theorem xU:∀{l:List Value},lV l=true->l.contains 'D'=true
 |.ref c::r,e=>by rw[List.contains_cons,xU (l:=r) e,Bool.or_true]
 |[],e=>by cases (show([]:List Value)=VE from beq_iff_eq.mp e)
 |.type n::r,e=>by rw[show(Value.type n::r)=VE from beq_iff_eq.mp e];decide
 |.none::r,e=>nomatch (show(Value.none::r)=VE from beq_iff_eq.mp e)
section
variable{prog:Program}{w:World}{A:Around}{E:Vs}{s:Shared}{K:Frag}{x C:Addr}{R:Result->Shared->Prop}
def xJ(X:K.In s.heap)(I:InstAt s.heap x ox C od)(hp:nF K C=true)(hf:findIn K (.ref C) name=some none)
  (h:wpAny 'b' A.in1 (Builtin.ObjectAttr.storeInOwnDict (.ref x) (.ref C) (.str name tk) name v false)
   (λfin s'=>match fin with | .done f=>R (.ok f) s' | .again c'=>c'.quiet=true/\codeAny 'b' A c' R s') (λe s'=>R (.error e) s') s):
  codeAny 'b' A (.call (.builtin "object.__setattr__") ([.ref x,.str name tk,v],[])) R s:=by
 have SF:=PySem.F.store_object;let(cd,hc,ho):=any_some hp;rw[lH]at ho;let(_,ho):=ho;have ne:cd.mro.isEmpty=false:=by cases q:cd.mro with|nil=>rw[q]at ho;cases ho|cons _ _=>rfl
 have sub:Looks 'b' s.heap (isInstance (.ref x) 'D') true:=I.type.andThen (looks_mroIn X (by unfold mroIn;rw[hc,Option.bind_some,if_neg (by rw[ne];decide),xU ho]));refine codeAny_call_builtin SF.slot.plain SF.entry (@check_slot 'b' _ _ s "object.__setattr__" "object" "__setattr__" (.ref x) [.str name tk,v] [] _ SF.kind SF.split sub (SF.args (.ref x) (.str name tk) v) ?_);have hm:Looks 'b' s.heap (mroOf (.ref C)) cd.mro:=(looks_clsIn X hc).andThen .now;rw[osa_eq,refuse_eq];refine aB (aB (I.type.here (aB (hm.here ?_))));rw[m8 _ ho];refine bp (aB (I.type.here (aB ((looks_findIn X hf).here (aB (bp ?_))))));exact h
def FG(X:K.In s.heap)(hx:s.heap.get? x=some ox)(hcl:ox.cls=.ref C)(hdn:ox.dict=none)(hda:ox.data=.fields vs)(hp:nF K C=true)
  (hs:findIn K (.ref C) "__setattr__" = some (some (.builtin "object.__setattr__"))) (hf:findIn K (.ref C) name=some none)
  (h:∀h' tk,h'.get? x=some { ox with dict:=some s.heap.objs.size }->h'.Ns1 s.heap.objs.size (λy=>if y=name then some v else none)->(∀b o,b≠x->s.heap.get? b=some o->h'.get? b=some o)->Q () { s with heap:=h',toks:=tk }):
  wpAny 'b' A (setAttr (.ref x) name v) Q E s:=by
 let(hh,g,d,t,os):=s;have J:InstAt hh x ox C none:=(hx,hcl,by unfold notCls;rw[hda],by rw[hdn];trivial)
 refine set_plain X J hs (xJ (s:=(hh,g,d,t+1,os)) X J hp hf ?_);let(cd,hc,ho):=any_some hp;rw[lH]at ho;refine aB (bp (aB (aB (wpAny_loadPart hx ?_))));rw[hcl];refine aB (Looks.here (s:=(hh,g,d,t+1,os)) (looks_clsIn X hc) ?_);rw[ho.1,hdn,hda];rw[if_neg (by decide)];dsimp only;rw[if_neg (by simp[typeHasDict])];have hx₁:(hh.push { cls:=.type "dict", data:=.dict #[] }).get? x=some ox:=cV _ hx;have hxs:x≠hh.objs.size:=fu (cy hx);refine aB (wpAny_alloc' ?_);refine aB (wpAny_update' hx₁ ?_);refine bp ?_;have hgd:((hh.push { cls:=.type "dict", data:=.dict #[] }).update x λo=>{ cls:=o.cls,dict:=some hh.objs.size,data:=o.data,slots:=o.slots }).get? hh.objs.size
   = some { cls:=.type "dict", data:=.dict #[] }:=(K7 _ _ _ _ hxs.symm).trans (Heap.get?_push_at rfl rfl)
 have hnd:((hh.push { cls:=.type "dict", data:=.dict #[] }).update x λo=>{ cls:=o.cls,dict:=some hh.objs.size,data:=o.data,slots:=o.slots }).Ns hh.objs.size (λ_=>none):=
  (_,#[],_,hgd,rfl,λe he=>absurd he (by simp),λ_=>rfl)
 show wpAny _ _ (Builtin.ObjectAttr.storeInDict hh.objs.size (.str name t) name v) _ _ _;unfold Builtin.ObjectAttr.storeInDict Builtin.ObjectAttr.newKeyGuard;refine aB (bp (aB (wpAny_nsSet1 (Heap.Ns1.of_empty hnd) λh' hn' hs=>?_)));let(oD,esD,epD,hoD,hdD,hcD):=hn'.count (Within.cons name v Within.nil);refine aB (wpAny_lookBehind hoD (by rw[hdD];exact pastItsLine_dict (fF hcD (by rw[oY,List.length_nil,sizeLine_eq];lia))) ?_);refine bp (h h' _ ?_ hn' λb o hb hbo=>?_)
 ·refine(hs.2 x hxs).trans (AV _ hx₁ ?_);let(oc,od,odt,osl):=ox;dsimp only at hda;subst hda;rfl
 ·exact(hs.2 b (fu (cy hbo))).trans ((K7 _ _ _ _ hb).trans (cV _ hbo))
def FY{ox:Obj}{dx:Addr}{mA:So}{vs:Array Value}{name:Str}{v:Value}{ns:List Str}{Q:Unit->Shared->Prop}(X:K.In s.heap)(hx:s.heap.get? x=some ox)(hcl:ox.cls=.ref C)(hdn:ox.dict=some dx)(hda:ox.data=.fields vs)
  (hns:s.heap.Ns1 dx mA) (hp:nF K C=true) (hs:findIn K (.ref C) "__setattr__" = some (some (.builtin "object.__setattr__"))) (hf:findIn K (.ref C) name=some none) (hw:Within mA ns) (hsz:ns.length<=sizeLine)
  (h:∀h' tk,h'.Ns1 dx (λy=>if y=name then some v else mA y)->Heap.SameBut dx s.heap h'->Q () { s with heap:=h',toks:=tk }):
  wpAny 'b' A (setAttr (.ref x) name v) Q E s:=by
 let(hh,g,d,t,os):=s;let(oD,_,_,hoD,_):=id hns;have J:InstAt hh x ox C (some oD):=(hx,hcl,by unfold notCls;rw[hda],by rw[hdn];exact hoD)
 refine set_plain X J hs (xJ (s:=(hh,g,d,t+1,os)) X J hp hf ?_);let(cd,hc,ho):=any_some hp;rw[lH]at ho;refine aB (bp (aB (aB (wpAny_loadPart hx ?_))));rw[hcl];refine aB (Looks.here (s:=(hh,g,d,t+1,os)) (looks_clsIn X hc) ?_);rw[ho.1,hdn];rw[if_neg (by decide)];refine bp ?_;show wpAny _ _ (Builtin.ObjectAttr.storeInDict dx (.str name t) name v) _ _ _;unfold Builtin.ObjectAttr.storeInDict Builtin.ObjectAttr.newKeyGuard;refine aB (bp (aB (wpAny_nsSet1 hns λh' hn' hs=>?_)));let(oD,esD,epD,hoD,hdD,hcD):=hn'.count (Within.cons name v hw);refine aB (wpAny_lookBehind hoD (by rw[hdD];exact pastItsLine_dict (fF hcD (by rw[oY];lia))) ?_);exact bp (h h' _ hn' hs)
end
end L2
namespace L2
open PySem PySem.Spec PyProof.Rows PySem.W
section
variable{M:Model}{A:Around}{E:Vs}{env:Env}
variable{nm q:Str}{C N:Addr}{bs bm:List Value}{hdct:Bool}{sn:List Str}{sub:List Value}{ab:Bool}{col:Option Bool}{dd:Option Addr}{k0 k1 k2 k3 k5:Option Value}{newId:String}
def xF(hbase:bm.contains (.type "BaseException")=true)(hh:A.handled=none)
  (h:wpAny M A x (λv s₁=>∃e oe vs,v=.ref e/\s₁.heap.get? C=some (excClassObj nm q C N bs bm hdct sn sub ab col dd k0 k1 k2 k3 k5 newId)/\
   s₁.heap.get? e=some oe/\oe.cls=.ref C/\oe.data=.fields vs/\vs[1]?=some .none/\E (.ref e) s₁) E s):
  wpAny M A (raiseStmt env (some x) none) Q E s:=by
 have hcB:(Value.ref C::bm).contains (.type "BaseException")=true:=by rw[List.contains_cons,hbase,Bool.or_true]
 unfold raiseStmt;refine aB (jV h (λv s₁ h₁=>?_) λ_ _ x=>x);let(e,oe,vs,rfl,hC,he,hcls,hd,h1,hE):=h₁;let(hp,g,d,tk,os):=s₁;let(oc,odi,oda,osl):=oe;dsimp only at hcls hd;subst hcls hd
 repeat (first|with_reducible refine Qb he ?_|with_reducible refine Qb hC ?_|(with_reducible refine wpAny_isSubtype_exc hC ?_;rw[hcB])|with_reducible refine GJ he rfl h1 ?_|wp_step)
 exact wpAny_raiseNew_none hh hE
end
section
variable{prog:Program}{w:World}{A:Around}{E:Vs}{s:Shared}{env:Env}
variable{nm q:Str}{C N:Addr}{bs bm bmB:List Value}{hdct:Bool}{sn:List Str}{sub:List Value}{ab:Bool}{col:Option Bool}{dd:Option Addr}{k0 k1 k2 k3 k5:Option Value}{B newId initId:String}
def wV(F:ExcBaseFacts B newId initId bmB){mN:So}{x:Str}{np cpos pos:Pos}{args:List Expr}{fI:Addr}{oI:Obj}{Q:Flow->Shared->Prop}
  (hbase:bm.contains (.type "BaseException")=true) (hh:A.handled=none) (hplain:(backTo cpos (starEach args env)).any (·.1)=false) (hi:mN "__init__" = some (.ref fI)) (hfc:oI.cls=.type "function")
  (h:wpAny 'b' A (eval (.Name x np) env) (λf s₁=>f=.ref C/\wpAny 'b' A (evalArgs (.ref C) true (backTo cpos (starEach args env)) [])
   (λa s₂=>a.kw=[]/\a.pos.length<=sizeLine/\s₂.heap.get? C=some (excClassObj nm q C N bs bm hdct sn sub ab col dd k0 k1 k2 k3 k5 newId)/\s₂.heap.Ns N mN/\OwnTail s₂.heap bmB bm/\s₂.heap.get? fI=some oI/\
    ∀h' e,s₂.heap.objs.size<=e->Heap.MadeExcOf s₂.heap h' e (.ref C) a.pos->
     wpAny 'b' (A.under (.builtin "type.__call__" (.ref C::a.pos,[]))) (call (.ref fI) (.ref e::a.pos)) (λr s'=>r=.none/\∃oe vs,s'.heap.get? C=some (excClassObj nm q C N bs bm hdct sn sub ab col dd k0 k1 k2 k3 k5 newId)/\
      s'.heap.get? e=some oe/\oe.cls=.ref C/\oe.data=.fields vs/\vs[1]?=some .none/\E (.ref e) s') E { s₂ with heap:=h' }) E s₁) E s):
  wpAny 'b' A (exec (.Raise (some (.Call (.Name x np) args [] cpos)) none pos) env) Q E s:=by
 rw[arm_exec_Raise];refine aB (wpAny_standAt (xF (C:=C) (nm:=nm) (q:=q) (N:=N) (bs:=bs) (bm:=bm) (hdct:=hdct) (sn:=sn) (sub:=sub) (ab:=ab) (col:=col) (dd:=dd) (k0:=k0) (k1:=k1) (k2:=k2) (k3:=k3) (k5:=k5) (newId:=newId) hbase hh
  (aB (jV (wpAny_Call_ofName (jV h (λf s₁ h₁=>?_) λ_ _ x=>x)) (λv s₃ h₃=>aB (wpAny_standAt (bp h₃))) λ_ _ x=>x))))
 let(rfl,h₁):=h₁;unfold callWith;refine aB (uB (jV h₁ (λa s₂ h₂=>aB (wpAny_standAt ?_)) λ_ _ x=>x));let(apos,akw):=a;let(hkw,hlen,hC,hn,T,hfI,h₂):=h₂;obtain rfl:akw=[]:=hkw;let(hp,g,d,tk,os):=s₂;simp only[hplain];refine aB (wpAny_keeperOf_exc hC ?_);refine aB (zI (hrest:=hlen) F T hC hn hi hfI hfc λh' e hz hm=>jV (h₂ h' e hz hm) (λr s' hr=>(hr.1,aB (uB (wpAny_point (bp ?_))))) λ_ _ x=>x);let(_,oe,vs,k1,k2,k3,k4,k5,k6):=hr;exact(e,oe,vs,rfl,k1,k2,k3,k4,k5,k6)
end
def XN(a C:Addr)(dx:Option Addr):HO:=.ext λh=>∃ob vs v0,h.get? a=some ob/\ob.cls=.ref C/\ob.dict=dx/\ob.data=.fields vs/\vs[0]?=some v0/\vs[1]?=some .none
def XD(d:Addr)(fs:List (Str×V)):HO:=.ext λh=>∃mA,h.Ns1 d mA/\(∀f,eX (fs.lookup f) (mA f))/\PySem.Within mA (fs.map (·.1))
def del(H:Hp)(a:Addr):Hp:=λb=>if b=a then none else H b
def dJ(h:b≠a):del H a b=H b:=by unfold del;rw[if_neg h]
def jJ:del H a a=none:=by unfold del;rw[if_pos rfl]
theorem XN.get{P:Program}{w:World}{H:Hp}{h:Heap}{a C:Addr}{dx:Option Addr}(ok:gA P w H h)(e:H a=some (XN a C dx)):∃ob vs v0,h.get? a=some ob/\ob.cls=.ref C/\ob.dict=dx/\ob.data=.fields vs/\vs[0]?=some v0/\vs[1]?=some .none:=(ok a _ e).1
theorem XD.get{P:Program}{w:World}{H:Hp}{h:Heap}{d:Addr}{fs:List (Str×V)}(ok:gA P w H h)(e:H d=some (XD d fs)):∃mA,h.Ns1 d mA/\(∀f,eX (fs.lookup f) (mA f))/\PySem.Within mA (fs.map (·.1)):=(ok d _ e).1
def XN.ok{P:Program}{w:World}{H:Hp}{h:Heap}{a C:Addr}{dx:Option Addr}(x:∃ob vs v0,h.get? a=some ob/\ob.cls=.ref C/\ob.dict=dx/\ob.data=.fields vs/\vs[0]?=some v0/\vs[1]?=some .none):bS P w H h a (XN a C dx):=by
 let(ob,vs,v0,he,r):=x;exact((ob,vs,v0,he,r),(ob,he),λh1 h2 (ob,ws,v0,q,r) k=>(ob,ws,v0,k _ q,r))
def XD.ok{P:Program}{w:World}{H:Hp}{h:Heap}{d:Addr}{fs:List (Str×V)}(x:∃mA,h.Ns1 d mA/\(∀f,eX (fs.lookup f) (mA f))/\PySem.Within mA (fs.map (·.1))):bS P w H h d (XD d fs):=by
 let(mA,n,r):=x;let(o,_,_,e,_):=id n;exact((mA,n,r),(o,e),λh1 h2 (mA,n,r) k=>(mA,n.at k,r))
section
variable{X:Cx}{pins:Lo}{Z:St}{H:Hp}{s:Shared}{a C:Addr}{φ:Heap->Prop}
def Inv.yU(I:Inv X pins Z H s)(e:H a=some (.ext φ)):Inv X pins Z (del H a) s:=by
 have ne:∀b u,H b=some u->(∀ψ,u≠.ext ψ)->b≠a:=λb u q n z=>by rw[z,e]at q;exact n φ (Option.some.inj q).symm
 refine I.un (h':=s.heap) (t':=s.toks) (λb o q _ _ _=>q,λb o q _ _ _=>(o.slots,q),λb o q n _=>?_,λb o q _=>(o,q),λb xs q=>?_,λb o u q=>?_,λb ps q=>(#[],?_)) λb u q=>?_
 ·by_cases hb:b=a
  ·rw[hb];exact jJ
  ·rw[dJ hb];exact n
 ·rw[dJ (ne b _ q (by intro ψ z;cases z))];exact q
 ·rw[dJ (ne b _ q (by intro ψ z;cases z))];exact q
 ·rw[dJ (ne b _ q (by intro ψ z;cases z)),q];simp
 ·by_cases hb:b=a
  ·rw[hb,jJ]at q;cases q
  ·rw[dJ hb]at q;exact(I.aP b u q).gU (λ_ _ _ z=>z) (λc z=>by rw[dJ (ne c _ z (by intro ψ z;cases z))];exact z) λc xs z=>by rw[dJ (ne c _ z (by intro ψ z;cases z))];exact z
def Inv.Fw(I:Inv X pins Z H s)(e:H d=some (XD d fs)):Inv X pins Z (upd H d (.xd fs)) s:=by
 let(mA,n,r,_):=XD.get I.aP e;let(o,_,_,q,_):=id n;exact I.write (h':=s.heap) (t':=s.toks) (x:=d) (e:=d) (by rw[e];exact True.intro) (.inl rfl) (λ_ _ _ z=>z) (o,q) (mA,n,r)
end
end L2
namespace L2
open PySem PySem.Spec PyProof.Rows PySem.W
structure y8(K:Frag)(C f:Addr):Prop where
 Xv:ownInit K C f=true
 ei:nF K C=true
 sa:findIn K (.ref C) "__setattr__" = some (some (.builtin "object.__setattr__"))
 fn:isFn K (.ref f)=true
structure JY(K:Frag)(B:Addr):Prop where
 rd:readsIn K B (.type "type")=true
 fc:findCls K (.ref B) (.type "type") "__init__" = some (.val (.builtin "ValueError.__init__"))
 ga:specialIn K (.ref B) "__getattribute__" = some (some (.builtin "type.__getattribute__"))
def Oq(e:H a=some o):upd H a o=H:=by
 funext b;by_cases hb:b=a
 ·subst hb;rw[ax,e]
 ·rw[ae hb]
def Ja(C:Addr)(sp:Sp)(E:XK)(t:TA):TS:=λ_ Z H=>t Z H λvs H1=>vs.length<=sizeLine/\∀x,H1 x=none->sp (.ref x::vs) (upd H1 x (XN x C none)) (λv H2=>v=.bw/\
 ((H2 x=some (XN x C none)/\E (.ref C) none (del H2 x))\/∃d fs,d≠x/\H2 x=some (XN x C (some d))/\H2 d=some (XD d fs)/\E (.ref C) (some d) (del (upd H2 d (.xd fs)) x))) E0
def Mh(K:Frag)(t:TA):TE:=λZ H Q=>t Z H λvs H1=>∃a C dx rest f,vs=.ref a::rest/\H1 a=some (XN a C dx)/\y8 K C f/\rest.length<=sizeLine/\Q .bw H1
def Sb(K:Frag)(ta tv:TE)(f:Str):TS:=λD Z H=>tv Z H λy H1=>ta Z H1 λx H2=>∃a C fI dx,x=.ref a/\H2 a=some (XN a C dx)/\y8 K C fI/\aW K C f/\
 ((dx=none/\∀d,H2 d=none->D.nx Z (upd (upd H2 d (XD d [⟨f,y⟩])) a (XN a C (some d))))\/∃d fs,dx=some d/\H2 d=some (XD d fs)/\fs.length<1000/\D.nx Z (upd H2 d (XD d (putF f y fs))))
def SO(K:Frag)(ta:TE)(f:Str):TE:=λZ H Q=>ta Z H λx H1=>∃a C d fs v,x=.ref a/\H1 a=some (XO a C (some d))/\H1 d=some (.xd fs)/\lM K C/\hasDictIn K C=true/\aW K C f/\fs.lookup f=some v/\Q v H1
section
variable{X:Cx}{x f:Str}{B C fI:Addr}{k:Nat}{fd:FuncData}{ps:List Str}{sp:Sp}{E:XK}{e o value:Expr}{es:List Expr}{p np apos cpos pos pos':Pos}{t:TA}{ta tv:TE}
def kL(F:aS X.prog X.w X.K X.mg X.base de k fI fd ps sp)(hr:cB (k+1) X.A)(hb:Binds X.K fd ps [])(M:y8 X.K C fI)(hg:Gl X x)(hm:X.mg x=some (.ref C))(hc:X.calm=true)(hX:Xe X E)(ha:PA X (e::es) t)(hex:X.ex=[]:=by rfl)
  (he:starEach (e::es) X.env=⟨false,eval e X.env⟩::starEach es X.env:=by rfl) (hplain:(backTo cpos (starEach es X.env)).any (·.1)=false:=by rfl) (hdb:(x == ("__debug__" : Str))=false:=by decide):
  PS X (.Raise (some (.Call (.Name x np) (e::es) [] cpos)) none pos) (Ja C sp E t):=by
 intro pins s Z H D I h;let(tl,N,nm,qn,bs,sn,sub,ab,col,dd,k0,k1,k2,k3,k5,mN,hC,hN,hni,T):=s_ I.ok.mod.IA M.Xv;obtain⟨oI,hoI,hfc⟩:∃oI,X.K.lookup fI=some oI/\oI.cls=.type "function" := fC.mp (beq_iff_eq.mp M.fn);have hfI:=I.ok.mod.IA _ _ hoI;refine wV (C:=C) (nm:=nm) (q:=qn) (N:=N) (bs:=bs) (bm:=tl) (hdct:=true) (sn:=sn) (sub:=sub) (ab:=ab) (col:=col) (dd:=dd) (k0:=k0) (k1:=k1) (k2:=k2) (k3:=k3) (k5:=k5) (fI:=fI) (oI:=oI)
  PySem.F.excBase_ValueError (mN:=mN) (T.hasType PySem.F.excBase_ValueError.hasBase) (I.ok.hd hc) (by rw[he];show(false || (backTo cpos (starEach es X.env)).any (·.1))=false;rw[hplain];rfl) hni hfc (gM I hg hm (rfl,?_) hdb)
 have h1:=ha cpos pins s Z H _ I h;rw[he]at h1 ⊢;refine Calls.evalArgs_plain (jV h1 (λus s2 h2=>?_) λ_ _ y=>y);let(vs,H2,I2,rv,hz,hE):=h2;refine(rfl,by rw[<-rv.length];exact hz,I2.bk _ _ hC,hN.keeps I2.bk,T.keeps I2.bk,I2.bk _ _ hfI,λh' e hsz me=>?_);let(t',hx,_,_):=me.there;have I3:Inv X pins Z (upd H2 e (XN e C none)) { s2 with heap:=h' }:=I2.laid (t':=s2.toks) me.keeps hsz (XN.ok (_,_,_,hx,rfl,rfl,rfl,rfl,rfl));have hq:=hE e (I2.aP.fresh hsz);have r2:Vals (V.ref e::vs) (Value.ref e::us):=.cons rfl rv;have hl:(Value.ref e::us++[]).length=ps.length:=by
  have z:=r2.length;rw[F.len _ _ _ _ hq]at z;rw[n9];exact z.symm
 have hbb:=hb { s2 with heap:=h' } (Value.ref e::us) I3.gG hl;rw[n9]at hbb;have hs0:X.s₀.heap.get? e=none:=by
  cases qq:X.s₀.heap.get? e with
  |none=>rfl
  |some o=>
   let(o',q'):=I2.base.there e o qq (by rw[hex];simp);rw[me.new]at q';cases q'
 refine Gm (codeAny_mono (F.run _ X.stack _ _ (Value.ref e::us,[]) (Value.ref e::us) _ _ E0 (hr.make C us []) (I3.De.make C us []) hbb r2 hq) λr s' hq'=>?_);cases r with
 |error e=>exact False.elim hq'
 |ok fl=>
  cases fl with
  |ret u=>
   let(v,H',I4,rv',ev,alt):=I3.after hq';subst ev;rcases alt with ⟨e1,hE⟩|⟨d,fs,dne,e1,e2,hE⟩
   ·let(ob,ws,v0,g1,g2,g3,g4,g5,g6):=XN.get I4.aP e1;exact(rv',ob,ws,I4.bk _ _ hC,g1,g2,g4,g6,hX pins Z _ _ e (.ref C) none (I4.yU e1) (hs0,jJ,.inl (ob,ws,g1,g2,g3,g4,g6)) hE)
   ·let(ob,ws,v0,g1,g2,g3,g4,g5,g6):=XN.get I4.aP e1;have I5:=I4.Fw e2;have e3:upd H' d (.xd fs) e=some (XN e C (some d)):=by rw[ae (Ne.symm dne)];exact e1
    exact(rv',ob,ws,I4.bk _ _ hC,g1,g2,g4,g6,hX pins Z _ _ e (.ref C) (some d) (I5.yU e3) (hs0,jJ,.inl (ob,ws,g1,g2,g3,g4,g6)) hE)
  |next=>exact False.elim hq'
  |brk=>exact False.elim hq'
  |cont=>exact False.elim hq'
def nE{pl:Sem Bool}(hg:Gl X x)(hm:X.mg x=some (.ref B))(b:JY X.K B)(ha:PA X (e::es) t)(hdb:(x == ("__debug__" : Str))=false:=by decide)
  (hst:starEach (e::es) X.env=⟨false,eval e X.env⟩::starEach es X.env:=by rfl) (hpl:(backTo pos (starEach es X.env)).any (·.1)=false:=by rfl)
  (ht:eval (.Call (.Attribute (.Name x p) "__init__" apos) (e::es) [] pos) X.env=(do
   let ov <-eval (.Name x p) X.env
   standAt apos.atName
   let ⟨f,first⟩ <-holding [ov] (getMethod ov "__init__" pl)
   callWith pos f first (backTo pos (starEach (e::es) X.env)) (backToKw pos (keywordEach [] X.env))):=by rfl):
  PE X (.Call (.Attribute (.Name x p) "__init__" apos) (e::es) [] pos) (Mh X.K t):=by
 intro pins s Z H Q I h;refine methodCall_KW (pl:=pl) (gM I hg hm ?_ hdb) ht;refine method_cls I.gG b.ga (cls_value I.gG b.rd b.fc (by rfl) ?_);refine callWith_builtin1 (bL (ha pos pins _ Z H _ (I.tok (s.toks+1)) h) λus s1 (vs,H1,I2,r,q)=>?_) hst hpl;let(a,C,dx,rest,f,rfl,e1,M,hz,q):=q;cases r with
 |cons ra rr=>
  rename_i u us _;obtain rfl:u=Value.ref a:=ra;let(tl,N,nm,qn,bs,sn,sub,ab,col,dd,k0,k1,k2,k3,k5,mN,hC,hN,hni,T):=s_ I2.gG M.Xv;let(ob,ws,v0,g1,g2,g3,g4,g5,g6):=XN.get I2.aP e1;let(hh,g,d,tk,os):=s1;have h0:=(O0.mp g5).1;refine Ag PySem.F.excBase_ValueError T hC g1 g2 g4 g5 (λh' T' kk e'=>?_) (by rw[<-rr.length];exact hz);have I3:=I2.write (h':=h') (t':=tk) (x:=a) (e:=a) (o:=XN a C dx) (by rw[e1];exact True.intro) (.inl rfl) kk (_,e')
   (XN.ok (_,ws.setIfInBounds 0 T',T',e',g2,g3,rfl,by simp[h0],by rw[Array.getElem?_setIfInBounds_ne (by decide)];exact g6))
  rw[Oq e1]at I3;exact(.bw,H1,I3,rfl,q)
def iN(ha:PE X o ta)(hv:PE X value tv)(hs:swapsWith value (some (.Attribute o f pos')) pos.line X.env=pure false):PS X (.Assign [.Attribute o f pos'] value pos) (Sb X.K ta tv f):=by
 intro pins s Z H D I h;refine plainObj_wpAny_Assign_Attribute (bL (hv pins s Z H _ I h) λu s1 hz=>?_) hs;let(y,H1,I1,ry,q):=hz;refine bL (ha pins s1 Z H1 _ I1 q) λov s2 hz=>?_;let(x,H2,I2,rx,a,C,fI,dx,ex,ea,M,n,q2):=hz;subst ex;obtain rfl:ov=Value.ref a:=rx;let(ob,ws,v0,g1,g2,g3,g4,g5,g6):=XN.get I2.aP ea;rcases q2 with ⟨rfl,q2⟩|⟨d,fs,rfl,ed,hl,q2⟩
 ·refine FG I2.gG g1 g2 g3 g4 M.ei M.sa n λh' tk k1 k2 k3=>?_;have hne:s2.heap.objs.size≠a:=Ne.symm (fu (cy g1));have hn:=I2.aP.fresh (bJ s2.heap.objs.size);refine(Z,_,?_,q2 s2.heap.objs.size hn);have na:∀b u,H2 b=some u->(∀ψ,u≠.ext ψ)->b≠a:=λb u q nx z=>by rw[z,ea]at q;exact nx _ (Option.some.inj q).symm
  have nd:∀b u,H2 b=some u->b≠s2.heap.objs.size:=λb u q=>bD q hn;have n0:∀b,H2 b=none->b≠a:=λb q z=>by rw[z,ea]at q;cases q
  have up:∀b,b≠a->b≠s2.heap.objs.size->upd (upd H2 s2.heap.objs.size (XD s2.heap.objs.size [⟨f,y⟩])) a (XN a C (some s2.heap.objs.size)) b=H2 b:=λb z1 z2=>by rw[ae z1,ae z2]
  refine I2.un (h':=h') (t':=tk) (λb o q m _ _=>k3 b o (n0 b m) q,λb o q m _ _=>(o.slots,k3 b o (n0 b m) q),λb o q m _=>?_,λb o q _=>?_,λb xs q=>?_,λb o u q=>?_,λb ps q=>(#[],?_)) λb u q=>?_
  ·rw[up b (n0 b m) (fu (cy q))];exact m
  ·by_cases hb:b=a
   ·rw[hb];exact(_,k1)
   ·exact(o,k3 b o hb q)
  ·rw[up b (na b _ q (by intro ψ z;cases z)) (nd b _ q)];exact q
  ·rw[up b (na b _ q (by intro ψ z;cases z)) (nd b _ q)];exact q
  ·rw[up b (na b _ q (by intro ψ z;cases z)) (nd b _ q),q];simp
  ·by_cases hb:b=a
   ·subst hb;rw[ax]at q;cases q;exact XN.ok (_,ws,v0,k1,g2,rfl,g4,g5,g6)
   ·by_cases hd:b=s2.heap.objs.size
    ·subst hd;rw[ae hb,ax]at q;cases q;refine XD.ok (_,k2,λg=>?_,λg hg=>?_)
     ·by_cases z:g=f
      ·rw[if_pos z,z];simp[List.lookup];exact ry
      ·have zb:(g == f)=false:=beq_eq_false_iff_ne.mpr z;rw[if_neg z];simp only[List.lookup,zb];trivial
     ·by_cases z:g=f
      ·rw[z];simp
      ·exact absurd (if_neg z) hg
    ·rw[up b hb hd]at q;refine(I2.aP b u q).gU (λc v hc z=>k3 c v ?_ z) (λc z=>by rw[up c (na c _ z (by intro ψ z;cases z)) (nd c _ z)];exact z) λc xs z=>by rw[up c (na c _ z (by intro ψ z;cases z)) (nd c _ z)];exact z
     rcases hc with z|z
     ·rw[z];exact hb
     ·exact na c _ z (by intro ψ z;cases z)
 ·let(mA,n1,r,wi):=XD.get I2.aP ed;have hz:(fs.map (·.1)).length<=sizeLine:=by rw[aD,sizeLine_eq];lia
  refine FY I2.gG g1 g2 g3 g4 n1 M.ei M.sa n wi hz λh' tk k1 sb=>?_;refine(Z,_,?_,q2);let(od,_,_,hod,_):=id k1;refine I2.write (x:=d) (e:=d) (by rw[ed];exact True.intro) (.inl rfl) (λb q hb z=>(sb.2 b hb).trans z) (od,hod) (XD.ok (_,k1,λg=>?_,λg hg=>?_))
  ·show eX ((putF f y fs).lookup g) (if g=f then some u else mA g);rw[hU];by_cases q:g=f
   ·rw[if_pos q,if_pos q];exact ry
   ·rw[if_neg q,if_neg q];exact r g
  ·by_cases q:g=f
   ·rw[q];exact(gb f y fs).1
   ·refine(gb f y fs).2 g (wi g λz=>hg ?_);show(if g=f then some u else mA g)=none;rw[if_neg q];exact z
def iP(he:PE X o ta)(hb:attributeBase o f X.env (eval o X.env)=eval o X.env):PE X (.Attribute o f pos) (SO X.K ta f):=by
 intro pins s Z H Q I h;refine y6 hb (bL (he pins s Z H _ I h) λu s1 hz=>?_);let(x,H1,I1,rx,a,C,d,fs,v,ex,ea,ed,c,hd,n,l,q):=hz;subst ex;obtain rfl:u=Value.ref a:=rx;let((ob,ws,g1,g2,g3,g4),_):=(I1.aP a _ ea)
 let(mA,n1,r):=(show ∃mA,s1.heap.Ns1 d mA/\∀f,eX (fs.lookup f) (mA f) from I1.aP d _ ed)
 let(od,ho,hl):=p9 n1;let(u,hu,ru):=eX.some_of (v:=v) (o:=mA f) (by rw[<-l];exact r f);have J:InstAt s1.heap a ob C (some od):=(g1,g2,by unfold notCls;rw[g4],by rw[g3];exact ho)
 exact MG I1.gG c J (findObj_own hd n rfl (by rw[hl,hu])) (pQ ru) (v,H1,I1.tok _,ru,q)
end
end L2
namespace L2
open PySem PySem.Spec PyProof.Rows
section
variable{X:Cx}
theorem dE(h:n_ X b t)(w:∀D Z H,u D Z H->t D Z H):n_ X b u:=λpins s Z H D I q=>h pins s Z H D I (w D Z H q)
theorem rA(h:PS X b t)(w:∀D Z H,u D Z H->t D Z H):PS X b u:=λpins s Z H D I q=>h pins s Z H D I (w D Z H q)
theorem xZ(h:PT X e t)(w:∀Z H R,u Z H R->t Z H R):PT X e u:=λpins s Z H R I q=>h pins s Z H R I (w Z H R q)
def eL{elt iter tg:Expr}{ifs:List Expr}{scope:Scope}{pos spos py:Pos}{y:Str}{i:Nat}{N':List Str}{k:Nat}{fm:List Nat}{wi:TI}{g:TG}{tt:TT}{te:TE}(hN:X.N.Nodup)(hi':X.N[i]?=some y)(hy:Loc X.env.scope y)(B:ir X N' k fm scope)(hc:X.calm=true)(hi:PI X tg iter wi)
  (hb:∀fp s H,PG (Al X N' scope fp s H) tg g/\QX (Al X N' scope fp s H) ifs tt/\PE (Al X N' scope fp s H) elt te)
  (hsw:swapsWith (.ListComp elt [(tg,iter,ifs,0)] scope pos) (some (.Name y py)) spos.line X.env=pure true:=by rfl)
  (hs:∀x,foldedSetIterable iter X.env x=pure x:=by intro _;rfl) (hfn:X.fn y=true\/X.env.scope.names.lookup y=some .local:=by first|exact .inl rfl|exact .inr rfl|assumption):
  PS X (.Assign [.Name y py] (.ListComp elt [(tg,iter,ifs,0)] scope pos) spos) (HW (lh k fm wi g tt te) (g_ i)):=by
 intro pins s Z H DD I h;have hfree:=λx hx hk=>I.ok.has x.1 (B.free x hx hk);rw[exec_Assign_Name_used _ _ _ _ hsw];refine aB (wpAny_standAt (aB (aB (jV (wpAny_comprehension_free rfl hs (i8 hfree) B.kind B.names (bL (hi pins s Z H _ I h) λv s1 h1=>bL h1 λitv s2 h2=>?_)) (λ_ s' hq=>bp (bp hq)) λ_ _ e=>e))));let(it,fp,tn,J,H2,e,I2,T,st2,f2,h2):=h2;subst e;let(W,(m0,w0),turn):=h2 s2.heap.objs.size I2.fresh;refine Gj (wpAny_newFunctionEnv B.vz (by intro y hy;simp at hy) (λh4 hns4 hsb4=>?_) B.kind);have I3:=I2.Hw (t':=s2.toks) .nil (d6 _);have hf3:∀b∈fp,fV X pins (upd H2 s2.heap.objs.size (.lst [])) b:=λb hb=>by
  let(o,e,_):=T.obj _ _ st2 b hb;refine(?_,(f2 b hb).2);rw[ae (λz=>k9 _ (z▸cy e))];exact(f2 b hb).1
 have ho3:∀b∈fp,∃o,(s2.heap.push { cls:=.type "list", data:=.seq ([]:List Value).toArray }).get? b=some o:=λb hb=>by
  let(o,e,_):=T.obj _ _ st2 b hb;exact(o,cV _ e)
 have kp4:∀b o,(s2.heap.push { cls:=.type "list", data:=.seq ([]:List Value).toArray }).get? b=some o->h4.get? b=some o:=λb o e=>
  hsb4.extBut b o (λz=>k9 _ (z▸cy e)) (cV _ e)
 have I4:=I3.block (tk:=s2.toks+([]:List (Str×Value)).length) B hf3 ho3 hns4 kp4;generalize hs3:({ s2 with heap:=s2.heap.push { cls:=.type "list", data:=.seq ([]:List Value).toArray },toks:=s2.toks }:Shared)=s3 at *;let(hg,ht,he):=hb fp s3 (upd H2 s2.heap.objs.size (.lst []));have st4:=T.keep _ _ _ st2 λb hb o e=>kp4 b o (cV _ e);have stat:∀{H':Hp},(∀b∈fp,H' b=none)->∀b∈fp,fV (Al X N' scope fp s3 (upd H2 s2.heap.objs.size (.lst []))) [] H' b:=λ{H'} hn b hb=>by
  let(f0,f1,f3,f4,f5,f6):=hf3 b hb;let(g1,g2):=I4.ok.O7 b hb;exact(hn b hb,g1,I4.ok.uT b hb,.inl hb,g2,λp hp=>f6 p ((bT.mp hp).elim (λz=>eD _ z) λz=>absurd z (by simp)))
 have loop:codeAny 'c' X.A (.compLoop (.ListComp elt [(tg,iter,ifs,0)] scope pos) 0 (.ref it) (.ref s2.heap.objs.size) (compEnvC scope (mE X.env scope.names []) s3.heap.objs.size X.env))
   (compPost 'c' X.A X.xe (some (assign (.Name y py) X.env)) (λ_ s'=>SP X pins DD .next s') (.ref s2.heap.objs.size) s3.heap.objs.size) { s3 with heap:=h4,toks:=s2.toks+([]:List (Str×Value)).length }:=by
  refine uE (X:=Al X N' scope fp s3 (upd H2 s2.heap.objs.size (.lst []))) (Q:=λv H'=>DD.nx (Z.set i (some v)) H') rfl hc T stat hg ht he turn I4 st4 (λb hb=>(hf3 b hb).1) w0 ?_;intro H' s' I' q;let(m,hn,_):=I'.loc;have hCn:s3.heap.get? s3.heap.objs.size=none:=by
   cases e:s3.heap.get? s3.heap.objs.size with
   |none=>rfl
   |some o=>exact absurd (cy e) (k9 _)
  have J:=λh'' hk=>by
   have u:Un (lK X.stack) fp (upd H2 s2.heap.objs.size (.lst [])) H' s3.heap h'':=Un.tail I'.base hk hCn;refine I3.mI (s':={ s' with heap:=h'' }) I'.os u (I'.aP.tail hk I'.free) I'.bare λb hb=>?_;let(f0,f1,f3,f4,f5,f6):=hf3 b hb;exact(f4,f1,f5,f6)
  have J1:Inv X pins Z H' s':=J s'.heap λ_ _ _ e=>e;let(oC,es,ep,hoC,hdC,rC):=hn;have hCf:=I'.free;have hCL:=Ne.symm (fu I3.lt);have hCfs:=I3.QB (bJ _);have J2:Inv X (pins++[⟨s3.heap.objs.size,oC⟩]) Z H' s':=J1.lT λp hp=>by
   rcases bT.mp hp with z|z
   ·exact J1.pin p (eW _ z)
   ·exact(bU.mp z)▸(hoC,hCf,hCL,hCfs,λv e=>by rw[hdC]at e;cases e)
  refine wpAny_assign_Name (f7 J2 hN hi' hy (v:=.ref s2.heap.objs.size) rfl (λs5 I5=>?_) hfn);have hC5:=(I5.pin ⟨s3.heap.objs.size,oC⟩ (eW _ (eW _ (bU.mpr rfl)))).1;refine(m,(oC,es,ep,hC5,hdC,rC),λh'' hs''=>?_);have I6:=I5.lT λp hp=>I5.pin p (eW _ (eD _ hp));refine(_,H',I6.turned (λb o hb e=>hs''.extBut b o hb e) hCf hCL (.inr I3.sz) (λx c e z=>?_) (λp hp z=>?_),q)
  ·let(v,o,ho,_):=I3.cell x c e;rw[z]at ho;exact absurd (cy ho) (k9 _)
  ·have z':=(I3.pin p hp).1;rw[z]at z';exact absurd (cy z') (k9 _)
 subst hs3;exact codeAny_compStart_list loop (T.self X.A 0 _ _ _ st4 loop)
def Ta(K:Wf):R2:=λx y H Q=>∃p q kvs,x=.ref p/\y=.ref q/\H p=some (.dK kvs)/\H q=some (.dK kvs)/\(∀kv∈kvs,∃d,Rep K H d kv.2/\dep d<=20)/\Q (.bl true) H
def SX:List V->Hp->VK->Prop:=λxs H Q=>∃p kvs,xs=[.ref p]/\H p=some (.dK kvs)/\∀q,H q=none->Q (.ref q) (upd H q (.dK kvs))
def FK(x:V)(xs:List V):Nat:=xs.countP λy=>A3 y x
def FV(K:Wf):V->List V->Hp->VK->Prop:=λx vs H Q=>∃p xs y,x=.ref p/\vs=[y]/\az K H p xs/\fW y=true/\xs.all fW=true/\Q (.int (FK y xs:Nat)) H
theorem o7:∀{xs:List V}{us:List Value},Vals xs us->xs.all fW=true->us.countP (uG x)=xs.countP λy=>A3 y x
 |_,_,.nil,_=>rfl
 |y::xs,u::us,.cons r t,f=>by
  rw[List.all_cons,lH]at f;rw[List.countP_cons,List.countP_cons,vT r f.1,o7 t f.2]
def Ga:Km X "list.count" (FV X.K):=by
 intro pins s Z H x vs v us Q I rx rv h;let(p,xs,y,rfl,rfl,hq,fy,fs,q):=h;cases rx;let(u,rfl,ru):=rv.one;let(its,r,pl,hz):=I.list hq;let((cls,dd,data,sl),ho,hc,n,hd):=id pl.isList;simp only at hc hd;subst hc hd;refine call_meets PySem.F.slot_list_count (_,ho,rfl) PySem.F.entry_list_count (PySem.F.args_list_count_2 _ _) (SeqAt.list_countAt p its.toArray n dd sl u (uG y)) (ho,λw hw=>gp ru fy r fs w (by simpa using hw),?_);rw[show its.toArray.toList=its by simp,o7 r fs];exact(V.int (FK y xs:Nat),H,I.tok _,(s.toks,rfl),q)
theorem pX{K:Wf}(e:X.K=K):Km X "list.count" (FV K):=e▸Ga
def MS(E:XK)(k:Nat)(fm:List Nat)(wi:TI)(g:TG)(tt:TT)(te:AW):TE:=λZ H Q=>wi Z H λJ H1=>∀D,H1 D=none->∃W:Nat->Nat->List V->Hp->Prop,
 (∃m,W 0 m [] (upd H1 D (.lst [])))/\∀i m ys H2,W i m ys H2->H2 D=some (.lst ys)/\ys.length<sizeLine/\((J.stop i H2/\Q (.ref D) H2)\/(J.go i H2/\∃N:List V->Hp->Prop,(∀ys' H',N ys' H'->∃m',m'<m/\W (i+1) m' ys' H')/\∀x H3,J.A5 i H2 x H3->
  g x (eV k fm Z) H3 λσ3 H4=>Ext (eV k fm Z) σ3/\tt σ3 H4 λb H5=>if b=true then te σ3 H5 (λy H6=>H6 D=some (.lst ys)/\N (ys++[y]) (upd H6 D (.lst (ys++[y])))) E else N ys H5))
end
def L_(E:XK)(g:TG)(tt:TT)(te:AW)(σ0:St)(Q:VK)(J:It)(H1:Hp):Prop:=∀DD,H1 DD=none->∃W:Nat->Nat->List V->Hp->Prop,
 (∃m,W 0 m [] (upd H1 DD (.lst [])))/\∀i m ys H2,W i m ys H2->H2 DD=some (.lst ys)/\ys.length<sizeLine/\((J.stop i H2/\Q (.ref DD) H2)\/(J.go i H2/\∃N:List V->Hp->Prop,(∀ys' H',N ys' H'->∃m',m'<m/\W (i+1) m' ys' H')/\∀x H3,J.A5 i H2 x H3->
  g x σ0 H3 λσ3 H4=>Ext σ0 σ3/\tt σ3 H4 λb H5=>if b=true then te σ3 H5 (λy H6=>H6 DD=some (.lst ys)/\N (ys++[y]) (upd H6 DD (.lst (ys++[y])))) E else N ys H5))
def Mo(K:Wf)(E:XK)(g:TG)(tt:TT)(te:AW)(σ0:St)(Q:VK):VK:=λx H1=>∃a,x=.ref a/\(∃xs,az K H1 a xs)/\L_ E g tt te σ0 Q (BD K a) H1
section
variable{K:Wf}{k:Nat}{fm:List Nat}{tl:TE}{te:AW}{g:TG}{tt:TT}{Z σ0:St}{H H1:Hp}{Q:VK}{E:XK}
theorem JF:MS E k fm (p7 K tl) g tt te Z H Q=tl Z H (Mo K E g tt te (eV k fm Z) Q):=rfl
end
def h9(a b:Str):Prop:=a.cps.toList<=b.cps.toList
theorem kB(x:h9 a b)(y:h9 b c):h9 a c:=List.le_trans x y
def gc(x:h9 a b)(y:h9 b a):a=b:=by
 have e:=List.le_antisymm x y;cases a;cases b;congr 1;exact Array.toList_inj.mp e
def qi:∀{l:List Str}{p:Str},risingS p l=true->(p::l).Pairwise h9
 |[],p,_=>List.pairwise_singleton ..
 |x::r,p,h=>by
  rw[risingS,lH,ltCps_eq]at h;have px:=by
   have z:=h.1;rw[Bool.not_eq_true',decide_eq_false_iff_not]at z;exact z
  have ih:=qi h.2;refine List.Pairwise.cons (λy hy=>?_) ih;rcases eP.mp hy with rfl|hy
  ·exact px
  ·exact kB px ((List.pairwise_cons.mp ih).1 y hy)
theorem oS:∀{l:List Str},sortedS l=true->l.Pairwise h9
 |[],_=>.nil
 |_::_,h=>qi h
theorem Bs:∀{ss:List Str}{us:List Value},Vals 'E' us->StrsAre us ss
 |[],[],.nil=>.nil
 |x::ss,u::us,.cons r t=>by
  let(k,rfl):=r;exact .cons x k (Bs t)
theorem l7:∀{ss:List Str}{us:List Value},StrsAre us ss->Vals 'E' us
 |_,_,.nil=>.nil
 |_,_,.cons x k t=>.cons (k,rfl) (l7 t)
theorem rg:∀{us:List Value}{ss:List Str},us.length=ss.length->(∀(j:Nat) (v:Value),us[j]?=some v->∃y k,ss[j]?=some y/\v=Value.str y k)->StrsAre us ss
 |[],[],_,_=>.nil
 |u::us,s::ss,hl,h=>by
  let(y,k,e,rfl):=h 0 u rfl;cases e;exact .cons _ k (rg (by simpa using hl) λj v hv=>by simpa using h (j+1) v hv)
theorem lE:∀{us:List Value}{ss:List Str},StrsAre us ss->us.length=ss.length
 |_,_,.nil=>rfl
 |_,_,.cons _ _ t=>by rw[oY,oY,lE t]
def oW{prog:Program}{w:World}{A:Around}{E:Vs}{s:Shared}{a:Value}{Q:Vs}
  (hc:wpAny 'b' A.in1 (collect a) (λvs s1=>∃ss:List Str,StrsAre vs ss/\vs.length<64/\
   ∀(h':Heap) (out:List Value) (ss':List Str) (D:Addr) (e:Nat),(∀b o,s1.heap.get? b=some o->h'.get? b=some o)->s1.heap.objs.size<=D->h'.get? D=some (seqObj "list" out.toArray e)->
    StrsAre out ss'->ss'.Perm ss->ss'.Pairwise h9->Q (.ref D) { s1 with heap:=h' }) E s):
  wpAny 'b' A (call (.builtin "sorted") [a]) Q E s:=by
 refine Calls.call_function_entry kind_sorted plain_sorted entry_sorted (args_sorted1 _) (aB (bp (aB (jV hc (λvs s1 hv=>?_) λ_ _ z=>z))));let(ss,S,hz,q):=hv;refine aB (wpAny_newList ?_ (by rw[sizeLine_eq];omega));have hoL:(s1.heap.push (seqObj "list" vs.toArray 0)).get? s1.heap.objs.size=some (seqObj "list" vs.toArray 0):=iL _ rfl;refine aB (uB (JO slot_list_sort (_,hoL,rfl) entry_list_sort
  (list_sort_treeK strKind_oneLt hoL S.keysOf (λv₁ v₂ rest z=>keyKind_strs (z▸S)) hz λst a1 a2=>(_,rfl,?_)) (args_list_sort _)))
 let(ss',t1,t2,t3):=sorted_out_str S a1 a2;let(e,he):=sortedHeap_at hoL;refine bp (_,rfl,q _ ((arrOf st).map (·.2)).toList ss' s1.heap.objs.size e (λb o z=>?_) (bJ _) (Array.toArray_toList▸he) t1 t2 (oS t3));have lt:=cy z;rw[sortedHeap_old (fu lt) (by rw[size_push'];exact JH lt)];exact cV _ z
section
variable{X:Cx}
def yu(K:Wf):List V->Hp->VK->Prop:=λxs H Q=>∃(p:Addr) (ss:List Str),xs=[.ref p]/\az K H p 'E'/\ss.length<64/\∀(l:Addr) (ss':List Str),H l=none->ss'.Perm ss->ss'.Pairwise h9->Q (.ref l) (upd H l (.lst (ss'.map V.str)))
def tR:bP X (.builtin "sorted") (yu X.K):=by
 intro pins s Z H xs us Q I r h;let(p,ss,rfl,hq,hz,q):=h;let(u,rfl,rx):=vals1 r;cases rx;let(its,r',pl,_):=I.list hq;have S:StrsAre its ss:=Bs r';refine sorted_strs pl.isList S (by rw[lE S];exact hz) λout ss' a1 a2 a3=>?_;let(e,he):=sortedAll_at s.heap its out;refine(.ref 'i',_,I.laid (a:=s.heap.objs.size+1) (o:=.lst (ss'.map V.str)) (t':=s.toks) (λb o=>sortedAll_old) (xS _) (?_,out.toList,e,l7 a1,by simpa using he),rfl,q _ ss' (I.aP.fresh (Nat.le_succ _)) a2 (oS a3));rw[aD,a2.length_eq,sizeLine_eq];lia
def BB:List V->Hp->VK->Prop:=λxs H Q=>∃p kvs,∃ss:List Str,xs=[.ref p]/\H p=some (.dK kvs)/\kvs.map (·.1)=ss.map Sum.inr/\ss.length<64/\∀(l:Addr) (ss':List Str),H l=none->ss'.Perm ss->ss'.Pairwise h9->Q (.ref l) (upd H l (.lst (ss'.map V.str)))
def qP{kvs:List (Key×V)}{vs:List (Key×Value)}(r:KV kvs vs):kvs.map (·.1)=vs.map (·.1):=by
 induction r with
 |nil=>rfl
 |cons h _ ih=>rw[iS,iS,h.1,ih]
def gH(hc:X.calm=true):bP X (.builtin "sorted") BB:=by
 intro pins s Z H xs us Q I r h;let(p,kvs,ss,rfl,hq,hk,hz,q):=h;let(u,rfl,rx):=vals1 r;cases rx;let(z,hS,vs,rel,dd):=pP I.aP hq;let(ep,da):=dd.dictAt;have hh:X.A.in1.handled=none:=by simp[I.ok.hd hc]
 have hkeys:=(qP rel).symm.trans hk;have hlen:=by have e:=congrArg List.length hkeys;simpa using e
 refine oW (PySem.W.kdu_collect (PySem.W.kdl_dict hS) hh da (by rw[hlen,sizeLine_eq];lia) λh1 tk acc kp it=>?_);have hal:acc.toList.length=ss.length:=by rw[AX,it.1,hlen]
 refine(ss,rg hal (λj v hv=>?_),hal▸hz,λh2 out ss' D e k2 hD hg S pm pw=>?_)
 ·rw[Td]at hv;let(k,x,e,hi):=it.2 j v hv;have e1:(vs.map (·.1))[j]?=some k:=by rw[l_,e];rfl
  rw[hkeys,l_]at e1;cases hj:ss[j]? with
  |none=>rw[hj]at e1;cases e1
  |some y=>
   rw[hj]at e1;cases e1;let(t,rfl):=Value.isStrOf_shape hi;exact(y,t,rfl,rfl)
 ·have I1:=I.kept (t':=tk) kp;exact(.ref D,_,I1.laid (o:=.lst (ss'.map V.str)) k2 hD (by rw[aD,pm.length_eq,sizeLine_eq];lia,out,e,l7 S,by simpa using hg),rfl,q _ ss' (I1.aP.fresh hD) pm pw)
theorem ka{K:Wf}(e:X.K=K):bP X (.builtin "sorted") (yu K):=e▸tR
theorem j8:∀{as:List Addr}{us:List Value},Vals (as.map V.ref) us->us=as.map Value.ref
 |[],[],.nil=>rfl
 |a::as,u::us,.cons r t=>by
  cases r;rw[j8 t];rfl
def VR(g:Addr->D)(d:D):Value->Bool
 |.ref a=>deq (g a) d
 |_=>false
def Ip(K:Wf)(neg:Bool):R2:=λx y H Q=>∃(p:Addr) (as:List Addr) (g:Addr->D) (d:D),y=.ref p/\az K H p (as.map V.ref)/\(∀a∈as,Rep K H (g a) (.ref a)/\dep (g a)<=20)/\Rep K H d x/\Q (.bl (if neg then !(as.any λa=>deq (g a) d) else as.any λa=>deq (g a) d)) H
def yP(g:Addr->D)(d:D)(as:List Addr):(as.map Value.ref).toArray.any (VR g d)=as.any λa=>deq (g a) d:=by
 rw[List.any_toArray,Le];rfl
def MJ(hu:X.A.units+64<cLine):dH X (compareOp .In) (Ip X.K false):=by
 intro pins s Z H x y v u Q I rx ry h;let(p,as,g,d,rfl,hq,ha,hd,q):=h;cases ry;let(its,r,pl,hz):=I.list hq;have e:=j8 r;subst e;refine SeqAt.in_listAt (VR g d) pl.isList (λw hw=>?_) (.bl _,H,I,rfl,by rw[yP];exact q);let(a,hm,rfl):=aK.mp (by simpa using hw);exact rK I (g a) d (.ref a) x (.ref a) v X.A.in1 (by have:=(ha a hm).2;show X.A.units+1+_<_;lia) (ha a hm).1 hd rfl rx
def zL(hu:X.A.units+64<cLine):dH X (compareOp .NotIn) (Ip X.K true):=by
 intro pins s Z H x y v u Q I rx ry h;let(p,as,g,d,rfl,hq,ha,hd,q):=h;cases ry;let(its,r,pl,hz):=I.list hq;have e:=j8 r;subst e;refine SeqAt.notIn_listAt (VR g d) pl.isList (λw hw=>?_) (.bl _,H,I,rfl,by rw[yP];exact q);let(a,hm,rfl):=aK.mp (by simpa using hw);exact rK I (g a) d (.ref a) x (.ref a) v X.A.in1 (by have:=(ha a hm).2;show X.A.units+1+_<_;lia) (ha a hm).1 hd rfl rx
theorem Iy{K:Wf}(hu:X.A.units+64<cLine)(e:X.K=K):dH X (compareOp .In) (Ip K false):=e▸MJ hu
theorem vQ{K:Wf}(hu:X.A.units+64<cLine)(e:X.K=K):dH X (compareOp .NotIn) (Ip K true):=e▸zL hu
end
end L2
namespace L2
open PySem
section
variable{prog:Program}{w:World}{A:Around}{E:Vs}{s:Shared}
set_option maxHeartbeats 3200000 in
set_option maxHeartbeats 3200000 in
set_option maxHeartbeats 3200000 in
end
end L2
namespace L2
open PySem PySem.Spec PyProof.Rows
section
variable{X:Cx}{pins:Lo}{Z:List (Option V)}{H H':Hp}{s:Shared}{h':Heap}
def Inv.yT{t':Nat}{fp:List Addr}(I:Inv X pins Z H s)(k:∀b o,b∉fp->s.heap.get? b=some o->h'.get? b=some o)(hf:∀b∈fp,fV X pins H b):Inv X pins Z H { s with heap:=h',toks:=t' }:=by
 have nit:∀b u,H b=some u->b∉fp:=λb u e z=>by rw[(hf b z).1]at e;cases e
 have hL:=λz=>(hf _ z).2.1 rfl;refine I.step (λb hb=>?_) (λb o _ _ hc e _=>k b o hc e) (λb o _ _ hc e _=>(o.slots,k b o hc e)) (λ_ _ _ _ n=>n)
  (λb o hc e=>(o,k b o hc e)) (λ_ _ e=>e) (λ_ _ _ e=>e) (λb ps e=>(#[],by rw[e];simp)) (λm hm=>?_) (λb u e=>?_) I.bare
 ·let(_,a1,_,a2,a3,a4):=hf b hb;exact(a2,a1,a3,a4)
 ·let(o,es,ep,ho,r):=hm;exact(o,es,ep,k _ o hL ho,r)
 ·refine(I.aP b u e).gU (λc v hc q=>k c v ?_ q) (λ_ q=>q) λ_ _ q=>q;rcases hc with z|z
  ·rw[z];exact nit b u e
  ·exact nit c _ z
def Inv.yL{t':Nat}{fp:List Addr}{q:Addr}{xs:List V}(I:Inv X pins Z H s)(k:∀b o,b∉fp->s.heap.get? b=some o->h'.get? b=some o)(hf:∀b∈fp,fV X pins H b)(hq:s.heap.objs.size<=q)(new:bS X.prog X.w (upd H q (.tup xs)) h' q (.tup xs)):
  Inv X pins Z (upd H q (.tup xs)) { s with heap:=h',toks:=t' }:=by
 have nit:∀b u,H b=some u->b∉fp:=λb u e z=>by rw[(hf b z).1]at e;cases e
 have hL:=λz=>(hf _ z).2.1 rfl;have fq:=I.aP.fresh hq;have ne:∀b u,H b=some u->b≠q:=λb u e z=>by rw[z,fq]at e;cases e
 have ne':∀b o,s.heap.get? b=some o->b≠q:=λb o e z=>absurd (cy e) (z▸Nat.not_lt.mpr hq);refine I.step (λb hb=>?_) (λb o _ _ hc e _=>k b o hc e) (λb o _ _ hc e _=>(o.slots,k b o hc e)) (λb o _ e n=>(ae (ne' b o e))▸n)
  (λb o hc e=>(o,k b o hc e)) (λb _ e=>(ae (ne b _ e))▸e) (λb _ _ e=>(ae (ne b _ e))▸e) (λb ps e=>(#[],by rw[ae (ne b _ e),e];simp)) (λm hm=>?_) (λb u e=>?_) I.bare
 ·let(_,a1,_,a2,a3,a4):=hf b hb;exact(a2,a1,a3,a4)
 ·let(o,es,ep,ho,r):=hm;exact(o,es,ep,k _ o hL ho,r)
 ·by_cases z:b=q
  ·subst z;rw[ax]at e;cases e;exact new
  ·rw[ae z]at e;refine(I.aP b u e).gU (λc v hc q=>k c v ?_ q) (λc q=>?_) λc o q=>?_
   ·rcases hc with z|z
    ·rw[z];exact nit b u e
    ·exact nit c _ z
   ·rw[ae (ne c _ q)];exact q
   ·rw[ae (ne c _ q)];exact q
end
structure Zf(z TI TO i1 i2:Addr):Prop where
 TIz:TI≠z
 TOz:TO≠z
 i1z:i1≠z
 i2z:i2≠z
 TITO:TI≠TO
 TIi1:TI≠i1
 TIi2:TI≠i2
 TOi1:TO≠i1
 TOi2:TO≠i2
 i12:i1≠i2
def UB(K:Wf)(a b:Addr):It:=
 (λi H=>∃ xs ys x y, az K H a xs /\ az K H b ys /\ xs[i]? = some x /\ ys[i]? = some y,
  λi H v H'=>∃q x y,v=.ref q/\H q=none/\(∀xs,az K H a xs->xs[i]?=some x)/\(∀ys,az K H b ys->ys[i]?=some y)/\H'=upd H q (.tup [x,y]),
  λi H=>∃xs ys,az K H a xs/\az K H b ys/\(xs.length<=i\/ys.length<=i))
def Tz(z TI TO i1 i2 l1 l2:Addr)(i:Nat)(h:Heap):Prop:=IsZip h z TI TO .none/\IsPair h TI (.ref i1) (.ref i2)/\(∃a b,IsPair h TO a b)/\h.IsListIter i1 l1 i/\h.IsListIter i2 l2 i
def uR{h:Heap}{z TI TO i1 i2 l1 l2:Addr}{i:Nat}{xs ys:Array Value}(f:Zf z TI TO i1 i2)(t:Tz z TI TO i1 i2 l1 l2 i h)(p1:PlainL h l1 xs)(p2:PlainL h l2 ys):ZipApart z TI TO i1 i2 l1 l2:=by
 let(t1,t2,(a,b,t3),(o4,t4,c4,_),(o5,t5,c5,_)):=t;have ne:∀{l:Addr}{its:Array Value},PlainL h l its->l≠z/\l≠TO/\l≠i1/\l≠i2:=λ{l its} p=>by
  let(o,n,e,c,_):=p;refine(λq=>?_,λq=>?_,λq=>?_,λq=>?_)
  ·grind
  ·grind
  ·simp_all
  ·simp_all
 let(a1,a2,a3,a4):=ne p1;let(b1,b2,b3,b4):=ne p2;exact { TIz:=f.TIz,TOz:=f.TOz,i1z:=f.i1z,i2z:=f.i2z,TITO:=f.TITO,TIi1:=f.TIi1,TIi2:=f.TIi2,TOi1:=f.TOi1,TOi2:=f.TOi2,i12:=f.i12,l1z:=a1,l1TO:=a2,l1i1:=a3,l1i2:=a4,l2z:=b1,l2TO:=b2,l2i1:=b3,l2i2:=b4 }
theorem DA{P:Program}{w:World}{K:Wf}{elts:List Expr}{x1}{pos:Pos}{z TI TO i1 i2:Addr}(l1 l2:Addr)(f:Zf z TI TO i1 i2):Turn P w K (.Tuple elts x1 pos) (UB K l1 l2) [z,TI,TO,i1,i2] z (Tz z TI TO i1 i2 l1 l2) where
 mem:=by simp
 obj:=λi h st b hb=>by
  let(t1,t2,(a,b',t3),(o4,t4,c4,d4),(o5,t5,c5,d5)):=st;simp only[List.mem_cons,List.not_mem_nil,or_false]at hb;rcases hb with rfl|rfl|rfl|rfl|rfl
  ·exact(_,t1,λv q=>by cases q)
  ·exact(_,t2,λv q=>by cases q)
  ·exact(_,t3,λv q=>by cases q)
  ·exact(_,t4,λv q=>by rw[d4]at q;cases q)
  ·exact(_,t5,λv q=>by rw[d5]at q;cases q)
 keep:=λi h h' st k=>by
  let(t1,t2,(a,b',t3),t4,t5):=st;exact(k z (by simp) _ t1,k TI (by simp) _ t2,(a,b',k TO (by simp) _ t3),t4.at λo e=>k i1 (by simp) o e,t5.at λo e=>k i2 (by simp) o e)
 item:=by
  intro X hP hw hK hc i pins s Z H E I hf st hg;subst hP hw hK;let(xs,ys,x,y,q1,q2,hx,hy):=hg;let(its1,rv1,p1,_):=I.list q1;let(its2,rv2,p2,_):=I.list q2;let(u,hu,ru):=rv1.get hx;let(v,hv,rv):=rv2.get hy;have D:=uR f st p1 p2;let(t1,t2,(a,b',t3),t4,t5):=id st;have lt:∀b∈[z,TI,TO,i1,i2],b<s.heap.objs.size:=λb hb=>by
   simp only[List.mem_cons,List.not_mem_nil,or_false]at hb;rcases hb with rfl|rfl|rfl|rfl|rfl
   ·exact cy t1
   ·exact cy t2
   ·exact cy t3
   ·let(_,e,_):=t4;exact cy e
   ·let(_,e,_):=t5;exact cy e
  refine wpAny_pyNext_zip_item D t1 t2 t3 t4 t5 p1.isList p2.isList (by simpa using hu) (by simpa using hv) λh' z' TO' i1' i2' pr sz kp=>(.ref s.heap.objs.size,rfl,wpAny_letOwnedTupleGo_zip z' λh'' z'' sb=>?_);have hTI:=kp _ _ f.TIz f.TITO f.TIi1 f.TIi2 t2;have nz:=Nat.ne_of_gt (lt z (by simp));have kk:∀b o,b∉[z,TI,TO,i1,i2]->s.heap.get? b=some o->h''.get? b=some o:=λb o nb e=>by
   simp only[List.mem_cons,List.not_mem_nil,or_false,not_or]at nb;exact(sb.2 b nb.1).trans (kp b o nb.1 nb.2.2.1 nb.2.2.2.1 nb.2.2.2.2 e)
  have new:IsTup h'' s.heap.objs.size #[u,v]:=(_,(sb.2 _ nz).trans pr,rfl,0,rfl)
  refine(.ref s.heap.objs.size,_,I.yL kk hf (bJ _) (sizeLine_eq▸(by decide:2<=16777216),[u,v],.cons ru (.cons rv .nil),new),rfl,(_,x,y,rfl,I.aP.fresh (bJ _),λzs hz=>(I.gy hz q1)▸hx,λzs hz=>(I.gy hz q2)▸hy,rfl),?_,λb hb=>?_)
  ·exact(z'',(sb.2 _ f.TIz).trans hTI,(u,v,(sb.2 _ f.TOz).trans TO'),i1'.at λo e=>(sb.2 _ f.i1z).trans e,i2'.at λo e=>(sb.2 _ f.i2z).trans e)
  ·rw[ae (fu (lt b hb))];exact(hf b hb).1
 done:=by
  intro X hP hw hK hc i pins s Z H E I hf st hg;subst hP hw hK;let(xs,ys,q1,q2,hx):=hg;let(its1,rv1,p1,_):=I.list q1;let(its2,rv2,p2,_):=I.list q2;have D:=uR f st p1 p2;let(t1,t2,(a,b',t3),t4,t5):=id st;have e1:=rv1.length;have e2:=rv2.length;refine wpAny_pyNext_zip_end (I.ok.hd hc) D t1 t2 t3 t4 t5 p1.isList p2.isList ?_ λh' kp=>(rfl,I.yT (λb o nb e=>?_) hf)
  ·simp_all
  ·simp only[List.mem_cons,List.not_mem_nil,or_false,not_or]at nb;exact kp b o nb.1 nb.2.2.1 nb.2.2.2.1 nb.2.2.2.2 e
 self:=λ_ _ _ _ _ st h=>wpAny_pyIter_zip st.1 h
def zf(n:Nat):Zf (n+4) (n+2) (n+3) n (n+1):=by
 refine(?_,?_,?_,?_,?_,?_,?_,?_,?_,?_)<;>intro h<;>simp at h<;>omega
section
variable{X:Cx}
def RY(K:Wf)(ta:TA):TI:=λZ H R=>ta Z H λvs H1=>∃a b xs ys,vs=[.ref a,.ref b]/\az K H1 a xs/\az K H1 b ys/\R (UB K a b) H1
def NP{elts:List Expr}{x1}{tp:Pos}{a b:Expr}{ta:TA}{p pos:Pos}(hg:Gl X "zip")(hm:X.mg "zip" = none)(ha:PA X [a,b] ta)(hs:starEach [a,b] X.env=[⟨false,eval a X.env⟩,⟨false,eval b X.env⟩]:=by rfl)(hs2:starEach [b] X.env=[⟨false,eval b X.env⟩]:=by rfl):
  PI X (.Tuple elts x1 tp) (.Call (.Name "zip" p) [a,b] [] pos) (RY X.K ta):=by
 intro pins s Z H R I h;refine Call_ (iy I hg hm boot_zip (PyProof.Rows.callWith_type1 (bL (ha pos pins s Z H _ I h) λus s1 (vs,H1,I1,r1,q1)=>?_) (by rw[hs,hs2]) (by rw[hs2];rfl)));let(l1,l2,xs,ys,e,h1,h2,q):=q1;subst e;cases r1 with
 |cons r rr=>
  cases rr with
  |cons r' rr=>
   cases rr;cases r;cases r';let(its1,rv1,p1,_):=I1.list h1;let(its2,rv2,p2,_):=I1.list h2;refine call_zip_2 p1.isList p2.isList λh' z TI TO j1 j2 sz kp=>?_;have I2:=I1.kept (t':=s1.toks) kp;refine wpAny_pyIter_zip z ((_,_,_,_,H1,rfl,I2,DA l1 l2 (zf s1.heap.objs.size),(z,TI,(_,_,TO),j1,j2),λb hb=>?_,q));have lb:s1.heap.objs.size<=b:=by
    simp only[List.mem_cons,List.not_mem_nil,or_false]at hb;rcases hb with rfl|rfl|rfl|rfl|rfl
    ·exact QR _ 4
    ·exact QR _ 2
    ·exact QR _ 3
    ·exact bJ _
    ·exact QR _ 1
   exact I1.qF lb (I1.aP.fresh lb)
end
theorem PS.zl{X:Cx}{st:Stmt}{t:TS}(h:PS X.zl st t):PS X st t:=λpins s Z H D I hw=>
 jV (h pins s Z H D (I.lN _) hw) (λ_ _ q=>q.fN) λ_ _ q=>q.elim
def TV(K:Wf)(a:Addr):It:=
 (λi H=>∃ xs x, az K H a xs /\ xs[i]? = some x,
  λi H v H'=>∃q x,v=.ref q/\H q=none/\(∀xs,az K H a xs->xs[i]?=some x)/\H'=upd H q (.tup [.int i,x]),
  λi H=>∃xs,az K H a xs/\xs.length<=i)
def Te(e it l:Addr)(i:Nat)(h:Heap):Prop:=(∃old,IsEnum h e it i old)/\h.IsListIter it l i
theorem zW{P:Program}{w:World}{K:Wf}{elts:List Expr}{x1}{pos:Pos}{e it:Addr}(l:Addr)(f:e≠it):Turn P w K (.Tuple elts x1 pos) (TV K l) [e,it] e (Te e it l) where
 mem:=by simp
 obj:=λi h st b hb=>by
  let((old,t1),(o4,t4,c4,d4)):=st;simp only[List.mem_cons,List.not_mem_nil,or_false]at hb;rcases hb with rfl|rfl
  ·exact(_,t1,λv q=>by cases q)
  ·exact(_,t4,λv q=>by rw[d4]at q;cases q)
 keep:=λi h h' st k=>by
  let((old,t1),t4):=st;exact((old,k e (by simp) _ t1),t4.at λo q=>k it (by simp) o q)
 item:=by
  intro X hP hw hK hc i pins s Z H E I hf st hg;subst hP hw hK;let(xs,x,q1,hx):=hg;let(its1,rv1,p1,_):=I.list q1;let(u,hu,ru):=rv1.get hx;let((old,t1),t4):=id st;have lt:∀b∈[e,it],b<s.heap.objs.size:=λb hb=>by
   simp only[List.mem_cons,List.not_mem_nil,or_false]at hb;rcases hb with rfl|rfl
   ·exact cy t1
   ·let(_,q,_):=t4;exact cy q
  refine wpAny_pyNext_enum_item t1 t4 p1.isList (by simpa using hu) f λh' z' i1' pr sz kp=>(.ref s.heap.objs.size,rfl,wpAny_letOwnedTupleGo_enum z' λh'' z'' sb=>?_);have nz:=Nat.ne_of_gt (lt e (by simp));have kk:∀b o,b∉[e,it]->s.heap.get? b=some o->h''.get? b=some o:=λb o nb q=>by
   simp only[List.mem_cons,List.not_mem_nil,or_false,not_or]at nb;exact(sb.2 b nb.1).trans (kp b o nb.1 nb.2 q)
  have new:IsTup h'' s.heap.objs.size #[.int i s.toks,u]:=(_,(sb.2 _ nz).trans pr,rfl,0,rfl)
  refine(.ref s.heap.objs.size,_,I.yL (xs:=[.int i,x]) kk hf (bJ _) (sizeLine_eq▸(by decide:2<=16777216),[_,u],.cons (_,rfl) (.cons ru .nil),new),rfl,(_,x,rfl,I.aP.fresh (bJ _),λzs hz=>(I.gy hz q1)▸hx,rfl),?_,λb hb=>?_)
  ·exact ((_, by have : ((i + 1 : Nat) : Int) = i + 1 := by push_cast; rfl
                 rw[this];exact z''),i1'.at λo q=>(sb.2 _ (Ne.symm f)).trans q)
  ·rw[ae (fu (lt b hb))];exact(hf b hb).1
 done:=by
  intro X hP hw hK hc i pins s Z H E I hf st hg;subst hP hw hK;let(xs,q1,hx):=hg;let(its1,rv1,p1,_):=I.list q1;let((old,t1),t4):=id st;have e1:=rv1.length;refine wpAny_pyNext_enum_end (I.ok.hd hc) t1 t4 p1.isList (by simp;omega) λh' kp=>(rfl,I.yT (λb o nb q=>?_) hf);simp only[List.mem_cons,List.not_mem_nil,or_false,not_or]at nb;exact kp b o nb.2 q
 self:=λ_ _ _ _ _ st h=>by
  let((old,t1),_):=st;exact wpAny_pyIter_enum t1 h
section
variable{X:Cx}
def boot_enumerate:bootBuiltins "enumerate" = some (.type "enumerate"):=by decide +kernel
def Kc(K:Wf)(ta:TA):TI:=λZ H R=>ta Z H λvs H1=>∃a xs,vs=[.ref a]/\az K H1 a xs/\R (TV K a) H1
def yD{K:Wf}(eK:X.K=K){elts:List Expr}{x1}{tp:Pos}{a:Expr}{ta:TA}{p pos:Pos}(hg:Gl X "enumerate")(hm:X.mg "enumerate" = none)(ha:PA X [a] ta)(hs:starEach [a] X.env=[⟨false,eval a X.env⟩]:=by rfl):
  PI X (.Tuple elts x1 tp) (.Call (.Name "enumerate" p) [a] [] pos) (Kc K ta):=by
 subst eK;intro pins s Z H R I h;refine Call_ (iy I hg hm boot_enumerate (PyProof.Rows.callWith_type1 (bL (ha pos pins s Z H _ I h) λus s1 (vs,H1,I1,r1,q1)=>?_) (by rw[hs];rfl) (by rfl)));let(l1,xs,e,h1,q):=q1;subst e;cases r1 with
 |cons r rr=>
  cases rr;cases r;let(its1,rv1,p1,_):=I1.list h1;refine call_enumerate_list p1.isList λh' z j1 sz kp=>?_;have I2:=I1.kept (t':=s1.toks) kp;refine wpAny_pyIter_enum z ((_,_,_,_,H1,rfl,I2,zW l1 (Nat.succ_ne_self _),((_,z),j1),λb hb=>?_,q));have lb:s1.heap.objs.size<=b:=by
   simp only[List.mem_cons,List.not_mem_nil,or_false]at hb;rcases hb with rfl|rfl
   ·exact QR _ 1
   ·exact bJ _
  exact I1.qF lb (I1.aP.fresh lb)
end
def C5(K:Wf)(g:TG)(tb:TS)(D:Ends)(Z:St):List V->Hp->Prop:=λvs H1=>∃a xs,vs=[.ref a]/\az K H1 a xs/\mZ g tb D Z (TV K a) H1
section
variable{K:Wf}{te:TE}{ta:TA}{g:TG}{tb:TS}{D:Ends}{Z:St}{H:Hp}
theorem OT:kD (Kc K ta) g tb D Z H=ta Z H (C5 K g tb D Z):=rfl
def C5.of{a:Addr}{xs:List V}(Pv:Nat->St->Hp->Prop)(h0:Pv 0 Z H)(hl:∀i Z H,i<=xs.length->Pv i Z H->az K H a xs)
  (hs:∀i x Z H q,xs[i]?=some x->Pv i Z H->H q=none->g (.ref q) Z (upd H q (.tup [.int i,x])) λσ2 H2=>tb { D with nx:=Pv (i+1),ct:=Pv (i+1),bk:=D.nx } σ2 H2) (hd:∀Z H,Pv xs.length Z H->D.nx Z H):C5 K g tb D Z [.ref a] H:=by
 refine(a,xs,rfl,hl 0 _ _ (d6 _) h0,λi m Z H=>m=xs.length - i/\i<=xs.length/\Pv i Z H,(xs.length,by simp,Nat.zero_le _,h0),?_);rintro i m Z H ⟨rfl,hi,p⟩;have q:=hl i Z H hi p;by_cases hlt:i<xs.length
 ·refine .inr ((xs,xs[i],q,by simp),Pv (i+1),λσ' H' p'=>(xs.length - (i+1),by lia,rfl,hlt,p'),λx H' y=>?_);let(b,u,rfl,nb,y,rfl):=y;exact hs i u Z H b (y xs q) p nb
 ·have e:i=xs.length:=by lia
  subst e;exact .inl ((xs,q,bJ _),hd Z H p)
end
def Inv.freeze{X:Cx}{pins:Lo}{Z:St}{H:Hp}{s:Shared}{a:Addr}{kvs:List (Key×V)}(I:Inv X pins Z H s)(e:H a=some (.dK kvs)):
  ∃(o:Obj) (vs:List (Key×Value)) (ep:Nat),s.heap.get? a=some o/\(a == sysModules)=false/\KV kvs vs/\KdkAt (bu X.prog X.w) o vs ep/\Inv X pins Z (upd H a (.g7 o (.dK kvs))) s:=by
 let(z,hS,vs,rel,dd):=pP I.aP e;let(ep,o,es,ho,r):=dd.dictAt;refine(o,vs,ep,ho,hS,rel,(es,r),?_);have ne:∀{b:Addr}{u:HO},H b=some u->u≠.dK kvs->b≠a:=λ{b u} q n z=>by rw[z,e]at q;cases q;exact n rfl
 refine I.step (ch:=[]) (λ_ z=>nomatch z) (λb o _ _ _ q _=>q) (λb o _ _ _ q _=>(o.slots,q)) (λb o _ _ n=>?_) (λb o _ q=>(o,q))
  (λb xs q=>(ae (ne q (λz=>nomatch z)))▸q) (λb o u q=>(ae (ne q (λz=>nomatch z)))▸q) (λb ps q=>(#[],by rw[ae (ne q (λz=>nomatch z)),q];simp)) (λm hm=>hm) (λb u q=>?_) I.bare
 ·rw[ae (λz=>by rw[z,e]at n;cases n)];exact n
 ·by_cases z:b=a
  ·subst z;rw[ax]at q;cases q;exact(ho,I.aP b _ e)
  ·rw[ae z]at q;refine(I.aP b u q).gU (λc v _ r=>r) (λc r=>?_) λc xs r=>?_
   ·rw[ae (ne r (λz=>nomatch z))];exact r
   ·rw[ae (ne r (λz=>nomatch z))];exact r
def O9(a:Addr)(o:Obj)(kvs:List (Key×V)):It:=
 (λi H=>H a = some (.g7 o (.dK kvs)) /\ ∃ p, kvs[i]? = some p,
  λi H v H'=>H'=H/\∃p,kvs[i]?=some p/\v=kV p.1,
  λi H=>H a=some (.g7 o (.dK kvs))/\kvs.length<=i)
theorem KV.len{kvs:List (Key×V)}{vs:List (Key×Value)}(h:KV kvs vs):kvs.length=vs.length:=Paired.length h
theorem zN{P:Program}{w:World}{K:Wf}{tg:Expr}{a it:Addr}{o:Obj}{kvs:List (Key×V)}{vs:List (Key×Value)}{ep:Nat}(rel:KV kvs vs)(kd:KdkAt (bu P w) o vs ep):
  Turn P w K tg (O9 a o kvs) [it] it (λi h=>h.IsKeyIter it a i vs.length ep) where
 mem:=by simp
 obj:=λi h st b hb=>by
  have e:=by simpa using hb
  subst e;let(o,e,c,d):=st;exact(o,e,λv z=>by rw[d]at z;cases z)
 keep:=λi h h' st k=>st.at λo e=>k it (by simp) o e
 item:=by
  intro X hP hw hK hc i pins s Z H E I hf st hg;let(hH,p,hp):=hg;let(ho,_):=(I.aP a _ hH)
  have hl:=rel.len;have hil:=(fA.mp hp).1;have hv:vs[i]?=some vs[i]:=jw (by omega);have hk:vs[i].1=p.1:=by
   have e1:(kvs.map (·.1))[i]?=some p.1:=by rw[l_,hp];rfl
   rw[qP rel,l_,hv]at e1;exact Option.some.inj e1
  let(f0,f1,f2,f3,f4,f5):=hf it (by simp);refine wpAny_pyNext_dict_item st (KdkAt.dictAt kd ho) (k:=vs[i].1) hv λkey h' hkey st' sb=>?_;have I1:=I.turned (t':=s.toks) (λb o hb e=>(sb.2 b hb).trans e) f0 f1 f3 f4 f5;let(oi,e,c,d):=id st';rw[hk]at hkey;have rk:RelV (kV p.1) key:=by
   rcases oy hkey with ⟨n,t,e1,rfl⟩|⟨x,t,e1,rfl⟩
   ·rw[e1];exact(t,rfl)
   ·rw[e1];exact(t,rfl)
  exact(key,rfl,sS e c d (by decide) (kV p.1,H,I1,rk,(rfl,p,hp,rfl),st',λb hb=>(hf b hb).1))
 done:=by
  intro X hP hw hK hc i pins s Z H E I hf st hg;let(hH,hi):=hg;let(ho,_):=(I.aP a _ hH)
  let(f0,f1,f2,f3,f4,f5):=hf it (by simp);have hl:=rel.len;exact wpAny_pyNext_dict_end (I.ok.hd hc) st (KdkAt.dictAt kd ho) (by simp;omega) λh' eb=>(rfl,I.turned (t':=s.toks) (λb o hb e=>eb b o hb e) f0 f1 f3 f4 f5)
 self:=λ_ _ _ _ _ st h=>wpAny_pyIter_keyiter st h
section
variable{X:Cx}
def Cz(te:TE):TI:=λZ H R=>te Z H λx H1=>∃a kvs,x=.ref a/\H1 a=some (.dK kvs)/\∀o,R (O9 a o kvs) (upd H1 a (.g7 o (.dK kvs)))
def rY(hl:PE X l tl):PI X tg l (Cz tl):=by
 intro pins s Z H R I h;refine bL (hl pins s Z H _ I h) λv s1 (x,H1,I1,r1,q1)=>?_;let(a,kvs,e,hq,q):=q1;subst e;cases r1;let(o,vs,ep,ho,hS,rel,kd,I2):=I1.freeze hq;refine wpAny_pyIter_dict hS (KdkAt.dictAt kd ho) ((s1.heap.objs.size,[s1.heap.objs.size],_,_,_,rfl,I2.kept λb o e=>cV _ e,zN rel kd,(_,iL _ rfl,rfl,rfl),λb hb=>?_,q o));have e:=by simpa using hb
 subst e;exact I2.qF (bJ _) (I2.aP.fresh (bJ _))
end
def Fn(g:TG)(tb:TS)(D:Ends)(Z:St):VK:=λx H1=>∃a kvs,x=.ref a/\H1 a=some (.dK kvs)/\∀o,mZ g tb D Z (O9 a o kvs) (upd H1 a (.g7 o (.dK kvs)))
section
variable{te:TE}{g:TG}{tb:TS}{D:Ends}{Z:St}{H:Hp}
theorem Pf:kD (Cz te) g tb D Z H=te Z H (Fn g tb D Z):=rfl
def Fn.of{a:Addr}{kvs:List (Key×V)}(hd:H a=some (.dK kvs))(Pv:Obj->Nat->St->Hp->Prop)(h0:∀o,Pv o 0 Z (upd H a (.g7 o (.dK kvs))))(hl:∀o i Z H,i<=kvs.length->Pv o i Z H->H a=some (.g7 o (.dK kvs)))
  (hs:∀o i p Z H,kvs[i]?=some p->Pv o i Z H->g (kV p.1) Z H λσ2 H2=>tb { D with nx:=Pv o (i+1),ct:=Pv o (i+1),bk:=D.nx } σ2 H2) (he:∀o Z H,Pv o kvs.length Z H->D.nx Z H):Fn g tb D Z (.ref a) H:=by
 refine(a,kvs,rfl,hd,λo=>(λi m Z H=>m=kvs.length - i/\i<=kvs.length/\Pv o i Z H,(kvs.length,by simp,Nat.zero_le _,h0 o),?_));rintro i m Z H ⟨rfl,hi,p⟩;have q:=hl o i Z H hi p;by_cases hlt:i<kvs.length
 ·refine .inr ((q,kvs[i],by simp),Pv o (i+1),λσ' H' p'=>(kvs.length - (i+1),by lia,rfl,hlt,p'),λx H' y=>?_);let(rfl,u,hu,rfl):=y;exact hs o i u Z _ hu p
 ·have e:i=kvs.length:=by lia
  subst e;exact .inl ((q,bJ _),he o Z H p)
end
end L2
namespace L2
open PySem
def oB(t:SetTable)(n:Nat):(t.orStandIn n).led=t.led:=by
 unfold SetTable.orStandIn;split<;>rfl
def xq(t:SetTable)(es:Array (Int×Value))(h:Int)(x:Value):(layNew t es h x).2.1.led=t.led:=by
 unfold layNew;split
 ·rename_i slot wd _;exact(oB (t.put slot).1 _)
 ·rfl
def Bd(h:SetTable.laid m f v b c hs=some ⟨t',o⟩):t'.led=b/\t'.plain=c:=by
 unfold SetTable.laid at h;cases hl:SetTable.layClean m hs with
 |none=>rw[hl]at h;cases h
 |some ow=>rw[hl]at h;cases h;exact(rfl,rfl)
def zZ(t:SetTable)(es:Array (Int×Value))(n:Nat):(relayAll t es n).2.1.led=t.led/\((relayAll t es n).2.1.plain=true->t.plain=true):=by
 unfold relayAll;split
 ·rename_i t' o hr;have z:=Bd hr;dsimp only;split
  ·exact(z.1,λq=>z.2▸q)
  ·exact(rfl,λq=>(nomatch q))
 ·exact(rfl,λq=>(nomatch q))
def qd(w:World):Bool:=w.params.followText "set-order"
def txtOf:Value->Str
 |.str x _=>x
 |_=>Str.empty
def jN(w:World)(h:Heap)(a:Addr)(L:List Str):Prop:=
 ∃(es:Array (Int×Value)) (ep:Nat) (t:SetTable),h.get? a=some { cls:=.type "set", dict:=none,data:=.set es ep t,slots:=#[] }/\
  (∀e∈es.toList,∃y k,e=⟨hashStr w y,Value.str y k⟩)/\es.toList.map (λe=>txtOf e.2)=L/\es.size<scanBound/\t.fits es.size=true/\t.led = !qd w/\(t.plain=true->L=[])
section
variable{prog:Program}{w:World}{A:Around}{E:Vs}{s:Shared}{a:Addr}{L:List Str}
theorem mG(h:∀e∈es,∃y k,e=⟨hashStr w y,Value.str y k⟩):ElemsOf (PySem.strKind prog w) es:=λe he=>by
 let(y,k,rfl):=h e he;exact((y,by simp[PySem.strKind,Value.isStrOf],rfl),rfl)
def lY{es:List (Int×Value)}(h:∀e∈es,∃y k,e=⟨hashStr w y,Value.str y k⟩)(x:Str):x∈es.map (λe=>txtOf e.2)↔∃e∈es,(PySem.strKind prog w).is x e.2=true:=by
 constructor
 ·intro hx;let(e,he,rfl):=aK.mp hx;let(y,k,rfl):=h e he;exact(_,he,by simp[PySem.strKind,Value.isStrOf,txtOf])
 ·rintro⟨e,he,hi⟩;let(y,k,rfl):=h e he;let(t,z):=Value.isStrOf_shape (v:=Value.str y k) hi;cases z;exact aK.mpr (_,he,rfl)
def Dj(S:jN w s.heap a L)(hz:L.length+1<scanBound)
  (h:∀h' L' b,Heap.SameBut a s.heap h'->jN w h' a L'->L'.Perm (if x∈L then L else L++[x])->Q b { s with heap:=h' }):
  wpAny 'b' A (setAddHashed a (.str x k) (hashStr w x)) Q E s:=by
 let(es,ep,t,ho,he,hL,hb,hf,hl,hp):=id S;have hel:=mG (prog:=prog) he;have hx:(PySem.strKind prog w).is x (.str x k)=true:=by simp[PySem.strKind,Value.isStrOf]
 have hn:es.size=L.length:=by rw[<-hL,aD,AX]
 refine uB (aB (HA ho rfl hf ?_));dsimp only;rw[byScan_of rfl hb hel,if_pos rfl];refine aB (aB (Ll (aB (wpAny_setScan_of hx ho rfl hf hel ?_))));have gw:∀b {s1:Shared}{Q':Unit->Shared->Prop},Q' () s1->wpAny 'b' A (match b with | true=>rule "set.scan.the-table-gave-way" |false=>pure ()) Q' E s1:=λb s1 Q' q=>by
  cases b
  ·exact bp q
  ·exact Ll q
 cases hr:List.findIdx? (λe=>(PySem.strKind prog w).is x e.2) es.toList with
 |some j=>
  have hm:x∈L:=by
   let(hj,pj,_):=List.findIdx?_eq_some_iff_getElem.mp hr;rw[<-hL];exact(lY he x).mpr (_,Aw hj,pj)
  exact bp (bp (h s.heap L _ (Heap.SameBut.refl a s.heap) S (by rw[if_pos hm])))
 |none=>
  have hm:x∉L:=λhm=>by
   rw[<-hL]at hm;let(e,m,z):=(lY he x).mp hm;have:=List.findIdx?_eq_none_iff.mp hr e m;rw[z]at this;cases this
  have lp:=layNew_perm t es (hashStr w x) (.str x k);have lf:=layNew_fits t es (hashStr w x) (.str x k);have ll:=xq t es (hashStr w x) (.str x k);generalize layNew t es (hashStr w x) (.str x k)=R at lp lf ll ⊢;let(e1,t1,wd,gv):=R;rw[Array.toList_push]at lp;refine aB (gw _ ?_);have he1:∀e∈e1.toList,∃y k,e=⟨hashStr w y,Value.str y k⟩:=λe m=>by
   rcases bT.mp (lp.mem_iff.mp m) with m|m
   ·exact he e m
   ·exact(x,k,bU.mp m)
  have hp1:(e1.toList.map (λe=>txtOf e.2)).Perm (if x∈L then L else L++[x]):=by
   rw[if_neg hm,<-hL];have z:=lp.map (λe=>txtOf e.2);rw[aV]at z;exact z
  have hs1:e1.size=L.length+1:=by
   rw[<-AX,lp.length_eq,cw,AX,hn];rfl
  have hb1:e1.size<scanBound:=hs1▸hz;have tail:∀t2:SetTable,t2.fits e1.size=true->t2.led=(!qd w)->t2.plain=false->
    wpAny 'b' A (do
     storeSet a e1 t2
     if (!wd&&t2.tooFull)=true then do
       (match (relayAll t2 e1 (SetTable.grown e1.size)).2.2 with | true=>rule "set.scan.the-table-gave-way" |false=>pure ())
       storeSet a (relayAll t2 e1 (SetTable.grown e1.size)).1 (relayAll t2 e1 (SetTable.grown e1.size)).2.1
       pure (some true)
      else pure (some true)) (λr s'=>wpAny (model prog w) A (match r with | some b=>pure b | none=>setAddHashedIn a (.str x k) (hashStr w x) 99999) Q E s') E s:=by
   intro t2 f2 l2 p2;have u1:=(SetOf_store (knd:=PySem.strKind prog w) (S':=λy=>decide (y∈e1.toList.map (λe=>txtOf e.2))) ho (rfl,rfl,rfl) rfl (mG he1) (λy=>by rw[decide_eq_true_eq];exact lY he1 y) hb1 f2).1;have sb1:=Heap.SameBut.update s.heap a (Obj.putSet e1 t2);refine aB (wpAny_storeSet_of ho rfl ?_ (fits_of_scanBound hb1));have S1:jN w (s.heap.update a (Obj.putSet e1 t2)) a (e1.toList.map (λe=>txtOf e.2)):=(e1,ep+1,t2,u1,he1,rfl,hb1,f2,l2,λq=>by rw[p2]at q;cases q)
   split
   ·have rp:=relayAll_perm t2 e1 (SetTable.grown e1.size);have rf:=relayAll_fits t2 e1 (SetTable.grown e1.size);have rl:=zZ t2 e1 (SetTable.grown e1.size);generalize relayAll t2 e1 (SetTable.grown e1.size)=R at rp rf rl ⊢;let(e2,t3,g2):=R;have he2:=λe m=>he1 e (rp.mem_iff.mp m);have hs2:e2.size=e1.size:=by rw[<-AX,rp.length_eq,AX]
    have hb2:e2.size<scanBound:=hs2▸hb1;refine aB (gw _ (aB (wpAny_storeSet_of u1 rfl ?_ (fits_of_scanBound hb2))));have u2:=(SetOf_store (knd:=PySem.strKind prog w) (S':=λy=>decide (y∈e2.toList.map (λe=>txtOf e.2))) u1 (rfl,rfl,rfl) rfl (mG he2) (λy=>by rw[decide_eq_true_eq];exact lY he2 y) hb2 rf).1;refine bp (bp (h _ (e2.toList.map (λe=>txtOf e.2)) _ (sb1.trans (Heap.SameBut.update _ a _)) (e2,_,t3,u2,he2,rfl,hb2,rf,rl.1.trans l2,λq=>?_) ((rp.map _).trans hp1)));rw[rl.2 q]at p2;cases p2
   ·exact bp (bp (h _ _ _ sb1 S1 hp1))
  rw[hl]at ll;cases pl:t1.plain with
  |true=>
   exact tail { t1 with plain:=false } (SetTable.fits_plain_off lf) ll rfl
  |false=>
   exact tail t1 lf ll pl
end
end L2
namespace L2
open PySem
theorem lP:Slot "set_iterator" "__next__" "set_iterator.__next__" := .of (owner := "set_iterator") (n := "__next__") (by rw[typeLookup_type,builtinLookup_eq_fast];kernel_rfl) 'e' 'e' 'e' (by first|exact .inl 'e'|exact .inr 'e') (by rw[isSubtype_type];kernel_rfl)
theorem dY:entryFor table "set_iterator.__next__" = some Builtin.«set_iterator.__next__»:=entryFor_of_tree (by kernel_rfl)
def eO(a:Value):argsOk "set_iterator.__next__" ([a],[]):=by unfold argsOk;kernel_rfl
theorem rE:entryFor table "set.__iter__" = some Builtin.«frozenset.__iter__»:=entryFor_alias (id' := "frozenset.__iter__") (by kernel_rfl) rfl 'e' (by kernel_rfl)
def Gf(f:Value)(i:Nat)(a:Value)(n ep:Nat):Obj:={ cls:=.type "set_iterator", data:=.fields #[f,.int i 0,a,.int n 0,.int ep 0] }
section
variable{prog:Program}{w:World}{A:Around}{E:Vs}{s:Shared}{it a:Addr}{i n ep slot next:Nat}{es:Array (Int×Value)}{t:SetTable}{Q:Option Value->Shared->Prop}{x:Value}
def pO(ho:s.heap.get? it=some (Gf (.int slot 0) i (.ref a) n ep))(hs:s.heap.get? a=some { cls:=.type "set", dict:=none,data:=.set es ep t,slots:=#[] })(hf:t.fits es.size=true)(hn:es.size=n)
  (hx:∀(A:Around) (E:Vs) (Q':Option (Value×Nat)->Shared->Prop),Q' (some ⟨x,next⟩) s->wpAny 'b' A (setNext a slot i ep) Q' E s)
  (hQ:∀h',h'.get? it=some (Gf (.int next 0) (i+1) (.ref a) n ep)->Heap.SameBut it s.heap h'->Q (some x) { s with heap:=h' }):wpAny 'b' A (pyNext (.ref it)) Q E s:=by
 have hT:s.TypeIs (.ref it) "set_iterator" := (_,ho,rfl)
 refine aB (Kq (Q5 hT lP (JO lP hT dY ?_ (eO _))));refine aB (bp (aB (wpAny_fieldsOf ho rfl ?_)));dsimp only;refine aB (Rt hs rfl hf ?_);rw[if_neg (by rw[hn];simp)];refine aB (hx _ _ _ ?_);have u1:=AV (Obj.mapFields (·.setIfInBounds 0 (rawInt next))) ho rfl;exact aB (Ks ho rfl (by simp) (wpAny_bind (wpAny_setField u1 rfl (by simp) (wpAny_pure (x,rfl,wpAny_pure (hQ _ (Heap.get?_update_self (Obj.mapFields (·.setIfInBounds 1 (rawInt (i+1)))) u1 rfl) ((Heap.SameBut.update ..).trans (Heap.SameBut.update ..))))))))
def uZ(hh:A.handled=none){h0:Heap}(hQ:∀h',Heap.ExtBut it h0 h'->Q none { s with heap:=h' }):
  wpAny 'b' A.in1 (do let e <-newExc (Value.type "StopIteration") [];raiseNew e) (λ(fin:PySem.Fin) s'=>∃v,fin=Fin.done (Flow.ret v)/\wpAny 'b' A (pure (some v)) Q E s')
  (λe s'=>wpAny 'b' A (do let b <-isInstance e (Value.type "StopIteration");if b=true then pure none else throw e) Q E s') { s with heap:=h0 }:=by
 refine aB (aB (m:=firstArgMember _ _) (wpAny_of_eq (a:=Value.none) (by first|rfl|(simp only)) (wpAny_newObj_type (wpAny_bind (wpAny_handled ?_)) (by size_fits))));rw[hh];refine aB (bp (wpAny_throw ?_));refine aB (wpAny_isInstance (_,iL _ rfl,rfl) isSubtype_stop ?_);exact bp (hQ _ λb o hb e=>(cV _ (cV _ e)))
def o6(hh:A.handled=none)(ho:s.heap.get? it=some (Gf (.int slot 0) i (.ref a) n ep))(hs:s.heap.get? a=some { cls:=.type "set", dict:=none,data:=.set es ep t,slots:=#[] })(hf:t.fits es.size=true)(hn:es.size=n)
  (hx:∀(A:Around) (E:Vs) (Q':Option (Value×Nat)->Shared->Prop),Q' none s->wpAny 'b' A (setNext a slot i ep) Q' E s)
  (hQ:∀h',Heap.ExtBut it s.heap h'->Q none { s with heap:=h' }):wpAny 'b' A (pyNext (.ref it)) Q E s:=by
 have hT:s.TypeIs (.ref it) "set_iterator" := (_,ho,rfl)
 refine aB (Kq (Q5 hT lP (JO lP hT dY ?_ (eO _))));refine aB (bp (aB (wpAny_fieldsOf ho rfl ?_)));dsimp only;refine aB (Rt hs rfl hf ?_);rw[if_neg (by rw[hn];simp)];exact aB (hx _ _ _ (aB (Ks ho rfl (by simp) (uZ hh λh' e=>hQ h' λb o hb z=>e b o hb (((Heap.SameBut.update s.heap it _).2 b hb).trans z)))))
def wF{p:Addr}{ps:List Nat}{j:Nat}{hv:Int}(ho:s.heap.get? it=some (Gf (.ref p) i (.ref a) n ep))(hs:s.heap.get? a=some { cls:=.type "set", dict:=none,data:=.set es ep t,slots:=#[] })(hf:t.fits es.size=true)(hn:es.size=n)
  (hp:s.heap.get? p=some { cls:=.type "tuple", data:=.seq (List.toArray (ps.map λj=>rawInt (j:Nat))) 0 }) (hj:ps[i]?=some j) (hx:es[j]?=some ⟨hv,x⟩)
  (hQ:∀h',h'.get? it=some (Gf (.ref p) (i+1) (.ref a) n ep)->Heap.SameBut it s.heap h'->Q (some x) { s with heap:=h' }):wpAny 'b' A (pyNext (.ref it)) Q E s:=by
 have hT:s.TypeIs (.ref it) "set_iterator" := (_,ho,rfl)
 refine aB (Kq (Q5 hT lP (JO lP hT dY ?_ (eO _))));refine aB (bp (aB (wpAny_fieldsOf ho rfl ?_)));dsimp only;refine aB (Rt hs rfl hf ?_);rw[if_neg (by rw[hn];simp)];refine aB (wpAny_seqItems hp rfl ?_);have e1:(List.map (λj=>rawInt (j:Nat)) ps).toArray[(i:Int).toNat]?=some (.int j 0):=by
  rw[Qx,List.getElem?_toArray,l_,hj];rfl
 dsimp only;rw[e1];refine aB (aB (HA hs rfl hf ?_));dsimp only;rw[Qx,Qx,if_neg (by simp),hx];exact bp (aB (Ks ho rfl (by simp) (wpAny_pure (x,rfl,wpAny_pure (hQ _ (Heap.get?_update_self (Obj.mapFields (·.setIfInBounds 1 (rawInt (i+1)))) ho rfl) (Heap.SameBut.update ..))))))
def m_(hh:A.handled=none){p:Addr}{ps:List Nat}(ho:s.heap.get? it=some (Gf (.ref p) i (.ref a) n ep))(hs:s.heap.get? a=some { cls:=.type "set", dict:=none,data:=.set es ep t,slots:=#[] })(hf:t.fits es.size=true)(hn:es.size=n)
  (hp:s.heap.get? p=some { cls:=.type "tuple", data:=.seq (List.toArray (ps.map λj=>rawInt (j:Nat))) 0 }) (hj:ps[i]?=none)
  (hQ:∀h',Heap.ExtBut it s.heap h'->Q none { s with heap:=h' }):wpAny 'b' A (pyNext (.ref it)) Q E s:=by
 have hT:s.TypeIs (.ref it) "set_iterator" := (_,ho,rfl)
 refine aB (Kq (Q5 hT lP (JO lP hT dY ?_ (eO _))));refine aB (bp (aB (wpAny_fieldsOf ho rfl ?_)));dsimp only;refine aB (Rt hs rfl hf ?_);rw[if_neg (by rw[hn];simp)];refine aB (wpAny_seqItems hp rfl ?_);have e1:(List.map (λj=>rawInt (j:Nat)) ps).toArray[(i:Int).toNat]?=none:=by simp_all
 dsimp only;rw[e1];have u1:=AV (Obj.mapFields (·.setIfInBounds 0 (rawInt 0))) ho rfl;exact aB (Ks ho rfl (by simp) (wpAny_bind (wpAny_setField u1 rfl (by simp) (uZ hh λh' e=>hQ h' λb o hb z=>e b o hb ((((Heap.SameBut.update s.heap it _).trans (Heap.SameBut.update _ it _)).2 b hb).trans z)))))
end
end L2
namespace L2
open PySem
theorem ke:Slot "set_iterator" "__iter__" "set_iterator.__iter__" := .of (owner := "set_iterator") (n := "__iter__") (by rw[typeLookup_type,builtinLookup_eq_fast];kernel_rfl) 'e' 'e' 'e' (by first|exact .inl 'e'|exact .inr 'e') (by rw[isSubtype_type];kernel_rfl)
theorem oq:entryFor table "set_iterator.__iter__" = some Builtin.«dict_keyiterator.__iter__»:=entryFor_alias (id' := "dict_keyiterator.__iter__") (by kernel_rfl) rfl 'e' (by kernel_rfl)
def sk(a:Value):argsOk "set_iterator.__iter__" ([a],[]):=by unfold argsOk;kernel_rfl
theorem jf{α:Type}:∀{l:List α}{i:Nat}(h:i<l.length),(l[i]::l.eraseIdx i).Perm l
 |x::xs,0,_=>.rfl
 |x::xs,i+1,h=>(List.Perm.swap x _ _).trans ((jf (Nat.lt_of_succ_lt_succ h)).cons x)
theorem ym{α:Type}(next:Nat->Nat):∀(f k:Nat) (l:List α) (out:Array α),f=l.length->(pickOrder.go next f k l out).toList.Perm (out.toList++l)
 |0,k,l,out,h=>by
  rw[List.length_eq_zero_iff.mp h.symm,n9];exact .rfl
 |f+1,k,l,out,h=>by
  have hl:next k%l.length<l.length:=Nat.mod_lt _ (by lia)
  unfold pickOrder.go;rw[jw hl];refine(ym next f (k+1) _ _ (by rw[List.length_eraseIdx_of_lt hl];lia)).trans ?_;rw[Array.toList_push,tD];exact List.Perm.append_left _ (jf hl)
def kQ{α:Type}(next:Nat->Nat)(xs:Array α):(pickOrder next xs).toList.Perm xs.toList:=by
 have z:=ym next xs.size 0 xs.toList #[] (by rw[AX])
 exact z
section
variable{prog:Program}{w:World}{A:Around}{E:Vs}{s:Shared}{I a:Addr}{n ep:Nat}{es:Array (Int×Value)}{t:SetTable}
def ite_no{α:Type}{c:Prop} [Decidable c]{x y:Sem α}{Q:α->Shared->Prop}(hc:¬c)(h:wpAny 'b' A y Q E s):wpAny 'b' A (if c then x else y) Q E s:=by
 rw[if_neg hc];exact h
def ite_yes{α:Type}{c:Prop} [Decidable c]{x y:Sem α}{Q:α->Shared->Prop}(hc:c)(h:wpAny 'b' A x Q E s):wpAny 'b' A (if c then x else y) Q E s:=by
 rw[if_pos hc];exact h
theorem oz(h0:0<m)(h:∀i d,i<m->Q i { s with drawn:=d }):wpAny 'b' A (choose src m) Q E s:=λΓ p _=>by
 show Sem.wp _ _ (.choose src m .pure) _ _ _ _;refine(by lia,?_);show Sem.wp _ _ (pure _) _ _ _ _;exact h _ _ (Nat.mod_lt _ h0)
theorem tw{α:Type}:∀(m:Nat) (xs:List α) (s:Shared) {Q:List α->Shared->Prop},m=xs.length->(∀ys d,ys.Perm xs->Q ys { s with drawn:=d })->wpAny 'b' A (drawOrder m xs) Q E s
 |0,xs,s,Q,hm,h=>by
  exact bp (h [] s.drawn (by rw[List.length_eq_zero_iff.mp hm.symm]))
 |m+1,[],s,Q,hm,h=>by simp at hm
 |m+1,x::xs,s,Q,hm,h=>by
  exact aB (oz (by simp) λi d hi=>((List.getElem?_eq_getElem hi)▸wpAny_bind (tw m _ _ (by rw[List.length_eraseIdx_of_lt hi];lia) λys d' hp=>wpAny_pure (h _ d' ((hp.cons _).trans (jf hi))))))
def kC{f:Value}{i:Nat}{a:Value}{Q:Vs}(ho:s.heap.get? I=some (Gf f i a n ep))(h:Q (.ref I) s):wpAny 'b' A (pyIter (.ref I)) Q E s:=by
 have hT:s.TypeIs (.ref I) "set_iterator" := (_,ho,rfl)
 exact wpAny_pyIter_slot hT ke (JO ke hT oq (bp (_,rfl, "set_iterator", _,hT,lP.lookup,h)) (sk _))
abbrev iX(es:Array (Int×Value))(ep:Nat)(t:SetTable):Obj:={ cls:=.type "set", dict:=none,data:=.set es ep t,slots:=#[] }
def oZ(h:xs.size=1)(hx:xs[0]?=some j):SetTable.below xs 0=0/\SetTable.below xs (j+1)=1:=by
 let⟨l⟩:=xs
 match l,h with
 |[x],_=>
  simp at hx;subst hx;simp[SetTable.below,SetTable.below.go]
def Tj(h:xs.size=0)(j:Nat):SetTable.below xs j=0:=by
 unfold SetTable.below;rw[h];rfl
theorem Ah(bt:qd w=true)(hh:A.handled=none)(hne:a≠I)(hf:t.fits es.size=true):
  Walks prog w A I [I,a] [I] es.size (λi v=>∃h,(pickOrder (w.params.setOrder a ep) es)[i]?=some ⟨h,v⟩) (λi h=>h.get? I=some (Gf (.int 0 0) i (.ref a) es.size ep)/\h.get? a=some (iX es ep t)) where
 sub:=λb hb=>by simp at hb;simp[hb]
 frame:=λ_ _ _ st k=>(k I (by simp) _ st.1,k a (by simp) _ st.2)
 item:=λi s Q E hi st hQ=>by
  have hlen:=by
   have z:=(kQ (w.params.setOrder a ep) es).length_eq;simpa using z
  obtain⟨x,hx⟩:∃x,(pickOrder (w.params.setOrder a ep) es)[i]?=some x:=(_,RR (hlen▸hi))
  refine pO st.1 st.2 hf rfl (λA E Q' q=>(aB (HA st.2 rfl hf (aB (aB (Gp (bp ?_))))))) λh' o' sb=>hQ x.2 h' s.toks (x.1,hx) (o',(sb.2 a hne).trans st.2) λb o hb e=>(sb.2 b (by simpa using hb)).trans e;rw[show 'b'.w.params.followText "set-order" = true from bt,if_pos rfl,if_neg (by simp)];refine aB (aB (HA st.2 rfl hf (aB (aB (Gp (bp ?_))))));rw[show 'b'.w.params.followText "set-order" = true from bt,if_pos rfl];refine aB (Gp (bp (bp ?_)));rw[show(pickOrder ('b'.w.params.setOrder a ep) es)[i]?=some x from hx];exact q
 done:=λs Q E st hQ=>by
  refine o6 hh st.1 st.2 hf rfl (λA E Q' q=>?_) λh' e=>hQ h' s.toks λb o hb z=>e b o (by simpa using hb) z;have hlen:=by
   have z:=(kQ (w.params.setOrder a ep) es).length_eq;simpa using z
  refine aB (HA st.2 rfl hf (aB (aB (Gp (bp ?_)))));rw[show 'b'.w.params.followText "set-order" = true from bt,if_pos rfl,if_neg (by simp)];refine aB (aB (HA st.2 rfl hf (aB (aB (Gp (bp ?_))))));rw[show 'b'.w.params.followText "set-order" = true from bt,if_pos rfl];refine aB (Gp (bp (bp ?_)));rw[Array.getElem?_eq_none (hlen▸bJ _)];exact q
 self:=λ_ _ _ _ st hQ=>kC st.1 hQ
theorem Ai(bt:qd w=false)(hh:A.handled=none)(hne:a≠I)(hf:t.fits es.size=true)(hl:t.led=true)(h1:es.size<=1):
  Walks prog w A I [I,a] [I] es.size (λi v=>∃h,es[i]?=some ⟨h,v⟩) (λi h=>(∃sl,h.get? I=some (Gf (.int (sl:Nat) 0) i (.ref a) es.size ep)/\(i=0->sl=0)/\(i=1->∃j,t.place[0]?=some j/\sl=j+1))/\h.get? a=some (iX es ep t)) where
 sub:=λb hb=>by simp at hb;simp[hb]
 frame:=λ_ _ _ st k=>by
  let((sl,o,z),q):=st;exact((sl,k I (by simp) _ o,z),k a (by simp) _ q)
 item:=λi s Q E hi st hQ=>by
  let((sl,o,z0,z1),hs):=st;have e1:es.size=1:=by lia
  have i0:i=0:=by lia
  subst i0;have s0:=z0 rfl;subst s0;have hp:t.place.size=1:=by
   have z:=hf;simp only[SetTable.fits,Bool.and_eq_true,beq_iff_eq]at z;lia
  obtain⟨j,hj⟩:∃j,t.place[0]?=some j:=(_,RR (by lia))
  obtain⟨⟨hv,x⟩,hx⟩:∃x,es[0]?=some x:=(_,RR (by lia))
  refine pO o hs hf rfl (λA E Q' q=>?_) λh' o' sb=>hQ x h' s.toks (hv,hx) ((j+1,o',λz=>absurd z (by lia),λ_=>(j,hj,rfl)),(sb.2 a hne).trans hs) λb o hb e=>(sb.2 b (by simpa using hb)).trans e;refine aB (HA hs rfl hf (aB (aB (Gp (bp ?_)))));dsimp only;rw[show 'b'.w.params.followText "set-order" = false from bt,if_neg (by simp)];refine ite_no (λz=>absurd (show (!t.plain&&decide (es.size>1))=true from z) (by rw[e1];simp)) (wpAny_bind ?_);show wpAny _ _ (if (!t.led && !es.isEmpty)=true then unsupported "set:maker-not-led" else pure ()) _ _ _;rw[hl,if_neg (by simp)];refine bp ?_;rw[(oZ hp hj).1,hx,hj];exact bp q
 done:=λs Q E st hQ=>by
  let((sl,o,z0,z1),hs):=st;refine o6 hh o hs hf rfl (λA E Q' q=>?_) λh' e=>hQ h' s.toks λb o hb z=>e b o (by simpa using hb) z;refine aB (HA hs rfl hf (aB (aB (Gp (bp ?_)))));dsimp only;rw[show 'b'.w.params.followText "set-order" = false from bt,if_neg (by simp)];refine ite_no (λz=>absurd (show (!t.plain&&decide (es.size>1))=true from z) (by simp;omega)) (wpAny_bind ?_);show wpAny _ _ (if (!t.led && !es.isEmpty)=true then unsupported "set:maker-not-led" else pure ()) _ _ _;rw[hl,if_neg (by simp)];refine bp ?_;have hb:es[SetTable.below t.place sl]?=none:=by
   have z:=hf;simp only[SetTable.fits,Bool.and_eq_true,beq_iff_eq]at z;by_cases e1:es.size=1
   ·let(j,hj,rfl):=z1 e1;rw[(oZ (by lia) hj).2];exact Array.getElem?_eq_none (by lia)
   ·grind
  exact hb▸bp q
 self:=λ_ _ _ _ st hQ=>by
  let((sl,o,_),_):=st;exact kC o hQ
theorem ug{p:Addr}{ps:List Nat}(hh:A.handled=none)(hne:a≠I)(hpI:p≠I)(hf:t.fits es.size=true)(hps:ps.Perm (List.range es.size)):
  Walks prog w A I [I,a,p] [I] es.size (λi v=>∃j h,ps[i]?=some j/\es[j]?=some ⟨h,v⟩) (λi h=>h.get? I=some (Gf (.ref p) i (.ref a) es.size ep)/\h.get? a=some (iX es ep t)/\h.get? p=some { cls:=.type "tuple", data:=.seq (List.toArray (ps.map λj=>rawInt (j:Nat))) 0 }) where
 sub:=λb hb=>by simp at hb;simp[hb]
 frame:=λ_ _ _ st k=>(k I (by simp) _ st.1,k a (by simp) _ st.2.1,k p (by simp) _ st.2.2)
 item:=λi s Q E hi st hQ=>by
  have hl:ps.length=es.size:=by rw[hps.length_eq,List.length_range]
  obtain⟨j,hj⟩:∃j,ps[i]?=some j:=(_,jw (by lia))
  have hj1:=Je.mp (hps.mem_iff.mp (dZ hj));obtain⟨⟨hv,x⟩,hx⟩:∃x,es[j]?=some x:=(_,RR hj1)
  exact wF st.1 st.2.1 hf rfl st.2.2 hj hx λh' o' sb=>hQ x h' s.toks (j,hv,hj,hx) (o',(sb.2 a hne).trans st.2.1,(sb.2 p hpI).trans st.2.2) λb o hb e=>(sb.2 b (by simpa using hb)).trans e
 done:=λs Q E st hQ=>m_ hh st.1 st.2.1 hf rfl st.2.2 (List.getElem?_eq_none (hps.length_eq▸List.length_range▸bJ _)) λh' e=>hQ h' s.toks λb o hb z=>e b o (by simpa using hb) z
 self:=λ_ _ _ _ st hQ=>kC st.1 hQ
end
end L2
namespace L2
open PySem
section
variable{prog:Program}{w:World}{A:Around}{E:Vs}{s:Shared}{a:Addr}{L:List Str}
theorem EX{es:Array (Int×Value)}:∀(l:List Nat),(∀j∈l,j<es.size)->∀(i j:Nat),l[i]?=some j->(l.filterMap λj=>es[j]?)[i]?=es[j]?
 |[],_,i,j,q=>by simp at q
 |x::l,hl,i,j,q=>by
  have hx:=RR (hl x (.head _));rw[List.filterMap_cons,hx];cases i with
  |zero=>simp at q;subst q;simp
  |succ i=>
   exact EX l (λj hj=>hl j (.tail _ hj)) i j q
def PR(w:World)(ord:List (Int×Value))(i:Nat)(v:Value):Prop:=∃h,ord[i]?=some ⟨h,v⟩
def F_{Q:Vs}{es:Array (Int×Value)}{ep:Nat}{t:SetTable}(ho:s.heap.get? a=some (iX es ep t))(hf:t.fits es.size=true)(hl:t.led = !qd w)(hp:t.plain=true->es.size=0)(hz:es.size<scanBound)
  (hQ:∀(s':Shared) (I:Addr) (fp:List Addr) (St:Nat->Heap->Prop) (P:Nat->Value->Prop) (ord:List (Int×Value)),(∀b o,s.heap.get? b=some o->s'.heap.get? b=some o)->s'.gens=s.gens->s'.os=s.os->
   (∀A':Around,A'.handled=none->Walks prog w A' I fp [I] es.size P St)->St 0 s'.heap->(∀b∈fp,b=a\/s.heap.objs.size<=b)->s.heap.objs.size<=I->ord.Perm es.toList->(∀i v,P i v->PR w ord i v)->Q (.ref I) s'):
  wpAny 'b' A (pyIter (.ref a)) Q E s:=by
 have hT:s.TypeIs (.ref a) "set" := (_,ho,rfl)
 have hlt:=cy ho;refine wpAny_pyIter_slot hT PySem.F.slot_set_iter (JO PySem.F.slot_set_iter hT rE (aB (bp (aB (aB (Rt ho rfl hf (bp (aB (aB (HA ho rfl hf (aB (aB (Gp (bp (bp ?_)))))))))))))) (PySem.F.args_set_iter_1 _));cases bt:qd w with
 |true=>
  refine ite_no (λz=>absurd (show(!(qd w)&&(!t.plain&&decide (es.size>1)))=true from z) (by rw[bt];simp)) (wpAny_bind (wpAny_pure (wpAny_bind (wpAny_setEpoch_of ho rfl hf (wpAny_bind (wpAny_newObj_type (wpAny_pure (_,rfl, "set_iterator", _,(_,iL _ rfl,rfl),lP.lookup,?_))))))));exact hQ _ s.heap.objs.size [s.heap.objs.size,a] _ _ (pickOrder (w.params.setOrder a ep) es).toList (λb o z=>cV _ z) rfl rfl (λA' h'=>Ah bt h' (fu hlt) hf) (iL _ rfl,cV _ ho)
   (λb hb=>by simp at hb;rcases hb with rfl|rfl<;>simp) (Nat.le_refl _) (kQ _ _) λi v (h,z)=>(h,Array.getElem?_toList▸z)
 |false=>
  rw[bt]at hl;by_cases h1:es.size<=1
  ·refine ite_no (λz=>absurd (show(!(qd w)&&(!t.plain&&decide (es.size>1)))=true from z) (by simp;omega)) (wpAny_bind (wpAny_pure (wpAny_bind (wpAny_setEpoch_of ho rfl hf (wpAny_bind (wpAny_newObj_type (wpAny_pure (_,rfl, "set_iterator", _,(_,iL _ rfl,rfl),lP.lookup,?_))))))));exact hQ _ s.heap.objs.size [s.heap.objs.size,a] _ _ es.toList (λb o z=>cV _ z) rfl rfl (λA' h'=>Ai bt h' (fu hlt) hf hl h1) ((0,iL _ rfl,λ_=>rfl,λz=>absurd z (by lia)),cV _ ho)
    (λb hb=>by simp at hb;rcases hb with rfl|rfl<;>simp) (Nat.le_refl _) .rfl λi v (h,z)=>(h,Array.getElem?_toList▸z)
  ·have np:t.plain=false:=by
    cases z:t.plain with
    |false=>rfl
    |true=>exact absurd (hp z) (by lia)
   refine ite_yes (show(!(qd w)&&(!t.plain&&decide (es.size>1)))=true by rw[bt,np];simp;lia) (wpAny_bind (tw es.size (List.range es.size) s (by simp) λps d hps=>(wpAny_bind <| wpAny_newTuple ?_ (by rw[List.length_map,hps.length_eq,List.length_range];exact fits_of_scanBound hz))));have ho1:(s.heap.push { cls:=.type "tuple", data:=.seq (List.toArray (ps.map λj=>rawInt (j:Nat))) 0 }).get? a=some (iX es ep t):=cV _ ho;refine aB (wpAny_setEpoch_of ho1 rfl hf (aB (Gj (bp (_,rfl, "set_iterator", _,(_,iL _ rfl,rfl),lP.lookup,?_)))));have hs1:(s.heap.push { cls:=.type "tuple", data:=.seq (List.toArray (ps.map λj=>rawInt (j:Nat))) 0 }).objs.size=s.heap.objs.size+1:=Gg ..;refine hQ _ _ [_,a,s.heap.objs.size] _ _ (ps.filterMap λj=>es[j]?) (λb o z=>cV _ (cV _ z)) rfl rfl (λA' h'=>ug h' (hs1▸fu (JH hlt)) (hs1▸fu (AS _)) hf hps)
    (iL _ rfl,cV _ ho1,cV _ (iL _ rfl)) (λb hb=>?_) (by first|exact xS _|exact hs1.symm▸xS _) ?_ λi v (j,h,z1,z2)=>?_
   ·simp at hb;rcases hb with rfl|rfl|rfl
    ·simp_all
    ·exact .inl rfl
    ·exact .inr (bJ _)
   ·refine(hps.filterMap _).trans ?_;rw[filterMap_getElem?_range]
   ·exact(h,by rw[EX ps (λj hj=>Je.mp (hps.mem_iff.mp hj)) i j z1,z2])
def C2(hT:s.TypeIs (.ref a) "set")(h:Q false s):wpAny 'b' A (Builtin.List.listLengthHint (.ref a)) Q E s:=by
 refine aB (wpAny_specialOf hT PySem.F.slot_set_len.lookup ?_);generalize hid:("set.__len__" : String)=id0;subst hid;exact aB (wpAny_isInstance (b:=true) hT (by rw[isSubtype_type];kernel_rfl) (aB (wpAny_typeOf hT (bp h))))
def uF(S:jN w s.heap a L)(hh:A.handled=none)
  (h:∀(s':Shared) (vs:List Value) (ord:List Str),(∀b o,s.heap.get? b=some o->s'.heap.get? b=some o)->s'.gens=s.gens->s'.os=s.os->ord.Perm L->vs.length=ord.length->(∀(j:Nat) (v:Value),vs[j]?=some v->∃y k,ord[j]?=some y/\v=Value.str y k)->R vs s'):
  wpAny 'b' A (collect (.ref a)) R E s:=by
 let(es,ep,t,ho,he,hL,hb,hf,hl,hp):=id S;have hn:es.size=L.length:=by rw[<-hL,aD,AX]
 have hlt:=cy ho;refine aB (wpAny_runValue (codeAny_builtin PySem.F.entry_proto_collect (aB (Gj (bp (plainId_quiet PySem.F.plain_list_iadd _,codeAny_builtin PySem.F.entry_list_iadd ?_))))));show wpAny _ A.in1 (Builtin.List.listExtendWith 'O' (.ref a) 'O') _ _ _;generalize hH:s.heap.push { cls:=.type "list", data:=.seq ([]:List Value).toArray }=H;have hHs:H.objs.size=s.heap.objs.size+1:=hH▸Gg ..;have hS0:=hH▸iL _ rfl;have ho1:=hH▸cV _ ho;have kp:∀b o,s.heap.get? b=some o->H.get? b=some o:=λb o z=>hH▸cV _ z;refine aB (wpAny_typeOf (_,ho1,rfl) ?_);have h1:Builtin.List.listSameRef 'O' (.ref a)=false:=by simp[Builtin.List.listSameRef];exact Ne.symm (Nat.ne_of_lt hlt)
 refine ite_no (by rw[h1];decide) (aB (F_ ho1 hf hl (λz=>by rw[hn,hp z];rfl) hb λs1 I fp St P ord k1 g1 o1 W st hfp hI hord hP=>?_));have hI':=hHs▸hI;have hSf:s.heap.objs.size∉fp:=λz=>by
  rcases hfp _ z with q|q
  ·exact absurd q (Ne.symm (fu hlt))
  ·exact absurd (q) (hHs▸Nat.not_succ_le_self _)
 have hS1:=k1 _ _ hS0;have ord_len:(ord.map λe=>txtOf e.2).Perm L:=hL▸hord.map _;refine aB (uB (C2 (_,k1 _ _ ho1,rfl) (ite_yes 'e' (aB (Ll (aB (aB (wpAny_updateSeq hS1 rfl ?_))))))));have hS2:=AV (Obj.mapSeq (λq=>q.push Value.none)) hS1 rfl;refine wpAny_updateSeq hS2 rfl ?_;have hS3:=AV (Obj.mapSeq (λq=>q.pop)) hS2 rfl;have k2:∀b o,b≠s.heap.objs.size->s1.heap.get? b=some o->((s1.heap.update s.heap.objs.size (Obj.mapSeq λq=>q.push Value.none)).update s.heap.objs.size (Obj.mapSeq λq=>q.pop)).get? b=some o:=λb o hb z=>
  (A0 _ _ (Ne.symm hb)).trans ((A0 _ _ (Ne.symm hb)).trans z)
 have W1:=(W A.in1 hh).toS;refine bp (plainId_quiet PySem.F.plain_extend_loop _,codeAny_extend_loopS W1 (fits_of_scanBound hb) _ hSf _ es.size 0 _ #[] _ rfl (d6 _) ((W A.in1 hh).frame 0 _ _ st λb hb o z=>k2 b o (λq=>hSf (q▸hb)) z) hS3 (ItemsOf.nil _) λs2 acc c hm hS2 hacc=>?_);refine aB (wpAny_load hS2 (bp (h s2 acc.toList (ord.map λe=>txtOf e.2) (λb o z=>?_) (hm.gens.trans g1) (hm.os.trans o1) ord_len ?_ λj v hv=>?_)))
 ·refine hm.heap b o (λq=>?_) (k2 b o (fu (cy z)) (k1 b o (kp b o z)));have lt:=cy z;rcases eP.mp q with q|q
  ·exact absurd lt (q▸k9 _)
  ·rw[bU.mp q]at lt;exact absurd (kA (JH lt) hI') (k9 _)
 ·rw[AX,hacc.1,aD,hord.length_eq,AX]
 ·rw[Td]at hv;let(hh,z):=hP j v (hacc.2 j v hv);let(y,k,e):=he _ (hord.mem_iff.mp (dZ z));refine(y,k,?_,congrArg Prod.snd e);rw[l_,z,e];rfl
end
end L2
namespace L2
open PySem PySem.Spec
section
variable{prog:Program}{w:World}{A:Around}{E:Vs}
def Ax(a:Value){Q₁:Vs}(h:Q₁ 'O' { s with heap:=s.heap.push (iX #[] 0 (.fresh 0 0 (!qd w))) }):
  codeAny 'b' A (.call (.builtin "set.__new__") ([.type "set", a],[])) (wants Q₁ E) s:=by
 refine codeAny_of_tree (aB (wpAny_of_eq (PySem.F.newCall_set_1 a) (bp (plainId_quiet PySem.F.plain_set_new _,codeAny_builtin PySem.F.entry_set_new ?_))));have hs:=sub_set_self
 wp_walk
 exact Gp (bp (aB (wpAny_alloc (bp (bp h)))))
theorem vZ{h:Heap}:jN w (h.push (iX #[] 0 (.fresh 0 0 (!qd w)))) h.objs.size []:=
 (#[],0,_,iL _ rfl,λe he=>by simp at he,rfl,by decide,rfl,rfl,λ_=>rfl)
theorem jN.keep{h h':Heap}{a:Addr}{L:List Str}(S:jN w h a L)(k:∀o,h.get? a=some o->h'.get? a=some o):jN w h' a L:=
 let (es,ep,t,ho,r):=S;(es,ep,t,k _ ho,r)
def F8{L L':List Str}{x:Str}(h:L'.Perm (if x∈L then L else L++[x]))(hn:L.Nodup):L'.Nodup/\(∀y,y∈L'↔y∈L\/y=x)/\L'.length<=L.length+1:=by
 by_cases m:x∈L
 ·rw[if_pos m]at h;exact(h.symm.nodup hn,λy=>by rw[h.mem_iff];exact(.inl,λz=>z.elim id λe=>e▸m),by rw[h.length_eq];lia)
 ·rw[if_neg m]at h;refine(h.symm.nodup ?_,λy=>by rw[h.mem_iff];simp,by rw[h.length_eq];simp);rw[i6];exact(hn,by simp,λa ha b hb=>by simp at hb;subst hb;exact λe=>m (e▸ha))
def DV{R:Result->Shared->Prop}{I:Addr}{fp wr:List Addr}{G:Array GenState->Array GenState->Prop}{n:Nat}{P:Nat->Value->Prop}{St:Nat->Shared->Prop}(W:WalksS prog w A.in1 I fp wr G n P St)(S:Addr)(hSf:S∉fp)
  (val:Nat->Str) (hval:∀i v,P i v->∃t,v=Value.str (val i) t) (hb:n+1<scanBound):
  ∀(k i:Nat) (s:Shared) (L:List Str),n - i=k->i<=n->St i s->jN w s.heap S L->L.Nodup->L.length<=i->(∀y,y∈L↔∃j,j<i/\val j=y)->
   (∀s' L',Moved (S::wr) G s s'->jN w s'.heap S L'->L'.Nodup->L'.length<=n->(∀y,y∈L'↔∃j,j<n/\val j=y)->R (.ok (.ret .none)) s')->
   codeAny 'b' A (.builtin "set.update.loop" ([.ref S,.ref I],[])) R s:=by
 have hSw:=λh=>hSf (W.sub _ h);have sub:∀b∈wr,b∈S::wr:=λb hb=>jQ _ hb;intro k
 induction k with
 |zero=>
  intro i s L hk hi st hS hN hl hm hR;obtain rfl:i=n:=by lia
  exact codeAny_builtin PyProof.Rows.F.entry_set_update_loop (aB (W.done s _ _ st λs' mv=>(bp (hR s' L (mv.mono sub) (hS.keep λo z=>mv.heap S o hSw z) hN hl hm))))
 |succ k ih=>
  intro i s L hk hi st hS hN hl hm hR;have lt:i<n:=by lia
  refine codeAny_builtin PyProof.Rows.F.entry_set_update_loop (aB (W.item i s _ _ lt st λv s' hP st' mv=>?_));let(t,rfl):=hval i v hP;have hS':=hS.keep λo z=>mv.heap S o hSw z;refine aB (uB (uB (aB ((PySem.strKind prog w).pyHash (k:=val i) (by simp[PySem.strKind,Value.isStrOf]) (Dj hS' (by lia) λh' L' b sb S2 pm=>?_)))));let(n2,m2,l2):=F8 pm hN;refine bp (plainId_quiet PyProof.Rows.F.plain_set_update_loop _,ih (i+1) _ L' (by lia) lt (W.frame _ s' _ _ st' (xS _) λb hb o e=>?_) S2 n2 (by lia) (λy=>?_) λs'' L'' mv' S3 n3 l3 m3=>?_)
  ·rw[sb.2 b (λh:b=S=>hSf (h▸hb))];exact e
  ·grind
  ·refine hR s'' L'' (Moved.trans W.gtrans ((mv.mono sub).then_heap (xS _) λb o hb e=>?_) mv') S3 n3 l3 m3;rw[sb.2 b (λh:b=S=>hb (h▸mm))];exact e
set_option maxHeartbeats 3200000 in
def z_{s:Shared}{l:Addr}{items:Array Value}{val:Nat->Str}{Q:Vs}(hh:A.handled=none)(hl:s.heap.IsList l items)(hi:∀(i:Nat) (v:Value),items[i]?=some v->∃t,v=Value.str (val i) t)(hb:items.size+1<scanBound)
  (h:∀(h':Heap) (tk:Nat) (L:List Str),jN w h' s.heap.objs.size L->L.Nodup->L.length<=items.size->(∀y,y∈L↔∃j,j<items.size/\val j=y)->(∀b o,s.heap.get? b=some o->h'.get? b=some o)->Q 'O' { s with heap:=h',toks:=tk }):
  wpAny 'b' A (call (.type "set") [.ref l]) Q E s:=by
 let(c0,tl0,mro0):=PySem.F.called_set.mro;have made0:=PySem.F.called_set.made;have sub0:=PySem.F.called_set.sub;refine Gm (codeAny_of_tree (show wpAny _ _ (callAny (.type "set") _) _ _ _ from ?_));refine bp (Code.quiet_builtin _ 'e',codeAny_builtin PySem.F.entry_type_call ?_);rw[Around.under_plain (weight_type_call_type "set" [.ref l] []) rfl];have n1:=PySem.F.called_set.notType;have n2:=PySem.F.called_set.canCreate;have n3:=PySem.F.typeCall_set_1 (.ref l)
 repeat (any_goals (first|assumption|wp_step))
 refine codeAny_mono (Ax (.ref l) (E:=E) (Q₁:=λobj s1=>obj=.ref s.heap.objs.size/\s1={ s with heap:=s.heap.push (iX #[] 0 (.fresh 0 0 (!qd w))) }) (rfl,rfl)) λr s1 hr=>?_;cases r with
 |error e=>exact hr
 |ok fl=>
  cases fl with
  |ret obj=>
   let(rfl,rfl):=hr;have hS:(s.heap.push (iX #[] 0 (.fresh 0 0 (!qd w)))).get? s.heap.objs.size=some (iX #[] 0 (.fresh 0 0 (!qd w))):=iL _ rfl;have hT:Shared.TypeIs { s with heap:=s.heap.push (iX #[] 0 (.fresh 0 0 (!qd w))) } 'O' "set" := (_,hS,rfl)
   have li:=PySem.F.called_set.init.lookup;have bi:=PySem.F.called_set.init.bind 'O'
   repeat (any_goals (first|assumption|wp_step))
   refine codeAny_mono (codeAny_call_builtin (R:=wants (λr s2=>r=.none/\∃h' tk L,s2={ s with heap:=h',toks:=tk }/\jN w h' s.heap.objs.size L/\L.Nodup/\L.length<=items.size/\(∀y,y∈L↔∃j,j<items.size/\val j=y)/\∀b o,s.heap.get? b=some o->h'.get? b=some o) E) PySem.F.called_set.init.plain PySem.F.entry_set_init (check_set_init_1 hT ?_)) λr2 s2 hr2=>?_
   ·let(ol,hol,hcl,nl,hdl):=hl;let(ocls,odict,odata,oslots):=ol;simp only at hcl hdl;subst hcl hdl;have hol':(s.heap.push (iX #[] 0 (.fresh 0 0 (!qd w)))).get? l=some { cls:=.type "list", dict:=odict,data:=.seq items nl,slots:=oslots }:=cV _ hol;have q1:=PySem.F.sub_list_set;have q2:=PySem.F.sub_list_frozenset;have q3:(Value.type "list" == Value.type "dict")=false:=by decide
    have hl1:(s.heap.push (iX #[] 0 (.fresh 0 0 (!qd w)))).IsList l items:=(_,hol',rfl,nl,rfl)
    unfold Builtin.«set.__init__» noKeywords Builtin.Frozenset.updateFrom;generalize hPI:pyIter=PI
    wp_walk
    subst hPI;refine wpAny_pyIter_list hl1 (aB (wpAny_runValue ?_));have hlS:l<s.heap.objs.size:=cy hol;have hs1:(s.heap.push (iX #[] 0 (.fresh 0 0 (!qd w)))).objs.size=s.heap.objs.size+1:=Gg ..;have h3:A.in1.in1.in1.handled=none:=by simp[hh]
    have nI:l≠(s.heap.push (iX #[] 0 (.fresh 0 0 (!qd w)))).objs.size:=hs1▸fu (JH hlS);have hSf:s.heap.objs.size∉[(s.heap.push (iX #[] 0 (.fresh 0 0 (!qd w)))).objs.size,l]:=by
     rw[hs1];simp only[List.mem_cons,List.not_mem_nil,or_false,not_or];exact(fu (AS _),Nat.ne_of_gt hlS)
    refine DV ((Walks.list h3 _ l nI items).toS) s.heap.objs.size hSf val hi hb (items.size - 0) 0 _ [] (by lia) (d6 _) ((_,iL _ rfl,rfl,rfl),(hl1.push _))
     (vZ.keep λo z=>cV _ z) .nil (d6 _) (λy=>by simp) λs' L' mv S' N' l' m'=>?_
    let(h',g',d',tk',os'):=s';obtain rfl:g'=s.gens:=mv.gens;obtain rfl:d'=s.drawn:=mv.drawn;obtain rfl:os'=s.os:=mv.os;show wpAny _ _ _ _ _ _;refine bp ?_;show wpAny _ _ (ret Value.none) _ _ _;refine bp (rfl,h',tk',L',rfl,S',N',l',m',λb o e=>?_);have lt:=cy e;exact mv.heap b o (by rw[hs1];simp only[List.mem_cons,List.not_mem_nil,or_false,not_or];exact(Nat.ne_of_lt lt,Nat.ne_of_lt (Nat.lt_succ_of_lt lt))) (Heap.get?_push_of_some _ (Heap.get?_push_of_some _ e))
   ·cases r2 with
    |error e=>exact hr2
    |ok f2=>
     cases f2 with
     |ret r=>
      let(rfl,h',tk,L,rfl,S',N',l',m',k'):=hr2
      repeat (any_goals (first|assumption|wp_step))
      exact h _ _ _ S' N' l' m' k'
     |_=>exact hr2.elim
  |_=>exact hr.elim
end
section
open PyProof.Rows
variable{X:Cx}
def zT(w:World)(L:List Str)(a:Addr):HO:=.ext λh=>jN w h a L
theorem zT.ok{P:Program}{w:World}{H:Hp}{h:Heap}{a:Addr}{L:List Str}(S:jN w h a L):bS P w H h a (zT w L a):=
 (S,let (_,_,_,ho,_):=S;(_,ho),λ_ _ s k=>s.keep k)
def Rh(w:World)(K:Wf):List V->Hp->VK->Prop:=λxs H Q=>∃(p:Addr) (ss:List Str),xs=[.ref p]/\az K H p 'E'/\ss.length<4000/\∀(q:Addr) (L:List Str),H q=none->L.Nodup->L.length<=ss.length->(∀y,y∈L↔y∈ss)->Q (.ref q) (upd H q (zT w L q))
def By(hc:X.calm=true):bP X (.type "set") (Rh X.w X.K):=by
 intro pins s Z H xs us Q I r h;let(p,ss,rfl,hq,hz,q):=h;let(u,rfl,rx):=vals1 r;cases rx;let(its,r',pl,_):=I.list hq;have hl:its.length=ss.length:=by rw[<-r'.length,aD]
 have at_:∀i v,its.toArray[i]?=some v->∃t,v=Value.str (ss.getD i Str.empty) t:=λi v hv=>by
  rw[List.getElem?_toArray]at hv;have hi:i<ss.length:=hl▸(fA.mp hv).1;let(u,hu,ru):=r'.get (by rw[l_,jw hi];rfl);rw[hv]at hu;cases hu;let(t,rfl):=ru;exact(t,by rw[zM,jw hi];rfl)
 refine z_ (I.ok.hd hc) pl.isList at_ (by rw[i4,hl];show _<4096;lia) λh' tk L S N hle hm kp=>?_;rw[i4,hl]at hle;refine(.ref s.heap.objs.size,_,I.laid kp (bJ _) (zT.ok S),rfl,q _ L (I.aP.fresh (bJ _)) N hle λy=>?_);rw[hm y,i4,hl];constructor
 ·rintro⟨j,hj,rfl⟩;rw[zM,jw hj];exact Aw hj
 ·intro z;let(j,hj,rfl):=GS z;exact(j,hj,by rw[zM,jw hj];rfl)
def uK(w:World):List V->Hp->VK->Prop:=λxs H Q=>∃(p:Addr) (L:List Str),xs=[.ref p]/\H p=some (zT w L p)/\L.length<64/\∀(l:Addr) (ss':List Str),H l=none->ss'.Perm L->ss'.Pairwise h9->Q (.ref l) (upd H l (.lst (ss'.map V.str)))
def rZ(hc:X.calm=true):bP X (.builtin "sorted") (uK X.w):=by
 intro pins s Z H xs us Q I r h;let(p,L,rfl,hq,hz,q):=h;let(u,rfl,rx):=vals1 r;cases rx;have S:=(I.aP p _ hq).1;have hh:X.A.in1.handled=none:=by simp[I.ok.hd hc]
 refine oW (uF S hh λs1 vs ord kp g1 o1 pm hl at_=>((ord,rg hl at_,hl▸pm.length_eq▸hz,λh2 out ss' D e k2 hD hg S2 pm2 pw=>?_)));have I1:=I.mI (ch:=[]) o1 (Un.kept kp) (I.aP.kept kp) (g1▸I.bare) λb hb=>nomatch hb
 exact(.ref D,_,I1.laid (o:=.lst (ss'.map V.str)) k2 hD (by rw[aD,pm2.length_eq,pm.length_eq,sizeLine_eq];lia,out,e,l7 S2,by simpa using hg),rfl,q _ ss' (I1.aP.fresh hD) (pm2.trans pm) pw)
end
end L2
namespace L2
open PySem PySem.Spec PyProof.Rows
section
variable{prog:Program}{w:World}{K:Type} [DecidableEq K]{knd:HeapKind prog w K}{A:Around}{E:Vs}{s:Shared}
def grown{d a:Addr}{o:Obj}{es:Array DictEntry}{ep:Nat}{xs:List (K×Addr×Value)}{k:K}{v:Value}{h:Heap}(ho:h.get? d=some o)(hd:o.data=.dict es ep)(hc:o.ExactDict)
  (he:es.toList=xs.map (entryOfKey knd)) (his:∀x∈xs,knd.is h x.1 x.2.1) (hn:(xs.map (·.1)).Nodup) (hkey:knd.is h k a) (hno:∀(j:Nat) (p:Addr×Value),xs[j]?≠some ⟨k,p⟩):
  (h.update d (Obj.mapDictKeys λl=>l.push (knd.hash k,.ref a,v))).DictOfH knd d (storedH xs k a v):=by
 have e:=storedH_new (atKey_none_of_get hno) a v;have keep:∀{c:K}{b:Addr},knd.is h c b->knd.is (h.update d (Obj.mapDictKeys λl=>l.push (knd.hash k,.ref a,v))) c b:=λq=>knd.keeps q ho hd (Heap.SameBut.update ..);have dat:=Obj.data_mapDictKeys hd λl=>l.push (knd.hash k,.ref a,v);refine e▸(_,es.push (knd.hash k,.ref a,v),ep+1,AV _ ho (Obj.isFreed_of_dict dat),hc.mapDictKeys _,dat,?_,?_,?_)
 ·rw[Array.toList_push,he,aV];rfl
 ·exact λx hx=>(bT.mp hx).elim (λq=>keep (his x q)) λq=>by cases bU.mp q;exact keep hkey
 ·rw[aV];refine i6.mpr (hn,by simp,λx hx y hy q=>not_mem_keys_of_get hno ?_);have ey:=by simpa using hy
  rw[<-ey,<-q];exact hx
def tJ{d a:Addr}{xs:List (K×Addr×Value)}{k:K}{v:Value}{Q:Vs}(hu:knd.room A)(hkey:knd.is s.heap k a)(hm:s.heap.DictOfH knd d xs)(hsz:xs.length<=sizeLine)
  (there:∀u,(atKey xs k).map (·.2)=some u->Q u { s with toks:=s.toks+knd.draws k })
  (new:(atKey xs k).map (·.2)=none->∀h',h'.DictOfH knd d (storedH xs k a v)->Heap.SameBut d s.heap h'->Q v { s with heap:=h',toks:=s.toks+knd.draws k }):
  wpAny 'b' A (dictSetDefault d (.ref a) v) Q E s:=by
 let(o,es,ep,ho,hc,hd,he,his,hn):=hm;have hes:es.size<=sizeLine:=(size_of_entries he)▸hsz;have none_of:∀hno:(∀j p,xs[j]?≠some ⟨k,p⟩),(atKey xs k).map (·.2)=none:=λhno=>by rw[atKey_none_of_get hno];rfl
 exact uB (aB (knd.pyHash hu hkey (aB (wpAny_dictFind_heap hu hkey ho hd he his hn
  (λhno=>aB (Ll (aB (wpAny_updateDictKeys (hz:=hes) ho hd (bp (new (none_of hno) _ (grown ho hd hc he his hn hkey hno) (Heap.SameBut.update ..)))))))
  λj p hj=>aB (wpAny_dictEntries ho hd (by
   rw[entry_at he j,hj];exact aB (Ll (bp (there p.2 (by rw[atKey_of_get hn hj];rfl))))))))))
def BH(knd:HeapKind prog w K){d:Addr}(a:Addr)(hd:(d == sysModules)=false)(x:Value):
  MeetsIn prog w (Builtin.«dict.setdefault» ([.ref d,.ref a,x],[])) λA R s=>knd.room A.in1/\∃k xs,knd.is s.heap k a/\s.heap.DictOfH knd d xs/\xs.length<=sizeLine/\
   (∀v,(atKey xs k).map (·.2)=some v->R (.ok (.ret v)) { s with toks:=s.toks+knd.draws k })/\
   ((atKey xs k).map (·.2)=none->∀h',h'.DictOfH knd d (storedH xs k a x)->Heap.SameBut d s.heap h'->R (.ok (.ret x)) { s with heap:=h',toks:=s.toks+knd.draws k }):=by
 refine .of_wp ?_;rintro A R s ⟨hu,k,xs,hkey,hm,hz,there,new⟩;have main:=tJ (E:=λe s'=>R (.error e) s') hu hkey hm hz there new;refine aB (aB (wpAny_notOrdered_dict hm.typeIs (bp ?_)));simp only[hd];exact aB (jV main (λv s' q=>bp (v,rfl,q)) λ_ _ q=>q)
end
section
variable{X:Cx}{pins:Lo}{Z:St}{H:Hp}{s:Shared}{a:Addr}{y d:V}{u r:Value}{o:Option V}{A:Around}{E:Vs}
def A7{H':Hp}{Q:Vs}(hu:A.units+1<cLine)(I:Inv X pins Z H s)(g:cU H a y o)(p:dQ H a y d H')(ry:RelV y u)(rd:RelV d r)
  (h1:∀v w' s',o=some v->Inv X pins Z H s'->RelV v w'->Q w' s') (h2:∀w' s',o=none->Inv X pins Z H' s'->RelV d w'->Q w' s'):
  wpAny 'c' A (call (.builtin "dict.setdefault") [.ref a,u,r]) Q E s:=by
 rcases p with ⟨kvs,k,e,ey,l,eH⟩|⟨kvs,k,b,e,ey,eb,l,eH⟩
 ·subst ey eH;let(z,hd,vs,rel,dd):=pP I.aP e;have go:o=bE kvs k:=by
   rcases g with ⟨kvs',k',e',ey',l'⟩|⟨kvs',k',b,e',ey',eb',l'⟩
   ·have ek:k'=k:=by cases k<;>cases k'<;>simp_all [kV]
    rcases e' with e'|⟨ob,e'⟩
    ·rw[e]at e';cases e';rw[l',ek]
    ·rw[e]at e';cases e'
   ·cases k<;>cases ey'
  have hz:vs.length<=sizeLine:=rel.length▸z;have hl:(putK kvs k d).length<=sizeLine:=by have:=cJ kvs k d;lia
  refine call_meetsIn PySem.F.slot_dict_setdefault dd.typeIs PySem.F.entry_dict_setdefault (PySem.F.args_dict_setdefault_3 _ _ _) (kt_meets_setdefault (bu X.prog X.w) a (lq ry) hd r) (vs,dd,hz,λv hv=>?_,λhn h' dd' hs=>?_)
  ·have q:=rel.val k;rw[hv]at q;cases ho:bE kvs k with
   |none=>rw[ho]at q;exact q.elim
   |some v'=>rw[ho]at q;exact h1 v' v _ (by rw[go,ho]) (I.tok _) q
  ·have q:=rel.val k;rw[hn]at q;have ho:bE kvs k=none:=by
    cases ho:bE kvs k with
    |none=>rfl
    |some v'=>rw[ho]at q;exact q.elim
   have he:∃q,h'.get? a=some q:=let (q,_,_,hq,_):=dd';(q,hq)
   exact h2 r _ (by rw[go,ho]) (jO I (e▸True.intro) hs he (xE hl hd (rel.put k rd) dd')) rd
 ·subst ey eH;cases ry;let(z,hd,xs,rel,dd):=JA I.aP e;have go:o=bE kvs k:=by
   rcases g with ⟨kvs',k',e',ey',l'⟩|⟨kvs',k',b',e',ey',eb',l'⟩
   ·cases k'<;>cases ey'
   ·cases ey';have ek:k'=k:=by
     rw[eb]at eb';injection eb' with eb';injection eb' with eb';exact(List.map_inj_right (by intro x y q;cases x<;>cases y<;>simp_all [kV])).mp eb'.symm
    rcases e' with e'|⟨ob,e'⟩
    ·rw[e]at e';cases e';rw[l',ek]
    ·rw[e]at e';cases e'
  have hz:xs.length<=sizeLine:=(Paired.length rel)▸z;have hl:(putK kvs k d).length<=sizeLine:=by have:=cJ kvs k d;lia
  refine call_meetsIn PySem.F.slot_dict_setdefault dd.typeIs PySem.F.entry_dict_setdefault (PySem.F.args_dict_setdefault_3 _ _ _) (BH (tupleKind (bu X.prog X.w)) b hd r) (tupleKind_room_in1 hu,k,xs,h_ I.aP eb,dd,hz,λv hv=>?_,λhn h' dd' hs=>?_)
  ·have q:=rel.val k;rw[hv]at q;cases ho:bE kvs k with
   |none=>rw[ho]at q;exact q.elim
   |some v'=>rw[ho]at q;exact h1 v' v _ (by rw[go,ho]) (I.tok _) q
  ·have q:=rel.val k;rw[hn]at q;have ho:bE kvs k=none:=by
    cases ho:bE kvs k with
    |none=>rfl
    |some v'=>rw[ho]at q;exact q.elim
   let(qo,es,ep,hq,g2,g3,g4,_,g5):=dd';exact h2 r _ (by rw[go,ho]) (jO I (e▸True.intro) hs (qo,hq) (hl,hd,_,(rel.put k eb rd).keeps λc ys ec=>((ae (bA ec e (λz=>nomatch z)))▸ec),qo,es,ep,hq,g2,g3,g4,g5)) rd
end
def Ve(td ty tx:TE):TE:=λZ H Q=>td Z H λx H1=>∃a,x=.ref a/\Tu H1 a/\ty Z H1 λy H2=>tx Z H2 λz H3=>∃o H4,cU H3 a y o/\dQ H3 a y z H4/\(∀v,o=some v->Q v H3)/\(o=none->Q z H4)
section
variable{X:Cx}{o e f:Expr}{apos cpos:Pos}{td ty tx:TE}
def vV(hu:X.A.units+1<cLine)(ho:PE X o td)(he:PE X e ty)(hf:PE X f tx)(m:M2 X o "setdefault" apos e f cpos):PE X (.Call (.Attribute o "setdefault" apos) [e,f] [] cpos) (Ve td ty tx):=by
 intro pins s Z H Q I h;refine wpAny_Call_method m.base m.cY m.line PySem.F.plainAttrs_dict PySem.F.slot_dict_setdefault PySem.F.type_dict_setdefault (bL (ho pins s Z H _ I h) λu s1 (x,H1,I1,rx,a,ex,d,q1)=>?_);subst ex;obtain rfl:u=Value.ref a:=rx;let(t1,t2,_):=vv I1 d;refine(t1,t2,?_);rw[m.trees];refine Calls.callWith_builtin rfl (Calls.evalArgs_plain (Calls.spliced_cons (bL (he pins s1 Z H1 _ I1 q1) λiv s2 (y,H2,I2,ry,q2)=>
  Calls.spliced_cons (bL (hf pins s2 Z H2 _ I2 q2) λfv s3 (z,H3,I3,rz,ov,H4,g,p,q3,q4)=>Calls.spliced_nil ?_))))
 exact A7 hu I3 g p ry rz (λv w' s4 e4 I4 rw'=>(v,H3,I4,rw',q3 v e4)) (λw' s4 e4 I4 rw'=>(z,H4,I4,rw',q4 e4))
end
section
variable{prog:Program}{w:World}{A:Around}{E:Vs}{s:Shared}{kd:SortKind}{r:Keyed->Nat}{base:Array Keyed}
def rk(r:Keyed->Nat)(xs:Array Keyed)(i:Nat):Nat:=(xs[i]?.map r).getD 0
def eZ(r:Keyed->Nat)(xs:Array Keyed)(n:Nat):Prop:=∀i j,i<=j->j<n->rk r xs i<=rk r xs j
def j7(r:Keyed->Nat)(xs:Array Keyed)(n:Nat):Prop:=∀i j,i<=j->j<n->rk r xs j<=rk r xs i
def Flat(r:Keyed->Nat)(xs:Array Keyed)(n q:Nat):Prop:=q+1<=n/\∀i,n<=i+(q+1)->i<n->rk r xs i=rk r xs (n - 1)
theorem eZ.one(xs:Array Keyed):eZ r xs 1:=λi j a b=>(show i=j by lia)▸bJ _
theorem j7.one(xs:Array Keyed):j7 r xs 1:=λi j a b=>(show i=j by lia)▸bJ _
theorem eZ.more(h:eZ r xs n)(h1:1<=n)(hn:rk r xs (n - 1)<=rk r xs n):eZ r xs (n+1):=λi j a b=>by
 by_cases z:j<n
 ·exact h i j a z
 ·rw[show j=n by lia];by_cases y:i=n
  ·rw[y];exact bJ _
  ·exact fF (h i (n - 1) (by lia) (by lia)) hn
theorem j7.more(h:j7 r xs n)(h1:1<=n)(hn:rk r xs n<=rk r xs (n - 1)):j7 r xs (n+1):=λi j a b=>by
 by_cases z:j<n
 ·exact h i j a z
 ·rw[show j=n by lia];by_cases y:i=n
  ·rw[y];exact bJ _
  ·exact fF hn (h i (n - 1) (by lia) (by lia))
def lS(hj:j<=xs.size)(k:Nat):rk r (mirror xs i j ((j - i)/2)) k=if i<=k/\k<j then rk r xs (i+j - 1 - k) else rk r xs k:=by
 unfold rk;rw[getElem?_mirror_all hj k];by_cases z:i<=k/\k<j
 ·rw[if_pos z,if_pos z]
 ·rw[if_neg z,if_neg z]
def yS(h:Flat r xs n q)(hn:n<=xs.size)(k:Nat):rk r (mirror xs (n - (q+1)) n ((n - (n - (q+1)))/2)) k=rk r xs k:=by
 rw[lS hn];by_cases z:n - (q+1)<=k/\k<n
 ·rw[if_pos z,h.2 _ (by lia) (by lia),h.2 k (by lia) (by lia)]
 ·rw[if_neg z]
theorem j7.turned(h:j7 r xs n)(hn:n<=xs.size):eZ r (mirror xs 0 n ((n - 0)/2)) n:=λi j a b=>by
 rw[lS hn,lS hn,if_pos (by lia),if_pos (by lia)];exact h _ _ (by lia) (by lia)
structure lU(kd:SortKind)(base:Array Keyed)(st:SortSt):Prop where
 pm:(arrOf st).Perm base
 kd:kindOf st=kd
 ok:failedOf st=none
 pn:pendingOf st=#[]
theorem lU.len{st:SortSt}(h:lU kd base st):(arrOf st).size=base.size:=h.pm.size_eq
theorem lU.put{st:SortSt}(h:lU kd base st){xs:Array Keyed}(p:xs.Perm (arrOf st)):lU kd base (setArr st xs):=(p.trans h.pm,h.kd,h.ok,h.pn)
def q_(prog:Program)(w:World)(A:Around)(E:Vs)(s:Shared)(kd:SortKind)(r:Keyed->Nat)(base:Array Keyed):Prop:=
 ∀x∈base.toList,∀y∈base.toList,∀Q:Bool->Shared->Prop,Q (decide (r x<r y)) s->wpAny 'b' A (keyLt' kd x.1 y.1) Q (λ_ _=>False) s
def asked{st:SortSt}{i j:Nat}{Q:Option Bool->SortSt->Prop}(ask:q_ prog w A E s kd r base)(S:lU kd base st)(hi:i<base.size)(hj:j<base.size)
  (q:Q (some (decide (rk r (arrOf st) i<rk r (arrOf st) j))) st):wpS 'b' A E s (ltAt' i j) Q st:=by
 have li:i<(arrOf st).size:=S.len▸hi;have lj:j<(arrOf st).size:=S.len▸hj;have ei:(arrOf st)[i]?=some (arrOf st)[i]:=getElem?_pos _ i li;have ej:(arrOf st)[j]?=some (arrOf st)[j]:=getElem?_pos _ j lj;have mem:∀{k:Nat} h,(arrOf st)[k]∈base.toList:=λ{k} h=>(Array.perm_iff_toList_perm.mp S.pm).mem_iff.mp (Array.getElem_mem_toList h);unfold rk at q;rw[ei,ej]at q;rw[ltAt'_eq];refine wpS_bind (wpS_get ?_);dsimp only;rw[elem'_eq,elem'_eq,ei,ej];refine wpS_bind (wpS_pure (wpS_bind (wpS_pure ?_)));rw[lt'_eq];exact wpS_bind (wpS_get (wpS_bind (wpS_lift (Kq (S.kd▸jV (ask _ (mem li) _ (mem lj) (λb s'=>b=decide (r (arrOf st)[i]<r (arrOf st)[j])/\s'=s) (rfl,rfl)) (λb s' (e1,e2)=>(e2,by subst e1;exact wpS_pure q)) λ_ _ z=>z.elim)))))
def uU{st:SortSt}{a n:Nat}{Q:AscSt->SortSt->Prop}(ask:q_ prog w A E s kd r base)(S:lU kd base st)(ha:1<=a)(han:a<=n)(hn:n<=base.size)(up:eZ r (arrOf st) a)
  (k:∀m,a<=m->m<=n->eZ r (arrOf st) m->(m=n\/rk r (arrOf st) m<rk r (arrOf st) (m - 1))->Q ⟨none,m⟩ st):wpS 'b' A E s (ascLoop a n) Q st:=by
 refine wpS_forRange (I:=λm c st'=>st'=st/\c=⟨none,m⟩/\eZ r (arrOf st) m) (λm c st' am mn (e1,e2,up')=>?_) (λc st' (e1,e2,up')=>?_) (rfl,rfl,up)
 ·subst e1 e2;refine wpS_bind (asked ask S (by lia) (by show m - 1<_;lia) ?_);by_cases lt:rk r (arrOf st') m<rk r (arrOf st') (m - 1)
  ·simp only[decide_eq_true lt];exact wpS_pure (k m am (by lia) up' (.inr lt))
  ·simp only[decide_eq_false lt];exact wpS_pure (rfl,rfl,up'.more (by lia) (by lia))
 ·simp_all
def pU{st:SortSt}{m n:Nat}{Q:Option Nat->SortSt->Prop}(ask:q_ prog w A E s kd r base)(S:lU kd base st)(h1:1<=m)(hm:m<=n)(hn:n<=base.size)(dn:j7 r (arrOf st) m)
  (k:∀j st',lU kd base st'->1<=j->j<=n->eZ r (arrOf st') j->Q (some j) st'):wpS 'b' A E s (tail3 m n) Q st:=by
 have up:=dn.turned (by rw[S.len];lia);have S':=S.put (mirror_perm (arrOf st) 0 m ((m - 0)/2));exact wpS_bind (wpS_reverse (wpS_bind (uU ask S' h1 hm hn up λj mj jn up' _=>wpS_pure (k j _ S' (by lia) jn up'))))
def zC{st:SortSt}{a n:Nat}{Q:DescSt->SortSt->Prop}(ask:q_ prog w A E s kd r base)(S:lU kd base st)(ha:1<=a)(han:a<=n)(hn:n<=base.size)(dn:j7 r (arrOf st) a)
  (k:∀m q st',lU kd base st'->a<=m->m<=n->j7 r (arrOf st') m->Flat r (arrOf st') m q->Q ⟨none,m,q⟩ st'):wpS 'b' A E s (descLoop a n) Q st:=by
 refine wpS_forRange (I:=λm c st'=>lU kd base st'/\∃q,c=⟨none,m,q⟩/\j7 r (arrOf st') m/\Flat r (arrOf st') m q) (λm c st' am mn (S',q,e,dn',fl)=>?_) (λc st' (S',q,e,dn',fl)=>?_)
  (S,0,rfl,dn,ha,λi p1 p2=>by rw[show i=a - 1 by lia])
 ·subst e;have sz:m<(arrOf st').size:=by rw[S'.len];lia
  have one:∀xs:Array Keyed,Flat r xs (m+1) 0:=λxs=>(by lia,λi a b=>by rw[show i=m by lia];rfl);refine wpS_bind (asked ask S' (by show m<_;lia) (by show m - 1<_;lia) ?_);by_cases lt:rk r (arrOf st') m<rk r (arrOf st') (m - 1)
  ·simp only[decide_eq_true lt,if_true];by_cases q0:q>0
   ·rw[if_pos q0];have same:=yS fl (Jw sz);refine wpS_bind (wpS_reverse (wpS_pure (S'.put (mirror_perm ..),0,rfl,j7.more (λi j a b=>?_) (by lia) ?_,one _)))
    ·rw[same,same];exact dn' i j a b
    ·rw[same,same];exact Jw lt
   ·rw[if_neg q0];exact wpS_pure (S',0,rfl,dn'.more (by lia) (Jw lt),one _)
  ·simp only[decide_eq_false lt];refine wpS_bind (asked ask S' (by show m - 1<_;lia) (by show m<_;lia) ?_);by_cases gt:rk r (arrOf st') (m - 1)<rk r (arrOf st') m
   ·simp only[decide_eq_true gt];exact wpS_pure (k m q st' S' am (by lia) dn' fl)
   ·simp only[decide_eq_false gt];refine wpS_pure (S',q+1,rfl,dn'.more (by lia) (by lia),by have:=fl.1;lia,λi a b=>?_);show _=rk r (arrOf st') m;by_cases z:i=m
    ·rw[z]
    ·have:=fl.2 i (by lia) (by lia);lia
 ·simp_all
def pE{st:SortSt}{m n:Nat}{Q:Option Nat->SortSt->Prop}(ask:q_ prog w A E s kd r base)(S:lU kd base st)(hm:m+1<=n)(hn:n<=base.size)(dn:j7 r (arrOf st) (m+1))
  (k:∀j st',lU kd base st'->1<=j->j<=n->eZ r (arrOf st') j->Q (some j) st'):wpS 'b' A E s (descPart m n) Q st:=by
 refine wpS_bind (wpS_lift (Ll (rfl,wpS_bind (zC ask S (by lia) hm hn dn λj q st' S' mj jn dn' fl=>?_))));by_cases q0:q>0
 ·have same:=yS fl (by rw[S'.len];lia);simp only[q0];exact wpS_bind (wpS_reverse (pU ask (S'.put (mirror_perm ..)) (by lia) jn hn (λi l a b=>by show rk r (mirror _ _ _ _) l<=rk r (mirror _ _ _ _) i;rw[same,same];exact dn' i l a b) k))
 ·simp only[q0];exact pU ask S' (by lia) jn hn dn' k
def AG{st:SortSt}{n:Nat}{Q:Option Nat->SortSt->Prop}(ask:q_ prog w A E s kd r base)(S:lU kd base st)(h1:1<=n)(hn:n<=base.size)
  (k:∀j st',lU kd base st'->1<=j->j<=n->eZ r (arrOf st') j->Q (some j) st'):wpS 'b' A E s (countRun' 0 n) Q st:=by
 rw[countRun0_eq];refine wpS_bind (uU ask S (bJ 1) h1 hn (eZ.one _) λm m1 mn up why=>?_);by_cases z:m=n
 ·simp only[beq_iff_eq,z];exact wpS_pure (k n st S h1 (bJ _) (z▸up))
 ·have lt:=why.resolve_left z;simp only[beq_iff_eq,z];by_cases m2:m>1
  ·rw[if_pos m2];refine wpS_bind (asked ask S (by lia) (by show m - 1<_;lia) ?_);by_cases rose:rk r (arrOf st) 0<rk r (arrOf st) (m - 1)
   ·simp only[decide_eq_true rose];exact wpS_pure (k m st S m1 mn up)
   ·simp only[decide_eq_false rose];have eq:∀i,i<m->rk r (arrOf st) i=rk r (arrOf st) (m - 1):=λi hi=>by
     have a:=up 0 i (by lia) hi;have b:=up i (m - 1) (by lia) (by lia);lia
    have sz:m<=(arrOf st).size:=by rw[S.len];lia
    have same:∀i,rk r (mirror (arrOf st) 0 m ((m - 0)/2)) i=rk r (arrOf st) i:=λi=>by
     rw[lS sz];by_cases y:0<=i/\i<m
     ·rw[if_pos y,eq _ (by lia),eq i y.2]
     ·rw[if_neg y]
    refine wpS_bind (wpS_reverse (pE ask (S.put (mirror_perm ..)) (by lia) hn (λi j a b=>?_) k));rw[same,same];by_cases jm:j=m
    ·grind
    ·grind
  ·have e:m=1:=by lia
   subst e;exact pE ask S (by lia) hn ((j7.one _).more (bJ _) (Jw lt)) k
def uP(hk:k<xs.size)(hl:l<=k)(i:Nat):rk r (bubble xs k (k - l)) i=if i=l then rk r xs k else if l<i/\i<=k then rk r xs (i - 1) else rk r xs i:=by
 have e:=getElem?_bubble hk (k - l) (by lia) i;rw[show k - (k - l)=l by lia]at e;unfold rk;rw[e];by_cases a:i=l
 ·rw[if_pos a,if_pos a]
 ·rw[if_neg a,if_neg a];by_cases b:l<i/\i<=k
  ·rw[if_pos b,if_pos b]
  ·rw[if_neg b,if_neg b]
def Lm{st:SortSt}{n ok:Nat}{Q:Bool->SortSt->Prop}(ask:q_ prog w A E s kd r base)(S:lU kd base st)(h1:1<=ok)(aP:ok<=n)(hn:n<=base.size)(up:eZ r (arrOf st) ok)
  (q:∀st',lU kd base st'->eZ r (arrOf st') n->Q true st'):wpS 'b' A E s (binarySort' 0 n ok) Q st:=by
 rw[binarySort'_eq];simp only[Nat.zero_add];have e1:max ok 1=ok:=by lia
 rw[e1];refine wpS_bind (wpS_mono (wpS_forRange (I:=λk c st'=>c=⟨none,()⟩/\lU kd base st'/\eZ r (arrOf st') k) (Q:=λc st'=>c=⟨none,()⟩/\lU kd base st'/\eZ r (arrOf st') n) (λk c st' ak kn (e,S',up')=>?step) (λc st' (e,S',up')=>?fin) (rfl,S,up)) ?post)
 case step=>
  subst e;have hk:k<(arrOf st').size:=by rw[S'.len];lia
  refine wpS_bind (wpS_mono (wpS_forRange (I:=λx c st2=>st2=st'/\∃l u,c=⟨none,l,u⟩/\l<=u/\u<=k/\u - l+x<=k/\(∀i,i<l->rk r (arrOf st') i<=rk r (arrOf st') k)/\∀i,u<=i->i<k->rk r (arrOf st') k<rk r (arrOf st') i)
   (Q:=λc st2=>st2=st'/\∃l u,c=⟨none,l,u⟩/\l<=k/\(∀i,i<l->rk r (arrOf st') i<=rk r (arrOf st') k)/\∀i,l<=i->i<k->rk r (arrOf st') k<rk r (arrOf st') i)
   (λx c st2 _ xk (e,l,u,ec,lu,uk,small,lo,hi)=>?look) (λc st2 (e,l,u,ec,lu,uk,small,lo,hi)=>(e,l,u,ec,by lia,lo,λi a b=>hi i (by lia) b)) (rfl,0,k,rfl,by lia,by lia,by lia,λi a=>by lia,λi a b=>by lia)) ?move)
  case look=>
   subst e ec;dsimp only;by_cases z:l≥u
   ·rw[if_pos z];exact wpS_pure (rfl,l,u,rfl,by lia,lo,λi a b=>hi i (by lia) b)
   ·rw[if_neg z];refine wpS_bind (asked ask S' (by lia) (by lia) ?_);by_cases lt:rk r (arrOf st2) k<rk r (arrOf st2) ((l+u)/2)
    ·simp only[decide_eq_true lt,if_true];exact wpS_pure (rfl,l,(l+u)/2,rfl,by lia,by lia,by lia,lo,λi a b=>kA lt (up' _ _ a b))
    ·simp only[decide_eq_false lt,if_false];exact wpS_pure (rfl,(l+u)/2+1,u,rfl,by lia,by lia,by lia,λi a=>fF (up' i ((l+u)/2) (by lia) (by lia)) (by lia),hi)
  case move=>
   rintro c st2 ⟨rfl,l,u,rfl,lk,lo,hi⟩;dsimp only;rw[moveDown'_eq];refine wpS_bind (wpS_modify (wpS_pure (rfl,S'.put (bubble_perm ..),λi j a b=>?_)));rw[uP hk lk,uP hk lk];have U:=λx y (p:x<=y) (q:y<k)=>up' x y p q;by_cases c1:i=l
   ·rw[if_pos c1];by_cases c2:j=l
    ·rw[if_pos c2];exact bJ _
    ·grind
   ·rw[if_neg c1];by_cases c3:l<i/\i<=k
    ·rw[if_pos c3,if_neg (by lia),if_pos (by lia)];exact U _ _ (by lia) (by lia)
    ·rw[if_neg c3];by_cases c2:j=l
     ·rw[if_pos c2];exact lo i (by lia)
     ·grind
 case fin=>
  have e2:max ok n=n:=by lia
  rw[e2]at up';exact(e,S',up')
 case post=>
  rintro c st' ⟨rfl,S',up'⟩;exact wpS_pure (q st' S' up')
def FQ{st:SortSt}{Q:Unit->SortSt->Prop}(ask:q_ prog w A E s kd r base)(S:lU kd base st)(h2:2<=base.size)(h64:base.size<64)
  (k:∀st',(arrOf st').Perm base->failedOf st'=none->eZ r (arrOf st') base.size->Q () st'):wpS 'b' A E s sortRuns' Q st:=by
 have run:minRun' base.size base.size 0=base.size:=by
  generalize base.size=n at h2 h64;cases n with
  |zero=>lia
  |succ f=>rw[minRun'_succ,if_pos h64]
 rw[sortRuns'_eq];refine wpS_bind (wpS_get ?_);simp only[S.len,run];refine wpS_bind (wpS_mono (wpS_forRange (I:=λx c st'=>if x=0 then c=⟨none,0⟩/\lU kd base st' else c=⟨none,base.size⟩/\(arrOf st').Perm base/\failedOf st'=none/\(pendingOf st').size=1/\eZ r (arrOf st') base.size)
  (Q:=λc st'=>c=⟨none,base.size⟩/\(arrOf st').Perm base/\failedOf st'=none/\(pendingOf st').size=1/\eZ r (arrOf st') base.size) (λx c st' _ xn h=>?turn) (λc st' h=>?end_) ?start) ?rest)
 case start=>rw[if_pos rfl];exact(rfl,S)
 case end_=>rwa [if_neg (by lia)]at h
 case turn=>
  by_cases x0:x=0
  ·rw[if_pos x0]at h;let(rfl,S'):=h;have pend:∀{st2:SortSt},lU kd base st2->eZ r (arrOf st2) base.size->(arrOf (setPending st2 ((pendingOf st2).push ⟨0,base.size,0⟩))).Perm base/\failedOf (setPending st2 ((pendingOf st2).push ⟨0,base.size,0⟩))=none/\(pendingOf (setPending st2 ((pendingOf st2).push ⟨0,base.size,0⟩))).size=1/\eZ r (arrOf (setPending st2 ((pendingOf st2).push ⟨0,base.size,0⟩))) base.size:=λ{st2} S2 up=>by
    refine(S2.pm,S2.ok,?_,up);rw[S2.pn];rfl
   rw[if_neg (by lia)];simp only[Nat.sub_zero,Nat.min_self,Nat.zero_add];refine wpS_bind (AG ask S' (by lia) (bJ _) λm st2 S2 m1 mn up=>?_);have last:∀{st3:SortSt},lU kd base st3->(pendingOf st3).back?=none:=λ{st3} S3=>by rw[S3.pn];rfl
   dsimp only;by_cases lt:m<base.size
   ·rw[if_pos lt];refine wpS_bind (wpS_lift (Ll (rfl,wpS_bind (Lm ask S2 m1 mn (bJ _) up λst3 S3 up3=>(wpS_bind (wpS_get ?_))))));rw[last S3];exact wpS_bind (wpS_modify (wpS_pure ((rfl,pend S3 up3))))
   ·rw[if_neg lt];have e:m=base.size:=by lia
    subst e;refine wpS_bind (wpS_get ?_);rw[last S2];refine wpS_bind (wpS_modify (wpS_pure ?_));exact(rfl,pend S2 up)
  ·rw[if_neg x0]at h;let(rfl,h):=h;rw[if_pos (bJ _)];exact wpS_pure (rfl,h)
 case rest=>
  rintro c st' ⟨rfl,p1,p2,p3,p4⟩;refine wpS_bind (wpS_mono (wpS_forRange (I:=λ_ c st2=>c=⟨none,()⟩/\st2=st') (λx c st2 _ _ (e1,e2)=>?gU) (λ_ _ h=>h) (rfl,rfl)) ?done)
  case gU=>
   subst e1 e2;refine wpS_bind (wpS_get ?_);rw[if_pos (Nat.le_of_eq p3)];exact wpS_pure (rfl,rfl)
  case done=>
   rintro c st2 ⟨rfl,rfl⟩;exact wpS_pure (k st2 p1 p2 p4)
end
abbrev cL:=Str×Int
def oF(a b:cL):Bool:=if a.1=b.1 then decide (a.2<b.2) else decide (a.1.cps.toList<b.1.cps.toList)
def u5(a b:cL):Prop:=oF b a=false
def GY{a b:Str}(h:a.cps.toList=b.cps.toList):a=b:=by
 cases a;cases b;congr 1;exact Array.toList_inj.mp h
def x_(a:cL):oF a a=false:=by unfold oF;simp
def gh(a b:cL):oF a b=true↔a.1.cps.toList<b.1.cps.toList\/(a.1=b.1/\a.2<b.2):=by
 unfold oF;by_cases h:a.1=b.1
 ·rw[if_pos h,decide_eq_true_eq];exact(λq=>.inr (h,q),λq=>q.elim (λz=>absurd z (h▸List.lt_irrefl _)) (·.2))
 ·simp_all
def kN(h1:oF a b=true)(h2:oF b c=true):oF a c=true:=by
 rw[gh]at *;rcases h1 with h1|⟨e1,h1⟩<;>rcases h2 with h2|⟨e2,h2⟩
 ·exact .inl (List.lt_trans h1 h2)
 ·exact .inl (e2▸h1)
 ·exact .inl (e1▸h2)
 ·exact .inr (e1.trans e2,by lia)
def oM(h1:oF a b=false)(h2:oF b a=false):a=b:=by
 have n1:¬(a.1.cps.toList<b.1.cps.toList\/(a.1=b.1/\a.2<b.2)):=λq=>by rw[(gh a b).mpr q]at h1;cases h1
 have n2:¬(b.1.cps.toList<a.1.cps.toList\/(b.1=a.1/\b.2<a.2)):=λq=>by rw[(gh b a).mpr q]at h2;cases h2
 have e:=GY (List.le_antisymm (Gr.mp λq=>n2 (.inl q)) (Gr.mp λq=>n1 (.inl q)));have e2:a.2=b.2:=by grind
 exact Prod.ext e e2
def Ac(h1:u5 a b)(h2:u5 b c):u5 a c:=by
 unfold u5 at *;cases h:oF c a with
 |false=>rfl
 |true=>
  cases hb:oF b a with
  |true=>rw[hb]at h1;cases h1
  |false=>
   cases ha:oF a b with
   |true=>rw[kN h ha]at h2;cases h2
   |false=>rw[oM ha hb]at h;rw[h]at h2;cases h2
def pK(ds:List cL)(d:cL):Nat:=ds.countP λe=>oF e d
theorem pT{α:Type}{p q:α->Bool}:∀{l:List α},(∀x∈l,p x=true->q x=true)->(∃x∈l,q x=true/\p x=false)->l.countP p<l.countP q
 |[],_,(x,hx,_)=>nomatch hx
 |y::l,h,(x,hx,h1,h2)=>by
  have le:=List.countP_mono_left λz hz hp=>h z (.tail _ hz) hp;rw[List.countP_cons,List.countP_cons];rcases eP.mp hx with rfl|hx
  ·rw[if_pos h1,if_neg (by rw[h2];simp)];lia
  ·have:=pT (λz hz=>h z (.tail _ hz)) (x,hx,h1,h2);by_cases z:p y=true
   ·rw[if_pos z,if_pos (h y (.head _) z)];lia
   ·rw[if_neg z];split<;>lia
def tH(ha:a∈ds):decide (pK ds a<pK ds b)=oF a b:=by
 cases h:oF a b with
 |true=>exact decide_eq_true (pT (λx _ q=>kN q h) (a,ha,h,x_ a))
 |false=>
  refine decide_eq_false (Nat.not_lt.mpr (List.countP_mono_left λx _ q=>?_));have le:=Ac (by
   unfold u5;cases z:oF b x with
   |false=>rfl
   |true=>have:=kN q z;rw[x_]at this;cases this) h
  cases z:oF x a with
  |true=>rfl
  |false=>
   have e:=oM z le;rw[e]at q;rw[q]at h;cases h
section
variable{prog:Program}{w:World}{A:Around}{E:Vs}{s:Shared}
def adr:Value->Addr
 |.ref b=>b
 |_=>0
def twice(bs:List Addr):List Keyed:=bs.map λb=>⟨Value.ref b,Value.ref b⟩
end
section
variable{X:Cx}
theorem pL:∀{as:List Addr},Vals (as.map V.ref) (as.map Value.ref)
 |[]=>.nil
 |_::_=>.cons rfl pL
end
section
variable{X:Cx}{e:Expr}{te:TE}{p1 p2 pos1 pos2:Pos}
def WH(K:Wf)(te:TE):TE:=λZ H Q=>te Z H λx H1=>∃p ys,x=.ref p/\az K H1 p ys/\ys.length<sizeLine/\∀l,H1 l=none->Q (.ref l) (upd H1 l (.lst ys.reverse))
end
section
variable{prog:Program}{w:World}{A:Around}{R:Result->Shared->Prop}{I S:Addr}{fp wr:List Addr}{n:Nat}{P:Nat->Value->Prop}{St:Nat->Heap->Prop}{d:Value}{f:Nat->Int}
abbrev Ex(xs:Array Value)(c:Nat):Obj:={ cls:=.type "list", dict:=none,data:=.seq xs c,slots:=#[] }
end
def rj(A:Around)(s:Shared)(u v:Value)(r:Bool):Prop:=∀(prog:Program) (w:World) (E Q:Vs),Q (.bool r) s->wpAny 'b' A (richCompare .Lt u v) Q E s
section
open PySem.SeqAt
open PySem.AutoSeq1 (wpAny_loadPart')
open PySem.MeetsSeq PySem.MeetsSeq2 PySem.MeetsSeq3
theorem ME(l b:Addr)(x1 x2 y1 y2:Value)(n n2:Nat)(dd dd2:Option Addr)(sl sl2:Array (Option Value))(e1 r:Bool):
  Meets (Builtin.«tuple.__lt__» ([.ref l,.ref b],[]))
   (λA R s=>s.heap.get? l=some { cls:=.type "tuple", dict:=dd,data:=.seq #[x1,x2] n,slots:=sl }/\s.heap.get? b=some { cls:=.type "tuple", dict:=dd2,data:=.seq #[y1,y2] n2,slots:=sl2 }/\
    EqAt A.in1 s x1 y1 e1/\(e1=false->rj A.in1 s x1 y1 r)/\(e1=true->EqAt A.in1 s x2 y2 false/\rj A.in1 s x2 y2 r)/\R (.ok (.ret (.bool r))) s):=
 .of_wp λprog w A R s h=>by
  let(hp,g,d,tk,os):=s;let(hl,hb,q1,q2,q3,hR):=h;have f2:=AutoSeq1.sub_tuple_tuple;have w1:∀(E:Vs) (Q:Bool->Shared->Prop),Q e1 (hp,g,d,tk,os)->wpAny 'b' A.in1 (eqBool x1 y1) Q E (hp,g,d,tk,os):=λE Q h=>q1 prog w E Q h;cases e1 with
  |false=>
   have w2:∀(E Q:Vs),Q (.bool r) (hp,g,d,tk,os)->wpAny 'b' A.in1 (richCompare .Lt x1 y1) Q E (hp,g,d,tk,os):=λE Q h=>q2 rfl prog w E Q h
   wp_walk using wpAny_loadPart' hl,wpAny_loadPart' hb,w1,w2
   exact(_,rfl,hR)
  |true=>
   let(q3,q4):=q3 rfl;have w3:∀(E:Vs) (Q:Bool->Shared->Prop),Q false (hp,g,d,tk,os)->wpAny 'b' A.in1 (eqBool x2 y2) Q E (hp,g,d,tk,os):=λE Q h=>q3 prog w E Q h;have w4:∀(E Q:Vs),Q (.bool r) (hp,g,d,tk,os)->wpAny 'b' A.in1 (richCompare .Lt x2 y2) Q E (hp,g,d,tk,os):=λE Q h=>q4 prog w E Q h
   wp_walk using wpAny_loadPart' hl,wpAny_loadPart' hb,w1,w3,w4
   exact(_,rfl,hR)
end
def EO(hl:IsTup s.heap l #[x1,x2])(hb:IsTup s.heap b #[y1,y2])(hu:A.units<cLine)
  (h1:SeqAt.EqAt A.in1 s x1 y1 e1) (h2:e1=false->rj A.in1 s x1 y1 r) (h3:e1=true->SeqAt.EqAt A.in1 s x2 y2 false/\rj A.in1 s x2 y2 r):rj A s (.ref l) (.ref b) r:=by
 intro prog w E Q q;let((cls,dd,data,sl),ho,hc,n,hd):=id hl;let((cls2,dd2,data2,sl2),ho2,hc2,n2,hd2):=id hb;simp only at hc hd hc2 hd2;subst hc hd hc2 hd2;exact richCompare_meets_room (op:=.Lt) (_,ho,rfl) (_,ho2,rfl) PySem.F.slot_tuple_lt PySem.F.entry_tuple_lt (PySem.F.args_tuple_lt_2 _ _) (ME l b x1 x2 y1 y2 n n2 dd dd2 sl sl2 e1 r)
  (ho,ho2,h1,h2,h3,show Value.bool r≠Value.notImplemented/\Q (.bool r) s from ((λx=>nomatch x),q)) hu
def gT(P:Addr)(H H':Hp):Prop:=∀b o,b≠P->H b=some o->H' b=some o
def G3(c:Addr)(q:Str):HO:=.ext λh=>h.CodeRec (.ref c) q
def IZ(f:Addr)(o:Obj):HO:=.ext λh=>h.get? f=some o
def eE(P:Addr)(pos:Pos)(q:Str)(H:Hp):Prop:=∃ps:Array Value,H P=some (.i3 ps)/\TriplesOk ps.toList/\(codeAmong pos ps.toList=none\/∃c,codeAmong pos ps.toList=some (.ref c)/\H c=some (G3 c q))
def eE.more(h:eE P pos q H)(s:∀b o,H b=some o->H' b=some o):eE P pos q H':=by
 let(ps,h1,h2,h3):=h;exact(ps,s _ _ h1,h2,h3.imp id λ(c,h4,h5)=>(c,h4,s _ _ h5))
def Iu(e:h.CodeRec (.ref c) q):bS P w H h c (G3 c q):=by
 refine(e,?_,?_)
 ·let(c',o,_,_,e1,e2,_):=e;cases e1;exact(o,e2)
 ·rintro h1 h2 ⟨c',o,vs,t,e1,e2,e3⟩ k;cases e1;exact(c,o,vs,t,rfl,k o e2,e3)
theorem xR(e:h.get? f=some o):bS P w H h f (IZ f o):=(e,(o,e),λ_ _ e1 k=>k o e1)
def BMod(K:Wf)(mg:So):Prop:=∃(bm:Addr) (sl:Array (Option Value)),mg s!"__builtins__"=some (.ref bm)/\bm≠builtinsNs/\bm≠mainGlobals/\K.lookup bm=some (.type "module", some builtinsNs,.plain,sl)
section
variable{X:Cx}{pins:Lo}{Z:St}{H:Hp}{s:Shared}
def Inv.grow{P c f:Addr}{ps more:Array Value}{o1 o2:HO}{h':Heap}{t':Nat}(I:Inv X pins Z H s)(hP:H P=some (.i3 ps))(k:∀b o,b≠P->s.heap.get? b=some o->h'.get? b=some o)(hP':h'.get? P=some (tabObj (ps++more)))
  (hc:s.heap.objs.size<=c) (hf:s.heap.objs.size<=f) (hcf:c≠f) (ok1:∀H'',bS X.prog X.w H'' h' c o1) (ok2:∀H'',bS X.prog X.w H'' h' f o2):
  Inv X pins Z (upd (upd (upd H P (.i3 (ps++more))) c o1) f o2) { s with heap:=h',toks:=t' }:=by
 have c0:=I.aP.fresh hc;have f0:=I.aP.fresh hf;have cP:=bD hP c0;have fP:=bD hP f0;have get:∀b,b≠P->b≠c->b≠f->upd (upd (upd H P (.i3 (ps++more))) c o1) f o2 b=H b:=λb n1 n2 n3=>by rw[ae n3,ae n2,ae n1]
 have old:∀b o,s.heap.get? b=some o->b≠c/\b≠f:=λb o e=>(fu (kA (cy e) hc),fu (kA (cy e) hf));have u7:∀b o,H b=some o->b≠P->upd (upd (upd H P (.i3 (ps++more))) c o1) f o2 b=some o:=λb o e n=>by
  rw[get b n (bD e c0) (bD e f0)];exact e
 have atP:upd (upd (upd H P (.i3 (ps++more))) c o1) f o2 P=some (.i3 (ps++more)):=by rw[ae fP,ae cP,ax]
 refine I.un (λb o e n _ _=>k b o (λz=>by rw[z,hP]at n;cases n) e,λb o e n _ _=>(o.slots,k b o (λz=>by rw[z,hP]at n;cases n) e),λb o e n _=>?_,λb o e _=>?_,λb xs e=>u7 b _ e (λz=>by rw[z,hP]at e;cases e),λb o u e=>u7 b _ e (λz=>by rw[z,hP]at e;cases e),λb ps' e=>?_) λb u e=>?_
 ·rw[get b (λz=>by rw[z,hP]at n;cases n) (old b o e).1 (old b o e).2];exact n
 ·by_cases z:b=P
  ·rw[z];exact(_,hP')
  ·exact(o,k b o z e)
 ·by_cases z:b=P
  ·rw[z,hP]at e;cases e;rw[z];exact(more,atP)
  ·exact(#[],by rw[u7 b _ e z];simp)
 ·by_cases z3:b=f
  ·rw[z3,ax]at e;cases e;rw[z3];exact ok2 _
  ·by_cases z2:b=c
   ·rw[z2,ae hcf,ax]at e;cases e;rw[z2];exact ok1 _
   ·by_cases z1:b=P
    ·rw[z1,atP]at e;cases e;rw[z1];exact hP'
    ·rw[get b z1 z2 z3]at e;refine(I.aP b u e).gU (λd v hd q=>k d v ?_ q) (λd q=>u7 d _ q (λz=>by rw[z,hP]at q;cases q)) λd xs q=>u7 d _ q (λz=>by rw[z,hP]at q;cases q);rcases hd with z|z
     ·rw[z];exact z1
     ·intro y;rw[y,hP]at z;cases z
def Ez{A:Around}{P c:Addr}{pos:Pos}{x q:Str}{pr:Arguments}{bd:Expr}{sc:Scope}{line:Nat}{E:Vs}{Q:Vs}(I:Inv X pins Z H s)(hcl:closureFor sc X.env=pure [])(hcd:X.env.code=.ref c)(hc:codeHdIn X.K c P=true)(hb:BMod X.K X.mg)(ht:eE P pos q H)
  (k:∀(f c':Addr) (ctv pm:Value) (H':Hp) (s':Shared),Inv X pins Z H' s'->gT P H H'->eE P pos q H'->H f=none->f≠P->H' f=some (IZ f (kla_obj x q pr bd sc [] pm c' ctv))->H' c'=some (G3 c' q)->Q (.ref f) s'):
  wpAny 'c' A (makeFunction x q pr (.expr bd) sc X.env [] [] [] pos line) Q E s:=by
 let(ps,hP,tri,cs):=ht;have gP:=I.aP P _ hP;have ns:=I.ok.mod.glob.keeps I.bk;have nP:∀b o,X.base.get? b=some o->b≠P:=λb o e z=>by
  have:=(I.bs b o e).2;rw[z,hP]at this;cases this
 have mP:mainGlobals≠P:=by
  let(o,_,_,e,_):=I.ok.mod.glob;exact nP _ o e
 have hd:=codeHd_of_K I.gG hc;have bl:s.heap.BuiltinsAt X.mg P:=by
  let(bm,sl,e1,e2,e3,e4):=hb;exact(bm,_,e1,e2,e3,nP bm _ (I.ok.mod.IA _ _ e4),I.gG _ _ e4,rfl,rfl,rfl)
 rcases cs with cs|⟨c',cs,hc'⟩
 ·refine PySem.W.kla_makeFunction hcl I.ok.glob ns hcd hd gP tri cs mP bl λc' ctv h' tk ext h1 h2 h3 h4=>?_;have pk:∀b o,h'.get? b=some o->(h'.push (kla_obj x q pr bd sc [] ((X.mg s!"__name__").getD .none) c' ctv)).get? b=some o:=λb o e=>cV _ e;have sz:s.heap.objs.size<=h'.objs.size:=by lia
  have fP:=fu (cy h4);have cP:=fu (kA (cy gP) h1);have J:=I.grow (t':=tk) hP
   (λb o n e=>pk b o (ext b o n e)) (pk _ _ h4) h1 sz (fu h2) (λH''=>Iu (by
    let(c2,o,vs,t,e1,e2,e3):=h3;exact(c2,o,vs,t,e1,pk _ _ e2,e3))) (λH''=>xR (iL _ rfl))
  refine k _ c' ctv _ _ _ J (λb o n e=>?_) (_,by rw[ae fP,ae cP,ax],?_,.inr (c',?_,by rw[ae (fu h2),ax])) (I.aP.fresh sz) (Ne.symm fP) ax (by rw[ae (fu h2),ax])
  ·rw[ae (bD e (I.aP.fresh sz)),ae (bD e (I.aP.fresh h1)),ae n];exact e
  ·rw[Array.toList_append];exact TriplesOk_snoc _ _ _ _ tri
  ·rw[Array.toList_append];exact codeAmong_snoc _ tri cs
 ·refine PySem.W.kla_makeFunctionHit hcl I.ok.glob ns hcd hd gP tri cs bl λctv h' tk kp sz=>?_;have J:=I.laid (t':=tk) (h':=h'.push (kla_obj x q pr bd sc [] ((X.mg s!"__name__").getD .none) c' ctv)) (λb o e=>cV _ (kp b o e)) sz (xR (iL _ rfl));have f0:=I.aP.fresh sz;have st:∀b o,H b=some o->upd H h'.objs.size (IZ h'.objs.size (kla_obj x q pr bd sc [] ((X.mg s!"__name__").getD .none) c' ctv)) b=some o:=λb o e=>(ae (bD e f0))▸e;exact k _ c' ctv _ _ _ J (λb o _ e=>st b o e) (ps,st _ _ hP,tri,.inr (c',cs,st _ _ hc')) f0 (λz=>by rw[z,hP]at f0;cases f0) ax (st _ _ hc')
end
def IK{P:Program}{w:World}{K:Wf}{mg:So}{base:Heap}{A:Around}{outer:List Env}{s:Shared}{H:Hp}{f c:Addr}{x q:Str}{pr:Arguments}{bd:Expr}{sc:Scope}{pm ct:Value}{N ps:List Str}{us:List Value}{vs:List V}{Q:VK}{t:TE}
  (ho:s.heap.get? f=some (kla_obj x q pr bd sc [] pm c ct)) (hc:s.heap.CodeRec (.ref c) q) (S:ar N ps sc) (hr:cB 1 A) (e0:ny P w K mg base A outer s H)
  (hb:BindsTo s (kla_fn x q pr bd sc [] pm (.ref c) ct) (us,[]) (ps.zip us)) (hl:vs.length=ps.length) (r:Vals vs us)
  (ht:PE (k8 de P w K mg base N q sc f (.ref c) A outer s H E0) bd t) (hq:t (start N vs) H Q):codeAny (model P w) A (.call (.ref f) (us,[])) (CR de outer P w H s Q E0) s:=by
 have lim:=e0.mod.nolimit.keeps λb o e=>(e0.bs b o e).1;have hkind:∀y∈ps.zip us,sc.names.lookup y.1=some .local\/(sc.names.lookup y.1=some .cell/\((cellsFrom 'i' sc.names []).lookup y.1).isSome=true):=λ(n,v) hy=>by
  rcases S.par n (List.of_mem_zip hy).1 with q|q
  ·exact .inl q
  ·exact .inr (q,cellsFrom_some _ _ _ (.inl q))
 refine PySem.W.kla_callFunE hr.depth ho rfl S.co S.gen rfl hc (hb _ _ _ _ (wpAny_newFunctionEnv_cells S.kind hkind λenv he s1 x=>?_));subst he;refine(lim.keeps x.toInCall.keep,PySem.W.kla_codeExpr ?_);have I:=qz (CX:=de) (E:=E0) S hr.hd e0 hl r x;exact jV (ht [] s1 (start N vs) H Q I hq) (λu s' (v,H',J,rv,q)=>((v,H',J.os,J.bare,J.base,J.aP,rv,q))) λe s' hs=>hs
def uQ{bs:List Addr}{z:Addr->Str}(h:bs.length<2):(bs.map λb=>(⟨z b,0⟩:cL)).Pairwise u5:=by
 rw[Gi];intro i j hi hj lt;rw[aD]at hj;lia
def keyed(kt:List Value)(bs:List Addr):List Keyed:=kt.zip 's'
def QF:Value->Str
 |.str x _=>x
 |_=>s!""
section
variable{X:Cx}{pins:Lo}{Z:St}{H:Hp}{s:Shared}{A:Around}{E:Vs}
theorem xT:∀{kt:List Value}{ss:List Str}{i:Nat}{k:Value},StrsAre kt ss->kt[i]?=some k->ss[i]?=some (QF k)/\∃t,k=.str (QF k) t
 |_,_,0,_,.cons y t h,e=>by cases e;exact(rfl,t,rfl)
 |_,_,i+1,_,.cons _ _ h,e=>xT (i:=i) h e
theorem mV:∀{kt:List Value}{ss:List Str},StrsAre kt ss->kt.length=ss.length
 |_,_,.nil=>rfl
 |_,_,.cons _ _ h=>by rw[oY,oY,mV h]
theorem o8:∀{kt:List Value}{ss:List Str}{y:Str}{t:Tok},StrsAre kt ss->StrsAre (kt++[.str y t]) (ss++[y])
 |_,_,y,t,.nil=>.cons y t .nil
 |_,_,_,_,.cons a b h=>.cons a b (o8 h)
def kH(h:StrsAre kt (bs.map z))(hx:x∈keyed kt bs):∃b t,b∈bs/\x=⟨.str (z b) t,.ref b⟩:=by
 let(i,hi):=HP hx;unfold keyed at hi;rw[List.getElem?_zip_eq_some]at hi;let(h1,h2):=hi;rw[l_]at h2;let(b,h3,h4):=fC.mp h2;let(h5,t,h6):=xT h h1;rw[l_,h3]at h5;refine(b,t,dZ h3,?_);rw[<-Option.some.inj h5]at h6;exact Prod.ext h6 h4.symm
def CC(I:Inv X pins Z H s)(fa:fV X pins H a)(fk:fV X pins H kS)(nak:a≠kS)(ha:s.heap.get? a=some (seqObj "list" #[] n))(hk:s.heap.get? kS=some (seqObj "list" kt.toArray e))(hz:StrsAre kt (bs.map z))(h64:bs.length<64)
  (k:∀(s':Shared) (bs':List Addr) (e':Nat),Inv X pins Z H s'->bs'.Perm bs->(bs'.map λb=>(⟨z b,0⟩:cL)).Pairwise u5->s'.heap.get? a=some (seqObj "list" (bs'.map Value.ref).toArray e')->Q (.done (.ret .none)) s'):
  wpAny 'c' A (ksk_end a false 's'.toArray n (.ref kS) kt.toArray) Q E s:=by
 have kl:=by have:=mV hz;rwa [aD]at this
 have sl:(kt.toArray.zip 's'.toArray).toList=keyed kt bs:=ksk_zip kt.toArray 's';have epi:∀st (bs':List Addr),failedOf st=none->(arrOf st).toList.map (·.2)=bs'.map Value.ref->bs'.Perm bs->(bs'.map λb=>(⟨z b,0⟩:cL)).Pairwise u5->wpAny 'c' A (ksk_tail a false n (.ref kS) st) Q E s:=λst bs' f ea p pw=>by
  unfold ksk_tail;have ea':((arrOf st).map λx=>x.2)=(bs'.map Value.ref).toArray:=by
   apply Array.ext';rw[Array.toList_map,ea]
  rw[f,ea'];refine aB (listUpdate_at hk rfl ?_ (hsz2:=by simp));have k1:∀b o,b≠kS->s.heap.get? b=some o->(s.heap.update kS (Obj.mapSeq λ_=>#[])).get? b=some o:=λb o nb g=>by rw[K7 _ _ _ _ nb];exact g
  have I1:=I.turned (t':=s.toks) k1 fk.1 fk.2.1 fk.2.2.2.1 fk.2.2.2.2.1 fk.2.2.2.2.2;have ha1:=k1 a _ nak ha;generalize s.heap.update kS (Obj.mapSeq λ_=>#[])=h1 at k1 I1 ha1;refine aB (wpAny_letGo (aB (seqEpoch_at ha1 rfl (aB (listUpdate_at ha1 rfl ?_ (hsz2 := ?_))))))
  ·have k2:∀b o,b≠a->h1.get? b=some o->(h1.update a (Obj.mapSeq λ_=>(bs'.map Value.ref).toArray)).get? b=some o:=λb o nb g=>by rw[K7 _ _ _ _ nb];exact g
   have I2:=I1.turned (t':=s.toks) k2 fa.1 fa.2.1 fa.2.2.2.1 fa.2.2.2.2.1 fa.2.2.2.2.2;have e2:=get?_update_seq ha1 λ_=>(bs'.map Value.ref).toArray;simp only[bne_self_eq_false];exact bp (k _ bs' _ I2 p pw e2)
  ·simp only[Bool.false_eq_true,if_false];rw[i4,aD,p.length_eq,sizeLine_eq];lia
 unfold ksk_end;simp only[Bool.false_eq_true,if_false,List.size_toArray,List.length_map];by_cases cY:bs.length<2
 ·simp only[if_pos cY];exact epi _ bs rfl (sl▸List.map_snd_zip (by rw[aD,kl];exact bJ _)) (.refl _) (uQ cY)
 ·simp only[if_neg cY];have kk:keyKind' kt.toArray=pure oneType':=by
   match kt,hz,kl with
   |[],_,kl=>exact absurd kl (by simp;omega)
   |[_],_,kl=>exact absurd kl (by simp;omega)
   |_::_::_,hz,_=>exact keyKind_strs hz
  refine aB (wpAny_of_eq kk ?_);have bz:(kt.toArray.zip 's'.toArray).size=bs.length:=by rw[<-AX,sl];unfold keyed;rw[List.length_zip,List.length_map,kl,Nat.min_self]
  have ask:q_ X.prog X.w A E s oneType' (λx=>pK (bs.map λb=>(⟨z b,0⟩:cL)) ⟨QF x.1,0⟩) (kt.toArray.zip 's'.toArray):=λx hx y hy Q q=>by
   rw[sl]at hx hy;let(b,t,hb,rfl):=kH hz hx;let(c,u,hc,rfl):=kH hz hy;refine oneLt_str (?_:Q (decide ((z b).cps.toList<(z c).cps.toList)) s);have e:=tH (ds:=bs.map λb=>(⟨z b,0⟩:cL)) (b:=⟨z c,0⟩) (aK.mpr (b,hb,rfl));have e2:oF (⟨z b,0⟩:cL) ⟨z c,0⟩=decide ((z b).cps.toList<(z c).cps.toList):=by
    unfold oF;by_cases h:z b=z c
    ·simp_all
    ·rw[if_neg h]
   rw[<-e2,<-e];exact q
  refine aB (jV (FQ (Q:=λ_ st=>(arrOf st).Perm (kt.toArray.zip 's'.toArray)/\failedOf st=none/\eZ (λx=>pK (bs.map λb=>(⟨z b,0⟩:cL)) ⟨QF x.1,0⟩) (arrOf st) bs.length) ask (.refl _,rfl,rfl,rfl) (by rw[bz];lia) (bz▸h64) λst p f up=>(p,f,by rw[bz]at up;exact up)) ?_ λ_ _ z=>z);rintro⟨⟨⟩,st⟩ s' ⟨rfl,p,f,up⟩;have p':=Array.perm_iff_toList_perm.mp p;rw[sl]at p';have all:∀x∈(arrOf st).toList,∃b t,b∈bs/\x=⟨Value.str (z b) t,Value.ref b⟩:=λx hx=>kH hz (p'.mem_iff.mp hx);have e2:(arrOf st).toList.map (·.2)=((arrOf st).toList.map λx=>adr x.2).map Value.ref:=by
   rw[d9];refine xh λx hx=>?_;let(b,t,_,rfl):=all x hx;rfl
  have pb:((arrOf st).toList.map λx=>adr x.2).Perm bs:=by
   have:=p'.map λx:Keyed=>adr x.2;have e3:(keyed kt bs).map (λx:Keyed=>adr x.2)=bs:=by
    unfold keyed;have:(λx:Keyed=>adr x.2)=adr ∘ (·.2):=rfl;rw[this,<-d9,List.map_snd_zip (by rw[aD,kl];exact bJ _),d9];exact(xh λ_ _=>rfl).trans (List.map_id _)
   rwa [e3]at this
  refine epi st _ f e2 pb ?_;rw[Gi];intro i j hi hj lt;rw[aD,aD]at hi hj;have at_:∀m hm,rk (λx=>pK (bs.map λb=>(⟨z b,0⟩:cL)) ⟨QF x.1,0⟩) (arrOf st) m=pK (bs.map λb=>(⟨z b,0⟩:cL)) ⟨z (adr ((arrOf st).toList[m]).2),0⟩:=λm hm=>by
   unfold rk;rw[<-Td,jw hm];let(b,t,_,e):=all _ (Aw hm);rw[e];rfl
  have len:(arrOf st).toList.length=bs.length:=by rw[<-pb.length_eq,aD]
  have h:=up i j (Jw lt) (by lia);rw[at_ i hi,at_ j hj]at h;simp only[List.getElem_map];unfold u5;rw[<-tH]
  ·exact decide_eq_false (Nat.not_lt.mpr h)
  ·let(b,t,hb,e):=all _ (Aw hj);rw[e];exact aK.mpr (b,hb,rfl)
def AM{a f:Addr}{bs:List Addr}{z:Addr->Str}{n:Nat}{Q:Fin->Shared->Prop}(I:Inv X pins Z H s)(fa:fV X pins H a)(ha:s.heap.get? a=some (seqObj "list" 's'.toArray n))(h64:bs.length<64)
  (key:∀s',Inv X pins Z H s'->∀b∈bs,wpAny 'c' A (call (.ref f) [.ref b]) (λu s''=>∃t,u=.str (z b) t/\Inv X pins Z H s''/\∀d o,fV X pins H d->s'.heap.get? d=some o->s''.heap.get? d=some o) (λ_ _=>False) s')
  (k:∀(s':Shared) (bs':List Addr) (e':Nat),Inv X pins Z H s'->bs'.Perm bs->(bs'.map λb=>(⟨z b,0⟩:cL)).Pairwise u5->s'.heap.get? a=some (seqObj "list" (bs'.map Value.ref).toArray e')->Q (.done (.ret .none)) s'):
  wpAny 'c' A (ksk_tree a (.ref f) false) Q E s:=by
 refine aB (listItems_at ha rfl (aB (listUpdate_at ha rfl ?_ (hsz2:=by simp))));have k1:∀b o,b≠a->s.heap.get? b=some o->(s.heap.update a (Obj.mapSeq λ_=>#[])).get? b=some o:=λb o nb g=>by rw[K7 _ _ _ _ nb];exact g
 have I1:=I.turned (t':=s.toks) k1 fa.1 fa.2.1 fa.2.2.2.1 fa.2.2.2.2.1 fa.2.2.2.2.2;have e1:=get?_update_seq ha λ_=>#[];generalize (if (#[]:Array Value).size == 's'.toArray.size then n else n+1)=n1 at e1;generalize s.heap.update a (Obj.mapSeq λ_=>#[])=h1 at k1 I1 e1;refine aB (seqEpoch_at e1 rfl (aB (wpAny_newTuple (aB (wpAny_newList (uB ?_) (d6 _))) ?_)))
 ·have I2:=I1.kept (h':=h1.push { cls:=Value.type "tuple", data:=Data.seq 's'.toArray.toList.toArray }) (t':=s.toks) λb o g=>cV _ g;have e2:(h1.push { cls:=Value.type "tuple", data:=Data.seq 's'.toArray.toList.toArray }).get? a=some (seqObj "list" #[] n1):=cV _ e1;generalize h1.push { cls:=Value.type "tuple", data:=Data.seq 's'.toArray.toList.toArray }=h2 at I2 e2;have fk:=I2.qF (bJ _) (I2.aP.fresh (bJ _));have nak:=fu (cy e2);have I3:=I2.kept (h':=h2.push { cls:=Value.type "list", data:=Data.seq ([]:List Value).toArray }) (t':=s.toks) λb o g=>cV _ g;have e3:(h2.push { cls:=Value.type "list", data:=Data.seq ([]:List Value).toArray }).get? a=some (seqObj "list" #[] n1):=cV _ e2;have k3:(h2.push { cls:=Value.type "list", data:=Data.seq ([]:List Value).toArray }).get? h2.objs.size=some (seqObj "list" ([]:List Value).toArray 0):=iL _ rfl;generalize h2.objs.size=kS at fk nak k3 ⊢;refine aB (Ll (aB ?_));rw[List.forIn_toArray];refine ksk_fold (λi s'=>∃(kt:List Value) (e:Nat),Inv X pins Z H s'/\s'.heap.get? a=some (seqObj "list" #[] n1)/\s'.heap.get? kS=some (seqObj "list" kt.toArray e)/\StrsAre kt ((bs.take i).map z)) 's' 0 _ ([],0,I3,e3,k3,.nil) (λj v s' hv hI=>?_) λs' hI=>?_
  ·rw[Nat.zero_add]at hI ⊢;let(kt,e,J,ja,jk,jz):=hI;rw[l_]at hv;let(b,hb,rfl):=fC.mp hv;have jl:=mV jz;rw[aD,lA]at jl;refine aB (Kq (jV (key s' J b (dZ hb)) (λu s'' hu=>?_) λ_ _ h=>h.elim));let(t,rfl,J2,kp):=hu;have ja2:=kp a _ fa ja;have jk2:=kp kS _ fk jk;have up:=get?_update_seq jk2 λx=>x.push (.str (z b) t);rw[List.push_toArray]at up;refine aB (listUpdate_at jk2 rfl (bp (rfl,kt++[.str (z b) t],_,J2.turned (λd o nd g=>by rw[K7 _ _ _ _ nd];exact g) fk.1 fk.2.1 fk.2.2.2.1 fk.2.2.2.2.1 fk.2.2.2.2.2,by rw[K7 _ _ _ _ nak];exact ja2,up,?_)) ?_ ?_)
   ·rw[gY,hb,aV];exact o8 jz
   ·rw[i4,sizeLine_eq];lia
   ·rw[Array.size_push,i4,sizeLine_eq];lia
  ·rw[Nat.zero_add,aD,g9]at hI;let(kt,e,J,ja,jk,jz):=hI;exact aB (listItems_at jk rfl (CC J fa fk nak ja jk jz h64 k))
 ·rw[List.toList_toArray,aD,sizeLine_eq];lia
def Inv.B8(I:Inv X pins Z H s)(fa:fV X pins H a)(new:∀H'',bS X.prog X.w H'' s.heap a o):Inv X pins Z (upd H a o) s:=by
 have n0:=fa.1;have u7:∀b u,H b=some u->upd H a o b=some u:=λb u e=>(ae (bD e n0))▸e;refine I.step (ch:=[a]) (λb hb=>?_) (λb o _ _ _ e _=>e) (λb o _ _ _ e _=>(o.slots,e)) (λb u hb _ n=>?_) (λb u _ e=>(u,e)) (λb xs e=>u7 b _ e) (λb u v e=>u7 b _ e) (λb ps e=>(#[],by rw[u7 b _ e];simp)) (λm hm=>hm) (λb u e=>?_) I.bare
 ·exact(bU.mp hb)▸(fa.2.2.2.1,fa.2.1,fa.2.2.2.2.1,fa.2.2.2.2.2)
 ·rw[ae (λz=>hb (by rw[z];exact List.mem_singleton_self _))];exact n
 ·by_cases z:b=a
  ·rw[z,ax]at e;cases e;rw[z];exact new _
  ·rw[ae z]at e;exact(I.aP b u e).gU (λ_ _ _ q=>q) (λd q=>u7 d _ q) λd xs q=>u7 d _ q
def tS{p f c:Addr}{bs:List Addr}{z:Addr->Str}{x q:Str}{pr:Arguments}{bd:Expr}{sc:Scope}{pm ct:Value}{y:Str}{rs:Addr->List V}{Q:VK}(I:Inv X pins Z H s)(hr:cB 4 X.A)(hp:az X.K H p (bs.map V.ref))(hd:∀b∈bs,H b=some (.tup (.str (z b)::rs b)))(h64:bs.length<64)
  (hf:H f=some (IZ f (kla_obj x q pr bd sc [] pm c ct))) (hc:H c=some (G3 c q)) (S:ar [y] [y] sc) (hb:∀(s:Shared) (u:Value),BindsTo s (kla_fn x q pr bd sc [] pm (.ref c) ct) ([u],[]) [⟨y,u⟩])
  (ht:∀A outer s H,PE (k8 de X.prog X.w X.K X.mg X.base [y] q sc f (.ref c) A outer s H E0) bd (Bj (IH X.K) (lL 0) (tC (.int 0))))
  (k:∀(l:Addr) (bs':List Addr),H l=none->bs'.Perm bs->(bs'.map λb=>(⟨z b,0⟩:cL)).Pairwise u5->Q (.ref l) (upd H l (.lst (bs'.map V.ref)))):
  wpAny 'c' X.A (call (.builtin "sorted") [.ref p] [⟨s!"key", .ref f⟩]) (EP X pins Z Q) X.xe s:=by
 let(its,r',pl,_):=I.list hp;have e:=j8 r';subst e;have fit:'s'.length<=sizeLine:=by rw[aD,sizeLine_eq];lia
 refine call_function_entry_kw kind_sorted plain_sorted entry_sorted (ksk_s1 _ _) (aB (bp (aB (collect_list pl.isList (aB (wpAny_newList ?_ fit)) fit))));dsimp only;have k1:∀b o,s.heap.get? b=some o->((s.heap.push (seqObj "list" #[] 0)).update s.heap.objs.size (Obj.mapSeq (·++'s'.toArray))).get? b=some o:=λb o g=>by
  rw[K7 _ _ _ _ (fu (cy g))];exact cV _ g
 have I1:=I.kept (t':=s.toks) k1;generalize (s.heap.push (seqObj "list" #[] 0)).update s.heap.objs.size (Obj.mapSeq (·++'s'.toArray))=h1 at k1 I1;have I2:=I1.kept (t':=s.toks) (h':=h1.push { cls:=.type "list", data:=.seq 's'.toArray }) λb o g=>cV _ g;have new:(h1.push { cls:=.type "list", data:=.seq 's'.toArray }).get? h1.objs.size=some (seqObj "list" 's'.toArray 0):=iL _ rfl;have fa:fV X pins H h1.objs.size:=I1.qF (bJ _) (I1.aP.fresh (bJ _));refine aB (uB (wpAny_call_entry_kw slot_list_sort (_,new,rfl) entry_list_sort (AM (z:=z) I2 fa new h64 (λs' J b hb'=>?_) λs' bs' e' J pb pw g=>?_) (ksk_l1 _ _)))
 ·refine Gm (codeAny_mono (IK (vs:=[.ref b]) (Q:=λv H'=>v=.str (z b)/\H'=H) (J.aP f _ hf).1 (J.aP c _ hc).1 S (hr.in1.in1.mono (by decide)) J.De.in1.in1 (hb s' _) rfl (.cons rfl .nil) (ht _ _ _ _) ?_) λr s'' hq=>?_)
  ·exact(b,_,0,_,rfl,rfl,bc.of (hd b hb'),dq rfl,rfl,rfl)
  ·cases r with
   |error e=>exact hq.elim
   |ok fl=>
    cases fl with
    |next=>exact False.elim hq
    |brk=>exact False.elim hq
    |cont=>exact False.elim hq
    |ret u=>
     let(v,H',os,bare,un,aP,rv,hv,hH):=hq;subst hv hH;let(t,rfl):=rv;exact(t,rfl,J.mI os un aP bare (λb z=>absurd z (by simp)),λd o fd g=>un.keep d o g fd.1 (λz=>((List.mem_cons.mp (J.rV d z)).elim fd.2.1 fd.2.2.1)) (by simp))
 ·exact(_,rfl,bp (_,rfl,.ref h1.objs.size,upd H h1.objs.size (.lst (bs'.map V.ref)),J.B8 fa λH''=>(by rw[aD,pb.length_eq,sizeLine_eq];lia,bs'.map Value.ref,e',pL,g),rfl,k _ bs' fa.1 pb pw))
def Nu(K:Wf)(P:Addr)(lp:Pos)(q:Str)(te:TE):TE:=λZ H Q=>te Z H λx H1=>∃(p:Addr) (bs:List Addr) (z:Addr->Str) (rs:Addr->List V),x=.ref p/\az K H1 p (bs.map V.ref)/\(∀b∈bs,H1 b=some (.tup (.str (z b)::rs b)))/\bs.length<64/\eE P lp q H1/\
 ∀(l:Addr) (bs':List Addr) (H2:Hp),H1 l=none->bs'.Perm bs->(bs'.map λb=>(⟨z b,0⟩:cL)).Pairwise u5->gT P H1 H2->eE P lp q H2->H2 l=some (.lst (bs'.map V.ref))->Q (.ref l) H2
def uL{K:Wf}{P c:Addr}{e:Expr}{te:TE}{p kp lp pos:Pos}{pr:Arguments}{bd:Expr}{sc:Scope}{y q:Str}(eK:X.K=K)(hr:cB 4 X.A)(he:PE X e te)(hg:Gl X "sorted")(hm:X.mg "sorted" = none)(hcd:X.env.code=.ref c)(hc:codeHdIn K c P=true)(bm:BMod K X.mg)(S:ar [y] [y] sc)
  (ht:∀(f c:Addr) A outer s H,PE (k8 de X.prog X.w X.K X.mg X.base [y] q sc f (.ref c) A outer s H E0) bd (Bj (IH X.K) (lL 0) (tC (.int 0))))
  (hb:∀(pm cd ct u:Value),bindArgs (kla_fn s!"<lambda>" q pr bd sc [] pm cd ct) ([u],[])=pure [⟨y,u⟩]:=by intros;rfl)
  (hcl:closureFor sc X.env=pure []:=by rfl) (hq:X.env.qual++s!"<lambda>" = q:=by rfl) (hdf:defaultsOf pr X.env=⟨[],[]⟩:=by rfl) (s1:starEach [e] X.env=[⟨false,eval e X.env⟩]:=by rfl):
  PE X (.Call (.Name "sorted" p) [e] [(some "key", .Lambda pr bd sc lp,kp)] pos) (Nu K P lp q te):=by
 subst eK;intro pins s Z H Q I h;refine Ng (iy I hg hm (show bootBuiltins "sorted" = some (.builtin "sorted") by kernel_rfl) (PyProof.Rows.callWith_kw ?_ (by rw[s1];rfl) (by rw[s1];rfl)));rw[s1];refine Calls.spliced_cons (bL (he pins s Z H _ I h) λu s2 hh=>?_);let(x,H1,I1,r1,p',bs,z,rs,ex,hp,hd,h64,tb,k):=hh;refine Calls.spliced_nil (kws_cons (PySem.W.kla_eval hdf ?_));subst ex;cases r1;rw[hq];refine Ez I1 hcl hcd hc bm tb λf c' ctv pm H' s' J sx tb' f0 fP hf hc'=>kws_nil ?_;have pt:∀b o,(∀ps,o≠.i3 ps)->H1 b=some o->H' b=some o:=λb o ne e=>sx b o (λzz=>by
  let(ps,hP,_):=tb;rw[zz,hP]at e;exact ne ps (Option.some.inj e).symm) e
 have hp':az X.K H' p' (bs.map V.ref):=by
  rcases hp with hp|hp
  ·rcases hp with hp|⟨o,hp⟩
   ·exact .inl (.inl (pt _ _ (λps z=>by cases z) hp))
   ·exact .inl (.inr (o,pt _ _ (λps z=>by cases z) hp))
  ·exact .inr hp
 refine tS J hr hp' (λb hb=>pt _ _ (λps z=>by cases z) (hd b hb)) h64 hf hc' S (λs u=>.of_eq (hb _ _ _ _)) (λA outer s H=>ht f c' A outer s H) λl bs' l0 pb pw=>?_;have st:∀b o,H' b=some o->upd H' l (.lst (bs'.map V.ref)) b=some o:=λb o e=>(ae (bD e l0))▸e;have l1:H1 l=none:=by
  cases e:H1 l with
  |none=>rfl
  |some o=>
   let(ps,hP,_):=tb';have:=sx l o (λzz=>by rw[zz,hP]at l0;cases l0) e;rw[l0]at this;cases this
 exact k l bs' _ l1 pb pw (λb o n e=>st b o (sx b o n e)) (tb'.more st) ax
end
section
variable{P:Program}{w:World}{K:Wf}{mg:So}{base:Heap}
def UW(K:Wf)(fd:FuncData)(T:Addr):Prop:=∃c,fd.code=.ref c/\codeHdIn K c T=true
def Gw.RL{x qual:Str}{st:Stmt}{f T:Addr}{fd:FuncData}{N ps:List Str}{k:Nat}{sp:Sp}(F:Gw K x qual st f fd)(L:UW K fd T)(S:ar N ps (ah st))(len:∀vs H Q E,sp vs H Q E->vs.length=ps.length)
  (hbody:∀(c:Addr) (cdv:Value) (A:Around) (outer:List Env) (s:Shared) (H:Hp) (vs:List V) (Q:VK) (E:XK),cdv=.ref c->codeHdIn K c T=true->cB k (A.deeper (envOfC qual (ah st) s.heap.objs.size f cdv))->sp vs H Q E->
   ∃t,n_ (k8 (vc P w) P w K mg base N qual (ah st) f cdv A outer s H E) (cO st) t/\t { nx:=λ_ H'=>Q .bw H',rt:=Q } (start N vs) H):aS P w K mg base (vc P w) (k+1) f fd ps sp:=by
 let(oc,od,kV,doc,pm,an,cdv,ct,osl,rfl,lk,hcd):=F.ex;let(c,e1,e2):=L;refine D0 lk hcd S len λA outer s H vs Q E hr hsp=>?_;let(t,h,q):=hbody c cdv A outer s H vs Q E e1 e2 hr hsp;exact(t,h,q)
end
def sJ(Ts:List Addr)(H:Hp):Prop:=∀T∈Ts,H T=some (.i3 #[])
def zp{P:Program}{w:World}{K:Wf}{mg mb:So}{CX:AY}{k:Nat}{fa a:Addr}{fd:FuncData}{x:Str}{sp:Sp}{s₁:Shared}{vs:List Value}{ns:List Int}{Ts:List Addr}
  (KX:K.In s₁.heap) (hns:s₁.heap.Ns mainGlobals mg) (hb:s₁.heap.Ns builtinsNs mb) (hbb:∀x:Str,x ≠ "__name__" -> mb x=bootBuiltins x) (hlim:s₁.heap.NoLimit) (hg:s₁.gens=#[])
  (ha:s₁.heap.get? a=some { cls:=.type "list", data:=.seq vs.toArray }) (hi:IntsAre vs ns) (hl:ns.length<=sizeLine) (hr:cB k callerA)
  (hT:∀T∈Ts,s₁.heap.get? T=some (tabObj #[])/\isCodeTable s₁.heap T/\K.lookup T=none)
  (F:∀base:Heap,K.In base->base.Ns mainGlobals mg->aS P w K mg base CX k fa fd [x] sp) (hbind:∀(s:Shared) (u:Value),BindsTo s fd ([u],[]) [⟨x,u⟩])
  (hsp:∀H:Hp,sJ Ts H->az K H a (ns.map V.int)->sp [.ref a] H (λv _=>v=.bl true) λ_ _ _=>False)
  (hCX:∀H e s',CX [] H s₁ (λ_ _ _=>False) e s'->False):
  codeAny (model P w) callerA (.call (.ref fa) ([.ref a],[])) (λr s'=>r=.ok (.ret (.bool true))/\OldK s₁.heap s'.heap/\s'.os=s₁.os/\AllBare s'.gens) s₁:=by
 have rv:=p8 hi;have lenV:=hi.length;have aT:a∉Ts:=λz=>by
  have:=(hT a z).1;rw[ha]at this;cases this
 have core:∀H:Hp,az K H a (ns.map V.int)->(∀b,H b=none\/(b=a/\K.lookup a=none/\H b=some (.g7 { cls:=.type "list", data:=.seq vs.toArray } (.lst (ns.map V.int))))\/(b∈Ts/\H b=some (.i3 #[])))->sJ Ts H->
   codeAny (model P w) callerA (.call (.ref fa) ([.ref a],[])) (λr s'=>r=.ok (.ret (.bool true))/\OldK s₁.heap s'.heap/\s'.os=s₁.os/\AllBare s'.gens) s₁:=by
  intro H hS hO hE;have aP:gA P w H s₁.heap:=λb u z=>by
   rcases hO b with y|⟨rfl,_,y⟩|⟨y1,y⟩
   ·rw[y]at z;cases z
   ·rw[y]at z;cases z;exact(ha,by rw[aD];exact hl,vs,_,rv,ha)
   ·rw[y]at z;cases z;exact(hT b y1).1
  have base_of:∀{b:Addr}{o:Obj},s₁.heap.get? b=some o->H b=none->(uM s₁.heap H).get? b=some o:=λe n=>DY e n;have noA:∀{b:Addr}{o:Obj}{es:Array DictEntry}{ep:Nat},s₁.heap.get? b=some o->o.data=.dict es ep->H b=none:=λ{b o es ep} e d=>by
   rcases hO b with y|⟨rfl,_,y⟩|⟨y1,y⟩
   ·exact y
   ·grind
   ·rw[(hT b y1).1]at e;cases e;have d':=d;cases d'
  have nsK:∀{b:Addr}{m:So},s₁.heap.Ns b m->(uM s₁.heap H).Ns b m:=λ{b m} (o,es,ep,e,d,r)=>(o,es,ep,base_of e (noA e d),d,r);have hKb:=λb o e=>base_of (KX b o e) (by
   rcases hO b with y|⟨rfl,y1,y⟩|⟨y1,y⟩
   ·exact y
   ·rw[y1]at e;cases e
   ·rw[(hT b y1).2.2]at e;cases e)
  have hM:Mod K mg (uM s₁.heap H):=(hKb,nsK hns,(mb,nsK hb,hbb),let (mc,h1,h2):=hlim;(mc,nsK h1,h2))
  have e0:ny P w K mg (uM s₁.heap H) callerA [] s₁ H:=(rfl,hM,λb o e=>IM e,Nat.le_of_eq (AL _ _),trivial,λb hb=>absurd (show b∈([]:List Addr) from hb) (by simp),aP,.of_eq hg)
  refine codeAny_mono ((F _ hKb (nsK hns)).run callerA [] s₁ H ([.ref a],[]) [.ref a] [.ref a] _ _ hr e0 (hbind s₁ (.ref a)) (.cons rfl .nil) (hsp H hE hS)) λr s' h=>?_;cases r with
  |error e=>exact(hCX H e s' h).elim
  |ok fl=>
   cases fl with
   |next=>exact False.elim h
   |brk=>exact False.elim h
   |cont=>exact False.elim h
   |ret u=>
    let(v,H',os,bare,un,hok',r',q):=h;have q':=q;subst q';obtain rfl:u=Value.bool true:=r';have nf:∀b:Addr,b∉lK []:=λb z=>absurd (show b∈([]:List Addr) from z) (by simp);refine(rfl,(λb o e=>?_,λb o e=>un.there b o e (by simp)),os,bare);rcases hO b with y|⟨_,_,y⟩|⟨y1,y⟩
    ·exact .inl (un.keep b o e y (nf b) (by simp))
    ·let(e1,_):=aP b _ y;let(e2,_):=hok' b _ (un.jt b _ _ y);rw[e]at e1;cases e1;exact .inl e2
    ·let(more,z):=un.jd b _ y;have e2:=hok' b _ z;let(t1,t2,_):=hT b y1;rw[e]at t1;cases t1;exact .inr (.inl (t2,rfl,#[],more,rfl,e2))
 cases hk:K.lookup a with
 |some o=>
  have e:=KX a o hk;rw[ha]at e;cases e;refine core (λb=>if b∈Ts then some (.i3 #[]) else none) (.inr (_,vs.toArray,_,hk,rfl,rfl,rfl,i4▸lenV▸hl,by simpa using rv)) (λb=>?_) λT hT'=>if_pos hT';by_cases z:b∈Ts
  ·exact .inr (.inr (z,if_pos z))
  ·exact .inl (if_neg z)
 |none=>
  refine core (λb=>if b∈Ts then some (.i3 #[]) else if b=a then some (.g7 { cls:=.type "list", data:=.seq vs.toArray } (.lst (ns.map V.int))) else none) (.inl (.inr ({ cls:=.type "list", data:=.seq vs.toArray },(if_neg aT).trans (if_pos rfl)))) (λb=>?_) λT hT'=>if_pos hT';by_cases z:b∈Ts
  ·exact .inr (.inr (z,if_pos z))
  ·by_cases y:b=a
   ·exact .inr (.inl (y,hk,(if_neg z).trans (if_pos y)))
   ·exact .inl ((if_neg z).trans (if_neg y))
def Yw(K:Wf)(f T:Addr)(st:Stmt)(x q:Str):Prop:=∃(oc:Value) (od an:Option Addr) (sl:Array (Option Value)) (kV dc pm ct:Value) (c:Addr),K.lookup f=some (oc,od,.func (fnOf x q (dh st) (cO st) (ah st) .none kV dc pm an (.ref c) ct),sl)/\codeIn K (.ref c) q=true/\keepIn K (.ref f)=true/\codeHdIn K c T=true
def DF(K:Wf)(h:Heap)(T:Addr):Prop:=h.get? T=some (tabObj #[])/\(∃c,codeHdIn K c T=true)/\K.lookup T=none
def BP{q:Program}{loose:List Str}{mean:ExcName->Option Value}{mg mb:So}{h:Heap}{K:Wf}{f T:Addr}{st:Stmt}{x y:Str}(KX:K.In h)(TP:Top q loose mean mg mb h)(hrec:((recsOf q).any λd=>d.name == x)=true)(a:PySem.W.nsIn K mainGlobals x=some (some (.ref f)))(l:Yw K f T st x y)(n:K.lookup T=none):DF K h T:=by
 let(oc,od,an,sl,kV,dc,pm,ct,c,lk,_,_,hc):=l;let(d,hd,en):=nZ.mp hrec;have en:=by simpa using en
 let(a',o,fd,c',P,e1,e2,e3,e4,_,e6):=TP.tab d hd;have ef:=PySem.W.mg_of KX TP.g a;rw[en,ef]at e1;cases e1;rw[KX _ _ lk]at e2;cases e2;cases e3;have ec:=Value.ref.inj e4;subst ec;let((o2,vs2,g1,g2,g3,g4),g5):=e6;let(o3,vs3,_,_,_,_,_,_,_,k1,k2,k3,k4,_):=codeHd_of_K KX hc;rw[k1]at g1;cases g1;rw[k3]at g3;cases g3;rw[k4]at g4;cases g4;exact(g5,(c,hc),n)
def FJ{l:PySem.W.OpenLaw}{n k:Nat}{q:Program}{loose:List Str}{XP:(Str->Option Value)->Heap->Prop}{YP:World->Heap->Prop}{d:DefRec}{K:Params->Wf}{CX:World->AY}{sp:World->Sp}{x:Str}{Ts:List Addr}
  (hn:l.most=some n) (hn2:n<=sizeLine) (hdf:d.params.defaults=[]) (hr:cB k callerA)
  (hY:∀(w:World) (h:Heap),YP w h->(K w.params).In h)
  (hT:∀(w:World) (h:Heap) (lo:List Str) (mean:ExcName->Option Value) (mg mb:So),(K w.params).In h->Top q lo mean mg mb h->∀T∈Ts,DF (K w.params) h T)
  (F:∀(w:World) (mg:So) (fa:Addr) (h:Heap),(K w.params).In h->h.Ns mainGlobals mg->mg d.name=some (.ref fa)->
   ∃fd:FuncData,(∀(s:Shared) (u:Value),BindsTo s fd ([u],[]) [⟨x,u⟩])/\
    ∀base:Heap,(K w.params).In base->base.Ns mainGlobals mg->aS l.prog w (K w.params) mg base (CX w) k fa fd [x] (sp w))
  (hsp:∀(w:World) (H:Hp) (a:Addr) (ns:List Int),ns.length<=n->sJ Ts H->az (K w.params) H a (ns.map V.int)->sp w [.ref a] H (λv _=>v=.bl true) λ_ _ _=>False)
  (hCX:∀(w:World) (H:Hp) (s:Shared) (e:Value) (s':Shared),CX w [] H s (λ_ _ _=>False) e s'->False):
  PySem.W.WalkO q loose XP YP l.row.toRowW d [] (λf vs=>PySem.call f vs):=by
 refine Att.attach_call hn hdf λw s₀ s₁ mg mb fa o pm cd doc a vs ns G Y ho hd hcd hmg hobj hints hlen hg=>?_;have KX:=hY w _ Y;let(fd,hb,hF):=F w mg fa _ KX G.T.g hmg;refine zp KX G.T.g G.T.b G.T.builtins G.T.nolimit hg hobj hints (fF hlen hn2) hr (λT hT'=>?_) hF hb (λH hO hS=>hsp w H a ns hlen hO hS) λH e s'=>hCX w H s₁ e s';let(t1,(c,t2),t3):=hT w _ _ _ mg mb KX G.T T hT';let(o',vs',_,_,_,_,_,_,_,e1,e2,e3,e4,_):=codeHd_of_K KX t2;exact(t1,(c,o',vs',e1,e2,e3,e4),t3)
def Gk(P:Addr)(H:Hp):Hp:=λb=>if b=P then none else H b
def fB(hP:H P=some (.i3 ps))(e:H b=some o)(n:∀ps,o≠.i3 ps):Gk P H b=some o:=by
 unfold Gk;rw[if_neg (λz=>by rw[z,hP]at e;exact n ps (Option.some.inj e).symm)];exact e
theorem gT.same(s:gT P H H'):au (Gk P H) H':=λb o e=>by
 unfold Gk at e;by_cases z:b=P
 ·rw[if_pos z]at e;cases e
 ·rw[if_neg z]at e;exact s b o z e
def gT.free(s:gT P H H'){b:Addr}(hb:b≠P)(h:H' b=none):H b=none:=by
 cases e:H b with
 |none=>rfl
 |some o=>rw[s b o hb e]at h;cases h
theorem br.At.Gk{P:Addr}{ps:Array Value}{H:Hp}{s:br}(hP:H P=some (.i3 ps))(h:s.At H):s.At (Gk P H):=
 (fB hP h.top (λ_ z=>by cases z),fB hP h.wd (λ_ z=>by cases z),fB hP h.fl (λ_ z=>by cases z),λf hf=>fB hP (h.fs f hf) (λ_ z=>by cases z))
theorem aj.At.Gk{P:Addr}{ps:Array Value}{H:Hp}{p:aj}(hP:H P=some (.i3 ps))(h:p.At H):p.At (Gk P H):=
 (fB hP h.top (λ_ z=>by cases z),fB hP h.sl (λ_ z=>by cases z),fB hP h.nl (λ_ z=>by cases z),λs hs=>(h.ss s hs).Gk hP,λn hn=>fB hP (h.ns n hn) (λ_ z=>by cases z))
theorem aj.At.keep{P:Addr}{ps:Array Value}{H H':Hp}{p:aj}(h:p.At H)(hP:H P=some (.i3 ps))(s:gT P H H'):p.At H':=(h.Gk hP).mono s.same
def U4(K:Wf)(a:Addr)(xs:List V):It:=
 (λi H=>az K H a xs/\i<xs.length,λi H x H'=>H'=H/\xs.reverse[i]?=some x,λi H=>az K H a xs/\xs.length<=i)
theorem Ej{P:Program}{w:World}{K:Wf}{tg:Expr}(a it:Addr)(xs:List V):Turn P w K tg (U4 K a xs) [it] it (λi h=>i<=xs.length/\h.IsRevIter it a ((xs.length:Int) - 1 - i)) where
 mem:=by simp
 obj:=λi h st b hb=>by
  have e:=by simpa using hb
  subst e;let(_,o,e,c,d):=st;exact(o,e,λv z=>by rw[d]at z;cases z)
 keep:=λi h h' st k=>(st.1,st.2.at λo e=>k it (by simp) o e)
 item:=by
  intro X hP hw hK hc i pins s Z H E I hf st hg;subst hP hw hK;let(hq,hi):=hg;let(its,rv,p,hz):=I.list hq;let(f0,f1,f2,f3,f4,f5):=hf it (by simp);have hx:xs[xs.length - 1 - i]?=some xs[xs.length - 1 - i]:=jw (by omega);generalize hxx:xs[xs.length - 1 - i]=x at hx;let(u,hu,ru):=rv.get hx;have st2:s.heap.IsRevIter it a ((xs.length - 1 - i:Nat):Int):=by grind
  refine wpAny_pyNext_rev_item st2 p.isList (by simpa using hu) λh' st' sb=>?_;have I1:=I.turned (t':=s.toks) (λb o hb e=>(sb.2 b hb).trans e) f0 f1 f3 f4 f5;let(o,e,c,d):=id st';refine(u,rfl,sS e c d (by decide) (x,H,I1,ru,(rfl,?_),(by omega,?_),λb hb=>(hf b hb).1))
  ·rw[List.getElem?_reverse hi];exact hx
  ·grind
 done:=by
  intro X hP hw hK hc i pins s Z H E I hf st hg;subst hP hw hK;let(hq,hi):=hg;let(f0,f1,f2,f3,f4,f5):=hf it (by simp);have st2:s.heap.IsRevIter it a (-1):=by grind
  exact wpAny_pyNext_rev_end (I.ok.hd hc) st2 λh' eb=>(rfl,I.turned (t':=s.toks) (λb o hb e=>eb b o hb e) f0 f1 f3 f4 f5)
 self:=λ_ _ _ _ _ st h=>wpAny_pyIter_revIter st.2 h
section
variable{X:Cx}{tg:Expr}{K:Wf}
def SG(K:Wf)(tl:TE):TI:=λZ H R=>tl Z H λx H1=>∃a xs,x=.ref a/\az K H1 a xs/\R (U4 K a xs) H1
def Me(eK:X.K=K)(hg:Gl X "reversed")(hm:X.mg "reversed" = none)(hl:PE X l tl)(hs:starEach [l] X.env=[⟨false,eval l X.env⟩]:=by rfl):PI X tg (.Call (.Name "reversed" p) [l] [] pos) (SG K tl):=by
 subst eK;intro pins s Z H R I h;refine Ng (iy I hg hm (show bootBuiltins "reversed" = some (.type "reversed") by kernel_rfl) (PyProof.Rows.callWith_type1 ?_ (by rw[hs];rfl) rfl));rw[hs];show wpAny _ _ (spliced (⟨false,eval l X.env⟩::[])) _ _ s;refine Calls.spliced_cons (bL (hl pins s Z H _ I h) λu s1 (x,H1,I1,r1,a,xs,ex,hq,q)=>Calls.spliced_nil ?_);subst ex;cases r1;let(its,r',pl,hz'):=I1.list hq;refine call_reversed_list pl.isList ?_;have ln:=r'.length;have it0:(s1.heap.push (revObj a ((its.toArray.size:Int) - 1))).IsRevIter s1.heap.objs.size a ((xs.length:Int) - 1 - ((0:Nat):Int)):=(_,iL _ rfl,rfl,by
  rw[i4,<-ln,show((xs.length:Int) - 1 - ((0:Nat):Int))=(xs.length:Int) - 1 by lia];rfl)
 refine wpAny_pyIter_revIter it0 ((s1.heap.objs.size,[s1.heap.objs.size],_,_,H1,rfl,I1.kept λb o e=>cV _ e,Ej a _ xs,(d6 _,it0),λb hb=>?_,q));have e:=by simpa using hb
 subst e;exact I1.qF (bJ _) (I1.aP.fresh (bJ _))
def Ib(K:Wf)(g:TG)(tb:TS)(D:Ends)(Z:St):VK:=λx H1=>∃a xs,x=.ref a/\az K H1 a xs/\mZ g tb D Z (U4 K a xs) H1
section
variable{te:TE}{g:TG}{tb:TS}{D:Ends}{Z:St}{H:Hp}
theorem SJ:kD (SG K te) g tb D Z H=te Z H (Ib K g tb D Z):=rfl
def Ib.of{a:Addr}{xs:List V}(Pv:Nat->St->Hp->Prop)(h0:Pv 0 Z H)(hl:∀i Z H,i<=xs.length->Pv i Z H->az K H a xs)
  (hs:∀i x Z H,xs.reverse[i]?=some x->Pv i Z H->g x Z H λσ2 H2=>tb { D with nx:=Pv (i+1),ct:=Pv (i+1),bk:=D.nx } σ2 H2) (hd:∀Z H,Pv xs.length Z H->D.nx Z H):Ib K g tb D Z (.ref a) H:=by
 refine(a,xs,rfl,hl 0 _ _ (d6 _) h0,λi m Z H=>m=xs.length - i/\i<=xs.length/\Pv i Z H,(xs.length,by simp,Nat.zero_le _,h0),?_);rintro i m Z H ⟨rfl,hi,p⟩;have q:=hl i Z H hi p;by_cases hlt:i<xs.length
 ·refine .inr ((q,hlt),Pv (i+1),λσ' H' p'=>(xs.length - (i+1),by lia,rfl,hlt,p'),λx H' y=>?_);let(rfl,hx):=y;exact hs i x Z _ hx p
 ·have e:i=xs.length:=by lia
  subst e;exact .inl ((q,bJ _),hd Z H p)
end
def Po:V->List V->Hp->VK->Prop:=λx vs H Q=>∃d o kvs more,x=.ref d/\vs=[.ref o]/\H d=some (.dK kvs)/\H o=some (.dK more)/\d≠o/\kvs.length+more.length<=100000/\Q .bw (upd H d (.dK (nW kvs more)))
def wK:Km X "dict.update" Po:=by
 intro pins s Z H x vs v us Q I rx rv h;let(d,o,kvs,more,rfl,rfl,hd,ho,ne,z,q):=h;cases rx;let(u,rfl,ru):=vals1 rv;cases ru;let(_,hS,ws,rel,dd):=pP I.aP hd;let(_,hS2,ws2,rel2,dd2):=pP I.aP ho;have l1:=Paired.length rel;have l2:=Paired.length rel2;have l3:=i7 more kvs;refine call_meetsIn PySem.F.slot_dict_update dd.typeIs PySem.F.entry_dict_update (PySem.F.args_dict_update_2 _ _) (meets_dict_update (bu X.prog X.w) d o ne hS2) (ws,ws2,dd,dd2,by rw[sizeLine_eq];lia,λh' d1 d2 sb=>?_);have he:∃q,h'.get? d=some q:=let (q,_,_,hq,_):=d1;(q,hq)
 exact(.bw,_,jO I (hd▸True.intro) sb he (xE (by rw[sizeLine_eq];omega) hS (KV.merge rel2 rel) d1),rfl,q)
def ye(g:TG)(tt:TT)(te:TE)(σ0:St)(Q:VK):VK:=λx H1=>∃a kvs,x=.ref a/\H1 a=some (.dK kvs)/\∀o,ud g tt te σ0 Q (O9 a o kvs) (upd H1 a (.g7 o (.dK kvs)))
section
variable{k:Nat}{fm:List Nat}{tl te:TE}{g:TG}{tt:TT}{Z σ0:St}{H H1:Hp}{Q:VK}
theorem Ln:lh k fm (Cz tl) g tt te Z H Q=tl Z H (ye g tt te (eV k fm Z) Q):=rfl
def ye.of{a:Addr}{kvs:List (Key×V)}(hz:kvs.length<sizeLine)(hx:H1 a=some (.dK kvs))(Pv:Obj->Addr->Nat->List V->Hp->Prop)(h0:∀o D,H1 D=none->Pv o D 0 [] (upd (upd H1 a (.g7 o (.dK kvs))) D (.lst [])))
  (hl:∀o D i ys H',H1 D=none->i<=kvs.length->Pv o D i ys H'->H' a=some (.g7 o (.dK kvs))/\H' D=some (.lst ys)/\ys.length<=i)
  (hs:∀o D i p ys H',H1 D=none->kvs[i]?=some p->Pv o D i ys H'->g (kV p.1) σ0 H' λσ3 H4=>Ext σ0 σ3/\tt σ3 H4 λb H5=>if b=true then te σ3 H5 λy H6=>H6 D=some (.lst ys)/\Pv o D (i+1) (ys++[y]) (upd H6 D (.lst (ys++[y]))) else Pv o D (i+1) ys H5)
  (hd:∀o D ys H',H1 D=none->Pv o D kvs.length ys H'->Q (.ref D) H'):ye g tt te σ0 Q (.ref a) H1:=by
 refine(a,kvs,rfl,hx,λo D hD0=>?_);have nD:D≠a:=λe=>by rw[e,ax]at hD0;cases hD0
 have hD:H1 D=none:=by rwa [ae nD]at hD0
 refine(λi m ys H=>m=kvs.length - i/\i<=kvs.length/\Pv o D i ys H,(kvs.length,by simp,Nat.zero_le _,h0 o D hD),?_);rintro i m ys H2 ⟨rfl,hi,p⟩;let(l0,l1,l2):=hl o D i ys H2 hD hi p;refine(l1,by lia,?_);by_cases hlt:i<kvs.length
 ·refine .inr ((l0,kvs[i],by simp),Pv o D (i+1),λys' H' p'=>(_,by lia,rfl,hlt,p'),λx H3 y=>?_);let(rfl,u,hu,rfl):=y;exact hs o D i u ys _ hD hu p
 ·have e:i=kvs.length:=by lia
  subst e;exact .inl ((l0,bJ _),hd o D ys H2 hD p)
end
def LY(te:TE):TI:=λZ H R=>te Z H λx H1=>∃a kvs,x=.ref a/\Rd H1 a (.dK kvs)/\∀o H2,H2 a=some (.g7 o (.dK kvs))->(∀b,b≠a->H2 b=H1 b)->R (O9 a o kvs) H2
def Ru(g:TG)(tb:TS)(D:Ends)(Z:St):VK:=λx H1=>∃a kvs,x=.ref a/\Rd H1 a (.dK kvs)/\∀o H2,H2 a=some (.g7 o (.dK kvs))->(∀b,b≠a->H2 b=H1 b)->mZ g tb D Z (O9 a o kvs) H2
section
variable{te:TE}{g:TG}{tb:TS}{D:Ends}{Z:St}{H:Hp}
theorem Ma:kD (LY te) g tb D Z H=te Z H (Ru g tb D Z):=rfl
end
end
section
variable{X:Cx}
def RH:List V->Hp->VK->Prop:=λxs H Q=>∃p kvs,∃ss:List Str,xs=[.ref p]/\Rd H p (.dK kvs)/\kvs.map (·.1)=ss.map Sum.inr/\ss.length<64/\∀(l:Addr) (ss':List Str),H l=none->ss'.Perm ss->ss'.Pairwise h9->Q (.ref l) (upd H l (.lst (ss'.map V.str)))
def IB:V->List V->Hp->VK->Prop:=λx vs H Q=>∃l xs,∃i:Int,∃y,x=.ref l/\vs=[.int i,y]/\H l=some (.lst xs)/\0<=i/\i<2 ^ 62/\xs.length<sizeLine/\Q .bw (upd H l (.lst (xs.take i.toNat++y::xs.drop i.toNat)))
def As:Km X "list.insert" IB:=by
 intro pins s Z H x vs v us Q I rx rv h;let(l,xs,i,y,rfl,rfl,hH,h0,h1,hz,q):=h;cases rx;let(u1,u2,rfl,r1,r2):=vals2 rv;let(t,rfl):=r1;let(z,its,n,r,hl,e):=I.zm hH;have hlen:xs.length=its.length:=r.length;have hf:Builtin.List.listFitsIndex i=true:=fitsIndex_of h0 (by lia);refine call_meets F.slot_list_insert (_,e,rfl) F.entry_list_insert (F.args_list_insert_3 _ _ _) (PySem.AutoSeq1.list_insert_list_int_val_1 l its.toArray n i t u2 (by rw[hf];decide) (by rw[i4];lia)) (e,?_);refine(.bw,_,I.G9 (its':=its.take i.toNat++u2::its.drop i.toNat) hH e ?_ ((r.take _).append (.cons r2 (r.drop _))) ?_,rfl,q)
 ·have hn:¬i<0:=by lia
  simp only[hn,if_false,List.size_toArray];apply Array.toList_inj.mp;simp[Array.toList_extract];by_cases hi:i.toNat<=its.length
  ·rw[Nat.min_eq_left hi,TH (show(its.drop i.toNat).length<=its.length - i.toNat by rw[OW];exact bJ _)]
  ·rw[Nat.min_eq_right (by lia),g9,List.drop_length,List.take_nil,TH (show its.length<=i.toNat by lia),List.drop_of_length_le (show its.length<=i.toNat by lia)]
 ·rw[cw,lA,oY,OW];lia
def Tw(K:Wf):V->List V->Hp->VK->Prop:=λx vs H Q=>∃(p:Addr) (xs:List Str) (y:Str) (j:Nat),x=.ref p/\vs=[.str y]/\az K H p (xs.map V.str)/\xs[j]?=some y/\(∀m,m<j->xs[m]?≠some y)/\Q (.int j) H
end
theorem CmpOf.qJ(val:Nat->Str)(hval:∀i v,P i v->∃t,v=.str (val i) t):
  CmpOf prog w A .Lt P (λi j=>decide ((val i).cps.toList<(val j).cps.toList)):=λi j vi vj s Q E hi hj h=>by
 let(t,rfl):=hval i vi hi;let(u,rfl):=hval j vj hj;exact richCompare_gives (op:=.Lt) (typeIs_str s _ t) (typeIs_str s _ u) F.slot_str_lt F.entry_str_lt (F.args_str_lt_2 _ _) (gives_str_lt _ _ t u) (λx=>nomatch x) h
theorem sy(bt:Nat->Nat->Bool):∀n,argBest bt n<=n
 |0=>bJ _
 |n+1=>by
  unfold argBest;have:=sy bt n;split<;>lia
theorem nh(val:Nat->Str):∀n i,i<=n->h9 (val (argBest (λi j=>decide ((val i).cps.toList<(val j).cps.toList)) n)) (val i)
 |0,i,h=>by
  rw[show i=0 by lia];exact Ji _
 |n+1,i,h=>by
  unfold argBest;have ih:=nh val n;split
  ·rename_i q;have q:=of_decide_eq_true q;by_cases e:i=n+1
   ·rw[e];exact Ji _
   ·exact kB (List.le_of_lt q) (ih i (by lia))
  ·rename_i q;have q:¬(val (n+1)).cps.toList<(val (argBest (λi j=>decide ((val i).cps.toList<(val j).cps.toList)) n)).cps.toList:=λz=>q (decide_eq_true z);by_cases e:i=n+1
   ·rw[e];exact Gr.mp q
   ·exact ih i (by lia)
section
variable{X:Cx}
def K1(K:Wf):List V->Hp->VK->Prop:=λxs H Q=>∃(p:Addr) (ss:List Str),xs=[.ref p]/\az K H p 'E'/\ss≠[]/\∀m:Str,m∈ss->(∀z∈ss,h9 m z)->Q (.str m) H
def zj(hc:X.calm=true):bP X (.builtin "min") (K1 X.K):=by
 intro pins s Z H xs us Q I r h;let(p,ss,rfl,hq,hne,q):=h;let(u,rfl,rx):=vals1 r;cases rx;let(its,rv,pl,hz):=I.list hq;have hl:=rv.length;rw[aD]at hl;have hlt:p<s.heap.objs.size:=by let(_,e,_):=pl.isList;exact cy e
 have npos:0<its.length:=by rw[<-hl];exact PN.mpr hne
 have val:∀(i:Nat) (v:Value),its.toArray[i]?=some v->∃t,v=.str (ss.getD i s!"") t:=λi v hv=>by
  have hv:its[i]?=some v:=by simpa using hv
  have hi:=(fA.mp hv).1;have e1:'E'[i]?=some (V.str (ss[i]'(by lia))):=by rw[l_,jw (by lia)];rfl
  let(u,hu,ru):=rv.get e1;rw[hv]at hu;rw[Option.some.inj hu];let(t,et):=ru;exact(t,by rw[et,zM,jw (show i<ss.length by lia)];rfl)
 refine call_min_walk (wpAny_pyIter_list pl.isList ?_);refine(_,_,_,_,_,_,_,rfl,Walks.list (A:=X.A.in1) (by simp[I.ok.hd hc]) s.heap.objs.size p (Nat.ne_of_lt hlt) its.toArray,((_,Heap.get?_push_size _ rfl,rfl,rfl),pl.isList.push _),λb hb=>?_,by simpa using npos,CmpOf.qJ (λi=>ss.getD i s!"") val,λv h' tk hP kp=>?_)
 ·show b<(s.heap.push _).objs.size;rw[Gg];rcases eP.mp hb with rfl|hb
  ·exact AS _
  ·rw[bU.mp hb];exact JH hlt
 ·let(t,rfl):=val _ v hP;have kept:∀b o,s.heap.get? b=some o->h'.get? b=some o:=λb o e=>kp b o (λhm=>by rw[bU.mp hm]at e;exact absurd (cy e) (k9 _)) (cV _ e);have bl:=sy (λi j=>decide ((ss.getD i s!"").cps.toList<(ss.getD j s!"").cps.toList)) (its.toArray.size - 1);have bm:=nh (λi=>ss.getD i s!"") (its.toArray.size - 1);rw[i4]at bl bm;refine(V.str _,H,I.kept kept,(t,rfl),q _ ?_ λz hz=>?_)
  ·rw[i4];have:argBest (λi j=>decide ((ss.getD i s!"").cps.toList<(ss.getD j s!"").cps.toList)) (its.length - 1)<ss.length:=by lia
   rw[zM,jw this];exact Aw _
  ·let(i,hi):=HP hz;have il:=(fA.mp hi).1;have:=bm i (by lia);rw[i4];rw[show ss.getD i s!""=z by rw[zM,hi];rfl]at this;exact this
def Q8:List V->Hp->VK->Prop:=λxs H Q=>∃(p:Addr) (kvs:List (Key×V)) (ss:List Str),xs=[.ref p]/\Rd H p (.dK kvs)/\kvs.map (·.1)=ss.map Sum.inr/\ss≠[]/\∀m:Str,m∈ss->(∀z∈ss,h9 m z)->Q (.str m) H
def zS(hc:X.calm=true):bP X (.builtin "min") Q8:=by
 intro pins s Z H xs us Q I r h;let(p,kvs,ss,rfl,hq,hk,hne,q):=h;let(u,rfl,rx):=vals1 r;cases rx;let(z,hS,vs,rel,dd):=jW I.aP hq;let(ep,da):=dd.dictAt;have hkeys:vs.map (·.1)=ss.map Sum.inr:=(qP rel).symm.trans hk;have hl:vs.length=ss.length:=by have e:=congrArg List.length hkeys;simpa using e
 have hlt:p<s.heap.objs.size:=by let(_,_,e,_):=id da;exact cy e
 have npos:0<vs.length:=by rw[hl];exact PN.mpr hne
 have val:∀(i:Nat) (v:Value),(∃k x,vs[i]?=some ⟨k,x⟩/\(bu X.prog X.w).is k v=true)->∃t,v=.str (ss.getD i s!"") t:=λi v (k,x,e,hi)=>by
  have e1:(vs.map (·.1))[i]?=some k:=by rw[l_,e];rfl
  rw[hkeys,l_]at e1;cases hj:ss[i]? with
  |none=>rw[hj]at e1;cases e1
  |some y=>
   rw[hj]at e1;cases e1;let(t,rfl):=Value.isStrOf_shape (x:=y) (v:=v) hi;exact(t,by rw[zM,hj];rfl)
 refine call_min_walk (wpAny_pyIter_dict hS da ?_);refine(_,_,_,_,_,_,_,rfl,Walks.dictKeys (A:=X.A.in1) (by simp[I.ok.hd hc]) s.heap.objs.size p (Nat.ne_of_lt hlt) vs ep,((_,Heap.get?_push_size _ rfl,rfl,rfl),da.at' λo e=>Heap.get?_push_of_some _ e),λb hb=>?_,npos,CmpOf.qJ (λi=>ss.getD i s!"") val,λv h' tk hP kp=>?_)
 ·show b<(s.heap.push _).objs.size;rw[Gg];rcases eP.mp hb with rfl|hb
  ·exact AS _
  ·rw[bU.mp hb];exact JH hlt
 ·let(t,rfl):=val _ v hP;have kept:∀b o,s.heap.get? b=some o->h'.get? b=some o:=λb o e=>kp b o (λhm=>by rw[bU.mp hm]at e;exact absurd (cy e) (k9 _)) (cV _ e);have bl:=sy (λi j=>decide ((ss.getD i s!"").cps.toList<(ss.getD j s!"").cps.toList)) (vs.length - 1);have bm:=nh (λi=>ss.getD i s!"") (vs.length - 1);refine(V.str _,H,I.kept kept,(t,rfl),q _ ?_ λz hz=>?_)
  ·have:argBest (λi j=>decide ((ss.getD i s!"").cps.toList<(ss.getD j s!"").cps.toList)) (vs.length - 1)<ss.length:=by lia
   rw[zM,jw this];exact Aw _
  ·let(i,hi):=HP hz;have il:=(fA.mp hi).1;have:=bm i (by lia);rw[show ss.getD i s!""=z by rw[zM,hi];rfl]at this;exact this
def gI(a b:Str):Str:=if decide (b.cps.toList<a.cps.toList)=true then b else a
def LK:List V->Hp->VK->Prop:=λxs H Q=>∃a b:Str,xs=[.str a,.str b]/\Q (.str (gI a b)) H
def vd(hc:X.calm=true):bP X (.builtin "min") LK:=by
 intro pins s Z H xs us Q I r h;let(a,b,rfl,q):=h;let(u,w',rfl,(t,rfl),(t',rfl)):=vals2 r;have hT:(s.heap.push { cls:=.type "tuple", data:=.seq #[.str a t,.str b t'] }).IsTuple s.heap.objs.size #[.str a t,.str b t']:=(_,iL _ rfl,rfl,0,rfl)
 refine call_min_two (wpAny_pyIter_tuple hT ?_);have hsz:(s.heap.push { cls:=.type "tuple", data:=.seq #[.str a t,.str b t'] }).objs.size=s.heap.objs.size+1:=Gg ..;have val:∀(i:Nat) (v:Value),(#[Value.str a t,Value.str b t']:Array Value)[i]?=some v->∃t,v=.str ([a,b].getD i s!"") t:=λi v hv=>by
  match i,hv with
  |0,hv=>exact(t,(Option.some.inj hv).symm)
  |1,hv=>exact(t',(Option.some.inj hv).symm)
  |i+2,hv=>simp at hv
 refine(_,[_,s.heap.objs.size],[_],_,_,_,_,rfl,Walks.tuple (A:=X.A.in1) (by simp[I.ok.hd hc]) _ s.heap.objs.size (by rw[hsz];exact Nat.ne_of_lt (Nat.lt_succ_self _)) #[.str a t,.str b t'],
  ((_,iL _ rfl,rfl,rfl),hT.push _),λc hc=>?_,by simp,CmpOf.qJ (λi=>[a,b].getD i s!"") val,λv h' tk hP hk=>?_)
 ·show c<((s.heap.push _).push _).objs.size;rw[Gg,hsz];rcases eP.mp hc with rfl|hc
  ·rw[hsz];exact AS _
  ·rcases eP.mp hc with rfl|hc
   ·exact JH (AS _)
   ·cases hc
 ·have kept:∀c o,s.heap.get? c=some o->h'.get? c=some o:=λc o e=>by
   refine hk c o (λhm=>?_) (cV _ (cV _ e));rcases eP.mp hm with e1|hm
   ·have:=cy e;rw[e1,hsz]at this;exact k9 _ (Nat.lt_of_succ_lt this)
   ·cases hm
  refine(V.str (gI a b),H,I.kept kept,?_,q);have hP':(#[Value.str a t,Value.str b t']:Array Value)[argBest (λi j=>decide (([a,b].getD i s!"").cps.toList<([a,b].getD j s!"").cps.toList)) 1]?=some v:=hP;have e:argBest (λi j=>decide (([a,b].getD i s!"").cps.toList<([a,b].getD j s!"").cps.toList)) 1=if decide (b.cps.toList<a.cps.toList)=true then 1 else 0:=rfl;rw[e]at hP';unfold gI;split at hP'
  ·rename_i z;rw[if_pos z];exact(t',(Option.some.inj hP').symm)
  ·rename_i z;rw[if_neg z];exact(t,(Option.some.inj hP').symm)
theorem mL{K:Wf}(hc:X.calm=true)(e:X.K=K):bP X (.builtin "min") (K1 K):=e▸zj hc
end
section
open PySem.SeqAt
open PySem.AutoSeq1 (wpAny_loadPart')
open PySem.MeetsSeq PySem.MeetsSeq2 PySem.MeetsSeq3
theorem Ba(l b:Addr)(x1 x2 y1 y2:Value)(n n2:Nat)(dd dd2:Option Addr)(sl sl2:Array (Option Value)):
  Meets (Builtin.«tuple.__lt__» ([.ref l,.ref b],[]))
   (λA R s=>s.heap.get? l=some { cls:=.type "tuple", dict:=dd,data:=.seq #[x1,x2] n,slots:=sl }/\s.heap.get? b=some { cls:=.type "tuple", dict:=dd2,data:=.seq #[y1,y2] n2,slots:=sl2 }/\
    EqAt A.in1 s x1 y1 true/\EqAt A.in1 s x2 y2 true/\R (.ok (.ret (.bool false))) s):=
 .of_wp λprog w A R s h=>by
  let(hp,g,d,tk,os):=s;let(hl,hb,q1,q2,hR):=h;have f2:=AutoSeq1.sub_tuple_tuple;have w1:∀(E:Vs) (Q:Bool->Shared->Prop),Q true (hp,g,d,tk,os)->wpAny 'b' A.in1 (eqBool x1 y1) Q E (hp,g,d,tk,os):=λE Q h=>q1 prog w E Q h;have w2:∀(E:Vs) (Q:Bool->Shared->Prop),Q true (hp,g,d,tk,os)->wpAny 'b' A.in1 (eqBool x2 y2) Q E (hp,g,d,tk,os):=λE Q h=>q2 prog w E Q h
  wp_walk using wpAny_loadPart' hl,wpAny_loadPart' hb,w1,w2
  exact(_,rfl,hR)
end
def D5(hl:IsTup s.heap l #[x1,x2])(hb:IsTup s.heap b #[y1,y2])(hu:A.units<cLine)
  (h1:SeqAt.EqAt A.in1 s x1 y1 true) (h2:SeqAt.EqAt A.in1 s x2 y2 true):rj A s (.ref l) (.ref b) false:=by
 intro prog w E Q q;let((cls,dd,data,sl),ho,hc,n,hd):=id hl;let((cls2,dd2,data2,sl2),ho2,hc2,n2,hd2):=id hb;simp only at hc hd hc2 hd2;subst hc hd hc2 hd2;exact richCompare_meets_room (op:=.Lt) (_,ho,rfl) (_,ho2,rfl) PySem.F.slot_tuple_lt PySem.F.entry_tuple_lt (PySem.F.args_tuple_lt_2 _ _) (Ba l b x1 x2 y1 y2 n n2 dd dd2 sl sl2)
  (ho,ho2,h1,h2,show Value.bool false≠Value.notImplemented/\Q (.bool false) s from ((λx=>nomatch x),q)) hu
def ltQ(x y:Str×Str):Bool:=if x.1=y.1 then decide (x.2.cps.toList<y.2.cps.toList) else decide (x.1.cps.toList<y.1.cps.toList)
def kT(x y:Str×Str):ltQ x y=true↔x.1.cps.toList<y.1.cps.toList\/(x.1=y.1/\x.2.cps.toList<y.2.cps.toList):=by
 unfold ltQ;by_cases e:x.1=y.1
 ·rw[if_pos e,decide_eq_true_eq,e];exact(λh=>.inr (rfl,h),λh=>h.elim (λh=>absurd h (List.lt_irrefl _)) (·.2))
 ·rw[if_neg e,decide_eq_true_eq];exact(.inl,λh=>h.elim id λh=>absurd h.1 e)
def AN(h1:ltQ x y=true)(h2:ltQ y z=true):ltQ x z=true:=by
 rw[kT]at *;rcases h1 with h1|⟨e1,h1⟩<;>rcases h2 with h2|⟨e2,h2⟩
 ·exact .inl (List.lt_trans h1 h2)
 ·exact .inl (e2▸h1)
 ·exact .inl (e1▸h2)
 ·exact .inr (e1.trans e2,List.lt_trans h1 h2)
def GP(x:Str×Str):ltQ x x=false:=by unfold ltQ;rw[if_pos rfl];simp
def yG:rj A s (.str z t) (.str z' t') (decide (z.cps.toList<z'.cps.toList)):=by
 intro prog w E Q q;exact(lt_str q:wpAny 'b' A (compareOp .Lt (.str z t) (.str z' t')) Q E s)
def Io(hl:IsTup s.heap l #[.str x.1 t1,.str x.2 t2])(hb:IsTup s.heap b #[.str y.1 t3,.str y.2 t4])(hu:A.units<cLine):rj A s (.ref l) (.ref b) (ltQ x y):=by
 have q1:=SeqAt.EqAt.str_str (A:=A.in1) (s:=s) x.1 t1 y.1 t3;have q2:=SeqAt.EqAt.str_str (A:=A.in1) (s:=s) x.2 t2 y.2 t4;unfold ltQ;by_cases e:x.1=y.1
 ·rw[if_pos e];rw[show(x.1 == y.1)=true by simpa using e]at q1;by_cases e2:x.2=y.2
  ·rw[show(x.2 == y.2)=true by simpa using e2]at q2;rw[e2,decide_eq_false (List.lt_irrefl _)];exact D5 hl hb hu q1 q2
  ·rw[show(x.2 == y.2)=false by simpa using e2]at q2;exact EO hl hb hu q1 (λh=>by cases h) λ_=>(q2,yG)
 ·rw[if_neg e];rw[show(x.1 == y.1)=false by simpa using e]at q1;exact EO hl hb hu q1 (λ_=>yG) (λh=>by cases h)
def Qs(a:Nat->Addr)(lt:Nat->Nat->Bool)(j:Nat)(xs:Array Value):Prop:=(j=0/\xs=#[])\/∃m,m<j/\xs=#[.ref (a m),.ref (a m)]/\∀i,i<j->lt i m=false
section
variable{prog:Program}{w:World}{A:Around}{R:Result->Shared->Prop}{I S:Addr}{fp wr:List Addr}{n:Nat}{P:Nat->Value->Prop}{St:Nat->Heap->Prop}{a:Nat->Addr}{lt:Nat->Nat->Bool}{Kp:Heap->Prop}
def AI(W:Walks prog w A.in1 I fp wr n P St)(hP:∀i v,P i v->v=.ref (a i))(hSf:S∉fp)(hn:0<n)(irr:∀i,lt i i=false)(tr:∀i j k,lt i j=true->lt j k=true->lt i k=true)
  (kpt:∀h h':Heap,Kp h->(∀b o,b∉wr->b≠S->h.get? b=some o->h'.get? b=some o)->Kp h') (cmp:∀(s:Shared) i j,i<n->j<n->Kp s.heap->rj A.in1 s (.ref (a i)) (.ref (a j)) (lt i j)):
  ∀(k j:Nat) (s:Shared) (xs:Array Value) (c:Nat),n - j=k->j<=n->St j s.heap->Kp s.heap->s.heap.get? S=some (Ex xs c)->Qs a lt j xs->
  (∀m h' tk,m<n->(∀i,i<n->lt i m=false)->(∀b o,b∉wr->b≠S->s.heap.get? b=some o->h'.get? b=some o)->R (.ok (.ret (.ref (a m)))) { s with heap:=h',toks:=tk })->
  codeAny 'b' A (.builtin "min.loop" ([.ref I,.none,.ref S],[])) R s:=by
 have hSw:S∉wr:=λh=>hSf (W.sub _ h);have nm:(toString "min" ++ toString ".loop" : String) = "min.loop" := by decide
 intro k
 induction k with
 |zero=>
  intro j s xs c hk hj hst kp0 hS hb hR;have ej:j=n:=by lia
  subst ej;refine codeAny_builtin F.entry_min_loop ?_;rw[Around.under_plainId F.plain_min_loop _];show wpAny _ A.in1 (seqItems? (.ref S) >>= _) _ _ s;refine aB (wpAny_seqItems hS rfl ?_);refine aB (wpAny_tryCatch (W.done s _ _ hst λh' tk kp=>?_));have hS':=kp S _ hSw hS;rcases hb with ⟨z,rfl⟩|⟨m,z1,rfl,z2⟩
  ·lia
  ·refine aB (m:=updateSeq S λ_=>#[]) (wpAny_updateSeq hS' rfl (aB (wpAny_letGo (bp ?_))));exact hR m _ tk z1 z2 λb o b1 b2 e=>(A0 _ _ (Ne.symm b2)).trans (kp b o b1 e)
 |succ k ih=>
  intro j s xs c hk hj hst kp0 hS hb hR;have hlt:j<n:=by lia
  refine codeAny_builtin F.entry_min_loop ?_;rw[Around.under_plainId F.plain_min_loop _];show wpAny _ A.in1 (seqItems? (.ref S) >>= _) _ _ s;refine aB (wpAny_seqItems hS rfl ?_);refine aB (wpAny_tryCatch (W.item j s _ _ hlt hst λv h' tk hv hst' kp=>?_));have hS':=kp S _ hSw hS;have kp1:Kp h':=kpt _ _ kp0 λb o b1 _ e=>kp b o b1 e;have ev:=hP j v hv;subst ev;have put:∀h'':Heap,St (j+1) h''->(∀b o,b≠S->h'.get? b=some o->h''.get? b=some o)->∀ys c',h''.get? S=some (Ex ys c')->Qs a lt (j+1) ys->codeAny 'b' A (.builtin "min.loop" ([.ref I,.none,.ref S],[])) R { s with heap:=h'',toks:=tk }:=λh'' st'' k2 ys c' e1 e2=>
   ih (j+1) _ ys c' (by lia) hlt st'' (kpt _ _ kp1 λb o _ b2 e=>k2 b o b2 e) e1 e2 λm h3 tk3 b3 b4 k3=>hR m h3 tk3 b3 b4 λb o b1 b2 e=>k3 b o b1 b2 (k2 b o b2 (kp b o b1 e))
  have write:∀ys:Array Value,∃c',(h'.update S (Obj.mapSeq λ_=>ys)).get? S=some (Ex ys c')/\St (j+1) (h'.update S (Obj.mapSeq λ_=>ys))/\∀b o,b≠S->h'.get? b=some o->(h'.update S (Obj.mapSeq λ_=>ys)).get? b=some o:=λys=>
   (_,AV _ hS' rfl,W.frame _ _ _ hst' λb hbf o e=>(A0 _ _ (λq:S=b=>hSf (q▸hbf))).trans e,λb o hb e=>(A0 _ _ (Ne.symm hb)).trans e)
  rcases hb with ⟨z,rfl⟩|⟨m,z1,rfl,z2⟩
  ·have nb:Qs a lt (j+1) #[.ref (a j),.ref (a j)]:=.inr (j,by lia,rfl,λi hi=>by rw[show i=j by lia];exact irr j);let(c',e1,e2,e3):=write #[.ref (a j),.ref (a j)];refine aB (m:=updateSeq S λ_=>#[.ref (a j),.ref (a j)]) (wpAny_updateSeq hS' rfl ?_);rw[nm];exact bp (plainId_quiet F.plain_min_loop _,put _ e2 e3 _ c' e1 nb)
  ·refine aB (bp ?_);refine aB (wpAny_tryCatch (uB (aB ?_)));refine cmp _ j m hlt (by lia) kp1 prog w _ _ ?_;refine aB (uB (OS (aB (wpAny_letGo (bp ?_)))));cases gt:lt j m with
   |true=>
    have nb:Qs a lt (j+1) #[.ref (a j),.ref (a j)]:=.inr (j,by lia,rfl,λi hi=>by
     by_cases q:i=j
     ·rw[q];exact irr j
     ·have h2:=z2 i (by lia);cases h3:lt i j with
      |false=>rfl
      |true=>rw[tr i j m h3 gt]at h2;cases h2)
    let(c',e1,e2,e3):=write #[.ref (a j),.ref (a j)];simp only[if_true];refine aB (m:=updateSeq S λ_=>#[.ref (a j),.ref (a j)]) (wpAny_updateSeq hS' rfl (aB (wpAny_letGo ?_)));rw[nm];exact bp (plainId_quiet F.plain_min_loop _,put _ e2 e3 _ c' e1 nb)
   |false=>
    have nb:Qs a lt (j+1) #[.ref (a m),.ref (a m)]:=.inr (m,by lia,rfl,λi hi=>by
     by_cases q:i=j
     ·rw[q];exact gt
     ·exact z2 i (by lia))
    simp only[Bool.false_eq_true,if_false];refine aB (wpAny_letGo ?_);rw[nm];exact bp (plainId_quiet F.plain_min_loop _,put h' hst' (λb o _ e=>e) _ c hS' nb)
end
section
variable{prog:Program}{w:World}{A:Around}{E:Vs}{s:Shared}
def AJ{l:Addr}{as:List Addr}{f:Addr->Str×Str}{Q:Vs}(hh:A.handled=none)(hu:A.units+2<cLine)(hl:s.heap.IsList l (as.map Value.ref).toArray)(hn:as≠[])(ht:∀b∈as,∃t1 t2,IsTup s.heap b #[.str (f b).1 t1,.str (f b).2 t2])
  (hQ:∀b h' tk,b∈as->(∀c∈as,ltQ (f c) (f b)=false)->(∀b o,s.heap.get? b=some o->h'.get? b=some o)->Q (.ref b) { s with heap:=h',toks:=tk }):
  wpAny 'b' A (call (.builtin "min") [.ref l]) Q E s:=by
 have ll:l<s.heap.objs.size:=let (o,ho,_):=hl;cy ho
 have nm:(toString "min" ++ toString ".loop" : String) = "min.loop" := by decide
 have npos:0<as.length:=PN.mpr hn;refine call_function_tree F.kind_min F.plain_min F.entry_min (F.args_min1 _) ?_;show wpAny _ A.in1 (Builtin.Builtins.bindParams "min" ["key", "default"] 0 ([],[]) >>= _) _ _ s;refine aB (wpAny_of_eq (show Builtin.Builtins.bindParams "min" ["key", "default"] 0 ([],[])=pure [none,none] from rfl) ?_);refine aB (bp (aB (wpAny_pyIter_list hl (aB (Gj ?_)))));rw[nm];generalize h1:s.heap.push { cls:=.type "list_iterator", data:=.fields #[.ref l,.int 0 0] }=H1;have z1:H1.objs.size=s.heap.objs.size+1:=by rw[<-h1];exact Gg ..
 have k1:∀b o,s.heap.get? b=some o->H1.get? b=some o:=λb o e=>h1▸cV _ e;have it:H1.IsListIter s.heap.objs.size l 0:=h1▸(_,iL _ rfl,rfl,rfl)
 have W:=Walks.list (prog:=prog) (w:=w) (A:=A.in1) (by simpa using hh) s.heap.objs.size l (Nat.ne_of_lt ll) (as.map Value.ref).toArray;have sz:(as.map Value.ref).toArray.size=as.length:=by simp
 have tl:∀b∈as,b<s.heap.objs.size:=λb hb=>by
  let(_,_,(o,ho,_)):=ht b hb;exact cy ho
 have inA:∀i,i<as.length->as.getD i 0∈as:=λi hi=>by rw[zM,jw hi];exact Aw _
 refine bp (plainId_quiet F.plain_min_loop _,AI (S:=H1.objs.size) (a:=λi=>as.getD i 0) (lt:=λi j=>ltQ (f (as.getD i 0)) (f (as.getD j 0))) (Kp:=λh=>∀b∈as,∃t1 t2,IsTup h b #[.str (f b).1 t1,.str (f b).2 t2]) W (λi v hv=>?_) (λq=>?_) (by rw[sz];exact npos) (λi=>GP _) (λi j k h1 h2=>AN h1 h2) (λh h' kp kk b hb=>?_) (λs' i j hi hj kp=>?_) (as.map Value.ref).toArray.size 0 _ #[] 0 rfl (d6 _) (it.at λo e=>cV _ e,(hl.at λo e=>k1 _ _ e).at λo e=>cV _ e) (λb hb=>?_) (iL _ rfl) (.inl (rfl,rfl)) λm h' tk hm hx kp=>?_)
 ·have hv:(as.map Value.ref).toArray[i]?=some v:=hv;rw[List.getElem?_toArray,l_]at hv;let(b,hb,rfl):=fC.mp hv;rw[zM,hb];rfl
 ·rw[z1]at q;rcases eP.mp q with q|q
  ·exact Nat.succ_ne_self _ q
  ·exact Nat.ne_of_gt (JH ll) (bU.mp q)
 ·let(t1,t2,(o,ho,q)):=kp b hb;have hb2:=tl b hb;exact(t1,t2,(o,kk b o (λz=>fu hb2 (bU.mp z)) (λz=>by rw[z,z1]at hb2;exact k9 _ (Nat.lt_of_succ_lt hb2)) ho,q))
 ·rw[sz]at hi hj;let(t1,t2,p1):=kp _ (inA i hi);let(t3,t4,p2):=kp _ (inA j hj);exact Io p1 p2 (by show A.units+1<cLine;lia)
 ·let(t1,t2,(o,ho,q)):=ht b hb;exact(t1,t2,(o,cV _ (k1 b o ho),q))
 ·rw[sz]at hm hx;refine hQ _ h' tk (inA m hm) (λc hc=>?_) λb o e=>kp b o (λq=>?_) (fu (Nat.lt_trans (cy e) (z1▸AS _))) (cV _ (k1 b o e))
  ·let(i,hi,rfl):=GS hc;have:=hx i hi
   rwa [show as.getD i 0=as[i] by rw[zM,jw hi];rfl]at this
  ·exact fu (cy e) (bU.mp q)
end
section
variable{X:Cx}
def J0(K:Wf):List V->Hp->VK->Prop:=λxs H Q=>∃(p:Addr) (as:List Addr) (f:Addr->Str×Str),xs=[.ref p]/\az K H p (as.map V.ref)/\as≠[]/\(∀a∈as,H a=some (.tup [.str (f a).1,.str (f a).2]))/\∀a∈as,(∀b∈as,ltQ (f b) (f a)=false)->Q (.ref a) H
def zk(hc:X.calm=true)(hu:X.A.units+64<cLine):bP X (.builtin "min") (J0 X.K):=by
 intro pins s Z H xs us Q I r h;let(p,as,f,rfl,hq,hne,ht,q):=h;let(u,rfl,rx):=vals1 r;cases rx;let(its,rv,pl,hz):=I.list hq;have e:=j8 rv;subst e;refine AJ (f:=f) (by simp[I.ok.hd hc]) (by lia) pl.isList hne (λb hb=>?_) λb h' tk hb hx kp=>?_
 ·let(its,r1,p1,_):=I.tuple (bc.of (ht b hb));let(u,w',rfl,(t,rfl),(t',rfl)):=vals2 r1;exact(t,t',p1)
 ·exact(V.ref b,H,I.kept kp,rfl,q b hb hx)
theorem xC{K:Wf}(hc:X.calm=true)(hu:X.A.units+64<cLine)(e:X.K=K):bP X (.builtin "min") (J0 K):=e▸zk hc hu
end
end L2
namespace L2
open PySem
section
variable{prog:Program}{w:World}{A:Around}{E:Vs}{s:Shared}
set_option maxHeartbeats 3200000 in
set_option maxHeartbeats 3200000 in
end
section
open PySem.Spec PyProof.Rows
def Xj(a:Addr)(o:Obj)(kvs:List (List Key×V))(ks:List Addr):It:=
 (λi H=>H a = some (.g7 o (.dT kvs)) /\ ∃ b, ks[i]? = some b,
  λi H v H'=>H'=H/\∃b,ks[i]?=some b/\v=.ref b,
  λi H=>H a=some (.g7 o (.dT kvs))/\ks.length<=i)
def ED(H:Hp)(kvs:List (List Key×V))(ks:List Addr):Prop:=Paired (λ(p:List Key×V) (b:Addr)=>H b=some (.tup (p.1.map kV))) kvs ks
variable{X:Cx}
def Oe(te:TE):TI:=λZ H R=>te Z H λx H1=>∃a kvs,x=.ref a/\Rd H1 a (.dT kvs)/\∀o ks H2,H2 a=some (.g7 o (.dT kvs))->(∀b,b≠a->H2 b=H1 b)->ED H2 kvs ks->R (Xj a o kvs ks) H2
def Rb(g:TG)(tb:TS)(D:Ends)(Z:St):VK:=λx H1=>∃a kvs,x=.ref a/\Rd H1 a (.dT kvs)/\∀o ks H2,H2 a=some (.g7 o (.dT kvs))->(∀b,b≠a->H2 b=H1 b)->ED H2 kvs ks->mZ g tb D Z (Xj a o kvs ks) H2
section
variable{te:TE}{g:TG}{tb:TS}{D:Ends}{Z:St}{H:Hp}
theorem NQ:kD (Oe te) g tb D Z H=te Z H (Rb g tb D Z):=rfl
end
end
end L2
namespace L2
open PySem PySem.Spec PyProof.Rows
def GF(K:Wf)(g:TG)(tb:TS)(D:Ends)(Z:St):(List V->Hp->Prop):=λvs H1=>∃a b xs ys,vs=[.ref a,.ref b]/\az K H1 a xs/\az K H1 b ys/\mZ g tb D Z (UB K a b) H1
section
variable{K:Wf}{ta:TA}{g:TG}{tb:TS}{D:Ends}{Z:St}{H:Hp}
theorem Pp:kD (RY K ta) g tb D Z H=ta Z H (GF K g tb D Z):=rfl
def GF.of{a b:Addr}{xs ys:List V}(he:ys.length=xs.length)(hx:az K H a xs)(hy:az K H b ys)(Pv:Nat->St->Hp->Prop)(h0:Pv 0 Z H)(hl:∀i Z H',i<=xs.length->Pv i Z H'->az K H' a xs/\az K H' b ys)
  (hs:∀i x y Z H' q,xs[i]?=some x->ys[i]?=some y->Pv i Z H'->H' q=none->g (.ref q) Z (upd H' q (.tup [x,y])) λσ2 H2=>tb { D with nx:=Pv (i+1),ct:=Pv (i+1),bk:=D.nx } σ2 H2) (hd:∀Z H',Pv xs.length Z H'->D.nx Z H'):GF K g tb D Z [.ref a,.ref b] H:=by
 refine(a,b,xs,ys,rfl,hx,hy,λi m Z H=>m=xs.length - i/\i<=xs.length/\Pv i Z H,(xs.length,by simp,Nat.zero_le _,h0),?_);rintro i m Z H2 ⟨rfl,hi,p⟩;let(l0,l0'):=hl i Z H2 hi p;by_cases hlt:i<xs.length
 ·have hlt':=by omega
  refine .inr ((xs,ys,xs[i],ys[i],l0,l0',by simp,by simp),Pv (i+1),λσ' H' p'=>(xs.length - (i+1),by lia,rfl,hlt,p'),λx H3 y=>?_);let(q,u,v,rfl,nq,y1,y2,rfl):=y;exact hs i u v Z H2 q (y1 xs l0) (y2 ys l0') p nq
 ·have e:i=xs.length:=by lia
  subst e;exact .inl ((xs,ys,l0,l0',.inl (bJ _)),hd Z H2 p)
end
def hold(t:TS):TS:=t
theorem iD{t:TS}{D:Ends}{Z:St}{H:Hp}(h:t D Z H):hold t D Z H:=h
theorem fY(h:n_ X b t):n_ X b (hold t):=h
def qB:V->(Bool->Prop)->Prop
 |.bl c,P=>P c
 |_,_=>False
def qI:V->(Int->Prop)->Prop
 |.int c,P=>P c
 |_,_=>False
def qR:V->(Addr->Prop)->Prop
 |.ref c,P=>P c
 |_,_=>False
def qT:Bool->Prop->Prop
 |true,P=>P
 |false,_=>False
def eqQ:V->V->Bool
 |.int i,.int j=>decide (i=j)
 |.str i,.str j=>decide (i=j)
 |.bl i,.bl j=>decide (i=j)
 |x,y=>decide (x=y)
theorem Ye:qB (.bl c) P=P c:=rfl
theorem Yz:qI (.int c) P=P c:=rfl
theorem X9:qR (.ref c) P=P c:=rfl
theorem Yi:qT true P=P:=rfl
theorem W5:eqQ (.int i) (.int j)=decide (i=j):=rfl
theorem WI:eqQ (.str i) (.str j)=decide (i=j):=rfl
theorem W0:eqQ (.bl i) (.bl j)=decide (i=j):=rfl
def ES:qB x P=∃c,x=.bl c/\P c:=by
 cases x<;>first|exact propext (λh=>h.elim,λ(_,e,_)=>nomatch e)|exact propext (λh=>(_,rfl,h),λ(_,e,h)=>by cases e;exact h)
def nj:qI x P=∃c,x=.int c/\P c:=by
 cases x<;>first|exact propext (λh=>h.elim,λ(_,e,_)=>nomatch e)|exact propext (λh=>(_,rfl,h),λ(_,e,h)=>by cases e;exact h)
def fH:qR x P=∃c,x=.ref c/\P c:=by
 cases x<;>first|exact propext (λh=>h.elim,λ(_,e,_)=>nomatch e)|exact propext (λh=>(_,rfl,h),λ(_,e,h)=>by cases e;exact h)
def JC:qT b P=(b=true/\P):=by
 cases b
 ·exact propext (λh=>h.elim,λh=>nomatch h.1)
 ·exact propext (λh=>(rfl,h),λh=>h.2)
def Ef:eqQ x y=decide (x=y):=by
 cases x<;>cases y<;>first|rfl|(simp[eqQ])
def RT(C:Int->Int->Prop)(g:Int->Int->V):R2:=λx y H Q=>qI x λi=>qI y λj=>C i j/\Q (g i j) H
def AO(g:Int->Int->V):R2:=λx y H Q=>qI x λi=>qI y λj=>Q (g i j) H
def Px:R2:=λx y H Q=>qT (gW x y) (Q (.bl (eqQ x y)) H)
def QO:R2:=λx y H Q=>qT (gW x y) (Q (.bl (!eqQ x y)) H)
def ue(K:Wf):R2:=λx y H Q=>qR x λp=>qI y λi=>∃xs,bc K H p xs/\∃v,gz xs i=some v/\Q v H
def Kb(K:Wf):R2:=λx y H Q=>qR x λp=>qI y λi=>∃xs,az K H p xs/\∃v,gz xs i=some v/\Q v H
def qU(t:TE):TT:=λZ H Q=>t Z H λx H'=>qB x λk=>Q k H'
section
variable{X:Cx}{f:Value->Value->Sem Value}{C:Int->Int->Prop}{g:Int->Int->V}
theorem TZ(h:dH X f (rI C g)):dH X f (RT C g):=λpins s Z H x y v u Q I rx ry q=>h pins s Z H x y v u Q I rx ry (by
 dsimp only[RT]at q;rw[nj]at q;let(i,rfl,q):=q;rw[nj]at q;let(j,rfl,q):=q;exact(i,j,rfl,rfl,q))
theorem IC(h:dH X f (HV g)):dH X f (AO g):=λpins s Z H x y v u Q I rx ry q=>h pins s Z H x y v u Q I rx ry (by
 dsimp only[AO]at q;rw[nj]at q;let(i,rfl,q):=q;rw[nj]at q;let(j,rfl,q):=q;exact(i,j,rfl,rfl,q))
theorem bQ:dH X (compareOp .Eq) Px:=λpins s Z H x y v u Q I rx ry q=>Rm pins s Z H x y v u Q I rx ry (by
 dsimp only[Px]at q;rw[JC,Ef]at q;exact q)
theorem wQ:dH X (compareOp .NotEq) QO:=λpins s Z H x y v u Q I rx ry q=>Q3 pins s Z H x y v u Q I rx ry (by
 dsimp only[QO]at q;rw[JC,Ef]at q;exact q)
theorem dt:dH X (binaryOp .Mod) (RT (λ_ j=>0<j) λi j=>.int (i%j)):=TZ Of
theorem eJ:dH X (binaryOp .Add) (AO λi j=>.int (i+j)):=IC Lx
theorem ml:dH X (binaryOp .Sub) (AO λi j=>.int (i - j)):=IC M0
theorem jG:dH X (binaryOp .Mult) (RT GI λi j=>.int (i*j)):=TZ M5
theorem fZ:dH X (binaryOp .FloorDiv) (RT Oi λi j=>.int (i/j)):=TZ IG
theorem jg:dH X (compareOp .Lt) (AO λi j=>.bl (decide (i<j))):=IC SH
theorem yi:dH X (binaryOp .BitAnd) (AO λi j=>.int (Builtin.bitAnd i j)):=IC OM
theorem G5{K:Wf}(e:X.K=K):Kf X (ue K):=λvalue slice pins s Z H x y v u Q I rx ry q=>rP e value slice pins s Z H x y v u Q I rx ry (by
 dsimp only[ue]at q;rw[fH]at q;let(i,rfl,q):=q;rw[nj]at q;let(j,rfl,xs,h,v,h',q):=q;exact(i,xs,j,v,rfl,rfl,h,h',q))
theorem eM{K:Wf}(e:X.K=K):Kf X (Kb K):=λvalue slice pins s Z H x y v u Q I rx ry q=>Bp e value slice pins s Z H x y v u Q I rx ry (by
 dsimp only[Kb]at q;rw[fH]at q;let(i,rfl,q):=q;rw[nj]at q;let(j,rfl,xs,h,v,h',q):=q;exact(i,xs,j,v,rfl,rfl,h,h',q))
def zA(t:TE):qU t=FL t:=by
 funext Z H Q;simp only[qU,FL,ES]
def Uk(t:TE):TT:=λZ H Q=>t Z H λx H1=>qB x λc=>Q c H1
def LG(t:TE):Uk t=tB t:=by
 funext Z H Q;simp only[Uk,tB,ES]
variable{a b:Expr}{ta tb:TE}{pos:Pos}
theorem bI(ho:dH X (compareOp op) r)(ha:PE X a ta)(hb:PE X b tb)(hm:behindInMarks op b=false):PT X (.Compare a [op] [b] pos) (qU (Bj r ta tb)):=zA _▸G4 ho ha hb hm
theorem dj(h:PE X e t)(he:∀whole,isTrue e X.env whole=(do let v <-whole;standAt e.pos;holding [v] (truthy v)):=by intro _;rfl):PT X e (Uk t):=LG _▸N2 h he
def wY(ta tb:TE):TE:=λZ H Q=>ta Z H λx H1=>qB x λc=>if c=true then tb Z H1 Q else Q (.bl false) H1
def z6:wY ta tb=B0 ta tb:=by
 funext Z H Q;simp only[wY,B0,ES]
theorem mf{rest:List Expr}(ha:PE X a ta)(hb:PE X (.BoolOp .And (b::rest) pos) tb):PE X (.BoolOp .And (a::b::rest) pos) (wY ta tb):=z6▸NK ha hb
def BU(K:Wf)(ta:TE)(f:Str):TE:=λZ H Q=>ta Z H λx H1=>qR x λa=>∃C dx fs,H1 a=some (.ins C dx fs)/\pY K C/\aW K C f/\∃v,fs.lookup f=some v/\Q v H1
def Bb{K:Wf}{f:Str}:BU K ta f=OJ K ta f:=by
 funext Z H Q;simp only[BU,OJ,fH,exists_and_left]
theorem fj{f:Str}(he:PE X a ta)(hb:attributeBase a f X.env (eval a X.env)=eval a X.env):PE X (.Attribute a f pos) (BU X.K ta f):=Bb▸OO he hb
def qC:List V->(V->List V->Prop)->Prop
 |x::r,P=>P x r
 |[],_=>False
def q1:List V->(V->Prop)->Prop
 |[x],P=>P x
 |_,_=>False
def q2:List V->(V->V->Prop)->Prop
 |[x,y],P=>P x y
 |_,_=>False
def qN:V->Prop->Prop
 |.bw,P=>P
 |_,_=>False
def qY:V->(String->Prop)->Prop
 |.ty n,P=>P n
 |_,_=>False
theorem Xy:qC (x::r) P=P x r:=rfl
theorem Yl:q1 [x] P=P x:=rfl
theorem YC:q2 [x,y] P=P x y:=rfl
theorem X4:qN .bw P=P:=rfl
theorem XH:qY (.ty n) P=P n:=rfl
def Ry:qC xs P=∃v r,xs=v::r/\P v r:=by
 rcases xs with _|⟨x,r⟩
 ·exact propext (λh=>h.elim,λ(_,_,e,_)=>nomatch e)
 ·exact propext (λh=>(_,_,rfl,h),λ(_,_,e,h)=>by cases e;exact h)
def D3:q1 xs P=∃v,xs=[v]/\P v:=by
 rcases xs with _|⟨x,_|⟨y,r⟩⟩
 ·exact propext (λh=>h.elim,λ(_,e,_)=>nomatch e)
 ·exact propext (λh=>(_,rfl,h),λ(_,e,h)=>by cases e;exact h)
 ·exact propext (λh=>h.elim,λ(_,e,_)=>nomatch e)
def JQ:q2 xs P=∃v u,xs=[v,u]/\P v u:=by
 rcases xs with _|⟨x,_|⟨y,_|⟨z,r⟩⟩⟩
 ·exact propext (λh=>h.elim,λ(_,_,e,_)=>nomatch e)
 ·exact propext (λh=>h.elim,λ(_,_,e,_)=>nomatch e)
 ·exact propext (λh=>(_,_,rfl,h),λ(_,_,e,h)=>by cases e;exact h)
 ·exact propext (λh=>h.elim,λ(_,_,e,_)=>nomatch e)
def Pw:qN x P=(x=.bw/\P):=by
 cases x<;>first|exact propext (λh=>h.elim,λh=>nomatch h.1)|exact propext (λh=>(rfl,h),λh=>h.2)
def Rv:qY x P=∃c,x=.ty c/\P c:=by
 cases x<;>first|exact propext (λh=>h.elim,λ(_,e,_)=>nomatch e)|exact propext (λh=>(_,rfl,h),λ(_,e,h)=>by cases e;exact h)
theorem vR(ho:dH X f r)(e:∀x y H Q,r' x y H Q->r x y H Q):dH X f r':=λpins s Z H x y v u Q I rx ry q=>ho pins s Z H x y v u Q I rx ry (e _ _ _ _ q)
theorem DW(ho:G1 X r)(e:∀x l h H Q,r' x l h H Q->r x l h H Q):G1 X r':=λpins s Z H x v vl vu lo hi sl Q I rx h1 h2 h3 q=>ho pins s Z H x v vl vu lo hi sl Q I rx h1 h2 h3 (e _ _ _ _ _ q)
theorem vN{f:Value}{r r':List V->Hp->VK->Prop}(ho:bP X f r)(e:∀x H Q,r' x H Q->r x H Q):bP X f r':=λpins s Z H x v Q I rx q=>ho pins s Z H x v Q I rx (e _ _ _ q)
def BW(K:Wf):R2:=λx y H Q=>qR x λl=>qR y λb=>∃xs,az K H l xs/\∃zs,az K H b zs/\xs.length+zs.length<=sizeLine/\∀p,H p=none->Q (.ref p) (upd H p (.lst (xs++zs)))
def CJ(K:Wf):R2:=λx y H Q=>qR x λa=>qR y λb=>∃xs,bc K H a xs/\∃ys,bc K H b ys/\xs≠[]/\xs.length+ys.length<=sizeLine/\
 (ys=[]->Q (.ref a) H)/\(ys≠[]->∀p,H p=none->Q (.ref p) (upd H p (.tup (xs++ys))))
def JL(K:Wf):V->Option Int->Option Int->Hp->VK->Prop:=λx lo hi H Q=>qR x λa=>∃xs,bc K H a xs/\
 ¬(HT.sIx xs.length 0 lo=0/\HT.sIx xs.length xs.length hi=xs.length)/\∀p,H p=none->Q (.ref p) (upd H p (.tup (hJ xs lo hi)))
def KI(K:Wf):V->Option Int->Option Int->Hp->VK->Prop:=λx lo hi H Q=>qR x λa=>∃xs,az K H a xs/\∀p,H p=none->Q (.ref p) (upd H p (.lst (hJ xs lo hi)))
def KR(K:Wf):List V->Hp->VK->Prop:=λxs H Q=>q2 xs λx c=>qY c λn=>∃t,jo K H x t/\∃b,kitOne K t (.type n)=some b/\Q (.bl b) H
def Kk(K:Wf):List V->Hp->VK->Prop:=λxs H Q=>q2 xs λx c=>H_ c=true/\∃t,Gv K H x t/\∃b,kitOne K t (Tq c)=some b/\Q (.bl b) H
def JZ(K:Wf):List V->Hp->VK->Prop:=λxs H Q=>q1 xs λx=>∃n:Nat,Mb K x H n/\Q (.int n) H
def Ko:R2:=λx y H Q=>qN y (Q (.bl (decide (x=.bw))) H)
theorem gL:dH X (compareOp .Is) Ko:=vR Mg λx y H Q q=>by
 unfold Ko at q;rw[Pw]at q;exact q
theorem dF{K:Wf}(e:X.K=K):dH X (binaryOp .Add) (BW K):=vR (CM e) λx y H Q q=>by
 unfold BW at q;rw[fH]at q;let(l,rfl,q):=q;rw[fH]at q;let(b,rfl,xs,h,ys,h',q):=q;exact(l,b,xs,ys,rfl,rfl,h,h',q)
theorem Gb{K:Wf}(e:X.K=K):dH X (binaryOp .Add) (CJ K):=vR (CI e) λx y H Q q=>by
 unfold CJ at q;rw[fH]at q;let(l,rfl,q):=q;rw[fH]at q;let(b,rfl,xs,h,ys,h',q):=q;exact(l,b,xs,ys,rfl,rfl,h,h',q)
theorem yW{K:Wf}(e:X.K=K):G1 X (JL K):=DW (HI e) λx lo hi H Q q=>by
 unfold JL at q;rw[fH]at q;let(a,rfl,xs,q):=q;exact(a,xs,rfl,q)
theorem jI{K:Wf}(e:X.K=K):G1 X (KI K):=DW (Ed e) λx lo hi H Q q=>by
 unfold KI at q;rw[fH]at q;let(a,rfl,xs,q):=q;exact(a,xs,rfl,q)
theorem pB{K:Wf}(e:X.K=K):bP X (.builtin "isinstance") (KR K):=vN (zU e) λxs H Q q=>by
 unfold KR at q;rw[JQ]at q;let(x,c,rfl,q):=q;rw[Rv]at q;let(n,rfl,t,h,b,q):=q;exact(x,n,t,b,rfl,h,q)
theorem je{K:Wf}(e:X.K=K):bP X (.builtin "isinstance") (Kk K):=vN (Ay e) λxs H Q q=>by
 unfold Kk at q;rw[JQ]at q;let(x,c,rfl,h,t,h',b,q):=q;exact(x,c,t,b,rfl,h,h',q)
theorem kG{K:Wf}(e:X.K=K):bP X (.builtin "len") (JZ K):=vN (Aq e) λxs H Q q=>by
 unfold JZ at q;rw[D3]at q;let(x,rfl,n,q):=q;exact(x,n,rfl,q)
def wC(t:TE):TO:=λZ H Q=>t Z H λx H1=>qI x λi=>Q (some i) H1
def ff(he:PE X a ta):PO X (some a) (wC ta):=by
 have e:wC ta=Fs ta:=by
  funext Z H Q;simp only[wC,Fs,nj]
 exact e▸Ih he
def Dk(K:Wf)(n:Nat)(t:F7):TG:=λv Z H Q=>qR v λa=>∃xs,bc K H a xs/\xs.length=n/\t xs Z H Q
def wI(t:TG)(u:F7):F7:=λvs Z H Q=>qC vs λv r=>t v Z H λσ' H'=>u r σ' H' Q
def eA(h:M6 X es (xY t u)):M6 X es (wI t u):=by
 have e:wI t u=xY t u:=by
  funext vs Z H Q;simp only[wI,xY,Ry]
 exact e▸h
def cq{K:Wf}{n:Nat}{t:F7}(h:PG X a (Eo K n t)):PG X a (Dk K n t):=by
 have e:Dk K n t=Eo K n t:=by
  funext v Z H Q;simp only[Dk,Eo,fH,exists_and_left]
 exact e▸h
def DI(C:Addr)(m:Str)(sp:Sp)(dvs:List V)(E:XK)(ta:TE)(t:TA):TE:=λZ H Q=>ta Z H λx H1=>qR x λa=>∃dx fs,H1 a=some (.ins C dx fs)/\fs.lookup m=none/\
 t Z H1 λvs H2=>sp (.ref a::(vs++dvs)) H2 Q E
def eh{C:Addr}{m:Str}{sp:Sp}{dvs:List V}{E:XK}{t:TA}(h:PE X a (yV C m sp dvs E ta t)):PE X a (DI C m sp dvs E ta t):=by
 have e:DI C m sp dvs E ta t=yV C m sp dvs E ta t:=by
  funext Z H Q;show ta Z H _=ta Z H _;congr 1;funext x H1;cases x<;>first|exact propext (λh=>h.elim,λ(_,_,_,e,_)=>nomatch e)|exact propext (λ(dx,fs,h)=>(_,dx,fs,rfl,h),λ(_,dx,fs,e,h)=>by cases e;exact(dx,fs,h))
 exact e▸h
def xo(td ty:TE):TE:=λZ H Q=>td Z H λx H1=>ty Z H1 λy H2=>qR x λa=>∃v,cU H2 a y (some v)/\Q v H2
def c6(h:PE X a (yl td ty)):PE X a (xo td ty):=by
 have e:xo td ty=yl td ty:=by
  funext Z H Q;simp only[xo,yl,fH,exists_and_left]
 exact e▸h
def Di(K:Wf)(ta tv:TE)(f:Str):TS:=λD Z H=>tv Z H λy H1=>ta Z H1 λx H2=>qR x λa=>∃C dx fs,H2 a=some (.ins C dx fs)/\pY K C/\aW K C f/\fs.length<1000/\
 D.nx Z (upd H2 a (.ins C dx (putF f y fs)))
def bY{K:Wf}{st:Stmt}{tv:TE}{f:Str}(h:PS X st (GB K ta tv f)):PS X st (Di K ta tv f):=by
 have e:Di K ta tv f=GB K ta tv f:=by
  funext Z H Q;simp only[Di,GB,fH,exists_and_left]
 exact e▸h
def wa(td ty tv:TE):TS:=λD Z H=>tv Z H λv H1=>td Z H1 λx H2=>ty Z H2 λy H3=>qR x λa=>∃H4,dQ H3 a y v H4/\D.nx Z H4
def c_{st:Stmt}{td ty tv:TE}(h:PS X st (yC td ty tv)):PS X st (wa td ty tv):=by
 have e:wa td ty tv=yC td ty tv:=by
  funext Z H Q;simp only[wa,yC,fH,exists_and_left]
 exact e▸h
def jY:V->List V->Hp->VK->Prop:=λx vs H Q=>qR x λl=>q1 vs λy=>∃xs,H l=some (.lst xs)/\xs.length<sizeLine/\Q .bw (upd H l (.lst (xs++[y])))
def vh:Km X "list.append" jY:=by
 have e:jY=r9:=by
  funext x vs H Q;unfold jY r9;rw[fH];refine propext (λ(l,e,h)=>?_,λ(l,xs,y,e,e',h)=>(l,e,?_))
  ·rw[D3]at h;let(y,e',xs,h):=h;exact(l,xs,y,e,e',h)
  ·rw[D3];exact(y,e',xs,h)
 exact e▸oQ
end
section
variable{X:Cx}{k:Nat}{f C:Addr}{fd:FuncData}{ps:List Str}{sp:Sp}{dvs:List V}{ds:List Value}{x:Str}{p pos:Pos}{e:Expr}{es:List Expr}{t:TA}
def MB{pins:Lo}{Z:St}{H:Hp}{s:Shared}{Q:VK}{E:XS}{us:List Value}{vs:List V}(M:Mk X.K C f)(F:aS X.prog X.w X.K X.mg X.base (vc X.prog X.w) k f fd ps sp)(hr:cB (k+1) X.A)(hb:Binds X.K fd ps ds)(hd:Vals dvs ds)
  (I:Inv X pins Z H s) (r:Vals vs us)
  (h:∀x dx,H x=none->H dx=none->dx≠x->sp (.ref x::(vs++dvs)) (upd (upd H dx (.own x)) x (.ins C dx [])) (λv H2=>v=.bw/\Q (.ref x) H2) (E Z)):
  wpAny 'c' X.A (call (.ref C) us) (EP X pins Z Q) (XP X pins E) s:=by
 have hq:=h 'i' s.heap.objs.size (I.aP.fresh (xS _)) (I.aP.fresh (bJ _)) (fu (AS _));have I2:=Inv.made (C:=C) I;have r2:Vals (V.ref 'i'::(vs++dvs)) (Value.ref 'i'::(us++ds)):=.cons rfl (r.append hd);have hl:(Value.ref 'i'::us++ds).length=ps.length:=by
  have e:=r2.length;rw[F.len _ _ _ _ hq]at e;exact e.symm
 refine Gm (tG (f:=f) I.gG M.makes M.init (beq_iff_eq.mp M.fn) (codeAny_mono (F.run _ X.stack _ _ (Value.ref 'i'::us,[]) (Value.ref 'i'::(us++ds)) _ _ (E Z) (hr.make C us [])
  (I2.De.make C us []) (hb _ (Value.ref 'i'::us) I2.gG hl) r2 hq) λr s' hq'=>?_))
 cases r with
 |error e=>exact(Z,_,_,I2,hq')
 |ok fl=>
  cases fl with
  |ret u=>
   let(v,H',I3,rv,ev,q3):=I2.after hq';subst ev;exact(rv,(V.ref 'i',H',I3,rfl,q3))
  |next=>exact False.elim hq'
  |brk=>exact False.elim hq'
  |cont=>exact False.elim hq'
def QS(C:Addr)(sp:Sp)(dvs:List V)(t:TA):AW:=λZ H Q E=>t Z H λvs H1=>∀x dx,H1 x=none->H1 dx=none->dx≠x->sp (.ref x::(vs++dvs)) (upd (upd H1 dx (.own x)) x (.ins C dx [])) (λv H2=>v=.bw/\Q (.ref x) H2) E
def D9(M:Mk X.K C f)(F:aS X.prog X.w X.K X.mg X.base (vc X.prog X.w) k f fd ps sp)(hr:cB (k+1) X.A)(hg:Gl X x)(hm:X.mg x=some (.ref C))(hb:Binds X.K fd ps ds)(hd:Vals dvs ds)
  (ha:PA X.zl (e::es) t) (hdb:(x == ("__debug__" : Str))=false:=by decide) (he:starEach (e::es) X.env=⟨false,eval e X.env⟩::starEach es X.env:=by rfl) (hpl:(backTo pos (starEach es X.env)).any (·.1)=false:=by rfl):
  WW X (.Call (.Name x p) (e::es) [] pos) (QS C sp dvs t):=by
 intro pins s Z H Q E I h;refine Ng (gM I hg hm ?_ hdb);refine callWith_K (h₀:=X.base) I.ok.mod.IA M.kp (Wr (bL (ha pos pins s Z H _ (I.lN _) h) λus s1 (vs,H1,I1,r,q)=>(I1.gG,?_))) he hpl;exact MB M F hr hb hd I1.fN r q
end
end L2
set_option maxHeartbeats 0
set_option pp.deepTerms true
set_option pp.maxSteps 100000
namespace L2
open PySem PySem.Spec PyProof.Rows
section
variable{X:Cx}
theorem tx(K:Wf){a:Expr}{ta:TE}{n:Int}{j:Nat}{p pos:Pos}(ha:PE X a ta)(e:X.K=K:=by rfl):PE X (.Subscript a (.Constant (.int n) j p) pos) (Bj (ue K) ta (tC (.int n))):=bX (G5 e) ha af (λ_ _=>rfl)
theorem pn(i:Nat){x:Str}{pos:Pos}(hN:X.N.Nodup)(hi:X.N[i]?=some x:=by rfl)(hx:Loc X.env.scope x:=by first|exact Or.inl rfl|exact Or.inr rfl)(hf:X.fn x=true\/X.env.scope.names.lookup x=some .local:=by first|exact .inl rfl|exact .inr rfl|assumption):PG X (.Name x pos) (g_ i):=GU hN hi hx hf
theorem pS(i:Nat){x:Str}{e:Expr}{te:TE}{pos pos':Pos}(hN:X.N.Nodup)(he:PE X e te)(hi:X.N[i]?=some x:=by rfl)(hx:Loc X.env.scope x:=by first|exact Or.inl rfl|exact Or.inr rfl)(hs:swapsWith e (some (.Name x pos')) pos.line X.env=pure false:=by rfl)(hf:X.fn x=true\/X.env.scope.names.lookup x=some .local:=by first|exact .inl rfl|exact .inr rfl|assumption):PS X (.Assign [.Name x pos'] e pos) (HW te (g_ i)):=OK hN hi hx he hs hf
theorem pC{k n:Nat}{f:Addr}{fd:FuncData}{ps:List Str}{sp:Sp}{x:Str}{e:Expr}{es:List Expr}{t:TA}{p pos:Pos}(F:aS X.prog X.w X.K X.mg X.base de k f fd ps sp)(hr:cB n X.A)(hm:X.mg x=some (.ref f))(hk:keepIn X.K (.ref f)=true)(hb:Binds X.K fd ps [])(ha:PA X (e::es) t)(hl:k<=n:=by decide)(hg:Gl X x:=by rfl)(hdb:(x == ("__debug__" : Str))=false:=by decide)(he:starEach (e::es) X.env=⟨false,eval e X.env⟩::starEach es X.env:=by rfl)(hpl:(backTo pos (starEach es X.env)).any (·.1)=false:=by rfl):PE X (.Call (.Name x p) (e::es) [] pos) (DP sp [] E0 t):=cF F (hr.mono hl) hg hm hk hb .nil aC ha hdb he hpl
theorem gX(own:List Str){scope:Scope}(kind:scope.kind=.function:=by rfl)(h1:∀y∈scope.names,y.2≠.cell:=by decide +kernel)(h2:∀y∈scope.names,y.2=.local->scope.names.lookup y.1=some .local:=by decide +kernel)(h3:∀y∈scope.names,y.2=.free->y.1∈([]:List Str):=by decide +kernel):ir X (own++[]) own.length [] scope:=nc kind h1 h2 h3 .nil
theorem cT{o e:Expr}{es:List Expr}{to:TE}{t:TA}{apos cpos:Pos}(ho:PE X o to)(ha:PA X (e::es) t)(hbase:attributeBase o "append" X.env (eval o X.env)=eval o X.env:=by rfl)(hfew:((backTo cpos (starEach (e::es) X.env)).all (λx=>!x.1)&&(backToKw cpos (keywordEach [] X.env)).all (λx=>x.1.isSome)&&decide ((e::es).length+([]:List Keyword).length+(if ([]:List Keyword).isEmpty then 0 else 1)<30))=true:=by rfl)(hline:(apos.endLine == cpos.line)=true:=by rfl)(hs:starEach (e::es) X.env=⟨false,eval e X.env⟩::starEach es X.env:=by rfl)(hp:(backTo cpos (starEach es X.env)).any (·.1)=false:=by rfl):PE X (.Call (.Attribute o "append" apos) (e::es) [] cpos) (WV X.K "list" jY to t):=pZ PySem.F.plainAttrs_list PySem.F.slot_list_append PySem.F.type_list_append vh ho ha hbase hfew hline hs hp
theorem pF{tg iter:Expr}{body:List Stmt}{wi:TI}{g:TG}{tb:TS}{pos:Pos}(hi:PI X tg iter wi)(hg:PG X tg g)(hb:n_ X body tb)(hc:X.calm=true:=by rfl)(hs:∀x,foldedSetIterable iter X.env x=pure x:=by intro _;rfl)(hn:PassesOwn 'c' X.A X.env X.xe:=by exact PassesOwn.never):PS X (.For tg iter body [] pos) (kD wi g tb):=Lp hn hc hi hg hb hs
end
end L2
namespace My
open PySem PySem.Spec PyProof.Rows L2
abbrev Mi(a:Addr):List (Str×V):=putF s!"pieces" (V.ref a) []
abbrev NG(a b:Addr):List (Str×V):=putF s!"reasons" (V.ref b) (Mi a)
abbrev Ph(a b c:Addr):List (Str×V):=putF s!"told_by_given" (V.ref c) (NG a b)
abbrev RP(a b c d:Addr):List (Str×V):=putF s!"on_shelves" (V.ref d) (Ph a b c)
abbrev Tr(a b c d e:Addr):List (Str×V):=putF s!"from_shelves" (V.ref e) (RP a b c d)
set_option hygiene false in
local macro_rules | `(tactic| walk_at "j") => `(tactic| (repeat (first | (obtain ⟨rfl, _⟩ := h; rfl) | (obtain ⟨_, h⟩ := h))))
set_option hygiene false in
local macro_rules | `(tactic| walk_at "k") => `(tactic| ((focus (intro vs H Q E h; walk_at "j")); (intro cdv Ar outer s H vs Q E hr h)))
set_option hygiene false in
local macro_rules | `(tactic| walk_at "0") => `(tactic| rw [l_] at hx)
set_option hygiene false in
local macro_rules | `(tactic| walk_at "1") => `(tactic| rw [aD, g9] at e)
set_option hygiene false in
local macro_rules | `(tactic| walk_at "2") => `(tactic| have mem : ∀ b ∈ p.lists, b ∈ L :: bh (ps ++ [p]) := fun b hb => jQ _ (by rw [i5]; exact eW _ hb))
set_option hygiene false in
local macro_rules | `(tactic| walk_at "3") => `(tactic| have tk : (p.aM.take (i + 1)) = p.aM.take i ++ [n] := by rw [gY, hn]; rfl)
set_option hygiene false in
local macro_rules | `(tactic| walk_at "4") => `(tactic| rw [aD, aD] at this)
set_option hygiene false in
local macro_rules | `(tactic| walk_at "5") => `(tactic| have tj : aG (p.ba.take i) ++ st.fills.take (j + 1) = (aG (p.ba.take i) ++ st.fills.take j) ++ [f] := by rw [gY, hf, tD]; rfl)
set_option hygiene false in
local macro_rules | `(tactic| walk_at "6") => `(tactic| rw [l_] at hv)
set_option hygiene false in
local macro_rules | `(tactic| walk_at "7") => `(tactic| obtain ⟨p, hp, rfl⟩ := fC.mp hv)
set_option hygiene false in
local macro_rules | `(tactic| walk_at "8") => `(tactic| have tk : ps.take (i + 1) = ps.take i ++ [p] := by rw [gY, hp]; rfl)
set_option hygiene false in
local macro_rules | `(tactic| walk_at "9") => `(tactic| rw [aD, aD, lA] at this)
set_option hygiene false in
local macro_rules | `(tactic| walk_at "10") => `(tactic| obtain ⟨z, hz, rfl⟩ := fC.mp hv)
local macro_rules | `(tactic| walk_at "o") => `(tactic| first | exact Or.inl rfl | exact Or.inr rfl)
local macro_rules | `(tactic| walk_at "s") => `(tactic| (rw [sizeLine_eq]; decide))
local macro_rules | `(tactic| walk_at "p") => `(tactic| first | exact Or.inl rfl | exact Or.inr (Or.inl rfl) | exact Or.inr (Or.inr rfl))
local macro_rules | `(tactic| walk_at "q") => `(tactic| first | exact .inl rfl | exact .inr rfl | assumption)
local macro_rules | `(tactic| walk_at "n") => `(tactic| exact of_decide_eq_true (by kernel_rfl))
local macro_rules | `(tactic| walk_at "F") => `(tactic| exact ⟨rfl, rfl, rfl, by decide +kernel, rfl, by decide +kernel, by decide +kernel⟩)
def top(i:Nat):Stmt:=PySem.Challenge.pw_joinload_k66_not_made_by_names.main.body.getD i (.Pass (0,0,0,0))
abbrev Js:Stmt:=top 3
abbrev Kr:Stmt:=top 4
abbrev F2:Stmt:=top 5
abbrev yY:Stmt:=top 6
abbrev KN:Stmt:=inClass (top 11) 0
abbrev Jm:Stmt:=inClass (top 12) 0
abbrev Kh:Stmt:=inClass (top 13) 0
abbrev xK:Stmt:=top 20
abbrev x9:Stmt:=top 21
abbrev Ep:Stmt:=top 22
abbrev KO:Stmt:=top 23
abbrev Gd:Stmt:=top 24
abbrev Li:Stmt:=top 25
abbrev KA:Stmt:=top 26
abbrev KC:Stmt:=top 28
abbrev KL:Stmt:=inClass (top 29) 0
abbrev JV:Stmt:=inClass (top 30) 0
abbrev K9:Stmt:=inClass (top 31) 0
abbrev Ke:Stmt:=inClass (top 32) 0
abbrev Jh:Stmt:=top 37
abbrev Lb:Stmt:=top 38
abbrev qM:Stmt:=top 40
abbrev KW:Stmt:=inClass (top 41) 0
abbrev Kz:Stmt:=inClass (top 41) 1
abbrev Ld:Stmt:=inClass (top 41) 2
abbrev J3:Stmt:=top 42
abbrev Kx:Stmt:=top 43
abbrev K4:Stmt:=top 44
abbrev Ju:Stmt:=inClass (top 46) 0
abbrev J5:Stmt:=top 47
abbrev JT:Stmt:=top 49
abbrev K8:Stmt:=top 50
abbrev Lf:Stmt:=top 52
abbrev JP:Stmt:=inClass (top 54) 0
abbrev KP:Stmt:=inClass (top 54) 1
abbrev Kt:Stmt:=inClass (top 54) 3
abbrev K5:Stmt:=top 56
abbrev Lh:Stmt:=top 57
abbrev Kg:Stmt:=top 58
abbrev Kd:Stmt:=top 59
abbrev JB:Stmt:=top 60
abbrev Jr:Stmt:=top 61
abbrev Jo:Stmt:=top 62
abbrev Lc:Stmt:=top 63
abbrev JD:Stmt:=top 64
abbrev Lj:Stmt:=top 65
abbrev KY:Stmt:=top 66
abbrev J8:Stmt:=top 67
abbrev JS:Stmt:=top 68
abbrev JW:Stmt:=top 69
abbrev Jg:Stmt:=top 70
abbrev Ki:Stmt:=top 71
abbrev Jb:Stmt:=top 72
abbrev JR:Stmt:=top 73
abbrev Jt:Stmt:=top 74
abbrev Jp:Stmt:=top 75
abbrev JG:Stmt:=top 76
abbrev Lg:Stmt:=top 77
def oE:bootBuiltins "ValueError" = some (.type "ValueError"):=by decide +kernel
def NM:bootBuiltins "abs" = some (.builtin "abs"):=by decide +kernel
def vU:bootBuiltins "int" = some (.type "int"):=by decide +kernel
def ie:bootBuiltins "isinstance" = some (.builtin "isinstance"):=by decide +kernel
def dS:bootBuiltins "len" = some (.builtin "len"):=by decide +kernel
def eN:bootBuiltins "list" = some (.type "list"):=by decide +kernel
def Ow:bootBuiltins "max" = some (.builtin "max"):=by decide +kernel
def nQ:bootBuiltins "min" = some (.builtin "min"):=by decide +kernel
def Mj:bootBuiltins "set" = some (.type "set"):=by decide +kernel
def eQ:bootBuiltins "sorted" = some (.builtin "sorted"):=by decide +kernel
def MZ:bootBuiltins "str" = some (.type "str"):=by decide +kernel
theorem VI:RelV (.int i) (.int i t):=(t,rfl)
theorem MH:RelV (.ty n) (.type n):=rfl
structure Ad where
 Vc:Addr
 CA:FuncData
 Vr:Addr
 Bh:FuncData
 ones:Addr
 xW:FuncData
 moved:Addr
 uh:FuncData
 Ia:Addr
 EV:FuncData
 Lr:Addr
 Cm:FuncData
 Kw:Addr
 F3:FuncData
 tells:Addr
 uH:FuncData
 wants:Addr
 tq:FuncData
 VD:Addr
 xx:FuncData
 Vw:Addr
 C6:FuncData
 LF:Addr
 xO:FuncData
 TY:Addr
 Fg:FuncData
 UJ:Addr
 DJ:FuncData
 Vk:Addr
 C9:FuncData
 Pb:Addr
 Cp:FuncData
 Tx:Addr
 Ck:FuncData
 Tb:Addr
 Br:FuncData
 SW:Addr
 Fx:FuncData
 Vt:Addr
 FC:FuncData
 Us:Addr
 FH:FuncData
 taken:Addr
 nk:FuncData
 Tg:Addr
 BA:FuncData
 Ti:Addr
 BK:FuncData
 To:Addr
 FP:FuncData
 Uh:Addr
 Cf:FuncData
 VB:Addr
 BY:FuncData
 VS:Addr
 DT:FuncData
 S9:Addr
 BX:FuncData
 V0:Addr
 FX:FuncData
 Ub:Addr
 BJ:FuncData
 Vv:Addr
 EN:FuncData
 Wa:Addr
 Dz:FuncData
 TF:Addr
 B4:FuncData
 Th:Addr
 A6:FuncData
 S8:Addr
 EE:FuncData
 TM:Addr
 Fj:FuncData
 U0:Addr
 A_:FuncData
 VF:Addr
 A8:FuncData
 Vx:Addr
 Cs:FuncData
 VP:Addr
 FE:FuncData
 U1:Addr
 Bv:FuncData
 UA:Addr
 Ec:FuncData
 UC:Addr
 BG:FuncData
 TX:Addr
 EG:FuncData
 Ur:Addr
 B3:FuncData
 T_:Addr
 C7:FuncData
 Up:Addr
 EI:FuncData
 Vg:Addr
 Es:FuncData
 UX:Addr
 DU:FuncData
 Vm:Addr
 Fe:FuncData
 Uc:Addr
 F6:FuncData
 VY:Addr
 B2:FuncData
 UD:Addr
 DM:FuncData
 VU:Addr
 Ds:FuncData
 Wj:Addr
 BN:FuncData
 Ul:Addr
 EY:FuncData
 VG:Addr
 Cr:FuncData
 bB:Addr
 aZ:Addr
 Df:Tok
 fJ:Addr
 eF:Addr
 kP:Addr
 j6:Addr
 cD:Addr
 qu:Addr
 pN:Addr
 oO:Addr
 qj:Addr
 oV:Addr
 bo:Addr
 aO:Addr
 qx:Addr
 aX:Addr
 a_:Addr
 jU:Addr
 gS:Addr
structure FB(K:Wf)(x q:Str)(st:Stmt)(f:Addr)(fd:FuncData)(ps:List Str):Prop extends Gw K x q st f fd where
 b:Binds K fd ps []
structure Txt(K:Wf)(mg:So)(A:Ad):Prop where
 HZ:mg "High" = some (.ref A.fJ)
 nM:mg "JoinError" = some (.ref A.eF)
 HB:mg "Lost" = some (.ref A.kP)
 Md:mg "Low" = some (.ref A.j6)
 N1:mg "Named" = some (.ref A.cD)
 Ou:mg "NoBase" = some (.ref A.qu)
 Mm:mg "NoPiece" = some (.ref A.pN)
 OG:mg "NoRule" = some (.ref A.oO)
 Oc:mg "NoSense" = some (.ref A.qj)
 NA:mg "NoWhole" = some (.ref A.oV)
 v_:mg "SameName" = some (.ref A.bo)
 LC:mg "Taking" = some (.ref A.aO)
 M_:mg "TooFar" = some (.ref A.qx)
 xB:mg "Twice" = some (.ref A.aX)
 wo:mg "Unmet" = some (.ref A.a_)
 N5:mg "Whole" = some (.ref A.jU)
 MI:mg "WithFill" = some (.ref A.gS)
 yN:mg "wrapped" = some (.ref A.Vc)
 KD:mg "with_field" = some (.ref A.Vr)
 EH:mg "ones" = some (.ref A.ones)
 yK:mg "moved" = some (.ref A.moved)
 Xk:findIn K (.ref A.aX) "__init__" = some (some (.ref A.Ia))
 Wv:findIn K (.ref A.bo) "__init__" = some (some (.ref A.Lr))
 W4:findIn K (.ref A.a_) "__init__" = some (some (.ref A.Kw))
 GK:mg "tells" = some (.ref A.tells)
 Ie:mg "wants" = some (.ref A.wants)
 Qg:mg "names_of" = some (.ref A.VD)
 Sy:mg "refuse_twice" = some (.ref A.Vw)
 LR:mg "aims" = some (.ref A.LF)
 Q4:mg "aim_by" = some (.ref A.TY)
 xH:mg "places_told" = some (.ref A.UJ)
 Bc:mg "rule_of" = some (.ref A.Vk)
 W7:findIn K (.ref A.fJ) "__init__" = some (some (.ref A.Pb))
 Xq:findIn K (.ref A.jU) "filled" = some (some (.ref A.Tx))
 Ww:findIn K (.ref A.fJ) "filled" = some (some (.ref A.Tb))
 WT:findIn K (.ref A.j6) "filled" = some (some (.ref A.SW))
 PH:mg "copied_piece" = some (.ref A.Vt)
 PZ:mg "copied_fills" = some (.ref A.Us)
 IT:mg "taken" = some (.ref A.taken)
 WC:findIn K (.ref A.aO) "__init__" = some (some (.ref A.Tg))
 Xf:findIn K (.ref A.aO) "take_for_pieces" = some (some (.ref A.Ti))
 WS:findIn K (.ref A.aO) "take_for" = some (some (.ref A.To))
 QK:mg "pieces_on" = some (.ref A.Uh)
 Sl:mg "refuse_same_name" = some (.ref A.VB)
 La:mg "first_tellers" = some (.ref A.VS)
 Xc:findIn K (.ref A.gS) "__init__" = some (some (.ref A.S9))
 Lk:mg "is_word" = some (.ref A.V0)
 B_:mg "at_value" = some (.ref A.Ub)
 Cb:mg "copied_value" = some (.ref A.Vv)
 SR:mg "at_first" = some (.ref A.Wa)
 WB:findIn K (.ref A.cD) "__init__" = some (some (.ref A.TF))
 Wt:findIn K (.ref A.cD) "take_in" = some (some (.ref A.Th))
 Xn:findIn K (.ref A.cD) "state" = some (some (.ref A.S8))
 yd:mg "_law_cell_at" = some (.ref A.TM)
 lJ:mg "_law_name_by" = some (.ref A.U0)
 PV:mg "_law_word_row" = some (.ref A.VF)
 QU:mg "_law_told_by" = some (.ref A.Vx)
 RO:mg "_law_drawn" = some (.ref A.VP)
 PQ:mg "_law_copy" = some (.ref A.U1)
 Pk:mg "_law_shelved" = some (.ref A.UA)
 SN:mg "_law_rest" = some (.ref A.UC)
 RX:mg "_law_told" = some (.ref A.TX)
 Jl:mg "_law_wanted" = some (.ref A.Ur)
 RV:mg "_law_first" = some (.ref A.T_)
 SQ:mg "_law_doubled" = some (.ref A.Up)
 K_:mg "_law_gone" = some (.ref A.Vg)
 Rl:mg "_law_twice" = some (.ref A.UX)
 Qw:mg "_law_due" = some (.ref A.Vm)
 QC:mg "_law_alone" = some (.ref A.Uc)
 Qq:mg "_law_fields" = some (.ref A.VY)
 RM:mg "_law_right" = some (.ref A.UD)
 PY:mg "_law_begun" = some (.ref A.VU)
 Jq:mg "_law_holds" = some (.ref A.Wj)
 Rf:mg "_law_spoiled" = some (.ref A.Ul)
 Qc:mg "law" = some (.ref A.VG)
 jT:FB K "wrapped" "wrapped" Js A.Vc A.CA ["number"]
 sP:FB K "with_field" "with_field" Kr A.Vr A.Bh ["word", "low", "many", "number"]
 mw:FB K "ones" "ones" F2 A.ones A.xW ["many"]
 jD:FB K "moved" "moved" yY A.moved A.uh ["number", "up"]
 Jn:FB K "__init__" "Twice.__init__" KN A.Ia A.EV ["self", "name", "one", "other"]
 J_:FB K "__init__" "SameName.__init__" Jm A.Lr A.Cm ["self", "name"]
 Jv:FB K "__init__" "Unmet.__init__" Kh A.Kw A.F3 ["self", "name", "piece"]
 rH:FB K "tells" "tells" xK A.tells A.uH ["piece"]
 sE:FB K "wants" "wants" x9 A.wants A.tq ["piece"]
 DX:FB K "names_of" "names_of" Ep A.VD A.xx ["pieces"]
 D4:FB K "refuse_twice" "refuse_twice" KO A.Vw A.C6 ["ordered"]
 vA:FB K "aims" "aims" Gd A.LF A.xO ["piece", "names", "fills"]
 C4:FB K "aim_by" "aim_by" Li A.TY A.Fg ["piece_name", "own", "names", "fill"]
 j9:FB K "places_told" "places_told" KA A.UJ A.DJ ["piece", "told_by"]
 mT:FB K "rule_of" "rule_of" KC A.Vk A.C9 ["title"]
 yq:FB K "__init__" "Rule.__init__" KL A.Pb A.Cp ["self", "title"]
 JM:FB K "filled" "Whole.filled" JV A.Tx A.Ck ["self", "word", "here", "there"]
 KQ:FB K "filled" "High.filled" K9 A.Tb A.Br ["self", "word", "here", "there"]
 JJ:FB K "filled" "Low.filled" Ke A.SW A.Fx ["self", "word", "here", "there"]
 Cn:FB K "copied_piece" "copied_piece" Jh A.Vt A.FC ["piece"]
 EM:FB K "copied_fills" "copied_fills" Lb A.Us A.FH ["fills"]
 sG:FB K "taken" "taken" qM A.taken A.nk ["given", "shelves", "entry"]
 Jx:FB K "__init__" "Taking.__init__" KW A.Tg A.BA ["self", "given", "shelves", "entry"]
 JK:FB K "take_for_pieces" "Taking.take_for_pieces" Kz A.Ti A.BK ["self"]
 Dv:FB K "take_for" "Taking.take_for" Ld A.To A.FP ["self", "name", "by"]
 BM:FB K "pieces_on" "pieces_on" J3 A.Uh A.Cf ["shelves"]
 Eh:FB K "refuse_same_name" "refuse_same_name" Kx A.VB A.BY ["pieces"]
 uY:FB K "first_tellers" "first_tellers" K4 A.VS A.DT ["pieces"]
 KG:FB K "__init__" "WithFill.__init__" Ju A.S9 A.BX ["self", "word", "title", "aimed"]
 t_:FB K "is_word" "is_word" J5 A.V0 A.FX ["value"]
 mD:FB K "at_value" "at_value" JT A.Ub A.BJ ["aimed"]
 mO:FB K "copied_value" "copied_value" K8 A.Vv A.EN ["value"]
 EL:FB K "at_first" "at_first" Lf A.Wa A.Dz ["word", "title", "aimed"]
 Ku:FB K "__init__" "Named.__init__" JP A.TF A.B4 ["self", "given", "shelves", "entry", "registers"]
 Kn:FB K "take_in" "Named.take_in" KP A.Th A.A6 ["self", "piece", "names"]
 Ka:FB K "state" "Named.state" Kt A.S8 A.EE ["self"]
 jH:FB K "_law_cell_at" "_law_cell_at" K5 A.TM A.Fj ["_law_script", "_law_k"]
 d0:FB K "_law_name_by" "_law_name_by" Lh A.U0 A.A_ ["_law_cell", "_law_k"]
 Dq:FB K "_law_word_row" "_law_word_row" Kg A.VF A.A8 ["_law_cell", "_law_names_by"]
 Be:FB K "_law_told_by" "_law_told_by" Kd A.Vx A.Cs ["_law_pieces", "_law_cell", "_law_names_by", "_law_strict"]
 BQ:FB K "_law_drawn" "_law_drawn" JB A.VP A.FE ["_law_cells", "_law_names_by", "_law_titles_by", "_law_strict"]
 CL:FB K "_law_copy" "_law_copy" Jr A.U1 A.Bv ["_law_piece"]
 BF:FB K "_law_shelved" "_law_shelved" Jo A.UA A.Ec ["_law_pieces", "_law_cell"]
 Bl:FB K "_law_rest" "_law_rest" Lc A.UC A.BG ["_law_names_by", "_law_titles_by", "_law_there"]
 Ea:FB K "_law_told" "_law_told" JD A.TX A.EG ["_law_piece"]
 uW:FB K "_law_wanted" "_law_wanted" Lj A.Ur A.B3 ["_law_piece"]
 Bm:FB K "_law_first" "_law_first" KY A.T_ A.C7 ["_law_some", "_law_name"]
 Er:FB K "_law_doubled" "_law_doubled" J8 A.Up A.EI ["_law_some"]
 tf:FB K "_law_gone" "_law_gone" JS A.Vg A.Es ["_law_some", "_law_entry"]
 CH:FB K "_law_twice" "_law_twice" JW A.UX A.DU ["_law_there"]
 Dg:FB K "_law_due" "_law_due" Jg A.Vm A.Fe ["_law_some", "_law_entry"]
 Dt:FB K "_law_alone" "_law_alone" Ki A.Uc A.F6 ["_law_kept"]
 Cj:FB K "_law_fields" "_law_fields" Jb A.VY A.B2 ["_law_kept"]
 CK:FB K "_law_right" "_law_right" JR A.UD A.DM ["_law_kept", "_law_due_here"]
 D1:FB K "_law_begun" "_law_begun" Jt A.VU A.Ds ["_law_some", "_law_entry"]
 uz:FB K "_law_holds" "_law_holds" Jp A.Wj A.BN ["_law_some", "_law_entry"]
 Fo:FB K "_law_spoiled" "_law_spoiled" JG A.Ul A.EY ["_law_some", "_law_by"]
 Q2:FB K "law" "law" Lg A.VG A.Cr ["_law_script"]
 SI:mg "WORD_COUNT" = some (.int 4294967296 A.Df)
 qZ:mg "ValueError" = none
 Qp:mg "abs" = none
 lC:mg "enumerate" = none
 Bq:mg "int" = none
 aN:mg "isinstance" = none
 f9:mg "len" = none
 gB:mg "list" = none
 Q1:mg "max" = none
 tE:mg "min" = none
 yX:mg "range" = none
 vk:mg "reversed" = none
 Pq:mg "set" = none
 d_:mg "sorted" = none
 Si:mg "str" = none
 Q7:mg "zip" = none
 bm:BMod K mg
 Og:UW K A.xx A.bB
 Bo:UW K A.nk A.aZ
 yJ:pY K A.fJ
 F1:pY K A.j6
 dz:pY K A.cD
 bH:pY K A.aO
 EZ:pY K A.jU
 wb:pY K A.gS
 kw:kitOne K (.type "int") (.ref A.gS)=some false
 OH:kitOne K (.ref A.bo) (.ref A.oO)=some false
 Ov:kitOne K (.ref A.bo) (.ref A.pN)=some false
 Nf:kitOne K (.ref A.bo) (.ref A.aX)=some false
 Bg:kitOne K (.ref A.bo) (.ref A.bo)=some true
 Nt:kitOne K (.ref A.bo) (.ref A.a_)=some false
 NT:kitOne K (.ref A.bo) (.ref A.qx)=some false
 MA:kitOne K (.ref A.bo) (.ref A.oV)=some false
 NN:kitOne K (.ref A.bo) (.ref A.qu)=some false
 IW:kitOne K (.ref A.bo) (.ref A.kP)=some false
 N9:kitOne K (.ref A.bo) (.ref A.qj)=some false
 LQ:kitOne K (.ref A.bo) (.ref A.eF)=some true
 We:kitOne K (.ref A.bo) (.type "ValueError")=some true
 Pu:mroIn K A.bo (.ref A.eF)=some true
 Qi:hasDictIn K A.bo=true
 NW:kitOne K (.ref A.a_) (.ref A.oO)=some false
 NC:kitOne K (.ref A.a_) (.ref A.pN)=some false
 Oz:kitOne K (.ref A.a_) (.ref A.aX)=some false
 BO:kitOne K (.ref A.a_) (.ref A.bo)=some false
 BE:kitOne K (.ref A.a_) (.ref A.a_)=some true
 Nr:kitOne K (.ref A.a_) (.ref A.qx)=some false
 Nj:kitOne K (.ref A.a_) (.ref A.oV)=some false
 M7:kitOne K (.ref A.a_) (.ref A.qu)=some false
 Ir:kitOne K (.ref A.a_) (.ref A.kP)=some false
 Nn:kitOne K (.ref A.a_) (.ref A.qj)=some false
 Mw:kitOne K (.ref A.a_) (.ref A.eF)=some true
 UR:kitOne K (.ref A.a_) (.type "ValueError")=some true
 Q_:mroIn K A.a_ (.ref A.eF)=some true
 J6:hasDictIn K A.a_=true
 OI:kitOne K (.ref A.aX) (.ref A.oO)=some false
 Ml:kitOne K (.ref A.aX) (.ref A.pN)=some false
 Cg:kitOne K (.ref A.aX) (.ref A.aX)=some true
 Dp:kitOne K (.ref A.aX) (.ref A.bo)=some false
 EB:kitOne K (.ref A.aX) (.ref A.a_)=some false
 N6:kitOne K (.ref A.aX) (.ref A.qx)=some false
 NX:kitOne K (.ref A.aX) (.ref A.oV)=some false
 Mc:kitOne K (.ref A.aX) (.ref A.qu)=some false
 HK:kitOne K (.ref A.aX) (.ref A.kP)=some false
 LJ:kitOne K (.ref A.aX) (.ref A.qj)=some false
 LL:kitOne K (.ref A.aX) (.ref A.eF)=some true
 UN:kitOne K (.ref A.aX) (.type "ValueError")=some true
 SD:mroIn K A.aX (.ref A.eF)=some true
 FF:hasDictIn K A.aX=true
 Fi:findIn K (.ref A.a_) "__getattribute__" = some (some 'x')
 Bf:findIn K (.ref A.a_) "__getattr__" = some none
 Cw:findIn K (.ref A.a_) "__class__" = some (some 'o')
 BL:mroIn K A.a_ 'D'=some true
 B6:mroIn K A.a_ (.type "BaseException")=some true
 F9:findIn K (.ref A.bo) "__getattribute__" = some (some 'x')
 B5:findIn K (.ref A.bo) "__getattr__" = some none
 Bu:findIn K (.ref A.bo) "__class__" = some (some 'o')
 Fv:mroIn K A.bo 'D'=some true
 ER:mroIn K A.bo (.type "BaseException")=some true
 CT:findIn K (.ref A.aX) "__getattribute__" = some (some 'x')
 Ca:findIn K (.ref A.aX) "__getattr__" = some none
 EU:findIn K (.ref A.aX) "__class__" = some (some 'o')
 FU:mroIn K A.aX 'D'=some true
 FI:mroIn K A.aX (.type "BaseException")=some true
 pD:specialIn K 'o' "__get__" = some (some (.builtin "getset_descriptor.__get__"))
 oU:takesIn K 'o'=some true
 Vq:ownInit K A.bo A.Lr=true
 Ug:nF K A.bo=true
 Vo:findIn K (.ref A.bo) "__setattr__" = some (some (.builtin "object.__setattr__"))
 VA:ownInit K A.aX A.Ia=true
 VH:nF K A.aX=true
 Vl:findIn K (.ref A.aX) "__setattr__" = some (some (.builtin "object.__setattr__"))
 Vh:ownInit K A.a_ A.Kw=true
 Vu:nF K A.a_=true
 U5:findIn K (.ref A.a_) "__setattr__" = some (some (.builtin "object.__setattr__"))
 TQ:PySem.W.readsIn K A.eF (.type "type")=true
 VW:PySem.W.findCls K (.ref A.eF) (.type "type") "__init__" = some (.val (.builtin "ValueError.__init__"))
 Ut:specialIn K (.ref A.eF) "__getattribute__" = some (some (.builtin "type.__getattribute__"))
 vG:instIn K (.ref A.eF) (.type "tuple")=some false
 wz:mroIn K A.eF (.type "BaseException")=some true
 wq:y8 K A.bo A.Lr
 m9:y8 K A.aX A.Ia
 rJ:y8 K A.a_ A.Kw
 wA:JY K A.eF
 HU:Mk K A.fJ A.Pb
 Lw:Mk K A.j6 A.Pb
 LV:Mk K A.cD A.TF
 MW:Mk K A.aO A.Tg
 MR:Mk K A.jU A.Pb
 MO:Mk K A.gS A.S9
 Np:Meth K A.fJ "filled" A.Tb
 LM:Meth K A.j6 "filled" A.SW
 Lv:Meth K A.cD "state" A.S8
 OD:Meth K A.cD "take_in" A.Th
 C_:Meth K A.aO "take_for" A.To
 LN:Meth K A.aO "take_for_pieces" A.Ti
 Ox:Meth K A.jU "filled" A.Tx
 cW:aW K A.aO "pieces"
 ip:aW K A.aO "reasons"
 d3:aW K A.aO "told_by_given"
 cC:aW K A.aO "on_shelves"
 cR:aW K A.aO "from_shelves"
 ck:aW K A.aO "unmet"
 fM:aW K A.cD "memory"
 gq:aW K A.cD "stretches"
 ki:aW K A.cD "place"
 gj:aW K A.cD "registers"
 iu:aW K A.cD "numbers"
 j5:aW K A.cD "ended"
 si:aW K A.jU "title"
 oG:aW K A.fJ "title"
 sI:aW K A.j6 "title"
 tF:aW K A.gS "word"
 sr:aW K A.gS "title"
 ri:aW K A.gS "aimed"
 lB:aW K A.a_ "name"
 j_:aW K A.a_ "piece"
 ly:aW K A.bo "name"
 k_:aW K A.aX "name"
 mQ:aW K A.aX "one"
 kr:aW K A.aX "other"
def MY:ar ["number"] ["number"] (ah Js):=by walk_at "F"
def Dw:ar ["word", "low", "many", "number", "others"] ["word", "low", "many", "number"] (ah Kr):=by walk_at "F"
def I0:ar ["many"] ["many"] (ah F2):=by walk_at "F"
def B7:ar ["number", "up"] ["number", "up"] (ah yY):=by walk_at "F"
def NS:ar ["self", "name", "one", "other"] ["self", "name", "one", "other"] (ah KN):=by walk_at "F"
def MN:ar ["self", "name"] ["self", "name"] (ah Jm):=by walk_at "F"
def Mv:ar ["self", "name", "piece"] ["self", "name", "piece"] (ah Kh):=by walk_at "F"
def Cv:ar ["piece"] ["piece"] (ah xK):=by walk_at "F"
def cA:ar ["piece", "own", "wanted", "kind", "step", "words", "fills", "at", "rule", "name", "add", "soft"] ["piece"] (ah x9):=by walk_at "F"
def my:ar ["pieces", "ordered", "names", "sort", "piece"] ["pieces"] (ah Ep):=by walk_at "F"
def kZ:ar ["ordered", "tellers", "piece", "name", "twice", "least"] ["ordered"] (ah KO):=by walk_at "F"
def yx:ar ["piece", "names", "fills", "own"] ["piece", "names", "fills"] (ah Gd):=by walk_at "F"
def nA:ar ["piece_name", "own", "names", "fill", "name", "add", "soft", "place"] ["piece_name", "own", "names", "fill"] (ah Li):=by walk_at "F"
def kU:ar ["piece", "told_by", "places", "name", "sort", "stretch", "offset"] ["piece", "told_by"] (ah KA):=by walk_at "F"
def Nq:ar ["title"] ["title"] (ah KC):=by walk_at "F"
def Ni:ar ["self", "title"] ["self", "title"] (ah KL):=by walk_at "F"
def Ol:ar ["self", "word", "here", "there"] ["self", "word", "here", "there"] (ah JV):=by walk_at "F"
def Lz:ar ["self", "word", "here", "there"] ["self", "word", "here", "there"] (ah K9):=by walk_at "F"
def Ob:ar ["self", "word", "here", "there"] ["self", "word", "here", "there"] (ah Ke):=by walk_at "F"
def wN:ar ["piece", "stretches", "names"] ["piece"] (ah Jh):=by walk_at "F"
def Na:ar ["fills"] ["fills"] (ah Lb):=by walk_at "F"
def mR:ar ["given", "shelves", "entry", "taking", "ordered"] ["given", "shelves", "entry"] (ah qM):=by walk_at "F"
def vq:ar ["self", "given", "shelves", "entry", "on_shelves", "least"] ["self", "given", "shelves", "entry"] (ah KW):=by walk_at "F"
def mM:ar ["self", "done", "piece", "name"] ["self"] (ah Kz):=by walk_at "F"
def FA:ar ["self", "name", "by", "piece"] ["self", "name", "by"] (ah Ld):=by walk_at "F"
def wD:ar ["shelves", "pieces", "shelf"] ["shelves"] (ah J3):=by walk_at "F"
def rD:ar ["pieces", "seen", "again", "piece"] ["pieces"] (ah Kx):=by walk_at "F"
def rX:ar ["pieces", "first", "piece", "name"] ["pieces"] (ah K4):=by walk_at "F"
def LW:ar ["self", "word", "title", "aimed"] ["self", "word", "title", "aimed"] (ah Ju):=by walk_at "F"
def OC:ar ["value"] ["value"] (ah J5):=by walk_at "F"
def MQ:ar ["aimed"] ["aimed"] (ah JT):=by walk_at "F"
def Lu:ar ["value"] ["value"] (ah K8):=by walk_at "F"
def M9:ar ["word", "title", "aimed"] ["word", "title", "aimed"] (ah Lf):=by walk_at "F"
def rh:ar ["self", "given", "shelves", "entry", "registers", "pieces", "names", "piece"] ["self", "given", "shelves", "entry", "registers"] (ah JP):=by walk_at "F"
def fL:ar ["self", "piece", "names", "number", "stretch", "words", "fills", "at", "word", "fill", "aimed"] ["self", "piece", "names"] (ah KP):=by walk_at "F"
def FZ:ar ["self", "registers"] ["self"] (ah Kt):=by walk_at "F"
def Nl:ar ["_law_script", "_law_k"] ["_law_script", "_law_k"] (ah K5):=by walk_at "F"
def eU:ar ["_law_cell", "_law_k", "_law_signs", "_law_size", "_law_at", "_law_name", "_law_j", "_law_many", "_law_place"] ["_law_cell", "_law_k"] (ah Lh):=by walk_at "F"
def kW:ar ["_law_cell", "_law_names_by", "_law_what", "_law_rest_here", "_law_soft", "_law_add", "_law_rule"] ["_law_cell", "_law_names_by"] (ah Kg):=by walk_at "F"
def kK:ar ["_law_pieces", "_law_cell", "_law_names_by", "_law_strict", "_law_piece", "_law_name", "_law_sort", "_law_other"] ["_law_pieces", "_law_cell", "_law_names_by", "_law_strict"] (ah Kd):=by walk_at "F"
def jq:ar ["_law_cells", "_law_names_by", "_law_titles_by", "_law_strict", "_law_pieces", "_law_cell", "_law_what", "_law_step", "_law_stretch", "_law_more"] ["_law_cells", "_law_names_by", "_law_titles_by", "_law_strict"] (ah JB):=by walk_at "F"
def CO:ar ["_law_piece", "_law_stretches"] ["_law_piece"] (ah Jr):=by walk_at "F"
def nC:ar ["_law_pieces", "_law_cell", "_law_some", "_law_mix", "_law_piece"] ["_law_pieces", "_law_cell"] (ah Jo):=by walk_at "F"
def qL:ar ["_law_names_by", "_law_titles_by", "_law_there", "_law_told_here", "_law_k", "_law_name"] ["_law_names_by", "_law_titles_by", "_law_there"] (ah Lc):=by walk_at "F"
def NU:ar ["_law_piece"] ["_law_piece"] (ah JD):=by walk_at "F"
def e8:ar ["_law_piece", "_law_some", "_law_kind", "_law_step", "_law_words", "_law_fills", "_law_at", "_law_rule", "_law_name", "_law_add", "_law_soft"] ["_law_piece"] (ah Lj):=by walk_at "F"
def w_:ar ["_law_some", "_law_name", "_law_shelf", "_law_piece"] ["_law_some", "_law_name"] (ah KY):=by walk_at "F"
def mU:ar ["_law_some", "_law_titles", "_law_shelf", "_law_title"] ["_law_some"] (ah J8):=by walk_at "F"
def fO:ar ["_law_some", "_law_entry", "_law_there", "_law_unmet", "_law_left", "_law_piece", "_law_name", "_law_by"] ["_law_some", "_law_entry"] (ah JS):=by walk_at "F"
def nV:ar ["_law_there", "_law_strong", "_law_title", "_law_row", "_law_name"] ["_law_there"] (ah JW):=by walk_at "F"
def nY:ar ["_law_some", "_law_entry", "_law_title", "_law_there", "_law_unmet", "_law_twice_here"] ["_law_some", "_law_entry"] (ah Jg):=by walk_at "F"
def r6:ar ["_law_kept", "_law_some"] ["_law_kept"] (ah Ki):=by walk_at "F"
def ND:ar ["_law_kept"] ["_law_kept"] (ah Jb):=by walk_at "F"
def vx:ar ["_law_kept", "_law_due_here", "_law_found", "_law_part"] ["_law_kept", "_law_due_here"] (ah JR):=by walk_at "F"
def gQ:ar ["_law_some", "_law_entry", "_law_there", "_law_weak", "_law_title", "_law_name", "_law_sort", "_law_stretch", "_law_offset"] ["_law_some", "_law_entry"] (ah Jt):=by walk_at "F"
def g8:ar ["_law_some", "_law_entry", "_law_handed", "_law_due_here", "_law_kept", "_law_machine", "refusal"] ["_law_some", "_law_entry"] (ah Jp):=by walk_at "F"
def kE:ar ["_law_some", "_law_by", "_law_more", "_law_full", "_law_shelf", "_law_title", "_law_at"] ["_law_some", "_law_by"] (ah JG):=by walk_at "F"
def fR:ar ["_law_script", "_law_names_by", "_law_titles_by", "_law_by", "_law_some", "_law_entry", "_law_good", "_law_strong", "_law_bad"] ["_law_script"] (ah Lg):=by walk_at "F"
theorem cK{CX P w K mg base N qual scope f cd Ar outer s H E}:(k8 CX P w K mg base N qual scope f cd Ar outer s H E).K=K:=rfl
theorem bK{scope:Scope}:(Al X N' scope fp s H).K=X.K:=rfl
theorem cM(a b:Str):(a++b).length=a.length+b.length:=Array.size_append
def vD{α:Type}{xs:List α}{i:Int}(h1 : -(xs.length:Int)<=i)(h2:i<xs.length):∃v,gz xs i=some v/\v∈xs:=by
 unfold gz A1;by_cases h0:0<=i
 ·have hl:i.toNat<xs.length:=by lia
  refine(xs[i.toNat],?_,Aw hl);rw[if_pos h0,if_pos h2];show xs[i.toNat]?=_;rw[jw hl]
 ·have hl:(i+xs.length).toNat<xs.length:=by lia
  refine(xs[(i+xs.length).toNat],?_,Aw hl);rw[if_neg h0,if_pos h1];show xs[(i+xs.length).toNat]?=_;rw[jw hl]
namespace M50
end M50
namespace K3
open PySem PySem.W PySem.Calls PyProof.Rows
def rest(W l m:Nat):Nat:=2 ^ l*(2 ^ m*(W/2 ^ l/2 ^ m))+W%2 ^ l
def put(W l m y:Nat):Nat:=rest W l m+2 ^ l*y
def pw(m:Int):Int:=2 ^ m.toNat
theorem pow_pos(k:Nat):(0:Int)<2 ^ k:=Int.pow_pos (by decide)
theorem NY(m:Int):0<pw m:=pow_pos _
def tP(k:Nat):((2 ^ k:Nat):Int)=(2:Int) ^ k:=by
 induction k with
 |zero=>rfl
 |succ k ih=>rw[Nat.pow_succ,Int.pow_succ,Int.natCast_mul,ih];rfl
def putF(w l m n:Int):Int:=(put w.toNat l.toNat m.toNat (n.fmod (pw m)).toNat:Nat)
def sW(m:Int):Int:=pw m - 1
def GW(h:a<=b):(2:Int) ^ a<=2 ^ b:=by
 have:=Nat.pow_le_pow_right (show 0<2 by decide) h;rw[<-tP,<-tP];lia
def vE(m:Int)(h:m<=32):0<=sW m/\sW m<=4294967295:=by
 have a:=NY m;have b:pw m<=4294967296:=by
  have:=GW (a:=m.toNat) (b:=32) (by lia);unfold pw;have e:(2:Int) ^ 32=4294967296:=by decide
  lia
 unfold sW;lia
def kI(n up:Int):Int:=if up<0 then n.fdiv (pw (-up)) else n*pw up
def wR(h:up<0):n.fdiv (2 ^ (-up).toNat)=kI n up:=by
 unfold kI;rw[if_pos h];rfl
def CN(h:¬up<0):n*2 ^ up.toNat=kI n up:=by
 unfold kI;rw[if_neg h];rfl
def GA(h:k=m\/(m<=0/\k=0)):(1:Int)*2 ^ k.toNat - 1=sW m:=by
 have e:k.toNat=m.toNat:=by lia
 rw[e,Int.one_mul];rfl
def sg(n m:Int):Int:=(n+pw (m - 1)).fmod (pw m) - pw (m - 1)
end K3
def ON:Sp:=λvs H Q _=>∃n:Int,vs=[.int n]/\Q (.int (n%4294967296)) H
def DQ:Sp:=λvs H Q _=>∃n u:Int,vs=[.int n,.int u]/\0<=n/\n<=4294967296/\u<=100/\Q (.int (K3.kI n u)) H
def IV:Sp:=λvs H Q _=>∃m:Int,vs=[.int m]/\0<=m/\m<=32/\Q (.int (K3.sW m)) H
def HF:Sp:=λvs H Q _=>∃a l m n:Int,vs=[.int a,.int l,.int m,.int n]/\0<=a/\a<=4294967295/\0<=l/\l<=31/\1<=m/\l+m<=32/\∀x:Int,Q (.int x) H
def OB(C:Addr)(z:Str)(H:Hp)(p:Addr):Prop:=∃dx,H p=some (.ins C dx [⟨"title", .str z⟩])
def RC(A:Ad)(C:Addr):Prop:=C=A.jU\/C=A.fJ\/C=A.j6
def Xr(A:Ad)(z:Str)(C:Addr):Prop:=(z=s!"whole" /\ C=A.jU)\/(z=s!"high" /\ C=A.fJ)\/(z=s!"low" /\ C=A.j6)
def S4(z:Str):Prop:=z=s!"whole" \/ z=s!"high" \/ z=s!"low"
def Fh(A:Ad):Sp:=λvs H Q _=>∃(p dx C:Addr) (x:V),vs=[.ref p,x]/\H p=some (.ins C dx [])/\RC A C/\Q .bw (upd H p (.ins C dx [⟨"title", x⟩]))
def I_(A:Ad):Sp:=λvs H Q _=>∃z:Str,vs=[.str z]/\S4 z/\∀C,Xr A z C->∀p H',au H H'->OB C z H' p->Q (.ref p) H'
def GN:Sp:=λvs H Q _=>∃(v:V) (a h t:Int),vs=[v,.int a,.int h,.int t]/\Q (.int (t%4294967296)) H
def HM:Sp:=λvs H Q _=>∃(v:V) (a h t:Int),vs=[v,.int a,.int h,.int t]/\0<=a/\a<=4294967295/\∀x:Int,Q (.int x) H
def Hq:Sp:=λvs H Q _=>∃(v:V) (a h t:Int),vs=[v,.int a,.int h,.int t]/\0<=a/\a<=4294967295/\∀x:Int,Q (.int x) H
def Xp(z:Str):Prop:=z=s!"whole" \/ z=s!"high" \/ z=s!"low" \/ z=s!"near" \/ z=s!"split"
def isSort(z:Str):Prop:=z=s!"tell" \/ z=s!"weak" \/ z=s!"own"
def DZ(z:Str):Prop:=z=s!"code" \/ z=s!"data"
def signs:Str:=s!"abcdefghijklmnopqrstuvwxyz0123456789_"
def sgn(i:Int):Nat:=(gz signs.cps.toList i).getD 0
def ia(c k:Int):Int:=if c/256%3=0 then 1+k%16 else 1+c%16
def rL(c:Int):Int:=if c/256%3=0 then 16 else c/16%(1+c%16)
def kY(c k:Int)(j:Int):Int:=(c/(j+3)+j*j+k*(if decide (j=rL c)=true then 1 else 0))%(37 - 11*(if decide (j=0)=true then 1 else 0))
def lQ(c k:Int)(n:Nat):Str:=⟨((List.range n).map λj:Nat=>sgn (kY c k j)).toArray⟩
def nameOf(c k:Int):Str:=lQ c k (ia c k).toNat
def LO(c:Int)(z:Str):Prop:=∃k:Int,0<=k/\k<12/\z=nameOf c k
structure vO(c:Int)(n:Nat)(f:ay):Prop where
 rule:Xp f.rule
 name:LO c f.name
 lo:0<=f.at_
 hi:f.at_<n
 FW : -2147483648<=f.add
 Ci:f.add<2147483648
 soft:f.soft=true->f.rule=s!"whole" \/ f.rule=s!"high" \/ f.rule=s!"low"
structure oK(c:Int)(s:br):Prop where
 kind:DZ s.kind
 step:s.step=1\/s.step=2\/s.step=4\/s.step=16\/s.step=65536
 words:∀i∈s.words,0<=i/\i<4294967296
 fills:∀f∈s.fills,vO c s.words.length f
 asc:s.fills.Pairwise λf g=>f.at_<g.at_
 cY:s.fills.length<=s.words.length
structure BV(c:Int)(ss:List br)(n:aq):Prop where
 name:LO c n.name
 sort:isSort n.sort
 at_:∃(k:Nat) (s:br),ss[k]?=some s/\n.st=k/\0<=n.off/\n.off<=s.words.length
structure iY(c:Int)(p:aj):Prop where
 ba:∀s∈p.ba,oK c s
 aM:∀n∈p.aM,BV c p.ba n
 nd:(p.aM.map aq.name).Nodup
def _root_.L2.aj.size(p:aj):Nat:=1+p.ba.length+(p.ba.map λs=>s.words.length).sum+p.aM.length
structure Drawn(c t:Int)(n:Nat)(ps:List aj):Prop where
 ok:∀p∈ps,iY c p
 cY:ps.length<=12
 names:ps.map aj.name=(List.range ps.length).map λi:Nat=>nameOf t i
 size:(ps.map aj.size).sum<=n
structure DC(H0:Hp)(a L:Addr)(c t v:Int)(i:Nat)(ps:List aj)(Z:L2.St)(H:Hp):Prop where
 st:∃(sb:Bool) (b7 b8 b9:Option V),Z=[some (V.ref a),some (V.int c),some (V.int t),some (V.bl sb),some (V.ref L),some (V.int v),some (V.int (v%9)),b7,b8,b9]
 same:au H0 H
 Ym:fK H L ps
 new:∀b∈L::bh ps,H0 b=none
 dr:Drawn c t i ps
 lt:i<61
theorem DC.mono{H0:Hp}{a L:Addr}{c t v:Int}{i:Nat}{ps:List aj}{Z:L2.St}{H H':Hp}(d:DC H0 a L c t v i ps Z H)(e:au H H'):DC H0 a L c t v i ps Z H':=(d.st,d.same.trans e,d.Ym.mono e,d.new,d.dr,d.lt)
def DN(H0:Hp)(a L:Addr)(c t:Int)(i:Nat)(D:Ends):Prop:=∀ps Z H,(∃(sb:Bool) (b5 b6 b7 b8 b9:Option V),Z=[some (V.ref a),some (V.int c),some (V.int t),some (V.bl sb),some (V.ref L),b5,b6,b7,b8,b9])->au H0 H->fK H L ps->(∀b∈L::bh ps,H0 b=none)->Drawn c t (i+1) ps->D.nx Z H
def XA:TS:=λD Z H=>∃H0 a L c t v i ps,DC H0 a L c t v i ps Z H/\ps.length<12/\DN H0 a L c t i D
def X_:TS:=λD Z H=>∃H0 a L c t v i ps p,DC H0 a L c t v i (ps++[p]) Z H/\DN H0 a L c t i D
def XG:TS:=λD Z H=>∃H0 a L c t v i ps p ss s,DC H0 a L c t v i (ps++[p]) Z H/\p.ba=ss++[s]/\DN H0 a L c t i D
def YB:TS:=λD Z H=>∃H0 a L c t v i ps p ss s,DC H0 a L c t v i (ps++[p]) Z H/\p.ba=ss++[s]/\DN H0 a L c t i D
def XM:TT:=λZ H R=>∃H0 a L c t v i ps,DC H0 a L c t v i ps Z H/\∀(b:Bool) H',au H H'->(b=true->ps.length<12)->(b=false->ps≠[])->R b H'
def X2:TT:=λZ H R=>∃H0 a L c t v i ps p,DC H0 a L c t v i (ps++[p]) Z H/\∀(b:Bool) H',au H H'->(b=false->p.ba≠[])->R b H'
def zi(K:Wf):Sp:=λvs H Q _=>∃(a:Addr) (ns:List Int) (k:Int),vs=[.ref a,.int k]/\az K H a (ns.map V.int)/\ns.length<=63/\0<=k/\∀i:Int,Q (.int i) H
def zh:Sp:=λvs H Q _=>∃c k:Int,vs=[.int c,.int k]/\Q (.str (nameOf c k)) H
def vf:Sp:=λvs H Q _=>∃c n:Int,vs=[.int c,.int n]/\∀H',au H H'->Q .bw H'/\∀f:ay,vO n 1 { f with at_:=0 }->H' f.a=some (.tup [.str f.rule,.str f.name,.int f.add,.bl f.soft])->H f.a=none->Q (.ref f.a) H'
def Av(K:Wf):Sp:=λvs H Q _=>∃(L:Addr) (c n:Int) (ps:List aj) (p:aj) (ss:List br) (s:br) (sb:Bool),vs=[.ref L,.int c,.int n,.bl sb]/\fK H L (ps++[p])/\p.ba=ss++[s]/\ps.length<=12/\p.aM.length<=61/\p.ba.length<=61/\s.words.length<=61/\(∀q∈ps,q.aM.length<=61)/\
 (∀H',au H H'->Q .bw H')/\∀(m:aq) (H':Hp),au H H'->m.At H'->LO n m.name->m.name∉p.aM.map aq.name->isSort m.sort->m.st=ss.length->m.off=s.words.length->Q .bw (upd H' p.ln (.lst (p.aM.map aq.v++[m.v])))
def Dh(K:Wf):Sp:=λvs H Q _=>∃(a:Addr) (ns:List Int) (c t:Int) (sb:Bool),vs=[.ref a,.int c,.int t,.bl sb]/\az K H a (ns.map V.int)/\ns.length<=61/\∀(L:Addr) (ps:List aj) (H':Hp),au H H'->fK H' L ps->(∀b∈L::bh ps,H b=none)->Drawn c t ns.length ps->Q (.ref L) H'
def xP(K:Wf):Sp:=λvs H Q _=>∃p:aj,vs=[p.v]/\p.At H/\p.ba.length<=61/\p.aM.length<=62/\(∀s∈p.ba,s.words.length<=61/\s.fills.length<=61)/\∀(q:aj) (H':Hp),au H H'->q.At H'->p.Ii q->(∀b∈q.lists,H b=none)->q.lists.Nodup->Q q.v H'
structure aI where
 name:Str
 t:Addr
 a:Str
 b:Int
 c:Int
def aI.kv(m:aI):Key×V:=⟨.inr m.name,.ref m.t⟩
def aI.At(H:Hp)(m:aI):Prop:=H m.t=some (.tup [.str m.a,.int m.b,.int m.c])
structure Tab(H:Hp)(d:Addr)(ms:List aI):Prop where
 top:H d=some (.dK (ms.map aI.kv))
 at_:∀m∈ms,aI.At H m
def aY(ms:List aI)(z:Str):Option aI:=ms.find? λm=>decide (m.name=z)
def gi(ms:List aI)(m:aI):List aI:=if (ms.any λn=>decide (n.name=m.name))=true then ms.map (λn=>if n.name=m.name then m else n) else ms++[m]
def IP(ms:List aI)(z:Str):bE (ms.map aI.kv) (.inr z)=(aY ms z).map λm=>V.ref m.t:=by
 unfold bE aY;rw[OQ,Option.map_map];congr 1;congr 1;funext m;simp[aI.kv]
def LI(ms:List aI)(z:Str):((ms.map aI.kv).any λkv=>decide (kv.1=(.inr z:Key)))=ms.any λn=>decide (n.name=z):=by
 rw[Le];congr 1;funext m;simp[aI.kv]
def C8(ms:List aI)(m:aI):putK (ms.map aI.kv) (.inr m.name) (.ref m.t)=(gi ms m).map aI.kv:=by
 unfold putK gi;rw[LI];by_cases h:(ms.any λn=>decide (n.name=m.name))=true
 ·rw[if_pos h,if_pos h,d9,d9];congr 1;funext n;by_cases e:n.name=m.name
  ·simp[aI.kv,e]
  ·simp[aI.kv,e]
 ·rw[if_neg h,if_neg h,aV];rfl
def uD(h:n∈gi ms m):n∈ms\/n=m:=by
 unfold gi at h;split at h
 ·let(x,hx,e):=aK.mp h;split at e
  ·exact .inr e.symm
  ·exact .inl (e▸hx)
 ·rcases bT.mp h with z|z
  ·exact .inl z
  ·exact .inr (bU.mp z)
def Fl:(gi ms m).length<=ms.length+1:=by
 unfold gi;split
 ·rw[aD];lia
 ·rw[cw];simp
def Dy(h:m.name∉ms.map aI.name):gi ms m=ms++[m]:=by
 unfold gi;rw[if_neg];intro z;let(n,hn,e):=nZ.mp z;exact h (aK.mpr (n,hn,of_decide_eq_true e))
theorem Tab.mono{H H':Hp}{d:Addr}{ms:List aI}(h:Tab H d ms)(e:au H H'):Tab H' d ms:=(e _ _ h.top,λm hm=>e _ _ (h.at_ m hm))
def Tab.put{H:Hp}{d:Addr}{ms:List aI}{m:aI}(h:Tab H d ms)(hm:aI.At H m):Tab (upd H d (.dK (putK (ms.map aI.kv) (.inr m.name) (.ref m.t)))) d (gi ms m):=by
 refine(by rw[ax,C8],λn hn=>?_);have tup:∀n:aI,aI.At H n->aI.At (upd H d (.dK (putK (ms.map aI.kv) (.inr m.name) (.ref m.t)))) n:=λn hn=>by
  unfold aI.At;rw[ae (bA hn h.top 'j')];exact hn
 rcases uD hn with z|z
 ·exact tup n (h.at_ n z)
 ·rw[z];exact tup m hm
def f_:Str:=s!"own"
def i9(p:aj)(ms:List aI)(f:ay):Option (Str×Int×Int):=
 match p.aM.find? λn=>decide (n.name=f.name)&&decide (n.sort=f_) with
 |some n=>some ⟨p.name,n.st,n.off⟩
 |none=>(aY ms f.name).map λm=>⟨m.a,m.b,m.c⟩
def Rr(a:Str)(b c:Int):HO:=.tup [.str a,.int b,.int c]
def Ae:Sp:=λvs H Q _=>∃(p:aj) (z:Str),vs=[p.v,.str z]/\p.At H/\p.aM.length<=61/\(p.aM.map aq.name).Nodup/\
 ∀d ms H',au H H'->Tab H' d ms->ms.map (λm=>⟨m.name,m.a,m.b,m.c⟩)=(p.aM.filter λn=>decide (n.sort=z)).map (λn=>⟨n.name,p.name,n.st,n.off⟩)->H d=none->Q (.ref d) H'
structure PL(H:Hp)(L:Addr)(ps:List aj):Prop where
 top:H L=some (.lst (ps.map aj.v))
 at_:∀p∈ps,p.At H
def bx:Str:=s!"tell"
def cQ:Str:=s!"weak"
def dD(ps:List aj):List (Str×aq):=ps.flatMap λp=>p.aM.map λn=>⟨p.name,n⟩
def Jz(r:Str×aq):Str×Int×Int:=⟨r.1,r.2.st,r.2.off⟩
def aI.vl(m:aI):Str×Int×Int:=⟨m.a,m.b,m.c⟩
def Xs(a b:Str):Prop:=¬b.cps.toList<a.cps.toList
structure Ei(R:List (Str×aq))(ms:List aI):Prop where
 nd:(ms.map aI.name).Nodup
 WA:∀z m,aY ms z=some m->(∃r∈R,r.2.name=z/\r.2.sort=bx/\aI.vl m=Jz r)\/((∀r∈R,r.2.name=z->r.2.sort≠bx)/\∃r∈R,r.2.name=z/\r.2.sort=cQ/\aI.vl m=Jz r/\∀r'∈R,r'.2.name=z->r'.2.sort=cQ->Xs r.1 r'.1)
 bw:∀z,aY ms z=none->∀r∈R,r.2.name=z->r.2.sort≠bx/\r.2.sort≠cQ
def tK:Pos:=(82,33,82,55)
def uN:Str:=(s!"names_of" ++ s!".<locals>.")++s!"<lambda>"
def bC(ps:List aj):List (Str×Str):=ps.flatMap λp=>(p.aM.filter λn=>decide (n.sort=bx)).map λn=>⟨n.name,p.name⟩
def ik(R:List (Str×Str))(z:Str):List Str:=(R.filter λr=>decide (r.1=z)).map (·.2)
structure qO(ps:List aj):Prop where
 cY:ps.length<=14
 nd:(ps.map aj.name).Nodup
 aM:∀p∈ps,p.aM.length<=61/\(p.aM.map aq.name).Nodup
 sg:∀p∈ps,(p.name.length<=16/\Sg p.name)/\∀n∈p.aM,(n.name.length<=16/\Sg n.name)/\isSort n.sort
 rl:(bC ps).length<=63
def qW(R:List (Str×Str))(z:Str):Prop:=2<=(ik R z).length/\∀z',2<=(ik R z').length->h9 z z'
def Qr(ps:List aj):Prop:=∀z,(ik (bC ps) z).length<=1
def VO(z a b:Str):HO:=.xd [⟨"name", .str z⟩,⟨"one", .str a⟩,⟨"other", .str b⟩]
def Cu(A:Ad):Sp:=λvs H Q _=>∃(a:Addr) (n p q:Str),vs=[.ref a,.str n,.str p,.str q]/\H a=some (XN a A.aX none)/\(n.length<=16/\Sg n)/\(p.length<=16/\Sg p)/\(q.length<=16/\Sg q)/\
 ∀d H',H d=none->d≠a->(∀b o,b≠a->H b=some o->H' b=some o)->H' a=some (XN a A.aX (some d))->H' d=some (XD d [⟨"name", .str n⟩,⟨"one", .str p⟩,⟨"other", .str q⟩])->Q .bw H'
def y9(A:Ad):Sp:=λvs H Q E=>∃(L:Addr) (ps:List aj),vs=[.ref L]/\PL H L ps/\qO ps/\(Qr ps->∀H',au H H'->Q .bw H')/\
 ∀(z a b:Str) (r:List Str) (d:Addr) (H':Hp),au H H'->qW (bC ps) z->ik (bC ps) z=a::b::r->H' d=some (VO z a b)->E (.ref A.aX) (some d) H'
def Ab(A:Ad):Sp:=λvs H Q E=>∃(L:Addr) (ps:List aj),vs=[.ref L]/\PL H L ps/\qO ps/\eE A.bB tK uN H/\
 (∀(d:Addr) (ms:List aI) (H':Hp),Qr ps->gT A.bB H H'->eE A.bB tK uN H'->Tab H' d ms->Ei (dD ps) ms->H d=none->Q (.ref d) H')/\
 ∀(so:List aj) (z a b:Str) (r:List Str) (d:Addr) (H':Hp),so.Perm ps->(so.map aj.name).Pairwise h9->qW (bC so) z->ik (bC so) z=a::b::r->gT A.bB H H'->eE A.bB tK uN H'->H' d=some (VO z a b)->E (.ref A.aX) (some d) H'
def hV(p:aj):List Str:=(p.aM.filter λn=>decide (n.sort≠f_)).map aq.name
def dw(p:aj)(z:Str):Bool:=p.aM.any λn=>decide (n.name=z)&&decide (n.sort=f_)
def addW(W:List Str)(y:Str):List Str:=if y∈W then W else W++[y]
def jL(y:Str):Key×V:=⟨.inr y,.bl true⟩
def jA(p:aj)(W:List Str)(f:ay):List Str:=if (!f.soft && !dw p f.name)=true then addW W f.name else W
def aG(ss:List br):List ay:=ss.flatMap br.fills
def oX(p:aj):List Str:=(aG p.ba).foldl (jA p) []
def uy(l:Addr)(N:List Str)(H:Hp):Prop:=∃ss:List Str,ss.Perm N/\ss.Pairwise h9/\H l=some (.lst 'E')
structure m6(p:aj):Prop where
 nm:p.aM.length<=61
 st:p.ba.length<=61
 ss:∀s∈p.ba,s.words.length<=61/\s.fills.length<=61
 fl:(aG p.ba).length<=61
 nd:(p.aM.map aq.name).Nodup
def Fu:Sp:=λvs H Q _=>∃p:aj,vs=[p.v]/\p.At H/\m6 p/\∀l H',au H H'->uy l (hV p) H'->H l=none->Q (.ref l) H'
def EW:Sp:=λvs H Q _=>∃p:aj,vs=[p.v]/\p.At H/\m6 p/\∀l H',au H H'->uy l (oX p) H'->H l=none->Q (.ref l) H'
abbrev Co:=Str×List aq×List (Str×Int×List Int×List ay)
def aq.e(n:aq):aq:={ n with a:=0 }
def ay.e(f:ay):ay:={ f with a:=0 }
def br.e(s:br):Str×Int×List Int×List ay:=⟨s.kind,s.step,s.words,s.fills.map ay.e⟩
def ao(p:aj):Co:=⟨p.name,p.aM.map aq.e,p.ba.map br.e⟩
def eC(z:Str)(c:Co):Bool:=c.2.1.any λn=>decide (n.name=z) && !decide (n.sort=f_)
def sY(z:Str)(c:Co):Bool:=c.2.1.any λn=>decide (n.name=z)&&decide (n.sort=f_)
def bM(z:Str)(c:Co):Bool := !sY z c&&c.2.2.any λs=>s.2.2.2.any λf=>decide (f.name=z) && !f.soft
def dy(cs:List Co)(z:Str):Option Co:=cs.find? (eC z)
def bF(ps:List aj)(z:Str):Option aj:=ps.find? λp=>eC z (ao p)
structure jj(G S:List Co)(e:Str)(T:List Co)(rs:List (Str×Str×Str)):Prop where
 nd:(T.map (·.1)).Nodup
 sub:∀p∈T,p∈S
 len:rs.map (·.1)=T.map (·.1)
 RD:∀(i:Nat) (p:Co) (r:Str×Str×Str),T[i]?=some p->rs[i]?=some r->dy G r.2.1=none/\dy S r.2.1=some p/\(r.2.2=s!"" /\ r.2.1=e\/∃q∈G++T.take i,q.1=r.2.2/\bM r.2.1 q=true)
def iZ(G S T:List Co)(z:Str):Prop:=(dy G z).isSome=true\/∃p∈T,dy S z=some p
def cI(G S:List Co)(z:Str):Prop:=(dy G z).isSome=true\/(dy S z).isSome=true
def c9(G S:List Co)(e:Str)(T:List Co):Prop:=(cI G S e->iZ G S T e)/\∀q∈G++T,∀z,bM z q=true->cI G S z->iZ G S T z
def Dm(G S:List Co)(e:Str)(T:List Co)(z b:Str):Prop:=¬cI G S z/\(b=s!"" /\ z=e\/∃q∈G++T,q.1=b/\bM z q=true)
structure dC(us:List (Str×Str))(D:Str->Str->Prop):Prop where
 nd:(us.map (·.1)).Nodup
 zo:∀u∈us,D u.1 u.2
 all:∀z b,D z b->∃u∈us,u.1=z/\h9 u.2 b
def sL(z:Str):Prop:=z.length<=16/\Sg z
structure K0(G S:List aj)(e:Str):Prop where
 cY:(G++S).length<=16
 va:∀p∈G++S,m6 p
 nd:((G++S).map aj.name).Nodup
 nm:∀p∈G++S,sL p.name
 wn:∀p∈G++S,∀z,bM z (ao p)=true->sL z
 en:sL e
structure iW(H:Hp)(S:Addr)(xs:List (Addr×List aj)):Prop where
 top:H S=some (.lst (xs.map λx=>V.ref x.1))
 at_:∀x∈xs,PL H x.1 x.2
def flat(xs:List 'k'):List aj:=xs.flatMap (·.2)
def Qo:Sp:=λvs H Q _=>∃(S:Addr) (xs:List 'k'),vs=[.ref S]/\iW H S xs/\(flat xs).length<=100/\∀(l:Addr) (H':Hp),au H H'->H l=none->H' l=some (.lst ((flat xs).map aj.v))->Q (.ref l) H'
def UL(H:Hp)(d:Addr)(ps:List aj):Prop:=∃kvs:List (Key×V),H d=some (.dK kvs)/\∀z,bE kvs (.inr z)=(bF ps z).map aj.v
def CD:Sp:=λvs H Q _=>∃(L:Addr) (ps:List aj),vs=[.ref L]/\PL H L ps/\ps.length<=16/\(∀p∈ps,m6 p)/\∀(d:Addr) (H':Hp),au H H'->H d=none->UL H' d ps->Q (.ref d) H'
structure jr where
 x:Addr
 dx:Addr
 lp:Addr
 lr:Addr
 dg:Addr
 ds:Addr
 df:Addr
 du:Addr
def jr.attrs(t:jr):List (Str×V):=putF s!"unmet" (.ref t.du) (putF s!"from_shelves" (.ref t.df) (putF s!"on_shelves" (.ref t.ds) (putF s!"told_by_given" (.ref t.dg) (putF s!"reasons" (.ref t.lr) (putF s!"pieces" (.ref t.lp) [])))))
abbrev AZ:=Addr×Str×Str×Str
def mX(us:List (Str×Str)):List (Key×V):=us.map λu=>⟨.inr u.1,.str u.2⟩
structure qm(C:Addr)(H:Hp)(t:jr)(G S T:List aj)(rs:List AZ)(us:List (Str×Str)):Prop where
 top:H t.x=some (.ins C t.dx t.attrs)
 lp:H t.lp=some (.lst ((G++T).map aj.v))
 lr:H t.lr=some (.lst (rs.map λr=>V.ref r.1))
 rs:∀r∈rs,H r.1=some (.tup [.str r.2.1,.str r.2.2.1,.str r.2.2.2])
 dg:UL H t.dg G
 ds:UL H t.ds S
 df:H t.df=some (.dK ((T.map aj.name).map jL))
 du:H t.du=some (.dK (mX us))
 at_:∀p∈G++S,p.At H/\t.lp∉p.lists/\t.lr∉p.lists
 ne:t.lp≠t.lr
 nf:t.dg≠t.df/\t.ds≠t.df/\t.du≠t.df
 nu:t.dg≠t.du/\t.ds≠t.du
 sub:∀p∈T,p∈S
def HJ(t:jr)(H H':Hp):Prop:=∀b o,b≠t.lp->b≠t.lr->b≠t.df->b≠t.du->H b=some o->H' b=some o
def IS(D:Str->Str->Prop)(G S:List Co)(z b:Str)(z' b':Str):Prop:=D z' b'\/(¬cI G S z/\z'=z/\b'=b)
def wM(C:Addr):Sp:=λvs H Q _=>∃(t:jr) (z b e:Str) (G S T:List aj) (rs:List AZ) (us:List (Str×Str)) (D:Str->Str->Prop),vs=[.ref t.x,.str z,.str b]/\qm C H t G S T rs us/\K0 G S e/\jj (G.map ao) (S.map ao) e (T.map ao) (rs.map (·.2))/\dC us D/\us.length<=2000/\(b=s!"" /\ z=e\/∃q∈G++T,q.name=b/\bM z (ao q)=true)/\
 ∀(T':List aj) (rs':List AZ) (us':List (Str×Str)) (H':Hp),qm C H' t G S (T++T') rs' us'->HJ t H H'->jj (G.map ao) (S.map ao) e ((T++T').map ao) (rs'.map (·.2))->(cI (G.map ao) (S.map ao) z->iZ (G.map ao) (S.map ao) ((T++T').map ao) z)->dC us' (IS D (G.map ao) (S.map ao) z b)->us'.length<=us.length+1->Q .bw H'
def Mt(C:Addr):Sp:=λvs H Q _=>∃(t:jr) (e:Str) (G S T:List aj) (rs:List AZ) (us:List (Str×Str)),vs=[.ref t.x]/\qm C H t G S T rs us/\K0 G S e/\jj (G.map ao) (S.map ao) e (T.map ao) (rs.map (·.2))/\(cI (G.map ao) (S.map ao) e->iZ (G.map ao) (S.map ao) (T.map ao) e)/\dC us (λz b=>¬cI (G.map ao) (S.map ao) z/\b=s!"" /\ z=e)/\us.length<=1/\
 ∀(T':List aj) (rs':List AZ) (us':List (Str×Str)) (H':Hp),qm C H' t G S T' rs' us'->HJ t H H'->jj (G.map ao) (S.map ao) e (T'.map ao) (rs'.map (·.2))->c9 (G.map ao) (S.map ao) e (T'.map ao)->dC us' (Dm (G.map ao) (S.map ao) e (T'.map ao))->Q .bw H'
structure qS(G S:List aj)(e:Str):Prop where
 cY:(G++S).length<=16
 va:∀p∈G++S,m6 p
 nm:∀p∈G++S,sL p.name
 wn:∀p∈G++S,∀z,bM z (ao p)=true->sL z
 en:sL e
theorem qS.full(h:qS G S e)(nd:((G++S).map aj.name).Nodup):K0 G S e:=(h.cY,h.va,nd,h.nm,h.wn,h.en)
def S7(n:Str):HO:=.xd [⟨"name", .str n⟩]
def EA(A:Ad):Sp:=λvs H Q _=>∃(a:Addr) (n:Str),vs=[.ref a,.str n]/\H a=some (XN a A.bo none)/\(n.length<=16/\Sg n)/\
 ∀d H',H d=none->d≠a->(∀b o,b≠a->H b=some o->H' b=some o)->H' a=some (XN a A.bo (some d))->H' d=some (XD d [⟨"name", .str n⟩])->Q .bw H'
def tW(ns:List Str)(z:Str):Prop:=∃(i j:Nat),i<j/\ns[i]?=some z/\ns[j]?=some z
def wx(A:Ad):Sp:=λvs H Q E=>∃(L:Addr) (ps:List aj),vs=[.ref L]/\PL H L ps/\ps.length<=100/\(∀p∈ps,p.name.length<=16/\Sg p.name)/\
 ((ps.map aj.name).Nodup->∀H',au H H'->Q .bw H')/\∀(z:Str) (d:Addr) (H':Hp),au H H'->tW (ps.map aj.name) z->(∀z',tW (ps.map aj.name) z'->h9 z z')->H' d=some (S7 z)->E (.ref A.bo) (some d) H'
def UU(H:Hp)(g s:Addr)(e:Str)(G:List aj)(xs:List 'k'):Prop:=PL H g G/\iW H s xs/\qS G (flat xs) e
def IX(n p:Str):HO:=.xd [⟨"name", .str n⟩,⟨"piece", .str p⟩]
structure qX(G S:List Co)(e:Str)(T:List Co)(z b:Str):Prop where
 zo:Dm G S e T z b
 name:∀z' b',Dm G S e T z' b'->h9 z z'
 kh:∀b',Dm G S e T z b'->h9 b b'
def z7(A:Ad):Sp:=λvs H Q E=>∃(x dx g s:Addr) (e:Str) (G:List aj) (xs:List 'k'),vs=[.ref x,.ref g,.ref s,.str e]/\H x=some (.ins A.aO dx [])/\UU H g s e G xs/\
 (∀(t:jr) (T:List aj) (rs:List AZ) (H':Hp),((G++flat xs).map aj.name).Nodup->t.x=x->qm A.aO H' t G (flat xs) T rs []->(∀b o,b≠x->H b=some o->H' b=some o)->H t.lp=none->H t.lr=none->jj (G.map ao) 'f' e (T.map ao) (rs.map (·.2))->c9 (G.map ao) 'f' e (T.map ao)->(∀z b,¬Dm (G.map ao) 'f' e (T.map ao) z b)->Q .bw H')/\
 (∀(T:List Co) (rs:List (Str×Str×Str)) (z b:Str) (d:Addr) (H':Hp),((G++flat xs).map aj.name).Nodup->(∀b o,b≠x->H b=some o->H' b=some o)->jj (G.map ao) 'f' e T rs->c9 (G.map ao) 'f' e T->qX (G.map ao) 'f' e T z b->H' d=some (IX z b)->E (.ref A.a_) (some d) H')/\
 (∀(z:Str) (d:Addr) (H':Hp),(∀b o,b≠x->H b=some o->H' b=some o)->tW ((G++flat xs).map aj.name) z->(∀z',tW ((G++flat xs).map aj.name) z'->h9 z z')->H' d=some (S7 z)->E (.ref A.bo) (some d) H')
def Nm:Pos:=(206,40,206,62)
def M3:Str:=(s!"taken" ++ s!".<locals>.")++s!"<lambda>"
def AA:Sp:=λvs H Q _=>∃(l:Addr) (fs:List ay),vs=[.ref l]/\H l=some (.lst (fs.map ay.v))/\(∀f∈fs,f.At H)/\fs.length<=62/\∀(l':Addr) (gs:List ay) (H':Hp),au H H'->H l'=none->H' l'=some (.lst (gs.map ay.v))->(∀f∈gs,f.At H')->gs.map ay.e=fs.map ay.e->Q (.ref l') H'
def zQ:Sp:=λvs H Q _=>∃p:aj,vs=[p.v]/\p.At H/\p.ba.length<=62/\p.aM.length<=62/\(∀s∈p.ba,s.fills.length<=62)/\∀(q:aj) (H':Hp),au H H'->q.At H'->ao q=ao p->(∀b∈q.lists,H b=none)->q.lists.Nodup->Q q.v H'
abbrev Ot:=Option (Str×Option Str)
def vK(G S:List Co)(e:Str):Ot->Prop
 |none=>((G++S).map (·.1)).Nodup/\∃T rs,jj G S e T rs/\c9 G S e T/\∀z b,¬Dm G S e T z b
 |some ⟨z,none⟩=>tW ((G++S).map (·.1)) z/\∀z',tW ((G++S).map (·.1)) z'->h9 z z'
 |some ⟨z,some b⟩=>((G++S).map (·.1)).Nodup/\∃T rs,jj G S e T rs/\c9 G S e T/\qX G S e T z b
def Eg(A:Ad):Sp:=λvs H Q E=>∃(g s:Addr) (e:Str) (G:List aj) (xs:List 'k'),vs=[.ref g,.ref s,.str e]/\UU H g s e G xs/\eE A.aZ Nm M3 H/\
 (∀(l:Addr) (T:List Co) (rs:List (Str×Str×Str)) (qs:List aj) (H':Hp),gT A.aZ H H'->eE A.aZ Nm M3 H'->PL H' l qs->((G++flat xs).map aj.name).Nodup->jj (G.map ao) 'f' e T rs->c9 (G.map ao) 'f' e T->(∀z b,¬Dm (G.map ao) 'f' e T z b)->(qs.map ao).Perm (G.map ao++T)->(qs.map aj.name).Pairwise h9->Q (.ref l) H')/\
 (∀(o:Str×Option Str) (d:Addr) (H':Hp),au H H'->vK (G.map ao) 'f' e (some o)->(o.2=none->H' d=some (S7 o.1)->E (.ref A.bo) (some d) H')/\(∀b,o.2=some b->H' d=some (IX o.1 b)->E (.ref A.a_) (some d) H'))
def eB(H H':Hp):Prop:=∀b o,((∃xs,o=.lst xs)\/∃xs,o=.tup xs)->H b=some o->H' b=some o
def CY(A:Ad):Sp:=λvs H Q _=>∃(a:Addr) (n p:Str),vs=[.ref a,.str n,.str p]/\H a=some (XN a A.a_ none)/\(n.length<=16/\Sg n)/\(p.length<=16/\Sg p)/\
 ∀d H',H d=none->d≠a->(∀b o,b≠a->H b=some o->H' b=some o)->H' a=some (XN a A.a_ (some d))->H' d=some (XD d [⟨"name", .str n⟩,⟨"piece", .str p⟩])->Q .bw H'
def iI(A:Ad)(E:XK):TS:=λD Z Hk=>∃(t:jr) (g s l:Addr) (e:Str) (G:List aj) (xs:List 'k') (H:Hp),Z=[some (.ref t.x),some (.ref g),some (.ref s),some (.str e),some (.ref l),none]/\qm A.aO Hk t G (flat xs) [] [] []/\K0 G (flat xs) e/\(∀b o,b≠t.x->H b=some o->Hk b=some o)/\H t.lp=none/\H t.lr=none/\H t.df=none/\H t.du=none/\
 (∀(T:List aj) (rs:List AZ) (H':Hp),qm A.aO H' t G (flat xs) T rs []->(∀b o,b≠t.x->H b=some o->H' b=some o)->jj (G.map ao) 'f' e (T.map ao) (rs.map (·.2))->c9 (G.map ao) 'f' e (T.map ao)->(∀z b,¬Dm (G.map ao) 'f' e (T.map ao) z b)->D.nx [some (.ref t.x),some (.ref g),some (.ref s),some (.str e),some (.ref l),none] H')/\
 (∀(T:List Co) (rs:List (Str×Str×Str)) (z b:Str) (d:Addr) (H':Hp),(∀b o,b≠t.x->H b=some o->H' b=some o)->jj (G.map ao) 'f' e T rs->c9 (G.map ao) 'f' e T->qX (G.map ao) 'f' e T z b->H' d=some (IX z b)->E (.ref A.a_) (some d) H')
def xb:Sp:=λvs H Q _=>∃(L:Addr) (c:Int) (ps:List aj),vs=[.ref L,.int c]/\PL H L ps/\ps.length<=12/\
 ∀(S:Addr) (xs:List 'k') (H':Hp),au H H'->iW H' S xs->(∀b∈S::xs.map (·.1),H b=none)->(S::xs.map (·.1)).Nodup->xs.length=4->(flat xs).Perm ps->Q (.ref S) H'
structure LP(c t:Int)(p:aj):Prop where
 name:p.name=nameOf t 14
 aM:p.aM.map aq.name=(List.range 12).map λk:Nat=>nameOf c k
 weak:∀n∈p.aM,n.sort=s!"weak"
 ba:∃s,p.ba=[s]/\s.words=[5]/\s.fills=[]
 kd:∀s∈p.ba,s.kind=s!"data" /\ s.step=1
 YD:∀n∈p.aM,n.st=0/\0<=n.off/\n.off<=1
def G8:Sp:=λvs H Q _=>∃(c t:Int) (l:Addr),vs=[.int c,.int t,.ref l]/\H l=some (.lst [])/\
 ∀(p:aj) (H':Hp),au H H'->p.At H'->LP c t p->(∀b∈p.lists,H b=none)->Q p.v H'
def Cc:Sp:=λvs H Q _=>∃p:aj,vs=[p.v]/\p.At H/\m6 p/\∀l H',au H H'->H l=none->H' l=some (.lst ((hV p).map V.str))->Q (.ref l) H'
def c8(p:aj)(fs:List ay):List Str:=(fs.filter λf=>!f.soft && !dw p f.name).map ay.name
def we:Sp:=λvs H Q _=>∃p:aj,vs=[p.v]/\p.At H/\m6 p/\∀l H',au H H'->H l=none->H' l=some (.lst ((c8 p (aG p.ba)).map V.str))->Q (.ref l) H'
def OF:Option aj->V
 |some p=>p.v
 |none=>.bw
def AD:Sp:=λvs H Q _=>∃(S:Addr) (z:Str) (xs:List 'k'),vs=[.ref S,.str z]/\iW H S xs/\(∀p∈flat xs,m6 p)/\∀H',au H H'->Q (OF (bF (flat xs) z)) H'
def Aa:Sp:=λvs H Q _=>∃(pn:Str) (dO dN:Addr) (f:ay) (mo mn:List aI),vs=[.str pn,.ref dO,.ref dN,f.v]/\f.At H/\Tab H dO mo/\Tab H dN mn/\
 (∀m,((aY mo f.name).or (aY mn f.name))=some m->∀q,H q=none->Q (.ref q) (upd H q (Rr m.a m.b (m.c+f.add))))/\((aY mo f.name).or (aY mn f.name)=none->f.soft=true/\Q (.int (f.add%4294967296)) H)
def HG(H:Hp)(p:aj)(mn:List aI)(f:ay)(v:V):Prop:=(∃a b c q,i9 p mn f=some ⟨a,b,c⟩/\v=.ref q/\H q=some (Rr a b (c+f.add)))\/(i9 p mn f=none/\v=.int (f.add%4294967296))
def Fq:Sp:=λvs H Q _=>∃(p:aj) (dN l:Addr) (fs:List ay) (mn:List aI),vs=[p.v,.ref dN,.ref l]/\p.At H/\p.aM.length<=61/\(p.aM.map aq.name).Nodup/\Tab H dN mn/\H l=some (.lst (fs.map ay.v))/\fs.length<=61/\(∀f∈fs,f.At H/\(i9 p mn f=none->f.soft=true))/\
 ∀(l':Addr) (ys:List V) (H':Hp),au H H'->H' l'=some (.lst ys)->ys.length=fs.length->(∀(i:Nat) f v,fs[i]?=some f->ys[i]?=some v->HG H' p mn f v)->H l'=none->Q (.ref l') H'
def atT(z:Str)(s o:Int):HO:=.tup [.str s!"at",.str z,.int s,.int o]
abbrev Va:=Int ⊕ (Str×Str×Int×Int)
def Yc:Str:=s!"at"
def VZ(g z:Str)(s o:Int):HO:=.tup [.str g,.str z,.int s,.int o]
def Va.Is(H:Hp)(x:Va)(v:V):Prop:=match x with
 |.inl n=>v=.int n
 |.inr ⟨g,z,s,o⟩=>∃t,v=.ref t/\H t=some (VZ g z s o)
structure wc(H:Hp)(rs:List Va)(vs:List V):Prop where
 len:vs.length=rs.length
 at_:∀(i:Nat) (x:Va),rs[i]?=some x->∃v,vs[i]?=some v/\Va.Is H x v
def kp(z:Str)(s o:Int):List Key:=[.inr z,.inl s,.inl o]
abbrev QA:=Str×Int×Int
def xy:Sp:=λvs H Q _=>∃(t:Addr) (a:Str) (b c:Int),vs=[.ref t]/\H t=some (.tup [.str a,.int b,.int c])/\∀q,H q=none->Q (.ref q) (upd H q (atT a b (c%4294967296)))
def An:Sp:=λvs H Q _=>∃(x:Va) (v:V),vs=[v]/\Va.Is H x v/\∀v' H',au H H'->Va.Is H' x v'->Q v' H'
structure NO where
 x:Addr
 dx:Addr
 dm:Addr
 ds:Addr
 tp:Addr
 lr:Addr
 ln:Addr
def NO.fs(M:NO)(en:Bool):List (Str×V):=[⟨"memory", .ref M.dm⟩,⟨"stretches", .ref M.ds⟩,⟨"place", .ref M.tp⟩,⟨"registers", .ref M.lr⟩,⟨"numbers", .ref M.ln⟩,⟨"ended", .bl en⟩]
def OE:Sp:=λvs H Q _=>∃v:V,vs=[v]/\((∃n:Int,v=.int n/\Q (.bl true) H)\/∃(t:Addr) (xs:List V),v=.ref t/\H t=some (.tup xs)/\Q (.bl false) H)
def Af(A:Ad):Sp:=λvs H Q _=>∃(p dx q:Addr) (w:Int) (r:Str),vs=[.ref p,.int w,.str r,.ref q]/\H p=some (.ins A.gS dx [])/\Q .bw (upd (upd (upd H p (.ins A.gS dx [⟨"word", .int w⟩])) p (.ins A.gS dx [⟨"word", .int w⟩,⟨"title", .str r⟩])) p (.ins A.gS dx [⟨"word", .int w⟩,⟨"title", .str r⟩,⟨"aimed", .ref q⟩]))
def tI:Sp:=λvs H Q _=>∃(w:Int) (r:Str) (av:V),vs=[.int w,.str r,av]/\0<=w/\w<=4294967295/\((∃a:Int,av=.int a/\S4 r)\/∃(q:Addr) (p:QA),av=.ref q/\H q=some (.tup [.str p.1,.int p.2.1,.int p.2.2]))/\∀v' H',au H H'->Q v' H'
structure NF(A:Ad)(H:Hp)(M:NO)(pl:QA)(rs:List Va):Prop where
 top:H M.x=some (.ins A.cD M.dx (M.fs false))
 Tf:H M.tp=some (atT pl.1 pl.2.1 pl.2.2)
 Eu:∃vs:List V,H M.lr=some (.lst vs)/\wc H rs vs
 len:rs.length=8
 SY:H M.ln=some (.lst [])
 nd:M.lr≠M.ln
structure XW(H:Hp)(t q lr ln:Addr)(pl:QA)(rs:List Va):Prop where
 top:H t=some (.tup [.ref q,.ref lr,.ref ln,.bl false])
 Tf:H q=some (atT pl.1 pl.2.1 pl.2.2)
 Eu:∃vs:List V,H lr=some (.lst vs)/\wc H rs vs
 SY:H ln=some (.lst [])
def vt(A:Ad):Sp:=λvs H Q _=>∃(M:NO) (pl:QA) (rs:List Va),vs=[.ref M.x]/\NF A H M pl rs/\∀(t q lr ln:Addr) (H':Hp),au H H'->XW H' t q lr ln pl rs->H lr=none->H ln=none->Q (.ref t) H'
structure UT(p:aj)(mn:List aI):Prop where
 bn:m6 p
 Tt:∀s∈p.ba,∀w∈s.words,0<=w/\w<=4294967295
 R_:∀s∈p.ba,∀f∈s.fills,0<=f.at_/\f.at_<s.words.length/\(i9 p mn f=none->f.soft=true/\S4 f.rule)
def vW(A:Ad):Sp:=λvs H Q _=>∃(x dx dm ds dN:Addr) (p:aj) (mn:List aI) (km ks:List (List Key×V)),vs=[.ref x,p.v,.ref dN]/\H x=some (.ins A.cD dx [⟨"memory", .ref dm⟩,⟨"stretches", .ref ds⟩])/\H dm=some (.dT km)/\H ds=some (.dT ks)/\dm≠ds/\km.length<=1000000/\ks.length<=1000000/\p.At H/\UT p mn/\Tab H dN mn/\
 ∀(km' ks':List (List Key×V)) (H':Hp),(∀b o,b≠dm->b≠ds->H b=some o->H' b=some o)->H' dm=some (.dT km')->H' ds=some (.dT ks')->km'.length<=km.length+200*p.ba.length->ks'.length<=ks.length+p.ba.length->Q .bw H'
structure yk(H H':Hp)(dm ds:Addr)(n j:Nat):Prop where
 off:∀b o,b≠dm->b≠ds->H b=some o->H' b=some o
 sZ:∃km,H' dm=some (.dT km)/\km.length<=n
 str:∃ks,H' ds=some (.dT ks)/\ks.length<=j
def kX(x:Addr)(H H':Hp):Prop:=∀b o,b≠x->(∀ps,o≠.i3 ps)->H b=some o->H' b=some o
def KS(c:Co):D:=.tup [.str c.1,.lst (c.2.2.map λs=>D.tup [.str s.1,.int s.2.1,.lst (s.2.2.1.map D.int),.lst (s.2.2.2.map ay.d)]),.lst (c.2.1.map aq.d)]
abbrev yy:=Addr×Str×Str
def wL:Sp:=λvs H Q _=>∃(S:Addr) (ys:List 'k'),vs=[.ref S]/\iW H S ys/\(flat ys).length<=16/\
 (∀H',au H H'->((flat ys).map aj.name).Nodup->Q .bw H')/\∀(z:Str) (H':Hp),au H H'->tW ((flat ys).map aj.name) z->(∀z',tW ((flat ys).map aj.name) z'->h9 z z')->Q (.str z) H'
def Xw(K:Wf)(A:Ad)(C:Addr)(bs:List V):Prop:=∃x1 x2 x3 x4:Bool,kitOne K (.ref C) (.ref A.oO)=some x1/\kitOne K (.ref C) (.ref A.pN)=some x2/\kitOne K (.ref C) (.ref A.aX)=some x3/\kitOne K (.ref C) (.ref A.bo)=some x4/\bs=[.bl x1,.bl x2,.bl x3,.bl x4]
def WN(K:Wf)(A:Ad)(C:Addr)(bs:List V):Prop:=∃x1 x2 x3:Bool,kitOne K (.ref C) (.ref A.a_)=some x1/\kitOne K (.ref C) (.ref A.qx)=some x2/\kitOne K (.ref C) (.ref A.oV)=some x3/\bs=[.bl x1,.bl x2,.bl x3]
def Wo(K:Wf)(A:Ad)(C:Addr)(bs:List V):Prop:=∃x1 x2 x3:Bool,kitOne K (.ref C) (.ref A.qu)=some x1/\kitOne K (.ref C) (.ref A.kP)=some x2/\kitOne K (.ref C) (.ref A.qj)=some x3/\bs=[.bl x1,.bl x2,.bl x3]
def XY(K:Wf)(A:Ad):TS:=λD Z H=>∃(a C:Addr) (b1:Option V) (bs:List V),Z=[some (.ref a),b1]/\Gv K H (.ref a) (.ref C)/\Xw K A C bs/\∀q H',au H H'->H' q=some (.lst bs)->D.nx [some (.ref a),some (.ref q)] H'
def Yv(K:Wf)(A:Ad):TS:=λD Z H=>∃(a C l:Addr) (b0 bs:List V),Z=[some (.ref a),some (.ref l)]/\H l=some (.lst b0)/\b0.length<=100/\(∀{H'},au H H'->Gv K H' (.ref a) (.ref C))/\WN K A C bs/\∀q H',au H H'->H' q=some (.lst (b0++bs))->D.nx [some (.ref a),some (.ref q)] H'
def XQ(K:Wf)(A:Ad):TS:=λD Z H=>∃(a C l:Addr) (b0 bs:List V),Z=[some (.ref a),some (.ref l)]/\H l=some (.lst b0)/\b0.length<=100/\(∀{H'},au H H'->Gv K H' (.ref a) (.ref C))/\Wo K A C bs/\∀q H',au H H'->H' q=some (.lst (b0++bs))->D.nx [some (.ref a),some (.ref q)] H'
def WE(ys zs:List aj)(n:Nat):Prop:=zs.length<=ys.length+n/\∀p∈zs,p∈ys\/(p.ba=[]/\p.aM=[]/\p.name∈ys.map aj.name)
def vH:Sp:=λvs H Q _=>∃(S:Addr) (c:Int) (ys:List 'k'),vs=[.ref S,.int c]/\iW H S ys/\ys.length=4/\(flat ys).length<=14/\
 ∀(S':Addr) (zs:List 'k') (H':Hp),au H H'->iW H' S' zs->zs.length=4->WE (flat ys) (flat zs) 1->Q (.ref S') H'
def AU(p:aj):Key×V:=⟨.inr p.name,p.v⟩
def sv(H:Hp)(ts:List yy):Prop:=∀x∈ts,H x.1=some (.tup [.str x.2.1,.str x.2.2])
structure Gn(G S:List aj)(e:Str)(Tp:List aj)(rs:List (Str×Str×Str))(un:List yy):Prop where
 tc:jj (G.map ao) (S.map ao) e (Tp.map ao) rs
 cl:c9 (G.map ao) (S.map ao) e (Tp.map ao)
 sub:∀p∈Tp,p∈S
 Wl:∀z b,Dm (G.map ao) (S.map ao) e (Tp.map ao) z b->⟨z,b⟩∈un.map (·.2)
 Yj:∀x∈un,Dm (G.map ao) (S.map ao) e (Tp.map ao) x.2.1 x.2.2
 nd:((G++Tp).map aj.name).Nodup
def IU:Sp:=λvs H Q _=>∃(S a0:Addr) (e:Str) (G:List aj) (xs:List 'k'),vs=[.ref S,.str e]/\iW H S (⟨a0,G⟩::xs)/\K0 G (flat xs) e/\
 ∀(Tp:List aj) (rs:List (Str×Str×Str)) (un:List yy) (t d u:Addr) (H':Hp),au H H'->Gn G (flat xs) e Tp rs un->H' t=some (.tup [.ref d,.ref u])->H' d=some (.dK ((G++Tp).map AU))->H' u=some (.lst (un.map λx=>V.ref x.1))->sv H' un->H d=none->Q (.ref t) H'
def ji(R:List (Str×Str)):Option (Str×Str×Str)->Prop
 |none=>∀z,(ik R z).length<=1
 |some ⟨z,a,b⟩=>qW R z/\∃(so r:List Str),so.Perm (ik R z)/\so.Pairwise h9/\so=a::b::r
def U2(H:Hp)(v:V):Option (Str×Str×Str)->Prop
 |none=>v=.bw
 |some ⟨z,a,b⟩=>∃l,v=.ref l/\H l=some (.lst [.str z,.str a,.str b])
def Ao:Sp:=λvs H Q _=>∃(d:Addr) (ps:List aj),vs=[.ref d]/\H d=some (.dK (ps.map AU))/\(∀p∈ps,p.At H)/\qO ps/\∀v o H',(∀b u,b≠d->H b=some u->H' b=some u)->ji (bC ps) o->U2 H' v o->Q v H'
def yf:Str:=s!"same"
def GC:Str:=s!"unmet"
def Ht:Str:=s!"twice"
def iU(cs:List Co):List (Str×Str):=cs.flatMap λc=>(c.2.1.filter λn=>decide (n.sort=bx)).map λn=>⟨n.name,c.1⟩
def wJ(G S:List Co)(e:Str)(o:List Str):Prop:=
 (∃z,o=[yf,z]/\vK G S e (some ⟨z,none⟩)) \/
 (∃z b,o=[GC,z,b]/\vK G S e (some ⟨z,some b⟩)) \/
 ∃T rs,((G++S).map (·.1)).Nodup/\jj G S e T rs/\c9 G S e T/\(∀z b,¬Dm G S e T z b)/\((o=[]/\ji (iU (G++T)) none)\/∃z a b,o=[Ht,z,a,b]/\ji (iU (G++T)) (some ⟨z,a,b⟩))
def Kj(H:Hp)(v:V)(o:List Str):Prop:=(o=[]/\v=.bw)\/(o≠[]/\∃l,v=.ref l/\H l=some (.lst (o.map V.str)))
def GL:Sp:=λvs H Q _=>∃(S a0:Addr) (e:Str) (G:List aj) (xs:List 'k'),vs=[.ref S,.str e]/\iW H S (⟨a0,G⟩::xs)/\qS G (flat xs) e/\(((G++flat xs).map aj.name).Nodup->qO (G++flat xs))/\
 ∀(o:List Str) (v:V) (H':Hp),au H H'->wJ (G.map ao) 'f' e o->Kj H' v o->Q v H'
def LX(A:Ad)(H:Hp)(C d:Addr)(o:List Str):Prop:=
 (∃z,o=[yf,z]/\C=A.bo/\H d=some (S7 z))\/(∃z b,o=[GC,z,b]/\C=A.a_/\H d=some (IX z b))\/∃z a b,o=[Ht,z,a,b]/\C=A.aX/\H d=some (VO z a b)
def Xi(A:Ad)(H:Hp)(v:V)(o:List Str):Prop:=(o=[]/\v=.bw)\/∃a C d,v=.ref a/\H a=some (XO a C (some d))/\LX A H C d o
def zw(A:Ad):Sp:=λvs H Q _=>∃(a C d:Addr) (o:List Str),vs=[.ref a]/\H a=some (XO a C (some d))/\LX A H C d o/\∀H',au H H'->Q (.bl true) H'
def wB(A:Ad):Sp:=λvs H Q _=>∃(a C d:Addr) (o:List Str),vs=[.ref a]/\H a=some (XO a C (some d))/\LX A H C d o/\∀l H',au H H'->H' l=some (.lst (o.map V.str))->Q (.ref l) H'
def zG(A:Ad):Sp:=λvs H Q _=>∃(v u:V) (o:List Str),vs=[v,u]/\Xi A H v o/\Kj H u o/\∀H',au H H'->Q (.bl true) H'
structure MC(p:aj):Prop where
 bn:m6 p
 Tt:∀s∈p.ba,∀w∈s.words,0<=w/\w<=4294967295
 R_:∀s∈p.ba,∀f∈s.fills,0<=f.at_/\f.at_<s.words.length/\(f.soft=true->S4 f.rule)
 off:∀n∈p.aM,0<=n.off/\n.off<=100
def jb(cs:List Co):List (Str×aq):=cs.flatMap λc=>c.2.1.map λn=>⟨c.1,n⟩
def u_(R:List (Str×aq))(e:Str)(v:Str×Int×Int):Prop:=(∃r∈R,r.2.name=e/\r.2.sort=bx/\v=Jz r)\/((∀r∈R,r.2.name=e->r.2.sort≠bx)/\∃r∈R,r.2.name=e/\r.2.sort=cQ/\v=Jz r/\∀r'∈R,r'.2.name=e->r'.2.sort=cQ->Xs r.1 r'.1)
structure O8(G S:List aj):Prop where
 px:((G++S).map aj.name).Nodup->qO (G++S)
 py:∀p∈G++S,MC p
def zJ(A:Ad):Sp:=λvs H Q E=>∃(x dx g s l:Addr) (e:Str) (G:List aj) (xs:List 'k') (rs:List Va) (us:List V),vs=[.ref x,.ref g,.ref s,.str e,.ref l]/\H x=some (.ins A.cD dx [])/\UU H g s e G xs/\O8 G (flat xs)/\H l=some (.lst us)/\wc H rs us/\rs.length=8/\eE A.aZ Nm M3 H/\eE A.bB tK uN H/\A.bB≠A.aZ/\
 (∀(M:NO) (v:Str×Int×Int) (T:List Co) (rs':List (Str×Str×Str)) (H':Hp),M.x=x->kX x H H'->eE A.aZ Nm M3 H'->eE A.bB tK uN H'->NF A H' M v rs->wJ (G.map ao) 'f' e []->jj (G.map ao) 'f' e T rs'->c9 (G.map ao) 'f' e T->u_ (jb (G.map ao++T)) e v->Q .bw H')/\
 ∀(C d:Addr) (o:List Str) (H':Hp),kX x H H'->eE A.aZ Nm M3 H'->eE A.bB tK uN H'->wJ (G.map ao) 'f' e o->LX A H' C d o->E (.ref C) (some d) H'
def Bi:Sp:=λvs H Q _=>∃(S a0:Addr) (e:Str) (G:List aj) (xs:List 'k'),vs=[.ref S,.str e]/\iW H S (⟨a0,G⟩::xs)/\K0 G (flat xs) e/\qO (G++flat xs)/\cI (G.map ao) 'f' e/\
 ∀(v:Str×Int×Int) (T:List Co) (rs:List (Str×Str×Str)) (t:Addr) (H':Hp),au H H'->jj (G.map ao) 'f' e T rs->c9 (G.map ao) 'f' e T->u_ (jb (G.map ao++T)) e v->H' t=some (atT v.1 v.2.1 v.2.2)->Q (.ref t) H'
def OY(ws:List aj)(e:Str)(H:Hp)(wv:V)(no:Prop):Prop:=(wv=.bw/\no)\/∃t p n,wv=.ref t/\H t=some (atT p.name n.st n.off)/\p∈ws/\n∈p.aM/\n.name=e/\n.sort=cQ/\∀p'∈ws,(∃n'∈p'.aM,n'.name=e/\n'.sort=cQ)->h9 p.name p'.name
def KZ(H H':Hp):Prop:=∀b o,(∀ps,o≠.i3 ps)->H b=some o->H' b=some o
structure Mu(A:Ad)(H:Hp):Prop where
 tk:eE A.aZ Nm M3 H
 nm:eE A.bB tK uN H
 ne:A.bB≠A.aZ
def vX(A:Ad):Sp:=λvs H Q _=>∃(S a0:Addr) (e:Str) (G:List aj) (xs:List 'k'),vs=[.ref S,.str e]/\iW H S (⟨a0,G⟩::xs)/\xs.length<=10/\qS G (flat xs) e/\O8 G (flat xs)/\Mu A H/\∀H',KZ H H'->Mu A H'->Q (.bl true) H'
def z8:List Va:=List.replicate 8 (.inl 0)
def XE(A:Ad):TS:=λD Z H=>∃(S a0 Hn c0:Addr) (e:Str) (G G':List aj) (xs yr:List 'k') (v kv mv:V) (o:List Str) (b6:Option V),Z=[some (.ref S),some (.str e),some (.ref Hn),some v,some kv,some mv,b6]/\iW H S (⟨a0,G⟩::xs)/\iW H Hn (⟨c0,G'⟩::yr)/\((⟨c0,G'⟩::yr).map λy=>y.2.map ao)=((⟨a0,G⟩::xs).map λx=>x.2.map ao)/\qS G (flat xs) e/\O8 G (flat xs)/\Kj H v o/\Xi A H kv o/\
 (o=[]->∃M w T rs,mv=.ref M.x/\NF A H M w z8/\wJ (G.map ao) 'f' e []/\jj (G.map ao) 'f' e T rs/\c9 (G.map ao) 'f' e T/\u_ (jb (G.map ao++T)) e w)/\(o≠[]->mv=.bw)/\∀H',au H H'->D.rt (.bl true) H'
structure QG(c t:Int)(s:aj):Prop where
 name:s.name=nameOf t 13
 nl:s.aM.length<=1
 nm:∀n∈s.aM,sL n.name/\n.sort=bx/\n.off=0
 sl:s.ba.length<=1
 st:∀x∈s.ba,x.words=[3]/\x.fills=[]
structure HY(ps:List aj):Prop where
 px:qO ps
 py:∀p∈ps,MC p/\∀z,bM z (ao p)=true->sL z
def Ap(bs:List Addr)(ps:List aj):Prop:=∀p∈ps,∀b∈bs,b∉p.lists
def l1(A:Ad):TS:=λD Z H=>∃(b0:Option V) (c t kh:Int) (S:Addr) (e:Str) (xs:List 'k') (n:Nat) (ps:List aj),Z=[b0,some (.int c),some (.int t),some (.int kh),some (.ref S),some (.str e),none,none,none]/\iW H S xs/\xs.length=4/\(S::xs.map (·.1)).Nodup/\Ap (xs.map (·.1)) (flat xs)/\Drawn c t n ps/\n<=59/\(flat xs).Perm ps/\sL e/\Mu A H/\0<=kh/\∀H',D.rt (.bl true) H'
def l2(A:Ad):TS:=λD Z H=>∃(b0:Option V) (c t kh:Int) (S g:Addr) (e:Str) (xs gs:List 'k') (n:Nat) (ps:List aj) (q:aj),Z=[b0,some (.int c),some (.int t),some (.int kh),some (.ref S),some (.str e),some (.ref g),none,none]/\iW H S xs/\xs.length=4/\(S::xs.map (·.1)).Nodup/\Ap (xs.map (·.1)) (flat xs)/\Ap (xs.map (·.1)) (flat gs)/\iW H g gs/\gs.length=4/\(S=g/\xs=gs\/∀b∈xs.map (·.1),b∉g::gs.map (·.1))/\Drawn c t n ps/\n<=59/\LP c t q/\(∀p∈flat xs,p∈ps++[q])/\((flat xs).map aj.name).Nodup/\(∀p∈flat gs,p∈ps++[q])/\((flat gs).map aj.name).Nodup/\sL e/\Mu A H/\0<=kh/\∀H',D.rt (.bl true) H'
def l3(A:Ad):TS:=λD Z H=>∃(b0 b1 b2 b7:Option V) (kh:Int) (S g:Addr) (e:Str) (xs gs:List 'k'),Z=[b0,b1,b2,some (.int kh),some (.ref S),some (.str e),some (.ref g),b7,none]/\iW H S xs/\xs.length=4/\HY (flat xs)/\iW H g gs/\gs.length=4/\HY (flat gs)/\sL e/\Mu A H/\∀H',D.rt (.bl true) H'
def rB(K:Wf)(tn tb:Addr):Sp:=λvs H Q _=>∃(a:Addr) (ns:List Int),vs=[.ref a]/\az K H a (ns.map V.int)/\ns.length<=63/\H tn=some (.i3 #[])/\H tb=some (.i3 #[])/\tn≠tb/\∀H',Q (.bl true) H'
private def W3:Array Lean.Ident:=("Ye Yz X9 Yi Xy Yl YC X4 XH W5 WI W0 ES nj fH JC Ry D3 JQ Pw Rv Ef RT AO Px QO ue Kb qU Uk wY BU BW CJ JL KI KR Kk JZ Ko wC Dk wI DI xo Di wa jY Wh HW g_ tC Bj Yp lL Wb Uu UP Yy Wi Wc FL tB UG UI tU y_ DP X3 Iz Fs Rw Su Ri PB zP WU B0 XJ L2.start List.set List.map List.length List.replicate List.cons_append List.nil_append List.append_nil cK bK HV rI rU Uy QJ IH Pm Ro S5 J9 Eo xY Uq Ja Mh yl Ms Nb Uj GO yC MP SX Ta FV JF Xb Sb SO Yg X8 YA YI YK YE YG YH YN YL YF YM YJ XF Yh XR XX KH Sh Mb Yo O3 RS RQ Pc Pg LU O_ Pa MV eV WV r9 TC TU Yq Qt yV GB OJ QZ Xz U8 Pl HR rJoin RZ Yd UK CW WG Xm WX Xu Ui Yx YO XT List.getElem?_cons_zero List.getElem?_cons_succ Option.some.injEq V.int.injEq V.str.injEq V.bl.injEq V.ref.injEq V.ty.injEq List.cons.injEq exists_eq_left' exists_eq_left exists_eq' and_assoc if_true if_false Bool.not_false Bool.not_true Bool.not_not Bool.false_eq_true exists_and_left and_true true_and List.set_cons_zero List.set_cons_succ Option.join_some false_and or_false false_or exists_false zi zh vf Av Dh xP CY EA Cu Ae Fu EW Qo wx CD wM Mt z7 AA zQ Eg y9 Ab Aa Fq vW ON DQ IV HF Fh I_ GN HM Hq Af OE xy An tI vt xb G8 Cc we AD wL IU Ao GL zw wB zG zJ Bi vH vX rB Rh uK BB Pt Ip Nu Ve XI Vp Po SJ Pf Ln WH Ny Pp OT NQ WY Xx Ta Vy TN Rh uK BB RH Pt Ip Nu Ve XI Vp IB Tw Q8 K1 LK WH J0 UE Vy yu Ip IB Uo QS Pt Ip Po SJ Pf Ma Ln Nu Ve WH K1 BB yu IB Ends.nx Nat.reduceSub Nat.reduceAdd".splitOn " ").toArray.map λs=>Lean.mkIdent s.toName
local macro_rules | `(tactic| walk_at "rdd") => do
 let a<-W3.mapM λx=>`(Lean.Parser.Tactic.simpLemma| $x:ident)
 `(tactic| try dsimp +instances only [$a,*])
local macro_rules | `(tactic| walk_at "rd") => do
 let a<-W3.mapM λx=>`(Lean.Parser.Tactic.simpLemma| $x:ident)
 let a:=a.push (<-`(Lean.Parser.Tactic.simpLemma| reduceCtorEq))
 `(tactic| (walk_at "rdd";try simp only [$a,*]))
abbrev Z0(P:Program)(w:World)(mg:So)(base:Heap){K:Wf}{x q:Str}{st:Stmt}{f:Addr}{fd:FuncData}{ps:List Str}(_:FB K x q st f fd ps)(k:Nat)(sp:Sp):=aS P w K mg base de k f fd ps sp
abbrev Zm(P:Program)(w:World)(mg:So)(base:Heap){K:Wf}{x q:Str}{st:Stmt}{f:Addr}{fd:FuncData}{ps:List Str}(_:FB K x q st f fd ps)(k:Nat)(sp:Sp):=aS P w K mg base (vc P w) k f fd ps sp
section
variable{P:Program}{w:World}{K:Wf}{mg:So}{base:Heap}{A:Ad}
theorem aJ(h:H p=none):au H (upd H p o):=λb u e=>by rw[ae (bD e h)];exact e
def cz(h:upd H p o q=none):q≠p/\H q=none:=by
 have n:q≠p:=λe=>by rw[e,ax]at h;cases h
 exact(n,by rw[ae n]at h;exact h)
theorem cg(h:H0 L=none)(e:au H0 H):au H0 (upd H L o):=λb u q=>by rw[ae (bD q h)];exact e b u q
def iC(s:au H H')(h:H' a=none):H a=none:=by
 cases e:H a with
 |none=>rfl
 |some o=>exact nomatch h.symm.trans (s _ _ e)
def pq(c k:Int)(n:Nat):lQ c k (n+1)=lQ c k n++(⟨#[sgn (kY c k n)]⟩:Str):=by
 show(⟨_⟩:Str)=⟨_⟩;congr 1;rw[List.range_succ,aV];apply Array.ext';unfold lQ;simp
def gZ(c k:Int)(n:Nat):(lQ c k n).length=n:=by
 show((List.range n).map _).toArray.size=n;simp
def Fy(h0:0<=i)(h1:i<37):gz signs.cps.toList i=some (sgn i):=by
 have hl:signs.cps.toList.length=37:=by decide +kernel
 let(v,hv,_):=vD (xs:=signs.cps.toList) (i:=i) (by lia) (by lia);unfold sgn;rw[hv];rfl
def fD(c k:Int)(j:Nat):0<=kY c k j/\kY c k j<37:=by
 unfold kY;generalize c/((j:Int)+3)+(j:Int)*(j:Int)+k*(if decide ((j:Int)=rL c)=true then 1 else 0)=x;split<;>lia
def N4(h0:0<=i)(h1:i<37):sgn i<16 ^ 8:=by
 have hl:signs.cps.toList.length=37:=by decide +kernel
 let(v,hv,hm):=vD (xs:=signs.cps.toList) (i:=i) (by lia) (by lia);unfold sgn;rw[hv];have all:signs.cps.toList.all (λc=>decide (c<16 ^ 8))=true:=by decide +kernel
 exact of_decide_eq_true (List.all_eq_true.mp all v hm)
def dA(c k:Int)(hk:0<=k):(nameOf c k).length<=16/\Sg (nameOf c k):=by
 unfold nameOf;refine(?_,λx hx=>?_)
 ·rw[gZ];unfold ia;split<;>lia
 ·unfold lQ at hx;simp only[List.mem_toArray,List.mem_map,List.mem_range]at hx;let(j,_,rfl):=hx;exact N4 (fD c k j).1 (fD c k j).2
def yo(T:Txt K mg A):Z0 P w mg base T.jH 1 (zi K):=by
 refine T.jH.ok Nl ?_ ?_;walk_at "k"
 let(a,ns,i,rfl,hS,hl,h0,k):=h;refine(_,(aL (aQ (bI jg (pv 1) (bV (kG (K:=K) rfl) (by rfl) T.f9 dS (ai (pv 0) aa)) (aE _)) (aU (aw (bX (eM (K:=K) rfl) (pv 0) (pv 1) (λ_ _=>rfl)))) bN) (aU (aw af))),?_);walk_at "rd";refine(ns.length,.inl (_,hS,by simp),cH (λhi=>?_) (λ_=>k 0));have hi:=of_decide_eq_true hi;let(v,hv,hm):=vD (xs:=ns.map V.int) (i:=i) (by simp;omega) (by simpa using hi);let(j,_,rfl):=aK.mp hm;exact(_,hS,_,hv,k j)
def lx(T:Txt K mg A):Z0 P w mg base T.d0 1 zh:=by
 refine T.d0.ok eU ?_ ?_;walk_at "k"
 let(c,i,rfl,k):=h;refine(_,(aL (pS 2 eU.nd aH) (aL (pS 3 eU.nd (aA eJ af (aA dt (pv 0) af))) (aL (pS 4 eU.nd (aA dt (aA fZ (pv 0) af) (pv 3))) (aL (aQ (bI bQ (aA dt (aA fZ (pv 0) af) af) af (aE _)) (aL (pS 3 eU.nd (aA eJ af (aA dt (pv 1) af))) (aU (pS 4 eU.nd af))) bN) (aL (pS 5 eU.nd aH) (aL (pF (qv rfl T.yX (ai (pv 3) aa)) (pn 6 eU.nd) (aL (pS 7 eU.nd (aA ml af (aA jG af (lO pI (by rfl) T.Bq vU (ai (eI bQ (pv 6) af (aE _)) aa))))) (aL (pS 8 eU.nd (aA eJ (aA eJ (aA fZ (pv 0) (aA eJ (pv 6) af)) (aA jG (pv 6) (pv 6))) (aA jG (pv 1) (lO pI (by rfl) T.Bq vU (ai (eI bQ (pv 6) (pv 4) (aE _)) aa))))) (aU (pS 5 eU.nd (aA wH (pv 5) (bX Oh (pv 2) (aA dt (pv 8) (pv 7)) (λ_ _=>rfl)))))))) (aU (aw (pv 5))))))))),?_);walk_at "rd";refine(by decide,(by decide,by decide),by lia,(by decide,by decide),by decide,cH (λhc=>(by decide,?_)) (λhc=>?_))
 ·have hc:=of_decide_eq_true hc;have e1:ia c i=1+i%16:=by unfold ia;rw[if_pos hc]
  have e2:rL c=16:=by unfold rL;rw[if_pos hc]
  refine AF.of (by lia) (by lia) (λn Z H'=>H'=H/\∃b6 b7 b8,Z=[some (.int c),some (.int i),some (.str signs),some (.int (1+i%16)),some (.int 16),some (.str (lQ c i n)),b6,b7,b8]) (rfl,_,_,_,rfl) ?_ ?_
  ·rintro n Z H' hn ⟨rfl,b6,b7,b8,rfl⟩;walk_at "rd";have lo:=fD c i n;have at_:=Fy lo.1 lo.2;unfold kY at at_ lo;rw[e2]at at_ lo;exact(.inl (by decide,by decide),(by lia,by lia),.inl (by lia,by lia),.inr (by split<;>exact(by decide,by decide)),by split<;>decide,by rw[sizeLine_eq];decide +kernel,_,at_,by rw[gZ,sizeLine_eq];show n+1<=_;lia,by rw[pq];unfold kY;rw[e2])
  ·rintro Z H' ⟨rfl,b6,b7,b8,rfl⟩;walk_at "rd";rw[<-e1];exact k
 ·have hc:¬c/256%3=0:=by simpa using hc
  have e1:ia c i=1+c%16:=by unfold ia;rw[if_neg hc]
  have e2:rL c=c/16%(1+c%16):=by unfold rL;rw[if_neg hc]
  refine AF.of (by lia) (by lia) (λn Z H'=>H'=H/\∃b6 b7 b8,Z=[some (.int c),some (.int i),some (.str signs),some (.int (1+c%16)),some (.int (c/16%(1+c%16))),some (.str (lQ c i n)),b6,b7,b8]) (rfl,_,_,_,rfl) ?_ ?_
  ·rintro n Z H' hn ⟨rfl,b6,b7,b8,rfl⟩;walk_at "rd";have lo:=fD c i n;have at_:=Fy lo.1 lo.2;unfold kY at at_ lo;rw[e2]at at_ lo;exact(.inl (by decide,by decide),(by lia,by lia),.inl (by lia,by lia),.inr (by split<;>exact(by decide,by decide)),by split<;>decide,by rw[sizeLine_eq];decide +kernel,_,at_,by rw[gZ,sizeLine_eq];show n+1<=_;lia,by rw[pq];unfold kY;rw[e2])
  ·rintro Z H' ⟨rfl,b6,b7,b8,rfl⟩;walk_at "rd";rw[<-e1];exact k
def QH(T:Txt K mg A):Z0 P w mg base T.Dq 2 vf:=by
 refine T.Dq.ok kW ?_ ?_;walk_at "k"
 let(c,n,rfl,k):=h;refine(_,(aL (pS 2 kW.nd (aA dt (pv 0) af)) (aL (pS 3 kW.nd (aA fZ (pv 0) af)) (aL (pS 4 kW.nd (mf (eI bQ (aA dt (aA fZ (pv 3) af) af) af (aE _)) (v9 (eI jg (aA dt (pv 3) af) af (aE _))))) (aL (pS 5 kW.nd (aA ml (aA dt (aA fZ (pv 3) af) af) af)) (aL (pS 6 kW.nd (bX (eM (K:=K) rfl) (aF (ai aH (ai aH (ai aH (ai aH (ai aH aa)))))) (aA dt (pv 3) af) (λ_ _=>rfl))) (aL (aQ (bI bQ (pv 2) af (aE _)) (aU (aw bW)) bN) (aU (aw (aR (ai (pv 6) (ai (cF (lx T) 'a' rfl T.lJ T.d0.kp T.d0.b .nil aC (ai (pv 1) (ai (aA dt (aA fZ (pv 3) af) af) aa))) (ai (pv 5) (ai (pv 4) aa))))))))))))),?_);walk_at "rd";have five:∀(p:Addr) (sf:Bool) (add:Int),H p=none->(sf=true->c/9%5<3) -> -2147483648<=add->add<2147483648->
   (0:Int)<5/\∃x,az K (upd H p (HO.lst [V.str s!"whole",V.str s!"high",V.str s!"low",V.str s!"near",V.str s!"split"])) p x/\
    ∃x_1,gz x (c/9%5)=some x_1/\
     if decide (c%9=2)=true then Q V.bw (upd H p (HO.lst [V.str s!"whole",V.str s!"high",V.str s!"low",V.str s!"near",V.str s!"split"]))
     else Oi (c/9) 5/\(0:Int)<12/\4<=sizeLine/\∀(p_1:Addr),
      upd H p (HO.lst [V.str s!"whole",V.str s!"high",V.str s!"low",V.str s!"near",V.str s!"split"]) p_1=none->
      Q (V.ref p_1) (upd (upd H p (HO.lst [V.str s!"whole",V.str s!"high",V.str s!"low",V.str s!"near",V.str s!"split"])) p_1 (HO.tup [x_1,V.str (nameOf n (c/9/5%12)),V.int add,V.bl sf])):=by
  intro p sf add hp hsf h1 h2;refine(by decide,_,az.of ax,?_);obtain⟨z,hz,hT,hS⟩:∃z:Str,gz [V.str s!"whole",V.str s!"high",V.str s!"low",V.str s!"near",V.str s!"split"] (c/9%5)=some (V.str z)/\Xp z/\(c/9%5<3->z=s!"whole" \/ z=s!"high" \/ z=s!"low"):=by
   have hd:c/9%5=0\/c/9%5=1\/c/9%5=2\/c/9%5=3\/c/9%5=4:=by lia
   rcases hd with e|e|e|e|e<;>rw[e]
   ·exact(_,rfl,.inl rfl,λ_=>.inl rfl)
   ·exact(_,rfl,.inr (.inl rfl),λ_=>.inr (.inl rfl))
   ·exact(_,rfl,.inr (.inr (.inl rfl)),λ_=>.inr (.inr rfl))
   ·exact(_,rfl,.inr (.inr (.inr (.inl rfl))),λh=>absurd h (by decide))
   ·exact(_,rfl,.inr (.inr (.inr (.inr rfl))),λh=>absurd h (by decide))
  refine(_,hz,cH (λ_=>(k _ λb o e=>?_).1) (λ_=>((by decide,by decide),by decide,by walk_at "s", λq hq=>?_)))
  ·rw[ae (bD e hp)];exact e
  ·have hqp:q≠p:=λe=>by rw[e,ax]at hq;cases hq
   have hq':H q=none:=by rw[ae hqp]at hq;exact hq
   refine(k _ λb o e=>?_).2 (q,0,z,nameOf n (c/9/5%12),add,sf) (hT,(_,by lia,by lia,rfl),by show(0:Int)<=0;decide,by show(0:Int)<(1:Nat);decide,h1,h2,λh=>hS (hsf h)) ax hq';rw[ae (bD e hq'),ae (bD e hp)];exact e
 refine(by decide,(by decide,by decide),(by decide,by decide),by decide,cH (λ_=>(by decide,(by decide,by decide),by decide,by walk_at "s", λp hp=>?_)) (λhs=>((by decide,by decide),by decide,by walk_at "s", λp hp=>?_)))
 ·refine five p _ _ hp (λh=>of_decide_eq_true h) ?_ ?_<;>lia
 ·refine five p _ _ hp (λh=>absurd h (by decide)) ?_ ?_<;>lia
def fb{α:Type}{xs:List α}{x:α}:gz (xs++[x]) (-1)=some x:=by
 unfold gz A1;rw[if_neg (by decide),if_pos (by simp;omega)];show(xs++[x])[(-1+((xs++[x]).length:Int)).toNat]?=some x;have e:(-1+((xs++[x]).length:Int)).toNat=xs.length:=by simp;lia
 rw[e];simp
def yp{z:Str}{xs:List Str}:OU (.str z) (xs.map V.str)=true↔z∈xs:=by
 unfold OU;rw[Le,nZ];constructor
 ·rintro⟨y,hy,e⟩;have:y=z:=by simpa [Function.comp,A3] using e
  exact this▸hy
 ·intro h;exact(z,h,by simp[Function.comp,A3])
def Ij:∃z:Str,gz [V.str s!"tell",V.str s!"weak",V.str s!"own"] (c%3)=some (V.str z)/\isSort z:=by
 have hd:c%3=0\/c%3=1\/c%3=2:=by lia
 rcases hd with e|e|e<;>rw[e]
 ·exact(_,rfl,.inl rfl)
 ·exact(_,rfl,.inr (.inl rfl))
 ·exact(_,rfl,.inr (.inr rfl))
def NR(m:Nat):HT.sIx (m+1) (m+1) (some (-1))=m:=by
 unfold HT.sIx;simp;try lia
def gO:Option HO->D
 |some (.tup [.str n,.str s])=>.tup [.str n,.str s]
 |_=>.bw
def jy(n:aq):Option HO:=some (.tup [.str n.name,.str n.sort])
def jP{H:Hp}{as:List Addr}{ns:List aq}(e:as.map H=ns.map jy){a:Addr}(ha:a∈as):∃n∈ns,H a=jy n:=by
 have h:H a∈ns.map jy:=by rw[<-e];exact aK.mpr (a,ha,rfl)
 let(n,hn,q):=aK.mp h;exact(n,hn,q.symm)
def pA{H H':Hp}{as:List Addr}{ns:List aq}(e:as.map H=ns.map jy)(s:∀a∈as,∀o,H a=some o->H' a=some o):as.map H'=ns.map jy:=by
 rw[<-e];refine xh λa ha=>?_;let(n,_,q):=jP e ha;rw[s a ha _ q,q];rfl
def P_(T:Txt K mg A):Z0 P w mg base T.Be 2 (Av K):=by
 refine T.Be.ok kK ?_ ?_;walk_at "k"
 let(L,c,n,ps,p,ss,st,sb,rfl,hP,hst,b1,b2,b3,b4,b5,k0,k1):=h
 refine(_,(aL (pS 4 kK.nd (bX (eM (K:=K) rfl) (pv 0) (kz hW af) (λ_ _=>rfl))) (aL (pS 5 kK.nd (cF (lx T) 'a' rfl T.lJ T.d0.kp T.d0.b .nil aC (ai (pv 2) (ai (aA dt (aA fZ (pv 1) af) af) aa)))) (aL (aQ (bI (yH (K:=K) rfl) (pv 5) (cN (gX ["_law_row"]) rfl (fh (K:=K) rfl (tx K (pv 4))) (λ_ _ _=>((pn 0 'g'),bR,'r'))) (by with_unfolding_all rfl)) (aU sC) bN) (aL (pS 6 kK.nd (bX (eM (K:=K) rfl) (aF (ai aH (ai aH (ai aH aa)))) (aA dt (pv 1) af) (λ_ _=>rfl))) (aL (pF (fh (K:=K) rfl (gk (jI (K:=K) rfl) (pv 0) jB (ff (kz hW af)))) (pn 7 kK.nd) (aU (aQ (PW.pt (gC (bI bQ (pv 6) aH (aE _)) (gC (kO (dj (pv 3))) (gD (bI (Iy hr.units (K:=K) rfl) (aR (ai (pv 5) (ai aH aa))) (cN (gX ["_law_row"]) rfl (fh (K:=K) rfl (tx K (pv 7))) (λ_ _ _=>((pn 0 'g'),bR,(gk (yW (K:=K) rfl) (pv 0) jB (ff af))))) (by with_unfolding_all rfl)))))) (aU (pS 6 kK.nd aH)) bN))) (aU (dB (cT (tx K (pv 4)) (ai (aR (ai (pv 5) (ai (pv 6) (ai (aA ml (bV (kG (K:=K) rfl) (by rfl) T.f9 dS (ai (tx K (pv 4)) aa)) af) (ai (bV (kG (K:=K) rfl) (by rfl) T.f9 dS (ai (tx K (bX (eM (K:=K) rfl) (tx K (pv 4)) (kz hW af) (λ_ _=>rfl))) aa)) aa))))) aa))))))))),?_)
 walk_at "rd";have hp:=hP.at_ p (by simp);refine(_,az.of hP.top,V.ref p.t,by rw[aV];exact fb,(by decide,by decide),by decide,p.t,rfl,_,bc.of hp.top,_,rfl,?_);refine b_.of 'd' (az.of hp.nl) (λD i ys H'=>ys=(p.aM.take i).map (λm=>V.str m.name)/\H'=upd H D (.lst ys)) (λD hD=>(rfl,rfl)) (λD i ys H' hD hi (e1,e2)=>?_) (λD i x ys H' hD hx (e1,e2)=>?_) (λD ys H' hD (e1,e2)=>?_)
 ·subst e2;refine(az.of (by rw[ae (bD hp.nl hD)];exact hp.nl),ax,?_);rw[e1,aD];exact List.length_take_le ..
 ·subst e2;walk_at "0";let(m,hm,rfl):=fC.mp hx;have ma:=hp.ns m (dZ hm);walk_at "rd";refine(.no .nil,_,bc.of (by rw[ae (bD ma hD)];exact ma),_,rfl,ax,?_,IY);rw[e1,gY,hm,aV];rfl
 ·subst e2;have e3:ys=(p.aM.map aq.name).map V.str:=by rw[e1,aD,g9,d9];rfl
  refine(D,rfl,ys,.inl (az.of ax),rfl,?_,cH (λ_=>k0 _ (aJ hD)) (λhin=>(by rw[sizeLine_eq];decide,λp1 h1=>?_)))
  ·rw[e3,List.all_map];exact List.all_eq_true.mpr λ_ _=>rfl
  ·let(z,hz,hs):=Ij (c:=c);have sm:au H (upd (upd H D (.lst ys)) p1 (.lst [V.str s!"tell",V.str s!"weak",V.str s!"own"])):=(aJ hD).trans (aJ h1);refine(by decide,_,az.of ax,_,hz,_,az.of (sm _ _ hP.top),λp2 h2=>?_);have sm2:=sm.trans (aJ (o:=HO.lst (hJ ((ps++[p]).map aj.v) none (some (-1)))) h2);generalize hH4:upd (upd (upd H D (.lst ys)) p1 (.lst [V.str s!"tell",V.str s!"weak",V.str s!"own"])) p2 (HO.lst (hJ ((ps++[p]).map aj.v) none (some (-1))))=H4 at *;have hl4:H4 p2=some (HO.lst (hJ ((ps++[p]).map aj.v) none (some (-1)))):=by rw[<-hH4];exact ax
   have ecut:hJ ((ps++[p]).map aj.v) none (some (-1))=ps.map aj.v:=by
    unfold hJ;have e:HT.sIx ((ps++[p]).map aj.v).length ((ps++[p]).map aj.v).length (some (-1))=ps.length:=by
     rw[aD,cw,Hu];exact NR ps.length
    have e0:HT.sIx ((ps++[p]).map aj.v).length 0 none=0:=rfl;rw[e,e0,List.drop_zero,Nat.sub_zero,aV,QE (by rw[aD];exact bJ _),TH (by rw[aD];exact bJ _)]
   rw[ecut]at hl4;have tl:z=s!"tell" \/ z≠s!"tell" := Decidable.em _;refine dI.of (xs:=ps.map aj.v) (λi Z H'=>∃(zz:Str) (b7:Option V),Z=[some (V.ref L),some (V.int c),some (V.int n),some (V.bl sb),some (V.ref p.t),some (V.str (nameOf n (c/9%12))),some (V.str zz),b7]/\au H4 H'/\isSort zz) (z,_,rfl,au.refl _,hs) (λi Z H' _ (_,_,_,s5,_)=>az.of (s5 _ _ hl4)) ?_ ?_
   ·rintro i x Z H' hx ⟨zz,b7,rfl,s5,hzz⟩;walk_at "0";let(ot,hot,rfl):=fC.mp hx;have om:=dZ hot;have oa:=((hP.at_ ot (eD _ om)).mono sm2).mono s5;cases sb with
    |true=>
     walk_at "rd";split<;>exact(s5,hzz)
    |false=>
    walk_at "rd";refine cH (λh1=>?_) (λh1=>(s5,hzz));refine(by rw[sizeLine_eq];decide,λq hq=>(_,bc.of (aJ hq _ _ oa.top),_,rfl,?_));have sq:=aJ (o:=HO.tup [V.str (nameOf n (c/9%12)),V.str s!"tell"]) hq;have hqq:=@ax H' q (HO.tup [V.str (nameOf n (c/9%12)),V.str s!"tell"]);have oa3:=oa.mono sq;have s53:=s5.trans sq;generalize upd H' q _=H3 at *;refine b_.of (xs:=ot.aM.map aq.v) (by rw[aD,sizeLine_eq];have:=b5 ot om;lia) (az.of oa3.nl) (λD i ys H6=>au H3 H6/\H6 D=some (.lst ys)/\∃as:List Addr,ys=as.map V.ref/\as.map H6=(ot.aM.take i).map jy)
     (λD hD=>(aJ hD,ax,[],rfl,rfl)) ?_ ?_ ?_
    ·rintro D i ys H6 hD hi ⟨s6,hDD,as,rfl,e⟩;refine(az.of (s6 _ _ oa3.nl),hDD,?_);have h:=congrArg List.length e;rw[aD,aD,lA]at h;rw[aD];lia
    ·rintro D i x ys H6 hD hx ⟨s6,hDD,as,rfl,e⟩;walk_at "0";let(n',hn,rfl):=fC.mp hx;have na:=s6 _ _ (oa3.ns n' (dZ hn));have tk':(ot.aM.take (i+1))=ot.aM.take i++[n']:=by rw[gY,hn];rfl
     walk_at "rd";refine(.no .nil,_,bc.of na,λz=>absurd (show HT.sIx 4 4 (some 2)=4 from z.2) (by decide),λq2 hq2=>(by rw[ae (bD hDD hq2)];exact hDD,cg hD (s6.trans (aJ hq2)),ax,as++[q2],by rw[aV];rfl,?_));rw[tk',aV,aV];congr 1
     ·refine pA e λa ha o ho=>?_;let(_,_,q'):=jP e ha;have nD:a≠D:=λz=>by rw[z,hDD]at q';cases q'
      rw[ae nD,ae (bD ho hq2)];exact ho
     ·show [upd (upd H6 q2 _) D _ q2]=[jy n'];rw[ae (Ne.symm (bD hDD hq2)),ax];rfl
    ·rintro D ys H6 hD ⟨s6,hDD,as,rfl,e⟩;walk_at "1";refine(D,rfl,as,az.of hDD,λa=>gO (H6 a),λa ha=>?_,.tup [.str (nameOf n (c/9%12)),.str s!"tell"],?_,cH (λh2=>(s53.trans s6,.inr (.inl rfl))) (λh2=>(s53.trans s6,hzz)))
     ·let(n',_,q'):=jP e ha;show Rep K H6 (gO (H6 a)) (V.ref a)/\dep (gO (H6 a))<=20;rw[q'];refine(?_,by simp[gO,jy,dep,depL]);simp only[gO,jy,Rep];exact(_,_,rfl,bc.of q',by simp[RepL,Rep])
     ·simp only[Rep];exact(_,_,rfl,bc.of (s6 _ _ hqq),by simp[RepL,Rep])
   ·rintro Z H' ⟨zz,b7,rfl,s5,hzz⟩;have sm2:=sm2.trans s5;walk_at "rd";have hs':=hp.ss st (by rw[hst];simp);refine(_,bc.of (sm2 _ _ hp.top),_,rfl,.inl (rfl,_,az.of (sm2 _ _ hp.nl)),_,bc.of (sm2 _ _ hp.top),_,rfl,p.ba.length,.inl (_,az.of (sm2 _ _ hp.sl),by simp),_,bc.of (sm2 _ _ hp.top),_,rfl,p.ls,rfl,_,az.of (sm2 _ _ hp.sl),st.v,(by rw[hst,List.map_append];exact fb),st.t,rfl,_,bc.of (sm2 _ _ hs'.top),_,rfl,st.words.length,.inl (_,az.of (sm2 _ _ hs'.wd),by simp),by walk_at "s", λm hm=>(p.ln,rfl,p.aM.map aq.v,?_,?_,?_))
    ·rw[ae (bD (sm2 _ _ hp.nl) hm)];exact sm2 _ _ hp.nl
    ·rw[aD,sizeLine_eq];lia
    ·refine k1 (m,nameOf n (c/9%12),zz,(p.ba.length:Int) - 1,st.words.length) _ (sm2.trans (aJ hm)) ax (_,by lia,by lia,rfl) (λhn=>hin ?_) hzz ?_ rfl
     ·rw[e3];exact yp.mpr hn
     ·show(p.ba.length:Int) - 1=ss.length;rw[hst,cw];simp
theorem iY.empty:iY c (t,ls,ln,nm,[],[]):=(λs hs=>absurd hs (by simp),λn hn=>absurd hn (by simp),by simp)
def Drawn.push(d:Drawn c t i ps)(h:ps.length<12):Drawn c t (i+1) (ps++[(a,ls,ln,nameOf t ps.length,[],[])]):=by
 refine(λp hp=>?_,by rw[cw];simp;lia,?_,?_)
 ·rcases bT.mp hp with z|z
  ·exact d.ok p z
  ·rw[bU.mp z];exact iY.empty
 ·rw[aV,d.names,cw,Hu,List.range_succ,aV];rfl
 ·have:=d.size;rw[aV,O6];simp[aj.size];exact this
def Drawn.last(d:Drawn c t i (ps++[p]))(h:iY c p')(hn:p'.name=p.name)(hs:p'.size<=p.size+1):Drawn c t (i+1) (ps++[p']):=by
 refine(λq hq=>?_,by have:=d.cY;simpa using this,?_,?_)
 ·rcases bT.mp hq with z|z
  ·exact d.ok q (eD _ z)
  ·rw[bU.mp z];exact h
 ·have:=d.names;simpa [hn] using this
 ·have:=d.size;rw[aV,O6]at this ⊢;simp at this ⊢;lia
def Drawn.nJ(d:Drawn c t i (ps++[p])):p.size<=i:=by
 have:=d.size;rw[aV,O6]at this;simp at this;lia
def Ls{ps:List aj}{p:aj}(h:p∈ps):p.size<=(ps.map aj.size).sum:=by
 induction ps with
 |nil=>cases h
 |cons q r ih=>
  rw[iS,List.sum_cons];rcases eP.mp h with e|e
  ·rw[e];lia
  ·have:=ih e;lia
def Drawn.Vi(d:Drawn c t i ps)(h:p∈ps)(hi:i<61):p.aM.length<=61:=by
 have h1:=Ls h;have h2:=d.size;have h3:p.aM.length<=p.size:=by unfold aj.size;lia
 lia
theorem Drawn.keep{c t:Int}{i:Nat}{ps:List aj}(d:Drawn c t i ps):Drawn c t (i+1) ps:=(d.ok,d.cY,d.names,OX d.size)
def iY.HD(h:iY c p)(hs:oK c s):iY c { p with ba:=p.ba++[s] }:=by
 refine(λr hr=>?_,λn hn=>?_,h.nd)
 ·rcases bT.mp hr with z|z
  ·exact h.ba r z
  ·rw[bU.mp z];exact hs
 ·let(a,b,k,r,e,q):=h.aM n hn;exact(a,b,k,r,by rw[u6 (fA.mp e).1];exact e,q)
def iY.mC(h:iY c p)(e:p.ba=ss++[s])(hs:oK c s')(hw:s.words.length<=s'.words.length):iY c { p with ba:=ss++[s'] }:=by
 refine(λr hr=>?_,λn hn=>?_,h.nd)
 ·rcases bT.mp hr with z|z
  ·exact h.ba r (by rw[e];exact eD _ z)
  ·rw[bU.mp z];exact hs
 ·let(a,b,k,r,g,q1,q2,q3):=h.aM n hn;rw[e]at g;by_cases hk:k<ss.length
  ·rw[u6 hk]at g;exact(a,b,k,r,by show(ss++[s'])[k]?=some r;rw[u6 hk];exact g,q1,q2,q3)
  ·rw[zc (by lia)]at g;have hk0:k - ss.length=0:=by
    have:=(fA.mp g).1;simp at this;lia
   rw[hk0]at g;simp at g;subst g;exact(a,b,k,s',by show(ss++[s'])[k]?=some s';rw[zc (by lia),hk0];rfl,q1,q2,Int.le_trans q3 (by lia))
def iY.told(h:iY c p)(hm:BV c p.ba m)(hn:m.name∉p.aM.map aq.name):iY c { p with aM:=p.aM++[m] }:=by
 refine(h.ba,λn hn=>?_,?_)
 ·rcases bT.mp hn with z|z
  ·exact h.aM n z
  ·rw[bU.mp z];exact hm
 ·show((p.aM++[m]).map aq.name).Nodup;rw[aV];refine i6.mpr (h.nd,by simp,λx hx y hy e=>?_);have:y=m.name:=by simpa using hy
  subst this;exact hn (e▸hx)
def step_at:∃z:Int,gz [V.int 1,V.int 1,V.int 2,V.int 4,V.int 1,V.int 2] (v%6)=some (V.int z)/\(z=1\/z=2\/z=4\/z=16\/z=65536):=by
 have hd:v%6=0\/v%6=1\/v%6=2\/v%6=3\/v%6=4\/v%6=5:=by lia
 rcases hd with e|e|e|e|e|e<;>rw[e]<;>exact(_,rfl,by decide)
def Ho:∃z:Str,gz [V.str s!"code",V.str s!"data"] (v%2)=some (V.str z)/\DZ z:=by
 have hd:v%2=0\/v%2=1:=by lia
 rcases hd with e|e<;>rw[e]
 ·exact(_,rfl,.inl rfl)
 ·exact(_,rfl,.inr rfl)
def qh{p:aj}{ss:List br}{s:br}(e:p.ba=ss++[s]):s.words.length+p.ba.length+p.aM.length<p.size:=by
 unfold aj.size;rw[e,aV,O6];simp;lia
def yQ{p:aj}{ss:List br}{s s':br}(e:p.ba=ss++[s])(h:s'.words.length=s.words.length+1):({ p with ba:=ss++[s'] }:aj).size<=p.size+1:=by
 unfold aj.size;rw[e,aV,O6,aV,O6];simp[h];lia
def oK.word(h:oK c s)(h1:0<=wd)(h2:wd<4294967296):oK c { s with words:=s.words++[wd] }:=by
 refine(h.kind,h.step,λi hi=>?_,λf hf=>?_,h.asc,?_)
 ·rcases bT.mp hi with z|z
  ·exact h.words i z
  ·rw[bU.mp z];exact(h1,h2)
 ·have g:=h.fills f hf;exact(g.rule,g.name,g.lo,by have:=g.hi;show f.at_<((s.words++[wd]).length:Int);rw[cw];simp;lia,g.FW,g.Ci,g.soft)
 ·have:=h.cY;show s.fills.length<=(s.words++[wd]).length;rw[cw];simp;lia
def oK.fill{c:Int}{s:br}{f:ay}{wd:Int}(h:oK c s)(hf:vO c 1 { f with at_:=0 })(ha:f.at_=s.words.length)(h1:0<=wd)(h2:wd<4294967296):oK c { s with fills:=s.fills++[f],words:=s.words++[wd] }:=by
 have w:=h.word h1 h2;refine(h.kind,h.step,w.words,λg hg=>?_,?_,?_)
 ·rcases bT.mp hg with z|z
  ·exact w.fills g z
  ·rw[bU.mp z];exact(hf.rule,hf.name,by lia,by show f.at_<((s.words++[wd]).length:Int);rw[cw];simp;lia,hf.FW,hf.Ci,hf.soft)
 ·show(s.fills++[f]).Pairwise _;refine List.pairwise_append.mpr (h.asc,by simp,λg hg y hy=>?_);rw[bU.mp hy,ha];exact(h.fills g hg).hi
 ·have:=h.cY;show(s.fills++[f]).length<=(s.words++[wd]).length;rw[cw,cw];simp;lia
def Rc(T:Txt K mg A):Z0 P w mg base T.BQ 3 (Dh K):=by
 refine T.BQ.ok jq ?_ ?_;walk_at "k"
 let(a,ns,c,t,sb,rfl,hS,hl,k):=h
 refine(_,(aL (pS 4 jq.nd (aF aa)) (aL (pF (fh (K:=K) rfl (pv 0)) (pn 5 jq.nd) (aL (pS 6 jq.nd (aA dt (pv 5) af)) (aU (aQ (xZ (u:=XM) (PW.pt (Ge (PW.pt (gC (bI bQ (pv 6) af (aE _)) (gD (bI jg (bV (kG (K:=K) rfl) (by rfl) T.f9 dS (ai (pv 4) aa)) af (aE _))))) (vY (bI (qH hr.units (K:=K) rfl) (pv 4) (aF aa) (aE _))))) ?wt1) (dE (u:=XA) (aU (dB (cT (pv 4) (ai (aR (ai (cF (lx T) 'a' rfl T.lJ T.d0.kp T.d0.b .nil aC (ai (pv 2) (ai (bV (kG (K:=K) rfl) (by rfl) T.f9 dS (ai (pv 4) aa)) aa))) (ai (aF aa) (ai (aF aa) aa)))) aa)))) ?wb1) (aU (aQ (xZ (u:=X2) (PW.pt (Ge (bI jg (pv 6) af (aE _)) (vY (bI (qH hr.units (K:=K) rfl) (tx K (bX (eM (K:=K) rfl) (pv 4) (kz hW af) (λ_ _=>rfl))) (aF aa) (aE _))))) ?wt2) (dE (u:=X_) (aL (pS 7 jq.nd (bX (eM (K:=K) rfl) (aF (ai af (ai af (ai af (ai af (ai af (ai af aa))))))) (aA dt (aA fZ (pv 5) af) af) (λ_ _=>rfl))) (aU (dB (cT (tx K (bX (eM (K:=K) rfl) (pv 4) (kz hW af) (λ_ _=>rfl))) (ai (aR (ai (bX (eM (K:=K) rfl) (aF (ai aH (ai aH aa))) (aA dt (aA fZ (pv 5) af) af) (λ_ _=>rfl)) (ai (pv 7) (ai (aF aa) (ai (aF aa) aa))))) aa))))) ?wb2) (aU (aQ (bI jg (pv 6) af (aE _)) (dE (u:=XG) (aL (pS 8 jq.nd (bX (eM (K:=K) rfl) (tx K (bX (eM (K:=K) rfl) (pv 4) (kz hW af) (λ_ _=>rfl))) (kz hW af) (λ_ _=>rfl))) (aL (pS 9 jq.nd (cF (QH T) 'a' rfl T.PV T.Dq.kp T.Dq.b .nil aC (ai (pv 5) (ai (pv 1) aa)))) (aL (aQ (bI mh (pv 9) bW (aE _)) (aU (dB (cT (tx K (pv 8)) (ai (aA (Gb (K:=K) rfl) (aR (ai (bV (kG (K:=K) rfl) (by rfl) T.f9 dS (ai (tx K (pv 8)) aa)) aa)) (pv 9)) aa)))) bN) (aU (dB (cT (tx K (pv 8)) (ai (aA dt (aA jG (pv 5) af) af) aa))))))) ?wb3) (dE (u:=YB) (aU (dB (cF (P_ T) 'a' rfl T.QU T.Be.kp T.Be.b .nil aC (ai (pv 4) (ai (pv 5) (ai (pv 1) (ai (pv 3) aa))))))) ?wb4))))))))) (aU (aw (pv 4))))),?main)
 case wt1=>
  rintro Z H R ⟨H0,a,L,c,t,v,i,ps,⟨⟨sb,b7,b8,b9,rfl⟩,sm,hP,hf,hd,hi⟩,k⟩;walk_at "rd";have z:(0:Nat)<=sizeLine:=d6 _;have eqd:∀q,H q=none->MD K (V.ref L) (V.ref q) (upd H q (HO.lst [])) λx H'=>∃k,x=V.bl k/\R k H':=λq hq=>by
   refine(ps.map aj.d,[],.inl ((hP.mono (aJ hq)).rep,(q,[],rfl,az.of ax,by simp[RepL])),Nat.le_trans (cG λp _=>sD p) (by decide),_,rfl,k _ _ (aJ hq) (λh=>?_) λh e=>?_)
   ·rw[nU]at h;have e:=of_decide_eq_true h;rw[List.map_eq_nil_iff.mp e];decide
   ·rw[nU,e]at h;simp at h
  exact cH (λ_=>(ps.length,.inl (_,az.of hP.top,by simp),cH (λh=>k true H (au.refl _) (λ_=>by have:=of_decide_eq_true h;lia) (λh=>by cases h)) (λ_=>(z,eqd)))) (λ_=>(z,eqd))
 case wt2=>
  rintro Z H R ⟨H0,a,L,c,t,v,i,ps,p,⟨⟨sb,b7,b8,b9,rfl⟩,sm,hP,hf,hd,hi⟩,k⟩;walk_at "rd";have hp:=hP.at_ p (by simp);refine cH (λ_=>k true H (au.refl _) (λh=>by cases h)) (λ_=>(_,az.of hP.top,V.ref p.t,by rw[aV];exact fb,p.t,rfl,_,bc.of hp.top,_,rfl,d6 _,λq hq=>?_));refine(p.ba.map br.d,[],.inl ((p.ls,_,rfl,az.of (aJ hq _ _ hp.sl),RepL.map λs hs=>((hp.ss s hs).mono (aJ hq)).rep),(q,[],rfl,az.of ax,by simp[RepL])),Nat.le_trans (cG λp _=>El p) (by decide),_,rfl,k _ _ (aJ hq) λh e=>?_);rw[nU,e]at h;simp at h
 case wb1=>
  rintro D Z H ⟨H0,a,L,c,t,v,i,ps,⟨⟨sb,b7,b8,b9,rfl⟩,sm,hP,hf,hd,hi⟩,hz,k⟩;walk_at "rd";refine(.inl (rfl,_,az.of hP.top),ps.length,.inl (_,az.of hP.top,by simp),Nat.zero_le _,λls h1=>(Nat.zero_le _,λln h2=>(by rw[sizeLine_eq];decide,λtt h3=>?_)));let(n2,h2'):=cz h2;let(n3,h3a):=cz h3;let(n4,h3'):=cz h3a;have s3:=((aJ (o:=HO.lst []) h1).trans (aJ (o:=HO.lst []) h2)).trans (aJ (o:=HO.tup [V.str (nameOf t (ps.length:Int)),V.ref ls,V.ref ln]) h3);refine(_,s3 _ _ hP.top,by rw[aD,sizeLine_eq];lia,?_);have hL0:=hf L mm;refine k _ _ _ (_,_,_,_,_,_,rfl) (cg hL0 (sm.trans s3)) ((hP.mono s3).Fd ax (by rw[ae (Ne.symm n4),ae (Ne.symm n2),ax]) (by rw[ae (Ne.symm n3),ax]) (Ne.symm n2) (hP.fresh h1) (hP.fresh h2')) (λb hb=>?_) (hd.push hz);rw[i5,<-NZ]at hb;rcases bT.mp hb with e|e
  ·exact hf b e
  ·simp[aj.lists]at e;rcases e with e|e
   ·rw[e];exact sm.free h1
   ·rw[e];exact sm.free h2'
 case wb2=>
  rintro D Z H ⟨H0,a,L,c,t,v,i,ps,p,⟨⟨sb,b7,b8,b9,rfl⟩,sm,hP,hf,hd,hi⟩,k⟩;walk_at "rd";have hp:=hP.at_ p (by simp);have hsz:=hd.nJ;let(z,hz,hz'):=step_at (v:=v/9);let(kd,hk,hk'):=Ho (v:=v/54);refine(by rw[sizeLine_eq];decide,λq1 h1=>((by decide,by decide),by decide,_,az.of ax,_,hz,_,az.of (aJ h1 _ _ hP.top),V.ref p.t,by rw[aV];exact fb,p.t,rfl,_,bc.of (aJ h1 _ _ hp.top),_,rfl,.inl (rfl,_,az.of (aJ h1 _ _ hp.sl)),by walk_at "s", λq2 h2=>((by decide,by decide),by decide,_,az.of ax,_,hk,d6 _,λlw h3=>(d6 _,λlf h4=>(by rw[sizeLine_eq];decide,λtt h5=>(p.ls,rfl,?_))))));have s2:=(aJ (o:=HO.lst [V.int 1,V.int 1,V.int 2,V.int 4,V.int 1,V.int 2]) h1).trans (aJ (o:=HO.lst [V.str s!"code",V.str s!"data"]) h2);generalize upd (upd H q1 (HO.lst [V.int 1,V.int 1,V.int 2,V.int 4,V.int 1,V.int 2])) q2 _=H2 at *;let(n4,h4'):=cz h4;let(n5,h5a):=cz h5;let(n6,h5'):=cz h5a;have sA:=s2.trans (((aJ (o:=HO.lst []) h3).trans (aJ (o:=HO.lst []) h4)).trans (aJ (o:=HO.tup [V.str kd,V.int z,V.ref lw,V.ref lf]) h5));refine(_,sA _ _ hp.sl,by rw[aD,sizeLine_eq];unfold aj.size at hsz;lia,?_);walk_at "2"
  refine k _ _ _ (_,_,_,_,_,_,rfl) (cg (hf p.ls (mem _ (by simp[aj.lists]))) (sm.trans sA)) ((hP.mono sA).w6 ax (by rw[ae (Ne.symm n6),ae (Ne.symm n4),ax]) (by rw[ae (Ne.symm n5),ax]) (Ne.symm n4) ((hP.mono s2).fresh h3) ((hP.mono s2).fresh h4')) (λb hb=>?_) (hd.last ((hd.ok p (by simp)).HD (hk',hz',by simp,by simp,by simp,by simp)) rfl ?_)
  ·have hb':b∈L::bh (ps++[p])\/b=lw\/b=lf:=by
    rw[i5]at hb ⊢;simp only[aj.lists,List.flatMap_append,List.mem_cons,List.mem_append,List.flatMap_cons,List.flatMap_nil,br.lists,List.append_nil,List.not_mem_nil,or_false]at hb ⊢
    grind
   rcases hb' with e|e|e
   ·exact hf b e
   ·rw[e];exact(sm.trans s2).free h3
   ·rw[e];exact(sm.trans s2).free h4'
  ·unfold aj.size;simp;lia
 case wb3=>
  rintro D Z H ⟨H0,a,L,c,t,v,i,ps,p,ss,s,⟨⟨sb,b7,b8,b9,rfl⟩,sm,hP,hf,hd,hi⟩,hs,k⟩;walk_at "rd";have hp:=hP.at_ p (by simp);have hsz:=hd.nJ;have hs':=hp.ss s (by rw[hs];simp);have hw:=qh hs;walk_at "2";refine(_,az.of hP.top,V.ref p.t,by rw[aV];exact fb,p.t,rfl,_,bc.of hp.top,_,rfl,p.ls,rfl,_,az.of hp.sl,s.v,by rw[hs,aV];exact fb,λH' s1=>(?_,λf hf1 hf2 hf3=>?_))
  ·rw[if_neg (by simp)];refine(s.t,rfl,_,bc.of (s1 _ _ hs'.top),_,rfl,.inl (rfl,_,az.of (s1 _ _ hs'.wd)),.inr (by decide,by decide),by decide,s.lw,rfl,_,s1 _ _ hs'.wd,by rw[aD,sizeLine_eq];lia,?_);refine k _ _ _ (_,_,_,_,_,_,rfl) (cg (hf _ (mem _ (by simp[aj.lists,hs,br.lists]))) (sm.trans s1)) ((hP.mono s1).xV hs) (λb hb=>hf b ?_) (hd.last (iY.mC (hd.ok p (by simp)) hs (((hd.ok p (by simp)).ba s (by rw[hs];simp)).word (by lia) (by lia)) (by simp)) rfl (yQ hs (by simp)));rw[i5]at hb ⊢;simpa [aj.lists,hs,br.lists] using hb
  ·rw[if_pos (by simp)];refine(s.t,rfl,_,bc.of (s1 _ _ hs'.top),_,rfl,.inl (rfl,_,az.of (s1 _ _ hs'.fl)),s.t,rfl,_,bc.of (s1 _ _ hs'.top),_,rfl,s.words.length,.inl (_,az.of (s1 _ _ hs'.wd),by simp),by walk_at "s", λq1 h1=>(_,bc.of ax,_,bc.of (aJ h1 _ _ hf2),by simp,by rw[sizeLine_eq];simp,λe=>(by cases e),λ_ q2 h2=>(s.lf,rfl,?_)));have s3:=s1.trans ((aJ (o:=HO.tup [V.int (s.words.length:Int)]) h1).trans (aJ (o:=HO.tup ([V.int (s.words.length:Int)]++[V.str f.rule,V.str f.name,V.int f.add,V.bl f.soft])) h2));have hat:ay.At (upd (upd H' q1 (HO.tup [V.int (s.words.length:Int)])) q2 (HO.tup ([V.int (s.words.length:Int)]++[V.str f.rule,V.str f.name,V.int f.add,V.bl f.soft]))) (q2,s.words.length,f.rule,f.name,f.add,f.soft):=ax;generalize upd (upd H' q1 (HO.tup [V.int (s.words.length:Int)])) q2 (HO.tup ([V.int (s.words.length:Int)]++[V.str f.rule,V.str f.name,V.int f.add,V.bl f.soft]))=H3 at *;have P1:=(hP.mono s3).GR hs hat;have ok:=iY.mC (p:=p) (s':={ s with fills:=s.fills++[(q2,s.words.length,f.rule,f.name,f.add,f.soft)],words:=s.words++[v*48271%4294967296] }) (hd.ok p (by simp)) hs (oK.fill ((hd.ok p (by simp)).ba s (by rw[hs];simp)) (f:=(q2,s.words.length,f.rule,f.name,f.add,f.soft)) (hf1.rule,hf1.name,hf1.lo,hf1.hi,hf1.FW,hf1.Ci,hf1.soft) rfl (by lia) (by lia)) (by simp)
   have sz:=yQ (p:=p) (s':={ s with fills:=s.fills++[(q2,s.words.length,f.rule,f.name,f.add,f.soft)],words:=s.words++[v*48271%4294967296] }) hs (by simp);have a1:=(P1.at_ _ (eW _ (bU.mpr rfl))).ss _ (eW _ (bU.mpr rfl));refine(_,s3 _ _ hs'.fl,by rw[aD,sizeLine_eq];have:=((hd.ok p (by simp)).ba s (by rw[hs];simp)).cY;lia,s.t,rfl,_,bc.of a1.top,_,rfl,.inl (rfl,_,az.of a1.wd),.inr (by decide,by decide),by decide,s.lw,rfl,_,a1.wd,by rw[List.length_map,sizeLine_eq];show s.words.length<_;lia,?_);have P2:=P1.xV (i:=v*48271%4294967296) rfl;refine k (ps++[({ p with ba:=ss++[{ s with fills:=s.fills++[(q2,s.words.length,f.rule,f.name,f.add,f.soft)],words:=s.words++[v*48271%4294967296] }] }:aj)]) _ _ (_,_,_,_,_,_,rfl) (cg (hf _ (mem _ (by simp[aj.lists,hs,br.lists]))) (cg (hf _ (mem _ (by simp[aj.lists,hs,br.lists]))) (sm.trans s3))) (by exact P2) (λb hb=>hf b ?_) (hd.last ok rfl sz);rw[i5]at hb ⊢;simpa [aj.lists,hs,br.lists] using hb
 case wb4=>
  rintro D Z H ⟨H0,a,L,c,t,v,i,ps,p,ss,s,⟨⟨sb,b7,b8,b9,rfl⟩,sm,hP,hf,hd,hi⟩,hs,k⟩;walk_at "rd";have hsz:=hd.nJ;have hw:=qh hs;have hfew:=hd.cY;walk_at "2";refine(ps,p,hP,ss,s,hs,by simp at hfew;lia,by lia,by lia,by lia,λq hq=>hd.Vi (List.mem_append_left _ hq) hi,λH' s1=>k _ _ _ (_,_,_,_,_,_,rfl) (sm.trans s1) (hP.mono s1) hf hd.keep,λm H' s1 hm hn hne hso hst hoff=>?_);refine k _ _ _ (_,_,_,_,_,_,rfl) (cg (hf _ (mem _ (by simp[aj.lists]))) (sm.trans s1)) ((hP.mono s1).Im hm) (λb hb=>hf b ?_) (hd.last ((hd.ok p (by simp)).told (hn,hso,ss.length,s,by rw[hs];simp,hst,by lia,by lia) hne) rfl ?_)
  ·rw[i5]at hb ⊢;exact hb
  ·unfold aj.size;simp;lia
 case main=>
 walk_at "rd";refine(by rw[sizeLine_eq];decide,λL hL=>?_);refine dI.of (xs:=ns.map V.int) (λi Z H'=>∃(sb:Bool) (ps:List aj) (b5 b6 b7 b8 b9:Option V),Z=[some (V.ref a),some (V.int c),some (V.int t),some (V.bl sb),some (V.ref L),b5,b6,b7,b8,b9]/\au H H'/\fK H' L ps/\(∀b∈L::bh ps,H b=none)/\Drawn c t i ps)
  (_,[],_,_,_,_,_,rfl,aJ hL,fK.nil ax,by simpa [bh] using hL,(by simp,by simp,rfl,by simp)) (λi Z H' _ (_,_,_,_,_,_,_,_,sm,_)=>sm.seq hS) ?_ ?_
 ·rintro i x Z H' hx ⟨sb,ps,b5,b6,b7,b8,b9,rfl,sm,hP,hf,hd⟩;walk_at "0";let(v,hv,rfl):=fC.mp hx;have hi:i<61:=kA (fA.mp hv).1 hl;walk_at "rd";have dc:DC H a L c t v i ps [some (V.ref a),some (V.int c),some (V.int t),some (V.bl sb),some (V.ref L),some (V.int v),some (V.int (v%9)),b7,b8,b9] H':=((_,_,_,_,rfl),sm,hP,hf,hd,hi)
  refine(by decide,H,a,L,c,t,v,i,ps,dc,λb H1 s1 ht hn=>?_);cases b with
  |true=>exact(H,a,L,c,t,v,i,ps,dc.mono s1,ht rfl,λps' σ' H'' (sb,b5,b6,b7,b8,b9,e) s1 s2 s3 s4=>(sb,ps',b5,b6,b7,b8,b9,e,s1,s2,s3,s4))
  |false=>
   obtain⟨ps0,p,e⟩:∃ps0 p,ps=ps0++[p]:=by
    rcases List.eq_nil_or_concat ps with e|⟨l,x,e⟩
    ·exact absurd e (hn rfl)
    ·exact(l,x,by rw[e,List.concat_eq_append])
   subst e;refine(H,a,L,c,t,v,i,ps0,p,dc.mono s1,λb H2 s2 hn2=>?_);cases b with
   |true=>exact(H,a,L,c,t,v,i,ps0,p,(dc.mono s1).mono s2,λps' σ' H'' (sb,b5,b6,b7,b8,b9,e) s1 s2 s3 s4=>(sb,ps',b5,b6,b7,b8,b9,e,s1,s2,s3,s4))
   |false=>
    obtain⟨ss,r,e⟩:∃ss r,p.ba=ss++[r]:=by
     rcases List.eq_nil_or_concat p.ba with e|⟨l,x,e⟩
     ·exact absurd e (hn2 rfl)
     ·exact(l,x,by rw[e,List.concat_eq_append])
    by_cases h6:v%9<6
    ·rw[if_neg (by decide),if_pos (decide_eq_true h6)];exact(H,a,L,c,t,v,i,ps0,p,ss,r,(dc.mono s1).mono s2,e,λps' σ' H'' (sb,b5,b6,b7,b8,b9,e) s1 s2 s3 s4=>(sb,ps',b5,b6,b7,b8,b9,e,s1,s2,s3,s4))
    ·rw[if_neg (by decide),if_neg (by simpa using h6)];exact(H,a,L,c,t,v,i,ps0,p,ss,r,(dc.mono s1).mono s2,e,λps' σ' H'' (sb,b5,b6,b7,b8,b9,e) s1 s2 s3 s4=>(sb,ps',b5,b6,b7,b8,b9,e,s1,s2,s3,s4))
 ·rintro Z H' ⟨sb,ps,b5,b6,b7,b8,b9,rfl,sm,hP,hf,hd⟩;rw[aD]at hd;walk_at "rd";exact k L ps H' sm hP hf hd
def QM(T:Txt K mg A):Z0 P w mg base T.CL 1 (xP K):=by
 refine T.CL.ok CO ?_ ?_;walk_at "k"
 let(p,rfl,hp,b1,b2,b3,k):=h;refine(_,(aL (eL (i:=1) CO.nd rfl (by walk_at "o") (gX ["_law_row"]) rfl (fh (K:=K) rfl 'r') (λ_ _ _=>((pn 0 'g'),bR,(aR (ai 'r' (ai 'r' (ai (lO (rO (K:=K) rfl) (by rfl) T.gB eN (ai 'r' aa)) (ai (lO (rO (K:=K) rfl) (by rfl) T.gB eN (ai 'r' aa)) aa)))))))) (aU (aw (aR (ai 'r' (ai (pv 1) (ai (lO (rO (K:=K) rfl) (by rfl) T.gB eN (ai 'r' aa)) aa))))))),?_);walk_at "rd";refine(_,bc.of hp.top,_,rfl,?_);refine b_.of 'd' (az.of hp.sl) (λD i ys H'=>∃qs:List br,ys=qs.map br.v/\qs.map br.core=(p.ba.take i).map br.core/\au H H'/\H' D=some (.lst ys)/\(∀q∈qs,q.At H')/\(∀b∈qs.flatMap br.lists,H b=none/\b≠D)/\(qs.flatMap br.lists).Nodup)
  (λD hD=>([],rfl,rfl,aJ hD,ax,by simp,by simp,by simp)) ?_ ?_ ?_
 ·rintro D i ys H' hD hi ⟨qs,rfl,hc,sm,hDD,_⟩;refine(az.of (sm _ _ hp.sl),hDD,?_);have e:=congrArg List.length hc;rw[aD,aD]at e;rw[aD,e];exact List.length_take_le ..
 ·rintro D i x ys H' hD hx ⟨qs,rfl,hc,sm,hDD,hat,hnew,hnd⟩;walk_at "0";let(s,hs,rfl):=fC.mp hx;have hs':=hp.ss s (dZ hs);walk_at "rd";refine(.no .nil,_,bc.of (sm _ _ hs'.top),_,rfl,_,bc.of (sm _ _ hs'.top),_,rfl,_,bc.of (sm _ _ hs'.top),_,rfl,s.lw,rfl,_,.inl (az.of (sm _ _ hs'.wd)),λlw h1=>(_,bc.of (aJ h1 _ _ (sm _ _ hs'.top)),_,rfl,s.lf,rfl,_,.inl (az.of (aJ h1 _ _ (sm _ _ hs'.fl))),λlf h2=>(by rw[sizeLine_eq];decide,λt h3=>?_)));let(n2,h2'):=cz h2;let(n3,h3a):=cz h3;let(n4,h3'):=cz h3a;have s3:=((aJ (o:=HO.lst (s.words.map V.int)) h1).trans (aJ (o:=HO.lst (s.fills.map ay.v)) h2)).trans (aJ (o:=HO.tup [V.str s.kind,V.int s.step,V.ref lw,V.ref lf]) h3);have e1:upd (upd (upd H' lw (HO.lst (s.words.map V.int))) lf (HO.lst (s.fills.map ay.v))) t (HO.tup [V.str s.kind,V.int s.step,V.ref lw,V.ref lf]) lw=some (HO.lst (s.words.map V.int)):=by rw[ae (Ne.symm n4),ae (Ne.symm n2),ax]
  have e2:upd (upd (upd H' lw (HO.lst (s.words.map V.int))) lf (HO.lst (s.fills.map ay.v))) t (HO.tup [V.str s.kind,V.int s.step,V.ref lw,V.ref lf]) lf=some (HO.lst (s.fills.map ay.v)):=by rw[ae (Ne.symm n3),ax]
  have e3:upd (upd (upd H' lw (HO.lst (s.words.map V.int))) lf (HO.lst (s.fills.map ay.v))) t (HO.tup [V.str s.kind,V.int s.step,V.ref lw,V.ref lf]) t=some (HO.tup [V.str s.kind,V.int s.step,V.ref lw,V.ref lf]):=ax;generalize upd (upd (upd H' lw (HO.lst (s.words.map V.int))) lf (HO.lst (s.fills.map ay.v))) t (HO.tup [V.str s.kind,V.int s.step,V.ref lw,V.ref lf])=H3 at *;have bt:eG H3 (upd H3 D (HO.lst (qs.map br.v++[V.ref t]))) D:=eG.upd (s3 _ _ hDD);have d1:lw≠D:=Ne.symm (bD hDD h1);have d2:lf≠D:=Ne.symm (bD hDD h2');refine(s3 _ _ hDD,qs++[(t,lw,lf,s.kind,s.step,s.words,s.fills)],by simp,?_,cg hD (sm.trans s3),ax,λq hq=>?_,λb hb=>?_,?_)
  ·rw[aV,hc,gY,hs,aV];rfl
  ·rcases bT.mp hq with z|z
   ·exact((hat q z).mono s3).but bt λy=>(hnew D (fU.mpr (q,z,y))).2 rfl
   ·rw[bU.mp z];exact(bt.tup e3,bt.2 _ _ e1 d1,bt.2 _ _ e2 d2,λf hf=>(((hs'.fs f hf).mono sm).mono s3).but bt)
  ·rw[oJ]at hb;rcases bT.mp hb with z|z
   ·exact hnew b z
   ·simp[br.lists]at z;rcases z with e|e
    ·rw[e];exact(sm.free h1,d1)
    ·rw[e];exact(sm.free h2',d2)
  ·rw[oJ];refine i6.mpr (hnd,by simp[br.lists,Ne.symm n2],λx hx y hy e=>?_);let(q,hq,hb'):=fU.mp hx;let(xs,he):=(hat q hq).list hb';simp[br.lists]at hy;rcases hy with z|z
   ·rw[e,z,h1]at he;cases he
   ·rw[e,z,h2']at he;cases he
 ·rintro D ys H' hD ⟨qs,rfl,hc,sm,hDD,hat,hnew,hnd⟩;rw[aD,g9]at hc;refine(_,bc.of (sm _ _ hp.top),_,rfl,_,bc.of (sm _ _ hp.top),_,rfl,p.ln,rfl,_,.inl (az.of (sm _ _ hp.nl)),λl hl=>(by rw[sizeLine_eq];decide,λt ht=>?_));let(n1,ht'):=cz ht;have s2:=(aJ (o:=HO.lst (p.aM.map aq.v)) hl).trans (aJ (o:=HO.tup [V.str p.name,V.ref D,V.ref l]) ht);have nl:∀b∈qs.flatMap br.lists,b≠l/\b≠t:=λb hb=>by
   let(q,hq,hb'):=fU.mp hb;let(xs,e):=(hat q hq).list hb';exact(bD e hl,bD e ht')
  refine k (t,D,l,p.name,qs,p.aM) _ (sm.trans s2) (ax,s2 _ _ hDD,by rw[ae (Ne.symm n1),ax],λq hq=>(hat q hq).mono s2,λn hn=>((hp.ns n hn).mono sm).mono s2) (rfl,rfl,hc) (λb hb=>?_) ?_
  ·simp only[aj.lists,List.mem_cons]at hb;rcases hb with e|e|e
   ·rw[e];exact hD
   ·rw[e];exact sm.free hl
   ·exact(hnew b e).1
  ·show(D::l::qs.flatMap br.lists).Nodup;refine i_.mpr (λz=>?_,i_.mpr (λz=>(nl l z).1 rfl,hnd));rcases eP.mp z with e|e
   ·exact bD hDD hl e
   ·exact(hnew D e).2 rfl
def yM(T:Txt K mg A):Z0 P w mg base T.jT 1 ON:=by
 refine T.jT.ok MY ?_ ?_;walk_at "k"
 let(c,rfl,k):=h;refine(_,(aU (aw (aA dt (pv 0) (cn rfl T.SI VI)))),?_);walk_at "rd";exact(by decide,k)
def FN(h:u<0):n/2 ^ (-u).toNat=K3.kI n u:=by
 rw[<-K3.wR h,Int.fdiv_eq_ediv_of_nonneg _ (Int.le_of_lt (K3.pow_pos _))]
def yE(T:Txt K mg A):Z0 P w mg base T.jD 1 DQ:=by
 refine T.jD.ok B7 ?_ ?_;walk_at "k"
 let(n,u,rfl,h1,h2,h3,k):=h;refine(_,(aL (aQ (bI jg (pv 1) af (aE _)) (aU (aw (aA Nz (pv 0) (kz hW (pv 1))))) bN) (aU (aw (aA DS (pv 0) (pv 1))))),?_);walk_at "rd";refine cH (λh=>?_) (λh=>?_)
 ·have h:=of_decide_eq_true h;rw[<-FN h]at k;exact(by lia,k)
 ·have h:¬u<0:=of_decide_eq_false (by simpa using h);rw[<-K3.CN h]at k;exact((by lia,by lia,by lia),k)
def FD(T:Txt K mg A):Z0 P w mg base T.mw 1 IV:=by
 refine T.mw.ok I0 ?_ ?_;walk_at "k"
 let(m,rfl,h1,h2,k):=h;refine(_,(aU (aw (aA ml (aA DS af (bV (zE rfl) (by rfl) T.Q1 Ow (ai (pv 0) (ai af aa)))) af))),?_);walk_at "rd";rw[<-K3.GA (k:=if 0>m then 0 else m) (by split<;>lia)]at k;exact((by split<;>lia,by split<;>lia,by decide),k)
def DE(x:Int){y:Int}(hy:0<=y):0<=Builtin.bitAnd x y/\Builtin.bitAnd x y<=y:=by
 open PySem PySem.W PySem.Calls PyProof.Rows in exact bitAnd_range x hy
def Jc(T:Txt K mg A):Z0 P w mg base T.sP 2 HF:=by
 refine T.sP.ok Dw ?_ ?_;walk_at "k"
 let(a,l,m,n,rfl,h1,h2,h3,h4,h5,h6,k):=h;refine(_,(aL (pS 4 Dw.nd (aA yi (pv 0) (kz Oy (cF (yE T) 'a' rfl T.yK T.jD.kp T.jD.b .nil aC (ai (cF (FD T) 'a' rfl T.EH T.mw.kp T.mw.b .nil aC (ai (pv 2) aa)) (ai (pv 1) aa)))))) (aU (aw (cF (yM T) 'a' rfl T.yN T.jT.kp T.jT.b .nil aC (ai (aA PX (pv 4) (cF (yE T) 'a' rfl T.yK T.jD.kp T.jD.b .nil aC (ai (aA yi (pv 3) (cF (FD T) 'a' rfl T.EH T.mw.kp T.mw.b .nil aC (ai (pv 2) aa))) (ai (pv 1) aa)))) aa))))),?_);walk_at "rd";have o1:=K3.vE m (by lia);have o2:=DE n o1.1;exact(by lia,by lia,o1.1,by lia,by lia,by lia,by lia,o2.1,by lia,by lia,k _)
def Kv(T:Txt K mg A){C:Addr}(h:RC A C):pY K C/\aW K C "title" := by
 rcases h with e|e|e<;>subst e
 ·exact(T.EZ,T.si)
 ·exact(T.yJ,T.oG)
 ·exact(T.F1,T.sI)
def DH(T:Txt K mg A):Z0 P w mg base T.yq 1 (Fh A):=by
 refine T.yq.ok Ni ?_ ?_;walk_at "k"
 let(p,dx,C,x,rfl,hp,hC,k):=h;refine(_,(aU (bY <| cS (pv 0) (pv 1) rfl)),?_);walk_at "rd";exact(C,dx,[],hp,(Kv T hC).1,(Kv T hC).2,by decide,k)
def DG(T:Txt K mg A):Z0 P w mg base T.mT 4 (I_ A):=by
 refine T.mT.ok Nq ?_ ?_;walk_at "k"
 let(z,rfl,hz,k):=h;refine(_,(aL (aQ (bI bQ (pv 0) aH (aE _)) (aU (aw (j4 T.MR (DH T) 'a' rfl T.N5 T.yq.b .nil aC (ai (pv 0) aa)))) bN) (aL (aQ (bI bQ (pv 0) aH (aE _)) (aU (aw (j4 T.HU (DH T) 'a' rfl T.HZ T.yq.b .nil aC (ai (pv 0) aa)))) bN) (aL (aQ (bI bQ (pv 0) aH (aE _)) (aU (aw (j4 T.Lw (DH T) 'a' rfl T.Md T.yq.b .nil aC (ai (pv 0) aa)))) bN) (aL (aQ (bI bQ (pv 0) aH (aE _)) (aU jK) bN) (aL (aQ (bI bQ (pv 0) aH (aE _)) (aU jK) bN) (aU jK)))))),?_);walk_at "rd";have go:∀C,RC A C->Xr A z C->∀(x dx:Addr),H x=none->H dx=none->dx≠x->
   ∃x_1 x_2,upd (upd H dx (HO.own x)) x (HO.ins C dx []) x=some (HO.ins x_2 x_1 [])/\RC A x_2/\Q (V.ref x) (upd (upd (upd H dx (HO.own x)) x (HO.ins C dx [])) x (HO.ins x_2 x_1 [⟨s!"title", V.str z⟩])):=by
  intro C hC hc x dx hx hd hne;refine(dx,C,ax,hC,k C hc x _ (λb o e=>?_) (dx,ax));rw[ae (bD e hx),ae (bD e hx),ae (bD e hd)];exact e
 refine cH (λh=>?_) (λh=>?_)
 ·have h:=of_decide_eq_true h;exact go _ (.inl rfl) (.inl (h,rfl))
 have h1:¬z=s!"whole" := by simpa using h
 refine cH (λh=>?_) (λh=>?_)
 ·have h:=of_decide_eq_true h;exact go _ (.inr (.inl rfl)) (.inr (.inl (h,rfl)))
 have h2:¬z=s!"high" := by simpa using h
 refine cH (λh=>?_) (λh=>?_)
 ·have h:=of_decide_eq_true h;exact go _ (.inr (.inr rfl)) (.inr (.inr (h,rfl)))
 have h3:¬z=s!"low" := by simpa using h
 exact(hz.elim h1 λx=>x.elim h2 h3).elim
def SE(T:Txt K mg A):Z0 P w mg base T.JM 2 GN:=by
 refine T.JM.ok Ol ?_ ?_;walk_at "k"
 let(v,a,h,t,rfl,k):=h;refine(_,(aU (aw (cF (yM T) 'a' rfl T.yN T.jT.kp T.jT.b .nil aC (ai (pv 3) aa)))),?_);walk_at "rd";exact k
def Qa(T:Txt K mg A):Z0 P w mg base T.KQ 3 HM:=by
 refine T.KQ.ok Lz ?_ ?_;walk_at "k"
 let(v,a,h,t,rfl,h1,h2,k):=h;refine(_,(aU (aw (cF (Jc T) 'a' rfl T.KD T.sP.kp T.sP.b .nil aC (ai (pv 1) (ai af (ai af (ai (aA fZ (aA eJ (pv 3) af) af) aa))))))),?_);walk_at "rd";exact((by decide,by decide),h1,h2,by decide,by decide,by decide,by decide,k)
def Rk(T:Txt K mg A):Z0 P w mg base T.JJ 3 Hq:=by
 refine T.JJ.ok Ob ?_ ?_;walk_at "k"
 let(v,a,h,t,rfl,h1,h2,k):=h;refine(_,(aU (aw (cF (Jc T) 'a' rfl T.KD T.sP.kp T.sP.b .nil aC (ai (pv 1) (ai af (ai af (ai (pv 3) aa))))))),?_);walk_at "rd";exact(h1,h2,by decide,by decide,by decide,by decide,k)
theorem m7:∀{a b:List Str},a.Nodup->b.Nodup->(∀x,x∈a↔x∈b)->a.Perm b
 |[],b,_,_,h=>by
  have:b=[]:=List.eq_nil_iff_forall_not_mem.mpr λx hx=>by simpa using (h x).mpr hx
  rw[this]
 |x::a,b,ha,hb,h=>by
  have hx:x∈b:=(h x).mp (.head _);refine((m7 (i_.mp ha).2 (hb.erase x) λy=>?_).cons x).trans (List.perm_cons_erase hx).symm;rw[hb.mem_erase_iff];constructor
  ·intro hy;exact(λe=>(i_.mp ha).1 (e▸hy),(h y).mp (.tail _ hy))
  ·rintro⟨ne,hy⟩;exact(eP.mp ((h y).mpr hy)).resolve_left ne
def Ik(W:List Str)(y:Str):putK (W.map jL) (.inr y) (.bl true)=(addW W y).map jL:=by
 unfold putK addW;have e:((W.map jL).any λkv=>decide (kv.1=(.inr y:Key)))=decide (y∈W):=by
  rw[Le,Jy,nZ,decide_eq_true_eq];constructor
  ·rintro⟨z,hz,q⟩;have:z=y:=by simpa [jL] using q
   exact this▸hz
  ·intro hy;exact(y,hy,by simp[jL])
 rw[e];by_cases m:y∈W
 ·rw[if_pos (decide_eq_true m),if_pos m,d9];refine xh λz hz=>?_;by_cases q:z=y
  ·simp[jL,q]
  ·simp[jL,q]
 ·rw[if_neg (by simpa using m),if_neg m,List.map_append];rfl
def sU(W:List Str)(y:Str):(addW W y).length<=W.length+1:=by
 unfold addW;split
 ·lia
 ·simp
def Em(p:aj)(W:List Str)(f:ay):(jA p W f).length<=W.length+1:=by
 unfold jA;split
 ·exact sU W f.name
 ·lia
theorem jF(p:aj):∀(fs:List ay) (W:List Str),(fs.foldl (jA p) W).length<=W.length+fs.length
 |[],W=>by simp
 |f::fs,W=>by
  have h1:=jF p fs (jA p W f);have h2:=Em p W f;rw[O1,oY];lia
theorem ro(h:¬(!f.soft && !dw p f.name)=true):jA p W f=W:=if_neg h
theorem sX(h:(!f.soft && !dw p f.name)=true):jA p W f=addW W f.name:=if_pos h
theorem AQ(hc:X.calm=true){w:World}(ew:X.w=w){K:Wf}(e:X.K=K):bP X (.type "set") (Rh w K):=ew▸e▸By hc
theorem ou(hc:X.calm=true){w:World}(ew:X.w=w):bP X (.builtin "sorted") (uK w):=ew▸rZ hc
theorem xv(h:(p.aM.map aq.name).Nodup):(hV p).Nodup:=List.Nodup.sublist (List.Sublist.map _ List.filter_sublist) h
def D7(e:ms.map (λm=>⟨m.name,m.a,m.b,m.c⟩)=(p.aM.filter λn=>decide (n.sort=s!"own")).map (λn=>⟨n.name,p.name,n.st,n.off⟩))(z:Str):(aY ms z).isSome=dw p z:=by
 have e1:ms.map aI.name=(p.aM.filter λn=>decide (n.sort=s!"own")).map aq.name:=by
  have h:=congrArg (List.map (·.1)) e;rw[d9,d9]at h;exact h
 have a:(aY ms z).isSome=decide (z∈ms.map aI.name):=by
  unfold aY;rw[Jy,List.find?_isSome,decide_eq_true_eq];constructor
  ·rintro⟨m,hm,q⟩;exact aK.mpr (m,hm,of_decide_eq_true q)
  ·intro h;let(m,hm,q):=aK.mp h;exact(m,hm,decide_eq_true q)
 rw[a,e1];unfold dw;rw[Jy,decide_eq_true_eq,nZ];constructor
 ·intro h;let(n,hn,q):=aK.mp h;let(h1,h2):=sV.mp hn;exact(n,h1,by rw[lH];exact(decide_eq_true q,h2))
 ·rintro⟨n,hn,q⟩;rw[lH]at q;exact aK.mpr (n,sV.mpr (hn,q.2),of_decide_eq_true q.1)
def Sw(W:List Str):List.map (λx=>x.fst) (W.map jL)=W.map Sum.inr:=by rw[d9];rfl
theorem yI(h:(!decide (V.str z=V.str s!"own"))=true):z≠f_:=λe=>by
 rw[e]at h;exact absurd h (by simp[f_])
def D6(h:¬(!decide (V.str z=V.str s!"own"))=true):z=f_:=by
 have q:V.str z=V.str s!"own":=by simpa using h
 injection q
def ni{p:aj}{i:Nat}{st:br}(h:p.ba[i]?=some st):aG (p.ba.take (i+1))=aG (p.ba.take i)++st.fills:=by
 unfold aG;rw[gY,h,oJ];simp
def ui{p:aj}(i:Nat):(aG (p.ba.take i)).length<=(aG p.ba).length:=by
 have h:aG p.ba=aG (p.ba.take i)++aG (p.ba.drop i):=by
  unfold aG;rw[<-oJ,Kl]
 rw[h,cw];lia
def yn(T:Txt K mg A):Z0 P w mg base T.j9 1 Ae:=by
 refine T.j9.ok kU ?_ ?_;walk_at "k"
 let(p,z,rfl,hp,hf,hd,k):=h;refine(_,(aL (pS 2 kU.nd cZ) (aL (pF (fh (K:=K) rfl 'r') (cq <| cj (K:=K) (n:=4) rfl rfl (eA <| d7 (pn 3 kU.nd) (eA <| d7 (pn 4 kU.nd) (eA <| d7 (pn 5 kU.nd) (eA <| d7 (pn 6 kU.nd) cu))))) (aU (aQ (bI bQ (pv 4) (pv 1) (aE _)) (aU (c_ <| dU (bO hr) (pv 2) (pv 3) (aR (ai 'r' (ai (pv 5) (ai (pv 6) aa)))) rfl)) bN))) (aU (aw (pv 2))))),?_);walk_at "rd";intro d hdn;refine(_,bc.of (aJ hdn _ _ hp.top),_,rfl,?_);refine dI.of (xs:=p.aM.map aq.v) (λi Z H'=>∃ms b3 b4 b5 b6,Z=[some p.v,some (V.str z),some (V.ref d),b3,b4,b5,b6]/\au H H'/\Tab H' d ms/\ms.map (λm=>⟨m.name,m.a,m.b,m.c⟩)=((p.aM.take i).filter λn=>decide (n.sort=z)).map (λn=>⟨n.name,p.name,n.st,n.off⟩))
  ([],_,_,_,_,rfl,aJ hdn,(ax,by simp),rfl) (λi Z H' _ (_,_,_,_,_,_,sm,_)=>az.of (sm _ _ hp.nl)) ?_ ?_
 ·rintro i x Z H' hx ⟨ms,b3,b4,b5,b6,rfl,sm,tab,e⟩;walk_at "0";let(n,hn,rfl):=fC.mp hx;have na:=sm _ _ (hp.ns n (dZ hn));walk_at "3";have hnew:n.name∉ms.map aI.name:=by
   have e1:ms.map aI.name=((p.aM.take i).filter λn=>decide (n.sort=z)).map aq.name:=by
    have:=congrArg (List.map (·.1)) e;rw[d9,d9]at this;exact this
   rw[e1];intro h;let(n',h1,h2):=aK.mp h;have h3:=(sV.mp h1).1;have nd:((p.aM.take (i+1)).map aq.name).Nodup:=List.Nodup.sublist (List.Sublist.map _ (List.take_sublist _ _)) hd;rw[tk,aV]at nd;exact(i6.mp nd).2.2 n'.name (aK.mpr (n',h3,rfl)) n.name (by simp) h2
  have hlen:ms.length<=61:=by
   have:=congrArg List.length e;walk_at "4";have h1:=Au (λn:aq=>decide (n.sort=z)) (p.aM.take i);have h2:=List.length_take_le i p.aM;have h3:(p.aM.take i).length<=p.aM.length:=by rw[lA];lia
   lia
  walk_at "rd";refine(_,bc.of na,rfl,_,_,rfl,_,_,rfl,_,_,rfl,_,_,rfl,rfl,rfl,cH (λhz=>?_) (λhz=>?_))
  ·have hz':n.sort=z:=by
    have:=of_decide_eq_true hz;injection this
   refine(_,bc.of (sm _ _ hp.top),_,rfl,by walk_at "s", λq hq=>(_,dQ.k (k:=Sum.inr n.name) (aJ hq _ _ tab.top) 'd',cg hdn (sm.trans (aJ hq)),_,(tab.mono (aJ hq)).put (m:=(n.name,q,p.name,n.st,n.off)) ax,?_));rw[Dy hnew,aV,e,tk,yA,aV];simp[hz']
  ·have hz':n.sort≠z:=λy=>hz (decide_eq_true (by rw[y]));refine(sm,ms,tab,?_);rw[tk,yA,e];simp[hz']
 ·rintro Z H' ⟨ms,b3,b4,b5,b6,rfl,sm,tab,e⟩;walk_at "1";walk_at "rd";exact k d ms H' sm tab e hdn
def IL(T:Txt K mg A):Z0 P w mg base T.rH 2 Fu:=by
 refine T.rH.ok Cv ?_ ?_;walk_at "k"
 let(p,rfl,hp,hb,k):=h;refine(_,(aU (aw (bV (ou rfl (w:=w) rfl) (by rfl) T.d_ eQ (ai (lO (AQ rfl (w:=w) rfl (K:=K) rfl) (by rfl) T.Pq Mj (ai (cN (gX ["name", "sort", "stretch", "offset"]) rfl (fh (K:=K) rfl 'r') (λ_ _ _=>((cq <| cj (K:=K) (n:=4) rfl rfl (eA <| d7 (pn 0 'g') (eA <| d7 (pn 1 'g') (eA <| d7 (pn 2 'g') (eA <| d7 (pn 3 'g') cu))))),(lZ (bI wQ (pv 1) aH (aE _))),(pv 0)))) aa)) aa)))),?_);walk_at "rd";refine(_,bc.of hp.top,_,rfl,?_);refine b_.of (xs:=p.aM.map aq.v) (by rw[aD,sizeLine_eq];have:=hb.nm;omega) (az.of hp.nl) (λD i ys H'=>au H H'/\H' D=some (.lst ys)/\ys=(((p.aM.take i).filter λn=>decide (n.sort≠f_)).map aq.name).map V.str)
  (λD hD=>(aJ hD,ax,rfl)) ?_ ?_ ?_
 ·rintro D i ys H' hD hi ⟨sm,hDD,e⟩;refine(sm.seq (az.of hp.nl),hDD,?_);rw[e,aD,aD];exact fF (Au _ _) (by rw[lA];lia)
 ·rintro D i x ys H' hD hx ⟨sm,hDD,e⟩;walk_at "0";let(n,hn,rfl):=fC.mp hx;have na:=sm _ _ (hp.ns n (dZ hn));walk_at "3";walk_at "rd";refine(_,bc.of na,rfl,_,_,rfl,_,_,rfl,_,_,rfl,_,_,rfl,rfl,.no (.no (.no (.no .nil))),rfl,cH (λh=>?_) (λh=>?_))
  ·have hz:=yI h;refine(hDD,cg hD sm,ax,?_);rw[e,tk,yA,aV,aV];simp[hz]
  ·have hz:=D6 h;refine(sm,hDD,?_);rw[e,tk,yA];simp[hz]
 ·rintro D ys H' hD ⟨sm,hDD,e⟩;walk_at "1";have hle:(hV p).length<=61:=by
   unfold hV;rw[aD];exact fF (Au _ _) hb.nm
  refine(D,rfl,hV p,az.of (by rw[hDD,e];rfl),by lia,λq L hq nd hL hm=>(L,ax,by lia,λl ss hl pm pw=>?_));have s2:=sm.trans (aJ (o:=zT w L q) hq);exact k l _ (s2.trans (aJ hl)) (ss,pm.trans (m7 nd (xv hb.nd) hm),pw,ax) (iC s2 hl)
def Ic(T:Txt K mg A):Z0 P w mg base T.sE 2 EW:=by
 refine T.sE.ok cA ?_ ?_;walk_at "k"
 let(p,rfl,hp,hb,k):=h;refine(_,(aL (pS 1 cA.nd (cF (yn T) 'a' rfl T.xH T.j9.kp T.j9.b .nil aC (ai (pv 0) (ai aH aa)))) (aL (pS 2 cA.nd cZ) (aL (pF (fh (K:=K) rfl 'r') (cq <| cj (K:=K) (n:=4) rfl rfl (eA <| d7 (pn 3 cA.nd) (eA <| d7 (pn 4 cA.nd) (eA <| d7 (pn 5 cA.nd) (eA <| d7 (pn 6 cA.nd) cu))))) (aU (pF (fh (K:=K) rfl (pv 6)) (cq <| cj (K:=K) (n:=5) rfl rfl (eA <| d7 (pn 7 cA.nd) (eA <| d7 (pn 8 cA.nd) (eA <| d7 (pn 9 cA.nd) (eA <| d7 (pn 10 cA.nd) (eA <| d7 (pn 11 cA.nd) cu)))))) (aU (aQ (PW.pt (gC (kO (dj (pv 11))) (gD (kF (iG (bO hr) (pv 9) (pv 1)))))) (aU (c_ <| dU (bO hr) (pv 2) (pv 9) iw rfl)) bN))))) (aU (aw (bV (gH rfl) (by rfl) T.d_ eQ (ai (pv 2) aa))))))),?_);walk_at "rd";refine(p,rfl,hp,hb.nm,hb.nd,λdO ms H1 s1 tab eo hdO d hd=>(_,bc.of (aJ hd _ _ (s1 _ _ hp.top)),_,rfl,?_));have p1:=hp.mono s1;refine dI.of (xs:=p.ba.map br.v) (λi Z H'=>∃b3 b4 b5 b6 b7 b8 b9 b10 b11,Z=[some p.v,some (V.ref dO),some (V.ref d),b3,b4,b5,b6,b7,b8,b9,b10,b11]/\au H1 H'/\H' d=some (.dK (((aG (p.ba.take i)).foldl (jA p) []).map jL)))
  (_,_,_,_,_,_,_,_,_,rfl,aJ hd,ax) (λi Z H' _ (_,_,_,_,_,_,_,_,_,_,sm,_)=>az.of (sm _ _ p1.sl)) ?_ ?_
 ·rintro i x Z H' hx ⟨b3,b4,b5,b6,b7,b8,b9,b10,b11,rfl,sm,hd'⟩;walk_at "0";let(st,hst,rfl):=fC.mp hx;have sa0:=p1.ss st (dZ hst);have sa:=sa0.mono sm;have tk:=ni hst;have bd:=ui (p:=p) (i+1);have bd2:=hb.fl;rw[tk,cw]at bd;walk_at "rd";refine(_,bc.of sa.top,rfl,_,_,rfl,_,_,rfl,_,_,rfl,_,_,rfl,rfl,?_);refine dI.of (xs:=st.fills.map ay.v) (λj Z H2=>∃b7 b8 b9 b10 b11,Z=[some p.v,some (V.ref dO),some (V.ref d),some (V.str st.kind),some (V.int st.step),some (V.ref st.lw),some (V.ref st.lf),b7,b8,b9,b10,b11]/\au H1 H2/\H2 d=some (.dK (((aG (p.ba.take i)++st.fills.take j).foldl (jA p) []).map jL)))
   (_,_,_,_,_,rfl,sm,by rw[hd'];simp) (λj Z H' _ (_,_,_,_,_,_,sm,_)=>az.of (sm _ _ sa0.fl)) ?_ ?_
  ·rintro j x Z H2 hx ⟨b7,b8,b9,b10,b11,rfl,sm2,hd2⟩;walk_at "0";let(f,hf,rfl):=fC.mp hx;have fa:=sm2 _ _ (sa0.fs f (dZ hf));have tb:=tab.mono sm2;have hj:j<st.fills.length:=(fA.mp hf).1;have gO:cU H2 dO (V.str f.name) ((aY ms f.name).map λm=>V.ref m.t):=by rw[<-IP];exact cU.k (k:=Sum.inr f.name) tb.top
   walk_at "5";have ow:=D7 eo f.name;have flen:((aG (p.ba.take i)++st.fills.take j).foldl (jA p) []).length<=61:=by
    have h1:=jF p (aG (p.ba.take i)++st.fills.take j) [];rw[cw,lA,List.length_nil]at h1;lia
   have step:(aG (p.ba.take i)++st.fills.take (j+1)).foldl (jA p) []=jA p ((aG (p.ba.take i)++st.fills.take j).foldl (jA p) []) f:=by rw[tj,List.foldl_append];rfl
   walk_at "rd";refine(_,bc.of fa,rfl,_,_,rfl,_,_,rfl,_,_,rfl,_,_,rfl,_,_,rfl,rfl,_,rfl,cH (λh1=>(_,gO,cH (λh2=>?_) (λh2=>?_))) (λh1=>?_))
   ·rw[MM,ow]at h2;refine(_,dQ.k (k:=Sum.inr f.name) hd2 'd',cg hd sm2,?_);rw[ax,Ik,step,sX (by rw[h1,h2];rfl)]
   ·rw[MM,ow]at h2;refine(sm2,?_);rw[hd2,step];rw[ro (by rw[lH];exact λz=>h2 z.2)]
   ·refine(sm2,?_);rw[hd2,step];rw[ro (by rw[lH];exact λz=>h1 z.1)]
  ·rintro Z H2 ⟨b7,b8,b9,b10,b11,rfl,sm2,hd2⟩;rw[aD,g9]at hd2;exact(_,_,_,_,_,_,_,_,_,rfl,sm2,by rw[hd2,tk])
 ·rintro Z H' ⟨b3,b4,b5,b6,b7,b8,b9,b10,b11,rfl,sm,hd'⟩;rw[aD,g9]at hd';have hle:(oX p).length<=61:=fF (jF p _ []) (by have:=hb.fl;simpa using this);walk_at "rd";have s2:=s1.trans sm;exact(_,hd',oX p,Sw _,by lia,λl ss hl pm pw=>k l _ (s2.trans (aJ hl)) (ss,pm,pw,ax) (iC s2 hl))
def ID(h0:0<=i)(h1:i<37)(g0:0<=j)(g1:j<37)(e:sgn i=sgn j):i=j:=by
 let(m,rfl):=Pe h0;let(n,rfl):=Pe g0;have hm:m<37:=by lia
 have hn:n<37:=by lia
 have:∀a:Nat,a<37->∀b:Nat,b<37->sgn (a:Int)=sgn (b:Int)->a=b:=by decide +kernel
 rw[this m hm n hn e]
def jh(h0:0<=k)(h1:k<16)(g0:0<=k')(g1:k'<16)(e:nameOf t k=nameOf t k'):k=k':=by
 unfold nameOf at e;by_cases hc:t/256%3=0
 ·have l:=congrArg Str.length e;rw[gZ,gZ]at l;unfold ia at l;rw[if_pos hc,if_pos hc]at l;lia
 ·unfold ia at e;rw[if_neg hc,if_neg hc]at e;have a0:0<=t/16%(1+t%16):=Int.emod_nonneg _ (by lia);have a1:t/16%(1+t%16)<1+t%16:=Int.emod_lt_of_pos _ (by lia);have ea:rL t=t/16%(1+t%16):=by unfold rL;rw[if_neg hc]
  let(j,ej):=Pe a0;have hj:j<(1+t%16).toNat:=by lia
  have e1:=congrArg (λz:Str=>z.cps.toList[j]?) e;have get:∀k:Int,(lQ t k (1+t%16).toNat).cps.toList[j]?=some (sgn (kY t k j)):=λk=>by
   unfold lQ;simp[hj]
  have e2:sgn (kY t k j)=sgn (kY t k' j):=by
   have e1:(lQ t k (1+t%16).toNat).cps.toList[j]?=(lQ t k' (1+t%16).toNat).cps.toList[j]?:=e1;rw[get,get]at e1;exact Option.some.inj e1
  have e3:=ID (fD t k j).1 (fD t k j).2 (fD t k' j).1 (fD t k' j).2 e2;unfold kY at e3;rw[decide_eq_true (show(j:Int)=rL t by rw[ea,ej])]at e3;simp only[if_true,Int.mul_one]at e3;generalize t/((j:Int)+3)+(j:Int)*(j:Int)=y at e3;by_cases hj0:(j:Int)=0
  ·rw[decide_eq_true hj0]at e3;simp at e3;lia
  ·rw[decide_eq_false hj0]at e3;simp at e3;lia
theorem BI:∀n:Nat,n<=12->(((List.range n).map λi:Nat=>nameOf t i)++[nameOf t 14]).Nodup:=λn hn=>by
 rw[i6];refine(?_,by simp,λx hx y hy e=>?_)
 ·rw[List.Nodup,J7];refine List.Pairwise.imp_of_mem (λ{a b} ha hb hne e=>hne ?_) (List.nodup_range (n:=n));have:=jh (k:=(a:Int)) (k':=(b:Int)) (by lia) (by have:=Je.mp ha;lia) (by lia) (by have:=Je.mp hb;lia) e;lia
 ·let(i,hi,rfl):=aK.mp hx;rw[bU.mp hy]at e;have:=jh (k:=(i:Int)) (k':=14) (by lia) (by have:=Je.mp hi;lia) (by lia) (by lia) e;have:=Je.mp hi;lia
def rG{l:List Nat}{x:Nat}(h:x∈l):x<=l.sum:=by
 induction l with
 |nil=>cases h
 |cons a l ih=>
  rw[List.sum_cons];rcases eP.mp h with e|e
  ·lia
  ·have:=ih e;lia
def Drawn.pc(d:Drawn c t n ps)(h:p∈ps):(p.name.length<=16/\Sg p.name)/\p.aM.length<=n/\p.ba.length<=n/\∀s∈p.ba,s.words.length<=n/\s.fills.length<=n:=by
 have h1:p.size<=n:=fF (rG (aK.mpr (p,h,rfl))) d.size;have h2:p.name∈(List.range ps.length).map λi:Nat=>nameOf t i:=by rw[<-d.names];exact aK.mpr (p,h,rfl)
 let(i,_,e):=aK.mp h2;unfold aj.size at h1;refine(by rw[<-e];exact dA t i (RK i),by lia,by lia,λs hs=>?_);have h3:=rG (aK.mpr (s,hs,rfl):s.words.length∈p.ba.map λs=>s.words.length);have h4:=((d.ok p h).ba s hs).cY;exact(by lia,by lia)
theorem qc:∀{ss:List br},(∀s∈ss,s.fills.length<=s.words.length)->(aG ss).length<=(ss.map λs=>s.words.length).sum
 |[],_=>bJ _
 |s::ss,h=>by
  have h1:=qc (ss:=ss) λr hr=>h r (.tail _ hr);have h2:=h s (.head _);unfold aG at h1 ⊢;rw[Il,cw,iS,List.sum_cons];lia
def Drawn.va(d:Drawn c t n ps)(hn:n<=61)(h:p∈ps):m6 p:=by
 have h1:p.size<=n:=fF (rG (aK.mpr (p,h,rfl))) d.size;let(_,h2,h3,h4):=d.pc h;have h5:=qc λs hs=>((d.ok p h).ba s hs).cY;unfold aj.size at h1;exact(by lia,by lia,λs hs=>(fF (h4 s hs).1 hn,fF (h4 s hs).2 hn),by lia,(d.ok p h).nd)
def Gx(b:m6 p):(hV p).length<=61:=by
 unfold hV;rw[aD];exact fF (Au _ _) b.nm
theorem yR(b:m6 p):(oX p).length<=61:=fF (jF p _ []) (by have:=b.fl;simpa using this)
def PK(T:Txt K mg A):Z0 P w mg base T.Jv 1 (CY A):=by
 refine T.Jv.ok Mv ?_ ?_;walk_at "k"
 let(a,n,p,rfl,ha,hn,hp,k):=h;refine(_,(aL (dB (nE rfl T.nM T.wA (ai (pv 0) (ai (kJ (dW (iM (pv 1)) (dW aH (dW (iM (pv 2)) vL)))) aa)))) (aL (iN (pv 0) (pv 1) rfl) (aU (iN (pv 0) (pv 2) rfl)))),?_);walk_at "rd";have l1:=iO hn.2 hn.1;have l2:=iO hp.2 hp.1;have l0:Str.empty.length=0:=rfl;have l3:s!" is told by no piece, wanted by ".length=32:=by decide +kernel
 have sz:∀m:Nat,m<=400->m<=sizeLine:=λm h=>by rw[sizeLine_eq];lia
 have e:putF s!"piece" (V.str p) [⟨s!"name", V.str n⟩]=[⟨s!"name", V.str n⟩,⟨s!"piece", V.str p⟩]:=by
  show(if s!"name" = s!"piece" then _ else _)=_;rw[if_neg (by decide)];rfl
 refine(sz _ (by lia),sz _ (by rw[cM];lia),sz _ (by rw[cM,cM];lia),sz _ (by lia),sz _ (by rw[cM,cM,cM];lia),sz _ (by rw[cM,cM,cM];lia),A.a_,none,ha,A.Kw,T.rJ,sz _ (by decide),A.a_,A.Kw,none,ha,T.rJ,T.lB,.inl (rfl,λd hd=>?_));have hne:d≠a:=Ne.symm (bD ha hd);have hD:upd (upd H d (XD d [⟨s!"name", V.str n⟩])) a (XN a A.a_ (some d)) d=some (XD d [⟨s!"name", V.str n⟩]):=by rw[ae hne,ax]
 refine(A.a_,A.Kw,some d,ax,T.rJ,T.j_,.inr (d,rfl,_,hD,by simp,?_));rw[e];refine k d _ hd hne (λb o hb q=>?_) ?_ ax
 ·have hbd:=bD q hd;rw[ae hbd,ae hb,ae hbd];exact q
 ·rw[ae (Ne.symm hne),ax]
def tT:z∈hV p↔eC z (ao p)=true:=by
 unfold hV eC ao;simp only[List.any_map,List.any_eq_true,List.mem_map,List.mem_filter];constructor
 ·rintro⟨n,⟨h1,h2⟩,rfl⟩;have h2:n.sort≠f_:=of_decide_eq_true h2;refine(n,h1,?_);show(decide (n.name=n.name) && !decide (n.sort=f_))=true;rw[decide_eq_true rfl,decide_eq_false h2];rfl
 ·rintro⟨n,h1,h2⟩;have h2:(decide (n.name=z) && !decide (n.sort=f_))=true:=h2;rw[lH,Bool.not_eq_true',decide_eq_false_iff_not]at h2;exact(n,(h1,decide_eq_true h2.2),of_decide_eq_true h2.1)
def xI(p:aj)(z:Str):Prop:=∃f∈aG p.ba,(!f.soft && !dw p f.name)=true/\f.name=z
def Fm(p:aj)(z:Str):sY z (ao p)=dw p z:=by
 unfold sY dw ao;rw[Le];rfl
def iK:xI p z↔bM z (ao p)=true:=by
 unfold xI bM;rw[Fm,lH];have e:(ao p).2.2=p.ba.map br.e:=rfl;rw[e,Le,nZ];constructor
 ·rintro⟨f,hf,h,rfl⟩;let(s,hs,hf):=fU.mp hf;rw[lH]at h;exact(h.2,s,hs,nZ.mpr (ay.e f,aK.mpr (f,hf,rfl),by rw[lH];exact(decide_eq_true rfl,h.1)))
 ·rintro⟨h0,s,hs,h⟩;let(g,hg,h):=nZ.mp h;let(f,hf,rfl):=aK.mp hg;rw[lH]at h;have hn:f.name=z:=of_decide_eq_true h.1;exact(f,fU.mpr (s,hs,hf),by rw[lH,hn];exact(h.2,h0),hn)
def ET:z∈addW W y↔z∈W\/z=y:=by
 unfold addW;split
 ·rename_i h;exact(.inl,λq=>q.elim id λe=>e▸h)
 ·simp
theorem sQ(p:aj){z:Str}:∀(fs:List ay) (W:List Str),z∈fs.foldl (jA p) W↔z∈W\/∃f∈fs,(!f.soft && !dw p f.name)=true/\f.name=z
 |[],W=>by simp
 |f::fs,W=>by
  rw[O1,sQ p fs];by_cases h:(!f.soft && !dw p f.name)=true
  ·rw[sX h,ET];constructor
   ·rintro ((q|q)|⟨g,hg,q⟩)
    ·exact .inl q
    ·exact .inr (f,mm,h,q.symm)
    ·exact .inr (g,jQ _ hg,q)
   ·rintro (q|⟨g,hg,q⟩)
    ·exact .inl (.inl q)
    ·rcases eP.mp hg with e|e
     ·exact .inl (.inr (by rw[<-q.2,e]))
     ·exact .inr (g,e,q)
  ·rw[ro h];constructor
   ·rintro (q|⟨g,hg,q⟩)
    ·exact .inl q
    ·exact .inr (g,jQ _ hg,q)
   ·rintro (q|⟨g,hg,q⟩)
    ·exact .inl q
    ·rcases eP.mp hg with e|e
     ·rw[e]at q;exact absurd q.1 h
     ·exact .inr (g,e,q)
def mY:z∈oX p↔bM z (ao p)=true:=by
 rw[<-iK];unfold oX;rw[sQ];simp[xI]
def eT(ps:List aj)(z:Str):dy (ps.map ao) z=(bF ps z).map ao:=by
 unfold dy bF;rw[OQ];rfl
theorem iz(s:eB H H'){b:Addr}{xs:List V}(h:H b=some (.lst xs)):H' b=some (.lst xs):=s b _ (.inl (_,rfl)) h
theorem ku(s:eB H H'){b:Addr}{xs:List V}(h:H b=some (.tup xs)):H' b=some (.tup xs):=s b _ (.inr (_,rfl)) h
theorem nH(s:eB H H'){p:aj}(q:p.At H):p.At H':=
 (ku s q.top,iz s q.sl,iz s q.nl,λst hs=>have y:=q.ss st hs;(ku s y.top,iz s y.wd,iz s y.fl,λf hf=>ku s (y.fs f hf)),λn hn=>ku s (q.ns n hn))
theorem Ky(s:eB H H')(h:PL H L ps):PL H' L ps:=(iz s h.top,λp hp=>nH s (h.at_ p hp))
theorem Cd(hx:H x=some u)(n:(∀xs,u≠.lst xs)/\∀xs,u≠.tup xs)(s:∀b o,b≠x->H b=some o->H' b=some o):eB H H':=λb o h e=>s b o (λq=>by
 rw[q,hx]at e;have e:=Option.some.inj e;rcases h with ⟨xs,h⟩|⟨xs,h⟩
 ·exact n.1 xs (e.trans h)
 ·exact n.2 xs (e.trans h)) e
theorem gK(h:PL H L ps)(s:au H H'):PL H' L ps:=(s _ _ h.top,λp hp=>(h.at_ p hp).mono s)
theorem fQ(h:iW H S xs)(s:au H H'):iW H' S xs:=(s _ _ h.top,λx hx=>gK (h.at_ x hx) s)
def iH{xs:List 'k'}{i:Nat}{x:Addr×List aj}(h:xs[i]?=some x):flat (xs.take (i+1))=flat (xs.take i)++x.2:=by
 unfold flat;rw[gY,h,oJ];simp
def yF(xs:List 'k')(i:Nat):(flat (xs.take i)).length<=(flat xs).length:=by
 have h:flat xs=flat (xs.take i)++flat (xs.drop i):=by
  unfold flat;rw[<-oJ,Kl]
 rw[h,cw];lia
def Sm(T:Txt K mg A):Z0 P w mg base T.BM 1 Qo:=by
 refine T.BM.ok wD ?_ ?_;walk_at "k"
 let(S,xs,rfl,hS,hl,k):=h;refine(_,(aL (pS 1 wD.nd (aF aa)) (aL (pF (fh (K:=K) rfl (pv 0)) (pn 2 wD.nd) (aU (dB (pZ PySem.F.plainAttrs_list PySem.F.slot_list_extend PySem.F.type_list_extend Aj (pv 1) (ai (pv 2) aa))))) (aU (aw (pv 1))))),?_);walk_at "rd";refine(d6 _,λl hn=>?_);refine dI.of (xs:=xs.map λx=>V.ref x.1) (λi Z H'=>∃b2:Option V,Z=[some (.ref S),some (.ref l),b2]/\au H H'/\H' l=some (.lst ((flat (xs.take i)).map aj.v)))
  (_,rfl,aJ hn,ax) ?_ ?_ ?_
 ·rintro i Z H' hi ⟨b2,rfl,s1,_⟩;exact az.of (s1 _ _ hS.top)
 ·rintro i v Z H' hv ⟨b2,rfl,s1,h1⟩;walk_at "6";let(x,hx,rfl):=fC.mp hv;have hm:=dZ hx;have px:=s1 _ _ (hS.at_ x hm).top;have tk:=iH hx;have fl:=yF xs (i+1);rw[tk,cw]at fl;walk_at "rd";refine(.inl (rfl,_,az.of h1),l,x.1,_,_,rfl,rfl,h1,px,by rw[aD,aD,sizeLine_eq];lia,cg hn s1,?_);rw[ax,tk,aV]
 ·rintro Z H' ⟨b2,rfl,s1,h1⟩;walk_at "rd";rw[aD,g9]at h1;exact k l H' s1 hn h1
def Gy{W:List Str}{z:Str}(h:z∉W):bE (W.map jL) (.inr z)=none:=by
 cases q:bE (W.map jL) (.inr z) with
 |none=>rfl
 |some v=>
  have a:=cX (.inr z:Key) (W.map jL);rw[q]at a;let(x,hx,e):=nZ.mp (a.trans rfl);let(y,hy,rfl):=aK.mp hx;exact absurd (Sum.inr.inj (of_decide_eq_true e:(Sum.inr y:Key)=Sum.inr z)▸hy) h
def Ff{W:List Str}{z:Str}(h:z∈W):bE (W.map jL) (.inr z)=some (.bl true):=by
 have a:=cX (.inr z:Key) (W.map jL);have b:((W.map jL).any λkv=>decide (kv.1=(.inr z:Key)))=true:=nZ.mpr (jL z,aK.mpr (z,h,rfl),decide_eq_true rfl);rw[b]at a;cases q:bE (W.map jL) (.inr z) with
 |none=>rw[q]at a;cases a
 |some v=>
  unfold bE at q;let(x,hx,e):=fC.mp q;let(y,hy,e2):=aK.mp (vM hx);rw[<-e,<-e2];rfl
def SV(T:Txt K mg A):Z0 P w mg base T.J_ 1 (EA A):=by
 refine T.J_.ok MN ?_ ?_;walk_at "k"
 let(a,n,rfl,ha,hn,k):=h;refine(_,(aL (dB (nE rfl T.nM T.wA (ai (pv 0) (ai (kJ (dW aH (dW (iM (pv 1)) vL))) aa)))) (aU (iN (pv 0) (pv 1) rfl))),?_);walk_at "rd";have l1:=iO hn.2 hn.1;have l0:Str.empty.length=0:=rfl;have l3:s!"two pieces are called ".length=22:=by decide +kernel
 have sz:∀m:Nat,m<=400->m<=sizeLine:=λm h=>by rw[sizeLine_eq];lia
 refine(sz _ (by rw[cM];lia),sz _ (by lia),sz _ (by rw[cM,cM];lia),sz _ (by rw[cM,cM];lia),A.bo,none,ha,A.Lr,T.wq,sz _ (by decide),A.bo,A.Lr,none,ha,T.wq,T.ly,.inl (rfl,λd hd=>?_));have hne:d≠a:=Ne.symm (bD ha hd);refine k d _ hd hne (λb o hb q=>?_) ax ?_
 ·rw[ae hb,ae (bD q hd)];exact q
 ·rw[ae hne,ax]
def GQ:z∈addW W y↔z∈W\/z=y:=by
 unfold addW;split
 ·rename_i h;exact(.inl,λq=>q.elim id λe=>e▸h)
 ·simp
def FT{W:List Str}{z:Str}(h:z∉W):bE (W.map jL) (.inr z)=none:=by
 cases q:bE (W.map jL) (.inr z) with
 |none=>rfl
 |some v=>
  have a:=cX (.inr z:Key) (W.map jL);rw[q]at a;let(x,hx,e):=nZ.mp (a.trans rfl);let(y,hy,rfl):=aK.mp hx;exact absurd (Sum.inr.inj (of_decide_eq_true e:(Sum.inr y:Key)=Sum.inr z)▸hy) h
def AE{W:List Str}{z:Str}(h:z∈W):(bE (W.map jL) (.inr z)).isSome=true:=by
 rw[<-cX];exact nZ.mpr (jL z,aK.mpr (z,h,rfl),decide_eq_true rfl)
def tO:tW (ns++[y]) z↔tW ns z\/(z=y/\y∈ns):=by
 constructor
 ·rintro⟨i,j,hij,hi,hj⟩;by_cases h:j<ns.length
  ·rw[u6 h]at hj;rw[u6 (by lia)]at hi;exact .inl (i,j,hij,hi,hj)
  ·have hj2:=(fA.mp hj).1;rw[cw,Hu]at hj2;have ej:j=ns.length:=by lia
   rw[ej,zc (bJ _),Nat.sub_self]at hj;have ey:y=z:=Option.some.inj hj;rw[u6 (by lia)]at hi;exact .inr (ey.symm,by rw[ey];exact dZ hi)
 ·rintro (⟨i,j,hij,hi,hj⟩|⟨rfl,h⟩)
  ·have a:=(fA.mp hi).1;have b:=(fA.mp hj).1;exact(i,j,hij,by rw[u6 a];exact hi,by rw[u6 b];exact hj)
  ·let(i,hi):=HP h;have a:=(fA.mp hi).1;exact(i,ns.length,a,by rw[u6 a];exact hi,by rw[zc (bJ _),Nat.sub_self];rfl)
def DO(h:∀z,¬tW ns z):ns.Nodup:=by
 rw[List.Nodup,Gi];intro i j hi hj hij e;exact h ns[i] (i,j,hij,jw hi,by rw[e];exact jw hj)
def Se(T:Txt K mg A):Zm P w mg base T.Eh 3 (wx A):=by
 refine T.Eh.Tv rD ?_ ?_;walk_at "k"
 let(L,ps,rfl,hP,hl,hs,k,kx):=h;refine(_,(aL (pS 1 rD.nd cZ) (aL (pS 2 rD.nd (aF aa)) (aL (PS.zl (pF (fh (K:=K) rfl (pv 0)) (pn 3 rD.nd) (aL (aQ (kF (Bn (bO hr) (tx K (pv 3)) (pv 1))) (aU (dB (cT (pv 2) (ai (tx K (pv 3)) aa)))) bN) (aU (c_ <| dU (bO hr) (pv 1) (tx K (pv 3)) iw rfl))))) (aU (aQ (mS (pv 2) (λ_=>rfl)) (aU (kL (SV T) 'a' T.J_.b T.wq rfl T.v_ rfl lF (ai (bV (mL rfl (K:=K) rfl) (by rfl) T.tE nQ (ai (pv 2) aa)) aa))) bN))))),?_);walk_at "rd";refine λd hd=>(d6 _,λl hn=>?_);have s0:=(aJ (o:=HO.dK []) hd).trans (aJ (o:=HO.lst []) hn);have hln:H l=none:=(cz hn).2;have nld:l≠d:=(cz hn).1;refine dI.of (xs:=ps.map aj.v) (λi Z H'=>∃(b3:Option V) (W ag:List Str),Z=[some (.ref L),some (.ref d),some (.ref l),b3]/\au H H'/\H' l=some (.lst (ag.map V.str))/\H' d=some (.dK (W.map jL))/\W.length<=i/\ag.length<=i/\(∀z,z∈W↔z∈(ps.take i).map aj.name)/\∀z,z∈ag↔tW ((ps.take i).map aj.name) z)
  (_,[],[],rfl,s0,ax,by rw[ae (Ne.symm nld),ax];rfl,bJ _,bJ _,by simp,λz=>((λh=>by cases h),(λ(i,j,_,h,_)=>by simp at h))) ?_ ?_ ?_
 ·rintro i Z H' hi ⟨b3,W,ag,rfl,s1,_⟩;exact az.of (s1 _ _ hP.top)
 ·rintro i v Z H' hv ⟨b3,W,ag,rfl,s1,h1,h2,wl,al,wm,am⟩;walk_at "6";walk_at "7";have hi:=(fA.mp hp).1;have hm:=dZ hp;have pa:=s1 _ _ (hP.at_ p hm).top;have tk:(ps.take (i+1)).map aj.name=(ps.take i).map aj.name++[p.name]:=by rw[gY,hp,aV];rfl
  have g:=cU.k (k:=Sum.inr p.name) h2;have al2:=sU W p.name;have wm2:∀z,z∈addW W p.name↔z∈(ps.take (i+1)).map aj.name:=λz=>by rw[GQ,tk,wm];simp
  walk_at "rd";refine(_,bc.of pa,_,rfl,_,g,cH (λh=>?_) (λh=>?_))
  ·have inW:p.name∈W:=by
    by_cases m:p.name∈W
    ·exact m
    ·rw[FT m]at h;cases h
   have bt:eG H' (upd H' l (HO.lst (ag.map V.str++[V.str p.name]))) l:=eG.upd h1;refine(.inl (rfl,_,az.of h1),_,bc.of pa,_,rfl,_,h1,by rw[aD,sizeLine_eq];lia,_,bc.of (bt.tup pa),_,rfl,_,dQ.k (k:=Sum.inr p.name) (by rw[ae (Ne.symm nld)];exact h2) 'd',cg hd (cg hln s1),addW W p.name,ag++[p.name],by rw[ae nld,ax,aV];rfl,by rw[ax,Ik],by lia,by rw[cw];exact Nat.succ_le_succ al,wm2,λz=>?_);rw[tk,tO,bT,am,bU];exact(λq=>q.imp id λe=>(e,(wm _).mp inW),λq=>q.imp id λe=>e.1)
  ·have notW:p.name∉W:=λm=>h (AE m);refine(_,bc.of pa,_,rfl,_,dQ.k (k:=Sum.inr p.name) h2 'd',cg hd s1,addW W p.name,ag,by rw[ae nld];exact h1,by rw[ax,Ik],by lia,by lia,wm2,λz=>?_);rw[tk,tO,am];exact(.inl,λq=>q.elim id λe=>absurd ((wm _).mpr e.2) notW)
 ·rintro Z H' ⟨b3,W,ag,rfl,s1,h1,h2,wl,al,wm,am⟩;rw[aD,g9]at am;walk_at "rd";refine(!(ag.map V.str).isEmpty,.inl (_,az.of h1,rfl),?_);cases ag with
  |nil=>
   rw[if_neg (by decide)];exact k (DO λz hz=>by have:=(am z).mpr hz;cases this) H' s1
  |cons z0 zr=>
   rw[if_pos (by rfl)];refine(z0::zr,az.of h1,by simp,λm hm hl=>(by rw[sizeLine_eq];decide,λx hx=>?_));have dm:=(am m).mp hm;have sm:m.length<=16/\Sg m:=by
    let(i,j,_,hi,_):=id dm;let(p,hp,e):=aK.mp (dZ hi);rw[<-e];exact hs p hp
   refine(ax,sm.1,sm.2,λd2 H2 hd2 hne hk hx' hd'=>.inr (d2,hne,hx',_,hd',kx m d2 _ (λb o q=>?_) dm (λz' hz'=>hl z' ((am z').mpr hz')) ?_))
   ·have q2:=s1 _ _ q;have hb:=bD q2 hx;have hdn:=(cz hd2).2;rw[dJ hb,ae (bD q2 hdn)];exact hk b o hb (by rw[ae hb];exact q2)
   ·rw[dJ hne,ax];rfl
def JU(T:Txt K mg A):Z0 P w mg base T.uY 3 CD:=by
 refine T.uY.ok rX ?_ ?_;walk_at "k"
 let(L,ps,rfl,hP,hl,hb,k):=h;refine(_,(aL (pS 1 rX.nd cZ) (aL (pF (fh (K:=K) rfl (pv 0)) (pn 2 rX.nd) (aU (pF (fh (K:=K) rfl (cF (IL T) 'a' rfl T.GK T.rH.kp T.rH.b .nil aC (ai (pv 2) aa))) (pn 3 rX.nd) (aU (dB (vV (bO hr) (pv 1) (pv 3) (pv 2) (rfl,rfl,rfl,rfl))))))) (aU (aw (pv 1))))),?_);walk_at "rd";intro d hd;refine dI.of (xs:=ps.map aj.v) (λi Z H'=>∃(b2 b3:Option V) (kvs:List (Key×V)),Z=[some (.ref L),some (.ref d),b2,b3]/\au H H'/\H' d=some (.dK kvs)/\kvs.length<=61*i/\∀z,bE kvs (.inr z)=(bF (ps.take i) z).map aj.v)
  (_,_,[],rfl,aJ hd,ax,by simp,λz=>rfl) ?_ ?_ ?_
 ·rintro i Z H' hi ⟨b2,b3,kvs,rfl,s1,_⟩;exact az.of (s1 _ _ hP.top)
 ·rintro i v Z H' hv ⟨b2,b3,kvs,rfl,s1,h1,hk,hz⟩;walk_at "6";walk_at "7";have hm:=dZ hp;have hi:=(fA.mp hp).1;walk_at "8";walk_at "rd";refine(p,rfl,(hP.at_ p hm).mono s1,hb p hm,λl H2 s2 (ss,pm,pw,hl2) hn=>?_);have sl:ss.length<=61:=by rw[pm.length_eq];exact Gx (hb p hm)
  have nld:l≠d:=λe=>by rw[e,h1]at hn;cases hn
  refine dI.of (xs:=ss.map V.str) (λj Z H3=>∃(b3:Option V) (kvs':List (Key×V)),Z=[some (.ref L),some (.ref d),some p.v,b3]/\au H H3/\H3 l=some (.lst 'E')/\H3 d=some (.dK kvs')/\kvs'.length<=kvs.length+j/\∀z,bE kvs' (.inr z)=((bF (ps.take i) z).map aj.v).or (if z∈ss.take j then some p.v else none))
   (_,kvs,rfl,s1.trans s2,hl2,s2 _ _ h1,by lia,λz=>by rw[hz];simp) ?_ ?_ ?_
  ·rintro j Z H3 hj ⟨b3,kvs',rfl,s3,h3,_⟩;exact az.of h3
  ·rintro j v Z H3 hv ⟨b3,kvs',rfl,s3,h3,h4,hk',hz'⟩;walk_at "6";let(y,hy,rfl):=fC.mp hv;have hj:=(fA.mp hy).1;have tj:ss.take (j+1)=ss.take j++[y]:=by rw[gY,hy];rfl
   walk_at "rd";have gd:=cU.k (k:=Sum.inr y) h4;refine(.inl (_,.inl h4),_,gd,_,dQ.k (k:=Sum.inr y) h4 (by rw[sizeLine_eq];omega),λv hv=>(s3,h3,kvs',h4,by lia,λz=>?_),λhv=>(cg hd s3,by rw[ae nld];exact h3,_,ax,?_,λz=>?_))
   ·rw[hz',tj];by_cases e:z=y
    ·rw[e];have hv:=(hz' y).symm.trans hv;cases q:bF (ps.take i) y with
     |some u=>simp
     |none=>
      rw[q]at hv;have:y∈ss.take j:=by
       by_cases m:y∈ss.take j
       ·exact m
       ·rw[if_neg m]at hv;cases hv
      simp[this]
    ·simp[e]
   ·rw[nN _ hv,cw,Hu];lia
   ·rw[Ek,hz',tj];by_cases e:z=y
    ·rw[e,if_pos rfl];have hv:=(hz' y).symm.trans hv;cases q:bF (ps.take i) y with
     |some u=>rw[q]at hv;cases hv
     |none=>simp
    ·rw[if_neg (λh=>e (Sum.inr.inj h))];simp[e]
  ·rintro Z H3 ⟨b3,kvs',rfl,s3,h3,h4,hk',hz'⟩;rw[aD,g9]at hz';refine(_,_,rfl,s3,kvs',h4,by rw[aD]at hk';lia,λz=>?_);have e:(z∈ss)=(eC z (ao p)=true):=propext (pm.mem_iff.trans tT);rw[hz',tk];unfold bF;rw[RJ];cases q:(ps.take i).find? (λp=>eC z (ao p)) with
   |some u=>simp
   |none=>
    by_cases t:eC z (ao p)=true
    ·simp[e,t]
    ·simp[e,t]
 ·rintro Z H' ⟨b2,b3,kvs,rfl,s1,h1,hk,hz⟩;rw[aD,g9]at hz;walk_at "rd";exact k d H' s1 hd (kvs,h1,hz)
def Sn(T:Txt K mg A):Z0 P w mg base T.EM 1 AA:=by
 refine T.EM.ok Na ?_ ?_;walk_at "k"
 let(l,fs,rfl,hl,ha,hn,k):=h;refine(_,(aU (aw (cN (gX ["at", "rule", "name", "add", "soft"]) rfl (fh (K:=K) rfl (pv 0)) (λ_ _ _=>((cq <| cj (K:=K) (n:=5) rfl rfl (eA <| d7 (pn 0 'g') (eA <| d7 (pn 1 'g') (eA <| d7 (pn 2 'g') (eA <| d7 (pn 3 'g') (eA <| d7 (pn 4 'g') cu)))))),bR,(aR (ai (pv 0) (ai (pv 1) (ai (pv 2) (ai (pv 3) (ai (pv 4) aa))))))))))),?_);walk_at "rd";refine b_.of (xs:=fs.map ay.v) 'd' (az.of hl) (λD i ys H'=>∃gs:List ay,ys=gs.map ay.v/\au H H'/\H' D=some (.lst ys)/\(∀g∈gs,ay.At H' g)/\gs.map ay.e=(fs.take i).map ay.e)
  (λD hD=>([],rfl,aJ hD,ax,(λq hq=>by cases hq),rfl)) ?_ ?_ ?_
 ·rintro D i ys H' hD hi ⟨gs,rfl,s1,hDD,ga,e⟩;refine(az.of (s1 _ _ hl),hDD,?_);have:=congrArg List.length e;walk_at "9";rw[aD];lia
 ·rintro D i x ys H' hD hx ⟨gs,rfl,s1,hDD,ga,e⟩;walk_at "0";let(f,hf,rfl):=fC.mp hx;have fa:=s1 _ _ (ha f (dZ hf));walk_at "rd";refine(_,bc.of fa,rfl,_,_,rfl,_,_,rfl,_,_,rfl,_,_,rfl,_,_,rfl,rfl,.no (.no (.no (.no (.no .nil)))),by walk_at "s", λq hq=>?_);have s2:=aJ (o:=HO.tup [V.int f.at_,V.str f.rule,V.str f.name,V.int f.add,V.bl f.soft]) hq;refine(s2 _ _ hDD,gs++[{ f with a:=q }],by simp,cg hD 'n',ax,λg hg=>?_,?_)
  ·have bt:eG (upd H' q (HO.tup [V.int f.at_,V.str f.rule,V.str f.name,V.int f.add,V.bl f.soft])) (upd (upd H' q (HO.tup [V.int f.at_,V.str f.rule,V.str f.name,V.int f.add,V.bl f.soft])) D (HO.lst (gs.map ay.v++[V.ref q]))) D:=eG.upd (s2 _ _ hDD);rcases bT.mp hg with z|z
   ·exact ay.At.but (ay.At.mono (ga g z) s2) bt
   ·rw[bU.mp z];exact bt.tup ax
  ·rw[aV,e,gY,hf,aV];rfl
 ·rintro D ys H' hD ⟨gs,rfl,s1,hDD,ga,e⟩;walk_at "1";exact k D gs H' s1 hD hDD ga e
def Pj(T:Txt K mg A):Z0 P w mg base T.Cn 2 zQ:=by
 refine T.Cn.ok wN ?_ ?_;walk_at "k"
 let(p,rfl,hp,b1,b2,b3,k):=h;refine(_,(aL (eL (i:=1) wN.nd rfl (by walk_at "o") (gX ["kind", "step", "words", "fills"]) rfl (fh (K:=K) rfl 'r') (λ_ _ _=>((cq <| cj (K:=K) (n:=4) rfl rfl (eA <| d7 (pn 0 'g') (eA <| d7 (pn 1 'g') (eA <| d7 (pn 2 'g') (eA <| d7 (pn 3 'g') cu))))),bR,(aR (ai (pv 0) (ai (pv 1) (ai (lO (rO (K:=K) rfl) (by rfl) T.gB eN (ai (pv 2) aa)) (ai (cF (Sn T) 'a' rfl T.PZ T.EM.kp T.EM.b .nil aC (ai (pv 3) aa)) aa)))))))) (aL (eL (i:=2) wN.nd rfl (by walk_at "o") (gX ["name", "sort", "stretch", "offset"]) rfl (fh (K:=K) rfl 'r') (λ_ _ _=>((cq <| cj (K:=K) (n:=4) rfl rfl (eA <| d7 (pn 0 'g') (eA <| d7 (pn 1 'g') (eA <| d7 (pn 2 'g') (eA <| d7 (pn 3 'g') cu))))),bR,(aR (ai (pv 0) (ai (pv 1) (ai (pv 2) (ai (pv 3) aa)))))))) (aU (aw (aR (ai 'r' (ai (pv 1) (ai (pv 2) aa)))))))),?_);walk_at "rd";refine(_,bc.of hp.top,_,rfl,?_);refine b_.of (xs:=p.ba.map br.v) 'd' (az.of hp.sl) (λD i ys H'=>∃qs:List br,ys=qs.map br.v/\qs.map br.e=(p.ba.take i).map br.e/\au H H'/\H' D=some (.lst ys)/\(∀q∈qs,q.At H')/\(∀b∈qs.flatMap br.lists,H b=none/\b≠D)/\(qs.flatMap br.lists).Nodup)
  (λD hD=>([],rfl,rfl,aJ hD,ax,by simp,by simp,by simp)) ?_ ?_ ?_
 ·rintro D i ys H' hD hi ⟨qs,rfl,hc,sm,hDD,_⟩;refine(az.of (sm _ _ hp.sl),hDD,?_);have e:=congrArg List.length hc;rw[aD,aD]at e;rw[aD,e];exact List.length_take_le ..
 ·rintro D i x ys H' hD hx ⟨qs,rfl,hc,sm,hDD,hat,hnew,hnd⟩;walk_at "0";let(s,hs,rfl):=fC.mp hx;have hm:=dZ hs;have hs':=(hp.ss s hm).mono sm;walk_at "rd";refine(_,bc.of hs'.top,rfl,_,_,rfl,_,_,rfl,_,_,rfl,_,_,rfl,rfl,.no (.no (.no (.no .nil))),s.lw,rfl,_,.inl (az.of hs'.wd),λlw h1=>?_);have s1:=aJ (o:=HO.lst (s.words.map V.int)) h1;have ew:=@ax H' lw (HO.lst (s.words.map V.int));generalize upd H' lw _=H1 at *;refine(s.lf,rfl,s.fills,s1 _ _ hs'.fl,λf hf=>s1 _ _ (hs'.fs f hf),b3 s hm,λlf gs H2 s2 h2 el ga ge=>(by rw[sizeLine_eq];decide,λt h3=>?_));have s3:=aJ (o:=HO.tup [V.str s.kind,V.int s.step,V.ref lw,V.ref lf]) h3;have e1:upd H2 t (HO.tup [V.str s.kind,V.int s.step,V.ref lw,V.ref lf]) lw=some (HO.lst (s.words.map V.int)):=s3 _ _ (s2 _ _ ew);have e2:=s3 _ _ el;have e3:=@ax H2 t (HO.tup [V.str s.kind,V.int s.step,V.ref lw,V.ref lf]);have n2:lw≠lf:=bD ew h2;have d1:lw≠D:=Ne.symm (bD hDD h1);have d2:lf≠D:=Ne.symm (bD (s1 _ _ hDD) h2);have sA:='n'.trans s3;generalize upd H2 t _=H3 at *;have bt:eG H3 (upd H3 D (HO.lst (qs.map br.v++[V.ref t]))) D:=eG.upd (sA _ _ hDD);refine(sA _ _ hDD,qs++[(t,lw,lf,s.kind,s.step,s.words,gs)],by simp,?_,cg hD (sm.trans sA),ax,λq hq=>?_,λb hb=>?_,?_)
  ·rw[aV,hc,gY,hs,aV];congr 1;show [⟨s.kind,s.step,s.words,gs.map ay.e⟩]=[⟨s.kind,s.step,s.words,s.fills.map ay.e⟩];rw[ge]
  ·rcases bT.mp hq with z|z
   ·exact((hat q z).mono sA).but bt λy=>(hnew D (fU.mpr (q,z,y))).2 rfl
   ·rw[bU.mp z];exact(bt.tup e3,bt.2 _ _ e1 d1,bt.2 _ _ e2 d2,λf hf=>ay.At.but (ay.At.mono (ga f hf) s3) bt)
  ·rw[oJ]at hb;rcases bT.mp hb with z|z
   ·exact hnew b z
   ·simp[br.lists]at z;rcases z with e|e
    ·rw[e];exact(sm.free h1,d1)
    ·rw[e];exact((sm.trans s1).free h2,d2)
  ·rw[oJ];refine i6.mpr (hnd,by simp[br.lists,n2],λx hx y hy e=>?_);let(q,hq,hb'):=fU.mp hx;let(xs,he):=(hat q hq).list hb';simp[br.lists]at hy;rcases hy with z|z
   ·rw[e,z,h1]at he;cases he
   ·have:=s1 _ _ he;rw[e,z,h2]at this;cases this
 ·rintro D ys H' hD ⟨qs,rfl,hc,sm,hDD,hat,hnew,hnd⟩;rw[aD,g9]at hc;have hpm:=hp.mono sm;refine(_,bc.of hpm.top,_,rfl,?_);refine b_.of (xs:=p.aM.map aq.v) 'd' (az.of hpm.nl) (λD2 i ys H2=>∃gs:List aq,ys=gs.map aq.v/\au H' H2/\H2 D2=some (.lst ys)/\(∀g∈gs,aq.At H2 g)/\gs.map aq.e=(p.aM.take i).map aq.e)
   (λD2 hD2=>([],rfl,aJ hD2,ax,(λq hq=>by cases hq),rfl)) ?_ ?_ ?_
  ·rintro D2 i ys H2 hD2 hi ⟨gs,rfl,s1,hDD2,ga,e⟩;refine(az.of (s1 _ _ hpm.nl),hDD2,?_);have:=congrArg List.length e;walk_at "9";rw[aD];lia
  ·rintro D2 i x ys H2 hD2 hx ⟨gs,rfl,s1,hDD2,ga,e⟩;walk_at "0";let(f,hf,rfl):=fC.mp hx;have fa:=s1 _ _ (hpm.ns f (dZ hf));walk_at "rd";refine(_,bc.of fa,rfl,_,_,rfl,_,_,rfl,_,_,rfl,_,_,rfl,rfl,.no (.no (.no (.no .nil))),by walk_at "s", λq hq=>?_);have s2:=aJ (o:=HO.tup [V.str f.name,V.str f.sort,V.int f.st,V.int f.off]) hq;refine(s2 _ _ hDD2,gs++[{ f with a:=q }],by simp,cg hD2 'n',ax,λg hg=>?_,?_)
   ·have bt:eG (upd H2 q (HO.tup [V.str f.name,V.str f.sort,V.int f.st,V.int f.off])) (upd (upd H2 q (HO.tup [V.str f.name,V.str f.sort,V.int f.st,V.int f.off])) D2 (HO.lst (gs.map aq.v++[V.ref q]))) D2:=eG.upd (s2 _ _ hDD2);rcases bT.mp hg with z|z
    ·exact aq.At.but (aq.At.mono (ga g z) s2) bt
    ·rw[bU.mp z];exact bt.tup ax
   ·rw[aV,e,gY,hf,aV];rfl
  ·rintro D2 ys H2 hD2 ⟨gs,rfl,s1,hDD2,ga,e⟩;walk_at "1";refine(_,bc.of (s1 _ _ hpm.top),_,rfl,by walk_at "s", λt ht=>?_);have s2:=aJ (o:=HO.tup [V.str p.name,V.ref D,V.ref D2]) ht;have nl:∀b∈qs.flatMap br.lists,b≠D2:=λb hb=>by
    let(q,hq,hb'):=fU.mp hb;let(xs,e):=(hat q hq).list hb';exact bD e hD2
   refine k (t,D,D2,p.name,qs,gs) _ ((sm.trans s1).trans s2) (ax,s2 _ _ (s1 _ _ hDD),s2 _ _ hDD2,λq hq=>(hat q hq).mono 'n',λn hn=>aq.At.mono (ga n hn) s2) ?_ (λb hb=>?_) ?_
   ·unfold ao;rw[hc,e]
   ·simp only[aj.lists,List.mem_cons]at hb;rcases hb with e|e|e
    ·rw[e];exact hD
    ·rw[e];exact sm.free hD2
    ·exact(hnew b e).1
   ·show(D::D2::qs.flatMap br.lists).Nodup;refine i_.mpr (λz=>?_,i_.mpr (λz=>nl D2 z rfl,hnd));rcases eP.mp z with e|e
    ·exact bD hDD hD2 e
    ·exact(hnew D e).2 rfl
theorem jr.l1(t:jr):List.lookup s!"pieces" t.attrs=some (.ref t.lp):=rfl
theorem jr.l2(t:jr):List.lookup s!"reasons" t.attrs=some (.ref t.lr):=rfl
theorem jr.l3(t:jr):List.lookup s!"told_by_given" t.attrs=some (.ref t.dg):=rfl
theorem jr.l4(t:jr):List.lookup s!"on_shelves" t.attrs=some (.ref t.ds):=rfl
theorem jr.l5(t:jr):List.lookup s!"from_shelves" t.attrs=some (.ref t.df):=rfl
theorem jr.l6(t:jr):List.lookup s!"unmet" t.attrs=some (.ref t.du):=rfl
theorem Ft(o:qm C H t G S T rs us)(kp:HJ t H H'){b:Addr}{xs:List V}(h:H b=some (.lst xs))(n1:b≠t.lp)(n2:b≠t.lr):H' b=some (.lst xs):=kp b _ n1 n2 (λe=>by rw[e,o.df]at h;cases h) (λe=>by rw[e,o.du]at h;cases h) h
theorem mJ(o:qm C H t G S T rs us)(kp:HJ t H H'){b:Addr}{xs:List V}(h:H b=some (.tup xs)):H' b=some (.tup xs):=kp b _ (λe=>by rw[e,o.lp]at h;cases h) (λe=>by rw[e,o.lr]at h;cases h) (λe=>by rw[e,o.df]at h;cases h) (λe=>by rw[e,o.du]at h;cases h) h
def RW(o:qm C H t G S T rs us)(kp:HJ t H H'){p:aj}(h:p.At H)(n1:t.lp∉p.lists)(n2:t.lr∉p.lists):p.At H':=by
 have ls:∀b∈p.lists,∀xs,H b=some (.lst xs)->H' b=some (.lst xs):=λb hb xs e=>Ft o kp e (λq=>n1 (q▸hb)) (λq=>n2 (q▸hb));refine(mJ o kp h.top,ls _ (by simp[aj.lists]) _ h.sl,ls _ (by simp[aj.lists]) _ h.nl,λs hs=>?_,λn hn=>mJ o kp (h.ns n hn));have hs':=h.ss s hs;have m:∀b∈s.lists,b∈p.lists:=λb hb=>by
  simp only[aj.lists,List.mem_cons];exact .inr (.inr (fU.mpr (s,hs,hb)))
 exact(mJ o kp hs'.top,ls _ (m _ (by simp[br.lists])) _ hs'.wd,ls _ (m _ (by simp[br.lists])) _ hs'.fl,λf hf=>mJ o kp (hs'.fs f hf))
def len_sub{l m:List Str}(h:l.Nodup)(s:∀x∈l,x∈m):l.length<=m.length:=by
 induction l generalizing m with
 |nil=>exact d6 _
 |cons x r ih=>
  let(h1,h2):=i_.mp h;have hx:=s x mm;have:=ih (m:=m.erase x) h2 λy hy=>(List.mem_erase_of_ne (λ(e:y=x)=>h1 (e▸hy))).mpr (s y (jQ _ hy));rw[List.length_erase_of_mem hx]at this;have:=List.length_pos_of_mem hx;rw[oY];lia
def jE{ps:List aj}(nd:(ps.map aj.name).Nodup){p q:aj}(hp:p∈ps)(hq:q∈ps)(e:p.name=q.name):p=q:=by
 induction ps with
 |nil=>cases hp
 |cons x r ih=>
  rw[iS,i_]at nd;rcases eP.mp hp with a|a<;>rcases eP.mp hq with b|b
  ·rw[a,b]
  ·exact absurd (aK.mpr (q,b,by rw[<-e,a])) nd.1
  ·exact absurd (aK.mpr (p,a,by rw[e,b])) nd.1
  ·exact ih nd.2 a b
def jj.snoc(h:jj G S e T rs)(h1:dy G z=none)(h2:dy S z=some p)(n:p.1∉T.map (·.1))(wy:b=s!"" /\ z=e\/∃q∈G++T,q.1=b/\bM z q=true):jj G S e (T++[p]) (rs++[⟨p.1,z,b⟩]):=by
 have hl:rs.length=T.length:=by have:=congrArg List.length h.len;rwa [aD,aD]at this
 refine(?_,λq hq=>?_,by rw[aV,aV,h.len];rfl,λi q r hq hr=>?_)
 ·rw[aV];exact i6.mpr (h.nd,by simp,λx hx y hy e=>n (by rw[List.map_cons,List.map_nil,List.mem_singleton]at hy;rw[<-hy,<-e];exact hx))
 ·rcases bT.mp hq with y|y
  ·exact h.sub q y
  ·rw[bU.mp y];exact vM h2
 ·by_cases hi:i<T.length
  ·rw[u6 hi]at hq;rw[u6 (by lia)]at hr;rw[QE (by lia)];exact h.RD i q r hq hr
  ·have hi2:i=T.length:=by
    have:=(fA.mp hq).1;rw[cw,Hu]at this;lia
   rw[hi2,zc (bJ _),Nat.sub_self]at hq;rw[hi2,<-hl,zc (bJ _),Nat.sub_self]at hr;have hq:=Option.some.inj hq;have hr:=Option.some.inj hr;rw[<-hq,<-hr,hi2,QE (bJ _),g9];exact(h1,h2,wy)
def vm(bd:K0 G S e)(tc:jj (G.map ao) (S.map ao) e (T.map ao) rs)(sub:∀p∈T,p∈S):(G++T).length<=16:=by
 have h1:=tc.nd;have:(T.map aj.name).length<=(S.map aj.name).length:=len_sub (by rw[d9]at h1;exact h1) λy hy=>by
  let(u,hu,rfl):=aK.mp hy;exact aK.mpr (u,sub u hu,rfl)
 walk_at "4";have b:=bd.cY;rw[cw]at b ⊢;lia
theorem jx(U:List Co)(h:iZ G S T z):iZ G S (T++U) z:=h.imp id λ(p,hp,e)=>(p,eD _ hp,e)
theorem qm.mono{C:Addr}{H H':Hp}{t:jr}{G S T:List aj}{rs:List AZ}{us:List (Str×Str)}(o:qm C H t G S T rs us)(s:au H H'):qm C H' t G S T rs us:=
 (s _ _ o.top,s _ _ o.lp,s _ _ o.lr,λr hr=>s _ _ (o.rs r hr),o.dg.imp λ_ h=>(s _ _ h.1,h.2),o.ds.imp λ_ h=>(s _ _ h.1,h.2),s _ _ o.df,s _ _ o.du,λp hp=>have h:=o.at_ p hp;(h.1.mono s,h.2),o.ne,o.nf,o.nu,o.sub)
def yw{us:List (Str×Str)}(nd:(us.map (·.1)).Nodup){p q:Str×Str}(hp:p∈us)(hq:q∈us)(e:p.1=q.1):p=q:=by
 induction us with
 |nil=>cases hp
 |cons x r ih=>
  rw[iS,i_]at nd;rcases eP.mp hp with a|a<;>rcases eP.mp hq with b|b
  ·rw[a,b]
  ·exact absurd (aK.mpr (q,b,by rw[<-e,a])) nd.1
  ·exact absurd (aK.mpr (p,a,by rw[e,b])) nd.1
  ·exact ih nd.2 a b
def yj(nd:(us.map (·.1)).Nodup){u:Str×Str}(h:u∈us):bE (mX us) (.inr u.1)=some (.str u.2):=by
 induction us with
 |nil=>cases h
 |cons x r ih=>
  rw[iS,i_]at nd;show bE (⟨.inr x.1,.str x.2⟩::mX r) (.inr u.1)=_;rcases eP.mp h with e|e
  ·rw[e];exact cf (p:=⟨(Sum.inr x.1:Key),V.str x.2⟩) rfl
  ·have ne:¬⟨(Sum.inr x.1:Key),V.str x.2⟩.1=Sum.inr u.1:=λz=>nd.1 (by rw[Sum.inr.inj z];exact aK.mpr (u,e,rfl));rw[bZ ne];exact ih nd.2 e
def Jk(h:z∉us.map (·.1)):bE (mX us) (.inr z)=none:=by
 cases q:bE (mX us) (.inr z) with
 |none=>rfl
 |some v=>
  have a:=cX (.inr z:Key) (mX us);rw[q]at a;let(x,hx,e):=nZ.mp (a.trans rfl);let(y,hy,rfl):=aK.mp hx;exact absurd (aK.mpr (y,hy,Sum.inr.inj (of_decide_eq_true e:(Sum.inr y.1:Key)=Sum.inr z))) h
def kR(us:List (Str×Str))(z b:Str):List (Str×Str):=if z∈us.map (·.1) then us.map λu=>if u.1=z then ⟨z,gI b u.2⟩ else u else us++[⟨z,b⟩]
def rR(a b:Str):h9 (gI a b) a/\h9 (gI a b) b/\(gI a b=a\/gI a b=b):=by
 unfold gI;split
 ·rename_i h;exact(List.le_of_lt (of_decide_eq_true h),Ji _,.inr rfl)
 ·rename_i h;exact(Ji _,Gr.mp λz=>h (decide_eq_true z),.inl rfl)
def zY(us:List (Str×Str))(z b:Str):(kR us z b).map (·.1)=if z∈us.map (·.1) then us.map (·.1) else us.map (·.1)++[z]:=by
 unfold kR;split
 ·rw[d9];refine xh λu _=>?_;show(if u.1=z then ⟨z,gI b u.2⟩ else u).1=u.1;split
  ·rename_i h;exact h.symm
  ·rfl
 ·rw[aV];rfl
def GX{us:List (Str×Str)}{D:Str->Str->Prop}{z b:Str}{G S:List Co}(h:dC us D)(hz:¬cI G S z):dC (kR us z b) (IS D G S z b):=by
 refine(?_,λu hu=>?_,λz' b' hd=>?_)
 ·rw[zY];split
  ·exact h.nd
  ·rename_i n;exact i6.mpr (h.nd,by simp,λx hx y hy e=>n (by rw[List.mem_singleton.mp hy]at e;rw[<-e];exact hx))
 ·unfold kR at hu;split at hu
  ·let(v,hv,rfl):=aK.mp hu;by_cases e:v.1=z
   ·rw[if_pos e];rcases (rR b v.2).2.2 with q|q
    ·exact .inr (hz,rfl,q)
    ·refine .inl ?_;show D z (gI b v.2);rw[q,<-e];exact h.zo v hv
   ·rw[if_neg e];exact .inl (h.zo v hv)
  ·rcases bT.mp hu with y|y
   ·exact .inl (h.zo u y)
   ·rw[bU.mp y];exact .inr (hz,rfl,rfl)
 ·unfold kR;split
  ·rename_i hin;rcases hd with hd|⟨_,rfl,rfl⟩
   ·let(u,hu,e1,e2):=h.all z' b' hd;by_cases e:u.1=z
    ·exact(⟨z,gI b u.2⟩,aK.mpr (u,hu,if_pos e),by rw[<-e1];exact e.symm,kB (rR b u.2).2.1 e2)
    ·exact(u,aK.mpr (u,hu,if_neg e),e1,e2)
   ·let(u,hu,e):=aK.mp hin;exact(⟨z',gI b' u.2⟩,aK.mpr (u,hu,if_pos e),rfl,(rR b' u.2).1)
  ·rcases hd with hd|⟨_,rfl,rfl⟩
   ·let(u,hu,e):=h.all z' b' hd;exact(u,eD _ hu,e)
   ·exact(⟨z',b'⟩,eW _ (by simp),rfl,List.le_refl _)
def EK(us:List (Str×Str))(z b:Str):(kR us z b).length<=us.length+1:=by
 unfold kR;split
 ·rw[aD];lia
 ·rw[cw];exact bJ _
def F4(h:z∉us.map (·.1)):putK (mX us) (.inr z) (.str b)=mX (kR us z b):=by
 rw[nN _ (Jk h)];unfold kR;rw[if_neg h];unfold mX;rw[aV];rfl
def CV(nd:(us.map (·.1)).Nodup){u:Str×Str}(hu:u∈us)(e:u.1=z):putK (mX us) (.inr z) (.str (gI b u.2))=mX (kR us z b):=by
 have h:z∈us.map (·.1):=aK.mpr (u,hu,e);unfold kR putK;rw[if_pos h];have a:((mX us).any λkv=>decide (kv.1=(.inr z:Key)))=true:=nZ.mpr (_,aK.mpr (u,hu,rfl),decide_eq_true (by rw[e]));rw[if_pos a];unfold mX;rw[d9,d9];refine xh λv hv=>?_;show(if (Sum.inr v.1:Key)=Sum.inr z then ⟨(Sum.inr v.1:Key),V.str (gI b u.2)⟩ else ⟨Sum.inr v.1,V.str v.2⟩)=⟨Sum.inr (if v.1=z then ⟨z,gI b v.2⟩ else v).1,V.str (if v.1=z then ⟨z,gI b v.2⟩ else v).2⟩;by_cases q:v.1=z
 ·have:v=u:=by
   have hp:=nd;exact yw nd hv hu (q.trans e.symm)
  rw[if_pos (by rw[q]),if_pos q,this,q.symm,this]
 ·rw[if_neg (λy=>q (Sum.inr.inj y)),if_neg q]
def qm.Wd{C:Addr}{H:Hp}{t:jr}{G S T:List aj}{rs:List AZ}{us us':List (Str×Str)}(o:qm C H t G S T rs us):qm C (upd H t.du (.dK (mX us'))) t G S T rs us':=by
 have nl:∀{b:Addr}{xs:List V},H b=some (.lst xs)->upd H t.du (.dK (mX us')) b=some (.lst xs):=λ{b xs} e=>by rw[ae (λz=>by rw[z,o.du]at e;cases e)];exact e
 have nt:∀{b:Addr}{xs:List V},H b=some (.tup xs)->upd H t.du (.dK (mX us')) b=some (.tup xs):=λ{b xs} e=>by rw[ae (λz=>by rw[z,o.du]at e;cases e)];exact e
 have lt:eB H (upd H t.du (.dK (mX us'))):=λb u h e=>by
  rcases h with ⟨xs,rfl⟩|⟨xs,rfl⟩
  ·exact nl e
  ·exact nt e
 let(kg,hg,vg):=o.dg;let(ks,hs,vs):=o.ds;exact(by rw[ae (λz=>by have:=o.top;rw[z,o.du]at this;cases this)];exact o.top,nl o.lp,nl o.lr,λr hr=>nt (o.rs r hr),(kg,by rw[ae o.nu.1];exact hg,vg),(ks,by rw[ae o.nu.2];exact hs,vs),by rw[ae (Ne.symm o.nf.2.2)];exact o.df,ax,λp hp=>have h:=o.at_ p hp;(nH lt h.1,h.2),o.ne,o.nf,o.nu,o.sub)
theorem dC.keep{us:List (Str×Str)}{D:Str->Str->Prop}{z b:Str}{G S:List Co}(h:dC us D)(m:cI G S z):dC us (IS D G S z b):=(h.nd,λu hu=>.inl (h.zo u hu),λz' b' hd=>hd.elim (h.all z' b') λq=>absurd m q.1)
def JE(T:Txt K mg A):Z0 P w mg base T.Dv 1 (wM A.aO):=by
 refine T.Dv.ok FA ?_ ?_;walk_at "k"
 let(t,z,b,e,G,S,Tp,rs,us,D,rfl,o,bd,tc,uo,ul,wy,k):=h;refine(_,(aL (aQ (kF (Bn (bO hr) (pv 1) (fj (pv 0) rfl))) (aU sC) bN) (aL (aQ (kF (iG (bO hr) (pv 1) (fj (pv 0) rfl))) (aL (c_ <| dU (bO hr) (fj (pv 0) rfl) (pv 1) (bV (vd rfl) (by rfl) T.tE nQ (ai (pv 2) (ai (tM (bO hr) (fj (pv 0) rfl) (pv 1) (pv 2) (rfl,rfl,rfl,rfl)) aa))) rfl) (aU sC)) bN) (aL (pS 3 FA.nd (c6 <| dX (bO hr) (fj (pv 0) rfl) (pv 1) (λ_ _=>rfl))) (aU (aQ (kF (iG (bO hr) (tx K (pv 3)) (fj (pv 0) rfl))) (aL (c_ <| dU (bO hr) (fj (pv 0) rfl) (tx K (pv 3)) iw rfl) (aL (dB (cT (fj (pv 0) rfl) (ai (pv 3) aa))) (aU (dB (cT (fj (pv 0) rfl) (ai (aR (ai (tx K (pv 3)) (ai (pv 1) (ai (pv 2) aa)))) aa)))))) bN))))),?_);walk_at "rd";let(kg,hkg,vg):=o.dg;let(ks,hks,vs):=o.ds;have gg:=cU.k (k:=Sum.inr z) hkg;have gs:=cU.k (k:=Sum.inr z) hks;rw[vg]at gg;rw[vs]at gs;have fG:=eT G z;have fS:=eT S z;refine(_,_,_,o.top,T.bH,T.d3,_,t.l3,t.dg,rfl,_,gg,cH (λh=>?_) (λh=>?_))
 ·have mz:cI (G.map ao) (S.map ao) z:=.inl (by rw[fG,MM];rw[MM]at h;exact h);refine k [] rs us H (by rw[n9];exact o) (λb o _ _ _ _ e=>e) (by rw[n9];exact tc) (λ_=>.inl ?_) (uo.keep mz) (xS _);rw[fG];cases q:bF G z with
  |none=>rw[q]at h;cases h
  |some u=>rfl
 ·have nG:bF G z=none:=by
   cases q:bF G z with
   |none=>rfl
   |some u=>rw[q]at h;exact absurd rfl h
  rw[nG]at fG;cases q:bF S z with
  |none=>
   rw[q]at gs fS;have nz:¬cI (G.map ao) (S.map ao) z:=λm=>by
    rcases m with m|m
    ·rw[fG]at m;cases m
    ·rw[fS]at m;cases m
   refine(_,_,_,o.top,T.bH,T.cC,_,t.l4,t.ds,rfl,_,gs,?_);rw[if_pos (by simp)];have gu:=cU.k (k:=Sum.inr z) o.du;have hub:(mX us).length<sizeLine:=by unfold mX;rw[List.length_map,sizeLine_eq];lia
   have fin:∀v,putK (mX us) (.inr z) (.str v)=mX (kR us z b)->∃x_7,dQ H t.du (V.str z) (V.str v) x_7/\Q V.bw x_7:=λv ev=>by
    refine(_,dQ.k (k:=Sum.inr z) o.du hub,?_);rw[ev];refine k [] rs (kR us z b) _ (by rw[n9];exact o.Wd) (λc u _ _ _ n h=>by rw[ae n];exact h) (by rw[n9];exact tc) (λm=>absurd m nz) (GX uo nz) (EK us z b)
   refine(_,_,_,o.top,T.bH,T.ck,_,t.l6,t.du,rfl,.inl (_,.inl o.du),_,gu,?_);by_cases m:z∈us.map (·.1)
   ·let(u,hu,eu):=aK.mp m;have lk:=yj uo.nd hu;rw[eu]at lk;exact(u.2,by rw[lk];rfl,_,_,_,o.top,T.bH,T.ck,_,t.l6,t.du,rfl,fin _ (CV uo.nd hu eu))
   ·have mb:gI b b=b:=by unfold gI;split<;>rfl
    exact(b,by rw[Jk m];rfl,_,_,_,o.top,T.bH,T.ck,_,t.l6,t.du,rfl,fin _ (by rw[mb];exact F4 m))
  |some p=>
   rw[q]at gs fS;have pS:p∈S:=vM q;have mz:cI (G.map ao) (S.map ao) z:=.inr (by rw[fS];rfl);let(pa,n1,n2):=o.at_ p (eW _ pS);refine(_,_,_,o.top,T.bH,T.cC,_,t.l4,t.ds,rfl,_,gs,?_);rw[if_neg (by simp)];have ndS:(S.map aj.name).Nodup:=by have:=bd.nd;rw[aV]at this;exact(i6.mp this).2.1
   have gf:=cU.k (k:=Sum.inr p.name) o.df;refine(_,_,_,o.top,T.bH,T.cC,_,t.l4,t.ds,rfl,_,gs,_,rfl,_,bc.of pa.top,_,rfl,_,_,_,o.top,T.bH,T.cR,_,t.l5,t.df,rfl,_,gf,?_);by_cases m:p.name∈Tp.map aj.name
   ·rw[Ff m,if_neg (by decide)];let(u,hu,eu):=aK.mp m;have eu:=jE ndS (o.sub u hu) pS eu;exact k [] rs us H (by rw[n9];exact o) (λb o _ _ _ _ e=>e) (by rw[n9];exact tc) (λ_=>.inr (ao p,aK.mpr (p,by rw[n9,<-eu];exact hu,rfl),fS)) (uo.keep mz) (xS _)
   ·rw[Gy m,if_pos (by decide)];have hl:Tp.length<=16:=by
     have h1:=tc.nd;have:(Tp.map aj.name).length<=(S.map aj.name).length:=len_sub (by rw[d9]at h1;exact h1) λy hy=>by
      let(u,hu,rfl):=aK.mp hy;exact aK.mpr (u,o.sub u hu,rfl)
     walk_at "4";have b:=bd.cY;rw[cw]at b;lia
    have hlG:G.length<=16:=by have b:=bd.cY;rw[cw]at b;lia
    have hrl:rs.length=Tp.length:=by have:=congrArg List.length tc.len;rwa [aD,aD,aD,aD]at this
    have nx1:t.x≠t.df:=λe=>by have:=o.top;rw[e,o.df]at this;cases this
    have nx2:t.x≠t.lp:=λe=>by have:=o.top;rw[e,o.lp]at this;cases this
    have nx3:t.x≠t.lr:=λe=>by have:=o.top;rw[e,o.lr]at this;cases this
    have nl1:t.lp≠t.df:=λe=>by have:=o.lp;rw[e,o.df]at this;cases this
    have nl2:t.lr≠t.df:=λe=>by have:=o.lr;rw[e,o.df]at this;cases this
    have np1:p.t≠t.df:=λe=>by have:=pa.top;rw[e,o.df]at this;cases this
    have np2:p.t≠t.lp:=λe=>by have:=pa.top;rw[e,o.lp]at this;cases this
    refine(_,_,_,o.top,T.bH,T.cR,_,t.l5,_,rfl,_,bc.of pa.top,_,rfl,t.df,rfl,_,dQ.k (k:=Sum.inr p.name) o.df (by rw[aD,aD,sizeLine_eq];lia),?_);rw[Ik];unfold addW;rw[if_neg m];have a1:=@ax H t.df (HO.dK ((Tp.map aj.name++[p.name]).map jL));have k1:∀b u,b≠t.df->H b=some u->upd H t.df (HO.dK ((Tp.map aj.name++[p.name]).map jL)) b=some u:=λb u n e=>by rw[ae n];exact e
    generalize upd H t.df _=H1 at *;have lp1:=k1 _ _ nl1 o.lp;refine(_,_,_,k1 _ _ nx1 o.top,T.bH,T.cW,_,t.l1,.inl (rfl,_,az.of lp1),t.lp,rfl,_,lp1,by rw[aD,cw,sizeLine_eq];lia,?_);have a2:=@ax H1 t.lp (HO.lst ((G++Tp).map aj.v++[V.ref p.t]));have k2:∀b u,b≠t.lp->H1 b=some u->upd H1 t.lp (HO.lst ((G++Tp).map aj.v++[V.ref p.t])) b=some u:=λb u n e=>by rw[ae n];exact e
    generalize upd H1 t.lp _=H2 at *;have lr2:=k2 _ _ (Ne.symm o.ne) (k1 _ _ nl2 o.lr);refine(_,_,_,k2 _ _ nx2 (k1 _ _ nx1 o.top),T.bH,T.ip,_,t.l2,.inl (rfl,_,az.of lr2),_,rfl,_,bc.of (k2 _ _ np2 (k1 _ _ np1 pa.top)),_,rfl,by walk_at "s", λr hr=>(t.lr,rfl,_,aJ hr _ _ lr2,by rw[aD,sizeLine_eq];lia,?_));have s3:=aJ (o:=HO.tup [V.str p.name,V.str z,V.str b]) hr;have a3:=@ax H2 r (HO.tup [V.str p.name,V.str z,V.str b]);generalize upd H2 r _=H3 at *;have k4:∀b u,b≠t.lr->H3 b=some u->upd H3 t.lr (HO.lst (rs.map (λr=>V.ref r.1)++[V.ref r])) b=some u:=λb u n e=>by rw[ae n];exact e
    have kp:HJ t H (upd H3 t.lr (HO.lst (rs.map (λr=>V.ref r.1)++[V.ref r]))):=λb u m1 m2 m3 _ e=>k4 b u m2 (s3 _ _ (k2 _ _ m1 (k1 _ _ m3 e)));have nr:r≠t.lr:=Ne.symm (bD lr2 hr);refine k [p] (rs++[⟨r,p.name,z,b⟩]) us _ (?_,?_,?_,?_,?_,?_,?_,?_,?_,o.ne,o.nf,o.nu,?_) kp ?_ (λ_=>?_) (uo.keep mz) (xS _)
    ·exact kp _ _ nx2 nx3 nx1 (λe=>by have:=o.top;rw[e,o.du]at this;cases this) o.top
    ·rw[<-tD,aV];exact k4 _ _ o.ne (s3 _ _ a2)
    ·rw[ax,aV];rfl
    ·intro y hy;rcases bT.mp hy with c|c
     ·exact mJ o kp (o.rs y c)
     ·rw[bU.mp c];exact k4 _ _ nr a3
    ·exact(kg,kp _ _ (λe=>by rw[e,o.lp]at hkg;cases hkg) (λe=>by rw[e,o.lr]at hkg;cases hkg) o.nf.1 o.nu.1 hkg,vg)
    ·exact(ks,kp _ _ (λe=>by rw[e,o.lp]at hks;cases hks) (λe=>by rw[e,o.lr]at hks;cases hks) o.nf.2.1 o.nu.2 hks,vs)
    ·rw[aV];exact k4 _ _ (Ne.symm nl2) (s3 _ _ (k2 _ _ (Ne.symm nl1) a1))
    ·have du:=o.du;exact k4 _ _ (λe=>by rw[e,o.lr]at du;cases du) (s3 _ _ (k2 _ _ (λe=>by rw[e,o.lp]at du;cases du) (k1 _ _ o.nf.2.2 du)))
    ·intro y hy;let(ya,m1,m2):=o.at_ y hy;exact(RW o kp ya m1 m2,m1,m2)
    ·intro y hy;rcases bT.mp hy with c|c
     ·exact o.sub y c
     ·rw[bU.mp c];exact pS
    ·rw[aV,aV];refine tc.snoc fG fS (λc=>m ?_) (wy.imp id λ(y,hy,e1,e2)=>(ao y,by rw[<-aV];exact aK.mpr (y,hy,rfl),e1,e2));rw[d9]at c;exact c
    ·exact .inr (ao p,aK.mpr (p,by simp,rfl),fS)
def Od(G S:List Co)(e:Str)(ps:List aj)(z b:Str):Prop:=¬cI G S z/\(b=s!"" /\ z=e\/∃q∈ps,q.name=b/\bM z (ao q)=true)
theorem dC.iff{us:List (Str×Str)}{D D':Str->Str->Prop}(h:dC us D)(i:∀z b,D z b↔D' z b):dC us D':=(h.nd,λu hu=>(i _ _).mp (h.zo u hu),λz b hd=>h.all z b ((i z b).mpr hd))
theorem dC.Yb{us:List (Str×Str)}{G S:List Co}{e:Str}{ps:List aj}(h:dC us (λz b=>¬cI G S z/\b=s!"" /\ z=e)):dC us (Od G S e (ps.take 0)):=h.iff λz b=>(λq=>(q.1,.inl q.2),λq=>(q.1,q.2.elim id λ(u,hu,_)=>by simp at hu))
theorem dC.Yu{us:List (Str×Str)}{D:Str->Str->Prop}{G S:List Co}{ss:List Str}{n:Str}(h:dC us D):dC us (λz b=>D z b\/(¬cI G S z/\z∈ss.take 0/\b=n)):=h.iff λz b=>(.inl,λq=>q.elim id λy=>by simp at y)
theorem dC.Qy{us:List (Str×Str)}{D:Str->Str->Prop}{G S:List Co}{ts:List Str}{y n:Str}(h:dC us (IS (λz b=>D z b\/(¬cI G S z/\z∈ts/\b=n)) G S y n)):dC us (λz b=>D z b\/(¬cI G S z/\z∈ts++[y]/\b=n)):=h.iff λz b=>by
 constructor
 ·rintro ((q|⟨q1,q2,q3⟩)|⟨q1,rfl,rfl⟩)
  ·exact .inl q
  ·exact .inr (q1,eD _ q2,q3)
  ·exact .inr (q1,by simp,rfl)
 ·rintro (q|⟨q1,q2,q3⟩)
  ·exact .inl (.inl q)
  ·rcases bT.mp q2 with a|a
   ·exact .inl (.inr (q1,a,q3))
   ·have a:=bU.mp a;exact .inr (a▸q1,a,q3)
theorem dC.Qj{us:List (Str×Str)}{G S:List Co}{e:Str}{ps:List aj}{p:aj}{ss:List Str}(h:dC us (λz b=>Od G S e ps z b\/(¬cI G S z/\z∈ss/\b=p.name)))(hs:∀z,z∈ss↔bM z (ao p)=true):dC us (Od G S e (ps++(some p).toList)):=h.iff λz b=>by
 constructor
 ·rintro (⟨q1,q|⟨u,hu,q⟩⟩|⟨q1,q2,q3⟩)
  ·exact(q1,.inl q)
  ·exact(q1,.inr (u,eD _ hu,q))
  ·exact(q1,.inr (p,by simp,q3.symm,(hs z).mp q2))
 ·rintro⟨q1,q|⟨u,hu,q2,q3⟩⟩
  ·exact .inl (q1,.inl q)
  ·rcases bT.mp hu with a|a
   ·exact .inl (q1,.inr (u,a,q2,q3))
   ·have a:u=p:=by simpa using a
    rw[a]at q2 q3;exact .inr (q1,(hs z).mpr q3,q2.symm)
theorem dC.XZ{us:List (Str×Str)}{G S T:List aj}{e:Str}(h:dC us (Od (G.map ao) (S.map ao) e (G++T))):dC us (Dm (G.map ao) (S.map ao) e (T.map ao)):=h.iff λz b=>by
 constructor
 ·rintro⟨q1,q|⟨u,hu,q⟩⟩
  ·exact(q1,.inl q)
  ·exact(q1,.inr (ao u,by rw[<-aV];exact aK.mpr (u,hu,rfl),q))
 ·rintro⟨q1,q|⟨c,hc,q⟩⟩
  ·exact(q1,.inl q)
  ·rw[<-aV]at hc;let(u,hu,rfl):=aK.mp hc;exact(q1,.inr (u,hu,q))
def SA(T:Txt K mg A):Z0 P w mg base T.JK 3 (Mt A.aO):=by
 refine T.JK.ok mM ?_ ?_;walk_at "k"
 let(t,e,G,S,Tp,rs,us,rfl,o,bd,tc,cv,uo,ul,k):=h;refine(_,(aL (pS 1 mM.nd af) (aU (uV PassesOwn.never (bI jg (pv 1) (bV (kG (K:=K) rfl) (by rfl) T.f9 dS (ai (fj (pv 0) rfl) aa)) (aE _)) (aL (pS 2 mM.nd (bX (eM (K:=K) rfl) (fj (pv 0) rfl) (pv 1) (λ_ _=>rfl))) (aL (pF (fh (K:=K) rfl (cF (Ic T) 'a' rfl T.Ie T.sE.kp T.sE.b .nil aC (ai (pv 2) aa))) (pn 3 mM.nd) (aU (dB (eh <| iJ (pv 0) T.bH T.C_ (JE T) 'a' T.Dv.b .nil aC (ai (pv 3) (ai (tx K (pv 2)) aa)))))) (aU (OL (i:=1) mM.nd rfl (by walk_at "o") af ML))))))),?_);walk_at "rd";refine(λm Z Hc=>∃(dn:Nat) (Tc:List aj) (rc:List AZ) (uc:List (Str×Str)) (b2 b3:Option V),Z=[some (V.ref t.x),some (V.int dn),b2,b3]/\qm A.aO Hc t G S Tc rc uc/\HJ t H Hc/\jj (G.map ao) (S.map ao) e (Tc.map ao) (rc.map (·.2))/\(cI (G.map ao) (S.map ao) e->iZ (G.map ao) (S.map ao) (Tc.map ao) e)/\m+dn=17/\dn<=(G++Tc).length/\(∀q∈(G++Tc).take dn,∀z,bM z (ao q)=true->cI (G.map ao) (S.map ao) z->iZ (G.map ao) (S.map ao) (Tc.map ao) z)/\dC uc (Od (G.map ao) (S.map ao) e ((G++Tc).take dn))/\uc.length<=1+61*dn,
  (17,0,Tp,rs,us,_,_,rfl,o,λb o _ _ _ _ e=>e,tc,cv,rfl,d6 _,λq hq=>by simp at hq,uo.Yb,by lia),?_)
 rintro m Z Hc ⟨dn,Tc,rc,uc,b2,b3,rfl,oc,kc,tcc,cvc,hm,hd,cl,uoc,ulc⟩;have bl:=vm bd tcc oc.sub;walk_at "rd";refine(_,_,_,oc.top,T.bH,T.cW,_,t.l1,_,.inl (_,az.of oc.lp,by rw[aD]),cH (λhlt=>?_) (λhge=>?_))
 ·have hlt:dn<(G++Tc).length:=by have:=of_decide_eq_true hlt;lia
  obtain⟨m',rfl⟩:∃m',m=m'+1:=(m - 1,by lia)
  have hp:(G++Tc)[dn]?=some (G++Tc)[dn]:=jw hlt;have hmem:(G++Tc)[dn]∈G++Tc:=Aw hlt;generalize (G++Tc)[dn]=p at hp hmem;have hpS:p∈G++S:=(bT.mp hmem).elim (eD _) λy=>eW _ (oc.sub p y);let(pa,n1,n2):=oc.at_ p hpS;refine(λσ' H'=>∃(dn:Nat) (Tc:List aj) (rc:List AZ) (uc:List (Str×Str)) (b2 b3:Option V),σ'=[some (V.ref t.x),some (V.int dn),b2,b3]/\qm A.aO H' t G S Tc rc uc/\HJ t H H'/\jj (G.map ao) (S.map ao) e (Tc.map ao) (rc.map (·.2))/\(cI (G.map ao) (S.map ao) e->iZ (G.map ao) (S.map ao) (Tc.map ao) e)/\m'+dn=17/\dn<=(G++Tc).length/\(∀q∈(G++Tc).take dn,∀z,bM z (ao q)=true->cI (G.map ao) (S.map ao) z->iZ (G.map ao) (S.map ao) (Tc.map ao) z)/\dC uc (Od (G.map ao) (S.map ao) e ((G++Tc).take dn))/\uc.length<=1+61*dn,λσ' H' z=>(m',AS _,z),?_);refine(_,_,_,oc.top,T.bH,T.cW,_,t.l1,_,rfl,_,az.of oc.lp,_,dq (by rw[l_,hp];rfl),p,rfl,pa,bd.va p hpS,λl H2 s2 (ss,pm,pw,hl2) hl=>?_);have o2:=oc.mono s2;have nl1:l≠t.lp:=Ne.symm (bD oc.lp hl);have nl2:l≠t.lr:=Ne.symm (bD oc.lr hl)
  refine dI.of (xs:=ss.map V.str) (λj Z H3=>∃(T':List aj) (rc':List AZ) (uc':List (Str×Str)) (b3:Option V),Z=[some (V.ref t.x),some (V.int dn),some p.v,b3]/\qm A.aO H3 t G S (Tc++T') rc' uc'/\HJ t H2 H3/\jj (G.map ao) (S.map ao) e ((Tc++T').map ao) (rc'.map (·.2))/\(∀z∈ss.take j,cI (G.map ao) (S.map ao) z->iZ (G.map ao) (S.map ao) ((Tc++T').map ao) z)/\dC uc' (λz b=>Od (G.map ao) (S.map ao) e ((G++Tc).take dn) z b\/(¬cI (G.map ao) (S.map ao) z/\z∈ss.take j/\b=p.name))/\uc'.length<=uc.length+j)
   ([],rc,uc,_,rfl,by rw[n9];exact o2,(λb o _ _ _ _ e=>e),by rw[n9];exact tcc,(λz hz=>by simp at hz),uoc.Yu,Nat.le_refl _) ?_ ?_ ?_
  ·rintro j Z H3 hj ⟨T',rc',uc',b3,rfl,o3,k3,_⟩;exact az.of (Ft o2 k3 hl2 nl1 nl2)
  ·rintro j v Z H3 hv ⟨T',rc',uc',b3,rfl,o3,k3,tc3,c3,uo3,ul3⟩;walk_at "6";let(y,hy,rfl):=fC.mp hv;have tj:ss.take (j+1)=ss.take j++[y]:=by rw[gY,hy];rfl
   have wy:bM y (ao p)=true:=mY.mp (pm.mem_iff.mp (dZ hy));have sl:ss.length<=61:=by rw[pm.length_eq];exact yR (bd.va p hpS)
   have jl:=(fA.mp hy).1;let(pa3,_):=o3.at_ p hpS;walk_at "rd";refine(_,_,o3.top,rfl,_,bc.of pa3.top,_,rfl,t,rfl,_,rfl,e,G,S,Tc++T',rc',uc',o3,bd,tc3,_,uo3,by lia,.inr (p,?_,rfl,wy),λU rc2 uc2 H4 o4 k4 tc4 c4 uo4 ul4=>(T'++U,rc2,uc2,?_))
   ·rw[<-tD];exact eD _ hmem
   ·rw[<-tD];refine(o4,λb u m1 m2 m3 m4 h=>k4 b u m1 m2 m3 m4 (k3 b u m1 m2 m3 m4 h),tc4,λz hz mz=>?_,?_,by lia)
    ·rw[tj]at hz;rcases bT.mp hz with y1|y1
     ·rw[aV];exact jx _ (c3 z y1 mz)
     ·rw[bU.mp y1]at mz ⊢;exact c4 mz
    ·rw[tj];exact uo4.Qy
  ·rintro Z H3 ⟨T',rc',uc',b3,rfl,o3,k3,tc3,c3,uo3,ul3⟩;rw[aD,g9]at c3 uo3;rw[aD]at ul3;have sl:ss.length<=61:=by rw[pm.length_eq];exact yR (bd.va p hpS)
   walk_at "rd";refine(dn+1,by simp,Tc++T',rc',uc',o3,λb u m1 m2 m3 m4 h=>k3 b u m1 m2 m3 m4 (s2 _ _ (kc b u m1 m2 m3 m4 h)),tc3,λme=>by rw[List.map_append];exact jx _ (cvc me),by lia,by rw[<-List.append_assoc,List.length_append];lia,λq hq z hz mz=>?_,?_,by lia)
   ·rw[<-tD,QE (by lia),gY,hp]at hq;rcases bT.mp hq with y1|y1
    ·rw[aV];exact jx _ (cl q y1 z hz mz)
    ·have e1:q=p:=bU.mp y1;rw[e1]at hz;exact c3 z (pm.mem_iff.mpr (mY.mpr hz)) mz
   ·rw[<-tD,QE (by lia),gY,hp];exact uo3.Qj λz=>(pm.mem_iff.trans mY)
 ·have hge:dn=(G++Tc).length:=by
   have:=of_decide_eq_false (Bool.eq_false_iff.mpr hge);lia
  rw[hge,g9]at cl uoc;refine k Tc rc uc Hc oc kc tcc (cvc,λq hq z hz mz=>?_) uoc.XZ;rw[<-aV]at hq;let(u,hu,rfl):=aK.mp hq;exact cl u hu z hz mz
theorem uv{H0 H:Hp}{x:Addr}{o:HO}(fr:∀b o,b≠x->H0 b=some o->H b=some o):∀b u,b≠x->H0 b=some u->upd H x o b=some u:=λb u n e=>by rw[ae n];exact fr b u n e
theorem MX:Sg s!"":=λx hx=>by
 have e:s!"".cps.toList=[]:=by decide +kernel
 simp[e]at hx
def Pz(T:Txt K mg A):Zm P w mg base T.Jx 4 (z7 A):=by
 refine T.Jx.Tv vq ?_ ?_;walk_at "k"
 let(x,dx,g,s,e,G,xs,rfl,hx,(hG,hS,bd0),k,kx,ky):=h
 refine(_,(aL (pS 4 vq.nd (cF (Sm T) 'a' rfl T.QK T.BM.kp T.BM.b .nil aC (ai (pv 2) aa))) (aL (dB (cF (Se T) 'a' rfl T.Sl T.Eh.kp T.Eh.b .nil (ko lF) (ai (aA (dF (K:=K) rfl) (pv 1) (pv 4)) aa))) (aL (bY <| cS (pv 0) (lO (rO (K:=K) rfl) (by rfl) T.gB eN (ai (pv 1) aa)) rfl) (aL (bY <| cS (pv 0) (aF aa) rfl) (aL (bY <| cS (pv 0) (cF (JU T) 'a' rfl T.La T.uY.kp T.uY.b .nil aC (ai (pv 1) aa)) rfl) (aL (bY <| cS (pv 0) (cF (JU T) 'a' rfl T.La T.uY.kp T.uY.b .nil aC (ai (pv 4) aa)) rfl) (aL (bY <| cS (pv 0) cZ rfl) (aL (bY <| cS (pv 0) cZ rfl) (dE (u:=iI A E) (aL (dB (eh <| iJ (pv 0) T.bH T.C_ (JE T) 'a' T.Dv.b .nil aC (ai (pv 3) (ai aH aa)))) (aL (dB (eh <| tY (pv 0) T.bH T.LN (SA T) 'a' T.JK.b .nil aC )) (aU (aQ (mS (fj (pv 0) rfl) (λ_=>rfl)) (aL (pS 5 vq.nd (bV (zS rfl) (by rfl) T.tE nQ (ai (fj (pv 0) rfl) aa))) (aU (kL (PK T) 'a' T.Jv.b T.rJ rfl T.wo rfl lF (ai (pv 5) (ai (c6 <| dX (bO hr) (fj (pv 0) rfl) (pv 5) (λ_ _=>rfl)) aa))))) bN)))) ?ii))))))))),?main)
 case ii=>
  rintro D Z Hk ⟨t,g,s,l,e,G,xs,H,rfl,o,bd,rHk,lpn,lrn,dfn,dun,k,kx⟩;walk_at "rd";refine(_,_,o.top,rfl,t,rfl,e,G,flat xs,[],[],[],o,bd,(CB,(λp hp=>by cases hp),rfl,(λi p r hp=>by cases hp)),λz b=>False,(CB,(λu hu=>by cases hu),(λ_ _ h=>h.elim)),d6 _,.inl rfl,λT' rs' us' Hl ol kl tl cl uol ull=>?_);refine(_,_,ol.top,rfl,t,rfl,e,G,flat xs,_,rs',us',ol,bd,tl,cl,uol.iff (λz b=>(λh=>h.elim False.elim λq=>(q.2.1▸q.1,q.2.2,q.2.1),λq=>.inr (q.2.2▸q.1,q.2.2,q.2.1))),by simpa using ull,λT2 rs2 us2 Hm om km tm cm uom=>(_,_,_,om.top,T.bH,T.ck,_,jr.l6 _,_,.inr (.inr (_,om.du,rfl)),?_));have rm:∀b u,b≠t.x->H b=some u->Hm b=some u:=λb u n h=>km b u (λq=>by rw[q,lpn]at h;cases h) (λq=>by rw[q,lrn]at h;cases h) (λq=>by rw[q,dfn]at h;cases h) (λq=>by rw[q,dun]at h;cases h) (kl b u (λq=>by rw[q,lpn]at h;cases h) (λq=>by rw[q,lrn]at h;cases h) (λq=>by rw[q,dfn]at h;cases h) (λq=>by rw[q,dun]at h;cases h) (rHk b u n h));cases us2 with
  |nil=>
   rw[if_neg (by decide)];exact k T2 rs2 Hm om rm tm cm (λz b h=>by let(u,hu,_):=uom.all z b h;cases hu)
  |cons u0 ur=>
   rw[if_pos (by rfl)];generalize hus:u0::ur=us2 at *;have une:us2.map (·.1)≠[]:=by rw[<-hus];simp
   refine(_,_,_,om.top,T.bH,T.ck,_,jr.l6 _,t.du,rfl,mX us2,.inl om.du,us2.map (·.1),by unfold mX;rw[List.map_map,List.map_map];rfl,une,λm hm hl=>?_);let(u,hu,eu):=aK.mp hm;have gm:cU Hm t.du (V.str m) (some (V.str u.2)):=by
    have:=cU.k (k:=Sum.inr m) om.du;rw[<-eu,yj uom.nd hu,eu]at this;exact this
   have dm:=uom.zo u hu;rw[eu]at dm;have inS:∀q∈G.map ao++T2.map ao,∃p∈G++flat xs,ao p=q:=λq hq=>by
    rw[<-aV]at hq;let(p,hp,e):=aK.mp hq;exact(p,(bT.mp hp).elim (eD _) λy=>eW _ (om.sub p y),e)
   have sm:sL m:=by
    rcases dm.2 with ⟨_,q⟩|⟨q,hq,_,hw⟩
    ·rw[q];exact bd.en
    ·let(p,hp,e):=inS q hq;exact bd.wn p hp m (by rw[e];exact hw)
   have sb:sL u.2:=by
    rcases dm.2 with ⟨q,_⟩|⟨q,hq,hn,_⟩
    ·rw[q];exact(by decide +kernel,MX)
    ·let(p,hp,e):=inS q hq;rw[<-hn,<-e];exact bd.nm p hp
   have lu:qX (G.map ao) 'f' e (T2.map ao) m u.2:=by
    refine(dm,λz' b' hd=>?_,λb' hd=>?_)
    ·let(v,hv,e1,_):=uom.all z' b' hd;exact hl z' (aK.mpr (v,hv,e1))
    ·let(v,hv,e1,e2):=uom.all m b' hd;rw[yw uom.nd hu hv (eu.trans e1.symm)];exact e2
   refine(_,_,_,om.top,T.bH,T.ck,_,jr.l6 _,t.du,rfl,_,gm,by walk_at "s", λx6 hx6=>(u.2,rfl,ax,sm.1,sm.2,sb.1,sb.2,λd H' hd hne hk hx' hd'=>.inr (d,hne,hx',_,hd',kx _ _ m u.2 d _ (λb o n q=>?_) tm cm lu ?_)))
   ·have q2:=rm b o n q;have hb:=bD q2 hx6;have hdn:=(cz hd).2;rw[dJ hb,ae (bD q2 hdn)];exact hk b o hb (by rw[ae hb];exact q2)
   ·rw[dJ hne,ax];rfl
 walk_at "rd";have cY:=bd0.cY;rw[cw]at cY;refine(xs,hS,by lia,λl H1 s1 hl e1=>(_,az.of (s1 _ _ hG.top),_,az.of e1,by rw[aD,aD,sizeLine_eq];lia,λp hp=>?_));have atA:∀q∈G++flat xs,q.At H:=λq hq=>(bT.mp hq).elim (hG.at_ q) λy=>by
  let(x',hx',y):=fU.mp y;exact(hS.at_ x' hx').at_ q y
 have s2:=s1.trans (aJ (o:=HO.lst (G.map aj.v++(flat xs).map aj.v)) hp);refine(G++flat xs,(by rw[ax,aV],λq hq=>(atA q hq).mono s2),by rw[cw];lia,bd0.nm,λnd H2 s3=>(_,.inl (az.of (s3 _ _ (s2 _ _ hG.top))),λlp hlp=>?_),λz d H2 s3 db lz hd=>ky z d H2 (λb o _ e=>s3 _ _ (s2 _ _ e)) db lz hd);have bd:=bd0.full nd;have s4:=s2.trans s3;have e4:=s3 _ _ (aJ hp _ _ e1);clear s1 s2 s3 e1 hp;have s5:=s4.trans (aJ (o:=HO.lst (G.map aj.v)) hlp);have e5:=aJ (o:=HO.lst (G.map aj.v)) hlp _ _ e4;have lp5:=@ax H2 lp (HO.lst (G.map aj.v));have lpn:H lp=none:=s4.free hlp;have nx5:=s5 _ _ hx;have n1:lp≠x:=Ne.symm (bD (s4 _ _ hx) hlp);have n1l:l≠lp:=bD e4 hlp;generalize upd H2 lp _=H5 at *;refine(_,_,_,nx5,T.bH,T.cW,by show 0<1000;decide,d6 _,λlr hlr=>?_);have ra:=uv (x:=x) (o:=HO.ins A.aO dx (Mi lp)) (λb o _ e=>s5 b o e);have lpa:=ae n1 (H:=H5) (o:=HO.ins A.aO dx (Mi lp))▸lp5;have nlx:l≠x:=λe=>by rw[e,hx]at hl;cases hl
 have la:upd H5 x (HO.ins A.aO dx (Mi lp)) l=some (HO.lst ((flat xs).map aj.v)):=by rw[ae nlx];exact e5
 have xa:=@ax H5 x (HO.ins A.aO dx (Mi lp));generalize upd H5 x _=Ha at *;have n2:lr≠x:=Ne.symm (bD xa hlr);have n12:lp≠lr:=bD lpa hlr;have lrn:H lr=none:=by
  cases q:H lr with
  |none=>rfl
  |some u=>rw[ra lr u n2 q]at hlr;cases hlr
 have sb:=aJ (o:=HO.lst []) hlr;have lrb:=@ax Ha lr (HO.lst []);generalize upd Ha lr _=Hb at *;refine(_,_,_,sb _ _ xa,T.bH,T.ip,by show 1<1000;decide,?_);have rc:=uv (x:=x) (o:=HO.ins A.aO dx (NG lp lr)) (λb o n e=>sb b o (ra b o n e));have rac:=uv (x:=x) (o:=HO.ins A.aO dx (NG lp lr)) (λb o _ e=>sb b o e);have lrc:upd Hb x (HO.ins A.aO dx (NG lp lr)) lr=some (HO.lst []):=by rw[ae n2];exact lrb
 have xc:=@ax Hb x (HO.ins A.aO dx (NG lp lr));generalize upd Hb x _=Hc at *;have insx:(∀xs:List V,HO.ins A.aO dx []≠.lst xs)/\∀xs:List V,HO.ins A.aO dx []≠.tup xs:=((λ_ z=>by cases z),(λ_ z=>by cases z))
 refine(G,Ky (Cd hx insx rc) hG,by lia,λp hp=>bd.va p (eD _ hp),λdg Hd sd hdg fg=>(_,_,_,sd _ _ xc,T.bH,T.d3,by show 2<1000;decide,?_));have n3:dg≠x:=Ne.symm (bD xc hdg);have rce:=uv (x:=x) (o:=HO.ins A.aO dx (Ph lp lr dg)) (λb o _ e=>sd b o e);have rde:=uv (H0:=Hd) (x:=x) (o:=HO.ins A.aO dx (Ph lp lr dg)) (λb o _ e=>e);have xe:=@ax Hd x (HO.ins A.aO dx (Ph lp lr dg));generalize upd Hd x _=He at *;have re:∀b o,b≠x->H b=some o->He b=some o:=λb o n e=>rce b o n (rc b o n e);have le:=rce _ _ nlx (rac _ _ nlx la);refine(flat xs,(le,λp hp=>nH (Cd hx insx re) (atA p (eW _ hp))),by lia,λp hp=>bd.va p (eW _ hp),λds Hf sf hds fs=>(_,_,_,sf _ _ xe,T.bH,T.cC,by show 3<1000;decide,λdf hdf=>?_));let(kg,hkg,vg):=fg;let(ks,hks,vs):=fs;have n4:ds≠x:=Ne.symm (bD xe hds);have rfg:=uv (H0:=Hf) (x:=x) (o:=HO.ins A.aO dx (RP lp lr dg ds)) (λb o _ e=>e);have xg:=@ax Hf x (HO.ins A.aO dx (RP lp lr dg ds));generalize upd Hf x _=Hg at *;have Eu:∀b o,b≠x->He b=some o->Hg b=some o:=λb o n e=>rfg b o n (sf b o e);have dgg:=Eu _ _ n3 (rde _ _ n3 hkg);have dsg:=rfg _ _ n4 hks;have n5:df≠x:=Ne.symm (bD xg hdf);have sh:=aJ (o:=HO.dK []) hdf;have dfh:=@ax Hg df (HO.dK [])
 have dfn:H df=none:=by
  cases q:H df with
  |none=>rfl
  |some u=>rw[Eu df u n5 (re df u n5 q)]at hdf;cases hdf
 have n35:dg≠df:=bD dgg hdf;have n45:ds≠df:=bD dsg hdf;generalize upd Hg df _=Hh at *;refine(_,_,_,sh _ _ xg,T.bH,T.cR,by show 4<1000;decide,λdu hdu=>?_);have rhi:=uv (H0:=Hh) (x:=x) (o:=HO.ins A.aO dx (Tr lp lr dg ds df)) (λb o _ e=>e);have xi:=@ax Hh x (HO.ins A.aO dx (Tr lp lr dg ds df));generalize upd Hh x _=Hi at *;have n6:du≠x:=Ne.symm (bD xi hdu);have n65:du≠df:=Ne.symm (bD (rhi _ _ n5 dfh) hdu);have n36:dg≠du:=bD (rhi _ _ n3 (sh _ _ dgg)) hdu;have n46:ds≠du:=bD (rhi _ _ n4 (sh _ _ dsg)) hdu;have sj:=aJ (o:=HO.dK []) hdu;have duj:=@ax Hi du (HO.dK []);generalize upd Hi du _=Hj at *;refine(_,_,_,sj _ _ xi,T.bH,T.ck,by show 5<1000;decide,?_);have rjk:=uv (H0:=Hj) (x:=x) (o:=HO.ins A.aO dx (jr.attrs (x,dx,lp,lr,dg,ds,df,du))) (λb o _ e=>e);have xk:=@ax Hj x (HO.ins A.aO dx (jr.attrs (x,dx,lp,lr,dg,ds,df,du)));have rgk:∀b o,b≠x->Hg b=some o->upd Hj x (HO.ins A.aO dx (jr.attrs (x,dx,lp,lr,dg,ds,df,du))) b=some o:=λb o n e=>rjk b o n (sj _ _ (rhi b o n (sh _ _ e)));have rHk:∀b o,b≠x->H b=some o->upd Hj x (HO.ins A.aO dx (jr.attrs (x,dx,lp,lr,dg,ds,df,du))) b=some o:=λb o n e=>rgk b o n (Eu b o n (re b o n e))
 have o:qm A.aO (upd Hj x (HO.ins A.aO dx (jr.attrs (x,dx,lp,lr,dg,ds,df,du)))) (x,dx,lp,lr,dg,ds,df,du) G (flat xs) [] [] []:=by
  refine(xk,?_,?_,(λr hr=>by cases hr),(kg,rgk _ _ n3 dgg,vg),(ks,rgk _ _ n4 dsg,vs),rjk _ _ n5 (sj _ _ (rhi _ _ n5 dfh)),rjk _ _ n6 duj,λp hp=>(nH (Cd hx insx rHk) (atA p hp),λy=>?_,λy=>?_),n12,(n35,n45,n65),(n36,n46),(λp hp=>by cases hp))
  ·rw[n9];exact rgk _ _ n1 (Eu _ _ n1 (rce _ _ n1 (rac _ _ n1 lpa)))
  ·exact rgk _ _ n2 (Eu _ _ n2 (rce _ _ n2 lrc))
  ·let(ys,z):=(atA p hp).list y;rw[lpn]at z;cases z
  ·let(ys,z):=(atA p hp).list y;rw[lrn]at z;cases z
 have dun:H du=none:=by
  cases q:H du with
  |none=>rfl
  |some u=>rw[rhi du u n6 (sh _ _ (Eu du u n6 (re du u n6 q)))]at hdu;cases hdu
 exact((x,dx,lp,lr,dg,ds,df,du),g,s,l,e,G,xs,H,rfl,o,bd,rHk,lpn,lrn,dfn,dun,λT2 rs2 Hm om rm tm cm nu=>k (x,dx,lp,lr,dg,ds,df,du) T2 rs2 Hm nd rfl om rm lpn lrn tm cm nu,λT rs z b d H'=>kx T rs z b d H' nd)
def zF(H:Hp)(b:Addr):Str:=match H b with | some (.tup (.str n::_))=>n | _=>s!""
def rF(H:Hp)(b:Addr):List V:=match H b with | some (.tup (.str _::r))=>r | _=>[]
def D_(at_:∀p∈ps,p.At H)(nd:(ps.map aj.name).Nodup)(pm:bs.Perm (ps.map aj.t)):∃so:List aj,so.Perm ps/\so.map aj.t=bs:=by
 have one:∀p∈ps,∀q∈ps,p.t=q.t->p=q:=λp hp q hq e=>by
  have h1:=(at_ p hp).top;have h2:=(at_ q hq).top;rw[e,h2]at h1;have en:q.name=p.name:=by
   have:=Option.some.inj h1;injection this with this;injection this with this _;injection this
  let(i,hi,rfl):=GS hp;let(j,hj,rfl):=GS hq;have pw:=Gi.mp nd;rcases Sv i j with z|z|z
  ·exact absurd (by rw[O2,O2];exact en.symm) (pw i j (by simpa using hi) (by simpa using hj) z)
  ·subst z;rfl
  ·exact absurd (by rw[O2,O2];exact en) (pw j i (by simpa using hj) (by simpa using hi) z)
 let g:Addr->aj:=λb=>(ps.find? λp=>decide (p.t=b)).getD (0,0,0,s!"", [],[])
 have hg:∀p∈ps,g p.t=p:=λp hp=>by
  show(ps.find? λq=>decide (q.t=p.t)).getD _=p;cases hf:ps.find? λq=>decide (q.t=p.t) with
  |none=>exact absurd (decide_eq_true rfl) (Gs.mp hf p hp)
  |some q=>exact(one p hp q (vM hf) (of_decide_eq_true (IF (p:=λq:aj=>decide (q.t=p.t)) hf)).symm).symm
 refine(bs.map g,?_,?_)
 ·have:=pm.map g;rw[d9,(xh (f:=g ∘ aj.t) (g:=id) λp hp=>hg p hp),List.map_id]at this;exact this
 ·rw[d9];refine(xh (g:=id) λb hb=>?_).trans (List.map_id _);let(p,hp,rfl):=aK.mp (pm.mem_iff.mp hb);show(g p.t).t=p.t;rw[hg p hp]
def SS(bd:K0 G S e)(tc:jj (G.map ao) (S.map ao) e (T.map ao) rs)(sub:∀p∈T,p∈S):((G++T).map aj.name).Nodup:=by
 have h:=bd.nd;rw[aV]at h ⊢;let(h1,h2,h3):=i6.mp h;refine i6.mpr (h1,?_,λx hx y hy=>?_)
 ·have:=tc.nd;rw[d9]at this;exact this
 ·let(u,hu,rfl):=aK.mp hy;exact h3 x hx _ (aK.mpr (u,sub u hu,rfl))
def iF(ps:List aj):(ps.map ao).map (·.1)=ps.map aj.name:=by rw[d9];rfl
def e_(G S:List aj):(G.map ao++S.map ao).map (·.1)=(G++S).map aj.name:=by rw[<-aV,iF]
def le_str{so:List aj}(h:(so.map λp=>(⟨p.name,0⟩:cL)).Pairwise u5):(so.map aj.name).Pairwise h9:=by
 rw[J7]at h ⊢;refine h.imp λ{a b} h=>Gr.mp λq=>?_;have h:oF ⟨b.name,0⟩ ⟨a.name,0⟩=false:=h;rw[(gh _ _).mpr (.inl q)]at h;cases h
def Ak(h:fK H L ps)(hq:q.At H)(nq:q.lists.Nodup)(fr:∀b∈q.lists,b∉L::bh ps):fK (upd H L (.lst (ps.map aj.v++[q.v]))) L (ps++[q]):=by
 have b:eG H (upd H L (.lst (ps.map aj.v++[q.v]))) L:=eG.upd h.top;have nL:=(i_.mp h.nd).1;refine(by rw[ax];simp,λp hp=>?_,?_)
 ·rcases bT.mp hp with z|z
  ·exact(h.at_ p z).but b λy=>nL (fU.mpr (p,z,y))
  ·rw[bU.mp z];exact hq.but b λy=>fr _ y mm
 ·rw[i5,<-NZ];exact i6.mpr (h.nd,nq,λx hx y hy e=>fr y hy (e▸hx))
def Hz(T:Txt K mg A):Zm P w mg base T.sG 6 (Eg A):=by
 refine T.sG.RL T.Bo mR (λvs H Q E h=>?_) (λc cdv Ar outer s H vs Q E hcd hcc hr h=>?_)
 ·let(g,s,e,G,xs,rfl,_):=h;rfl
 ·let(g,s,e,G,xs,rfl,hp,tb,k,kx):=h;refine(_,(aL (pS 3 mR.nd (j4 T.MW (Pz T) 'a' rfl T.LC T.Jx.b .nil (ko lF) (ai (pv 0) (ai (pv 1) (ai (pv 2) aa))))) (aL (pS 4 mR.nd (uL (K:=K) (P:=A.aZ) (y := "piece") rfl 'a' (fj (pv 3) rfl) (by rfl) T.d_ hcd hcc T.bm (rfl,rfl,rfl,by decide +kernel,rfl,by decide +kernel,by decide +kernel) (λ_ _ _ _ _ _=>(bX (rP (K:=K) rfl) (pv 0) af (λ_ _=>rfl))))) (aU (aw (cN (gX ["piece"]) rfl (fh (K:=K) rfl (pv 4)) (λ_ _ _=>((pn 0 'g'),bR,(cF (Pj T) 'a' rfl T.PH T.Cn.kp T.Cn.b .nil aC (ai (pv 0) aa))))))))),?_);walk_at "rd";let(hG,hS,bd0):=hp;intro x dx hx hdx n;have s1:au H (upd (upd H dx (HO.own x)) x (HO.ins A.aO dx [])):=(aJ hdx).trans (aJ (by rw[ae (Ne.symm n)];exact hx));refine(_,ax,G,xs,(gK hG s1,fQ hS s1,bd0),λt T' rs H1 nd ex o r f1 f2 tc cl nu=>(_,_,_,by rw[<-ex];exact o.top,T.bH,T.cW,_,t.l1,?_),λT' rs z b d H1 nd r tc cl lu hd=>(kx ⟨z,some b⟩ d H1 (λb u e=>r b u (bD e hx) (s1 _ _ e)) (by rw[e_];exact nd,T',rs,tc,cl,lu)).2 b rfl hd,λz d H1 r db lz hd=>(kx ⟨z,none⟩ d H1 (λb u e=>r b u (bD e hx) (s1 _ _ e)) (by rw[<-e_]at db lz;exact(db,lz))).1 rfl hd);have bd:=bd0.full nd;have s2:au H H1:=λb u e=>r b u (bD e hx) (s1 _ _ e);have tb1:=tb.more s2
  have bl:=vm bd tc o.sub;have inS:∀p∈G++T',p∈G++flat xs:=λp hp=>(bT.mp hp).elim (eD _) λy=>eW _ (o.sub p y);have ndT:=SS bd tc o.sub;have atA:∀p∈G++T',p.At H1:=λp hp=>(o.at_ p (inS p hp)).1;have hz:∀p∈G++T',zF H1 p.t=p.name/\rF H1 p.t=[.ref p.ls,.ref p.ln]:=λp hp=>by
   unfold zF rF;rw[(atA p hp).top];exact(rfl,rfl)
  refine(_,rfl,(G++T').map aj.t,by rw[d9];exact az.of o.lp,zF H1,rF H1,λb hb=>?_,by rw[aD];lia,tb1,λl bs H2 hl pm pw sx tb2 hl2=>?_)
  ·let(p,hp,rfl):=aK.mp hb;rw[(hz p hp).1,(hz p hp).2];exact(atA p hp).top
  let(ps0,hT,_):=id tb1;let(so,sp,rfl):=D_ atA ndT pm;have pw2:(so.map aj.name).Pairwise h9:=by
   rw[d9]at pw;rw[xh (g:=λp:aj=>(⟨p.name,0⟩:cL)) λp hp=>by show⟨zF H1 p.t,(0:Int)⟩=_;rw[(hz p (sp.mem_iff.mp hp)).1]]at pw;exact le_str pw
  have at2:∀p∈so,p.At H2:=λp hp=>(atA p (sp.mem_iff.mp hp)).keep hT sx;rw[d9]at hl2;have hl2:H2 l=some (.lst (so.map aj.v)):=hl2;have sln:so.length<=16:=by rw[sp.length_eq];exact bl
  refine b_.of (xs:=so.map aj.v) 'd' (az.of hl2) (λD i ys H'=>∃qs:List aj,ys=qs.map aj.v/\au H2 H'/\fK H' D qs/\qs.map ao=(so.take i).map ao/\∀b∈D::bh qs,H2 b=none)
   (λD hD=>([],rfl,aJ hD,fK.nil ax,rfl,λb hb=>by simp[bh]at hb;rw[hb];exact hD)) ?_ ?_ ?_
  ·rintro D i ys H' hD hi ⟨qs,rfl,s3,hQ,e,_⟩;refine(az.of (s3 _ _ hl2),hQ.top,?_);have:=congrArg List.length e;walk_at "9";rw[aD];lia
  ·rintro D i x ys H' hD hx ⟨qs,rfl,s3,hQ,e,fr⟩;walk_at "0";let(p,hp,rfl):=fC.mp hx;have hm:=dZ hp;have pb:=bd.va p (inS p (sp.mem_iff.mp hm));walk_at "rd";refine(.no .nil,p,rfl,(at2 p hm).mono s3,OX pb.st,OX pb.nm,λs hs=>OX (pb.ss s hs).2,λq H4 s4 qa qe qf qn=>(s4 _ _ hQ.top,qs++[q],by simp,cg hD (s3.trans s4),?_,?_,λb hb=>?_))
   ·exact Ak (hQ.mono s4) qa qn λb hb=>hQ.fresh (qf b hb)
   ·rw[aV,e,gY,hp,aV];congr 1;show [ao q]=[ao p];rw[qe]
   ·rw[i5,<-NZ]at hb;rcases bT.mp hb with z|z
    ·exact fr b z
    ·exact s3.free (qf b z)
  ·rintro D ys H' hD ⟨qs,rfl,s3,hQ,e,fr⟩;walk_at "1";have en:qs.map aj.name=so.map aj.name:=by
    have:=congrArg (List.map (·.1)) e;rw[d9,d9]at this;exact this
   refine k D (T'.map ao) (rs.map (·.2)) qs H' (λb u n h=>s3 _ _ (sx b u n (s2 _ _ h))) (tb2.more s3) (hQ.top,hQ.at_) nd tc cl nu ?_ (by rw[en];exact pw2);rw[e,<-aV];exact sp.map _
def FO{β:Type}{es:List (Str×Addr×β)}{z:Str}(h:z∉es.map (·.1)):bE (es.map λe=>⟨(.inr e.1:Key),V.ref e.2.1⟩) (.inr z)=none:=by
 unfold bE;rw[Gs.mpr]
 ·rfl
 ·intro x hx;let(e,he,rfl):=aK.mp hx;intro q;exact h (aK.mpr (e,he,Sum.inr.inj (of_decide_eq_true q)))
def M4{β:Type}{es:List (Str×Addr×β)}{z:Str}{v:V}(h:z∉es.map (·.1)):putK (es.map λe=>⟨(.inr e.1:Key),V.ref e.2.1⟩) (.inr z) v=(es.map λe=>⟨(.inr e.1:Key),V.ref e.2.1⟩)++[⟨.inr z,v⟩]:=by
 unfold putK;rw[if_neg];intro q;let(x,hx,q):=nZ.mp q;let(e,he,rfl):=aK.mp hx;exact h (aK.mpr (e,he,Sum.inr.inj (of_decide_eq_true q)))
def NB{kvs:List (Key×V)}{k:Key}{v:V}(h:⟨k,v⟩∈kvs):∃v',bE kvs k=some v'/\⟨k,v'⟩∈kvs:=by
 unfold bE;cases hf:kvs.find? λkv=>decide (kv.1=k) with
 |none=>exact absurd (decide_eq_true (rfl:k=k)) (Gs.mp hf ⟨k,v⟩ h)
 |some x=>
  have h1:=IF hf;have h2:=vM hf;refine(x.2,rfl,?_);rw[<-(of_decide_eq_true h1:x.1=k)];exact h2
def dR(p:aj)(s z:Str):Option (Str×Int×Int):=(p.aM.find? λn=>decide (n.name=z)&&decide (n.sort=s)).map λn=>⟨p.name,n.st,n.off⟩
def dM(so:List aj)(s z:Str):Option (Str×Int×Int):=so.findSome? λp=>dR p s z
def Ey(ms:List aI)(m:aI)(z:Str):aY (gi ms m) z=if m.name=z then some m else aY ms z:=by
 unfold gi aY;by_cases h:(ms.any λn=>decide (n.name=m.name))=true
 ·rw[if_pos h];by_cases e:m.name=z
  ·rw[if_pos e]
   induction ms with
   |nil=>cases h
   |cons n r ih=>
    rw[iS,KU];by_cases q:n.name=m.name
    ·rw[if_pos q,decide_eq_true e]
    ·rw[if_neg q,decide_eq_false (λy=>q (y.trans e.symm))];refine ih ?_;rw[O4,decide_eq_false q]at h;exact h
  ·rw[if_neg e];clear h
   induction ms with
   |nil=>rfl
   |cons n r ih=>
    rw[iS,KU,KU];by_cases q:n.name=m.name
    ·rw[if_pos q,decide_eq_false e,decide_eq_false (λy=>e (q.symm.trans y))];exact ih
    ·rw[if_neg q];by_cases y:n.name=z
     ·rw[decide_eq_true y]
     ·rw[decide_eq_false y];exact ih
 ·rw[if_neg h,RJ];by_cases e:m.name=z
  ·rw[if_pos e,Gs.mpr]
   ·rw[KU,decide_eq_true e];rfl
   ·intro n hn q;exact h (nZ.mpr (n,hn,decide_eq_true ((of_decide_eq_true q).trans e.symm)))
  ·rw[if_neg e,KU,decide_eq_false e];cases ms.find? λn=>decide (n.name=z)<;>rfl
def OA(h:(ms.map aI.name).Nodup):((gi ms m).map aI.name).Nodup:=by
 unfold gi;by_cases q:(ms.any λn=>decide (n.name=m.name))=true
 ·rw[if_pos q,d9];have e:(aI.name ∘ λn=>if n.name=m.name then m else n)=aI.name:=by
   funext n;show aI.name (if n.name=m.name then m else n)=n.name;by_cases y:n.name=m.name
   ·rw[if_pos y,y]
   ·rw[if_neg y]
  rw[e];exact h
 ·rw[if_neg q,aV];refine i6.mpr (h,by simp,λx hx y hy e=>?_);let(n,hn,rfl):=aK.mp hx;rw[LS,bU]at hy;exact q (nZ.mpr (n,hn,decide_eq_true (e.trans hy)))
theorem yg:∀(ns ms:List aI),nW (ms.map aI.kv) (ns.map aI.kv)=(ns.foldl gi ms).map aI.kv
 |[],ms=>rfl
 |n::ns,ms=>by
  rw[iS,O1,<-yg ns,<-C8];rfl
theorem ub:∀{ns ms:List aI},(ms.map aI.name).Nodup->((ns.foldl gi ms).map aI.name).Nodup
 |[],_,h=>h
 |n::ns,ms,h=>ub (ns:=ns) (OA h)
theorem oP:∀{ns ms:List aI}{m:aI},m∈ns.foldl gi ms->m∈ns\/m∈ms
 |[],_,_,h=>.inr h
 |n::ns,ms,m,h=>by
  rcases oP (ns:=ns) h with z|z
  ·exact .inl (jQ _ z)
  ·rcases uD z with y|y
   ·exact .inr y
   ·exact .inl (y▸mm)
theorem qp:∀{ns ms:List aI},(ns.foldl gi ms).length<=ms.length+ns.length
 |[],_=>bJ _
 |n::ns,ms=>by
  have h1:=qp (ns:=ns) (ms:=gi ms n);have h2:=Fl (ms:=ms) (m:=n);rw[O1,oY];lia
theorem nB:∀{ns ms:List aI}{z:Str},(ns.map aI.name).Nodup->aY (ns.foldl gi ms) z=(aY ns z).or (aY ms z)
 |[],ms,z,_=>rfl
 |n::ns,ms,z,h=>by
  rw[iS]at h;let(h1,h2):=i_.mp h;rw[O1,nB h2,Ey];by_cases e:n.name=z
  ·rw[if_pos e];have:aY ns z=none:=Gs.mpr λm hm q=>h1 (aK.mpr (m,hm,(of_decide_eq_true q).trans e.symm));rw[this];unfold aY;rw[KU,decide_eq_true e];rfl
  ·rw[if_neg e];unfold aY;rw[KU,decide_eq_false e]
def ze(e:ms.map (λm=>⟨m.name,m.a,m.b,m.c⟩)=(p.aM.filter λn=>decide (n.sort=s)).map (λn=>⟨n.name,p.name,n.st,n.off⟩)):(aY ms z).map aI.vl=dR p s z:=by
 have h1:(aY ms z).map aI.vl=((ms.map (λm=>⟨m.name,m.a,m.b,m.c⟩)).find? λt=>decide (t.1=z)).map (·.2):=by
  unfold aY;rw[OQ,Option.map_map];rfl
 rw[h1,e,OQ,Option.map_map,List.find?_filter];unfold dR;congr 1;refine congrArg (λf=>List.find? f p.aM) (funext λn=>?_);show decide (decide (n.sort=s)=true/\decide (n.name=z)=true)=_;by_cases a:n.name=z<;>by_cases b:n.sort=s<;>simp[a,b]
def Hv{p:aj}{s:Str}{ms:List aI}(h:(p.aM.map aq.name).Nodup)(e:ms.map (λm=>⟨m.name,m.a,m.b,m.c⟩)=(p.aM.filter λn=>decide (n.sort=s)).map (λn=>⟨n.name,p.name,n.st,n.off⟩)):(ms.map aI.name).Nodup:=by
 have e1:ms.map aI.name=(p.aM.filter λn=>decide (n.sort=s)).map aq.name:=by
  have:=congrArg (List.map (·.1)) e;rw[d9,d9]at this;exact this
 rw[e1];exact List.Nodup.sublist (List.Sublist.map _ List.filter_sublist) h
def CG{p:aj}{s:Str}{ms:List aI}(e:ms.map (λm=>⟨m.name,m.a,m.b,m.c⟩)=(p.aM.filter λn=>decide (n.sort=s)).map (λn=>⟨n.name,p.name,n.st,n.off⟩)):ms.length<=p.aM.length:=by
 have:=congrArg List.length e;walk_at "4";have h1:=Au (λn:aq=>decide (n.sort=s)) p.aM;lia
def oN(h:dR p s z=some v):∃n∈p.aM,n.name=z/\n.sort=s/\v=Jz ⟨p.name,n⟩:=by
 unfold dR at h;let(n,h1,h2):=fC.mp h;have h3:=IF h1;rw[lH]at h3;exact(n,vM h1,of_decide_eq_true h3.1,of_decide_eq_true h3.2,h2.symm)
theorem iE(h:dR p s z=none):∀n∈p.aM,n.name=z->n.sort≠s:=λn hn h1 h2=>by
 unfold dR at h;have:=Gs.mp (Option.map_eq_none_iff.mp h) n hn;exact this (by rw[decide_eq_true h1,decide_eq_true h2];rfl)
def ig:r∈dD ps↔∃p∈ps,p.name=r.1/\r.2∈p.aM:=by
 unfold dD;rw[fU];constructor
 ·rintro⟨p,hp,h⟩;let(n,hn,rfl):=aK.mp h;exact(p,hp,rfl,hn)
 ·rintro⟨p,hp,h1,h2⟩;exact(p,hp,aK.mpr (r.2,h2,by rw[h1]))
def Sj(pm:so.Perm ps)(pw:(so.map λp=>(⟨p.name,0⟩:cL)).Pairwise u5)(nd:(ms.map aI.name).Nodup)(h:∀z,(aY ms z).map aI.vl=(dM so bx z).or (dM so cQ z)):Ei (dD ps) ms:=by
 refine(nd,λz m hm=>?_,λz hz r hr hn=>?_)
 ·have e:=h z;rw[hm]at e;cases h1:dM so bx z with
  |some v=>
   rw[h1]at e;let(p,hp,hv):=List.exists_of_findSome?_eq_some h1;let(n,hn,q1,q2,q3):=oN hv;exact .inl (⟨p.name,n⟩,ig.mpr (p,pm.mem_iff.mp hp,rfl,hn),q1,q2,(Option.some.inj e).trans q3)
  |none=>
   rw[h1]at e;refine .inr (λr hr hn=>?_,?_)
   ·let(p,hp,q1,q2):=ig.mp hr;exact iE (List.findSome?_eq_none_iff.mp h1 p (pm.mem_iff.mpr hp)) r.2 q2 hn
   ·let(l1,p,l2,el,hv,nn):=List.findSome?_eq_some_iff.mp (show dM so cQ z=some (aI.vl m) from e.symm);let(n,hn,q1,q2,q3):=oN hv;have hp:p∈so:=by rw[el];simp
    refine(⟨p.name,n⟩,ig.mpr (p,pm.mem_iff.mp hp,rfl,hn),q1,q2,q3,λr' hr' n' s'=>?_);let(q,hq,y1,y2):=ig.mp hr';have hq':=pm.mem_iff.mpr hq;rw[el]at hq';rcases bT.mp hq' with y|y
    ·exact absurd s' (iE (nn q y) r'.2 y2 n')
    ·rcases eP.mp y with y|y
     ·rw[<-y1,y];exact List.lt_irrefl _
     ·rw[el,aV,iS]at pw;have:=(List.pairwise_cons.mp (List.pairwise_append.mp pw).2.1).1 ⟨q.name,0⟩ (aK.mpr (q,y,rfl));show ¬r'.1.cps.toList<p.name.cps.toList;rw[<-y1];intro z;unfold u5 at this;rw[(gh ⟨q.name,0⟩ ⟨p.name,0⟩).mpr (.inl z)]at this;cases this
 ·have e:=h z;rw[hz]at e;have e:(dM so bx z).or (dM so cQ z)=none:=e.symm;let(e1,e2):=Option.or_eq_none_iff.mp e;let(p,hp,q1,q2):=ig.mp hr;have hp':=pm.mem_iff.mpr hp;exact(iE (List.findSome?_eq_none_iff.mp e1 p hp') r.2 q2 hn,iE (List.findSome?_eq_none_iff.mp e2 p hp') r.2 q2 hn)
def xA(so:List aj)(s z:Str)(b:Option (Str×Int×Int)):so.reverse.foldl (λb p=>(dR p s z).or b) b=(dM so s z).or b:=by
 induction so with
 |nil=>rfl
 |cons p r ih=>
  rw[List.reverse_cons,List.foldl_append,ih];unfold dM;rw[List.findSome?_cons];show(dR p s z).or ((r.findSome? λp=>dR p s z).or b)=_;cases dR p s z<;>rfl
def QT(T:Txt K mg A):Z0 P w mg base T.Jn 1 (Cu A):=by
 refine T.Jn.ok NS ?_ ?_;walk_at "k"
 let(a,n,p,q,rfl,ha,hn,hp,hq,k):=h;refine(_,(aL (dB (nE rfl T.nM T.wA (ai (pv 0) (ai (kJ (dW (iM (pv 1)) (dW aH (dW (iM (pv 2)) (dW aH (dW (iM (pv 3)) vL)))))) aa)))) (aL (iN (pv 0) (pv 1) rfl) (aL (iN (pv 0) (pv 2) rfl) (aU (iN (pv 0) (pv 3) rfl))))),?_);walk_at "rd";have l1:=iO hn.2 hn.1;have l2:=iO hp.2 hp.1;have l4:=iO hq.2 hq.1;have l0:Str.empty.length=0:=rfl;have l3:s!" is told by ".length=12:=by decide +kernel
 have l5:s!" and by ".length=8:=by decide +kernel
 have sz:∀m:Nat,m<=600->m<=sizeLine:=λm h=>by rw[sizeLine_eq];lia
 have e1:putF s!"one" (V.str p) [⟨s!"name", V.str n⟩]=[⟨s!"name", V.str n⟩,⟨s!"one", V.str p⟩]:=by
  show(if s!"name" = s!"one" then _ else _)=_;rw[if_neg (by decide)];rfl
 have e2:putF s!"other" (V.str q) [⟨s!"name", V.str n⟩,⟨s!"one", V.str p⟩]=[⟨s!"name", V.str n⟩,⟨s!"one", V.str p⟩,⟨s!"other", V.str q⟩]:=by
  show(if s!"name" = s!"other" then _ else ⟨s!"name", V.str n⟩::if s!"one" = s!"other" then _ else _)=_;rw[if_neg (by decide),if_neg (by decide)];rfl
 refine(sz _ (by lia),sz _ (by rw[cM];lia),sz _ (by rw[cM,cM];lia),sz _ (by lia),sz _ (by rw[cM,cM,cM];lia),sz _ (by rw[cM,cM,cM,cM];lia),sz _ (by lia),sz _ (by rw[cM,cM,cM,cM,cM];lia),sz _ (by rw[cM,cM,cM,cM,cM];lia),A.aX,none,ha,A.Ia,T.m9,sz _ (by decide),A.aX,A.Ia,none,ha,T.m9,T.k_,.inl (rfl,λd hd=>?_));have hne:d≠a:=Ne.symm (bD ha hd);have hD:upd (upd H d (XD d [⟨s!"name", V.str n⟩])) a (XN a A.aX (some d)) d=some (XD d [⟨s!"name", V.str n⟩]):=by rw[ae hne,ax]
 refine(A.aX,A.Ia,some d,ax,T.m9,T.mQ,.inr (d,rfl,_,hD,by simp,A.aX,A.Ia,some d,by rw[ae (Ne.symm hne),ax],T.m9,T.kr,.inr (d,rfl,_,ax,by rw[e1];simp,?_)));rw[e1,e2];refine k d _ hd hne (λb o hb q=>?_) ?_ ax
 ·have hbd:=bD q hd;rw[ae hbd,ae hbd,ae hb,ae hbd];exact q
 ·rw[ae (Ne.symm hne),ae (Ne.symm hne),ax]
def nK{α β:Type}{l:List α}{f:α->β}(nd:(l.map f).Nodup){x y:α}(hx:x∈l)(hy:y∈l)(e:f x=f y):x=y:=by
 let(i,hi,rfl):=GS hx;let(j,hj,rfl):=GS hy;have h:∀i j (hi:i<l.length) (hj:j<l.length),i<j->f l[i]≠f l[j]:=λi j hi hj q=>by
  have:=Gi.mp nd i j (by rw[aD];exact hi) (by rw[aD];exact hj) q
  rwa [O2,O2]at this
 rcases Sv i j with q|q|q
 ·exact absurd e (h i j hi hj q)
 ·subst q;rfl
 ·exact absurd e.symm (h j i hj hi q)
def uJ:ik (R++[⟨y,t⟩]) z=if y=z then ik R z++[t] else ik R z:=by
 unfold ik;rw[yA,aV];by_cases e:y=z
 ·simp[e]
 ·simp[e]
def mW(h:z∉R.map (·.1)):ik R z=[]:=by
 unfold ik;rw[List.filter_eq_nil_iff.mpr]
 ·rfl
 ·intro r hr q;exact h (aK.mpr (r,hr,of_decide_eq_true q))
def sF:(ik R z).length<=R.length:=by
 unfold ik;rw[aD];exact Au _ _
structure qy(H0 H:Hp)(d:Addr)(es:List (Str×Addr×List Str))(R:List (Str×Str)):Prop where
 sm:au H0 H
 fd:H0 d=none
 top:H d=some (.dK (es.map λe=>⟨(.inr e.1:Key),V.ref e.2.1⟩))
 at_:∀e∈es,H e.2.1=some (.lst (e.2.2.map V.str))
 fr:∀e∈es,H0 e.2.1=none
 nd:(es.map (·.1)).Nodup
 na:(es.map (·.2.1)).Nodup
 eq:∀e∈es,e.2.2=ik R e.1
 all:∀z,z∈es.map (·.1)↔z∈R.map (·.1)
 ln:es.length<=R.length
theorem qy.nil(h:H d=none):qy H (upd H d (.dK [])) d [] []:=(aJ h,h,ax,(λe he=>by cases he),(λe he=>by cases he),CB,CB,(λe he=>by cases he),λz=>Iff.rfl,bJ _)
theorem qy.same(g:qy H0 H d es R)(s:au H H'):qy H0 H' d es R:=(g.sm.trans s,g.fd,s _ _ g.top,λe he=>s _ _ (g.at_ e he),g.fr,g.nd,g.na,g.eq,g.all,g.ln)
def qy.val{H0 H:Hp}{d:Addr}{es:List (Str×Addr×List Str)}{R:List (Str×Str)}(g:qy H0 H d es R){e:Str×Addr×List Str}(he:e∈es):bE (es.map λe=>⟨(.inr e.1:Key),V.ref e.2.1⟩) (.inr e.1)=some (V.ref e.2.1):=by
 let(v,h1,h2):=NB (aK.mpr (e,he,rfl):⟨(.inr e.1:Key),V.ref e.2.1⟩∈es.map λe=>⟨(.inr e.1:Key),V.ref e.2.1⟩);let(x,hx,ex):=aK.mp h2;have q1:x.1=e.1:=Sum.inr.inj (congrArg (·.1) ex);have q2:V.ref x.2.1=v:=congrArg (·.2) ex;have:x=e:=nK g.nd hx he q1;rw[h1,<-q2,this]
theorem qy.Tn(g:qy H0 H d es R){e:Str×Addr×List Str}(he:e∈es):e.2.1≠d:=bA (g.at_ e he) g.top 'j'
def qy.new(g:qy H0 H d es R)(hz:z∉es.map (·.1))(hl:H l=none):qy H0 (upd (upd (upd H l (.lst [])) d (.dK (putK (es.map λe=>⟨(.inr e.1:Key),V.ref e.2.1⟩) (.inr z) (.ref l)))) l (.lst [.str t])) d (es++[⟨z,l,[t]⟩]) (R++[⟨z,t⟩]):=by
 have nl:d≠l:=bD g.top hl;have old:∀b o,b≠d->H b=some o->upd (upd (upd H l (.lst [])) d (.dK (putK (es.map λe=>⟨(.inr e.1:Key),V.ref e.2.1⟩) (.inr z) (.ref l)))) l (.lst [.str t]) b=some o:=λb o n e=>by
  have:=bD e hl;rw[ae this,ae n,ae this];exact e
 refine(λb o e=>old b o (bD e g.fd) (g.sm _ _ e),g.fd,by rw[ae nl,ax,M4 hz,aV];rfl,λe he=>?_,λe he=>?_,?_,?_,λe he=>?_,λy=>?_,by rw[cw,cw];have:=g.ln;simp;exact this)
 ·rcases bT.mp he with q|q
  ·exact old _ _ (g.Tn q) (g.at_ e q)
  ·rw[bU.mp q];exact ax
 ·rcases bT.mp he with q|q
  ·exact g.fr e q
  ·rw[bU.mp q];exact g.sm.free hl
 ·rw[aV];refine i6.mpr (g.nd,by simp,λx hx y hy e=>?_);rw[LS,bU]at hy;exact hz ((e.trans hy:x=z)▸hx)
 ·rw[aV];refine i6.mpr (g.na,by simp,λx hx y hy e=>?_);rw[LS,bU]at hy;let(u,hu,rfl):=aK.mp hx;have:=g.at_ u hu;rw[e,hy,hl]at this;cases this
 ·rw[uJ];rcases bT.mp he with q|q
  ·rw[if_neg (λy:z=e.1=>hz (by rw[y];exact aK.mpr (e,q,rfl)))];exact g.eq e q
  ·rw[bU.mp q];show [t]=if z=z then ik R z++[t] else _;rw[if_pos rfl,mW λy=>hz ((g.all z).mpr y)];rfl
 ·rw[aV,aV,bT,bT,g.all y];rfl
def qy.old(g:qy H0 H d es R)(he:e∈es)(hl:H l=none):qy H0 (upd (upd H l (.lst [])) e.2.1 (.lst (e.2.2.map V.str++[.str t]))) d (es.map λx=>if x.1=e.1 then ⟨x.1,x.2.1,x.2.2++[t]⟩ else x) (R++[⟨e.1,t⟩]):=by
 have h1:∀x:Str×Addr×List Str,(if x.1=e.1 then ⟨x.1,x.2.1,x.2.2++[t]⟩ else x).1=x.1:=λx=>by split<;>rfl
 have h2:∀x:Str×Addr×List Str,(if x.1=e.1 then ⟨x.1,x.2.1,x.2.2++[t]⟩ else x).2.1=x.2.1:=λx=>by split<;>rfl
 have m1:(es.map λx=>if x.1=e.1 then ⟨x.1,x.2.1,x.2.2++[t]⟩ else x).map (·.1)=es.map (·.1):=by rw[d9];exact xh λx _=>h1 x
 have m2:(es.map λx=>if x.1=e.1 then ⟨x.1,x.2.1,x.2.2++[t]⟩ else x).map (·.2.1)=es.map (·.2.1):=by rw[d9];exact xh λx _=>h2 x
 have uq:∀x∈es,x.1=e.1->x=e:=λx hx q1=>nK g.nd hx he q1;have ua:∀x∈es,x.2.1=e.2.1->x=e:=λx hx q1=>nK g.na hx he q1;have old:∀b o,b≠e.2.1->H b=some o->upd (upd H l (.lst [])) e.2.1 (.lst (e.2.2.map V.str++[.str t])) b=some o:=λb o n q=>by
  rw[ae n,ae (bD q hl)];exact q
 refine(λb o q=>old b o (bD q (g.fr e he)) (g.sm _ _ q),g.fd,?_,λx hx=>?_,λx hx=>?_,by rw[m1];exact g.nd,by rw[m2];exact g.na,λx hx=>?_,λy=>?_,by rw[aD,cw];exact OX g.ln)
 ·rw[d9,old _ _ (Ne.symm (g.Tn he)) g.top];refine congrArg (λu=>some (HO.dK u)) (xh λx _=>?_);show _=⟨(.inr (if x.1=e.1 then ⟨x.1,x.2.1,x.2.2++[t]⟩ else x).1:Key),V.ref (if x.1=e.1 then ⟨x.1,x.2.1,x.2.2++[t]⟩ else x).2.1⟩;rw[h1,h2]
 ·let(y,hy,rfl):=aK.mp hx;by_cases q:y.1=e.1
  ·have:=uq y hy q;subst this;rw[if_pos rfl,aV];exact ax
  ·rw[if_neg q];exact old _ _ (λz=>q (by rw[ua y hy z])) (g.at_ y hy)
 ·let(y,hy,rfl):=aK.mp hx;rw[h2];exact g.fr y hy
 ·let(y,hy,rfl):=aK.mp hx;rw[uJ];by_cases q:y.1=e.1
  ·rw[if_pos q];show y.2.2++[t]=if e.1=y.1 then ik R y.1++[t] else _;rw[if_pos q.symm,g.eq y hy]
  ·rw[if_neg q,if_neg (Ne.symm q)];exact g.eq y hy
 ·rw[m1,g.all y,aV,bT];refine(.inl,λq=>q.elim id λq=>?_);rw[LS,bU]at q;rw[q];exact(g.all _).mp (aK.mpr (e,he,rfl))
theorem Qr.perm(h:Qr so)(p:ps.Perm so):Qr ps:=λz=>by
 have h1:(ik (bC ps) z).Perm (ik (bC so) z):=((p.flatMap_right _).filter _).map _;rw[h1.length_eq];exact h z
theorem qO.perm(h:qO ps)(pm:so.Perm ps):qO so:=
 (by rw[pm.length_eq];exact h.cY,(pm.map _).nodup_iff.mpr h.nd,λp hp=>h.aM p (pm.mem_iff.mp hp),λp hp=>h.sg p (pm.mem_iff.mp hp),by have:(bC so).Perm (bC ps):=pm.flatMap_right _;rw[this.length_eq];exact h.rl)
def str_len:(bC ps).length<=(dD ps).length:=by
 unfold bC dD
 induction ps with
 |nil=>exact bJ _
 |cons p r ih=>
  rw[Il,Il,cw,cw,aD,aD];have:=Au (λn:aq=>decide (n.sort=bx)) p.aM;lia
def jS:bC (ps++[p])=bC ps++(p.aM.filter λn=>decide (n.sort=bx)).map λn=>⟨n.name,p.name⟩:=by
 unfold bC;rw[oJ];simp
def Rx(T:Txt K mg A):Zm P w mg base T.D4 3 (y9 A):=by
 refine T.D4.Tv kZ ?_ ?_;walk_at "k"
 let(L,ps,rfl,hP,hN,k,kx):=h;refine(_,(aL (pS 1 kZ.nd cZ) (aL (PS.zl (pF (fh (K:=K) rfl (pv 0)) (pn 2 kZ.nd) (aU (PS.zl (pF (rY (cF (yn T) 'a' rfl T.xH T.j9.kp T.j9.b .nil aC (ai (pv 2) (ai aH aa)))) (pn 3 kZ.nd) (aU (dB (cT (vV (bO hr) (pv 1) (pv 3) (aF aa) (rfl,rfl,rfl,rfl)) (ai (tx K (pv 2)) aa))))))))) (aL (eL (i:=4) kZ.nd rfl (by walk_at "o") (nc (own:=["name"]) (fr:=["tellers"]) (fm:=[1]) rfl 'e' 'e' 'e' (.cons rfl (by walk_at "o") rfl .nil)) rfl (rY (pv 1)) (λ_ _ _=>((pn 0 'g'),(lZ (bI BZ (bV (kG (K:=K) rfl) (by rfl) T.f9 dS (ai (c6 <| dX (bO hr) (pv 1) (pv 0) (λ_ _=>rfl)) aa)) af (aE _))),(pv 0)))) (aU (aQ (mS (pv 4) (λ_=>rfl)) (aL (pS 5 kZ.nd (bV (mL rfl (K:=K) rfl) (by rfl) T.tE nQ (ai (pv 4) aa))) (aU (kL (QT T) 'a' T.Jn.b T.m9 rfl T.xB rfl lF (ai (pv 5) (ai (bX (eM (K:=K) rfl) (c6 <| dX (bO hr) (pv 1) (pv 5) (λ_ _=>rfl)) af (λ_ _=>rfl)) (ai (bX (eM (K:=K) rfl) (c6 <| dX (bO hr) (pv 1) (pv 5) (λ_ _=>rfl)) af (λ_ _=>rfl)) aa)))))) bN))))),?_);walk_at "rd";intro d hd;have rl:=hN.rl
 refine dI.of (xs:=ps.map aj.v) (λi Z H'=>∃(es:List (Str×Addr×List Str)) (b2 b3:Option V),Z=[some (.ref L),some (.ref d),b2,b3,none,none]/\qy H H' d es (bC (ps.take i)))
  ([],_,_,rfl,qy.nil hd) ?_ ?_ ?_
 ·rintro i Z H' hi ⟨es,b2,b3,rfl,g⟩;exact az.of (g.sm _ _ hP.top)
 ·rintro i v Z H' hv ⟨es,b2,b3,rfl,g⟩;walk_at "6";walk_at "7";have hm:=dZ hp;have pa:=(hP.at_ p hm).mono g.sm;let(n1,n2):=hN.aM p hm;walk_at "rd";refine(p,rfl,pa,n1,n2,λd2 ms H2 s2 tab em f2=>?_);have ep:∀j,(ms.take j).map (λm=>⟨m.name,p.name⟩)=(((p.aM.filter λn=>decide (n.sort=bx)).take j).map λn=>⟨n.name,p.name⟩):=λj=>by
   have:=congrArg (λl=>(List.map (λx:Str×Str×Int×Int=>⟨x.1,p.name⟩) l).take j) em;simp only[List.map_map]at this;rw[List.map_take,List.map_take];exact this
  walk_at "8";have lnT:∀j,(bC (ps.take i)++(ms.take j).map λm=>⟨m.name,p.name⟩).length<=63:=λj=>by
   have h1:(bC (ps.take (i+1))).length<=(bC ps).length:=by
    conv=>rhs;rw[<-Kl (i+1) ps]
    unfold bC;rw[oJ,cw];lia
   rw[tk,jS,cw,aD]at h1;rw[cw,ep j,aD,lA];lia
  refine Fn.of tab.top (λo j Z H3=>∃(es':List (Str×Addr×List Str)) (b3:Option V),Z=[some (.ref L),some (.ref d),some p.v,b3,none,none]/\H3 d2=some (.g7 o (.dK (ms.map aI.kv)))/\qy H H3 d es' (bC (ps.take i)++(ms.take j).map λm=>⟨m.name,p.name⟩)) ?_ ?_ ?_ ?_
  ·intro o;refine(es,_,rfl,ax,?_);rw[List.take_zero,List.map_nil,n9];exact g.same λx u e=>by rw[ae (bD e f2)];exact s2 _ _ e
  ·rintro o j Z H3 hj ⟨es',b3,rfl,hz,_⟩;exact hz
  ·rintro o j pr Z H3 hv ⟨es',b3,rfl,hz,g'⟩;walk_at "6";let(m,hj,rfl):=fC.mp hv;have pa3:=(hP.at_ p hm).mono g'.sm;have tj:bC (ps.take i)++((ms.take (j+1)).map λm=>⟨m.name,p.name⟩)=(bC (ps.take i)++(ms.take j).map λm=>⟨m.name,p.name⟩)++[⟨m.name,p.name⟩]:=by rw[gY,hj,aV,tD];rfl
   have ll:=lnT j;have le:=g'.ln;rw[tj];walk_at "rd";refine(.inl (_,.inl g'.top),d6 _,λl hl=>?_);have sl:=aJ (o:=HO.lst []) hl;have nl:d≠l:=bD g'.top hl;have fz:∀a o',a≠l->o'≠.lst []->upd H3 l (.lst []) a=some o'->H3 a=some o':=λa o' n _ e=>by rwa [ae n]at e
   by_cases hin:m.name∈es'.map (·.1)
   ·let(e,he,ee):=aK.mp hin;have ve:=g'.val he;rw[ee]at ve;have gx:=g'.old (l:=l) (t:=p.name) he hl;have ea:=sl _ _ (g'.at_ e he);have el:=sF (R:=bC (ps.take i)++(ms.take j).map λm=>⟨m.name,p.name⟩) (z:=e.1);rw[<-g'.eq e he]at el;refine(some (.ref e.2.1),.inl (_,.inr m.name,.inl (sl _ _ g'.top),rfl,ve.symm),_,dQ.k (k:=.inr m.name) (sl _ _ g'.top) 'd',λv hv=>?_,λq=>by cases q);cases hv;refine(.inl (rfl,_,az.of ea),_,bc.of (sl _ _ pa3.top),_,rfl,_,rfl,_,ea,by rw[aD,sizeLine_eq];lia,?_,_,by rw[<-ee];exact gx);rw[ae (bA hz (g'.at_ e he) 'j'),ae (bD hz hl)];exact hz
   ·have vn:bE (es'.map λe=>⟨(.inr e.1:Key),V.ref e.2.1⟩) (.inr m.name)=none:=FO hin;refine(none,.inl (_,.inr m.name,.inl (sl _ _ g'.top),rfl,vn.symm),_,dQ.k (k:=.inr m.name) (sl _ _ g'.top) 'd',(λv hv=>by cases hv),λ_=>?_);have l1:upd (upd H3 l (.lst [])) d (.dK (putK (es'.map λe=>⟨(.inr e.1:Key),V.ref e.2.1⟩) (.inr m.name) (.ref l))) l=some (.lst []):=by rw[ae (Ne.symm nl),ax]
    have tp:upd (upd H3 l (.lst [])) d (.dK (putK (es'.map λe=>⟨(.inr e.1:Key),V.ref e.2.1⟩) (.inr m.name) (.ref l))) p.t=some (.tup [.str p.name,.ref p.ls,.ref p.ln]):=by
     rw[ae (bA pa3.top g'.top 'j')];exact sl _ _ pa3.top
    refine(.inl (rfl,_,az.of l1),_,bc.of tp,_,rfl,_,l1,by walk_at "s", ?_,_,g'.new hin hl);rw[ae (bD hz hl),ae (bA hz g'.top 'j'),ae (bD hz hl)];exact hz
  ·rintro o Z H3 ⟨es',b3,rfl,hz,g'⟩;refine(es',_,_,rfl,?_);have el:=congrArg List.length em;rw[aD,aD]at el;rw[aD,ep,el,show(p.aM.filter λn=>decide (n.sort=s!"tell"))=p.aM.filter λn=>decide (n.sort=bx) from rfl,g9]at g';rw[tk,jS];exact g'
 ·rintro Z H' ⟨es,b2,b3,rfl,g⟩;rw[aD,g9]at g;walk_at "rd";have le:=g.ln;refine ye.of 'd' g.top (λo D i ys H2=>ys=(((es.take i).filter λe=>decide (2<=e.2.2.length)).map (·.1)).map V.str/\H2 D=some (.lst ys)/\H2 d=some (.g7 o (.dK (es.map λe=>⟨(.inr e.1:Key),V.ref e.2.1⟩)))/\∀b u,b≠d->H' b=some u->H2 b=some u)
   (λo D hD=>(rfl,ax,by rw[ae (bD g.top hD),ax],λb u n e=>by rw[ae (bD e hD),ae n];exact e)) ?_ ?_ ?_
  ·rintro o D i ys H2 hD hi ⟨e,h1,h2,_⟩;refine(h2,h1,?_);rw[e,aD,aD];exact fF (Au _ _) (by rw[lA];lia)
  ·rintro o D i pr ys H2 hD hv ⟨ey,h1,h2,h3⟩;walk_at "6";let(e,he,rfl):=fC.mp hv;have hm:=dZ he;have tk:es.take (i+1)=es.take i++[e]:=by rw[gY,he];rfl
   have nD:∀b u,b≠d->H' b=some u->b≠D:=λb u n q z=>by rw[z,hD]at q;cases q
   walk_at "rd";refine(.no (.yes .nil),_,.inl (_,.inr e.1,.inr (o,h2),rfl,(g.val hm).symm),_,.inl (_,az.of (h3 _ _ (g.Tn hm) (g.at_ e hm)),rfl),?_);rw[aD];by_cases q:2<=e.2.2.length
   ·rw[if_pos (by rw[decide_eq_true_eq];omega)];refine(h1,?_,ax,by rw[ae (bA h2 h1 'j')];exact h2,λb u n y=>by rw[ae (nD b u n y)];exact h3 b u n y);rw[ey,tk,yA,aV,aV];simp[q];rfl
   ·rw[if_neg (by rw[decide_eq_true_eq];omega)];refine(?_,h1,h2,h3);rw[ey,tk,yA,aV,aV];simp[q]
  ·rintro o D ys H2 hD ⟨ey,h1,h2,h3⟩;rw[aD,g9]at ey;have sH:au H H2:=λb u q=>h3 b u (bD q hd) (g.sm _ _ q);refine(!ys.isEmpty,.inl (ys,az.of h1,rfl),?_);cases hF:es.filter λe=>decide (2<=e.2.2.length) with
   |nil=>
    rw[hF]at ey;rw[ey,if_neg (by decide)];refine k (λz=>?_) H2 sH;by_cases hz:z∈es.map (·.1)
    ·let(e,he,rfl):=aK.mp hz;have:=List.filter_eq_nil_iff.mp hF e he;rw[decide_eq_true_eq]at this;rw[<-g.eq e he];lia
    ·rw[mW λy=>hz ((g.all z).mpr y)];exact d6 _
   |cons e0 er=>
    rw[if_pos (by rw[ey,hF];rfl)];refine(_,rfl,(es.filter λe=>decide (2<=e.2.2.length)).map (·.1),by rw[<-ey];exact az.of h1,by rw[hF];simp,λm hm hl=>?_);let(e,he,rfl):=aK.mp hm;let(he,h4):=sV.mp he;have h4:2<=e.2.2.length:=of_decide_eq_true h4;have eg:=g.eq e he;obtain⟨a,b,r,ea⟩:∃a b r,e.2.2=a::b::r:=by
     match e.2.2,h4 with
     |a::b::r,_=>exact(a,b,r,rfl)
    have hd3:=h3 _ _ (g.Tn he) (g.at_ e he);rw[ea]at hd3;have ld:qW (bC ps) e.1:=(by rw[<-eg];exact h4,λz hz=>hl z (aK.mpr (by
     have hin:z∈(bC ps).map (·.1):=by
      by_cases q:z∈(bC ps).map (·.1)
      ·exact q
      ·rw[mW q]at hz;cases hz
     let(x,hx,rfl):=aK.mp ((g.all z).mpr hin);exact(x,sV.mpr (hx,decide_eq_true (by rw[g.eq x hx];exact hz)),rfl))))
    have sgn_:∀r∈bC ps,(r.1.length<=16/\Sg r.1)/\(r.2.length<=16/\Sg r.2):=λr hr=>by
     let(p,hp,q):=fU.mp hr;let(n,hn,rfl):=aK.mp q;have:=hN.sg p hp;exact((this.2 n (sV.mp hn).1).1,this.1)
    have sa:∀y∈ik (bC ps) e.1,y.length<=16/\Sg y:=λy hy=>by
     let(r,hr,rfl):=aK.mp hy;exact(sgn_ r (sV.mp hr).1).2
    have se:e.1.length<=16/\Sg e.1:=by
     let(r,hr,q):=aK.mp ((g.all e.1).mp (aK.mpr (e,he,rfl)));rw[<-q];exact(sgn_ r hr).1
    rw[<-eg,ea]at sa;have at1:gz (List.map V.str (a::b::r)) 1=some (V.str b):=(show gz _ ((1:Nat):Int)=_ from dq rfl)
    have a1:=sa a (by simp);have a2:=sa b (by simp);have IJ:gz (List.map V.str (a::b::r)) 0=some (V.str a):=(show gz _ ((0:Nat):Int)=_ from dq rfl)
    refine(_,.inl (_,.inr e.1,.inr (o,h2),rfl,(g.val he).symm),_,rfl,_,az.of hd3,_,IJ,_,.inl (_,.inr e.1,.inr (o,h2),rfl,(g.val he).symm),_,rfl,_,az.of hd3,_,at1,by walk_at "s", λx hx=>(a,rfl,b,rfl,ax,se.1,se.2,a1.1,a1.2,a2.1,a2.2,λd2 H4 hd2 hne hk hx' hd'=>.inr (d2,hne,hx',_,hd',kx e.1 a b r d2 _ (λb o q=>?_) ld (by rw[<-eg,ea]) ?_)))
    ·have q2:=sH _ _ q;have hb:=bD q2 hx;have hdn:=(cz hd2).2;rw[dJ hb,ae (bD q2 hdn)];exact hk b o hb (by rw[ae hb];exact q2)
    ·rw[dJ hne,ax];rfl
def Sz(T:Txt K mg A):Zm P w mg base T.DX 6 (Ab A):=by
 refine T.DX.RL T.Og my (λvs H Q E h=>?_) (λc cdv Ar outer s H vs Q E hcd hcc hr h=>?_)
 ·let(L,ps,rfl,_):=h;rfl
 ·let(L,ps,rfl,hP,hN,tb,k,kx):=h;refine(_,(aL (pS 1 my.nd (uL (K:=K) (P:=A.bB) (y := "piece") rfl 'a' (pv 0) (by rfl) T.d_ hcd hcc T.bm (rfl,rfl,rfl,by decide +kernel,rfl,by decide +kernel,by decide +kernel) (λ_ _ _ _ _ _=>(bX (rP (K:=K) rfl) (pv 0) af (λ_ _=>rfl))))) (aL (dB (cF (Rx T) 'a' rfl T.Sy T.D4.kp T.D4.b .nil (ko lF) (ai (pv 1) aa))) (aL (pS 2 my.nd cZ) (aL (PS.zl (pF (HQ (K:=K) rfl (aR (ai aH (ai aH aa)))) (pn 3 my.nd) (aU (PS.zl (pF (Me (K:=K) rfl rfl T.vk (pv 1)) (pn 4 my.nd) (aU (dB (pZ PySem.F.plainAttrs_dict PySem.F.slot_dict_update PySem.F.type_dict_update wK (pv 2) (ai (cF (yn T) 'a' rfl T.xH T.j9.kp T.j9.b .nil aC (ai (pv 4) (ai (pv 3) aa))) aa))))))))) (aU (aw (pv 2))))))),?_);walk_at "rd";let(ps0,hT,_):=id tb;have hz:∀p∈ps,zF H p.t=p.name/\rF H p.t=[.ref p.ls,.ref p.ln]:=λp hp=>by
   unfold zF rF;rw[(hP.at_ p hp).top];exact(rfl,rfl)
  refine(ps.map aj.t,by rw[d9];exact az.of hP.top,zF H,rF H,λb hb=>?_,by rw[aD];have:=hN.cY;lia,tb,λl bs H2 l0 pm pw sx tb2 hl=>?_)
  ·let(p,hp,rfl):=aK.mp hb;rw[(hz p hp).1,(hz p hp).2];exact(hP.at_ p hp).top
  let(so,sp,rfl):=D_ hP.at_ hN.nd pm;have pw2:(so.map λp=>(⟨p.name,0⟩:cL)).Pairwise u5:=by
   rw[d9]at pw
   rwa [xh (g:=λp:aj=>(⟨p.name,0⟩:cL)) λp hp=>by show⟨zF H p.t,(0:Int)⟩=_;rw[(hz p (sp.mem_iff.mp hp)).1]]at pw
  have hP2:PL H2 l so:=(by rw[d9]at hl;exact hl,λp hp=>(hP.at_ p (sp.mem_iff.mp hp)).keep hT sx)
  have hN2:=hN.perm sp;have tbm:=tb2;refine(so,hP2,hN2,λnod H3 s3 d hd=>(by rw[sizeLine_eq];decide,λq hq=>?_),λz a b r d H' s3 ld e hd=>kx so z a b r d H' sp (le_str pw2) ld e (λb o n e=>s3 _ _ (sx b o n e)) (tb2.more s3) hd);have s4:=aJ (o:=HO.dK []) hd;have s5:=aJ (o:=HO.tup [V.str s!"weak",V.str s!"tell"]) hq;have d5:upd (upd H3 d (.dK [])) q (.tup [V.str s!"weak",V.str s!"tell"]) d=some (.dK []):=s5 _ _ ax;have q5:=@ax (upd H3 d (.dK [])) q (.tup [V.str s!"weak",V.str s!"tell"]);have s25:au H2 (upd (upd H3 d (.dK [])) q (.tup [V.str s!"weak",V.str s!"tell"])):=s3.trans (s4.trans s5);have d2:H2 d=none:=s3.free hd;have ndq:d≠q:=bD (ax (H:=H3) (a:=d) (o:=HO.dK [])) hq;have cY:=hN2.cY;generalize upd (upd H3 d (.dK [])) q _=H5 at *;refine G6.of (xs:=[V.str s!"weak",V.str s!"tell"]) (λa Z H'=>∃(ms:List aI) (b3 b4:Option V),Z=[some (.ref L),some (.ref l),some (.ref d),b3,b4]/\au H2 H'/\H' q=some (.tup [V.str s!"weak",V.str s!"tell"])/\Tab H' d ms/\ms.length<=61*14*a/\(ms.map aI.name).Nodup/\∀z,(aY ms z).map aI.vl=if a=0 then none else if a=1 then dM so cQ z else (dM so bx z).or (dM so cQ z))
   ([],_,_,rfl,s25,q5,(d5,λm hm=>by cases hm),by simp,by simp,λz=>rfl) ?_ ?_ ?_
  ·rintro a Z H' ha ⟨ms,b3,b4,rfl,s6,hq6,_⟩;exact bc.of hq6
  ·rintro a v Z H' hv ⟨ms,b3,b4,rfl,s6,hq6,tab,len,nd,look⟩;obtain⟨s,hs,rfl,ha⟩:∃s:Str,True/\v=.str s/\((a=0/\s=cQ)\/(a=1/\s=bx)):=by
    match a,hv with
    |0,hv=>cases hv;exact(_,trivial,rfl,.inl (rfl,rfl))
    |1,hv=>cases hv;exact(_,trivial,rfl,.inr (rfl,rfl))
   walk_at "rd";refine Ib.of (xs:=so.map aj.v) (λi Z H'=>∃(ms':List aI) (b4:Option V),Z=[some (.ref L),some (.ref l),some (.ref d),some (.str s),b4]/\au H2 H'/\H' q=some (.tup [V.str s!"weak",V.str s!"tell"])/\Tab H' d ms'/\ms'.length<=61*14*a+61*i/\(ms'.map aI.name).Nodup/\∀z,(aY ms' z).map aI.vl=(so.reverse.take i).foldl (λb p=>(dR p s z).or b) ((aY ms z).map aI.vl))
    (ms,_,rfl,s6,hq6,tab,by lia,nd,λz=>rfl) ?_ ?_ ?_
   ·rintro i Z H7 hi ⟨ms',b4,rfl,s7,_⟩;exact az.of (s7 _ _ hP2.top)
   ·rintro i v Z H7 hv ⟨ms',b4,rfl,s7,hq7,tab7,len7,nd7,look7⟩;rw[<-List.map_reverse,l_]at hv;walk_at "7";have pm':p∈so:=List.mem_reverse.mp (dZ hp);have il:=(fA.mp hp).1;rw[List.length_reverse]at il;have pa:=(hP2.at_ p pm').mono s7;let(n1,n2):=hN2.aM p pm';walk_at "rd";refine(.inr (.inr (.inl (rfl,.inl (_,tab7.top)))),p,rfl,pa,n1,n2,λd8 ns H8 s8 tab8 em f8=>?_);have nd8:d≠d8:=bD tab7.top f8;have tl:=CG em;have tab7':=tab7.mono s8;refine(_,tab7'.top,_,tab8.top,nd8,by rw[aD,aD];rcases ha with ⟨rfl,_⟩|⟨rfl,_⟩<;>lia,?_);rw[yg];refine(cg d2 (s7.trans s8),?_,ns.foldl gi ms',(ax,λm hm=>?_),?_,ub nd7,λz=>?_)
    ·rw[ae (bA hq7 tab7.top 'j')];exact s8 _ _ hq7
    ·have key:aI.At H8 m:=(oP hm).elim (λy=>tab8.at_ m y) λy=>tab7'.at_ m y;unfold aI.At;rw[ae (bA key tab7'.top 'j')];exact key
    ·have:=qp (ns:=ns) (ms:=ms');lia
    ·rw[nB (Hv n2 em),gY,hp,List.foldl_append];show _=(dR p s z).or _;rw[<-look7 z,<-ze em];cases aY ns z<;>rfl
   ·rintro Z H7 ⟨ms',b4,rfl,s7,hq7,tab7,len7,nd7,look7⟩;rw[aD]at len7;refine(ms',_,_,rfl,s7,hq7,tab7,by lia,nd7,λz=>?_);rw[look7 z,aD,TH (by rw[List.length_reverse];exact bJ _),xA,look z];rcases ha with ⟨rfl,rfl⟩|⟨rfl,rfl⟩
    ·show(dM so cQ z).or none=dM so cQ z;rw[Option.or_none]
    ·rfl
  ·rintro Z H' ⟨ms,b3,b4,rfl,s6,hq6,tab,len,nd,look⟩;walk_at "rd";have dP:d≠A.bB:=λe=>by
    let(_,e1,_):=tb2;rw[e,e1]at d2;cases d2
   exact k d ms H' (nod.perm sp.symm) (λb o n e=>s6 _ _ (sx b o n e)) (tb2.more s6) tab (Sj sp pw2 nd λz=>by rw[look z];rfl) (sx.free dP d2)
def Ii.e(h:p.Ii q):ao q=ao p:=by
 have e:∀l:List br,l.map br.e=(l.map br.core).map λc=>⟨c.1,c.2.1,c.2.2.1,c.2.2.2.map ay.e⟩:=λl=>by rw[d9];rfl
 unfold ao;rw[h.name,h.aM,e,h.ba,<-e]
def Ss(p:aj):p.d=KS (ao p):=by
 unfold aj.d KS ao;simp only[List.map_map];congr 3
 ·congr 1;refine xh λs _=>?_;show br.d s=_;unfold br.d;simp only[Function.comp,br.e,List.map_map];rfl
def wg(hS:iW H S xs)(cY:xs.length<=100)(bd:∀x∈xs,x.2.length<=100/\∀p∈x.2,m6 p)
  (k:∀(D:Addr) (ys:List 'k') (H':Hp),au H H'->iW H' D ys->H D=none->ys.map (λy=>y.2.map ao)=xs.map (λx=>x.2.map ao)->Q (.ref D) H'):
  b_ K (g_ 0) zP (lh 1 [] (p7 K (lL 0)) (g_ 0) zP (DP (xP K) [] E0 (tU (lL 0) y_))) [none] Q (V.ref S) H:=by
 refine b_.of (xs:=xs.map λx=>V.ref x.1) 'd' (az.of hS.top) (λD i vs H'=>∃ys:List 'k',vs=ys.map (λy=>V.ref y.1)/\au H H'/\H' D=some (.lst vs)/\(∀y∈ys,PL H' y.1 y.2/\y.1≠D/\∀p∈y.2,D∉p.lists)/\ys.map (λy=>y.2.map ao)=(xs.take i).map λx=>x.2.map ao)
  (λD hD=>([],rfl,aJ hD,ax,(λq hq=>by cases hq),rfl)) ?_ ?_ ?_
 ·rintro D i vs H' hD hi ⟨ys,rfl,s1,hDD,ya,e⟩;refine(az.of (s1 _ _ hS.top),hDD,?_);have:=congrArg List.length e;walk_at "9";rw[aD];lia
 ·rintro D i v vs H' hD hv ⟨ys,rfl,s1,hDD,ya,e⟩;walk_at "6";let(x,hx,rfl):=fC.mp hv;have hm:=dZ hx;have px:=hS.at_ x hm;let(b1,b2):=bd x hm;walk_at "rd";refine(.no .nil,?_);refine b_.of (xs:=x.2.map aj.v) 'd' (az.of (s1 _ _ px.top)) (λD2 j vs H2=>∃qs:List aj,vs=qs.map aj.v/\au H' H2/\H2 D2=some (.lst vs)/\(∀q∈qs,q.At H2/\D2∉q.lists/\D∉q.lists)/\qs.map ao=(x.2.take j).map ao)
   (λD2 hD2=>([],rfl,aJ hD2,ax,(λq hq=>by cases hq),rfl)) ?_ ?_ ?_
  ·rintro D2 j vs H2 hD2 hj ⟨qs,rfl,s2,hDD2,qa,e2⟩;refine(az.of (s2 _ _ (s1 _ _ px.top)),hDD2,?_);have:=congrArg List.length e2;walk_at "9";rw[aD];lia
  ·rintro D2 j v vs H2 hD2 hv ⟨qs,rfl,s2,hDD2,qa,e2⟩;walk_at "6";walk_at "7";have hpm:=dZ hp;have pb:=b2 p hpm;walk_at "rd";refine(.no .nil,p,rfl,(px.at_ p hpm).mono 'n',pb.st,OX pb.nm,pb.ss,λq H3 s3 ra cp fr nd=>(s3 _ _ hDD2,qs++[q],by simp,cg hD2 (s2.trans s3),ax,λy hy=>?_,?_))
   ·have bt:eG H3 (upd H3 D2 (.lst (qs.map aj.v++[q.v]))) D2:=eG.upd (s3 _ _ hDD2);rcases bT.mp hy with z|z
    ·let(y1,y2,y3):=qa y z;exact((y1.mono s3).but bt y2,y2,y3)
    ·rw[bU.mp z];have z1:D2∉q.lists:=λz=>by have:=fr D2 z;rw[hDD2]at this;cases this
     have z2:D∉q.lists:=λz=>by have:=fr D z;rw[s2 _ _ hDD]at this;cases this
     exact(ra.but bt z1,z1,z2)
   ·rw[aV,e2,gY,hp,aV];congr 1;show [ao q]=[ao p];rw[Ii.e cp]
  ·rintro D2 vs H2 hD2 ⟨qs,rfl,s2,hDD2,qa,e2⟩;rw[aD,g9]at e2;have bt:eG H2 (upd H2 D (.lst (ys.map (λy=>V.ref y.1)++[V.ref D2]))) D:=eG.upd (s2 _ _ hDD);refine(s2 _ _ hDD,ys++[⟨D2,qs⟩],by simp,cg hD 'n',ax,λy hy=>?_,?_)
   ·rcases bT.mp hy with z|z
    ·let(y1,y2,y3):=ya y z;exact((bt.2 _ _ (s2 _ _ y1.top) y2,λp hp=>((y1.at_ p hp).mono s2).but bt (y3 p hp)),y2,y3)
    ·rw[bU.mp z];have n:D2≠D:=Ne.symm (bD hDD hD2);exact((bt.2 _ _ hDD2 n,λp hp=>(qa p hp).1.but bt (qa p hp).2.2),n,λp hp=>(qa p hp).2.2)
   ·rw[aV,e,gY,hx,aV];congr 1;show [qs.map ao]=[x.2.map ao];rw[e2]
 ·rintro D vs H' hD ⟨ys,rfl,s1,hDD,ya,e⟩;walk_at "1";exact k D ys H' s1 (hDD,λy hy=>(ya y hy).1) hD e
def U7(xs:List V):hJ xs (some 1) none=xs.drop 1:=by
 unfold hJ;have e:HT.sIx xs.length 0 (some 1)=min 1 xs.length:=HT.sIx_nat _ _ 1;have e0:HT.sIx xs.length xs.length none=xs.length:=rfl;rw[e,e0];cases xs with
 |nil=>rfl
 |cons x r=>
  rw[show min 1 (x::r).length=1 by simp,List.take_of_length_le (by rw[List.length_drop];lia)]
def zV(h:ys.map (λy=>y.2.map ao)=xs.map λx=>x.2.map ao):(flat ys).map ao=(flat xs).map ao:=by
 have e:∀l:List 'k',(flat l).map ao=(l.map λx=>x.2.map ao).flatten:=λl=>by
  unfold flat;rw[List.map_flatMap,List.flatMap_def]
 rw[e,e,h]
def E_{α:Type}{l:List α}(h:l.length=4):∃a b c d,l=[a,b,c,d]:=by
 match l,h with
 |[a,b,c,d],_=>exact(a,b,c,d,rfl)
def xQ(c:List (Str×Int×List Int×List ay)):∀{ss:List br},ss.map br.e=c->(aG ss).length=(c.map λs=>s.2.2.2.length).sum/\ss.length=c.length/\∀s∈ss,∃x∈c,s.words.length=x.2.2.1.length/\s.fills.length=x.2.2.2.length
 := by
 intro ss h;subst h;refine(?_,by rw[aD],λs hs=>(br.e s,aK.mpr (s,hs,rfl),rfl,by unfold br.e;rw[List.length_map]));unfold aG;rw[List.length_flatMap,d9];refine congrArg List.sum (xh λs _=>?_);show s.fills.length=(s.fills.map ay.e).length;rw[aD]
def tX(h:m6 p)(e:ao q=ao p):m6 q:=by
 have e1:q.aM.map aq.e=p.aM.map aq.e:=congrArg (·.2.1) e;have e2:q.ba.map br.e=p.ba.map br.e:=congrArg (·.2.2) e;have l1:q.aM.length=p.aM.length:=by have:=congrArg List.length e1;rwa [aD,aD]at this
 have l2:q.ba.length=p.ba.length:=by have:=congrArg List.length e2;rwa [aD,aD]at this
 let(f1,_,_):=xQ _ e2;let(g1,_,_):=xQ _ (rfl:p.ba.map br.e=_);refine(by rw[l1];exact h.nm,by rw[l2];exact h.st,λs hs=>?_,by rw[f1,<-g1];exact h.fl,?_)
 ·have m:br.e s∈q.ba.map br.e:=aK.mpr (s,hs,rfl);rw[e2]at m;let(s',hs',es):=aK.mp m;have h1:=h.ss s' hs';have w:s'.words=s.words:=congrArg (·.2.2.1) es;have f:(s'.fills.map ay.e).length=(s.fills.map ay.e).length:=congrArg (λx:Str×Int×List Int×List ay=>x.2.2.2.length) es;rw[aD,aD]at f;rw[<-w,<-f];exact h1
 ·have n:∀l:List aq,l.map aq.name=(l.map aq.e).map aq.name:=λl=>by rw[d9];rfl
  rw[n,e1,<-n];exact h.nd
def yZ(h:iW H S xs):Rep K H (.lst ((xs.map λx=>x.2.map ao).map λcs=>D.lst (cs.map KS))) (.ref S):=by
 simp only[Rep];refine(_,_,rfl,az.of h.top,?_);rw[d9];refine RepL.map λx hx=>?_;simp only[Rep,Function.comp];refine(_,_,rfl,az.of (h.at_ x hx).top,?_);rw[d9];refine RepL.map λp hp=>?_;show Rep K H (KS (ao p)) p.v;rw[<-Ss];exact((h.at_ x hx).at_ p hp).rep
def II(xs:List 'k'):depL ((xs.map λx=>x.2.map ao).map λcs=>D.lst (cs.map KS))<=20:=by
 rw[d9];refine fF (cG (n:=6) λx _=>?_) (by decide);show dep (D.lst ((x.2.map ao).map KS))<=6;rw[d9];have h:depL (x.2.map (KS ∘ ao))<=5:=cG λp _=>by show dep (KS (ao p))<=5;rw[<-Ss];exact sD p
 simp only[dep];lia
def xD{α:Type}{f:α->Addr}{g:α->Str}{r:α->List V}{as:List α}{l:Addr}{H:Hp}{R:VK}(hl:H l=some (.lst (as.map λa=>V.ref (f a))))(cY:as.length<=1000)(ha:∀a∈as,H (f a)=some (.tup (V.str (g a)::r a)))
  (k:∀(D:Addr) (H':Hp),au H H'->H D=none->H' D=some (.lst ((as.map g).map V.str))->R (.ref D) H'):
  b_ K (g_ 0) zP (Bj (ue K) (lL 0) (tC (V.int 0))) [none] R (V.ref l) H:=by
 refine b_.of (xs:=as.map λa=>V.ref (f a)) 'd' (az.of hl) (λD i vs H'=>au H H'/\H' D=some (.lst vs)/\vs=((as.take i).map g).map V.str)
  (λD hD=>(aJ hD,ax,rfl)) ?_ ?_ ?_
 ·rintro D i vs H' hD hi ⟨s1,hDD,rfl⟩;refine(az.of (s1 _ _ hl),hDD,?_);rw[aD,aD,lA];lia
 ·rintro D i v vs H' hD hv ⟨s1,hDD,rfl⟩;walk_at "6";let(a,h,rfl):=fC.mp hv;walk_at "rd";refine(.no .nil,_,bc.of (s1 _ _ (ha a (dZ h))),_,(show gz (V.str (g a)::r a) ((0:Nat):Int)=_ from dq rfl),hDD,cg hD s1,ax,?_);rw[gY,h,aV,aV];rfl
 ·rintro D vs H' hD ⟨s1,hDD,rfl⟩;rw[aD,g9]at hDD;exact k D H' s1 hD hDD
def Sd(T:Txt K mg A):Z0 P w mg base T.BF 1 xb:=by
 refine T.BF.ok nC ?_ ?_;walk_at "k"
 let(L,c,ps,rfl,hP,hl,k):=h;refine(_,(aL (pS 2 nC.nd (aF (ai (aF aa) (ai (aF aa) (ai (aF aa) (ai (aF aa) aa)))))) (aL (pS 3 nC.nd (aA dt (aA jG (aA eJ (pv 1) af) af) af)) (aL (pF (fh (K:=K) rfl (pv 0)) (pn 4 nC.nd) (aL (dB (cT (bX (eM (K:=K) rfl) (pv 2) (aA dt (pv 3) af) (λ_ _=>rfl)) (ai (pv 4) aa))) (aU (pS 3 nC.nd (aA fZ (pv 3) af))))) (aU (aw (pv 2)))))),?_);walk_at "rd";refine(d6 _,λa0 h0=>(d6 _,λa1 h1=>(d6 _,λa2 h2=>(d6 _,λa3 h3=>(by rw[sizeLine_eq];decide,λS h4=>(.inr (by decide,by decide),by decide,?_))))));have s1:=aJ (o:=HO.lst []) h0;have s2:=aJ (o:=HO.lst []) h1;have s3:=aJ (o:=HO.lst []) h2;have s4:=aJ (o:=HO.lst []) h3;have s5:=aJ (o:=HO.lst [V.ref a0,V.ref a1,V.ref a2,V.ref a3]) h4;have e0:=s5 _ _ (s4 _ _ (s3 _ _ (s2 _ _ (ax (H:=H) (a:=a0) (o:=HO.lst [])))));have e1:=s5 _ _ (s4 _ _ (s3 _ _ (ax (H:=upd H a0 (HO.lst [])) (a:=a1) (o:=HO.lst []))));have e2:=s5 _ _ (s4 _ _ (ax (H:=upd (upd H a0 (HO.lst [])) a1 (HO.lst [])) (a:=a2) (o:=HO.lst [])));have e3:=s5 _ _ (ax (H:=upd (upd (upd H a0 (HO.lst [])) a1 (HO.lst [])) a2 (HO.lst [])) (a:=a3) (o:=HO.lst []));have e4:=ax (H:=upd (upd (upd (upd H a0 (HO.lst [])) a1 (HO.lst [])) a2 (HO.lst [])) a3 (HO.lst [])) (a:=S) (o:=HO.lst [V.ref a0,V.ref a1,V.ref a2,V.ref a3]);have sA:=((('n'.trans s3).trans s4).trans s5)
 have f1:=s1.free h1;have f2:='n'.free h2;have f3:=('n'.trans s3).free h3;have f4:=(('n'.trans s3).trans s4).free h4;have nd:[S,a0,a1,a2,a3].Nodup:=by
  have m01:=(cz h1).1;have m02:=(cz (cz h2).2).1;have m12:=(cz h2).1;have m23:=(cz h3).1;have m13:=(cz (cz h3).2).1;have m03:=(cz (cz (cz h3).2).2).1;have m34:=(cz h4).1;have m24:=(cz (cz h4).2).1;have m14:=(cz (cz (cz h4).2).2).1;have m04:=(cz (cz (cz (cz h4).2).2).2).1;simp[m04,m14,m24,m34,Ne.symm m01,Ne.symm m02,Ne.symm m03,Ne.symm m12,Ne.symm m13,Ne.symm m23]
 generalize upd (upd (upd (upd (upd H a0 (HO.lst [])) a1 (HO.lst [])) a2 (HO.lst [])) a3 (HO.lst [])) S (HO.lst [V.ref a0,V.ref a1,V.ref a2,V.ref a3])=H5 at *;clear s1 s2 s3 s4 s5;refine dI.of (xs:=ps.map aj.v) (λi Z H'=>∃(xs:List 'k') (mx:Int) (b4:Option V),Z=[some (.ref L),some (.int c),some (.ref S),some (.int mx),b4]/\au H H'/\H' S=some (.lst (xs.map λx=>V.ref x.1))/\(∀x∈xs,H' x.1=some (.lst (x.2.map aj.v)))/\xs.map (·.1)=[a0,a1,a2,a3]/\(flat xs).Perm (ps.take i))
  ([⟨a0,[]⟩,⟨a1,[]⟩,⟨a2,[]⟩,⟨a3,[]⟩],_,_,rfl,sA,e4,?_,rfl,by simp[flat]) ?_ ?_ ?_
 ·intro x hx;simp at hx;rcases hx with rfl|rfl|rfl|rfl
  ·exact e0
  ·exact e1
  ·exact e2
  ·exact e3
 ·rintro i Z H' hi ⟨xs,mx,b4,rfl,s1,_⟩;exact az.of (s1 _ _ hP.top)
 ·rintro i v Z H' hv ⟨xs,mx,b4,rfl,s1,hT,hx,hn,pm⟩;walk_at "6";walk_at "7";walk_at "8";have xl:xs.length=4:=by have:=congrArg List.length hn;rwa [aD]at this
  let(m,em):=Pe (show 0<=mx%4 by lia);have hm4:m<xs.length:=by lia
  have hxm:xs[m]?=some xs[m]:=jw hm4;have hmem:xs[m]∈xs:=Aw hm4;have ex:xs=xs.take m++xs[m]::xs.drop (m+1):=by
   have h1:=Kl (m+1) xs;rw[gY,hxm,tD]at h1;exact h1.symm
  generalize xs[m]=x at hxm hmem ex;have fl:x.2.length<=12:=by
   have h1:x.2.length<=(flat xs).length:=by
    rw[ex];unfold flat;rw[oJ,Il,cw,cw];lia
   rw[pm.length_eq,lA]at h1;lia
  have hxx:=hx x hmem;have nS:S≠x.1:=λe=>by
   have h1:x.1∈xs.map (·.1):=aK.mpr (x,hmem,rfl);rw[hn,<-e]at h1;exact(i_.mp nd).1 h1
  have xn:H x.1=none:=by
   have h1:x.1∈xs.map (·.1):=aK.mpr (x,hmem,rfl);rw[hn]at h1;simp at h1;rcases h1 with e|e|e|e<;>rw[e]<;>assumption
  have ndx:(xs.map (·.1)).Nodup:=by rw[hn];exact(i_.mp nd).2
  walk_at "rd";refine(by decide,_,az.of hT,V.ref x.1,by rw[em];exact dq (by rw[l_,hxm];rfl),.inl (rfl,_,az.of hxx),x.1,rfl,_,hxx,by rw[aD,sizeLine_eq];lia,(by decide,by decide),cg xn s1,xs.take m++⟨x.1,x.2++[p]⟩::xs.drop (m+1),?_,λy hy=>?_,?_,?_)
  ·rw[ae nS,hT]
   conv=>lhs;rw[ex]
   simp
  ·have ey:y∈xs/\y.1≠x.1\/y=⟨x.1,x.2++[p]⟩:=by
    rw[ex,aV,iS]at ndx;have h3:=(i6.mp ndx).2.2;have h4:=(i_.mp (i6.mp ndx).2.1).1;rcases bT.mp hy with q|q
    ·exact .inl (TL q,h3 y.1 (aK.mpr (y,q,rfl)) x.1 mm)
    ·rcases eP.mp q with q|q
     ·exact .inr q
     ·exact .inl (List.mem_of_mem_drop q,λe=>h4 (aK.mpr (y,q,e)))
   rcases ey with ⟨h1,h2⟩|h1
   ·rw[ae h2];exact hx y h1
   ·rw[h1,ax,aV];rfl
  ·rw[<-hn]
   conv=>rhs;rw[ex]
   simp
  ·rw[tk];refine List.Perm.trans ?_ (pm.append_right [p])
   conv=>rhs;rw[ex]
   unfold flat;simp only[List.flatMap_append,List.flatMap_cons,List.append_assoc];refine List.Perm.append_left _ (List.Perm.append_left _ ?_);exact List.perm_append_comm
 ·rintro Z H' ⟨xs,mx,b4,rfl,s1,hT,hx,hn,pm⟩;walk_at "rd";rw[aD,g9]at pm;refine k S xs H' s1 (hT,λx hx'=>(hx x hx',λp hp=>(hP.at_ p (pm.mem_iff.mp (fU.mpr (x,hx',hp)))).mono s1)) ?_ (by rw[hn];exact nd) (by have:=congrArg List.length hn;rwa [aD]at this) pm;rw[hn];intro b hb;simp at hb;rcases hb with e|e|e|e|e<;>rw[e]<;>assumption
def Qz(T:Txt K mg A):Z0 P w mg base T.Bl 2 G8:=by
 refine T.Bl.ok qL ?_ ?_;walk_at "k"
 let(c,t,l,rfl,hl,k):=h;refine(_,(aL (pS 3 qL.nd (aF aa)) (aL (pF (qv rfl T.yX (ai af aa)) (pn 4 qL.nd) (aL (pS 5 qL.nd (cF (lx T) 'a' rfl T.lJ T.d0.kp T.d0.b .nil aC (ai (pv 0) (ai (pv 4) aa)))) (aU (aQ (bI (wu (K:=K) rfl) (pv 5) (pv 2) (by with_unfolding_all rfl)) (aU (dB (cT (pv 3) (ai (aR (ai (pv 5) (ai aH (ai af (ai (aA fZ (pv 4) af) aa))))) aa)))) bN)))) (aU (aw (aR (ai (cF (lx T) 'a' rfl T.lJ T.d0.kp T.d0.b .nil aC (ai (pv 1) (ai af aa))) (ai (aF (ai (aR (ai aH (ai af (ai (aF (ai af aa)) (ai (aF aa) aa))))) aa)) (ai (pv 3) aa)))))))),?_);walk_at "rd";refine(d6 _,λd hd=>?_);refine AF.of (n:=12) (by decide) (by decide) (λi Z H'=>∃(ns:List aq) (b4 b5:Option V),Z=[some (.int c),some (.int t),some (.ref l),some (.ref d),b4,b5]/\au H H'/\H' d=some (.lst (ns.map aq.v))/\(∀n∈ns,n.At H')/\ns.map aq.name=(List.range i).map (λk:Nat=>nameOf c k)/\∀n∈ns,n.sort=s!"weak" /\ n.st=0/\0<=n.off/\n.off<=1)
  ([],_,_,rfl,aJ hd,ax,(λn hn=>by cases hn),rfl,(λn hn=>by cases hn)) ?_ ?_
 ·rintro i Z H' hi ⟨ns,b4,b5,rfl,s1,h1,ha,hn,hw⟩;have hi:i<12:=by lia
  have nl:ns.length=i:=by have:=congrArg List.length hn;rwa [aD,aD,List.length_range]at this
  walk_at "rd";refine(_,.inl (az.of (s1 _ _ hl)),rfl,rfl,?_);rw[if_pos (show(!OU (V.str (nameOf c i)) [])=true from rfl)];refine(.inl (rfl,_,az.of h1),(by decide,by decide),by walk_at "s", λq hq=>?_);have s2:=aJ (o:=HO.tup [V.str (nameOf c i),V.str s!"weak",V.int 0,V.int ((i:Int)/6)]) hq;have eq:=@ax H' q (HO.tup [V.str (nameOf c i),V.str s!"weak",V.int 0,V.int ((i:Int)/6)]);generalize upd H' q _=H2 at *;have bt:eG H2 (upd H2 d (HO.lst (ns.map aq.v++[V.ref q]))) d:=eG.upd (s2 _ _ h1);refine(_,s2 _ _ h1,by rw[aD,sizeLine_eq];lia,cg hd 'n',ns++[(q,nameOf c i,s!"weak", 0,(i:Int)/6)],by rw[ax,aV];rfl,λn hn'=>?_,?_,λn hn'=>?_)
  ·rcases bT.mp hn' with z|z
   ·exact aq.At.but (aq.At.mono (ha n z) s2) bt
   ·rw[bU.mp z];exact bt.tup eq
  ·rw[aV,hn,List.range_succ,aV];rfl
  ·rcases bT.mp hn' with z|z
   ·exact hw n z
   ·rw[bU.mp z];exact(rfl,rfl,by show 0<=(i:Int)/6;lia,by show(i:Int)/6<=1;lia)
 ·rintro Z H' ⟨ns,b4,b5,rfl,s1,h1,ha,hn,hw⟩;walk_at "rd";refine(by rw[sizeLine_eq];decide,λlw g1=>(d6 _,λlf g2=>(by rw[sizeLine_eq];decide,λst g3=>(by rw[sizeLine_eq];decide,λls g4=>(by rw[sizeLine_eq];decide,λtp g5=>?_)))));have t1:=aJ (o:=HO.lst [V.int 5]) g1;have t2:=aJ (o:=HO.lst []) g2;have t3:=aJ (o:=HO.tup [V.str s!"data",V.int 1,V.ref lw,V.ref lf]) g3;have t4:=aJ (o:=HO.lst [V.ref st]) g4;have t5:=aJ (o:=HO.tup [V.str (nameOf t 14),V.ref ls,V.ref d]) g5;have tA:=((((t1.trans t2).trans t3).trans t4).trans t5)
  refine k (tp,ls,d,nameOf t 14,[(st,lw,lf,s!"data", 1,[5],[])],ns) _ (s1.trans tA) (ax,t5 _ _ ax,tA _ _ h1,λq hq=>?_,λn hn'=>aq.At.mono (ha n hn') tA) (rfl,hn,λn hm=>(hw n hm).1,(_,rfl,rfl,rfl),(λs hs=>by rw[bU.mp hs];exact(rfl,rfl)),λn hm=>(hw n hm).2) (λb hb=>?_)
  ·rw[bU.mp hq];exact(t5 _ _ (t4 _ _ ax),t5 _ _ (t4 _ _ (t3 _ _ (t2 _ _ ax))),t5 _ _ (t4 _ _ (t3 _ _ ax)),(λf hf=>by cases hf))
  ·have u1:=s1.free g1;have u2:=(s1.trans t1).free g2;have u4:=((s1.trans t1).trans (t2.trans t3)).free g4;simp[aj.lists,br.lists]at hb;rcases hb with e|e|e|e<;>rw[e]<;>assumption
def RU(T:Txt K mg A):Z0 P w mg base T.Ea 1 Cc:=by
 refine T.Ea.ok NU ?_ ?_;walk_at "k"
 let(p,rfl,hp,hb,k):=h;refine(_,(aU (aw (cN (gX ["_law_row"]) rfl (fh (K:=K) rfl 'r') (λ_ _ _=>((pn 0 'g'),(lZ (bI wQ 'r' aH (aE _))),'r'))))),?_);walk_at "rd";refine(_,bc.of hp.top,_,rfl,?_);refine b_.of (xs:=p.aM.map aq.v) (by rw[aD,sizeLine_eq];have:=hb.nm;omega) (az.of hp.nl) (λD i ys H'=>au H H'/\H' D=some (.lst ys)/\ys=(((p.aM.take i).filter λn=>decide (n.sort≠f_)).map aq.name).map V.str)
  (λD hD=>(aJ hD,ax,rfl)) ?_ ?_ ?_
 ·rintro D i ys H' hD hi ⟨sm,hDD,e⟩;refine(sm.seq (az.of hp.nl),hDD,?_);rw[e,aD,aD];exact fF (Au _ _) (by rw[lA];lia)
 ·rintro D i x ys H' hD hx ⟨sm,hDD,e⟩;walk_at "0";let(n,hn,rfl):=fC.mp hx;have na:=sm _ _ (hp.ns n (dZ hn));walk_at "3";walk_at "rd";refine(.no .nil,_,bc.of na,_,rfl,rfl,cH (λh=>?_) (λh=>?_))
  ·have hz:=yI h;refine(_,bc.of na,_,rfl,hDD,cg hD sm,ax,?_);rw[e,tk,yA,aV,aV];simp[hz]
  ·have hz:=D6 h;refine(sm,hDD,?_);rw[e,tk,yA];simp[hz]
 ·rintro D ys H' hD ⟨sm,hDD,e⟩;walk_at "1";exact k D H' sm hD (by rw[hDD,e];rfl)
def Iw{H:Hp}{as:List Addr}{p:aj}{z:Str}(e:as.map H=p.aM.map jy):(as.any λa=>deq (gO (H a)) (.tup [.str z,.str s!"own"]))=dw p z:=by
 have h:(as.any λa=>deq (gO (H a)) (.tup [.str z,.str s!"own"]))=(as.map H).any λo=>deq (gO o) (.tup [.str z,.str s!"own"]):=by rw[Le];rfl
 rw[h,e,Le];unfold dw;congr 1;funext n;show deq (.tup [.str n.name,.str n.sort]) (.tup [.str z,.str s!"own"])=_;simp only[deq,deqL,Bool.and_true,f_];by_cases a:n.name=z<;>by_cases b:n.sort=s!"own" <;> simp[a,b]
def zu(h:(!f.soft && !dw p f.name)=true):c8 p [f]=[f.name]:=by
 unfold c8;rw[Sk,if_pos h];rfl
def uC(h:¬(!f.soft && !dw p f.name)=true):c8 p [f]=[]:=by
 unfold c8;rw[Sk,if_neg h];rfl
def pe:z∈c8 p (aG p.ba)↔bM z (ao p)=true:=by
 rw[<-iK];unfold c8 xI;rw[aK];exact(λ(f,h,e)=>(f,(sV.mp h).1,(sV.mp h).2,e),λ(f,h1,h2,e)=>(f,sV.mpr (h1,h2),e))
def iR(h:m6 p):(c8 p (aG p.ba)).length<=61:=by
 unfold c8;rw[aD];exact fF (Au _ _) h.fl
def Jd(T:Txt K mg A):Z0 P w mg base T.uW 1 we:=by
 refine T.uW.ok e8 ?_ ?_;walk_at "k"
 let(p,rfl,hp,hb,k):=h;refine(_,(aL (pS 1 e8.nd (aF aa)) (aL (pF (fh (K:=K) rfl 'r') (cq <| cj (K:=K) (n:=4) rfl rfl (eA <| d7 (pn 2 e8.nd) (eA <| d7 (pn 3 e8.nd) (eA <| d7 (pn 4 e8.nd) (eA <| d7 (pn 5 e8.nd) cu))))) (aU (pF (fh (K:=K) rfl (pv 5)) (cq <| cj (K:=K) (n:=5) rfl rfl (eA <| d7 (pn 6 e8.nd) (eA <| d7 (pn 7 e8.nd) (eA <| d7 (pn 8 e8.nd) (eA <| d7 (pn 9 e8.nd) (eA <| d7 (pn 10 e8.nd) cu)))))) (aU (aQ (PW.pt (gC (kO (dj (pv 10))) (gD (bI (vQ hr.units (K:=K) rfl) (aR (ai (pv 8) (ai aH aa))) (cN (gX ["_law_row"]) rfl (fh (K:=K) rfl 'r') (λ_ _ _=>((pn 0 'g'),bR,(gk (yW (K:=K) rfl) (pv 0) jB (ff af))))) (by with_unfolding_all rfl))))) (aU (dB (cT (pv 1) (ai (pv 8) aa)))) bN))))) (aU (aw (pv 1))))),?_);walk_at "rd";refine(d6 _,λd hd=>(_,bc.of (aJ hd _ _ hp.top),_,rfl,?_));refine dI.of (xs:=p.ba.map br.v) (λi Z H'=>∃b2 b3 b4 b5 b6 b7 b8 b9 b10,Z=[some p.v,some (V.ref d),b2,b3,b4,b5,b6,b7,b8,b9,b10]/\au H H'/\H' d=some (.lst ((c8 p (aG (p.ba.take i))).map V.str)))
  (_,_,_,_,_,_,_,_,_,rfl,aJ hd,ax) (λi Z H' _ (_,_,_,_,_,_,_,_,_,_,sm,_)=>az.of (sm _ _ hp.sl)) ?_ ?_
 ·rintro i x Z H' hx ⟨b2,b3,b4,b5,b6,b7,b8,b9,b10,rfl,sm,hd'⟩;walk_at "0";let(st,hst,rfl):=fC.mp hx;have sa0:=hp.ss st (dZ hst);have sa:=sa0.mono sm;have tk:=ni hst;have bd:=ui (p:=p) (i+1);have bd2:=hb.fl;rw[tk,cw]at bd;walk_at "rd";refine(_,bc.of sa.top,rfl,_,_,rfl,_,_,rfl,_,_,rfl,_,_,rfl,rfl,?_);refine dI.of (xs:=st.fills.map ay.v) (λj Z H2=>∃b6 b7 b8 b9 b10,Z=[some p.v,some (V.ref d),some (V.str st.kind),some (V.int st.step),some (V.ref st.lw),some (V.ref st.lf),b6,b7,b8,b9,b10]/\au H H2/\H2 d=some (.lst ((c8 p (aG (p.ba.take i)++st.fills.take j)).map V.str)))
   (_,_,_,_,_,rfl,sm,by rw[hd'];simp) (λj Z H' _ (_,_,_,_,_,_,sm,_)=>az.of (sm _ _ sa0.fl)) ?_ ?_
  ·rintro j x Z H2 hx ⟨b6,b7,b8,b9,b10,rfl,sm2,hd2⟩;walk_at "0";let(f,hf,rfl):=fC.mp hx;have fa:=sm2 _ _ (sa0.fs f (dZ hf));have hj:j<st.fills.length:=(fA.mp hf).1;walk_at "5";have flen:(c8 p (aG (p.ba.take i)++st.fills.take j)).length<=61:=by
    unfold c8;rw[aD];refine fF (Au _ _) ?_;rw[cw,lA];lia
   have step:c8 p (aG (p.ba.take i)++st.fills.take (j+1))=c8 p (aG (p.ba.take i)++st.fills.take j)++c8 p [f]:=by
    rw[tj];unfold c8;rw[yA,aV]
   walk_at "rd";refine(_,bc.of fa,rfl,_,_,rfl,_,_,rfl,_,_,rfl,_,_,rfl,_,_,rfl,rfl,_,rfl,cH (λh1=>?_) (λh1=>?_))
   ·refine(by rw[sizeLine_eq];decide,λq hq=>?_);have sq:=aJ (o:=HO.tup [V.str f.name,V.str s!"own"]) hq;have hqq:=@ax H2 q (HO.tup [V.str f.name,V.str s!"own"]);have s3:=sm2.trans sq;have hd3:=sq _ _ hd2;generalize upd H2 q _=H3 at *;refine(_,bc.of (s3 _ _ hp.top),_,rfl,?_);refine b_.of (xs:=p.aM.map aq.v) (by rw[aD,sizeLine_eq];have:=hb.nm;omega) (az.of (s3 _ _ hp.nl)) (λD i ys H4=>au H3 H4/\H4 D=some (.lst ys)/\∃as:List Addr,ys=as.map V.ref/\as.map H4=(p.aM.take i).map jy)
     (λD hD=>(aJ hD,ax,[],rfl,rfl)) ?_ ?_ ?_
    ·rintro D i ys H4 hD hi ⟨s4,hDD,as,rfl,e⟩;refine(az.of (s4 _ _ (s3 _ _ hp.nl)),hDD,?_);have h:=congrArg List.length e;rw[aD,aD,lA]at h;rw[aD];lia
    ·rintro D i x ys H4 hD hx ⟨s4,hDD,as,rfl,e⟩;walk_at "0";let(n,hn,rfl):=fC.mp hx;have na:=s4 _ _ (s3 _ _ (hp.ns n (dZ hn)));walk_at "3";walk_at "rd";refine(.no .nil,_,bc.of na,λz=>absurd (show HT.sIx 4 4 (some 2)=4 from z.2) (by decide),λq2 hq2=>(by rw[ae (bD hDD hq2)];exact hDD,cg hD (s4.trans (aJ hq2)),ax,as++[q2],by rw[aV];rfl,?_));rw[tk,aV,aV];congr 1
     ·refine pA e λa ha o ho=>?_;let(n',_,q'):=jP e ha;have nD:a≠D:=λz=>by rw[z,hDD]at q';cases q'
      rw[ae nD,ae (bD ho hq2)];exact ho
     ·show [upd (upd H4 q2 _) D _ q2]=[jy n];rw[ae (Ne.symm (bD hDD hq2)),ax];rfl
    ·rintro D ys H4 hD ⟨s4,hDD,as,rfl,e⟩;walk_at "1";have any:=Iw (z:=f.name) e;refine(D,rfl,as,az.of hDD,λa=>gO (H4 a),λa ha=>?_,.tup [.str f.name,.str s!"own"],?_,cH (λh2=>?_) (λh2=>?_))
     ·let(n,_,q):=jP e ha;show Rep K H4 (gO (H4 a)) (V.ref a)/\dep (gO (H4 a))<=20;rw[q];refine(?_,by simp[gO,jy,dep,depL]);simp only[gO,jy,Rep];exact(_,_,rfl,bc.of q,by simp[RepL,Rep])
     ·simp only[Rep];exact(_,_,rfl,bc.of (s4 _ _ hqq),by simp[RepL,Rep])
     ·rw[any]at h2;refine(.inl (rfl,_,az.of (s4 _ _ hd3)),_,s4 _ _ hd3,by rw[aD,sizeLine_eq];lia,cg hd (s3.trans s4),?_);rw[ax,step,zu (by rw[h1,h2];rfl),aV];rfl
     ·rw[any]at h2;refine(s3.trans s4,?_);rw[s4 _ _ hd3,step,uC (by rw[lH];exact λz=>h2 z.2),n9]
   ·refine(sm2,?_);rw[hd2,step];rw[uC (by rw[lH];exact λz=>h1 z.1),n9]
  ·rintro Z H2 ⟨b6,b7,b8,b9,b10,rfl,sm2,hd2⟩;rw[aD,g9]at hd2;exact(_,_,_,_,_,_,_,_,_,rfl,sm2,by rw[hd2,tk])
 ·rintro Z H' ⟨b2,b3,b4,b5,b6,b7,b8,b9,b10,rfl,sm,hd'⟩;rw[aD,g9]at hd';walk_at "rd";exact k d H' sm hd hd'
def qb(l:List Str):(l.map V.str).all fW=true:=by
 rw[List.all_map,List.all_eq_true];intro x _;rfl
def Iv{l:List Str}{z:Str}:OU (V.str z) (l.map V.str)=decide (z∈l):=by
 rw[Jy,yp,decide_eq_true_eq]
def QW(T:Txt K mg A):Z0 P w mg base T.Bm 2 AD:=by
 refine T.Bm.ok w_ ?_ ?_;walk_at "k"
 let(S,z,xs,rfl,hS,hb,k):=h;refine(_,(aL (pF (fh (K:=K) rfl (pv 0)) (pn 2 w_.nd) (aU (pF (fh (K:=K) rfl (pv 2)) (pn 3 w_.nd) (aU (aQ (bI (yH (K:=K) rfl) (pv 1) (cF (RU T) 'a' rfl T.RX T.Ea.kp T.Ea.b .nil aC (ai (pv 3) aa)) (by with_unfolding_all rfl)) (aU (aw (pv 3))) bN))))) (aU (aw bW))),?_);walk_at "rd";refine dI.of (xs:=xs.map λx=>V.ref x.1) (λi Z H'=>∃b2 b3:Option V,Z=[some (.ref S),some (.str z),b2,b3]/\au H H'/\bF (flat (xs.take i)) z=none)
  (_,_,rfl,au.refl _,rfl) ?_ ?_ ?_
 ·rintro i Z H' hi ⟨b2,b3,rfl,s1,_⟩;exact az.of (s1 _ _ hS.top)
 ·rintro i v Z H' hv ⟨b2,b3,rfl,s1,no⟩;walk_at "6";let(x,hx,rfl):=fC.mp hv;have hm:=dZ hx;have px:=hS.at_ x hm;have tk:=iH hx;walk_at "rd";refine dI.of (xs:=x.2.map aj.v) (λj Z H2=>∃b3:Option V,Z=[some (.ref S),some (.str z),some (.ref x.1),b3]/\au H H2/\bF (flat (xs.take i)++x.2.take j) z=none)
   (_,rfl,s1,by simpa using no) ?_ ?_ ?_
  ·rintro j Z H2 hj ⟨b3,rfl,s2,_⟩;exact az.of (s2 _ _ px.top)
  ·rintro j v Z H2 hv ⟨b3,rfl,s2,no2⟩;walk_at "6";walk_at "7";have hpm:=dZ hp;have pf:p∈flat xs:=fU.mpr (x,hm,hpm);walk_at "rd";refine(p,rfl,(px.at_ p hpm).mono s2,hb p pf,λl H3 s3 hl el=>(_,.inl (az.of el),rfl,qb _,?_));rw[Iv];have tj:x.2.take (j+1)=x.2.take j++[p]:=by rw[gY,hp];rfl
   have tm:(decide (z∈hV p)=true)↔eC z (ao p)=true:=by rw[decide_eq_true_eq];exact tT
   refine cH (λh=>?_) (λh=>(s2.trans s3,?_))
   ·have e:bF (flat xs) z=some p:=by
     have fx:flat xs=(flat (xs.take i)++x.2.take j)++p::(x.2.drop (j+1)++flat (xs.drop (i+1))):=by
      have e1:flat xs=flat (xs.take i)++(x.2++flat (xs.drop (i+1))):=by
       have h1:=Kl (i+1) xs;unfold flat;rw[<-tD];have h2:=iH hx;unfold flat at h2;rw[<-h2,<-oJ,h1]
      have e2:x.2=x.2.take j++p::x.2.drop (j+1):=by
       have h1:=Kl (j+1) x.2;rw[tj]at h1;rw[tD]at h1;exact h1.symm
      rw[e1]
      conv=>lhs;rw[e2]
      simp
     unfold bF at no2 ⊢;rw[fx,RJ,no2];simp[List.find?_cons,tm.mp h]
    have:=k H3 (s2.trans s3);rw[e]at this;exact this
   ·unfold bF at no2 ⊢;rw[tj,<-tD,RJ,no2];have q:eC z (ao p)=false:=Bool.eq_false_iff.mpr λq=>h (tm.mpr q);simp[List.find?_cons,q]
  ·rintro Z H2 ⟨b3,rfl,s2,no2⟩;rw[aD,g9]at no2;exact(_,_,rfl,s2,by rw[tk];exact no2)
 ·rintro Z H' ⟨b2,b3,rfl,s1,no⟩;rw[aD,g9]at no;walk_at "rd";have:=k H' s1;rw[no]at this;exact this
def zd{ms:List aI}{ns:List aq}{pn z:Str}(e:ms.map (λm=>⟨m.name,m.a,m.b,m.c⟩)=ns.map (λn=>⟨n.name,pn,n.st,n.off⟩)):(aY ms z).map (λm=>⟨m.a,m.b,m.c⟩)=(ns.find? λn=>decide (n.name=z)).map λn=>⟨pn,n.st,n.off⟩:=by
 have h1:(aY ms z).map (λm=>⟨m.a,m.b,m.c⟩)=((ms.map (λm=>⟨m.name,m.a,m.b,m.c⟩)).find? λt=>decide (t.1=z)).map (·.2):=by
  unfold aY;rw[OQ,Option.map_map];rfl
 have h2:((ns.find? λn=>decide (n.name=z)).map λn=>⟨pn,n.st,n.off⟩)=((ns.map (λn=>⟨n.name,pn,n.st,n.off⟩)).find? λt=>decide (t.1=z)).map (·.2):=by
  rw[OQ,Option.map_map];rfl
 rw[h1,h2,e]
def OP(e:mo.map (λm=>⟨m.name,m.a,m.b,m.c⟩)=(p.aM.filter λn=>decide (n.sort=s!"own")).map (λn=>⟨n.name,p.name,n.st,n.off⟩)):
  i9 p mn f=((aY mo f.name).or (aY mn f.name)).map λm=>⟨m.a,m.b,m.c⟩:=by
 have h:=zd (z:=f.name) e;rw[List.find?_filter]at h;have h':(p.aM.find? λa=>decide (decide (a.sort=s!"own")=true/\decide (a.name=f.name)=true))=p.aM.find? λn=>decide (n.name=f.name)&&decide (n.sort=f_):=by
  congr 1;funext n;unfold f_;by_cases a:n.sort=s!"own" <;> by_cases b:n.name=f.name<;>simp[a,b]
 unfold i9;rw[h']at h;cases q:p.aM.find? λn=>decide (n.name=f.name)&&decide (n.sort=f_) with
 |none=>
  rw[q]at h;have:aY mo f.name=none:=by simpa using h
  rw[this];rfl
 |some n=>
  rw[q]at h;cases q2:aY mo f.name with
  |none=>rw[q2]at h;cases h
  |some m=>rw[q2]at h;simpa using h.symm
def Rp(T:Txt K mg A):Z0 P w mg base T.C4 3 Aa:=by
 refine T.C4.ok nA ?_ ?_;walk_at "k"
 let(pn,dO,dN,f,mo,mn,rfl,hf,hO,hN,k1,k2):=h;refine(_,(aL (pS 4 nA.nd (tx K (pv 3))) (aL (pS 5 nA.nd (tx K (pv 3))) (aL (pS 6 nA.nd (tx K (pv 3))) (aL (pS 7 nA.nd (tM (bO hr) (pv 1) (pv 4) (Ce (bO hr) (pv 2) (pv 4) (rfl,rfl,rfl,rfl)) (rfl,rfl,rfl,rfl))) (aL (aQ (bI mh (pv 7) bW (aE _)) (aU (aw (aR (ai (tx K (pv 7)) (ai (tx K (pv 7)) (ai (aA eJ (tx K (pv 7)) (pv 5)) aa)))))) bN) (aL (aQ (dj (pv 6)) (aU (aw (cF (yM T) 'a' rfl T.yN T.jT.kp T.jT.b .nil aC (ai (pv 5) aa)))) bN) (aU jK))))))),?_);walk_at "rd";have gO:cU H dO (V.str f.name) ((aY mo f.name).map λm=>V.ref m.t):=by rw[<-IP];exact cU.k (k:=Sum.inr f.name) hO.top
 have gN:cU H dN (V.str f.name) ((aY mn f.name).map λm=>V.ref m.t):=by rw[<-IP];exact cU.k (k:=Sum.inr f.name) hN.top
 refine(_,bc.of hf,_,rfl,_,bc.of hf,_,rfl,_,bc.of hf,_,rfl,.inl (_,.inl hO.top),.inl (_,.inl hN.top),_,gN,_,gO,?_);cases q1:aY mo f.name with
 |some m=>
  rw[q1]at k1 k2;have hm:=hO.at_ m (vM q1);simp only[Option.map_some,Option.getD_some];rw[if_pos (by simp)];exact(m.t,rfl,_,bc.of hm,_,rfl,m.t,rfl,_,bc.of hm,_,rfl,m.t,rfl,_,bc.of hm,_,rfl,m.c,rfl,f.add,rfl,by walk_at "s", λq hq=>k1 m rfl q hq)
 |none=>
  rw[q1]at k1 k2;cases q2:aY mn f.name with
  |some m=>
   rw[q2]at k1 k2;have hm:=hN.at_ m (vM q2);simp only[Option.map_some,Option.getD_some,Option.map_none,Option.getD_none];rw[if_pos (by simp)];exact(m.t,rfl,_,bc.of hm,_,rfl,m.t,rfl,_,bc.of hm,_,rfl,m.t,rfl,_,bc.of hm,_,rfl,m.c,rfl,f.add,rfl,by walk_at "s", λq hq=>k1 m rfl q hq)
  |none=>
   rw[q2]at k1 k2;simp only[Option.map_none,Option.getD_none];rw[if_neg (by simp)];let(hs,k):=k2 rfl;exact(f.soft,rfl,cH (λ_=>(f.add,rfl,k)) (λz=>absurd hs z))
def N8(T:Txt K mg A):Z0 P w mg base T.vA 4 Fq:=by
 refine T.vA.ok yx ?_ ?_;walk_at "k"
 let(p,dN,l,fs,mn,rfl,hp,hf,hd,hN,hl,hn,hfs,k):=h;refine(_,(aL (pS 3 yx.nd (cF (yn T) 'a' rfl T.xH T.j9.kp T.j9.b .nil aC (ai (pv 0) (ai aH aa)))) (aU (aw (cN (nc (own:=["fill"]) (fr:=["own", "names", "piece"]) (fm:=[3,1,0]) rfl 'e' 'e' 'e' (.cons rfl (by walk_at "o") rfl (.cons rfl (by walk_at "o") rfl (.cons rfl (by walk_at "o") rfl .nil)))) rfl (fh (K:=K) rfl (pv 2)) (λ_ _ _=>((pn 0 'g'),bR,(cF (Rp T) 'a' rfl T.Q4 T.C4.kp T.C4.b .nil aC (ai (tx K (pv 3)) (ai (pv 1) (ai (pv 2) (ai (pv 0) aa))))))))))),?_);walk_at "rd";refine(p,rfl,hp,hf,hd,λd mo H1 s1 tab e nd=>?_);have er:∀f,i9 p mn f=((aY mo f.name).or (aY mn f.name)).map λm=>⟨m.a,m.b,m.c⟩:=λf=>OP (mn:=mn) (f:=f) e;refine b_.of (xs:=fs.map ay.v) 'd' (az.of (s1 _ _ hl)) (λD i ys H2=>au H1 H2/\H2 D=some (.lst ys)/\ys.length=i/\∀(j:Nat) f v,fs[j]?=some f->ys[j]?=some v->HG H2 p mn f v)
  (λD hD=>(aJ hD,ax,rfl,λj f v _ h=>by cases h)) ?_ ?_ ?_
 ·rintro D i ys H2 hD hi ⟨s2,hDD,hl2,_⟩;exact(az.of (s2 _ _ (s1 _ _ hl)),hDD,by lia)
 ·rintro D i x ys H2 hD hx ⟨s2,hDD,hl2,ha⟩;walk_at "0";let(f,hfi,rfl):=fC.mp hx;let(fa,fr):=hfs f (dZ hfi);have s12:=s1.trans s2;have step:∀(v:V) (H3:Hp),(∀b o,b≠D->H2 b=some o->H3 b=some o)->HG H3 p mn f v->∀(j:Nat) f' v',fs[j]?=some f'->(ys++[v])[j]?=some v'->HG H3 p mn f' v':=λv H3 kp av j f' v' h1 h2=>by
   by_cases hj:j<ys.length
   ·rw[u6 hj]at h2;rcases ha j f' v' h1 h2 with ⟨a,b,c,q,r1,r2,r3⟩|z
    ·exact .inl (a,b,c,q,r1,r2,kp q _ (bA r3 hDD 'j') r3)
    ·exact .inr z
   ·have hj2:j=ys.length:=by
     have:=(fA.mp h2).1;rw[cw]at this;simp at this;lia
    subst hj2;rw[zc (bJ _),Nat.sub_self]at h2;cases h2;rw[hl2,hfi]at h1;cases h1;exact av
  walk_at "rd";refine(.no (.yes (.yes (.yes .nil))),_,bc.of (s12 _ _ hp.top),_,rfl,p.name,rfl,f,rfl,s12 _ _ fa,mo,tab.mono s2,mn,(hN.mono s1).mono s2,λm hm q hq=>?_,λhm=>?_)
  ·have hqD:D≠q:=bD hDD hq;refine(by rw[ae hqD];exact hDD,cg hD (s2.trans (aJ hq)),ax,by rw[cw,hl2];rfl,step _ _ (λb o nb e=>?_) (.inl (m.a,m.b,m.c,q,by rw[er,hm];rfl,rfl,by rw[ae (Ne.symm hqD),ax])));rw[ae nb,ae (bD e hq)];exact e
  ·have rn:i9 p mn f=none:=by rw[er,hm];rfl
   exact(fr rn,hDD,cg hD s2,ax,by rw[cw,hl2];rfl,step _ _ (λb o nb e=>by rw[ae nb];exact e) (.inr (rn,rfl)))
 ·rintro D ys H2 hD ⟨s2,hDD,hl2,ha⟩;rw[aD]at hl2;exact k D ys H2 'n' hDD hl2 ha (iC s1 hD)
def Va.Is.mono{H H':Hp}{x:Va}{v:V}(h:Va.Is H x v)(s:au H H'):Va.Is H' x v:=by
 rcases x with n|⟨g,z,a,o⟩
 ·exact h
 ·let(t,e,ht):=h;exact(t,e,s _ _ ht)
def Va.Is.keep{H H':Hp}{x:Va}{v:V}(h:Va.Is H x v)(s:∀b xs,H b=some (.tup xs)->H' b=some (.tup xs)):Va.Is H' x v:=by
 rcases x with n|⟨g,z,a,o⟩
 ·exact h
 ·let(t,e,ht):=h;exact(t,e,s _ _ ht)
theorem wc.keep{H H':Hp}{rs:List Va}{vs:List V}(h:wc H rs vs)(s:∀b xs,H b=some (.tup xs)->H' b=some (.tup xs)):wc H' rs vs:=(h.len,λi x e=>by
 let(v,h1,h2):=h.at_ i x e;exact(v,h1,h2.keep s))
theorem wc.mono{H H':Hp}{rs:List Va}{vs:List V}(h:wc H rs vs)(s:au H H'):wc H' rs vs:=h.keep λ_ _ e=>s _ _ e
def dq{vs:List V}{n:Nat}(h:n<vs.length):gz vs (n:Int)=vs[n]?:=by
 unfold gz A1;rw[if_pos (RK n)];simp[h]
theorem wc.snoc(h:wc H rs vs){x:Va}{v:V}(hx:Va.Is H x v):wc H (rs++[x]) (vs++[v]):=(by simp[h.len],λi y e=>by
 by_cases hi:i<rs.length
 ·rw[u6 hi]at e;rw[u6 (by rw[h.len];exact hi)];exact h.at_ i y e
 ·rw[zc (by lia)]at e;rw[zc (by rw[h.len];lia),h.len];have h0:i - rs.length=0:=by
   cases hj:i - rs.length with
   |zero=>rfl
   |succ n=>rw[hj]at e;simp at e
  rw[h0]at e ⊢;cases e;exact(v,rfl,hx))
def Ct(T:Txt K mg A):Z0 P w mg base T.mD 2 xy:=by
 refine T.mD.ok MQ ?_ ?_;walk_at "k"
 let(t,z,a,o,rfl,ht,k):=h;refine(_,(aU (aw (aR (ai aH (ai 'r' (ai 'r' (ai (cF (yM T) 'a' rfl T.yN T.jT.kp T.jT.b .nil aC (ai 'r' aa)) aa))))))),?_);walk_at "rd";exact(_,.of ht,_,rfl,_,.of ht,_,rfl,_,.of ht,_,rfl,_,rfl,by decide,k)
def Jj(T:Txt K mg A):Z0 P w mg base T.t_ 1 OE:=by
 refine T.t_.ok OC ?_ ?_;walk_at "k"
 let(v,rfl,h):=h;refine(_,(aU (aw (bV (pB (K:=K) rfl) (by rfl) T.aN ie (ai (pv 0) (ai (qQ rfl T.Bq vU MH) aa))))),?_);rcases h with ⟨n,rfl,k⟩|⟨t,xs,rfl,ht,k⟩
 ·walk_at "rd";exact(_,.int n,true,rfl,k)
 ·walk_at "rd";exact(_,.tup ht,false,rfl,k)
def En(T:Txt K mg A):Z0 P w mg base T.mO 2 An:=by
 refine T.mO.ok Lu ?_ ?_;walk_at "k"
 let(x,v,rfl,h,k):=h;refine(_,(aU (aw (sO (dj (cF (Jj T) 'a' rfl T.Lk T.t_.kp T.t_.b .nil aC (ai (pv 0) aa))) (pv 0) (aR (ai 'r' (ai 'r' (ai 'r' (ai 'r' aa)))))))),?_);walk_at "rd";rcases x with n|⟨g,z,a,o⟩
 ·exact .inl (n,h,k v H (λ_ _ e=>e) h)
 ·let(t,rfl,ht):=h;refine .inr (t,rfl,_,ht,(t,rfl,_,.of ht,_,rfl,t,rfl,_,.of ht,_,rfl,t,rfl,_,.of ht,_,rfl,t,rfl,_,.of ht,_,rfl,by decide,λq hq=>k _ _ (aJ hq) (q,rfl,ax)))
def RE(T:Txt K mg A):Z0 P w mg base T.KG 1 (Af A):=by
 refine T.KG.ok LW ?_ ?_;walk_at "k"
 let(p,dx,q,c,r,rfl,hp,k):=h;refine(_,(aL (bY <| cS (pv 0) (pv 1) rfl) (aL (bY <| cS (pv 0) (pv 2) rfl) (aU (bY <| cS (pv 0) (pv 3) rfl)))),?_);walk_at "rd";exact(_,_,_,hp,T.wb,T.tF,by decide,_,_,_,ax,T.wb,T.sr,(by show 1<1000;decide),_,_,_,ax,T.wb,T.ri,(by show 2<1000;decide),k)
def QL(T:Txt K mg A):Z0 P w mg base T.EL 5 tI:=by
 refine T.EL.ok M9 ?_ ?_;walk_at "k"
 let(c,r,av,rfl,h1,h2,kk,k):=h;refine(_,(aL (aQ (dj (cF (Jj T) 'a' rfl T.Lk T.t_.kp T.t_.b .nil aC (ai (pv 2) aa))) (aU (aw (B9 (eh <| iJ (cF (DG T) 'a' rfl T.Bc T.mT.kp T.mT.b .nil aC (ai (pv 1) aa)) T.EZ T.Ox (SE T) 'a' T.JM.b .nil aC (ai (pv 0) (ai af (ai (pv 2) aa)))) (B9 (eh <| iJ (cF (DG T) 'a' rfl T.Bc T.mT.kp T.mT.b .nil aC (ai (pv 1) aa)) T.yJ T.Np (Qa T) 'a' T.KQ.b .nil aC (ai (pv 0) (ai af (ai (pv 2) aa)))) (eh <| iJ (cF (DG T) 'a' rfl T.Bc T.mT.kp T.mT.b .nil aC (ai (pv 1) aa)) T.F1 T.LM (Rk T) 'a' T.JJ.b .nil aC (ai (pv 0) (ai af (ai (pv 2) aa)))))))) bN) (aL (aQ (bI bQ (pv 1) aH (aE _)) (aU (aw (cF (Ct T) 'a' rfl T.B_ T.mD.kp T.mD.b .nil aC (ai (pv 2) aa)))) bN) (aU (aw (j4 T.MO (RE T) 'a' rfl T.MI T.KG.b .nil aC (ai (pv 0) (ai (pv 1) (ai (cF (Ct T) 'a' rfl T.B_ T.mD.kp T.mD.b .nil aC (ai (pv 2) aa)) aa)))))))),?_);walk_at "rd";rcases kk with ⟨b,rfl,hr1⟩|⟨q,p,rfl,hq⟩
 ·refine .inl (b,rfl,?_);rcases hr1 with rfl|rfl|rfl
  ·refine .inl (.inl rfl,λC hC p H' sm (dx,hp)=>?_);obtain rfl:C=A.jU:=by rcases hC with ⟨_,e⟩|⟨e,_⟩|⟨e,_⟩<;>first|exact e|exact absurd e (by decide)
   exact(_,_,hp,rfl,b,rfl,k _ H' sm)
  ·refine .inr (.inl (.inr (.inl rfl),λC hC p H' sm (dx,hp)=>?_));obtain rfl:C=A.fJ:=by rcases hC with ⟨e,_⟩|⟨_,e⟩|⟨e,_⟩<;>first|exact e|exact absurd e (by decide)
   exact(_,_,hp,rfl,b,rfl,h1,h2,λ_=>k _ H' sm)
  ·refine .inr (.inr (.inr (.inr rfl),λC hC p H' sm (dx,hp)=>?_));obtain rfl:C=A.j6:=by rcases hC with ⟨e,_⟩|⟨e,_⟩|⟨_,e⟩<;>first|exact e|exact absurd e (by decide)
   exact(_,_,hp,rfl,b,rfl,h1,h2,λ_=>k _ H' sm)
 ·refine .inr (q,rfl,_,hq,cH (λhw=>?_) (λhw=>?_))
  ·exact(q,rfl,_,_,_,hq,λt ht=>k _ _ (aJ ht))
  ·refine(q,rfl,_,_,_,hq,λt ht x dx hx hdx ndx=>(_,ax,k _ _ λb u e=>?_));have e1:=aJ (o:=atT p.1 p.2.1 (p.2.2%4294967296)) ht _ _ e;have e2:=aJ (o:=HO.own x) hdx _ _ e1;have nb:b≠x:=bD e1 hx;rw[ae nb,ae nb,ae nb,ae nb];exact e2
def NF.mono{A:Ad}{H H':Hp}{M:NO}{pl:QA}{rs:List Va}(h:NF A H M pl rs)(s:au H H'):NF A H' M pl rs:=by
 let(vs,h4,h5):=h.Eu;exact(s _ _ h.top,s _ _ h.Tf,(vs,s _ _ h4,h5.mono s),h.len,s _ _ h.SY,h.nd)
def Q6(T:Txt K mg A):Z0 P w mg base T.Ka 3 (vt A):=by
 refine T.Ka.ok FZ ?_ ?_;walk_at "k"
 let(M,pl,rs,rfl,r,k):=h;refine(_,(aL (eL (i:=1) FZ.nd rfl (by walk_at "o") (gX ["value"]) rfl (fh (K:=K) rfl (fj (pv 0) rfl)) (λ_ _ _=>((pn 0 'g'),bR,(cF (En T) 'a' rfl T.Cb T.mO.kp T.mO.b .nil aC (ai (pv 0) aa))))) (aU (aw (aR (ai (cF (En T) 'a' rfl T.Cb T.mO.kp T.mO.b .nil aC (ai (fj (pv 0) rfl) aa)) (ai (pv 1) (ai (lO (rO (K:=K) rfl) (by rfl) T.gB eN (ai (fj (pv 0) rfl) aa)) (ai (fj (pv 0) rfl) aa)))))))),?_);walk_at "rd";let(us,hu,hl):=r.Eu;refine(_,_,_,r.top,T.dz,T.gj,_,rfl,?_);refine b_.of (xs:=us) (by rw[hl.len,r.len,sizeLine_eq];decide) (az.of hu) (λD i ys H'=>wc H' (rs.take i) ys/\au H H'/\H' D=some (.lst ys)) (λD hD=>((rfl,λi x e=>by cases e),aJ hD,ax)) (λD i ys H' hD hi (e,s1,h1)=>(az.of (s1 _ _ hu),h1,by rw[e.len,lA];lia)) ?_ ?_
 ·rintro D i x ys H' hD hx ⟨e,s1,h1⟩;walk_at "rd";refine(.no .nil,?_);have hi:i<rs.length:=by rw[<-hl.len];exact(fA.mp hx).1
  let(v,h2,h3):=hl.at_ i _ (jw hi);rw[h2]at hx;cases hx;refine(_,h3.mono s1,λv' H2 s2 h4=>(s2 _ _ h1,?_,cg hD 'n',ax));rw[List.take_add_one,jw hi];have b:=eG.upd (o:=.lst (ys++[v'])) (s2 _ _ h1);exact((e.mono s2).keep λ_ _ z=>b.tup z).snoc (h4.keep λ_ _ z=>b.tup z)
 ·rintro D ys H' hD ⟨e,s1,h1⟩;rw[hl.len,g9]at e;have n1:=r.mono s1;refine(_,_,_,n1.top,T.dz,T.ki,_,rfl,?_);refine(.inr ⟨Yc,pl⟩,(_,rfl,n1.Tf),λv' H2 s2 h4=>?_);let(q,rfl,hq):=h4;have n2:=n1.mono s2;refine(_,_,_,n2.top,T.dz,T.iu,_,rfl,_,rfl,_,.inl (az.of n2.SY),λl hl'=>?_);have s3:=aJ (o:=.lst []) hl';have n3:=n2.mono s3;refine(_,_,_,n3.top,T.dz,T.j5,_,rfl,by decide,λp hp=>?_);have s4:=aJ (o:=.tup [.ref q,.ref D,.ref l,.bl false]) hp;have s24:=s2.trans (s3.trans s4);exact k p q D l _ (s1.trans s24) (ax,s4 _ _ (s3 _ _ hq),(ys,s24 _ _ h1,e.mono s24),s4 _ _ ax) hD (iC s1 (iC s2 hl'))
def GG{rs:List Int}{i:Int}(h0:0<=i)(h1:i<rs.length):∃v:Int,gz (rs.map V.int) i=some (V.int v)/\rs.getD i.toNat 0=v/\v∈rs:=by
 have hi:i.toNat<rs.length:=by lia
 have e:i=((i.toNat:Nat):Int):=by lia
 refine(rs[i.toNat],?_,by rw[zM,jw hi];rfl,Aw hi);have z:gz (rs.map V.int) ((i.toNat:Nat):Int)=some (V.int rs[i.toNat]):=L2.dq (by rw[l_,jw hi];rfl);rw[<-e]at z;exact z
def yk.more(h:yk H H1 dm ds n j)(s:au H1 H2):yk H H2 dm ds n j:=by
 let(km,h1,h3):=h.sZ;let(ks,h4,h5):=h.str;exact(λb o a1 a2 e=>s _ _ (h.off b o a1 a2 e),(km,s _ _ h1,h3),(ks,s _ _ h4,h5))
def yk.put{H H1:Hp}{dm ds:Addr}{n j:Nat}(h:yk H H1 dm ds n j)(nd:dm≠ds){km:List (List Key×V)}(hm:H1 dm=some (.dT km))(k:List Key)(v:V):yk H (upd H1 dm (.dT (putK km k v))) dm ds (n+1) j:=by
 let(km',h1,h3):=h.sZ;obtain rfl:km'=km:=by have:=h1.symm.trans hm;injection this with this;injection this
 let(ks,h4,h5):=h.str;exact(λb o a1 a2 e=>by rw[ae a1];exact h.off b o a1 a2 e,(_,ax,by have:=cJ km' k v;lia),(ks,by rw[ae nd.symm];exact h4,h5))
def yk.Vn(h:yk H H1 dm ds n j)(nd:dm≠ds){ks:List (List Key×V)}(hs:H1 ds=some (.dT ks))(k:List Key)(v:V):yk H (upd H1 ds (.dT (putK ks k v))) dm ds n (j+1):=by
 let(km,h1,h3):=h.sZ;let(ks',h4,h5):=h.str;obtain rfl:ks'=ks:=by have:=h4.symm.trans hs;injection this with this;injection this
 exact(λb o a1 a2 e=>by rw[ae a2];exact h.off b o a1 a2 e,(km,by rw[ae nd];exact h1,h3),(_,ax,by have:=cJ ks' k v;lia))
def RF(T:Txt K mg A):Z0 P w mg base T.Kn 6 (vW A):=by
 refine T.Kn.ok fL ?_ ?_;walk_at "k"
 let(x,dx,dm,ds,dN,p,mn,km,ks,rfl,hx,hm,hs,nd,lm,ls,pa,pf,tn,k):=h
 refine(_,(aU (pF (yD (K:=K) rfl rfl T.lC (ai (tx K (pv 1)) aa)) (cq <| cj (K:=K) (n:=2) rfl rfl (eA <| d7 (pn 3 fL.nd) (eA <| d7 (pn 4 fL.nd) cu))) (aL (pS 5 fL.nd (tx K (pv 4))) (aL (pS 6 fL.nd (tx K (pv 4))) (aL (c_ <| dU (bO hr) (fj (pv 0) rfl) (aR (ai (tx K (pv 1)) (ai (pv 3) aa))) (aR (ai (tx K (pv 4)) (ai (bV (kG (K:=K) rfl) (by rfl) T.f9 dS (ai (pv 5) aa)) aa))) rfl) (fY (aL (pF (yD (K:=K) rfl rfl T.lC (ai (pv 5) aa)) (cq <| cj (K:=K) (n:=2) rfl rfl (eA <| d7 (pn 7 fL.nd) (eA <| d7 (pn 8 fL.nd) cu))) (aU (c_ <| dU (bO hr) (fj (pv 0) rfl) (aR (ai (tx K (pv 1)) (ai (pv 3) (ai (pv 7) aa)))) (pv 8) rfl))) (fY (aU (pF (NP rfl T.Q7 (ai (pv 6) (ai (cF (N8 T) 'a' rfl T.LR T.vA.kp T.vA.b .nil aC (ai (pv 1) (ai (pv 2) (ai (pv 6) aa)))) aa))) (cq <| cj (K:=K) (n:=2) rfl rfl (eA <| d7 (pn 9 fL.nd) (eA <| d7 (pn 10 fL.nd) cu))) (aL (pS 7 fL.nd (tx K (pv 9))) (aU (c_ <| dU (bO hr) (fj (pv 0) rfl) (aR (ai (tx K (pv 1)) (ai (pv 3) (ai (pv 7) aa)))) (cF (QL T) 'a' rfl T.SR T.EL.kp T.EL.b .nil aC (ai (bX (eM (K:=K) rfl) (pv 5) (pv 7) (λ_ _=>rfl)) (ai (tx K (pv 9)) (ai (pv 10) aa)))) rfl))))))))))))),?_);walk_at "rd"
 refine(_,bc.of pa.top,_,rfl,?_);have fr {H':Hp}(f:∀b o,b≠dm->b≠ds->H b=some o->H' b=some o) {b:Addr}{o:HO}(h:H b=some o) (no:∀kv,o≠.dT kv):H' b=some o:=f b o (bA h hm (no _)) (bA h hs (no _)) h;have lt {H':Hp}(f:∀b o,b≠dm->b≠ds->H b=some o->H' b=some o):eB H H':=λb o h e=>fr f e (by rcases h with ⟨_,rfl⟩|⟨_,rfl⟩<;>intro _ z<;>cases z);refine C5.of (xs:=p.ba.map br.v) (λi Z H'=>∃a3 a4 a5 a6 a7 a8 a9 a10,Z=[some (V.ref x),some p.v,some (V.ref dN),a3,a4,a5,a6,a7,a8,a9,a10]/\yk H H' dm ds (km.length+200*i) (ks.length+i)) (_,_,_,_,_,_,_,_,rfl,λb o _ _ h=>h,(km,hm,bJ _),(ks,hs,bJ _)) (λi Z H' hi (_,_,_,_,_,_,_,_,_,ti)=>az.of (iz (lt ti.off) pa.sl)) ?_ ?_
 ·rintro i v Z H' q hv ⟨_,_,_,_,_,_,_,_,rfl,ti⟩ hq;walk_at "rd";walk_at "6";let(st,hst,rfl):=fC.mp hv;have hin:st∈p.ba:=dZ hst;have hil:i<p.ba.length:=(fA.mp hst).1;have sb:=pf.bn.ss st hin;have cY:=pf.bn.st;have sa:=pa.ss st hin;have s1:=aJ (o:=HO.tup [V.int i,st.v]) hq;have t1:=ti.more s1;have eq1:=@ax H' q (HO.tup [V.int i,st.v]);generalize upd H' q _=H1 at *;have lt1:=lt t1.off;have lw1:=iz lt1 sa.wd;have st1:=ku lt1 sa.top;refine(_,bc.of eq1,rfl,_,_,rfl,_,_,rfl,rfl,_,rfl,_,bc.of st1,_,rfl,_,rfl,_,bc.of st1,_,rfl,_,rfl,_,bc.of st1,_,rfl,st.words.length,.inl (_,az.of lw1,by rw[aD]),by decide,λq4 hq4=>?_);have s2:=aJ (o:=HO.tup [V.str st.kind,V.int st.words.length]) hq4;have t2:=t1.more s2;generalize upd H1 q4 _=H2 at *;refine(_,_,_,fr t2.off hx (by intro _ z;cases z),T.dz,T.gq,_,rfl,_,bc.of (ku (lt t2.off) pa.top),_,rfl,by decide,λq5 hq5=>?_);have s3:=aJ (o:=HO.tup [V.str p.name,V.int i]) hq5;have eq5:=@ax H2 q5 (HO.tup [V.str p.name,V.int i]);have t3:=t2.more s3;generalize upd H2 q5 _=H3 at *;let(ks1,hs1,lk1):=t3.str;refine(_,rfl,_,dQ.t (k:=[.inr p.name,.inl (i:Int)]) hs1 eq5 (by rw[sizeLine_eq];omega),?_);have t4:=t3.Vn nd hs1 [.inr p.name,.inl (i:Int)] (V.ref q4)
  generalize upd H3 ds _=H4 at *;refine iD ?_;walk_at "rd";refine C5.of (xs:=st.words.map V.int) (λj Z H5=>∃a7 a8 a9 a10,Z=[some (V.ref x),some p.v,some (V.ref dN),some (V.int i),some st.v,some (V.ref st.lw),some (V.ref st.lf),a7,a8,a9,a10]/\yk H H5 dm ds (km.length+200*i+j) (ks.length+i+1)) (_,_,_,_,rfl,t4) (λj Z H5 _ (_,_,_,_,_,ti)=>az.of (iz (lt ti.off) sa.wd)) ?_ ?_
  ·rintro j w5 Z H5 r hw ⟨_,_,_,_,rfl,ti5⟩ hr5;walk_at "rd";rw[l_]at hw;let(wv,hwv,rfl):=fC.mp hw;have u1:=aJ (o:=HO.tup [V.int j,V.int wv]) hr5;have er:=@ax H5 r (HO.tup [V.int j,V.int wv]);have t5:=ti5.more u1;generalize upd H5 r _=H6 at *;refine(_,bc.of er,rfl,_,_,rfl,_,_,rfl,rfl,_,_,_,fr t5.off hx (by intro _ z;cases z),T.dz,T.fM,_,rfl,_,bc.of (ku (lt t5.off) pa.top),_,rfl,by decide,λq6 hq6=>?_);have u2:=aJ (o:=HO.tup [V.str p.name,V.int i,V.int j]) hq6;have e6:=@ax H6 q6 (HO.tup [V.str p.name,V.int i,V.int j]);have t6:=t5.more u2;generalize upd H6 q6 _=H7 at *;have hj:=(fA.mp hwv).1;let(km6,hm6,lk6):=t6.sZ;refine(_,rfl,_,dQ.t (k:=kp p.name i j) hm6 e6 (by rw[sizeLine_eq];omega),?_);exact t6.put nd hm6 _ _
  ·rintro Z H5 ⟨_,_,_,_,rfl,ti5⟩;rw[aD]at ti5;dsimp only;refine iD ?_;walk_at "rd";have lt5:=lt ti5.off;have tn5:Tab H5 dN mn:=(fr ti5.off tn.top (by intro _ z;cases z),λm hm=>ku lt5 (tn.at_ m hm))
   refine(p,rfl,nH lt5 pa,pf.bn.nm,pf.bn.nd,st.fills,mn,tn5,iz lt5 sa.fl,sb.2,λf hf=>(ku lt5 (sa.fs f hf),λz=>((pf.R_ st hin f hf).2.2 z).1),λl' ys H6 s6 hl' hyl hy hln=>?_);have t6:=ti5.more s6;refine GF.of (xs:=st.fills.map ay.v) (ys:=ys) (by rw[aD,hyl]) (az.of (iz (lt t6.off) sa.fl)) (az.of hl') (λj Z H7=>∃a7 a8 a9 a10,Z=[some (V.ref x),some p.v,some (V.ref dN),some (V.int i),some st.v,some (V.ref st.lw),some (V.ref st.lf),a7,a8,a9,a10]/\yk H H7 dm ds (km.length+200*i+st.words.length+j) (ks.length+i+1)/\H7 l'=some (.lst ys)/\∀b xs,H6 b=some (.tup xs)->H7 b=some (.tup xs)) (_,_,_,_,rfl,t6,hl',λ_ _ e=>e) (λj Z H7 _ (_,_,_,_,_,ti,hl,_)=>(az.of (iz (lt ti.off) sa.fl),az.of hl)) ?_ ?_
   ·rintro j fv v7 Z H7 r hf hv7 ⟨_,_,_,_,rfl,t7,hl7,tt7⟩ hr7;rw[l_]at hf;let(f,hfj,rfl):=fC.mp hf;have hfm:f∈st.fills:=dZ hfj;have hfo:=pf.R_ st hin f hfm;have av:=hy j f v7 hfj hv7;walk_at "rd";have u1:=aJ (o:=HO.tup [f.v,v7]) hr7;have er:=@ax H7 r (HO.tup [f.v,v7]);have t8:=t7.more u1;have hl8:=u1 _ _ hl7;have tt8:∀b xs,H6 b=some (.tup xs)->upd H7 r (HO.tup [f.v,v7]) b=some (.tup xs):=λb xs e=>u1 _ _ (tt7 b xs e);generalize upd H7 r _=H8 at *;have fa:=ku (lt t8.off) (sa.fs f hfm);let(wv,hwa,hwg,hwm):=GG (rs:=st.words) (i:=f.at_) hfo.1 hfo.2.1;have hwr:=pf.Tt st hin wv hwm;have fin:∀(v':V) (H9:Hp),au H8 H9->∃C d fs,H9 x=some (HO.ins C d fs)/\pY K C/\aW K C s!"memory"/\∃u,List.lookup s!"memory" fs=some u/\∃xs,bc K H9 p.t xs/\∃y,gz xs 0=some y/\3<=sizeLine/\∀(q9:Addr),H9 q9=none->∃a,u=V.ref a/\∃HX,dQ (upd H9 q9 (HO.tup [y,V.int i,V.int f.at_])) a (V.ref q9) v' HX/\yk H HX dm ds (km.length+200*i+st.words.length+(j+1)) (ks.length+i+1)/\HX l'=some (.lst ys)/\∀b xs,H6 b=some (.tup xs)->HX b=some (.tup xs):=λv' H9 s9=>by
     have t9:=t8.more s9;refine(_,_,_,fr t9.off hx (by intro _ z;cases z),T.dz,T.fM,_,rfl,_,bc.of (ku (lt t9.off) pa.top),_,rfl,by decide,λq9 hq9=>?_);have u9:=aJ (o:=HO.tup [V.str p.name,V.int i,V.int f.at_]) hq9;have e9:=@ax H9 q9 (HO.tup [V.str p.name,V.int i,V.int f.at_]);have t10:=t9.more u9;have hl9:=u9 _ _ (s9 _ _ hl8);have tt9:∀b xs,H6 b=some (.tup xs)->upd H9 q9 (HO.tup [V.str p.name,V.int i,V.int f.at_]) b=some (.tup xs):=λb xs e=>u9 _ _ (s9 _ _ (tt8 b xs e));generalize upd H9 q9 _=H10 at *;let(km9,hm9,lk9):=t10.sZ;have hjl:=(fA.mp hfj).1;refine(_,rfl,_,dQ.t (k:=kp p.name i f.at_) hm9 e9 (by rw[sizeLine_eq];have:=sb.1;have:=sb.2;lia),?_,?_,λb xs e=>?_)
     ·exact t10.put nd hm9 _ _
     ·rw[ae (bA hl9 hm9 'j')];exact hl9
     ·have e':=tt9 b xs e;rw[ae (bA e' hm9 'j')];exact e'
    refine(_,bc.of er,rfl,_,_,rfl,_,_,rfl,rfl,_,rfl,_,bc.of fa,_,rfl,_,rfl,_,az.of (iz (lt t8.off) sa.wd),_,hwa,_,rfl,_,bc.of fa,_,rfl,wv,rfl,_,rfl,hwr.1,hwr.2,?_);refine(?_,fin);rcases av with ⟨a,b,c,q0,hres,rfl,hq0⟩|⟨hres,rfl⟩
    ·exact .inr (q0,rfl,⟨a,b,c+f.add⟩,tt8 _ _ hq0)
    ·exact .inl (_,rfl,(hfo.2.2 hres).2)
   ·rintro Z H7 ⟨_,_,_,_,rfl,t7,_,_⟩;rw[aD]at t7;refine(_,_,_,_,_,_,_,_,rfl,t7.off,?_,?_)
    ·let(km7,h1,h3):=t7.sZ;exact(km7,h1,by have:=sb.1;have:=sb.2;lia)
    ·let(ks7,h1,h2):=t7.str;exact(ks7,h1,by lia)
 ·rintro Z H' ⟨_,_,_,_,_,_,_,_,rfl,ti⟩;rw[aD]at ti;let(km',h1,h3):=ti.sZ;let(ks',h4,h5):=ti.str;exact k km' ks' H' ti.off h1 h4 h3 h5
def v5(h:jj G S e T rs)(c:c9 G S e T'):∀p∈T,p∈T':=by
 have hl:rs.length=T.length:=by have:=congrArg List.length h.len;rwa [aD,aD]at this
 have key:∀n i:Nat,i<n->∀p,T[i]?=some p->p∈T':=by
  intro n
  induction n with
  |zero=>intro i hi;lia
  |succ n ih=>
   intro i hi p hp;have hi2:=(fA.mp hp).1;have hr:rs[i]?=some (rs[i]'(by lia)):=jw (by lia);generalize rs[i]'(by lia)=r at hr;let(j1,j2,j3):=h.RD i p r hp hr;have mz:cI G S r.2.1:=.inr (by rw[j2];rfl);have cv:iZ G S T' r.2.1:=by
    rcases j3 with ⟨_,b2⟩|⟨q,hq,_,b2⟩
    ·rw[b2]at mz ⊢;exact c.1 mz
    ·refine c.2 q ?_ _ b2 mz;rcases bT.mp hq with y|y
     ·exact eD _ y
     ·let(j,hj):=HP y;have hj2:=(fA.mp hj).1;rw[lA]at hj2;rw[List.getElem?_take_of_lt (by lia)]at hj;exact eW _ (ih j (by lia) q hj)
   rcases cv with a|⟨v,hv,a⟩
   ·rw[j1]at a;cases a
   ·rw[j2]at a;rw[Option.some.inj a];exact hv
 intro p hp;let(i,hi):=HP hp;exact key (i+1) i (AS _) p hi
def yz(h:ns.Nodup)(d:tW ns z):False:=by
 let(i,j,hij,hi,hj):=d;let(li,ei):=fA.mp hi;let(lj,ej):=fA.mp hj;exact Gi.mp h i j li lj hij (ei.trans ej.symm)
def vK.one{G S:List Co}{e:Str}{x y:Ot}(hx:vK G S e x)(hy:vK G S e y):x=y:=by
 have dm:∀{T T':List Co}{rs rs':List (Str×Str×Str)},jj G S e T rs->c9 G S e T'->∀z b,Dm G S e T z b->Dm G S e T' z b:=λ{T T' rs rs'} t c z b hd=>(hd.1,hd.2.imp id λ(q,hq,w)=>(q,(bT.mp hq).elim (eD _) λy=>eW _ (v5 t c q y),w))
 match x,y,hx,hy with
 |none,none,_,_=>rfl
 |none,some ⟨z,none⟩,hx,hy=>exact(yz hx.1 hy.1).elim
 |some ⟨z,none⟩,none,hx,hy=>exact(yz hy.1 hx.1).elim
 |some ⟨z,none⟩,some ⟨z',some b⟩,hx,hy=>exact(yz hy.1 hx.1).elim
 |some ⟨z',some b⟩,some ⟨z,none⟩,hx,hy=>exact(yz hx.1 hy.1).elim
 |some ⟨z,none⟩,some ⟨z',none⟩,hx,hy=>rw[gc (hx.2 z' hy.1) (hy.2 z hx.1)]
 |none,some ⟨z,some b⟩,hx,hy=>
  let(_,T,rs,t1,c1,n1):=hx;let(_,T',rs',t2,c2,l2):=hy;exact(n1 z b (dm (rs':=rs) t2 c1 z b l2.zo)).elim
 |some ⟨z,some b⟩,none,hx,hy=>
  let(_,T,rs,t1,c1,n1):=hy;let(_,T',rs',t2,c2,l2):=hx;exact(n1 z b (dm (rs':=rs) t2 c1 z b l2.zo)).elim
 |some ⟨z,some b⟩,some ⟨z',some b'⟩,hx,hy=>
  let(_,T,rs,t1,c1,l1):=hx;let(_,T',rs',t2,c2,l2):=hy;have e1:z=z':=gc (l1.name _ _ (dm (rs':=rs) t2 c1 _ _ l2.zo)) (l2.name _ _ (dm (rs':=rs) t1 c2 _ _ l1.zo));subst e1;rw[gc (l1.kh _ (dm (rs':=rs) t2 c1 _ _ l2.zo)) (l2.kh _ (dm (rs':=rs) t1 c2 _ _ l1.zo))]
def Fb:tW (y::ns) z↔(y=z/\z∈ns)\/tW ns z:=by
 constructor
 ·rintro⟨i,j,hij,hi,hj⟩;obtain⟨j,rfl⟩:∃k,j=k+1:=(j - 1,by lia)
  rw[List.getElem?_cons_succ]at hj;cases i with
  |zero=>exact .inl (Option.some.inj hi,dZ hj)
  |succ i=>rw[List.getElem?_cons_succ]at hi;exact .inr (i,j,by lia,hi,hj)
 ·rintro (⟨rfl,h⟩|⟨i,j,hij,hi,hj⟩)
  ·let(j,hj):=HP h;exact(0,j+1,by lia,rfl,hj)
  ·exact(i+1,j+1,by lia,hi,hj)
def pW:tW ns z↔1<ns.count z:=by
 induction ns with
 |nil=>exact((λ(i,j,_,h,_)=>by simp at h),(λh=>by simp at h))
 |cons y r ih=>
  rw[Fb,ih,List.count_cons,<-List.count_pos_iff (a:=z) (l:=r)];by_cases e:y=z
  ·rw[if_pos (by simpa using e)];exact(λh=>h.elim (λh=>by have:=h.2;lia) λh=>by lia,λh=>.inl (e,by lia))
  ·rw[if_neg (by simpa using e)];exact(λh=>h.elim (λh=>absurd h.1 e) id,.inr)
def cnt_strs{ns:List Str}{z:Str}:FK (.str z) (ns.map V.str)=ns.count z:=by
 unfold FK List.count;rw[List.countP_map];congr 1
def RG(T:Txt K mg A):Z0 P w mg base T.Er 1 wL:=by
 refine T.Er.ok mU ?_ ?_;walk_at "k"
 let(S,ys,rfl,hS,cY,k,kx):=h;refine(_,(aL (pS 1 mU.nd (aF aa)) (aL (pF (fh (K:=K) rfl (pv 0)) (pn 2 mU.nd) (aU (pS 1 mU.nd (aA (dF (K:=K) rfl) (pv 1) (cN (gX ["_law_piece"]) rfl (fh (K:=K) rfl (pv 2)) (λ_ _ _=>((pn 0 'g'),bR,'r'))))))) (aL (pF (fh (K:=K) rfl (bV (ka (K:=K) rfl) (by rfl) T.d_ eQ (ai (pv 1) aa))) (pn 3 mU.nd) (aU (aQ (bI BZ (pZ PySem.F.plainAttrs_list PySem.F.slot_list_count PySem.F.type_list_count (pX (K:=K) rfl) (pv 1) (ai (pv 3) aa)) af (aE _)) (aU (aw (pv 3))) bN))) (aU (aw bW))))),?_);walk_at "rd";refine(d6 _,λl0 h0=>?_);refine dI.of (xs:=ys.map λy=>V.ref y.1) (λi Z H'=>∃(l:Addr) (b2:Option V),Z=[some (.ref S),some (.ref l),b2,none]/\au H H'/\H' l=some (.lst (((flat (ys.take i)).map aj.name).map V.str)))
  (l0,_,rfl,aJ h0,ax) ?_ ?_ ?_
 ·rintro i Z H' hi ⟨l,b2,rfl,s1,_⟩;exact az.of (s1 _ _ hS.top)
 ·rintro i v Z H' hv ⟨l,b2,rfl,s1,hl⟩;walk_at "6";let(y,hy,rfl):=fC.mp hv;have hm:=dZ hy;have pl:=hS.at_ y hm;have tk:=iH hy;have fl:=yF ys (i+1);rw[tk,cw]at fl;walk_at "rd";refine xD (as:=y.2) (f:=aj.t) (g:=aj.name) (r:=λp=>[.ref p.ls,.ref p.ln]) (s1 _ _ pl.top) (by lia) (λp hp=>s1 _ _ (pl.at_ p hp).top) λD H2 s2 hD e2=>?_;refine(D,rfl,_,az.of (s2 _ _ hl),_,az.of e2,by simp only[List.length_map];rw[sizeLine_eq];lia,λq hq=>('n'.trans (aJ hq),?_));rw[ax,tk,aV,aV]
 ·rintro Z H' ⟨l,b2,rfl,s1,hl⟩;rw[aD,g9]at hl;walk_at "rd";refine(_,az.of hl,by rw[aD];lia,λl2 ss hl2 pm pw=>?_);have s2:=aJ (o:=HO.lst 'E') hl2;have hl3:=s2 _ _ hl;have e3:=@ax H' l2 (HO.lst 'E');have s3:=s1.trans s2;generalize upd H' l2 _=H3 at *;refine dI.of (xs:=ss.map V.str) (λi Z H2=>∃b3:Option V,Z=[some (.ref S),some (.ref l),b2,b3]/\H2=H3/\∀z∈ss.take i,¬tW ((flat ys).map aj.name) z)
   (_,rfl,rfl,λz hz=>by simp at hz) ?_ ?_ ?_
  ·rintro i Z H2 hi ⟨b3,rfl,rfl,_⟩;exact az.of e3
  ·rintro i v Z H2 hv ⟨b3,rfl,rfl,no⟩;walk_at "6";walk_at "10";have tz:ss.take (i+1)=ss.take i++[z]:=by rw[gY,hz];rfl
   walk_at "rd";refine(.inl (rfl,_,az.of hl3),_,az.of hl3,rfl,qb _,?_);rw[cnt_strs];by_cases q:1<((flat ys).map aj.name).count z
   ·rw[if_pos (by rw[decide_eq_true_eq];omega)];refine kx z H2 s3 (pW.mpr q) λz' hz'=>?_;have hin:z'∈ss:=pm.mem_iff.mpr (by
     let(a,_,_,ha,_):=hz';exact dZ ha)
    let(j,hj,rfl):=GS hin;let(hi,ei):=fA.mp hz;rcases Sv j i with q'|q'|q'
    ·exact absurd hz' (no ss[j] (List.mem_take_iff_getElem.mpr (j,by lia,rfl)))
    ·subst q';rw[ei];exact Ji _
    ·have:=Gi.mp pw i j hi hj q';rw[ei]at this;exact this
   ·rw[if_neg (by rw[decide_eq_true_eq];omega)];refine λy hy=>?_;rw[tz]at hy;rcases bT.mp hy with h|h
    ·exact no y h
    ·rw[bU.mp h];exact λd=>q (pW.mp d)
  ·rintro Z H2 ⟨b3,rfl,rfl,no⟩;rw[aD,g9]at no;walk_at "rd";refine k H2 s3 (DO λz hz=>no z (pm.mem_iff.mpr ?_) hz);let(a,_,_,ha,_):=hz;exact dZ ha
def l9(h:H L=some (.lst [])):Rep K H (.lst []) (.ref L):=by
 simp only[Rep];exact(_,_,rfl,az.of h,by simp[RepL])
theorem lX{α:Type}{f:α->D}:∀l:List α,deqL (l.map f) []=l.isEmpty
 |[]=>rfl
 |_::_=>rfl
theorem sv.same(h:sv H ts)(s:au H H'):sv H' ts:=λx hx=>s _ _ (h x hx)
theorem sv.add(h:sv H ts)(g:sv H us):sv H (ts++us):=λx hx=>(bT.mp hx).elim (h x) (g x)
theorem sv.upd(h:sv H ts)(hl:H l=some o)(ho:∀xs,o≠.tup xs):sv (upd H l o') ts:=λx hx=>by
 rw[ae (bA (h x hx) hl (λz=>ho _ z.symm))];exact h x hx
def pM{p:aj}{l:Addr}{ws:List Str}{H:Hp}{Q:VK}(hp:p.At H)(hl:H l=some (.lst (ws.map V.str)))(cY:ws.length<=100)
  (k:∀(D:Addr) (ts:List yy) (H':Hp),au H H'->H D=none->H' D=some (.lst (ts.map λx=>V.ref x.1))->sv H' ts->ts.map (·.2)=ws.map (λz=>⟨z,p.name⟩)->Q (.ref D) H'):
  b_ K (g_ 0) zP (PB (tU (lL 0) (tU (Bj (ue K) (lL 1) (tC (V.int 0))) y_))) [none,some p.v] Q (V.ref l) H:=by
 refine b_.of (xs:=ws.map V.str) 'd' (az.of hl) (λD i vs H'=>∃ts:List yy,vs=ts.map (λx=>V.ref x.1)/\au H H'/\H' D=some (.lst vs)/\sv H' ts/\ts.map (·.2)=(ws.take i).map λz=>⟨z,p.name⟩)
  (λD hD=>([],rfl,aJ hD,ax,(λx hx=>by cases hx),rfl)) ?_ ?_ ?_
 ·rintro D i vs H' hD hi ⟨ts,rfl,s1,hDD,_,e⟩;refine(az.of (s1 _ _ hl),hDD,?_);have:=congrArg List.length e;walk_at "9";rw[aD];lia
 ·rintro D i v vs H' hD hv ⟨ts,rfl,s1,hDD,ta,e⟩;walk_at "6";walk_at "10";walk_at "rd";refine(.no (.yes .nil),_,bc.of (s1 _ _ hp.top),_,rfl,by walk_at "s", λt ht=>?_);have s2:=aJ (o:=HO.tup [V.str z,V.str p.name]) ht;refine(s2 _ _ hDD,ts++[⟨t,z,p.name⟩],by simp,cg hD 'n',ax,sv.upd (o:=.lst (ts.map λx=>V.ref x.1)) ((ta.same s2).add λx hx=>?_) (s2 _ _ hDD) (λ_ z=>by cases z),?_)
  ·rw[bU.mp hx];exact ax
  ·rw[aV,e,gY,hz,aV];rfl
 ·rintro D vs H' hD ⟨ts,rfl,s1,hDD,ta,e⟩;walk_at "1";exact k D ts H' s1 hD hDD ta e
def oA(ps:List aj):List (Str×Str):=ps.flatMap λp=>(c8 p (aG p.ba)).map λz=>⟨z,p.name⟩
def iA:oA (ps++[p])=oA ps++(c8 p (aG p.ba)).map λz=>⟨z,p.name⟩:=by
 unfold oA;rw[oJ];simp
def jC:⟨z,b⟩∈oA ps↔∃q∈ps,q.name=b/\bM z (ao q)=true:=by
 unfold oA;rw[fU];constructor
 ·rintro⟨p,hp,h⟩;let(y,hy,e):=aK.mp h;have e1:y=z:=congrArg (·.1) e;have e2:p.name=b:=congrArg (·.2) e;exact(p,hp,e2,pe.mp (e1▸hy))
 ·rintro⟨p,hp,rfl,h⟩;exact(p,hp,aK.mpr (z,pe.mpr h,rfl))
def uf(h:∀p∈ps,m6 p):(oA ps).length<=61*ps.length:=by
 induction ps with
 |nil=>exact bJ _
 |cons p r ih=>
  have h1:=ih λq hq=>h q (jQ _ hq);have h2:=iR (h p mm);have e:oA (p::r)=((c8 p (aG p.ba)).map λz=>⟨z,p.name⟩)++oA r:=rfl;rw[e,cw,aD,oY];lia
structure sM(H H':Hp)(d u l:Addr)(ws:List aj)(un lf:List yy):Prop where
 sm:au H H'
 hd:H d=none
 hu:H u=none
 hl:H l=none
 dd:H' d=some (.dK (ws.map AU))
 uu:H' u=some (.lst (un.map λx=>V.ref x.1))
 ll:H' l=some (.lst (lf.map λx=>V.ref x.1))
 ua:sv H' un
 la:sv H' lf
 ul:u≠l
theorem sM.same(h:sM H H' d u l ws un lf)(s:au H' H''):sM H H'' d u l ws un lf:=(h.sm.trans s,h.hd,h.hu,h.hl,s _ _ h.dd,s _ _ h.uu,s _ _ h.ll,h.ua.same s,h.la.same s,h.ul)
theorem sM.cat(h:sM H H' d u l ws un lf)(ta:sv H' ts)(hq:H' q=none):sM H (upd H' q (.lst (lf.map (λx=>V.ref x.1)++ts.map λx=>V.ref x.1))) d u q ws un (lf++ts):=
 have s:=aJ (o:=HO.lst (lf.map (λx=>V.ref x.1)++ts.map λx=>V.ref x.1)) hq
 (h.sm.trans s,h.hd,h.hu,h.sm.free hq,s _ _ h.dd,s _ _ h.uu,by rw[ax,aV],h.ua.same s,(h.la.add ta).same s,bD h.uu hq)
def sM.pop(h:sM H H' d u l ws un (lf++[x])):sM H (upd H' l (.lst (((lf++[x]).map λx=>V.ref x.1).dropLast))) d u l ws un lf:=by
 have e:((lf++[x]).map λx=>V.ref x.1).dropLast=lf.map λx=>V.ref x.1:=by rw[aV,LS,List.dropLast_concat]
 exact(cg h.hl h.sm,h.hd,h.hu,h.hl,by rw[ae (bA h.dd h.ll 'j')];exact h.dd,by rw[ae h.ul];exact h.uu,by rw[ax,e],h.ua.upd h.ll (λ_ z=>by cases z),(sv.upd (λy hy=>h.la y (eD _ hy)) h.ll (λ_ z=>by cases z)),h.ul)
theorem sM.app(h:sM H H' d u l ws un lf)(ht:H' t=some (.tup [.str z,.str b])):sM H (upd H' u (.lst (un.map (λx=>V.ref x.1)++[V.ref t]))) d u l ws (un++[⟨t,z,b⟩]) lf:=
 (cg h.hu h.sm,h.hd,h.hu,h.hl,by rw[ae (bA h.dd h.uu 'j')];exact h.dd,by rw[ax,aV];rfl,by rw[ae (Ne.symm h.ul)];exact h.ll,(h.ua.add (λy hy=>by rw[bU.mp hy];exact ht)).upd h.uu (λ_ z=>by cases z),h.la.upd h.uu (λ_ z=>by cases z),h.ul)
def CF{ws:List aj}(z:Str):bE (ws.map AU) (.inr z)=(ws.find? λp=>decide (p.name=z)).map aj.v:=by
 induction ws with
 |nil=>rfl
 |cons p r ih=>
  rw[iS,KU];by_cases h:p.name=z
  ·rw[cf (p:=AU p) (congrArg Sum.inr h),decide_eq_true h];rfl
  ·rw[bZ (p:=AU p) (λq=>h (Sum.inr.inj q)),ih,decide_eq_false h]
def JI{ws:List aj}{z:Str}(n:z∉ws.map aj.name):bE (ws.map AU) (.inr z)=none:=by
 rw[CF,Gs.mpr];rfl;exact λp hp q=>n (aK.mpr (p,hp,of_decide_eq_true q))
def xG{ws:List aj}(nd:(ws.map aj.name).Nodup){p:aj}(h:p∈ws):bE (ws.map AU) (.inr p.name)=some p.v:=by
 rw[CF];cases e:ws.find? λq=>decide (q.name=p.name) with
 |none=>exact absurd (decide_eq_true rfl) (Gs.mp e p h)
 |some q=>rw[jE nd (vM e) h (of_decide_eq_true (IF (p:=λq:aj=>decide (q.name=p.name)) e))];rfl
theorem sM.put{H H':Hp}{d u l:Addr}{ws:List aj}{un lf:List yy}{p:aj}(n:p.name∉ws.map aj.name)(h:sM H H' d u l ws un lf):sM H (upd H' d (.dK (putK (ws.map AU) (.inr p.name) p.v))) d u l (ws++[p]) un lf:=
 (cg h.hd h.sm,h.hd,h.hu,h.hl,by rw[ax,nN _ (JI n),aV];rfl,by rw[ae (bA h.uu h.dd 'j')];exact h.uu,by rw[ae (bA h.ll h.dd 'j')];exact h.ll,h.ua.upd h.dd (λ_ z=>by cases z),h.la.upd h.dd (λ_ z=>by cases z),h.ul)
def Wn(e:Str)(ps:List aj)(z b:Str):Prop:=(b=s!"" /\ z=e)\/⟨z,b⟩∈oA ps
structure Fp(G S:List aj)(e:Str)(un lf:List yy)(Tp:List aj)(rs:List (Str×Str×Str)):Prop where
 tc:jj (G.map ao) (S.map ao) e (Tp.map ao) rs
 sub:∀p∈Tp,p∈S
 lw:∀x∈lf,Wn e (G++Tp) x.2.1 x.2.2
 uw:∀x∈un,¬cI (G.map ao) (S.map ao) x.2.1/\Wn e (G++Tp) x.2.1 x.2.2
 dn:∀z b,Wn e (G++Tp) z b->⟨z,b⟩∈lf.map (·.2)\/((cI (G.map ao) (S.map ao) z->iZ (G.map ao) (S.map ao) (Tp.map ao) z)/\(¬cI (G.map ao) (S.map ao) z->⟨z,b⟩∈un.map (·.2)))
 ln:lf.length+un.length<=1+61*(G++Tp).length
def rb{lf:List yy}{x:yy}{y:Str×Str}(h:y∈(lf++[x]).map (·.2)):y∈lf.map (·.2)\/y=x.2:=by
 rw[aV]at h;exact(bT.mp h).imp id bU.mp
def Fp.UQ(h:Fp G S e un (lf++[x]) Tp rs)(hn:¬cI (G.map ao) (S.map ao) x.2.1):Fp G S e (un++[⟨t,x.2⟩]) lf Tp rs:=by
 refine(h.tc,h.sub,λy hy=>h.lw y (eD _ hy),λy hy=>?_,λz b hw=>?_,?_)
 ·rcases bT.mp hy with q|q
  ·exact h.uw y q
  ·rw[bU.mp q];exact(hn,h.lw x (by simp))
 ·rw[aV];rcases h.dn z b hw with q|⟨q1,q2⟩
  ·rcases rb q with q|q
   ·exact .inl q
   ·refine .inr (λm=>absurd m ?_,λ_=>eW _ ?_)
    ·rw[<-q]at hn;exact hn
    ·rw[q];exact bU.mpr rfl
  ·exact .inr (q1,λm=>eD _ (q2 m))
 ·have:=h.ln;rw[cw]at this ⊢;simp only[List.length_singleton]at this ⊢;lia
def Fp.U_(h:Fp G S e un (lf++[x]) Tp rs)(hc:iZ (G.map ao) (S.map ao) (Tp.map ao) x.2.1):Fp G S e un lf Tp rs:=by
 refine(h.tc,h.sub,λy hy=>h.lw y (eD _ hy),h.uw,λz b hw=>?_,?_)
 ·rcases h.dn z b hw with q|q
  ·rcases rb q with q|q
   ·exact .inl q
   ·have ez:z=x.2.1:=congrArg (·.1) q;have m:cI (G.map ao) (S.map ao) z:=by
     rw[ez];rcases hc with y|⟨p,_,y⟩
     ·exact .inl y
     ·exact .inr (by rw[y];rfl)
    exact .inr (λ_=>by rw[ez];exact hc,λn=>absurd m n)
  ·exact .inr q
 ·have:=h.ln;rw[cw]at this;lia
def Fp.Vf(h:Fp G S e un (lf++[x]) Tp rs)(hg:dy (G.map ao) x.2.1=none)(hf:dy (S.map ao) x.2.1=some (ao p))(hp:p∈S)(n:p.name∉(G++Tp).map aj.name)(pb:m6 p)(et:ts.map (·.2)=(c8 p (aG p.ba)).map λz=>⟨z,p.name⟩):Fp G S e un (lf++ts) (Tp++[p]) (rs++[⟨p.name,x.2.1,x.2.2⟩]):=by
 have ea:G++(Tp++[p])=(G++Tp)++[p]:=(tD ..).symm;have em:(Tp++[p]).map ao=Tp.map ao++[ao p]:=aV;have mono:∀{z b},Wn e (G++Tp) z b->Wn e (G++(Tp++[p])) z b:=λ{z b} q=>q.imp id λq=>by rw[ea,iA];exact eD _ q
 have lw:=h.lw x (by simp);refine(?_,λq hq=>?_,λy hy=>?_,λy hy=>((h.uw y hy).1,mono (h.uw y hy).2),λz b hw=>?_,?_)
 ·rw[em];refine h.tc.snoc (p:=ao p) hg hf (λq=>n ?_) (lw.imp id λq=>?_)
  ·rw[iF]at q;rw[aV];exact eW _ q
  ·let(r,hr,q1,q2):=jC.mp q;exact(ao r,by rw[<-aV];exact aK.mpr (r,hr,rfl),q1,q2)
 ·rcases bT.mp hq with y|y
  ·exact h.sub q y
  ·rw[bU.mp y];exact hp
 ·rcases bT.mp hy with q|q
  ·exact mono (h.lw y (eD _ q))
  ·have:y.2∈ts.map (·.2):=aK.mpr (y,q,rfl);rw[et]at this;exact .inr (by rw[ea,iA];exact eW _ this)
 ·rw[ea]at hw;have old:Wn e (G++Tp) z b->⟨z,b⟩∈(lf++ts).map (·.2)\/((cI (G.map ao) (S.map ao) z->iZ (G.map ao) (S.map ao) ((Tp++[p]).map ao) z)/\(¬cI (G.map ao) (S.map ao) z->⟨z,b⟩∈un.map (·.2))):=λhw=>by
   rw[aV (l₁:=lf),em];rcases h.dn z b hw with q|⟨q1,q2⟩
   ·rcases rb q with q|q
    ·exact .inl (eD _ q)
    ·have ez:z=x.2.1:=congrArg (·.1) q;exact .inr (λ_=>.inr (ao p,by simp,by rw[ez];exact hf),λm=>absurd (.inr (by rw[ez,hf];rfl)) m)
   ·exact .inr (λm=>jx _ (q1 m),q2)
  rcases hw with q|q
  ·exact old (.inl q)
  ·rw[iA]at q;rcases bT.mp q with q|q
   ·exact old (.inr q)
   ·rw[<-et]at q;exact .inl (by rw[aV];exact eW _ q)
 ·have h1:=h.ln;have h2:=iR pb;have h3:=congrArg List.length et;rw[aD,aD]at h3;rw[ea,cw,cw (as:=G++Tp)];rw[cw]at h1;simp only[List.length_singleton]at h1 ⊢;lia
def o_:(bF (G++S) z=none->¬cI (G.map ao) (S.map ao) z)/\∀p,bF (G++S) z=some p->(dy (G.map ao) z=some (ao p)/\p∈G)\/(dy (G.map ao) z=none/\dy (S.map ao) z=some (ao p)/\p∈S):=by
 have e:bF (G++S) z=(bF G z).or (bF S z):=RJ;refine(λh=>?_,λp h=>?_)
 ·rw[e,Option.or_eq_none_iff]at h;rintro (m|m)
  ·rw[eT,h.1]at m;cases m
  ·rw[eT,h.2]at m;cases m
 ·rw[eT,eT];cases q:bF G z with
  |some r=>
   rw[e,q]at h;have:r=p:=Option.some.inj h;subst this;exact .inl (rfl,vM q)
  |none=>
   rw[e,q]at h;have h:bF S z=some p:=h;exact .inr (rfl,by rw[h];rfl,vM h)
def TB(x:yy):D:=.tup [.str x.2.1,.str x.2.2]
def Ee(h:sv H ts)(hl:H l=some (.lst (ts.map λx=>V.ref x.1))):Rep K H (.lst (ts.map TB)) (.ref l):=by
 simp only[Rep];refine(_,_,rfl,az.of hl,RepL.map λx hx=>?_);simp only[TB,Rep];exact(_,_,rfl,bc.of (h x hx),by simp[RepL,Rep])
theorem CP(ts:List yy):depL (ts.map TB)<=20:=fF (cG (n:=2) λx _=>by simp[TB,dep,depL]) (by decide)
def Uz(H:Hp)(a:Addr):Str×Str:=match H a with
 |some (.tup [.str x,.str y])=>⟨x,y⟩
 |_=>⟨s!"", s!""⟩
def K6(T:Txt K mg A):Z0 P w mg base T.tf 3 IU:=by
 refine T.tf.ok fO ?_ ?_;walk_at "k"
 let(S,a0,e,G,xs,rfl,hS,bd,k):=h
 refine(_,(aL (pS 2 fO.nd cZ) (aL (pS 3 fO.nd (aF aa)) (aL (pS 4 fO.nd (aF (ai (aR (ai (pv 1) (ai aH aa))) aa))) (aL (pF (fh (K:=K) rfl (bX (eM (K:=K) rfl) (pv 0) af (λ_ _=>rfl))) (pn 5 fO.nd) (aL (c_ <| dU (bO hr) (pv 2) (tx K (pv 5)) (pv 5) rfl) (aU (pS 4 fO.nd (aA (dF (K:=K) rfl) (pv 4) (cN (nc (own:=["_law_name"]) (fr:=["_law_piece"]) (fm:=[5]) rfl 'e' 'e' 'e' (.cons rfl (by walk_at "o") rfl .nil)) rfl (fh (K:=K) rfl (cF (Jd T) 'a' rfl T.Jl T.uW.kp T.uW.b .nil aC (ai (pv 5) aa))) (λ_ _ _=>((pn 0 'g'),bR,(aR (ai (pv 0) (ai (tx K (pv 1)) aa))))))))))) (aL (uV PassesOwn.never (bI (iB hr.units (K:=K) rfl) (pv 4) (aF aa) (aE _)) (aL (Bx (Oo PySem.F.plainAttrs_list PySem.F.slot_list_pop PySem.F.type_list_pop Nk (pv 4)) (cq <| cj (K:=K) (n:=2) rfl rfl (eA <| d7 (pn 6 fO.nd) (eA <| d7 (pn 7 fO.nd) cu)))) (aL (pS 5 fO.nd (cF (QW T) 'a' rfl T.RV T.Bm.kp T.Bm.b .nil aC (ai (pv 0) (ai (pv 6) aa)))) (aU (aQ (bI gL (pv 5) bW (aE _)) (aU (dB (cT (pv 3) (ai (aR (ai (pv 6) (ai (pv 7) aa))) aa)))) (aU (aQ (kF (iG (bO hr) (tx K (pv 5)) (pv 2))) (aL (c_ <| dU (bO hr) (pv 2) (tx K (pv 5)) (pv 5) rfl) (aU (pS 4 fO.nd (aA (dF (K:=K) rfl) (pv 4) (cN (nc (own:=["_law_other"]) (fr:=["_law_piece"]) (fm:=[5]) rfl 'e' 'e' 'e' (.cons rfl (by walk_at "o") rfl .nil)) rfl (fh (K:=K) rfl (cF (Jd T) 'a' rfl T.Jl T.uW.kp T.uW.b .nil aC (ai (pv 5) aa))) (λ_ _ _=>((pn 0 'g'),bR,(aR (ai (pv 0) (ai (tx K (pv 1)) aa)))))))))) bN))))))) (aU (aw (aR (ai (pv 2) (ai (pv 3) aa)))))))))),?_)
 walk_at "rd";refine λd h1=>(d6 _,λu h2=>(by rw[sizeLine_eq];decide,λt0 h3=>(by rw[sizeLine_eq];decide,λl0 h4=>?_)));have s1:=aJ (o:=HO.dK []) h1;have s2:=aJ (o:=HO.lst []) h2;have s3:=aJ (o:=HO.tup [V.str e,V.str s!""]) h3;have s4:=aJ (o:=HO.lst [V.ref t0]) h4;have um:sM H (upd (upd (upd (upd H d (HO.dK [])) u (HO.lst [])) t0 (HO.tup [V.str e,V.str s!""])) l0 (HO.lst [V.ref t0])) d u l0 [] [] [⟨t0,e,s!""⟩]:=
  (('n'.trans s3).trans s4,h1,s1.free h2,('n'.trans s3).free h4,s4 _ _ (s3 _ _ (s2 _ _ ax)),s4 _ _ (s3 _ _ ax),ax,(λx hx=>by cases hx),(λx hx=>by rw[bU.mp hx];exact s4 _ _ ax),bD (s3 _ _ ax) h4)
 generalize upd (upd (upd (upd H d (HO.dK [])) u (HO.lst [])) t0 (HO.tup [V.str e,V.str s!""])) l0 (HO.lst [V.ref t0])=H0 at *;have IJ:gz ((⟨a0,G⟩::xs).map λy=>V.ref y.1) 0=some (V.ref a0):=(show gz (V.ref a0::xs.map λy=>V.ref y.1) ((0:Nat):Int)=_ from L2.dq rfl)
 have cY:=bd.cY;rw[cw]at cY;have pG:=hS.at_ ⟨a0,G⟩ mm;have bG:∀p∈G,m6 p:=λp hp=>bd.va p (eD _ hp);have ndG:(G.map aj.name).Nodup:=by
  have:=bd.nd;rw[aV,i6]at this;exact this.1
 refine(_,az.of (um.sm _ _ hS.top),_,IJ,?_);refine dI.of (xs:=G.map aj.v) (λi Z H'=>∃(l:Addr) (lf:List yy) (b5:Option V),Z=[some (.ref S),some (.str e),some (.ref d),some (.ref u),some (.ref l),b5,none,none]/\sM H H' d u l (G.take i) [] lf/\lf.map (·.2)=⟨e,s!""⟩::oA (G.take i))
  (l0,[⟨t0,e,s!""⟩],_,rfl,um,rfl) ?_ ?_ ?_
 ·rintro i Z H' hi ⟨l,lf,b5,rfl,um,_⟩;exact az.of (um.sm _ _ pG.top)
 ·rintro i v Z H' hv ⟨l,lf,b5,rfl,um,el⟩;walk_at "6";walk_at "7";have hm:=dZ hp;have il:=(fA.mp hp).1;have pa0:=pG.at_ p hm;have tk:G.take (i+1)=G.take i++[p]:=by rw[gY,hp];rfl
  have wn:=iR (bG p hm);have nn:p.name∉(G.take i).map aj.name:=λq=>by
   have h1:((G.take (i+1)).map aj.name).Nodup:=by rw[List.map_take];exact ndG.sublist (List.take_sublist _ _)
   rw[tk,aV,i6]at h1;exact h1.2.2 _ q _ (by simp) rfl
  have ll:lf.length<=1+61*i:=by
   have h1:=congrArg List.length el;have h2:=uf (ps:=G.take i) λq hq=>bG q (TL hq);rw[aD,oY]at h1;rw[lA]at h2;lia
  walk_at "rd";refine(_,bc.of (um.sm _ _ pa0.top),_,rfl,_,dQ.k (k:=.inr p.name) um.dd (by rw[aD,lA,sizeLine_eq];lia),p,rfl,pa0.mono (um.put nn).sm,bG p hm,λw H2 s5 hw0 hw=>?_);have um2:=(um.put nn).same s5;refine pM (p:=p) (pa0.mono um2.sm) hw (by lia) λD ts H3 s6 hD hDD ta et=>(D,rfl,_,az.of (s6 _ _ um2.ll),_,az.of hDD,?_,λq hq=>?_)
  ·have:=congrArg List.length et;walk_at "4";rw[aD,aD,sizeLine_eq];lia
  refine(lf++ts,by rw[tk];exact(um2.same s6).cat ta hq,?_);rw[aV,el,et,tk,iA];rfl
 ·rintro Z H' ⟨l,lf,b5,rfl,um,el⟩;rw[aD,g9]at um el;have j0:Fp G (flat xs) e [] lf [] []:=by
   refine((CB,(λp hp=>by cases hp),rfl,(λi p r hp=>by cases hp)),(λp hp=>by cases hp),λx hx=>?_,(λx hx=>by cases hx),λz b hw=>.inl ?_,?_)
   ·have:x.2∈lf.map (·.2):=aK.mpr (x,hx,rfl);rw[el]at this;rcases eP.mp this with q|q
    ·exact .inl (congrArg (·.2) q,congrArg (·.1) q)
    ·exact .inr (by rw[n9];exact q)
   ·rw[el];rw[n9]at hw;rcases hw with ⟨q1,q2⟩|q
    ·rw[q1,q2];exact mm
    ·exact jQ _ q
   ·have h1:=congrArg List.length el;have h2:=uf bG;rw[aD,oY]at h1;rw[n9];simp only[List.length_nil];lia
  walk_at "rd";refine(λm Z Hc=>∃(l:Addr) (un lf:List yy) (Tp:List aj) (rs:List (Str×Str×Str)) (b5 b6 b7:Option V),Z=[some (.ref S),some (.str e),some (.ref d),some (.ref u),some (.ref l),b5,b6,b7]/\sM H Hc d u l (G++Tp) un lf/\((G++Tp).map aj.name).Nodup/\Fp G (flat xs) e un lf Tp rs/\m=62*(17 - Tp.length)+lf.length,
   (_,l,[],lf,[],[],_,_,_,rfl,by rw[n9];exact um,by rw[n9];exact ndG,j0,rfl),?_)
  rintro m Z Hc ⟨l,un,lf,Tp,rs,b5,b6,b7,rfl,um,nd,uj,em⟩;have tl:=vm bd uj.tc uj.sub;have ln:=uj.ln;walk_at "rd";refine(d6 _,λq hq=>?_);have sq:=aJ (o:=HO.lst []) hq;have um1:=um.same sq;have q1:=@ax Hc q (HO.lst []);generalize upd Hc q _=H1 at *;refine(_,_,.inl (Ee um1.la um1.ll,l9 q1),CP _,_,rfl,?_);rw[lX];rcases List.eq_nil_or_concat lf with rfl|⟨lf',x,ex⟩
  ·rw[if_neg (by decide)];have cl:c9 (G.map ao) 'f' e (Tp.map ao):=by
    refine(λm=>(uj.dn e s!"" (.inl (rfl,rfl))).elim (λq=>by cases q) λq=>q.1 m,λq hq z hz m=>?_);rw[<-aV]at hq;let(r,hr,rfl):=aK.mp hq;exact(uj.dn z r.name (.inr (jC.mpr (r,hr,rfl,hz)))).elim (λq=>by cases q) λq=>q.1 m
   refine(by rw[sizeLine_eq];decide,λt ht=>?_);have um2:=um1.same (aJ (o:=HO.tup [V.ref d,V.ref u]) ht);refine k Tp rs un t d u _ um2.sm (uj.tc,cl,uj.sub,λz b hd=>?_,λx hx=>?_,nd) ax um2.dd um2.uu um2.ua um2.hd
   ·refine(uj.dn z b (hd.2.imp id λ(q,hq,q1,q2)=>?_)).elim (λq=>by cases q) λq=>q.2 hd.1;rw[<-aV]at hq;let(r,hr,rfl):=aK.mp hq;exact jC.mpr (r,hr,q1,q2)
   ·let(h1,h2):=uj.uw x hx;refine(h1,h2.imp id λq=>?_);let(r,hr,q1,q2):=jC.mp q;exact(ao r,by rw[<-aV];exact aK.mpr (r,hr,rfl),q1,q2)
  ·rw[List.concat_eq_append]at ex;subst ex;rw[if_pos (by simp)];have gl:((lf'++[x]).map λx=>V.ref x.1)[((lf'++[x]).map λx=>V.ref x.1).length - 1]?=some (V.ref x.1):=by
    rw[aV,cw,LS,Hu,Nat.add_sub_cancel,zc (bJ _),Nat.sub_self];rfl
   have um2:=um1.pop;have hx:upd H1 l (.lst (((lf'++[x]).map λx=>V.ref x.1).dropLast)) x.1=some (.tup [.str x.2.1,.str x.2.2]):=um1.la.upd um1.ll (λ_ z=>by cases z) x (by simp);rw[cw]at ln em;simp only[List.length_singleton]at ln em;have atA:∀q∈G++flat xs,q.At H:=λq hq=>by
    let(y,hy,hq):=fU.mp (show q∈flat (⟨a0,G⟩::xs) from hq);exact (hS.at_ y hy).at_ q hq
   refine(_,λσ' H' h=>h,.inl (rfl,_,az.of um1.ll),_,um1.ll,_,gl,x.1,rfl,_,bc.of hx,rfl,_,_,rfl,_,_,rfl,rfl,x.2.1,rfl,⟨a0,G⟩::xs,fQ hS um2.sm,(λp hp=>bd.va p hp),λH3 s3=>?_);have um3:=um2.same s3;have tl2:=tl;rw[cw]at tl2;cases q:bF (flat (⟨a0,G⟩::xs)) x.2.1 with
   |none=>
    rw[if_pos (by simp[OF])];refine(.inl (rfl,_,az.of um3.uu),by walk_at "s", λt ht=>(_,aJ ht _ _ um3.uu,by rw[aD,sizeLine_eq];lia,?_));exact(_,by lia,l,un++[⟨t,x.2⟩],lf',Tp,rs,_,_,_,rfl,(um3.same (aJ ht)).app ax,nd,uj.UQ (o_.1 q),rfl)
   |some p=>
    have pin:p∈G++flat xs:=vM q;have pb:=bd.va p pin;have pa:=atA p pin;have ft:=o_.2 p q;rw[if_neg (by simp[OF])];refine(p.t,rfl,_,bc.of (um3.sm _ _ pa.top),_,rfl,_,cU.k (k:=Sum.inr p.name) um3.dd,?_);by_cases hin:p.name∈(G++Tp).map aj.name
    ·let(r,hr,er):=aK.mp hin;rw[if_neg (by rw[<-er,xG nd hr];simp)];refine(_,?_,l,un,lf',Tp,rs,_,_,_,rfl,um3,nd,uj.U_ ?_,rfl)
     ·lia
     ·rcases ft with ⟨h1,_⟩|⟨h1,h2,hpS⟩
      ·exact .inl (by rw[h1];rfl)
      ·have hrS:r∈G++flat xs:=(bT.mp hr).elim (eD _) λy=>eW _ (uj.sub r y);have e:=jE bd.nd hrS pin er;subst e;rcases bT.mp hr with y|y
       ·exact absurd (IF q) (Gs.mp h1 (ao r) (aK.mpr (r,y,rfl)))
       ·exact .inr (ao r,aK.mpr (r,y,rfl),h2)
    ·rw[if_pos (by rw[JI hin];rfl)];have wn:=iR pb;refine(p.t,rfl,_,bc.of (um3.sm _ _ pa.top),_,rfl,_,dQ.k (k:=.inr p.name) um3.dd (by rw[aD,cw,sizeLine_eq];lia),p,rfl,pa.mono (um3.put hin).sm,pb,λw H4 s5 hw0 hw=>?_);have um4:=(um3.put hin).same s5;refine pM (p:=p) (pa.mono um4.sm) hw (by lia) λD ts H5 s6 hD hDD ta et=>(D,rfl,_,az.of (s6 _ _ um4.ll),_,az.of hDD,?_,λq' hq'=>?_)
     ·have:=congrArg List.length et;walk_at "4";rw[aD,aD,sizeLine_eq];lia
     rcases ft with ⟨h1,hpG⟩|⟨h1,h2,hpS⟩
     ·exact absurd (aK.mpr (p,eD _ hpG,rfl)) hin
     ·refine(_,?_,q',un,lf'++ts,Tp++[p],rs++[⟨p.name,x.2.1,x.2.2⟩],_,_,_,rfl,by rw[<-tD];exact(um4.same s6).cat ta hq',?_,uj.Vf h1 h2 hpS hin pb et,rfl)
      ·have:=congrArg List.length et;walk_at "4";rw[cw,cw (as:=lf'),Hu];lia
      ·rw[<-tD,aV,i6];exact(nd,by simp,λa ha b hb z=>hin (by rw[List.mem_singleton.mp hb]at z;exact z▸ha))
def vF(h:(so.map aj.name).Pairwise h9):(ik (bC so) z).Pairwise h9:=by
 unfold ik;rw[J7];refine List.Pairwise.filter _ ?_;unfold bC;rw[List.pairwise_flatMap];rw[J7]at h;refine(λp hp=>?_,h.imp λ{p q} l x hx y hy=>?_)
 ·rw[J7];exact List.pairwise_of_forall λ_ _=>Ji _
 ·let(n,_,rfl):=aK.mp hx;let(m,_,rfl):=aK.mp hy;exact l
def Vj(x y:V)(r:List V):hJ (x::y::r) none (some 2)=[x,y]:=by
 unfold hJ;have e:HT.sIx (x::y::r).length (x::y::r).length (some 2)=min 2 (x::y::r).length:=HT.sIx_nat _ _ 2;have e0:HT.sIx (x::y::r).length 0 none=0:=rfl;rw[e,e0];rw[show min 2 (x::y::r).length=2 by simp];rfl
def tV{H:Hp}{l:Addr}{ss:List Str}(h:H l=some (.lst 'E')):Rep K H (.lst (ss.map D.str)) (.ref l):=by
 simp only[Rep];exact(_,_,rfl,az.of h,RepL.map λs _=>by simp[Rep])
theorem CU(ss:List Str):depL (ss.map D.str)<=20:=fF (cG (n:=1) λs _=>by simp[dep]) (by decide)
def ji.one{R:List (Str×Str)}{x y:Option (Str×Str×Str)}(hx:ji R x)(hy:ji R y):x=y:=by
 match x,y,hx,hy with
 |none,none,_,_=>rfl
 |none,some ⟨z,a,b⟩,hx,hy=>
  have h1:(ik R z).length<=1:=hx z;have h2:2<=(ik R z).length:=hy.1.1;omega
 |some ⟨z,a,b⟩,none,hx,hy=>
  have h1:(ik R z).length<=1:=hy z;have h2:2<=(ik R z).length:=hx.1.1;omega
 |some ⟨z,a,b⟩,some ⟨z',a',b'⟩,hx,hy=>
  let((l1,l2),so,r,p1,w1,e1):=hx;let((m1,m2),so',r',p2,w2,e2):=hy;have ez:z=z':=gc (l2 z' m1) (m2 z l1);subst ez;have e:so=so':=(p1.trans p2.symm).eq_of_pairwise (λ_ _ _ _ x y=>gc x y) w1 w2;rw[e1,e2]at e;injection e with q1 q2;injection q2 with q2 q3;rw[q1,q2]
theorem jX(p:R.Perm R')(z:Str):(ik R z).Perm (ik R' z):=(p.filter _).map _
def ji.perm(p:R.Perm R'){o:Option (Str×Str×Str)}(h:ji R o):ji R' o:=by
 match o,h with
 |none,h=>exact λz=>by rw[<-(jX p z).length_eq];exact h z
 |some ⟨z,a,b⟩,((h1,h2),so,r,h3,h4,h5)=>
  exact((by rw[<-(jX p z).length_eq];exact h1,λz' hz=>h2 z' (by rw[(jX p z').length_eq];exact hz)),so,r,h3.trans (jX p z),h4,h5)
def Sr(T:Txt K mg A):Z0 P w mg base T.CH 1 Ao:=by
 refine T.CH.ok nV ?_ ?_;walk_at "k"
 let(L,ps,rfl,hd0,hP,hN,k):=h;refine(_,(aL (pS 1 nV.nd cZ) (aL (pF (rY (pv 0)) (pn 2 nV.nd) (aU (pF (fh (K:=K) rfl (tx K (c6 <| dX (bO hr) (pv 0) (pv 2) (λ_ _=>rfl)))) (pn 3 nV.nd) (aU (aQ (bI bQ (tx K (pv 3)) aH (aE _)) (aU (dB (cT (vV (bO hr) (pv 1) (tx K (pv 3)) (aF aa) (rfl,rfl,rfl,rfl)) (ai (pv 2) aa)))) bN))))) (aL (pF (fh (K:=K) rfl (bV (gH rfl) (by rfl) T.d_ eQ (ai (pv 1) aa))) (pn 4 nV.nd) (aU (aQ (bI BZ (bV (kG (K:=K) rfl) (by rfl) T.f9 dS (ai (c6 <| dX (bO hr) (pv 1) (pv 4) (λ_ _=>rfl)) aa)) af (aE _)) (aU (aw (aA (dF (K:=K) rfl) (aF (ai (pv 4) aa)) (gk (jI (K:=K) rfl) (bV (ka (K:=K) rfl) (by rfl) T.d_ eQ (ai (c6 <| dX (bO hr) (pv 1) (pv 4) (λ_ _=>rfl)) aa)) jB (ff af))))) bN))) (aU (aw bW))))),?_);walk_at "rd";intro d hd;have rl:=hN.rl;have nLd:L≠d:=bD hd0 hd;refine Fn.of (aJ hd _ _ hd0) (λo i Z H'=>∃(es:List (Str×Addr×List Str)) (b2 b3:Option V),Z=[some (.ref L),some (.ref d),b2,b3,none]/\qy (upd H L (.g7 o (.dK (ps.map AU)))) H' d es (bC (ps.take i)))
  (λo=>([],_,_,rfl,?_)) ?_ ?_ ?_
 ·refine(λb u e=>?_,by rw[ae nLd.symm];exact hd,by rw[ae nLd.symm,ax];rfl,(λe he=>by cases he),(λe he=>by cases he),CB,CB,(λe he=>by cases he),λz=>Iff.rfl,bJ _);by_cases z:b=L
  ·rw[z,ax]at e ⊢;exact e
  ·rw[ae z]at e ⊢;exact aJ hd _ _ e
 ·rintro o i Z H' hi ⟨es,b2,b3,rfl,g⟩;exact g.sm _ _ ax
 ·rintro o i pr Z H' hv ⟨es,b2,b3,rfl,g⟩;walk_at "6";walk_at "7";have hm:=dZ hp;have hL:=hP p hm;have sm0:∀b u,(∀kv,u≠.dK kv)->H b=some u->upd H L (.g7 o (.dK (ps.map AU))) b=some u:=λb u n e=>by rw[ae (bA e hd0 (n _))];exact e
  have ta:=sm0 _ _ (λ_ z=>by cases z) hL.top;have tn:=sm0 _ _ (λ_ z=>by cases z) hL.nl;let(n1,n2):=hN.aM p hm;walk_at "8";walk_at "rd";refine(_,.inl (_,.inr p.name,.inr (_,g.sm _ _ ax),rfl,(xG hN.nd hm).symm),_,rfl,_,bc.of (g.sm _ _ ta),_,rfl,?_);refine dI.of (xs:=p.aM.map aq.v) (λj Z H2=>∃(es:List (Str×Addr×List Str)) (b5:Option V),Z=[some (.ref L),some (.ref d),some (.str p.name),b5,none]/\qy (upd H L (.g7 o (.dK (ps.map AU)))) H2 d es (bC (ps.take i)++((p.aM.take j).filter λn=>decide (n.sort=bx)).map λn=>⟨n.name,p.name⟩))
   (es,_,rfl,by simpa using g) ?_ ?_ ?_
  ·rintro j Z H2 hj ⟨es,b5,rfl,g⟩;exact az.of (g.sm _ _ tn)
  ·rintro j v Z H2 hv ⟨es,b5,rfl,g⟩;walk_at "6";let(n,hn,rfl):=fC.mp hv;have na:=g.sm _ _ (sm0 _ _ (λ_ z=>by cases z) (hL.ns n (dZ hn)));walk_at "rd";refine(_,bc.of na,_,rfl,rfl,cH (λhz=>?_) (λhz=>?_))
   ·have hs:n.sort=bx:=by have q:=of_decide_eq_true hz;injection q
    have tj:bC (ps.take i)++((p.aM.take (j+1)).filter λn=>decide (n.sort=bx)).map (λn=>⟨n.name,p.name⟩)=(bC (ps.take i)++((p.aM.take j).filter λn=>decide (n.sort=bx)).map λn=>⟨n.name,p.name⟩)++[⟨n.name,p.name⟩]:=by
     rw[gY,hn,yA,aV,tD];simp[hs]
    have ll:(bC (ps.take i)++((p.aM.take j).filter λn=>decide (n.sort=bx)).map λn=>⟨n.name,p.name⟩).length<=63:=by
     have h1:(bC (ps.take (i+1))).length<=(bC ps).length:=by
      conv=>rhs;rw[<-Kl (i+1) ps]
      unfold bC;rw[oJ,cw];lia
     rw[tk,jS,cw,aD]at h1;have h2:((p.aM.take j).filter λn=>decide (n.sort=bx)).length<=(p.aM.filter λn=>decide (n.sort=bx)).length:=((List.take_sublist j p.aM).filter _).length_le;rw[cw,aD];lia
    rw[tj];generalize bC (ps.take i)++((p.aM.take j).filter λn=>decide (n.sort=bx)).map (λn=>⟨n.name,p.name⟩)=R at *;have le:=g.ln;refine(.inl (_,.inl g.top),_,bc.of na,_,rfl,d6 _,λl hl=>?_);have sl:=aJ (o:=HO.lst []) hl;have nl:d≠l:=bD g.top hl;by_cases hin:n.name∈es.map (·.1)
    ·let(e,he,ee):=aK.mp hin;have ve:=g.val he;rw[ee]at ve;have gx:=g.old (l:=l) (t:=p.name) he hl;have ea:=sl _ _ (g.at_ e he);have el:=sF (R:=R) (z:=e.1);rw[<-g.eq e he]at el;refine(some (.ref e.2.1),.inl (_,.inr n.name,.inl (sl _ _ g.top),rfl,ve.symm),_,dQ.k (k:=.inr n.name) (sl _ _ g.top) 'd',λv hv=>?_,λq=>by cases q);cases hv;exact(.inl (rfl,_,az.of ea),_,rfl,_,ea,by rw[aD,sizeLine_eq];lia,_,by rw[<-ee];exact gx)
    ·have vn:bE (es.map λe=>⟨(.inr e.1:Key),V.ref e.2.1⟩) (.inr n.name)=none:=FO hin;refine(none,.inl (_,.inr n.name,.inl (sl _ _ g.top),rfl,vn.symm),_,dQ.k (k:=.inr n.name) (sl _ _ g.top) 'd',(λv hv=>by cases hv),λ_=>?_);have l1:upd (upd H2 l (.lst [])) d (.dK (putK (es.map λe=>⟨(.inr e.1:Key),V.ref e.2.1⟩) (.inr n.name) (.ref l))) l=some (.lst []):=by rw[ae (Ne.symm nl),ax]
     exact(.inl (rfl,_,az.of l1),_,l1,by walk_at "s", _,g.new hin hl)
   ·have hs:n.sort≠bx:=λy=>hz (decide_eq_true (by rw[y];rfl));refine(es,?_);rw[gY,hn,yA];simp[hs];exact g
  ·rintro Z H2 ⟨es,b5,rfl,g⟩;rw[aD,g9]at g;exact(es,_,_,rfl,by rw[tk,jS];exact g)
 ·rintro o Z H' ⟨es,b2,b3,rfl,g⟩;rw[aD,g9]at g;walk_at "rd";have le:=g.ln;refine(_,g.top,es.map (·.1),by rw[d9,d9];rfl,by rw[aD];lia,λl ss hl pm pw=>?_);have s1:=aJ (o:=HO.lst 'E') hl;have g1:=g.same s1;have hl1:=@ax H' l (HO.lst 'E');generalize upd H' l _=H1 at *;refine dI.of (xs:=ss.map V.str) (λi Z H2=>∃b6:Option V,Z=[some (.ref L),some (.ref d),b2,b3,b6]/\H2=H1/\∀z∈ss.take i,(ik (bC ps) z).length<=1)
   (_,rfl,rfl,λz hz=>by simp at hz) ?_ ?_ ?_
  ·rintro i Z H2 hi ⟨b6,rfl,rfl,_⟩;exact az.of hl1
  ·rintro i v Z H2 hv ⟨b6,rfl,rfl,cY⟩;walk_at "6";walk_at "10";have tz:ss.take (i+1)=ss.take i++[z]:=by rw[gY,hz];rfl
   have hz_:=hz;let(e,he,rfl):=aK.mp (pm.mem_iff.mp (dZ hz));have el:=sF (R:=bC ps) (z:=e.1);have eg:=g1.eq e he;walk_at "rd";refine(_,.inl (_,.inr e.1,.inl g1.top,rfl,(g1.val he).symm),_,.inl (_,az.of (g1.at_ e he),rfl),?_);rw[aD];by_cases q:2<=e.2.2.length
   ·rw[if_pos (by rw[decide_eq_true_eq];omega)];refine(by rw[sizeLine_eq];decide,λq1 f1=>?_);have s2:=aJ (o:=HO.lst [V.str e.1]) f1;have g2:=g1.same s2;rw[<-eg]at el;refine(_,.inl (_,.inr e.1,.inl g2.top,rfl,(g2.val he).symm),_,rfl,e.2.2,az.of (g2.at_ e he),by lia,λl2 tt f2 pm2 pw2=>?_);have s3:=aJ (o:=HO.lst (tt.map V.str)) f2;refine(_,az.of ax,λq3 f3=>?_);have e2:=pm2.length_eq;obtain⟨x,y,r,rfl⟩:∃x y r,tt=x::y::r:=by
     match tt,(show 2<=tt.length by lia) with
     |x::y::r,_=>exact(x,y,r,rfl)
    rw[iS,iS,Vj];have s4:=aJ (o:=HO.lst [V.str x,V.str y]) f3;refine(_,az.of (s4 _ _ (s3 _ _ ax)),_,az.of ax,by rw[sizeLine_eq];exact(by decide:1+2<=16777216),λq5 f5=>?_);have s5:=aJ (o:=HO.lst ([V.str e.1]++[V.str x,V.str y])) f5;refine k _ (some ⟨e.1,x,y⟩) _ (λb u n h=>(((s2.trans s3).trans s4).trans s5) _ _ (g1.sm _ _ (by rw[ae n];exact h))) ((by rw[<-eg];exact q,λz hz=>?_),_,r,by rw[<-eg];exact pm2,pw2,rfl) (_,rfl,ax);have hin:z∈ss:=pm.mem_iff.mpr ((g1.all z).mpr (by
     by_cases y:z∈(bC ps).map (·.1)
     ·exact y
     ·rw[mW y]at hz;cases hz))
    let(j,hj,rfl):=GS hin;let(hi,ei):=fA.mp hz_;rcases Sv j i with q'|q'|q'
    ·have:=cY ss[j] (List.mem_take_iff_getElem.mpr (j,by lia,rfl));lia
    ·subst q';rw[ei];exact Ji _
    ·have:=Gi.mp pw i j hi hj q';rw[ei]at this;exact this
   ·rw[if_neg (by rw[decide_eq_true_eq];omega)];refine λy hy=>?_;rw[tz]at hy;rcases bT.mp hy with h|h
    ·exact cY y h
    ·rw[bU.mp h,<-eg];lia
  ·rintro Z H2 ⟨b6,rfl,rfl,cY⟩;rw[aD,g9]at cY;walk_at "rd";refine k .bw none H2 (λb u n h=>g1.sm _ _ (by rw[ae n];exact h)) (λz=>?_) rfl;by_cases hz:z∈es.map (·.1)
   ·exact cY z (pm.mem_iff.mpr hz)
   ·rw[mW λy=>hz ((g.all z).mpr y)];exact d6 _
theorem pJ{α β:Type}{f:α->β}{l:List α}(h:(l.map f).Nodup):l.Nodup:=(J7.mp h).imp λn e=>n (congrArg f e)
def rQ(ps:List aj):iU (ps.map ao)=bC ps:=by
 unfold iU bC;rw[List.flatMap_map];congr 1;funext p;show((p.aM.map aq.e).filter _).map _=_;rw[List.filter_map,d9];rfl
theorem r8(h:jj G S e T rs)(c:c9 G S e T)(h':jj G S e T' rs')(c':c9 G S e T'):T.Perm T':=
 (List.perm_ext_iff_of_nodup (pJ h.nd) (pJ h'.nd)).mpr λp=>(v5 h c' p,v5 h' c p)
def wJ.one{G S:List Co}{e:Str}{x y:List Str}(hx:wJ G S e x)(hy:wJ G S e y):x=y:=by
 have no:∀{T:List Co}{rs:List (Str×Str×Str)},((G++S).map (·.1)).Nodup->jj G S e T rs->c9 G S e T->(∀z b,¬Dm G S e T z b)->vK G S e none:=λ{T rs} h1 h2 h3 h4=>(h1,T,rs,h2,h3,h4);rcases hx with ⟨z,rfl,h⟩|⟨z,b,rfl,h⟩|⟨T,rs,h1,h2,h3,h4,h5⟩<;>rcases hy with ⟨z',rfl,g⟩|⟨z',b',rfl,g⟩|⟨T',rs',g1,g2,g3,g4,g5⟩
 ·have q:=h.one g;injection q with q;injection q with q;rw[q]
 ·have q:=h.one g;injection q with q;injection q with q q2;cases q2
 ·have q:=h.one (no g1 g2 g3 g4);cases q
 ·have q:=h.one g;injection q with q;injection q with q q2;cases q2
 ·have q:=h.one g;injection q with q;injection q with q q2;injection q2 with q2;rw[q,q2]
 ·have q:=h.one (no g1 g2 g3 g4);cases q
 ·have q:=g.one (no h1 h2 h3 h4);cases q
 ·have q:=g.one (no h1 h2 h3 h4);cases q
 ·have pm:(iU (G++T)).Perm (iU (G++T')):=((r8 h2 h3 g2 g3).append_left G).flatMap_right _;rcases h5 with ⟨rfl,d⟩|⟨z,a,b,rfl,d⟩<;>rcases g5 with ⟨rfl,d'⟩|⟨z',a',b',rfl,d'⟩
  ·rfl
  ·have q:=(d.perm pm).one d';cases q
  ·have q:=(d.perm pm).one d';cases q
  ·have q:=(d.perm pm).one d';injection q with q;injection q with q1 q;injection q with q2 q3;rw[q1,q2,q3]
theorem rT{α β:Type}{f:α->List β}:∀{a b:List α},a.Nodup->(∀x∈a,x∈b)->(a.flatMap f).length<=(b.flatMap f).length
 |[],b,_,_=>d6 _
 |x::r,b,nd,h=>by
  let(u,v,rfl):=Pd (h x mm);rw[i_]at nd;have ih:=rT (f:=f) (a:=r) (b:=u++v) nd.2 λy hy=>by
   have:=h y (jQ _ hy);rw[bT,eP]at this;rw[bT];exact this.imp id λq=>q.resolve_left λz=>nd.1 (z▸hy)
  simp only[List.flatMap_append,List.length_append,List.flatMap_cons]at ih ⊢;lia
theorem qO.sub(h:qO ps)(nd:(qs.map aj.name).Nodup)(hs:∀q∈qs,q∈ps):qO qs:=
 (fF ((pJ nd).length_le_of_subset hs) h.cY,nd,λq hq=>h.aM q (hs q hq),λq hq=>h.sg q (hs q hq),fF (rT (pJ nd) hs) h.rl)
theorem Gn.WQ(g:Gn G S e Tp rs un)(h:qO (G++S)):qO (G++Tp):=
 h.sub g.nd λq hq=>(bT.mp hq).elim (eD _) λy=>eW _ (g.sub q y)
def Qm(T:Txt K mg A):Z0 P w mg base T.Dg 4 GL:=by
 refine T.Dg.ok nY ?_ ?_;walk_at "k"
 let(S,a0,e,G,xs,rfl,hS,bd,px,k):=h;refine(_,(aL (pS 2 nY.nd (cF (RG T) 'a' rfl T.SQ T.Er.kp T.Er.b .nil aC (ai (pv 0) aa))) (aL (aQ (bI mh (pv 2) bW (aE _)) (aU (aw (aF (ai aH (ai (pv 2) aa))))) bN) (aL (Bx (cF (K6 T) 'a' rfl T.K_ T.tf.kp T.tf.b .nil aC (ai (pv 0) (ai (pv 1) aa))) (cq <| cj (K:=K) (n:=2) rfl rfl (eA <| d7 (pn 3 nY.nd) (eA <| d7 (pn 4 nY.nd) cu)))) (aL (aQ (bI (iB hr.units (K:=K) rfl) (pv 4) (aF aa) (aE _)) (aU (aw (aA (dF (K:=K) rfl) (aF (ai aH aa)) (lO (rO (K:=K) rfl) (by rfl) T.gB eN (ai (bV (xC rfl hr.units (K:=K) rfl) (by rfl) T.tE nQ (ai (pv 4) aa)) aa))))) bN) (aL (pS 5 nY.nd (cF (Sr T) 'a' rfl T.Rl T.CH.kp T.CH.b .nil aC (ai (pv 3) aa))) (aU (aw (sO (bI gL (pv 5) bW (aE _)) bW (aA (dF (K:=K) rfl) (aF (ai aH aa)) (pv 5)))))))))),?_);walk_at "rd";have fe:flat (⟨a0,G⟩::xs)=G++flat xs:=rfl;refine(_,hS,by rw[fe];exact bd.cY,λH1 s1 nd=>?_,λz H1 s1 db lz=>?_)
 ·rw[if_neg (by simp)];refine(a0,G,xs,fQ hS s1,bd.full (by rw[<-fe];exact nd),λTp rs un t d u H2 s2 gn ht hd hu pa fd=>(_,bc.of ht,rfl,_,_,rfl,_,_,rfl,rfl,d6 _,λp hp=>?_));have s3:=aJ (o:=HO.lst []) hp;have p3:=@ax H2 p (HO.lst []);have pd:=s3 _ _ hd;have ps:=pa.same s3;have pu:=s3 _ _ hu;have sA:='n'.trans s3;generalize upd H2 p _=H3 at *;refine(_,_,.inl (Ee ps pu,l9 p3),CP _,?_);rw[lX];cases un with
  |nil=>
   have nu:∀z b,¬Dm (G.map ao) 'f' e (Tp.map ao) z b:=λz b h=>by cases gn.Wl z b h
   have atA:∀q∈G++Tp,q.At H3:=λq hq=>by
    have hq:q∈flat (⟨a0,G⟩::xs):=(bT.mp hq).elim (eD _) λy=>eW _ (gn.sub q y);let(y,hy,hq):=fU.mp hq;exact((hS.at_ y hy).at_ q hq).mono sA
   refine(_,rfl,?_);rw[if_neg (by simp)];refine(d,rfl,G++Tp,pd,atA,gn.WQ (px nd),λv o H4 s4 du dv=>?_);have nd2:((G.map ao++(flat xs).map ao).map (·.1)).Nodup:=by rw[e_];exact nd
   have sB:au H H4:=λb o e=>s4 b o (bD (s1 _ _ e) fd) (sA _ _ e);have es:bC (G++Tp)=iU (G.map ao++Tp.map ao):=by rw[<-aV,rQ]
   rw[es]at du;cases o with
   |none=>
    obtain rfl:=dv;rw[if_pos (by simp)];exact k [] _ H4 sB (.inr (.inr (_,rs,nd2,gn.tc,gn.cl,nu,.inl (rfl,du)))) (.inl (rfl,rfl))
   |some o=>
    let(z,a,b):=o;let(l,rfl,hl):=dv;rw[if_neg (by simp)];refine(by rw[sizeLine_eq];decide,λp hp=>(l,rfl,_,az.of ax,_,az.of (aJ hp _ _ hl),by rw[sizeLine_eq];exact(by decide:1+3<=16777216),λr hr=>k [Ht,z,a,b] _ _ (sB.trans ((aJ hp).trans (aJ hr))) (.inr (.inr (_,rs,nd2,gn.tc,gn.cl,nu,.inr (z,a,b,rfl,du)))) (.inr (by simp,r,rfl,ax))))
  |cons x0 xr=>
   refine(_,rfl,?_);rw[if_pos (by simp)];refine(by rw[sizeLine_eq];decide,λp4 hp4=>?_);have s4:=aJ (o:=HO.lst [V.str s!"unmet"]) hp4;have e4:upd H3 p4 (HO.lst [V.str s!"unmet"]) p4=_:=ax;have ua:=ps.same s4;have uu:=s4 _ _ pu;have sB:=sA.trans s4;generalize upd H3 p4 _=H4 at *;have fx:∀x∈x0::xr,Uz H4 x.1=x.2:=λx hx=>by unfold Uz;rw[ua x hx]
   refine(u,rfl,(x0::xr).map (·.1),by rw[d9];exact az.of uu,by simp,Uz H4,λa ha=>?_,λa ha least=>?_)
   ·let(x,hx,rfl):=aK.mp ha;rw[fx x hx];exact ua x hx
   ·let(x,hx,rfl):=aK.mp ha;have le:∀z b,Dm (G.map ao) 'f' e (Tp.map ao) z b->ltQ ⟨z,b⟩ x.2=false:=λz b hd=>by
     let(y,hy,e):=aK.mp (gn.Wl z b hd);have:=least y.1 (aK.mpr (y,hy,rfl));rw[fx y hy,fx x hx,e]at this;exact this
    have no:∀{b:Bool},b=false->¬b=true:=λh z=>by rw[h]at z;cases z
    refine(_,.inr (bc.of (ua x hx)),λl hl=>(_,az.of (aJ hl _ _ e4),_,az.of ax,by rw[sizeLine_eq];exact(by decide:1+2<=16777216),λr hr=>?_));exact k [GC,x.2.1,x.2.2] _ _ (sB.trans ((aJ hl).trans (aJ hr))) (.inr (.inl (_,_,rfl,by rw[e_];exact nd,_,rs,gn.tc,gn.cl,gn.Yj x hx,λz' b' hd=>Gr.mp λq=>no (le z' b' hd) ((kT _ _).mpr (.inl q)),λb' hd=>Gr.mp λq=>no (le _ b' hd) ((kT _ _).mpr (.inr (rfl,q)))))) (.inr (by simp,r,rfl,ax))
 ·rw[if_pos (by simp)];refine(by rw[sizeLine_eq];decide,λp hp=>k [yf,z] _ _ (s1.trans (aJ hp)) (.inl (z,rfl,?_)) (.inr (by simp,p,rfl,ax)));rw[fe,<-e_]at db lz;exact(db,lz)
def Qe(T:Txt K mg A):Z0 P w mg base T.Dt 1 (zw A):=by
 refine T.Dt.ok r6 ?_ ?_;walk_at "k"
 let(a,C,d,o,rfl,ha,hx,k):=h;have hd:uI (some d) H:=by rcases hx with ⟨z,_,_,q⟩|⟨z,b,_,_,q⟩|⟨z,a,b,_,_,q⟩<;>exact .inr (d,_,rfl,q)
 have hC:C=A.bo\/C=A.a_\/C=A.aX:=by rcases hx with ⟨z,_,q,_⟩|⟨z,b,_,q,_⟩|⟨z,a,b,_,q,_⟩<;>simp[q]
 have xc:lM K C:=by
  rcases hC with rfl|rfl|rfl
  ·exact(T.F9,T.B5,T.Bu,T.pD,T.oU,T.Fv,T.ER)
  ·exact(T.Fi,T.Bf,T.Cw,T.pD,T.oU,T.BL,T.B6)
  ·exact(T.CT,T.Ca,T.EU,T.pD,T.oU,T.FU,T.FI)
 generalize some d=dx at ha hd
 refine(_,(aL (rA (u:=XY K A) (pS 1 r6.nd (aF (ai (bV (je (K:=K) rfl) (by rfl) T.aN ie (ai (pv 0) (ai (cn (v:=.ref A.oO) rfl T.OG rfl) aa))) (ai (bV (je (K:=K) rfl) (by rfl) T.aN ie (ai (pv 0) (ai (cn (v:=.ref A.pN) rfl T.Mm rfl) aa))) (ai (bV (je (K:=K) rfl) (by rfl) T.aN ie (ai (pv 0) (ai (cn (v:=.ref A.aX) rfl T.xB rfl) aa))) (ai (bV (je (K:=K) rfl) (by rfl) T.aN ie (ai (pv 0) (ai (cn (v:=.ref A.bo) rfl T.v_ rfl) aa))) aa)))))) ?wa1) (aL (rA (u:=Yv K A) (pS 1 r6.nd (aA (dF (K:=K) rfl) (pv 1) (aF (ai (bV (je (K:=K) rfl) (by rfl) T.aN ie (ai (pv 0) (ai (cn (v:=.ref A.a_) rfl T.wo rfl) aa))) (ai (bV (je (K:=K) rfl) (by rfl) T.aN ie (ai (pv 0) (ai (cn (v:=.ref A.qx) rfl T.M_ rfl) aa))) (ai (bV (je (K:=K) rfl) (by rfl) T.aN ie (ai (pv 0) (ai (cn (v:=.ref A.oV) rfl T.NA rfl) aa))) aa)))))) ?wa2) (aL (rA (u:=XQ K A) (pS 1 r6.nd (aA (dF (K:=K) rfl) (pv 1) (aF (ai (bV (je (K:=K) rfl) (by rfl) T.aN ie (ai (pv 0) (ai (cn (v:=.ref A.qu) rfl T.Ou rfl) aa))) (ai (bV (je (K:=K) rfl) (by rfl) T.aN ie (ai (pv 0) (ai (cn (v:=.ref A.kP) rfl T.HB rfl) aa))) (ai (bV (je (K:=K) rfl) (by rfl) T.aN ie (ai (pv 0) (ai (cn (v:=.ref A.qj) rfl T.Oc rfl) aa))) aa)))))) ?wa3) (aU (aw (mf (eI bQ (pZ PySem.F.plainAttrs_list PySem.F.slot_list_count PySem.F.type_list_count (pX (K:=K) rfl) (pv 1) (ai iw aa)) af (aE _)) (mf (bV (je (K:=K) rfl) (by rfl) T.aN ie (ai (pv 0) (ai (cn (v:=.ref A.eF) rfl T.nM rfl) aa))) (v9 (bV (je (K:=K) rfl) (by rfl) T.aN ie (ai (pv 0) (ai (qQ rfl T.qZ oE MH) aa))))))))))),?main)
 case wa1=>
  rintro D Z H ⟨a,C,b1,bs,rfl,ty,⟨x1,x2,x3,x4,k1,k2,k3,k4,rfl⟩,k⟩;walk_at "rd";exact(rfl,_,ty,_,k1,rfl,_,ty,_,k2,rfl,_,ty,_,k3,rfl,_,ty,_,k4,by walk_at "s", λq h=>k q _ (aJ h) ax)
 case wa2=>
  rintro D Z H ⟨a,C,l,b0,bs,rfl,hl,hb,ty',⟨x1,x2,x3,k1,k2,k3,rfl⟩,k⟩;have ty:=ty' (au.refl _);walk_at "rd";refine(rfl,_,ty,_,k1,rfl,_,ty,_,k2,rfl,_,ty,_,k3,by walk_at "s", λq h=>?_);exact(_,az.of (aJ h _ _ hl),_,az.of ax,by rw[sizeLine_eq];exact fF (Nat.add_le_add_right hb 3) (by decide),λr h2=>k r _ ((aJ h).trans (aJ h2)) ax)
 case wa3=>
  rintro D Z H ⟨a,C,l,b0,bs,rfl,hl,hb,ty',⟨x1,x2,x3,k1,k2,k3,rfl⟩,k⟩;have ty:=ty' (au.refl _);walk_at "rd";refine(rfl,_,ty,_,k1,rfl,_,ty,_,k2,rfl,_,ty,_,k3,by walk_at "s", λq h=>?_);exact(_,az.of (aJ h _ _ hl),_,az.of ax,by rw[sizeLine_eq];exact fF (Nat.add_le_add_right hb 3) (by decide),λr h2=>k r _ ((aJ h).trans (aJ h2)) ax)
 walk_at "rd";have dm:∀{H':Hp},au H H'->uI dx H':=λ{H'} e=>by
  rcases hd with z|⟨d,fs,z,y⟩
  ·exact .inl z
  ·exact .inr (d,fs,z,e _ _ y)
 have ty:∀{H':Hp},au H H'->Gv K H' (V.ref a) (.ref C):=λ{H'} e=>.inr (a,_,dx,rfl,rfl,e _ _ ha,dm e,xc);obtain⟨c1,c2,c3,a1,a2,a3,l1,l2,cnt,kj,kv⟩:∃c1 c2 c3:List V,Xw K A C c1/\WN K A C c2/\Wo K A C c3/\c1.length=4/\c2.length=3/\((c1++c2++c3).all fW=true/\FK (.bl true) (c1++c2++c3)=1)/\kitOne K (.ref C) (.ref A.eF)=some true/\kitOne K (.ref C) (.type "ValueError")=some true:=by
  rcases hC with rfl|rfl|rfl
  ·exact(_,_,_,(_,_,_,_,T.OH,T.Ov,T.Nf,T.Bg,rfl),(_,_,_,T.Nt,T.NT,T.MA,rfl),(_,_,_,T.NN,T.IW,T.N9,rfl),rfl,rfl,(rfl,rfl),T.LQ,T.We)
  ·exact(_,_,_,(_,_,_,_,T.NW,T.NC,T.Oz,T.BO,rfl),(_,_,_,T.BE,T.Nr,T.Nj,rfl),(_,_,_,T.M7,T.Ir,T.Nn,rfl),rfl,rfl,(rfl,rfl),T.Mw,T.UR)
  ·exact(_,_,_,(_,_,_,_,T.OI,T.Ml,T.Cg,T.Dp,rfl),(_,_,_,T.EB,T.N6,T.NX,rfl),(_,_,_,T.Mc,T.HK,T.LJ,rfl),rfl,rfl,(rfl,rfl),T.LL,T.UN)
 refine(a,C,_,c1,rfl,ty (au.refl _),a1,λq1 H1 s1 h1=>(a,C,q1,c1,c2,rfl,h1,by lia,λe=>ty (s1.trans e),a2,λq2 H2 s2 h2=>(a,C,q2,c1++c2,c3,rfl,h2,by rw[cw];lia,λe=>ty ('n'.trans e),a3,λq3 H3 s3 h3=>?_)));have s5:='n'.trans s3;have t5:=ty s5;walk_at "rd";refine(.inl (rfl,_,az.of h3),_,az.of h3,rfl,cnt.1,?_);rw[cnt.2,if_pos (by decide)];exact(rfl,_,t5,_,kj,(rfl,_,t5,_,kv,k _ s5))
def Qh(T:Txt K mg A):Z0 P w mg base T.Cj 2 (wB A):=by
 refine T.Cj.ok ND ?_ ?_;walk_at "k"
 let(a,C,d,o,rfl,ha,hx,k):=h;refine(_,(aL (aQ (kO (dj (cF (Qe T) 'a' rfl T.QC T.Dt.kp T.Dt.b .nil aC (ai (pv 0) aa)))) (aU (aw bW)) bN) (aL (aQ (dj (bV (je (K:=K) rfl) (by rfl) T.aN ie (ai (pv 0) (ai (cn (v:=.ref A.bo) rfl T.v_ rfl) aa)))) (aU (aw (aF (ai aH (ai (iP (pv 0) rfl) aa))))) bN) (aL (aQ (dj (bV (je (K:=K) rfl) (by rfl) T.aN ie (ai (pv 0) (ai (cn (v:=.ref A.a_) rfl T.wo rfl) aa)))) (aU (aw (aF (ai aH (ai (iP (pv 0) rfl) (ai (iP (pv 0) rfl) aa)))))) bN) (aL (aQ (dj (bV (je (K:=K) rfl) (by rfl) T.aN ie (ai (pv 0) (ai (cn (v:=.ref A.aX) rfl T.xB rfl) aa)))) (aU (aw (aF (ai aH (ai (iP (pv 0) rfl) (ai (iP (pv 0) rfl) (ai (iP (pv 0) rfl) aa))))))) bN) (aU (aw bW)))))),?_);walk_at "rd";refine(C,d,ha,o,hx,λH1 s1=>?_);have ha1:=s1 _ _ ha;have xcS:lM K A.bo:=(T.F9,T.B5,T.Bu,T.pD,T.oU,T.Fv,T.ER)
 have xcU:lM K A.a_:=(T.Fi,T.Bf,T.Cw,T.pD,T.oU,T.BL,T.B6)
 have xcT:lM K A.aX:=(T.CT,T.Ca,T.EU,T.pD,T.oU,T.FU,T.FI)
 have l1:∀(x:V) (r:List (Str×V)),List.lookup s!"name" (⟨s!"name", x⟩::r)=some x:=λx r=>by simp[List.lookup]
 have e1:(s!"piece" == s!"name")=false:=by decide +kernel
 have e2:(s!"one" == s!"name")=false:=by decide +kernel
 have e3:(s!"other" == s!"name")=false:=by decide +kernel
 have e4:(s!"other" == s!"one")=false:=by decide +kernel
 rcases hx with ⟨z,rfl,rfl,hd⟩|⟨z,b,rfl,rfl,hd⟩|⟨z,y,b,rfl,rfl,hd⟩
 ·have hd1:=s1 _ _ hd;have ty:Gv K H1 (V.ref a) (.ref A.bo):=.inr (a,_,some d,rfl,rfl,ha1,.inr (d,_,rfl,hd1),xcS);refine(rfl,_,ty,_,T.Bg,?_);rw[if_pos rfl];exact(_,d,ha1,_,hd1,xcS,T.Qi,T.ly,_,l1 _ _,by walk_at "s", λp hp=>k p _ (s1.trans (aJ hp)) ax)
 ·have hd1:=s1 _ _ hd;have ty:Gv K H1 (V.ref a) (.ref A.a_):=.inr (a,_,some d,rfl,rfl,ha1,.inr (d,_,rfl,hd1),xcU);refine(rfl,_,ty,_,T.BO,?_);rw[if_neg (by decide)];refine(rfl,_,ty,_,T.BE,?_);rw[if_pos rfl];exact(_,d,ha1,_,hd1,xcU,T.J6,T.lB,_,l1 _ _,_,d,ha1,_,hd1,xcU,T.J6,T.j_,V.str b,by simp[List.lookup,e1],by walk_at "s", λp hp=>k p _ (s1.trans (aJ hp)) ax)
 ·have hd1:=s1 _ _ hd;have ty:Gv K H1 (V.ref a) (.ref A.aX):=.inr (a,_,some d,rfl,rfl,ha1,.inr (d,_,rfl,hd1),xcT);refine(rfl,_,ty,_,T.Dp,?_);rw[if_neg (by decide)];refine(rfl,_,ty,_,T.EB,?_);rw[if_neg (by decide)];refine(rfl,_,ty,_,T.Cg,?_);rw[if_pos rfl];exact(_,d,ha1,_,hd1,xcT,T.FF,T.k_,_,l1 _ _,_,d,ha1,_,hd1,xcT,T.FF,T.mQ,V.str y,by simp[List.lookup,e2],_,d,ha1,_,hd1,xcT,T.FF,T.kr,V.str b,by simp[List.lookup,e3,e4],by walk_at "s", λp hp=>k p _ (s1.trans (aJ hp)) ax)
def Pn(T:Txt K mg A):Z0 P w mg base T.CK 3 (zG A):=by
 refine T.CK.ok vx ?_ ?_;walk_at "k"
 let(v,u,o,rfl,kp,ov,k):=h;refine(_,(aL (aQ (bI gL (pv 1) bW (aE _)) (aU (aw (eI gL (pv 0) bW (aE _)))) bN) (aL (aQ (bI gL (pv 0) bW (aE _)) (aU (aw iw)) bN) (aL (pS 2 vx.nd (cF (Qh T) 'a' rfl T.Qq T.Cj.kp T.Cj.b .nil aC (ai (pv 0) aa))) (aL (aQ (bI (iB hr.units (K:=K) rfl) (pv 2) (pv 1) (aE _)) (aU (aw iw)) bN) (aL (pF (fh (K:=K) rfl (pv 2)) (pn 3 vx.nd) (aU (aQ (kO (dj (bV (pB (K:=K) rfl) (by rfl) T.aN ie (ai (pv 3) (ai (qQ rfl T.Si MZ MH) aa))))) (aU (aw iw)) bN))) (aU (aw iw))))))),?_);walk_at "rd";rcases kp with ⟨rfl,rfl⟩|⟨a,C,d,rfl,ha,hx⟩
 ·rcases ov with ⟨_,rfl⟩|⟨n,_⟩
  ·rw[if_pos (by simp),decide_eq_true rfl];exact k H (au.refl _)
  ·exact absurd rfl n
 ·have no:o≠[]:=by rcases hx with ⟨z,rfl,_⟩|⟨z,b,rfl,_⟩|⟨z,y,b,rfl,_⟩<;>simp
  have fw:o.length<=4:=by rcases hx with ⟨z,rfl,_⟩|⟨z,b,rfl,_⟩|⟨z,y,b,rfl,_⟩<;>simp
  rcases ov with ⟨n,_⟩|⟨_,l,rfl,hl⟩
  ·exact absurd n no
  rw[if_neg (by simp),if_neg (by simp)];refine(a,rfl,C,d,ha,o,hx,λl1 H1 s1 h1=>(_,_,.inl (tV h1,tV (s1 _ _ hl)),CU _,?_));rw[eR];refine(_,rfl,?_);rw[if_neg (by simp)];refine dI.of (xs:=o.map V.str) (λi Z H'=>H'=H1/\∃b3:Option V,Z=[some (.ref a),some (.ref l),some (.ref l1),b3]) (rfl,_,rfl) (λi Z H' _ (e,_)=>e▸az.of h1) ?_ ?_
  ·rintro i v Z H' hv ⟨rfl,b3,rfl⟩;walk_at "6";walk_at "10";walk_at "rd";exact(_,.str z,true,rfl,by simp)
  ·rintro Z H' ⟨rfl,b3,rfl⟩;walk_at "rd";exact k _ s1
def Dc(e:ao q=ao p){n:aq}(hn:n∈q.aM):∃m∈p.aM,m.name=n.name/\m.sort=n.sort/\m.st=n.st/\m.off=n.off:=by
 have h:aq.e n∈p.aM.map aq.e:=by
  have:=congrArg (·.2.1) e;rw[show p.aM.map aq.e=q.aM.map aq.e from this.symm];exact aK.mpr (n,hn,rfl)
 let(m,hm,z):=aK.mp h;unfold aq.e at z;injection z with z1 z2 z3 z4 z5;exact(m,hm,z2,z3,z4,z5)
theorem NH(e:ao q=ao p):q.ba.map br.e=p.ba.map br.e:=congrArg (·.2.2) e
def K2(e:ao q=ao p){s:br}(hs:s∈q.ba):∃r∈p.ba,r.words=s.words/\∀f∈s.fills,∃g∈r.fills,ay.e g=ay.e f:=by
 have h:br.e s∈p.ba.map br.e:=by rw[<-NH e];exact aK.mpr (s,hs,rfl)
 let(r,hr,z):=aK.mp h;unfold br.e at z;refine(r,hr,congrArg (·.2.2.1) z,λf hf=>?_);have z3:r.fills.map ay.e=s.fills.map ay.e:=congrArg (·.2.2.2) z;have h:ay.e f∈r.fills.map ay.e:=by rw[z3];exact aK.mpr (f,hf,rfl)
 exact aK.mp h
def kb{P:Addr}{pos:Pos}{s:Str}{H:Hp}(tk:eE P pos s H){b:Addr}{o:HO}(h:H b=some o)(no:∀ps,o≠.i3 ps):b≠P:=by
 let(ps,h1,_):=tk;exact bA h h1 (no ps)
def F0(h:qO ps)(nd:(qs.map aj.name).Nodup)(hs:∀q∈qs,∃p∈ps,ao q=ao p):qO qs:=by
 have hN:∀q∈qs,∃p∈ps,q.name=p.name/\q.aM.map aq.e=p.aM.map aq.e:=λq hq=>by
  let(p,hp,e):=hs q hq;exact(p,hp,congrArg (·.1) e,congrArg (·.2.1) e)
 refine(?_,nd,λq hq=>?_,λq hq=>?_,?_)
 ·have:=nd.length_le_of_subset (l₂:=ps.map aj.name) λz hz=>by
   let(q,hq,rfl):=aK.mp hz;let(p,hp,e,_):=hN q hq;exact aK.mpr (p,hp,e.symm)
  walk_at "4";exact fF this h.cY
 ·let(p,hp,_,e):=hN q hq;let(h1,h2):=h.aM p hp;have e1:=congrArg List.length e;have e2:=congrArg (List.map aq.name) e;rw[aD,aD]at e1;rw[d9,d9]at e2;exact(e1▸h1,(e2:q.aM.map aq.name=p.aM.map aq.name)▸h2)
 ·let(p,hp,en,_):=hN q hq;let(p2,hp2,e):=hs q hq;rw[en];refine((h.sg p hp).1,λn hn=>?_);let(m,hm,e1,e2,_):=Dc e hn;rw[<-e1,<-e2];exact(h.sg p2 hp2).2 m hm
 ·rw[<-rQ];have:=rT (f:=λc:Co=>(c.2.1.filter λn=>decide (n.sort=bx)).map λn=>⟨n.name,c.1⟩) (a:=qs.map ao) (b:=ps.map ao) (pJ (f:=(·.1)) (by rw[iF];exact nd)) λc hc=>by
   let(q,hq,rfl):=aK.mp hc;let(p,hp,e):=hs q hq;exact e▸aK.mpr (p,hp,rfl)
  refine fF this ?_;show(iU (ps.map ao)).length<=63;rw[rQ];exact h.rl
def Fc(h:MC p)(e:ao q=ao p):MC q:=by
 refine(tX h.bn e,λs hs=>?_,λs hs f hf=>?_,λn hn=>?_)
 ·let(r,hr,ew,_):=K2 e hs;rw[<-ew];exact h.Tt r hr
 ·let(r,hr,ew,ef):=K2 e hs;let(g,hg,eg):=ef f hf;have:=h.R_ r hr g hg;rw[ew,show g.at_=f.at_ from (congrArg ay.at_ eg :),show g.soft=f.soft from (congrArg ay.soft eg :),show g.rule=f.rule from (congrArg ay.rule eg :)]at this;exact this
 ·let(m,hm,_,_,_,eo):=Dc e hn;rw[<-eo];exact h.off m hm
def yh(cl:c9 G S e T)(nu:∀z b,¬Dm G S e T z b)(h:b=s!"" /\ z=e\/∃q∈G++T,q.1=b/\bM z q=true):∃c∈G++T,eC z c=true:=by
 have m:cI G S z:=Classical.byContradiction λn=>nu z b (n,h);have cv:iZ G S T z:=by
  rcases h with ⟨_,rfl⟩|⟨q,hq,_,w⟩
  ·exact cl.1 m
  ·exact cl.2 q hq z w m
 rcases cv with c|⟨p,hp,c⟩
 ·let(p,c):=TK.mp c;exact(p,eD _ (vM c),IF c)
 ·exact(p,eW _ hp,IF c)
def pH(nm:Ei (dD qs) ms)(px:qO qs){z:Str}{c:Co}(hc:c∈qs.map ao)(h:eC z c=true):∃m,aY ms z=some m:=by
 cases l:aY ms z with
 |some m=>exact(m,rfl)
 |none=>
  let(q,hq,rfl):=aK.mp hc;let(n',hn',hb):=nZ.mp h;let(n,hn,rfl):=aK.mp hn';rw[lH]at hb;have ez:n.name=z:=of_decide_eq_true hb.1;have eo:n.sort≠f_:=λy=>by have q:=hb.2;rw[show(aq.e n).sort=f_ from y]at q;simp at q
  let(h1,h2):=nm.bw z l ⟨q.name,n⟩ (fU.mpr (q,hq,aK.mpr (n,hn,rfl))) ez;rcases ((px.sg q hq).2 n hn).2 with s|s|s
  ·exact absurd s h1
  ·exact absurd s h2
  ·exact absurd s eo
def Nw(nm:Ei (dD qs) ms)(px:qO qs)(cl:c9 G S e T)(nu:∀z b,¬Dm G S e T z b)(pm:(qs.map ao).Perm (G++T)){q:aj}(hq:q∈qs)(hy:MC q):UT q ms:=by
 refine(hy.bn,hy.Tt,λs hs f hf=>?_);let(h1,h2,h3):=hy.R_ s hs f hf;refine(h1,h2,λrn=>?_);have sf:f.soft=true:=by
  cases hs':f.soft with
  |true=>rfl
  |false=>
   exfalso
   have no:sY f.name (ao q)=false:=by
    cases ho:sY f.name (ao q) with
    |false=>rfl
    |true=>
     exfalso
     let(n',hn',hb):=nZ.mp ho;let(n,hn,rfl):=aK.mp hn';unfold i9 at rn;split at rn
     ·cases rn
     ·rename_i fn;exact Gs.mp fn n hn hb
   have lk:aY ms f.name=none:=by
    unfold i9 at rn;split at rn
    ·cases rn
    ·simpa using rn
   have wt:bM f.name (ao q)=true:=by
    unfold bM;rw[no,Bool.not_false,Bool.true_and];exact nZ.mpr (br.e s,aK.mpr (s,hs,rfl),nZ.mpr (ay.e f,aK.mpr (f,hf,rfl),by show(decide (f.name=f.name) && !f.soft)=true;rw[hs',decide_eq_true rfl];rfl))
   let(c,hc,ht):=yh cl nu (.inr (ao q,pm.mem_iff.mp (aK.mpr (q,hq,rfl)),rfl,wt));let(m,hm):=pH nm px (pm.mem_iff.mpr hc) ht;rw[lk]at hm;cases hm
 exact(sf,h3 sf)
def iq:r∈jb (qs.map ao)↔∃r'∈dD qs,r=⟨r'.1,aq.e r'.2⟩:=by
 unfold jb dD;simp only[List.mem_flatMap,List.mem_map];constructor
 ·rintro⟨c,⟨q,hq,rfl⟩,n,hn,rfl⟩;let(m,hm,rfl):=aK.mp hn;exact(⟨q.name,m⟩,(q,hq,m,hm,rfl),rfl)
 ·rintro⟨r',⟨q,hq,m,hm,rfl⟩,rfl⟩;exact(ao q,(q,hq,rfl),aq.e m,aK.mpr (m,hm,rfl),rfl)
def u_.iff{R R':List (Str×aq)}{e:Str}{v:Str×Int×Int}(h:∀r,r∈R↔r∈R')(b:u_ R e v):u_ R' e v:=by
 rcases b with ⟨r,h1,h2⟩|⟨h1,r,h2,h3,h4,h5,h6⟩
 ·exact .inl (r,(h r).mp h1,h2)
 ·exact .inr (λr' hr=>h1 r' ((h r').mpr hr),r,(h r).mp h2,h3,h4,h5,λr' hr=>h6 r' ((h r').mpr hr))
def N7(nm:Ei (dD qs) ms)(h:aY ms e=some m):u_ (jb (qs.map ao)) e (aI.vl m):=by
 rcases nm.WA e m h with ⟨r,h1,h2,h3,h4⟩|⟨h1,r,h2,h3,h4,h5,h6⟩
 ·exact .inl (⟨r.1,aq.e r.2⟩,iq.mpr (r,h1,rfl),h2,h3,h4)
 ·refine .inr (λr' hr=>?_,⟨r.1,aq.e r.2⟩,iq.mpr (r,h2,rfl),h3,h4,h5,λr' hr=>?_)
  ·let(x,hx,rfl):=iq.mp hr;exact h1 x hx
  ·let(x,hx,rfl):=iq.mp hr;exact h6 x hx
def EF(tc:jj G S e T rs)(nd:((G++S).map (·.1)).Nodup):((G++T).map (·.1)).Nodup:=by
 rw[aV,i6]at nd ⊢;refine(nd.1,tc.nd,λa ha b hb=>nd.2.2 a ha b ?_);let(c,hc,rfl):=aK.mp hb;exact aK.mpr (c,tc.sub c hc,rfl)
def JN{P:Addr}{pos:Pos}{q:Str}{H H':Hp}(h:eE P pos q H)(s:∀b o,(∀C d f,o≠.ins C d f)->H b=some o->H' b=some o):eE P pos q H':=by
 let(ps,h1,h2,h3):=h;exact(ps,s _ _ (λ_ _ _ z=>by cases z) h1,h2,h3.imp id λ(c,h4,h5)=>(c,h4,s _ _ (λ_ _ _ z=>by cases z) h5))
def PD(T:Txt K mg A):Zm P w mg base T.Ku 9 (zJ A):=by
 refine T.Ku.Tv rh ?_ ?_;walk_at "k"
 let(x,dx,g,sl,l,e,G,xs,rs,us,rfl,hx,tp0,py,hl',hrs,l8,tk,tb,nt,k,kx):=h;refine(_,(aL (pS 5 rh.nd (cF (Hz T) 'a' rfl T.IT T.sG.kp T.sG.b .nil (ko lF) (ai (pv 1) (ai (pv 2) (ai (pv 3) aa))))) (aL (pS 6 rh.nd (cF (Sz T) 'a' rfl T.Qg T.DX.kp T.DX.b .nil (ko lF) (ai (pv 5) aa))) (aL (bY <| cS (pv 0) uO rfl) (aL (bY <| cS (pv 0) uO rfl) (aL (PS.zl (pF (fh (K:=K) rfl (pv 5)) (pn 7 rh.nd) (aU (dB (eh <| iJ (pv 0) T.dz T.OD (RF T) 'a' T.Kn.b .nil aC (ai (pv 7) (ai (pv 6) aa))))))) (aL (bY <| cS (pv 0) (cF (Ct T) 'a' rfl T.B_ T.mD.kp T.mD.b .nil aC (ai (c6 <| dX (bO hr) (pv 6) (pv 3) (λ_ _=>rfl)) aa)) rfl) (aL (bY <| cS (pv 0) (cN (gX ["value"]) rfl (fh (K:=K) rfl (pv 4)) (λ_ _ _=>((pn 0 'g'),bR,(cF (En T) 'a' rfl T.Cb T.mO.kp T.mO.b .nil aC (ai (pv 0) aa))))) rfl) (aL (bY <| cS (pv 0) (aF aa) rfl) (aU (bY <| cS (pv 0) iw rfl)))))))))),?_);walk_at "rd";refine(G,xs,tp0,tk,λL T5 rq5 qs H1 sx1 tk1 hp1 nd0 tc cc nu pm srt=>?_,λo d H1 s1 oo=>(λen hd=>?_,λb en hd=>?_))
 rotate_left
 ·let(z,ob):=o;obtain rfl:ob=none:=en;exact kx _ d [yf,z] H1 (λb o _ _ h=>s1 _ _ h) (tk.more s1) (tb.more s1) (.inl (z,rfl,oo)) (.inl (z,rfl,rfl,hd))
 ·let(z,ob):=o;obtain rfl:ob=some b:=en;exact kx _ d [GC,z,b] H1 (λb o _ _ h=>s1 _ _ h) (tk.more s1) (tb.more s1) (.inr (.inl (z,b,rfl,oo))) (.inr (.inl (z,b,rfl,rfl,hd)))
 have nd2:((G.map ao++(flat xs).map ao).map (·.1)).Nodup:=by rw[e_];exact nd0
 have ndq:(qs.map aj.name).Nodup:=by
  rw[<-iF];exact(pm.map _).nodup_iff.mpr (EF tc nd2)
 have hso:∀q∈qs,∃p∈G++flat xs,ao q=ao p:=λq hq=>by
  have:=pm.mem_iff.mp (aK.mpr (q,hq,rfl));have:ao q∈(G++flat xs).map ao:=by
   rw[aV];exact(bT.mp this).elim (eD _) λy=>eW _ (tc.sub _ y)
  let(p,hp,e):=aK.mp this;exact(p,hp,e.symm)
 have psq:=F0 (py.px nd0) ndq hso;have pyq:∀q∈qs,MC q:=λq hq=>by
  let(p,hp,e):=hso q hq;exact Fc (py.py p hp) e
 have nb1:eE A.bB tK uN H1:=by
  let(ps,h1,h2,h3):=tb;refine(ps,sx1 _ _ nt h1,h2,?_);rcases h3 with h3|⟨c,h3,h4⟩
  ·exact .inl h3
  ·exact .inr (c,h3,sx1 _ _ (kb tk h4 (by intro _ z;cases z)) h4)
 have tkn:∀{H2:Hp},gT A.bB H1 H2->eE A.aZ Nm M3 H2:=λ{H2} sx2=>by
  let(ps,h1,h2,h3):=tk1;refine(ps,sx2 _ _ nt.symm h1,h2,?_);rcases h3 with h3|⟨c,h3,h4⟩
  ·exact .inl h3
  ·exact .inr (c,h3,sx2 _ _ (kb nb1 h4 (by intro _ z;cases z)) h4)
 have nx0:∀{H2:Hp},gT A.bB H1 H2->kX x H H2:=λ{H2} sx2 b o _ no h=>sx2 _ _ (kb nb1 (sx1 _ _ (kb tk h no) h) no) (sx1 _ _ (kb tk h no) h);have stp:∀{so:List aj},so.Perm qs->(bC so).Perm (iU (G.map ao++T5)):=λ{so} p=>by
  rw[<-rQ];exact((p.map ao).trans pm).flatMap_right _
 refine(qs,hp1,psq,nb1,λd ms H2 nod sx2 nb2 tab nm hd dm hdm=>?_,λso z a b r d H2 sp sw ld gr sx2 nb2 hd=>?_)
 rotate_left
 ·refine kx _ d [Ht,z,a,b] H2 (nx0 sx2) (tkn sx2) nb2 (.inr (.inr (T5,rq5,nd2,tc,cc,nu,.inr (z,a,b,rfl,?_)))) (.inr (.inr (z,a,b,rfl,rfl,hd)));exact ji.perm (stp sp) (o:=some ⟨z,a,b⟩) (ld,ik (bC so) z,r,List.Perm.refl _,vF sw,gr)
 have dn:ji (iU (G.map ao++T5)) none:=ji.perm (stp (List.Perm.refl _)) (o:=none) nod;have qw:∀q∈qs,UT q ms:=λq hq=>Nw nm psq cc nu pm hq (pyq q hq);let(c0,hc0,ht0):=yh cc nu (.inl (rfl,rfl));let(m,hl2):=pH nm psq (pm.mem_iff.mpr hc0) ht0;have mr:m.c%4294967296=m.c:=by
  obtain⟨r,hr,e⟩:∃r∈dD qs,aI.vl m=Jz r:=by
   rcases nm.WA e m hl2 with ⟨r,h1,_,_,h2⟩|⟨_,r,h1,_,_,h2,_⟩<;>exact(r,h1,h2)
  let(q,hq,hr):=fU.mp hr;let(n,hn,rfl):=aK.mp hr;have e:m.c=n.off:=congrArg (·.2.2) e;have:=(pyq q hq).off n hn;lia
 have p50:∀{H9:Hp}{t:Addr},H9 t=some (atT m.a m.b (m.c%4294967296))->H9 t=some (atT m.a m.b m.c):=λh=>by rw[mr]at h;exact h
 have gx {b:Addr}{o:HO}(h:H b=some o) (no:∀ps,o≠.i3 ps):H2 b=some o:=sx2 _ _ (kb nb1 (sx1 _ _ (kb tk h no) h) no) (sx1 _ _ (kb tk h no) h);have g1 {b:Addr}{o:HO}(h:H1 b=some o) (no:∀ps,o≠.i3 ps):H2 b=some o:=sx2 _ _ (kb nb1 h no) h;have hx2:=gx hx (by intro _ z;cases z);have xm:x≠dm:=bD hx2 hdm;refine(_,_,_,by rw[ae xm];exact hx2,T.dz,T.fM,(by show 0<1000;decide),λds hds=>?_);let(dsx,hds):=cz hds;let(dsm,hds):=cz hds;refine(_,_,_,by rw[ae dsx.symm,ax],T.dz,T.gq,(by show 1<1000;decide),?_);generalize hH3:upd (upd (upd (upd H2 dm (HO.dT [])) x _) ds (HO.dT [])) x _=H3;have k3 {b:Addr}{o:HO}(n:b≠x) (h:H2 b=some o):H3 b=some o:=by rw[<-hH3,ae n,ae (bD h hds),ae n,ae (bD h hdm)];exact h
 have x3:H3 x=some (.ins A.cD dx [⟨"memory", .ref dm⟩,⟨"stretches", .ref ds⟩]):=by rw[<-hH3,ax];rfl
 have m3:H3 dm=some (.dT []):=by rw[<-hH3,ae xm.symm,ae dsm.symm,ae xm.symm,ax]
 have s3:H3 ds=some (.dT []):=by rw[<-hH3,ae dsx,ax]
 have lt3:eB H1 H3:=λb o h e=>by
  have no:∀ps,o≠.i3 ps:=by rcases h with ⟨_,rfl⟩|⟨_,rfl⟩<;>intro _ z<;>cases z
  have e2:=g1 e no;exact k3 (bA e2 hx2 (by rcases h with ⟨_,rfl⟩|⟨_,rfl⟩<;>intro z<;>cases z)) e2
 have lto {H':Hp}(f:∀b o,b≠dm->b≠ds->H3 b=some o->H' b=some o):eB H3 H':=λb o h e=>f b o (bA e m3 (by rcases h with ⟨_,rfl⟩|⟨_,rfl⟩<;>intro z<;>cases z)) (bA e s3 (by rcases h with ⟨_,rfl⟩|⟨_,rfl⟩<;>intro z<;>cases z)) e;have tab3:Tab H3 d ms:=(k3 (bA tab.top hx2 'j') tab.top,λm hm=>k3 (bA (tab.at_ m hm) hx2 'j') (tab.at_ m hm))
 have f4x {H':Hp}(f4:∀b o,b≠dm->b≠ds->H3 b=some o->H' b=some o) {b:Addr}{o:HO}(h:H3 b=some o) (no:∀kv,o≠.dT kv):H' b=some o:=f4 b o (bA h m3 (no _)) (bA h s3 (no _)) h;have cY:=psq.cY;refine dI.of (xs:=qs.map aj.v) (λi Z H'=>∃c7:Option V,Z=[some (V.ref x),some (V.ref g),some (V.ref sl),some (V.str e),some (V.ref l),some (V.ref L),some (V.ref d),c7]/\yk H3 H' dm ds (12200*i) (61*i)) (none,rfl,λ_ _ _ _ h=>h,([],m3,bJ _),[],s3,bJ _) (λi Z H' _ (_,_,ti)=>az.of (iz (lto ti.off) (iz lt3 hp1.top))) ?_ ?_
 ·rintro i v Z H' hv ⟨c7,rfl,ti⟩;walk_at "6";let(q,hq,rfl):=fC.mp hv;have hqm:=dZ hq;have hi:i<qs.length:=(fA.mp hq).1;let(km,hm1,hm3):=ti.sZ;let(ks,hk1,hk2):=ti.str;have x4:=f4x ti.off x3 (by intro _ z;cases z);have tab4:Tab H' d ms:=(f4x ti.off tab3.top (by intro _ z;cases z),λm hm=>ku (lto ti.off) (tab3.at_ m hm))
  walk_at "rd";refine(_,_,x4,rfl,dx,dm,ds,d,q,rfl,rfl,x4,ms,km,hm1,ks,hk1,dsm.symm,by lia,by lia,nH (lto ti.off) (nH lt3 (hp1.at_ q hqm)),qw q hqm,tab4,λkm' ks' H5 f5 m5 s5 l5 l6=>?_);have hst:=(qw q hqm).bn.st;exact(λb o n1 n2 h=>f5 b o n1 n2 (ti.off b o n1 n2 h),(km',m5,by lia),(ks',s5,by lia))
 ·rintro Z H' ⟨c7,rfl,ti⟩;have f4:=ti.off;walk_at "rd";have hmm:=vM hl2;have lt4:=lto f4;have f4' {b:Addr}{o:HO}(h:H3 b=some o) (no:∀kv,o≠.dT kv):H' b=some o:=f4x f4 h no;have d4:=f4' tab3.top (by intro _ z;cases z);have gd:cU H' d (V.str e) (some (V.ref m.t)):=by
   have:=cU.k (k:=Sum.inr e) d4;rw[IP,hl2]at this;exact this
  have x4:=f4' x3 (by intro _ z;cases z);refine(_,gd,_,rfl,_,_,_,ku lt4 (tab3.at_ m hmm),λtp htp=>?_);have xt:x≠tp:=bD x4 htp;refine(_,_,_,by rw[ae xt];exact x4,T.dz,T.ki,(by show 2<1000;decide),?_);generalize hH5:upd (upd H' tp (atT m.a m.b (m.c%4294967296))) x _=H5;have k5 {b:Addr}{o:HO}(nx:b≠x) (h:H' b=some o):H5 b=some o:=by rw[<-hH5,ae nx,ae (bD h htp)];exact h
  have x5:H5 x=some (.ins A.cD dx [⟨"memory", .ref dm⟩,⟨"stretches", .ref ds⟩,⟨"place", .ref tp⟩]):=by rw[<-hH5,ax];rfl
  have p5:H5 tp=some (atT m.a m.b (m.c%4294967296)):=by rw[<-hH5,ae xt.symm,ax]
  have tup5:∀b xs,H b=some (.tup xs)->H5 b=some (.tup xs):=λb xs h=>by
   have h2:=gx h (by intro _ z;cases z);have h3:=k3 (bA h2 hx2 'j') h2;have h4:=ku lt4 h3;exact k5 (bA h4 x4 'j') h4
  have l3:H3 l=some (.lst us):=by
   have h2:=gx hl' (by intro _ z;cases z);exact k3 (bA h2 hx2 'j') h2
  have l4:=iz lt4 l3;have l5:H5 l=some (.lst us):=k5 (bA l4 x4 'j') l4;have rs5:wc H5 rs us:=hrs.keep tup5;refine b_.of (xs:=us) (by rw[hrs.len,l8,sizeLine_eq];decide) (az.of l5) (λD i ys H'=>wc H' (rs.take i) ys/\au H5 H'/\H' D=some (.lst ys)) (λD hD=>((rfl,λi x e=>(by cases e)),aJ hD,ax)) (λD i ys H' hD hi (e,s1,h1)=>(az.of (s1 _ _ l5),h1,by rw[e.len,lA];lia)) ?_ ?_
  ·rintro D i x ys H' hD hx ⟨e,s1,h1⟩;walk_at "rd";refine(.no .nil,?_);have hi:i<rs.length:=by rw[<-hrs.len];exact(fA.mp hx).1
   let(v,h2,h3):=rs5.at_ i _ (jw hi);rw[h2]at hx;cases hx;refine(_,h3.mono s1,λv' H2 s2 h4=>(s2 _ _ h1,?_,cg hD 'n',ax));rw[List.take_add_one,jw hi];have b:=eG.upd (o:=.lst (ys++[v'])) (s2 _ _ h1);exact((e.mono s2).keep λ_ _ z=>b.tup z).snoc (h4.keep λ_ _ z=>b.tup z)
  ·rintro D ys H6 hD ⟨e6,s6,h6⟩;rw[hrs.len,g9]at e6;have x6:=s6 _ _ x5;refine(_,_,_,x6,T.dz,T.gj,(by show 3<1000;decide),d6 _,λln hln=>?_);let(lnx,hln6):=cz hln;refine(_,_,_,by rw[ae lnx.symm,ax],T.dz,T.iu,(by show 4<1000;decide),_,_,_,ax,T.dz,T.j5,(by show 5<1000;decide),?_);generalize hH7:upd (upd (upd (upd H6 x _) ln (HO.lst [])) x _) x _=H7;have k7 {b:Addr}{o:HO}(nx:b≠x) (h:H6 b=some o):H7 b=some o:=by rw[<-hH7,ae nx,ae nx,ae (bD h hln6),ae nx];exact h
   have t7:∀b xs,H6 b=some (.tup xs)->H7 b=some (.tup xs):=λb xs h=>k7 (bA h x6 'j') h;have k47 {b:Addr}{o:HO}(nx:b≠x) (h:H' b=some o):H7 b=some o:=k7 nx (s6 _ _ (k5 nx h));have Dx:D≠x:=Ne.symm (bD x5 hD);refine k (x,dx,dm,ds,tp,D,ln) (aI.vl m) T5 rq5 H7 rfl (λb o nx no h=>?_) ?_ ?_ (by rw[<-hH7,ax];rfl,t7 _ _ (s6 _ _ (p50 p5)),(ys,k7 Dx h6,e6.keep t7),l8,by rw[<-hH7,ae lnx,ae lnx,ax],bD h6 hln6) (.inr (.inr (T5,rq5,nd2,tc,cc,nu,.inl (rfl,dn)))) tc cc (u_.iff (λr=>(pm.flatMap_right _).mem_iff) (N7 nm hl2))
   ·have h2:=gx h no;exact k47 nx (f4 b o (bD h2 hdm) (bD h2 hds) (k3 nx h2))
   ·exact JN (tkn sx2) λb o no h2=>k47 (bA h2 hx2 (no _ _ _)) (f4 b o (bD h2 hdm) (bD h2 hds) (k3 (bA h2 hx2 (no _ _ _)) h2))
   ·exact JN nb2 λb o no h2=>k47 (bA h2 hx2 (no _ _ _)) (f4 b o (bD h2 hdm) (bD h2 hds) (k3 (bA h2 hx2 (no _ _ _)) h2))
def Sx(h:u_ (dD ps) e v):u_ (jb (ps.map ao)) e v:=by
 rcases h with ⟨r,h1,h2,h3,h4⟩|⟨h1,r,h2,h3,h4,h5,h6⟩
 ·exact .inl (⟨r.1,aq.e r.2⟩,iq.mpr (r,h1,rfl),h2,h3,h4)
 ·refine .inr (λr' hr=>?_,⟨r.1,aq.e r.2⟩,iq.mpr (r,h2,rfl),h3,h4,h5,λr' hr=>?_)
  ·let(x,hx,rfl):=iq.mp hr;exact h1 x hx
  ·let(x,hx,rfl):=iq.mp hr;exact h6 x hx
theorem EC(hp:p∈ps)(hn:n∈p.aM):⟨p.name,n⟩∈dD ps:=fU.mpr (p,hp,aK.mpr (n,hn,rfl))
def DK(h:r∈dD ps):∃p∈ps,∃n∈p.aM,r=⟨p.name,n⟩:=by
 let(p,hp,h):=fU.mp h;let(n,hn,e):=aK.mp h;exact(p,hp,n,hn,e.symm)
def OY.same(h:OY ws e H wv no)(s:au H H')(n:no->no'):OY ws e H' wv no':=by
 rcases h with ⟨h1,h2⟩|⟨t,p,m,h1,h2,h3⟩
 ·exact .inl (h1,n h2)
 ·exact .inr (t,p,m,h1,s _ _ h2,h3)
def QQ(T:Txt K mg A):Z0 P w mg base T.D1 4 Bi:=by
 refine T.D1.ok gQ ?_ ?_;walk_at "k"
 let(S,a0,e,G,xs,rfl,hS,bd,px,me,k):=h;refine(_,(aL (pS 2 gQ.nd (tx K (cF (K6 T) 'a' rfl T.K_ T.tf.kp T.tf.b .nil aC (ai (pv 0) (ai (pv 1) aa))))) (aL (pS 3 gQ.nd bW) (aL (pF (fh (K:=K) rfl (bV (gH rfl) (by rfl) T.d_ eQ (ai (pv 2) aa))) (pn 4 gQ.nd) (aU (pF (fh (K:=K) rfl (tx K (c6 <| dX (bO hr) (pv 2) (pv 4) (λ_ _=>rfl)))) (cq <| cj (K:=K) (n:=4) rfl rfl (eA <| d7 (pn 5 gQ.nd) (eA <| d7 (pn 6 gQ.nd) (eA <| d7 (pn 7 gQ.nd) (eA <| d7 (pn 8 gQ.nd) cu))))) (aL (aQ (PW.pt (gC (bI bQ (pv 5) (pv 1) (aE _)) (gD (bI bQ (pv 6) aH (aE _))))) (aU (aw (aR (ai aH (ai (pv 4) (ai (pv 7) (ai (pv 8) aa))))))) bN) (aU (aQ (PW.pt (gC (bI bQ (pv 5) (pv 1) (aE _)) (gC (bI bQ (pv 6) aH (aE _)) (gD (bI gL (pv 3) bW (aE _)))))) (aU (pS 3 gQ.nd (aR (ai aH (ai (pv 4) (ai (pv 7) (ai (pv 8) aa))))))) bN)))))) (aU (aw (pv 3)))))),?_);walk_at "rd";refine(a0,G,xs,hS,bd,λTp rs un t d u H1 s1 gn ht hd hu pa fd=>(_,bc.of ht,_,rfl,?_));have pxT:=gn.WQ px;have ndT:=gn.nd;have atA:∀q∈G++Tp,q.At H1:=λq hq=>by
  have hq:q∈flat (⟨a0,G⟩::xs):=(bT.mp hq).elim (eD _) λy=>eW _ (gn.sub q y);let(y,hy,hq):=fU.mp hq;exact((hS.at_ y hy).at_ q hq).mono s1
 have hf:∃p∈G++Tp,∃n∈p.aM,n.name=e/\(n.sort=bx\/n.sort=cQ):=by
  have hc:∃c∈(G++Tp).map ao,eC e c=true:=by
   rw[aV];rcases gn.cl.1 me with c|⟨p,hp,c⟩
   ·let(p,c):=TK.mp c;exact(p,eD _ (vM c),IF c)
   ·exact(p,eW _ hp,IF c)
  let(c,hc,h):=hc;let(q,hq,rfl):=aK.mp hc;let(n',hn',hb):=nZ.mp h;let(n,hn,rfl):=aK.mp hn';rw[lH]at hb;refine(q,hq,n,hn,of_decide_eq_true hb.1,?_);rcases ((pxT.sg q hq).2 n hn).2 with s|s|s
  ·exact .inl s
  ·exact .inr s
  ·have y:=hb.2;rw[show(aq.e n).sort=f_ from s]at y;simp at y
 have kk:∀(v:Str×Int×Int) (t:Addr) (H':Hp),au H1 H'->u_ (dD (G++Tp)) e v->H' t=some (atT v.1 v.2.1 v.2.2)->Q (.ref t) H':=λv t H' s2 b ht=>k v (Tp.map ao) rs t H' 'n' gn.tc gn.cl (by rw[<-aV];exact Sx b) ht;generalize G++Tp=ws at *;refine(d,rfl,_,hd,ws.map aj.name,by rw[d9,d9];rfl,by rw[aD];have:=pxT.cY;lia,λl ss hl pm pw=>?_);have s2:=aJ (o:=HO.lst 'E') hl;have l2:=@ax H1 l (HO.lst 'E');have hd2:=s2 _ _ hd;generalize upd H1 l _=H2 at *;refine dI.of (xs:=ss.map V.str) (λi Z H'=>∃(wv:V) (b4 b5 b6 b7 b8:Option V),Z=[some (.ref S),some (.str e),some (.ref d),some wv,b4,b5,b6,b7,b8]/\au H2 H'/\(∀p∈ws,p.name∈ss.take i->∀n∈p.aM,n.name=e->n.sort≠bx)/\OY ws e H' wv (∀p∈ws,p.name∈ss.take i->∀n∈p.aM,n.name=e->n.sort≠cQ))
  (_,_,_,_,_,_,rfl,au.refl _,(λp hp h=>by simp at h),.inl (rfl,λp hp h=>by simp at h)) ?_ ?_ ?_
 ·rintro i Z H' hi ⟨wv,b4,b5,b6,b7,b8,rfl,s3,_⟩;exact az.of (s3 _ _ l2)
 ·rintro i v Z H' hv ⟨wv,b4,b5,b6,b7,b8,rfl,s3,st,wk⟩;walk_at "6";walk_at "10";let(p,hp,rfl):=aK.mp (pm.mem_iff.mp (dZ hz));have hA:=atA p hp;have s23:=s2.trans s3;have nz:p.name∉ss.take i:=λq=>by
   have h1:=pm.nodup_iff.mpr ndT;let(j,hj):=HP q;have hj2:=(fA.mp hj).1;rw[lA]at hj2;rw[List.getElem?_take_of_lt (by lia)]at hj;let(u1,u2):=fA.mp hj;let(v1,v2):=fA.mp hz;exact Gi.mp h1 j i u1 v1 (by lia) (u2.trans v2.symm)
  have leI:∀p'∈ws,p'.name∉ss.take i->h9 p.name p'.name:=λp' hp' q=>by
   let(j,hj,ej):=GS (pm.mem_iff.mpr (aK.mpr (p',hp',rfl)));let(v1,v2):=fA.mp hz;rw[<-ej,<-v2];rcases Sv i j with c|c|c
   ·exact Gi.mp pw i j v1 hj c
   ·subst c;exact Ji _
   ·exact absurd (by rw[<-ej];exact List.mem_take_iff_getElem.mpr (j,by lia,rfl)) q
  have tk:∀p'∈ws,p'.name∈ss.take (i+1)->p'.name∈ss.take i\/p'=p:=λp' hp' h=>by
   rw[gY,hz]at h;refine(bT.mp h).imp id λq=>jE ndT hp' hp ?_;exact bU.mp q
  walk_at "rd";refine(_,.inl (_,.inr p.name,.inl (s3 _ _ hd2),rfl,(xG ndT hp).symm),p.t,rfl,_,bc.of (s23 _ _ hA.top),_,rfl,?_);refine dI.of (xs:=p.aM.map aq.v) (λj Z H3=>∃(wv:V) (b5 b6 b7 b8:Option V),Z=[some (.ref S),some (.str e),some (.ref d),some wv,some (.str p.name),b5,b6,b7,b8]/\au H2 H3/\(∀n∈p.aM.take j,n.name=e->n.sort≠bx)/\OY ws e H3 wv ((∀p∈ws,p.name∈ss.take i->∀n∈p.aM,n.name=e->n.sort≠cQ)/\∀n∈p.aM.take j,n.name=e->n.sort≠cQ))
   (_,_,_,_,_,rfl,s3,(λn hn=>by simp at hn),wk.same (au.refl _) λh=>(h,λn hn=>by simp at hn)) ?_ ?_ ?_
  ·rintro j Z H3 hj ⟨wv,b5,b6,b7,b8,rfl,s4,_⟩;exact az.of (s4 _ _ (s2 _ _ hA.nl))
  ·rintro j v Z H3 hv ⟨wv,b5,b6,b7,b8,rfl,s4,sj,wj⟩;walk_at "6";let(n,hn,rfl):=fC.mp hv;have hnm:=dZ hn;have na:=s4 _ _ (s2 _ _ (hA.ns n hnm));have tj:∀m∈p.aM.take (j+1),m∈p.aM.take j\/m=n:=λm hm=>by
    rw[gY,hn]at hm;exact(bT.mp hm).imp id bU.mp
   walk_at "rd";have inj:∀{x y:Str},decide (V.str x=V.str y)=true->x=y:=λh=>by have q:=of_decide_eq_true h;injection q
   have jni:∀{x y:Str},¬decide (V.str x=V.str y)=true->x≠y:=λh q=>h (decide_eq_true (congrArg V.str q));have fin:(n.name=e->n.sort≠bx)->(n.name=e->n.sort=cQ->wv≠.bw)->au H2 H3/\(∀n∈p.aM.take (j+1),n.name=e->n.sort≠bx)/\OY ws e H3 wv ((∀p∈ws,p.name∈ss.take i->∀n∈p.aM,n.name=e->n.sort≠cQ)/\∀n∈p.aM.take (j+1),n.name=e->n.sort≠cQ):=λh1 h2=>by
    refine(s4,λm hm em=>?_,?_)
    ·rcases tj m hm with q|q
     ·exact sj m q em
     ·subst q;exact h1 em
    ·rcases wj with ⟨z1,z2,z3⟩|h
     ·refine .inl (z1,z2,λm hm em=>?_);rcases tj m hm with q|q
      ·exact z3 m q em
      ·subst q;exact λy=>h2 em y z1
     ·exact .inr h
   refine(_,bc.of na,rfl,_,_,rfl,_,_,rfl,_,_,rfl,_,_,rfl,rfl,rfl,cH (λc1=>(rfl,cH (λc2=>(by rw[sizeLine_eq];decide,λq hq=>kk ⟨p.name,n.st,n.off⟩ q _ (s2.trans (s4.trans (aJ hq))) (.inl (⟨p.name,n⟩,EC hp hnm,inj c1,inj c2,rfl)) ax)) (λc2=>?_))) (λc1=>?_))
   all_goals
    have h:n.sort≠bx\/n.name≠e:=by first|exact .inl (jni c2)|exact .inr (jni c1)
    refine(rfl,cH (λd1=>(rfl,cH (λc3=>cH (λc4=>(by rw[sizeLine_eq];decide,λq hq=>?_)) (λc4=>?_)) (λc3=>?_))) (λd1=>?_))
    ·have z1:wv=V.bw:=of_decide_eq_true c4;have nt:n.sort≠bx:=h.resolve_right λy=>y (inj d1);refine(s4.trans (aJ hq),λm hm em=>?_,.inr (q,p,n,rfl,ax,hp,hnm,inj d1,inj c3,λp' hp' (n',hn',e1,e2)=>?_))
     ·rcases tj m hm with y|y
      ·exact sj m y em
      ·subst y;exact nt
     ·rcases wj with ⟨_,z2,z3⟩|⟨t',_,_,y,_⟩
      ·exact leI p' hp' λy=>z2 p' hp' y n' hn' e1 e2
      ·rw[z1]at y;cases y
    ·exact fin (λy=>h.resolve_right λx=>x y) λ_ _ z=>c4 (decide_eq_true z)
    ·exact fin (λy=>h.resolve_right λx=>x y) λ_ y=>absurd y (jni c3)
    ·exact fin (λy=>absurd y (jni d1)) λy=>absurd y (jni d1)
  ·rintro Z H3 ⟨wv,b5,b6,b7,b8,rfl,s4,sj,wj⟩;rw[aD,g9]at sj wj;refine(wv,_,_,_,_,_,rfl,s4,λp' hp' h=>?_,wj.same (au.refl _) λ(h1,h2) p' hp' h=>?_)
   ·rcases tk p' hp' h with q|q
    ·exact st p' hp' q
    ·rw[q];exact sj
   ·rcases tk p' hp' h with q|q
    ·exact h1 p' hp' q
    ·rw[q];exact h2
 ·rintro Z H' ⟨wv,b4,b5,b6,b7,b8,rfl,s3,st,wk⟩;rw[aD,g9]at st wk;have all:∀p∈ws,p.name∈ss:=λp hp=>pm.mem_iff.mpr (aK.mpr (p,hp,rfl));walk_at "rd";rcases wk with ⟨rfl,h⟩|⟨t,p,n,rfl,ht,hp,hn,en,es,le⟩
  ·let(p,hp,n,hn,e1,e2):=hf;exact(e2.elim (st p hp (all p hp) n hn e1) (h p hp (all p hp) n hn e1)).elim
  ·refine kk ⟨p.name,n.st,n.off⟩ t H' (s2.trans s3) (.inr (λr hr e1=>?_,⟨p.name,n⟩,EC hp hn,en,es,rfl,λr hr e1 e2=>?_)) ht
   ·let(q,hq,m,hm,rfl):=DK hr;exact st q hq (all q hq) m hm e1
   ·let(q,hq,m,hm,rfl):=DK hr;exact Gr.mpr (le q hq (m,hm,e1,e2))
theorem mB(s:eB H H')(h:iW H S xs):iW H' S xs:=(iz s h.top,λx hx=>Ky s (h.at_ x hx))
def zt(h:qS G S e)(e1:G'.map ao=G.map ao)(e2:S'.map ao=S.map ao):qS G' S' e:=by
 have e3:(G'++S').map ao=(G++S).map ao:=by rw[aV,aV,e1,e2]
 have back:∀q∈G'++S',∃p∈G++S,ao p=ao q:=λq hq=>by
  have m:ao q∈(G'++S').map ao:=aK.mpr (q,hq,rfl);rw[e3]at m;exact aK.mp m
 refine(?_,λq hq=>?_,λq hq=>?_,λq hq z hz=>?_,h.en)
 ·have:=congrArg List.length e3;walk_at "4";rw[this];exact h.cY
 ·let(p,hp,ep):=back q hq;exact tX (h.va p hp) ep.symm
 ·let(p,hp,ep):=back q hq;have:p.name=q.name:=congrArg (·.1) ep;rw[<-this];exact h.nm p hp
 ·let(p,hp,ep):=back q hq;exact h.wn p hp z (by rw[ep];exact hz)
def zK(ec:((⟨c0,G'⟩::yr).map λy=>y.2.map ao)=((⟨a0,G⟩::xs).map λx=>x.2.map ao)):G'.map ao=G.map ao/\(flat yr).map ao=(flat xs).map ao:=by
 rw[iS,iS]at ec;injection ec with e1 e2;exact(e1,zV e2)
def qD(hr:∀p x H Q,az K H p x->(∀l,H l=none->Q (V.ref l) (upd H l (.lst x)))->r [V.ref p] H Q)(hS:iW H S xs)(cY:xs.length<=100)
  (k:∀(D:Addr) (ys:List 'k') (H':Hp),au H H'->iW H' D ys->(∀b∈D::ys.map (·.1),H b=none)->(D::ys.map (·.1)).Nodup->ys.map (·.2)=xs.map (·.2)->Q (.ref D) H'):
  b_ K (g_ 0) zP (UI r (tU (lL 0) y_)) [none] Q (V.ref S) H:=by
 refine b_.of (xs:=xs.map λx=>V.ref x.1) 'd' (az.of hS.top) (λD i vs H'=>∃ys:List 'k',vs=ys.map (λy=>V.ref y.1)/\au H H'/\iW H' D ys/\(∀b∈D::ys.map (·.1),H b=none)/\(D::ys.map (·.1)).Nodup/\ys.map (·.2)=(xs.take i).map (·.2))
  (λD hD=>([],rfl,aJ hD,(ax,λx hx=>by cases hx),λb hb=>by rw[bU.mp hb];exact hD,by simp,rfl)) ?_ ?_ ?_
 ·rintro D i vs H' hD hi ⟨ys,rfl,s1,hY,_,_,e⟩;refine(az.of (s1 _ _ hS.top),hY.top,?_);have:=congrArg List.length e;walk_at "9";rw[aD];lia
 ·rintro D i v vs H' hD hv ⟨ys,rfl,s1,hY,fr,nd,e⟩;walk_at "6";let(x,hx,rfl):=fC.mp hv;have hm:=dZ hx;have px:=hS.at_ x hm;walk_at "rd";refine(.no .nil,hr _ _ _ _ (az.of (s1 _ _ px.top)) λl hl=>?_);have s2:=aJ (o:=HO.lst (x.2.map aj.v)) hl;have hl0:H l=none:=s1.free hl;have nin:l∉D::ys.map (·.1):=λz=>by
   rcases eP.mp z with z|z
   ·rw[z,hY.top]at hl;cases hl
   ·let(y,hy,z):=aK.mp z;rw[<-z,(hY.at_ y hy).top]at hl;cases hl
  have bt:eG (upd H' l (HO.lst (x.2.map aj.v))) (upd (upd H' l (HO.lst (x.2.map aj.v))) D (.lst (ys.map (λy=>V.ref y.1)++[V.ref l]))) D:=eG.upd (s2 _ _ hY.top);have lD:l≠D:=λz=>nin (by rw[z];exact mm);have notin:∀{p:aj},p.At H->D∉p.lists:=λ{p} pa z=>by
   let(zs,e):=pa.list z;rw[hD]at e;cases e
  have inH:∀y∈ys,∀p∈y.2,p.At H:=λy hy p hp=>by
   have:y.2∈(xs.take i).map (·.2):=by rw[<-e];exact aK.mpr (y,hy,rfl)
   let(z,hz,q):=aK.mp this;exact(hS.at_ z (TL hz)).at_ p (by rw[q];exact hp)
  refine(s2 _ _ hY.top,ys++[⟨l,x.2⟩],by simp,cg hD 'n',(by rw[ax,List.map_append];rfl,λy hy=>?_),λb hb=>?_,?_,?_)
  ·rcases bT.mp hy with z|z
   ·have py:=gK (hY.at_ y z) s2;refine(bt.2 _ _ py.top (λq=>?_),λp hp=>(py.at_ p hp).but bt (notin (inH y z p hp)));exact(i_.mp nd).1 (by rw[<-q];exact aK.mpr (y,z,rfl))
   ·rw[bU.mp z];exact(bt.2 _ _ ax lD,λp hp=>((px.at_ p hp).mono 'n').but bt (notin (px.at_ p hp)))
  ·rw[aV,<-NZ]at hb;rcases bT.mp hb with z|z
   ·exact fr b z
   ·rw[bU.mp z];exact hl0
  ·rw[aV,<-NZ];exact i6.mpr (nd,by simp,λa ha b hb e=>nin ((e.trans (List.mem_singleton.mp hb):a=l)▸ha))
  ·rw[aV,e,gY,hx,aV];rfl
 ·rintro D vs H' hD ⟨ys,rfl,s1,hY,fr,nd,e⟩;walk_at "1";exact k D ys H' s1 hY fr nd e
def mF(e:ys.map (·.2)=xs.map (·.2)):flat ys=flat xs:=by
 have h:∀l:List 'k',flat l=(l.map (·.2)).flatten:=λl=>by unfold flat;rw[List.flatMap_def]
 rw[h,h,e]
def C3(h:PL H L ps):Rep K H (.lst (ps.map aj.d)) (.ref L):=by
 simp only[Rep];exact(_,_,rfl,az.of h.top,RepL.map λp hp=>(h.at_ p hp).rep)
theorem Nh(ps:List aj):depL (ps.map aj.d)<=20:=fF (cG (n:=5) λx _=>sD x) (by decide)
def qG{α:Type}{f:α->V}{l:List α}{c:Int}(h:l≠[]):∃(n:Nat) (x:α),l[n]?=some x/\x∈l/\gz (l.map f) (c%((l.map f).length:Int))=some (f x)/\c%((l.map f).length:Int)=n:=by
 have pos:0<l.length:=PN.mpr h;rw[aD];have h0:0<=c%(l.length:Int):=Int.emod_nonneg _ (by lia);have h1:c%(l.length:Int)<l.length:=Int.emod_lt_of_pos _ (by lia);let(n,hn):=Pe h0;have lt:n<l.length:=by lia
 refine(n,l[n],jw lt,Aw _,?_,hn);rw[hn];exact L2.dq (by rw[l_,jw lt];rfl)
def B1(hS:iW H S ys)(cY:ys.length<=100)
  (k:∀(D:Addr) (H':Hp),au H H'->H' D=some (.lst ((ys.filter λy=>!y.2.isEmpty).map λy=>V.ref y.1))->Q (.ref D) H'):
  b_ K (g_ 0) (qU (Bj (Mn K) (lL 0) (Ri y_))) (lL 0) [none] Q (V.ref S) H:=by
 refine b_.of (xs:=ys.map λx=>V.ref x.1) 'd' (az.of hS.top) (λD i vs H'=>au H H'/\H' D=some (.lst vs)/\vs=((ys.take i).filter λy=>!y.2.isEmpty).map λy=>V.ref y.1)
  (λD hD=>(aJ hD,ax,rfl)) ?_ ?_ ?_
 ·rintro D i vs H' hD hi ⟨s1,hDD,e⟩;refine(az.of (s1 _ _ hS.top),hDD,?_);rw[e,aD];exact fF (Au _ _) (by rw[lA];lia)
 ·rintro D i v vs H' hD hv ⟨s1,hDD,e⟩;walk_at "6";let(y,hy,rfl):=fC.mp hv;have py:=hS.at_ y (dZ hy);have tk:ys.take (i+1)=ys.take i++[y]:=by rw[gY,hy];rfl
  walk_at "rd";refine(.no .nil,d6 _,λp hp=>?_);have s2:=aJ (o:=HO.lst []) hp;refine(y.2.map aj.d,[],.inl (C3 (gK py 'n'),l9 ax),Nh _,_,rfl,?_);rw[lX];cases hb:y.2.isEmpty with
  |true=>
   rw[if_neg (by decide)];refine(s1.trans s2,s2 _ _ hDD,?_);rw[e,tk,yA,Sk,if_neg (by rw[hb];decide)];simp
  |false=>
   rw[if_pos (by decide)];refine(s2 _ _ hDD,cg hD 'n',ax,?_);rw[e,tk,yA,Sk,if_pos (by rw[hb];decide),aV];rfl
 ·rintro D vs H' hD ⟨s1,hDD,e⟩;walk_at "1";exact k D H' s1 (by rw[hDD,e])
def Qf(T:Txt K mg A):Z0 P w mg base T.Fo 1 vH:=by
 refine T.Fo.ok kE ?_ ?_;walk_at "k"
 let(S,c,ys,rfl,hS,y4,cY,k):=h
 refine(_,(aL (eL (i:=2) kE.nd rfl (by walk_at "o") (gX ["_law_shelf"]) rfl (fh (K:=K) rfl (pv 0)) (λ_ _ _=>((pn 0 'g'),bR,(lO (rO (K:=K) rfl) (by rfl) T.gB eN (ai (pv 0) aa))))) (aL (eL (i:=3) kE.nd rfl (by walk_at "o") (gX ["_law_shelf"]) rfl (fh (K:=K) rfl (pv 0)) (λ_ _ _=>((pn 0 'g'),(lZ (bI (iB hr.units (K:=K) rfl) (pv 0) (aF aa) (aE _))),(pv 0)))) (aL (aQ (PW.pt (gC (bI bQ (aA dt (pv 1) af) af (aE _)) (gD (bI (iB hr.units (K:=K) rfl) (pv 3) (aF aa) (aE _))))) (aL (pS 4 kE.nd (bX (eM (K:=K) rfl) (pv 3) (aA dt (aA fZ (pv 1) af) (bV (kG (K:=K) rfl) (by rfl) T.f9 dS (ai (pv 3) aa))) (λ_ _=>rfl))) (aL (pS 5 kE.nd (tx K (bX (eM (K:=K) rfl) (pv 4) (aA dt (aA fZ (pv 1) af) (bV (kG (K:=K) rfl) (by rfl) T.f9 dS (ai (pv 4) aa))) (λ_ _=>rfl)))) (aL (pS 6 kE.nd (aA dt (aA fZ (pv 1) af) af)) (aU (dB (pZ PySem.F.plainAttrs_list PySem.F.slot_list_insert PySem.F.type_list_insert As (bX (eM (K:=K) rfl) (pv 2) (pv 6) (λ_ _=>rfl)) (ai (aA dt (aA fZ (pv 1) af) (aA eJ af (bV (kG (K:=K) rfl) (by rfl) T.f9 dS (ai (bX (eM (K:=K) rfl) (pv 2) (pv 6) (λ_ _=>rfl)) aa)))) (ai (aR (ai (pv 5) (ai (aF aa) (ai (aF aa) aa)))) aa)))))))) bN) (aU (aw (pv 2)))))),?_)
 walk_at "rd";refine qD (λp x H Q h k=>(p,rfl,x,.inl h,k)) hS (by lia) λM zs H1 s1 hZ fr nd ez=>?_;have z4:zs.length=4:=by have:=congrArg List.length ez;rw[aD,aD]at this;lia
 have atY:∀y∈ys,∀p∈y.2,p.At H:=λy hy p hp=>(hS.at_ y hy).at_ p hp;have nl:∀p∈flat zs,∀b∈M::zs.map (·.1),b∉p.lists:=λp hp b hb z=>by
  rw[mF ez]at hp;let(y,hy,hp):=fU.mp hp;let(vs,e):=(atY y hy p hp).list z;rw[fr b hb]at e;cases e
 have sp:flat zs=flat ys:=mF ez;refine B1 (fQ hS s1) (by lia) λF H2 s3 hF=>(by decide,cH (λc1=>(d6 _,λq hq=>?_)) (λc1=>?_))
 rotate_left
 ·exact k M zs H2 (s1.trans s3) (fQ hZ s3) z4 (by rw[sp];exact(xS _,λp hp=>.inl hp))
 have s4:=aJ (o:=HO.lst []) hq;have s34:=s3.trans s4;have hF4:=s4 _ _ hF;have q4:=@ax H2 q (HO.lst []);have s5:=s1.trans s34;have hZ4:=fQ hZ s34;generalize upd H2 q _=H4 at *;have rpF:Rep K H4 (.lst ((ys.filter λy=>!y.2.isEmpty).map λy=>D.lst (y.2.map aj.d))) (.ref F):=by
  simp only[Rep];exact(_,_,rfl,az.of hF4,RepL.map λy hy=>C3 (gK (hS.at_ y (sV.mp hy).1) s5))
 refine(_,_,.inl (rpF,l9 q4),fF (cG (n:=6) λy _=>by have:=cG (n:=5) (xs:=y.2) (λx _=>sD x);simp only[dep];lia) (by decide),_,rfl,?_);rw[lX];by_cases hne:ys.filter (λy=>!y.2.isEmpty)=[]
 ·rw[hne,if_neg (by decide)];exact k M zs H4 s5 hZ4 z4 (by rw[sp];exact(xS _,λp hp=>.inl hp))
 rw[if_pos (by cases h:ys.filter (λy=>!y.2.isEmpty) with
  |nil=>exact absurd h hne
  |cons=>rfl)]
 let(n1,y,_,hyF,at1,_):=qG (f:=λy:Addr×List aj=>V.ref y.1) (c:=c/3) hne;let(hy,hy2):=sV.mp hyF;have y2:y.2≠[]:=λz=>by rw[z]at hy2;cases hy2
 have py:=gK (hS.at_ y hy) s5;let(n2,p,_,hp,at2,_):=qG (f:=aj.v) (c:=c/5) y2;have pa:=py.at_ p hp;let(n3,row,hrow,hrm,at3,e3):=qG (f:=λy:Addr×List aj=>V.ref y.1) (c:=c/7) (l:=zs) (λz=>by rw[z]at z4;cases z4);rw[aD,z4]at at3 e3;have at3:gz (zs.map λy=>V.ref y.1) (c/7%4)=some (V.ref row.1):=at3;have pr:=hZ4.at_ row hrm;have ln:∀{α β:Type}{f:α->β}{l:List α},l≠[]->(0:Int)<((l.map f).length:Int):=λ{α β f l} h=>by
  have:=PN.mpr h;rw[aD];lia
 have rl:row.2.length<=16:=by
  have h1:row.2.length<=(flat zs).length:=by
   let(u,v,e):=Pd hrm;rw[e];unfold flat;simp;lia
  rw[sp]at h1;lia
 refine((by lia,by lia),_,.inl (_,az.of hF4,rfl),ln hne,F,rfl,_,az.of hF4,_,at1,(by lia,by lia),_,.inl (_,az.of py.top,rfl),ln y2,_,rfl,_,az.of py.top,_,at2,_,rfl,_,bc.of pa.top,_,rfl,(by lia,by lia),by decide,_,rfl,_,az.of hZ4.top,_,at3,.inl (rfl,_,az.of pr.top),(by decide,by decide),_,rfl,_,az.of hZ4.top,_,at3,_,.inl (_,az.of pr.top,rfl),by lia,d6 _,λa1 h1=>(d6 _,λa2 h2=>(by rw[sizeLine_eq];decide,λa3 h3=>?_)));have t1:=aJ (o:=HO.lst []) h1;have t2:=aJ (o:=HO.lst []) h2;have t3:=aJ (o:=HO.tup [V.str p.name,V.ref a1,V.ref a2]) h3;have tA:=(t1.trans t2).trans t3;have qa:aj.At (upd (upd (upd H4 a1 (HO.lst [])) a2 (HO.lst [])) a3 (HO.tup [V.str p.name,V.ref a1,V.ref a2])) (a3,a1,a2,p.name,[],[]):=(ax,t3 _ _ (t2 _ _ ax),t3 _ _ ax,(λs hs=>by cases hs),(λn hn=>by cases hn))
 have f1:H4 a1=none:=h1;have f2:H4 a2=none:=t1.free h2;have hZ7:=fQ hZ4 tA;have pr7:=gK pr tA;have inH4:∀b∈M::zs.map (·.1),∃xs,H4 b=some (.lst xs):=λb hb=>by
  rcases eP.mp hb with z|z
  ·exact(_,z▸hZ4.top)
  ·let(y,hy,z):=aK.mp z;exact(_,z▸(hZ4.at_ y hy).top)
 have nq:∀b∈M::zs.map (·.1),b∉((a3,a1,a2,p.name,[],[]):aj).lists:=λb hb z=>by
  let(vs,e):=inH4 b hb;have z:b∈[a1,a2]:=z;rcases eP.mp z with z|z
  ·rw[z,f1]at e;cases e
  ·rw[bU.mp z,f2]at e;cases e
 have s7:=s5.trans tA;generalize upd (upd (upd H4 a1 (HO.lst [])) a2 (HO.lst [])) a3 (HO.tup [V.str p.name,V.ref a1,V.ref a2])=H7 at *;obtain⟨m,hm⟩:∃m:Nat,c/11%(1+((row.2.map aj.v).length:Int))=m:=Pe (Int.emod_nonneg _ (by lia));have hml:(m:Int)<1+((row.2.map aj.v).length:Int):=by rw[<-hm];exact Int.emod_lt_of_pos _ (by lia)
 rw[aD]at hml;rw[hm];refine(_,rfl,_,pr7.top,by lia,by lia,by rw[aD,sizeLine_eq];lia,?_);let(za,zb,ezs):=Pd hrm;rw[Qx];have er:(row.2.map aj.v).take m++V.ref a3::(row.2.map aj.v).drop m=(row.2.take m++(a3,a1,a2,p.name,[],[])::row.2.drop m).map aj.v:=by
  rw[aV,iS,List.map_take,List.map_drop]
 rw[er];have bt:eG H7 (upd H7 row.1 (.lst ((row.2.take m++(a3,a1,a2,p.name,[],[])::row.2.drop m).map aj.v))) row.1:=eG.upd pr7.top;have rin:row.1∈M::zs.map (·.1):=jQ _ (aK.mpr (row,hrm,rfl));have ea:(za++⟨row.1,row.2.take m++(a3,a1,a2,p.name,[],[])::row.2.drop m⟩::zb).map (·.1)=zs.map (·.1):=by rw[ezs,aV,iS,aV,iS]
 have ef:∀q,q∈flat (za++⟨row.1,row.2.take m++(a3,a1,a2,p.name,[],[])::row.2.drop m⟩::zb)->q∈flat zs\/q=(a3,a1,a2,p.name,[],[]):=λq hq=>by
  rw[ezs];unfold flat at hq ⊢;rw[oJ,Il]at hq ⊢;rcases bT.mp hq with z|z
  ·exact .inl (eD _ z)
  ·rcases bT.mp z with z|z
   ·rcases bT.mp z with z|z
    ·exact .inl (eW _ (eD _ (TL z)))
    ·rcases eP.mp z with z|z
     ·exact .inr z
     ·exact .inl (eW _ (eD _ (List.mem_of_mem_drop z)))
   ·exact .inl (eW _ (eW _ z))
 have atq:∀q,q∈flat zs\/q=(a3,a1,a2,p.name,[],[])->q.At (upd H7 row.1 (.lst ((row.2.take m++(a3,a1,a2,p.name,[],[])::row.2.drop m).map aj.v))):=λq hq=>by
  rcases hq with z|z
  ·let(y,hy,hq):=fU.mp z;exact((hZ7.at_ y hy).at_ q hq).but bt (nl q z _ rin)
  ·rw[z];exact qa.but bt (nq _ rin)
 have nd':∀y,y∈za\/y∈zb->y.1≠row.1:=λy hy e=>by
  have h:=(i_.mp nd).2;rw[ezs,aV,iS]at h;let(_,h2,h3):=i6.mp h;rcases hy with z|z
  ·exact h3 _ (aK.mpr (y,z,rfl)) _ mm e
  ·exact(i_.mp h2).1 (by rw[<-e];exact aK.mpr (y,z,rfl))
 refine k M (za++⟨row.1,row.2.take m++(a3,a1,a2,p.name,[],[])::row.2.drop m⟩::zb) _ (cg (fr _ rin) s7) (?_,λy hy=>?_) ?_ (?_,λq hq=>?_)
 ·have e:(za++⟨row.1,row.2.take m++(a3,a1,a2,p.name,[],[])::row.2.drop m⟩::zb).map (λx=>V.ref x.1)=zs.map λx=>V.ref x.1:=by rw[ezs,aV,iS,aV,iS]
  rw[e];exact bt.2 _ _ hZ7.top (λz=>(i_.mp nd).1 (by rw[z];exact aK.mpr (row,hrm,rfl)))
 ·have old:y∈za\/y∈zb->PL (upd H7 row.1 (.lst ((row.2.take m++(a3,a1,a2,p.name,[],[])::row.2.drop m).map aj.v))) y.1 y.2:=λh=>by
   have hyz:y∈zs:=by rw[ezs];exact h.elim (eD _) λz=>eW _ (jQ _ z)
   have pz:=hZ7.at_ y hyz;exact(bt.2 _ _ pz.top (nd' y h),λq hq=>atq q (.inl (fU.mpr (y,hyz,hq))))
  rcases bT.mp hy with z|z
  ·exact old (.inl z)
  ·rcases eP.mp z with z|z
   ·rw[z];refine(ax,λq hq=>atq q (ef q ?_));unfold flat;rw[oJ,Il];exact eW _ (eD _ hq)
   ·exact old (.inr z)
 ·rw[ezs]at z4;rw[cw,oY]at z4 ⊢;exact z4
 ·have h1:(flat zs).length<=(flat ys).length:=by rw[sp];exact bJ _
  rw[ezs]at h1;unfold flat at h1 ⊢;rw[oJ,Il,cw,cw]at h1 ⊢;have:(row.2.take m++((a3,a1,a2,p.name,[],[]):aj)::row.2.drop m).length=row.2.length+1:=by
   rw[cw,oY,lA,OW];lia
  rw[this];lia
 ·rcases ef q hq with z|z
  ·exact .inl (by rw[<-sp];exact z)
  ·rw[z];exact .inr (rfl,rfl,aK.mpr (p,fU.mpr (y,hy,hp),rfl))
def Bw(h:O8 G S)(e1:G'.map ao=G.map ao)(e2:S'.map ao=S.map ao):O8 G' S':=by
 have e3:(G'++S').map ao=(G++S).map ao:=by rw[aV,aV,e1,e2]
 have back:∀q∈G'++S',∃p∈G++S,ao q=ao p:=λq hq=>by
  have m:ao q∈(G'++S').map ao:=aK.mpr (q,hq,rfl);rw[e3]at m;let(p,hp,e):=aK.mp m;exact(p,hp,e.symm)
 refine(λnd=>F0 (h.px ?_) nd back,λq hq=>?_)
 ·rw[<-iF,<-e3,iF];exact nd
 ·let(p,hp,e):=back q hq;exact Fc (h.py p hp) e
def xX(hc:c∈cs)(hn:n∈c.2.1)(h1:n.name=e)(h2:n.sort=bx):c.1∈ik (iU cs) e:=by
 unfold ik iU;refine aK.mpr (⟨n.name,c.1⟩,sV.mpr (fU.mpr (c,hc,aK.mpr (n,sV.mpr (hn,decide_eq_true h2),rfl)),decide_eq_true h1),rfl)
def mi(h:r∈jb cs):∃c∈cs,∃n∈c.2.1,r=⟨c.1,n⟩:=by
 let(p,hp,h):=fU.mp h;let(n,hn,e):=aK.mp h;exact(p,hp,n,hn,e.symm)
def u_.one{cs:List Co}{e:Str}{v w:Str×Int×Int}(nd:(cs.map (·.1)).Nodup)(nn:∀c∈cs,(c.2.1.map aq.name).Nodup)(du:ji (iU cs) none)(hv:u_ (jb cs) e v)(hw:u_ (jb cs) e w):v=w:=by
 have same:∀{c c':Co}{n n':aq},c∈cs->c'∈cs->n∈c.2.1->n'∈c'.2.1->n.name=e->n'.name=e->c.1=c'.1->Jz ⟨c.1,n⟩=Jz ⟨c'.1,n'⟩:=λ{c c' n n'} hc hc' hn hn' h1 h2 q=>by
  obtain rfl:=nK nd hc hc' q;obtain rfl:=nK (nn c hc) hn hn' (h1.trans h2.symm);rfl
 rcases hv with ⟨r,h1,h2,h3,rfl⟩|⟨h0,r,h1,h2,h3,rfl,h4⟩<;>rcases hw with ⟨r',g1,g2,g3,rfl⟩|⟨g0,r',g1,g2,g3,rfl,g4⟩
 ·let(c,hc,n,hn,rfl):=mi h1;let(c',hc',n',hn',rfl):=mi g1;refine same hc hc' hn hn' h2 g2 ?_;have m1:=xX hc hn h2 h3;have m2:=xX hc' hn' g2 g3;have l:(ik (iU cs) e).length<=1:=du e
  match ik (iU cs) e,l,m1,m2 with
  |[],_,m1,_=>cases m1
  |[x],_,m1,m2=>exact(bU.mp m1).trans (bU.mp m2).symm
  |_::_::_,l,_,_=>simp at l
 ·exact absurd h3 (g0 r h1 h2)
 ·exact absurd g3 (h0 r' g1 g2)
 ·have a:=h4 r' g1 g2 g3;have b:=g4 r h1 h2 h3;let(c,hc,n,hn,rfl):=mi h1;let(c',hc',n',hn',rfl):=mi g1;exact same hc hc' hn hn' h2 g2 (gc (Gr.mp a) (Gr.mp b))
def Bt{H:Hp}{t q lr ln:Addr}{w:Str×Int×Int}(h1:H t=some (.tup [.ref q,.ref lr,.ref ln,.bl false]))(h2:H q=some (atT w.1 w.2.1 w.2.2))(h3:H lr=some (.lst (List.replicate 8 (V.int 0))))(h4:H ln=some (.lst [])):Rep K H (.tup [.tup [.str s!"at",.str w.1,.int w.2.1,.int w.2.2],.lst (List.replicate 8 (.int 0)),.lst [],.bl false]) (.ref t):=by
 simp only[Rep];refine(_,_,rfl,bc.of h1,?_);simp only[RepL,Rep];exact(_,_,rfl,(_,_,rfl,bc.of h2,by simp[RepL,Rep]),_,_,rfl,(_,_,rfl,az.of h3,by simp[List.replicate,RepL,Rep]),_,_,rfl,(_,_,rfl,az.of h4,rfl),_,_,rfl,rfl,rfl)
theorem Kj.mono{H H':Hp}{v:V}{o:List Str}(h:Kj H v o)(s:au H H'):Kj H' v o:=h.imp id λ(a,l,b,c)=>(a,l,b,s _ _ c)
theorem LX.mono{A:Ad}{H H':Hp}{C d:Addr}{o:List Str}(h:LX A H C d o)(s:au H H'):LX A H' C d o:=
 h.imp (λ(z,a,b,c)=>(z,a,b,s _ _ c)) λh=>h.imp (λ(z,y,a,b,c)=>(z,y,a,b,s _ _ c)) λ(z,y,x,a,b,c)=>(z,y,x,a,b,s _ _ c)
def JX(T:Txt K mg A):Z0 P w mg base T.uz 11 (vX A):=by
 refine T.uz.ok g8 ?_ ?_;walk_at "k"
 let(S,a0,e,G,xs,rfl,hS,hx,bd,py,tb,k):=h
 refine(_,(aL (eL (i:=2) g8.nd rfl (by walk_at "o") (gX ["_law_shelf"]) rfl (fh (K:=K) rfl (pv 0)) (λ_ _ _=>((pn 0 'g'),bR,(cN (gX ["_law_piece"]) rfl (fh (K:=K) rfl (pv 0)) (λ_ _ _=>((pn 0 'g'),bR,(cF (QM T) 'a' rfl T.PQ T.CL.kp T.CL.b .nil aC (ai (pv 0) aa)))))))) (fY (aL (pS 3 g8.nd (cF (Qm T) 'a' rfl T.Qw T.Dg.kp T.Dg.b .nil aC (ai (pv 0) (ai (pv 1) aa)))) (aL (pS 4 g8.nd bW) (aL (pS 5 g8.nd bW) (fY (aL (zH (K:=K) rfl rfl rfl (i:=6) g8.nd rfl rfl rfl T.nM (DL (Hr (i:=5) g8.nd rfl (by walk_at "o") (D9 T.LV (PD T) 'a' rfl T.N1 T.Ku.b .nil (ai (bX (eM (K:=K) rfl) (pv 2) af (λ_ _=>rfl)) (ai (gk (jI (K:=K) rfl) (pv 2) (ff af) jB) (ai (pv 1) (ai (aA Dd (aF (ai af aa)) af) aa))))))) (λ_=>(aU (pS 4 g8.nd (pv 6))))) (dE (u:=XE A) (aL (aQ (PW.pt (Ge (kO (dj (cF (Pn T) 'a' rfl T.RM T.CK.kp T.CK.b .nil aC (ai (pv 4) (ai (pv 3) aa))))) (vY (bI (iB hr.units (K:=K) rfl) (pv 2) (pv 0) (aE _))))) (aU (aw iw)) bN) (fY (aL (aQ (bI mh (pv 3) bW (aE _)) (aU (aw (eI gL (pv 5) bW (aE _)))) bN) (fY (aU (aw (eI (qH hr.units (K:=K) rfl) (eh <| tY (pv 5) T.dz T.Lv (Q6 T) 'a' T.Ka.b .nil aC ) (aR (ai (cF (QQ T) 'a' rfl T.PY T.D1.kp T.D1.b .nil aC (ai (pv 0) (ai (pv 1) aa))) (ai (aA Dd (aF (ai af aa)) af) (ai (aF aa) (ai iw aa))))) (aE _)))))))) ?hb)))))))),?main)
 case hb=>
  rintro D Z H ⟨S,a0,Hn,c0,e,G,G',xs,yr,v,kv,mv,o,b6,rfl,hS,hY,ec,bd,py,ov,kp,hm,hn,k⟩;walk_at "rd";refine(o,kp,ov,λH1 s1=>(_,_,.inl (yZ (fQ hY s1),yZ (fQ hS s1)),II _,?_));rw[ec,eR];refine(_,rfl,?_);rw[if_neg (by simp)];refine iD ?_;walk_at "rd";rcases ov with ⟨rfl,rfl⟩|⟨no,l,rfl,hl⟩
  ·rw[if_neg (by simp)];let(M,w,T5,rs,rfl,nf,ok8,tc,cl,bg):=hm rfl;refine iD ?_;walk_at "rd";have nf1:=nf.mono s1;have du0:=ok8;rcases ok8 with ⟨z,q,_⟩|⟨z,b,q,_⟩|⟨T6,rs6,nd2,tc6,cl6,nu,du⟩
   ·cases q
   ·cases q
   have du:ji (iU (G.map ao++T6)) none:=by
    rcases du with ⟨_,h⟩|⟨z,a,b,q,_⟩
    ·exact h
    ·cases q
   have nd0:((G++flat xs).map aj.name).Nodup:=by rw[<-e_];exact nd2
   have me:cI (G.map ao) 'f' e:=Classical.byContradiction λn=>nu e s!"" (n,.inl (rfl,rfl));refine(_,_,nf1.top,rfl,M,rfl,w,z8,nf1,λt q lr ln H2 s2 sf _ _=>(a0,G,xs,fQ hS 'n',bd.full nd0,py.px nd0,me,λv T7 rs7 t7 H3 s3 tc7 cl7 bg7 ht7=>(by rw[sizeLine_eq];decide,λp hp=>(_,ax,by decide,by decide,by walk_at "s", λp4 hp4=>(d6 _,λp5 hp5=>(by rw[sizeLine_eq];decide,λp6 hp6=>?_))))));have u1:=aJ (o:=HO.lst [V.int 0]) hp;have u2:=aJ (o:=HO.lst (List.replicate (Int.toNat 8) [V.int 0]).flatten) hp4;have u3:=aJ (o:=HO.lst []) hp5;have u4:=aJ (o:=HO.tup [V.ref t7,V.ref p4,V.ref p5,V.bl false]) hp6;have uA:=((u1.trans u2).trans u3).trans u4;have ew:v=w:=by
    have p1:=r8 tc cl tc7 cl7;have nn:∀c∈G.map ao++T7,(c.2.1.map aq.name).Nodup:=λc hc=>by
     have:c∈(G++flat xs).map ao:=by
      rw[aV];exact(bT.mp hc).elim (eD _) λy=>eW _ (tc7.sub _ y)
     let(p,hp,rfl):=aK.mp this;have h:=(bd.va p hp).nd;show((p.aM.map aq.e).map aq.name).Nodup;rw[d9];exact h
    refine u_.one (EF tc7 nd2) nn (ji.perm (((r8 tc6 cl6 tc7 cl7).append_left _).flatMap_right _) du) bg7 (u_.iff (λr=>((p1.append_left (G.map ao)).flatMap_right _).mem_iff) bg)
   subst ew;let(us,hu,hl):=sf.Eu;have eu:us=List.replicate 8 (V.int 0):=List.eq_replicate_iff.mpr (hl.len,λx hx=>by
    let(i,hi):=HP hx;have il:=(fA.mp hi).1;rw[hl.len]at il;let(x',h1,h2):=hl.at_ i (.inl 0) (by unfold z8;rw[List.getElem?_replicate,if_pos (show i<8 from il)]);rw[h1]at hi;cases hi;exact h2)
   rw[eu]at hu;have sB:=s3.trans uA;refine(_,_,.inr (Bt (sB _ _ sf.top) (sB _ _ sf.Tf) (sB _ _ hu) (sB _ _ sf.SY),Bt ax (uA _ _ ht7) ((u3.trans u4) _ _ ax) (u4 _ _ ax)),by simp[depL,dep],?_);rw[eR];exact k _ (s1.trans (s2.trans sB))
  ·rw[if_pos (by simp)];rw[hn no,decide_eq_true rfl];exact k _ s1
 walk_at "rd";have ef:flat (⟨a0,G⟩::xs)=G++flat xs:=rfl;refine wg hS (by rw[oY];lia) (λx hx'=>(?_,λp hp=>bd.va p (by rw[<-ef];exact fU.mpr (x,hx',hp)))) λDn ys H1 s1 hy _ ec=>?_
 ·have h1:x.2.length<=(flat (⟨a0,G⟩::xs)).length:=by
   let(u,v,e):=Pd hx';rw[e];unfold flat;simp;lia
  have h2:=bd.cY;rw[ef]at h1;lia
 cases ys with
 |nil=>cases ec
 |cons y0 yr=>
  let(c0,G'):=y0;let(e1,e2):=zK ec;refine iD ?_;walk_at "rd";refine(a0,G,xs,fQ hS s1,bd,py.px,λo v H2 s2 ok ov=>?_);refine iD ?_;walk_at "rd";have IJ:gz ((⟨c0,G'⟩::yr).map λy=>V.ref y.1) 0=some (V.ref c0):=(show gz (V.ref c0::yr.map λy=>V.ref y.1) ((0:Nat):Int)=_ from L2.dq rfl)
  have ed:((⟨c0,G'⟩::yr).map λy=>V.ref y.1).drop 1=yr.map λy=>V.ref y.1:=rfl;refine(_,az.of (s2 _ _ hy.top),V.ref c0,IJ,_,az.of (s2 _ _ hy.top),λp hp=>?_);rw[U7,ed];have s3:=aJ (o:=HO.lst (yr.map λy=>V.ref y.1)) hp;have p3:=@ax H2 p (HO.lst (yr.map λy=>V.ref y.1));have ov3:Kj (upd H2 p (HO.lst (yr.map λy=>V.ref y.1))) v o:=ov.imp id λ(a,l,b,c)=>(a,l,b,s3 _ _ c);have s03:='n'.trans s3;have hY3:=fQ hy (s2.trans s3);generalize upd H2 p _=H3 at *;refine(by rw[sizeLine_eq];decide,λp2 hp2=>(_,ax,by decide,by decide,by walk_at "s", λp5 hp5 x dx hx5 hdx ndx=>?_));have s5:=(aJ (o:=HO.lst [V.int 0]) hp2).trans (aJ (o:=HO.lst (List.replicate (Int.toNat 8) [V.int 0]).flatten) hp5);have e5:upd (upd H3 p2 (HO.lst [V.int 0])) p5 (HO.lst (List.replicate (Int.toNat 8) [V.int 0]).flatten) p5=some (HO.lst (z8.map λ_=>V.int 0)):=ax;generalize upd (upd H3 p2 (HO.lst [V.int 0])) p5 _=H5 at *;have hx6:upd H5 dx (HO.own x) x=none:=by rw[ae ndx.symm];exact hx5
  have s7:=s5.trans ((aJ (o:=HO.own x) hdx).trans (aJ (o:=HO.ins A.cD dx []) hx6));have e7:=(aJ (o:=HO.ins A.cD dx []) hx6) _ _ (aJ (o:=HO.own x) hdx _ _ e5);have x7:=@ax (upd H5 dx (HO.own x)) x (HO.ins A.cD dx []);have hx3:H3 x=none:=iC s5 hx5;generalize upd (upd H5 dx (HO.own x)) x _=H7 at *;have hY7:=fQ hY3 s7;have hS7:=fQ hS (s03.trans s7);have s07:=s03.trans s7;have nxL {H8:Hp}(nx:kX x H7 H8):KZ H H8:=λb o no h=>nx b o (λz=>by rw[z]at h;have:=s03 _ _ h;rw[hx3]at this;cases this) no (s07 _ _ h);have ltL {H8:Hp}(nx:kX x H7 H8):eB H7 H8:=λb o h e=>nx b o (bA e x7 (by rcases h with ⟨_,rfl⟩|⟨_,rfl⟩<;>intro z<;>cases z)) (by rcases h with ⟨_,rfl⟩|⟨_,rfl⟩<;>intro _ z<;>cases z) e;have ovL {H8:Hp}(nx:kX x H7 H8):Kj H8 v o:=ov3.imp id λ(a,l,b,c)=>(a,l,b,iz (ltL nx) (s7 _ _ c));refine(dx,c0,rfl,x7,G',yr,(hY7.at_ ⟨c0,G'⟩ mm,(s7 _ _ p3,λy hy=>hY7.at_ y (jQ _ hy)),zt bd e1 e2),Bw py e1 e2,z8,_,e7,(by rw[aD],λi y hy=>?_),rfl,tb.tk.more s07,tb.nm.more s07,tb.ne,λM w T5 rs H8 mx nx tk8 nm8 nf ok8 tc cl bg=>?_,λC d o' H8 nx tk8 nm8 ok8 xd=>?_)
  ·let(hi,ei):=fA.mp hy;rw[l_,hy];refine(_,rfl,?_);rw[List.eq_of_mem_replicate (dZ hy)];rfl
  ·rw[e1,e2]at ok8 tc cl;rw[e1]at bg;have eo:=ok.one ok8;exact(S,a0,Dn,c0,e,G,G',xs,yr,v,.bw,.ref x,o,_,rfl,mB (ltL nx) hS7,mB (ltL nx) hY7,ec,bd,py,ovL nx,.inl (eo,rfl),λ_=>(M,w,T5,rs,by rw[mx],nf,ok8,tc,cl,bg),λn=>absurd eo n,λH9 s9=>k H9 (λb o no h=>s9 _ _ (nxL nx b o no h)) (tk8.more s9,nm8.more s9,tb.ne))
  ·rw[e1,e2]at ok8;obtain rfl:=ok.one ok8;have no:o≠[]:=by rcases xd with ⟨z,rfl,_⟩|⟨z,b,rfl,_⟩|⟨z,y,b,rfl,_⟩<;>simp
   have dk:uI (some d) H8:=by rcases xd with ⟨z,_,_,q⟩|⟨z,b,_,_,q⟩|⟨z,a,b,_,_,q⟩<;>exact .inr (d,_,rfl,q)
   have mj:Catch K A.eF C:=by
    rcases xd with ⟨z,_,rfl,_⟩|⟨z,b,_,rfl,_⟩|⟨z,a,b,_,rfl,_⟩
    ·exact(T.vG,T.wz,T.Pu)
    ·exact(T.vG,T.wz,T.Q_)
    ·exact(T.vG,T.wz,T.SD)
   refine(C,rfl,mj,dk,λa ha=>?_);have sa:=aJ (o:=XO a C (some d)) ha;exact(S,a0,Dn,c0,e,G,G',xs,yr,v,.ref a,.bw,o,_,rfl,fQ (mB (ltL nx) hS7) sa,fQ (mB (ltL nx) hY7) sa,ec,bd,py,(ovL nx).mono sa,.inr (a,C,d,rfl,ax,xd.mono sa),λz=>absurd z no,λ_=>rfl,λH9 s9=>k H9 (λb o no h=>s9 _ _ (sa _ _ (nxL nx b o no h))) (tk8.more (sa.trans s9),nm8.more (sa.trans s9),tb.ne))
def CQ{t:Int}{l:List Int}(nd:l.Nodup)(h:∀x∈l,0<=x/\x<16):(l.map (nameOf t)).Nodup:=by
 rw[List.Nodup,J7];exact List.Pairwise.imp_of_mem (λ{a b} ha hb hne e=>hne (jh (h a ha).1 (h a ha).2 (h b hb).1 (h b hb).2 e)) nd
def zD(ps:List aj):(dD ps).length<=(ps.map aj.size).sum:=by
 induction ps with
 |nil=>exact bJ _
 |cons p r ih=>
  have e:dD (p::r)=(p.aM.map λn=>⟨p.name,n⟩)++dD r:=rfl;rw[e,cw,aD,iS,List.sum_cons];unfold aj.size at *;lia
def Drawn.nm(d:Drawn c t n ps){p:aj}(hp:p∈ps):(p.name.length<=16/\Sg p.name)/\∀m∈p.aM,(m.name.length<=16/\Sg m.name)/\isSort m.sort:=by
 refine((d.pc hp).1,λm hm=>?_);have:=(d.ok p hp).aM m hm;let(k,k0,_,e):=this.name;exact(by rw[e];exact dA c k k0,this.sort)
def EJ(d:Drawn c t n ps)(hn:n<=61)(h:p∈ps):m6 p/\sL p.name/\∀z,bM z (ao p)=true->sL z:=by
 refine(d.va hn h,(d.pc h).1,λz hz=>?_);let(f,hf,_,e):=iK.mpr hz;let(s,hs,hf):=fU.mp hf;let(k,k0,_,ek):=(((d.ok p h).ba s hs).fills f hf).name;rw[<-e,ek];exact dA c k k0
def yB(hS:iW H S xs)(e:xs=za++row::zb)(nd:(S::xs.map (·.1)).Nodup)(ap:∀p∈flat xs,row.1∉p.lists)(sa:s.At H)(ns:row.1∉s.lists):iW (upd H row.1 (.lst (row.2.map aj.v++[s.v]))) S (za++⟨row.1,row.2++[s]⟩::zb):=by
 subst e;have hr:row∈za++row::zb:=by simp
 have bt:eG H (upd H row.1 (.lst (row.2.map aj.v++[s.v]))) row.1:=eG.upd (hS.at_ row hr).top;have nS:S≠row.1:=λz=>(i_.mp nd).1 (aK.mpr (row,hr,z.symm));have ne:∀y,y∈za\/y∈zb->y.1≠row.1:=λy hy e=>by
  have h:=(i_.mp nd).2;rw[aV,iS]at h;let(_,h2,h3):=i6.mp h;rcases hy with z|z
  ·exact h3 _ (aK.mpr (y,z,rfl)) _ mm e
  ·exact(i_.mp h2).1 (by rw[<-e];exact aK.mpr (y,z,rfl))
 have old:∀y∈za++row::zb,y.1≠row.1->PL (upd H row.1 (.lst (row.2.map aj.v++[s.v]))) y.1 y.2:=λy hy n=>(bt.2 _ _ (hS.at_ y hy).top n,λq hq=>((hS.at_ y hy).at_ q hq).but bt (ap q (fU.mpr (y,hy,hq))));refine(?_,λy hy=>?_)
 ·have e:(za++⟨row.1,row.2++[s]⟩::zb).map (λx=>V.ref x.1)=(za++row::zb).map λx=>V.ref x.1:=by simp
  rw[e];exact bt.2 _ _ hS.top nS
 ·rcases bT.mp hy with z|z
  ·exact old y (eD _ z) (ne y (.inl z))
  ·rcases eP.mp z with z|z
   ·rw[z];refine(by rw[ax,aV];rfl,λq hq=>?_);rcases bT.mp hq with x|x
    ·exact((hS.at_ row hr).at_ q x).but bt (ap q (fU.mpr (row,hr,x)))
    ·rw[bU.mp x];exact sa.but bt ns
   ·exact old y (eW _ (jQ _ z)) (ne y (.inr z))
def GD(hG:iW H g gs)(hb:H b=some (.lst ws))(n:b∉g::gs.map (·.1))(ap:∀p∈flat gs,b∉p.lists):iW (upd H b o) g gs:=by
 have bt:eG H (upd H b o) b:=eG.upd hb;refine(bt.2 _ _ hG.top λz=>n (by rw[z];exact mm),λy hy=>(bt.2 _ _ (hG.at_ y hy).top λz=>n (by rw[<-z];exact jQ _ (aK.mpr (y,hy,rfl))),λq hq=>((hG.at_ y hy).at_ q hq).but bt (ap q (fU.mpr (y,hy,hq)))))
def tN:(flat (za++⟨row.1,row.2++[s]⟩::zb)).Perm (s::flat (za++row::zb)):=by
 unfold flat;rw[oJ,Il,oJ,Il];have:=List.perm_middle (l₁:=za.flatMap (·.2)++row.2) (l₂:=zb.flatMap (·.2)) (a:=s);simpa [List.append_assoc] using this
theorem rS(h:aG p.ba=[])(z:Str):¬bM z (ao p)=true:=λhz=>by
 let(f,hf,_):=iK.mpr hz;have hf:f∈aG p.ba:=hf;rw[h]at hf;cases hf
def Cy(h:∀s∈ss,s.fills=[]):aG ss=[]:=by
 unfold aG;exact List.flatMap_eq_nil_iff.mpr h
def v8(d:Drawn c t n ps)(hn:n<=59)(rq:LP c t q)(sg:QG c t s):HY (ps++[q,s]):=by
 have alt:∀{C:aj->Prop},(∀p∈ps,C p)->C q->C s->∀p∈ps++[q,s],C p:=λ{C} c1 c2 c3 p hp=>by
  rcases bT.mp hp with y|y
  ·exact c1 p y
  ·rcases eP.mp y with y|y
   ·rw[y];exact c2
   ·rw[bU.mp y];exact c3
 have cY:=d.cY;have sz:=d.size;have rz:=zD ps;have sl:=str_len (ps:=ps);have nl:q.aM.length=12:=by have:=congrArg List.length rq.aM;rwa [aD,aD,List.length_range]at this
 let(x,ex,xw,xf):=rq.ba;have qn:(q.aM.map aq.name).Nodup:=by rw[rq.aM];exact(i6.mp (BI (t:=c) 12 (by decide))).1
 have sn:(s.aM.map aq.name).Nodup:=by
  have:=sg.nl
  match s.aM,this with
  |[],_=>exact CB
  |[m],_=>simp
  |_::_::_,h=>simp at h
 have qf:aG q.ba=[]:=Cy λy hy=>by rw[ex]at hy;rw[bU.mp hy];exact xf
 have sf:aG s.ba=[]:=Cy λy hy=>(sg.st y hy).2;have bq:m6 q:=(by lia,by rw[ex];simp,λy hy=>by rw[ex]at hy;rw[List.mem_singleton.mp hy,xw,xf];exact(by decide,by decide),by rw[qf];decide,qn)
 have bs:m6 s:=(by have:=sg.nl;lia,by have:=sg.sl;lia,λy hy=>by rw[(sg.st y hy).1,(sg.st y hy).2];exact(by decide,by decide),by rw[sf];decide,sn)
 refine((by rw[cw];exact(by lia:ps.length+2<=14),?_,alt (λp hp=>(by have:=(d.pc hp).2.1;lia,(d.ok p hp).nd)) (by lia,qn) (by have:=sg.nl;lia,sn),alt (λp hp=>d.nm hp) ?_ ?_,?_),alt (λp hp=>?_) ?_ ?_)
 ·have e:(ps++[q,s]).map aj.name=((List.range ps.length).map Int.ofNat++[14,13]).map (nameOf t):=by
   rw[aV,d.names,aV (f:=nameOf t),d9,iS,LS,rq.name,sg.name];rfl
  rw[e];have hr:∀x∈(List.range ps.length).map Int.ofNat,0<=x/\x<12:=λx hx=>by
   let(i,hi,rfl):=aK.mp hx;have:=Je.mp hi;exact(RK i,by show(i:Int)<12;lia)
  refine CQ (i6.mpr (?_,by decide,λx hx y hy e=>?_)) (λx hx=>?_)
  ·rw[List.Nodup,J7];exact(List.nodup_range (n:=ps.length)).imp λ{a b} h e=>h (Int.ofNat.inj e)
  ·have:=(hr x hx).2;rcases eP.mp hy with y|y
   ·lia
   ·have:=bU.mp y;lia
  ·rcases bT.mp hx with y|y
   ·have:=hr x y;lia
   ·rcases eP.mp y with y|y
    ·lia
    ·have:=bU.mp y;lia
 ·refine(by rw[rq.name];exact dA t 14 (by decide),λm hm=>(?_,.inr (.inl (rq.weak m hm))));have:m.name∈q.aM.map aq.name:=aK.mpr (m,hm,rfl);rw[rq.aM]at this;let(k,_,e):=aK.mp this;rw[<-e];exact dA c k (RK k)
 ·exact(by rw[sg.name];exact dA t 13 (by decide),λm hm=>((sg.nm m hm).1,.inl (sg.nm m hm).2.1))
 ·have e:bC (ps++[q,s])=bC ps++((q.aM.filter λn=>decide (n.sort=bx)).map (λn=>⟨n.name,q.name⟩)++(s.aM.filter λn=>decide (n.sort=bx)).map λn=>⟨n.name,s.name⟩):=by
   unfold bC;rw[oJ];simp
  have h1:q.aM.filter (λn=>decide (n.sort=bx))=[]:=List.filter_eq_nil_iff.mpr λm hm h=>by
   have a:=of_decide_eq_true h;rw[rq.weak m hm]at a;exact absurd a 'e'
  have h2:=Au (λn:aq=>decide (n.sort=bx)) s.aM;have:=sg.nl;rw[e,h1,cw,cw,aD,aD];simp only[List.length_nil];lia
 ·let(h1,_,h3):=EJ d (by lia) hp;refine((h1,λs hs w hw=>?_,λs hs f hf=>?_,λm hm=>?_),h3)
  ·have:=((d.ok p hp).ba s hs).words w hw;lia
  ·have:=((d.ok p hp).ba s hs).fills f hf;exact(this.lo,this.hi,this.soft)
  ·let(k,s,hk,_,h1',h2'):=((d.ok p hp).aM m hm).at_;have:=(h1.ss s (dZ hk)).1;lia
 ·refine((bq,λy hy w hw=>?_,λy hy f hf=>?_,λm hm=>?_),λz hz=>absurd hz (rS qf z))
  ·rw[ex]at hy;rw[bU.mp hy,xw]at hw;rw[bU.mp hw];decide
  ·rw[ex]at hy;rw[bU.mp hy,xf]at hf;cases hf
  ·have:=(rq.YD m hm).2;lia
 ·refine((bs,λy hy w hw=>?_,λy hy f hf=>?_,λm hm=>?_),λz hz=>absurd hz (rS sf z))
  ·rw[(sg.st y hy).1]at hw;rw[bU.mp hw];decide
  ·rw[(sg.st y hy).2]at hf;cases hf
  ·have:=(sg.nm m hm).2.2;lia
theorem HY.sub(h:HY ps)(nd:(qs.map aj.name).Nodup)(hs:∀q∈qs,q∈ps):HY qs:=(h.px.sub nd hs,λq hq=>h.py q (hs q hq))
def HY.tk(h:HY ps)(sp:WE ps zs n)(hn:n<=2)(ez:zs=G++flat xs)(he:sL e):qS G (flat xs) e/\O8 G (flat xs):=by
 have hf:=h.px.cY;have al:∀p∈G++flat xs,(MC p/\∀z,bM z (ao p)=true->sL z)/\sL p.name/\(p.aM.length<=61/\(p.aM.map aq.name).Nodup)/\∀n∈p.aM,(n.name.length<=16/\Sg n.name)/\isSort n.sort:=λp hp=>by
  rcases sp.2 p (by rw[ez];exact hp) with q|⟨q1,q2,q3⟩
  ·exact(h.py p q,(h.px.sg p q).1,h.px.aM p q,(h.px.sg p q).2)
  ·let(r,hr,er):=aK.mp q3;refine((((by rw[q2];exact d6 _,by rw[q1];exact d6 _,(λs hs=>by rw[q1]at hs;cases hs),by rw[q1];exact d6 _,by rw[q2];exact CB),(λs hs=>by rw[q1]at hs;cases hs),(λs hs=>by rw[q1]at hs;cases hs),(λm hm=>by rw[q2]at hm;cases hm)),λz hz=>absurd hz (rS (by rw[q1];rfl) z)),by rw[<-er];exact(h.px.sg r hr).1,by rw[q2];exact(d6 _,CB),λm hm=>by rw[q2]at hm;cases hm)
 refine((?_,λp hp=>(al p hp).1.1.bn,λp hp=>(al p hp).2.1,λp hp=>(al p hp).1.2,he),λnd=>(?_,nd,λp hp=>(al p hp).2.2.1,λp hp=>((al p hp).2.1,(al p hp).2.2.2),?_),λp hp=>(al p hp).1.1)
 ·have:=sp.1;rw[<-ez];lia
 ·have:=nd.length_le_of_subset (l₂:=ps.map aj.name) λz hz=>by
   let(q,hq,rfl):=aK.mp hz;rcases sp.2 q (by rw[ez];exact hq) with y|⟨_,_,y⟩
   ·exact aK.mpr (q,y,rfl)
   ·exact y
  walk_at "4";lia
 ·have key:∀l:List aj,bC l=bC (l.filter λp=>!p.aM.isEmpty):=λl=>by
   induction l with
   |nil=>rfl
   |cons p r ih=>
    have e:bC (p::r)=(p.aM.filter λn=>decide (n.sort=bx)).map (λn=>⟨n.name,p.name⟩)++bC r:=rfl;rw[e,Sk];cases hb:p.aM.isEmpty with
    |true=>rw[List.isEmpty_iff.mp hb,if_neg (by decide),<-ih];rfl
    |false=>
     rw[if_pos (by decide),ih];rfl
  rw[key];refine fF (rT ((pJ nd).filter _) λp hp=>?_) h.px.rl;let(hp,hb):=sV.mp hp;rcases sp.2 p (by rw[ez];exact hp) with y|⟨_,y,_⟩
  ·exact y
  ·rw[y]at hb;cases hb
def Rz(ns:List Int)(h:ns.length<=63):∃ms:List Int,hJ (ns.map V.int) (some 4) (some 202)=ms.map V.int/\ms.length<=59:=by
 refine((ns.drop (HT.sIx (ns.map V.int).length 0 (some 4))).take (HT.sIx (ns.map V.int).length (ns.map V.int).length (some 202) - HT.sIx (ns.map V.int).length 0 (some 4)),?_,?_)
 ·unfold hJ;rw[List.map_take,List.map_drop]
 ·have e:HT.sIx (ns.map V.int).length 0 (some 4)=min 4 ns.length:=by
   rw[show(some (4:Int))=some ((4:Nat):Int) from rfl,HT.sIx_nat,aD]
  rw[lA,OW,e];lia
def RN(T:Txt K mg A):Z0 P w mg base T.Q2 12 (rB K A.bB A.aZ):=by
 refine T.Q2.ok fR ?_ ?_;walk_at "k"
 let(sc,ns,rfl,hS,hl,hN,hT,ne,k):=h
 refine(_,(aL (pS 1 fR.nd (cF (yo T) 'a' rfl T.yd T.jH.kp T.jH.b .nil aC (ai (pv 0) (ai af aa)))) (aL (pS 2 fR.nd (cF (yo T) 'a' rfl T.yd T.jH.kp T.jH.b .nil aC (ai (pv 0) (ai af aa)))) (aL (pS 3 fR.nd (bV Du (by rfl) T.Qp NM (ai (cF (yo T) 'a' rfl T.yd T.jH.kp T.jH.b .nil aC (ai (pv 0) (ai af aa))) aa))) (aL (pS 4 fR.nd (cF (Sd T) 'a' rfl T.Pk T.BF.kp T.BF.b .nil aC (ai (cF (Rc T) 'a' rfl T.RO T.BQ.kp T.BQ.b .nil aC (ai (gk (jI (K:=K) rfl) (pv 0) (ff af) (ff af)) (ai (pv 1) (ai (pv 2) (ai (eI bQ (aA dt (pv 3) af) af (aE _)) aa))))) (ai (pv 3) aa)))) (aL (pS 5 fR.nd (cF (lx T) 'a' rfl T.lJ T.d0.kp T.d0.b .nil aC (ai (pv 1) (ai (aA dt (cF (yo T) 'a' rfl T.yd T.jH.kp T.jH.b .nil aC (ai (pv 0) (ai af aa))) af) aa)))) (dE (u:=l1 A) (aL (eL (i:=6) fR.nd rfl (by walk_at "o") (gX ["_law_shelf"]) rfl (fh (K:=K) rfl (pv 4)) (λ_ _ _=>((pn 0 'g'),bR,(lO (rO (K:=K) rfl) (by rfl) T.gB eN (ai (pv 0) aa))))) (aL (dB (cT (bX (eM (K:=K) rfl) (pv 6) af (λ_ _=>rfl)) (ai (cF (Qz T) 'a' rfl T.SN T.Bl.kp T.Bl.b .nil aC (ai (pv 1) (ai (pv 2) (ai (aF aa) aa)))) aa))) (aL (aQ (bI wQ (aA dt (pv 3) af) af (aE _)) (aU (pS 4 fR.nd (pv 6))) bN) (dE (u:=l2 A) (aL (aQ (bI bQ (aA dt (pv 3) af) af (aE _)) (aL (pS 7 fR.nd (aF (ai (aR (ai (cF (lx T) 'a' rfl T.lJ T.d0.kp T.d0.b .nil aC (ai (pv 1) (ai (aA dt (aA fZ (pv 3) af) af) aa))) (ai aH (ai af (ai af aa))))) aa))) (aU (dB (cT (bX (eM (K:=K) rfl) (pv 4) (aA dt (aA fZ (pv 3) af) af) (λ_ _=>rfl)) (ai (aR (ai (cF (lx T) 'a' rfl T.lJ T.d0.kp T.d0.b .nil aC (ai (pv 2) (ai af aa))) (ai (aF (ai (aR (ai aH (ai af (ai (aF (ai af aa)) (ai (aF aa) aa))))) aa)) (ai (pv 7) aa)))) aa))))) bN) (dE (u:=l3 A) (aL (pS 8 fR.nd (cF (Qf T) 'a' rfl T.Rf T.Fo.kp T.Fo.b .nil aC (ai (pv 4) (ai (aA fZ (pv 3) af) aa)))) (aU (aw (mf (cF (JX T) 'a' rfl T.Jq T.uz.kp T.uz.b .nil aC (ai (pv 8) (ai (pv 5) aa))) (v9 (cF (JX T) 'a' rfl T.Jq T.uz.kp T.uz.b .nil aC (ai (pv 6) (ai (pv 5) aa)))))))) ?l3)) ?l2)))) ?l1)))))),?main)
 case l1=>
  rintro D Z H ⟨b0,c,t,kh,S,e,xs,n,ps,rfl,hS,x4,nd,ap,dr,hn,pm,he,tb,by0,k⟩;walk_at "rd";refine qD (λp x H Q h k=>(p,rfl,x,.inl h,k)) hS (by lia) λg ys H1 s1 hY fr1 nd1 ey=>?_;have y4:ys.length=4:=by have:=congrArg List.length ey;rw[aD,aD]at this;lia
  let(y0,y1,y2,y3,rfl):=E_ y4;have p3:=hY.at_ y3 (by simp);have fy:=mF ey;have cY:=dr.cY;have l3:y3.2.length<=12:=by
   have h1:y3.2.length<=(flat [y0,y1,y2,y3]).length:=by
    unfold flat;simp;lia
   rw[fy,pm.length_eq]at h1;lia
  refine(g,rfl,_,az.of hY.top,V.ref y3.1,(show gz _ ((3:Nat):Int)=_ from L2.dq rfl),.inl (rfl,_,az.of p3.top),d6 _,λq0 h0=>(ax,λq H2 s2 qa rq fr=>(y3.1,rfl,_,s2 _ _ (aJ h0 _ _ p3.top),by rw[aD,sizeLine_eq];lia,by decide,?_)));have s02:=(aJ (o:=HO.lst []) h0).trans s2;have in3:y3.1∈[y0,y1,y2,y3].map (·.1):=by simp
  have f3:H y3.1=none:=fr1 _ (jQ _ in3);have atx:∀p∈flat xs,p.At H:=λp hp=>by
   let(x,hx,hp):=fU.mp hp;exact(hS.at_ x hx).at_ p hp
  have fresh:∀p∈flat xs,∀b,H b=none->b∉p.lists:=λp hp b hb z=>by
   let(vs,e):=(atx p hp).list z;rw[hb]at e;cases e
  have nq:∀b o,H1 b=some o->b∉q.lists:=λb o hb z=>by
   have:=fr b z;rw[aJ h0 _ _ hb]at this;cases this
  have lsY:∀b∈[y0,y1,y2,y3].map (·.1),∃o,H1 b=some o:=λb hb=>by
   let(y,hy,rfl):=aK.mp hb;exact(_,(hY.at_ y hy).top)
  have lsX:∀b∈xs.map (·.1),∃o,H b=some o:=λb hb=>by
   let(y,hy,rfl):=aK.mp hb;exact(_,(hS.at_ y hy).top)
  have hG:=yB (za:=[y0,y1,y2]) (zb:=[]) (row:=y3) (fQ hY s02) rfl nd1 (λp hp=>fresh p (by rw[<-fy];exact hp) _ f3) qa (nq _ _ p3.top);have fa:=tN (za:=[y0,y1,y2]) (zb:=[]) (row:=y3) (s:=q);have sA:au H (upd H2 y3.1 (HO.lst (y3.2.map aj.v++[q.v]))):=cg f3 (s1.trans s02);have tb3:Mu A (upd H2 y3.1 (HO.lst (y3.2.map aj.v++[q.v]))):=(tb.tk.more sA,tb.nm.more sA,tb.ne)
  have hS3:=fQ hS sA;generalize upd H2 y3.1 _=H3 at *;have z0:=v8 (s:=(0,0,0,nameOf t 13,[],[])) dr hn rq (rfl,by simp,(λn hn=>by cases hn),by simp,λn hn=>by cases hn);have ndq:((q::ps).map aj.name).Nodup:=by
   have h:=z0.px.nd;rw[aV,i6]at h;rw[iS,i_];exact(λz=>h.2.2 _ z _ (by simp) rfl,h.1)
  have fp:(flat [y0,y1,y2,y3]).Perm ps:=by rw[fy];exact pm
  have fg:=fa.trans (List.Perm.cons q fp);have mg_:∀p∈flat ([y0,y1,y2]++⟨y3.1,y3.2++[q]⟩::[]),p∈ps++[q]:=λp hp=>by
   rcases eP.mp (fg.mem_iff.mp hp) with z|z
   ·rw[z];simp
   ·exact eD _ z
  have ndg:((flat ([y0,y1,y2]++⟨y3.1,y3.2++[q]⟩::[])).map aj.name).Nodup:=(fg.map _).nodup_iff.mpr ndq;have ea:([y0,y1,y2]++⟨y3.1,y3.2++[q]⟩::[]).map (·.1)=[y0,y1,y2,y3].map (·.1):=by simp
  have old:∀p∈flat ([y0,y1,y2]++⟨y3.1,y3.2++[q]⟩::[]),p=q\/p∈flat xs:=λp hp=>by
   rcases eP.mp (fa.mem_iff.mp hp) with z|z
   ·exact .inl z
   ·exact .inr (by rw[<-fy];exact z)
  generalize hgs:[y0,y1,y2]++⟨y3.1,y3.2++[q]⟩::[]=gs at *;have g4:gs.length=4:=by rw[<-hgs];rfl
  refine cH (λ_=>?_) (λ_=>?_)
  ·refine(_,c,t,kh,g,g,e,gs,gs,n,ps,q,rfl,hG,g4,by rw[ea];exact nd1,?_,?_,hG,g4,.inl (rfl,rfl),dr,hn,rq,mg_,ndg,mg_,ndg,he,tb3,by0,k) <;>
   ·intro p hp b hb;rw[ea]at hb;rcases old p hp with z|z
    ·let(o,ho):=lsY b hb;rw[z];exact nq b o ho
    ·exact fresh p z b (fr1 b (jQ _ hb))
  ·refine(_,c,t,kh,S,g,e,xs,gs,n,ps,q,rfl,hS3,x4,nd,ap,λp hp b hb=>?_,hG,g4,.inr λb hb z=>?_,dr,hn,rq,λp hp=>eD _ (pm.mem_iff.mp hp),?_,mg_,ndg,he,tb3,by0,k)
   ·rcases old p hp with z|z
    ·let(o,ho):=lsX b hb;rw[z];exact nq b o (s1 _ _ ho)
    ·exact ap p z b hb
   ·rw[ea]at z;let(o,ho):=lsX b hb;rw[fr1 b z]at ho;cases ho
   ·exact(pm.map _).nodup_iff.mpr (i_.mp ndq).2
 case l2=>
  rintro D Z H ⟨b0,c,t,kh,S,g,e,xs,gs,n,ps,q,rfl,hS,x4,nd,apx,apg,hG,g4,al,dr,hn,rq,mx,ndx,mg_,ndg,he,tb,by0,k⟩;walk_at "rd";refine(by decide,cH (λ_=>?_) (λ_=>?_))
  rotate_left
  ·have z0:=v8 (s:=(0,0,0,nameOf t 13,[],[])) dr hn rq (rfl,by simp,(λn hn=>by cases hn),by simp,λn hn=>by cases hn);have up:∀p∈ps++[q],p∈ps++[q,(0,0,0,nameOf t 13,[],[])]:=λp hp=>by
    rcases bT.mp hp with z|z
    ·exact eD _ z
    ·rw[bU.mp z];simp
   exact(_,_,_,_,kh,S,g,e,xs,gs,rfl,hS,x4,z0.sub ndx λp hp=>up p (mx p hp),hG,g4,z0.sub ndg λp hp=>up p (mg_ p hp),he,tb,k)
  let(m,row,hrow,hrm,at3,e3):=qG (f:=λy:Addr×List aj=>V.ref y.1) (c:=kh/60) (l:=xs) (λz=>by rw[z]at x4;cases x4);rw[aD,x4]at at3 e3;have at3:gz (xs.map λy=>V.ref y.1) (kh/60%4)=some (V.ref row.1):=at3;have pr:=hS.at_ row hrm;have rl:row.2.length<=13:=by
   have h1:row.2.length<=(flat xs).length:=by
    let(u,v,e):=Pd hrm;rw[e];unfold flat;simp;lia
   have h2:=ndx.length_le_of_subset (l₂:=(ps++[q]).map aj.name) λz hz=>by
    let(p,hp,rfl):=aK.mp hz;exact aK.mpr (p,mx p hp,rfl)
   rw[aD,aD,cw,Hu]at h2;have:=dr.cY;lia
  refine((by decide,by decide),by decide,by walk_at "s", λa1 h1=>(by rw[sizeLine_eq];decide,λa2 h2=>?_));have t1:=aJ (o:=HO.tup [V.str (nameOf c (kh/5%12)),V.str s!"tell",V.int 0,V.int 0]) h1;have t2:=aJ (o:=HO.lst [V.ref a1]) h2;have u1:upd (upd H a1 (HO.tup [V.str (nameOf c (kh/5%12)),V.str s!"tell",V.int 0,V.int 0])) a2 (HO.lst [V.ref a1]) a1=some (HO.tup [V.str (nameOf c (kh/5%12)),V.str s!"tell",V.int 0,V.int 0]):=t2 _ _ ax;have u2:upd (upd H a1 (HO.tup [V.str (nameOf c (kh/5%12)),V.str s!"tell",V.int 0,V.int 0])) a2 (HO.lst [V.ref a1]) a2=some (HO.lst [V.ref a1]):=ax;have f2:H a2=none:=t1.free h2;have s2:=t1.trans t2;generalize upd (upd H a1 (HO.tup [V.str (nameOf c (kh/5%12)),V.str s!"tell",V.int 0,V.int 0])) a2 (HO.lst [V.ref a1])=H2 at *;refine((by decide,by decide),by decide,_,az.of (s2 _ _ hS.top),_,at3,.inl (rfl,_,az.of (s2 _ _ pr.top)),by walk_at "s", λa3 h3=>(d6 _,λa4 h4=>(by rw[sizeLine_eq];decide,λa5 h5=>(by rw[sizeLine_eq];decide,λa6 h6=>(by rw[sizeLine_eq];decide,λa7 h7=>?_)))));have t3:=aJ (o:=HO.lst [V.int 3]) h3;have t4:=aJ (o:=HO.lst []) h4;have t5:=aJ (o:=HO.tup [V.str s!"code",V.int 1,V.ref a3,V.ref a4]) h5;have t6:=aJ (o:=HO.lst [V.ref a5]) h6;have t7:=aJ (o:=HO.tup [V.str (nameOf t 13),V.ref a6,V.ref a2]) h7;have s27:=(((t3.trans t4).trans t5).trans t6).trans t7
  have sa:aj.At (upd (upd (upd (upd (upd H2 a3 (HO.lst [V.int 3])) a4 (HO.lst [])) a5 (HO.tup [V.str s!"code",V.int 1,V.ref a3,V.ref a4])) a6 (HO.lst [V.ref a5])) a7 (HO.tup [V.str (nameOf t 13),V.ref a6,V.ref a2])) (a7,a6,a2,nameOf t 13,[(a5,a3,a4,s!"code", 1,[3],[])],[(a1,nameOf c (kh/5%12),s!"tell", 0,0)]):=by
   refine(ax,t7 _ _ ax,s27 _ _ u2,λy hy=>?_,λm hm=>?_)
   ·rw[bU.mp hy];exact(t7 _ _ (t6 _ _ ax),t7 _ _ (t6 _ _ (t5 _ _ (t4 _ _ ax))),t7 _ _ (t6 _ _ (t5 _ _ ax)),(λf hf=>by cases hf))
   ·rw[bU.mp hm];exact s27 _ _ u1
  have lsX:∀b∈xs.map (·.1),∃o,H b=some o:=λb hb=>by
   let(y,hy,rfl):=aK.mp hb;exact(_,(hS.at_ y hy).top)
  have ns:row.1∉((a7,a6,a2,nameOf t 13,[(a5,a3,a4,s!"code", 1,[3],[])],[(a1,nameOf c (kh/5%12),s!"tell", 0,0)]):aj).lists:=λz=>by
   have f3:=s2.free h3;have f4:=(s2.trans t3).free h4;have f6:=((s2.trans t3).trans (t4.trans t5)).free h6;simp[aj.lists,br.lists]at z;have hh:=pr.top;rcases z with z|z|z|z<;>rw[z]at hh
   ·rw[f6]at hh;cases hh
   ·rw[f2]at hh;cases hh
   ·rw[f3]at hh;cases hh
   ·rw[f4]at hh;cases hh
  have sg:QG c t (a7,a6,a2,nameOf t 13,[(a5,a3,a4,s!"code", 1,[3],[])],[(a1,nameOf c (kh/5%12),s!"tell", 0,0)]):=by
   refine(rfl,by simp,λm hm=>?_,by simp,λy hy=>?_)
   ·rw[bU.mp hm];exact(dA c _ (Int.emod_nonneg _ (by decide)),rfl,rfl)
   ·rw[bU.mp hy];exact(rfl,rfl)
  have sB:=s2.trans s27;generalize upd (upd (upd (upd (upd H2 a3 (HO.lst [V.int 3])) a4 (HO.lst [])) a5 (HO.tup [V.str s!"code",V.int 1,V.ref a3,V.ref a4])) a6 (HO.lst [V.ref a5])) a7 (HO.tup [V.str (nameOf t 13),V.ref a6,V.ref a2])=H7 at *;generalize hsp:((a7,a6,a2,nameOf t 13,[(a5,a3,a4,s!"code", 1,[3],[])],[(a1,nameOf c (kh/5%12),s!"tell", 0,0)]):aj)=sp at *;have ev:V.ref a7=sp.v:=by rw[<-hsp]
  refine(row.1,rfl,_,sB _ _ pr.top,by rw[aD,sizeLine_eq];lia,?_);rw[ev];let(za,zb,ezs):=Pd hrm;have rin:row.1∈xs.map (·.1):=aK.mpr (row,hrm,rfl);have hX:=yB (fQ hS sB) ezs nd (λp hp=>apx p hp _ rin) sa ns;have z0:=v8 dr hn rq sg;have sn:∀p∈ps++[q],p.name≠sp.name:=λp hp z=>by
   have h:=z0.px.nd;rw[show ps++[q,sp]=(ps++[q])++[sp] by simp,List.map_append,List.nodup_append]at h;exact h.2.2 _ (aK.mpr (p,hp,rfl)) _ (by simp) z
  have up:∀p∈ps++[q],p∈ps++[q,sp]:=λp hp=>by
   rcases bT.mp hp with z|z
   ·exact eD _ z
   ·rw[bU.mp z];simp
  have fa:=tN (za:=za) (zb:=zb) (row:=row) (s:=sp);rw[<-ezs]at fa;have zX:HY (flat (za++⟨row.1,row.2++[sp]⟩::zb)):=by
   refine z0.sub ((fa.map _).nodup_iff.mpr ?_) λp hp=>?_
   ·rw[iS,i_];refine(λz=>?_,ndx);let(p,hp,e):=aK.mp z;exact sn p (mx p hp) e
   ·rcases eP.mp (fa.mem_iff.mp hp) with z|z
    ·rw[z];simp
    ·exact up p (mx p z)
  have l4:(za++⟨row.1,row.2++[sp]⟩::zb).length=4:=by
   rw[ezs]at x4;rw[cw,oY]at x4 ⊢;exact x4
  have tb7:Mu A (upd H7 row.1 (HO.lst (row.2.map aj.v++[sp.v]))):=by
   have bt:eG H7 (upd H7 row.1 (HO.lst (row.2.map aj.v++[sp.v]))) row.1:=eG.upd (sB _ _ pr.top);have kp:∀b o,H7 b=some o->(∀ws,o≠.lst ws)->upd H7 row.1 (HO.lst (row.2.map aj.v++[sp.v])) b=some o:=λb o h no=>bt.2 _ _ h λz=>by
    rw[z,sB _ _ pr.top]at h;exact no _ (Option.some.inj h).symm
   refine(?_,?_,tb.ne)
   ·let(v,g1,g2,g3):=tb.tk.more sB;exact(v,kp _ _ g1 (λ_ z=>by cases z),g2,g3.imp id λ(c,g4,g5)=>(c,g4,kp _ _ g5 (λ_ z=>by cases z)))
   ·let(v,g1,g2,g3):=tb.nm.more sB;exact(v,kp _ _ g1 (λ_ z=>by cases z),g2,g3.imp id λ(c,g4,g5)=>(c,g4,kp _ _ g5 (λ_ z=>by cases z)))
  rcases al with ⟨rfl,rfl⟩|al
  ·exact(_,_,_,_,kh,S,S,e,_,_,rfl,hX,l4,zX,hX,l4,zX,he,tb7,k)
  ·exact(_,_,_,_,kh,S,g,e,_,gs,rfl,hX,l4,zX,GD (fQ hG sB) (sB _ _ pr.top) (al _ rin) (λp hp=>apg p hp _ rin),g4,z0.sub ndg λp hp=>up p (mg_ p hp),he,tb7,k)
 case l3=>
  rintro D Z H ⟨b0,b1,b2,b7,kh,S,g,e,xs,gs,rfl,hS,x4,zx,hG,g4,zg,he,tb,k⟩;walk_at "rd";refine((by decide,by decide),xs,hS,x4,zx.px.cY,λB zs H1 s1 hB z4 sp=>?_);cases zs with
  |nil=>cases z4
  |cons z0 zr=>
   cases gs with
   |nil=>cases g4
   |cons g0 gr=>
    rw[oY]at z4 g4;let(t1,t2):=zx.tk sp (by decide) rfl he;let(r1,r2):=zg.tk (zs:=flat (g0::gr)) (n:=0) (bJ _,λp hp=>.inl hp) (by decide) rfl he;refine(z0.1,z0.2,zr,hB,by lia,t1,t2,(tb.tk.more s1,tb.nm.more s1,tb.ne),λH2 st tb2=>?_);have lt:eB H1 H2:=λb o h e=>st b o (λps z=>by rcases h with ⟨_,h⟩|⟨_,h⟩<;>rw[h]at z<;>cases z) e;exact(g0.1,g0.2,gr,mB lt (fQ hG s1),by lia,r1,r2,tb2,λH3 _ _=>k H3)
 case main=>
  walk_at "rd";refine(ns,hS,hl,by decide,λc=>(ns,hS,hl,by decide,λt=>(ns,hS,hl,by decide,λv=>(_,hS,λp hp=>?_))));let(ms,em,lm):=Rz ns hl;rw[em];have s1:=aJ (o:=HO.lst (ms.map V.int)) hp;refine(by decide,ms,az.of ax,by lia,λL ps H1 s2 hP _ dr=>(ps,(hP.top,hP.at_),dr.cY,λS xs H2 s3 hX fr nd x4 pm=>(ns,('n'.trans s3).seq hS,hl,by decide,λa=>(by decide,?_))));have sA:='n'.trans s3;refine(_,c,t,_,S,_,xs,_,ps,rfl,hX,x4,nd,λp hp b hb z=>?_,dr,lm,pm,dA c _ (Int.emod_nonneg _ (by decide)),((#[],sA _ _ hT,trivial,.inl rfl),(#[],sA _ _ hN,trivial,.inl rfl),ne),by split<;>lia,k);let(vs,e):=(hP.at_ p (pm.mem_iff.mp hp)).list z;rw[fr b (jQ _ hb)]at e;cases e
end
@[elab_as_elim] theorem UZ{α:Type}{p:List α->Prop}(us:List α)(h:us.length=1)(f:∀a,p [a]):p us:=by
 match us,h with | [a],_=>exact f a
@[elab_as_elim] theorem U3{α:Type}{p:List α->Prop}(us:List α)(h:us.length=2)(f:∀a b,p [a,b]):p us:=by
 match us,h with | [a,b],_=>exact f a b
@[elab_as_elim] theorem VT{α:Type}{p:List α->Prop}(us:List α)(h:us.length=3)(f:∀a b c,p [a,b,c]):p us:=by
 match us,h with | [a,b,c],_=>exact f a b c
@[elab_as_elim] theorem VJ{α:Type}{p:List α->Prop}(us:List α)(h:us.length=4)(f:∀a b c d,p [a,b,c,d]):p us:=by
 match us,h with | [a,b,c,d],_=>exact f a b c d
@[elab_as_elim] theorem Uv{α:Type}{p:List α->Prop}(us:List α)(h:us.length=5)(f:∀a b c d e,p [a,b,c,d,e]):p us:=by
 match us,h with | [a,b,c,d,e],_=>exact f a b c d e
@[elab_as_elim] theorem Um{α:Type}{p:List α->Prop}(us:List α)(h:us.length=6)(f:∀a b c d e g,p [a,b,c,d,e,g]):p us:=by
 match us,h with | [a,b,c,d,e,g],_=>exact f a b c d e g
theorem QV{K:Wf}{x q:Str}{st:Stmt}{f:Addr}{oc:Value}{od an:Option Addr}{sl:Array (Option Value)}{kV dc pm cd ct:Value}{ps:List Str}(l:K.lookup f=some (oc,od,.func (fnOf x q (dh st) (cO st) (ah st) .none kV dc pm an cd ct),sl))(e:codeIn K cd q=true)(k:keepIn K (.ref f)=true)(hb:∀(kV doc pm:Value) (an:Option Addr) (cdv ct:Value) (us:List Value),us.length=ps.length->bindArgs (fnOf x q (dh st) (cO st) (ah st) .none kV doc pm an cdv ct) (us,[])=pure (ps.zip us)):FB K x q st f (fnOf x q (dh st) (cO st) (ah st) .none kV dc pm an cd ct) ps:=(BS l e k,(BS l e k).binds hb)
def Mx{l:PySem.W.OpenLaw}{w:World}{K:Wf}{mg:So}{fa f_qjj f_qxx f_ones f_moved f_qqj f_qqw f_qwq f_tells f_wants f_qjz f_qzy f_aims f_qvy f_qyq f_qvq f_qwy f_qwj f_qyw f_qxw f_qzz f_qwv f_taken f_qqx f_qqq f_qqk f_qkz f_qqy f_qwz f_qqz f_qjv f_qkv f_qzw f_qkj f_qqv f_qww f_qyy f_qwk f_qzj f_qwx f_qzv f_qxz f_qky f_qzq f_qxv f_qkw f_qyx f_qyj f_qzk f_qkx f_qxq f_qjw f_qyv f_qyz f_qyk f_qxk f_qxy f_qzx f_law bB aZ C_High C_qkq C_Lost C_Low C_xqw C_qvw C_qjy C_qvx C_qjk C_qjx C_qkk C_qvz C_qvk C_qvv C_xqq C_qvj C_qjq:Addr}{d_qjj d_qxx d_ones d_moved d_qqj d_qqw d_qwq d_tells d_wants d_qjz d_qzy d_aims d_qvy d_qyq d_qvq d_qwy d_qwj d_qyw d_qxw d_qzz d_qwv d_taken d_qqx d_qqq d_qqk d_qkz d_qqy d_qwz d_qqz d_qjv d_qkv d_qzw d_qkj d_qqv d_qww d_qyy d_qwk d_qzj d_qwx d_qzv d_qxz d_qky d_qzq d_qxv d_qkw d_qyx d_qyj d_qzk d_qkx d_qxq d_qjw d_qyv d_qyz d_qyk d_qxk d_qxy d_qzx d_law:FuncData}{Df:Tok}(hfa:mg "law" = some (.ref fa))(T:Txt K mg (f_qjj,d_qjj,f_qxx,d_qxx,f_ones,d_ones,f_moved,d_moved,f_qqj,d_qqj,f_qqw,d_qqw,f_qwq,d_qwq,f_tells,d_tells,f_wants,d_wants,f_qjz,d_qjz,f_qzy,d_qzy,f_aims,d_aims,f_qvy,d_qvy,f_qyq,d_qyq,f_qvq,d_qvq,f_qwy,d_qwy,f_qwj,d_qwj,f_qyw,d_qyw,f_qxw,d_qxw,f_qzz,d_qzz,f_qwv,d_qwv,f_taken,d_taken,f_qqx,d_qqx,f_qqq,d_qqq,f_qqk,d_qqk,f_qkz,d_qkz,f_qqy,d_qqy,f_qwz,d_qwz,f_qqz,d_qqz,f_qjv,d_qjv,f_qkv,d_qkv,f_qzw,d_qzw,f_qkj,d_qkj,f_qqv,d_qqv,f_qww,d_qww,f_qyy,d_qyy,f_qwk,d_qwk,f_qzj,d_qzj,f_qwx,d_qwx,f_qzv,d_qzv,f_qxz,d_qxz,f_qky,d_qky,f_qzq,d_qzq,f_qxv,d_qxv,f_qkw,d_qkw,f_qyx,d_qyx,f_qyj,d_qyj,f_qzk,d_qzk,f_qkx,d_qkx,f_qxq,d_qxq,f_qjw,d_qjw,f_qyv,d_qyv,f_qyz,d_qyz,f_qyk,d_qyk,f_qxk,d_qxk,f_qxy,d_qxy,f_qzx,d_qzx,f_law,d_law,bB,aZ,Df,C_High,C_qkq,C_Lost,C_Low,C_xqw,C_qvw,C_qjy,C_qvx,C_qjk,C_qjx,C_qkk,C_qvz,C_qvk,C_qvv,C_xqq,C_qvj,C_qjq))(hb:∀(s:Shared) (v:Value),BindsTo s d_law ([v],[]) [⟨"_law_script", v⟩]):∃fd:FuncData,(∀(s:Shared) (v:Value),BindsTo s fd ([v],[]) [⟨"_law_script", v⟩])/\∀base:Heap,K.In base->base.Ns mainGlobals mg->aS l.prog w K mg base de 12 fa fd ["_law_script"] (rB K bB aZ):=by
 cases hfa.symm.trans T.Qc;exact(_,hb,λ_ _ _=>RN T)
theorem walk{l:PySem.W.OpenLaw}{q:Program}{loose:List Str}{XP:(Str->Option Value)->Heap->Prop}{YP:World->Heap->Prop}{d:DefRec}{K:Params->Wf}{bB aZ:Addr}(hn:l.most=some 63)(hdf:d.params.defaults=[])(hne:bB≠aZ)
  (hY:∀(w:World) (h:Heap),YP w h->(K w.params).In h)
  (hT:∀(w:World) (h:Heap) (lo:List Str) (mean:ExcName->Option Value) (mg mb:So),(K w.params).In h->Top q lo mean mg mb h->∀T∈[bB,aZ],DF (K w.params) h T)
  (F:∀(w:World) (mg:So) (fa:Addr) (h:Heap),(K w.params).In h->h.Ns mainGlobals mg->mg d.name=some (.ref fa)->
   ∃fd:FuncData,(∀(s:Shared) (u:Value),BindsTo s fd ([u],[]) [⟨"_law_script", u⟩])/\∀base:Heap,(K w.params).In base->base.Ns mainGlobals mg->aS l.prog w (K w.params) mg base de 12 fa fd ["_law_script"] (rB (K w.params) bB aZ)):
  PySem.W.WalkO q loose XP YP l.row.toRowW d [] (λf vs=>PySem.call f vs):=
 L2.FJ (n:=63) (k:=12) (x := "_law_script") (CX:=λ_=>de) (sp:=λw=>rB (K w.params) bB aZ) hn (by decide) hdf (rfl,by decide,by decide) hY hT F (λ_ _ a ns hl hE hS=>(a,ns,rfl,hS,hl,hE _ (by simp),hE _ (by simp),hne,λ_=>rfl)) λ_ _ _ _ _ z=>z
end My
end
namespace Hd
open PySem PySem.W PySem.Calls PyProof.Rows
variable(P:Params)
abbrev pw:Program:=PySem.Challenge.pw_joinload_k66_not_made_by_names
def T(i:Nat):Stmt:=My.top i
def C(i j:Nat):Stmt:=L2.inClass (My.top i) j
abbrev k(P:Params)(x:Str)(t:Tok)(v:Value):DictEntry:=⟨PyData.keyHash P x,.str x t,v⟩
abbrev fn(s:Stmt)(x q:Str)(dV kV doc pm:Value)(an:Option Addr)(cd ct:Value):FuncData:=fnOf x q (L2.dh s) (L2.cO s) (L2.ah s) dV kV doc pm an cd ct
abbrev tu(x:Array Value):Obj:=⟨.type "tuple", none,.seq x 0,#[]⟩
abbrev e1:Obj:=tu #[]
abbrev nf(x:Array Value):Obj:=⟨.none,none,.fields x,#[]⟩
abbrev e2:Obj:=nf #[]
abbrev bf(s:String)(v:Value):Obj:=⟨.type "builtin_function_or_method", none,.fields #[.builtin s,v],#[]⟩
abbrev cx(x q:Str)(t:Nat)(l a b:Int)(r:Addr)(o:Bool)(r2:Addr)(v1 v2 v3:Value)(u:Nat):Obj:=⟨.type "code", none,.fields #[.str x t,.str q (t+1),.str "/claim/cut.py" (t+2),.int l 0,.int a 0,.int 0 0,.int 0 0,.int b 0,.ref r,.bool o,.int 181 0,.ref r2,.none,v1,v2,v3,.int (Int.ofNat u) 0,.int l 0,.str "/claim/cut.py" (u+1)],#[]⟩
abbrev co(x q:Str)(t:Nat)(l a b:Int)(r:Addr)(o:Bool)(r2:Addr)(v:Value)(u:Nat):Obj:=cx x q t l a b r o r2 .none .none v u
abbrev cc(x:Str)(b:Value)(s:Addr)(m:List Value)(d:Addr)(l:List Value)(o:Option Value)(t u:Nat)(n:String):Obj:=⟨.type "type", none,.cls ⟨x,[b],.ref s::m,d,x,true,[],l,false,none,false⟩,#[o,none,some (.str x t),some (.str x u),some (.builtin n),some (.bool true)]⟩
abbrev fm(a b:Addr)(v:Value):Obj:=⟨.type "frame", none,.plain,#[some (.ref a),some (.ref 3),some (.ref b),none,some v,none,some (.ref 0)]⟩
abbrev fo(s:Stmt)(x q:Str)(m:Str×Nat)(c:Addr):Obj:=⟨.type "function", none,.func (fn s x q .none .none .none (.str m.1 m.2) none (.ref c) .none),#[]⟩
abbrev ft(s:Stmt)(x q:Str):Obj:=⟨.none,none,.func { fn s x q .none .none .none .none none .none .none with globals:=0,closure:=[],builtins:=0 },#[]⟩
abbrev di(l:List DictEntry)(n:Nat):Obj:=⟨.type "dict", none,.dict l.toArray n,#[]⟩
def nm:Stmt->Str
 |.FunctionDef n _ _ _ _ _ _ _ _ _=>n
 |.ClassDef n _ _ _ _ _ _ _ _ _ _=>n
 |_ => ""
abbrev ln(s:Stmt):Int:=Int.ofNat s.pos.line
def vs(s:Stmt):Option (List Str×List Str):=localNames (L2.dh s) (L2.ah s) (.stmts (L2.cO s))
def nv(s:Stmt):Nat:=match vs s with
 |some l=>l.1.length
 |none=>0
def na(s:Stmt):Nat:=match vs s with
 |some _=>7
 |none=>5
def vl:List Str->Nat->List Value
 |[],_=>[]
 |x::r,t=>.str x t::vl r (t+1)
def yc(s:Stmt)(q:Str)(a t:Nat):Obj:=match vs s with
 |some l=>cx (nm s) q t (ln s) (Int.ofNat (L2.dh s).args.length) 3 a true (a+1) (.ref (a+2)) (.ref (a+3)) (.ref (a+4)) (t+3+l.1.length)
 |none=>co (nm s) q t (ln s) (Int.ofNat (L2.dh s).args.length) 3 a true (a+1) (.ref (a+2)) (t+3)
def gf(s:Stmt)(q:Str)(m:Str×Nat)(a t:Nat)(r:List Obj):List Obj:=e1::e2::match vs s with
 |some l=>tu (vl l.1 (t+3)).toArray::e1::ft s (nm s) q::yc s q a t::fo s (nm s) q m (a+5)::r
 |none=>ft s (nm s) q::yc s q a t::fo s (nm s) q m (a+3)::r
abbrev It:Type:=(List Obj->List Obj)×List DictEntry×List Value
abbrev tb(s:Stmt)(c:Int)(a:Nat)(r:List Value):List Value:=.int (ln s) 0::.int c 0::.ref a::r
def fi(P:Params)(i:Nat)(m:Str×Nat)(a t:Nat):It:=(gf (T i) (nm (T i)) m a t,[k P (nm (T i)) (t+nv (T i)+5) (.ref (a+na (T i) - 1))],tb (T i) 0 (a+na (T i) - 2) [])
def XU:Stmt->Bool
 |.FunctionDef _ _ _ _ _ _ _ _ _ _=>true
 |_=>false
def cb:Stmt->List Stmt
 |.ClassDef _ _ _ b _ _ _ _ _ _ _=>b.filter XU
 |_=>[]
def sa:Stmt->List Str
 |.ClassDef _ _ _ _ _ _ _ _ _ l _=>l
 |_=>[]
def mo(c:Str)(m:Str×Nat):List Stmt->Nat->Nat->List Obj->List Obj
 |[],_,_,r=>r
 |s::b,a,t,r=>gf s (c ++ "." ++ nm s) m a t (mo c m b (a+na s) (t+nv s+6) r)
def me(P:Params):List Stmt->Nat->Nat->List DictEntry->List DictEntry
 |[],_,_,r=>r
 |s::b,a,t,r=>k P (nm s) (t+nv s+5) (.ref (a+na s - 1))::me P b (a+na s) (t+nv s+6) r
def mt:List Stmt->Nat->List Value
 |[],_=>[]
 |s::b,a=>tb s 4 (a+na s - 2) (mt b (a+na s))
abbrev gs(s s2:String)(t:Tok)(c:Addr)(v:Value):Obj:=⟨.type "getset_descriptor", none,.fields #[.str (Str.ofString s) t,.ref c,.builtin s2,v],#[]⟩
def cd(P:Params)(i kd:Nat)(m:Str×Nat)(a t z u:Nat):Obj:=di (k P "__module__" (t+7) (.str m.1 m.2)::k P "__firstlineno__" (t+11) (.int (ln (T i)) (t+10))::me P (cb (T i)) (a+7) (t+12) (k P "__static_attributes__" u (.ref z)::match kd with
 |0=>[k P "__doc__" (u+1) .none]
 |1=>[k P "__weakref__" (u+2) (.ref (z+3)),k P "__doc__" (u+3) .none]
 |_=>[k P "__dict__" (u+2) (.ref (z+3)),k P "__weakref__" (u+4) (.ref (z+4)),k P "__doc__" (u+5) .none])) (kd+2)
def ci(P:Params)(i kd:Nat)(b:Value)(mr su:List Value)(nw:String)(m:Str×Nat)(a t z u:Nat):It:=
 (λr=>(match kd with
  |2=>e1
  |_=>tu #[b])::bf "type.__prepare__" (.type "type")::di (k P "__module__" (t+7) (.str m.1 m.2)::k P "__qualname__" (t+9) (.str (nm (T i)) (t+8))::k P "__firstlineno__" (t+11) (.int (ln (T i)) (t+10))::me P (cb (T i)) (a+7) (t+12) [k P "__static_attributes__" u (.ref z)]) ((cb (T i)).length+4)::e1::nf (mt (cb (T i)) (a+7)).toArray::co (nm (T i)) (nm (T i)) (t+2) (ln (T i)) 0 0 (a+3) false (a+4) .none (t+5)::fm (a+5) (a+2) (.str m.1 m.2)::mo (nm (T i)) m (cb (T i)) (a+7) (t+12) (tu (vl (sa (T i)) (u - (sa (T i)).length)).toArray::cd P i kd m a t z u::cc (nm (T i)) b (z+2) mr (z+1) su (match kd with
  |2=>none
  |_=>some (.ref a)) t (t+8) nw::(match kd with
  |0=>id
  |1=>(gs "__weakref__" "ExceptionGroup.__weakref__" (u+1) (z+2) .none::·)
  |_=>(gs "__dict__" "function.__dict__" (u+1) (z+2) (.builtin "function.__dict__#set")::gs "__weakref__" "ExceptionGroup.__weakref__" (u+3) (z+2) .none::·)) (⟨.type "super", none,.fields #[.ref (z+2),.ref (z+2),.ref (z+2)],#[]⟩::bf "object.__init_subclass__" (.ref (z+2))::r)),
  [k P (nm (T i)) (u+2 * kd+3) (.ref (z+2))],tb (T i) 0 (a+5) [])
def ho:List It->List Obj->List Obj
 |[],r=>r
 |x::l,r=>x.1 (ho l r)
def he:List It->List DictEntry
 |[]=>[]
 |x::l=>x.2.1++he l
def ht:List It->List Value
 |[]=>[]
 |x::l=>x.2.2++ht l
def ix:Nat->List Obj->List (Nat×Obj)
 |_,[]=>[]
 |n,x::l=>(n,x)::ix (n+1) l
abbrev y1(i a t:Nat):Obj:=yc (T i) (nm (T i)) a t
abbrev y2(i j a t:Nat):Obj:=yc (C i j) (nm (T i) ++ "." ++ nm (C i j)) a t
abbrev w1(i:Nat)(m:Str×Nat)(a:Nat):Obj:=fo (T i) (nm (T i)) (nm (T i)) m (a - 1)
abbrev w2(i j:Nat)(m:Str×Nat)(a:Nat):Obj:=fo (C i j) (nm (C i j)) (nm (T i) ++ "." ++ nm (C i j)) m (a - 1)
def od:List (Nat×Obj)->List (Nat×Obj)
 |[]=>[]
 | (i,o)::r=>match Nat.beq (i % 2) 1 with
  |true=>(i / 2,o)::od r
  |false=>od r
def ev:List (Nat×Obj)->List (Nat×Obj)
 |[]=>[]
 | (i,o)::r=>match Nat.beq i 0 with
  |true=>ev r
  |false=>match Nat.beq (i % 2) 1 with
   |true=>ev r
   |false=>(i / 2 - 1,o)::ev r
def IJ(v:Obj):List (Nat×Obj)->Obj
 |[]=>v
 | (i,o)::r=>match Nat.beq i 0 with
  |true=>o
  |false=>IJ v r
def mg:Nat->BT->List (Nat×Obj)->BT
 |0,t,_=>t
 |f+1,t,d=>match d with
  |[]=>t
  |x::r=>match t with
   |.nil=>.node (IJ default (x::r)) (mg f .nil (od (x::r))) (mg f .nil (ev (x::r)))
   |.node v a b=>.node (IJ v (x::r)) (mg f a (od (x::r))) (mg f b (ev (x::r)))
def bd:List Stmt:=behindTheImports pw
def en:Env:={ scope:=pw.main.scope,locals:=mainNs,globals:=mainNs,cells:=[],code:=(.ref 13),frame:=some 14 }
abbrev cE:Code:=.body bd en
abbrev B:List Frame:=[topFrame ⟨0,0,0,0⟩]
def li:Life:={ registered:=[],finalised:=[],alive:=[],known:=0,ids:=[],orphanDicts:=[],counting:=false,cnt:=⟨[]⟩,zero:=[],soft:=0,below:=false,collecting:=false,loading:=false,debug:=0,thresholds:=[2000,10,10],woke:=false,asked:=0,gcEnabled:=true,old:=[],middle:=[],young:=0,intoMiddle:=false }
abbrev an:Option Value:=(some (.ref 6))
abbrev sT(t:BT)(n k:Nat)(os:OsState):SharedT:=⟨t,n,li,⟨[]⟩,boot_drawn,k,os⟩
abbrev sR(w:World)(n:Nat)(S S':World->OsState->SharedT)(l:List Stmt)(p p':Pos):Prop:=(λos=>segRunT treeTable pw w 11 an 1 n (S w os) (piecesOf l en cE p B))=λos=>some (.next,S' w os,cE,p')
def tp:Nat->Nat->List Stmt
 |0,_=>[]
 |n+1,i=>My.top i::tp n (i+1)
abbrev W6:Str×Nat:=("__main__", 164)
abbrev Jf:Str×Nat:=("joinload.bits", 194)
abbrev iV:Str×Nat:=("joinload.errors", 231)
abbrev yO:Str×Nat:=("joinload.names", 495)
abbrev gR:Str×Nat:=("joinload.rules", 571)
abbrev md5:Str×Nat:=("joinload.pieces", 860)
abbrev yb:Str×Nat:=("joinload.shelves", 874)
abbrev vJ:Str×Nat:=("joinload.values", 969)
abbrev ql:Str×Nat:=("joinload.named", 1049)
abbrev eS:Str×Nat:=("law_joinload_k66_not_made_by_names", 1225)
abbrev O5:List Value:=[.type "ValueError",.type "Exception",.type "BaseException",.type "object"]
abbrev p_:List Value:=[.ref 59,.type "ValueError",.type "Exception",.type "BaseException",.type "object"]
abbrev Bz:List Value:=[.type "object"]
abbrev Gq:List Value:=[.ref 333,.type "object"]
def ha(P:Params):List Obj:=boot_o_0 P::boot_o_1 P::boot_o_2 P::boot_o_3 P::boot_o_4 P::boot_o_5 P::boot_o_6 P::boot_o_7 P::boot_o_8 P::boot_o_9 P::boot_o_10 P::e1::e2::co "<module>" "<module>" 182 1 0 0 11 false 12 .none 185::fm 13 3 (.str "__main__" 164)::[]
def Ha(P:Params):Heap:=⟨⟨ha P⟩,li⟩
def S0(w:World)(os:OsState):Shared:=⟨boot_heap w.params,⟨[]⟩,boot_drawn,boot_toks,os⟩
def Sa(w:World)(os:OsState):Shared:=⟨Ha w.params,⟨[]⟩,boot_drawn,187,os⟩
def Pre(w:World):Prop:=(λos=>topGo treeTable pw w 11 an 12 (S0 w os) (topStub pw))=λos=>some (Sa w os,⟨denote treeTable cE,cE,⟨0,0,0,0⟩,B⟩)
def T0(P:Params):BT:=mg 14 .nil (ix 0 (ha P))
def U6(w:World):OsState->SharedT:=sT (T0 w.params) 15 187
def Xl(w:World):Prop:=(λos=>segRun treeTable pw w 11 an 1 1 (Sa w os) (blockOf bd en cE ⟨0,0,0,0⟩ B))=λos=>some (.next,(U6 w os).abs,cE,⟨0,0,0,0⟩)
def b3(P:Params):List DictEntry:=[k P "__doc__" 166 .none,k P "__package__" 167 .none,k P "__loader__" 168 (.builtin "__main__.__loader__#opaque"),k P "__spec__" 169 .none,k P "__annotations__" 170 (.ref 6),k P "__builtins__" 171 (.ref 4),k P "__file__" 173 (.str "/claim/cut.py" 172),k P "__cached__" 174 .none]
abbrev dm(P:Params)(v:Str×Nat)(l:List DictEntry)(n:Nat):Obj:=di (k P "__name__" 165 (.str v.1 v.2)::(b3 P++l)) n
def I1(P:Params):List It:=fi P 0 W6 15 187::(id,[k P "WORD_COUNT" 197 (.int 4294967296 196)],[])::fi P 3 Jf 22 198::fi P 4 Jf 29 205::fi P 5 Jf 36 216::fi P 6 Jf 43 223::ci P 8 1 (.type "ValueError") O5 [.ref 72,.ref 91,.ref 110,.ref 129,.ref 148,.ref 167,.ref 186,.ref 205,.ref 224,.ref 236] "ValueError.__new__" iV 50 233 57 245::ci P 9 0 (.ref 59) p_ [] "ValueError.__new__" iV 63 251 70 263::ci P 10 0 (.ref 59) p_ [] "ValueError.__new__" iV 75 267 89 288::[]
def E1(P:Params):List DictEntry:=he (I1 P)
def V1(P:Params):List Value:=ht (I1 P)
def T1(P:Params):BT:=mg 14 (T0 P) ((3,dm P iV (E1 P) 18)::(12,nf (V1 P).toArray)::(59,cc "JoinError" (.type "ValueError") 59 O5 58 [.ref 72,.ref 91] (some (.ref 50)) 233 241 "ValueError.__new__")::ix 15 (ho (I1 P) []))
def Xo(w:World):OsState->SharedT:=sT (T1 w.params) 94 292
def L0:List Stmt:=tp 11 0
def P0(w:World):Prop:=sR w 822 U6 Xo L0 ⟨0,0,0,0⟩ ⟨22,0,26,22⟩
def I2(P:Params):List It:=ci P 11 0 (.ref 59) p_ [] "ValueError.__new__" iV 94 292 108 317::ci P 12 0 (.ref 59) p_ [] "ValueError.__new__" iV 113 321 127 342::ci P 13 0 (.ref 59) p_ [] "ValueError.__new__" iV 132 346 146 369::[]
def E2(P:Params):List DictEntry:=E1 P++he (I2 P)
def V2(P:Params):List Value:=V1 P++ht (I2 P)
def T2(P:Params):BT:=mg 14 (T1 P) ((3,dm P iV (E2 P) 21)::(12,nf (V2 P).toArray)::(59,cc "JoinError" (.type "ValueError") 59 O5 58 [.ref 72,.ref 91,.ref 110,.ref 129,.ref 148] (some (.ref 50)) 233 241 "ValueError.__new__")::ix 94 (ho (I2 P) []))
def WO(w:World):OsState->SharedT:=sT (T2 w.params) 151 373
def L1:List Stmt:=tp 3 11
def P1(w:World):Prop:=sR w 742 Xo WO L1 ⟨22,0,26,22⟩ ⟨39,0,44,26⟩
def I3(P:Params):List It:=ci P 14 0 (.ref 59) p_ [] "ValueError.__new__" iV 151 373 165 400::ci P 15 0 (.ref 59) p_ [] "ValueError.__new__" iV 170 404 184 425::ci P 16 0 (.ref 59) p_ [] "ValueError.__new__" iV 189 429 203 450::[]
def E3(P:Params):List DictEntry:=E2 P++he (I3 P)
def V3(P:Params):List Value:=V2 P++ht (I3 P)
def T3(P:Params):BT:=mg 14 (T2 P) ((3,dm P iV (E3 P) 24)::(12,nf (V3 P).toArray)::(59,cc "JoinError" (.type "ValueError") 59 O5 58 [.ref 72,.ref 91,.ref 110,.ref 129,.ref 148,.ref 167,.ref 186,.ref 205] (some (.ref 50)) 233 241 "ValueError.__new__")::ix 151 (ho (I3 P) []))
def Wu(w:World):OsState->SharedT:=sT (T3 w.params) 208 454
def L2:List Stmt:=tp 3 14
def P2(w:World):Prop:=sR w 742 WO Wu L2 ⟨39,0,44,26⟩ ⟨58,0,62,24⟩
def I4(P:Params):List It:=ci P 17 0 (.ref 59) p_ [] "ValueError.__new__" iV 208 454 222 475::ci P 18 0 (.ref 59) p_ [] "ValueError.__new__" iV 227 479 234 491::fi P 20 yO 239 497::fi P 21 yO 244 503::fi P 22 yO 251 521::fi P 23 yO 258 532::fi P 24 yO 263 538::fi P 25 yO 268 544::fi P 26 yO 275 558::fi P 28 gR 282 573::[]
def E4(P:Params):List DictEntry:=E3 P++he (I4 P)
def V4(P:Params):List Value:=V3 P++ht (I4 P)
def T4(P:Params):BT:=mg 14 (T3 P) ((3,dm P gR (E4 P) 34)::(12,nf (V4 P).toArray)::(59,cc "JoinError" (.type "ValueError") 59 O5 58 [.ref 72,.ref 91,.ref 110,.ref 129,.ref 148,.ref 167,.ref 186,.ref 205,.ref 224,.ref 236] (some (.ref 50)) 233 241 "ValueError.__new__")::ix 208 (ho (I4 P) []))
def Xg(w:World):OsState->SharedT:=sT (T4 w.params) 289 580
def L3:List Stmt:=tp 12 17
def P3(w:World):Prop:=sR w 728 Wu Xg L3 ⟨58,0,62,24⟩ ⟨118,0,129,48⟩
def I5(P:Params):List It:=ci P 29 2 'D' Bz [.ref 361,.ref 387,.ref 413,.ref 453,.ref 493] "object.__new__" gR 289 580 331 636::ci P 30 0 (.ref 333) Gq [] "object.__new__" gR 338 644 359 675::[]
def E5(P:Params):List DictEntry:=E4 P++he (I5 P)
def V5(P:Params):List Value:=V4 P++ht (I5 P)
def T5(P:Params):BT:=mg 14 (T4 P) ((3,dm P gR (E5 P) 36)::(12,nf (V5 P).toArray)::(333,cc "Rule" 'D' 333 Bz 332 [.ref 361] none 580 588 "object.__new__")::ix 289 (ho (I5 P) []))
def W8(w:World):OsState->SharedT:=sT (T5 w.params) 364 679
def L4:List Stmt:=tp 2 29
def P4(w:World):Prop:=sR w 633 Xg W8 L4 ⟨118,0,129,48⟩ ⟨146,0,152,16⟩
def I6(P:Params):List It:=ci P 31 0 (.ref 333) Gq [] "object.__new__" gR 364 679 385 710::ci P 32 0 (.ref 333) Gq [] "object.__new__" gR 390 714 411 745::[]
def E6(P:Params):List DictEntry:=E5 P++he (I6 P)
def V6(P:Params):List Value:=V5 P++ht (I6 P)
def T6(P:Params):BT:=mg 14 (T5 P) ((3,dm P gR (E6 P) 38)::(12,nf (V6 P).toArray)::(333,cc "Rule" 'D' 333 Bz 332 [.ref 361,.ref 387,.ref 413] none 580 588 "object.__new__")::ix 364 (ho (I6 P) []))
def Xh(w:World):OsState->SharedT:=sT (T6 w.params) 416 749
def L5:List Stmt:=tp 2 31
def P5(w:World):Prop:=sR w 559 W8 Xh L5 ⟨146,0,152,16⟩ ⟨160,0,166,16⟩
def I7(P:Params):List It:=ci P 33 0 (.ref 333) Gq [] "object.__new__" gR 416 749 451 796::ci P 34 0 (.ref 333) Gq [] "object.__new__" gR 456 800 491 848::fi P 35 gR 496 852::fi P 37 md5 503 862::fi P 38 md5 508 868::fi P 40 yb 513 876::[]
def E7(P:Params):List DictEntry:=E6 P++he (I7 P)
def V7(P:Params):List Value:=V6 P++ht (I7 P)
def T7(P:Params):BT:=mg 14 (T6 P) ((3,dm P yb (E7 P) 44)::(12,nf (V7 P).toArray)::(333,cc "Rule" 'D' 333 Bz 332 [.ref 361,.ref 387,.ref 413,.ref 453,.ref 493] none 580 588 "object.__new__")::ix 416 (ho (I7 P) []))
def Wz(w:World):OsState->SharedT:=sT (T7 w.params) 518 882
def L6:List Stmt:=tp 8 33
def P6(w:World):Prop:=sR w 814 Xh Wz L6 ⟨160,0,166,16⟩ ⟨204,0,207,53⟩
def I8(P:Params):List It:=ci P 41 2 'D' Bz [] "object.__new__" yb 518 882 546 932::fi P 42 yb 553 940::fi P 43 yb 560 949::fi P 44 yb 567 959::ci P 46 2 'D' Bz [] "object.__new__" vJ 574 971 588 996::fi P 47 vJ 595 1004::fi P 48 vJ 602 1011::fi P 49 vJ 609 1018::fi P 50 vJ 616 1025::fi P 51 vJ 623 1032::fi P 52 vJ 630 1040::[]
def E8(P:Params):List DictEntry:=E7 P++he (I8 P)
def V8(P:Params):List Value:=V7 P++ht (I8 P)
def T8(P:Params):BT:=mg 14 (T7 P) ((3,dm P ql (E8 P) 55)::(12,nf (V8 P).toArray)::ix 518 (ho (I8 P) []))
def WR(w:World):OsState->SharedT:=sT (T8 w.params) 637 1051
def L7:List Stmt:=tp 13 41
def P7(w:World):Prop:=sR w 816 Wz WR L7 ⟨204,0,207,53⟩ ⟨287,0,287,8⟩
def I9(P:Params):List It:=ci P 54 2 'D' Bz [] "object.__new__" ql 637 1051 757 1217::fi P 56 eS 764 1227::fi P 57 eS 771 1235::fi P 58 eS 778 1250::fi P 59 eS 785 1263::[]
def E9(P:Params):List DictEntry:=E8 P++he (I9 P)
def V9(P:Params):List Value:=V8 P++ht (I9 P)
def T9(P:Params):BT:=mg 14 (T8 P) ((3,dm P eS (E9 P) 60)::(12,nf (V9 P).toArray)::ix 637 (ho (I9 P) []))
def WK(w:World):OsState->SharedT:=sT (T9 w.params) 790 1269
def L8:List Stmt:=tp 6 54
def P8(w:World):Prop:=sR w 883 WR WK L8 ⟨287,0,287,8⟩ ⟨393,0,402,99⟩
def OZ(P:Params):List It:=fi P 60 eS 790 1269::fi P 61 eS 797 1285::fi P 62 eS 802 1291::fi P 63 eS 809 1302::fi P 64 eS 816 1314::fi P 65 eS 821 1320::fi P 66 eS 826 1326::fi P 67 eS 833 1336::fi P 68 eS 838 1342::fi P 69 eS 843 1348::fi P 70 eS 850 1359::fi P 71 eS 857 1371::fi P 72 eS 864 1379::fi P 73 eS 871 1386::fi P 74 eS 878 1396::fi P 75 eS 885 1411::fi P 76 eS 890 1417::fi P 77 eS 895 1423::[]
def V_(P:Params):List DictEntry:=E9 P++he (OZ P)
def W9(P:Params):List Value:=V9 P++ht (OZ P)
def Ys(P:Params):BT:=mg 14 (T9 P) ((3,dm P eS (V_ P) 78)::(12,nf (W9 P).toArray)::ix 790 (ho (OZ P) []))
def QN(w:World):OsState->SharedT:=sT (Ys w.params) 900 1429
def L9:List Stmt:=tp 18 60
def P9(w:World):Prop:=sR w 541 WK QN L9 ⟨393,0,402,99⟩ ⟨556,0,570,81⟩
def hl(P:Params):List Obj:=boot_o_0 P::boot_o_1 P::boot_o_2 P::dm P eS (V_ P) 78::boot_o_4 P::boot_o_5 P::boot_o_6 P::boot_o_7 P::boot_o_8 P::boot_o_9 P::boot_o_10 P::e1::nf (W9 P).toArray::co "<module>" "<module>" 182 1 0 0 11 false 12 .none 185::fm 13 3 (.str "__main__" 164)::ho (I1 P) (ho (I2 P) (ho (I3 P) (ho (I4 P) (ho (I5 P) (ho (I6 P) (ho (I7 P) (ho (I8 P) (ho (I9 P) (ho (OZ P) ([]))))))))))
def Hf(P:Params):Heap:=⟨⟨hl P⟩,li⟩
def Sf(w:World)(os:OsState):Shared:=⟨Hf w.params,⟨[]⟩,boot_drawn,1429,os⟩
def Fin(w:World):Prop:=(λos=>topRun treeTable pw w 11 an 2 (QN w os).abs ⟨doneF .next,cE,⟨556,0,570,81⟩,B⟩)=λos=>some (Sf w os)
def q:Program:={ pw with main:={ pw.main with body:=tp 1 0++tp 5 2++tp 11 8++tp 7 20++tp 8 28++tp 2 37++tp 5 40++tp 7 46++tp 1 54++tp 22 56 } }
section
local macro_rules | `(term| $n:num) => `(nat_lit $n)
def K(P:Params):Frag:=(2,boot_o_2 P)::(3,dm P eS (V_ P) 78)::(4,boot_o_4 P)::(20,y1 0 15 187)::(21,w1 0 W6 21)::(27,y1 3 22 198)::(28,w1 3 Jf 28)::(34,y1 4 29 205)::(35,w1 4 Jf 35)::(41,y1 5 36 216)::(42,w1 5 Jf 42)::(48,y1 6 43 223)::(49,w1 6 Jf 49)::(58,cd P 8 1 iV 50 233 57 245)::(59,cc "JoinError" (.type "ValueError") 59 O5 58 [.ref 72,.ref 91,.ref 110,.ref 129,.ref 148,.ref 167,.ref 186,.ref 205,.ref 224,.ref 236] (some (.ref 50)) 233 241 "ValueError.__new__")::(71,cd P 9 0 iV 63 251 70 263)::(72,cc "NoRule" (.ref 59) 72 p_ 71 [] (some (.ref 63)) 251 259 "ValueError.__new__")::(87,y2 10 0 82 279)::(88,w2 10 0 iV 88)::(90,cd P 10 0 iV 75 267 89 288)::(91,cc "NoPiece" (.ref 59) 91 p_ 90 [] (some (.ref 75)) 267 275 "ValueError.__new__")::(106,y2 11 0 101 304)::(107,w2 11 0 iV 107)::(109,cd P 11 0 iV 94 292 108 317)::(110,cc "Twice" (.ref 59) 110 p_ 109 [] (some (.ref 94)) 292 300 "ValueError.__new__")::(125,y2 12 0 120 333)::(126,w2 12 0 iV 126)::(128,cd P 12 0 iV 113 321 127 342)::(129,cc "SameName" (.ref 59) 129 p_ 128 [] (some (.ref 113)) 321 329 "ValueError.__new__")::(144,y2 13 0 139 358)::(145,w2 13 0 iV 145)::(147,cd P 13 0 iV 132 346 146 369)::(148,cc "Unmet" (.ref 59) 148 p_ 147 [] (some (.ref 132)) 346 354 "ValueError.__new__")::(163,y2 14 0 158 385)::(164,w2 14 0 iV 164)::(166,cd P 14 0 iV 151 373 165 400)::(167,cc "TooFar" (.ref 59) 167 p_ 166 [] (some (.ref 151)) 373 381 "ValueError.__new__")::(182,y2 15 0 177 416)::(183,w2 15 0 iV 183)::(185,cd P 15 0 iV 170 404 184 425)::(186,cc "NoWhole" (.ref 59) 186 p_ 185 [] (some (.ref 170)) 404 412 "ValueError.__new__")::(201,y2 16 0 196 441)::(202,w2 16 0 iV 202)::(204,cd P 16 0 iV 189 429 203 450)::(205,cc "NoBase" (.ref 59) 205 p_ 204 [] (some (.ref 189)) 429 437 "ValueError.__new__")::(220,y2 17 0 215 466)::(221,w2 17 0 iV 221)::(223,cd P 17 0 iV 208 454 222 475)::(224,cc "Lost" (.ref 59) 224 p_ 223 [] (some (.ref 208)) 454 462 "ValueError.__new__")::(235,cd P 18 0 iV 227 479 234 491)::(236,cc "NoSense" (.ref 59) 236 p_ 235 [] (some (.ref 227)) 479 487 "ValueError.__new__")::(242,y1 20 239 497)::(243,w1 20 yO 243)::(249,y1 21 244 503)::(250,w1 21 yO 250)::(256,y1 22 251 521)::(257,w1 22 yO 257)::(261,y1 23 258 532)::(262,w1 23 yO 262)::(266,y1 24 263 538)::(267,w1 24 yO 267)::(273,y1 25 268 544)::(274,w1 25 yO 274)::(280,y1 26 275 558)::(281,w1 26 yO 281)::(287,y1 28 282 573)::(288,w1 28 gR 288)::(301,y2 29 0 296 592)::(302,w2 29 0 gR 302)::(308,y2 29 1 303 600)::(309,w2 29 1 gR 309)::(315,y2 29 2 310 609)::(316,w2 29 2 gR 316)::(322,y2 29 3 317 619)::(323,w2 29 3 gR 323)::(329,y2 29 4 324 628)::(330,w2 29 4 gR 330)::(332,cd P 29 2 gR 289 580 331 636)::(333,cc "Rule" 'D' 333 Bz 332 [.ref 361,.ref 387,.ref 413,.ref 453,.ref 493] none 580 588 "object.__new__")::(350,y2 30 0 345 656)::(351,w2 30 0 gR 351)::(357,y2 30 1 352 666)::(358,w2 30 1 gR 358)::(360,cd P 30 0 gR 338 644 359 675)::(361,cc "Whole" (.ref 333) 361 Gq 360 [] (some (.ref 338)) 644 652 "object.__new__")::(376,y2 31 0 371 691)::(377,w2 31 0 gR 377)::(383,y2 31 1 378 701)::(384,w2 31 1 gR 384)::(386,cd P 31 0 gR 364 679 385 710)::(387,cc "High" (.ref 333) 387 Gq 386 [] (some (.ref 364)) 679 687 "object.__new__")::(402,y2 32 0 397 726)::(403,w2 32 0 gR 403)::(409,y2 32 1 404 736)::(410,w2 32 1 gR 410)::(412,cd P 32 0 gR 390 714 411 745)::(413,cc "Low" (.ref 333) 413 Gq 412 [] (some (.ref 390)) 714 722 "object.__new__")::(428,y2 33 0 423 761)::(429,w2 33 0 gR 429)::(435,y2 33 1 430 770)::(436,w2 33 1 gR 436)::(442,y2 33 2 437 780)::(443,w2 33 2 gR 443)::(449,y2 33 3 444 789)::(450,w2 33 3 gR 450)::(452,cd P 33 0 gR 416 749 451 796)::(453,cc "Near" (.ref 333) 453 Gq 452 [] (some (.ref 416)) 749 757 "object.__new__")::(468,y2 34 0 463 812)::(469,w2 34 0 gR 469)::(475,y2 34 1 470 821)::(476,w2 34 1 gR 476)::(482,y2 34 2 477 832)::(483,w2 34 2 gR 483)::(489,y2 34 3 484 841)::(490,w2 34 3 gR 490)::(492,cd P 34 0 gR 456 800 491 848)::(493,cc "Split" (.ref 333) 493 Gq 492 [] (some (.ref 456)) 800 808 "object.__new__")::(501,y1 35 496 852)::(502,w1 35 gR 502)::(506,y1 37 503 862)::(507,w1 37 md5 507)::(511,y1 38 508 868)::(512,w1 38 md5 512)::(516,y1 40 513 876)::(517,w1 40 yb 517)::(530,y2 41 0 525 894)::(531,w2 41 0 yb 531)::(537,y2 41 1 532 906)::(538,w2 41 1 yb 538)::(544,y2 41 2 539 916)::(545,w2 41 2 yb 545)::(547,cd P 41 2 yb 518 882 546 932)::(548,cc "Taking" 'D' 548 Bz 547 [] none 882 890 "object.__new__")::(558,y1 42 553 940)::(559,w1 42 yb 559)::(565,y1 43 560 949)::(566,w1 43 yb 566)::(572,y1 44 567 959)::(573,w1 44 yb 573)::(586,y2 46 0 581 983)::(587,w2 46 0 vJ 587)::(589,cd P 46 2 vJ 574 971 588 996)::(590,cc "WithFill" 'D' 590 Bz 589 [] none 971 979 "object.__new__")::(600,y1 47 595 1004)::(601,w1 47 vJ 601)::(607,y1 48 602 1011)::(608,w1 48 vJ 608)::(614,y1 49 609 1018)::(615,w1 49 vJ 615)::(621,y1 50 616 1025)::(622,w1 50 vJ 622)::(628,y1 51 623 1032)::(629,w1 51 vJ 629)::(635,y1 52 630 1040)::(636,w1 52 vJ 636)::(647,y2 54 0 644 1063)::(648,w2 54 0 ql 648)::(654,y2 54 1 649 1069)::(655,w2 54 1 ql 655)::(661,y2 54 2 656 1086)::(662,w2 54 2 ql 662)::(666,y2 54 3 663 1093)::(667,w2 54 3 ql 667)::(673,y2 54 4 668 1099)::(674,w2 54 4 ql 674)::(680,y2 54 5 675 1109)::(681,w2 54 5 ql 681)::(687,y2 54 6 682 1117)::(688,w2 54 6 ql 688)::(694,y2 54 7 689 1125)::(695,w2 54 7 ql 695)::(701,y2 54 8 696 1133)::(702,w2 54 8 ql 702)::(708,y2 54 9 703 1140)::(709,w2 54 9 ql 709)::(715,y2 54 10 710 1149)::(716,w2 54 10 ql 716)::(722,y2 54 11 717 1158)::(723,w2 54 11 ql 723)::(729,y2 54 12 724 1167)::(730,w2 54 12 ql 730)::(736,y2 54 13 731 1177)::(737,w2 54 13 ql 737)::(743,y2 54 14 738 1185)::(744,w2 54 14 ql 744)::(748,y2 54 15 745 1195)::(749,w2 54 15 ql 749)::(755,y2 54 16 750 1201)::(756,w2 54 16 ql 756)::(758,cd P 54 2 ql 637 1051 757 1217)::(759,cc "Named" 'D' 759 Bz 758 [] none 1051 1059 "object.__new__")::(769,y1 56 764 1227)::(770,w1 56 eS 770)::(776,y1 57 771 1235)::(777,w1 57 eS 777)::(783,y1 58 778 1250)::(784,w1 58 eS 784)::(788,y1 59 785 1263)::(789,w1 59 eS 789)::(795,y1 60 790 1269)::(796,w1 60 eS 796)::(800,y1 61 797 1285)::(801,w1 61 eS 801)::(807,y1 62 802 1291)::(808,w1 62 eS 808)::(814,y1 63 809 1302)::(815,w1 63 eS 815)::(819,y1 64 816 1314)::(820,w1 64 eS 820)::(824,y1 65 821 1320)::(825,w1 65 eS 825)::(831,y1 66 826 1326)::(832,w1 66 eS 832)::(836,y1 67 833 1336)::(837,w1 67 eS 837)::(841,y1 68 838 1342)::(842,w1 68 eS 842)::(848,y1 69 843 1348)::(849,w1 69 eS 849)::(855,y1 70 850 1359)::(856,w1 70 eS 856)::(862,y1 71 857 1371)::(863,w1 71 eS 863)::(869,y1 72 864 1379)::(870,w1 72 eS 870)::(876,y1 73 871 1386)::(877,w1 73 eS 877)::(883,y1 74 878 1396)::(884,w1 74 eS 884)::(888,y1 75 885 1411)::(889,w1 75 eS 889)::(893,y1 76 890 1417)::(894,w1 76 eS 894)::(898,y1 77 895 1423)::(899,w1 77 eS 899)::[]
end
def as:List Addr:=(K { strHash:=λ_=>0,shareClass:=λ_=>0,mergeTok:=id,idOf:=λ_=>0,idOfShared:=λ_ _=>0,followText:=λ_=>true,idOfImm:=λ_=>0 }).map (·.1)
def H:Hook:=kHook K as (λ_=>by kernel_rfl)
abbrev R:WRecords:=RowW.records (OpenRow.toRowW (OpenLaw.row PySem.Challenge.rw_joinload_k66_not_made_by_names))
abbrev Xt(s:Shared):Bool:=xlAt q [] s&&recOk R s
def Rg(w:World):Prop:=((boot_heap w.params).isNs mainGlobals&&(⟨[]⟩:Array GenState).size == 0,(boot_heap w.params).objs.size,(boot_heap w.params).nsMap mainGlobals "__annotations__")=(true,11,an)
def LA(w:World):Prop:=(λos=>staticsOk (importedModules pw.main.body) (boot_heap w.params) (Hf w.params)&&namesBound pw (Hf w.params)&&gensDone (Sf w os)&&laidKept (boot_heap w.params) (Hf w.params))=λ_=>true
def Wy(w:World):Prop:=(λos=>seen ((recsOf q).map (·.name)) (ownsOf q) [] { Sf w os with gens:=#[] })=λ_=>expectedOf q
def Wm(w:World):Prop:=(λos=>(Sf w os).heap.bltView)=λ_=>bltViewBooted
def WD(w:World):Prop:=(λos=>(Sf w os).heap.keysOk (looseW q []) ((recsOf q).map (·.name)) ((litsOf q).map (·.1)) ((clssOf q (looseW q [])).map (·.name))&&(Sf w os).heap.accountedOkI (importedModules pw.main.body)&&(Sf w os).heap.isNs mainGlobals&&(Sf w os).heap.isNs builtinsNs&&tablesOk q (Sf w os).heap&&Xt (Sf w os)&&(if true then (Sf w os).gens.size == 0 else !leftWithCleanup (Sf w os).gens))=λ_=>true
def WZ(w:World):Prop:=(λos=>tabsOk q (Sf w os))=λ_=>true
def Wq(w:World):Prop:=(λos=>pinSeenD q (drecsOf q) (Sf w os))=λ_=>pinGoodD (drecsOf q)
def W_(w:World):Prop:=(λos=>plainSeenE q (looseW q []) (Sf w os))=λ_=>plainGoodE q (looseW q [])
def WM(w:World):Prop:=(λos=>plainSeenD q [] (Sf w os))=λ_=>plainGoodD q []
def WL(w:World):Prop:=(λos=>wideSeen q (Sf w os))=λ_=>wideGood q
def Wx(w:World):Prop:=(λos=>clsSeenW q [] (Sf w os))=λ_=>clsGoodW q []
def Yk(w:World):Prop:=(λos=>as.map (Sf w os).heap.get?)=λ_=>(K w.params).map λp=>some p.2
def PF(w:World):Pre w:=by
 delta Pre
 kernel_rfl
def Qd(w:World):Xl w:=by
 delta Xl
 kernel_rfl
def Wg(w:World):P0 w:=by
 delta P0
 kernel_rfl
def Wk(w:World):P1 w:=by
 delta P1
 kernel_rfl
def VM(w:World):P2 w:=by
 delta P2
 kernel_rfl
def US(w:World):P3 w:=by
 delta P3
 kernel_rfl
def VN(w:World):P4 w:=by
 delta P4
 kernel_rfl
def VL(w:World):P5 w:=by
 delta P5
 kernel_rfl
def Vz(w:World):P6 w:=by
 delta P6
 kernel_rfl
def VC(w:World):P7 w:=by
 delta P7
 kernel_rfl
def Ud(w:World):P8 w:=by
 delta P8
 kernel_rfl
def TR(w:World):P9 w:=by
 delta P9
 kernel_rfl
def Qv(w:World):Fin w:=by
 delta Fin
 kernel_rfl
def Mz(w:World):Rg w:=by
 delta Rg
 kernel_rfl
def VQ(w:World):LA w:=by
 delta LA
 kernel_rfl
def RI(w:World):Wy w:=by
 delta Wy
 kernel_rfl
def Ra(w:World):Wm w:=by
 delta Wm
 kernel_rfl
def QD(w:World):WD w:=by
 delta WD
 kernel_rfl
def Ql(w:World):WZ w:=by
 delta WZ
 kernel_rfl
def Qu(w:World):Wq w:=by
 delta Wq
 kernel_rfl
def Qk(w:World):W_ w:=by
 delta W_
 kernel_rfl
def Q0(w:World):WM w:=by
 delta WM
 kernel_rfl
def SK(w:World):WL w:=by
 delta WL
 kernel_rfl
def QP(w:World):Wx w:=by
 delta Wx
 kernel_rfl
def VX(w:World):Yk w:=by
 delta Yk
 kernel_rfl
def R9:List Stmt:=L9++[]
def R8:List Stmt:=L8++R9
def R7:List Stmt:=L7++R8
def R6:List Stmt:=L6++R7
def R5:List Stmt:=L5++R6
def R4:List Stmt:=L4++R5
def R3:List Stmt:=L3++R4
def R2:List Stmt:=L2++R3
def R1:List Stmt:=L1++R2
def R0:List Stmt:=L0++R1
def QI:bd=R0:=by kernel_rfl
theorem Oa(w:World)(os:OsState):topRun treeTable pw w 11 an (822+(742+(742+(728+(633+(559+(814+(816+(883+(541+2)))))))))) (U6 w os).abs (restOf R0 en cE ⟨0,0,0,0⟩ B)=some (Sf w os):=
 (piece_app (l:=L0) (segRun_of (congrFun (Wg w) os)) (piece_app (l:=L1) (segRun_of (congrFun (Wk w) os)) (piece_app (l:=L2) (segRun_of (congrFun (VM w) os)) (piece_app (l:=L3) (segRun_of (congrFun (US w) os)) (piece_app (l:=L4) (segRun_of (congrFun (VN w) os)) (piece_app (l:=L5) (segRun_of (congrFun (VL w) os)) (piece_app (l:=L6) (segRun_of (congrFun (Vz w) os)) (piece_app (l:=L7) (segRun_of (congrFun (VC w) os)) (piece_app (l:=L8) (segRun_of (congrFun (Ud w) os)) (piece_app (l:=L9) (segRun_of (congrFun (TR w) os)) (congrFun (Qv w) os)))))))))))
theorem PU(w:World)(os:OsState):topRun treeTable pw w 11 an (12+(1+(822+(742+(742+(728+(633+(559+(814+(816+(883+(541+2)))))))))))) (S0 w os) (topStub pw)=some (Sf w os):=
 go_top (congrFun (PF w) os) (piece_block (congrFun (Qd w) os) (by
  rw[show restOf bd en cE ⟨0,0,0,0⟩ B=restOf R0 en cE ⟨0,0,0,0⟩ B from congrArg (λl=>restOf l en cE ⟨0,0,0,0⟩ B) QI]
  exact Oa w os))
theorem Mp:LeftO pw q [] Xt (Hook.obs H) (Hook.val H) 14666:=
 LeftO.of_pieces (H₀:=boot_heap) (H₁:=Hf) (m₀:=11) (ann:=an) (boot_open rfl rfl (λ_=>rfl)) Mz PU 'e' λw=>funext λos=>
  looks_pair (congrFun (VQ w) os) (looks_pair
   (show openSeen q [] (importedModules pw.main.body) Xt true (Sf w os)=openGood q [] from
    looks_pair (congrFun (RI w) os) (looks_pair (congrFun (Ra w) os) (looks_pair (congrFun (QD w) os) (looks_pair (congrFun (Ql w) os) (looks_pair (congrFun (Qu w) os) (looks_pair (congrFun (Qk w) os) (looks_pair (congrFun (Q0 w) os) (looks_pair (congrFun (SK w) os) (congrFun (QP w) os)))))))))
   (congrFun (VX w) os))
end Hd
open PySem PySem.W PyProof.Rows
set_option maxRecDepth 100000 in
set_option maxHeartbeats 0 in
theorem PySem.Challenge.cw_joinload_k66_not_made_by_names_holds : PySem.Challenge.rw_joinload_k66_not_made_by_names.Holds := by
 w_on;refine holds_law Ws.X1 λsaid=>?_
 refine holds_open (q:=Hd.q) (loose:=[]) (Xt:=Hd.Xt) (XP:=XL Hd.q []) (Yf:=Hook.obs Hd.H) (Ya:=Hook.val Hd.H) (YP:=InK Hd.K) Hd.Mp (Hook.of Hd.H) (Hook.keeps Hd.H) (λs e=>xl_of s (Bool.and_eq_true_iff.mp e).1) XL.keeps (by rfl) (by rfl) (by rfl) (λs e=>recFacts_of (Bool.and_eq_true_iff.mp e).2) (by rfl) (by first|assumption|decide +kernel) 'e' ⟨rfl,rfl,rfl,rfl,rfl,by decide +kernel⟩ ?hw ?hc
 (case hw=>w_witness2)
 k_fill
 refine My.walk (l:=PySem.Challenge.rw_joinload_k66_not_made_by_names) (K:=Hd.K) (bB:=252) (aZ:=514) rfl rfl (by decide) (λw h Y=>Y) ?hT ?F
 case hT=>
  intro w h lo mean mg mb KX TP T hT
  simp only[List.mem_cons,List.not_mem_nil,or_false]at hT
  rcases hT with rfl|rfl
  ·refine' L2.BP (x := "names_of") (y := "names_of") (st:=My.Ep) (T:=252) KX TP (by kernel_rfl) _ _ _
   all_goals first|exact⟨_,_,_,_,_,_,_,_,_,by k_is,by k_is,by k_is,by kernel_rfl⟩|k_is|kernel_rfl|skip
  ·refine' L2.BP (x := "taken") (y := "taken") (st:=My.qM) (T:=514) KX TP (by kernel_rfl) _ _ _
   all_goals first|exact⟨_,_,_,_,_,_,_,_,_,by k_is,by k_is,by k_is,by kernel_rfl⟩|k_is|kernel_rfl|skip
 case F=>
  intro w mg fa h KX G hmg
  refine' My.Mx (bB:=252) (aZ:=514) hmg ⟨_,_,_,_,_,_,_,_,_,_,_,_,_,_,_,_,_,_,_,_,_,_,_,_,_,_,_,_,_,_,_,_,_,_,_,_,_,_,_,_,_,_,_,_,_,_,_,_,_,_,_,_,_,_,_,_,_,_,_,_,_,_,_,_,_,_,_,_,_,_,_,_,_,_,_,_,_,_,_,_,_,_,_,_,_,_,_,_,_,_,_,_,_,_,_,_,_,_,_,_,_,_,_,_,_,_,_,_,_,_,_,_,_,_,_,_,_,_,_,_,_,_,_,_,_,_,_,_,_,_,_,_,_,_,_,_,_,_,_,_,_,_,_,_,_,_,_,_,_,_,_,_,_,_,_,_,_,_,_,_,_,_,_,_,_,_,_,_,_,_,_,_,_,_,_,_,_,_,_,_,_,_,_,_,_,_,_,_,_,_,_,_,_,_,_,_,_,_,_,_,_,_,_,_,_,_,_,_,_,_,_,_,_,_,_,_,_,_,_,_,_,_,_,_,_,_,_,_,_,_,_,_,_,_,_,_,_,_,_,_,_,_,_,_,_,_,_,_,_,_,_,_,_,_,_,_,_,_,_,_,_,_,_,_,_,_,_,_,_,_,_,_,_⟩ (λ_ _=>_)
  all_goals try dsimp only
  all_goals first|exact PySem.W.mg_of KX G (by k_is)|exact PySem.W.mg_none_of KX G (by k_is)|k_is|(refine My.QV (by k_is) (by k_is) (by k_is) ?_;intro _ _ _ _ _ _ us hl;first|exact My.UZ us hl λ_=>rfl|exact My.U3 us hl λ_ _=>rfl|exact My.VT us hl λ_ _ _=>rfl|exact My.VJ us hl λ_ _ _ _=>rfl|exact My.Uv us hl λ_ _ _ _ _=>rfl|exact My.Um us hl λ_ _ _ _ _ _=>rfl)|exact⟨by k_is,by k_is,by k_is,by k_is⟩|exact⟨by k_is,by k_is,by k_is⟩|kernel_rfl|kit_is|k_exc|exact⟨by kernel_rfl,by kernel_rfl,by k_is,by k_is⟩|exact⟨by kernel_rfl,by kernel_rfl,by k_is⟩|(show PySem.W.findIn _ _ _=some none;k_is)|exact⟨_,_,PySem.W.mg_of KX G (by k_is),by decide,by decide,by k_is⟩|exact⟨_,rfl,by kernel_rfl⟩|exact .of_eq rfl|skip
#print axioms PySem.Challenge.cw_joinload_k66_not_made_by_names_holds
