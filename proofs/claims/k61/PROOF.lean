import PyProof.Rows.All
import Wide.All
import OpenK.AllK
import Wide.FinOn
import Lean
import PyProof.EqAt
import PyProof.EqKinds
import PyProof.TupleCall
import PyProof.StationsW
import PyProof.ExcAttrAll.ValueError
import KE.KIsAll
import PyProof.RulesAs
import PyProof.NsDelKeeps
import PyProof.FString
import PyProof.FString4
import PyProof.Rows.FStr
import PyProof.Rows.FStrParts
import PyProof.StrCalls2
import PyProof.StrLawsRepr
import PyProof.StrLawsJoin
import PyProof.StrLaws
import PyProof.Rows.ReprOcc
import PyProof.ExcInit
import PyProof.InstStoreFacts
import KE.KDictOf
import PyProof.AttrMissHeap
import PyProof.AttrMissSeq
import PyProof.WalksS
import PyProof.Walks
import PyProof.Seq
import PyProof.DictList
import PyProof.DictUpdate
import PyProof.MakeMany
import PyProof.Rows.SetFrom
import PyProof.ZipIter
import PyProof.Rows.TupDisplay
import PyProof.EnumFor
import PyProof.EnumMake
import PyProof.EnumStmt
import PyProof.SeqI3
import PyProof.Rows.SumAny
import KE.KDictIter
import PyProof.DictWalks
import PyProof.StrLawsChain
import PyProof.StrLawsTight
import KE.KIntText
import PyProof.CallType
import PyProof.Rows.CallKwBuiltin
import PyProof.Draws
import PyProof.DefCall
import PyProof.SetKind
import PyProof.DictKinds
import PyProof.CollectWalk
import PyProof.FactsAll.set
import PyProof.DictIter
import PyProof.FactsTree
import PyProof.CollectStr
import KE.KDictLaws
import PyProof.Rows.SortShellK
import PyProof.Rows.SortWalk
import PyProof.Rows.StrNews2
import KE.KRevIter
import PyProof.ListNew
import PyProof.ListRange
import PyProof.WalkInts
import KE.KLam
import KE.KSortKey
import PyProof.AutoSeq1
import PyProof.ListIndex
import PyProof.DictRoadsH
import PySem.Challenge.RW_joinload_k61_words_run_by_names
set_option genInjectivity false
set_option compiler.extract_closed false
open PySem PySem.W PyProof.Rows in
set_option maxRecDepth 100000 in
set_option maxHeartbeats 0 in
theorem wSa:PySem.Challenge.rw_joinload_k61_words_run_by_names.wellSaid=true:=by kernel_rfl
set_option Elab.async false
set_option linter.all false
set_option maxRecDepth 100000
set_option genSizeOfSpec false
abbrev Wf:=PySem.W.Frag
abbrev Vs:=PySem.Value->PySem.Shared->Prop
abbrev Lo:=List (PySem.Addr×PySem.Obj)
abbrev So:=PySem.Str->Option PySem.Value
open PySem.W (instObj methodObj lookIn plainGet hasDictIn findIn handedIn plainGet_of isFn plainOver takerIn makesIn emptyDict keepIn specialIn takesIn mroIn kitOne kia_one kitx_list kitx_dict callWith_K methodCall_KW callWith_K0 cellsFrom_some fnOf codeIn excIn instIn clsIn looks_mroIn notCls KdkAt tabObj codeHdIn kla_obj codeHd_of_K kla_fn nsIn mg_of mg_none_of)
abbrev aS := @List.length_map
abbrev aw := @PySem.wpAny_bind
abbrev dM := @PySem.Heap.get?_push_of_some
abbrev bc := @PySem.wpAny_pure
abbrev bA := @Nat.le_refl
abbrev cC := @List.mem_map
abbrev cH := @PySem.Heap.lt_size
abbrev iw := @Option.map_eq_some_iff
abbrev eA := @List.map_append
abbrev fN := @List.mem_singleton
abbrev g8 := @Nat.lt_of_lt_of_le
abbrev iu := @PySem.Heap.get?_push_size
abbrev i7 := @List.mem_of_getElem?
abbrev ij := @List.length_append
abbrev o6 := @List.getElem?_eq_some_iff
abbrev fY := @List.mem_append
abbrev iC := @List.size_toArray
abbrev oQ := @List.mem_append_right
abbrev zR := @List.getElem?_eq_getElem
abbrev fE := @Nat.ne_of_lt
abbrev oR := @List.getElem?_map
abbrev gS := @List.map_map
abbrev i_ := @List.mem_cons
abbrev pX := @List.length_take
abbrev pR := @List.length_cons
abbrev zP := @Bool.false_ne_true
abbrev Bv := @List.mem_cons_of_mem
abbrev BP := @List.mem_append_left
abbrev i8 := @Nat.zero_le
abbrev oP := @Nat.lt_irrefl
abbrev zx := @Bool.and_eq_true
abbrev PJ := @List.getD_eq_getElem?_getD
abbrev G8 := @PySem.Heap.get?_update_self
abbrev AJ := @List.take_length
abbrev pJ := @List.map_cons
abbrev Ee := @List.nodup_append
abbrev A_ := @List.mem_flatMap
abbrev AF := @List.take_succ
abbrev QF := @List.mem_of_find?_eq_some
abbrev Hq := @Array.length_toList
abbrev SE := @List.getElem?_append_right
abbrev Fm := @List.nodup_cons
abbrev G0 := @List.any_eq_true
abbrev Hk := @PySem.wpAny_newObj_type
abbrev Ho := @Int.toNat_natCast
abbrev zc := @Nat.le_trans
abbrev PB := @List.getElem?_set_ne
abbrev PU := @PySem.Heap.get?_update_other
abbrev oN := @PySem.wpAny_mono
abbrev AS := @PySem.wpAny_holding
abbrev Qw := @List.mem_cons_self
abbrev Il := @List.append_nil
abbrev PD := @PySem.wpAny_askSetting
abbrev V2 := @Nat.mod_two_eq_zero_or_one
abbrev V7 := @Int.fmod_eq_emod_of_nonneg
abbrev QB := @PySem.wpAny_setState_of
abbrev RS := @List.map_congr_left
abbrev Wi := @List.getElem?_append_left
abbrev Vf := @List.length_filter_le
abbrev PF := @List.foldl_cons
abbrev V6 := @List.getElem?_set_self
abbrev Xs := @Int.fdiv_eq_ediv_of_nonneg
abbrev RU := @PySem.wpAny_call_entry
abbrev Se := @List.getElem_mem
abbrev UW := @List.find?_eq_none
abbrev WK := @Array.getElem?_eq_getElem
abbrev Wo := @Nat.pow_le_pow_right
abbrev Vz := @List.append_assoc
abbrev YM := @PySem.wpAny_callSpecial?_slot
abbrev XM := @Nat.testBit_div_two_pow
abbrev We := @List.flatMap_append
abbrev V8 := @PySem.Heap.get?_update_ne
abbrev Vy := @Nat.mod_eq_of_lt
abbrev V_ := @PySem.wpAny_Call_Name_kw
abbrev Va := @PySem.wpAny_passesOwn
abbrev ycd := @Nat.testBit_two_pow_mul_add
abbrev Q6 := @Nat.le_of_lt
abbrev Tb := @List.mem_filter
abbrev TM := @List.find?_cons
abbrev Ui := @Bool.eq_iff_iff
abbrev Wg := @PySem.wpAny_truthy_bool
abbrev RR := @PySem.wpAny_attempt
abbrev yck := @Array.getElem?_eq_some_iff
abbrev TC := @PySem.wpAny_setField
abbrev ycm := @List.pairwise_iff_getElem
abbrev V3 := @List.lookup_cons
abbrev Z8 := @PySem.wpAny_setEntries_of
abbrev Wb := @PySem.wpAny_execs_nil
abbrev ycq := @Nat.testBit_lt_two_pow
abbrev YG := @Option.isSome_map
abbrev ZQ := @List.take_add_one
abbrev Yv := @List.length_range
abbrev Wh := @List.find?_map
abbrev YZ := @Nat.mod_pow_succ
abbrev XI := @Nat.lt_succ_self
abbrev Wz := @Nat.le_add_right
abbrev ycy := @List.take_append_of_le_length
abbrev RG := @PySem.wpAny_rule
namespace L2
open PySem PySem.Spec PyProof.Rows
noncomputable abbrev Key:=Sum Int Str
noncomputable def keyIs:Key->Value->Bool
 |.inl k,v=>Value.isInt k v
 |.inr x,v=>Value.isStrOf x v
noncomputable def keyH(w:World):Key->Int
 |.inl k=>hashInt k
 |.inr x=>hashStr w x
theorem oU:∀{k:Key}{v:Value},keyIs k v=true->(∃i t,k=Sum.inl i/\v=Value.int i t)\/(∃x t,k=Sum.inr x/\v=Value.str x t)
 |.inl i,v,h=>by
  obtain⟨t,e⟩:=Value.isInt_shape (k:=i) (v:=v) h;exact .inl ⟨i,t,rfl,e⟩
 |.inr x,v,h=>by
  obtain⟨t,e⟩:=Value.isStrOf_shape (x:=x) (v:=v) h;exact .inr ⟨x,t,rfl,e⟩
theorem FQ(i:Int)(t:Tok):keyIs (.inl i) (.int i t)=true:=by simp[keyIs,Value.isInt]
theorem Gx(x:Str)(t:Tok):keyIs (.inr x) (.str x t)=true:=by simp[keyIs,Value.isStrOf]
theorem UH(a b:Int):decide ((Sum.inl a:Key)=Sum.inl b)=(a == b):=by
 by_cases e:a=b
 ·subst e;simp
 ·have h:¬(Sum.inl a:Key)=Sum.inl b:=λq=>e (Sum.inl.inj q);rw[decide_eq_false h];exact(beq_eq_false_iff_ne.mpr e).symm
theorem Tn(a b:Str):decide ((Sum.inr a:Key)=Sum.inr b)=decide (a=b):=by
 by_cases e:a=b
 ·subst e;simp
 ·have h:¬(Sum.inr a:Key)=Sum.inr b:=λq=>e (Sum.inr.inj q);rw[decide_eq_false h,decide_eq_false e]
theorem TK(a:Int)(b:Str):decide ((Sum.inl a:Key)=Sum.inr b)=false:=decide_eq_false (λq=>nomatch q)
theorem Ug(a:Str)(b:Int):decide ((Sum.inr a:Key)=Sum.inl b)=false:=decide_eq_false (λq=>nomatch q)
noncomputable def aZ(prog:Program)(w:World):PySem.KeyKind prog w Key where
 is:=keyIs
 hash:=keyH w
 inj:=λv a b ha hb=>by
  rcases oU ha with ⟨i,t,rfl,rfl⟩|⟨x,t,rfl,rfl⟩
  ·rcases oU hb with ⟨j,u,rfl,e⟩|⟨y,u,rfl,e⟩
   ·injection e with e1 _;rw[e1]
   ·exact nomatch e
  ·rcases oU hb with ⟨j,u,rfl,e⟩|⟨y,u,rfl,e⟩
   ·exact nomatch e
   ·injection e with e1 _;rw[e1]
 byValue:=λk v h=>by
  rcases oU h with ⟨i,t,rfl,rfl⟩|⟨x,t,rfl,rfl⟩<;>rfl
 pyHash:=λhv h=>by
  rcases oU hv with ⟨i,t,rfl,rfl⟩|⟨x,t,rfl,rfl⟩
  ·exact wpAny_pyHash_int h
  ·exact wpAny_pyHash_str h
 eqBool:=λhu hv h=>by
  rcases oU hu with ⟨i,t,rfl,rfl⟩|⟨x,t,rfl,rfl⟩
  ·rcases oU hv with ⟨j,u,rfl,rfl⟩|⟨y,u,rfl,rfl⟩
   ·rw[UH]at h;exact wpAny_eqBool_int h
   ·rw[TK]at h;exact SeqAt.EqAt.int_str i t y u _ _ _ _ h
  ·rcases oU hv with ⟨j,u,rfl,rfl⟩|⟨y,u,rfl,rfl⟩
   ·rw[Ug]at h;exact SeqAt.EqAt.str_int x t j u _ _ _ _ h
   ·rw[Tn]at h;exact wpAny_eqBool_str h
 «strs»:=λk x t v h=>by
  rcases oU h with ⟨i,u,rfl,e⟩|⟨y,u,rfl,e⟩
  ·exact nomatch e
  ·injection e with e1 _;subst e1;cases v<;>rfl
theorem zS(prog:Program)(w:World)(i:Int)(t:Tok):(aZ prog w).is (.inl i) (.int i t)=true:=FQ i t
theorem zI(prog:Program)(w:World)(x:Str)(t:Tok):(aZ prog w).is (.inr x) (.str x t)=true:=Gx x t
set_option genInjectivity true in
inductive V where
 |bI|bl (b:Bool)|int (i:Int)|str (x:Str)|AK (b:Array UInt8)|UC (b:UInt64)|ref (a:Addr)|ty (n:String)
 deriving DecidableEq
noncomputable def RelV:V->Value->Prop
 |.bI,u=>u=Value.none
 |.bl b,u=>u=Value.bool b
 |.int i,u=>∃t,u=Value.int i t
 |.str x,u=>∃t,u=Value.str x t
 |.AK b,u=>∃t,u=Value.bytes b t
 |.UC b,u=>∃t,u=Value.float b t
 |.ref a,u=>u=Value.ref a
 |.ty n,u=>u=Value.type n
noncomputable abbrev Vals:List V->List Value->Prop:=Paired RelV
theorem Vals.length{xs:List V}{us:List Value}(r:Vals xs us):xs.length=us.length:=Paired.length r
theorem Vals.get:∀{xs:List V}{us:List Value}{i:Nat}{x:V},Vals xs us->xs[i]?=some x->∃u,us[i]?=some u/\RelV x u
 |_,_,_,_,.nil,e=>by simp at e
 |_,_,0,_,.cons r _,e=>by simp at e;subst e;exact⟨_,rfl,r⟩
 |_,_,i+1,x,.cons _ t,e=>by
  obtain⟨u,h1,h2⟩:=Vals.get (i:=i) (x:=x) t (by simpa using e);exact⟨u,by simpa using h1,h2⟩
theorem Vals.set(r:RelV x u):∀{xs:List V}{us:List Value}(i:Nat),Vals xs us->Vals (xs.set i x) (us.set i u)
 |_,_,_,.nil=>.nil
 |_,_,0,.cons _ t=>.cons r t
 |_,_,i+1,.cons q t=>.cons q (Vals.set r i t)
theorem Vals.append:∀{xs ys:List V}{us ws:List Value},Vals xs us->Vals ys ws->Vals (xs++ys) (us++ws)
 |_,_,_,_,.nil,s=>s
 |_,_,_,_,.cons r t,s=>.cons r (Vals.append t s)
theorem Vals.take:∀{xs:List V}{us:List Value}(n:Nat),Vals xs us->Vals (xs.take n) (us.take n)
 |_,_,0,_=>.nil
 |_,_,_+1,.nil=>.nil
 |_,_,n+1,.cons r t=>.cons r (Vals.take n t)
theorem Vals.drop:∀{xs:List V}{us:List Value}(n:Nat),Vals xs us->Vals (xs.drop n) (us.drop n)
 |_,_,0,r=>r
 |_,_,_+1,.nil=>.nil
 |_,_,n+1,.cons _ t=>Vals.drop n t
noncomputable def fu:Option V->Option Value->Prop
 |some v,some u=>RelV v u
 |none,none=>True
 |_,_=>False
noncomputable def KV{κ:Type}:List (κ×V)->List (κ×Value)->Prop:=Paired λ(p:κ×V) (q:κ×Value)=>p.1=q.1/\RelV p.2 q.2
noncomputable def kV:Key->V
 |.inl i=>.int i
 |.inr x=>.str x
set_option genInjectivity true in
inductive HO where
  |lst (xs:List V)
  |tup (xs:List V)
  |dK (kvs:List (Key×V))|dT (kvs:List (List Key×V))
  |set (S:Int->Bool) (n:Nat)
  |ins (C dx:Addr) (fs:List (Str×V))
  |own (x:Addr)
  |xd (fs:List (Str×V))
  |met (f x:Addr)
  |Py (lo hi:Int)
  |g9 (o:Obj) (u:HO)
  |fJ (ps:Array Value)
  |ext (φ:Heap->Prop)
noncomputable abbrev Hp:=Addr->Option HO
noncomputable def upd(H:Hp)(a:Addr)(o:HO):Hp:=λb=>if b=a then some o else H b
theorem aJ:upd H a o a=some o:=by unfold upd;rw[if_pos rfl]
theorem ae(h:b≠a):upd H a o b=H b:=by unfold upd;rw[if_neg h]
theorem aR{H:Hp}{a b:Addr}{o u:HO}(h:H a=some o)(h':H b=some u)(d:o≠u):a≠b:=by
 intro e;subst e;rw[h]at h';exact d (Option.some.inj h')
theorem bf{H:Hp}{a b:Addr}{o:HO}(h:H a=some o)(h':H b=none):a≠b:=by
 intro e;subst e;rw[h]at h';cases h'
section
variable(P:Program)(w:World)
noncomputable def a0(H:Hp)(h:Heap)(a:Addr):HO->Prop
 |.lst xs=>xs.length<=sizeLine/\∃(its:List Value) (n:Nat),Vals xs its/\h.get? a=some { cls:=.type "list", data:=.seq its.toArray n }
 |.tup xs=>xs.length<=sizeLine/\∃its:List Value,Vals xs its/\IsTup h a its.toArray
 |.dK kvs=>kvs.length<=sizeLine/\(a == sysModules)=false/\∃vs,KV kvs vs/\h.DictOf (aZ P w) a vs
 |.dT kvs=>kvs.length<=sizeLine/\(a == sysModules)=false/\∃xs:List (List Key×Addr×Value),
   Paired (λ(p:List Key×V) (q:List Key×Addr×Value)=>p.1=q.1/\H q.2.1=some (.tup (p.1.map kV))/\RelV p.2 q.2.2) kvs xs/\
   ∃o es ep,h.get? a=some o/\o.ExactDict/\o.data=.dict es ep/\es.toList=xs.map (entryOfKey (tupleKind (aZ P w)))/\(xs.map (·.1)).Nodup
 |.set S n=>h.SetOf (intKind P w) a S n
 |.ins C dx fs=>H dx=some (.own a)/\fs.length<=1000/\dx≠a/\h.get? a=some (instObj C dx)/\
   ∃mA,h.Ns1 dx mA/\(∀f,fu (fs.lookup f) (mA f))/\PySem.Within mA (fs.map (·.1))
 |.own _=>∃o,h.get? a=some o
 |.xd fs=>∃mA,h.Ns1 a mA/\∀f,fu (fs.lookup f) (mA f)
 |.Py lo hi=>∃t u v,h.get? a=some { cls:=.type "range", data:=.fields #[.int lo t,.int hi u,.int 1 v] }
 |.g9 o u=>h.get? a=some o/\a0 H h a u
 |.fJ ps=>h.get? a=some { cls:=.none,data:=.fields ps }
 |.met f x=>h.get? a=some (methodObj (.ref f) (.ref x))
 |.ext φ=>φ h/\(∃o,h.get? a=some o)/\∀h1 h2:Heap,φ h1->(∀o,h1.get? a=some o->h2.get? a=some o)->φ h2
def e7(H:Hp)(h:Heap):Prop:=∀a o,H a=some o->a0 P w H h a o
end
section
variable{P:Program}{w:World}{H H':Hp}{h h':Heap}{a:Addr}{o:HO}
theorem a0.lt(x:a0 P w H h a o):a<h.objs.size:=by
 cases o with
 |lst xs=>obtain⟨_,_,_,_,e⟩:=x;exact cH e
 |tup xs=>obtain⟨_,_,_,p⟩:=x;exact p.lt
 |dK kvs=>obtain⟨_,_,_,_,o,_,_,e,_⟩:=x;exact cH e
 |dT kvs=>obtain⟨_,_,_,_,o,_,_,e,_⟩:=x;exact cH e
 |set S n=>obtain⟨o,_,_,_,e,_⟩:=x;exact cH e
 |ins C dx fs=>obtain⟨_,_,_,e,_⟩:=x;exact cH e
 |own y=>obtain⟨_,e⟩:=x;exact cH e
 |xd fs=>obtain⟨_,⟨_,_,_,e,_⟩,_⟩:=x;exact cH e
 |Py lo hi=>obtain⟨_,_,_,e⟩:=x;exact cH e
 |g9 ob u=>obtain⟨e,_⟩:=x;exact cH e
 |fJ ps=>exact cH (show h.get? a=some _ from x)
 |met f y=>exact cH (show h.get? a=some _ from x)
 |ext φ=>obtain⟨_,⟨_,e⟩,_⟩:=x;exact cH e
theorem Paired.TX{α β:Type}{F G:α->β->Prop}:∀{l₁:List α}{l₂:List β},Paired F l₁ l₂->(∀a b,F a b->G a b)->Paired G l₁ l₂
 |_,_,.nil,_=>.nil
 |_,_,.cons r t,f=>.cons (f _ _ r) (Paired.TX t f)
theorem a0.gM(x:a0 P w H h a o)(k:∀b u,(b=a\/H b=some (.own a))->h.get? b=some u->h'.get? b=some u)
  (ho:∀b,H b=some (.own a)->H' b=some (.own a)) (ht:∀b xs,H b=some (.tup xs)->H' b=some (.tup xs)):a0 P w H' h' a o:=by
 induction o with
 |lst xs=>obtain⟨z,its,n,r,e⟩:=x;exact⟨z,its,n,r,k _ _ (.inl rfl) e⟩
 |tup xs=>obtain⟨z,its,r,ob,e,c⟩:=x;exact⟨z,its,r,ob,k _ _ (.inl rfl) e,c⟩
 |dK kvs=>obtain⟨z,y,vs,r,ob,es,ep,e,c⟩:=x;exact⟨z,y,vs,r,ob,es,ep,k _ _ (.inl rfl) e,c⟩
 |dT kvs=>
  obtain⟨z,y,xs,r,ob,es,ep,e,c⟩:=x;exact⟨z,y,xs,Paired.TX r λp q z=>⟨z.1,ht _ _ z.2.1,z.2.2⟩,ob,es,ep,k _ _ (.inl rfl) e,c⟩
 |set S n=>obtain⟨ob,es,ep,t,e,c⟩:=x;exact⟨ob,es,ep,t,k _ _ (.inl rfl) e,c⟩
 |ins C dx fs=>
  obtain⟨d,z,ne,e,mA,⟨od,es,ep,e2,c⟩,r⟩:=x;exact⟨ho _ d,z,ne,k _ _ (.inl rfl) e,mA,⟨od,es,ep,k _ _ (.inr d) e2,c⟩,r⟩
 |own y=>obtain⟨ob,e⟩:=x;exact⟨ob,k _ _ (.inl rfl) e⟩
 |xd fs=>obtain⟨mA,⟨od,es,ep,e,c⟩,r⟩:=x;exact⟨mA,⟨od,es,ep,k _ _ (.inl rfl) e,c⟩,r⟩
 |Py lo hi=>obtain⟨t,u,v,e⟩:=x;exact⟨t,u,v,k _ _ (.inl rfl) e⟩
 |g9 ob u ih=>obtain⟨e,q⟩:=x;exact⟨k _ _ (.inl rfl) e,ih q⟩
 |fJ ps=>
  have e:h.get? a=some { cls:=.none,data:=.fields ps }:=x;show h'.get? a=some { cls:=.none,data:=.fields ps };exact k a _ (.inl rfl) e
 |met f y=>
  have e:h.get? a=some (methodObj (.ref f) (.ref y)):=x;show h'.get? a=some (methodObj (.ref f) (.ref y));exact k a _ (.inl rfl) e
 |ext φ=>obtain⟨p,⟨o,e⟩,st⟩:=x;exact⟨st _ _ p λo q=>k _ _ (.inl rfl) q,⟨o,k _ _ (.inl rfl) e⟩,st⟩
theorem e7.lt(x:e7 P w H h)(e:H a=some o):a<h.objs.size:=(x a o e).lt
theorem e7.fresh(x:e7 P w H h)(e:h.objs.size<=a):H a=none:=by
 cases q:H a with
 |none=>rfl
 |some u=>exact absurd (g8 (x.lt q) e) (oP _)
theorem e7.kept(x:e7 P w H h)(k:∀b u,h.get? b=some u->h'.get? b=some u):e7 P w H h':=λa o e=>
 (x a o e).gM (λb u _ q=>k b u q) (λ_ q=>q) λ_ _ q=>q
theorem e7.laid(x:e7 P w H h)(k:∀b u,h.get? b=some u->h'.get? b=some u)(hp:h.objs.size<=a)(new:a0 P w (upd H a o) h' a o):e7 P w (upd H a o) h':=λb u e=>by
 have hn:=x.fresh hp;by_cases hb:b=a
 ·subst hb;rw[aJ]at e;cases e;exact new
 ·rw[ae hb]at e;exact(x b u e).gM (λc v _ q=>k c v q) (λc q=>by rw[ae (bf q hn)];exact q) λc xs q=>by rw[ae (bf q hn)];exact q
end
def Rd(H:Hp)(a:Addr)(u:HO):Prop:=H a=some u\/∃o,H a=some (.g9 o u)
theorem Rd.ok{P:Program}{w:World}{H:Hp}{h:Heap}{a:Addr}{u:HO}(r:Rd H a u)(x:e7 P w H h):a0 P w H h a u:=by
 rcases r with r|⟨o,r⟩
 ·exact x a u r
 ·obtain⟨_,q⟩:=x a _ r;exact q
noncomputable def X0:Option HO->Prop
 |some (.lst _)=>True
 |some (.dK _)=>True
 |some (.dT _)=>True
 |some (.set _ _)=>True
 |some (.ins _ _ _)=>True
 |some (.ext _)=>True
 |_=>False
section
variable{P:Program}{w:World}{H:Hp}{h h':Heap}{x e:Addr}{o':HO}
theorem e7.write(ok:e7 P w H h)(mu:X0 (H x))(he:e=x\/H e=some (.own x))(k:∀b u,b≠e->h.get? b=some u->h'.get? b=some u)(heo:∃u,h'.get? e=some u)
  (new:a0 P w (upd H x o') h' x o'):e7 P w (upd H x o') h':=λb u q=>by
 have nown:∀c y,H c=some (.own y)->c≠x:=λc y r z=>by subst z;rw[r]at mu;exact mu
 have ntup:∀c xs,H c=some (.tup xs)->c≠x:=λc xs r z=>by subst z;rw[r]at mu;exact mu
 by_cases hb:b=x
 ·subst hb;rw[aJ]at q;cases q;exact new
 ·rw[ae hb]at q;by_cases hbe:b=e
  ·have q':H b=some (.own x):=by
    rcases he with z|z
    ·exact absurd (hbe.trans z) hb
    ·rw[hbe];exact z
   rw[q]at q';cases q';obtain⟨v,hv⟩:=heo;exact⟨v,by rw[hbe];exact hv⟩
  ·refine(ok b u q).gM (λc v hc r=>k c v ?_ r) (λc r=>by rw[ae (nown c b r)];exact r) λc xs r=>by rw[ae (ntup c xs r)];exact r
   rcases hc with rfl|hc
   ·exact hbe
   ·rintro rfl;rcases he with z|z
    ·exact nown c b hc z
    ·rw[hc]at z;cases z;exact hb rfl
end
structure Un(fs ex:List Addr)(H H':Hp)(h h':Heap):Prop where
 keep:∀b o,h.get? b=some o->H b=none->b∉fs->b∉ex->h'.get? b=some o
 slot:∀b o,h.get? b=some o->H b=none->b∈fs->b∉ex->∃sl,h'.get? b=some { o with slots:=sl }
 free:∀b o,h.get? b=some o->H b=none->b∉ex->H' b=none
 there:∀b o,h.get? b=some o->b∉ex->∃o',h'.get? b=some o'
 iD:∀b xs,H b=some (.tup xs)->H' b=some (.tup xs)
 hZ:∀b o u,H b=some (.g9 o u)->H' b=some (.g9 o u)
 hJ:∀b ps,H b=some (.fJ ps)->∃more,H' b=some (.fJ (ps++more))
section
variable{fs fs' ex ex':List Addr}{H H1 H2:Hp}{h h1 h2 h':Heap}{a x e:Addr}{o:HO}
theorem Un.any(u:Un fs ex H H1 h h1){b:Addr}{ob:Obj}(q:h.get? b=some ob)(n:H b=none)(hx:b∉ex):∃sl,h1.get? b=some { ob with slots:=sl }:=by
 by_cases hb:b∈fs
 ·exact u.slot b ob q n hb hx
 ·exact⟨ob.slots,u.keep b ob q n hb hx⟩
theorem Un.kept(k:∀b u,h.get? b=some u->h'.get? b=some u):Un fs ex H H h h':=
 ⟨λb ob q _ _ _=>k b ob q,λb ob q _ _ _=>⟨ob.slots,k b ob q⟩,λ_ _ _ n _=>n,λb ob q _=>⟨ob,k b ob q⟩,λ_ _ q=>q,λ_ _ _ q=>q,λ_ ps q=>⟨#[],by rw[q];simp⟩⟩
theorem Un.refl:Un fs ex H H h h:=Un.kept λ_ _ q=>q
theorem Un.laid(k:∀b u,h.get? b=some u->h'.get? b=some u)(hp:h.objs.size<=a)(hn:H a=none):Un fs ex H (upd H a o) h h' where
 keep:=λb u q _ _ _=>k b u q
 slot:=λb u q _ _ _=>⟨u.slots,k b u q⟩
 free:=λb u q n _=>by rw[ae (fE (g8 (cH q) hp))];exact n
 there:=λb u q _=>⟨u,k b u q⟩
 iD:=λb xs q=>by rw[ae (bf q hn)];exact q
 hZ:=λb u xs q=>by rw[ae (bf q hn)];exact q
 hJ:=λb ps q=>⟨#[],by rw[ae (bf q hn),q];simp⟩
theorem Un.write(mu:X0 (H x))(he:e=x\/H e=some (.own x))(k:∀b u,b≠e->h.get? b=some u->h'.get? b=some u)(heo:∃u,h'.get? e=some u):Un fs ex H (upd H x o) h h':=by
 have hx:∀b,H b=none->b≠x:=λb n z=>by subst z;rw[n]at mu;exact mu
 have hb:∀b,H b=none->b≠e:=λb n z=>by
  subst z;rcases he with r|r
  ·exact hx b n r
  ·rw[n]at r;cases r
 have hm:∀b u,H b=some u->¬X0 (some u)->b≠x:=λb u q nm z=>by subst z;rw[q]at mu;exact nm mu
 refine⟨λb u q n _ _=>k b u (hb b n) q,λb u q n _ _=>⟨u.slots,k b u (hb b n) q⟩,λb u q n _=>by rw[ae (hx b n)];exact n,λb u q _=>?_,
  λb xs q=>by rw[ae (hm b _ q λz=>z)];exact q,λb u xs q=>by rw[ae (hm b _ q λz=>z)];exact q,λb ps q=>⟨#[],by rw[ae (hm b _ q λz=>z),q];simp⟩⟩
 by_cases hbe:b=e
 ·subst hbe;exact heo
 ·exact⟨u,k b u hbe q⟩
end
noncomputable def AL(h:Heap)(H:Hp):List Addr:=(List.range h.objs.size).filter λa=>(H a).isSome
noncomputable def uT(h:Heap)(H:Hp):Heap:=PySem.W.hideAll h (AL h H)
theorem G4(h:Heap)(H:Hp):(uT h H).objs.size=h.objs.size:=PySem.W.hideAll_size _ _
theorem Mh(e:h.get? b=some o)(n:H b=none):(uT h H).get? b=some o:=
 PySem.W.hideAll_get _ e λhm=>by
  have q:(H b).isSome=true:=(Tb.mp hm).2;rw[n]at q;simp at q
theorem Q1(e:(uT h H).get? b=some o):h.get? b=some o/\H b=none:=by
 have e':h.get? b=some o:=PySem.W.of_hideAll (AL h H) e;refine⟨e',?_⟩;cases q:H b with
 |none=>rfl
 |some x=>
  have hm:b∈AL h H:=Tb.mpr ⟨List.mem_range.mpr (cH e'),by simp[q]⟩;have z:(uT h H).get? b=none:=PySem.W.hideAll_none (AL h H) hm;rw[z]at e;cases e
noncomputable def Qi(g h:Heap)(L:Addr):Lo:=(List.range h.objs.size).filterMap λa=>if a=L\/(g.get? a).isSome=true then none else (h.get? a).map λo=>(a,o)
noncomputable def rest(g h:Heap)(L d:Addr):Lo:=(Qi g h L).filter λp=>decide (p.1≠d)
structure Mod(K:Wf)(mg:So)(base:Heap):Prop where
 VA:K.In base
 glob:base.Ns mainGlobals mg
 blt:∃mb,base.Ns builtinsNs mb/\∀x:Str,x ≠ "__name__" -> mb x=bootBuiltins x
 nolimit:base.NoLimit
structure Cx where
 prog:Program
 w:World
 K:Wf
 mg:Str->Option Value
 base:Heap
 A:Around
 N:List Str
 s₀:Shared
 H₀:Hp
 env:Env
 outer:List Env
 stack:List Env
 ex:List Addr
 fn:Str->Bool
 calm:Bool
 pn:Lo
 xe:Value->Shared->Prop
noncomputable def i9(l:List Env):List Addr:=l.filterMap (·.frame)
noncomputable abbrev Cx.fs(X:Cx):List Addr:=i9 X.outer
def Vis(sc:Scope)(x:Str):Prop:=sc.names.lookup x=some .local\/sc.names.lookup x=some .cell\/sc.names.lookup x=some .free
def Loc(sc:Scope)(x:Str):Prop:=sc.names.lookup x=some .local\/sc.names.lookup x=some .cell
def Look(env:Env)(h:Heap)(m:So)(x:Str)(u:Value):Prop:=
 (env.kindOf x=some .local/\m x=some u)\/((env.kindOf x=some .cell\/env.kindOf x=some .free)/\∃c,env.cells.lookup x=some c/\h.IsCell c (some u))
structure Cx.Ok(X:Cx):Prop where
 mod:Mod X.K X.mg X.base
 kind:X.env.scope.kind=.function
 glob:X.env.globals=mainGlobals
 blt:X.env.builtins=builtinsNs
 above:X.s₀.heap.objs.size<=X.env.locals
 inj:∀x y c,X.env.cells.lookup x=some c->X.env.cells.lookup y=some c->x=y
 has:∀x,(X.env.kindOf x=some .cell\/X.env.kindOf x=some .free)->∃c,X.env.cells.lookup x=some c
 VG:∀x c,X.fn x=true->X.env.cells.lookup x=some c->X.s₀.heap.objs.size<=c
 hd:X.calm=true->X.A.handled=none
 frames:X.A.frames=some X.stack
 PN:X.stack=X.outer\/(X.stack=X.env::X.outer/\X.env.frame=some X.env.locals)
 Wc:∀b∈X.ex,b≠X.env.locals/\∀x c,X.env.cells.lookup x=some c->c≠b
 bs:∀b o,X.base.get? b=some o->X.s₀.heap.get? b=some o/\X.H₀ b=none
 Hn:X.base.objs.size<=X.s₀.heap.objs.size
 Bz:∀b o,X.base.get? b=some o->b∉X.ex
 zy:∀b∈X.ex,b∉X.fs
 ig:X.s₀.heap.FunFrames X.base X.outer
 PH:∀b∈X.fs,X.H₀ b=none
structure Inv(X:Cx)(pins:Lo)(σ:List (Option V))(H:Hp)(s:Shared):Prop where
 ok:X.Ok
 os:s.os=X.s₀.os
 bare:AllBare s.gens
 base:Un X.fs X.ex X.H₀ H X.s₀.heap s.heap
 loc:∃m,s.heap.Ns X.env.locals m/\∀(i:Nat) (x:Str) (v:V),X.N[i]?=some x->σ[i]?=some (some v)->Vis X.env.scope x->∃u,RelV v u/\Look X.env s.heap m x u
 cell:∀x c,X.env.cells.lookup x=some c->∃v,s.heap.IsCell c v
 free:H X.env.locals=none
 eD:∀x c,X.env.cells.lookup x=some c->H c=none
 pin:∀p∈X.pn++pins,s.heap.get? p.1=some p.2/\H p.1=none/\p.1≠X.env.locals/\p.1∉X.fs/\∀v,p.2.data≠.cell v
 aN:e7 X.prog X.w H s.heap
 len:σ.length=X.N.length
section
variable{X:Cx}{pins:Lo}{σ:List (Option V)}{H H':Hp}{s:Shared}{h':Heap}
theorem Cx.Ok.abu(ok:X.Ok){b:Addr}{o:Obj}(e:X.base.get? b=some o):b∉X.fs:=λhb=>by
 have:=(ok.ig.mem hb).1;rw[e]at this;cases this
theorem Inv.bs(I:Inv X pins σ H s):∀b o,X.base.get? b=some o->s.heap.get? b=some o/\H b=none:=λb o e=>
 ⟨I.base.keep b o (I.ok.bs b o e).1 (I.ok.bs b o e).2 (I.ok.abu e) (I.ok.Bz b o e),I.base.free b o (I.ok.bs b o e).1 (I.ok.bs b o e).2 (I.ok.Bz b o e)⟩
theorem Inv.bk(I:Inv X pins σ H s):∀b o,X.base.get? b=some o->s.heap.get? b=some o:=λb o e=>(I.bs b o e).1
theorem Inv.mod(I:Inv X pins σ H s):Mod X.K X.mg X.base:=I.ok.mod
theorem Inv.ib(I:Inv X pins σ H s):X.K.In s.heap:=I.ok.mod.VA.keeps I.bk
theorem Inv.lt(I:Inv X pins σ H s):X.env.locals<s.heap.objs.size:=let ⟨_,hn,_⟩:=I.loc;hn.lt
theorem Inv.sz(I:Inv X pins σ H s):X.s₀.heap.objs.size<=s.heap.objs.size:=zc I.ok.above (Q6 I.lt)
theorem Inv.YK(I:Inv X pins σ H s){a:Addr}(h:s.heap.objs.size<=a):a∉X.fs:=λhb=>by
 obtain⟨_,o,ho,_⟩:=I.ok.ig.mem hb;exact absurd (g8 (cH ho) (zc I.sz h)) (oP _)
theorem Inv.Jh(I:Inv X pins σ H s):∀x c,X.env.cells.lookup x=some c->c≠X.env.locals:=λx c e z=>by
 obtain⟨v,o,ho,hd⟩:=I.cell x c e;obtain⟨m,⟨o',es,ep,ho',hd',_⟩,_⟩:=I.loc;rw[z,ho']at ho;cases ho;rw[hd']at hd;cases hd
theorem Inv.ig(I:Inv X pins σ H s):s.heap.FunFrames X.base X.outer:=by
 have all:∀(l:List Env),(∀b∈i9 l,b∈X.fs)->X.s₀.heap.FunFrames X.base l->s.heap.FunFrames X.base l:=by
  intro l
  induction l with
  |nil=>intro _ _;trivial
  |cons env r ih=>
   intro hs hl;obtain⟨hk,⟨L,o,hf,hn,ho,hd⟩,hr⟩:=hl;have hL:L∈X.fs:=hs L (by unfold i9;rw[List.filterMap_cons,hf];exact List.mem_cons_self);obtain⟨sl,e⟩:=I.base.slot L o ho (I.ok.PH L hL) hL λz=>I.ok.zy L z hL;exact⟨hk,⟨L,_,hf,hn,e,hd⟩,ih (λb hb=>hs b (by unfold i9;rw[List.filterMap_cons,hf];exact List.mem_cons_of_mem _ hb)) hr⟩
 exact all X.outer (λ_ hb=>hb) I.ok.ig
theorem Inv.stack(I:Inv X pins σ H s):s.heap.FunFrames X.base X.stack:=by
 rcases I.ok.PN with e|⟨e,hf⟩
 ·rw[e];exact I.ig
 ·rw[e];obtain⟨m,hn,_⟩:=I.loc;refine .cons (by rw[I.ok.kind];decide) hf hn ?_ I.ig;exact Heap.get?_none_of_le (zc I.ok.Hn I.ok.above)
theorem Inv.yi(I:Inv X pins σ H s):∀b∈i9 X.stack,b∈X.env.locals::X.fs:=λb hb=>by
 rcases I.ok.PN with e|⟨e,hf⟩
 ·rw[e]at hb;exact Bv _ hb
 ·rw[e]at hb;unfold i9 at hb;rw[List.filterMap_cons,hf]at hb;exact hb
theorem Inv.j_(I:Inv X pins σ H s):∀b∈i9 X.stack,H b=none:=λb hb=>by
 rcases i_.mp (I.yi b hb) with e|hb
 ·rw[e];exact I.free
 ·obtain⟨_,o,ho,_⟩:=I.ok.ig.mem hb;exact I.base.free b o ho (I.ok.PH b hb) λz=>I.ok.zy b z hb
theorem Inv.step{g':Array GenState}{t':Nat}{d':Drawn}{ch:List Addr}(I:Inv X pins σ H s)
  (hch:∀b∈ch,(b∈X.ex\/X.s₀.heap.objs.size<=b)/\b≠X.env.locals/\(∀x c,X.env.cells.lookup x=some c->c≠b)/\∀p∈X.pn++pins,p.1≠b)
  (keep:∀b o,b≠X.env.locals->b∉X.fs->b∉ch->s.heap.get? b=some o->H b=none->h'.get? b=some o)
  (slot:∀b o,b≠X.env.locals->b∈X.fs->b∉ch->s.heap.get? b=some o->H b=none->∃sl,h'.get? b=some { o with slots:=sl }) (free:∀b o,b∉ch->s.heap.get? b=some o->H b=none->H' b=none)
  (there:∀b o,b∉ch->s.heap.get? b=some o->∃o',h'.get? b=some o')
  (iD:∀b xs,H b=some (.tup xs)->H' b=some (.tup xs)) (hZ:∀b o u,H b=some (.g9 o u)->H' b=some (.g9 o u)) (hJ:∀b ps,H b=some (.fJ ps)->∃more,H' b=some (.fJ (ps++more)))
  (ns:∀m,s.heap.Ns X.env.locals m->h'.Ns X.env.locals m) (aN:e7 X.prog X.w H' h') (hg:AllBare g'):
  Inv X pins σ H' { s with heap:=h',gens:=g',drawn:=d',toks:=t' }:=by
 have neL:∀b o,X.s₀.heap.get? b=some o->b≠X.env.locals:=λb o e=>fE (g8 (cH e) I.ok.above);have neC:∀b o,X.s₀.heap.get? b=some o->b∉X.ex->b∉ch:=λb o e hx hb=>by
  rcases (hch b hb).1 with z|z
  ·exact hx z
  ·exact absurd (g8 (cH e) z) (oP _)
 have cellK:∀x c,X.env.cells.lookup x=some c->∀v,s.heap.IsCell c v->h'.IsCell c v:=λx c e v ⟨o,ho,hd⟩=>by
  have nch:c∉ch:=λz=>(hch c z).2.2.1 x c e rfl;by_cases hc:c∈X.fs
  ·obtain⟨sl,q⟩:=slot c o (I.Jh x c e) hc nch ho (I.eD x c e);exact⟨_,q,hd⟩
  ·exact⟨o,keep c o (I.Jh x c e) hc nch ho (I.eD x c e),hd⟩
 refine⟨I.ok,I.os,hg,⟨λb o e n hb hx=>?_,λb o e n hb hx=>?_,λb o e n hx=>?_,λb o e hx=>?_,λb xs e=>iD b xs (I.base.iD b xs e),λb o xs e=>hZ b o xs (I.base.hZ b o xs e),λb ps e=>?_⟩,?_,λx c e=>?_,?_,λx c e=>?_,λp hp=>?_,aN,I.len⟩
 ·exact keep b o (neL b o e) hb (neC b o e hx) (I.base.keep b o e n hb hx) (I.base.free b o e n hx)
 ·obtain⟨sl,e1⟩:=I.base.slot b o e n hb hx;obtain⟨sl',e2⟩:=slot b _ (neL b o e) hb (neC b o e hx) e1 (I.base.free b o e n hx);exact⟨sl',e2⟩
 ·obtain⟨o',e1⟩:=I.base.there b o e hx;exact free b o' (neC b o e hx) e1 (I.base.free b o e n hx)
 ·obtain⟨o',e1⟩:=I.base.there b o e hx;exact there b o' (neC b o e hx) e1
 ·obtain⟨m1,e1⟩:=I.base.hJ b ps e;obtain⟨m2,e2⟩:=hJ b _ e1;exact⟨m1++m2,by rw[e2,Array.append_assoc]⟩
 ·obtain⟨m,hn,hl⟩:=I.loc;refine⟨m,ns m hn,λi x v e1 e2 e3=>?_⟩;obtain⟨u,r,l⟩:=hl i x v e1 e2 e3;refine⟨u,r,?_⟩;rcases l with l|⟨k,c,e,z⟩
  ·exact .inl l
  ·exact .inr ⟨k,c,e,cellK x c e _ z⟩
 ·obtain⟨v,z⟩:=I.cell x c e;exact⟨v,cellK x c e v z⟩
 ·obtain⟨m,⟨o,_,_,ho,_⟩,_⟩:=I.loc;exact free _ o (λz=>(hch _ z).2.1 rfl) ho I.free
 ·obtain⟨v,o,ho,hd⟩:=I.cell x c e;exact free c o (λz=>(hch c z).2.2.1 x c e rfl) ho (I.eD x c e)
 ·obtain⟨e,n,ne,nf,d⟩:=I.pin p hp;have nch:p.1∉ch:=λz=>(hch p.1 z).2.2.2 p hp rfl;exact⟨keep p.1 p.2 ne nf nch e n,free p.1 p.2 nch e n,ne,nf,d⟩
theorem Inv.un(I:Inv X pins σ H s)(u:Un X.fs [] H H' s.heap h')(aN:e7 X.prog X.w H' h'):Inv X pins σ H' { s with heap:=h',toks:=t' }:=by
 obtain⟨m,⟨o,es,ep,ho,r⟩,_⟩:=id I.loc;obtain⟨sl,hL⟩:=u.any ho I.free (by simp);exact I.step (g':=s.gens) (d':=s.drawn) (ch:=[]) (λ_ z=>nomatch z) (λb o _ hb _ e n=>u.keep b o e n hb (by simp)) (λb o _ hb _ e n=>u.slot b o e n hb (by simp)) (λb o _ e n=>u.free b o e n (by simp)) (λb o _ e=>u.there b o e (by simp)) u.iD u.hZ u.hJ (λm' hm=>by
  obtain⟨o',es',ep',ho',r'⟩:=hm;rw[ho]at ho';cases ho';exact⟨_,es',ep',hL,r'⟩) aN I.bare
theorem Inv.call(I:Inv X pins σ H s)(u:Un (i9 X.stack) ch H H' s.heap h')(aN:e7 X.prog X.w H' h')(hg:AllBare g')
  (hch:∀b∈ch,(b∈X.ex\/X.s₀.heap.objs.size<=b)/\b≠X.env.locals/\(∀x c,X.env.cells.lookup x=some c->c≠b)/\∀p∈X.pn++pins,p.1≠b):
  Inv X pins σ H' { s with heap:=h',gens:=g',drawn:=d',toks:=t' }:=by
 obtain⟨m,⟨o,es,ep,ho,r⟩,_⟩:=id I.loc;obtain⟨sl,hL⟩:=u.any ho I.free λz=>(hch _ z).2.1 rfl;exact I.step (ch:=ch) hch (λb o hL hb hc e n=>u.keep b o e n (λz=>(i_.mp (I.yi b z)).elim hL hb) hc) (λb o _ _ hc e n=>u.any e n hc) (λb o hc e n=>u.free b o e n hc) (λb o hc e=>u.there b o e hc) u.iD u.hZ u.hJ (λm' hm=>by
  obtain⟨o',es',ep',ho',r'⟩:=hm;rw[ho]at ho';cases ho';exact⟨_,es',ep',hL,r'⟩) aN hg
theorem Inv.m9(I:Inv X pins σ H s)(k:∀b o,b≠it->s.heap.get? b=some o->h'.get? b=some o)(hn:H it=none)(hL:it≠X.env.locals)
  (h1:it∈X.ex\/X.s₀.heap.objs.size<=it) (h2:∀x c,X.env.cells.lookup x=some c->c≠it) (h3:∀p∈X.pn++pins,p.1≠it):Inv X pins σ H { s with heap:=h',toks:=t' }:=by
 have nit:∀b u,H b=some u->b≠it:=λb u e z=>by rw[z,hn]at e;cases e
 refine I.step (g':=s.gens) (d':=s.drawn) (ch:=[it]) (λb hb=>?_) (λb o _ _ hc e _=>k b o (λz=>hc (by simp[z])) e) (λb o _ _ hc e _=>⟨o.slots,k b o (λz=>hc (by simp[z])) e⟩) (λ_ _ _ _ n=>n)
  (λb o hc e=>⟨o,k b o (λz=>hc (by simp[z])) e⟩) (λ_ _ e=>e) (λ_ _ _ e=>e) (λb ps e=>⟨#[],by rw[e];simp⟩) (λm hm=>?_) (λb u e=>?_) I.bare
 ·have e:b=it:=by simpa using hb
  subst e;exact⟨h1,hL,h2,h3⟩
 ·obtain⟨o,es,ep,ho,r⟩:=hm;exact⟨o,es,ep,k _ o (Ne.symm hL) ho,r⟩
 ·refine(I.aN b u e).gM (λc v hc q=>k c v ?_ q) (λ_ q=>q) λ_ _ q=>q;rcases hc with z|z
  ·rw[z];exact nit b u e
  ·exact nit c _ z
theorem Inv.tok(I:Inv X pins σ H s)(t:Nat):Inv X pins σ H { s with toks:=t }:=I.un (h':=s.heap) (t':=t) Un.refl I.aN
theorem Inv.kept(I:Inv X pins σ H s)(k:∀b u,s.heap.get? b=some u->h'.get? b=some u):Inv X pins σ H { s with heap:=h',toks:=t' }:=I.un (Un.kept k) (I.aN.kept k)
theorem Inv.laid{a:Addr}{o:HO}{t':Nat}(I:Inv X pins σ H s)(k:∀b u,s.heap.get? b=some u->h'.get? b=some u)(hp:s.heap.objs.size<=a)(new:a0 X.prog X.w (upd H a o) h' a o):
  Inv X pins σ (upd H a o) { s with heap:=h',toks:=t' }:=I.un (Un.laid k hp (I.aN.fresh hp)) (I.aN.laid k hp new)
theorem Inv.write(I:Inv X pins σ H s)(mu:X0 (H x))(he:e=x\/H e=some (.own x))(k:∀b u,b≠e->s.heap.get? b=some u->h'.get? b=some u)(heo:∃u,h'.get? e=some u)
  (new:a0 X.prog X.w (upd H x o) h' x o):Inv X pins σ (upd H x o) { s with heap:=h',toks:=t' }:=I.un (Un.write mu he k heo) (I.aN.write mu he k heo new)
theorem Inv.weak(I:Inv X pins σ H s)(hl:σ'.length=σ.length)(w:∀(i:Nat) v,σ'[i]?=some (some v)->σ[i]?=some (some v)):Inv X pins σ' H s:=
 ⟨I.ok,I.os,I.bare,I.base,let ⟨m,hn,hl'⟩:=I.loc;⟨m,hn,λi x v e1 e2 e3=>hl' i x v e1 (w i v e2) e3⟩,I.cell,I.free,I.eD,I.pin,I.aN,hl.trans I.len⟩
theorem Inv.j9{pins':Lo}(I:Inv X pins σ H s)(h:∀p∈pins',s.heap.get? p.1=some p.2/\H p.1=none/\p.1≠X.env.locals/\p.1∉X.fs/\∀v,p.2.data≠.cell v):Inv X pins' σ H s:=
 ⟨I.ok,I.os,I.bare,I.base,I.loc,I.cell,I.free,I.eD,λp hp=>(fY.mp hp).elim (λz=>I.pin p (BP _ z)) (h p),I.aN,I.len⟩
theorem m8{N:List Str}(hN:N.Nodup){i j:Nat}{x:Str}(a:N[i]?=some x)(b:N[j]?=some x):i=j:=by
 obtain⟨h1,e1⟩:=o6.mp a;obtain⟨h2,e2⟩:=o6.mp b;exact(List.getElem_inj hN).mp (e1.trans e2.symm)
theorem GG{M:Model}{A:Around}{E:Vs}{i:Nat}{x:Str}{v:V}{u:Value}{Q:Unit->Shared->Prop}(I:Inv X pins σ H s)(hN:X.N.Nodup)(hi:X.N[i]?=some x)(hx:Loc X.env.scope x)(r:RelV v u)
  (h:∀s',Inv X pins (σ.set i (some v)) H s'->(∃a,Heap.SameBut a s.heap s'.heap/\(a=X.env.locals\/X.env.cells.lookup x=some a))->Q () s') (hf:X.fn x=true\/X.env.scope.names.lookup x=some .local:=by first|exact .inl rfl|exact .inr rfl|assumption):wpAny M A (storeName X.env x u) Q E s:=by
 obtain⟨m,hn,hl⟩:=id I.loc;have hcls:(X.env.scope.kind == .class || (X.env.scope.kind == .module&&X.env.locals != X.env.globals))=false:=by rw[I.ok.kind];rfl
 have hiσ:i<σ.length:=by rw[I.len];exact(o6.mp hi).1
 have Jh:=I.Jh;have tracked:∀{a:Addr}{h':Heap},(∃o,s.heap.get? a=some o/\H a=none)->Heap.SameBut a s.heap h'->e7 X.prog X.w H h':=λ{a h'} ha hs b ob e=>by
  obtain⟨_,_,hfree⟩:=ha;refine(I.aN b ob e).gM (λc w' hc q=>(hs.2 c ?_).trans q) (λ_ q=>q) λ_ _ q=>q;rintro rfl;rcases hc with rfl|hc
  ·rw[hfree]at e;cases e
  ·rw[hfree]at hc;cases hc
 rcases hx with hk|hk
 ·refine wpAny_storeName_local hk hn (λh' hn' hs=>?_) hcls;obtain⟨oL,_,_,hoL,_⟩:=id hn;refine h _ ⟨I.ok,I.os,I.bare,⟨λb o e n hb hx=>?_,λb o e n hb hx=>?_,I.base.free,λb o e hx=>?_,I.base.iD,I.base.hZ,I.base.hJ⟩,⟨_,hn',λj y v' e1 e2 e3=>?_⟩,λy c e=>?_,I.free,I.eD,λp hp=>?_,tracked ⟨oL,hoL,I.free⟩ hs,by simpa using I.len⟩ ⟨_,hs,.inl rfl⟩
  ·exact(hs.2 b (fE (g8 (cH e) I.ok.above))).trans (I.base.keep b o e n hb hx)
  ·obtain⟨sl,e1⟩:=I.base.slot b o e n hb hx;exact⟨sl,(hs.2 b (fE (g8 (cH e) I.ok.above))).trans e1⟩
  ·obtain⟨o',e1⟩:=I.base.there b o e hx;exact⟨o',(hs.2 b (fE (g8 (cH e) I.ok.above))).trans e1⟩
  ·by_cases hj:j=i
   ·subst hj;rw[hi]at e1;cases e1;rw[V6 hiσ]at e2;cases e2;exact⟨u,r,.inl ⟨hk,by simp⟩⟩
   ·rw[PB (Ne.symm hj)]at e2;obtain⟨u',r',q⟩:=hl j y v' e1 e2 e3;refine⟨u',r',?_⟩;rcases q with ⟨k,e⟩|⟨k,c,e,z⟩
    ·refine .inl ⟨k,?_⟩;have:y≠x:=λe=>hj (m8 hN e1 (e▸hi));simp[this,e]
    ·exact .inr ⟨k,c,e,z.sameBut hs (Jh y c e)⟩
  ·obtain⟨w',z⟩:=I.cell y c e;exact⟨w',z.sameBut hs (Jh y c e)⟩
  ·obtain⟨e,n,ne,nf,d⟩:=I.pin p hp;exact⟨(hs.2 p.1 ne).trans e,n,ne,nf,d⟩
 ·have hfn:X.fn x=true:=by
   rcases hf with z|z
   ·exact z
   ·rw[z]at hk;cases hk
  obtain⟨c,hc⟩:=I.ok.has x (.inl hk);obtain⟨w',z⟩:=I.cell x c hc;refine wpAny_storeName_cell I.ok.kind hk hc z (λh' hc' hs=>?_);obtain⟨oc,hoc,hocd⟩:=id z;refine h { s with heap:=h' } ⟨I.ok,I.os,I.bare,⟨λb o e n hb hx=>?_,λb o e n hb hx=>?_,I.base.free,λb o e hx=>?_,I.base.iD,I.base.hZ,I.base.hJ⟩,⟨m,hn.sameBut hs (Ne.symm (Jh x c hc)),λj y v' e1 e2 e3=>?_⟩,λy c' e=>?_,I.free,I.eD,λp hp=>?_,tracked ⟨oc,hoc,I.eD x c hc⟩ hs,by simpa using I.len⟩ ⟨c,hs,.inr hc⟩
  ·exact(hs.2 b (fE (g8 (cH e) (I.ok.VG x c hfn hc)))).trans (I.base.keep b o e n hb hx)
  ·obtain⟨sl,e1⟩:=I.base.slot b o e n hb hx;exact⟨sl,(hs.2 b (fE (g8 (cH e) (I.ok.VG x c hfn hc)))).trans e1⟩
  ·obtain⟨o',e1⟩:=I.base.there b o e hx;exact⟨o',(hs.2 b (fE (g8 (cH e) (I.ok.VG x c hfn hc)))).trans e1⟩
  ·by_cases hj:j=i
   ·subst hj;rw[hi]at e1;cases e1;rw[V6 hiσ]at e2;cases e2;exact⟨u,r,.inr ⟨.inl hk,c,hc,hc'⟩⟩
   ·rw[PB (Ne.symm hj)]at e2;obtain⟨u',r',q⟩:=hl j y v' e1 e2 e3;refine⟨u',r',?_⟩;rcases q with q|⟨k,c',e,z'⟩
    ·exact .inl q
    ·refine .inr ⟨k,c',e,z'.sameBut hs ?_⟩;rintro rfl;exact hj (m8 hN e1 (I.ok.inj _ _ _ e hc▸hi))
  ·by_cases hcc:c'=c
   ·subst hcc;exact⟨_,hc'⟩
   ·obtain⟨w2,z2⟩:=I.cell y c' e;exact⟨w2,z2.sameBut hs hcc⟩
  ·obtain⟨e,n,ne,nf,d⟩:=I.pin p hp;refine⟨(hs.2 p.1 ?_).trans e,n,ne,nf,d⟩;intro q;rw[q,hoc]at e;have q':oc=p.2:=Option.some.inj e;exact d w' (by rw[<-q'];exact hocd)
theorem fR{M:Model}{A:Around}{E:Vs}{i:Nat}{x:Str}{v:V}{u:Value}{Q:Unit->Shared->Prop}(I:Inv X pins σ H s)(hN:X.N.Nodup)(hi:X.N[i]?=some x)(hx:Loc X.env.scope x)(r:RelV v u)
  (h:∀s',Inv X pins (σ.set i (some v)) H s'->Q () s') (hf:X.fn x=true\/X.env.scope.names.lookup x=some .local:=by first|exact .inl rfl|exact .inr rfl|assumption):wpAny M A (storeName X.env x u) Q E s:=
 GG I hN hi hx r (λs' I' _=>h s' I') hf
theorem Inv.oI(I:Inv X pins σ H s)(ho:s'.os=s.os)(u:Un (i9 X.stack) ch H H' s.heap s'.heap)(aN:e7 X.prog X.w H' s'.heap)(hg:AllBare s'.gens)
  (hch:∀b∈ch,(b∈X.ex\/X.s₀.heap.objs.size<=b)/\b≠X.env.locals/\(∀x c,X.env.cells.lookup x=some c->c≠b)/\∀p∈X.pn++pins,p.1≠b):Inv X pins σ H' s':=by
 obtain⟨h',g',d',t',o'⟩:=s';have e:o'=s.os:=ho;subst e;exact I.call (g':=g') (t':=t') (d':=d') u aN hg hch
end
noncomputable abbrev XK:=Value->Option Addr->Hp->Prop
noncomputable abbrev St:=List (Option V)
noncomputable abbrev VK:=V->Hp->Prop
noncomputable abbrev TE:=St->Hp->VK->Prop
noncomputable abbrev TT:=St->Hp->(Bool->Hp->Prop)->Prop
noncomputable abbrev TA:=St->Hp->(List V->Hp->Prop)->Prop
structure Ends where
 nx:St->Hp->Prop
 rt:VK
 bk:St->Hp->Prop:=λ_ _=>False
 ct:St->Hp->Prop:=λ_ _=>False
noncomputable abbrev TS:=Ends->St->Hp->Prop
def EP(X:Cx)(pins:Lo)(σ:St)(Q:VK)(u:Value)(s':Shared):Prop:=∃v H',Inv X pins σ H' s'/\RelV v u/\Q v H'
def TP(X:Cx)(pins:Lo)(σ:St)(Q:Bool->Hp->Prop)(b:Bool)(s':Shared):Prop:=∃H',Inv X pins σ H' s'/\Q b H'
def AP(X:Cx)(pins:Lo)(σ:St)(Q:List V->Hp->Prop)(us:List Value)(s':Shared):Prop:=∃vs H',Inv X pins σ H' s'/\Vals vs us/\Q vs H'
def SP(X:Cx)(pins:Lo)(D:Ends)(f:Flow)(s':Shared):Prop:=
 match f with
 |.next=>∃σ' H',Inv X pins σ' H' s'/\D.nx σ' H'
 |.brk=>∃σ' H',Inv X pins σ' H' s'/\D.bk σ' H'
 |.cont=>∃σ' H',Inv X pins σ' H' s'/\D.ct σ' H'
 |.ret u=>∃v σ' H',Inv X pins σ' H' s'/\RelV v u/\D.rt v H'
def PE(X:Cx)(e:Expr)(t:TE):Prop:=
 ∀(pins:Lo) (s:Shared) (σ:St) (H:Hp) (Q:VK),Inv X pins σ H s->t σ H Q->wpAny (model X.prog X.w) X.A (eval e X.env) (EP X pins σ Q) X.xe s
def PT(X:Cx)(e:Expr)(t:TT):Prop:=
 ∀(pins:Lo) (s:Shared) (σ:St) (H:Hp) (Q:Bool->Hp->Prop),Inv X pins σ H s->t σ H Q->wpAny (model X.prog X.w) X.A (isTrue e X.env (eval e X.env)) (TP X pins σ Q) X.xe s
def PW(X:Cx)(e:Expr)(t:TT):Prop:=
 ∀(whole:Sem Value) (pins:Lo) (s:Shared) (σ:St) (H:Hp) (Q:Bool->Hp->Prop),Inv X pins σ H s->t σ H Q->wpAny (model X.prog X.w) X.A (isTrue e X.env whole) (TP X pins σ Q) X.xe s
theorem PW.pt(h:PW X e t):PT X e t:=h _
def PA(X:Cx)(es:List Expr)(t:TA):Prop:=
 ∀(pos:Pos) (pins:Lo) (s:Shared) (σ:St) (H:Hp) (Q:List V->Hp->Prop),Inv X pins σ H s->t σ H Q->wpAny (model X.prog X.w) X.A (spliced (backTo pos (starEach es X.env))) (AP X pins σ Q) X.xe s
def PS(X:Cx)(st:Stmt)(t:TS):Prop:=
 ∀(pins:Lo) (s:Shared) (σ:St) (H:Hp) (D:Ends),Inv X pins σ H s->t D σ H->wpAny (model X.prog X.w) X.A (exec st X.env) (SP X pins D) X.xe s
def pV(X:Cx)(st:List Stmt)(t:TS):Prop:=
 ∀(pins:Lo) (s:Shared) (σ:St) (H:Hp) (D:Ends),Inv X pins σ H s->t D σ H->wpAny (model X.prog X.w) X.A (execs st X.env) (SP X pins D) X.xe s
theorem bj{α:Type}{t:Sem α}{Q Q':α->Shared->Prop}{M:Model}{A:Around}{E:Vs}{s:Shared}(h:wpAny M A t Q E s)(hQ:∀a s,Q a s->Q' a s):wpAny M A t Q' E s:=oN h hQ λ_ _ x=>x
section
variable{X:Cx}
noncomputable def vAt:List (Option V)->Nat->(V->Prop)->Prop
 |[],_,_=>False
 |o::_,0,Q=>match o with
  |some v=>Q v
  |none=>False
 |_::r,n+1,Q=>vAt r n Q
theorem Jl:∀{σ:List (Option V)}{i:Nat}{Q:V->Prop},vAt σ i Q->∃v,σ[i]?=some (some v)/\Q v
 |some v::_,0,_,h=>⟨v,rfl,h⟩
 |_::r,n+1,_,h=>Jl (σ:=r) (i:=n) h
def Q_(i:Nat):TE:=λσ H Q=>vAt σ i λv=>Q v H
def tC(v:V):TE:=λ_ H Q=>Q v H
theorem Vo{i:Nat}{x:Str}{pos:Pos}(hN:X.N[i]?=some x)(hv:Vis X.env.scope x)(hd:(x == ("__debug__" : Str))=false:=by decide)(hcd:(x == ("__classdict__" : Str))=false:=by decide):PE X (.Name x pos) (Q_ i):=by
 intro pins s σ H Q I h;obtain⟨v,e,h⟩:=Jl h;obtain⟨m,hn,hl⟩:=I.loc;obtain⟨u,r,l⟩:=hl i x v hN e hv;have fin:EP X pins σ Q u s:=⟨v,H,I,r,h⟩
 rcases l with ⟨hk,hm⟩|⟨hk,c,hc,hcell⟩
 ·exact wpAny_Name (wpAny_loadName_local I.ok.kind hk hn hm fin) hd
 ·rcases hk with hk|hk
  ·exact wpAny_Name (wpAny_loadName_cell I.ok.kind hk hc hcell fin) hd
  ·exact wpAny_Name (wpAny_loadName_free I.ok.kind hk hc hcell fin hcd) hd
theorem af:PE X (.Constant (.int i) j pos) (tC (.int i)):=λ_ _ _ H _ I h=>wpAny_Constant_int ⟨.int i,H,I.tok _,⟨_,rfl⟩,h⟩
theorem bw:PE X (.Constant (.bool b) j pos) (tC (.bl b)):=λ_ _ _ H _ I h=>Constant_bool ⟨.bl b,H,I,rfl,h⟩
theorem f9:PE X (.Constant .none j pos) (tC .bI):=λ_ _ _ H _ I h=>Constant_none ⟨.bI,H,I,rfl,h⟩
theorem au:PE X (.Constant (.str x) j pos) (tC (.str x)):=λ_ _ _ H _ I h=>Calls.Constant_str ⟨.str x,H,I.tok _,⟨_,rfl⟩,h⟩
def Gl(X:Cx)(x:Str):Prop:=X.env.kindOf x=some .globalImplicit
theorem iM{E:Vs}{pins:Lo}{s:Shared}{σ:St}{H:Hp}{x:Str}{u:Value}{pos:Pos}{Q:Vs}(I:Inv X pins σ H s)(hg:Gl X x)(hm:X.mg x=some u)(h:Q u s)
  (hd:(x == ("__debug__" : Str))=false:=by decide):wpAny (model X.prog X.w) X.A (eval (.Name x pos) X.env) Q E s:=
 Calls.Name_function_global I.ok.kind hg (Calls.loadGlobal_global (by rw[I.ok.glob];exact I.mod.glob.keeps I.bk) hm h) hd
theorem fZ{E:Vs}{pins:Lo}{s:Shared}{σ:St}{H:Hp}{x:Str}{u:Value}{pos:Pos}{Q:Vs}(I:Inv X pins σ H s)(hg:Gl X x)(hm:X.mg x=none)(hv:bootBuiltins x=some u)(h:Q u s)
  (hn:x ≠ "__name__" := by decide) (hd:(x == ("__debug__" : Str))=false:=by decide):wpAny (model X.prog X.w) X.A (eval (.Name x pos) X.env) Q E s:=by
 obtain⟨mb,h1,h2⟩:=I.mod.blt;exact Calls.Name_function_global I.ok.kind hg (Calls.loadGlobal_builtin (by rw[I.ok.glob];exact I.mod.glob.keeps I.bk) hm (by rw[I.ok.blt];exact h1.keeps I.bk) ((h2 x hn).trans hv) h) hd
theorem eB(hg:Gl X x)(hm:X.mg x=some u)(r:RelV v u)(hd:(x == ("__debug__" : Str))=false:=by decide):PE X (.Name x pos) (tC v):=
 λ_ _ _ H _ I h=>iM I hg hm ⟨v,H,I,r,h⟩ hd
theorem cV{x:Str}{v:V}{u:Value}{pos:Pos}(hg:Gl X x)(hm:X.mg x=none)(hv:bootBuiltins x=some u)(r:RelV v u)(hn:x ≠ "__name__" := by decide)(hd:(x == ("__debug__" : Str))=false:=by decide):PE X (.Name x pos) (tC v):=
 λ_ _ _ H _ I h=>fZ I hg hm hv ⟨v,H,I,r,h⟩ hn hd
variable{a b:Expr}{ta tb:TE}{pos:Pos}
def PC(X:Cx)(op:CmpOp)(a b:Expr)(t:TE):Prop:=
 ∀(pins:Lo) (s:Shared) (σ:St) (H:Hp) (Q:VK),Inv X pins σ H s->t σ H Q->
  wpAny (model X.prog X.w) X.A (eval a X.env) (λv s₁=>wpAny (model X.prog X.w) X.A (eval b X.env) (λu s₂=>wpAny (model X.prog X.w) X.A (compareOp op v u) (EP X pins σ Q) X.xe s₂) X.xe s₁) X.xe s
theorem zN(b:Expr){op:CmpOp}(h:op≠.In)(h2:op≠.NotIn):behindInMarks op b=false:=by
 have e1:(op == CmpOp.In)=false:=by cases op<;>first|rfl|exact absurd rfl h
 have e2:(op == CmpOp.NotIn)=false:=by cases op<;>first|rfl|exact absurd rfl h2
 cases b<;>simp[behindInMarks,e1,e2]
def tB(t:TE):TT:=λσ H Q=>t σ H λx H1=>∃c,x=.bl c/\Q c H1
theorem U3(h:PC X op a b t)(h1:behindInMarks op b=false:=by first|exact zN _ (by decide) (by decide)|rfl):PE X (.Compare a [op] [b] pos) t:=λpins s σ H Q I hw=>wpAny_Compare1 (h pins s σ H Q I hw) h1
theorem nN(h:PC X op a b t)(h1:behindInMarks op b=false:=by first|exact zN _ (by decide) (by decide)|rfl):PT X (.Compare a [op] [b] pos) (tB t):=by
 intro pins s σ H Q I hw;refine wpAny_isTrue_Compare1 (bj (h pins s σ H _ I hw) λv s1 h1=>bj h1 λu s2 h2=>bj h2 λc s3 ⟨x,H1,I1,r1,q1⟩=>?_) h1;obtain⟨d,rfl,q⟩:=q1;cases r1;exact Wg ⟨H1,I1,q⟩
theorem aW(h:PE X e t)(he:∀whole,isTrue e X.env whole=(do let v <-whole;standAt e.pos;holding [v] (truthy v)):=by intro _;rfl):PT X e (tB t):=by
 intro pins s σ H Q I hw;refine isTrue_plain (bj (h pins s σ H _ I hw) λv s1 ⟨x,H1,I1,r1,q1⟩=>?_) (he _);obtain⟨d,rfl,q⟩:=q1;cases r1;exact Wg ⟨H1,I1,q⟩
variable{tA tB':TT}{rest:List Expr}
def aaK(t u:TT):TT:=λσ H Q=>t σ H λc H1=>if c=true then u σ H1 Q else Q false H1
def tOr(t u:TT):TT:=λσ H Q=>t σ H λc H1=>if c=true then Q true H1 else u σ H1 Q
def abd(t:TT):TT:=λσ H Q=>t σ H λc H1=>Q (!c) H1
theorem rN(ha:PT X a tA):PW X (.BoolOp .And [a] pos) tA:=by
 intro wh pins s σ H Q I h;refine isTrue_and (bj (ha pins s σ H Q I h) λc s1 e=>?_);cases c with
 |true=>exact isTrue_and_nil e
 |false=>exact e
theorem eE(ha:PT X a tA):PW X (.BoolOp .Or [a] pos) tA:=by
 intro wh pins s σ H Q I h;refine isTrue_or (bj (ha pins s σ H Q I h) λc s1 e=>?_);cases c with
 |false=>exact isTrue_or_nil e
 |true=>exact e
theorem AY(ha:PT X a tA)(hb:PW X (.BoolOp .And (b::rest) pos) tB'):PW X (.BoolOp .And (a::b::rest) pos) (aaK tA tB'):=by
 intro wh pins s σ H Q I h;refine isTrue_and (bj (ha pins s σ H _ I h) λc s1 ⟨H1,I1,q1⟩=>?_);cases c with
 |true=>exact hb wh pins s1 σ H1 Q I1 q1
 |false=>exact⟨H1,I1,q1⟩
theorem eT(ha:PT X a tA)(hb:PW X (.BoolOp .Or (b::rest) pos) tB'):PW X (.BoolOp .Or (a::b::rest) pos) (tOr tA tB'):=by
 intro wh pins s σ H Q I h;refine isTrue_or (bj (ha pins s σ H _ I h) λc s1 ⟨H1,I1,q1⟩=>?_);cases c with
 |true=>exact⟨H1,I1,q1⟩
 |false=>exact hb wh pins s1 σ H1 Q I1 q1
theorem b_(ha:PT X a tA):PT X (.UnaryOp .Not a pos) (abd tA):=by
 intro pins s σ H Q I h;exact isTrue_not (ha pins s σ H (λc H1=>Q (!c) H1) I h)
def Yb(ta tb:TE):TE:=λσ H Q=>ta σ H λx H1=>∃c,x=.bl c/\if c=true then tb σ H1 Q else Q (.bl false) H1
def acK(ta tb:TE):TE:=λσ H Q=>ta σ H λx H1=>∃c,x=.bl c/\if c=true then Q (.bl true) H1 else tb σ H1 Q
def ZL(ta:TE):TE:=λσ H Q=>ta σ H λx H1=>∃c,x=.bl c/\Q (.bl (!c)) H1
theorem h8(h:PE X a t):PE X (.BoolOp op [a] pos) t:=λpins s σ H Q I hw=>BoolOp_one (h pins s σ H Q I hw)
theorem fA(ha:PE X a ta)(hb:PE X (.BoolOp .And (b::rest) pos) tb):PE X (.BoolOp .And (a::b::rest) pos) (Yb ta tb):=by
 intro pins s σ H Q I h;refine BoolOp_and (bj (ha pins s σ H _ I h) λv s1 ⟨x,H1,I1,r1,q1⟩=>?_);obtain⟨c,rfl,q1⟩:=q1;cases r1;refine Wg ?_;cases c with
 |true=>exact hb pins s1 σ H1 Q I1 q1
 |false=>exact⟨.bl false,H1,I1,rfl,q1⟩
theorem K4(ha:PE X a ta):PE X (.UnaryOp .Not a pos) (ZL ta):=by
 intro pins s σ H Q I h;refine UnaryOp_ (bj (ha pins s σ H _ I h) λv s1 ⟨x,H1,I1,r1,q1⟩=>?_);obtain⟨c,rfl,q1⟩:=q1;cases r1;exact not_of (Wg ⟨.bl (!c),H1,I1,rfl,q1⟩)
def tIf(t:TT)(ta tb:TE):TE:=λσ H Q=>t σ H λc H1=>if c=true then ta σ H1 Q else tb σ H1 Q
theorem AA(hc:PT X c tA)(ha:PE X a ta)(hb:PE X b tb):PE X (.IfExp c a b pos) (tIf tA ta tb):=by
 intro pins s σ H Q I h;refine wpAny_IfExp (bj (hc pins s σ H _ I h) λd s1 ⟨H1,I1,q1⟩=>?_);cases d with
 |true=>exact ha pins s1 σ H1 Q I1 q1
 |false=>exact hb pins s1 σ H1 Q I1 q1
end
def aI(K:Wf)(H:Hp)(a:Addr)(xs:List V):Prop:=
 Rd H a (.lst xs) \/
  ∃(o:Obj) (its:Array Value) (n:Nat),K.lookup a=some o/\o.cls=.type "list" /\ o.dict=none/\o.data=.seq its n/\its.size<=sizeLine/\Vals xs its.toList
def bB(K:Wf)(H:Hp)(a:Addr)(xs:List V):Prop:=
 Rd H a (.tup xs) \/
  ∃(o:Obj) (its:Array Value) (n:Nat),K.lookup a=some o/\o.cls=.type "tuple" /\ o.data=.seq its n/\its.size<=sizeLine/\Vals xs its.toList
noncomputable def aax:Value->Option V
 |.none=>some .bI
 |.bool b=>some (.bl b)
 |.int i _=>some (.int i)
 |.str x _=>some (.str x)
 |.bytes b _=>some (.AK b)
 |.float b _=>some (.UC b)
 |.ref a=>some (.ref a)
 |.type n=>some (.ty n)
 |_=>none
theorem RelV.abs(r:RelV x u):aax u=some x:=by
 cases x with
 |bI=>cases r;rfl
 |bl _=>cases r;rfl
 |int _=>obtain⟨t,rfl⟩:=r;rfl
 |str _=>obtain⟨t,rfl⟩:=r;rfl
 |AK _=>obtain⟨t,rfl⟩:=r;rfl
 |UC _=>obtain⟨t,rfl⟩:=r;rfl
 |ref _=>cases r;rfl
 |ty _=>cases r;rfl
theorem RelV.inj{x y:V}{u:Value}(r:RelV x u)(q:RelV y u):x=y:=Option.some.inj (r.abs.symm.trans q.abs)
theorem Vals.inj:∀{xs ys:List V}{us:List Value},Vals xs us->Vals ys us->xs=ys
 |_,_,_,.nil,.nil=>rfl
 |_,_,_,.cons r t,.cons r' t'=>by rw[r.inj r',Vals.inj t t']
section
variable{X:Cx}{pins:Lo}{σ:St}{H:Hp}{s:Shared}{a:Addr}{xs ys:List V}
theorem aI.of{K:Wf}(h:H a=some (.lst xs)):aI K H a xs:=.inl (.inl h)
theorem bB.of{K:Wf}(h:H a=some (.tup xs)):bB K H a xs:=.inl (.inl h)
theorem Inv.list(I:Inv X pins σ H s)(h:aI X.K H a xs):∃its:List Value,Vals xs its/\PlainL s.heap a its.toArray/\xs.length<=sizeLine:=by
 rcases h with h|⟨o,its,n,hk,hc,hd,hs,hz,r⟩
 ·obtain⟨z,its,n,r,e⟩:=h.ok I.aN;exact⟨its,r,⟨_,n,e,rfl,rfl,rfl⟩,z⟩
 ·refine⟨its.toList,r,⟨o,n,I.ib a o hk,hc,hd,by simpa using hs⟩,?_⟩;have e:=r.length;simp only[Array.length_toList]at e;omega
theorem Inv.tuple(I:Inv X pins σ H s)(h:bB X.K H a xs):∃its:List Value,Vals xs its/\IsTup s.heap a its.toArray/\xs.length<=sizeLine:=by
 rcases h with h|⟨o,its,n,hk,hc,hs,hz,r⟩
 ·obtain⟨z,its,r,p⟩:=h.ok I.aN;exact⟨its,r,p,z⟩
 ·refine⟨its.toList,r,⟨o,I.ib a o hk,hc,n,by simpa using hs⟩,?_⟩;have e:=r.length;simp only[Array.length_toList]at e;omega
theorem Inv.eZ(I:Inv X pins σ H s)(h:aI X.K H a xs)(h':aI X.K H a ys):xs=ys:=by
 obtain⟨its,r,⟨o,n,e,_,_,d⟩,_⟩:=I.list h;obtain⟨its',r',⟨o',n',e',_,_,d'⟩,_⟩:=I.list h';rw[e]at e';cases e';rw[d]at d';injection d' with d1 _;have:its=its':=by simpa using congrArg Array.toList d1
 subst this;exact r.inj r'
theorem Inv.jh(I:Inv X pins σ H s)(h:bB X.K H a xs)(h':bB X.K H a ys):xs=ys:=by
 obtain⟨its,r,⟨o,e,_,n,d⟩,_⟩:=I.tuple h;obtain⟨its',r',⟨o',e',_,n',d'⟩,_⟩:=I.tuple h';rw[e]at e';cases e';rw[d]at d';injection d' with d1 _;have:its=its':=by simpa using congrArg Array.toList d1
 subst this;exact r.inj r'
end
noncomputable abbrev Cx.ni(X:Cx)(E:Vs):Cx:={ X with xe:=E }
noncomputable abbrev Cx.VV(X:Cx):Cx:=X.ni λ_ _=>False
theorem Cx.Ok.ni{X:Cx}(ok:X.Ok)(E:Vs):(X.ni E).Ok:=
 ⟨ok.mod,ok.kind,ok.glob,ok.blt,ok.above,ok.inj,ok.has,ok.VG,ok.hd,ok.frames,ok.PN,ok.Wc,ok.bs,ok.Hn,ok.Bz,ok.zy,ok.ig,ok.PH⟩
theorem Cx.Ok.eQ{X:Cx}{E:Vs}(ok:(X.ni E).Ok):X.Ok:=
 ⟨ok.mod,ok.kind,ok.glob,ok.blt,ok.above,ok.inj,ok.has,ok.VG,ok.hd,ok.frames,ok.PN,ok.Wc,ok.bs,ok.Hn,ok.Bz,ok.zy,ok.ig,ok.PH⟩
section
variable{X:Cx}{pins:Lo}{σ:St}{H:Hp}{s:Shared}{E:Vs}
theorem Inv.ni(I:Inv X pins σ H s)(E:Vs):Inv (X.ni E) pins σ H s:=⟨I.ok.ni E,I.os,I.bare,I.base,I.loc,I.cell,I.free,I.eD,I.pin,I.aN,I.len⟩
theorem Inv.eQ(I:Inv (X.ni E) pins σ H s):Inv X pins σ H s:=⟨I.ok.eQ,I.os,I.bare,I.base,I.loc,I.cell,I.free,I.eD,I.pin,I.aN,I.len⟩
theorem SP.eQ{D:Ends}{f:Flow}{s':Shared}(h:SP (X.ni E) pins D f s'):SP X pins D f s':=by
 cases f with
 |next=>obtain⟨σ',H',I,q⟩:=h;exact⟨σ',H',I.eQ,q⟩
 |brk=>obtain⟨σ',H',I,q⟩:=h;exact⟨σ',H',I.eQ,q⟩
 |cont=>obtain⟨σ',H',I,q⟩:=h;exact⟨σ',H',I.eQ,q⟩
 |ret u=>obtain⟨v,σ',H',I,r,q⟩:=h;exact⟨v,σ',H',I.eQ,r,q⟩
theorem pV.VV{st:List Stmt}{t:TS}(h:pV X.VV st t):pV X st t:=λpins s σ H D I hw=>
 oN (h pins s σ H D (I.ni _) hw) (λ_ _ q=>q.eQ) λ_ _ z=>False.elim z
end
section
variable{X:Cx}{st:Stmt}{rest:List Stmt}{t u:TS}{e:Expr}{te:TE}{pos:Pos}
def X2:TS:=λD σ H=>D.nx σ H
def aau(t u:TS):TS:=λD σ H=>t { D with nx:=u D } σ H
theorem cN:pV X [] X2:=λ_ _ σ H _ I h=>Wb ⟨σ,H,I,h⟩
theorem aE(h1:PS X st t)(h2:pV X rest u):pV X (st::rest) (aau t u):=by
 intro pins s σ H D I h;refine wpAny_execs_cons (bj (h1 pins s σ H { D with nx:=u D } I h) λf s1 q=>?_);cases f with
 |next=>
  obtain⟨σ',H',I',q⟩:=q;exact h2 pins s1 σ' H' D I' q
 |ret v=>exact q
 |brk=>exact q
 |cont=>exact q
theorem aF(h1:PS X st t):pV X [st] t:=by
 intro pins s σ H D I h;refine wpAny_execs_cons (bj (h1 pins s σ H D I h) λf s1 q=>?_);cases f with
 |next=>exact Wb q
 |ret v=>exact q
 |brk=>exact q
 |cont=>exact q
theorem Inv.quiet{pins:Lo}{σ:St}{H:Hp}{s:Shared}(I:Inv X pins σ H s):interactive X.env=false:=by simp[interactive,I.ok.kind]
def Zg(te:TE):TS:=λD σ H=>te σ H λ_ H1=>D.nx σ H1
theorem bx(he:PE X e te)(hs:swapsWith e none pos.line X.env=pure false:=by rfl):PS X (.Expr e pos) (Zg te):=by
 intro pins s σ H D I h;exact wpAny_Expr_any (bj (he pins s σ H _ I h) λv s1 ⟨x,H1,I1,r1,q1⟩=>⟨σ,H1,I1,q1⟩) I.quiet hs
def aaT(te:TE):TS:=λD σ H=>te σ H D.rt
theorem aj(he:PE X e te):PS X (.Return (some e) pos) (aaT te):=by
 intro pins s σ H D I h;exact wpAny_Return_some (bj (he pins s σ H _ I h) λv s1 ⟨x,H1,I1,r1,q1⟩=>⟨x,σ,H1,I1,r1,q1⟩)
def ZE:TS:=λD _ H=>D.rt .bI H
theorem yj:PS X (.Return none pos) ZE:=λ_ _ σ H _ I h=>wpAny_Return_none ⟨.bI,σ,H,I,rfl,h⟩
def abE(c:TT)(t u:TS):TS:=λD σ H=>c σ H λb H1=>if b=true then t D σ H1 else u D σ H1
theorem ay(hc:PT X c tc)(ha:pV X a t)(hb:pV X b u):PS X (.If c a b pos) (abE tc t u):=by
 intro pins s σ H D I h;refine wpAny_If (bj (hc pins s σ H _ I h) λd s1 ⟨H1,I1,q1⟩=>?_);cases d with
 |true=>exact ha pins s1 σ H1 D I1 q1
 |false=>exact hb pins s1 σ H1 D I1 q1
def Ua:TS:=λ_ _ _=>False
theorem ix:PS X st Ua:=λ_ _ _ _ _ _ h=>h.elim
end
noncomputable abbrev TG:=V->St->Hp->(St->Hp->Prop)->Prop
noncomputable abbrev TL:=List V->St->Hp->(St->Hp->Prop)->Prop
def PG(X:Cx)(target:Expr)(t:TG):Prop:=
 ∀(pins:Lo) (s:Shared) (σ:St) (H:Hp) (v:V) (u:Value) (Q:St->Hp->Prop),Inv X pins σ H s->RelV v u->t v σ H Q->
  wpAny (model X.prog X.w) X.A (assign target X.env u) (λ_ s'=>∃σ' H',Inv X pins σ' H' s'/\Q σ' H') X.xe s
def Xc(X:Cx)(ts:List Expr)(t:TL):Prop:=
 ∀(pins:Lo) (s:Shared) (σ:St) (H:Hp) (vs:List V) (us:List Value) (Q:St->Hp->Prop),Inv X pins σ H s->Vals vs us->t vs σ H Q->
  wpAny (model X.prog X.w) X.A (assignInOrder ((assignEach ts X.env).map (·.2)) us) (λ_ s'=>∃σ' H',Inv X pins σ' H' s'/\Q σ' H') X.xe s
noncomputable abbrev W2:=V->V->V->Hp->(Hp->Prop)->Prop
def X5(X:Cx)(t:W2):Prop:=
 ∀(pins:Lo) (s:Shared) (σ:St) (H:Hp) (o i v:V) (ov iv u:Value) (Q:Hp->Prop),Inv X pins σ H s->RelV o ov->RelV i iv->RelV v u->t o i v H Q->
  wpAny (model X.prog X.w) X.A (setItem ov iv u) (λ_ s'=>∃H',Inv X pins σ H' s'/\Q H') X.xe s
noncomputable abbrev TIp:=V->V->Hp->VK->Prop
def PIp(X:Cx)(op:Operator)(t:TIp):Prop:=
 ∀(pins:Lo) (s:Shared) (σ:St) (H:Hp) (x y:V) (v u:Value) (Q:VK),Inv X pins σ H s->RelV x v->RelV y u->t x y H Q->
  wpAny (model X.prog X.w) X.A (inplaceOp op v u) (EP X pins σ Q) X.xe s
section
variable{X:Cx}{pos:Pos}
def zM(i:Nat):TG:=λv σ H Q=>Q (σ.set i (some v)) H
theorem Q8(hN:X.N.Nodup)(hi:X.N[i]?=some x)(hx:Loc X.env.scope x)(hf:X.fn x=true\/X.env.scope.names.lookup x=some .local:=by first|exact .inl rfl|exact .inr rfl|assumption):PG X (.Name x pos) (zM i):=by
 intro pins s σ H v u Q I r h;exact wpAny_assign_Name (fR I hN hi hx r (λs' I'=>⟨_,H,I',h⟩) hf)
noncomputable def aa6:TL:=λvs σ H Q=>vs=[]/\Q σ H
noncomputable def W5(t:TG)(u:TL):TL:=λvs σ H Q=>∃v r,vs=v::r/\t v σ H λσ' H'=>u r σ' H' Q
theorem cQ:Xc X [] aa6:=by
 intro pins s σ H vs us Q I r h;obtain⟨e,h⟩:=h;subst e;cases r;exact assignInOrder_nil ⟨σ,H,I,h⟩
theorem fD(h1:PG X e t)(h2:Xc X es u)
  (hs:(assignEach (e::es) X.env).map (·.2)=assign e X.env::(assignEach es X.env).map (·.2):=by rfl):Xc X (e::es) (W5 t u):=by
 intro pins s σ H vs us Q I r h;obtain⟨v,vr,e1,h⟩:=h;subst e1;cases r with
 |cons r rr=>
  rw[hs];refine assignInOrder_cons (bj (h1 pins s σ H _ _ _ I r h) λ_ s1 ⟨σ1,H1,I1,q1⟩=>?_);exact h2 pins s1 σ1 H1 _ _ Q I1 rr q1
def Zj(K:Wf)(n:Nat)(t:TL):TG:=λv σ H Q=>∃a xs,v=.ref a/\bB K H a xs/\xs.length=n/\t xs σ H Q
theorem UL{es:List Expr}{k:Nat}{t:TL}{n:Nat}(hc:X.calm=true)(h:Xc X es t)
  (hn:(assignEach es X.env).length=n:=by rfl) (hst:(assignEach es X.env).findIdx? (·.1)=none:=by rfl):PG X (.Tuple es k pos) (Zj X.K n t):=by
 intro pins s σ H v u Q I r hw;obtain⟨a,xs,e1,hq,hl,hw⟩:=hw;subst e1;cases r;obtain⟨its,rv,ht,hz⟩:=I.tuple hq;refine assign_Tuple_tuple (I.ok.hd hc) ht (by simp[hn,<-hl,rv.length]) hst λh' hx=>?_;have I1:Inv X pins σ H { s with heap:=h' }:=I.kept (t':=s.toks) λb o e=>hx b o (fE (cH e)) e;exact h pins _ σ H xs _ Q I1 (by simpa using rv) hw
def abT(to ti:TE)(t:W2):TG:=λv σ H Q=>to σ H λo H1=>ti σ H1 λi H2=>t o i v H2 λH3=>Q σ H3
theorem xE(ho:PE X o to)(hi:PE X i ti)(hs:X5 X t)
  (ha:∀v,assign (.Subscript o i pos) X.env v=(do
   let ov <-holding [v] (eval o X.env)
   let iv <-holding [v,ov] (eval i X.env)
   standAt pos
   holding [v,ov,iv] (setItem ov iv v)
   release [v,ov,iv] []):=by intro _;rfl):PG X (.Subscript o i pos) (abT to ti t):=by
 intro pins s σ H v u Q I r h;rw[ha];refine aw (AS (bj (ho pins s σ H _ I h) λov s1 ⟨x,H1,I1,r1,q1⟩=>?_));refine aw (AS (bj (hi pins s1 σ H1 _ I1 q1) λiv s2 ⟨y,H2,I2,r2,q2⟩=>?_));refine aw (wpAny_standAt (aw (AS (bj (hs pins s2 σ H2 x y v ov iv u _ I2 r1 r2 r q2) λ_ s3 ⟨H3,I3,q3⟩=>?_))));exact wpAny_release ⟨σ,H3,I3,q3⟩
def Rj(te:TE)(g:TG):TS:=λD σ H=>te σ H λx H1=>g x σ H1 D.nx
theorem qC(he:PE X e te)(hg:PG X tg g)(hs:swapsWithSole [tg] e pos.line X.env=pure false:=by rfl)(hw:swappedStores [tg] e X.env=pure none:=by rfl)
  (h1:(assignEach [tg] X.env).map (·.2)=[assign tg X.env]:=by rfl):PS X (.Assign [tg] e pos) (Rj te g):=by
 intro pins s σ H D I h;refine wpAny_Assign_stores (bj (he pins s σ H _ I h) λv s1 ⟨x,H1,I1,r1,q1⟩=>?_) hs hw;rw[h1];exact bj (hg pins s1 σ H1 x v _ I1 r1 q1) λ_ s2 q=>q
theorem Vh(hN:X.N.Nodup)(hi:X.N[i]?=some x)(hx:Loc X.env.scope x)(he:PE X e te)(hs:swapsWith e (some (.Name x pos')) pos.line X.env=pure false:=by rfl)(hf:X.fn x=true\/X.env.scope.names.lookup x=some .local:=by first|exact .inl rfl|exact .inr rfl|assumption):
  PS X (.Assign [.Name x pos'] e pos) (Rj te (zM i)):=by
 intro pins s σ H D I h;refine wpAny_Assign_Name (bj (he pins s σ H _ I h) λv s1 ⟨y,H1,I1,r1,q1⟩=>?_) hs;exact fR I1 hN hi hx r1 (λs2 I2=>⟨_,H1,I2,q1⟩) hf
def aaB(i:Nat)(te:TE)(ti:TIp):TS:=λD σ H=>∃x,σ[i]?=some (some x)/\te σ H λy H1=>ti x y H1 λz H2=>D.nx (σ.set i (some z)) H2
theorem Tr(hN:X.N.Nodup)(hi:X.N[i]?=some x)(hx:Loc X.env.scope x)(he:PE X e te)(ho:PIp X op ti)(hf:X.fn x=true\/X.env.scope.names.lookup x=some .local:=by first|exact .inl rfl|exact .inr rfl|assumption):
  PS X (.AugAssign (.Name x pos') op e pos) (aaB i te ti):=by
 intro pins s σ H D I h;obtain⟨v,e1,h⟩:=h;obtain⟨m,hn,hl⟩:=I.loc;have vis:Vis X.env.scope x:=by rcases hx with k|k;exact .inl k;exact .inr (.inl k)
 obtain⟨u,r,l⟩:=hl i x v hi e1 vis;refine wpAny_AugAssign_Name ?_;have go:wpAny (model X.prog X.w) X.A (eval e X.env) (λw s₂=>wpAny (model X.prog X.w) X.A (inplaceOp op u w) (λr s₃=>wpAny (model X.prog X.w) X.A (storeName X.env x r) (λ_=>SP X pins D .next) X.xe s₃) X.xe s₂) X.xe s:=by
  refine bj (he pins s σ H _ I h) λw s1 ⟨y,H1,I1,r1,q1⟩=>?_;refine bj (ho pins s1 σ H1 v y u w _ I1 r r1 q1) λz s2 ⟨zv,H2,I2,r2,q2⟩=>?_;exact fR I2 hN hi hx r2 (λs3 I3=>⟨_,H2,I3,q2⟩) hf
 rcases l with ⟨hk,hm⟩|⟨hk,c,hc,hcell⟩
 ·exact wpAny_loadName_local I.ok.kind hk hn hm go
 ·rcases hk with hk|hk
  ·exact wpAny_loadName_cell I.ok.kind hk hc hcell go
  ·rcases hx with k|k
   ·have:X.env.scope.names.lookup x=some .free:=hk;rw[k]at this;cases this
   ·have:X.env.scope.names.lookup x=some .free:=hk;rw[k]at this;cases this
noncomputable def ipI(f:Int->Int->Int):TIp:=λx y H Q=>∃i j,x=.int i/\y=.int j/\Q (.int (f i j)) H
theorem Ta:PIp X .Add (ipI λi j=>i+j):=by
 intro pins s σ H x y v u Q I r1 r2 h;obtain⟨i,j,e1,e2,q⟩:=h;subst e1;subst e2;obtain⟨t,rfl⟩:=r1;obtain⟨t',rfl⟩:=r2;exact iadd_int ⟨.int _,H,I.tok _,⟨_,rfl⟩,q⟩
end
section
variable{X:Cx}{pos:Pos}
def Tx(c:TT)(tb:TS):TS:=λD σ H=>∃W:Nat->St->Hp->Prop,(∃m,W m σ H)/\∀m σ H,W m σ H->
 c σ H λb H1=>if b=true then ∃N:St->Hp->Prop,(∀σ' H',N σ' H'->∃m',m'<m/\W m' σ' H')/\tb { D with nx:=N,ct:=N,bk:=D.nx } σ H1 else D.nx σ H1
theorem JX(hp:PassesOwn (model X.prog X.w) X.A X.env X.xe)(hc:PT X c tc)(hb:pV X body tb):PS X (.While c body [] pos) (Tx tc tb):=by
 intro pins s σ H D I h;obtain⟨W,⟨m0,w0⟩,turn⟩:=h;refine wpAny_While (codeAny_whileLoop (λn s'=>∃σ' H',Inv X pins σ' H' s'/\W n σ' H') ?_ m0 ⟨σ,H,I,w0⟩);rintro n s1 ⟨σ1,H1,I1,w1⟩;refine Va hp (bj (hc pins s1 σ1 H1 _ I1 (turn n σ1 H1 w1)) λb s2 ⟨H2,I2,q2⟩=>?_);cases b with
 |true=>
  obtain⟨N,hN,q2⟩:=q2;rw[if_pos rfl];refine Va hp (bj (hb pins s2 σ1 H2 _ I2 q2) λf s3 q3=>?_);cases f with
  |next=>
   obtain⟨σ3,H3,I3,n3⟩:=q3;obtain⟨m',hm,w3⟩:=hN σ3 H3 n3;exact⟨m',hm,σ3,H3,I3,w3⟩
  |cont=>
   obtain⟨σ3,H3,I3,n3⟩:=q3;obtain⟨m',hm,w3⟩:=hN σ3 H3 n3;exact⟨m',hm,σ3,H3,I3,w3⟩
  |brk=>exact q3
  |ret v=>exact q3
 |false=>
  rw[if_neg zP];exact Wb ⟨σ1,H2,I2,q2⟩
end
structure It where
 go:Nat->Hp->Prop
 F7:Nat->Hp->V->Hp->Prop
 stop:Nat->Hp->Prop
def eO(X:Cx)(pins:Lo)(H:Hp)(b:Addr):Prop:=
 H b=none/\b≠X.env.locals/\b∉X.fs/\(b∈X.ex\/X.s₀.heap.objs.size<=b)/\(∀x c,X.env.cells.lookup x=some c->c≠b)/\∀p∈X.pn++pins,p.1≠b
theorem Inv.yM{X:Cx}{pins:Lo}{σ:St}{H H':Hp}{s:Shared}{b:Addr}(I:Inv X pins σ H s)(hb:s.heap.objs.size<=b)(hn:H' b=none):eO X pins H' b:=by
 refine⟨hn,Nat.ne_of_gt (g8 I.lt hb),I.YK hb,.inr (zc I.sz hb),λx c e z=>?_,λp hp z=>?_⟩
 ·obtain⟨v,q⟩:=I.cell x c e;exact absurd (g8 q.lt (by rw[z];exact hb)) (oP _)
 ·exact absurd (g8 (cH (I.pin p hp).1) (by rw[z];exact hb)) (oP _)
structure Turn(P:Program)(w:World)(K:Wf)(tg:Expr)(J:It)(fp:List Addr)(it:Addr)(tn:Nat->Heap->Prop):Prop where
 mem:it∈fp
 obj:∀i h,tn i h->∀b∈fp,∃o,h.get? b=some o/\∀v,o.data≠.cell v
 keep:∀i h h',tn i h->(∀b∈fp,∀o,h.get? b=some o->h'.get? b=some o)->tn i h'
 item:∀(X:Cx),X.prog=P->X.w=w->X.K=K->X.calm=true->∀(i:Nat) (pins:Lo) (s:Shared) (σ:St) (H:Hp) (E:Vs),Inv X pins σ H s->(∀b∈fp,eO X pins H b)->tn i s.heap->J.go i H->
  wpAny (model P w) X.A (pyNext (.ref it)) (λr s1=>∃u,r=some u/\
   wpAny (model P w) X.A (letOwnedTupleGo tg (.ref it) u) (λ_ s2=>∃x H',Inv X pins σ H' s2/\RelV x u/\J.F7 i H x H'/\tn (i+1) s2.heap/\∀b∈fp,H' b=none) E s1) E s
 done:∀(X:Cx),X.prog=P->X.w=w->X.K=K->X.calm=true->∀(i:Nat) (pins:Lo) (s:Shared) (σ:St) (H:Hp) (E:Vs),Inv X pins σ H s->(∀b∈fp,eO X pins H b)->tn i s.heap->J.stop i H->
  wpAny (model P w) X.A (pyNext (.ref it)) (λr s1=>r=none/\Inv X pins σ H s1) E s
 self:∀(A:Around) (i:Nat) (s:Shared) (Q:Vs) (E:Vs),tn i s.heap->Q (.ref it) s->wpAny (model P w) A (pyIter (.ref it)) Q E s
noncomputable abbrev TI:=St->Hp->(It->Hp->Prop)->Prop
def PIE(X:Cx)(pins:Lo)(σ:St)(tg:Expr)(R:It->Hp->Prop)(itv:Value)(s2:Shared):Prop:=
 ∃(it:Addr) (fp:List Addr) (tn:Nat->Heap->Prop) (J:It) (H':Hp),itv=.ref it/\Inv X pins σ H' s2/\Turn X.prog X.w X.K tg J fp it tn/\tn 0 s2.heap/\(∀b∈fp,eO X pins H' b)/\R J H'
def PI(X:Cx)(tg iter:Expr)(wi:TI):Prop:=
 ∀(pins:Lo) (s:Shared) (σ:St) (H:Hp) (R:It->Hp->Prop),Inv X pins σ H s->wi σ H R->
  wpAny (model X.prog X.w) X.A (eval iter X.env) (λv s1=>wpAny (model X.prog X.w) X.A (pyIter v) (PIE X pins σ tg R) X.xe s1) X.xe s
theorem Ak{M:Model}{A:Around}{E:Vs}{s:Shared}{tg:Expr}{it:Addr}{u:Value}{o:Obj}{n:String}{vs:Array Value}{Q:Unit->Shared->Prop}(ho:s.heap.get? it=some o)(hc:o.cls=.type n)(hd:o.data=.fields vs)
  (hn:["enumerate", "zip", "dict_itemiterator", "dict_reverseitemiterator", "odict_iterator", "itertools.zip_longest", "itertools.pairwise"].contains n=false) (hQ:Q () s):wpAny M A (letOwnedTupleGo tg (.ref it) u) Q E s:=by
 unfold letOwnedTupleGo;cases tg<;>first
  |exact bc hQ
  | (cases u<;>first
    |exact bc hQ
    | (refine aw (wpAny_load ho ?_)
       rw[hc,hd];show wpAny M A (if (["enumerate", "zip", "dict_itemiterator", "dict_reverseitemiterator", "odict_iterator", "itertools.zip_longest", "itertools.pairwise"].contains n&&vs[0]? == some (rawInt _))=true then _ else _) Q E s;rw[if_neg (by intro h;rw[hn,Bool.false_and]at h;cases h)];exact bc hQ))
noncomputable def Kr(K:Wf)(a:Addr):It:=
 ⟨λi H=>∃xs x,aI K H a xs/\xs[i]?=some x,λi H x H'=>H'=H/\∀xs,aI K H a xs->xs[i]?=some x,λi H=>∃xs,aI K H a xs/\xs.length<=i⟩
noncomputable def Uw(K:Wf)(a:Addr):It:=
 ⟨λi H=>∃xs x,bB K H a xs/\xs[i]?=some x,λi H x H'=>H'=H/\∀xs,bB K H a xs->xs[i]?=some x,λi H=>∃xs,bB K H a xs/\xs.length<=i⟩
noncomputable def GK(lo:Int)(n:Nat):It:=⟨λi _=>i<n,λi H x H'=>H'=H/\x=.int (lo+i),λi _=>n<=i⟩
theorem G6{P:Program}{w:World}{K:Wf}{tg:Expr}(a it:Addr):Turn P w K tg (Kr K a) [it] it (λi h=>h.IsListIter it a i) where
 mem:=by simp
 obj:=λi h st b hb=>by
  have e:b=it:=by simpa using hb
  subst e;obtain⟨o,e,c,d⟩:=st;exact⟨o,e,λv z=>by rw[d]at z;cases z⟩
 keep:=λi h h' st k=>st.at λo e=>k it (by simp) o e
 item:=by
  intro X hP hw hK hc i pins s σ H E I hf st hg;subst hP hw hK;obtain⟨xs,x,hq,hx⟩:=hg;obtain⟨its,rv,p,hz⟩:=I.list hq;obtain⟨u,hu,ru⟩:=rv.get hx;obtain⟨f0,f1,f2,f3,f4,f5⟩:=hf it (by simp);refine wpAny_pyNext_list_item st p.isList (x:=u) (by simpa using hu) λh' st' sb=>?_;have I1:Inv X pins σ H { s with heap:=h' }:=I.m9 (t':=s.toks) (λb o hb e=>(sb.2 b hb).trans e) f0 f1 f3 f4 f5;obtain⟨o,e,c,d⟩:=id st';exact⟨u,rfl,Ak (s:={ s with heap:=h' }) e c d (by decide) ⟨x,H,I1,ru,⟨rfl,λys hy=>by rw[I.eZ hy hq];exact hx⟩,st',λb hb=>(hf b hb).1⟩⟩
 done:=by
  intro X hP hw hK hc i pins s σ H E I hf st hg;subst hP hw hK;obtain⟨xs,hq,hx⟩:=hg;obtain⟨its,rv,p,hz⟩:=I.list hq;obtain⟨f0,f1,f2,f3,f4,f5⟩:=hf it (by simp);have hl:=rv.length;exact wpAny_pyNext_list_end (I.ok.hd hc) st p.isList (by simp;omega) λh' eb=>⟨rfl,I.m9 (t':=s.toks) (λb o hb e=>eb b o hb e) f0 f1 f3 f4 f5⟩
 self:=λ_ _ _ _ _ st h=>wpAny_pyIter_listiter st h
theorem A3{P:Program}{w:World}{K:Wf}{tg:Expr}(a it:Addr):Turn P w K tg (Uw K a) [it] it (λi h=>h.IsTupleIter it a i) where
 mem:=by simp
 obj:=λi h st b hb=>by
  have e:b=it:=by simpa using hb
  subst e;obtain⟨o,e,c,d⟩:=st;exact⟨o,e,λv z=>by rw[d]at z;cases z⟩
 keep:=λi h h' st k=>st.at λo e=>k it (by simp) o e
 item:=by
  intro X hP hw hK hc i pins s σ H E I hf st hg;subst hP hw hK;obtain⟨xs,x,hq,hx⟩:=hg;obtain⟨its,rv,p,hz⟩:=I.tuple hq;obtain⟨u,hu,ru⟩:=rv.get hx;obtain⟨f0,f1,f2,f3,f4,f5⟩:=hf it (by simp);refine wpAny_pyNext_tuple_item st (show s.heap.IsTuple a its.toArray from p) (x:=u) (by simpa using hu) λh' st' sb=>?_;have I1:Inv X pins σ H { s with heap:=h' }:=I.m9 (t':=s.toks) (λb o hb e=>(sb.2 b hb).trans e) f0 f1 f3 f4 f5;obtain⟨o,e,c,d⟩:=id st';exact⟨u,rfl,Ak (s:={ s with heap:=h' }) e c d (by decide) ⟨x,H,I1,ru,⟨rfl,λys hy=>by rw[I.jh hy hq];exact hx⟩,st',λb hb=>(hf b hb).1⟩⟩
 done:=by
  intro X hP hw hK hc i pins s σ H E I hf st hg;subst hP hw hK;obtain⟨xs,hq,hx⟩:=hg;obtain⟨its,rv,p,hz⟩:=I.tuple hq;obtain⟨f0,f1,f2,f3,f4,f5⟩:=hf it (by simp);have hl:=rv.length;exact wpAny_pyNext_tuple_end (I.ok.hd hc) st (show s.heap.IsTuple a its.toArray from p) (by simp;omega) λh' eb=>⟨rfl,I.m9 (t':=s.toks) (λb o hb e=>eb b o hb e) f0 f1 f3 f4 f5⟩
 self:=λ_ _ _ _ _ st h=>wpAny_pyIter_tupleiter st h
theorem Bi{P:Program}{w:World}{K:Wf}{tg:Expr}(it:Addr)(lo:Int)(n:Nat):Turn P w K tg (GK lo n) [it] it (λi h=>IsRangeIter h it (lo+(i:Nat)*1) ((n:Int) - (i:Nat)) 1) where
 mem:=by simp
 obj:=λi h st b hb=>by
  have e:b=it:=by simpa using hb
  subst e;exact⟨_,st,λv z=>by
   have z':Data.fields _=Data.cell v:=z;cases z'⟩
 keep:=λi h h' st k=>k it (by simp) _ st
 item:=by
  intro X hP hw hK hc i pins s σ H E I hf st hg;subst hP hw hK;obtain⟨f0,f1,f2,f3,f4,f5⟩:=hf it (by simp);have W:=Walks.range (prog:=X.prog) (w:=X.w) (I.ok.hd hc) it lo 1 n;refine W.item i s _ _ hg st λv h' tk hv st' kk=>?_;obtain⟨t,rfl⟩:=hv;have I1:Inv X pins σ H { s with heap:=h',toks:=tk }:=I.m9 (λb o hb e=>kk b o (by simpa using hb) e) f0 f1 f3 f4 f5;refine⟨_,rfl,Ak (s:={ s with heap:=h',toks:=tk }) (n := "range_iterator") st' rfl rfl (by decide) ⟨.int (lo+i),H,I1,⟨t,?_⟩,⟨rfl,rfl⟩,st',λb hb=>(hf b hb).1⟩⟩;rw[Int.mul_one]
 done:=by
  intro X hP hw hK hc i pins s σ H E I hf st hg;subst hP hw hK;obtain⟨f0,f1,f2,f3,f4,f5⟩:=hf it (by simp);exact wpAny_pyNext_range_end (I.ok.hd hc) st (by have:n<=i:=hg;omega) λh' eb=>⟨rfl,I.m9 (t':=s.toks) (λb o hb e=>eb b o hb e) f0 f1 f3 f4 f5⟩
 self:=λ_ _ _ _ _ st h=>wpAny_pyIter_rangeiter st h
section
variable{X:Cx}{tg:Expr}
def zt(K:Wf)(tl:TE):TI:=λσ H R=>tl σ H λx H1=>∃a,x=.ref a/\(∃xs,aI K H1 a xs)/\R (Kr K a) H1
def QW(K:Wf)(tl:TE):TI:=λσ H R=>tl σ H λx H1=>∃a,x=.ref a/\(∃xs,bB K H1 a xs)/\R (Uw K a) H1
theorem QZ(hl:PE X l tl):PI X tg l (zt X.K tl):=by
 intro pins s σ H R I h;refine bj (hl pins s σ H _ I h) λv s1 ⟨x,H1,I1,r1,q1⟩=>?_;obtain⟨a,e,⟨xs,hq⟩,q⟩:=q1;subst e;cases r1;obtain⟨its,rv,p,hz⟩:=I1.list hq;refine wpAny_pyIter_list p.isList ?_;refine⟨s1.heap.objs.size,[s1.heap.objs.size],_,_,H1,rfl,I1.kept (t':=s1.toks) λb o e=>dM _ e,G6 a _,⟨_,iu _ rfl,rfl,rfl⟩,λb hb=>?_,q⟩;have e:b=s1.heap.objs.size:=by simpa using hb
 subst e;exact I1.yM (bA _) (I1.aN.fresh (bA _))
theorem S5(hl:PE X l tl):PI X tg l (QW X.K tl):=by
 intro pins s σ H R I h;refine bj (hl pins s σ H _ I h) λv s1 ⟨x,H1,I1,r1,q1⟩=>?_;obtain⟨a,e,⟨xs,hq⟩,q⟩:=q1;subst e;cases r1;obtain⟨its,rv,p,hz⟩:=I1.tuple hq;refine wpAny_pyIter_tuple (show s1.heap.IsTuple a its.toArray from p) ?_;refine⟨s1.heap.objs.size,[s1.heap.objs.size],_,_,H1,rfl,I1.kept (t':=s1.toks) λb o e=>dM _ e,A3 a _,⟨_,iu _ rfl,rfl,rfl⟩,λb hb=>?_,q⟩;have e:b=s1.heap.objs.size:=by simpa using hb
 subst e;exact I1.yM (bA _) (I1.aN.fresh (bA _))
theorem LF{pins:Lo}{σ:St}{H:Hp}{s:Shared}{R:It->Hp->Prop}{E:Vs}{lo hi:Int}{t u v:Tok}{tk:Nat}(I:Inv X pins σ H s)(h1 : -(2 ^ 62)<=lo)(h2:lo<2 ^ 62)(h3 : -(2 ^ 62)<=hi)(h4:hi<2 ^ 62)
  (q:R (GK lo (hi - lo).toNat) H):wpAny (model X.prog X.w) X.A (pyIter (.ref s.heap.objs.size)) (PIE X pins σ tg R) E { s with heap:=s.heap.push { cls:=.type "range", data:=.fields #[.int lo t,.int hi u,.int 1 v] },toks:=tk }:=by
 refine wpAny_pyIter_range (IsRange.new ..) (small_one h1 h2 h3 h4) ?_;have I1:Inv X pins σ H { s with heap:=s.heap.push { cls:=.type "range", data:=.fields #[.int lo t,.int hi u,.int 1 v] },toks:=tk }:=I.kept λb o e=>dM _ e;refine⟨(s.heap.push { cls:=.type "range", data:=.fields #[.int lo t,.int hi u,.int 1 v] }).objs.size,[(s.heap.push { cls:=.type "range", data:=.fields #[.int lo t,.int hi u,.int 1 v] }).objs.size],_,_,H,rfl,
  I1.kept (t':=tk) λb o e=>dM _ e,Bi _ lo (hi - lo).toNat,?_,λb hb=>?_,q⟩
 ·have e1:lo+((0:Nat):Int)*1=lo:=by simp
  have e2:(((hi - lo).toNat:Nat):Int) - ((0:Nat):Int)=Builtin.Range.rangeSize lo hi 1:=by rw[rangeSize_one];split<;>omega
  show IsRangeIter _ _ (lo+((0:Nat):Int)*1) ((((hi - lo).toNat:Nat):Int) - ((0:Nat):Int)) 1;rw[e1,e2];exact iu _ rfl
 ·have e:b=(s.heap.push { cls:=.type "range", data:=.fields #[.int lo t,.int hi u,.int 1 v] }).objs.size:=by simpa using hb
  subst e;exact I1.yM (bA _) (I1.aN.fresh (bA _))
def Mj(ta:TA):TI:=λσ H R=>ta σ H λvs H1=>∃j:Int,vs=[.int j] /\ -(2 ^ 62)<=j/\j<2 ^ 62/\R (GK 0 j.toNat) H1
def Wq(ta:TA):TI:=λσ H R=>ta σ H λvs H1=>∃i j:Int,vs=[.int i,.int j]/\(-(2 ^ 62)<=i/\i<2 ^ 62 /\ -(2 ^ 62)<=j/\j<2 ^ 62)/\R (GK i (j - i).toNat) H1
theorem cA(hg:Gl X "range")(hm:X.mg "range" = none)(ha:PA X [a] ta)(hs:starEach [a] X.env=[(false,eval a X.env)]:=by rfl):PI X tg (.Call (.Name "range" p) [a] [] pos) (Mj ta):=by
 intro pins s σ H R I h;refine Call_ (fZ I hg hm boot_range (PyProof.Rows.callWith_type1 (bj (ha pos pins s σ H _ I h) λus s1 ⟨vs,H1,I1,r1,q1⟩=>?_) hs rfl));obtain⟨j,e,q1,q2,q⟩:=q1;subst e;cases r1 with
 |cons r rr=>
  cases rr;obtain⟨t,rfl⟩:=r;exact call_range_1 (LF I1 (by omega) (by omega) q1 q2 (by simpa using q))
def nU(wi:TI)(g:TG)(tb:TS):TS:=λD σ H=>wi σ H λJ H1=>∃W:Nat->Nat->St->Hp->Prop,(∃m,W 0 m σ H1)/\∀i m σ H,W i m σ H->
 (J.stop i H/\D.nx σ H)\/(J.go i H/\∃N:St->Hp->Prop,(∀σ' H',N σ' H'->∃m',m'<m/\W (i+1) m' σ' H')/\∀x H',J.F7 i H x H'->g x σ H' λσ2 H2=>tb { D with nx:=N,ct:=N,bk:=D.nx } σ2 H2)
noncomputable def nk(fp:List Addr)(h:Heap):Lo:=fp.filterMap λb=>(h.get? b).map λo=>(b,o)
theorem e_(hb:b∈fp)(e:h.get? b=some o):(b,o)∈nk fp h:=List.mem_filterMap.mpr ⟨b,hb,by rw[e];rfl⟩
theorem Ge(hp:p∈nk fp h):p.1∈fp/\h.get? p.1=some p.2:=by
 obtain⟨b,hb,e⟩:=List.mem_filterMap.mp hp;cases q:h.get? b with
 |none=>rw[q]at e;cases e
 |some o=>
  rw[q]at e;have e':(b,o)=p:=Option.some.inj e;subst e';exact⟨hb,q⟩
theorem Inv.pinned{pins:Lo}{σ:St}{H:Hp}{s:Shared}{fp:List Addr}(I:Inv X pins σ H s)(hf:∀b∈fp,eO X pins H b)(ho:∀b∈fp,∃o,s.heap.get? b=some o/\∀v,o.data≠.cell v):Inv X (pins++nk fp s.heap) σ H s:=
 I.j9 λp hp=>(fY.mp hp).elim (λz=>I.pin p (oQ _ z)) λz=>by
  obtain⟨hb,e⟩:=Ge z;obtain⟨f0,f1,f2,_⟩:=hf p.1 hb;obtain⟨o,e',d⟩:=ho p.1 hb;rw[e]at e';cases e';exact⟨e,f0,f1,f2,d⟩
theorem Inv.iG{pins pl:Lo}{σ:St}{H:Hp}{s:Shared}(I:Inv X (pins++pl) σ H s):Inv X pins σ H s:=I.j9 λp hp=>I.pin p (oQ _ (BP _ hp))
theorem TU(hp:PassesOwn (model X.prog X.w) X.A X.env X.xe)(hc:X.calm=true)(hi:PI X tg iter wi)(hg:PG X tg g)(hb:pV X body tb)
  (hs:∀x,foldedSetIterable iter X.env x=pure x:=by intro _;rfl):PS X (.For tg iter body [] pos) (nU wi g tb):=by
 intro pins s σ H D I h;refine wpAny_For (bj (hi pins s σ H _ I h) λv s1 h1=>bj h1 λitv s2 h2=>?_) hs;obtain⟨it,fp,tn,J,H2,e,I2,T,st2,f2,W,⟨m0,w0⟩,turn⟩:=h2;subst e;have stat:∀{H':Hp},(∀b∈fp,H' b=none)->∀b∈fp,eO X pins H' b:=λhn b hb=>⟨hn b hb,(f2 b hb).2⟩;refine codeAny_forLoop_any (λn s'=>∃i σ' H',Inv X pins σ' H' s'/\tn i s'.heap/\(∀b∈fp,H' b=none)/\W i n σ' H') ?_ m0 ⟨0,σ,H2,I2,st2,λb hb=>(f2 b hb).1,w0⟩;rintro n s3 ⟨i,σ3,H3,I3,st3,fr3,w3⟩;rcases turn i n σ3 H3 w3 with ⟨stop,qn⟩|⟨go,N,hN,step⟩
 ·refine Va hp (bj (T.done X rfl rfl rfl hc i pins s3 σ3 H3 X.xe I3 (stat fr3) st3 stop) λr s4 ⟨hr,I4⟩=>?_);subst hr;exact Wb ⟨σ3,H3,I4,qn⟩
 ·refine Va hp (bj (T.item X rfl rfl rfl hc i pins s3 σ3 H3 X.xe I3 (stat fr3) st3 go) λr s4 ⟨u,hr,h4⟩=>?_);subst hr;refine Va hp (bj h4 λ_ s5 ⟨x,H5,I5,r5,y5,st5,fr5⟩=>?_);have I5':=I5.pinned (stat fr5) (T.obj _ _ st5);refine Va hp (bj (hg _ s5 σ3 H5 x u _ I5' r5 (step x H5 y5)) λ_ s6 ⟨σ6,H6,I6,q6⟩=>?_);refine Va hp (bj (hb _ s6 σ6 H6 _ I6 q6) λf s7 q7=>?_);have again:∀{σ7:St}{H7:Hp},Inv X (pins++nk fp s5.heap) σ7 H7 s7->N σ7 H7->∃m,m<n/\∃i σ' H',Inv X pins σ' H' s7/\tn i s7.heap/\(∀b∈fp,H' b=none)/\W i m σ' H':=λ{σ7 H7} I7 n7=>by
   obtain⟨m',hm,w7⟩:=hN σ7 H7 n7;refine⟨m',hm,i+1,σ7,H7,I7.iG,T.keep _ _ _ st5 λb hb o e=>(I7.pin (b,o) (oQ _ (oQ _ (e_ hb e)))).1,λb hb=>?_,w7⟩;obtain⟨o,e,d⟩:=T.obj _ _ st5 b hb;exact(I7.pin (b,o) (oQ _ (oQ _ (e_ hb e)))).2.1
  cases f with
  |next=>obtain⟨σ7,H7,I7,n7⟩:=q7;exact again I7 n7
  |cont=>obtain⟨σ7,H7,I7,n7⟩:=q7;exact again I7 n7
  |brk=>obtain⟨σ7,H7,I7,q7⟩:=q7;exact⟨σ7,H7,I7.iG,q7⟩
  |ret v=>obtain⟨x7,σ7,H7,I7,r7,q7⟩:=q7;exact⟨x7,σ7,H7,I7.iG,r7,q7⟩
end
theorem KC{K:Wf}{a:Addr}{xs:List V}{g:TG}{tb:TS}{D:Ends}{σ:St}{H:Hp}(Pv:Nat->St->Hp->Prop)(h0:Pv 0 σ H)(hl:∀i σ H,i<=xs.length->Pv i σ H->aI K H a xs)
  (hs:∀i x σ H,xs[i]?=some x->Pv i σ H->g x σ H λσ2 H2=>tb { D with nx:=Pv (i+1),ct:=Pv (i+1),bk:=D.nx } σ2 H2) (hd:∀σ H,Pv xs.length σ H->D.nx σ H):
  ∃W:Nat->Nat->St->Hp->Prop,(∃m,W 0 m σ H)/\∀i m σ H,W i m σ H->
   ((Kr K a).stop i H/\D.nx σ H)\/((Kr K a).go i H/\∃N:St->Hp->Prop,(∀σ' H',N σ' H'->∃m',m'<m/\W (i+1) m' σ' H')/\∀x H',(Kr K a).F7 i H x H'->g x σ H' λσ2 H2=>tb { D with nx:=N,ct:=N,bk:=D.nx } σ2 H2):=by
 refine⟨λi m σ H=>m=xs.length - i/\i<=xs.length/\Pv i σ H,⟨xs.length,by simp,Nat.zero_le _,h0⟩,?_⟩;rintro i m σ H ⟨rfl,hi,p⟩;have q:=hl i σ H hi p;by_cases hlt:i<xs.length
 ·refine .inr ⟨⟨xs,xs[i],q,by simp[hlt]⟩,Pv (i+1),λσ' H' p'=>⟨xs.length - (i+1),by omega,rfl,hlt,p'⟩,λx H' y=>?_⟩;obtain⟨e,y⟩:=y;subst e;exact hs i x σ _ (y xs q) p
 ·have e:i=xs.length:=by omega
  subst e;exact .inl ⟨⟨xs,q,bA _⟩,hd σ H p⟩
theorem Qc{K:Wf}{a:Addr}{xs:List V}{g:TG}{tb:TS}{D:Ends}{σ:St}{H:Hp}(Pv:Nat->St->Hp->Prop)(h0:Pv 0 σ H)(hl:∀i σ H,i<=xs.length->Pv i σ H->bB K H a xs)
  (hs:∀i x σ H,xs[i]?=some x->Pv i σ H->g x σ H λσ2 H2=>tb { D with nx:=Pv (i+1),ct:=Pv (i+1),bk:=D.nx } σ2 H2) (hd:∀σ H,Pv xs.length σ H->D.nx σ H):
  ∃W:Nat->Nat->St->Hp->Prop,(∃m,W 0 m σ H)/\∀i m σ H,W i m σ H->
   ((Uw K a).stop i H/\D.nx σ H)\/((Uw K a).go i H/\∃N:St->Hp->Prop,(∀σ' H',N σ' H'->∃m',m'<m/\W (i+1) m' σ' H')/\∀x H',(Uw K a).F7 i H x H'->g x σ H' λσ2 H2=>tb { D with nx:=N,ct:=N,bk:=D.nx } σ2 H2):=by
 refine⟨λi m σ H=>m=xs.length - i/\i<=xs.length/\Pv i σ H,⟨xs.length,by simp,Nat.zero_le _,h0⟩,?_⟩;rintro i m σ H ⟨rfl,hi,p⟩;have q:=hl i σ H hi p;by_cases hlt:i<xs.length
 ·refine .inr ⟨⟨xs,xs[i],q,by simp[hlt]⟩,Pv (i+1),λσ' H' p'=>⟨xs.length - (i+1),by omega,rfl,hlt,p'⟩,λx H' y=>?_⟩;obtain⟨e,y⟩:=y;subst e;exact hs i x σ _ (y xs q) p
 ·have e:i=xs.length:=by omega
  subst e;exact .inl ⟨⟨xs,q,bA _⟩,hd σ H p⟩
theorem FZ{lo:Int}{n:Nat}{g:TG}{tb:TS}{D:Ends}{σ:St}{H:Hp}(Pv:Nat->St->Hp->Prop)(h0:Pv 0 σ H)
  (hs:∀i σ H,i<n->Pv i σ H->g (.int (lo+i)) σ H λσ2 H2=>tb { D with nx:=Pv (i+1),ct:=Pv (i+1),bk:=D.nx } σ2 H2) (hd:∀σ H,Pv n σ H->D.nx σ H):
  ∃W:Nat->Nat->St->Hp->Prop,(∃m,W 0 m σ H)/\∀i m σ H,W i m σ H->
   ((GK lo n).stop i H/\D.nx σ H)\/((GK lo n).go i H/\∃N:St->Hp->Prop,(∀σ' H',N σ' H'->∃m',m'<m/\W (i+1) m' σ' H')/\∀x H',(GK lo n).F7 i H x H'->g x σ H' λσ2 H2=>tb { D with nx:=N,ct:=N,bk:=D.nx } σ2 H2):=by
 refine⟨λi m σ H=>m=n - i/\i<=n/\Pv i σ H,⟨n,by simp,Nat.zero_le _,h0⟩,?_⟩;rintro i m σ H ⟨rfl,hi,p⟩;by_cases hlt:i<n
 ·refine .inr ⟨hlt,Pv (i+1),λσ' H' p'=>⟨n - (i+1),by omega,rfl,hlt,p'⟩,λx H' y=>?_⟩;obtain⟨e,y⟩:=y;subst e y;exact hs i σ _ hlt p
 ·have e:i=n:=by omega
  subst e;exact .inl ⟨bA _,hd σ H p⟩
noncomputable abbrev R2:=V->V->Hp->VK->Prop
def ir(X:Cx)(f:Value->Value->Sem Value)(r:R2):Prop:=
 ∀(pins:Lo) (s:Shared) (σ:St) (H:Hp) (x y:V) (v u:Value) (Q:VK),Inv X pins σ H s->RelV x v->RelV y u->r x y H Q->
  wpAny (model X.prog X.w) X.A (f v u) (EP X pins σ Q) X.xe s
def UnR(X:Cx)(f:Value->Sem Value)(r:V->Hp->VK->Prop):Prop:=
 ∀(pins:Lo) (s:Shared) (σ:St) (H:Hp) (x:V) (v:Value) (Q:VK),Inv X pins σ H s->RelV x v->r x H Q->
  wpAny (model X.prog X.w) X.A (f v) (EP X pins σ Q) X.xe s
def cS(X:Cx)(f:Value)(r:List V->Hp->VK->Prop):Prop:=
 ∀(pins:Lo) (s:Shared) (σ:St) (H:Hp) (xs:List V) (us:List Value) (Q:VK),Inv X pins σ H s->Vals xs us->r xs H Q->
  wpAny (model X.prog X.w) X.A (call f us) (EP X pins σ Q) X.xe s
def abZ(X:Cx)(r:V->Hp->(Bool->Hp->Prop)->Prop):Prop:=
 ∀(pins:Lo) (s:Shared) (σ:St) (H:Hp) (x:V) (v:Value) (Q:Bool->Hp->Prop),Inv X pins σ H s->RelV x v->r x H Q->
  wpAny (model X.prog X.w) X.A (truthy v) (TP X pins σ Q) X.xe s
def Ry(r:R2)(ta tb:TE):TE:=λσ H Q=>ta σ H λx H1=>tb σ H1 λy H2=>r x y H2 Q
def tUn(r:V->Hp->VK->Prop)(ta:TE):TE:=λσ H Q=>ta σ H λx H1=>r x H1 Q
def rI(C:Int->Int->Prop)(g:Int->Int->V):R2:=λx y H Q=>∃i j,x=.int i/\y=.int j/\C i j/\Q (g i j) H
def PY(g:Int->Int->V):R2:=λx y H Q=>∃i j,x=.int i/\y=.int j/\Q (g i j) H
noncomputable def rU(g:Int->V):V->Hp->VK->Prop:=λx H Q=>∃i,x=.int i/\Q (g i) H
section
variable{X:Cx}{a b c:Expr}{ta tb tc:TE}{pos:Pos}
theorem VO(ha:PE X a ta)(hb:PE X b tb){pins:Lo}{s:Shared}{σ:St}{H:Hp}{R:V->V->Hp->Prop}(I:Inv X pins σ H s)
  (h:ta σ H λx H1=>tb σ H1 λy H2=>R x y H2) {Q:Vs}{f:Value->Value->Sem Value}
  (hf:∀v u s2 x y H2,Inv X pins σ H2 s2->RelV x v->RelV y u->R x y H2->wpAny (model X.prog X.w) X.A (f v u) Q X.xe s2):
  wpAny (model X.prog X.w) X.A (eval a X.env) (λv s₁=>wpAny (model X.prog X.w) X.A (eval b X.env) (λu s₂=>wpAny (model X.prog X.w) X.A (f v u) Q X.xe s₂) X.xe s₁) X.xe s:=by
 refine bj (ha pins s σ H _ I h) λv s1 ⟨x,H1,I1,r1,q1⟩=>?_;refine bj (hb pins s1 σ H1 _ I1 q1) λu s2 ⟨y,H2,I2,r2,q2⟩=>?_;exact hf v u s2 x y H2 I2 r1 r2 q2
theorem ao(ho:ir X (binaryOp op) r)(ha:PE X a ta)(hb:PE X b tb):PE X (.BinOp a op b pos) (Ry r ta tb):=by
 intro pins s σ H Q I h;exact wpAny_BinOp (VO ha hb I h λv u s2 x y H2 I2 rx ry q=>ho pins s2 σ H2 x y v u Q I2 rx ry q)
theorem Nc(ho:UnR X (unaryOp op) r)(ha:PE X a ta):PE X (.UnaryOp op a pos) (tUn r ta):=by
 intro pins s σ H Q I h;exact UnaryOp_ (bj (ha pins s σ H _ I h) λv s1 ⟨x,H1,I1,r1,q1⟩=>ho pins s1 σ H1 x v Q I1 r1 q1)
theorem Wn{f:Value->Value->Sem Value}{C:Int->Int->Prop}{g:Int->Int->Int}
  (rule:∀(i j:Int) (t u:Tok) (s:Shared) (Q:Vs) (E:Vs),C i j->Q (.int (g i j) s.toks) { s with toks:=s.toks+1 }->wpAny (model X.prog X.w) X.A (f (.int i t) (.int j u)) Q E s):
  ir X f (rI C λi j=>.int (g i j)):=by
 intro pins s σ H x y v u Q I rx ry h;obtain⟨i,j,rfl,rfl,hc,q⟩:=h;obtain⟨t,rfl⟩:=rx;obtain⟨t',rfl⟩:=ry;exact rule i j t t' s _ _ hc ⟨.int (g i j),H,I.tok _,⟨_,rfl⟩,q⟩
theorem HU{f:Value->Value->Sem Value}{g:Int->Int->Int}
  (rule:∀(i j:Int) (t u:Tok) (s:Shared) (Q:Vs) (E:Vs),Q (.int (g i j) s.toks) { s with toks:=s.toks+1 }->wpAny (model X.prog X.w) X.A (f (.int i t) (.int j u)) Q E s):
  ir X f (PY λi j=>.int (g i j)):=by
 intro pins s σ H x y v u Q I rx ry h;obtain⟨i,j,rfl,rfl,q⟩:=h;obtain⟨t,rfl⟩:=rx;obtain⟨t',rfl⟩:=ry;exact rule i j t t' s _ _ ⟨.int (g i j),H,I.tok _,⟨_,rfl⟩,q⟩
theorem XB{f:Value->Value->Sem Value}{g:Int->Int->Bool}
  (rule:∀(i j:Int) (t u:Tok) (s:Shared) (Q:Vs) (E:Vs),Q (.bool (g i j)) s->wpAny (model X.prog X.w) X.A (f (.int i t) (.int j u)) Q E s):
  ir X f (PY λi j=>.bl (g i j)):=by
 intro pins s σ H x y v u Q I rx ry h;obtain⟨i,j,rfl,rfl,q⟩:=h;obtain⟨t,rfl⟩:=rx;obtain⟨t',rfl⟩:=ry;exact rule i j t t' s _ _ ⟨.bl (g i j),H,I,rfl,q⟩
def W7(i j:Int):Prop:=0<j/\j<1073741824
def ab5(i j:Int):Prop:=0<=j/\j<=1000000/\i.natAbs<2 ^ 64
def Nv(i j:Int):Prop:=(-(2 ^ 64)<i/\i<2 ^ 64)\/(-(2 ^ 64)<j/\j<2 ^ 64)
theorem Nv.ok{i j:Int}(h:Nv i j):IntMulOk i j:=by
 rcases h with ⟨h1,h2⟩|⟨h1,h2⟩
 ·exact .of_left (intBits_le_64 h1 h2)
 ·exact .of_right (intBits_le_64 h1 h2)
theorem AQ(k:Nat):(0:Int)<=2 ^ k:=by
 rw[two_pow_cast];exact Int.natCast_nonneg _
theorem b0:ir X (binaryOp .Add) (PY λi j=>.int (i+j)):=HU λ_ _ _ _ _ _ _ q=>add_int q
theorem eR:ir X (binaryOp .Sub) (PY λi j=>.int (i - j)):=HU λ_ _ _ _ _ _ _ q=>sub_int q
theorem cW:ir X (binaryOp .Mult) (rI Nv λi j=>.int (i*j)):=Wn λ_ _ _ _ _ _ _ hc q=>mul_int q hc.ok
theorem cI:ir X (binaryOp .FloorDiv) (rI W7 λi j=>.int (i/j)):=Wn λi j _ _ _ _ _ hc q=>by
 have h1:(0:Int)<j:=hc.1;have h2:j<1073741824:=hc.2;exact floordiv_int (by omega) (by rw[Xs i (by omega)];exact q) (.inl (PyProof.noPylong_small (by omega)))
theorem bg:ir X (binaryOp .Mod) (rI (λ_ j=>0<j) λi j=>.int (i%j)):=Wn λi j _ _ _ _ _ hc q=>by
 have h1:(0:Int)<j:=hc;exact mod_int' (by omega) (by rw[V7 i (by omega)];exact q)
theorem Be:ir X (binaryOp .LShift) (rI ab5 λi j=>.int (i*2 ^ j.toNat)):=Wn λ_ _ _ _ _ _ _ hc q=>lshift_int_small hc.1 hc.2.1 hc.2.2 q
theorem LP:ir X (binaryOp .RShift) (rI (λ_ j=>0<=j) λi j=>.int (i/2 ^ j.toNat)):=Wn λi j _ _ _ _ _ hc q=>
 rshift_int hc (by rw[Xs i (AQ _)];exact q)
theorem og:ir X (binaryOp .BitAnd) (PY λi j=>.int (Builtin.bitAnd i j)):=HU λ_ _ _ _ _ _ _ q=>and_int q
theorem RA:ir X (binaryOp .BitOr) (PY λi j=>.int (Builtin.bitOr i j)):=HU λ_ _ _ _ _ _ _ q=>or_int q
theorem Ve:ir X (binaryOp .BitXor) (PY λi j=>.int (Builtin.bitXor i j)):=HU λ_ _ _ _ _ _ _ q=>xor_int q
theorem unI{f:Value->Sem Value}{g:Int->Int}
  (rule:∀(i:Int) (t:Tok) (s:Shared) (Q:Vs) (E:Vs),Q (.int (g i) s.toks) { s with toks:=s.toks+1 }->wpAny (model X.prog X.w) X.A (f (.int i t)) Q E s):
  UnR X f (rU λi=>.int (g i)):=by
 intro pins s σ H x v Q I rx h;obtain⟨i,rfl,q⟩:=h;obtain⟨t,rfl⟩:=rx;exact rule i t s _ _ ⟨.int (g i),H,I.tok _,⟨_,rfl⟩,q⟩
theorem NP:UnR X (unaryOp .USub) (rU λi=>.int (-i)):=unI λ_ _ _ _ _ q=>neg_int q
theorem S6:UnR X (unaryOp .Invert) (rU λi=>.int (Builtin.bitNot i)):=unI λ_ _ _ _ _ q=>invert_int q
end
noncomputable def gL:V->V->Bool
 |.bI,.bI=>true|.bI,.int _=>true|.int _,.bI=>true|.bI,.bl _=>true|.bl _,.bI=>true|.bI,.str _=>true|.str _,.bI=>true
 |.int _,.int _=>true|.bl _,.bl _=>true|.str _,.str _=>true|.AK _,.AK _=>true
 |.int _,.str _=>true|.str _,.int _=>true|.bl _,.str _=>true|.str _,.bl _=>true
 |_,_=>false
theorem sc0:gL .bI .bI=true:=rfl
theorem sc1:gL .bI (.int i)=true:=rfl
theorem sc2:gL (.int i) .bI=true:=rfl
theorem sc3:gL .bI (.bl i)=true:=rfl
theorem sc4:gL (.bl i) .bI=true:=rfl
theorem sc5:gL .bI (.str i)=true:=rfl
theorem sc6:gL (.str i) .bI=true:=rfl
theorem sc7:gL (.int i) (.int j)=true:=rfl
theorem sc8:gL (.bl i) (.bl j)=true:=rfl
theorem sc9:gL (.str i) (.str j)=true:=rfl
theorem acC:gL (.int i) (.str j)=true:=rfl
theorem acM:gL (.str i) (.int j)=true:=rfl
theorem acH:gL (.bl i) (.str j)=true:=rfl
theorem acP:gL (.str i) (.bl j)=true:=rfl
def rEq:R2:=λx y H Q=>gL x y=true/\Q (.bl (decide (x=y))) H
def rNe:R2:=λx y H Q=>gL x y=true/\Q (.bl (!decide (x=y))) H
theorem C6:decide (V.int i=V.int j)=(i == j):=by
 rw[Ui];simp
theorem NQ:decide (V.bl i=V.bl j)=(i == j):=by
 rw[Ui];simp
theorem Ff:decide (V.str i=V.str j)=(i == j):=by
 rw[Ui];simp
theorem Dr:decide (V.AK i=V.AK j)=(i.toList == j.toList):=by
 rw[Ui];cases i;cases j;simp
section
variable{X:Cx}{a b c:Expr}{ta tb tc:TE}{pos:Pos}
theorem aU{pins:Lo}{σ:St}{H:Hp}{s:Shared}{Q:VK}{k k':Bool}(I:Inv X pins σ H s)(q:Q (.bl k) H)(e:k=k'):EP X pins σ Q (.bool k') s:=by
 subst e;exact⟨.bl k,H,I,rfl,q⟩
theorem aY:ir X (compareOp .Eq) rEq:=by
 intro pins s σ H x y v u Q I rx ry h;obtain⟨hs,q⟩:=h;cases x with
 |bI=>
  cases rx;cases y with
  |bI=>cases ry;exact PySem.EqNone.eq_none_none (aU I q (by simp))
  |bl j=>cases ry;exact PySem.EqNone.eq_none_bool (aU I q (by simp))
  |int j=>obtain⟨t',rfl⟩:=ry;exact PySem.EqNone.eq_none_int (aU I q (by simp))
  |str j=>obtain⟨t',rfl⟩:=ry;exact PySem.EqNone.eq_none_str (aU I q (by simp))
  |_=>exact absurd (show false=true from hs) zP
 |bl i=>
  cases rx;cases y with
  |bI=>cases ry;exact PySem.EqNone.eq_bool_none (aU I q (by simp))
  |bl j=>cases ry;exact eq_bool (aU I q NQ)
  |str j=>obtain⟨t',rfl⟩:=ry;exact PySem.EqMixed.eq_bool_str (aU I q (by simp))
  |_=>exact absurd (show false=true from hs) zP
 |int i=>
  obtain⟨t,rfl⟩:=rx;cases y with
  |bI=>cases ry;exact PySem.EqNone.eq_int_none (aU I q (by simp))
  |int j=>obtain⟨t',rfl⟩:=ry;exact eq_int (aU I q C6)
  |str j=>obtain⟨t',rfl⟩:=ry;exact PySem.EqMixed.eq_int_str (aU I q (by simp))
  |_=>exact absurd (show false=true from hs) zP
 |str i=>
  obtain⟨t,rfl⟩:=rx;cases y with
  |bI=>cases ry;exact PySem.EqNone.eq_str_none (aU I q (by simp))
  |bl j=>cases ry;exact PySem.EqMixed.eq_str_bool (aU I q (by simp))
  |int j=>obtain⟨t',rfl⟩:=ry;exact PySem.EqMixed.eq_str_int (aU I q (by simp))
  |str j=>obtain⟨t',rfl⟩:=ry;exact eq_str (aU I q Ff)
  |_=>exact absurd (show false=true from hs) zP
 |AK i=>
  obtain⟨t,rfl⟩:=rx;cases y with
  |AK j=>obtain⟨t',rfl⟩:=ry;exact PySem.W.eq_bytes (aU I q Dr)
  |_=>exact absurd (show false=true from hs) zP
 |_=>cases y<;>exact absurd (show false=true from hs) zP
theorem Ae:ir X (compareOp .NotEq) rNe:=by
 intro pins s σ H x y v u Q I rx ry h;obtain⟨hs,q⟩:=h;cases x with
 |bI=>
  cases rx;cases y with
  |bI=>cases ry;exact PySem.EqNone.ne_none_none (aU I q (by simp))
  |bl j=>cases ry;exact PySem.EqNone.ne_none_bool (aU I q (by simp))
  |int j=>obtain⟨t',rfl⟩:=ry;exact PySem.EqNone.ne_none_int (aU I q (by simp))
  |str j=>obtain⟨t',rfl⟩:=ry;exact PySem.EqNone.ne_none_str (aU I q (by simp))
  |_=>exact absurd (show false=true from hs) zP
 |bl i=>
  cases rx;cases y with
  |bI=>cases ry;exact PySem.EqNone.ne_bool_none (aU I q (by simp))
  |bl j=>cases ry;exact ne_bool (aU I q (congrArg not NQ))
  |str j=>obtain⟨t',rfl⟩:=ry;exact PySem.EqMixed.ne_bool_str (aU I q (by simp))
  |_=>exact absurd (show false=true from hs) zP
 |int i=>
  obtain⟨t,rfl⟩:=rx;cases y with
  |bI=>cases ry;exact PySem.EqNone.ne_int_none (aU I q (by simp))
  |int j=>obtain⟨t',rfl⟩:=ry;exact ne_int (aU I q (congrArg not C6))
  |str j=>obtain⟨t',rfl⟩:=ry;exact PySem.EqMixed.ne_int_str (aU I q (by simp))
  |_=>exact absurd (show false=true from hs) zP
 |str i=>
  obtain⟨t,rfl⟩:=rx;cases y with
  |bI=>cases ry;exact PySem.EqNone.ne_str_none (aU I q (by simp))
  |bl j=>cases ry;exact PySem.EqMixed.ne_str_bool (aU I q (by simp))
  |int j=>obtain⟨t',rfl⟩:=ry;exact PySem.EqMixed.ne_str_int (aU I q (by simp))
  |str j=>obtain⟨t',rfl⟩:=ry;exact ne_str (aU I q (congrArg not Ff))
  |_=>exact absurd (show false=true from hs) zP
 |AK i=>
  obtain⟨t,rfl⟩:=rx;cases y with
  |AK j=>obtain⟨t',rfl⟩:=ry;exact PySem.W.ne_bytes (aU I q (congrArg not Dr))
  |_=>exact absurd (show false=true from hs) zP
 |_=>cases y<;>exact absurd (show false=true from hs) zP
theorem Ij:ir X (compareOp .Lt) (PY λi j=>.bl (decide (i<j))):=XB λ_ _ _ _ _ _ _ q=>lt_int q
theorem YQ:ir X (compareOp .Gt) (PY λi j=>.bl (decide (j<i))):=XB λ_ _ _ _ _ _ _ q=>gt_int q
theorem ny:ir X (compareOp .Is) (λx y H Q=>y=.bI/\Q (.bl (decide (x=.bI))) H):=by
 intro pins s σ H x y v u Q I rx ry h;obtain⟨rfl,q⟩:=h;cases ry;refine is_none_gen (aU I q ?_);cases x<;>first
  | (cases rx;rfl)
  | (obtain⟨t,rfl⟩:=rx;rfl)
theorem Q5:ir X (compareOp .IsNot) (λx y H Q=>y=.bI/\Q (.bl (!decide (x=.bI))) H):=by
 intro pins s σ H x y v u Q I rx ry h;obtain⟨rfl,q⟩:=h;cases ry;refine isnot_none_gen (aU I q ?_);cases x<;>first
  | (cases rx;rfl)
  | (obtain⟨t,rfl⟩:=rx;rfl)
theorem ar(b:Expr){op:CmpOp}(h:op≠.In:=by decide)(h2:op≠.NotIn:=by decide):behindInMarks op b=false:=by
 have e1:(op == CmpOp.In)=false:=by cases op<;>first|rfl|exact absurd rfl h
 have e2:(op == CmpOp.NotIn)=false:=by cases op<;>first|rfl|exact absurd rfl h2
 cases b<;>simp[behindInMarks,e1,e2]
theorem fb(ho:ir X (compareOp op) r)(ha:PE X a ta)(hb:PE X b tb)(hm:behindInMarks op b=false):PE X (.Compare a [op] [b] pos) (Ry r ta tb):=by
 intro pins s σ H Q I h;exact wpAny_Compare1 (VO ha hb I h λv u s2 x y H2 I2 rx ry q=>ho pins s2 σ H2 x y v u Q I2 rx ry q) hm
def Yw(t:TE):TT:=λσ H Q=>t σ H λx H'=>∃k,x=.bl k/\Q k H'
theorem dB(ho:ir X (compareOp op) r)(ha:PE X a ta)(hb:PE X b tb)(hm:behindInMarks op b=false):PT X (.Compare a [op] [b] pos) (Yw (Ry r ta tb)):=by
 intro pins s σ H Q I h;refine wpAny_isTrue_Compare1 (bj (ha pins s σ H _ I h) λv s1 ⟨x,H1,I1,r1,q1⟩=>bj (hb pins s1 σ H1 _ I1 q1) λu s2 ⟨y,H2,I2,r2,q2⟩=>
  bj (ho pins s2 σ H2 x y v u _ I2 r1 r2 q2) λc s3 ⟨z,H3,I3,r3,k,e,q3⟩=>?_) hm
 subst e;cases r3;exact Wg ⟨H3,I3,q3⟩
def abx(r r':R2)(ta tb tc:TE):TE:=λσ H Q=>ta σ H λx H1=>tb σ H1 λy H2=>r x y H2 λz H3=>∃k,z=.bl k/\
 (if k=true then tc σ H3 λw' H4=>r' y w' H4 Q else Q (.bl false) H3)
def Zo(K:Wf)(x:V)(H:Hp)(k:Bool):Prop:=
 match x with
 |.bI=>k=false
 |.bl b=>k=b
 |.int i=>k=(i != 0)
 |.str y=>y.length<=sizeLine/\k=((y.length:Int) != 0)
 |.AK y=>y.size<=sizeLine/\k=((y.size:Int) != 0)
 |.ref p=>(∃xs,aI K H p xs/\k = !xs.isEmpty)\/(∃xs,bB K H p xs/\k = !xs.isEmpty)\/∃kvs,H p=some (.dK kvs)/\k = !kvs.isEmpty
 |_=>False
theorem Bh{κ:Type}{kvs:List (κ×V)}{vs:List (κ×Value)}(r:KV kvs vs):(!vs.isEmpty) = !kvs.isEmpty:=by
 cases r<;>rfl
theorem nh(r:Vals xs its):(!its.toArray.isEmpty) = !xs.isEmpty:=by
 cases r<;>simp
theorem oA:(sizeLine:Nat)<2 ^ 63:=by rw[sizeLine_eq];decide
theorem U2:abZ X (λx H Q=>∃k,Zo X.K x H k/\Q k H):=by
 intro pins s σ H x v Q I rx h;obtain⟨k,e,q⟩:=h;have hl:=oA;have hs:sizeLine=16777216:=sizeLine_eq;cases x with
 |bI=>
  cases rx;have e':k=false:=e;subst e';exact truthy_none ⟨H,I,q⟩
 |bl b=>
  cases rx;have e':k=b:=e;subst e';exact Wg ⟨H,I,q⟩
 |int i=>
  obtain⟨t,rfl⟩:=rx;have e':k=(i != 0):=e;subst e';exact PySem.P.truthy_int ⟨H,I,q⟩
 |str y=>
  obtain⟨t,rfl⟩:=rx;obtain⟨hy,e'⟩:y.length<=sizeLine/\k=((y.length:Int) != 0):=e;subst e';exact PySem.P.truthy_str (by omega) ⟨H,I.tok _,q⟩
 |AK y=>
  obtain⟨t,rfl⟩:=rx;obtain⟨hy,e'⟩:y.size<=sizeLine/\k=((y.size:Int) != 0):=e;subst e';exact PySem.W.truthy_bytes (by omega) ⟨H,I.tok _,q⟩
 |ref p=>
  cases rx;have e':(∃xs,aI X.K H p xs/\k = !xs.isEmpty)\/(∃xs,bB X.K H p xs/\k = !xs.isEmpty)\/∃kvs,H p=some (.dK kvs)/\k = !kvs.isEmpty:=e;rcases e' with ⟨xs,hx,e'⟩|⟨xs,hx,e'⟩|⟨kvs,hx,e'⟩
  ·subst e';obtain⟨its,r,pl,hz⟩:=I.list hx;have hlen:=r.length;exact wpAny_truthy_list pl.isList (by simp only[List.size_toArray];omega) ⟨H,I.tok _,by rw[nh r];exact q⟩
  ·subst e';obtain⟨its,r,pl,hz⟩:=I.tuple hx;have hlen:=r.length;exact truthy_tuple pl (by simp only[List.size_toArray];omega) ⟨H,I.tok _,by rw[nh r];exact q⟩
  ·subst e';obtain⟨hz,hS,vs,r,m⟩:kvs.length<=sizeLine/\(p == sysModules)=false/\∃vs,KV kvs vs/\s.heap.DictOf (aZ X.prog X.w) p vs:=I.aN p _ hx;have hlen:kvs.length=vs.length:=Paired.length r;exact wpAny_truthy_dict hS m (by omega) ⟨H,I.tok _,by rw[Bh r];exact q⟩
 |_=>exact(show False from e).elim
theorem nv(ha:PE X a ta)(he:∀whole,isTrue a X.env whole=(do let v <-whole;standAt a.pos;holding [v] (truthy v))):
  PT X a (λσ H Q=>ta σ H λx H'=>∃k,Zo X.K x H' k/\Q k H'):=by
 intro pins s σ H Q I h;exact isTrue_plain (bj (ha pins s σ H _ I h) λv s1 ⟨x,H1,I1,r1,q1⟩=>U2 pins s1 σ H1 x v Q I1 r1 q1) (he _)
theorem vals1(r:Vals [x] us):∃u,us=[u]/\RelV x u:=by
 cases r with
 |cons r1 r2=>cases r2;exact⟨_,rfl,r1⟩
theorem vals2(r:Vals [x,y] us):∃u w',us=[u,w']/\RelV x u/\RelV y w':=by
 cases r with
 |cons r1 r2=>
  cases r2 with
  |cons r3 r4=>cases r4;exact⟨_,_,rfl,r1,r3⟩
theorem Gp(hc:X.calm=true):cS X (.builtin "max") (λxs H Q=>∃i j,xs=[.int i,.int j]/\Q (.int (if j>i then j else i)) H):=by
 intro pins s σ H xs us Q I r h;obtain⟨i,j,rfl,q⟩:=h;obtain⟨u,w',rfl,⟨t,rfl⟩,⟨t',rfl⟩⟩:=vals2 r;refine max_two_ints (I.ok.hd hc) λh' tk k=>⟨_,H,I.kept k,?_,q⟩;by_cases hj:j>i
 ·rw[if_pos hj,if_pos hj];exact⟨_,rfl⟩
 ·rw[if_neg hj,if_neg hj];exact⟨_,rfl⟩
theorem p0:cS X (.type "int") (λxs H Q=>(∃i,xs=[.int i]/\Q (.int i) H)\/∃k,xs=[.bl k]/\Q (.int (if k then 1 else 0)) H):=by
 intro pins s σ H xs us Q I r h;rcases h with ⟨i,rfl,q⟩|⟨k,rfl,q⟩
 ·obtain⟨u,rfl,t,rfl⟩:=vals1 r;exact call_int_int ⟨.int i,H,I,⟨_,rfl⟩,q⟩
 ·obtain⟨u,rfl,r1⟩:=vals1 r;cases r1;exact call_int_bool ⟨.int (if k then 1 else 0),H,I.tok _,⟨_,rfl⟩,q⟩
def Xi(K:Wf)(x:V)(H:Hp)(n:Nat):Prop:=
 match x with
 |.str y=>y.length<=sizeLine/\n=y.length
 |.AK y=>y.size<=sizeLine/\n=y.size
 |.ref p=>(∃xs,aI K H p xs/\n=xs.length)\/∃xs,bB K H p xs/\n=xs.length
 |_=>False
theorem LN:cS X (.builtin "len") (λxs H Q=>∃x n,xs=[x]/\Xi X.K x H n/\Q (.int n) H):=by
 intro pins s σ H xs us Q I r h;obtain⟨x,n,rfl,e,q⟩:=h;obtain⟨u,rfl,rx⟩:=vals1 r;have hl:=oA;have hs:sizeLine=16777216:=sizeLine_eq;cases x with
 |str y=>
  obtain⟨t,rfl⟩:=rx;obtain⟨hy,e'⟩:y.length<=sizeLine/\n=y.length:=e;subst e';exact len_str (by omega) ⟨.int _,H,I.tok _,⟨_,rfl⟩,q⟩
 |AK y=>
  obtain⟨t,rfl⟩:=rx;obtain⟨hy,e'⟩:y.size<=sizeLine/\n=y.size:=e;subst e';exact PySem.W.len_bytes (by omega) ⟨.int _,H,I.tok _,⟨_,rfl⟩,q⟩
 |ref p=>
  cases rx;have e':(∃xs,aI X.K H p xs/\n=xs.length)\/∃xs,bB X.K H p xs/\n=xs.length:=e;rcases e' with ⟨xs,hx,e'⟩|⟨xs,hx,e'⟩
  ·subst e';obtain⟨its,r',pl,hz⟩:=I.list hx;have hlen:=r'.length;exact Calls.call_len_list pl.isList (by simp only[List.size_toArray];omega) ⟨.int xs.length,H,I.tok _,⟨_,by simp only[List.size_toArray];rw[hlen]⟩,q⟩
  ·subst e';obtain⟨its,r',pl,hz⟩:=I.tuple hx;have hlen:=r'.length;exact len_tuple pl (by simp only[List.size_toArray];omega) ⟨.int xs.length,H,I.tok _,⟨_,by simp only[List.size_toArray];rw[hlen]⟩,q⟩
 |_=>exact(show False from e).elim
end
structure B9(h:Heap)(x dx C:Addr)(mA:So):Prop where
 obj:h.get? x=some (instObj C dx)
 ns:h.Ns1 dx mA
 ne:dx≠x
theorem G1{h:Heap}{dx:Addr}{mA:So}(n:h.Ns1 dx mA):∃od,h.get? dx=some od/\∀name,lookIn name od=some (mA name):=by
 obtain⟨o,es,ep,ho,hd,hk,_,hm⟩:=n;refine⟨o,ho,λname=>?_⟩;have e:=hm name;unfold nsFind findBy at e;rw[<-Array.find?_toList]at e;unfold lookIn;rw[hd];dsimp only;split
 ·rename_i y q;rw[q]at e;exact congrArg some e
 ·rename_i q;rw[q]at e;have a:es.toList.any (·.refKey)=false:=by
   rw[List.any_eq_false];intro y hy;obtain⟨z,t,hkey⟩:=hk y (Array.mem_toList_iff.mp hy);simp[DictEntry.refKey,hkey]
  have a':¬es.toList.any (·.refKey)=true:=by rw[a];exact zP
  rw[if_neg a'];exact congrArg some e
theorem B9.look(I:B9 h x dx C mA):∃od,PySem.W.InstAt h x (instObj C dx) C (some od)/\∀name,lookIn name od=some (mA name):=
 let ⟨od,ho,hl⟩:=G1 I.ns
 ⟨od,⟨I.obj,rfl,rfl,ho⟩,hl⟩
section
variable{prog:Program}{w:World}{A:Around}{E:Vs}{s:Shared}{K:Wf}{x dx C f:Addr}{mA:So}{name:Str}{v:Value}
theorem get_map{expr:Bool}{Q:Vs}(X:K.In s.heap)(I:B9 s.heap x dx C mA)(hg:plainGet K C name=true)(hh:hasDictIn K C=true)
  (ha:findIn K (.ref C) name=some none) (hv:mA name=some v) (hv':handedIn v=true) (h:Q v { s with toks:=s.toks+1 }):
  wpAny (model prog w) A (getAttr (.ref x) name expr) Q E s:=by
 obtain⟨od,J,hl⟩:=I.look;exact PySem.W.get_value X J (plainGet_of hg).1 (PySem.W.findObj_own hh ha rfl (by rw[hl,hv])) hv' h
theorem OZ(X:K.In s.heap)(I:B9 s.heap x dx C mA)(hg:plainGet K C name=true)
  (hf:findIn K (.ref C) name=some (some (.ref f))) (ht:isFn K (.ref f)=true) (hv:mA name=none) (h:Q (.ref f,[.ref x]) s):
  wpAny (model prog w) A (getMethod (.ref x) name pl) Q E s:=by
 obtain⟨od,J,hl⟩:=I.look;exact PySem.W.method_fn X J (plainGet_of hg).1 (plainGet_of hg).2 hf (beq_iff_eq.mp ht) (by show(lookIn name od).map (·.isSome)=some false;rw[hl,hv];rfl) h
theorem Qe(X:K.In s.heap)(I:B9 s.heap x dx C mA)
  (hs:findIn K (.ref C) "__setattr__" = some (some (.builtin "object.__setattr__"))) (hp:plainOver K C=true) (ht:takerIn K C name=some none) (hh:hasDictIn K C=true)
  (hw:PySem.Within mA ns) (hsz:ns.length<=sizeLine)
  (h:∀h',B9 h' x dx C (λy=>if y=name then some v else mA y)->Heap.SameBut dx s.heap h'->Q () { s with heap:=h',toks:=s.toks+2 }):
  wpAny (model prog w) A (setAttr (.ref x) name v) Q E s:=by
 obtain⟨od,J,hl⟩:=I.look;refine PySem.W.set_plain X J hs (PySem.W.osa_open (s:={ s with toks:=s.toks+1 }) (r:=none) X J hp ht λb=>?_);obtain⟨cd,hc,hd'⟩:=PySem.W.any_some hh;have hx:s.heap.get? x=some ⟨.ref C,some dx,.plain,#[]⟩:=I.obj;refine aw (bc (aw (aw (wpAny_loadPart hx (aw (PySem.W.Looks.here (s:={ s with toks:=s.toks+1 }) (PySem.W.looks_clsIn X hc) ?_))))));rw[hd'];refine bc (a:=some dx) (aw (bc (aw ?_)));refine wpAny_nsSet1 (s:={ s with toks:=s.toks+1 }) I.ns λh' hn2 hs2=>?_;obtain⟨oD,esD,epD,hoD,hdD,hcD⟩:=hn2.count (PySem.Within.cons name v hw);refine aw (wpAny_lookBehind hoD (by rw[hdD];exact pastItsLine_dict (zc hcD (by rw[pR];omega))) ?_);exact bc (h _ ⟨(hs2.2 _ (Ne.symm I.ne)).trans I.obj,hn2,I.ne⟩ hs2)
theorem Mv(X:K.In s.heap)(hm:makesIn K C=true)
  (hi:findIn K (.ref C) "__init__" = some (some (.ref f))) (hf:PySem.W.typeIn K (.ref f)=some (.type "function"))
  (h:codeAny (model prog w) (A.under (.builtin "type.__call__" ⟨.ref C::vs,kw⟩)) (.call (.ref f) ⟨.ref (s.heap.objs.size+1)::vs,kw⟩) (PySem.W.InitBack (s.heap.objs.size+1) R)
   { s with heap:=(s.heap.push emptyDict).push (instObj C s.heap.objs.size) }):
  codeAny (model prog w) A (.call (.ref C) ⟨vs,kw⟩) R s:=by
 obtain⟨hh,g,d,t,os⟩:=s;exact PySem.W.make_core (PySem.W.makes_of X hm) (PySem.W.looks_findIn X hi) (λself=>PySem.W.bind_fn X self hf) (.inl rfl) h
end
noncomputable def putF(f:Str)(v:V):List (Str×V)->List (Str×V)
 |[]=>[(f,v)]
 | (g,x)::r=>if g=f then (g,v)::r else (g,x)::putF f v r
theorem jI(f g:Str)(v:V):∀fs:List (Str×V),(putF f v fs).lookup g=if g=f then some v else fs.lookup g
 |[]=>by
  show List.lookup g [(f,v)]=_;by_cases h:g=f
  ·have hb:(g == f)=true:=beq_iff_eq.mpr h;simp only[List.lookup,hb,if_pos h]
  ·have hb:(g == f)=false:=beq_eq_false_iff_ne.mpr h;simp only[List.lookup,hb,if_neg h]
 | (k,x)::r=>by
  have ih:=jI f g v r;rw[show putF f v ((k,x)::r)=(if k=f then (k,v)::r else (k,x)::putF f v r) from rfl];by_cases hk:k=f
  ·rw[if_pos hk];by_cases h:g=k
   ·have hb:(g == k)=true:=beq_iff_eq.mpr h;simp only[List.lookup,hb,if_pos (h.trans hk)]
   ·have hb:(g == k)=false:=beq_eq_false_iff_ne.mpr h;simp only[List.lookup,hb,if_neg (λe:g=f=>h (e.trans hk.symm))]
  ·rw[if_neg hk];by_cases h:g=k
   ·have hb:(g == k)=true:=beq_iff_eq.mpr h;simp only[List.lookup,hb,if_neg (λe:g=f=>hk (h.symm.trans e))]
   ·have hb:(g == k)=false:=beq_eq_false_iff_ne.mpr h;simp only[List.lookup,hb];exact ih
theorem jo(f:Str)(v:V):∀fs:List (Str×V),f∈(putF f v fs).map (·.1)/\∀g,g∈fs.map (·.1)->g∈(putF f v fs).map (·.1)
 |[]=>⟨by simp[putF],λg h=>by simp at h⟩
 | (k,x)::r=>by
  obtain⟨i1,i2⟩:=jo f v r;rw[show putF f v ((k,x)::r)=(if k=f then (k,v)::r else (k,x)::putF f v r) from rfl];by_cases hk:k=f
  ·rw[if_pos hk];subst hk;exact⟨by simp,λg h=>by simpa using h⟩
  ·rw[if_neg hk];refine⟨?_,λg h=>?_⟩
   ·rw[pJ];exact Bv _ i1
   ·rw[pJ]at h ⊢;rcases i_.mp h with e|e
    ·exact i_.mpr (.inl e)
    ·exact Bv _ (i2 g e)
theorem jJ(f:Str)(v:V):∀fs:List (Str×V),(putF f v fs).length<=fs.length+1
 |[]=>by simp[putF]
 | (k,x)::r=>by
  have ih:=jJ f v r;rw[show putF f v ((k,x)::r)=(if k=f then (k,v)::r else (k,x)::putF f v r) from rfl];by_cases hk:k=f
  ·rw[if_pos hk,pR,pR];omega
  ·rw[if_neg hk,pR,pR];omega
theorem fu.some_of(r:fu (some v) o):∃u,o=some u/\RelV v u:=by
 cases o with
 |none=>exact(show False from r).elim
 |some u=>exact⟨u,rfl,r⟩
theorem fu.none_of(r:fu none o):o=none:=by
 cases o with
 |none=>rfl
 |some u=>exact(show False from r).elim
theorem Gf(r:RelV v u):handedIn u=true:=by
 cases v with
 |bI=>cases (show u=Value.none from r);rfl
 |bl b=>cases (show u=Value.bool b from r);rfl
 |int i=>obtain⟨t,e⟩:=(show ∃t,u=Value.int i t from r);cases e;rfl
 |str x=>obtain⟨t,e⟩:=(show ∃t,u=Value.str x t from r);cases e;rfl
 |AK b=>obtain⟨t,e⟩:=(show ∃t,u=Value.bytes b t from r);cases e;rfl
 |UC b=>obtain⟨t,e⟩:=(show ∃t,u=Value.float b t from r);cases e;rfl
 |ref a=>cases (show u=Value.ref a from r);rfl
 |ty n=>cases (show u=Value.type n from r);rfl
section
variable{P:Program}{w:World}{H H':Hp}{h h':Heap}{a C dx:Addr}{fs fs':List (Str×V)}
theorem mG(aN:e7 P w H h)(e:H a=some (.ins C dx fs)):∃mA,B9 h a dx C mA/\(∀f,fu (fs.lookup f) (mA f))/\PySem.Within mA (fs.map (·.1))/\fs.length<=1000/\H dx=some (.own a):=by
 obtain⟨d,z,ne,ob,mA,n,r,q⟩:=(show a0 P w H h a (.ins C dx fs) from aN a _ e)
 exact⟨mA,⟨ob,n,ne⟩,r,q,z,d⟩
end
structure zb(K:Wf)(C:Addr):Prop where
 pg:plainGet K C Str.empty=true
 hd:hasDictIn K C=true
 po:plainOver K C=true
 sa:findIn K (.ref C) "__setattr__" = some (some (.builtin "object.__setattr__"))
theorem zb.get{K:Wf}{C:Addr}(c:zb K C)(f:Str):plainGet K C f=true:=c.pg
def bu(K:Wf)(C:Addr)(f:Str):Prop:=findIn K (.ref C) f=some none
theorem bu.Zl{K:Wf}{C:Addr}{f:Str}(n:bu K C f):takerIn K C f=some none:=by
 unfold takerIn;rw[show findIn K (.ref C) f=some none from n];rfl
structure Meth(K:Wf)(C:Addr)(m:Str)(f:Addr):Prop where
 at_:findIn K (.ref C) m=some (some (.ref f))
 fn:isFn K (.ref f)=true
 kp:keepIn K (.ref f)=true
section
variable{X:Cx}{pins:Lo}{σ:St}{H:Hp}{s:Shared}{a C dx:Addr}{fs:List (Str×V)}{f:Str}{v:V}{A:Around}{E:Vs}
theorem A8{b:Bool}{Q:Vs}(I:Inv X pins σ H s)(e:H a=some (.ins C dx fs))(c:zb X.K C)(n:bu X.K C f)(l:fs.lookup f=some v)
  (h:∀u s',Inv X pins σ H s'->RelV v u->Q u s'):wpAny (model X.prog X.w) A (getAttr (.ref a) f b) Q E s:=by
 obtain⟨mA,O,r,_,_,_⟩:=mG I.aN e;obtain⟨u,hu,ru⟩:=fu.some_of (v:=v) (o:=mA f) (by rw[<-l];exact r f);exact get_map I.ib O (c.get f) c.hd n hu (Gf ru) (h u _ (I.tok _) ru)
theorem h7(I:Inv X pins σ H s)(e:H a=some (.ins C dx fs))(c:zb X.K C)(k:Meth X.K C m g)(l:fs.lookup m=none)
  (h:Q (.ref g,[.ref a]) s):wpAny (model X.prog X.w) A (getMethod (.ref a) m pl) Q E s:=by
 obtain⟨mA,O,r,_,_,_⟩:=mG I.aN e;have hn:mA m=none:=fu.none_of (by rw[<-l];exact r m);exact OZ I.ib O (c.get m) k.at_ k.fn hn h
theorem Bd(I:Inv X pins σ H s)(e:H a=some (.ins C dx fs))(c:zb X.K C)(n:bu X.K C f)(hl:fs.length<1000)(ry:RelV y u)
  (h:∀s',Inv X pins σ (upd H a (.ins C dx (putF f y fs))) s'->Q () s'):wpAny (model X.prog X.w) A (setAttr (.ref a) f u) Q E s:=by
 obtain⟨mA,O,r,wi,_,ho⟩:=mG I.aN e;have hz:(fs.map (·.1)).length<=sizeLine:=by rw[aS,sizeLine_eq];omega
 refine Qe I.ib O c.sa c.po n.Zl c.hd wi hz λh' O' sb=>h _ ?_;have hd:∃o,h'.get? dx=some o:=let ⟨o,_,_,e',_⟩:=O'.ns;⟨o,e'⟩
 refine I.write (x:=a) (e:=dx) (by rw[e];exact True.intro) (.inr ho) (λb q hb z=>(sb.2 b hb).trans z) hd ?_;refine⟨by rw[ae O.ne];exact ho,?_,O.ne,O'.obj,_,O'.ns,λg=>?_,λg hg=>?_⟩
 ·have:=jJ f y fs;omega
 ·show fu ((putF f y fs).lookup g) (if g=f then some u else mA g);rw[jI];by_cases q:g=f
  ·rw[if_pos q,if_pos q];exact ry
  ·rw[if_neg q,if_neg q];exact r g
 ·by_cases q:g=f
  ·rw[q];exact(jo f y fs).1
  ·refine(jo f y fs).2 g (wi g λz=>hg ?_);show(if g=f then some u else mA g)=none;rw[if_neg q];exact z
theorem Inv.made(I:Inv X pins σ H s):Inv X pins σ (upd (upd H s.heap.objs.size (.own (s.heap.objs.size+1))) (s.heap.objs.size+1) (.ins C s.heap.objs.size []))
  { s with heap:=(s.heap.push emptyDict).push (instObj C s.heap.objs.size) }:=by
 have e1:(s.heap.push emptyDict).get? s.heap.objs.size=some emptyDict:=iu s.heap rfl;have e2:((s.heap.push emptyDict).push (instObj C s.heap.objs.size)).get? (s.heap.objs.size+1)=some (instObj C s.heap.objs.size):=by
  have:=iu (s.heap.push emptyDict) (o:=instObj C s.heap.objs.size) rfl
  rwa [Heap.size_push]at this
 have e3:(s.heap.push emptyDict).Ns s.heap.objs.size (λ_=>none):=⟨emptyDict,#[],_,e1,rfl,(λe he=>absurd he (by simp)),λ_=>rfl⟩
 have I1:=I.laid (a:=s.heap.objs.size) (o:=.own (s.heap.objs.size+1)) (h':=s.heap.push emptyDict) (t':=s.toks) (λb u q=>dM _ q) (bA _) ⟨_,e1⟩;refine I1.laid (a:=s.heap.objs.size+1) (o:=.ins C s.heap.objs.size []) (t':=s.toks) (λb u q=>dM _ q) (Nat.le_of_eq (Heap.size_push _ _)) ?_;have ne:s.heap.objs.size≠s.heap.objs.size+1:=fE (XI _);refine⟨by rw[ae ne,aJ],i8 _,ne,e2,λ_=>none,(Heap.Ns1.of_empty e3).at λo q=>dM _ q,λ_=>True.intro,λy hy=>absurd rfl hy⟩
theorem Qp{prog:Program}{w:World}{env:Env}{e:Expr}{f:Str}{pos:Pos}{s:Shared}{Q:Vs}(hb:attributeBase e f env (eval e env)=eval e env)
  (h:wpAny (model prog w) A (eval e env) (λo s₁=>wpAny (model prog w) A (getAttr o f true) Q E s₁) E s):wpAny (model prog w) A (eval (.Attribute e f pos) env) Q E s:=
 Attribute_any_ h (by rw[arm_eval_Attribute,hb])
end
def aci(K:Wf)(ta:TE)(f:Str):TE:=λσ H Q=>ta σ H λx H1=>∃a C dx fs v,x=.ref a/\H1 a=some (.ins C dx fs)/\zb K C/\bu K C f/\fs.lookup f=some v/\Q v H1
def aaA(K:Wf)(ta tv:TE)(f:Str):TS:=λD σ H=>tv σ H λy H1=>ta σ H1 λx H2=>∃a C dx fs,x=.ref a/\H2 a=some (.ins C dx fs)/\zb K C/\bu K C f/\fs.length<1000/\
 D.nx σ (upd H2 a (.ins C dx (putF f y fs)))
section
variable{X:Cx}{o e value:Expr}{f:Str}{pos pos' tpos:Pos}{ta tv:TE}
theorem aX(he:PE X e ta)(hb:attributeBase e f X.env (eval e X.env)=eval e X.env):PE X (.Attribute e f pos) (aci X.K ta f):=by
 intro pins s σ H Q I h;refine Qp hb (bj (he pins s σ H _ I h) λu s1 ⟨x,H1,I1,rx,a,C,dx,fs,v,ex,ea,c,n,l,q⟩=>?_);subst ex;obtain rfl:u=Value.ref a:=rx;exact A8 I1 ea c n l λu' s2 I2 ru=>⟨v,H1,I2,ru,q⟩
theorem cM(ha:PE X o ta)(hv:PE X value tv)(hs:swapsWith value (some (.Attribute o f pos')) pos.line X.env=pure false):PS X (.Assign [.Attribute o f pos'] value pos) (aaA X.K ta tv f):=by
 intro pins s σ H D I h;refine plainObj_wpAny_Assign_Attribute (bj (hv pins s σ H _ I h) λu s1 ⟨y,H1,I1,ry,q⟩=>bj (ha pins s1 σ H1 _ I1 q) λov s2 ⟨x,H2,I2,rx,a,C,dx,fs,ex,ea,c,n,l,q2⟩=>?_) hs;subst ex;obtain rfl:ov=Value.ref a:=rx;exact Bd I2 ea c n l ry λs3 I3=>⟨σ,_,I3,q2⟩
end
section
variable{X:Cx}{pins:Lo}{σ:St}{H:Hp}{s:Shared}{A:Around}{E:Vs}{Q:Vs}{c:Value}{b:Bool}
set_option genInjectivity true in
inductive hU (K:Wf) (H:Hp):V->Value->Prop where
 |bI:hU K H .bI (.type "NoneType")
 |bl (x:Bool):hU K H (.bl x) (.type "bool")
 |int (i:Int):hU K H (.int i) (.type "int")
 |str (x:Str):hU K H (.str x) (.type "str")
 |UC (x:UInt64):hU K H (.UC x) (.type "float")
 |lst {a:Addr}{xs:List V}(e:H a=some (.lst xs)):hU K H (.ref a) (.type "list")
 |g9 {a:Addr}{o:Obj}{xs:List V}(e:H a=some (.g9 o (.lst xs))):hU K H (.ref a) (.type "list")
 |tup {a:Addr}{xs:List V}(e:H a=some (.tup xs)):hU K H (.ref a) (.type "tuple")
 |dK {a:Addr}{kvs:List (Key×V)}(e:H a=some (.dK kvs)):hU K H (.ref a) (.type "dict")
 |dT {a:Addr}{kvs:List (List Key×V)}(e:H a=some (.dT kvs)):hU K H (.ref a) (.type "dict")
 |ins {a C dx:Addr}{fs:List (Str×V)}(e:H a=some (.ins C dx fs)) (cl:zb K C) (ha:findIn K (.ref C) "__class__" = some (some (.builtin "object.__class__")))
   (hn:specialIn K (.builtin "object.__class__") "__get__" = some (some (.builtin "getset_descriptor.__get__"))) (htk:takesIn K (.builtin "object.__class__")=some true)
   (hm:mroIn K C (.type "object")=some true):hU K H (.ref a) (.ref C)
theorem jA(I:Inv X pins σ H s)(rx:RelV x u)(ty:hU X.K H x t)(e:kitOne X.K t c=some b)(h:∀tk,Q (.bool b) { s with toks:=tk }):
  wpAny (model X.prog X.w) A (call (.builtin "isinstance") [u,c]) Q E s:=by
 cases ty with
 |bI=>cases (show u=Value.none from rx);exact kia_one PySem.W.kitx_none I.ib True.intro e (λz=>nomatch z) h
 |bl y=>cases (show u=Value.bool y from rx);exact kia_one PySem.W.kitx_bool I.ib True.intro e (λz=>nomatch z) h
 |int i=>obtain⟨t,q⟩:=(show ∃t,u=Value.int i t from rx);cases q;exact kia_one PySem.W.kitx_int I.ib True.intro e (λz=>nomatch z) h
 |str y=>obtain⟨t,q⟩:=(show ∃t,u=Value.str y t from rx);cases q;exact kia_one PySem.W.kitx_str I.ib True.intro e (λz=>nomatch z) h
 |UC y=>obtain⟨t,q⟩:=(show ∃t,u=Value.float y t from rx);cases q;exact kia_one PySem.W.kitx_float I.ib True.intro e (λz=>nomatch z) h
 |@lst a xs ea=>
  cases (show u=Value.ref a from rx);obtain⟨_,_,n,_,h1⟩:=(show a0 X.prog X.w H s.heap a (.lst xs) from I.aN a _ ea)
  exact kia_one kitx_list I.ib ⟨_,h1,rfl⟩ e (λz=>nomatch z) h
 |@g9 a ob xs ea=>
  cases (show u=Value.ref a from rx);obtain⟨_,_,_,n,_,h1⟩:=(show a0 X.prog X.w H s.heap a (.g9 ob (.lst xs)) from I.aN a _ ea)
  exact kia_one kitx_list I.ib ⟨_,h1,rfl⟩ e (λz=>nomatch z) h
 |@tup a xs ea=>
  cases (show u=Value.ref a from rx);obtain⟨_,_,_,p⟩:=(show a0 X.prog X.w H s.heap a (.tup xs) from I.aN a _ ea)
  obtain⟨o,h1,h2,_⟩:=p;exact kia_one PySem.W.kitx_tuple I.ib ⟨o,h1,h2⟩ e (λz=>nomatch z) h
 |@dK a kvs ea=>
  cases (show u=Value.ref a from rx);obtain⟨_,_,vs,_,p⟩:=(show a0 X.prog X.w H s.heap a (.dK kvs) from I.aN a _ ea)
  obtain⟨o,es,ep,h1,h2,_⟩:=p;exact kia_one kitx_dict I.ib ⟨o,h1,h2.1⟩ e (λz=>nomatch z) h
 |@dT a kvs ea=>
  cases (show u=Value.ref a from rx);obtain⟨_,_,xs,_,o,es,ep,h1,h2,_⟩:=(show a0 X.prog X.w H s.heap a (.dT kvs) from I.aN a _ ea)
  exact kia_one kitx_dict I.ib ⟨o,h1,h2.1⟩ e (λz=>nomatch z) h
 |@ins a C dx fs ea cl ha hn htk hm=>
  cases (show u=Value.ref a from rx);obtain⟨mA,O,_⟩:=mG I.aN ea;obtain⟨od,J,_⟩:=O.look;exact kia_one (PySem.W.kitx_own (cl.get _) cl.hd ha hn htk hm) I.ib J e (λz=>nomatch z) h
end
structure cg(k:Nat)(A:Around):Prop where
 hd:A.handled=none
 dp:A.depth+3*k+5<recursionLimit
 un:A.units+16*k+200<cLine
theorem cg.mono{j k:Nat}{A:Around}(r:cg k A)(h:j<=k):cg j A:=⟨r.hd,by have:=r.dp;omega,by have:=r.un;omega⟩
theorem cg.deeper(r:cg (k+1) A)(env:Env):cg k (A.deeper env):=
 ⟨r.hd,by have:=r.dp;show A.depth+1+3*k+5<_;omega,by have:=r.un;show A.units+3+16*k+200<_;omega⟩
theorem cg.in1{k:Nat}{A:Around}(r:cg (k+1) A):cg k A.in1:=
 ⟨r.hd,by have:=r.dp;show A.depth+3*k+5<_;omega,by have:=r.un;show A.units+1+16*k+200<_;omega⟩
theorem Bm{A:Around}{C:Addr}{us:List Value}{kw:List (Str×Value)}:(A.under (.builtin "type.__call__" ⟨.ref C::us,kw⟩)).depth=A.depth+1:=by
 first|rfl|simp[Around.under,Code.weight,Code.isCreation,Code.isGuard,Code.isCaller,Code.frames,Code.isFrame,guardIds]
theorem A2{A:Around}{C:Addr}{us:List Value}{kw:List (Str×Value)}:(A.under (.builtin "type.__call__" ⟨.ref C::us,kw⟩)).units=A.units+1:=by
 first|rfl|simp[Around.under,Code.cUnits,Code.frames,Code.isFrame]
theorem cg.make{k:Nat}{A:Around}(r:cg (k+1) A)(C:Addr)(us:List Value)(kw:List (Str×Value)):cg k (A.under (.builtin "type.__call__" ⟨.ref C::us,kw⟩)):=
 ⟨r.hd,by have:=r.dp;rw[Bm];omega,by have:=r.un;rw[A2];omega⟩
theorem cg.depth(r:cg k A):A.depth<recursionLimit:=by have:=r.dp;omega
theorem cg.units(r:cg k A):A.units+64<cLine:=by have:=r.un;omega
def VC:TA:=λ_ H Q=>Q [] H
def Zr(ta:TE)(tr:TA):TA:=λσ H Q=>ta σ H λx H1=>tr σ H1 λxs H2=>Q (x::xs) H2
section
variable{X:Cx}{e:Expr}{es:List Expr}{te:TE}{t:TA}{pos:Pos}
theorem aa:PA X [] VC:=λ_ _ _ _ H Q I h=>Calls.spliced_nil ⟨[],H,I,.nil,h⟩
theorem ah(ha:PE X e te)(hr:PA X es t)(hs:starEach (e::es) X.env=(false,eval e X.env)::starEach es X.env:=by rfl):PA X (e::es) (Zr te t):=by
 intro pos pins s σ H Q I h;rw[hs];show wpAny _ _ (spliced ((false,eval e X.env)::backTo pos (starEach es X.env))) _ _ s;refine Calls.spliced_cons (bj (ha pins s σ H _ I h) λu s1 ⟨x,H1,I1,r1,q1⟩=>?_);exact bj (hr pos pins s1 σ H1 _ I1 q1) λus s2 ⟨xs,H2,I2,r2,q2⟩=>⟨x::xs,H2,I2,.cons r1 r2,q2⟩
def abW(t:TA):TE:=λσ H Q=>t σ H λxs H1=>xs.length<=sizeLine/\∀p,H1 p=none->Q (.ref p) (upd H1 p (.tup xs))
def aao(t:TA):TE:=λσ H Q=>t σ H λxs H1=>xs.length<=sizeLine/\∀p,H1 p=none->Q (.ref p) (upd H1 p (.lst xs))
theorem a_(h:PA X es t):PE X (.Tuple es x1 pos) (abW t):=by
 intro pins s σ H Q I hq;refine wpAny_Tuple_spliced (bj (h pos pins s σ H _ I hq) λus s1 ⟨xs,H1,I1,r,z,q⟩=>⟨by rw[<-r.length];exact z,?_⟩);have hf:H1 s1.heap.objs.size=none:=I1.aN.fresh (bA _);refine⟨.ref s1.heap.objs.size,upd H1 s1.heap.objs.size (.tup xs),I1.laid (t':=s1.toks) (λb u e=>dM _ e) (bA _) ?_,rfl,q _ hf⟩;exact⟨z,us,r,⟨_,iu _ rfl,rfl,_,rfl⟩⟩
theorem bS(h:PA X es t):PE X (.List es pos) (aao t):=by
 intro pins s σ H Q I hq;refine wpAny_List_spliced (bj (h pos pins s σ H _ I hq) λus s1 ⟨xs,H1,I1,r,z,q⟩=>⟨by rw[<-r.length];exact z,?_⟩);have hf:H1 s1.heap.objs.size=none:=I1.aN.fresh (bA _);refine⟨.ref s1.heap.objs.size,upd H1 s1.heap.objs.size (.lst xs),I1.laid (t':=s1.toks) (λb u e=>dM _ e) (bA _) ?_,rfl,q _ hf⟩;exact⟨z,us,0,r,iu _ rfl⟩
end
noncomputable abbrev Sp:=List V->Hp->VK->XK->Prop
noncomputable abbrev G7:=List Env->Hp->Shared->XK->Value->Shared->Prop
structure oz(P:Program)(w:World)(K:Wf)(mg:So)(base:Heap)(A:Around)(outer:List Env)(s:Shared)(H:Hp):Prop where
 frames:A.frames=some outer
 mod:Mod K mg base
 bs:∀b o,base.get? b=some o->s.heap.get? b=some o/\H b=none
 Hn:base.objs.size<=s.heap.objs.size
 ig:s.heap.FunFrames base outer
 PH:∀b∈i9 outer,H b=none
 aN:e7 P w H s.heap
 bare:AllBare s.gens
def CE(outer:List Env)(P:Program)(w:World)(H:Hp)(s:Shared)(Q:VK)(u:Value)(s':Shared):Prop:=
 ∃v H',s'.os=s.os/\AllBare s'.gens/\Un (i9 outer) [] H H' s.heap s'.heap/\e7 P w H' s'.heap/\RelV v u/\Q v H'
def CR(CX:G7)(outer:List Env)(P:Program)(w:World)(H:Hp)(s:Shared)(Q:VK)(E:XK)(r:Result)(s':Shared):Prop:=
 match r with
 |.ok (.ret u)=>CE outer P w H s Q u s'
 |.ok _=>False
 |.error e=>CX outer H s E e s'
structure aG(P:Program)(w:World)(K:Wf)(mg:So)(base:Heap)(CX:G7)(k:Nat)(f:Addr)(fd:FuncData)(ps:List Str)(sp:Sp):Prop where
 len:∀vs H Q E,sp vs H Q E->vs.length=ps.length
 run:∀(A:Around) (outer:List Env) (s:Shared) (H:Hp) (args:Args) (us:List Value) (vs:List V) (Q:VK) (E:XK),cg k A->oz P w K mg base A outer s H->BindsTo s fd args (ps.zip us)->Vals vs us->sp vs H Q E->
  codeAny (model P w) A (.call (.ref f) args) (CR CX outer P w H s Q E) s
theorem oz.make{P:Program}{w:World}{K:Wf}{mg:So}{base:Heap}{A:Around}{outer:List Env}{s:Shared}{H:Hp}(e:oz P w K mg base A outer s H)(C:Addr)(us:List Value)(kw:List (Str×Value)):
  oz P w K mg base (A.under (.builtin "type.__call__" ⟨.ref C::us,kw⟩)) outer s H:=⟨by first|exact e.frames|(simpa [Around.under,Code.envs,Code.isFrame,pushEnvs] using e.frames),e.mod,e.bs,e.Hn,e.ig,e.PH,e.aN,e.bare⟩
theorem oz.in1{P:Program}{w:World}{K:Wf}{mg:So}{base:Heap}{A:Around}{outer:List Env}{s:Shared}{H:Hp}(e:oz P w K mg base A outer s H):
  oz P w K mg base A.in1 outer s H:=⟨e.frames,e.mod,e.bs,e.Hn,e.ig,e.PH,e.aN,e.bare⟩
section
variable{X:Cx}{pins:Lo}{σ:St}{H:Hp}{s s':Shared}
theorem Inv.Rn(I:Inv X pins σ H s):oz X.prog X.w X.K X.mg X.base X.A X.stack s H:=
 ⟨I.ok.frames,I.ok.mod,I.bs,zc I.ok.Hn I.sz,I.stack,I.j_,I.aN,I.bare⟩
theorem Inv.after(I:Inv X pins σ H s)(h:CE X.stack X.prog X.w H s Q u s'):EP X pins σ Q u s':=by
 obtain⟨v,H',os,bare,un,aN,r,q⟩:=h;obtain⟨hh,g,d,t,os'⟩:=s';obtain rfl:os'=s.os:=os;exact⟨v,H',I.call (h':=hh) (g':=g) (d':=d) (t':=t) (ch:=[]) un aN bare (λb z=>absurd z (by simp)),r,q⟩
end
def RW(sp:Sp)(dvs:List V)(E:XK)(t:TA):TE:=λσ H Q=>t σ H λvs H1=>sp (vs++dvs) H1 Q E
def RK(C:Addr)(m:Str)(sp:Sp)(dvs:List V)(E:XK)(ta:TE)(t:TA):TE:=λσ H Q=>ta σ H λx H1=>∃a dx fs,x=.ref a/\H1 a=some (.ins C dx fs)/\fs.lookup m=none/\
 t σ H1 λvs H2=>sp (x::(vs++dvs)) H2 Q E
def ZC(C:Addr)(sp:Sp)(dvs:List V)(E:XK)(t:TA):TE:=λσ H Q=>t σ H λvs H1=>∀x dx,H1 x=none->H1 dx=none->dx≠x->
 sp (.ref x::(vs++dvs)) (upd (upd H1 dx (.own x)) x (.ins C dx [])) (λv H2=>v=.bI/\Q (.ref x) H2) E
def Binds(K:Wf)(fd:FuncData)(ps:List Str)(ds:List Value):Prop:=
 ∀(s:Shared) (us:List Value),K.In s.heap->(us++ds).length=ps.length->BindsTo s fd ⟨us,[]⟩ (ps.zip (us++ds))
theorem Binds.all{K:Wf}{fd:FuncData}{ps:List Str}(h:∀us:List Value,us.length=ps.length->bindArgs fd ⟨us,[]⟩=pure (ps.zip us)):Binds K fd ps []:=λs us _ hl=>by
 rw[Il]at hl ⊢;exact .of_eq (h us hl)
def Passes(CX:G7)(X:Cx)(E:XK):Prop:=∀(pins:Lo) (σ:St) (H:Hp) (s:Shared) (e:Value) (s':Shared),Inv X pins σ H s->CX X.stack H s E e s'->X.xe e s'
section
variable{X:Cx}{CX:G7}{k:Nat}{f C:Addr}{fd:FuncData}{ps:List Str}{sp:Sp}{dvs:List V}{ds:List Value}{E:XK}{x m:Str}{p pos apos:Pos}{e o:Expr}{es:List Expr}{ta:TE}{t:TA}
theorem AN{pins:Lo}{σ:St}{H:Hp}{s:Shared}{Q:VK}{us:List Value}{vs:List V}(F:aG X.prog X.w X.K X.mg X.base CX k f fd ps sp)(hr:cg k X.A)(hb:Binds X.K fd ps ds)(hd:Vals dvs ds)(hx:Passes CX X E)
  (I:Inv X pins σ H s) (r:Vals vs us) (h:sp (vs++dvs) H Q E):wpAny (model X.prog X.w) X.A (call (.ref f) us) (EP X pins σ Q) X.xe s:=by
 have r2:Vals (vs++dvs) (us++ds):=r.append hd;have hl:(us++ds).length=ps.length:=by rw[<-r2.length];exact F.len _ _ _ _ h
 refine wpAny_call (codeAny_mono (F.run X.A X.stack s H ⟨us,[]⟩ (us++ds) (vs++dvs) Q E hr I.Rn (hb s us I.ib hl) r2 h) λr s' hq=>?_);cases r with
 |error e=>exact hx pins σ H s e s' I hq
 |ok fl=>
  cases fl with
  |ret u=>exact I.after hq
  |next=>exact False.elim hq
  |brk=>exact False.elim hq
  |cont=>exact False.elim hq
theorem Q7(F:aG X.prog X.w X.K X.mg X.base CX k f fd ps sp)(hr:cg k X.A)(hg:Gl X x)(hm:X.mg x=some (.ref f))(hk:keepIn X.K (.ref f)=true)(hb:Binds X.K fd ps ds)(hd:Vals dvs ds)(hx:Passes CX X E)
  (ha:PA X (e::es) t) (hdb:(x == ("__debug__" : Str))=false:=by decide) (he:starEach (e::es) X.env=(false,eval e X.env)::starEach es X.env:=by rfl) (hpl:(backTo pos (starEach es X.env)).any (·.1)=false:=by rfl):
  PE X (.Call (.Name x p) (e::es) [] pos) (RW sp dvs E t):=by
 intro pins s σ H Q I h;refine V_ (iM I hg hm ?_ hdb);refine callWith_K (h₀:=X.base) I.ok.mod.VA hk (bj (ha pos pins s σ H _ I h) λus s1 ⟨vs,H1,I1,r,q⟩=>⟨I1.ib,?_⟩) he hpl;exact AN F hr hb hd hx I1 r q
theorem cL{pl:Sem Bool}(he:PE X o ta)(c:zb X.K C)(hm:Meth X.K C m f)(F:aG X.prog X.w X.K X.mg X.base CX k f fd ps sp)(hr:cg k X.A)(hb:Binds X.K fd ps ds)(hd:Vals dvs ds)(hx:Passes CX X E)(ha:PA X (e::es) t)
  (hst:starEach (e::es) X.env=(false,eval e X.env)::starEach es X.env:=by rfl) (hpl:(backTo pos (starEach es X.env)).any (·.1)=false:=by rfl)
  (ht:eval (.Call (.Attribute o m apos) (e::es) [] pos) X.env=(do
   let ov <-eval o X.env
   standAt apos.atName
   let (f,first) <-holding [ov] (getMethod ov m pl)
   callWith pos f first (backTo pos (starEach (e::es) X.env)) (backToKw pos (keywordEach [] X.env))):=by rfl):
  PE X (.Call (.Attribute o m apos) (e::es) [] pos) (RK C m sp dvs E ta t):=by
 intro pins s σ H Q I h;refine methodCall_KW (pl:=pl) (bj (he pins s σ H _ I h) λu s1 ⟨x,H1,I1,rx,a,dx,fs,ex,ea,l,q⟩=>?_) ht;subst ex;obtain rfl:u=Value.ref a:=rx;refine h7 I1 ea c hm l ?_;refine callWith_K (first:=[.ref a]) (h₀:=X.base) I.ok.mod.VA hm.kp (bj (ha pos pins s1 σ H1 _ I1 q) λus s2 ⟨vs,H2,I2,r,q2⟩=>⟨I2.ib,?_⟩) hst hpl;exact AN (us:=.ref a::us) (vs:=.ref a::vs) F hr hb hd hx I2 (.cons rfl r) q2
theorem dC(he:PE X o ta)(c:zb X.K C)(hm:Meth X.K C m f)(F:aG X.prog X.w X.K X.mg X.base CX k f fd ps sp)(hr:cg k X.A)(hb:Binds X.K fd ps ds)(hd:Vals dvs ds)(hx:Passes CX X E)
  (ht:eval (.Call (.Attribute o m apos) [] [] pos) X.env=(do
   let ov <-eval o X.env
   standAt apos.atName
   let (f,first) <-holding [ov] (getMethod ov m pl)
   callWith pos f first (backTo pos (starEach [] X.env)) (backToKw pos (keywordEach [] X.env))):=by rfl):
  PE X (.Call (.Attribute o m apos) [] [] pos) (RK C m sp dvs E ta VC):=by
 intro pins s σ H Q I h;refine methodCall_KW (pl:=pl) (bj (he pins s σ H _ I h) λu s1 ⟨x,H1,I1,rx,a,dx,fs,ex,ea,l,q⟩=>?_) ht;subst ex;obtain rfl:u=Value.ref a:=rx;refine h7 I1 ea c hm l ?_;exact callWith_K0 (first:=[.ref a]) I1.ib hm.kp (AN (us:=[.ref a]) (vs:=[.ref a]) F hr hb hd hx I1 (.cons rfl .nil) q)
structure Mk(K:Wf)(C f:Addr):Prop where
 makes:makesIn K C=true
 init:findIn K (.ref C) "__init__" = some (some (.ref f))
 fn:isFn K (.ref f)=true
 kp:keepIn K (.ref C)=true
theorem JN{pins:Lo}{σ:St}{H:Hp}{s:Shared}{Q:VK}{us:List Value}{vs:List V}(M:Mk X.K C f)(F:aG X.prog X.w X.K X.mg X.base CX k f fd ps sp)(hr:cg (k+1) X.A)(hb:Binds X.K fd ps ds)(hd:Vals dvs ds)
  (hx:Passes CX X E) (I:Inv X pins σ H s) (r:Vals vs us)
  (h:∀x dx,H x=none->H dx=none->dx≠x->sp (.ref x::(vs++dvs)) (upd (upd H dx (.own x)) x (.ins C dx [])) (λv H2=>v=.bI/\Q (.ref x) H2) E):
  wpAny (model X.prog X.w) X.A (call (.ref C) us) (EP X pins σ Q) X.xe s:=by
 have hq:=h (s.heap.objs.size+1) s.heap.objs.size (I.aN.fresh (Nat.le_succ _)) (I.aN.fresh (bA _)) (fE (XI _));have I2:=Inv.made (C:=C) I;have r2:Vals (V.ref (s.heap.objs.size+1)::(vs++dvs)) (Value.ref (s.heap.objs.size+1)::(us++ds)):=.cons rfl (r.append hd);have hl:(Value.ref (s.heap.objs.size+1)::us++ds).length=ps.length:=by
  have e:=r2.length;rw[F.len _ _ _ _ hq]at e;exact e.symm
 refine wpAny_call (Mv (f:=f) I.ib M.makes M.init (beq_iff_eq.mp M.fn) (codeAny_mono (F.run _ X.stack _ _ ⟨Value.ref (s.heap.objs.size+1)::us,[]⟩ (Value.ref (s.heap.objs.size+1)::(us++ds)) _ _ E (hr.make C us [])
  (I2.Rn.make C us []) (hb _ (Value.ref (s.heap.objs.size+1)::us) I2.ib hl) r2 hq) λr s' hq'=>?_))
 cases r with
 |error e=>exact hx pins σ _ _ e s' I2 hq'
 |ok fl=>
  cases fl with
  |ret u=>
   obtain⟨v,H',I3,rv,ev,q3⟩:=I2.after hq';subst ev;exact⟨rv,⟨V.ref (s.heap.objs.size+1),H',I3,rfl,q3⟩⟩
  |next=>exact False.elim hq'
  |brk=>exact False.elim hq'
  |cont=>exact False.elim hq'
theorem gp(M:Mk X.K C f)(F:aG X.prog X.w X.K X.mg X.base CX k f fd ps sp)(hr:cg (k+1) X.A)(hg:Gl X x)(hm:X.mg x=some (.ref C))(hb:Binds X.K fd ps ds)(hd:Vals dvs ds)(hx:Passes CX X E)
  (ha:PA X (e::es) t) (hdb:(x == ("__debug__" : Str))=false:=by decide) (he:starEach (e::es) X.env=(false,eval e X.env)::starEach es X.env:=by rfl) (hpl:(backTo pos (starEach es X.env)).any (·.1)=false:=by rfl):
  PE X (.Call (.Name x p) (e::es) [] pos) (ZC C sp dvs E t):=by
 intro pins s σ H Q I h;refine V_ (iM I hg hm ?_ hdb);refine callWith_K (h₀:=X.base) I.ok.mod.VA M.kp (bj (ha pos pins s σ H _ I h) λus s1 ⟨vs,H1,I1,r,q⟩=>⟨I1.ib,?_⟩) he hpl;exact JN M F hr hb hd hx I1 r q
end
section
variable{X:Cx}{CX:G7}{k:Nat}{f C:Addr}{fd:FuncData}{ps ks:List Str}{sp:Sp}{E:XK}{x m:Str}{p pos apos kpos:Pos}{e o:Expr}{es:List Expr}{kws:List Keyword}{te ta:TE}{t tk:TA}{nm:Option Str}
variable{g:List Value->List Value->List Value}{gV:List V->List V->List V}
end
structure ai(N P:List Str)(sc:Scope):Prop where
 kind:sc.kind=.function
 co:sc.isCoroutine=false
 gen:sc.isGenerator=false
 nd:N.Nodup
 pre:N.take P.length=P
 par:∀x∈P,sc.names.lookup x=some .local\/sc.names.lookup x=some .cell
 Ul:∀y∈sc.names,y.2≠.free
theorem pZ{kindOf:Str->Option NameKind}:∀{binds:List (Str×Value)}{m:So},(∀v,(x,v)∉binds)->bindL kindOf binds m x=m x
 |[],_,_=>rfl
 | (n,v)::r,m,h=>by
  unfold bindL;rw[pZ λw hw=>h w (Bv _ hw)];split
  ·have:x≠n:=by rintro rfl;exact h v Qw
   simp[this]
  ·rfl
theorem pU{kindOf:Str->Option NameKind}:∀{binds:List (Str×Value)}{m:So},(∀v,(x,v)∉binds)->bindC kindOf binds m x=m x
 |[],_,_=>rfl
 | (n,v)::r,m,h=>by
  unfold bindC;rw[pU λw hw=>h w (Bv _ hw)];split
  ·rfl
  ·have:x≠n:=by rintro rfl;exact h v Qw
   simp[this]
theorem qt{kindOf:Str->Option NameKind}:∀{P:List Str}{vs:List Value}{i:Nat}{m:So},P.Nodup->P[i]?=some x->vs[i]?=some v->kindOf x=some .local->
  bindL kindOf (P.zip vs) m x=some v
 |[],_,_,_,_,h,_,_=>by simp at h
 |_::_,[],_,_,_,_,h,_=>by simp at h
 |p::P,w::vs,0,m,nd,h1,h2,hk=>by
  simp at h1 h2;subst h1;subst h2;show bindL kindOf ((p,w)::P.zip vs) m p=_;unfold bindL;rw[pZ λv hv=>(Fm.mp nd).1 (List.of_mem_zip hv).1,if_pos hk];simp
 |p::P,w::vs,i+1,m,nd,h1,h2,hk=>by
  show bindL kindOf ((p,w)::P.zip vs) m x=_;unfold bindL;exact qt (i:=i) (Fm.mp nd).2 (by simpa using h1) (by simpa using h2) hk
theorem qz{kindOf:Str->Option NameKind}:∀{P:List Str}{vs:List Value}{i:Nat}{m:So},P.Nodup->P[i]?=some x->vs[i]?=some v->kindOf x≠some .local->
  bindC kindOf (P.zip vs) m x=some v
 |[],_,_,_,_,h,_,_=>by simp at h
 |_::_,[],_,_,_,_,h,_=>by simp at h
 |p::P,w::vs,0,m,nd,h1,h2,hk=>by
  simp at h1 h2;subst h1;subst h2;show bindC kindOf ((p,w)::P.zip vs) m p=_;unfold bindC;rw[pU λv hv=>(Fm.mp nd).1 (List.of_mem_zip hv).1,if_neg hk];simp
 |p::P,w::vs,i+1,m,nd,h1,h2,hk=>by
  show bindC kindOf ((p,w)::P.zip vs) m x=_;unfold bindC;exact qz (i:=i) (Fm.mp nd).2 (by simpa using h1) (by simpa using h2) hk
noncomputable def start(N:List Str)(vs:List V):St:=vs.map some++List.replicate (N.length - vs.length) none
noncomputable def jv(CX:G7)(P:Program)(w:World)(K:Wf)(mg:So)(base:Heap)(N:List Str)(qual:Str)(scope:Scope)(f:Addr)(cd:Value)(A:Around)(outer:List Env)(s:Shared)(H:Hp)(E:XK):Cx where
 prog:=P
 w:=w
 K:=K
 mg:=mg
 base:=base
 A:=A.deeper (envOfC qual scope s.heap.objs.size f cd)
 N:=N
 s₀:=s
 H₀:=H
 env:=envOfC qual scope s.heap.objs.size f cd
 outer:=outer
 stack:=envOfC qual scope s.heap.objs.size f cd::outer
 ex:=[]
 calm:=true
 fn:=λ_=>true
 pn:=[]
 xe:=λe s'=>wpAny (model P w) (A.deeper (envOfC qual scope s.heap.objs.size f cd)) (leaving (envOfC qual scope s.heap.objs.size f cd) e) (λ_ s''=>CX outer H s E e s'') (λe' s''=>CX outer H s E e' s'') s'
theorem zQ{sc:Scope}{n:Nat}{x:Str}(h:sc.names.lookup x=some .cell):∃c,(cellsFrom n sc.names []).lookup x=some c:=by
 have q:=cellsFrom_some sc.names n [] (.inl h);exact Option.isSome_iff_exists.mp q
theorem qB{CX:G7}{P:Program}{w:World}{K:Wf}{mg:So}{base:Heap}{N ps:List Str}{qual:Str}{scope:Scope}{f:Addr}{cd:Value}{A:Around}{outer:List Env}{s s1:Shared}{H:Hp}{E:XK}{us:List Value}{vs:List V}
  (S:ai N ps scope) (hd:A.handled=none) (e0:oz P w K mg base A outer s H) (hl:vs.length=ps.length) (r:Vals vs us)
  (x:InCallC s s.heap.objs.size (bindL (envOfC qual scope s.heap.objs.size f cd).kindOf (ps.zip us) λ_=>none) (cellsFrom (s.heap.objs.size+1) scope.names []) (bindC (envOfC qual scope s.heap.objs.size f cd).kindOf (ps.zip us) λ_=>none) s1):
  Inv (jv CX P w K mg base N qual scope f cd A outer s H E) [] (start N vs) H s1:=by
 have hpl:ps.length<=N.length:=by have:=congrArg List.length S.pre;rw[pX]at this;omega
 obtain⟨h1,tk,rfl,hk⟩:=x.done;have noA:∀b:Addr,b∉(jv CX P w K mg base N qual scope f cd A outer s H E).ex:=λb z=>absurd (show b∈([]:List Addr) from z) (by simp);refine⟨⟨e0.mod,S.kind,rfl,rfl,bA _,λy z c h1 h2=>?_,λy hy=>?_,λy c _ h=>?_,λ_=>hd,Around.frames_deeper e0.frames,.inr ⟨rfl,rfl⟩,λb z=>absurd z (noA b),e0.bs,e0.Hn,λb _ _=>noA b,λb z=>absurd z (noA b),e0.ig,e0.PH⟩,
  rfl,e0.bare,Un.kept hk,⟨_,x.toInCall.ns,λi y v h1 h2 h3=>?_⟩,λy c h=>⟨_,x.cell y c h⟩,e0.aN.fresh (bA _),λy c h=>?_,λp hp=>absurd (show p∈([]:Lo) from hp) (by simp),e0.aN.kept hk,?_⟩
 ·exact name_of_addr x.apart (PySem.mem_of_lookup h1) (PySem.mem_of_lookup h2)
 ·have hy:scope.names.lookup y=some .cell\/scope.names.lookup y=some .free:=hy;rcases hy with hy|hy
  ·exact zQ hy
  ·exact absurd rfl (S.Ul _ (PySem.mem_of_lookup hy))
 ·exact Q6 (x.above y c (PySem.mem_of_lookup h))
 ·have hi:i<vs.length:=by
   unfold start at h2;by_cases hi:i<vs.length
   ·exact hi
   ·rw[SE (by simpa using hi)]at h2;rw[List.getElem?_replicate]at h2;split at h2<;>cases h2
  have ha:vs[i]?=some v:=by
   unfold start at h2;rw[Wi (by simpa using hi),List.getElem?_map]at h2;cases e:vs[i]? with
   |none=>rw[e]at h2;cases h2
   |some a=>rw[e]at h2;cases h2;rfl
  obtain⟨u,hu,rv⟩:=r.get ha;have hp:ps[i]?=some y:=by
   rw[<-S.pre,List.getElem?_take_of_lt (by omega)];exact h1
  have ndP:ps.Nodup:=by rw[<-S.pre];exact S.nd.sublist (List.take_sublist _ _)
  refine⟨u,rv,?_⟩;rcases S.par y (i7 hp) with k|k
  ·exact .inl ⟨k,qt ndP hp hu k⟩
  ·obtain⟨c,e⟩:=zQ (n:=s.heap.objs.size+1) k;refine .inr ⟨.inl k,c,e,?_⟩;have q:=x.cell y c e;rw[qz ndP hp hu (by show scope.names.lookup y≠_;rw[k];decide)]at q;exact q
 ·exact e0.aN.fresh (Q6 (x.above y c (PySem.mem_of_lookup h)))
 ·unfold start;show _=N.length;rw[ij,aS,List.length_replicate];omega
theorem N6{CX:G7}{P:Program}{w:World}{K:Wf}{mg:So}{base:Heap}{k:Nat}{f:Addr}{name qual:Str}{params:Arguments}{body:List Stmt}{scope:Scope}{dV kV doc pm cdv ct oc:Value}{an od:Option Addr}
  {osl:Array (Option Value)}{N ps:List Str}{sp:Sp}(lk:K.lookup f=some ⟨oc,od,.func (fnOf name qual params body scope dV kV doc pm an cdv ct),osl⟩) (hcd:codeIn K cdv qual=true) (S:ai N ps scope)
  (len:∀vs H Q E,sp vs H Q E->vs.length=ps.length)
  (hbody:∀(A:Around) (outer:List Env) (s:Shared) (H:Hp) (vs:List V) (Q:VK) (E:XK),cg k (A.deeper (envOfC qual scope s.heap.objs.size f cdv))->sp vs H Q E->
   ∃t,pV (jv CX P w K mg base N qual scope f cdv A outer s H E) body t/\t { nx:=λ_ H'=>Q .bI H',rt:=Q } (start N vs) H):
  aG P w K mg base CX (k+1) f (fnOf name qual params body scope dV kV doc pm an cdv ct) ps sp:=by
 refine⟨len,λA outer s H args us vs Q E hr e0 hb r hsp=>?_⟩;have hl:=len _ _ _ _ hsp;have KX:K.In s.heap:=e0.mod.VA.keeps λb o e=>(e0.bs b o e).1;have lim:s.heap.NoLimit:=e0.mod.nolimit.keeps λb o e=>(e0.bs b o e).1;have hkind:∀y∈ps.zip us,scope.names.lookup y.1=some .local\/(scope.names.lookup y.1=some .cell/\((cellsFrom (s.heap.objs.size+1) scope.names []).lookup y.1).isSome=true):=λ⟨n,v⟩ hy=>by
  rcases S.par n (List.of_mem_zip hy).1 with q|q
  ·exact .inl q
  ·exact .inr ⟨q,cellsFrom_some _ _ _ (.inl q)⟩
 refine codeAny_call_function hr.depth (KX _ _ lk) rfl S.co S.gen rfl (PySem.W.codeRec_of KX hcd) (hb _ _ _ _ ?_);refine wpAny_newFunctionEnv_cells S.kind hkind λenv he s1 x=>?_;subst he;refine⟨lim.keeps x.toInCall.keep,codeAny_func ?_⟩;obtain⟨t,ht,hq⟩:=hbody A outer s H vs Q E (hr.deeper _) hsp;have I:Inv (jv CX P w K mg base N qual scope f cdv A outer s H E) [] (start N vs) H s1:=qB S hr.hd e0 hl r x;refine oN (ht [] s1 (start N vs) H _ I hq) (λfl s' hs=>?_) λe s' hs=>hs;have fin:∀{σ':St}{H':Hp}{v:V}{u:Value},Inv (jv CX P w K mg base N qual scope f cdv A outer s H E) [] σ' H' s'->RelV v u->Q v H'->CE outer P w H s Q u s':=
  λ{σ' H' v u} J rv q=>⟨v,H',J.os,J.bare,J.base,J.aN,rv,q⟩
 cases fl with
 |ret u=>
  obtain⟨v,σ',H',J,rv,q⟩:=hs;exact fin J rv q
 |next=>
  obtain⟨σ',H',J,q⟩:=hs;exact fin (v:=V.bI) (u:=Value.none) J rfl q
 |brk=>
  obtain⟨_,_,_,q⟩:=hs;exact False.elim q
 |cont=>
  obtain⟨_,_,_,q⟩:=hs;exact False.elim q
section
variable{X:Cx}{x:Str}{p pos:Pos}{e:Expr}{es:List Expr}{t:TA}{id T:String}{r:List V->Hp->VK->Prop}
def tCB(r:List V->Hp->VK->Prop)(t:TA):TE:=λσ H Q=>t σ H λvs H1=>r vs H1 Q
theorem cX(hc:cS X (.builtin id) r)(hg:Gl X x)(hm:X.mg x=none)(hv:bootBuiltins x=some (.builtin id))(ha:PA X (e::es) t)(hn:x ≠ "__name__" := by decide)(hdb:(x == ("__debug__" : Str))=false:=by decide)
  (he:starEach (e::es) X.env=(false,eval e X.env)::starEach es X.env:=by rfl) (hpl:(backTo pos (starEach es X.env)).any (·.1)=false:=by rfl):PE X (.Call (.Name x p) (e::es) [] pos) (tCB r t):=by
 intro pins s σ H Q I h;refine V_ (fZ I hg hm hv ?_ hn hdb);exact PyProof.Rows.callWith_builtin1 (bj (ha pos pins s σ H _ I h) λus s1 ⟨vs,H1,I1,r1,q1⟩=>hc pins s1 σ H1 vs us Q I1 r1 q1) he hpl
theorem jP(hc:cS X (.type T) r)(hg:Gl X x)(hm:X.mg x=none)(hv:bootBuiltins x=some (.type T))(ha:PA X (e::es) t)(hn:x ≠ "__name__" := by decide)(hdb:(x == ("__debug__" : Str))=false:=by decide)
  (he:starEach (e::es) X.env=(false,eval e X.env)::starEach es X.env:=by rfl) (hpl:(backTo pos (starEach es X.env)).any (·.1)=false:=by rfl):PE X (.Call (.Name x p) (e::es) [] pos) (tCB r t):=by
 intro pins s σ H Q I h;refine V_ (fZ I hg hm hv ?_ hn hdb);exact PyProof.Rows.callWith_type1 (bj (ha pos pins s σ H _ I h) λus s1 ⟨vs,H1,I1,r1,q1⟩=>hc pins s1 σ H1 vs us Q I1 r1 q1) he hpl
end
end L2
namespace HT
open PySem PyProof.Rows
section
open PySem.SeqAt
open PySem.AutoSeq1 (wpAny_loadPart')
open PySem.MeetsSeq PySem.MeetsSeq2 PySem.MeetsSeq3
end
section
variable{prog:Program}{w:World}{A:Around}{E:Vs}{s:Shared}
noncomputable def sIx(n d:Nat):Option Int->Nat
 |none=>d
 |some v=>if v<0 then (v+(n:Int)).toNat else min v.toNat n
theorem sIx_nat(n d k:Nat):sIx n d (some (k:Int))=min k n:=by
 show(if (k:Int)<0 then ((k:Int)+(n:Int)).toNat else min (k:Int).toNat n)=min k n;rw[if_neg (by omega),Ho]
theorem sIx_le(n d:Nat)(hd:d<=n)(o:Option Int):sIx n d o<=n:=by
 cases o with
 |none=>exact hd
 |some v=>
  show(if v<0 then (v+(n:Int)).toNat else min v.toNat n)<=n;by_cases hv:v<0
  ·rw[if_pos hv];omega
  ·rw[if_neg hv];exact Nat.min_le_right _ _
theorem clip_eq(v:Int)(n d:Nat):(if v<0 then max (v+(n:Int)) 0 else min v (n:Int))=((sIx n d (some v):Nat):Int):=by
 show(if v<0 then max (v+(n:Int)) 0 else min v (n:Int))=(((if v<0 then (v+(n:Int)).toNat else min v.toNat n):Nat):Int);by_cases hv:v<0
 ·simp only[if_pos hv];omega
 ·simp only[if_neg hv];omega
theorem adjust_gen(lo hi:Option Int)(n:Nat):Builtin.Slice.sliceAdjust lo hi 1 (n:Int)=(((sIx n 0 lo:Nat):Int),((sIx n n hi:Nat):Int)):=by
 have h1:¬((1:Int)<0):=by omega
 unfold Builtin.Slice.sliceAdjust;simp only[h1,if_false];refine Prod.ext ?_ ?_
 ·cases lo with
  |none=>rfl
  |some v=>exact clip_eq v n 0
 ·cases hi with
  |none=>rfl
  |some v=>exact clip_eq v n n
theorem places_gen(i j:Nat):Builtin.Slice.slicePlaces (i:Int) (j:Int) 1=j - i:=by
 unfold Builtin.Slice.slicePlaces;have h1:(1:Int)>0:=by omega
 simp only[h1,if_true,Int.ediv_one];split<;>omega
theorem slicePart_(p:IsPart v o)(h:Q o s):wpAny (model prog w) A (Builtin.Slice.slicePartIndex v) Q E s:=by
 cases p with
 |none=>exact slicePart_none h
 |int i t=>exact slicePart_int h
theorem sliceApplied_gen{sl:Addr}{vl vu:Value}{lo hi:Option Int}{n:Nat}{Q:Int×Int×Nat->Shared->Prop}(hs:s.heap.IsSliceOf sl vl vu .none)(pl:IsPart vl lo)(pu:IsPart vu hi)
  (h:Q (((sIx n 0 lo:Nat):Int),1,sIx n n hi - sIx n 0 lo) s):wpAny (model prog w) A (Builtin.Slice.sliceApplied (.ref sl) (pure (n:Int))) Q E s:=by
 obtain⟨os,hos,hcs,hds⟩:=id hs;unfold Builtin.Slice.sliceApplied Builtin.Slice.sliceFields;refine aw (aw (wpAny_field hos hds (x:=vl) rfl (aw (wpAny_field hos hds (x:=vu) rfl (aw (wpAny_field hos hds (x:=.none) rfl (bc ?_)))))));refine aw (slicePart_none ?_);show wpAny _ _ (if ((1:Int) == 0)=true then _ else _) _ _ s;rw[if_neg (by decide)];refine aw (slicePart_ pl (aw (slicePart_ pu (aw (bc ?_)))));show wpAny _ _ (match Builtin.Slice.sliceAdjust lo hi 1 (n:Int) with | (lo,hi)=>pure (lo,(1:Int),Builtin.Slice.slicePlaces lo hi 1)) _ _ s;rw[adjust_gen lo hi n];show wpAny _ _ (pure (((sIx n 0 lo:Nat):Int),(1:Int),Builtin.Slice.slicePlaces ((sIx n 0 lo:Nat):Int) ((sIx n n hi:Nat):Int) 1)) _ _ s;rw[places_gen];exact bc h
theorem pick_gen(xs:Array Value)(i k:Nat):((List.range k).filterMap λ(m:Nat)=>xs[((i:Int)+(m:Int)*1).toNat]?).toArray=((xs.toList.drop i).take k).toArray:=by
 have e:(λ(m:Nat)=>xs[((i:Int)+(m:Int)*1).toNat]?)=λm=>xs[i+m]?:=by
  funext m;have:((i:Int)+(m:Int)*1).toNat=i+m:=by omega
  rw[this]
 rw[e];have:=pick_run xs i k;rw[List.filterMap_map]at this;have e2:((λx=>xs[x]?) ∘ λx=>i+x)=λm=>xs[i+m]?:=rfl;rw[e2]at this;rw[this]
theorem getItem_tuple_cut{t sl:Addr}{items:Array Value}{vl vu:Value}{lo hi:Option Int}{Q:Vs}(ht:IsTup s.heap t items)(hs:s.heap.IsSliceOf sl vl vu .none)(pl:IsPart vl lo)(pu:IsPart vu hi)
  (hw:¬(sIx items.size 0 lo=0/\sIx items.size items.size hi=items.size))
  (h:Q (.ref s.heap.objs.size) { s with heap:=s.heap.push { cls:=.type "tuple", data:=.seq ((items.toList.drop (sIx items.size 0 lo)).take (sIx items.size items.size hi - sIx items.size 0 lo)).toArray } })
  (hsz:items.size<=sizeLine):wpAny (model prog w) A (getItem (.ref t) (.ref sl)) Q E s:=by
 have htake:sizeOk (.seq ((items.toList.drop (sIx items.size 0 lo)).take (sIx items.size items.size hi - sIx items.size 0 lo)).toArray):=by
  show((items.toList.drop (sIx items.size 0 lo)).take (sIx items.size items.size hi - sIx items.size 0 lo)).toArray.size<=sizeLine;rw[iC,pX,List.length_drop,Hq];omega
 have hj:sIx items.size items.size hi<=items.size:=sIx_le _ _ (bA _) hi;obtain⟨os,hos,hcs,hds⟩:=id hs;have hTs:s.TypeIs (.ref sl) "slice" := ⟨os,hos,hcs⟩
 unfold getItem
 try with_reducible refine AS ?_
 first|refine aw (bc ?_)|skip
 refine aw (wpAny_sequenceKey ht.typeIs (by decide) ?_);refine aw (YM (name:=Str.ofString "__getitem__") ht.typeIs PyProof.Rows.slot_tuple_getitem
  (RU PyProof.Rows.slot_tuple_getitem ht.typeIs entry_tuple_getitem ?_ (args_tuple_getitem _ _)))
 show wpAny _ _ (Builtin.Tuple.tupleItemsOf (.ref t) >>= _) _ _ s;refine aw (tupleItemsOf_ ht ?_);refine aw (wpAny_typeOf hTs ?_);rw[if_pos (by decide)];refine aw (sliceApplied_gen hs pl pu ?_);have hno:¬((((sIx items.size 0 lo:Nat):Int) == 0&&(1:Int) == 1&&(sIx items.size items.size hi - sIx items.size 0 lo) == items.size)=true):=by
  intro q;rw[zx,zx]at q;have q1:((sIx items.size 0 lo:Nat):Int)=0:=eq_of_beq q.1.1;have q2:sIx items.size items.size hi - sIx items.size 0 lo=items.size:=eq_of_beq q.2;exact hw ⟨by omega,by omega⟩
 show wpAny _ _ (if (((sIx items.size 0 lo:Nat):Int) == 0&&(1:Int) == 1&&(sIx items.size items.size hi - sIx items.size 0 lo) == items.size)=true then _ else _) _ _ s;rw[if_neg hno,pick_gen]
 first
  |exact aw (m:=Builtin.Tuple.tupleExact _) (Hk (bc ⟨_,rfl,bc h⟩) htake)
  |exact aw (m:=Builtin.Tuple.tupleExact _) (Hk (aw (bc (bc ⟨_,rfl,bc h⟩))) htake)
  |exact aw (aw (m:=Builtin.Tuple.tupleExact _) (Hk (bc (bc ⟨_,rfl,bc h⟩)) htake))
  |exact aw (aw (m:=Builtin.Tuple.tupleExact _) (Hk (bc ⟨_,rfl,bc h⟩) htake))
end
end HT
namespace L2
open PySem PySem.Spec PyProof.Rows
noncomputable abbrev TO:=St->Hp->(Option Int->Hp->Prop)->Prop
def PO(X:Cx)(e:Option Expr)(t:TO):Prop:=
 ∀(pins:Lo) (s:Shared) (σ:St) (H:Hp) (Q:Option Int->Hp->Prop),Inv X pins σ H s->t σ H Q->
  wpAny (model X.prog X.w) X.A (evalPart e X.env) (λu s'=>∃o H',Inv X pins σ H' s'/\IsPart u o/\Q o H') X.xe s
noncomputable def Qy:TO:=λ_ H Q=>Q none H
noncomputable def Y9(t:TE):TO:=λσ H Q=>t σ H λx H1=>∃i,x=.int i/\Q (some i) H1
section
variable{X:Cx}{e:Expr}{te:TE}{lo hi:Option Expr}{tl th:TO}{pos p2:Pos}
theorem FD:PO X none Qy:=by
 intro pins s σ H Q I h;rw[evalPart_none];exact bc ⟨none,H,I,.none,h⟩
theorem gI(h:PE X e te):PO X (some e) (Y9 te):=by
 intro pins s σ H Q I hw;rw[evalPart_some];refine bj (h pins s σ H _ I hw) λu s1 ⟨x,H1,I1,r1,q1⟩=>?_;obtain⟨i,rfl,q⟩:=q1;obtain⟨t,rfl⟩:=r1;exact⟨some i,H1,I1,.int i t,q⟩
def WL(X:Cx)(r:V->Option Int->Option Int->Hp->VK->Prop):Prop:=
 ∀(pins:Lo) (s:Shared) (σ:St) (H:Hp) (x:V) (v vl vu:Value) (lo hi:Option Int) (sl:Addr) (Q:VK),Inv X pins σ H s->RelV x v->s.heap.IsSliceOf sl vl vu .none->IsPart vl lo->IsPart vu hi->r x lo hi H Q->
  ∃T id,typeLookup (.type T) "__getitem__" = pure (some (.builtin id))/\s.TypeIs v T/\wpAny (model X.prog X.w) X.A (getItem v (.ref sl)) (EP X pins σ Q) X.xe s
def tSl(r:V->Option Int->Option Int->Hp->VK->Prop)(te:TE)(tl th:TO):TE:=λσ H Q=>te σ H λx H1=>tl σ H1 λl H2=>th σ H2 λu H3=>r x l u H3 Q
theorem i3(hr:WL X r)(he:PE X e te)(hl:PO X lo tl)(hu:PO X hi th):PE X (.Subscript e (.Slice lo hi none p2) pos) (tSl r te tl th):=by
 intro pins s σ H Q I h;refine Subscript_ (bj (he pins s σ H _ I h) λv s1 ⟨x,H1,I1,r1,q1⟩=>?_);refine wpAny_Slice (bj (hl pins s1 σ H1 _ I1 q1) λvl s2 ⟨l,H2,I2,pl,q2⟩=>bj (hu pins s2 σ H2 _ I2 q2) λvu s3 ⟨u,H3,I3,pu,q3⟩=>?_);rw[evalPart_none];refine bc ?_;have I4:Inv X pins σ H3 { s3 with heap:=s3.heap.push { cls:=.type "slice", data:=.fields #[vl,vu,.none] } }:=I3.kept (t':=s3.toks) λb ob q=>dM _ q;obtain⟨T,id,hT,ht,hg⟩:=hr pins { s3 with heap:=s3.heap.push { cls:=.type "slice", data:=.fields #[vl,vu,.none] } } σ H3 x v vl vu l u s3.heap.objs.size Q I4 r1 (Heap.IsSliceOf.new ..) pl pu q3;show wpAny (model X.prog X.w) X.A (subscriptTail e (.Slice lo hi none p2) v (.ref s3.heap.objs.size)) (EP X pins σ Q) X.xe { s3 with heap:=s3.heap.push { cls:=.type "slice", data:=.fields #[vl,vu,.none] } };exact tail_any (ops:=[.ref s3.heap.objs.size,v]) ht hT hg (by with_unfolding_all rfl)
noncomputable def zj(xs:List V)(lo hi:Option Int):List V:=(xs.drop (HT.sIx xs.length 0 lo)).take (HT.sIx xs.length xs.length hi - HT.sIx xs.length 0 lo)
theorem jB(xs:List V)(lo hi:Option Int):(zj xs lo hi).length<=xs.length:=by
 unfold zj;rw[pX,List.length_drop];omega
noncomputable def Zq(K:Wf):V->Option Int->Option Int->Hp->VK->Prop:=λx lo hi H Q=>∃a xs,x=.ref a/\bB K H a xs/\
 ¬(HT.sIx xs.length 0 lo=0/\HT.sIx xs.length xs.length hi=xs.length)/\∀p,H p=none->Q (.ref p) (upd H p (.tup (zj xs lo hi)))
theorem UA:WL X (Zq X.K):=by
 intro pins s σ H x v vl vu lo hi sl Q I rx hs pl pu h;obtain⟨a,xs,rfl,hx,hw,q⟩:=h;cases rx;obtain⟨its,r,ht,hz⟩:=I.tuple hx;have hlen:its.toArray.size=xs.length:=by rw[iC];exact r.length.symm
 refine⟨"tuple", _,PyProof.Rows.slot_tuple_getitem.lookup,ht.typeIs,?_⟩;refine HT.getItem_tuple_cut ht hs pl pu (by rw[hlen];exact hw) ?_ (by rw[hlen];exact hz);rw[hlen];refine⟨.ref s.heap.objs.size,_,I.laid (t':=s.toks) (o:=.tup (zj xs lo hi)) (λb ob q=>dM _ q) (bA _) ?_,rfl,q _ (I.aN.fresh (bA _))⟩;exact⟨zc (jB xs lo hi) hz,_,(r.drop (HT.sIx xs.length 0 lo)).take (HT.sIx xs.length xs.length hi - HT.sIx xs.length 0 lo),IsTup.new _ _⟩
def acw(K:Wf):R2:=λx y H Q=>∃a b xs ys,x=.ref a/\y=.ref b/\bB K H a xs/\bB K H b ys/\xs≠[]/\xs.length+ys.length<=sizeLine/\
 (ys=[]->Q (.ref a) H)/\(ys≠[]->∀p,H p=none->Q (.ref p) (upd H p (.tup (xs++ys))))
end
noncomputable def CV(n:Nat)(i:Int):Option Nat:=if 0<=i then (if i<n then some i.toNat else none) else if -(n:Int)<=i then some (i+n).toNat else none
noncomputable def Az{α:Type}(xs:List α)(i:Int):Option α:=(CV xs.length i).bind λj=>xs[j]?
theorem CI(h:CV n i=some j):seqIndex? i n=some j/\j<n /\ -(n:Int)<=i/\i<n:=by
 unfold CV at h;by_cases h0:0<=i
 ·rw[if_pos h0]at h;by_cases h1:i<n
  ·rw[if_pos h1]at h;have e:i.toNat=j:=Option.some.inj h;exact⟨by rw[seqIndex_of h0 h1,e],by omega,by omega,h1⟩
  ·rw[if_neg h1]at h;cases h
 ·rw[if_neg h0]at h;by_cases h1 : -(n:Int)<=i
  ·rw[if_pos h1]at h;have e:(i+n).toNat=j:=Option.some.inj h;exact⟨by rw[seqIndex_neg (by omega) h1,e],by omega,h1,by omega⟩
  ·rw[if_neg h1]at h;cases h
theorem Ej{α:Type}{xs:List α}{i:Int}{v:α}(h:Az xs i=some v):∃j,seqIndex? i xs.length=some j/\xs[j]?=some v/\j<xs.length /\ -(xs.length:Int)<=i/\i<xs.length:=by
 unfold Az at h;cases e:CV xs.length i with
 |none=>rw[e]at h;cases h
 |some j=>
  rw[e]at h;obtain⟨h1,h2,h3,h4⟩:=CI e;exact⟨j,h1,h,h2,h3,h4⟩
theorem iI{α:Type}{xs:List α}{j:Nat}{v:α}(h:xs[j]?=some v):Az xs (j:Int)=some v:=by
 have hj:j<xs.length:=(o6.mp h).1;have e:CV xs.length (j:Int)=some j:=by
  unfold CV;rw[if_pos (by omega),if_pos (by omega)];simp
 unfold Az;rw[e];exact h
def PQ(b:Expr):Prop:=∀o i,subscripted b false o i=operate [o,i] (getItem o i)
def Ys(X:Cx)(r:R2):Prop:=
 ∀(value slice:Expr) (pins:Lo) (s:Shared) (σ:St) (H:Hp) (x y:V) (v u:Value) (Q:VK),Inv X pins σ H s->RelV x v->RelV y u->r x y H Q->
  subscripted slice false v u=operate [v,u] (getItem v u)->wpAny (model X.prog X.w) X.A (subscriptTail value slice v u) (EP X pins σ Q) X.xe s
def MtR(X:Cx)(id:String)(r:V->List V->Hp->VK->Prop):Prop:=
 ∀(pins:Lo) (s:Shared) (σ:St) (H:Hp) (x:V) (xs:List V) (v:Value) (us:List Value) (Q:VK),Inv X pins σ H s->RelV x v->Vals xs us->r x xs H Q->
  wpAny (model X.prog X.w) X.A (call (.builtin id) (v::us)) (EP X pins σ Q) X.xe s
section
variable{X:Cx}{a b:Expr}{ta tb:TE}{pos:Pos}
theorem bO(hr:Ys X r)(ha:PE X a ta)(hb:PE X b tb)(hs:PQ b):PE X (.Subscript a b pos) (Ry r ta tb):=by
 intro pins s σ H Q I h;exact Subscript_ (VO ha hb I h λv u s2 x y H2 I2 rx ry q=>hr a b pins s2 σ H2 x y v u Q I2 rx ry q (hs _ _))
def Z6(K:Wf):R2:=λx y H Q=>∃p xs i v,x=.ref p/\y=.int i/\aI K H p xs/\Az xs i=some v/\Q v H
def HK(K:Wf):R2:=λx y H Q=>∃p xs i v,x=.ref p/\y=.int i/\bB K H p xs/\Az xs i=some v/\Q v H
def acJ:R2:=λx y H Q=>∃z i c,x=.str z/\y=.int i/\z.length<=sizeLine/\Az z.cps.toList i=some c/\Q (.str ⟨#[c]⟩) H
theorem Rq:Ys X (Z6 X.K):=by
 intro value slice pins s σ H x y v u Q I rx ry h hs;obtain⟨p,xs,i,z,rfl,rfl,hq,he,q⟩:=h;cases rx;obtain⟨t,rfl⟩:=ry;obtain⟨its,r,pl,hz⟩:=I.list hq;obtain⟨j,h1,h2,h3,h4,h5⟩:=Ej he;obtain⟨w,ew,rw'⟩:=r.get h2;have hl:=r.length;have hn:=oA;have fin:EP X pins σ Q w s:=⟨z,H,I,rw',q⟩
 by_cases h0:0<=i
 ·have hj:i.toNat=j:=by
   rw[seqIndex_of h0 h5]at h1;exact Option.some.inj h1
  exact item_listR pl.isList h0 (by omega) (by rw[hj];simpa using ew) fin hs
 ·have hj:(i+(its.toArray.size:Int)).toNat=j:=by
   rw[seqIndex_neg (by omega) h4]at h1;rw[iC,<-hl];exact Option.some.inj h1
  exact subscriptTail_builtinR (x:=w) pl.isList.typeIs slot_list_getitem.lookup
   (wpAny_getItem_list_neg (Q:=λr s'=>r=w/\EP X pins σ Q r s') pl.isList (by omega) (by rw[iC]<;>omega) (by omega) (by rw[hj];simpa using ew) ⟨rfl,fin⟩) hs
theorem VR:Ys X (HK X.K):=by
 intro value slice pins s σ H x y v u Q I rx ry h hs;obtain⟨p,xs,i,z,rfl,rfl,hq,he,q⟩:=h;cases rx;obtain⟨t,rfl⟩:=ry;obtain⟨its,r,pl,hz⟩:=I.tuple hq;obtain⟨j,h1,h2,h3,h4,h5⟩:=Ej he;obtain⟨w,ew,rw'⟩:=r.get h2;have hl:=r.length;have hn:=oA;have fin:EP X pins σ Q w s:=⟨z,H,I,rw',q⟩
 exact subscriptTail_builtinR (x:=w) pl.typeIs slot_tuple_getitem.lookup
  (getItem_tuple (j:=j) (Q:=λr s'=>r=w/\EP X pins σ Q r s') pl (by omega) (by omega) (by rw[iC,<-hl];exact h1) (by simpa using ew) ⟨rfl,fin⟩) hs
theorem AV(its:List Value)(n j:Nat)(u:Value):Obj.mapSeq (·.setIfInBounds j u) { cls:=.type "list", data:=.seq its.toArray n }={ cls:=.type "list", data:=.seq (its.set j u).toArray n }:=by
 simp[Obj.mapSeq]
theorem Inv.lst{pins:Lo}{σ:St}{H:Hp}{s:Shared}{p:Addr}{xs:List V}(I:Inv X pins σ H s)(h:H p=some (.lst xs)):
  ∃(its:List Value) (n:Nat),Vals xs its/\s.heap.get? p=some { cls:=.type "list", data:=.seq its.toArray n }/\xs.length<=sizeLine:=by
 obtain⟨z,its,n,r,e⟩:=I.aN p _ h;exact⟨its,n,r,e,z⟩
theorem Inv.Uc{pins:Lo}{σ:St}{H:Hp}{s:Shared}{p:Addr}{xs ys:List V}{its its':List Value}{n n':Nat}{f:Obj->Obj}(I:Inv X pins σ H s)(h:H p=some (.lst xs))
  (ho:s.heap.get? p=some { cls:=.type "list", data:=.seq its.toArray n }) (hf:f { cls:=.type "list", data:=.seq its.toArray n }={ cls:=.type "list", data:=.seq its'.toArray n' }) (r:Vals ys its') (hz:ys.length<=sizeLine) (t:Nat):
  Inv X pins σ (upd H p (.lst ys)) { s with heap:=s.heap.update p f,toks:=t }:=by
 have e:(s.heap.update p f).get? p=some { cls:=.type "list", data:=.seq its'.toArray n' }:=by
  rw[G8 f ho (by rw[hf]<;>rfl),hf]
 refine I.write (x:=p) (e:=p) (by rw[h];trivial) (.inl rfl) (λb u hb q=>(PU _ _ (Ne.symm hb)).trans q) ⟨_,e⟩ ?_;exact⟨hz,its',n',r,e⟩
noncomputable def ZK:V->V->V->Hp->(Hp->Prop)->Prop:=λo i v H Q=>∃p xs k j,o=.ref p/\i=.int k/\H p=some (.lst xs)/\CV xs.length k=some j/\Q (upd H p (.lst (xs.set j v)))
theorem set_list:X5 X ZK:=by
 intro pins s σ H o i v ov iv u Q I ro ri rv h;obtain⟨p,xs,k,j,rfl,rfl,hp,hj,q⟩:=h;cases ro;obtain⟨t,rfl⟩:=ri;obtain⟨its,n,r,ho,hz⟩:=I.lst hp;obtain⟨h1,h2,h3,h4⟩:=CI hj;have hl:=r.length;have hn:=oA;have I':Inv X pins σ (upd H p (.lst (xs.set j v))) { s with heap:=s.heap.update p (Obj.mapSeq (·.setIfInBounds j u)) }:=
  I.Uc hp ho (AV its n j u) (r.set rv j) (by rw[List.length_set];exact hz) s.toks
 by_cases h0:0<=k
 ·have hk:k.toNat=j:=by
   rw[seqIndex_of h0 h4]at h1;exact Option.some.inj h1
  exact PySem.W.ki_setAt ho h0 (by omega) (by rw[iC,<-hl];exact h4) (by rw[hk];exact⟨_,I',q⟩)
 ·have hk:(k+(its.toArray.size:Int)).toNat=j:=by
   rw[seqIndex_neg (by omega) h3]at h1;rw[iC,<-hl];exact Option.some.inj h1
  exact PySem.W.ki_setBack ho (by omega) (by rw[iC,<-hl];exact h3) (by omega) (by rw[hk];exact⟨_,I',q⟩)
theorem yu(lo hi:Option Int)(n:Nat):(sliceBounds lo hi none n).1=((HT.sIx n 0 lo:Nat):Int)/\(sliceBounds lo hi none n).2.1=((HT.sIx n n hi:Nat):Int)/\(sliceBounds lo hi none n).2.2=1:=by
 refine⟨?_,?_,rfl⟩
 ·cases lo with
  |none=>simp[sliceBounds,HT.sIx]
  |some i=>
   simp only[sliceBounds,HT.sIx,Option.getD_none,show(1:Int)>0 by decide,if_true];by_cases h:i<0
   ·simp only[h,if_true]<;>omega
   ·simp only[h,if_false]<;>omega
 ·cases hi with
  |none=>simp[sliceBounds,HT.sIx]
  |some i=>
   simp only[sliceBounds,HT.sIx,Option.getD_none,show(1:Int)>0 by decide,if_true];by_cases h:i<0
   ·simp only[h,if_true]<;>omega
   ·simp only[h,if_false]<;>omega
theorem o8(its:List Value)(lo hi:Option Int):slicePick its.toArray lo hi none=((its.drop (HT.sIx its.length 0 lo)).take (HT.sIx its.length its.length hi - HT.sIx its.length 0 lo)).toArray:=by
 obtain⟨h1,h2,h3⟩:=yu lo hi its.toArray.size;unfold slicePick;rw[h1,h2,h3];simp only[sliceRange_one,pick_run,List.size_toArray]<;>rfl
noncomputable def W9(K:Wf):V->Option Int->Option Int->Hp->VK->Prop:=λx lo hi H Q=>∃a xs,x=.ref a/\aI K H a xs/\∀p,H p=none->Q (.ref p) (upd H p (.lst (zj xs lo hi)))
theorem Qu:WL X (W9 X.K):=by
 intro pins s σ H x v vl vu lo hi sl Q I rx hs pl pu h;obtain⟨a,xs,rfl,hx,q⟩:=h;cases rx;obtain⟨its,r,ht,hz⟩:=I.list hx;have hlen:=r.length;refine⟨"list", _,slot_list_getitem.lookup,ht.isList.typeIs,?_⟩;refine wpAny_getItem_list_slice ht.isList hs pl pu .none (by simp) ?_ (by rw[List.size_toArray]<;>omega);rw[o8,<-hlen];refine⟨.ref s.heap.objs.size,_,I.laid (t':=s.toks) (o:=.lst (zj xs lo hi)) (λb ob q=>dM _ q) (bA _) ?_,rfl,q _ (I.aN.fresh (bA _))⟩;exact⟨zc (jB xs lo hi) hz,_,0,(r.drop (HT.sIx xs.length 0 lo)).take (HT.sIx xs.length xs.length hi - HT.sIx xs.length 0 lo),iu _ rfl⟩
noncomputable def DC:V->Bool
 |.bI=>true
 |.bl _=>true
 |.int _=>true
 |.str _=>true
 |_=>false
noncomputable def eqV:V->V->Bool
 |.bI,.bI=>true
 |.bl a,.bl b=>a == b
 |.bl a,.int b=>(if a then 1 else 0) == b
 |.int a,.bl b=>a == (if b then 1 else 0)
 |.int a,.int b=>a == b
 |.str a,.str b=>a == b
 |_,_=>false
noncomputable def inV(x:V)(xs:List V):Bool:=xs.any λy=>eqV y x
def rIn(K:Wf)(neg:Bool):R2:=λx y H Q=>∃p xs,y=.ref p/\(aI K H p xs\/bB K H p xs)/\DC x=true/\xs.all DC=true/\Q (.bl (if neg then !inV x xs else inV x xs)) H
theorem xQ:cS X (.type "list") (λxs H Q=>∃p ys,xs=[.ref p]/\(aI X.K H p ys\/bB X.K H p ys)/\∀l,H l=none->Q (.ref l) (upd H l (.lst ys))):=by
 intro pins s σ H xs us Q I r h;obtain⟨p,ys,rfl,hq,q⟩:=h;obtain⟨u,rfl,rx⟩:=vals1 r;cases rx;have fin:∀(its:List Value),Vals ys its->ys.length<=sizeLine->∀(h':Heap) (c':Nat),(∀b o',s.heap.get? b=some o'->h'.get? b=some o')->
   h'.get? s.heap.objs.size=some { cls:=.type "list", dict:=none,data:=.seq its.toArray c',slots:=#[] }->EP X pins σ Q (.ref s.heap.objs.size) { s with heap:=h' }:=λits r' hz h' c' kp e=>
  ⟨.ref s.heap.objs.size,_,I.laid (t':=s.toks) kp (bA _) (show a0 X.prog X.w _ h' _ (.lst ys) from ⟨hz,its,c',r',e⟩),rfl,q _ (I.aN.fresh (bA _))⟩
 rcases hq with hq|hq
 ·obtain⟨its,r',pl,hz⟩:=I.list hq;have hlen:=r'.length;obtain⟨o,ho,hc,n,hd⟩:=pl.isList;exact call_list_seq p (.inl rfl) ho hc hd (λh' c' kp e=>fin its r' hz h' c' kp e) (by simp only[List.size_toArray]<;>omega)
 ·obtain⟨its,r',pl,hz⟩:=I.tuple hq;have hlen:=r'.length;obtain⟨o,ho,hc,n,hd⟩:=pl;exact call_list_seq p (.inr rfl) ho hc hd (λh' c' kp e=>fin its r' hz h' c' kp e) (by simp only[List.size_toArray]<;>omega)
def tyV(K:Wf)(T:String)(x:V)(H:Hp):Prop:=match x with
 |.str _=>T = "str"
 |.int _=>T = "int"
 |.ref p=>(T = "list" /\ ∃xs,aI K H p xs)\/(T = "tuple" /\ ∃o,K.lookup p=some o/\o.cls=.type "tuple" /\ o.dict=none) \/
   (T = "dict" /\ ((∃kvs,H p=some (.dK kvs))\/∃kvs,H p=some (.dT kvs)))\/(T = "set" /\ ∃S n,H p=some (.set S n))
 |_=>False
theorem Uv{pins:Lo}{σ:St}{H:Hp}{s:Shared}{T:String}{x:V}{v:Value}(I:Inv X pins σ H s)(r:RelV x v)(ty:tyV X.K T x H):
  s.TypeIs v T/\∀a,v=.ref a->∃ob,s.heap.get? a=some ob/\ob.dict=none:=by
 cases x with
 |str z=>
  obtain⟨t,rfl⟩:=r;cases (show T = "str" from ty);exact⟨typeIs_str s z t,λ_ e=>nomatch e⟩
 |int i=>
  obtain⟨t,rfl⟩:=r;cases (show T = "int" from ty);exact⟨typeIs_int s i t,λ_ e=>nomatch e⟩
 |ref p=>
  cases r;rcases ty with ⟨rfl,xs,hq⟩|⟨rfl,o,hk,hc,hd⟩|⟨rfl,hk⟩|⟨rfl,S,n,hk⟩
  ·obtain⟨its,_,pl,_⟩:=I.list hq;refine⟨pl.isList.typeIs,λa e=>?_⟩;cases e;obtain⟨o,n,e,c,hd,_⟩:=pl;exact⟨o,e,hd⟩
  ·refine⟨⟨o,I.ib p o hk,hc⟩,λa e=>?_⟩;cases e;exact⟨o,I.ib _ o hk,hd⟩
  ·have z:∃o,s.heap.get? p=some o/\o.ExactDict:=by
    rcases hk with ⟨kvs,hk⟩|⟨kvs,hk⟩
    ·obtain⟨_,_,_,_,o,_,_,e,ex,_⟩:=I.aN p _ hk;exact⟨o,e,ex⟩
    ·obtain⟨_,_,_,_,o,_,_,e,ex,_⟩:=I.aN p _ hk;exact⟨o,e,ex⟩
   obtain⟨o,e,ex⟩:=z;refine⟨⟨o,e,ex.1⟩,λa e2=>?_⟩;cases e2;exact⟨o,e,ex.2.1⟩
  ·obtain⟨o,_,_,_,e,ex,_⟩:=I.aN p _ hk;refine⟨⟨o,e,ex.1⟩,λa e2=>?_⟩;cases e2;exact⟨o,e,ex.2.1⟩
 |_=>exact False.elim ty
def tBM(K:Wf)(T:String)(r:V->List V->Hp->VK->Prop)(to:TE)(t:TA):TE:=λσ H Q=>to σ H λx H1=>tyV K T x H1/\t σ H1 λxs H2=>r x xs H2 Q
variable{o e:Expr}{es:List Expr}{to:TE}{t:TA}{name:Str}{apos cpos:Pos}{T id:String}{r:V->List V->Hp->VK->Prop}
theorem KQ(pa:PlainAttrs T)(slot:Slot T name id)(hty:typeOf (.builtin id)=pure (.type "method_descriptor"))(hm:MtR X id r)(ho:PE X o to)(ha:PA X (e::es) t)
  (hbase:attributeBase o name X.env (eval o X.env)=eval o X.env:=by rfl)
  (hfew:((backTo cpos (starEach (e::es) X.env)).all (λx=>!x.1)&&(backToKw cpos (keywordEach [] X.env)).all (λx=>x.1.isSome)
   && decide ((e::es).length+([]:List Keyword).length+(if ([]:List Keyword).isEmpty then 0 else 1)<30))=true:=by rfl)
  (hline:(apos.endLine == cpos.line)=true:=by rfl) (hs:starEach (e::es) X.env=(false,eval e X.env)::starEach es X.env:=by rfl) (hplain:(backTo cpos (starEach es X.env)).any (·.1)=false:=by rfl):
  PE X (.Call (.Attribute o name apos) (e::es) [] cpos) (tBM X.K T r to t):=by
 intro pins s σ H Q I h;refine wpAny_Call_method_late hbase hfew hline rfl (bj (ho pins s σ H _ I h) λv s1 ⟨x,H1,I1,r1,ty,q1⟩=>?_);obtain⟨h1,h2⟩:=Uv I1 r1 ty;refine⟨T,id,pa,slot,hty,h1,h2,?_⟩;have hA:=ha cpos pins s1 σ H1 _ I1 q1;rw[hs]at hA ⊢;refine Calls.callWith_builtin (by show(false || (backTo cpos (starEach es X.env)).any (·.1))=false;rw[hplain]<;>rfl) (Calls.evalArgs_plain ?_);exact bj hA λus s2 ⟨vs,H2,I2,r2,q2⟩=>hm pins s2 σ H2 x vs v us Q I2 r1 r2 q2
/- xs.append(e),list.index on a module's tuple .. are MtR facts of 06m -/
end
def MtM(X:Cx)(id:String)(r:V->List V->Hp->VK->Prop):Prop:=
 ∀(pins:Lo) (s:Shared) (σ:St) (H:Hp) (x:V) (xs:List V) (v:Value) (us:List Value) (Q:VK),Inv X pins σ H s->RelV x v->Vals xs us->r x xs H Q->
  wpAny (model X.prog X.w) X.A (call (.builtin id) (v::us)) (EP X pins σ Q) X.xe s
theorem Vals.one:∀{x:V}{us:List Value},Vals [x] us->∃u,us=[u]/\RelV x u
 |_,_,.cons r .nil=>⟨_,rfl,r⟩
section
variable{X:Cx}{pins:Lo}{σ:St}{H:Hp}{s:Shared}{l b:Addr}{xs ys zs:List V}
theorem Inv.Xj{its its':List Value}{n:Nat}{f:Array Value->Array Value}{t':Nat}(I:Inv X pins σ H s)(hH:H l=some (.lst xs))
  (e:s.heap.get? l=some { cls:=.type "list", data:=.seq its.toArray n }) (hf:f its.toArray=its'.toArray) (hv:Vals ys its') (hz:ys.length<=sizeLine):
  Inv X pins σ (upd H l (.lst ys)) { s with heap:=s.heap.update l (Obj.mapSeq f),toks:=t' }:=by
 have q:=PySem.IsL.update e f;rw[hf]at q;refine I.write (x:=l) (e:=l) (by rw[hH];exact trivial) (.inl rfl) (λb' u hb hu=>(PU s.heap (Obj.mapSeq f) (Ne.symm hb)).trans hu) ⟨_,q⟩ ?_;exact⟨hz,its',_,hv,q⟩
theorem Inv.UY(I:Inv X pins σ H s)(hv:Vals ys its)(hz:ys.length<=sizeLine):
  Inv X pins σ (upd H s.heap.objs.size (.lst ys)) { s with heap:=s.heap.push { cls:=.type "list", data:=.seq its.toArray },toks:=t' }:=
 I.laid (λ_ _ q=>dM _ q) (bA _) ⟨hz,its,0,hv,iu _ rfl⟩
theorem Inv.fresh(I:Inv X pins σ H s):H s.heap.objs.size=none:=I.aN.fresh (bA _)
theorem Inv.Vi(I:Inv X pins σ H s)(hH:H l=some (.lst xs)):xs.length<=sizeLine/\∃(its:List Value) (n:Nat),Vals xs its/\xs.length=its.length/\s.heap.get? l=some { cls:=.type "list", data:=.seq its.toArray n }:=by
 obtain⟨z,its,n,r,e⟩:=I.aN l _ hH;exact⟨z,its,n,r,r.length,e⟩
theorem LG(h:n<=sizeLine):Builtin.List.listTooLong n=false:=by
 unfold Builtin.List.listTooLong;exact decide_eq_false (by omega)
end
section
variable{X:Cx}
noncomputable def DG:V->List V->Hp->VK->Prop:=λx vs H Q=>∃l xs y,x=.ref l/\vs=[y]/\H l=some (.lst xs)/\xs.length<sizeLine/\Q .bI (upd H l (.lst (xs++[y])))
theorem pf:MtM X "list.append" DG:=by
 intro pins s σ H x vs v us Q I rx rv h;obtain⟨l,xs,y,rfl,rfl,hH,hz,q⟩:=h;cases rx;obtain⟨u,rfl,ru⟩:=rv.one;obtain⟨z,its,n,r,hl,e⟩:=I.Vi hH;refine call_meets F.slot_list_append ⟨_,e,rfl⟩ F.entry_list_append (F.args_list_append_2 _ _) (PySem.list_append l its.toArray n u (by rw[iC];omega)) ⟨e,?_⟩;refine⟨.bI,_,I.Xj (its':=its++[u]) hH e (by simp) (r.append (.cons ru .nil)) ?_,rfl,q⟩;rw[ij,List.length_singleton];omega
noncomputable def Rc:V->List V->Hp->VK->Prop:=λx vs H Q=>∃l b xs zs,x=.ref l/\vs=[.ref b]/\H l=some (.lst xs)/\H b=some (.lst zs)/\xs.length+zs.length<=sizeLine/\Q .bI (upd H l (.lst (xs++zs)))
theorem Ga:MtM X "list.extend" Rc:=by
 intro pins s σ H x vs v us Q I rx rv h;obtain⟨l,b,xs,zs,rfl,rfl,hH,hB,hz,q⟩:=h;cases rx;obtain⟨u,rfl,ru⟩:=rv.one;cases ru;obtain⟨z,its,n,r,hl,e⟩:=I.Vi hH;obtain⟨z2,its2,n2,r2,hl2,e2⟩:=I.Vi hB;have hsz:its.toArray.size+its2.toArray.size<=sizeLine:=by rw[iC,iC];omega
 have hlong:¬(!its.toArray.isEmpty&&Builtin.List.listTooLong (its.toArray.size+its2.toArray.size))=true:=by
  rw[LG hsz,Bool.and_false];exact zP
 refine call_meets F.slot_list_extend ⟨_,e,rfl⟩ F.entry_list_extend (F.args_list_extend_2 _ _)
  (AutoSeq1.list_extend_list_list_0 l its.toArray n b its2.toArray n2 hlong (by rw[iC];omega) (by omega)) ⟨e,e2,?_⟩
 refine⟨.bI,_,I.Xj (its':=its++its2) hH e (by simp) (r.append r2) ?_,rfl,q⟩;rw[ij];omega
end
section
variable{prog:Program}{w:World}{A:Around}{E:Vs}{s:Shared}
set_option maxRecDepth 100000 in
end
section
variable{X:Cx}
end
section
variable{κ:Type} [DecidableEq κ]
noncomputable def aO(kvs:List (κ×V))(k:κ):Option V:=(kvs.find? λkv=>decide (kv.1=k)).map (·.2)
noncomputable def putK(kvs:List (κ×V))(k:κ)(v:V):List (κ×V):=
 if (kvs.any λkv=>decide (kv.1=k))=true then kvs.map (λkv=>if kv.1=k then (kv.1,v) else kv) else kvs++[(k,v)]
theorem cw{p:κ×V}{r:List (κ×V)}{k:κ}(e:p.1=k):aO (p::r) k=some p.2:=by simp[aO,List.find?_cons,e]
theorem cq{p:κ×V}{r:List (κ×V)}{k:κ}(e:¬p.1=k):aO (p::r) k=aO r k:=by simp[aO,List.find?_cons,e]
theorem dZ(k:κ):∀kvs:List (κ×V),(kvs.any λkv=>decide (kv.1=k))=(aO kvs k).isSome
 |[]=>rfl
 |p::r=>by
  rw[List.any_cons];by_cases e:p.1=k
  ·simp only[cw e,decide_eq_true e,Bool.true_or,Option.isSome_some]
  ·rw[cq e,decide_eq_false e,Bool.false_or];exact dZ k r
theorem Ag(k j:κ)(y:V):∀kvs:List (κ×V),aO (kvs.map λkv=>if kv.1=k then (kv.1,y) else kv) j=(aO kvs j).map λx=>if j=k then y else x
 |[]=>rfl
 |p::r=>by
  have ih:=Ag k j y r;rw[pJ];by_cases h:p.1=k
  ·rw[if_pos h];by_cases e:p.1=j
   ·rw[cw (p:=(p.1,y)) e,cw e,Option.map_some,if_pos (e.symm.trans h)]
   ·rw[cq (p:=(p.1,y)) e,cq e,ih]
  ·rw[if_neg h];by_cases e:p.1=j
   ·rw[cw (p:=p) e,cw e,Option.map_some,if_neg (λz=>h (e.trans z))]
   ·rw[cq (p:=p) e,cq e,ih]
theorem pL(k j:κ)(y:V):∀kvs:List (κ×V),aO kvs k=none->aO (kvs++[(k,y)]) j=if j=k then some y else aO kvs j
 |[],_=>by
  by_cases e:k=j
  ·rw[if_pos e.symm];exact cw (p:=(k,y)) e
  ·rw[if_neg (λz=>e z.symm)];exact cq (p:=(k,y)) e
 |p::r,hn=>by
  rw[List.cons_append];have hk:¬p.1=k:=λz=>by rw[cw z]at hn;cases hn
  rw[cq hk]at hn;have ih:=pL k j y r hn;by_cases e:p.1=j
  ·rw[cw e,cw e,if_neg (λz=>hk (e.trans z))]
  ·rw[cq e,cq e,ih]
theorem dw(kvs:List (κ×V))(k j:κ)(y:V):aO (putK kvs k y) j=if j=k then some y else aO kvs j:=by
 unfold putK;by_cases a:(kvs.any λkv=>decide (kv.1=k))=true
 ·rw[if_pos a,Ag];rw[dZ]at a;by_cases e:j=k
  ·obtain⟨x,hx⟩:=Option.isSome_iff_exists.mp a;rw[if_pos e,e,hx,Option.map_some,if_pos rfl]
  ·rw[if_neg e];cases aO kvs j with
   |none=>rfl
   |some x=>rw[Option.map_some,if_neg e]
 ·rw[if_neg a];refine pL k j y kvs ?_;rw[dZ]at a;cases q:aO kvs k with
  |none=>rfl
  |some x=>rw[q]at a;exact(a rfl).elim
theorem dv(kvs:List (κ×V))(k:κ)(v:V):(putK kvs k v).length<=kvs.length+1:=by
 unfold putK;split
 ·rw[aS];omega
 ·rw[ij,pR,List.length_nil];omega
theorem Nx{kvs:List (κ×V)}{k:κ}(v:V)(h:aO kvs k=none):putK kvs k v=kvs++[(k,v)]:=by
 unfold putK;rw[dZ,h];exact if_neg (by decide)
theorem fu.eY(r:fu o u):o.isSome=u.isSome:=by
 cases o with
 |none=>cases u with
  |none=>rfl
  |some _=>exact(show False from r).elim
 |some _=>cases u with
  |none=>exact(show False from r).elim
  |some _=>rfl
theorem fu.getD(r:fu o u)(rd:RelV d d'):RelV (o.getD d) (u.getD d'):=by
 cases o with
 |none=>cases u with
  |none=>exact rd
  |some _=>exact(show False from r).elim
 |some _=>cases u with
  |none=>exact(show False from r).elim
  |some _=>exact r
theorem KV.val{kvs:List (κ×V)}{vs:List (κ×Value)}(r:KV kvs vs)(k:κ):fu (aO kvs k) (valueAt vs k):=by
 unfold KV at r
 induction r with
 |nil=>exact True.intro
 |@cons p q ps qs h t ih=>
  obtain⟨h1,h2⟩:=h;by_cases e:p.1=k
  ·have e':q.1=k:=h1.symm.trans e;have b:valueAt (q::qs) k=some q.2:=by simp[valueAt,List.find?_cons,e']
   rw[cw e,b];exact h2
  ·have e':¬q.1=k:=λz=>e (h1.trans z);have b:valueAt (q::qs) k=valueAt qs k:=by simp[valueAt,List.find?_cons,e']
   rw[cq e,b];exact ih
theorem KV.any{kvs:List (κ×V)}{vs:List (κ×Value)}(r:KV kvs vs)(k:κ):(kvs.any λkv=>decide (kv.1=k))=vs.any λkv=>decide (kv.1=k):=by
 unfold KV at r
 induction r with
 |nil=>rfl
 |cons h t ih=>rw[List.any_cons,List.any_cons,ih,h.1]
theorem KV.S8{kvs:List (κ×V)}{vs:List (κ×Value)}(r:KV kvs vs)(k:κ){y:V}{u:Value}(ry:RelV y u):
  KV (kvs.map λkv=>if kv.1=k then (kv.1,y) else kv) (vs.map λkv=>if kv.1=k then (kv.1,u) else kv):=by
 unfold KV at r ⊢
 induction r with
 |nil=>exact .nil
 |@cons p q ps qs h t ih=>
  rw[pJ,pJ];refine .cons ?_ ih;obtain⟨h1,h2⟩:=h;by_cases e:p.1=k
  ·rw[if_pos e,if_pos (h1.symm.trans e)];exact⟨h1,ry⟩
  ·rw[if_neg e,if_neg (λz=>e (h1.trans z))];exact⟨h1,h2⟩
theorem KV.put{kvs:List (κ×V)}{vs:List (κ×Value)}(r:KV kvs vs)(k:κ){y:V}{u:Value}(ry:RelV y u):KV (putK kvs k y) (stored vs k u):=by
 unfold putK stored;rw[r.any k];by_cases e:(vs.any λkv=>decide (kv.1=k))=true
 ·rw[if_pos e,if_pos e];exact r.S8 k ry
 ·rw[if_neg e,if_neg e];exact Paired.snoc r ⟨rfl,ry⟩
theorem KV.length{kvs:List (κ×V)}{vs:List (κ×Value)}(r:KV kvs vs):kvs.length=vs.length:=Paired.length r
end
theorem jF(r:RelV (kV k) u):(aZ P w).is k u=true:=by
 cases k with
 |inl i=>obtain⟨t,e⟩:=(show ∃t,u=Value.int i t from r);subst e;exact zS P w i t
 |inr x=>obtain⟨t,e⟩:=(show ∃t,u=Value.str x t from r);subst e;exact zI P w x t
theorem pP:∀{ks:List Key}{us:List Value},Vals (ks.map kV) us->ItemsAre (aZ P w) ks us
 |[],_,r=>by rw[List.map_nil]at r;cases r;exact .nil
 |k::ks,_,r=>by
  rw[pJ]at r;cases r with
  |cons h t=>exact .cons (jF h) (pP t)
noncomputable abbrev KT(H:Hp):List (List Key×V)->List (List Key×Addr×Value)->Prop:=Paired λp q=>p.1=q.1/\H q.2.1=some (.tup (p.1.map kV))/\RelV p.2 q.2.2
theorem KT.val{H:Hp}{kvs:List (List Key×V)}{xs:List (List Key×Addr×Value)}(r:KT H kvs xs)(k:List Key):fu (aO kvs k) ((atKey xs k).map (·.2)):=by
 induction r with
 |nil=>exact True.intro
 |@cons p q ps qs h t ih=>
  obtain⟨h1,_,h2⟩:=h;by_cases e:p.1=k
  ·have e':q.1=k:=h1.symm.trans e;have b:atKey (q::qs) k=some q.2:=by simp[atKey,List.find?_cons,e']
   rw[cw e,b];exact h2
  ·have e':¬q.1=k:=λz=>e (h1.trans z);have b:atKey (q::qs) k=atKey qs k:=by simp[atKey,List.find?_cons,e']
   rw[cq e,b];exact ih
theorem KT.S8{H:Hp}{kvs:List (List Key×V)}{xs:List (List Key×Addr×Value)}(r:KT H kvs xs)(k:List Key){y:V}{u:Value}(ry:RelV y u):
  KT H (kvs.map λkv=>if kv.1=k then (kv.1,y) else kv) (xs.map (putAt k u)):=by
 induction r with
 |nil=>exact .nil
 |@cons p q ps qs h t ih=>
  rw[pJ,pJ];refine .cons ?_ ih;obtain⟨h1,h2,h3⟩:=h;unfold putAt;by_cases e:p.1=k
  ·rw[if_pos e,if_pos (h1.symm.trans e)];exact⟨h1,h2,ry⟩
  ·rw[if_neg e,if_neg (λz=>e (h1.trans z))];exact⟨h1,h2,h3⟩
theorem KT.put{H:Hp}{kvs:List (List Key×V)}{xs:List (List Key×Addr×Value)}(r:KT H kvs xs)(k:List Key){b:Addr}{y:V}{u:Value}(hb:H b=some (.tup (k.map kV)))(ry:RelV y u):
  KT H (putK kvs k y) (storedH xs k b u):=by
 have e:(kvs.any λkv=>decide (kv.1=k))=(atKey xs k).isSome:=by
  rw[dZ,(r.val k).eY,YG]
 unfold putK storedH;rw[e];by_cases q:(atKey xs k).isSome=true
 ·rw[if_pos q,if_pos q];exact r.S8 k ry
 ·rw[if_neg q,if_neg q];exact Paired.snoc r ⟨rfl,hb,ry⟩
theorem KT.keeps(r:KT H kvs xs)(ht:∀b ys,H b=some (.tup ys)->H' b=some (.tup ys)):KT H' kvs xs:=
 Paired.TX r λ_ _ z=>⟨z.1,ht _ _ z.2.1,z.2.2⟩
section
variable{P:Program}{w:World}{H:Hp}{h:Heap}{a:Addr}
theorem SF(ok:e7 P w H h)(e:Rd H a u):a0 P w H h a u:=e.ok ok
theorem jC(ok:e7 P w H h)(e:Rd H a (.dK kvs)):kvs.length<=sizeLine/\(a == sysModules)=false/\∃vs,KV kvs vs/\h.DictOf (aZ P w) a vs:=
 show a0 P w H h a (.dK kvs) from SF ok e
theorem qh(ok:e7 P w H h)(e:H a=some (.dK kvs)):kvs.length<=sizeLine/\(a == sysModules)=false/\∃vs,KV kvs vs/\h.DictOf (aZ P w) a vs:=jC ok (.inl e)
theorem fO(ok:e7 P w H h)(e:H a=some (.tup (ks.map kV))):(tupleKind (aZ P w)).is h ks a:=by
 obtain⟨_,its,r,o,h1,h2,n,h3⟩:=(show a0 P w H h a (.tup (ks.map kV)) from ok a _ e)
 exact⟨o,its.toArray,n,h1,h2,h3,by simpa using pP r⟩
theorem jH(ok:e7 P w H h)(e:Rd H a (.dT kvs)):kvs.length<=sizeLine/\(a == sysModules)=false/\
  ∃xs,KT H kvs xs/\h.DictOfH (tupleKind (aZ P w)) a xs:=by
 obtain⟨z,y,xs,r,o,es,ep,h1,h2,h3,h4,h5⟩:=(show a0 P w H h a (.dT kvs) from SF ok e)
 refine⟨z,y,xs,r,o,es,ep,h1,h2,h3,h4,λx hx=>?_,h5⟩;have all:∀{l:List (List Key×V)}{m:List (List Key×Addr×Value)},KT H l m->∀x∈m,(tupleKind (aZ P w)).is h x.1 x.2.1:=by
  intro l m q
  induction q with
  |nil=>intro x hx;exact nomatch hx
  |@cons p q ps qs hq t ih=>
   intro x hx;rcases i_.mp hx with e|hx
   ·subst e;exact fO ok (by rw[<-hq.1];exact hq.2.1)
   ·exact ih x hx
 exact all r x hx
theorem RX(ok:e7 P w H h)(e:H a=some (.dT kvs)):kvs.length<=sizeLine/\(a == sysModules)=false/\
  ∃xs,KT H kvs xs/\h.DictOfH (tupleKind (aZ P w)) a xs:=jH ok (.inl e)
end
def cz(H:Hp)(a:Addr)(y:V)(r:Option V):Prop:=
 (∃kvs k,Rd H a (.dK kvs)/\y=kV k/\r=aO kvs k)\/∃kvs k b,Rd H a (.dT kvs)/\y=.ref b/\H b=some (.tup (k.map kV))/\r=aO kvs k
def gi(H:Hp)(a:Addr)(y v:V)(H':Hp):Prop:=
 (∃kvs k,H a=some (.dK kvs)/\y=kV k/\kvs.length<sizeLine/\H'=upd H a (.dK (putK kvs k v))) \/
 ∃kvs k b,H a=some (.dT kvs)/\y=.ref b/\H b=some (.tup (k.map kV))/\kvs.length<sizeLine/\H'=upd H a (.dT (putK kvs k v))
theorem cz.k{H:Hp}{a:Addr}{kvs:List (Key×V)}{k:Key}(e:H a=some (.dK kvs)):cz H a (kV k) (aO kvs k):=.inl ⟨kvs,k,.inl e,rfl,rfl⟩
theorem cz.t{H:Hp}{a b:Addr}{kvs:List (List Key×V)}{k:List Key}(e:H a=some (.dT kvs))(eb:H b=some (.tup (k.map kV))):cz H a (.ref b) (aO kvs k):=.inr ⟨kvs,k,b,.inl e,rfl,eb,rfl⟩
theorem gi.k{H:Hp}{a:Addr}{kvs:List (Key×V)}{k:Key}{v:V}(e:H a=some (.dK kvs))(hl:kvs.length<sizeLine):gi H a (kV k) v (upd H a (.dK (putK kvs k v))):=.inl ⟨kvs,k,e,rfl,hl,rfl⟩
theorem gi.t{H:Hp}{a b:Addr}{kvs:List (List Key×V)}{k:List Key}{v:V}(e:H a=some (.dT kvs))(eb:H b=some (.tup (k.map kV)))(hl:kvs.length<sizeLine):
  gi H a (.ref b) v (upd H a (.dT (putK kvs k v))):=.inr ⟨kvs,k,b,e,rfl,eb,hl,rfl⟩
section
variable{X:Cx}{pins:Lo}{σ:St}{H:Hp}{s:Shared}{a:Addr}{y v:V}{u r:Value}{o:Option V}{A:Around}{E:Vs}
theorem Inv.big(I:Inv X pins σ H s):sysModules<s.heap.objs.size:=by
 have h:mainGlobals<s.heap.objs.size:=(I.mod.glob.keeps I.bk).lt;exact Nat.lt_trans (by decide) h
theorem Gn{Q:Vs}(hu:A.units+1<cLine)(I:Inv X pins σ H s)(g:cz H a y (some v))(ry:RelV y u)(h:∀w' s',Inv X pins σ H s'->RelV v w'->Q w' s'):
  wpAny (model X.prog X.w) A (getItem (.ref a) u) Q E s:=by
 rcases g with ⟨kvs,k,e,ey,l⟩|⟨kvs,k,b,e,ey,eb,l⟩
 ·subst ey;obtain⟨z,hd,vs,rel,dd⟩:=jC I.aN e;obtain⟨w',hw,rw'⟩:=fu.some_of (v:=v) (o:=valueAt vs k) (by rw[l];exact rel.val k);exact wpAny_getItem_of (jF ry) dd.mapOf hw (h w' _ (I.tok _) rw')
 ·subst ey;cases (show u=Value.ref b from ry);obtain⟨z,hd,xs,rel,dd⟩:=jH I.aN e;obtain⟨w',hw,rw'⟩:=fu.some_of (v:=v) (o:=(atKey xs k).map (·.2)) (by rw[l];exact rel.val k);obtain⟨p,hp,hp2⟩:=iw.mp hw;refine wpAny_getItem_heap (tupleKind_room_in1 hu) (fO I.aN eb) dd hp ?_;rw[hp2];exact h w' _ (I.tok _) rw'
theorem aav{Q:Vs}(hu:A.units+1<cLine)(I:Inv X pins σ H s)(g:cz H a y o)(ry:RelV y u)(h:∀s',Inv X pins σ H s'->Q (.bool o.isSome) s'):
  wpAny (model X.prog X.w) A (compareOp .In u (.ref a)) Q E s:=by
 rcases g with ⟨kvs,k,e,ey,l⟩|⟨kvs,k,b,e,ey,eb,l⟩
 ·subst ey;obtain⟨z,hd,vs,rel,dd⟩:=jC I.aN e;refine wpAny_in_of (jF ry) hd dd.mapOf ?_;rw[<-(rel.val k).eY,<-l];exact h _ (I.tok _)
 ·subst ey;cases (show u=Value.ref b from ry);obtain⟨z,hd,xs,rel,dd⟩:=jH I.aN e;refine wpAny_in_heap (tupleKind_room_in1 hu) (fO I.aN eb) hd dd ?_;have q:=(rel.val k).eY;rw[YG]at q;rw[<-q,<-l];exact h _ (I.tok _)
theorem QA{Q:Vs}(hu:A.units+1<cLine)(I:Inv X pins σ H s)(g:cz H a y o)(ry:RelV y u)(h:∀s',Inv X pins σ H s'->Q (.bool (!o.isSome)) s'):
  wpAny (model X.prog X.w) A (compareOp .NotIn u (.ref a)) Q E s:=by
 rcases g with ⟨kvs,k,e,ey,l⟩|⟨kvs,k,b,e,ey,eb,l⟩
 ·subst ey;obtain⟨z,hd,vs,rel,dd⟩:=jC I.aN e;refine wpAny_notIn_of (jF ry) hd dd.mapOf ?_;rw[<-(rel.val k).eY,<-l];exact h _ (I.tok _)
 ·subst ey;cases (show u=Value.ref b from ry);obtain⟨z,hd,xs,rel,dd⟩:=jH I.aN e;refine wpAny_notIn_heap (tupleKind_room_in1 hu) (fO I.aN eb) hd dd ?_;have q:=(rel.val k).eY;rw[YG]at q;rw[<-q,<-l];exact h _ (I.tok _)
theorem i6(I:Inv X pins σ H s)(mu:X0 (H a))(hs:Heap.SameBut a s.heap h')(he:∃q,h'.get? a=some q)(new:a0 X.prog X.w (upd H a ob) h' a ob):
  Inv X pins σ (upd H a ob) { s with heap:=h',toks:=t' }:=
 I.write (x:=a) (e:=a) mu (.inl rfl) (λb q hb z=>(hs.2 b hb).trans z) he new
theorem Bf(z:kvs.length<=sizeLine)(hd:(a == sysModules)=false)(rel:KV kvs vs)(dd:h'.DictOf (aZ P w) a vs):
  a0 P w H' h' a (.dK kvs):=⟨z,hd,vs,rel,dd⟩
theorem FX(hu:A.units+1<cLine)(I:Inv X pins σ H s)(g:gi H a y v H')(ry:RelV y u)(rv:RelV v r)(h:∀s',Inv X pins σ H' s'->Q () s'):
  wpAny (model X.prog X.w) A (setItem (.ref a) u r) Q E s:=by
 rcases g with ⟨kvs,k,e,ey,l,eH⟩|⟨kvs,k,b,e,ey,eb,l,eH⟩
 ·subst ey eH;obtain⟨z,hd,vs,rel,dd⟩:=qh I.aN e;have hz:vs.length<=sizeLine:=by rw[<-rel.length];exact z
  have hl:(putK kvs k v).length<=sizeLine:=by have:=dv kvs k v;omega
  refine wpAny_setItem_pairs (hsz:=hz) (jF ry) dd λh' dd' hs=>h _ ?_;have he:∃q,h'.get? a=some q:=let ⟨q,_,_,hq,_⟩:=dd';⟨q,hq⟩
  exact i6 I (by rw[e];exact True.intro) hs he (Bf hl hd (rel.put k rv) dd')
 ·subst ey eH;cases (show u=Value.ref b from ry);obtain⟨z,hd,xs,rel,dd⟩:=RX I.aN e;have hz:xs.length<=sizeLine:=by rw[<-Paired.length rel];exact z
  have hl:(putK kvs k v).length<=sizeLine:=by have:=dv kvs k v;omega
  refine wpAny_setItem_heap (hsz:=hz) (tupleKind_room_in1 hu) (fO I.aN eb) dd λh' dd' hs=>h _ ?_;obtain⟨q,es,ep,hq,h2,h3,h4,_,h5⟩:=dd';refine i6 I (by rw[e];exact True.intro) hs ⟨q,hq⟩ ⟨hl,hd,_,(rel.put k eb rv).keeps λc ys ec=>?_,q,es,ep,hq,h2,h3,h4,h5⟩;rw[ae (aR ec e (λz=>nomatch z))];exact ec
end
section
variable{X:Cx}{pins:Lo}{σ:St}{H:Hp}{s:Shared}{a:Addr}{kvs:List (Key×V)}{k:Key}{u:Value}{A:Around}{E:Vs}
end
def Xu(i:Expr):Prop:=∀ov iv,subscripted i false ov iv=operate [ov,iv] (getItem ov iv)
theorem PX{prog:Program}{w:World}{A:Around}{E:Vs}{s:Shared}{env:Env}{value slice:Expr}{pos:Pos}{T id:String}{Q:Vs}
  (hl:typeLookup (.type T) "__getitem__" = pure (some (.builtin id))) (hs:Xu slice)
  (h:wpAny (model prog w) A (eval value env) (λo s₁=>wpAny (model prog w) A (eval slice env) (λi s₂=>s₂.TypeIs o T/\wpAny (model prog w) A (getItem o i) Q E s₂) E s₁) E s):
  wpAny (model prog w) A (eval (.Subscript value slice pos) env) Q E s:=by
 refine Subscript_ (oN h (λo s₁ h₁=>oN h₁ (λi s₂ h₂=>?_) λ_ _ x=>x) λ_ _ x=>x);obtain⟨hT,h₂⟩:=h₂;unfold subscriptTail;refine aw ?_;rw[getitemInPython_of_ne hT.not_modules];refine aw (wpAny_specialOf hT hl ?_);have fin:wpAny (model prog w) A (subscripted slice false o i) (λr s₃=>wpAny (model prog w) A (letTemporaryGo value o r >>= λ_=>pure r) Q E s₃) E s₂:=by
  rw[hs o i];exact wpAny_operating (oN h₂ (λr s₃ h₃=>aw (wpAny_letTemporaryGo (bc h₃))) λ_ _ x=>x)
 first
  |exact bc (aw fin)
  |exact aw (bc (aw fin))
  |exact aw fin
theorem zX{X:Cx}{pins:Lo}{σ:St}{H:Hp}{s:Shared}{a:Addr}{y:V}{o:Option V}(I:Inv X pins σ H s)(g:cz H a y o):s.TypeIs (.ref a) "dict" := by
 rcases g with ⟨kvs,k,e,_,_⟩|⟨kvs,k,b,e,_,_,_⟩
 ·obtain⟨_,_,vs,_,dd⟩:=jC I.aN e;exact dd.typeIs
 ·obtain⟨_,_,xs,_,dd⟩:=jH I.aN e;exact dd.typeIs
def WZ(td ty:TE):TE:=λσ H Q=>td σ H λx H1=>ty σ H1 λy H2=>∃a v,x=.ref a/\cz H2 a y (some v)/\Q v H2
def aaW(ty td:TE):TE:=λσ H Q=>ty σ H λy H1=>td σ H1 λx H2=>∃a o,x=.ref a/\cz H2 a y o/\Q (.bl o.isSome) H2
def Qg(ty td:TE):TE:=λσ H Q=>ty σ H λy H1=>td σ H1 λx H2=>∃a o,x=.ref a/\cz H2 a y o/\Q (.bl (!o.isSome)) H2
def WE(td ty tv:TE):TS:=λD σ H=>tv σ H λv H1=>td σ H1 λx H2=>ty σ H2 λy H3=>∃a H4,x=.ref a/\gi H3 a y v H4/\D.nx σ H4
section
variable{X:Cx}{o i e value:Expr}{pos pos' tpos:Pos}{td ty tv:TE}
theorem iT(hu:X.A.units+1<cLine)(ho:PE X o td)(hi:PE X i ty)(hs:Xu i):PE X (.Subscript o i pos) (WZ td ty):=by
 intro pins s σ H Q I h;refine PX PySem.F.slot_dict_getitem.lookup hs (bj (ho pins s σ H _ I h) λu s1 ⟨x,H1,I1,rx,q1⟩=>bj (hi pins s1 σ H1 _ I1 q1) λiv s2 ⟨y,H2,I2,ry,a,v,ex,g,q2⟩=>?_);subst ex;obtain rfl:u=Value.ref a:=rx;exact⟨zX I2 g,Gn hu I2 g ry λw' s3 I3 rw'=>⟨v,H2,I3,rw',q2⟩⟩
theorem A7(hu:X.A.units+1<cLine)(hi:PE X i ty)(ho:PE X o td):PC X .In i o (aaW ty td):=by
 intro pins s σ H Q I h;refine bj (hi pins s σ H _ I h) λiv s1 ⟨y,H1,I1,ry,q1⟩=>bj (ho pins s1 σ H1 _ I1 q1) λu s2 ⟨x,H2,I2,rx,a,ov,ex,g,q2⟩=>?_;subst ex;obtain rfl:u=Value.ref a:=rx;exact aav hu I2 g ry λs3 I3=>⟨.bl ov.isSome,H2,I3,rfl,q2⟩
theorem jq(hu:X.A.units+1<cLine)(hi:PE X i ty)(ho:PE X o td):PC X .NotIn i o (Qg ty td):=by
 intro pins s σ H Q I h;refine bj (hi pins s σ H _ I h) λiv s1 ⟨y,H1,I1,ry,q1⟩=>bj (ho pins s1 σ H1 _ I1 q1) λu s2 ⟨x,H2,I2,rx,a,ov,ex,g,q2⟩=>?_;subst ex;obtain rfl:u=Value.ref a:=rx;exact QA hu I2 g ry λs3 I3=>⟨.bl (!ov.isSome),H2,I3,rfl,q2⟩
theorem fe(hu:X.A.units+1<cLine)(ho:PE X o td)(hi:PE X i ty)(hv:PE X value tv)(hs:swapsWith value (some (.Subscript o i pos')) pos.line X.env=pure false):
  PS X (.Assign [.Subscript o i pos'] value pos) (WE td ty tv):=by
 intro pins s σ H D I h;refine wpAny_Assign_Subscript (bj (hv pins s σ H _ I h) λr s1 ⟨v,H1,I1,rv,q1⟩=>bj (ho pins s1 σ H1 _ I1 q1) λu s2 ⟨x,H2,I2,rx,q2⟩=>bj (hi pins s2 σ H2 _ I2 q2) λiv s3 ⟨y,H3,I3,ry,a,H4,ex,g,q3⟩=>?_) hs;subst ex;obtain rfl:u=Value.ref a:=rx;exact FX hu I3 g ry rv λs4 I4=>⟨σ,H4,I4,q3⟩
end
theorem LL(h:Heap)(hb:sysModules<h.objs.size):a0 P w H (h.push { cls:=.type "dict", data:=.dict #[] }) h.objs.size (.dK []):=
 ⟨i8 _,beq_eq_false_iff_ne.mpr (Ne.symm (fE hb)),[],.nil,Heap.DictOf.new h⟩
theorem OO(h:Heap)(hb:sysModules<h.objs.size):a0 P w H (h.push { cls:=.type "dict", data:=.dict #[] }) h.objs.size (.dT []):=
 ⟨i8 _,beq_eq_false_iff_ne.mpr (Ne.symm (fE hb)),[],.nil,_,#[],0,iu _ rfl,⟨rfl,rfl,rfl⟩,rfl,rfl,List.nodup_nil⟩
def Vq:TE:=λ_ H Q=>∀p,H p=none->Q (.ref p) (upd H p (.dK []))
def Vw:TE:=λ_ H Q=>∀p,H p=none->Q (.ref p) (upd H p (.dT []))
section
variable{X:Cx}{pos:Pos}
theorem dz:PE X (.Dict [] [] pos) Vq:=λpins s σ H Q I h=>
 wpAny_Dict_empty ⟨.ref s.heap.objs.size,_,I.laid (a:=s.heap.objs.size) (o:=.dK []) (t':=s.toks) (λ_ _ q=>dM _ q) (bA _) (LL s.heap I.big),rfl,h _ (I.aN.fresh (bA _))⟩
theorem Ah:PE X (.Dict [] [] pos) Vw:=λpins s σ H Q I h=>
 wpAny_Dict_empty ⟨.ref s.heap.objs.size,_,I.laid (a:=s.heap.objs.size) (o:=.dT []) (t':=s.toks) (λ_ _ q=>dM _ q) (bA _) (OO s.heap I.big),rfl,h _ (I.aN.fresh (bA _))⟩
end
noncomputable def nY(kvs more:List (Key×V)):List (Key×V):=more.foldl (λacc kv=>putK acc kv.1 kv.2) kvs
theorem KV.merge:∀{more:List (Key×V)}{rs:List (Key×Value)}{kvs:List (Key×V)}{vs:List (Key×Value)},KV more rs->KV kvs vs->KV (nY kvs more) (merged vs rs):=by
 intro more rs kvs vs r;unfold KV at r
 induction r generalizing kvs vs with
 |nil=>intro q;exact q
 |@cons p q ps qs h t ih=>
  intro r0;have e:KV (putK kvs p.1 p.2) (stored vs q.1 q.2):=by
   have:=r0.put p.1 h.2;rw[<-h.1];exact this
  exact ih e
theorem gR:∀(more kvs:List (Key×V)),(nY kvs more).length<=kvs.length+more.length
 |[],kvs=>by show kvs.length<=kvs.length+0;omega
 |p::r,kvs=>by
  have h1:=gR r (putK kvs p.1 p.2);have h2:=dv kvs p.1 p.2;show(nY (putK kvs p.1 p.2) r).length<=_;rw[pR];omega
structure M1(X:Cx)(o:Expr)(m:Str)(apos:Pos)(e:Expr)(cpos:Pos):Prop where
 base:attributeBase o m X.env (eval o X.env)=eval o X.env
 gq:((backTo cpos (starEach [e] X.env)).all (λx=>!x.1)&&(backToKw cpos (keywordEach [] X.env)).all (λx=>x.1.isSome)
  && decide (([e]:List Expr).length+([]:List Keyword).length+(if ([]:List Keyword).isEmpty then 0 else 1)<30))=true
 line:(apos.endLine == cpos.line)=true
 trees:backTo cpos (starEach [e] X.env)=[(false,eval e X.env)]
structure M2(X:Cx)(o:Expr)(m:Str)(apos:Pos)(e f:Expr)(cpos:Pos):Prop where
 base:attributeBase o m X.env (eval o X.env)=eval o X.env
 gq:((backTo cpos (starEach [e,f] X.env)).all (λx=>!x.1)&&(backToKw cpos (keywordEach [] X.env)).all (λx=>x.1.isSome)
  && decide (([e,f]:List Expr).length+([]:List Keyword).length+(if ([]:List Keyword).isEmpty then 0 else 1)<30))=true
 line:(apos.endLine == cpos.line)=true
 trees:backTo cpos (starEach [e,f] X.env)=[(false,eval e X.env),(false,eval f X.env)]
def IsD(H:Hp)(a:Addr):Prop:=(∃kvs,Rd H a (.dK kvs))\/∃kvs,Rd H a (.dT kvs)
theorem Ba{X:Cx}{pins:Lo}{σ:St}{H:Hp}{s:Shared}{a:Addr}(I:Inv X pins σ H s)(d:IsD H a):
  s.TypeIs (.ref a) "dict" /\ (∀b,Value.ref a=.ref b->∃ob,s.heap.get? b=some ob/\ob.dict=none)/\(a == sysModules)=false:=by
 rcases d with ⟨kvs,e⟩|⟨kvs,e⟩
 ·obtain⟨_,hd,vs,_,dd⟩:=jC I.aN e;refine⟨dd.typeIs,λb q=>?_,hd⟩;cases q;obtain⟨ob,_,_,h1,h2,_⟩:=dd;exact⟨ob,h1,h2.2.1⟩
 ·obtain⟨_,hd,xs,_,dd⟩:=jH I.aN e;refine⟨dd.typeIs,λb q=>?_,hd⟩;cases q;obtain⟨ob,_,_,h1,h2,_⟩:=dd;exact⟨ob,h1,h2.2.1⟩
section
variable{X:Cx}{pins:Lo}{σ:St}{H:Hp}{s:Shared}{a:Addr}{y d:V}{u r:Value}{o:Option V}{A:Around}{E:Vs}
theorem VL{Q:Vs}(hu:A.units+1<cLine)(I:Inv X pins σ H s)(g:cz H a y o)(ry:RelV y u)(h:∀w' s',Inv X pins σ H s'->RelV (o.getD .bI) w'->Q w' s'):
  wpAny (model X.prog X.w) A (call (.builtin "dict.get") [.ref a,u]) Q E s:=by
 rcases g with ⟨kvs,k,e,ey,l⟩|⟨kvs,k,b,e,ey,eb,l⟩
 ·subst ey;obtain⟨z,hd,vs,rel,dd⟩:=jC I.aN e;refine call_meetsIn PySem.F.slot_dict_get dd.typeIs PySem.F.entry_dict_get (PySem.F.args_dict_get_2 _ _) (meets_dict_get (aZ X.prog X.w) a (jF ry) hd) ⟨_,dd.mapOf,h _ _ (I.tok _) ?_⟩;rw[l];exact(rel.val k).getD rfl
 ·subst ey;cases (show u=Value.ref b from ry);obtain⟨z,hd,xs,rel,dd⟩:=jH I.aN e;refine call_meetsIn PySem.F.slot_dict_get dd.typeIs PySem.F.entry_dict_get (PySem.F.args_dict_get_2 _ _) (meetsH_dict_get (tupleKind (aZ X.prog X.w)) a b hd) ⟨tupleKind_room_in1 hu,k,xs,fO I.aN eb,dd,h _ _ (I.tok _) ?_⟩;rw[l];exact(rel.val k).getD rfl
theorem VF{Q:Vs}(hu:A.units+1<cLine)(I:Inv X pins σ H s)(g:cz H a y o)(ry:RelV y u)(rd:RelV d r)(h:∀w' s',Inv X pins σ H s'->RelV (o.getD d) w'->Q w' s'):
  wpAny (model X.prog X.w) A (call (.builtin "dict.get") [.ref a,u,r]) Q E s:=by
 rcases g with ⟨kvs,k,e,ey,l⟩|⟨kvs,k,b,e,ey,eb,l⟩
 ·subst ey;obtain⟨z,hd,vs,rel,dd⟩:=jC I.aN e;refine call_meetsIn PySem.F.slot_dict_get dd.typeIs PySem.F.entry_dict_get (PySem.F.args_dict_get_3 _ _ _) (meets_dict_get_default (aZ X.prog X.w) a (jF ry) hd r) ⟨_,dd.mapOf,h _ _ (I.tok _) ?_⟩;rw[l];exact(rel.val k).getD rd
 ·subst ey;cases (show u=Value.ref b from ry);obtain⟨z,hd,xs,rel,dd⟩:=jH I.aN e;refine call_meetsIn PySem.F.slot_dict_get dd.typeIs PySem.F.entry_dict_get (PySem.F.args_dict_get_3 _ _ _) (meetsH_dict_get_default (tupleKind (aZ X.prog X.w)) a b hd r) ⟨tupleKind_room_in1 hu,k,xs,fO I.aN eb,dd,h _ _ (I.tok _) ?_⟩;rw[l];exact(rel.val k).getD rd
end
def VP(td ty:TE):TE:=λσ H Q=>td σ H λx H1=>∃a,x=.ref a/\IsD H1 a/\ty σ H1 λy H2=>∃o,cz H2 a y o/\Q (o.getD .bI) H2
def UQ(td ty tx:TE):TE:=λσ H Q=>td σ H λx H1=>∃a,x=.ref a/\IsD H1 a/\ty σ H1 λy H2=>tx σ H2 λz H3=>∃o,cz H3 a y o/\Q (o.getD z) H3
section
variable{X:Cx}{o e f:Expr}{apos cpos:Pos}{td ty tx:TE}
theorem LY(hu:X.A.units+1<cLine)(ho:PE X o td)(he:PE X e ty)(m:M1 X o "get" apos e cpos):PE X (.Call (.Attribute o "get" apos) [e] [] cpos) (VP td ty):=by
 intro pins s σ H Q I h;refine wpAny_Call_method m.base m.gq m.line PySem.F.plainAttrs_dict PySem.F.slot_dict_get PySem.F.type_dict_get (bj (ho pins s σ H _ I h) λu s1 ⟨x,H1,I1,rx,a,ex,d,q1⟩=>?_);subst ex;obtain rfl:u=Value.ref a:=rx;obtain⟨t1,t2,_⟩:=Ba I1 d;refine⟨t1,t2,?_⟩;rw[m.trees];refine Calls.callWith_builtin rfl (Calls.evalArgs_plain (Calls.spliced_cons (bj (he pins s1 σ H1 _ I1 q1) λiv s2 ⟨y,H2,I2,ry,ov,g,q2⟩=>Calls.spliced_nil ?_)));exact VL hu I2 g ry λw' s3 I3 rw'=>⟨_,H2,I3,rw',q2⟩
theorem Hz(hu:X.A.units+1<cLine)(ho:PE X o td)(he:PE X e ty)(hf:PE X f tx)(m:M2 X o "get" apos e f cpos):PE X (.Call (.Attribute o "get" apos) [e,f] [] cpos) (UQ td ty tx):=by
 intro pins s σ H Q I h;refine wpAny_Call_method m.base m.gq m.line PySem.F.plainAttrs_dict PySem.F.slot_dict_get PySem.F.type_dict_get (bj (ho pins s σ H _ I h) λu s1 ⟨x,H1,I1,rx,a,ex,d,q1⟩=>?_);subst ex;obtain rfl:u=Value.ref a:=rx;obtain⟨t1,t2,_⟩:=Ba I1 d;refine⟨t1,t2,?_⟩;rw[m.trees];refine Calls.callWith_builtin rfl (Calls.evalArgs_plain (Calls.spliced_cons (bj (he pins s1 σ H1 _ I1 q1) λiv s2 ⟨y,H2,I2,ry,q2⟩=>
  Calls.spliced_cons (bj (hf pins s2 σ H2 _ I2 q2) λfv s3 ⟨z,H3,I3,rz,ov,g,q3⟩=>Calls.spliced_nil ?_))))
 exact VF hu I3 g ry rz λw' s4 I4 rw'=>⟨_,H3,I4,rw',q3⟩
end
section
variable{X:Cx}{pins:Lo}{σ:St}{H:Hp}{s:Shared}{a:Addr}{kvs:List (Key×V)}{A:Around}{E:Vs}
end
section
variable{X:Cx}{pins:Lo}{σ:St}{H:Hp}{s:Shared}{a:Addr}{y:V}{u:Value}{A:Around}{E:Vs}
end
end L2
namespace Att
open PySem PySem.W PySem.Calls PyProof.Rows
theorem ints_of_wellAll:∀(ns:List Int) (vs:List Value),WellAll P h vs (ns.map WData.int)->IntsAre vs ns:=by
 intro ns
 induction ns with
 |nil=>
  intro vs w;rw[List.map_nil]at w;cases w;exact .nil
 |cons n ns ih=>
  intro vs w;rw[pJ]at w;cases w with
  |cons a b=>
   cases a;exact .cons _ _ (ih _ b)
theorem script_of{l:OpenLaw}{n:Nat}(hn:l.most=some n){P:Params}{h:Heap}{args:List WData}{vals:List Value}
  (hpre:l.row.toRowW.claim.pre args=true) (hwl:WellAll P h vals args):
  ∃a vs ns,vals=[Value.ref a]/\args=[WData.list (ns.map WData.int)]/\h.get? a=some { cls:=.type "list", data:=.seq vs.toArray }/\IntsAre vs ns/\ns.length<=n:=by
 have hsh:WShape.hasAll [] args [.list .int]=true:=(pre_splitW hpre).1;have hc:l.pre.holds [] { args:=args }=true:=(pre_splitW hpre).2;obtain⟨d,r,rfl,h1,h2⟩:=hasAllW_cons hsh;obtain rfl:=hasAllW_nil h2;obtain⟨xs,rfl,h3⟩:=hasW_list h1;obtain⟨ns,rfl⟩:=items_int h3;have hlen:ns.length<=n:=by
  unfold OpenLaw.pre at hc;have h4:(WTm.not (.lt (.lit (.int (n:Int))) (.len (.arg 0)))).holds [] { args:=[.list (ns.map .int)] }=true:=by
   have h4:=(holds_andW hc).1;rw[hn]at h4;exact h4
  have h5:=condW_of h4 (w_not (w_lt w_lit (w_len_list (w_arg rfl))));rw[aS]at h5;refine Nat.le_of_not_lt λq=>?_;have q':(n:Int)<((ns.length:Nat):Int):=by omega
  first
   | (rw[decide_eq_true q']at h5;exact absurd h5 (by decide))
   | (simp at h5;omega)
 cases hwl with
 |cons w1 w2=>
  cases w2;cases w1 with
  |list ho hall=>exact⟨_,_,ns,rfl,rfl,ho,ints_of_wellAll ns _ hall,hlen⟩
theorem post_true(l:OpenLaw)(args:List WData):l.row.toRowW.claim.post args (.bool true) args=true:=
 postW_of (r:=l.row.toRowW) (X:=(true == true))
  (show WShape.has [] (.bool true) .bool=true by first|rfl|decide|simp[WShape.has,WShape.arms,WShape.armsAll])
  (show(WTm.eq .res (.lit (.bool true))).value [] { args:=args,res:=some (.bool true),after:=args }=some (.bool (true == true)) from w_eq_bool (w_res rfl) w_lit) rfl
theorem attach_call{l:OpenLaw}{n:Nat}{q:Program}{loose:List Str}{XP:(Str->Option Value)->Heap->Prop}{YP:World->Heap->Prop}{d:DefRec}
  (hn:l.most=some n) (hdf:d.params.defaults=[])
  (call:∀(w:World) (s₀ s₁:Shared) (mg mb:So) (fa:Addr) (o:Obj) (pm cd doc:Value) (a:Addr) (vs:List Value) (ns:List Int),
   Ground q loose [] XP w s₀ mg mb s₁.heap->YP w s₁.heap->
   s₁.heap.get? fa=some o->o.data=.func (docDef d.name d.params d.body d.scope pm cd doc)->s₁.heap.CodeRec cd d.name->mg d.name=some (.ref fa)->
   s₁.heap.get? a=some { cls:=.type "list", data:=.seq vs.toArray }->IntsAre vs ns->ns.length<=n->s₁.gens=#[]->
   codeAny (model l.prog w) callerA (.call (.ref fa) ⟨[.ref a],[]⟩) (λr s'=>r=.ok (.ret (.bool true))/\OldK s₁.heap s'.heap/\s'.os=s₁.os/\AllBare s'.gens) s₁):
  WalkO q loose XP YP l.row.toRowW d [] (λf vs=>PySem.call f vs):=by
 intro w s₀ s₁ mg mb G Y fa o pm cd doc dV kV ho hd hcd hD hmg hg args vals as hpre hlay hrd hwl hlo;obtain rfl:dV=.none:=Dflts.none hD hdf;obtain rfl:kV=.none:=Dflts.noKw hD;obtain⟨a,vs,ns,rfl,rfl,hobj,hints,hlen⟩:=script_of hn hpre hwl;refine enter_call (codeAny_mono (call w s₀ s₁ mg mb fa o pm cd doc a vs ns G Y ho (fd_plain hd) hcd hmg hobj hints hlen hg) λr s' hq=>?_);obtain⟨rfl,h2,h3,h4⟩:=hq;exact⟨.inl ⟨.bool true,.bool true,[],rfl,λ_=>rfl,.bool true,post_true l _,λ_=>⟨List.Pairwise.nil,λ_ hm=>(nomatch hm)⟩⟩,h2,h3,h4⟩
section
variable{prog:Program}{w:World}{A:Around}{E:Vs}{s:Shared}{K:Frag}
noncomputable def ledger(h:Heap)(L d:Addr):Lo:=(List.range h.objs.size).filterMap λa=>if a=L\/a=d then none else (h.get? a).map λo=>(a,o)
end
end Att
namespace L2
open PySem PySem.Spec PyProof.Rows
theorem pH:∀{vs:List Value}{ns:List Int},IntsAre vs ns->Vals (ns.map V.int) vs
 |_,_,.nil=>.nil
 |_,_,.cons n t h=>.cons ⟨t,rfl⟩ (pH h)
noncomputable def inClass(s:Stmt)(j:Nat):Stmt:=match s with
 |.ClassDef _ _ _ body _ _ _ _ _ _ _=>body.getD j (.Pass ⟨0,0,0,0⟩)
 |_=>.Pass ⟨0,0,0,0⟩
noncomputable def fj(s:Stmt):Arguments:=match s with
 |.FunctionDef _ a _ _ _ _ _ _ _ _=>a
 |_=>{ posonlyargs:=[],args:=[],vararg:=none,kwonlyargs:=[],kw_defaults:=[],kwarg:=none,defaults:=[] }
noncomputable def dq(s:Stmt):List Stmt:=match s with
 |.FunctionDef _ _ b _ _ _ _ _ _ _=>b
 |_=>[]
noncomputable def ag(s:Stmt):Scope:=match s with
 |.FunctionDef _ _ _ _ _ _ sc _ _ _=>sc
 |_=>{ kind:=.function,names:=[],isGenerator:=false,isCoroutine:=false }
noncomputable abbrev bP:G7:=λ_ _ _ _ _ _=>False
noncomputable abbrev E0:XK:=λ_ _ _=>False
theorem ck:Passes bP X E0:=λ_ _ _ _ _ _ _ h=>h.elim
structure bQ(K:Wf)(x qual:Str)(st:Stmt)(f:Addr)(fd:FuncData):Prop where
 ex:∃(oc:Value) (od:Option Addr) (kV doc pm:Value) (an:Option Addr) (cdv ct:Value) (osl:Array (Option Value)),
  fd=fnOf x qual (fj st) (dq st) (ag st) .none kV doc pm an cdv ct/\K.lookup f=some ⟨oc,od,.func fd,osl⟩/\codeIn K cdv qual=true
 kp:keepIn K (.ref f)=true
section
variable{P:Program}{w:World}{K:Wf}{mg:So}{base:Heap}
theorem bQ.ok{x qual:Str}{st:Stmt}{f:Addr}{fd:FuncData}{N ps:List Str}{k:Nat}{sp:Sp}(F:bQ K x qual st f fd)(S:ai N ps (ag st))(len:∀vs H Q E,sp vs H Q E->vs.length=ps.length)
  (hbody:∀(cdv:Value) (A:Around) (outer:List Env) (s:Shared) (H:Hp) (vs:List V) (Q:VK) (E:XK),cg k (A.deeper (envOfC qual (ag st) s.heap.objs.size f cdv))->sp vs H Q E->
   ∃t,pV (jv bP P w K mg base N qual (ag st) f cdv A outer s H E).VV (dq st) t/\t { nx:=λ_ H'=>Q .bI H',rt:=Q } (start N vs) H):aG P w K mg base bP (k+1) f fd ps sp:=by
 obtain⟨oc,od,kV,doc,pm,an,cdv,ct,osl,rfl,lk,hcd⟩:=F.ex;refine N6 lk hcd S len λA outer s H vs Q E hr hsp=>?_;obtain⟨t,h,q⟩:=hbody cdv A outer s H vs Q E hr hsp;exact⟨t,h.VV,q⟩
theorem bQ.binds{x qual:Str}{st:Stmt}{f:Addr}{fd:FuncData}{ps:List Str}(F:bQ K x qual st f fd)
  (h:∀(kV doc pm:Value) (an:Option Addr) (cdv ct:Value) (us:List Value),us.length=ps.length->bindArgs (fnOf x qual (fj st) (dq st) (ag st) .none kV doc pm an cdv ct) ⟨us,[]⟩=pure (ps.zip us)):Binds K fd ps []:=by
 obtain⟨oc,od,kV,doc,pm,an,cdv,ct,osl,rfl,lk,hcd⟩:=F.ex;exact .all (h kV doc pm an cdv ct)
theorem qH{x qual:Str}{st:Stmt}{f:Addr}{oc:Value}{od an:Option Addr}{osl:Array (Option Value)}{kV doc pm cdv ct:Value}(l:K.lookup f=some ⟨oc,od,.func (fnOf x qual (fj st) (dq st) (ag st) .none kV doc pm an cdv ct),osl⟩)
  (c:codeIn K cdv qual=true) (k:keepIn K (.ref f)=true):bQ K x qual st f (fnOf x qual (fj st) (dq st) (ag st) .none kV doc pm an cdv ct):=⟨⟨oc,od,kV,doc,pm,an,cdv,ct,osl,rfl,l,c⟩,k⟩
end
theorem cD(hr:cg k A):A.units+1<cLine:=Nat.lt_of_le_of_lt (Nat.add_le_add_left (by decide:1<=64) _) hr.units
section
variable{X:Cx}
noncomputable def visB(sc:Scope)(x:Str):Bool:=match sc.names.lookup x with
 |some .local=>true
 |some .cell=>true
 |some .free=>true
 |_=>false
noncomputable def varB(N:List Str)(sc:Scope)(i:Nat)(x:Str):Bool:=match N[i]? with
 |some y=>decide (y=x)&&(visB sc x&&(!(x == ("__debug__" : Str)) && !(x == ("__classdict__" : Str))))
 |none=>false
theorem pv(i:Nat){x:Str}{pos:Pos}(h:varB X.N X.env.scope i x=true:=by kernel_rfl):PE X (.Name x pos) (Q_ i):=by
 unfold varB at h;split at h
 ·rename_i y hy;rw[zx,zx,zx]at h;obtain⟨h1,h2,h3,h4⟩:=h;refine Vo (hy.trans (congrArg some (of_decide_eq_true h1))) ?_ (by simpa using h3) (by simpa using h4);unfold visB at h2;split at h2
  ·rename_i e;exact .inl e
  ·rename_i e;exact .inr (.inl e)
  ·rename_i e;exact .inr (.inr e)
  ·cases h2
 ·cases h
end
theorem oh{A B:Prop}(h:B):if false=true then A else B:=by
 rw[if_neg zP];exact h
theorem Qs{A B:Prop}(h:A):if true=true then A else B:=by
 rw[if_pos rfl];exact h
theorem bN{c A B:Prop} [Decidable c](h1:c->A)(h2:¬c->B):if c then A else B:=by
 by_cases h:c
 ·rw[if_pos h];exact h1 h
 ·rw[if_neg h];exact h2 h
def aL(H H':Hp):Prop:=∀b o,H b=some o->H' b=some o
theorem aL.trans(a:aL H H1)(b:aL H1 H2):aL H H2:=λc o h=>b c o (a c o h)
theorem aL.free(e:aL H H'){l:Addr}(h:H' l=Option.none):H l=Option.none:=by
 cases q:H l with
 |none=>rfl
 |some o=>
  rw[e l o q]at h;cases h
theorem aL.seq{K:Wf}{H H':Hp}{a:Addr}{xs:List V}(e:aL H H')(h:aI K H a xs):aI K H' a xs:=by
 rcases h with (h|⟨o,h⟩)|h
 ·exact .inl (.inl (e _ _ h))
 ·exact .inl (.inr ⟨o,e _ _ h⟩)
 ·exact .inr h
section
variable{X:Cx}
end
section
variable{κ:Type} [DecidableEq κ]
end
noncomputable def jM(env:Env):List (Str×NameKind)->List (Str×Addr)->List (Str×Addr)
 |[],acc=>acc
 | (n,k)::r,acc=>jM env r (if (k == NameKind.free)=true then (n,(env.cells.lookup n).getD 0)::acc else acc)
theorem FP:∀(ns:List (Str×NameKind)) (acc:List (Str×Addr)),(∀x∈ns,x.2=.free->∃c,env.cells.lookup x.1=some c)->
  (∀x c,acc.lookup x=some c->env.cells.lookup x=some c)->∀x c,(jM env ns acc).lookup x=some c->env.cells.lookup x=some c
 |[],acc,_,ha=>ha
 | (n,k)::r,acc,hn,ha=>by
  refine FP r _ (λx hx=>hn x (Bv _ hx)) ?_;intro x c e;by_cases hk:(k == NameKind.free)=true
  ·rw[if_pos hk]at e;have hk':k=.free:=by simpa using hk
   obtain⟨c',ec⟩:=hn (n,k) Qw hk';rw[V3]at e;cases hx:x == n with
   |true=>
    rw[hx]at e;have:x=n:=by simpa using hx
    subst this;have ec':List.lookup x env.cells=some c':=ec;rw[ec']at e;simp at e;rw[<-e];exact ec'
   |false=>rw[hx]at e;exact ha x c e
  ·rw[if_neg hk]at e;exact ha x c e
theorem qi:∀(ns:List (Str×NameKind)) (acc:List (Str×Addr)) (x:Str),(∃c,acc.lookup x=some c)->∃c,(jM env ns acc).lookup x=some c
 |[],acc,x,h=>h
 | (n,k)::r,acc,x,h=>by
  refine qi r _ x ?_;by_cases hk:(k == NameKind.free)=true
  ·rw[if_pos hk,V3];cases hx:x == n with
   |true=>exact⟨_,rfl⟩
   |false=>exact h
  ·rw[if_neg hk];exact h
theorem nc:∀(ns:List (Str×NameKind)) (acc:List (Str×Addr)) (x:Str),(x,NameKind.free)∈ns->∃c,(jM env ns acc).lookup x=some c
 |[],acc,x,h=>absurd h (by simp)
 | (n,k)::r,acc,x,h=>by
  rcases i_.mp h with e|e
  ·injection e with e1 e2;subst e1 e2;refine qi r _ x ⟨(env.cells.lookup x).getD 0,?_⟩;rw[if_pos (by decide)];simp
  ·exact nc r _ x e
theorem gY{scope:Scope}(h:∀x∈scope.names,x.2=.free->∃c,env.cells.lookup x.1=some c):closureFor scope env=pure (jM env scope.names []):=by
 have key:∀(ns:List (Str×NameKind)) (acc:List (Str×Addr)),(∀x∈ns,x.2=.free->∃c,env.cells.lookup x.1=some c)->
   (do let r <-forIn (m:=Sem) ns acc (λx r=>if (x.2 == NameKind.free)=true then do let c <-cellOf env x.1;pure (ForInStep.yield ((x.1,c)::r)) else pure (ForInStep.yield r));pure r:Sem (List (Str×Addr)))=pure (jM env ns acc):=by
  intro ns
  induction ns with
  |nil=>intro acc _;rfl
  |cons y r ih=>
   intro acc hy;obtain⟨n,k⟩:=y;rw[List.forIn_cons];by_cases hk:(k == NameKind.free)=true
   ·have hk':k=.free:=by simpa using hk
    obtain⟨c,ec⟩:=hy (n,k) Qw hk';have ec':List.lookup n env.cells=some c:=ec;have e1:cellOf env n=pure c:=by unfold cellOf;rw[ec']
    simp only[hk,if_true,e1];have:=ih ((n,c)::acc) λx hx=>hy x (Bv _ hx);show _=pure (jM env r (if (k == NameKind.free)=true then (n,(List.lookup n env.cells).getD 0)::acc else acc));rw[if_pos hk,ec'];exact this
   ·simp only[hk];have:=ih acc λx hx=>hy x (Bv _ hx);show _=pure (jM env r (if (k == NameKind.free)=true then (n,(List.lookup n env.cells).getD 0)::acc else acc));rw[if_neg hk];exact this
 simp only[closureFor];rw[key scope.names [] h];rfl
section
variable{prog:Program}{w:World}{A:Around}{R:Result->Shared->Prop}{s:Shared}
theorem wo{elt target iter:Expr}{scope:Scope}(I:Nat->Shared->Prop)
  (turn:∀n s,I n s->wpAny (model prog w) A (pyNext it) (λr s₁=>match r with
   |none=>R (.ok .next) s₁
   |some v=>wpAny (model prog w) A (letOwnedTupleGo target it v) (λ_ s₁'=>wpAny (model prog w) A (assign target env v) (λ_ s₂=>
     wpAny (model prog w) A (forIn ifs true λc r=>if r=true then do let ok <-isTrue c env (eval c env);pure (ForInStep.yield ok) else pure (ForInStep.yield r)) (λok s₃=>
      if ok=true then wpAny (model prog w) A (eval elt env) (λx s₄=>
       wpAny (model prog w) A (call (.builtin "list.append") [acc,x]) (λ_ s₅=>∃m,m<n/\I m s₅) (λ_ _=>False) s₄) (λ_ _=>False) s₃
      else ∃m,m<n/\I m s₃) (λ_ _=>False) s₂) (λ_ _=>False) s₁') (λ_ _=>False) s₁) (λ_ _=>False) s)
  (n:Nat) (h:I n s):
  codeAny (model prog w) A (.compLoop (.ListComp elt [⟨target,iter,ifs,0⟩] scope pos) 0 it acc env) R s:=by
 refine codeAny_loop rfl I (λn s hI=>?_) n h;show wpAny _ A ((compTurn (.ListComp elt [⟨target,iter,ifs,0⟩] scope pos) 0 it acc env).onRaise (λx=>do noteFrame x env;theTreesLotGoes x)) _ _ s;refine wpAny_noted ?_;rw[compTurn_list];refine aw (wpAny_standAt (aw (oN (turn n s hI) (λr s₁ h₁=>?_) λ_ _ h'=>h'.elim)));cases r with
 |none=>exact bc h₁
 |some v=>
  refine aw (oN h₁ (λ_ s₁' h₁'=>?_) λ_ _ h'=>h'.elim);refine aw (oN h₁' (λ_ s₂ h₂=>aw (oN h₂ (λok s₃ h₃=>?_) λ_ _ h'=>h'.elim)) λ_ _ h'=>h'.elim);cases ok with
  |false=>exact bc ⟨rfl,h₃⟩
  |true=>
   exact aw (aw (oN h₃ (λx s₄ h₄=>aw (oN h₄ (λ_ s₅ h₅=>bc (bc ⟨rfl,h₅⟩)) λ_ _ h'=>h'.elim)) λ_ _ h'=>h'.elim))
end
noncomputable def F8(X:Cx)(N':List Str)(scope:Scope)(fp:List Addr)(s:Shared)(H:Hp):Cx:=
 { X with N:=N',s₀:=s,H₀:=H,env:=compEnvC scope (jM X.env scope.names []) s.heap.objs.size X.env,outer:=X.stack,stack:=X.stack,ex:=fp,fn:=λ_=>false,xe:=λ_ _=>False }
def ZO(X:Cx)(ifs:List Expr)(t:TT):Prop:=
 ∀(pins:Lo) (s:Shared) (σ:St) (H:Hp) (Q:Bool->Hp->Prop),Inv X pins σ H s->t σ H Q->
  wpAny (model X.prog X.w) X.A (forIn ifs true λc r=>if r=true then do let ok <-isTrue c X.env (eval c X.env);pure (ForInStep.yield ok) else pure (ForInStep.yield r)) (TP X pins σ Q) X.xe s
def aa0:TT:=λ_ H Q=>Q true H
theorem dj:ZO X [] aa0:=λ_ _ _ H _ I h=>wpAny_tests_nil ⟨H,I,h⟩
theorem Fo(h:PT X c t):ZO X [c] t:=λpins s σ H Q I q=>wpAny_tests_one (h pins s σ H Q I q)
set_option genInjectivity true in
inductive Ext:St->St->Prop
 |nil:Ext [] []
 |no {σ τ:St}{a:Option V}:Ext σ τ->Ext (none::σ) (a::τ)
 |yes {σ τ:St}{v:V}:Ext σ τ->Ext (some v::σ) (some v::τ)
theorem Ext.len:∀{σ τ:St},Ext σ τ->σ.length=τ.length
 |_,_,.nil=>rfl
 |_,_,.no h=>by simp[h.len]
 |_,_,.yes h=>by simp[h.len]
theorem Ext.get:∀{σ τ:St},Ext σ τ->∀(i:Nat) (v:V),σ[i]?=some (some v)->τ[i]?=some (some v)
 |_,_,.nil,i,v,e=>e
 |_,_,.no h,0,v,e=>by simp at e
 |_,_,.no h,i+1,v,e=>by simpa using h.get i v (by simpa using e)
 |_,_,.yes h,0,v,e=>by simpa using e
 |_,_,.yes h,i+1,v,e=>by simpa using h.get i v (by simpa using e)
noncomputable def eh(k:Nat)(fm:List Nat)(σ:St):St:=List.replicate k none++fm.map λj=>(σ[j]?).join
def oo(k:Nat)(fm:List Nat)(wi:TI)(g:TG)(tt:TT)(te:TE):TE:=λσ H Q=>wi σ H λJ H1=>∀D,H1 D=none->∃W:Nat->Nat->List V->Hp->Prop,
 (∃m,W 0 m [] (upd H1 D (.lst [])))/\∀i m ys H2,W i m ys H2->H2 D=some (.lst ys)/\ys.length<sizeLine/\((J.stop i H2/\Q (.ref D) H2)\/(J.go i H2/\∃N:List V->Hp->Prop,(∀ys' H',N ys' H'->∃m',m'<m/\W (i+1) m' ys' H')/\∀x H3,J.F7 i H2 x H3->
  g x (eh k fm σ) H3 λσ3 H4=>Ext (eh k fm σ) σ3/\tt σ3 H4 λb H5=>if b=true then te σ3 H5 λy H6=>H6 D=some (.lst ys)/\N (ys++[y]) (upd H6 D (.lst (ys++[y]))) else N ys H5))
theorem Un.tail(u:Un fs ex H H' h h1)(k:∀b o,b≠C->h1.get? b=some o->h2.get? b=some o)(hC:h.get? C=none):Un fs ex H H' h h2:=by
 have ne:∀b o,h.get? b=some o->b≠C:=λb o e z=>by rw[z,hC]at e;cases e
 exact⟨λb o e n hf hx=>k b o (ne b o e) (u.keep b o e n hf hx),λb o e n hf hx=>let ⟨sl,q⟩:=u.slot b o e n hf hx;⟨sl,k b _ (ne b o e) q⟩,u.free,
  λb o e hx=>let ⟨o',q⟩:=u.there b o e hx;⟨o',k b _ (ne b o e) q⟩,u.iD,u.hZ,u.hJ⟩
theorem e7.tail(ok:e7 P w H h1)(k:∀b o,b≠C->h1.get? b=some o->h2.get? b=some o)(hC:H C=none):e7 P w H h2:=λa o e=>by
 have ne:∀b u,H b=some u->b≠C:=λb u q z=>by rw[z,hC]at q;cases q
 refine(ok a o e).gM (λb u hb q=>k b u ?_ q) (λ_ q=>q) λ_ _ q=>q;rcases hb with z|z
 ·rw[z];exact ne a o e
 ·exact ne b _ z
theorem cO{env:Env}:∀{names:List (Str×NameKind)}{x:Str}{k:NameKind},
  (names.map λ(n,k)=>if (k == NameKind.free&&env.scope.kind == .function&&env.kindOf n == some .cell) then (n,NameKind.cell) else (n,k)).lookup x=some k->∃k',names.lookup x=some k'/\(k=k'\/(k'=.free/\k=.cell))
 |[],_,_,h=>by simp at h
 | (n,k0)::r,x,k,h=>by
  have ih:=@cO env r x k;have h:List.lookup x ((if (k0 == NameKind.free&&env.scope.kind == .function&&env.kindOf n == some .cell)=true then (n,NameKind.cell) else (n,k0))::(r.map λ(n,k)=>if (k == NameKind.free&&env.scope.kind == .function&&env.kindOf n == some .cell) then (n,NameKind.cell) else (n,k)))=some k:=h;by_cases hc:(k0 == NameKind.free&&env.scope.kind == .function&&env.kindOf n == some .cell)=true
  ·rw[if_pos hc,V3]at h;have k0f:k0=.free:=by
    simp only[Bool.and_eq_true]at hc;simpa using hc.1.1
   rw[V3];cases hx:x == n with
   |true=>rw[hx]at h;injection h with h;exact⟨k0,rfl,.inr ⟨k0f,h.symm⟩⟩
   |false=>rw[hx]at h;exact ih h
  ·rw[if_neg hc,V3]at h;rw[V3];cases hx:x == n with
   |true=>rw[hx]at h;injection h with h;exact⟨k0,rfl,.inl h.symm⟩
   |false=>rw[hx]at h;exact ih h
structure gk(X:Cx)(N':List Str)(k:Nat)(fm:List Nat)(scope:Scope):Prop where
 kind:scope.kind=.function
 Bl:∀y∈scope.names,y.2≠.cell
 names:∀y∈scope.names,y.2=.local->scope.names.lookup y.1=some .local
 free:∀y∈scope.names,y.2=.free->X.env.kindOf y.1=some .cell\/X.env.kindOf y.1=some .free
 len:N'.length=k+fm.length
 slots:∀i x,k<=i->N'[i]?=some x->scope.names.lookup x=some .free/\∃j,fm[i - k]?=some j/\X.N[j]?=some x
section
variable{X:Cx}{pins:Lo}{σ:St}{H:Hp}{s:Shared}
theorem Inv.block{scope:Scope}(B:gk X N' k fm scope)(I:Inv X pins σ H s)(hf:∀b∈fp,eO X pins H b)(ho:∀b∈fp,∃o,s.heap.get? b=some o)
  (ns:h'.Ns s.heap.objs.size (λ_=>none)) (kp:∀b o,s.heap.get? b=some o->h'.get? b=some o):Inv (F8 X N' scope fp s H) [] (eh k fm σ) H { s with heap:=h',toks:=tk }:=by
 have hfree:∀x∈scope.names,x.2=.free->∃c,X.env.cells.lookup x.1=some c:=λx hx hk=>I.ok.has x.1 (B.free x hx hk);have hcl:∀x c,(jM X.env scope.names []).lookup x=some c->X.env.cells.lookup x=some c:=FP scope.names [] hfree λx c e=>by simp at e
 have PN:∀b∈i9 X.stack,b∈X.env.locals::X.fs:=I.yi;have hC:H s.heap.objs.size=none:=I.aN.fresh (bA _);have ok:(F8 X N' scope fp s H).Ok:={
  mod:=I.ok.mod
  kind:=B.kind
  glob:=I.ok.glob
  blt:=I.ok.blt
  above:=bA _
  inj:=λx y c h1 h2=>I.ok.inj x y c (hcl x c h1) (hcl y c h2)
  has:=λx hx=>by
   have hx:(relabel scope X.env).names.lookup x=some .cell\/(relabel scope X.env).names.lookup x=some .free:=hx;have:scope.names.lookup x=some .free:=by
    rcases hx with e|e
    ·obtain⟨k',e1,e2⟩:=cO e;rcases e2 with e2|⟨e2,_⟩
     ·subst e2;exact absurd rfl (B.Bl _ (PySem.mem_of_lookup e1))
     ·rw[e1,e2]
    ·obtain⟨k',e1,e2⟩:=cO e;rcases e2 with e2|⟨e2,e3⟩
     ·rw[e1,e2]
     ·rw[e1,e2]
   exact nc scope.names [] x (PySem.mem_of_lookup this)
  VG:=λx c e=>by cases e
  hd:=I.ok.hd
  frames:=I.ok.frames
  PN:=.inl rfl
  Wc:=λb hb=>⟨λz=>by
    obtain⟨o,e⟩:=ho b hb;have hlt:=cH e;rw[z]at hlt;exact oP _ hlt,λx c e=>(hf b hb).2.2.2.2.1 x c (hcl x c e)⟩
  bs:=I.bs
  Hn:=zc I.ok.Hn I.sz
  Bz:=λb o e hb=>by
   rcases (hf b hb).2.2.2.1 with z|z
   ·exact I.ok.Bz b o e z
   ·exact absurd (g8 (cH e) (zc I.ok.Hn z)) (oP _)
  zy:=λb hb z=>(i_.mp (PN b z)).elim (hf b hb).2.1 (hf b hb).2.2.1
  ig:=I.stack
  PH:=I.j_ }
 refine⟨ok,rfl,I.bare,Un.kept kp,⟨_,ns,λi x v h1 h2 h3=>?_⟩,λx c e=>?_,hC,λx c e=>I.eD x c (hcl x c e),λp hp=>?_,I.aN.kept kp,?_⟩
 ·have hk:k<=i:=by
   refine Nat.le_of_not_lt λz=>?_;unfold eh at h2;rw[Wi (by simpa using z),List.getElem?_replicate,if_pos z]at h2;cases h2
  obtain⟨e1,j,e2,e3⟩:=B.slots i x hk h1;have e4:σ[j]?=some (some v):=by
   unfold eh at h2;rw[SE (by simpa using hk),List.length_replicate,List.getElem?_map,e2]at h2;have h2:some (σ[j]?).join=some (some v):=h2;injection h2 with h2;cases e:σ[j]? with
   |none=>rw[e]at h2;cases h2
   |some o=>rw[e]at h2;rw[show o=some v from h2]
  have kf:=B.free (x,.free) (PySem.mem_of_lookup e1) rfl;obtain⟨m,hn,hl⟩:=I.loc;obtain⟨u,ru,lk⟩:=hl j x v e3 e4 (.inr kf);refine⟨u,ru,.inr ⟨?_,?_⟩⟩
  ·have h3:(relabel scope X.env).names.lookup x=some .local\/(relabel scope X.env).names.lookup x=some .cell\/(relabel scope X.env).names.lookup x=some .free:=h3;rcases h3 with z|z
   ·obtain⟨k',q1,q2⟩:=cO z;rw[e1]at q1;injection q1 with q1;subst q1;rcases q2 with q2|⟨_,q2⟩<;>cases q2
   ·exact z
  ·obtain⟨c,hc⟩:=nc (env:=X.env) scope.names [] x (PySem.mem_of_lookup e1);refine⟨c,hc,?_⟩;rcases lk with ⟨z,_⟩|⟨_,c',ec,ic⟩
   ·rcases kf with y|y<;>(rw[z]at y;cases y)
   ·rw[hcl x c hc]at ec;injection ec with ec;subst ec;exact ic.keeps kp
 ·obtain⟨v,q⟩:=I.cell x c (hcl x c e);exact⟨v,q.keeps kp⟩
 ·obtain⟨p1,p2,p3,p4,p5⟩:=I.pin p ((fY.mp hp).elim (λz=>BP _ z) λz=>absurd z (by simp));refine⟨kp _ _ p1,p2,λz=>?_,λz=>(i_.mp (PN _ z)).elim p3 p4,p5⟩;have hlt:=cH p1;rw[z]at hlt;exact oP _ hlt
 ·show(eh k fm σ).length=N'.length;unfold eh;rw[ij,List.length_replicate,aS,B.len]
theorem Al{X:Cx}{elt iter tg:Expr}{ifs:List Expr}{scope:Scope}{pos:Pos}{g:TG}{tt:TT}{te:TE}{J:It}{fp:List Addr}{it D:Addr}{tn:Nat->Heap->Prop}{σ0:St}{H3:Hp}{s4:Shared}{Q:VK}{R:Result->Shared->Prop}{W:Nat->Nat->List V->Hp->Prop}{m0:Nat}
  (hx:X.xe=λ_ _=>False) (hc:X.calm=true) (T:Turn X.prog X.w X.K tg J fp it tn) (stat:∀{H':Hp},(∀b∈fp,H' b=none)->∀b∈fp,eO X [] H' b) (hg:PG X tg g) (ht:ZO X ifs tt) (he:PE X elt te)
  (turn:∀i m ys H2,W i m ys H2->H2 D=some (.lst ys)/\ys.length<sizeLine/\((J.stop i H2/\Q (.ref D) H2)\/(J.go i H2/\∃N:List V->Hp->Prop,(∀ys' H',N ys' H'->∃m',m'<m/\W (i+1) m' ys' H')/\∀x H3,J.F7 i H2 x H3->
   g x σ0 H3 λσ3 H4=>Ext σ0 σ3/\tt σ3 H4 λb H5=>if b=true then te σ3 H5 λy H6=>H6 D=some (.lst ys)/\N (ys++[y]) (upd H6 D (.lst (ys++[y]))) else N ys H5)))
  (I4:Inv X [] σ0 H3 s4) (st4:tn 0 s4.heap) (fr4:∀b∈fp,H3 b=none) (w4:W 0 m0 [] H3)
  (hR:∀H' s',Inv X [] σ0 H' s'->Q (.ref D) H'->R (.ok .next) s'):
  codeAny (model X.prog X.w) X.A (.compLoop (.ListComp elt [⟨tg,iter,ifs,0⟩] scope pos) 0 (.ref it) (.ref D) X.env) R s4:=by
 refine wo (λn s'=>∃i ys H',Inv X [] σ0 H' s'/\tn i s'.heap/\(∀b∈fp,H' b=none)/\W i n ys H') ?_ m0 ⟨0,[],H3,I4,st4,fr4,w4⟩;rintro n s5 ⟨i,ys,H5,I5,st5,fr5,w5⟩;obtain⟨hD,hl,cs⟩:=turn i n ys H5 w5;rcases cs with ⟨stop,q⟩|⟨go,N,hN,step⟩
 ·refine bj (T.done X rfl rfl rfl hc i [] s5 σ0 H5 _ I5 (stat fr5) st5 stop) λr s6 ⟨hr,I6⟩=>?_;subst hr;exact hR H5 s6 I6 q
 ·refine bj (T.item X rfl rfl rfl hc i [] s5 σ0 H5 _ I5 (stat fr5) st5 go) λr s6 ⟨u,hr,h6⟩=>?_;subst hr;refine bj h6 λ_ s7 ⟨x,H7,I7,r7,y7,st7,fr7⟩=>?_;have I7':=I7.pinned (stat fr7) (T.obj _ _ st7);have again:∀{σ':St}{H':Hp}{s':Shared},Ext σ0 σ'->Inv X ([]++nk fp s7.heap) σ' H' s'->Inv X [] σ0 H' s'/\tn (i+1) s'.heap/\∀b∈fp,H' b=none:=λ{σ' H' s'} ex I'=>by
   refine⟨I'.iG.weak ex.len ex.get,T.keep _ _ _ st7 λb hb o e=>(I'.pin (b,o) (oQ _ (oQ _ (e_ hb e)))).1,λb hb=>?_⟩;obtain⟨o,e,d⟩:=T.obj _ _ st7 b hb;exact(I'.pin (b,o) (oQ _ (oQ _ (e_ hb e)))).2.1
  have w8:=hg _ s7 σ0 H7 x u _ I7' r7 (step x H7 y7);rw[hx]at w8;refine bj w8 λ_ s8 ⟨σ8,H8,I8,ex8,q8⟩=>?_;have w9:=ht _ s8 σ8 H8 _ I8 q8;rw[hx]at w9;refine bj w9 λok s9 ⟨H9,I9,q9⟩=>?_;cases ok with
  |false=>
   obtain⟨m',hm,w'⟩:=hN _ _ q9;obtain⟨a1,a2,a3⟩:=again ex8 I9;exact⟨m',hm,i+1,ys,H9,a1,a2,a3,w'⟩
  |true=>
   have w10:=he _ s9 σ8 H9 _ I9 q9;rw[hx]at w10;refine bj w10 λy s10 ⟨yv,H10,I10,r10,hD10,n10⟩=>?_;obtain⟨m',hm,w'⟩:=hN _ _ n10;have w11:=pf (X:=X) _ s10 σ8 H10 (.ref D) [yv] (.ref D) [y] (λv H'=>v=.bI/\H'=upd H10 D (.lst (ys++[yv]))) I10 rfl (.cons r10 .nil) ⟨D,ys,yv,rfl,rfl,hD10,hl,rfl,rfl⟩;rw[hx]at w11;refine bj w11 λ_ s11 ⟨_,H11,I11,_,_,e11⟩=>?_;subst e11;obtain⟨a1,a2,a3⟩:=again ex8 I11;exact⟨m',hm,i+1,_,_,a1,a2,a3,w'⟩
theorem gG{scope:Scope}(B:gk X N' k fm scope)(hc:X.calm=true)(hi:PI X tg iter wi)
  (hb:∀fp s H,PG (F8 X N' scope fp s H) tg g/\ZO (F8 X N' scope fp s H) ifs tt/\PE (F8 X N' scope fp s H) elt te)
  (hs:∀x,foldedSetIterable iter X.env x=pure x:=by intro _;rfl):PE X (.ListComp elt [⟨tg,iter,ifs,0⟩] scope pos) (oo k fm wi g tt te):=by
 intro pins s σ H Q I h;have hfree:∀x∈scope.names,x.2=.free->∃c,X.env.cells.lookup x.1=some c:=λx hx hk=>I.ok.has x.1 (B.free x hx hk);rw[eval_ListComp];refine wpAny_comprehension_free (use:=none) rfl hs (gY hfree) B.kind B.names (bj (hi pins s σ H _ I h) λv s1 h1=>bj h1 λitv s2 h2=>?_);obtain⟨it,fp,tn,J,H2,e,I2,T,st2,f2,h2⟩:=h2;subst e;obtain⟨W,⟨m0,w0⟩,turn⟩:=h2 s2.heap.objs.size I2.fresh;refine Hk (wpAny_newFunctionEnv B.Bl (by intro y hy;simp at hy) (λh4 hns4 hsb4=>?_) B.kind);have I3:=I2.UY (its:=[]) (ys:=[]) (t':=s2.toks) .nil (i8 _);have hf3:∀b∈fp,eO X pins (upd H2 s2.heap.objs.size (.lst [])) b:=λb hb=>by
  obtain⟨o,e,_⟩:=T.obj _ _ st2 b hb;refine⟨?_,(f2 b hb).2⟩;rw[ae (λz=>oP _ (z▸cH e))];exact(f2 b hb).1
 have ho3:∀b∈fp,∃o,(s2.heap.push { cls:=.type "list", data:=.seq ([]:List Value).toArray }).get? b=some o:=λb hb=>by
  obtain⟨o,e,_⟩:=T.obj _ _ st2 b hb;exact⟨o,dM _ e⟩
 have kp4:∀b o,(s2.heap.push { cls:=.type "list", data:=.seq ([]:List Value).toArray }).get? b=some o->h4.get? b=some o:=λb o e=>
  hsb4.extBut b o (λz=>oP _ (z▸cH e)) (dM _ e)
 have I4:=I3.block (fp:=fp) (h':=h4) (tk:=s2.toks+([]:List (Str×Value)).length) B hf3 ho3 hns4 kp4;generalize hs3:({ s2 with heap:=s2.heap.push { cls:=.type "list", data:=.seq ([]:List Value).toArray },toks:=s2.toks }:Shared)=s3 at *;obtain⟨hg,ht,he⟩:=hb fp s3 (upd H2 s2.heap.objs.size (.lst []));have st4:tn 0 h4:=T.keep _ _ _ st2 λb hb o e=>kp4 b o (dM _ e);have stat:∀{H':Hp},(∀b∈fp,H' b=none)->∀b∈fp,eO (F8 X N' scope fp s3 (upd H2 s2.heap.objs.size (.lst []))) [] H' b:=λ{H'} hn b hb=>by
  obtain⟨f0,f1,f3,f4,f5,f6⟩:=hf3 b hb;obtain⟨g1,g2⟩:=I4.ok.Wc b hb;exact⟨hn b hb,g1,I4.ok.zy b hb,.inl hb,g2,λp hp=>f6 p ((fY.mp hp).elim (λz=>BP _ z) λz=>absurd z (by simp))⟩
 have loop:codeAny (model X.prog X.w) X.A (.compLoop (.ListComp elt [⟨tg,iter,ifs,0⟩] scope pos) 0 (.ref it) (.ref s2.heap.objs.size) (compEnvC scope (jM X.env scope.names []) s3.heap.objs.size X.env))
   (compPost (model X.prog X.w) X.A X.xe none (EP X pins σ Q) (.ref s2.heap.objs.size) s3.heap.objs.size) { s3 with heap:=h4,toks:=s2.toks+([]:List (Str×Value)).length }:=by
  refine Al (X:=F8 X N' scope fp s3 (upd H2 s2.heap.objs.size (.lst []))) (D:=s2.heap.objs.size) (Q:=Q) (W:=W) (m0:=m0) rfl hc T stat hg ht he turn I4 st4 (λb hb=>(hf3 b hb).1) w0 ?_;intro H' s' I' q;obtain⟨m,hn,_⟩:=I'.loc;refine⟨m,hn,λh'' hs''=>?_⟩;have hC:s3.heap.get? s3.heap.objs.size=none:=by
   cases e:s3.heap.get? s3.heap.objs.size with
   |none=>rfl
   |some o=>exact absurd (cH e) (oP _)
  have u:Un (i9 X.stack) fp (upd H2 s2.heap.objs.size (.lst [])) H' s3.heap h'':=Un.tail I'.base (λb o hb e=>hs''.extBut b o hb e) hC;refine⟨.ref s2.heap.objs.size,H',?_,rfl,q⟩;refine I3.oI (s':={ s' with heap:=h'' }) (ch:=fp) I'.os u (I'.aN.tail (λb o hb e=>hs''.extBut b o hb e) I'.free) I'.bare λb hb=>?_;obtain⟨f0,f1,f3,f4,f5,f6⟩:=hf3 b hb;exact⟨f4,f1,f5,f6⟩
 subst hs3;exact codeAny_compStart_list loop (T.self X.A 0 _ _ _ st4 loop)
end
noncomputable def Its(z:Str):It:=⟨λi _=>i<z.cps.size,λi H x H'=>H'=H/\∃c,z.cps[i]?=some c/\x=.str ⟨#[c]⟩,λi _=>z.cps.size<=i⟩
section
variable{X:Cx}{tg:Expr}
def Yj(tl:TE):TI:=λσ H R=>tl σ H λx H1=>∃z,x=.str z/\R (Its z) H1
end
section
variable{X:Cx}
noncomputable def acE:V->Option Int->Option Int->Hp->VK->Prop:=λx lo hi H Q=>∃z,x=.str z/\z.length<=sizeLine/\Q (.str (Txt.slice z lo hi)) H
noncomputable def acG(K:Wf):List V->Hp->VK->Prop:=λxs H Q=>∃(a:Addr) (bs:List Bool),xs=[.ref a]/\aI K H a (bs.map V.bl)/\Q (.bl (bs.all id)) H
noncomputable def ZS(K:Wf):List V->Hp->VK->Prop:=λxs H Q=>∃x n t b,xs=[x,.ty n]/\hU K H x t/\kitOne K t (.type n)=some b/\Q (.bl b) H
theorem MC:cS X (.builtin "isinstance") (ZS X.K):=by
 intro pins s σ H xs us Q I r h;obtain⟨x,n,t,b,rfl,ty,e,q⟩:=h;obtain⟨u,u2,rfl,ru,ru2⟩:=vals2 r;cases ru2;exact jA I ru ty e λtk=>⟨.bl b,H,I.tok tk,rfl,q⟩
noncomputable def SV(K:Wf):List V->Hp->VK->Prop:=λxs H Q=>∃x C t b,xs=[x,.ref C]/\hU K H x t/\kitOne K t (.ref C)=some b/\Q (.bl b) H
theorem Gz:cS X (.builtin "isinstance") (SV X.K):=by
 intro pins s σ H xs us Q I r h;obtain⟨x,n,t,b,rfl,ty,e,q⟩:=h;obtain⟨u,u2,rfl,ru,ru2⟩:=vals2 r;cases ru2;exact jA I ru ty e λtk=>⟨.bl b,H,I.tok tk,rfl,q⟩
def Rv(K:Wf):R2:=λx y H Q=>∃l b xs zs,x=.ref l/\y=.ref b/\aI K H l xs/\aI K H b zs/\xs.length+zs.length<=sizeLine/\∀p,H p=none->Q (.ref p) (upd H p (.lst (xs++zs)))
theorem Qx:ir X (binaryOp .Add) (Rv X.K):=by
 intro pins s σ H x y v u Q I rx ry h;obtain⟨l,b,xs,zs,rfl,rfl,hH,hB,hz,q⟩:=h;cases rx;cases ry;obtain⟨vs,r,p,z⟩:=I.list hH;obtain⟨ws,r2,p2,z2⟩:=I.list hB;have l1:=r.length;have l2:=r2.length;obtain⟨⟨cls,dd,data,sl⟩,n,ho,hc,hdd,hd⟩:=p;obtain⟨⟨cls2,dd2,data2,sl2⟩,n2,ho2,hc2,hdd2,hd2⟩:=p2;simp only at hc hd hc2 hd2;subst hc hd hc2 hd2;have e:vs.toArray++ws.toArray=(vs++ws).toArray:=by simp
 refine concat_meets ⟨_,ho,rfl⟩ ⟨_,ho2,rfl⟩ noFill_list_add seq_list_add PySem.F.slot_list_add PySem.F.entry_list_add (PySem.F.args_list_add_2 _ _) (list_addW l b vs.toArray ws.toArray n n2 dd dd2 sl sl2 (by simp;omega)) ⟨ho,ho2,?_⟩;rw[e];exact⟨.ref _,_,I.UY (t':=s.toks) (r.append r2) (by rw[ij];omega),rfl,q _ I.fresh⟩
end
set_option genInjectivity true in
inductive Slots (X:Cx) (scope:Scope):List Str->List Nat->Prop
 |nil:Slots X scope [] []
 |cons {x:Str}{j:Nat}{xs:List Str}{js:List Nat}(h1:scope.names.lookup x=some .free) (h2:X.env.kindOf x=some .cell\/X.env.kindOf x=some .free) (h3:X.N[j]?=some x) (r:Slots X scope xs js):Slots X scope (x::xs) (j::js)
theorem Slots.len{X:Cx}{scope:Scope}:∀{xs:List Str}{js:List Nat},Slots X scope xs js->xs.length=js.length
 |_,_,.nil=>rfl
 |_,_,.cons _ _ _ r=>by simp[r.len]
theorem Slots.kind{scope:Scope}:∀{xs:List Str}{js:List Nat},Slots X scope xs js->∀x∈xs,X.env.kindOf x=some .cell\/X.env.kindOf x=some .free
 |_,_,.nil,x,h=>absurd h (by simp)
 |_,_,.cons _ h2 _ r,x,h=>by
  rcases i_.mp h with e|e
  ·subst e;exact h2
  ·exact r.kind x e
theorem Slots.get{X:Cx}{scope:Scope}:∀{xs:List Str}{js:List Nat},Slots X scope xs js->∀(i:Nat) (x:Str),xs[i]?=some x->scope.names.lookup x=some .free/\∃j,js[i]?=some j/\X.N[j]?=some x
 |_,_,.nil,i,x,h=>by simp at h
 |_,_,.cons h1 _ h3 r,0,x,h=>by
  simp only[List.getElem?_cons_zero,Option.some.injEq]at h;subst h;exact⟨h1,_,by simp,h3⟩
 |_,_,.cons _ _ _ r,i+1,x,h=>by simpa using r.get i x (by simpa using h)
theorem u5{scope:Scope}(kind:scope.kind=.function)(h1:∀y∈scope.names,y.2≠.cell)(h2:∀y∈scope.names,y.2=.local->scope.names.lookup y.1=some .local)
  (h3:∀y∈scope.names,y.2=.free->y.1∈fr) (S:Slots X scope fr fm):gk X (own++fr) own.length fm scope:=
 ⟨kind,h1,h2,λy hy hk=>S.kind y.1 (h3 y hy hk),by rw[ij,S.len],λi x hi h=>by
  rw[SE hi]at h;exact S.get _ x h⟩
section
variable{X:Cx}
end
theorem Bp{lo:Int}{n:Nat}{g:TG}{tt:TT}{te:TE}{σ0:St}{H:Hp}{D:Addr}{Q:VK}(hz:n<sizeLine)(Pv:Nat->List V->Hp->Prop)(h0:Pv 0 [] (upd H D (.lst [])))
  (hl:∀i ys H,i<=n->Pv i ys H->H D=some (.lst ys)/\ys.length<=i)
  (hs:∀i ys H,i<n->Pv i ys H->g (.int (lo+i)) σ0 H λσ3 H4=>Ext σ0 σ3/\tt σ3 H4 λb H5=>if b=true then te σ3 H5 λy H6=>H6 D=some (.lst ys)/\Pv (i+1) (ys++[y]) (upd H6 D (.lst (ys++[y]))) else Pv (i+1) ys H5)
  (hd:∀ys H,Pv n ys H->Q (.ref D) H):
  ∃W:Nat->Nat->List V->Hp->Prop,(∃m,W 0 m [] (upd H D (.lst [])))/\∀i m ys H2,W i m ys H2->H2 D=some (.lst ys)/\ys.length<sizeLine/\(((GK lo n).stop i H2/\Q (.ref D) H2)\/((GK lo n).go i H2/\∃N:List V->Hp->Prop,(∀ys' H',N ys' H'->∃m',m'<m/\W (i+1) m' ys' H')/\∀x H3,(GK lo n).F7 i H2 x H3->
   g x σ0 H3 λσ3 H4=>Ext σ0 σ3/\tt σ3 H4 λb H5=>if b=true then te σ3 H5 λy H6=>H6 D=some (.lst ys)/\N (ys++[y]) (upd H6 D (.lst (ys++[y]))) else N ys H5)):=by
 refine⟨λi m ys H=>m=n - i/\i<=n/\Pv i ys H,⟨n,by simp,Nat.zero_le _,h0⟩,?_⟩;rintro i m ys H2 ⟨rfl,hi,p⟩;obtain⟨l1,l2⟩:=hl i ys H2 hi p;refine⟨l1,by omega,?_⟩;by_cases hlt:i<n
 ·refine .inr ⟨hlt,Pv (i+1),λys' H' p'=>⟨_,(by omega:n - (i+1)<n - i),rfl,hlt,p'⟩,λx H3 y=>?_⟩;obtain⟨e,ex⟩:=y;subst e ex;exact hs i ys _ hlt p
 ·have e:i=n:=by omega
  subst e;exact .inl ⟨bA _,hd ys H2 p⟩
theorem GA{K:Wf}{a:Addr}{xs:List V}{g:TG}{tt:TT}{te:TE}{σ0:St}{H:Hp}{D:Addr}{Q:VK}(hz:xs.length<sizeLine)(Pv:Nat->List V->Hp->Prop)(h0:Pv 0 [] (upd H D (.lst [])))
  (hl:∀i ys H,i<=xs.length->Pv i ys H->aI K H a xs/\H D=some (.lst ys)/\ys.length<=i)
  (hs:∀i x ys H,xs[i]?=some x->Pv i ys H->g x σ0 H λσ3 H4=>Ext σ0 σ3/\tt σ3 H4 λb H5=>if b=true then te σ3 H5 λy H6=>H6 D=some (.lst ys)/\Pv (i+1) (ys++[y]) (upd H6 D (.lst (ys++[y]))) else Pv (i+1) ys H5)
  (hd:∀ys H,Pv xs.length ys H->Q (.ref D) H):
  ∃W:Nat->Nat->List V->Hp->Prop,(∃m,W 0 m [] (upd H D (.lst [])))/\∀i m ys H2,W i m ys H2->H2 D=some (.lst ys)/\ys.length<sizeLine/\(((Kr K a).stop i H2/\Q (.ref D) H2)\/((Kr K a).go i H2/\∃N:List V->Hp->Prop,(∀ys' H',N ys' H'->∃m',m'<m/\W (i+1) m' ys' H')/\∀x H3,(Kr K a).F7 i H2 x H3->
   g x σ0 H3 λσ3 H4=>Ext σ0 σ3/\tt σ3 H4 λb H5=>if b=true then te σ3 H5 λy H6=>H6 D=some (.lst ys)/\N (ys++[y]) (upd H6 D (.lst (ys++[y]))) else N ys H5)):=by
 refine⟨λi m ys H=>m=xs.length - i/\i<=xs.length/\Pv i ys H,⟨xs.length,by simp,Nat.zero_le _,h0⟩,?_⟩;rintro i m ys H2 ⟨rfl,hi,p⟩;obtain⟨l0,l1,l2⟩:=hl i ys H2 hi p;refine⟨l1,by omega,?_⟩;by_cases hlt:i<xs.length
 ·refine .inr ⟨⟨xs,xs[i],l0,by simp[hlt]⟩,Pv (i+1),λys' H' p'=>⟨_,(by omega:xs.length - (i+1)<xs.length - i),rfl,hlt,p'⟩,λx H3 y=>?_⟩;obtain⟨e,y⟩:=y;subst e;exact hs i x ys _ (y xs l0) p
 ·have e:i=xs.length:=by omega
  subst e;exact .inl ⟨⟨xs,l0,bA _⟩,hd ys H2 p⟩
def rX(g:TG)(tb:TS)(D:Ends)(σ:St)(J:It)(H1:Hp):Prop:=∃W:Nat->Nat->St->Hp->Prop,(∃m,W 0 m σ H1)/\∀i m σ H,W i m σ H->
 (J.stop i H/\D.nx σ H)\/(J.go i H/\∃N:St->Hp->Prop,(∀σ' H',N σ' H'->∃m',m'<m/\W (i+1) m' σ' H')/\∀x H',J.F7 i H x H'->g x σ H' λσ2 H2=>tb { D with nx:=N,ct:=N,bk:=D.nx } σ2 H2)
def h_(K:Wf)(g:TG)(tb:TS)(D:Ends)(σ:St):VK:=λx H1=>∃a,x=.ref a/\(∃xs,aI K H1 a xs)/\rX g tb D σ (Kr K a) H1
def Q0(K:Wf)(g:TG)(tb:TS)(D:Ends)(σ:St):VK:=λx H1=>∃a,x=.ref a/\(∃xs,bB K H1 a xs)/\rX g tb D σ (Uw K a) H1
def aaf(g:TG)(tb:TS)(D:Ends)(σ:St):VK:=λx H1=>∃z,x=.str z/\rX g tb D σ (Its z) H1
noncomputable def pd(g:TG)(tb:TS)(D:Ends)(σ:St):List V->Hp->Prop:=λvs H1=>∃j:Int,vs=[.int j] /\ -(2 ^ 62)<=j/\j<2 ^ 62/\rX g tb D σ (GK 0 j.toNat) H1
noncomputable def WU(g:TG)(tb:TS)(D:Ends)(σ:St):List V->Hp->Prop:=λvs H1=>∃i j:Int,vs=[.int i,.int j]/\(-(2 ^ 62)<=i/\i<2 ^ 62 /\ -(2 ^ 62)<=j/\j<2 ^ 62)/\rX g tb D σ (GK i (j - i).toNat) H1
section
variable{K:Wf}{te:TE}{ta:TA}{g:TG}{tb:TS}{D:Ends}{σ:St}{H:Hp}
theorem Wj:nU (zt K te) g tb D σ H=te σ H (h_ K g tb D σ):=rfl
theorem Y_:nU (QW K te) g tb D σ H=te σ H (Q0 K g tb D σ):=rfl
theorem ZI:nU (Yj te) g tb D σ H=te σ H (aaf g tb D σ):=rfl
theorem V4:nU (Mj ta) g tb D σ H=ta σ H (pd g tb D σ):=rfl
theorem V5:nU (Wq ta) g tb D σ H=ta σ H (WU g tb D σ):=rfl
theorem h_.of{a:Addr}{xs:List V}(Pv:Nat->St->Hp->Prop)(h0:Pv 0 σ H)(hl:∀i σ H,i<=xs.length->Pv i σ H->aI K H a xs)
  (hs:∀i x σ H,xs[i]?=some x->Pv i σ H->g x σ H λσ2 H2=>tb { D with nx:=Pv (i+1),ct:=Pv (i+1),bk:=D.nx } σ2 H2) (hd:∀σ H,Pv xs.length σ H->D.nx σ H):h_ K g tb D σ (.ref a) H:=
 ⟨a,rfl,⟨xs,hl 0 _ _ (i8 _) h0⟩,KC Pv h0 hl hs hd⟩
theorem Q0.of{a:Addr}{xs:List V}(Pv:Nat->St->Hp->Prop)(h0:Pv 0 σ H)(hl:∀i σ H,i<=xs.length->Pv i σ H->bB K H a xs)
  (hs:∀i x σ H,xs[i]?=some x->Pv i σ H->g x σ H λσ2 H2=>tb { D with nx:=Pv (i+1),ct:=Pv (i+1),bk:=D.nx } σ2 H2) (hd:∀σ H,Pv xs.length σ H->D.nx σ H):Q0 K g tb D σ (.ref a) H:=
 ⟨a,rfl,⟨xs,hl 0 _ _ (i8 _) h0⟩,Qc Pv h0 hl hs hd⟩
theorem pd.of{n:Int}(h1:n<2 ^ 62)(h2 : -(2 ^ 62)<=n)(Pv:Nat->St->Hp->Prop)(h0:Pv 0 σ H)
  (hs:∀i σ H,i<n.toNat->Pv i σ H->g (.int (i:Int)) σ H λσ2 H2=>tb { D with nx:=Pv (i+1),ct:=Pv (i+1),bk:=D.nx } σ2 H2) (hd:∀σ H,Pv n.toNat σ H->D.nx σ H):pd g tb D σ [.int n] H:=
 ⟨n,rfl,h2,h1,FZ (n:=n.toNat) Pv h0 (λi σ H hi p=>by
  have e:(0:Int)+(i:Int)=i:=by omega
  rw[e];exact hs i σ H hi p) hd⟩
end
def Aa(g:TG)(tt:TT)(te:TE)(σ0:St)(Q:VK)(J:It)(H1:Hp):Prop:=∀DD,H1 DD=none->∃W:Nat->Nat->List V->Hp->Prop,
 (∃m,W 0 m [] (upd H1 DD (.lst [])))/\∀i m ys H2,W i m ys H2->H2 DD=some (.lst ys)/\ys.length<sizeLine/\((J.stop i H2/\Q (.ref DD) H2)\/(J.go i H2/\∃N:List V->Hp->Prop,(∀ys' H',N ys' H'->∃m',m'<m/\W (i+1) m' ys' H')/\∀x H3,J.F7 i H2 x H3->
  g x σ0 H3 λσ3 H4=>Ext σ0 σ3/\tt σ3 H4 λb H5=>if b=true then te σ3 H5 λy H6=>H6 DD=some (.lst ys)/\N (ys++[y]) (upd H6 DD (.lst (ys++[y]))) else N ys H5))
def fF(K:Wf)(g:TG)(tt:TT)(te:TE)(σ0:St)(Q:VK):VK:=λx H1=>∃a,x=.ref a/\(∃xs,aI K H1 a xs)/\Aa g tt te σ0 Q (Kr K a) H1
def Y4(K:Wf)(g:TG)(tt:TT)(te:TE)(σ0:St)(Q:VK):VK:=λx H1=>∃a,x=.ref a/\(∃xs,bB K H1 a xs)/\Aa g tt te σ0 Q (Uw K a) H1
def Zy(g:TG)(tt:TT)(te:TE)(σ0:St)(Q:VK):VK:=λx H1=>∃z,x=.str z/\Aa g tt te σ0 Q (Its z) H1
noncomputable def zl(g:TG)(tt:TT)(te:TE)(σ0:St)(Q:VK):List V->Hp->Prop:=λvs H1=>∃j:Int,vs=[.int j] /\ -(2 ^ 62)<=j/\j<2 ^ 62/\Aa g tt te σ0 Q (GK 0 j.toNat) H1
section
variable{K:Wf}{k:Nat}{fm:List Nat}{tl te:TE}{ta:TA}{g:TG}{tt:TT}{σ σ0:St}{H H1:Hp}{Q:VK}
theorem US:oo k fm (zt K tl) g tt te σ H Q=tl σ H (fF K g tt te (eh k fm σ) Q):=rfl
theorem Wl:oo k fm (QW K tl) g tt te σ H Q=tl σ H (Y4 K g tt te (eh k fm σ) Q):=rfl
theorem Wa:oo k fm (Yj tl) g tt te σ H Q=tl σ H (Zy g tt te (eh k fm σ) Q):=rfl
theorem TB:oo k fm (Mj ta) g tt te σ H Q=ta σ H (zl g tt te (eh k fm σ) Q):=rfl
theorem fF.of{a:Addr}{xs:List V}(hz:xs.length<sizeLine)(hx:aI K H1 a xs)(Pv:Addr->Nat->List V->Hp->Prop)(h0:∀D,H1 D=none->Pv D 0 [] (upd H1 D (.lst [])))
  (hl:∀D i ys H',H1 D=none->i<=xs.length->Pv D i ys H'->aI K H' a xs/\H' D=some (.lst ys)/\ys.length<=i)
  (hs:∀D i x ys H',H1 D=none->xs[i]?=some x->Pv D i ys H'->g x σ0 H' λσ3 H4=>Ext σ0 σ3/\tt σ3 H4 λb H5=>if b=true then te σ3 H5 λy H6=>H6 D=some (.lst ys)/\Pv D (i+1) (ys++[y]) (upd H6 D (.lst (ys++[y]))) else Pv D (i+1) ys H5)
  (hd:∀D ys H',H1 D=none->Pv D xs.length ys H'->Q (.ref D) H'):fF K g tt te σ0 Q (.ref a) H1:=
 ⟨a,rfl,⟨xs,hx⟩,λD hD=>GA hz (Pv D) (h0 D hD) (λi ys H'=>hl D i ys H' hD) (λi x ys H'=>hs D i x ys H' hD) λys H'=>hd D ys H' hD⟩
theorem zl.of{n:Int}(h1:n<16777216)(h2 : -(2 ^ 62)<=n)(Pv:Addr->Nat->List V->Hp->Prop)(h0:∀D,H1 D=none->Pv D 0 [] (upd H1 D (.lst [])))
  (hl:∀D i ys H',H1 D=none->i<=n.toNat->Pv D i ys H'->H' D=some (.lst ys)/\ys.length<=i)
  (hs:∀D i ys H',H1 D=none->i<n.toNat->Pv D i ys H'->g (.int (i:Int)) σ0 H' λσ3 H4=>Ext σ0 σ3/\tt σ3 H4 λb H5=>if b=true then te σ3 H5 λy H6=>H6 D=some (.lst ys)/\Pv D (i+1) (ys++[y]) (upd H6 D (.lst (ys++[y]))) else Pv D (i+1) ys H5)
  (hd:∀D ys H',H1 D=none->Pv D n.toNat ys H'->Q (.ref D) H'):zl g tt te σ0 Q [.int n] H1:=
 ⟨n,rfl,h2,by omega,λD hD=>Bp (lo:=0) (n:=n.toNat) (by rw[sizeLine_eq];omega) (Pv D) (h0 D hD) (λi ys H'=>hl D i ys H' hD) (λi ys H' hi p=>by
  have e:(0:Int)+(i:Int)=i:=by omega
  rw[e];exact hs D i ys H' hD hi p) λys H'=>hd D ys H' hD⟩
end
set_option genInjectivity true in
inductive D where
 |bI|bl (b:Bool)|int (i:Int)|str (z:Str)|lst (xs:List D)|tup (xs:List D)
mutual
noncomputable def Rep(K:Wf)(H:Hp):D->V->Prop
 |.bI,v=>v=.bI
 |.bl b,v=>v=.bl b
 |.int i,v=>v=.int i
 |.str z,v=>v=.str z
 |.lst ds,v=>∃a xs,v=.ref a/\aI K H a xs/\RepL K H ds xs
 |.tup ds,v=>∃a xs,v=.ref a/\bB K H a xs/\RepL K H ds xs
noncomputable def RepL(K:Wf)(H:Hp):List D->List V->Prop
 |[],xs=>xs=[]
 |d::ds,xs=>∃y ys,xs=y::ys/\Rep K H d y/\RepL K H ds ys
end
mutual
noncomputable def deq:D->D->Bool
 |.bI,.bI=>true
 |.bl a,.bl b=>a == b
 |.bl a,.int b=>(if a then 1 else 0) == b
 |.int a,.bl b=>a == (if b then 1 else 0)
 |.int a,.int b=>a == b
 |.str a,.str b=>a == b
 |.lst a,.lst b=>deqL a b
 |.tup a,.tup b=>deqL a b
 |_,_=>false
noncomputable def deqL:List D->List D->Bool
 |[],[]=>true
 |a::as,b::bs=>deq a b&&deqL as bs
 |_,_=>false
end
mutual
noncomputable def dep:D->Nat
 |.lst ds=>depL ds+1
 |.tup ds=>depL ds+1
 |_=>0
noncomputable def depL:List D->Nat
 |[]=>0
 |d::ds=>max (dep d) (depL ds)
end
mutual
theorem oB:∀d:D,deq d d=true
 |.bI=>rfl
 |.bl a=>by simp[deq]
 |.int a=>by simp[deq]
 |.str a=>by simp[deq]
 |.lst a=>by simp only[deq];exact eW a
 |.tup a=>by simp only[deq];exact eW a
theorem eW:∀ds:List D,deqL ds ds=true
 |[]=>rfl
 |d::ds=>by simp only[deqL,oB d,eW ds,Bool.and_self]
end
theorem RepL.len{K:Wf}{H:Hp}:∀{ds:List D}{xs:List V},RepL K H ds xs->ds.length=xs.length
 |[],xs,h=>by simp only[RepL]at h;subst h;rfl
 |d::ds,xs,h=>by
  simp only[RepL]at h;obtain⟨y,ys,rfl,_,r⟩:=h;simp[r.len]
noncomputable def eAt(ds es:List D)(j:Nat):Bool:=match ds[j]?,es[j]? with
 |some d,some e=>deq d e
 |_,_=>true
theorem i4:∀(ds es:List D),((List.range (min ds.length es.length)).all (eAt ds es)&&ds.length == es.length)=deqL ds es
 |[],[]=>by simp[deqL]
 |[],e::es=>by simp[deqL]
 |d::ds,[]=>by simp[deqL]
 |d::ds,e::es=>by
  have ih:=i4 ds es;have h1:min (d::ds).length (e::es).length=min ds.length es.length+1:=by simp only[List.length_cons];omega
  rw[h1,List.range_succ_eq_map,List.all_cons,List.all_map];have h2:(eAt (d::ds) (e::es) ∘ Nat.succ)=eAt ds es:=by funext j;simp[eAt]
  have h3:eAt (d::ds) (e::es) 0=deq d e:=by simp[eAt]
  rw[h2,h3];simp only[deqL,<-ih,List.length_cons,Bool.and_assoc];congr 2;simp
section
variable{X:Cx}{pins:Lo}{σ:St}{H:Hp}{s:Shared}
mutual
theorem QI(I:Inv X pins σ H s):∀(d e:D) (x:V),Rep X.K H d x->Rep X.K H e x->d=e
 |d,e,x,hd,he=>by
  cases d with
  |bI=>
   simp only[Rep]at hd;subst hd;cases e<;>simp only[Rep]at he<;>first|rfl|(obtain⟨a,xs,z,_⟩:=he;cases z;done)|(cases he;done)
  |bl b=>
   simp only[Rep]at hd;subst hd;cases e<;>simp only[Rep]at he<;>first|(obtain⟨a,xs,z,_⟩:=he;cases z;done)|(cases he;rfl)|(cases he;done)
  |int b=>
   simp only[Rep]at hd;subst hd;cases e<;>simp only[Rep]at he<;>first|(obtain⟨a,xs,z,_⟩:=he;cases z;done)|(cases he;rfl)|(cases he;done)
  |str b=>
   simp only[Rep]at hd;subst hd;cases e<;>simp only[Rep]at he<;>first|(obtain⟨a,xs,z,_⟩:=he;cases z;done)|(cases he;rfl)|(cases he;done)
  |lst ds=>
   simp only[Rep]at hd;obtain⟨a,xs,rfl,hx,r⟩:=hd;cases e with
   |lst es=>
    simp only[Rep]at he;obtain⟨a',xs',z,hx',r'⟩:=he;cases z;have:=I.eZ hx hx';subst this;rw[fX I ds es xs r r']
   |tup es=>
    simp only[Rep]at he;obtain⟨a',xs',z,hx',r'⟩:=he;cases z
    exfalso
    obtain⟨_,_,p,_⟩:=I.list hx;obtain⟨_,_,q,_⟩:=I.tuple hx';obtain⟨o,n,e1,e2,_⟩:=p;obtain⟨o',e1',e2',_⟩:=q;rw[e1]at e1';cases e1';rw[e2]at e2';exact absurd e2' (by decide)
   |_=>simp only[Rep]at he;cases he
  |tup ds=>
   simp only[Rep]at hd;obtain⟨a,xs,rfl,hx,r⟩:=hd;cases e with
   |tup es=>
    simp only[Rep]at he;obtain⟨a',xs',z,hx',r'⟩:=he;cases z;have:=I.jh hx hx';subst this;rw[fX I ds es xs r r']
   |lst es=>
    simp only[Rep]at he;obtain⟨a',xs',z,hx',r'⟩:=he;cases z
    exfalso
    obtain⟨_,_,p,_⟩:=I.list hx';obtain⟨_,_,q,_⟩:=I.tuple hx;obtain⟨o,n,e1,e2,_⟩:=p;obtain⟨o',e1',e2',_⟩:=q;rw[e1]at e1';cases e1';rw[e2]at e2';exact absurd e2' (by decide)
   |_=>simp only[Rep]at he;cases he
theorem fX(I:Inv X pins σ H s):∀(ds es:List D) (xs:List V),RepL X.K H ds xs->RepL X.K H es xs->ds=es
 |[],es,xs,hd,he=>by
  simp only[RepL]at hd;subst hd;cases es with
  |nil=>rfl
  |cons e es=>simp only[RepL]at he;obtain⟨y,ys,z,_⟩:=he;cases z
 |d::ds,es,xs,hd,he=>by
  simp only[RepL]at hd;obtain⟨y,ys,rfl,r,rs⟩:=hd;cases es with
  |nil=>simp only[RepL]at he;cases he
  |cons e es=>
   simp only[RepL]at he;obtain⟨y',ys',z,r',rs'⟩:=he;cases z;rw[QI I d e y r r',fX I ds es ys rs rs']
end
theorem gK(p:IsTup h a its):h.IsTuple a its:=by
 obtain⟨o,e,c,n,d⟩:=p;exact⟨o,e,c,n,d⟩
mutual
theorem Qf(I:Inv X pins σ H s):∀(d e:D) (x y:V) (u v:Value) (A:Around),A.units+dep d<cLine->Rep X.K H d x->Rep X.K H e y->RelV x u->RelV y v->SeqAt.EqAt A s u v (deq d e)
 |.bI,e,x,y,u,v,A,hu,hd,he,rx,ry=>by
  have hu:A.units<cLine:=by omega
  simp only[Rep]at hd;subst hd;cases rx;cases e<;>simp only[Rep]at he
  ·subst he;cases ry;exact SeqAt.EqAt.same _
  ·subst he;cases ry;exact SeqAt.EqAt.none_bool _
  ·subst he;obtain⟨t,rfl⟩:=ry;exact SeqAt.EqAt.none_int _ _
  ·subst he;obtain⟨t,rfl⟩:=ry;exact SeqAt.EqAt.none_str _ _
  ·obtain⟨a,xs,rfl,hx,_⟩:=he;cases ry;obtain⟨_,_,p,_⟩:=I.list hx;exact SeqAt.EqAt.none_list p.isList hu
  ·obtain⟨a,xs,rfl,hx,_⟩:=he;cases ry;obtain⟨_,_,p,_⟩:=I.tuple hx;exact SeqAt.EqAt.none_tuple (gK p) hu
 |.bl b,e,x,y,u,v,A,hu,hd,he,rx,ry=>by
  have hu:A.units<cLine:=by omega
  simp only[Rep]at hd;subst hd;cases rx;cases e<;>simp only[Rep]at he
  ·subst he;cases ry;exact SeqAt.EqAt.bool_none _
  ·subst he;cases ry;exact SeqAt.EqAt.bool_bool _ _
  ·subst he;obtain⟨t,rfl⟩:=ry;exact SeqAt.EqAt.bool_int _ _ _
  ·subst he;obtain⟨t,rfl⟩:=ry;exact SeqAt.EqAt.bool_str _ _ _
  ·obtain⟨a,xs,rfl,hx,_⟩:=he;cases ry;obtain⟨_,_,p,_⟩:=I.list hx;exact SeqAt.EqAt.bool_list _ p.isList hu
  ·obtain⟨a,xs,rfl,hx,_⟩:=he;cases ry;obtain⟨_,_,p,_⟩:=I.tuple hx;exact SeqAt.EqAt.bool_tuple _ (gK p) hu
 |.int b,e,x,y,u,v,A,hu,hd,he,rx,ry=>by
  have hu:A.units<cLine:=by omega
  simp only[Rep]at hd;subst hd;obtain⟨t0,rfl⟩:=rx;cases e<;>simp only[Rep]at he
  ·subst he;cases ry;exact SeqAt.EqAt.int_none _ _
  ·subst he;cases ry;exact SeqAt.EqAt.int_bool _ _ _
  ·subst he;obtain⟨t,rfl⟩:=ry;exact SeqAt.EqAt.int_int _ _ _ _
  ·subst he;obtain⟨t,rfl⟩:=ry;exact SeqAt.EqAt.int_str _ _ _ _
  ·obtain⟨a,xs,rfl,hx,_⟩:=he;cases ry;obtain⟨_,_,p,_⟩:=I.list hx;exact SeqAt.EqAt.int_list _ _ p.isList hu
  ·obtain⟨a,xs,rfl,hx,_⟩:=he;cases ry;obtain⟨_,_,p,_⟩:=I.tuple hx;exact SeqAt.EqAt.int_tuple _ _ (gK p) hu
 |.str b,e,x,y,u,v,A,hu,hd,he,rx,ry=>by
  have hu:A.units<cLine:=by omega
  simp only[Rep]at hd;subst hd;obtain⟨t0,rfl⟩:=rx;cases e<;>simp only[Rep]at he
  ·subst he;cases ry;exact SeqAt.EqAt.str_none _ _
  ·subst he;cases ry;exact SeqAt.EqAt.str_bool _ _ _
  ·subst he;obtain⟨t,rfl⟩:=ry;exact SeqAt.EqAt.str_int _ _ _ _
  ·subst he;obtain⟨t,rfl⟩:=ry;exact SeqAt.EqAt.str_str _ _ _ _
  ·obtain⟨a,xs,rfl,hx,_⟩:=he;cases ry;obtain⟨_,_,p,_⟩:=I.list hx;exact SeqAt.EqAt.str_list _ _ p.isList hu
  ·obtain⟨a,xs,rfl,hx,_⟩:=he;cases ry;obtain⟨_,_,p,_⟩:=I.tuple hx;exact SeqAt.EqAt.str_tuple _ _ (gK p) hu
 |.lst ds,e,x,y,u,v,A,hu,hd,he,rx,ry=>by
  have hu0:A.units<cLine:=by omega
  simp only[dep]at hu;simp only[Rep]at hd;obtain⟨a,xs,rfl,hx,r⟩:=hd;cases rx;obtain⟨its,rv,p,hz⟩:=I.list hx;cases e<;>simp only[Rep]at he
  ·subst he;cases ry;exact SeqAt.EqAt.list_none p.isList hu0
  ·subst he;cases ry;exact SeqAt.EqAt.list_bool _ p.isList hu0
  ·subst he;obtain⟨t,rfl⟩:=ry;exact SeqAt.EqAt.list_int _ _ p.isList hu0
  ·subst he;obtain⟨t,rfl⟩:=ry;exact SeqAt.EqAt.list_str _ _ p.isList hu0
  ·rename_i es;obtain⟨b,ys,rfl,hy,r'⟩:=he;cases ry;obtain⟨its',rv',p',hz'⟩:=I.list hy;by_cases hab:a=b
   ·subst hab;have:=I.eZ hx hy;subst this;rw[fX I ds es xs r r',oB];exact SeqAt.EqAt.same _
   ·have l1:=r.len;have l2:=rv.length;have l3:=r'.len;have l4:=rv'.length;have key:=i4 ds es;simp only[deq];rw[<-key];by_cases hl:its.length=its'.length
    ·have:=SeqAt.EqAt.of_refs hab (SeqAt.RcAt.lists (e:=eAt ds es) p.isList p'.isList (by simpa using hl) hu0 (λj h1 h2=>by
      have q:=dU I ds es xs ys its its' A.in1 (by show A.units+1+depL ds<cLine;omega) r r' rv rv' j (by simpa using h1) (by simpa using h2);simpa using q))
     have e1:its.toArray.size=min ds.length es.length:=by rw[iC];omega
     rw[e1]at this;have e2:(ds.length == es.length)=true:=by simp;omega
     rw[e2,Bool.and_true];exact this
    ·have e2:(ds.length == es.length)=false:=by simp;omega
     rw[e2,Bool.and_false];exact SeqAt.EqAt.of_refs hab (SeqAt.RcAt.lists_lengths p.isList p'.isList (by simpa using hl) hu0)
  ·obtain⟨b,ys,rfl,hy,r'⟩:=he;cases ry;obtain⟨_,_,q,_⟩:=I.tuple hy;exact SeqAt.EqAt.list_tuple p.isList (gK q) hu0
 |.tup ds,e,x,y,u,v,A,hu,hd,he,rx,ry=>by
  have hu0:A.units<cLine:=by omega
  simp only[dep]at hu;simp only[Rep]at hd;obtain⟨a,xs,rfl,hx,r⟩:=hd;cases rx;obtain⟨its,rv,p,hz⟩:=I.tuple hx;cases e<;>simp only[Rep]at he
  ·subst he;cases ry;exact SeqAt.EqAt.tuple_none (gK p) hu0
  ·subst he;cases ry;exact SeqAt.EqAt.tuple_bool _ (gK p) hu0
  ·subst he;obtain⟨t,rfl⟩:=ry;exact SeqAt.EqAt.tuple_int _ _ (gK p) hu0
  ·subst he;obtain⟨t,rfl⟩:=ry;exact SeqAt.EqAt.tuple_str _ _ (gK p) hu0
  ·obtain⟨b,ys,rfl,hy,r'⟩:=he;cases ry;obtain⟨_,_,q,_⟩:=I.list hy;exact SeqAt.EqAt.tuple_list (gK p) q.isList hu0
  ·rename_i es;obtain⟨b,ys,rfl,hy,r'⟩:=he;cases ry;obtain⟨its',rv',p',hz'⟩:=I.tuple hy;by_cases hab:a=b
   ·subst hab;have:=I.jh hx hy;subst this;rw[fX I ds es xs r r',oB];exact SeqAt.EqAt.same _
   ·have l1:=r.len;have l2:=rv.length;have l3:=r'.len;have l4:=rv'.length;have key:=i4 ds es;simp only[deq];rw[<-key];have:=SeqAt.EqAt.of_refs hab (SeqAt.RcAt.tuples (e:=eAt ds es) (gK p) (gK p') hu0 (λj h1 h2=>by
      have q:=dU I ds es xs ys its its' A.in1 (by show A.units+1+depL ds<cLine;omega) r r' rv rv' j (by simpa using h1) (by simpa using h2);simpa using q))
    have e1:its.toArray.size=ds.length:=by rw[iC];omega
    have e2:its'.toArray.size=es.length:=by rw[iC];omega
    rw[e1,e2]at this;exact this
theorem dU(I:Inv X pins σ H s):∀(ds es:List D) (xs ys:List V) (us vs:List Value) (A:Around),A.units+depL ds<cLine->RepL X.K H ds xs->RepL X.K H es ys->Vals xs us->Vals ys vs->
  ∀(j:Nat) (h1:j<us.length) (h2:j<vs.length),SeqAt.EqAt A s us[j] vs[j] (eAt ds es j)
 |[],es,xs,ys,us,vs,A,hu,hd,he,rx,ry,j,h1,h2=>by
  simp only[RepL]at hd;subst hd;cases rx;exact absurd h1 (by simp)
 |d::ds,es,xs,ys,us,vs,A,hu,hd,he,rx,ry,j,h1,h2=>by
  simp only[depL]at hu;simp only[RepL]at hd;obtain⟨x,xs',rfl,rd,rds⟩:=hd;cases rx with
  |cons r0 rr=>
   cases es with
   |nil=>
    simp only[RepL]at he;subst he;cases ry;exact absurd h2 (by simp)
   |cons e es=>
    simp only[RepL]at he;obtain⟨y,ys',rfl,re,res⟩:=he;cases ry with
    |cons q0 qr=>
     cases j with
     |zero=>
      have:eAt (d::ds) (e::es) 0=deq d e:=by simp[eAt]
      rw[this];exact Qf I d e x y _ _ A (by omega) rd re r0 q0
     |succ j=>
      have:eAt (d::ds) (e::es) (j+1)=eAt ds es j:=by simp[eAt]
      rw[this];exact dU I ds es xs' ys' _ _ A (by omega) rds res rr qr j (by simpa using h1) (by simpa using h2)
end
def XG(K:Wf):R2:=λx y H Q=>∃ds es,((Rep K H (.lst ds) x/\Rep K H (.lst es) y)\/(Rep K H (.tup ds) x/\Rep K H (.tup es) y))/\depL ds<=20/\Q (.bl (deqL ds es)) H
theorem UK(hu:X.A.units+64<cLine):ir X (compareOp .Eq) (XG X.K):=by
 intro pins s σ H x y v u Q I rx ry h;obtain⟨ds,es,h,hdep,q⟩:=h;have hu0:X.A.units<cLine:=by omega
 have hin:X.A.in1.units+depL ds<cLine:=by show X.A.units+1+depL ds<cLine;omega
 have key:=i4 ds es;rcases h with ⟨h1,h2⟩|⟨h1,h2⟩
 ·simp only[Rep]at h1 h2;obtain⟨a,xs,rfl,hx,r⟩:=h1;obtain⟨b,ys,rfl,hy,r'⟩:=h2;cases rx;cases ry;obtain⟨its,rv,p,hz⟩:=I.list hx;obtain⟨its',rv',p',hz'⟩:=I.list hy;have l1:=r.len;have l2:=rv.length;have l3:=r'.len;have l4:=rv'.length;by_cases hl:its.length=its'.length
  ·refine SeqAt.eq_listAt (e:=eAt ds es) p.isList p'.isList (by simpa using hl) hu0 (λj h1 h2=>?_) ?_
   ·have q:=dU I ds es xs ys its its' X.A.in1 hin r r' rv rv' j (by simpa using h1) (by simpa using h2);simpa using q
   ·have e1:its.toArray.size=min ds.length es.length:=by rw[iC];omega
    have e2:(ds.length == es.length)=true:=by simp;omega
    rw[e2,Bool.and_true]at key;rw[e1,key];exact⟨.bl (deqL ds es),H,I,rfl,q⟩
  ·have e2:(ds.length == es.length)=false:=by simp;omega
   rw[e2,Bool.and_false]at key;rw[<-key]at q;exact SeqAt.eq_list_lengthsAt p.isList p'.isList (by simpa using hl) hu0 ⟨.bl false,H,I,rfl,q⟩
 ·simp only[Rep]at h1 h2;obtain⟨a,xs,rfl,hx,r⟩:=h1;obtain⟨b,ys,rfl,hy,r'⟩:=h2;cases rx;cases ry;obtain⟨its,rv,p,hz⟩:=I.tuple hx;obtain⟨its',rv',p',hz'⟩:=I.tuple hy;have l1:=r.len;have l2:=rv.length;have l3:=r'.len;have l4:=rv'.length;refine SeqAt.eq_tupleAt (e:=eAt ds es) (gK p) (gK p') hu0 (λj h1 h2=>?_) ?_
  ·have q:=dU I ds es xs ys its its' X.A.in1 hin r r' rv rv' j (by simpa using h1) (by simpa using h2);simpa using q
  ·have e1:its.toArray.size=ds.length:=by rw[iC];omega
   have e2:its'.toArray.size=es.length:=by rw[iC];omega
   rw[e1,e2,key];exact⟨.bl (deqL ds es),H,I,rfl,q⟩
def XT(K:Wf):R2:=λx y H Q=>∃ds es,((Rep K H (.lst ds) x/\Rep K H (.lst es) y)\/(Rep K H (.tup ds) x/\Rep K H (.tup es) y))/\depL ds<=20/\Q (.bl (!deqL ds es)) H
theorem UZ(hu:X.A.units+64<cLine):ir X (compareOp .NotEq) (XT X.K):=by
 intro pins s σ H x y v u Q I rx ry h;obtain⟨ds,es,h,hdep,q⟩:=h;have hu0:X.A.units<cLine:=by omega
 have hin:X.A.in1.units+depL ds<cLine:=by show X.A.units+1+depL ds<cLine;omega
 have key:=i4 ds es;rcases h with ⟨h1,h2⟩|⟨h1,h2⟩
 ·simp only[Rep]at h1 h2;obtain⟨a,xs,rfl,hx,r⟩:=h1;obtain⟨b,ys,rfl,hy,r'⟩:=h2;cases rx;cases ry;obtain⟨its,rv,p,hz⟩:=I.list hx;obtain⟨its',rv',p',hz'⟩:=I.list hy;have l1:=r.len;have l2:=rv.length;have l3:=r'.len;have l4:=rv'.length;by_cases hl:its.length=its'.length
  ·refine SeqAt.RcNeAt.lists (e:=eAt ds es) p.isList p'.isList (by simpa using hl) hu0 (λj h1 h2=>?_) X.prog X.w X.xe _ ?_
   ·have q:=dU I ds es xs ys its its' X.A.in1 hin r r' rv rv' j (by simpa using h1) (by simpa using h2);simpa using q
   ·have e1:its.toArray.size=min ds.length es.length:=by rw[iC];omega
    have e2:(ds.length == es.length)=true:=by simp;omega
    rw[e2,Bool.and_true]at key;rw[e1,key];exact⟨.bl (!deqL ds es),H,I,rfl,q⟩
  ·have e2:(ds.length == es.length)=false:=by simp;omega
   rw[e2,Bool.and_false]at key;rw[<-key]at q;exact SeqAt.RcNeAt.lists_lengths p.isList p'.isList (by simpa using hl) hu0 X.prog X.w X.xe _ ⟨.bl true,H,I,rfl,q⟩
 ·simp only[Rep]at h1 h2;obtain⟨a,xs,rfl,hx,r⟩:=h1;obtain⟨b,ys,rfl,hy,r'⟩:=h2;cases rx;cases ry;obtain⟨its,rv,p,hz⟩:=I.tuple hx;obtain⟨its',rv',p',hz'⟩:=I.tuple hy;have l1:=r.len;have l2:=rv.length;have l3:=r'.len;have l4:=rv'.length;refine SeqAt.RcNeAt.tuples (e:=eAt ds es) (gK p) (gK p') hu0 (λj h1 h2=>?_) X.prog X.w X.xe _ ?_
  ·have q:=dU I ds es xs ys its its' X.A.in1 hin r r' rv rv' j (by simpa using h1) (by simpa using h2);simpa using q
  ·have e1:its.toArray.size=ds.length:=by rw[iC];omega
   have e2:its'.toArray.size=es.length:=by rw[iC];omega
   rw[e1,e2,key];exact⟨.bl (!deqL ds es),H,I,rfl,q⟩
end
section
variable{X:Cx}{K:Wf}
theorem dG(e:X.K=K):Ys X (Z6 K):=e▸Rq
theorem Cf(e:X.K=K):Ys X (HK K):=e▸VR
theorem zu(e:X.K=K):WL X (W9 K):=e▸Qu
theorem C1(e:X.K=K):WL X (Zq K):=e▸UA
theorem zT(e:X.K=K):ir X (binaryOp .Add) (Rv K):=e▸Qx
theorem QU(hu:X.A.units+64<cLine)(e:X.K=K):ir X (compareOp .Eq) (XG K):=e▸UK hu
theorem Ri(hu:X.A.units+64<cLine)(e:X.K=K):ir X (compareOp .NotEq) (XT K):=e▸UZ hu
theorem bX(e:X.K=K):cS X (.builtin "len") (λxs H Q=>∃x n,xs=[x]/\Xi K x H n/\Q (.int n) H):=e▸LN
theorem bY(e:X.K=K):cS X (.builtin "isinstance") (ZS K):=e▸MC
theorem Bg(e:X.K=K):cS X (.builtin "isinstance") (SV K):=e▸Gz
theorem yY(e:X.K=K):cS X (.type "list") (λxs H Q=>∃p ys,xs=[.ref p]/\(aI K H p ys\/bB K H p ys)/\∀l,H l=none->Q (.ref l) (upd H l (.lst ys))):=e▸xQ
theorem eN(e:X.K=K)(hl:PE X l tl):PI X tg l (zt K tl):=e▸QZ hl
theorem Qb(e:X.K=K)(hl:PE X l tl):PI X tg l (QW K tl):=e▸S5 hl
theorem cR{es:List Expr}{k:Nat}{t:TL}{n:Nat}{pos:Pos}(e:X.K=K)(hc:X.calm=true)(h:Xc X es t)
  (hn:(assignEach es X.env).length=n:=by rfl) (hst:(assignEach es X.env).findIdx? (·.1)=none:=by rfl):PG X (.Tuple es k pos) (Zj K n t):=e▸UL hc h hn hst
theorem zk:ir X (compareOp .IsNot) (λx y H Q=>∃a b,x=.bl a/\y=.bl b/\Q (.bl (a != b)) H):=by
 intro pins s σ H x y v u Q I rx ry h;obtain⟨a,b,rfl,rfl,q⟩:=h;cases rx;cases ry;exact isnot_bool ⟨.bl (a != b),H,I,rfl,q⟩
end
section
variable{X:Cx}
noncomputable def Z_:V->List V->Hp->VK->Prop:=λx vs H Q=>∃z y,x=.str z/\vs=[.str y]/\Q (.bl (Txt.startswith z y)) H
noncomputable def aby:V->List V->Hp->VK->Prop:=λx vs H Q=>∃z y i,x=.str z/\vs=[.str y]/\(∃rest,Builtin.Str.occurrences z y 0 z.length 1=i::rest)/\Q (.int (i:Nat)) H
end
def fU(h:Heap)(e:Addr)(cls:Value)(dx:Option Addr)(fl:Value)(T:Addr):Prop:=
 ∃oe vs oT ts,h.get? e=some oe/\oe.cls=cls/\oe.dict=dx/\oe.data=.fields vs/\vs[1]?=some (.ref T)/\T≠e/\h.get? T=some oT/\oT.data=.fields ts/\ts[3]?=some fl
structure gc(fs:List Addr)(e T0:Addr)(cls:Value)(dx:Option Addr)(fl:Value)(h h':Heap):Prop where
 keep:∀b o,b∉fs->b≠e->b≠T0->h.get? b=some o->h'.get? b=some o
 slot:∀b o,b∈fs->b≠e->b≠T0->h.get? b=some o->∃sl,h'.get? b=some { o with slots:=sl }
 there:∀b o,h.get? b=some o->∃o',h'.get? b=some o'
 exc:∃T,h.objs.size<=T/\fU h' e cls dx fl T
section
variable{M:Model}{A:Around}{E:Vs}{s:Shared}
theorem ik(f:Array Value->Array Value)(o:Obj):(Obj.mapFields f o).dict=o.dict:=by
 obtain⟨c,d,da,sl⟩:=o;cases da<;>rfl
theorem qb{outer:List Env}{hadNext:Bool}
  (hfr:A.frames=some (env::outer)) (hl:s.heap.FunFrames base (env::outer)) (hf:env.frame=some L)
  (he:s.heap.get? e=some oe) (hd:oe.data=.fields vs) (hsz:1<vs.size)
  (h:∀h',gc (i9 (env::outer)) e T0 oe.cls oe.dict (rawInt L) s.heap h'->Q () { s with heap:=h' }):
  wpAny M A (do let a <-frameOf env;let pl <-entryPlaceOf L hadNext;let b <-EntryCells.newEntry head a .none (rawInt L) .none pl;setField (.ref e) 1 b) Q E s:=by
 have hene:e∉(env::outer).filterMap (·.frame):=λhm=>by
  obtain⟨_,o,ho,hnf⟩:=hl.mem hm;rw[he]at ho;injection ho with ho;subst ho;exact hnf vs hd
 refine aw (wpAny_frameOf_fun hfr hl hf λh₁ hs₁=>?_);refine aw (wpAny_entryPlaceOf λpl hpl=>?_);unfold EntryCells.newEntry newFields;refine aw (Hk ?_ (hpl.sizeOk5 _ _ _ _ _));have he₁:h₁.get? e=some oe:=(hs₁.2.1 e hene).trans he;have he₂:=dM (h:=h₁) { cls:=.type "traceback", dict:=none,data:=.fields ([head,.ref L,.none,rawInt L,.none]++(if pl.isEmpty then List.replicate 6 Value.none else pl)).toArray } he₁;refine TC he₂ hd hsz (h _ ?_);have hTe:h₁.objs.size≠e:=Nat.ne_of_gt (cH he₁);have hd₃:=Obj.data_mapFields hd (·.setIfInBounds 1 (Value.ref h₁.objs.size));have he₃:=G8 (Obj.mapFields (·.setIfInBounds 1 (Value.ref h₁.objs.size))) he₂ (Obj.isFreed_of_fields hd₃);have hT₃:=(PU (h₁.push { cls:=.type "traceback", dict:=none,data:=.fields ([head,.ref L,.none,rawInt L,.none]++(if pl.isEmpty then List.replicate 6 Value.none else pl)).toArray })
  (Obj.mapFields (·.setIfInBounds 1 (Value.ref h₁.objs.size))) (Ne.symm hTe)).trans (iu h₁ rfl)
 have keep:∀b o,b≠e->h₁.get? b=some o->
   ((h₁.push { cls:=.type "traceback", dict:=none,data:=.fields ([head,.ref L,.none,rawInt L,.none]++(if pl.isEmpty then List.replicate 6 Value.none else pl)).toArray }).update e (Obj.mapFields (·.setIfInBounds 1 (Value.ref h₁.objs.size)))).get? b=some o:=
  λb o hbe hb=>by
   rw[PU _ _ (Ne.symm hbe)];exact dM _ hb
 have new:s.heap.objs.size<=h₁.objs.size:=Nat.le_of_eq hs₁.1.symm;refine⟨λb o hb hbe _ hbo=>keep b o hbe ((hs₁.2.1 b hb).trans hbo),λb o _ hbe _ hbo=>?_,λb o hbo=>?_,h₁.objs.size,new,_,_,_,_,he₃,Obj.cls_mapFields _ _,ik _ _,hd₃,by simp[hsz],hTe,hT₃,rfl,?_⟩
 ·obtain⟨sl,hs⟩:=hs₁.2.2 b o hbo;exact⟨sl,keep b _ hbe hs⟩
 ·by_cases hbe:b=e
  ·subst hbe;exact⟨_,he₃⟩
  ·obtain⟨sl,hs⟩:=hs₁.2.2 b o hbo;exact⟨_,keep b _ hbe hs⟩
 ·first|(simp;done)|(rcases hpl with rfl|⟨_,_,_,_,_,_,_,rfl⟩<;>simp)
def BE(h:Heap)(e:Addr)(cls:Value)(dx:Option Addr):Prop:=∃oe vs,h.get? e=some oe/\oe.cls=cls/\oe.dict=dx/\oe.data=.fields vs/\vs[1]?=some .none
theorem Nn{outer:List Env}
  (hfr:A.frames=some (env::outer)) (hl:s.heap.FunFrames base (env::outer)) (hf:env.frame=some L) (hx:BE s.heap e cls dx)
  (h:∀h',gc (i9 (env::outer)) e e cls dx (rawInt L) s.heap h'->Q () { s with heap:=h' }):wpAny M A (noteFrame (.ref e) env) Q E s:=by
 obtain⟨oe,vs,he,hc,hdx,hd,h1⟩:=hx;subst hc hdx;unfold noteFrame;simp only[hf];refine aw (wpAny_field he hd h1 ?_);rw[if_neg (by decide)];exact qb hfr hl hf he hd (yck.mp h1).1 h
theorem qg{outer:List Env}
  (hfr:A.frames=some (env::outer)) (hl:s.heap.FunFrames base (env::outer)) (hf:env.frame=some L) (hx:fU s.heap e cls dx .none T)
  (h:∀h',gc (i9 (env::outer)) e T cls dx (rawInt L) s.heap h'->Q () { s with heap:=h' }):wpAny M A (noteFrame (.ref e) env) Q E s:=by
 obtain⟨oe,vs,oT,ts,he,hc,hdx,hd,h1,hTe,hT,hdT,h3⟩:=hx;subst hc hdx;unfold noteFrame;simp only[hf];refine aw (wpAny_field he hd h1 ?_);rw[if_pos (show(Value.ref T != Value.none)=true from by simp)];refine aw (wpAny_field hT hdT h3 ?_);rw[if_neg (show ¬((Value.none == rawInt L)=true) from by simp[rawInt])];refine aw (TC hT hdT (yck.mp h3).1 ?_);have other:∀b,b≠T->(s.heap.update T (Obj.mapFields (·.setIfInBounds 3 Value.none))).get? b=s.heap.get? b:=λb hb=>PU _ _ (Ne.symm hb);have noRecord:∀b o,s.heap.get? b=some o->(∀vs,o.data≠.fields vs)->b≠T:=λb o hb hnf q=>by
  rw[q,hT]at hb;injection hb with hb;subst hb;exact hnf ts hdT
 have hT':=G8 (Obj.mapFields (·.setIfInBounds 3 Value.none)) hT (Obj.isFreed_of_fields (Obj.data_mapFields hdT _));refine qb (T0:=T) hfr (hl.of_keeps λb o hb hnf=>⟨o,(other b (noRecord b o hb hnf)).trans hb,rfl⟩) hf ((other e (Ne.symm hTe)).trans he) hd (yck.mp h1).1 λh' x=>h h' ?_;refine⟨λb o hb hbe hbT hbo=>x.keep b o hb hbe hbT ((other b hbT).trans hbo),λb o hb hbe hbT hbo=>x.slot b o hb hbe hbT ((other b hbT).trans hbo),λb o hbo=>?_,?_⟩
 ·by_cases hb:b=T
  ·subst hb;exact x.there b _ hT'
  ·exact x.there b o ((other b hb).trans hbo)
 ·obtain⟨T',hn,y⟩:=x.exc;exact⟨T',by rw[Heap.size_update]at hn;exact hn,y⟩
theorem e9(hx:fU s.heap e cls dx fl T)
  (h:∀h',(∀b o,b≠T->s.heap.get? b=some o->h'.get? b=some o)->(∃o,h'.get? T=some o)->fU h' e cls dx .none T->Q () { s with heap:=h' }):wpAny M A (setFlight (.ref e) none) Q E s:=by
 obtain⟨oe,vs,oT,ts,he,hc,hdx,hd,h1,hTe,hT,hdT,h3⟩:=hx;unfold setFlight;refine aw (wpAny_field he hd h1 ?_);rw[if_pos (show(Value.ref T != Value.none)=true from by simp)];have hs:=(yck.mp h3).1;refine TC hT hdT hs (h _ (λb o hb hbo=>?_) ?_ ?_)
 ·rw[PU _ _ (Ne.symm hb)];exact hbo
 ·exact⟨_,G8 _ hT (Obj.isFreed_of_fields (Obj.data_mapFields hdT _))⟩
 ·refine⟨oe,vs,_,_,?_,hc,hdx,hd,h1,hTe,G8 _ hT (Obj.isFreed_of_fields (Obj.data_mapFields hdT _)),Obj.data_mapFields hdT _,?_⟩
  ·rw[PU _ _ hTe];exact he
  ·simp[hs]
theorem gc.off{fs:List Addr}{e T0 T:Addr}{cls:Value}{dx:Option Addr}{fl:Value}{h h1 h2:Heap}(x:gc fs e T0 cls dx fl h h1)(hT:h.objs.size<=T)(k:∀b o,b≠T->h1.get? b=some o->h2.get? b=some o)
  (hT2:∃o,h2.get? T=some o) (y:fU h2 e cls dx .none T):gc fs e T0 cls dx .none h h2:=by
 have ne:∀b o,h.get? b=some o->b≠T:=λb o e z=>by
  have:=cH e;rw[z]at this;exact absurd (g8 this hT) (oP _)
 refine⟨λb o hb hbe hb0 hbo=>k b o (ne b o hbo) (x.keep b o hb hbe hb0 hbo),λb o hb hbe hb0 hbo=>?_,λb o hbo=>?_,T,hT,y⟩
 ·obtain⟨sl,q⟩:=x.slot b o hb hbe hb0 hbo;exact⟨sl,k b _ (ne b o hbo) q⟩
 ·obtain⟨o',q⟩:=x.there b o hbo;exact⟨o',k b _ (ne b o hbo) q⟩
theorem leave_new{outer:List Env}
  (hfr:A.frames=some (env::outer)) (hl:s.heap.FunFrames base (env::outer)) (hf:env.frame=some L) (hx:BE s.heap e cls dx)
  (h:∀h',gc (i9 (env::outer)) e e cls dx .none s.heap h'->Q () { s with heap:=h' }):wpAny M A (leaving env (.ref e)) Q E s:=by
 unfold leaving;refine aw (Nn hfr hl hf hx λh1 x=>?_);obtain⟨T,hT,y⟩:=x.exc;exact e9 (s:={ s with heap:=h1 }) y λh2 k hT2 z=>h h2 (x.off hT k hT2 z)
theorem A4{outer:List Env}
  (hfr:A.frames=some (env::outer)) (hl:s.heap.FunFrames base (env::outer)) (hf:env.frame=some L) (hx:fU s.heap e cls dx .none T0)
  (h:∀h',gc (i9 (env::outer)) e T0 cls dx .none s.heap h'->Q () { s with heap:=h' }):wpAny M A (leaving env (.ref e)) Q E s:=by
 unfold leaving;refine aw (qg hfr hl hf hx λh1 x=>?_);obtain⟨T,hT,y⟩:=x.exc;exact e9 (s:={ s with heap:=h1 }) y λh2 k hT2 z=>h h2 (x.off hT k hT2 z)
end
noncomputable def Hr(P:Program)(w:World):G7:=λouter H s E e s'=>∃(a T:Addr) (cls:Value) (dx:Option Addr) (H':Hp),e=.ref a/\s'.os=s.os/\AllBare s'.gens/\Un (i9 outer) [] H H' s.heap s'.heap/\e7 P w H' s'.heap/\
 s.heap.get? a=none/\s.heap.get? T=none/\H' a=none/\H' T=none/\fU s'.heap a cls dx .none T/\E cls dx H'
def ExcAt(X:Cx)(H:Hp)(h:Heap)(a:Addr)(cls:Value)(dx:Option Addr):Prop:=
 X.s₀.heap.get? a=none/\H a=none/\(BE h a cls dx\/∃T,X.s₀.heap.get? T=none/\H T=none/\fU h a cls dx .none T)
def Xe(X:Cx)(E:XK):Prop:=∀(pins:Lo) (σ:St) (H:Hp) (s:Shared) (a:Addr) (cls:Value) (dx:Option Addr),Inv X pins σ H s->ExcAt X H s.heap a cls dx->E cls dx H->X.xe (.ref a) s
theorem e7.tracked(ok:e7 P w H h)(k:∀b o u,H b=some u->h.get? b=some o->h'.get? b=some o):e7 P w H h':=λa o e=>
 (ok a o e).gM (λb u hb q=>by
  rcases hb with z|z
  ·subst z;exact k b u o e q
  ·exact k b u _ z q) (λ_ q=>q) λ_ _ q=>q
theorem Un.left{X:Cx}{pins:Lo}{σ:St}{H:Hp}{s:Shared}{a T0:Addr}{cls:Value}{dx:Option Addr}{h':Heap}(I:Inv X pins σ H s)(hex:X.ex=[])(hst:X.stack=X.env::X.outer)(hfr:X.env.frame=some X.env.locals)
  (ha:X.s₀.heap.get? a=none) (hT:X.s₀.heap.get? T0=none) (x:gc (i9 (X.env::X.outer)) a T0 cls dx .none s.heap h'):Un X.fs [] X.H₀ H X.s₀.heap h':=by
 have hfs:i9 (X.env::X.outer)=X.env.locals::X.fs:=by simp[i9,hfr]
 have nl:∀b o,X.s₀.heap.get? b=some o->b≠X.env.locals:=λb o e z=>by
  have:=cH e;rw[z]at this;exact absurd (g8 this I.ok.above) (oP _)
 have na:∀b o,X.s₀.heap.get? b=some o->b≠a:=λb o e z=>by rw[z,ha]at e;cases e
 have nT:∀b o,X.s₀.heap.get? b=some o->b≠T0:=λb o e z=>by rw[z,hT]at e;cases e
 have nx:∀b:Addr,b∉X.ex:=λb=>by rw[hex];simp
 have B:=I.base;have nfs:∀b o,X.s₀.heap.get? b=some o->b∉X.fs->b∉i9 (X.env::X.outer):=λb o e hb z=>by
  rw[hfs]at z;rcases i_.mp z with q|q
  ·exact nl b o e q
  ·exact hb q
 refine⟨λb o e n hb _=>x.keep b o (nfs b o e hb) (na b o e) (nT b o e) (B.keep b o e n hb (nx b)),λb o e n hb _=>?_,λb o e n _=>B.free b o e n (nx b),λb o e _=>?_,B.iD,B.hZ,B.hJ⟩
 ·obtain⟨sl,q⟩:=B.slot b o e n hb (nx b);obtain⟨sl2,q2⟩:=x.slot b _ (by rw[hfs];exact Bv _ hb) (na b o e) (nT b o e) q;exact⟨sl2,q2⟩
 ·obtain⟨o',q⟩:=B.there b o e (nx b);exact x.there b o' q
theorem Cj{P:Program}{w:World}{K:Wf}{mg:So}{base:Heap}{N:List Str}{qual:Str}{scope:Scope}{f:Addr}{cd:Value}{A:Around}{outer:List Env}{s₀:Shared}{H₀:Hp}{E₀:XK}:
  Xe (jv (Hr P w) P w K mg base N qual scope f cd A outer s₀ H₀ E₀) E₀:=by
 intro pins σ H s a cls dx I hx hE;obtain⟨ha,hHa,hx⟩:=hx;have hfr:(envOfC qual scope s₀.heap.objs.size f cd).frame=some s₀.heap.objs.size:=rfl;have fin:∀(T0:Addr) (h':Heap),s₀.heap.get? T0=none->H T0=none->gc (i9 (envOfC qual scope s₀.heap.objs.size f cd::outer)) a T0 cls dx .none s.heap h'->Hr P w outer H₀ s₀ E₀ (.ref a) { s with heap:=h' }:=by
  intro T0 h' hT0 hHT0 x;obtain⟨T,hT,y⟩:=x.exc;have hTn:s₀.heap.get? T=none:=by
   cases q:s₀.heap.get? T with
   |none=>rfl
   |some o=>exact absurd (g8 (cH q) (zc I.sz hT)) (oP _)
  refine⟨a,T,cls,dx,H,rfl,I.os,I.bare,Un.left I rfl rfl rfl ha hT0 x,?_,ha,hTn,hHa,I.aN.fresh hT,y,hE⟩;refine I.aN.tracked λb o u hb q=>x.keep b o (λz=>?_) (λz=>by rw[z,hHa]at hb;cases hb) (λz=>by rw[z,hHT0]at hb;cases hb) q;have:=I.j_ b z;rw[this]at hb;cases hb
 rcases hx with hx|⟨T0,hT0,hHT0,hx⟩
 ·exact leave_new (base:=base) I.ok.frames I.stack hfr hx λh' x=>fin a h' ha hHa x
 ·exact A4 (base:=base) I.ok.frames I.stack hfr hx λh' x=>fin T0 h' hT0 hHT0 x
theorem FF(h:Xe X E)(hex:X.ex=[]:=by rfl):Passes (Hr X.prog X.w) X E:=by
 intro pins σ H s e s' I hx;obtain⟨a,T,cls,dx,H',rfl,ho,hg,u,aN,ha,hT,hHa,hHT,y,hE⟩:=hx;have I':Inv X pins σ H' s':=I.oI (ch:=[]) ho u aN hg λb hb=>absurd hb (by simp);have old:∀b,s.heap.get? b=none->X.ex=[]->X.s₀.heap.get? b=none:=λb hb hx=>by
  cases q:X.s₀.heap.get? b with
  |none=>rfl
  |some o=>
   obtain⟨o',q'⟩:=I.base.there b o q (by rw[hx];simp);rw[hb]at q';cases q'
 exact h pins σ H' s' a cls dx I' ⟨old a ha hex,hHa,.inr ⟨T,old T hT hex,hHT,y⟩⟩ hE
theorem a0.there(x:a0 P w H h a o):∃ob,h.get? a=some ob:=by
 cases o with
 |lst xs=>obtain⟨_,_,_,_,e⟩:=x;exact⟨_,e⟩
 |tup xs=>obtain⟨_,_,_,o,e,_⟩:=x;exact⟨_,e⟩
 |dK kvs=>obtain⟨_,_,_,_,o,_,_,e,_⟩:=x;exact⟨_,e⟩
 |dT kvs=>obtain⟨_,_,_,_,o,_,_,e,_⟩:=x;exact⟨_,e⟩
 |set S n=>obtain⟨o,_,_,_,e,_⟩:=x;exact⟨_,e⟩
 |ins C dx fs=>obtain⟨_,_,_,e,_⟩:=x;exact⟨_,e⟩
 |own y=>obtain⟨_,e⟩:=x;exact⟨_,e⟩
 |xd fs=>obtain⟨_,⟨_,_,_,e,_⟩,_⟩:=x;exact⟨_,e⟩
 |Py lo hi=>obtain⟨_,_,_,e⟩:=x;exact⟨_,e⟩
 |g9 ob u=>obtain⟨e,_⟩:=x;exact⟨_,e⟩
 |fJ ps=>exact⟨_,(show h.get? a=some _ from x)⟩
 |met f y=>exact⟨_,(show h.get? a=some _ from x)⟩
 |ext φ=>obtain⟨_,⟨_,e⟩,_⟩:=x;exact⟨_,e⟩
theorem e7.none_of(ok:e7 P w H h)(e:h.get? a=none):H a=none:=by
 cases q:H a with
 |none=>rfl
 |some u=>
  obtain⟨o,z⟩:=(ok a u q).there;rw[e]at z;cases z
theorem Qt{K:Wf}{h:Heap}{C:Addr}{bmB:List Value}{newId:String}(X:K.In h)(q:excIn K C bmB newId=true):
  ∃bm N nm q bs hdct sn sub ab col dd k0 k1 k2 k3 k5 mN,h.get? C=some (excClassObj nm q C N bs bm hdct sn sub ab col dd k0 k1 k2 k3 k5 newId)/\h.Ns N mN/\mN "__init__" = none/\OwnTail h bmB bm:=by
 unfold excIn at q;split at q
 ·rename_i dd cd sl ho;split at q
  ·rename_i C' bm k0 k1 k2 k3 n k5 hm hs;simp only[Bool.and_eq_true,beq_iff_eq,Bool.not_eq_true']at q;obtain⟨⟨⟨⟨⟨rfl,rfl⟩,hdel⟩,ht⟩,aN⟩,hni⟩:=q;obtain⟨nm,bs,mro,ns,qn,hd,sn,sub,ab,col,del⟩:=cd;dsimp only at hm hdel aN hni;subst hm hdel;have hsl:sl=#[k0,k1,k2,k3,some (.builtin n),k5]:=by
    obtain⟨l⟩:=sl;simp only at hs;rw[hs]
   subst hsl;exact⟨bm,ns,nm,qn,bs,hd,sn,sub,ab,col,dd,k0,k1,k2,k3,k5,_,X _ _ ho,.of_isNs (PySem.W.isNs_of_in X aN),PySem.W.nsMap_none_of_in X aN hni,PySem.W.tail_of_in X ht⟩
  ·cases q
 ·cases q
section
variable{X:Cx}
def UO(C:Addr)(E:XK)(t:TA):TS:=λ_ σ H=>t σ H λvs H1=>vs.length<=sizeLine/\E (.ref C) none H1
theorem zD{x:Str}{C:Addr}{bmB:List Value}{B newId initId:String}{e₀:Expr}{rest:List Expr}{np cpos pos:Pos}{t:TA}{E:XK}(hg:Gl X x)(hm:X.mg x=some (.ref C))(q:excIn X.K C bmB newId=true)
  (FB:ExcBaseFacts B newId initId bmB) (hc:X.calm=true) (hX:Xe X E) (ha:PA X (e₀::rest) t) (hex:X.ex=[]:=by rfl)
  (he:starEach (e₀::rest) X.env=(false,eval e₀ X.env)::starEach rest X.env:=by rfl) (hplain:(backTo cpos (starEach rest X.env)).any (·.1)=false:=by rfl) (hdb:(x == ("__debug__" : Str))=false:=by decide):
  PS X (.Raise (some (.Call (.Name x np) (e₀::rest) [] cpos)) none pos) (UO C E t):=by
 intro pins s σ H D I h;obtain⟨tl,N,nm,qn,bs,hdct,sn,sub,ab,col,dd,k0,k1,k2,k3,k5,mN,hC,hN,hni,T⟩:=Qt I.ok.mod.VA q;refine wpAny_Raise_call_subT (C:=C) (nm:=nm) (q:=qn) (N:=N) (bs:=bs) (bm:=tl) (hdct:=hdct) (sn:=sn) (sub:=sub) (ab:=ab) (col:=col) (dd:=dd) (k0:=k0) (k1:=k1) (k2:=k2) (k3:=k3) (k5:=k5)
  FB (mN:=mN) (T.hasType FB.hasBase) (I.ok.hd hc) (by rw[he];show(false || (backTo cpos (starEach rest X.env)).any (·.1))=false;rw[hplain];rfl) hni (iM I hg hm ⟨rfl,?_⟩ hdb)
 have h1:=ha cpos pins s σ H _ I h;rw[he]at h1 ⊢;refine Calls.evalArgs_plain (oN h1 (λus s2 h2=>?_) λ_ _ y=>y);obtain⟨vs,H2,I2,rv,hz,hE⟩:=h2;refine⟨rfl,by rw[<-rv.length];exact hz,I2.bk _ _ hC,hN.keeps I2.bk,T.keeps I2.bk,λh' e me=>?_⟩;have I3:Inv X pins σ H2 { s2 with heap:=h' }:=I2.kept (t':=s2.toks) me.keeps;obtain⟨t',hx,_,_⟩:=me.there;refine hX pins σ H2 _ e (.ref C) none I3 ⟨?_,I2.aN.none_of me.new,.inl ⟨_,_,hx,rfl,rfl,rfl,rfl⟩⟩ hE;cases qq:X.s₀.heap.get? e with
 |none=>rfl
 |some o=>
  obtain⟨o',q'⟩:=I2.base.there e o qq (by rw[hex];simp);rw[me.new]at q';cases q'
end
end L2
namespace L2
open PySem PySem.Spec PyProof.Rows PySem.W
structure Au(K:Frag)(C:Addr):Prop where
 ga:findIn K (.ref C) "__getattribute__" = some (some (.builtin "BaseException.__getattribute__"))
 gn:findIn K (.ref C) "__getattr__" = some none
 cl:findIn K (.ref C) "__class__" = some (some (.builtin "object.__class__"))
 sg:specialIn K (.builtin "object.__class__") "__get__" = some (some (.builtin "getset_descriptor.__get__"))
 tk:takesIn K (.builtin "object.__class__")=some true
 mo:mroIn K C (.type "object")=some true
 mb:mroIn K C (.type "BaseException")=some true
section
variable{prog:Program}{w:World}{A:Around}{E:Vs}{s:Shared}{K:Frag}{x C:Addr}{ox:Obj}{od:Option Obj}{name:Str}
theorem kL(e:mroIn K C b=some r):∃cd,clsIn K C=some cd:=by
 obtain⟨cd,a,_⟩:=Option.bind_eq_some_iff.mp e;exact⟨cd,a⟩
theorem QQ{nameV:Value}(X:K.In s.heap)(c:Au K C)(I:InstAt s.heap x ox C od)(q:Q () s):wpAny M A (checkBuiltinCall "BaseException.__getattribute__" ⟨[.ref x,nameV],[]⟩) Q E s:=
 @check_slot M A E s "BaseException.__getattribute__" "BaseException" "__getattribute__" (.ref x) [nameV] [] Q (by decide +kernel) (by decide +kernel) ((I.type).andThen (looks_mroIn X c.mb)) (F.args_bexc_ga _ _) q
theorem oW(X:K.In s.heap)(c:Au K C)(I:InstAt s.heap x ox C od)(h:Q (.done (.ret (.ref C))) s):
  wpAny (model prog w) A (Builtin.«object.__getattribute__» ⟨[.ref x,.str "__class__" tk],[]⟩) Q E s:=by
 obtain⟨cd,hc⟩:=kL c.mo;have hf:findObj K C od "__class__" = some (.bind (.builtin "getset_descriptor.__get__") (.builtin "object.__class__")):=by
  unfold findObj;rw[hc,c.cl];simp only[Option.bind_some];rw[c.sg];simp only[Option.bind_some];rw[c.tk];rfl
 have L0:=I.type (M:=model prog w);have L1:=looks_find (M:=model prog w) X I hf;unfold Builtin.«object.__getattribute__»;refine aw (bc ?_);refine aw (bc ?_);refine aw (L0.here (aw (L1.here ?_)));show wpAny _ _ (holding [_] (call _ [_,.ref x,.ref C]) >>= ret) _ _ _;exact aw (AS (wpAny_call (class_get X I c.mo (bc h))))
theorem FR(self:Value):bindSpecial (.builtin "BaseException.__getattribute__") self=pure (.builtin "BaseException.__getattribute__", [self]):=F.attr_ValueError.ga.bind self
theorem BC:plainId "BaseException.__getattribute__" = true:=F.attr_ValueError.ga.plain
theorem acp{v nameV:Value}{fill expr:Bool}{Q:Vs}(X:K.In s.heap)(c:Au K C)(I:InstAt s.heap x ox C od)
  (he:∀(A:Around) (E:Vs) (Q:Fin->Shared->Prop),Q (.done (.ret v)) s->wpAny (model prog w) A (Builtin.«object.__getattribute__» ⟨[.ref x,nameV],[]⟩) Q E s)
  (hv:handedIn v=true) (h:Q v s):wpAny (model prog w) A (getAttrBy (.ref x) nameV fill expr) Q E s:=by
 have L0:=I.type (M:=model prog w);have L1:=looks_findIn (M:=model prog w) X c.ga;have L2:=looks_findIn (M:=model prog w) X c.gn;unfold getAttrBy;refine AS (aw (L0.here (aw (L1.here ?_))));have hne:(onTheHeap (Value.ref C)&&Value.builtin "BaseException.__getattribute__" == Value.builtin "object.__getattribute__")=false:=by
  show(true&&_)=false;decide +kernel
 show wpAny _ _ (if (onTheHeap (Value.ref C)&&Value.builtin "BaseException.__getattribute__" == Value.builtin "object.__getattribute__")=true then _ else getAttrByItsOwn _ _ _ _ _ _) _ _ _;rw[hne,if_neg zP];unfold getAttrByItsOwn;refine aw ?_;show wpAny _ _ (typeLookup (.ref C) "__getattr__") _ _ _;refine L2.here ?_;refine aw (RR (AS ?_));have hcg:callGetattribute (.ref x) nameV (.builtin "BaseException.__getattribute__") expr=boundAndCalled (.builtin "BaseException.__getattribute__") (.ref x) nameV:=by
  unfold callGetattribute;rw[if_neg (by cases expr<;>decide)]
 rw[hcg];unfold boundAndCalled;rw[FR];refine aw (bc ?_);refine wpAny_call (codeAny_call_builtin BC F.entry_bexc_ga (QQ X c I (he _ _ _ ?_)));show wpAny _ _ (handedOut v) _ _ _;rw[handedOut_of hv];exact bc h
theorem PM(X:K.In s.heap)(c:Au K C)(I:InstAt s.heap x ox C od)(h:Q (some (.ref C)) { s with toks:=s.toks+1 }):wpAny (model prog w) A (getAttr? (.ref x) "__class__") Q E s:=by
 unfold getAttr? getAttrBy?;refine aw (wpAny_mkText (aw (RR ?_)));exact acp (s:={ s with toks:=s.toks+1 }) X c I (λA E Q q=>oW (s:={ s with toks:=s.toks+1 }) X c I q) rfl (bc h)
theorem JS{ox:Obj}{od:Option Obj}(c:Au K C):KitX K (.ref x) (.ref C) (λh=>InstAt h x ox C od) where
 ty:=λ_ _ _ I=>I.type
 it:=λ_ _ X _=>by
  obtain⟨cdD,hcD⟩:=kL c.mo;unfold clsIn at hcD;split at hcD
  ·rename_i c' d' cd' sl' ho;intro A' Q' E' s' k q;unfold isType loadHead;exact aw (wpAny_loadPart (k _ _ (X _ _ ho)) (bc q))
  ·cases hcD
 ne:=λh tp dd its n sl X htp=>by
  obtain⟨cdD,hcD⟩:=kL c.mo;refine Bool.eq_false_iff.mpr λq=>?_;have e:C=tp:=Value.ref.inj (beq_iff_eq.mp q);subst e;unfold clsIn at hcD;split at hcD
  ·rename_i c' d' cd' sl' ho;have z:=(X _ _ ho).symm.trans htp;cases z
  ·cases hcD
 ca:=λX I k=>PM X c I k
end
end L2
namespace L2
open PySem PySem.Spec PyProof.Rows
structure Catch(K:Wf)(B C:Addr):Prop where
 ty:instIn K (.ref B) (.type "tuple")=some false
 bb:mroIn K B (.type "BaseException")=some true
 sub:mroIn K C (.ref B)=some true
theorem Gg{K:Wf}{M:Model}{h:Heap}{C:Addr}{cd:ClassData}(X:K.In h)(hc:clsIn K C=some cd):PySem.W.Looks M h (isType (.ref C)) true:=by
 unfold clsIn at hc;split at hc
 ·rename_i c' d' cd' sl' ho;intro A' Q' E' s' k q;unfold isType loadHead;exact aw (wpAny_loadPart (k _ _ (X _ _ ho)) (bc q))
 ·cases hc
theorem oZ{K:Wf}{M:Model}{A:Around}{E:Vs}{s:Shared}{a B C:Addr}{ox:Obj}{od:Option Obj}{Q:Bool->Shared->Prop}(X:K.In s.heap)(I:PySem.W.InstAt s.heap a ox C od)(c:Catch K B C)(h:Q true s):
  wpAny M A (excMatches (.ref a) (.ref B)) Q E s:=by
 obtain⟨cd,hcd⟩:=kL c.bb;have L0:=PySem.W.looks_instIn (M:=M) X c.ty;have L1:=Gg (M:=M) X hcd;have L2:=looks_mroIn (M:=M) X c.bb;have L3:=I.type (M:=M);have L4:=looks_mroIn (M:=M) X c.sub;unfold excMatches;refine aw (L0.here ?_);simp only[Bool.false_eq_true,if_false];refine aw (bc ?_);rw[List.forIn_cons];refine aw (aw (aw ?_));unfold isExcClass;refine aw (L1.here ?_);simp only[if_true];refine L2.here ?_;simp only[Bool.not_true,Bool.false_eq_true,if_false];refine bc ?_;simp only[List.forIn_nil];refine bc ?_;refine aw (L3.here ?_);rw[List.forIn_cons];refine aw (aw (aw (L4.here ?_)));simp only[if_true];exact bc (bc (bc h))
noncomputable abbrev Cx.hand(X:Cx)(a:Addr):Cx:={ X with A:=X.A.mark (some (.ref a)),calm:=false,xe:=λ_ _=>False }
theorem Cx.Ok.hand{X:Cx}(ok:X.Ok)(a:Addr):(X.hand a).Ok:=
 ⟨ok.mod,ok.kind,ok.glob,ok.blt,ok.above,ok.inj,ok.has,ok.VG,(λz=>by cases z),ok.frames,ok.PN,ok.Wc,ok.bs,ok.Hn,ok.Bz,ok.zy,ok.ig,ok.PH⟩
section
variable{X:Cx}{pins:Lo}{σ:St}{H:Hp}{s:Shared}{a:Addr}
theorem Inv.hand(I:Inv X pins σ H s)(a:Addr):Inv (X.hand a) pins σ H s:=⟨I.ok.hand a,I.os,I.bare,I.base,I.loc,I.cell,I.free,I.eD,I.pin,I.aN,I.len⟩
theorem Inv.uY(ok:X.Ok)(I:Inv (X.hand a) pins σ H s):Inv X pins σ H s:=⟨ok,I.os,I.bare,I.base,I.loc,I.cell,I.free,I.eD,I.pin,I.aN,I.len⟩
end
noncomputable def XO(a C:Addr)(dx:Option Addr):HO:=.ext λh=>∃ob vs,h.get? a=some ob/\ob.cls=.ref C/\ob.dict=dx/\ob.data=.fields vs
theorem XO.ok{P:Program}{w:World}{H:Hp}{h:Heap}{a C:Addr}{dx:Option Addr}{fl:Value}{T:Addr}(x:fU h a (.ref C) dx fl T):a0 P w H h a (XO a C dx):=by
 obtain⟨oe,vs,oT,ts,he,hc,hdx,hd,_⟩:=x;exact⟨⟨oe,vs,he,hc,hdx,hd⟩,⟨oe,he⟩,λh1 h2 ⟨ob,ws,q,r⟩ k=>⟨ob,ws,k _ q,r⟩⟩
noncomputable abbrev XS:=St->XK
def XP(X:Cx)(pins:Lo)(E:XS)(e:Value)(s':Shared):Prop:=∃σ H s,Inv X pins σ H s/\Hr X.prog X.w X.stack H s (E σ) e s'
noncomputable abbrev JT:=St->Hp->VK->XK->Prop
noncomputable abbrev G_:=Ends->XS->St->Hp->Prop
def PEX(X:Cx)(e:Expr)(t:JT):Prop:=∀(pins:Lo) (s:Shared) (σ:St) (H:Hp) (Q:VK) (E:XS),Inv X pins σ H s->t σ H Q (E σ)->
 wpAny (model X.prog X.w) X.A (eval e X.env) (EP X pins σ Q) (XP X pins E) s
def PSX(X:Cx)(st:Stmt)(t:G_):Prop:=∀(pins:Lo) (s:Shared) (σ:St) (H:Hp) (D:Ends) (E:XS),Inv X pins σ H s->t D E σ H->
 wpAny (model X.prog X.w) X.A (exec st X.env) (SP X pins D) (XP X pins E) s
def VW(X:Cx)(st:List Stmt)(t:G_):Prop:=∀(pins:Lo) (s:Shared) (σ:St) (H:Hp) (D:Ends) (E:XS),Inv X pins σ H s->t D E σ H->
 wpAny (model X.prog X.w) X.A (execs st X.env) (SP X pins D) (XP X pins E) s
section
variable{X:Cx}{k:Nat}{f C:Addr}{fd:FuncData}{ps:List Str}{sp:Sp}{dvs:List V}{ds:List Value}{x m:Str}{p pos apos:Pos}{e o:Expr}{es:List Expr}{ta:TE}{t:TA}
theorem abP{pins:Lo}{σ:St}{H:Hp}{s:Shared}{Q:VK}{E:XS}{us:List Value}{vs:List V}(F:aG X.prog X.w X.K X.mg X.base (Hr X.prog X.w) k f fd ps sp)(hr:cg k X.A)(hb:Binds X.K fd ps ds)(hd:Vals dvs ds)
  (I:Inv X pins σ H s) (r:Vals vs us) (h:sp (vs++dvs) H Q (E σ)):wpAny (model X.prog X.w) X.A (call (.ref f) us) (EP X pins σ Q) (XP X pins E) s:=by
 have r2:Vals (vs++dvs) (us++ds):=r.append hd;have hl:(us++ds).length=ps.length:=by rw[<-r2.length];exact F.len _ _ _ _ h
 refine wpAny_call (codeAny_mono (F.run X.A X.stack s H ⟨us,[]⟩ (us++ds) (vs++dvs) Q (E σ) hr I.Rn (hb s us I.ib hl) r2 h) λr s' hq=>?_);cases r with
 |error e=>exact⟨σ,H,s,I,hq⟩
 |ok fl=>
  cases fl with
  |ret u=>exact I.after hq
  |next=>exact False.elim hq
  |brk=>exact False.elim hq
  |cont=>exact False.elim hq
noncomputable def acs(sp:Sp)(dvs:List V)(t:TA):JT:=λσ H Q E=>t σ H λvs H1=>sp (vs++dvs) H1 Q E
noncomputable def Wr(C:Addr)(m:Str)(sp:Sp)(dvs:List V)(ta:TE)(t:TA):JT:=λσ H Q E=>ta σ H λx H1=>∃a dx fs,x=.ref a/\H1 a=some (.ins C dx fs)/\fs.lookup m=none/\
 t σ H1 λvs H2=>sp (x::(vs++dvs)) H2 Q E
theorem noE{α:Type}{t:Sem α}{Q:α->Shared->Prop}{M:Model}{A:Around}{E:Vs}{s:Shared}(h:wpAny M A t Q (λ_ _=>False) s):wpAny M A t Q E s:=oN h (λ_ _ q=>q) λ_ _ z=>False.elim z
theorem Gm(he:PE X.VV o ta)(c:zb X.K C)(hm:Meth X.K C m f)(F:aG X.prog X.w X.K X.mg X.base (Hr X.prog X.w) k f fd ps sp)(hr:cg k X.A)(hb:Binds X.K fd ps ds)(hd:Vals dvs ds)
  (ht:eval (.Call (.Attribute o m apos) [] [] pos) X.env=(do
   let ov <-eval o X.env
   standAt apos.atName
   let (f,first) <-holding [ov] (getMethod ov m pl)
   callWith pos f first (backTo pos (starEach [] X.env)) (backToKw pos (keywordEach [] X.env))):=by rfl):
  PEX X (.Call (.Attribute o m apos) [] [] pos) (Wr C m sp dvs ta VC):=by
 intro pins s σ H Q E I h;refine methodCall_KW (pl:=pl) (noE (bj (he pins s σ H _ (I.ni _) h) λu s1 ⟨x,H1,I1,rx,a,dx,fs,ex,ea,l,q⟩=>?_)) ht;subst ex;obtain rfl:u=Value.ref a:=rx;refine h7 I1.eQ ea c hm l ?_;exact callWith_K0 (first:=[.ref a]) I1.ib hm.kp (abP (us:=[.ref a]) (vs:=[.ref a]) F hr hb hd I1.eQ (.cons rfl .nil) q)
end
section
variable{X:Cx}{st:Stmt}{rest:List Stmt}{t:TS}{tx ux:G_}{e:Expr}{te:JT}{pos:Pos}
noncomputable def Xo(te:JT):G_:=λD E σ H=>te σ H (λ_ H1=>D.nx σ H1) (E σ)
theorem HL(he:PEX X e te)(hs:swapsWith e none pos.line X.env=pure false:=by rfl):PSX X (.Expr e pos) (Xo te):=by
 intro pins s σ H D E I h;exact wpAny_Expr_any (bj (he pins s σ H _ E I h) λv s1 ⟨x,H1,I1,r1,q1⟩=>⟨σ,H1,I1,q1⟩) I.quiet hs
noncomputable def acD(i:Nat)(te:JT):G_:=λD E σ H=>te σ H (λv H1=>D.nx (σ.set i (some v)) H1) (E σ)
noncomputable def acL(te:JT):G_:=λD E σ H=>te σ H D.rt (E σ)
noncomputable def xOf(t:TS):G_:=λD _ σ H=>t D σ H
noncomputable def acB(t u:G_):G_:=λD E σ H=>t { D with nx:=u D E } E σ H
theorem KP(h1:PSX X st tx):VW X [st] tx:=by
 intro pins s σ H D E I h;refine wpAny_execs_cons (bj (h1 pins s σ H D E I h) λf s1 q=>?_);cases f with
 |next=>exact Wb q
 |ret v=>exact q
 |brk=>exact q
 |cont=>exact q
end
structure hV(X:Cx)(H:Hp)(s:Shared)(a T:Addr)(cls:Value)(dx:Option Addr)(H':Hp)(s':Shared):Prop where
 os:s'.os=s.os
 bare:AllBare s'.gens
 un:Un (i9 X.stack) [] H H' s.heap s'.heap
 aN:e7 X.prog X.w H' s'.heap
 fa:s.heap.get? a=none
 fT:s.heap.get? T=none
 na:H' a=none
 nT:H' T=none
 ex:fU s'.heap a cls dx .none T
section
variable{X:Cx}{pins:Lo}{σ:St}{H H':Hp}{s s':Shared}{a T:Addr}{cls:Value}{dx:Option Addr}{M:Model}{A:Around}{E:Vs}
theorem hV.inv(L:hV X H s a T cls dx H' s')(I:Inv X pins σ H s):Inv X pins σ H' s':=I.oI (ch:=[]) L.os L.un L.aN L.bare λb hb=>absurd hb (by simp)
theorem hV.left{h':Heap}(L:hV X H s a T cls dx H' s')(I:Inv X pins σ H s)(x:gc (i9 X.stack) a T cls dx .none s'.heap h'):∃T',hV X H s a T' cls dx H' { s' with heap:=h' }:=by
 have J:=L.inv I;have na:∀b o,s.heap.get? b=some o->b≠a:=λb o e z=>by rw[z,L.fa]at e;cases e
 have nT:∀b o,s.heap.get? b=some o->b≠T:=λb o e z=>by rw[z,L.fT]at e;cases e
 obtain⟨T',hT,y⟩:=x.exc;have hT':s.heap.get? T'=none:=by
  cases q:s.heap.get? T' with
  |none=>rfl
  |some o=>
   obtain⟨o',q'⟩:=L.un.there T' o q (by simp);exact absurd (g8 (cH q') hT) (oP _)
 refine⟨T',L.os,L.bare,⟨λb o e n hb hx=>x.keep b o hb (na b o e) (nT b o e) (L.un.keep b o e n hb hx),λb o e n hb hx=>?_,L.un.free,λb o e hx=>?_,L.un.iD,L.un.hZ,L.un.hJ⟩,?_,L.fa,hT',L.na,L.aN.fresh hT,y⟩
 ·obtain⟨sl,q⟩:=L.un.slot b o e n hb hx;obtain⟨sl2,q2⟩:=x.slot b _ hb (na b o e) (nT b o e) q;exact⟨sl2,q2⟩
 ·obtain⟨o',q⟩:=L.un.there b o e hx;exact x.there b o' q
 ·refine L.aN.tracked λb o u hb q=>x.keep b o (λz=>?_) (λz=>by rw[z,L.na]at hb;cases hb) (λz=>by rw[z,L.nT]at hb;cases hb) q;have:=J.j_ b z;rw[this]at hb;cases hb
theorem hV.off{h':Heap}(L:hV X H s a T cls dx H' s')(k:∀b o,b≠T->s'.heap.get? b=some o->h'.get? b=some o)(hT:∃o,h'.get? T=some o)(y:fU h' a cls dx .none T):hV X H s a T cls dx H' { s' with heap:=h' }:=by
 have nT:∀b o,s.heap.get? b=some o->b≠T:=λb o e z=>by rw[z,L.fT]at e;cases e
 refine⟨L.os,L.bare,⟨λb o e n hb hx=>k b o (nT b o e) (L.un.keep b o e n hb hx),λb o e n hb hx=>?_,L.un.free,λb o e hx=>?_,L.un.iD,L.un.hZ,L.un.hJ⟩,?_,L.fa,L.fT,L.na,L.nT,y⟩
 ·obtain⟨sl,q⟩:=L.un.slot b o e n hb hx;exact⟨sl,k b _ (nT b o e) q⟩
 ·obtain⟨o',q⟩:=L.un.there b o e hx;exact⟨o',k b o' (nT b o e) q⟩
 ·exact L.aN.tracked λb o u hb q=>k b o (λz=>by rw[z,L.nT]at hb;cases hb) q
theorem hV.O0(L:hV X H s a T (.ref C) dx H' s')(I:Inv X pins σ H s):Inv X pins σ (upd H' a (XO a C dx)) s':=by
 have na:∀b o,s.heap.get? b=some o->b≠a:=λb o e z=>by rw[z,L.fa]at e;cases e
 have up:∀b u,H' b=some u->upd H' a (XO a C dx) b=some u:=λb u q=>by rw[ae (bf q L.na)];exact q
 refine I.oI (ch:=[]) L.os ⟨L.un.keep,L.un.slot,λb o e n hx=>?_,L.un.there,λb xs q=>up b _ (L.un.iD b xs q),λb o u q=>up b _ (L.un.hZ b o u q),λb ps q=>?_⟩ (λb u q=>?_) L.bare λb hb=>absurd hb (by simp)
 ·rw[ae (na b o e)];exact L.un.free b o e n hx
 ·obtain⟨m,z⟩:=L.un.hJ b ps q;exact⟨m,up b _ z⟩
 ·by_cases hb:b=a
  ·subst hb;rw[aJ]at q;cases q;exact XO.ok L.ex
  ·rw[ae hb]at q;exact(L.aN b u q).gM (λc v _ q=>q) (λc q=>up c _ q) λc xs q=>up c _ q
def J3(dx:Option Addr)(H:Hp):Prop:=dx=none\/∃d fs,dx=some d/\H d=some (.xd fs)
theorem hV.inst(L:hV X H s a T (.ref C) dx H' s')(hd:J3 dx H'):∃ox od,PySem.W.InstAt s'.heap a ox C od:=by
 obtain⟨oe,vs,oT,ts,he,hc,hdx,hdt,_⟩:=L.ex;rcases hd with e|⟨d,fs,e,hd⟩
 ·refine⟨oe,none,he,hc,?_,?_⟩
  ·unfold notCls;rw[hdt]
  ·rw[hdx,e];trivial
 ·obtain⟨o,q⟩:=(L.aN d _ hd).there;refine⟨oe,some o,he,hc,?_,?_⟩
  ·unfold notCls;rw[hdt]
  ·rw[hdx,e];exact q
theorem Gv{R:Shared->Prop}(hst:X.stack=X.env::X.outer)(hfr:X.env.frame=some X.env.locals)(L:hV X H s a T cls dx H' s')(I:Inv X pins σ H s)
  (h:∀T' s3,hV X H s a T' cls dx H' s3->R s3):wpAny M X.A (noteFrame (.ref a) X.env) (λ_ s2=>wpAny M X.A (setFlight (.ref a) none) (λ_ s3=>R s3) E s2) E s':=by
 have J:=L.inv I;refine qg (base:=X.base) (by rw[J.ok.frames,hst]) (by rw[<-hst];exact J.stack) hfr L.ex λh1 x=>?_;obtain⟨T1,hT,y⟩:=x.exc;refine e9 (s:={ s' with heap:=h1 }) y λh2 k hT2 z=>?_;obtain⟨T2,L2⟩:=L.left (h':=h2) I (by rw[hst];exact x.off hT k hT2 z);exact h T2 _ L2
theorem gB(I:Inv X pins σ H s)(hN:X.N.Nodup)(hi:X.N[i]?=some n)(hk:X.env.scope.names.lookup n=some .local)(h:∀s',Inv X pins (σ.set i none) H s'->Q () s'):
  wpAny M A (do bindName X.env n .none;unbindBehindTheSuite X.env n pos) Q E s:=by
 obtain⟨m,hn,hl⟩:=id I.loc;have hcls:(X.env.scope.kind == .class || (X.env.scope.kind == .module&&X.env.locals != X.env.globals))=false:=by rw[I.ok.kind];rfl
 have hiσ:i<σ.length:=by rw[I.len];exact(o6.mp hi).1
 have Jh:=I.Jh;refine wpAny_nameGoes_keeps hk hn hcls λh' v hn' hs=>?_;obtain⟨oL,_,_,hoL,_⟩:=id hn;refine h _ ⟨I.ok,I.os,I.bare,⟨λb o e n hb hx=>?_,λb o e n hb hx=>?_,I.base.free,λb o e hx=>?_,I.base.iD,I.base.hZ,I.base.hJ⟩,⟨_,hn',λj y v' e1 e2 e3=>?_⟩,λy c e=>?_,I.free,I.eD,λp hp=>?_,λb ob e=>?_,by simpa using I.len⟩
 ·exact(hs.2 b (fE (g8 (cH e) I.ok.above))).trans (I.base.keep b o e n hb hx)
 ·obtain⟨sl,e1⟩:=I.base.slot b o e n hb hx;exact⟨sl,(hs.2 b (fE (g8 (cH e) I.ok.above))).trans e1⟩
 ·obtain⟨o',e1⟩:=I.base.there b o e hx;exact⟨o',(hs.2 b (fE (g8 (cH e) I.ok.above))).trans e1⟩
 ·by_cases hj:j=i
  ·subst hj;rw[V6 hiσ]at e2;cases e2
  ·rw[PB (Ne.symm hj)]at e2;obtain⟨u',r',q⟩:=hl j y v' e1 e2 e3;refine⟨u',r',?_⟩;rcases q with ⟨k,e⟩|⟨k,c,e,z⟩
   ·refine .inl ⟨k,?_⟩;have:y≠n:=λe=>hj (m8 hN e1 (e▸hi));simp[this,e]
   ·exact .inr ⟨k,c,e,z.sameBut hs (Jh y c e)⟩
 ·obtain⟨w',z⟩:=I.cell y c e;exact⟨w',z.sameBut hs (Jh y c e)⟩
 ·obtain⟨e,n,ne,nf,d⟩:=I.pin p hp;exact⟨(hs.2 p.1 ne).trans e,n,ne,nf,d⟩
 ·refine(I.aN b ob e).gM (λc w' hc q=>(hs.2 c ?_).trans q) (λ_ q=>q) λ_ _ q=>q;rintro rfl;have fr:=I.free;rcases hc with rfl|hc
  ·rw[fr]at e;cases e
  ·rw[fr]at hc;cases hc
end
noncomputable def un1(i:Nat)(D:Ends):Ends:={ nx:=λσ H=>D.nx (σ.set i none) H,rt:=D.rt,bk:=λσ H=>D.bk (σ.set i none) H,ct:=λσ H=>D.ct (σ.set i none) H }
def MP(K:Wf)(B:Addr)(i:Nat)(tb:G_)(th:TS):TS:=λD σ H=>
 tb D (λσ' cls dx H'=>∃C,cls=.ref C/\Catch K B C/\J3 dx H'/\∀a,H' a=none->th (un1 i D) (σ'.set i (some (.ref a))) (upd H' a (XO a C dx))) σ H
def acy(K:Wf)(B:Addr)(tb:G_)(th:TS):TS:=λD σ H=>
 tb D (λσ' cls dx H'=>∃C,cls=.ref C/\Catch K B C/\J3 dx H'/\th D σ' H') σ H
section
variable{X:Cx}{body suite:List Stmt}{b₀:Stmt}{x n:Str}{B:Addr}{i:Nat}{np hpos pos:Pos}{tb:G_}{th:TS}
theorem Jn(hst:X.stack=X.env::X.outer)(hfr:X.env.frame=some X.env.locals)(hN:X.N.Nodup)(hi:X.N[i]?=some n)(hlo:X.env.scope.names.lookup n=some .local)(hg:Gl X x)(hm:X.mg x=some (.ref B))(hb:VW X body tb)
  (hs:∀a,pV (X.hand a) (b₀::suite) th) (hd:(x == ("__debug__" : Str))=false:=by decide):PS X (.Try body [.ExceptHandler (some (.Name x np)) (some n) (b₀::suite) hpos] [] [] pos) (MP X.K B i tb th):=by
 intro pins s σ H D I h;refine wpAny_Try_except (oN (hb pins s σ H D _ I h) (λf s1 q=>?_) λe s1 hx=>?_)
 ·cases f with
  |next=>exact Wb q
  |ret v=>exact q
  |brk=>exact q
  |cont=>exact q
 ·obtain⟨σ1,H1,s2,I1,a,T,cls,dx,H',rfl,ho,hg',u,aN,ha,hT,hHa,hHT,y,C,rfl,hcat,hdx,hth⟩:=hx;have L:hV X H1 s2 a T (.ref C) dx H' s1:=⟨ho,hg',u,aN,ha,hT,hHa,hHT,y⟩
  refine Gv hst hfr L I1 λT3 s3 L3=>?_;have J:=L3.inv I1;obtain⟨ox,od,ins⟩:=L3.inst hdx;refine wpAny_handleBy_cons (codeAny_handlers_test (iM (X:=X.hand a) (J.hand a) hg hm ?_ hd)) (by intro q;cases q);refine oZ J.ib ins hcat ?_;refine codeAny_handlers_suite_as ?_;refine e9 L3.ex λh4 k4 hT4 y4=>?_;have J4:=(L3.off k4 hT4 y4).O0 I1;refine fR (X:=X.hand a) (J4.hand a) hN hi (.inl hlo) (v:=.ref a) rfl (λs5 I5=>?_) (.inr hlo);refine noE (bj (hs a pins s5 _ _ (un1 i D) I5 (hth a hHa)) λf s6 q=>?_);have ok:=I.ok;cases f with
  |next=>
   obtain⟨σ',H2,I6,q⟩:=q;exact gB (I6.uY ok) hN hi hlo λs7 I7=>⟨_,H2,I7,q⟩
  |brk=>
   obtain⟨σ',H2,I6,q⟩:=q;exact gB (I6.uY ok) hN hi hlo λs7 I7=>⟨_,H2,I7,q⟩
  |cont=>
   obtain⟨σ',H2,I6,q⟩:=q;exact gB (I6.uY ok) hN hi hlo λs7 I7=>⟨_,H2,I7,q⟩
  |ret v=>
   obtain⟨v',σ',H2,I6,r,q⟩:=q;exact gB (I6.uY ok) hN hi hlo λs7 I7=>⟨v',_,H2,I7,r,q⟩
theorem G2{K:Wf}(e:X.K=K)(hst:X.stack=X.env::X.outer)(hfr:X.env.frame=some X.env.locals)(hN:X.N.Nodup)(hi:X.N[i]?=some n)(hlo:X.env.scope.names.lookup n=some .local)(hg:Gl X x)(hm:X.mg x=some (.ref B))(hb:VW X body tb)
  (hs:∀a,pV (X.hand a) (b₀::suite) th) (hd:(x == ("__debug__" : Str))=false:=by decide):PS X (.Try body [.ExceptHandler (some (.Name x np)) (some n) (b₀::suite) hpos] [] [] pos) (MP K B i tb th):=e▸Jn hst hfr hN hi hlo hg hm hb hs hd
end
section
variable{X:Cx}
def acv(t:TE):TE:=λσ H Q=>t σ H λx H1=>∃z,x=.str z/\(reprText z).length<=sizeLine/\Q (.str (reprText z)) H1
def acN(t:TE):TE:=λσ H Q=>t σ H λx H1=>(∃z,x=.str z/\z.length<=sizeLine/\Q (.str z) H1)\/∃i:Int,x=.int i/\i.natAbs.log2<1920/\Q (.str (toString i)) H1
noncomputable abbrev TJ:=Str->St->Hp->VK->Prop
noncomputable def acF:TJ:=λacc _ H Q=>acc.length<=sizeLine/\Q (.str acc) H
noncomputable def acz(t:TE)(u:TJ):TJ:=λacc σ H Q=>t σ H λx H1=>∃y,x=.str y/\(acc++y).length<=sizeLine/\u (acc++y) σ H1 Q
def aab(t:TJ):TE:=λσ H Q=>t Str.empty σ H Q
noncomputable def rJoin(K:Wf):V->List V->Hp->VK->Prop:=λx vs H Q=>∃z a zs,x=.str z/\vs=[.ref a]/\aI K H a (zs.map V.str)/\JoinOk z zs=true/\Q (.str (Txt.join z zs)) H
def TyX(K:Wf)(H:Hp)(x:V)(t:Value):Prop:=hU K H x t\/∃a C dx,x=.ref a/\t=.ref C/\H a=some (XO a C dx)/\J3 dx H/\Au K C
noncomputable def vOf:V->Value
 |.ref a=>.ref a
 |.ty n=>.type n
 |_=>.none
noncomputable def UB:V->Bool
 |.ref _=>true
 |.ty _=>true
 |_=>false
theorem QG{pins:Lo}{σ:St}{H:Hp}{s:Shared}{a C:Addr}{dx:Option Addr}(I:Inv X pins σ H s)(e:H a=some (XO a C dx))(hd:J3 dx H):∃ox od,PySem.W.InstAt s.heap a ox C od:=by
 obtain⟨⟨ob,vs,he,hc,hdx,hdt⟩,_⟩:=I.aN a _ e;rcases hd with e|⟨d,fs,e,hd⟩
 ·refine⟨ob,none,he,hc,?_,?_⟩
  ·unfold notCls;rw[hdt]
  ·rw[hdx,e];trivial
 ·obtain⟨o,q⟩:=(I.aN d _ hd).there;refine⟨ob,some o,he,hc,?_,?_⟩
  ·unfold notCls;rw[hdt]
  ·rw[hdx,e];exact q
noncomputable def W_(K:Wf):List V->Hp->VK->Prop:=λxs H Q=>∃x c t b,xs=[x,c]/\UB c=true/\TyX K H x t/\kitOne K t (vOf c)=some b/\Q (.bl b) H
theorem QT(h:UB c=true)(r:RelV c u):u=vOf c:=by
 cases c<;>first|exact r|cases h
theorem MF:cS X (.builtin "isinstance") (W_ X.K):=by
 intro pins s σ H xs us Q I r h;obtain⟨x,c,t,b,rfl,hc,ty,e,q⟩:=h;obtain⟨u,u2,rfl,ru,ru2⟩:=vals2 r;have e2:=QT hc ru2;subst e2;rcases ty with ty|⟨a,C,dx,rfl,rfl,ha,hd,xc⟩
 ·exact jA I ru ty e λtk=>⟨.bl b,H,I.tok tk,rfl,q⟩
 ·cases ru;obtain⟨ox,od,J⟩:=QG I ha hd;exact kia_one (JS xc) I.ib J e (λz=>nomatch z) λtk=>⟨.bl b,H,I.tok tk,rfl,q⟩
noncomputable def acO(K:Wf):List V->Hp->VK->Prop:=λxs H Q=>∃x tp cs t b,xs=[x,.ref tp]/\H tp=some (.tup cs)/\cs.all UB=true/\TyX K H x t/\PySem.W.kitAny K t (cs.map vOf)=some b/\Q (.bl b) H
theorem gF{K:Wf}(e:X.K=K):cS X (.builtin "isinstance") (W_ K):=e▸MF
end
section
variable{P:Program}{w:World}{K:Wf}{mg:So}{base:Heap}
theorem bQ.okE{x qual:Str}{st:Stmt}{f:Addr}{fd:FuncData}{N ps:List Str}{k:Nat}{sp:Sp}(F:bQ K x qual st f fd)(S:ai N ps (ag st))(len:∀vs H Q E,sp vs H Q E->vs.length=ps.length)
  (hbody:∀(cdv:Value) (A:Around) (outer:List Env) (s:Shared) (H:Hp) (vs:List V) (Q:VK) (E:XK),cg k (A.deeper (envOfC qual (ag st) s.heap.objs.size f cdv))->sp vs H Q E->
   ∃t,pV (jv (Hr P w) P w K mg base N qual (ag st) f cdv A outer s H E) (dq st) t/\t { nx:=λ_ H'=>Q .bI H',rt:=Q } (start N vs) H):aG P w K mg base (Hr P w) (k+1) f fd ps sp:=by
 obtain⟨oc,od,kV,doc,pm,an,cdv,ct,osl,rfl,lk,hcd⟩:=F.ex;refine N6 lk hcd S len λA outer s H vs Q E hr hsp=>?_;obtain⟨t,h,q⟩:=hbody cdv A outer s H vs Q E hr hsp;exact⟨t,h,q⟩
end
end L2
namespace L2
theorem Mq(h1:PE X e t)(h2:PE X e u):PE X e (λσ H Q=>t σ H Q\/u σ H Q):=λpins s σ H Q I h=>by
 rcases h with h|h
 ·exact h1 pins s σ H Q I h
 ·exact h2 pins s σ H Q I h
end L2
namespace L2
open PySem PySem.Spec PyProof.Rows
theorem Iq:Passes (Hr X.prog X.w) X E0:=λ_ _ _ _ _ _ _ h=>by
 obtain⟨_,_,_,_,_,_,_,_,_,_,_,_,_,_,_,z⟩:=h;exact z.elim
structure aq where
 a:Addr
 at_:Int
 rule:Str
 name:Str
 add:Int
 soft:Bool
structure bJ where
 t:Addr
 lw:Addr
 lf:Addr
 kind:Str
 step:Int
 words:List Int
 fills:List aq
structure ax where
 a:Addr
 name:Str
 sort:Str
 st:Int
 off:Int
structure aD where
 t:Addr
 ls:Addr
 ln:Addr
 name:Str
 bW:List bJ
 bL:List ax
noncomputable abbrev aq.v(f:aq):V:=.ref f.a
noncomputable abbrev bJ.v(s:bJ):V:=.ref s.t
noncomputable abbrev ax.v(n:ax):V:=.ref n.a
noncomputable abbrev aD.v(p:aD):V:=.ref p.t
def aq.At(H:Hp)(f:aq):Prop:=H f.a=some (.tup [.int f.at_,.str f.rule,.str f.name,.int f.add,.bl f.soft])
def ax.At(H:Hp)(n:ax):Prop:=H n.a=some (.tup [.str n.name,.str n.sort,.int n.st,.int n.off])
structure bJ.At(H:Hp)(s:bJ):Prop where
 top:H s.t=some (.tup [.str s.kind,.int s.step,.ref s.lw,.ref s.lf])
 wd:H s.lw=some (.lst (s.words.map V.int))
 fl:H s.lf=some (.lst (s.fills.map aq.v))
 fs:∀f∈s.fills,f.At H
structure aD.At(H:Hp)(p:aD):Prop where
 top:H p.t=some (.tup [.str p.name,.ref p.ls,.ref p.ln])
 sl:H p.ls=some (.lst (p.bW.map bJ.v))
 nl:H p.ln=some (.lst (p.bL.map ax.v))
 ss:∀s∈p.bW,s.At H
 ns:∀n∈p.bL,n.At H
noncomputable def bJ.lists(s:bJ):List Addr:=[s.lw,s.lf]
noncomputable def aD.lists(p:aD):List Addr:=p.ls::p.ln::p.bW.flatMap bJ.lists
noncomputable def bC(ps:List aD):List Addr:=ps.flatMap aD.lists
structure oO(H:Hp)(L:Addr)(ps:List aD):Prop where
 top:H L=some (.lst (ps.map aD.v))
 at_:∀p∈ps,p.At H
 nd:(L::bC ps).Nodup
theorem aq.At.mono{H H':Hp}{f:aq}(h:f.At H)(e:aL H H'):f.At H':=e _ _ h
theorem ax.At.mono{H H':Hp}{n:ax}(h:n.At H)(e:aL H H'):n.At H':=e _ _ h
theorem bJ.At.mono{H H':Hp}{s:bJ}(h:s.At H)(e:aL H H'):s.At H':=⟨e _ _ h.top,e _ _ h.wd,e _ _ h.fl,λf hf=>(h.fs f hf).mono e⟩
theorem aD.At.mono{H H':Hp}{p:aD}(h:p.At H)(e:aL H H'):p.At H':=⟨e _ _ h.top,e _ _ h.sl,e _ _ h.nl,λs hs=>(h.ss s hs).mono e,λn hn=>(h.ns n hn).mono e⟩
theorem oO.mono{H H':Hp}{L:Addr}{ps:List aD}(h:oO H L ps)(e:aL H H'):oO H' L ps:=⟨e _ _ h.top,λp hp=>(h.at_ p hp).mono e,h.nd⟩
def ph(H H':Hp)(l:Addr):Prop:=(∃xs,H l=some (.lst xs))/\∀b o,H b=some o->b≠l->H' b=some o
theorem ph.upd(h:H l=some (.lst xs)):ph H (L2.upd H l o) l:=⟨⟨xs,h⟩,λb u e n=>by rw[ae n];exact e⟩
theorem ph.tup{H H':Hp}{l a:Addr}{xs:List V}(b:ph H H' l)(h:H a=some (.tup xs)):H' a=some (.tup xs):=by
 obtain⟨ys,hl⟩:=b.1;exact b.2 _ _ h λe=>by rw[e,hl]at h;cases h
theorem aq.At.but{H H':Hp}{l:Addr}{f:aq}(h:f.At H)(b:ph H H' l):f.At H':=b.tup h
theorem ax.At.but{H H':Hp}{l:Addr}{n:ax}(h:n.At H)(b:ph H H' l):n.At H':=b.tup h
theorem bJ.At.but{H H':Hp}{l:Addr}{s:bJ}(h:s.At H)(b:ph H H' l)(n:l∉s.lists):s.At H':=
 ⟨b.tup h.top,b.2 _ _ h.wd λe=>n (by simp[bJ.lists,e]),b.2 _ _ h.fl λe=>n (by simp[bJ.lists,e]),λf hf=>(h.fs f hf).but b⟩
theorem aD.At.but{H H':Hp}{l:Addr}{p:aD}(h:p.At H)(b:ph H H' l)(n:l∉p.lists):p.At H':=
 ⟨b.tup h.top,b.2 _ _ h.sl λe=>n (by simp[aD.lists,e]),b.2 _ _ h.nl λe=>n (by simp[aD.lists,e]),
  λs hs=>(h.ss s hs).but b λz=>n (by simp only[aD.lists,List.mem_cons];exact .inr (.inr (List.mem_flatMap.mpr ⟨s,hs,z⟩))),λm hm=>(h.ns m hm).but b⟩
theorem bJ.At.list{H:Hp}{s:bJ}(h:s.At H){b:Addr}(hb:b∈s.lists):∃xs,H b=some (.lst xs):=by
 simp only[bJ.lists,List.mem_cons,List.not_mem_nil,or_false]at hb;rcases hb with e|e
 ·rw[e];exact⟨_,h.wd⟩
 ·rw[e];exact⟨_,h.fl⟩
theorem aD.At.list{H:Hp}{p:aD}(h:p.At H){b:Addr}(hb:b∈p.lists):∃xs,H b=some (.lst xs):=by
 simp only[aD.lists,List.mem_cons]at hb;rcases hb with e|e|e
 ·rw[e];exact⟨_,h.sl⟩
 ·rw[e];exact⟨_,h.nl⟩
 ·obtain⟨s,hs,z⟩:=A_.mp e;exact(h.ss s hs).list z
theorem oO.list{H:Hp}{L:Addr}{ps:List aD}(h:oO H L ps){b:Addr}(hb:b∈L::bC ps):∃xs,H b=some (.lst xs):=by
 rcases i_.mp hb with e|e
 ·rw[e];exact⟨_,h.top⟩
 ·obtain⟨p,hp,z⟩:=A_.mp e;exact(h.at_ p hp).list z
theorem oO.fresh(h:oO H L ps){b:Addr}(hb:H b=none):b∉L::bC ps:=λz=>by
 obtain⟨xs,e⟩:=h.list z;rw[hb]at e;cases e
theorem cy(ps:List aD)(p:aD):bC (ps++[p])=bC ps++p.lists:=by simp[bC,List.flatMap_append]
theorem oO.apart(h:oO H L (ps++[p])):(∀q∈ps,∀b∈p.lists,b∉q.lists)/\p.lists.Nodup/\L∉p.lists/\∀q∈ps,L∉q.lists:=by
 have n:=h.nd;rw[cy]at n;obtain⟨n1,n2⟩:=Fm.mp n;obtain⟨n3,n4,n5⟩:=Ee.mp n2;refine⟨λq hq b hb z=>n5 b (A_.mpr ⟨q,hq,z⟩) b hb rfl,n4,λz=>n1 (oQ _ z),λq hq z=>n1 (BP _ (A_.mpr ⟨q,hq,z⟩))⟩
theorem oO.nil(h:H L=some (.lst [])):oO H L []:=⟨h,λp hp=>absurd hp (by simp),by simp[bC]⟩
theorem oO.last(h:oO H L (ps++[p]))(hl:l∈p.lists)(ht:p'.t=p.t)(hp:p'.At (upd H l o))(hn:(L::bC (ps++[p'])).Nodup):oO (upd H l o) L (ps++[p']):=by
 obtain⟨a1,a2,a3,a4⟩:=h.apart;obtain⟨xs,hx⟩:=(h.at_ p (by simp)).list hl;have b:ph H (upd H l o) l:=ph.upd hx;refine⟨?_,λq hq=>?_,hn⟩
 ·rw[b.2 _ _ h.top λe=>a3 (by rw[e];exact hl)];simp[aD.v,ht]
 ·rcases fY.mp hq with z|z
  ·exact(h.at_ q (BP _ z)).but b (a1 q z l hl)
  ·rw[fN.mp z];exact hp
theorem oO.Uh{H:Hp}{L t lw lf:Addr}{kind:Str}{step:Int}{ps:List aD}{p:aD}(h:oO H L (ps++[p]))(h1:H t=some (.tup [.str kind,.int step,.ref lw,.ref lf]))(h2:H lw=some (.lst []))(h3:H lf=some (.lst []))
  (n1:lw≠lf) (n2:lw∉L::bC (ps++[p])) (n3:lf∉L::bC (ps++[p])):
  oO (upd H p.ls (.lst (p.bW.map bJ.v++[.ref t]))) L (ps++[{ p with bW:=p.bW++[⟨t,lw,lf,kind,step,[],[]⟩] }]):=by
 have hp:=h.at_ p (by simp);obtain⟨a1,a2,a3,a4⟩:=h.apart;have b:ph H (upd H p.ls (.lst (p.bW.map bJ.v++[.ref t]))) p.ls:=ph.upd hp.sl;have in1:∀x,x∈p.lists->x∈L::bC (ps++[p]):=λx hx=>Bv _ (by rw[cy];exact oQ _ hx);have hls:p.ls∈p.lists:=by simp[aD.lists]
 have nd:p.ls≠p.ln/\p.ls∉p.bW.flatMap bJ.lists:=by
  have:=a2;simp only[aD.lists,List.nodup_cons,List.mem_cons,not_or]at this;exact this.1
 refine h.last hls rfl ⟨b.tup hp.top,by rw[aJ];simp,b.2 _ _ hp.nl (Ne.symm nd.1),λs hs=>?_,λn hn=>(hp.ns n hn).but b⟩ ?_
 ·rcases fY.mp hs with z|z
  ·exact(hp.ss s z).but b λq=>nd.2 (A_.mpr ⟨s,z,q⟩)
  ·have e:=fN.mp z;subst e;exact⟨b.tup h1,b.2 _ _ h2 λ(e:lw=p.ls)=>n2 (in1 _ (e▸hls)),b.2 _ _ h3 λ(e:lf=p.ls)=>n3 (in1 _ (e▸hls)),λf hf=>absurd hf (by simp)⟩
 ·have e:L::bC (ps++[{ p with bW:=p.bW++[⟨t,lw,lf,kind,step,[],[]⟩] }])=(L::bC (ps++[p]))++[lw,lf]:=by
   rw[cy,cy];simp[aD.lists,bJ.lists,List.flatMap_append]
  rw[e];refine Ee.mpr ⟨h.nd,by simp[n1],λx hx y hy e=>?_⟩;subst e;simp only[List.mem_cons,List.not_mem_nil,or_false]at hy;rcases hy with e|e
  ·subst e;exact n2 hx
  ·subst e;exact n3 hx
theorem J0:PE X e (λ_ _ _=>False):=λ_ _ _ _ _ _ h=>h.elim
end L2
namespace L2
open PySem PySem.Spec PyProof.Rows PySem.W
noncomputable abbrev VE:List Value:=[.type "ValueError", .type "Exception", .type "BaseException", .type "object"]
noncomputable def ownInit(K:Frag)(C fI:Addr):Bool:=
 match K.lookup C with
 |none=>false
 |some ob=>
  match ob.cls,ob.data,ob.slots.toList with
  |.type "type", .cls cd,[_,_,_,_,some (.builtin n),_]=>
   (match cd.mro with
    |.ref C'::bm=>C' == C&&(n == "ValueError.__new__" && (!cd.hasDel&&(tailIn K VE bm&&(nsOkIn K cd.ns&&(cd.hasDict&&nsIn K cd.ns "__init__" == some (some (.ref fI)))))))
    |_=>false)
  |_,_,_=>false
section
variable{prog:Program}{w:World}{A:Around}{E:Vs}{h:Heap}{g:Array GenState}{d:Drawn}{t:Nat}{os:OsState}
variable{nm q:Str}{C N:Addr}{bs bm bmB:List Value}{hdct:Bool}{sn:List Str}{sub:List Value}{ab:Bool}{col:Option Bool}{dd:Option Addr}{k0 k1 k2 k3 k5:Option Value}{B newId initId:String}
end
noncomputable def DN:List Value->Bool
 |.ref _::r=>DN r
 |l=>l == VE
noncomputable def Wv(K:Frag)(C:Addr):Bool:=(clsIn K C).any λcd=>cd.hasDict&&DN cd.mro
section
variable{prog:Program}{w:World}{A:Around}{E:Vs}{s:Shared}{K:Frag}{x C:Addr}{R:Result->Shared->Prop}
end
end L2
namespace L2
open PySem PySem.Spec PyProof.Rows PySem.W
section
variable{M:Model}{A:Around}{E:Vs}{env:Env}
variable{nm q:Str}{C N:Addr}{bs bm:List Value}{hdct:Bool}{sn:List Str}{sub:List Value}{ab:Bool}{col:Option Bool}{dd:Option Addr}{k0 k1 k2 k3 k5:Option Value}{newId:String}
end
section
variable{prog:Program}{w:World}{A:Around}{E:Vs}{s:Shared}{env:Env}
variable{nm q:Str}{C N:Addr}{bs bm bmB:List Value}{hdct:Bool}{sn:List Str}{sub:List Value}{ab:Bool}{col:Option Bool}{dd:Option Addr}{k0 k1 k2 k3 k5:Option Value}{B newId initId:String}
end
noncomputable def XN(a C:Addr)(dx:Option Addr):HO:=.ext λh=>∃ob vs v0,h.get? a=some ob/\ob.cls=.ref C/\ob.dict=dx/\ob.data=.fields vs/\vs[0]?=some v0/\vs[1]?=some .none
noncomputable def XD(d:Addr)(fs:List (Str×V)):HO:=.ext λh=>∃mA,h.Ns1 d mA/\(∀f,fu (fs.lookup f) (mA f))/\PySem.Within mA (fs.map (·.1))
noncomputable def del(H:Hp)(a:Addr):Hp:=λb=>if b=a then none else H b
section
variable{X:Cx}{pins:Lo}{σ:St}{H:Hp}{s:Shared}{a C:Addr}{φ:Heap->Prop}
end
end L2
namespace L2
open PySem PySem.Spec PyProof.Rows PySem.W
structure Zu(K:Frag)(C f:Addr):Prop where
 ini:ownInit K C f=true
 ei:Wv K C=true
 sa:findIn K (.ref C) "__setattr__" = some (some (.builtin "object.__setattr__"))
 fn:isFn K (.ref f)=true
def aac(C:Addr)(sp:Sp)(E:XK)(t:TA):TS:=λ_ σ H=>t σ H λvs H1=>vs.length<=sizeLine/\∀x,H1 x=none->sp (.ref x::vs) (upd H1 x (XN x C none)) (λv H2=>v=.bI/\
 ((H2 x=some (XN x C none)/\E (.ref C) none (del H2 x))\/∃d fs,d≠x/\H2 x=some (XN x C (some d))/\H2 d=some (XD d fs)/\E (.ref C) (some d) (del (upd H2 d (.xd fs)) x))) E0
def aaP(K:Frag)(t:TA):TE:=λσ H Q=>t σ H λvs H1=>∃a C dx rest f,vs=.ref a::rest/\H1 a=some (XN a C dx)/\Zu K C f/\rest.length<=sizeLine/\Q .bI H1
def acx(K:Frag)(ta tv:TE)(f:Str):TS:=λD σ H=>tv σ H λy H1=>ta σ H1 λx H2=>∃a C fI dx,x=.ref a/\H2 a=some (XN a C dx)/\Zu K C fI/\bu K C f/\
 ((dx=none/\∀d,H2 d=none->D.nx σ (upd (upd H2 d (XD d [(f,y)])) a (XN a C (some d))))\/∃d fs,dx=some d/\H2 d=some (XD d fs)/\fs.length<1000/\D.nx σ (upd H2 d (XD d (putF f y fs))))
def acu(K:Frag)(ta:TE)(f:Str):TE:=λσ H Q=>ta σ H λx H1=>∃a C d fs v,x=.ref a/\H1 a=some (XO a C (some d))/\H1 d=some (.xd fs)/\Au K C/\hasDictIn K C=true/\bu K C f/\fs.lookup f=some v/\Q v H1
section
variable{X:Cx}{x f:Str}{B C fI:Addr}{k:Nat}{fd:FuncData}{ps:List Str}{sp:Sp}{E:XK}{e o value:Expr}{es:List Expr}{p np apos cpos pos pos':Pos}{t:TA}{ta tv:TE}
end
end L2
namespace L2
open PySem PySem.Spec PyProof.Rows
section
variable{X:Cx}
end
section
variable{X:Cx}
theorem gE{elt iter tg:Expr}{ifs:List Expr}{scope:Scope}{pos spos py:Pos}{y:Str}{i:Nat}{N':List Str}{k:Nat}{fm:List Nat}{wi:TI}{g:TG}{tt:TT}{te:TE}(hN:X.N.Nodup)(hi':X.N[i]?=some y)(hy:Loc X.env.scope y)(B:gk X N' k fm scope)(hc:X.calm=true)(hi:PI X tg iter wi)
  (hb:∀fp s H,PG (F8 X N' scope fp s H) tg g/\ZO (F8 X N' scope fp s H) ifs tt/\PE (F8 X N' scope fp s H) elt te)
  (hsw:swapsWith (.ListComp elt [⟨tg,iter,ifs,0⟩] scope pos) (some (.Name y py)) spos.line X.env=pure true:=by rfl)
  (hs:∀x,foldedSetIterable iter X.env x=pure x:=by intro _;rfl) (hfn:X.fn y=true\/X.env.scope.names.lookup y=some .local:=by first|exact .inl rfl|exact .inr rfl|assumption):
  PS X (.Assign [.Name y py] (.ListComp elt [⟨tg,iter,ifs,0⟩] scope pos) spos) (Rj (oo k fm wi g tt te) (zM i)):=by
 intro pins s σ H DD I h;have hfree:∀x∈scope.names,x.2=.free->∃c,X.env.cells.lookup x.1=some c:=λx hx hk=>I.ok.has x.1 (B.free x hx hk);rw[exec_Assign_Name_used _ _ _ _ hsw];refine aw (wpAny_standAt (aw ?_));show wpAny _ X.A (do let _ <-comprehension (.ListComp elt [⟨tg,iter,ifs,0⟩] scope pos) scope X.env _ (newList []) false (eval iter X.env) (some (assign (.Name y py) X.env))) _ _ s;refine aw (oN (wpAny_comprehension_free (use:=some (assign (.Name y py) X.env)) (Q:=λ_ s'=>SP X pins DD .next s') rfl hs (gY hfree) B.kind B.names (bj (hi pins s σ H _ I h) λv s1 h1=>bj h1 λitv s2 h2=>?_)) (λ_ s' hq=>bc (bc hq)) λ_ _ e=>e);obtain⟨it,fp,tn,J,H2,e,I2,T,st2,f2,h2⟩:=h2;subst e;obtain⟨W,⟨m0,w0⟩,turn⟩:=h2 s2.heap.objs.size I2.fresh;refine Hk (wpAny_newFunctionEnv B.Bl (by intro y hy;simp at hy) (λh4 hns4 hsb4=>?_) B.kind);have I3:=I2.UY (its:=[]) (ys:=[]) (t':=s2.toks) .nil (i8 _);have hf3:∀b∈fp,eO X pins (upd H2 s2.heap.objs.size (.lst [])) b:=λb hb=>by
  obtain⟨o,e,_⟩:=T.obj _ _ st2 b hb;refine⟨?_,(f2 b hb).2⟩;rw[ae (λz=>oP _ (z▸cH e))];exact(f2 b hb).1
 have ho3:∀b∈fp,∃o,(s2.heap.push { cls:=.type "list", data:=.seq ([]:List Value).toArray }).get? b=some o:=λb hb=>by
  obtain⟨o,e,_⟩:=T.obj _ _ st2 b hb;exact⟨o,dM _ e⟩
 have kp4:∀b o,(s2.heap.push { cls:=.type "list", data:=.seq ([]:List Value).toArray }).get? b=some o->h4.get? b=some o:=λb o e=>
  hsb4.extBut b o (λz=>oP _ (z▸cH e)) (dM _ e)
 have I4:=I3.block (fp:=fp) (h':=h4) (tk:=s2.toks+([]:List (Str×Value)).length) B hf3 ho3 hns4 kp4;generalize hs3:({ s2 with heap:=s2.heap.push { cls:=.type "list", data:=.seq ([]:List Value).toArray },toks:=s2.toks }:Shared)=s3 at *;obtain⟨hg,ht,he⟩:=hb fp s3 (upd H2 s2.heap.objs.size (.lst []));have st4:tn 0 h4:=T.keep _ _ _ st2 λb hb o e=>kp4 b o (dM _ e);have stat:∀{H':Hp},(∀b∈fp,H' b=none)->∀b∈fp,eO (F8 X N' scope fp s3 (upd H2 s2.heap.objs.size (.lst []))) [] H' b:=λ{H'} hn b hb=>by
  obtain⟨f0,f1,f3,f4,f5,f6⟩:=hf3 b hb;obtain⟨g1,g2⟩:=I4.ok.Wc b hb;exact⟨hn b hb,g1,I4.ok.zy b hb,.inl hb,g2,λp hp=>f6 p ((fY.mp hp).elim (λz=>BP _ z) λz=>absurd z (by simp))⟩
 have loop:codeAny (model X.prog X.w) X.A (.compLoop (.ListComp elt [⟨tg,iter,ifs,0⟩] scope pos) 0 (.ref it) (.ref s2.heap.objs.size) (compEnvC scope (jM X.env scope.names []) s3.heap.objs.size X.env))
   (compPost (model X.prog X.w) X.A X.xe (some (assign (.Name y py) X.env)) (λ_ s'=>SP X pins DD .next s') (.ref s2.heap.objs.size) s3.heap.objs.size) { s3 with heap:=h4,toks:=s2.toks+([]:List (Str×Value)).length }:=by
  refine Al (X:=F8 X N' scope fp s3 (upd H2 s2.heap.objs.size (.lst []))) (D:=s2.heap.objs.size) (Q:=λv H'=>DD.nx (σ.set i (some v)) H') (W:=W) (m0:=m0) rfl hc T stat hg ht he turn I4 st4 (λb hb=>(hf3 b hb).1) w0 ?_;intro H' s' I' q;obtain⟨m,hn,_⟩:=I'.loc;have hCn:s3.heap.get? s3.heap.objs.size=none:=by
   cases e:s3.heap.get? s3.heap.objs.size with
   |none=>rfl
   |some o=>exact absurd (cH e) (oP _)
  have J:∀h'':Heap,(∀b o,b≠s3.heap.objs.size->s'.heap.get? b=some o->h''.get? b=some o)->Inv X pins σ H' { s' with heap:=h'' }:=λh'' hk=>by
   have u:Un (i9 X.stack) fp (upd H2 s2.heap.objs.size (.lst [])) H' s3.heap h'':=Un.tail I'.base hk hCn;refine I3.oI (s':={ s' with heap:=h'' }) (ch:=fp) I'.os u (I'.aN.tail hk I'.free) I'.bare λb hb=>?_;obtain⟨f0,f1,f3,f4,f5,f6⟩:=hf3 b hb;exact⟨f4,f1,f5,f6⟩
  have J1:Inv X pins σ H' s':=J s'.heap λ_ _ _ e=>e;obtain⟨oC,es,ep,hoC,hdC,rC⟩:=hn;have hCf:H' s3.heap.objs.size=none:=I'.free;have hCL:s3.heap.objs.size≠X.env.locals:=Ne.symm (fE I3.lt);have hCfs:=I3.YK (bA _);have J2:Inv X (pins++[(s3.heap.objs.size,oC)]) σ H' s':=J1.j9 λp hp=>by
   rcases fY.mp hp with z|z
   ·exact J1.pin p (oQ _ z)
   ·rw[fN.mp z];exact⟨hoC,hCf,hCL,hCfs,λv e=>by rw[hdC]at e;cases e⟩
  show wpAny _ X.A (assign (.Name y py) X.env (.ref s2.heap.objs.size)) _ _ _;refine wpAny_assign_Name (fR J2 hN hi' hy (v:=.ref s2.heap.objs.size) rfl (λs5 I5=>?_) hfn);have hC5:=(I5.pin (s3.heap.objs.size,oC) (oQ _ (oQ _ (fN.mpr rfl)))).1;refine⟨m,⟨oC,es,ep,hC5,hdC,rC⟩,λh'' hs''=>?_⟩;have I6:Inv X pins (σ.set i (some (.ref s2.heap.objs.size))) H' s5:=I5.j9 λp hp=>I5.pin p (oQ _ (BP _ hp));refine⟨_,H',I6.m9 (t':=s5.toks) (it:=s3.heap.objs.size) (λb o hb e=>hs''.extBut b o hb e) hCf hCL (.inr I3.sz) (λx c e z=>?_) (λp hp z=>?_),q⟩
  ·obtain⟨v,o,ho,_⟩:=I3.cell x c e;rw[z]at ho;exact absurd (cH ho) (oP _)
  ·have z':=(I3.pin p hp).1;rw[z]at z';exact absurd (cH z') (oP _)
 subst hs3;exact codeAny_compStart_list loop (T.self X.A 0 _ _ _ st4 loop)
end
section
variable{prog:Program}{w:World}{K:Type} [DecidableEq K]{knd:KeyKind prog w K}{A:Around}{E:Vs}{s:Shared}
end
section
variable{X:Cx}
def aad(K:Wf):R2:=λx y H Q=>∃p q kvs,x=.ref p/\y=.ref q/\H p=some (.dK kvs)/\H q=some (.dK kvs)/\(∀kv∈kvs,∃d,Rep K H d kv.2/\dep d<=20)/\Q (.bl true) H
noncomputable def aaa:List V->Hp->VK->Prop:=λxs H Q=>∃p kvs,xs=[.ref p]/\H p=some (.dK kvs)/\∀q,H q=none->Q (.ref q) (upd H q (.dK kvs))
noncomputable def abz(x:V)(xs:List V):Nat:=xs.countP λy=>eqV y x
noncomputable def abQ(K:Wf):V->List V->Hp->VK->Prop:=λx vs H Q=>∃p xs y,x=.ref p/\vs=[y]/\aI K H p xs/\DC y=true/\xs.all DC=true/\Q (.int (abz y xs:Nat)) H
end
section
variable{M:Model}{A:Around}{E:Vs}{s:Shared}
end
section
variable{prog:Program}{w:World}{A:Around}{R:Result->Shared->Prop}{s:Shared}
end
section
variable{X:Cx}
def S_(E:XK)(k:Nat)(fm:List Nat)(wi:TI)(g:TG)(tt:TT)(te:JT):TE:=λσ H Q=>wi σ H λJ H1=>∀D,H1 D=none->∃W:Nat->Nat->List V->Hp->Prop,
 (∃m,W 0 m [] (upd H1 D (.lst [])))/\∀i m ys H2,W i m ys H2->H2 D=some (.lst ys)/\ys.length<sizeLine/\((J.stop i H2/\Q (.ref D) H2)\/(J.go i H2/\∃N:List V->Hp->Prop,(∀ys' H',N ys' H'->∃m',m'<m/\W (i+1) m' ys' H')/\∀x H3,J.F7 i H2 x H3->
  g x (eh k fm σ) H3 λσ3 H4=>Ext (eh k fm σ) σ3/\tt σ3 H4 λb H5=>if b=true then te σ3 H5 (λy H6=>H6 D=some (.lst ys)/\N (ys++[y]) (upd H6 D (.lst (ys++[y])))) E else N ys H5))
end
def VU(E:XK)(g:TG)(tt:TT)(te:JT)(σ0:St)(Q:VK)(J:It)(H1:Hp):Prop:=∀DD,H1 DD=none->∃W:Nat->Nat->List V->Hp->Prop,
 (∃m,W 0 m [] (upd H1 DD (.lst [])))/\∀i m ys H2,W i m ys H2->H2 DD=some (.lst ys)/\ys.length<sizeLine/\((J.stop i H2/\Q (.ref DD) H2)\/(J.go i H2/\∃N:List V->Hp->Prop,(∀ys' H',N ys' H'->∃m',m'<m/\W (i+1) m' ys' H')/\∀x H3,J.F7 i H2 x H3->
  g x σ0 H3 λσ3 H4=>Ext σ0 σ3/\tt σ3 H4 λb H5=>if b=true then te σ3 H5 (λy H6=>H6 DD=some (.lst ys)/\N (ys++[y]) (upd H6 DD (.lst (ys++[y])))) E else N ys H5))
def S9(K:Wf)(E:XK)(g:TG)(tt:TT)(te:JT)(σ0:St)(Q:VK):VK:=λx H1=>∃a,x=.ref a/\(∃xs,aI K H1 a xs)/\VU E g tt te σ0 Q (Kr K a) H1
section
variable{K:Wf}{k:Nat}{fm:List Nat}{tl:TE}{te:JT}{g:TG}{tt:TT}{σ σ0:St}{H H1:Hp}{Q:VK}{E:XK}
theorem Sm:S_ E k fm (zt K tl) g tt te σ H Q=tl σ H (S9 K E g tt te (eh k fm σ) Q):=rfl
end
section
variable{M:Model}{A:Around}{E:Vs}{s:Shared}
end
section
variable{X:Cx}
end
def GN(a b:Str):Prop:=a.cps.toList<=b.cps.toList
theorem GO(x:GN a b)(y:GN b c):GN a c:=List.le_trans x y
theorem qd:∀{l:List Str}{p:Str},risingS p l=true->(p::l).Pairwise GN
 |[],p,_=>List.pairwise_singleton ..
 |x::r,p,h=>by
  rw[risingS,zx,ltCps_eq]at h;have px:GN p x:=by
   have z:=h.1;rw[Bool.not_eq_true',decide_eq_false_iff_not]at z;exact z
  have ih:=qd h.2;refine List.Pairwise.cons (λy hy=>?_) ih;rcases i_.mp hy with rfl|hy
  ·exact px
  ·exact GO px ((List.pairwise_cons.mp ih).1 y hy)
theorem G3:∀{l:List Str},sortedS l=true->l.Pairwise GN
 |[],_=>.nil
 |_::_,h=>qd h
theorem sy:∀{ss:List Str}{us:List Value},StrsAre us ss->Vals (ss.map V.str) us
 |_,_,.nil=>.nil
 |_,_,.cons x k t=>.cons ⟨k,rfl⟩ (sy t)
theorem uZ:∀{us:List Value}{ss:List Str},us.length=ss.length->(∀(j:Nat) (v:Value),us[j]?=some v->∃y k,ss[j]?=some y/\v=Value.str y k)->StrsAre us ss
 |[],[],_,_=>.nil
 |u::us,s::ss,hl,h=>by
  obtain⟨y,k,e,rfl⟩:=h 0 u rfl;cases e;exact .cons _ k (uZ (by simpa using hl) λj v hv=>by simpa using h (j+1) v (by simpa using hv))
theorem pK{prog:Program}{w:World}{A:Around}{E:Vs}{s:Shared}{a:Value}{Q:Vs}
  (hc:wpAny (model prog w) A.in1 (collect a) (λvs s1=>∃ss:List Str,StrsAre vs ss/\vs.length<64/\
   ∀(h':Heap) (out:List Value) (ss':List Str) (D:Addr) (e:Nat),(∀b o,s1.heap.get? b=some o->h'.get? b=some o)->s1.heap.objs.size<=D->h'.get? D=some (seqObj "list" out.toArray e)->
    StrsAre out ss'->ss'.Perm ss->ss'.Pairwise GN->Q (.ref D) { s1 with heap:=h' }) E s):
  wpAny (model prog w) A (call (.builtin "sorted") [a]) Q E s:=by
 refine Calls.call_function_entry kind_sorted plain_sorted entry_sorted (args_sorted1 _) ?_;unfold Builtin.«sorted»;refine aw (m:=checkCount "sorted" 1 1 _) (bc ?_);refine aw (oN hc (λvs s1 hv=>?_) λ_ _ z=>z);obtain⟨ss,S,hz,q⟩:=hv;refine aw (wpAny_newList ?_ (by rw[sizeLine_eq];omega));have hoL:(s1.heap.push (seqObj "list" vs.toArray 0)).get? s1.heap.objs.size=some (seqObj "list" vs.toArray 0):=iu _ rfl;refine aw (AS (RU slot_list_sort ⟨_,hoL,rfl⟩ entry_list_sort
  (list_sort_treeK strKind_oneLt hoL S.keysOf (λv₁ v₂ rest z=>keyKind_strs (by rw[<-z];exact S)) hz λst a1 a2=>⟨_,rfl,?_⟩) (args_list_sort _)))
 obtain⟨ss',t1,t2,t3⟩:=sorted_out_str S a1 a2;obtain⟨e,he⟩:=sortedHeap_at (out:=(arrOf st).map (·.2)) hoL;refine bc ⟨_,rfl,q _ ((arrOf st).map (·.2)).toList ss' s1.heap.objs.size e (λb o z=>?_) (bA _) (by rw[Array.toArray_toList];exact he) t1 t2 (G3 t3)⟩;have lt:=cH z;rw[sortedHeap_old (fE lt) (by rw[size_push'];exact Nat.lt_succ_of_lt lt)];exact dM _ z
section
variable{X:Cx}
noncomputable def IK:List V->Hp->VK->Prop:=λxs H Q=>∃p kvs,∃ss:List Str,xs=[.ref p]/\H p=some (.dK kvs)/\kvs.map (·.1)=ss.map Sum.inr/\ss.length<64/\∀(l:Addr) (ss':List Str),H l=none->ss'.Perm ss->ss'.Pairwise GN->Q (.ref l) (upd H l (.lst (ss'.map V.str)))
theorem Fp{kvs:List (Key×V)}{vs:List (Key×Value)}(r:KV kvs vs):kvs.map (·.1)=vs.map (·.1):=by
 unfold KV at r
 induction r with
 |nil=>rfl
 |cons h _ ih=>rw[pJ,pJ,h.1,ih]
theorem yt(hc:X.calm=true):cS X (.builtin "sorted") IK:=by
 intro pins s σ H xs us Q I r h;obtain⟨p,kvs,ss,rfl,hq,hk,hz,q⟩:=h;obtain⟨u,rfl,rx⟩:=vals1 r;cases rx;obtain⟨z,hS,vs,rel,dd⟩:=qh I.aN hq;obtain⟨ep,da⟩:=dd.dictAt;have hh:X.A.in1.handled=none:=by simp[I.ok.hd hc]
 have hkeys:vs.map (·.1)=ss.map Sum.inr:=(Fp rel).symm.trans hk;have hlen:vs.length=ss.length:=by have e:=congrArg List.length hkeys;simpa using e
 refine pK (PySem.W.kdu_collect (PySem.W.kdl_dict hS) hh da (by rw[hlen,sizeLine_eq];omega) λh1 tk acc kp it=>?_);have hal:acc.toList.length=ss.length:=by rw[Hq,it.1,hlen]
 refine⟨ss,uZ hal (λj v hv=>?_),by rw[hal];exact hz,λh2 out ss' D e k2 hD hg S pm pw=>?_⟩
 ·rw[Array.getElem?_toList]at hv;obtain⟨k,x,e,hi⟩:=it.2 j v hv;have e1:(vs.map (·.1))[j]?=some k:=by rw[oR,e];rfl
  rw[hkeys,oR]at e1;cases hj:ss[j]? with
  |none=>rw[hj]at e1;cases e1
  |some y=>
   rw[hj]at e1;cases e1;obtain⟨t,rfl⟩:=Value.isStrOf_shape (x:=y) (v:=v) hi;exact⟨y,t,rfl,rfl⟩
 ·have I1:=I.kept (t':=tk) kp;exact⟨.ref D,_,I1.laid (a:=D) (o:=.lst (ss'.map V.str)) (t':=tk) k2 hD ⟨by rw[aS,pm.length_eq,sizeLine_eq];omega,out,e,sy S,by simpa using hg⟩,rfl,q _ ss' (I1.aN.fresh hD) pm pw⟩
theorem Ck:∀{as:List Addr}{us:List Value},Vals (as.map V.ref) us->us=as.map Value.ref
 |[],[],.nil=>rfl
 |a::as,u::us,.cons r t=>by
  cases r;rw[Ck t];rfl
def acI(K:Wf)(neg:Bool):R2:=λx y H Q=>∃(p:Addr) (as:List Addr) (g:Addr->D) (d:D),y=.ref p/\aI K H p (as.map V.ref)/\(∀a∈as,Rep K H (g a) (.ref a)/\dep (g a)<=20)/\Rep K H d x/\Q (.bl (if neg then !(as.any λa=>deq (g a) d) else as.any λa=>deq (g a) d)) H
end
end L2
namespace L2
open PySem
section
variable{prog:Program}{w:World}{A:Around}{E:Vs}{s:Shared}
set_option maxHeartbeats 3200000 in
set_option maxHeartbeats 3200000 in
set_option maxHeartbeats 3200000 in
end
section
open PyProof.Rows PySem.Spec
variable{X:Cx}
end
end L2
namespace L2
open PySem PySem.Spec PyProof.Rows
section
variable{X:Cx}{pins:Lo}{σ:List (Option V)}{H H':Hp}{s:Shared}{h':Heap}
theorem Inv.EG{t':Nat}{fp:List Addr}(I:Inv X pins σ H s)(k:∀b o,b∉fp->s.heap.get? b=some o->h'.get? b=some o)(hf:∀b∈fp,eO X pins H b):Inv X pins σ H { s with heap:=h',toks:=t' }:=by
 have nit:∀b u,H b=some u->b∉fp:=λb u e z=>by rw[(hf b z).1]at e;cases e
 have hL:X.env.locals∉fp:=λz=>(hf _ z).2.1 rfl;refine I.step (g':=s.gens) (d':=s.drawn) (ch:=fp) (λb hb=>?_) (λb o _ _ hc e _=>k b o hc e) (λb o _ _ hc e _=>⟨o.slots,k b o hc e⟩) (λ_ _ _ _ n=>n)
  (λb o hc e=>⟨o,k b o hc e⟩) (λ_ _ e=>e) (λ_ _ _ e=>e) (λb ps e=>⟨#[],by rw[e];simp⟩) (λm hm=>?_) (λb u e=>?_) I.bare
 ·obtain⟨_,a1,_,a2,a3,a4⟩:=hf b hb;exact⟨a2,a1,a3,a4⟩
 ·obtain⟨o,es,ep,ho,r⟩:=hm;exact⟨o,es,ep,k _ o hL ho,r⟩
 ·refine(I.aN b u e).gM (λc v hc q=>k c v ?_ q) (λ_ q=>q) λ_ _ q=>q;rcases hc with z|z
  ·rw[z];exact nit b u e
  ·exact nit c _ z
theorem Inv.Fb{t':Nat}{fp:List Addr}{q:Addr}{xs:List V}(I:Inv X pins σ H s)(k:∀b o,b∉fp->s.heap.get? b=some o->h'.get? b=some o)(hf:∀b∈fp,eO X pins H b)(hq:s.heap.objs.size<=q)(new:a0 X.prog X.w (upd H q (.tup xs)) h' q (.tup xs)):
  Inv X pins σ (upd H q (.tup xs)) { s with heap:=h',toks:=t' }:=by
 have nit:∀b u,H b=some u->b∉fp:=λb u e z=>by rw[(hf b z).1]at e;cases e
 have hL:X.env.locals∉fp:=λz=>(hf _ z).2.1 rfl;have fq:H q=none:=I.aN.fresh hq;have ne:∀b u,H b=some u->b≠q:=λb u e z=>by rw[z,fq]at e;cases e
 have ne':∀b (o:Obj),s.heap.get? b=some o->b≠q:=λb o e z=>absurd (cH e) (by rw[z];exact Nat.not_lt.mpr hq);refine I.step (g':=s.gens) (d':=s.drawn) (ch:=fp) (λb hb=>?_) (λb o _ _ hc e _=>k b o hc e) (λb o _ _ hc e _=>⟨o.slots,k b o hc e⟩) (λb o _ e n=>by rw[ae (ne' b o e)];exact n)
  (λb o hc e=>⟨o,k b o hc e⟩) (λb _ e=>by rw[ae (ne b _ e)];exact e) (λb _ _ e=>by rw[ae (ne b _ e)];exact e) (λb ps e=>⟨#[],by rw[ae (ne b _ e),e];simp⟩) (λm hm=>?_) (λb u e=>?_) I.bare
 ·obtain⟨_,a1,_,a2,a3,a4⟩:=hf b hb;exact⟨a2,a1,a3,a4⟩
 ·obtain⟨o,es,ep,ho,r⟩:=hm;exact⟨o,es,ep,k _ o hL ho,r⟩
 ·by_cases z:b=q
  ·subst z;rw[aJ]at e;cases e;exact new
  ·rw[ae z]at e;refine(I.aN b u e).gM (λc v hc q=>k c v ?_ q) (λc q=>?_) λc o q=>?_
   ·rcases hc with z|z
    ·rw[z];exact nit b u e
    ·exact nit c _ z
   ·rw[ae (ne c _ q)];exact q
   ·rw[ae (ne c _ q)];exact q
end
structure Zf(z TI TO i1 i2:Addr):Prop where
 TIz:TI≠z
 TOz:TO≠z
 i1z:i1≠z
 i2z:i2≠z
 TITO:TI≠TO
 TIi1:TI≠i1
 TIi2:TI≠i2
 TOi1:TO≠i1
 TOi2:TO≠i2
 i12:i1≠i2
noncomputable def Itz(K:Wf)(a b:Addr):It:=
 ⟨λi H=>∃ xs ys x y, aI K H a xs /\ aI K H b ys /\ xs[i]? = some x /\ ys[i]? = some y,
  λi H v H'=>∃q x y,v=.ref q/\H q=none/\(∀xs,aI K H a xs->xs[i]?=some x)/\(∀ys,aI K H b ys->ys[i]?=some y)/\H'=upd H q (.tup [x,y]),
  λi H=>∃xs ys,aI K H a xs/\aI K H b ys/\(xs.length<=i\/ys.length<=i)⟩
def Tz(z TI TO i1 i2 l1 l2:Addr)(i:Nat)(h:Heap):Prop:=IsZip h z TI TO .none/\IsPair h TI (.ref i1) (.ref i2)/\(∃a b,IsPair h TO a b)/\h.IsListIter i1 l1 i/\h.IsListIter i2 l2 i
theorem zm{h:Heap}{z TI TO i1 i2 l1 l2:Addr}{i:Nat}{xs ys:Array Value}(f:Zf z TI TO i1 i2)(t:Tz z TI TO i1 i2 l1 l2 i h)(p1:PlainL h l1 xs)(p2:PlainL h l2 ys):ZipApart z TI TO i1 i2 l1 l2:=by
 obtain⟨t1,t2,⟨a,b,t3⟩,⟨o4,t4,c4,_⟩,⟨o5,t5,c5,_⟩⟩:=t;have ne:∀{l:Addr}{its:Array Value},PlainL h l its->l≠z/\l≠TO/\l≠i1/\l≠i2:=λ{l its} p=>by
  obtain⟨o,n,e,c,_⟩:=p;refine⟨λq=>?_,λq=>?_,λq=>?_,λq=>?_⟩
  ·rw[q,t1]at e;cases e;exact absurd (Value.type.inj c) (by decide)
  ·rw[q,t3]at e;cases e;exact absurd (Value.type.inj c) (by decide)
  ·rw[q,t4]at e;cases e;rw[c4]at c;exact absurd (Value.type.inj c) (by decide)
  ·rw[q,t5]at e;cases e;rw[c5]at c;exact absurd (Value.type.inj c) (by decide)
 obtain⟨a1,a2,a3,a4⟩:=ne p1;obtain⟨b1,b2,b3,b4⟩:=ne p2;exact { TIz:=f.TIz,TOz:=f.TOz,i1z:=f.i1z,i2z:=f.i2z,TITO:=f.TITO,TIi1:=f.TIi1,TIi2:=f.TIi2,TOi1:=f.TOi1,TOi2:=f.TOi2,i12:=f.i12,l1z:=a1,l1TO:=a2,l1i1:=a3,l1i2:=a4,l2z:=b1,l2TO:=b2,l2i1:=b3,l2i2:=b4 }
theorem Om{P:Program}{w:World}{K:Wf}{elts:List Expr}{x1}{pos:Pos}{z TI TO i1 i2:Addr}(l1 l2:Addr)(f:Zf z TI TO i1 i2):Turn P w K (.Tuple elts x1 pos) (Itz K l1 l2) [z,TI,TO,i1,i2] z (Tz z TI TO i1 i2 l1 l2) where
 mem:=by simp
 obj:=λi h st b hb=>by
  obtain⟨t1,t2,⟨a,b',t3⟩,⟨o4,t4,c4,d4⟩,⟨o5,t5,c5,d5⟩⟩:=st;simp only[List.mem_cons,List.not_mem_nil,or_false]at hb;rcases hb with rfl|rfl|rfl|rfl|rfl
  ·exact⟨_,t1,λv q=>by cases q⟩
  ·exact⟨_,t2,λv q=>by cases q⟩
  ·exact⟨_,t3,λv q=>by cases q⟩
  ·exact⟨_,t4,λv q=>by rw[d4]at q;cases q⟩
  ·exact⟨_,t5,λv q=>by rw[d5]at q;cases q⟩
 keep:=λi h h' st k=>by
  obtain⟨t1,t2,⟨a,b',t3⟩,t4,t5⟩:=st;exact⟨k z (by simp) _ t1,k TI (by simp) _ t2,⟨a,b',k TO (by simp) _ t3⟩,t4.at λo e=>k i1 (by simp) o e,t5.at λo e=>k i2 (by simp) o e⟩
 item:=by
  intro X hP hw hK hc i pins s σ H E I hf st hg;subst hP hw hK;obtain⟨xs,ys,x,y,q1,q2,hx,hy⟩:=hg;obtain⟨its1,rv1,p1,_⟩:=I.list q1;obtain⟨its2,rv2,p2,_⟩:=I.list q2;obtain⟨u,hu,ru⟩:=rv1.get hx;obtain⟨v,hv,rv⟩:=rv2.get hy;have D:=zm f st p1 p2;obtain⟨t1,t2,⟨a,b',t3⟩,t4,t5⟩:=id st;have lt:∀b∈[z,TI,TO,i1,i2],b<s.heap.objs.size:=λb hb=>by
   simp only[List.mem_cons,List.not_mem_nil,or_false]at hb;rcases hb with rfl|rfl|rfl|rfl|rfl
   ·exact cH t1
   ·exact cH t2
   ·exact cH t3
   ·obtain⟨_,e,_⟩:=t4;exact cH e
   ·obtain⟨_,e,_⟩:=t5;exact cH e
  refine wpAny_pyNext_zip_item D t1 t2 t3 t4 t5 p1.isList p2.isList (x:=u) (y:=v) (by simpa using hu) (by simpa using hv) λh' z' TO' i1' i2' pr sz kp=>⟨.ref s.heap.objs.size,rfl,?_⟩;refine wpAny_letOwnedTupleGo_zip z' λh'' z'' sb=>?_;have hTI:IsPair h' TI (.ref i1) (.ref i2):=kp _ _ f.TIz f.TITO f.TIi1 f.TIi2 t2;have nz:s.heap.objs.size≠z:=Nat.ne_of_gt (lt z (by simp));have kk:∀b o,b∉[z,TI,TO,i1,i2]->s.heap.get? b=some o->h''.get? b=some o:=λb o nb e=>by
   simp only[List.mem_cons,List.not_mem_nil,or_false,not_or]at nb;exact(sb.2 b nb.1).trans (kp b o nb.1 nb.2.2.1 nb.2.2.2.1 nb.2.2.2.2 e)
  have new:IsTup h'' s.heap.objs.size #[u,v]:=⟨_,(sb.2 _ nz).trans pr,rfl,0,rfl⟩
  refine⟨.ref s.heap.objs.size,_,I.Fb (q:=s.heap.objs.size) (xs:=[x,y]) (t':=s.toks) kk hf (bA _) ⟨by rw[sizeLine_eq];exact(by decide:(2:Nat)<=16777216),[u,v],.cons ru (.cons rv .nil),new⟩,rfl,⟨_,x,y,rfl,I.aN.fresh (bA _),λzs hz=>by rw[I.eZ hz q1];exact hx,λzs hz=>by rw[I.eZ hz q2];exact hy,rfl⟩,?_,λb hb=>?_⟩
  ·exact⟨z'',(sb.2 _ f.TIz).trans hTI,⟨u,v,(sb.2 _ f.TOz).trans TO'⟩,i1'.at λo e=>(sb.2 _ f.i1z).trans e,i2'.at λo e=>(sb.2 _ f.i2z).trans e⟩
  ·rw[ae (fE (lt b hb))];exact(hf b hb).1
 done:=by
  intro X hP hw hK hc i pins s σ H E I hf st hg;subst hP hw hK;obtain⟨xs,ys,q1,q2,hx⟩:=hg;obtain⟨its1,rv1,p1,_⟩:=I.list q1;obtain⟨its2,rv2,p2,_⟩:=I.list q2;have D:=zm f st p1 p2;obtain⟨t1,t2,⟨a,b',t3⟩,t4,t5⟩:=id st;have e1:=rv1.length;have e2:=rv2.length;refine wpAny_pyNext_zip_end (I.ok.hd hc) D t1 t2 t3 t4 t5 p1.isList p2.isList ?_ λh' kp=>⟨rfl,I.EG (t':=s.toks) (λb o nb e=>?_) hf⟩
  ·rcases hx with z|z
   ·exact .inl (by simp;omega)
   ·exact .inr (by simp;omega)
  ·simp only[List.mem_cons,List.not_mem_nil,or_false,not_or]at nb;exact kp b o nb.1 nb.2.2.1 nb.2.2.2.1 nb.2.2.2.2 e
 self:=λ_ _ _ _ _ st h=>wpAny_pyIter_zip st.1 h
theorem zf(n:Nat):Zf (n+4) (n+2) (n+3) n (n+1):=by
 refine⟨?_,?_,?_,?_,?_,?_,?_,?_,?_,?_⟩<;>intro h<;>simp at h<;>omega
section
variable{X:Cx}
def Zc(K:Wf)(ta:TA):TI:=λσ H R=>ta σ H λvs H1=>∃a b xs ys,vs=[.ref a,.ref b]/\aI K H1 a xs/\aI K H1 b ys/\R (Itz K a b) H1
theorem Vk{elts:List Expr}{x1}{tp:Pos}{a b:Expr}{ta:TA}{p pos:Pos}(hg:Gl X "zip")(hm:X.mg "zip" = none)(ha:PA X [a,b] ta)(hs:starEach [a,b] X.env=[(false,eval a X.env),(false,eval b X.env)]:=by rfl)(hs2:starEach [b] X.env=[(false,eval b X.env)]:=by rfl):
  PI X (.Tuple elts x1 tp) (.Call (.Name "zip" p) [a,b] [] pos) (Zc X.K ta):=by
 intro pins s σ H R I h;refine Call_ (fZ I hg hm boot_zip (PyProof.Rows.callWith_type1 (bj (ha pos pins s σ H _ I h) λus s1 ⟨vs,H1,I1,r1,q1⟩=>?_) (by rw[hs,hs2]) (by rw[hs2];rfl)));obtain⟨l1,l2,xs,ys,e,h1,h2,q⟩:=q1;subst e;cases r1 with
 |cons r rr=>
  cases rr with
  |cons r' rr=>
   cases rr;cases r;cases r';obtain⟨its1,rv1,p1,_⟩:=I1.list h1;obtain⟨its2,rv2,p2,_⟩:=I1.list h2;refine call_zip_2 p1.isList p2.isList λh' z TI TO j1 j2 sz kp=>?_;have I2:=I1.kept (h':=h') (t':=s1.toks) kp;refine wpAny_pyIter_zip z ?_;refine⟨_,_,_,_,H1,rfl,I2,Om l1 l2 (zf s1.heap.objs.size),⟨z,TI,⟨_,_,TO⟩,j1,j2⟩,λb hb=>?_,q⟩;have lb:s1.heap.objs.size<=b:=by
    simp only[List.mem_cons,List.not_mem_nil,or_false]at hb;rcases hb with rfl|rfl|rfl|rfl|rfl
    ·exact Wz _ 4
    ·exact Wz _ 2
    ·exact Wz _ 3
    ·exact bA _
    ·exact Wz _ 1
   exact I1.yM lb (I1.aN.fresh lb)
end
section
variable{K:Wf}{k:Nat}{fm:List Nat}{te:TE}{ta:TA}{g:TG}{tt:TT}{σ σ0:St}{H H1:Hp}{Q:VK}
end
noncomputable def Ite(K:Wf)(a:Addr):It:=
 ⟨λi H=>∃ xs x, aI K H a xs /\ xs[i]? = some x,
  λi H v H'=>∃q x,v=.ref q/\H q=none/\(∀xs,aI K H a xs->xs[i]?=some x)/\H'=upd H q (.tup [.int i,x]),
  λi H=>∃xs,aI K H a xs/\xs.length<=i⟩
def Te(e it l:Addr)(i:Nat)(h:Heap):Prop:=(∃old,IsEnum h e it i old)/\h.IsListIter it l i
theorem Gw{P:Program}{w:World}{K:Wf}{elts:List Expr}{x1}{pos:Pos}{e it:Addr}(l:Addr)(f:e≠it):Turn P w K (.Tuple elts x1 pos) (Ite K l) [e,it] e (Te e it l) where
 mem:=by simp
 obj:=λi h st b hb=>by
  obtain⟨⟨old,t1⟩,⟨o4,t4,c4,d4⟩⟩:=st;simp only[List.mem_cons,List.not_mem_nil,or_false]at hb;rcases hb with rfl|rfl
  ·exact⟨_,t1,λv q=>by cases q⟩
  ·exact⟨_,t4,λv q=>by rw[d4]at q;cases q⟩
 keep:=λi h h' st k=>by
  obtain⟨⟨old,t1⟩,t4⟩:=st;exact⟨⟨old,k e (by simp) _ t1⟩,t4.at λo q=>k it (by simp) o q⟩
 item:=by
  intro X hP hw hK hc i pins s σ H E I hf st hg;subst hP hw hK;obtain⟨xs,x,q1,hx⟩:=hg;obtain⟨its1,rv1,p1,_⟩:=I.list q1;obtain⟨u,hu,ru⟩:=rv1.get hx;obtain⟨⟨old,t1⟩,t4⟩:=id st;have lt:∀b∈[e,it],b<s.heap.objs.size:=λb hb=>by
   simp only[List.mem_cons,List.not_mem_nil,or_false]at hb;rcases hb with rfl|rfl
   ·exact cH t1
   ·obtain⟨_,q,_⟩:=t4;exact cH q
  refine wpAny_pyNext_enum_item t1 t4 p1.isList (x:=u) (by simpa using hu) f λh' z' i1' pr sz kp=>⟨.ref s.heap.objs.size,rfl,?_⟩;refine wpAny_letOwnedTupleGo_enum z' λh'' z'' sb=>?_;have nz:s.heap.objs.size≠e:=Nat.ne_of_gt (lt e (by simp));have kk:∀b o,b∉[e,it]->s.heap.get? b=some o->h''.get? b=some o:=λb o nb q=>by
   simp only[List.mem_cons,List.not_mem_nil,or_false,not_or]at nb;exact(sb.2 b nb.1).trans (kp b o nb.1 nb.2 q)
  have new:IsTup h'' s.heap.objs.size #[.int i s.toks,u]:=⟨_,(sb.2 _ nz).trans pr,rfl,0,rfl⟩
  refine⟨.ref s.heap.objs.size,_,I.Fb (q:=s.heap.objs.size) (xs:=[.int i,x]) (t':=s.toks+1) kk hf (bA _) ⟨by rw[sizeLine_eq];exact(by decide:(2:Nat)<=16777216),[_,u],.cons ⟨_,rfl⟩ (.cons ru .nil),new⟩,rfl,⟨_,x,rfl,I.aN.fresh (bA _),λzs hz=>by rw[I.eZ hz q1];exact hx,rfl⟩,?_,λb hb=>?_⟩
  ·exact ⟨⟨_, by have : ((i + 1 : Nat) : Int) = (i : Int) + 1 := by push_cast; rfl
                 rw[this];exact z''⟩,i1'.at λo q=>(sb.2 _ (Ne.symm f)).trans q⟩
  ·rw[ae (fE (lt b hb))];exact(hf b hb).1
 done:=by
  intro X hP hw hK hc i pins s σ H E I hf st hg;subst hP hw hK;obtain⟨xs,q1,hx⟩:=hg;obtain⟨its1,rv1,p1,_⟩:=I.list q1;obtain⟨⟨old,t1⟩,t4⟩:=id st;have e1:=rv1.length;refine wpAny_pyNext_enum_end (I.ok.hd hc) t1 t4 p1.isList (by simp;omega) λh' kp=>⟨rfl,I.EG (t':=s.toks) (λb o nb q=>?_) hf⟩;simp only[List.mem_cons,List.not_mem_nil,or_false,not_or]at nb;exact kp b o nb.2 q
 self:=λ_ _ _ _ _ st h=>by
  obtain⟨⟨old,t1⟩,_⟩:=st;exact wpAny_pyIter_enum t1 h
section
variable{X:Cx}
theorem boot_enumerate:bootBuiltins "enumerate" = some (.type "enumerate"):=by decide +kernel
def Rx(K:Wf)(ta:TA):TI:=λσ H R=>ta σ H λvs H1=>∃a xs,vs=[.ref a]/\aI K H1 a xs/\R (Ite K a) H1
theorem Dy{K:Wf}(eK:X.K=K){elts:List Expr}{x1}{tp:Pos}{a:Expr}{ta:TA}{p pos:Pos}(hg:Gl X "enumerate")(hm:X.mg "enumerate" = none)(ha:PA X [a] ta)(hs:starEach [a] X.env=[(false,eval a X.env)]:=by rfl):
  PI X (.Tuple elts x1 tp) (.Call (.Name "enumerate" p) [a] [] pos) (Rx K ta):=by
 subst eK;intro pins s σ H R I h;refine Call_ (fZ I hg hm boot_enumerate (PyProof.Rows.callWith_type1 (bj (ha pos pins s σ H _ I h) λus s1 ⟨vs,H1,I1,r1,q1⟩=>?_) (by rw[hs];rfl) (by rfl)));obtain⟨l1,xs,e,h1,q⟩:=q1;subst e;cases r1 with
 |cons r rr=>
  cases rr;cases r;obtain⟨its1,rv1,p1,_⟩:=I1.list h1;refine call_enumerate_list p1.isList λh' z j1 sz kp=>?_;have I2:=I1.kept (h':=h') (t':=s1.toks) kp;refine wpAny_pyIter_enum z ?_;refine⟨_,_,_,_,H1,rfl,I2,Gw l1 (Nat.succ_ne_self _),⟨⟨_,z⟩,j1⟩,λb hb=>?_,q⟩;have lb:s1.heap.objs.size<=b:=by
   simp only[List.mem_cons,List.not_mem_nil,or_false]at hb;rcases hb with rfl|rfl
   ·exact Wz _ 1
   ·exact bA _
  exact I1.yM lb (I1.aN.fresh lb)
end
noncomputable def Np(K:Wf)(g:TG)(tb:TS)(D:Ends)(σ:St):List V->Hp->Prop:=λvs H1=>∃a xs,vs=[.ref a]/\aI K H1 a xs/\rX g tb D σ (Ite K a) H1
section
variable{K:Wf}{te:TE}{ta:TA}{g:TG}{tb:TS}{D:Ends}{σ:St}{H:Hp}
theorem V9:nU (Rx K ta) g tb D σ H=ta σ H (Np K g tb D σ):=rfl
theorem Np.of{a:Addr}{xs:List V}(Pv:Nat->St->Hp->Prop)(h0:Pv 0 σ H)(hl:∀i σ H,i<=xs.length->Pv i σ H->aI K H a xs)
  (hs:∀i x σ H q,xs[i]?=some x->Pv i σ H->H q=none->g (.ref q) σ (upd H q (.tup [.int i,x])) λσ2 H2=>tb { D with nx:=Pv (i+1),ct:=Pv (i+1),bk:=D.nx } σ2 H2) (hd:∀σ H,Pv xs.length σ H->D.nx σ H):Np K g tb D σ [.ref a] H:=by
 refine⟨a,xs,rfl,hl 0 _ _ (i8 _) h0,λi m σ H=>m=xs.length - i/\i<=xs.length/\Pv i σ H,⟨xs.length,by simp,Nat.zero_le _,h0⟩,?_⟩;rintro i m σ H ⟨rfl,hi,p⟩;have q:=hl i σ H hi p;by_cases hlt:i<xs.length
 ·refine .inr ⟨⟨xs,xs[i],q,by simp[hlt]⟩,Pv (i+1),λσ' H' p'=>⟨xs.length - (i+1),by omega,rfl,hlt,p'⟩,λx H' y=>?_⟩;obtain⟨b,u,rfl,nb,y,rfl⟩:=y;exact hs i u σ H b (y xs q) p nb
 ·have e:i=xs.length:=by omega
  subst e;exact .inl ⟨⟨xs,q,bA _⟩,hd σ H p⟩
end
theorem Inv.freeze{X:Cx}{pins:Lo}{σ:St}{H:Hp}{s:Shared}{a:Addr}{kvs:List (Key×V)}(I:Inv X pins σ H s)(e:H a=some (.dK kvs)):
  ∃(o:Obj) (vs:List (Key×Value)) (ep:Nat),s.heap.get? a=some o/\(a == sysModules)=false/\KV kvs vs/\KdkAt (aZ X.prog X.w) o vs ep/\Inv X pins σ (upd H a (.g9 o (.dK kvs))) s:=by
 obtain⟨z,hS,vs,rel,dd⟩:=qh I.aN e;obtain⟨ep,o,es,ho,r⟩:=dd.dictAt;refine⟨o,vs,ep,ho,hS,rel,⟨es,r⟩,?_⟩;have ne:∀{b:Addr}{u:HO},H b=some u->u≠.dK kvs->b≠a:=λ{b u} q n z=>by rw[z,e]at q;cases q;exact n rfl
 refine I.step (h':=s.heap) (g':=s.gens) (d':=s.drawn) (t':=s.toks) (ch:=[]) (λ_ z=>nomatch z) (λb o _ _ _ q _=>q) (λb o _ _ _ q _=>⟨o.slots,q⟩) (λb o _ _ n=>?_) (λb o _ q=>⟨o,q⟩)
  (λb xs q=>by rw[ae (ne q (λz=>nomatch z))];exact q) (λb o u q=>by rw[ae (ne q (λz=>nomatch z))];exact q) (λb ps q=>⟨#[],by rw[ae (ne q (λz=>nomatch z)),q];simp⟩) (λm hm=>hm) (λb u q=>?_) I.bare
 ·rw[ae (λz=>by rw[z,e]at n;cases n)];exact n
 ·by_cases z:b=a
  ·subst z;rw[aJ]at q;cases q;exact⟨ho,I.aN b _ e⟩
  ·rw[ae z]at q;refine(I.aN b u q).gM (λc v _ r=>r) (λc r=>?_) λc xs r=>?_
   ·rw[ae (ne r (λz=>nomatch z))];exact r
   ·rw[ae (ne r (λz=>nomatch z))];exact r
noncomputable def Itd(a:Addr)(o:Obj)(kvs:List (Key×V)):It:=
 ⟨λi H=>H a = some (.g9 o (.dK kvs)) /\ ∃ p, kvs[i]? = some p,
  λi H v H'=>H'=H/\∃p,kvs[i]?=some p/\v=kV p.1,
  λi H=>H a=some (.g9 o (.dK kvs))/\kvs.length<=i⟩
theorem KV.len{kvs:List (Key×V)}{vs:List (Key×Value)}(h:KV kvs vs):kvs.length=vs.length:=Paired.length h
theorem F_{P:Program}{w:World}{K:Wf}{tg:Expr}{a it:Addr}{o:Obj}{kvs:List (Key×V)}{vs:List (Key×Value)}{ep:Nat}(rel:KV kvs vs)(kd:KdkAt (aZ P w) o vs ep):
  Turn P w K tg (Itd a o kvs) [it] it (λi h=>h.IsKeyIter it a i vs.length ep) where
 mem:=by simp
 obj:=λi h st b hb=>by
  have e:b=it:=by simpa using hb
  subst e;obtain⟨o,e,c,d⟩:=st;exact⟨o,e,λv z=>by rw[d]at z;cases z⟩
 keep:=λi h h' st k=>st.at λo e=>k it (by simp) o e
 item:=by
  intro X hP hw hK hc i pins s σ H E I hf st hg;subst hP hw hK;obtain⟨hH,p,hp⟩:=hg;obtain⟨ho,_⟩:=(show a0 X.prog X.w H s.heap a (.g9 o (.dK kvs)) from I.aN a _ hH)
  have hl:=rel.len;have hil:=(o6.mp hp).1;have hv:vs[i]?=some vs[i]:=zR (by omega);have hk:vs[i].1=p.1:=by
   have e1:(kvs.map (·.1))[i]?=some p.1:=by rw[oR,hp];rfl
   rw[Fp rel,oR,hv]at e1;exact Option.some.inj e1
  obtain⟨f0,f1,f2,f3,f4,f5⟩:=hf it (by simp);refine wpAny_pyNext_dict_item st (KdkAt.dictAt kd ho) (k:=vs[i].1) (v:=vs[i].2) hv λkey h' hkey st' sb=>?_;have I1:Inv X pins σ H { s with heap:=h' }:=I.m9 (t':=s.toks) (λb o hb e=>(sb.2 b hb).trans e) f0 f1 f3 f4 f5;obtain⟨oi,e,c,d⟩:=id st';rw[hk]at hkey;have rk:RelV (kV p.1) key:=by
   rcases oU hkey with ⟨n,t,e1,rfl⟩|⟨x,t,e1,rfl⟩
   ·rw[e1];exact⟨t,rfl⟩
   ·rw[e1];exact⟨t,rfl⟩
  exact⟨key,rfl,Ak (s:={ s with heap:=h' }) e c d (by decide) ⟨kV p.1,H,I1,rk,⟨rfl,p,hp,rfl⟩,st',λb hb=>(hf b hb).1⟩⟩
 done:=by
  intro X hP hw hK hc i pins s σ H E I hf st hg;subst hP hw hK;obtain⟨hH,hi⟩:=hg;obtain⟨ho,_⟩:=(show a0 X.prog X.w H s.heap a (.g9 o (.dK kvs)) from I.aN a _ hH)
  obtain⟨f0,f1,f2,f3,f4,f5⟩:=hf it (by simp);have hl:=rel.len;exact wpAny_pyNext_dict_end (I.ok.hd hc) st (KdkAt.dictAt kd ho) (by simp;omega) λh' eb=>⟨rfl,I.m9 (t':=s.toks) (λb o hb e=>eb b o hb e) f0 f1 f3 f4 f5⟩
 self:=λ_ _ _ _ _ st h=>wpAny_pyIter_keyiter st h
section
variable{X:Cx}
def HC(te:TE):TI:=λσ H R=>te σ H λx H1=>∃a kvs,x=.ref a/\H1 a=some (.dK kvs)/\∀o,R (Itd a o kvs) (upd H1 a (.g9 o (.dK kvs)))
theorem Ec(hl:PE X l tl):PI X tg l (HC tl):=by
 intro pins s σ H R I h;refine bj (hl pins s σ H _ I h) λv s1 ⟨x,H1,I1,r1,q1⟩=>?_;obtain⟨a,kvs,e,hq,q⟩:=q1;subst e;cases r1;obtain⟨o,vs,ep,ho,hS,rel,kd,I2⟩:=I1.freeze hq;refine wpAny_pyIter_dict hS (KdkAt.dictAt kd ho) ?_;refine⟨s1.heap.objs.size,[s1.heap.objs.size],_,_,_,rfl,I2.kept (t':=s1.toks) λb o e=>dM _ e,F_ rel kd,⟨_,iu _ rfl,rfl,rfl⟩,λb hb=>?_,q o⟩;have e:b=s1.heap.objs.size:=by simpa using hb
 subst e;exact I2.yM (bA _) (I2.aN.fresh (bA _))
end
def P_(g:TG)(tb:TS)(D:Ends)(σ:St):VK:=λx H1=>∃a kvs,x=.ref a/\H1 a=some (.dK kvs)/\∀o,rX g tb D σ (Itd a o kvs) (upd H1 a (.g9 o (.dK kvs)))
section
variable{te:TE}{g:TG}{tb:TS}{D:Ends}{σ:St}{H:Hp}
theorem Wd:nU (HC te) g tb D σ H=te σ H (P_ g tb D σ):=rfl
theorem P_.of{a:Addr}{kvs:List (Key×V)}(hd:H a=some (.dK kvs))(Pv:Obj->Nat->St->Hp->Prop)(h0:∀o,Pv o 0 σ (upd H a (.g9 o (.dK kvs))))(hl:∀o i σ H,i<=kvs.length->Pv o i σ H->H a=some (.g9 o (.dK kvs)))
  (hs:∀o i p σ H,kvs[i]?=some p->Pv o i σ H->g (kV p.1) σ H λσ2 H2=>tb { D with nx:=Pv o (i+1),ct:=Pv o (i+1),bk:=D.nx } σ2 H2) (he:∀o σ H,Pv o kvs.length σ H->D.nx σ H):P_ g tb D σ (.ref a) H:=by
 refine⟨a,kvs,rfl,hd,λo=>⟨λi m σ H=>m=kvs.length - i/\i<=kvs.length/\Pv o i σ H,⟨kvs.length,by simp,Nat.zero_le _,h0 o⟩,?_⟩⟩;rintro i m σ H ⟨rfl,hi,p⟩;have q:=hl o i σ H hi p;by_cases hlt:i<kvs.length
 ·refine .inr ⟨⟨q,kvs[i],by simp[hlt]⟩,Pv o (i+1),λσ' H' p'=>⟨kvs.length - (i+1),by omega,rfl,hlt,p'⟩,λx H' y=>?_⟩;obtain⟨rfl,u,hu,rfl⟩:=y;exact hs o i u σ _ hu p
 ·have e:i=kvs.length:=by omega
  subst e;exact .inl ⟨⟨q,bA _⟩,he o σ H p⟩
end
section
variable{X:Cx}
end
section
variable{M:Model}{A:Around}{E:Vs}{s:Shared}{env:Env}
end
section
variable{prog:Program}{w:World}{A:Around}{E:Vs}{s:Shared}
end
section
variable{prog:Program}{w:World}{A:Around}{E:Vs}{s:Shared}
end
section
variable{prog:Program}{w:World}{A:Around}{E:Vs}{s:Shared}
end
section
variable{X:Cx}
end
section
variable{K:Wf}{te:TE}{ta:TA}{g:TG}{tb:TS}{D:Ends}{σ:St}{H:Hp}
end
section
variable{X:Cx}{o e:Expr}{ty:TE}{a:Addr}{kvs:List (Key×V)}{apos cpos:Pos}
end
section
variable{K:Wf}{te:TE}{g:TG}{tt:TT}{σ0:St}{H1:Hp}{Q:VK}
end
section
variable{M:Model}{A:Around}{E:Vs}{s:Shared}
end
section
variable{X:Cx}{tg:Expr}{E:XK}
end
end L2
namespace L2
open PySem
theorem oV(t:SetTable)(n:Nat):(t.orStandIn n).led=t.led:=by
 unfold SetTable.orStandIn;split<;>rfl
theorem AM(t:SetTable)(es:Array (Int×Value))(h:Int)(x:Value):(layNew t es h x).2.1.led=t.led:=by
 unfold layNew;split
 ·rename_i slot wd _;exact(oV (t.put slot).1 _)
 ·rfl
theorem OS(h:SetTable.laid m f v b c hs=some (t',o)):t'.led=b/\t'.plain=c:=by
 unfold SetTable.laid at h;cases hl:SetTable.layClean m hs with
 |none=>rw[hl]at h;cases h
 |some ow=>rw[hl]at h;cases h;exact⟨rfl,rfl⟩
theorem G5(t:SetTable)(es:Array (Int×Value))(n:Nat):(relayAll t es n).2.1.led=t.led/\((relayAll t es n).2.1.plain=true->t.plain=true):=by
 unfold relayAll;split
 ·rename_i t' o hr;have z:=OS hr;dsimp only;split
  ·exact⟨z.1,λq=>z.2▸q⟩
  ·exact⟨rfl,λq=>(nomatch q)⟩
 ·exact⟨rfl,λq=>(nomatch q)⟩
noncomputable def pI(w:World):Bool:=w.params.followText "set-order"
noncomputable def txtOf:Value->Str
 |.str x _=>x
 |_=>Str.empty
def gQ(w:World)(h:Heap)(a:Addr)(L:List Str):Prop:=
 ∃(es:Array (Int×Value)) (ep:Nat) (t:SetTable),h.get? a=some { cls:=.type "set", dict:=none,data:=.set es ep t,slots:=#[] }/\
  (∀e∈es.toList,∃y k,e=(hashStr w y,Value.str y k))/\es.toList.map (λe=>txtOf e.2)=L/\es.size<scanBound/\t.fits es.size=true/\t.led = !pI w/\(t.plain=true->L=[])
section
variable{prog:Program}{w:World}{A:Around}{E:Vs}{s:Shared}{a:Addr}{L:List Str}
theorem nX(h:∀e∈es,∃y k,e=(hashStr w y,Value.str y k)):ElemsOf (PySem.strKind prog w) es:=λe he=>by
 obtain⟨y,k,rfl⟩:=h e he;exact⟨⟨y,by simp[PySem.strKind,Value.isStrOf],rfl⟩,rfl⟩
theorem k_{es:List (Int×Value)}(h:∀e∈es,∃y k,e=(hashStr w y,Value.str y k))(x:Str):x∈es.map (λe=>txtOf e.2)↔∃e∈es,(PySem.strKind prog w).is x e.2=true:=by
 constructor
 ·intro hx;obtain⟨e,he,rfl⟩:=cC.mp hx;obtain⟨y,k,rfl⟩:=h e he;exact⟨_,he,by simp[PySem.strKind,Value.isStrOf,txtOf]⟩
 ·rintro⟨e,he,hi⟩;obtain⟨y,k,rfl⟩:=h e he;obtain⟨t,z⟩:=Value.isStrOf_shape (x:=x) (v:=Value.str y k) hi;cases z;exact cC.mpr ⟨_,he,rfl⟩
theorem Nz(S:gQ w s.heap a L)(hz:L.length+1<scanBound)
  (h:∀h' L' b,Heap.SameBut a s.heap h'->gQ w h' a L'->L'.Perm (if x∈L then L else L++[x])->Q b { s with heap:=h' }):
  wpAny (model prog w) A (setAddHashed a (.str x k) (hashStr w x)) Q E s:=by
 obtain⟨es,ep,t,ho,he,hL,hb,hf,hl,hp⟩:=id S;have hel:=nX (prog:=prog) he;have hx:(PySem.strKind prog w).is x (.str x k)=true:=by simp[PySem.strKind,Value.isStrOf]
 have hn:es.size=L.length:=by rw[<-hL,aS,Hq]
 unfold setAddHashed setAddHashedIn;refine AS (aw (QB ho rfl hf ?_));dsimp only;rw[byScan_of (knd:=PySem.strKind prog w) rfl hb hel,if_pos rfl];unfold setAddByScan;refine aw (aw (RG (aw (wpAny_setScan_of (knd:=PySem.strKind prog w) (k:=x) hx ho rfl hf hel ?_))));have gw:∀(b:Bool) {s1:Shared}{Q':Unit->Shared->Prop},Q' () s1->wpAny (model prog w) A (match b with | true=>rule "set.scan.the-table-gave-way" |false=>pure ()) Q' E s1:=λb s1 Q' q=>by
  cases b
  ·exact bc q
  ·exact RG q
 cases hr:List.findIdx? (λe=>(PySem.strKind prog w).is x e.2) es.toList with
 |some j=>
  dsimp only;have hm:x∈L:=by
   obtain⟨hj,pj,_⟩:=List.findIdx?_eq_some_iff_getElem.mp hr;rw[<-hL];exact(k_ he x).mpr ⟨_,Se hj,pj⟩
  exact bc (bc (h s.heap L _ (Heap.SameBut.refl a s.heap) S (by rw[if_pos hm])))
 |none=>
  dsimp only;have hm:x∉L:=λhm=>by
   rw[<-hL]at hm;obtain⟨e,m,z⟩:=(k_ (prog:=prog) he x).mp hm;have:=List.findIdx?_eq_none_iff.mp hr e m;rw[z]at this;cases this
  have lp:=layNew_perm t es (hashStr w x) (.str x k);have lf:=layNew_fits t es (hashStr w x) (.str x k);have ll:=AM t es (hashStr w x) (.str x k);generalize layNew t es (hashStr w x) (.str x k)=R at lp lf ll ⊢;obtain⟨e1,t1,wd,gv⟩:=R;dsimp only at lp lf ll ⊢;rw[Array.toList_push]at lp;refine aw (gw _ ?_);have he1:∀e∈e1.toList,∃y k,e=(hashStr w y,Value.str y k):=λe m=>by
   rcases fY.mp (lp.mem_iff.mp m) with m|m
   ·exact he e m
   ·exact⟨x,k,fN.mp m⟩
  have hp1:(e1.toList.map (λe=>txtOf e.2)).Perm (if x∈L then L else L++[x]):=by
   rw[if_neg hm,<-hL];have z:=lp.map (λe=>txtOf e.2);rw[eA]at z;exact z
  have hs1:e1.size=L.length+1:=by
   rw[<-Hq,lp.length_eq,ij,Hq,hn];rfl
  have hb1:e1.size<scanBound:=by rw[hs1];exact hz
  have tail:∀t2:SetTable,t2.fits e1.size=true->t2.led=(!pI w)->t2.plain=false->
    wpAny (model prog w) A (do
     storeSet a e1 t2
     if (!wd&&t2.tooFull)=true then do
       (match (relayAll t2 e1 (SetTable.grown e1.size)).2.2 with | true=>rule "set.scan.the-table-gave-way" |false=>pure ())
       storeSet a (relayAll t2 e1 (SetTable.grown e1.size)).1 (relayAll t2 e1 (SetTable.grown e1.size)).2.1
       pure (some true)
      else pure (some true)) (λ(r:Option Bool) s'=>wpAny (model prog w) A (match r with | some b=>pure b | none=>setAddHashedIn a (.str x k) (hashStr w x) 99999) Q E s') E s:=by
   intro t2 f2 l2 p2;have u1:=(SetOf_store (knd:=PySem.strKind prog w) (S':=λy=>decide (y∈e1.toList.map (λe=>txtOf e.2))) (h:=s.heap) ho ⟨rfl,rfl,rfl⟩ rfl (nX he1) (λy=>by rw[decide_eq_true_eq];exact k_ he1 y) hb1 f2).1;have sb1:=Heap.SameBut.update s.heap a (Obj.putSet e1 t2);refine aw (wpAny_storeSet_of ho rfl ?_ (fits_of_scanBound hb1));have S1:gQ w (s.heap.update a (Obj.putSet e1 t2)) a (e1.toList.map (λe=>txtOf e.2)):=⟨e1,ep+1,t2,u1,he1,rfl,hb1,f2,l2,λq=>by rw[p2]at q;cases q⟩
   split
   ·have rp:=relayAll_perm t2 e1 (SetTable.grown e1.size);have rf:=relayAll_fits t2 e1 (SetTable.grown e1.size);have rl:=G5 t2 e1 (SetTable.grown e1.size);generalize relayAll t2 e1 (SetTable.grown e1.size)=R at rp rf rl ⊢;obtain⟨e2,t3,g2⟩:=R;dsimp only at rp rf rl ⊢;have he2:∀e∈e2.toList,∃y k,e=(hashStr w y,Value.str y k):=λe m=>he1 e (rp.mem_iff.mp m);have hs2:e2.size=e1.size:=by rw[<-Hq,rp.length_eq,Hq]
    have hb2:e2.size<scanBound:=by rw[hs2];exact hb1
    refine aw (gw _ ?_);refine aw (wpAny_storeSet_of u1 rfl ?_ (fits_of_scanBound hb2));have u2:=(SetOf_store (knd:=PySem.strKind prog w) (S':=λy=>decide (y∈e2.toList.map (λe=>txtOf e.2))) u1 ⟨rfl,rfl,rfl⟩ rfl (nX he2) (λy=>by rw[decide_eq_true_eq];exact k_ he2 y) hb2 rf).1;refine bc (bc (h _ (e2.toList.map (λe=>txtOf e.2)) _ (sb1.trans (Heap.SameBut.update _ a _)) ⟨e2,_,t3,u2,he2,rfl,hb2,rf,rl.1.trans l2,λq=>?_⟩ ((rp.map _).trans hp1)));rw[rl.2 q]at p2;cases p2
   ·exact bc (bc (h _ _ _ sb1 S1 hp1))
  rw[hl]at ll;cases pl:t1.plain with
  |true=>
   rw[if_pos rfl];refine aw (wpAny_of_eq (hashByValue_scannable 8 rfl) ?_);exact tail { t1 with plain:=false } (SetTable.fits_plain_off lf) ll rfl
  |false=>
   rw[if_neg (by simp)];refine aw (bc ?_);exact tail t1 lf ll pl
end
end L2
namespace L2
open PySem
theorem jO:Slot "set_iterator" "__next__" "set_iterator.__next__" := .of (owner := "set_iterator") (n := "__next__") (by rw[typeLookup_type,builtinLookup_eq_fast];kernel_rfl) (by decide +kernel) (by decide +kernel) (by decide +kernel) (by first|exact .inl (by decide +kernel)|exact .inr (by decide +kernel)) (by rw[isSubtype_type];kernel_rfl)
theorem dh:entryFor table "set_iterator.__next__" = some Builtin.«set_iterator.__next__»:=entryFor_of_tree (by kernel_rfl)
theorem dF(a:Value):argsOk "set_iterator.__next__" ⟨[a],[]⟩:=by unfold argsOk;kernel_rfl
theorem tX:entryFor table "set.__iter__" = some Builtin.«frozenset.__iter__»:=entryFor_alias (id' := "frozenset.__iter__") (by kernel_rfl) rfl (by decide +kernel) (by kernel_rfl)
noncomputable def G9(f:Value)(i:Nat)(a:Value)(n ep:Nat):Obj:={ cls:=.type "set_iterator", data:=.fields #[f,.int i 0,a,.int n 0,.int ep 0] }
section
variable{prog:Program}{w:World}{A:Around}{E:Vs}{s:Shared}{it a:Addr}{i n ep slot next:Nat}{es:Array (Int×Value)}{t:SetTable}{Q:Option Value->Shared->Prop}{x:Value}
theorem pM(ho:s.heap.get? it=some (G9 (.int slot 0) i (.ref a) n ep))(hs:s.heap.get? a=some { cls:=.type "set", dict:=none,data:=.set es ep t,slots:=#[] })(hf:t.fits es.size=true)(hn:es.size=n)
  (hx:∀(A:Around) (E:Vs) (Q':Option (Value×Nat)->Shared->Prop),Q' (some (x,next)) s->wpAny (model prog w) A (setNext a slot i ep) Q' E s)
  (hQ:∀h',h'.get? it=some (G9 (.int next 0) (i+1) (.ref a) n ep)->Heap.SameBut it s.heap h'->Q (some x) { s with heap:=h' }):wpAny (model prog w) A (pyNext (.ref it)) Q E s:=by
 have hT:s.TypeIs (.ref it) "set_iterator" := ⟨_,ho,rfl⟩
 unfold pyNext;refine aw (RR (YM (name:=Str.ofString "__next__") hT jO (RU jO hT dh ?_ (dF _))));unfold Builtin.«set_iterator.__next__»;refine aw (bc (aw (wpAny_fieldsOf ho rfl ?_)));dsimp only;refine aw (Z8 hs rfl hf ?_);rw[if_neg (by rw[hn];simp)];refine aw (hx _ _ _ ?_);dsimp only;have u1:(s.heap.update it (Obj.mapFields (·.setIfInBounds 0 (rawInt next)))).get? it=some (G9 (.int next 0) i (.ref a) n ep):=G8 (Obj.mapFields (·.setIfInBounds 0 (rawInt next))) ho rfl;refine aw (TC ho rfl (by simp) (wpAny_bind (wpAny_setField (s:={ s with heap:=s.heap.update it (Obj.mapFields (·.setIfInBounds 0 (rawInt next))) }) u1 rfl (by simp) (wpAny_pure ⟨x,rfl,wpAny_pure (hQ _ ?_ ((Heap.SameBut.update ..).trans (Heap.SameBut.update ..)))⟩))));exact G8 (Obj.mapFields (·.setIfInBounds 1 (rawInt ((i:Int)+1)))) u1 rfl
theorem AG(hh:A.handled=none){h0:Heap}(hQ:∀h',Heap.ExtBut it h0 h'->Q none { s with heap:=h' }):
  wpAny (model prog w) A.in1 (do let e <-newExc (Value.type "StopIteration") [];raiseNew e) (λ(fin:PySem.Fin) s'=>∃v,fin=Fin.done (Flow.ret v)/\wpAny (model prog w) A (pure (some v)) Q E s')
  (λe s'=>wpAny (model prog w) A (do let b <-isInstance e (Value.type "StopIteration");if b=true then pure none else throw e) Q E s') { s with heap:=h0 }:=by
 refine aw ?_;simp only[newExc,newTuple];refine aw (Hk ?_ (by size_fits));refine aw (m:=firstArgMember _ _) (wpAny_of_eq (a:=Value.none) (by first|rfl|(simp only[firstArgMember];rfl)) (wpAny_newObj_type ?_ (by size_fits)));simp only[raiseNew];refine aw (wpAny_handled ?_);rw[show A.in1.handled=none from hh];refine aw (bc (wpAny_throw ?_));refine aw (wpAny_isInstance (T := "StopIteration") ⟨_,iu _ rfl,rfl⟩ isSubtype_stop ?_);rw[if_pos rfl];refine bc (hQ _ λb o hb e=>?_);exact dM _ (dM _ e)
theorem qp(hh:A.handled=none)(ho:s.heap.get? it=some (G9 (.int slot 0) i (.ref a) n ep))(hs:s.heap.get? a=some { cls:=.type "set", dict:=none,data:=.set es ep t,slots:=#[] })(hf:t.fits es.size=true)(hn:es.size=n)
  (hx:∀(A:Around) (E:Vs) (Q':Option (Value×Nat)->Shared->Prop),Q' none s->wpAny (model prog w) A (setNext a slot i ep) Q' E s)
  (hQ:∀h',Heap.ExtBut it s.heap h'->Q none { s with heap:=h' }):wpAny (model prog w) A (pyNext (.ref it)) Q E s:=by
 have hT:s.TypeIs (.ref it) "set_iterator" := ⟨_,ho,rfl⟩
 unfold pyNext;refine aw (RR (YM (name:=Str.ofString "__next__") hT jO (RU jO hT dh ?_ (dF _))));unfold Builtin.«set_iterator.__next__»;refine aw (bc (aw (wpAny_fieldsOf ho rfl ?_)));dsimp only;refine aw (Z8 hs rfl hf ?_);rw[if_neg (by rw[hn];simp)];refine aw (hx _ _ _ ?_);dsimp only;refine aw (TC ho rfl (by simp) ?_);exact AG hh λh' e=>hQ h' λb o hb z=>e b o hb (((Heap.SameBut.update s.heap it _).2 b hb).trans z)
theorem BW{p:Addr}{ps:List Nat}{j:Nat}{hv:Int}(ho:s.heap.get? it=some (G9 (.ref p) i (.ref a) n ep))(hs:s.heap.get? a=some { cls:=.type "set", dict:=none,data:=.set es ep t,slots:=#[] })(hf:t.fits es.size=true)(hn:es.size=n)
  (hp:s.heap.get? p=some { cls:=.type "tuple", data:=.seq (List.toArray (ps.map λj=>rawInt (j:Nat))) 0 }) (hj:ps[i]?=some j) (hx:es[j]?=some (hv,x))
  (hQ:∀h',h'.get? it=some (G9 (.ref p) (i+1) (.ref a) n ep)->Heap.SameBut it s.heap h'->Q (some x) { s with heap:=h' }):wpAny (model prog w) A (pyNext (.ref it)) Q E s:=by
 have hT:s.TypeIs (.ref it) "set_iterator" := ⟨_,ho,rfl⟩
 unfold pyNext;refine aw (RR (YM (name:=Str.ofString "__next__") hT jO (RU jO hT dh ?_ (dF _))));unfold Builtin.«set_iterator.__next__»;refine aw (bc (aw (wpAny_fieldsOf ho rfl ?_)));dsimp only;refine aw (Z8 hs rfl hf ?_);rw[if_neg (by rw[hn];simp)];refine aw (wpAny_seqItems hp rfl ?_);have e1:(List.map (λj=>rawInt (j:Nat)) ps).toArray[(i:Int).toNat]?=some (.int (j:Nat) 0):=by
  rw[Ho,List.getElem?_toArray,oR,hj];rfl
 dsimp only;rw[e1];dsimp only;unfold setNextDrawn;refine aw (aw (QB hs rfl hf ?_));dsimp only;rw[Ho,Ho,if_neg (by simp),hx];refine bc ?_;refine aw (TC ho rfl (by simp) (wpAny_pure ⟨x,rfl,wpAny_pure (hQ _ ?_ (Heap.SameBut.update ..))⟩));exact G8 (Obj.mapFields (·.setIfInBounds 1 (rawInt ((i:Int)+1)))) ho rfl
theorem m7(hh:A.handled=none){p:Addr}{ps:List Nat}(ho:s.heap.get? it=some (G9 (.ref p) i (.ref a) n ep))(hs:s.heap.get? a=some { cls:=.type "set", dict:=none,data:=.set es ep t,slots:=#[] })(hf:t.fits es.size=true)(hn:es.size=n)
  (hp:s.heap.get? p=some { cls:=.type "tuple", data:=.seq (List.toArray (ps.map λj=>rawInt (j:Nat))) 0 }) (hj:ps[i]?=none)
  (hQ:∀h',Heap.ExtBut it s.heap h'->Q none { s with heap:=h' }):wpAny (model prog w) A (pyNext (.ref it)) Q E s:=by
 have hT:s.TypeIs (.ref it) "set_iterator" := ⟨_,ho,rfl⟩
 unfold pyNext;refine aw (RR (YM (name:=Str.ofString "__next__") hT jO (RU jO hT dh ?_ (dF _))));unfold Builtin.«set_iterator.__next__»;refine aw (bc (aw (wpAny_fieldsOf ho rfl ?_)));dsimp only;refine aw (Z8 hs rfl hf ?_);rw[if_neg (by rw[hn];simp)];refine aw (wpAny_seqItems hp rfl ?_);have e1:(List.map (λj=>rawInt (j:Nat)) ps).toArray[(i:Int).toNat]?=none:=by
  rw[Ho,List.getElem?_toArray,oR,hj];rfl
 dsimp only;rw[e1];dsimp only;have u1:(s.heap.update it (Obj.mapFields (·.setIfInBounds 0 (rawInt 0)))).get? it=some (G9 (.int 0 0) i (.ref a) n ep):=G8 (Obj.mapFields (·.setIfInBounds 0 (rawInt 0))) ho rfl;refine aw (TC ho rfl (by simp) (wpAny_bind (wpAny_setField (s:={ s with heap:=s.heap.update it (Obj.mapFields (·.setIfInBounds 0 (rawInt 0))) }) u1 rfl (by simp) ?_)));exact AG hh λh' e=>hQ h' λb o hb z=>e b o hb ((((Heap.SameBut.update s.heap it _).trans (Heap.SameBut.update _ it _)).2 b hb).trans z)
end
end L2
namespace L2
open PySem
theorem iU:Slot "set_iterator" "__iter__" "set_iterator.__iter__" := .of (owner := "set_iterator") (n := "__iter__") (by rw[typeLookup_type,builtinLookup_eq_fast];kernel_rfl) (by decide +kernel) (by decide +kernel) (by decide +kernel) (by first|exact .inl (by decide +kernel)|exact .inr (by decide +kernel)) (by rw[isSubtype_type];kernel_rfl)
theorem o9:entryFor table "set_iterator.__iter__" = some Builtin.«dict_keyiterator.__iter__»:=entryFor_alias (id' := "dict_keyiterator.__iter__") (by kernel_rfl) rfl (by decide +kernel) (by kernel_rfl)
theorem yg(a:Value):argsOk "set_iterator.__iter__" ⟨[a],[]⟩:=by unfold argsOk;kernel_rfl
theorem ie{α:Type}:∀{l:List α}{i:Nat}(h:i<l.length),(l[i]::l.eraseIdx i).Perm l
 |x::xs,0,_=>.rfl
 |x::xs,i+1,h=>(List.Perm.swap x _ _).trans ((ie (l:=xs) (i:=i) (Nat.lt_of_succ_lt_succ h)).cons x)
theorem Fy{α:Type}(next:Nat->Nat):∀(f k:Nat) (l:List α) (out:Array α),f=l.length->(pickOrder.go next f k l out).toList.Perm (out.toList++l)
 |0,k,l,out,h=>by
  rw[List.length_eq_zero_iff.mp h.symm,Il];exact .rfl
 |f+1,k,l,out,h=>by
  have hl:next k%l.length<l.length:=Nat.mod_lt _ (by omega)
  unfold pickOrder.go;rw[zR hl];dsimp only;refine(Fy next f (k+1) _ _ (by rw[List.length_eraseIdx_of_lt hl];omega)).trans ?_;rw[Array.toList_push,Vz];exact List.Perm.append_left _ (ie hl)
theorem jx{α:Type}(next:Nat->Nat)(xs:Array α):(pickOrder next xs).toList.Perm xs.toList:=by
 have z:=Fy next xs.size 0 xs.toList #[] (by rw[Hq])
 exact z
section
variable{prog:Program}{w:World}{A:Around}{E:Vs}{s:Shared}{I a:Addr}{n ep:Nat}{es:Array (Int×Value)}{t:SetTable}
theorem ite_no{α:Type}{c:Prop} [Decidable c]{x y:Sem α}{Q:α->Shared->Prop}(hc:¬c)(h:wpAny (model prog w) A y Q E s):wpAny (model prog w) A (if c then x else y) Q E s:=by
 rw[if_neg hc];exact h
theorem ite_yes{α:Type}{c:Prop} [Decidable c]{x y:Sem α}{Q:α->Shared->Prop}(hc:c)(h:wpAny (model prog w) A x Q E s):wpAny (model prog w) A (if c then x else y) Q E s:=by
 rw[if_pos hc];exact h
theorem oX(h0:0<m)(h:∀i d,i<m->Q i { s with drawn:=d }):wpAny (model prog w) A (choose src m) Q E s:=λΓ p _=>by
 show Sem.wp _ _ (.choose src m .pure) _ _ _ _;rw[Sem.wp_choose];refine⟨by omega,?_⟩;show Sem.wp _ _ (pure _) _ _ _ _;rw[Sem.wp_pure'];exact h _ _ (Nat.mod_lt _ h0)
theorem z8{α:Type}:∀(m:Nat) (xs:List α) (s:Shared) {Q:List α->Shared->Prop},m=xs.length->(∀ys d,ys.Perm xs->Q ys { s with drawn:=d })->wpAny (model prog w) A (drawOrder m xs) Q E s
 |0,xs,s,Q,hm,h=>by
  unfold drawOrder;exact bc (h [] s.drawn (by rw[List.length_eq_zero_iff.mp hm.symm]))
 |m+1,[],s,Q,hm,h=>by simp at hm
 |m+1,x::xs,s,Q,hm,h=>by
  unfold drawOrder;refine aw (oX (by simp) λi d hi=>?_);rw[zR hi];refine aw (z8 m _ _ (by rw[List.length_eraseIdx_of_lt hi];omega) λys d' hp=>bc ?_);exact h _ d' ((hp.cons _).trans (ie hi))
theorem jj{f:Value}{i:Nat}{a:Value}{Q:Vs}(ho:s.heap.get? I=some (G9 f i a n ep))(h:Q (.ref I) s):wpAny (model prog w) A (pyIter (.ref I)) Q E s:=by
 have hT:s.TypeIs (.ref I) "set_iterator" := ⟨_,ho,rfl⟩
 refine wpAny_pyIter_slot hT iU (RU iU hT o9 ?_ (yg _));show wpAny _ _ (ret (.ref I)) _ _ s;exact bc ⟨_,rfl, "set_iterator", _,hT,jO.lookup,h⟩
noncomputable abbrev gh(es:Array (Int×Value))(ep:Nat)(t:SetTable):Obj:={ cls:=.type "set", dict:=none,data:=.set es ep t,slots:=#[] }
theorem pN(h:xs.size=1)(hx:xs[0]?=some j):SetTable.below xs 0=0/\SetTable.below xs (j+1)=1:=by
 obtain⟨l⟩:=xs
 match l,h with
 |[x],_=>
  simp at hx;subst hx;simp[SetTable.below,SetTable.below.go]
theorem Qv(h:xs.size=0)(j:Nat):SetTable.below xs j=0:=by
 unfold SetTable.below;rw[h];rfl
theorem Gh(bt:pI w=true)(hh:A.handled=none)(hne:a≠I)(hf:t.fits es.size=true):
  Walks prog w A I [I,a] [I] es.size (λi v=>∃h,(pickOrder (w.params.setOrder a ep) es)[i]?=some (h,v)) (λi h=>h.get? I=some (G9 (.int 0 0) i (.ref a) es.size ep)/\h.get? a=some (gh es ep t)) where
 sub:=λb hb=>by simp at hb;simp[hb]
 frame:=λ_ _ _ st k=>⟨k I (by simp) _ st.1,k a (by simp) _ st.2⟩
 item:=λi s Q E hi st hQ=>by
  have hlen:(pickOrder (w.params.setOrder a ep) es).size=es.size:=by
   have z:=(jx (w.params.setOrder a ep) es).length_eq;simpa using z
  obtain⟨x,hx⟩:∃x,(pickOrder (w.params.setOrder a ep) es)[i]?=some x:=⟨_,WK (by rw[hlen];exact hi)⟩
  refine pM (next:=0) (x:=x.2) st.1 st.2 hf rfl (λA E Q' q=>?_) λh' o' sb=>hQ x.2 h' s.toks ⟨x.1,hx⟩ ⟨o',(sb.2 a hne).trans st.2⟩ λb o hb e=>(sb.2 b (by simpa using hb)).trans e;unfold setNext setsByText;refine aw (QB st.2 rfl hf ?_);dsimp only;refine aw (aw (PD (bc ?_)));rw[show(model prog w).w.params.followText "set-order" = true from bt,if_pos rfl,if_neg (by simp)];unfold setWalk setsByText;refine aw (aw (QB st.2 rfl hf ?_));dsimp only;refine aw (aw (PD (bc ?_)));rw[show(model prog w).w.params.followText "set-order" = true from bt,if_pos rfl];refine aw (PD (bc (bc ?_)));rw[show(pickOrder ((model prog w).w.params.setOrder a ep) es)[i]?=some x from hx];exact q
 done:=λs Q E st hQ=>by
  refine qp hh st.1 st.2 hf rfl (λA E Q' q=>?_) λh' e=>hQ h' s.toks λb o hb z=>e b o (by simpa using hb) z;have hlen:(pickOrder (w.params.setOrder a ep) es).size=es.size:=by
   have z:=(jx (w.params.setOrder a ep) es).length_eq;simpa using z
  unfold setNext setsByText;refine aw (QB st.2 rfl hf ?_);dsimp only;refine aw (aw (PD (bc ?_)));rw[show(model prog w).w.params.followText "set-order" = true from bt,if_pos rfl,if_neg (by simp)];unfold setWalk setsByText;refine aw (aw (QB st.2 rfl hf ?_));dsimp only;refine aw (aw (PD (bc ?_)));rw[show(model prog w).w.params.followText "set-order" = true from bt,if_pos rfl];refine aw (PD (bc (bc ?_)));rw[show(pickOrder ((model prog w).w.params.setOrder a ep) es)[es.size]?=none from Array.getElem?_eq_none (by rw[<-hlen];exact bA _)];exact q
 self:=λ_ _ _ _ st hQ=>jj st.1 hQ
theorem FW(bt:pI w=false)(hh:A.handled=none)(hne:a≠I)(hf:t.fits es.size=true)(hl:t.led=true)(h1:es.size<=1):
  Walks prog w A I [I,a] [I] es.size (λi v=>∃h,es[i]?=some (h,v)) (λi h=>(∃sl,h.get? I=some (G9 (.int (sl:Nat) 0) i (.ref a) es.size ep)/\(i=0->sl=0)/\(i=1->∃j,t.place[0]?=some j/\sl=j+1))/\h.get? a=some (gh es ep t)) where
 sub:=λb hb=>by simp at hb;simp[hb]
 frame:=λ_ _ _ st k=>by
  obtain⟨⟨sl,o,z⟩,q⟩:=st;exact⟨⟨sl,k I (by simp) _ o,z⟩,k a (by simp) _ q⟩
 item:=λi s Q E hi st hQ=>by
  obtain⟨⟨sl,o,z0,z1⟩,hs⟩:=st;have e1:es.size=1:=by omega
  have i0:i=0:=by omega
  subst i0;have s0:=z0 rfl;subst s0;have hp:t.place.size=1:=by
   have z:=hf;simp only[SetTable.fits,Bool.and_eq_true,beq_iff_eq]at z;omega
  obtain⟨j,hj⟩:∃j,t.place[0]?=some j:=⟨_,WK (by omega)⟩
  obtain⟨⟨hv,x⟩,hx⟩:∃x,es[0]?=some x:=⟨_,WK (by omega)⟩
  refine pM (next:=j+1) (x:=x) o hs hf rfl (λA E Q' q=>?_) λh' o' sb=>hQ x h' s.toks ⟨hv,hx⟩ ⟨⟨j+1,o',λz=>absurd z (by omega),λ_=>⟨j,hj,rfl⟩⟩,(sb.2 a hne).trans hs⟩ λb o hb e=>(sb.2 b (by simpa using hb)).trans e;unfold setNext setsByText;refine aw (QB hs rfl hf ?_);dsimp only;refine aw (aw (PD (bc ?_)));rw[show(model prog w).w.params.followText "set-order" = false from bt,if_neg (by simp)];refine ite_no (λz=>absurd (show(!t.plain&&decide (es.size>1))=true from z) (by rw[e1];simp)) ?_;refine aw ?_;show wpAny _ _ (if (!t.led && !es.isEmpty)=true then unsupported "set:maker-not-led" else pure ()) _ _ _;rw[hl,if_neg (by simp)];refine bc ?_;rw[(pN hp hj).1,hx,hj];exact bc q
 done:=λs Q E st hQ=>by
  obtain⟨⟨sl,o,z0,z1⟩,hs⟩:=st;refine qp hh o hs hf rfl (λA E Q' q=>?_) λh' e=>hQ h' s.toks λb o hb z=>e b o (by simpa using hb) z;unfold setNext setsByText;refine aw (QB hs rfl hf ?_);dsimp only;refine aw (aw (PD (bc ?_)));rw[show(model prog w).w.params.followText "set-order" = false from bt,if_neg (by simp)];refine ite_no (λz=>absurd (show(!t.plain&&decide (es.size>1))=true from z) (by simp;omega)) ?_;refine aw ?_;show wpAny _ _ (if (!t.led && !es.isEmpty)=true then unsupported "set:maker-not-led" else pure ()) _ _ _;rw[hl,if_neg (by simp)];refine bc ?_;have hb:es[SetTable.below t.place sl]?=none:=by
   have z:=hf;simp only[SetTable.fits,Bool.and_eq_true,beq_iff_eq]at z;by_cases e1:es.size=1
   ·obtain⟨j,hj,rfl⟩:=z1 e1;rw[(pN (by omega) hj).2];exact Array.getElem?_eq_none (by omega)
   ·rw[Qv (by omega)];exact Array.getElem?_eq_none (by omega)
  rw[hb];exact bc q
 self:=λ_ _ _ _ st hQ=>by
  obtain⟨⟨sl,o,_⟩,_⟩:=st;exact jj o hQ
theorem zH{p:Addr}{ps:List Nat}(hh:A.handled=none)(hne:a≠I)(hpI:p≠I)(hf:t.fits es.size=true)(hps:ps.Perm (List.range es.size)):
  Walks prog w A I [I,a,p] [I] es.size (λi v=>∃j h,ps[i]?=some j/\es[j]?=some (h,v)) (λi h=>h.get? I=some (G9 (.ref p) i (.ref a) es.size ep)/\h.get? a=some (gh es ep t)/\h.get? p=some { cls:=.type "tuple", data:=.seq (List.toArray (ps.map λj=>rawInt (j:Nat))) 0 }) where
 sub:=λb hb=>by simp at hb;simp[hb]
 frame:=λ_ _ _ st k=>⟨k I (by simp) _ st.1,k a (by simp) _ st.2.1,k p (by simp) _ st.2.2⟩
 item:=λi s Q E hi st hQ=>by
  have hl:ps.length=es.size:=by rw[hps.length_eq,Yv]
  obtain⟨j,hj⟩:∃j,ps[i]?=some j:=⟨_,zR (by omega)⟩
  have hj1:j<es.size:=List.mem_range.mp (hps.mem_iff.mp (i7 hj));obtain⟨⟨hv,x⟩,hx⟩:∃x,es[j]?=some x:=⟨_,WK hj1⟩
  exact BW st.1 st.2.1 hf rfl st.2.2 hj hx λh' o' sb=>hQ x h' s.toks ⟨j,hv,hj,hx⟩ ⟨o',(sb.2 a hne).trans st.2.1,(sb.2 p hpI).trans st.2.2⟩ λb o hb e=>(sb.2 b (by simpa using hb)).trans e
 done:=λs Q E st hQ=>m7 hh st.1 st.2.1 hf rfl st.2.2 (List.getElem?_eq_none (by rw[hps.length_eq,Yv];exact bA _)) λh' e=>hQ h' s.toks λb o hb z=>e b o (by simpa using hb) z
 self:=λ_ _ _ _ st hQ=>jj st.1 hQ
end
end L2
namespace L2
open PySem
section
variable{prog:Program}{w:World}{A:Around}{E:Vs}{s:Shared}{a:Addr}{L:List Str}
theorem Le{es:Array (Int×Value)}:∀(l:List Nat),(∀j∈l,j<es.size)->∀(i j:Nat),l[i]?=some j->(l.filterMap λj=>es[j]?)[i]?=es[j]?
 |[],_,i,j,q=>by simp at q
 |x::l,hl,i,j,q=>by
  have hx:=WK (hl x (.head _));rw[List.filterMap_cons,hx];cases i with
  |zero=>simp at q;subst q;simp[hx]
  |succ i=>
   simp at q ⊢;exact Le l (λj hj=>hl j (.tail _ hj)) i j q
def YU(w:World)(ord:List (Int×Value))(i:Nat)(v:Value):Prop:=∃h,ord[i]?=some (h,v)
theorem Jm{Q:Vs}{es:Array (Int×Value)}{ep:Nat}{t:SetTable}(ho:s.heap.get? a=some (gh es ep t))(hf:t.fits es.size=true)(hl:t.led = !pI w)(hp:t.plain=true->es.size=0)(hz:es.size<scanBound)
  (hQ:∀(s':Shared) (I:Addr) (fp:List Addr) (St:Nat->Heap->Prop) (P:Nat->Value->Prop) (ord:List (Int×Value)),(∀b o,s.heap.get? b=some o->s'.heap.get? b=some o)->s'.gens=s.gens->s'.os=s.os->
   (∀A':Around,A'.handled=none->Walks prog w A' I fp [I] es.size P St)->St 0 s'.heap->(∀b∈fp,b=a\/s.heap.objs.size<=b)->s.heap.objs.size<=I->ord.Perm es.toList->(∀i v,P i v->YU w ord i v)->Q (.ref I) s'):
  wpAny (model prog w) A (pyIter (.ref a)) Q E s:=by
 have hT:s.TypeIs (.ref a) "set" := ⟨_,ho,rfl⟩
 have hlt:a<s.heap.objs.size:=cH ho;refine wpAny_pyIter_slot hT PySem.F.slot_set_iter (RU PySem.F.slot_set_iter hT tX ?_ (PySem.F.args_set_iter_1 _));unfold Builtin.«frozenset.__iter__» Builtin.Frozenset.sizeOf setDrawn setsByText;refine aw (bc ?_);refine aw (aw (Z8 ho rfl hf (bc ?_)));refine aw (aw (QB ho rfl hf ?_));dsimp only;refine aw (aw (PD (bc (bc ?_))));cases bt:pI w with
 |true=>
  refine ite_no (λz=>absurd (show(!(pI w)&&(!t.plain&&decide (es.size>1)))=true from z) (by rw[bt];simp)) ?_;refine aw (bc (aw (wpAny_setEpoch_of ho rfl hf (aw (Hk ?_)))));refine bc ⟨_,rfl, "set_iterator", _,⟨_,iu _ rfl,rfl⟩,jO.lookup,?_⟩;exact hQ _ s.heap.objs.size [s.heap.objs.size,a] _ _ (pickOrder (w.params.setOrder a ep) es).toList (λb o z=>dM _ z) rfl rfl (λA' h'=>Gh bt h' (fE hlt) hf) ⟨iu _ rfl,dM _ ho⟩
   (λb hb=>by simp at hb;rcases hb with rfl|rfl<;>simp) (Nat.le_refl _) (jx _ _) λi v ⟨h,z⟩=>⟨h,by rw[Array.getElem?_toList];exact z⟩
 |false=>
  rw[bt]at hl;by_cases h1:es.size<=1
  ·refine ite_no (λz=>absurd (show(!(pI w)&&(!t.plain&&decide (es.size>1)))=true from z) (by simp;omega)) ?_;refine aw (bc (aw (wpAny_setEpoch_of ho rfl hf (aw (Hk ?_)))));refine bc ⟨_,rfl, "set_iterator", _,⟨_,iu _ rfl,rfl⟩,jO.lookup,?_⟩;exact hQ _ s.heap.objs.size [s.heap.objs.size,a] _ _ es.toList (λb o z=>dM _ z) rfl rfl (λA' h'=>FW bt h' (fE hlt) hf hl h1) ⟨⟨0,iu _ rfl,λ_=>rfl,λz=>absurd z (by omega)⟩,dM _ ho⟩
    (λb hb=>by simp at hb;rcases hb with rfl|rfl<;>simp) (Nat.le_refl _) .rfl λi v ⟨h,z⟩=>⟨h,by rw[Array.getElem?_toList];exact z⟩
  ·have np:t.plain=false:=by
    cases z:t.plain with
    |false=>rfl
    |true=>exact absurd (hp z) (by omega)
   refine ite_yes (show(!(pI w)&&(!t.plain&&decide (es.size>1)))=true by rw[bt,np];simp;omega) ?_;refine aw (z8 es.size (List.range es.size) s (by simp) λps d hps=>?_);refine aw <| wpAny_newTuple ?_ (by rw[aS,hps.length_eq,Yv];exact fits_of_scanBound hz)
   have ho1:(s.heap.push { cls:=.type "tuple", data:=.seq (List.toArray (ps.map λj=>rawInt (j:Nat))) 0 }).get? a=some (gh es ep t):=dM _ ho;refine aw (wpAny_setEpoch_of (s:={ s with heap:=s.heap.push { cls:=.type "tuple", data:=.seq (List.toArray (ps.map λj=>rawInt (j:Nat))) 0 },drawn:=d }) ho1 rfl hf (aw (Hk ?_)));refine bc ⟨_,rfl, "set_iterator", _,⟨_,iu _ rfl,rfl⟩,jO.lookup,?_⟩;have hs1:(s.heap.push { cls:=.type "tuple", data:=.seq (List.toArray (ps.map λj=>rawInt (j:Nat))) 0 }).objs.size=s.heap.objs.size+1:=Heap.size_push ..;refine hQ _ _ [_,a,s.heap.objs.size] _ _ (ps.filterMap λj=>es[j]?) (λb o z=>dM _ (dM _ z)) rfl rfl (λA' h'=>zH (ps:=ps) (p:=s.heap.objs.size) h' (hs1▸fE (Nat.lt_succ_of_lt hlt)) (hs1▸fE (XI _)) hf hps)
    ⟨iu _ rfl,dM _ ho1,dM _ (iu _ rfl)⟩ (λb hb=>?_) (by first|exact Nat.le_succ _|exact hs1.symm▸Nat.le_succ _) ?_ λi v ⟨j,h,z1,z2⟩=>?_
   ·simp at hb;rcases hb with rfl|rfl|rfl
    ·exact .inr (by first|exact Nat.le_succ _|exact hs1.symm▸Nat.le_succ _)
    ·exact .inl rfl
    ·exact .inr (bA _)
   ·refine(hps.filterMap _).trans ?_;rw[filterMap_getElem?_range]
   ·exact⟨h,by rw[Le ps (λj hj=>List.mem_range.mp (hps.mem_iff.mp hj)) i j z1,z2]⟩
theorem LH(hT:s.TypeIs (.ref a) "set")(h:Q false s):wpAny (model prog w) A (Builtin.List.listLengthHint (.ref a)) Q E s:=by
 unfold Builtin.List.listLengthHint;refine aw (wpAny_specialOf hT PySem.F.slot_set_len.lookup ?_);generalize hid:("set.__len__" : String)=id0
 wp_delta
 rw[show splitId id0=some ("set", "__len__") from by subst hid;decide +kernel];subst hid;refine aw (wpAny_isInstance (T := "set") (b:=true) hT (by rw[isSubtype_type];kernel_rfl) ?_);refine ite_no (by decide) (ite_yes (by decide +kernel) ?_);exact aw (wpAny_typeOf hT (bc h))
theorem zq(S:gQ w s.heap a L)(hh:A.handled=none)
  (h:∀(s':Shared) (vs:List Value) (ord:List Str),(∀b o,s.heap.get? b=some o->s'.heap.get? b=some o)->s'.gens=s.gens->s'.os=s.os->ord.Perm L->vs.length=ord.length->(∀(j:Nat) (v:Value),vs[j]?=some v->∃y k,ord[j]?=some y/\v=Value.str y k)->R vs s'):
  wpAny (model prog w) A (collect (.ref a)) R E s:=by
 obtain⟨es,ep,t,ho,he,hL,hb,hf,hl,hp⟩:=id S;have hn:es.size=L.length:=by rw[<-hL,aS,Hq]
 have hlt:a<s.heap.objs.size:=cH ho;unfold collect;refine aw (wpAny_runValue (codeAny_builtin PySem.F.entry_proto_collect ?_));rw[Around.under_plainId PySem.F.plain_proto_collect _];show wpAny _ A.in1 (newList [] >>= λl=>again (.builtin "list.__iadd__" ⟨[l,.ref a],[]⟩)) _ _ s;refine aw (Hk (bc ⟨plainId_quiet PySem.F.plain_list_iadd _,codeAny_builtin PySem.F.entry_list_iadd ?_⟩));rw[Around.under_plainId PySem.F.plain_list_iadd _];show wpAny _ A.in1 (Builtin.List.listExtendWith (.ref s.heap.objs.size) (.ref a) (.ref s.heap.objs.size)) _ _ _;generalize hH:s.heap.push { cls:=.type "list", data:=.seq ([]:List Value).toArray }=H;have hHs:H.objs.size=s.heap.objs.size+1:=by rw[<-hH];exact Heap.size_push ..
 have hS0:H.get? s.heap.objs.size=some { cls:=.type "list", data:=.seq ([]:List Value).toArray }:=hH▸iu _ rfl;have ho1:H.get? a=some (gh es ep t):=hH▸dM _ ho;have kp:∀b o,s.heap.get? b=some o->H.get? b=some o:=λb o z=>hH▸dM _ z;unfold Builtin.List.listExtendWith;refine aw (wpAny_typeOf (T := "set") ⟨_,ho1,rfl⟩ ?_);have h1:Builtin.List.listSameRef (.ref s.heap.objs.size) (.ref a)=false:=by simp[Builtin.List.listSameRef];exact Ne.symm (Nat.ne_of_lt hlt)
 refine ite_no (by rw[h1];decide) ?_;refine aw (Jm (s:={ s with heap:=H }) ho1 hf hl (λz=>by rw[hn,hp z];rfl) hb λs1 I fp St P ord k1 g1 o1 W st hfp hI hord hP=>?_);have hI':s.heap.objs.size+1<=I:=hHs▸hI;have hSI:s.heap.objs.size≠I:=fE hI';have hSf:s.heap.objs.size∉fp:=λz=>by
  rcases hfp _ z with q|q
  ·exact absurd q (Ne.symm (fE hlt))
  ·exact absurd (show H.objs.size<=s.heap.objs.size from q) (by rw[hHs];exact Nat.not_succ_le_self _)
 have hS1:=k1 _ _ hS0;have ord_len:(ord.map λe=>txtOf e.2).Perm L:=by rw[<-hL];exact hord.map _
 refine aw (AS (LH (s:=s1) ⟨_,k1 _ _ ho1,rfl⟩ ?_));refine ite_yes (by decide +kernel) (aw (RG (aw ?_)));show wpAny _ _ (updateSeq s.heap.objs.size (λq=>q.push Value.none) >>= λ_=>updateSeq s.heap.objs.size (λq=>q.pop)) _ _ _;refine aw (wpAny_updateSeq hS1 rfl ?_);have hS2:=G8 (Obj.mapSeq (λq=>q.push Value.none)) hS1 rfl;refine wpAny_updateSeq (hz:=by seq_fits) hS2 rfl ?_;have hS3:=G8 (Obj.mapSeq (λq=>q.pop)) hS2 rfl;have k2:∀b o,b≠s.heap.objs.size->s1.heap.get? b=some o->((s1.heap.update s.heap.objs.size (Obj.mapSeq λq=>q.push Value.none)).update s.heap.objs.size (Obj.mapSeq λq=>q.pop)).get? b=some o:=λb o hb z=>
  (PU _ _ (Ne.symm hb)).trans ((PU _ _ (Ne.symm hb)).trans z)
 have W1:=(W A.in1 hh).toS;refine bc ⟨plainId_quiet PySem.F.plain_extend_loop _,codeAny_extend_loopS W1 (fits_of_scanBound hb) _ hSf _ es.size 0 _ #[] _ rfl (i8 _) ((W A.in1 hh).frame 0 _ _ st λb hb o z=>k2 b o (λq=>hSf (q▸hb)) z) hS3 (ItemsOf.nil _) λs2 acc c hm hS2 hacc=>?_⟩;show wpAny _ A (load s.heap.objs.size >>= _) _ _ s2;refine aw (wpAny_load hS2 (bc (h s2 acc.toList (ord.map λe=>txtOf e.2) (λb o z=>?_) (hm.gens.trans g1) (hm.os.trans o1) ord_len ?_ λj v hv=>?_)))
 ·refine hm.heap b o (λq=>?_) (k2 b o (fE (cH z)) (k1 b o (kp b o z)));have lt:=cH z;rcases i_.mp q with q|q
  ·exact absurd lt (q▸oP _)
  ·rw[fN.mp q]at lt;exact absurd (g8 (Nat.lt_succ_of_lt lt) hI') (oP _)
 ·rw[Hq,hacc.1,aS,hord.length_eq,Hq]
 ·rw[Array.getElem?_toList]at hv;obtain⟨hh,z⟩:=hP j v (hacc.2 j v hv);obtain⟨y,k,e⟩:=he _ (hord.mem_iff.mp (i7 z));refine⟨y,k,?_,congrArg Prod.snd e⟩;rw[oR,z,e];rfl
end
end L2
namespace L2
open PySem PySem.Spec
section
variable{prog:Program}{w:World}{A:Around}{E:Vs}
theorem GP(a:Value){Q₁:Vs}(h:Q₁ (.ref s.heap.objs.size) { s with heap:=s.heap.push (gh #[] 0 (.fresh 0 0 (!pI w))) }):
  codeAny (model prog w) A (.call (.builtin "set.__new__") ⟨[.type "set", a],[]⟩) (wants Q₁ E) s:=by
 refine codeAny_of_tree ?_;show wpAny _ A.in1 (checkBuiltinCall "set.__new__" ⟨[.type "set", a],[]⟩ >>= λ_=>again (.builtin "set.__new__" ⟨[.type "set", a],[]⟩)) _ _ s;refine aw (wpAny_of_eq (PySem.F.newCall_set_1 a) (bc ⟨plainId_quiet PySem.F.plain_set_new _,codeAny_builtin PySem.F.entry_set_new ?_⟩));rw[Around.under_plainId PySem.F.plain_set_new _];unfold Builtin.«set.__new__» Builtin.Frozenset.newClass;have hs:=sub_set_self;obtain⟨hp,g,d,tk,os⟩:=s;dsimp only
 wp_walk
 refine PD (bc ?_);dsimp only;simp only[newObj];exact aw (wpAny_alloc (bc (bc h)))
theorem BJ{h:Heap}:gQ w (h.push (gh #[] 0 (.fresh 0 0 (!pI w)))) h.objs.size []:=
 ⟨#[],0,_,iu _ rfl,λe he=>by simp at he,rfl,by decide,rfl,rfl,λ_=>rfl⟩
theorem gQ.keep{h h':Heap}{a:Addr}{L:List Str}(S:gQ w h a L)(k:∀o,h.get? a=some o->h'.get? a=some o):gQ w h' a L:=
 let ⟨es,ep,t,ho,r⟩:=S;⟨es,ep,t,k _ ho,r⟩
theorem O9{L L':List Str}{x:Str}(h:L'.Perm (if x∈L then L else L++[x]))(hn:L.Nodup):L'.Nodup/\(∀y,y∈L'↔y∈L\/y=x)/\L'.length<=L.length+1:=by
 by_cases m:x∈L
 ·rw[if_pos m]at h;exact⟨h.symm.nodup hn,λy=>by rw[h.mem_iff];exact⟨.inl,λz=>z.elim id λe=>e▸m⟩,by rw[h.length_eq];omega⟩
 ·rw[if_neg m]at h;refine⟨h.symm.nodup ?_,λy=>by rw[h.mem_iff];simp,by rw[h.length_eq];simp⟩;rw[Ee];exact⟨hn,by simp,λa ha b hb=>by simp at hb;subst hb;exact λe=>m (e▸ha)⟩
theorem K8{R:Result->Shared->Prop}{I:Addr}{fp wr:List Addr}{G:Array GenState->Array GenState->Prop}{n:Nat}{P:Nat->Value->Prop}{St:Nat->Shared->Prop}(W:WalksS prog w A.in1 I fp wr G n P St)(S:Addr)(hSf:S∉fp)
  (val:Nat->Str) (hval:∀i v,P i v->∃t,v=Value.str (val i) t) (hb:n+1<scanBound):
  ∀(k i:Nat) (s:Shared) (L:List Str),n - i=k->i<=n->St i s->gQ w s.heap S L->L.Nodup->L.length<=i->(∀y,y∈L↔∃j,j<i/\val j=y)->
   (∀s' L',Moved (S::wr) G s s'->gQ w s'.heap S L'->L'.Nodup->L'.length<=n->(∀y,y∈L'↔∃j,j<n/\val j=y)->R (.ok (.ret .none)) s')->
   codeAny (model prog w) A (.builtin "set.update.loop" ⟨[.ref S,.ref I],[]⟩) R s:=by
 have hSw:S∉wr:=λh=>hSf (W.sub _ h);have sub:∀b∈wr,b∈S::wr:=λb hb=>Bv _ hb;intro k
 induction k with
 |zero=>
  intro i s L hk hi st hS hN hl hm hR;obtain rfl:i=n:=by omega
  refine codeAny_builtin PyProof.Rows.F.entry_set_update_loop ?_;rw[Around.under_plainId PyProof.Rows.F.plain_set_update_loop _];show wpAny _ A.in1 (pyNext (.ref I) >>= _) _ _ s;refine aw (W.done s _ _ st λs' mv=>?_);exact bc (hR s' L (mv.mono sub) (hS.keep λo z=>mv.heap S o hSw z) hN hl hm)
 |succ k ih=>
  intro i s L hk hi st hS hN hl hm hR;have lt:i<n:=by omega
  refine codeAny_builtin PyProof.Rows.F.entry_set_update_loop ?_;rw[Around.under_plainId PyProof.Rows.F.plain_set_update_loop _];show wpAny _ A.in1 (pyNext (.ref I) >>= _) _ _ s;refine aw (W.item i s _ _ lt st λv s' hP st' mv=>?_);obtain⟨t,rfl⟩:=hval i v hP;have hS':gQ w s'.heap S L:=hS.keep λo z=>mv.heap S o hSw z;show wpAny _ A.in1 (holding [Value.str (val i) t] (setAdd S (.str (val i) t)) >>= _) _ _ s';refine aw (AS ?_);unfold setAdd;refine AS (aw ((PySem.strKind prog w).pyHash (k:=val i) (by simp[PySem.strKind,Value.isStrOf]) ?_));refine Nz (s:={ s' with toks:=s'.toks+1 }) hS' (by omega) λh' L' b sb S2 pm=>?_;obtain⟨n2,m2,l2⟩:=O9 pm hN;refine bc ⟨plainId_quiet PyProof.Rows.F.plain_set_update_loop _,ih (i+1) _ L' (by omega) lt (W.frame _ s' _ _ st' (Nat.le_succ _) λb hb o e=>?_) S2 n2 (by omega) (λy=>?_) λs'' L'' mv' S3 n3 l3 m3=>?_⟩
  ·rw[sb.2 b (λh:b=S=>hSf (by rw[<-h];exact hb))];exact e
  ·rw[m2 y,hm y];constructor
   ·rintro (⟨j,hj,e⟩|e)
    ·exact⟨j,by omega,e⟩
    ·exact⟨i,by omega,e.symm⟩
   ·rintro⟨j,hj,e⟩;by_cases ji:j=i
    ·exact .inr (ji▸e.symm)
    ·exact .inl ⟨j,by omega,e⟩
  ·refine hR s'' L'' (Moved.trans W.gtrans ((mv.mono sub).then_heap (Nat.le_succ _) λb o hb e=>?_) mv') S3 n3 l3 m3;rw[sb.2 b (λh:b=S=>hb (by rw[h];exact Qw))];exact e
set_option maxHeartbeats 3200000 in
theorem GH{s:Shared}{l:Addr}{items:Array Value}{val:Nat->Str}{Q:Vs}(hh:A.handled=none)(hl:s.heap.IsList l items)(hi:∀(i:Nat) (v:Value),items[i]?=some v->∃t,v=Value.str (val i) t)(hb:items.size+1<scanBound)
  (h:∀(h':Heap) (tk:Nat) (L:List Str),gQ w h' s.heap.objs.size L->L.Nodup->L.length<=items.size->(∀y,y∈L↔∃j,j<items.size/\val j=y)->(∀b o,s.heap.get? b=some o->h'.get? b=some o)->Q (.ref s.heap.objs.size) { s with heap:=h',toks:=tk }):
  wpAny (model prog w) A (call (.type "set") [.ref l]) Q E s:=by
 obtain⟨c0,tl0,mro0⟩:=PySem.F.called_set.mro;have made0:=PySem.F.called_set.made;have sub0:=PySem.F.called_set.sub;refine wpAny_call (codeAny_of_tree (show wpAny _ _ (callAny (.type "set") _) _ _ _ from ?_));refine bc ⟨Code.quiet_builtin _ (by decide +kernel),codeAny_builtin PySem.F.entry_type_call ?_⟩;rw[Around.under_plain (weight_type_call_type "set" [.ref l] []) rfl];have n1:=PySem.F.called_set.notType;have n2:=PySem.F.called_set.canCreate;have n3:=PySem.F.typeCall_set_1 (.ref l)
 repeat (any_goals (first|assumption|wp_step))
 refine codeAny_mono (GP (.ref l) (E:=E) (Q₁:=λobj s1=>obj=.ref s.heap.objs.size/\s1={ s with heap:=s.heap.push (gh #[] 0 (.fresh 0 0 (!pI w))) }) ⟨rfl,rfl⟩) λr s1 hr=>?_;cases r with
 |error e=>exact hr
 |ok fl=>
  cases fl with
  |ret obj=>
   obtain⟨rfl,rfl⟩:=hr;have hS:(s.heap.push (gh #[] 0 (.fresh 0 0 (!pI w)))).get? s.heap.objs.size=some (gh #[] 0 (.fresh 0 0 (!pI w))):=iu _ rfl;have hT:Shared.TypeIs { s with heap:=s.heap.push (gh #[] 0 (.fresh 0 0 (!pI w))) } (.ref s.heap.objs.size) "set" := ⟨_,hS,rfl⟩
   have li:=PySem.F.called_set.init.lookup;have bi:=PySem.F.called_set.init.bind (.ref s.heap.objs.size)
   repeat (any_goals (first|assumption|wp_step))
   refine codeAny_mono (codeAny_call_builtin (R:=wants (λr s2=>r=.none/\∃h' tk L,s2={ s with heap:=h',toks:=tk }/\gQ w h' s.heap.objs.size L/\L.Nodup/\L.length<=items.size/\(∀y,y∈L↔∃j,j<items.size/\val j=y)/\∀b o,s.heap.get? b=some o->h'.get? b=some o) E) PySem.F.called_set.init.plain PySem.F.entry_set_init (check_set_init_1 hT ?_)) λr2 s2 hr2=>?_
   ·obtain⟨ol,hol,hcl,nl,hdl⟩:=hl;obtain⟨ocls,odict,odata,oslots⟩:=ol;simp only at hcl hdl;subst hcl hdl;have hol':(s.heap.push (gh #[] 0 (.fresh 0 0 (!pI w)))).get? l=some { cls:=.type "list", dict:=odict,data:=.seq items nl,slots:=oslots }:=dM _ hol;have q1:=PySem.F.sub_list_set;have q2:=PySem.F.sub_list_frozenset;have q3:(Value.type "list" == Value.type "dict")=false:=by decide
    have hl1:(s.heap.push (gh #[] 0 (.fresh 0 0 (!pI w)))).IsList l items:=⟨_,hol',rfl,nl,rfl⟩
    unfold Builtin.«set.__init__» noKeywords Builtin.Frozenset.updateFrom;generalize hPI:pyIter=PI
    wp_walk
    subst hPI;refine wpAny_pyIter_list hl1 (aw (wpAny_runValue ?_));have hlS:l<s.heap.objs.size:=cH hol;have hs1:(s.heap.push (gh #[] 0 (.fresh 0 0 (!pI w)))).objs.size=s.heap.objs.size+1:=Heap.size_push ..;have h3:A.in1.in1.in1.handled=none:=by simp[hh]
    have nI:l≠(s.heap.push (gh #[] 0 (.fresh 0 0 (!pI w)))).objs.size:=hs1▸fE (Nat.lt_succ_of_lt hlS);have hSf:s.heap.objs.size∉[(s.heap.push (gh #[] 0 (.fresh 0 0 (!pI w)))).objs.size,l]:=by
     rw[hs1];simp only[List.mem_cons,List.not_mem_nil,or_false,not_or];exact⟨fE (XI _),Nat.ne_of_gt hlS⟩
    refine K8 ((Walks.list h3 _ l nI items).toS) s.heap.objs.size hSf val hi hb (items.size - 0) 0 _ [] (by omega) (i8 _) ⟨⟨_,iu _ rfl,rfl,rfl⟩,(hl1.push _)⟩
     (BJ.keep λo z=>dM _ z) .nil (i8 _) (λy=>by simp) λs' L' mv S' N' l' m'=>?_
    obtain⟨h',g',d',tk',os'⟩:=s';obtain rfl:g'=s.gens:=mv.gens;obtain rfl:d'=s.drawn:=mv.drawn;obtain rfl:os'=s.os:=mv.os;show wpAny _ _ _ _ _ _;refine bc ?_;show wpAny _ _ (ret Value.none) _ _ _;refine bc ⟨rfl,h',tk',L',rfl,S',N',l',m',λb o e=>?_⟩;have lt:=cH e;exact mv.heap b o (by rw[hs1];simp only[List.mem_cons,List.not_mem_nil,or_false,not_or];exact⟨Nat.ne_of_lt lt,Nat.ne_of_lt (Nat.lt_succ_of_lt lt)⟩) (Heap.get?_push_of_some _ (Heap.get?_push_of_some _ e))
   ·cases r2 with
    |error e=>exact hr2
    |ok f2=>
     cases f2 with
     |ret r=>
      obtain⟨rfl,h',tk,L,rfl,S',N',l',m',k'⟩:=hr2
      repeat (any_goals (first|assumption|wp_step))
      exact h _ _ _ S' N' l' m' k'
     |_=>exact hr2.elim
  |_=>exact hr.elim
end
section
open PyProof.Rows
variable{X:Cx}
noncomputable def A1(w:World)(L:List Str)(a:Addr):HO:=.ext λh=>gQ w h a L
theorem A1.ok{P:Program}{w:World}{H:Hp}{h:Heap}{a:Addr}{L:List Str}(S:gQ w h a L):a0 P w H h a (A1 w L a):=
 ⟨S,let ⟨_,_,_,ho,_⟩:=S;⟨_,ho⟩,λ_ _ s k=>s.keep k⟩
noncomputable def Zi(w:World)(K:Wf):List V->Hp->VK->Prop:=λxs H Q=>∃(p:Addr) (ss:List Str),xs=[.ref p]/\aI K H p (ss.map V.str)/\ss.length<4000/\∀(q:Addr) (L:List Str),H q=none->L.Nodup->L.length<=ss.length->(∀y,y∈L↔y∈ss)->Q (.ref q) (upd H q (A1 w L q))
theorem NC(hc:X.calm=true):cS X (.type "set") (Zi X.w X.K):=by
 intro pins s σ H xs us Q I r h;obtain⟨p,ss,rfl,hq,hz,q⟩:=h;obtain⟨u,rfl,rx⟩:=vals1 r;cases rx;obtain⟨its,r',pl,_⟩:=I.list hq;have hl:its.length=ss.length:=by rw[<-r'.length,aS]
 have at_:∀(i:Nat) (v:Value),its.toArray[i]?=some v->∃t,v=Value.str (ss.getD i Str.empty) t:=λi v hv=>by
  rw[List.getElem?_toArray]at hv;have hi:i<ss.length:=by rw[<-hl];exact(o6.mp hv).1
  obtain⟨u,hu,ru⟩:=r'.get (i:=i) (x:=.str ss[i]) (by rw[oR,zR hi];rfl);rw[hv]at hu;cases hu;obtain⟨t,rfl⟩:=ru;exact⟨t,by rw[PJ,zR hi];rfl⟩
 refine GH (I.ok.hd hc) pl.isList at_ (by rw[iC,hl];show _<4096;omega) λh' tk L S N hle hm kp=>?_;rw[iC,hl]at hle;refine⟨.ref s.heap.objs.size,_,I.laid (a:=s.heap.objs.size) (o:=A1 X.w L s.heap.objs.size) (t':=tk) kp (bA _) (A1.ok S),rfl,q _ L (I.aN.fresh (bA _)) N hle λy=>?_⟩;rw[hm y,iC,hl];constructor
 ·rintro⟨j,hj,rfl⟩;rw[PJ,zR hj];exact Se hj
 ·intro z;obtain⟨j,hj,rfl⟩:=List.getElem_of_mem z;exact⟨j,hj,by rw[PJ,zR hj];rfl⟩
noncomputable def zE(w:World):List V->Hp->VK->Prop:=λxs H Q=>∃(p:Addr) (L:List Str),xs=[.ref p]/\H p=some (A1 w L p)/\L.length<64/\∀(l:Addr) (ss':List Str),H l=none->ss'.Perm L->ss'.Pairwise GN->Q (.ref l) (upd H l (.lst (ss'.map V.str)))
theorem xj(hc:X.calm=true):cS X (.builtin "sorted") (zE X.w):=by
 intro pins s σ H xs us Q I r h;obtain⟨p,L,rfl,hq,hz,q⟩:=h;obtain⟨u,rfl,rx⟩:=vals1 r;cases rx;have S:gQ X.w s.heap p L:=(I.aN p _ hq).1;have hh:X.A.in1.handled=none:=by simp[I.ok.hd hc]
 refine pK (zq S hh λs1 vs ord kp g1 o1 pm hl at_=>?_);refine⟨ord,uZ hl at_,by rw[hl,pm.length_eq];exact hz,λh2 out ss' D e k2 hD hg S2 pm2 pw=>?_⟩;have I1:Inv X pins σ H s1:=I.oI (ch:=[]) o1 (Un.kept kp) (I.aN.kept kp) (g1▸I.bare) λb hb=>nomatch hb
 exact⟨.ref D,_,I1.laid (a:=D) (o:=.lst (ss'.map V.str)) (t':=s1.toks) k2 hD ⟨by rw[aS,pm2.length_eq,pm.length_eq,sizeLine_eq];omega,out,e,sy S2,by simpa using hg⟩,rfl,q _ ss' (I1.aN.fresh hD) (pm2.trans pm) pw⟩
end
end L2
namespace L2
open PySem PySem.Spec PyProof.Rows
section
variable{X:Cx}
end
section
variable{prog:Program}{w:World}{K:Type} [DecidableEq K]{knd:HeapKind prog w K}{A:Around}{E:Vs}{s:Shared}
theorem grown{d a:Addr}{o:Obj}{es:Array DictEntry}{ep:Nat}{xs:List (K×Addr×Value)}{k:K}{v:Value}{h:Heap}(ho:h.get? d=some o)(hd:o.data=.dict es ep)(hc:o.ExactDict)
  (he:es.toList=xs.map (entryOfKey knd)) (his:∀x∈xs,knd.is h x.1 x.2.1) (hn:(xs.map (·.1)).Nodup) (hkey:knd.is h k a) (hno:∀(j:Nat) (p:Addr×Value),xs[j]?≠some (k,p)):
  (h.update d (Obj.mapDictKeys λl=>l.push ⟨knd.hash k,.ref a,v⟩)).DictOfH knd d (storedH xs k a v):=by
 have e:storedH xs k a v=xs++[(k,a,v)]:=storedH_new (atKey_none_of_get hno) a v;have keep:∀{c:K}{b:Addr},knd.is h c b->knd.is (h.update d (Obj.mapDictKeys λl=>l.push ⟨knd.hash k,.ref a,v⟩)) c b:=λq=>knd.keeps q ho hd (Heap.SameBut.update ..);have dat:=Obj.data_mapDictKeys hd λl=>l.push ⟨knd.hash k,.ref a,v⟩;refine e▸⟨_,es.push ⟨knd.hash k,.ref a,v⟩,ep+1,G8 _ ho (Obj.isFreed_of_dict dat),hc.mapDictKeys _,dat,?_,?_,?_⟩
 ·rw[Array.toList_push,he,eA];rfl
 ·exact λx hx=>(fY.mp hx).elim (λq=>keep (his x q)) λq=>by cases fN.mp q;exact keep hkey
 ·rw[eA];refine Ee.mpr ⟨hn,by simp,λx hx y hy q=>not_mem_keys_of_get hno ?_⟩;have ey:y=k:=by simpa using hy
  rw[<-ey,<-q];exact hx
theorem zr{d a:Addr}{xs:List (K×Addr×Value)}{k:K}{v:Value}{Q:Vs}(hu:knd.room A)(hkey:knd.is s.heap k a)(hm:s.heap.DictOfH knd d xs)(hsz:xs.length<=sizeLine)
  (there:∀u,(atKey xs k).map (·.2)=some u->Q u { s with toks:=s.toks+knd.draws k })
  (new:(atKey xs k).map (·.2)=none->∀h',h'.DictOfH knd d (storedH xs k a v)->Heap.SameBut d s.heap h'->Q v { s with heap:=h',toks:=s.toks+knd.draws k }):
  wpAny (model prog w) A (dictSetDefault d (.ref a) v) Q E s:=by
 obtain⟨o,es,ep,ho,hc,hd,he,his,hn⟩:=hm;have hes:es.size<=sizeLine:=by rw[size_of_entries he];exact hsz
 have none_of:∀hno:(∀(j:Nat) (p:Addr×Value),xs[j]?≠some (k,p)),(atKey xs k).map (·.2)=none:=λhno=>by rw[atKey_none_of_get hno];rfl
 exact AS (aw (knd.pyHash hu hkey (aw (wpAny_dictFind_heap (s:={ s with toks:=s.toks+knd.draws k }) hu hkey ho hd he his hn
  (λhno=>aw (RG (aw (wpAny_updateDictKeys (hz:=hes) (s:={ s with toks:=s.toks+knd.draws k }) ho hd (bc (new (none_of hno) _ (grown ho hd hc he his hn hkey hno) (Heap.SameBut.update ..)))))))
  λj p hj=>aw (wpAny_dictEntries (s:={ s with toks:=s.toks+knd.draws k }) ho hd (by
   rw[entry_at he j,hj];exact aw (RG (bc (there p.2 (by rw[atKey_of_get hn hj];rfl))))))))))
theorem Lc(knd:HeapKind prog w K){d:Addr}(a:Addr)(hd:(d == sysModules)=false)(x:Value):
  MeetsIn prog w (Builtin.«dict.setdefault» ⟨[.ref d,.ref a,x],[]⟩) λA R s=>knd.room A.in1/\∃k xs,knd.is s.heap k a/\s.heap.DictOfH knd d xs/\xs.length<=sizeLine/\
   (∀v,(atKey xs k).map (·.2)=some v->R (.ok (.ret v)) { s with toks:=s.toks+knd.draws k })/\
   ((atKey xs k).map (·.2)=none->∀h',h'.DictOfH knd d (storedH xs k a x)->Heap.SameBut d s.heap h'->R (.ok (.ret x)) { s with heap:=h',toks:=s.toks+knd.draws k }):=by
 refine .of_wp ?_;rintro A R s ⟨hu,k,xs,hkey,hm,hz,there,new⟩;have main:=zr (v:=x) (E:=λe s'=>R (.error e) s') (Q:=λv s'=>R (.ok (.ret v)) s') hu hkey hm hz there new;refine aw (aw (wpAny_notOrdered_dict hm.typeIs (bc ?_)));simp only[hd,Bool.false_eq_true,if_false];exact aw (oN main (λv s' q=>bc ⟨v,rfl,q⟩) λ_ _ q=>q)
end
section
variable{X:Cx}{pins:Lo}{σ:St}{H:Hp}{s:Shared}{a:Addr}{y d:V}{u r:Value}{o:Option V}{A:Around}{E:Vs}
theorem Jz{H':Hp}{Q:Vs}(hu:A.units+1<cLine)(I:Inv X pins σ H s)(g:cz H a y o)(p:gi H a y d H')(ry:RelV y u)(rd:RelV d r)
  (h1:∀v w' s',o=some v->Inv X pins σ H s'->RelV v w'->Q w' s') (h2:∀w' s',o=none->Inv X pins σ H' s'->RelV d w'->Q w' s'):
  wpAny (model X.prog X.w) A (call (.builtin "dict.setdefault") [.ref a,u,r]) Q E s:=by
 rcases p with ⟨kvs,k,e,ey,l,eH⟩|⟨kvs,k,b,e,ey,eb,l,eH⟩
 ·subst ey eH;obtain⟨z,hd,vs,rel,dd⟩:=qh I.aN e;have go:o=aO kvs k:=by
   rcases g with ⟨kvs',k',e',ey',l'⟩|⟨kvs',k',b,e',ey',eb',l'⟩
   ·have ek:k'=k:=by cases k<;>cases k'<;>simp_all [kV]
    rcases e' with e'|⟨ob,e'⟩
    ·rw[e]at e';cases e';rw[l',ek]
    ·rw[e]at e';cases e'
   ·cases k<;>cases ey'
  have hz:vs.length<=sizeLine:=by rw[<-rel.length];exact z
  have hl:(putK kvs k d).length<=sizeLine:=by have:=dv kvs k d;omega
  refine call_meetsIn PySem.F.slot_dict_setdefault dd.typeIs PySem.F.entry_dict_setdefault (PySem.F.args_dict_setdefault_3 _ _ _) (kt_meets_setdefault (aZ X.prog X.w) a (jF ry) hd r) ⟨vs,dd,hz,λv hv=>?_,λhn h' dd' hs=>?_⟩
  ·have q:=rel.val k;rw[hv]at q;cases ho:aO kvs k with
   |none=>rw[ho]at q;exact q.elim
   |some v'=>rw[ho]at q;exact h1 v' v _ (by rw[go,ho]) (I.tok _) q
  ·have q:=rel.val k;rw[hn]at q;have ho:aO kvs k=none:=by
    cases ho:aO kvs k with
    |none=>rfl
    |some v'=>rw[ho]at q;exact q.elim
   have he:∃q,h'.get? a=some q:=let ⟨q,_,_,hq,_⟩:=dd';⟨q,hq⟩
   exact h2 r _ (by rw[go,ho]) (i6 I (by rw[e];exact True.intro) hs he (Bf hl hd (rel.put k rd) dd')) rd
 ·subst ey eH;cases (show u=Value.ref b from ry);obtain⟨z,hd,xs,rel,dd⟩:=RX I.aN e;have go:o=aO kvs k:=by
   rcases g with ⟨kvs',k',e',ey',l'⟩|⟨kvs',k',b',e',ey',eb',l'⟩
   ·cases k'<;>cases ey'
   ·cases ey';have ek:k'=k:=by
     rw[eb]at eb';injection eb' with eb';injection eb' with eb';exact(List.map_inj_right (f:=kV) (by intro x y q;cases x<;>cases y<;>simp_all [kV])).mp eb'.symm
    rcases e' with e'|⟨ob,e'⟩
    ·rw[e]at e';cases e';rw[l',ek]
    ·rw[e]at e';cases e'
  have hz:xs.length<=sizeLine:=by rw[<-Paired.length rel];exact z
  have hl:(putK kvs k d).length<=sizeLine:=by have:=dv kvs k d;omega
  refine call_meetsIn PySem.F.slot_dict_setdefault dd.typeIs PySem.F.entry_dict_setdefault (PySem.F.args_dict_setdefault_3 _ _ _) (Lc (tupleKind (aZ X.prog X.w)) b hd r) ⟨tupleKind_room_in1 hu,k,xs,fO I.aN eb,dd,hz,λv hv=>?_,λhn h' dd' hs=>?_⟩
  ·have q:=rel.val k;rw[hv]at q;cases ho:aO kvs k with
   |none=>rw[ho]at q;exact q.elim
   |some v'=>rw[ho]at q;exact h1 v' v _ (by rw[go,ho]) (I.tok _) q
  ·have q:=rel.val k;rw[hn]at q;have ho:aO kvs k=none:=by
    cases ho:aO kvs k with
    |none=>rfl
    |some v'=>rw[ho]at q;exact q.elim
   obtain⟨qo,es,ep,hq,g2,g3,g4,_,g5⟩:=dd';refine h2 r _ (by rw[go,ho]) (i6 I (by rw[e];exact True.intro) hs ⟨qo,hq⟩ ⟨hl,hd,_,(rel.put k eb rd).keeps λc ys ec=>?_,qo,es,ep,hq,g2,g3,g4,g5⟩) rd;rw[ae (aR ec e (λz=>nomatch z))];exact ec
end
def ab2(td ty tx:TE):TE:=λσ H Q=>td σ H λx H1=>∃a,x=.ref a/\IsD H1 a/\ty σ H1 λy H2=>tx σ H2 λz H3=>∃o H4,cz H3 a y o/\gi H3 a y z H4/\(∀v,o=some v->Q v H3)/\(o=none->Q z H4)
section
variable{X:Cx}{o e f:Expr}{apos cpos:Pos}{td ty tx:TE}
theorem Kq(hu:X.A.units+1<cLine)(ho:PE X o td)(he:PE X e ty)(hf:PE X f tx)(m:M2 X o "setdefault" apos e f cpos):PE X (.Call (.Attribute o "setdefault" apos) [e,f] [] cpos) (ab2 td ty tx):=by
 intro pins s σ H Q I h;refine wpAny_Call_method m.base m.gq m.line PySem.F.plainAttrs_dict PySem.F.slot_dict_setdefault PySem.F.type_dict_setdefault (bj (ho pins s σ H _ I h) λu s1 ⟨x,H1,I1,rx,a,ex,d,q1⟩=>?_);subst ex;obtain rfl:u=Value.ref a:=rx;obtain⟨t1,t2,_⟩:=Ba I1 d;refine⟨t1,t2,?_⟩;rw[m.trees];refine Calls.callWith_builtin rfl (Calls.evalArgs_plain (Calls.spliced_cons (bj (he pins s1 σ H1 _ I1 q1) λiv s2 ⟨y,H2,I2,ry,q2⟩=>
  Calls.spliced_cons (bj (hf pins s2 σ H2 _ I2 q2) λfv s3 ⟨z,H3,I3,rz,ov,H4,g,p,q3,q4⟩=>Calls.spliced_nil ?_))))
 exact Jz hu I3 g p ry rz (λv w' s4 e4 I4 rw'=>⟨v,H3,I4,rw',q3 v e4⟩) (λw' s4 e4 I4 rw'=>⟨z,H4,I4,rw',q4 e4⟩)
end
section
variable{prog:Program}{w:World}{A:Around}{E:Vs}{s:Shared}{kd:SortKind}{r:Keyed->Nat}{base:Array Keyed}
noncomputable def rk(r:Keyed->Nat)(xs:Array Keyed)(i:Nat):Nat:=(xs[i]?.map r).getD 0
def dY(r:Keyed->Nat)(xs:Array Keyed)(n:Nat):Prop:=∀i j,i<=j->j<n->rk r xs i<=rk r xs j
def iR(r:Keyed->Nat)(xs:Array Keyed)(n:Nat):Prop:=∀i j,i<=j->j<n->rk r xs j<=rk r xs i
def Flat(r:Keyed->Nat)(xs:Array Keyed)(n q:Nat):Prop:=q+1<=n/\∀i,n<=i+(q+1)->i<n->rk r xs i=rk r xs (n - 1)
theorem dY.one(xs:Array Keyed):dY r xs 1:=λi j a b=>by rw[show i=j by omega];exact bA _
theorem iR.one(xs:Array Keyed):iR r xs 1:=λi j a b=>by rw[show i=j by omega];exact bA _
theorem dY.more(h:dY r xs n)(h1:1<=n)(hn:rk r xs (n - 1)<=rk r xs n):dY r xs (n+1):=λi j a b=>by
 by_cases z:j<n
 ·exact h i j a z
 ·rw[show j=n by omega];by_cases y:i=n
  ·rw[y];exact bA _
  ·exact zc (h i (n - 1) (by omega) (by omega)) hn
theorem iR.more(h:iR r xs n)(h1:1<=n)(hn:rk r xs n<=rk r xs (n - 1)):iR r xs (n+1):=λi j a b=>by
 by_cases z:j<n
 ·exact h i j a z
 ·rw[show j=n by omega];by_cases y:i=n
  ·rw[y];exact bA _
  ·exact zc hn (h i (n - 1) (by omega) (by omega))
theorem lD(hj:j<=xs.size)(k:Nat):rk r (mirror xs i j ((j - i)/2)) k=if i<=k/\k<j then rk r xs (i+j - 1 - k) else rk r xs k:=by
 unfold rk;rw[getElem?_mirror_all hj k];by_cases z:i<=k/\k<j
 ·rw[if_pos z,if_pos z]
 ·rw[if_neg z,if_neg z]
theorem Eb(h:Flat r xs n q)(hn:n<=xs.size)(k:Nat):rk r (mirror xs (n - (q+1)) n ((n - (n - (q+1)))/2)) k=rk r xs k:=by
 rw[lD hn];by_cases z:n - (q+1)<=k/\k<n
 ·rw[if_pos z,h.2 _ (by omega) (by omega),h.2 k (by omega) (by omega)]
 ·rw[if_neg z]
theorem iR.m9(h:iR r xs n)(hn:n<=xs.size):dY r (mirror xs 0 n ((n - 0)/2)) n:=λi j a b=>by
 rw[lD hn,lD hn,if_pos (by omega),if_pos (by omega)];exact h _ _ (by omega) (by omega)
structure lC(kd:SortKind)(base:Array Keyed)(st:SortSt):Prop where
 pm:(arrOf st).Perm base
 kd:kindOf st=kd
 ok:failedOf st=none
 pn:pendingOf st=#[]
theorem lC.len{st:SortSt}(h:lC kd base st):(arrOf st).size=base.size:=h.pm.size_eq
theorem lC.put{st:SortSt}(h:lC kd base st){xs:Array Keyed}(p:xs.Perm (arrOf st)):lC kd base (setArr st xs):=⟨p.trans h.pm,h.kd,h.ok,h.pn⟩
def xw(prog:Program)(w:World)(A:Around)(E:Vs)(s:Shared)(kd:SortKind)(r:Keyed->Nat)(base:Array Keyed):Prop:=
 ∀x∈base.toList,∀y∈base.toList,∀Q:Bool->Shared->Prop,Q (decide (r x<r y)) s->wpAny (model prog w) A (keyLt' kd x.1 y.1) Q (λ_ _=>False) s
theorem asked{st:SortSt}{i j:Nat}{Q:Option Bool->SortSt->Prop}(ask:xw prog w A E s kd r base)(S:lC kd base st)(hi:i<base.size)(hj:j<base.size)
  (q:Q (some (decide (rk r (arrOf st) i<rk r (arrOf st) j))) st):wpS (model prog w) A E s (ltAt' i j) Q st:=by
 have li:i<(arrOf st).size:=by rw[S.len];exact hi
 have lj:j<(arrOf st).size:=by rw[S.len];exact hj
 have ei:(arrOf st)[i]?=some (arrOf st)[i]:=getElem?_pos _ i li;have ej:(arrOf st)[j]?=some (arrOf st)[j]:=getElem?_pos _ j lj;have mem:∀{k:Nat}(h:k<(arrOf st).size),(arrOf st)[k]∈base.toList:=λ{k} h=>(Array.perm_iff_toList_perm.mp S.pm).mem_iff.mp (Array.getElem_mem_toList h);unfold rk at q;rw[ei,ej]at q;rw[ltAt'_eq];refine wpS_bind (wpS_get ?_);dsimp only;rw[elem'_eq,elem'_eq,ei,ej];refine wpS_bind (wpS_pure (wpS_bind (wpS_pure ?_)));rw[lt'_eq];refine wpS_bind (wpS_get (wpS_bind (wpS_lift (RR ?_))));rw[S.kd];exact oN (ask _ (mem li) _ (mem lj) (λb s'=>b=decide (r (arrOf st)[i]<r (arrOf st)[j])/\s'=s) ⟨rfl,rfl⟩) (λb s' ⟨e1,e2⟩=>⟨e2,by subst e1;exact wpS_pure q⟩) λ_ _ z=>z.elim
theorem Ai{st:SortSt}{a n:Nat}{Q:AscSt->SortSt->Prop}(ask:xw prog w A E s kd r base)(S:lC kd base st)(ha:1<=a)(han:a<=n)(hn:n<=base.size)(up:dY r (arrOf st) a)
  (k:∀m,a<=m->m<=n->dY r (arrOf st) m->(m=n\/rk r (arrOf st) m<rk r (arrOf st) (m - 1))->Q (none,m) st):wpS (model prog w) A E s (ascLoop a n) Q st:=by
 refine wpS_forRange (I:=λm c st'=>st'=st/\c=(none,m)/\dY r (arrOf st) m) (λm c st' am mn ⟨e1,e2,up'⟩=>?_) (λc st' ⟨e1,e2,up'⟩=>?_) ⟨rfl,rfl,up⟩
 ·subst e1 e2;refine wpS_bind (asked ask S (by omega) (by show m - 1<_;omega) ?_);by_cases lt:rk r (arrOf st') m<rk r (arrOf st') (m - 1)
  ·simp only[decide_eq_true lt,if_true];exact wpS_pure (k m am (by omega) up' (.inr lt))
  ·simp only[decide_eq_false lt,Bool.false_eq_true,if_false];exact wpS_pure ⟨rfl,rfl,up'.more (by omega) (by omega)⟩
 ·subst e1 e2;have e:max a n=n:=by omega
  rw[e]at up' ⊢;exact k n han (bA _) up' (.inl rfl)
theorem pW{st:SortSt}{m n:Nat}{Q:Option Nat->SortSt->Prop}(ask:xw prog w A E s kd r base)(S:lC kd base st)(h1:1<=m)(hm:m<=n)(hn:n<=base.size)(dn:iR r (arrOf st) m)
  (k:∀j st',lC kd base st'->1<=j->j<=n->dY r (arrOf st') j->Q (some j) st'):wpS (model prog w) A E s (tail3 m n) Q st:=by
 have up:=dn.m9 (by rw[S.len];omega);have S':=S.put (mirror_perm (arrOf st) 0 m ((m - 0)/2));exact wpS_bind (wpS_reverse (wpS_bind (Ai ask S' h1 hm hn up λj mj jn up' _=>wpS_pure (k j _ S' (by omega) jn up'))))
theorem GZ{st:SortSt}{a n:Nat}{Q:DescSt->SortSt->Prop}(ask:xw prog w A E s kd r base)(S:lC kd base st)(ha:1<=a)(han:a<=n)(hn:n<=base.size)(dn:iR r (arrOf st) a)
  (k:∀m q st',lC kd base st'->a<=m->m<=n->iR r (arrOf st') m->Flat r (arrOf st') m q->Q (none,m,q) st'):wpS (model prog w) A E s (descLoop a n) Q st:=by
 refine wpS_forRange (I:=λm c st'=>lC kd base st'/\∃q,c=(none,m,q)/\iR r (arrOf st') m/\Flat r (arrOf st') m q) (λm c st' am mn ⟨S',q,e,dn',fl⟩=>?_) (λc st' ⟨S',q,e,dn',fl⟩=>?_)
  ⟨S,0,rfl,dn,ha,λi p1 p2=>by rw[show i=a - 1 by omega]⟩
 ·subst e;have sz:m<(arrOf st').size:=by rw[S'.len];omega
  have one:∀xs:Array Keyed,Flat r xs (m+1) 0:=λxs=>⟨by omega,λi a b=>by rw[show i=m by omega];rfl⟩;refine wpS_bind (asked ask S' (by show m<_;omega) (by show m - 1<_;omega) ?_);by_cases lt:rk r (arrOf st') m<rk r (arrOf st') (m - 1)
  ·simp only[decide_eq_true lt,if_true];by_cases q0:q>0
   ·rw[if_pos q0];have same:=Eb fl (Q6 sz);refine wpS_bind (wpS_reverse (wpS_pure ⟨S'.put (mirror_perm ..),0,rfl,iR.more (λi j a b=>?_) (by omega) ?_,one _⟩))
    ·show rk r (mirror _ _ _ _) j<=rk r (mirror _ _ _ _) i;rw[same,same];exact dn' i j a b
    ·show rk r (mirror _ _ _ _) m<=rk r (mirror _ _ _ _) (m - 1);rw[same,same];exact Q6 lt
   ·rw[if_neg q0];exact wpS_pure ⟨S',0,rfl,dn'.more (by omega) (Q6 lt),one _⟩
  ·simp only[decide_eq_false lt,Bool.false_eq_true,if_false];refine wpS_bind (asked ask S' (by show m - 1<_;omega) (by show m<_;omega) ?_);by_cases gt:rk r (arrOf st') (m - 1)<rk r (arrOf st') m
   ·simp only[decide_eq_true gt,if_true];exact wpS_pure (k m q st' S' am (by omega) dn' fl)
   ·simp only[decide_eq_false gt,Bool.false_eq_true,if_false];refine wpS_pure ⟨S',q+1,rfl,dn'.more (by omega) (by omega),by have:=fl.1;omega,λi a b=>?_⟩;show _=rk r (arrOf st') m;by_cases z:i=m
    ·rw[z]
    ·have:=fl.2 i (by omega) (by omega);omega
 ·subst e;have e:max a n=n:=by omega
  rw[e]at dn' fl ⊢;exact k n q st' S' han (bA _) dn' fl
theorem qy{st:SortSt}{m n:Nat}{Q:Option Nat->SortSt->Prop}(ask:xw prog w A E s kd r base)(S:lC kd base st)(hm:m+1<=n)(hn:n<=base.size)(dn:iR r (arrOf st) (m+1))
  (k:∀j st',lC kd base st'->1<=j->j<=n->dY r (arrOf st') j->Q (some j) st'):wpS (model prog w) A E s (descPart m n) Q st:=by
 refine wpS_bind (wpS_lift (RG ⟨rfl,wpS_bind (GZ ask S (by omega) hm hn dn λj q st' S' mj jn dn' fl=>?_)⟩));by_cases q0:q>0
 ·have same:=Eb fl (by rw[S'.len];omega);simp only[q0,if_true];exact wpS_bind (wpS_reverse (pW ask (S'.put (mirror_perm ..)) (by omega) jn hn (λi l a b=>by show rk r (mirror _ _ _ _) l<=rk r (mirror _ _ _ _) i;rw[same,same];exact dn' i l a b) k))
 ·simp only[q0,if_false];exact pW ask S' (by omega) jn hn dn' k
theorem GC{st:SortSt}{n:Nat}{Q:Option Nat->SortSt->Prop}(ask:xw prog w A E s kd r base)(S:lC kd base st)(h1:1<=n)(hn:n<=base.size)
  (k:∀j st',lC kd base st'->1<=j->j<=n->dY r (arrOf st') j->Q (some j) st'):wpS (model prog w) A E s (countRun' 0 n) Q st:=by
 rw[countRun0_eq];refine wpS_bind (Ai ask S (bA 1) h1 hn (dY.one _) λm m1 mn up why=>?_);by_cases z:m=n
 ·simp only[beq_iff_eq,z,if_true];exact wpS_pure (k n st S h1 (bA _) (z▸up))
 ·have lt:=why.resolve_left z;simp only[beq_iff_eq,z,if_false];by_cases m2:m>1
  ·rw[if_pos m2];refine wpS_bind (asked ask S (by omega) (by show m - 1<_;omega) ?_);by_cases rose:rk r (arrOf st) 0<rk r (arrOf st) (m - 1)
   ·simp only[decide_eq_true rose,if_true];exact wpS_pure (k m st S m1 mn up)
   ·simp only[decide_eq_false rose,Bool.false_eq_true,if_false];have eq:∀i,i<m->rk r (arrOf st) i=rk r (arrOf st) (m - 1):=λi hi=>by
     have a:=up 0 i (by omega) hi;have b:=up i (m - 1) (by omega) (by omega);omega
    have sz:m<=(arrOf st).size:=by rw[S.len];omega
    have same:∀i,rk r (mirror (arrOf st) 0 m ((m - 0)/2)) i=rk r (arrOf st) i:=λi=>by
     rw[lD sz];by_cases y:0<=i/\i<m
     ·rw[if_pos y,eq _ (by omega),eq i y.2]
     ·rw[if_neg y]
    refine wpS_bind (wpS_reverse (qy ask (S.put (mirror_perm ..)) (by omega) hn (λi j a b=>?_) k));show rk r (mirror (arrOf st) 0 m ((m - 0)/2)) j<=rk r (mirror (arrOf st) 0 m ((m - 0)/2)) i;rw[same,same];by_cases jm:j=m
    ·by_cases im:i=m
     ·rw[jm,im];exact bA _
     ·have:=eq i (by omega);rw[jm];omega
    ·have a1:=eq i (by omega);have a2:=eq j (by omega);omega
  ·rw[if_neg m2];have e:m=1:=by omega
   subst e;exact qy ask S (by omega) hn ((iR.one _).more (bA _) (Q6 lt)) k
theorem zW(hk:k<xs.size)(hl:l<=k)(i:Nat):rk r (bubble xs k (k - l)) i=if i=l then rk r xs k else if l<i/\i<=k then rk r xs (i - 1) else rk r xs i:=by
 have e:=getElem?_bubble hk (k - l) (by omega) i;rw[show k - (k - l)=l by omega]at e;unfold rk;rw[e];by_cases a:i=l
 ·rw[if_pos a,if_pos a]
 ·rw[if_neg a,if_neg a];by_cases b:l<i/\i<=k
  ·rw[if_pos b,if_pos b]
  ·rw[if_neg b,if_neg b]
theorem V1{st:SortSt}{n ok:Nat}{Q:Bool->SortSt->Prop}(ask:xw prog w A E s kd r base)(S:lC kd base st)(h1:1<=ok)(aN:ok<=n)(hn:n<=base.size)(up:dY r (arrOf st) ok)
  (q:∀st',lC kd base st'->dY r (arrOf st') n->Q true st'):wpS (model prog w) A E s (binarySort' 0 n ok) Q st:=by
 rw[binarySort'_eq];simp only[Nat.zero_add];have e1:max ok 1=ok:=by omega
 rw[e1];refine wpS_bind (wpS_mono (wpS_forRange (I:=λk c st'=>c=(none,())/\lC kd base st'/\dY r (arrOf st') k) (Q:=λc st'=>c=(none,())/\lC kd base st'/\dY r (arrOf st') n) (λk c st' ak kn ⟨e,S',up'⟩=>?step) (λc st' ⟨e,S',up'⟩=>?fin) ⟨rfl,S,up⟩) ?post)
 case step=>
  subst e;have hk:k<(arrOf st').size:=by rw[S'.len];omega
  refine wpS_bind (wpS_mono (wpS_forRange (I:=λx c st2=>st2=st'/\∃l u,c=(none,l,u)/\l<=u/\u<=k/\u - l+x<=k/\(∀i,i<l->rk r (arrOf st') i<=rk r (arrOf st') k)/\∀i,u<=i->i<k->rk r (arrOf st') k<rk r (arrOf st') i)
   (Q:=λc st2=>st2=st'/\∃l u,c=(none,l,u)/\l<=k/\(∀i,i<l->rk r (arrOf st') i<=rk r (arrOf st') k)/\∀i,l<=i->i<k->rk r (arrOf st') k<rk r (arrOf st') i)
   (λx c st2 _ xk ⟨e,l,u,ec,lu,uk,small,lo,hi⟩=>?look) (λc st2 ⟨e,l,u,ec,lu,uk,small,lo,hi⟩=>⟨e,l,u,ec,by omega,lo,λi a b=>hi i (by omega) b⟩) ⟨rfl,0,k,rfl,by omega,by omega,by omega,λi a=>by omega,λi a b=>by omega⟩) ?move)
  case look=>
   subst e ec;dsimp only;by_cases z:l≥u
   ·rw[if_pos z];exact wpS_pure ⟨rfl,l,u,rfl,by omega,lo,λi a b=>hi i (by omega) b⟩
   ·rw[if_neg z];refine wpS_bind (asked ask S' (by omega) (by omega) ?_);by_cases lt:rk r (arrOf st2) k<rk r (arrOf st2) ((l+u)/2)
    ·simp only[decide_eq_true lt,if_true];exact wpS_pure ⟨rfl,l,(l+u)/2,rfl,by omega,by omega,by omega,lo,λi a b=>g8 lt (up' _ _ a b)⟩
    ·simp only[decide_eq_false lt,Bool.false_eq_true,if_false];exact wpS_pure ⟨rfl,(l+u)/2+1,u,rfl,by omega,by omega,by omega,λi a=>zc (up' i ((l+u)/2) (by omega) (by omega)) (by omega),hi⟩
  case move=>
   rintro c st2 ⟨rfl,l,u,rfl,lk,lo,hi⟩;dsimp only;rw[moveDown'_eq];refine wpS_bind (wpS_modify (wpS_pure ⟨rfl,S'.put (bubble_perm ..),λi j a b=>?_⟩));show rk r (bubble (arrOf st2) k (k - l)) i<=rk r (bubble (arrOf st2) k (k - l)) j;rw[zW hk lk,zW hk lk];have U:=λx y (p:x<=y) (q:y<k)=>up' x y p q;by_cases c1:i=l
   ·rw[if_pos c1];by_cases c2:j=l
    ·rw[if_pos c2];exact bA _
    ·rw[if_neg c2,if_pos (by omega)];exact Q6 (hi _ (by omega) (by omega))
   ·rw[if_neg c1];by_cases c3:l<i/\i<=k
    ·rw[if_pos c3,if_neg (by omega),if_pos (by omega)];exact U _ _ (by omega) (by omega)
    ·rw[if_neg c3];by_cases c2:j=l
     ·rw[if_pos c2];exact lo i (by omega)
     ·rw[if_neg c2];by_cases c4:l<j/\j<=k
      ·rw[if_pos c4];exact U _ _ (by omega) (by omega)
      ·rw[if_neg c4];exact U _ _ (by omega) (by omega)
 case fin=>
  have e2:max ok n=n:=by omega
  rw[e2]at up';exact⟨e,S',up'⟩
 case post=>
  rintro c st' ⟨rfl,S',up'⟩;exact wpS_pure (q st' S' up')
theorem IE{st:SortSt}{Q:Unit->SortSt->Prop}(ask:xw prog w A E s kd r base)(S:lC kd base st)(h2:2<=base.size)(h64:base.size<64)
  (k:∀st',(arrOf st').Perm base->failedOf st'=none->dY r (arrOf st') base.size->Q () st'):wpS (model prog w) A E s sortRuns' Q st:=by
 have run:minRun' base.size base.size 0=base.size:=by
  generalize base.size=n at h2 h64;cases n with
  |zero=>omega
  |succ f=>rw[minRun'_succ,if_pos h64]
 rw[sortRuns'_eq];refine wpS_bind (wpS_get ?_);simp only[S.len,run];refine wpS_bind (wpS_mono (wpS_forRange (I:=λx c st'=>if x=0 then c=(none,0)/\lC kd base st' else c=(none,base.size)/\(arrOf st').Perm base/\failedOf st'=none/\(pendingOf st').size=1/\dY r (arrOf st') base.size)
  (Q:=λc st'=>c=(none,base.size)/\(arrOf st').Perm base/\failedOf st'=none/\(pendingOf st').size=1/\dY r (arrOf st') base.size) (λx c st' _ xn h=>?turn) (λc st' h=>?end_) ?start) ?rest)
 case start=>rw[if_pos rfl];exact⟨rfl,S⟩
 case end_=>rwa [if_neg (by omega)]at h
 case turn=>
  by_cases x0:x=0
  ·rw[if_pos x0]at h;obtain⟨rfl,S'⟩:=h;have pend:∀{st2:SortSt},lC kd base st2->dY r (arrOf st2) base.size->(arrOf (setPending st2 ((pendingOf st2).push (0,base.size,0)))).Perm base/\failedOf (setPending st2 ((pendingOf st2).push (0,base.size,0)))=none/\(pendingOf (setPending st2 ((pendingOf st2).push (0,base.size,0)))).size=1/\dY r (arrOf (setPending st2 ((pendingOf st2).push (0,base.size,0)))) base.size:=λ{st2} S2 up=>by
    refine⟨S2.pm,S2.ok,?_,up⟩;show((pendingOf st2).push (0,base.size,0)).size=1;rw[S2.pn];rfl
   dsimp only;rw[if_neg (by omega)];simp only[Nat.sub_zero,Nat.min_self,Nat.zero_add];refine wpS_bind (GC ask S' (by omega) (bA _) λm st2 S2 m1 mn up=>?_);have last:∀{st3:SortSt},lC kd base st3->(pendingOf st3).back?=none:=λ{st3} S3=>by rw[S3.pn];rfl
   dsimp only;by_cases lt:m<base.size
   ·rw[if_pos lt];refine wpS_bind (wpS_lift (RG ⟨rfl,wpS_bind (V1 ask S2 m1 mn (bA _) up λst3 S3 up3=>?_)⟩));simp only[Bool.not_true,Bool.false_eq_true,if_false];refine wpS_bind (wpS_get ?_);rw[last S3];refine wpS_bind (wpS_modify (wpS_pure ?_));dsimp only;rw[if_neg (by omega)];exact⟨rfl,pend S3 up3⟩
   ·rw[if_neg lt];have e:m=base.size:=by omega
    subst e;refine wpS_bind (wpS_get ?_);rw[last S2];refine wpS_bind (wpS_modify (wpS_pure ?_));dsimp only;rw[if_neg (by omega)];exact⟨rfl,pend S2 up⟩
  ·rw[if_neg x0]at h;obtain⟨rfl,h⟩:=h;dsimp only;rw[if_pos (bA _)];exact wpS_pure ⟨rfl,h⟩
 case rest=>
  rintro c st' ⟨rfl,p1,p2,p3,p4⟩;refine wpS_bind (wpS_mono (wpS_forRange (I:=λ_ c st2=>c=(none,())/\st2=st') (Q:=λc st2=>c=(none,())/\st2=st') (λx c st2 _ _ ⟨e1,e2⟩=>?gM) (λ_ _ h=>h) ⟨rfl,rfl⟩) ?done)
  case gM=>
   subst e1 e2;refine wpS_bind (wpS_get ?_);rw[if_pos (Nat.le_of_eq p3)];exact wpS_pure ⟨rfl,rfl⟩
  case done=>
   rintro c st2 ⟨rfl,rfl⟩;exact wpS_pure (k st2 p1 p2 p4)
end
noncomputable abbrev cb:=Str×Int
noncomputable def o7(a b:cb):Bool:=if a.1=b.1 then decide (a.2<b.2) else decide (a.1.cps.toList<b.1.cps.toList)
def zV(a b:cb):Prop:=o7 b a=false
theorem QC{a b:Str}(h:a.cps.toList=b.cps.toList):a=b:=by
 cases a;cases b;congr 1;exact Array.toList_inj.mp h
theorem FH(a:cb):o7 a a=false:=by unfold o7;rw[if_pos rfl];simp
theorem eX(a b:cb):o7 a b=true↔a.1.cps.toList<b.1.cps.toList\/(a.1=b.1/\a.2<b.2):=by
 unfold o7;by_cases h:a.1=b.1
 ·rw[if_pos h,decide_eq_true_eq];exact⟨λq=>.inr ⟨h,q⟩,λq=>q.elim (λz=>absurd z (by rw[h];exact List.lt_irrefl _)) (·.2)⟩
 ·rw[if_neg h,decide_eq_true_eq];exact⟨.inl,λq=>q.elim id λz=>absurd z.1 h⟩
theorem jt(h1:o7 a b=true)(h2:o7 b c=true):o7 a c=true:=by
 rw[eX]at *;rcases h1 with h1|⟨e1,h1⟩<;>rcases h2 with h2|⟨e2,h2⟩
 ·exact .inl (List.lt_trans h1 h2)
 ·exact .inl (by rw[<-e2];exact h1)
 ·exact .inl (by rw[e1];exact h2)
 ·exact .inr ⟨e1.trans e2,by omega⟩
theorem qu(h1:o7 a b=false)(h2:o7 b a=false):a=b:=by
 have n1:¬(a.1.cps.toList<b.1.cps.toList\/(a.1=b.1/\a.2<b.2)):=λq=>by rw[(eX a b).mpr q]at h1;cases h1
 have n2:¬(b.1.cps.toList<a.1.cps.toList\/(b.1=a.1/\b.2<a.2)):=λq=>by rw[(eX b a).mpr q]at h2;cases h2
 have e:a.1=b.1:=QC (List.le_antisymm (List.not_lt.mp λq=>n2 (.inl q)) (List.not_lt.mp λq=>n1 (.inl q)));have e2:a.2=b.2:=by
  have m1:¬a.2<b.2:=λq=>n1 (.inr ⟨e,q⟩);have m2:¬b.2<a.2:=λq=>n2 (.inr ⟨e.symm,q⟩);omega
 exact Prod.ext e e2
theorem GI(h1:zV a b)(h2:zV b c):zV a c:=by
 unfold zV at *;cases h:o7 c a with
 |false=>rfl
 |true=>
  exfalso
  cases hb:o7 b a with
  |true=>rw[hb]at h1;cases h1
  |false=>
   cases ha:o7 a b with
   |true=>rw[jt h ha]at h2;cases h2
   |false=>rw[qu ha hb]at h;rw[h]at h2;cases h2
noncomputable def pz(ds:List cb)(d:cb):Nat:=ds.countP λe=>o7 e d
theorem pT{α:Type}{p q:α->Bool}:∀{l:List α},(∀x∈l,p x=true->q x=true)->(∃x∈l,q x=true/\p x=false)->l.countP p<l.countP q
 |[],_,⟨x,hx,_⟩=>nomatch hx
 |y::l,h,⟨x,hx,h1,h2⟩=>by
  have le:l.countP p<=l.countP q:=List.countP_mono_left λz hz hp=>h z (.tail _ hz) hp;rw[List.countP_cons,List.countP_cons];rcases i_.mp hx with rfl|hx
  ·rw[if_pos h1,if_neg (by rw[h2];simp)];omega
  ·have:=pT (λz hz=>h z (.tail _ hz)) ⟨x,hx,h1,h2⟩;by_cases z:p y=true
   ·rw[if_pos z,if_pos (h y (.head _) z)];omega
   ·rw[if_neg z];split<;>omega
theorem zL(ha:a∈ds):decide (pz ds a<pz ds b)=o7 a b:=by
 cases h:o7 a b with
 |true=>exact decide_eq_true (pT (λx _ q=>jt q h) ⟨a,ha,h,FH a⟩)
 |false=>
  refine decide_eq_false (Nat.not_lt.mpr (List.countP_mono_left λx _ q=>?_));have le:zV x a:=GI (a:=x) (b:=b) (c:=a) (by
   unfold zV;cases z:o7 b x with
   |false=>rfl
   |true=>have:=jt q z;rw[FH]at this;cases this) h
  cases z:o7 x a with
  |true=>rfl
  |false=>
   have e:x=a:=qu z le;rw[e]at q;rw[q]at h;cases h
section
variable{prog:Program}{w:World}{A:Around}{E:Vs}{s:Shared}
end
section
variable{prog:Program}{w:World}{A:Around}{E:Vs}{s:Shared}
noncomputable def adr:Value->Addr
 |.ref b=>b
 |_=>0
noncomputable def twice(bs:List Addr):List Keyed:=bs.map λb=>(Value.ref b,Value.ref b)
end
section
variable{X:Cx}
theorem pq:∀{as:List Addr},Vals (as.map V.ref) (as.map Value.ref)
 |[]=>.nil
 |_::_=>.cons rfl pq
end
section
variable{X:Cx}
end
section
variable{prog:Program}{w:World}{A:Around}{E:Vs}{s:Shared}
end
section
variable{X:Cx}{e:Expr}{te:TE}{p1 p2 pos1 pos2:Pos}
def acA(K:Wf)(te:TE):TE:=λσ H Q=>te σ H λx H1=>∃p ys,x=.ref p/\aI K H1 p ys/\ys.length<sizeLine/\∀l,H1 l=none->Q (.ref l) (upd H1 l (.lst ys.reverse))
end
section
variable{prog:Program}{w:World}{A:Around}{R:Result->Shared->Prop}{I S:Addr}{fp wr:List Addr}{n:Nat}{P:Nat->Value->Prop}{St:Nat->Heap->Prop}{d:Value}{f:Nat->Int}
end
section
variable{prog:Program}{w:World}{A:Around}{E:Vs}{s:Shared}
end
section
variable{X:Cx}{e:Expr}{te:TE}{p pos cp kp:Pos}{n:Int}{j:Nat}
end
section
variable{X:Cx}{a b c d:Expr}{ta tb tc td:TE}{pos:Pos}
end
section
open PySem.SeqAt
open PySem.AutoSeq1 (wpAny_loadPart')
open PySem.MeetsSeq PySem.MeetsSeq2 PySem.MeetsSeq3
end
def iO(P:Addr)(H H':Hp):Prop:=∀b o,b≠P->H b=some o->H' b=some o
noncomputable def GX(c:Addr)(q:Str):HO:=.ext λh=>h.CodeRec (.ref c) q
noncomputable def F5(f:Addr)(o:Obj):HO:=.ext λh=>h.get? f=some o
def eP(P:Addr)(pos:Pos)(q:Str)(H:Hp):Prop:=∃ps:Array Value,H P=some (.fJ ps)/\TriplesOk ps.toList/\(codeAmong pos ps.toList=none\/∃c,codeAmong pos ps.toList=some (.ref c)/\H c=some (GX c q))
theorem eP.more(h:eP P pos q H)(s:∀b o,H b=some o->H' b=some o):eP P pos q H':=by
 obtain⟨ps,h1,h2,h3⟩:=h;exact⟨ps,s _ _ h1,h2,h3.imp id λ⟨c,h4,h5⟩=>⟨c,h4,s _ _ h5⟩⟩
theorem QS(e:h.CodeRec (.ref c) q):a0 P w H h c (GX c q):=by
 refine⟨e,?_,?_⟩
 ·obtain⟨c',o,_,_,e1,e2,_⟩:=e;cases e1;exact⟨o,e2⟩
 ·rintro h1 h2 ⟨c',o,vs,t,e1,e2,e3⟩ k;cases e1;exact⟨c,o,vs,t,rfl,k o e2,e3⟩
theorem DY(e:h.get? f=some o):a0 P w H h f (F5 f o):=⟨e,⟨o,e⟩,λ_ _ e1 k=>k o e1⟩
def BMod(K:Wf)(mg:So):Prop:=∃(bm:Addr) (sl:Array (Option Value)),mg (Str.ofString "__builtins__")=some (.ref bm)/\bm≠builtinsNs/\bm≠mainGlobals/\K.lookup bm=some ⟨.type "module", some builtinsNs,.plain,sl⟩
section
variable{X:Cx}{pins:Lo}{σ:St}{H:Hp}{s:Shared}
theorem Inv.grow{P c f:Addr}{ps more:Array Value}{o1 o2:HO}{h':Heap}{t':Nat}(I:Inv X pins σ H s)(hP:H P=some (.fJ ps))(k:∀b o,b≠P->s.heap.get? b=some o->h'.get? b=some o)(hP':h'.get? P=some (tabObj (ps++more)))
  (hc:s.heap.objs.size<=c) (hf:s.heap.objs.size<=f) (hcf:c≠f) (ok1:∀H'',a0 X.prog X.w H'' h' c o1) (ok2:∀H'',a0 X.prog X.w H'' h' f o2):
  Inv X pins σ (upd (upd (upd H P (.fJ (ps++more))) c o1) f o2) { s with heap:=h',toks:=t' }:=by
 have c0:H c=none:=I.aN.fresh hc;have f0:H f=none:=I.aN.fresh hf;have cP:P≠c:=bf hP c0;have fP:P≠f:=bf hP f0;have get:∀b,b≠P->b≠c->b≠f->upd (upd (upd H P (.fJ (ps++more))) c o1) f o2 b=H b:=λb n1 n2 n3=>by rw[ae n3,ae n2,ae n1]
 have old:∀b o,s.heap.get? b=some o->b≠c/\b≠f:=λb o e=>⟨fE (g8 (cH e) hc),fE (g8 (cH e) hf)⟩;have AL:∀b o,H b=some o->b≠P->upd (upd (upd H P (.fJ (ps++more))) c o1) f o2 b=some o:=λb o e n=>by
  rw[get b n (bf e c0) (bf e f0)];exact e
 have atP:upd (upd (upd H P (.fJ (ps++more))) c o1) f o2 P=some (.fJ (ps++more)):=by rw[ae fP,ae cP,aJ]
 refine I.un ⟨λb o e n _ _=>k b o (λz=>by rw[z,hP]at n;cases n) e,λb o e n _ _=>⟨o.slots,k b o (λz=>by rw[z,hP]at n;cases n) e⟩,λb o e n _=>?_,λb o e _=>?_,λb xs e=>AL b _ e (λz=>by rw[z,hP]at e;cases e),λb o u e=>AL b _ e (λz=>by rw[z,hP]at e;cases e),λb ps' e=>?_⟩ λb u e=>?_
 ·rw[get b (λz=>by rw[z,hP]at n;cases n) (old b o e).1 (old b o e).2];exact n
 ·by_cases z:b=P
  ·rw[z];exact⟨_,hP'⟩
  ·exact⟨o,k b o z e⟩
 ·by_cases z:b=P
  ·rw[z,hP]at e;cases e;rw[z];exact⟨more,atP⟩
  ·exact⟨#[],by rw[AL b _ e z];simp⟩
 ·by_cases z3:b=f
  ·rw[z3,aJ]at e;cases e;rw[z3];exact ok2 _
  ·by_cases z2:b=c
   ·rw[z2,ae hcf,aJ]at e;cases e;rw[z2];exact ok1 _
   ·by_cases z1:b=P
    ·rw[z1,atP]at e;cases e;rw[z1];exact hP'
    ·rw[get b z1 z2 z3]at e;refine(I.aN b u e).gM (λd v hd q=>k d v ?_ q) (λd q=>AL d _ q (λz=>by rw[z,hP]at q;cases q)) λd xs q=>AL d _ q (λz=>by rw[z,hP]at q;cases q);rcases hd with z|z
     ·rw[z];exact z1
     ·intro y;rw[y,hP]at z;cases z
theorem IS{A:Around}{P c:Addr}{pos:Pos}{x q:Str}{pr:Arguments}{bd:Expr}{sc:Scope}{line:Nat}{E:Vs}{Q:Vs}(I:Inv X pins σ H s)(hcl:closureFor sc X.env=pure [])(hcd:X.env.code=.ref c)(hc:codeHdIn X.K c P=true)(hb:BMod X.K X.mg)(ht:eP P pos q H)
  (k:∀(f c':Addr) (ctv pm:Value) (H':Hp) (s':Shared),Inv X pins σ H' s'->iO P H H'->eP P pos q H'->H f=none->f≠P->H' f=some (F5 f (kla_obj x q pr bd sc [] pm c' ctv))->H' c'=some (GX c' q)->Q (.ref f) s'):
  wpAny (model X.prog X.w) A (makeFunction x q pr (.expr bd) sc X.env [] [] [] pos line) Q E s:=by
 obtain⟨ps,hP,tri,cs⟩:=ht;have gP:s.heap.get? P=some (tabObj ps):=I.aN P _ hP;have ns:s.heap.Ns mainGlobals X.mg:=I.ok.mod.glob.keeps I.bk;have nP:∀b o,X.base.get? b=some o->b≠P:=λb o e z=>by
  have:=(I.bs b o e).2;rw[z,hP]at this;cases this
 have mP:mainGlobals≠P:=by
  obtain⟨o,_,_,e,_⟩:=I.ok.mod.glob;exact nP _ o e
 have hd:PySem.W.CodeHd s.heap c P:=codeHd_of_K I.ib hc;have bl:s.heap.BuiltinsAt X.mg P:=by
  obtain⟨bm,sl,e1,e2,e3,e4⟩:=hb;exact⟨bm,_,e1,e2,e3,nP bm _ (I.ok.mod.VA _ _ e4),I.ib _ _ e4,rfl,rfl,rfl⟩
 rcases cs with cs|⟨c',cs,hc'⟩
 ·refine PySem.W.kla_makeFunction hcl I.ok.glob ns hcd hd gP tri cs mP bl λc' ctv h' tk ext h1 h2 h3 h4=>?_;have pk:∀b o,h'.get? b=some o->(h'.push (kla_obj x q pr bd sc [] ((X.mg (Str.ofString "__name__")).getD .none) c' ctv)).get? b=some o:=λb o e=>dM _ e;have sz:s.heap.objs.size<=h'.objs.size:=by omega
  have fP:P≠h'.objs.size:=fE (cH h4);have cP:P≠c':=fE (g8 (cH gP) h1);have J:=I.grow (P:=P) (c:=c') (f:=h'.objs.size) (t':=tk) (h':=h'.push (kla_obj x q pr bd sc [] ((X.mg (Str.ofString "__name__")).getD .none) c' ctv)) (o1:=GX c' q) (o2:=F5 h'.objs.size (kla_obj x q pr bd sc [] ((X.mg (Str.ofString "__name__")).getD .none) c' ctv)) hP
   (λb o n e=>pk b o (ext b o n e)) (pk _ _ h4) h1 sz (fE h2) (λH''=>QS (by
    obtain⟨c2,o,vs,t,e1,e2,e3⟩:=h3;exact⟨c2,o,vs,t,e1,pk _ _ e2,e3⟩)) (λH''=>DY (iu _ rfl))
  refine k _ c' ctv _ _ _ J (λb o n e=>?_) ⟨_,by rw[ae fP,ae cP,aJ],?_,.inr ⟨c',?_,by rw[ae (fE h2),aJ]⟩⟩ (I.aN.fresh sz) (Ne.symm fP) aJ (by rw[ae (fE h2),aJ])
  ·rw[ae (bf e (I.aN.fresh sz)),ae (bf e (I.aN.fresh h1)),ae n];exact e
  ·rw[Array.toList_append];exact TriplesOk_snoc _ _ _ _ tri
  ·rw[Array.toList_append];exact codeAmong_snoc _ tri cs
 ·refine PySem.W.kla_makeFunctionHit hcl I.ok.glob ns hcd hd gP tri cs bl λctv h' tk kp sz=>?_;have J:=I.laid (a:=h'.objs.size) (t':=tk) (h':=h'.push (kla_obj x q pr bd sc [] ((X.mg (Str.ofString "__name__")).getD .none) c' ctv)) (o:=F5 h'.objs.size (kla_obj x q pr bd sc [] ((X.mg (Str.ofString "__name__")).getD .none) c' ctv)) (λb o e=>dM _ (kp b o e)) sz (DY (iu _ rfl));have f0:=I.aN.fresh sz;have st:∀b o,H b=some o->upd H h'.objs.size (F5 h'.objs.size (kla_obj x q pr bd sc [] ((X.mg (Str.ofString "__name__")).getD .none) c' ctv)) b=some o:=λb o e=>by rw[ae (bf e f0)];exact e
  exact k _ c' ctv _ _ _ J (λb o _ e=>st b o e) ⟨ps,st _ _ hP,tri,.inr ⟨c',cs,st _ _ hc'⟩⟩ f0 (λz=>by rw[z,hP]at f0;cases f0) aJ (st _ _ hc')
end
theorem PV{P:Program}{w:World}{K:Wf}{mg:So}{base:Heap}{A:Around}{outer:List Env}{s:Shared}{H:Hp}{f c:Addr}{x q:Str}{pr:Arguments}{bd:Expr}{sc:Scope}{pm ct:Value}{N ps:List Str}{us:List Value}{vs:List V}{Q:VK}{t:TE}
  (ho:s.heap.get? f=some (kla_obj x q pr bd sc [] pm c ct)) (hc:s.heap.CodeRec (.ref c) q) (S:ai N ps sc) (hr:cg 1 A) (e0:oz P w K mg base A outer s H)
  (hb:BindsTo s (kla_fn x q pr bd sc [] pm (.ref c) ct) ⟨us,[]⟩ (ps.zip us)) (hl:vs.length=ps.length) (r:Vals vs us)
  (ht:PE (jv bP P w K mg base N q sc f (.ref c) A outer s H E0) bd t) (hq:t (start N vs) H Q):codeAny (model P w) A (.call (.ref f) ⟨us,[]⟩) (CR bP outer P w H s Q E0) s:=by
 have lim:s.heap.NoLimit:=e0.mod.nolimit.keeps λb o e=>(e0.bs b o e).1;have hkind:∀y∈ps.zip us,sc.names.lookup y.1=some .local\/(sc.names.lookup y.1=some .cell/\((cellsFrom (s.heap.objs.size+1) sc.names []).lookup y.1).isSome=true):=λ⟨n,v⟩ hy=>by
  rcases S.par n (List.of_mem_zip hy).1 with q|q
  ·exact .inl q
  ·exact .inr ⟨q,cellsFrom_some _ _ _ (.inl q)⟩
 refine PySem.W.kla_callFunE hr.depth ho rfl S.co S.gen rfl hc (hb _ _ _ _ ?_);refine wpAny_newFunctionEnv_cells S.kind hkind λenv he s1 x=>?_;subst he;refine⟨lim.keeps x.toInCall.keep,PySem.W.kla_codeExpr ?_⟩;have I:=qB (CX:=bP) (E:=E0) (f:=f) (cd:=.ref c) (qual:=q) S hr.hd e0 hl r x;refine oN (ht [] s1 (start N vs) H Q I hq) (λu s' ⟨v,H',J,rv,q⟩=>?_) λe s' hs=>hs;exact⟨v,H',J.os,J.bare,J.base,J.aN,rv,q⟩
theorem z_{bs:List Addr}{z:Addr->Str}(h:bs.length<2):(bs.map λb=>((z b,0):cb)).Pairwise zV:=by
 rw[ycm];intro i j hi hj lt;rw[aS]at hj;omega
noncomputable def keyed(kt:List Value)(bs:List Addr):List Keyed:=kt.zip (bs.map Value.ref)
noncomputable def XY:Value->Str
 |.str x _=>x
 |_=>Str.ofString ""
section
variable{X:Cx}{pins:Lo}{σ:St}{H:Hp}{s:Shared}{A:Around}{E:Vs}
theorem DL:∀{kt:List Value}{ss:List Str}{i:Nat}{k:Value},StrsAre kt ss->kt[i]?=some k->ss[i]?=some (XY k)/\∃t,k=.str (XY k) t
 |_,_,0,_,.cons y t h,e=>by cases e;exact⟨rfl,t,rfl⟩
 |_,_,i+1,_,.cons _ _ h,e=>DL (i:=i) h e
theorem m5:∀{kt:List Value}{ss:List Str},StrsAre kt ss->kt.length=ss.length
 |_,_,.nil=>rfl
 |_,_,.cons _ _ h=>by rw[pR,pR,m5 h]
theorem qv:∀{kt:List Value}{ss:List Str}{y:Str}{t:Tok},StrsAre kt ss->StrsAre (kt++[.str y t]) (ss++[y])
 |_,_,y,t,.nil=>.cons y t .nil
 |_,_,_,_,.cons a b h=>.cons a b (qv h)
theorem je(h:StrsAre kt (bs.map z))(hx:x∈keyed kt bs):∃b t,b∈bs/\x=(.str (z b) t,.ref b):=by
 obtain⟨i,hi⟩:=List.getElem?_of_mem hx;unfold keyed at hi;rw[List.getElem?_zip_eq_some]at hi;obtain⟨h1,h2⟩:=hi;rw[oR]at h2;obtain⟨b,h3,h4⟩:=iw.mp h2;obtain⟨h5,t,h6⟩:=DL h h1;rw[oR,h3]at h5;refine⟨b,t,i7 h3,?_⟩;rw[<-Option.some.inj h5]at h6;exact Prod.ext h6 h4.symm
theorem KZ(I:Inv X pins σ H s)(fa:eO X pins H a)(fk:eO X pins H kS)(nak:a≠kS)(ha:s.heap.get? a=some (seqObj "list" #[] n))(hk:s.heap.get? kS=some (seqObj "list" kt.toArray e))(hz:StrsAre kt (bs.map z))(h64:bs.length<64)
  (k:∀(s':Shared) (bs':List Addr) (e':Nat),Inv X pins σ H s'->bs'.Perm bs->(bs'.map λb=>((z b,0):cb)).Pairwise zV->s'.heap.get? a=some (seqObj "list" (bs'.map Value.ref).toArray e')->Q (.done (.ret .none)) s'):
  wpAny (model X.prog X.w) A (ksk_end a false (bs.map Value.ref).toArray n (.ref kS) kt.toArray) Q E s:=by
 have kl:kt.length=bs.length:=by have:=m5 hz;rwa [aS]at this
 have sl:(kt.toArray.zip (bs.map Value.ref).toArray).toList=keyed kt bs:=ksk_zip kt.toArray (bs.map Value.ref);have epi:∀(st:SortSt) (bs':List Addr),failedOf st=none->(arrOf st).toList.map (·.2)=bs'.map Value.ref->bs'.Perm bs->(bs'.map λb=>((z b,0):cb)).Pairwise zV->wpAny (model X.prog X.w) A (ksk_tail a false n (.ref kS) st) Q E s:=λst bs' f ea p pw=>by
  unfold ksk_tail;have ea':((arrOf st).map λx=>x.2)=(bs'.map Value.ref).toArray:=by
   apply Array.ext';rw[Array.toList_map,ea]
  rw[f,ea'];refine aw (listUpdate_at hk rfl ?_ (hsz2:=by simp));have k1:∀b o,b≠kS->s.heap.get? b=some o->(s.heap.update kS (Obj.mapSeq λ_=>#[])).get? b=some o:=λb o nb g=>by rw[V8 _ _ _ _ nb];exact g
  have I1:=I.m9 (t':=s.toks) k1 fk.1 fk.2.1 fk.2.2.2.1 fk.2.2.2.2.1 fk.2.2.2.2.2;have ha1:=k1 a _ nak ha;generalize s.heap.update kS (Obj.mapSeq λ_=>#[])=h1 at k1 I1 ha1;refine aw (wpAny_letGo (aw (seqEpoch_at ha1 rfl (aw (listUpdate_at ha1 rfl ?_ (hsz2 := ?_))))))
  ·have k2:∀b o,b≠a->h1.get? b=some o->(h1.update a (Obj.mapSeq λ_=>(bs'.map Value.ref).toArray)).get? b=some o:=λb o nb g=>by rw[V8 _ _ _ _ nb];exact g
   have I2:=I1.m9 (t':=s.toks) k2 fa.1 fa.2.1 fa.2.2.2.1 fa.2.2.2.2.1 fa.2.2.2.2.2;have e2:=get?_update_seq ha1 λ_=>(bs'.map Value.ref).toArray;simp only[bne_self_eq_false,Bool.false_eq_true,if_false];exact bc (k _ bs' _ I2 p pw e2)
  ·simp only[Bool.false_eq_true,if_false];rw[iC,aS,p.length_eq,sizeLine_eq];omega
 unfold ksk_end;simp only[Bool.false_eq_true,if_false,List.size_toArray,List.length_map];by_cases gq:bs.length<2
 ·simp only[if_pos gq];refine aw (bc ?_);rw[StateT.run_pure];refine aw (bc ?_);refine epi _ bs rfl ?_ (.refl _) (z_ gq);show(kt.toArray.zip (bs.map Value.ref).toArray).toList.map (·.2)=_;rw[sl];unfold keyed;exact List.map_snd_zip (by rw[aS,kl];exact bA _)
 ·simp only[if_neg gq];have kk:keyKind' kt.toArray=pure oneType':=by
   match kt,hz,kl with
   |[],_,kl=>exact absurd kl (by simp;omega)
   |[_],_,kl=>exact absurd kl (by simp;omega)
   |_::_::_,hz,_=>exact keyKind_strs hz
  refine aw (wpAny_of_eq kk ?_);have bz:(kt.toArray.zip (bs.map Value.ref).toArray).size=bs.length:=by rw[<-Hq,sl];unfold keyed;rw[List.length_zip,List.length_map,kl,Nat.min_self]
  have ask:xw X.prog X.w A E s oneType' (λx=>pz (bs.map λb=>((z b,0):cb)) (XY x.1,0)) (kt.toArray.zip (bs.map Value.ref).toArray):=λx hx y hy Q q=>by
   rw[sl]at hx hy;obtain⟨b,t,hb,rfl⟩:=je hz hx;obtain⟨c,u,hc,rfl⟩:=je hz hy;refine oneLt_str (?_:Q (decide ((z b).cps.toList<(z c).cps.toList)) s);have e:=zL (ds:=bs.map λb=>((z b,0):cb)) (a:=(z b,0)) (b:=(z c,0)) (cC.mpr ⟨b,hb,rfl⟩);have e2:o7 ((z b,0):cb) (z c,0)=decide ((z b).cps.toList<(z c).cps.toList):=by
    unfold o7;by_cases h:z b=z c
    ·rw[if_pos h,h,decide_eq_false (by omega),decide_eq_false (List.lt_irrefl _)]
    ·rw[if_neg h]
   rw[<-e2,<-e];exact q
  refine aw (oN (IE (Q:=λ_ st=>(arrOf st).Perm (kt.toArray.zip (bs.map Value.ref).toArray)/\failedOf st=none/\dY (λx=>pz (bs.map λb=>((z b,0):cb)) (XY x.1,0)) (arrOf st) bs.length) ask (st:=SortSt.mk' oneType' (kt.toArray.zip (bs.map Value.ref).toArray) #[] 7 none) ⟨.refl _,rfl,rfl,rfl⟩ (by rw[bz];omega) (by rw[bz];exact h64) λst p f up=>⟨p,f,by rw[bz]at up;exact up⟩) ?_ λ_ _ z=>z);rintro⟨⟨⟩,st⟩ s' ⟨rfl,p,f,up⟩;have p':=Array.perm_iff_toList_perm.mp p;rw[sl]at p';have all:∀x∈(arrOf st).toList,∃b t,b∈bs/\x=(Value.str (z b) t,Value.ref b):=λx hx=>je hz (p'.mem_iff.mp hx);have e2:(arrOf st).toList.map (·.2)=((arrOf st).toList.map λx=>adr x.2).map Value.ref:=by
   rw[gS];refine RS λx hx=>?_;obtain⟨b,t,_,rfl⟩:=all x hx;rfl
  have pb:((arrOf st).toList.map λx=>adr x.2).Perm bs:=by
   have:=p'.map λx:Keyed=>adr x.2;have e3:(keyed kt bs).map (λx:Keyed=>adr x.2)=bs:=by
    unfold keyed;have:(λx:Keyed=>adr x.2)=adr ∘ (·.2):=rfl;rw[this,<-gS,List.map_snd_zip (by rw[aS,kl];exact bA _),gS];exact(RS λ_ _=>rfl).trans (List.map_id _)
   rwa [e3]at this
  refine epi st _ f e2 pb ?_;rw[ycm];intro i j hi hj lt;rw[aS,aS]at hi hj;have at_:∀m (hm:m<(arrOf st).toList.length),rk (λx=>pz (bs.map λb=>((z b,0):cb)) (XY x.1,0)) (arrOf st) m=pz (bs.map λb=>((z b,0):cb)) (z (adr ((arrOf st).toList[m]).2),0):=λm hm=>by
   unfold rk;rw[<-Array.getElem?_toList,zR hm];obtain⟨b,t,_,e⟩:=all _ (Se hm);rw[e];rfl
  have len:(arrOf st).toList.length=bs.length:=by rw[<-pb.length_eq,aS]
  have h:=up i j (Q6 lt) (by omega);rw[at_ i hi,at_ j hj]at h;simp only[List.getElem_map];unfold zV;rw[<-zL (ds:=bs.map λb=>((z b,0):cb))]
  ·exact decide_eq_false (Nat.not_lt.mpr h)
  ·obtain⟨b,t,hb,e⟩:=all _ (Se hj);rw[e];exact cC.mpr ⟨b,hb,rfl⟩
theorem GB{a f:Addr}{bs:List Addr}{z:Addr->Str}{n:Nat}{Q:Fin->Shared->Prop}(I:Inv X pins σ H s)(fa:eO X pins H a)(ha:s.heap.get? a=some (seqObj "list" (bs.map Value.ref).toArray n))(h64:bs.length<64)
  (key:∀s',Inv X pins σ H s'->∀b∈bs,wpAny (model X.prog X.w) A (call (.ref f) [.ref b]) (λu s''=>∃t,u=.str (z b) t/\Inv X pins σ H s''/\∀d o,eO X pins H d->s'.heap.get? d=some o->s''.heap.get? d=some o) (λ_ _=>False) s')
  (k:∀(s':Shared) (bs':List Addr) (e':Nat),Inv X pins σ H s'->bs'.Perm bs->(bs'.map λb=>((z b,0):cb)).Pairwise zV->s'.heap.get? a=some (seqObj "list" (bs'.map Value.ref).toArray e')->Q (.done (.ret .none)) s'):
  wpAny (model X.prog X.w) A (ksk_tree a (.ref f) false) Q E s:=by
 unfold ksk_tree;refine aw (listItems_at ha rfl (aw (listUpdate_at ha rfl ?_ (hsz2:=by simp))));have k1:∀b o,b≠a->s.heap.get? b=some o->(s.heap.update a (Obj.mapSeq λ_=>#[])).get? b=some o:=λb o nb g=>by rw[V8 _ _ _ _ nb];exact g
 have I1:=I.m9 (t':=s.toks) k1 fa.1 fa.2.1 fa.2.2.2.1 fa.2.2.2.2.1 fa.2.2.2.2.2;have e1:=get?_update_seq ha λ_=>#[];generalize (if (#[]:Array Value).size == (bs.map Value.ref).toArray.size then n else n+1)=n1 at e1;generalize s.heap.update a (Obj.mapSeq λ_=>#[])=h1 at k1 I1 e1;refine aw (seqEpoch_at e1 rfl (aw (wpAny_newTuple (aw (wpAny_newList (AS ?_) (i8 _))) ?_)))
 ·have I2:=I1.kept (h':=h1.push { cls:=Value.type "tuple", data:=Data.seq (bs.map Value.ref).toArray.toList.toArray }) (t':=s.toks) λb o g=>dM _ g;have e2:(h1.push { cls:=Value.type "tuple", data:=Data.seq (bs.map Value.ref).toArray.toList.toArray }).get? a=some (seqObj "list" #[] n1):=dM _ e1;generalize h1.push { cls:=Value.type "tuple", data:=Data.seq (bs.map Value.ref).toArray.toList.toArray }=h2 at I2 e2;have fk:eO X pins H h2.objs.size:=I2.yM (bA _) (I2.aN.fresh (bA _));have nak:a≠h2.objs.size:=fE (cH e2);have I3:=I2.kept (h':=h2.push { cls:=Value.type "list", data:=Data.seq ([]:List Value).toArray }) (t':=s.toks) λb o g=>dM _ g;have e3:(h2.push { cls:=Value.type "list", data:=Data.seq ([]:List Value).toArray }).get? a=some (seqObj "list" #[] n1):=dM _ e2;have k3:(h2.push { cls:=Value.type "list", data:=Data.seq ([]:List Value).toArray }).get? h2.objs.size=some (seqObj "list" ([]:List Value).toArray 0):=iu _ rfl;dsimp only;generalize h2.objs.size=kS at fk nak k3 ⊢;generalize h2.push { cls:=Value.type "list", data:=Data.seq ([]:List Value).toArray }=h3 at I3 e3 k3;unfold ksk_rest;refine aw (RG (aw ?_));rw[List.forIn_toArray];refine ksk_fold (λi s'=>∃(kt:List Value) (e:Nat),Inv X pins σ H s'/\s'.heap.get? a=some (seqObj "list" #[] n1)/\s'.heap.get? kS=some (seqObj "list" kt.toArray e)/\StrsAre kt ((bs.take i).map z)) (bs.map Value.ref) 0 _ ⟨[],0,I3,e3,k3,.nil⟩ (λj v s' hv hI=>?_) λs' hI=>?_
  ·rw[Nat.zero_add]at hI ⊢;obtain⟨kt,e,J,ja,jk,jz⟩:=hI;rw[oR]at hv;obtain⟨b,hb,rfl⟩:=iw.mp hv;have jl:=m5 jz;rw[aS,pX]at jl;refine aw (RR (oN (key s' J b (i7 hb)) (λu s'' hu=>?_) λ_ _ h=>h.elim));obtain⟨t,rfl,J2,kp⟩:=hu;have ja2:=kp a _ fa ja;have jk2:=kp kS _ fk jk;dsimp only;have up:=get?_update_seq jk2 λx=>x.push (.str (z b) t);rw[List.push_toArray]at up;refine aw (listUpdate_at jk2 rfl (bc ⟨rfl,kt++[.str (z b) t],_,J2.m9 (t':=s''.toks) (λd o nd g=>by rw[V8 _ _ _ _ nd];exact g) fk.1 fk.2.1 fk.2.2.2.1 fk.2.2.2.2.1 fk.2.2.2.2.2,by rw[V8 _ _ _ _ nak];exact ja2,up,?_⟩) ?_ ?_)
   ·rw[AF,hb,eA];exact qv jz
   ·rw[iC,sizeLine_eq];omega
   ·rw[Array.size_push,iC,sizeLine_eq];omega
  ·rw[Nat.zero_add,aS,AJ]at hI;obtain⟨kt,e,J,ja,jk,jz⟩:=hI;refine aw (listItems_at jk rfl ?_);exact KZ J fa fk nak ja jk jz h64 k
 ·rw[List.toList_toArray,aS,sizeLine_eq];omega
theorem Inv.O0(I:Inv X pins σ H s)(fa:eO X pins H a)(new:∀H'',a0 X.prog X.w H'' s.heap a o):Inv X pins σ (upd H a o) s:=by
 have n0:=fa.1;have AL:∀b u,H b=some u->upd H a o b=some u:=λb u e=>by rw[ae (bf e n0)];exact e
 refine I.step (g':=s.gens) (d':=s.drawn) (t':=s.toks) (h':=s.heap) (ch:=[a]) (λb hb=>?_) (λb o _ _ _ e _=>e) (λb o _ _ _ e _=>⟨o.slots,e⟩) (λb u hb _ n=>?_) (λb u _ e=>⟨u,e⟩) (λb xs e=>AL b _ e) (λb u v e=>AL b _ e) (λb ps e=>⟨#[],by rw[AL b _ e];simp⟩) (λm hm=>hm) (λb u e=>?_) I.bare
 ·rw[fN.mp hb];exact⟨fa.2.2.2.1,fa.2.1,fa.2.2.2.2.1,fa.2.2.2.2.2⟩
 ·rw[ae (λz=>hb (by rw[z];exact List.mem_singleton_self _))];exact n
 ·by_cases z:b=a
  ·rw[z,aJ]at e;cases e;rw[z];exact new _
  ·rw[ae z]at e;exact(I.aN b u e).gM (λ_ _ _ q=>q) (λd q=>AL d _ q) λd xs q=>AL d _ q
theorem zB{p f c:Addr}{bs:List Addr}{z:Addr->Str}{x q:Str}{pr:Arguments}{bd:Expr}{sc:Scope}{pm ct:Value}{y:Str}{rs:Addr->List V}{Q:VK}(I:Inv X pins σ H s)(hr:cg 4 X.A)(hp:aI X.K H p (bs.map V.ref))(hd:∀b∈bs,H b=some (.tup (.str (z b)::rs b)))(h64:bs.length<64)
  (hf:H f=some (F5 f (kla_obj x q pr bd sc [] pm c ct))) (hc:H c=some (GX c q)) (S:ai [y] [y] sc) (hb:∀(s:Shared) (u:Value),BindsTo s (kla_fn x q pr bd sc [] pm (.ref c) ct) ⟨[u],[]⟩ [(y,u)])
  (ht:∀A outer s H,PE (jv bP X.prog X.w X.K X.mg X.base [y] q sc f (.ref c) A outer s H E0) bd (Ry (HK X.K) (Q_ 0) (tC (.int 0))))
  (k:∀(l:Addr) (bs':List Addr),H l=none->bs'.Perm bs->(bs'.map λb=>((z b,0):cb)).Pairwise zV->Q (.ref l) (upd H l (.lst (bs'.map V.ref)))):
  wpAny (model X.prog X.w) X.A (call (.builtin "sorted") [.ref p] [(Str.ofString "key", .ref f)]) (EP X pins σ Q) X.xe s:=by
 obtain⟨its,r',pl,_⟩:=I.list hp;have e:=Ck r';subst e;have fit:(bs.map Value.ref).length<=sizeLine:=by rw[aS,sizeLine_eq];omega
 refine call_function_entry_kw kind_sorted plain_sorted entry_sorted (ksk_s1 _ _) (aw (m:=checkCount "sorted" 1 1 _) (bc (aw (collect_list pl.isList (aw (wpAny_newList ?_ fit)) fit))));dsimp only;have k1:∀b o,s.heap.get? b=some o->((s.heap.push (seqObj "list" #[] 0)).update s.heap.objs.size (Obj.mapSeq (·++(bs.map Value.ref).toArray))).get? b=some o:=λb o g=>by
  rw[V8 _ _ _ _ (fE (cH g))];exact dM _ g
 have I1:=I.kept (t':=s.toks) k1;generalize (s.heap.push (seqObj "list" #[] 0)).update s.heap.objs.size (Obj.mapSeq (·++(bs.map Value.ref).toArray))=h1 at k1 I1;have I2:=I1.kept (t':=s.toks) (h':=h1.push { cls:=.type "list", data:=.seq (bs.map Value.ref).toArray }) λb o g=>dM _ g;have new:(h1.push { cls:=.type "list", data:=.seq (bs.map Value.ref).toArray }).get? h1.objs.size=some (seqObj "list" (bs.map Value.ref).toArray 0):=iu _ rfl;have fa:eO X pins H h1.objs.size:=I1.yM (bA _) (I1.aN.fresh (bA _));refine aw (AS (wpAny_call_entry_kw slot_list_sort ⟨_,new,rfl⟩ entry_list_sort ?_ (ksk_l1 _ _)));rw[ksk_t1];refine GB (z:=z) I2 fa new h64 (λs' J b hb'=>?_) λs' bs' e' J pb pw g=>?_
 ·refine wpAny_call (codeAny_mono (PV (vs:=[.ref b]) (us:=[.ref b]) (Q:=λv H'=>v=.str (z b)/\H'=H) (J.aN f _ hf).1 (J.aN c _ hc).1 S (hr.in1.in1.mono (by decide)) J.Rn.in1.in1 (hb s' _) rfl (.cons rfl .nil) (ht _ _ _ _) ?_) λr s'' hq=>?_)
  ·show Ry _ _ _ [some (V.ref b)] _ _;exact⟨b,_,0,_,rfl,rfl,bB.of (hd b hb'),show Az (V.str (z b)::rs b) ((0:Nat):Int)=_ from iI rfl,rfl,rfl⟩
  ·cases r with
   |error e=>exact hq.elim
   |ok fl=>
    cases fl with
    |next=>exact False.elim hq
    |brk=>exact False.elim hq
    |cont=>exact False.elim hq
    |ret u=>
     obtain⟨v,H',os,bare,un,aN,rv,hv,hH⟩:=hq;subst hv hH;obtain⟨t,rfl⟩:=rv;refine⟨t,rfl,J.oI (ch:=[]) os un aN bare (λb z=>absurd z (by simp)),λd o fd g=>un.keep d o g fd.1 (λz=>?_) (by simp)⟩;exact(i_.mp (J.yi d z)).elim fd.2.1 fd.2.2.1
 ·refine⟨_,rfl,bc ⟨_,rfl,.ref h1.objs.size,upd H h1.objs.size (.lst (bs'.map V.ref)),?_,rfl,k _ bs' fa.1 pb pw⟩⟩;exact J.O0 fa λH''=>⟨by rw[aS,pb.length_eq,sizeLine_eq];omega,bs'.map Value.ref,e',pq,g⟩
def TH(K:Wf)(P:Addr)(lp:Pos)(q:Str)(te:TE):TE:=λσ H Q=>te σ H λx H1=>∃(p:Addr) (bs:List Addr) (z:Addr->Str) (rs:Addr->List V),x=.ref p/\aI K H1 p (bs.map V.ref)/\(∀b∈bs,H1 b=some (.tup (.str (z b)::rs b)))/\bs.length<64/\eP P lp q H1/\
 ∀(l:Addr) (bs':List Addr) (H2:Hp),H1 l=none->bs'.Perm bs->(bs'.map λb=>((z b,0):cb)).Pairwise zV->iO P H1 H2->eP P lp q H2->H2 l=some (.lst (bs'.map V.ref))->Q (.ref l) H2
theorem zO{K:Wf}{P c:Addr}{e:Expr}{te:TE}{p kp lp pos:Pos}{pr:Arguments}{bd:Expr}{sc:Scope}{y q:Str}(eK:X.K=K)(hr:cg 4 X.A)(he:PE X e te)(hg:Gl X "sorted")(hm:X.mg "sorted" = none)(hcd:X.env.code=.ref c)(hc:codeHdIn K c P=true)(bm:BMod K X.mg)(S:ai [y] [y] sc)
  (ht:∀(f c:Addr) A outer s H,PE (jv bP X.prog X.w X.K X.mg X.base [y] q sc f (.ref c) A outer s H E0) bd (Ry (HK X.K) (Q_ 0) (tC (.int 0))))
  (hb:∀(pm cd ct u:Value),bindArgs (kla_fn (Str.ofString "<lambda>") q pr bd sc [] pm cd ct) ⟨[u],[]⟩=pure [(y,u)]:=by intros;rfl)
  (hcl:closureFor sc X.env=pure []:=by rfl) (hq:X.env.qual++Str.ofString "<lambda>" = q:=by rfl) (hdf:defaultsOf pr X.env=([],[]):=by rfl) (s1:starEach [e] X.env=[(false,eval e X.env)]:=by rfl):
  PE X (.Call (.Name "sorted" p) [e] [⟨some "key", .Lambda pr bd sc lp,kp⟩] pos) (TH K P lp q te):=by
 subst eK;intro pins s σ H Q I h;refine V_ (fZ I hg hm (show bootBuiltins "sorted" = some (.builtin "sorted") by kernel_rfl) ?_);refine PyProof.Rows.callWith_kw ?_ (by rw[s1];rfl) (by rw[s1];rfl);rw[s1];refine Calls.spliced_cons (bj (he pins s σ H _ I h) λu s2 hh=>?_);obtain⟨x,H1,I1,r1,p',bs,z,rs,ex,hp,hd,h64,tb,k⟩:=hh;refine Calls.spliced_nil (kws_cons (PySem.W.kla_eval hdf ?_));subst ex;cases r1;rw[hq];refine IS I1 hcl hcd hc bm tb λf c' ctv pm H' s' J sx tb' f0 fP hf hc'=>kws_nil ?_;have pt:∀(b:Addr) (o:HO),(∀ps,o≠.fJ ps)->H1 b=some o->H' b=some o:=λb o ne e=>sx b o (λzz=>by
  obtain⟨ps,hP,_⟩:=tb;rw[zz,hP]at e;exact ne ps (Option.some.inj e).symm) e
 have hp':aI X.K H' p' (bs.map V.ref):=by
  rcases hp with hp|hp
  ·rcases hp with hp|⟨o,hp⟩
   ·exact .inl (.inl (pt _ _ (λps z=>by cases z) hp))
   ·exact .inl (.inr ⟨o,pt _ _ (λps z=>by cases z) hp⟩)
  ·exact .inr hp
 refine zB (z:=z) (rs:=rs) J hr hp' (λb hb=>pt _ _ (λps z=>by cases z) (hd b hb)) h64 hf hc' S (λs u=>.of_eq (hb _ _ _ _)) (λA outer s H=>ht f c' A outer s H) λl bs' l0 pb pw=>?_;have st:∀b o,H' b=some o->upd H' l (.lst (bs'.map V.ref)) b=some o:=λb o e=>by rw[ae (bf e l0)];exact e
 have l1:H1 l=none:=by
  cases e:H1 l with
  |none=>rfl
  |some o=>
   obtain⟨ps,hP,_⟩:=tb';have:=sx l o (λzz=>by rw[zz,hP]at l0;cases l0) e;rw[l0]at this;cases this
 exact k l bs' _ l1 pb pw (λb o n e=>st b o (sx b o n e)) (tb'.more st) aJ
end
section
variable{P:Program}{w:World}{K:Wf}{mg:So}{base:Heap}
def Lam(K:Wf)(fd:FuncData)(T:Addr):Prop:=∃c,fd.code=.ref c/\codeHdIn K c T=true
theorem bQ.okC{x qual:Str}{st:Stmt}{f T:Addr}{fd:FuncData}{N ps:List Str}{k:Nat}{sp:Sp}(F:bQ K x qual st f fd)(L:Lam K fd T)(S:ai N ps (ag st))(len:∀vs H Q E,sp vs H Q E->vs.length=ps.length)
  (hbody:∀(c:Addr) (cdv:Value) (A:Around) (outer:List Env) (s:Shared) (H:Hp) (vs:List V) (Q:VK) (E:XK),cdv=.ref c->codeHdIn K c T=true->cg k (A.deeper (envOfC qual (ag st) s.heap.objs.size f cdv))->sp vs H Q E->
   ∃t,pV (jv bP P w K mg base N qual (ag st) f cdv A outer s H E).VV (dq st) t/\t { nx:=λ_ H'=>Q .bI H',rt:=Q } (start N vs) H):aG P w K mg base bP (k+1) f fd ps sp:=by
 obtain⟨oc,od,kV,doc,pm,an,cdv,ct,osl,rfl,lk,hcd⟩:=F.ex;obtain⟨c,e1,e2⟩:=L;refine N6 lk hcd S len λA outer s H vs Q E hr hsp=>?_;obtain⟨t,h,q⟩:=hbody c cdv A outer s H vs Q E e1 e2 hr hsp;exact⟨t,h.VV,q⟩
end
def xF(Ts:List Addr)(H:Hp):Prop:=∀T∈Ts,H T=some (.fJ #[])
theorem Gi{P:Program}{w:World}{K:Wf}{mg mb:So}{CX:G7}{k:Nat}{fa a:Addr}{fd:FuncData}{x:Str}{sp:Sp}{s₁:Shared}{vs:List Value}{ns:List Int}{Ts:List Addr}
  (KX:K.In s₁.heap) (hns:s₁.heap.Ns mainGlobals mg) (hb:s₁.heap.Ns builtinsNs mb) (hbb:∀x:Str,x ≠ "__name__" -> mb x=bootBuiltins x) (hlim:s₁.heap.NoLimit) (hg:s₁.gens=#[])
  (ha:s₁.heap.get? a=some { cls:=.type "list", data:=.seq vs.toArray }) (hi:IntsAre vs ns) (hl:ns.length<=sizeLine) (hr:cg k callerA)
  (hT:∀T∈Ts,s₁.heap.get? T=some (tabObj #[])/\isCodeTable s₁.heap T/\K.lookup T=none)
  (F:∀base:Heap,K.In base->base.Ns mainGlobals mg->aG P w K mg base CX k fa fd [x] sp) (hbind:∀(s:Shared) (u:Value),BindsTo s fd ⟨[u],[]⟩ [(x,u)])
  (hsp:∀H:Hp,xF Ts H->aI K H a (ns.map V.int)->sp [.ref a] H (λv _=>v=.bl true) λ_ _ _=>False)
  (hCX:∀H e s',CX [] H s₁ (λ_ _ _=>False) e s'->False):
  codeAny (model P w) callerA (.call (.ref fa) ⟨[.ref a],[]⟩) (λr s'=>r=.ok (.ret (.bool true))/\OldK s₁.heap s'.heap/\s'.os=s₁.os/\AllBare s'.gens) s₁:=by
 have rv:=pH hi;have lenV:=hi.length;have aT:a∉Ts:=λz=>by
  have:=(hT a z).1;rw[ha]at this;cases this
 have core:∀H:Hp,aI K H a (ns.map V.int)->(∀b,H b=none\/(b=a/\K.lookup a=none/\H b=some (.g9 { cls:=.type "list", data:=.seq vs.toArray } (.lst (ns.map V.int))))\/(b∈Ts/\H b=some (.fJ #[])))->xF Ts H->
   codeAny (model P w) callerA (.call (.ref fa) ⟨[.ref a],[]⟩) (λr s'=>r=.ok (.ret (.bool true))/\OldK s₁.heap s'.heap/\s'.os=s₁.os/\AllBare s'.gens) s₁:=by
  intro H hS hO hE;have aN:e7 P w H s₁.heap:=λb u z=>by
   rcases hO b with y|⟨rfl,_,y⟩|⟨y1,y⟩
   ·rw[y]at z;cases z
   ·rw[y]at z;cases z;exact⟨ha,by rw[aS];exact hl,vs,_,rv,ha⟩
   ·rw[y]at z;cases z;exact(hT b y1).1
  have base_of:∀{b:Addr}{o:Obj},s₁.heap.get? b=some o->H b=none->(uT s₁.heap H).get? b=some o:=λe n=>Mh e n;have noA:∀{b:Addr}{o:Obj}{es:Array DictEntry}{ep:Nat},s₁.heap.get? b=some o->o.data=.dict es ep->H b=none:=λ{b o es ep} e d=>by
   rcases hO b with y|⟨rfl,_,y⟩|⟨y1,y⟩
   ·exact y
   ·rw[ha]at e;cases e;have d':Data.seq vs.toArray _=Data.dict es ep:=d;cases d'
   ·rw[(hT b y1).1]at e;cases e;have d':Data.fields #[]=Data.dict es ep:=d;cases d'
  have nsK:∀{b:Addr}{m:So},s₁.heap.Ns b m->(uT s₁.heap H).Ns b m:=λ{b m} ⟨o,es,ep,e,d,r⟩=>⟨o,es,ep,base_of e (noA e d),d,r⟩;have hKb:K.In (uT s₁.heap H):=λb o e=>base_of (KX b o e) (by
   rcases hO b with y|⟨rfl,y1,y⟩|⟨y1,y⟩
   ·exact y
   ·rw[y1]at e;cases e
   ·rw[(hT b y1).2.2]at e;cases e)
  have hM:Mod K mg (uT s₁.heap H):=⟨hKb,nsK hns,⟨mb,nsK hb,hbb⟩,let ⟨mc,h1,h2⟩:=hlim;⟨mc,nsK h1,h2⟩⟩
  have e0:oz P w K mg (uT s₁.heap H) callerA [] s₁ H:=⟨rfl,hM,λb o e=>Q1 e,Nat.le_of_eq (G4 _ _),trivial,λb hb=>absurd (show b∈([]:List Addr) from hb) (by simp),aN,.of_eq hg⟩
  refine codeAny_mono ((F _ hKb (nsK hns)).run callerA [] s₁ H ⟨[.ref a],[]⟩ [.ref a] [.ref a] _ _ hr e0 (hbind s₁ (.ref a)) (.cons rfl .nil) (hsp H hE hS)) λr s' h=>?_;cases r with
  |error e=>exact(hCX H e s' h).elim
  |ok fl=>
   cases fl with
   |next=>exact False.elim h
   |brk=>exact False.elim h
   |cont=>exact False.elim h
   |ret u=>
    obtain⟨v,H',os,bare,un,hok',r',q⟩:=h;have q':v=.bl true:=q;subst q';obtain rfl:u=Value.bool true:=r';have nf:∀b:Addr,b∉i9 []:=λb z=>absurd (show b∈([]:List Addr) from z) (by simp);refine⟨rfl,⟨λb o e=>?_,λb o e=>un.there b o e (by simp)⟩,os,bare⟩;rcases hO b with y|⟨_,_,y⟩|⟨y1,y⟩
    ·exact .inl (un.keep b o e y (nf b) (by simp))
    ·obtain⟨e1,_⟩:=aN b _ y;obtain⟨e2,_⟩:=hok' b _ (un.hZ b _ _ y);rw[e]at e1;cases e1;exact .inl e2
    ·obtain⟨more,z⟩:=un.hJ b _ y;have e2:s'.heap.get? b=some { cls:=.none,data:=.fields (#[]++more) }:=hok' b _ z;obtain⟨t1,t2,_⟩:=hT b y1;rw[e]at t1;cases t1;exact .inr (.inl ⟨t2,rfl,#[],more,rfl,e2⟩)
 cases hk:K.lookup a with
 |some o=>
  have e:=KX a o hk;rw[ha]at e;cases e;refine core (λb=>if b∈Ts then some (.fJ #[]) else none) (.inr ⟨_,vs.toArray,_,hk,rfl,rfl,rfl,by rw[iC,lenV];exact hl,by simpa using rv⟩) (λb=>?_) λT hT'=>if_pos hT';by_cases z:b∈Ts
  ·exact .inr (.inr ⟨z,if_pos z⟩)
  ·exact .inl (if_neg z)
 |none=>
  refine core (λb=>if b∈Ts then some (.fJ #[]) else if b=a then some (.g9 { cls:=.type "list", data:=.seq vs.toArray } (.lst (ns.map V.int))) else none) (.inl (.inr ⟨{ cls:=.type "list", data:=.seq vs.toArray },(if_neg aT).trans (if_pos rfl)⟩)) (λb=>?_) λT hT'=>if_pos hT';by_cases z:b∈Ts
  ·exact .inr (.inr ⟨z,if_pos z⟩)
  ·by_cases y:b=a
   ·exact .inr (.inl ⟨y,hk,(if_neg z).trans (if_pos y)⟩)
   ·exact .inl ((if_neg z).trans (if_neg y))
def FOT(K:Wf)(f T:Addr)(st:Stmt)(x q:Str):Prop:=∃(oc:Value) (od an:Option Addr) (sl:Array (Option Value)) (kV dc pm ct:Value) (c:Addr),K.lookup f=some ⟨oc,od,.func (fnOf x q (fj st) (dq st) (ag st) .none kV dc pm an (.ref c) ct),sl⟩/\codeIn K (.ref c) q=true/\keepIn K (.ref f)=true/\codeHdIn K c T=true
def IG(K:Wf)(h:Heap)(T:Addr):Prop:=h.get? T=some (tabObj #[])/\(∃c,codeHdIn K c T=true)/\K.lookup T=none
theorem OF{q:Program}{loose:List Str}{mean:ExcName->Option Value}{mg mb:So}{h:Heap}{K:Wf}{f T:Addr}{st:Stmt}{x y:Str}(KX:K.In h)(TP:Top q loose mean mg mb h)(hrec:((recsOf q).any λd=>d.name == x)=true)(a:nsIn K mainGlobals x=some (some (.ref f)))(l:FOT K f T st x y)(n:K.lookup T=none):IG K h T:=by
 obtain⟨oc,od,an,sl,kV,dc,pm,ct,c,lk,_,_,hc⟩:=l;obtain⟨d,hd,en⟩:=G0.mp hrec;have en:d.name=x:=by simpa using en
 obtain⟨a',o,fd,c',P,e1,e2,e3,e4,_,e6⟩:=TP.tab d hd;have ef:=mg_of KX TP.g a;rw[en,ef]at e1;cases e1;rw[KX _ _ lk]at e2;cases e2;cases e3;have ec:c=c':=Value.ref.inj e4;subst ec;obtain⟨⟨o2,vs2,g1,g2,g3,g4⟩,g5⟩:=e6;obtain⟨o3,vs3,_,_,_,_,_,_,_,k1,k2,k3,k4,_⟩:=codeHd_of_K KX hc;rw[k1]at g1;cases g1;rw[k3]at g3;cases g3;rw[k4]at g4;cases g4;exact⟨g5,⟨c,hc⟩,n⟩
theorem ME{l:PySem.W.OpenLaw}{n k:Nat}{q:Program}{loose:List Str}{XP:(Str->Option Value)->Heap->Prop}{YP:World->Heap->Prop}{d:DefRec}{K:Params->Wf}{CX:World->G7}{sp:World->Sp}{x:Str}{Ts:List Addr}
  (hn:l.most=some n) (hn2:n<=sizeLine) (hdf:d.params.defaults=[]) (hr:cg k callerA)
  (hY:∀(w:World) (h:Heap),YP w h->(K w.params).In h)
  (hT:∀(w:World) (h:Heap) (lo:List Str) (mean:ExcName->Option Value) (mg mb:So),(K w.params).In h->Top q lo mean mg mb h->∀T∈Ts,IG (K w.params) h T)
  (F:∀(w:World) (mg:So) (fa:Addr) (h:Heap),(K w.params).In h->h.Ns mainGlobals mg->mg d.name=some (.ref fa)->
   ∃fd:FuncData,(∀(s:Shared) (u:Value),BindsTo s fd ⟨[u],[]⟩ [(x,u)])/\
    ∀base:Heap,(K w.params).In base->base.Ns mainGlobals mg->aG l.prog w (K w.params) mg base (CX w) k fa fd [x] (sp w))
  (hsp:∀(w:World) (H:Hp) (a:Addr) (ns:List Int),ns.length<=n->xF Ts H->aI (K w.params) H a (ns.map V.int)->sp w [.ref a] H (λv _=>v=.bl true) λ_ _ _=>False)
  (hCX:∀(w:World) (H:Hp) (s:Shared) (e:Value) (s':Shared),CX w [] H s (λ_ _ _=>False) e s'->False):
  PySem.W.WalkO q loose XP YP l.row.toRowW d [] (λf vs=>PySem.call f vs):=by
 refine Att.attach_call hn hdf λw s₀ s₁ mg mb fa o pm cd doc a vs ns G Y ho hd hcd hmg hobj hints hlen hg=>?_;have KX:=hY w _ Y;obtain⟨fd,hb,hF⟩:=F w mg fa _ KX G.T.g hmg;refine Gi KX G.T.g G.T.b G.T.builtins G.T.nolimit hg hobj hints (zc hlen hn2) hr (λT hT'=>?_) hF hb (λH hO hS=>hsp w H a ns hlen hO hS) λH e s'=>hCX w H s₁ e s';obtain⟨t1,⟨c,t2⟩,t3⟩:=hT w _ _ _ mg mb KX G.T T hT';obtain⟨o',vs',_,_,_,_,_,_,_,e1,e2,e3,e4,_⟩:=codeHd_of_K KX t2;exact⟨t1,⟨c,o',vs',e1,e2,e3,e4⟩,t3⟩
noncomputable def Px(P:Addr)(H:Hp):Hp:=λb=>if b=P then none else H b
theorem eC(hP:H P=some (.fJ ps))(e:H b=some o)(n:∀ps,o≠.fJ ps):Px P H b=some o:=by
 unfold Px;rw[if_neg (λz=>by rw[z,hP]at e;exact n ps (Option.some.inj e).symm)];exact e
theorem iO.same(s:iO P H H'):aL (Px P H) H':=λb o e=>by
 unfold Px at e;by_cases z:b=P
 ·rw[if_pos z]at e;cases e
 ·rw[if_neg z]at e;exact s b o z e
theorem iO.free(s:iO P H H'){b:Addr}(hb:b≠P)(h:H' b=none):H b=none:=by
 cases e:H b with
 |none=>rfl
 |some o=>rw[s b o hb e]at h;cases h
theorem bJ.At.Px{P:Addr}{ps:Array Value}{H:Hp}{s:bJ}(hP:H P=some (.fJ ps))(h:s.At H):s.At (Px P H):=
 ⟨eC hP h.top (λ_ z=>by cases z),eC hP h.wd (λ_ z=>by cases z),eC hP h.fl (λ_ z=>by cases z),λf hf=>eC hP (h.fs f hf) (λ_ z=>by cases z)⟩
theorem aD.At.Px{P:Addr}{ps:Array Value}{H:Hp}{p:aD}(hP:H P=some (.fJ ps))(h:p.At H):p.At (Px P H):=
 ⟨eC hP h.top (λ_ z=>by cases z),eC hP h.sl (λ_ z=>by cases z),eC hP h.nl (λ_ z=>by cases z),λs hs=>(h.ss s hs).Px hP,λn hn=>eC hP (h.ns n hn) (λ_ z=>by cases z)⟩
theorem aD.At.keep{P:Addr}{ps:Array Value}{H H':Hp}{p:aD}(h:p.At H)(hP:H P=some (.fJ ps))(s:iO P H H'):p.At H':=(h.Px hP).mono s.same
noncomputable def Itv(K:Wf)(a:Addr)(xs:List V):It:=
 ⟨λi H=>aI K H a xs/\i<xs.length,λi H x H'=>H'=H/\xs.reverse[i]?=some x,λi H=>aI K H a xs/\xs.length<=i⟩
theorem MU{P:Program}{w:World}{K:Wf}{tg:Expr}(a it:Addr)(xs:List V):Turn P w K tg (Itv K a xs) [it] it (λi h=>i<=xs.length/\h.IsRevIter it a ((xs.length:Int) - 1 - i)) where
 mem:=by simp
 obj:=λi h st b hb=>by
  have e:b=it:=by simpa using hb
  subst e;obtain⟨_,o,e,c,d⟩:=st;exact⟨o,e,λv z=>by rw[d]at z;cases z⟩
 keep:=λi h h' st k=>⟨st.1,st.2.at λo e=>k it (by simp) o e⟩
 item:=by
  intro X hP hw hK hc i pins s σ H E I hf st hg;subst hP hw hK;obtain⟨hq,hi⟩:=hg;obtain⟨its,rv,p,hz⟩:=I.list hq;obtain⟨f0,f1,f2,f3,f4,f5⟩:=hf it (by simp);have hl:=rv.length;have hx:xs[xs.length - 1 - i]?=some xs[xs.length - 1 - i]:=zR (by omega);generalize hxx:xs[xs.length - 1 - i]=x at hx;obtain⟨u,hu,ru⟩:=rv.get hx;have st2:s.heap.IsRevIter it a ((xs.length - 1 - i:Nat):Int):=by
   have:=st.2
   rwa [show((xs.length:Int) - 1 - i)=((xs.length - 1 - i:Nat):Int) by omega]at this
  refine wpAny_pyNext_rev_item st2 p.isList (x:=u) (by simpa using hu) λh' st' sb=>?_;have I1:Inv X pins σ H { s with heap:=h' }:=I.m9 (t':=s.toks) (λb o hb e=>(sb.2 b hb).trans e) f0 f1 f3 f4 f5;obtain⟨o,e,c,d⟩:=id st';refine⟨u,rfl,Ak (s:={ s with heap:=h' }) e c d (by decide) ⟨x,H,I1,ru,⟨rfl,?_⟩,⟨by omega,?_⟩,λb hb=>(hf b hb).1⟩⟩
  ·rw[List.getElem?_reverse hi];exact hx
  ·rwa [show((xs.length:Int) - 1 - ((i+1:Nat):Int))=((xs.length - 1 - i:Nat):Int) - 1 by omega]
 done:=by
  intro X hP hw hK hc i pins s σ H E I hf st hg;subst hP hw hK;obtain⟨hq,hi⟩:=hg;obtain⟨f0,f1,f2,f3,f4,f5⟩:=hf it (by simp);have st2:s.heap.IsRevIter it a (-1):=by
   have:=st.2
   rwa [show((xs.length:Int) - 1 - i) = -1 by have:=st.1;omega]at this
  exact wpAny_pyNext_rev_end (I.ok.hd hc) st2 λh' eb=>⟨rfl,I.m9 (t':=s.toks) (λb o hb e=>eb b o hb e) f0 f1 f3 f4 f5⟩
 self:=λ_ _ _ _ _ st h=>wpAny_pyIter_revIter st.2 h
section
variable{X:Cx}{tg:Expr}{K:Wf}
def X6(K:Wf)(tl:TE):TI:=λσ H R=>tl σ H λx H1=>∃a xs,x=.ref a/\aI K H1 a xs/\R (Itv K a xs) H1
theorem Vu(eK:X.K=K)(hg:Gl X "reversed")(hm:X.mg "reversed" = none)(hl:PE X l tl)(hs:starEach [l] X.env=[(false,eval l X.env)]:=by rfl):PI X tg (.Call (.Name "reversed" p) [l] [] pos) (X6 K tl):=by
 subst eK;intro pins s σ H R I h;refine V_ (fZ I hg hm (show bootBuiltins "reversed" = some (.type "reversed") by kernel_rfl) ?_);refine PyProof.Rows.callWith_type1 ?_ (by rw[hs];rfl) rfl;rw[hs];show wpAny _ _ (spliced ((false,eval l X.env)::[])) _ _ s;refine Calls.spliced_cons (bj (hl pins s σ H _ I h) λu s1 ⟨x,H1,I1,r1,a,xs,ex,hq,q⟩=>Calls.spliced_nil ?_);subst ex;cases r1;obtain⟨its,r',pl,hz'⟩:=I1.list hq;refine call_reversed_list pl.isList ?_;have ln:=r'.length;have it0:(s1.heap.push (revObj a ((its.toArray.size:Int) - 1))).IsRevIter s1.heap.objs.size a ((xs.length:Int) - 1 - ((0:Nat):Int)):=⟨_,iu _ rfl,rfl,by
  show(revObj a ((its.toArray.size:Int) - 1)).data=_;rw[iC,<-ln,show((xs.length:Int) - 1 - ((0:Nat):Int))=(xs.length:Int) - 1 by omega];rfl⟩
 refine wpAny_pyIter_revIter it0 ?_;refine⟨s1.heap.objs.size,[s1.heap.objs.size],_,_,H1,rfl,I1.kept (t':=s1.toks) λb o e=>dM _ e,MU a _ xs,⟨i8 _,it0⟩,λb hb=>?_,q⟩;have e:b=s1.heap.objs.size:=by simpa using hb
 subst e;exact I1.yM (bA _) (I1.aN.fresh (bA _))
def Rh(K:Wf)(g:TG)(tb:TS)(D:Ends)(σ:St):VK:=λx H1=>∃a xs,x=.ref a/\aI K H1 a xs/\rX g tb D σ (Itv K a xs) H1
section
variable{te:TE}{g:TG}{tb:TS}{D:Ends}{σ:St}{H:Hp}
theorem XQ:nU (X6 K te) g tb D σ H=te σ H (Rh K g tb D σ):=rfl
theorem Rh.of{a:Addr}{xs:List V}(Pv:Nat->St->Hp->Prop)(h0:Pv 0 σ H)(hl:∀i σ H,i<=xs.length->Pv i σ H->aI K H a xs)
  (hs:∀i x σ H,xs.reverse[i]?=some x->Pv i σ H->g x σ H λσ2 H2=>tb { D with nx:=Pv (i+1),ct:=Pv (i+1),bk:=D.nx } σ2 H2) (hd:∀σ H,Pv xs.length σ H->D.nx σ H):Rh K g tb D σ (.ref a) H:=by
 refine⟨a,xs,rfl,hl 0 _ _ (i8 _) h0,λi m σ H=>m=xs.length - i/\i<=xs.length/\Pv i σ H,⟨xs.length,by simp,Nat.zero_le _,h0⟩,?_⟩;rintro i m σ H ⟨rfl,hi,p⟩;have q:=hl i σ H hi p;by_cases hlt:i<xs.length
 ·refine .inr ⟨⟨q,hlt⟩,Pv (i+1),λσ' H' p'=>⟨xs.length - (i+1),by omega,rfl,hlt,p'⟩,λx H' y=>?_⟩;obtain⟨rfl,hx⟩:=y;exact hs i x σ _ hx p
 ·have e:i=xs.length:=by omega
  subst e;exact .inl ⟨⟨q,bA _⟩,hd σ H p⟩
end
noncomputable def WI:V->List V->Hp->VK->Prop:=λx vs H Q=>∃d o kvs more,x=.ref d/\vs=[.ref o]/\H d=some (.dK kvs)/\H o=some (.dK more)/\d≠o/\kvs.length+more.length<=100000/\Q .bI (upd H d (.dK (nY kvs more)))
theorem B3:MtM X "dict.update" WI:=by
 intro pins s σ H x vs v us Q I rx rv h;obtain⟨d,o,kvs,more,rfl,rfl,hd,ho,ne,z,q⟩:=h;cases rx;obtain⟨u,rfl,ru⟩:=vals1 rv;cases ru;obtain⟨_,hS,ws,rel,dd⟩:=qh I.aN hd;obtain⟨_,hS2,ws2,rel2,dd2⟩:=qh I.aN ho;have l1:kvs.length=ws.length:=Paired.length rel;have l2:more.length=ws2.length:=Paired.length rel2;have l3:=gR more kvs;refine call_meetsIn PySem.F.slot_dict_update dd.typeIs PySem.F.entry_dict_update (PySem.F.args_dict_update_2 _ _) (meets_dict_update (aZ X.prog X.w) d o ne hS2) ⟨ws,ws2,dd,dd2,by rw[sizeLine_eq];omega,λh' d1 d2 sb=>?_⟩;have he:∃q,h'.get? d=some q:=let ⟨q,_,_,hq,_⟩:=d1;⟨q,hq⟩
 exact⟨.bI,_,i6 (t':=s.toks) I (by rw[hd];exact True.intro) sb he (Bf (by rw[sizeLine_eq];omega) hS (KV.merge rel2 rel) d1),rfl,q⟩
def D9(g:TG)(tt:TT)(te:TE)(σ0:St)(Q:VK):VK:=λx H1=>∃a kvs,x=.ref a/\H1 a=some (.dK kvs)/\∀o,Aa g tt te σ0 Q (Itd a o kvs) (upd H1 a (.g9 o (.dK kvs)))
section
variable{k:Nat}{fm:List Nat}{tl te:TE}{g:TG}{tt:TT}{σ σ0:St}{H H1:Hp}{Q:VK}
theorem UX:oo k fm (HC tl) g tt te σ H Q=tl σ H (D9 g tt te (eh k fm σ) Q):=rfl
theorem D9.of{a:Addr}{kvs:List (Key×V)}(hz:kvs.length<sizeLine)(hx:H1 a=some (.dK kvs))(Pv:Obj->Addr->Nat->List V->Hp->Prop)(h0:∀o D,H1 D=none->Pv o D 0 [] (upd (upd H1 a (.g9 o (.dK kvs))) D (.lst [])))
  (hl:∀o D i ys H',H1 D=none->i<=kvs.length->Pv o D i ys H'->H' a=some (.g9 o (.dK kvs))/\H' D=some (.lst ys)/\ys.length<=i)
  (hs:∀o D i p ys H',H1 D=none->kvs[i]?=some p->Pv o D i ys H'->g (kV p.1) σ0 H' λσ3 H4=>Ext σ0 σ3/\tt σ3 H4 λb H5=>if b=true then te σ3 H5 λy H6=>H6 D=some (.lst ys)/\Pv o D (i+1) (ys++[y]) (upd H6 D (.lst (ys++[y]))) else Pv o D (i+1) ys H5)
  (hd:∀o D ys H',H1 D=none->Pv o D kvs.length ys H'->Q (.ref D) H'):D9 g tt te σ0 Q (.ref a) H1:=by
 refine⟨a,kvs,rfl,hx,λo D hD0=>?_⟩;have nD:D≠a:=λe=>by rw[e,aJ]at hD0;cases hD0
 have hD:H1 D=none:=by rwa [ae nD]at hD0
 refine⟨λi m ys H=>m=kvs.length - i/\i<=kvs.length/\Pv o D i ys H,⟨kvs.length,by simp,Nat.zero_le _,h0 o D hD⟩,?_⟩;rintro i m ys H2 ⟨rfl,hi,p⟩;obtain⟨l0,l1,l2⟩:=hl o D i ys H2 hD hi p;refine⟨l1,by omega,?_⟩;by_cases hlt:i<kvs.length
 ·refine .inr ⟨⟨l0,kvs[i],by simp[hlt]⟩,Pv o D (i+1),λys' H' p'=>⟨_,(by omega:kvs.length - (i+1)<kvs.length - i),rfl,hlt,p'⟩,λx H3 y=>?_⟩;obtain⟨rfl,u,hu,rfl⟩:=y;exact hs o D i u ys _ hD hu p
 ·have e:i=kvs.length:=by omega
  subst e;exact .inl ⟨⟨l0,bA _⟩,hd o D ys H2 hD p⟩
end
section
variable{te:TE}{g:TG}{tb:TS}{D:Ends}{σ:St}{H:Hp}
end
end
section
variable{X:Cx}
end
section
variable{X:Cx}
end
section
variable{X:Cx}
end
section
open PySem.SeqAt
open PySem.AutoSeq1 (wpAny_loadPart')
open PySem.MeetsSeq PySem.MeetsSeq2 PySem.MeetsSeq3
end
section
variable{prog:Program}{w:World}{A:Around}{R:Result->Shared->Prop}{I S:Addr}{fp wr:List Addr}{n:Nat}{P:Nat->Value->Prop}{St:Nat->Heap->Prop}{a:Nat->Addr}{lt:Nat->Nat->Bool}{Kp:Heap->Prop}
end
section
variable{prog:Program}{w:World}{A:Around}{E:Vs}{s:Shared}
end
section
variable{X:Cx}
end
end L2
namespace L2
open PySem
section
variable{prog:Program}{w:World}{A:Around}{E:Vs}{s:Shared}
set_option maxHeartbeats 3200000 in
set_option maxHeartbeats 3200000 in
end
section
open PySem.Spec PyProof.Rows
variable{X:Cx}
section
variable{te:TE}{g:TG}{tb:TS}{D:Ends}{σ:St}{H:Hp}
end
end
end L2
namespace L2
open PySem PySem.Spec PyProof.Rows
noncomputable def Qh(K:Wf)(g:TG)(tb:TS)(D:Ends)(σ:St):(List V->Hp->Prop):=λvs H1=>∃a b xs ys,vs=[.ref a,.ref b]/\aI K H1 a xs/\aI K H1 b ys/\rX g tb D σ (Itz K a b) H1
section
variable{K:Wf}{ta:TA}{g:TG}{tb:TS}{D:Ends}{σ:St}{H:Hp}
theorem XR:nU (Zc K ta) g tb D σ H=ta σ H (Qh K g tb D σ):=rfl
theorem Qh.of{a b:Addr}{xs ys:List V}(he:ys.length=xs.length)(hx:aI K H a xs)(hy:aI K H b ys)(Pv:Nat->St->Hp->Prop)(h0:Pv 0 σ H)(hl:∀i σ H',i<=xs.length->Pv i σ H'->aI K H' a xs/\aI K H' b ys)
  (hs:∀i x y σ H' q,xs[i]?=some x->ys[i]?=some y->Pv i σ H'->H' q=none->g (.ref q) σ (upd H' q (.tup [x,y])) λσ2 H2=>tb { D with nx:=Pv (i+1),ct:=Pv (i+1),bk:=D.nx } σ2 H2) (hd:∀σ H',Pv xs.length σ H'->D.nx σ H'):Qh K g tb D σ [.ref a,.ref b] H:=by
 refine⟨a,b,xs,ys,rfl,hx,hy,λi m σ H=>m=xs.length - i/\i<=xs.length/\Pv i σ H,⟨xs.length,by simp,Nat.zero_le _,h0⟩,?_⟩;rintro i m σ H2 ⟨rfl,hi,p⟩;obtain⟨l0,l0'⟩:=hl i σ H2 hi p;by_cases hlt:i<xs.length
 ·have hlt':i<ys.length:=by omega
  refine .inr ⟨⟨xs,ys,xs[i],ys[i],l0,l0',by simp[hlt],by simp[hlt']⟩,Pv (i+1),λσ' H' p'=>⟨xs.length - (i+1),by omega,rfl,hlt,p'⟩,λx H3 y=>?_⟩;obtain⟨q,u,v,rfl,nq,y1,y2,rfl⟩:=y;exact hs i u v σ H2 q (y1 xs l0) (y2 ys l0') p nq
 ·have e:i=xs.length:=by omega
  subst e;exact .inl ⟨⟨xs,ys,l0,l0',.inl (bA _)⟩,hd σ H2 p⟩
end
def Z3(i j:Int):Prop:=0<j/\j.natAbs.log2<9000
section
variable{X:Cx}
theorem Iu:ir X (binaryOp .FloorDiv) (rI Z3 λi j=>.int (i/j)):=Wn λi j _ _ _ _ _ hc q=>by
 have h1:(0:Int)<j:=hc.1;exact floordiv_int (by omega) (by rw[Xs i (by omega)];exact q) (.inl (PyProof.noPylong_of_log2 hc.2))
end
def hold(t:TS):TS:=t
theorem dR{t:TS}{D:Ends}{σ:St}{H:Hp}(h:t D σ H):hold t D σ H:=h
theorem e8(h:pV X b t):pV X b (hold t):=h
end L2
set_option maxHeartbeats 0
set_option pp.deepTerms true
set_option pp.maxSteps 100000
namespace L2
open PySem PySem.Spec PyProof.Rows
section
variable{X:Cx}
theorem tx(K:Wf){a:Expr}{ta:TE}{n:Int}{j:Nat}{p pos:Pos}(ha:PE X a ta)(e:X.K=K:=by rfl):PE X (.Subscript a (.Constant (.int n) j p) pos) (Ry (HK K) ta (tC (.int n))):=bO (Cf e) ha af (λ_ _=>rfl)
theorem pn(i:Nat){x:Str}{pos:Pos}(hN:X.N.Nodup)(hi:X.N[i]?=some x:=by rfl)(hx:Loc X.env.scope x:=by first|exact Or.inl rfl|exact Or.inr rfl)(hf:X.fn x=true\/X.env.scope.names.lookup x=some .local:=by first|exact .inl rfl|exact .inr rfl|assumption):PG X (.Name x pos) (zM i):=Q8 hN hi hx hf
theorem pS(i:Nat){x:Str}{e:Expr}{te:TE}{pos pos':Pos}(hN:X.N.Nodup)(he:PE X e te)(hi:X.N[i]?=some x:=by rfl)(hx:Loc X.env.scope x:=by first|exact Or.inl rfl|exact Or.inr rfl)(hs:swapsWith e (some (.Name x pos')) pos.line X.env=pure false:=by rfl)(hf:X.fn x=true\/X.env.scope.names.lookup x=some .local:=by first|exact .inl rfl|exact .inr rfl|assumption):PS X (.Assign [.Name x pos'] e pos) (Rj te (zM i)):=Vh hN hi hx he hs hf
theorem pC{k n:Nat}{f:Addr}{fd:FuncData}{ps:List Str}{sp:Sp}{x:Str}{e:Expr}{es:List Expr}{t:TA}{p pos:Pos}(F:aG X.prog X.w X.K X.mg X.base bP k f fd ps sp)(hr:cg n X.A)(hm:X.mg x=some (.ref f))(hk:keepIn X.K (.ref f)=true)(hb:Binds X.K fd ps [])(ha:PA X (e::es) t)(hl:k<=n:=by decide)(hg:Gl X x:=by rfl)(hdb:(x == ("__debug__" : Str))=false:=by decide)(he:starEach (e::es) X.env=(false,eval e X.env)::starEach es X.env:=by rfl)(hpl:(backTo pos (starEach es X.env)).any (·.1)=false:=by rfl):PE X (.Call (.Name x p) (e::es) [] pos) (RW sp [] E0 t):=Q7 F (hr.mono hl) hg hm hk hb .nil ck ha hdb he hpl
theorem wQ(own:List Str){scope:Scope}(kind:scope.kind=.function:=by rfl)(h1:∀y∈scope.names,y.2≠.cell:=by decide +kernel)(h2:∀y∈scope.names,y.2=.local->scope.names.lookup y.1=some .local:=by decide +kernel)(h3:∀y∈scope.names,y.2=.free->y.1∈([]:List Str):=by decide +kernel):gk X (own++[]) own.length [] scope:=u5 kind h1 h2 h3 .nil
theorem f_{o e:Expr}{es:List Expr}{to:TE}{t:TA}{apos cpos:Pos}(ho:PE X o to)(ha:PA X (e::es) t)(hbase:attributeBase o "append" X.env (eval o X.env)=eval o X.env:=by rfl)(hfew:((backTo cpos (starEach (e::es) X.env)).all (λx=>!x.1)&&(backToKw cpos (keywordEach [] X.env)).all (λx=>x.1.isSome)&&decide ((e::es).length+([]:List Keyword).length+(if ([]:List Keyword).isEmpty then 0 else 1)<30))=true:=by rfl)(hline:(apos.endLine == cpos.line)=true:=by rfl)(hs:starEach (e::es) X.env=(false,eval e X.env)::starEach es X.env:=by rfl)(hp:(backTo cpos (starEach es X.env)).any (·.1)=false:=by rfl):PE X (.Call (.Attribute o "append" apos) (e::es) [] cpos) (tBM X.K "list" DG to t):=KQ PySem.F.plainAttrs_list PySem.F.slot_list_append PySem.F.type_list_append pf ho ha hbase hfew hline hs hp
theorem pF{tg iter:Expr}{body:List Stmt}{wi:TI}{g:TG}{tb:TS}{pos:Pos}(hi:PI X tg iter wi)(hg:PG X tg g)(hb:pV X body tb)(hc:X.calm=true:=by rfl)(hs:∀x,foldedSetIterable iter X.env x=pure x:=by intro _;rfl)(hn:PassesOwn (model X.prog X.w) X.A X.env X.xe:=by exact PassesOwn.never):PS X (.For tg iter body [] pos) (nU wi g tb):=TU hn hc hi hg hb hs
end
end L2
namespace My
open PySem PySem.Spec PyProof.Rows L2
noncomputable abbrev VY(a:Addr):List (Str×V):=putF (Str.ofString "pieces") (V.ref a) []
noncomputable abbrev Vt(a b:Addr):List (Str×V):=putF (Str.ofString "reasons") (V.ref b) (VY a)
noncomputable abbrev Wm(a b c:Addr):List (Str×V):=putF (Str.ofString "told_by_given") (V.ref c) (Vt a b)
noncomputable abbrev Xq(a b c d:Addr):List (Str×V):=putF (Str.ofString "on_shelves") (V.ref d) (Wm a b c)
noncomputable abbrev pfE(a b c d e:Addr):List (Str×V):=putF (Str.ofString "from_shelves") (V.ref e) (Xq a b c d)
set_option hygiene false in
local macro_rules | `(tactic| walk_at "0") => `(tactic| rw [oR] at hx)
set_option hygiene false in
local macro_rules | `(tactic| walk_at "1") => `(tactic| rw [aS, aS] at this)
set_option hygiene false in
local macro_rules | `(tactic| walk_at "2") => `(tactic| rw [aS, AJ] at e)
set_option hygiene false in
local macro_rules | `(tactic| walk_at "3") => `(tactic| rw [oR] at hv)
set_option hygiene false in
local macro_rules | `(tactic| walk_at "4") => `(tactic| have tk : ps.take (i + 1) = ps.take i ++ [p] := by rw [AF, hp]; rfl)
set_option hygiene false in
local macro_rules | `(tactic| walk_at "5") => `(tactic| rw [if_neg (fun z => h (decide_eq_true z))] at k)
local macro_rules | `(tactic| walk_at "o") => `(tactic| first | exact Or.inl rfl | exact Or.inr rfl)
local macro_rules | `(tactic| walk_at "s") => `(tactic| (rw [sizeLine_eq]; decide))
local macro_rules | `(tactic| walk_at "p") => `(tactic| first | exact Or.inl rfl | exact Or.inr (Or.inl rfl) | exact Or.inr (Or.inr rfl))
local macro_rules | `(tactic| walk_at "q") => `(tactic| first | exact .inl rfl | exact .inr rfl | assumption)
local macro_rules | `(tactic| walk_at "n") => `(tactic| exact of_decide_eq_true (by kernel_rfl))
local macro_rules | `(tactic| walk_at "F") => `(tactic| exact ⟨rfl, rfl, rfl, by decide +kernel, rfl, by decide +kernel, by decide +kernel⟩)
noncomputable def top(i:Nat):Stmt:=PySem.Challenge.pw_joinload_k61_words_run_by_names.main.body.getD i (.Pass ⟨0,0,0,0⟩)
noncomputable abbrev Nr:Stmt:=top 4
noncomputable abbrev xZ:Stmt:=top 5
noncomputable abbrev LJ:Stmt:=top 6
noncomputable abbrev Jj:Stmt:=top 7
noncomputable abbrev KA:Stmt:=top 8
noncomputable abbrev Bb:Stmt:=top 9
noncomputable abbrev xA:Stmt:=top 10
noncomputable abbrev Pk:Stmt:=top 13
noncomputable abbrev rM:Stmt:=top 14
noncomputable abbrev Bw:Stmt:=top 15
noncomputable abbrev BI:Stmt:=top 16
noncomputable abbrev AZ:Stmt:=top 17
noncomputable abbrev BH:Stmt:=top 18
noncomputable abbrev B5:Stmt:=top 19
noncomputable abbrev KY:Stmt:=top 22
noncomputable abbrev yT:Stmt:=top 32
noncomputable abbrev uU:Stmt:=top 33
noncomputable abbrev Cv:Stmt:=top 34
noncomputable abbrev LU:Stmt:=top 35
noncomputable abbrev Bo:Stmt:=top 36
noncomputable abbrev JF:Stmt:=top 37
noncomputable abbrev HY:Stmt:=top 38
noncomputable abbrev Ol:Stmt:=top 40
noncomputable abbrev O8:Stmt:=inClass (top 41) 0
noncomputable abbrev MX:Stmt:=inClass (top 42) 0
noncomputable abbrev NN:Stmt:=inClass (top 43) 0
noncomputable abbrev O1:Stmt:=inClass (top 44) 0
noncomputable abbrev LO:Stmt:=top 49
noncomputable abbrev IA:Stmt:=top 50
noncomputable abbrev j8:Stmt:=top 52
noncomputable abbrev N7:Stmt:=inClass (top 53) 0
noncomputable abbrev Ki:Stmt:=inClass (top 53) 1
noncomputable abbrev M6:Stmt:=inClass (top 53) 2
noncomputable abbrev MY:Stmt:=top 54
noncomputable abbrev M4:Stmt:=top 55
noncomputable abbrev Nf:Stmt:=top 56
noncomputable abbrev KS:Stmt:=top 59
noncomputable abbrev wB:Stmt:=top 60
noncomputable abbrev Ik:Stmt:=top 61
noncomputable abbrev HI:Stmt:=top 63
noncomputable abbrev NV:Stmt:=top 64
noncomputable abbrev KR:Stmt:=top 66
noncomputable abbrev Pb:Stmt:=top 68
noncomputable abbrev OY:Stmt:=top 69
noncomputable abbrev MA:Stmt:=inClass (top 72) 0
noncomputable abbrev IH:Stmt:=inClass (top 72) 1
noncomputable abbrev HJ:Stmt:=inClass (top 72) 2
noncomputable abbrev O5:Stmt:=inClass (top 72) 3
noncomputable abbrev J7:Stmt:=inClass (top 72) 5
noncomputable abbrev MV:Stmt:=inClass (top 72) 6
noncomputable abbrev JI:Stmt:=inClass (top 72) 7
noncomputable abbrev Nm:Stmt:=inClass (top 72) 8
noncomputable abbrev OH:Stmt:=inClass (top 72) 9
noncomputable abbrev OP:Stmt:=inClass (top 72) 10
noncomputable abbrev Nl:Stmt:=inClass (top 72) 12
noncomputable abbrev Hx:Stmt:=top 74
noncomputable abbrev IZ:Stmt:=top 75
noncomputable abbrev Pr:Stmt:=top 76
noncomputable abbrev Pt:Stmt:=top 77
noncomputable abbrev I_:Stmt:=top 78
noncomputable abbrev Hs:Stmt:=top 79
noncomputable abbrev Ld:Stmt:=top 80
noncomputable abbrev Je:Stmt:=top 81
noncomputable abbrev JE:Stmt:=top 82
noncomputable abbrev K9:Stmt:=top 83
noncomputable abbrev Mb:Stmt:=top 84
noncomputable abbrev Mm:Stmt:=top 85
noncomputable abbrev Pe:Stmt:=top 86
noncomputable abbrev Io:Stmt:=top 87
theorem oY:bootBuiltins "ValueError" = some (.type "ValueError"):=by decide +kernel
theorem Eh:bootBuiltins "bool" = some (.type "bool"):=by decide +kernel
theorem ou:bootBuiltins "int" = some (.type "int"):=by decide +kernel
theorem ia:bootBuiltins "isinstance" = some (.builtin "isinstance"):=by decide +kernel
theorem eG:bootBuiltins "len" = some (.builtin "len"):=by decide +kernel
theorem de:bootBuiltins "list" = some (.type "list"):=by decide +kernel
theorem Ud:bootBuiltins "max" = some (.builtin "max"):=by decide +kernel
theorem TR:bootBuiltins "set" = some (.type "set"):=by decide +kernel
theorem pG:bootBuiltins "sorted" = some (.builtin "sorted"):=by decide +kernel
theorem N9:bootBuiltins "str" = some (.type "str"):=by decide +kernel
theorem Am:bootBuiltins "tuple" = some (.type "tuple"):=by decide +kernel
theorem Vj:RelV (.int i) (.int i t):=⟨t,rfl⟩
theorem nM:RelV (.ty n) (.type n):=rfl
theorem gJ:RelV (.str x) (.str x t):=⟨t,rfl⟩
structure Ad where
 ZU:Addr
 v5:FuncData
 field:Addr
 iH:FuncData
 Yd:Addr
 sH:FuncData
 YY:Addr
 qM:FuncData
 m9:Addr
 yD:FuncData
 ones:Addr
 jZ:FuncData
 moved:Addr
 iz:FuncData
 WC:Addr
 qZ:FuncData
 zK:Addr
 iV:FuncData
 O4:Addr
 lB:FuncData
 KO:Addr
 kY:FuncData
 O2:Addr
 kT:FuncData
 Oz:Addr
 j4:FuncData
 IU:Addr
 mL:FuncData
 WA:Addr
 rG:FuncData
 tells:Addr
 i5:FuncData
 wants:Addr
 iF:FuncData
 WR:Addr
 nQ:FuncData
 ZM:Addr
 rg:FuncData
 Ht:Addr
 lG:FuncData
 Xk:Addr
 yU:FuncData
 WB:Addr
 uG:FuncData
 Y1:Addr
 vj:FuncData
 UD:Addr
 vT:FuncData
 Yt:Addr
 vB:FuncData
 WQ:Addr
 yr:FuncData
 YJ:Addr
 xJ:FuncData
 YX:Addr
 tR:FuncData
 ZP:Addr
 y_:FuncData
 taken:Addr
 fQ:FuncData
 X3:Addr
 xC:FuncData
 X4:Addr
 vA:FuncData
 Zs:Addr
 qL:FuncData
 Yo:Addr
 xY:FuncData
 Ww:Addr
 rK:FuncData
 ZV:Addr
 vU:FuncData
 WM:Addr
 wC:FuncData
 Ao:Addr
 iS:FuncData
 Ze:Addr
 uE:FuncData
 YO:Addr
 uB:FuncData
 X7:Addr
 wV:FuncData
 Zw:Addr
 wF:FuncData
 ZT:Addr
 rV:FuncData
 YE:Addr
 vk:FuncData
 Z9:Addr
 x2:FuncData
 Xm:Addr
 yQ:FuncData
 X1:Addr
 sU:FuncData
 Wu:Addr
 xT:FuncData
 Xy:Addr
 xU:FuncData
 YF:Addr
 xy:FuncData
 Zm:Addr
 y0:FuncData
 WO:Addr
 t_:FuncData
 XU:Addr
 xS:FuncData
 Xv:Addr
 sV:FuncData
 Yn:Addr
 sF:FuncData
 ZD:Addr
 yb:FuncData
 Y3:Addr
 yE:FuncData
 XC:Addr
 uf:FuncData
 Zp:Addr
 vM:FuncData
 Xw:Addr
 tQ:FuncData
 XJ:Addr
 yy:FuncData
 WX:Addr
 qR:FuncData
 Zk:Addr
 v_:FuncData
 Yr:Addr
 uC:FuncData
 Zd:Addr
 wg:FuncData
 Xg:Addr
 uQ:FuncData
 XX:Addr
 vI:FuncData
 YV:Addr
 yl:FuncData
 Z0:Addr
 xD:FuncData
 bh:Addr
 aM:Addr
 jE:Addr
 zU:Tok
 zw:Tok
 ff:Addr
 Ap:Addr
 wU:Addr
 iK:Addr
 aH:Addr
 cG:Addr
 aK:Addr
 CY:Addr
 iW:Addr
 AH:Addr
structure Txt(K:Wf)(mg:So)(A:Ad):Prop where
 g0:mg "wrapped" = some (.ref A.ZU)
 fM:keepIn K (.ref A.ZU)=true
 fW:Binds K A.v5 ["number"] []
 Dc:bQ K "wrapped" "wrapped" Nr A.ZU A.v5
 gr:mg "field" = some (.ref A.field)
 fh:keepIn K (.ref A.field)=true
 fy:Binds K A.iH ["word", "low", "many"] []
 kP:bQ K "field" "field" xZ A.field A.iH
 Ih:mg "with_field" = some (.ref A.Yd)
 EF:keepIn K (.ref A.Yd)=true
 Df:Binds K A.sH ["word", "low", "many", "number"] []
 Fc:bQ K "with_field" "with_field" LJ A.Yd A.sH
 Sy:mg "signed" = some (.ref A.YY)
 Ow:keepIn K (.ref A.YY)=true
 Ls:Binds K A.qM ["number", "many"] []
 DB:bQ K "signed" "signed" Jj A.YY A.qM
 RM:mg "turned" = some (.ref A.m9)
 Pm:keepIn K (.ref A.m9)=true
 Ic:Binds K A.yD ["word", "by"] []
 E8:bQ K "turned" "turned" KA A.m9 A.yD
 oH:mg "ones" = some (.ref A.ones)
 jr:keepIn K (.ref A.ones)=true
 jf:Binds K A.jZ ["many"] []
 tN:bQ K "ones" "ones" Bb A.ones A.jZ
 iJ:mg "moved" = some (.ref A.moved)
 gD:keepIn K (.ref A.moved)=true
 gA:Binds K A.iz ["number", "up"] []
 kO:bQ K "moved" "moved" xA A.moved A.iz
 RQ:mg "deed_of" = some (.ref A.WC)
 Lm:keepIn K (.ref A.WC)=true
 Kj:Binds K A.qZ ["word"] []
 Dd:bQ K "deed_of" "deed_of" Pk A.WC A.qZ
 DZ:mg "op_of" = some (.ref A.zK)
 uX:keepIn K (.ref A.zK)=true
 tH:Binds K A.iV ["word"] []
 j0:bQ K "op_of" "op_of" rM A.zK A.iV
 LC:mg "a_of" = some (.ref A.O4)
 B2:keepIn K (.ref A.O4)=true
 BS:Binds K A.lB ["word"] []
 vL:bQ K "a_of" "a_of" Bw A.O4 A.lB
 A9:mg "b_of" = some (.ref A.KO)
 sr:keepIn K (.ref A.KO)=true
 vi:Binds K A.kY ["word"] []
 wJ:bQ K "b_of" "b_of" BI A.KO A.kY
 NR:mg "c_of" = some (.ref A.O2)
 Bq:keepIn K (.ref A.O2)=true
 Bu:Binds K A.kT ["word"] []
 uI:bQ K "c_of" "c_of" AZ A.O2 A.kT
 y3:mg "n_of" = some (.ref A.Oz)
 oM:keepIn K (.ref A.Oz)=true
 nH:Binds K A.j4 ["word"] []
 ud:bQ K "n_of" "n_of" BH A.Oz A.j4
 JC:mg "s_of" = some (.ref A.IU)
 BL:keepIn K (.ref A.IU)=true
 B0:Binds K A.mL ["word"] []
 xN:bQ K "s_of" "s_of" B5 A.IU A.mL
 Sv:mg "of_two_words" = some (.ref A.WA)
 HQ:keepIn K (.ref A.WA)=true
 LM:Binds K A.rG ["deed", "first", "second"] []
 Er:bQ K "of_two_words" "of_two_words" KY A.WA A.rG
 E6:mg "tells" = some (.ref A.tells)
 ue:keepIn K (.ref A.tells)=true
 r8:Binds K A.i5 ["piece"] []
 mM:bQ K "tells" "tells" yT A.tells A.i5
 EX:mg "wants" = some (.ref A.wants)
 uL:keepIn K (.ref A.wants)=true
 uA:Binds K A.iF ["piece"] []
 kx:bQ K "wants" "wants" uU A.wants A.iF
 Rt:mg "names_of" = some (.ref A.WR)
 Fw:keepIn K (.ref A.WR)=true
 Jy:Binds K A.nQ ["pieces"] []
 C2:bQ K "names_of" "names_of" Cv A.WR A.nQ
 Sj:mg "refuse_twice" = some (.ref A.ZM)
 NF:keepIn K (.ref A.ZM)=true
 K6:Binds K A.rg ["ordered"] []
 Fn:bQ K "refuse_twice" "refuse_twice" LU A.ZM A.rg
 Lv:mg "aims" = some (.ref A.Ht)
 B6:keepIn K (.ref A.Ht)=true
 BY:Binds K A.lG ["piece", "names", "fills"] []
 xv:bQ K "aims" "aims" Bo A.Ht A.lG
 RL:mg "aim_by" = some (.ref A.Xk)
 IX:keepIn K (.ref A.Xk)=true
 JY:Binds K A.yU ["piece_name", "own", "names", "fill"] []
 EC:bQ K "aim_by" "aim_by" JF A.Xk A.yU
 zZ:mg "places_told" = some (.ref A.WB)
 qj:keepIn K (.ref A.WB)=true
 qc:Binds K A.uG ["piece", "told_by"] []
 Cu:bQ K "places_told" "places_told" HY A.WB A.uG
 FI:mg "rule_of" = some (.ref A.Y1)
 Av:keepIn K (.ref A.Y1)=true
 AD:Binds K A.vj ["title"] []
 Ek:bQ K "rule_of" "rule_of" Ol A.Y1 A.vj
 SH:keepIn K (.ref A.UD)=true
 Af:Binds K A.vT ["self", "title"] []
 EM:bQ K "__init__" "Rule.__init__" O8 A.UD A.vT
 Mg:keepIn K (.ref A.Yt)=true
 N_:Binds K A.vB ["self", "word", "here", "there"] []
 E_:bQ K "filled" "Whole.filled" MX A.Yt A.vB
 Li:keepIn K (.ref A.WQ)=true
 Hw:Binds K A.yr ["self", "word", "here", "there"] []
 D5:bQ K "filled" "High.filled" NN A.WQ A.yr
 Oh:keepIn K (.ref A.YJ)=true
 Ig:Binds K A.xJ ["self", "word", "here", "there"] []
 DI:bQ K "filled" "Low.filled" O1 A.YJ A.xJ
 Sh:mg "copied_piece" = some (.ref A.YX)
 IL:keepIn K (.ref A.YX)=true
 Pw:Binds K A.tR ["piece"] []
 Dz:bQ K "copied_piece" "copied_piece" LO A.YX A.tR
 S4:mg "copied_fills" = some (.ref A.ZP)
 K1:keepIn K (.ref A.ZP)=true
 Lx:Binds K A.y_ ["fills"] []
 DQ:bQ K "copied_fills" "copied_fills" IA A.ZP A.y_
 El:mg "taken" = some (.ref A.taken)
 lA:keepIn K (.ref A.taken)=true
 uo:Binds K A.fQ ["given", "shelves", "entry"] []
 mS:bQ K "taken" "taken" j8 A.taken A.fQ
 Sw:keepIn K (.ref A.X3)=true
 Lr:Binds K A.xC ["self", "given", "shelves", "entry"] []
 E2:bQ K "__init__" "Taking.__init__" N7 A.X3 A.xC
 HW:keepIn K (.ref A.X4)=true
 NU:Binds K A.vA ["self"] []
 Cs:bQ K "take_for_pieces" "Taking.take_for_pieces" Ki A.X4 A.vA
 Iy:keepIn K (.ref A.Zs)=true
 EL:Binds K A.qL ["self", "name", "by"] []
 Ci:bQ K "take_for" "Taking.take_for" M6 A.Zs A.qL
 Ru:mg "pieces_on" = some (.ref A.Yo)
 MG:keepIn K (.ref A.Yo)=true
 JZ:Binds K A.xY ["shelves"] []
 CM:bQ K "pieces_on" "pieces_on" MY A.Yo A.xY
 Rw:mg "refuse_same_name" = some (.ref A.Ww)
 O_:keepIn K (.ref A.Ww)=true
 Kk:Binds K A.rK ["pieces"] []
 Ef:bQ K "refuse_same_name" "refuse_same_name" M4 A.Ww A.rK
 Ni:mg "first_tellers" = some (.ref A.ZV)
 Ds:keepIn K (.ref A.ZV)=true
 Dh:Binds K A.vU ["pieces"] []
 CL:bQ K "first_tellers" "first_tellers" Nf A.ZV A.vU
 iB:mg "is_word" = some (.ref A.WM)
 gX:keepIn K (.ref A.WM)=true
 g7:Binds K A.wC ["value"] []
 CS:bQ K "is_word" "is_word" KS A.WM A.wC
 x_:mg "is_at" = some (.ref A.Ao)
 mx:keepIn K (.ref A.Ao)=true
 ku:Binds K A.iS ["value"] []
 mF:bQ K "is_at" "is_at" wB A.Ao A.iS
 Sk:mg "at_value" = some (.ref A.Ze)
 MH:keepIn K (.ref A.Ze)=true
 Og:Binds K A.uE ["aimed"] []
 Dj:bQ K "at_value" "at_value" Ik A.Ze A.uE
 DH:mg "copied_value" = some (.ref A.YO)
 AI:keepIn K (.ref A.YO)=true
 AE:Binds K A.uB ["value"] []
 FN:bQ K "copied_value" "copied_value" HI A.YO A.uB
 SA:mg "only_word" = some (.ref A.X7)
 La:keepIn K (.ref A.X7)=true
 Ma:Binds K A.wV ["value"] []
 Ey:bQ K "only_word" "only_word" NV A.X7 A.wV
 NA:mg "moved_on" = some (.ref A.Zw)
 CP:keepIn K (.ref A.Zw)=true
 De:Binds K A.wF ["value", "number"] []
 Cy:bQ K "moved_on" "moved_on" KR A.Zw A.wF
 RY:mg "at_first" = some (.ref A.ZT)
 IW:keepIn K (.ref A.ZT)=true
 KU:Binds K A.rV ["word", "title", "aimed"] []
 EK:bQ K "at_first" "at_first" Pb A.ZT A.rV
 SR:mg "of_two_values" = some (.ref A.YE)
 Ie:keepIn K (.ref A.YE)=true
 JU:Binds K A.vk ["deed", "first", "second"] []
 EE:bQ K "of_two_values" "of_two_values" OY A.YE A.vk
 SK:keepIn K (.ref A.Z9)=true
 Es:Binds K A.x2 ["self", "given", "shelves", "entry", "registers"] []
 D1:bQ K "__init__" "Named.__init__" MA A.Z9 A.x2
 HV:keepIn K (.ref A.Xm)=true
 H_:Binds K A.yQ ["self", "piece", "names"] []
 C7:bQ K "take_in" "Named.take_in" IH A.Xm A.yQ
 ON:keepIn K (.ref A.X1)=true
 z9:Binds K A.sU ["self"] []
 Em:bQ K "go_on" "Named.go_on" HJ A.X1 A.sU
 Ox:keepIn K (.ref A.Wu)=true
 pE:Binds K A.xT ["self"] []
 Fl:bQ K "state" "Named.state" O5 A.Wu A.xT
 Kn:keepIn K (.ref A.Xy)=true
 J8:Binds K A.xU ["self", "value"] []
 CC:bQ K "is_inside" "Named.is_inside" J7 A.Xy A.xU
 Lb:keepIn K (.ref A.YF)=true
 Nb:Binds K A.xy ["self", "value"] []
 E7:bQ K "found" "Named.found" MV A.YF A.xy
 OL:keepIn K (.ref A.Zm)=true
 Kt:Binds K A.y0 ["self", "value"] []
 Eu:bQ K "stretch_of" "Named.stretch_of" JI A.Zm A.y0
 LX:keepIn K (.ref A.WO)=true
 Ot:Binds K A.t_ ["self"] []
 Dp:bQ K "deed_here" "Named.deed_here" Nm A.WO A.t_
 IJ:keepIn K (.ref A.XU)=true
 HS:Binds K A.xS ["self", "word", "aimed"] []
 CD:bQ K "do" "Named.do" OH A.XU A.xS
 HA:keepIn K (.ref A.Xv)=true
 MS:Binds K A.sV ["self", "word", "aimed"] []
 E4:bQ K "sought" "Named.sought" OP A.Xv A.sV
 K_:keepIn K (.ref A.Yn)=true
 LK:Binds K A.sF ["self", "deed", "word", "aimed"] []
 Di:bQ K "result" "Named.result" Nl A.Yn A.sF
 Sr:mg "_law_cell_at" = some (.ref A.ZD)
 ML:keepIn K (.ref A.ZD)=true
 HP:Binds K A.yb ["_law_script", "_law_k"] []
 C9:bQ K "_law_cell_at" "_law_cell_at" Hx A.ZD A.yb
 EY:mg "_law_whole" = some (.ref A.Y3)
 zG:keepIn K (.ref A.Y3)=true
 zp:Binds K A.yE ["_law_found"] []
 FK:bQ K "_law_whole" "_law_whole" IZ A.Y3 A.yE
 O6:mg "_law_value" = some (.ref A.XC)
 Cr:keepIn K (.ref A.XC)=true
 Du:Binds K A.uf ["_law_found", "_law_due"] []
 CT:bQ K "_law_value" "_law_value" Pr A.XC A.uf
 Lw:mg "_law_values" = some (.ref A.Zp)
 Fq:keepIn K (.ref A.Zp)=true
 C5:Binds K A.vM ["_law_found", "_law_due"] []
 Ei:bQ K "_law_values" "_law_values" Pt A.Zp A.vM
 zh:mg "_law_state" = some (.ref A.Xw)
 p_:keepIn K (.ref A.Xw)=true
 pB:Binds K A.tQ ["_law_found", "_law_spot", "_law_row", "_law_told", "_law_ended"] []
 ER:bQ K "_law_state" "_law_state" I_ A.Xw A.tQ
 SI:mg "_law_turned" = some (.ref A.XJ)
 Nu:keepIn K (.ref A.XJ)=true
 NY:Binds K A.yy ["_law_word", "_law_by"] []
 CB:bQ K "_law_turned" "_law_turned" Hs A.XJ A.yy
 RV:mg "_law_bits" = some (.ref A.WX)
 KG:keepIn K (.ref A.WX)=true
 MW:Binds K A.qR ["_law_one", "_law_other", "_law_odd"] []
 DP:bQ K "_law_bits" "_law_bits" Ld A.WX A.qR
 Rz:mg "_law_reckoned" = some (.ref A.Zk)
 Ll:keepIn K (.ref A.Zk)=true
 Nt:Binds K A.v_ ["_law_op", "_law_left", "_law_right", "_law_n"] []
 ES:bQ K "_law_reckoned" "_law_reckoned" Je A.Zk A.v_
 Sg:mg "_law_word_by" = some (.ref A.Yr)
 Ia:keepIn K (.ref A.Yr)=true
 LD:Binds K A.uC ["_law_cell"] []
 FC:bQ K "_law_word_by" "_law_word_by" JE A.Yr A.uC
 RI:mg "_law_filled" = some (.ref A.Zd)
 HH:keepIn K (.ref A.Zd)=true
 Ir:Binds K A.wg ["_law_cells", "_law_skip", "_law_words", "_law_fills"] []
 Eg:bQ K "_law_filled" "_law_filled" K9 A.Zd A.wg
 MK:mg "_law_kept" = some (.ref A.Xg)
 DJ:keepIn K (.ref A.Xg)=true
 EH:Binds K A.uQ ["_law_machine"] []
 CG:bQ K "_law_kept" "_law_kept" Mb A.Xg A.uQ
 SW:mg "_law_held" = some (.ref A.XX)
 Pc:keepIn K (.ref A.XX)=true
 Jt:Binds K A.vI ["_law_machine", "_law_held_here"] []
 DX:bQ K "_law_held" "_law_held" Mm A.XX A.vI
 SX:mg "_law_walked" = some (.ref A.YV)
 NJ:keepIn K (.ref A.YV)=true
 Oi:Binds K A.yl ["_law_machine", "_law_words", "_law_at", "_law_row", "_law_held_here"] []
 Fz:bQ K "_law_walked" "_law_walked" Pe A.YV A.yl
 Yx:mg "law" = some (.ref A.Z0)
 LZ:keepIn K (.ref A.Z0)=true
 SY:Binds K A.xD ["_law_script"] []
 E9:bQ K "law" "law" Io A.Z0 A.xD
 EJ:mg "DEEDS" = some (.ref A.jE)
 SU:∀H:Hp,bB K H A.jE [V.str "end", V.str "tell", V.str "put", V.str "high", V.str "add", V.str "load", V.str "store", V.str "sum", V.str "less", V.str "both", V.str "odd", V.str "turn", V.str "same", V.str "under", V.str "call", V.str "go"]
 zY:mg "WORD_BITS" = some (.int 32 A.zU)
 E3:mg "WORD_COUNT" = some (.int 4294967296 A.zw)
 dJ:mg "ValueError" = none
 m_:mg "bool" = none
 dy:mg "enumerate" = none
 jL:mg "int" = none
 aB:mg "isinstance" = none
 eS:mg "len" = none
 cZ:mg "list" = none
 Ca:mg "max" = none
 cJ:mg "range" = none
 fC:mg "reversed" = none
 Dq:mg "set" = none
 d_:mg "sorted" = none
 zo:mg "str" = none
 iE:mg "tuple" = none
 Dl:mg "zip" = none
 bm:BMod K mg
 Ms:Lam K A.nQ A.bh
 zA:Lam K A.fQ A.aM
 C4:mg "High" = some (.ref A.ff)
 rL:zb K A.ff
 MD:mg "JoinError" = some (.ref A.Ap)
 DV:mg "Lost" = some (.ref A.wU)
 Pf:mg "Low" = some (.ref A.iK)
 BB:zb K A.iK
 BM:mg "Named" = some (.ref A.aH)
 aC:zb K A.aH
 tP:mg "NoSense" = some (.ref A.cG)
 Me:mg "Taking" = some (.ref A.aK)
 bF:zb K A.aK
 JH:mg "Unmet" = some (.ref A.CY)
 N2:mg "Whole" = some (.ref A.iW)
 Bx:zb K A.iW
 NW:mg "WithFill" = some (.ref A.AH)
 U_:zb K A.AH
 VX:kitOne K (.ref A.cG) (.ref A.wU)=some false
 Tj:kitOne K (.ref A.cG) (.ref A.CY)=some false
 Tw:kitOne K (.ref A.cG) (.ref A.cG)=some true
 U9:kitOne K (.ref A.cG) (.type "ValueError")=some true
 Ip:mroIn K A.cG (.ref A.Ap)=some true
 kw:kitOne K (.type "int") (.ref A.AH)=some false
 AW:findIn K (.ref A.cG) "__getattribute__" = some (some (.builtin "BaseException.__getattribute__"))
 BF:findIn K (.ref A.cG) "__getattr__" = some none
 Br:findIn K (.ref A.cG) "__class__" = some (some (.builtin "object.__class__"))
 A6:mroIn K A.cG (.type "object")=some true
 A5:mroIn K A.cG (.type "BaseException")=some true
 J9:specialIn K (.builtin "object.__class__") "__get__" = some (some (.builtin "getset_descriptor.__get__"))
 NS:takesIn K (.builtin "object.__class__")=some true
 yR:excIn K A.cG [.type "ValueError", .type "Exception", .type "BaseException", .type "object"] "ValueError.__new__" = true
 BR:instIn K (.ref A.Ap) (.type "tuple")=some false
 B8:mroIn K A.Ap (.type "BaseException")=some true
 Cp:Mk K A.ff A.UD
 HZ:Mk K A.iK A.UD
 B4:Mk K A.aH A.Z9
 MI:Mk K A.aK A.X3
 Mz:Mk K A.iW A.UD
 Jd:Meth K A.ff "filled" A.WQ
 Jf:Meth K A.iK "filled" A.YJ
 Kd:Meth K A.aH "deed_here" A.WO
 KD:Meth K A.aH "do" A.XU
 Iw:Meth K A.aH "found" A.YF
 sD:Meth K A.aH "go_on" A.X1
 KJ:Meth K A.aH "is_inside" A.Xy
 ID:Meth K A.aH "result" A.Yn
 Mi:Meth K A.aH "sought" A.Xv
 oF:Meth K A.aH "state" A.Wu
 N8:Meth K A.aH "stretch_of" A.Zm
 I0:Meth K A.aH "take_in" A.Xm
 AR:Meth K A.aK "take_for" A.Zs
 Pn:Meth K A.aK "take_for_pieces" A.X4
 HF:Meth K A.iW "filled" A.Yt
 bG:bu K A.aK "pieces"
 cT:bu K A.aK "reasons"
 bE:bu K A.aK "told_by_given"
 bD:bu K A.aK "on_shelves"
 bq:bu K A.aK "from_shelves"
 dQ:bu K A.aK "unmet"
 bH:bu K A.aH "memory"
 bM:bu K A.aH "stretches"
 br:bu K A.aH "place"
 aQ:bu K A.aH "registers"
 cn:bu K A.aH "numbers"
 cx:bu K A.aH "ended"
 fx:bu K A.iW "title"
 eF:bu K A.ff "title"
 dI:bu K A.iK "title"
theorem Ur:ai ["number"] ["number"] (ag Nr):=by walk_at "F"
theorem O3:ai ["word", "low", "many"] ["word", "low", "many"] (ag xZ):=by walk_at "F"
theorem Kf:ai ["word", "low", "many", "number", "others"] ["word", "low", "many", "number"] (ag LJ):=by walk_at "F"
theorem Jk:ai ["number", "many", "half"] ["number", "many"] (ag Jj):=by walk_at "F"
theorem MN:ai ["word", "by", "right"] ["word", "by"] (ag KA):=by walk_at "F"
theorem Qr:ai ["many"] ["many"] (ag Bb):=by walk_at "F"
theorem Mc:ai ["number", "up"] ["number", "up"] (ag xA):=by walk_at "F"
theorem TF:ai ["word"] ["word"] (ag Pk):=by walk_at "F"
theorem JP:ai ["word"] ["word"] (ag rM):=by walk_at "F"
theorem QJ:ai ["word"] ["word"] (ag Bw):=by walk_at "F"
theorem Qj:ai ["word"] ["word"] (ag BI):=by walk_at "F"
theorem Qz:ai ["word"] ["word"] (ag AZ):=by walk_at "F"
theorem Q4:ai ["word"] ["word"] (ag BH):=by walk_at "F"
theorem Ql:ai ["word"] ["word"] (ag B5):=by walk_at "F"
theorem Ti:ai ["deed", "first", "second"] ["deed", "first", "second"] (ag KY):=by walk_at "F"
theorem IV:ai ["piece"] ["piece"] (ag yT):=by walk_at "F"
theorem bV:ai ["piece", "own", "wanted", "kind", "step", "words", "fills", "at", "rule", "name", "add", "soft"] ["piece"] (ag uU):=by walk_at "F"
theorem oa:ai ["pieces", "ordered", "names", "sort", "piece"] ["pieces"] (ag Cv):=by walk_at "F"
theorem nj:ai ["ordered", "tellers", "piece", "name", "twice", "least"] ["ordered"] (ag LU):=by walk_at "F"
theorem Ea:ai ["piece", "names", "fills", "own"] ["piece", "names", "fills"] (ag Bo):=by walk_at "F"
theorem oK:ai ["piece_name", "own", "names", "fill", "name", "add", "soft", "place"] ["piece_name", "own", "names", "fill"] (ag JF):=by walk_at "F"
theorem jc:ai ["piece", "told_by", "places", "name", "sort", "stretch", "offset"] ["piece", "told_by"] (ag HY):=by walk_at "F"
theorem TN:ai ["title"] ["title"] (ag Ol):=by walk_at "F"
theorem V0:ai ["self", "title"] ["self", "title"] (ag O8):=by walk_at "F"
theorem VT:ai ["self", "word", "here", "there"] ["self", "word", "here", "there"] (ag MX):=by walk_at "F"
theorem UI:ai ["self", "word", "here", "there"] ["self", "word", "here", "there"] (ag NN):=by walk_at "F"
theorem Vc:ai ["self", "word", "here", "there"] ["self", "word", "here", "there"] (ag O1):=by walk_at "F"
theorem BG:ai ["piece", "stretches", "names"] ["piece"] (ag LO):=by walk_at "F"
theorem VJ:ai ["fills"] ["fills"] (ag IA):=by walk_at "F"
theorem oJ:ai ["given", "shelves", "entry", "taking", "ordered"] ["given", "shelves", "entry"] (ag j8):=by walk_at "F"
theorem Kg:ai ["self", "given", "shelves", "entry", "on_shelves", "least"] ["self", "given", "shelves", "entry"] (ag N7):=by walk_at "F"
theorem m6:ai ["self", "done", "piece", "name"] ["self"] (ag Ki):=by walk_at "F"
theorem Jx:ai ["self", "name", "by", "piece"] ["self", "name", "by"] (ag M6):=by walk_at "F"
theorem Bn:ai ["shelves", "pieces", "shelf"] ["shelves"] (ag MY):=by walk_at "F"
theorem rZ:ai ["pieces", "seen", "again", "piece"] ["pieces"] (ag M4):=by walk_at "F"
theorem xp:ai ["pieces", "first", "piece", "name"] ["pieces"] (ag Nf):=by walk_at "F"
theorem VM:ai ["value"] ["value"] (ag KS):=by walk_at "F"
theorem Lk:ai ["value"] ["value"] (ag wB):=by walk_at "F"
theorem UM:ai ["aimed"] ["aimed"] (ag Ik):=by walk_at "F"
theorem T_:ai ["value"] ["value"] (ag HI):=by walk_at "F"
theorem Vv:ai ["value"] ["value"] (ag NV):=by walk_at "F"
theorem Vx:ai ["value", "number"] ["value", "number"] (ag KR):=by walk_at "F"
theorem Vn:ai ["word", "title", "aimed"] ["word", "title", "aimed"] (ag Pb):=by walk_at "F"
theorem Tq:ai ["deed", "first", "second"] ["deed", "first", "second"] (ag OY):=by walk_at "F"
theorem uu:ai ["self", "given", "shelves", "entry", "registers", "pieces", "names", "piece"] ["self", "given", "shelves", "entry", "registers"] (ag MA):=by walk_at "F"
theorem eM:ai ["self", "piece", "names", "number", "stretch", "words", "fills", "at", "word", "fill", "aimed"] ["self", "piece", "names"] (ag IH):=by walk_at "F"
theorem NK:ai ["self", "here"] ["self"] (ag HJ):=by walk_at "F"
theorem NX:ai ["self", "registers"] ["self"] (ag O5):=by walk_at "F"
theorem U1:ai ["self", "value"] ["self", "value"] (ag J7):=by walk_at "F"
theorem Th:ai ["self", "value"] ["self", "value"] (ag MV):=by walk_at "F"
theorem Vm:ai ["self", "value"] ["self", "value"] (ag JI):=by walk_at "F"
theorem Kx:ai ["self", "here"] ["self"] (ag Nm):=by walk_at "F"
theorem oq:ai ["self", "word", "aimed", "deed", "a", "first", "after"] ["self", "word", "aimed"] (ag OH):=by walk_at "F"
theorem L_:ai ["self", "word", "aimed", "second"] ["self", "word", "aimed"] (ag OP):=by walk_at "F"
theorem Td:ai ["self", "deed", "word", "aimed"] ["self", "deed", "word", "aimed"] (ag Nl):=by walk_at "F"
theorem TZ:ai ["_law_script", "_law_k"] ["_law_script", "_law_k"] (ag Hx):=by walk_at "F"
theorem VQ:ai ["_law_found"] ["_law_found"] (ag IZ):=by walk_at "F"
theorem Tv:ai ["_law_found", "_law_due"] ["_law_found", "_law_due"] (ag Pr):=by walk_at "F"
theorem Jc:ai ["_law_found", "_law_due", "_law_k"] ["_law_found", "_law_due"] (ag Pt):=by walk_at "F"
theorem U8:ai ["_law_found", "_law_spot", "_law_row", "_law_told", "_law_ended"] ["_law_found", "_law_spot", "_law_row", "_law_told", "_law_ended"] (ag I_):=by walk_at "F"
theorem AX:ai ["_law_word", "_law_by", "_law_k"] ["_law_word", "_law_by"] (ag Hs):=by walk_at "F"
theorem fB:ai ["_law_one", "_law_other", "_law_odd", "_law_found", "_law_power", "_law_k", "_law_both"] ["_law_one", "_law_other", "_law_odd"] (ag Ld):=by walk_at "F"
theorem TV:ai ["_law_op", "_law_left", "_law_right", "_law_n"] ["_law_op", "_law_left", "_law_right", "_law_n"] (ag Je):=by walk_at "F"
theorem AO:ai ["_law_cell", "_law_op"] ["_law_cell"] (ag JE):=by walk_at "F"
theorem ip:ai ["_law_cells", "_law_skip", "_law_words", "_law_fills", "_law_run", "_law_j", "_law_rule", "_law_add", "_law_number"] ["_law_cells", "_law_skip", "_law_words", "_law_fills"] (ag K9):=by walk_at "F"
theorem qJ:ai ["_law_machine", "_law_kept_here", "refusal"] ["_law_machine"] (ag Mb):=by walk_at "F"
theorem KN:ai ["_law_machine", "_law_held_here", "_law_found"] ["_law_machine", "_law_held_here"] (ag Mm):=by walk_at "F"
theorem eJ:ai ["_law_machine", "_law_words", "_law_at", "_law_row", "_law_held_here", "_law_told", "_law_word", "_law_found", "_law_op", "_law_a", "_law_spot", "_law_k"] ["_law_machine", "_law_words", "_law_at", "_law_row", "_law_held_here"] (ag Pe):=by walk_at "F"
theorem cF:ai ["_law_script", "_law_by", "_law_skip", "_law_words", "_law_fills", "_law_run", "_law_row", "_law_stretches", "_law_pieces", "_law_beside", "_law_first", "_law_machine", "_law_held_here", "_law_found", "_law_copy", "_law_k"] ["_law_script"] (ag Io):=by walk_at "F"
theorem cK{CX P w K mg base N qual scope f cd Ar outer s H E}:(jv CX P w K mg base N qual scope f cd Ar outer s H E).K=K:=rfl
theorem bK{scope:Scope}:(F8 X N' scope fp s H).K=X.K:=rfl
theorem Vl{α:Type}{xs:List α}{i:Int}(h1 : -(xs.length:Int)<=i)(h2:i<xs.length):∃v,Az xs i=some v/\v∈xs:=by
 unfold Az CV;by_cases h0:0<=i
 ·have hl:i.toNat<xs.length:=by omega
  refine⟨xs[i.toNat],?_,Se hl⟩;rw[if_pos h0,if_pos h2];show xs[i.toNat]?=_;rw[zR hl]
 ·have hl:(i+xs.length).toNat<xs.length:=by omega
  refine⟨xs[(i+xs.length).toNat],?_,Se hl⟩;rw[if_neg h0,if_pos h1];show xs[(i+xs.length).toNat]?=_;rw[zR hl]
namespace M50
theorem Ac(a b k:Nat):(a &&& b)%2 ^ (k+1)=(a &&& b)%2 ^ k+(if a/2 ^ k%2+b/2 ^ k%2=2 then 2 ^ k else 0):=by
 rw[YZ];have h:(a &&& b)/2 ^ k%2=if a/2 ^ k%2+b/2 ^ k%2=2 then 1 else 0:=by
  rw[Nat.and_div_two_pow];have e:=Nat.and_mod_two_pow (a:=a/2 ^ k) (b:=b/2 ^ k) (n:=1);rw[Nat.pow_one]at e;rw[e];rcases V2 (a/2 ^ k) with h1|h1<;>rcases V2 (b/2 ^ k) with h2|h2<;>rw[h1,h2]<;>rfl
 rw[h];split<;>simp
theorem An(a b k:Nat):(a ^^^ b)%2 ^ (k+1)=(a ^^^ b)%2 ^ k+(if a/2 ^ k%2+b/2 ^ k%2=1 then 2 ^ k else 0):=by
 rw[YZ];have h:(a ^^^ b)/2 ^ k%2=if a/2 ^ k%2+b/2 ^ k%2=1 then 1 else 0:=by
  rw[Nat.xor_div_two_pow];have e:=Nat.xor_mod_two_pow (a:=a/2 ^ k) (b:=b/2 ^ k) (n:=1);rw[Nat.pow_one]at e;rw[e];rcases V2 (a/2 ^ k) with h1|h1<;>rcases V2 (b/2 ^ k) with h2|h2<;>rw[h1,h2]<;>rfl
 rw[h];split<;>simp
noncomputable def gU(w k:Nat):Nat:=w/2 ^ k+w%2 ^ k*2 ^ (32 - k)
theorem GF:gU w 0=w:=by simp[gU,Nat.mod_one]
theorem GD(hk:k<32):gU w (k+1)=gU w k/2+gU w k%2*2147483648:=by
 unfold gU;obtain⟨e,he⟩:∃e,32 - k=e+1:=⟨31 - k,by omega⟩
 have h31:32 - (k+1)=e:=by omega
 have hke:k+e=31:=by omega
 rw[he,h31,Nat.pow_succ,Nat.pow_succ,<-Nat.div_div_eq_div_mul];have hm:w%(2 ^ k*2)=w%2 ^ k+2 ^ k*(w/2 ^ k%2):=by rw[<-Nat.pow_succ,YZ]
 rw[hm];generalize w/2 ^ k=q;generalize w%2 ^ k=r;have h2:(2:Nat) ^ k*2 ^ e=2147483648:=by rw[<-Nat.pow_add,hke]
 have h3:2 ^ k*(q%2)*2 ^ e=q%2*2147483648:=by rw[<-h2,Nat.mul_comm (2 ^ k) (q%2),Nat.mul_assoc]
 rw[Nat.add_mul,h3,<-Nat.mul_assoc];generalize r*2 ^ e=z;omega
theorem QY(hw:w<2 ^ 32)(hk:k<32):((w/2 ^ k) ||| (2 ^ (32 - k)*w))%2 ^ 32=gU w k:=by
 have e:(2:Nat) ^ 32=2 ^ (32 - k)*2 ^ k:=by rw[<-Nat.pow_add];congr 1;omega
 have h1:w/2 ^ k<2 ^ (32 - k):=by rw[Nat.div_lt_iff_lt_mul (Nat.two_pow_pos k),<-e];exact hw
 have h2:2 ^ (32 - k)*w%2 ^ 32=2 ^ (32 - k)*(w%2 ^ k):=by rw[e,Nat.mul_mod_mul_left]
 have h3:w/2 ^ k%2 ^ 32=w/2 ^ k:=Vy (g8 h1 (Wo (by decide) (by omega)));rw[Nat.or_mod_two_pow,h2,h3,Nat.or_comm,<-Nat.two_pow_add_eq_or_of_lt h1,gU,Nat.add_comm,Nat.mul_comm]
end M50
namespace K3
open PySem PySem.W PySem.Calls PyProof.Rows
theorem jy(a i j:Nat):(2 ^ i*a).testBit j=(decide (i<=j)&&a.testBit (j - i)):=by
 have h:=ycd a (b:=0) (i:=i) (Nat.two_pow_pos i) j;rw[Nat.add_zero]at h;rw[h];by_cases c:j<i
 ·simp[c,Nat.not_le.mpr c]
 ·simp[c,Nat.not_lt.mp c]
theorem GV(W l m:Nat):W &&& (2 ^ l*(2 ^ m - 1))=2 ^ l*(W/2 ^ l%2 ^ m):=by
 apply Nat.eq_of_testBit_eq;intro j;rw[Nat.testBit_and,jy,jy,Nat.testBit_two_pow_sub_one,Nat.testBit_mod_two_pow,XM];by_cases c:l<=j
 ·have e:j - l+l=j:=by omega
  simp[c,e,Bool.and_comm]
 ·simp[c]
noncomputable def rest(W l m:Nat):Nat:=2 ^ l*(2 ^ m*(W/2 ^ l/2 ^ m))+W%2 ^ l
theorem rest_eq(W l m:Nat):W=rest W l m+2 ^ l*(W/2 ^ l%2 ^ m):=by
 have h1:=Nat.div_add_mod W (2 ^ l);have h2:=Nat.div_add_mod (W/2 ^ l) (2 ^ m);unfold rest;have h3:2 ^ l*(2 ^ m*(W/2 ^ l/2 ^ m))+2 ^ l*(W/2 ^ l%2 ^ m)=2 ^ l*(W/2 ^ l):=by
  rw[<-Nat.mul_add,h2]
 omega
theorem vZ(W l m j:Nat):(rest W l m).testBit j=if j<l then W.testBit j else (decide (l+m<=j)&&W.testBit j):=by
 unfold rest;rw[ycd _ (Nat.mod_lt _ (Nat.two_pow_pos l))];by_cases c:j<l
 ·simp[c,Nat.testBit_mod_two_pow]
 ·simp only[c,if_false];rw[jy,XM,XM];by_cases d:l+m<=j
  ·have e:j - l+l=j:=by omega
   have d':m<=j - l:=by omega
   simp[d,d',e]
  ·have d':¬m<=j - l:=by omega
   simp[d,d']
theorem Ji(W l m y:Nat)(hy:y<2 ^ m):rest W l m &&& (2 ^ l*y)=0:=by
 apply Nat.eq_of_testBit_eq;intro j;rw[Nat.testBit_and,vZ,jy,Nat.zero_testBit];by_cases c:j<l
 ·have:¬l<=j:=by omega
  simp[this]
 ·by_cases d:l+m<=j
  ·have:y.testBit (j - l)=false:=ycq (g8 hy (Wo (by decide) (by omega)));simp[this]
  ·simp[c,d]
noncomputable def put(W l m y:Nat):Nat:=rest W l m+2 ^ l*y
theorem To(W l m y:Nat)(hy:y<2 ^ m):rest W l m ||| (2 ^ l*y)=put W l m y:=by
 apply Nat.eq_of_testBit_eq;intro j;have e:put W l m y=2 ^ l*(2 ^ m*(W/2 ^ l/2 ^ m)+y)+W%2 ^ l:=by
  unfold put rest;rw[Nat.mul_add];omega
 rw[e,Nat.testBit_or,vZ,jy,ycd _ (Nat.mod_lt _ (Nat.two_pow_pos l)),ycd _ hy];by_cases c:j<l
 ·have:¬l<=j:=by omega
  simp[c,this,Nat.testBit_mod_two_pow]
 ·have c':l<=j:=by omega
  by_cases d:l+m<=j
  ·have z:y.testBit (j - l)=false:=ycq (g8 hy (Wo (by decide) (by omega)));have d':¬(j - l<m):=by omega
   have e:j - l - m+m+l=j:=by omega
   rw[XM,XM];simp[c,c',d,d',z,e]
  ·have d':j - l<m:=by omega
   simp[c,c',d,d']
theorem Tt(W l m y j:Nat)(hy:y<2 ^ m):(put W l m y).testBit j=if l<=j/\j<l+m then y.testBit (j - l) else W.testBit j:=by
 rw[<-To W l m y hy,Nat.testBit_or,vZ,jy];by_cases c:j<l
 ·have:¬l<=j:=by omega
  simp[c,this]
 ·have c':l<=j:=by omega
  by_cases d:l+m<=j
  ·have z:y.testBit (j - l)=false:=ycq (g8 hy (Wo (by decide) (by omega)));have d':¬(j<l+m):=by omega
   simp[c,c',d,d',z]
  ·have d':j<l+m:=by omega
   simp[c,c',d,d']
theorem VN(W l m y:Nat)(hy:y<2 ^ m)(hw:W<2 ^ 32)(h:l+m<=32):put W l m y<2 ^ 32:=by
 apply Nat.lt_pow_two_of_testBit;intro j hj;rw[Tt W l m y j hy];have:¬(l<=j/\j<l+m):=by omega
 simp only[this,if_false];exact ycq (g8 hw (Wo (by decide) hj))
noncomputable def pw(m:Int):Int:=2 ^ m.toNat
theorem pow_pos(k:Nat):(0:Int)<2 ^ k:=Int.pow_pos (by decide)
theorem jd(m:Int):0<pw m:=pow_pos _
theorem iN(k:Nat):((2 ^ k:Nat):Int)=(2:Int) ^ k:=by
 induction k with
 |zero=>rfl
 |succ k ih=>rw[Nat.pow_succ,Int.pow_succ,Int.natCast_mul,ih];rfl
theorem wH(m:Int):pw m=((2 ^ m.toNat:Nat):Int):=(iN _).symm
noncomputable def rP(w l m:Int):Int:=(w.fdiv (pw l)).fmod (pw m)
noncomputable def putF(w l m n:Int):Int:=(put w.toNat l.toNat m.toNat (n.fmod (pw m)).toNat:Nat)
theorem gZ(n m:Int):(n.fmod (pw m)).toNat<2 ^ m.toNat:=by
 have a:=Int.fmod_nonneg_of_pos n (jd m);have b:=Int.fmod_lt_of_pos n (jd m);have c:=wH m;omega
theorem TY(hw:0<=w):
  Builtin.bitOr (Builtin.bitAnd w (Builtin.bitNot ((pw m - 1)*pw l))) (n.fmod (pw m)*pw l)=putF w l m n:=by
 have a:=Int.fmod_nonneg_of_pos n (jd m);have hy:=gZ n m;have pm:=jd m;have pl:=jd l;have e1:Builtin.bitAnd w ((pw m - 1)*pw l)=((2 ^ l.toNat*(w.toNat/2 ^ l.toNat%2 ^ m.toNat):Nat):Int):=by
  have z:0<=(pw m - 1)*pw l:=Int.mul_nonneg (by omega) (by omega);have t:((pw m - 1)*pw l).toNat=2 ^ l.toNat*(2 ^ m.toNat - 1):=by
   have c1:=wH m;have c2:=wH l;have c3:pw m - 1=((2 ^ m.toNat - 1:Nat):Int):=by
    have:=Nat.two_pow_pos m.toNat;omega
   rw[c3,c2,<-Int.natCast_mul,Ho,Nat.mul_comm]
  rw[bitAnd_pp hw z,t,GV]
 have e2:Builtin.bitAnd w (Builtin.bitNot ((pw m - 1)*pw l))=(rest w.toNat l.toNat m.toNat:Nat):=by
  rw[bitAnd_not,e1];have:=rest_eq w.toNat l.toNat m.toNat;omega
 have e3:n.fmod (pw m)*pw l=((2 ^ l.toNat*(n.fmod (pw m)).toNat:Nat):Int):=by
  rw[Int.natCast_mul,<-wH l,Int.toNat_of_nonneg a,Int.mul_comm]
 have e4:Builtin.bitAnd ((rest w.toNat l.toNat m.toNat:Nat):Int) ((2 ^ l.toNat*(n.fmod (pw m)).toNat:Nat):Int)=0:=by
  rw[bitAnd_pp (by omega) (by omega),Ho,Ho,Ji _ _ _ _ hy];rfl
 rw[e2,e3,bitOr_and,e4,Int.sub_zero];unfold putF put;rw[Int.natCast_add]
theorem g_(hw:0<=w)(hw1:w<=4294967295)(hl:0<=l)(hm:0<=m)(hlm:l+m<=32):0<=putF w l m n/\putF w l m n<=4294967295:=by
 have h:=VN w.toNat l.toNat m.toNat (n.fmod (pw m)).toNat (gZ n m) (by omega) (by omega);unfold putF;omega
noncomputable def g6(m:Int):Int:=pw m - 1
theorem Qa(h:a<=b):(2:Int) ^ a<=2 ^ b:=by
 have:=Wo (show 0<2 by decide) h;rw[<-iN,<-iN];omega
theorem By(m:Int)(h:m<=32):0<=g6 m/\g6 m<=4294967295:=by
 have a:=jd m;have b:pw m<=4294967296:=by
  have:=Qa (a:=m.toNat) (b:=32) (by omega);unfold pw;have e:(2:Int) ^ 32=4294967296:=by decide
  omega
 unfold g6;omega
noncomputable def bR(n up:Int):Int:=if up<0 then n.fdiv (pw (-up)) else n*pw up
theorem Bt(h:up<0):n.fdiv (2 ^ (-up).toNat)=bR n up:=by
 unfold bR;rw[if_pos h];rfl
theorem M3(h:¬up<0):n*2 ^ up.toNat=bR n up:=by
 unfold bR;rw[if_neg h];rfl
theorem Rg(h:k=m\/(m<=0/\k=0)):(1:Int)*2 ^ k.toNat - 1=g6 m:=by
 have e:k.toNat=m.toNat:=by omega
 rw[e,Int.one_mul];rfl
theorem KL(hr:r=Builtin.bitAnd (bR w (-l)) (g6 m))(h:0<=l):r=rP w l m:=by
 have e:bR w (-l)=w.fdiv (pw l):=by
  unfold bR;by_cases c:l=0
  ·subst c;rw[if_neg (by decide)];show w*1=w.fdiv 1;rw[Int.fdiv_one,Int.mul_one]
  ·rw[if_pos (by omega),Int.neg_neg]
 rw[hr,e];show Builtin.bitAnd (w.fdiv (pw l)) (2 ^ m.toNat - 1)=_;rw[kbt_maskF];rfl
theorem Rl(hr:r=Builtin.bitAnd n (g6 m))(hw:0<=w)(hw1:w<=4294967295)(hl:0<=l)(hm:1<=m)(hlm:l+m<=32):
  (Builtin.bitOr (Builtin.bitAnd w (Builtin.bitNot (bR (g6 m) l))) (bR r l)).fmod 4294967296=putF w l m n:=by
 have e1:bR (g6 m) l=(pw m - 1)*pw l:=by
  unfold bR;rw[if_neg (by omega)];rfl
 have e2:r=n.fmod (pw m):=by
  rw[hr];show Builtin.bitAnd n (2 ^ m.toNat - 1)=_;rw[kbt_maskF];rfl
 have e3:bR r l=n.fmod (pw m)*pw l:=by
  unfold bR;rw[if_neg (by omega),e2]
 rw[e1,e3,TY hw];have:=g_ (n:=n) hw hw1 hl (by omega) hlm;rw[V7 _ (by decide)];omega
noncomputable def sg(n m:Int):Int:=(n+pw (m - 1)).fmod (pw m) - pw (m - 1)
theorem S7(h:1<=m):Builtin.bitAnd (n+bR 1 (m - 1)) (g6 m) - bR 1 (m - 1)=sg n m:=by
 have e:bR 1 (m - 1)=pw (m - 1):=by
  unfold bR;rw[if_neg (by omega),Int.one_mul]
 rw[e];show Builtin.bitAnd (n+pw (m - 1)) (2 ^ m.toNat - 1) - pw (m - 1)=_;rw[kbt_maskF];rfl
theorem Yh(k:Nat)(v:Int)(h:(2:Int) ^ k=v):pw (k:Int)=v:=by
 unfold pw;rw[Int.toNat_natCast];exact h
theorem f7(w:Int)(l m:Nat)(a b:Int)(ha:(2:Int) ^ l=a)(hb:(2:Int) ^ m=b):rP w l m=(w/a)%b:=by
 have pa:=pow_pos l;have pb:=pow_pos m;unfold rP;rw[Yh l a ha,Yh m b hb,Xs _ (by omega),V7 _ (by omega)]
theorem W4(n:Int)(m:Nat)(a b:Int)(hb:(2:Int) ^ (m+1)=b)(ha:(2:Int) ^ m=a):sg n ((m+1:Nat):Int)=(n+a)%b - a:=by
 have pb:=pow_pos (m+1);unfold sg;have e:(((m+1:Nat):Int) - 1)=(m:Int):=by omega
 rw[e,Yh m a ha,Yh (m+1) b hb,V7 _ (by omega)]
theorem Ux(w n:Int)(l m:Nat)(a b:Int)(ha:(2:Int) ^ l=a)(hb:(2:Int) ^ m=b)(hw:0<=w):putF w l m n=a*(b*(w/a/b))+w%a+a*(n%b):=by
 have pa:=pow_pos l;have pb:=pow_pos m;unfold putF put rest;rw[Yh m b hb,Ho,Ho];have z:=Int.emod_nonneg n (show b≠0 by omega);rw[V7 _ (by omega)];simp only[Int.natCast_add,Int.natCast_mul,Int.natCast_ediv,Int.natCast_emod,iN,ha,hb];rw[Int.toNat_of_nonneg hw,Int.toNat_of_nonneg z]
end K3
def Uz:Sp:=λvs H Q _=>∃n:Int,vs=[.int n]/\Q (.int (n%4294967296)) H
def Oc:Sp:=λvs H Q _=>∃n u:Int,vs=[.int n,.int u]/\0<=n/\n<=4294967296/\u<=100/\Q (.int (K3.bR n u)) H
def QO:Sp:=λvs H Q _=>∃m:Int,vs=[.int m]/\0<=m/\m<=32/\Q (.int (K3.g6 m)) H
def JW:Sp:=λvs H Q _=>∃a l m:Int,vs=[.int a,.int l,.int m]/\0<=a/\a<=4294967295/\0<=l/\l<=31/\1<=m/\m<=32/\Q (.int (K3.rP a l m)) H
def Uk:Sp:=λvs H Q _=>∃n m:Int,vs=[.int n,.int m]/\1<=m/\m<=32/\Q (.int (K3.sg n m)) H
noncomputable def jD(w b:Int):Int:=(Builtin.bitOr (w/2 ^ (b%32).toNat) (w*2 ^ (32 - b%32).toNat))%4294967296
def TQ:Sp:=λvs H Q _=>∃n b:Int,vs=[.int n,.int b]/\0<=n/\n<=4294967295/\Q (.int (jD n b)) H
def nS(d m:Int):Sp:=λvs H Q _=>∃a:Int,vs=[.int a]/\0<=a/\a<=4294967295/\Q (.int (a/d%m)) H
noncomputable def sE(a:Int):Int:=(a%65536+32768)%65536 - 32768
def aaO:Sp:=λvs H Q _=>∃a:Int,vs=[.int a]/\0<=a/\a<=4294967295/\Q (.int (sE a)) H
def Words(rs:List Int):Prop:=∀r∈rs,0<=r/\r<=4294967295
noncomputable def iq(op one other word:Int):Int:=if op=2 then word%65536 else if op=3 then word%65536*65536%4294967296 else if op=4 then (one+sE word)%4294967296 else if op=7 then (one+other)%4294967296 else if op=8 then (one - other)%4294967296
 else if op=9 then Builtin.bitAnd one other else if op=10 then Builtin.bitXor one other else jD one other
def xI(op:Int):Prop:=op=2\/op=3\/op=4\/op=7\/op=8\/op=9\/op=10\/op=11
noncomputable def cu(w:Int):Int:=w/268435456%16
noncomputable def eI(w d:Int):Nat:=(w/d%8).toNat
noncomputable def YH:List Str:=["end", "tell", "put", "high", "add", "load", "store", "sum", "less", "both", "odd", "turn", "same", "under", "call", "go"]
noncomputable def As(n:Nat):Str:=YH.getD n ""
noncomputable def dW(w:Int):Str:=As (cu w).toNat
def QM:Sp:=λvs H Q _=>∃a:Int,vs=[.int a]/\0<=a/\a<=4294967295/\Q (.str (dW a)) H
def ED(op:Int):Prop:=op=7\/op=8\/op=9\/op=10\/op=11
def Um:Sp:=λvs H Q _=>∃word one other:Int,vs=[.str (dW word),.int one,.int other]/\ED (cu word)/\0<=one/\one<=4294967295/\Q (.int (iq (cu word) one other word)) H
def PR:Sp:=λvs H Q _=>∃a l m n:Int,vs=[.int a,.int l,.int m,.int n]/\0<=a/\a<=4294967295/\0<=l/\l<=31/\1<=m/\l+m<=32/\Q (.int (K3.putF a l m n)) H
def U0(C:Addr)(z:Str)(H:Hp)(p:Addr):Prop:=∃dx,H p=some (.ins C dx [("title", .str z)])
def RC(A:Ad)(C:Addr):Prop:=C=A.iW\/C=A.ff\/C=A.iK
def RCs(A:Ad)(z:Str)(C:Addr):Prop:=(z=Str.ofString "whole" /\ C=A.iW)\/(z=Str.ofString "high" /\ C=A.ff)\/(z=Str.ofString "low" /\ C=A.iK)
def QN(z:Str):Prop:=z=Str.ofString "whole" \/ z=Str.ofString "high" \/ z=Str.ofString "low"
def IB(A:Ad):Sp:=λvs H Q _=>∃(p dx C:Addr) (x:V),vs=[.ref p,x]/\H p=some (.ins C dx [])/\RC A C/\Q .bI (upd H p (.ins C dx [("title", x)]))
def Q3(A:Ad):Sp:=λvs H Q _=>∃z:Str,vs=[.str z]/\QN z/\∀C,RCs A z C->∀p H',aL H H'->U0 C z H' p->Q (.ref p) H'
noncomputable def dt(r:Str)(w t:Int):Int:=if r=Str.ofString "whole" then t%4294967296 else if r=Str.ofString "high" then K3.putF w 0 16 ((t+32768)/65536) else K3.putF w 0 16 t
def Qo:Sp:=λvs H Q _=>∃(v:V) (a h t:Int),vs=[v,.int a,.int h,.int t]/\Q (.int (t%4294967296)) H
def Qn:Sp:=λvs H Q _=>∃(v:V) (a h t:Int),vs=[v,.int a,.int h,.int t]/\0<=a/\a<=4294967295/\Q (.int (K3.putF a 0 16 ((t+32768)/65536))) H
def QE:Sp:=λvs H Q _=>∃(v:V) (a h t:Int),vs=[v,.int a,.int h,.int t]/\0<=a/\a<=4294967295/\Q (.int (K3.putF a 0 16 t)) H
structure aA where
 name:Str
 t:Addr
 a:Str
 b:Int
 c:Int
noncomputable def aA.kv(m:aA):Key×V:=(.inr m.name,.ref m.t)
def aA.At(H:Hp)(m:aA):Prop:=H m.t=some (.tup [.str m.a,.int m.b,.int m.c])
structure Tab(H:Hp)(d:Addr)(ms:List aA):Prop where
 top:H d=some (.dK (ms.map aA.kv))
 at_:∀m∈ms,aA.At H m
noncomputable def aP(ms:List aA)(z:Str):Option aA:=ms.find? λm=>decide (m.name=z)
noncomputable def eU(ms:List aA)(m:aA):List aA:=if (ms.any λn=>decide (n.name=m.name))=true then ms.map (λn=>if n.name=m.name then m else n) else ms++[m]
theorem Rp(ms:List aA)(z:Str):aO (ms.map aA.kv) (.inr z)=(aP ms z).map λm=>V.ref m.t:=by
 unfold aO aP;rw[Wh,Option.map_map];congr 1;congr 1;funext m;simp[aA.kv]
theorem Up(ms:List aA)(z:Str):((ms.map aA.kv).any λkv=>decide (kv.1=(.inr z:Key)))=ms.any λn=>decide (n.name=z):=by
 rw[List.any_map];congr 1;funext m;simp[aA.kv]
theorem OK(ms:List aA)(m:aA):putK (ms.map aA.kv) (.inr m.name) (.ref m.t)=(eU ms m).map aA.kv:=by
 unfold putK eU;rw[Up];by_cases h:(ms.any λn=>decide (n.name=m.name))=true
 ·rw[if_pos h,if_pos h,gS,gS];congr 1;funext n;by_cases e:n.name=m.name
  ·simp[aA.kv,e]
  ·simp[aA.kv,e]
 ·rw[if_neg h,if_neg h,eA];rfl
theorem ze(h:n∈eU ms m):n∈ms\/n=m:=by
 unfold eU at h;split at h
 ·obtain⟨x,hx,e⟩:=cC.mp h;split at e
  ·exact .inr e.symm
  ·exact .inl (e▸hx)
 ·rcases fY.mp h with z|z
  ·exact .inl z
  ·exact .inr (fN.mp z)
theorem Ju:(eU ms m).length<=ms.length+1:=by
 unfold eU;split
 ·rw[aS];omega
 ·rw[ij];simp
theorem Oo(h:m.name∉ms.map aA.name):eU ms m=ms++[m]:=by
 unfold eU;rw[if_neg];intro z;obtain⟨n,hn,e⟩:=G0.mp z;exact h (cC.mpr ⟨n,hn,of_decide_eq_true e⟩)
theorem Tab.mono{H H':Hp}{d:Addr}{ms:List aA}(h:Tab H d ms)(e:aL H H'):Tab H' d ms:=⟨e _ _ h.top,λm hm=>e _ _ (h.at_ m hm)⟩
theorem Tab.put{H:Hp}{d:Addr}{ms:List aA}{m:aA}(h:Tab H d ms)(hm:aA.At H m):Tab (upd H d (.dK (putK (ms.map aA.kv) (.inr m.name) (.ref m.t)))) d (eU ms m):=by
 refine⟨by rw[aJ,OK],λn hn=>?_⟩;have tup:∀n:aA,aA.At H n->aA.At (upd H d (.dK (putK (ms.map aA.kv) (.inr m.name) (.ref m.t)))) n:=λn hn=>by
  unfold aA.At;rw[ae (aR hn h.top (by intro z;cases z))];exact hn
 rcases ze hn with z|z
 ·exact tup n (h.at_ n z)
 ·rw[z];exact tup m hm
noncomputable def eV:Str:=Str.ofString "own"
noncomputable def iX(p:aD)(ms:List aA)(f:aq):Option (Str×Int×Int):=
 match p.bL.find? λn=>decide (n.name=f.name)&&decide (n.sort=eV) with
 |some n=>some (p.name,n.st,n.off)
 |none=>(aP ms f.name).map λm=>(m.a,m.b,m.c)
noncomputable def YC(a:Str)(b c:Int):HO:=.tup [.str a,.int b,.int c]
def FU:Sp:=λvs H Q _=>∃(p:aD) (z:Str),vs=[p.v,.str z]/\p.At H/\p.bL.length<=61/\(p.bL.map ax.name).Nodup/\
 ∀d ms H',aL H H'->Tab H' d ms->ms.map (λm=>(m.name,m.a,m.b,m.c))=(p.bL.filter λn=>decide (n.sort=z)).map (λn=>(n.name,p.name,n.st,n.off))->H d=none->Q (.ref d) H'
structure PL(H:Hp)(L:Addr)(ps:List aD):Prop where
 top:H L=some (.lst (ps.map aD.v))
 at_:∀p∈ps,p.At H
noncomputable def dD:Str:=Str.ofString "tell"
noncomputable def dX:Str:=Str.ofString "weak"
noncomputable def fH(ps:List aD):List (Str×ax):=ps.flatMap λp=>p.bL.map λn=>(p.name,n)
noncomputable def Xd(r:Str×ax):Str×Int×Int:=(r.1,r.2.st,r.2.off)
noncomputable def aA.vl(m:aA):Str×Int×Int:=(m.a,m.b,m.c)
def leN(a b:Str):Prop:=¬b.cps.toList<a.cps.toList
structure Qd(R:List (Str×ax))(ms:List aA):Prop where
 nd:(ms.map aA.name).Nodup
 som:∀z m,aP ms z=some m->(∃r∈R,r.2.name=z/\r.2.sort=dD/\aA.vl m=Xd r)\/((∀r∈R,r.2.name=z->r.2.sort≠dD)/\∃r∈R,r.2.name=z/\r.2.sort=dX/\aA.vl m=Xd r/\∀r'∈R,r'.2.name=z->r'.2.sort=dX->leN r.1 r'.1)
 bI:∀z,aP ms z=none->∀r∈R,r.2.name=z->r.2.sort≠dD/\r.2.sort≠dX
structure Ye(ps:List aD):Prop where
 gq:ps.length<=14
 nd:(ps.map aD.name).Nodup
 bL:∀p∈ps,p.bL.length<=61/\(p.bL.map ax.name).Nodup
 tw:ps.Pairwise λp q=>∀x∈p.bL,∀y∈q.bL,x.sort=dD->y.sort=dD->x.name≠y.name
def GU:Sp:=λvs H Q _=>∃(L:Addr) (ps:List aD),vs=[.ref L]/\PL H L ps/\Ye ps/\∀H',aL H H'->Q .bI H'
noncomputable def GS:Pos:=⟨98,33,98,55⟩
noncomputable def Gy:Str:=(Str.ofString "names_of" ++ Str.ofString ".<locals>.")++Str.ofString "<lambda>"
def B7(A:Ad):Sp:=λvs H Q _=>∃(L:Addr) (ps:List aD),vs=[.ref L]/\PL H L ps/\Ye ps/\eP A.bh GS Gy H/\
 ∀(d:Addr) (ms:List aA) (H':Hp),iO A.bh H H'->eP A.bh GS Gy H'->Tab H' d ms->Qd (fH ps) ms->H d=none->Q (.ref d) H'
noncomputable def iZ(p:aD):List Str:=(p.bL.filter λn=>decide (n.sort≠eV)).map ax.name
noncomputable def eL(p:aD)(z:Str):Bool:=p.bL.any λn=>decide (n.name=z)&&decide (n.sort=eV)
noncomputable def addW(W:List Str)(y:Str):List Str:=if y∈W then W else W++[y]
noncomputable def kQ(y:Str):Key×V:=(.inr y,.bl true)
noncomputable def gj(p:aD)(W:List Str)(f:aq):List Str:=if (!f.soft && !eL p f.name)=true then addW W f.name else W
noncomputable def aV(ss:List bJ):List aq:=ss.flatMap bJ.fills
noncomputable def jG(p:aD):List Str:=(aV p.bW).foldl (gj p) []
def Ay(l:Addr)(N:List Str)(H:Hp):Prop:=∃ss:List Str,ss.Perm N/\ss.Pairwise GN/\H l=some (.lst (ss.map V.str))
structure RZ(p:aD):Prop where
 nm:p.bL.length<=61
 st:p.bW.length<=61
 ss:∀s∈p.bW,s.words.length<=70/\s.fills.length<=70
 fl:(aV p.bW).length<=70
 wn:(jG p).length<=61
 nd:(p.bL.map ax.name).Nodup
def OW:Sp:=λvs H Q _=>∃p:aD,vs=[p.v]/\p.At H/\RZ p/\∀l H',aL H H'->Ay l (iZ p) H'->H l=none->Q (.ref l) H'
def JD:Sp:=λvs H Q _=>∃p:aD,vs=[p.v]/\p.At H/\RZ p/\∀l H',aL H H'->Ay l (jG p) H'->H l=none->Q (.ref l) H'
noncomputable abbrev Co:=Str×List ax×List (Str×Int×List Int×List aq)
noncomputable def ax.e(n:ax):ax:={ n with a:=0 }
noncomputable def aq.e(f:aq):aq:={ f with a:=0 }
noncomputable def bJ.e(s:bJ):Str×Int×List Int×List aq:=(s.kind,s.step,s.words,s.fills.map aq.e)
noncomputable def ba(p:aD):Co:=(p.name,p.bL.map ax.e,p.bW.map bJ.e)
noncomputable def gm(z:Str)(c:Co):Bool:=c.2.1.any λn=>decide (n.name=z) && !decide (n.sort=eV)
noncomputable def K5(z:Str)(c:Co):Bool:=c.2.1.any λn=>decide (n.name=z)&&decide (n.sort=eV)
noncomputable def dS(z:Str)(c:Co):Bool := !K5 z c&&c.2.2.any λs=>s.2.2.2.any λf=>decide (f.name=z) && !f.soft
noncomputable def eg(cs:List Co)(z:Str):Option Co:=cs.find? (gm z)
noncomputable def dE(ps:List aD)(z:Str):Option aD:=ps.find? λp=>gm z (ba p)
structure CJ(G S:List Co)(e:Str)(T:List Co)(rs:List (Str×Str×Str)):Prop where
 nd:(T.map (·.1)).Nodup
 sub:∀p∈T,p∈S
 len:rs.map (·.1)=T.map (·.1)
 abo:∀(i:Nat) (p:Co) (r:Str×Str×Str),T[i]?=some p->rs[i]?=some r->eg G r.2.1=none/\eg S r.2.1=some p/\(r.2.2=Str.ofString "" /\ r.2.1=e\/∃q∈G++T.take i,q.1=r.2.2/\dS r.2.1 q=true)
def nV(G S T:List Co)(z:Str):Prop:=(eg G z).isSome=true\/∃p∈T,eg S z=some p
def J5(G S:List Co)(e:Str)(T:List Co):Prop:=nV G S T e/\∀q∈G++T,∀z,dS z q=true->nV G S T z
def UE(G S:List Co)(z:Str):Prop:=(eg G z).isSome=true\/(eg S z).isSome=true
structure XW(G S:List aD)(e:Str):Prop where
 gq:(G++S).length<=14
 bnd:∀p∈G++S,RZ p
 nd:((G++S).map aD.name).Nodup
 ent:UE (G.map ba) (S.map ba) e
 met:∀p∈G++S,∀z,dS z (ba p)=true->UE (G.map ba) (S.map ba) z
structure Shv(H:Hp)(S:Addr)(xs:List (Addr×List aD)):Prop where
 top:H S=some (.lst (xs.map λx=>V.ref x.1))
 at_:∀x∈xs,PL H x.1 x.2
noncomputable def flat(xs:List (Addr×List aD)):List aD:=xs.flatMap (·.2)
def Xz:Sp:=λvs H Q _=>∃(S:Addr) (xs:List (Addr×List aD)),vs=[.ref S]/\Shv H S xs/\(flat xs).length<=100/\∀(l:Addr) (H':Hp),aL H H'->H l=none->H' l=some (.lst ((flat xs).map aD.v))->Q (.ref l) H'
def F1:Sp:=λvs H Q _=>∃(L:Addr) (ps:List aD),vs=[.ref L]/\PL H L ps/\ps.length<=100/\(ps.map aD.name).Nodup/\∀H',aL H H'->Q .bI H'
def FtD(H:Hp)(d:Addr)(ps:List aD):Prop:=∃kvs:List (Key×V),H d=some (.dK kvs)/\∀z,aO kvs (.inr z)=(dE ps z).map aD.v
def Jv:Sp:=λvs H Q _=>∃(L:Addr) (ps:List aD),vs=[.ref L]/\PL H L ps/\ps.length<=14/\(∀p∈ps,RZ p)/\∀(d:Addr) (H':Hp),aL H H'->H d=none->FtD H' d ps->Q (.ref d) H'
structure jb where
 x:Addr
 dx:Addr
 lp:Addr
 lr:Addr
 dg:Addr
 ds:Addr
 df:Addr
 du:Addr
noncomputable def jb.attrs(t:jb):List (Str×V):=putF (Str.ofString "unmet") (.ref t.du) (putF (Str.ofString "from_shelves") (.ref t.df) (putF (Str.ofString "on_shelves") (.ref t.ds) (putF (Str.ofString "told_by_given") (.ref t.dg) (putF (Str.ofString "reasons") (.ref t.lr) (putF (Str.ofString "pieces") (.ref t.lp) [])))))
noncomputable abbrev Pz:=Addr×Str×Str×Str
structure Bk(C:Addr)(H:Hp)(t:jb)(G S T:List aD)(rs:List Pz):Prop where
 top:H t.x=some (.ins C t.dx t.attrs)
 lp:H t.lp=some (.lst ((G++T).map aD.v))
 lr:H t.lr=some (.lst (rs.map λr=>V.ref r.1))
 rs:∀r∈rs,H r.1=some (.tup [.str r.2.1,.str r.2.2.1,.str r.2.2.2])
 dg:FtD H t.dg G
 ds:FtD H t.ds S
 df:H t.df=some (.dK ((T.map aD.name).map kQ))
 du:H t.du=some (.dK [])
 at_:∀p∈G++S,p.At H/\t.lp∉p.lists/\t.lr∉p.lists
 ne:t.lp≠t.lr
 nf:t.dg≠t.df/\t.ds≠t.df/\t.du≠t.df
 sub:∀p∈T,p∈S
def QL(t:jb)(H H':Hp):Prop:=∀b o,b≠t.lp->b≠t.lr->b≠t.df->H b=some o->H' b=some o
def Bc(C:Addr):Sp:=λvs H Q _=>∃(t:jb) (z b e:Str) (G S T:List aD) (rs:List Pz),vs=[.ref t.x,.str z,.str b]/\Bk C H t G S T rs/\XW G S e/\UE (G.map ba) (S.map ba) z/\CJ (G.map ba) (S.map ba) e (T.map ba) (rs.map (·.2))/\(b=Str.ofString "" /\ z=e\/∃q∈G++T,q.name=b/\dS z (ba q)=true)/\
 ∀(T':List aD) (rs':List Pz) (H':Hp),Bk C H' t G S (T++T') rs'->QL t H H'->CJ (G.map ba) (S.map ba) e ((T++T').map ba) (rs'.map (·.2))->nV (G.map ba) (S.map ba) ((T++T').map ba) z->Q .bI H'
def U7(C:Addr):Sp:=λvs H Q _=>∃(t:jb) (e:Str) (G S T:List aD) (rs:List Pz),vs=[.ref t.x]/\Bk C H t G S T rs/\XW G S e/\CJ (G.map ba) (S.map ba) e (T.map ba) (rs.map (·.2))/\nV (G.map ba) (S.map ba) (T.map ba) e/\
 ∀(T':List aD) (rs':List Pz) (H':Hp),Bk C H' t G S T' rs'->QL t H H'->CJ (G.map ba) (S.map ba) e (T'.map ba) (rs'.map (·.2))->J5 (G.map ba) (S.map ba) e (T'.map ba)->Q .bI H'
def TkP(H:Hp)(g s:Addr)(e:Str)(G:List aD)(xs:List (Addr×List aD)):Prop:=PL H g G/\Shv H s xs/\XW G (flat xs) e
def F0(C:Addr):Sp:=λvs H Q _=>∃(x dx g s:Addr) (e:Str) (G:List aD) (xs:List (Addr×List aD)),vs=[.ref x,.ref g,.ref s,.str e]/\H x=some (.ins C dx [])/\TkP H g s e G xs/\
 ∀(t:jb) (T:List aD) (rs:List Pz) (H':Hp),t.x=x->Bk C H' t G (flat xs) T rs->(∀b o,b≠x->H b=some o->H' b=some o)->H t.lp=none->H t.lr=none->CJ (G.map ba) ((flat xs).map ba) e (T.map ba) (rs.map (·.2))->J5 (G.map ba) ((flat xs).map ba) e (T.map ba)->Q .bI H'
noncomputable def Y7:Pos:=⟨222,40,222,62⟩
noncomputable def ZF:Str:=(Str.ofString "taken" ++ Str.ofString ".<locals>.")++Str.ofString "<lambda>"
def F2:Sp:=λvs H Q _=>∃(l:Addr) (fs:List aq),vs=[.ref l]/\H l=some (.lst (fs.map aq.v))/\(∀f∈fs,f.At H)/\fs.length<=71/\∀(l':Addr) (gs:List aq) (H':Hp),aL H H'->H l'=none->H' l'=some (.lst (gs.map aq.v))->(∀f∈gs,f.At H')->gs.map aq.e=fs.map aq.e->Q (.ref l') H'
def Gj:Sp:=λvs H Q _=>∃p:aD,vs=[p.v]/\p.At H/\p.bW.length<=62/\p.bL.length<=62/\(∀s∈p.bW,s.fills.length<=71)/\∀(q:aD) (H':Hp),aL H H'->q.At H'->ba q=ba p->(∀b∈q.lists,H b=none)->q.lists.Nodup->Q q.v H'
def KI(A:Ad):Sp:=λvs H Q _=>∃(g s:Addr) (e:Str) (G:List aD) (xs:List (Addr×List aD)),vs=[.ref g,.ref s,.str e]/\TkP H g s e G xs/\eP A.aM Y7 ZF H/\
 ∀(l:Addr) (T:List Co) (rs:List (Str×Str×Str)) (qs:List aD) (H':Hp),iO A.aM H H'->eP A.aM Y7 ZF H'->oO H' l qs->(∀b∈l::bC qs,H b=none)->CJ (G.map ba) ((flat xs).map ba) e T rs->J5 (G.map ba) ((flat xs).map ba) e T->(qs.map ba).Perm (G.map ba++T)->(qs.map aD.name).Pairwise GN->Q (.ref l) H'
def fc(H H':Hp):Prop:=∀b o,((∃xs,o=.lst xs)\/∃xs,o=.tup xs)->H b=some o->H' b=some o
def F9:Sp:=λvs H Q _=>∃(pn:Str) (dO dN:Addr) (f:aq) (mo mn:List aA),vs=[.str pn,.ref dO,.ref dN,f.v]/\f.At H/\Tab H dO mo/\Tab H dN mn/\
 (∀m,((aP mo f.name).or (aP mn f.name))=some m->∀q,H q=none->Q (.ref q) (upd H q (YC m.a m.b (m.c+f.add))))/\((aP mo f.name).or (aP mn f.name)=none->f.soft=true/\Q (.int (f.add%4294967296)) H)
def QH(H:Hp)(p:aD)(mn:List aA)(f:aq)(v:V):Prop:=(∃a b c q,iX p mn f=some (a,b,c)/\v=.ref q/\H q=some (YC a b (c+f.add)))\/(iX p mn f=none/\v=.int (f.add%4294967296))
def J6:Sp:=λvs H Q _=>∃(p:aD) (dN l:Addr) (fs:List aq) (mn:List aA),vs=[p.v,.ref dN,.ref l]/\p.At H/\p.bL.length<=61/\(p.bL.map ax.name).Nodup/\Tab H dN mn/\H l=some (.lst (fs.map aq.v))/\fs.length<=70/\(∀f∈fs,f.At H/\(iX p mn f=none->f.soft=true))/\
 ∀(l':Addr) (ys:List V) (H':Hp),aL H H'->H' l'=some (.lst ys)->ys.length=fs.length->(∀(i:Nat) f v,fs[i]?=some f->ys[i]?=some v->QH H' p mn f v)->H l'=none->Q (.ref l') H'
noncomputable def atT(z:Str)(s o:Int):HO:=.tup [.str (Str.ofString "at"),.str z,.int s,.int o]
def GJ:Sp:=λvs H Q _=>(∃n:Int,vs=[.int n]/\Q (.bl true) H)\/∃t xs,vs=[.ref t]/\H t=some (.tup xs)/\Q (.bl false) H
def Qk:Sp:=λvs H Q _=>∃(t:Addr) (z:Str) (s o:Int),vs=[.ref t]/\H t=some (atT z s o)/\Q (.bl true) H
def BA:Sp:=λvs H Q _=>∃(t:Addr) (a:Str) (b c:Int),vs=[.ref t]/\H t=some (.tup [.str a,.int b,.int c])/\∀q,H q=none->Q (.ref q) (upd H q (atT a b (c%4294967296)))
def Gq:Sp:=λvs H Q _=>(∃n:Int,vs=[.int n]/\Q (.int n) H)\/∃(t:Addr) (z:Str) (s o:Int),vs=[.ref t]/\H t=some (atT z s o)/\∀q,H q=none->Q (.ref q) (upd H q (atT z s o))
def Ax:Sp:=λvs H Q _=>∃n:Int,vs=[.int n]/\Q (.int n) H
def GL:Sp:=λvs H Q _=>(∃n k:Int,vs=[.int n,.int k]/\Q (.int ((n+k)%4294967296)) H)\/∃(t:Addr) (z:Str) (s o k:Int),vs=[.ref t,.int k]/\H t=some (atT z s o)/\∀q,H q=none->Q (.ref q) (upd H q (atT z s ((o+k)%4294967296)))
def B1:Sp:=λvs H Q _=>∃(w a:Int) (r:Str),vs=[.int w,.str r,.int a]/\QN r/\0<=w/\w<=4294967295/\∀H',aL H H'->Q (.int (dt r w a)) H'
def QX:Sp:=λvs H Q _=>∃word one other:Int,vs=[.str (dW word),.int one,.int other]/\ED (cu word)/\0<=one/\one<=4294967295/\Q (.int (iq (cu word) one other word)) H
noncomputable def k3(z:Str)(n j:Int):List Key:=[.inr z,.inl n,.inl j]
noncomputable def bU(z:Str)(n:Int):List Int->Nat->List (List Key×V)->List (List Key×V)
 |[],_,k=>k
 |w::r,j,k=>bU z n r (j+1) (putK k (k3 z n j) (.int w))
noncomputable def ed(z:Str)(n:Int)(ws:List Int)(k:List (List Key×V))(f:aq):List (List Key×V):=putK k (k3 z n f.at_) (.int (dt f.rule (ws.getD f.at_.toNat 0) (f.add%4294967296)))
noncomputable def stK(z:Str)(n:Int)(st:bJ)(k:List (List Key×V)):List (List Key×V):=st.fills.foldl (ed z n st.words) (bU z n st.words 0 k)
noncomputable def dH(z:Str):List bJ->Nat->List (List Key×V)->List (List Key×V)
 |[],_,k=>k
 |s::r,j,k=>dH z r (j+1) (stK z j s k)
structure YS(p:aD):Prop where
 bn:RZ p
 gq:p.bW.length<=4
 wds:∀s∈p.bW,∀w∈s.words,0<=w/\w<=4294967295
 Rk:∀s∈p.bW,∀f∈s.fills,f.soft=true/\QN f.rule/\0<=f.at_/\f.at_<s.words.length/\∀n∈p.bL,n.name≠f.name
def KdS(H:Hp)(z:Str)(ss:List bJ)(ks:List (List Key×V)):Prop:=∀(i:Nat) (st:bJ),ss[i]?=some st->∃t,aO ks [.inr z,.inl i]=some (.ref t)/\H t=some (.tup [.str st.kind,.int st.words.length])
def Gb(C:Addr):Sp:=λvs H Q _=>∃(x dx dm ds dN:Addr) (p:aD) (mn:List aA),vs=[.ref x,p.v,.ref dN]/\H x=some (.ins C dx [("memory", .ref dm),("stretches", .ref ds)])/\H dm=some (.dT [])/\H ds=some (.dT [])/\dm≠ds/\p.At H/\YS p/\Tab H dN mn/\(∀s∈p.bW,∀f∈s.fills,aP mn f.name=none)/\
 ∀(ks:List (List Key×V)) (H':Hp),(∀b o,b≠dm->b≠ds->H b=some o->H' b=some o)->H' dm=some (.dT (dH p.name p.bW 0 []))->H' ds=some (.dT ks)->KdS H' p.name p.bW ks->Q .bI H'
structure NO where
 x:Addr
 dx:Addr
 dm:Addr
 ds:Addr
 tp:Addr
 lr:Addr
 ln:Addr
noncomputable def NO.fs(M:NO)(en:Bool):List (Str×V):=[("memory", .ref M.dm),("stretches", .ref M.ds),("place", .ref M.tp),("registers", .ref M.lr),("numbers", .ref M.ln),("ended", .bl en)]
structure dr(C:Addr)(H:Hp)(M:NO)(km ks:List (List Key×V))(z:Str)(s o:Int)(rs ts:List Int)(en:Bool):Prop where
 top:H M.x=some (.ins C M.dx (M.fs en))
 mem:H M.dm=some (.dT km)
 str:H M.ds=some (.dT ks)
 pl:H M.tp=some (atT z s o)
 fL:H M.lr=some (.lst (rs.map V.int))
 gT:H M.ln=some (.lst (ts.map V.int))
 nd:M.lr≠M.ln
structure fz(C:Addr)(H:Hp)(M:NO)(km ks:List (List Key×V))(z:Str)(s o:Int)(rs ts:List Int)(en:Bool)(kd:Str):Prop where
 o_:dr C H M km ks z s o rs ts en
 kd:∃t n,aO ks [.inr z,.inl s]=some (.ref t)/\H t=some (.tup [.str kd,.int n])
 len:rs.length=8
 ws:Words rs
 tl:ts.length<=1000
 mw:∀k v,aO km k=some v->∃w:Int,v=.int w/\0<=w/\w<=4294967295
def NO.Off(M:NO)(H H':Hp):Prop:=∀b o,H b=some o->b≠M.x->b≠M.lr->b≠M.ln->H' b=some o
def BK(op:Int):Prop:=op=0\/op=1\/xI op
noncomputable def nO(o w:Int):Int:=if cu w=0 then o else (o+1)%4294967296
noncomputable def nR(rs:List Int)(w:Int):List Int:=if cu w=0\/cu w=1 then rs else rs.set (eI w 33554432) (iq (cu w) (rs.getD (eI w 4194304) 0) (rs.getD (eI w 524288) 0) w)
noncomputable def nT(rs ts:List Int)(w:Int):List Int:=if cu w=1 then ts++[rs.getD (eI w 33554432) 0] else ts
noncomputable def nE(w:Int):Bool:=decide (cu w=0)
def RT(C:Addr)(H:Hp)(M:NO)(km ks:List (List Key×V))(z:Str)(s o:Int)(rs ts:List Int)(w:Int)(R:Hp->Prop):Prop:=∀(tp:Addr) (H':Hp),dr C H' { M with tp:=tp } km ks z s (nO o w) (nR rs w) (nT rs ts w) (nE w)->M.Off H H'->R H'
def FV(C:Addr):Sp:=λvs H Q _=>∃(M:NO) (km ks:List (List Key×V)) (z:Str) (s o:Int) (rs ts:List Int) (en:Bool) (kd:Str),vs=[.ref M.x,.ref M.tp]/\fz C H M km ks z s o rs ts en kd/\∀H',aL H H'->Q (.bl (aO km (k3 z s o)).isSome) H'
def Gr(A:Ad):Sp:=λvs H Q E=>∃(M:NO) (km ks:List (List Key×V)) (z:Str) (s o:Int) (rs ts:List Int) (en:Bool) (kd:Str),vs=[.ref M.x,.ref M.tp]/\fz A.aH H M km ks z s o rs ts en kd/\(∀v,aO km (k3 z s o)=some v->∀H',aL H H'->Q v H')/\(aO km (k3 z s o)=none->∀H',aL H H'->E (.ref A.cG) none H')
def JA(C:Addr):Sp:=λvs H Q _=>∃(M:NO) (km ks:List (List Key×V)) (z:Str) (s o:Int) (rs ts:List Int) (en:Bool) (kd:Str),vs=[.ref M.x,.ref M.tp]/\fz C H M km ks z s o rs ts en kd/\∀(t:Addr) (n:Int) (H':Hp),aL H H'->H' t=some (.tup [.str kd,.int n])->Q (.ref t) H'
def z7(A:Ad):Sp:=λvs H Q E=>∃(M:NO) (km ks:List (List Key×V)) (z:Str) (s o:Int) (rs ts:List Int) (en:Bool) (kd:Str),vs=[.ref M.x]/\fz A.aH H M km ks z s o rs ts en kd/\(∀w:Int,aO km (k3 z s o)=some (.int w)->kd=Str.ofString "code" -> ∀H',aL H H'->Q (.int w) H')/\((aO km (k3 z s o)=none\/kd≠Str.ofString "code")->∀H',aL H H'->E (.ref A.cG) none H')
def Bs(C:Addr):Sp:=λvs H Q _=>∃(M:NO) (km ks:List (List Key×V)) (z:Str) (s o:Int) (rs ts:List Int) (en:Bool) (kd:Str) (w:Int),vs=[.ref M.x,.int w,.bI]/\fz C H M km ks z s o rs ts en kd/\0<=w/\w<=4294967295/\Q (.int ((rs.getD (eI w 4194304) 0+sE w)%4294967296)) H
def AU(C:Addr):Sp:=λvs H Q _=>∃(M:NO) (km ks:List (List Key×V)) (z:Str) (s o:Int) (rs ts:List Int) (en:Bool) (kd:Str) (w:Int),vs=[.ref M.x,.str (dW w),.int w,.bI]/\fz C H M km ks z s o rs ts en kd/\0<=w/\w<=4294967295/\xI (cu w)/\Q (.int (iq (cu w) (rs.getD (eI w 4194304) 0) (rs.getD (eI w 524288) 0) w)) H
def Vd(C:Addr):Sp:=λvs H Q _=>∃(M:NO) (km ks:List (List Key×V)) (z:Str) (s o:Int) (rs ts:List Int) (kd:Str) (w:Int),vs=[.ref M.x,.int w,.bI]/\fz C H M km ks z s o rs ts false kd/\0<=w/\w<=4294967295/\BK (cu w)/\RT C H M km ks z s o rs ts w (Q .bI)
def U6(A:Ad):Sp:=λvs H Q E=>∃(M:NO) (km ks:List (List Key×V)) (z:Str) (s o:Int) (rs ts:List Int) (en:Bool) (kd:Str),vs=[.ref M.x]/\fz A.aH H M km ks z s o rs ts en kd/\
 ((en=true/\Q (.bl false) H)\/(en=false/\(aO km (k3 z s o)=none\/kd≠Str.ofString "code")/\∀H',aL H H'->E (.ref A.cG) none H')\/(en=false/\kd=Str.ofString "code" /\ ∃w:Int,aO km (k3 z s o)=some (.int w)/\BK (cu w)/\RT A.aH H M km ks z s o rs ts w (Q (.bl true))))
structure VI(H:Hp)(t q lr ln:Addr)(z:Str)(s o:Int)(rs ts:List Int)(en:Bool):Prop where
 top:H t=some (.tup [.ref q,.ref lr,.ref ln,.bl en])
 pl:H q=some (atT z s o)
 fL:H lr=some (.lst (rs.map V.int))
 gT:H ln=some (.lst (ts.map V.int))
def Gk(C:Addr):Sp:=λvs H Q _=>∃(M:NO) (km ks:List (List Key×V)) (z:Str) (s o:Int) (rs ts:List Int) (en:Bool),vs=[.ref M.x]/\dr C H M km ks z s o rs ts en/\rs.length=8/\ts.length<=1000/\
 ∀(t q lr ln:Addr) (H':Hp),aL H H'->VI H' t q lr ln z s o rs ts en->H lr=none->H ln=none->Q (.ref t) H'
def Uu(x:Addr)(H H':Hp):Prop:=∀b o,b≠x->(∀ps,o≠.fJ ps)->H b=some o->H' b=some o
def Ly(A:Ad):Sp:=λvs H Q _=>∃(x dx g s l:Addr) (e:Str) (p:aD) (n:ax) (rs:List Int),vs=[.ref x,.ref g,.ref s,.str e,.ref l]/\H x=some (.ins A.aH dx [])/\PL H g [p]/\H s=some (.lst [])/\YS p/\n∈p.bL/\n.name=e/\n.sort≠eV/\(n.sort=dD\/n.sort=dX)/\H l=some (.lst (rs.map V.int))/\rs.length=8/\eP A.aM Y7 ZF H/\eP A.bh GS Gy H/\A.bh≠A.aM/\
 ∀(M:NO) (ks:List (List Key×V)) (H':Hp),M.x=x->Uu x H H'->eP A.aM Y7 ZF H'->eP A.bh GS Gy H'->dr A.aH H' M (dH p.name p.bW 0 []) ks p.name n.st (n.off%4294967296) rs [] false->KdS H' p.name p.bW ks->H M.lr=none->H M.ln=none->Q .bI H'
def F4(K:Wf):Sp:=λvs H Q _=>∃(a:Addr) (ns:List Int) (k:Int),vs=[.ref a,.int k]/\aI K H a (ns.map V.int)/\ns.length<=63/\0<=k/\∀i:Int,Q (.int i) H
def Pj:Sp:=λvs H Q _=>∃n:Int,vs=[.int n]/\Q (.bl true) H
def FT:Sp:=λvs H Q _=>(∃n:Int,vs=[.int n,.int n]/\Q (.bl true) H)\/∃(a b:Addr) (z:Str) (s o:Int),vs=[.ref a,.ref b]/\H a=some (atT z s o)/\H b=some (atT z s o)/\Q (.bl true) H
def Bj:Sp:=λvs H Q _=>∃(a b:Addr) (ns:List Int),vs=[.ref a,.ref b]/\H a=some (.lst (ns.map V.int))/\H b=some (.lst (ns.map V.int))/\ns.length<=1000/\Q (.bl true) H
def FY:Sp:=λvs H Q _=>∃(t q lr ln sp lw lt:Addr) (z:Str) (s o:Int) (rs ts:List Int) (en:Bool),vs=[.ref t,.ref sp,.ref lw,.ref lt,.bl en]/\VI H t q lr ln z s o rs ts en/\H sp=some (atT z s o)/\H lw=some (.lst (rs.map V.int))/\H lt=some (.lst (ts.map V.int))/\rs.length<=1000/\ts.length<=1000/\Q (.bl true) H
def BZ:Sp:=λvs H Q _=>∃w b:Int,vs=[.int w,.int b]/\0<=w/\w<=4294967295/\0<=b/\Q (.int (jD w b)) H
def NZ:Sp:=λvs H Q _=>∃(a b:Int) (od:Bool),vs=[.int a,.int b,.bl od]/\0<=a/\a<=4294967295/\0<=b/\b<=4294967295/\Q (.int (if od=true then Builtin.bitXor a b else Builtin.bitAnd a b)) H
def LS:Sp:=λvs H Q _=>∃w a b:Int,vs=[.int (cu w),.int a,.int b,.int (w%65536)]/\xI (cu w)/\0<=w/\0<=a/\a<=4294967295/\0<=b/\b<=4294967295/\Q (.int (iq (cu w) a b w)) H
def BX:Sp:=λvs H Q _=>∃c:Int,vs=[.int c]/\∀(w:Int) (H':Hp),aL H H'->0<=w->w<=4294967295->BK (cu w)->Q (.int w) H'
structure Wk(k:Nat)(ws run:List Int)(fs:List aq):Prop where
 len:run.length=ws.length
 Py:∀w∈ws,0<=w/\w<=4294967295
 ok:∀w∈run,0<=w/\w<=4294967295/\BK (cu w)
 fl:∀f∈fs,f.soft=true/\QN f.rule/\f.name=Str.ofString "nobody" /\ ∃j:Nat,f.at_=((k+j:Nat):Int)/\j<ws.length/\run[j]?=some (dt f.rule (ws.getD j 0) (f.add%4294967296))
 no:∀j:Nat,(∀f∈fs,f.at_≠((k+j:Nat):Int))->run[j]?=ws[j]?
 gq:fs.length<=ws.length
def BQ:Sp:=λvs H Q _=>∃(a l m:Addr) (cs ws:List Int) (k:Nat),vs=[.ref a,.int k,.ref l,.ref m]/\H a=some (.lst (cs.map V.int))/\H l=some (.lst (ws.map V.int))/\H m=some (.lst [])/\l≠m/\l≠a/\m≠a/\cs.length=ws.length/\ws.length<=62/\k<=3/\(∀w∈ws,0<=w/\w<=4294967295/\BK (cu w))/\
 ∀(r:Addr) (ws' run:List Int) (fs:List aq) (H':Hp),(∀b o,b≠l->b≠m->H b=some o->H' b=some o)->H r=none->H' r=some (.lst (run.map V.int))->H' l=some (.lst (ws'.map V.int))->H' m=some (.lst (fs.map aq.v))->(∀f∈fs,f.At H')->ws'.length=ws.length->Wk k ws' run fs->Q (.ref r) H'
def Lg(A:Ad):Sp:=λvs H Q _=>∃(M:NO) (km ks:List (List Key×V)) (z:Str) (s o:Int) (rs ts:List Int) (kd:Str),vs=[.ref M.x]/\fz A.aH H M km ks z s o rs ts false kd/\(aO km (k3 z s o)=none\/kd≠Str.ofString "code")/\∀H',aL H H'->Q (.bl true) H'
structure HD where
 t:Addr
 a:Addr
 b:Addr
 q:Addr
 lr:Addr
 ln:Addr
 mr:Addr
 mn:Addr
 z:Str
 s:Int
 o:Int
 rs:List Int
 ts:List Int
structure HD.At(H:Hp)(h:HD):Prop where
 top:H h.t=some (.tup [.ref h.a,.ref h.b])
 one:VI H h.a h.q h.lr h.ln h.z h.s h.o h.rs h.ts false
 two:H h.b=some (.tup [.ref h.q,.ref h.mr,.ref h.mn,.bl false])
 mr_:H h.mr=some (.lst (h.rs.map V.int))
 mn_:H h.mn=some (.lst (h.ts.map V.int))
def OG(C:Addr):Sp:=λvs H Q _=>∃(M:NO) (l:Addr) (hs:List HD) (km ks:List (List Key×V)) (z:Str) (s o:Int) (rs ts:List Int),vs=[.ref M.x,.ref l]/\dr C H M km ks z s o rs ts false/\rs.length=8/\ts.length<=1000/\H l=some (.lst (hs.map λh=>V.ref h.t))/\hs.length<=100/\
 ∀(h:HD) (H':Hp),(∀b o,b≠l->H b=some o->H' b=some o)->H' l=some (.lst ((hs++[h]).map λh=>V.ref h.t))->h.At H'->h.z=z->h.s=s->h.o=o->h.rs=rs->h.ts=ts->H h.lr=none->H h.ln=none->H h.mr=none->H h.mn=none->Q (.ref h.a) H'
noncomputable def bZ:Str:=Str.ofString "pad"
noncomputable def oy:Str:=Str.ofString "code"
def BV(A:Ad):Sp:=λvs H Q _=>∃(M:NO) (wl rw hl:Addr) (n:Nat) (km ks:List (List Key×V)) (run rs:List Int),vs=[.ref M.x,.ref wl,.int n,.ref rw,.ref hl]/\fz A.aH H M km ks bZ 1 n rs [] false oy/\H wl=some (.lst (run.map V.int))/\H rw=some (.lst (rs.map V.int))/\H hl=some (.lst [])/\[M.lr,M.ln,wl,rw,hl].Nodup/\run.length<=62/\n<=3/\(∀w∈run,0<=w/\w<=4294967295/\BK (cu w))/\(∀j:Nat,aO km (k3 bZ 1 ((n+j:Nat):Int))=(run[j]?).map V.int)/\
 ∀(hs:List HD) (H':Hp),(∀b o,H b=some o->b≠M.x->b≠M.lr->b≠M.ln->b≠rw->b≠hl->H' b=some o)->H' hl=some (.lst (hs.map λh=>V.ref h.t))->(∀h∈hs,h.At H')->hs.length<=100->Q (.bl true) H'
def vf(K:Wf)(tn tb:Addr):Sp:=λvs H Q _=>∃(a:Addr) (ns:List Int),vs=[.ref a]/\aI K H a (ns.map V.int)/\ns.length<=63/\H tn=some (.fJ #[])/\H tb=some (.fJ #[])/\tn≠tb/\∀H',Q (.bl true) H'
def rdL:Array Lean.Ident:=("aau Rj zM tC Ry tUn Q_ vAt aaT abE tOr aaK abd Yw tB abx tCB Zr VC RW tSl Qy Y9 X2 Zg aao abW aa0 ZL Yb acK L2.start List.set List.map List.length List.replicate List.cons_append List.nil_append List.append_nil cK bK PY rI rU acJ Z6 HK ZE W9 rIn acw Zj W5 aa6 aac aaP WZ VP UQ aaW Qg WE Vq aaa aad abQ Sm acs acx acu acE rEq rNe sc0 sc1 sc2 sc3 sc4 sc5 sc6 sc7 sc8 sc9 acC acM acH acP Rv ZS Xi acG Wj Y_ ZI V4 V5 US Wl Wa TB eh tBM DG Z_ aby tIf ZC RK aaA aci acv acN acF acz aab rJoin W_ acO UO MP acy un1 Wr Xo acD acL xOf acB List.getElem?_cons_zero List.getElem?_cons_succ Option.some.injEq V.int.injEq V.str.injEq V.bl.injEq V.ref.injEq V.ty.injEq List.cons.injEq exists_eq_left' exists_eq_left exists_eq' and_assoc if_true if_false Bool.not_false Bool.not_true Bool.not_not Bool.false_eq_true exists_and_left and_true true_and List.set_cons_zero List.set_cons_succ Option.join_some false_and or_false false_or exists_false Uz Oc QO JW PR Uk TQ nS aaO QM Um IB Q3 Qo Qn QE FU OW JD Xz F1 Jv Bc U7 F0 F2 Gj KI GU B7 F9 J6 GJ Qk BA Gq Ax GL B1 QX Ly Gb U6 Gk FV Gr JA z7 Vd Bs AU F4 Pj FT Bj FY BZ NZ LS BX BQ Lg OG BV Zi zE IK Zq acI TH ab2 ipI aaB WI XQ Wd UX acA Vw XR V9 ZK abT aad Ends.nx Nat.reduceSub Nat.reduceAdd".splitOn " ").toArray.map λs=>Lean.mkIdent s.toName
local macro_rules | `(tactic| walk_at "rdd") => do
 let a<-rdL.mapM λx=>`(Lean.Parser.Tactic.simpLemma| $x:ident)
 `(tactic| try dsimp only [$a,*])
local macro_rules | `(tactic| walk_at "rd") => do
 let a<-rdL.mapM λx=>`(Lean.Parser.Tactic.simpLemma| $x:ident)
 let a:=a.push (<-`(Lean.Parser.Tactic.simpLemma| reduceCtorEq))
 `(tactic| (walk_at "rdd";try simp only [$a,*]))
section
variable{P:Program}{w:World}{K:Wf}{mg:So}{base:Heap}{A:Ad}
theorem bo(h:H p=none):aL H (upd H p o):=λb u e=>by rw[ae (bf e h)];exact e
theorem iY(h:upd H p o q=none):q≠p/\H q=none:=by
 have n:q≠p:=λe=>by rw[e,aJ]at h;cases h
 exact⟨n,by rw[ae n]at h;exact h⟩
theorem dA(h:H0 L=none)(e:aL H0 H):aL H0 (upd H L o):=λb u q=>by rw[ae (bf q h)];exact e b u q
theorem iP(T:Txt K mg A):aG P w K mg base bP 1 A.ZU A.v5 ["number"] Uz:=by
 refine T.Dc.ok Ur (λvs H Q E h=>?_) (λcdv Ar outer s H vs Q E hr h=>?_)
 ·obtain⟨c,rfl,_⟩:=h;rfl
 ·obtain⟨c,rfl,k⟩:=h;refine⟨_,(aF (aj (ao bg (pv 0) (eB rfl T.E3 Vj)))),?_⟩;walk_at "rd";exact⟨by decide,k⟩
theorem II(h:u<0):n/2 ^ (-u).toNat=K3.bR n u:=by
 rw[<-K3.Bt h,Xs _ (Int.le_of_lt (K3.pow_pos _))]
theorem mB(T:Txt K mg A):aG P w K mg base bP 1 A.moved A.iz ["number", "up"] Oc:=by
 refine T.kO.ok Mc (λvs H Q E h=>?_) (λcdv Ar outer s H vs Q E hr h=>?_)
 ·obtain⟨n,u,rfl,_⟩:=h;rfl
 ·obtain⟨n,u,rfl,h1,h2,h3,k⟩:=h;refine⟨_,(aE (ay (dB Ij (pv 1) af (ar _)) (aF (aj (ao LP (pv 0) (Nc NP (pv 1))))) cN) (aF (aj (ao Be (pv 0) (pv 1))))),?_⟩;walk_at "rd";refine bN (λh=>?_) (λh=>?_)
  ·have h:=of_decide_eq_true h;rw[<-II h]at k;exact⟨by omega,k⟩
  ·have h:¬u<0:=of_decide_eq_false (by simpa using h);rw[<-K3.M3 h]at k;exact⟨⟨by omega,by omega,by omega⟩,k⟩
theorem uN(T:Txt K mg A):aG P w K mg base bP 1 A.ones A.jZ ["many"] QO:=by
 refine T.tN.ok Qr (λvs H Q E h=>?_) (λcdv Ar outer s H vs Q E hr h=>?_)
 ·obtain⟨m,rfl,_⟩:=h;rfl
 ·obtain⟨m,rfl,h1,h2,k⟩:=h;refine⟨_,(aF (aj (ao eR (ao Be af (cX (Gp rfl) (by rfl) T.Ca Ud (ah (pv 0) (ah af aa)))) af))),?_⟩;walk_at "rd";rw[<-K3.Rg (k:=if 0>m then 0 else m) (by split<;>omega)]at k;exact⟨⟨by split<;>omega,by split<;>omega,by decide⟩,k⟩
theorem iA(T:Txt K mg A):aG P w K mg base bP 2 A.field A.iH ["word", "low", "many"] JW:=by
 refine T.kP.ok O3 (λvs H Q E h=>?_) (λcdv Ar outer s H vs Q E hr h=>?_)
 ·obtain⟨a,l,m,rfl,_⟩:=h;rfl
 ·obtain⟨a,l,m,rfl,h1,h2,h3,h4,h5,h6,k⟩:=h;refine⟨_,(aF (aj (ao og (pC (mB T) hr T.iJ T.gD T.gA (ah (pv 0) (ah (Nc NP (pv 1)) aa))) (pC (uN T) hr T.oH T.jr T.jf (ah (pv 2) aa))))),?_⟩;walk_at "rd";rw[<-K3.KL rfl h3]at k;exact⟨h1,by omega,by omega,by omega,by omega,k⟩
theorem X9(T:Txt K mg A):aG P w K mg base bP 2 A.YY A.qM ["number", "many"] Uk:=by
 refine T.DB.ok Jk (λvs H Q E h=>?_) (λcdv Ar outer s H vs Q E hr h=>?_)
 ·obtain⟨n,m,rfl,_⟩:=h;rfl
 ·obtain⟨n,m,rfl,h1,h2,k⟩:=h;refine⟨_,(aE (pS 2 Jk.nd (pC (mB T) hr T.iJ T.gD T.gA (ah af (ah (ao eR (pv 1) af) aa)))) (aF (aj (ao eR (ao og (ao b0 (pv 0) (pv 2)) (pC (uN T) hr T.oH T.jr T.jf (ah (pv 1) aa))) (pv 2))))),?_⟩;walk_at "rd";rw[<-K3.S7 h1]at k;exact⟨by decide,by decide,by omega,by omega,by omega,k⟩
theorem Ob(x:Int){y:Int}(hy:0<=y):0<=Builtin.bitAnd x y/\Builtin.bitAnd x y<=y:=by
 open PySem PySem.W PySem.Calls PyProof.Rows in exact bitAnd_range x hy
theorem Sz(T:Txt K mg A):aG P w K mg base bP 2 A.Yd A.sH ["word", "low", "many", "number"] PR:=by
 refine T.Fc.ok Kf (λvs H Q E h=>?_) (λcdv Ar outer s H vs Q E hr h=>?_)
 ·obtain⟨a,l,m,n,rfl,_⟩:=h;rfl
 ·obtain⟨a,l,m,n,rfl,h1,h2,h3,h4,h5,h6,k⟩:=h;refine⟨_,(aE (pS 4 Kf.nd (ao og (pv 0) (Nc S6 (pC (mB T) hr T.iJ T.gD T.gA (ah (pC (uN T) hr T.oH T.jr T.jf (ah (pv 2) aa)) (ah (pv 1) aa)))))) (aF (aj (pC (iP T) hr T.g0 T.fM T.fW (ah (ao RA (pv 4) (pC (mB T) hr T.iJ T.gD T.gA (ah (ao og (pv 3) (pC (uN T) hr T.oH T.jr T.jf (ah (pv 2) aa))) (ah (pv 1) aa)))) aa))))),?_⟩;walk_at "rd";have o1:=K3.By m (by omega);have o2:=Ob n o1.1;have e:=K3.Rl (w:=a) (l:=l) (m:=m) (n:=n) rfl h1 h2 h3 h5 h6;rw[V7 _ (by decide)]at e;rw[<-e]at k;exact⟨by omega,by omega,o1.1,by omega,by omega,by omega,by omega,o2.1,by omega,by omega,k⟩
theorem XH(T:Txt K mg A):aG P w K mg base bP 2 A.m9 A.yD ["word", "by"] TQ:=by
 refine T.E8.ok MN (λvs H Q E h=>?_) (λcdv Ar outer s H vs Q E hr h=>?_)
 ·obtain⟨c,b,rfl,_⟩:=h;rfl
 ·obtain⟨c,b,rfl,h1,h2,k⟩:=h;refine⟨_,(aE (pS 2 MN.nd (ao bg (pv 1) (eB rfl T.zY Vj))) (aF (aj (pC (iP T) hr T.g0 T.fM T.fW (ah (ao RA (ao LP (pv 0) (pv 2)) (ao Be (pv 0) (ao eR (eB rfl T.zY Vj) (pv 2)))) aa))))),?_⟩;walk_at "rd";exact⟨by decide,by omega,⟨by omega,by omega,by omega⟩,k⟩
theorem OQ(T:Txt K mg A):aG P w K mg base bP 1 A.Y3 A.yE ["_law_found"] Pj:=by
 refine T.FK.ok VQ (λvs H Q E h=>?_) (λcdv Ar outer s H vs Q E hr h=>?_)
 ·obtain⟨c,rfl,_⟩:=h;rfl
 ·obtain⟨c,rfl,k⟩:=h;refine⟨_,(aF (aj (fA (cX (bY (K:=K) rfl) (by rfl) T.aB ia (ah (pv 0) (ah (cV rfl T.jL ou nM) aa))) (h8 (K4 (cX (bY (K:=K) rfl) (by rfl) T.aB ia (ah (pv 0) (ah (cV rfl T.m_ Eh nM) aa)))))))),?_⟩;walk_at "rd";exact⟨_,.int c,true,rfl,Qs ⟨_,.int c,false,rfl,k⟩⟩
theorem dk{rs:List Int}{i:Int}(h0:0<=i)(h1:i<rs.length):∃v:Int,Az (rs.map V.int) i=some (V.int v)/\rs.getD i.toNat 0=v/\v∈rs:=by
 have hi:i.toNat<rs.length:=by omega
 have e:i=((i.toNat:Nat):Int):=by omega
 refine⟨rs[i.toNat],?_,by rw[PJ,zR hi];rfl,Se hi⟩;have z:Az (rs.map V.int) ((i.toNat:Nat):Int)=some (V.int rs[i.toNat]):=iI (by rw[oR,zR hi];rfl);rw[<-e]at z;exact z
theorem QD(T:Txt K mg A):aG P w K mg base bP 3 A.zK A.iV ["word"] (nS 268435456 16):=by
 refine T.j0.ok JP (λvs H Q E h=>?_) (λcdv Ar outer s H vs Q E hr h=>?_)
 ·obtain⟨a,rfl,_⟩:=h;rfl
 ·obtain⟨a,rfl,h1,h2,k⟩:=h;refine⟨_,(aF (aj (pC (iA T) hr T.gr T.fh T.fy (ah (pv 0) (ah af (ah af aa)))))),?_⟩;walk_at "rd";rw[<-K3.f7 a 28 4 268435456 16 rfl rfl]at k;exact⟨h1,h2,by decide,by decide,by decide,by decide,k⟩
theorem U5(T:Txt K mg A):aG P w K mg base bP 3 A.O4 A.lB ["word"] (nS 33554432 8):=by
 refine T.vL.ok QJ (λvs H Q E h=>?_) (λcdv Ar outer s H vs Q E hr h=>?_)
 ·obtain⟨a,rfl,_⟩:=h;rfl
 ·obtain⟨a,rfl,h1,h2,k⟩:=h;refine⟨_,(aF (aj (pC (iA T) hr T.gr T.fh T.fy (ah (pv 0) (ah af (ah af aa)))))),?_⟩;walk_at "rd";rw[<-K3.f7 a 25 3 33554432 8 rfl rfl]at k;exact⟨h1,h2,by decide,by decide,by decide,by decide,k⟩
theorem Ku(T:Txt K mg A):aG P w K mg base bP 3 A.KO A.kY ["word"] (nS 4194304 8):=by
 refine T.wJ.ok Qj (λvs H Q E h=>?_) (λcdv Ar outer s H vs Q E hr h=>?_)
 ·obtain⟨a,rfl,_⟩:=h;rfl
 ·obtain⟨a,rfl,h1,h2,k⟩:=h;refine⟨_,(aF (aj (pC (iA T) hr T.gr T.fh T.fy (ah (pv 0) (ah af (ah af aa)))))),?_⟩;walk_at "rd";rw[<-K3.f7 a 22 3 4194304 8 rfl rfl]at k;exact⟨h1,h2,by decide,by decide,by decide,by decide,k⟩
theorem Uy(T:Txt K mg A):aG P w K mg base bP 3 A.O2 A.kT ["word"] (nS 524288 8):=by
 refine T.uI.ok Qz (λvs H Q E h=>?_) (λcdv Ar outer s H vs Q E hr h=>?_)
 ·obtain⟨a,rfl,_⟩:=h;rfl
 ·obtain⟨a,rfl,h1,h2,k⟩:=h;refine⟨_,(aF (aj (pC (iA T) hr T.gr T.fh T.fy (ah (pv 0) (ah af (ah af aa)))))),?_⟩;walk_at "rd";rw[<-K3.f7 a 19 3 524288 8 rfl rfl]at k;exact⟨h1,h2,by decide,by decide,by decide,by decide,k⟩
theorem BN(T:Txt K mg A):aG P w K mg base bP 3 A.Oz A.j4 ["word"] (nS 1 65536):=by
 refine T.ud.ok Q4 (λvs H Q E h=>?_) (λcdv Ar outer s H vs Q E hr h=>?_)
 ·obtain⟨a,rfl,_⟩:=h;rfl
 ·obtain⟨a,rfl,h1,h2,k⟩:=h;refine⟨_,(aF (aj (pC (iA T) hr T.gr T.fh T.fy (ah (pv 0) (ah af (ah af aa)))))),?_⟩;walk_at "rd";rw[<-K3.f7 a 0 16 1 65536 rfl rfl]at k;exact⟨h1,h2,by decide,by decide,by decide,by decide,k⟩
theorem Uq(T:Txt K mg A):aG P w K mg base bP 4 A.IU A.mL ["word"] aaO:=by
 refine T.xN.ok Ql (λvs H Q E h=>?_) (λcdv Ar outer s H vs Q E hr h=>?_)
 ·obtain⟨a,rfl,_⟩:=h;rfl
 ·obtain⟨a,rfl,h1,h2,k⟩:=h;refine⟨_,(aF (aj (pC (X9 T) hr T.Sy T.Ow T.Ls (ah (pC (BN T) hr T.y3 T.oM T.nH (ah (pv 0) aa)) (ah af aa))))),?_⟩;walk_at "rd";refine⟨h1,h2,by decide,by decide,?_⟩;have e:=K3.W4 (a/1%65536) 15 32768 65536 rfl rfl;have e':K3.sg (a/1%65536) 16=(a/1%65536+32768)%65536 - 32768:=e;rw[e',Int.ediv_one];exact k
theorem bT{w:Int}(j:Nat)(hj:j<16){t:Str}(ht:As j=t):(dW w=t)↔cu w=j:=by
 have key:∀i:Fin 16,∀j:Fin 16,As i.1=As j.1->i=j:=by decide +kernel
 have hi:(cu w).toNat<16:=by unfold cu;omega
 have h0:0<=cu w:=by unfold cu;omega
 constructor
 ·intro h;have e:=key ⟨_,hi⟩ ⟨j,hj⟩ (h.trans ht.symm);have e:=congrArg Fin.val e;dsimp only at e;omega
 ·intro h;rw[<-ht];unfold dW;rw[h];rfl
theorem d0{w:Int}:dW w=Str.ofString "end" ↔ cu w=0:=bT 0 (by decide) rfl
theorem d1{w:Int}:dW w=Str.ofString "tell" ↔ cu w=1:=bT 1 (by decide) rfl
theorem d2{w:Int}:dW w=Str.ofString "put" ↔ cu w=2:=bT 2 (by decide) rfl
theorem d3{w:Int}:dW w=Str.ofString "high" ↔ cu w=3:=bT 3 (by decide) rfl
theorem d4{w:Int}:dW w=Str.ofString "add" ↔ cu w=4:=bT 4 (by decide) rfl
theorem d5{w:Int}:dW w=Str.ofString "load" ↔ cu w=5:=bT 5 (by decide) rfl
theorem d6{w:Int}:dW w=Str.ofString "store" ↔ cu w=6:=bT 6 (by decide) rfl
theorem d7{w:Int}:dW w=Str.ofString "sum" ↔ cu w=7:=bT 7 (by decide) rfl
theorem d8{w:Int}:dW w=Str.ofString "less" ↔ cu w=8:=bT 8 (by decide) rfl
theorem d9{w:Int}:dW w=Str.ofString "both" ↔ cu w=9:=bT 9 (by decide) rfl
theorem d10{w:Int}:dW w=Str.ofString "odd" ↔ cu w=10:=bT 10 (by decide) rfl
theorem d12{w:Int}:dW w=Str.ofString "same" ↔ cu w=12:=bT 12 (by decide) rfl
theorem d13{w:Int}:dW w=Str.ofString "under" ↔ cu w=13:=bT 13 (by decide) rfl
theorem d14{w:Int}:dW w=Str.ofString "call" ↔ cu w=14:=bT 14 (by decide) rfl
theorem d15{w:Int}:dW w=Str.ofString "go" ↔ cu w=15:=bT 15 (by decide) rfl
theorem Zv(T:Txt K mg A):aG P w K mg base bP 4 A.WC A.qZ ["word"] QM:=by
 refine T.Dd.ok TF (λvs H Q E h=>?_) (λcdv Ar outer s H vs Q E hr h=>?_)
 ·obtain⟨a,rfl,_⟩:=h;rfl
 ·obtain⟨a,rfl,h1,h2,k⟩:=h;refine⟨_,(aF (aj (bO (Cf (K:=K) rfl) (eB (v:=.ref A.jE) rfl T.EJ rfl) (pC (QD T) hr T.DZ T.uX T.tH (ah (pv 0) aa)) (λ_ _=>rfl)))),?_⟩;walk_at "rd";refine⟨h1,h2,_,T.SU H,_,?_,k⟩;have key:∀i:Fin 16,Az [V.str (Str.ofString "end"),V.str (Str.ofString "tell"),V.str (Str.ofString "put"),V.str (Str.ofString "high"),V.str (Str.ofString "add"),V.str (Str.ofString "load"),V.str (Str.ofString "store"),V.str (Str.ofString "sum"),V.str (Str.ofString "less"),V.str (Str.ofString "both"),V.str (Str.ofString "odd"),V.str (Str.ofString "turn"),V.str (Str.ofString "same"),V.str (Str.ofString "under"),V.str (Str.ofString "call"),V.str (Str.ofString "go")] (i.1:Int)=some (V.str (As i.1)):=λi=>by
   refine iI ?_;obtain⟨i,hi⟩:=i;have:i=0\/i=1\/i=2\/i=3\/i=4\/i=5\/i=6\/i=7\/i=8\/i=9\/i=10\/i=11\/i=12\/i=13\/i=14\/i=15:=by omega
   rcases this with rfl|rfl|rfl|rfl|rfl|rfl|rfl|rfl|rfl|rfl|rfl|rfl|rfl|rfl|rfl|rfl<;>rfl
  have e:a/268435456%16=(((cu a).toNat:Nat):Int):=by unfold cu;omega
  rw[e];exact key ⟨(cu a).toNat,by unfold cu;omega⟩
theorem WS(T:Txt K mg A):aG P w K mg base bP 3 A.WA A.rG ["deed", "first", "second"] Um:=by
 refine T.Er.ok Ti (λvs H Q E h=>?_) (λcdv Ar outer s H vs Q E hr h=>?_)
 ·obtain⟨word,one,other,rfl,_⟩:=h;rfl
 ·obtain⟨word,one,other,rfl,ho,h1,h2,k⟩:=h;refine⟨_,(aE (ay (dB aY (pv 0) au (ar _)) (aF (aj (pC (iP T) hr T.g0 T.fM T.fW (ah (ao b0 (pv 1) (pv 2)) aa)))) cN) (aE (ay (dB aY (pv 0) au (ar _)) (aF (aj (pC (iP T) hr T.g0 T.fM T.fW (ah (ao eR (pv 1) (pv 2)) aa)))) cN) (aE (ay (dB aY (pv 0) au (ar _)) (aF (aj (ao og (pv 1) (pv 2)))) cN) (aE (ay (dB aY (pv 0) au (ar _)) (aF (aj (ao Ve (pv 1) (pv 2)))) cN) (aF (aj (pC (XH T) hr T.RM T.Pm T.Ic (ah (pv 1) (ah (pv 2) aa))))))))),?_⟩;walk_at "rd";unfold ED at ho;unfold iq at k;rw[if_neg (by omega),if_neg (by omega),if_neg (by omega)]at k;refine bN (λh=>?_) (λh=>?_)
  ·rw[if_pos (d7.mp (of_decide_eq_true h))]at k;exact k
  rw[if_neg (λz=>h (decide_eq_true (d7.mpr z)))]at k;refine bN (λh=>?_) (λh=>?_)
  ·rw[if_pos (d8.mp (of_decide_eq_true h))]at k;exact k
  rw[if_neg (λz=>h (decide_eq_true (d8.mpr z)))]at k;refine bN (λh=>?_) (λh=>?_)
  ·rw[if_pos (d9.mp (of_decide_eq_true h))]at k;exact k
  rw[if_neg (λz=>h (decide_eq_true (d9.mpr z)))]at k;refine bN (λh=>?_) (λh=>?_)
  ·rw[if_pos (d10.mp (of_decide_eq_true h))]at k;exact k
  rw[if_neg (λz=>h (decide_eq_true (d10.mpr z)))]at k;exact⟨h1,h2,k⟩
theorem and_int(a b:Nat):Builtin.bitAnd (a:Int) (b:Int)=((a &&& b:Nat):Int):=by
 unfold Builtin.bitAnd;rw[decide_eq_true (Int.natCast_nonneg a),decide_eq_true (Int.natCast_nonneg b)];rfl
theorem zC(a b:Nat):∀k:Nat,a%2 ^ k+b%2 ^ k=(a ^^^ b)%2 ^ k+2*((a &&& b)%2 ^ k)
 |0=>by simp[Nat.mod_one]
 |k+1=>by
  rw[M50.An,M50.Ac,YZ,YZ];have ih:=zC a b k;rcases V2 (a/2 ^ k) with h1|h1<;>rcases V2 (b/2 ^ k) with h2|h2<;>rw[h1,h2]<;>simp<;>omega
theorem xor_int{a b:Nat}(ha:a<4294967296)(hb:b<4294967296):Builtin.bitXor (a:Int) (b:Int)=((a ^^^ b:Nat):Int):=by
 have h:=zC a b 32;have h1:a%2 ^ 32=a:=Vy ha;have h2:b%2 ^ 32=b:=Vy hb;have h3:(a ^^^ b)%2 ^ 32=a ^^^ b:=Vy (Nat.xor_lt_two_pow (n:=32) ha hb);have h4:(a &&& b)%2 ^ 32=a &&& b:=Vy (Nat.and_lt_two_pow (n:=32) a hb);rw[h1,h2,h3,h4]at h;have e:Builtin.bitXor (a:Int) (b:Int)=a+b - 2*Builtin.bitAnd a b:=by open PySem PySem.W PySem.Calls PyProof.Rows in exact bitXor_and a b
 rw[e,and_int];omega
theorem or_int(x y:Nat):Builtin.bitOr (x:Int) (y:Int)=((x ||| y:Nat):Int):=by
 have h1:¬(0:Int)<=Builtin.bitNot (x:Int):=by unfold Builtin.bitNot;omega
 have h2:¬(0:Int)<=Builtin.bitNot (y:Int):=by unfold Builtin.bitNot;omega
 show Builtin.bitNot (Builtin.bitAnd (Builtin.bitNot x) (Builtin.bitNot y))=_
 open PyProof.Rows in rw[bitAnd_nn h1 h2,bitNot_bitNot,bitNot_bitNot,bitNot_bitNot,Int.toNat_natCast,Int.toNat_natCast]
theorem OU{a b:Nat}(ha:a<4294967296):jD (a:Int) (b:Int)=((M50.gU a ((b:Int)%32).toNat:Nat):Int):=by
 have hr:((b:Int)%32).toNat<32:=by omega
 have e:(b:Int)%32=((((b:Int)%32).toNat:Nat):Int):=by omega
 unfold jD;generalize ((b:Int)%32).toNat=r at *;rw[e];have e1:(32 - (r:Int)).toNat=32 - r:=by omega
 have cp:∀k:Nat,(2:Int) ^ k=((2 ^ k:Nat):Int):=λk=>by rw[Int.natCast_pow];rfl
 rw[e1,cp,cp,<-Int.natCast_ediv,<-Int.natCast_mul,or_int,Nat.mul_comm a];have z:=M50.QY (w:=a) (k:=r) ha hr;rw[<-z];rfl
theorem SS(T:Txt K mg A){C:Addr}(h:RC A C):zb K C/\bu K C "title" := by
 rcases h with e|e|e<;>subst e
 ·exact⟨T.Bx,T.fx⟩
 ·exact⟨T.rL,T.eF⟩
 ·exact⟨T.BB,T.dI⟩
theorem Hv(T:Txt K mg A):aG P w K mg base bP 1 A.UD A.vT ["self", "title"] (IB A):=by
 refine T.EM.ok V0 (λvs H Q E h=>?_) (λcdv Ar outer s H vs Q E hr h=>?_)
 ·obtain⟨p,dx,C,x,rfl,_⟩:=h;rfl
 ·obtain⟨p,dx,C,x,rfl,hp,hC,k⟩:=h;refine⟨_,(aF (cM (pv 0) (pv 1) rfl)),?_⟩;walk_at "rd";exact⟨C,dx,[],hp,(SS T hC).1,(SS T hC).2,by decide,k⟩
theorem N4(T:Txt K mg A):aG P w K mg base bP 4 A.Y1 A.vj ["title"] (Q3 A):=by
 refine T.Ek.ok TN (λvs H Q E h=>?_) (λcdv Ar outer s H vs Q E hr h=>?_)
 ·obtain⟨z,rfl,_⟩:=h;rfl
 ·obtain⟨z,rfl,hz,k⟩:=h;refine⟨_,(aE (ay (dB aY (pv 0) au (ar _)) (aF (aj (gp T.Mz (Hv T) (hr.mono (by decide)) rfl T.N2 T.Af .nil ck (ah (pv 0) aa)))) cN) (aE (ay (dB aY (pv 0) au (ar _)) (aF (aj (gp T.Cp (Hv T) (hr.mono (by decide)) rfl T.C4 T.Af .nil ck (ah (pv 0) aa)))) cN) (aE (ay (dB aY (pv 0) au (ar _)) (aF (aj (gp T.HZ (Hv T) (hr.mono (by decide)) rfl T.Pf T.Af .nil ck (ah (pv 0) aa)))) cN) (aE (ay (dB aY (pv 0) au (ar _)) (aF ix) cN) (aE (ay (dB aY (pv 0) au (ar _)) (aF ix) cN) (aF ix)))))),?_⟩;walk_at "rd";have go:∀C,RC A C->RCs A z C->∀(x dx:Addr),H x=none->H dx=none->dx≠x->
    ∃x_1 x_2,upd (upd H dx (HO.own x)) x (HO.ins C dx []) x=some (HO.ins x_2 x_1 [])/\RC A x_2/\Q (V.ref x) (upd (upd (upd H dx (HO.own x)) x (HO.ins C dx [])) x (HO.ins x_2 x_1 [(Str.ofString "title", V.str z)])):=by
   intro C hC hc x dx hx hd hne;refine⟨dx,C,aJ,hC,k C hc x _ (λb o e=>?_) ⟨dx,aJ⟩⟩;rw[ae (bf e hx),ae (bf e hx),ae (bf e hd)];exact e
  refine bN (λh=>?_) (λh=>?_)
  ·have h:=of_decide_eq_true h;exact go _ (.inl rfl) (.inl ⟨h,rfl⟩)
  have h1:¬z=Str.ofString "whole" := by simpa using h
  refine bN (λh=>?_) (λh=>?_)
  ·have h:=of_decide_eq_true h;exact go _ (.inr (.inl rfl)) (.inr (.inl ⟨h,rfl⟩))
  have h2:¬z=Str.ofString "high" := by simpa using h
  refine bN (λh=>?_) (λh=>?_)
  ·have h:=of_decide_eq_true h;exact go _ (.inr (.inr rfl)) (.inr (.inr ⟨h,rfl⟩))
  have h3:¬z=Str.ofString "low" := by simpa using h
  exact(hz.elim h1 λx=>x.elim h2 h3).elim
theorem Xh(T:Txt K mg A):aG P w K mg base bP 2 A.Yt A.vB ["self", "word", "here", "there"] Qo:=by
 refine T.E_.ok VT (λvs H Q E h=>?_) (λcdv Ar outer s H vs Q E hr h=>?_)
 ·obtain⟨v,a,h,t,rfl,_⟩:=h;rfl
 ·obtain⟨v,a,h,t,rfl,k⟩:=h;refine⟨_,(aF (aj (pC (iP T) hr T.g0 T.fM T.fW (ah (pv 3) aa)))),?_⟩;walk_at "rd";exact k
theorem WG(T:Txt K mg A):aG P w K mg base bP 3 A.WQ A.yr ["self", "word", "here", "there"] Qn:=by
 refine T.D5.ok UI (λvs H Q E h=>?_) (λcdv Ar outer s H vs Q E hr h=>?_)
 ·obtain⟨v,a,h,t,rfl,_⟩:=h;rfl
 ·obtain⟨v,a,h,t,rfl,h1,h2,k⟩:=h;refine⟨_,(aF (aj (pC (Sz T) hr T.Ih T.EF T.Df (ah (pv 1) (ah af (ah af (ah (ao cI (ao b0 (pv 3) af) af) aa))))))),?_⟩;walk_at "rd";exact⟨⟨by decide,by decide⟩,h1,h2,by decide,by decide,by decide,by decide,k⟩
theorem Ym(T:Txt K mg A):aG P w K mg base bP 3 A.YJ A.xJ ["self", "word", "here", "there"] QE:=by
 refine T.DI.ok Vc (λvs H Q E h=>?_) (λcdv Ar outer s H vs Q E hr h=>?_)
 ·obtain⟨v,a,h,t,rfl,_⟩:=h;rfl
 ·obtain⟨v,a,h,t,rfl,h1,h2,k⟩:=h;refine⟨_,(aF (aj (pC (Sz T) hr T.Ih T.EF T.Df (ah (pv 1) (ah af (ah af (ah (pv 3) aa))))))),?_⟩;walk_at "rd";exact⟨h1,h2,by decide,by decide,by decide,by decide,k⟩
theorem oj:∀{a b:List Str},a.Nodup->b.Nodup->(∀x,x∈a↔x∈b)->a.Perm b
 |[],b,_,_,h=>by
  have:b=[]:=List.eq_nil_iff_forall_not_mem.mpr λx hx=>by simpa using (h x).mpr hx
  rw[this]
 |x::a,b,ha,hb,h=>by
  have hx:x∈b:=(h x).mp (.head _);refine((oj (Fm.mp ha).2 (hb.erase x) λy=>?_).cons x).trans (List.perm_cons_erase hx).symm;rw[hb.mem_erase_iff];constructor
  ·intro hy;exact⟨λe=>(Fm.mp ha).1 (e▸hy),(h y).mp (.tail _ hy)⟩
  ·rintro⟨ne,hy⟩;exact(i_.mp ((h y).mpr hy)).resolve_left ne
theorem UG(W:List Str)(y:Str):putK (W.map kQ) (.inr y) (.bl true)=(addW W y).map kQ:=by
 unfold putK addW;have e:((W.map kQ).any λkv=>decide (kv.1=(.inr y:Key)))=decide (y∈W):=by
  rw[List.any_map,Ui,G0,decide_eq_true_eq];constructor
  ·rintro⟨z,hz,q⟩;have:z=y:=by simpa [kQ] using q
   exact this▸hz
  ·intro hy;exact⟨y,hy,by simp[kQ]⟩
 rw[e];by_cases m:y∈W
 ·rw[if_pos (decide_eq_true m),if_pos m,gS];refine RS λz hz=>?_;by_cases q:z=y
  ·simp[kQ,q]
  ·simp[kQ,q]
 ·rw[if_neg (by simpa using m),if_neg m,List.map_append];rfl
theorem NM(W:List Str)(y:Str):(addW W y).length<=W.length+1:=by
 unfold addW;split
 ·omega
 ·simp
theorem MB(p:aD)(W:List Str)(f:aq):(gj p W f).length<=W.length+1:=by
 unfold gj;split
 ·exact NM W f.name
 ·omega
theorem zJ(p:aD):∀(fs:List aq) (W:List Str),(fs.foldl (gj p) W).length<=W.length+fs.length
 |[],W=>by simp
 |f::fs,W=>by
  have h1:=zJ p fs (gj p W f);have h2:=MB p W f;rw[PF,pR];omega
theorem vJ(h:¬(!f.soft && !eL p f.name)=true):gj p W f=W:=if_neg h
theorem zd(h:(!f.soft && !eL p f.name)=true):gj p W f=addW W f.name:=if_pos h
theorem Gu(hc:X.calm=true){w:World}(ew:X.w=w){K:Wf}(e:X.K=K):cS X (.type "set") (Zi w K):=ew▸e▸NC hc
theorem oS(hc:X.calm=true){w:World}(ew:X.w=w):cS X (.builtin "sorted") (zE w):=ew▸xj hc
theorem cU(e:aL H H')(h:H' l=none):H l=none:=by
 cases q:H l with
 |none=>rfl
 |some o=>rw[e _ _ q]at h;cases h
theorem BD(h:(p.bL.map ax.name).Nodup):(iZ p).Nodup:=List.Nodup.sublist (List.Sublist.map _ List.filter_sublist) h
theorem N3(e:ms.map (λm=>(m.name,m.a,m.b,m.c))=(p.bL.filter λn=>decide (n.sort=Str.ofString "own")).map (λn=>(n.name,p.name,n.st,n.off)))(z:Str):(aP ms z).isSome=eL p z:=by
 have e1:ms.map aA.name=(p.bL.filter λn=>decide (n.sort=Str.ofString "own")).map ax.name:=by
  have h:=congrArg (List.map (·.1)) e;rw[gS,gS]at h;exact h
 have a:(aP ms z).isSome=decide (z∈ms.map aA.name):=by
  unfold aP;rw[Ui,List.find?_isSome,decide_eq_true_eq];constructor
  ·rintro⟨m,hm,q⟩;exact cC.mpr ⟨m,hm,of_decide_eq_true q⟩
  ·intro h;obtain⟨m,hm,q⟩:=cC.mp h;exact⟨m,hm,decide_eq_true q⟩
 rw[a,e1];unfold eL;rw[Ui,decide_eq_true_eq,G0];constructor
 ·intro h;obtain⟨n,hn,q⟩:=cC.mp h;obtain⟨h1,h2⟩:=Tb.mp hn;exact⟨n,h1,by rw[zx];exact⟨decide_eq_true q,h2⟩⟩
 ·rintro⟨n,hn,q⟩;rw[zx]at q;exact cC.mpr ⟨n,Tb.mpr ⟨hn,q.2⟩,of_decide_eq_true q.1⟩
theorem WY(W:List Str):List.map (λx=>x.fst) (W.map kQ)=W.map Sum.inr:=by rw[gS];rfl
theorem Rm(h:(!decide (V.str z=V.str (Str.ofString "own")))=true):z≠eV:=λe=>by
 rw[e]at h;exact absurd h (by simp[eV])
theorem Uo(h:¬(!decide (V.str z=V.str (Str.ofString "own")))=true):z=eV:=by
 have q:V.str z=V.str (Str.ofString "own"):=by simpa using h
 injection q
theorem BO{p:aD}{i:Nat}{st:bJ}(h:p.bW[i]?=some st):aV (p.bW.take (i+1))=aV (p.bW.take i)++st.fills:=by
 unfold aV;rw[AF,h,We];simp
theorem MM{p:aD}(i:Nat):(aV (p.bW.take i)).length<=(aV p.bW).length:=by
 have h:aV p.bW=aV (p.bW.take i)++aV (p.bW.drop i):=by
  unfold aV;rw[<-We,List.take_append_drop]
 rw[h,ij];omega
theorem Cw(T:Txt K mg A):aG P w K mg base bP 1 A.WB A.uG ["piece", "told_by"] FU:=by
 refine T.Cu.ok jc (λvs H Q E h=>?_) (λcdv Ar outer s H vs Q E hr h=>?_)
 ·obtain⟨p,z,rfl,_⟩:=h;rfl
 ·obtain⟨p,z,rfl,hp,hf,hd,k⟩:=h;refine⟨_,(aE (pS 2 jc.nd dz) (aE (pF (eN (K:=K) rfl (tx K (pv 0))) (cR (K:=K) (n:=4) rfl rfl (fD (pn 3 jc.nd) (fD (pn 4 jc.nd) (fD (pn 5 jc.nd) (fD (pn 6 jc.nd) cQ))))) (aF (ay (dB aY (pv 4) (pv 1) (ar _)) (aF (fe (cD hr) (pv 2) (pv 3) (a_ (ah (tx K (pv 0)) (ah (pv 5) (ah (pv 6) aa)))) rfl)) cN))) (aF (aj (pv 2))))),?_⟩;walk_at "rd";intro d hdn;refine⟨_,bB.of (bo hdn _ _ hp.top),_,rfl,?_⟩;refine h_.of (xs:=p.bL.map ax.v) (λi σ H'=>∃ms b3 b4 b5 b6,σ=[some p.v,some (V.str z),some (V.ref d),b3,b4,b5,b6]/\aL H H'/\Tab H' d ms/\ms.map (λm=>(m.name,m.a,m.b,m.c))=((p.bL.take i).filter λn=>decide (n.sort=z)).map (λn=>(n.name,p.name,n.st,n.off)))
   ⟨[],_,_,_,_,rfl,bo hdn,⟨aJ,by simp⟩,rfl⟩ (λi σ H' _ ⟨_,_,_,_,_,_,sm,_⟩=>aI.of (sm _ _ hp.nl)) ?_ ?_
  ·rintro i x σ H' hx ⟨ms,b3,b4,b5,b6,rfl,sm,tab,e⟩;walk_at "0";obtain⟨n,hn,rfl⟩:=iw.mp hx;have na:=sm _ _ (hp.ns n (i7 hn));have tk:(p.bL.take (i+1))=p.bL.take i++[n]:=by rw[AF,hn];rfl
   have hnew:n.name∉ms.map aA.name:=by
    have e1:ms.map aA.name=((p.bL.take i).filter λn=>decide (n.sort=z)).map ax.name:=by
     have:=congrArg (List.map (·.1)) e;rw[gS,gS]at this;exact this
    rw[e1];intro h;obtain⟨n',h1,h2⟩:=cC.mp h;have h3:=(Tb.mp h1).1;have nd:((p.bL.take (i+1)).map ax.name).Nodup:=List.Nodup.sublist (List.Sublist.map _ (List.take_sublist _ _)) hd;rw[tk,eA]at nd;exact(Ee.mp nd).2.2 n'.name (cC.mpr ⟨n',h3,rfl⟩) n.name (by simp) h2
   have hlen:ms.length<=61:=by
    have:=congrArg List.length e;walk_at "1";have h1:=Vf (λn:ax=>decide (n.sort=z)) (p.bL.take i);have h2:=List.length_take_le i p.bL;have h3:(p.bL.take i).length<=p.bL.length:=by rw[pX];omega
    omega
   walk_at "rd";refine⟨_,bB.of na,rfl,_,_,rfl,_,_,rfl,_,_,rfl,_,_,rfl,rfl,rfl,bN (λhz=>?_) (λhz=>?_)⟩
   ·have hz':n.sort=z:=by
     have:=of_decide_eq_true hz;injection this
    refine⟨_,bB.of (sm _ _ hp.top),_,rfl,by walk_at "s", λq hq=>⟨_,gi.k (k:=Sum.inr n.name) (bo hq _ _ tab.top) (by rw[aS,sizeLine_eq];omega),dA hdn (sm.trans (bo hq)),_,(tab.mono (bo hq)).put (m:=⟨n.name,q,p.name,n.st,n.off⟩) aJ,?_⟩⟩;rw[Oo hnew,eA,e,tk,List.filter_append,eA];simp[hz']
   ·have hz':n.sort≠z:=λy=>hz (decide_eq_true (by rw[y]));refine⟨sm,ms,tab,?_⟩;rw[tk,List.filter_append,e];simp[hz']
  ·rintro σ H' ⟨ms,b3,b4,b5,b6,rfl,sm,tab,e⟩;walk_at "2";walk_at "rd";exact k d ms H' sm tab e hdn
theorem QV(T:Txt K mg A):aG P w K mg base bP 2 A.tells A.i5 ["piece"] OW:=by
 refine T.mM.ok IV (λvs H Q E h=>?_) (λcdv Ar outer s H vs Q E hr h=>?_)
 ·obtain⟨p,rfl,_⟩:=h;rfl
 ·obtain⟨p,rfl,hp,hb,k⟩:=h;refine⟨_,(aF (aj (cX (oS rfl (w:=w) rfl) (by rfl) T.d_ pG (ah (jP (Gu rfl (w:=w) rfl (K:=K) rfl) (by rfl) T.Dq TR (ah (gG (wQ ["name", "sort", "stretch", "offset"]) rfl (eN (K:=K) rfl (tx K (pv 0))) (λ_ _ _=>⟨(cR (K:=K) (n:=4) rfl rfl (fD (pn 0 (by walk_at "n")) (fD (pn 1 (by walk_at "n")) (fD (pn 2 (by walk_at "n")) (fD (pn 3 (by walk_at "n")) cQ))))),(Fo (dB Ae (pv 1) au (ar _))),(pv 0)⟩)) aa)) aa)))),?_⟩;walk_at "rd";refine⟨_,bB.of hp.top,_,rfl,?_⟩;refine fF.of (xs:=p.bL.map ax.v) (by rw[aS,sizeLine_eq];have:=hb.nm;omega) (aI.of hp.nl) (λD i ys H'=>aL H H'/\H' D=some (.lst ys)/\ys=(((p.bL.take i).filter λn=>decide (n.sort≠eV)).map ax.name).map V.str)
   (λD hD=>⟨bo hD,aJ,rfl⟩) ?_ ?_ ?_
  ·rintro D i ys H' hD hi ⟨sm,hDD,e⟩;refine⟨sm.seq (aI.of hp.nl),hDD,?_⟩;rw[e,aS,aS];exact zc (Vf _ _) (by rw[pX];omega)
  ·rintro D i x ys H' hD hx ⟨sm,hDD,e⟩;walk_at "0";obtain⟨n,hn,rfl⟩:=iw.mp hx;have na:=sm _ _ (hp.ns n (i7 hn));have tk:(p.bL.take (i+1))=p.bL.take i++[n]:=by rw[AF,hn];rfl
   walk_at "rd";refine⟨_,bB.of na,rfl,_,_,rfl,_,_,rfl,_,_,rfl,_,_,rfl,rfl,.no (.no (.no (.no .nil))),rfl,bN (λh=>?_) (λh=>?_)⟩
   ·have hz:=Rm h;refine⟨hDD,dA hD sm,aJ,?_⟩;rw[e,tk,List.filter_append,eA,eA];simp[hz]
   ·have hz:=Uo h;refine⟨sm,hDD,?_⟩;rw[e,tk,List.filter_append];simp[hz]
  ·rintro D ys H' hD ⟨sm,hDD,e⟩;walk_at "2";have hle:(iZ p).length<=61:=by
    unfold iZ;rw[aS];exact zc (Vf _ _) hb.nm
   refine⟨D,rfl,iZ p,aI.of (by rw[hDD,e];rfl),by omega,λq L hq nd hL hm=>⟨L,aJ,by omega,λl ss hl pm pw=>?_⟩⟩;have s2:=sm.trans (bo (o:=A1 w L q) hq);exact k l _ (s2.trans (bo hl)) ⟨ss,pm.trans (oj nd (BD hb.nd) hm),pw,aJ⟩ (cU s2 hl)
theorem Rb(T:Txt K mg A):aG P w K mg base bP 2 A.wants A.iF ["piece"] JD:=by
 refine T.kx.ok bV (λvs H Q E h=>?_) (λcdv Ar outer s H vs Q E hr h=>?_)
 ·obtain⟨p,rfl,_⟩:=h;rfl
 ·obtain⟨p,rfl,hp,hb,k⟩:=h;refine⟨_,(aE (pS 1 bV.nd (pC (Cw T) hr T.zZ T.qj T.qc (ah (pv 0) (ah au aa)))) (aE (pS 2 bV.nd dz) (aE (pF (eN (K:=K) rfl (tx K (pv 0))) (cR (K:=K) (n:=4) rfl rfl (fD (pn 3 bV.nd) (fD (pn 4 bV.nd) (fD (pn 5 bV.nd) (fD (pn 6 bV.nd) cQ))))) (aF (pF (eN (K:=K) rfl (pv 6)) (cR (K:=K) (n:=5) rfl rfl (fD (pn 7 bV.nd) (fD (pn 8 bV.nd) (fD (pn 9 bV.nd) (fD (pn 10 bV.nd) (fD (pn 11 bV.nd) cQ)))))) (aF (ay (PW.pt (AY (b_ (aW (pv 11))) (rN (nN (jq (cD hr) (pv 9) (pv 1)))))) (aF (fe (cD hr) (pv 2) (pv 9) bw rfl)) cN))))) (aF (aj (cX (yt rfl) (by rfl) T.d_ pG (ah (pv 2) aa))))))),?_⟩;walk_at "rd";refine⟨p,rfl,hp,hb.nm,hb.nd,λdO ms H1 s1 tab eo hdO d hd=>⟨_,bB.of (bo hd _ _ (s1 _ _ hp.top)),_,rfl,?_⟩⟩;have p1:=hp.mono s1;refine h_.of (xs:=p.bW.map bJ.v) (λi σ H'=>∃b3 b4 b5 b6 b7 b8 b9 b10 b11,σ=[some p.v,some (V.ref dO),some (V.ref d),b3,b4,b5,b6,b7,b8,b9,b10,b11]/\aL H1 H'/\H' d=some (.dK (((aV (p.bW.take i)).foldl (gj p) []).map kQ)))
   ⟨_,_,_,_,_,_,_,_,_,rfl,bo hd,aJ⟩ (λi σ H' _ ⟨_,_,_,_,_,_,_,_,_,_,sm,_⟩=>aI.of (sm _ _ p1.sl)) ?_ ?_
  ·rintro i x σ H' hx ⟨b3,b4,b5,b6,b7,b8,b9,b10,b11,rfl,sm,hd'⟩;walk_at "0";obtain⟨st,hst,rfl⟩:=iw.mp hx;have sa0:=p1.ss st (i7 hst);have sa:=sa0.mono sm;have tk:=BO hst;have bd:=MM (p:=p) (i+1);have bd2:=hb.fl;rw[tk,ij]at bd;walk_at "rd";refine⟨_,bB.of sa.top,rfl,_,_,rfl,_,_,rfl,_,_,rfl,_,_,rfl,rfl,?_⟩;refine h_.of (xs:=st.fills.map aq.v) (λj σ H2=>∃b7 b8 b9 b10 b11,σ=[some p.v,some (V.ref dO),some (V.ref d),some (V.str st.kind),some (V.int st.step),some (V.ref st.lw),some (V.ref st.lf),b7,b8,b9,b10,b11]/\aL H1 H2/\H2 d=some (.dK (((aV (p.bW.take i)++st.fills.take j).foldl (gj p) []).map kQ)))
    ⟨_,_,_,_,_,rfl,sm,by rw[hd'];simp⟩ (λj σ H' _ ⟨_,_,_,_,_,_,sm,_⟩=>aI.of (sm _ _ sa0.fl)) ?_ ?_
   ·rintro j x σ H2 hx ⟨b7,b8,b9,b10,b11,rfl,sm2,hd2⟩;walk_at "0";obtain⟨f,hf,rfl⟩:=iw.mp hx;have fa:=sm2 _ _ (sa0.fs f (i7 hf));have tb:=tab.mono sm2;have hj:j<st.fills.length:=(o6.mp hf).1;have gO:cz H2 dO (V.str f.name) ((aP ms f.name).map λm=>V.ref m.t):=by rw[<-Rp];exact cz.k (k:=Sum.inr f.name) tb.top
    have tj:aV (p.bW.take i)++st.fills.take (j+1)=(aV (p.bW.take i)++st.fills.take j)++[f]:=by rw[AF,hf,Vz];rfl
    have ow:=N3 eo f.name;have flen:((aV (p.bW.take i)++st.fills.take j).foldl (gj p) []).length<=70:=by
     have h1:=zJ p (aV (p.bW.take i)++st.fills.take j) [];rw[ij,pX,List.length_nil]at h1;omega
    have step:(aV (p.bW.take i)++st.fills.take (j+1)).foldl (gj p) []=gj p ((aV (p.bW.take i)++st.fills.take j).foldl (gj p) []) f:=by rw[tj,List.foldl_append];rfl
    walk_at "rd";refine⟨_,bB.of fa,rfl,_,_,rfl,_,_,rfl,_,_,rfl,_,_,rfl,_,_,rfl,rfl,_,rfl,bN (λh1=>⟨_,gO,bN (λh2=>?_) (λh2=>?_)⟩) (λh1=>?_)⟩
    ·rw[YG,ow]at h2;refine⟨_,gi.k (k:=Sum.inr f.name) hd2 (by rw[aS,sizeLine_eq];omega),dA hd sm2,?_⟩;rw[aJ,UG,step,zd (by rw[h1,h2];rfl)]
    ·rw[YG,ow]at h2;refine⟨sm2,?_⟩;rw[hd2,step];rw[vJ (by rw[zx];exact λz=>h2 z.2)]
    ·refine⟨sm2,?_⟩;rw[hd2,step];rw[vJ (by rw[zx];exact λz=>h1 z.1)]
   ·rintro σ H2 ⟨b7,b8,b9,b10,b11,rfl,sm2,hd2⟩;rw[aS,AJ]at hd2;exact⟨_,_,_,_,_,_,_,_,_,rfl,sm2,by rw[hd2,tk]⟩
  ·rintro σ H' ⟨b3,b4,b5,b6,b7,b8,b9,b10,b11,rfl,sm,hd'⟩;rw[aS,AJ]at hd';have hle:(jG p).length<=61:=hb.wn;walk_at "rd";have s2:=s1.trans sm;exact⟨_,hd',jG p,WY _,by omega,λl ss hl pm pw=>k l _ (s2.trans (bo hl)) ⟨ss,pm,pw,aJ⟩ (cU s2 hl)⟩
theorem UJ{β:Type}{es:List (Str×Addr×β)}{z:Str}(h:z∉es.map (·.1)):aO (es.map λe=>((.inr e.1:Key),V.ref e.2.1)) (.inr z)=none:=by
 unfold aO;rw[UW.mpr]
 ·rfl
 ·intro x hx;obtain⟨e,he,rfl⟩:=cC.mp hx;intro q;exact h (cC.mpr ⟨e,he,Sum.inr.inj (of_decide_eq_true q)⟩)
theorem ND{β:Type}{es:List (Str×Addr×β)}{z:Str}{v:V}(h:z∉es.map (·.1)):putK (es.map λe=>((.inr e.1:Key),V.ref e.2.1)) (.inr z) v=(es.map λe=>((.inr e.1:Key),V.ref e.2.1))++[(.inr z,v)]:=by
 unfold putK;rw[if_neg];intro q;obtain⟨x,hx,q⟩:=G0.mp q;obtain⟨e,he,rfl⟩:=cC.mp hx;exact h (cC.mpr ⟨e,he,Sum.inr.inj (of_decide_eq_true q)⟩)
theorem VD{kvs:List (Key×V)}{k:Key}{v:V}(h:(k,v)∈kvs):∃v',aO kvs k=some v'/\(k,v')∈kvs:=by
 unfold aO;cases hf:kvs.find? λkv=>decide (kv.1=k) with
 |none=>exact absurd (decide_eq_true (rfl:k=k)) (UW.mp hf (k,v) h)
 |some x=>
  have h1:=List.find?_some hf;have h2:=QF hf;refine⟨x.2,rfl,?_⟩;rw[<-(of_decide_eq_true h1:x.1=k)];exact h2
noncomputable def zF(H:Hp)(b:Addr):Str:=match H b with | some (.tup (.str n::_))=>n | _=>Str.ofString ""
noncomputable def rF(H:Hp)(b:Addr):List V:=match H b with | some (.tup (.str _::r))=>r | _=>[]
theorem IT(at_:∀p∈ps,p.At H)(nd:(ps.map aD.name).Nodup)(pm:bs.Perm (ps.map aD.t)):∃so:List aD,so.Perm ps/\so.map aD.t=bs:=by
 have one:∀p∈ps,∀q∈ps,p.t=q.t->p=q:=λp hp q hq e=>by
  have h1:=(at_ p hp).top;have h2:=(at_ q hq).top;rw[e,h2]at h1;have en:q.name=p.name:=by
   have:=Option.some.inj h1;injection this with this;injection this with this _;injection this
  obtain⟨i,hi,rfl⟩:=List.getElem_of_mem hp;obtain⟨j,hj,rfl⟩:=List.getElem_of_mem hq;have pw:=ycm.mp nd;rcases Nat.lt_trichotomy i j with z|z|z
  ·exact absurd (by rw[List.getElem_map,List.getElem_map];exact en.symm) (pw i j (by simpa using hi) (by simpa using hj) z)
  ·subst z;rfl
  ·exact absurd (by rw[List.getElem_map,List.getElem_map];exact en) (pw j i (by simpa using hj) (by simpa using hi) z)
 let g:Addr->aD:=λb=>(ps.find? λp=>decide (p.t=b)).getD ⟨0,0,0,Str.ofString "", [],[]⟩
 have hg:∀p∈ps,g p.t=p:=λp hp=>by
  show(ps.find? λq=>decide (q.t=p.t)).getD _=p;cases hf:ps.find? λq=>decide (q.t=p.t) with
  |none=>exact absurd (decide_eq_true rfl) (UW.mp hf p hp)
  |some q=>exact(one p hp q (QF hf) (of_decide_eq_true (List.find?_some (p:=λq:aD=>decide (q.t=p.t)) hf)).symm).symm
 refine⟨bs.map g,?_,?_⟩
 ·have:=pm.map g;rw[gS,(RS (f:=g ∘ aD.t) (g:=id) λp hp=>hg p hp),List.map_id]at this;exact this
 ·rw[gS];refine(RS (g:=id) λb hb=>?_).trans (List.map_id _);obtain⟨p,hp,rfl⟩:=cC.mp (pm.mem_iff.mp hb);show(g p.t).t=p.t;rw[hg p hp]
noncomputable def c_(p:aD)(s z:Str):Option (Str×Int×Int):=(p.bL.find? λn=>decide (n.name=z)&&decide (n.sort=s)).map λn=>(p.name,n.st,n.off)
noncomputable def cY(so:List aD)(s z:Str):Option (Str×Int×Int):=so.findSome? λp=>c_ p s z
theorem IQ(ms:List aA)(m:aA)(z:Str):aP (eU ms m) z=if m.name=z then some m else aP ms z:=by
 unfold eU aP;by_cases h:(ms.any λn=>decide (n.name=m.name))=true
 ·rw[if_pos h];by_cases e:m.name=z
  ·rw[if_pos e]
   induction ms with
   |nil=>cases h
   |cons n r ih=>
    rw[pJ,TM];by_cases q:n.name=m.name
    ·rw[if_pos q,decide_eq_true e]
    ·rw[if_neg q,decide_eq_false (λy=>q (y.trans e.symm))];refine ih ?_;rw[List.any_cons,decide_eq_false q]at h;exact h
  ·rw[if_neg e];clear h
   induction ms with
   |nil=>rfl
   |cons n r ih=>
    rw[pJ,TM,TM];by_cases q:n.name=m.name
    ·rw[if_pos q,decide_eq_false e,decide_eq_false (λy=>e (q.symm.trans y))];exact ih
    ·rw[if_neg q];by_cases y:n.name=z
     ·rw[decide_eq_true y]
     ·rw[decide_eq_false y];exact ih
 ·rw[if_neg h,List.find?_append];by_cases e:m.name=z
  ·rw[if_pos e,UW.mpr]
   ·rw[TM,decide_eq_true e];rfl
   ·intro n hn q;exact h (G0.mpr ⟨n,hn,decide_eq_true ((of_decide_eq_true q).trans e.symm)⟩)
  ·rw[if_neg e,TM,decide_eq_false e];cases ms.find? λn=>decide (n.name=z)<;>rfl
theorem Ub(h:(ms.map aA.name).Nodup):((eU ms m).map aA.name).Nodup:=by
 unfold eU;by_cases q:(ms.any λn=>decide (n.name=m.name))=true
 ·rw[if_pos q,gS];have e:(aA.name ∘ λn=>if n.name=m.name then m else n)=aA.name:=by
   funext n;show aA.name (if n.name=m.name then m else n)=n.name;by_cases y:n.name=m.name
   ·rw[if_pos y,y]
   ·rw[if_neg y]
  rw[e];exact h
 ·rw[if_neg q,eA];refine Ee.mpr ⟨h,by simp,λx hx y hy e=>?_⟩;obtain⟨n,hn,rfl⟩:=cC.mp hx;rw[List.map_singleton,fN]at hy;exact q (G0.mpr ⟨n,hn,decide_eq_true (e.trans hy)⟩)
theorem E5:∀(ns ms:List aA),nY (ms.map aA.kv) (ns.map aA.kv)=(ns.foldl eU ms).map aA.kv
 |[],ms=>rfl
 |n::ns,ms=>by
  rw[pJ,PF,<-E5 ns,<-OK];rfl
theorem Aw:∀{ns ms:List aA},(ms.map aA.name).Nodup->((ns.foldl eU ms).map aA.name).Nodup
 |[],_,h=>h
 |n::ns,ms,h=>Aw (ns:=ns) (Ub h)
theorem pO:∀{ns ms:List aA}{m:aA},m∈ns.foldl eU ms->m∈ns\/m∈ms
 |[],_,_,h=>.inr h
 |n::ns,ms,m,h=>by
  rcases pO (ns:=ns) h with z|z
  ·exact .inl (Bv _ z)
  ·rcases ze z with y|y
   ·exact .inr y
   ·exact .inl (y▸Qw)
theorem pD:∀{ns ms:List aA},(ns.foldl eU ms).length<=ms.length+ns.length
 |[],_=>bA _
 |n::ns,ms=>by
  have h1:=pD (ns:=ns) (ms:=eU ms n);have h2:=Ju (ms:=ms) (m:=n);rw[PF,pR];omega
theorem n_:∀{ns ms:List aA}{z:Str},(ns.map aA.name).Nodup->aP (ns.foldl eU ms) z=(aP ns z).or (aP ms z)
 |[],ms,z,_=>rfl
 |n::ns,ms,z,h=>by
  rw[pJ]at h;obtain⟨h1,h2⟩:=Fm.mp h;rw[PF,n_ h2,IQ];by_cases e:n.name=z
  ·rw[if_pos e];have:aP ns z=none:=UW.mpr λm hm q=>h1 (cC.mpr ⟨m,hm,(of_decide_eq_true q).trans e.symm⟩);rw[this];unfold aP;rw[TM,decide_eq_true e];rfl
  ·rw[if_neg e];unfold aP;rw[TM,decide_eq_false e]
theorem Gs(e:ms.map (λm=>(m.name,m.a,m.b,m.c))=(p.bL.filter λn=>decide (n.sort=s)).map (λn=>(n.name,p.name,n.st,n.off))):(aP ms z).map aA.vl=c_ p s z:=by
 have h1:(aP ms z).map aA.vl=((ms.map (λm=>(m.name,m.a,m.b,m.c))).find? λt=>decide (t.1=z)).map (·.2):=by
  unfold aP;rw[Wh,Option.map_map];rfl
 rw[h1,e,Wh,Option.map_map,List.find?_filter];unfold c_;congr 1;refine congrArg (λf=>List.find? f p.bL) (funext λn=>?_);show decide (decide (n.sort=s)=true/\decide (n.name=z)=true)=_;by_cases a:n.name=z<;>by_cases b:n.sort=s<;>simp[a,b]
theorem PK{p:aD}{s:Str}{ms:List aA}(h:(p.bL.map ax.name).Nodup)(e:ms.map (λm=>(m.name,m.a,m.b,m.c))=(p.bL.filter λn=>decide (n.sort=s)).map (λn=>(n.name,p.name,n.st,n.off))):(ms.map aA.name).Nodup:=by
 have e1:ms.map aA.name=(p.bL.filter λn=>decide (n.sort=s)).map ax.name:=by
  have:=congrArg (List.map (·.1)) e;rw[gS,gS]at this;exact this
 rw[e1];exact List.Nodup.sublist (List.Sublist.map _ List.filter_sublist) h
theorem Oy{p:aD}{s:Str}{ms:List aA}(e:ms.map (λm=>(m.name,m.a,m.b,m.c))=(p.bL.filter λn=>decide (n.sort=s)).map (λn=>(n.name,p.name,n.st,n.off))):ms.length<=p.bL.length:=by
 have:=congrArg List.length e;walk_at "1";have h1:=Vf (λn:ax=>decide (n.sort=s)) p.bL;omega
theorem pe(h:c_ p s z=some v):∃n∈p.bL,n.name=z/\n.sort=s/\v=Xd (p.name,n):=by
 unfold c_ at h;obtain⟨n,h1,h2⟩:=iw.mp h;have h3:=List.find?_some h1;rw[zx]at h3;exact⟨n,QF h1,of_decide_eq_true h3.1,of_decide_eq_true h3.2,h2.symm⟩
theorem gH(h:c_ p s z=none):∀n∈p.bL,n.name=z->n.sort≠s:=λn hn h1 h2=>by
 unfold c_ at h;have:=UW.mp (Option.map_eq_none_iff.mp h) n hn;exact this (by rw[decide_eq_true h1,decide_eq_true h2];rfl)
theorem fV:r∈fH ps↔∃p∈ps,p.name=r.1/\r.2∈p.bL:=by
 unfold fH;rw[A_];constructor
 ·rintro⟨p,hp,h⟩;obtain⟨n,hn,rfl⟩:=cC.mp h;exact⟨p,hp,rfl,hn⟩
 ·rintro⟨p,hp,h1,h2⟩;exact⟨p,hp,cC.mpr ⟨r.2,h2,by rw[h1]⟩⟩
theorem Xn(pm:so.Perm ps)(pw:(so.map λp=>((p.name,0):cb)).Pairwise zV)(nd:(ms.map aA.name).Nodup)(h:∀z,(aP ms z).map aA.vl=(cY so dD z).or (cY so dX z)):Qd (fH ps) ms:=by
 refine⟨nd,λz m hm=>?_,λz hz r hr hn=>?_⟩
 ·have e:=h z;rw[hm]at e;cases h1:cY so dD z with
  |some v=>
   rw[h1]at e;obtain⟨p,hp,hv⟩:=List.exists_of_findSome?_eq_some h1;obtain⟨n,hn,q1,q2,q3⟩:=pe hv;exact .inl ⟨(p.name,n),fV.mpr ⟨p,pm.mem_iff.mp hp,rfl,hn⟩,q1,q2,(Option.some.inj e).trans q3⟩
  |none=>
   rw[h1]at e;refine .inr ⟨λr hr hn=>?_,?_⟩
   ·obtain⟨p,hp,q1,q2⟩:=fV.mp hr;exact gH (List.findSome?_eq_none_iff.mp h1 p (pm.mem_iff.mpr hp)) r.2 q2 hn
   ·obtain⟨l1,p,l2,el,hv,nn⟩:=List.findSome?_eq_some_iff.mp (show cY so dX z=some (aA.vl m) from e.symm);obtain⟨n,hn,q1,q2,q3⟩:=pe hv;have hp:p∈so:=by rw[el];simp
    refine⟨(p.name,n),fV.mpr ⟨p,pm.mem_iff.mp hp,rfl,hn⟩,q1,q2,q3,λr' hr' n' s'=>?_⟩;obtain⟨q,hq,y1,y2⟩:=fV.mp hr';have hq':=pm.mem_iff.mpr hq;rw[el]at hq';rcases fY.mp hq' with y|y
    ·exact absurd s' (gH (nn q y) r'.2 y2 n')
    ·rcases i_.mp y with y|y
     ·rw[<-y1,y];exact List.lt_irrefl _
     ·rw[el,eA,pJ]at pw;have:=(List.pairwise_cons.mp (List.pairwise_append.mp pw).2.1).1 (q.name,0) (cC.mpr ⟨q,y,rfl⟩);show ¬r'.1.cps.toList<p.name.cps.toList;rw[<-y1];intro z;unfold zV at this;rw[(eX (q.name,0) (p.name,0)).mpr (.inl z)]at this;cases this
 ·have e:=h z;rw[hz]at e;have e:(cY so dD z).or (cY so dX z)=none:=e.symm;obtain⟨e1,e2⟩:=Option.or_eq_none_iff.mp e;obtain⟨p,hp,q1,q2⟩:=fV.mp hr;have hp':=pm.mem_iff.mpr hp;exact⟨gH (List.findSome?_eq_none_iff.mp e1 p hp') r.2 q2 hn,gH (List.findSome?_eq_none_iff.mp e2 p hp') r.2 q2 hn⟩
theorem A0(so:List aD)(s z:Str)(b:Option (Str×Int×Int)):so.reverse.foldl (λb p=>(c_ p s z).or b) b=(cY so s z).or b:=by
 induction so with
 |nil=>rfl
 |cons p r ih=>
  rw[List.reverse_cons,List.foldl_append,ih];unfold cY;rw[List.findSome?_cons];show(c_ p s z).or ((r.findSome? λp=>c_ p s z).or b)=_;cases c_ p s z<;>rfl
structure TwI(H:Hp)(d:Addr)(es:List (Str×Addr×Str)):Prop where
 top:H d=some (.dK (es.map λe=>((.inr e.1:Key),V.ref e.2.1)))
 one:∀e∈es,H e.2.1=some (.lst [.str e.2.2])
theorem Wy(T:Txt K mg A):aG P w K mg base bP 2 A.ZM A.rg ["ordered"] GU:=by
 refine T.Fn.ok nj (λvs H Q E h=>?_) (λcdv Ar outer s H vs Q E hr h=>?_)
 ·obtain⟨L,ps,rfl,_⟩:=h;rfl
 ·obtain⟨L,ps,rfl,hP,hN,k⟩:=h;refine⟨_,(aE (pS 1 nj.nd dz) (aE (pF (eN (K:=K) rfl (pv 0)) (pn 2 nj.nd) (aF (pF (Ec (pC (Cw T) hr T.zZ T.qj T.qc (ah (pv 2) (ah au aa)))) (pn 3 nj.nd) (aF (bx (f_ (Kq (cD hr) (pv 1) (pv 3) (bS aa) ⟨rfl,rfl,rfl,rfl⟩) (ah (tx K (pv 2)) aa))))))) (aE (gE (i:=4) nj.nd rfl (by walk_at "o") (u5 (own:=["name"]) (fr:=["tellers"]) (fm:=[1]) rfl (by decide +kernel) (by decide +kernel) (by decide +kernel) (.cons rfl (by walk_at "o") rfl .nil)) rfl (Ec (pv 1)) (λ_ _ _=>⟨(pn 0 (by walk_at "n")),(Fo (dB YQ (cX (bX (K:=K) rfl) (by rfl) T.eS eG (ah (iT (cD hr) (pv 1) (pv 0) (λ_ _=>rfl)) aa)) af (ar _))),(pv 0)⟩)) (aF (ay (nv (pv 4) (λ_=>rfl)) (aE ix (aF ix)) cN))))),?_⟩;walk_at "rd";intro d hd;refine h_.of (xs:=ps.map aD.v) (λi σ H'=>∃(es:List (Str×Addr×Str)) (b2 b3:Option V),σ=[some (.ref L),some (.ref d),b2,b3,none,none]/\aL H H'/\TwI H' d es/\es.length<=61*i/\∀e∈es,∃p∈ps.take i,∃n∈p.bL,n.sort=dD/\n.name=e.1)
   ⟨[],_,_,rfl,bo hd,⟨aJ,λe he=>by cases he⟩,by simp,λe he=>by cases he⟩ ?_ ?_ ?_
  ·rintro i σ H' hi ⟨es,b2,b3,rfl,s1,_⟩;exact aI.of (s1 _ _ hP.top)
  ·rintro i v σ H' hv ⟨es,b2,b3,rfl,s1,tw,el,ek⟩;walk_at "3";obtain⟨p,hp,rfl⟩:=iw.mp hv;have hm:=i7 hp;have pa:=(hP.at_ p hm).mono s1;obtain⟨n1,n2⟩:=hN.bL p hm;walk_at "rd";refine⟨p,rfl,pa,n1,n2,λd2 ms H2 s2 tab em f2=>?_⟩;refine P_.of tab.top (λo j σ H3=>∃(es':List (Str×Addr×Str)) (b3:Option V),σ=[some (.ref L),some (.ref d),some p.v,b3,none,none]/\aL H H3/\H3 d2=some (.g9 o (.dK (ms.map aA.kv)))/\TwI H3 d es'/\es'.map (·.1)=es.map (·.1)++(ms.take j).map aA.name) ?_ ?_ ?_ ?_
   ·intro o;have nd2:d2≠d:=λe=>by rw[e,tw.top]at f2;cases f2
    have nf:∀x u,H' x=some u->upd H2 d2 (.g9 o (.dK (ms.map aA.kv))) x=some u:=λx u e=>by rw[ae (bf e f2)];exact s2 _ _ e
    exact⟨es,_,rfl,λx u e=>nf x u (s1 _ _ e),aJ,⟨nf _ _ tw.top,λe he=>nf _ _ (tw.one e he)⟩,by simp⟩
   ·rintro o j σ H3 hj ⟨es',b3,rfl,s3,hz,_⟩;exact hz
   ·rintro o j pr σ H3 hv ⟨es',b3,rfl,s3,hz,tw',ek'⟩;walk_at "3";obtain⟨m,hj,rfl⟩:=iw.mp hv;have new:m.name∉es'.map (·.1):=by
     have nn:∀m∈ms,∃n∈p.bL,n.sort=dD/\n.name=m.name:=λm hm=>by
      have:(m.name,m.a,m.b,m.c)∈ms.map λm=>(m.name,m.a,m.b,m.c):=cC.mpr ⟨m,hm,rfl⟩;rw[em]at this;obtain⟨n,hn,e⟩:=cC.mp this;obtain⟨q1,q2⟩:=Tb.mp hn;exact⟨n,q1,of_decide_eq_true q2,congrArg (·.1) e⟩
     have mnd:(ms.map aA.name).Nodup:=by
      have e1:ms.map aA.name=(p.bL.filter λn=>decide (n.sort=dD)).map ax.name:=by
       have:=congrArg (List.map (·.1)) em;rw[gS,gS]at this;exact this
      rw[e1];exact List.Nodup.sublist (List.Sublist.map _ List.filter_sublist) n2
     rw[ek'];intro z;rcases fY.mp z with z|z
     ·obtain⟨e,he,ee⟩:=cC.mp z;obtain⟨q,hq,n,hn,q1,q2⟩:=ek e he;obtain⟨n',hn',q3,q4⟩:=nn m (i7 hj);have pw:=hN.tw;obtain⟨k',hk',hqk⟩:=List.getElem_of_mem hq;rw[pX]at hk';rw[List.getElem_take]at hqk;have pi:=(o6.mp hp)
      obtain⟨pi1,pi2⟩:=pi;have:=ycm.mp pw k' i (by omega) pi1 (by omega);rw[hqk,pi2]at this;exact this n hn n' hn' q1 q3 (by rw[q2,q4,ee])
     ·have:(ms.take (j+1)).map aA.name=(ms.take j).map aA.name++[m.name]:=by rw[AF,hj,eA];rfl
      have nd':((ms.take (j+1)).map aA.name).Nodup:=List.Nodup.sublist (List.Sublist.map _ (List.take_sublist _ _)) mnd;rw[this]at nd';exact(Ee.mp nd').2.2 _ z _ (by simp) rfl
    have pa3:=(hP.at_ p hm).mono s3;walk_at "rd";have vn:aO (es'.map λe=>((.inr e.1:Key),V.ref e.2.1)) (.inr m.name)=none:=UJ new;have pn:putK (es'.map λe=>((.inr e.1:Key),V.ref e.2.1)) (.inr m.name) (V.ref 0)=(es'.map λe=>((.inr e.1:Key),V.ref e.2.1))++[(.inr m.name,V.ref 0)]:=ND new;have el':=congrArg List.length ek';rw[ij,aS,aS,aS,pX]at el';have ml:ms.length<=61:=by
     have:=congrArg List.length em;walk_at "1";have h1:=Vf (λn:ax=>decide (n.sort=Str.ofString "tell")) p.bL;omega
    have il:=(o6.mp hp).1;have fw:=hN.gq;refine⟨.inl ⟨_,.inl tw'.top⟩,i8 _,λl hl=>?_⟩;have sl:=bo (o:=HO.lst []) hl;have nl:d≠l:=bf tw'.top hl;refine⟨none,.inl ⟨_,.inr m.name,.inl (sl _ _ tw'.top),rfl,vn.symm⟩,_,gi.k (k:=.inr m.name) (sl _ _ tw'.top) (by rw[aS,sizeLine_eq];omega),(λv hv=>by cases hv),λ_=>?_⟩;have l1:upd (upd H3 l (.lst [])) d (.dK (putK (es'.map λe=>((.inr e.1:Key),V.ref e.2.1)) (.inr m.name) (.ref l))) l=some (.lst []):=by rw[ae (Ne.symm nl),aJ]
    have tp:upd (upd H3 l (.lst [])) d (.dK (putK (es'.map λe=>((.inr e.1:Key),V.ref e.2.1)) (.inr m.name) (.ref l))) p.t=some (.tup [.str p.name,.ref p.ls,.ref p.ln]):=by
     rw[ae (aR pa3.top tw'.top (by intro z;cases z))];exact sl _ _ pa3.top
    refine⟨.inl ⟨rfl,_,aI.of l1⟩,_,bB.of tp,_,rfl,_,l1,by walk_at "s", ?_,?_,es'++[(m.name,l,p.name)],⟨?_,λe he=>?_⟩,?_⟩
    ·exact dA (s3.free hl) (dA hd (s3.trans sl))
    ·have n2':d2≠d:=λe=>by rw[e,tw'.top]at hz;cases hz
     rw[ae (bf hz hl),ae n2'];exact sl _ _ hz
    ·rw[ae nl,aJ,ND new,eA];rfl
    ·rcases fY.mp he with z|z
     ·have e1:=tw'.one e z;rw[ae (bf e1 hl),ae (aR e1 tw'.top (by intro z;cases z))];exact sl _ _ e1
     ·rw[fN.mp z];exact aJ
    ·rw[eA,ek',Vz,AF,hj,eA];rfl
   ·rintro o σ H3 ⟨es',b3,rfl,s3,hz,tw',ek'⟩;rw[aS,AJ]at ek';have ml:ms.length<=61:=by
     have:=congrArg List.length em;walk_at "1";have h1:=Vf (λn:ax=>decide (n.sort=Str.ofString "tell")) p.bL;omega
    have el':=congrArg List.length ek';rw[ij,aS,aS,aS]at el';walk_at "4";refine⟨es',_,_,rfl,s3,tw',by omega,λe he=>?_⟩;have:e.1∈es'.map (·.1):=cC.mpr ⟨e,he,rfl⟩;rw[ek']at this;rcases fY.mp this with z|z
    ·obtain⟨e0,he0,e1⟩:=cC.mp z;obtain⟨q,hq,n,hn,q1,q2⟩:=ek e0 he0;exact⟨q,by rw[tk];exact BP _ hq,n,hn,q1,by rw[q2,e1]⟩
    ·obtain⟨m,hm',e1⟩:=cC.mp z;have:(m.name,m.a,m.b,m.c)∈ms.map λm=>(m.name,m.a,m.b,m.c):=cC.mpr ⟨m,hm',rfl⟩;rw[em]at this;obtain⟨n,hn,e2⟩:=cC.mp this;obtain⟨q1,q2⟩:=Tb.mp hn;exact⟨p,by rw[tk];simp,n,q1,of_decide_eq_true q2,by rw[<-e1];exact congrArg (·.1) e2⟩
  ·rintro σ H' ⟨es,b2,b3,rfl,s1,tw,el,ek⟩;walk_at "rd";rw[aS]at el;have gq:=hN.gq;refine D9.of (by rw[aS,sizeLine_eq];omega) tw.top (λo D i ys H2=>ys=[]/\H2=upd (upd H' d (.g9 o (.dK (es.map λe=>((.inr e.1:Key),V.ref e.2.1))))) D (.lst [])) (λo D hD=>⟨rfl,rfl⟩) ?_ ?_ ?_
   ·rintro o D i ys H2 hD hi ⟨rfl,rfl⟩;exact⟨by rw[ae (bf tw.top hD),aJ],aJ,i8 _⟩
   ·rintro o D i pr ys H2 hD hv ⟨rfl,rfl⟩;walk_at "3";obtain⟨e,he,rfl⟩:=iw.mp hv;walk_at "rd";obtain⟨v',v1,v2⟩:=VD (cC.mpr ⟨e,i7 he,rfl⟩:((.inr e.1:Key),V.ref e.2.1)∈es.map λe=>((.inr e.1:Key),V.ref e.2.1));obtain⟨e',he',ee⟩:=cC.mp v2;have ev:V.ref e'.2.1=v':=congrArg (·.2) ee;subst ev;have hd2:upd (upd H' d (.g9 o (.dK (es.map λe=>((.inr e.1:Key),V.ref e.2.1))))) D (.lst []) d=some (.g9 o (.dK (es.map λe=>((.inr e.1:Key),V.ref e.2.1)))):=by rw[ae (bf tw.top hD),aJ]
    have o1:=tw.one e' he';refine⟨.no (.yes .nil),_,.inl ⟨_,.inr e.1,.inr ⟨o,hd2⟩,rfl,v1.symm⟩,1,.inl ⟨[.str e'.2.2],aI.of (by rw[ae (bf o1 hD),ae (aR o1 tw.top (by intro z;cases z))];exact o1),rfl⟩,?_⟩;rw[if_neg (by decide)];trivial
   ·rintro o D ys H2 hD ⟨rfl,rfl⟩;refine⟨false,.inl ⟨[],aI.of aJ,rfl⟩,?_⟩;rw[if_neg (by decide)];exact k _ (dA (s1.free hD) (dA hd s1))
theorem Ye.perm(h:Ye ps)(pm:so.Perm ps):Ye so:=
 ⟨by rw[pm.length_eq];exact h.gq,(pm.map _).nodup_iff.mpr h.nd,λp hp=>h.bL p (pm.mem_iff.mp hp),(pm.pairwise_iff λ{x y} r a ha b hb h1 h2 e=>r b hb a ha h2 h1 e.symm).mpr h.tw⟩
theorem Wt(T:Txt K mg A):aG P w K mg base bP 6 A.WR A.nQ ["pieces"] (B7 A):=by
 refine T.C2.okC T.Ms oa (λvs H Q E h=>?_) (λc cdv Ar outer s H vs Q E hcd hcc hr h=>?_)
 ·obtain⟨L,ps,rfl,_⟩:=h;rfl
 ·obtain⟨L,ps,rfl,hP,hN,tb,k⟩:=h;refine⟨_,(aE (pS 1 oa.nd (zO (K:=K) (P:=A.bh) (y := "piece") rfl (hr.mono (by decide)) (pv 0) (by rfl) T.d_ hcd hcc T.bm ⟨rfl,rfl,rfl,by decide +kernel,rfl,by decide +kernel,by decide +kernel⟩ (λ_ _ _ _ _ _=>(tx K (pv 0))))) (aE (bx (pC (Wy T) hr T.Sj T.NF T.K6 (ah (pv 1) aa))) (aE (pS 2 oa.nd dz) (aE (pF (Qb (K:=K) rfl (a_ (ah au (ah au aa)))) (pn 3 oa.nd) (aF (pF (Vu (K:=K) rfl rfl T.fC (pv 1)) (pn 4 oa.nd) (aF (bx (KQ PySem.F.plainAttrs_dict PySem.F.slot_dict_update PySem.F.type_dict_update B3 (pv 2) (ah (pC (Cw T) hr T.zZ T.qj T.qc (ah (pv 4) (ah (pv 3) aa))) aa))))))) (aF (aj (pv 2))))))),?_⟩;walk_at "rd";obtain⟨ps0,hT,_⟩:=id tb;have hz:∀p∈ps,zF H p.t=p.name/\rF H p.t=[.ref p.ls,.ref p.ln]:=λp hp=>by
   unfold zF rF;rw[(hP.at_ p hp).top];exact⟨rfl,rfl⟩
  refine⟨ps.map aD.t,by rw[gS];exact aI.of hP.top,zF H,rF H,λb hb=>?_,by rw[aS];have:=hN.gq;omega,tb,λl bs H2 l0 pm pw sx tb2 hl=>?_⟩
  ·obtain⟨p,hp,rfl⟩:=cC.mp hb;rw[(hz p hp).1,(hz p hp).2];exact(hP.at_ p hp).top
  obtain⟨so,sp,rfl⟩:=IT hP.at_ hN.nd pm;have pw2:(so.map λp=>((p.name,0):cb)).Pairwise zV:=by
   rw[gS]at pw
   rwa [RS (g:=λp:aD=>((p.name,0):cb)) λp hp=>by show(zF H p.t,(0:Int))=_;rw[(hz p (sp.mem_iff.mp hp)).1]]at pw
  have hP2:PL H2 l so:=⟨by rw[gS]at hl;exact hl,λp hp=>(hP.at_ p (sp.mem_iff.mp hp)).keep hT sx⟩
  have hN2:=hN.perm sp;refine⟨so,hP2,hN2,λH3 s3 d hd=>⟨by rw[sizeLine_eq];decide,λq hq=>?_⟩⟩;have s4:=bo (o:=HO.dK []) hd;have s5:=bo (o:=HO.tup [V.str (Str.ofString "weak"),V.str (Str.ofString "tell")]) hq;have d5:upd (upd H3 d (.dK [])) q (.tup [V.str (Str.ofString "weak"),V.str (Str.ofString "tell")]) d=some (.dK []):=s5 _ _ aJ;have q5:upd (upd H3 d (.dK [])) q (.tup [V.str (Str.ofString "weak"),V.str (Str.ofString "tell")]) q=some (.tup [V.str (Str.ofString "weak"),V.str (Str.ofString "tell")]):=aJ;have s25:aL H2 (upd (upd H3 d (.dK [])) q (.tup [V.str (Str.ofString "weak"),V.str (Str.ofString "tell")])):=s3.trans (s4.trans s5);have d2:H2 d=none:=s3.free hd;have ndq:d≠q:=bf (aJ (H:=H3) (a:=d) (o:=HO.dK [])) hq;have gq:=hN2.gq;generalize upd (upd H3 d (.dK [])) q (.tup [V.str (Str.ofString "weak"),V.str (Str.ofString "tell")])=H5 at *;refine Q0.of (xs:=[V.str (Str.ofString "weak"),V.str (Str.ofString "tell")]) (λa σ H'=>∃(ms:List aA) (b3 b4:Option V),σ=[some (.ref L),some (.ref l),some (.ref d),b3,b4]/\aL H2 H'/\H' q=some (.tup [V.str (Str.ofString "weak"),V.str (Str.ofString "tell")])/\Tab H' d ms/\ms.length<=61*14*a/\(ms.map aA.name).Nodup/\∀z,(aP ms z).map aA.vl=if a=0 then none else if a=1 then cY so dX z else (cY so dD z).or (cY so dX z))
   ⟨[],_,_,rfl,s25,q5,⟨d5,λm hm=>by cases hm⟩,by simp,by simp,λz=>rfl⟩ ?_ ?_ ?_
  ·rintro a σ H' ha ⟨ms,b3,b4,rfl,s6,hq6,_⟩;exact bB.of hq6
  ·rintro a v σ H' hv ⟨ms,b3,b4,rfl,s6,hq6,tab,len,nd,look⟩;obtain⟨s,hs,rfl,ha⟩:∃s:Str,True/\v=.str s/\((a=0/\s=dX)\/(a=1/\s=dD)):=by
    match a,hv with
    |0,hv=>cases hv;exact⟨_,trivial,rfl,.inl ⟨rfl,rfl⟩⟩
    |1,hv=>cases hv;exact⟨_,trivial,rfl,.inr ⟨rfl,rfl⟩⟩
   walk_at "rd";refine Rh.of (xs:=so.map aD.v) (λi σ H'=>∃(ms':List aA) (b4:Option V),σ=[some (.ref L),some (.ref l),some (.ref d),some (.str s),b4]/\aL H2 H'/\H' q=some (.tup [V.str (Str.ofString "weak"),V.str (Str.ofString "tell")])/\Tab H' d ms'/\ms'.length<=61*14*a+61*i/\(ms'.map aA.name).Nodup/\∀z,(aP ms' z).map aA.vl=(so.reverse.take i).foldl (λb p=>(c_ p s z).or b) ((aP ms z).map aA.vl))
    ⟨ms,_,rfl,s6,hq6,tab,by omega,nd,λz=>rfl⟩ ?_ ?_ ?_
   ·rintro i σ H7 hi ⟨ms',b4,rfl,s7,_⟩;exact aI.of (s7 _ _ hP2.top)
   ·rintro i v σ H7 hv ⟨ms',b4,rfl,s7,hq7,tab7,len7,nd7,look7⟩;rw[<-List.map_reverse,oR]at hv;obtain⟨p,hp,rfl⟩:=iw.mp hv;have pm':p∈so:=List.mem_reverse.mp (i7 hp);have il:=(o6.mp hp).1;rw[List.length_reverse]at il;have pa:=(hP2.at_ p pm').mono s7;obtain⟨n1,n2⟩:=hN2.bL p pm';walk_at "rd";refine⟨.inr (.inr (.inl ⟨rfl,.inl ⟨_,tab7.top⟩⟩)),p,rfl,pa,n1,n2,λd8 ns H8 s8 tab8 em f8=>?_⟩;have nd8:d≠d8:=bf tab7.top f8;have tl:=Oy em;have tab7':=tab7.mono s8;refine⟨_,tab7'.top,_,tab8.top,nd8,by rw[aS,aS];rcases ha with ⟨rfl,_⟩|⟨rfl,_⟩<;>omega,?_⟩;rw[E5];refine⟨dA d2 (s7.trans s8),?_,ns.foldl eU ms',⟨aJ,λm hm=>?_⟩,?_,Aw nd7,λz=>?_⟩
    ·rw[ae (aR hq7 tab7.top (by intro z;cases z))];exact s8 _ _ hq7
    ·have key:aA.At H8 m:=(pO hm).elim (λy=>tab8.at_ m y) λy=>tab7'.at_ m y;unfold aA.At;rw[ae (aR key tab7'.top (by intro z;cases z))];exact key
    ·have:=pD (ns:=ns) (ms:=ms');omega
    ·rw[n_ (PK n2 em),AF,hp,List.foldl_append];show _=(c_ p s z).or _;rw[<-look7 z,<-Gs em];cases aP ns z<;>rfl
   ·rintro σ H7 ⟨ms',b4,rfl,s7,hq7,tab7,len7,nd7,look7⟩;rw[aS]at len7;refine⟨ms',_,_,rfl,s7,hq7,tab7,by omega,nd7,λz=>?_⟩;rw[look7 z,aS,List.take_of_length_le (by rw[List.length_reverse];exact bA _),A0,look z];rcases ha with ⟨rfl,rfl⟩|⟨rfl,rfl⟩
    ·show(cY so dX z).or none=cY so dX z;rw[Option.or_none]
    ·rfl
  ·rintro σ H' ⟨ms,b3,b4,rfl,s6,hq6,tab,len,nd,look⟩;walk_at "rd";have dP:d≠A.bh:=λe=>by
    obtain⟨_,e1,_⟩:=tb2;rw[e,e1]at d2;cases d2
   exact k d ms H' (λb o n e=>s6 _ _ (sx b o n e)) (tb2.more s6) tab (Xn sp pw2 nd λz=>by rw[look z];rfl) (sx.free dP d2)
theorem Rr(b:RZ p):(iZ p).length<=61:=by
 unfold iZ;rw[aS];exact zc (Vf _ _) b.nm
theorem Oe:z∈iZ p↔gm z (ba p)=true:=by
 unfold iZ gm ba;simp only[List.any_map,List.any_eq_true,List.mem_map,List.mem_filter];constructor
 ·rintro⟨n,⟨h1,h2⟩,rfl⟩;have h2:n.sort≠eV:=of_decide_eq_true h2;refine⟨n,h1,?_⟩;show(decide (n.name=n.name) && !decide (n.sort=eV))=true;rw[decide_eq_true rfl,decide_eq_false h2];rfl
 ·rintro⟨n,h1,h2⟩;have h2:(decide (n.name=z) && !decide (n.sort=eV))=true:=h2;rw[zx,Bool.not_eq_true',decide_eq_false_iff_not]at h2;exact⟨n,⟨h1,decide_eq_true h2.2⟩,of_decide_eq_true h2.1⟩
def Km(p:aD)(z:Str):Prop:=∃f∈aV p.bW,(!f.soft && !eL p f.name)=true/\f.name=z
theorem Oj(p:aD)(z:Str):K5 z (ba p)=eL p z:=by
 unfold K5 eL ba;rw[List.any_map];rfl
theorem GQ:Km p z↔dS z (ba p)=true:=by
 unfold Km dS;rw[Oj,zx];have e:(ba p).2.2=p.bW.map bJ.e:=rfl;rw[e,List.any_map,G0];constructor
 ·rintro⟨f,hf,h,rfl⟩;obtain⟨s,hs,hf⟩:=A_.mp hf;rw[zx]at h;exact⟨h.2,s,hs,G0.mpr ⟨aq.e f,cC.mpr ⟨f,hf,rfl⟩,by rw[zx];exact⟨decide_eq_true rfl,h.1⟩⟩⟩
 ·rintro⟨h0,s,hs,h⟩;obtain⟨g,hg,h⟩:=G0.mp h;obtain⟨f,hf,rfl⟩:=cC.mp hg;rw[zx]at h;have hn:f.name=z:=of_decide_eq_true h.1;exact⟨f,A_.mpr ⟨s,hs,hf⟩,by rw[zx,hn];exact⟨h.2,h0⟩,hn⟩
theorem Mn:z∈addW W y↔z∈W\/z=y:=by
 unfold addW;split
 ·rename_i h;exact⟨.inl,λq=>q.elim id λe=>e▸h⟩
 ·simp
theorem AB(p:aD){z:Str}:∀(fs:List aq) (W:List Str),z∈fs.foldl (gj p) W↔z∈W\/∃f∈fs,(!f.soft && !eL p f.name)=true/\f.name=z
 |[],W=>by simp
 |f::fs,W=>by
  rw[PF,AB p fs];by_cases h:(!f.soft && !eL p f.name)=true
  ·rw[zd h,Mn];constructor
   ·rintro ((q|q)|⟨g,hg,q⟩)
    ·exact .inl q
    ·exact .inr ⟨f,Qw,h,q.symm⟩
    ·exact .inr ⟨g,Bv _ hg,q⟩
   ·rintro (q|⟨g,hg,q⟩)
    ·exact .inl (.inl q)
    ·rcases i_.mp hg with e|e
     ·exact .inl (.inr (by rw[<-q.2,e]))
     ·exact .inr ⟨g,e,q⟩
  ·rw[vJ h];constructor
   ·rintro (q|⟨g,hg,q⟩)
    ·exact .inl q
    ·exact .inr ⟨g,Bv _ hg,q⟩
   ·rintro (q|⟨g,hg,q⟩)
    ·exact .inl q
    ·rcases i_.mp hg with e|e
     ·rw[e]at q;exact absurd q.1 h
     ·exact .inr ⟨g,e,q⟩
theorem nW:z∈jG p↔dS z (ba p)=true:=by
 rw[<-GQ];unfold jG;rw[AB];simp[Km]
theorem pY(ps:List aD)(z:Str):eg (ps.map ba) z=(dE ps z).map ba:=by
 unfold eg dE;rw[Wh];rfl
theorem fK(s:fc H H'){b:Addr}{xs:List V}(h:H b=some (.lst xs)):H' b=some (.lst xs):=s b _ (.inl ⟨_,rfl⟩) h
theorem jN(s:fc H H'){b:Addr}{xs:List V}(h:H b=some (.tup xs)):H' b=some (.tup xs):=s b _ (.inr ⟨_,rfl⟩) h
theorem qk(s:fc H H'){p:aD}(q:p.At H):p.At H':=
 ⟨jN s q.top,fK s q.sl,fK s q.nl,λst hs=>have y:=q.ss st hs;⟨jN s y.top,fK s y.wd,fK s y.fl,λf hf=>jN s (y.fs f hf)⟩,λn hn=>jN s (q.ns n hn)⟩
theorem ZW(s:fc H H')(h:PL H L ps):PL H' L ps:=⟨fK s h.top,λp hp=>qk s (h.at_ p hp)⟩
theorem Jo(hx:H x=some u)(n:(∀xs,u≠.lst xs)/\∀xs,u≠.tup xs)(s:∀b o,b≠x->H b=some o->H' b=some o):fc H H':=λb o h e=>s b o (λq=>by
 rw[q,hx]at e;have e:=Option.some.inj e;rcases h with ⟨xs,h⟩|⟨xs,h⟩
 ·exact n.1 xs (e.trans h)
 ·exact n.2 xs (e.trans h)) e
theorem DT(h:PL H L ps)(s:aL H H'):PL H' L ps:=⟨s _ _ h.top,λp hp=>(h.at_ p hp).mono s⟩
theorem KW(h:Shv H S xs)(s:aL H H'):Shv H' S xs:=⟨s _ _ h.top,λx hx=>DT (h.at_ x hx) s⟩
theorem F6{xs:List (Addr×List aD)}{i:Nat}{x:Addr×List aD}(h:xs[i]?=some x):flat (xs.take (i+1))=flat (xs.take i)++x.2:=by
 unfold flat;rw[AF,h,We];simp
theorem Rf(xs:List (Addr×List aD))(i:Nat):(flat (xs.take i)).length<=(flat xs).length:=by
 have h:flat xs=flat (xs.take i)++flat (xs.drop i):=by
  unfold flat;rw[<-We,List.take_append_drop]
 rw[h,ij];omega
theorem ZY(T:Txt K mg A):aG P w K mg base bP 1 A.Yo A.xY ["shelves"] Xz:=by
 refine T.CM.ok Bn (λvs H Q E h=>?_) (λcdv Ar outer s H vs Q E hr h=>?_)
 ·obtain⟨S,xs,rfl,_⟩:=h;rfl
 ·obtain⟨S,xs,rfl,hS,hl,k⟩:=h;refine⟨_,(aE (pS 1 Bn.nd (bS aa)) (aE (pF (eN (K:=K) rfl (pv 0)) (pn 2 Bn.nd) (aF (bx (KQ PySem.F.plainAttrs_list PySem.F.slot_list_extend PySem.F.type_list_extend Ga (pv 1) (ah (pv 2) aa))))) (aF (aj (pv 1))))),?_⟩;walk_at "rd";refine⟨i8 _,λl hn=>?_⟩;refine h_.of (xs:=xs.map λx=>V.ref x.1) (λi σ H'=>∃b2:Option V,σ=[some (.ref S),some (.ref l),b2]/\aL H H'/\H' l=some (.lst ((flat (xs.take i)).map aD.v)))
   ⟨_,rfl,bo hn,aJ⟩ ?_ ?_ ?_
  ·rintro i σ H' hi ⟨b2,rfl,s1,_⟩;exact aI.of (s1 _ _ hS.top)
  ·rintro i v σ H' hv ⟨b2,rfl,s1,h1⟩;walk_at "3";obtain⟨x,hx,rfl⟩:=iw.mp hv;have hm:=i7 hx;have px:=s1 _ _ (hS.at_ x hm).top;have tk:=F6 hx;have fl:=Rf xs (i+1);rw[tk,ij]at fl;walk_at "rd";refine⟨.inl ⟨rfl,_,aI.of h1⟩,l,x.1,_,_,rfl,rfl,h1,px,by rw[aS,aS,sizeLine_eq];omega,dA hn s1,?_⟩;rw[aJ,tk,eA]
  ·rintro σ H' ⟨b2,rfl,s1,h1⟩;walk_at "rd";rw[aS,AJ]at h1;exact k l H' s1 hn h1
theorem CN{W:List Str}{z:Str}(h:z∉W):aO (W.map kQ) (.inr z)=none:=by
 cases q:aO (W.map kQ) (.inr z) with
 |none=>rfl
 |some v=>
  have a:=dZ (.inr z:Key) (W.map kQ);rw[q]at a;obtain⟨x,hx,e⟩:=G0.mp (a.trans rfl);obtain⟨y,hy,rfl⟩:=cC.mp hx;exact absurd (Sum.inr.inj (of_decide_eq_true e:(Sum.inr y:Key)=Sum.inr z)▸hy) h
theorem M8{W:List Str}{z:Str}(h:z∈W):aO (W.map kQ) (.inr z)=some (.bl true):=by
 have a:=dZ (.inr z:Key) (W.map kQ);have b:((W.map kQ).any λkv=>decide (kv.1=(.inr z:Key)))=true:=G0.mpr ⟨kQ z,cC.mpr ⟨z,h,rfl⟩,decide_eq_true rfl⟩;rw[b]at a;cases q:aO (W.map kQ) (.inr z) with
 |none=>rw[q]at a;cases a
 |some v=>
  unfold aO at q;obtain⟨x,hx,e⟩:=iw.mp q;obtain⟨y,hy,e2⟩:=cC.mp (QF hx);rw[<-e,<-e2];rfl
theorem Yp(T:Txt K mg A):aG P w K mg base bP 1 A.Ww A.rK ["pieces"] F1:=by
 refine T.Ef.ok rZ (λvs H Q E h=>?_) (λcdv Ar outer s H vs Q E hr h=>?_)
 ·obtain⟨L,ps,rfl,_⟩:=h;rfl
 ·obtain⟨L,ps,rfl,hP,hl,nd,k⟩:=h;refine⟨_,(aE (pS 1 rZ.nd dz) (aE (pS 2 rZ.nd (bS aa)) (aE (pF (eN (K:=K) rfl (pv 0)) (pn 3 rZ.nd) (aE (ay (nN (A7 (cD hr) (tx K (pv 3)) (pv 1))) (aF (bx (f_ (pv 2) (ah (tx K (pv 3)) aa)))) cN) (aF (fe (cD hr) (pv 1) (tx K (pv 3)) bw rfl)))) (aF (ay (nv (pv 2) (λ_=>rfl)) (aF ix) cN))))),?_⟩;walk_at "rd";refine λd hd=>⟨i8 _,λl hn=>?_⟩;have s0:=(bo (o:=HO.dK []) hd).trans (bo (o:=HO.lst []) hn);have hln:H l=none:=(iY hn).2;have nld:l≠d:=(iY hn).1;refine h_.of (xs:=ps.map aD.v) (λi σ H'=>∃b3:Option V,σ=[some (.ref L),some (.ref d),some (.ref l),b3]/\aL H H'/\H' l=some (.lst [])/\H' d=some (.dK (((ps.take i).map aD.name).map kQ)))
   ⟨_,rfl,s0,aJ,by rw[ae (Ne.symm nld),aJ];rfl⟩ ?_ ?_ ?_
  ·rintro i σ H' hi ⟨b2,rfl,s1,_⟩;exact aI.of (s1 _ _ hP.top)
  ·rintro i v σ H' hv ⟨b3,rfl,s1,h1,h2⟩;walk_at "3";obtain⟨p,hp,rfl⟩:=iw.mp hv;have hm:=i7 hp;have pa:=s1 _ _ (hP.at_ p hm).top;have hi:=(o6.mp hp).1;walk_at "4";have new:p.name∉(ps.take i).map aD.name:=λz=>by
    have h:((ps.take (i+1)).map aD.name).Nodup:=List.Nodup.sublist (List.Sublist.map _ (List.take_sublist _ _)) nd;rw[tk,eA]at h;exact(Ee.mp h).2.2 p.name z p.name (by simp) rfl
   have g:cz H' d (V.str p.name) none:=by
    have:=cz.k (k:=Sum.inr p.name) h2;rw[CN new]at this;exact this
   walk_at "rd";refine⟨_,bB.of pa,_,rfl,none,g,?_⟩;rw[if_neg (by decide)];refine⟨_,bB.of pa,_,rfl,_,gi.k (k:=Sum.inr p.name) h2 (by rw[aS,aS,pX,sizeLine_eq];omega),dA hd s1,by rw[ae nld];exact h1,?_⟩;rw[aJ,UG];unfold addW;rw[if_neg new,tk];simp
  ·rintro σ H' ⟨b3,rfl,s1,h1,h2⟩;walk_at "rd";refine⟨false,?_,?_⟩
   ·exact .inl ⟨[],aI.of h1,rfl⟩
   ·exact k H' s1
theorem RO(T:Txt K mg A):aG P w K mg base bP 3 A.ZV A.vU ["pieces"] Jv:=by
 refine T.CL.ok xp (λvs H Q E h=>?_) (λcdv Ar outer s H vs Q E hr h=>?_)
 ·obtain⟨L,ps,rfl,_⟩:=h;rfl
 ·obtain⟨L,ps,rfl,hP,hl,hb,k⟩:=h;refine⟨_,(aE (pS 1 xp.nd dz) (aE (pF (eN (K:=K) rfl (pv 0)) (pn 2 xp.nd) (aF (pF (eN (K:=K) rfl (pC (QV T) hr T.E6 T.ue T.r8 (ah (pv 2) aa))) (pn 3 xp.nd) (aF (bx (Kq (cD hr) (pv 1) (pv 3) (pv 2) ⟨rfl,rfl,rfl,rfl⟩)))))) (aF (aj (pv 1))))),?_⟩;walk_at "rd";intro d hd;refine h_.of (xs:=ps.map aD.v) (λi σ H'=>∃(b2 b3:Option V) (kvs:List (Key×V)),σ=[some (.ref L),some (.ref d),b2,b3]/\aL H H'/\H' d=some (.dK kvs)/\kvs.length<=61*i/\∀z,aO kvs (.inr z)=(dE (ps.take i) z).map aD.v)
   ⟨_,_,[],rfl,bo hd,aJ,by simp,λz=>rfl⟩ ?_ ?_ ?_
  ·rintro i σ H' hi ⟨b2,b3,kvs,rfl,s1,_⟩;exact aI.of (s1 _ _ hP.top)
  ·rintro i v σ H' hv ⟨b2,b3,kvs,rfl,s1,h1,hk,hz⟩;walk_at "3";obtain⟨p,hp,rfl⟩:=iw.mp hv;have hm:=i7 hp;have hi:=(o6.mp hp).1;walk_at "4";walk_at "rd";refine⟨p,rfl,(hP.at_ p hm).mono s1,hb p hm,λl H2 s2 ⟨ss,pm,pw,hl2⟩ hn=>?_⟩;have sl:ss.length<=61:=by rw[pm.length_eq];exact Rr (hb p hm)
   have nld:l≠d:=λe=>by rw[e,h1]at hn;cases hn
   refine h_.of (xs:=ss.map V.str) (λj σ H3=>∃(b3:Option V) (kvs':List (Key×V)),σ=[some (.ref L),some (.ref d),some p.v,b3]/\aL H H3/\H3 l=some (.lst (ss.map V.str))/\H3 d=some (.dK kvs')/\kvs'.length<=kvs.length+j/\∀z,aO kvs' (.inr z)=((dE (ps.take i) z).map aD.v).or (if z∈ss.take j then some p.v else none))
    ⟨_,kvs,rfl,s1.trans s2,hl2,s2 _ _ h1,by omega,λz=>by rw[hz];simp⟩ ?_ ?_ ?_
   ·rintro j σ H3 hj ⟨b3,kvs',rfl,s3,h3,_⟩;exact aI.of h3
   ·rintro j v σ H3 hv ⟨b3,kvs',rfl,s3,h3,h4,hk',hz'⟩;walk_at "3";obtain⟨y,hy,rfl⟩:=iw.mp hv;have hj:=(o6.mp hy).1;have tj:ss.take (j+1)=ss.take j++[y]:=by rw[AF,hy];rfl
    walk_at "rd";have gd:=cz.k (k:=Sum.inr y) h4;refine⟨.inl ⟨_,.inl h4⟩,_,gd,_,gi.k (k:=Sum.inr y) h4 (by rw[sizeLine_eq];omega),λv hv=>⟨s3,h3,kvs',h4,by omega,λz=>?_⟩,λhv=>⟨dA hd s3,by rw[ae nld];exact h3,_,aJ,?_,λz=>?_⟩⟩
    ·rw[hz',tj];by_cases e:z=y
     ·rw[e];have hv:=(hz' y).symm.trans hv;cases q:dE (ps.take i) y with
      |some u=>simp
      |none=>
       rw[q]at hv;have:y∈ss.take j:=by
        by_cases m:y∈ss.take j
        ·exact m
        ·rw[if_neg m]at hv;cases hv
       simp[this]
     ·simp[e]
    ·rw[Nx _ hv,ij,List.length_singleton];omega
    ·rw[dw,hz',tj];by_cases e:z=y
     ·rw[e,if_pos rfl];have hv:=(hz' y).symm.trans hv;cases q:dE (ps.take i) y with
      |some u=>rw[q]at hv;cases hv
      |none=>simp
     ·rw[if_neg (λh=>e (Sum.inr.inj h))];simp[e]
   ·rintro σ H3 ⟨b3,kvs',rfl,s3,h3,h4,hk',hz'⟩;rw[aS,AJ]at hz';refine⟨_,_,rfl,s3,kvs',h4,by rw[aS]at hk';omega,λz=>?_⟩;have e:(z∈ss)=(gm z (ba p)=true):=propext (pm.mem_iff.trans Oe);rw[hz',tk];unfold dE;rw[List.find?_append];cases q:(ps.take i).find? (λp=>gm z (ba p)) with
    |some u=>simp
    |none=>
     by_cases t:gm z (ba p)=true
     ·simp[e,t]
     ·simp[e,t]
  ·rintro σ H' ⟨b2,b3,kvs,rfl,s1,h1,hk,hz⟩;rw[aS,AJ]at hz;walk_at "rd";exact k d H' s1 hd ⟨kvs,h1,hz⟩
theorem Zn(T:Txt K mg A):aG P w K mg base bP 1 A.ZP A.y_ ["fills"] F2:=by
 refine T.DQ.ok VJ (λvs H Q E h=>?_) (λcdv Ar outer s H vs Q E hr h=>?_)
 ·obtain⟨l,fs,rfl,_⟩:=h;rfl
 ·obtain⟨l,fs,rfl,hl,ha,hn,k⟩:=h;refine⟨_,(aF (aj (gG (wQ ["at", "rule", "name", "add", "soft"]) rfl (eN (K:=K) rfl (pv 0)) (λ_ _ _=>⟨(cR (K:=K) (n:=5) rfl rfl (fD (pn 0 (by walk_at "n")) (fD (pn 1 (by walk_at "n")) (fD (pn 2 (by walk_at "n")) (fD (pn 3 (by walk_at "n")) (fD (pn 4 (by walk_at "n")) cQ)))))),dj,(a_ (ah (pv 0) (ah (pv 1) (ah (pv 2) (ah (pv 3) (ah (pv 4) aa))))))⟩)))),?_⟩;walk_at "rd";refine fF.of (xs:=fs.map aq.v) (by rw[aS,sizeLine_eq];omega) (aI.of hl) (λD i ys H'=>∃gs:List aq,ys=gs.map aq.v/\aL H H'/\H' D=some (.lst ys)/\(∀g∈gs,aq.At H' g)/\gs.map aq.e=(fs.take i).map aq.e)
   (λD hD=>⟨[],rfl,bo hD,aJ,(λq hq=>by cases hq),rfl⟩) ?_ ?_ ?_
  ·rintro D i ys H' hD hi ⟨gs,rfl,s1,hDD,ga,e⟩;refine⟨aI.of (s1 _ _ hl),hDD,?_⟩;have:=congrArg List.length e;rw[aS,aS,pX]at this;rw[aS];omega
  ·rintro D i x ys H' hD hx ⟨gs,rfl,s1,hDD,ga,e⟩;walk_at "0";obtain⟨f,hf,rfl⟩:=iw.mp hx;have fa:=s1 _ _ (ha f (i7 hf));walk_at "rd";refine⟨_,bB.of fa,rfl,_,_,rfl,_,_,rfl,_,_,rfl,_,_,rfl,_,_,rfl,rfl,.no (.no (.no (.no (.no .nil)))),by walk_at "s", λq hq=>?_⟩;have s2:=bo (o:=HO.tup [V.int f.at_,V.str f.rule,V.str f.name,V.int f.add,V.bl f.soft]) hq;refine⟨s2 _ _ hDD,gs++[{ f with a:=q }],by simp,dA hD (s1.trans s2),aJ,λg hg=>?_,?_⟩
   ·have bt:ph (upd H' q (HO.tup [V.int f.at_,V.str f.rule,V.str f.name,V.int f.add,V.bl f.soft])) (upd (upd H' q (HO.tup [V.int f.at_,V.str f.rule,V.str f.name,V.int f.add,V.bl f.soft])) D (HO.lst (gs.map aq.v++[V.ref q]))) D:=ph.upd (s2 _ _ hDD);rcases fY.mp hg with z|z
    ·exact aq.At.but (aq.At.mono (ga g z) s2) bt
    ·rw[fN.mp z];exact bt.tup aJ
   ·rw[eA,e,AF,hf,eA];rfl
  ·rintro D ys H' hD ⟨gs,rfl,s1,hDD,ga,e⟩;walk_at "2";exact k D gs H' s1 hD hDD ga e
theorem WV(T:Txt K mg A):aG P w K mg base bP 2 A.YX A.tR ["piece"] Gj:=by
 refine T.Dz.ok BG (λvs H Q E h=>?_) (λcdv Ar outer s H vs Q E hr h=>?_)
 ·obtain⟨p,rfl,_⟩:=h;rfl
 ·obtain⟨p,rfl,hp,b1,b2,b3,k⟩:=h;refine⟨_,(aE (gE (i:=1) BG.nd rfl (by walk_at "o") (wQ ["kind", "step", "words", "fills"]) rfl (eN (K:=K) rfl (tx K (pv 0))) (λ_ _ _=>⟨(cR (K:=K) (n:=4) rfl rfl (fD (pn 0 (by walk_at "n")) (fD (pn 1 (by walk_at "n")) (fD (pn 2 (by walk_at "n")) (fD (pn 3 (by walk_at "n")) cQ))))),dj,(a_ (ah (pv 0) (ah (pv 1) (ah (jP (yY (K:=K) rfl) (by rfl) T.cZ de (ah (pv 2) aa)) (ah (pC (Zn T) hr T.S4 T.K1 T.Lx (ah (pv 3) aa)) aa)))))⟩)) (aE (gE (i:=2) BG.nd rfl (by walk_at "o") (wQ ["name", "sort", "stretch", "offset"]) rfl (eN (K:=K) rfl (tx K (pv 0))) (λ_ _ _=>⟨(cR (K:=K) (n:=4) rfl rfl (fD (pn 0 (by walk_at "n")) (fD (pn 1 (by walk_at "n")) (fD (pn 2 (by walk_at "n")) (fD (pn 3 (by walk_at "n")) cQ))))),dj,(a_ (ah (pv 0) (ah (pv 1) (ah (pv 2) (ah (pv 3) aa)))))⟩)) (aF (aj (a_ (ah (tx K (pv 0)) (ah (pv 1) (ah (pv 2) aa)))))))),?_⟩;walk_at "rd";refine⟨_,bB.of hp.top,_,rfl,?_⟩;refine fF.of (xs:=p.bW.map bJ.v) (by rw[aS,sizeLine_eq];omega) (aI.of hp.sl) (λD i ys H'=>∃qs:List bJ,ys=qs.map bJ.v/\qs.map bJ.e=(p.bW.take i).map bJ.e/\aL H H'/\H' D=some (.lst ys)/\(∀q∈qs,q.At H')/\(∀b∈qs.flatMap bJ.lists,H b=none/\b≠D)/\(qs.flatMap bJ.lists).Nodup)
   (λD hD=>⟨[],rfl,rfl,bo hD,aJ,by simp,by simp,by simp⟩) ?_ ?_ ?_
  ·rintro D i ys H' hD hi ⟨qs,rfl,hc,sm,hDD,_⟩;refine⟨aI.of (sm _ _ hp.sl),hDD,?_⟩;have e:=congrArg List.length hc;rw[aS,aS]at e;rw[aS,e];exact List.length_take_le ..
  ·rintro D i x ys H' hD hx ⟨qs,rfl,hc,sm,hDD,hat,hnew,hnd⟩;walk_at "0";obtain⟨s,hs,rfl⟩:=iw.mp hx;have hm:=i7 hs;have hs':=(hp.ss s hm).mono sm;walk_at "rd";refine⟨_,bB.of hs'.top,rfl,_,_,rfl,_,_,rfl,_,_,rfl,_,_,rfl,rfl,.no (.no (.no (.no .nil))),s.lw,rfl,_,.inl (aI.of hs'.wd),λlw h1=>?_⟩;have s1:=bo (o:=HO.lst (s.words.map V.int)) h1;have ew:upd H' lw (HO.lst (s.words.map V.int)) lw=some (HO.lst (s.words.map V.int)):=aJ;generalize upd H' lw (HO.lst (s.words.map V.int))=H1 at *;refine⟨s.lf,rfl,s.fills,s1 _ _ hs'.fl,λf hf=>s1 _ _ (hs'.fs f hf),b3 s hm,λlf gs H2 s2 h2 el ga ge=>⟨by rw[sizeLine_eq];decide,λt h3=>?_⟩⟩;have s3:=bo (o:=HO.tup [V.str s.kind,V.int s.step,V.ref lw,V.ref lf]) h3;have e1:upd H2 t (HO.tup [V.str s.kind,V.int s.step,V.ref lw,V.ref lf]) lw=some (HO.lst (s.words.map V.int)):=s3 _ _ (s2 _ _ ew);have e2:=s3 _ _ el;have e3:upd H2 t (HO.tup [V.str s.kind,V.int s.step,V.ref lw,V.ref lf]) t=some (HO.tup [V.str s.kind,V.int s.step,V.ref lw,V.ref lf]):=aJ;have n2:lw≠lf:=bf ew h2;have d1:lw≠D:=Ne.symm (bf hDD h1);have d2:lf≠D:=Ne.symm (bf (s1 _ _ hDD) h2);have sA:=(s1.trans s2).trans s3;generalize upd H2 t (HO.tup [V.str s.kind,V.int s.step,V.ref lw,V.ref lf])=H3 at *;have bt:ph H3 (upd H3 D (HO.lst (qs.map bJ.v++[V.ref t]))) D:=ph.upd (sA _ _ hDD);refine⟨sA _ _ hDD,qs++[⟨t,lw,lf,s.kind,s.step,s.words,gs⟩],by simp,?_,dA hD (sm.trans sA),aJ,λq hq=>?_,λb hb=>?_,?_⟩
   ·rw[eA,hc,AF,hs,eA];congr 1;show [(s.kind,s.step,s.words,gs.map aq.e)]=[(s.kind,s.step,s.words,s.fills.map aq.e)];rw[ge]
   ·rcases fY.mp hq with z|z
    ·exact((hat q z).mono sA).but bt λy=>(hnew D (A_.mpr ⟨q,z,y⟩)).2 rfl
    ·rw[fN.mp z];exact⟨bt.tup e3,bt.2 _ _ e1 d1,bt.2 _ _ e2 d2,λf hf=>aq.At.but (aq.At.mono (ga f hf) s3) bt⟩
   ·rw[We]at hb;rcases fY.mp hb with z|z
    ·exact hnew b z
    ·simp[bJ.lists]at z;rcases z with e|e
     ·rw[e];exact⟨sm.free h1,d1⟩
     ·rw[e];exact⟨(sm.trans s1).free h2,d2⟩
   ·rw[We];refine Ee.mpr ⟨hnd,by simp[bJ.lists,n2],λx hx y hy e=>?_⟩;obtain⟨q,hq,hb'⟩:=A_.mp hx;obtain⟨xs,he⟩:=(hat q hq).list hb';simp[bJ.lists]at hy;rcases hy with z|z
    ·rw[e,z,h1]at he;cases he
    ·have:=s1 _ _ he;rw[e,z,h2]at this;cases this
  ·rintro D ys H' hD ⟨qs,rfl,hc,sm,hDD,hat,hnew,hnd⟩;rw[aS,AJ]at hc;have hpm:=hp.mono sm;refine⟨_,bB.of hpm.top,_,rfl,?_⟩;refine fF.of (xs:=p.bL.map ax.v) (by rw[aS,sizeLine_eq];omega) (aI.of hpm.nl) (λD2 i ys H2=>∃gs:List ax,ys=gs.map ax.v/\aL H' H2/\H2 D2=some (.lst ys)/\(∀g∈gs,ax.At H2 g)/\gs.map ax.e=(p.bL.take i).map ax.e)
    (λD2 hD2=>⟨[],rfl,bo hD2,aJ,(λq hq=>by cases hq),rfl⟩) ?_ ?_ ?_
   ·rintro D2 i ys H2 hD2 hi ⟨gs,rfl,s1,hDD2,ga,e⟩;refine⟨aI.of (s1 _ _ hpm.nl),hDD2,?_⟩;have:=congrArg List.length e;rw[aS,aS,pX]at this;rw[aS];omega
   ·rintro D2 i x ys H2 hD2 hx ⟨gs,rfl,s1,hDD2,ga,e⟩;walk_at "0";obtain⟨f,hf,rfl⟩:=iw.mp hx;have fa:=s1 _ _ (hpm.ns f (i7 hf));walk_at "rd";refine⟨_,bB.of fa,rfl,_,_,rfl,_,_,rfl,_,_,rfl,_,_,rfl,rfl,.no (.no (.no (.no .nil))),by walk_at "s", λq hq=>?_⟩;have s2:=bo (o:=HO.tup [V.str f.name,V.str f.sort,V.int f.st,V.int f.off]) hq;refine⟨s2 _ _ hDD2,gs++[{ f with a:=q }],by simp,dA hD2 (s1.trans s2),aJ,λg hg=>?_,?_⟩
    ·have bt:ph (upd H2 q (HO.tup [V.str f.name,V.str f.sort,V.int f.st,V.int f.off])) (upd (upd H2 q (HO.tup [V.str f.name,V.str f.sort,V.int f.st,V.int f.off])) D2 (HO.lst (gs.map ax.v++[V.ref q]))) D2:=ph.upd (s2 _ _ hDD2);rcases fY.mp hg with z|z
     ·exact ax.At.but (ax.At.mono (ga g z) s2) bt
     ·rw[fN.mp z];exact bt.tup aJ
    ·rw[eA,e,AF,hf,eA];rfl
   ·rintro D2 ys H2 hD2 ⟨gs,rfl,s1,hDD2,ga,e⟩;walk_at "2";refine⟨_,bB.of (s1 _ _ hpm.top),_,rfl,by walk_at "s", λt ht=>?_⟩;have s2:=bo (o:=HO.tup [V.str p.name,V.ref D,V.ref D2]) ht;have nl:∀b∈qs.flatMap bJ.lists,b≠D2:=λb hb=>by
     obtain⟨q,hq,hb'⟩:=A_.mp hb;obtain⟨xs,e⟩:=(hat q hq).list hb';exact bf e hD2
    refine k ⟨t,D,D2,p.name,qs,gs⟩ _ ((sm.trans s1).trans s2) ⟨aJ,s2 _ _ (s1 _ _ hDD),s2 _ _ hDD2,λq hq=>(hat q hq).mono (s1.trans s2),λn hn=>ax.At.mono (ga n hn) s2⟩ ?_ (λb hb=>?_) ?_
    ·unfold ba;rw[hc,e]
    ·simp only[aD.lists,List.mem_cons]at hb;rcases hb with e|e|e
     ·rw[e];exact hD
     ·rw[e];exact sm.free hD2
     ·exact(hnew b e).1
    ·show(D::D2::qs.flatMap bJ.lists).Nodup;refine Fm.mpr ⟨λz=>?_,Fm.mpr ⟨λz=>nl D2 z rfl,hnd⟩⟩;rcases i_.mp z with e|e
     ·exact bf hDD hD2 e
     ·exact(hnew D e).2 rfl
theorem jb.l1(t:jb):List.lookup (Str.ofString "pieces") t.attrs=some (.ref t.lp):=rfl
theorem jb.l2(t:jb):List.lookup (Str.ofString "reasons") t.attrs=some (.ref t.lr):=rfl
theorem jb.l3(t:jb):List.lookup (Str.ofString "told_by_given") t.attrs=some (.ref t.dg):=rfl
theorem jb.l4(t:jb):List.lookup (Str.ofString "on_shelves") t.attrs=some (.ref t.ds):=rfl
theorem jb.l5(t:jb):List.lookup (Str.ofString "from_shelves") t.attrs=some (.ref t.df):=rfl
theorem jb.l6(t:jb):List.lookup (Str.ofString "unmet") t.attrs=some (.ref t.du):=rfl
theorem OC(o:Bk C H t G S T rs)(kp:QL t H H'){b:Addr}{xs:List V}(h:H b=some (.lst xs))(n1:b≠t.lp)(n2:b≠t.lr):H' b=some (.lst xs):=kp b _ n1 n2 (λe=>by rw[e,o.df]at h;cases h) h
theorem oG(o:Bk C H t G S T rs)(kp:QL t H H'){b:Addr}{xs:List V}(h:H b=some (.tup xs)):H' b=some (.tup xs):=kp b _ (λe=>by rw[e,o.lp]at h;cases h) (λe=>by rw[e,o.lr]at h;cases h) (λe=>by rw[e,o.df]at h;cases h) h
theorem Xa(o:Bk C H t G S T rs)(kp:QL t H H'){p:aD}(h:p.At H)(n1:t.lp∉p.lists)(n2:t.lr∉p.lists):p.At H':=by
 have ls:∀b∈p.lists,∀xs,H b=some (.lst xs)->H' b=some (.lst xs):=λb hb xs e=>OC o kp e (λq=>n1 (q▸hb)) (λq=>n2 (q▸hb));refine⟨oG o kp h.top,ls _ (by simp[aD.lists]) _ h.sl,ls _ (by simp[aD.lists]) _ h.nl,λs hs=>?_,λn hn=>oG o kp (h.ns n hn)⟩;have hs':=h.ss s hs;have m:∀b∈s.lists,b∈p.lists:=λb hb=>by
  simp only[aD.lists,List.mem_cons];exact .inr (.inr (A_.mpr ⟨s,hs,hb⟩))
 exact⟨oG o kp hs'.top,ls _ (m _ (by simp[bJ.lists])) _ hs'.wd,ls _ (m _ (by simp[bJ.lists])) _ hs'.fl,λf hf=>oG o kp (hs'.fs f hf)⟩
theorem len_sub{l m:List Str}(h:l.Nodup)(s:∀x∈l,x∈m):l.length<=m.length:=by
 induction l generalizing m with
 |nil=>exact i8 _
 |cons x r ih=>
  obtain⟨h1,h2⟩:=Fm.mp h;have hx:=s x Qw;have:=ih (m:=m.erase x) h2 λy hy=>(List.mem_erase_of_ne (λ(e:y=x)=>h1 (e▸hy))).mpr (s y (Bv _ hy));rw[List.length_erase_of_mem hx]at this;have:=List.length_pos_of_mem hx;rw[pR];omega
theorem Ja{ps:List aD}(nd:(ps.map aD.name).Nodup){p q:aD}(hp:p∈ps)(hq:q∈ps)(e:p.name=q.name):p=q:=by
 induction ps with
 |nil=>cases hp
 |cons x r ih=>
  rw[pJ,Fm]at nd;rcases i_.mp hp with a|a<;>rcases i_.mp hq with b|b
  ·rw[a,b]
  ·exact absurd (cC.mpr ⟨q,b,by rw[<-e,a]⟩) nd.1
  ·exact absurd (cC.mpr ⟨p,a,by rw[e,b]⟩) nd.1
  ·exact ih nd.2 a b
theorem CJ.snoc(h:CJ G S e T rs)(h1:eg G z=none)(h2:eg S z=some p)(n:p.1∉T.map (·.1))(wy:b=Str.ofString "" /\ z=e\/∃q∈G++T,q.1=b/\dS z q=true):CJ G S e (T++[p]) (rs++[(p.1,z,b)]):=by
 have hl:rs.length=T.length:=by have:=congrArg List.length h.len;rwa [aS,aS]at this
 refine⟨?_,λq hq=>?_,by rw[eA,eA,h.len];rfl,λi q r hq hr=>?_⟩
 ·rw[eA];exact Ee.mpr ⟨h.nd,by simp,λx hx y hy e=>n (by rw[List.map_cons,List.map_nil,List.mem_singleton]at hy;rw[<-hy,<-e];exact hx)⟩
 ·rcases fY.mp hq with y|y
  ·exact h.sub q y
  ·rw[fN.mp y];exact QF h2
 ·by_cases hi:i<T.length
  ·rw[Wi hi]at hq;rw[Wi (by omega)]at hr;rw[ycy (by omega)];exact h.abo i q r hq hr
  ·have hi2:i=T.length:=by
    have:=(o6.mp hq).1;rw[ij,List.length_singleton]at this;omega
   rw[hi2,SE (bA _),Nat.sub_self]at hq;rw[hi2,<-hl,SE (bA _),Nat.sub_self]at hr;have hq:=Option.some.inj hq;have hr:=Option.some.inj hr;rw[<-hq,<-hr,hi2,ycy (bA _),AJ];exact⟨h1,h2,wy⟩
theorem Sx(T:Txt K mg A):aG P w K mg base bP 1 A.Zs A.qL ["self", "name", "by"] (Bc A.aK):=by
 refine T.Ci.ok Jx (λvs H Q E h=>?_) (λcdv Ar outer s H vs Q E hr h=>?_)
 ·obtain⟨t,z,b,e,G,S,T,rs,rfl,_⟩:=h;rfl
 ·obtain⟨t,z,b,e,G,S,Tp,rs,rfl,o,bd,mt,tc,wy,k⟩:=h;refine⟨_,(aE (ay (nN (A7 (cD hr) (pv 1) (aX (pv 0) rfl))) (aF yj) cN) (aE (ay (nN (jq (cD hr) (pv 1) (aX (pv 0) rfl))) (aE ix (aF yj)) cN) (aE (pS 3 Jx.nd (iT (cD hr) (aX (pv 0) rfl) (pv 1) (λ_ _=>rfl))) (aF (ay (nN (jq (cD hr) (tx K (pv 3)) (aX (pv 0) rfl))) (aE (fe (cD hr) (aX (pv 0) rfl) (tx K (pv 3)) bw rfl) (aE (bx (f_ (aX (pv 0) rfl) (ah (pv 3) aa))) (aF (bx (f_ (aX (pv 0) rfl) (ah (a_ (ah (tx K (pv 3)) (ah (pv 1) (ah (pv 2) aa)))) aa)))))) cN))))),?_⟩;walk_at "rd";obtain⟨kg,hkg,vg⟩:=o.dg;obtain⟨ks,hks,vs⟩:=o.ds;have gg:=cz.k (k:=Sum.inr z) hkg;have gs:=cz.k (k:=Sum.inr z) hks;rw[vg]at gg;rw[vs]at gs;have fG:=pY G z;have fS:=pY S z;refine⟨_,_,_,o.top,T.bF,T.bE,_,t.l3,t.dg,rfl,_,gg,bN (λh=>?_) (λh=>?_)⟩
  ·refine k [] rs H (by rw[Il];exact o) (λb o _ _ _ e=>e) (by rw[Il];exact tc) (.inl ?_);rw[fG];cases q:dE G z with
   |none=>rw[q]at h;cases h
   |some u=>rfl
  ·have nG:dE G z=none:=by
    cases q:dE G z with
    |none=>rfl
    |some u=>rw[q]at h;exact absurd rfl h
   rw[nG]at fG;cases q:dE S z with
   |none=>
    rcases mt with m|m
    ·rw[fG]at m;cases m
    ·rw[fS,q]at m;cases m
   |some p=>
    rw[q]at gs fS;have pS:p∈S:=QF q;obtain⟨pa,n1,n2⟩:=o.at_ p (oQ _ pS);refine⟨_,_,_,o.top,T.bF,T.bD,_,t.l4,t.ds,rfl,_,gs,?_⟩;rw[if_neg (by simp)];have ndS:(S.map aD.name).Nodup:=by have:=bd.nd;rw[eA]at this;exact(Ee.mp this).2.1
    have gf:=cz.k (k:=Sum.inr p.name) o.df;refine⟨_,_,_,o.top,T.bF,T.bD,_,t.l4,t.ds,rfl,_,gs,_,rfl,_,bB.of pa.top,_,rfl,_,_,_,o.top,T.bF,T.bq,_,t.l5,t.df,rfl,_,gf,?_⟩;by_cases m:p.name∈Tp.map aD.name
    ·rw[M8 m,if_neg (by decide)];obtain⟨u,hu,eu⟩:=cC.mp m;have eu:=Ja ndS (o.sub u hu) pS eu;exact k [] rs H (by rw[Il];exact o) (λb o _ _ _ e=>e) (by rw[Il];exact tc) (.inr ⟨ba p,cC.mpr ⟨p,by rw[Il,<-eu];exact hu,rfl⟩,fS⟩)
    ·rw[CN m,if_pos (by decide)];have hl:Tp.length<=14:=by
      have h1:=tc.nd;have:(Tp.map aD.name).length<=(S.map aD.name).length:=len_sub (by rw[gS]at h1;exact h1) λy hy=>by
       obtain⟨u,hu,rfl⟩:=cC.mp hy;exact cC.mpr ⟨u,o.sub u hu,rfl⟩
      walk_at "1";have b:=bd.gq;rw[ij]at b;omega
     have hlG:G.length<=14:=by have b:=bd.gq;rw[ij]at b;omega
     have hrl:rs.length=Tp.length:=by have:=congrArg List.length tc.len;rwa [aS,aS,aS,aS]at this
     have nx1:t.x≠t.df:=λe=>by have:=o.top;rw[e,o.df]at this;cases this
     have nx2:t.x≠t.lp:=λe=>by have:=o.top;rw[e,o.lp]at this;cases this
     have nx3:t.x≠t.lr:=λe=>by have:=o.top;rw[e,o.lr]at this;cases this
     have nl1:t.lp≠t.df:=λe=>by have:=o.lp;rw[e,o.df]at this;cases this
     have nl2:t.lr≠t.df:=λe=>by have:=o.lr;rw[e,o.df]at this;cases this
     have np1:p.t≠t.df:=λe=>by have:=pa.top;rw[e,o.df]at this;cases this
     have np2:p.t≠t.lp:=λe=>by have:=pa.top;rw[e,o.lp]at this;cases this
     refine⟨_,_,_,o.top,T.bF,T.bq,_,t.l5,_,rfl,_,bB.of pa.top,_,rfl,t.df,rfl,_,gi.k (k:=Sum.inr p.name) o.df (by rw[aS,aS,sizeLine_eq];omega),?_⟩;rw[UG];unfold addW;rw[if_neg m];have a1:upd H t.df (HO.dK ((Tp.map aD.name++[p.name]).map kQ)) t.df=some (HO.dK ((Tp.map aD.name++[p.name]).map kQ)):=aJ;have k1:∀b u,b≠t.df->H b=some u->upd H t.df (HO.dK ((Tp.map aD.name++[p.name]).map kQ)) b=some u:=λb u n e=>by rw[ae n];exact e
     generalize upd H t.df (HO.dK ((Tp.map aD.name++[p.name]).map kQ))=H1 at *;have lp1:=k1 _ _ nl1 o.lp;refine⟨_,_,_,k1 _ _ nx1 o.top,T.bF,T.bG,_,t.l1,.inl ⟨rfl,_,aI.of lp1⟩,t.lp,rfl,_,lp1,by rw[aS,ij,sizeLine_eq];omega,?_⟩;have a2:upd H1 t.lp (HO.lst ((G++Tp).map aD.v++[V.ref p.t])) t.lp=some (HO.lst ((G++Tp).map aD.v++[V.ref p.t])):=aJ;have k2:∀b u,b≠t.lp->H1 b=some u->upd H1 t.lp (HO.lst ((G++Tp).map aD.v++[V.ref p.t])) b=some u:=λb u n e=>by rw[ae n];exact e
     generalize upd H1 t.lp (HO.lst ((G++Tp).map aD.v++[V.ref p.t]))=H2 at *;have lr2:=k2 _ _ (Ne.symm o.ne) (k1 _ _ nl2 o.lr);refine⟨_,_,_,k2 _ _ nx2 (k1 _ _ nx1 o.top),T.bF,T.cT,_,t.l2,.inl ⟨rfl,_,aI.of lr2⟩,_,rfl,_,bB.of (k2 _ _ np2 (k1 _ _ np1 pa.top)),_,rfl,by walk_at "s", λr hr=>⟨t.lr,rfl,_,bo hr _ _ lr2,by rw[aS,sizeLine_eq];omega,?_⟩⟩;have s3:=bo (o:=HO.tup [V.str p.name,V.str z,V.str b]) hr;have a3:upd H2 r (HO.tup [V.str p.name,V.str z,V.str b]) r=some (HO.tup [V.str p.name,V.str z,V.str b]):=aJ;generalize upd H2 r (HO.tup [V.str p.name,V.str z,V.str b])=H3 at *;have k4:∀b u,b≠t.lr->H3 b=some u->upd H3 t.lr (HO.lst (rs.map (λr=>V.ref r.1)++[V.ref r])) b=some u:=λb u n e=>by rw[ae n];exact e
     have kp:QL t H (upd H3 t.lr (HO.lst (rs.map (λr=>V.ref r.1)++[V.ref r]))):=λb u m1 m2 m3 e=>k4 b u m2 (s3 _ _ (k2 _ _ m1 (k1 _ _ m3 e)));have nr:r≠t.lr:=Ne.symm (bf lr2 hr);refine k [p] (rs++[(r,p.name,z,b)]) _ ⟨?_,?_,?_,?_,?_,?_,?_,?_,?_,o.ne,o.nf,?_⟩ kp ?_ ?_
     ·exact kp _ _ nx2 nx3 nx1 o.top
     ·rw[<-Vz,eA];exact k4 _ _ o.ne (s3 _ _ a2)
     ·rw[aJ,eA];rfl
     ·intro y hy;rcases fY.mp hy with c|c
      ·exact oG o kp (o.rs y c)
      ·rw[fN.mp c];exact k4 _ _ nr a3
     ·exact⟨kg,kp _ _ (λe=>by rw[e,o.lp]at hkg;cases hkg) (λe=>by rw[e,o.lr]at hkg;cases hkg) o.nf.1 hkg,vg⟩
     ·exact⟨ks,kp _ _ (λe=>by rw[e,o.lp]at hks;cases hks) (λe=>by rw[e,o.lr]at hks;cases hks) o.nf.2.1 hks,vs⟩
     ·rw[eA];exact k4 _ _ (Ne.symm nl2) (s3 _ _ (k2 _ _ (Ne.symm nl1) a1))
     ·have du:=o.du;exact kp _ _ (λe=>by rw[e,o.lp]at du;cases du) (λe=>by rw[e,o.lr]at du;cases du) o.nf.2.2 du
     ·intro y hy;obtain⟨ya,m1,m2⟩:=o.at_ y hy;exact⟨Xa o kp ya m1 m2,m1,m2⟩
     ·intro y hy;rcases fY.mp hy with c|c
      ·exact o.sub y c
      ·rw[fN.mp c];exact pS
     ·rw[eA,eA];refine tc.snoc fG fS (λc=>m ?_) (wy.imp id λ⟨y,hy,e1,e2⟩=>⟨ba y,by rw[<-eA];exact cC.mpr ⟨y,hy,rfl⟩,e1,e2⟩);rw[gS]at c;exact c
     ·exact .inr ⟨ba p,cC.mpr ⟨p,by simp,rfl⟩,fS⟩
theorem Hu(bd:XW G S e)(tc:CJ (G.map ba) (S.map ba) e (T.map ba) rs)(sub:∀p∈T,p∈S):(G++T).length<=14:=by
 have h1:=tc.nd;have:(T.map aD.name).length<=(S.map aD.name).length:=len_sub (by rw[gS]at h1;exact h1) λy hy=>by
  obtain⟨u,hu,rfl⟩:=cC.mp hy;exact cC.mpr ⟨u,sub u hu,rfl⟩
 walk_at "1";have b:=bd.gq;rw[ij]at b ⊢;omega
theorem oE(U:List Co)(h:nV G S T z):nV G S (T++U) z:=h.imp id λ⟨p,hp,e⟩=>⟨p,BP _ hp,e⟩
theorem Bk.mono{C:Addr}{H H':Hp}{t:jb}{G S T:List aD}{rs:List Pz}(o:Bk C H t G S T rs)(s:aL H H'):Bk C H' t G S T rs:=
 ⟨s _ _ o.top,s _ _ o.lp,s _ _ o.lr,λr hr=>s _ _ (o.rs r hr),o.dg.imp λ_ h=>⟨s _ _ h.1,h.2⟩,o.ds.imp λ_ h=>⟨s _ _ h.1,h.2⟩,s _ _ o.df,s _ _ o.du,λp hp=>have h:=o.at_ p hp;⟨h.1.mono s,h.2⟩,o.ne,o.nf,o.sub⟩
theorem Yy(T:Txt K mg A):aG P w K mg base bP 3 A.X4 A.vA ["self"] (U7 A.aK):=by
 refine T.Cs.ok m6 (λvs H Q E h=>?_) (λcdv Ar outer s H vs Q E hr h=>?_)
 ·obtain⟨t,e,G,S,T,rs,rfl,_⟩:=h;rfl
 ·obtain⟨t,e,G,S,Tp,rs,rfl,o,bd,tc,cv,k⟩:=h;refine⟨_,(aE (pS 1 m6.nd af) (aF (JX PassesOwn.never (dB Ij (pv 1) (cX (bX (K:=K) rfl) (by rfl) T.eS eG (ah (aX (pv 0) rfl) aa)) (ar _)) (aE (pS 2 m6.nd (bO (dG (K:=K) rfl) (aX (pv 0) rfl) (pv 1) (λ_ _=>rfl))) (aE (pF (eN (K:=K) rfl (pC (Rb T) hr T.EX T.uL T.uA (ah (pv 2) aa))) (pn 3 m6.nd) (aF (bx (cL (pv 0) T.bF T.AR (Sx T) (hr.mono (by decide)) T.EL .nil ck (ah (pv 3) (ah (tx K (pv 2)) aa)))))) (aF (Tr (i:=1) m6.nd rfl (by walk_at "o") af Ta))))))),?_⟩;walk_at "rd";refine⟨λm σ Hc=>∃(dn:Nat) (Tc:List aD) (rc:List Pz) (b2 b3:Option V),σ=[some (V.ref t.x),some (V.int dn),b2,b3]/\Bk A.aK Hc t G S Tc rc/\QL t H Hc/\CJ (G.map ba) (S.map ba) e (Tc.map ba) (rc.map (·.2))/\nV (G.map ba) (S.map ba) (Tc.map ba) e/\m+dn=15/\dn<=(G++Tc).length/\∀q∈(G++Tc).take dn,∀z,dS z (ba q)=true->nV (G.map ba) (S.map ba) (Tc.map ba) z,
   ⟨15,0,Tp,rs,_,_,rfl,o,λb o _ _ _ e=>e,tc,cv,rfl,i8 _,λq hq=>by simp at hq⟩,?_⟩
  rintro m σ Hc ⟨dn,Tc,rc,b2,b3,rfl,oc,kc,tcc,cvc,hm,hd,cl⟩;have bl:=Hu bd tcc oc.sub;walk_at "rd";refine⟨_,_,_,oc.top,T.bF,T.bG,_,t.l1,_,.inl ⟨_,aI.of oc.lp,by rw[aS]⟩,bN (λhlt=>?_) (λhge=>?_)⟩
  ·have hlt:dn<(G++Tc).length:=by have:=of_decide_eq_true hlt;omega
   obtain⟨m',rfl⟩:∃m',m=m'+1:=⟨m - 1,by omega⟩
   have hp:(G++Tc)[dn]?=some (G++Tc)[dn]:=zR hlt;have hmem:(G++Tc)[dn]∈G++Tc:=Se hlt;generalize (G++Tc)[dn]=p at hp hmem;have hpS:p∈G++S:=(fY.mp hmem).elim (BP _) λy=>oQ _ (oc.sub p y);obtain⟨pa,n1,n2⟩:=oc.at_ p hpS;refine⟨λσ' H'=>∃(dn:Nat) (Tc:List aD) (rc:List Pz) (b2 b3:Option V),σ'=[some (V.ref t.x),some (V.int dn),b2,b3]/\Bk A.aK H' t G S Tc rc/\QL t H H'/\CJ (G.map ba) (S.map ba) e (Tc.map ba) (rc.map (·.2))/\nV (G.map ba) (S.map ba) (Tc.map ba) e/\m'+dn=15/\dn<=(G++Tc).length/\∀q∈(G++Tc).take dn,∀z,dS z (ba q)=true->nV (G.map ba) (S.map ba) (Tc.map ba) z,λσ' H' z=>⟨m',XI _,z⟩,?_⟩;refine⟨_,_,_,oc.top,T.bF,T.bG,_,t.l1,_,rfl,_,aI.of oc.lp,_,iI (by rw[oR,hp];rfl),p,rfl,pa,bd.bnd p hpS,λl H2 s2 ⟨ss,pm,pw,hl2⟩ hl=>?_⟩;have o2:=oc.mono s2;have nl1:l≠t.lp:=Ne.symm (bf oc.lp hl);have nl2:l≠t.lr:=Ne.symm (bf oc.lr hl);refine h_.of (xs:=ss.map V.str) (λj σ H3=>∃(T':List aD) (rc':List Pz) (b3:Option V),σ=[some (V.ref t.x),some (V.int dn),some p.v,b3]/\Bk A.aK H3 t G S (Tc++T') rc'/\QL t H2 H3/\CJ (G.map ba) (S.map ba) e ((Tc++T').map ba) (rc'.map (·.2))/\∀z∈ss.take j,nV (G.map ba) (S.map ba) ((Tc++T').map ba) z)
    ⟨[],rc,_,rfl,by rw[Il];exact o2,(λb o _ _ _ e=>e),by rw[Il];exact tcc,λz hz=>by simp at hz⟩ ?_ ?_ ?_
   ·rintro j σ H3 hj ⟨T',rc',b3,rfl,o3,k3,_⟩;exact aI.of (OC o2 k3 hl2 nl1 nl2)
   ·rintro j v σ H3 hv ⟨T',rc',b3,rfl,o3,k3,tc3,c3⟩;walk_at "3";obtain⟨y,hy,rfl⟩:=iw.mp hv;have tj:ss.take (j+1)=ss.take j++[y]:=by rw[AF,hy];rfl
    have wy:dS y (ba p)=true:=nW.mp (pm.mem_iff.mp (i7 hy));obtain⟨pa3,_⟩:=o3.at_ p hpS;walk_at "rd";refine⟨_,_,o3.top,rfl,_,bB.of pa3.top,_,rfl,t,rfl,_,rfl,e,G,S,Tc++T',rc',o3,bd,bd.met p hpS y wy,tc3,.inr ⟨p,?_,rfl,wy⟩,λU rc2 H4 o4 k4 tc4 c4=>⟨T'++U,rc2,?_⟩⟩
    ·rw[<-Vz];exact BP _ hmem
    ·rw[<-Vz];refine⟨o4,λb u m1 m2 m3 h=>k4 b u m1 m2 m3 (k3 b u m1 m2 m3 h),tc4,λz hz=>?_⟩;rw[tj]at hz;rcases fY.mp hz with y1|y1
     ·rw[eA];exact oE _ (c3 z y1)
     ·rw[fN.mp y1];exact c4
   ·rintro σ H3 ⟨T',rc',b3,rfl,o3,k3,tc3,c3⟩;rw[aS,AJ]at c3;walk_at "rd";refine⟨dn+1,by simp,Tc++T',rc',o3,λb u m1 m2 m3 h=>k3 b u m1 m2 m3 (s2 _ _ (kc b u m1 m2 m3 h)),tc3,by rw[List.map_append];exact oE _ cvc,by omega,by rw[<-List.append_assoc,List.length_append];omega,λq hq z hz=>?_⟩;rw[<-Vz,ycy (by omega),AF,hp]at hq;rcases fY.mp hq with y1|y1
    ·rw[eA];exact oE _ (cl q y1 z hz)
    ·have e1:q=p:=fN.mp y1;rw[e1]at hz;exact c3 z (pm.mem_iff.mpr (nW.mpr hz))
  ·have hge:dn=(G++Tc).length:=by
    have:=of_decide_eq_false (Bool.eq_false_iff.mpr hge);omega
   rw[hge,AJ]at cl;refine k Tc rc Hc oc kc tcc ⟨cvc,λq hq z hz=>?_⟩;rw[<-eA]at hq;obtain⟨u,hu,rfl⟩:=cC.mp hq;exact cl u hu z hz
theorem zi{H0 H:Hp}{x:Addr}{o:HO}(fr:∀b o,b≠x->H0 b=some o->H b=some o):∀b u,b≠x->H0 b=some u->upd H x o b=some u:=λb u n e=>by rw[ae n];exact fr b u n e
theorem W0(T:Txt K mg A):aG P w K mg base bP 4 A.X3 A.xC ["self", "given", "shelves", "entry"] (F0 A.aK):=by
 refine T.E2.ok Kg (λvs H Q E h=>?_) (λcdv Ar outer s H vs Q E hr h=>?_)
 ·obtain⟨x,dx,g,s,e,G,xs,rfl,_⟩:=h;rfl
 ·obtain⟨x,dx,g,s,e,G,xs,rfl,hx,⟨hG,hS,bd⟩,k⟩:=h;refine⟨_,(aE (pS 4 Kg.nd (pC (ZY T) hr T.Ru T.MG T.JZ (ah (pv 2) aa))) (aE (bx (pC (Yp T) hr T.Rw T.O_ T.Kk (ah (ao (zT (K:=K) rfl) (pv 1) (pv 4)) aa))) (aE (cM (pv 0) (jP (yY (K:=K) rfl) (by rfl) T.cZ de (ah (pv 1) aa)) rfl) (aE (cM (pv 0) (bS aa) rfl) (aE (cM (pv 0) (pC (RO T) hr T.Ni T.Ds T.Dh (ah (pv 1) aa)) rfl) (aE (cM (pv 0) (pC (RO T) hr T.Ni T.Ds T.Dh (ah (pv 4) aa)) rfl) (aE (cM (pv 0) dz rfl) (aE (cM (pv 0) dz rfl) (aE (bx (cL (pv 0) T.bF T.AR (Sx T) (hr.mono (by decide)) T.EL .nil ck (ah (pv 3) (ah au aa)))) (aE (bx (dC (pv 0) T.bF T.Pn (Yy T) (hr.mono (by decide)) T.NU .nil ck )) (aF (ay (nv (aX (pv 0) rfl) (λ_=>rfl)) (aE ix (aF ix)) cN)))))))))))),?_⟩;walk_at "rd";have gq:=bd.gq;rw[ij]at gq;refine⟨xs,hS,by omega,λl H1 s1 hl e1=>⟨_,aI.of (s1 _ _ hG.top),_,aI.of e1,by rw[aS,aS,sizeLine_eq];omega,λp hp=>?_⟩⟩;have atA:∀q∈G++flat xs,q.At H:=λq hq=>(fY.mp hq).elim (hG.at_ q) λy=>by
   obtain⟨x',hx',y⟩:=A_.mp y;exact(hS.at_ x' hx').at_ q y
  have s2:=s1.trans (bo (o:=HO.lst (G.map aD.v++(flat xs).map aD.v)) hp);refine⟨G++flat xs,⟨by rw[aJ,eA],λq hq=>(atA q hq).mono s2⟩,by rw[ij];omega,bd.nd,λH2 s3=>⟨_,.inl (aI.of (s3 _ _ (s2 _ _ hG.top))),λlp hlp=>?_⟩⟩;have s4:=s2.trans s3;have e4:=s3 _ _ (bo hp _ _ e1);clear s1 s2 s3 e1 hp;have s5:=s4.trans (bo (o:=HO.lst (G.map aD.v)) hlp);have e5:=bo (o:=HO.lst (G.map aD.v)) hlp _ _ e4;have lp5:upd H2 lp (HO.lst (G.map aD.v)) lp=some (HO.lst (G.map aD.v)):=aJ;have lpn:H lp=none:=s4.free hlp;have nx5:=s5 _ _ hx;have n1:lp≠x:=Ne.symm (bf (s4 _ _ hx) hlp);have n1l:l≠lp:=bf e4 hlp;generalize upd H2 lp (HO.lst (G.map aD.v))=H5 at *;refine⟨_,_,_,nx5,T.bF,T.bG,by show 0<1000;decide,i8 _,λlr hlr=>?_⟩;have ra:=zi (x:=x) (o:=HO.ins A.aK dx (VY lp)) (λb o _ e=>s5 b o e);have lpa:=ae n1 (H:=H5) (o:=HO.ins A.aK dx (VY lp))▸lp5;have nlx:l≠x:=λe=>by rw[e,hx]at hl;cases hl
  have la:upd H5 x (HO.ins A.aK dx (VY lp)) l=some (HO.lst ((flat xs).map aD.v)):=by rw[ae nlx];exact e5
  have xa:upd H5 x (HO.ins A.aK dx (VY lp)) x=some (HO.ins A.aK dx (VY lp)):=aJ;generalize upd H5 x (HO.ins A.aK dx (VY lp))=Ha at *;have n2:lr≠x:=Ne.symm (bf xa hlr);have n12:lp≠lr:=bf lpa hlr;have lrn:H lr=none:=by
   cases q:H lr with
   |none=>rfl
   |some u=>rw[ra lr u n2 q]at hlr;cases hlr
  have sb:=bo (o:=HO.lst []) hlr;have lrb:upd Ha lr (HO.lst []) lr=some (HO.lst []):=aJ;generalize upd Ha lr (HO.lst [])=Hb at *;refine⟨_,_,_,sb _ _ xa,T.bF,T.cT,by show 1<1000;decide,?_⟩;have rc:=zi (x:=x) (o:=HO.ins A.aK dx (Vt lp lr)) (λb o n e=>sb b o (ra b o n e));have rac:=zi (x:=x) (o:=HO.ins A.aK dx (Vt lp lr)) (λb o _ e=>sb b o e);have lrc:upd Hb x (HO.ins A.aK dx (Vt lp lr)) lr=some (HO.lst []):=by rw[ae n2];exact lrb
  have xc:upd Hb x (HO.ins A.aK dx (Vt lp lr)) x=some (HO.ins A.aK dx (Vt lp lr)):=aJ;generalize upd Hb x (HO.ins A.aK dx (Vt lp lr))=Hc at *;have insx:(∀xs:List V,HO.ins A.aK dx []≠.lst xs)/\∀xs:List V,HO.ins A.aK dx []≠.tup xs:=⟨(λ_ z=>by cases z),(λ_ z=>by cases z)⟩
  refine⟨G,ZW (Jo hx insx rc) hG,by omega,λp hp=>bd.bnd p (BP _ hp),λdg Hd sd hdg fg=>⟨_,_,_,sd _ _ xc,T.bF,T.bE,by show 2<1000;decide,?_⟩⟩;have n3:dg≠x:=Ne.symm (bf xc hdg);have rce:=zi (x:=x) (o:=HO.ins A.aK dx (Wm lp lr dg)) (λb o _ e=>sd b o e);have rde:=zi (H0:=Hd) (x:=x) (o:=HO.ins A.aK dx (Wm lp lr dg)) (λb o _ e=>e);have xe:upd Hd x (HO.ins A.aK dx (Wm lp lr dg)) x=some (HO.ins A.aK dx (Wm lp lr dg)):=aJ;generalize upd Hd x (HO.ins A.aK dx (Wm lp lr dg))=He at *;have re:∀b o,b≠x->H b=some o->He b=some o:=λb o n e=>rce b o n (rc b o n e);have le:=rce _ _ nlx (rac _ _ nlx la);refine⟨flat xs,⟨le,λp hp=>qk (Jo hx insx re) (atA p (oQ _ hp))⟩,by omega,λp hp=>bd.bnd p (oQ _ hp),λds Hf sf hds fs=>⟨_,_,_,sf _ _ xe,T.bF,T.bD,by show 3<1000;decide,λdf hdf=>?_⟩⟩;obtain⟨kg,hkg,vg⟩:=fg;obtain⟨ks,hks,vs⟩:=fs;have n4:ds≠x:=Ne.symm (bf xe hds);have rfg:=zi (H0:=Hf) (x:=x) (o:=HO.ins A.aK dx (Xq lp lr dg ds)) (λb o _ e=>e);have xg:upd Hf x (HO.ins A.aK dx (Xq lp lr dg ds)) x=some (HO.ins A.aK dx (Xq lp lr dg ds)):=aJ;generalize upd Hf x (HO.ins A.aK dx (Xq lp lr dg ds))=Hg at *;have fL:∀b o,b≠x->He b=some o->Hg b=some o:=λb o n e=>rfg b o n (sf b o e);have dgg:=fL _ _ n3 (rde _ _ n3 hkg);have dsg:=rfg _ _ n4 hks;have n5:df≠x:=Ne.symm (bf xg hdf);have sh:=bo (o:=HO.dK []) hdf;have dfh:upd Hg df (HO.dK []) df=some (HO.dK []):=aJ
  have dfn:H df=none:=by
   cases q:H df with
   |none=>rfl
   |some u=>rw[fL df u n5 (re df u n5 q)]at hdf;cases hdf
  have n35:dg≠df:=bf dgg hdf;have n45:ds≠df:=bf dsg hdf;generalize upd Hg df (HO.dK [])=Hh at *;refine⟨_,_,_,sh _ _ xg,T.bF,T.bq,by show 4<1000;decide,λdu hdu=>?_⟩;have rhi:=zi (H0:=Hh) (x:=x) (o:=HO.ins A.aK dx (pfE lp lr dg ds df)) (λb o _ e=>e);have xi:upd Hh x (HO.ins A.aK dx (pfE lp lr dg ds df)) x=some (HO.ins A.aK dx (pfE lp lr dg ds df)):=aJ;generalize upd Hh x (HO.ins A.aK dx (pfE lp lr dg ds df))=Hi at *;have n6:du≠x:=Ne.symm (bf xi hdu);have n65:du≠df:=Ne.symm (bf (rhi _ _ n5 dfh) hdu);have sj:=bo (o:=HO.dK []) hdu;have duj:upd Hi du (HO.dK []) du=some (HO.dK []):=aJ;generalize upd Hi du (HO.dK [])=Hj at *;refine⟨_,_,_,sj _ _ xi,T.bF,T.dQ,by show 5<1000;decide,?_⟩;have rjk:=zi (H0:=Hj) (x:=x) (o:=HO.ins A.aK dx (jb.attrs ⟨x,dx,lp,lr,dg,ds,df,du⟩)) (λb o _ e=>e);have xk:upd Hj x (HO.ins A.aK dx (jb.attrs ⟨x,dx,lp,lr,dg,ds,df,du⟩)) x=some (HO.ins A.aK dx (jb.attrs ⟨x,dx,lp,lr,dg,ds,df,du⟩)):=aJ;show ∃x_18 x_19,upd Hj x (HO.ins A.aK dx (jb.attrs ⟨x,dx,lp,lr,dg,ds,df,du⟩)) x=some (HO.ins A.aK x_18 x_19)/\_;have rgk:∀b o,b≠x->Hg b=some o->upd Hj x (HO.ins A.aK dx (jb.attrs ⟨x,dx,lp,lr,dg,ds,df,du⟩)) b=some o:=λb o n e=>rjk b o n (sj _ _ (rhi b o n (sh _ _ e)));refine⟨_,_,xk,rfl,⟨x,dx,lp,lr,dg,ds,df,du⟩,rfl,e,G,flat xs,[],[],?_⟩
  have rHk:∀b o,b≠x->H b=some o->upd Hj x (HO.ins A.aK dx (jb.attrs ⟨x,dx,lp,lr,dg,ds,df,du⟩)) b=some o:=λb o n e=>rgk b o n (fL b o n (re b o n e));have o:Bk A.aK (upd Hj x (HO.ins A.aK dx (jb.attrs ⟨x,dx,lp,lr,dg,ds,df,du⟩))) ⟨x,dx,lp,lr,dg,ds,df,du⟩ G (flat xs) [] []:=by
   refine⟨xk,?_,?_,(λr hr=>by cases hr),⟨kg,rgk _ _ n3 dgg,vg⟩,⟨ks,rgk _ _ n4 dsg,vs⟩,rjk _ _ n5 (sj _ _ (rhi _ _ n5 dfh)),rjk _ _ n6 duj,λp hp=>⟨qk (Jo hx insx rHk) (atA p hp),λy=>?_,λy=>?_⟩,n12,⟨n35,n45,n65⟩,(λp hp=>by cases hp)⟩
   ·rw[Il];exact rgk _ _ n1 (fL _ _ n1 (rce _ _ n1 (rac _ _ n1 lpa)))
   ·exact rgk _ _ n2 (fL _ _ n2 (rce _ _ n2 lrc))
   ·obtain⟨ys,z⟩:=(atA p hp).list y;rw[lpn]at z;cases z
   ·obtain⟨ys,z⟩:=(atA p hp).list y;rw[lrn]at z;cases z
  refine⟨o,bd,bd.ent,⟨List.nodup_nil,(λp hp=>by cases hp),rfl,(λi p r hp=>by cases hp)⟩,.inl rfl,λT' rs' Hl ol kl tl cl=>?_⟩;refine⟨_,_,ol.top,rfl,⟨x,dx,lp,lr,dg,ds,df,du⟩,rfl,e,G,flat xs,_,rs',ol,bd,tl,cl,λT2 rs2 Hm om km tm cm=>⟨_,_,_,om.top,T.bF,T.dQ,_,jb.l6 _,false,.inr (.inr ⟨[],om.du,rfl⟩),?_⟩⟩;rw[if_neg (by decide)];refine k ⟨x,dx,lp,lr,dg,ds,df,du⟩ T2 rs2 Hm rfl om (λb u n h=>km b u ?_ ?_ ?_ (kl b u ?_ ?_ ?_ (rHk b u n h))) lpn lrn tm cm
  ·exact λq=>by rw[q,lpn]at h;cases h
  ·exact λq=>by rw[q,lrn]at h;cases h
  ·exact λq=>by rw[q,dfn]at h;cases h
  ·exact λq=>by rw[q,lpn]at h;cases h
  ·exact λq=>by rw[q,lrn]at h;cases h
  ·exact λq=>by rw[q,dfn]at h;cases h
theorem Yi(bd:XW G S e)(tc:CJ (G.map ba) (S.map ba) e (T.map ba) rs)(sub:∀p∈T,p∈S):((G++T).map aD.name).Nodup:=by
 have h:=bd.nd;rw[eA]at h ⊢;obtain⟨h1,h2,h3⟩:=Ee.mp h;refine Ee.mpr ⟨h1,?_,λx hx y hy=>?_⟩
 ·have:=tc.nd;rw[gS]at this;exact this
 ·obtain⟨u,hu,rfl⟩:=cC.mp hy;exact h3 x hx _ (cC.mpr ⟨u,sub u hu,rfl⟩)
theorem le_str{so:List aD}(h:(so.map λp=>((p.name,0):cb)).Pairwise zV):(so.map aD.name).Pairwise GN:=by
 rw[List.pairwise_map]at h ⊢;refine h.imp λ{a b} h=>List.not_lt.mp λq=>?_;have h:o7 (b.name,0) (a.name,0)=false:=h;rw[(eX _ _).mpr (.inl q)]at h;cases h
theorem Gd(h:oO H L ps)(hq:q.At H)(nq:q.lists.Nodup)(fr:∀b∈q.lists,b∉L::bC ps):oO (upd H L (.lst (ps.map aD.v++[q.v]))) L (ps++[q]):=by
 have b:ph H (upd H L (.lst (ps.map aD.v++[q.v]))) L:=ph.upd h.top;have nL:=(Fm.mp h.nd).1;refine⟨by rw[aJ];simp,λp hp=>?_,?_⟩
 ·rcases fY.mp hp with z|z
  ·exact(h.at_ p z).but b λy=>nL (A_.mpr ⟨p,z,y⟩)
  ·rw[fN.mp z];exact hq.but b λy=>fr _ y Qw
 ·rw[cy,<-List.cons_append];exact Ee.mpr ⟨h.nd,nq,λx hx y hy e=>fr y hy (e▸hx)⟩
theorem Qm(T:Txt K mg A):aG P w K mg base bP 6 A.taken A.fQ ["given", "shelves", "entry"] (KI A):=by
 refine T.mS.okC T.zA oJ (λvs H Q E h=>?_) (λc cdv Ar outer s H vs Q E hcd hcc hr h=>?_)
 ·obtain⟨g,s,e,G,xs,rfl,_⟩:=h;rfl
 ·obtain⟨g,s,e,G,xs,rfl,hp,tb,k⟩:=h;refine⟨_,(aE (pS 3 oJ.nd (gp T.MI (W0 T) (hr.mono (by decide)) rfl T.Me T.Lr .nil ck (ah (pv 0) (ah (pv 1) (ah (pv 2) aa))))) (aE (pS 4 oJ.nd (zO (K:=K) (P:=A.aM) (y := "piece") rfl (hr.mono (by decide)) (aX (pv 3) rfl) (by rfl) T.d_ hcd hcc T.bm ⟨rfl,rfl,rfl,by decide +kernel,rfl,by decide +kernel,by decide +kernel⟩ (λ_ _ _ _ _ _=>(tx K (pv 0))))) (aF (aj (gG (wQ ["piece"]) rfl (eN (K:=K) rfl (pv 4)) (λ_ _ _=>⟨(pn 0 (by walk_at "n")),dj,(pC (WV T) hr T.Sh T.IL T.Pw (ah (pv 0) aa))⟩)))))),?_⟩;walk_at "rd";obtain⟨hG,hS,bd⟩:=hp;intro x dx hx hdx n;have s1:aL H (upd (upd H dx (HO.own x)) x (HO.ins A.aK dx [])):=(bo hdx).trans (bo (by rw[ae (Ne.symm n)];exact hx));refine⟨_,aJ,G,xs,⟨DT hG s1,KW hS s1,bd⟩,λt T' rs H1 ex o r f1 f2 tc cl=>⟨_,_,_,by rw[<-ex];exact o.top,T.bF,T.bG,_,t.l1,?_⟩⟩;have s2:aL H H1:=λb u e=>r b u (bf e hx) (s1 _ _ e);have tb1:=tb.more s2;have bl:=Hu bd tc o.sub;have inS:∀p∈G++T',p∈G++flat xs:=λp hp=>(fY.mp hp).elim (BP _) λy=>oQ _ (o.sub p y);have ndT:=Yi bd tc o.sub;have atA:∀p∈G++T',p.At H1:=λp hp=>(o.at_ p (inS p hp)).1;have hz:∀p∈G++T',zF H1 p.t=p.name/\rF H1 p.t=[.ref p.ls,.ref p.ln]:=λp hp=>by
   unfold zF rF;rw[(atA p hp).top];exact⟨rfl,rfl⟩
  refine⟨_,rfl,(G++T').map aD.t,by rw[gS];exact aI.of o.lp,zF H1,rF H1,λb hb=>?_,by rw[aS];omega,tb1,λl bs H2 hl pm pw sx tb2 hl2=>?_⟩
  ·obtain⟨p,hp,rfl⟩:=cC.mp hb;rw[(hz p hp).1,(hz p hp).2];exact(atA p hp).top
  obtain⟨ps0,hT,_⟩:=id tb1;obtain⟨so,sp,rfl⟩:=IT atA ndT pm;have pw2:(so.map aD.name).Pairwise GN:=by
   rw[gS]at pw;rw[RS (g:=λp:aD=>((p.name,0):cb)) λp hp=>by show(zF H1 p.t,(0:Int))=_;rw[(hz p (sp.mem_iff.mp hp)).1]]at pw;exact le_str pw
  have at2:∀p∈so,p.At H2:=λp hp=>(atA p (sp.mem_iff.mp hp)).keep hT sx;rw[gS]at hl2;have hl2:H2 l=some (.lst (so.map aD.v)):=hl2;have sln:so.length<=14:=by rw[sp.length_eq];exact bl
  have lT:l≠A.aM:=λe=>by rw[e,hT]at hl;cases hl
  refine fF.of (xs:=so.map aD.v) (by rw[aS,sizeLine_eq];omega) (aI.of hl2) (λD i ys H'=>∃qs:List aD,ys=qs.map aD.v/\aL H2 H'/\oO H' D qs/\qs.map ba=(so.take i).map ba/\∀b∈D::bC qs,H2 b=none)
   (λD hD=>⟨[],rfl,bo hD,oO.nil aJ,rfl,λb hb=>by simp[bC]at hb;rw[hb];exact hD⟩) ?_ ?_ ?_
  ·rintro D i ys H' hD hi ⟨qs,rfl,s3,hQ,e,_⟩;refine⟨aI.of (s3 _ _ hl2),hQ.top,?_⟩;have:=congrArg List.length e;rw[aS,aS,pX]at this;rw[aS];omega
  ·rintro D i x ys H' hD hx ⟨qs,rfl,s3,hQ,e,fr⟩;walk_at "0";obtain⟨p,hp,rfl⟩:=iw.mp hx;have hm:=i7 hp;have pb:=bd.bnd p (inS p (sp.mem_iff.mp hm));walk_at "rd";refine⟨.no .nil,p,rfl,(at2 p hm).mono s3,Nat.le_succ_of_le pb.st,Nat.le_succ_of_le pb.nm,λs hs=>Nat.le_succ_of_le (pb.ss s hs).2,λq H4 s4 qa qe qf qn=>⟨s4 _ _ hQ.top,qs++[q],by simp,dA hD (s3.trans s4),?_,?_,λb hb=>?_⟩⟩
   ·exact Gd (hQ.mono s4) qa qn λb hb=>hQ.fresh (qf b hb)
   ·rw[eA,e,AF,hp,eA];congr 1;show [ba q]=[ba p];rw[qe]
   ·rw[cy,<-List.cons_append]at hb;rcases fY.mp hb with z|z
    ·exact fr b z
    ·exact s3.free (qf b z)
  ·rintro D ys H' hD ⟨qs,rfl,s3,hQ,e,fr⟩;walk_at "2";have f2:∀b,H2 b=none->H b=none:=λb hb=>by
    cases q:H b with
    |none=>rfl
    |some u=>
     by_cases n:b=A.aM
     ·obtain⟨w,hw,_⟩:=tb2;rw[n,hw]at hb;cases hb
     ·rw[sx b u n (s2 _ _ q)]at hb;cases hb
   have en:qs.map aD.name=so.map aD.name:=by
    have:=congrArg (List.map (·.1)) e;rw[gS,gS]at this;exact this
   refine k D (T'.map ba) (rs.map (·.2)) qs H' (λb u n h=>s3 _ _ (sx b u n (s2 _ _ h))) (tb2.more s3) hQ (λb hb=>f2 b (fr b hb)) tc cl ?_ (by rw[en];exact pw2);rw[e,<-eA];exact sp.map _
theorem GW{ms:List aA}{ns:List ax}{pn z:Str}(e:ms.map (λm=>(m.name,m.a,m.b,m.c))=ns.map (λn=>(n.name,pn,n.st,n.off))):(aP ms z).map (λm=>(m.a,m.b,m.c))=(ns.find? λn=>decide (n.name=z)).map λn=>(pn,n.st,n.off):=by
 have h1:(aP ms z).map (λm=>(m.a,m.b,m.c))=((ms.map (λm=>(m.name,m.a,m.b,m.c))).find? λt=>decide (t.1=z)).map (·.2):=by
  unfold aP;rw[Wh,Option.map_map];rfl
 have h2:((ns.find? λn=>decide (n.name=z)).map λn=>(pn,n.st,n.off))=((ns.map (λn=>(n.name,pn,n.st,n.off))).find? λt=>decide (t.1=z)).map (·.2):=by
  rw[Wh,Option.map_map];rfl
 rw[h1,h2,e]
theorem VH(e:mo.map (λm=>(m.name,m.a,m.b,m.c))=(p.bL.filter λn=>decide (n.sort=Str.ofString "own")).map (λn=>(n.name,p.name,n.st,n.off))):
  iX p mn f=((aP mo f.name).or (aP mn f.name)).map λm=>(m.a,m.b,m.c):=by
 have h:=GW (z:=f.name) e;rw[List.find?_filter]at h;have h':(p.bL.find? λa=>decide (decide (a.sort=Str.ofString "own")=true/\decide (a.name=f.name)=true))=p.bL.find? λn=>decide (n.name=f.name)&&decide (n.sort=eV):=by
  congr 1;funext n;unfold eV;by_cases a:n.sort=Str.ofString "own" <;> by_cases b:n.name=f.name<;>simp[a,b]
 unfold iX;rw[h']at h;cases q:p.bL.find? λn=>decide (n.name=f.name)&&decide (n.sort=eV) with
 |none=>
  rw[q]at h;have:aP mo f.name=none:=by simpa using h
  rw[this];rfl
 |some n=>
  rw[q]at h;cases q2:aP mo f.name with
  |none=>rw[q2]at h;cases h
  |some m=>rw[q2]at h;simpa using h.symm
theorem W3(T:Txt K mg A):aG P w K mg base bP 3 A.Xk A.yU ["piece_name", "own", "names", "fill"] F9:=by
 refine T.EC.ok oK (λvs H Q E h=>?_) (λcdv Ar outer s H vs Q E hr h=>?_)
 ·obtain⟨pn,dO,dN,f,mo,mn,rfl,_⟩:=h;rfl
 ·obtain⟨pn,dO,dN,f,mo,mn,rfl,hf,hO,hN,k1,k2⟩:=h;refine⟨_,(aE (pS 4 oK.nd (tx K (pv 3))) (aE (pS 5 oK.nd (tx K (pv 3))) (aE (pS 6 oK.nd (tx K (pv 3))) (aE (pS 7 oK.nd (Hz (cD hr) (pv 1) (pv 4) (LY (cD hr) (pv 2) (pv 4) ⟨rfl,rfl,rfl,rfl⟩) ⟨rfl,rfl,rfl,rfl⟩)) (aE (ay (dB Q5 (pv 7) f9 (ar _)) (aF (aj (a_ (ah (tx K (pv 7)) (ah (tx K (pv 7)) (ah (ao b0 (tx K (pv 7)) (pv 5)) aa)))))) cN) (aE (ay (aW (pv 6)) (aF (aj (pC (iP T) hr T.g0 T.fM T.fW (ah (pv 5) aa)))) cN) (aF ix))))))),?_⟩;walk_at "rd";have gO:cz H dO (V.str f.name) ((aP mo f.name).map λm=>V.ref m.t):=by rw[<-Rp];exact cz.k (k:=Sum.inr f.name) hO.top
  have gN:cz H dN (V.str f.name) ((aP mn f.name).map λm=>V.ref m.t):=by rw[<-Rp];exact cz.k (k:=Sum.inr f.name) hN.top
  refine⟨_,bB.of hf,_,rfl,_,bB.of hf,_,rfl,_,bB.of hf,_,rfl,.inl ⟨_,.inl hO.top⟩,.inl ⟨_,.inl hN.top⟩,_,gN,_,gO,?_⟩;cases q1:aP mo f.name with
  |some m=>
   rw[q1]at k1 k2;have hm:=hO.at_ m (QF q1);simp only[Option.map_some,Option.getD_some];rw[if_pos (by simp)];exact⟨m.t,rfl,_,bB.of hm,_,rfl,m.t,rfl,_,bB.of hm,_,rfl,m.t,rfl,_,bB.of hm,_,rfl,m.c,rfl,f.add,rfl,by walk_at "s", λq hq=>k1 m rfl q hq⟩
  |none=>
   rw[q1]at k1 k2;cases q2:aP mn f.name with
   |some m=>
    rw[q2]at k1 k2;have hm:=hN.at_ m (QF q2);simp only[Option.map_some,Option.getD_some,Option.map_none,Option.getD_none];rw[if_pos (by simp)];exact⟨m.t,rfl,_,bB.of hm,_,rfl,m.t,rfl,_,bB.of hm,_,rfl,m.t,rfl,_,bB.of hm,_,rfl,m.c,rfl,f.add,rfl,by walk_at "s", λq hq=>k1 m rfl q hq⟩
   |none=>
    rw[q2]at k1 k2;simp only[Option.map_none,Option.getD_none];rw[if_neg (by simp)];obtain⟨hs,k⟩:=k2 rfl;exact⟨f.soft,rfl,bN (λ_=>⟨f.add,rfl,k⟩) (λz=>absurd hs z)⟩
theorem U4(T:Txt K mg A):aG P w K mg base bP 4 A.Ht A.lG ["piece", "names", "fills"] J6:=by
 refine T.xv.ok Ea (λvs H Q E h=>?_) (λcdv Ar outer s H vs Q E hr h=>?_)
 ·obtain⟨p,dN,l,fs,mn,rfl,_⟩:=h;rfl
 ·obtain⟨p,dN,l,fs,mn,rfl,hp,hf,hd,hN,hl,hn,hfs,k⟩:=h;refine⟨_,(aE (pS 3 Ea.nd (pC (Cw T) hr T.zZ T.qj T.qc (ah (pv 0) (ah au aa)))) (aF (aj (gG (u5 (own:=["fill"]) (fr:=["own", "names", "piece"]) (fm:=[3,1,0]) rfl (by decide +kernel) (by decide +kernel) (by decide +kernel) (.cons rfl (by walk_at "o") rfl (.cons rfl (by walk_at "o") rfl (.cons rfl (by walk_at "o") rfl .nil)))) rfl (eN (K:=K) rfl (pv 2)) (λ_ _ _=>⟨(pn 0 (by walk_at "n")),dj,(pC (W3 T) hr T.RL T.IX T.JY (ah (tx K (pv 3)) (ah (pv 1) (ah (pv 2) (ah (pv 0) aa)))))⟩))))),?_⟩;walk_at "rd";refine⟨p,rfl,hp,hf,hd,λd mo H1 s1 tab e nd=>?_⟩;have er:∀f,iX p mn f=((aP mo f.name).or (aP mn f.name)).map λm=>(m.a,m.b,m.c):=λf=>VH (mn:=mn) (f:=f) e;refine fF.of (xs:=fs.map aq.v) (by rw[aS,sizeLine_eq];omega) (aI.of (s1 _ _ hl)) (λD i ys H2=>aL H1 H2/\H2 D=some (.lst ys)/\ys.length=i/\∀(j:Nat) f v,fs[j]?=some f->ys[j]?=some v->QH H2 p mn f v)
   (λD hD=>⟨bo hD,aJ,rfl,λj f v _ h=>by cases h⟩) ?_ ?_ ?_
  ·rintro D i ys H2 hD hi ⟨s2,hDD,hl2,_⟩;exact⟨aI.of (s2 _ _ (s1 _ _ hl)),hDD,by omega⟩
  ·rintro D i x ys H2 hD hx ⟨s2,hDD,hl2,ha⟩;walk_at "0";obtain⟨f,hfi,rfl⟩:=iw.mp hx;obtain⟨fa,fr⟩:=hfs f (i7 hfi);have s12:=s1.trans s2;have step:∀(v:V) (H3:Hp),(∀b o,b≠D->H2 b=some o->H3 b=some o)->QH H3 p mn f v->∀(j:Nat) f' v',fs[j]?=some f'->(ys++[v])[j]?=some v'->QH H3 p mn f' v':=λv H3 kp av j f' v' h1 h2=>by
    by_cases hj:j<ys.length
    ·rw[Wi hj]at h2;rcases ha j f' v' h1 h2 with ⟨a,b,c,q,r1,r2,r3⟩|z
     ·exact .inl ⟨a,b,c,q,r1,r2,kp q _ (aR r3 hDD (by intro z;cases z)) r3⟩
     ·exact .inr z
    ·have hj2:j=ys.length:=by
      have:=(o6.mp h2).1;rw[ij]at this;simp at this;omega
     subst hj2;rw[SE (bA _),Nat.sub_self]at h2;cases h2;rw[hl2,hfi]at h1;cases h1;exact av
   walk_at "rd";refine⟨.no (.yes (.yes (.yes .nil))),_,bB.of (s12 _ _ hp.top),_,rfl,p.name,rfl,f,rfl,s12 _ _ fa,mo,tab.mono s2,mn,(hN.mono s1).mono s2,λm hm q hq=>?_,λhm=>?_⟩
   ·have hqD:D≠q:=bf hDD hq;refine⟨by rw[ae hqD];exact hDD,dA hD (s2.trans (bo hq)),aJ,by rw[ij,hl2];rfl,step _ _ (λb o nb e=>?_) (.inl ⟨m.a,m.b,m.c,q,by rw[er,hm];rfl,rfl,by rw[ae (Ne.symm hqD),aJ]⟩)⟩;rw[ae nb,ae (bf e hq)];exact e
   ·have rn:iX p mn f=none:=by rw[er,hm];rfl
    exact⟨fr rn,hDD,dA hD s2,aJ,by rw[ij,hl2];rfl,step _ _ (λb o nb e=>by rw[ae nb];exact e) (.inr ⟨rn,rfl⟩)⟩
  ·rintro D ys H2 hD ⟨s2,hDD,hl2,ha⟩;rw[aS]at hl2;exact k D ys H2 (s1.trans s2) hDD hl2 ha (cU s1 hD)
theorem jK(T:Txt K mg A):aG P w K mg base bP 1 A.WM A.wC ["value"] GJ:=by
 refine T.CS.ok VM (λvs H Q E h=>?_) (λcdv Ar outer s H vs Q E hr h=>?_)
 ·rcases h with ⟨n,rfl,k⟩|⟨t,xs,rfl,ht,k⟩<;>rfl
 ·refine⟨_,(aF (aj (cX (bY (K:=K) rfl) (by rfl) T.aB ia (ah (pv 0) (ah (cV rfl T.jL ou nM) aa))))),?_⟩;rcases h with ⟨n,rfl,k⟩|⟨t,xs,rfl,ht,k⟩
  ·walk_at "rd";exact⟨_,.int n,true,rfl,k⟩
  ·walk_at "rd";exact⟨_,.tup ht,false,rfl,k⟩
theorem Fu(T:Txt K mg A):aG P w K mg base bP 2 A.Ao A.iS ["value"] Qk:=by
 refine T.mF.ok Lk (λvs H Q E h=>?_) (λcdv Ar outer s H vs Q E hr h=>?_)
 ·obtain⟨t,z,a,o,rfl,ht,k⟩:=h;rfl
 ·obtain⟨t,z,a,o,rfl,ht,k⟩:=h;refine⟨_,(aF (aj (fA (K4 (pC (jK T) hr T.iB T.gX T.g7 (ah (pv 0) aa))) (h8 (fb aY (tx K (pv 0)) au (ar _)))))),?_⟩;walk_at "rd";exact⟨_,ht,_,.of ht,_,rfl,rfl,k⟩
theorem Zb(T:Txt K mg A):aG P w K mg base bP 2 A.Ze A.uE ["aimed"] BA:=by
 refine T.Dj.ok UM (λvs H Q E h=>?_) (λcdv Ar outer s H vs Q E hr h=>?_)
 ·obtain⟨t,z,a,o,rfl,ht,k⟩:=h;rfl
 ·obtain⟨t,z,a,o,rfl,ht,k⟩:=h;refine⟨_,(aF (aj (a_ (ah au (ah (tx K (pv 0)) (ah (tx K (pv 0)) (ah (pC (iP T) hr T.g0 T.fM T.fW (ah (tx K (pv 0)) aa)) aa))))))),?_⟩;walk_at "rd";exact⟨_,.of ht,_,rfl,_,.of ht,_,rfl,_,.of ht,_,rfl,_,rfl,by decide,k⟩
theorem Na(T:Txt K mg A):aG P w K mg base bP 2 A.YO A.uB ["value"] Gq:=by
 refine T.FN.ok T_ (λvs H Q E h=>?_) (λcdv Ar outer s H vs Q E hr h=>?_)
 ·rcases h with ⟨n,rfl,k⟩|⟨t,z,a,o,rfl,ht,k⟩<;>rfl
 ·refine⟨_,(aF (aj (AA (aW (pC (jK T) hr T.iB T.gX T.g7 (ah (pv 0) aa))) (pv 0) (a_ (ah (tx K (pv 0)) (ah (tx K (pv 0)) (ah (tx K (pv 0)) (ah (tx K (pv 0)) aa)))))))),?_⟩;rcases h with ⟨n,rfl,k⟩|⟨t,z,a,o,rfl,ht,k⟩
  ·walk_at "rd";exact k
  ·walk_at "rd";exact⟨_,ht,_,.of ht,_,rfl,_,.of ht,_,rfl,_,.of ht,_,rfl,_,.of ht,_,rfl,by decide,k⟩
theorem Xb(T:Txt K mg A):aG P w K mg base bP 2 A.X7 A.wV ["value"] Ax:=by
 refine T.Ey.ok Vv (λvs H Q E h=>?_) (λcdv Ar outer s H vs Q E hr h=>?_)
 ·obtain⟨n,rfl,k⟩:=h;rfl
 ·obtain⟨n,rfl,k⟩:=h;refine⟨_,(aE (ay (b_ (aW (pC (jK T) hr T.iB T.gX T.g7 (ah (pv 0) aa)))) (aF ix) cN) (aF (aj (pv 0)))),?_⟩;walk_at "rd";exact k
theorem SO(T:Txt K mg A):aG P w K mg base bP 3 A.Zw A.wF ["value", "number"] GL:=by
 refine T.Cy.ok Vx (λvs H Q E h=>?_) (λcdv Ar outer s H vs Q E hr h=>?_)
 ·rcases h with ⟨n,b,rfl,k⟩|⟨t,z,a,o,b,rfl,ht,k⟩<;>rfl
 ·refine⟨_,(aE (ay (aW (pC (jK T) hr T.iB T.gX T.g7 (ah (pv 0) aa))) (aF (aj (pC (iP T) hr T.g0 T.fM T.fW (ah (ao b0 (pv 0) (pv 1)) aa)))) cN) (aE (ay (aW (pC (Fu T) hr T.x_ T.mx T.ku (ah (pv 0) aa))) (aF (aj (a_ (ah au (ah (tx K (pv 0)) (ah (tx K (pv 0)) (ah (pC (iP T) hr T.g0 T.fM T.fW (ah (ao b0 (tx K (pv 0)) (pv 1)) aa)) aa))))))) cN) (aF ix))),?_⟩;rcases h with ⟨n,b,rfl,k⟩|⟨t,z,a,o,b,rfl,ht,k⟩
  ·walk_at "rd";exact k
  ·walk_at "rd";exact⟨_,ht,_,_,_,ht,_,.of ht,_,rfl,_,.of ht,_,rfl,_,.of ht,_,rfl,_,rfl,by decide,k⟩
theorem Y0(T:Txt K mg A):aG P w K mg base bP 5 A.ZT A.rV ["word", "title", "aimed"] B1:=by
 refine T.EK.ok Vn (λvs H Q E h=>?_) (λcdv Ar outer s H vs Q E hr h=>?_)
 ·obtain⟨c,b,r,rfl,hr1,h1,h2,k⟩:=h;rfl
 ·obtain⟨c,b,r,rfl,hr1,h1,h2,k⟩:=h;refine⟨_,(aE (ay (aW (pC (jK T) hr T.iB T.gX T.g7 (ah (pv 2) aa))) (aF (aj (Mq (cL (pC (N4 T) hr T.FI T.Av T.AD (ah (pv 1) aa)) T.Bx T.HF (Xh T) (hr.mono (by decide)) T.N_ .nil ck (ah (pv 0) (ah af (ah (pv 2) aa)))) (Mq (cL (pC (N4 T) hr T.FI T.Av T.AD (ah (pv 1) aa)) T.rL T.Jd (WG T) (hr.mono (by decide)) T.Hw .nil ck (ah (pv 0) (ah af (ah (pv 2) aa)))) (cL (pC (N4 T) hr T.FI T.Av T.AD (ah (pv 1) aa)) T.BB T.Jf (Ym T) (hr.mono (by decide)) T.Ig .nil ck (ah (pv 0) (ah af (ah (pv 2) aa)))))))) cN) (aE ix (aF ix))),?_⟩;walk_at "rd";rcases hr1 with rfl|rfl|rfl
  ·refine .inl ⟨.inl rfl,λC hC p H' sm ⟨dx,hp⟩=>?_⟩;obtain rfl:C=A.iW:=by rcases hC with ⟨_,e⟩|⟨e,_⟩|⟨e,_⟩<;>first|exact e|exact absurd e (by decide)
   exact⟨_,_,hp,rfl,k H' sm⟩
  ·refine .inr (.inl ⟨.inr (.inl rfl),λC hC p H' sm ⟨dx,hp⟩=>?_⟩);obtain rfl:C=A.ff:=by rcases hC with ⟨e,_⟩|⟨_,e⟩|⟨e,_⟩<;>first|exact e|exact absurd e (by decide)
   exact⟨_,_,hp,rfl,h1,h2,k H' sm⟩
  ·refine .inr (.inr ⟨.inr (.inr rfl),λC hC p H' sm ⟨dx,hp⟩=>?_⟩);obtain rfl:C=A.iK:=by rcases hC with ⟨e,_⟩|⟨e,_⟩|⟨_,e⟩<;>first|exact e|exact absurd e (by decide)
   exact⟨_,_,hp,rfl,h1,h2,k H' sm⟩
theorem ZZ(T:Txt K mg A):aG P w K mg base bP 4 A.YE A.vk ["deed", "first", "second"] QX:=by
 refine T.EE.ok Tq (λvs H Q E h=>?_) (λcdv Ar outer s H vs Q E hr h=>?_)
 ·obtain⟨c,one,other,rfl,h1,h2,h3,k⟩:=h;rfl
 ·obtain⟨c,one,other,rfl,h1,h2,h3,k⟩:=h;refine⟨_,(aE (ay (PW.pt (AY (aW (pC (jK T) hr T.iB T.gX T.g7 (ah (pv 1) aa))) (rN (aW (pC (jK T) hr T.iB T.gX T.g7 (ah (pv 2) aa)))))) (aF (aj (pC (WS T) hr T.Sv T.HQ T.LM (ah (pv 0) (ah (pv 1) (ah (pv 2) aa)))))) cN) (aE ix (aE ix (aE ix (aE ix (aF ix)))))),?_⟩;walk_at "rd";exact⟨c,rfl,h1,h2,h3,k⟩
theorem nZ(z:Str)(n:Int)(w:Int):∀(l:List Int) (j:Nat) (k:List (List Key×V)),bU z n (l++[w]) j k=putK (bU z n l j k) (k3 z n ((j+l.length:Nat):Int)) (.int w)
 |[],j,k=>rfl
 |a::l,j,k=>by
  show bU z n (l++[w]) (j+1) _=putK (bU z n l (j+1) _) _ _;rw[nZ z n w l (j+1)];rw[show j+1+l.length=j+(a::l).length from by rw[pR];omega]
theorem Ab(z:Str)(s:bJ):∀(l:List bJ) (j:Nat) (k:List (List Key×V)),dH z (l++[s]) j k=stK z ((j+l.length:Nat):Int) s (dH z l j k)
 |[],j,k=>rfl
 |a::l,j,k=>by
  show dH z (l++[s]) (j+1) _=stK z _ s (dH z l (j+1) _);rw[Ab z s l (j+1)];rw[show j+1+l.length=j+(a::l).length from by rw[pR];omega]
theorem uO{κ:Type} [DecidableEq κ](k:List (κ×V))(x:κ)(v:V):(putK k x v).length<=k.length+1:=by
 unfold putK;split<;>simp
theorem gz(z:Str)(n:Int):∀(l:List Int) (j:Nat) (k:List (List Key×V)),(bU z n l j k).length<=k.length+l.length
 |[],_,_=>bA _
 |a::l,j,k=>by
  have h1:=gz z n l (j+1) (putK k (k3 z n j) (.int a));have h2:=uO k (k3 z n j) (.int a);rw[pR];show(bU z n l (j+1) (putK k (k3 z n j) (.int a))).length<=_;omega
theorem ju(z:Str)(n:Int)(ws:List Int):∀(l:List aq) (k:List (List Key×V)),(l.foldl (ed z n ws) k).length<=k.length+l.length
 |[],_=>bA _
 |a::l,k=>by
  have h1:=ju z n ws l (ed z n ws k a);have h2:(ed z n ws k a).length<=k.length+1:=uO _ _ _;rw[pR,PF];omega
theorem Ew(z:Str):∀(l:List bJ) (j:Nat) (k:List (List Key×V)),(∀s∈l,s.words.length<=70/\s.fills.length<=70)->(dH z l j k).length<=k.length+140*l.length
 |[],_,_,_=>bA _
 |a::l,j,k,h=>by
  have h1:=Ew z l (j+1) (stK z j a k) λs hs=>h s (.tail _ hs);have h2:=ju z j a.words a.fills (bU z j a.words 0 k);have h3:=gz z j a.words 0 k;have h4:=h a (.head _);rw[pR];show(dH z l (j+1) (stK z j a k)).length<=_;unfold stK at h1 ⊢;omega
def TiN(H H':Hp)(dm ds:Addr)(p:aD)(i:Nat):Prop:=(∀b o,b≠dm->b≠ds->H b=some o->H' b=some o)/\H' dm=some (.dT (dH p.name (p.bW.take i) 0 []))/\∃ks,H' ds=some (.dT ks)/\ks.length<=i/\KdS H' p.name (p.bW.take i) ks
theorem iQ(kd:KdS H z ss ks)(h:∀t xs,H t=some (.tup xs)->H' t=some (.tup xs)):KdS H' z ss ks:=λi st e=>by
 obtain⟨t,h1,h2⟩:=kd i st e;exact⟨t,h1,h t _ h2⟩
theorem Pu{H:Hp}{z:Str}{ss:List bJ}{st:bJ}{ks:List (List Key×V)}{q:Addr}(kd:KdS H z ss ks)(hq:H q=some (.tup [.str st.kind,.int st.words.length])):KdS H z (ss++[st]) (putK ks [.inr z,.inl ((ss.length:Nat):Int)] (.ref q)):=λi st' e=>by
 by_cases hi:i<ss.length
 ·rw[Wi hi]at e;obtain⟨t,h1,h2⟩:=kd i st' e;refine⟨t,?_,h2⟩;rw[dw,if_neg (λz=>by injection z with _ z;injection z with z _;injection z with z;omega)];exact h1
 ·rw[SE (by omega)]at e;have hi2:i - ss.length=0:=by
   cases h:i - ss.length with
   |zero=>rfl
   |succ n=>rw[h]at e;simp at e
  rw[hi2]at e;simp only[List.getElem?_cons_zero,Option.some.injEq]at e;subst e;refine⟨q,?_,hq⟩;have:i=ss.length:=by omega
  rw[this,dw,if_pos rfl]
structure Sb(H H':Hp)(dm ds:Addr)(p:aD)(ks:List (List Key×V))(n:Nat)(m:List (List Key×V)):Prop where
 off:∀b o,b≠dm->b≠ds->H b=some o->H' b=some o
 mem:H' dm=some (.dT m)
 str:H' ds=some (.dT ks)
 kd:KdS H' p.name (p.bW.take n) ks
theorem Sb.put{H H' H2:Hp}{dm ds:Addr}{p:aD}{ks m m':List (List Key×V)}{n:Nat}(t:Sb H H' dm ds p ks n m)(nd:dm≠ds)(s:aL H' H2):Sb H (upd H2 dm (.dT m')) dm ds p ks n m':=
 ⟨λb o n1 n2 h=>by rw[ae n1];exact s _ _ (t.off b o n1 n2 h),aJ,by rw[ae nd.symm];exact s _ _ t.str,iQ t.kd λa xs h=>by rw[ae (aR (s _ _ h) (s _ _ t.mem) (by intro z;cases z))];exact s _ _ h⟩
theorem Xp(T:Txt K mg A):aG P w K mg base bP 6 A.Xm A.yQ ["self", "piece", "names"] (Gb A.aH):=by
 refine T.C7.ok eM (λvs H Q E h=>?_) (λcdv Ar outer s H vs Q E hr h=>?_)
 ·obtain⟨x,dx,dm,ds,dN,p,mn,rfl,hx,hm,hs,nd,pa,pw,tn,un,k⟩:=h;rfl
 ·obtain⟨x,dx,dm,ds,dN,p,mn,rfl,hx,hm,hs,nd,pa,pw,tn,un,k⟩:=h;refine⟨_,(aF (pF (Dy (K:=K) rfl rfl T.dy (ah (tx K (pv 1)) aa)) (cR (K:=K) (n:=2) rfl rfl (fD (pn 3 eM.nd) (fD (pn 4 eM.nd) cQ))) (aE (pS 5 eM.nd (tx K (pv 4))) (aE (pS 6 eM.nd (tx K (pv 4))) (aE (fe (cD hr) (aX (pv 0) rfl) (a_ (ah (tx K (pv 1)) (ah (pv 3) aa))) (a_ (ah (tx K (pv 4)) (ah (cX (bX (K:=K) rfl) (by rfl) T.eS eG (ah (pv 5) aa)) aa))) rfl) (e8 (aE (pF (Dy (K:=K) rfl rfl T.dy (ah (pv 5) aa)) (cR (K:=K) (n:=2) rfl rfl (fD (pn 7 eM.nd) (fD (pn 8 eM.nd) cQ))) (aF (fe (cD hr) (aX (pv 0) rfl) (a_ (ah (tx K (pv 1)) (ah (pv 3) (ah (pv 7) aa)))) (pv 8) rfl))) (e8 (aF (pF (Vk rfl T.Dl (ah (pv 6) (ah (pC (U4 T) hr T.Lv T.B6 T.BY (ah (pv 1) (ah (pv 2) (ah (pv 6) aa)))) aa))) (cR (K:=K) (n:=2) rfl rfl (fD (pn 9 eM.nd) (fD (pn 10 eM.nd) cQ))) (aE (pS 7 eM.nd (tx K (pv 9))) (aF (fe (cD hr) (aX (pv 0) rfl) (a_ (ah (tx K (pv 1)) (ah (pv 3) (ah (pv 7) aa)))) (pC (Y0 T) hr T.RY T.IW T.KU (ah (bO (dG (K:=K) rfl) (pv 5) (pv 7) (λ_ _=>rfl)) (ah (tx K (pv 9)) (ah (pv 10) aa)))) rfl))))))))))))),?_⟩;walk_at "rd";refine⟨_,bB.of pa.top,_,rfl,?_⟩
  have fr {H':Hp}(f:∀b o,b≠dm->b≠ds->H b=some o->H' b=some o) {b:Addr}{o:HO}(h:H b=some o) (no:∀kv,o≠.dT kv):H' b=some o:=f b o (aR h hm (no _)) (aR h hs (no _)) h;have lt {H':Hp}(f:∀b o,b≠dm->b≠ds->H b=some o->H' b=some o):fc H H':=λb o h e=>fr f e (by rcases h with ⟨_,rfl⟩|⟨_,rfl⟩<;>intro _ z<;>cases z);refine Np.of (xs:=p.bW.map bJ.v) (λi σ H'=>∃a3 a4 a5 a6 a7 a8 a9 a10,σ=[some (V.ref x),some p.v,some (V.ref dN),a3,a4,a5,a6,a7,a8,a9,a10]/\TiN H H' dm ds p i) ⟨_,_,_,_,_,_,_,_,rfl,λb o _ _ h=>h,hm,[],hs,bA _,λi st h=>by cases h⟩ (λi σ H' hi ⟨_,_,_,_,_,_,_,_,_,ti⟩=>aI.of (fK (lt ti.1) pa.sl)) ?_ ?_
  ·rintro i v σ H' q hv ⟨_,_,_,_,_,_,_,_,rfl,fo,hm',ks,hs',hk,kd⟩ hq;walk_at "rd";walk_at "3";obtain⟨st,hst,rfl⟩:=iw.mp hv;have hin:st∈p.bW:=i7 hst;have hil:i<p.bW.length:=(o6.mp hst).1;have tk1:p.bW.take (i+1)=p.bW.take i++[st]:=by rw[ZQ,hst];rfl
   have cj:(p.bW.take i).length=i:=by rw[pX];omega
   have sb:=pw.bn.ss st hin;have gq:=pw.gq;have lt':=lt fo;have sa:=pa.ss st hin;have s1:=bo (o:=HO.tup [V.int i,st.v]) hq;have lw1:=s1 _ _ (fK lt' sa.wd);have st1:=s1 _ _ (jN lt' sa.top);refine⟨_,bB.of aJ,rfl,_,_,rfl,_,_,rfl,rfl,_,rfl,_,bB.of st1,_,rfl,_,rfl,_,bB.of st1,_,rfl,_,rfl,_,bB.of st1,_,rfl,st.words.length,.inl ⟨_,aI.of lw1,by rw[aS]⟩,by decide,λq4 hq4=>?_⟩;have s2:=bo (o:=HO.tup [V.str st.kind,V.int st.words.length]) hq4;refine⟨_,_,_,s2 _ _ (s1 _ _ (fr fo hx (by intro _ z;cases z))),T.aC,T.bM,_,rfl,_,bB.of (s2 _ _ (s1 _ _ (jN lt' pa.top))),_,rfl,by decide,λq5 hq5=>?_⟩;have s3:=bo (o:=HO.tup [V.str p.name,V.int i]) hq5;have s03:=s1.trans (s2.trans s3);refine⟨_,rfl,_,gi.t (k:=[.inr p.name,.inl (i:Int)]) (s03 _ _ hs') aJ (by rw[sizeLine_eq];omega),?_⟩;generalize hKS:putK ks [Sum.inr p.name,Sum.inl (i:Int)] (V.ref q4)=ks';have t0:Sb H (upd (upd (upd (upd H' q (HO.tup [V.int i,st.v])) q4 (HO.tup [V.str st.kind,V.int st.words.length])) q5 (HO.tup [V.str p.name,V.int i])) ds (HO.dT ks')) dm ds p ks' (i+1) (dH p.name (p.bW.take i) 0 []):=by
    have nt {a:Addr}{xs:List V}(h:H' a=some (.tup xs)):upd (upd (upd (upd H' q (HO.tup [V.int i,st.v])) q4 (HO.tup [V.str st.kind,V.int st.words.length])) q5 (HO.tup [V.str p.name,V.int i])) ds (HO.dT ks') a=some (.tup xs):=by rw[ae (aR h hs' (by intro z;cases z))];exact s03 _ _ h
    refine⟨λb o n1 n2 h=>by rw[ae n2];exact s03 _ _ (fo b o n1 n2 h),by rw[ae nd];exact s03 _ _ hm',aJ,?_⟩;rw[tk1,<-hKS];have:=Pu (q:=q4) (st:=st) (iQ kd λa xs h=>nt h) (by rw[ae (aR (s3 _ _ aJ) (s03 _ _ hs') (by intro z;cases z))];exact s3 _ _ aJ);rw[cj]at this;rw[hKS]at this ⊢;exact this
   have bl:=Ew p.name (p.bW.take i) 0 [] λs hs=>pw.bn.ss s (List.mem_of_mem_take hs);rw[cj,List.length_nil]at bl;generalize hB:dH p.name (p.bW.take i) 0 []=B at t0 bl;refine dR ?_;walk_at "rd";refine Np.of (xs:=st.words.map V.int) (λj σ H5=>∃a7 a8 a9 a10,σ=[some (V.ref x),some p.v,some (V.ref dN),some (V.int i),some st.v,some (V.ref st.lw),some (V.ref st.lf),a7,a8,a9,a10]/\Sb H H5 dm ds p ks' (i+1) (bU p.name i (st.words.take j) 0 B)) ⟨_,_,_,_,rfl,t0⟩ (λj σ H5 _ ⟨_,_,_,_,_,ti⟩=>aI.of (fK (lt ti.off) sa.wd)) ?_ ?_
   ·rintro j w5 σ H5 r hw ⟨_,_,_,_,rfl,ti⟩ hr5;walk_at "rd";rw[oR]at hw;obtain⟨wv,hwv,rfl⟩:=iw.mp hw;have u1:=bo (o:=HO.tup [V.int j,V.int wv]) hr5;have hxm:=fr ti.off hx (by intro _ z;cases z);refine⟨_,bB.of aJ,rfl,_,_,rfl,_,_,rfl,rfl,_,_,_,u1 _ _ hxm,T.aC,T.bH,_,rfl,_,bB.of (u1 _ _ (jN (lt ti.off) pa.top)),_,rfl,by decide,λq6 hq6=>?_⟩;have u2:=bo (o:=HO.tup [V.str p.name,V.int i,V.int j]) hq6;have wl:=gz p.name i (st.words.take j) 0 B;have hj:=(o6.mp hwv).1;rw[pX]at wl;refine⟨_,rfl,_,gi.t (k:=k3 p.name i j) (u2 _ _ (u1 _ _ ti.mem)) aJ (by rw[sizeLine_eq];omega),?_⟩;rw[ZQ,hwv,show(some wv).toList=[wv] from rfl,nZ,pX,Nat.min_eq_left (by omega),Nat.zero_add];exact ti.put nd (u1.trans u2)
   ·rintro σ H5 ⟨_,_,_,_,rfl,ti⟩;rw[aS,AJ]at ti;dsimp only;refine dR ?_;walk_at "rd";have lt5:=lt ti.off;have tn5:Tab H5 dN mn:=⟨fr ti.off tn.top (by intro _ z;cases z),λm hm=>jN lt5 (tn.at_ m hm)⟩
    have rn:∀f∈st.fills,iX p mn f=none:=λf hf=>by
     unfold iX;have h1:(p.bL.find? λn=>decide (n.name=f.name)&&decide (n.sort=eV))=none:=UW.mpr λn hn=>by simp[(pw.Rk st hin f hf).2.2.2.2 n hn]
     rw[h1,un st hin f hf];rfl
    refine⟨p,rfl,qk lt5 pa,pw.bn.nm,pw.bn.nd,st.fills,mn,tn5,fK lt5 sa.fl,sb.2,λf hf=>⟨jN lt5 (sa.fs f hf),λ_=>(pw.Rk st hin f hf).1⟩,λl' ys H6 s6 hl' hyl hy hln=>?_⟩;have wl:=gz p.name i st.words 0 B;generalize hW:bU p.name i st.words 0 B=W at ti wl;have t6:Sb H H6 dm ds p ks' (i+1) W:=⟨λb o n1 n2 h=>s6 _ _ (ti.off b o n1 n2 h),s6 _ _ ti.mem,s6 _ _ ti.str,iQ ti.kd λa xs h=>s6 _ _ h⟩
    refine Qh.of (xs:=st.fills.map aq.v) (ys:=ys) (by rw[aS,hyl]) (aI.of (s6 _ _ (fK lt5 sa.fl))) (aI.of hl') (λj σ H7=>∃a7 a8 a9 a10,σ=[some (V.ref x),some p.v,some (V.ref dN),some (V.int i),some st.v,some (V.ref st.lw),some (V.ref st.lf),a7,a8,a9,a10]/\Sb H H7 dm ds p ks' (i+1) ((st.fills.take j).foldl (ed p.name i st.words) W)/\H7 l'=some (.lst ys)) ⟨_,_,_,_,rfl,t6,hl'⟩ (λj σ H7 _ ⟨_,_,_,_,_,ti,hl⟩=>⟨aI.of (fK (lt ti.off) sa.fl),aI.of hl⟩) ?_ ?_
    ·rintro j fv v7 σ H7 r hf hv7 ⟨_,_,_,_,rfl,t7,hl7⟩ hr7;rw[oR]at hf;obtain⟨f,hfj,rfl⟩:=iw.mp hf;have hfm:f∈st.fills:=i7 hfj;have hfo:=pw.Rk st hin f hfm;obtain rfl:v7=V.int (f.add%4294967296):=by
      rcases hy j f v7 hfj hv7 with ⟨_,_,_,_,z,_⟩|⟨_,z⟩
      ·rw[rn f hfm]at z;cases z
      ·exact z
     walk_at "rd";have lt7:=lt t7.off;have u1:=bo (o:=HO.tup [f.v,V.int (f.add%4294967296)]) hr7;have fa:=u1 _ _ (jN lt7 (sa.fs f hfm));obtain⟨wv,hwa,hwg,hwm⟩:=dk (rs:=st.words) (i:=f.at_) hfo.2.2.1 hfo.2.2.2.1;have hwr:=pw.wds st hin wv hwm;refine⟨_,bB.of aJ,rfl,_,_,rfl,_,_,rfl,rfl,_,rfl,_,bB.of fa,_,rfl,_,_,rfl,aI.of (u1 _ _ (fK lt7 sa.wd)),_,hwa,_,rfl,_,bB.of fa,_,rfl,_,rfl,_,_,rfl,rfl,hfo.2.1,hwr.1,hwr.2,λH8 s8=>?_⟩;have u8:=u1.trans s8;refine⟨_,_,_,u8 _ _ (fr t7.off hx (by intro _ z;cases z)),T.aC,T.bH,_,rfl,_,bB.of (u8 _ _ (jN lt7 pa.top)),_,rfl,by decide,λq9 hq9=>?_⟩;have u9:=bo (o:=HO.tup [V.str p.name,V.int i,V.int f.at_]) hq9;have fl:=ju p.name i st.words (st.fills.take j) W;have hj:=(o6.mp hfj).1;rw[pX]at fl;refine⟨_,rfl,_,gi.t (k:=k3 p.name i f.at_) (u9 _ _ (u8 _ _ t7.mem)) aJ (by rw[sizeLine_eq];omega),?_,?_⟩
     ·rw[ZQ,hfj,show(some f).toList=[f] from rfl,List.foldl_append];show Sb H _ dm ds p ks' (i+1) (putK _ (k3 p.name i f.at_) (.int (dt f.rule (st.words.getD f.at_.toNat 0) (f.add%4294967296))));rw[hwg];exact t7.put nd (u8.trans u9)
     ·rw[ae (aR hl7 t7.mem (by intro z;cases z))];exact u9 _ _ (u8 _ _ hl7)
    ·rintro σ H7 ⟨_,_,_,_,rfl,t7,_⟩;rw[aS,AJ]at t7;refine⟨_,_,_,_,_,_,_,_,rfl,t7.off,?_,ks',t7.str,?_,t7.kd⟩
     ·rw[tk1,Ab,cj,Nat.zero_add,hB];unfold stK;rw[hW];exact t7.mem
     ·rw[<-hKS];have:=uO ks [Sum.inr p.name,Sum.inl (i:Int)] (V.ref q4);omega
  ·rintro σ H' ⟨_,_,_,_,_,_,_,_,rfl,fo,hm',ks,hs',hk,kd⟩;rw[aS,AJ]at hm' kd;exact k ks H' fo hm' hs' kd
theorem dr.mono{C:Addr}{H H':Hp}{M:NO}{km ks:List (List Key×V)}{z:Str}{a o:Int}{rs ts:List Int}{en:Bool}(h:dr C H M km ks z a o rs ts en)(s:aL H H'):dr C H' M km ks z a o rs ts en:=⟨s _ _ h.top,s _ _ h.mem,s _ _ h.str,s _ _ h.pl,s _ _ h.fL,s _ _ h.gT,h.nd⟩
theorem fz.mono{C:Addr}{H H':Hp}{M:NO}{km ks:List (List Key×V)}{z:Str}{a o:Int}{rs ts:List Int}{en:Bool}{kd:Str}(h:fz C H M km ks z a o rs ts en kd)(s:aL H H'):fz C H' M km ks z a o rs ts en kd:=⟨h.o_.mono s,by obtain⟨t,n,h1,h2⟩:=h.kd;exact⟨t,n,h1,s _ _ h2⟩,h.len,h.ws,h.tl,h.mw⟩
theorem Y6(T:Txt K mg A):aG P w K mg base bP 3 A.Xy A.xU ["self", "value"] (FV A.aH):=by
 refine T.CC.ok U1 (λvs H Q E h=>?_) (λcdv Ar outer s H vs Q E hr h=>?_)
 ·obtain⟨M,km,ks,z,a,o,rs,ts,en,kd,rfl,r,k⟩:=h;rfl
 ·obtain⟨M,km,ks,z,a,o,rs,ts,en,kd,rfl,r,k⟩:=h;refine⟨_,(aF (aj (fA (pC (Fu T) hr T.x_ T.mx T.ku (ah (pv 1) aa)) (h8 (U3 (A7 (cD hr) (i3 (C1 (K:=K) rfl) (pv 1) (gI af) FD) (aX (pv 0) rfl))))))),?_⟩;walk_at "rd";refine⟨_,_,_,r.o_.pl,_,.of r.o_.pl,(by show ¬(HT.sIx 4 0 (some 1)=0/\HT.sIx 4 4 none=4);decide),λp hp=>?_⟩;have hm:upd H p (.tup [.str z,.int a,.int o]) M.dm=some (.dT km):=by rw[ae (bf r.o_.mem hp)];exact r.o_.mem
  exact⟨_,_,_,by rw[ae (bf r.o_.top hp)];exact r.o_.top,T.aC,T.bH,_,rfl,_,rfl,_,cz.t (k:=k3 z a o) hm aJ,k _ (dA hp (λ_ _ h=>h))⟩
theorem X_(T:Txt K mg A):aG P w K mg base (Hr P w) 4 A.YF A.xy ["self", "value"] (Gr A):=by
 refine T.E7.okE Th (λvs H Q E h=>?_) (λcdv Ar outer s H vs Q E hr h=>?_)
 ·obtain⟨M,km,ks,z,a,o,rs,ts,en,kd,rfl,r,k,ke⟩:=h;rfl
 ·obtain⟨M,km,ks,z,a,o,rs,ts,en,kd,rfl,r,k,ke⟩:=h;refine⟨_,(aE (ay (b_ (aW (cL (pv 0) T.aC T.KJ (Y6 T) (hr.mono (by decide)) T.J8 .nil ck (ah (pv 1) aa)))) (aF (zD rfl T.tP T.yR PySem.F.excBase_ValueError rfl Cj (ah au aa))) cN) (aF (aj (iT (cD hr) (aX (pv 0) rfl) (i3 (C1 (K:=K) rfl) (pv 1) (gI af) FD) (λ_ _=>rfl))))),?_⟩;walk_at "rd";refine⟨_,_,r.o_.top,rfl,M,rfl,rfl,km,ks,z,a,o,rs,ts,en,kd,r,λH' sm=>?_⟩;cases hv:aO km (k3 z a o) with
  |none=>
   rw[if_pos (by simp)];exact⟨by rw[sizeLine_eq];decide,ke hv H' sm⟩
  |some v=>
   rw[if_neg (by simp)];have r':=r.mono sm;refine⟨_,_,_,r'.o_.top,T.aC,T.bH,_,rfl,_,.of r'.o_.pl,(by show ¬(HT.sIx 4 0 (some 1)=0/\HT.sIx 4 4 none=4);decide),λp hp=>?_⟩;have hm:upd H' p (.tup [.str z,.int a,.int o]) M.dm=some (.dT km):=by rw[ae (bf r'.o_.mem hp)];exact r'.o_.mem
   have g:=cz.t (k:=k3 z a o) hm (aJ (o:=.tup [.str z,.int a,.int o]));rw[hv]at g;exact⟨_,rfl,_,g,k v hv _ (dA (cU sm hp) sm)⟩
theorem Z4(T:Txt K mg A):aG P w K mg base bP 1 A.Zm A.y0 ["self", "value"] (JA A.aH):=by
 refine T.Eu.ok Vm (λvs H Q E h=>?_) (λcdv Ar outer s H vs Q E hr h=>?_)
 ·obtain⟨M,km,ks,z,a,o,rs,ts,en,kd,rfl,r,k⟩:=h;rfl
 ·obtain⟨M,km,ks,z,a,o,rs,ts,en,kd,rfl,r,k⟩:=h;refine⟨_,(aF (aj (iT (cD hr) (aX (pv 0) rfl) (a_ (ah (tx K (pv 1)) (ah (tx K (pv 1)) aa))) (λ_ _=>rfl)))),?_⟩;walk_at "rd";obtain⟨t,n,hk,ht⟩:=r.kd;refine⟨_,_,_,r.o_.top,T.aC,T.bM,_,rfl,_,.of r.o_.pl,_,rfl,_,.of r.o_.pl,_,rfl,by decide,λp hp=>?_⟩;have hm:upd H p (.tup [.str z,.int a]) M.ds=some (.dT ks):=by rw[ae (bf r.o_.str hp)];exact r.o_.str
  have g:=cz.t (k:=[.inr z,.inl a]) hm (aJ (o:=.tup [.str z,.int a]));rw[hk]at g;exact⟨_,rfl,_,g,k t n _ (dA hp (λ_ _ h=>h)) (by rw[ae (bf ht hp)];exact ht)⟩
theorem Ws(T:Txt K mg A):aG P w K mg base (Hr P w) 5 A.WO A.t_ ["self"] (z7 A):=by
 refine T.Dp.okE Kx (λvs H Q E h=>?_) (λcdv Ar outer s H vs Q E hr h=>?_)
 ·obtain⟨M,km,ks,z,a,o,rs,ts,en,kd,rfl,r,k,ke⟩:=h;rfl
 ·obtain⟨M,km,ks,z,a,o,rs,ts,en,kd,rfl,r,k,ke⟩:=h;refine⟨_,(aE (pS 1 Kx.nd (cL (pv 0) T.aC T.Iw (X_ T) (hr.mono (by decide)) T.Nb .nil (FF Cj) (ah (aX (pv 0) rfl) aa))) (aE (ay (dB Ae (tx K (cL (pv 0) T.aC T.N8 (Z4 T) (hr.mono (by decide)) T.Kt .nil ck (ah (aX (pv 0) rfl) aa))) au (ar _)) (aF (zD rfl T.tP T.yR PySem.F.excBase_ValueError rfl Cj (ah au aa))) cN) (aE (ay (aW (pC (jK T) hr T.iB T.gX T.g7 (ah (pv 1) aa))) (aF (aj (pv 1))) cN) (aE ix (aF ix))))),?_⟩;walk_at "rd";refine⟨_,_,r.o_.top,rfl,_,_,_,r.o_.top,T.aC,T.br,_,rfl,M,rfl,rfl,km,ks,z,a,o,rs,ts,en,kd,r,λv hv H' sm=>?_,λhv=>ke (.inl hv)⟩;have r':=r.mono sm;refine⟨_,_,r'.o_.top,rfl,_,_,_,r'.o_.top,T.aC,T.br,_,rfl,M,rfl,rfl,km,ks,z,a,o,rs,ts,en,kd,r',λt n H2 s2 ht=>⟨_,.of ht,_,rfl,rfl,?_⟩⟩;obtain⟨c,rfl,h1,h2⟩:=r.mw _ _ hv;refine bN (λh=>⟨by rw[sizeLine_eq];decide,ke (.inr λe=>?_) _ (sm.trans s2)⟩) (λh=>.inl ⟨_,rfl,k c hv ?_ _ (sm.trans s2)⟩)
  ·rw[e]at h;simp at h
  ·simpa using h
theorem XA(T:Txt K mg A):aG P w K mg base bP 5 A.Xv A.sV ["self", "word", "aimed"] (Bs A.aH):=by
 refine T.E4.ok L_ (λvs H Q E h=>?_) (λcdv Ar outer s H vs Q E hr h=>?_)
 ·obtain⟨M,km,ks,z,a,o,rs,ts,en,kd,c,rfl,r,h1,h2,k⟩:=h;rfl
 ·obtain⟨M,km,ks,z,a,o,rs,ts,en,kd,c,rfl,r,h1,h2,k⟩:=h;refine⟨_,(aE (pS 3 L_.nd (bO (dG (K:=K) rfl) (aX (pv 0) rfl) (pC (Ku T) hr T.A9 T.sr T.vi (ah (pv 1) aa)) (λ_ _=>rfl))) (aE (ay (dB ny (pv 2) f9 (ar _)) (aF (aj (pC (SO T) hr T.NA T.CP T.De (ah (pv 3) (ah (pC (Uq T) hr T.JC T.BL T.B0 (ah (pv 1) aa)) aa))))) cN) (aE ix (aF ix)))),?_⟩;walk_at "rd";obtain⟨v,hv,he,_⟩:=dk (rs:=rs) (i:=c/4194304%8) (by omega) (by rw[r.len];omega);refine⟨_,_,_,r.o_.top,T.aC,T.aQ,_,rfl,h1,h2,_,rfl,_,.of r.o_.fL,_,hv,?_⟩;rw[if_pos (by decide)];refine⟨h1,h2,.inl ⟨_,rfl,?_⟩⟩;rw[<-he];exact k
theorem dr.set(n:dr C H M km ks z a o rs ts en){tp:Addr}{o':Int}(en':Bool)(ht:H tp=some (atT z a o')):dr C (upd H M.x (.ins C M.dx ({ M with tp:=tp }.fs en'))) { M with tp:=tp } km ks z a o' rs ts en':=
 have nx {b:Addr}{u:HO}(h:H b=some u) (hu:u≠.ins C M.dx (M.fs en)):upd H M.x (.ins C M.dx ({ M with tp:=tp }.fs en')) b=some u:=by rw[ae (aR h n.top hu)];exact h
 ⟨aJ,nx n.mem (by intro z;cases z),nx n.str (by intro z;cases z),nx ht (by intro z;cases z),nx n.fL (by intro z;cases z),nx n.gT (by intro z;cases z),n.nd⟩
theorem dr.ab4(n:dr C H M km ks z a o rs ts en)(rs':List Int):dr C (upd H M.lr (.lst (rs'.map V.int))) M km ks z a o rs' ts en:=
 have nx {b:Addr}{u:HO}(h:H b=some u) (hu:u≠.lst (rs.map V.int)):upd H M.lr (.lst (rs'.map V.int)) b=some u:=by rw[ae (aR h n.fL hu)];exact h
 ⟨nx n.top (by intro z;cases z),nx n.mem (by intro z;cases z),nx n.str (by intro z;cases z),nx n.pl (by intro z;cases z),aJ,by rw[ae n.nd.symm];exact n.gT,n.nd⟩
theorem dr.aag(n:dr C H M km ks z a o rs ts en)(ts':List Int):dr C (upd H M.ln (.lst (ts'.map V.int))) M km ks z a o rs ts' en:=
 have nx {b:Addr}{u:HO}(h:H b=some u) (hu:u≠.lst (ts.map V.int)):upd H M.ln (.lst (ts'.map V.int)) b=some u:=by rw[ae (aR h n.gT hu)];exact h
 ⟨nx n.top (by intro z;cases z),nx n.mem (by intro z;cases z),nx n.str (by intro z;cases z),nx n.pl (by intro z;cases z),by rw[ae n.nd];exact n.fL,aJ,n.nd⟩
theorem Yq(T:Txt K mg A):aG P w K mg base bP 6 A.Yn A.sF ["self", "deed", "word", "aimed"] (AU A.aH):=by
 refine T.Di.ok Td (λvs H Q E h=>?_) (λcdv Ar outer s H vs Q E hr h=>?_)
 ·obtain⟨M,km,ks,z,a,o,rs,ts,en,kd,c,rfl,r,h1,h2,ho,k⟩:=h;rfl
 ·obtain⟨M,km,ks,z,a,o,rs,ts,en,kd,c,rfl,r,h1,h2,ho,k⟩:=h;refine⟨_,(aE (ay (dB aY (pv 1) au (ar _)) (aF (aj (pC (BN T) hr T.y3 T.oM T.nH (ah (pv 2) aa)))) cN) (aE (ay (dB aY (pv 1) au (ar _)) (aF (aj (AA (dB ny (pv 3) f9 (ar _)) (ao cW af (pC (BN T) hr T.y3 T.oM T.nH (ah (pv 2) aa))) J0))) cN) (aE (ay (dB aY (pv 1) au (ar _)) (aF (aj (cL (pv 0) T.aC T.Mi (XA T) (hr.mono (by decide)) T.MS .nil ck (ah (pv 2) (ah (pv 3) aa))))) cN) (aE (ay (dB aY (pv 1) au (ar _)) (aF ix) cN) (aF (aj (pC (ZZ T) hr T.SR T.Ie T.JU (ah (pv 1) (ah (bO (dG (K:=K) rfl) (aX (pv 0) rfl) (pC (Ku T) hr T.A9 T.sr T.vi (ah (pv 2) aa)) (λ_ _=>rfl)) (ah (bO (dG (K:=K) rfl) (aX (pv 0) rfl) (pC (Uy T) hr T.NR T.Bq T.Bu (ah (pv 2) aa)) (λ_ _=>rfl)) aa)))))))))),?_⟩;walk_at "rd";have ho1:=ho;unfold xI at ho1;rw[Int.ediv_one];unfold iq at k;refine bN (λh=>⟨h1,h2,?_⟩) (λn2=>?_)
  ·rw[if_pos (d2.mp (of_decide_eq_true h))]at k;exact k
  have n2:cu c≠2:=λz=>n2 (decide_eq_true (d2.mpr z));rw[if_neg n2]at k;refine bN (λh=>?_) (λn3=>?_)
  ·rw[if_pos (by decide)];have e:c%65536*65536%4294967296=65536*(c%65536):=by omega
   rw[if_pos (d3.mp (of_decide_eq_true h)),e]at k;exact⟨h1,h2,.inl ⟨by decide,by decide⟩,k⟩
  have n3:cu c≠3:=λz=>n3 (decide_eq_true (d3.mpr z));rw[if_neg n3]at k;refine bN (λh=>?_) (λn4=>?_)
  ·rw[if_pos (d4.mp (of_decide_eq_true h))]at k;exact⟨_,_,r.o_.top,rfl,M,rfl,_,_,_,_,_,_,_,_,_,r,h1,h2,k⟩
  have n4:cu c≠4:=λz=>n4 (decide_eq_true (d4.mpr z));refine bN (λh=>absurd (d5.mp (of_decide_eq_true h)) (by omega)) (λ_=>?_);obtain⟨v,hv,he,hm⟩:=dk (rs:=rs) (i:=c/4194304%8) (by omega) (by rw[r.len];omega);obtain⟨u,hu,hf,_⟩:=dk (rs:=rs) (i:=c/524288%8) (by omega) (by rw[r.len];omega);have hw:=r.ws v hm;refine⟨_,_,_,r.o_.top,T.aC,T.aQ,_,rfl,h1,h2,_,rfl,_,aI.of r.o_.fL,_,hv,_,_,_,r.o_.top,T.aC,T.aQ,_,rfl,h1,h2,_,rfl,_,aI.of r.o_.fL,_,hu,c,rfl,_,rfl,_,rfl,by unfold ED;omega,hw.1,hw.2,?_⟩;unfold iq;rw[if_neg n2,if_neg n3,<-he,<-hf];exact k
theorem Zz(T:Txt K mg A):aG P w K mg base bP 7 A.XU A.xS ["self", "word", "aimed"] (Vd A.aH):=by
 refine T.CD.ok oq (λvs H Q E h=>?_) (λcdv Ar outer s H vs Q E hr h=>?_)
 ·obtain⟨M,km,ks,z,a,o,rs,ts,kd,c,rfl,r,h1,h2,ho,k⟩:=h;rfl
 ·obtain⟨M,km,ks,z,a,o,rs,ts,kd,c,rfl,r,h1,h2,ho,k⟩:=h;refine⟨_,(aE (pS 3 oq.nd (pC (Zv T) hr T.RQ T.Lm T.Kj (ah (pv 1) aa))) (aE (pS 4 oq.nd (pC (U5 T) hr T.LC T.B2 T.BS (ah (pv 1) aa))) (aE (pS 5 oq.nd (bO (dG (K:=K) rfl) (aX (pv 0) rfl) (pv 4) (λ_ _=>rfl))) (aE (pS 6 oq.nd (pC (SO T) hr T.NA T.CP T.De (ah (aX (pv 0) rfl) (ah af aa)))) (aE (ay (dB aY (pv 3) au (ar _)) (aE (cM (pv 0) bw rfl) (aF yj)) cN) (aE (ay (dB aY (pv 3) au (ar _)) (aF (bx (f_ (aX (pv 0) rfl) (ah (pC (Xb T) hr T.SA T.La T.Ma (ah (pv 5) aa)) aa)))) (aF (ay (dB aY (pv 3) au (ar _)) (aF ix) (aF (ay (PW.pt (eT (dB aY (pv 3) au (ar _)) (eE (dB aY (pv 3) au (ar _))))) (aF ix) (aF (ay (dB aY (pv 3) au (ar _)) (aE ix (aF ix)) (aF (ay (dB aY (pv 3) au (ar _)) (aF ix) (aF (qC (cL (pv 0) T.aC T.ID (Yq T) (hr.mono (by decide)) T.LK .nil ck (ah (pv 3) (ah (pv 1) (ah (pv 2) aa)))) (xE (aX (pv 0) rfl) (pv 4) set_list)))))))))))) (aF (cM (pv 0) (pv 6) rfl)))))))),?_⟩;walk_at "rd";obtain⟨v,hv,he,_⟩:=dk (rs:=rs) (i:=c/33554432%8) (by omega) (by rw[r.len];omega)
  refine⟨h1,h2,h1,h2,_,_,_,r.o_.top,T.aC,T.aQ,_,rfl,_,rfl,_,aI.of r.o_.fL,_,hv,_,_,_,r.o_.top,T.aC,T.br,_,rfl,.inr ⟨_,rfl,z,a,o,r.o_.pl,λq hq=>?_⟩⟩;have sm:aL H (upd H q (atT z a ((o+1)%4294967296))):=dA hq (λ_ _ h=>h);have r':=r.mono sm;have off {H':Hp}(h:∀b,b≠M.x->b≠M.lr->b≠M.ln->H' b=upd H q (atT z a ((o+1)%4294967296)) b):M.Off H H':=λb u e n1 n2 n3=>by rw[h b n1 n2 n3];exact sm b u e
  have qx:q≠M.x:=Ne.symm (bf r.o_.top hq);have ql:q≠M.lr:=Ne.symm (bf r.o_.fL hq);have qn:q≠M.ln:=Ne.symm (bf r.o_.gT hq);unfold BK at ho;refine bN (λh=>?_) (λn0=>?_)
  ·have e:=d0.mp (of_decide_eq_true h);refine⟨_,_,_,r'.o_.top,T.aC,T.cx,(by show 6<1000;decide),k M.tp _ ?_ (off λb n1 _ _=>ae n1)⟩;have:=r'.o_.set true r'.o_.pl;unfold nO nR nT nE;rw[if_pos e,if_pos (.inl e),if_neg (by rw[e];decide),decide_eq_true e];exact this
  have n0:cu c≠0:=λz=>n0 (decide_eq_true (d0.mpr z));have e0:nO o c=(o+1)%4294967296:=by unfold nO;rw[if_neg n0]
  have e1:nE c=false:=by unfold nE;exact decide_eq_false n0
  refine bN (λh=>?_) (λn1=>?_)
  ·have e:=d1.mp (of_decide_eq_true h);refine⟨_,_,_,r'.o_.top,T.aC,T.cn,_,rfl,.inl ⟨rfl,_,aI.of r'.o_.gT⟩,_,rfl,_,rfl,_,r'.o_.gT,by rw[aS,sizeLine_eq];have:=r.tl;omega,?_⟩;rw[show ts.map V.int++[V.int v]=(ts++[v]).map V.int from by simp];have m:=r'.o_.aag (ts++[v]);refine⟨_,_,_,m.top,T.aC,T.br,(by show 6<1000;decide),k q _ ?_ (off λb n1 _ n3=>by rw[ae n1,ae n3])⟩;have e2:nR rs c=rs:=by unfold nR;rw[if_pos (.inr e)]
   have e3:nT rs ts c=ts++[v]:=by unfold nT;rw[if_pos e,<-he];rfl
   rw[e0,e1,e2,e3];exact m.set false (by rw[ae qn,aJ])
  have n1:cu c≠1:=λz=>n1 (decide_eq_true (d1.mpr z));have ho:xI (cu c):=by rcases ho with z|z|z;exact absurd z n0;exact absurd z n1;exact z
  have ho1:=ho;unfold xI at ho1;refine bN (λh=>absurd (d6.mp (of_decide_eq_true h)) (by omega)) (λ_=>?_);refine bN (λh=>absurd (d12.mp (of_decide_eq_true h)) (by omega)) (λ_=>?_);refine bN (λh=>absurd (d13.mp (of_decide_eq_true h)) (by omega)) (λ_=>?_);refine bN (λh=>absurd (d14.mp (of_decide_eq_true h)) (by omega)) (λ_=>?_);refine bN (λh=>absurd (d15.mp (of_decide_eq_true h)) (by omega)) (λ_=>?_);have ea:CV (rs.map V.int).length (c/33554432%8)=some (eI c 33554432):=by
   have:=r.len;unfold CV eI;rw[if_pos (by omega),if_pos (by rw[aS];omega)]
  refine⟨_,_,r'.o_.top,rfl,M,rfl,_,_,_,_,_,_,_,_,_,c,rfl,rfl,r',h1,h2,ho,_,_,_,r'.o_.top,T.aC,T.aQ,_,rfl,_,rfl,_,r'.o_.fL,_,ea,?_⟩;rw[<-List.map_set];have m:=r'.o_.ab4 (rs.set (eI c 33554432) (iq (cu c) (rs.getD (eI c 4194304) 0) (rs.getD (eI c 524288) 0) c));refine⟨_,_,_,m.top,T.aC,T.br,(by show 6<1000;decide),k q _ ?_ (off λb n1 n2 _=>by rw[ae n1,ae n2])⟩;have e2:nR rs c=rs.set (eI c 33554432) (iq (cu c) (rs.getD (eI c 4194304) 0) (rs.getD (eI c 524288) 0) c):=by unfold nR;rw[if_neg (by omega)]
  have e3:nT rs ts c=ts:=by unfold nT;rw[if_neg n1]
  rw[e0,e1,e2,e3];exact m.set false (by rw[ae ql,aJ])
theorem Nh(T:Txt K mg A):aG P w K mg base (Hr P w) 8 A.X1 A.sU ["self"] (U6 A):=by
 refine T.Em.okE NK (λvs H Q E h=>?_) (λcdv Ar outer s H vs Q E hr h=>?_)
 ·obtain⟨M,km,ks,z,a,o,rs,ts,en,kd,rfl,r,k⟩:=h;rfl
 ·obtain⟨M,km,ks,z,a,o,rs,ts,en,kd,rfl,r,k⟩:=h;refine⟨_,(aE (ay (aW (aX (pv 0) rfl)) (aF (aj bw)) cN) (aE (pS 1 NK.nd (dC (pv 0) T.aC T.Kd (Ws T) (hr.mono (by decide)) T.Ot .nil (FF Cj) )) (aE (ay (aW (cX (Bg (K:=K) rfl) (by rfl) T.aB ia (ah (pv 1) (ah (eB (v:=.ref A.AH) rfl T.NW rfl) aa)))) (aF ix) (aF (bx (cL (pv 0) T.aC T.KD (Zz T) (hr.mono (by decide)) T.HS .nil ck (ah (pv 1) (ah f9 aa)))))) (aF (aj bw))))),?_⟩;walk_at "rd";refine⟨_,_,_,r.o_.top,T.aC,T.cx,_,rfl,_,rfl,?_⟩;rcases k with ⟨rfl,k⟩|⟨rfl,hn,k⟩|⟨rfl,hc,c,hv,ho,k⟩
  ·rw[if_pos rfl];exact k
  ·rw[if_neg (by decide)];refine⟨_,_,r.o_.top,rfl,M,rfl,_,_,_,_,_,_,_,_,_,r,λc hv hc=>?_,λ_=>k⟩;rcases hn with z|z
   ·rw[z]at hv;cases hv
   ·exact absurd hc z
  ·rw[if_neg (by decide)];refine⟨_,_,r.o_.top,rfl,M,rfl,_,_,_,_,_,_,_,_,_,r,λc' hv' _ H' sm=>?_,λhn=>?_⟩
   ·rw[hv]at hv';cases hv';obtain⟨c2,e2,h1,h2⟩:=r.mw _ _ hv;cases e2;have r':=r.mono sm;refine⟨_,_,_,false,rfl,.int c,T.kw,_,rfl,?_⟩;rw[if_neg (by decide)];refine⟨_,_,r'.o_.top,rfl,M,rfl,_,_,_,_,_,_,_,_,r',h1,h2,ho,λtp H2 n f=>k tp H2 n λb u e n1 n2 n3=>f b u (sm _ _ e) n1 n2 n3⟩
   ·rcases hn with z|z
    ·rw[z]at hv;cases hv
    ·exact absurd hc z
theorem FJ(T:Txt K mg A):aG P w K mg base bP 3 A.Wu A.xT ["self"] (Gk A.aH):=by
 refine T.Fl.ok NX (λvs H Q E h=>?_) (λcdv Ar outer s H vs Q E hr h=>?_)
 ·obtain⟨M,km,ks,z,a,o,rs,ts,en,rfl,r,l8,tl,k⟩:=h;rfl
 ·obtain⟨M,km,ks,z,a,o,rs,ts,en,rfl,r,l8,tl,k⟩:=h;refine⟨_,(aE (gE (i:=1) NX.nd rfl (by walk_at "o") (wQ ["value"]) rfl (eN (K:=K) rfl (aX (pv 0) rfl)) (λ_ _ _=>⟨(pn 0 (by walk_at "n")),dj,(pC (Na T) hr T.DH T.AI T.AE (ah (pv 0) aa))⟩)) (aF (aj (a_ (ah (pC (Na T) hr T.DH T.AI T.AE (ah (aX (pv 0) rfl) aa)) (ah (pv 1) (ah (jP (yY (K:=K) rfl) (by rfl) T.cZ de (ah (aX (pv 0) rfl) aa)) (ah (aX (pv 0) rfl) aa)))))))),?_⟩;walk_at "rd";refine⟨_,_,_,r.top,T.aC,T.aQ,_,rfl,?_⟩;refine fF.of (xs:=rs.map V.int) (by rw[aS,sizeLine_eq,l8];decide) (aI.of r.fL) (λD i ys H'=>ys=(rs.take i).map V.int/\aL H H'/\H' D=some (.lst ys)) (λD hD=>⟨rfl,bo hD,aJ⟩) (λD i ys H' hD hi ⟨e,s1,h1⟩=>⟨aI.of (s1 _ _ r.fL),h1,by rw[e,aS,pX];omega⟩) ?_ ?_
  ·rintro D i x ys H' hD hx ⟨rfl,s1,h1⟩;walk_at "rd";walk_at "0";cases hr:rs[i]? with
   |none=>rw[hr]at hx;cases hx
   |some n=>
    rw[hr]at hx;cases hx;exact⟨.no .nil,.inl ⟨n,rfl,h1,by rw[ZQ,hr];simp,dA hD s1,aJ⟩⟩
  ·rintro D ys H' hD ⟨e,s1,h1⟩;walk_at "2";subst e;have n1:=r.mono s1;refine⟨_,_,_,n1.top,T.aC,T.br,_,rfl,.inr ⟨_,rfl,_,_,_,n1.pl,λq hq=>?_⟩⟩;have s2:=bo (o:=atT z a o) hq;have n2:=n1.mono s2;refine⟨_,_,_,n2.top,T.aC,T.cn,_,rfl,_,rfl,_,.inl (aI.of n2.gT),λl hl=>?_⟩;have s3:=bo (o:=.lst (ts.map V.int)) hl;have n3:=n2.mono s3;refine⟨_,_,_,n3.top,T.aC,T.cx,_,rfl,by decide,λp hp=>?_⟩;have s4:=bo (o:=.tup [.ref q,.ref D,.ref l,.bl en]) hp;exact k p q D l _ (s1.trans (s2.trans (s3.trans s4))) ⟨aJ,s4 _ _ (s3 _ _ aJ),s4 _ _ (s3 _ _ (s2 _ _ h1)),s4 _ _ aJ⟩ hD (cU s1 (cU s2 hl))
theorem DW(c:List (Str×Int×List Int×List aq)):∀{ss:List bJ},ss.map bJ.e=c->(aV ss).length=(c.map λs=>s.2.2.2.length).sum/\ss.length=c.length/\∀s∈ss,∃x∈c,s.words.length=x.2.2.1.length/\s.fills.length=x.2.2.2.length
 := by
 intro ss h;subst h;refine⟨?_,by rw[aS],λs hs=>⟨bJ.e s,cC.mpr ⟨s,hs,rfl⟩,rfl,by unfold bJ.e;rw[List.length_map]⟩⟩;unfold aV;rw[List.length_flatMap,gS];refine congrArg List.sum (RS λs _=>?_);show s.fills.length=(s.fills.map aq.e).length;rw[aS]
theorem Vg(e:ba q=ba p){n:ax}(hn:n∈q.bL):∃m∈p.bL,m.name=n.name/\m.sort=n.sort/\m.st=n.st/\m.off=n.off:=by
 have h:ax.e n∈p.bL.map ax.e:=by
  have:=congrArg (·.2.1) e;rw[show p.bL.map ax.e=q.bL.map ax.e from this.symm];exact cC.mpr ⟨n,hn,rfl⟩
 obtain⟨m,hm,z⟩:=cC.mp h;unfold ax.e at z;injection z with z1 z2 z3 z4 z5;exact⟨m,hm,z2,z3,z4,z5⟩
theorem vx(e:ba q=ba p):q.bW.map bJ.e=p.bW.map bJ.e:=congrArg (·.2.2) e
theorem Ut(e:ba q=ba p):q.bW.length=p.bW.length:=by
 have:=congrArg List.length (vx e)
 rwa [aS,aS]at this
theorem qN(e:ba q=ba p):q.name=p.name:=congrArg (·.1) e
theorem Tf(h:RZ p)(e:ba q=ba p)(hw:jG q=[]):RZ q:=by
 have e1:q.bL.map ax.e=p.bL.map ax.e:=congrArg (·.2.1) e;have e2:q.bW.map bJ.e=p.bW.map bJ.e:=congrArg (·.2.2) e;have l1:q.bL.length=p.bL.length:=by have:=congrArg List.length e1;rwa [aS,aS]at this
 have l2:q.bW.length=p.bW.length:=by have:=congrArg List.length e2;rwa [aS,aS]at this
 obtain⟨f1,_,_⟩:=DW _ e2;obtain⟨g1,_,_⟩:=DW _ (rfl:p.bW.map bJ.e=_);refine⟨by rw[l1];exact h.nm,by rw[l2];exact h.st,λs hs=>?_,by rw[f1,<-g1];exact h.fl,by rw[hw];decide,?_⟩
 ·have m:bJ.e s∈q.bW.map bJ.e:=cC.mpr ⟨s,hs,rfl⟩;rw[e2]at m;obtain⟨s',hs',es⟩:=cC.mp m;have h1:=h.ss s' hs';have w:s'.words=s.words:=congrArg (·.2.2.1) es;have f:(s'.fills.map aq.e).length=(s.fills.map aq.e).length:=congrArg (λx:Str×Int×List Int×List aq=>x.2.2.2.length) es;rw[aS,aS]at f;rw[<-w,<-f];exact h1
 ·have n:∀l:List ax,l.map ax.name=(l.map ax.e).map ax.name:=λl=>by rw[gS];rfl
  rw[n,e1,<-n];exact h.nd
theorem SN(e:ba q=ba p){s:bJ}(hs:s∈q.bW):∃r∈p.bW,r.words=s.words/\∀f∈s.fills,∃g∈r.fills,aq.e g=aq.e f:=by
 have h:bJ.e s∈p.bW.map bJ.e:=by rw[<-vx e];exact cC.mpr ⟨s,hs,rfl⟩
 obtain⟨r,hr,z⟩:=cC.mp h;unfold bJ.e at z;refine⟨r,hr,congrArg (·.2.2.1) z,λf hf=>?_⟩;have z3:r.fills.map aq.e=s.fills.map aq.e:=congrArg (·.2.2.2) z;have h:aq.e f∈r.fills.map aq.e:=by rw[z3];exact cC.mpr ⟨f,hf,rfl⟩
 exact cC.mp h
theorem jg(h:∀s∈p.bW,∀f∈s.fills,f.soft=true):jG p=[]:=by
 have z:∀l:List aq,(∀f∈l,f.soft=true)->l.foldl (gj p) []=[]:=λl=>by
  induction l with
  |nil=>intro _;rfl
  |cons f l ih=>
   intro hl;rw[PF];have:gj p [] f=[]:=by unfold gj;rw[hl f (.head _)];rfl
   rw[this];exact ih λg hg=>hl g (.tail _ hg)
 refine z _ λf hf=>?_;unfold aV at hf;obtain⟨s,hs,hf⟩:=A_.mp hf;exact h s hs f hf
theorem Ue(h:YS p)(e:ba q=ba p):YS q:=by
 have hf:∀s∈q.bW,∀f∈s.fills,f.soft=true/\QN f.rule/\0<=f.at_/\f.at_<s.words.length/\∀n∈q.bL,n.name≠f.name:=λs hs f hf=>by
  obtain⟨r,hr,hw,k⟩:=SN e hs;obtain⟨g,hg,z⟩:=k f hf;unfold aq.e at z;injection z with z1 z2 z3 z4 z5 z6;obtain⟨h1,h2,h3,h4,h5⟩:=h.Rk r hr g hg;rw[<-z2,<-z3,<-z4,<-z6,<-hw];refine⟨h1,h2,h3,h4,λn hn=>?_⟩;obtain⟨m,hm,e1,_⟩:=Vg e hn;rw[<-e1];exact h5 m hm
 refine⟨Tf h.bn e (jg λs hs f h=>(hf s hs f h).1),by rw[Ut e];exact h.gq,λs hs=>?_,hf⟩;obtain⟨r,hr,hw,_⟩:=SN e hs;rw[<-hw];exact h.wds r hr
theorem QR(z:Str)(n:Int)(ws:List Int){fs gs:List aq}(h:fs.map aq.e=gs.map aq.e)(k:List (List Key×V)):fs.foldl (ed z n ws) k=gs.foldl (ed z n ws) k:=by
 have e:∀l:List aq,l.foldl (ed z n ws) k=(l.map aq.e).foldl (ed z n ws) k:=λl=>by rw[List.foldl_map];rfl
 rw[e fs,e gs,h]
theorem RP(z:Str):∀{ss rs:List bJ},ss.map bJ.e=rs.map bJ.e->∀j k,dH z ss j k=dH z rs j k
 |[],[],_,_,_=>rfl
 |[],_::_,h,_,_=>by cases h
 |_::_,[],h,_,_=>by cases h
 |s::ss,r::rs,h,j,k=>by
  rw[pJ,pJ]at h;injection h with h1 h2;unfold bJ.e at h1;have w:s.words=r.words:=congrArg (·.2.2.1) h1;have f:s.fills.map aq.e=r.fills.map aq.e:=congrArg (·.2.2.2) h1;show dH z ss (j+1) (stK z j s k)=dH z rs (j+1) (stK z j r k);have:stK z j s k=stK z j r k:=by unfold stK;rw[w];exact QR z j _ f _
  rw[this];exact RP z h2 _ _
theorem Yg(h:ss.map bJ.e=rs.map bJ.e)(kd:KdS H z ss ks):KdS H z rs ks:=λi st e=>by
 have h1:(rs.map bJ.e)[i]?=some (bJ.e st):=by rw[oR,e];rfl
 rw[<-h,oR]at h1;obtain⟨st',h2,h3⟩:=iw.mp h1;obtain⟨t,h4,h5⟩:=kd i st' h2;unfold bJ.e at h3;rw[show st'.kind=st.kind from congrArg (·.1) h3,show st'.words=st.words from congrArg (·.2.2.1) h3]at h5;exact⟨t,h4,h5⟩
theorem CZ{α β:Type}{f:α->β}:∀{l:List α},(l.map f).Nodup->∀{a b:α},a∈l->b∈l->f a=f b->a=b
 |x::l,nd,a,b,ha,hb,e=>by
  rw[pJ,Fm]at nd;cases ha with
  |head=>cases hb with
   |head=>rfl
   |tail _ hb=>exact absurd (cC.mpr ⟨b,hb,e.symm⟩) nd.1
  |tail _ ha=>cases hb with
   |head=>exact absurd (cC.mpr ⟨a,ha,e⟩) nd.1
   |tail _ hb=>exact CZ nd.2 ha hb e
theorem JM(nm:Qd (fH [q]) ms)(nd:(q.bL.map ax.name).Nodup){n:ax}(hn:n∈q.bL)(hs:n.sort=dD\/n.sort=dX):∃m,aP ms n.name=some m/\m∈ms/\m.a=q.name/\m.b=n.st/\m.c=n.off:=by
 have inR:(q.name,n)∈fH [q]:=by unfold fH;simp;exact hn
 have one:∀r∈fH [q],r.2.name=n.name->r=(q.name,n):=λr hr e=>by
  unfold fH at hr;simp only[List.flatMap_cons,List.flatMap_nil,List.append_nil,List.mem_map]at hr;obtain⟨n',hn',rfl⟩:=hr;have:n'=n:=CZ nd hn' hn e;rw[this]
 cases hl:aP ms n.name with
 |none=>
  obtain⟨h1,h2⟩:=nm.bI _ hl _ inR rfl;rcases hs with z|z
  ·exact absurd z h1
  ·exact absurd z h2
 |some m=>
  have hv:aA.vl m=Xd (q.name,n):=by
   rcases nm.som _ _ hl with ⟨r,hr,e,_,v⟩|⟨_,r,hr,e,_,v,_⟩
   ·rw[one r hr e]at v;exact v
   ·rw[one r hr e]at v;exact v
  unfold aA.vl Xd at hv;exact⟨m,rfl,QF hl,congrArg (·.1) hv,congrArg (·.2.1) hv,congrArg (·.2.2) hv⟩
theorem OX(nm:Qd (fH [q]) ms){z:Str}(h:∀n∈q.bL,n.name≠z):aP ms z=none:=by
 cases hl:aP ms z with
 |none=>rfl
 |some m=>
  have no:∀r∈fH [q],r.2.name≠z:=λr hr=>by
   unfold fH at hr;simp only[List.flatMap_cons,List.flatMap_nil,List.append_nil,List.mem_map]at hr;obtain⟨n',hn',rfl⟩:=hr;exact h n' hn'
  rcases nm.som _ _ hl with ⟨r,hr,e,_⟩|⟨_,r,hr,e,_⟩
  ·exact absurd e (no r hr)
  ·exact absurd e (no r hr)
theorem DO{P:Addr}{pos:Pos}{q:Str}{H H':Hp}(h:eP P pos q H)(s:∀b o,(b=P/\∃ps,o=.fJ ps)\/(∃c,o=GX c q)->H b=some o->H' b=some o):eP P pos q H':=by
 obtain⟨ps,h1,h2,h3⟩:=h;refine⟨ps,s _ _ (.inl ⟨rfl,_,rfl⟩) h1,h2,?_⟩;rcases h3 with h3|⟨c,h3,h4⟩
 ·exact .inl h3
 ·exact .inr ⟨c,h3,s _ _ (.inr ⟨_,rfl⟩) h4⟩
theorem Us:∀{qs:List aD},qs.map ba=[c]->∃q,qs=[q]/\ba q=c
 |[],h=>by cases h
 |[q],h=>by injection h with h1 _;exact⟨q,rfl,h1⟩
 |_::_::_,h=>by injection h with _ h;cases h
theorem qA{P:Addr}{pos:Pos}{s:Str}{H:Hp}(tk:eP P pos s H){b:Addr}{o:HO}(h:H b=some o)(no:∀ps,o≠.fJ ps):b≠P:=by
 obtain⟨ps,h1,_⟩:=tk;exact aR h h1 (no ps)
theorem SJ(T:Txt K mg A):aG P w K mg base bP 8 A.Z9 A.x2 ["self", "given", "shelves", "entry", "registers"] (Ly A):=by
 refine T.D1.ok uu (λvs H Q E h=>?_) (λcdv Ar outer s H vs Q E hr h=>?_)
 ·obtain⟨x,dx,g,sl,l,e,p,n,rs,rfl,hx,pl,hs,pw,hn,hne,hno,hso,hl',l8,tk,tb,nt,k⟩:=h;rfl
 ·obtain⟨x,dx,g,sl,l,e,p,n,rs,rfl,hx,pl,hs,pw,hn,hne,hno,hso,hl',l8,tk,tb,nt,k⟩:=h;refine⟨_,(aE (pS 5 uu.nd (pC (Qm T) hr T.El T.lA T.uo (ah (pv 1) (ah (pv 2) (ah (pv 3) aa))))) (aE (pS 6 uu.nd (pC (Wt T) hr T.Rt T.Fw T.Jy (ah (pv 5) aa))) (aE (cM (pv 0) Ah rfl) (aE (cM (pv 0) Ah rfl) (e8 (aE (pF (eN (K:=K) rfl (pv 5)) (pn 7 uu.nd) (aF (bx (cL (pv 0) T.aC T.I0 (Xp T) (hr.mono (by decide)) T.H_ .nil ck (ah (pv 7) (ah (pv 6) aa)))))) (aE (cM (pv 0) (pC (Zb T) hr T.Sk T.MH T.Og (ah (iT (cD hr) (pv 6) (pv 3) (λ_ _=>rfl)) aa)) rfl) (e8 (aE (cM (pv 0) (gG (wQ ["value"]) rfl (eN (K:=K) rfl (pv 4)) (λ_ _ _=>⟨(pn 0 (by walk_at "n")),dj,(pC (Na T) hr T.DH T.AI T.AE (ah (pv 0) aa))⟩)) rfl) (aE (cM (pv 0) (bS aa) rfl) (aF (cM (pv 0) bw rfl)))))))))))),?_⟩;walk_at "rd";have sf:∀s∈p.bW,∀f∈s.fills,f.soft=true:=λs hs f hf=>(pw.Rk s hs f hf).1;have wn:=jg sf;have lone:∀{r:aD},r∈[p]++flat []->r=p:=λhr=>by simpa [flat] using hr
  refine⟨[p],[],⟨pl,⟨hs,λx hx=>by cases hx⟩,⟨(by show 1<=14;decide),(λr hr=>by rw[lone hr];exact pw.bn),(by simp[flat]),.inl ?_,λr hr z hz=>?_⟩⟩,tk,λL T5 rs5 qs H1 sx1 tk1 hp1 fr1 tc cc pm srt=>?_⟩
  ·unfold eg;rw[List.find?_isSome];refine⟨ba p,.head _,?_⟩;unfold gm ba;rw[G0];exact⟨ax.e n,cC.mpr ⟨n,hn,rfl⟩,by show(decide (n.name=e) && !decide (n.sort=eV))=true;rw[hne];simp[hno]⟩
  ·rw[lone hr]at hz;have:=nW.mpr hz;rw[wn]at this;cases this
  obtain rfl:T5=[]:=List.eq_nil_iff_forall_not_mem.mpr λc hc=>by have:=tc.sub c hc;simp[flat]at this
  rw[Il]at pm;have pm2:=List.perm_singleton.mp pm;obtain⟨q,rfl,eq⟩:=Us pm2;have qw:=Ue pw eq;have nb1:eP A.bh GS Gy H1:=by
   obtain⟨ps,h1,h2,h3⟩:=tb;refine⟨ps,sx1 _ _ nt h1,h2,?_⟩;rcases h3 with h3|⟨c,h3,h4⟩
   ·exact .inl h3
   ·exact .inr ⟨c,h3,sx1 _ _ (qA tk h4 (by intro _ z;cases z)) h4⟩
  refine⟨[q],⟨hp1.top,hp1.at_⟩,⟨(by show 1<=14;decide),(by simp),(λr hr=>by rw[List.mem_singleton.mp hr];exact⟨qw.bn.nm,qw.bn.nd⟩),(by simp)⟩,nb1,λd ms H2 sx2 nb2 tab nm hd dm hdm=>?_⟩;have gx {b:Addr}{o:HO}(h:H b=some o) (no:∀ps,o≠.fJ ps):H2 b=some o:=sx2 _ _ (qA nb1 (sx1 _ _ (qA tk h no) h) no) (sx1 _ _ (qA tk h no) h);have g1 {b:Addr}{o:HO}(h:H1 b=some o) (no:∀ps,o≠.fJ ps):H2 b=some o:=sx2 _ _ (qA nb1 h no) h;have hx2:=gx hx (by intro _ z;cases z);have xm:x≠dm:=bf hx2 hdm;refine⟨_,_,_,by rw[ae xm];exact hx2,T.aC,T.bH,(by show 0<1000;decide),λds hds=>?_⟩;obtain⟨dsx,hds⟩:=iY hds;obtain⟨dsm,hds⟩:=iY hds;refine⟨_,_,_,by rw[ae dsx.symm,aJ],T.aC,T.bM,(by show 1<1000;decide),?_⟩;generalize hH3:upd (upd (upd (upd H2 dm (HO.dT [])) x _) ds (HO.dT [])) x _=H3;have k3 {b:Addr}{o:HO}(n:b≠x) (h:H2 b=some o):H3 b=some o:=by rw[<-hH3,ae n,ae (bf h hds),ae n,ae (bf h hdm)];exact h
  have x3:H3 x=some (.ins A.aH dx [("memory", .ref dm),("stretches", .ref ds)]):=by rw[<-hH3,aJ];rfl
  have m3:H3 dm=some (.dT []):=by rw[<-hH3,ae xm.symm,ae dsm.symm,ae xm.symm,aJ]
  have s3:H3 ds=some (.dT []):=by rw[<-hH3,ae dsx,aJ]
  have lt3:fc H1 H3:=λb o h e=>by
   have no:∀ps,o≠.fJ ps:=by rcases h with ⟨_,rfl⟩|⟨_,rfl⟩<;>intro _ z<;>cases z
   have e2:=g1 e no;exact k3 (aR e2 hx2 (by rcases h with ⟨_,rfl⟩|⟨_,rfl⟩<;>intro z<;>cases z)) e2
  have lto {H':Hp}(f:∀b o,b≠dm->b≠ds->H3 b=some o->H' b=some o):fc H3 H':=λb o h e=>f b o (aR e m3 (by rcases h with ⟨_,rfl⟩|⟨_,rfl⟩<;>intro z<;>cases z)) (aR e s3 (by rcases h with ⟨_,rfl⟩|⟨_,rfl⟩<;>intro z<;>cases z)) e;have tab3:Tab H3 d ms:=⟨k3 (aR tab.top hx2 (by intro z;cases z)) tab.top,λm hm=>k3 (aR (tab.at_ m hm) hx2 (by intro z;cases z)) (tab.at_ m hm)⟩
  refine dR ?_;walk_at "rd";refine h_.of (xs:=[q.v]) (λi σ H'=>(i=0/\σ=[some (V.ref x),some (V.ref g),some (V.ref sl),some (V.str e),some (V.ref l),some (V.ref L),some (V.ref d),none]/\H'=H3)\/(i=1/\σ=[some (V.ref x),some (V.ref g),some (V.ref sl),some (V.str e),some (V.ref l),some (V.ref L),some (V.ref d),some q.v]/\∃ks,(∀b o,b≠dm->b≠ds->H3 b=some o->H' b=some o)/\H' dm=some (.dT (dH q.name q.bW 0 []))/\H' ds=some (.dT ks)/\KdS H' q.name q.bW ks)) (.inl ⟨rfl,rfl,rfl⟩) ?_ ?_ ?_
  ·rintro i σ H' _ (⟨_,_,rfl⟩|⟨_,_,ks,f,_⟩)
   ·exact aI.of (fK lt3 hp1.top)
   ·exact aI.of (fK (lto f) (fK lt3 hp1.top))
  ·rintro i v σ H' hv (⟨rfl,rfl,rfl⟩|⟨rfl,_⟩)
   ·cases hv;walk_at "rd";exact⟨_,_,x3,rfl,dx,dm,ds,d,q,rfl,rfl,x3,m3,s3,dsm.symm,qk lt3 (hp1.at_ q (.head _)),qw,ms,tab3,(λs hs f hf=>OX nm (qw.Rk s hs f hf).2.2.2.2),λks H' f m s k=>⟨f,m,ks,s,k⟩⟩
   ·cases hv
  ·rintro σ H' (⟨z,_⟩|⟨_,rfl,ks,f4,m4,s4,kd4⟩)
   ·cases z
   ·walk_at "rd";obtain⟨n',hn',en⟩:∃n'∈q.bL,ax.e n'=ax.e n:=by
     have h:ax.e n∈q.bL.map ax.e:=by rw[show q.bL.map ax.e=p.bL.map ax.e from congrArg (·.2.1) eq];exact cC.mpr ⟨n,hn,rfl⟩
     exact cC.mp h
    unfold ax.e at en;injection en with _ e2 e3 e4 e5;obtain⟨m,hl,hmm,ma,mb,mc⟩:=JM nm qw.bn.nd hn' (by rw[e3];exact hso);have lt4:=lto f4;have f4' {b:Addr}{o:HO}(h:H3 b=some o) (no:∀kv,o≠.dT kv):H' b=some o:=f4 b o (aR h m3 (no _)) (aR h s3 (no _)) h;have d4:=f4' tab3.top (by intro _ z;cases z);have gd:cz H' d (V.str e) (some (V.ref m.t)):=by
     have:=cz.k (k:=Sum.inr e) d4;rw[Rp,<-hne,<-e2,hl]at this;rw[<-hne,<-e2];exact this
    have x4:=f4' x3 (by intro _ z;cases z);refine⟨_,gd,_,rfl,_,_,_,jN lt4 (tab3.at_ m hmm),λtp htp=>?_⟩;rw[ma,mb,mc,e4,e5,qN eq];have xt:x≠tp:=bf x4 htp;refine⟨_,_,_,by rw[ae xt];exact x4,T.aC,T.br,(by show 2<1000;decide),?_⟩;generalize hH5:upd (upd H' tp (atT p.name n.st (n.off%4294967296))) x _=H5;have k5 {b:Addr}{o:HO}(nx:b≠x) (h:H' b=some o):H5 b=some o:=by rw[<-hH5,ae nx,ae (bf h htp)];exact h
    have x5:H5 x=some (.ins A.aH dx [("memory", .ref dm),("stretches", .ref ds),("place", .ref tp)]):=by rw[<-hH5,aJ];rfl
    have p5:H5 tp=some (atT p.name n.st (n.off%4294967296)):=by rw[<-hH5,ae xt.symm,aJ]
    have l3:H3 l=some (.lst (rs.map V.int)):=by
     have h2:=gx hl' (by intro _ z;cases z);exact k3 (aR h2 hx2 (by intro z;cases z)) h2
    have l4:=fK lt4 l3;have l5:H5 l=some (.lst (rs.map V.int)):=k5 (aR l4 x4 (by intro z;cases z)) l4;refine dR ?_;walk_at "rd";refine fF.of (xs:=rs.map V.int) (by rw[aS,sizeLine_eq,l8];decide) (aI.of l5) (λD i ys H'=>ys=(rs.take i).map V.int/\aL H5 H'/\H' D=some (.lst ys)) (λD hD=>⟨rfl,bo hD,aJ⟩) (λD i ys H' hD hi ⟨e,s1,h1⟩=>⟨aI.of (s1 _ _ l5),h1,by rw[e,aS,pX];omega⟩) ?_ ?_
    ·rintro D i x ys H' hD hx ⟨rfl,s1,h1⟩;walk_at "rd";walk_at "0";cases hr:rs[i]? with
     |none=>rw[hr]at hx;cases hx
     |some n=>
      rw[hr]at hx;cases hx;exact⟨.no .nil,.inl ⟨n,rfl,h1,by rw[ZQ,hr];simp,dA hD s1,aJ⟩⟩
    ·rintro D ys H6 hD ⟨e6,s6,h6⟩;rw[aS,AJ]at e6;subst e6;have x6:=s6 _ _ x5;refine⟨_,_,_,x6,T.aC,T.aQ,(by show 3<1000;decide),i8 _,λln hln=>?_⟩;obtain⟨lnx,hln6⟩:=iY hln;refine⟨_,_,_,by rw[ae lnx.symm,aJ],T.aC,T.cn,(by show 4<1000;decide),_,_,_,aJ,T.aC,T.cx,(by show 5<1000;decide),?_⟩;generalize hH7:upd (upd (upd (upd H6 x _) ln (HO.lst [])) x _) x _=H7;have k7 {b:Addr}{o:HO}(nx:b≠x) (h:H6 b=some o):H7 b=some o:=by rw[<-hH7,ae nx,ae nx,ae (bf h hln6),ae nx];exact h
     have k37 {b:Addr}{o:HO}(nx:b≠x) (n1:b≠dm) (n2:b≠ds) (h:H3 b=some o):H7 b=some o:=k7 nx (s6 _ _ (k5 nx (f4 b o n1 n2 h)));have k27 {b:Addr}{o:HO}(no:∀c u v,o≠.ins c u v) (h:H2 b=some o):H7 b=some o:=have nx:=aR h hx2 (no _ _ _);k37 nx (bf h hdm) (bf h hds) (k3 nx h);have ns (b:Addr) (h:H b≠none):H5 b≠none:=by
      have n1:H1 b≠none:=by
       by_cases c:b=A.aM
       ·obtain⟨ps,z,_⟩:=tk1;rw[c,z];simp
       ·obtain⟨o,z⟩:=Option.ne_none_iff_exists'.mp h;rw[sx1 b o c z];simp
      have n2:H2 b≠none:=by
       by_cases c:b=A.bh
       ·obtain⟨ps,z,_⟩:=nb2;rw[c,z];simp
       ·obtain⟨o,z⟩:=Option.ne_none_iff_exists'.mp n1;rw[sx2 b o c z];simp
      obtain⟨o,z⟩:=Option.ne_none_iff_exists'.mp n2;by_cases c:b=x
      ·rw[c,x5];simp
      ·rw[k5 c (f4 b o (bf z hdm) (bf z hds) (k3 c z))];simp
     have nz {b:Addr}(h:H5 b=none):H b=none:=Classical.byContradiction λz=>ns b z h;have Dx:D≠x:=Ne.symm (bf x5 hD);refine k ⟨x,dx,dm,ds,tp,D,ln⟩ ks H7 rfl (λb o nx no h=>?_) ?_ ?_ ⟨by rw[<-hH7,aJ];rfl,?_,k7 dsx (s6 _ _ (k5 dsx s4)),k7 xt.symm (s6 _ _ p5),k7 Dx h6,by rw[<-hH7,ae lnx,ae lnx,aJ];rfl,bf h6 hln6⟩ ?_ (nz hD) (nz (cU s6 hln6))
     ·have h2:=gx h no;exact k37 nx (bf h2 hdm) (bf h2 hds) (k3 nx h2)
     ·refine DO tk1 λb o c h=>?_;have h2:H2 b=some o:=sx2 b o (by
       rcases c with ⟨rfl,_⟩|⟨c,rfl⟩
       ·exact Ne.symm nt
       ·exact qA nb1 h (by intro _ z;cases z)) h
      exact k27 (by rcases c with ⟨_,_,rfl⟩|⟨_,rfl⟩<;>intro _ _ _ z<;>cases z) h2
     ·exact DO nb2 λb o c h=>k27 (by rcases c with ⟨_,_,rfl⟩|⟨_,rfl⟩<;>intro _ _ _ z<;>cases z) h
     ·rw[<-RP p.name (vx eq),<-qN eq];exact k7 xm.symm (s6 _ _ (k5 xm.symm m4))
     ·rw[<-qN eq];exact Yg (vx eq) (iQ kd4 λa xs h=>have nx:=aR h x4 (by intro z;cases z);k7 nx (s6 _ _ (k5 nx h)))
theorem Y5(T:Txt K mg A):aG P w K mg base bP 1 A.ZD A.yb ["_law_script", "_law_k"] (F4 K):=by
 refine T.C9.ok TZ (λvs H Q E h=>?_) (λcdv Ar outer s H vs Q E hr h=>?_)
 ·obtain⟨a,ns,k,rfl,_⟩:=h;rfl
 ·obtain⟨a,ns,i,rfl,hS,hl,h0,k⟩:=h;refine⟨_,(aE (ay (dB Ij (pv 1) (cX (bX (K:=K) rfl) (by rfl) T.eS eG (ah (pv 0) aa)) (ar _)) (aF (aj (bO (dG (K:=K) rfl) (pv 0) (pv 1) (λ_ _=>rfl)))) cN) (aF (aj af))),?_⟩;walk_at "rd";refine⟨ns.length,.inl ⟨_,hS,by simp⟩,bN (λhi=>?_) (λ_=>k 0)⟩;have hi:=of_decide_eq_true hi;obtain⟨v,hv,hm⟩:=Vl (xs:=ns.map V.int) (i:=i) (by simp;omega) (by simpa using hi);obtain⟨j,_,rfl⟩:=cC.mp hm;exact⟨_,hS,_,hv,k j⟩
theorem BU(h:H a=some (atT z i o)):Rep K H (.tup [.str (Str.ofString "at"),.str z,.int i,.int o]) (.ref a):=⟨a,_,rfl,bB.of h,by simp[RepL,Rep]⟩
theorem ints_rep:∀ns:List Int,RepL K H (ns.map D.int) (ns.map V.int)
 |[]=>rfl
 |n::ns=>by
  simp only[List.map_cons,RepL,Rep];exact⟨_,_,rfl,rfl,ints_rep ns⟩
theorem Sl(T:Txt K mg A):aG P w K mg base bP 2 A.XC A.uf ["_law_found", "_law_due"] FT:=by
 refine T.CT.ok Tv (λvs H Q E h=>?_) (λcdv Ar outer s H vs Q E hr h=>?_)
 ·rcases h with ⟨n,rfl,k⟩|⟨a,b,z,i,o,rfl,ha,hb,k⟩<;>rfl
 ·refine⟨_,(aE (ay (aW (cX (bY (K:=K) rfl) (by rfl) T.aB ia (ah (pv 1) (ah (cV rfl T.jL ou nM) aa)))) (aF (aj (fA (pC (OQ T) hr T.EY T.zG T.zp (ah (pv 0) aa)) (h8 (fb aY (pv 0) (pv 1) (ar _)))))) cN) (aE (ay (dB ny (pv 1) f9 (ar _)) (aF (aj (fb ny (pv 0) f9 (ar _)))) cN) (aE (ay (PW.pt (eT (b_ (aW (cX (bY (K:=K) rfl) (by rfl) T.aB ia (ah (pv 0) (ah (cV rfl T.iE Am nM) aa))))) (eT (dB Ae (cX (bX (K:=K) rfl) (by rfl) T.eS eG (ah (pv 0) aa)) af (ar _)) (eE (b_ (aW (cX (bY (K:=K) rfl) (by rfl) T.aB ia (ah (tx K (pv 0)) (ah (cV rfl T.zo N9 nM) aa))))))))) (aF (aj bw)) cN) (aF (aj (fA (cX (bY (K:=K) rfl) (by rfl) T.aB ia (ah (tx K (pv 0)) (ah (cV rfl T.zo N9 nM) aa))) (fA (pC (OQ T) hr T.EY T.zG T.zp (ah (tx K (pv 0)) aa)) (fA (pC (OQ T) hr T.EY T.zG T.zp (ah (tx K (pv 0)) aa)) (h8 (fb (QU hr.units (K:=K) rfl) (pv 0) (pv 1) (ar _))))))))))),?_⟩;rcases h with ⟨n,rfl,k⟩|⟨a,b,z,i,o,rfl,ha,hb,k⟩
  ·walk_at "rd";exact⟨_,.int n,true,rfl,k⟩
  ·walk_at "rd";refine⟨_,.tup hb,false,rfl,oh ?_⟩;rw[if_neg (by decide)];refine⟨_,.tup ha,true,rfl,oh ⟨4,.inr ⟨_,bB.of ha,rfl⟩,oh ⟨_,bB.of ha,_,rfl,_,.str _,true,rfl,oh ⟨_,bB.of ha,_,rfl,_,.str _,true,rfl,Qs ⟨_,bB.of ha,_,rfl,_,rfl,_,bB.of ha,_,rfl,_,rfl,?_⟩⟩⟩⟩⟩;exact⟨_,_,.inr ⟨BU ha,BU hb⟩,by simp[depL,dep],by rw[eW];exact k⟩
theorem SD(T:Txt K mg A):aG P w K mg base bP 3 A.Zp A.vM ["_law_found", "_law_due"] Bj:=by
 refine T.Ei.ok Jc (λvs H Q E h=>?_) (λcdv Ar outer s H vs Q E hr h=>?_)
 ·obtain⟨a,b,ns,rfl,ha,hb,hn,k⟩:=h;rfl
 ·obtain⟨a,b,ns,rfl,ha,hb,hn,k⟩:=h;refine⟨_,(aE (ay (PW.pt (eT (b_ (aW (cX (bY (K:=K) rfl) (by rfl) T.aB ia (ah (pv 0) (ah (cV rfl T.cZ de nM) aa))))) (eE (dB Ae (cX (bX (K:=K) rfl) (by rfl) T.eS eG (ah (pv 0) aa)) (cX (bX (K:=K) rfl) (by rfl) T.eS eG (ah (pv 1) aa)) (ar _))))) (aF (aj bw)) cN) (aE (pF (cA rfl T.cJ (ah (cX (bX (K:=K) rfl) (by rfl) T.eS eG (ah (pv 1) aa)) aa)) (pn 2 Jc.nd) (aF (ay (b_ (aW (pC (Sl T) hr T.O6 T.Cr T.Du (ah (bO (dG (K:=K) rfl) (pv 0) (pv 2) (λ_ _=>rfl)) (ah (bO (dG (K:=K) rfl) (pv 1) (pv 2) (λ_ _=>rfl)) aa))))) (aF (aj bw)) cN))) (aF (aj bw)))),?_⟩;walk_at "rd";refine⟨_,.lst ha,true,rfl,oh ⟨ns.length,.inl ⟨_,aI.of ha,by rw[aS]⟩,ns.length,.inl ⟨_,aI.of hb,by rw[aS]⟩,?_⟩⟩;rw[if_neg (by simp)];refine⟨ns.length,.inl ⟨_,aI.of hb,by rw[aS]⟩,pd.of (by omega) (by omega) (λi σ H'=>H'=H/\∃c,σ=[some (V.ref a),some (V.ref b),c]) ⟨rfl,none,rfl⟩ ?_ ?_⟩
  ·rintro i σ H' hi ⟨rfl,c,rfl⟩;walk_at "rd";obtain⟨v,hv,_⟩:=dk (rs:=ns) (i:=(i:Int)) (by omega) (by omega);exact⟨_,aI.of ha,_,hv,_,aI.of hb,_,hv,.inl ⟨v,rfl,rfl⟩⟩
  ·rintro σ H' ⟨rfl,c,rfl⟩;walk_at "rd";exact k
theorem EU(T:Txt K mg A):aG P w K mg base bP 4 A.Xw A.tQ ["_law_found", "_law_spot", "_law_row", "_law_told", "_law_ended"] FY:=by
 refine T.ER.ok U8 (λvs H Q E h=>?_) (λcdv Ar outer s H vs Q E hr h=>?_)
 ·obtain⟨t,q,lr,ln,sp,lw,lt,z,i,o,rs,ts,en,rfl,st,hp,hw,ht,h1,h2,k⟩:=h;rfl
 ·obtain⟨t,q,lr,ln,sp,lw,lt,z,i,o,rs,ts,en,rfl,st,hp,hw,ht,h1,h2,k⟩:=h;refine⟨_,(aE (ay (PW.pt (eT (b_ (aW (cX (bY (K:=K) rfl) (by rfl) T.aB ia (ah (pv 0) (ah (cV rfl T.iE Am nM) aa))))) (eT (dB Ae (cX (bX (K:=K) rfl) (by rfl) T.eS eG (ah (pv 0) aa)) af (ar _)) (eE (b_ (aW (pC (Sl T) hr T.O6 T.Cr T.Du (ah (tx K (pv 0)) (ah (pv 1) aa))))))))) (aF (aj bw)) cN) (aE (ay (PW.pt (eT (b_ (aW (pC (SD T) hr T.Lw T.Fq T.C5 (ah (tx K (pv 0)) (ah (pv 2) aa))))) (eE (b_ (aW (pC (SD T) hr T.Lw T.Fq T.C5 (ah (tx K (pv 0)) (ah (pv 3) aa)))))))) (aF (aj bw)) cN) (aF (aj (fA (cX (bY (K:=K) rfl) (by rfl) T.aB ia (ah (tx K (pv 0)) (ah (cV rfl T.m_ Eh nM) aa))) (h8 (fb aY (tx K (pv 0)) (pv 4) (ar _)))))))),?_⟩;walk_at "rd";refine⟨_,.tup st.top,true,rfl,oh ⟨4,.inr ⟨_,bB.of st.top,rfl⟩,oh ⟨_,bB.of st.top,_,rfl,.inr ⟨_,rfl,_,_,_,st.pl,hp,_,bB.of st.top,_,rfl,_,rfl,_,st.fL,hw,h1,_,bB.of st.top,_,rfl,_,rfl,_,st.gT,ht,h2,_,bB.of st.top,_,rfl,_,.bl en,true,rfl,Qs ⟨_,bB.of st.top,_,rfl,rfl,?_⟩⟩⟩⟩⟩;rw[decide_eq_true rfl];exact k
theorem Xl(T:Txt K mg A):aG P w K mg base bP 1 A.XJ A.yy ["_law_word", "_law_by"] BZ:=by
 refine T.CB.ok AX (λvs H Q E h=>?_) (λcdv Ar outer s H vs Q E hr h=>?_)
 ·obtain⟨c,b,rfl,h1,h2,h3,k⟩:=h;rfl
 ·obtain⟨c,b,rfl,h1,h2,h3,k⟩:=h;refine⟨_,(aE (pF (cA rfl T.cJ (ah (ao bg (pv 1) af) aa)) (pn 2 AX.nd) (aF (pS 0 AX.nd (ao b0 (ao cI (pv 0) af) (ao cW (ao bg (pv 0) af) af))))) (aF (aj (pv 0)))),?_⟩;walk_at "rd";obtain⟨a,rfl⟩:∃a:Nat,c=a:=⟨c.toNat,by omega⟩
  obtain⟨d,rfl⟩:∃d:Nat,b=d:=⟨b.toNat,by omega⟩
  have ha:a<4294967296:=by omega
  refine⟨by decide,pd.of (by omega) (by omega) (λi σ H'=>H'=H/\∃b5,σ=[some (.int ((M50.gU a i:Nat):Int)),some (.int (d:Int)),b5]) ⟨rfl,none,by rw[M50.GF]⟩ ?_ ?_⟩
  ·rintro i σ H' hi ⟨rfl,b5,rfl⟩;have hi:i<32:=by omega
   have st:=M50.GD (w:=a) hi;walk_at "rd";refine⟨⟨by decide,by decide⟩,by decide,.inr ⟨by decide,by decide⟩,?_⟩;rw[st];omega
  ·rintro σ H' ⟨rfl,b5,rfl⟩;walk_at "rd";rw[OU ha]at k;exact k
theorem Xx(T:Txt K mg A):aG P w K mg base bP 1 A.WX A.qR ["_law_one", "_law_other", "_law_odd"] NZ:=by
 refine T.DP.ok fB (λvs H Q E h=>?_) (λcdv Ar outer s H vs Q E hr h=>?_)
 ·obtain⟨a,b,od,rfl,h1,h2,h3,h4,k⟩:=h;rfl
 ·obtain⟨a,b,od,rfl,h1,h2,h3,h4,k⟩:=h;refine⟨_,(aE (pS 3 fB.nd af) (aE (pS 4 fB.nd af) (aE (pF (cA rfl T.cJ (ah af aa)) (pn 5 fB.nd) (aE (pS 6 fB.nd (ao b0 (ao bg (pv 0) af) (ao bg (pv 1) af))) (aE (ay (dB aY (pv 6) (ao eR af (jP p0 (by rfl) T.jL ou (ah (pv 2) aa))) (ar _)) (aF (pS 3 fB.nd (ao b0 (pv 3) (pv 4)))) cN) (aE (pS 0 fB.nd (ao cI (pv 0) af)) (aE (pS 1 fB.nd (ao cI (pv 1) af)) (aF (pS 4 fB.nd (ao cW (pv 4) af)))))))) (aF (aj (pv 3)))))),?_⟩;walk_at "rd";obtain⟨a,rfl⟩:∃c:Nat,a=c:=⟨a.toNat,by omega⟩
  obtain⟨b,rfl⟩:∃d:Nat,b=d:=⟨b.toNat,by omega⟩
  have ha:a<4294967296:=by omega
  have hb:b<4294967296:=by omega
  refine pd.of (by decide) (by decide) (λi σ H'=>H'=H/\∃b5 b6,σ=[some (.int ((a/2 ^ i:Nat):Int)),some (.int ((b/2 ^ i:Nat):Int)),some (.bl od),some (.int ((if od=true then (a ^^^ b)%2 ^ i else (a &&& b)%2 ^ i:Nat):Int)),some (.int ((2 ^ i:Nat):Int)),b5,b6])
   ⟨rfl,none,none,by simp[Nat.mod_one]⟩ ?_ ?_
  ·rintro i σ H' hi ⟨rfl,b5,b6,rfl⟩;have half:∀x:Nat,((x/2 ^ i:Nat):Int)/2=((x/2 ^ (i+1):Nat):Int):=λx=>by rw[Nat.pow_succ,<-Nat.div_div_eq_div_mul];omega
   have pw:((2 ^ i:Nat):Int)*2=((2 ^ (i+1):Nat):Int):=by rw[Nat.pow_succ];omega
   have cm:Nv ((2 ^ i:Nat):Int) 2:=.inr ⟨by decide,by decide⟩;have s1:=M50.An a b i;have s2:=M50.Ac a b i;walk_at "rd";have cd:∀x:Int,W7 x 2:=λx=>⟨by decide,by decide⟩;refine⟨by decide,by decide,bN (λh=>⟨cd _,cd _,cm,half a,half b,?_,pw⟩) (λh=>⟨cd _,cd _,cm,half a,half b,?_,pw⟩)⟩
   ·have h:=of_decide_eq_true h;cases od with
    |true=>rw[if_pos rfl]at h;rw[if_pos rfl,if_pos rfl,s1,if_pos (by omega)];omega
    |false=>rw[if_neg (by decide)]at h;rw[if_neg (by decide),if_neg (by decide),s2,if_pos (by omega)];omega
   ·have h:¬_:=λz=>h (decide_eq_true z);cases od with
    |true=>rw[if_pos rfl]at h;rw[if_pos rfl,if_pos rfl,s1,if_neg (by omega)];omega
    |false=>rw[if_neg (by decide)]at h;rw[if_neg (by decide),if_neg (by decide),s2,if_neg (by omega)];omega
  ·rintro σ H' ⟨rfl,b5,b6,rfl⟩;walk_at "rd";cases od with
   |true=>
    have e:(a ^^^ b)%2 ^ 32=a ^^^ b:=Vy (Nat.xor_lt_two_pow (n:=32) ha hb);rw[if_pos rfl,xor_int ha hb,<-e]at k;exact k
   |false=>
    have e:(a &&& b)%2 ^ 32=a &&& b:=Vy (Nat.and_lt_two_pow (n:=32) a hb);rw[if_neg (by decide),and_int,<-e]at k;exact k
theorem YB(T:Txt K mg A):aG P w K mg base bP 2 A.Zk A.v_ ["_law_op", "_law_left", "_law_right", "_law_n"] LS:=by
 refine T.ES.ok TV (λvs H Q E h=>?_) (λcdv Ar outer s H vs Q E hr h=>?_)
 ·obtain⟨c,one,other,rfl,ho,hc,h1,h2,h3,h4,k⟩:=h;rfl
 ·obtain⟨c,one,other,rfl,ho,hc,h1,h2,h3,h4,k⟩:=h;refine⟨_,(aE (ay (dB aY (pv 0) af (ar _)) (aF (aj (pv 3))) cN) (aE (ay (dB aY (pv 0) af (ar _)) (aF (aj (ao cW af (pv 3)))) cN) (aE (ay (dB aY (pv 0) af (ar _)) (aF (aj (ao bg (ao eR (ao b0 (pv 1) (pv 3)) (ao cW (ao cI (pv 3) af) af)) af))) cN) (aE (ay (dB aY (pv 0) af (ar _)) (aF (aj (ao bg (ao b0 (pv 1) (pv 2)) af))) cN) (aE (ay (dB aY (pv 0) af (ar _)) (aF (aj (ao bg (ao eR (pv 1) (pv 2)) af))) cN) (aE (ay (PW.pt (eT (dB aY (pv 0) af (ar _)) (eE (dB aY (pv 0) af (ar _))))) (aF (aj (pC (Xx T) hr T.RV T.KG T.MW (ah (pv 1) (ah (pv 2) (ah (fb aY (pv 0) af (ar _)) aa)))))) cN) (aF (aj (pC (Xl T) hr T.SI T.Nu T.NY (ah (pv 1) (ah (pv 2) aa))))))))))),?_⟩;walk_at "rd";unfold iq at k;unfold xI at ho;refine bN (λh=>?_) (λh=>?_)
  ·rw[if_pos (of_decide_eq_true h)]at k;exact k
  walk_at "5";refine bN (λh=>?_) (λh=>?_)
  ·rw[if_pos (of_decide_eq_true h)]at k;have e:c%65536*65536%4294967296=65536*(c%65536):=by omega
   rw[e]at k;exact⟨.inl ⟨by decide,by decide⟩,k⟩
  walk_at "5";refine bN (λh=>?_) (λh=>?_)
  ·rw[if_pos (of_decide_eq_true h)]at k;have near:one+c%65536 - c%65536/32768*65536=one+sE c:=by unfold sE;omega
   rw[near];exact⟨⟨by decide,by decide⟩,.inr ⟨by decide,by decide⟩,by decide,k⟩
  walk_at "5";refine bN (λh=>?_) (λh=>?_)
  ·rw[if_pos (of_decide_eq_true h)]at k;exact⟨by decide,k⟩
  walk_at "5";refine bN (λh=>?_) (λh=>?_)
  ·rw[if_pos (of_decide_eq_true h)]at k;exact⟨by decide,k⟩
  walk_at "5";refine bN (λh=>?_) (λh=>?_)
  ·have h9:=of_decide_eq_true h;rw[if_pos h9]at k;rw[if_neg (λz=>by have:=of_decide_eq_true z;omega)];exact⟨h1,h2,h3,h4,k⟩
  walk_at "5";refine bN (λh=>?_) (λh=>?_)
  ·rw[if_pos (of_decide_eq_true h)]at k;rw[if_pos h];exact⟨h1,h2,h3,h4,k⟩
  walk_at "5";exact⟨h1,h2,h3,k⟩
theorem ZX(T:Txt K mg A):aG P w K mg base bP 1 A.Yr A.uC ["_law_cell"] BX:=by
 refine T.FC.ok AO (λvs H Q E h=>?_) (λcdv Ar outer s H vs Q E hr h=>?_)
 ·obtain⟨c,rfl,k⟩:=h;rfl
 ·obtain⟨c,rfl,k⟩:=h;refine⟨_,(aE (pS 1 AO.nd (bO (dG (K:=K) rfl) (bS (ah af (ah af (ah af (ah af (ah af (ah af (ah af (ah af (ah af aa)))))))))) (ao bg (pv 0) af) (λ_ _=>rfl))) (aE (ay (dB aY (ao bg (pv 0) af) af (ar _)) (aF (pS 1 AO.nd af)) cN) (aF (aj (ao b0 (ao cW (pv 1) af) (ao bg (ao cW (ao bg (ao cW (pv 0) af) af) af) af)))))),?_⟩;walk_at "rd";refine⟨by decide,λq hq=>⟨by decide,_,aI.of aJ,?_⟩⟩;have s1:=bo (o:=HO.lst [V.int 2,V.int 4,V.int 7,V.int 8,V.int 9,V.int 10,V.int 11,V.int 3,V.int 1]) hq;have cm:∀x:Int,Nv x 69621:=λx=>.inr ⟨by decide,by decide⟩;have fin:∀op:Int,BK op->0<=op->op<16->Q (V.int (op*268435456+c*48271%2147483647*69621%268435456)) (upd H q (HO.lst [V.int 2,V.int 4,V.int 7,V.int 8,V.int 9,V.int 10,V.int 11,V.int 3,V.int 1])):=λop ok h1 h2=>by
   have hb:0<=c*48271%2147483647*69621%268435456/\c*48271%2147483647*69621%268435456<268435456:=⟨Int.emod_nonneg _ (by decide),Int.emod_lt_of_pos _ (by decide)⟩
   generalize c*48271%2147483647*69621%268435456=r at *;refine k _ _ s1 (by omega) (by omega) ?_;have e:cu (op*268435456+r)=op:=by unfold cu;omega
   rw[e];exact ok
  have h9:0<=c%9/\c%9<9:=by omega
  obtain⟨op,hop,ok,o1,o2⟩:∃op:Int,Az [V.int 2,V.int 4,V.int 7,V.int 8,V.int 9,V.int 10,V.int 11,V.int 3,V.int 1] (c%9)=some (V.int op)/\BK op/\0<=op/\op<16:=by
   clear fin;generalize c%9=j at *;have hj:j=0\/j=1\/j=2\/j=3\/j=4\/j=5\/j=6\/j=7\/j=8:=by omega
   unfold BK xI;rcases hj with rfl|rfl|rfl|rfl|rfl|rfl|rfl|rfl|rfl
   ·exact⟨2,rfl,by decide,by decide,by decide⟩
   ·exact⟨4,rfl,by decide,by decide,by decide⟩
   ·exact⟨7,rfl,by decide,by decide,by decide⟩
   ·exact⟨8,rfl,by decide,by decide,by decide⟩
   ·exact⟨9,rfl,by decide,by decide,by decide⟩
   ·exact⟨10,rfl,by decide,by decide,by decide⟩
   ·exact⟨11,rfl,by decide,by decide,by decide⟩
   ·exact⟨3,rfl,by decide,by decide,by decide⟩
   ·exact⟨1,rfl,by decide,by decide,by decide⟩
  refine⟨_,hop,by decide,bN (λ_=>⟨.inr ⟨by decide,by decide⟩,.inr ⟨by decide,by decide⟩,by decide,cm _,by decide,fin 0 (.inl rfl) (by decide) (by decide)⟩) (λ_=>⟨op,rfl,.inr ⟨by decide,by decide⟩,.inr ⟨by decide,by decide⟩,by decide,cm _,by decide,fin op ok o1 o2⟩)⟩
theorem SG(w x:Int)(h:0<=w):K3.putF w 0 16 x=65536*(w/65536)+x%65536:=by
 have:=K3.Ux w x 0 16 1 65536 (by decide) (by decide) h;simp only[Int.ediv_one,Int.emod_one,Int.one_mul,Int.add_zero]at this;exact this
structure RB(n i:Nat)(ws ws' run:List Int)(fs:List aq):Prop where
 l1:ws'.length=ws.length
 l2:run.length=ws.length
 Py:∀w∈ws',0<=w/\w<=4294967295
 ok:∀w∈run,0<=w/\w<=4294967295/\BK (cu w)
 fl:∀f∈fs,f.soft=true/\QN f.rule/\f.name=Str.ofString "nobody" /\ ∃j:Nat,f.at_=((n+j:Nat):Int)/\j<i/\run[j]?=some (dt f.rule (ws'.getD j 0) (f.add%4294967296))
 no:∀j:Nat,(∀f∈fs,f.at_≠((n+j:Nat):Int))->run[j]?=ws'[j]?
 gq:fs.length<=i
 rest:∀j,i<=j->run[j]?=ws[j]?/\ws'[j]?=ws[j]?
theorem Ml{l:List Int}{i:Nat}{x:Int}(h:l[i]?=some x):l.set i x=l:=by
 refine List.ext_getElem? λj=>?_;by_cases e:i=j
 ·subst e;rw[V6 (o6.mp h).1,h]
 ·rw[PB e]
theorem RB.skip{n i:Nat}{ws ws' run:List Int}{fs:List aq}(h:RB n i ws ws' run fs):RB n (i+1) ws ws' run fs:=
 ⟨h.l1,h.l2,h.Py,h.ok,λf hf=>by obtain⟨a,b,c,j,d,e,k⟩:=h.fl f hf;exact⟨a,b,c,j,d,by omega,k⟩,h.no,Nat.le_succ_of_le h.gq,λj hj=>h.rest j (by omega)⟩
theorem RB.put{n i:Nat}{ws ws' run:List Int}{fs:List aq}(h:RB n i ws ws' run fs)(hi:i<ws.length){x y:Int}{f:aq}(hx:0<=x/\x<=4294967295)(hy:0<=y/\y<=4294967295/\BK (cu y))(h1:f.soft=true)(h2:QN f.rule)(h3:f.name=Str.ofString "nobody")(h4:f.at_=((n+i:Nat):Int))(h5:y=dt f.rule x (f.add%4294967296)):RB n (i+1) ws (ws'.set i x) (run.set i y) (fs++[f]):=by
 have gx:(ws'.set i x)[i]?=some x:=V6 (by rw[h.l1];exact hi);have gy:(run.set i y)[i]?=some y:=V6 (by rw[h.l2];exact hi);refine⟨by rw[List.length_set];exact h.l1,by rw[List.length_set];exact h.l2,λw hw=>?_,λw hw=>?_,λg hg=>?_,λj hj=>?_,by rw[ij];have:=h.gq;simp;omega,λj hj=>?_⟩
 ·rcases List.mem_or_eq_of_mem_set hw with z|z
  ·exact h.Py w z
  ·rw[z];exact hx
 ·rcases List.mem_or_eq_of_mem_set hw with z|z
  ·exact h.ok w z
  ·rw[z];exact hy
 ·rcases fY.mp hg with z|z
  ·obtain⟨a,b,c,j,d,e,k⟩:=h.fl g z;refine⟨a,b,c,j,d,by omega,?_⟩;rw[PB (by omega),k,PJ,PJ,PB (by omega)]
  ·rw[fN.mp z];refine⟨h1,h2,h3,i,h4,by omega,?_⟩;rw[gy,PJ,gx,h5];rfl
 ·by_cases e:i=j
  ·exact absurd (by rw[h4,e]) (hj f (oQ _ (.head _)))
  ·rw[PB e,PB e];exact h.no j λg hg=>hj g (BP _ hg)
 ·rw[PB (by omega),PB (by omega)];exact h.rest j (by omega)
theorem GY{w a:Int}(hw:0<=w):w/65536*65536+(a+32768)/65536%65536=dt (Str.ofString "high") w (a%4294967296):=by
 unfold dt;rw[if_neg (by decide),if_pos rfl,SG _ _ hw];omega
theorem HE{w a:Int}(hw:0<=w):w/65536*65536+a%65536=dt (Str.ofString "low") w (a%4294967296):=by
 unfold dt;rw[if_neg (by decide),if_neg (by decide),SG _ _ hw];omega
theorem PZ{w x:Int}(h:0<=w/\w<=4294967295/\BK (cu w)):0<=w/65536*65536+x%65536/\w/65536*65536+x%65536<=4294967295/\BK (cu (w/65536*65536+x%65536)):=by
 have e:cu (w/65536*65536+x%65536)=cu w:=by unfold cu;omega
 rw[e];exact⟨by omega,by omega,h.2.2⟩
theorem MR{w c:Int}(h1:0<=w)(h2:w<=4294967295):w=dt (Str.ofString "whole") c ((w - w/2147483648*4294967296)%4294967296):=by
 unfold dt;rw[if_pos rfl];omega
def ZN(H H':Hp)(a l m r:Addr)(n i:Nat)(ws:List Int):Prop:=∃(ws' run:List Int) (fs:List aq),(∀b o,b≠l->b≠m->H b=some o->H' b=some o)/\H' r=some (.lst (run.map V.int))/\H' l=some (.lst (ws'.map V.int))/\H' m=some (.lst (fs.map aq.v))/\(∀f∈fs,f.At H')/\RB n i ws ws' run fs
theorem ZN.fin(rl:r≠l)(rm:r≠m)(lm:l≠m)(off:∀b o,b≠l->b≠m->H b=some o->H2 b=some o)(hR:H2 r=some (.lst (run2.map V.int)))(hL:H2 l=some (.lst (ws2.map V.int)))(hM:H2 m=some (.lst (fs.map aq.v)))(fa:∀g∈fs,g.At H2)(hq:H2 q=none)(ef:f.a=q)(fi:RB n (i+1) ws ws2 run2 (fs++[f])):
  ZN H (upd (upd H2 q (.tup [.int f.at_,.str f.rule,.str f.name,.int f.add,.bl f.soft])) m (.lst (fs.map aq.v++[.ref q]))) a l m r n (i+1) ws:=by
 have s:=bo (o:=HO.tup [.int f.at_,.str f.rule,.str f.name,.int f.add,.bl f.soft]) hq;have qm:q≠m:=Ne.symm (bf hM hq);refine⟨ws2,run2,fs++[f],λb o n1 n2 h=>by rw[ae n2];exact s _ _ (off b o n1 n2 h),by rw[ae rm];exact s _ _ hR,by rw[ae lm];exact s _ _ hL,by rw[aJ,eA,<-ef];rfl,λg hg=>?_,fi⟩;rcases fY.mp hg with z|z
 ·show upd _ m _ g.a=some _;rw[ae (aR (fa g z) hM (by intro z;cases z))];exact s _ _ (fa g z)
 ·rw[fN.mp z];show upd _ m _ f.a=some _;rw[ef,ae qm,aJ]
theorem Za(T:Txt K mg A):aG P w K mg base bP 2 A.Zd A.wg ["_law_cells", "_law_skip", "_law_words", "_law_fills"] BQ:=by
 refine T.Eg.ok ip (λvs H Q E h=>?_) (λcdv Ar outer s H vs Q E hr h=>?_)
 ·obtain⟨a,l,m,cs,ws,n,rfl,ha,hl,hm,lm,la,ma,lw,h1,h2,hw,k⟩:=h;rfl
 ·obtain⟨a,l,m,cs,ws,n,rfl,ha,hl,hm,lm,la,ma,lw,h1,h2,hw,k⟩:=h
  refine⟨_,(aE (pS 4 ip.nd (jP (yY (K:=K) rfl) (by rfl) T.cZ de (ah (pv 2) aa))) (aE (pF (cA rfl T.cJ (ah (cX (bX (K:=K) rfl) (by rfl) T.eS eG (ah (pv 2) aa)) aa)) (pn 5 ip.nd) (aE (pS 6 ip.nd (bO (dG (K:=K) rfl) (bS (ah au (ah au (ah au aa)))) (ao bg (ao cI (bO (dG (K:=K) rfl) (pv 0) (pv 5) (λ_ _=>rfl)) af) af) (λ_ _=>rfl))) (aE (pS 7 ip.nd (ao eR (ao bg (ao cW (bO (dG (K:=K) rfl) (pv 0) (pv 5) (λ_ _=>rfl)) af) af) af)) (aE (ay (PW.pt (AY (dB aY (ao bg (bO (dG (K:=K) rfl) (pv 0) (pv 5) (λ_ _=>rfl)) af) af (ar _)) (rN (dB aY (pv 6) au (ar _))))) (aE (pS 7 ip.nd (ao eR (bO (dG (K:=K) rfl) (pv 2) (pv 5) (λ_ _=>rfl)) (ao cW (ao Iu (bO (dG (K:=K) rfl) (pv 2) (pv 5) (λ_ _=>rfl)) af) af))) (aF (qC (ao bg (bO (dG (K:=K) rfl) (pv 0) (pv 5) (λ_ _=>rfl)) af) (xE (pv 2) (pv 5) set_list)))) (e8 (aF (ay (dB aY (ao bg (bO (dG (K:=K) rfl) (pv 0) (pv 5) (λ_ _=>rfl)) af) af (ar _)) (aE (pS 8 ip.nd (bO (dG (K:=K) rfl) (bS (ah (pv 7) (ah (ao cI (ao b0 (pv 7) af) af) aa))) (jP p0 (by rfl) T.jL ou (ah (fb aY (pv 6) au (ar _)) aa)) (λ_ _=>rfl))) (aF (qC (ao b0 (ao cW (ao cI (bO (dG (K:=K) rfl) (pv 2) (pv 5) (λ_ _=>rfl)) af) af) (ao bg (pv 8) af)) (xE (pv 4) (pv 5) set_list)))) cN)))) (e8 (aF (ay (dB aY (ao bg (bO (dG (K:=K) rfl) (pv 0) (pv 5) (λ_ _=>rfl)) af) af (ar _)) (aF (bx (f_ (pv 3) (ah (a_ (ah (ao b0 (pv 1) (pv 5)) (ah (pv 6) (ah au (ah (pv 7) (ah bw aa)))))) aa)))) cN))))))) (aF (aj (pv 4))))),?_⟩
  walk_at "rd";refine⟨_,.inl (aI.of hl),λr hr0=>?_⟩;have s0:=bo (o:=HO.lst (ws.map V.int)) hr0;have rl:r≠l:=Ne.symm (bf hl hr0);have rm:r≠m:=Ne.symm (bf hm hr0);have ra:r≠a:=Ne.symm (bf ha hr0);refine⟨ws.length,.inl ⟨_,aI.of (s0 _ _ hl),by rw[aS]⟩,pd.of (by omega) (by omega) (λi σ H'=>∃c5 c6 c7 c8,σ=[some (V.ref a),some (V.int n),some (V.ref l),some (V.ref m),some (V.ref r),c5,c6,c7,c8]/\ZN H H' a l m r n i ws)
   ⟨_,_,_,_,rfl,ws,ws,[],λb o _ _ h=>s0 _ _ h,aJ,s0 _ _ hl,s0 _ _ hm,(λf hf=>by cases hf),⟨rfl,rfl,λw h=>⟨(hw w h).1,(hw w h).2.1⟩,hw,λf hf=>(by cases hf),λ_ _=>rfl,bA _,λ_ _=>⟨rfl,rfl⟩⟩⟩ ?_ ?_⟩
  ·rintro i σ H' hi ⟨_,_,_,_,rfl,ws',run,fs,off,hR,hL,hM,fa,fi⟩;walk_at "rd";have hi':i<ws.length:=by omega
   obtain⟨c,hc,_⟩:=dk (rs:=cs) (i:=(i:Int)) (by omega) (by omega);obtain⟨e1,e2⟩:=fi.rest i (bA _);obtain⟨wd,hwd⟩:∃wd,ws[i]?=some wd:=⟨ws[i],zR hi'⟩
   rw[hwd]at e1 e2;have hwm:=hw wd (i7 hwd);have hwl:Az (ws'.map V.int) (i:Int)=some (V.int wd):=iI (by rw[oR,e2];rfl);have hix:∀{l:List Int},l.length=ws.length->CV (l.map V.int).length (i:Int)=some i:=λe=>by
    unfold CV;rw[if_pos (by omega),if_pos (by rw[aS];omega)];rfl
   have fn:=fi.gq;refine⟨by decide,λp hp=>?_⟩;have s1:=bo (o:=HO.lst [V.str (Str.ofString "whole"),V.str (Str.ofString "high"),V.str (Str.ofString "low")]) hp;have ha1:=s1 _ _ (off a _ la.symm ma.symm ha);have hl1:=s1 _ _ hL;have hm1:=s1 _ _ hM;have hr1:=s1 _ _ hR;obtain⟨ru,hru,hisR⟩:∃ru:Str,Az [V.str (Str.ofString "whole"),V.str (Str.ofString "high"),V.str (Str.ofString "low")] (c/4%3)=some (V.str ru)/\QN ru:=by
    have hj:c/4%3=0\/c/4%3=1\/c/4%3=2:=by omega
    rcases hj with e|e|e<;>rw[e]
    ·exact⟨_,rfl,.inl rfl⟩
    ·exact⟨_,rfl,.inr (.inl rfl)⟩
    ·exact⟨_,rfl,.inr (.inr rfl)⟩
   refine⟨_,aI.of ha1,_,hc,c,rfl,⟨by decide,by decide⟩,by decide,_,aI.of aJ,_,hru,_,aI.of ha1,_,hc,c,rfl,.inr ⟨by decide,by decide⟩,by decide,_,aI.of ha1,_,hc,c,rfl,by decide,bN (λh3=>⟨rfl,bN (λhwh=>?_) (λhnw=>?_)⟩) (λh3=>?_)⟩
   ·obtain rfl:ru=Str.ofString "whole" := by injection (of_decide_eq_true hwh)
    refine⟨_,aI.of hl1,_,hwl,_,aI.of hl1,_,hwl,wd,rfl,⟨by decide,by decide +kernel⟩,.inr ⟨by decide,by decide⟩,wd,rfl,_,aI.of ha1,_,hc,c,rfl,by decide,_,hl1,i,hix fi.l1,?_⟩;refine dR ?_;walk_at "rd";refine⟨_,aI.of (by rw[ae la.symm];exact ha1),_,hc,c,rfl,by decide,?_⟩;rw[if_pos h3,<-List.map_set];have hm2:upd (upd H' p (HO.lst [V.str (Str.ofString "whole"),V.str (Str.ofString "high"),V.str (Str.ofString "low")])) l (HO.lst ((ws'.set i (c%4294967296)).map V.int)) m=some (.lst (fs.map aq.v)):=by rw[ae lm.symm];exact hm1
    refine⟨.inl ⟨rfl,_,aI.of hm2⟩,by decide,λq hq=>⟨_,bo hq _ _ hm2,by rw[aS,sizeLine_eq];omega,?_⟩⟩;refine ZN.fin (f:=⟨q,(n:Int)+i,Str.ofString "whole", Str.ofString "nobody", wd - wd/2147483648*4294967296,true⟩) (run2:=run) rl rm lm (λb o n1 n2 h=>by rw[ae n1];exact s1 _ _ (off b o n1 n2 h)) (by rw[ae rl];exact hr1) aJ hm2 (λg hg=>?_) hq rfl ?_
    ·show upd _ l _ g.a=some _;rw[ae (aR (s1 _ _ (fa g hg)) hl1 (by intro z;cases z))];exact s1 _ _ (fa g hg)
    ·have:=fi.put hi' (x:=c%4294967296) (y:=wd) (f:=⟨q,(n:Int)+i,Str.ofString "whole", Str.ofString "nobody", wd - wd/2147483648*4294967296,true⟩) (by omega) hwm rfl (.inl rfl) rfl (by show(n:Int)+i=_;omega) (MR hwm.1 hwm.2.1);rw[Ml e1]at this;exact this
   ·have hnw:ru≠Str.ofString "whole" := λz=>hnw (by rw[z];exact decide_eq_true rfl);refine dR ?_;walk_at "rd";refine⟨_,aI.of ha1,_,hc,c,rfl,by decide,?_⟩;rw[if_pos h3];refine⟨⟨by decide,by decide⟩,by decide,λp1 hp1=>⟨_,aI.of aJ,?_⟩⟩;generalize had:c*48271%4294967296 - 2147483648=ad at *;have s2:=bo (o:=HO.lst [V.int ad,V.int ((ad+32768)/65536)]) hp1;obtain⟨nu,hnu,hfi⟩:∃nu:Int,Az [V.int ad,V.int ((ad+32768)/65536)] (if decide (ru=Str.ofString "high")=true then 1 else 0)=some (V.int nu)/\wd/65536*65536+nu%65536=dt ru wd (ad%4294967296):=by
     rcases hisR with z|z|z
     ·exact absurd z hnw
     ·rw[z];exact⟨_,rfl,GY hwm.1⟩
     ·rw[z];exact⟨_,rfl,HE hwm.1⟩
    have hl2:=s2 _ _ hl1;have ha2:=s2 _ _ ha1;have hm2:=s2 _ _ hm1;refine⟨_,hnu,_,aI.of hl2,_,hwl,wd,rfl,⟨by decide,by decide⟩,.inr ⟨by decide,by decide⟩,nu,rfl,by decide,_,s2 _ _ hr1,i,hix fi.l2,?_⟩;refine dR ?_;walk_at "rd";refine⟨_,aI.of (by rw[ae ra.symm];exact ha2),_,hc,c,rfl,by decide,?_⟩;rw[if_pos h3,<-List.map_set];generalize hH2:upd (upd H' p _) p1 _=H2 at *;have hm3:upd H2 r (HO.lst ((run.set i (wd/65536*65536+nu%65536)).map V.int)) m=some (.lst (fs.map aq.v)):=by rw[ae rm.symm];exact hm2
    refine⟨.inl ⟨rfl,_,aI.of hm3⟩,by decide,λq hq=>⟨_,bo hq _ _ hm3,by rw[aS,sizeLine_eq];omega,?_⟩⟩;refine ZN.fin (f:=⟨q,(n:Int)+i,ru,Str.ofString "nobody", ad,true⟩) (ws2:=ws') rl rm lm (λb o n1 n2 h=>by rw[ae (bf h hr0)];exact s2 _ _ (s1 _ _ (off b o n1 n2 h))) aJ (by rw[ae rl.symm];exact hl2) hm3 (λg hg=>?_) hq rfl ?_
    ·show upd _ r _ g.a=some _;rw[ae (aR (s2 _ _ (s1 _ _ (fa g hg))) (s2 _ _ hr1) (by intro z;cases z))];exact s2 _ _ (s1 _ _ (fa g hg))
    ·have:=fi.put hi' (x:=wd) (y:=wd/65536*65536+nu%65536) (f:=⟨q,(n:Int)+i,ru,Str.ofString "nobody", ad,true⟩) ⟨hwm.1,hwm.2.1⟩ (PZ hwm) rfl hisR rfl (by show(n:Int)+i=_;omega) hfi;rw[Ml e2]at this;exact this
   ·refine dR ?_;walk_at "rd";refine⟨_,aI.of ha1,_,hc,c,rfl,by decide,?_⟩;rw[if_neg h3];refine dR ?_;walk_at "rd";refine⟨_,aI.of ha1,_,hc,c,rfl,by decide,?_⟩;rw[if_neg h3];exact⟨ws',run,fs,λb o n1 n2 h=>s1 _ _ (off b o n1 n2 h),hr1,hl1,hm1,λg hg=>s1 _ _ (fa g hg),fi.skip⟩
  ·rintro σ H' ⟨_,_,_,_,rfl,ws',run,fs,off,hR,hL,hM,fa,fi⟩;walk_at "rd";refine k r ws' run fs H' off hr0 hR hL hM fa fi.l1 ⟨by rw[fi.l2,fi.l1],fi.Py,fi.ok,λf hf=>?_,fi.no,by rw[fi.l1];have:=fi.gq;omega⟩;obtain⟨a1,b1,c1,j,d1,e1,k1⟩:=fi.fl f hf;exact⟨a1,b1,c1,j,d1,by rw[fi.l1];omega,k1⟩
theorem Si(T:Txt K mg A):aG P w K mg base bP 9 A.Xg A.uQ ["_law_machine"] (Lg A):=by
 refine T.CG.ok qJ (λvs H Q E h=>?_) (λcdv Ar outer s H vs Q E hr h=>?_)
 ·obtain⟨M,km,ks,z,i,o,rs,ts,kd,rfl,r,hn,k⟩:=h;rfl
 ·obtain⟨M,km,ks,z,i,o,rs,ts,kd,rfl,r,hn,k⟩:=h;refine⟨_,(aE (pS 1 qJ.nd f9) (aE (G2 (K:=K) rfl rfl rfl (i:=2) qJ.nd rfl rfl rfl T.MD (KP (HL (Gm (pv 0) T.aC T.sD (Nh T) (hr.mono (by decide)) T.z9 .nil ))) (λ_=>(aF (pS 1 qJ.nd (pv 2))))) (aE (ay (PW.pt (eT (dB ny (pv 1) f9 (ar _)) (eT (aW (cX (gF (K:=K) rfl) (by rfl) T.aB ia (ah (pv 1) (ah (eB (v:=.ref A.wU) rfl T.DV rfl) aa)))) (eE (aW (cX (gF (K:=K) rfl) (by rfl) T.aB ia (ah (pv 1) (ah (eB (v:=.ref A.CY) rfl T.JH rfl) aa)))))))) (aF (aj bw)) cN) (aF (aj (fA (cX (gF (K:=K) rfl) (by rfl) T.aB ia (ah (pv 1) (ah (eB (v:=.ref A.cG) rfl T.tP rfl) aa))) (h8 (cX (gF (K:=K) rfl) (by rfl) T.aB ia (ah (pv 1) (ah (cV rfl T.dJ oY nM) aa)))))))))),?_⟩;walk_at "rd";have xc:Au K A.cG:=⟨T.AW,T.BF,T.Br,T.J9,T.NS,T.A6,T.A5⟩
  refine⟨_,_,r.o_.top,rfl,M,rfl,_,_,_,_,_,_,_,_,_,r,.inr (.inl ⟨rfl,hn,λH' sm=>⟨_,rfl,⟨T.BR,T.B8,T.Ip⟩,.inl rfl,λx hx=>?_⟩⟩)⟩;have ty:TyX K (upd H' x (XO x A.cG none)) (V.ref x) (.ref A.cG):=.inr ⟨x,_,none,rfl,rfl,aJ,.inl rfl,xc⟩;rw[if_neg (by decide)];exact⟨rfl,_,ty,_,T.VX,oh ⟨rfl,_,ty,_,T.Tj,oh ⟨rfl,_,ty,_,T.Tw,Qs ⟨rfl,_,ty,_,T.U9,k _ (sm.trans (bo hx))⟩⟩⟩⟩
theorem Y2(T:Txt K mg A):aG P w K mg base bP 4 A.XX A.vI ["_law_machine", "_law_held_here"] (OG A.aH):=by
 refine T.DX.ok KN (λvs H Q E h=>?_) (λcdv Ar outer s H vs Q E hr h=>?_)
 ·obtain⟨M,l,hs,km,ks,z,i,o,rs,ts,rfl,r,l8,tl,hl,hh,k⟩:=h;rfl
 ·obtain⟨M,l,hs,km,ks,z,i,o,rs,ts,rfl,r,l8,tl,hl,hh,k⟩:=h;refine⟨_,(aE (pS 2 KN.nd (dC (pv 0) T.aC T.oF (FJ T) (hr.mono (by decide)) T.pE .nil ck )) (aE (bx (f_ (pv 1) (ah (a_ (ah (pv 2) (ah (a_ (ah (tx K (pv 2)) (ah (jP (yY (K:=K) rfl) (by rfl) T.cZ de (ah (tx K (pv 2)) aa)) (ah (jP (yY (K:=K) rfl) (by rfl) T.cZ de (ah (tx K (pv 2)) aa)) (ah (tx K (pv 2)) aa))))) aa))) aa))) (aF (aj (pv 2))))),?_⟩;walk_at "rd";refine⟨_,_,r.top,rfl,M,rfl,_,_,_,_,_,_,_,_,r,l8,tl,λt q lr ln H1 s1 st n1 n2=>?_⟩;have hl1:=s1 _ _ hl;refine⟨.inl ⟨rfl,_,aI.of hl1⟩,_,bB.of st.top,_,rfl,_,bB.of st.top,_,rfl,_,rfl,_,.inl (aI.of st.fL),λm1 hm1=>?_⟩;have u1:=bo (o:=HO.lst (rs.map V.int)) hm1;refine⟨_,bB.of (u1 _ _ st.top),_,rfl,_,rfl,_,.inl (aI.of (u1 _ _ st.gT)),λm2 hm2=>?_⟩;have u2:=bo (o:=HO.lst (ts.map V.int)) hm2;refine⟨_,bB.of (u2 _ _ (u1 _ _ st.top)),_,rfl,by decide,λp hp=>⟨by decide,λc hc=>?_⟩⟩;have u3:=bo (o:=HO.tup [V.ref q,V.ref m1,V.ref m2,V.bl false]) hp;have u4:=bo (o:=HO.tup [V.ref t,V.ref p]) hc;have u:=u1.trans (u2.trans (u3.trans u4));have hl5:=u _ _ hl1;refine⟨_,hl5,by rw[aS,sizeLine_eq];omega,?_⟩;have m1n:H m1=none:=cU s1 hm1;have m2n:H m2=none:=cU s1 (cU u1 hm2)
  have h1:upd (upd (upd (upd H1 m1 (HO.lst (rs.map V.int))) m2 (HO.lst (ts.map V.int))) p (HO.tup [V.ref q,V.ref m1,V.ref m2,V.bl false])) c (HO.tup [V.ref t,V.ref p]) m1=some (HO.lst (rs.map V.int)):=u4 _ _ (u3 _ _ (u2 _ _ aJ));have h2:upd (upd (upd (upd H1 m1 (HO.lst (rs.map V.int))) m2 (HO.lst (ts.map V.int))) p (HO.tup [V.ref q,V.ref m1,V.ref m2,V.bl false])) c (HO.tup [V.ref t,V.ref p]) m2=some (HO.lst (ts.map V.int)):=u4 _ _ (u3 _ _ aJ);have h3:upd (upd (upd (upd H1 m1 (HO.lst (rs.map V.int))) m2 (HO.lst (ts.map V.int))) p (HO.tup [V.ref q,V.ref m1,V.ref m2,V.bl false])) c (HO.tup [V.ref t,V.ref p]) p=some (HO.tup [V.ref q,V.ref m1,V.ref m2,V.bl false]):=u4 _ _ aJ;have h4:upd (upd (upd (upd H1 m1 (HO.lst (rs.map V.int))) m2 (HO.lst (ts.map V.int))) p (HO.tup [V.ref q,V.ref m1,V.ref m2,V.bl false])) c (HO.tup [V.ref t,V.ref p]) c=some (HO.tup [V.ref t,V.ref p]):=aJ;generalize upd (upd (upd (upd H1 m1 (HO.lst (rs.map V.int))) m2 (HO.lst (ts.map V.int))) p (HO.tup [V.ref q,V.ref m1,V.ref m2,V.bl false])) c (HO.tup [V.ref t,V.ref p])=H5 at *;have st5:VI H5 t q lr ln z i o rs ts false:=⟨u _ _ st.top,u _ _ st.pl,u _ _ st.fL,u _ _ st.gT⟩
  have ne {b:Addr}{u:HO}(h:b≠l) (e:H5 b=some u):upd H5 l (HO.lst (hs.map (λh=>V.ref h.t)++[V.ref c])) b=some u:=by rw[ae h];exact e
  have nt {b:Addr}{xs:List V}(e:H5 b=some (.tup xs)):b≠l:=aR e hl5 (by intro z;cases z);have nn {b:Addr}(e:H b=none):b≠l:=Ne.symm (bf hl e);refine k ⟨c,t,p,q,lr,ln,m1,m2,z,i,o,rs,ts⟩ _ (λb o hb h=>ne hb (u _ _ (s1 _ _ h))) (by rw[aJ,eA];rfl) ⟨ne (nt h4) h4,⟨ne (nt st5.top) st5.top,ne (nt st5.pl) st5.pl,ne (nn n1) st5.fL,ne (nn n2) st5.gT⟩,ne (nt h3) h3,ne (nn m1n) h1,ne (nn m2n) h2⟩ rfl rfl rfl rfl rfl n1 n2 m1n m2n
theorem Q9{op a b w:Int}(ha:0<=a/\a<=4294967295)(hb:0<=b/\b<=4294967295):0<=iq op a b w/\iq op a b w<=4294967295:=by
 obtain⟨x,rfl⟩:∃c:Nat,a=c:=⟨a.toNat,by omega⟩
 obtain⟨y,rfl⟩:∃d:Nat,b=d:=⟨b.toNat,by omega⟩
 have h1:x &&& y<2 ^ 32:=Nat.and_lt_two_pow (n:=32) x (by omega);have h2:x ^^^ y<2 ^ 32:=Nat.xor_lt_two_pow (n:=32) (by omega) (by omega);unfold iq;rw[and_int,xor_int (by omega) (by omega)];have h3:0<=jD x y/\jD x y<=4294967295:=by unfold jD;omega
 repeat' split
 all_goals omega
structure YR(A:Ad)(H0 H:Hp)(M:NO)(km ks:List (List Key×V))(n i:Nat)(rw tl hl tp:Addr)(rs ts:List Int)(hs:List HD):Prop where
 rn:fz A.aH H { M with tp:=tp } km ks bZ 1 ((n+i:Nat):Int) rs ts false oy
 row:H rw=some (.lst (rs.map V.int))
 gT:H tl=some (.lst (ts.map V.int))
 hld:H hl=some (.lst (hs.map λh=>V.ref h.t))
 has:∀h∈hs,h.At H/\∀b∈[M.lr,M.ln,rw,tl,hl],h.lr≠b/\h.ln≠b/\h.mr≠b/\h.mn≠b
 len:hs.length<=i
 tsl:ts.length<=i
 off:∀b o,H0 b=some o->b≠M.x->b≠M.lr->b≠M.ln->b≠rw->b≠hl->H b=some o
theorem HD.At.keep{H H':Hp}{h:HD}(a:h.At H)(ht:∀b xs,H b=some (.tup xs)->H' b=some (.tup xs))(hl:∀b xs,(b=h.lr\/b=h.ln\/b=h.mr\/b=h.mn)->H b=some (.lst xs)->H' b=some (.lst xs)):h.At H':=
 ⟨ht _ _ a.top,⟨ht _ _ a.one.top,ht _ _ a.one.pl,hl _ _ (.inl rfl) a.one.fL,hl _ _ (.inr (.inl rfl)) a.one.gT⟩,ht _ _ a.two,hl _ _ (.inr (.inr (.inl rfl))) a.mr_,hl _ _ (.inr (.inr (.inr rfl))) a.mn_⟩
theorem dr.kd{C:Addr}{H H':Hp}{M M':NO}{km ks:List (List Key×V)}{z:Str}{i o o':Int}{rs rs' ts ts':List Int}{en en':Bool}{kd:Str}(n:dr C H' M' km ks z i o' rs' ts' en')(r:fz C H M km ks z i o rs ts en kd)(ht:∀b xs,H b=some (.tup xs)->H' b=some (.tup xs))(h1:rs'.length=8)(h2:Words rs')(h3:ts'.length<=1000):fz C H' M' km ks z i o' rs' ts' en' kd:=
 ⟨n,by obtain⟨t,m,h1,h2⟩:=r.kd;exact⟨t,m,h1,ht _ _ h2⟩,h1,h2,h3,r.mw⟩
theorem OI{A:Ad}{H0 H2 H3:Hp}{M:NO}{km ks:List (List Key×V)}{n i:Nat}{rw tl hl tp p:Addr}{rs ts:List Int}{hs:List HD}{h:HD}(nd1:M.lr≠hl)(nd2:M.ln≠hl)(nd3:rw≠hl)(nd4:tl≠hl)(wk:YR A H0 H2 M km ks n (i+1) rw tl hl tp rs ts hs)(hle:hs.length<=i)(hts:ts.length<=1000)
  (off:∀b o,b≠hl->H2 b=some o->H3 b=some o) (hh:H3 hl=some (.lst ((hs++[h]).map λh=>V.ref h.t))) (hat:h.At H3) (ez:h.z=bZ) (es:h.s=1) (eo:h.o=((n+(i+1):Nat):Int)) (er:h.rs=rs) (et:h.ts=ts) (n1:H2 h.lr=none) (n2:H2 h.ln=none) (n3:H2 h.mr=none) (n4:H2 h.mn=none) (hp:H3 p=none):
  ∃(q lr ln:Addr) (z:Str) (s o:Int) (rs2 ts2:List Int),VI (upd H3 p (HO.tup [V.str (Str.ofString "at"),V.str (Str.ofString "pad"),V.int 1,V.int (((n+i:Nat):Int)+1)])) h.a q lr ln z s o rs2 ts2 false/\upd H3 p (HO.tup [V.str (Str.ofString "at"),V.str (Str.ofString "pad"),V.int 1,V.int (((n+i:Nat):Int)+1)]) p=some (atT z s o)/\upd H3 p (HO.tup [V.str (Str.ofString "at"),V.str (Str.ofString "pad"),V.int 1,V.int (((n+i:Nat):Int)+1)]) rw=some (HO.lst (rs2.map V.int))/\upd H3 p (HO.tup [V.str (Str.ofString "at"),V.str (Str.ofString "pad"),V.int 1,V.int (((n+i:Nat):Int)+1)]) tl=some (HO.lst (ts2.map V.int))/\rs2.length<=1000/\ts2.length<=1000/\((n+i:Nat):Int)+1=((n+(i+1):Nat):Int)/\∃(tp':Addr) (rs' ts':List Int) (hs':List HD),YR A H0 (upd H3 p (HO.tup [V.str (Str.ofString "at"),V.str (Str.ofString "pad"),V.int 1,V.int (((n+i:Nat):Int)+1)])) M km ks n (i+1) rw tl hl tp' rs' ts' hs':=by
 have e:((n+i:Nat):Int)+1=((n+(i+1):Nat):Int):=by omega
 rw[e];have s:=bo (o:=HO.tup [V.str (Str.ofString "at"),V.str (Str.ofString "pad"),V.int 1,V.int ((n+(i+1):Nat):Int)]) hp;have k3' {b:Addr}{o:HO}(nb:b≠hl) (h:H2 b=some o):upd H3 p (HO.tup [V.str (Str.ofString "at"),V.str (Str.ofString "pad"),V.int 1,V.int ((n+(i+1):Nat):Int)]) b=some o:=s _ _ (off b o nb h);have nl {b:Addr}{o:HO}(h:H2 b=some o) (no:∀xs,o≠.lst xs):b≠hl:=aR h wk.hld (no _);have rn:=wk.rn;have no4:dr A.aH (upd H3 p (HO.tup [V.str (Str.ofString "at"),V.str (Str.ofString "pad"),V.int 1,V.int ((n+(i+1):Nat):Int)])) { M with tp:=tp } km ks bZ 1 ((n+(i+1):Nat):Int) rs ts false:=
  ⟨k3' (nl rn.o_.top (by intro _ z;cases z)) rn.o_.top,k3' (nl rn.o_.mem (by intro _ z;cases z)) rn.o_.mem,k3' (nl rn.o_.str (by intro _ z;cases z)) rn.o_.str,k3' (nl rn.o_.pl (by intro _ z;cases z)) rn.o_.pl,k3' nd1 rn.o_.fL,k3' nd2 rn.o_.gT,rn.o_.nd⟩
 have rn4:=no4.kd rn (λb xs h=>k3' (nl h (by intro _ z;cases z)) h) rn.len rn.ws rn.tl;refine⟨h.q,h.lr,h.ln,bZ,1,_,rs,ts,?_,aJ,k3' nd3 wk.row,k3' nd4 wk.gT,by rw[rn.len];decide,hts,rfl,tp,rs,ts,hs++[h],rn4,k3' nd3 wk.row,k3' nd4 wk.gT,s _ _ hh,λg hg=>?_,by rw[ij];simp;omega,wk.tsl,λb o hb h1 h2 h3 h4 h5=>k3' h5 (wk.off b o hb h1 h2 h3 h4 h5)⟩
 ·have a:=hat.one;rw[ez,es,eo,er,et]at a;exact⟨s _ _ a.top,s _ _ a.pl,s _ _ a.fL,s _ _ a.gT⟩
 ·rcases fY.mp hg with z|z
  ·obtain⟨ga,gb⟩:=wk.has g z;refine⟨ga.keep (λb xs h=>k3' (nl h (by intro _ z;cases z)) h) (λb xs hb h=>k3' ?_ h),gb⟩;have:=gb hl (by simp);rcases hb with rfl|rfl|rfl|rfl
   ·exact this.1
   ·exact this.2.1
   ·exact this.2.2.1
   ·exact this.2.2.2
  ·rw[fN.mp z];refine⟨hat.keep (λb xs h=>s _ _ h) (λb xs _ h=>s _ _ h),λb hb=>?_⟩;have hbs:∃o,H2 b=some o:=by
    simp only[List.mem_cons,List.not_mem_nil,or_false]at hb;rcases hb with rfl|rfl|rfl|rfl|rfl
    ·exact⟨_,rn.o_.fL⟩
    ·exact⟨_,rn.o_.gT⟩
    ·exact⟨_,wk.row⟩
    ·exact⟨_,wk.gT⟩
    ·exact⟨_,wk.hld⟩
   obtain⟨o,ho⟩:=hbs;exact⟨Ne.symm (bf ho n1),Ne.symm (bf ho n2),Ne.symm (bf ho n3),Ne.symm (bf ho n4)⟩
theorem ZA(T:Txt K mg A):aG P w K mg base bP 10 A.YV A.yl ["_law_machine", "_law_words", "_law_at", "_law_row", "_law_held_here"] (BV A):=by
 refine T.Fz.ok eJ (λvs H Q E h=>?_) (λcdv Ar outer s H vs Q E hr h=>?_)
 ·obtain⟨M,wl,rw,hl,n,km,ks,run,rs,rfl,r,hw,hrw,hh,nd,h62,h3,ok,mem,k⟩:=h;rfl
 ·obtain⟨M,wl,rw,hl,n,km,ks,run,rs,rfl,r,hw,hrw,hh,nd,h62,h3,ok,mem,k⟩:=h
  refine⟨_,(aE (pS 5 eJ.nd (bS aa)) (aE (pF (eN (K:=K) rfl (pv 1)) (pn 6 eJ.nd) (aE (pS 7 eJ.nd (dC (pv 0) T.aC T.sD (Nh T) (hr.mono (by decide)) T.z9 .nil Iq )) (aE (ay (dB zk (pv 7) bw (ar _)) (aF (aj bw)) cN) (e8 (aE (pS 8 eJ.nd (ao cI (pv 6) af)) (aE (pS 9 eJ.nd (ao bg (ao cI (pv 6) af) af)) (aE (ay (dB aY (pv 8) af (ar _)) (aE (pS 10 eJ.nd (a_ (ah au (ah au (ah af (ah (pv 2) aa)))))) (e8 (aE (pF (cA rfl T.cJ (ah af aa)) (pn 11 eJ.nd) (aF (ay (PW.pt (eT (b_ (aW (pC (EU T) hr T.zh T.p_ T.pB (ah (dC (pv 0) T.aC T.oF (FJ T) (hr.mono (by decide)) T.pE .nil ck ) (ah (pv 10) (ah (pv 3) (ah (pv 5) (ah bw aa)))))))) (eE (dB zk (dC (pv 0) T.aC T.sD (Nh T) (hr.mono (by decide)) T.z9 .nil Iq ) bw (ar _))))) (aF (aj bw)) cN))) (aF (aj bw))))) cN) (aE (ay (dB aY (pv 8) af (ar _)) (aF (bx (f_ (pv 5) (ah (bO (dG (K:=K) rfl) (pv 3) (pv 9) (λ_ _=>rfl)) aa)))) (aF (qC (pC (YB T) hr T.Rz T.Ll T.Nt (ah (pv 8) (ah (bO (dG (K:=K) rfl) (pv 3) (ao bg (ao cI (pv 6) af) af) (λ_ _=>rfl)) (ah (bO (dG (K:=K) rfl) (pv 3) (ao bg (ao cI (pv 6) af) af) (λ_ _=>rfl)) (ah (ao bg (pv 6) af) aa))))) (xE (pv 3) (pv 9) set_list)))) (e8 (aE (pS 2 eJ.nd (ao b0 (pv 2) af)) (aF (ay (b_ (aW (pC (EU T) hr T.zh T.p_ T.pB (ah (pC (Y2 T) hr T.SW T.Pc T.Jt (ah (pv 0) (ah (pv 4) aa))) (ah (a_ (ah au (ah au (ah af (ah (pv 2) aa))))) (ah (pv 3) (ah (pv 5) (ah bw aa)))))))) (aF (aj bw)) cN)))))))))))) (e8 (aE (pF (cA rfl T.cJ (ah af aa)) (pn 11 eJ.nd) (aF (ay (PW.pt (eT (b_ (aW (pC (Si T) hr T.MK T.DJ T.EH (ah (pv 0) aa)))) (eE (b_ (aW (pC (EU T) hr T.zh T.p_ T.pB (ah (dC (pv 0) T.aC T.oF (FJ T) (hr.mono (by decide)) T.pE .nil ck ) (ah (a_ (ah au (ah au (ah af (ah (pv 2) aa))))) (ah (pv 3) (ah (pv 5) (ah bw aa))))))))))) (aF (aj bw)) cN))) (aF (aj bw)))))),?_⟩
  walk_at "rd";refine⟨i8 _,λtl htl=>?_⟩;have s0:=bo (o:=HO.lst []) htl;have r0:=r.mono s0;obtain⟨nA,nB,nC,nD,nK,nF,nG,nH',nI,nJ⟩:M.lr≠M.ln/\M.lr≠wl/\M.lr≠rw/\M.lr≠hl/\M.ln≠wl/\M.ln≠rw/\M.ln≠hl/\wl≠rw/\wl≠hl/\rw≠hl:=by
   simp only[List.nodup_cons,List.mem_cons,List.not_mem_nil,or_false,not_or,List.nodup_nil,and_true,not_false_eq_true]at nd;exact⟨nd.1.1,nd.1.2.1,nd.1.2.2.1,nd.1.2.2.2,nd.2.1.1,nd.2.1.2.1,nd.2.1.2.2,nd.2.2.1.1,nd.2.2.1.2,nd.2.2.2⟩
  have tA:tl≠M.lr:=Ne.symm (bf r.o_.fL htl);have tX:tl≠M.ln:=Ne.symm (bf r.o_.gT htl);have tC':tl≠rw:=Ne.symm (bf hrw htl);have tD:tl≠hl:=Ne.symm (bf hh htl);refine h_.of (xs:=run.map V.int) (λi σ H'=>∃c6 c7 c8 c9 c10 c11 tp rs' ts' hs,σ=[some (V.ref M.x),some (V.ref wl),some (V.int ((n+i:Nat):Int)),some (V.ref rw),some (V.ref hl),some (V.ref tl),c6,c7,c8,c9,c10,c11]/\YR A H H' M km ks n i rw tl hl tp rs' ts' hs)
   ⟨_,_,_,_,_,_,M.tp,rs,[],[],rfl,⟨r0,s0 _ _ hrw,aJ,s0 _ _ hh,(λh hh=>by cases hh),bA _,bA _,λb o h _ _ _ _ _=>s0 _ _ h⟩⟩
   (λi σ H' _ ⟨_,_,_,_,_,_,_,_,_,_,_,wk⟩=>aI.of (wk.off _ _ hw (aR hw r.o_.top (by intro z;cases z)) nB.symm nK.symm nH' nI)) ?_ ?_
  ·rintro i v σ H' hv ⟨_,_,_,_,_,_,tp,rs',ts',hs,rfl,wk⟩;walk_at "3";obtain⟨c,hc,rfl⟩:=iw.mp hv;have hcm:=ok c (i7 hc);have hil:i<run.length:=(o6.mp hc).1;walk_at "rd";have eop:c/268435456=cu c:=by unfold cu;omega
   have vm:aO km (k3 bZ 1 ((n+i:Nat):Int))=some (V.int c):=by rw[mem,hc];rfl
   refine⟨_,_,wk.rn.o_.top,rfl,{ M with tp:=tp },rfl,_,_,_,_,_,_,_,_,_,wk.rn,.inr (.inr ⟨rfl,rfl,c,vm,hcm.2.2,λtp1 H1 nm1 off1=>?_⟩)⟩;have off1:∀b o,H' b=some o->b≠M.x->b≠M.lr->b≠M.ln->H1 b=some o:=off1;have nx {b:Addr}{o:HO}(h:H' b=some o) (no:∀x y z,o≠.ins x y z):b≠M.x:=aR h wk.rn.o_.top (no _ _ _);have lx {b:Addr}{xs:List V}(h:H' b=some (.lst xs)) (n1:b≠M.lr) (n2:b≠M.ln):H1 b=some (.lst xs):=off1 _ _ h (nx h (by intro _ _ _ z;cases z)) n1 n2;have row1:=lx wk.row nC.symm nF.symm;have tol1:=lx wk.gT tA tX;have hld1:=lx wk.hld nD.symm nG.symm;have tup1 (b:Addr) (xs:List V) (h:H' b=some (.tup xs)):H1 b=some (.tup xs):=off1 _ _ h (nx h (by intro _ _ _ z;cases z)) (aR h wk.rn.o_.fL (by intro z;cases z)) (aR h wk.rn.o_.gT (by intro z;cases z));have has1:∀h∈hs,h.At H1:=λh hm=>(wk.has h hm).1.keep tup1 λb xs hb e=>lx e (by
    have:=(wk.has h hm).2 M.lr (by simp);rcases hb with rfl|rfl|rfl|rfl
    ·exact this.1
    ·exact this.2.1
    ·exact this.2.2.1
    ·exact this.2.2.2) (by
    have:=(wk.has h hm).2 M.ln (by simp);rcases hb with rfl|rfl|rfl|rfl
    ·exact this.1
    ·exact this.2.1
    ·exact this.2.2.1
    ·exact this.2.2.2)
   have offA:∀b o,H b=some o->b≠M.x->b≠M.lr->b≠M.ln->b≠rw->b≠hl->H1 b=some o:=λb o h h1 h2 h3 h4 h5=>off1 b o (wk.off b o h h1 h2 h3 h4 h5) h1 h2 h3;have l8:=wk.rn.len;have tsb:=wk.tsl;obtain⟨va,hva,ea,hvm⟩:=dk (rs:=rs') (i:=c/33554432%8) (by omega) (by rw[l8];omega);obtain⟨vb,hvb,eb,hbm⟩:=dk (rs:=rs') (i:=c/4194304%8) (by omega) (by rw[l8];omega);obtain⟨vc,hvc,ec,hcm2⟩:=dk (rs:=rs') (i:=c/524288%8) (by omega) (by rw[l8];omega);have wb:=wk.rn.ws vb hbm;have wc:=wk.rn.ws vc hcm2;show(if (true != true)=true then _ else _);rw[if_neg (by decide)];refine dR ?_;walk_at "rd";rw[eop];refine⟨⟨by decide,by decide⟩,⟨by decide,by decide⟩,by decide,bN (λh0=>?_) (λh0=>bN (λh1=>?_) (λh1=>?_))⟩
   ·have h0:=of_decide_eq_true h0;refine⟨by decide,λp hp=>?_⟩;have e2:nR rs' c=rs':=by unfold nR;rw[if_pos (.inl h0)]
    have e3:nT rs' ts' c=ts':=by unfold nT;rw[if_neg (by rw[h0];decide)]
    have e4:nE c=true:=by unfold nE;rw[h0];rfl
    have e5:nO ((n+i:Nat):Int) c=((n+i:Nat):Int):=by unfold nO;rw[if_pos h0]
    rw[e2,e3,e4,e5]at nm1;have rn1:=nm1.kd wk.rn tup1 l8 wk.rn.ws wk.rn.tl;have sp:=bo (o:=HO.tup [V.str (Str.ofString "at"),V.str (Str.ofString "pad"),V.int 1,V.int ((n+i:Nat):Int)]) hp;refine dR ?_;walk_at "rd";refine pd.of (by decide) (by decide) (λj σ H2=>∃c11,σ=[some (V.ref M.x),some (V.ref wl),some (V.int ((n+i:Nat):Int)),some (V.ref rw),some (V.ref hl),some (V.ref tl),some (V.int c),some (V.bl true),some (V.int (cu c)),some (V.int (c/33554432%8)),some (V.ref p),c11]/\aL (upd H1 p (HO.tup [V.str (Str.ofString "at"),V.str (Str.ofString "pad"),V.int 1,V.int ((n+i:Nat):Int)])) H2) ⟨_,rfl,λ_ _ h=>h⟩ ?_ ?_
    ·rintro j σ H2 hj ⟨c11,rfl,s2⟩;have s12:=sp.trans s2;have rn2:=rn1.mono s12;walk_at "rd";refine⟨_,_,rn2.o_.top,rfl,{ M with tp:=tp1 },rfl,_,_,_,_,_,_,_,_,rn2.o_,l8,wk.rn.tl,λt q lr ln H3 s3 st n1 n2=>?_⟩;have s13:=s12.trans s3;have rn3:=rn2.mono s3;refine⟨_,_,_,_,_,_,_,_,st,s3 _ _ (s2 _ _ aJ),s13 _ _ row1,s13 _ _ tol1,by rw[l8];decide,wk.rn.tl,_,_,rn3.o_.top,rfl,{ M with tp:=tp1 },rfl,_,_,_,_,_,_,_,_,_,rn3,.inl ⟨rfl,?_⟩⟩;exact oh (s2.trans s3)
    ·rintro σ H2 ⟨c11,rfl,s2⟩;have s12:=sp.trans s2;walk_at "rd";exact k hs H2 (λb o h h1 h2 h3 h4 h5=>s12 _ _ (offA b o h h1 h2 h3 h4 h5)) (s12 _ _ hld1) (λh hm=>(has1 h hm).keep (λ_ _ h=>s12 _ _ h) (λ_ _ _ h=>s12 _ _ h)) (by have:=wk.len;omega)
   ·have h1:=of_decide_eq_true h1;have e2:nR rs' c=rs':=by unfold nR;rw[if_pos (.inr h1)]
    have e3:nT rs' ts' c=ts'++[va]:=by unfold nT;rw[if_pos h1,<-ea];rfl
    have e4:nE c=false:=by unfold nE;rw[h1];rfl
    have e5:nO ((n+i:Nat):Int) c=((n+(i+1):Nat):Int):=by unfold nO;rw[if_neg (by rw[h1];decide)];omega
    rw[e2,e3,e4,e5]at nm1;have rn1:=nm1.kd wk.rn tup1 l8 wk.rn.ws (by rw[ij];simp;omega);refine⟨.inl ⟨rfl,_,aI.of tol1⟩,_,aI.of row1,_,hva,_,tol1,by rw[aS,sizeLine_eq];omega,?_⟩;rw[show ts'.map V.int++[V.int va]=(ts'++[va]).map V.int from by simp];have nt {b:Addr}{o:HO}(nb:b≠tl) (h:H1 b=some o):upd H1 tl (HO.lst ((ts'++[va]).map V.int)) b=some o:=by rw[ae nb];exact h
    have ntl {b:Addr}{o:HO}(h:H1 b=some o) (no:∀xs,o≠.lst xs):b≠tl:=aR h tol1 (no _);have nm2:dr A.aH (upd H1 tl (HO.lst ((ts'++[va]).map V.int))) { M with tp:=tp1 } km ks bZ 1 ((n+(i+1):Nat):Int) rs' (ts'++[va]) false:=
     ⟨nt (ntl nm1.top (by intro _ z;cases z)) nm1.top,nt (ntl nm1.mem (by intro _ z;cases z)) nm1.mem,nt (ntl nm1.str (by intro _ z;cases z)) nm1.str,nt (ntl nm1.pl (by intro _ z;cases z)) nm1.pl,nt tA.symm nm1.fL,nt tX.symm nm1.gT,nm1.nd⟩
    have wk2:YR A H (upd H1 tl (HO.lst ((ts'++[va]).map V.int))) M km ks n (i+1) rw tl hl tp1 rs' (ts'++[va]) hs:=by
     refine⟨nm2.kd rn1 (λb xs h=>nt (ntl h (by intro _ z;cases z)) h) l8 wk.rn.ws rn1.tl,nt tC'.symm row1,aJ,nt tD.symm hld1,λh hm=>⟨(has1 h hm).keep (λb xs h=>nt (ntl h (by intro _ z;cases z)) h) λb xs hb e=>nt ?_ e,(wk.has h hm).2⟩,by have:=wk.len;omega,by rw[ij];simp;omega,λb o h h1 h2 h3 h4 h5=>nt (bf h htl) (offA b o h h1 h2 h3 h4 h5)⟩;have:=(wk.has h hm).2 tl (by simp);rcases hb with rfl|rfl|rfl|rfl
     ·exact this.1
     ·exact this.2.1
     ·exact this.2.2.1
     ·exact this.2.2.2
    refine dR ?_;walk_at "rd";exact⟨{ M with tp:=tp1 },rfl,hs,km,ks,bZ,1,_,rs',ts'++[va],nm2,l8,rn1.tl,nt tD.symm hld1,by have:=wk.len;omega,λh H3 off3 hl3 hat ez es eo er et n1 n2 n3 n4=>⟨by decide,λp hp=>OI nD nG nJ tD wk2 wk.len rn1.tl off3 hl3 hat ez es eo er et n1 n2 n3 n4 hp⟩⟩
   ·have h0:cu c≠0:=λz=>h0 (decide_eq_true z);have h1:cu c≠1:=λz=>h1 (decide_eq_true z);have hop:xI (cu c):=by rcases hcm.2.2 with z|z|z;exact absurd z h0;exact absurd z h1;exact z
    generalize hdu:iq (cu c) vb vc c=du;have hdr:0<=du/\du<=4294967295:=by rw[<-hdu];exact Q9 wb wc
    have e2:nR rs' c=rs'.set (eI c 33554432) du:=by
     unfold nR;rw[if_neg (by omega),<-hdu,<-eb,<-ec];rfl
    have e3:nT rs' ts' c=ts':=by unfold nT;rw[if_neg h1]
    have e4:nE c=false:=by unfold nE;exact decide_eq_false h0
    have e5:nO ((n+i:Nat):Int) c=((n+(i+1):Nat):Int):=by unfold nO;rw[if_neg h0];omega
    rw[e2,e3,e4,e5]at nm1;have l82:(rs'.set (eI c 33554432) du).length=8:=by rw[List.length_set];exact l8
    have ws2:Words (rs'.set (eI c 33554432) du):=λx hx=>by
     rcases List.mem_or_eq_of_mem_set hx with z|z
     ·exact wk.rn.ws x z
     ·rw[z];exact hdr
    have rn1:=nm1.kd wk.rn tup1 l82 ws2 wk.rn.tl;have hix:CV (rs'.map V.int).length (c/33554432%8)=some (eI c 33554432):=by
     unfold CV eI;rw[if_pos (by omega),if_pos (by rw[aS];omega)]
    refine⟨⟨by decide,by decide⟩,by decide,_,aI.of row1,_,hvb,⟨by decide,by decide⟩,by decide,_,aI.of row1,_,hvc,by decide,c,rfl,vb,rfl,vc,rfl,rfl,hop,hcm.1,wb.1,wb.2,wc.1,wc.2,_,row1,_,hix,?_⟩;rw[hdu,<-List.map_set];generalize hRS:rs'.set (eI c 33554432) du=rs2 at *;have nt {b:Addr}{o:HO}(nb:b≠rw) (h:H1 b=some o):upd H1 rw (HO.lst (rs2.map V.int)) b=some o:=by rw[ae nb];exact h
    have ntl {b:Addr}{o:HO}(h:H1 b=some o) (no:∀xs,o≠.lst xs):b≠rw:=aR h row1 (no _);have nm2:dr A.aH (upd H1 rw (HO.lst (rs2.map V.int))) { M with tp:=tp1 } km ks bZ 1 ((n+(i+1):Nat):Int) rs2 ts' false:=
     ⟨nt (ntl nm1.top (by intro _ z;cases z)) nm1.top,nt (ntl nm1.mem (by intro _ z;cases z)) nm1.mem,nt (ntl nm1.str (by intro _ z;cases z)) nm1.str,nt (ntl nm1.pl (by intro _ z;cases z)) nm1.pl,nt nC nm1.fL,nt nF nm1.gT,nm1.nd⟩
    have wk2:YR A H (upd H1 rw (HO.lst (rs2.map V.int))) M km ks n (i+1) rw tl hl tp1 rs2 ts' hs:=by
     refine⟨nm2.kd rn1 (λb xs h=>nt (ntl h (by intro _ z;cases z)) h) l82 ws2 rn1.tl,aJ,nt tC' tol1,nt nJ.symm hld1,λh hm=>⟨(has1 h hm).keep (λb xs h=>nt (ntl h (by intro _ z;cases z)) h) λb xs hb e=>nt ?_ e,(wk.has h hm).2⟩,by have:=wk.len;omega,by omega,λb o h h1 h2 h3 h4 h5=>nt h4 (offA b o h h1 h2 h3 h4 h5)⟩;have:=(wk.has h hm).2 rw (by simp);rcases hb with rfl|rfl|rfl|rfl
     ·exact this.1
     ·exact this.2.1
     ·exact this.2.2.1
     ·exact this.2.2.2
    refine dR ?_;walk_at "rd";exact⟨{ M with tp:=tp1 },rfl,hs,km,ks,bZ,1,_,rs2,ts',nm2,l82,rn1.tl,nt nJ.symm hld1,by have:=wk.len;omega,λh H3 off3 hl3 hat ez es eo er et n1 n2 n3 n4=>⟨by decide,λp hp=>OI nD nG nJ tD wk2 wk.len rn1.tl off3 hl3 hat ez es eo er et n1 n2 n3 n4 hp⟩⟩
  ·rintro σ H' ⟨_,_,_,_,_,_,tp,rs',ts',hs,rfl,wk⟩;rw[aS]at wk ⊢;have vn:aO km (k3 bZ 1 ((n+run.length:Nat):Int))=none:=by rw[mem,List.getElem?_eq_none (bA _)];rfl
   refine dR ?_;walk_at "rd";refine pd.of (by decide) (by decide) (λj σ H2=>∃c6 c7 c8 c9 c10 c11,σ=[some (V.ref M.x),some (V.ref wl),some (V.int ((n+run.length:Nat):Int)),some (V.ref rw),some (V.ref hl),some (V.ref tl),c6,c7,c8,c9,c10,c11]/\aL H' H2) ⟨_,_,_,_,_,_,rfl,λ_ _ h=>h⟩ ?_ ?_
   ·rintro j σ H2 hj ⟨_,_,_,_,_,_,rfl,s2⟩;have rn2:=wk.rn.mono s2;walk_at "rd";refine⟨{ M with tp:=tp },rfl,_,_,_,_,_,_,_,_,rn2,.inl vn,λH3 s3=>?_⟩;have rn3:=rn2.mono s3;refine⟨_,_,rn3.o_.top,rfl,{ M with tp:=tp },rfl,_,_,_,_,_,_,_,_,rn3.o_,rn3.len,rn3.tl,λt q lr ln H4 s4 st n1 n2=>⟨by decide,λp hp=>?_⟩⟩;have s5:=bo (o:=HO.tup [V.str (Str.ofString "at"),V.str (Str.ofString "pad"),V.int 1,V.int ((n+run.length:Nat):Int)]) hp;have s25:=s2.trans (s3.trans (s4.trans s5));exact⟨_,_,_,_,_,_,_,_,⟨s5 _ _ st.top,s5 _ _ st.pl,s5 _ _ st.fL,s5 _ _ st.gT⟩,aJ,s25 _ _ wk.row,s25 _ _ wk.gT,by rw[rn2.len];decide,rn2.tl,s25⟩
   ·rintro σ H2 ⟨_,_,_,_,_,_,rfl,s2⟩;walk_at "rd";exact k hs H2 (λb o h h1 h2 h3 h4 h5=>s2 _ _ (wk.off b o h h1 h2 h3 h4 h5)) (s2 _ _ wk.hld) (λh hm=>(wk.has h hm).1.keep (λ_ _ h=>s2 _ _ h) (λ_ _ _ h=>s2 _ _ h)) (by have:=wk.len;omega)
theorem gC:∀(ws:List Int) (j:Nat) (k:List (List Key×V)),(∀i,i<ws.length->key≠k3 z n ((j+i:Nat):Int))->aO (bU z n ws j k) key=aO k key
 |[],_,_,_=>rfl
 |w::ws,j,k,h=>by
  show aO (bU z n ws (j+1) (putK k (k3 z n j) (.int w))) key=_;rw[gC ws (j+1) _ λi hi=>by
   have:=h (i+1) (by rw[pR];omega);rw[show j+1+i=j+(i+1) from by omega];exact this,dw,if_neg (show ¬key=k3 z n ((j:Nat):Int) from h 0 (by rw[pR];omega))]
theorem mZ(h:k3 z n i=k3 z n j):i=j:=by
 unfold k3 at h;injection h with _ h;injection h with _ h;injection h with h _;injection h
theorem Aj:∀(ws:List Int) (j:Nat) (k:List (List Key×V)) (i:Nat),i<ws.length->aO (bU z n ws j k) (k3 z n ((j+i:Nat):Int))=ws[i]?.map V.int
 |[],_,_,_,h=>by simp at h
 |w::ws,j,k,0,_=>by
  show aO (bU z n ws (j+1) (putK k (k3 z n j) (.int w))) _=_;rw[show j+0=j from rfl,gC ws (j+1) _ λi hi e=>by have:=mZ e;omega,dw,if_pos rfl];rfl
 |w::ws,j,k,i+1,h=>by
  show aO (bU z n ws (j+1) (putK k (k3 z n j) (.int w))) _=_;rw[show j+(i+1)=j+1+i from by omega,Aj ws (j+1) _ i (by rw[pR]at h;omega)];rfl
theorem gu:∀(fs:List aq) (k:List (List Key×V)),(∀f∈fs,key≠k3 z n f.at_)->aO (fs.foldl (ed z n W) k) key=aO k key
 |[],_,_=>rfl
 |f::fs,k,h=>by
  rw[PF,gu fs _ λg hg=>h g (.tail _ hg)];unfold ed;rw[dw,if_neg (h f (.head _))]
theorem zg:∀(fs:List aq) (k:List (List Key×V)),(∃f∈fs,f.at_=x)->(∀f∈fs,f.at_=x->dt f.rule (W.getD f.at_.toNat 0) (f.add%4294967296)=y)->aO (fs.foldl (ed z n W) k) (k3 z n x)=some (.int y)
 |[],_,h,_=>by obtain⟨_,h,_⟩:=h;cases h
 |f::fs,k,h,hv=>by
  rw[PF];by_cases c:∃g∈fs,g.at_=x
  ·exact zg fs _ c λg hg=>hv g (.tail _ hg)
  ·have no:∀g∈fs,k3 z n x≠k3 z n g.at_:=λg hg e=>c ⟨g,hg,(mZ e).symm⟩;rw[gu fs _ no];obtain⟨g,hg,e⟩:=h;cases hg with
   |head=>
    unfold ed;rw[dw,e,if_pos rfl,<-hv f (.head _) e,e]
   |tail _ hg=>exact absurd ⟨g,hg,e⟩ c
def Sn(k:List (List Key×V)):Prop:=∀key v,aO k key=some v->∃w:Int,v=.int w/\0<=w/\w<=4294967295
theorem Dg{k:List (List Key×V)}{key:List Key}{w:Int}(h:Sn k)(hw:0<=w/\w<=4294967295):Sn (putK k key (.int w)):=λj v e=>by
 rw[dw]at e;split at e
 ·cases e;exact⟨w,rfl,hw⟩
 ·exact h j v e
theorem jw:∀(ws:List Int) (j:Nat) (k:List (List Key×V)),Sn k->(∀w∈ws,0<=w/\w<=4294967295)->Sn (bU z n ws j k)
 |[],_,_,h,_=>h
 |w::ws,j,k,h,hw=>jw ws (j+1) _ (Dg h (hw w (.head _))) λx hx=>hw x (.tail _ hx)
theorem F3{r:Str}{w a:Int}(h:0<=w/\w<=4294967295):0<=dt r w a/\dt r w a<=4294967295:=by
 unfold dt
 repeat' split
 ·omega
 ·exact K3.g_ h.1 h.2 (by decide) (by decide) (by decide)
 ·exact K3.g_ h.1 h.2 (by decide) (by decide) (by decide)
theorem pQ(hW:∀w∈W,0<=w/\w<=4294967295):∀(fs:List aq) (k:List (List Key×V)),Sn k->Sn (fs.foldl (ed z n W) k)
 |[],_,h=>h
 |f::fs,k,h=>by
  rw[PF];refine pQ hW fs _ (Dg h (F3 ?_));rw[PJ];cases e:W[f.at_.toNat]? with
  |none=>exact⟨by decide,by decide⟩
  |some w=>exact hW w (i7 e)
noncomputable def cB(n:Nat)(ws:List Int):List Int:=(List.range n).map (λi:Nat=>(i:Int))++ws
def VZ(s0 s1:bJ)(n:Nat)(ws:List Int)(fs:List aq):Prop:=s0.words=[3]/\s0.fills=[]/\s1.words=cB n ws/\s1.fills=fs
theorem Ro{s0 s1:bJ}{n:Nat}{ws run:List Int}{fs:List aq}(h:VZ s0 s1 n ws fs)(fd:Wk n ws run fs)(j:Nat):aO (dH bZ [s0,s1] 0 []) (k3 bZ 1 ((n+j:Nat):Int))=(run[j]?).map V.int:=by
 obtain⟨h1,h2,h3,h4⟩:=h;show aO (stK bZ 1 s1 (stK bZ 0 s0 [])) _=_;unfold stK;rw[h1,h2,h3,h4];have lW:(cB n ws).length=n+ws.length:=by unfold cB;simp
 have gW (j:Nat):(cB n ws)[n+j]?=ws[j]?:=by
  unfold cB;rw[SE (by simp)];simp
 by_cases hj:j<run.length
 ·by_cases c:∃f∈fs,f.at_=((n+j:Nat):Int)
  ·obtain⟨y,hy⟩:∃y,run[j]?=some y:=⟨run[j],zR hj⟩
   rw[hy];refine zg fs _ c λf hf e=>?_;obtain⟨_,_,_,j',e1,_,e2⟩:=fd.fl f hf;obtain rfl:j'=j:=by omega
   rw[hy]at e2;injection e2 with e2;rw[e2,e,Ho,PJ,gW,<-PJ]
  ·have no:∀f∈fs,f.at_≠((n+j:Nat):Int):=λf hf e=>c ⟨f,hf,e⟩;rw[gu fs _ λf hf e=>no f hf (mZ e).symm,fd.no j no];have:=Aj (z:=bZ) (n:=1) (cB n ws) 0 (([]:List aq).foldl (ed bZ 0 [3]) (bU bZ 0 [3] 0 [])) (n+j) (by rw[lW,<-fd.len];omega);rw[Nat.zero_add]at this;rw[this,gW]
 ·rw[List.getElem?_eq_none (by omega)];rw[gu fs _ λf hf e=>by
   obtain⟨_,_,_,j',e1,e2,_⟩:=fd.fl f hf;have:=mZ e;have:=fd.len;omega,gC _ _ _ λi hi e=>by have:=mZ e;have:=fd.len;omega]
  show aO (bU bZ 0 [3] 0 []) _=none;rw[gC _ _ _ λi hi e=>by unfold k3 at e;injection e with _ e;injection e with e _;injection e with e;cases e];rfl
theorem ng{n:Nat}{ws run:List Int}{fs:List aq}(fd:Wk n ws run fs)(hn:n<=3):∀w∈cB n ws,0<=w/\w<=4294967295:=λw hw=>by
 unfold cB at hw;rcases fY.mp hw with z|z
 ·obtain⟨i,hi,rfl⟩:=cC.mp z;have:=List.mem_range.mp hi;omega
 ·exact fd.Py w z
theorem Ra{s0 s1:bJ}{n:Nat}{ws run:List Int}{fs:List aq}(h:VZ s0 s1 n ws fs)(fd:Wk n ws run fs)(hn:n<=3):Sn (dH bZ [s0,s1] 0 []):=by
 obtain⟨h1,h2,h3,h4⟩:=h;show Sn (stK bZ 1 s1 (stK bZ 0 s0 []));unfold stK;rw[h1,h2,h3,h4];refine pQ (ng fd hn) fs _ (jw _ _ _ (jw [3] 0 [] (λ_ _ z=>by cases z) λw hw=>?_) (ng fd hn));rw[fN.mp hw];decide
noncomputable def GR(p2 p3 p4 p5 p6 p7 p8 p9 p10 p11 m:Addr)(n:Nat)(ws:List Int)(fs:List aq):aD:=⟨p11,p7,p10,bZ,[⟨p4,p2,p3,Str.ofString "data", 1,[3],[]⟩,⟨p6,p5,m,oy,2,cB n ws,fs⟩],[⟨p8,Str.ofString "there", dX,0,0⟩,⟨p9,Str.ofString "begin", dD,1,n⟩]⟩
theorem QK{p2 p3 p4 p5 p6 p7 p8 p9 p10 p11 m:Addr}{n:Nat}{ws run:List Int}{fs:List aq}(fd:Wk n ws run fs)(hn:n<=3)(hl:ws.length<=62):YS (GR p2 p3 p4 p5 p6 p7 p8 p9 p10 p11 m n ws fs):=by
 have lW:(cB n ws).length=n+ws.length:=by unfold cB;simp
 have fw:=fd.gq;have Rk:∀s∈(GR p2 p3 p4 p5 p6 p7 p8 p9 p10 p11 m n ws fs).bW,∀f∈s.fills,f.soft=true/\QN f.rule/\0<=f.at_/\f.at_<s.words.length/\∀x∈(GR p2 p3 p4 p5 p6 p7 p8 p9 p10 p11 m n ws fs).bL,x.name≠f.name:=λs hs f hf=>by
  rcases i_.mp hs with rfl|hs
  ·cases hf
  ·rw[fN.mp hs]at hf ⊢;obtain⟨h1,h2,h3,j,h4,h5,_⟩:=fd.fl f hf;refine⟨h1,h2,by omega,by show f.at_<((cB n ws).length:Int);omega,λx hx=>?_⟩;rw[h3];rcases i_.mp hx with rfl|hx
   ·show Str.ofString "there" ≠ Str.ofString "nobody";decide
   ·rw[fN.mp hx];show Str.ofString "begin" ≠ Str.ofString "nobody";decide
 refine⟨⟨by show 2<=61;decide,by show 2<=61;decide,λs hs=>?_,?_,by rw[jg λs hs f hf=>(Rk s hs f hf).1];decide,by show [Str.ofString "there", Str.ofString "begin"].Nodup;decide⟩,by show 2<=4;decide,λs hs w hw=>?_,Rk⟩
 ·rcases i_.mp hs with rfl|hs
  ·exact⟨by show 1<=70;decide,by show 0<=70;decide⟩
  ·rw[fN.mp hs];exact⟨by show(cB n ws).length<=70;omega,by show fs.length<=70;omega⟩
 ·show(aV [_,_]).length<=70;unfold aV;simp only[List.flatMap_cons,List.flatMap_nil,List.append_nil,List.nil_append];show fs.length<=70;omega
 ·rcases i_.mp hs with rfl|hs
  ·rw[fN.mp (show w∈[3] from hw)];decide
  ·rw[fN.mp hs]at hw;exact ng fd hn w hw
theorem Aq{A:Ad}{H':Hp}{M:NO}{ks:List (List Key×V)}{n:Nat}{ws run:List Int}{fs:List aq}{s0 s1:bJ}{i:Nat}{o:Int}{rs:List Int}{kd:Str}(nm:dr A.aH H' M (dH bZ [s0,s1] 0 []) ks bZ (i:Int) o rs [] false)(kds:KdS H' bZ [s0,s1] ks)(h:VZ s0 s1 n ws fs)(fd:Wk n ws run fs)(hn:n<=3)(l8:rs.length=8)(wr:Words rs)(hk:∃st,[s0,s1][i]?=some st/\st.kind=kd):fz A.aH H' M (dH bZ [s0,s1] 0 []) ks bZ (i:Int) o rs [] false kd:=by
 obtain⟨st,h1,rfl⟩:=hk;obtain⟨t,h2,h3⟩:=kds i st h1;exact⟨nm,⟨t,_,h2,h3⟩,l8,wr,by show 0<=1000;decide,Ra h fd hn⟩
theorem J_(st:VI H t q lr ln z i o rs ts en):Rep K H (.tup [.tup [.str (Str.ofString "at"),.str z,.int i,.int o],.lst (rs.map D.int),.lst (ts.map D.int),.bl en]) (.ref t):=by
 refine⟨t,_,rfl,bB.of st.top,?_⟩;simp only[RepL];exact⟨_,_,rfl,BU st.pl,_,_,rfl,⟨lr,_,rfl,aI.of st.fL,ints_rep rs⟩,_,_,rfl,⟨ln,_,rfl,aI.of st.gT,ints_rep ts⟩,_,_,rfl,rfl,rfl⟩
theorem Uj{z:Str}{i o:Int}{rs ts:List Int}{en:Bool}:depL [.tup [.str (Str.ofString "at"),.str z,.int i,.int o],.lst (rs.map D.int),.lst (ts.map D.int),.bl en]<=20:=by
 have h (l:List Int):depL (l.map D.int)<=5:=by
  induction l with
  |nil=>simp[depL]
  |cons x l ih=>simp only[List.map_cons,depL,dep];omega
 have h1:=h rs;have h2:=h ts;simp only[depL,dep];omega
theorem abI(ns:List Int)(h:ns.length<=63):∃ms:List Int,zj (ns.map V.int) (some 1) (some 201)=ms.map V.int/\ms.length<=62:=by
 refine⟨(ns.drop (HT.sIx (ns.map V.int).length 0 (some 1))).take (HT.sIx (ns.map V.int).length (ns.map V.int).length (some 201) - HT.sIx (ns.map V.int).length 0 (some 1)),?_,?_⟩
 ·unfold zj;rw[List.map_take,List.map_drop]
 ·have e:HT.sIx (ns.map V.int).length 0 (some 1)=min 1 ns.length:=by
   rw[show(some (1:Int))=some ((1:Nat):Int) from rfl,HT.sIx_nat,aS]
  rw[pX,List.length_drop,e];omega
theorem YT(T:Txt K mg A):aG P w K mg base bP 13 A.Z0 A.xD ["_law_script"] (vf K A.bh A.aM):=by
 refine T.E9.ok cF (λvs H Q E h=>?_) (λcdv Ar outer s H vs Q E hr h=>?_)
 ·obtain⟨a,ns,rfl,_⟩:=h;rfl
 ·obtain⟨a,ns,rfl,hS,hl,htn,htb,nt,k⟩:=h
  refine⟨_,(aE (pS 1 cF.nd (pC (Y5 T) hr T.Sr T.ML T.HP (ah (pv 0) (ah af aa)))) (aE (pS 2 cF.nd (ao bg (pv 1) af)) (aE (gE (i:=3) cF.nd rfl (by walk_at "o") (wQ ["_law_cell"]) rfl (eN (K:=K) rfl (i3 (zu (K:=K) rfl) (pv 0) (gI af) (gI af))) (λ_ _ _=>⟨(pn 0 (by walk_at "n")),dj,(pC (ZX T) hr T.Sg T.Ia T.LD (ah (pv 0) aa))⟩)) (e8 (aE (pS 4 cF.nd (bS aa)) (aE (pS 5 cF.nd (pC (Za T) hr T.RI T.HH T.Ir (ah (i3 (zu (K:=K) rfl) (pv 0) (gI af) (gI af)) (ah (pv 2) (ah (pv 3) (ah (pv 4) aa)))))) (e8 (aE (gE (i:=6) cF.nd rfl (by walk_at "o") (u5 (own:=["_law_k"]) (fr:=["_law_by"]) (fm:=[1]) rfl (by decide +kernel) (by decide +kernel) (by decide +kernel) (.cons rfl (by walk_at "o") rfl .nil)) rfl (cA rfl T.cJ (ah af aa)) (λ_ _ _=>⟨(pn 0 (by walk_at "n")),dj,(ao bg (ao cW (ao cW (ao b0 (pv 1) (pv 0)) (ao b0 af (ao cW af (pv 0)))) af) af)⟩)) (e8 (aE (pS 7 cF.nd (bS (ah (a_ (ah au (ah af (ah (bS (ah af aa)) (ah (bS aa) aa))))) (ah (a_ (ah au (ah af (ah (ao (zT (K:=K) rfl) (gG (wQ ["_law_k"]) rfl (cA rfl T.cJ (ah (pv 2) aa)) (λ_ _ _=>⟨(pn 0 (by walk_at "n")),dj,(pv 0)⟩)) (pv 3)) (ah (pv 4) aa))))) aa)))) (e8 (aE (pS 8 cF.nd (bS (ah (a_ (ah au (ah (pv 7) (ah (bS (ah (a_ (ah au (ah au (ah af (ah af aa))))) (ah (a_ (ah au (ah au (ah af (ah (pv 2) aa))))) aa))) aa)))) aa))) (e8 (aE (pS 9 cF.nd (gp T.B4 (SJ T) (hr.mono (by decide)) rfl T.BM T.Es .nil ck (ah (pv 8) (ah (bS aa) (ah au (ah (jP (yY (K:=K) rfl) (by rfl) T.cZ de (ah (pv 6) aa)) aa)))))) (e8 (aE (pS 10 cF.nd (jP (yY (K:=K) rfl) (by rfl) T.cZ de (ah (pv 6) aa))) (aE (pS 11 cF.nd (gp T.B4 (SJ T) (hr.mono (by decide)) rfl T.BM T.Es .nil ck (ah (pv 8) (ah (bS aa) (ah au (ah (jP (yY (K:=K) rfl) (by rfl) T.cZ de (ah (pv 6) aa)) aa)))))) (e8 (aE (pS 12 cF.nd (bS aa)) (aE (ay (b_ (aW (pC (ZA T) hr T.SX T.NJ T.Oi (ah (pv 11) (ah (pv 5) (ah (pv 2) (ah (pv 6) (ah (pv 12) aa)))))))) (aF (aj bw)) cN) (e8 (aE (pF (eN (K:=K) rfl (pv 12)) (cR (K:=K) (n:=2) rfl rfl (fD (pn 13 cF.nd) (fD (pn 14 cF.nd) cQ))) (aF (ay (dB (Ri hr.units (K:=K) rfl) (pv 13) (pv 14) (ar _)) (aF (aj bw)) cN))) (e8 (aE (pF (cA rfl T.cJ (ah af aa)) (pn 15 cF.nd) (aF (ay (PW.pt (eT (b_ (aW (pC (Si T) hr T.MK T.DJ T.EH (ah (pv 9) aa)))) (eE (b_ (aW (pC (EU T) hr T.zh T.p_ T.pB (ah (dC (pv 9) T.aC T.oF (FJ T) (hr.mono (by decide)) T.pE .nil ck ) (ah (a_ (ah au (ah au (ah af (ah af aa))))) (ah (pv 10) (ah (bS aa) (ah bw aa))))))))))) (aF (aj bw)) cN))) (aF (aj bw)))))))))))))))))))))))))),?_⟩
  walk_at "rd";obtain⟨ms,em,lm⟩:=abI ns hl;refine⟨ns,hS,hl,by decide,λiy=>⟨by decide,_,hS,λp1 hp1=>?_⟩⟩;rw[em];have s1:=bo (o:=HO.lst (ms.map V.int)) hp1;have hp1':upd H p1 (HO.lst (ms.map V.int)) p1=some (HO.lst (ms.map V.int)):=aJ;generalize upd H p1 (HO.lst (ms.map V.int))=H1 at *;refine fF.of (xs:=ms.map V.int) (by rw[aS,sizeLine_eq];omega) (aI.of hp1') (λD i ys H2=>∃ws:List Int,ys=ws.map V.int/\ws.length=i/\aL H1 H2/\H2 D=some (.lst ys)/\∀w∈ws,0<=w/\w<=4294967295/\BK (cu w)) (λD hD=>⟨[],rfl,rfl,bo hD,aJ,λw hw=>by cases hw⟩) (λD i ys H2 hD hi ⟨ws,e,l,s2,h,_⟩=>⟨aI.of (s2 _ _ hp1'),h,by rw[e,aS,l];exact bA _⟩) ?_ ?_
  ·rintro D i x ys H2 hD hx ⟨ws,rfl,l,s2,h,ok⟩;walk_at "0";obtain⟨c,hc,rfl⟩:=iw.mp hx;walk_at "rd";refine⟨.no .nil,λwv H3 s3 h1 h2 h3=>⟨s3 _ _ h,ws++[wv],by simp,by rw[List.length_append,l];rfl,dA hD (s2.trans s3),aJ,λw hw=>?_⟩⟩;rcases fY.mp hw with z|z
   ·exact ok w z
   ·rw[fN.mp z];exact⟨h1,h2,h3⟩
  ·rintro D ys H2 hD ⟨ws,rfl,lw,s2,hD2,ok⟩;rw[aS]at lw;refine dR ?_;walk_at "rd";refine⟨i8 _,λm hm=>?_⟩;have s3:=bo (o:=HO.lst []) hm;have sS:aL H (upd H2 m (HO.lst [])):=s1.trans (s2.trans s3);refine⟨_,sS.seq hS,λp2 hp2=>?_⟩;rw[em];have s4:=bo (o:=HO.lst (ms.map V.int)) hp2;have nDm:D≠m:=bf hD2 hm;have nDp:D≠p2:=bf (s3 _ _ hD2) hp2;have nmp:m≠p2:=bf (aJ (H:=H2) (o:=HO.lst [])) hp2;refine⟨D,m,ms,ws,(iy%4).toNat,by omega,rfl,rfl,aJ,s4 _ _ (s3 _ _ hD2),s4 _ _ aJ,nDm,nDp,nmp,lw.symm,by omega,by omega,ok,λrr ws' run fs H3 off3 nr3 hr3 hD3' hm3 fa3 lw3 fd3=>?_⟩;have hn3:(iy%4).toNat<=3:=by omega
   have en:iy%4=(((iy%4).toNat:Nat):Int):=by omega
   generalize (iy%4).toNat=n at *;refine dR ?_;walk_at "rd";refine zl.of (by decide) (by decide) (λD2 i ys H4=>∃rs:List Int,ys=rs.map V.int/\rs.length=i/\aL H3 H4/\H4 D2=some (.lst ys)/\Words rs) (λD2 hD2=>⟨[],rfl,rfl,bo hD2,aJ,λw hw=>by cases hw⟩) (λD2 i ys H4 _ _ ⟨rs,e,l,s,h,_⟩=>⟨h,by rw[e,aS,l];exact bA _⟩) ?_ ?_
   ·rintro D2 i ys H4 hD2 hi ⟨rs,rfl,l,s,h,wr⟩;have hi8:i<8:=hi;walk_at "rd";refine⟨.no (.yes .nil),.inl ⟨by decide,by decide⟩,.inr ⟨by omega,by omega⟩,.inr ⟨by decide,by decide⟩,by decide,h,rs++[(iy+(i:Int))*(48271+2*(i:Int))*69621%4294967296],by simp,by rw[List.length_append,l];rfl,dA hD2 s,aJ,λw hw=>?_⟩;rcases fY.mp hw with z|z
    ·exact wr w z
    ·rw[fN.mp z];omega
   ·rintro rw ys H4 hrw ⟨rs,rfl,l8,s34,hrw4,wrs⟩;have l8:rs.length=8:=l8;refine dR ?_;walk_at "rd";refine⟨by decide,λp2 hp2=>⟨i8 _,λp3 hp3=>⟨by decide,λp4 hp4=>?_⟩⟩⟩;have sA:=(bo (o:=HO.lst [V.int 3]) hp2).trans ((bo (o:=HO.lst []) hp3).trans (bo (o:=HO.tup [V.str (Str.ofString "data"),V.int 1,V.ref p2,V.ref p3]) hp4));have a2:=(bo (o:=HO.tup [V.str (Str.ofString "data"),V.int 1,V.ref p2,V.ref p3]) hp4) _ _ ((bo (o:=HO.lst []) hp3) _ _ (aJ (H:=H4) (a:=p2) (o:=HO.lst [V.int 3])));have a3:=(bo (o:=HO.tup [V.str (Str.ofString "data"),V.int 1,V.ref p2,V.ref p3]) hp4) _ _ (aJ (a:=p3) (o:=HO.lst []));have a4:upd (upd (upd H4 p2 (HO.lst [V.int 3])) p3 (HO.lst [])) p4 (HO.tup [V.str (Str.ofString "data"),V.int 1,V.ref p2,V.ref p3]) p4=some (HO.tup [V.str (Str.ofString "data"),V.int 1,V.ref p2,V.ref p3]):=aJ;generalize upd (upd (upd H4 p2 (HO.lst [V.int 3])) p3 (HO.lst [])) p4 (HO.tup [V.str (Str.ofString "data"),V.int 1,V.ref p2,V.ref p3])=H5 at *;rw[en];refine zl.of (by omega) (by omega) (λD3 i ys H6=>ys=(List.range i).map (λj:Nat=>V.int j)/\aL H5 H6/\H6 D3=some (.lst ys)) (λD3 hD3=>⟨rfl,bo hD3,aJ⟩) (λD3 i ys H6 _ _ ⟨e,s,h⟩=>⟨h,by rw[e,aS,Yv];exact bA _⟩) ?_ ?_
    ·rintro D3 i ys H6 hD3 hi ⟨rfl,s,h⟩;walk_at "rd";exact⟨.no .nil,h,by rw[List.range_succ,eA];rfl,dA hD3 s,aJ⟩
    ·rintro D3 ys H6 hD3 ⟨rfl,s56,hD6⟩;rw[Ho]at hD6;refine⟨D3,rfl,_,aI.of hD6,_,aI.of (s56 _ _ (sA _ _ (s34 _ _ hD3'))),?_⟩;refine⟨by rw[aS,aS,Yv,sizeLine_eq];omega,λp5 hp5=>?_⟩;rw[show(List.range n).map (λj:Nat=>V.int j)++ws'.map V.int=(cB n ws').map V.int from by unfold cB;rw[List.map_append,List.map_map];rfl];have t7:=bo (o:=HO.lst ((cB n ws').map V.int)) hp5;have b5:upd H6 p5 (HO.lst ((cB n ws').map V.int)) p5=some (HO.lst ((cB n ws').map V.int)):=aJ;generalize upd H6 p5 (HO.lst ((cB n ws').map V.int))=H7 at *;refine⟨by decide,λp6 hp6=>?_⟩;have t8:=bo (o:=HO.tup [V.str (Str.ofString "code"),V.int 2,V.ref p5,V.ref m]) hp6;have b6:upd H7 p6 (HO.tup [V.str (Str.ofString "code"),V.int 2,V.ref p5,V.ref m]) p6=some (HO.tup [V.str (Str.ofString "code"),V.int 2,V.ref p5,V.ref m]):=aJ;generalize upd H7 p6 (HO.tup [V.str (Str.ofString "code"),V.int 2,V.ref p5,V.ref m])=H8 at *;refine⟨by decide,λp7 hp7=>?_⟩;have t9:=bo (o:=HO.lst [V.ref p4,V.ref p6]) hp7;have b7:upd H8 p7 (HO.lst [V.ref p4,V.ref p6]) p7=some (HO.lst [V.ref p4,V.ref p6]):=aJ;generalize upd H8 p7 (HO.lst [V.ref p4,V.ref p6])=H9 at *;refine dR ?_;walk_at "rd";refine⟨by decide,λp8 hp8=>?_⟩;have t10:=bo (o:=HO.tup [V.str (Str.ofString "there"),V.str (Str.ofString "weak"),V.int 0,V.int 0]) hp8
     have b8:upd H9 p8 (HO.tup [V.str (Str.ofString "there"),V.str (Str.ofString "weak"),V.int 0,V.int 0]) p8=some (HO.tup [V.str (Str.ofString "there"),V.str (Str.ofString "weak"),V.int 0,V.int 0]):=aJ;generalize upd H9 p8 (HO.tup [V.str (Str.ofString "there"),V.str (Str.ofString "weak"),V.int 0,V.int 0])=H10 at *;refine⟨by decide,λp9 hp9=>?_⟩;have t11:=bo (o:=HO.tup [V.str (Str.ofString "begin"),V.str (Str.ofString "tell"),V.int 1,V.int (n:Int)]) hp9;have b9:upd H10 p9 (HO.tup [V.str (Str.ofString "begin"),V.str (Str.ofString "tell"),V.int 1,V.int (n:Int)]) p9=some (HO.tup [V.str (Str.ofString "begin"),V.str (Str.ofString "tell"),V.int 1,V.int (n:Int)]):=aJ;generalize upd H10 p9 (HO.tup [V.str (Str.ofString "begin"),V.str (Str.ofString "tell"),V.int 1,V.int (n:Int)])=H11 at *;refine⟨by decide,λp10 hp10=>?_⟩;have t12:=bo (o:=HO.lst [V.ref p8,V.ref p9]) hp10;have b10:upd H11 p10 (HO.lst [V.ref p8,V.ref p9]) p10=some (HO.lst [V.ref p8,V.ref p9]):=aJ;generalize upd H11 p10 (HO.lst [V.ref p8,V.ref p9])=H12 at *;refine⟨by decide,λp11 hp11=>?_⟩;have t13:=bo (o:=HO.tup [V.str (Str.ofString "pad"),V.ref p7,V.ref p10]) hp11;have b11:upd H12 p11 (HO.tup [V.str (Str.ofString "pad"),V.ref p7,V.ref p10]) p11=some (HO.tup [V.str (Str.ofString "pad"),V.ref p7,V.ref p10]):=aJ;generalize upd H12 p11 (HO.tup [V.str (Str.ofString "pad"),V.ref p7,V.ref p10])=H13 at *;refine⟨by decide,λp12 hp12=>?_⟩;have t14:=bo (o:=HO.lst [V.ref p11]) hp12
     have b12:upd H13 p12 (HO.lst [V.ref p11]) p12=some (HO.lst [V.ref p11]):=aJ;generalize upd H13 p12 (HO.lst [V.ref p11])=H14 at *;refine dR ?_;walk_at "rd";refine⟨by decide,λp13 hp13=>?_⟩;have t15:=bo (o:=HO.lst []) hp13;have b13:upd H14 p13 (HO.lst []) p13=some (HO.lst []):=aJ;generalize upd H14 p13 (HO.lst [])=H15 at *;have u15:aL H5 H15:=s56.trans (t7.trans (t8.trans (t9.trans (t10.trans (t11.trans (t12.trans (t13.trans (t14.trans t15))))))));have u3:aL H3 H15:=s34.trans (sA.trans u15);have row15:=u15 _ _ (sA _ _ hrw4);refine⟨_,.inl (aI.of row15),λl1 hl1 x dx hx hdx ndx=>?_⟩;have c13:=t14.trans t15;have c12:=t13.trans c13;have c11:=t12.trans c12;have c10:=t11.trans c11;have c9:=t10.trans c10;have c8:=t9.trans c9;have c7:=t8.trans c8;have pA:(GR p2 p3 p4 p5 p6 p7 p8 p9 p10 p11 m n ws' fs).At H15:=by
      refine⟨c13 _ _ b11,c9 _ _ b7,c12 _ _ b10,λs hs=>?_,λx hx=>?_⟩
      ·rcases i_.mp hs with rfl|hs
       ·exact⟨u15 _ _ a4,u15 _ _ a2,u15 _ _ a3,λf hf=>by cases hf⟩
       ·rw[fN.mp hs];exact⟨c8 _ _ b6,c7 _ _ b5,u3 _ _ hm3,λf hf=>u3 _ _ (fa3 f hf)⟩
      ·rcases i_.mp hx with rfl|hx
       ·exact c10 _ _ b8
       ·rw[fN.mp hx];exact c11 _ _ b9
     have pw:=QK (p2:=p2) (p3:=p3) (p4:=p4) (p5:=p5) (p6:=p6) (p7:=p7) (p8:=p8) (p9:=p9) (p10:=p10) (p11:=p11) (m:=m) fd3 hn3 (by omega);have toS:∀b,H b=some (.fJ #[])->H15 b=some (.fJ #[]):=λb hb=>u3 _ _ (off3 b _ (bf (s1 _ _ hb) hD) (bf (s2 _ _ (s1 _ _ hb)) hm) (s4 _ _ (sS _ _ hb)));have tk15:eP A.aM Y7 ZF H15:=⟨#[],toS _ htb,trivial,.inl rfl⟩
     have tn15:eP A.bh GS Gy H15:=⟨#[],toS _ htn,trivial,.inl rfl⟩
     have t16:=bo (o:=HO.lst (rs.map V.int)) hl1;have t17:=bo (o:=HO.own x) hdx;have hx17:upd (upd H15 l1 (HO.lst (rs.map V.int))) dx (HO.own x) x=none:=by rw[ae ndx.symm];exact hx
     have t18:=bo (o:=HO.ins A.aH dx []) hx17;have d1:=t18 _ _ (t17 _ _ (aJ (H:=H15) (a:=l1) (o:=HO.lst (rs.map V.int))));have d2:upd (upd (upd H15 l1 (HO.lst (rs.map V.int))) dx (HO.own x)) x (HO.ins A.aH dx []) x=some (HO.ins A.aH dx []):=aJ;have t158:=t16.trans (t17.trans t18);generalize upd (upd (upd H15 l1 (HO.lst (rs.map V.int))) dx (HO.own x)) x (HO.ins A.aH dx [])=H18 at *;have nl1x:l1≠x:=aR d1 d2 (by intro z;cases z);refine⟨_,d2,GR p2 p3 p4 p5 p6 p7 p8 p9 p10 p11 m n ws' fs,⟨t158 _ _ (t15 _ _ b12),λq hq=>by rw[fN.mp hq];exact pA.mono t158⟩,t158 _ _ b13,pw,_,.head _,rfl,(by show dX≠eV;decide),.inr rfl,rs,d1,l8,tk15.more t158,tn15.more t158,nt,λM0 ks0 H19 eM0 sn0 tk19 tn19 nm0 kd0 f0r f0n=>?_⟩;have k19 {b:Addr}{o:HO}(h:H18 b=some o) (nx:b≠x) (no:∀ps,o≠.fJ ps):H19 b=some o:=sn0 b o nx no h;have row18:=t158 _ _ row15;have row19:=k19 row18 (aR row18 d2 (by intro z;cases z)) (by intro _ z;cases z);have lt19:fc H18 H19:=λb o h e=>k19 e (aR e d2 (by rcases h with ⟨_,rfl⟩|⟨_,rfl⟩<;>intro z<;>cases z)) (by rcases h with ⟨_,rfl⟩|⟨_,rfl⟩<;>intro _ z<;>cases z);have pA19:=qk lt19 (pA.mono t158);have run19:=fK lt19 (t158 _ _ (u3 _ _ hr3));have pcs19:=fK lt19 (t158 _ _ (t15 _ _ b12));refine dR ?_;walk_at "rd";refine⟨_,.inl (aI.of row19),λl2 hl2=>⟨i8 _,λp14 hp14=>?_⟩⟩;have t20:=bo (o:=HO.lst (rs.map V.int)) hl2
     have e2:upd H19 l2 (HO.lst (rs.map V.int)) l2=some (HO.lst (rs.map V.int)):=aJ;generalize upd H19 l2 (HO.lst (rs.map V.int))=H20 at *;have t21:=bo (o:=HO.lst []) hp14;have e14:upd H20 p14 (HO.lst []) p14=some (HO.lst []):=aJ;generalize upd H20 p14 (HO.lst [])=H21 at *;have t1921:=t20.trans t21;have row21:=t1921 _ _ row19;refine⟨_,.inl (aI.of row21),λl3 hl3 x1 dx1 hx1 hdx1 ndx1=>?_⟩;have t22:=bo (o:=HO.lst (rs.map V.int)) hl3;have t23:=bo (o:=HO.own x1) hdx1;have hx23:upd (upd H21 l3 (HO.lst (rs.map V.int))) dx1 (HO.own x1) x1=none:=by rw[ae ndx1.symm];exact hx1
     have t24:=bo (o:=HO.ins A.aH dx1 []) hx23;have d3:=t24 _ _ (t23 _ _ (aJ (H:=H21) (a:=l3) (o:=HO.lst (rs.map V.int))));have d4:upd (upd (upd H21 l3 (HO.lst (rs.map V.int))) dx1 (HO.own x1)) x1 (HO.ins A.aH dx1 []) x1=some (HO.ins A.aH dx1 []):=aJ;have t2124:=t22.trans (t23.trans t24);have hx21:H21 x1=none:=cU t22 hx1;generalize upd (upd (upd H21 l3 (HO.lst (rs.map V.int))) dx1 (HO.own x1)) x1 (HO.ins A.aH dx1 [])=H24 at *;have t1924:=t1921.trans t2124;refine⟨_,d4,GR p2 p3 p4 p5 p6 p7 p8 p9 p10 p11 m n ws' fs,⟨t1924 _ _ pcs19,λq hq=>by rw[fN.mp hq];exact pA19.mono t1924⟩,t2124 _ _ e14,pw,_,.tail _ (.head _),rfl,(by show dD≠eV;decide),.inl rfl,rs,d3,l8,tk19.more t1924,tn19.more t1924,nt,λM1 ks1 H25 eM1 sn1 tk25 tn25 nm1 kd1 f1r f1n=>?_⟩;have k25 {b:Addr}{o:HO}(h:H21 b=some o) (no:∀ps,o≠.fJ ps):H25 b=some o:=sn1 b o (bf h hx21) no (t2124 _ _ h);refine dR ?_;walk_at "rd";refine⟨i8 _,λhh hhh=>?_⟩;have t26:=bo (o:=HO.lst []) hhh;have e26:upd H25 hh (HO.lst []) hh=some (HO.lst []):=aJ;generalize upd H25 hh (HO.lst [])=H26 at *;have nm1':dr A.aH H25 M1 (dH bZ [⟨p4,p2,p3,Str.ofString "data", 1,[3],[]⟩,⟨p6,p5,m,oy,2,cB n ws',fs⟩] 0 []) ks1 bZ ((1:Nat):Int) (n:Int) rs [] false:=by
      have z:(n:Int)%4294967296=n:=by omega
      rw[<-z];exact nm1
     have rn1:=(Aq nm1' kd1 ⟨rfl,rfl,rfl,rfl⟩ fd3 hn3 l8 wrs ⟨_,rfl,rfl⟩:fz A.aH H25 M1 _ ks1 bZ ((1:Nat):Int) (n:Int) rs [] false oy)
     have rn26:=rn1.mono t26;have run21:=t1921 _ _ run19;have run25:=k25 run21 (by intro _ z;cases z);have row25:=k25 row21 (by intro _ z;cases z);have n1:M1.lr≠M1.ln:=nm1.nd;have n2:M1.lr≠rr:=Ne.symm (bf (t2124 _ _ run21) f1r);have n3:M1.lr≠rw:=Ne.symm (bf (t2124 _ _ row21) f1r);have n4:M1.lr≠hh:=bf nm1.fL hhh;have n5:M1.ln≠rr:=Ne.symm (bf (t2124 _ _ run21) f1n);have n6:M1.ln≠rw:=Ne.symm (bf (t2124 _ _ row21) f1n);have n7:M1.ln≠hh:=bf nm1.gT hhh;have n8:rr≠rw:=bf hr3 hrw;have n9:rr≠hh:=bf run25 hhh;have n10:rw≠hh:=bf row25 hhh;refine⟨M1,eM1.symm,rw,hh,n,rfl,rfl,rfl,_,ks1,run,rs,rn26,t26 _ _ run25,t26 _ _ row25,e26,by simp only[List.nodup_cons,List.mem_cons,List.not_mem_nil,or_false,not_or,List.nodup_nil,and_true,not_false_eq_true];exact⟨⟨n1,n2,n3,n4⟩,⟨n5,n6,n7⟩,⟨n8,n9⟩,n10⟩,by rw[fd3.len,lw3];omega,hn3,fd3.ok,λj=>Ro ⟨rfl,rfl,rfl,rfl⟩ fd3 j,λhs H27 off27 hl27 hat27 hlen27=>?_⟩;subst eM0;have nm0':dr A.aH H19 M0 (dH bZ [⟨p4,p2,p3,Str.ofString "data", 1,[3],[]⟩,⟨p6,p5,m,oy,2,cB n ws',fs⟩] 0 []) ks0 bZ ((0:Nat):Int) 0 rs [] false:=nm0;have rn0:=(Aq nm0' kd0 ⟨rfl,rfl,rfl,rfl⟩ fd3 hn3 l8 wrs ⟨_,rfl,rfl⟩:fz A.aH H19 M0 _ ks0 bZ ((0:Nat):Int) 0 rs [] false (Str.ofString "data"))
     have rn21:=rn0.mono t1921;have k27 {b:Addr}{o:HO}(h:H21 b=some o) (no:∀ps,o≠.fJ ps) (nr:b≠rw):H27 b=some o:=off27 b o (t26 _ _ (k25 h no)) (by rw[eM1];exact bf h hx21) (bf (t2124 _ _ h) f1r) (bf (t2124 _ _ h) f1n) nr (bf (k25 h no) hhh);have kr {b:Addr}{o:HO}(h:H21 b=some o) (no:∀xs,o≠.lst xs):b≠rw:=aR h row21 (no _);have q21:=rn21.o_;have nm27:dr A.aH H27 M0 (dH bZ [⟨p4,p2,p3,Str.ofString "data", 1,[3],[]⟩,⟨p6,p5,m,oy,2,cB n ws',fs⟩] 0 []) ks0 bZ ((0:Nat):Int) 0 rs [] false:=
      ⟨k27 q21.top (by intro _ z;cases z) (kr q21.top (by intro _ z;cases z)),k27 q21.mem (by intro _ z;cases z) (kr q21.mem (by intro _ z;cases z)),k27 q21.str (by intro _ z;cases z) (kr q21.str (by intro _ z;cases z)),k27 q21.pl (by intro _ z;cases z) (kr q21.pl (by intro _ z;cases z)),k27 q21.fL (by intro _ z;cases z) (Ne.symm (bf row18 f0r)),k27 q21.gT (by intro _ z;cases z) (Ne.symm (bf row18 f0n)),q21.nd⟩
     have rn27:=nm27.kd rn21 (λb xs h=>k27 h (by intro _ z;cases z) (kr h (by intro _ z;cases z))) l8 wrs (by show 0<=1000;decide);have fst27:H27 l2=some (HO.lst (rs.map V.int)):=k27 (t21 _ _ e2) (by intro _ z;cases z) (Ne.symm (bf row19 hl2));refine dR ?_;walk_at "rd";refine h_.of (xs:=hs.map λh=>V.ref h.t) (λi σ H'=>H'=H27/\∃c13 c14 c15,σ=[some (V.ref a),some (V.int iy),some (V.int (n:Int)),some (V.ref D),some (V.ref m),some (V.ref rr),some (V.ref rw),some (V.ref p7),some (V.ref p12),some (V.ref M0.x),some (V.ref l2),some (V.ref x1),some (V.ref hh),c13,c14,c15]) ⟨rfl,_,_,_,rfl⟩ (λi σ H' _ ⟨e,_⟩=>by rw[e];exact aI.of hl27) ?_ ?_
     ·rintro i v σ H' hv ⟨rfl,c13,c14,c15,rfl⟩;walk_at "3";obtain⟨h,hh1,rfl⟩:=iw.mp hv;have ha:=hat27 h (i7 hh1);walk_at "rd";refine⟨_,bB.of ha.top,rfl,_,_,rfl,_,_,rfl,rfl,?_⟩;refine⟨_,_,.inr ⟨J_ ha.one,J_ (⟨ha.two,ha.one.pl,ha.mr_,ha.mn_⟩:VI H' h.b h.q h.mr h.mn h.z h.s h.o h.rs h.ts false)⟩,Uj,?_⟩;rw[eW];exact⟨false,rfl,oh rfl⟩
     ·rintro σ H' ⟨rfl,c13,c14,c15,rfl⟩;refine dR ?_;walk_at "rd";refine pd.of (by decide) (by decide) (λj σ H2=>∃c13 c14 c15,σ=[some (V.ref a),some (V.int iy),some (V.int (n:Int)),some (V.ref D),some (V.ref m),some (V.ref rr),some (V.ref rw),some (V.ref p7),some (V.ref p12),some (V.ref M0.x),some (V.ref l2),some (V.ref x1),some (V.ref hh),c13,c14,c15]/\aL H' H2) ⟨_,_,_,rfl,λ_ _ h=>h⟩ ?_ ?_
      ·rintro j σ H28 hj ⟨c13,c14,c15,rfl,s28⟩;have rn28:=rn27.mono s28;walk_at "rd";refine⟨M0,rfl,_,_,_,_,_,_,_,_,rn28,.inr (by decide),λH29 s29=>?_⟩;have rn29:=rn28.mono s29;refine⟨_,_,rn29.o_.top,rfl,M0,rfl,_,_,_,_,_,_,_,_,rn29.o_,rn29.len,rn29.tl,λt q lr ln H30 s30 st n1 n2=>⟨by decide,λp hp=>⟨i8 _,λp' hp'=>?_⟩⟩⟩;have s31:=bo (o:=HO.tup [V.str (Str.ofString "at"),V.str (Str.ofString "pad"),V.int 0,V.int 0]) hp;have s32:=bo (o:=HO.lst []) hp';have s33:=s31.trans s32;have s34:=s28.trans (s29.trans (s30.trans s33));exact⟨_,_,_,_,_,_,_,_,⟨s33 _ _ st.top,s33 _ _ st.pl,s33 _ _ st.fL,s33 _ _ st.gT⟩,s32 _ _ aJ,s34 _ _ fst27,aJ,by rw[l8];decide,by decide,s34⟩
      ·rintro σ H28 ⟨c13,c14,c15,rfl,s28⟩;walk_at "rd";exact k H28
end
@[elab_as_elim] theorem cj{α:Type}{p:List α->Prop}(us:List α)(h:us.length=1)(f:∀a,p [a]):p us:=by
 match us,h with | [a],_=>exact f a
@[elab_as_elim] theorem iL{α:Type}{p:List α->Prop}(us:List α)(h:us.length=2)(f:∀a b,p [a,b]):p us:=by
 match us,h with | [a,b],_=>exact f a b
@[elab_as_elim] theorem ot{α:Type}{p:List α->Prop}(us:List α)(h:us.length=3)(f:∀a b c,p [a,b,c]):p us:=by
 match us,h with | [a,b,c],_=>exact f a b c
@[elab_as_elim] theorem wY{α:Type}{p:List α->Prop}(us:List α)(h:us.length=4)(f:∀a b c d,p [a,b,c,d]):p us:=by
 match us,h with | [a,b,c,d],_=>exact f a b c d
@[elab_as_elim] theorem Tu{α:Type}{p:List α->Prop}(us:List α)(h:us.length=5)(f:∀a b c d e,p [a,b,c,d,e]):p us:=by
 match us,h with | [a,b,c,d,e],_=>exact f a b c d e
def FO(K:Wf)(f:Addr)(st:Stmt)(x q:Str):Prop:=∃(oc:Value) (od an:Option Addr) (sl:Array (Option Value)) (kV dc pm cd ct:Value),K.lookup f=some ⟨oc,od,.func (fnOf x q (fj st) (dq st) (ag st) .none kV dc pm an cd ct),sl⟩/\codeIn K cd q=true/\keepIn K (.ref f)=true
def BMO(K:Wf)(bm:Addr):Prop:=∃sl,bm≠builtinsNs/\bm≠mainGlobals/\K.lookup bm=some ⟨.type "module", some builtinsNs,.plain,sl⟩
theorem az{K:Wf}{f:Addr}{st:Stmt}{x q:Str}(h:FO K f st x q):∃fd,bQ K x q st f fd/\keepIn K (.ref f)=true:=by
 obtain⟨_,_,_,_,_,_,_,_,_,l,e,k⟩:=h;exact⟨_,qH l e k,k⟩
theorem all_mk{l:PySem.W.OpenLaw}{w:World}{K:Wf}{h:Heap}{mg:So}{fa f_qjy f_field f_qxw f_qvq f_qvz f_ones f_moved f_qjv f_op_of f_a_of f_b_of f_c_of f_n_of f_s_of f_qzy f_tells f_wants f_qkk f_qwv f_aims f_qvy f_qyq f_qjx f_qww f_qzq f_qzv f_qxk f_qzz f_qzj f_taken f_qqx f_qqq f_qqy f_qkz f_qqw f_qwx f_qjk f_is_at f_qkv f_qzx f_qxv f_qjw f_qkj f_qwz f_qqv f_qwy f_qyx f_qyz f_qqj f_qyw f_qqz f_qqk f_qjq f_qwk f_qzk f_qzw f_qxy f_qxz f_qyk f_qxq f_qyy f_qkw f_qwq f_qwj f_qyv f_qky f_qkx f_qyj f_law C_High C_qxj C_Lost C_Low C_qvj C_qjj C_qvw C_qvx C_qvv C_qjz jE bm bh aM:Addr}{zU zw k_qvk_0 k_qvk_1 k_qvk_2 k_qvk_3 k_qvk_4 k_qvk_5 k_qvk_6 k_qvk_7 k_qvk_8 k_qvk_9 k_qvk_10 k_qvk_11 k_qvk_12 k_qvk_13 k_qvk_14 k_qvk_15:Tok}(X:K.In h)(G:h.Ns mainGlobals mg)(hfa:mg "law" = some (.ref fa))
  {od_qvk:Option Addr}{n_qvk:Nat}{sl_qvk:Array (Option Value)}
  (ac_High:nsIn K mainGlobals "High" = some (some (.ref C_High)))
  (ac_qxj:nsIn K mainGlobals "JoinError" = some (some (.ref C_qxj)))
  (ac_Lost:nsIn K mainGlobals "Lost" = some (some (.ref C_Lost)))
  (ac_Low:nsIn K mainGlobals "Low" = some (some (.ref C_Low)))
  (ac_qvj:nsIn K mainGlobals "Named" = some (some (.ref C_qvj)))
  (ac_qjj:nsIn K mainGlobals "NoSense" = some (some (.ref C_qjj)))
  (ac_qvw:nsIn K mainGlobals "Taking" = some (some (.ref C_qvw)))
  (ac_qvx:nsIn K mainGlobals "Unmet" = some (some (.ref C_qvx)))
  (ac_qvv:nsIn K mainGlobals "Whole" = some (some (.ref C_qvv)))
  (ac_qjz:nsIn K mainGlobals "WithFill" = some (some (.ref C_qjz)))
  (a_qjy:nsIn K mainGlobals "wrapped" = some (some (.ref f_qjy)))
  (l_qjy:FO K f_qjy Nr "wrapped" "wrapped")
  (a_field:nsIn K mainGlobals "field" = some (some (.ref f_field)))
  (l_field:FO K f_field xZ "field" "field")
  (a_qxw:nsIn K mainGlobals "with_field" = some (some (.ref f_qxw)))
  (l_qxw:FO K f_qxw LJ "with_field" "with_field")
  (a_qvq:nsIn K mainGlobals "signed" = some (some (.ref f_qvq)))
  (l_qvq:FO K f_qvq Jj "signed" "signed")
  (a_qvz:nsIn K mainGlobals "turned" = some (some (.ref f_qvz)))
  (l_qvz:FO K f_qvz KA "turned" "turned")
  (a_ones:nsIn K mainGlobals "ones" = some (some (.ref f_ones)))
  (l_ones:FO K f_ones Bb "ones" "ones")
  (a_moved:nsIn K mainGlobals "moved" = some (some (.ref f_moved)))
  (l_moved:FO K f_moved xA "moved" "moved")
  (a_qjv:nsIn K mainGlobals "deed_of" = some (some (.ref f_qjv)))
  (l_qjv:FO K f_qjv Pk "deed_of" "deed_of")
  (a_op_of:nsIn K mainGlobals "op_of" = some (some (.ref f_op_of)))
  (l_op_of:FO K f_op_of rM "op_of" "op_of")
  (a_a_of:nsIn K mainGlobals "a_of" = some (some (.ref f_a_of)))
  (l_a_of:FO K f_a_of Bw "a_of" "a_of")
  (a_b_of:nsIn K mainGlobals "b_of" = some (some (.ref f_b_of)))
  (l_b_of:FO K f_b_of BI "b_of" "b_of")
  (a_c_of:nsIn K mainGlobals "c_of" = some (some (.ref f_c_of)))
  (l_c_of:FO K f_c_of AZ "c_of" "c_of")
  (a_n_of:nsIn K mainGlobals "n_of" = some (some (.ref f_n_of)))
  (l_n_of:FO K f_n_of BH "n_of" "n_of")
  (a_s_of:nsIn K mainGlobals "s_of" = some (some (.ref f_s_of)))
  (l_s_of:FO K f_s_of B5 "s_of" "s_of")
  (a_qzy:nsIn K mainGlobals "of_two_words" = some (some (.ref f_qzy)))
  (l_qzy:FO K f_qzy KY "of_two_words" "of_two_words")
  (a_tells:nsIn K mainGlobals "tells" = some (some (.ref f_tells)))
  (l_tells:FO K f_tells yT "tells" "tells")
  (a_wants:nsIn K mainGlobals "wants" = some (some (.ref f_wants)))
  (l_wants:FO K f_wants uU "wants" "wants")
  (a_qkk:nsIn K mainGlobals "names_of" = some (some (.ref f_qkk)))
  (l_qkk:FOT K f_qkk bh Cv "names_of" "names_of")
  (a_qwv:nsIn K mainGlobals "refuse_twice" = some (some (.ref f_qwv)))
  (l_qwv:FO K f_qwv LU "refuse_twice" "refuse_twice")
  (a_aims:nsIn K mainGlobals "aims" = some (some (.ref f_aims)))
  (l_aims:FO K f_aims Bo "aims" "aims")
  (a_qvy:nsIn K mainGlobals "aim_by" = some (some (.ref f_qvy)))
  (l_qvy:FO K f_qvy JF "aim_by" "aim_by")
  (a_qyq:nsIn K mainGlobals "places_told" = some (some (.ref f_qyq)))
  (l_qyq:FO K f_qyq HY "places_told" "places_told")
  (a_qjx:nsIn K mainGlobals "rule_of" = some (some (.ref f_qjx)))
  (l_qjx:FO K f_qjx Ol "rule_of" "rule_of")
  (a_qww:findIn K (.ref C_High) "__init__" = some (some (.ref f_qww)))
  (i_qww:isFn K (.ref f_qww)=true)
  (l_qww:FO K f_qww O8 "__init__" "Rule.__init__")
  (a_qzq:findIn K (.ref C_qvv) "filled" = some (some (.ref f_qzq)))
  (i_qzq:isFn K (.ref f_qzq)=true)
  (l_qzq:FO K f_qzq MX "filled" "Whole.filled")
  (a_qzv:findIn K (.ref C_High) "filled" = some (some (.ref f_qzv)))
  (i_qzv:isFn K (.ref f_qzv)=true)
  (l_qzv:FO K f_qzv NN "filled" "High.filled")
  (a_qxk:findIn K (.ref C_Low) "filled" = some (some (.ref f_qxk)))
  (i_qxk:isFn K (.ref f_qxk)=true)
  (l_qxk:FO K f_qxk O1 "filled" "Low.filled")
  (a_qzz:nsIn K mainGlobals "copied_piece" = some (some (.ref f_qzz)))
  (l_qzz:FO K f_qzz LO "copied_piece" "copied_piece")
  (a_qzj:nsIn K mainGlobals "copied_fills" = some (some (.ref f_qzj)))
  (l_qzj:FO K f_qzj IA "copied_fills" "copied_fills")
  (a_taken:nsIn K mainGlobals "taken" = some (some (.ref f_taken)))
  (l_taken:FOT K f_taken aM j8 "taken" "taken")
  (a_qqx:findIn K (.ref C_qvw) "__init__" = some (some (.ref f_qqx)))
  (i_qqx:isFn K (.ref f_qqx)=true)
  (l_qqx:FO K f_qqx N7 "__init__" "Taking.__init__")
  (a_qqq:findIn K (.ref C_qvw) "take_for_pieces" = some (some (.ref f_qqq)))
  (i_qqq:isFn K (.ref f_qqq)=true)
  (l_qqq:FO K f_qqq Ki "take_for_pieces" "Taking.take_for_pieces")
  (a_qqy:findIn K (.ref C_qvw) "take_for" = some (some (.ref f_qqy)))
  (i_qqy:isFn K (.ref f_qqy)=true)
  (l_qqy:FO K f_qqy M6 "take_for" "Taking.take_for")
  (a_qkz:nsIn K mainGlobals "pieces_on" = some (some (.ref f_qkz)))
  (l_qkz:FO K f_qkz MY "pieces_on" "pieces_on")
  (a_qqw:nsIn K mainGlobals "refuse_same_name" = some (some (.ref f_qqw)))
  (l_qqw:FO K f_qqw M4 "refuse_same_name" "refuse_same_name")
  (a_qwx:nsIn K mainGlobals "first_tellers" = some (some (.ref f_qwx)))
  (l_qwx:FO K f_qwx Nf "first_tellers" "first_tellers")
  (a_qjk:nsIn K mainGlobals "is_word" = some (some (.ref f_qjk)))
  (l_qjk:FO K f_qjk KS "is_word" "is_word")
  (a_is_at:nsIn K mainGlobals "is_at" = some (some (.ref f_is_at)))
  (l_is_at:FO K f_is_at wB "is_at" "is_at")
  (a_qkv:nsIn K mainGlobals "at_value" = some (some (.ref f_qkv)))
  (l_qkv:FO K f_qkv Ik "at_value" "at_value")
  (a_qzx:nsIn K mainGlobals "copied_value" = some (some (.ref f_qzx)))
  (l_qzx:FO K f_qzx HI "copied_value" "copied_value")
  (a_qxv:nsIn K mainGlobals "only_word" = some (some (.ref f_qxv)))
  (l_qxv:FO K f_qxv NV "only_word" "only_word")
  (a_qjw:nsIn K mainGlobals "moved_on" = some (some (.ref f_qjw)))
  (l_qjw:FO K f_qjw KR "moved_on" "moved_on")
  (a_qkj:nsIn K mainGlobals "at_first" = some (some (.ref f_qkj)))
  (l_qkj:FO K f_qkj Pb "at_first" "at_first")
  (a_qwz:nsIn K mainGlobals "of_two_values" = some (some (.ref f_qwz)))
  (l_qwz:FO K f_qwz OY "of_two_values" "of_two_values")
  (a_qqv:findIn K (.ref C_qvj) "__init__" = some (some (.ref f_qqv)))
  (i_qqv:isFn K (.ref f_qqv)=true)
  (l_qqv:FO K f_qqv MA "__init__" "Named.__init__")
  (a_qwy:findIn K (.ref C_qvj) "take_in" = some (some (.ref f_qwy)))
  (i_qwy:isFn K (.ref f_qwy)=true)
  (l_qwy:FO K f_qwy IH "take_in" "Named.take_in")
  (a_qyx:findIn K (.ref C_qvj) "go_on" = some (some (.ref f_qyx)))
  (i_qyx:isFn K (.ref f_qyx)=true)
  (l_qyx:FO K f_qyx HJ "go_on" "Named.go_on")
  (a_qyz:findIn K (.ref C_qvj) "state" = some (some (.ref f_qyz)))
  (i_qyz:isFn K (.ref f_qyz)=true)
  (l_qyz:FO K f_qyz O5 "state" "Named.state")
  (a_qqj:findIn K (.ref C_qvj) "is_inside" = some (some (.ref f_qqj)))
  (i_qqj:isFn K (.ref f_qqj)=true)
  (l_qqj:FO K f_qqj J7 "is_inside" "Named.is_inside")
  (a_qyw:findIn K (.ref C_qvj) "found" = some (some (.ref f_qyw)))
  (i_qyw:isFn K (.ref f_qyw)=true)
  (l_qyw:FO K f_qyw MV "found" "Named.found")
  (a_qqz:findIn K (.ref C_qvj) "stretch_of" = some (some (.ref f_qqz)))
  (i_qqz:isFn K (.ref f_qqz)=true)
  (l_qqz:FO K f_qqz JI "stretch_of" "Named.stretch_of")
  (a_qqk:findIn K (.ref C_qvj) "deed_here" = some (some (.ref f_qqk)))
  (i_qqk:isFn K (.ref f_qqk)=true)
  (l_qqk:FO K f_qqk Nm "deed_here" "Named.deed_here")
  (a_qjq:findIn K (.ref C_qvj) "do" = some (some (.ref f_qjq)))
  (i_qjq:isFn K (.ref f_qjq)=true)
  (l_qjq:FO K f_qjq OH "do" "Named.do")
  (a_qwk:findIn K (.ref C_qvj) "sought" = some (some (.ref f_qwk)))
  (i_qwk:isFn K (.ref f_qwk)=true)
  (l_qwk:FO K f_qwk OP "sought" "Named.sought")
  (a_qzk:findIn K (.ref C_qvj) "result" = some (some (.ref f_qzk)))
  (i_qzk:isFn K (.ref f_qzk)=true)
  (l_qzk:FO K f_qzk Nl "result" "Named.result")
  (a_qzw:nsIn K mainGlobals "_law_cell_at" = some (some (.ref f_qzw)))
  (l_qzw:FO K f_qzw Hx "_law_cell_at" "_law_cell_at")
  (a_qxy:nsIn K mainGlobals "_law_whole" = some (some (.ref f_qxy)))
  (l_qxy:FO K f_qxy IZ "_law_whole" "_law_whole")
  (a_qxz:nsIn K mainGlobals "_law_value" = some (some (.ref f_qxz)))
  (l_qxz:FO K f_qxz Pr "_law_value" "_law_value")
  (a_qyk:nsIn K mainGlobals "_law_values" = some (some (.ref f_qyk)))
  (l_qyk:FO K f_qyk Pt "_law_values" "_law_values")
  (a_qxq:nsIn K mainGlobals "_law_state" = some (some (.ref f_qxq)))
  (l_qxq:FO K f_qxq I_ "_law_state" "_law_state")
  (a_qyy:nsIn K mainGlobals "_law_turned" = some (some (.ref f_qyy)))
  (l_qyy:FO K f_qyy Hs "_law_turned" "_law_turned")
  (a_qkw:nsIn K mainGlobals "_law_bits" = some (some (.ref f_qkw)))
  (l_qkw:FO K f_qkw Ld "_law_bits" "_law_bits")
  (a_qwq:nsIn K mainGlobals "_law_reckoned" = some (some (.ref f_qwq)))
  (l_qwq:FO K f_qwq Je "_law_reckoned" "_law_reckoned")
  (a_qwj:nsIn K mainGlobals "_law_word_by" = some (some (.ref f_qwj)))
  (l_qwj:FO K f_qwj JE "_law_word_by" "_law_word_by")
  (a_qyv:nsIn K mainGlobals "_law_filled" = some (some (.ref f_qyv)))
  (l_qyv:FO K f_qyv K9 "_law_filled" "_law_filled")
  (a_qky:nsIn K mainGlobals "_law_kept" = some (some (.ref f_qky)))
  (l_qky:FO K f_qky Mb "_law_kept" "_law_kept")
  (a_qkx:nsIn K mainGlobals "_law_held" = some (some (.ref f_qkx)))
  (l_qkx:FO K f_qkx Mm "_law_held" "_law_held")
  (a_qyj:nsIn K mainGlobals "_law_walked" = some (some (.ref f_qyj)))
  (l_qyj:FO K f_qyj Pe "_law_walked" "_law_walked")
  (a_law:nsIn K mainGlobals "law" = some (some (.ref f_law)))
  (l_law:FO K f_law Io "law" "law")
  (fi_Low:findIn K (.ref C_Low) "__init__" = some (some (.ref f_qww)))
  (fi_qvv:findIn K (.ref C_qvv) "__init__" = some (some (.ref f_qww)))
  (pg_High:plainGet K C_High Str.empty=true)
  (hd_High:hasDictIn K C_High=true)
  (po_High:plainOver K C_High=true)
  (sa_High:findIn K (.ref C_High) "__setattr__" = some (some (.builtin "object.__setattr__")))
  (mm_High:makesIn K C_High=true)
  (kc_High:keepIn K (.ref C_High)=true)
  (pg_Low:plainGet K C_Low Str.empty=true)
  (hd_Low:hasDictIn K C_Low=true)
  (po_Low:plainOver K C_Low=true)
  (sa_Low:findIn K (.ref C_Low) "__setattr__" = some (some (.builtin "object.__setattr__")))
  (mm_Low:makesIn K C_Low=true)
  (kc_Low:keepIn K (.ref C_Low)=true)
  (pg_qvj:plainGet K C_qvj Str.empty=true)
  (hd_qvj:hasDictIn K C_qvj=true)
  (po_qvj:plainOver K C_qvj=true)
  (sa_qvj:findIn K (.ref C_qvj) "__setattr__" = some (some (.builtin "object.__setattr__")))
  (mm_qvj:makesIn K C_qvj=true)
  (kc_qvj:keepIn K (.ref C_qvj)=true)
  (pg_qvw:plainGet K C_qvw Str.empty=true)
  (hd_qvw:hasDictIn K C_qvw=true)
  (po_qvw:plainOver K C_qvw=true)
  (sa_qvw:findIn K (.ref C_qvw) "__setattr__" = some (some (.builtin "object.__setattr__")))
  (mm_qvw:makesIn K C_qvw=true)
  (kc_qvw:keepIn K (.ref C_qvw)=true)
  (pg_qvv:plainGet K C_qvv Str.empty=true)
  (hd_qvv:hasDictIn K C_qvv=true)
  (po_qvv:plainOver K C_qvv=true)
  (sa_qvv:findIn K (.ref C_qvv) "__setattr__" = some (some (.builtin "object.__setattr__")))
  (mm_qvv:makesIn K C_qvv=true)
  (kc_qvv:keepIn K (.ref C_qvv)=true)
  (pg_qjz:plainGet K C_qjz Str.empty=true)
  (hd_qjz:hasDictIn K C_qjz=true)
  (po_qjz:plainOver K C_qjz=true)
  (sa_qjz:findIn K (.ref C_qjz) "__setattr__" = some (some (.builtin "object.__setattr__")))
  (VX:kitOne K (.ref C_qjj) (.ref C_Lost)=some false)
  (Tj:kitOne K (.ref C_qjj) (.ref C_qvx)=some false)
  (Tw:kitOne K (.ref C_qjj) (.ref C_qjj)=some true)
  (U9:kitOne K (.ref C_qjj) (.type "ValueError")=some true)
  (Ip:mroIn K C_qjj (.ref C_qxj)=some true)
  (kw:kitOne K (.type "int") (.ref C_qjz)=some false)
  (AW:findIn K (.ref C_qjj) "__getattribute__" = some (some (.builtin "BaseException.__getattribute__")))
  (BF:findIn K (.ref C_qjj) "__getattr__" = some none)
  (Br:findIn K (.ref C_qjj) "__class__" = some (some (.builtin "object.__class__")))
  (A6:mroIn K C_qjj (.type "object")=some true)
  (A5:mroIn K C_qjj (.type "BaseException")=some true)
  (J9:specialIn K (.builtin "object.__class__") "__get__" = some (some (.builtin "getset_descriptor.__get__")))
  (NS:takesIn K (.builtin "object.__class__")=some true)
  (yR:excIn K C_qjj [.type "ValueError", .type "Exception", .type "BaseException", .type "object"] "ValueError.__new__" = true)
  (BR:instIn K (.ref C_qxj) (.type "tuple")=some false)
  (B8:mroIn K C_qxj (.type "BaseException")=some true)
  (bG:findIn K (.ref C_qvw) "pieces" = some none)
  (cT:findIn K (.ref C_qvw) "reasons" = some none)
  (bE:findIn K (.ref C_qvw) "told_by_given" = some none)
  (bD:findIn K (.ref C_qvw) "on_shelves" = some none)
  (bq:findIn K (.ref C_qvw) "from_shelves" = some none)
  (dQ:findIn K (.ref C_qvw) "unmet" = some none)
  (bH:findIn K (.ref C_qvj) "memory" = some none)
  (bM:findIn K (.ref C_qvj) "stretches" = some none)
  (br:findIn K (.ref C_qvj) "place" = some none)
  (aQ:findIn K (.ref C_qvj) "registers" = some none)
  (cn:findIn K (.ref C_qvj) "numbers" = some none)
  (cx:findIn K (.ref C_qvj) "ended" = some none)
  (fx:findIn K (.ref C_qvv) "title" = some none)
  (eF:findIn K (.ref C_High) "title" = some none)
  (dI:findIn K (.ref C_Low) "title" = some none)
  (EJ:nsIn K mainGlobals "DEEDS" = some (some (.ref jE)))
  (l_qvk:K.lookup jE=some ⟨.type "tuple", od_qvk,.seq #[.str "end" k_qvk_0,.str "tell" k_qvk_1,.str "put" k_qvk_2,.str "high" k_qvk_3,.str "add" k_qvk_4,.str "load" k_qvk_5,.str "store" k_qvk_6,.str "sum" k_qvk_7,.str "less" k_qvk_8,.str "both" k_qvk_9,.str "odd" k_qvk_10,.str "turn" k_qvk_11,.str "same" k_qvk_12,.str "under" k_qvk_13,.str "call" k_qvk_14,.str "go" k_qvk_15] n_qvk,sl_qvk⟩)
  (zY:nsIn K mainGlobals "WORD_BITS" = some (some (.int 32 zU)))
  (E3:nsIn K mainGlobals "WORD_COUNT" = some (some (.int 4294967296 zw)))
  (dJ:nsIn K mainGlobals "ValueError" = some none)
  (m_:nsIn K mainGlobals "bool" = some none)
  (dy:nsIn K mainGlobals "enumerate" = some none)
  (jL:nsIn K mainGlobals "int" = some none)
  (aB:nsIn K mainGlobals "isinstance" = some none)
  (eS:nsIn K mainGlobals "len" = some none)
  (cZ:nsIn K mainGlobals "list" = some none)
  (Ca:nsIn K mainGlobals "max" = some none)
  (cJ:nsIn K mainGlobals "range" = some none)
  (fC:nsIn K mainGlobals "reversed" = some none)
  (Dq:nsIn K mainGlobals "set" = some none)
  (d_:nsIn K mainGlobals "sorted" = some none)
  (zo:nsIn K mainGlobals "str" = some none)
  (iE:nsIn K mainGlobals "tuple" = some none)
  (Dl:nsIn K mainGlobals "zip" = some none)
  (a_bm:nsIn K mainGlobals "__builtins__" = some (some (.ref bm)))
  (l_bm:BMO K bm):
  ∃fd:FuncData,(∀(s:Shared) (v:Value),BindsTo s fd ⟨[v],[]⟩ [("_law_script", v)])/\∀base:Heap,K.In base->base.Ns mainGlobals mg->aG l.prog w K mg base bP 13 fa fd ["_law_script"] (vf K bh aM):=by
 have e:=hfa.symm.trans (mg_of X G a_law);cases e;obtain⟨_,Dc,fM⟩:=az l_qjy;have fW:=Dc.binds (ps:=["number"]) λ_ _ _ _ _ _ us hl=>cj us hl λ_=>rfl;obtain⟨_,kP,fh⟩:=az l_field;have fy:=kP.binds (ps:=["word", "low", "many"]) λ_ _ _ _ _ _ us hl=>ot us hl λ_ _ _=>rfl;obtain⟨_,Fc,EF⟩:=az l_qxw;have Df:=Fc.binds (ps:=["word", "low", "many", "number"]) λ_ _ _ _ _ _ us hl=>wY us hl λ_ _ _ _=>rfl;obtain⟨_,DB,Ow⟩:=az l_qvq;have Ls:=DB.binds (ps:=["number", "many"]) λ_ _ _ _ _ _ us hl=>iL us hl λ_ _=>rfl;obtain⟨_,E8,Pm⟩:=az l_qvz;have Ic:=E8.binds (ps:=["word", "by"]) λ_ _ _ _ _ _ us hl=>iL us hl λ_ _=>rfl;obtain⟨_,tN,jr⟩:=az l_ones;have jf:=tN.binds (ps:=["many"]) λ_ _ _ _ _ _ us hl=>cj us hl λ_=>rfl;obtain⟨_,kO,gD⟩:=az l_moved;have gA:=kO.binds (ps:=["number", "up"]) λ_ _ _ _ _ _ us hl=>iL us hl λ_ _=>rfl;obtain⟨_,Dd,Lm⟩:=az l_qjv;have Kj:=Dd.binds (ps:=["word"]) λ_ _ _ _ _ _ us hl=>cj us hl λ_=>rfl;obtain⟨_,j0,uX⟩:=az l_op_of;have tH:=j0.binds (ps:=["word"]) λ_ _ _ _ _ _ us hl=>cj us hl λ_=>rfl;obtain⟨_,vL,B2⟩:=az l_a_of;have BS:=vL.binds (ps:=["word"]) λ_ _ _ _ _ _ us hl=>cj us hl λ_=>rfl;obtain⟨_,wJ,sr⟩:=az l_b_of;have vi:=wJ.binds (ps:=["word"]) λ_ _ _ _ _ _ us hl=>cj us hl λ_=>rfl
 obtain⟨_,uI,Bq⟩:=az l_c_of;have Bu:=uI.binds (ps:=["word"]) λ_ _ _ _ _ _ us hl=>cj us hl λ_=>rfl;obtain⟨_,ud,oM⟩:=az l_n_of;have nH:=ud.binds (ps:=["word"]) λ_ _ _ _ _ _ us hl=>cj us hl λ_=>rfl;obtain⟨_,xN,BL⟩:=az l_s_of;have B0:=xN.binds (ps:=["word"]) λ_ _ _ _ _ _ us hl=>cj us hl λ_=>rfl;obtain⟨_,Er,HQ⟩:=az l_qzy;have LM:=Er.binds (ps:=["deed", "first", "second"]) λ_ _ _ _ _ _ us hl=>ot us hl λ_ _ _=>rfl;obtain⟨_,mM,ue⟩:=az l_tells;have r8:=mM.binds (ps:=["piece"]) λ_ _ _ _ _ _ us hl=>cj us hl λ_=>rfl;obtain⟨_,kx,uL⟩:=az l_wants;have uA:=kx.binds (ps:=["piece"]) λ_ _ _ _ _ _ us hl=>cj us hl λ_=>rfl;obtain⟨_,_,_,_,_,_,_,_,_,l_qkk,e_qkk,Fw,h_qkk⟩:=l_qkk;have C2:=qH l_qkk e_qkk Fw;have Jy:=C2.binds (ps:=["pieces"]) λ_ _ _ _ _ _ us hl=>cj us hl λ_=>rfl;obtain⟨_,Fn,NF⟩:=az l_qwv;have K6:=Fn.binds (ps:=["ordered"]) λ_ _ _ _ _ _ us hl=>cj us hl λ_=>rfl;obtain⟨_,xv,B6⟩:=az l_aims;have BY:=xv.binds (ps:=["piece", "names", "fills"]) λ_ _ _ _ _ _ us hl=>ot us hl λ_ _ _=>rfl;obtain⟨_,EC,IX⟩:=az l_qvy;have JY:=EC.binds (ps:=["piece_name", "own", "names", "fill"]) λ_ _ _ _ _ _ us hl=>wY us hl λ_ _ _ _=>rfl;obtain⟨_,Cu,qj⟩:=az l_qyq
 have qc:=Cu.binds (ps:=["piece", "told_by"]) λ_ _ _ _ _ _ us hl=>iL us hl λ_ _=>rfl;obtain⟨_,Ek,Av⟩:=az l_qjx;have AD:=Ek.binds (ps:=["title"]) λ_ _ _ _ _ _ us hl=>cj us hl λ_=>rfl;obtain⟨_,EM,SH⟩:=az l_qww;have Af:=EM.binds (ps:=["self", "title"]) λ_ _ _ _ _ _ us hl=>iL us hl λ_ _=>rfl;obtain⟨_,E_,Mg⟩:=az l_qzq;have N_:=E_.binds (ps:=["self", "word", "here", "there"]) λ_ _ _ _ _ _ us hl=>wY us hl λ_ _ _ _=>rfl;obtain⟨_,D5,Li⟩:=az l_qzv;have Hw:=D5.binds (ps:=["self", "word", "here", "there"]) λ_ _ _ _ _ _ us hl=>wY us hl λ_ _ _ _=>rfl;obtain⟨_,DI,Oh⟩:=az l_qxk;have Ig:=DI.binds (ps:=["self", "word", "here", "there"]) λ_ _ _ _ _ _ us hl=>wY us hl λ_ _ _ _=>rfl;obtain⟨_,Dz,IL⟩:=az l_qzz;have Pw:=Dz.binds (ps:=["piece"]) λ_ _ _ _ _ _ us hl=>cj us hl λ_=>rfl;obtain⟨_,DQ,K1⟩:=az l_qzj;have Lx:=DQ.binds (ps:=["fills"]) λ_ _ _ _ _ _ us hl=>cj us hl λ_=>rfl;obtain⟨_,_,_,_,_,_,_,_,_,l_taken,e_taken,lA,h_taken⟩:=l_taken;have mS:=qH l_taken e_taken lA;have uo:=mS.binds (ps:=["given", "shelves", "entry"]) λ_ _ _ _ _ _ us hl=>ot us hl λ_ _ _=>rfl;obtain⟨_,E2,Sw⟩:=az l_qqx;have Lr:=E2.binds (ps:=["self", "given", "shelves", "entry"]) λ_ _ _ _ _ _ us hl=>wY us hl λ_ _ _ _=>rfl;obtain⟨_,Cs,HW⟩:=az l_qqq
 have NU:=Cs.binds (ps:=["self"]) λ_ _ _ _ _ _ us hl=>cj us hl λ_=>rfl;obtain⟨_,Ci,Iy⟩:=az l_qqy;have EL:=Ci.binds (ps:=["self", "name", "by"]) λ_ _ _ _ _ _ us hl=>ot us hl λ_ _ _=>rfl;obtain⟨_,CM,MG⟩:=az l_qkz;have JZ:=CM.binds (ps:=["shelves"]) λ_ _ _ _ _ _ us hl=>cj us hl λ_=>rfl;obtain⟨_,Ef,O_⟩:=az l_qqw;have Kk:=Ef.binds (ps:=["pieces"]) λ_ _ _ _ _ _ us hl=>cj us hl λ_=>rfl;obtain⟨_,CL,Ds⟩:=az l_qwx;have Dh:=CL.binds (ps:=["pieces"]) λ_ _ _ _ _ _ us hl=>cj us hl λ_=>rfl;obtain⟨_,CS,gX⟩:=az l_qjk;have g7:=CS.binds (ps:=["value"]) λ_ _ _ _ _ _ us hl=>cj us hl λ_=>rfl;obtain⟨_,mF,mx⟩:=az l_is_at;have ku:=mF.binds (ps:=["value"]) λ_ _ _ _ _ _ us hl=>cj us hl λ_=>rfl;obtain⟨_,Dj,MH⟩:=az l_qkv;have Og:=Dj.binds (ps:=["aimed"]) λ_ _ _ _ _ _ us hl=>cj us hl λ_=>rfl;obtain⟨_,FN,AI⟩:=az l_qzx;have AE:=FN.binds (ps:=["value"]) λ_ _ _ _ _ _ us hl=>cj us hl λ_=>rfl;obtain⟨_,Ey,La⟩:=az l_qxv;have Ma:=Ey.binds (ps:=["value"]) λ_ _ _ _ _ _ us hl=>cj us hl λ_=>rfl;obtain⟨_,Cy,CP⟩:=az l_qjw;have De:=Cy.binds (ps:=["value", "number"]) λ_ _ _ _ _ _ us hl=>iL us hl λ_ _=>rfl;obtain⟨_,EK,IW⟩:=az l_qkj;have KU:=EK.binds (ps:=["word", "title", "aimed"]) λ_ _ _ _ _ _ us hl=>ot us hl λ_ _ _=>rfl
 obtain⟨_,EE,Ie⟩:=az l_qwz;have JU:=EE.binds (ps:=["deed", "first", "second"]) λ_ _ _ _ _ _ us hl=>ot us hl λ_ _ _=>rfl;obtain⟨_,D1,SK⟩:=az l_qqv;have Es:=D1.binds (ps:=["self", "given", "shelves", "entry", "registers"]) λ_ _ _ _ _ _ us hl=>Tu us hl λ_ _ _ _ _=>rfl;obtain⟨_,C7,HV⟩:=az l_qwy;have H_:=C7.binds (ps:=["self", "piece", "names"]) λ_ _ _ _ _ _ us hl=>ot us hl λ_ _ _=>rfl;obtain⟨_,Em,ON⟩:=az l_qyx;have z9:=Em.binds (ps:=["self"]) λ_ _ _ _ _ _ us hl=>cj us hl λ_=>rfl;obtain⟨_,Fl,Ox⟩:=az l_qyz;have pE:=Fl.binds (ps:=["self"]) λ_ _ _ _ _ _ us hl=>cj us hl λ_=>rfl;obtain⟨_,CC,Kn⟩:=az l_qqj;have J8:=CC.binds (ps:=["self", "value"]) λ_ _ _ _ _ _ us hl=>iL us hl λ_ _=>rfl;obtain⟨_,E7,Lb⟩:=az l_qyw;have Nb:=E7.binds (ps:=["self", "value"]) λ_ _ _ _ _ _ us hl=>iL us hl λ_ _=>rfl;obtain⟨_,Eu,OL⟩:=az l_qqz;have Kt:=Eu.binds (ps:=["self", "value"]) λ_ _ _ _ _ _ us hl=>iL us hl λ_ _=>rfl;obtain⟨_,Dp,LX⟩:=az l_qqk;have Ot:=Dp.binds (ps:=["self"]) λ_ _ _ _ _ _ us hl=>cj us hl λ_=>rfl;obtain⟨_,CD,IJ⟩:=az l_qjq;have HS:=CD.binds (ps:=["self", "word", "aimed"]) λ_ _ _ _ _ _ us hl=>ot us hl λ_ _ _=>rfl;obtain⟨_,E4,HA⟩:=az l_qwk;have MS:=E4.binds (ps:=["self", "word", "aimed"]) λ_ _ _ _ _ _ us hl=>ot us hl λ_ _ _=>rfl
 obtain⟨_,Di,K_⟩:=az l_qzk;have LK:=Di.binds (ps:=["self", "deed", "word", "aimed"]) λ_ _ _ _ _ _ us hl=>wY us hl λ_ _ _ _=>rfl;obtain⟨_,C9,ML⟩:=az l_qzw;have HP:=C9.binds (ps:=["_law_script", "_law_k"]) λ_ _ _ _ _ _ us hl=>iL us hl λ_ _=>rfl;obtain⟨_,FK,zG⟩:=az l_qxy;have zp:=FK.binds (ps:=["_law_found"]) λ_ _ _ _ _ _ us hl=>cj us hl λ_=>rfl;obtain⟨_,CT,Cr⟩:=az l_qxz;have Du:=CT.binds (ps:=["_law_found", "_law_due"]) λ_ _ _ _ _ _ us hl=>iL us hl λ_ _=>rfl;obtain⟨_,Ei,Fq⟩:=az l_qyk;have C5:=Ei.binds (ps:=["_law_found", "_law_due"]) λ_ _ _ _ _ _ us hl=>iL us hl λ_ _=>rfl;obtain⟨_,ER,p_⟩:=az l_qxq;have pB:=ER.binds (ps:=["_law_found", "_law_spot", "_law_row", "_law_told", "_law_ended"]) λ_ _ _ _ _ _ us hl=>Tu us hl λ_ _ _ _ _=>rfl;obtain⟨_,CB,Nu⟩:=az l_qyy;have NY:=CB.binds (ps:=["_law_word", "_law_by"]) λ_ _ _ _ _ _ us hl=>iL us hl λ_ _=>rfl;obtain⟨_,DP,KG⟩:=az l_qkw;have MW:=DP.binds (ps:=["_law_one", "_law_other", "_law_odd"]) λ_ _ _ _ _ _ us hl=>ot us hl λ_ _ _=>rfl;obtain⟨_,ES,Ll⟩:=az l_qwq;have Nt:=ES.binds (ps:=["_law_op", "_law_left", "_law_right", "_law_n"]) λ_ _ _ _ _ _ us hl=>wY us hl λ_ _ _ _=>rfl;obtain⟨_,FC,Ia⟩:=az l_qwj;have LD:=FC.binds (ps:=["_law_cell"]) λ_ _ _ _ _ _ us hl=>cj us hl λ_=>rfl;obtain⟨_,Eg,HH⟩:=az l_qyv
 have Ir:=Eg.binds (ps:=["_law_cells", "_law_skip", "_law_words", "_law_fills"]) λ_ _ _ _ _ _ us hl=>wY us hl λ_ _ _ _=>rfl;obtain⟨_,CG,DJ⟩:=az l_qky;have EH:=CG.binds (ps:=["_law_machine"]) λ_ _ _ _ _ _ us hl=>cj us hl λ_=>rfl;obtain⟨_,DX,Pc⟩:=az l_qkx;have Jt:=DX.binds (ps:=["_law_machine", "_law_held_here"]) λ_ _ _ _ _ _ us hl=>iL us hl λ_ _=>rfl;obtain⟨_,Fz,NJ⟩:=az l_qyj;have Oi:=Fz.binds (ps:=["_law_machine", "_law_words", "_law_at", "_law_row", "_law_held_here"]) λ_ _ _ _ _ _ us hl=>Tu us hl λ_ _ _ _ _=>rfl;obtain⟨_,_,_,_,_,_,_,_,_,l_law,e_law,LZ⟩:=l_law;have E9:=qH l_law e_law LZ;have SY:=E9.binds (ps:=["_law_script"]) λ_ _ _ _ _ _ us hl=>cj us hl λ_=>rfl;obtain⟨_,n1_bm,n2_bm,l_bm⟩:=l_bm
 have T:Txt K mg { ZU:=f_qjy,v5:=_,field:=f_field,iH:=_,Yd:=f_qxw,sH:=_,YY:=f_qvq,qM:=_,m9:=f_qvz,yD:=_,ones:=f_ones,jZ:=_,moved:=f_moved,iz:=_,WC:=f_qjv,qZ:=_,zK:=f_op_of,iV:=_,O4:=f_a_of,lB:=_,KO:=f_b_of,kY:=_,O2:=f_c_of,kT:=_,Oz:=f_n_of,j4:=_,IU:=f_s_of,mL:=_,WA:=f_qzy,rG:=_,tells:=f_tells,i5:=_,wants:=f_wants,iF:=_,WR:=f_qkk,nQ:=_,ZM:=f_qwv,rg:=_,Ht:=f_aims,lG:=_,Xk:=f_qvy,yU:=_,WB:=f_qyq,uG:=_,Y1:=f_qjx,vj:=_,UD:=f_qww,vT:=_,Yt:=f_qzq,vB:=_,WQ:=f_qzv,yr:=_,YJ:=f_qxk,xJ:=_,YX:=f_qzz,tR:=_,ZP:=f_qzj,y_:=_,taken:=f_taken,fQ:=_,X3:=f_qqx,xC:=_,X4:=f_qqq,vA:=_,Zs:=f_qqy,qL:=_,Yo:=f_qkz,xY:=_,Ww:=f_qqw,rK:=_,ZV:=f_qwx,vU:=_,WM:=f_qjk,wC:=_,Ao:=f_is_at,iS:=_,Ze:=f_qkv,uE:=_,YO:=f_qzx,uB:=_,X7:=f_qxv,wV:=_,Zw:=f_qjw,wF:=_,ZT:=f_qkj,rV:=_,YE:=f_qwz,vk:=_,Z9:=f_qqv,x2:=_,Xm:=f_qwy,yQ:=_,X1:=f_qyx,sU:=_,Wu:=f_qyz,xT:=_,Xy:=f_qqj,xU:=_,YF:=f_qyw,xy:=_,Zm:=f_qqz,y0:=_,WO:=f_qqk,t_:=_,XU:=f_qjq,xS:=_,Xv:=f_qwk,sV:=_,Yn:=f_qzk,sF:=_,ZD:=f_qzw,yb:=_,Y3:=f_qxy,yE:=_,XC:=f_qxz,uf:=_,Zp:=f_qyk,vM:=_,Xw:=f_qxq,tQ:=_,XJ:=f_qyy,yy:=_,WX:=f_qkw,qR:=_,Zk:=f_qwq,v_:=_,Yr:=f_qwj,uC:=_,Zd:=f_qyv,wg:=_,Xg:=f_qky,uQ:=_,XX:=f_qkx,vI:=_,YV:=f_qyj,yl:=_,Z0:=fa,xD:=_,jE:=jE,zU:=zU,zw:=zw,ff:=C_High,Ap:=C_qxj,wU:=C_Lost,iK:=C_Low,aH:=C_qvj,cG:=C_qjj,aK:=C_qvw,CY:=C_qvx,iW:=C_qvv,AH:=C_qjz,bh:=bh,aM:=aM }:={
  g0:=mg_of X G a_qjy
  fM,
  fW,
  Dc,
  gr:=mg_of X G a_field
  fh,
  fy,
  kP,
  Ih:=mg_of X G a_qxw
  EF,
  Df,
  Fc,
  Sy:=mg_of X G a_qvq
  Ow,
  Ls,
  DB,
  RM:=mg_of X G a_qvz
  Pm,
  Ic,
  E8,
  oH:=mg_of X G a_ones
  jr,
  jf,
  tN,
  iJ:=mg_of X G a_moved
  gD,
  gA,
  kO,
  RQ:=mg_of X G a_qjv
  Lm,
  Kj,
  Dd,
  DZ:=mg_of X G a_op_of
  uX,
  tH,
  j0,
  LC:=mg_of X G a_a_of
  B2,
  BS,
  vL,
  A9:=mg_of X G a_b_of
  sr,
  vi,
  wJ,
  NR:=mg_of X G a_c_of
  Bq,
  Bu,
  uI,
  y3:=mg_of X G a_n_of
  oM,
  nH,
  ud,
  JC:=mg_of X G a_s_of
  BL,
  B0,
  xN,
  Sv:=mg_of X G a_qzy
  HQ,
  LM,
  Er,
  E6:=mg_of X G a_tells
  ue,
  r8,
  mM,
  EX:=mg_of X G a_wants
  uL,
  uA,
  kx,
  Ms:=⟨_,rfl,h_qkk⟩
  Rt:=mg_of X G a_qkk
  Fw,
  Jy,
  C2,
  Sj:=mg_of X G a_qwv
  NF,
  K6,
  Fn,
  Lv:=mg_of X G a_aims
  B6,
  BY,
  xv,
  RL:=mg_of X G a_qvy
  IX,
  JY,
  EC,
  zZ:=mg_of X G a_qyq
  qj,
  qc,
  Cu,
  FI:=mg_of X G a_qjx
  Av,
  AD,
  Ek,
  SH,
  Af,
  EM,
  Mg,
  N_,
  E_,
  Li,
  Hw,
  D5,
  Oh,
  Ig,
  DI,
  Sh:=mg_of X G a_qzz
  IL,
  Pw,
  Dz,
  S4:=mg_of X G a_qzj
  K1,
  Lx,
  DQ,
  zA:=⟨_,rfl,h_taken⟩
  El:=mg_of X G a_taken
  lA,
  uo,
  mS,
  Sw,
  Lr,
  E2,
  HW,
  NU,
  Cs,
  Iy,
  EL,
  Ci,
  Ru:=mg_of X G a_qkz
  MG,
  JZ,
  CM,
  Rw:=mg_of X G a_qqw
  O_,
  Kk,
  Ef,
  Ni:=mg_of X G a_qwx
  Ds,
  Dh,
  CL,
  iB:=mg_of X G a_qjk
  gX,
  g7,
  CS,
  x_:=mg_of X G a_is_at
  mx,
  ku,
  mF,
  Sk:=mg_of X G a_qkv
  MH,
  Og,
  Dj,
  DH:=mg_of X G a_qzx
  AI,
  AE,
  FN,
  SA:=mg_of X G a_qxv
  La,
  Ma,
  Ey,
  NA:=mg_of X G a_qjw
  CP,
  De,
  Cy,
  RY:=mg_of X G a_qkj
  IW,
  KU,
  EK,
  SR:=mg_of X G a_qwz
  Ie,
  JU,
  EE,
  SK,
  Es,
  D1,
  HV,
  H_,
  C7,
  ON,
  z9,
  Em,
  Ox,
  pE,
  Fl,
  Kn,
  J8,
  CC,
  Lb,
  Nb,
  E7,
  OL,
  Kt,
  Eu,
  LX,
  Ot,
  Dp,
  IJ,
  HS,
  CD,
  HA,
  MS,
  E4,
  K_,
  LK,
  Di,
  Sr:=mg_of X G a_qzw
  ML,
  HP,
  C9,
  EY:=mg_of X G a_qxy
  zG,
  zp,
  FK,
  O6:=mg_of X G a_qxz
  Cr,
  Du,
  CT,
  Lw:=mg_of X G a_qyk
  Fq,
  C5,
  Ei,
  zh:=mg_of X G a_qxq
  p_,
  pB,
  ER,
  SI:=mg_of X G a_qyy
  Nu,
  NY,
  CB,
  RV:=mg_of X G a_qkw
  KG,
  MW,
  DP,
  Rz:=mg_of X G a_qwq
  Ll,
  Nt,
  ES,
  Sg:=mg_of X G a_qwj
  Ia,
  LD,
  FC,
  RI:=mg_of X G a_qyv
  HH,
  Ir,
  Eg,
  MK:=mg_of X G a_qky
  DJ,
  EH,
  CG,
  SW:=mg_of X G a_qkx
  Pc,
  Jt,
  DX,
  SX:=mg_of X G a_qyj
  NJ,
  Oi,
  Fz,
  Yx:=mg_of X G a_law
  LZ,
  SY,
  E9,
  EJ:=mg_of X G EJ
  SU:=λH=>.inr ⟨_,_,_,l_qvk,rfl,rfl,(by rw[sizeLine_eq];exact(by decide:(16:Nat)<=16777216)),.cons gJ (.cons gJ (.cons gJ (.cons gJ (.cons gJ (.cons gJ (.cons gJ (.cons gJ (.cons gJ (.cons gJ (.cons gJ (.cons gJ (.cons gJ (.cons gJ (.cons gJ (.cons gJ (.nil))))))))))))))))⟩
  zY:=mg_of X G zY
  E3:=mg_of X G E3
  bm:=⟨bm,_,mg_of X G a_bm,n1_bm,n2_bm,l_bm⟩
  dJ:=mg_none_of X G dJ
  m_:=mg_none_of X G m_
  dy:=mg_none_of X G dy
  jL:=mg_none_of X G jL
  aB:=mg_none_of X G aB
  eS:=mg_none_of X G eS
  cZ:=mg_none_of X G cZ
  Ca:=mg_none_of X G Ca
  cJ:=mg_none_of X G cJ
  fC:=mg_none_of X G fC
  Dq:=mg_none_of X G Dq
  d_:=mg_none_of X G d_
  zo:=mg_none_of X G zo
  iE:=mg_none_of X G iE
  Dl:=mg_none_of X G Dl
  C4:=mg_of X G ac_High
  rL:=⟨pg_High,hd_High,po_High,sa_High⟩
  MD:=mg_of X G ac_qxj
  DV:=mg_of X G ac_Lost
  Pf:=mg_of X G ac_Low
  BB:=⟨pg_Low,hd_Low,po_Low,sa_Low⟩
  BM:=mg_of X G ac_qvj
  aC:=⟨pg_qvj,hd_qvj,po_qvj,sa_qvj⟩
  tP:=mg_of X G ac_qjj
  Me:=mg_of X G ac_qvw
  bF:=⟨pg_qvw,hd_qvw,po_qvw,sa_qvw⟩
  JH:=mg_of X G ac_qvx
  N2:=mg_of X G ac_qvv
  Bx:=⟨pg_qvv,hd_qvv,po_qvv,sa_qvv⟩
  NW:=mg_of X G ac_qjz
  U_:=⟨pg_qjz,hd_qjz,po_qjz,sa_qjz⟩
  VX,
  Tj,
  Tw,
  U9,
  Ip,
  kw,
  AW,
  BF,
  Br,
  A6,
  A5,
  J9,
  NS,
  yR,
  BR,
  B8,
  Cp:=⟨mm_High,a_qww,i_qww,kc_High⟩
  HZ:=⟨mm_Low,fi_Low,i_qww,kc_Low⟩
  B4:=⟨mm_qvj,a_qqv,i_qqv,kc_qvj⟩
  MI:=⟨mm_qvw,a_qqx,i_qqx,kc_qvw⟩
  Mz:=⟨mm_qvv,fi_qvv,i_qww,kc_qvv⟩
  Jd:=⟨a_qzv,i_qzv,Li⟩
  Jf:=⟨a_qxk,i_qxk,Oh⟩
  Kd:=⟨a_qqk,i_qqk,LX⟩
  KD:=⟨a_qjq,i_qjq,IJ⟩
  Iw:=⟨a_qyw,i_qyw,Lb⟩
  sD:=⟨a_qyx,i_qyx,ON⟩
  KJ:=⟨a_qqj,i_qqj,Kn⟩
  ID:=⟨a_qzk,i_qzk,K_⟩
  Mi:=⟨a_qwk,i_qwk,HA⟩
  oF:=⟨a_qyz,i_qyz,Ox⟩
  N8:=⟨a_qqz,i_qqz,OL⟩
  I0:=⟨a_qwy,i_qwy,HV⟩
  AR:=⟨a_qqy,i_qqy,Iy⟩
  Pn:=⟨a_qqq,i_qqq,HW⟩
  HF:=⟨a_qzq,i_qzq,Mg⟩
  bG,
  cT,
  bE,
  bD,
  bq,
  dQ,
  bH,
  bM,
  br,
  aQ,
  cn,
  cx,
  fx,
  eF,
  dI:=dI }
 exact⟨_,λs v=>.of_eq rfl,λbase _ _=>YT T⟩
theorem walk{l:PySem.W.OpenLaw}{q:Program}{loose:List Str}{XP:(Str->Option Value)->Heap->Prop}{YP:World->Heap->Prop}{d:DefRec}{K:Params->Wf}{bh aM:Addr}(hn:l.most=some 63)(hdf:d.params.defaults=[])(hne:bh≠aM)
  (hY:∀(w:World) (h:Heap),YP w h->(K w.params).In h)
  (hT:∀(w:World) (h:Heap) (lo:List Str) (mean:ExcName->Option Value) (mg mb:So),(K w.params).In h->Top q lo mean mg mb h->∀T∈[bh,aM],IG (K w.params) h T)
  (F:∀(w:World) (mg:So) (fa:Addr) (h:Heap),(K w.params).In h->h.Ns mainGlobals mg->mg d.name=some (.ref fa)->
   ∃fd:FuncData,(∀(s:Shared) (u:Value),BindsTo s fd ⟨[u],[]⟩ [("_law_script", u)])/\∀base:Heap,(K w.params).In base->base.Ns mainGlobals mg->aG l.prog w (K w.params) mg base bP 13 fa fd ["_law_script"] (vf (K w.params) bh aM)):
  PySem.W.WalkO q loose XP YP l.row.toRowW d [] (λf vs=>PySem.call f vs):=
 L2.ME (n:=63) (k:=13) (x := "_law_script") (CX:=λ_=>bP) (sp:=λw=>vf (K w.params) bh aM) hn (by decide) hdf ⟨rfl,by decide,by decide⟩ hY hT F (λ_ _ a ns hl hE hS=>⟨a,ns,rfl,hS,hl,hE _ (by simp),hE _ (by simp),hne,λ_=>rfl⟩) λ_ _ _ _ _ z=>z
end My
namespace Hd
open PySem PySem.W PySem.Calls PyProof.Rows
variable(P:Params)
noncomputable abbrev pw:Program:=PySem.Challenge.pw_joinload_k61_words_run_by_names
noncomputable def T(i:Nat):Stmt:=My.top i
noncomputable def C(i j:Nat):Stmt:=L2.inClass (My.top i) j
noncomputable abbrev k(P:Params)(x:Str)(t:Tok)(v:Value):DictEntry:=⟨PyData.keyHash P x,.str x t,v⟩
noncomputable abbrev fn(s:Stmt)(x q:Str)(dV kV doc pm:Value)(an:Option Addr)(cd ct:Value):FuncData:=fnOf x q (L2.fj s) (L2.dq s) (L2.ag s) dV kV doc pm an cd ct
noncomputable abbrev e1:Obj:=⟨.type "tuple", none,.seq #[] 0,#[]⟩
noncomputable abbrev e2:Obj:=⟨.none,none,.fields #[],#[]⟩
noncomputable abbrev bp:Obj:=⟨.type "builtin_function_or_method", none,.fields #[.builtin "type.__prepare__", .type "type"],#[]⟩
noncomputable abbrev tu(x:Array Value):Obj:=⟨.type "tuple", none,.seq x 0,#[]⟩
noncomputable abbrev nf(x:Array Value):Obj:=⟨.none,none,.fields x,#[]⟩
noncomputable abbrev bs(a:Addr):Obj:=⟨.type "builtin_function_or_method", none,.fields #[.builtin "object.__init_subclass__", .ref a],#[]⟩
noncomputable abbrev su(a:Addr):Obj:=⟨.type "super", none,.fields #[.ref a,.ref a,.ref a],#[]⟩
noncomputable abbrev co(x q:Str)(t:Nat)(l a b:Int)(r:Addr)(o:Bool)(r2:Addr)(v:Value)(u:Nat):Obj:=⟨.type "code", none,.fields #[.str x t,.str q (t+1),.str "/claim/cut.py" (t+2),.int l 0,.int a 0,.int 0 0,.int 0 0,.int b 0,.ref r,.bool o,.int 181 0,.ref r2,.none,.none,.none,v,.int (Int.ofNat u) 0,.int l 0,.str "/claim/cut.py" (u+1)],#[]⟩
noncomputable abbrev cf(x q:Str)(t:Nat)(l a:Int)(r u:Nat):Obj:=⟨.type "code", none,.fields #[.str x t,.str q (t+1),.str "/claim/cut.py" (t+2),.int l 0,.int a 0,.int 0 0,.int 0 0,.int 3 0,.ref r,.bool true,.int 181 0,.ref (r+1),.none,.ref (r+2),.ref (r+3),.ref (r+4),.int (Int.ofNat u) 0,.int l 0,.str "/claim/cut.py" (u+1)],#[]⟩
noncomputable abbrev cc(x:Str)(b:Value)(s:Addr)(m:List Value)(d:Addr)(l:List Value)(o:Option Value)(t u:Nat)(n:String):Obj:=⟨.type "type", none,.cls ⟨x,[b],.ref s::m,d,x,true,[],l,false,none,false⟩,#[o,none,some (.str x t),some (.str x u),some (.builtin n),some (.bool true)]⟩
noncomputable def nl:List Nat->List Value
 |a::b::c::r=>.int (Int.ofNat a) 0::.int (Int.ofNat b) 0::.ref c::nl r
 |_=>[]
noncomputable abbrev fm(a b:Addr)(v:Value):Obj:=⟨.type "frame", none,.plain,#[some (.ref a),some (.ref 3),some (.ref b),none,some v,none,some (.ref 0)]⟩
noncomputable abbrev fo(s:Stmt)(x q m:Str)(t:Nat)(c:Addr):Obj:=⟨.type "function", none,.func (fn s x q .none .none .none (.str m t) none (.ref c) .none),#[]⟩
noncomputable abbrev ft(s:Stmt)(x q:Str):Obj:=⟨.none,none,.func { fn s x q .none .none .none .none none .none .none with globals:=0,closure:=[],builtins:=0 },#[]⟩
noncomputable abbrev di(l:List DictEntry)(n:Nat):Obj:=⟨.type "dict", none,.dict l.toArray n,#[]⟩
noncomputable def sv:List DictEntry->Nat->Value->List DictEntry
 |[],_,_=>[]
 |e::r,0,v=>⟨e.hash,e.key,v⟩::r
 |e::r,n+1,v=>e::sv r n v
noncomputable def od:List (Nat×Obj)->List (Nat×Obj)
 |[]=>[]
 | (i,o)::r=>match Nat.beq (i % 2) 1 with
  |true=>(i / 2,o)::od r
  |false=>od r
noncomputable def ev:List (Nat×Obj)->List (Nat×Obj)
 |[]=>[]
 | (i,o)::r=>match Nat.beq i 0 with
  |true=>ev r
  |false=>match Nat.beq (i % 2) 1 with
   |true=>ev r
   |false=>(i / 2 - 1,o)::ev r
noncomputable def at0(v:Obj):List (Nat×Obj)->Obj
 |[]=>v
 | (i,o)::r=>match Nat.beq i 0 with
  |true=>o
  |false=>at0 v r
noncomputable def mg:Nat->BT->List (Nat×Obj)->BT
 |0,t,_=>t
 |f+1,t,d=>match d with
  |[]=>t
  |x::r=>match t with
   |.nil=>.node (at0 default (x::r)) (mg f .nil (od (x::r))) (mg f .nil (ev (x::r)))
   |.node v a b=>.node (at0 v (x::r)) (mg f a (od (x::r))) (mg f b (ev (x::r)))
noncomputable def bd:List Stmt:=behindTheImports pw
noncomputable def en:Env:={ scope:=pw.main.scope,locals:=mainNs,globals:=mainNs,cells:=[],code:=(.ref 13),frame:=some 14 }
noncomputable abbrev cE:Code:=.body bd en
noncomputable abbrev B:List Frame:=[topFrame ⟨0,0,0,0⟩]
noncomputable def li:Life:={ registered:=[],finalised:=[],alive:=[],known:=0,ids:=[],orphanDicts:=[],counting:=false,cnt:=⟨[]⟩,zero:=[],soft:=0,below:=false,collecting:=false,loading:=false,debug:=0,thresholds:=[2000,10,10],woke:=false,asked:=0,gcEnabled:=true,old:=[],middle:=[],young:=0,intoMiddle:=false }
noncomputable abbrev an:Option Value:=(some (.ref 6))
noncomputable abbrev sT(t:BT)(n k:Nat)(os:OsState):SharedT:=⟨t,n,li,⟨[]⟩,boot_drawn,k,os⟩
noncomputable abbrev sR(w:World)(n:Nat)(S S':World->OsState->SharedT)(l:List Stmt)(p p':Pos):Prop:=(λos=>segRunT treeTable pw w 11 an 1 n (S w os) (piecesOf l en cE p B))=λos=>some (.next,S' w os,cE,p')
noncomputable def N1:Obj:=co "<module>" "<module>" 182 1 0 0 11 false 12 .none 185
noncomputable def OB:Obj:=fm 13 3 (.str "__main__" 164)
noncomputable def Ha(P:Params):Heap:=⟨⟨boot_o_0 P::boot_o_1 P::boot_o_2 P::boot_o_3 P::boot_o_4 P::boot_o_5 P::boot_o_6 P::boot_o_7 P::boot_o_8 P::boot_o_9 P::boot_o_10 P::e1::e2::N1::OB::[]⟩,li⟩
noncomputable def S0(w:World)(os:OsState):Shared:=⟨boot_heap w.params,⟨[]⟩,boot_drawn,boot_toks,os⟩
noncomputable def Sa(w:World)(os:OsState):Shared:=⟨Ha w.params,⟨[]⟩,boot_drawn,187,os⟩
def Pre(w:World):Prop:=(λos=>topGo treeTable pw w 11 an 12 (S0 w os) (topStub pw))=λos=>some (Sa w os,⟨denote treeTable cE,cE,⟨0,0,0,0⟩,B⟩)
noncomputable def D0(P:Params):List (Nat×Obj):=(0,boot_o_0 P)::(1,boot_o_1 P)::(2,boot_o_2 P)::(3,boot_o_3 P)::(4,boot_o_4 P)::(5,boot_o_5 P)::(6,boot_o_6 P)::(7,boot_o_7 P)::(8,boot_o_8 P)::(9,boot_o_9 P)::(10,boot_o_10 P)::(11,e1)::(12,e2)::(13,N1)::(14,OB)::[]
noncomputable def T0(P:Params):BT:=mg 14 .nil (D0 P)
noncomputable def S0T(w:World):OsState->SharedT:=sT (T0 w.params) 15 187
def Blk(w:World):Prop:=(λos=>segRun treeTable pw w 11 an 1 1 (Sa w os) (blockOf bd en cE ⟨0,0,0,0⟩ B))=λos=>some (.next,(S0T w os).abs,cE,⟨0,0,0,0⟩)
noncomputable def ZG(P:Params):List DictEntry:=[k P "__name__" 165 (.str "joinload.errors" 351),k P "__doc__" 166 .none,k P "__package__" 167 .none,k P "__loader__" 168 (.builtin "__main__.__loader__#opaque"),k P "__spec__" 169 .none,k P "__annotations__" 170 (.ref 6),k P "__builtins__" 171 (.ref 4),k P "__file__" 173 (.str "/claim/cut.py" 172),k P "__cached__" 174 .none,k P "_wall" 193 (.ref 21),k P "WORD_BITS" 197 (.int 32 196),k P "WORD_COUNT" 199 (.int 4294967296 198),k P "wrapped" 206 (.ref 28),k P "field" 215 (.ref 35),k P "with_field" 226 (.ref 42),k P "signed" 235 (.ref 49),k P "turned" 244 (.ref 56),k P "ones" 251 (.ref 63),k P "moved" 259 (.ref 70),k P "DEEDS" 278 (.ref 71),k P "deed_of" 285 (.ref 78),k P "op_of" 292 (.ref 85),k P "a_of" 299 (.ref 92),k P "b_of" 306 (.ref 99),k P "c_of" 313 (.ref 106),k P "n_of" 320 (.ref 113),k P "s_of" 327 (.ref 120),k P "near_of" 334 (.ref 127),k P "split_of" 341 (.ref 134),k P "of_two_words" 350 (.ref 141),k P "JoinError" 370 (.ref 151)]
noncomputable def abt:Obj:=⟨(.type "dict"),none,.dict (ZG P).toArray 31,#[]⟩
noncomputable def ZH:Obj:=nf (nl [1,0,20,7,0,27,9,0,34,11,0,41,14,0,48,17,0,55,20,0,62,22,0,69,28,0,77,30,0,84,32,0,91,34,0,98,36,0,105,38,0,112,40,0,119,42,0,126,44,0,133,46,0,140,57,0,147]).toArray
noncomputable def C0:Obj:=tu #[.str "k" 190]
noncomputable def SM:Obj:=ft (T 0) "_wall" "_wall"
noncomputable def C_:Obj:=cf "_wall" "_wall" 187 1 1 15 191
noncomputable def EB:Obj:=fo (T 0) "_wall" "_wall" "__main__" 164 20
noncomputable def D4:Obj:=tu #[.str "number" 203]
noncomputable def RJ:Obj:=ft (T 4) "wrapped" "wrapped"
noncomputable def Dk:Obj:=cf "wrapped" "wrapped" 200 7 1 22 204
noncomputable def Cq:Obj:=fo (T 4) "wrapped" "wrapped" "joinload.bits" 194 27
noncomputable def ET:Obj:=tu #[.str "word" 210,.str "low" 211,.str "many" 212]
noncomputable def R_:Obj:=ft (T 5) "field" "field"
noncomputable def CK:Obj:=cf "field" "field" 207 9 3 29 213
noncomputable def FG:Obj:=fo (T 5) "field" "field" "joinload.bits" 194 34
noncomputable def DR:Obj:=tu #[.str "word" 219,.str "low" 220,.str "many" 221,.str "number" 222,.str "others" 223]
noncomputable def Sd:Obj:=ft (T 6) "with_field" "with_field"
noncomputable def E1:Obj:=cf "with_field" "with_field" 216 11 4 36 224
noncomputable def D8:Obj:=fo (T 6) "with_field" "with_field" "joinload.bits" 194 41
noncomputable def EN:Obj:=tu #[.str "number" 230,.str "many" 231,.str "half" 232]
noncomputable def RD:Obj:=ft (T 7) "signed" "signed"
noncomputable def C3:Obj:=cf "signed" "signed" 227 14 2 43 233
noncomputable def B_:Obj:=fo (T 7) "signed" "signed" "joinload.bits" 194 48
noncomputable def Fh:Obj:=tu #[.str "word" 239,.str "by" 240,.str "right" 241]
noncomputable def RH:Obj:=ft (T 8) "turned" "turned"
noncomputable def CA:Obj:=cf "turned" "turned" 236 17 2 50 242
noncomputable def Ez:Obj:=fo (T 8) "turned" "turned" "joinload.bits" 194 55
noncomputable def EV:Obj:=tu #[.str "many" 248]
noncomputable def Sq:Obj:=ft (T 9) "ones" "ones"
noncomputable def Dt:Obj:=cf "ones" "ones" 245 20 1 57 249
noncomputable def DE:Obj:=fo (T 9) "ones" "ones" "joinload.bits" 194 62
noncomputable def Ed:Obj:=tu #[.str "number" 255,.str "up" 256]
noncomputable def SQ:Obj:=ft (T 10) "moved" "moved"
noncomputable def FE:Obj:=cf "moved" "moved" 252 22 2 64 257
noncomputable def EA:Obj:=fo (T 10) "moved" "moved" "joinload.bits" 194 69
noncomputable def CF:Obj:=tu #[.str "end" 262,.str "tell" 263,.str "put" 264,.str "high" 265,.str "add" 266,.str "load" 267,.str "store" 268,.str "sum" 269,.str "less" 270,.str "both" 271,.str "odd" 272,.str "turn" 273,.str "same" 274,.str "under" 275,.str "call" 276,.str "go" 277]
noncomputable def Cc:Obj:=tu #[.str "word" 282]
noncomputable def Su:Obj:=ft (T 13) "deed_of" "deed_of"
noncomputable def DK:Obj:=cf "deed_of" "deed_of" 279 28 1 72 283
noncomputable def Et:Obj:=fo (T 13) "deed_of" "deed_of" "joinload.deeds" 260 77
noncomputable def Dn:Obj:=tu #[.str "word" 289]
noncomputable def Ss:Obj:=ft (T 14) "op_of" "op_of"
noncomputable def EW:Obj:=cf "op_of" "op_of" 286 30 1 79 290
noncomputable def EZ:Obj:=fo (T 14) "op_of" "op_of" "joinload.deeds" 260 84
noncomputable def En:Obj:=tu #[.str "word" 296]
noncomputable def RF:Obj:=ft (T 15) "a_of" "a_of"
noncomputable def CW:Obj:=cf "a_of" "a_of" 293 32 1 86 297
noncomputable def D_:Obj:=fo (T 15) "a_of" "a_of" "joinload.deeds" 260 91
noncomputable def D7:Obj:=tu #[.str "word" 303]
noncomputable def RN:Obj:=ft (T 16) "b_of" "b_of"
noncomputable def Ep:Obj:=cf "b_of" "b_of" 300 34 1 93 304
noncomputable def Ct:Obj:=fo (T 16) "b_of" "b_of" "joinload.deeds" 260 98
noncomputable def wW:Obj:=tu #[.str "word" 310]
noncomputable def Jg:Obj:=ft (T 17) "c_of" "c_of"
noncomputable def w6:Obj:=cf "c_of" "c_of" 307 36 1 100 311
noncomputable def vt:Obj:=fo (T 17) "c_of" "c_of" "joinload.deeds" 260 105
noncomputable def xr:Obj:=tu #[.str "word" 317]
noncomputable def IM:Obj:=ft (T 18) "n_of" "n_of"
noncomputable def vS:Obj:=cf "n_of" "n_of" 314 38 1 107 318
noncomputable def yK:Obj:=fo (T 18) "n_of" "n_of" "joinload.deeds" 260 112
noncomputable def ui:Obj:=tu #[.str "word" 324]
noncomputable def OT:Obj:=ft (T 19) "s_of" "s_of"
noncomputable def yc:Obj:=cf "s_of" "s_of" 321 40 1 114 325
noncomputable def wX:Obj:=fo (T 19) "s_of" "s_of" "joinload.deeds" 260 119
noncomputable def vG:Obj:=tu #[.str "word" 331]
noncomputable def MZ:Obj:=ft (T 20) "near_of" "near_of"
noncomputable def wM:Obj:=cf "near_of" "near_of" 328 42 1 121 332
noncomputable def vK:Obj:=fo (T 20) "near_of" "near_of" "joinload.deeds" 260 126
noncomputable def yp:Obj:=tu #[.str "word" 338]
noncomputable def JO:Obj:=ft (T 21) "split_of" "split_of"
noncomputable def tJ:Obj:=cf "split_of" "split_of" 335 44 1 128 339
noncomputable def vh:Obj:=fo (T 21) "split_of" "split_of" "joinload.deeds" 260 133
noncomputable def vo:Obj:=tu #[.str "deed" 345,.str "first" 346,.str "second" 347]
noncomputable def Jr:Obj:=ft (T 22) "of_two_words" "of_two_words"
noncomputable def y8:Obj:=cf "of_two_words" "of_two_words" 342 46 3 135 348
noncomputable def xB:Obj:=fo (T 22) "of_two_words" "of_two_words" "joinload.deeds" 260 140
noncomputable def JB:=di [k P "__module__" 360 (.str "joinload.errors" 351),k P "__qualname__" 362 (.str "JoinError" 361),k P "__firstlineno__" 364 (.int 57 363),k P "__static_attributes__" 365 (.ref 149)] 4
noncomputable def LI:Obj:=co "JoinError" "JoinError" 355 57 0 0 145 false 146 .none 358
noncomputable def Kv:Obj:=fm 147 144 (.str "joinload.errors" 351)
noncomputable def xo:=di [k P "__module__" 360 (.str "joinload.errors" 351),k P "__firstlineno__" 364 (.int 57 363),k P "__static_attributes__" 365 (.ref 149),k P "__weakref__" 367 (.ref 152),k P "__doc__" 368 .none] 3
noncomputable def UT:Obj:=cc "JoinError" (.type "ValueError") 151 [.type "ValueError",.type "Exception",.type "BaseException",.type "object"] 150 [] (some (.ref 142)) 353 361 "ValueError.__new__"
noncomputable def v3:Obj:=⟨(.type "getset_descriptor"),none,(.fields #[.str "__weakref__" 366,.ref 151,.builtin "ExceptionGroup.__weakref__",.none]),#[]⟩
noncomputable def ack(P:Params)(r:List (Nat×Obj)):List (Nat×Obj):=(3,abt P)::(12,ZH)::(15,e1)::(16,e2)::(17,C0)::(18,e1)::(19,SM)::(20,C_)::(21,EB)::(22,e1)::(23,e2)::(24,D4)::(25,e1)::(26,RJ)::(27,Dk)::(28,Cq)::(29,e1)::(30,e2)::(31,ET)::(32,e1)::(33,R_)::(34,CK)::(35,FG)::(36,e1)::r
noncomputable def aa3(P:Params)(r:List (Nat×Obj)):List (Nat×Obj):=(37,e2)::(38,DR)::(39,e1)::(40,Sd)::(41,E1)::(42,D8)::(43,e1)::(44,e2)::(45,EN)::(46,e1)::(47,RD)::(48,C3)::(49,B_)::(50,e1)::(51,e2)::(52,Fh)::(53,e1)::(54,RH)::(55,CA)::(56,Ez)::(57,e1)::(58,e2)::(59,EV)::(60,e1)::r
noncomputable def aa1(P:Params)(r:List (Nat×Obj)):List (Nat×Obj):=(61,Sq)::(62,Dt)::(63,DE)::(64,e1)::(65,e2)::(66,Ed)::(67,e1)::(68,SQ)::(69,FE)::(70,EA)::(71,CF)::(72,e1)::(73,e2)::(74,Cc)::(75,e1)::(76,Su)::(77,DK)::(78,Et)::(79,e1)::(80,e2)::(81,Dn)::(82,e1)::(83,Ss)::(84,EW)::r
noncomputable def acr(P:Params)(r:List (Nat×Obj)):List (Nat×Obj):=(85,EZ)::(86,e1)::(87,e2)::(88,En)::(89,e1)::(90,RF)::(91,CW)::(92,D_)::(93,e1)::(94,e2)::(95,D7)::(96,e1)::(97,RN)::(98,Ep)::(99,Ct)::(100,e1)::(101,e2)::(102,wW)::(103,e1)::(104,Jg)::(105,w6)::(106,vt)::(107,e1)::(108,e2)::r
noncomputable def abF(P:Params)(r:List (Nat×Obj)):List (Nat×Obj):=(109,xr)::(110,e1)::(111,IM)::(112,vS)::(113,yK)::(114,e1)::(115,e2)::(116,ui)::(117,e1)::(118,OT)::(119,yc)::(120,wX)::(121,e1)::(122,e2)::(123,vG)::(124,e1)::(125,MZ)::(126,wM)::(127,vK)::(128,e1)::(129,e2)::(130,yp)::(131,e1)::(132,JO)::r
noncomputable def aa_(P:Params)(r:List (Nat×Obj)):List (Nat×Obj):=(133,tJ)::(134,vh)::(135,e1)::(136,e2)::(137,vo)::(138,e1)::(139,Jr)::(140,y8)::(141,xB)::(142,tu #[.type "ValueError"])::(143,bp)::(144,JB P)::(145,e1)::(146,e2)::(147,LI)::(148,Kv)::(149,e1)::(150,xo P)::(151,UT)::(152,v3)::(153,su 151)::(154,bs 151)::r
noncomputable def T1(P:Params):BT:=mg 14 (T0 P) (ack P (aa3 P (aa1 P (acr P (abF P (aa_ P ([])))))))
noncomputable def S1T(w:World):OsState->SharedT:=sT (T1 w.params) 155 371
noncomputable def L0:List Stmt:=My.top 0::My.top 1::My.top 2::My.top 3::My.top 4::My.top 5::My.top 6::My.top 7::My.top 8::My.top 9::My.top 10::My.top 11::My.top 12::My.top 13::My.top 14::My.top 15::My.top 16::My.top 17::My.top 18::My.top 19::My.top 20::My.top 21::My.top 22::My.top 23::My.top 24::[]
def P0(w:World):Prop:=sR w 793 S0T S1T L0 ⟨0,0,0,0⟩ ⟨57,0,58,8⟩
noncomputable def Yl(P:Params):List DictEntry:=ZG P++[k P "NoRule" 386 (.ref 164),k P "Twice" 415 (.ref 183),k P "SameName" 440 (.ref 202)]
noncomputable def abf:Obj:=⟨(.type "dict"),none,.dict (Yl P).toArray 34,#[]⟩
noncomputable def Z2:Obj:=nf (nl [1,0,20,7,0,27,9,0,34,11,0,41,14,0,48,17,0,55,20,0,62,22,0,69,28,0,77,30,0,84,32,0,91,34,0,98,36,0,105,38,0,112,40,0,119,42,0,126,44,0,133,46,0,140,57,0,147,59,0,160,61,0,172,68,0,191]).toArray
noncomputable def Vp:Obj:=cc "JoinError" (.type "ValueError") 151 [.type "ValueError",.type "Exception",.type "BaseException",.type "object"] 150 [.ref 164,.ref 183,.ref 202] (some (.ref 142)) 353 361 "ValueError.__new__"
noncomputable def Kh:=di [k P "__module__" 378 (.str "joinload.errors" 351),k P "__qualname__" 380 (.str "NoRule" 379),k P "__firstlineno__" 382 (.int 59 381),k P "__static_attributes__" 383 (.ref 162)] 4
noncomputable def JL:Obj:=co "NoRule" "NoRule" 373 59 0 0 158 false 159 .none 376
noncomputable def LR:Obj:=fm 160 157 (.str "joinload.errors" 351)
noncomputable def sk:=di [k P "__module__" 378 (.str "joinload.errors" 351),k P "__firstlineno__" 382 (.int 59 381),k P "__static_attributes__" 383 (.ref 162),k P "__doc__" 384 .none] 2
noncomputable def x9:Obj:=cc "NoRule" (.ref 151) 164 [.ref 151,.type "ValueError",.type "Exception",.type "BaseException",.type "object"] 163 [] (some (.ref 155)) 371 379 "ValueError.__new__"
noncomputable def Mp:=di [k P "__module__" 394 (.str "joinload.errors" 351),k P "__qualname__" 396 (.str "Twice" 395),k P "__firstlineno__" 398 (.int 61 397),k P "__init__" 408 (.ref 180),k P "__static_attributes__" 412 (.ref 181)] 5
noncomputable def OV:Obj:=nf (nl [63,4,179]).toArray
noncomputable def N0:Obj:=co "Twice" "Twice" 389 61 0 0 170 false 171 .none 392
noncomputable def Mr:Obj:=fm 172 169 (.str "joinload.errors" 351)
noncomputable def wx:Obj:=tu #[.str "self" 402,.str "name" 403,.str "one" 404,.str "other" 405]
noncomputable def Iz:Obj:=ft (C 26 0) "__init__" "Twice.__init__"
noncomputable def yd:Obj:=cf "__init__" "Twice.__init__" 399 63 4 174 406
noncomputable def wm:Obj:=fo (C 26 0) "__init__" "Twice.__init__" "joinload.errors" 351 179
noncomputable def uq:Obj:=tu #[.str "name" 409,.str "one" 410,.str "other" 411]
noncomputable def rW:=di [k P "__module__" 394 (.str "joinload.errors" 351),k P "__firstlineno__" 398 (.int 61 397),k P "__init__" 408 (.ref 180),k P "__static_attributes__" 412 (.ref 181),k P "__doc__" 413 .none] 2
noncomputable def wL:Obj:=cc "Twice" (.ref 151) 183 [.ref 151,.type "ValueError",.type "Exception",.type "BaseException",.type "object"] 182 [] (some (.ref 167)) 387 395 "ValueError.__new__"
noncomputable def Ln:=di [k P "__module__" 423 (.str "joinload.errors" 351),k P "__qualname__" 425 (.str "SameName" 424),k P "__firstlineno__" 427 (.int 68 426),k P "__init__" 435 (.ref 199),k P "__static_attributes__" 437 (.ref 200)] 5
noncomputable def IP:Obj:=nf (nl [70,4,198]).toArray
noncomputable def OE:Obj:=co "SameName" "SameName" 418 68 0 0 189 false 190 .none 421
noncomputable def NL:Obj:=fm 191 188 (.str "joinload.errors" 351)
noncomputable def qS:Obj:=tu #[.str "self" 431,.str "name" 432]
noncomputable def Jb:Obj:=ft (C 27 0) "__init__" "SameName.__init__"
noncomputable def w_:Obj:=cf "__init__" "SameName.__init__" 428 70 2 193 433
noncomputable def xW:Obj:=fo (C 27 0) "__init__" "SameName.__init__" "joinload.errors" 351 198
noncomputable def uj:Obj:=tu #[.str "name" 436]
noncomputable def ub:=di [k P "__module__" 423 (.str "joinload.errors" 351),k P "__firstlineno__" 427 (.int 68 426),k P "__init__" 435 (.ref 199),k P "__static_attributes__" 437 (.ref 200),k P "__doc__" 438 .none] 2
noncomputable def yP:Obj:=cc "SameName" (.ref 151) 202 [.ref 151,.type "ValueError",.type "Exception",.type "BaseException",.type "object"] 201 [] (some (.ref 186)) 416 424 "ValueError.__new__"
noncomputable def aaG(P:Params)(r:List (Nat×Obj)):List (Nat×Obj):=(3,abf P)::(12,Z2)::(151,Vp)::(155,tu #[.ref 151])::(156,bp)::(157,Kh P)::(158,e1)::(159,e2)::(160,JL)::(161,LR)::(162,e1)::(163,sk P)::(164,x9)::(165,su 164)::(166,bs 164)::(167,tu #[.ref 151])::(168,bp)::(169,Mp P)::(170,e1)::(171,OV)::(172,N0)::(173,Mr)::(174,e1)::(175,e2)::r
noncomputable def abh(P:Params)(r:List (Nat×Obj)):List (Nat×Obj):=(176,wx)::(177,e1)::(178,Iz)::(179,yd)::(180,wm)::(181,uq)::(182,rW P)::(183,wL)::(184,su 183)::(185,bs 183)::(186,tu #[.ref 151])::(187,bp)::(188,Ln P)::(189,e1)::(190,IP)::(191,OE)::(192,NL)::(193,e1)::(194,e2)::(195,qS)::(196,e1)::(197,Jb)::(198,w_)::(199,xW)::r
noncomputable def aco(P:Params)(r:List (Nat×Obj)):List (Nat×Obj):=(200,uj)::(201,ub P)::(202,yP)::(203,su 202)::(204,bs 202)::r
noncomputable def T2(P:Params):BT:=mg 14 (T1 P) (aaG P (abh P (aco P ([]))))
noncomputable def S2T(w:World):OsState->SharedT:=sT (T2 w.params) 205 441
noncomputable def L1:List Stmt:=My.top 25::My.top 26::My.top 27::[]
def P1(w:World):Prop:=sR w 708 S1T S2T L1 ⟨57,0,58,8⟩ ⟨68,0,72,24⟩
noncomputable def WD(P:Params):List DictEntry:=sv (Yl P) 0 (.str "joinload.names" 509)++[k P "Unmet" 467 (.ref 221),k P "Lost" 492 (.ref 240),k P "NoSense" 508 (.ref 252),k P "tells" 516 (.ref 259),k P "wants" 534 (.ref 266),k P "names_of" 545 (.ref 273),k P "refuse_twice" 551 (.ref 278),k P "aims" 557 (.ref 283)]
noncomputable def aay:Obj:=⟨(.type "dict"),none,.dict (WD P).toArray 42,#[]⟩
noncomputable def Xf:Obj:=nf (nl [1,0,20,7,0,27,9,0,34,11,0,41,14,0,48,17,0,55,20,0,62,22,0,69,28,0,77,30,0,84,32,0,91,34,0,98,36,0,105,38,0,112,40,0,119,42,0,126,44,0,133,46,0,140,57,0,147,59,0,160,61,0,172,68,0,191,73,0,210,79,0,229,84,0,248,87,0,258,89,0,265,97,0,272,105,0,277,114,0,282]).toArray
noncomputable def yq:Obj:=cc "JoinError" (.type "ValueError") 151 [.type "ValueError",.type "Exception",.type "BaseException",.type "object"] 150 [.ref 164,.ref 183,.ref 202,.ref 221,.ref 240,.ref 252] (some (.ref 142)) 353 361 "ValueError.__new__"
noncomputable def LB:=di [k P "__module__" 448 (.str "joinload.errors" 351),k P "__qualname__" 450 (.str "Unmet" 449),k P "__firstlineno__" 452 (.int 73 451),k P "__init__" 461 (.ref 218),k P "__static_attributes__" 464 (.ref 219)] 5
noncomputable def MO:Obj:=nf (nl [75,4,217]).toArray
noncomputable def HG:Obj:=co "Unmet" "Unmet" 443 73 0 0 208 false 209 .none 446
noncomputable def Lp:Obj:=fm 210 207 (.str "joinload.errors" 351)
noncomputable def xP:Obj:=tu #[.str "self" 456,.str "name" 457,.str "piece" 458]
noncomputable def Ke:Obj:=ft (C 28 0) "__init__" "Unmet.__init__"
noncomputable def y9:Obj:=cf "__init__" "Unmet.__init__" 453 75 3 212 459
noncomputable def yn:Obj:=fo (C 28 0) "__init__" "Unmet.__init__" "joinload.errors" 351 217
noncomputable def wj:Obj:=tu #[.str "name" 462,.str "piece" 463]
noncomputable def sq:=di [k P "__module__" 448 (.str "joinload.errors" 351),k P "__firstlineno__" 452 (.int 73 451),k P "__init__" 461 (.ref 218),k P "__static_attributes__" 464 (.ref 219),k P "__doc__" 465 .none] 2
noncomputable def yI:Obj:=cc "Unmet" (.ref 151) 221 [.ref 151,.type "ValueError",.type "Exception",.type "BaseException",.type "object"] 220 [] (some (.ref 205)) 441 449 "ValueError.__new__"
noncomputable def M7:=di [k P "__module__" 475 (.str "joinload.errors" 351),k P "__qualname__" 477 (.str "Lost" 476),k P "__firstlineno__" 479 (.int 79 478),k P "__init__" 487 (.ref 237),k P "__static_attributes__" 489 (.ref 238)] 5
noncomputable def Oq:Obj:=nf (nl [81,4,236]).toArray
noncomputable def JQ:Obj:=co "Lost" "Lost" 470 79 0 0 227 false 228 .none 473
noncomputable def Nd:Obj:=fm 229 226 (.str "joinload.errors" 351)
noncomputable def tZ:Obj:=tu #[.str "self" 483,.str "place" 484]
noncomputable def Lf:Obj:=ft (C 29 0) "__init__" "Lost.__init__"
noncomputable def wR:Obj:=cf "__init__" "Lost.__init__" 480 81 2 231 485
noncomputable def tf:Obj:=fo (C 29 0) "__init__" "Lost.__init__" "joinload.errors" 351 236
noncomputable def sW:Obj:=tu #[.str "place" 488]
noncomputable def vY:=di [k P "__module__" 475 (.str "joinload.errors" 351),k P "__firstlineno__" 479 (.int 79 478),k P "__init__" 487 (.ref 237),k P "__static_attributes__" 489 (.ref 238),k P "__doc__" 490 .none] 2
noncomputable def u7:Obj:=cc "Lost" (.ref 151) 240 [.ref 151,.type "ValueError",.type "Exception",.type "BaseException",.type "object"] 239 [] (some (.ref 224)) 468 476 "ValueError.__new__"
noncomputable def JV:=di [k P "__module__" 500 (.str "joinload.errors" 351),k P "__qualname__" 502 (.str "NoSense" 501),k P "__firstlineno__" 504 (.int 84 503),k P "__static_attributes__" 505 (.ref 250)] 4
noncomputable def Mf:Obj:=co "NoSense" "NoSense" 495 84 0 0 246 false 247 .none 498
noncomputable def IC:Obj:=fm 248 245 (.str "joinload.errors" 351)
noncomputable def wA:=di [k P "__module__" 500 (.str "joinload.errors" 351),k P "__firstlineno__" 504 (.int 84 503),k P "__static_attributes__" 505 (.ref 250),k P "__doc__" 506 .none] 2
noncomputable def vy:Obj:=cc "NoSense" (.ref 151) 252 [.ref 151,.type "ValueError",.type "Exception",.type "BaseException",.type "object"] 251 [] (some (.ref 243)) 493 501 "ValueError.__new__"
noncomputable def HN:Obj:=ft (T 32) "tells" "tells"
noncomputable def uy:Obj:=co "tells" "tells" 511 87 1 3 255 true 256 (.ref 257) 514
noncomputable def sC:Obj:=fo (T 32) "tells" "tells" "joinload.names" 509 258
noncomputable def qU:Obj:=tu #[.str "piece" 520,.str "own" 521,.str "wanted" 522,.str "kind" 523,.str "step" 524,.str "words" 525,.str "fills" 526,.str "at" 527,.str "rule" 528,.str "name" 529,.str "add" 530,.str "soft" 531]
noncomputable def Ov:Obj:=ft (T 33) "wants" "wants"
noncomputable def yS:Obj:=cf "wants" "wants" 517 89 1 260 532
noncomputable def qX:Obj:=fo (T 33) "wants" "wants" "joinload.names" 509 265
noncomputable def xK:Obj:=tu #[.str "pieces" 538,.str "ordered" 539,.str "names" 540,.str "sort" 541,.str "piece" 542]
noncomputable def IY:Obj:=ft (T 34) "names_of" "names_of"
noncomputable def uw:Obj:=cf "names_of" "names_of" 535 97 1 267 543
noncomputable def uD:Obj:=fo (T 34) "names_of" "names_of" "joinload.names" 509 272
noncomputable def Ib:Obj:=ft (T 35) "refuse_twice" "refuse_twice"
noncomputable def qK:Obj:=co "refuse_twice" "refuse_twice" 546 105 1 3 274 true 275 (.ref 276) 549
noncomputable def vO:Obj:=fo (T 35) "refuse_twice" "refuse_twice" "joinload.names" 509 277
noncomputable def JK:Obj:=ft (T 36) "aims" "aims"
noncomputable def vp:Obj:=co "aims" "aims" 552 114 3 3 279 true 280 (.ref 281) 555
noncomputable def yN:Obj:=fo (T 36) "aims" "aims" "joinload.names" 509 282
noncomputable def abO(P:Params)(r:List (Nat×Obj)):List (Nat×Obj):=(3,aay P)::(12,Xf)::(151,yq)::(205,tu #[.ref 151])::(206,bp)::(207,LB P)::(208,e1)::(209,MO)::(210,HG)::(211,Lp)::(212,e1)::(213,e2)::(214,xP)::(215,e1)::(216,Ke)::(217,y9)::(218,yn)::(219,wj)::(220,sq P)::(221,yI)::(222,su 221)::(223,bs 221)::(224,tu #[.ref 151])::(225,bp)::r
noncomputable def acg(P:Params)(r:List (Nat×Obj)):List (Nat×Obj):=(226,M7 P)::(227,e1)::(228,Oq)::(229,JQ)::(230,Nd)::(231,e1)::(232,e2)::(233,tZ)::(234,e1)::(235,Lf)::(236,wR)::(237,tf)::(238,sW)::(239,vY P)::(240,u7)::(241,su 240)::(242,bs 240)::(243,tu #[.ref 151])::(244,bp)::(245,JV P)::(246,e1)::(247,e2)::(248,Mf)::(249,IC)::r
noncomputable def abv(P:Params)(r:List (Nat×Obj)):List (Nat×Obj):=(250,e1)::(251,wA P)::(252,vy)::(253,su 252)::(254,bs 252)::(255,e1)::(256,e2)::(257,HN)::(258,uy)::(259,sC)::(260,e1)::(261,e2)::(262,qU)::(263,e1)::(264,Ov)::(265,yS)::(266,qX)::(267,e1)::(268,e2)::(269,xK)::(270,e1)::(271,IY)::(272,uw)::(273,uD)::r
noncomputable def aa5(P:Params)(r:List (Nat×Obj)):List (Nat×Obj):=(274,e1)::(275,e2)::(276,Ib)::(277,qK)::(278,vO)::(279,e1)::(280,e2)::(281,JK)::(282,vp)::(283,yN)::r
noncomputable def T3(P:Params):BT:=mg 14 (T2 P) (abO P (acg P (abv P (aa5 P ([])))))
noncomputable def S3T(w:World):OsState->SharedT:=sT (T3 w.params) 284 558
noncomputable def L2:List Stmt:=My.top 28::My.top 29::My.top 30::My.top 31::My.top 32::My.top 33::My.top 34::My.top 35::My.top 36::[]
def P2(w:World):Prop:=sR w 866 S2T S3T L2 ⟨68,0,72,24⟩ ⟨114,0,116,65⟩
noncomputable def Zt(P:Params):List DictEntry:=sv (WD P) 0 (.str "joinload.rules" 585)++[k P "aim_by" 571 (.ref 290),k P "places_told" 584 (.ref 297),k P "rule_of" 593 (.ref 304),k P "Rule" 657 (.ref 349),k P "Whole" 692 (.ref 377)]
noncomputable def ab7:Obj:=⟨(.type "dict"),none,.dict (Zt P).toArray 47,#[]⟩
noncomputable def X8:Obj:=nf (nl [1,0,20,7,0,27,9,0,34,11,0,41,14,0,48,17,0,55,20,0,62,22,0,69,28,0,77,30,0,84,32,0,91,34,0,98,36,0,105,38,0,112,40,0,119,42,0,126,44,0,133,46,0,140,57,0,147,59,0,160,61,0,172,68,0,191,73,0,210,79,0,229,84,0,248,87,0,258,89,0,265,97,0,272,105,0,277,114,0,282,117,0,289,127,0,296,134,0,303,146,0,310,162,0,359]).toArray
noncomputable def qO:Obj:=tu #[.str "piece_name" 561,.str "own" 562,.str "names" 563,.str "fill" 564,.str "name" 565,.str "add" 566,.str "soft" 567,.str "place" 568]
noncomputable def Kw:Obj:=ft (T 37) "aim_by" "aim_by"
noncomputable def tW:Obj:=cf "aim_by" "aim_by" 558 117 4 284 569
noncomputable def rY:Obj:=fo (T 37) "aim_by" "aim_by" "joinload.names" 509 289
noncomputable def qD:Obj:=tu #[.str "piece" 575,.str "told_by" 576,.str "places" 577,.str "name" 578,.str "sort" 579,.str "stretch" 580,.str "offset" 581]
noncomputable def Lj:Obj:=ft (T 38) "places_told" "places_told"
noncomputable def wN:Obj:=cf "places_told" "places_told" 572 127 2 291 582
noncomputable def tT:Obj:=fo (T 38) "places_told" "places_told" "joinload.names" 509 296
noncomputable def uc:Obj:=tu #[.str "title" 590]
noncomputable def Ks:Obj:=ft (T 40) "rule_of" "rule_of"
noncomputable def wD:Obj:=cf "rule_of" "rule_of" 587 134 1 298 591
noncomputable def sM:Obj:=fo (T 40) "rule_of" "rule_of" "joinload.rules" 585 303
noncomputable def UU(P:Params):List DictEntry:=[k P "__module__" 601 (.str "joinload.rules" 585),k P "__qualname__" 603 (.str "Rule" 602),k P "__firstlineno__" 605 (.int 146 604),k P "__init__" 613 (.ref 318),k P "fits" 622 (.ref 325),k P "filled" 632 (.ref 332),k P "read_back" 641 (.ref 339),k P "leans" 648 (.ref 346),k P "__static_attributes__" 650 (.ref 347)]
noncomputable def OJ:Obj:=⟨(.type "dict"),none,.dict (UU P).toArray 9,#[]⟩
noncomputable def Ng:Obj:=nf (nl [148,4,317,151,4,324,154,4,331,157,4,338,160,4,345]).toArray
noncomputable def OM:Obj:=co "Rule" "Rule" 596 146 0 0 308 false 309 .none 599
noncomputable def Ny:Obj:=fm 310 307 (.str "joinload.rules" 585)
noncomputable def tE:Obj:=tu #[.str "self" 609,.str "title" 610]
noncomputable def Pd:Obj:=ft (C 41 0) "__init__" "Rule.__init__"
noncomputable def tG:Obj:=cf "__init__" "Rule.__init__" 606 148 2 312 611
noncomputable def sJ:Obj:=fo (C 41 0) "__init__" "Rule.__init__" "joinload.rules" 585 317
noncomputable def yL:Obj:=tu #[.str "self" 617,.str "here" 618,.str "there" 619]
noncomputable def Lu:Obj:=ft (C 41 1) "fits" "Rule.fits"
noncomputable def wK:Obj:=cf "fits" "Rule.fits" 614 151 3 319 620
noncomputable def vW:Obj:=fo (C 41 1) "fits" "Rule.fits" "joinload.rules" 585 324
noncomputable def wu:Obj:=tu #[.str "self" 626,.str "word" 627,.str "here" 628,.str "there" 629]
noncomputable def OA:Obj:=ft (C 41 2) "filled" "Rule.filled"
noncomputable def v9:Obj:=cf "filled" "Rule.filled" 623 154 4 326 630
noncomputable def yx:Obj:=fo (C 41 2) "filled" "Rule.filled" "joinload.rules" 585 331
noncomputable def yo:Obj:=tu #[.str "self" 636,.str "word" 637,.str "here" 638]
noncomputable def JR:Obj:=ft (C 41 3) "read_back" "Rule.read_back"
noncomputable def rH:Obj:=cf "read_back" "Rule.read_back" 633 157 3 333 639
noncomputable def vC:Obj:=fo (C 41 3) "read_back" "Rule.read_back" "joinload.rules" 585 338
noncomputable def r_:Obj:=tu #[.str "self" 645]
noncomputable def Jq:Obj:=ft (C 41 4) "leans" "Rule.leans"
noncomputable def yB:Obj:=cf "leans" "Rule.leans" 642 160 1 340 646
noncomputable def uR:Obj:=fo (C 41 4) "leans" "Rule.leans" "joinload.rules" 585 345
noncomputable def xH:Obj:=tu #[.str "title" 649]
noncomputable def UP(P:Params):List DictEntry:=[k P "__module__" 601 (.str "joinload.rules" 585),k P "__firstlineno__" 605 (.int 146 604),k P "__init__" 613 (.ref 318),k P "fits" 622 (.ref 325),k P "filled" 632 (.ref 332),k P "read_back" 641 (.ref 339),k P "leans" 648 (.ref 346),k P "__static_attributes__" 650 (.ref 347),k P "__dict__" 652 (.ref 350),k P "__weakref__" 654 (.ref 351),k P "__doc__" 655 .none]
noncomputable def rO:Obj:=⟨(.type "dict"),none,.dict (UP P).toArray 4,#[]⟩
noncomputable def VB:Obj:=cc "Rule" (.type "object") 349 [.type "object"] 348 [.ref 377] none 594 602 "object.__new__"
noncomputable def rb:Obj:=⟨(.type "getset_descriptor"),none,(.fields #[.str "__dict__" 651,.ref 349,.builtin "function.__dict__",.builtin "function.__dict__#set"]),#[]⟩
noncomputable def xR:Obj:=⟨(.type "getset_descriptor"),none,(.fields #[.str "__weakref__" 653,.ref 349,.builtin "ExceptionGroup.__weakref__",.none]),#[]⟩
noncomputable def OR:=di [k P "__module__" 665 (.str "joinload.rules" 585),k P "__qualname__" 667 (.str "Whole" 666),k P "__firstlineno__" 669 (.int 162 668),k P "filled" 679 (.ref 367),k P "read_back" 688 (.ref 374),k P "__static_attributes__" 689 (.ref 375)] 6
noncomputable def Pl:Obj:=nf (nl [164,4,366,167,4,373]).toArray
noncomputable def Ka:Obj:=co "Whole" "Whole" 660 162 0 0 357 false 358 .none 663
noncomputable def Mw:Obj:=fm 359 356 (.str "joinload.rules" 585)
noncomputable def yH:Obj:=tu #[.str "self" 673,.str "word" 674,.str "here" 675,.str "there" 676]
noncomputable def Js:Obj:=ft (C 42 0) "filled" "Whole.filled"
noncomputable def vz:Obj:=cf "filled" "Whole.filled" 670 164 4 361 677
noncomputable def xf:Obj:=fo (C 42 0) "filled" "Whole.filled" "joinload.rules" 585 366
noncomputable def wZ:Obj:=tu #[.str "self" 683,.str "word" 684,.str "here" 685]
noncomputable def NG:Obj:=ft (C 42 1) "read_back" "Whole.read_back"
noncomputable def yX:Obj:=cf "read_back" "Whole.read_back" 680 167 3 368 686
noncomputable def ua:Obj:=fo (C 42 1) "read_back" "Whole.read_back" "joinload.rules" 585 373
noncomputable def q_:=di [k P "__module__" 665 (.str "joinload.rules" 585),k P "__firstlineno__" 669 (.int 162 668),k P "filled" 679 (.ref 367),k P "read_back" 688 (.ref 374),k P "__static_attributes__" 689 (.ref 375),k P "__doc__" 690 .none] 2
noncomputable def rq:Obj:=cc "Whole" (.ref 349) 377 [.ref 349,.type "object"] 376 [] (some (.ref 354)) 658 666 "object.__new__"
noncomputable def acq(P:Params)(r:List (Nat×Obj)):List (Nat×Obj):=(3,ab7 P)::(12,X8)::(284,e1)::(285,e2)::(286,qO)::(287,e1)::(288,Kw)::(289,tW)::(290,rY)::(291,e1)::(292,e2)::(293,qD)::(294,e1)::(295,Lj)::(296,wN)::(297,tT)::(298,e1)::(299,e2)::(300,uc)::(301,e1)::(302,Ks)::(303,wD)::(304,sM)::(305,e1)::r
noncomputable def abA(P:Params)(r:List (Nat×Obj)):List (Nat×Obj):=(306,bp)::(307,OJ P)::(308,e1)::(309,Ng)::(310,OM)::(311,Ny)::(312,e1)::(313,e2)::(314,tE)::(315,e1)::(316,Pd)::(317,tG)::(318,sJ)::(319,e1)::(320,e2)::(321,yL)::(322,e1)::(323,Lu)::(324,wK)::(325,vW)::(326,e1)::(327,e2)::(328,wu)::(329,e1)::r
noncomputable def aae(P:Params)(r:List (Nat×Obj)):List (Nat×Obj):=(330,OA)::(331,v9)::(332,yx)::(333,e1)::(334,e2)::(335,yo)::(336,e1)::(337,JR)::(338,rH)::(339,vC)::(340,e1)::(341,e2)::(342,r_)::(343,e1)::(344,Jq)::(345,yB)::(346,uR)::(347,xH)::(348,rO P)::(349,VB)::(350,rb)::(351,xR)::(352,su 349)::(353,bs 349)::r
noncomputable def aaj(P:Params)(r:List (Nat×Obj)):List (Nat×Obj):=(354,tu #[.ref 349])::(355,bp)::(356,OR P)::(357,e1)::(358,Pl)::(359,Ka)::(360,Mw)::(361,e1)::(362,e2)::(363,yH)::(364,e1)::(365,Js)::(366,vz)::(367,xf)::(368,e1)::(369,e2)::(370,wZ)::(371,e1)::(372,NG)::(373,yX)::(374,ua)::(375,e1)::(376,q_ P)::(377,rq)::r
noncomputable def abS(P:Params)(r:List (Nat×Obj)):List (Nat×Obj):=(378,su 377)::(379,bs 377)::r
noncomputable def T4(P:Params):BT:=mg 14 (T3 P) (acq P (abA P (aae P (aaj P (abS P ([]))))))
noncomputable def S4T(w:World):OsState->SharedT:=sT (T4 w.params) 380 693
noncomputable def L3:List Stmt:=My.top 37::My.top 38::My.top 39::My.top 40::My.top 41::My.top 42::[]
def P3(w:World):Prop:=sR w 742 S3T S4T L3 ⟨114,0,116,65⟩ ⟨162,0,168,16⟩
noncomputable def Wx(P:Params):List DictEntry:=Zt P++[k P "High" 727 (.ref 403),k P "Low" 762 (.ref 429)]
noncomputable def abq:Obj:=⟨(.type "dict"),none,.dict (Wx P).toArray 49,#[]⟩
noncomputable def W6:Obj:=nf (nl [1,0,20,7,0,27,9,0,34,11,0,41,14,0,48,17,0,55,20,0,62,22,0,69,28,0,77,30,0,84,32,0,91,34,0,98,36,0,105,38,0,112,40,0,119,42,0,126,44,0,133,46,0,140,57,0,147,59,0,160,61,0,172,68,0,191,73,0,210,79,0,229,84,0,248,87,0,258,89,0,265,97,0,272,105,0,277,114,0,282,117,0,289,127,0,296,134,0,303,146,0,310,162,0,359,169,0,385,176,0,411]).toArray
noncomputable def UR:Obj:=cc "Rule" (.type "object") 349 [.type "object"] 348 [.ref 377,.ref 403,.ref 429] none 594 602 "object.__new__"
noncomputable def Nj:=di [k P "__module__" 700 (.str "joinload.rules" 585),k P "__qualname__" 702 (.str "High" 701),k P "__firstlineno__" 704 (.int 169 703),k P "filled" 714 (.ref 393),k P "read_back" 723 (.ref 400),k P "__static_attributes__" 724 (.ref 401)] 6
noncomputable def Pq:Obj:=nf (nl [171,4,392,174,4,399]).toArray
noncomputable def Mt:Obj:=co "High" "High" 695 169 0 0 383 false 384 .none 698
noncomputable def JG:Obj:=fm 385 382 (.str "joinload.rules" 585)
noncomputable def uz:Obj:=tu #[.str "self" 708,.str "word" 709,.str "here" 710,.str "there" 711]
noncomputable def K7:Obj:=ft (C 43 0) "filled" "High.filled"
noncomputable def rQ:Obj:=cf "filled" "High.filled" 705 171 4 387 712
noncomputable def tL:Obj:=fo (C 43 0) "filled" "High.filled" "joinload.rules" 585 392
noncomputable def wI:Obj:=tu #[.str "self" 718,.str "word" 719,.str "here" 720]
noncomputable def NH:Obj:=ft (C 43 1) "read_back" "High.read_back"
noncomputable def sO:Obj:=cf "read_back" "High.read_back" 715 174 3 394 721
noncomputable def x8:Obj:=fo (C 43 1) "read_back" "High.read_back" "joinload.rules" 585 399
noncomputable def tI:=di [k P "__module__" 700 (.str "joinload.rules" 585),k P "__firstlineno__" 704 (.int 169 703),k P "filled" 714 (.ref 393),k P "read_back" 723 (.ref 400),k P "__static_attributes__" 724 (.ref 401),k P "__doc__" 725 .none] 2
noncomputable def u0:Obj:=cc "High" (.ref 349) 403 [.ref 349,.type "object"] 402 [] (some (.ref 380)) 693 701 "object.__new__"
noncomputable def Kz:=di [k P "__module__" 735 (.str "joinload.rules" 585),k P "__qualname__" 737 (.str "Low" 736),k P "__firstlineno__" 739 (.int 176 738),k P "filled" 749 (.ref 419),k P "read_back" 758 (.ref 426),k P "__static_attributes__" 759 (.ref 427)] 6
noncomputable def N5:Obj:=nf (nl [178,4,418,181,4,425]).toArray
noncomputable def Kb:Obj:=co "Low" "Low" 730 176 0 0 409 false 410 .none 733
noncomputable def Jp:Obj:=fm 411 408 (.str "joinload.rules" 585)
noncomputable def qQ:Obj:=tu #[.str "self" 743,.str "word" 744,.str "here" 745,.str "there" 746]
noncomputable def Lh:Obj:=ft (C 44 0) "filled" "Low.filled"
noncomputable def vq:Obj:=cf "filled" "Low.filled" 740 178 4 413 747
noncomputable def wq:Obj:=fo (C 44 0) "filled" "Low.filled" "joinload.rules" 585 418
noncomputable def yk:Obj:=tu #[.str "self" 753,.str "word" 754,.str "here" 755]
noncomputable def KH:Obj:=ft (C 44 1) "read_back" "Low.read_back"
noncomputable def yA:Obj:=cf "read_back" "Low.read_back" 750 181 3 420 756
noncomputable def rh:Obj:=fo (C 44 1) "read_back" "Low.read_back" "joinload.rules" 585 425
noncomputable def tK:=di [k P "__module__" 735 (.str "joinload.rules" 585),k P "__firstlineno__" 739 (.int 176 738),k P "filled" 749 (.ref 419),k P "read_back" 758 (.ref 426),k P "__static_attributes__" 759 (.ref 427),k P "__doc__" 760 .none] 2
noncomputable def uH:Obj:=cc "Low" (.ref 349) 429 [.ref 349,.type "object"] 428 [] (some (.ref 406)) 728 736 "object.__new__"
noncomputable def acf(P:Params)(r:List (Nat×Obj)):List (Nat×Obj):=(3,abq P)::(12,W6)::(349,UR)::(380,tu #[.ref 349])::(381,bp)::(382,Nj P)::(383,e1)::(384,Pq)::(385,Mt)::(386,JG)::(387,e1)::(388,e2)::(389,uz)::(390,e1)::(391,K7)::(392,rQ)::(393,tL)::(394,e1)::(395,e2)::(396,wI)::(397,e1)::(398,NH)::(399,sO)::(400,x8)::r
noncomputable def abn(P:Params)(r:List (Nat×Obj)):List (Nat×Obj):=(401,e1)::(402,tI P)::(403,u0)::(404,su 403)::(405,bs 403)::(406,tu #[.ref 349])::(407,bp)::(408,Kz P)::(409,e1)::(410,N5)::(411,Kb)::(412,Jp)::(413,e1)::(414,e2)::(415,qQ)::(416,e1)::(417,Lh)::(418,vq)::(419,wq)::(420,e1)::(421,e2)::(422,yk)::(423,e1)::(424,KH)::r
noncomputable def aa9(P:Params)(r:List (Nat×Obj)):List (Nat×Obj):=(425,yA)::(426,rh)::(427,e1)::(428,tK P)::(429,uH)::(430,su 429)::(431,bs 429)::r
noncomputable def T5(P:Params):BT:=mg 14 (T4 P) (acf P (abn P (aa9 P ([]))))
noncomputable def S5T(w:World):OsState->SharedT:=sT (T5 w.params) 432 763
noncomputable def L4:List Stmt:=My.top 43::My.top 44::[]
def P4(w:World):Prop:=sR w 559 S4T S5T L4 ⟨162,0,168,16⟩ ⟨176,0,182,16⟩
noncomputable def YL(P:Params):List DictEntry:=sv (Wx P) 0 (.str "joinload.shelves" 888)++[k P "Near" 813 (.ref 469),k P "Split" 865 (.ref 509),k P "way" 873 (.ref 518),k P "copied_piece" 881 (.ref 523),k P "copied_fills" 887 (.ref 528),k P "taken" 895 (.ref 533)]
noncomputable def abr:Obj:=⟨(.type "dict"),none,.dict (YL P).toArray 55,#[]⟩
noncomputable def YI:Obj:=nf (nl [1,0,20,7,0,27,9,0,34,11,0,41,14,0,48,17,0,55,20,0,62,22,0,69,28,0,77,30,0,84,32,0,91,34,0,98,36,0,105,38,0,112,40,0,119,42,0,126,44,0,133,46,0,140,57,0,147,59,0,160,61,0,172,68,0,191,73,0,210,79,0,229,84,0,248,87,0,258,89,0,265,97,0,272,105,0,277,114,0,282,117,0,289,127,0,296,134,0,303,146,0,310,162,0,359,169,0,385,176,0,411,183,0,437,196,0,477,210,0,517,213,0,522,217,0,527,220,0,532]).toArray
noncomputable def vH:Obj:=cc "Rule" (.type "object") 349 [.type "object"] 348 [.ref 377,.ref 403,.ref 429,.ref 469,.ref 509] none 594 602 "object.__new__"
noncomputable def M_:=di [k P "__module__" 770 (.str "joinload.rules" 585),k P "__qualname__" 772 (.str "Near" 771),k P "__firstlineno__" 774 (.int 183 773),k P "fits" 783 (.ref 445),k P "filled" 793 (.ref 452),k P "read_back" 802 (.ref 459),k P "leans" 809 (.ref 466),k P "__static_attributes__" 810 (.ref 467)] 8
noncomputable def MJ:Obj:=nf (nl [185,4,444,188,4,451,191,4,458,194,4,465]).toArray
noncomputable def Ph:Obj:=co "Near" "Near" 765 183 0 0 435 false 436 .none 768
noncomputable def K0:Obj:=fm 437 434 (.str "joinload.rules" 585)
noncomputable def wa:Obj:=tu #[.str "self" 778,.str "here" 779,.str "there" 780]
noncomputable def Pg:Obj:=ft (C 45 0) "fits" "Near.fits"
noncomputable def xb:Obj:=cf "fits" "Near.fits" 775 185 3 439 781
noncomputable def v8:Obj:=fo (C 45 0) "fits" "Near.fits" "joinload.rules" 585 444
noncomputable def rT:Obj:=tu #[.str "self" 787,.str "word" 788,.str "here" 789,.str "there" 790]
noncomputable def Nw:Obj:=ft (C 45 1) "filled" "Near.filled"
noncomputable def qY:Obj:=cf "filled" "Near.filled" 784 188 4 446 791
noncomputable def vv:Obj:=fo (C 45 1) "filled" "Near.filled" "joinload.rules" 585 451
noncomputable def sY:Obj:=tu #[.str "self" 797,.str "word" 798,.str "here" 799]
noncomputable def O7:Obj:=ft (C 45 2) "read_back" "Near.read_back"
noncomputable def u_:Obj:=cf "read_back" "Near.read_back" 794 191 3 453 800
noncomputable def sP:Obj:=fo (C 45 2) "read_back" "Near.read_back" "joinload.rules" 585 458
noncomputable def y6:Obj:=tu #[.str "self" 806]
noncomputable def Mo:Obj:=ft (C 45 3) "leans" "Near.leans"
noncomputable def wz:Obj:=cf "leans" "Near.leans" 803 194 1 460 807
noncomputable def qV:Obj:=fo (C 45 3) "leans" "Near.leans" "joinload.rules" 585 465
noncomputable def vE:=di [k P "__module__" 770 (.str "joinload.rules" 585),k P "__firstlineno__" 774 (.int 183 773),k P "fits" 783 (.ref 445),k P "filled" 793 (.ref 452),k P "read_back" 802 (.ref 459),k P "leans" 809 (.ref 466),k P "__static_attributes__" 810 (.ref 467),k P "__doc__" 811 .none] 2
noncomputable def rE:Obj:=cc "Near" (.ref 349) 469 [.ref 349,.type "object"] 468 [] (some (.ref 432)) 763 771 "object.__new__"
noncomputable def NI:=di [k P "__module__" 821 (.str "joinload.rules" 585),k P "__qualname__" 823 (.str "Split" 822),k P "__firstlineno__" 825 (.int 196 824),k P "fits" 834 (.ref 485),k P "filled" 845 (.ref 492),k P "read_back" 854 (.ref 499),k P "leans" 861 (.ref 506),k P "__static_attributes__" 862 (.ref 507)] 8
noncomputable def Ky:Obj:=nf (nl [198,4,484,201,4,491,205,4,498,208,4,505]).toArray
noncomputable def Mx:Obj:=co "Split" "Split" 816 196 0 0 475 false 476 .none 819
noncomputable def HM:Obj:=fm 477 474 (.str "joinload.rules" 585)
noncomputable def yZ:Obj:=tu #[.str "self" 829,.str "here" 830,.str "there" 831]
noncomputable def Kc:Obj:=ft (C 46 0) "fits" "Split.fits"
noncomputable def yz:Obj:=cf "fits" "Split.fits" 826 198 3 479 832
noncomputable def yG:Obj:=fo (C 46 0) "fits" "Split.fits" "joinload.rules" 585 484
noncomputable def r6:Obj:=tu #[.str "self" 838,.str "word" 839,.str "here" 840,.str "there" 841,.str "lower" 842]
noncomputable def Hy:Obj:=ft (C 46 1) "filled" "Split.filled"
noncomputable def qF:Obj:=cf "filled" "Split.filled" 835 201 4 486 843
noncomputable def rD:Obj:=fo (C 46 1) "filled" "Split.filled" "joinload.rules" 585 491
noncomputable def ye:Obj:=tu #[.str "self" 849,.str "word" 850,.str "here" 851]
noncomputable def LV:Obj:=ft (C 46 2) "read_back" "Split.read_back"
noncomputable def vR:Obj:=cf "read_back" "Split.read_back" 846 205 3 493 852
noncomputable def xx:Obj:=fo (C 46 2) "read_back" "Split.read_back" "joinload.rules" 585 498
noncomputable def yC:Obj:=tu #[.str "self" 858]
noncomputable def MQ:Obj:=ft (C 46 3) "leans" "Split.leans"
noncomputable def ur:Obj:=cf "leans" "Split.leans" 855 208 1 500 859
noncomputable def vV:Obj:=fo (C 46 3) "leans" "Split.leans" "joinload.rules" 585 505
noncomputable def qI:=di [k P "__module__" 821 (.str "joinload.rules" 585),k P "__firstlineno__" 825 (.int 196 824),k P "fits" 834 (.ref 485),k P "filled" 845 (.ref 492),k P "read_back" 854 (.ref 499),k P "leans" 861 (.ref 506),k P "__static_attributes__" 862 (.ref 507),k P "__doc__" 863 .none] 2
noncomputable def vP:Obj:=cc "Split" (.ref 349) 509 [.ref 349,.type "object"] 508 [] (some (.ref 472)) 814 822 "object.__new__"
noncomputable def u6:Obj:=tu #[.str "here" 869,.str "there" 870]
noncomputable def Nq:Obj:=ft (T 47) "way" "way"
noncomputable def ve:Obj:=cf "way" "way" 866 210 2 512 871
noncomputable def tY:Obj:=fo (T 47) "way" "way" "joinload.rules" 585 517
noncomputable def Ou:Obj:=ft (T 49) "copied_piece" "copied_piece"
noncomputable def se:Obj:=co "copied_piece" "copied_piece" 876 213 1 3 519 true 520 (.ref 521) 879
noncomputable def xG:Obj:=fo (T 49) "copied_piece" "copied_piece" "joinload.pieces" 874 522
noncomputable def M5:Obj:=ft (T 50) "copied_fills" "copied_fills"
noncomputable def sZ:Obj:=co "copied_fills" "copied_fills" 882 217 1 3 524 true 525 (.ref 526) 885
noncomputable def tV:Obj:=fo (T 50) "copied_fills" "copied_fills" "joinload.pieces" 874 527
noncomputable def OD:Obj:=ft (T 52) "taken" "taken"
noncomputable def uW:Obj:=co "taken" "taken" 890 220 3 3 529 true 530 (.ref 531) 893
noncomputable def tO:Obj:=fo (T 52) "taken" "taken" "joinload.shelves" 888 532
noncomputable def aaz(P:Params)(r:List (Nat×Obj)):List (Nat×Obj):=(3,abr P)::(12,YI)::(349,vH)::(432,tu #[.ref 349])::(433,bp)::(434,M_ P)::(435,e1)::(436,MJ)::(437,Ph)::(438,K0)::(439,e1)::(440,e2)::(441,wa)::(442,e1)::(443,Pg)::(444,xb)::(445,v8)::(446,e1)::(447,e2)::(448,rT)::(449,e1)::(450,Nw)::(451,qY)::(452,vv)::r
noncomputable def abU(P:Params)(r:List (Nat×Obj)):List (Nat×Obj):=(453,e1)::(454,e2)::(455,sY)::(456,e1)::(457,O7)::(458,u_)::(459,sP)::(460,e1)::(461,e2)::(462,y6)::(463,e1)::(464,Mo)::(465,wz)::(466,qV)::(467,e1)::(468,vE P)::(469,rE)::(470,su 469)::(471,bs 469)::(472,tu #[.ref 349])::(473,bp)::(474,NI P)::(475,e1)::(476,Ky)::r
noncomputable def aaX(P:Params)(r:List (Nat×Obj)):List (Nat×Obj):=(477,Mx)::(478,HM)::(479,e1)::(480,e2)::(481,yZ)::(482,e1)::(483,Kc)::(484,yz)::(485,yG)::(486,e1)::(487,e2)::(488,r6)::(489,e1)::(490,Hy)::(491,qF)::(492,rD)::(493,e1)::(494,e2)::(495,ye)::(496,e1)::(497,LV)::(498,vR)::(499,xx)::(500,e1)::r
noncomputable def acd(P:Params)(r:List (Nat×Obj)):List (Nat×Obj):=(501,e2)::(502,yC)::(503,e1)::(504,MQ)::(505,ur)::(506,vV)::(507,e1)::(508,qI P)::(509,vP)::(510,su 509)::(511,bs 509)::(512,e1)::(513,e2)::(514,u6)::(515,e1)::(516,Nq)::(517,ve)::(518,tY)::(519,e1)::(520,e2)::(521,Ou)::(522,se)::(523,xG)::(524,e1)::r
noncomputable def aaS(P:Params)(r:List (Nat×Obj)):List (Nat×Obj):=(525,e2)::(526,M5)::(527,sZ)::(528,tV)::(529,e1)::(530,e2)::(531,OD)::(532,uW)::(533,tO)::r
noncomputable def T6(P:Params):BT:=mg 14 (T5 P) (aaz P (abU P (aaX P (acd P (aaS P ([]))))))
noncomputable def S6T(w:World):OsState->SharedT:=sT (T6 w.params) 534 896
noncomputable def L5:List Stmt:=My.top 45::My.top 46::My.top 47::My.top 48::My.top 49::My.top 50::My.top 51::My.top 52::[]
def P5(w:World):Prop:=sR w 814 S5T S6T L5 ⟨176,0,182,16⟩ ⟨220,0,223,53⟩
noncomputable def YD(P:Params):List DictEntry:=sv (YL P) 0 (.str "joinload.values" 983)++[k P "Taking" 953 (.ref 564),k P "pieces_on" 962 (.ref 575),k P "refuse_same_name" 972 (.ref 582),k P "first_tellers" 982 (.ref 589),k P "WithFill" 1017 (.ref 606),k P "is_word" 1024 (.ref 617),k P "is_at" 1031 (.ref 624),k P "at_value" 1038 (.ref 631),k P "high_value" 1045 (.ref 638),k P "copied_value" 1052 (.ref 645),k P "only_word" 1059 (.ref 652),k P "only_at" 1066 (.ref 659),k P "moved_on" 1074 (.ref 666),k P "in_one_stretch" 1082 (.ref 673)]
noncomputable def ace:Obj:=⟨(.type "dict"),none,.dict (YD P).toArray 69,#[]⟩
noncomputable def XF:Obj:=nf (nl [1,0,20,7,0,27,9,0,34,11,0,41,14,0,48,17,0,55,20,0,62,22,0,69,28,0,77,30,0,84,32,0,91,34,0,98,36,0,105,38,0,112,40,0,119,42,0,126,44,0,133,46,0,140,57,0,147,59,0,160,61,0,172,68,0,191,73,0,210,79,0,229,84,0,248,87,0,258,89,0,265,97,0,272,105,0,277,114,0,282,117,0,289,127,0,296,134,0,303,146,0,310,162,0,359,169,0,385,176,0,411,183,0,437,196,0,477,210,0,517,213,0,522,217,0,527,220,0,532,224,0,539,260,0,574,265,0,581,274,0,588,281,0,595,287,0,616,289,0,623,291,0,630,293,0,637,295,0,644,297,0,651,301,0,658,305,0,665,311,0,672]).toArray
noncomputable def Mu:=di [k P "__module__" 903 (.str "joinload.shelves" 888),k P "__qualname__" 905 (.str "Taking" 904),k P "__firstlineno__" 907 (.int 224 906),k P "__init__" 919 (.ref 547),k P "take_for_pieces" 929 (.ref 554),k P "take_for" 939 (.ref 561),k P "__static_attributes__" 946 (.ref 562)] 7
noncomputable def Po:Obj:=nf (nl [226,4,546,241,4,553,249,4,560]).toArray
noncomputable def NB:Obj:=co "Taking" "Taking" 898 224 0 0 537 false 538 .none 901
noncomputable def Lq:Obj:=fm 539 536 (.str "joinload.shelves" 888)
noncomputable def rS:Obj:=tu #[.str "self" 911,.str "given" 912,.str "shelves" 913,.str "entry" 914,.str "on_shelves" 915,.str "least" 916]
noncomputable def NT:Obj:=ft (C 53 0) "__init__" "Taking.__init__"
noncomputable def ym:Obj:=cf "__init__" "Taking.__init__" 908 226 4 541 917
noncomputable def sQ:Obj:=fo (C 53 0) "__init__" "Taking.__init__" "joinload.shelves" 888 546
noncomputable def uM:Obj:=tu #[.str "self" 923,.str "done" 924,.str "piece" 925,.str "name" 926]
noncomputable def Ko:Obj:=ft (C 53 1) "take_for_pieces" "Taking.take_for_pieces"
noncomputable def qW:Obj:=cf "take_for_pieces" "Taking.take_for_pieces" 920 241 1 548 927
noncomputable def vQ:Obj:=fo (C 53 1) "take_for_pieces" "Taking.take_for_pieces" "joinload.shelves" 888 553
noncomputable def vF:Obj:=tu #[.str "self" 933,.str "name" 934,.str "by" 935,.str "piece" 936]
noncomputable def Ii:Obj:=ft (C 53 2) "take_for" "Taking.take_for"
noncomputable def we:Obj:=cf "take_for" "Taking.take_for" 930 249 3 555 937
noncomputable def sL:Obj:=fo (C 53 2) "take_for" "Taking.take_for" "joinload.shelves" 888 560
noncomputable def tF:Obj:=tu #[.str "from_shelves" 940,.str "on_shelves" 941,.str "pieces" 942,.str "reasons" 943,.str "told_by_given" 944,.str "unmet" 945]
noncomputable def Vr(P:Params):List DictEntry:=[k P "__module__" 903 (.str "joinload.shelves" 888),k P "__firstlineno__" 907 (.int 224 906),k P "__init__" 919 (.ref 547),k P "take_for_pieces" 929 (.ref 554),k P "take_for" 939 (.ref 561),k P "__static_attributes__" 946 (.ref 562),k P "__dict__" 948 (.ref 565),k P "__weakref__" 950 (.ref 566),k P "__doc__" 951 .none]
noncomputable def wO:Obj:=⟨(.type "dict"),none,.dict (Vr P).toArray 4,#[]⟩
noncomputable def uv:Obj:=cc "Taking" (.type "object") 564 [.type "object"] 563 [] none 896 904 "object.__new__"
noncomputable def uS:Obj:=⟨(.type "getset_descriptor"),none,(.fields #[.str "__dict__" 947,.ref 564,.builtin "function.__dict__",.builtin "function.__dict__#set"]),#[]⟩
noncomputable def qE:Obj:=⟨(.type "getset_descriptor"),none,(.fields #[.str "__weakref__" 949,.ref 564,.builtin "ExceptionGroup.__weakref__",.none]),#[]⟩
noncomputable def vw:Obj:=tu #[.str "shelves" 957,.str "pieces" 958,.str "shelf" 959]
noncomputable def Iv:Obj:=ft (T 54) "pieces_on" "pieces_on"
noncomputable def yV:Obj:=cf "pieces_on" "pieces_on" 954 260 1 569 960
noncomputable def xM:Obj:=fo (T 54) "pieces_on" "pieces_on" "joinload.shelves" 888 574
noncomputable def xX:Obj:=tu #[.str "pieces" 966,.str "seen" 967,.str "again" 968,.str "piece" 969]
noncomputable def HB:Obj:=ft (T 55) "refuse_same_name" "refuse_same_name"
noncomputable def uK:Obj:=cf "refuse_same_name" "refuse_same_name" 963 265 1 576 970
noncomputable def rB:Obj:=fo (T 55) "refuse_same_name" "refuse_same_name" "joinload.shelves" 888 581
noncomputable def qT:Obj:=tu #[.str "pieces" 976,.str "first" 977,.str "piece" 978,.str "name" 979]
noncomputable def M9:Obj:=ft (T 56) "first_tellers" "first_tellers"
noncomputable def rA:Obj:=cf "first_tellers" "first_tellers" 973 274 1 583 980
noncomputable def tq:Obj:=fo (T 56) "first_tellers" "first_tellers" "joinload.shelves" 888 588
noncomputable def Pa:=di [k P "__module__" 992 (.str "joinload.values" 983),k P "__qualname__" 994 (.str "WithFill" 993),k P "__firstlineno__" 996 (.int 281 995),k P "__init__" 1006 (.ref 603),k P "__static_attributes__" 1010 (.ref 604)] 5
noncomputable def Oa:Obj:=nf (nl [283,4,602]).toArray
noncomputable def Jw:Obj:=co "WithFill" "WithFill" 987 281 0 0 593 false 594 .none 990
noncomputable def LW:Obj:=fm 595 592 (.str "joinload.values" 983)
noncomputable def sG:Obj:=tu #[.str "self" 1000,.str "word" 1001,.str "title" 1002,.str "aimed" 1003]
noncomputable def Pp:Obj:=ft (C 58 0) "__init__" "WithFill.__init__"
noncomputable def vN:Obj:=cf "__init__" "WithFill.__init__" 997 283 4 597 1004
noncomputable def vX:Obj:=fo (C 58 0) "__init__" "WithFill.__init__" "joinload.values" 983 602
noncomputable def uV:Obj:=tu #[.str "aimed" 1007,.str "title" 1008,.str "word" 1009]
noncomputable def rR:=di [k P "__module__" 992 (.str "joinload.values" 983),k P "__firstlineno__" 996 (.int 281 995),k P "__init__" 1006 (.ref 603),k P "__static_attributes__" 1010 (.ref 604),k P "__dict__" 1012 (.ref 607),k P "__weakref__" 1014 (.ref 608),k P "__doc__" 1015 .none] 4
noncomputable def yf:Obj:=cc "WithFill" (.type "object") 606 [.type "object"] 605 [] none 985 993 "object.__new__"
noncomputable def s_:Obj:=⟨(.type "getset_descriptor"),none,(.fields #[.str "__dict__" 1011,.ref 606,.builtin "function.__dict__",.builtin "function.__dict__#set"]),#[]⟩
noncomputable def yW:Obj:=⟨(.type "getset_descriptor"),none,(.fields #[.str "__weakref__" 1013,.ref 606,.builtin "ExceptionGroup.__weakref__",.none]),#[]⟩
noncomputable def tU:Obj:=tu #[.str "value" 1021]
noncomputable def MT:Obj:=ft (T 59) "is_word" "is_word"
noncomputable def yO:Obj:=cf "is_word" "is_word" 1018 287 1 611 1022
noncomputable def xV:Obj:=fo (T 59) "is_word" "is_word" "joinload.values" 983 616
noncomputable def xu:Obj:=tu #[.str "value" 1028]
noncomputable def LQ:Obj:=ft (T 60) "is_at" "is_at"
noncomputable def rj:Obj:=cf "is_at" "is_at" 1025 289 1 618 1029
noncomputable def sX:Obj:=fo (T 60) "is_at" "is_at" "joinload.values" 983 623
noncomputable def wt:Obj:=tu #[.str "aimed" 1035]
noncomputable def Im:Obj:=ft (T 61) "at_value" "at_value"
noncomputable def xq:Obj:=cf "at_value" "at_value" 1032 291 1 625 1036
noncomputable def uh:Obj:=fo (T 61) "at_value" "at_value" "joinload.values" 983 630
noncomputable def xl:Obj:=tu #[.str "value" 1042]
noncomputable def HR:Obj:=ft (T 62) "high_value" "high_value"
noncomputable def tM:Obj:=cf "high_value" "high_value" 1039 293 1 632 1043
noncomputable def rJ:Obj:=fo (T 62) "high_value" "high_value" "joinload.values" 983 637
noncomputable def qP:Obj:=tu #[.str "value" 1049]
noncomputable def Od:Obj:=ft (T 63) "copied_value" "copied_value"
noncomputable def tS:Obj:=cf "copied_value" "copied_value" 1046 295 1 639 1050
noncomputable def um:Obj:=fo (T 63) "copied_value" "copied_value" "joinload.values" 983 644
noncomputable def yJ:Obj:=tu #[.str "value" 1056]
noncomputable def Of:Obj:=ft (T 64) "only_word" "only_word"
noncomputable def sI:Obj:=cf "only_word" "only_word" 1053 297 1 646 1057
noncomputable def yh:Obj:=fo (T 64) "only_word" "only_word" "joinload.values" 983 651
noncomputable def za:Obj:=tu #[.str "value" 1063]
noncomputable def Nk:Obj:=ft (T 65) "only_at" "only_at"
noncomputable def uJ:Obj:=cf "only_at" "only_at" 1060 301 1 653 1064
noncomputable def si:Obj:=fo (T 65) "only_at" "only_at" "joinload.values" 983 658
noncomputable def yF:Obj:=tu #[.str "value" 1070,.str "number" 1071]
noncomputable def HX:Obj:=ft (T 66) "moved_on" "moved_on"
noncomputable def sN:Obj:=cf "moved_on" "moved_on" 1067 305 2 660 1072
noncomputable def wG:Obj:=fo (T 66) "moved_on" "moved_on" "joinload.values" 983 665
noncomputable def xh:Obj:=tu #[.str "first" 1078,.str "second" 1079]
noncomputable def Kl:Obj:=ft (T 67) "in_one_stretch" "in_one_stretch"
noncomputable def uP:Obj:=cf "in_one_stretch" "in_one_stretch" 1075 311 2 667 1080
noncomputable def yw:Obj:=fo (T 67) "in_one_stretch" "in_one_stretch" "joinload.values" 983 672
noncomputable def abV(P:Params)(r:List (Nat×Obj)):List (Nat×Obj):=(3,ace P)::(12,XF)::(534,e1)::(535,bp)::(536,Mu P)::(537,e1)::(538,Po)::(539,NB)::(540,Lq)::(541,e1)::(542,e2)::(543,rS)::(544,e1)::(545,NT)::(546,ym)::(547,sQ)::(548,e1)::(549,e2)::(550,uM)::(551,e1)::(552,Ko)::(553,qW)::(554,vQ)::(555,e1)::r
noncomputable def aaD(P:Params)(r:List (Nat×Obj)):List (Nat×Obj):=(556,e2)::(557,vF)::(558,e1)::(559,Ii)::(560,we)::(561,sL)::(562,tF)::(563,wO P)::(564,uv)::(565,uS)::(566,qE)::(567,su 564)::(568,bs 564)::(569,e1)::(570,e2)::(571,vw)::(572,e1)::(573,Iv)::(574,yV)::(575,xM)::(576,e1)::(577,e2)::(578,xX)::(579,e1)::r
noncomputable def abw(P:Params)(r:List (Nat×Obj)):List (Nat×Obj):=(580,HB)::(581,uK)::(582,rB)::(583,e1)::(584,e2)::(585,qT)::(586,e1)::(587,M9)::(588,rA)::(589,tq)::(590,e1)::(591,bp)::(592,Pa P)::(593,e1)::(594,Oa)::(595,Jw)::(596,LW)::(597,e1)::(598,e2)::(599,sG)::(600,e1)::(601,Pp)::(602,vN)::(603,vX)::r
noncomputable def aaw(P:Params)(r:List (Nat×Obj)):List (Nat×Obj):=(604,uV)::(605,rR P)::(606,yf)::(607,s_)::(608,yW)::(609,su 606)::(610,bs 606)::(611,e1)::(612,e2)::(613,tU)::(614,e1)::(615,MT)::(616,yO)::(617,xV)::(618,e1)::(619,e2)::(620,xu)::(621,e1)::(622,LQ)::(623,rj)::(624,sX)::(625,e1)::(626,e2)::(627,wt)::r
noncomputable def aar(P:Params)(r:List (Nat×Obj)):List (Nat×Obj):=(628,e1)::(629,Im)::(630,xq)::(631,uh)::(632,e1)::(633,e2)::(634,xl)::(635,e1)::(636,HR)::(637,tM)::(638,rJ)::(639,e1)::(640,e2)::(641,qP)::(642,e1)::(643,Od)::(644,tS)::(645,um)::(646,e1)::(647,e2)::(648,yJ)::(649,e1)::(650,Of)::(651,sI)::r
noncomputable def abC(P:Params)(r:List (Nat×Obj)):List (Nat×Obj):=(652,yh)::(653,e1)::(654,e2)::(655,za)::(656,e1)::(657,Nk)::(658,uJ)::(659,si)::(660,e1)::(661,e2)::(662,yF)::(663,e1)::(664,HX)::(665,sN)::(666,wG)::(667,e1)::(668,e2)::(669,xh)::(670,e1)::(671,Kl)::(672,uP)::(673,yw)::r
noncomputable def T7(P:Params):BT:=mg 14 (T6 P) (abV P (aaD P (abw P (aaw P (aar P (abC P ([])))))))
noncomputable def S7T(w:World):OsState->SharedT:=sT (T7 w.params) 674 1083
noncomputable def L6:List Stmt:=My.top 53::My.top 54::My.top 55::My.top 56::My.top 57::My.top 58::My.top 59::My.top 60::My.top 61::My.top 62::My.top 63::My.top 64::My.top 65::My.top 66::My.top 67::[]
def P6(w:World):Prop:=sR w 893 S6T S7T L6 ⟨220,0,223,53⟩ ⟨311,0,312,97⟩
noncomputable def YN(P:Params):List DictEntry:=sv (YD P) 0 (.str "joinload.named" 1101)++[k P "at_first" 1091 (.ref 680),k P "of_two_values" 1100 (.ref 687),k P "RULES_MEANT" 1124 (.ref 688)]
noncomputable def aaR:Obj:=⟨(.type "dict"),none,.dict (YN P).toArray 72,#[]⟩
noncomputable def Yz:Obj:=nf (nl [1,0,20,7,0,27,9,0,34,11,0,41,14,0,48,17,0,55,20,0,62,22,0,69,28,0,77,30,0,84,32,0,91,34,0,98,36,0,105,38,0,112,40,0,119,42,0,126,44,0,133,46,0,140,57,0,147,59,0,160,61,0,172,68,0,191,73,0,210,79,0,229,84,0,248,87,0,258,89,0,265,97,0,272,105,0,277,114,0,282,117,0,289,127,0,296,134,0,303,146,0,310,162,0,359,169,0,385,176,0,411,183,0,437,196,0,477,210,0,517,213,0,522,217,0,527,220,0,532,224,0,539,260,0,574,265,0,581,274,0,588,281,0,595,287,0,616,289,0,623,291,0,630,293,0,637,295,0,644,297,0,651,301,0,658,305,0,665,311,0,672,313,0,679,319,0,686]).toArray
noncomputable def ug:Obj:=tu #[.str "word" 1086,.str "title" 1087,.str "aimed" 1088]
noncomputable def Lz:Obj:=ft (T 68) "at_first" "at_first"
noncomputable def xO:Obj:=cf "at_first" "at_first" 1083 313 3 674 1089
noncomputable def uF:Obj:=fo (T 68) "at_first" "at_first" "joinload.values" 983 679
noncomputable def qG:Obj:=tu #[.str "deed" 1095,.str "first" 1096,.str "second" 1097]
noncomputable def Md:Obj:=ft (T 69) "of_two_values" "of_two_values"
noncomputable def vd:Obj:=cf "of_two_values" "of_two_values" 1092 319 3 681 1098
noncomputable def vD:Obj:=fo (T 69) "of_two_values" "of_two_values" "joinload.values" 983 686
noncomputable def r9:=di [k P "high" 1103 (.str "high" 1104),k P "add" 1105 (.str "low" 1106),k P "load" 1107 (.str "low" 1108),k P "store" 1109 (.str "low" 1110),k P "same" 1111 (.str "split" 1112),k P "under" 1113 (.str "split" 1114),k P "call" 1115 (.str "near" 1116)] 7
noncomputable def abb(P:Params)(r:List (Nat×Obj)):List (Nat×Obj):=(3,aaR P)::(12,Yz)::(674,e1)::(675,e2)::(676,ug)::(677,e1)::(678,Lz)::(679,xO)::(680,uF)::(681,e1)::(682,e2)::(683,qG)::(684,e1)::(685,Md)::(686,vd)::(687,vD)::(688,r9 P)::r
noncomputable def T8(P:Params):BT:=mg 14 (T7 P) (abb P ([]))
noncomputable def S8T(w:World):OsState->SharedT:=sT (T8 w.params) 689 1125
noncomputable def L7:List Stmt:=My.top 68::My.top 69::My.top 70::My.top 71::[]
def P7(w:World):Prop:=sR w 187 S7T S8T L7 ⟨311,0,312,97⟩ ⟨332,0,332,11⟩
noncomputable def RE(P:Params):List DictEntry:=sv (YN P) 0 (.str "law_joinload_k61_words_run_by_names" 1307)++[k P "Named" 1306 (.ref 811),k P "_law_cell_at" 1316 (.ref 822),k P "_law_whole" 1323 (.ref 829),k P "_law_value" 1331 (.ref 836),k P "_law_values" 1340 (.ref 843)]
noncomputable def ZR:Obj:=⟨(.type "dict"),none,.dict (RE P).toArray 77,#[]⟩
noncomputable def VS:Obj:=nf (nl [1,0,20,7,0,27,9,0,34,11,0,41,14,0,48,17,0,55,20,0,62,22,0,69,28,0,77,30,0,84,32,0,91,34,0,98,36,0,105,38,0,112,40,0,119,42,0,126,44,0,133,46,0,140,57,0,147,59,0,160,61,0,172,68,0,191,73,0,210,79,0,229,84,0,248,87,0,258,89,0,265,97,0,272,105,0,277,114,0,282,117,0,289,127,0,296,134,0,303,146,0,310,162,0,359,169,0,385,176,0,411,183,0,437,196,0,477,210,0,517,213,0,522,217,0,527,220,0,532,224,0,539,260,0,574,265,0,581,274,0,588,281,0,595,287,0,616,289,0,623,291,0,630,293,0,637,295,0,644,297,0,651,301,0,658,305,0,665,311,0,672,313,0,679,319,0,686,333,0,694,470,0,821,474,0,828,476,0,835,484,0,842]).toArray
noncomputable def Q2(P:Params):List DictEntry:=[k P "__module__" 1132 (.str "joinload.named" 1101),k P "__qualname__" 1134 (.str "Named" 1133),k P "__firstlineno__" 1136 (.int 333 1135),k P "__init__" 1142 (.ref 700),k P "take_in" 1159 (.ref 707),k P "go_on" 1167 (.ref 714),k P "state" 1173 (.ref 719),k P "value_at" 1183 (.ref 726),k P "is_inside" 1191 (.ref 733),k P "found" 1199 (.ref 740),k P "stretch_of" 1207 (.ref 747),k P "deed_here" 1215 (.ref 754),k P "do" 1228 (.ref 761),k P "sought" 1238 (.ref 768),k P "store" 1247 (.ref 775),k P "result" 1257 (.ref 782),k P "value_found" 1266 (.ref 789),k P "goes" 1276 (.ref 796),k P "same" 1282 (.ref 801),k P "under" 1292 (.ref 808),k P "__static_attributes__" 1299 (.ref 809)]
noncomputable def Cb:Obj:=⟨(.type "dict"),none,.dict (Q2 P).toArray 21,#[]⟩
noncomputable def Fd:Obj:=nf (nl [335,4,699,347,4,706,358,4,713,368,4,718,372,4,725,375,4,732,378,4,739,383,4,746,386,4,753,396,4,760,420,4,767,428,4,774,434,4,781,445,4,788,451,4,795,456,4,800,463,4,807]).toArray
noncomputable def Ex:Obj:=co "Named" "Named" 1127 333 0 0 692 false 693 .none 1130
noncomputable def DM:Obj:=fm 694 691 (.str "joinload.named" 1101)
noncomputable def EO:Obj:=ft (C 72 0) "__init__" "Named.__init__"
noncomputable def jW:Obj:=co "__init__" "Named.__init__" 1137 335 5 3 696 true 697 (.ref 698) 1140
noncomputable def jY:Obj:=fo (C 72 0) "__init__" "Named.__init__" "joinload.named" 1101 699
noncomputable def kA:Obj:=tu #[.str "self" 1146,.str "piece" 1147,.str "names" 1148,.str "number" 1149,.str "stretch" 1150,.str "words" 1151,.str "fills" 1152,.str "at" 1153,.str "word" 1154,.str "fill" 1155,.str "aimed" 1156]
noncomputable def FA:Obj:=ft (C 72 1) "take_in" "Named.take_in"
noncomputable def lX:Obj:=cf "take_in" "Named.take_in" 1143 347 3 701 1157
noncomputable def lV:Obj:=fo (C 72 1) "take_in" "Named.take_in" "joinload.named" 1101 706
noncomputable def l_:Obj:=tu #[.str "self" 1163,.str "here" 1164]
noncomputable def Cn:Obj:=ft (C 72 2) "go_on" "Named.go_on"
noncomputable def ky:Obj:=cf "go_on" "Named.go_on" 1160 358 1 708 1165
noncomputable def lL:Obj:=fo (C 72 2) "go_on" "Named.go_on" "joinload.named" 1101 713
noncomputable def CH:Obj:=ft (C 72 3) "state" "Named.state"
noncomputable def mq:Obj:=co "state" "Named.state" 1168 368 1 3 715 true 716 (.ref 717) 1171
noncomputable def mK:Obj:=fo (C 72 3) "state" "Named.state" "joinload.named" 1101 718
noncomputable def kD:Obj:=tu #[.str "self" 1177,.str "piece" 1178,.str "stretch" 1179,.str "offset" 1180]
noncomputable def Fg:Obj:=ft (C 72 4) "value_at" "Named.value_at"
noncomputable def l9:Obj:=cf "value_at" "Named.value_at" 1174 372 4 720 1181
noncomputable def lO:Obj:=fo (C 72 4) "value_at" "Named.value_at" "joinload.named" 1101 725
noncomputable def lq:Obj:=tu #[.str "self" 1187,.str "value" 1188]
noncomputable def Fi:Obj:=ft (C 72 5) "is_inside" "Named.is_inside"
noncomputable def lI:Obj:=cf "is_inside" "Named.is_inside" 1184 375 2 727 1189
noncomputable def kz:Obj:=fo (C 72 5) "is_inside" "Named.is_inside" "joinload.named" 1101 732
noncomputable def mI:Obj:=tu #[.str "self" 1195,.str "value" 1196]
noncomputable def Fj:Obj:=ft (C 72 6) "found" "Named.found"
noncomputable def lZ:Obj:=cf "found" "Named.found" 1192 378 2 734 1197
noncomputable def lU:Obj:=fo (C 72 6) "found" "Named.found" "joinload.named" 1101 739
noncomputable def mQ:Obj:=tu #[.str "self" 1203,.str "value" 1204]
noncomputable def Eo:Obj:=ft (C 72 7) "stretch_of" "Named.stretch_of"
noncomputable def lE:Obj:=cf "stretch_of" "Named.stretch_of" 1200 383 2 741 1205
noncomputable def kI:Obj:=fo (C 72 7) "stretch_of" "Named.stretch_of" "joinload.named" 1101 746
noncomputable def kK:Obj:=tu #[.str "self" 1211,.str "here" 1212]
noncomputable def Ce:Obj:=ft (C 72 8) "deed_here" "Named.deed_here"
noncomputable def kC:Obj:=cf "deed_here" "Named.deed_here" 1208 386 1 748 1213
noncomputable def kZ:Obj:=fo (C 72 8) "deed_here" "Named.deed_here" "joinload.named" 1101 753
noncomputable def mV:Obj:=tu #[.str "self" 1219,.str "word" 1220,.str "aimed" 1221,.str "deed" 1222,.str "a" 1223,.str "first" 1224,.str "after" 1225]
noncomputable def DS:Obj:=ft (C 72 9) "do" "Named.do"
noncomputable def kq:Obj:=cf "do" "Named.do" 1216 396 3 755 1226
noncomputable def mf:Obj:=fo (C 72 9) "do" "Named.do" "joinload.named" 1101 760
noncomputable def kh:Obj:=tu #[.str "self" 1232,.str "word" 1233,.str "aimed" 1234,.str "second" 1235]
noncomputable def DA:Obj:=ft (C 72 10) "sought" "Named.sought"
noncomputable def mE:Obj:=cf "sought" "Named.sought" 1229 420 3 762 1236
noncomputable def k6:Obj:=fo (C 72 10) "sought" "Named.sought" "joinload.named" 1101 767
noncomputable def jQ:Obj:=tu #[.str "self" 1242,.str "place" 1243,.str "value" 1244]
noncomputable def Cm:Obj:=ft (C 72 11) "store" "Named.store"
noncomputable def kE:Obj:=cf "store" "Named.store" 1239 428 3 769 1245
noncomputable def jX:Obj:=fo (C 72 11) "store" "Named.store" "joinload.named" 1101 774
noncomputable def mO:Obj:=tu #[.str "self" 1251,.str "deed" 1252,.str "word" 1253,.str "aimed" 1254]
noncomputable def FL:Obj:=ft (C 72 12) "result" "Named.result"
noncomputable def j3:Obj:=cf "result" "Named.result" 1248 434 4 776 1255
noncomputable def mT:Obj:=fo (C 72 12) "result" "Named.result" "joinload.named" 1101 781
noncomputable def kU:Obj:=tu #[.str "self" 1261,.str "place" 1262,.str "found" 1263]
noncomputable def Fx:Obj:=ft (C 72 13) "value_found" "Named.value_found"
noncomputable def lS:Obj:=cf "value_found" "Named.value_found" 1258 445 2 783 1264
noncomputable def kb:Obj:=fo (C 72 13) "value_found" "Named.value_found" "joinload.named" 1101 788
noncomputable def kM:Obj:=tu #[.str "self" 1270,.str "deed" 1271,.str "first" 1272,.str "second" 1273]
noncomputable def Fe:Obj:=ft (C 72 14) "goes" "Named.goes"
noncomputable def kG:Obj:=cf "goes" "Named.goes" 1267 451 4 790 1274
noncomputable def ki:Obj:=fo (C 72 14) "goes" "Named.goes" "joinload.named" 1101 795
noncomputable def Dv:Obj:=ft (C 72 15) "same" "Named.same"
noncomputable def kJ:Obj:=co "same" "Named.same" 1277 456 3 3 797 true 798 (.ref 799) 1280
noncomputable def k9:Obj:=fo (C 72 15) "same" "Named.same" "joinload.named" 1101 800
noncomputable def ly:Obj:=tu #[.str "self" 1286,.str "first" 1287,.str "second" 1288,.str "many" 1289]
noncomputable def C8:Obj:=ft (C 72 16) "under" "Named.under"
noncomputable def mh:Obj:=cf "under" "Named.under" 1283 463 3 802 1290
noncomputable def mi:Obj:=fo (C 72 16) "under" "Named.under" "joinload.named" 1101 807
noncomputable def lF:Obj:=tu #[.str "ended" 1293,.str "memory" 1294,.str "numbers" 1295,.str "place" 1296,.str "registers" 1297,.str "stretches" 1298]
noncomputable def Qq(P:Params):List DictEntry:=[k P "__module__" 1132 (.str "joinload.named" 1101),k P "__firstlineno__" 1136 (.int 333 1135),k P "__init__" 1142 (.ref 700),k P "take_in" 1159 (.ref 707),k P "go_on" 1167 (.ref 714),k P "state" 1173 (.ref 719),k P "value_at" 1183 (.ref 726),k P "is_inside" 1191 (.ref 733),k P "found" 1199 (.ref 740),k P "stretch_of" 1207 (.ref 747),k P "deed_here" 1215 (.ref 754),k P "do" 1228 (.ref 761),k P "sought" 1238 (.ref 768),k P "store" 1247 (.ref 775),k P "result" 1257 (.ref 782),k P "value_found" 1266 (.ref 789),k P "goes" 1276 (.ref 796),k P "same" 1282 (.ref 801),k P "under" 1292 (.ref 808),k P "__static_attributes__" 1299 (.ref 809),k P "__dict__" 1301 (.ref 812),k P "__weakref__" 1303 (.ref 813),k P "__doc__" 1304 .none]
noncomputable def k8:Obj:=⟨(.type "dict"),none,.dict (Qq P).toArray 4,#[]⟩
noncomputable def ko:Obj:=cc "Named" (.type "object") 811 [.type "object"] 810 [] none 1125 1133 "object.__new__"
noncomputable def mD:Obj:=⟨(.type "getset_descriptor"),none,(.fields #[.str "__dict__" 1300,.ref 811,.builtin "function.__dict__",.builtin "function.__dict__#set"]),#[]⟩
noncomputable def mm:Obj:=⟨(.type "getset_descriptor"),none,(.fields #[.str "__weakref__" 1302,.ref 811,.builtin "ExceptionGroup.__weakref__",.none]),#[]⟩
noncomputable def lh:Obj:=tu #[.str "_law_script" 1312,.str "_law_k" 1313]
noncomputable def Cz:Obj:=ft (T 74) "_law_cell_at" "_law_cell_at"
noncomputable def mR:Obj:=cf "_law_cell_at" "_law_cell_at" 1309 470 2 816 1314
noncomputable def lz:Obj:=fo (T 74) "_law_cell_at" "_law_cell_at" "law_joinload_k61_words_run_by_names" 1307 821
noncomputable def lQ:Obj:=tu #[.str "_law_found" 1320]
noncomputable def DU:Obj:=ft (T 75) "_law_whole" "_law_whole"
noncomputable def mz:Obj:=cf "_law_whole" "_law_whole" 1317 474 1 823 1321
noncomputable def kW:Obj:=fo (T 75) "_law_whole" "_law_whole" "law_joinload_k61_words_run_by_names" 1307 828
noncomputable def kF:Obj:=tu #[.str "_law_found" 1327,.str "_law_due" 1328]
noncomputable def Cd:Obj:=ft (T 76) "_law_value" "_law_value"
noncomputable def lY:Obj:=cf "_law_value" "_law_value" 1324 476 2 830 1329
noncomputable def lJ:Obj:=fo (T 76) "_law_value" "_law_value" "law_joinload_k61_words_run_by_names" 1307 835
noncomputable def lH:Obj:=tu #[.str "_law_found" 1335,.str "_law_due" 1336,.str "_law_k" 1337]
noncomputable def Ft:Obj:=ft (T 77) "_law_values" "_law_values"
noncomputable def l7:Obj:=cf "_law_values" "_law_values" 1332 484 2 837 1338
noncomputable def mH:Obj:=fo (T 77) "_law_values" "_law_values" "law_joinload_k61_words_run_by_names" 1307 842
noncomputable def aca(P:Params)(r:List (Nat×Obj)):List (Nat×Obj):=(3,ZR P)::(12,VS)::(689,e1)::(690,bp)::(691,Cb P)::(692,e1)::(693,Fd)::(694,Ex)::(695,DM)::(696,e1)::(697,e2)::(698,EO)::(699,jW)::(700,jY)::(701,e1)::(702,e2)::(703,kA)::(704,e1)::(705,FA)::(706,lX)::(707,lV)::(708,e1)::(709,e2)::(710,l_)::r
noncomputable def aa4(P:Params)(r:List (Nat×Obj)):List (Nat×Obj):=(711,e1)::(712,Cn)::(713,ky)::(714,lL)::(715,e1)::(716,e2)::(717,CH)::(718,mq)::(719,mK)::(720,e1)::(721,e2)::(722,kD)::(723,e1)::(724,Fg)::(725,l9)::(726,lO)::(727,e1)::(728,e2)::(729,lq)::(730,e1)::(731,Fi)::(732,lI)::(733,kz)::(734,e1)::r
noncomputable def acb(P:Params)(r:List (Nat×Obj)):List (Nat×Obj):=(735,e2)::(736,mI)::(737,e1)::(738,Fj)::(739,lZ)::(740,lU)::(741,e1)::(742,e2)::(743,mQ)::(744,e1)::(745,Eo)::(746,lE)::(747,kI)::(748,e1)::(749,e2)::(750,kK)::(751,e1)::(752,Ce)::(753,kC)::(754,kZ)::(755,e1)::(756,e2)::(757,mV)::(758,e1)::r
noncomputable def acm(P:Params)(r:List (Nat×Obj)):List (Nat×Obj):=(759,DS)::(760,kq)::(761,mf)::(762,e1)::(763,e2)::(764,kh)::(765,e1)::(766,DA)::(767,mE)::(768,k6)::(769,e1)::(770,e2)::(771,jQ)::(772,e1)::(773,Cm)::(774,kE)::(775,jX)::(776,e1)::(777,e2)::(778,mO)::(779,e1)::(780,FL)::(781,j3)::(782,mT)::r
noncomputable def abX(P:Params)(r:List (Nat×Obj)):List (Nat×Obj):=(783,e1)::(784,e2)::(785,kU)::(786,e1)::(787,Fx)::(788,lS)::(789,kb)::(790,e1)::(791,e2)::(792,kM)::(793,e1)::(794,Fe)::(795,kG)::(796,ki)::(797,e1)::(798,e2)::(799,Dv)::(800,kJ)::(801,k9)::(802,e1)::(803,e2)::(804,ly)::(805,e1)::(806,C8)::r
noncomputable def abB(P:Params)(r:List (Nat×Obj)):List (Nat×Obj):=(807,mh)::(808,mi)::(809,lF)::(810,k8 P)::(811,ko)::(812,mD)::(813,mm)::(814,su 811)::(815,bs 811)::(816,e1)::(817,e2)::(818,lh)::(819,e1)::(820,Cz)::(821,mR)::(822,lz)::(823,e1)::(824,e2)::(825,lQ)::(826,e1)::(827,DU)::(828,mz)::(829,kW)::(830,e1)::r
noncomputable def aal(P:Params)(r:List (Nat×Obj)):List (Nat×Obj):=(831,e2)::(832,kF)::(833,e1)::(834,Cd)::(835,lY)::(836,lJ)::(837,e1)::(838,e2)::(839,lH)::(840,e1)::(841,Ft)::(842,l7)::(843,mH)::r
noncomputable def T9(P:Params):BT:=mg 14 (T8 P) (aca P (aa4 P (acb P (acm P (abX P (abB P (aal P ([]))))))))
noncomputable def S9T(w:World):OsState->SharedT:=sT (T9 w.params) 844 1341
noncomputable def L8:List Stmt:=My.top 72::My.top 73::My.top 74::My.top 75::My.top 76::My.top 77::[]
def P8(w:World):Prop:=sR w 883 S8T S9T L8 ⟨332,0,332,11⟩ ⟨484,0,490,15⟩
noncomputable def XE(P:Params):List DictEntry:=RE P++[k P "_law_state" 1351 (.ref 850),k P "_law_turned" 1360 (.ref 857),k P "_law_bits" 1373 (.ref 864),k P "_law_reckoned" 1383 (.ref 871),k P "_law_word_by" 1391 (.ref 878),k P "_law_filled" 1406 (.ref 885),k P "_law_kept" 1415 (.ref 892),k P "_law_held" 1424 (.ref 899),k P "_law_walked" 1442 (.ref 906),k P "law" 1448 (.ref 911)]
noncomputable def DF:Obj:=⟨(.type "dict"),none,.dict (XE P).toArray 87,#[]⟩
noncomputable def JJ:Obj:=nf (nl [1,0,20,7,0,27,9,0,34,11,0,41,14,0,48,17,0,55,20,0,62,22,0,69,28,0,77,30,0,84,32,0,91,34,0,98,36,0,105,38,0,112,40,0,119,42,0,126,44,0,133,46,0,140,57,0,147,59,0,160,61,0,172,68,0,191,73,0,210,79,0,229,84,0,248,87,0,258,89,0,265,97,0,272,105,0,277,114,0,282,117,0,289,127,0,296,134,0,303,146,0,310,162,0,359,169,0,385,176,0,411,183,0,437,196,0,477,210,0,517,213,0,522,217,0,527,220,0,532,224,0,539,260,0,574,265,0,581,274,0,588,281,0,595,287,0,616,289,0,623,291,0,630,293,0,637,295,0,644,297,0,651,301,0,658,305,0,665,311,0,672,313,0,679,319,0,686,333,0,694,470,0,821,474,0,828,476,0,835,484,0,842,491,0,849,497,0,856,501,0,863,512,0,870,526,0,877,531,0,884,545,0,891,554,0,898,558,0,905,583,0,910]).toArray
noncomputable def lK:Obj:=tu #[.str "_law_found" 1344,.str "_law_spot" 1345,.str "_law_row" 1346,.str "_law_told" 1347,.str "_law_ended" 1348]
noncomputable def CO:Obj:=ft (T 78) "_law_state" "_law_state"
noncomputable def mU:Obj:=cf "_law_state" "_law_state" 1341 491 5 844 1349
noncomputable def jR:Obj:=fo (T 78) "_law_state" "_law_state" "law_joinload_k61_words_run_by_names" 1307 849
noncomputable def my:Obj:=tu #[.str "_law_word" 1355,.str "_law_by" 1356,.str "_law_k" 1357]
noncomputable def CU:Obj:=ft (T 79) "_law_turned" "_law_turned"
noncomputable def lg:Obj:=cf "_law_turned" "_law_turned" 1352 497 2 851 1358
noncomputable def jS:Obj:=fo (T 79) "_law_turned" "_law_turned" "law_joinload_k61_words_run_by_names" 1307 856
noncomputable def kR:Obj:=tu #[.str "_law_one" 1364,.str "_law_other" 1365,.str "_law_odd" 1366,.str "_law_found" 1367,.str "_law_power" 1368,.str "_law_k" 1369,.str "_law_both" 1370]
noncomputable def Dw:Obj:=ft (T 80) "_law_bits" "_law_bits"
noncomputable def mW:Obj:=cf "_law_bits" "_law_bits" 1361 501 3 858 1371
noncomputable def md:Obj:=fo (T 80) "_law_bits" "_law_bits" "law_joinload_k61_words_run_by_names" 1307 863
noncomputable def mX:Obj:=tu #[.str "_law_op" 1377,.str "_law_left" 1378,.str "_law_right" 1379,.str "_law_n" 1380]
noncomputable def Fs:Obj:=ft (T 81) "_law_reckoned" "_law_reckoned"
noncomputable def jU:Obj:=cf "_law_reckoned" "_law_reckoned" 1374 512 4 865 1381
noncomputable def kX:Obj:=fo (T 81) "_law_reckoned" "_law_reckoned" "law_joinload_k61_words_run_by_names" 1307 870
noncomputable def lP:Obj:=tu #[.str "_law_cell" 1387,.str "_law_op" 1388]
noncomputable def CQ:Obj:=ft (T 82) "_law_word_by" "_law_word_by"
noncomputable def mJ:Obj:=cf "_law_word_by" "_law_word_by" 1384 526 1 872 1389
noncomputable def ka:Obj:=fo (T 82) "_law_word_by" "_law_word_by" "law_joinload_k61_words_run_by_names" 1307 877
noncomputable def j6:Obj:=tu #[.str "_law_cells" 1395,.str "_law_skip" 1396,.str "_law_words" 1397,.str "_law_fills" 1398,.str "_law_run" 1399,.str "_law_j" 1400,.str "_law_rule" 1401,.str "_law_add" 1402,.str "_law_number" 1403]
noncomputable def Fv:Obj:=ft (T 83) "_law_filled" "_law_filled"
noncomputable def mY:Obj:=cf "_law_filled" "_law_filled" 1392 531 4 879 1404
noncomputable def mC:Obj:=fo (T 83) "_law_filled" "_law_filled" "law_joinload_k61_words_run_by_names" 1307 884
noncomputable def j5:Obj:=tu #[.str "_law_machine" 1410,.str "_law_kept_here" 1411,.str "refusal" 1412]
noncomputable def D6:Obj:=ft (T 84) "_law_kept" "_law_kept"
noncomputable def kH:Obj:=cf "_law_kept" "_law_kept" 1407 545 1 886 1413
noncomputable def jV:Obj:=fo (T 84) "_law_kept" "_law_kept" "law_joinload_k61_words_run_by_names" 1307 891
noncomputable def kj:Obj:=tu #[.str "_law_machine" 1419,.str "_law_held_here" 1420,.str "_law_found" 1421]
noncomputable def EI:Obj:=ft (T 85) "_law_held" "_law_held"
noncomputable def j7:Obj:=cf "_law_held" "_law_held" 1416 554 2 893 1422
noncomputable def kN:Obj:=fo (T 85) "_law_held" "_law_held" "law_joinload_k61_words_run_by_names" 1307 898
noncomputable def lM:Obj:=tu #[.str "_law_machine" 1428,.str "_law_words" 1429,.str "_law_at" 1430,.str "_law_row" 1431,.str "_law_held_here" 1432,.str "_law_told" 1433,.str "_law_word" 1434,.str "_law_found" 1435,.str "_law_op" 1436,.str "_law_a" 1437,.str "_law_spot" 1438,.str "_law_k" 1439]
noncomputable def Cg:Obj:=ft (T 86) "_law_walked" "_law_walked"
noncomputable def lR:Obj:=cf "_law_walked" "_law_walked" 1425 558 5 900 1440
noncomputable def kB:Obj:=fo (T 86) "_law_walked" "_law_walked" "law_joinload_k61_words_run_by_names" 1307 905
noncomputable def Dm:Obj:=ft (T 87) "law" "law"
noncomputable def lN:Obj:=co "law" "law" 1443 583 1 3 907 true 908 (.ref 909) 1446
noncomputable def jT:Obj:=fo (T 87) "law" "law" "law_joinload_k61_words_run_by_names" 1307 910
noncomputable def ZJ(P:Params)(r:List (Nat×Obj)):List (Nat×Obj):=(3,DF P)::(12,JJ)::(844,e1)::(845,e2)::(846,lK)::(847,e1)::(848,CO)::(849,mU)::(850,jR)::(851,e1)::(852,e2)::(853,my)::(854,e1)::(855,CU)::(856,lg)::(857,jS)::(858,e1)::(859,e2)::(860,kR)::(861,e1)::(862,Dw)::(863,mW)::(864,md)::(865,e1)::r
noncomputable def Zh(P:Params)(r:List (Nat×Obj)):List (Nat×Obj):=(866,e2)::(867,mX)::(868,e1)::(869,Fs)::(870,jU)::(871,kX)::(872,e1)::(873,e2)::(874,lP)::(875,e1)::(876,CQ)::(877,mJ)::(878,ka)::(879,e1)::(880,e2)::(881,j6)::(882,e1)::(883,Fv)::(884,mY)::(885,mC)::(886,e1)::(887,e2)::(888,j5)::(889,e1)::r
noncomputable def Zx(P:Params)(r:List (Nat×Obj)):List (Nat×Obj):=(890,D6)::(891,kH)::(892,jV)::(893,e1)::(894,e2)::(895,kj)::(896,e1)::(897,EI)::(898,j7)::(899,kN)::(900,e1)::(901,e2)::(902,lM)::(903,e1)::(904,Cg)::(905,lR)::(906,kB)::(907,e1)::(908,e2)::(909,Dm)::(910,lN)::(911,jT)::r
noncomputable def T10(P:Params):BT:=mg 14 (T9 P) (ZJ P (Zh P (Zx P ([]))))
noncomputable def Yc(w:World):OsState->SharedT:=sT (T10 w.params) 912 1449
noncomputable def L9:List Stmt:=My.top 78::My.top 79::My.top 80::My.top 81::My.top 82::My.top 83::My.top 84::My.top 85::My.top 86::My.top 87::[]
def P9(w:World):Prop:=sR w 327 S9T Yc L9 ⟨484,0,490,15⟩ ⟨583,0,604,15⟩
noncomputable def h_0(P:Params)(r:List Obj):List Obj:=boot_o_0 P::boot_o_1 P::boot_o_2 P::DF P::boot_o_4 P::boot_o_5 P::boot_o_6 P::boot_o_7 P::boot_o_8 P::boot_o_9 P::boot_o_10 P::e1::JJ::N1::OB::e1::e2::C0::e1::SM::C_::EB::e1::e2::r
noncomputable def h_1(P:Params)(r:List Obj):List Obj:=D4::e1::RJ::Dk::Cq::e1::e2::ET::e1::R_::CK::FG::e1::e2::DR::e1::Sd::E1::D8::e1::e2::EN::e1::RD::r
noncomputable def h_2(P:Params)(r:List Obj):List Obj:=C3::B_::e1::e2::Fh::e1::RH::CA::Ez::e1::e2::EV::e1::Sq::Dt::DE::e1::e2::Ed::e1::SQ::FE::EA::CF::r
noncomputable def h_3(P:Params)(r:List Obj):List Obj:=e1::e2::Cc::e1::Su::DK::Et::e1::e2::Dn::e1::Ss::EW::EZ::e1::e2::En::e1::RF::CW::D_::e1::e2::D7::r
noncomputable def h_4(P:Params)(r:List Obj):List Obj:=e1::RN::Ep::Ct::e1::e2::wW::e1::Jg::w6::vt::e1::e2::xr::e1::IM::vS::yK::e1::e2::ui::e1::OT::yc::r
noncomputable def h_5(P:Params)(r:List Obj):List Obj:=wX::e1::e2::vG::e1::MZ::wM::vK::e1::e2::yp::e1::JO::tJ::vh::e1::e2::vo::e1::Jr::y8::xB::tu #[.type "ValueError"]::bp::r
noncomputable def h_6(P:Params)(r:List Obj):List Obj:=JB P::e1::e2::LI::Kv::e1::xo P::yq::v3::su 151::bs 151::tu #[.ref 151]::bp::Kh P::e1::e2::JL::LR::e1::sk P::x9::su 164::bs 164::tu #[.ref 151]::r
noncomputable def h_7(P:Params)(r:List Obj):List Obj:=bp::Mp P::e1::OV::N0::Mr::e1::e2::wx::e1::Iz::yd::wm::uq::rW P::wL::su 183::bs 183::tu #[.ref 151]::bp::Ln P::e1::IP::OE::r
noncomputable def h_8(P:Params)(r:List Obj):List Obj:=NL::e1::e2::qS::e1::Jb::w_::xW::uj::ub P::yP::su 202::bs 202::tu #[.ref 151]::bp::LB P::e1::MO::HG::Lp::e1::e2::xP::e1::r
noncomputable def h_9(P:Params)(r:List Obj):List Obj:=Ke::y9::yn::wj::sq P::yI::su 221::bs 221::tu #[.ref 151]::bp::M7 P::e1::Oq::JQ::Nd::e1::e2::tZ::e1::Lf::wR::tf::sW::vY P::r
noncomputable def abN(P:Params)(r:List Obj):List Obj:=u7::su 240::bs 240::tu #[.ref 151]::bp::JV P::e1::e2::Mf::IC::e1::wA P::vy::su 252::bs 252::e1::e2::HN::uy::sC::e1::e2::qU::e1::r
noncomputable def aak(P:Params)(r:List Obj):List Obj:=Ov::yS::qX::e1::e2::xK::e1::IY::uw::uD::e1::e2::Ib::qK::vO::e1::e2::JK::vp::yN::e1::e2::qO::e1::r
noncomputable def aaV(P:Params)(r:List Obj):List Obj:=Kw::tW::rY::e1::e2::qD::e1::Lj::wN::tT::e1::e2::uc::e1::Ks::wD::sM::e1::bp::OJ P::e1::Ng::OM::Ny::r
noncomputable def aaF(P:Params)(r:List Obj):List Obj:=e1::e2::tE::e1::Pd::tG::sJ::e1::e2::yL::e1::Lu::wK::vW::e1::e2::wu::e1::OA::v9::yx::e1::e2::yo::r
noncomputable def abD(P:Params)(r:List Obj):List Obj:=e1::JR::rH::vC::e1::e2::r_::e1::Jq::yB::uR::xH::rO P::vH::rb::xR::su 349::bs 349::tu #[.ref 349]::bp::OR P::e1::Pl::Ka::r
noncomputable def abp(P:Params)(r:List Obj):List Obj:=Mw::e1::e2::yH::e1::Js::vz::xf::e1::e2::wZ::e1::NG::yX::ua::e1::q_ P::rq::su 377::bs 377::tu #[.ref 349]::bp::Nj P::e1::r
noncomputable def abc(P:Params)(r:List Obj):List Obj:=Pq::Mt::JG::e1::e2::uz::e1::K7::rQ::tL::e1::e2::wI::e1::NH::sO::x8::e1::tI P::u0::su 403::bs 403::tu #[.ref 349]::bp::r
noncomputable def aaC(P:Params)(r:List Obj):List Obj:=Kz P::e1::N5::Kb::Jp::e1::e2::qQ::e1::Lh::vq::wq::e1::e2::yk::e1::KH::yA::rh::e1::tK P::uH::su 429::bs 429::r
noncomputable def abe(P:Params)(r:List Obj):List Obj:=tu #[.ref 349]::bp::M_ P::e1::MJ::Ph::K0::e1::e2::wa::e1::Pg::xb::v8::e1::e2::rT::e1::Nw::qY::vv::e1::e2::sY::r
noncomputable def aas(P:Params)(r:List Obj):List Obj:=e1::O7::u_::sP::e1::e2::y6::e1::Mo::wz::qV::e1::vE P::rE::su 469::bs 469::tu #[.ref 349]::bp::NI P::e1::Ky::Mx::HM::e1::r
noncomputable def abY(P:Params)(r:List Obj):List Obj:=e2::yZ::e1::Kc::yz::yG::e1::e2::r6::e1::Hy::qF::rD::e1::e2::ye::e1::LV::vR::xx::e1::e2::yC::e1::r
noncomputable def aaU(P:Params)(r:List Obj):List Obj:=MQ::ur::vV::e1::qI P::vP::su 509::bs 509::e1::e2::u6::e1::Nq::ve::tY::e1::e2::Ou::se::xG::e1::e2::M5::sZ::r
noncomputable def ab_(P:Params)(r:List Obj):List Obj:=tV::e1::e2::OD::uW::tO::e1::bp::Mu P::e1::Po::NB::Lq::e1::e2::rS::e1::NT::ym::sQ::e1::e2::uM::e1::r
noncomputable def abM(P:Params)(r:List Obj):List Obj:=Ko::qW::vQ::e1::e2::vF::e1::Ii::we::sL::tF::wO P::uv::uS::qE::su 564::bs 564::e1::e2::vw::e1::Iv::yV::xM::r
noncomputable def aaI(P:Params)(r:List Obj):List Obj:=e1::e2::xX::e1::HB::uK::rB::e1::e2::qT::e1::M9::rA::tq::e1::bp::Pa P::e1::Oa::Jw::LW::e1::e2::sG::r
noncomputable def abg(P:Params)(r:List Obj):List Obj:=e1::Pp::vN::vX::uV::rR P::yf::s_::yW::su 606::bs 606::e1::e2::tU::e1::MT::yO::xV::e1::e2::xu::e1::LQ::rj::r
noncomputable def aa2(P:Params)(r:List Obj):List Obj:=sX::e1::e2::wt::e1::Im::xq::uh::e1::e2::xl::e1::HR::tM::rJ::e1::e2::qP::e1::Od::tS::um::e1::e2::r
noncomputable def ab6(P:Params)(r:List Obj):List Obj:=yJ::e1::Of::sI::yh::e1::e2::za::e1::Nk::uJ::si::e1::e2::yF::e1::HX::sN::wG::e1::e2::xh::e1::Kl::r
noncomputable def abL(P:Params)(r:List Obj):List Obj:=uP::yw::e1::e2::ug::e1::Lz::xO::uF::e1::e2::qG::e1::Md::vd::vD::r9 P::e1::bp::Cb P::e1::Fd::Ex::DM::r
noncomputable def abl(P:Params)(r:List Obj):List Obj:=e1::e2::EO::jW::jY::e1::e2::kA::e1::FA::lX::lV::e1::e2::l_::e1::Cn::ky::lL::e1::e2::CH::mq::mK::r
noncomputable def abi(P:Params)(r:List Obj):List Obj:=e1::e2::kD::e1::Fg::l9::lO::e1::e2::lq::e1::Fi::lI::kz::e1::e2::mI::e1::Fj::lZ::lU::e1::e2::mQ::r
noncomputable def abG(P:Params)(r:List Obj):List Obj:=e1::Eo::lE::kI::e1::e2::kK::e1::Ce::kC::kZ::e1::e2::mV::e1::DS::kq::mf::e1::e2::kh::e1::DA::mE::r
noncomputable def abH(P:Params)(r:List Obj):List Obj:=k6::e1::e2::jQ::e1::Cm::kE::jX::e1::e2::mO::e1::FL::j3::mT::e1::e2::kU::e1::Fx::lS::kb::e1::e2::r
noncomputable def aat(P:Params)(r:List Obj):List Obj:=kM::e1::Fe::kG::ki::e1::e2::Dv::kJ::k9::e1::e2::ly::e1::C8::mh::mi::lF::k8 P::ko::mD::mm::su 811::bs 811::r
noncomputable def aai(P:Params)(r:List Obj):List Obj:=e1::e2::lh::e1::Cz::mR::lz::e1::e2::lQ::e1::DU::mz::kW::e1::e2::kF::e1::Cd::lY::lJ::e1::e2::lH::r
noncomputable def aaN(P:Params)(r:List Obj):List Obj:=e1::Ft::l7::mH::e1::e2::lK::e1::CO::mU::jR::e1::e2::my::e1::CU::lg::jS::e1::e2::kR::e1::Dw::mW::r
noncomputable def acj(P:Params)(r:List Obj):List Obj:=md::e1::e2::mX::e1::Fs::jU::kX::e1::e2::lP::e1::CQ::mJ::ka::e1::e2::j6::e1::Fv::mY::mC::e1::e2::r
noncomputable def ach(P:Params)(r:List Obj):List Obj:=j5::e1::D6::kH::jV::e1::e2::kj::e1::EI::j7::kN::e1::e2::lM::e1::Cg::lR::kB::e1::e2::Dm::lN::jT::r
noncomputable def Hf(P:Params):Heap:=⟨⟨h_0 P (h_1 P (h_2 P (h_3 P (h_4 P (h_5 P (h_6 P (h_7 P (h_8 P (h_9 P (abN P (aak P (aaV P (aaF P (abD P (abp P (abc P (aaC P (abe P (aas P (abY P (aaU P (ab_ P (abM P (aaI P (abg P (aa2 P (ab6 P (abL P (abl P (abi P (abG P (abH P (aat P (aai P (aaN P (acj P (ach P ([]))))))))))))))))))))))))))))))))))))))⟩,li⟩
noncomputable def Sf(w:World)(os:OsState):Shared:=⟨Hf w.params,⟨[]⟩,boot_drawn,1449,os⟩
def Fin(w:World):Prop:=(λos=>topRun treeTable pw w 11 an 2 (Yc w os).abs ⟨doneF .next,cE,⟨583,0,604,15⟩,B⟩)=λos=>some (Sf w os)
noncomputable def q:Program:={ pw with main:={ pw.main with body:=My.top 0::My.top 2::My.top 3::My.top 4::My.top 5::My.top 6::My.top 7::My.top 8::My.top 9::My.top 10::My.top 12::My.top 13::My.top 14::My.top 15::My.top 16::My.top 17::My.top 18::My.top 19::My.top 20::My.top 21::My.top 22::My.top 24::My.top 25::My.top 26::My.top 27::My.top 28::My.top 29::My.top 30::My.top 32::My.top 33::My.top 34::My.top 35::My.top 36::My.top 37::My.top 38::My.top 40::My.top 41::My.top 42::My.top 43::My.top 44::My.top 45::My.top 46::My.top 47::My.top 49::My.top 50::My.top 52::My.top 53::My.top 54::My.top 55::My.top 56::My.top 58::My.top 59::My.top 60::My.top 61::My.top 62::My.top 63::My.top 64::My.top 65::My.top 66::My.top 67::My.top 68::My.top 69::My.top 71::My.top 72::My.top 74::My.top 75::My.top 76::My.top 77::My.top 78::My.top 79::My.top 80::My.top 81::My.top 82::My.top 83::My.top 84::My.top 85::My.top 86::My.top 87::[] } }
noncomputable def K(P:Params):Frag:=(nat_lit 2,boot_o_2 P)::(nat_lit 3,DF P)::(nat_lit 4,boot_o_4 P)::(nat_lit 15,e1)::(nat_lit 17,C0)::(nat_lit 18,e1)::(nat_lit 20,C_)::(nat_lit 21,EB)::(nat_lit 22,e1)::(nat_lit 24,D4)::(nat_lit 25,e1)::(nat_lit 27,Dk)::(nat_lit 28,Cq)::(nat_lit 29,e1)::(nat_lit 31,ET)::(nat_lit 32,e1)::(nat_lit 34,CK)::(nat_lit 35,FG)::(nat_lit 36,e1)::(nat_lit 38,DR)::(nat_lit 39,e1)::(nat_lit 41,E1)::(nat_lit 42,D8)::(nat_lit 43,e1)::(nat_lit 45,EN)::(nat_lit 46,e1)::(nat_lit 48,C3)::(nat_lit 49,B_)::(nat_lit 50,e1)::(nat_lit 52,Fh)::(nat_lit 53,e1)::(nat_lit 55,CA)::(nat_lit 56,Ez)::(nat_lit 57,e1)::(nat_lit 59,EV)::(nat_lit 60,e1)::(nat_lit 62,Dt)::(nat_lit 63,DE)::(nat_lit 64,e1)::(nat_lit 66,Ed)::(nat_lit 67,e1)::(nat_lit 69,FE)::(nat_lit 70,EA)::(nat_lit 71,CF)::(nat_lit 72,e1)::(nat_lit 74,Cc)::(nat_lit 75,e1)::(nat_lit 77,DK)::(nat_lit 78,Et)::(nat_lit 79,e1)::(nat_lit 81,Dn)::(nat_lit 82,e1)::(nat_lit 84,EW)::(nat_lit 85,EZ)::(nat_lit 86,e1)::(nat_lit 88,En)::(nat_lit 89,e1)::(nat_lit 91,CW)::(nat_lit 92,D_)::(nat_lit 93,e1)::(nat_lit 95,D7)::(nat_lit 96,e1)::(nat_lit 98,Ep)::(nat_lit 99,Ct)::(nat_lit 100,e1)::(nat_lit 102,wW)::(nat_lit 103,e1)::(nat_lit 105,w6)::(nat_lit 106,vt)::(nat_lit 107,e1)::(nat_lit 109,xr)::(nat_lit 110,e1)::(nat_lit 112,vS)::(nat_lit 113,yK)::(nat_lit 114,e1)::(nat_lit 116,ui)::(nat_lit 117,e1)::(nat_lit 119,yc)::(nat_lit 120,wX)::(nat_lit 121,e1)::(nat_lit 123,vG)::(nat_lit 124,e1)::(nat_lit 126,wM)::(nat_lit 127,vK)::(nat_lit 128,e1)::(nat_lit 130,yp)::(nat_lit 131,e1)::(nat_lit 133,tJ)::(nat_lit 134,vh)::(nat_lit 135,e1)::(nat_lit 137,vo)::(nat_lit 138,e1)::(nat_lit 140,y8)::(nat_lit 141,xB)::(nat_lit 142,tu #[.type "ValueError"])::(nat_lit 149,e1)::(nat_lit 150,xo P)::(nat_lit 151,yq)::(nat_lit 152,v3)::(nat_lit 155,tu #[.ref 151])::(nat_lit 162,e1)::(nat_lit 163,sk P)::(nat_lit 164,x9)::(nat_lit 167,tu #[.ref 151])::(nat_lit 174,e1)::(nat_lit 176,wx)::(nat_lit 177,e1)::(nat_lit 179,yd)::(nat_lit 180,wm)::(nat_lit 181,uq)::(nat_lit 182,rW P)::(nat_lit 183,wL)::(nat_lit 186,tu #[.ref 151])::(nat_lit 193,e1)::(nat_lit 195,qS)::(nat_lit 196,e1)::(nat_lit 198,w_)::(nat_lit 199,xW)::(nat_lit 200,uj)::(nat_lit 201,ub P)::(nat_lit 202,yP)::(nat_lit 205,tu #[.ref 151])::(nat_lit 212,e1)::(nat_lit 214,xP)::(nat_lit 215,e1)::(nat_lit 217,y9)::(nat_lit 218,yn)::(nat_lit 219,wj)::(nat_lit 220,sq P)::(nat_lit 221,yI)::(nat_lit 224,tu #[.ref 151])::(nat_lit 231,e1)::(nat_lit 233,tZ)::(nat_lit 234,e1)::(nat_lit 236,wR)::(nat_lit 237,tf)::(nat_lit 238,sW)::(nat_lit 239,vY P)::(nat_lit 240,u7)::(nat_lit 243,tu #[.ref 151])::(nat_lit 250,e1)::(nat_lit 251,wA P)::(nat_lit 252,vy)::(nat_lit 255,e1)::(nat_lit 258,uy)::(nat_lit 259,sC)::(nat_lit 260,e1)::(nat_lit 262,qU)::(nat_lit 263,e1)::(nat_lit 265,yS)::(nat_lit 266,qX)::(nat_lit 267,e1)::(nat_lit 269,xK)::(nat_lit 270,e1)::(nat_lit 272,uw)::(nat_lit 273,uD)::(nat_lit 274,e1)::(nat_lit 277,qK)::(nat_lit 278,vO)::(nat_lit 279,e1)::(nat_lit 282,vp)::(nat_lit 283,yN)::(nat_lit 284,e1)::(nat_lit 286,qO)::(nat_lit 287,e1)::(nat_lit 289,tW)::(nat_lit 290,rY)::(nat_lit 291,e1)::(nat_lit 293,qD)::(nat_lit 294,e1)::(nat_lit 296,wN)::(nat_lit 297,tT)::(nat_lit 298,e1)::(nat_lit 300,uc)::(nat_lit 301,e1)::(nat_lit 303,wD)::(nat_lit 304,sM)::(nat_lit 312,e1)::(nat_lit 314,tE)::(nat_lit 315,e1)::(nat_lit 317,tG)::(nat_lit 318,sJ)::(nat_lit 319,e1)::(nat_lit 321,yL)::(nat_lit 322,e1)::(nat_lit 324,wK)::(nat_lit 325,vW)::(nat_lit 326,e1)::(nat_lit 328,wu)::(nat_lit 329,e1)::(nat_lit 331,v9)::(nat_lit 332,yx)::(nat_lit 333,e1)::(nat_lit 335,yo)::(nat_lit 336,e1)::(nat_lit 338,rH)::(nat_lit 339,vC)::(nat_lit 340,e1)::(nat_lit 342,r_)::(nat_lit 343,e1)::(nat_lit 345,yB)::(nat_lit 346,uR)::(nat_lit 347,xH)::(nat_lit 348,rO P)::(nat_lit 349,vH)::(nat_lit 350,rb)::(nat_lit 351,xR)::(nat_lit 354,tu #[.ref 349])::(nat_lit 361,e1)::(nat_lit 363,yH)::(nat_lit 364,e1)::(nat_lit 366,vz)::(nat_lit 367,xf)::(nat_lit 368,e1)::(nat_lit 370,wZ)::(nat_lit 371,e1)::(nat_lit 373,yX)::(nat_lit 374,ua)::(nat_lit 375,e1)::(nat_lit 376,q_ P)::(nat_lit 377,rq)::(nat_lit 380,tu #[.ref 349])::(nat_lit 387,e1)::(nat_lit 389,uz)::(nat_lit 390,e1)::(nat_lit 392,rQ)::(nat_lit 393,tL)::(nat_lit 394,e1)::(nat_lit 396,wI)::(nat_lit 397,e1)::(nat_lit 399,sO)::(nat_lit 400,x8)::(nat_lit 401,e1)::(nat_lit 402,tI P)::(nat_lit 403,u0)::(nat_lit 406,tu #[.ref 349])::(nat_lit 413,e1)::(nat_lit 415,qQ)::(nat_lit 416,e1)::(nat_lit 418,vq)::(nat_lit 419,wq)::(nat_lit 420,e1)::(nat_lit 422,yk)::(nat_lit 423,e1)::(nat_lit 425,yA)::(nat_lit 426,rh)::(nat_lit 427,e1)::(nat_lit 428,tK P)::(nat_lit 429,uH)::(nat_lit 432,tu #[.ref 349])::(nat_lit 439,e1)::(nat_lit 441,wa)::(nat_lit 442,e1)::(nat_lit 444,xb)::(nat_lit 445,v8)::(nat_lit 446,e1)::(nat_lit 448,rT)::(nat_lit 449,e1)::(nat_lit 451,qY)::(nat_lit 452,vv)::(nat_lit 453,e1)::(nat_lit 455,sY)::(nat_lit 456,e1)::(nat_lit 458,u_)::(nat_lit 459,sP)::(nat_lit 460,e1)::(nat_lit 462,y6)::(nat_lit 463,e1)::(nat_lit 465,wz)::(nat_lit 466,qV)::(nat_lit 467,e1)::(nat_lit 468,vE P)::(nat_lit 469,rE)::(nat_lit 472,tu #[.ref 349])::(nat_lit 479,e1)::(nat_lit 481,yZ)::(nat_lit 482,e1)::(nat_lit 484,yz)::(nat_lit 485,yG)::(nat_lit 486,e1)::(nat_lit 488,r6)::(nat_lit 489,e1)::(nat_lit 491,qF)::(nat_lit 492,rD)::(nat_lit 493,e1)::(nat_lit 495,ye)::(nat_lit 496,e1)::(nat_lit 498,vR)::(nat_lit 499,xx)::(nat_lit 500,e1)::(nat_lit 502,yC)::(nat_lit 503,e1)::(nat_lit 505,ur)::(nat_lit 506,vV)::(nat_lit 507,e1)::(nat_lit 508,qI P)::(nat_lit 509,vP)::(nat_lit 512,e1)::(nat_lit 514,u6)::(nat_lit 515,e1)::(nat_lit 517,ve)::(nat_lit 518,tY)::(nat_lit 519,e1)::(nat_lit 522,se)::(nat_lit 523,xG)::(nat_lit 524,e1)::(nat_lit 527,sZ)::(nat_lit 528,tV)::(nat_lit 529,e1)::(nat_lit 532,uW)::(nat_lit 533,tO)::(nat_lit 541,e1)::(nat_lit 543,rS)::(nat_lit 544,e1)::(nat_lit 546,ym)::(nat_lit 547,sQ)::(nat_lit 548,e1)::(nat_lit 550,uM)::(nat_lit 551,e1)::(nat_lit 553,qW)::(nat_lit 554,vQ)::(nat_lit 555,e1)::(nat_lit 557,vF)::(nat_lit 558,e1)::(nat_lit 560,we)::(nat_lit 561,sL)::(nat_lit 562,tF)::(nat_lit 563,wO P)::(nat_lit 564,uv)::(nat_lit 565,uS)::(nat_lit 566,qE)::(nat_lit 569,e1)::(nat_lit 571,vw)::(nat_lit 572,e1)::(nat_lit 574,yV)::(nat_lit 575,xM)::(nat_lit 576,e1)::(nat_lit 578,xX)::(nat_lit 579,e1)::(nat_lit 581,uK)::(nat_lit 582,rB)::(nat_lit 583,e1)::(nat_lit 585,qT)::(nat_lit 586,e1)::(nat_lit 588,rA)::(nat_lit 589,tq)::(nat_lit 597,e1)::(nat_lit 599,sG)::(nat_lit 600,e1)::(nat_lit 602,vN)::(nat_lit 603,vX)::(nat_lit 604,uV)::(nat_lit 605,rR P)::(nat_lit 606,yf)::(nat_lit 607,s_)::(nat_lit 608,yW)::(nat_lit 611,e1)::(nat_lit 613,tU)::(nat_lit 614,e1)::(nat_lit 616,yO)::(nat_lit 617,xV)::(nat_lit 618,e1)::(nat_lit 620,xu)::(nat_lit 621,e1)::(nat_lit 623,rj)::(nat_lit 624,sX)::(nat_lit 625,e1)::(nat_lit 627,wt)::(nat_lit 628,e1)::(nat_lit 630,xq)::(nat_lit 631,uh)::(nat_lit 632,e1)::(nat_lit 634,xl)::(nat_lit 635,e1)::(nat_lit 637,tM)::(nat_lit 638,rJ)::(nat_lit 639,e1)::(nat_lit 641,qP)::(nat_lit 642,e1)::(nat_lit 644,tS)::(nat_lit 645,um)::(nat_lit 646,e1)::(nat_lit 648,yJ)::(nat_lit 649,e1)::(nat_lit 651,sI)::(nat_lit 652,yh)::(nat_lit 653,e1)::(nat_lit 655,za)::(nat_lit 656,e1)::(nat_lit 658,uJ)::(nat_lit 659,si)::(nat_lit 660,e1)::(nat_lit 662,yF)::(nat_lit 663,e1)::(nat_lit 665,sN)::(nat_lit 666,wG)::(nat_lit 667,e1)::(nat_lit 669,xh)::(nat_lit 670,e1)::(nat_lit 672,uP)::(nat_lit 673,yw)::(nat_lit 674,e1)::(nat_lit 676,ug)::(nat_lit 677,e1)::(nat_lit 679,xO)::(nat_lit 680,uF)::(nat_lit 681,e1)::(nat_lit 683,qG)::(nat_lit 684,e1)::(nat_lit 686,vd)::(nat_lit 687,vD)::(nat_lit 688,r9 P)::(nat_lit 696,e1)::(nat_lit 699,jW)::(nat_lit 700,jY)::(nat_lit 701,e1)::(nat_lit 703,kA)::(nat_lit 704,e1)::(nat_lit 706,lX)::(nat_lit 707,lV)::(nat_lit 708,e1)::(nat_lit 710,l_)::(nat_lit 711,e1)::(nat_lit 713,ky)::(nat_lit 714,lL)::(nat_lit 715,e1)::(nat_lit 718,mq)::(nat_lit 719,mK)::(nat_lit 720,e1)::(nat_lit 722,kD)::(nat_lit 723,e1)::(nat_lit 725,l9)::(nat_lit 726,lO)::(nat_lit 727,e1)::(nat_lit 729,lq)::(nat_lit 730,e1)::(nat_lit 732,lI)::(nat_lit 733,kz)::(nat_lit 734,e1)::(nat_lit 736,mI)::(nat_lit 737,e1)::(nat_lit 739,lZ)::(nat_lit 740,lU)::(nat_lit 741,e1)::(nat_lit 743,mQ)::(nat_lit 744,e1)::(nat_lit 746,lE)::(nat_lit 747,kI)::(nat_lit 748,e1)::(nat_lit 750,kK)::(nat_lit 751,e1)::(nat_lit 753,kC)::(nat_lit 754,kZ)::(nat_lit 755,e1)::(nat_lit 757,mV)::(nat_lit 758,e1)::(nat_lit 760,kq)::(nat_lit 761,mf)::(nat_lit 762,e1)::(nat_lit 764,kh)::(nat_lit 765,e1)::(nat_lit 767,mE)::(nat_lit 768,k6)::(nat_lit 769,e1)::(nat_lit 771,jQ)::(nat_lit 772,e1)::(nat_lit 774,kE)::(nat_lit 775,jX)::(nat_lit 776,e1)::(nat_lit 778,mO)::(nat_lit 779,e1)::(nat_lit 781,j3)::(nat_lit 782,mT)::(nat_lit 783,e1)::(nat_lit 785,kU)::(nat_lit 786,e1)::(nat_lit 788,lS)::(nat_lit 789,kb)::(nat_lit 790,e1)::(nat_lit 792,kM)::(nat_lit 793,e1)::(nat_lit 795,kG)::(nat_lit 796,ki)::(nat_lit 797,e1)::(nat_lit 800,kJ)::(nat_lit 801,k9)::(nat_lit 802,e1)::(nat_lit 804,ly)::(nat_lit 805,e1)::(nat_lit 807,mh)::(nat_lit 808,mi)::(nat_lit 809,lF)::(nat_lit 810,k8 P)::(nat_lit 811,ko)::(nat_lit 812,mD)::(nat_lit 813,mm)::(nat_lit 816,e1)::(nat_lit 818,lh)::(nat_lit 819,e1)::(nat_lit 821,mR)::(nat_lit 822,lz)::(nat_lit 823,e1)::(nat_lit 825,lQ)::(nat_lit 826,e1)::(nat_lit 828,mz)::(nat_lit 829,kW)::(nat_lit 830,e1)::(nat_lit 832,kF)::(nat_lit 833,e1)::(nat_lit 835,lY)::(nat_lit 836,lJ)::(nat_lit 837,e1)::(nat_lit 839,lH)::(nat_lit 840,e1)::(nat_lit 842,l7)::(nat_lit 843,mH)::(nat_lit 844,e1)::(nat_lit 846,lK)::(nat_lit 847,e1)::(nat_lit 849,mU)::(nat_lit 850,jR)::(nat_lit 851,e1)::(nat_lit 853,my)::(nat_lit 854,e1)::(nat_lit 856,lg)::(nat_lit 857,jS)::(nat_lit 858,e1)::(nat_lit 860,kR)::(nat_lit 861,e1)::(nat_lit 863,mW)::(nat_lit 864,md)::(nat_lit 865,e1)::(nat_lit 867,mX)::(nat_lit 868,e1)::(nat_lit 870,jU)::(nat_lit 871,kX)::(nat_lit 872,e1)::(nat_lit 874,lP)::(nat_lit 875,e1)::(nat_lit 877,mJ)::(nat_lit 878,ka)::(nat_lit 879,e1)::(nat_lit 881,j6)::(nat_lit 882,e1)::(nat_lit 884,mY)::(nat_lit 885,mC)::(nat_lit 886,e1)::(nat_lit 888,j5)::(nat_lit 889,e1)::(nat_lit 891,kH)::(nat_lit 892,jV)::(nat_lit 893,e1)::(nat_lit 895,kj)::(nat_lit 896,e1)::(nat_lit 898,j7)::(nat_lit 899,kN)::(nat_lit 900,e1)::(nat_lit 902,lM)::(nat_lit 903,e1)::(nat_lit 905,lR)::(nat_lit 906,kB)::(nat_lit 907,e1)::(nat_lit 910,lN)::(nat_lit 911,jT)::[]
noncomputable def f_0(P:Params)(r:List (Nat×Obj)):List (Nat×Obj):=(2,boot_o_2 P)::(3,DF P)::(4,boot_o_4 P)::(15,e1)::(17,C0)::(18,e1)::(20,C_)::(21,EB)::(22,e1)::(24,D4)::(25,e1)::(27,Dk)::(28,Cq)::(29,e1)::(31,ET)::(32,e1)::(34,CK)::(35,FG)::(36,e1)::(38,DR)::(39,e1)::(41,E1)::(42,D8)::(43,e1)::r
noncomputable def f_1(P:Params)(r:List (Nat×Obj)):List (Nat×Obj):=(45,EN)::(46,e1)::(48,C3)::(49,B_)::(50,e1)::(52,Fh)::(53,e1)::(55,CA)::(56,Ez)::(57,e1)::(59,EV)::(60,e1)::(62,Dt)::(63,DE)::(64,e1)::(66,Ed)::(67,e1)::(69,FE)::(70,EA)::(71,CF)::(72,e1)::(74,Cc)::(75,e1)::(77,DK)::r
noncomputable def f_2(P:Params)(r:List (Nat×Obj)):List (Nat×Obj):=(78,Et)::(79,e1)::(81,Dn)::(82,e1)::(84,EW)::(85,EZ)::(86,e1)::(88,En)::(89,e1)::(91,CW)::(92,D_)::(93,e1)::(95,D7)::(96,e1)::(98,Ep)::(99,Ct)::(100,e1)::(102,wW)::(103,e1)::(105,w6)::(106,vt)::(107,e1)::(109,xr)::(110,e1)::r
noncomputable def f_3(P:Params)(r:List (Nat×Obj)):List (Nat×Obj):=(112,vS)::(113,yK)::(114,e1)::(116,ui)::(117,e1)::(119,yc)::(120,wX)::(121,e1)::(123,vG)::(124,e1)::(126,wM)::(127,vK)::(128,e1)::(130,yp)::(131,e1)::(133,tJ)::(134,vh)::(135,e1)::(137,vo)::(138,e1)::(140,y8)::(141,xB)::(142,tu #[.type "ValueError"])::(149,e1)::r
noncomputable def f_4(P:Params)(r:List (Nat×Obj)):List (Nat×Obj):=(150,xo P)::(151,yq)::(152,v3)::(155,tu #[.ref 151])::(162,e1)::(163,sk P)::(164,x9)::(167,tu #[.ref 151])::(174,e1)::(176,wx)::(177,e1)::(179,yd)::(180,wm)::(181,uq)::(182,rW P)::(183,wL)::(186,tu #[.ref 151])::(193,e1)::(195,qS)::(196,e1)::(198,w_)::(199,xW)::(200,uj)::(201,ub P)::r
noncomputable def f_5(P:Params)(r:List (Nat×Obj)):List (Nat×Obj):=(202,yP)::(205,tu #[.ref 151])::(212,e1)::(214,xP)::(215,e1)::(217,y9)::(218,yn)::(219,wj)::(220,sq P)::(221,yI)::(224,tu #[.ref 151])::(231,e1)::(233,tZ)::(234,e1)::(236,wR)::(237,tf)::(238,sW)::(239,vY P)::(240,u7)::(243,tu #[.ref 151])::(250,e1)::(251,wA P)::(252,vy)::(255,e1)::r
noncomputable def f_6(P:Params)(r:List (Nat×Obj)):List (Nat×Obj):=(258,uy)::(259,sC)::(260,e1)::(262,qU)::(263,e1)::(265,yS)::(266,qX)::(267,e1)::(269,xK)::(270,e1)::(272,uw)::(273,uD)::(274,e1)::(277,qK)::(278,vO)::(279,e1)::(282,vp)::(283,yN)::(284,e1)::(286,qO)::(287,e1)::(289,tW)::(290,rY)::(291,e1)::r
noncomputable def f_7(P:Params)(r:List (Nat×Obj)):List (Nat×Obj):=(293,qD)::(294,e1)::(296,wN)::(297,tT)::(298,e1)::(300,uc)::(301,e1)::(303,wD)::(304,sM)::(312,e1)::(314,tE)::(315,e1)::(317,tG)::(318,sJ)::(319,e1)::(321,yL)::(322,e1)::(324,wK)::(325,vW)::(326,e1)::(328,wu)::(329,e1)::(331,v9)::(332,yx)::r
noncomputable def f_8(P:Params)(r:List (Nat×Obj)):List (Nat×Obj):=(333,e1)::(335,yo)::(336,e1)::(338,rH)::(339,vC)::(340,e1)::(342,r_)::(343,e1)::(345,yB)::(346,uR)::(347,xH)::(348,rO P)::(349,vH)::(350,rb)::(351,xR)::(354,tu #[.ref 349])::(361,e1)::(363,yH)::(364,e1)::(366,vz)::(367,xf)::(368,e1)::(370,wZ)::(371,e1)::r
noncomputable def f_9(P:Params)(r:List (Nat×Obj)):List (Nat×Obj):=(373,yX)::(374,ua)::(375,e1)::(376,q_ P)::(377,rq)::(380,tu #[.ref 349])::(387,e1)::(389,uz)::(390,e1)::(392,rQ)::(393,tL)::(394,e1)::(396,wI)::(397,e1)::(399,sO)::(400,x8)::(401,e1)::(402,tI P)::(403,u0)::(406,tu #[.ref 349])::(413,e1)::(415,qQ)::(416,e1)::(418,vq)::r
noncomputable def ab0(P:Params)(r:List (Nat×Obj)):List (Nat×Obj):=(419,wq)::(420,e1)::(422,yk)::(423,e1)::(425,yA)::(426,rh)::(427,e1)::(428,tK P)::(429,uH)::(432,tu #[.ref 349])::(439,e1)::(441,wa)::(442,e1)::(444,xb)::(445,v8)::(446,e1)::(448,rT)::(449,e1)::(451,qY)::(452,vv)::(453,e1)::(455,sY)::(456,e1)::(458,u_)::r
noncomputable def acn(P:Params)(r:List (Nat×Obj)):List (Nat×Obj):=(459,sP)::(460,e1)::(462,y6)::(463,e1)::(465,wz)::(466,qV)::(467,e1)::(468,vE P)::(469,rE)::(472,tu #[.ref 349])::(479,e1)::(481,yZ)::(482,e1)::(484,yz)::(485,yG)::(486,e1)::(488,r6)::(489,e1)::(491,qF)::(492,rD)::(493,e1)::(495,ye)::(496,e1)::(498,vR)::r
noncomputable def aaQ(P:Params)(r:List (Nat×Obj)):List (Nat×Obj):=(499,xx)::(500,e1)::(502,yC)::(503,e1)::(505,ur)::(506,vV)::(507,e1)::(508,qI P)::(509,vP)::(512,e1)::(514,u6)::(515,e1)::(517,ve)::(518,tY)::(519,e1)::(522,se)::(523,xG)::(524,e1)::(527,sZ)::(528,tV)::(529,e1)::(532,uW)::(533,tO)::(541,e1)::r
noncomputable def abR(P:Params)(r:List (Nat×Obj)):List (Nat×Obj):=(543,rS)::(544,e1)::(546,ym)::(547,sQ)::(548,e1)::(550,uM)::(551,e1)::(553,qW)::(554,vQ)::(555,e1)::(557,vF)::(558,e1)::(560,we)::(561,sL)::(562,tF)::(563,wO P)::(564,uv)::(565,uS)::(566,qE)::(569,e1)::(571,vw)::(572,e1)::(574,yV)::(575,xM)::r
noncomputable def ab9(P:Params)(r:List (Nat×Obj)):List (Nat×Obj):=(576,e1)::(578,xX)::(579,e1)::(581,uK)::(582,rB)::(583,e1)::(585,qT)::(586,e1)::(588,rA)::(589,tq)::(597,e1)::(599,sG)::(600,e1)::(602,vN)::(603,vX)::(604,uV)::(605,rR P)::(606,yf)::(607,s_)::(608,yW)::(611,e1)::(613,tU)::(614,e1)::(616,yO)::r
noncomputable def aaZ(P:Params)(r:List (Nat×Obj)):List (Nat×Obj):=(617,xV)::(618,e1)::(620,xu)::(621,e1)::(623,rj)::(624,sX)::(625,e1)::(627,wt)::(628,e1)::(630,xq)::(631,uh)::(632,e1)::(634,xl)::(635,e1)::(637,tM)::(638,rJ)::(639,e1)::(641,qP)::(642,e1)::(644,tS)::(645,um)::(646,e1)::(648,yJ)::(649,e1)::r
noncomputable def ab1(P:Params)(r:List (Nat×Obj)):List (Nat×Obj):=(651,sI)::(652,yh)::(653,e1)::(655,za)::(656,e1)::(658,uJ)::(659,si)::(660,e1)::(662,yF)::(663,e1)::(665,sN)::(666,wG)::(667,e1)::(669,xh)::(670,e1)::(672,uP)::(673,yw)::(674,e1)::(676,ug)::(677,e1)::(679,xO)::(680,uF)::(681,e1)::(683,qG)::r
noncomputable def aaJ(P:Params)(r:List (Nat×Obj)):List (Nat×Obj):=(684,e1)::(686,vd)::(687,vD)::(688,r9 P)::(696,e1)::(699,jW)::(700,jY)::(701,e1)::(703,kA)::(704,e1)::(706,lX)::(707,lV)::(708,e1)::(710,l_)::(711,e1)::(713,ky)::(714,lL)::(715,e1)::(718,mq)::(719,mK)::(720,e1)::(722,kD)::(723,e1)::(725,l9)::r
noncomputable def aah(P:Params)(r:List (Nat×Obj)):List (Nat×Obj):=(726,lO)::(727,e1)::(729,lq)::(730,e1)::(732,lI)::(733,kz)::(734,e1)::(736,mI)::(737,e1)::(739,lZ)::(740,lU)::(741,e1)::(743,mQ)::(744,e1)::(746,lE)::(747,kI)::(748,e1)::(750,kK)::(751,e1)::(753,kC)::(754,kZ)::(755,e1)::(757,mV)::(758,e1)::r
noncomputable def aaq(P:Params)(r:List (Nat×Obj)):List (Nat×Obj):=(760,kq)::(761,mf)::(762,e1)::(764,kh)::(765,e1)::(767,mE)::(768,k6)::(769,e1)::(771,jQ)::(772,e1)::(774,kE)::(775,jX)::(776,e1)::(778,mO)::(779,e1)::(781,j3)::(782,mT)::(783,e1)::(785,kU)::(786,e1)::(788,lS)::(789,kb)::(790,e1)::(792,kM)::r
noncomputable def aaY(P:Params)(r:List (Nat×Obj)):List (Nat×Obj):=(793,e1)::(795,kG)::(796,ki)::(797,e1)::(800,kJ)::(801,k9)::(802,e1)::(804,ly)::(805,e1)::(807,mh)::(808,mi)::(809,lF)::(810,k8 P)::(811,ko)::(812,mD)::(813,mm)::(816,e1)::(818,lh)::(819,e1)::(821,mR)::(822,lz)::(823,e1)::(825,lQ)::(826,e1)::r
noncomputable def aaL(P:Params)(r:List (Nat×Obj)):List (Nat×Obj):=(828,mz)::(829,kW)::(830,e1)::(832,kF)::(833,e1)::(835,lY)::(836,lJ)::(837,e1)::(839,lH)::(840,e1)::(842,l7)::(843,mH)::(844,e1)::(846,lK)::(847,e1)::(849,mU)::(850,jR)::(851,e1)::(853,my)::(854,e1)::(856,lg)::(857,jS)::(858,e1)::(860,kR)::r
noncomputable def aap(P:Params)(r:List (Nat×Obj)):List (Nat×Obj):=(861,e1)::(863,mW)::(864,md)::(865,e1)::(867,mX)::(868,e1)::(870,jU)::(871,kX)::(872,e1)::(874,lP)::(875,e1)::(877,mJ)::(878,ka)::(879,e1)::(881,j6)::(882,e1)::(884,mY)::(885,mC)::(886,e1)::(888,j5)::(889,e1)::(891,kH)::(892,jV)::(893,e1)::r
noncomputable def abJ(P:Params)(r:List (Nat×Obj)):List (Nat×Obj):=(895,kj)::(896,e1)::(898,j7)::(899,kN)::(900,e1)::(902,lM)::(903,e1)::(905,lR)::(906,kB)::(907,e1)::(910,lN)::(911,jT)::r
noncomputable def K2(P:Params):Frag:=f_0 P (f_1 P (f_2 P (f_3 P (f_4 P (f_5 P (f_6 P (f_7 P (f_8 P (f_9 P (ab0 P (acn P (aaQ P (abR P (ab9 P (aaZ P (ab1 P (aaJ P (aah P (aaq P (aaY P (aaL P (aap P (abJ P ([]))))))))))))))))))))))))
noncomputable def as:List Addr:=nat_lit 2::nat_lit 3::nat_lit 4::nat_lit 15::nat_lit 17::nat_lit 18::nat_lit 20::nat_lit 21::nat_lit 22::nat_lit 24::nat_lit 25::nat_lit 27::nat_lit 28::nat_lit 29::nat_lit 31::nat_lit 32::nat_lit 34::nat_lit 35::nat_lit 36::nat_lit 38::nat_lit 39::nat_lit 41::nat_lit 42::nat_lit 43::nat_lit 45::nat_lit 46::nat_lit 48::nat_lit 49::nat_lit 50::nat_lit 52::nat_lit 53::nat_lit 55::nat_lit 56::nat_lit 57::nat_lit 59::nat_lit 60::nat_lit 62::nat_lit 63::nat_lit 64::nat_lit 66::nat_lit 67::nat_lit 69::nat_lit 70::nat_lit 71::nat_lit 72::nat_lit 74::nat_lit 75::nat_lit 77::nat_lit 78::nat_lit 79::nat_lit 81::nat_lit 82::nat_lit 84::nat_lit 85::nat_lit 86::nat_lit 88::nat_lit 89::nat_lit 91::nat_lit 92::nat_lit 93::nat_lit 95::nat_lit 96::nat_lit 98::nat_lit 99::nat_lit 100::nat_lit 102::nat_lit 103::nat_lit 105::nat_lit 106::nat_lit 107::nat_lit 109::nat_lit 110::nat_lit 112::nat_lit 113::nat_lit 114::nat_lit 116::nat_lit 117::nat_lit 119::nat_lit 120::nat_lit 121::nat_lit 123::nat_lit 124::nat_lit 126::nat_lit 127::nat_lit 128::nat_lit 130::nat_lit 131::nat_lit 133::nat_lit 134::nat_lit 135::nat_lit 137::nat_lit 138::nat_lit 140::nat_lit 141::nat_lit 142::nat_lit 149::nat_lit 150::nat_lit 151::nat_lit 152::nat_lit 155::nat_lit 162::nat_lit 163::nat_lit 164::nat_lit 167::nat_lit 174::nat_lit 176::nat_lit 177::nat_lit 179::nat_lit 180::nat_lit 181::nat_lit 182::nat_lit 183::nat_lit 186::nat_lit 193::nat_lit 195::nat_lit 196::nat_lit 198::nat_lit 199::nat_lit 200::nat_lit 201::nat_lit 202::nat_lit 205::nat_lit 212::nat_lit 214::nat_lit 215::nat_lit 217::nat_lit 218::nat_lit 219::nat_lit 220::nat_lit 221::nat_lit 224::nat_lit 231::nat_lit 233::nat_lit 234::nat_lit 236::nat_lit 237::nat_lit 238::nat_lit 239::nat_lit 240::nat_lit 243::nat_lit 250::nat_lit 251::nat_lit 252::nat_lit 255::nat_lit 258::nat_lit 259::nat_lit 260::nat_lit 262::nat_lit 263::nat_lit 265::nat_lit 266::nat_lit 267::nat_lit 269::nat_lit 270::nat_lit 272::nat_lit 273::nat_lit 274::nat_lit 277::nat_lit 278::nat_lit 279::nat_lit 282::nat_lit 283::nat_lit 284::nat_lit 286::nat_lit 287::nat_lit 289::nat_lit 290::nat_lit 291::nat_lit 293::nat_lit 294::nat_lit 296::nat_lit 297::nat_lit 298::nat_lit 300::nat_lit 301::nat_lit 303::nat_lit 304::nat_lit 312::nat_lit 314::nat_lit 315::nat_lit 317::nat_lit 318::nat_lit 319::nat_lit 321::nat_lit 322::nat_lit 324::nat_lit 325::nat_lit 326::nat_lit 328::nat_lit 329::nat_lit 331::nat_lit 332::nat_lit 333::nat_lit 335::nat_lit 336::nat_lit 338::nat_lit 339::nat_lit 340::nat_lit 342::nat_lit 343::nat_lit 345::nat_lit 346::nat_lit 347::nat_lit 348::nat_lit 349::nat_lit 350::nat_lit 351::nat_lit 354::nat_lit 361::nat_lit 363::nat_lit 364::nat_lit 366::nat_lit 367::nat_lit 368::nat_lit 370::nat_lit 371::nat_lit 373::nat_lit 374::nat_lit 375::nat_lit 376::nat_lit 377::nat_lit 380::nat_lit 387::nat_lit 389::nat_lit 390::nat_lit 392::nat_lit 393::nat_lit 394::nat_lit 396::nat_lit 397::nat_lit 399::nat_lit 400::nat_lit 401::nat_lit 402::nat_lit 403::nat_lit 406::nat_lit 413::nat_lit 415::nat_lit 416::nat_lit 418::nat_lit 419::nat_lit 420::nat_lit 422::nat_lit 423::nat_lit 425::nat_lit 426::nat_lit 427::nat_lit 428::nat_lit 429::nat_lit 432::nat_lit 439::nat_lit 441::nat_lit 442::nat_lit 444::nat_lit 445::nat_lit 446::nat_lit 448::nat_lit 449::nat_lit 451::nat_lit 452::nat_lit 453::nat_lit 455::nat_lit 456::nat_lit 458::nat_lit 459::nat_lit 460::nat_lit 462::nat_lit 463::nat_lit 465::nat_lit 466::nat_lit 467::nat_lit 468::nat_lit 469::nat_lit 472::nat_lit 479::nat_lit 481::nat_lit 482::nat_lit 484::nat_lit 485::nat_lit 486::nat_lit 488::nat_lit 489::nat_lit 491::nat_lit 492::nat_lit 493::nat_lit 495::nat_lit 496::nat_lit 498::nat_lit 499::nat_lit 500::nat_lit 502::nat_lit 503::nat_lit 505::nat_lit 506::nat_lit 507::nat_lit 508::nat_lit 509::nat_lit 512::nat_lit 514::nat_lit 515::nat_lit 517::nat_lit 518::nat_lit 519::nat_lit 522::nat_lit 523::nat_lit 524::nat_lit 527::nat_lit 528::nat_lit 529::nat_lit 532::nat_lit 533::nat_lit 541::nat_lit 543::nat_lit 544::nat_lit 546::nat_lit 547::nat_lit 548::nat_lit 550::nat_lit 551::nat_lit 553::nat_lit 554::nat_lit 555::nat_lit 557::nat_lit 558::nat_lit 560::nat_lit 561::nat_lit 562::nat_lit 563::nat_lit 564::nat_lit 565::nat_lit 566::nat_lit 569::nat_lit 571::nat_lit 572::nat_lit 574::nat_lit 575::nat_lit 576::nat_lit 578::nat_lit 579::nat_lit 581::nat_lit 582::nat_lit 583::nat_lit 585::nat_lit 586::nat_lit 588::nat_lit 589::nat_lit 597::nat_lit 599::nat_lit 600::nat_lit 602::nat_lit 603::nat_lit 604::nat_lit 605::nat_lit 606::nat_lit 607::nat_lit 608::nat_lit 611::nat_lit 613::nat_lit 614::nat_lit 616::nat_lit 617::nat_lit 618::nat_lit 620::nat_lit 621::nat_lit 623::nat_lit 624::nat_lit 625::nat_lit 627::nat_lit 628::nat_lit 630::nat_lit 631::nat_lit 632::nat_lit 634::nat_lit 635::nat_lit 637::nat_lit 638::nat_lit 639::nat_lit 641::nat_lit 642::nat_lit 644::nat_lit 645::nat_lit 646::nat_lit 648::nat_lit 649::nat_lit 651::nat_lit 652::nat_lit 653::nat_lit 655::nat_lit 656::nat_lit 658::nat_lit 659::nat_lit 660::nat_lit 662::nat_lit 663::nat_lit 665::nat_lit 666::nat_lit 667::nat_lit 669::nat_lit 670::nat_lit 672::nat_lit 673::nat_lit 674::nat_lit 676::nat_lit 677::nat_lit 679::nat_lit 680::nat_lit 681::nat_lit 683::nat_lit 684::nat_lit 686::nat_lit 687::nat_lit 688::nat_lit 696::nat_lit 699::nat_lit 700::nat_lit 701::nat_lit 703::nat_lit 704::nat_lit 706::nat_lit 707::nat_lit 708::nat_lit 710::nat_lit 711::nat_lit 713::nat_lit 714::nat_lit 715::nat_lit 718::nat_lit 719::nat_lit 720::nat_lit 722::nat_lit 723::nat_lit 725::nat_lit 726::nat_lit 727::nat_lit 729::nat_lit 730::nat_lit 732::nat_lit 733::nat_lit 734::nat_lit 736::nat_lit 737::nat_lit 739::nat_lit 740::nat_lit 741::nat_lit 743::nat_lit 744::nat_lit 746::nat_lit 747::nat_lit 748::nat_lit 750::nat_lit 751::nat_lit 753::nat_lit 754::nat_lit 755::nat_lit 757::nat_lit 758::nat_lit 760::nat_lit 761::nat_lit 762::nat_lit 764::nat_lit 765::nat_lit 767::nat_lit 768::nat_lit 769::nat_lit 771::nat_lit 772::nat_lit 774::nat_lit 775::nat_lit 776::nat_lit 778::nat_lit 779::nat_lit 781::nat_lit 782::nat_lit 783::nat_lit 785::nat_lit 786::nat_lit 788::nat_lit 789::nat_lit 790::nat_lit 792::nat_lit 793::nat_lit 795::nat_lit 796::nat_lit 797::nat_lit 800::nat_lit 801::nat_lit 802::nat_lit 804::nat_lit 805::nat_lit 807::nat_lit 808::nat_lit 809::nat_lit 810::nat_lit 811::nat_lit 812::nat_lit 813::nat_lit 816::nat_lit 818::nat_lit 819::nat_lit 821::nat_lit 822::nat_lit 823::nat_lit 825::nat_lit 826::nat_lit 828::nat_lit 829::nat_lit 830::nat_lit 832::nat_lit 833::nat_lit 835::nat_lit 836::nat_lit 837::nat_lit 839::nat_lit 840::nat_lit 842::nat_lit 843::nat_lit 844::nat_lit 846::nat_lit 847::nat_lit 849::nat_lit 850::nat_lit 851::nat_lit 853::nat_lit 854::nat_lit 856::nat_lit 857::nat_lit 858::nat_lit 860::nat_lit 861::nat_lit 863::nat_lit 864::nat_lit 865::nat_lit 867::nat_lit 868::nat_lit 870::nat_lit 871::nat_lit 872::nat_lit 874::nat_lit 875::nat_lit 877::nat_lit 878::nat_lit 879::nat_lit 881::nat_lit 882::nat_lit 884::nat_lit 885::nat_lit 886::nat_lit 888::nat_lit 889::nat_lit 891::nat_lit 892::nat_lit 893::nat_lit 895::nat_lit 896::nat_lit 898::nat_lit 899::nat_lit 900::nat_lit 902::nat_lit 903::nat_lit 905::nat_lit 906::nat_lit 907::nat_lit 910::nat_lit 911::[]
noncomputable def H:Hook:=kHook K as (λ_=>by kernel_rfl)
noncomputable abbrev R:WRecords:=RowW.records (OpenRow.toRowW (OpenLaw.row PySem.Challenge.rw_joinload_k61_words_run_by_names))
noncomputable abbrev Xt(s:Shared):Bool:=xlAt q [] s&&recOk R s
def Xr(w:World):Prop:=((boot_heap w.params).isNs mainGlobals&&(⟨[]⟩:Array GenState).size == 0,(boot_heap w.params).objs.size,(boot_heap w.params).nsMap mainGlobals "__annotations__")=(true,11,an)
def LA(w:World):Prop:=(λos=>staticsOk (importedModules pw.main.body) (boot_heap w.params) (Hf w.params)&&namesBound pw (Hf w.params)&&gensDone (Sf w os)&&laidKept (boot_heap w.params) (Hf w.params))=λ_=>true
def Ls1(w:World):Prop:=(λos=>seen ((recsOf q).map (·.name)) (ownsOf q) [] { Sf w os with gens:=#[] })=λ_=>expectedOf q
def Ls2(w:World):Prop:=(λos=>(Sf w os).heap.bltView)=λ_=>bltViewBooted
def Ls3(w:World):Prop:=(λos=>(Sf w os).heap.keysOk (looseW q ["RULES_MEANT"]) ((recsOf q).map (·.name)) ((litsOf q).map (·.1)) ((clssOf q (looseW q ["RULES_MEANT"])).map (·.name))&&(Sf w os).heap.accountedOkI (importedModules pw.main.body)&&(Sf w os).heap.isNs mainGlobals&&(Sf w os).heap.isNs builtinsNs&&tablesOk q (Sf w os).heap&&Xt (Sf w os)&&(if true then (Sf w os).gens.size == 0 else !leftWithCleanup (Sf w os).gens))=λ_=>true
def Ls4(w:World):Prop:=(λos=>tabsOk q (Sf w os))=λ_=>true
def Ls5(w:World):Prop:=(λos=>pinSeenD q (drecsOf q) (Sf w os))=λ_=>pinGoodD (drecsOf q)
def Ls6(w:World):Prop:=(λos=>plainSeenE q (looseW q ["RULES_MEANT"]) (Sf w os))=λ_=>plainGoodE q (looseW q ["RULES_MEANT"])
def Ls7(w:World):Prop:=(λos=>plainSeenD q ["RULES_MEANT"] (Sf w os))=λ_=>plainGoodD q ["RULES_MEANT"]
def Ls8(w:World):Prop:=(λos=>wideSeen q (Sf w os))=λ_=>wideGood q
def Ls9(w:World):Prop:=(λos=>clsSeenW q ["RULES_MEANT"] (Sf w os))=λ_=>clsGoodW q ["RULES_MEANT"]
def Yk(w:World):Prop:=(λos=>as.map (Sf w os).heap.get?)=λ_=>(K2 w.params).map λp=>some p.2
theorem ab3:K=K2:=by kernel_rfl
end Hd
namespace Hd
open PySem PySem.W PySem.Calls PyProof.Rows
theorem WW(w:World):Pre w:=by
 delta Pre
 kernel_rfl
theorem Z7(w:World):Blk w:=by
 delta Blk
 kernel_rfl
theorem aam(w:World):P0 w:=by
 delta P0
 kernel_rfl
theorem aan(w:World):P1 w:=by
 delta P1
 kernel_rfl
theorem aa7(w:World):P2 w:=by
 delta P2
 kernel_rfl
theorem aaM(w:World):P3 w:=by
 delta P3
 kernel_rfl
theorem abK(w:World):P4 w:=by
 delta P4
 kernel_rfl
theorem ab8(w:World):P5 w:=by
 delta P5
 kernel_rfl
theorem aba(w:World):P6 w:=by
 delta P6
 kernel_rfl
theorem IF(w:World):P7 (w.withFollow "special-get-raises" false):=by
 delta P7
 kernel_rfl
theorem QP(w:World):P7 (w.withFollow "special-get-raises" true):=by
 delta P7
 kernel_rfl
theorem abm(w:World):P7 w:=@byRow2 "special-get-raises" P7 IF QP w
theorem abk(w:World):P8 w:=by
 delta P8
 kernel_rfl
theorem aaH(w:World):P9 w:=by
 delta P9
 kernel_rfl
theorem Yu(w:World):Fin w:=by
 delta Fin
 kernel_rfl
theorem Vb(w:World):Xr w:=by
 delta Xr
 kernel_rfl
theorem abj(w:World):LA w:=by
 delta LA
 kernel_rfl
theorem W8(w:World):Ls1 w:=by
 delta Ls1
 kernel_rfl
theorem XZ(w:World):Ls2 w:=by
 delta Ls2
 kernel_rfl
theorem WT(w:World):Ls3 w:=by
 delta Ls3
 kernel_rfl
theorem YW(w:World):Ls4 w:=by
 delta Ls4
 kernel_rfl
theorem YA(w:World):Ls5 w:=by
 delta Ls5
 kernel_rfl
theorem Z1(w:World):Ls6 w:=by
 delta Ls6
 kernel_rfl
theorem WJ(w:World):Ls7 w:=by
 delta Ls7
 kernel_rfl
theorem Z5(w:World):Ls8 w:=by
 delta Ls8
 kernel_rfl
theorem WN(w:World):Ls9 w:=by
 delta Ls9
 kernel_rfl
theorem aa8(w:World):Yk w:=by
 delta Yk
 kernel_rfl
noncomputable def R9:List Stmt:=L9++[]
noncomputable def R8:List Stmt:=L8++R9
noncomputable def R7:List Stmt:=L7++R8
noncomputable def R6:List Stmt:=L6++R7
noncomputable def R5:List Stmt:=L5++R6
noncomputable def R4:List Stmt:=L4++R5
noncomputable def R3:List Stmt:=L3++R4
noncomputable def R2:List Stmt:=L2++R3
noncomputable def R1:List Stmt:=L1++R2
noncomputable def R0:List Stmt:=L0++R1
theorem Y8:bd=R0:=by kernel_rfl
theorem Tg(w:World)(os:OsState):topRun treeTable pw w 11 an (793+(708+(866+(742+(559+(814+(893+(187+(883+(327+2)))))))))) (S0T w os).abs (restOf R0 en cE ⟨0,0,0,0⟩ B)=some (Sf w os):=
 (piece_app (l:=L0) (segRun_of (congrFun (aam w) os)) (piece_app (l:=L1) (segRun_of (congrFun (aan w) os)) (piece_app (l:=L2) (segRun_of (congrFun (aa7 w) os)) (piece_app (l:=L3) (segRun_of (congrFun (aaM w) os)) (piece_app (l:=L4) (segRun_of (congrFun (abK w) os)) (piece_app (l:=L5) (segRun_of (congrFun (ab8 w) os)) (piece_app (l:=L6) (segRun_of (congrFun (aba w) os)) (piece_app (l:=L7) (segRun_of (congrFun (abm w) os)) (piece_app (l:=L8) (segRun_of (congrFun (abk w) os)) (piece_app (l:=L9) (segRun_of (congrFun (aaH w) os)) (congrFun (Yu w) os)))))))))))
theorem WH(w:World)(os:OsState):topRun treeTable pw w 11 an (12+(1+(793+(708+(866+(742+(559+(814+(893+(187+(883+(327+2)))))))))))) (S0 w os) (topStub pw)=some (Sf w os):=
 go_top (congrFun (WW w) os) (piece_block (congrFun (Z7 w) os) (by
  rw[show restOf bd en cE ⟨0,0,0,0⟩ B=restOf R0 en cE ⟨0,0,0,0⟩ B from congrArg (λl=>restOf l en cE ⟨0,0,0,0⟩ B) Y8]
  exact Tg w os))
theorem aaE(w:World)(os:OsState):Hook.obs H (Sf w os)=Hook.val H w:=by
 show as.map (Sf w os).heap.get?=(K w.params).map λp=>some p.2
 rw[ab3];exact congrFun (aa8 w) os
theorem UN:LeftO pw q ["RULES_MEANT"] Xt (Hook.obs H) (Hook.val H) 13650:=
 LeftO.of_pieces (H₀:=boot_heap) (H₁:=Hf) (m₀:=11) (ann:=an) (boot_open rfl rfl (λ_=>rfl)) Vb WH (by decide +kernel) λw=>funext λos=>
  looks_pair (congrFun (abj w) os) (looks_pair
   (show openSeen q ["RULES_MEANT"] (importedModules pw.main.body) Xt true (Sf w os)=openGood q ["RULES_MEANT"] from
    looks_pair (congrFun (W8 w) os) (looks_pair (congrFun (XZ w) os) (looks_pair (congrFun (WT w) os) (looks_pair (congrFun (YW w) os) (looks_pair (congrFun (YA w) os) (looks_pair (congrFun (Z1 w) os) (looks_pair (congrFun (WJ w) os) (looks_pair (congrFun (Z5 w) os) (congrFun (WN w) os)))))))))
   (aaE w os))
end Hd
open PySem PySem.W PyProof.Rows
set_option maxRecDepth 100000 in
set_option maxHeartbeats 0 in
theorem PySem.Challenge.cw_joinload_k61_words_run_by_names_holds : PySem.Challenge.rw_joinload_k61_words_run_by_names.Holds := by
 w_on;refine holds_law wSa λsaid=>?_
 refine holds_open (q:=Hd.q) (loose:=["RULES_MEANT"]) (Xt:=Hd.Xt) (XP:=XL Hd.q []) (Yf:=Hook.obs Hd.H) (Ya:=Hook.val Hd.H) (YP:=InK Hd.K) Hd.UN (Hook.of Hd.H) (Hook.keeps Hd.H) (λs e=>xl_of s (Bool.and_eq_true_iff.mp e).1) XL.keeps (by rfl) (by rfl) (by rfl) (λs e=>recFacts_of (Bool.and_eq_true_iff.mp e).2) (by rfl) (by first|assumption|decide +kernel) (by decide +kernel) ⟨rfl,rfl,rfl,rfl,rfl,by decide +kernel⟩ ?hw ?hc
 (case hw=>w_witness2)
 k_fill
 refine My.walk (l:=PySem.Challenge.rw_joinload_k61_words_run_by_names) (K:=Hd.K) (bh:=268) (aM:=530) rfl rfl (by decide) (λw h Y=>Y) ?hT ?F
 case hT=>
  intro w h lo mean mg mb KX TP T hT
  simp only[List.mem_cons,List.not_mem_nil,or_false]at hT
  rcases hT with rfl|rfl
  ·refine' L2.OF (x := "names_of") (y := "names_of") (st:=My.Cv) (T:=268) KX TP (by kernel_rfl) _ _ _
   all_goals first|exact⟨_,_,_,_,_,_,_,_,_,by k_is,by k_is,by k_is,by kernel_rfl⟩|k_is|kernel_rfl|skip
  ·refine' L2.OF (x := "taken") (y := "taken") (st:=My.j8) (T:=530) KX TP (by kernel_rfl) _ _ _
   all_goals first|exact⟨_,_,_,_,_,_,_,_,_,by k_is,by k_is,by k_is,by kernel_rfl⟩|k_is|kernel_rfl|skip
 case F=>
  intro w mg fa h KX G hmg
  refine' My.all_mk (bh:=268) (aM:=530) KX G hmg _ _ _ _ _ _ _ _ _ _ _ _ _ _ _ _ _ _ _ _ _ _ _ _ _ _ _ _ _ _ _ _ _ _ _ _ _ _ _ _ _ _ _ _ _ _ _ _ _ _ _ _ _ _ _ _ _ _ _ _ _ _ _ _ _ _ _ _ _ _ _ _ _ _ _ _ _ _ _ _ _ _ _ _ _ _ _ _ _ _ _ _ _ _ _ _ _ _ _ _ _ _ _ _ _ _ _ _ _ _ _ _ _ _ _ _ _ _ _ _ _ _ _ _ _ _ _ _ _ _ _ _ _ _ _ _ _ _ _ _ _ _ _ _ _ _ _ _ _ _ _ _ _ _ _ _ _ _ _ _ _ _ _ _ _ _ _ _ _ _ _ _ _ _ _ _ _ _ _ _ _ _ _ _ _ _ _ _ _ _ _ _ _ _ _ _ _ _ _ _ _ _ _ _ _ _ _ _ _ _ _ _ _ _ _ _ _ _ _ _ _ _ _ _ _ _ _ _ _ _ _ _ _ _ _ _ _ _ _ _ _ _ _ _ _ _ _ _ _ _ _ _ _ _
  all_goals first|exact⟨_,_,_,_,_,_,_,_,_,by k_is,by k_is,by k_is⟩|exact⟨_,_,_,_,_,_,_,_,_,by k_is,by k_is,by k_is,by kernel_rfl⟩|exact⟨_,by decide,by decide,by k_is⟩|k_is|k_exc|kit_is|skip
#print axioms PySem.Challenge.cw_joinload_k61_words_run_by_names_holds
