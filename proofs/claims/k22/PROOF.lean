import PyProof.Rows.All
import Wide.All
import OpenK.AllK
import Wide.FinOn
import Lean
import PyProof.EqAt
import PyProof.EqKinds
import PyProof.TupleCall
import PyProof.StationsW
import PyProof.ExcAttrAll.ValueError
import KE.KIsAll
import PyProof.RulesAs
import PyProof.NsDelKeeps
import PyProof.FString
import PyProof.FString4
import PyProof.Rows.FStr
import PyProof.Rows.FStrParts
import PyProof.StrCalls2
import PyProof.StrLawsRepr
import PyProof.StrLawsJoin
import PyProof.StrLaws
import PyProof.Rows.ReprOcc
import PyProof.ExcInit
import PyProof.InstStoreFacts
import KE.KDictOf
import PyProof.AttrMissHeap
import PyProof.AttrMissSeq
import PyProof.WalksS
import PyProof.Walks
import PyProof.Seq
import PyProof.DictList
import PyProof.DictUpdate
import PyProof.MakeMany
import PyProof.Rows.SetFrom
import PyProof.ZipIter
import PyProof.Rows.TupDisplay
import PyProof.EnumFor
import PyProof.EnumMake
import PyProof.EnumStmt
import PyProof.SeqI3
import PyProof.Rows.SumAny
import KE.KDictIter
import PyProof.DictWalks
import PyProof.StrLawsChain
import PyProof.StrLawsTight
import KE.KIntText
import PyProof.CallType
import PyProof.Rows.CallKwBuiltin
import PyProof.Draws
import PyProof.DefCall
import PyProof.SetKind
import PyProof.DictKinds
import PyProof.CollectWalk
import PyProof.FactsAll.set
import PyProof.DictIter
import PyProof.FactsTree
import PyProof.CollectStr
import KE.KDictLaws
import PyProof.Rows.SortShellK
import PyProof.Rows.SortWalk
import PyProof.Rows.StrNews2
import KE.KRevIter
import PyProof.ListNew
import PyProof.ListRange
import PyProof.WalkInts
import KE.KLam
import KE.KSortKey
import PyProof.AutoSeq1
import PyProof.ListIndex
import PySem.Challenge.RW_joinload_k22_not_taken
set_option genInjectivity false
set_option compiler.extract_closed false
set_option Elab.async false
set_option linter.all false
set_option maxRecDepth 100000
set_option genSizeOfSpec false
abbrev Wf:=PySem.W.Frag
abbrev Vs:=PySem.Value->PySem.Shared->Prop
abbrev Lo:=List (PySem.Addr×PySem.Obj)
abbrev So:=PySem.Str->Option PySem.Value
open PySem.W (instObj methodObj lookIn plainGet hasDictIn findIn handedIn plainGet_of isFn plainOver takerIn makesIn emptyDict keepIn specialIn takesIn mroIn kitOne kia_one kitx_list kitx_dict callWith_K methodCall_KW cellsFrom_some fnOf codeIn excIn isNs_of_in tail_of_in instIn clsIn looks_mroIn notCls tabObj codeHdIn kla_obj codeHd_of_K kla_fn nsIn mg_of readsIn findCls mg_none_of)
abbrev yaa := @List.length_map
abbrev yab := @PySem.wpAny_bind
abbrev yac := @List.map_append
abbrev yad := @PySem.Heap.get?_push_of_some
abbrev yae := @List.mem_singleton
abbrev yaf := @PySem.wpAny_pure
abbrev yag := @List.mem_map
abbrev yah := @List.length_append
abbrev yai := @List.mem_append
abbrev yaj := @List.mem_append_right
abbrev yak := @List.mem_append_left
abbrev yal := @PySem.Heap.lt_size
abbrev yam := @List.getElem?_eq_some_iff
abbrev yan := @List.mem_of_getElem?
abbrev yao := @Option.map_eq_some_iff
abbrev yap := @Nat.le_refl
abbrev yaq := @PySem.Heap.get?_push_size
abbrev yar := @List.getElem?_eq_getElem
abbrev yas := @List.size_toArray
abbrev yat := @Nat.lt_of_lt_of_le
abbrev yau := @List.mem_cons
abbrev yav := @List.mem_flatMap
abbrev yaw := @List.mem_cons_of_mem
abbrev yax := @Nat.ne_of_lt
abbrev yay := @Nat.le_trans
abbrev yaz := @Bool.false_ne_true
abbrev ya0 := @List.take_length
abbrev ya1 := @Nat.zero_le
abbrev ya2 := @Bool.and_eq_true
abbrev ya3 := @List.nodup_append
abbrev ya4 := @List.take_succ
abbrev ya5 := @List.mem_cons_self
abbrev ya6 := @List.map_map
abbrev ya7 := @List.length_cons
abbrev ya8 := @List.nodup_cons
abbrev ya9 := @List.getElem?_append_left
abbrev yba := @List.getD_eq_getElem?_getD
abbrev ybb := @Nat.lt_irrefl
abbrev ybc := @List.append_nil
abbrev ybd := @List.getElem?_map
abbrev ybe := @List.length_take
abbrev ybf := @PySem.Heap.get?_update_self
abbrev ybg := @List.map_cons
abbrev ybh := @List.flatMap_append
abbrev ybi := @PySem.Heap.get?_update_other
abbrev ybj := @List.getElem?_append_right
abbrev ybk := @PySem.wpAny_mono
abbrev ybl := @Array.length_toList
abbrev ybm := @List.any_eq_true
abbrev ybn := @PySem.wpAny_newObj_type
abbrev ybo := @PySem.wpAny_holding
abbrev ybp := @List.append_assoc
abbrev ybq := @List.map_congr_left
abbrev ybr := @List.getElem_mem
abbrev ybs := @List.mem_of_find?_eq_some
abbrev ybt := @Nat.lt_succ_self
abbrev ybu := @List.length_filter_le
abbrev ybv := @List.filter_append
abbrev ybw := @PySem.wpAny_askSetting
abbrev ybx := @Array.getElem?_eq_some_iff
abbrev yby := @PySem.wpAny_setState_of
abbrev ybz := @PySem.Heap.get?_update_ne
abbrev yb0 := @List.pairwise_iff_getElem
abbrev yb1 := @List.mem_filter
abbrev yb2 := @List.length_singleton
abbrev yb3 := @List.getElem?_of_mem
abbrev yb4 := @Int.eq_ofNat_of_zero_le
abbrev yb5 := @PySem.Heap.size_push
abbrev yb6 := @Nat.lt_succ_of_lt
abbrev yb7 := @Nat.le_succ
abbrev yb8 := @PySem.wpAny_call_entry
abbrev yb9 := @Array.getElem?_eq_getElem
abbrev yca := @Option.isSome_map
abbrev ycb := @Bool.eq_iff_iff
abbrev ycc := @PySem.wpAny_callSpecial?_slot
abbrev ycd := @List.take_append_of_le_length
abbrev yce := @PySem.wpAny_setField
abbrev ycf := @List.mem_range
abbrev ycg := @PySem.wpAny_Call_Name_kw
abbrev ych := @PySem.wpAny_passesOwn
abbrev yci := @Nat.le_of_lt
abbrev ycj := @List.take_append_drop
abbrev yck := @PySem.wpAny_truthy_bool
abbrev ycl := @PySem.wpAny_attempt
abbrev ycm := @Nat.le_succ_of_le
abbrev ycn := @List.length_range
abbrev yco := @Int.toNat_natCast
abbrev ycp := @List.lookup_cons
abbrev ycq := @List.length_drop
abbrev ycr := @PySem.wpAny_setEntries_of
abbrev ycs := @PySem.wpAny_field
abbrev yct := @List.length_pos_iff
abbrev ycu := @List.getElem_of_mem
abbrev ycv := @PySem.wpAny_call
abbrev ycw := @List.any_map
abbrev ycx := @PySem.wpAny_execs_nil
abbrev ycy := @List.sum_append
abbrev ycz := @PySem.wpAny_loadPart_at
abbrev yc0 := @List.flatMap_cons
abbrev yc1 := @List.getElem?_toArray
abbrev yc2 := @Array.getElem?_toList
abbrev yc3 := @List.cons_append
abbrev yc4 := @List.mem_of_mem_take
abbrev yc5 := @PySem.wpAny_rule
namespace L2
open PySem PySem.Spec PyProof.Rows
noncomputable abbrev Key:=Sum Int Str
noncomputable def keyIs:Key->Value->Bool
 |.inl k,v=>Value.isInt k v
 |.inr x,v=>Value.isStrOf x v
noncomputable def keyH(w:World):Key->Int
 |.inl k=>hashInt k
 |.inr x=>hashStr w x
theorem zz25:∀{k:Key}{v:Value},keyIs k v=true->(∃i t,k=Sum.inl i/\v=Value.int i t)\/(∃x t,k=Sum.inr x/\v=Value.str x t)
 |.inl i,v,h=>by
  obtain⟨t,e⟩:=Value.isInt_shape (k:=i) (v:=v) h
  exact .inl ⟨i,t,rfl,e⟩
 |.inr x,v,h=>by
  obtain⟨t,e⟩:=Value.isStrOf_shape (x:=x) (v:=v) h
  exact .inr ⟨x,t,rfl,e⟩
theorem keyIs_int(i:Int)(t:Tok):keyIs (.inl i) (.int i t)=true:=by simp[keyIs,Value.isInt]
theorem keyIs_str(x:Str)(t:Tok):keyIs (.inr x) (.str x t)=true:=by simp[keyIs,Value.isStrOf]
theorem key_ll(a b:Int):decide ((Sum.inl a:Key)=Sum.inl b)=(a == b):=by
 by_cases e:a=b
 ·subst e;simp
 ·have h:¬(Sum.inl a:Key)=Sum.inl b:=λq=>e (Sum.inl.inj q)
  rw[decide_eq_false h]
  exact(beq_eq_false_iff_ne.mpr e).symm
theorem key_rr(a b:Str):decide ((Sum.inr a:Key)=Sum.inr b)=decide (a=b):=by
 by_cases e:a=b
 ·subst e;simp
 ·have h:¬(Sum.inr a:Key)=Sum.inr b:=λq=>e (Sum.inr.inj q)
  rw[decide_eq_false h,decide_eq_false e]
theorem key_lr(a:Int)(b:Str):decide ((Sum.inl a:Key)=Sum.inr b)=false:=decide_eq_false (λq=>nomatch q)
theorem key_rl(a:Str)(b:Int):decide ((Sum.inr a:Key)=Sum.inl b)=false:=decide_eq_false (λq=>nomatch q)
noncomputable def mixKind(prog:Program)(w:World):PySem.KeyKind prog w Key where
 is:=keyIs
 hash:=keyH w
 inj:=λv a b ha hb=>by
  rcases zz25 ha with ⟨i,t,rfl,rfl⟩|⟨x,t,rfl,rfl⟩
  ·rcases zz25 hb with ⟨j,u,rfl,e⟩|⟨y,u,rfl,e⟩
   ·injection e with e1 _;rw[e1]
   ·exact nomatch e
  ·rcases zz25 hb with ⟨j,u,rfl,e⟩|⟨y,u,rfl,e⟩
   ·exact nomatch e
   ·injection e with e1 _;rw[e1]
 byValue:=λk v h=>by
  rcases zz25 h with ⟨i,t,rfl,rfl⟩|⟨x,t,rfl,rfl⟩<;>rfl
 pyHash:=λhv h=>by
  rcases zz25 hv with ⟨i,t,rfl,rfl⟩|⟨x,t,rfl,rfl⟩
  ·exact wpAny_pyHash_int h
  ·exact wpAny_pyHash_str h
 eqBool:=λhu hv h=>by
  rcases zz25 hu with ⟨i,t,rfl,rfl⟩|⟨x,t,rfl,rfl⟩
  ·rcases zz25 hv with ⟨j,u,rfl,rfl⟩|⟨y,u,rfl,rfl⟩
   ·rw[key_ll]at h;exact wpAny_eqBool_int h
   ·rw[key_lr]at h;exact SeqAt.EqAt.int_str i t y u _ _ _ _ h
  ·rcases zz25 hv with ⟨j,u,rfl,rfl⟩|⟨y,u,rfl,rfl⟩
   ·rw[key_rl]at h;exact SeqAt.EqAt.str_int x t j u _ _ _ _ h
   ·rw[key_rr]at h;exact wpAny_eqBool_str h
 «strs»:=λk x t v h=>by
  rcases zz25 h with ⟨i,u,rfl,e⟩|⟨y,u,rfl,e⟩
  ·exact nomatch e
  ·injection e with e1 _
   subst e1
   cases v<;>rfl
theorem mixKind_int(prog:Program)(w:World)(i:Int)(t:Tok):(mixKind prog w).is (.inl i) (.int i t)=true:=keyIs_int i t
theorem mixKind_str(prog:Program)(w:World)(x:Str)(t:Tok):(mixKind prog w).is (.inr x) (.str x t)=true:=keyIs_str x t
set_option genInjectivity true in
inductive V where
 |non|bl (b:Bool)|int (i:Int)|str (x:Str)|byt (b:Array UInt8)|flt (b:UInt64)|ref (a:Addr)|ty (n:String)
 deriving DecidableEq
noncomputable def RelV:V->Value->Prop
 |.non,u=>u=Value.none
 |.bl b,u=>u=Value.bool b
 |.int i,u=>∃t,u=Value.int i t
 |.str x,u=>∃t,u=Value.str x t
 |.byt b,u=>∃t,u=Value.bytes b t
 |.flt b,u=>∃t,u=Value.float b t
 |.ref a,u=>u=Value.ref a
 |.ty n,u=>u=Value.type n
noncomputable abbrev Vals:List V->List Value->Prop:=Paired RelV
theorem Vals.length(r:Vals xs us):xs.length=us.length:=Paired.length r
theorem Vals.get:∀{xs:List V}{us:List Value}{i:Nat}{x:V},Vals xs us->xs[i]?=some x->∃u,us[i]?=some u/\RelV x u
 |_,_,_,_,.nil,e=>by simp at e
 |_,_,0,_,.cons r _,e=>by simp at e;subst e;exact⟨_,rfl,r⟩
 |_,_,i+1,x,.cons _ t,e=>by
  obtain⟨u,h1,h2⟩:=Vals.get (i:=i) (x:=x) t (by simpa using e)
  exact⟨u,by simpa using h1,h2⟩
theorem Vals.append:∀{xs ys:List V}{us ws:List Value},Vals xs us->Vals ys ws->Vals (xs++ys) (us++ws)
 |_,_,_,_,.nil,s=>s
 |_,_,_,_,.cons r t,s=>.cons r (Vals.append t s)
theorem Vals.take:∀{xs:List V}{us:List Value}(n:Nat),Vals xs us->Vals (xs.take n) (us.take n)
 |_,_,0,_=>.nil
 |_,_,_+1,.nil=>.nil
 |_,_,n+1,.cons r t=>.cons r (Vals.take n t)
theorem Vals.drop:∀{xs:List V}{us:List Value}(n:Nat),Vals xs us->Vals (xs.drop n) (us.drop n)
 |_,_,0,r=>r
 |_,_,_+1,.nil=>.nil
 |_,_,n+1,.cons _ t=>Vals.drop n t
noncomputable def RelO:Option V->Option Value->Prop
 |some v,some u=>RelV v u
 |none,none=>True
 |_,_=>False
noncomputable def KV{κ:Type}:List (κ×V)->List (κ×Value)->Prop:=Paired λ(p:κ×V) (q:κ×Value)=>p.1=q.1/\RelV p.2 q.2
noncomputable def kV:Key->V
 |.inl i=>.int i
 |.inr x=>.str x
set_option genInjectivity true in
inductive HO where
  |lst (xs:List V)
  |tup (xs:List V)
  |dK (kvs:List (Key×V))|dT (kvs:List (List Key×V))
  |set (S:Int->Bool) (n:Nat)
  |ins (C dx:Addr) (fs:List (Str×V))
  |own (x:Addr)
  |xd (fs:List (Str×V))
  |met (f x:Addr)
  |rng (lo hi:Int)
  |frz (o:Obj) (u:HO)
  |tbl (ps:Array Value)
  |ext (φ:Heap->Prop)
noncomputable abbrev Hp:=Addr->Option HO
noncomputable def upd(H:Hp)(a:Addr)(o:HO):Hp:=λb=>if b=a then some o else H b
theorem zz1:upd H a o a=some o:=by unfold upd;rw[if_pos rfl]
theorem upd_ne(h:b≠a):upd H a o b=H b:=by unfold upd;rw[if_neg h]
theorem upd_upd:upd (upd H a o) a u=upd H a u:=by
 funext b;unfold upd;split<;>rfl
theorem ne_of{H:Hp}{a b:Addr}{o u:HO}(h:H a=some o)(h':H b=some u)(d:o≠u):a≠b:=by
 intro e;subst e;rw[h]at h';exact d (Option.some.inj h')
theorem zz4{H:Hp}{a b:Addr}{o:HO}(h:H a=some o)(h':H b=none):a≠b:=by
 intro e;subst e;rw[h]at h';cases h'
section
variable(P:Program)(w:World)
noncomputable def ObjOk(H:Hp)(h:Heap)(a:Addr):HO->Prop
 |.lst xs=>xs.length<=sizeLine/\∃(its:List Value) (n:Nat),Vals xs its/\h.get? a=some { cls:=.type "list", data:=.seq its.toArray n }
 |.tup xs=>xs.length<=sizeLine/\∃its:List Value,Vals xs its/\IsTup h a its.toArray
 |.dK kvs=>kvs.length<=sizeLine/\(a == sysModules)=false/\∃vs,KV kvs vs/\h.DictOf (mixKind P w) a vs
 |.dT kvs=>kvs.length<=sizeLine/\(a == sysModules)=false/\∃xs:List (List Key×Addr×Value),
   Paired (λ(p:List Key×V) (q:List Key×Addr×Value)=>p.1=q.1/\H q.2.1=some (.tup (p.1.map kV))/\RelV p.2 q.2.2) kvs xs/\
   ∃o es ep,h.get? a=some o/\o.ExactDict/\o.data=.dict es ep/\es.toList=xs.map (entryOfKey (tupleKind (mixKind P w)))/\(xs.map (·.1)).Nodup
 |.set S n=>h.SetOf (intKind P w) a S n
 |.ins C dx fs=>H dx=some (.own a)/\fs.length<=1000/\dx≠a/\h.get? a=some (instObj C dx)/\
   ∃mA,h.Ns1 dx mA/\(∀f,RelO (fs.lookup f) (mA f))/\PySem.Within mA (fs.map (·.1))
 |.own _=>∃o,h.get? a=some o
 |.xd fs=>∃mA,h.Ns1 a mA/\∀f,RelO (fs.lookup f) (mA f)
 |.rng lo hi=>∃t u v,h.get? a=some { cls:=.type "range", data:=.fields #[.int lo t,.int hi u,.int 1 v] }
 |.frz o u=>h.get? a=some o/\ObjOk H h a u
 |.tbl ps=>h.get? a=some { cls:=.none,data:=.fields ps }
 |.met f x=>h.get? a=some (methodObj (.ref f) (.ref x))
 |.ext φ=>φ h/\(∃o,h.get? a=some o)/\∀h1 h2:Heap,φ h1->(∀o,h1.get? a=some o->h2.get? a=some o)->φ h2
def HOk(H:Hp)(h:Heap):Prop:=∀a o,H a=some o->ObjOk P w H h a o
end
section
variable{P:Program}{w:World}{H H':Hp}{h h':Heap}{a:Addr}{o:HO}
theorem ObjOk.lt(x:ObjOk P w H h a o):a<h.objs.size:=by
 cases o with
 |lst xs=>obtain⟨_,_,_,_,e⟩:=x;exact yal e
 |tup xs=>obtain⟨_,_,_,p⟩:=x;exact p.lt
 |dK kvs=>obtain⟨_,_,_,_,o,_,_,e,_⟩:=x;exact yal e
 |dT kvs=>obtain⟨_,_,_,_,o,_,_,e,_⟩:=x;exact yal e
 |set S n=>obtain⟨o,_,_,_,e,_⟩:=x;exact yal e
 |ins C dx fs=>obtain⟨_,_,_,e,_⟩:=x;exact yal e
 |own y=>obtain⟨_,e⟩:=x;exact yal e
 |xd fs=>obtain⟨_,⟨_,_,_,e,_⟩,_⟩:=x;exact yal e
 |rng lo hi=>obtain⟨_,_,_,e⟩:=x;exact yal e
 |frz ob u=>obtain⟨e,_⟩:=x;exact yal e
 |tbl ps=>exact yal (show h.get? a=some _ from x)
 |met f y=>exact yal (show h.get? a=some _ from x)
 |ext φ=>obtain⟨_,⟨_,e⟩,_⟩:=x;exact yal e
theorem Paired.mapP{α β:Type}{F G:α->β->Prop}:∀{l₁:List α}{l₂:List β},Paired F l₁ l₂->(∀a b,F a b->G a b)->Paired G l₁ l₂
 |_,_,.nil,_=>.nil
 |_,_,.cons r t,f=>.cons (f _ _ r) (Paired.mapP t f)
theorem ObjOk.stay(x:ObjOk P w H h a o)(k:∀b u,(b=a\/H b=some (.own a))->h.get? b=some u->h'.get? b=some u)
  (ho:∀b,H b=some (.own a)->H' b=some (.own a)) (ht:∀b xs,H b=some (.tup xs)->H' b=some (.tup xs)):ObjOk P w H' h' a o:=by
 induction o with
 |lst xs=>obtain⟨z,its,n,r,e⟩:=x;exact⟨z,its,n,r,k _ _ (.inl rfl) e⟩
 |tup xs=>obtain⟨z,its,r,ob,e,c⟩:=x;exact⟨z,its,r,ob,k _ _ (.inl rfl) e,c⟩
 |dK kvs=>obtain⟨z,y,vs,r,ob,es,ep,e,c⟩:=x;exact⟨z,y,vs,r,ob,es,ep,k _ _ (.inl rfl) e,c⟩
 |dT kvs=>
  obtain⟨z,y,xs,r,ob,es,ep,e,c⟩:=x
  exact⟨z,y,xs,Paired.mapP r λp q z=>⟨z.1,ht _ _ z.2.1,z.2.2⟩,ob,es,ep,k _ _ (.inl rfl) e,c⟩
 |set S n=>obtain⟨ob,es,ep,t,e,c⟩:=x;exact⟨ob,es,ep,t,k _ _ (.inl rfl) e,c⟩
 |ins C dx fs=>
  obtain⟨d,z,ne,e,mA,⟨od,es,ep,e2,c⟩,r⟩:=x
  exact⟨ho _ d,z,ne,k _ _ (.inl rfl) e,mA,⟨od,es,ep,k _ _ (.inr d) e2,c⟩,r⟩
 |own y=>obtain⟨ob,e⟩:=x;exact⟨ob,k _ _ (.inl rfl) e⟩
 |xd fs=>obtain⟨mA,⟨od,es,ep,e,c⟩,r⟩:=x;exact⟨mA,⟨od,es,ep,k _ _ (.inl rfl) e,c⟩,r⟩
 |rng lo hi=>obtain⟨t,u,v,e⟩:=x;exact⟨t,u,v,k _ _ (.inl rfl) e⟩
 |frz ob u ih=>obtain⟨e,q⟩:=x;exact⟨k _ _ (.inl rfl) e,ih q⟩
 |tbl ps=>
  have e:h.get? a=some { cls:=.none,data:=.fields ps }:=x
  show h'.get? a=some { cls:=.none,data:=.fields ps }
  exact k a _ (.inl rfl) e
 |met f y=>
  have e:h.get? a=some (methodObj (.ref f) (.ref y)):=x
  show h'.get? a=some (methodObj (.ref f) (.ref y))
  exact k a _ (.inl rfl) e
 |ext φ=>obtain⟨p,⟨o,e⟩,st⟩:=x;exact⟨st _ _ p λo q=>k _ _ (.inl rfl) q,⟨o,k _ _ (.inl rfl) e⟩,st⟩
theorem HOk.lt(x:HOk P w H h)(e:H a=some o):a<h.objs.size:=(x a o e).lt
theorem HOk.fresh(x:HOk P w H h)(e:h.objs.size<=a):H a=none:=by
 cases q:H a with
 |none=>rfl
 |some u=>exact absurd (yat (x.lt q) e) (ybb _)
theorem HOk.kept(x:HOk P w H h)(k:∀b u,h.get? b=some u->h'.get? b=some u):HOk P w H h':=λa o e=>
 (x a o e).stay (λb u _ q=>k b u q) (λ_ q=>q) λ_ _ q=>q
theorem HOk.laid(x:HOk P w H h)(k:∀b u,h.get? b=some u->h'.get? b=some u)(hp:h.objs.size<=a)(new:ObjOk P w (upd H a o) h' a o):HOk P w (upd H a o) h':=λb u e=>by
 have hn:=x.fresh hp
 by_cases hb:b=a
 ·subst hb;rw[zz1]at e;cases e;exact new
 ·rw[upd_ne hb]at e
  exact(x b u e).stay (λc v _ q=>k c v q) (λc q=>by rw[upd_ne (zz4 q hn)];exact q) λc xs q=>by rw[upd_ne (zz4 q hn)];exact q
end
def Rd(H:Hp)(a:Addr)(u:HO):Prop:=H a=some u\/∃o,H a=some (.frz o u)
theorem Rd.ok(r:Rd H a u)(x:HOk P w H h):ObjOk P w H h a u:=by
 rcases r with r|⟨o,r⟩
 ·exact x a u r
 ·obtain⟨_,q⟩:=x a _ r
  exact q
noncomputable def Mut:Option HO->Prop
 |some (.lst _)=>True
 |some (.dK _)=>True
 |some (.dT _)=>True
 |some (.set _ _)=>True
 |some (.ins _ _ _)=>True
 |some (.ext _)=>True
 |_=>False
section
variable{P:Program}{w:World}{H:Hp}{h h':Heap}{x e:Addr}{o':HO}
theorem HOk.write(ok:HOk P w H h)(mu:Mut (H x))(he:e=x\/H e=some (.own x))(k:∀b u,b≠e->h.get? b=some u->h'.get? b=some u)(heo:∃u,h'.get? e=some u)
  (new:ObjOk P w (upd H x o') h' x o'):HOk P w (upd H x o') h':=λb u q=>by
 have nown:∀c y,H c=some (.own y)->c≠x:=λc y r z=>by subst z;rw[r]at mu;exact mu
 have ntup:∀c xs,H c=some (.tup xs)->c≠x:=λc xs r z=>by subst z;rw[r]at mu;exact mu
 by_cases hb:b=x
 ·subst hb;rw[zz1]at q;cases q;exact new
 ·rw[upd_ne hb]at q
  by_cases hbe:b=e
  ·have q':H b=some (.own x):=by
    rcases he with z|z
    ·exact absurd (hbe.trans z) hb
    ·rw[hbe];exact z
   rw[q]at q';cases q'
   obtain⟨v,hv⟩:=heo
   exact⟨v,by rw[hbe];exact hv⟩
  ·refine(ok b u q).stay (λc v hc r=>k c v ?_ r) (λc r=>by rw[upd_ne (nown c b r)];exact r) λc xs r=>by rw[upd_ne (ntup c xs r)];exact r
   rcases hc with rfl|hc
   ·exact hbe
   ·rintro rfl
    rcases he with z|z
    ·exact nown c b hc z
    ·rw[hc]at z;cases z;exact hb rfl
end
structure Un(fs ex:List Addr)(H H':Hp)(h h':Heap):Prop where
 keep:∀b o,h.get? b=some o->H b=none->b∉fs->b∉ex->h'.get? b=some o
 slot:∀b o,h.get? b=some o->H b=none->b∈fs->b∉ex->∃sl,h'.get? b=some { o with slots:=sl }
 free:∀b o,h.get? b=some o->H b=none->b∉ex->H' b=none
 there:∀b o,h.get? b=some o->b∉ex->∃o',h'.get? b=some o'
 tups:∀b xs,H b=some (.tup xs)->H' b=some (.tup xs)
 frzs:∀b o u,H b=some (.frz o u)->H' b=some (.frz o u)
 tbls:∀b ps,H b=some (.tbl ps)->∃more,H' b=some (.tbl (ps++more))
section
variable{fs fs' ex ex':List Addr}{H H1 H2:Hp}{h h1 h2 h':Heap}{a x e:Addr}{o:HO}
theorem Un.any(u:Un fs ex H H1 h h1){b:Addr}{ob:Obj}(q:h.get? b=some ob)(n:H b=none)(hx:b∉ex):∃sl,h1.get? b=some { ob with slots:=sl }:=by
 by_cases hb:b∈fs
 ·exact u.slot b ob q n hb hx
 ·exact⟨ob.slots,u.keep b ob q n hb hx⟩
theorem Un.kept(k:∀b u,h.get? b=some u->h'.get? b=some u):Un fs ex H H h h':=
 ⟨λb ob q _ _ _=>k b ob q,λb ob q _ _ _=>⟨ob.slots,k b ob q⟩,λ_ _ _ n _=>n,λb ob q _=>⟨ob,k b ob q⟩,λ_ _ q=>q,λ_ _ _ q=>q,λ_ ps q=>⟨#[],by rw[q];simp⟩⟩
theorem Un.refl:Un fs ex H H h h:=Un.kept λ_ _ q=>q
theorem Un.laid(k:∀b u,h.get? b=some u->h'.get? b=some u)(hp:h.objs.size<=a)(hn:H a=none):Un fs ex H (upd H a o) h h' where
 keep:=λb u q _ _ _=>k b u q
 slot:=λb u q _ _ _=>⟨u.slots,k b u q⟩
 free:=λb u q n _=>by rw[upd_ne (yax (yat (yal q) hp))];exact n
 there:=λb u q _=>⟨u,k b u q⟩
 tups:=λb xs q=>by rw[upd_ne (zz4 q hn)];exact q
 frzs:=λb u xs q=>by rw[upd_ne (zz4 q hn)];exact q
 tbls:=λb ps q=>⟨#[],by rw[upd_ne (zz4 q hn),q];simp⟩
theorem Un.write(mu:Mut (H x))(he:e=x\/H e=some (.own x))(k:∀b u,b≠e->h.get? b=some u->h'.get? b=some u)(heo:∃u,h'.get? e=some u):Un fs ex H (upd H x o) h h':=by
 have hx:∀b,H b=none->b≠x:=λb n z=>by subst z;rw[n]at mu;exact mu
 have hb:∀b,H b=none->b≠e:=λb n z=>by
  subst z
  rcases he with r|r
  ·exact hx b n r
  ·rw[n]at r;cases r
 have hm:∀b u,H b=some u->¬Mut (some u)->b≠x:=λb u q nm z=>by subst z;rw[q]at mu;exact nm mu
 refine⟨λb u q n _ _=>k b u (hb b n) q,λb u q n _ _=>⟨u.slots,k b u (hb b n) q⟩,λb u q n _=>by rw[upd_ne (hx b n)];exact n,λb u q _=>?_,
  λb xs q=>by rw[upd_ne (hm b _ q λz=>z)];exact q,λb u xs q=>by rw[upd_ne (hm b _ q λz=>z)];exact q,λb ps q=>⟨#[],by rw[upd_ne (hm b _ q λz=>z),q];simp⟩⟩
 by_cases hbe:b=e
 ·subst hbe;exact heo
 ·exact⟨u,k b u hbe q⟩
end
noncomputable def trk(h:Heap)(H:Hp):List Addr:=(List.range h.objs.size).filter λa=>(H a).isSome
noncomputable def hidT(h:Heap)(H:Hp):Heap:=PySem.W.hideAll h (trk h H)
theorem hidT_size(h:Heap)(H:Hp):(hidT h H).objs.size=h.objs.size:=PySem.W.hideAll_size _ _
theorem hidT_get(e:h.get? b=some o)(n:H b=none):(hidT h H).get? b=some o:=
 PySem.W.hideAll_get _ e λhm=>by
  have q:(H b).isSome=true:=(yb1.mp hm).2
  rw[n]at q;simp at q
theorem of_hidT(e:(hidT h H).get? b=some o):h.get? b=some o/\H b=none:=by
 have e':h.get? b=some o:=PySem.W.of_hideAll (trk h H) e
 refine⟨e',?_⟩
 cases q:H b with
 |none=>rfl
 |some x=>
  have hm:b∈trk h H:=yb1.mpr ⟨ycf.mpr (yal e'),by simp[q]⟩
  have z:(hidT h H).get? b=none:=PySem.W.hideAll_none (trk h H) hm
  rw[z]at e;cases e
noncomputable def allNews(g h:Heap)(L:Addr):Lo:=(List.range h.objs.size).filterMap λa=>if a=L\/(g.get? a).isSome=true then none else (h.get? a).map λo=>(a,o)
noncomputable def rest(g h:Heap)(L d:Addr):Lo:=(allNews g h L).filter λp=>decide (p.1≠d)
structure Mod(K:Wf)(mg:So)(base:Heap):Prop where
 kin:K.In base
 glob:base.Ns mainGlobals mg
 blt:∃mb,base.Ns builtinsNs mb/\∀x:Str,x ≠ "__name__" -> mb x=bootBuiltins x
 nolimit:base.NoLimit
structure Cx where
 prog:Program
 w:World
 K:Wf
 mg:Str->Option Value
 base:Heap
 A:Around
 N:List Str
 s₀:Shared
 H₀:Hp
 env:Env
 outer:List Env
 stack:List Env
 ex:List Addr
 fn:Str->Bool
 calm:Bool
 pn:Lo
 xe:Value->Shared->Prop
noncomputable def frs(l:List Env):List Addr:=l.filterMap (·.frame)
noncomputable abbrev Cx.fs(X:Cx):List Addr:=frs X.outer
def Vis(sc:Scope)(x:Str):Prop:=sc.names.lookup x=some .local\/sc.names.lookup x=some .cell\/sc.names.lookup x=some .free
def Loc(sc:Scope)(x:Str):Prop:=sc.names.lookup x=some .local\/sc.names.lookup x=some .cell
def Look(env:Env)(h:Heap)(m:So)(x:Str)(u:Value):Prop:=
 (env.kindOf x=some .local/\m x=some u)\/((env.kindOf x=some .cell\/env.kindOf x=some .free)/\∃c,env.cells.lookup x=some c/\h.IsCell c (some u))
structure Cx.Ok(X:Cx):Prop where
 mod:Mod X.K X.mg X.base
 kind:X.env.scope.kind=.function
 glob:X.env.globals=mainGlobals
 blt:X.env.builtins=builtinsNs
 above:X.s₀.heap.objs.size<=X.env.locals
 inj:∀x y c,X.env.cells.lookup x=some c->X.env.cells.lookup y=some c->x=y
 has:∀x,(X.env.kindOf x=some .cell\/X.env.kindOf x=some .free)->∃c,X.env.cells.lookup x=some c
 cab:∀x c,X.fn x=true->X.env.cells.lookup x=some c->X.s₀.heap.objs.size<=c
 hd:X.calm=true->X.A.handled=none
 frames:X.A.frames=some X.stack
 stk:X.stack=X.outer\/(X.stack=X.env::X.outer/\X.env.frame=some X.env.locals)
 exf:∀b∈X.ex,b≠X.env.locals/\∀x c,X.env.cells.lookup x=some c->c≠b
 bs:∀b o,X.base.get? b=some o->X.s₀.heap.get? b=some o/\X.H₀ b=none
 bsz:X.base.objs.size<=X.s₀.heap.objs.size
 noex:∀b o,X.base.get? b=some o->b∉X.ex
 exfs:∀b∈X.ex,b∉X.fs
 funs:X.s₀.heap.FunFrames X.base X.outer
 frf:∀b∈X.fs,X.H₀ b=none
structure Inv(X:Cx)(pins:Lo)(σ:List (Option V))(H:Hp)(s:Shared):Prop where
 ok:X.Ok
 os:s.os=X.s₀.os
 bare:AllBare s.gens
 base:Un X.fs X.ex X.H₀ H X.s₀.heap s.heap
 loc:∃m,s.heap.Ns X.env.locals m/\∀(i:Nat) (x:Str) (v:V),X.N[i]?=some x->σ[i]?=some (some v)->Vis X.env.scope x->∃u,RelV v u/\Look X.env s.heap m x u
 cell:∀x c,X.env.cells.lookup x=some c->∃v,s.heap.IsCell c v
 free:H X.env.locals=none
 freeC:∀x c,X.env.cells.lookup x=some c->H c=none
 pin:∀p∈X.pn++pins,s.heap.get? p.1=some p.2/\H p.1=none/\p.1≠X.env.locals/\p.1∉X.fs/\∀v,p.2.data≠.cell v
 hok:HOk X.prog X.w H s.heap
 len:σ.length=X.N.length
section
variable{X:Cx}{pins:Lo}{σ:List (Option V)}{H H':Hp}{s:Shared}{h':Heap}
theorem Cx.Ok.nofr(ok:X.Ok){b:Addr}{o:Obj}(e:X.base.get? b=some o):b∉X.fs:=λhb=>by
 have:=(ok.funs.mem hb).1
 rw[e]at this;cases this
theorem Inv.bs(I:Inv X pins σ H s):∀b o,X.base.get? b=some o->s.heap.get? b=some o/\H b=none:=λb o e=>
 ⟨I.base.keep b o (I.ok.bs b o e).1 (I.ok.bs b o e).2 (I.ok.nofr e) (I.ok.noex b o e),I.base.free b o (I.ok.bs b o e).1 (I.ok.bs b o e).2 (I.ok.noex b o e)⟩
theorem Inv.bk(I:Inv X pins σ H s):∀b o,X.base.get? b=some o->s.heap.get? b=some o:=λb o e=>(I.bs b o e).1
theorem Inv.mod(I:Inv X pins σ H s):Mod X.K X.mg X.base:=I.ok.mod
theorem Inv.kIn(I:Inv X pins σ H s):X.K.In s.heap:=I.ok.mod.kin.keeps I.bk
theorem Inv.lt(I:Inv X pins σ H s):X.env.locals<s.heap.objs.size:=let ⟨_,hn,_⟩:=I.loc;hn.lt
theorem Inv.sz(I:Inv X pins σ H s):X.s₀.heap.objs.size<=s.heap.objs.size:=yay I.ok.above (yci I.lt)
theorem Inv.nofs(I:Inv X pins σ H s){a:Addr}(h:s.heap.objs.size<=a):a∉X.fs:=λhb=>by
 obtain⟨_,o,ho,_⟩:=I.ok.funs.mem hb
 exact absurd (yat (yal ho) (yay I.sz h)) (ybb _)
theorem Inv.cne(I:Inv X pins σ H s):∀x c,X.env.cells.lookup x=some c->c≠X.env.locals:=λx c e z=>by
 obtain⟨v,o,ho,hd⟩:=I.cell x c e
 obtain⟨m,⟨o',es,ep,ho',hd',_⟩,_⟩:=I.loc
 rw[z,ho']at ho;cases ho;rw[hd']at hd;cases hd
theorem Inv.funs(I:Inv X pins σ H s):s.heap.FunFrames X.base X.outer:=by
 have all:∀(l:List Env),(∀b∈frs l,b∈X.fs)->X.s₀.heap.FunFrames X.base l->s.heap.FunFrames X.base l:=by
  intro l
  induction l with
  |nil=>intro _ _;trivial
  |cons env r ih=>
   intro hs hl
   obtain⟨hk,⟨L,o,hf,hn,ho,hd⟩,hr⟩:=hl
   have hL:L∈X.fs:=hs L (by unfold frs;rw[List.filterMap_cons,hf];exact List.mem_cons_self)
   obtain⟨sl,e⟩:=I.base.slot L o ho (I.ok.frf L hL) hL λz=>I.ok.exfs L z hL
   exact⟨hk,⟨L,_,hf,hn,e,hd⟩,ih (λb hb=>hs b (by unfold frs;rw[List.filterMap_cons,hf];exact List.mem_cons_of_mem _ hb)) hr⟩
 exact all X.outer (λ_ hb=>hb) I.ok.funs
theorem Inv.stack(I:Inv X pins σ H s):s.heap.FunFrames X.base X.stack:=by
 rcases I.ok.stk with e|⟨e,hf⟩
 ·rw[e];exact I.funs
 ·rw[e]
  obtain⟨m,hn,_⟩:=I.loc
  refine .cons (by rw[I.ok.kind];decide) hf hn ?_ I.funs
  exact Heap.get?_none_of_le (yay I.ok.bsz I.ok.above)
theorem Inv.stkSub(I:Inv X pins σ H s):∀b∈frs X.stack,b∈X.env.locals::X.fs:=λb hb=>by
 rcases I.ok.stk with e|⟨e,hf⟩
 ·rw[e]at hb;exact yaw _ hb
 ·rw[e]at hb
  unfold frs at hb
  rw[List.filterMap_cons,hf]at hb
  exact hb
theorem Inv.stkFree(I:Inv X pins σ H s):∀b∈frs X.stack,H b=none:=λb hb=>by
 rcases yau.mp (I.stkSub b hb) with e|hb
 ·rw[e];exact I.free
 ·obtain⟨_,o,ho,_⟩:=I.ok.funs.mem hb
  exact I.base.free b o ho (I.ok.frf b hb) λz=>I.ok.exfs b z hb
theorem Inv.step{g':Array GenState}{t':Nat}{d':Drawn}{ch:List Addr}(I:Inv X pins σ H s)
  (hch:∀b∈ch,(b∈X.ex\/X.s₀.heap.objs.size<=b)/\b≠X.env.locals/\(∀x c,X.env.cells.lookup x=some c->c≠b)/\∀p∈X.pn++pins,p.1≠b)
  (keep:∀b o,b≠X.env.locals->b∉X.fs->b∉ch->s.heap.get? b=some o->H b=none->h'.get? b=some o)
  (slot:∀b o,b≠X.env.locals->b∈X.fs->b∉ch->s.heap.get? b=some o->H b=none->∃sl,h'.get? b=some { o with slots:=sl }) (free:∀b o,b∉ch->s.heap.get? b=some o->H b=none->H' b=none)
  (there:∀b o,b∉ch->s.heap.get? b=some o->∃o',h'.get? b=some o')
  (tups:∀b xs,H b=some (.tup xs)->H' b=some (.tup xs)) (frzs:∀b o u,H b=some (.frz o u)->H' b=some (.frz o u)) (tbls:∀b ps,H b=some (.tbl ps)->∃more,H' b=some (.tbl (ps++more)))
  (ns:∀m,s.heap.Ns X.env.locals m->h'.Ns X.env.locals m) (hok:HOk X.prog X.w H' h') (hg:AllBare g'):
  Inv X pins σ H' { s with heap:=h',gens:=g',drawn:=d',toks:=t' }:=by
 have neL:∀b o,X.s₀.heap.get? b=some o->b≠X.env.locals:=λb o e=>yax (yat (yal e) I.ok.above)
 have neC:∀b o,X.s₀.heap.get? b=some o->b∉X.ex->b∉ch:=λb o e hx hb=>by
  rcases (hch b hb).1 with z|z
  ·exact hx z
  ·exact absurd (yat (yal e) z) (ybb _)
 have cellK:∀x c,X.env.cells.lookup x=some c->∀v,s.heap.IsCell c v->h'.IsCell c v:=λx c e v ⟨o,ho,hd⟩=>by
  have nch:c∉ch:=λz=>(hch c z).2.2.1 x c e rfl
  by_cases hc:c∈X.fs
  ·obtain⟨sl,q⟩:=slot c o (I.cne x c e) hc nch ho (I.freeC x c e)
   exact⟨_,q,hd⟩
  ·exact⟨o,keep c o (I.cne x c e) hc nch ho (I.freeC x c e),hd⟩
 refine⟨I.ok,I.os,hg,⟨λb o e n hb hx=>?_,λb o e n hb hx=>?_,λb o e n hx=>?_,λb o e hx=>?_,λb xs e=>tups b xs (I.base.tups b xs e),λb o xs e=>frzs b o xs (I.base.frzs b o xs e),λb ps e=>?_⟩,?_,λx c e=>?_,?_,λx c e=>?_,λp hp=>?_,hok,I.len⟩
 ·exact keep b o (neL b o e) hb (neC b o e hx) (I.base.keep b o e n hb hx) (I.base.free b o e n hx)
 ·obtain⟨sl,e1⟩:=I.base.slot b o e n hb hx
  obtain⟨sl',e2⟩:=slot b _ (neL b o e) hb (neC b o e hx) e1 (I.base.free b o e n hx)
  exact⟨sl',e2⟩
 ·obtain⟨o',e1⟩:=I.base.there b o e hx
  exact free b o' (neC b o e hx) e1 (I.base.free b o e n hx)
 ·obtain⟨o',e1⟩:=I.base.there b o e hx
  exact there b o' (neC b o e hx) e1
 ·obtain⟨m1,e1⟩:=I.base.tbls b ps e
  obtain⟨m2,e2⟩:=tbls b _ e1
  exact⟨m1++m2,by rw[e2,Array.append_assoc]⟩
 ·obtain⟨m,hn,hl⟩:=I.loc
  refine⟨m,ns m hn,λi x v e1 e2 e3=>?_⟩
  obtain⟨u,r,l⟩:=hl i x v e1 e2 e3
  refine⟨u,r,?_⟩
  rcases l with l|⟨k,c,e,z⟩
  ·exact .inl l
  ·exact .inr ⟨k,c,e,cellK x c e _ z⟩
 ·obtain⟨v,z⟩:=I.cell x c e
  exact⟨v,cellK x c e v z⟩
 ·obtain⟨m,⟨o,_,_,ho,_⟩,_⟩:=I.loc
  exact free _ o (λz=>(hch _ z).2.1 rfl) ho I.free
 ·obtain⟨v,o,ho,hd⟩:=I.cell x c e
  exact free c o (λz=>(hch c z).2.2.1 x c e rfl) ho (I.freeC x c e)
 ·obtain⟨e,n,ne,nf,d⟩:=I.pin p hp
  have nch:p.1∉ch:=λz=>(hch p.1 z).2.2.2 p hp rfl
  exact⟨keep p.1 p.2 ne nf nch e n,free p.1 p.2 nch e n,ne,nf,d⟩
theorem Inv.un(I:Inv X pins σ H s)(u:Un X.fs [] H H' s.heap h')(hok:HOk X.prog X.w H' h'):Inv X pins σ H' { s with heap:=h',toks:=t' }:=by
 obtain⟨m,⟨o,es,ep,ho,r⟩,_⟩:=id I.loc
 obtain⟨sl,hL⟩:=u.any ho I.free (by simp)
 exact I.step (g':=s.gens) (d':=s.drawn) (ch:=[]) (λ_ z=>nomatch z) (λb o _ hb _ e n=>u.keep b o e n hb (by simp)) (λb o _ hb _ e n=>u.slot b o e n hb (by simp)) (λb o _ e n=>u.free b o e n (by simp)) (λb o _ e=>u.there b o e (by simp)) u.tups u.frzs u.tbls (λm' hm=>by
  obtain⟨o',es',ep',ho',r'⟩:=hm
  rw[ho]at ho';cases ho'
  exact⟨_,es',ep',hL,r'⟩) hok I.bare
theorem Inv.call(I:Inv X pins σ H s)(u:Un (frs X.stack) ch H H' s.heap h')(hok:HOk X.prog X.w H' h')(hg:AllBare g')
  (hch:∀b∈ch,(b∈X.ex\/X.s₀.heap.objs.size<=b)/\b≠X.env.locals/\(∀x c,X.env.cells.lookup x=some c->c≠b)/\∀p∈X.pn++pins,p.1≠b):
  Inv X pins σ H' { s with heap:=h',gens:=g',drawn:=d',toks:=t' }:=by
 obtain⟨m,⟨o,es,ep,ho,r⟩,_⟩:=id I.loc
 obtain⟨sl,hL⟩:=u.any ho I.free λz=>(hch _ z).2.1 rfl
 exact I.step (ch:=ch) hch (λb o hL hb hc e n=>u.keep b o e n (λz=>(yau.mp (I.stkSub b z)).elim hL hb) hc) (λb o _ _ hc e n=>u.any e n hc) (λb o hc e n=>u.free b o e n hc) (λb o hc e=>u.there b o e hc) u.tups u.frzs u.tbls (λm' hm=>by
  obtain⟨o',es',ep',ho',r'⟩:=hm
  rw[ho]at ho';cases ho'
  exact⟨_,es',ep',hL,r'⟩) hok hg
theorem Inv.turned(I:Inv X pins σ H s)(k:∀b o,b≠it->s.heap.get? b=some o->h'.get? b=some o)(hn:H it=none)(hL:it≠X.env.locals)
  (h1:it∈X.ex\/X.s₀.heap.objs.size<=it) (h2:∀x c,X.env.cells.lookup x=some c->c≠it) (h3:∀p∈X.pn++pins,p.1≠it):Inv X pins σ H { s with heap:=h',toks:=t' }:=by
 have nit:∀b u,H b=some u->b≠it:=λb u e z=>by rw[z,hn]at e;cases e
 refine I.step (g':=s.gens) (d':=s.drawn) (ch:=[it]) (λb hb=>?_) (λb o _ _ hc e _=>k b o (λz=>hc (by simp[z])) e) (λb o _ _ hc e _=>⟨o.slots,k b o (λz=>hc (by simp[z])) e⟩) (λ_ _ _ _ n=>n)
  (λb o hc e=>⟨o,k b o (λz=>hc (by simp[z])) e⟩) (λ_ _ e=>e) (λ_ _ _ e=>e) (λb ps e=>⟨#[],by rw[e];simp⟩) (λm hm=>?_) (λb u e=>?_) I.bare
 ·have e:b=it:=by simpa using hb
  subst e
  exact⟨h1,hL,h2,h3⟩
 ·obtain⟨o,es,ep,ho,r⟩:=hm
  exact⟨o,es,ep,k _ o (Ne.symm hL) ho,r⟩
 ·refine(I.hok b u e).stay (λc v hc q=>k c v ?_ q) (λ_ q=>q) λ_ _ q=>q
  rcases hc with z|z
  ·rw[z];exact nit b u e
  ·exact nit c _ z
theorem Inv.tok(I:Inv X pins σ H s)(t:Nat):Inv X pins σ H { s with toks:=t }:=I.un (h':=s.heap) (t':=t) Un.refl I.hok
theorem Inv.kept(I:Inv X pins σ H s)(k:∀b u,s.heap.get? b=some u->h'.get? b=some u):Inv X pins σ H { s with heap:=h',toks:=t' }:=I.un (Un.kept k) (I.hok.kept k)
theorem Inv.laid(I:Inv X pins σ H s)(k:∀b u,s.heap.get? b=some u->h'.get? b=some u)(hp:s.heap.objs.size<=a)(new:ObjOk X.prog X.w (upd H a o) h' a o):
  Inv X pins σ (upd H a o) { s with heap:=h',toks:=t' }:=I.un (Un.laid k hp (I.hok.fresh hp)) (I.hok.laid k hp new)
theorem Inv.write(I:Inv X pins σ H s)(mu:Mut (H x))(he:e=x\/H e=some (.own x))(k:∀b u,b≠e->s.heap.get? b=some u->h'.get? b=some u)(heo:∃u,h'.get? e=some u)
  (new:ObjOk X.prog X.w (upd H x o) h' x o):Inv X pins σ (upd H x o) { s with heap:=h',toks:=t' }:=I.un (Un.write mu he k heo) (I.hok.write mu he k heo new)
theorem Inv.weak(I:Inv X pins σ H s)(hl:σ'.length=σ.length)(w:∀(i:Nat) v,σ'[i]?=some (some v)->σ[i]?=some (some v)):Inv X pins σ' H s:=
 ⟨I.ok,I.os,I.bare,I.base,let ⟨m,hn,hl'⟩:=I.loc;⟨m,hn,λi x v e1 e2 e3=>hl' i x v e1 (w i v e2) e3⟩,I.cell,I.free,I.freeC,I.pin,I.hok,hl.trans I.len⟩
theorem Inv.pins_of{pins':Lo}(I:Inv X pins σ H s)(h:∀p∈pins',s.heap.get? p.1=some p.2/\H p.1=none/\p.1≠X.env.locals/\p.1∉X.fs/\∀v,p.2.data≠.cell v):Inv X pins' σ H s:=
 ⟨I.ok,I.os,I.bare,I.base,I.loc,I.cell,I.free,I.freeC,λp hp=>(yai.mp hp).elim (λz=>I.pin p (yak _ z)) (h p),I.hok,I.len⟩
theorem nodup_ix{N:List Str}(hN:N.Nodup){i j:Nat}{x:Str}(a:N[i]?=some x)(b:N[j]?=some x):i=j:=by
 obtain⟨h1,e1⟩:=yam.mp a
 obtain⟨h2,e2⟩:=yam.mp b
 exact(List.getElem_inj hN).mp (e1.trans e2.symm)
theorem store_ok2(I:Inv X pins σ H s)(hN:X.N.Nodup)(hi:X.N[i]?=some x)(hx:Loc X.env.scope x)(r:RelV v u)
  (h:∀s',Inv X pins (σ.set i (some v)) H s'->(∃a,Heap.SameBut a s.heap s'.heap/\(a=X.env.locals\/X.env.cells.lookup x=some a))->Q () s') (hf:X.fn x=true\/X.env.scope.names.lookup x=some .local:=by first|exact .inl rfl|exact .inr rfl|assumption):wpAny M A (storeName X.env x u) Q E s:=by
 obtain⟨m,hn,hl⟩:=id I.loc
 have hcls:(X.env.scope.kind == .class || (X.env.scope.kind == .module&&X.env.locals != X.env.globals))=false:=by rw[I.ok.kind];rfl
 have hiσ:i<σ.length:=by rw[I.len];exact(yam.mp hi).1
 have cne:=I.cne
 have tracked:∀{a:Addr}{h':Heap},(∃o,s.heap.get? a=some o/\H a=none)->Heap.SameBut a s.heap h'->HOk X.prog X.w H h':=λ{a h'} ha hs b ob e=>by
  obtain⟨_,_,hfree⟩:=ha
  refine(I.hok b ob e).stay (λc w' hc q=>(hs.2 c ?_).trans q) (λ_ q=>q) λ_ _ q=>q
  rintro rfl
  rcases hc with rfl|hc
  ·rw[hfree]at e;cases e
  ·rw[hfree]at hc;cases hc
 rcases hx with hk|hk
 ·refine wpAny_storeName_local hk hn (λh' hn' hs=>?_) hcls
  obtain⟨oL,_,_,hoL,_⟩:=id hn
  refine h _ ⟨I.ok,I.os,I.bare,⟨λb o e n hb hx=>?_,λb o e n hb hx=>?_,I.base.free,λb o e hx=>?_,I.base.tups,I.base.frzs,I.base.tbls⟩,⟨_,hn',λj y v' e1 e2 e3=>?_⟩,λy c e=>?_,I.free,I.freeC,λp hp=>?_,tracked ⟨oL,hoL,I.free⟩ hs,by simpa using I.len⟩ ⟨_,hs,.inl rfl⟩
  ·exact(hs.2 b (yax (yat (yal e) I.ok.above))).trans (I.base.keep b o e n hb hx)
  ·obtain⟨sl,e1⟩:=I.base.slot b o e n hb hx
   exact⟨sl,(hs.2 b (yax (yat (yal e) I.ok.above))).trans e1⟩
  ·obtain⟨o',e1⟩:=I.base.there b o e hx
   exact⟨o',(hs.2 b (yax (yat (yal e) I.ok.above))).trans e1⟩
  ·by_cases hj:j=i
   ·subst hj
    rw[hi]at e1;cases e1
    rw[List.getElem?_set_self hiσ]at e2
    cases e2
    exact⟨u,r,.inl ⟨hk,by simp⟩⟩
   ·rw[List.getElem?_set_ne (Ne.symm hj)]at e2
    obtain⟨u',r',q⟩:=hl j y v' e1 e2 e3
    refine⟨u',r',?_⟩
    rcases q with ⟨k,e⟩|⟨k,c,e,z⟩
    ·refine .inl ⟨k,?_⟩
     have:y≠x:=λe=>hj (nodup_ix hN e1 (e▸hi))
     simp[this,e]
    ·exact .inr ⟨k,c,e,z.sameBut hs (cne y c e)⟩
  ·obtain⟨w',z⟩:=I.cell y c e
   exact⟨w',z.sameBut hs (cne y c e)⟩
  ·obtain⟨e,n,ne,nf,d⟩:=I.pin p hp
   exact⟨(hs.2 p.1 ne).trans e,n,ne,nf,d⟩
 ·have hfn:X.fn x=true:=by
   rcases hf with z|z
   ·exact z
   ·rw[z]at hk;cases hk
  obtain⟨c,hc⟩:=I.ok.has x (.inl hk)
  obtain⟨w',z⟩:=I.cell x c hc
  refine wpAny_storeName_cell I.ok.kind hk hc z (λh' hc' hs=>?_)
  obtain⟨oc,hoc,hocd⟩:=id z
  refine h { s with heap:=h' } ⟨I.ok,I.os,I.bare,⟨λb o e n hb hx=>?_,λb o e n hb hx=>?_,I.base.free,λb o e hx=>?_,I.base.tups,I.base.frzs,I.base.tbls⟩,⟨m,hn.sameBut hs (Ne.symm (cne x c hc)),λj y v' e1 e2 e3=>?_⟩,λy c' e=>?_,I.free,I.freeC,λp hp=>?_,tracked ⟨oc,hoc,I.freeC x c hc⟩ hs,by simpa using I.len⟩ ⟨c,hs,.inr hc⟩
  ·exact(hs.2 b (yax (yat (yal e) (I.ok.cab x c hfn hc)))).trans (I.base.keep b o e n hb hx)
  ·obtain⟨sl,e1⟩:=I.base.slot b o e n hb hx
   exact⟨sl,(hs.2 b (yax (yat (yal e) (I.ok.cab x c hfn hc)))).trans e1⟩
  ·obtain⟨o',e1⟩:=I.base.there b o e hx
   exact⟨o',(hs.2 b (yax (yat (yal e) (I.ok.cab x c hfn hc)))).trans e1⟩
  ·by_cases hj:j=i
   ·subst hj
    rw[hi]at e1;cases e1
    rw[List.getElem?_set_self hiσ]at e2
    cases e2
    exact⟨u,r,.inr ⟨.inl hk,c,hc,hc'⟩⟩
   ·rw[List.getElem?_set_ne (Ne.symm hj)]at e2
    obtain⟨u',r',q⟩:=hl j y v' e1 e2 e3
    refine⟨u',r',?_⟩
    rcases q with q|⟨k,c',e,z'⟩
    ·exact .inl q
    ·refine .inr ⟨k,c',e,z'.sameBut hs ?_⟩
     rintro rfl
     exact hj (nodup_ix hN e1 (I.ok.inj _ _ _ e hc▸hi))
  ·by_cases hcc:c'=c
   ·subst hcc;exact⟨_,hc'⟩
   ·obtain⟨w2,z2⟩:=I.cell y c' e
    exact⟨w2,z2.sameBut hs hcc⟩
  ·obtain⟨e,n,ne,nf,d⟩:=I.pin p hp
   refine⟨(hs.2 p.1 ?_).trans e,n,ne,nf,d⟩
   intro q
   rw[q,hoc]at e
   have q':oc=p.2:=Option.some.inj e
   exact d w' (by rw[<-q'];exact hocd)
theorem store_ok(I:Inv X pins σ H s)(hN:X.N.Nodup)(hi:X.N[i]?=some x)(hx:Loc X.env.scope x)(r:RelV v u)
  (h:∀s',Inv X pins (σ.set i (some v)) H s'->Q () s') (hf:X.fn x=true\/X.env.scope.names.lookup x=some .local:=by first|exact .inl rfl|exact .inr rfl|assumption):wpAny M A (storeName X.env x u) Q E s:=
 store_ok2 I hN hi hx r (λs' I' _=>h s' I') hf
theorem Inv.call'(I:Inv X pins σ H s)(ho:s'.os=s.os)(u:Un (frs X.stack) ch H H' s.heap s'.heap)(hok:HOk X.prog X.w H' s'.heap)(hg:AllBare s'.gens)
  (hch:∀b∈ch,(b∈X.ex\/X.s₀.heap.objs.size<=b)/\b≠X.env.locals/\(∀x c,X.env.cells.lookup x=some c->c≠b)/\∀p∈X.pn++pins,p.1≠b):Inv X pins σ H' s':=by
 obtain⟨h',g',d',t',o'⟩:=s'
 have e:o'=s.os:=ho
 subst e
 exact I.call (g':=g') (t':=t') (d':=d') u hok hg hch
end
noncomputable abbrev XK:=Value->Option Addr->Hp->Prop
noncomputable abbrev St:=List (Option V)
noncomputable abbrev VK:=V->Hp->Prop
noncomputable abbrev TE:=St->Hp->VK->Prop
noncomputable abbrev TT:=St->Hp->(Bool->Hp->Prop)->Prop
noncomputable abbrev TA:=St->Hp->(List V->Hp->Prop)->Prop
structure Ends where
 nx:St->Hp->Prop
 rt:VK
 bk:St->Hp->Prop:=λ_ _=>False
 ct:St->Hp->Prop:=λ_ _=>False
noncomputable abbrev TS:=Ends->St->Hp->Prop
def EP(X:Cx)(pins:Lo)(σ:St)(Q:VK)(u:Value)(s':Shared):Prop:=∃v H',Inv X pins σ H' s'/\RelV v u/\Q v H'
def TP(X:Cx)(pins:Lo)(σ:St)(Q:Bool->Hp->Prop)(b:Bool)(s':Shared):Prop:=∃H',Inv X pins σ H' s'/\Q b H'
def AP(X:Cx)(pins:Lo)(σ:St)(Q:List V->Hp->Prop)(us:List Value)(s':Shared):Prop:=∃vs H',Inv X pins σ H' s'/\Vals vs us/\Q vs H'
def SP(X:Cx)(pins:Lo)(D:Ends)(f:Flow)(s':Shared):Prop:=
 match f with
 |.next=>∃σ' H',Inv X pins σ' H' s'/\D.nx σ' H'
 |.brk=>∃σ' H',Inv X pins σ' H' s'/\D.bk σ' H'
 |.cont=>∃σ' H',Inv X pins σ' H' s'/\D.ct σ' H'
 |.ret u=>∃v σ' H',Inv X pins σ' H' s'/\RelV v u/\D.rt v H'
def PE(X:Cx)(e:Expr)(t:TE):Prop:=
 ∀(pins:Lo) (s:Shared) (σ:St) (H:Hp) (Q:VK),Inv X pins σ H s->t σ H Q->wpAny (model X.prog X.w) X.A (eval e X.env) (EP X pins σ Q) X.xe s
def PT(X:Cx)(e:Expr)(t:TT):Prop:=
 ∀(pins:Lo) (s:Shared) (σ:St) (H:Hp) (Q:Bool->Hp->Prop),Inv X pins σ H s->t σ H Q->wpAny (model X.prog X.w) X.A (isTrue e X.env (eval e X.env)) (TP X pins σ Q) X.xe s
def PW(X:Cx)(e:Expr)(t:TT):Prop:=
 ∀(whole:Sem Value) (pins:Lo) (s:Shared) (σ:St) (H:Hp) (Q:Bool->Hp->Prop),Inv X pins σ H s->t σ H Q->wpAny (model X.prog X.w) X.A (isTrue e X.env whole) (TP X pins σ Q) X.xe s
theorem PW.pt(h:PW X e t):PT X e t:=h _
def PA(X:Cx)(es:List Expr)(t:TA):Prop:=
 ∀(pos:Pos) (pins:Lo) (s:Shared) (σ:St) (H:Hp) (Q:List V->Hp->Prop),Inv X pins σ H s->t σ H Q->wpAny (model X.prog X.w) X.A (spliced (backTo pos (starEach es X.env))) (AP X pins σ Q) X.xe s
def PS(X:Cx)(st:Stmt)(t:TS):Prop:=
 ∀(pins:Lo) (s:Shared) (σ:St) (H:Hp) (D:Ends),Inv X pins σ H s->t D σ H->wpAny (model X.prog X.w) X.A (exec st X.env) (SP X pins D) X.xe s
def PSs(X:Cx)(st:List Stmt)(t:TS):Prop:=
 ∀(pins:Lo) (s:Shared) (σ:St) (H:Hp) (D:Ends),Inv X pins σ H s->t D σ H->wpAny (model X.prog X.w) X.A (execs st X.env) (SP X pins D) X.xe s
theorem thn{α:Type}{t:Sem α}{Q Q':α->Shared->Prop}{M:Model}{A:Around}{E:Vs}{s:Shared}(h:wpAny M A t Q E s)(hQ:∀a s,Q a s->Q' a s):wpAny M A t Q' E s:=ybk h hQ λ_ _ x=>x
section
variable{X:Cx}
noncomputable def vAt:List (Option V)->Nat->(V->Prop)->Prop
 |[],_,_=>False
 |o::_,0,Q=>match o with
  |some v=>Q v
  |none=>False
 |_::r,n+1,Q=>vAt r n Q
theorem vAt_ex:∀{σ:List (Option V)}{i:Nat}{Q:V->Prop},vAt σ i Q->∃v,σ[i]?=some (some v)/\Q v
 |some v::_,0,_,h=>⟨v,rfl,h⟩
 |_::r,n+1,_,h=>vAt_ex (σ:=r) (i:=n) h
def tVar(i:Nat):TE:=λσ H Q=>vAt σ i λv=>Q v H
def tC(v:V):TE:=λ_ H Q=>Q v H
theorem pe_var(hN:X.N[i]?=some x)(hv:Vis X.env.scope x)(hd:(x == ("__debug__" : Str))=false:=by decide)(hcd:(x == ("__classdict__" : Str))=false:=by decide):PE X (.Name x pos) (tVar i):=by
 intro pins s σ H Q I h
 obtain⟨v,e,h⟩:=vAt_ex h
 obtain⟨m,hn,hl⟩:=I.loc
 obtain⟨u,r,l⟩:=hl i x v hN e hv
 have fin:EP X pins σ Q u s:=⟨v,H,I,r,h⟩
 rcases l with ⟨hk,hm⟩|⟨hk,c,hc,hcell⟩
 ·exact wpAny_Name (wpAny_loadName_local I.ok.kind hk hn hm fin) hd
 ·rcases hk with hk|hk
  ·exact wpAny_Name (wpAny_loadName_cell I.ok.kind hk hc hcell fin) hd
  ·exact wpAny_Name (wpAny_loadName_free I.ok.kind hk hc hcell fin hcd) hd
theorem pe_int:PE X (.Constant (.int i) j pos) (tC (.int i)):=λ_ _ _ H _ I h=>wpAny_Constant_int ⟨.int i,H,I.tok _,⟨_,rfl⟩,h⟩
theorem pe_bl:PE X (.Constant (.bool b) j pos) (tC (.bl b)):=λ_ _ _ H _ I h=>Constant_bool ⟨.bl b,H,I,rfl,h⟩
theorem pe_non:PE X (.Constant .none j pos) (tC .non):=λ_ _ _ H _ I h=>Constant_none ⟨.non,H,I,rfl,h⟩
theorem pe_str:PE X (.Constant (.str x) j pos) (tC (.str x)):=λ_ _ _ H _ I h=>Calls.Constant_str ⟨.str x,H,I.tok _,⟨_,rfl⟩,h⟩
def Gl(X:Cx)(x:Str):Prop:=X.env.kindOf x=some .globalImplicit
theorem ld_glob(I:Inv X pins σ H s)(hg:Gl X x)(hm:X.mg x=some u)(h:Q u s)
  (hd:(x == ("__debug__" : Str))=false:=by decide):wpAny (model X.prog X.w) X.A (eval (.Name x pos) X.env) Q E s:=
 Calls.Name_function_global I.ok.kind hg (Calls.loadGlobal_global (by rw[I.ok.glob];exact I.mod.glob.keeps I.bk) hm h) hd
theorem ld_blt(I:Inv X pins σ H s)(hg:Gl X x)(hm:X.mg x=none)(hv:bootBuiltins x=some u)(h:Q u s)
  (hn:x ≠ "__name__" := by decide) (hd:(x == ("__debug__" : Str))=false:=by decide):wpAny (model X.prog X.w) X.A (eval (.Name x pos) X.env) Q E s:=by
 obtain⟨mb,h1,h2⟩:=I.mod.blt
 exact Calls.Name_function_global I.ok.kind hg (Calls.loadGlobal_builtin (by rw[I.ok.glob];exact I.mod.glob.keeps I.bk) hm (by rw[I.ok.blt];exact h1.keeps I.bk) ((h2 x hn).trans hv) h) hd
theorem pe_glob(hg:Gl X x)(hm:X.mg x=some u)(r:RelV v u)(hd:(x == ("__debug__" : Str))=false:=by decide):PE X (.Name x pos) (tC v):=
 λ_ _ _ H _ I h=>ld_glob I hg hm ⟨v,H,I,r,h⟩ hd
theorem pe_bltn(hg:Gl X x)(hm:X.mg x=none)(hv:bootBuiltins x=some u)(r:RelV v u)(hn:x ≠ "__name__" := by decide)(hd:(x == ("__debug__" : Str))=false:=by decide):PE X (.Name x pos) (tC v):=
 λ_ _ _ H _ I h=>ld_blt I hg hm hv ⟨v,H,I,r,h⟩ hn hd
variable{a b:Expr}{ta tb:TE}{pos:Pos}
def PC(X:Cx)(op:CmpOp)(a b:Expr)(t:TE):Prop:=
 ∀(pins:Lo) (s:Shared) (σ:St) (H:Hp) (Q:VK),Inv X pins σ H s->t σ H Q->
  wpAny (model X.prog X.w) X.A (eval a X.env) (λv s₁=>wpAny (model X.prog X.w) X.A (eval b X.env) (λu s₂=>wpAny (model X.prog X.w) X.A (compareOp op v u) (EP X pins σ Q) X.xe s₂) X.xe s₁) X.xe s
theorem nobehind(b:Expr){op:CmpOp}(h:op≠.In)(h2:op≠.NotIn):behindInMarks op b=false:=by
 have e1:(op == CmpOp.In)=false:=by cases op<;>first|rfl|exact absurd rfl h
 have e2:(op == CmpOp.NotIn)=false:=by cases op<;>first|rfl|exact absurd rfl h2
 cases b<;>simp[behindInMarks,e1,e2]
def tB(t:TE):TT:=λσ H Q=>t σ H λx H1=>∃c,x=.bl c/\Q c H1
theorem pt_cmp(h:PC X op a b t)(h1:behindInMarks op b=false:=by first|exact nobehind _ (by decide) (by decide)|rfl):PT X (.Compare a [op] [b] pos) (tB t):=by
 intro pins s σ H Q I hw
 refine wpAny_isTrue_Compare1 (thn (h pins s σ H _ I hw) λv s1 h1=>thn h1 λu s2 h2=>thn h2 λc s3 ⟨x,H1,I1,r1,q1⟩=>?_) h1
 obtain⟨d,rfl,q⟩:=q1
 cases r1
 exact yck ⟨H1,I1,q⟩
theorem pt_val(h:PE X e t)(he:∀whole,isTrue e X.env whole=(do let v <-whole;standAt e.pos;holding [v] (truthy v)):=by intro _;rfl):PT X e (tB t):=by
 intro pins s σ H Q I hw
 refine isTrue_plain (thn (h pins s σ H _ I hw) λv s1 ⟨x,H1,I1,r1,q1⟩=>?_) (he _)
 obtain⟨d,rfl,q⟩:=q1
 cases r1
 exact yck ⟨H1,I1,q⟩
variable{tA tB':TT}{rest:List Expr}
def tAnd(t u:TT):TT:=λσ H Q=>t σ H λc H1=>if c=true then u σ H1 Q else Q false H1
def tOr(t u:TT):TT:=λσ H Q=>t σ H λc H1=>if c=true then Q true H1 else u σ H1 Q
def tNot(t:TT):TT:=λσ H Q=>t σ H λc H1=>Q (!c) H1
theorem pw_and1(ha:PT X a tA):PW X (.BoolOp .And [a] pos) tA:=by
 intro wh pins s σ H Q I h
 refine isTrue_and (thn (ha pins s σ H Q I h) λc s1 e=>?_)
 cases c with
 |true=>exact isTrue_and_nil e
 |false=>exact e
theorem pw_or1(ha:PT X a tA):PW X (.BoolOp .Or [a] pos) tA:=by
 intro wh pins s σ H Q I h
 refine isTrue_or (thn (ha pins s σ H Q I h) λc s1 e=>?_)
 cases c with
 |false=>exact isTrue_or_nil e
 |true=>exact e
theorem pw_and(ha:PT X a tA)(hb:PW X (.BoolOp .And (b::rest) pos) tB'):PW X (.BoolOp .And (a::b::rest) pos) (tAnd tA tB'):=by
 intro wh pins s σ H Q I h
 refine isTrue_and (thn (ha pins s σ H _ I h) λc s1 ⟨H1,I1,q1⟩=>?_)
 cases c with
 |true=>exact hb wh pins s1 σ H1 Q I1 q1
 |false=>exact⟨H1,I1,q1⟩
theorem pw_or(ha:PT X a tA)(hb:PW X (.BoolOp .Or (b::rest) pos) tB'):PW X (.BoolOp .Or (a::b::rest) pos) (tOr tA tB'):=by
 intro wh pins s σ H Q I h
 refine isTrue_or (thn (ha pins s σ H _ I h) λc s1 ⟨H1,I1,q1⟩=>?_)
 cases c with
 |true=>exact⟨H1,I1,q1⟩
 |false=>exact hb wh pins s1 σ H1 Q I1 q1
theorem pt_not(ha:PT X a tA):PT X (.UnaryOp .Not a pos) (tNot tA):=by
 intro pins s σ H Q I h
 exact isTrue_not (ha pins s σ H (λc H1=>Q (!c) H1) I h)
def tAndV(ta tb:TE):TE:=λσ H Q=>ta σ H λx H1=>∃c,x=.bl c/\if c=true then tb σ H1 Q else Q (.bl false) H1
def tOrV(ta tb:TE):TE:=λσ H Q=>ta σ H λx H1=>∃c,x=.bl c/\if c=true then Q (.bl true) H1 else tb σ H1 Q
def tNotV(ta:TE):TE:=λσ H Q=>ta σ H λx H1=>∃c,x=.bl c/\Q (.bl (!c)) H1
theorem pe_one(h:PE X a t):PE X (.BoolOp op [a] pos) t:=λpins s σ H Q I hw=>BoolOp_one (h pins s σ H Q I hw)
theorem pe_and(ha:PE X a ta)(hb:PE X (.BoolOp .And (b::rest) pos) tb):PE X (.BoolOp .And (a::b::rest) pos) (tAndV ta tb):=by
 intro pins s σ H Q I h
 refine BoolOp_and (thn (ha pins s σ H _ I h) λv s1 ⟨x,H1,I1,r1,q1⟩=>?_)
 obtain⟨c,rfl,q1⟩:=q1
 cases r1
 refine yck ?_
 cases c with
 |true=>exact hb pins s1 σ H1 Q I1 q1
 |false=>exact⟨.bl false,H1,I1,rfl,q1⟩
def tIf(t:TT)(ta tb:TE):TE:=λσ H Q=>t σ H λc H1=>if c=true then ta σ H1 Q else tb σ H1 Q
end
def SqL(K:Wf)(H:Hp)(a:Addr)(xs:List V):Prop:=
 Rd H a (.lst xs) \/
  ∃(o:Obj) (its:Array Value) (n:Nat),K.lookup a=some o/\o.cls=.type "list" /\ o.dict=none/\o.data=.seq its n/\its.size<=sizeLine/\Vals xs its.toList
def SqT(K:Wf)(H:Hp)(a:Addr)(xs:List V):Prop:=
 Rd H a (.tup xs) \/
  ∃(o:Obj) (its:Array Value) (n:Nat),K.lookup a=some o/\o.cls=.type "tuple" /\ o.data=.seq its n/\its.size<=sizeLine/\Vals xs its.toList
noncomputable def absV:Value->Option V
 |.none=>some .non
 |.bool b=>some (.bl b)
 |.int i _=>some (.int i)
 |.str x _=>some (.str x)
 |.bytes b _=>some (.byt b)
 |.float b _=>some (.flt b)
 |.ref a=>some (.ref a)
 |.type n=>some (.ty n)
 |_=>none
theorem RelV.abs(r:RelV x u):absV u=some x:=by
 cases x with
 |non=>cases r;rfl
 |bl _=>cases r;rfl
 |int _=>obtain⟨t,rfl⟩:=r;rfl
 |str _=>obtain⟨t,rfl⟩:=r;rfl
 |byt _=>obtain⟨t,rfl⟩:=r;rfl
 |flt _=>obtain⟨t,rfl⟩:=r;rfl
 |ref _=>cases r;rfl
 |ty _=>cases r;rfl
theorem RelV.inj(r:RelV x u)(q:RelV y u):x=y:=Option.some.inj (r.abs.symm.trans q.abs)
theorem Vals.inj:∀{xs ys:List V}{us:List Value},Vals xs us->Vals ys us->xs=ys
 |_,_,_,.nil,.nil=>rfl
 |_,_,_,.cons r t,.cons r' t'=>by rw[r.inj r',Vals.inj t t']
section
variable{X:Cx}{pins:Lo}{σ:St}{H:Hp}{s:Shared}{a:Addr}{xs ys:List V}
theorem SqL.of{K:Wf}(h:H a=some (.lst xs)):SqL K H a xs:=.inl (.inl h)
theorem SqT.of{K:Wf}(h:H a=some (.tup xs)):SqT K H a xs:=.inl (.inl h)
theorem Inv.list(I:Inv X pins σ H s)(h:SqL X.K H a xs):∃its:List Value,Vals xs its/\PlainL s.heap a its.toArray/\xs.length<=sizeLine:=by
 rcases h with h|⟨o,its,n,hk,hc,hd,hs,hz,r⟩
 ·obtain⟨z,its,n,r,e⟩:=h.ok I.hok
  exact⟨its,r,⟨_,n,e,rfl,rfl,rfl⟩,z⟩
 ·refine⟨its.toList,r,⟨o,n,I.kIn a o hk,hc,hd,by simpa using hs⟩,?_⟩
  have e:=r.length
  simp only[Array.length_toList]at e
  omega
theorem Inv.tuple(I:Inv X pins σ H s)(h:SqT X.K H a xs):∃its:List Value,Vals xs its/\IsTup s.heap a its.toArray/\xs.length<=sizeLine:=by
 rcases h with h|⟨o,its,n,hk,hc,hs,hz,r⟩
 ·obtain⟨z,its,r,p⟩:=h.ok I.hok
  exact⟨its,r,p,z⟩
 ·refine⟨its.toList,r,⟨o,I.kIn a o hk,hc,n,by simpa using hs⟩,?_⟩
  have e:=r.length
  simp only[Array.length_toList]at e
  omega
theorem Inv.list_inj(I:Inv X pins σ H s)(h:SqL X.K H a xs)(h':SqL X.K H a ys):xs=ys:=by
 obtain⟨its,r,⟨o,n,e,_,_,d⟩,_⟩:=I.list h
 obtain⟨its',r',⟨o',n',e',_,_,d'⟩,_⟩:=I.list h'
 rw[e]at e';cases e'
 rw[d]at d'
 injection d' with d1 _
 have:its=its':=by simpa using congrArg Array.toList d1
 subst this
 exact r.inj r'
theorem Inv.tuple_inj(I:Inv X pins σ H s)(h:SqT X.K H a xs)(h':SqT X.K H a ys):xs=ys:=by
 obtain⟨its,r,⟨o,e,_,n,d⟩,_⟩:=I.tuple h
 obtain⟨its',r',⟨o',e',_,n',d'⟩,_⟩:=I.tuple h'
 rw[e]at e';cases e'
 rw[d]at d'
 injection d' with d1 _
 have:its=its':=by simpa using congrArg Array.toList d1
 subst this
 exact r.inj r'
end
noncomputable abbrev Cx.wish(X:Cx)(E:Vs):Cx:={ X with xe:=E }
noncomputable abbrev Cx.nox(X:Cx):Cx:=X.wish λ_ _=>False
theorem Cx.Ok.wish{X:Cx}(ok:X.Ok)(E:Vs):(X.wish E).Ok:=
 ⟨ok.mod,ok.kind,ok.glob,ok.blt,ok.above,ok.inj,ok.has,ok.cab,ok.hd,ok.frames,ok.stk,ok.exf,ok.bs,ok.bsz,ok.noex,ok.exfs,ok.funs,ok.frf⟩
theorem Cx.Ok.unwish{X:Cx}{E:Vs}(ok:(X.wish E).Ok):X.Ok:=
 ⟨ok.mod,ok.kind,ok.glob,ok.blt,ok.above,ok.inj,ok.has,ok.cab,ok.hd,ok.frames,ok.stk,ok.exf,ok.bs,ok.bsz,ok.noex,ok.exfs,ok.funs,ok.frf⟩
section
variable{X:Cx}{pins:Lo}{σ:St}{H:Hp}{s:Shared}{E:Vs}
theorem Inv.wish(I:Inv X pins σ H s)(E:Vs):Inv (X.wish E) pins σ H s:=⟨I.ok.wish E,I.os,I.bare,I.base,I.loc,I.cell,I.free,I.freeC,I.pin,I.hok,I.len⟩
theorem Inv.unwish(I:Inv (X.wish E) pins σ H s):Inv X pins σ H s:=⟨I.ok.unwish,I.os,I.bare,I.base,I.loc,I.cell,I.free,I.freeC,I.pin,I.hok,I.len⟩
theorem SP.unwish(h:SP (X.wish E) pins D f s'):SP X pins D f s':=by
 cases f with
 |next=>obtain⟨σ',H',I,q⟩:=h;exact⟨σ',H',I.unwish,q⟩
 |brk=>obtain⟨σ',H',I,q⟩:=h;exact⟨σ',H',I.unwish,q⟩
 |cont=>obtain⟨σ',H',I,q⟩:=h;exact⟨σ',H',I.unwish,q⟩
 |ret u=>obtain⟨v,σ',H',I,r,q⟩:=h;exact⟨v,σ',H',I.unwish,r,q⟩
theorem PSs.nox{st:List Stmt}{t:TS}(h:PSs X.nox st t):PSs X st t:=λpins s σ H D I hw=>
 ybk (h pins s σ H D (I.wish _) hw) (λ_ _ q=>q.unwish) λ_ _ z=>False.elim z
end
section
variable{X:Cx}{st:Stmt}{rest:List Stmt}{t u:TS}{e:Expr}{te:TE}{pos:Pos}
def tNext:TS:=λD σ H=>D.nx σ H
def tSeq(t u:TS):TS:=λD σ H=>t { D with nx:=u D } σ H
theorem zz16:PSs X [] tNext:=λ_ _ σ H _ I h=>ycx ⟨σ,H,I,h⟩
theorem zz3(h1:PS X st t)(h2:PSs X rest u):PSs X (st::rest) (tSeq t u):=by
 intro pins s σ H D I h
 refine wpAny_execs_cons (thn (h1 pins s σ H { D with nx:=u D } I h) λf s1 q=>?_)
 cases f with
 |next=>
  obtain⟨σ',H',I',q⟩:=q
  exact h2 pins s1 σ' H' D I' q
 |ret v=>exact q
 |brk=>exact q
 |cont=>exact q
theorem zz5(h1:PS X st t):PSs X [st] t:=by
 intro pins s σ H D I h
 refine wpAny_execs_cons (thn (h1 pins s σ H D I h) λf s1 q=>?_)
 cases f with
 |next=>exact ycx q
 |ret v=>exact q
 |brk=>exact q
 |cont=>exact q
theorem Inv.quiet(I:Inv X pins σ H s):interactive X.env=false:=by simp[interactive,I.ok.kind]
def tDrop(te:TE):TS:=λD σ H=>te σ H λ_ H1=>D.nx σ H1
theorem zz20(he:PE X e te)(hs:swapsWith e none pos.line X.env=pure false:=by rfl):PS X (.Expr e pos) (tDrop te):=by
 intro pins s σ H D I h
 exact wpAny_Expr_any (thn (he pins s σ H _ I h) λv s1 ⟨x,H1,I1,r1,q1⟩=>⟨σ,H1,I1,q1⟩) I.quiet hs
def tRet(te:TE):TS:=λD σ H=>te σ H D.rt
theorem ps_ret(he:PE X e te):PS X (.Return (some e) pos) (tRet te):=by
 intro pins s σ H D I h
 exact wpAny_Return_some (thn (he pins s σ H _ I h) λv s1 ⟨x,H1,I1,r1,q1⟩=>⟨x,σ,H1,I1,r1,q1⟩)
def tRetN:TS:=λD _ H=>D.rt .non H
theorem ps_retN:PS X (.Return none pos) tRetN:=λ_ _ σ H _ I h=>wpAny_Return_none ⟨.non,σ,H,I,rfl,h⟩
def tIfS(c:TT)(t u:TS):TS:=λD σ H=>c σ H λb H1=>if b=true then t D σ H1 else u D σ H1
theorem ps_if(hc:PT X c tc)(ha:PSs X a t)(hb:PSs X b u):PS X (.If c a b pos) (tIfS tc t u):=by
 intro pins s σ H D I h
 refine wpAny_If (thn (hc pins s σ H _ I h) λd s1 ⟨H1,I1,q1⟩=>?_)
 cases d with
 |true=>exact ha pins s1 σ H1 D I1 q1
 |false=>exact hb pins s1 σ H1 D I1 q1
end
noncomputable abbrev TG:=V->St->Hp->(St->Hp->Prop)->Prop
noncomputable abbrev TGs:=List V->St->Hp->(St->Hp->Prop)->Prop
def PG(X:Cx)(target:Expr)(t:TG):Prop:=
 ∀(pins:Lo) (s:Shared) (σ:St) (H:Hp) (v:V) (u:Value) (Q:St->Hp->Prop),Inv X pins σ H s->RelV v u->t v σ H Q->
  wpAny (model X.prog X.w) X.A (assign target X.env u) (λ_ s'=>∃σ' H',Inv X pins σ' H' s'/\Q σ' H') X.xe s
def PGs(X:Cx)(ts:List Expr)(t:TGs):Prop:=
 ∀(pins:Lo) (s:Shared) (σ:St) (H:Hp) (vs:List V) (us:List Value) (Q:St->Hp->Prop),Inv X pins σ H s->Vals vs us->t vs σ H Q->
  wpAny (model X.prog X.w) X.A (assignInOrder ((assignEach ts X.env).map (·.2)) us) (λ_ s'=>∃σ' H',Inv X pins σ' H' s'/\Q σ' H') X.xe s
noncomputable abbrev TIp:=V->V->Hp->VK->Prop
def PIp(X:Cx)(op:Operator)(t:TIp):Prop:=
 ∀(pins:Lo) (s:Shared) (σ:St) (H:Hp) (x y:V) (v u:Value) (Q:VK),Inv X pins σ H s->RelV x v->RelV y u->t x y H Q->
  wpAny (model X.prog X.w) X.A (inplaceOp op v u) (EP X pins σ Q) X.xe s
section
variable{X:Cx}{pos:Pos}
def gName(i:Nat):TG:=λv σ H Q=>Q (σ.set i (some v)) H
theorem zz6(hN:X.N.Nodup)(hi:X.N[i]?=some x)(hx:Loc X.env.scope x)(hf:X.fn x=true\/X.env.scope.names.lookup x=some .local:=by first|exact .inl rfl|exact .inr rfl|assumption):PG X (.Name x pos) (gName i):=by
 intro pins s σ H v u Q I r h
 exact wpAny_assign_Name (store_ok I hN hi hx r (λs' I'=>⟨_,H,I',h⟩) hf)
noncomputable def gNil:TGs:=λvs σ H Q=>vs=[]/\Q σ H
noncomputable def gCons(t:TG)(u:TGs):TGs:=λvs σ H Q=>∃v r,vs=v::r/\t v σ H λσ' H'=>u r σ' H' Q
theorem pgs_nil:PGs X [] gNil:=by
 intro pins s σ H vs us Q I r h
 obtain⟨e,h⟩:=h
 subst e
 cases r
 exact assignInOrder_nil ⟨σ,H,I,h⟩
theorem zz7(h1:PG X e t)(h2:PGs X es u)
  (hs:(assignEach (e::es) X.env).map (·.2)=assign e X.env::(assignEach es X.env).map (·.2):=by rfl):PGs X (e::es) (gCons t u):=by
 intro pins s σ H vs us Q I r h
 obtain⟨v,vr,e1,h⟩:=h
 subst e1
 cases r with
 |cons r rr=>
  rw[hs]
  refine assignInOrder_cons (thn (h1 pins s σ H _ _ _ I r h) λ_ s1 ⟨σ1,H1,I1,q1⟩=>?_)
  exact h2 pins s1 σ1 H1 _ _ Q I1 rr q1
def gTup(K:Wf)(n:Nat)(t:TGs):TG:=λv σ H Q=>∃a xs,v=.ref a/\SqT K H a xs/\xs.length=n/\t xs σ H Q
theorem pg_tup(hc:X.calm=true)(h:PGs X es t)
  (hn:(assignEach es X.env).length=n:=by rfl) (hst:(assignEach es X.env).findIdx? (·.1)=none:=by rfl):PG X (.Tuple es k pos) (gTup X.K n t):=by
 intro pins s σ H v u Q I r hw
 obtain⟨a,xs,e1,hq,hl,hw⟩:=hw
 subst e1
 cases r
 obtain⟨its,rv,ht,hz⟩:=I.tuple hq
 refine assign_Tuple_tuple (I.ok.hd hc) ht (by simp[hn,<-hl,rv.length]) hst λh' hx=>?_
 have I1:Inv X pins σ H { s with heap:=h' }:=I.kept (t':=s.toks) λb o e=>hx b o (yax (yal e)) e
 exact h pins _ σ H xs _ Q I1 (by simpa using rv) hw
def tAsg(te:TE)(g:TG):TS:=λD σ H=>te σ H λx H1=>g x σ H1 D.nx
theorem ps_asg(he:PE X e te)(hg:PG X tg g)(hs:swapsWithSole [tg] e pos.line X.env=pure false:=by rfl)(hw:swappedStores [tg] e X.env=pure none:=by rfl)
  (h1:(assignEach [tg] X.env).map (·.2)=[assign tg X.env]:=by rfl):PS X (.Assign [tg] e pos) (tAsg te g):=by
 intro pins s σ H D I h
 refine wpAny_Assign_stores (thn (he pins s σ H _ I h) λv s1 ⟨x,H1,I1,r1,q1⟩=>?_) hs hw
 rw[h1]
 exact thn (hg pins s1 σ H1 x v _ I1 r1 q1) λ_ s2 q=>q
theorem ps_set(hN:X.N.Nodup)(hi:X.N[i]?=some x)(hx:Loc X.env.scope x)(he:PE X e te)(hs:swapsWith e (some (.Name x pos')) pos.line X.env=pure false:=by rfl)(hf:X.fn x=true\/X.env.scope.names.lookup x=some .local:=by first|exact .inl rfl|exact .inr rfl|assumption):
  PS X (.Assign [.Name x pos'] e pos) (tAsg te (gName i)):=by
 intro pins s σ H D I h
 refine wpAny_Assign_Name (thn (he pins s σ H _ I h) λv s1 ⟨y,H1,I1,r1,q1⟩=>?_) hs
 exact store_ok I1 hN hi hx r1 (λs2 I2=>⟨_,H1,I2,q1⟩) hf
def tAug(i:Nat)(te:TE)(ti:TIp):TS:=λD σ H=>∃x,σ[i]?=some (some x)/\te σ H λy H1=>ti x y H1 λz H2=>D.nx (σ.set i (some z)) H2
theorem ps_aug(hN:X.N.Nodup)(hi:X.N[i]?=some x)(hx:Loc X.env.scope x)(he:PE X e te)(ho:PIp X op ti)(hf:X.fn x=true\/X.env.scope.names.lookup x=some .local:=by first|exact .inl rfl|exact .inr rfl|assumption):
  PS X (.AugAssign (.Name x pos') op e pos) (tAug i te ti):=by
 intro pins s σ H D I h
 obtain⟨v,e1,h⟩:=h
 obtain⟨m,hn,hl⟩:=I.loc
 have vis:Vis X.env.scope x:=by rcases hx with k|k;exact .inl k;exact .inr (.inl k)
 obtain⟨u,r,l⟩:=hl i x v hi e1 vis
 refine wpAny_AugAssign_Name ?_
 have go:wpAny (model X.prog X.w) X.A (eval e X.env) (λw s₂=>wpAny (model X.prog X.w) X.A (inplaceOp op u w) (λr s₃=>wpAny (model X.prog X.w) X.A (storeName X.env x r) (λ_=>SP X pins D .next) X.xe s₃) X.xe s₂) X.xe s:=by
  refine thn (he pins s σ H _ I h) λw s1 ⟨y,H1,I1,r1,q1⟩=>?_
  refine thn (ho pins s1 σ H1 v y u w _ I1 r r1 q1) λz s2 ⟨zv,H2,I2,r2,q2⟩=>?_
  exact store_ok I2 hN hi hx r2 (λs3 I3=>⟨_,H2,I3,q2⟩) hf
 rcases l with ⟨hk,hm⟩|⟨hk,c,hc,hcell⟩
 ·exact wpAny_loadName_local I.ok.kind hk hn hm go
 ·rcases hk with hk|hk
  ·exact wpAny_loadName_cell I.ok.kind hk hc hcell go
  ·rcases hx with k|k
   ·have:X.env.scope.names.lookup x=some .free:=hk
    rw[k]at this;cases this
   ·have:X.env.scope.names.lookup x=some .free:=hk
    rw[k]at this;cases this
noncomputable def ipI(f:Int->Int->Int):TIp:=λx y H Q=>∃i j,x=.int i/\y=.int j/\Q (.int (f i j)) H
theorem ip_add:PIp X .Add (ipI λi j=>i+j):=by
 intro pins s σ H x y v u Q I r1 r2 h
 obtain⟨i,j,e1,e2,q⟩:=h
 subst e1;subst e2
 obtain⟨t,rfl⟩:=r1
 obtain⟨t',rfl⟩:=r2
 exact iadd_int ⟨.int _,H,I.tok _,⟨_,rfl⟩,q⟩
end
section
variable{X:Cx}{pos:Pos}
def tWhile(c:TT)(tb:TS):TS:=λD σ H=>∃W:Nat->St->Hp->Prop,(∃m,W m σ H)/\∀m σ H,W m σ H->
 c σ H λb H1=>if b=true then ∃N:St->Hp->Prop,(∀σ' H',N σ' H'->∃m',m'<m/\W m' σ' H')/\tb { D with nx:=N,ct:=N,bk:=D.nx } σ H1 else D.nx σ H1
theorem ps_while(hp:PassesOwn (model X.prog X.w) X.A X.env X.xe)(hc:PT X c tc)(hb:PSs X body tb):PS X (.While c body [] pos) (tWhile tc tb):=by
 intro pins s σ H D I h
 obtain⟨W,⟨m0,w0⟩,turn⟩:=h
 refine wpAny_While (codeAny_whileLoop (λn s'=>∃σ' H',Inv X pins σ' H' s'/\W n σ' H') ?_ m0 ⟨σ,H,I,w0⟩)
 rintro n s1 ⟨σ1,H1,I1,w1⟩
 refine ych hp (thn (hc pins s1 σ1 H1 _ I1 (turn n σ1 H1 w1)) λb s2 ⟨H2,I2,q2⟩=>?_)
 cases b with
 |true=>
  obtain⟨N,hN,q2⟩:=q2
  rw[if_pos rfl]
  refine ych hp (thn (hb pins s2 σ1 H2 _ I2 q2) λf s3 q3=>?_)
  cases f with
  |next=>
   obtain⟨σ3,H3,I3,n3⟩:=q3
   obtain⟨m',hm,w3⟩:=hN σ3 H3 n3
   exact⟨m',hm,σ3,H3,I3,w3⟩
  |cont=>
   obtain⟨σ3,H3,I3,n3⟩:=q3
   obtain⟨m',hm,w3⟩:=hN σ3 H3 n3
   exact⟨m',hm,σ3,H3,I3,w3⟩
  |brk=>exact q3
  |ret v=>exact q3
 |false=>
  rw[if_neg yaz]
  exact ycx ⟨σ1,H2,I2,q2⟩
end
structure It where
 go:Nat->Hp->Prop
 yld:Nat->Hp->V->Hp->Prop
 stop:Nat->Hp->Prop
def FpOk(X:Cx)(pins:Lo)(H:Hp)(b:Addr):Prop:=
 H b=none/\b≠X.env.locals/\b∉X.fs/\(b∈X.ex\/X.s₀.heap.objs.size<=b)/\(∀x c,X.env.cells.lookup x=some c->c≠b)/\∀p∈X.pn++pins,p.1≠b
theorem Inv.fpOk(I:Inv X pins σ H s)(hb:s.heap.objs.size<=b)(hn:H' b=none):FpOk X pins H' b:=by
 refine⟨hn,Nat.ne_of_gt (yat I.lt hb),I.nofs hb,.inr (yay I.sz hb),λx c e z=>?_,λp hp z=>?_⟩
 ·obtain⟨v,q⟩:=I.cell x c e
  exact absurd (yat q.lt (by rw[z];exact hb)) (ybb _)
 ·exact absurd (yat (yal (I.pin p hp).1) (by rw[z];exact hb)) (ybb _)
structure Turn(P:Program)(w:World)(K:Wf)(tg:Expr)(J:It)(fp:List Addr)(it:Addr)(tn:Nat->Heap->Prop):Prop where
 mem:it∈fp
 obj:∀i h,tn i h->∀b∈fp,∃o,h.get? b=some o/\∀v,o.data≠.cell v
 keep:∀i h h',tn i h->(∀b∈fp,∀o,h.get? b=some o->h'.get? b=some o)->tn i h'
 item:∀(X:Cx),X.prog=P->X.w=w->X.K=K->X.calm=true->∀(i:Nat) (pins:Lo) (s:Shared) (σ:St) (H:Hp) (E:Vs),Inv X pins σ H s->(∀b∈fp,FpOk X pins H b)->tn i s.heap->J.go i H->
  wpAny (model P w) X.A (pyNext (.ref it)) (λr s1=>∃u,r=some u/\
   wpAny (model P w) X.A (letOwnedTupleGo tg (.ref it) u) (λ_ s2=>∃x H',Inv X pins σ H' s2/\RelV x u/\J.yld i H x H'/\tn (i+1) s2.heap/\∀b∈fp,H' b=none) E s1) E s
 done:∀(X:Cx),X.prog=P->X.w=w->X.K=K->X.calm=true->∀(i:Nat) (pins:Lo) (s:Shared) (σ:St) (H:Hp) (E:Vs),Inv X pins σ H s->(∀b∈fp,FpOk X pins H b)->tn i s.heap->J.stop i H->
  wpAny (model P w) X.A (pyNext (.ref it)) (λr s1=>r=none/\Inv X pins σ H s1) E s
 self:∀(A:Around) (i:Nat) (s:Shared) (Q:Vs) (E:Vs),tn i s.heap->Q (.ref it) s->wpAny (model P w) A (pyIter (.ref it)) Q E s
noncomputable abbrev TI:=St->Hp->(It->Hp->Prop)->Prop
def PIE(X:Cx)(pins:Lo)(σ:St)(tg:Expr)(R:It->Hp->Prop)(itv:Value)(s2:Shared):Prop:=
 ∃(it:Addr) (fp:List Addr) (tn:Nat->Heap->Prop) (J:It) (H':Hp),itv=.ref it/\Inv X pins σ H' s2/\Turn X.prog X.w X.K tg J fp it tn/\tn 0 s2.heap/\(∀b∈fp,FpOk X pins H' b)/\R J H'
def PI(X:Cx)(tg iter:Expr)(wi:TI):Prop:=
 ∀(pins:Lo) (s:Shared) (σ:St) (H:Hp) (R:It->Hp->Prop),Inv X pins σ H s->wi σ H R->
  wpAny (model X.prog X.w) X.A (eval iter X.env) (λv s1=>wpAny (model X.prog X.w) X.A (pyIter v) (PIE X pins σ tg R) X.xe s1) X.xe s
theorem go_of(ho:s.heap.get? it=some o)(hc:o.cls=.type n)(hd:o.data=.fields vs)
  (hn:["enumerate", "zip", "dict_itemiterator", "dict_reverseitemiterator", "odict_iterator", "itertools.zip_longest", "itertools.pairwise"].contains n=false) (hQ:Q () s):wpAny M A (letOwnedTupleGo tg (.ref it) u) Q E s:=by
 unfold letOwnedTupleGo
 cases tg<;>first
  |exact yaf hQ
  | (cases u<;>first
    |exact yaf hQ
    | (refine yab (wpAny_load ho ?_)
       rw[hc,hd]
       show wpAny M A (if (["enumerate", "zip", "dict_itemiterator", "dict_reverseitemiterator", "odict_iterator", "itertools.zip_longest", "itertools.pairwise"].contains n&&vs[0]? == some (rawInt _))=true then _ else _) Q E s
       rw[if_neg (by intro h;rw[hn,Bool.false_and]at h;cases h)]
       exact yaf hQ))
noncomputable def Itl(K:Wf)(a:Addr):It:=
 ⟨λi H=>∃xs x,SqL K H a xs/\xs[i]?=some x,λi H x H'=>H'=H/\∀xs,SqL K H a xs->xs[i]?=some x,λi H=>∃xs,SqL K H a xs/\xs.length<=i⟩
noncomputable def Itt(K:Wf)(a:Addr):It:=
 ⟨λi H=>∃xs x,SqT K H a xs/\xs[i]?=some x,λi H x H'=>H'=H/\∀xs,SqT K H a xs->xs[i]?=some x,λi H=>∃xs,SqT K H a xs/\xs.length<=i⟩
noncomputable def Itr(lo:Int)(n:Nat):It:=⟨λi _=>i<n,λi H x H'=>H'=H/\x=.int (lo+i),λi _=>n<=i⟩
theorem turn_list{P:Program}{w:World}{K:Wf}{tg:Expr}(a it:Addr):Turn P w K tg (Itl K a) [it] it (λi h=>h.IsListIter it a i) where
 mem:=by simp
 obj:=λi h st b hb=>by
  have e:b=it:=by simpa using hb
  subst e
  obtain⟨o,e,c,d⟩:=st
  exact⟨o,e,λv z=>by rw[d]at z;cases z⟩
 keep:=λi h h' st k=>st.at λo e=>k it (by simp) o e
 item:=by
  intro X hP hw hK hc i pins s σ H E I hf st hg
  subst hP hw hK
  obtain⟨xs,x,hq,hx⟩:=hg
  obtain⟨its,rv,p,hz⟩:=I.list hq
  obtain⟨u,hu,ru⟩:=rv.get hx
  obtain⟨f0,f1,f2,f3,f4,f5⟩:=hf it (by simp)
  refine wpAny_pyNext_list_item st p.isList (x:=u) (by simpa using hu) λh' st' sb=>?_
  have I1:Inv X pins σ H { s with heap:=h' }:=I.turned (t':=s.toks) (λb o hb e=>(sb.2 b hb).trans e) f0 f1 f3 f4 f5
  obtain⟨o,e,c,d⟩:=id st'
  exact⟨u,rfl,go_of (s:={ s with heap:=h' }) e c d (by decide) ⟨x,H,I1,ru,⟨rfl,λys hy=>by rw[I.list_inj hy hq];exact hx⟩,st',λb hb=>(hf b hb).1⟩⟩
 done:=by
  intro X hP hw hK hc i pins s σ H E I hf st hg
  subst hP hw hK
  obtain⟨xs,hq,hx⟩:=hg
  obtain⟨its,rv,p,hz⟩:=I.list hq
  obtain⟨f0,f1,f2,f3,f4,f5⟩:=hf it (by simp)
  have hl:=rv.length
  exact wpAny_pyNext_list_end (I.ok.hd hc) st p.isList (by simp;omega) λh' eb=>⟨rfl,I.turned (t':=s.toks) (λb o hb e=>eb b o hb e) f0 f1 f3 f4 f5⟩
 self:=λ_ _ _ _ _ st h=>wpAny_pyIter_listiter st h
theorem turn_range{P:Program}{w:World}{K:Wf}{tg:Expr}(it:Addr)(lo:Int)(n:Nat):Turn P w K tg (Itr lo n) [it] it (λi h=>IsRangeIter h it (lo+(i:Nat) * 1) ((n:Int) - (i:Nat)) 1) where
 mem:=by simp
 obj:=λi h st b hb=>by
  have e:b=it:=by simpa using hb
  subst e
  exact⟨_,st,λv z=>by
   have z':Data.fields _=Data.cell v:=z
   cases z'⟩
 keep:=λi h h' st k=>k it (by simp) _ st
 item:=by
  intro X hP hw hK hc i pins s σ H E I hf st hg
  subst hP hw hK
  obtain⟨f0,f1,f2,f3,f4,f5⟩:=hf it (by simp)
  have W:=Walks.range (prog:=X.prog) (w:=X.w) (I.ok.hd hc) it lo 1 n
  refine W.item i s _ _ hg st λv h' tk hv st' kk=>?_
  obtain⟨t,rfl⟩:=hv
  have I1:Inv X pins σ H { s with heap:=h',toks:=tk }:=I.turned (λb o hb e=>kk b o (by simpa using hb) e) f0 f1 f3 f4 f5
  refine⟨_,rfl,go_of (s:={ s with heap:=h',toks:=tk }) (n := "range_iterator") st' rfl rfl (by decide) ⟨.int (lo+i),H,I1,⟨t,?_⟩,⟨rfl,rfl⟩,st',λb hb=>(hf b hb).1⟩⟩
  rw[Int.mul_one]
 done:=by
  intro X hP hw hK hc i pins s σ H E I hf st hg
  subst hP hw hK
  obtain⟨f0,f1,f2,f3,f4,f5⟩:=hf it (by simp)
  exact wpAny_pyNext_range_end (I.ok.hd hc) st (by have:n<=i:=hg;omega) λh' eb=>⟨rfl,I.turned (t':=s.toks) (λb o hb e=>eb b o hb e) f0 f1 f3 f4 f5⟩
 self:=λ_ _ _ _ _ st h=>wpAny_pyIter_rangeiter st h
section
variable{X:Cx}{tg:Expr}
def iList(K:Wf)(tl:TE):TI:=λσ H R=>tl σ H λx H1=>∃a,x=.ref a/\(∃xs,SqL K H1 a xs)/\R (Itl K a) H1
def iTup(K:Wf)(tl:TE):TI:=λσ H R=>tl σ H λx H1=>∃a,x=.ref a/\(∃xs,SqT K H1 a xs)/\R (Itt K a) H1
theorem pi_list(hl:PE X l tl):PI X tg l (iList X.K tl):=by
 intro pins s σ H R I h
 refine thn (hl pins s σ H _ I h) λv s1 ⟨x,H1,I1,r1,q1⟩=>?_
 obtain⟨a,e,⟨xs,hq⟩,q⟩:=q1
 subst e
 cases r1
 obtain⟨its,rv,p,hz⟩:=I1.list hq
 refine wpAny_pyIter_list p.isList ?_
 refine⟨s1.heap.objs.size,[s1.heap.objs.size],_,_,H1,rfl,I1.kept (t':=s1.toks) λb o e=>yad _ e,turn_list a _,⟨_,yaq _ rfl,rfl,rfl⟩,λb hb=>?_,q⟩
 have e:b=s1.heap.objs.size:=by simpa using hb
 subst e
 exact I1.fpOk (yap _) (I1.hok.fresh (yap _))
theorem range_it{pins:Lo}{σ:St}{H:Hp}{s:Shared}{R:It->Hp->Prop}{E:Vs}{lo hi:Int}{t u v:Tok}{tk:Nat}(I:Inv X pins σ H s)(h1 : -(2 ^ 62)<=lo)(h2:lo<2 ^ 62)(h3 : -(2 ^ 62)<=hi)(h4:hi<2 ^ 62)
  (q:R (Itr lo (hi - lo).toNat) H):wpAny (model X.prog X.w) X.A (pyIter (.ref s.heap.objs.size)) (PIE X pins σ tg R) E { s with heap:=s.heap.push { cls:=.type "range", data:=.fields #[.int lo t,.int hi u,.int 1 v] },toks:=tk }:=by
 refine wpAny_pyIter_range (IsRange.new ..) (small_one h1 h2 h3 h4) ?_
 have I1:Inv X pins σ H { s with heap:=s.heap.push { cls:=.type "range", data:=.fields #[.int lo t,.int hi u,.int 1 v] },toks:=tk }:=I.kept λb o e=>yad _ e
 refine⟨(s.heap.push { cls:=.type "range", data:=.fields #[.int lo t,.int hi u,.int 1 v] }).objs.size,[(s.heap.push { cls:=.type "range", data:=.fields #[.int lo t,.int hi u,.int 1 v] }).objs.size],_,_,H,rfl,
  I1.kept (t':=tk) λb o e=>yad _ e,turn_range _ lo (hi - lo).toNat,?_,λb hb=>?_,q⟩
 ·have e1:lo+((0:Nat):Int) * 1=lo:=by simp
  have e2:(((hi - lo).toNat:Nat):Int) - ((0:Nat):Int)=Builtin.Range.rangeSize lo hi 1:=by rw[rangeSize_one];split<;>omega
  show IsRangeIter _ _ (lo+((0:Nat):Int) * 1) ((((hi - lo).toNat:Nat):Int) - ((0:Nat):Int)) 1
  rw[e1,e2]
  exact yaq _ rfl
 ·have e:b=(s.heap.push { cls:=.type "range", data:=.fields #[.int lo t,.int hi u,.int 1 v] }).objs.size:=by simpa using hb
  subst e
  exact I1.fpOk (yap _) (I1.hok.fresh (yap _))
def iRng1(ta:TA):TI:=λσ H R=>ta σ H λvs H1=>∃j:Int,vs=[.int j] /\ -(2 ^ 62)<=j/\j<2 ^ 62/\R (Itr 0 j.toNat) H1
def iRng2(ta:TA):TI:=λσ H R=>ta σ H λvs H1=>∃i j:Int,vs=[.int i,.int j]/\(-(2 ^ 62)<=i/\i<2 ^ 62 /\ -(2 ^ 62)<=j/\j<2 ^ 62)/\R (Itr i (j - i).toNat) H1
theorem pi_range1(hg:Gl X "range")(hm:X.mg "range" = none)(ha:PA X [a] ta)(hs:starEach [a] X.env=[(false,eval a X.env)]:=by rfl):PI X tg (.Call (.Name "range" p) [a] [] pos) (iRng1 ta):=by
 intro pins s σ H R I h
 refine Call_ (ld_blt I hg hm boot_range (PyProof.Rows.callWith_type1 (thn (ha pos pins s σ H _ I h) λus s1 ⟨vs,H1,I1,r1,q1⟩=>?_) hs rfl))
 obtain⟨j,e,q1,q2,q⟩:=q1
 subst e
 cases r1 with
 |cons r rr=>
  cases rr
  obtain⟨t,rfl⟩:=r
  exact call_range_1 (range_it I1 (by omega) (by omega) q1 q2 (by simpa using q))
def tFor(wi:TI)(g:TG)(tb:TS):TS:=λD σ H=>wi σ H λJ H1=>∃W:Nat->Nat->St->Hp->Prop,(∃m,W 0 m σ H1)/\∀i m σ H,W i m σ H->
 (J.stop i H/\D.nx σ H)\/(J.go i H/\∃N:St->Hp->Prop,(∀σ' H',N σ' H'->∃m',m'<m/\W (i+1) m' σ' H')/\∀x H',J.yld i H x H'->g x σ H' λσ2 H2=>tb { D with nx:=N,ct:=N,bk:=D.nx } σ2 H2)
noncomputable def pinsAt(fp:List Addr)(h:Heap):Lo:=fp.filterMap λb=>(h.get? b).map λo=>(b,o)
theorem mem_pinsAt(hb:b∈fp)(e:h.get? b=some o):(b,o)∈pinsAt fp h:=List.mem_filterMap.mpr ⟨b,hb,by rw[e];rfl⟩
theorem of_pinsAt(hp:p∈pinsAt fp h):p.1∈fp/\h.get? p.1=some p.2:=by
 obtain⟨b,hb,e⟩:=List.mem_filterMap.mp hp
 cases q:h.get? b with
 |none=>rw[q]at e;cases e
 |some o=>
  rw[q]at e
  have e':(b,o)=p:=Option.some.inj e
  subst e'
  exact⟨hb,q⟩
theorem Inv.pinned(I:Inv X pins σ H s)(hf:∀b∈fp,FpOk X pins H b)(ho:∀b∈fp,∃o,s.heap.get? b=some o/\∀v,o.data≠.cell v):Inv X (pins++pinsAt fp s.heap) σ H s:=
 I.pins_of λp hp=>(yai.mp hp).elim (λz=>I.pin p (yaj _ z)) λz=>by
  obtain⟨hb,e⟩:=of_pinsAt z
  obtain⟨f0,f1,f2,_⟩:=hf p.1 hb
  obtain⟨o,e',d⟩:=ho p.1 hb
  rw[e]at e';cases e'
  exact⟨e,f0,f1,f2,d⟩
theorem Inv.unpinned(I:Inv X (pins++pl) σ H s):Inv X pins σ H s:=I.pins_of λp hp=>I.pin p (yaj _ (yak _ hp))
theorem ps_for(hp:PassesOwn (model X.prog X.w) X.A X.env X.xe)(hc:X.calm=true)(hi:PI X tg iter wi)(hg:PG X tg g)(hb:PSs X body tb)
  (hs:∀x,foldedSetIterable iter X.env x=pure x:=by intro _;rfl):PS X (.For tg iter body [] pos) (tFor wi g tb):=by
 intro pins s σ H D I h
 refine wpAny_For (thn (hi pins s σ H _ I h) λv s1 h1=>thn h1 λitv s2 h2=>?_) hs
 obtain⟨it,fp,tn,J,H2,e,I2,T,st2,f2,W,⟨m0,w0⟩,turn⟩:=h2
 subst e
 have stat:∀{H':Hp},(∀b∈fp,H' b=none)->∀b∈fp,FpOk X pins H' b:=λhn b hb=>⟨hn b hb,(f2 b hb).2⟩
 refine codeAny_forLoop_any (λn s'=>∃i σ' H',Inv X pins σ' H' s'/\tn i s'.heap/\(∀b∈fp,H' b=none)/\W i n σ' H') ?_ m0 ⟨0,σ,H2,I2,st2,λb hb=>(f2 b hb).1,w0⟩
 rintro n s3 ⟨i,σ3,H3,I3,st3,fr3,w3⟩
 rcases turn i n σ3 H3 w3 with ⟨stop,qn⟩|⟨go,N,hN,step⟩
 ·refine ych hp (thn (T.done X rfl rfl rfl hc i pins s3 σ3 H3 X.xe I3 (stat fr3) st3 stop) λr s4 ⟨hr,I4⟩=>?_)
  subst hr
  exact ycx ⟨σ3,H3,I4,qn⟩
 ·refine ych hp (thn (T.item X rfl rfl rfl hc i pins s3 σ3 H3 X.xe I3 (stat fr3) st3 go) λr s4 ⟨u,hr,h4⟩=>?_)
  subst hr
  refine ych hp (thn h4 λ_ s5 ⟨x,H5,I5,r5,y5,st5,fr5⟩=>?_)
  have I5':=I5.pinned (stat fr5) (T.obj _ _ st5)
  refine ych hp (thn (hg _ s5 σ3 H5 x u _ I5' r5 (step x H5 y5)) λ_ s6 ⟨σ6,H6,I6,q6⟩=>?_)
  refine ych hp (thn (hb _ s6 σ6 H6 _ I6 q6) λf s7 q7=>?_)
  have again:∀{σ7:St}{H7:Hp},Inv X (pins++pinsAt fp s5.heap) σ7 H7 s7->N σ7 H7->∃m,m<n/\∃i σ' H',Inv X pins σ' H' s7/\tn i s7.heap/\(∀b∈fp,H' b=none)/\W i m σ' H':=λ{σ7 H7} I7 n7=>by
   obtain⟨m',hm,w7⟩:=hN σ7 H7 n7
   refine⟨m',hm,i+1,σ7,H7,I7.unpinned,T.keep _ _ _ st5 λb hb o e=>(I7.pin (b,o) (yaj _ (yaj _ (mem_pinsAt hb e)))).1,λb hb=>?_,w7⟩
   obtain⟨o,e,d⟩:=T.obj _ _ st5 b hb
   exact(I7.pin (b,o) (yaj _ (yaj _ (mem_pinsAt hb e)))).2.1
  cases f with
  |next=>obtain⟨σ7,H7,I7,n7⟩:=q7;exact again I7 n7
  |cont=>obtain⟨σ7,H7,I7,n7⟩:=q7;exact again I7 n7
  |brk=>obtain⟨σ7,H7,I7,q7⟩:=q7;exact⟨σ7,H7,I7.unpinned,q7⟩
  |ret v=>obtain⟨x7,σ7,H7,I7,r7,q7⟩:=q7;exact⟨x7,σ7,H7,I7.unpinned,r7,q7⟩
end
theorem for_list{K:Wf}{a:Addr}{xs:List V}{g:TG}{tb:TS}{D:Ends}{σ:St}{H:Hp}(Pv:Nat->St->Hp->Prop)(h0:Pv 0 σ H)(hl:∀i σ H,i<=xs.length->Pv i σ H->SqL K H a xs)
  (hs:∀i x σ H,xs[i]?=some x->Pv i σ H->g x σ H λσ2 H2=>tb { D with nx:=Pv (i+1),ct:=Pv (i+1),bk:=D.nx } σ2 H2) (hd:∀σ H,Pv xs.length σ H->D.nx σ H):
  ∃W:Nat->Nat->St->Hp->Prop,(∃m,W 0 m σ H)/\∀i m σ H,W i m σ H->
   ((Itl K a).stop i H/\D.nx σ H)\/((Itl K a).go i H/\∃N:St->Hp->Prop,(∀σ' H',N σ' H'->∃m',m'<m/\W (i+1) m' σ' H')/\∀x H',(Itl K a).yld i H x H'->g x σ H' λσ2 H2=>tb { D with nx:=N,ct:=N,bk:=D.nx } σ2 H2):=by
 refine⟨λi m σ H=>m=xs.length - i/\i<=xs.length/\Pv i σ H,⟨xs.length,by simp,Nat.zero_le _,h0⟩,?_⟩
 rintro i m σ H ⟨rfl,hi,p⟩
 have q:=hl i σ H hi p
 by_cases hlt:i<xs.length
 ·refine .inr ⟨⟨xs,xs[i],q,by simp[hlt]⟩,Pv (i+1),λσ' H' p'=>⟨xs.length - (i+1),by omega,rfl,hlt,p'⟩,λx H' y=>?_⟩
  obtain⟨e,y⟩:=y
  subst e
  exact hs i x σ _ (y xs q) p
 ·have e:i=xs.length:=by omega
  subst e
  exact .inl ⟨⟨xs,q,yap _⟩,hd σ H p⟩
theorem for_range{lo:Int}{n:Nat}{g:TG}{tb:TS}{D:Ends}{σ:St}{H:Hp}(Pv:Nat->St->Hp->Prop)(h0:Pv 0 σ H)
  (hs:∀i σ H,i<n->Pv i σ H->g (.int (lo+i)) σ H λσ2 H2=>tb { D with nx:=Pv (i+1),ct:=Pv (i+1),bk:=D.nx } σ2 H2) (hd:∀σ H,Pv n σ H->D.nx σ H):
  ∃W:Nat->Nat->St->Hp->Prop,(∃m,W 0 m σ H)/\∀i m σ H,W i m σ H->
   ((Itr lo n).stop i H/\D.nx σ H)\/((Itr lo n).go i H/\∃N:St->Hp->Prop,(∀σ' H',N σ' H'->∃m',m'<m/\W (i+1) m' σ' H')/\∀x H',(Itr lo n).yld i H x H'->g x σ H' λσ2 H2=>tb { D with nx:=N,ct:=N,bk:=D.nx } σ2 H2):=by
 refine⟨λi m σ H=>m=n - i/\i<=n/\Pv i σ H,⟨n,by simp,Nat.zero_le _,h0⟩,?_⟩
 rintro i m σ H ⟨rfl,hi,p⟩
 by_cases hlt:i<n
 ·refine .inr ⟨hlt,Pv (i+1),λσ' H' p'=>⟨n - (i+1),by omega,rfl,hlt,p'⟩,λx H' y=>?_⟩
  obtain⟨e,y⟩:=y
  subst e y
  exact hs i σ _ hlt p
 ·have e:i=n:=by omega
  subst e
  exact .inl ⟨yap _,hd σ H p⟩
noncomputable abbrev R2:=V->V->Hp->VK->Prop
def OpR(X:Cx)(f:Value->Value->Sem Value)(r:R2):Prop:=
 ∀(pins:Lo) (s:Shared) (σ:St) (H:Hp) (x y:V) (v u:Value) (Q:VK),Inv X pins σ H s->RelV x v->RelV y u->r x y H Q->
  wpAny (model X.prog X.w) X.A (f v u) (EP X pins σ Q) X.xe s
def UnR(X:Cx)(f:Value->Sem Value)(r:V->Hp->VK->Prop):Prop:=
 ∀(pins:Lo) (s:Shared) (σ:St) (H:Hp) (x:V) (v:Value) (Q:VK),Inv X pins σ H s->RelV x v->r x H Q->
  wpAny (model X.prog X.w) X.A (f v) (EP X pins σ Q) X.xe s
def CallR(X:Cx)(f:Value)(r:List V->Hp->VK->Prop):Prop:=
 ∀(pins:Lo) (s:Shared) (σ:St) (H:Hp) (xs:List V) (us:List Value) (Q:VK),Inv X pins σ H s->Vals xs us->r xs H Q->
  wpAny (model X.prog X.w) X.A (call f us) (EP X pins σ Q) X.xe s
def TruR(X:Cx)(r:V->Hp->(Bool->Hp->Prop)->Prop):Prop:=
 ∀(pins:Lo) (s:Shared) (σ:St) (H:Hp) (x:V) (v:Value) (Q:Bool->Hp->Prop),Inv X pins σ H s->RelV x v->r x H Q->
  wpAny (model X.prog X.w) X.A (truthy v) (TP X pins σ Q) X.xe s
def tOp(r:R2)(ta tb:TE):TE:=λσ H Q=>ta σ H λx H1=>tb σ H1 λy H2=>r x y H2 Q
def tUn(r:V->Hp->VK->Prop)(ta:TE):TE:=λσ H Q=>ta σ H λx H1=>r x H1 Q
def rI(C:Int->Int->Prop)(g:Int->Int->V):R2:=λx y H Q=>∃i j,x=.int i/\y=.int j/\C i j/\Q (g i j) H
def rI0(g:Int->Int->V):R2:=λx y H Q=>∃i j,x=.int i/\y=.int j/\Q (g i j) H
noncomputable def rU(g:Int->V):V->Hp->VK->Prop:=λx H Q=>∃i,x=.int i/\Q (g i) H
section
variable{X:Cx}{a b c:Expr}{ta tb tc:TE}{pos:Pos}
theorem binT(ha:PE X a ta)(hb:PE X b tb){pins:Lo}{s:Shared}{σ:St}{H:Hp}{R:V->V->Hp->Prop}(I:Inv X pins σ H s)
  (h:ta σ H λx H1=>tb σ H1 λy H2=>R x y H2) {Q:Vs}{f:Value->Value->Sem Value}
  (hf:∀v u s2 x y H2,Inv X pins σ H2 s2->RelV x v->RelV y u->R x y H2->wpAny (model X.prog X.w) X.A (f v u) Q X.xe s2):
  wpAny (model X.prog X.w) X.A (eval a X.env) (λv s₁=>wpAny (model X.prog X.w) X.A (eval b X.env) (λu s₂=>wpAny (model X.prog X.w) X.A (f v u) Q X.xe s₂) X.xe s₁) X.xe s:=by
 refine thn (ha pins s σ H _ I h) λv s1 ⟨x,H1,I1,r1,q1⟩=>?_
 refine thn (hb pins s1 σ H1 _ I1 q1) λu s2 ⟨y,H2,I2,r2,q2⟩=>?_
 exact hf v u s2 x y H2 I2 r1 r2 q2
theorem pe_op(ho:OpR X (binaryOp op) r)(ha:PE X a ta)(hb:PE X b tb):PE X (.BinOp a op b pos) (tOp r ta tb):=by
 intro pins s σ H Q I h
 exact wpAny_BinOp (binT ha hb I h λv u s2 x y H2 I2 rx ry q=>ho pins s2 σ H2 x y v u Q I2 rx ry q)
theorem pe_un(ho:UnR X (unaryOp op) r)(ha:PE X a ta):PE X (.UnaryOp op a pos) (tUn r ta):=by
 intro pins s σ H Q I h
 exact UnaryOp_ (thn (ha pins s σ H _ I h) λv s1 ⟨x,H1,I1,r1,q1⟩=>ho pins s1 σ H1 x v Q I1 r1 q1)
theorem opI{f:Value->Value->Sem Value}{C:Int->Int->Prop}{g:Int->Int->Int}
  (rule:∀(i j:Int) (t u:Tok) (s:Shared) (Q:Vs) (E:Vs),C i j->Q (.int (g i j) s.toks) { s with toks:=s.toks+1 }->wpAny (model X.prog X.w) X.A (f (.int i t) (.int j u)) Q E s):
  OpR X f (rI C λi j=>.int (g i j)):=by
 intro pins s σ H x y v u Q I rx ry h
 obtain⟨i,j,rfl,rfl,hc,q⟩:=h
 obtain⟨t,rfl⟩:=rx
 obtain⟨t',rfl⟩:=ry
 exact rule i j t t' s _ _ hc ⟨.int (g i j),H,I.tok _,⟨_,rfl⟩,q⟩
theorem opI0{f:Value->Value->Sem Value}{g:Int->Int->Int}
  (rule:∀(i j:Int) (t u:Tok) (s:Shared) (Q:Vs) (E:Vs),Q (.int (g i j) s.toks) { s with toks:=s.toks+1 }->wpAny (model X.prog X.w) X.A (f (.int i t) (.int j u)) Q E s):
  OpR X f (rI0 λi j=>.int (g i j)):=by
 intro pins s σ H x y v u Q I rx ry h
 obtain⟨i,j,rfl,rfl,q⟩:=h
 obtain⟨t,rfl⟩:=rx
 obtain⟨t',rfl⟩:=ry
 exact rule i j t t' s _ _ ⟨.int (g i j),H,I.tok _,⟨_,rfl⟩,q⟩
theorem opB0{f:Value->Value->Sem Value}{g:Int->Int->Bool}
  (rule:∀(i j:Int) (t u:Tok) (s:Shared) (Q:Vs) (E:Vs),Q (.bool (g i j)) s->wpAny (model X.prog X.w) X.A (f (.int i t) (.int j u)) Q E s):
  OpR X f (rI0 λi j=>.bl (g i j)):=by
 intro pins s σ H x y v u Q I rx ry h
 obtain⟨i,j,rfl,rfl,q⟩:=h
 obtain⟨t,rfl⟩:=rx
 obtain⟨t',rfl⟩:=ry
 exact rule i j t t' s _ _ ⟨.bl (g i j),H,I,rfl,q⟩
def CDiv(i j:Int):Prop:=0<j/\j<1073741824
def CMul(i j:Int):Prop:=(-(2 ^ 64)<i/\i<2 ^ 64)\/(-(2 ^ 64)<j/\j<2 ^ 64)
theorem CMul.ok(h:CMul i j):IntMulOk i j:=by
 rcases h with ⟨h1,h2⟩|⟨h1,h2⟩
 ·exact .of_left (intBits_le_64 h1 h2)
 ·exact .of_right (intBits_le_64 h1 h2)
theorem op_add:OpR X (binaryOp .Add) (rI0 λi j=>.int (i+j)):=opI0 λ_ _ _ _ _ _ _ q=>add_int q
theorem op_sub:OpR X (binaryOp .Sub) (rI0 λi j=>.int (i - j)):=opI0 λ_ _ _ _ _ _ _ q=>sub_int q
theorem op_mul:OpR X (binaryOp .Mult) (rI CMul λi j=>.int (i * j)):=opI λ_ _ _ _ _ _ _ hc q=>mul_int q hc.ok
theorem zz22:OpR X (binaryOp .FloorDiv) (rI CDiv λi j=>.int (i / j)):=opI λi j _ _ _ _ _ hc q=>by
 have h1:(0:Int)<j:=hc.1
 have h2:j<1073741824:=hc.2
 exact floordiv_int (by omega) (by rw[Int.fdiv_eq_ediv_of_nonneg i (by omega)];exact q) (.inl (PyProof.noPylong_small (by omega)))
theorem op_mod:OpR X (binaryOp .Mod) (rI (λ_ j=>0<j) λi j=>.int (i % j)):=opI λi j _ _ _ _ _ hc q=>by
 have h1:(0:Int)<j:=hc
 exact mod_int' (by omega) (by rw[Int.fmod_eq_emod_of_nonneg i (by omega)];exact q)
theorem unI{f:Value->Sem Value}{g:Int->Int}
  (rule:∀(i:Int) (t:Tok) (s:Shared) (Q:Vs) (E:Vs),Q (.int (g i) s.toks) { s with toks:=s.toks+1 }->wpAny (model X.prog X.w) X.A (f (.int i t)) Q E s):
  UnR X f (rU λi=>.int (g i)):=by
 intro pins s σ H x v Q I rx h
 obtain⟨i,rfl,q⟩:=h
 obtain⟨t,rfl⟩:=rx
 exact rule i t s _ _ ⟨.int (g i),H,I.tok _,⟨_,rfl⟩,q⟩
theorem un_neg:UnR X (unaryOp .USub) (rU λi=>.int (-i)):=unI λ_ _ _ _ _ q=>neg_int q
end
noncomputable def scal:V->V->Bool
 |.non,.non=>true|.non,.int _=>true|.int _,.non=>true|.non,.bl _=>true|.bl _,.non=>true|.non,.str _=>true|.str _,.non=>true
 |.int _,.int _=>true|.bl _,.bl _=>true|.str _,.str _=>true|.byt _,.byt _=>true
 |.int _,.str _=>true|.str _,.int _=>true|.bl _,.str _=>true|.str _,.bl _=>true
 |_,_=>false
theorem sc0:scal .non .non=true:=rfl
theorem sc1:scal .non (.int i)=true:=rfl
theorem sc2:scal (.int i) .non=true:=rfl
theorem sc3:scal .non (.bl i)=true:=rfl
theorem sc4:scal (.bl i) .non=true:=rfl
theorem sc5:scal .non (.str i)=true:=rfl
theorem sc6:scal (.str i) .non=true:=rfl
theorem sc7:scal (.int i) (.int j)=true:=rfl
theorem sc8:scal (.bl i) (.bl j)=true:=rfl
theorem sc9:scal (.str i) (.str j)=true:=rfl
theorem sc10:scal (.int i) (.str j)=true:=rfl
theorem sc11:scal (.str i) (.int j)=true:=rfl
theorem sc12:scal (.bl i) (.str j)=true:=rfl
theorem sc13:scal (.str i) (.bl j)=true:=rfl
def rEq:R2:=λx y H Q=>scal x y=true/\Q (.bl (decide (x=y))) H
def rNe:R2:=λx y H Q=>scal x y=true/\Q (.bl (!decide (x=y))) H
theorem dec_int:decide (V.int i=V.int j)=(i == j):=by
 rw[ycb]
 simp
theorem dec_bl:decide (V.bl i=V.bl j)=(i == j):=by
 rw[ycb]
 simp
theorem dec_str:decide (V.str i=V.str j)=(i == j):=by
 rw[ycb]
 simp
theorem dec_byt:decide (V.byt i=V.byt j)=(i.toList == j.toList):=by
 rw[ycb]
 cases i
 cases j
 simp
section
variable{X:Cx}{a b c:Expr}{ta tb tc:TE}{pos:Pos}
theorem fin_bl(I:Inv X pins σ H s)(q:Q (.bl k) H)(e:k=k'):EP X pins σ Q (.bool k') s:=by
 subst e
 exact⟨.bl k,H,I,rfl,q⟩
theorem op_eq:OpR X (compareOp .Eq) rEq:=by
 intro pins s σ H x y v u Q I rx ry h
 obtain⟨hs,q⟩:=h
 cases x with
 |non=>
  cases rx
  cases y with
  |non=>cases ry;exact PySem.EqNone.eq_none_none (fin_bl I q (by simp))
  |bl j=>cases ry;exact PySem.EqNone.eq_none_bool (fin_bl I q (by simp))
  |int j=>obtain⟨t',rfl⟩:=ry;exact PySem.EqNone.eq_none_int (fin_bl I q (by simp))
  |str j=>obtain⟨t',rfl⟩:=ry;exact PySem.EqNone.eq_none_str (fin_bl I q (by simp))
  |_=>exact absurd (show false=true from hs) yaz
 |bl i=>
  cases rx
  cases y with
  |non=>cases ry;exact PySem.EqNone.eq_bool_none (fin_bl I q (by simp))
  |bl j=>cases ry;exact eq_bool (fin_bl I q dec_bl)
  |str j=>obtain⟨t',rfl⟩:=ry;exact PySem.EqMixed.eq_bool_str (fin_bl I q (by simp))
  |_=>exact absurd (show false=true from hs) yaz
 |int i=>
  obtain⟨t,rfl⟩:=rx
  cases y with
  |non=>cases ry;exact PySem.EqNone.eq_int_none (fin_bl I q (by simp))
  |int j=>obtain⟨t',rfl⟩:=ry;exact eq_int (fin_bl I q dec_int)
  |str j=>obtain⟨t',rfl⟩:=ry;exact PySem.EqMixed.eq_int_str (fin_bl I q (by simp))
  |_=>exact absurd (show false=true from hs) yaz
 |str i=>
  obtain⟨t,rfl⟩:=rx
  cases y with
  |non=>cases ry;exact PySem.EqNone.eq_str_none (fin_bl I q (by simp))
  |bl j=>cases ry;exact PySem.EqMixed.eq_str_bool (fin_bl I q (by simp))
  |int j=>obtain⟨t',rfl⟩:=ry;exact PySem.EqMixed.eq_str_int (fin_bl I q (by simp))
  |str j=>obtain⟨t',rfl⟩:=ry;exact eq_str (fin_bl I q dec_str)
  |_=>exact absurd (show false=true from hs) yaz
 |byt i=>
  obtain⟨t,rfl⟩:=rx
  cases y with
  |byt j=>obtain⟨t',rfl⟩:=ry;exact PySem.W.eq_bytes (fin_bl I q dec_byt)
  |_=>exact absurd (show false=true from hs) yaz
 |_=>cases y<;>exact absurd (show false=true from hs) yaz
theorem op_ne:OpR X (compareOp .NotEq) rNe:=by
 intro pins s σ H x y v u Q I rx ry h
 obtain⟨hs,q⟩:=h
 cases x with
 |non=>
  cases rx
  cases y with
  |non=>cases ry;exact PySem.EqNone.ne_none_none (fin_bl I q (by simp))
  |bl j=>cases ry;exact PySem.EqNone.ne_none_bool (fin_bl I q (by simp))
  |int j=>obtain⟨t',rfl⟩:=ry;exact PySem.EqNone.ne_none_int (fin_bl I q (by simp))
  |str j=>obtain⟨t',rfl⟩:=ry;exact PySem.EqNone.ne_none_str (fin_bl I q (by simp))
  |_=>exact absurd (show false=true from hs) yaz
 |bl i=>
  cases rx
  cases y with
  |non=>cases ry;exact PySem.EqNone.ne_bool_none (fin_bl I q (by simp))
  |bl j=>cases ry;exact ne_bool (fin_bl I q (congrArg not dec_bl))
  |str j=>obtain⟨t',rfl⟩:=ry;exact PySem.EqMixed.ne_bool_str (fin_bl I q (by simp))
  |_=>exact absurd (show false=true from hs) yaz
 |int i=>
  obtain⟨t,rfl⟩:=rx
  cases y with
  |non=>cases ry;exact PySem.EqNone.ne_int_none (fin_bl I q (by simp))
  |int j=>obtain⟨t',rfl⟩:=ry;exact ne_int (fin_bl I q (congrArg not dec_int))
  |str j=>obtain⟨t',rfl⟩:=ry;exact PySem.EqMixed.ne_int_str (fin_bl I q (by simp))
  |_=>exact absurd (show false=true from hs) yaz
 |str i=>
  obtain⟨t,rfl⟩:=rx
  cases y with
  |non=>cases ry;exact PySem.EqNone.ne_str_none (fin_bl I q (by simp))
  |bl j=>cases ry;exact PySem.EqMixed.ne_str_bool (fin_bl I q (by simp))
  |int j=>obtain⟨t',rfl⟩:=ry;exact PySem.EqMixed.ne_str_int (fin_bl I q (by simp))
  |str j=>obtain⟨t',rfl⟩:=ry;exact ne_str (fin_bl I q (congrArg not dec_str))
  |_=>exact absurd (show false=true from hs) yaz
 |byt i=>
  obtain⟨t,rfl⟩:=rx
  cases y with
  |byt j=>obtain⟨t',rfl⟩:=ry;exact PySem.W.ne_bytes (fin_bl I q (congrArg not dec_byt))
  |_=>exact absurd (show false=true from hs) yaz
 |_=>cases y<;>exact absurd (show false=true from hs) yaz
theorem op_lt:OpR X (compareOp .Lt) (rI0 λi j=>.bl (decide (i<j))):=opB0 λ_ _ _ _ _ _ _ q=>lt_int q
theorem op_gt:OpR X (compareOp .Gt) (rI0 λi j=>.bl (decide (j<i))):=opB0 λ_ _ _ _ _ _ _ q=>gt_int q
theorem op_isN:OpR X (compareOp .Is) (λx y H Q=>y=.non/\Q (.bl (decide (x=.non))) H):=by
 intro pins s σ H x y v u Q I rx ry h
 obtain⟨rfl,q⟩:=h
 cases ry
 refine is_none_gen (fin_bl I q ?_)
 cases x<;>first
  | (cases rx;rfl)
  | (obtain⟨t,rfl⟩:=rx;rfl)
theorem op_notN:OpR X (compareOp .IsNot) (λx y H Q=>y=.non/\Q (.bl (!decide (x=.non))) H):=by
 intro pins s σ H x y v u Q I rx ry h
 obtain⟨rfl,q⟩:=h
 cases ry
 refine isnot_none_gen (fin_bl I q ?_)
 cases x<;>first
  | (cases rx;rfl)
  | (obtain⟨t,rfl⟩:=rx;rfl)
theorem nomark(b:Expr){op:CmpOp}(h:op≠.In:=by decide)(h2:op≠.NotIn:=by decide):behindInMarks op b=false:=by
 have e1:(op == CmpOp.In)=false:=by cases op<;>first|rfl|exact absurd rfl h
 have e2:(op == CmpOp.NotIn)=false:=by cases op<;>first|rfl|exact absurd rfl h2
 cases b<;>simp[behindInMarks,e1,e2]
theorem pe_cmpR(ho:OpR X (compareOp op) r)(ha:PE X a ta)(hb:PE X b tb)(hm:behindInMarks op b=false):PE X (.Compare a [op] [b] pos) (tOp r ta tb):=by
 intro pins s σ H Q I h
 exact wpAny_Compare1 (binT ha hb I h λv u s2 x y H2 I2 rx ry q=>ho pins s2 σ H2 x y v u Q I2 rx ry q) hm
def tTest(t:TE):TT:=λσ H Q=>t σ H λx H'=>∃k,x=.bl k/\Q k H'
theorem zz15(ho:OpR X (compareOp op) r)(ha:PE X a ta)(hb:PE X b tb)(hm:behindInMarks op b=false):PT X (.Compare a [op] [b] pos) (tTest (tOp r ta tb)):=by
 intro pins s σ H Q I h
 refine wpAny_isTrue_Compare1 (thn (ha pins s σ H _ I h) λv s1 ⟨x,H1,I1,r1,q1⟩=>thn (hb pins s1 σ H1 _ I1 q1) λu s2 ⟨y,H2,I2,r2,q2⟩=>
  thn (ho pins s2 σ H2 x y v u _ I2 r1 r2 q2) λc s3 ⟨z,H3,I3,r3,k,e,q3⟩=>?_) hm
 subst e
 cases r3
 exact yck ⟨H3,I3,q3⟩
def tChain(r r':R2)(ta tb tc:TE):TE:=λσ H Q=>ta σ H λx H1=>tb σ H1 λy H2=>r x y H2 λz H3=>∃k,z=.bl k/\
 (if k=true then tc σ H3 λw' H4=>r' y w' H4 Q else Q (.bl false) H3)
def TruV(K:Wf)(x:V)(H:Hp)(k:Bool):Prop:=
 match x with
 |.non=>k=false
 |.bl b=>k=b
 |.int i=>k=(i != 0)
 |.str y=>y.length<=sizeLine/\k=((y.length:Int) != 0)
 |.byt y=>y.size<=sizeLine/\k=((y.size:Int) != 0)
 |.ref p=>(∃xs,SqL K H p xs/\k = !xs.isEmpty)\/(∃xs,SqT K H p xs/\k = !xs.isEmpty)\/∃kvs,H p=some (.dK kvs)/\k = !kvs.isEmpty
 |_=>False
theorem isEmpty_kv{κ:Type}{kvs:List (κ×V)}{vs:List (κ×Value)}(r:KV kvs vs):(!vs.isEmpty) = !kvs.isEmpty:=by
 cases r<;>rfl
theorem isEmpty_of(r:Vals xs its):(!its.toArray.isEmpty) = !xs.isEmpty:=by
 cases r<;>simp
theorem line63:(sizeLine:Nat)<2 ^ 63:=by rw[sizeLine_eq];decide
theorem tru_ok:TruR X (λx H Q=>∃k,TruV X.K x H k/\Q k H):=by
 intro pins s σ H x v Q I rx h
 obtain⟨k,e,q⟩:=h
 have hl:=line63
 have hs:sizeLine=16777216:=sizeLine_eq
 cases x with
 |non=>
  cases rx
  have e':k=false:=e
  subst e'
  exact truthy_none ⟨H,I,q⟩
 |bl b=>
  cases rx
  have e':k=b:=e
  subst e'
  exact yck ⟨H,I,q⟩
 |int i=>
  obtain⟨t,rfl⟩:=rx
  have e':k=(i != 0):=e
  subst e'
  exact PySem.P.truthy_int ⟨H,I,q⟩
 |str y=>
  obtain⟨t,rfl⟩:=rx
  obtain⟨hy,e'⟩:y.length<=sizeLine/\k=((y.length:Int) != 0):=e
  subst e'
  exact PySem.P.truthy_str (by omega) ⟨H,I.tok _,q⟩
 |byt y=>
  obtain⟨t,rfl⟩:=rx
  obtain⟨hy,e'⟩:y.size<=sizeLine/\k=((y.size:Int) != 0):=e
  subst e'
  exact PySem.W.truthy_bytes (by omega) ⟨H,I.tok _,q⟩
 |ref p=>
  cases rx
  have e':(∃xs,SqL X.K H p xs/\k = !xs.isEmpty)\/(∃xs,SqT X.K H p xs/\k = !xs.isEmpty)\/∃kvs,H p=some (.dK kvs)/\k = !kvs.isEmpty:=e
  rcases e' with ⟨xs,hx,e'⟩|⟨xs,hx,e'⟩|⟨kvs,hx,e'⟩
  ·subst e'
   obtain⟨its,r,pl,hz⟩:=I.list hx
   have hlen:=r.length
   exact wpAny_truthy_list pl.isList (by simp only[List.size_toArray];omega) ⟨H,I.tok _,by rw[isEmpty_of r];exact q⟩
  ·subst e'
   obtain⟨its,r,pl,hz⟩:=I.tuple hx
   have hlen:=r.length
   exact truthy_tuple pl (by simp only[List.size_toArray];omega) ⟨H,I.tok _,by rw[isEmpty_of r];exact q⟩
  ·subst e'
   obtain⟨hz,hS,vs,r,m⟩:kvs.length<=sizeLine/\(p == sysModules)=false/\∃vs,KV kvs vs/\s.heap.DictOf (mixKind X.prog X.w) p vs:=I.hok p _ hx
   have hlen:kvs.length=vs.length:=Paired.length r
   exact wpAny_truthy_dict hS m (by omega) ⟨H,I.tok _,by rw[isEmpty_kv r];exact q⟩
 |_=>exact(show False from e).elim
theorem pt_truth(ha:PE X a ta)(he:∀whole,isTrue a X.env whole=(do let v <-whole;standAt a.pos;holding [v] (truthy v))):
  PT X a (λσ H Q=>ta σ H λx H'=>∃k,TruV X.K x H' k/\Q k H'):=by
 intro pins s σ H Q I h
 exact isTrue_plain (thn (ha pins s σ H _ I h) λv s1 ⟨x,H1,I1,r1,q1⟩=>tru_ok pins s1 σ H1 x v Q I1 r1 q1) (he _)
theorem op_add_str:OpR X (binaryOp .Add) (λx y H Q=>∃i j,x=.str i/\y=.str j/\i.length+j.length<=sizeLine/\Q (.str (i++j)) H):=by
 intro pins s σ H x y v u Q I rx ry h
 obtain⟨i,j,rfl,rfl,hz,q⟩:=h
 obtain⟨t,rfl⟩:=rx
 obtain⟨t',rfl⟩:=ry
 exact add_str (λt' tk=>⟨.str (i++j),H,I.tok _,⟨_,rfl⟩,q⟩) hz
theorem vals1(r:Vals [x] us):∃u,us=[u]/\RelV x u:=by
 cases r with
 |cons r1 r2=>cases r2;exact⟨_,rfl,r1⟩
theorem vals2(r:Vals [x,y] us):∃u w',us=[u,w']/\RelV x u/\RelV y w':=by
 cases r with
 |cons r1 r2=>
  cases r2 with
  |cons r3 r4=>cases r4;exact⟨_,_,rfl,r1,r3⟩
theorem call_int1:CallR X (.type "int") (λxs H Q=>(∃i,xs=[.int i]/\Q (.int i) H)\/∃k,xs=[.bl k]/\Q (.int (if k then 1 else 0)) H):=by
 intro pins s σ H xs us Q I r h
 rcases h with ⟨i,rfl,q⟩|⟨k,rfl,q⟩
 ·obtain⟨u,rfl,t,rfl⟩:=vals1 r
  exact call_int_int ⟨.int i,H,I,⟨_,rfl⟩,q⟩
 ·obtain⟨u,rfl,r1⟩:=vals1 r
  cases r1
  exact call_int_bool ⟨.int (if k then 1 else 0),H,I.tok _,⟨_,rfl⟩,q⟩
def LenV(K:Wf)(x:V)(H:Hp)(n:Nat):Prop:=
 match x with
 |.str y=>y.length<=sizeLine/\n=y.length
 |.byt y=>y.size<=sizeLine/\n=y.size
 |.ref p=>(∃xs,SqL K H p xs/\n=xs.length)\/∃xs,SqT K H p xs/\n=xs.length
 |_=>False
theorem call_len:CallR X (.builtin "len") (λxs H Q=>∃x n,xs=[x]/\LenV X.K x H n/\Q (.int n) H):=by
 intro pins s σ H xs us Q I r h
 obtain⟨x,n,rfl,e,q⟩:=h
 obtain⟨u,rfl,rx⟩:=vals1 r
 have hl:=line63
 have hs:sizeLine=16777216:=sizeLine_eq
 cases x with
 |str y=>
  obtain⟨t,rfl⟩:=rx
  obtain⟨hy,e'⟩:y.length<=sizeLine/\n=y.length:=e
  subst e'
  exact len_str (by omega) ⟨.int _,H,I.tok _,⟨_,rfl⟩,q⟩
 |byt y=>
  obtain⟨t,rfl⟩:=rx
  obtain⟨hy,e'⟩:y.size<=sizeLine/\n=y.size:=e
  subst e'
  exact PySem.W.len_bytes (by omega) ⟨.int _,H,I.tok _,⟨_,rfl⟩,q⟩
 |ref p=>
  cases rx
  have e':(∃xs,SqL X.K H p xs/\n=xs.length)\/∃xs,SqT X.K H p xs/\n=xs.length:=e
  rcases e' with ⟨xs,hx,e'⟩|⟨xs,hx,e'⟩
  ·subst e'
   obtain⟨its,r',pl,hz⟩:=I.list hx
   have hlen:=r'.length
   exact Calls.call_len_list pl.isList (by simp only[List.size_toArray];omega) ⟨.int xs.length,H,I.tok _,⟨_,by simp only[List.size_toArray];rw[hlen]⟩,q⟩
  ·subst e'
   obtain⟨its,r',pl,hz⟩:=I.tuple hx
   have hlen:=r'.length
   exact len_tuple pl (by simp only[List.size_toArray];omega) ⟨.int xs.length,H,I.tok _,⟨_,by simp only[List.size_toArray];rw[hlen]⟩,q⟩
 |_=>exact(show False from e).elim
end
structure ObjM(h:Heap)(x dx C:Addr)(mA:So):Prop where
 obj:h.get? x=some (instObj C dx)
 ns:h.Ns1 dx mA
 ne:dx≠x
theorem lookIn_ns{h:Heap}{dx:Addr}{mA:So}(n:h.Ns1 dx mA):∃od,h.get? dx=some od/\∀name,lookIn name od=some (mA name):=by
 obtain⟨o,es,ep,ho,hd,hk,_,hm⟩:=n
 refine⟨o,ho,λname=>?_⟩
 have e:=hm name
 unfold nsFind findBy at e
 rw[<-Array.find?_toList]at e
 unfold lookIn
 rw[hd]
 dsimp only
 split
 ·rename_i y q
  rw[q]at e
  exact congrArg some e
 ·rename_i q
  rw[q]at e
  have a:es.toList.any (·.refKey)=false:=by
   rw[List.any_eq_false]
   intro y hy
   obtain⟨z,t,hkey⟩:=hk y (Array.mem_toList_iff.mp hy)
   simp[DictEntry.refKey,hkey]
  have a':¬es.toList.any (·.refKey)=true:=by rw[a];exact yaz
  rw[if_neg a']
  exact congrArg some e
theorem ObjM.look(I:ObjM h x dx C mA):∃od,PySem.W.InstAt h x (instObj C dx) C (some od)/\∀name,lookIn name od=some (mA name):=
 let ⟨od,ho,hl⟩:=lookIn_ns I.ns
 ⟨od,⟨I.obj,rfl,rfl,ho⟩,hl⟩
section
variable{prog:Program}{w:World}{A:Around}{E:Vs}{s:Shared}{K:Wf}{x dx C f:Addr}{mA:So}{name:Str}{v:Value}
theorem get_map(X:K.In s.heap)(I:ObjM s.heap x dx C mA)(hg:plainGet K C name=true)(hh:hasDictIn K C=true)
  (ha:findIn K (.ref C) name=some none) (hv:mA name=some v) (hv':handedIn v=true) (h:Q v { s with toks:=s.toks+1 }):
  wpAny (model prog w) A (getAttr (.ref x) name expr) Q E s:=by
 obtain⟨od,J,hl⟩:=I.look
 exact PySem.W.get_value X J (plainGet_of hg).1 (PySem.W.findObj_own hh ha rfl (by rw[hl,hv])) hv' h
theorem get_meth(X:K.In s.heap)(I:ObjM s.heap x dx C mA)(hg:plainGet K C name=true)
  (hf:findIn K (.ref C) name=some (some (.ref f))) (ht:isFn K (.ref f)=true) (hv:mA name=none) (h:Q (.ref f,[.ref x]) s):
  wpAny (model prog w) A (getMethod (.ref x) name pl) Q E s:=by
 obtain⟨od,J,hl⟩:=I.look
 exact PySem.W.method_fn X J (plainGet_of hg).1 (plainGet_of hg).2 hf (beq_iff_eq.mp ht) (by show(lookIn name od).map (·.isSome)=some false;rw[hl,hv];rfl) h
theorem set_map(X:K.In s.heap)(I:ObjM s.heap x dx C mA)
  (hs:findIn K (.ref C) "__setattr__" = some (some (.builtin "object.__setattr__"))) (hp:plainOver K C=true) (ht:takerIn K C name=some none) (hh:hasDictIn K C=true)
  (hw:PySem.Within mA ns) (hsz:ns.length<=sizeLine)
  (h:∀h',ObjM h' x dx C (λy=>if y=name then some v else mA y)->Heap.SameBut dx s.heap h'->Q () { s with heap:=h',toks:=s.toks+2 }):
  wpAny (model prog w) A (setAttr (.ref x) name v) Q E s:=by
 obtain⟨od,J,hl⟩:=I.look
 refine PySem.W.set_plain X J hs (PySem.W.osa_open (s:={ s with toks:=s.toks+1 }) (r:=none) X J hp ht λb=>?_)
 obtain⟨cd,hc,hd'⟩:=PySem.W.any_some hh
 have hx:s.heap.get? x=some ⟨.ref C,some dx,.plain,#[]⟩:=I.obj
 refine yab (yaf (yab (yab (wpAny_loadPart hx (yab (PySem.W.Looks.here (s:={ s with toks:=s.toks+1 }) (PySem.W.looks_clsIn X hc) ?_))))))
 rw[hd']
 refine yaf (a:=some dx) (yab (yaf (yab ?_)))
 refine wpAny_nsSet1 (s:={ s with toks:=s.toks+1 }) I.ns λh' hn2 hs2=>?_
 obtain⟨oD,esD,epD,hoD,hdD,hcD⟩:=hn2.count (PySem.Within.cons name v hw)
 refine yab (wpAny_lookBehind hoD (by rw[hdD];exact pastItsLine_dict (yay hcD (by rw[ya7];omega))) ?_)
 exact yaf (h _ ⟨(hs2.2 _ (Ne.symm I.ne)).trans I.obj,hn2,I.ne⟩ hs2)
theorem make_map(X:K.In s.heap)(hm:makesIn K C=true)
  (hi:findIn K (.ref C) "__init__" = some (some (.ref f))) (hf:PySem.W.typeIn K (.ref f)=some (.type "function"))
  (h:codeAny (model prog w) (A.under (.builtin "type.__call__" ⟨.ref C::vs,kw⟩)) (.call (.ref f) ⟨.ref (s.heap.objs.size+1)::vs,kw⟩) (PySem.W.InitBack (s.heap.objs.size+1) R)
   { s with heap:=(s.heap.push emptyDict).push (instObj C s.heap.objs.size) }):
  codeAny (model prog w) A (.call (.ref C) ⟨vs,kw⟩) R s:=by
 obtain⟨hh,g,d,t,os⟩:=s
 exact PySem.W.make_core (PySem.W.makes_of X hm) (PySem.W.looks_findIn X hi) (λself=>PySem.W.bind_fn X self hf) (.inl rfl) h
end
noncomputable def putF(f:Str)(v:V):List (Str×V)->List (Str×V)
 |[]=>[(f,v)]
 | (g,x)::r=>if g=f then (g,v)::r else (g,x)::putF f v r
theorem lookup_putF(f g:Str)(v:V):∀fs:List (Str×V),(putF f v fs).lookup g=if g=f then some v else fs.lookup g
 |[]=>by
  show List.lookup g [(f,v)]=_
  by_cases h:g=f
  ·have hb:(g == f)=true:=beq_iff_eq.mpr h
   simp only[List.lookup,hb,if_pos h]
  ·have hb:(g == f)=false:=beq_eq_false_iff_ne.mpr h
   simp only[List.lookup,hb,if_neg h]
 | (k,x)::r=>by
  have ih:=lookup_putF f g v r
  rw[show putF f v ((k,x)::r)=(if k=f then (k,v)::r else (k,x)::putF f v r) from rfl]
  by_cases hk:k=f
  ·rw[if_pos hk]
   by_cases h:g=k
   ·have hb:(g == k)=true:=beq_iff_eq.mpr h
    simp only[List.lookup,hb,if_pos (h.trans hk)]
   ·have hb:(g == k)=false:=beq_eq_false_iff_ne.mpr h
    simp only[List.lookup,hb,if_neg (λe:g=f=>h (e.trans hk.symm))]
  ·rw[if_neg hk]
   by_cases h:g=k
   ·have hb:(g == k)=true:=beq_iff_eq.mpr h
    simp only[List.lookup,hb,if_neg (λe:g=f=>hk (h.symm.trans e))]
   ·have hb:(g == k)=false:=beq_eq_false_iff_ne.mpr h
    simp only[List.lookup,hb]
    exact ih
theorem keys_putF(f:Str)(v:V):∀fs:List (Str×V),f∈(putF f v fs).map (·.1)/\∀g,g∈fs.map (·.1)->g∈(putF f v fs).map (·.1)
 |[]=>⟨by simp[putF],λg h=>by simp at h⟩
 | (k,x)::r=>by
  obtain⟨i1,i2⟩:=keys_putF f v r
  rw[show putF f v ((k,x)::r)=(if k=f then (k,v)::r else (k,x)::putF f v r) from rfl]
  by_cases hk:k=f
  ·rw[if_pos hk]
   subst hk
   exact⟨by simp,λg h=>by simpa using h⟩
  ·rw[if_neg hk]
   refine⟨?_,λg h=>?_⟩
   ·rw[ybg]
    exact yaw _ i1
   ·rw[ybg]at h ⊢
    rcases yau.mp h with e|e
    ·exact yau.mpr (.inl e)
    ·exact yaw _ (i2 g e)
theorem length_putF(f:Str)(v:V):∀fs:List (Str×V),(putF f v fs).length<=fs.length+1
 |[]=>by simp[putF]
 | (k,x)::r=>by
  have ih:=length_putF f v r
  rw[show putF f v ((k,x)::r)=(if k=f then (k,v)::r else (k,x)::putF f v r) from rfl]
  by_cases hk:k=f
  ·rw[if_pos hk,ya7,ya7];omega
  ·rw[if_neg hk,ya7,ya7];omega
theorem RelO.some_of(r:RelO (some v) o):∃u,o=some u/\RelV v u:=by
 cases o with
 |none=>exact(show False from r).elim
 |some u=>exact⟨u,rfl,r⟩
theorem RelO.none_of(r:RelO none o):o=none:=by
 cases o with
 |none=>rfl
 |some u=>exact(show False from r).elim
theorem handed_of(r:RelV v u):handedIn u=true:=by
 cases v with
 |non=>cases (show u=Value.none from r);rfl
 |bl b=>cases (show u=Value.bool b from r);rfl
 |int i=>obtain⟨t,e⟩:=(show ∃t,u=Value.int i t from r);cases e;rfl
 |str x=>obtain⟨t,e⟩:=(show ∃t,u=Value.str x t from r);cases e;rfl
 |byt b=>obtain⟨t,e⟩:=(show ∃t,u=Value.bytes b t from r);cases e;rfl
 |flt b=>obtain⟨t,e⟩:=(show ∃t,u=Value.float b t from r);cases e;rfl
 |ref a=>cases (show u=Value.ref a from r);rfl
 |ty n=>cases (show u=Value.type n from r);rfl
section
variable{P:Program}{w:World}{H H':Hp}{h h':Heap}{a C dx:Addr}{fs fs':List (Str×V)}
theorem ins_get(hok:HOk P w H h)(e:H a=some (.ins C dx fs)):∃mA,ObjM h a dx C mA/\(∀f,RelO (fs.lookup f) (mA f))/\PySem.Within mA (fs.map (·.1))/\fs.length<=1000/\H dx=some (.own a):=by
 obtain⟨d,z,ne,ob,mA,n,r,q⟩:=(show ObjOk P w H h a (.ins C dx fs) from hok a _ e)
 exact⟨mA,⟨ob,n,ne⟩,r,q,z,d⟩
end
structure Cls(K:Wf)(C:Addr):Prop where
 pg:plainGet K C Str.empty=true
 hd:hasDictIn K C=true
 po:plainOver K C=true
 sa:findIn K (.ref C) "__setattr__" = some (some (.builtin "object.__setattr__"))
theorem Cls.get{K:Wf}{C:Addr}(c:Cls K C)(f:Str):plainGet K C f=true:=c.pg
def NoAttr(K:Wf)(C:Addr)(f:Str):Prop:=findIn K (.ref C) f=some none
theorem NoAttr.taker{K:Wf}{C:Addr}{f:Str}(n:NoAttr K C f):takerIn K C f=some none:=by
 unfold takerIn
 rw[show findIn K (.ref C) f=some none from n]
 rfl
structure Meth(K:Wf)(C:Addr)(m:Str)(f:Addr):Prop where
 at_:findIn K (.ref C) m=some (some (.ref f))
 fn:isFn K (.ref f)=true
 kp:keepIn K (.ref f)=true
section
variable{X:Cx}{pins:Lo}{σ:St}{H:Hp}{s:Shared}{a C dx:Addr}{fs:List (Str×V)}{f:Str}{v:V}{A:Around}{E:Vs}
theorem getattr_ok(I:Inv X pins σ H s)(e:H a=some (.ins C dx fs))(c:Cls X.K C)(n:NoAttr X.K C f)(l:fs.lookup f=some v)
  (h:∀u s',Inv X pins σ H s'->RelV v u->Q u s'):wpAny (model X.prog X.w) A (getAttr (.ref a) f b) Q E s:=by
 obtain⟨mA,O,r,_,_,_⟩:=ins_get I.hok e
 obtain⟨u,hu,ru⟩:=RelO.some_of (v:=v) (o:=mA f) (by rw[<-l];exact r f)
 exact get_map I.kIn O (c.get f) c.hd n hu (handed_of ru) (h u _ (I.tok _) ru)
theorem getmeth_ok(I:Inv X pins σ H s)(e:H a=some (.ins C dx fs))(c:Cls X.K C)(k:Meth X.K C m g)(l:fs.lookup m=none)
  (h:Q (.ref g,[.ref a]) s):wpAny (model X.prog X.w) A (getMethod (.ref a) m pl) Q E s:=by
 obtain⟨mA,O,r,_,_,_⟩:=ins_get I.hok e
 have hn:mA m=none:=RelO.none_of (by rw[<-l];exact r m)
 exact get_meth I.kIn O (c.get m) k.at_ k.fn hn h
theorem setattr_ok(I:Inv X pins σ H s)(e:H a=some (.ins C dx fs))(c:Cls X.K C)(n:NoAttr X.K C f)(hl:fs.length<1000)(ry:RelV y u)
  (h:∀s',Inv X pins σ (upd H a (.ins C dx (putF f y fs))) s'->Q () s'):wpAny (model X.prog X.w) A (setAttr (.ref a) f u) Q E s:=by
 obtain⟨mA,O,r,wi,_,ho⟩:=ins_get I.hok e
 have hz:(fs.map (·.1)).length<=sizeLine:=by rw[yaa,sizeLine_eq];omega
 refine set_map I.kIn O c.sa c.po n.taker c.hd wi hz λh' O' sb=>h _ ?_
 have hd:∃o,h'.get? dx=some o:=let ⟨o,_,_,e',_⟩:=O'.ns;⟨o,e'⟩
 refine I.write (x:=a) (e:=dx) (by rw[e];exact True.intro) (.inr ho) (λb q hb z=>(sb.2 b hb).trans z) hd ?_
 refine⟨by rw[upd_ne O.ne];exact ho,?_,O.ne,O'.obj,_,O'.ns,λg=>?_,λg hg=>?_⟩
 ·have:=length_putF f y fs;omega
 ·show RelO ((putF f y fs).lookup g) (if g=f then some u else mA g)
  rw[lookup_putF]
  by_cases q:g=f
  ·rw[if_pos q,if_pos q];exact ry
  ·rw[if_neg q,if_neg q];exact r g
 ·by_cases q:g=f
  ·rw[q];exact(keys_putF f y fs).1
  ·refine(keys_putF f y fs).2 g (wi g λz=>hg ?_)
   show(if g=f then some u else mA g)=none
   rw[if_neg q];exact z
theorem Inv.made(I:Inv X pins σ H s):Inv X pins σ (upd (upd H s.heap.objs.size (.own (s.heap.objs.size+1))) (s.heap.objs.size+1) (.ins C s.heap.objs.size []))
  { s with heap:=(s.heap.push emptyDict).push (instObj C s.heap.objs.size) }:=by
 have e1:(s.heap.push emptyDict).get? s.heap.objs.size=some emptyDict:=yaq s.heap rfl
 have e2:((s.heap.push emptyDict).push (instObj C s.heap.objs.size)).get? (s.heap.objs.size+1)=some (instObj C s.heap.objs.size):=by
  have:=yaq (s.heap.push emptyDict) (o:=instObj C s.heap.objs.size) rfl
  rwa [yb5]at this
 have e3:(s.heap.push emptyDict).Ns s.heap.objs.size (λ_=>none):=⟨emptyDict,#[],_,e1,rfl,(λe he=>absurd he (by simp)),λ_=>rfl⟩
 have I1:=I.laid (a:=s.heap.objs.size) (o:=.own (s.heap.objs.size+1)) (h':=s.heap.push emptyDict) (t':=s.toks) (λb u q=>yad _ q) (yap _) ⟨_,e1⟩
 refine I1.laid (a:=s.heap.objs.size+1) (o:=.ins C s.heap.objs.size []) (t':=s.toks) (λb u q=>yad _ q) (Nat.le_of_eq (yb5 _ _)) ?_
 have ne:s.heap.objs.size≠s.heap.objs.size+1:=yax (ybt _)
 refine⟨by rw[upd_ne ne,zz1],ya1 _,ne,e2,λ_=>none,(Heap.Ns1.of_empty e3).at λo q=>yad _ q,λ_=>True.intro,λy hy=>absurd rfl hy⟩
theorem attr_of(hb:attributeBase e f env (eval e env)=eval e env)
  (h:wpAny (model prog w) A (eval e env) (λo s₁=>wpAny (model prog w) A (getAttr o f true) Q E s₁) E s):wpAny (model prog w) A (eval (.Attribute e f pos) env) Q E s:=
 Attribute_any_ h (by rw[arm_eval_Attribute,hb])
end
def tFld(K:Wf)(ta:TE)(f:Str):TE:=λσ H Q=>ta σ H λx H1=>∃a C dx fs v,x=.ref a/\H1 a=some (.ins C dx fs)/\Cls K C/\NoAttr K C f/\fs.lookup f=some v/\Q v H1
def sFld(K:Wf)(ta tv:TE)(f:Str):TS:=λD σ H=>tv σ H λy H1=>ta σ H1 λx H2=>∃a C dx fs,x=.ref a/\H2 a=some (.ins C dx fs)/\Cls K C/\NoAttr K C f/\fs.length<1000/\
 D.nx σ (upd H2 a (.ins C dx (putF f y fs)))
section
variable{X:Cx}{o e value:Expr}{f:Str}{pos pos' tpos:Pos}{ta tv:TE}
theorem pe_fld(he:PE X e ta)(hb:attributeBase e f X.env (eval e X.env)=eval e X.env):PE X (.Attribute e f pos) (tFld X.K ta f):=by
 intro pins s σ H Q I h
 refine attr_of hb (thn (he pins s σ H _ I h) λu s1 ⟨x,H1,I1,rx,a,C,dx,fs,v,ex,ea,c,n,l,q⟩=>?_)
 subst ex
 obtain rfl:u=Value.ref a:=rx
 exact getattr_ok I1 ea c n l λu' s2 I2 ru=>⟨v,H1,I2,ru,q⟩
theorem ps_fld(ha:PE X o ta)(hv:PE X value tv)(hs:swapsWith value (some (.Attribute o f pos')) pos.line X.env=pure false):PS X (.Assign [.Attribute o f pos'] value pos) (sFld X.K ta tv f):=by
 intro pins s σ H D I h
 refine plainObj_wpAny_Assign_Attribute (thn (hv pins s σ H _ I h) λu s1 ⟨y,H1,I1,ry,q⟩=>thn (ha pins s1 σ H1 _ I1 q) λov s2 ⟨x,H2,I2,rx,a,C,dx,fs,ex,ea,c,n,l,q2⟩=>?_) hs
 subst ex
 obtain rfl:ov=Value.ref a:=rx
 exact setattr_ok I2 ea c n l ry λs3 I3=>⟨σ,_,I3,q2⟩
end
section
variable{X:Cx}{pins:Lo}{σ:St}{H:Hp}{s:Shared}{A:Around}{E:Vs}{Q:Vs}{c:Value}{b:Bool}
set_option genInjectivity true in
inductive TyOf (K:Wf) (H:Hp):V->Value->Prop where
 |non:TyOf K H .non (.type "NoneType")
 |bl (x:Bool):TyOf K H (.bl x) (.type "bool")
 |int (i:Int):TyOf K H (.int i) (.type "int")
 |str (x:Str):TyOf K H (.str x) (.type "str")
 |flt (x:UInt64):TyOf K H (.flt x) (.type "float")
 |lst {a:Addr}{xs:List V}(e:H a=some (.lst xs)):TyOf K H (.ref a) (.type "list")
 |frz {a:Addr}{o:Obj}{xs:List V}(e:H a=some (.frz o (.lst xs))):TyOf K H (.ref a) (.type "list")
 |tup {a:Addr}{xs:List V}(e:H a=some (.tup xs)):TyOf K H (.ref a) (.type "tuple")
 |dK {a:Addr}{kvs:List (Key×V)}(e:H a=some (.dK kvs)):TyOf K H (.ref a) (.type "dict")
 |dT {a:Addr}{kvs:List (List Key×V)}(e:H a=some (.dT kvs)):TyOf K H (.ref a) (.type "dict")
 |ins {a C dx:Addr}{fs:List (Str×V)}(e:H a=some (.ins C dx fs)) (cl:Cls K C) (ha:findIn K (.ref C) "__class__" = some (some (.builtin "object.__class__")))
   (hn:specialIn K (.builtin "object.__class__") "__get__" = some (some (.builtin "getset_descriptor.__get__"))) (htk:takesIn K (.builtin "object.__class__")=some true)
   (hm:mroIn K C (.type "object")=some true):TyOf K H (.ref a) (.ref C)
theorem isinst_ok(I:Inv X pins σ H s)(rx:RelV x u)(ty:TyOf X.K H x t)(e:kitOne X.K t c=some b)(h:∀tk,Q (.bool b) { s with toks:=tk }):
  wpAny (model X.prog X.w) A (call (.builtin "isinstance") [u,c]) Q E s:=by
 cases ty with
 |non=>cases (show u=Value.none from rx);exact kia_one PySem.W.kitx_none I.kIn True.intro e (λz=>nomatch z) h
 |bl y=>cases (show u=Value.bool y from rx);exact kia_one PySem.W.kitx_bool I.kIn True.intro e (λz=>nomatch z) h
 |int i=>obtain⟨t,q⟩:=(show ∃t,u=Value.int i t from rx);cases q;exact kia_one PySem.W.kitx_int I.kIn True.intro e (λz=>nomatch z) h
 |str y=>obtain⟨t,q⟩:=(show ∃t,u=Value.str y t from rx);cases q;exact kia_one PySem.W.kitx_str I.kIn True.intro e (λz=>nomatch z) h
 |flt y=>obtain⟨t,q⟩:=(show ∃t,u=Value.float y t from rx);cases q;exact kia_one PySem.W.kitx_float I.kIn True.intro e (λz=>nomatch z) h
 |@lst a xs ea=>
  cases (show u=Value.ref a from rx)
  obtain⟨_,_,n,_,h1⟩:=(show ObjOk X.prog X.w H s.heap a (.lst xs) from I.hok a _ ea)
  exact kia_one kitx_list I.kIn ⟨_,h1,rfl⟩ e (λz=>nomatch z) h
 |@frz a ob xs ea=>
  cases (show u=Value.ref a from rx)
  obtain⟨_,_,_,n,_,h1⟩:=(show ObjOk X.prog X.w H s.heap a (.frz ob (.lst xs)) from I.hok a _ ea)
  exact kia_one kitx_list I.kIn ⟨_,h1,rfl⟩ e (λz=>nomatch z) h
 |@tup a xs ea=>
  cases (show u=Value.ref a from rx)
  obtain⟨_,_,_,p⟩:=(show ObjOk X.prog X.w H s.heap a (.tup xs) from I.hok a _ ea)
  obtain⟨o,h1,h2,_⟩:=p
  exact kia_one PySem.W.kitx_tuple I.kIn ⟨o,h1,h2⟩ e (λz=>nomatch z) h
 |@dK a kvs ea=>
  cases (show u=Value.ref a from rx)
  obtain⟨_,_,vs,_,p⟩:=(show ObjOk X.prog X.w H s.heap a (.dK kvs) from I.hok a _ ea)
  obtain⟨o,es,ep,h1,h2,_⟩:=p
  exact kia_one kitx_dict I.kIn ⟨o,h1,h2.1⟩ e (λz=>nomatch z) h
 |@dT a kvs ea=>
  cases (show u=Value.ref a from rx)
  obtain⟨_,_,xs,_,o,es,ep,h1,h2,_⟩:=(show ObjOk X.prog X.w H s.heap a (.dT kvs) from I.hok a _ ea)
  exact kia_one kitx_dict I.kIn ⟨o,h1,h2.1⟩ e (λz=>nomatch z) h
 |@ins a C dx fs ea cl ha hn htk hm=>
  cases (show u=Value.ref a from rx)
  obtain⟨mA,O,_⟩:=ins_get I.hok ea
  obtain⟨od,J,_⟩:=O.look
  exact kia_one (PySem.W.kitx_own (cl.get _) cl.hd ha hn htk hm) I.kIn J e (λz=>nomatch z) h
end
structure Room(k:Nat)(A:Around):Prop where
 hd:A.handled=none
 dp:A.depth+3 * k+5<recursionLimit
 un:A.units+16 * k+200<cLine
theorem Room.mono(r:Room k A)(h:j<=k):Room j A:=⟨r.hd,by have:=r.dp;omega,by have:=r.un;omega⟩
theorem Room.deeper(r:Room (k+1) A)(env:Env):Room k (A.deeper env):=
 ⟨r.hd,by have:=r.dp;show A.depth+1+3 * k+5<_;omega,by have:=r.un;show A.units+3+16 * k+200<_;omega⟩
theorem Room.in1(r:Room (k+1) A):Room k A.in1:=
 ⟨r.hd,by have:=r.dp;show A.depth+3 * k+5<_;omega,by have:=r.un;show A.units+1+16 * k+200<_;omega⟩
theorem make_depth{A:Around}{C:Addr}{us:List Value}{kw:List (Str×Value)}:(A.under (.builtin "type.__call__" ⟨.ref C::us,kw⟩)).depth=A.depth+1:=by
 first|rfl|simp[Around.under,Code.weight,Code.isCreation,Code.isGuard,Code.isCaller,Code.frames,Code.isFrame,guardIds]
theorem make_units{A:Around}{C:Addr}{us:List Value}{kw:List (Str×Value)}:(A.under (.builtin "type.__call__" ⟨.ref C::us,kw⟩)).units=A.units+1:=by
 first|rfl|simp[Around.under,Code.cUnits,Code.frames,Code.isFrame]
theorem Room.make(r:Room (k+1) A)(C:Addr)(us:List Value)(kw:List (Str×Value)):Room k (A.under (.builtin "type.__call__" ⟨.ref C::us,kw⟩)):=
 ⟨r.hd,by have:=r.dp;rw[make_depth];omega,by have:=r.un;rw[make_units];omega⟩
theorem Room.depth(r:Room k A):A.depth<recursionLimit:=by have:=r.dp;omega
theorem Room.units(r:Room k A):A.units+64<cLine:=by have:=r.un;omega
def tNil:TA:=λ_ H Q=>Q [] H
def tCons(ta:TE)(tr:TA):TA:=λσ H Q=>ta σ H λx H1=>tr σ H1 λxs H2=>Q (x::xs) H2
section
variable{X:Cx}{e:Expr}{es:List Expr}{te:TE}{t:TA}{pos:Pos}
theorem pa_nil:PA X [] tNil:=λ_ _ _ _ H Q I h=>Calls.spliced_nil ⟨[],H,I,.nil,h⟩
theorem zz0(ha:PE X e te)(hr:PA X es t)(hs:starEach (e::es) X.env=(false,eval e X.env)::starEach es X.env:=by rfl):PA X (e::es) (tCons te t):=by
 intro pos pins s σ H Q I h
 rw[hs]
 show wpAny _ _ (spliced ((false,eval e X.env)::backTo pos (starEach es X.env))) _ _ s
 refine Calls.spliced_cons (thn (ha pins s σ H _ I h) λu s1 ⟨x,H1,I1,r1,q1⟩=>?_)
 exact thn (hr pos pins s1 σ H1 _ I1 q1) λus s2 ⟨xs,H2,I2,r2,q2⟩=>⟨x::xs,H2,I2,.cons r1 r2,q2⟩
def tTup(t:TA):TE:=λσ H Q=>t σ H λxs H1=>xs.length<=sizeLine/\∀p,H1 p=none->Q (.ref p) (upd H1 p (.tup xs))
def tLst(t:TA):TE:=λσ H Q=>t σ H λxs H1=>xs.length<=sizeLine/\∀p,H1 p=none->Q (.ref p) (upd H1 p (.lst xs))
theorem pe_tup(h:PA X es t):PE X (.Tuple es x1 pos) (tTup t):=by
 intro pins s σ H Q I hq
 refine wpAny_Tuple_spliced (thn (h pos pins s σ H _ I hq) λus s1 ⟨xs,H1,I1,r,z,q⟩=>⟨by rw[<-r.length];exact z,?_⟩)
 have hf:H1 s1.heap.objs.size=none:=I1.hok.fresh (yap _)
 refine⟨.ref s1.heap.objs.size,upd H1 s1.heap.objs.size (.tup xs),I1.laid (t':=s1.toks) (λb u e=>yad _ e) (yap _) ?_,rfl,q _ hf⟩
 exact⟨z,us,r,⟨_,yaq _ rfl,rfl,_,rfl⟩⟩
theorem pe_lst(h:PA X es t):PE X (.List es pos) (tLst t):=by
 intro pins s σ H Q I hq
 refine wpAny_List_spliced (thn (h pos pins s σ H _ I hq) λus s1 ⟨xs,H1,I1,r,z,q⟩=>⟨by rw[<-r.length];exact z,?_⟩)
 have hf:H1 s1.heap.objs.size=none:=I1.hok.fresh (yap _)
 refine⟨.ref s1.heap.objs.size,upd H1 s1.heap.objs.size (.lst xs),I1.laid (t':=s1.toks) (λb u e=>yad _ e) (yap _) ?_,rfl,q _ hf⟩
 exact⟨z,us,0,r,yaq _ rfl⟩
end
noncomputable abbrev Sp:=List V->Hp->VK->XK->Prop
noncomputable abbrev CXT:=List Env->Hp->Shared->XK->Value->Shared->Prop
structure Env0(P:Program)(w:World)(K:Wf)(mg:So)(base:Heap)(A:Around)(outer:List Env)(s:Shared)(H:Hp):Prop where
 frames:A.frames=some outer
 mod:Mod K mg base
 bs:∀b o,base.get? b=some o->s.heap.get? b=some o/\H b=none
 bsz:base.objs.size<=s.heap.objs.size
 funs:s.heap.FunFrames base outer
 frf:∀b∈frs outer,H b=none
 hok:HOk P w H s.heap
 bare:AllBare s.gens
def CE(outer:List Env)(P:Program)(w:World)(H:Hp)(s:Shared)(Q:VK)(u:Value)(s':Shared):Prop:=
 ∃v H',s'.os=s.os/\AllBare s'.gens/\Un (frs outer) [] H H' s.heap s'.heap/\HOk P w H' s'.heap/\RelV v u/\Q v H'
def CR(CX:CXT)(outer:List Env)(P:Program)(w:World)(H:Hp)(s:Shared)(Q:VK)(E:XK)(r:Result)(s':Shared):Prop:=
 match r with
 |.ok (.ret u)=>CE outer P w H s Q u s'
 |.ok _=>False
 |.error e=>CX outer H s E e s'
structure FnOk(P:Program)(w:World)(K:Wf)(mg:So)(base:Heap)(CX:CXT)(k:Nat)(f:Addr)(fd:FuncData)(ps:List Str)(sp:Sp):Prop where
 len:∀vs H Q E,sp vs H Q E->vs.length=ps.length
 run:∀(A:Around) (outer:List Env) (s:Shared) (H:Hp) (args:Args) (us:List Value) (vs:List V) (Q:VK) (E:XK),Room k A->Env0 P w K mg base A outer s H->BindsTo s fd args (ps.zip us)->Vals vs us->sp vs H Q E->
  codeAny (model P w) A (.call (.ref f) args) (CR CX outer P w H s Q E) s
theorem Env0.make{P:Program}{w:World}{K:Wf}{mg:So}{base:Heap}{A:Around}{outer:List Env}{s:Shared}{H:Hp}(e:Env0 P w K mg base A outer s H)(C:Addr)(us:List Value)(kw:List (Str×Value)):
  Env0 P w K mg base (A.under (.builtin "type.__call__" ⟨.ref C::us,kw⟩)) outer s H:=⟨by first|exact e.frames|(simpa [Around.under,Code.envs,Code.isFrame,pushEnvs] using e.frames),e.mod,e.bs,e.bsz,e.funs,e.frf,e.hok,e.bare⟩
theorem Env0.in1{P:Program}{w:World}{K:Wf}{mg:So}{base:Heap}{A:Around}{outer:List Env}{s:Shared}{H:Hp}(e:Env0 P w K mg base A outer s H):
  Env0 P w K mg base A.in1 outer s H:=⟨e.frames,e.mod,e.bs,e.bsz,e.funs,e.frf,e.hok,e.bare⟩
section
variable{X:Cx}{pins:Lo}{σ:St}{H:Hp}{s s':Shared}
theorem Inv.env0(I:Inv X pins σ H s):Env0 X.prog X.w X.K X.mg X.base X.A X.stack s H:=
 ⟨I.ok.frames,I.ok.mod,I.bs,yay I.ok.bsz I.sz,I.stack,I.stkFree,I.hok,I.bare⟩
theorem Inv.after(I:Inv X pins σ H s)(h:CE X.stack X.prog X.w H s Q u s'):EP X pins σ Q u s':=by
 obtain⟨v,H',os,bare,un,hok,r,q⟩:=h
 obtain⟨hh,g,d,t,os'⟩:=s'
 obtain rfl:os'=s.os:=os
 exact⟨v,H',I.call (h':=hh) (g':=g) (d':=d) (t':=t) (ch:=[]) un hok bare (λb z=>absurd z (by simp)),r,q⟩
end
def tCall(sp:Sp)(dvs:List V)(E:XK)(t:TA):TE:=λσ H Q=>t σ H λvs H1=>sp (vs++dvs) H1 Q E
def tMeth(C:Addr)(m:Str)(sp:Sp)(dvs:List V)(E:XK)(ta:TE)(t:TA):TE:=λσ H Q=>ta σ H λx H1=>∃a dx fs,x=.ref a/\H1 a=some (.ins C dx fs)/\fs.lookup m=none/\
 t σ H1 λvs H2=>sp (x::(vs++dvs)) H2 Q E
def tMake(C:Addr)(sp:Sp)(dvs:List V)(E:XK)(t:TA):TE:=λσ H Q=>t σ H λvs H1=>∀x dx,H1 x=none->H1 dx=none->dx≠x->
 sp (.ref x::(vs++dvs)) (upd (upd H1 dx (.own x)) x (.ins C dx [])) (λv H2=>v=.non/\Q (.ref x) H2) E
def Binds(K:Wf)(fd:FuncData)(ps:List Str)(ds:List Value):Prop:=
 ∀(s:Shared) (us:List Value),K.In s.heap->(us++ds).length=ps.length->BindsTo s fd ⟨us,[]⟩ (ps.zip (us++ds))
theorem Binds.all{K:Wf}{fd:FuncData}{ps:List Str}(h:∀us:List Value,us.length=ps.length->bindArgs fd ⟨us,[]⟩=pure (ps.zip us)):Binds K fd ps []:=λs us _ hl=>by
 rw[ybc]at hl ⊢
 exact .of_eq (h us hl)
def Passes(CX:CXT)(X:Cx)(E:XK):Prop:=∀(pins:Lo) (σ:St) (H:Hp) (s:Shared) (e:Value) (s':Shared),Inv X pins σ H s->CX X.stack H s E e s'->X.xe e s'
section
variable{X:Cx}{CX:CXT}{k:Nat}{f C:Addr}{fd:FuncData}{ps:List Str}{sp:Sp}{dvs:List V}{ds:List Value}{E:XK}{x m:Str}{p pos apos:Pos}{e o:Expr}{es:List Expr}{ta:TE}{t:TA}
theorem run_fn(F:FnOk X.prog X.w X.K X.mg X.base CX k f fd ps sp)(hr:Room k X.A)(hb:Binds X.K fd ps ds)(hd:Vals dvs ds)(hx:Passes CX X E)
  (I:Inv X pins σ H s) (r:Vals vs us) (h:sp (vs++dvs) H Q E):wpAny (model X.prog X.w) X.A (call (.ref f) us) (EP X pins σ Q) X.xe s:=by
 have r2:Vals (vs++dvs) (us++ds):=r.append hd
 have hl:(us++ds).length=ps.length:=by rw[<-r2.length];exact F.len _ _ _ _ h
 refine ycv (codeAny_mono (F.run X.A X.stack s H ⟨us,[]⟩ (us++ds) (vs++dvs) Q E hr I.env0 (hb s us I.kIn hl) r2 h) λr s' hq=>?_)
 cases r with
 |error e=>exact hx pins σ H s e s' I hq
 |ok fl=>
  cases fl with
  |ret u=>exact I.after hq
  |next=>exact False.elim hq
  |brk=>exact False.elim hq
  |cont=>exact False.elim hq
theorem zz10(F:FnOk X.prog X.w X.K X.mg X.base CX k f fd ps sp)(hr:Room k X.A)(hg:Gl X x)(hm:X.mg x=some (.ref f))(hk:keepIn X.K (.ref f)=true)(hb:Binds X.K fd ps ds)(hd:Vals dvs ds)(hx:Passes CX X E)
  (ha:PA X (e::es) t) (hdb:(x == ("__debug__" : Str))=false:=by decide) (he:starEach (e::es) X.env=(false,eval e X.env)::starEach es X.env:=by rfl) (hpl:(backTo pos (starEach es X.env)).any (·.1)=false:=by rfl):
  PE X (.Call (.Name x p) (e::es) [] pos) (tCall sp dvs E t):=by
 intro pins s σ H Q I h
 refine ycg (ld_glob I hg hm ?_ hdb)
 refine callWith_K (h₀:=X.base) I.ok.mod.kin hk (thn (ha pos pins s σ H _ I h) λus s1 ⟨vs,H1,I1,r,q⟩=>⟨I1.kIn,?_⟩) he hpl
 exact run_fn F hr hb hd hx I1 r q
theorem pe_meth(he:PE X o ta)(c:Cls X.K C)(hm:Meth X.K C m f)(F:FnOk X.prog X.w X.K X.mg X.base CX k f fd ps sp)(hr:Room k X.A)(hb:Binds X.K fd ps ds)(hd:Vals dvs ds)(hx:Passes CX X E)(ha:PA X (e::es) t)
  (hst:starEach (e::es) X.env=(false,eval e X.env)::starEach es X.env:=by rfl) (hpl:(backTo pos (starEach es X.env)).any (·.1)=false:=by rfl)
  (ht:eval (.Call (.Attribute o m apos) (e::es) [] pos) X.env=(do
   let ov <-eval o X.env
   standAt apos.atName
   let (f,first) <-holding [ov] (getMethod ov m pl)
   callWith pos f first (backTo pos (starEach (e::es) X.env)) (backToKw pos (keywordEach [] X.env))):=by rfl):
  PE X (.Call (.Attribute o m apos) (e::es) [] pos) (tMeth C m sp dvs E ta t):=by
 intro pins s σ H Q I h
 refine methodCall_KW (pl:=pl) (thn (he pins s σ H _ I h) λu s1 ⟨x,H1,I1,rx,a,dx,fs,ex,ea,l,q⟩=>?_) ht
 subst ex
 obtain rfl:u=Value.ref a:=rx
 refine getmeth_ok I1 ea c hm l ?_
 refine callWith_K (first:=[.ref a]) (h₀:=X.base) I.ok.mod.kin hm.kp (thn (ha pos pins s1 σ H1 _ I1 q) λus s2 ⟨vs,H2,I2,r,q2⟩=>⟨I2.kIn,?_⟩) hst hpl
 exact run_fn (us:=.ref a::us) (vs:=.ref a::vs) F hr hb hd hx I2 (.cons rfl r) q2
theorem pe_meth0(he:PE X o ta)(c:Cls X.K C)(hm:Meth X.K C m f)(F:FnOk X.prog X.w X.K X.mg X.base CX k f fd ps sp)(hr:Room k X.A)(hb:Binds X.K fd ps ds)(hd:Vals dvs ds)(hx:Passes CX X E)
  (ht:eval (.Call (.Attribute o m apos) [] [] pos) X.env=(do
   let ov <-eval o X.env
   standAt apos.atName
   let (f,first) <-holding [ov] (getMethod ov m pl)
   callWith pos f first (backTo pos (starEach [] X.env)) (backToKw pos (keywordEach [] X.env))):=by rfl):
  PE X (.Call (.Attribute o m apos) [] [] pos) (tMeth C m sp dvs E ta tNil):=by
 intro pins s σ H Q I h
 refine methodCall_KW (pl:=pl) (thn (he pins s σ H _ I h) λu s1 ⟨x,H1,I1,rx,a,dx,fs,ex,ea,l,q⟩=>?_) ht
 subst ex
 obtain rfl:u=Value.ref a:=rx
 refine getmeth_ok I1 ea c hm l ?_
 exact PySem.W.callWith_K0 (first:=[.ref a]) I1.kIn hm.kp (run_fn (us:=[.ref a]) (vs:=[.ref a]) F hr hb hd hx I1 (.cons rfl .nil) q)
structure Mk(K:Wf)(C f:Addr):Prop where
 makes:makesIn K C=true
 init:findIn K (.ref C) "__init__" = some (some (.ref f))
 fn:isFn K (.ref f)=true
 kp:keepIn K (.ref C)=true
theorem run_make(M:Mk X.K C f)(F:FnOk X.prog X.w X.K X.mg X.base CX k f fd ps sp)(hr:Room (k+1) X.A)(hb:Binds X.K fd ps ds)(hd:Vals dvs ds)
  (hx:Passes CX X E) (I:Inv X pins σ H s) (r:Vals vs us)
  (h:∀x dx,H x=none->H dx=none->dx≠x->sp (.ref x::(vs++dvs)) (upd (upd H dx (.own x)) x (.ins C dx [])) (λv H2=>v=.non/\Q (.ref x) H2) E):
  wpAny (model X.prog X.w) X.A (call (.ref C) us) (EP X pins σ Q) X.xe s:=by
 have hq:=h (s.heap.objs.size+1) s.heap.objs.size (I.hok.fresh (yb7 _)) (I.hok.fresh (yap _)) (yax (ybt _))
 have I2:=Inv.made (C:=C) I
 have r2:Vals (V.ref (s.heap.objs.size+1)::(vs++dvs)) (Value.ref (s.heap.objs.size+1)::(us++ds)):=.cons rfl (r.append hd)
 have hl:(Value.ref (s.heap.objs.size+1)::us++ds).length=ps.length:=by
  have e:=r2.length
  rw[F.len _ _ _ _ hq]at e
  exact e.symm
 refine ycv (make_map (f:=f) I.kIn M.makes M.init (beq_iff_eq.mp M.fn) (codeAny_mono (F.run _ X.stack _ _ ⟨Value.ref (s.heap.objs.size+1)::us,[]⟩ (Value.ref (s.heap.objs.size+1)::(us++ds)) _ _ E (hr.make C us [])
  (I2.env0.make C us []) (hb _ (Value.ref (s.heap.objs.size+1)::us) I2.kIn hl) r2 hq) λr s' hq'=>?_))
 cases r with
 |error e=>exact hx pins σ _ _ e s' I2 hq'
 |ok fl=>
  cases fl with
  |ret u=>
   obtain⟨v,H',I3,rv,ev,q3⟩:=I2.after hq'
   subst ev
   exact⟨rv,⟨V.ref (s.heap.objs.size+1),H',I3,rfl,q3⟩⟩
  |next=>exact False.elim hq'
  |brk=>exact False.elim hq'
  |cont=>exact False.elim hq'
theorem pe_make(M:Mk X.K C f)(F:FnOk X.prog X.w X.K X.mg X.base CX k f fd ps sp)(hr:Room (k+1) X.A)(hg:Gl X x)(hm:X.mg x=some (.ref C))(hb:Binds X.K fd ps ds)(hd:Vals dvs ds)(hx:Passes CX X E)
  (ha:PA X (e::es) t) (hdb:(x == ("__debug__" : Str))=false:=by decide) (he:starEach (e::es) X.env=(false,eval e X.env)::starEach es X.env:=by rfl) (hpl:(backTo pos (starEach es X.env)).any (·.1)=false:=by rfl):
  PE X (.Call (.Name x p) (e::es) [] pos) (tMake C sp dvs E t):=by
 intro pins s σ H Q I h
 refine ycg (ld_glob I hg hm ?_ hdb)
 refine callWith_K (h₀:=X.base) I.ok.mod.kin M.kp (thn (ha pos pins s σ H _ I h) λus s1 ⟨vs,H1,I1,r,q⟩=>⟨I1.kIn,?_⟩) he hpl
 exact run_make M F hr hb hd hx I1 r q
end
section
variable{X:Cx}{CX:CXT}{k:Nat}{f C:Addr}{fd:FuncData}{ps ks:List Str}{sp:Sp}{E:XK}{x m:Str}{p pos apos kpos:Pos}{e o:Expr}{es:List Expr}{kws:List Keyword}{te ta:TE}{t tk:TA}{nm:Option Str}
variable{g:List Value->List Value->List Value}{gV:List V->List V->List V}
end
structure FnScope(N P:List Str)(sc:Scope):Prop where
 kind:sc.kind=.function
 co:sc.isCoroutine=false
 gen:sc.isGenerator=false
 nd:N.Nodup
 pre:N.take P.length=P
 par:∀x∈P,sc.names.lookup x=some .local\/sc.names.lookup x=some .cell
 nofree:∀y∈sc.names,y.2≠.free
theorem bindL_out{kindOf:Str->Option NameKind}:∀{binds:List (Str×Value)}{m:So},(∀v,(x,v)∉binds)->bindL kindOf binds m x=m x
 |[],_,_=>rfl
 | (n,v)::r,m,h=>by
  unfold bindL
  rw[bindL_out λw hw=>h w (yaw _ hw)]
  split
  ·have:x≠n:=by rintro rfl;exact h v ya5
   simp[this]
  ·rfl
theorem bindC_out{kindOf:Str->Option NameKind}:∀{binds:List (Str×Value)}{m:So},(∀v,(x,v)∉binds)->bindC kindOf binds m x=m x
 |[],_,_=>rfl
 | (n,v)::r,m,h=>by
  unfold bindC
  rw[bindC_out λw hw=>h w (yaw _ hw)]
  split
  ·rfl
  ·have:x≠n:=by rintro rfl;exact h v ya5
   simp[this]
theorem bindL_get{kindOf:Str->Option NameKind}:∀{P:List Str}{vs:List Value}{i:Nat}{m:So},P.Nodup->P[i]?=some x->vs[i]?=some v->kindOf x=some .local->
  bindL kindOf (P.zip vs) m x=some v
 |[],_,_,_,_,h,_,_=>by simp at h
 |_::_,[],_,_,_,_,h,_=>by simp at h
 |p::P,w::vs,0,m,nd,h1,h2,hk=>by
  simp at h1 h2;subst h1;subst h2
  show bindL kindOf ((p,w)::P.zip vs) m p=_
  unfold bindL
  rw[bindL_out λv hv=>(ya8.mp nd).1 (List.of_mem_zip hv).1,if_pos hk]
  simp
 |p::P,w::vs,i+1,m,nd,h1,h2,hk=>by
  show bindL kindOf ((p,w)::P.zip vs) m x=_
  unfold bindL
  exact bindL_get (i:=i) (ya8.mp nd).2 (by simpa using h1) (by simpa using h2) hk
theorem bindC_get{kindOf:Str->Option NameKind}:∀{P:List Str}{vs:List Value}{i:Nat}{m:So},P.Nodup->P[i]?=some x->vs[i]?=some v->kindOf x≠some .local->
  bindC kindOf (P.zip vs) m x=some v
 |[],_,_,_,_,h,_,_=>by simp at h
 |_::_,[],_,_,_,_,h,_=>by simp at h
 |p::P,w::vs,0,m,nd,h1,h2,hk=>by
  simp at h1 h2;subst h1;subst h2
  show bindC kindOf ((p,w)::P.zip vs) m p=_
  unfold bindC
  rw[bindC_out λv hv=>(ya8.mp nd).1 (List.of_mem_zip hv).1,if_neg hk]
  simp
 |p::P,w::vs,i+1,m,nd,h1,h2,hk=>by
  show bindC kindOf ((p,w)::P.zip vs) m x=_
  unfold bindC
  exact bindC_get (i:=i) (ya8.mp nd).2 (by simpa using h1) (by simpa using h2) hk
noncomputable def start(N:List Str)(vs:List V):St:=vs.map some++List.replicate (N.length - vs.length) none
noncomputable def cxOf(CX:CXT)(P:Program)(w:World)(K:Wf)(mg:So)(base:Heap)(N:List Str)(qual:Str)(scope:Scope)(f:Addr)(cd:Value)(A:Around)(outer:List Env)(s:Shared)(H:Hp)(E:XK):Cx where
 prog:=P
 w:=w
 K:=K
 mg:=mg
 base:=base
 A:=A.deeper (envOfC qual scope s.heap.objs.size f cd)
 N:=N
 s₀:=s
 H₀:=H
 env:=envOfC qual scope s.heap.objs.size f cd
 outer:=outer
 stack:=envOfC qual scope s.heap.objs.size f cd::outer
 ex:=[]
 calm:=true
 fn:=λ_=>true
 pn:=[]
 xe:=λe s'=>wpAny (model P w) (A.deeper (envOfC qual scope s.heap.objs.size f cd)) (leaving (envOfC qual scope s.heap.objs.size f cd) e) (λ_ s''=>CX outer H s E e s'') (λe' s''=>CX outer H s E e' s'') s'
theorem cell_has{sc:Scope}{n:Nat}{x:Str}(h:sc.names.lookup x=some .cell):∃c,(cellsFrom n sc.names []).lookup x=some c:=by
 have q:=cellsFrom_some sc.names n [] (.inl h)
 exact Option.isSome_iff_exists.mp q
theorem inv_start{CX:CXT}{P:Program}{w:World}{K:Wf}{mg:So}{base:Heap}{N ps:List Str}{qual:Str}{scope:Scope}{f:Addr}{cd:Value}{A:Around}{outer:List Env}{s s1:Shared}{H:Hp}{E:XK}{us:List Value}{vs:List V}
  (S:FnScope N ps scope) (hd:A.handled=none) (e0:Env0 P w K mg base A outer s H) (hl:vs.length=ps.length) (r:Vals vs us)
  (x:InCallC s s.heap.objs.size (bindL (envOfC qual scope s.heap.objs.size f cd).kindOf (ps.zip us) λ_=>none) (cellsFrom (s.heap.objs.size+1) scope.names []) (bindC (envOfC qual scope s.heap.objs.size f cd).kindOf (ps.zip us) λ_=>none) s1):
  Inv (cxOf CX P w K mg base N qual scope f cd A outer s H E) [] (start N vs) H s1:=by
 have hpl:ps.length<=N.length:=by have:=congrArg List.length S.pre;rw[ybe]at this;omega
 obtain⟨h1,tk,rfl,hk⟩:=x.done
 have noA:∀b:Addr,b∉(cxOf CX P w K mg base N qual scope f cd A outer s H E).ex:=λb z=>absurd (show b∈([]:List Addr) from z) (by simp)
 refine⟨⟨e0.mod,S.kind,rfl,rfl,yap _,λy z c h1 h2=>?_,λy hy=>?_,λy c _ h=>?_,λ_=>hd,Around.frames_deeper e0.frames,.inr ⟨rfl,rfl⟩,λb z=>absurd z (noA b),e0.bs,e0.bsz,λb _ _=>noA b,λb z=>absurd z (noA b),e0.funs,e0.frf⟩,
  rfl,e0.bare,Un.kept hk,⟨_,x.toInCall.ns,λi y v h1 h2 h3=>?_⟩,λy c h=>⟨_,x.cell y c h⟩,e0.hok.fresh (yap _),λy c h=>?_,λp hp=>absurd (show p∈([]:Lo) from hp) (by simp),e0.hok.kept hk,?_⟩
 ·exact name_of_addr x.apart (PySem.mem_of_lookup h1) (PySem.mem_of_lookup h2)
 ·have hy:scope.names.lookup y=some .cell\/scope.names.lookup y=some .free:=hy
  rcases hy with hy|hy
  ·exact cell_has hy
  ·exact absurd rfl (S.nofree _ (PySem.mem_of_lookup hy))
 ·exact yci (x.above y c (PySem.mem_of_lookup h))
 ·have hi:i<vs.length:=by
   unfold start at h2
   by_cases hi:i<vs.length
   ·exact hi
   ·rw[ybj (by simpa using hi)]at h2
    rw[List.getElem?_replicate]at h2
    split at h2<;>cases h2
  have ha:vs[i]?=some v:=by
   unfold start at h2
   rw[ya9 (by simpa using hi),List.getElem?_map]at h2
   cases e:vs[i]? with
   |none=>rw[e]at h2;cases h2
   |some a=>rw[e]at h2;cases h2;rfl
  obtain⟨u,hu,rv⟩:=r.get ha
  have hp:ps[i]?=some y:=by
   rw[<-S.pre,List.getElem?_take_of_lt (by omega)];exact h1
  have ndP:ps.Nodup:=by rw[<-S.pre];exact S.nd.sublist (List.take_sublist _ _)
  refine⟨u,rv,?_⟩
  rcases S.par y (yan hp) with k|k
  ·exact .inl ⟨k,bindL_get ndP hp hu k⟩
  ·obtain⟨c,e⟩:=cell_has (n:=s.heap.objs.size+1) k
   refine .inr ⟨.inl k,c,e,?_⟩
   have q:=x.cell y c e
   rw[bindC_get ndP hp hu (by show scope.names.lookup y≠_;rw[k];decide)]at q
   exact q
 ·exact e0.hok.fresh (yci (x.above y c (PySem.mem_of_lookup h)))
 ·unfold start
  show _=N.length
  rw[yah,yaa,List.length_replicate]
  omega
theorem fn_of{CX:CXT}{P:Program}{w:World}{K:Wf}{mg:So}{base:Heap}{k:Nat}{f:Addr}{name qual:Str}{params:Arguments}{body:List Stmt}{scope:Scope}{dV kV doc pm cdv ct oc:Value}{an od:Option Addr}
  {osl:Array (Option Value)}{N ps:List Str}{sp:Sp}(lk:K.lookup f=some ⟨oc,od,.func (fnOf name qual params body scope dV kV doc pm an cdv ct),osl⟩) (hcd:codeIn K cdv qual=true) (S:FnScope N ps scope)
  (len:∀vs H Q E,sp vs H Q E->vs.length=ps.length)
  (hbody:∀(A:Around) (outer:List Env) (s:Shared) (H:Hp) (vs:List V) (Q:VK) (E:XK),Room k (A.deeper (envOfC qual scope s.heap.objs.size f cdv))->sp vs H Q E->
   ∃t,PSs (cxOf CX P w K mg base N qual scope f cdv A outer s H E) body t/\t { nx:=λ_ H'=>Q .non H',rt:=Q } (start N vs) H):
  FnOk P w K mg base CX (k+1) f (fnOf name qual params body scope dV kV doc pm an cdv ct) ps sp:=by
 refine⟨len,λA outer s H args us vs Q E hr e0 hb r hsp=>?_⟩
 have hl:=len _ _ _ _ hsp
 have KX:K.In s.heap:=e0.mod.kin.keeps λb o e=>(e0.bs b o e).1
 have lim:s.heap.NoLimit:=e0.mod.nolimit.keeps λb o e=>(e0.bs b o e).1
 have hkind:∀y∈ps.zip us,scope.names.lookup y.1=some .local\/(scope.names.lookup y.1=some .cell/\((cellsFrom (s.heap.objs.size+1) scope.names []).lookup y.1).isSome=true):=λ⟨n,v⟩ hy=>by
  rcases S.par n (List.of_mem_zip hy).1 with q|q
  ·exact .inl q
  ·exact .inr ⟨q,cellsFrom_some _ _ _ (.inl q)⟩
 refine codeAny_call_function hr.depth (KX _ _ lk) rfl S.co S.gen rfl (PySem.W.codeRec_of KX hcd) (hb _ _ _ _ ?_)
 refine wpAny_newFunctionEnv_cells S.kind hkind λenv he s1 x=>?_
 subst he
 refine⟨lim.keeps x.toInCall.keep,codeAny_func ?_⟩
 obtain⟨t,ht,hq⟩:=hbody A outer s H vs Q E (hr.deeper _) hsp
 have I:Inv (cxOf CX P w K mg base N qual scope f cdv A outer s H E) [] (start N vs) H s1:=inv_start S hr.hd e0 hl r x
 refine ybk (ht [] s1 (start N vs) H _ I hq) (λfl s' hs=>?_) λe s' hs=>hs
 have fin:∀{σ':St}{H':Hp}{v:V}{u:Value},Inv (cxOf CX P w K mg base N qual scope f cdv A outer s H E) [] σ' H' s'->RelV v u->Q v H'->CE outer P w H s Q u s':=
  λ{σ' H' v u} J rv q=>⟨v,H',J.os,J.bare,J.base,J.hok,rv,q⟩
 cases fl with
 |ret u=>
  obtain⟨v,σ',H',J,rv,q⟩:=hs
  exact fin J rv q
 |next=>
  obtain⟨σ',H',J,q⟩:=hs
  exact fin (v:=V.non) (u:=Value.none) J rfl q
 |brk=>
  obtain⟨_,_,_,q⟩:=hs
  exact False.elim q
 |cont=>
  obtain⟨_,_,_,q⟩:=hs
  exact False.elim q
section
variable{X:Cx}{x:Str}{p pos:Pos}{e:Expr}{es:List Expr}{t:TA}{id T:String}{r:List V->Hp->VK->Prop}
def tCB(r:List V->Hp->VK->Prop)(t:TA):TE:=λσ H Q=>t σ H λvs H1=>r vs H1 Q
theorem zz11(hc:CallR X (.builtin id) r)(hg:Gl X x)(hm:X.mg x=none)(hv:bootBuiltins x=some (.builtin id))(ha:PA X (e::es) t)(hn:x ≠ "__name__" := by decide)(hdb:(x == ("__debug__" : Str))=false:=by decide)
  (he:starEach (e::es) X.env=(false,eval e X.env)::starEach es X.env:=by rfl) (hpl:(backTo pos (starEach es X.env)).any (·.1)=false:=by rfl):PE X (.Call (.Name x p) (e::es) [] pos) (tCB r t):=by
 intro pins s σ H Q I h
 refine ycg (ld_blt I hg hm hv ?_ hn hdb)
 exact PyProof.Rows.callWith_builtin1 (thn (ha pos pins s σ H _ I h) λus s1 ⟨vs,H1,I1,r1,q1⟩=>hc pins s1 σ H1 vs us Q I1 r1 q1) he hpl
theorem pe_callTy(hc:CallR X (.type T) r)(hg:Gl X x)(hm:X.mg x=none)(hv:bootBuiltins x=some (.type T))(ha:PA X (e::es) t)(hn:x ≠ "__name__" := by decide)(hdb:(x == ("__debug__" : Str))=false:=by decide)
  (he:starEach (e::es) X.env=(false,eval e X.env)::starEach es X.env:=by rfl) (hpl:(backTo pos (starEach es X.env)).any (·.1)=false:=by rfl):PE X (.Call (.Name x p) (e::es) [] pos) (tCB r t):=by
 intro pins s σ H Q I h
 refine ycg (ld_blt I hg hm hv ?_ hn hdb)
 exact PyProof.Rows.callWith_type1 (thn (ha pos pins s σ H _ I h) λus s1 ⟨vs,H1,I1,r1,q1⟩=>hc pins s1 σ H1 vs us Q I1 r1 q1) he hpl
end
end L2
namespace HT
open PySem PyProof.Rows
section
open PySem.SeqAt
open PySem.AutoSeq1 (wpAny_loadPart')
open PySem.MeetsSeq PySem.MeetsSeq2 PySem.MeetsSeq3
end
section
variable{prog:Program}{w:World}{A:Around}{E:Vs}{s:Shared}
theorem cat_tup(ht:IsTup s.heap t vs.toArray)(hb:IsTup s.heap b ws.toArray)(hv:vs≠[])
  (h1:ws=[]->Q (.ref t) s) (h2:ws≠[]->Q (.ref s.heap.objs.size) { s with heap:=s.heap.push { cls:=.type "tuple", data:=.seq (vs++ws).toArray } })
  (hsz:vs.length+ws.length<=sizeLine):wpAny (model prog w) A (binaryOp .Add (.ref t) (.ref b)) Q E s:=by
 obtain⟨⟨cls,dd,data,sl⟩,ho,hc,n,hd⟩:=id ht
 obtain⟨⟨cls2,dd2,data2,sl2⟩,ho2,hc2,n2,hd2⟩:=id hb
 simp only at hc hd hc2 hd2
 subst hc hd hc2 hd2
 have e:vs.toArray++ws.toArray=(vs++ws).toArray:=by simp
 by_cases hw:ws=[]
 ·exact concat_meets ⟨_,ho,rfl⟩ ⟨_,ho2,rfl⟩ noFill_tuple_add seq_tuple_add PySem.F.slot_tuple_add PySem.F.entry_tuple_add (PySem.F.args_tuple_add_2 _ _)
   (tuple_addW1 t b vs.toArray ws.toArray n n2 dd dd2 sl sl2 (by simpa using hv) (by simp[hw])) ⟨ho,ho2,h1 hw⟩
 ·refine concat_meets ⟨_,ho,rfl⟩ ⟨_,ho2,rfl⟩ noFill_tuple_add seq_tuple_add PySem.F.slot_tuple_add PySem.F.entry_tuple_add (PySem.F.args_tuple_add_2 _ _)
   (tuple_addW2 t b vs.toArray ws.toArray n n2 dd dd2 sl sl2 (by simpa using hv) (by simpa using hw) (by rw[List.size_toArray,List.size_toArray];exact hsz)) ⟨ho,ho2,?_⟩
  rw[e]
  exact h2 hw
noncomputable def sIx(n d:Nat):Option Int->Nat
 |none=>d
 |some v=>if v<0 then (v+(n:Int)).toNat else min v.toNat n
theorem sIx_nat(n d k:Nat):sIx n d (some (k:Int))=min k n:=by
 show(if (k:Int)<0 then ((k:Int)+(n:Int)).toNat else min (k:Int).toNat n)=min k n
 rw[if_neg (by omega),yco]
theorem sIx_le(n d:Nat)(hd:d<=n)(o:Option Int):sIx n d o<=n:=by
 cases o with
 |none=>exact hd
 |some v=>
  show(if v<0 then (v+(n:Int)).toNat else min v.toNat n)<=n
  by_cases hv:v<0
  ·rw[if_pos hv];omega
  ·rw[if_neg hv];exact Nat.min_le_right _ _
theorem clip_eq(v:Int)(n d:Nat):(if v<0 then max (v+(n:Int)) 0 else min v (n:Int))=((sIx n d (some v):Nat):Int):=by
 show(if v<0 then max (v+(n:Int)) 0 else min v (n:Int))=(((if v<0 then (v+(n:Int)).toNat else min v.toNat n):Nat):Int)
 by_cases hv:v<0
 ·simp only[if_pos hv];omega
 ·simp only[if_neg hv];omega
theorem adjust_gen(lo hi:Option Int)(n:Nat):Builtin.Slice.sliceAdjust lo hi 1 (n:Int)=(((sIx n 0 lo:Nat):Int),((sIx n n hi:Nat):Int)):=by
 have h1:¬((1:Int)<0):=by omega
 unfold Builtin.Slice.sliceAdjust
 simp only[h1,if_false]
 refine Prod.ext ?_ ?_
 ·cases lo with
  |none=>rfl
  |some v=>exact clip_eq v n 0
 ·cases hi with
  |none=>rfl
  |some v=>exact clip_eq v n n
theorem places_gen(i j:Nat):Builtin.Slice.slicePlaces (i:Int) (j:Int) 1=j - i:=by
 unfold Builtin.Slice.slicePlaces
 have h1:(1:Int)>0:=by omega
 simp only[h1,if_true,Int.ediv_one]
 split<;>omega
theorem slicePart_(p:IsPart v o)(h:Q o s):wpAny (model prog w) A (Builtin.Slice.slicePartIndex v) Q E s:=by
 cases p with
 |none=>exact slicePart_none h
 |int i t=>exact slicePart_int h
theorem sliceApplied_gen{sl:Addr}{vl vu:Value}{lo hi:Option Int}{n:Nat}{Q:Int×Int×Nat->Shared->Prop}(hs:s.heap.IsSliceOf sl vl vu .none)(pl:IsPart vl lo)(pu:IsPart vu hi)
  (h:Q (((sIx n 0 lo:Nat):Int),1,sIx n n hi - sIx n 0 lo) s):wpAny (model prog w) A (Builtin.Slice.sliceApplied (.ref sl) (pure (n:Int))) Q E s:=by
 obtain⟨os,hos,hcs,hds⟩:=id hs
 unfold Builtin.Slice.sliceApplied Builtin.Slice.sliceFields
 refine yab (yab (ycs hos hds (x:=vl) rfl (yab (ycs hos hds (x:=vu) rfl (yab (ycs hos hds (x:=.none) rfl (yaf ?_)))))))
 refine yab (slicePart_none ?_)
 show wpAny _ _ (if ((1:Int) == 0)=true then _ else _) _ _ s
 rw[if_neg (by decide)]
 refine yab (slicePart_ pl (yab (slicePart_ pu (yab (yaf ?_)))))
 show wpAny _ _ (match Builtin.Slice.sliceAdjust lo hi 1 (n:Int) with | (lo,hi)=>pure (lo,(1:Int),Builtin.Slice.slicePlaces lo hi 1)) _ _ s
 rw[adjust_gen lo hi n]
 show wpAny _ _ (pure (((sIx n 0 lo:Nat):Int),(1:Int),Builtin.Slice.slicePlaces ((sIx n 0 lo:Nat):Int) ((sIx n n hi:Nat):Int) 1)) _ _ s
 rw[places_gen]
 exact yaf h
theorem pick_gen(xs:Array Value)(i k:Nat):((List.range k).filterMap λ(m:Nat)=>xs[((i:Int)+(m:Int) * 1).toNat]?).toArray=((xs.toList.drop i).take k).toArray:=by
 have e:(λ(m:Nat)=>xs[((i:Int)+(m:Int) * 1).toNat]?)=λm=>xs[i+m]?:=by
  funext m
  have:((i:Int)+(m:Int) * 1).toNat=i+m:=by omega
  rw[this]
 rw[e]
 have:=pick_run xs i k
 rw[List.filterMap_map]at this
 have e2:((λx=>xs[x]?) ∘ λx=>i+x)=λm=>xs[i+m]?:=rfl
 rw[e2]at this
 rw[this]
theorem getItem_tuple_cut{t sl:Addr}{items:Array Value}{vl vu:Value}{lo hi:Option Int}{Q:Vs}(ht:IsTup s.heap t items)(hs:s.heap.IsSliceOf sl vl vu .none)(pl:IsPart vl lo)(pu:IsPart vu hi)
  (hw:¬(sIx items.size 0 lo=0/\sIx items.size items.size hi=items.size))
  (h:Q (.ref s.heap.objs.size) { s with heap:=s.heap.push { cls:=.type "tuple", data:=.seq ((items.toList.drop (sIx items.size 0 lo)).take (sIx items.size items.size hi - sIx items.size 0 lo)).toArray } })
  (hsz:items.size<=sizeLine):wpAny (model prog w) A (getItem (.ref t) (.ref sl)) Q E s:=by
 have htake:sizeOk (.seq ((items.toList.drop (sIx items.size 0 lo)).take (sIx items.size items.size hi - sIx items.size 0 lo)).toArray):=by
  show((items.toList.drop (sIx items.size 0 lo)).take (sIx items.size items.size hi - sIx items.size 0 lo)).toArray.size<=sizeLine
  rw[yas,ybe,ycq,ybl]
  omega
 have hj:sIx items.size items.size hi<=items.size:=sIx_le _ _ (yap _) hi
 obtain⟨os,hos,hcs,hds⟩:=id hs
 have hTs:s.TypeIs (.ref sl) "slice" := ⟨os,hos,hcs⟩
 unfold getItem
 try with_reducible refine ybo ?_
 first|refine yab (yaf ?_)|skip
 refine yab (wpAny_sequenceKey ht.typeIs (by decide) ?_)
 refine yab (ycc (name:=Str.ofString "__getitem__") ht.typeIs PyProof.Rows.slot_tuple_getitem
  (yb8 PyProof.Rows.slot_tuple_getitem ht.typeIs entry_tuple_getitem ?_ (args_tuple_getitem _ _)))
 show wpAny _ _ (Builtin.Tuple.tupleItemsOf (.ref t) >>= _) _ _ s
 refine yab (tupleItemsOf_ ht ?_)
 refine yab (wpAny_typeOf hTs ?_)
 rw[if_pos (by decide)]
 refine yab (sliceApplied_gen hs pl pu ?_)
 have hno:¬((((sIx items.size 0 lo:Nat):Int) == 0&&(1:Int) == 1&&(sIx items.size items.size hi - sIx items.size 0 lo) == items.size)=true):=by
  intro q
  rw[ya2,ya2]at q
  have q1:((sIx items.size 0 lo:Nat):Int)=0:=eq_of_beq q.1.1
  have q2:sIx items.size items.size hi - sIx items.size 0 lo=items.size:=eq_of_beq q.2
  exact hw ⟨by omega,by omega⟩
 show wpAny _ _ (if (((sIx items.size 0 lo:Nat):Int) == 0&&(1:Int) == 1&&(sIx items.size items.size hi - sIx items.size 0 lo) == items.size)=true then _ else _) _ _ s
 rw[if_neg hno,pick_gen]
 first
  |exact yab (m:=Builtin.Tuple.tupleExact _) (ybn (yaf ⟨_,rfl,yaf h⟩) htake)
  |exact yab (m:=Builtin.Tuple.tupleExact _) (ybn (yab (yaf (yaf ⟨_,rfl,yaf h⟩))) htake)
  |exact yab (yab (m:=Builtin.Tuple.tupleExact _) (ybn (yaf (yaf ⟨_,rfl,yaf h⟩)) htake))
  |exact yab (yab (m:=Builtin.Tuple.tupleExact _) (ybn (yaf ⟨_,rfl,yaf h⟩) htake))
end
end HT
namespace L2
open PySem PySem.Spec PyProof.Rows
noncomputable abbrev TO:=St->Hp->(Option Int->Hp->Prop)->Prop
def PO(X:Cx)(e:Option Expr)(t:TO):Prop:=
 ∀(pins:Lo) (s:Shared) (σ:St) (H:Hp) (Q:Option Int->Hp->Prop),Inv X pins σ H s->t σ H Q->
  wpAny (model X.prog X.w) X.A (evalPart e X.env) (λu s'=>∃o H',Inv X pins σ H' s'/\IsPart u o/\Q o H') X.xe s
noncomputable def tNoPart:TO:=λ_ H Q=>Q none H
noncomputable def tPart(t:TE):TO:=λσ H Q=>t σ H λx H1=>∃i,x=.int i/\Q (some i) H1
section
variable{X:Cx}{e:Expr}{te:TE}{lo hi:Option Expr}{tl th:TO}{pos p2:Pos}
theorem po_none:PO X none tNoPart:=by
 intro pins s σ H Q I h
 rw[evalPart_none]
 exact yaf ⟨none,H,I,.none,h⟩
theorem po_some(h:PE X e te):PO X (some e) (tPart te):=by
 intro pins s σ H Q I hw
 rw[evalPart_some]
 refine thn (h pins s σ H _ I hw) λu s1 ⟨x,H1,I1,r1,q1⟩=>?_
 obtain⟨i,rfl,q⟩:=q1
 obtain⟨t,rfl⟩:=r1
 exact⟨some i,H1,I1,.int i t,q⟩
def SlR(X:Cx)(r:V->Option Int->Option Int->Hp->VK->Prop):Prop:=
 ∀(pins:Lo) (s:Shared) (σ:St) (H:Hp) (x:V) (v vl vu:Value) (lo hi:Option Int) (sl:Addr) (Q:VK),Inv X pins σ H s->RelV x v->s.heap.IsSliceOf sl vl vu .none->IsPart vl lo->IsPart vu hi->r x lo hi H Q->
  ∃T id,typeLookup (.type T) "__getitem__" = pure (some (.builtin id))/\s.TypeIs v T/\wpAny (model X.prog X.w) X.A (getItem v (.ref sl)) (EP X pins σ Q) X.xe s
def tSl(r:V->Option Int->Option Int->Hp->VK->Prop)(te:TE)(tl th:TO):TE:=λσ H Q=>te σ H λx H1=>tl σ H1 λl H2=>th σ H2 λu H3=>r x l u H3 Q
theorem pe_slice(hr:SlR X r)(he:PE X e te)(hl:PO X lo tl)(hu:PO X hi th):PE X (.Subscript e (.Slice lo hi none p2) pos) (tSl r te tl th):=by
 intro pins s σ H Q I h
 refine Subscript_ (thn (he pins s σ H _ I h) λv s1 ⟨x,H1,I1,r1,q1⟩=>?_)
 refine wpAny_Slice (thn (hl pins s1 σ H1 _ I1 q1) λvl s2 ⟨l,H2,I2,pl,q2⟩=>thn (hu pins s2 σ H2 _ I2 q2) λvu s3 ⟨u,H3,I3,pu,q3⟩=>?_)
 rw[evalPart_none]
 refine yaf ?_
 have I4:Inv X pins σ H3 { s3 with heap:=s3.heap.push { cls:=.type "slice", data:=.fields #[vl,vu,.none] } }:=I3.kept (t':=s3.toks) λb ob q=>yad _ q
 obtain⟨T,id,hT,ht,hg⟩:=hr pins { s3 with heap:=s3.heap.push { cls:=.type "slice", data:=.fields #[vl,vu,.none] } } σ H3 x v vl vu l u s3.heap.objs.size Q I4 r1 (Heap.IsSliceOf.new ..) pl pu q3
 show wpAny (model X.prog X.w) X.A (subscriptTail e (.Slice lo hi none p2) v (.ref s3.heap.objs.size)) (EP X pins σ Q) X.xe { s3 with heap:=s3.heap.push { cls:=.type "slice", data:=.fields #[vl,vu,.none] } }
 exact tail_any (ops:=[.ref s3.heap.objs.size,v]) ht hT hg (by with_unfolding_all rfl)
noncomputable def cutV(xs:List V)(lo hi:Option Int):List V:=(xs.drop (HT.sIx xs.length 0 lo)).take (HT.sIx xs.length xs.length hi - HT.sIx xs.length 0 lo)
theorem cutV_length(xs:List V)(lo hi:Option Int):(cutV xs lo hi).length<=xs.length:=by
 unfold cutV
 rw[ybe,ycq]
 omega
noncomputable def rSlT(K:Wf):V->Option Int->Option Int->Hp->VK->Prop:=λx lo hi H Q=>∃a xs,x=.ref a/\SqT K H a xs/\
 ¬(HT.sIx xs.length 0 lo=0/\HT.sIx xs.length xs.length hi=xs.length)/\∀p,H p=none->Q (.ref p) (upd H p (.tup (cutV xs lo hi)))
theorem sl_tup:SlR X (rSlT X.K):=by
 intro pins s σ H x v vl vu lo hi sl Q I rx hs pl pu h
 obtain⟨a,xs,rfl,hx,hw,q⟩:=h
 cases rx
 obtain⟨its,r,ht,hz⟩:=I.tuple hx
 have hlen:its.toArray.size=xs.length:=by rw[yas];exact r.length.symm
 refine⟨"tuple", _,PyProof.Rows.slot_tuple_getitem.lookup,ht.typeIs,?_⟩
 refine HT.getItem_tuple_cut ht hs pl pu (by rw[hlen];exact hw) ?_ (by rw[hlen];exact hz)
 rw[hlen]
 refine⟨.ref s.heap.objs.size,_,I.laid (t':=s.toks) (o:=.tup (cutV xs lo hi)) (λb ob q=>yad _ q) (yap _) ?_,rfl,q _ (I.hok.fresh (yap _))⟩
 exact⟨yay (cutV_length xs lo hi) hz,_,(r.drop (HT.sIx xs.length 0 lo)).take (HT.sIx xs.length xs.length hi - HT.sIx xs.length 0 lo),IsTup.new _ _⟩
def rCatT(K:Wf):R2:=λx y H Q=>∃a b xs ys,x=.ref a/\y=.ref b/\SqT K H a xs/\SqT K H b ys/\xs≠[]/\xs.length+ys.length<=sizeLine/\
 (ys=[]->Q (.ref a) H)/\(ys≠[]->∀p,H p=none->Q (.ref p) (upd H p (.tup (xs++ys))))
theorem Vals.nil_iff(r:Vals xs us):us=[]↔xs=[]:=by
 cases r with
 |nil=>simp
 |cons _ _=>simp
theorem op_catT:OpR X (binaryOp .Add) (rCatT X.K):=by
 intro pins s σ H x y v u Q I rx ry h
 obtain⟨a,b,xs,ys,rfl,rfl,ha,hb,hx,hz,q1,q2⟩:=h
 cases rx
 cases ry
 obtain⟨its,r1,p1,_⟩:=I.tuple ha
 obtain⟨its2,r2,p2,_⟩:=I.tuple hb
 refine HT.cat_tup p1 p2 (λz=>hx (r1.nil_iff.mp z)) (λz=>⟨.ref a,H,I,rfl,q1 (r2.nil_iff.mp z)⟩) (λz=>?_) (by rw[<-r1.length,<-r2.length];exact hz)
 refine⟨.ref s.heap.objs.size,_,I.laid (t':=s.toks) (o:=.tup (xs++ys)) (λb ob q=>yad _ q) (yap _) ?_,rfl,q2 (λw=>z (r2.nil_iff.mpr w)) _ (I.hok.fresh (yap _))⟩
 exact⟨by rw[yah];exact hz,_,r1.append r2,IsTup.new _ _⟩
end
noncomputable def ixN(n:Nat)(i:Int):Option Nat:=if 0<=i then (if i<n then some i.toNat else none) else if -(n:Int)<=i then some (i+n).toNat else none
noncomputable def atI{α:Type}(xs:List α)(i:Int):Option α:=(ixN xs.length i).bind λj=>xs[j]?
theorem ixN_seq(h:ixN n i=some j):seqIndex? i n=some j/\j<n /\ -(n:Int)<=i/\i<n:=by
 unfold ixN at h
 by_cases h0:0<=i
 ·rw[if_pos h0]at h
  by_cases h1:i<n
  ·rw[if_pos h1]at h
   have e:i.toNat=j:=Option.some.inj h
   exact⟨by rw[seqIndex_of h0 h1,e],by omega,by omega,h1⟩
  ·rw[if_neg h1]at h;cases h
 ·rw[if_neg h0]at h
  by_cases h1 : -(n:Int)<=i
  ·rw[if_pos h1]at h
   have e:(i+n).toNat=j:=Option.some.inj h
   exact⟨by rw[seqIndex_neg (by omega) h1,e],by omega,h1,by omega⟩
  ·rw[if_neg h1]at h;cases h
theorem atI_get{α:Type}{xs:List α}{i:Int}{v:α}(h:atI xs i=some v):∃j,seqIndex? i xs.length=some j/\xs[j]?=some v/\j<xs.length /\ -(xs.length:Int)<=i/\i<xs.length:=by
 unfold atI at h
 cases e:ixN xs.length i with
 |none=>rw[e]at h;cases h
 |some j=>
  rw[e]at h
  obtain⟨h1,h2,h3,h4⟩:=ixN_seq e
  exact⟨j,h1,h,h2,h3,h4⟩
theorem atI_nat{α:Type}{xs:List α}{j:Nat}{v:α}(h:xs[j]?=some v):atI xs (j:Int)=some v:=by
 have hj:j<xs.length:=(yam.mp h).1
 have e:ixN xs.length (j:Int)=some j:=by
  unfold ixN
  rw[if_pos (by omega),if_pos (by omega)];simp
 unfold atI;rw[e];exact h
theorem atI_last{α:Type}(xs:List α)(v:α):atI (xs++[v]) (-1)=some v:=by
 have hl:(xs++[v]).length=xs.length+1:=by simp
 have e:ixN (xs++[v]).length (-1)=some xs.length:=by
  unfold ixN
  rw[hl,if_neg (by decide),if_pos (by omega)]
  congr 1
  omega
 unfold atI
 rw[e]
 show(xs++[v])[xs.length]?=some v
 simp
def PlainIx(b:Expr):Prop:=∀o i,subscripted b false o i=operate [o,i] (getItem o i)
def IxR(X:Cx)(r:R2):Prop:=
 ∀(value slice:Expr) (pins:Lo) (s:Shared) (σ:St) (H:Hp) (x y:V) (v u:Value) (Q:VK),Inv X pins σ H s->RelV x v->RelV y u->r x y H Q->
  subscripted slice false v u=operate [v,u] (getItem v u)->wpAny (model X.prog X.w) X.A (subscriptTail value slice v u) (EP X pins σ Q) X.xe s
def MtR(X:Cx)(id:String)(r:V->List V->Hp->VK->Prop):Prop:=
 ∀(pins:Lo) (s:Shared) (σ:St) (H:Hp) (x:V) (xs:List V) (v:Value) (us:List Value) (Q:VK),Inv X pins σ H s->RelV x v->Vals xs us->r x xs H Q->
  wpAny (model X.prog X.w) X.A (call (.builtin id) (v::us)) (EP X pins σ Q) X.xe s
section
variable{X:Cx}{a b:Expr}{ta tb:TE}{pos:Pos}
theorem pe_ix(hr:IxR X r)(ha:PE X a ta)(hb:PE X b tb)(hs:PlainIx b):PE X (.Subscript a b pos) (tOp r ta tb):=by
 intro pins s σ H Q I h
 exact Subscript_ (binT ha hb I h λv u s2 x y H2 I2 rx ry q=>hr a b pins s2 σ H2 x y v u Q I2 rx ry q (hs _ _))
def rIxL(K:Wf):R2:=λx y H Q=>∃p xs i v,x=.ref p/\y=.int i/\SqL K H p xs/\atI xs i=some v/\Q v H
def rIxT(K:Wf):R2:=λx y H Q=>∃p xs i v,x=.ref p/\y=.int i/\SqT K H p xs/\atI xs i=some v/\Q v H
def rIxS:R2:=λx y H Q=>∃z i c,x=.str z/\y=.int i/\z.length<=sizeLine/\atI z.cps.toList i=some c/\Q (.str ⟨#[c]⟩) H
theorem ix_list:IxR X (rIxL X.K):=by
 intro value slice pins s σ H x y v u Q I rx ry h hs
 obtain⟨p,xs,i,z,rfl,rfl,hq,he,q⟩:=h
 cases rx
 obtain⟨t,rfl⟩:=ry
 obtain⟨its,r,pl,hz⟩:=I.list hq
 obtain⟨j,h1,h2,h3,h4,h5⟩:=atI_get he
 obtain⟨w,ew,rw'⟩:=r.get h2
 have hl:=r.length
 have hn:=line63
 have fin:EP X pins σ Q w s:=⟨z,H,I,rw',q⟩
 by_cases h0:0<=i
 ·have hj:i.toNat=j:=by
   rw[seqIndex_of h0 h5]at h1
   exact Option.some.inj h1
  exact item_listR pl.isList h0 (by omega) (by rw[hj];simpa using ew) fin hs
 ·have hj:(i+(its.toArray.size:Int)).toNat=j:=by
   rw[seqIndex_neg (by omega) h4]at h1
   rw[yas,<-hl]
   exact Option.some.inj h1
  exact subscriptTail_builtinR (x:=w) pl.isList.typeIs slot_list_getitem.lookup
   (wpAny_getItem_list_neg (Q:=λr s'=>r=w/\EP X pins σ Q r s') pl.isList (by omega) (by rw[yas]<;>omega) (by omega) (by rw[hj];simpa using ew) ⟨rfl,fin⟩) hs
theorem ix_tup:IxR X (rIxT X.K):=by
 intro value slice pins s σ H x y v u Q I rx ry h hs
 obtain⟨p,xs,i,z,rfl,rfl,hq,he,q⟩:=h
 cases rx
 obtain⟨t,rfl⟩:=ry
 obtain⟨its,r,pl,hz⟩:=I.tuple hq
 obtain⟨j,h1,h2,h3,h4,h5⟩:=atI_get he
 obtain⟨w,ew,rw'⟩:=r.get h2
 have hl:=r.length
 have hn:=line63
 have fin:EP X pins σ Q w s:=⟨z,H,I,rw',q⟩
 exact subscriptTail_builtinR (x:=w) pl.typeIs slot_tuple_getitem.lookup
  (getItem_tuple (j:=j) (Q:=λr s'=>r=w/\EP X pins σ Q r s') pl (by omega) (by omega) (by rw[yas,<-hl];exact h1) (by simpa using ew) ⟨rfl,fin⟩) hs
theorem ix_str:IxR X rIxS:=by
 intro value slice pins s σ H x y v u Q I rx ry h hs
 obtain⟨z,i,c,rfl,rfl,hz,he,q⟩:=h
 obtain⟨t,rfl⟩:=rx
 obtain⟨t',rfl⟩:=ry
 obtain⟨j,h1,h2,h3,h4,h5⟩:=atI_get he
 have hl:z.cps.toList.length=z.length:=by simp[Str.length]
 rw[hl]at h1 h4 h5
 have hn:=line63
 exact tail_any (typeIs_str s z t) slot_str_getitem.lookup (getItem_str (c:=c) (by
  have e1:decide (i < -(2 ^ 63:Int))=false:=decide_eq_false (by omega)
  have e2:decide (i≥2 ^ 63)=false:=decide_eq_false (by omega)
  rw[e1,e2,Bool.or_false]) (by rw[h1];simpa using h2) ⟨.str ⟨#[c]⟩,H,I.tok _,⟨_,rfl⟩,q⟩) hs
theorem slice_bounds(lo hi:Option Int)(n:Nat):(sliceBounds lo hi none n).1=((HT.sIx n 0 lo:Nat):Int)/\(sliceBounds lo hi none n).2.1=((HT.sIx n n hi:Nat):Int)/\(sliceBounds lo hi none n).2.2=1:=by
 refine⟨?_,?_,rfl⟩
 ·cases lo with
  |none=>simp[sliceBounds,HT.sIx]
  |some i=>
   simp only[sliceBounds,HT.sIx,Option.getD_none,show(1:Int)>0 by decide,if_true]
   by_cases h:i<0
   ·simp only[h,if_true]<;>omega
   ·simp only[h,if_false]<;>omega
 ·cases hi with
  |none=>simp[sliceBounds,HT.sIx]
  |some i=>
   simp only[sliceBounds,HT.sIx,Option.getD_none,show(1:Int)>0 by decide,if_true]
   by_cases h:i<0
   ·simp only[h,if_true]<;>omega
   ·simp only[h,if_false]<;>omega
theorem slicePick_cut(its:List Value)(lo hi:Option Int):slicePick its.toArray lo hi none=((its.drop (HT.sIx its.length 0 lo)).take (HT.sIx its.length its.length hi - HT.sIx its.length 0 lo)).toArray:=by
 obtain⟨h1,h2,h3⟩:=slice_bounds lo hi its.toArray.size
 unfold slicePick
 rw[h1,h2,h3]
 simp only[sliceRange_one,pick_run,List.size_toArray]<;>rfl
noncomputable def rSlL(K:Wf):V->Option Int->Option Int->Hp->VK->Prop:=λx lo hi H Q=>∃a xs,x=.ref a/\SqL K H a xs/\∀p,H p=none->Q (.ref p) (upd H p (.lst (cutV xs lo hi)))
theorem sl_list:SlR X (rSlL X.K):=by
 intro pins s σ H x v vl vu lo hi sl Q I rx hs pl pu h
 obtain⟨a,xs,rfl,hx,q⟩:=h
 cases rx
 obtain⟨its,r,ht,hz⟩:=I.list hx
 have hlen:=r.length
 refine⟨"list", _,slot_list_getitem.lookup,ht.isList.typeIs,?_⟩
 refine wpAny_getItem_list_slice ht.isList hs pl pu .none (by simp) ?_ (by rw[List.size_toArray]<;>omega)
 rw[slicePick_cut,<-hlen]
 refine⟨.ref s.heap.objs.size,_,I.laid (t':=s.toks) (o:=.lst (cutV xs lo hi)) (λb ob q=>yad _ q) (yap _) ?_,rfl,q _ (I.hok.fresh (yap _))⟩
 exact⟨yay (cutV_length xs lo hi) hz,_,0,(r.drop (HT.sIx xs.length 0 lo)).take (HT.sIx xs.length xs.length hi - HT.sIx xs.length 0 lo),yaq _ rfl⟩
noncomputable def flatV:V->Bool
 |.non=>true
 |.bl _=>true
 |.int _=>true
 |.str _=>true
 |_=>false
noncomputable def eqV:V->V->Bool
 |.non,.non=>true
 |.bl a,.bl b=>a == b
 |.bl a,.int b=>(if a then 1 else 0) == b
 |.int a,.bl b=>a == (if b then 1 else 0)
 |.int a,.int b=>a == b
 |.str a,.str b=>a == b
 |_,_=>false
theorem eqAt_V(ry:RelV y u)(rx:RelV x v)(fy:flatV y=true)(fx:flatV x=true):SeqAt.EqAt A s u v (eqV y x):=by
 cases y with
 |non=>
  cases ry
  cases x with
  |non=>cases rx;exact SeqAt.EqAt.same _
  |bl b=>cases rx;exact SeqAt.EqAt.none_bool b
  |int b=>obtain⟨t,rfl⟩:=rx;exact SeqAt.EqAt.none_int b t
  |str b=>obtain⟨t,rfl⟩:=rx;exact SeqAt.EqAt.none_str b t
  |_=>exact absurd (show false=true from fx) yaz
 |bl a=>
  cases ry
  cases x with
  |non=>cases rx;exact SeqAt.EqAt.bool_none a
  |bl b=>cases rx;exact SeqAt.EqAt.bool_bool a b
  |int b=>obtain⟨t,rfl⟩:=rx;exact SeqAt.EqAt.bool_int a b t
  |str b=>obtain⟨t,rfl⟩:=rx;exact SeqAt.EqAt.bool_str a b t
  |_=>exact absurd (show false=true from fx) yaz
 |int a=>
  obtain⟨t',rfl⟩:=ry
  cases x with
  |non=>cases rx;exact SeqAt.EqAt.int_none a t'
  |bl b=>cases rx;exact SeqAt.EqAt.int_bool a t' b
  |int b=>obtain⟨t,rfl⟩:=rx;exact SeqAt.EqAt.int_int a t' b t
  |str b=>obtain⟨t,rfl⟩:=rx;exact SeqAt.EqAt.int_str a t' b t
  |_=>exact absurd (show false=true from fx) yaz
 |str a=>
  obtain⟨t',rfl⟩:=ry
  cases x with
  |non=>cases rx;exact SeqAt.EqAt.str_none a t'
  |bl b=>cases rx;exact SeqAt.EqAt.str_bool a t' b
  |int b=>obtain⟨t,rfl⟩:=rx;exact SeqAt.EqAt.str_int a t' b t
  |str b=>obtain⟨t,rfl⟩:=rx;exact SeqAt.EqAt.str_str a t' b t
  |_=>exact absurd (show false=true from fx) yaz
 |_=>exact absurd (show false=true from fy) yaz
noncomputable def eqU(x:V)(u:Value):Bool:=match u with
 |.none=>eqV .non x
 |.bool b=>eqV (.bl b) x
 |.int i _=>eqV (.int i) x
 |.str z _=>eqV (.str z) x
 |_=>false
theorem eqU_of(r:RelV y u)(f:flatV y=true):eqU x u=eqV y x:=by
 cases y with
 |non=>cases r;rfl
 |bl b=>cases r;rfl
 |int i=>obtain⟨t,rfl⟩:=r;rfl
 |str z=>obtain⟨t,rfl⟩:=r;rfl
 |_=>exact absurd (show false=true from f) yaz
theorem any_eqU:∀{xs:List V}{us:List Value},Vals xs us->xs.all flatV=true->us.any (eqU x)=xs.any λy=>eqV y x
 |_,_,.nil,_=>rfl
 |y::xs,u::us,.cons r t,f=>by
  rw[List.all_cons,ya2]at f
  rw[List.any_cons,List.any_cons,eqU_of r f.1,any_eqU t f.2]
theorem mem_eqAt(rx:RelV x v)(fx:flatV x=true):∀{xs:List V}{us:List Value},Vals xs us->xs.all flatV=true->∀u∈us,SeqAt.EqAt A s u v (eqU x u)
 |_,_,.nil,_=>λu hu=>by cases hu
 |y::xs,u::us,.cons r t,f=>λu' hu=>by
  rw[List.all_cons,ya2]at f
  rcases yau.mp hu with rfl|hu
  ·rw[eqU_of r f.1];exact eqAt_V r rx f.1 fx
  ·exact mem_eqAt rx fx t f.2 u' hu
noncomputable def inV(x:V)(xs:List V):Bool:=xs.any λy=>eqV y x
def rIn(K:Wf)(neg:Bool):R2:=λx y H Q=>∃p xs,y=.ref p/\(SqL K H p xs\/SqT K H p xs)/\flatV x=true/\xs.all flatV=true/\Q (.bl (if neg then !inV x xs else inV x xs)) H
theorem op_in_seq:OpR X (compareOp .In) (rIn X.K false):=by
 intro pins s σ H x y v u Q I rx ry h
 obtain⟨p,xs,rfl,hq,fx,fs,q⟩:=h
 cases ry
 rcases hq with hq|hq
 ·obtain⟨its,r,pl,hz⟩:=I.list hq
  refine SeqAt.in_listAt (eqU x) pl.isList (λw hw=>mem_eqAt rx fx r fs w (by simpa using hw)) ⟨.bl _,H,I,rfl,?_⟩
  rw[show its.toArray.any (eqU x)=its.any (eqU x) by simp,any_eqU r fs]
  exact q
 ·obtain⟨its,r,pl,hz⟩:=I.tuple hq
  refine SeqAt.in_tupleAt (eqU x) pl (λw hw=>mem_eqAt rx fx r fs w (by simpa using hw)) ⟨.bl _,H,I,rfl,?_⟩
  rw[show its.toArray.any (eqU x)=its.any (eqU x) by simp,any_eqU r fs]
  exact q
theorem op_notIn_seq:OpR X (compareOp .NotIn) (rIn X.K true):=by
 intro pins s σ H x y v u Q I rx ry h
 obtain⟨p,xs,rfl,hq,fx,fs,q⟩:=h
 cases ry
 rcases hq with hq|hq
 ·obtain⟨its,r,pl,hz⟩:=I.list hq
  refine SeqAt.notIn_listAt (eqU x) pl.isList (λw hw=>mem_eqAt rx fx r fs w (by simpa using hw)) ⟨.bl _,H,I,rfl,?_⟩
  rw[show its.toArray.any (eqU x)=its.any (eqU x) by simp,any_eqU r fs]
  exact q
 ·obtain⟨its,r,pl,hz⟩:=I.tuple hq
  refine SeqAt.notIn_tupleAt (eqU x) pl (λw hw=>mem_eqAt rx fx r fs w (by simpa using hw)) ⟨.bl _,H,I,rfl,?_⟩
  rw[show its.toArray.any (eqU x)=its.any (eqU x) by simp,any_eqU r fs]
  exact q
theorem call_list_of:CallR X (.type "list") (λxs H Q=>∃p ys,xs=[.ref p]/\(SqL X.K H p ys\/SqT X.K H p ys)/\∀l,H l=none->Q (.ref l) (upd H l (.lst ys))):=by
 intro pins s σ H xs us Q I r h
 obtain⟨p,ys,rfl,hq,q⟩:=h
 obtain⟨u,rfl,rx⟩:=vals1 r
 cases rx
 have fin:∀(its:List Value),Vals ys its->ys.length<=sizeLine->∀(h':Heap) (c':Nat),(∀b o',s.heap.get? b=some o'->h'.get? b=some o')->
   h'.get? s.heap.objs.size=some { cls:=.type "list", dict:=none,data:=.seq its.toArray c',slots:=#[] }->EP X pins σ Q (.ref s.heap.objs.size) { s with heap:=h' }:=λits r' hz h' c' kp e=>
  ⟨.ref s.heap.objs.size,_,I.laid (t':=s.toks) kp (yap _) (show ObjOk X.prog X.w _ h' _ (.lst ys) from ⟨hz,its,c',r',e⟩),rfl,q _ (I.hok.fresh (yap _))⟩
 rcases hq with hq|hq
 ·obtain⟨its,r',pl,hz⟩:=I.list hq
  have hlen:=r'.length
  obtain⟨o,ho,hc,n,hd⟩:=pl.isList
  exact call_list_seq p (.inl rfl) ho hc hd (λh' c' kp e=>fin its r' hz h' c' kp e) (by simp only[List.size_toArray]<;>omega)
 ·obtain⟨its,r',pl,hz⟩:=I.tuple hq
  have hlen:=r'.length
  obtain⟨o,ho,hc,n,hd⟩:=pl
  exact call_list_seq p (.inr rfl) ho hc hd (λh' c' kp e=>fin its r' hz h' c' kp e) (by simp only[List.size_toArray]<;>omega)
def tyV(K:Wf)(T:String)(x:V)(H:Hp):Prop:=match x with
 |.str _=>T = "str"
 |.int _=>T = "int"
 |.ref p=>(T = "list" /\ ∃xs,SqL K H p xs)\/(T = "tuple" /\ ∃o,K.lookup p=some o/\o.cls=.type "tuple" /\ o.dict=none) \/
   (T = "dict" /\ ((∃kvs,H p=some (.dK kvs))\/∃kvs,H p=some (.dT kvs)))\/(T = "set" /\ ∃S n,H p=some (.set S n))
 |_=>False
theorem tyV_is(I:Inv X pins σ H s)(r:RelV x v)(ty:tyV X.K T x H):
  s.TypeIs v T/\∀a,v=.ref a->∃ob,s.heap.get? a=some ob/\ob.dict=none:=by
 cases x with
 |str z=>
  obtain⟨t,rfl⟩:=r
  cases (show T = "str" from ty)
  exact⟨typeIs_str s z t,λ_ e=>nomatch e⟩
 |int i=>
  obtain⟨t,rfl⟩:=r
  cases (show T = "int" from ty)
  exact⟨typeIs_int s i t,λ_ e=>nomatch e⟩
 |ref p=>
  cases r
  rcases ty with ⟨rfl,xs,hq⟩|⟨rfl,o,hk,hc,hd⟩|⟨rfl,hk⟩|⟨rfl,S,n,hk⟩
  ·obtain⟨its,_,pl,_⟩:=I.list hq
   refine⟨pl.isList.typeIs,λa e=>?_⟩
   cases e
   obtain⟨o,n,e,c,hd,_⟩:=pl
   exact⟨o,e,hd⟩
  ·refine⟨⟨o,I.kIn p o hk,hc⟩,λa e=>?_⟩
   cases e
   exact⟨o,I.kIn _ o hk,hd⟩
  ·have z:∃o,s.heap.get? p=some o/\o.ExactDict:=by
    rcases hk with ⟨kvs,hk⟩|⟨kvs,hk⟩
    ·obtain⟨_,_,_,_,o,_,_,e,ex,_⟩:=I.hok p _ hk
     exact⟨o,e,ex⟩
    ·obtain⟨_,_,_,_,o,_,_,e,ex,_⟩:=I.hok p _ hk
     exact⟨o,e,ex⟩
   obtain⟨o,e,ex⟩:=z
   refine⟨⟨o,e,ex.1⟩,λa e2=>?_⟩
   cases e2
   exact⟨o,e,ex.2.1⟩
  ·obtain⟨o,_,_,_,e,ex,_⟩:=I.hok p _ hk
   refine⟨⟨o,e,ex.1⟩,λa e2=>?_⟩
   cases e2
   exact⟨o,e,ex.2.1⟩
 |_=>exact False.elim ty
def tBM0(K:Wf)(T:String)(r:V->List V->Hp->VK->Prop)(to:TE):TE:=λσ H Q=>to σ H λx H1=>tyV K T x H1/\r x [] H1 Q
def tBM(K:Wf)(T:String)(r:V->List V->Hp->VK->Prop)(to:TE)(t:TA):TE:=λσ H Q=>to σ H λx H1=>tyV K T x H1/\t σ H1 λxs H2=>r x xs H2 Q
variable{o e:Expr}{es:List Expr}{to:TE}{t:TA}{name:Str}{apos cpos:Pos}{T id:String}{r:V->List V->Hp->VK->Prop}
theorem pe_bm0(pa:PlainAttrs T)(slot:Slot T name id)(hty:typeOf (.builtin id)=pure (.type "method_descriptor"))(hm:MtR X id r)(ho:PE X o to)
  (hbase:attributeBase o name X.env (eval o X.env)=eval o X.env:=by rfl) (hline:(apos.endLine == cpos.line)=true:=by rfl):PE X (.Call (.Attribute o name apos) [] [] cpos) (tBM0 X.K T r to):=by
 intro pins s σ H Q I h
 refine wpAny_Call_method0_late hbase hline (thn (ho pins s σ H _ I h) λv s1 ⟨x,H1,I1,r1,ty,q1⟩=>?_)
 obtain⟨h1,h2⟩:=tyV_is I1 r1 ty
 exact⟨T,id,pa,slot,hty,h1,h2,Calls.callWith_builtin rfl (PySem.evalArgs_none (hm pins s1 σ H1 x [] v [] Q I1 r1 .nil q1))⟩
theorem pe_bm(pa:PlainAttrs T)(slot:Slot T name id)(hty:typeOf (.builtin id)=pure (.type "method_descriptor"))(hm:MtR X id r)(ho:PE X o to)(ha:PA X (e::es) t)
  (hbase:attributeBase o name X.env (eval o X.env)=eval o X.env:=by rfl)
  (hfew:((backTo cpos (starEach (e::es) X.env)).all (λx=>!x.1)&&(backToKw cpos (keywordEach [] X.env)).all (λx=>x.1.isSome)
   && decide ((e::es).length+([]:List Keyword).length+(if ([]:List Keyword).isEmpty then 0 else 1)<30))=true:=by rfl)
  (hline:(apos.endLine == cpos.line)=true:=by rfl) (hs:starEach (e::es) X.env=(false,eval e X.env)::starEach es X.env:=by rfl) (hplain:(backTo cpos (starEach es X.env)).any (·.1)=false:=by rfl):
  PE X (.Call (.Attribute o name apos) (e::es) [] cpos) (tBM X.K T r to t):=by
 intro pins s σ H Q I h
 refine wpAny_Call_method_late hbase hfew hline rfl (thn (ho pins s σ H _ I h) λv s1 ⟨x,H1,I1,r1,ty,q1⟩=>?_)
 obtain⟨h1,h2⟩:=tyV_is I1 r1 ty
 refine⟨T,id,pa,slot,hty,h1,h2,?_⟩
 have hA:=ha cpos pins s1 σ H1 _ I1 q1
 rw[hs]at hA ⊢
 refine Calls.callWith_builtin (by show(false || (backTo cpos (starEach es X.env)).any (·.1))=false;rw[hplain]<;>rfl) (Calls.evalArgs_plain ?_)
 exact thn hA λus s2 ⟨vs,H2,I2,r2,q2⟩=>hm pins s2 σ H2 x vs v us Q I2 r1 r2 q2
/- xs.append(e),list.index on a module's tuple .. are MtR facts of 06m -/
end
def MtM(X:Cx)(id:String)(r:V->List V->Hp->VK->Prop):Prop:=
 ∀(pins:Lo) (s:Shared) (σ:St) (H:Hp) (x:V) (xs:List V) (v:Value) (us:List Value) (Q:VK),Inv X pins σ H s->RelV x v->Vals xs us->r x xs H Q->
  wpAny (model X.prog X.w) X.A (call (.builtin id) (v::us)) (EP X pins σ Q) X.xe s
theorem Vals.one:∀{x:V}{us:List Value},Vals [x] us->∃u,us=[u]/\RelV x u
 |_,_,.cons r .nil=>⟨_,rfl,r⟩
theorem Vals.zero:∀{us:List Value},Vals [] us->us=[]
 |_,.nil=>rfl
theorem Vals.dropLast(h:Vals xs us):Vals xs.dropLast us.dropLast:=by
 induction h with
 |nil=>exact .nil
 |cons r t ih=>
  cases t with
  |nil=>exact .nil
  |cons q t'=>exact .cons r ih
theorem erase_last{α:Type}(l:List α):l.eraseIdx (l.length - 1)=l.dropLast:=by
 induction l with
 |nil=>rfl
 |cons a r ih=>
  cases r with
  |nil=>rfl
  |cons b r=>
   have e:(a::b::r).length - 1=((b::r).length - 1)+1:=by
    have h1:(a::b::r).length=r.length+2:=rfl
    have h2:(b::r).length=r.length+1:=rfl
    omega
   rw[e,List.eraseIdx_cons_succ,ih]
   all_goals rfl
section
variable{X:Cx}{pins:Lo}{σ:St}{H:Hp}{s:Shared}{l b:Addr}{xs ys zs:List V}
theorem Inv.lset{its its':List Value}{n:Nat}{f:Array Value->Array Value}{t':Nat}(I:Inv X pins σ H s)(hH:H l=some (.lst xs))
  (e:s.heap.get? l=some { cls:=.type "list", data:=.seq its.toArray n }) (hf:f its.toArray=its'.toArray) (hv:Vals ys its') (hz:ys.length<=sizeLine):
  Inv X pins σ (upd H l (.lst ys)) { s with heap:=s.heap.update l (Obj.mapSeq f),toks:=t' }:=by
 have q:=PySem.IsL.update e f
 rw[hf]at q
 refine I.write (x:=l) (e:=l) (by rw[hH];exact trivial) (.inl rfl) (λb' u hb hu=>(ybi s.heap (Obj.mapSeq f) (Ne.symm hb)).trans hu) ⟨_,q⟩ ?_
 exact⟨hz,its',_,hv,q⟩
theorem Inv.lnew(I:Inv X pins σ H s)(hv:Vals ys its)(hz:ys.length<=sizeLine):
  Inv X pins σ (upd H s.heap.objs.size (.lst ys)) { s with heap:=s.heap.push { cls:=.type "list", data:=.seq its.toArray },toks:=t' }:=
 I.laid (λ_ _ q=>yad _ q) (yap _) ⟨hz,its,0,hv,yaq _ rfl⟩
theorem Inv.fresh(I:Inv X pins σ H s):H s.heap.objs.size=none:=I.hok.fresh (yap _)
theorem Inv.lstM(I:Inv X pins σ H s)(hH:H l=some (.lst xs)):xs.length<=sizeLine/\∃(its:List Value) (n:Nat),Vals xs its/\xs.length=its.length/\s.heap.get? l=some { cls:=.type "list", data:=.seq its.toArray n }:=by
 obtain⟨z,its,n,r,e⟩:=I.hok l _ hH
 exact⟨z,its,n,r,r.length,e⟩
theorem notLongL(h:n<=sizeLine):Builtin.List.listTooLong n=false:=by
 unfold Builtin.List.listTooLong
 exact decide_eq_false (by omega)
end
section
variable{X:Cx}
noncomputable def rAppend:V->List V->Hp->VK->Prop:=λx vs H Q=>∃l xs y,x=.ref l/\vs=[y]/\H l=some (.lst xs)/\xs.length<sizeLine/\Q .non (upd H l (.lst (xs++[y])))
theorem zz23:MtM X "list.append" rAppend:=by
 intro pins s σ H x vs v us Q I rx rv h
 obtain⟨l,xs,y,rfl,rfl,hH,hz,q⟩:=h
 cases rx
 obtain⟨u,rfl,ru⟩:=rv.one
 obtain⟨z,its,n,r,hl,e⟩:=I.lstM hH
 refine call_meets F.slot_list_append ⟨_,e,rfl⟩ F.entry_list_append (F.args_list_append_2 _ _) (PySem.list_append l its.toArray n u (by rw[yas];omega)) ⟨e,?_⟩
 refine⟨.non,_,I.lset (its':=its++[u]) hH e (by simp) (r.append (.cons ru .nil)) ?_,rfl,q⟩
 rw[yah,yb2]
 omega
noncomputable def rExtend:V->List V->Hp->VK->Prop:=λx vs H Q=>∃l b xs zs,x=.ref l/\vs=[.ref b]/\H l=some (.lst xs)/\H b=some (.lst zs)/\xs.length+zs.length<=sizeLine/\Q .non (upd H l (.lst (xs++zs)))
theorem mt_extend:MtM X "list.extend" rExtend:=by
 intro pins s σ H x vs v us Q I rx rv h
 obtain⟨l,b,xs,zs,rfl,rfl,hH,hB,hz,q⟩:=h
 cases rx
 obtain⟨u,rfl,ru⟩:=rv.one
 cases ru
 obtain⟨z,its,n,r,hl,e⟩:=I.lstM hH
 obtain⟨z2,its2,n2,r2,hl2,e2⟩:=I.lstM hB
 have hsz:its.toArray.size+its2.toArray.size<=sizeLine:=by rw[yas,yas];omega
 have hlong:¬(!its.toArray.isEmpty&&Builtin.List.listTooLong (its.toArray.size+its2.toArray.size))=true:=by
  rw[notLongL hsz,Bool.and_false]
  exact yaz
 refine call_meets F.slot_list_extend ⟨_,e,rfl⟩ F.entry_list_extend (F.args_list_extend_2 _ _)
  (AutoSeq1.list_extend_list_list_0 l its.toArray n b its2.toArray n2 hlong (by rw[yas];omega) (by omega)) ⟨e,e2,?_⟩
 refine⟨.non,_,I.lset (its':=its++its2) hH e (by simp) (r.append r2) ?_,rfl,q⟩
 rw[yah]
 omega
noncomputable def rPop:V->List V->Hp->VK->Prop:=λx vs H Q=>∃l xs y,x=.ref l/\vs=[]/\H l=some (.lst xs)/\xs[xs.length - 1]?=some y/\Q y (upd H l (.lst xs.dropLast))
theorem mt_pop:MtM X "list.pop" rPop:=by
 intro pins s σ H x vs v us Q I rx rv h
 obtain⟨l,xs,y,rfl,rfl,hH,hy,q⟩:=h
 cases rx
 have hus:=rv.zero
 subst hus
 obtain⟨z,its,n,r,hl,e⟩:=I.lstM hH
 obtain⟨u,hu,ru⟩:=r.get hy
 have hy':its.toArray[its.toArray.size - 1]?=some u:=by
  show its.toArray[its.length - 1]?=some u
  rw[<-yc2,<-hl]
  exact hu
 refine call_meets F.slot_list_pop ⟨_,e,rfl⟩ F.entry_list_pop (F.args_list_pop_1 _) (MeetsSeq.list_pop_last l its.toArray n u hy' (by rw[yas];omega)) ⟨e,?_⟩
 refine⟨y,_,I.lset (its':=its.dropLast) hH e ?_ r.dropLast ?_,ru,q⟩
 ·show its.toArray.eraseIdxIfInBounds (its.toArray.size - 1)=its.dropLast.toArray
  rw[yas,List.eraseIdxIfInBounds_toArray,erase_last]
 ·rw[List.length_dropLast]
  omega
end
section
variable{prog:Program}{w:World}{A:Around}{E:Vs}{s:Shared}
set_option maxRecDepth 100000 in
end
section
variable{X:Cx}
end
section
variable{κ:Type} [DecidableEq κ]
noncomputable def valV(kvs:List (κ×V))(k:κ):Option V:=(kvs.find? λkv=>decide (kv.1=k)).map (·.2)
noncomputable def putK(kvs:List (κ×V))(k:κ)(v:V):List (κ×V):=
 if (kvs.any λkv=>decide (kv.1=k))=true then kvs.map (λkv=>if kv.1=k then (kv.1,v) else kv) else kvs++[(k,v)]
theorem valV_pos{p:κ×V}{r:List (κ×V)}{k:κ}(e:p.1=k):valV (p::r) k=some p.2:=by simp[valV,List.find?_cons,e]
theorem valV_neg{p:κ×V}{r:List (κ×V)}{k:κ}(e:¬p.1=k):valV (p::r) k=valV r k:=by simp[valV,List.find?_cons,e]
theorem valV_any(k:κ):∀kvs:List (κ×V),(kvs.any λkv=>decide (kv.1=k))=(valV kvs k).isSome
 |[]=>rfl
 |p::r=>by
  rw[List.any_cons]
  by_cases e:p.1=k
  ·simp only[valV_pos e,decide_eq_true e,Bool.true_or,Option.isSome_some]
  ·rw[valV_neg e,decide_eq_false e,Bool.false_or];exact valV_any k r
theorem valV_map(k j:κ)(y:V):∀kvs:List (κ×V),valV (kvs.map λkv=>if kv.1=k then (kv.1,y) else kv) j=(valV kvs j).map λx=>if j=k then y else x
 |[]=>rfl
 |p::r=>by
  have ih:=valV_map k j y r
  rw[ybg]
  by_cases h:p.1=k
  ·rw[if_pos h]
   by_cases e:p.1=j
   ·rw[valV_pos (p:=(p.1,y)) e,valV_pos e,Option.map_some,if_pos (e.symm.trans h)]
   ·rw[valV_neg (p:=(p.1,y)) e,valV_neg e,ih]
  ·rw[if_neg h]
   by_cases e:p.1=j
   ·rw[valV_pos (p:=p) e,valV_pos e,Option.map_some,if_neg (λz=>h (e.trans z))]
   ·rw[valV_neg (p:=p) e,valV_neg e,ih]
theorem valV_snoc(k j:κ)(y:V):∀kvs:List (κ×V),valV kvs k=none->valV (kvs++[(k,y)]) j=if j=k then some y else valV kvs j
 |[],_=>by
  by_cases e:k=j
  ·rw[if_pos e.symm];exact valV_pos (p:=(k,y)) e
  ·rw[if_neg (λz=>e z.symm)];exact valV_neg (p:=(k,y)) e
 |p::r,hn=>by
  rw[yc3]
  have hk:¬p.1=k:=λz=>by rw[valV_pos z]at hn;cases hn
  rw[valV_neg hk]at hn
  have ih:=valV_snoc k j y r hn
  by_cases e:p.1=j
  ·rw[valV_pos e,valV_pos e,if_neg (λz=>hk (e.trans z))]
  ·rw[valV_neg e,valV_neg e,ih]
theorem valV_put(kvs:List (κ×V))(k j:κ)(y:V):valV (putK kvs k y) j=if j=k then some y else valV kvs j:=by
 unfold putK
 by_cases a:(kvs.any λkv=>decide (kv.1=k))=true
 ·rw[if_pos a,valV_map]
  rw[valV_any]at a
  by_cases e:j=k
  ·obtain⟨x,hx⟩:=Option.isSome_iff_exists.mp a
   rw[if_pos e,e,hx,Option.map_some,if_pos rfl]
  ·rw[if_neg e]
   cases valV kvs j with
   |none=>rfl
   |some x=>rw[Option.map_some,if_neg e]
 ·rw[if_neg a]
  refine valV_snoc k j y kvs ?_
  rw[valV_any]at a
  cases q:valV kvs k with
  |none=>rfl
  |some x=>rw[q]at a;exact(a rfl).elim
theorem length_putK(kvs:List (κ×V))(k:κ)(v:V):(putK kvs k v).length<=kvs.length+1:=by
 unfold putK
 split
 ·rw[yaa];omega
 ·rw[yah,ya7,List.length_nil];omega
theorem putK_new{kvs:List (κ×V)}{k:κ}(v:V)(h:valV kvs k=none):putK kvs k v=kvs++[(k,v)]:=by
 unfold putK
 rw[valV_any,h]
 exact if_neg (by decide)
theorem RelO.isSome_eq(r:RelO o u):o.isSome=u.isSome:=by
 cases o with
 |none=>cases u with
  |none=>rfl
  |some _=>exact(show False from r).elim
 |some _=>cases u with
  |none=>exact(show False from r).elim
  |some _=>rfl
theorem RelO.getD(r:RelO o u)(rd:RelV d d'):RelV (o.getD d) (u.getD d'):=by
 cases o with
 |none=>cases u with
  |none=>exact rd
  |some _=>exact(show False from r).elim
 |some _=>cases u with
  |none=>exact(show False from r).elim
  |some _=>exact r
theorem KV.val(r:KV kvs vs)(k:κ):RelO (valV kvs k) (valueAt vs k):=by
 unfold KV at r
 induction r with
 |nil=>exact True.intro
 |@cons p q ps qs h t ih=>
  obtain⟨h1,h2⟩:=h
  by_cases e:p.1=k
  ·have e':q.1=k:=h1.symm.trans e
   have b:valueAt (q::qs) k=some q.2:=by simp[valueAt,List.find?_cons,e']
   rw[valV_pos e,b];exact h2
  ·have e':¬q.1=k:=λz=>e (h1.trans z)
   have b:valueAt (q::qs) k=valueAt qs k:=by simp[valueAt,List.find?_cons,e']
   rw[valV_neg e,b];exact ih
theorem KV.any(r:KV kvs vs)(k:κ):(kvs.any λkv=>decide (kv.1=k))=vs.any λkv=>decide (kv.1=k):=by
 unfold KV at r
 induction r with
 |nil=>rfl
 |cons h t ih=>rw[List.any_cons,List.any_cons,ih,h.1]
theorem KV.repl(r:KV kvs vs)(k:κ){y:V}{u:Value}(ry:RelV y u):
  KV (kvs.map λkv=>if kv.1=k then (kv.1,y) else kv) (vs.map λkv=>if kv.1=k then (kv.1,u) else kv):=by
 unfold KV at r ⊢
 induction r with
 |nil=>exact .nil
 |@cons p q ps qs h t ih=>
  rw[ybg,ybg]
  refine .cons ?_ ih
  obtain⟨h1,h2⟩:=h
  by_cases e:p.1=k
  ·rw[if_pos e,if_pos (h1.symm.trans e)];exact⟨h1,ry⟩
  ·rw[if_neg e,if_neg (λz=>e (h1.trans z))];exact⟨h1,h2⟩
theorem KV.put(r:KV kvs vs)(k:κ){y:V}{u:Value}(ry:RelV y u):KV (putK kvs k y) (stored vs k u):=by
 unfold putK stored
 rw[r.any k]
 by_cases e:(vs.any λkv=>decide (kv.1=k))=true
 ·rw[if_pos e,if_pos e];exact r.repl k ry
 ·rw[if_neg e,if_neg e];exact Paired.snoc r ⟨rfl,ry⟩
theorem KV.length(r:KV kvs vs):kvs.length=vs.length:=Paired.length r
end
theorem kV_is(r:RelV (kV k) u):(mixKind P w).is k u=true:=by
 cases k with
 |inl i=>obtain⟨t,e⟩:=(show ∃t,u=Value.int i t from r);subst e;exact mixKind_int P w i t
 |inr x=>obtain⟨t,e⟩:=(show ∃t,u=Value.str x t from r);subst e;exact mixKind_str P w x t
theorem items_are:∀{ks:List Key}{us:List Value},Vals (ks.map kV) us->ItemsAre (mixKind P w) ks us
 |[],_,r=>by rw[List.map_nil]at r;cases r;exact .nil
 |k::ks,_,r=>by
  rw[ybg]at r
  cases r with
  |cons h t=>exact .cons (kV_is h) (items_are t)
noncomputable abbrev KT(H:Hp):List (List Key×V)->List (List Key×Addr×Value)->Prop:=Paired λp q=>p.1=q.1/\H q.2.1=some (.tup (p.1.map kV))/\RelV p.2 q.2.2
theorem KT.val(r:KT H kvs xs)(k:List Key):RelO (valV kvs k) ((atKey xs k).map (·.2)):=by
 induction r with
 |nil=>exact True.intro
 |@cons p q ps qs h t ih=>
  obtain⟨h1,_,h2⟩:=h
  by_cases e:p.1=k
  ·have e':q.1=k:=h1.symm.trans e
   have b:atKey (q::qs) k=some q.2:=by simp[atKey,List.find?_cons,e']
   rw[valV_pos e,b];exact h2
  ·have e':¬q.1=k:=λz=>e (h1.trans z)
   have b:atKey (q::qs) k=atKey qs k:=by simp[atKey,List.find?_cons,e']
   rw[valV_neg e,b];exact ih
theorem KT.repl(r:KT H kvs xs)(k:List Key){y:V}{u:Value}(ry:RelV y u):
  KT H (kvs.map λkv=>if kv.1=k then (kv.1,y) else kv) (xs.map (putAt k u)):=by
 induction r with
 |nil=>exact .nil
 |@cons p q ps qs h t ih=>
  rw[ybg,ybg]
  refine .cons ?_ ih
  obtain⟨h1,h2,h3⟩:=h
  unfold putAt
  by_cases e:p.1=k
  ·rw[if_pos e,if_pos (h1.symm.trans e)];exact⟨h1,h2,ry⟩
  ·rw[if_neg e,if_neg (λz=>e (h1.trans z))];exact⟨h1,h2,h3⟩
theorem KT.put(r:KT H kvs xs)(k:List Key){b:Addr}{y:V}{u:Value}(hb:H b=some (.tup (k.map kV)))(ry:RelV y u):
  KT H (putK kvs k y) (storedH xs k b u):=by
 have e:(kvs.any λkv=>decide (kv.1=k))=(atKey xs k).isSome:=by
  rw[valV_any,(r.val k).isSome_eq,yca]
 unfold putK storedH
 rw[e]
 by_cases q:(atKey xs k).isSome=true
 ·rw[if_pos q,if_pos q];exact r.repl k ry
 ·rw[if_neg q,if_neg q];exact Paired.snoc r ⟨rfl,hb,ry⟩
theorem KT.keeps(r:KT H kvs xs)(ht:∀b ys,H b=some (.tup ys)->H' b=some (.tup ys)):KT H' kvs xs:=
 Paired.mapP r λ_ _ z=>⟨z.1,ht _ _ z.2.1,z.2.2⟩
section
variable{P:Program}{w:World}{H:Hp}{h:Heap}{a:Addr}
theorem rd_of(ok:HOk P w H h)(e:Rd H a u):ObjOk P w H h a u:=e.ok ok
theorem dk_rd(ok:HOk P w H h)(e:Rd H a (.dK kvs)):kvs.length<=sizeLine/\(a == sysModules)=false/\∃vs,KV kvs vs/\h.DictOf (mixKind P w) a vs:=
 show ObjOk P w H h a (.dK kvs) from rd_of ok e
theorem dk_of(ok:HOk P w H h)(e:H a=some (.dK kvs)):kvs.length<=sizeLine/\(a == sysModules)=false/\∃vs,KV kvs vs/\h.DictOf (mixKind P w) a vs:=dk_rd ok (.inl e)
theorem key_of(ok:HOk P w H h)(e:H a=some (.tup (ks.map kV))):(tupleKind (mixKind P w)).is h ks a:=by
 obtain⟨_,its,r,o,h1,h2,n,h3⟩:=(show ObjOk P w H h a (.tup (ks.map kV)) from ok a _ e)
 exact⟨o,its.toArray,n,h1,h2,h3,by simpa using items_are r⟩
theorem dt_rd(ok:HOk P w H h)(e:Rd H a (.dT kvs)):kvs.length<=sizeLine/\(a == sysModules)=false/\
  ∃xs,KT H kvs xs/\h.DictOfH (tupleKind (mixKind P w)) a xs:=by
 obtain⟨z,y,xs,r,o,es,ep,h1,h2,h3,h4,h5⟩:=(show ObjOk P w H h a (.dT kvs) from rd_of ok e)
 refine⟨z,y,xs,r,o,es,ep,h1,h2,h3,h4,λx hx=>?_,h5⟩
 have all:∀{l:List (List Key×V)}{m:List (List Key×Addr×Value)},KT H l m->∀x∈m,(tupleKind (mixKind P w)).is h x.1 x.2.1:=by
  intro l m q
  induction q with
  |nil=>intro x hx;exact nomatch hx
  |@cons p q ps qs hq t ih=>
   intro x hx
   rcases yau.mp hx with e|hx
   ·subst e
    exact key_of ok (by rw[<-hq.1];exact hq.2.1)
   ·exact ih x hx
 exact all r x hx
theorem dt_of(ok:HOk P w H h)(e:H a=some (.dT kvs)):kvs.length<=sizeLine/\(a == sysModules)=false/\
  ∃xs,KT H kvs xs/\h.DictOfH (tupleKind (mixKind P w)) a xs:=dt_rd ok (.inl e)
end
def DGet(H:Hp)(a:Addr)(y:V)(r:Option V):Prop:=
 (∃kvs k,Rd H a (.dK kvs)/\y=kV k/\r=valV kvs k)\/∃kvs k b,Rd H a (.dT kvs)/\y=.ref b/\H b=some (.tup (k.map kV))/\r=valV kvs k
def DPut(H:Hp)(a:Addr)(y v:V)(H':Hp):Prop:=
 (∃kvs k,H a=some (.dK kvs)/\y=kV k/\kvs.length<sizeLine/\H'=upd H a (.dK (putK kvs k v))) \/
 ∃kvs k b,H a=some (.dT kvs)/\y=.ref b/\H b=some (.tup (k.map kV))/\kvs.length<sizeLine/\H'=upd H a (.dT (putK kvs k v))
theorem DGet.k{H:Hp}{a:Addr}{kvs:List (Key×V)}{k:Key}(e:H a=some (.dK kvs)):DGet H a (kV k) (valV kvs k):=.inl ⟨kvs,k,.inl e,rfl,rfl⟩
theorem DPut.k{H:Hp}{a:Addr}{kvs:List (Key×V)}{k:Key}{v:V}(e:H a=some (.dK kvs))(hl:kvs.length<sizeLine):DPut H a (kV k) v (upd H a (.dK (putK kvs k v))):=.inl ⟨kvs,k,e,rfl,hl,rfl⟩
section
variable{X:Cx}{pins:Lo}{σ:St}{H:Hp}{s:Shared}{a:Addr}{y v:V}{u r:Value}{o:Option V}{A:Around}{E:Vs}
theorem Inv.big(I:Inv X pins σ H s):sysModules<s.heap.objs.size:=by
 have h:mainGlobals<s.heap.objs.size:=(I.mod.glob.keeps I.bk).lt
 exact Nat.lt_trans (by decide) h
theorem d_getItem(hu:A.units+1<cLine)(I:Inv X pins σ H s)(g:DGet H a y (some v))(ry:RelV y u)(h:∀w' s',Inv X pins σ H s'->RelV v w'->Q w' s'):
  wpAny (model X.prog X.w) A (getItem (.ref a) u) Q E s:=by
 rcases g with ⟨kvs,k,e,ey,l⟩|⟨kvs,k,b,e,ey,eb,l⟩
 ·subst ey
  obtain⟨z,hd,vs,rel,dd⟩:=dk_rd I.hok e
  obtain⟨w',hw,rw'⟩:=RelO.some_of (v:=v) (o:=valueAt vs k) (by rw[l];exact rel.val k)
  exact wpAny_getItem_of (kV_is ry) dd.mapOf hw (h w' _ (I.tok _) rw')
 ·subst ey
  cases (show u=Value.ref b from ry)
  obtain⟨z,hd,xs,rel,dd⟩:=dt_rd I.hok e
  obtain⟨w',hw,rw'⟩:=RelO.some_of (v:=v) (o:=(atKey xs k).map (·.2)) (by rw[l];exact rel.val k)
  obtain⟨p,hp,hp2⟩:=yao.mp hw
  refine wpAny_getItem_heap (tupleKind_room_in1 hu) (key_of I.hok eb) dd hp ?_
  rw[hp2]
  exact h w' _ (I.tok _) rw'
theorem d_in(hu:A.units+1<cLine)(I:Inv X pins σ H s)(g:DGet H a y o)(ry:RelV y u)(h:∀s',Inv X pins σ H s'->Q (.bool o.isSome) s'):
  wpAny (model X.prog X.w) A (compareOp .In u (.ref a)) Q E s:=by
 rcases g with ⟨kvs,k,e,ey,l⟩|⟨kvs,k,b,e,ey,eb,l⟩
 ·subst ey
  obtain⟨z,hd,vs,rel,dd⟩:=dk_rd I.hok e
  refine wpAny_in_of (kV_is ry) hd dd.mapOf ?_
  rw[<-(rel.val k).isSome_eq,<-l]
  exact h _ (I.tok _)
 ·subst ey
  cases (show u=Value.ref b from ry)
  obtain⟨z,hd,xs,rel,dd⟩:=dt_rd I.hok e
  refine wpAny_in_heap (tupleKind_room_in1 hu) (key_of I.hok eb) hd dd ?_
  have q:=(rel.val k).isSome_eq
  rw[yca]at q
  rw[<-q,<-l]
  exact h _ (I.tok _)
theorem d_notIn(hu:A.units+1<cLine)(I:Inv X pins σ H s)(g:DGet H a y o)(ry:RelV y u)(h:∀s',Inv X pins σ H s'->Q (.bool (!o.isSome)) s'):
  wpAny (model X.prog X.w) A (compareOp .NotIn u (.ref a)) Q E s:=by
 rcases g with ⟨kvs,k,e,ey,l⟩|⟨kvs,k,b,e,ey,eb,l⟩
 ·subst ey
  obtain⟨z,hd,vs,rel,dd⟩:=dk_rd I.hok e
  refine wpAny_notIn_of (kV_is ry) hd dd.mapOf ?_
  rw[<-(rel.val k).isSome_eq,<-l]
  exact h _ (I.tok _)
 ·subst ey
  cases (show u=Value.ref b from ry)
  obtain⟨z,hd,xs,rel,dd⟩:=dt_rd I.hok e
  refine wpAny_notIn_heap (tupleKind_room_in1 hu) (key_of I.hok eb) hd dd ?_
  have q:=(rel.val k).isSome_eq
  rw[yca]at q
  rw[<-q,<-l]
  exact h _ (I.tok _)
theorem d_write(I:Inv X pins σ H s)(mu:Mut (H a))(hs:Heap.SameBut a s.heap h')(he:∃q,h'.get? a=some q)(new:ObjOk X.prog X.w (upd H a ob) h' a ob):
  Inv X pins σ (upd H a ob) { s with heap:=h',toks:=t' }:=
 I.write (x:=a) (e:=a) mu (.inl rfl) (λb q hb z=>(hs.2 b hb).trans z) he new
theorem dk_new(z:kvs.length<=sizeLine)(hd:(a == sysModules)=false)(rel:KV kvs vs)(dd:h'.DictOf (mixKind P w) a vs):
  ObjOk P w H' h' a (.dK kvs):=⟨z,hd,vs,rel,dd⟩
theorem d_setItem(hu:A.units+1<cLine)(I:Inv X pins σ H s)(g:DPut H a y v H')(ry:RelV y u)(rv:RelV v r)(h:∀s',Inv X pins σ H' s'->Q () s'):
  wpAny (model X.prog X.w) A (setItem (.ref a) u r) Q E s:=by
 rcases g with ⟨kvs,k,e,ey,l,eH⟩|⟨kvs,k,b,e,ey,eb,l,eH⟩
 ·subst ey eH
  obtain⟨z,hd,vs,rel,dd⟩:=dk_of I.hok e
  have hz:vs.length<=sizeLine:=by rw[<-rel.length];exact z
  have hl:(putK kvs k v).length<=sizeLine:=by have:=length_putK kvs k v;omega
  refine wpAny_setItem_pairs (hsz:=hz) (kV_is ry) dd λh' dd' hs=>h _ ?_
  have he:∃q,h'.get? a=some q:=let ⟨q,_,_,hq,_⟩:=dd';⟨q,hq⟩
  exact d_write I (by rw[e];exact True.intro) hs he (dk_new hl hd (rel.put k rv) dd')
 ·subst ey eH
  cases (show u=Value.ref b from ry)
  obtain⟨z,hd,xs,rel,dd⟩:=dt_of I.hok e
  have hz:xs.length<=sizeLine:=by rw[<-Paired.length rel];exact z
  have hl:(putK kvs k v).length<=sizeLine:=by have:=length_putK kvs k v;omega
  refine wpAny_setItem_heap (hsz:=hz) (tupleKind_room_in1 hu) (key_of I.hok eb) dd λh' dd' hs=>h _ ?_
  obtain⟨q,es,ep,hq,h2,h3,h4,_,h5⟩:=dd'
  refine d_write I (by rw[e];exact True.intro) hs ⟨q,hq⟩ ⟨hl,hd,_,(rel.put k eb rv).keeps λc ys ec=>?_,q,es,ep,hq,h2,h3,h4,h5⟩
  rw[upd_ne (ne_of ec e (λz=>nomatch z))]
  exact ec
end
section
variable{X:Cx}{pins:Lo}{σ:St}{H:Hp}{s:Shared}{a:Addr}{kvs:List (Key×V)}{k:Key}{u:Value}{A:Around}{E:Vs}
end
def NoSl(i:Expr):Prop:=∀ov iv,subscripted i false ov iv=operate [ov,iv] (getItem ov iv)
theorem subD_of{prog:Program}{w:World}{A:Around}{E:Vs}{s:Shared}{env:Env}{value slice:Expr}{pos:Pos}{T id:String}{Q:Vs}
  (hl:typeLookup (.type T) "__getitem__" = pure (some (.builtin id))) (hs:NoSl slice)
  (h:wpAny (model prog w) A (eval value env) (λo s₁=>wpAny (model prog w) A (eval slice env) (λi s₂=>s₂.TypeIs o T/\wpAny (model prog w) A (getItem o i) Q E s₂) E s₁) E s):
  wpAny (model prog w) A (eval (.Subscript value slice pos) env) Q E s:=by
 refine Subscript_ (ybk h (λo s₁ h₁=>ybk h₁ (λi s₂ h₂=>?_) λ_ _ x=>x) λ_ _ x=>x)
 obtain⟨hT,h₂⟩:=h₂
 unfold subscriptTail
 refine yab ?_
 rw[getitemInPython_of_ne hT.not_modules]
 refine yab (wpAny_specialOf hT hl ?_)
 have fin:wpAny (model prog w) A (subscripted slice false o i) (λr s₃=>wpAny (model prog w) A (letTemporaryGo value o r >>= λ_=>pure r) Q E s₃) E s₂:=by
  rw[hs o i]
  exact wpAny_operating (ybk h₂ (λr s₃ h₃=>yab (wpAny_letTemporaryGo (yaf h₃))) λ_ _ x=>x)
 first
  |exact yaf (yab fin)
  |exact yab (yaf (yab fin))
  |exact yab fin
theorem dict_typeIs(I:Inv X pins σ H s)(g:DGet H a y o):s.TypeIs (.ref a) "dict" := by
 rcases g with ⟨kvs,k,e,_,_⟩|⟨kvs,k,b,e,_,_,_⟩
 ·obtain⟨_,_,vs,_,dd⟩:=dk_rd I.hok e
  exact dd.typeIs
 ·obtain⟨_,_,xs,_,dd⟩:=dt_rd I.hok e
  exact dd.typeIs
def tDGet(td ty:TE):TE:=λσ H Q=>td σ H λx H1=>ty σ H1 λy H2=>∃a v,x=.ref a/\DGet H2 a y (some v)/\Q v H2
def tDIn(ty td:TE):TE:=λσ H Q=>ty σ H λy H1=>td σ H1 λx H2=>∃a o,x=.ref a/\DGet H2 a y o/\Q (.bl o.isSome) H2
def tDNotIn(ty td:TE):TE:=λσ H Q=>ty σ H λy H1=>td σ H1 λx H2=>∃a o,x=.ref a/\DGet H2 a y o/\Q (.bl (!o.isSome)) H2
def sDPut(td ty tv:TE):TS:=λD σ H=>tv σ H λv H1=>td σ H1 λx H2=>ty σ H2 λy H3=>∃a H4,x=.ref a/\DPut H3 a y v H4/\D.nx σ H4
section
variable{X:Cx}{o i e value:Expr}{pos pos' tpos:Pos}{td ty tv:TE}
theorem pe_dget(hu:X.A.units+1<cLine)(ho:PE X o td)(hi:PE X i ty)(hs:NoSl i):PE X (.Subscript o i pos) (tDGet td ty):=by
 intro pins s σ H Q I h
 refine subD_of PySem.F.slot_dict_getitem.lookup hs (thn (ho pins s σ H _ I h) λu s1 ⟨x,H1,I1,rx,q1⟩=>thn (hi pins s1 σ H1 _ I1 q1) λiv s2 ⟨y,H2,I2,ry,a,v,ex,g,q2⟩=>?_)
 subst ex
 obtain rfl:u=Value.ref a:=rx
 exact⟨dict_typeIs I2 g,d_getItem hu I2 g ry λw' s3 I3 rw'=>⟨v,H2,I3,rw',q2⟩⟩
theorem pc_din(hu:X.A.units+1<cLine)(hi:PE X i ty)(ho:PE X o td):PC X .In i o (tDIn ty td):=by
 intro pins s σ H Q I h
 refine thn (hi pins s σ H _ I h) λiv s1 ⟨y,H1,I1,ry,q1⟩=>thn (ho pins s1 σ H1 _ I1 q1) λu s2 ⟨x,H2,I2,rx,a,ov,ex,g,q2⟩=>?_
 subst ex
 obtain rfl:u=Value.ref a:=rx
 exact d_in hu I2 g ry λs3 I3=>⟨.bl ov.isSome,H2,I3,rfl,q2⟩
theorem pc_dnotin(hu:X.A.units+1<cLine)(hi:PE X i ty)(ho:PE X o td):PC X .NotIn i o (tDNotIn ty td):=by
 intro pins s σ H Q I h
 refine thn (hi pins s σ H _ I h) λiv s1 ⟨y,H1,I1,ry,q1⟩=>thn (ho pins s1 σ H1 _ I1 q1) λu s2 ⟨x,H2,I2,rx,a,ov,ex,g,q2⟩=>?_
 subst ex
 obtain rfl:u=Value.ref a:=rx
 exact d_notIn hu I2 g ry λs3 I3=>⟨.bl (!ov.isSome),H2,I3,rfl,q2⟩
theorem ps_dput(hu:X.A.units+1<cLine)(ho:PE X o td)(hi:PE X i ty)(hv:PE X value tv)(hs:swapsWith value (some (.Subscript o i pos')) pos.line X.env=pure false):
  PS X (.Assign [.Subscript o i pos'] value pos) (sDPut td ty tv):=by
 intro pins s σ H D I h
 refine wpAny_Assign_Subscript (thn (hv pins s σ H _ I h) λr s1 ⟨v,H1,I1,rv,q1⟩=>thn (ho pins s1 σ H1 _ I1 q1) λu s2 ⟨x,H2,I2,rx,q2⟩=>thn (hi pins s2 σ H2 _ I2 q2) λiv s3 ⟨y,H3,I3,ry,a,H4,ex,g,q3⟩=>?_) hs
 subst ex
 obtain rfl:u=Value.ref a:=rx
 exact d_setItem hu I3 g ry rv λs4 I4=>⟨σ,H4,I4,q3⟩
end
theorem dk_empty(h:Heap)(hb:sysModules<h.objs.size):ObjOk P w H (h.push { cls:=.type "dict", data:=.dict #[] }) h.objs.size (.dK []):=
 ⟨ya1 _,beq_eq_false_iff_ne.mpr (Ne.symm (yax hb)),[],.nil,Heap.DictOf.new h⟩
def tDNewK:TE:=λ_ H Q=>∀p,H p=none->Q (.ref p) (upd H p (.dK []))
section
variable{X:Cx}{pos:Pos}
theorem pe_dnewK:PE X (.Dict [] [] pos) tDNewK:=λpins s σ H Q I h=>
 wpAny_Dict_empty ⟨.ref s.heap.objs.size,_,I.laid (a:=s.heap.objs.size) (o:=.dK []) (t':=s.toks) (λ_ _ q=>yad _ q) (yap _) (dk_empty s.heap I.big),rfl,h _ (I.hok.fresh (yap _))⟩
end
structure M2(X:Cx)(o:Expr)(m:Str)(apos:Pos)(e f:Expr)(cpos:Pos):Prop where
 base:attributeBase o m X.env (eval o X.env)=eval o X.env
 few:((backTo cpos (starEach [e,f] X.env)).all (λx=>!x.1)&&(backToKw cpos (keywordEach [] X.env)).all (λx=>x.1.isSome)
  && decide (([e,f]:List Expr).length+([]:List Keyword).length+(if ([]:List Keyword).isEmpty then 0 else 1)<30))=true
 line:(apos.endLine == cpos.line)=true
 trees:backTo cpos (starEach [e,f] X.env)=[(false,eval e X.env),(false,eval f X.env)]
def IsD(H:Hp)(a:Addr):Prop:=(∃kvs,Rd H a (.dK kvs))\/∃kvs,Rd H a (.dT kvs)
theorem isD_at(I:Inv X pins σ H s)(d:IsD H a):
  s.TypeIs (.ref a) "dict" /\ (∀b,Value.ref a=.ref b->∃ob,s.heap.get? b=some ob/\ob.dict=none)/\(a == sysModules)=false:=by
 rcases d with ⟨kvs,e⟩|⟨kvs,e⟩
 ·obtain⟨_,hd,vs,_,dd⟩:=dk_rd I.hok e
  refine⟨dd.typeIs,λb q=>?_,hd⟩
  cases q
  obtain⟨ob,_,_,h1,h2,_⟩:=dd
  exact⟨ob,h1,h2.2.1⟩
 ·obtain⟨_,hd,xs,_,dd⟩:=dt_rd I.hok e
  refine⟨dd.typeIs,λb q=>?_,hd⟩
  cases q
  obtain⟨ob,_,_,h1,h2,_⟩:=dd
  exact⟨ob,h1,h2.2.1⟩
section
variable{X:Cx}{pins:Lo}{σ:St}{H:Hp}{s:Shared}{a:Addr}{y d:V}{u r:Value}{o:Option V}{A:Around}{E:Vs}
theorem d_get2(hu:A.units+1<cLine)(I:Inv X pins σ H s)(g:DGet H a y o)(ry:RelV y u)(rd:RelV d r)(h:∀w' s',Inv X pins σ H s'->RelV (o.getD d) w'->Q w' s'):
  wpAny (model X.prog X.w) A (call (.builtin "dict.get") [.ref a,u,r]) Q E s:=by
 rcases g with ⟨kvs,k,e,ey,l⟩|⟨kvs,k,b,e,ey,eb,l⟩
 ·subst ey
  obtain⟨z,hd,vs,rel,dd⟩:=dk_rd I.hok e
  refine call_meetsIn PySem.F.slot_dict_get dd.typeIs PySem.F.entry_dict_get (PySem.F.args_dict_get_3 _ _ _) (meets_dict_get_default (mixKind X.prog X.w) a (kV_is ry) hd r) ⟨_,dd.mapOf,h _ _ (I.tok _) ?_⟩
  rw[l]
  exact(rel.val k).getD rd
 ·subst ey
  cases (show u=Value.ref b from ry)
  obtain⟨z,hd,xs,rel,dd⟩:=dt_rd I.hok e
  refine call_meetsIn PySem.F.slot_dict_get dd.typeIs PySem.F.entry_dict_get (PySem.F.args_dict_get_3 _ _ _) (meetsH_dict_get_default (tupleKind (mixKind X.prog X.w)) a b hd r) ⟨tupleKind_room_in1 hu,k,xs,key_of I.hok eb,dd,h _ _ (I.tok _) ?_⟩
  rw[l]
  exact(rel.val k).getD rd
end
def tDGet1(td ty:TE):TE:=λσ H Q=>td σ H λx H1=>∃a,x=.ref a/\IsD H1 a/\ty σ H1 λy H2=>∃o,DGet H2 a y o/\Q (o.getD .non) H2
def tDGet2(td ty tx:TE):TE:=λσ H Q=>td σ H λx H1=>∃a,x=.ref a/\IsD H1 a/\ty σ H1 λy H2=>tx σ H2 λz H3=>∃o,DGet H3 a y o/\Q (o.getD z) H3
section
variable{X:Cx}{o e f:Expr}{apos cpos:Pos}{td ty tx:TE}
theorem pe_dget2(hu:X.A.units+1<cLine)(ho:PE X o td)(he:PE X e ty)(hf:PE X f tx)(m:M2 X o "get" apos e f cpos):PE X (.Call (.Attribute o "get" apos) [e,f] [] cpos) (tDGet2 td ty tx):=by
 intro pins s σ H Q I h
 refine wpAny_Call_method m.base m.few m.line PySem.F.plainAttrs_dict PySem.F.slot_dict_get PySem.F.type_dict_get (thn (ho pins s σ H _ I h) λu s1 ⟨x,H1,I1,rx,a,ex,d,q1⟩=>?_)
 subst ex
 obtain rfl:u=Value.ref a:=rx
 obtain⟨t1,t2,_⟩:=isD_at I1 d
 refine⟨t1,t2,?_⟩
 rw[m.trees]
 refine Calls.callWith_builtin rfl (Calls.evalArgs_plain (Calls.spliced_cons (thn (he pins s1 σ H1 _ I1 q1) λiv s2 ⟨y,H2,I2,ry,q2⟩=>
  Calls.spliced_cons (thn (hf pins s2 σ H2 _ I2 q2) λfv s3 ⟨z,H3,I3,rz,ov,g,q3⟩=>Calls.spliced_nil ?_))))
 exact d_get2 hu I3 g ry rz λw' s4 I4 rw'=>⟨_,H3,I4,rw',q3⟩
end
section
variable{X:Cx}{pins:Lo}{σ:St}{H:Hp}{s:Shared}{a:Addr}{kvs:List (Key×V)}{A:Around}{E:Vs}
end
section
variable{X:Cx}{pins:Lo}{σ:St}{H:Hp}{s:Shared}{a:Addr}{y:V}{u:Value}{A:Around}{E:Vs}
end
end L2
namespace Att
open PySem PySem.W PySem.Calls PyProof.Rows
theorem ints_of_wellAll:∀(ns:List Int) (vs:List Value),WellAll P h vs (ns.map WData.int)->IntsAre vs ns:=by
 intro ns
 induction ns with
 |nil=>
  intro vs w
  rw[List.map_nil]at w
  cases w
  exact .nil
 |cons n ns ih=>
  intro vs w
  rw[ybg]at w
  cases w with
  |cons a b=>
   cases a
   exact .cons _ _ (ih _ b)
theorem script_of{l:OpenLaw}{n:Nat}(hn:l.most=some n){P:Params}{h:Heap}{args:List WData}{vals:List Value}
  (hpre:l.row.toRowW.claim.pre args=true) (hwl:WellAll P h vals args):
  ∃a vs ns,vals=[Value.ref a]/\args=[WData.list (ns.map WData.int)]/\h.get? a=some { cls:=.type "list", data:=.seq vs.toArray }/\IntsAre vs ns/\ns.length<=n:=by
 have hsh:WShape.hasAll [] args [.list .int]=true:=(pre_splitW hpre).1
 have hc:l.pre.holds [] { args:=args }=true:=(pre_splitW hpre).2
 obtain⟨d,r,rfl,h1,h2⟩:=hasAllW_cons hsh
 obtain rfl:=hasAllW_nil h2
 obtain⟨xs,rfl,h3⟩:=hasW_list h1
 obtain⟨ns,rfl⟩:=items_int h3
 have hlen:ns.length<=n:=by
  unfold OpenLaw.pre at hc
  have h4:(WTm.not (.lt (.lit (.int (n:Int))) (.len (.arg 0)))).holds [] { args:=[.list (ns.map .int)] }=true:=by
   have h4:=(holds_andW hc).1
   rw[hn]at h4
   exact h4
  have h5:=condW_of h4 (w_not (w_lt w_lit (w_len_list (w_arg rfl))))
  rw[yaa]at h5
  refine Nat.le_of_not_lt λq=>?_
  have q':(n:Int)<((ns.length:Nat):Int):=by omega
  first
   | (rw[decide_eq_true q']at h5;exact absurd h5 (by decide))
   | (simp at h5;omega)
 cases hwl with
 |cons w1 w2=>
  cases w2
  cases w1 with
  |list ho hall=>exact⟨_,_,ns,rfl,rfl,ho,ints_of_wellAll ns _ hall,hlen⟩
theorem post_true(l:OpenLaw)(args:List WData):l.row.toRowW.claim.post args (.bool true) args=true:=
 postW_of (r:=l.row.toRowW) (X:=(true == true))
  (show WShape.has [] (.bool true) .bool=true by first|rfl|decide|simp[WShape.has,WShape.arms,WShape.armsAll])
  (show(WTm.eq .res (.lit (.bool true))).value [] { args:=args,res:=some (.bool true),after:=args }=some (.bool (true == true)) from w_eq_bool (w_res rfl) w_lit) rfl
theorem attach_call{l:OpenLaw}{n:Nat}{q:Program}{loose:List Str}{XP:(Str->Option Value)->Heap->Prop}{YP:World->Heap->Prop}{d:DefRec}
  (hn:l.most=some n) (hdf:d.params.defaults=[])
  (call:∀(w:World) (s₀ s₁:Shared) (mg mb:So) (fa:Addr) (o:Obj) (pm cd doc:Value) (a:Addr) (vs:List Value) (ns:List Int),
   Ground q loose [] XP w s₀ mg mb s₁.heap->YP w s₁.heap->
   s₁.heap.get? fa=some o->o.data=.func (docDef d.name d.params d.body d.scope pm cd doc)->s₁.heap.CodeRec cd d.name->mg d.name=some (.ref fa)->
   s₁.heap.get? a=some { cls:=.type "list", data:=.seq vs.toArray }->IntsAre vs ns->ns.length<=n->s₁.gens=#[]->
   codeAny (model l.prog w) callerA (.call (.ref fa) ⟨[.ref a],[]⟩) (λr s'=>r=.ok (.ret (.bool true))/\OldK s₁.heap s'.heap/\s'.os=s₁.os/\AllBare s'.gens) s₁):
  WalkO q loose XP YP l.row.toRowW d [] (λf vs=>PySem.call f vs):=by
 intro w s₀ s₁ mg mb G Y fa o pm cd doc dV kV ho hd hcd hD hmg hg args vals as hpre hlay hrd hwl hlo
 obtain rfl:dV=.none:=Dflts.none hD hdf
 obtain rfl:kV=.none:=Dflts.noKw hD
 obtain⟨a,vs,ns,rfl,rfl,hobj,hints,hlen⟩:=script_of hn hpre hwl
 refine enter_call (codeAny_mono (call w s₀ s₁ mg mb fa o pm cd doc a vs ns G Y ho (fd_plain hd) hcd hmg hobj hints hlen hg) λr s' hq=>?_)
 obtain⟨rfl,h2,h3,h4⟩:=hq
 exact⟨.inl ⟨.bool true,.bool true,[],rfl,λ_=>rfl,.bool true,post_true l _,λ_=>⟨List.Pairwise.nil,λ_ hm=>(nomatch hm)⟩⟩,h2,h3,h4⟩
section
variable{prog:Program}{w:World}{A:Around}{E:Vs}{s:Shared}{K:Frag}
noncomputable def ledger(h:Heap)(L d:Addr):Lo:=(List.range h.objs.size).filterMap λa=>if a=L\/a=d then none else (h.get? a).map λo=>(a,o)
end
end Att
namespace L2
open PySem PySem.Spec PyProof.Rows
theorem vals_ints:∀{vs:List Value}{ns:List Int},IntsAre vs ns->Vals (ns.map V.int) vs
 |_,_,.nil=>.nil
 |_,_,.cons n t h=>.cons ⟨t,rfl⟩ (vals_ints h)
noncomputable def inClass(s:Stmt)(j:Nat):Stmt:=match s with
 |.ClassDef _ _ _ body _ _ _ _ _ _ _=>body.getD j (.Pass ⟨0,0,0,0⟩)
 |_=>.Pass ⟨0,0,0,0⟩
noncomputable def defArgs(s:Stmt):Arguments:=match s with
 |.FunctionDef _ a _ _ _ _ _ _ _ _=>a
 |_=>{ posonlyargs:=[],args:=[],vararg:=none,kwonlyargs:=[],kw_defaults:=[],kwarg:=none,defaults:=[] }
noncomputable def defBody(s:Stmt):List Stmt:=match s with
 |.FunctionDef _ _ b _ _ _ _ _ _ _=>b
 |_=>[]
noncomputable def defScope(s:Stmt):Scope:=match s with
 |.FunctionDef _ _ _ _ _ _ sc _ _ _=>sc
 |_=>{ kind:=.function,names:=[],isGenerator:=false,isCoroutine:=false }
noncomputable abbrev CX0:CXT:=λ_ _ _ _ _ _=>False
noncomputable abbrev E0:XK:=λ_ _ _=>False
theorem pass0:Passes CX0 X E0:=λ_ _ _ _ _ _ _ h=>h.elim
structure Fun(K:Wf)(x qual:Str)(st:Stmt)(f:Addr)(fd:FuncData):Prop where
 ex:∃(oc:Value) (od:Option Addr) (kV doc pm:Value) (an:Option Addr) (cdv ct:Value) (osl:Array (Option Value)),
  fd=fnOf x qual (defArgs st) (defBody st) (defScope st) .none kV doc pm an cdv ct/\K.lookup f=some ⟨oc,od,.func fd,osl⟩/\codeIn K cdv qual=true
 kp:keepIn K (.ref f)=true
section
variable{P:Program}{w:World}{K:Wf}{mg:So}{base:Heap}
theorem Fun.ok{x qual:Str}{st:Stmt}{f:Addr}{fd:FuncData}{N ps:List Str}{k:Nat}{sp:Sp}(F:Fun K x qual st f fd)(S:FnScope N ps (defScope st))(len:∀vs H Q E,sp vs H Q E->vs.length=ps.length)
  (hbody:∀(cdv:Value) (A:Around) (outer:List Env) (s:Shared) (H:Hp) (vs:List V) (Q:VK) (E:XK),Room k (A.deeper (envOfC qual (defScope st) s.heap.objs.size f cdv))->sp vs H Q E->
   ∃t,PSs (cxOf CX0 P w K mg base N qual (defScope st) f cdv A outer s H E).nox (defBody st) t/\t { nx:=λ_ H'=>Q .non H',rt:=Q } (start N vs) H):FnOk P w K mg base CX0 (k+1) f fd ps sp:=by
 obtain⟨oc,od,kV,doc,pm,an,cdv,ct,osl,rfl,lk,hcd⟩:=F.ex
 refine fn_of lk hcd S len λA outer s H vs Q E hr hsp=>?_
 obtain⟨t,h,q⟩:=hbody cdv A outer s H vs Q E hr hsp
 exact⟨t,h.nox,q⟩
theorem Fun.binds{x qual:Str}{st:Stmt}{f:Addr}{fd:FuncData}{ps:List Str}(F:Fun K x qual st f fd)
  (h:∀(kV doc pm:Value) (an:Option Addr) (cdv ct:Value) (us:List Value),us.length=ps.length->bindArgs (fnOf x qual (defArgs st) (defBody st) (defScope st) .none kV doc pm an cdv ct) ⟨us,[]⟩=pure (ps.zip us)):Binds K fd ps []:=by
 obtain⟨oc,od,kV,doc,pm,an,cdv,ct,osl,rfl,lk,hcd⟩:=F.ex
 exact .all (h kV doc pm an cdv ct)
theorem fun_mk{x qual:Str}{st:Stmt}{f:Addr}{oc:Value}{od an:Option Addr}{osl:Array (Option Value)}{kV doc pm cdv ct:Value}(l:K.lookup f=some ⟨oc,od,.func (fnOf x qual (defArgs st) (defBody st) (defScope st) .none kV doc pm an cdv ct),osl⟩)
  (c:codeIn K cdv qual=true) (k:keepIn K (.ref f)=true):Fun K x qual st f (fnOf x qual (defArgs st) (defBody st) (defScope st) .none kV doc pm an cdv ct):=⟨⟨oc,od,kV,doc,pm,an,cdv,ct,osl,rfl,l,c⟩,k⟩
end
theorem hu_of(hr:Room k A):A.units+1<cLine:=Nat.lt_of_le_of_lt (Nat.add_le_add_left (by decide:1<=64) _) hr.units
section
variable{X:Cx}
noncomputable def visB(sc:Scope)(x:Str):Bool:=match sc.names.lookup x with
 |some .local=>true
 |some .cell=>true
 |some .free=>true
 |_=>false
noncomputable def varB(N:List Str)(sc:Scope)(i:Nat)(x:Str):Bool:=match N[i]? with
 |some y=>decide (y=x)&&(visB sc x&&(!(x == ("__debug__" : Str)) && !(x == ("__classdict__" : Str))))
 |none=>false
theorem pv(i:Nat){x:Str}{pos:Pos}(h:varB X.N X.env.scope i x=true:=by kernel_rfl):PE X (.Name x pos) (tVar i):=by
 unfold varB at h
 split at h
 ·rename_i y hy
  rw[ya2,ya2,ya2]at h
  obtain⟨h1,h2,h3,h4⟩:=h
  refine pe_var (hy.trans (congrArg some (of_decide_eq_true h1))) ?_ (by simpa using h3) (by simpa using h4)
  unfold visB at h2
  split at h2
  ·rename_i e;exact .inl e
  ·rename_i e;exact .inr (.inl e)
  ·rename_i e;exact .inr (.inr e)
  ·cases h2
 ·cases h
end
theorem iteF{A B:Prop}(h:B):if false=true then A else B:=by
 rw[if_neg yaz]
 exact h
theorem iteT{A B:Prop}(h:A):if true=true then A else B:=by
 rw[if_pos rfl]
 exact h
theorem ite2{c A B:Prop} [Decidable c](h1:c->A)(h2:¬c->B):if c then A else B:=by
 by_cases h:c
 ·rw[if_pos h]
  exact h1 h
 ·rw[if_neg h]
  exact h2 h
def Same(H H':Hp):Prop:=∀b o,H b=some o->H' b=some o
theorem Same.refl(H:Hp):Same H H:=λ_ _ h=>h
theorem Same.trans(a:Same H H1)(b:Same H1 H2):Same H H2:=λc o h=>b c o (a c o h)
theorem Same.free(e:Same H H'){l:Addr}(h:H' l=Option.none):H l=Option.none:=by
 cases q:H l with
 |none=>rfl
 |some o=>
  rw[e l o q]at h
  cases h
theorem Same.seq{K:Wf}{H H':Hp}{a:Addr}{xs:List V}(e:Same H H')(h:SqL K H a xs):SqL K H' a xs:=by
 rcases h with (h|⟨o,h⟩)|h
 ·exact .inl (.inl (e _ _ h))
 ·exact .inl (.inr ⟨o,e _ _ h⟩)
 ·exact .inr h
section
variable{X:Cx}
end
section
variable{κ:Type} [DecidableEq κ]
end
noncomputable def clOf(env:Env):List (Str×NameKind)->List (Str×Addr)->List (Str×Addr)
 |[],acc=>acc
 | (n,k)::r,acc=>clOf env r (if (k == NameKind.free)=true then (n,(env.cells.lookup n).getD 0)::acc else acc)
theorem clOf_ok:∀(ns:List (Str×NameKind)) (acc:List (Str×Addr)),(∀x∈ns,x.2=.free->∃c,env.cells.lookup x.1=some c)->
  (∀x c,acc.lookup x=some c->env.cells.lookup x=some c)->∀x c,(clOf env ns acc).lookup x=some c->env.cells.lookup x=some c
 |[],acc,_,ha=>ha
 | (n,k)::r,acc,hn,ha=>by
  refine clOf_ok r _ (λx hx=>hn x (yaw _ hx)) ?_
  intro x c e
  by_cases hk:(k == NameKind.free)=true
  ·rw[if_pos hk]at e
   have hk':k=.free:=by simpa using hk
   obtain⟨c',ec⟩:=hn (n,k) ya5 hk'
   rw[ycp]at e
   cases hx:x == n with
   |true=>
    rw[hx]at e
    have:x=n:=by simpa using hx
    subst this
    have ec':List.lookup x env.cells=some c':=ec
    rw[ec']at e
    simp at e
    rw[<-e];exact ec'
   |false=>rw[hx]at e;exact ha x c e
  ·rw[if_neg hk]at e;exact ha x c e
theorem clOf_keep:∀(ns:List (Str×NameKind)) (acc:List (Str×Addr)) (x:Str),(∃c,acc.lookup x=some c)->∃c,(clOf env ns acc).lookup x=some c
 |[],acc,x,h=>h
 | (n,k)::r,acc,x,h=>by
  refine clOf_keep r _ x ?_
  by_cases hk:(k == NameKind.free)=true
  ·rw[if_pos hk,ycp]
   cases hx:x == n with
   |true=>exact⟨_,rfl⟩
   |false=>exact h
  ·rw[if_neg hk];exact h
theorem clOf_has:∀(ns:List (Str×NameKind)) (acc:List (Str×Addr)) (x:Str),(x,NameKind.free)∈ns->∃c,(clOf env ns acc).lookup x=some c
 |[],acc,x,h=>absurd h (by simp)
 | (n,k)::r,acc,x,h=>by
  rcases yau.mp h with e|e
  ·injection e with e1 e2
   subst e1 e2
   refine clOf_keep r _ x ⟨(env.cells.lookup x).getD 0,?_⟩
   rw[if_pos (by decide)]
   simp
  ·exact clOf_has r _ x e
theorem closureFor_eq{scope:Scope}(h:∀x∈scope.names,x.2=.free->∃c,env.cells.lookup x.1=some c):closureFor scope env=pure (clOf env scope.names []):=by
 have key:∀(ns:List (Str×NameKind)) (acc:List (Str×Addr)),(∀x∈ns,x.2=.free->∃c,env.cells.lookup x.1=some c)->
   (do let r <-forIn (m:=Sem) ns acc (λx r=>if (x.2 == NameKind.free)=true then do let c <-cellOf env x.1;pure (ForInStep.yield ((x.1,c)::r)) else pure (ForInStep.yield r));pure r:Sem (List (Str×Addr)))=pure (clOf env ns acc):=by
  intro ns
  induction ns with
  |nil=>intro acc _;rfl
  |cons y r ih=>
   intro acc hy
   obtain⟨n,k⟩:=y
   rw[List.forIn_cons]
   by_cases hk:(k == NameKind.free)=true
   ·have hk':k=.free:=by simpa using hk
    obtain⟨c,ec⟩:=hy (n,k) ya5 hk'
    have ec':List.lookup n env.cells=some c:=ec
    have e1:cellOf env n=pure c:=by unfold cellOf;rw[ec']
    simp only[hk,if_true,e1]
    have:=ih ((n,c)::acc) λx hx=>hy x (yaw _ hx)
    show _=pure (clOf env r (if (k == NameKind.free)=true then (n,(List.lookup n env.cells).getD 0)::acc else acc))
    rw[if_pos hk,ec']
    exact this
   ·simp only[hk]
    have:=ih acc λx hx=>hy x (yaw _ hx)
    show _=pure (clOf env r (if (k == NameKind.free)=true then (n,(List.lookup n env.cells).getD 0)::acc else acc))
    rw[if_neg hk]
    exact this
 simp only[closureFor]
 rw[key scope.names [] h]
 rfl
section
variable{prog:Program}{w:World}{A:Around}{R:Result->Shared->Prop}{s:Shared}
theorem compLoop_any{elt target iter:Expr}{scope:Scope}(I:Nat->Shared->Prop)
  (turn:∀n s,I n s->wpAny (model prog w) A (pyNext it) (λr s₁=>match r with
   |none=>R (.ok .next) s₁
   |some v=>wpAny (model prog w) A (letOwnedTupleGo target it v) (λ_ s₁'=>wpAny (model prog w) A (assign target env v) (λ_ s₂=>
     wpAny (model prog w) A (forIn ifs true λc r=>if r=true then do let ok <-isTrue c env (eval c env);pure (ForInStep.yield ok) else pure (ForInStep.yield r)) (λok s₃=>
      if ok=true then wpAny (model prog w) A (eval elt env) (λx s₄=>
       wpAny (model prog w) A (call (.builtin "list.append") [acc,x]) (λ_ s₅=>∃m,m<n/\I m s₅) (λ_ _=>False) s₄) (λ_ _=>False) s₃
      else ∃m,m<n/\I m s₃) (λ_ _=>False) s₂) (λ_ _=>False) s₁') (λ_ _=>False) s₁) (λ_ _=>False) s)
  (n:Nat) (h:I n s):
  codeAny (model prog w) A (.compLoop (.ListComp elt [⟨target,iter,ifs,0⟩] scope pos) 0 it acc env) R s:=by
 refine codeAny_loop rfl I (λn s hI=>?_) n h
 show wpAny _ A ((compTurn (.ListComp elt [⟨target,iter,ifs,0⟩] scope pos) 0 it acc env).onRaise (λx=>do noteFrame x env;theTreesLotGoes x)) _ _ s
 refine wpAny_noted ?_
 rw[compTurn_list]
 refine yab (wpAny_standAt (yab (ybk (turn n s hI) (λr s₁ h₁=>?_) λ_ _ h'=>h'.elim)))
 cases r with
 |none=>exact yaf h₁
 |some v=>
  refine yab (ybk h₁ (λ_ s₁' h₁'=>?_) λ_ _ h'=>h'.elim)
  refine yab (ybk h₁' (λ_ s₂ h₂=>yab (ybk h₂ (λok s₃ h₃=>?_) λ_ _ h'=>h'.elim)) λ_ _ h'=>h'.elim)
  cases ok with
  |false=>exact yaf ⟨rfl,h₃⟩
  |true=>
   exact yab (yab (ybk h₃ (λx s₄ h₄=>yab (ybk h₄ (λ_ s₅ h₅=>yaf (yaf ⟨rfl,h₅⟩)) λ_ _ h'=>h'.elim)) λ_ _ h'=>h'.elim))
end
noncomputable def blk(X:Cx)(N':List Str)(scope:Scope)(fp:List Addr)(s:Shared)(H:Hp):Cx:=
 { X with N:=N',s₀:=s,H₀:=H,env:=compEnvC scope (clOf X.env scope.names []) s.heap.objs.size X.env,outer:=X.stack,stack:=X.stack,ex:=fp,fn:=λ_=>false,xe:=λ_ _=>False }
def PTs(X:Cx)(ifs:List Expr)(t:TT):Prop:=
 ∀(pins:Lo) (s:Shared) (σ:St) (H:Hp) (Q:Bool->Hp->Prop),Inv X pins σ H s->t σ H Q->
  wpAny (model X.prog X.w) X.A (forIn ifs true λc r=>if r=true then do let ok <-isTrue c X.env (eval c X.env);pure (ForInStep.yield ok) else pure (ForInStep.yield r)) (TP X pins σ Q) X.xe s
def tYes:TT:=λ_ H Q=>Q true H
theorem pts_nil:PTs X [] tYes:=λ_ _ _ H _ I h=>wpAny_tests_nil ⟨H,I,h⟩
theorem pts_one(h:PT X c t):PTs X [c] t:=λpins s σ H Q I q=>wpAny_tests_one (h pins s σ H Q I q)
set_option genInjectivity true in
inductive Ext:St->St->Prop
 |nil:Ext [] []
 |no {σ τ:St}{a:Option V}:Ext σ τ->Ext (none::σ) (a::τ)
 |yes {σ τ:St}{v:V}:Ext σ τ->Ext (some v::σ) (some v::τ)
theorem Ext.len:∀{σ τ:St},Ext σ τ->σ.length=τ.length
 |_,_,.nil=>rfl
 |_,_,.no h=>by simp[h.len]
 |_,_,.yes h=>by simp[h.len]
theorem Ext.get:∀{σ τ:St},Ext σ τ->∀(i:Nat) (v:V),σ[i]?=some (some v)->τ[i]?=some (some v)
 |_,_,.nil,i,v,e=>e
 |_,_,.no h,0,v,e=>by simp at e
 |_,_,.no h,i+1,v,e=>by simpa using h.get i v (by simpa using e)
 |_,_,.yes h,0,v,e=>by simpa using e
 |_,_,.yes h,i+1,v,e=>by simpa using h.get i v (by simpa using e)
noncomputable def blkSt(k:Nat)(fm:List Nat)(σ:St):St:=List.replicate k none++fm.map λj=>(σ[j]?).join
def tComp(k:Nat)(fm:List Nat)(wi:TI)(g:TG)(tt:TT)(te:TE):TE:=λσ H Q=>wi σ H λJ H1=>∀D,H1 D=none->∃W:Nat->Nat->List V->Hp->Prop,
 (∃m,W 0 m [] (upd H1 D (.lst [])))/\∀i m ys H2,W i m ys H2->H2 D=some (.lst ys)/\ys.length<sizeLine/\((J.stop i H2/\Q (.ref D) H2)\/(J.go i H2/\∃N:List V->Hp->Prop,(∀ys' H',N ys' H'->∃m',m'<m/\W (i+1) m' ys' H')/\∀x H3,J.yld i H2 x H3->
  g x (blkSt k fm σ) H3 λσ3 H4=>Ext (blkSt k fm σ) σ3/\tt σ3 H4 λb H5=>if b=true then te σ3 H5 λy H6=>H6 D=some (.lst ys)/\N (ys++[y]) (upd H6 D (.lst (ys++[y]))) else N ys H5))
theorem Un.tail(u:Un fs ex H H' h h1)(k:∀b o,b≠C->h1.get? b=some o->h2.get? b=some o)(hC:h.get? C=none):Un fs ex H H' h h2:=by
 have ne:∀b o,h.get? b=some o->b≠C:=λb o e z=>by rw[z,hC]at e;cases e
 exact⟨λb o e n hf hx=>k b o (ne b o e) (u.keep b o e n hf hx),λb o e n hf hx=>let ⟨sl,q⟩:=u.slot b o e n hf hx;⟨sl,k b _ (ne b o e) q⟩,u.free,
  λb o e hx=>let ⟨o',q⟩:=u.there b o e hx;⟨o',k b _ (ne b o e) q⟩,u.tups,u.frzs,u.tbls⟩
theorem HOk.tail(ok:HOk P w H h1)(k:∀b o,b≠C->h1.get? b=some o->h2.get? b=some o)(hC:H C=none):HOk P w H h2:=λa o e=>by
 have ne:∀b u,H b=some u->b≠C:=λb u q z=>by rw[z,hC]at q;cases q
 refine(ok a o e).stay (λb u hb q=>k b u ?_ q) (λ_ q=>q) λ_ _ q=>q
 rcases hb with z|z
 ·rw[z];exact ne a o e
 ·exact ne b _ z
theorem lookup_relabel{env:Env}:∀{names:List (Str×NameKind)}{x:Str}{k:NameKind},
  (names.map λ(n,k)=>if (k == NameKind.free&&env.scope.kind == .function&&env.kindOf n == some .cell) then (n,NameKind.cell) else (n,k)).lookup x=some k->∃k',names.lookup x=some k'/\(k=k'\/(k'=.free/\k=.cell))
 |[],_,_,h=>by simp at h
 | (n,k0)::r,x,k,h=>by
  have ih:=@lookup_relabel env r x k
  have h:List.lookup x ((if (k0 == NameKind.free&&env.scope.kind == .function&&env.kindOf n == some .cell)=true then (n,NameKind.cell) else (n,k0))::(r.map λ(n,k)=>if (k == NameKind.free&&env.scope.kind == .function&&env.kindOf n == some .cell) then (n,NameKind.cell) else (n,k)))=some k:=h
  by_cases hc:(k0 == NameKind.free&&env.scope.kind == .function&&env.kindOf n == some .cell)=true
  ·rw[if_pos hc,ycp]at h
   have k0f:k0=.free:=by
    simp only[Bool.and_eq_true]at hc
    simpa using hc.1.1
   rw[ycp]
   cases hx:x == n with
   |true=>rw[hx]at h;injection h with h;exact⟨k0,rfl,.inr ⟨k0f,h.symm⟩⟩
   |false=>rw[hx]at h;exact ih h
  ·rw[if_neg hc,ycp]at h
   rw[ycp]
   cases hx:x == n with
   |true=>rw[hx]at h;injection h with h;exact⟨k0,rfl,.inl h.symm⟩
   |false=>rw[hx]at h;exact ih h
structure BlkScope(X:Cx)(N':List Str)(k:Nat)(fm:List Nat)(scope:Scope):Prop where
 kind:scope.kind=.function
 nocell:∀y∈scope.names,y.2≠.cell
 names:∀y∈scope.names,y.2=.local->scope.names.lookup y.1=some .local
 free:∀y∈scope.names,y.2=.free->X.env.kindOf y.1=some .cell\/X.env.kindOf y.1=some .free
 len:N'.length=k+fm.length
 slots:∀i x,k<=i->N'[i]?=some x->scope.names.lookup x=some .free/\∃j,fm[i - k]?=some j/\X.N[j]?=some x
section
variable{X:Cx}{pins:Lo}{σ:St}{H:Hp}{s:Shared}
theorem Inv.block{scope:Scope}(B:BlkScope X N' k fm scope)(I:Inv X pins σ H s)(hf:∀b∈fp,FpOk X pins H b)(ho:∀b∈fp,∃o,s.heap.get? b=some o)
  (ns:h'.Ns s.heap.objs.size (λ_=>none)) (kp:∀b o,s.heap.get? b=some o->h'.get? b=some o):Inv (blk X N' scope fp s H) [] (blkSt k fm σ) H { s with heap:=h',toks:=tk }:=by
 have hfree:∀x∈scope.names,x.2=.free->∃c,X.env.cells.lookup x.1=some c:=λx hx hk=>I.ok.has x.1 (B.free x hx hk)
 have hcl:∀x c,(clOf X.env scope.names []).lookup x=some c->X.env.cells.lookup x=some c:=clOf_ok scope.names [] hfree λx c e=>by simp at e
 have stk:∀b∈frs X.stack,b∈X.env.locals::X.fs:=I.stkSub
 have hC:H s.heap.objs.size=none:=I.hok.fresh (yap _)
 have ok:(blk X N' scope fp s H).Ok:={
  mod:=I.ok.mod
  kind:=B.kind
  glob:=I.ok.glob
  blt:=I.ok.blt
  above:=yap _
  inj:=λx y c h1 h2=>I.ok.inj x y c (hcl x c h1) (hcl y c h2)
  has:=λx hx=>by
   have hx:(relabel scope X.env).names.lookup x=some .cell\/(relabel scope X.env).names.lookup x=some .free:=hx
   have:scope.names.lookup x=some .free:=by
    rcases hx with e|e
    ·obtain⟨k',e1,e2⟩:=lookup_relabel e
     rcases e2 with e2|⟨e2,_⟩
     ·subst e2;exact absurd rfl (B.nocell _ (PySem.mem_of_lookup e1))
     ·rw[e1,e2]
    ·obtain⟨k',e1,e2⟩:=lookup_relabel e
     rcases e2 with e2|⟨e2,e3⟩
     ·rw[e1,e2]
     ·rw[e1,e2]
   exact clOf_has scope.names [] x (PySem.mem_of_lookup this)
  cab:=λx c e=>by cases e
  hd:=I.ok.hd
  frames:=I.ok.frames
  stk:=.inl rfl
  exf:=λb hb=>⟨λz=>by
    obtain⟨o,e⟩:=ho b hb
    have hlt:=yal e
    rw[z]at hlt
    exact ybb _ hlt,λx c e=>(hf b hb).2.2.2.2.1 x c (hcl x c e)⟩
  bs:=I.bs
  bsz:=yay I.ok.bsz I.sz
  noex:=λb o e hb=>by
   rcases (hf b hb).2.2.2.1 with z|z
   ·exact I.ok.noex b o e z
   ·exact absurd (yat (yal e) (yay I.ok.bsz z)) (ybb _)
  exfs:=λb hb z=>(yau.mp (stk b z)).elim (hf b hb).2.1 (hf b hb).2.2.1
  funs:=I.stack
  frf:=I.stkFree }
 refine⟨ok,rfl,I.bare,Un.kept kp,⟨_,ns,λi x v h1 h2 h3=>?_⟩,λx c e=>?_,hC,λx c e=>I.freeC x c (hcl x c e),λp hp=>?_,I.hok.kept kp,?_⟩
 ·have hk:k<=i:=by
   refine Nat.le_of_not_lt λz=>?_
   unfold blkSt at h2
   rw[ya9 (by simpa using z),List.getElem?_replicate,if_pos z]at h2
   cases h2
  obtain⟨e1,j,e2,e3⟩:=B.slots i x hk h1
  have e4:σ[j]?=some (some v):=by
   unfold blkSt at h2
   rw[ybj (by simpa using hk),List.length_replicate,List.getElem?_map,e2]at h2
   have h2:some (σ[j]?).join=some (some v):=h2
   injection h2 with h2
   cases e:σ[j]? with
   |none=>rw[e]at h2;cases h2
   |some o=>rw[e]at h2;rw[show o=some v from h2]
  have kf:=B.free (x,.free) (PySem.mem_of_lookup e1) rfl
  obtain⟨m,hn,hl⟩:=I.loc
  obtain⟨u,ru,lk⟩:=hl j x v e3 e4 (.inr kf)
  refine⟨u,ru,.inr ⟨?_,?_⟩⟩
  ·have h3:(relabel scope X.env).names.lookup x=some .local\/(relabel scope X.env).names.lookup x=some .cell\/(relabel scope X.env).names.lookup x=some .free:=h3
   rcases h3 with z|z
   ·obtain⟨k',q1,q2⟩:=lookup_relabel z
    rw[e1]at q1
    injection q1 with q1
    subst q1
    rcases q2 with q2|⟨_,q2⟩<;>cases q2
   ·exact z
  ·obtain⟨c,hc⟩:=clOf_has (env:=X.env) scope.names [] x (PySem.mem_of_lookup e1)
   refine⟨c,hc,?_⟩
   rcases lk with ⟨z,_⟩|⟨_,c',ec,ic⟩
   ·rcases kf with y|y<;>(rw[z]at y;cases y)
   ·rw[hcl x c hc]at ec
    injection ec with ec
    subst ec
    exact ic.keeps kp
 ·obtain⟨v,q⟩:=I.cell x c (hcl x c e)
  exact⟨v,q.keeps kp⟩
 ·obtain⟨p1,p2,p3,p4,p5⟩:=I.pin p ((yai.mp hp).elim (λz=>yak _ z) λz=>absurd z (by simp))
  refine⟨kp _ _ p1,p2,λz=>?_,λz=>(yau.mp (stk _ z)).elim p3 p4,p5⟩
  have hlt:=yal p1
  rw[z]at hlt
  exact ybb _ hlt
 ·show(blkSt k fm σ).length=N'.length
  unfold blkSt
  rw[yah,List.length_replicate,yaa,B.len]
theorem blk_loop{X:Cx}{elt iter tg:Expr}{ifs:List Expr}{scope:Scope}{pos:Pos}{g:TG}{tt:TT}{te:TE}{J:It}{fp:List Addr}{it D:Addr}{tn:Nat->Heap->Prop}{σ0:St}{H3:Hp}{s4:Shared}{Q:VK}{R:Result->Shared->Prop}{W:Nat->Nat->List V->Hp->Prop}{m0:Nat}
  (hx:X.xe=λ_ _=>False) (hc:X.calm=true) (T:Turn X.prog X.w X.K tg J fp it tn) (stat:∀{H':Hp},(∀b∈fp,H' b=none)->∀b∈fp,FpOk X [] H' b) (hg:PG X tg g) (ht:PTs X ifs tt) (he:PE X elt te)
  (turn:∀i m ys H2,W i m ys H2->H2 D=some (.lst ys)/\ys.length<sizeLine/\((J.stop i H2/\Q (.ref D) H2)\/(J.go i H2/\∃N:List V->Hp->Prop,(∀ys' H',N ys' H'->∃m',m'<m/\W (i+1) m' ys' H')/\∀x H3,J.yld i H2 x H3->
   g x σ0 H3 λσ3 H4=>Ext σ0 σ3/\tt σ3 H4 λb H5=>if b=true then te σ3 H5 λy H6=>H6 D=some (.lst ys)/\N (ys++[y]) (upd H6 D (.lst (ys++[y]))) else N ys H5)))
  (I4:Inv X [] σ0 H3 s4) (st4:tn 0 s4.heap) (fr4:∀b∈fp,H3 b=none) (w4:W 0 m0 [] H3)
  (hR:∀H' s',Inv X [] σ0 H' s'->Q (.ref D) H'->R (.ok .next) s'):
  codeAny (model X.prog X.w) X.A (.compLoop (.ListComp elt [⟨tg,iter,ifs,0⟩] scope pos) 0 (.ref it) (.ref D) X.env) R s4:=by
 refine compLoop_any (λn s'=>∃i ys H',Inv X [] σ0 H' s'/\tn i s'.heap/\(∀b∈fp,H' b=none)/\W i n ys H') ?_ m0 ⟨0,[],H3,I4,st4,fr4,w4⟩
 rintro n s5 ⟨i,ys,H5,I5,st5,fr5,w5⟩
 obtain⟨hD,hl,cs⟩:=turn i n ys H5 w5
 rcases cs with ⟨stop,q⟩|⟨go,N,hN,step⟩
 ·refine thn (T.done X rfl rfl rfl hc i [] s5 σ0 H5 _ I5 (stat fr5) st5 stop) λr s6 ⟨hr,I6⟩=>?_
  subst hr
  exact hR H5 s6 I6 q
 ·refine thn (T.item X rfl rfl rfl hc i [] s5 σ0 H5 _ I5 (stat fr5) st5 go) λr s6 ⟨u,hr,h6⟩=>?_
  subst hr
  refine thn h6 λ_ s7 ⟨x,H7,I7,r7,y7,st7,fr7⟩=>?_
  have I7':=I7.pinned (stat fr7) (T.obj _ _ st7)
  have again:∀{σ':St}{H':Hp}{s':Shared},Ext σ0 σ'->Inv X ([]++pinsAt fp s7.heap) σ' H' s'->Inv X [] σ0 H' s'/\tn (i+1) s'.heap/\∀b∈fp,H' b=none:=λ{σ' H' s'} ex I'=>by
   refine⟨I'.unpinned.weak ex.len ex.get,T.keep _ _ _ st7 λb hb o e=>(I'.pin (b,o) (yaj _ (yaj _ (mem_pinsAt hb e)))).1,λb hb=>?_⟩
   obtain⟨o,e,d⟩:=T.obj _ _ st7 b hb
   exact(I'.pin (b,o) (yaj _ (yaj _ (mem_pinsAt hb e)))).2.1
  have w8:=hg _ s7 σ0 H7 x u _ I7' r7 (step x H7 y7)
  rw[hx]at w8
  refine thn w8 λ_ s8 ⟨σ8,H8,I8,ex8,q8⟩=>?_
  have w9:=ht _ s8 σ8 H8 _ I8 q8
  rw[hx]at w9
  refine thn w9 λok s9 ⟨H9,I9,q9⟩=>?_
  cases ok with
  |false=>
   obtain⟨m',hm,w'⟩:=hN _ _ q9
   obtain⟨a1,a2,a3⟩:=again ex8 I9
   exact⟨m',hm,i+1,ys,H9,a1,a2,a3,w'⟩
  |true=>
   have w10:=he _ s9 σ8 H9 _ I9 q9
   rw[hx]at w10
   refine thn w10 λy s10 ⟨yv,H10,I10,r10,hD10,n10⟩=>?_
   obtain⟨m',hm,w'⟩:=hN _ _ n10
   have w11:=zz23 (X:=X) _ s10 σ8 H10 (.ref D) [yv] (.ref D) [y] (λv H'=>v=.non/\H'=upd H10 D (.lst (ys++[yv]))) I10 rfl (.cons r10 .nil) ⟨D,ys,yv,rfl,rfl,hD10,hl,rfl,rfl⟩
   rw[hx]at w11
   refine thn w11 λ_ s11 ⟨_,H11,I11,_,_,e11⟩=>?_
   subst e11
   obtain⟨a1,a2,a3⟩:=again ex8 I11
   exact⟨m',hm,i+1,_,_,a1,a2,a3,w'⟩
theorem pe_comp{scope:Scope}(B:BlkScope X N' k fm scope)(hc:X.calm=true)(hi:PI X tg iter wi)
  (hb:∀fp s H,PG (blk X N' scope fp s H) tg g/\PTs (blk X N' scope fp s H) ifs tt/\PE (blk X N' scope fp s H) elt te)
  (hs:∀x,foldedSetIterable iter X.env x=pure x:=by intro _;rfl):PE X (.ListComp elt [⟨tg,iter,ifs,0⟩] scope pos) (tComp k fm wi g tt te):=by
 intro pins s σ H Q I h
 have hfree:∀x∈scope.names,x.2=.free->∃c,X.env.cells.lookup x.1=some c:=λx hx hk=>I.ok.has x.1 (B.free x hx hk)
 rw[eval_ListComp]
 refine wpAny_comprehension_free (use:=none) rfl hs (closureFor_eq hfree) B.kind B.names (thn (hi pins s σ H _ I h) λv s1 h1=>thn h1 λitv s2 h2=>?_)
 obtain⟨it,fp,tn,J,H2,e,I2,T,st2,f2,h2⟩:=h2
 subst e
 obtain⟨W,⟨m0,w0⟩,turn⟩:=h2 s2.heap.objs.size I2.fresh
 refine ybn (wpAny_newFunctionEnv B.nocell (by intro y hy;simp at hy) (λh4 hns4 hsb4=>?_) B.kind)
 have I3:=I2.lnew (its:=[]) (ys:=[]) (t':=s2.toks) .nil (ya1 _)
 have hf3:∀b∈fp,FpOk X pins (upd H2 s2.heap.objs.size (.lst [])) b:=λb hb=>by
  obtain⟨o,e,_⟩:=T.obj _ _ st2 b hb
  refine⟨?_,(f2 b hb).2⟩
  rw[upd_ne (λz=>ybb _ (z▸yal e))]
  exact(f2 b hb).1
 have ho3:∀b∈fp,∃o,(s2.heap.push { cls:=.type "list", data:=.seq ([]:List Value).toArray }).get? b=some o:=λb hb=>by
  obtain⟨o,e,_⟩:=T.obj _ _ st2 b hb
  exact⟨o,yad _ e⟩
 have kp4:∀b o,(s2.heap.push { cls:=.type "list", data:=.seq ([]:List Value).toArray }).get? b=some o->h4.get? b=some o:=λb o e=>
  hsb4.extBut b o (λz=>ybb _ (z▸yal e)) (yad _ e)
 have I4:=I3.block (fp:=fp) (h':=h4) (tk:=s2.toks+([]:List (Str×Value)).length) B hf3 ho3 hns4 kp4
 generalize hs3:({ s2 with heap:=s2.heap.push { cls:=.type "list", data:=.seq ([]:List Value).toArray },toks:=s2.toks }:Shared)=s3 at *
 obtain⟨hg,ht,he⟩:=hb fp s3 (upd H2 s2.heap.objs.size (.lst []))
 have st4:tn 0 h4:=T.keep _ _ _ st2 λb hb o e=>kp4 b o (yad _ e)
 have stat:∀{H':Hp},(∀b∈fp,H' b=none)->∀b∈fp,FpOk (blk X N' scope fp s3 (upd H2 s2.heap.objs.size (.lst []))) [] H' b:=λ{H'} hn b hb=>by
  obtain⟨f0,f1,f3,f4,f5,f6⟩:=hf3 b hb
  obtain⟨g1,g2⟩:=I4.ok.exf b hb
  exact⟨hn b hb,g1,I4.ok.exfs b hb,.inl hb,g2,λp hp=>f6 p ((yai.mp hp).elim (λz=>yak _ z) λz=>absurd z (by simp))⟩
 have loop:codeAny (model X.prog X.w) X.A (.compLoop (.ListComp elt [⟨tg,iter,ifs,0⟩] scope pos) 0 (.ref it) (.ref s2.heap.objs.size) (compEnvC scope (clOf X.env scope.names []) s3.heap.objs.size X.env))
   (compPost (model X.prog X.w) X.A X.xe none (EP X pins σ Q) (.ref s2.heap.objs.size) s3.heap.objs.size) { s3 with heap:=h4,toks:=s2.toks+([]:List (Str×Value)).length }:=by
  refine blk_loop (X:=blk X N' scope fp s3 (upd H2 s2.heap.objs.size (.lst []))) (D:=s2.heap.objs.size) (Q:=Q) (W:=W) (m0:=m0) rfl hc T stat hg ht he turn I4 st4 (λb hb=>(hf3 b hb).1) w0 ?_
  intro H' s' I' q
  obtain⟨m,hn,_⟩:=I'.loc
  refine⟨m,hn,λh'' hs''=>?_⟩
  have hC:s3.heap.get? s3.heap.objs.size=none:=by
   cases e:s3.heap.get? s3.heap.objs.size with
   |none=>rfl
   |some o=>exact absurd (yal e) (ybb _)
  have u:Un (frs X.stack) fp (upd H2 s2.heap.objs.size (.lst [])) H' s3.heap h'':=Un.tail I'.base (λb o hb e=>hs''.extBut b o hb e) hC
  refine⟨.ref s2.heap.objs.size,H',?_,rfl,q⟩
  refine I3.call' (s':={ s' with heap:=h'' }) (ch:=fp) I'.os u (I'.hok.tail (λb o hb e=>hs''.extBut b o hb e) I'.free) I'.bare λb hb=>?_
  obtain⟨f0,f1,f3,f4,f5,f6⟩:=hf3 b hb
  exact⟨f4,f1,f5,f6⟩
 subst hs3
 exact codeAny_compStart_list loop (T.self X.A 0 _ _ _ st4 loop)
end
noncomputable def Its(z:Str):It:=⟨λi _=>i<z.cps.size,λi H x H'=>H'=H/\∃c,z.cps[i]?=some c/\x=.str ⟨#[c]⟩,λi _=>z.cps.size<=i⟩
section
variable{X:Cx}{tg:Expr}
def iStr(tl:TE):TI:=λσ H R=>tl σ H λx H1=>∃z,x=.str z/\R (Its z) H1
end
section
variable{X:Cx}
noncomputable def rSlS:V->Option Int->Option Int->Hp->VK->Prop:=λx lo hi H Q=>∃z,x=.str z/\z.length<=sizeLine/\Q (.str (Txt.slice z lo hi)) H
noncomputable def rAll(K:Wf):List V->Hp->VK->Prop:=λxs H Q=>∃(a:Addr) (bs:List Bool),xs=[.ref a]/\SqL K H a (bs.map V.bl)/\Q (.bl (bs.all id)) H
noncomputable def rIsi(K:Wf):List V->Hp->VK->Prop:=λxs H Q=>∃x n t b,xs=[x,.ty n]/\TyOf K H x t/\kitOne K t (.type n)=some b/\Q (.bl b) H
theorem call_isi:CallR X (.builtin "isinstance") (rIsi X.K):=by
 intro pins s σ H xs us Q I r h
 obtain⟨x,n,t,b,rfl,ty,e,q⟩:=h
 obtain⟨u,u2,rfl,ru,ru2⟩:=vals2 r
 cases ru2
 exact isinst_ok I ru ty e λtk=>⟨.bl b,H,I.tok tk,rfl,q⟩
def rCatS(K:Wf):R2:=λx y H Q=>∃l b xs zs,x=.ref l/\y=.ref b/\SqL K H l xs/\SqL K H b zs/\xs.length+zs.length<=sizeLine/\∀p,H p=none->Q (.ref p) (upd H p (.lst (xs++zs)))
theorem op_catS:OpR X (binaryOp .Add) (rCatS X.K):=by
 intro pins s σ H x y v u Q I rx ry h
 obtain⟨l,b,xs,zs,rfl,rfl,hH,hB,hz,q⟩:=h
 cases rx
 cases ry
 obtain⟨vs,r,p,z⟩:=I.list hH
 obtain⟨ws,r2,p2,z2⟩:=I.list hB
 have l1:=r.length
 have l2:=r2.length
 obtain⟨⟨cls,dd,data,sl⟩,n,ho,hc,hdd,hd⟩:=p
 obtain⟨⟨cls2,dd2,data2,sl2⟩,n2,ho2,hc2,hdd2,hd2⟩:=p2
 simp only at hc hd hc2 hd2
 subst hc hd hc2 hd2
 have e:vs.toArray++ws.toArray=(vs++ws).toArray:=by simp
 refine concat_meets ⟨_,ho,rfl⟩ ⟨_,ho2,rfl⟩ noFill_list_add seq_list_add PySem.F.slot_list_add PySem.F.entry_list_add (PySem.F.args_list_add_2 _ _) (list_addW l b vs.toArray ws.toArray n n2 dd dd2 sl sl2 (by simp;omega)) ⟨ho,ho2,?_⟩
 rw[e]
 exact⟨.ref _,_,I.lnew (t':=s.toks) (r.append r2) (by rw[yah];omega),rfl,q _ I.fresh⟩
end
set_option genInjectivity true in
inductive Slots (X:Cx) (scope:Scope):List Str->List Nat->Prop
 |nil:Slots X scope [] []
 |cons {x:Str}{j:Nat}{xs:List Str}{js:List Nat}(h1:scope.names.lookup x=some .free) (h2:X.env.kindOf x=some .cell\/X.env.kindOf x=some .free) (h3:X.N[j]?=some x) (r:Slots X scope xs js):Slots X scope (x::xs) (j::js)
theorem Slots.len{scope:Scope}:∀{xs:List Str}{js:List Nat},Slots X scope xs js->xs.length=js.length
 |_,_,.nil=>rfl
 |_,_,.cons _ _ _ r=>by simp[r.len]
theorem Slots.kind{scope:Scope}:∀{xs:List Str}{js:List Nat},Slots X scope xs js->∀x∈xs,X.env.kindOf x=some .cell\/X.env.kindOf x=some .free
 |_,_,.nil,x,h=>absurd h (by simp)
 |_,_,.cons _ h2 _ r,x,h=>by
  rcases yau.mp h with e|e
  ·subst e;exact h2
  ·exact r.kind x e
theorem Slots.get{scope:Scope}:∀{xs:List Str}{js:List Nat},Slots X scope xs js->∀(i:Nat) (x:Str),xs[i]?=some x->scope.names.lookup x=some .free/\∃j,js[i]?=some j/\X.N[j]?=some x
 |_,_,.nil,i,x,h=>by simp at h
 |_,_,.cons h1 _ h3 r,0,x,h=>by
  simp only[List.getElem?_cons_zero,Option.some.injEq]at h
  subst h
  exact⟨h1,_,by simp,h3⟩
 |_,_,.cons _ _ _ r,i+1,x,h=>by simpa using r.get i x (by simpa using h)
theorem blk_mk{scope:Scope}(kind:scope.kind=.function)(h1:∀y∈scope.names,y.2≠.cell)(h2:∀y∈scope.names,y.2=.local->scope.names.lookup y.1=some .local)
  (h3:∀y∈scope.names,y.2=.free->y.1∈fr) (S:Slots X scope fr fm):BlkScope X (own++fr) own.length fm scope:=
 ⟨kind,h1,h2,λy hy hk=>S.kind y.1 (h3 y hy hk),by rw[yah,S.len],λi x hi h=>by
  rw[ybj hi]at h
  exact S.get _ x h⟩
section
variable{X:Cx}
end
theorem comp_list{K:Wf}{a:Addr}{xs:List V}{g:TG}{tt:TT}{te:TE}{σ0:St}{H:Hp}{D:Addr}{Q:VK}(hz:xs.length<sizeLine)(Pv:Nat->List V->Hp->Prop)(h0:Pv 0 [] (upd H D (.lst [])))
  (hl:∀i ys H,i<=xs.length->Pv i ys H->SqL K H a xs/\H D=some (.lst ys)/\ys.length<=i)
  (hs:∀i x ys H,xs[i]?=some x->Pv i ys H->g x σ0 H λσ3 H4=>Ext σ0 σ3/\tt σ3 H4 λb H5=>if b=true then te σ3 H5 λy H6=>H6 D=some (.lst ys)/\Pv (i+1) (ys++[y]) (upd H6 D (.lst (ys++[y]))) else Pv (i+1) ys H5)
  (hd:∀ys H,Pv xs.length ys H->Q (.ref D) H):
  ∃W:Nat->Nat->List V->Hp->Prop,(∃m,W 0 m [] (upd H D (.lst [])))/\∀i m ys H2,W i m ys H2->H2 D=some (.lst ys)/\ys.length<sizeLine/\(((Itl K a).stop i H2/\Q (.ref D) H2)\/((Itl K a).go i H2/\∃N:List V->Hp->Prop,(∀ys' H',N ys' H'->∃m',m'<m/\W (i+1) m' ys' H')/\∀x H3,(Itl K a).yld i H2 x H3->
   g x σ0 H3 λσ3 H4=>Ext σ0 σ3/\tt σ3 H4 λb H5=>if b=true then te σ3 H5 λy H6=>H6 D=some (.lst ys)/\N (ys++[y]) (upd H6 D (.lst (ys++[y]))) else N ys H5)):=by
 refine⟨λi m ys H=>m=xs.length - i/\i<=xs.length/\Pv i ys H,⟨xs.length,by simp,Nat.zero_le _,h0⟩,?_⟩
 rintro i m ys H2 ⟨rfl,hi,p⟩
 obtain⟨l0,l1,l2⟩:=hl i ys H2 hi p
 refine⟨l1,by omega,?_⟩
 by_cases hlt:i<xs.length
 ·refine .inr ⟨⟨xs,xs[i],l0,by simp[hlt]⟩,Pv (i+1),λys' H' p'=>⟨_,(by omega:xs.length - (i+1)<xs.length - i),rfl,hlt,p'⟩,λx H3 y=>?_⟩
  obtain⟨e,y⟩:=y
  subst e
  exact hs i x ys _ (y xs l0) p
 ·have e:i=xs.length:=by omega
  subst e
  exact .inl ⟨⟨xs,l0,yap _⟩,hd ys H2 p⟩
def ForW(g:TG)(tb:TS)(D:Ends)(σ:St)(J:It)(H1:Hp):Prop:=∃W:Nat->Nat->St->Hp->Prop,(∃m,W 0 m σ H1)/\∀i m σ H,W i m σ H->
 (J.stop i H/\D.nx σ H)\/(J.go i H/\∃N:St->Hp->Prop,(∀σ' H',N σ' H'->∃m',m'<m/\W (i+1) m' σ' H')/\∀x H',J.yld i H x H'->g x σ H' λσ2 H2=>tb { D with nx:=N,ct:=N,bk:=D.nx } σ2 H2)
def ForL(K:Wf)(g:TG)(tb:TS)(D:Ends)(σ:St):VK:=λx H1=>∃a,x=.ref a/\(∃xs,SqL K H1 a xs)/\ForW g tb D σ (Itl K a) H1
def ForT(K:Wf)(g:TG)(tb:TS)(D:Ends)(σ:St):VK:=λx H1=>∃a,x=.ref a/\(∃xs,SqT K H1 a xs)/\ForW g tb D σ (Itt K a) H1
def ForS(g:TG)(tb:TS)(D:Ends)(σ:St):VK:=λx H1=>∃z,x=.str z/\ForW g tb D σ (Its z) H1
noncomputable def ForR(g:TG)(tb:TS)(D:Ends)(σ:St):List V->Hp->Prop:=λvs H1=>∃j:Int,vs=[.int j] /\ -(2 ^ 62)<=j/\j<2 ^ 62/\ForW g tb D σ (Itr 0 j.toNat) H1
noncomputable def ForR2(g:TG)(tb:TS)(D:Ends)(σ:St):List V->Hp->Prop:=λvs H1=>∃i j:Int,vs=[.int i,.int j]/\(-(2 ^ 62)<=i/\i<2 ^ 62 /\ -(2 ^ 62)<=j/\j<2 ^ 62)/\ForW g tb D σ (Itr i (j - i).toNat) H1
section
variable{K:Wf}{te:TE}{ta:TA}{g:TG}{tb:TS}{D:Ends}{σ:St}{H:Hp}
theorem tFor_list:tFor (iList K te) g tb D σ H=te σ H (ForL K g tb D σ):=rfl
theorem tFor_tup:tFor (iTup K te) g tb D σ H=te σ H (ForT K g tb D σ):=rfl
theorem tFor_str:tFor (iStr te) g tb D σ H=te σ H (ForS g tb D σ):=rfl
theorem tFor_rng1:tFor (iRng1 ta) g tb D σ H=ta σ H (ForR g tb D σ):=rfl
theorem tFor_rng2:tFor (iRng2 ta) g tb D σ H=ta σ H (ForR2 g tb D σ):=rfl
theorem ForL.of(Pv:Nat->St->Hp->Prop)(h0:Pv 0 σ H)(hl:∀i σ H,i<=xs.length->Pv i σ H->SqL K H a xs)
  (hs:∀i x σ H,xs[i]?=some x->Pv i σ H->g x σ H λσ2 H2=>tb { D with nx:=Pv (i+1),ct:=Pv (i+1),bk:=D.nx } σ2 H2) (hd:∀σ H,Pv xs.length σ H->D.nx σ H):ForL K g tb D σ (.ref a) H:=
 ⟨a,rfl,⟨xs,hl 0 _ _ (ya1 _) h0⟩,for_list Pv h0 hl hs hd⟩
theorem ForR.of(h1:n<2 ^ 62)(h2 : -(2 ^ 62)<=n)(Pv:Nat->St->Hp->Prop)(h0:Pv 0 σ H)
  (hs:∀i σ H,i<n.toNat->Pv i σ H->g (.int (i:Int)) σ H λσ2 H2=>tb { D with nx:=Pv (i+1),ct:=Pv (i+1),bk:=D.nx } σ2 H2) (hd:∀σ H,Pv n.toNat σ H->D.nx σ H):ForR g tb D σ [.int n] H:=
 ⟨n,rfl,h2,h1,for_range (n:=n.toNat) Pv h0 (λi σ H hi p=>by
  have e:(0:Int)+(i:Int)=i:=by omega
  rw[e];exact hs i σ H hi p) hd⟩
end
def CompW(g:TG)(tt:TT)(te:TE)(σ0:St)(Q:VK)(J:It)(H1:Hp):Prop:=∀DD,H1 DD=none->∃W:Nat->Nat->List V->Hp->Prop,
 (∃m,W 0 m [] (upd H1 DD (.lst [])))/\∀i m ys H2,W i m ys H2->H2 DD=some (.lst ys)/\ys.length<sizeLine/\((J.stop i H2/\Q (.ref DD) H2)\/(J.go i H2/\∃N:List V->Hp->Prop,(∀ys' H',N ys' H'->∃m',m'<m/\W (i+1) m' ys' H')/\∀x H3,J.yld i H2 x H3->
  g x σ0 H3 λσ3 H4=>Ext σ0 σ3/\tt σ3 H4 λb H5=>if b=true then te σ3 H5 λy H6=>H6 DD=some (.lst ys)/\N (ys++[y]) (upd H6 DD (.lst (ys++[y]))) else N ys H5))
def CompL(K:Wf)(g:TG)(tt:TT)(te:TE)(σ0:St)(Q:VK):VK:=λx H1=>∃a,x=.ref a/\(∃xs,SqL K H1 a xs)/\CompW g tt te σ0 Q (Itl K a) H1
def CompT(K:Wf)(g:TG)(tt:TT)(te:TE)(σ0:St)(Q:VK):VK:=λx H1=>∃a,x=.ref a/\(∃xs,SqT K H1 a xs)/\CompW g tt te σ0 Q (Itt K a) H1
def CompS(g:TG)(tt:TT)(te:TE)(σ0:St)(Q:VK):VK:=λx H1=>∃z,x=.str z/\CompW g tt te σ0 Q (Its z) H1
noncomputable def CompR(g:TG)(tt:TT)(te:TE)(σ0:St)(Q:VK):List V->Hp->Prop:=λvs H1=>∃j:Int,vs=[.int j] /\ -(2 ^ 62)<=j/\j<2 ^ 62/\CompW g tt te σ0 Q (Itr 0 j.toNat) H1
section
variable{K:Wf}{k:Nat}{fm:List Nat}{tl te:TE}{ta:TA}{g:TG}{tt:TT}{σ σ0:St}{H H1:Hp}{Q:VK}
theorem tComp_list:tComp k fm (iList K tl) g tt te σ H Q=tl σ H (CompL K g tt te (blkSt k fm σ) Q):=rfl
theorem tComp_tup:tComp k fm (iTup K tl) g tt te σ H Q=tl σ H (CompT K g tt te (blkSt k fm σ) Q):=rfl
theorem tComp_str:tComp k fm (iStr tl) g tt te σ H Q=tl σ H (CompS g tt te (blkSt k fm σ) Q):=rfl
theorem tComp_rng1:tComp k fm (iRng1 ta) g tt te σ H Q=ta σ H (CompR g tt te (blkSt k fm σ) Q):=rfl
theorem CompL.of(hz:xs.length<sizeLine)(hx:SqL K H1 a xs)(Pv:Addr->Nat->List V->Hp->Prop)(h0:∀D,H1 D=none->Pv D 0 [] (upd H1 D (.lst [])))
  (hl:∀D i ys H',H1 D=none->i<=xs.length->Pv D i ys H'->SqL K H' a xs/\H' D=some (.lst ys)/\ys.length<=i)
  (hs:∀D i x ys H',H1 D=none->xs[i]?=some x->Pv D i ys H'->g x σ0 H' λσ3 H4=>Ext σ0 σ3/\tt σ3 H4 λb H5=>if b=true then te σ3 H5 λy H6=>H6 D=some (.lst ys)/\Pv D (i+1) (ys++[y]) (upd H6 D (.lst (ys++[y]))) else Pv D (i+1) ys H5)
  (hd:∀D ys H',H1 D=none->Pv D xs.length ys H'->Q (.ref D) H'):CompL K g tt te σ0 Q (.ref a) H1:=
 ⟨a,rfl,⟨xs,hx⟩,λD hD=>comp_list hz (Pv D) (h0 D hD) (λi ys H'=>hl D i ys H' hD) (λi x ys H'=>hs D i x ys H' hD) λys H'=>hd D ys H' hD⟩
end
set_option genInjectivity true in
inductive D where
 |non|bl (b:Bool)|int (i:Int)|str (z:Str)|lst (xs:List D)|tup (xs:List D)
mutual
noncomputable def Rep(K:Wf)(H:Hp):D->V->Prop
 |.non,v=>v=.non
 |.bl b,v=>v=.bl b
 |.int i,v=>v=.int i
 |.str z,v=>v=.str z
 |.lst ds,v=>∃a xs,v=.ref a/\SqL K H a xs/\RepL K H ds xs
 |.tup ds,v=>∃a xs,v=.ref a/\SqT K H a xs/\RepL K H ds xs
noncomputable def RepL(K:Wf)(H:Hp):List D->List V->Prop
 |[],xs=>xs=[]
 |d::ds,xs=>∃y ys,xs=y::ys/\Rep K H d y/\RepL K H ds ys
end
mutual
noncomputable def deq:D->D->Bool
 |.non,.non=>true
 |.bl a,.bl b=>a == b
 |.bl a,.int b=>(if a then 1 else 0) == b
 |.int a,.bl b=>a == (if b then 1 else 0)
 |.int a,.int b=>a == b
 |.str a,.str b=>a == b
 |.lst a,.lst b=>deqL a b
 |.tup a,.tup b=>deqL a b
 |_,_=>false
noncomputable def deqL:List D->List D->Bool
 |[],[]=>true
 |a::as,b::bs=>deq a b&&deqL as bs
 |_,_=>false
end
mutual
noncomputable def dep:D->Nat
 |.lst ds=>depL ds+1
 |.tup ds=>depL ds+1
 |_=>0
noncomputable def depL:List D->Nat
 |[]=>0
 |d::ds=>max (dep d) (depL ds)
end
mutual
theorem deq_refl:∀d:D,deq d d=true
 |.non=>rfl
 |.bl a=>by simp[deq]
 |.int a=>by simp[deq]
 |.str a=>by simp[deq]
 |.lst a=>by simp only[deq];exact deqL_refl a
 |.tup a=>by simp only[deq];exact deqL_refl a
theorem deqL_refl:∀ds:List D,deqL ds ds=true
 |[]=>rfl
 |d::ds=>by simp only[deqL,deq_refl d,deqL_refl ds,Bool.and_self]
end
theorem RepL.len{K:Wf}{H:Hp}:∀{ds:List D}{xs:List V},RepL K H ds xs->ds.length=xs.length
 |[],xs,h=>by simp only[RepL]at h;subst h;rfl
 |d::ds,xs,h=>by
  simp only[RepL]at h
  obtain⟨y,ys,rfl,_,r⟩:=h
  simp[r.len]
noncomputable def eAt(ds es:List D)(j:Nat):Bool:=match ds[j]?,es[j]? with
 |some d,some e=>deq d e
 |_,_=>true
theorem eAt_all:∀(ds es:List D),((List.range (min ds.length es.length)).all (eAt ds es)&&ds.length == es.length)=deqL ds es
 |[],[]=>by simp[deqL]
 |[],e::es=>by simp[deqL]
 |d::ds,[]=>by simp[deqL]
 |d::ds,e::es=>by
  have ih:=eAt_all ds es
  have h1:min (d::ds).length (e::es).length=min ds.length es.length+1:=by simp only[List.length_cons];omega
  rw[h1,List.range_succ_eq_map,List.all_cons,List.all_map]
  have h2:(eAt (d::ds) (e::es) ∘ Nat.succ)=eAt ds es:=by funext j;simp[eAt]
  have h3:eAt (d::ds) (e::es) 0=deq d e:=by simp[eAt]
  rw[h2,h3]
  simp only[deqL,<-ih,List.length_cons,Bool.and_assoc]
  congr 2
  simp
section
variable{X:Cx}{pins:Lo}{σ:St}{H:Hp}{s:Shared}
mutual
theorem rep_inj(I:Inv X pins σ H s):∀(d e:D) (x:V),Rep X.K H d x->Rep X.K H e x->d=e
 |d,e,x,hd,he=>by
  cases d with
  |non=>
   simp only[Rep]at hd;subst hd
   cases e<;>simp only[Rep]at he<;>first|rfl|(obtain⟨a,xs,z,_⟩:=he;cases z;done)|(cases he;done)
  |bl b=>
   simp only[Rep]at hd;subst hd
   cases e<;>simp only[Rep]at he<;>first|(obtain⟨a,xs,z,_⟩:=he;cases z;done)|(cases he;rfl)|(cases he;done)
  |int b=>
   simp only[Rep]at hd;subst hd
   cases e<;>simp only[Rep]at he<;>first|(obtain⟨a,xs,z,_⟩:=he;cases z;done)|(cases he;rfl)|(cases he;done)
  |str b=>
   simp only[Rep]at hd;subst hd
   cases e<;>simp only[Rep]at he<;>first|(obtain⟨a,xs,z,_⟩:=he;cases z;done)|(cases he;rfl)|(cases he;done)
  |lst ds=>
   simp only[Rep]at hd
   obtain⟨a,xs,rfl,hx,r⟩:=hd
   cases e with
   |lst es=>
    simp only[Rep]at he
    obtain⟨a',xs',z,hx',r'⟩:=he
    cases z
    have:=I.list_inj hx hx'
    subst this
    rw[repL_inj I ds es xs r r']
   |tup es=>
    simp only[Rep]at he
    obtain⟨a',xs',z,hx',r'⟩:=he
    cases z
    exfalso
    obtain⟨_,_,p,_⟩:=I.list hx
    obtain⟨_,_,q,_⟩:=I.tuple hx'
    obtain⟨o,n,e1,e2,_⟩:=p
    obtain⟨o',e1',e2',_⟩:=q
    rw[e1]at e1';cases e1'
    rw[e2]at e2';exact absurd e2' (by decide)
   |_=>simp only[Rep]at he;cases he
  |tup ds=>
   simp only[Rep]at hd
   obtain⟨a,xs,rfl,hx,r⟩:=hd
   cases e with
   |tup es=>
    simp only[Rep]at he
    obtain⟨a',xs',z,hx',r'⟩:=he
    cases z
    have:=I.tuple_inj hx hx'
    subst this
    rw[repL_inj I ds es xs r r']
   |lst es=>
    simp only[Rep]at he
    obtain⟨a',xs',z,hx',r'⟩:=he
    cases z
    exfalso
    obtain⟨_,_,p,_⟩:=I.list hx'
    obtain⟨_,_,q,_⟩:=I.tuple hx
    obtain⟨o,n,e1,e2,_⟩:=p
    obtain⟨o',e1',e2',_⟩:=q
    rw[e1]at e1';cases e1'
    rw[e2]at e2';exact absurd e2' (by decide)
   |_=>simp only[Rep]at he;cases he
theorem repL_inj(I:Inv X pins σ H s):∀(ds es:List D) (xs:List V),RepL X.K H ds xs->RepL X.K H es xs->ds=es
 |[],es,xs,hd,he=>by
  simp only[RepL]at hd
  subst hd
  cases es with
  |nil=>rfl
  |cons e es=>simp only[RepL]at he;obtain⟨y,ys,z,_⟩:=he;cases z
 |d::ds,es,xs,hd,he=>by
  simp only[RepL]at hd
  obtain⟨y,ys,rfl,r,rs⟩:=hd
  cases es with
  |nil=>simp only[RepL]at he;cases he
  |cons e es=>
   simp only[RepL]at he
   obtain⟨y',ys',z,r',rs'⟩:=he
   cases z
   rw[rep_inj I d e y r r',repL_inj I ds es ys rs rs']
end
theorem zz21(p:IsTup h a its):h.IsTuple a its:=by
 obtain⟨o,e,c,n,d⟩:=p
 exact⟨o,e,c,n,d⟩
mutual
theorem eq_deep(I:Inv X pins σ H s):∀(d e:D) (x y:V) (u v:Value) (A:Around),A.units+dep d<cLine->Rep X.K H d x->Rep X.K H e y->RelV x u->RelV y v->SeqAt.EqAt A s u v (deq d e)
 |.non,e,x,y,u,v,A,hu,hd,he,rx,ry=>by
  have hu:A.units<cLine:=by omega
  simp only[Rep]at hd;subst hd;cases rx
  cases e<;>simp only[Rep]at he
  ·subst he;cases ry;exact SeqAt.EqAt.same _
  ·subst he;cases ry;exact SeqAt.EqAt.none_bool _
  ·subst he;obtain⟨t,rfl⟩:=ry;exact SeqAt.EqAt.none_int _ _
  ·subst he;obtain⟨t,rfl⟩:=ry;exact SeqAt.EqAt.none_str _ _
  ·obtain⟨a,xs,rfl,hx,_⟩:=he;cases ry;obtain⟨_,_,p,_⟩:=I.list hx;exact SeqAt.EqAt.none_list p.isList hu
  ·obtain⟨a,xs,rfl,hx,_⟩:=he;cases ry;obtain⟨_,_,p,_⟩:=I.tuple hx;exact SeqAt.EqAt.none_tuple (zz21 p) hu
 |.bl b,e,x,y,u,v,A,hu,hd,he,rx,ry=>by
  have hu:A.units<cLine:=by omega
  simp only[Rep]at hd;subst hd;cases rx
  cases e<;>simp only[Rep]at he
  ·subst he;cases ry;exact SeqAt.EqAt.bool_none _
  ·subst he;cases ry;exact SeqAt.EqAt.bool_bool _ _
  ·subst he;obtain⟨t,rfl⟩:=ry;exact SeqAt.EqAt.bool_int _ _ _
  ·subst he;obtain⟨t,rfl⟩:=ry;exact SeqAt.EqAt.bool_str _ _ _
  ·obtain⟨a,xs,rfl,hx,_⟩:=he;cases ry;obtain⟨_,_,p,_⟩:=I.list hx;exact SeqAt.EqAt.bool_list _ p.isList hu
  ·obtain⟨a,xs,rfl,hx,_⟩:=he;cases ry;obtain⟨_,_,p,_⟩:=I.tuple hx;exact SeqAt.EqAt.bool_tuple _ (zz21 p) hu
 |.int b,e,x,y,u,v,A,hu,hd,he,rx,ry=>by
  have hu:A.units<cLine:=by omega
  simp only[Rep]at hd;subst hd;obtain⟨t0,rfl⟩:=rx
  cases e<;>simp only[Rep]at he
  ·subst he;cases ry;exact SeqAt.EqAt.int_none _ _
  ·subst he;cases ry;exact SeqAt.EqAt.int_bool _ _ _
  ·subst he;obtain⟨t,rfl⟩:=ry;exact SeqAt.EqAt.int_int _ _ _ _
  ·subst he;obtain⟨t,rfl⟩:=ry;exact SeqAt.EqAt.int_str _ _ _ _
  ·obtain⟨a,xs,rfl,hx,_⟩:=he;cases ry;obtain⟨_,_,p,_⟩:=I.list hx;exact SeqAt.EqAt.int_list _ _ p.isList hu
  ·obtain⟨a,xs,rfl,hx,_⟩:=he;cases ry;obtain⟨_,_,p,_⟩:=I.tuple hx;exact SeqAt.EqAt.int_tuple _ _ (zz21 p) hu
 |.str b,e,x,y,u,v,A,hu,hd,he,rx,ry=>by
  have hu:A.units<cLine:=by omega
  simp only[Rep]at hd;subst hd;obtain⟨t0,rfl⟩:=rx
  cases e<;>simp only[Rep]at he
  ·subst he;cases ry;exact SeqAt.EqAt.str_none _ _
  ·subst he;cases ry;exact SeqAt.EqAt.str_bool _ _ _
  ·subst he;obtain⟨t,rfl⟩:=ry;exact SeqAt.EqAt.str_int _ _ _ _
  ·subst he;obtain⟨t,rfl⟩:=ry;exact SeqAt.EqAt.str_str _ _ _ _
  ·obtain⟨a,xs,rfl,hx,_⟩:=he;cases ry;obtain⟨_,_,p,_⟩:=I.list hx;exact SeqAt.EqAt.str_list _ _ p.isList hu
  ·obtain⟨a,xs,rfl,hx,_⟩:=he;cases ry;obtain⟨_,_,p,_⟩:=I.tuple hx;exact SeqAt.EqAt.str_tuple _ _ (zz21 p) hu
 |.lst ds,e,x,y,u,v,A,hu,hd,he,rx,ry=>by
  have hu0:A.units<cLine:=by omega
  simp only[dep]at hu
  simp only[Rep]at hd;obtain⟨a,xs,rfl,hx,r⟩:=hd;cases rx
  obtain⟨its,rv,p,hz⟩:=I.list hx
  cases e<;>simp only[Rep]at he
  ·subst he;cases ry;exact SeqAt.EqAt.list_none p.isList hu0
  ·subst he;cases ry;exact SeqAt.EqAt.list_bool _ p.isList hu0
  ·subst he;obtain⟨t,rfl⟩:=ry;exact SeqAt.EqAt.list_int _ _ p.isList hu0
  ·subst he;obtain⟨t,rfl⟩:=ry;exact SeqAt.EqAt.list_str _ _ p.isList hu0
  ·rename_i es
   obtain⟨b,ys,rfl,hy,r'⟩:=he;cases ry
   obtain⟨its',rv',p',hz'⟩:=I.list hy
   by_cases hab:a=b
   ·subst hab
    have:=I.list_inj hx hy
    subst this
    rw[repL_inj I ds es xs r r',deq_refl]
    exact SeqAt.EqAt.same _
   ·have l1:=r.len
    have l2:=rv.length
    have l3:=r'.len
    have l4:=rv'.length
    have key:=eAt_all ds es
    simp only[deq]
    rw[<-key]
    by_cases hl:its.length=its'.length
    ·have:=SeqAt.EqAt.of_refs hab (SeqAt.RcAt.lists (e:=eAt ds es) p.isList p'.isList (by simpa using hl) hu0 (λj h1 h2=>by
      have q:=eq_deepL I ds es xs ys its its' A.in1 (by show A.units+1+depL ds<cLine;omega) r r' rv rv' j (by simpa using h1) (by simpa using h2)
      simpa using q))
     have e1:its.toArray.size=min ds.length es.length:=by rw[yas];omega
     rw[e1]at this
     have e2:(ds.length == es.length)=true:=by simp;omega
     rw[e2,Bool.and_true]
     exact this
    ·have e2:(ds.length == es.length)=false:=by simp;omega
     rw[e2,Bool.and_false]
     exact SeqAt.EqAt.of_refs hab (SeqAt.RcAt.lists_lengths p.isList p'.isList (by simpa using hl) hu0)
  ·obtain⟨b,ys,rfl,hy,r'⟩:=he;cases ry
   obtain⟨_,_,q,_⟩:=I.tuple hy
   exact SeqAt.EqAt.list_tuple p.isList (zz21 q) hu0
 |.tup ds,e,x,y,u,v,A,hu,hd,he,rx,ry=>by
  have hu0:A.units<cLine:=by omega
  simp only[dep]at hu
  simp only[Rep]at hd;obtain⟨a,xs,rfl,hx,r⟩:=hd;cases rx
  obtain⟨its,rv,p,hz⟩:=I.tuple hx
  cases e<;>simp only[Rep]at he
  ·subst he;cases ry;exact SeqAt.EqAt.tuple_none (zz21 p) hu0
  ·subst he;cases ry;exact SeqAt.EqAt.tuple_bool _ (zz21 p) hu0
  ·subst he;obtain⟨t,rfl⟩:=ry;exact SeqAt.EqAt.tuple_int _ _ (zz21 p) hu0
  ·subst he;obtain⟨t,rfl⟩:=ry;exact SeqAt.EqAt.tuple_str _ _ (zz21 p) hu0
  ·obtain⟨b,ys,rfl,hy,r'⟩:=he;cases ry
   obtain⟨_,_,q,_⟩:=I.list hy
   exact SeqAt.EqAt.tuple_list (zz21 p) q.isList hu0
  ·rename_i es
   obtain⟨b,ys,rfl,hy,r'⟩:=he;cases ry
   obtain⟨its',rv',p',hz'⟩:=I.tuple hy
   by_cases hab:a=b
   ·subst hab
    have:=I.tuple_inj hx hy
    subst this
    rw[repL_inj I ds es xs r r',deq_refl]
    exact SeqAt.EqAt.same _
   ·have l1:=r.len
    have l2:=rv.length
    have l3:=r'.len
    have l4:=rv'.length
    have key:=eAt_all ds es
    simp only[deq]
    rw[<-key]
    have:=SeqAt.EqAt.of_refs hab (SeqAt.RcAt.tuples (e:=eAt ds es) (zz21 p) (zz21 p') hu0 (λj h1 h2=>by
      have q:=eq_deepL I ds es xs ys its its' A.in1 (by show A.units+1+depL ds<cLine;omega) r r' rv rv' j (by simpa using h1) (by simpa using h2)
      simpa using q))
    have e1:its.toArray.size=ds.length:=by rw[yas];omega
    have e2:its'.toArray.size=es.length:=by rw[yas];omega
    rw[e1,e2]at this
    exact this
theorem eq_deepL(I:Inv X pins σ H s):∀(ds es:List D) (xs ys:List V) (us vs:List Value) (A:Around),A.units+depL ds<cLine->RepL X.K H ds xs->RepL X.K H es ys->Vals xs us->Vals ys vs->
  ∀(j:Nat) (h1:j<us.length) (h2:j<vs.length),SeqAt.EqAt A s us[j] vs[j] (eAt ds es j)
 |[],es,xs,ys,us,vs,A,hu,hd,he,rx,ry,j,h1,h2=>by
  simp only[RepL]at hd
  subst hd
  cases rx
  exact absurd h1 (by simp)
 |d::ds,es,xs,ys,us,vs,A,hu,hd,he,rx,ry,j,h1,h2=>by
  simp only[depL]at hu
  simp only[RepL]at hd
  obtain⟨x,xs',rfl,rd,rds⟩:=hd
  cases rx with
  |cons r0 rr=>
   cases es with
   |nil=>
    simp only[RepL]at he
    subst he
    cases ry
    exact absurd h2 (by simp)
   |cons e es=>
    simp only[RepL]at he
    obtain⟨y,ys',rfl,re,res⟩:=he
    cases ry with
    |cons q0 qr=>
     cases j with
     |zero=>
      have:eAt (d::ds) (e::es) 0=deq d e:=by simp[eAt]
      rw[this]
      exact eq_deep I d e x y _ _ A (by omega) rd re r0 q0
     |succ j=>
      have:eAt (d::ds) (e::es) (j+1)=eAt ds es j:=by simp[eAt]
      rw[this]
      exact eq_deepL I ds es xs' ys' _ _ A (by omega) rds res rr qr j (by simpa using h1) (by simpa using h2)
end
def rEqD(K:Wf):R2:=λx y H Q=>∃ds es,((Rep K H (.lst ds) x/\Rep K H (.lst es) y)\/(Rep K H (.tup ds) x/\Rep K H (.tup es) y))/\depL ds<=20/\Q (.bl (deqL ds es)) H
theorem op_eqD(hu:X.A.units+64<cLine):OpR X (compareOp .Eq) (rEqD X.K):=by
 intro pins s σ H x y v u Q I rx ry h
 obtain⟨ds,es,h,hdep,q⟩:=h
 have hu0:X.A.units<cLine:=by omega
 have hin:X.A.in1.units+depL ds<cLine:=by show X.A.units+1+depL ds<cLine;omega
 have key:=eAt_all ds es
 rcases h with ⟨h1,h2⟩|⟨h1,h2⟩
 ·simp only[Rep]at h1 h2
  obtain⟨a,xs,rfl,hx,r⟩:=h1
  obtain⟨b,ys,rfl,hy,r'⟩:=h2
  cases rx
  cases ry
  obtain⟨its,rv,p,hz⟩:=I.list hx
  obtain⟨its',rv',p',hz'⟩:=I.list hy
  have l1:=r.len
  have l2:=rv.length
  have l3:=r'.len
  have l4:=rv'.length
  by_cases hl:its.length=its'.length
  ·refine SeqAt.eq_listAt (e:=eAt ds es) p.isList p'.isList (by simpa using hl) hu0 (λj h1 h2=>?_) ?_
   ·have q:=eq_deepL I ds es xs ys its its' X.A.in1 hin r r' rv rv' j (by simpa using h1) (by simpa using h2)
    simpa using q
   ·have e1:its.toArray.size=min ds.length es.length:=by rw[yas];omega
    have e2:(ds.length == es.length)=true:=by simp;omega
    rw[e2,Bool.and_true]at key
    rw[e1,key]
    exact⟨.bl (deqL ds es),H,I,rfl,q⟩
  ·have e2:(ds.length == es.length)=false:=by simp;omega
   rw[e2,Bool.and_false]at key
   rw[<-key]at q
   exact SeqAt.eq_list_lengthsAt p.isList p'.isList (by simpa using hl) hu0 ⟨.bl false,H,I,rfl,q⟩
 ·simp only[Rep]at h1 h2
  obtain⟨a,xs,rfl,hx,r⟩:=h1
  obtain⟨b,ys,rfl,hy,r'⟩:=h2
  cases rx
  cases ry
  obtain⟨its,rv,p,hz⟩:=I.tuple hx
  obtain⟨its',rv',p',hz'⟩:=I.tuple hy
  have l1:=r.len
  have l2:=rv.length
  have l3:=r'.len
  have l4:=rv'.length
  refine SeqAt.eq_tupleAt (e:=eAt ds es) (zz21 p) (zz21 p') hu0 (λj h1 h2=>?_) ?_
  ·have q:=eq_deepL I ds es xs ys its its' X.A.in1 hin r r' rv rv' j (by simpa using h1) (by simpa using h2)
   simpa using q
  ·have e1:its.toArray.size=ds.length:=by rw[yas];omega
   have e2:its'.toArray.size=es.length:=by rw[yas];omega
   rw[e1,e2,key]
   exact⟨.bl (deqL ds es),H,I,rfl,q⟩
def rNeD(K:Wf):R2:=λx y H Q=>∃ds es,((Rep K H (.lst ds) x/\Rep K H (.lst es) y)\/(Rep K H (.tup ds) x/\Rep K H (.tup es) y))/\depL ds<=20/\Q (.bl (!deqL ds es)) H
theorem op_neD(hu:X.A.units+64<cLine):OpR X (compareOp .NotEq) (rNeD X.K):=by
 intro pins s σ H x y v u Q I rx ry h
 obtain⟨ds,es,h,hdep,q⟩:=h
 have hu0:X.A.units<cLine:=by omega
 have hin:X.A.in1.units+depL ds<cLine:=by show X.A.units+1+depL ds<cLine;omega
 have key:=eAt_all ds es
 rcases h with ⟨h1,h2⟩|⟨h1,h2⟩
 ·simp only[Rep]at h1 h2
  obtain⟨a,xs,rfl,hx,r⟩:=h1
  obtain⟨b,ys,rfl,hy,r'⟩:=h2
  cases rx
  cases ry
  obtain⟨its,rv,p,hz⟩:=I.list hx
  obtain⟨its',rv',p',hz'⟩:=I.list hy
  have l1:=r.len
  have l2:=rv.length
  have l3:=r'.len
  have l4:=rv'.length
  by_cases hl:its.length=its'.length
  ·refine SeqAt.RcNeAt.lists (e:=eAt ds es) p.isList p'.isList (by simpa using hl) hu0 (λj h1 h2=>?_) X.prog X.w X.xe _ ?_
   ·have q:=eq_deepL I ds es xs ys its its' X.A.in1 hin r r' rv rv' j (by simpa using h1) (by simpa using h2)
    simpa using q
   ·have e1:its.toArray.size=min ds.length es.length:=by rw[yas];omega
    have e2:(ds.length == es.length)=true:=by simp;omega
    rw[e2,Bool.and_true]at key
    rw[e1,key]
    exact⟨.bl (!deqL ds es),H,I,rfl,q⟩
  ·have e2:(ds.length == es.length)=false:=by simp;omega
   rw[e2,Bool.and_false]at key
   rw[<-key]at q
   exact SeqAt.RcNeAt.lists_lengths p.isList p'.isList (by simpa using hl) hu0 X.prog X.w X.xe _ ⟨.bl true,H,I,rfl,q⟩
 ·simp only[Rep]at h1 h2
  obtain⟨a,xs,rfl,hx,r⟩:=h1
  obtain⟨b,ys,rfl,hy,r'⟩:=h2
  cases rx
  cases ry
  obtain⟨its,rv,p,hz⟩:=I.tuple hx
  obtain⟨its',rv',p',hz'⟩:=I.tuple hy
  have l1:=r.len
  have l2:=rv.length
  have l3:=r'.len
  have l4:=rv'.length
  refine SeqAt.RcNeAt.tuples (e:=eAt ds es) (zz21 p) (zz21 p') hu0 (λj h1 h2=>?_) X.prog X.w X.xe _ ?_
  ·have q:=eq_deepL I ds es xs ys its its' X.A.in1 hin r r' rv rv' j (by simpa using h1) (by simpa using h2)
   simpa using q
  ·have e1:its.toArray.size=ds.length:=by rw[yas];omega
   have e2:its'.toArray.size=es.length:=by rw[yas];omega
   rw[e1,e2,key]
   exact⟨.bl (!deqL ds es),H,I,rfl,q⟩
theorem RepL.ints{K:Wf}{H:Hp}:∀ns:List Int,RepL K H (ns.map D.int) (ns.map V.int)
 |[]=>by simp only[List.map_nil,RepL]
 |n::ns=>by simp only[List.map_cons,RepL];exact⟨_,_,rfl,by simp only[Rep],RepL.ints ns⟩
end
section
variable{X:Cx}{K:Wf}
theorem zz19(e:X.K=K):IxR X (rIxL K):=e▸ix_list
theorem zz8(e:X.K=K):IxR X (rIxT K):=e▸ix_tup
theorem sl_listK(e:X.K=K):SlR X (rSlL K):=e▸sl_list
theorem sl_tupK(e:X.K=K):SlR X (rSlT K):=e▸sl_tup
theorem op_catSK(e:X.K=K):OpR X (binaryOp .Add) (rCatS K):=e▸op_catS
theorem op_catTK(e:X.K=K):OpR X (binaryOp .Add) (rCatT K):=e▸op_catT
theorem op_inSK(e:X.K=K):OpR X (compareOp .In) (rIn K false):=e▸op_in_seq
theorem op_notInSK(e:X.K=K):OpR X (compareOp .NotIn) (rIn K true):=e▸op_notIn_seq
theorem op_eqDK(hu:X.A.units+64<cLine)(e:X.K=K):OpR X (compareOp .Eq) (rEqD K):=e▸op_eqD hu
theorem op_neDK(hu:X.A.units+64<cLine)(e:X.K=K):OpR X (compareOp .NotEq) (rNeD K):=e▸op_neD hu
theorem call_lenK(e:X.K=K):CallR X (.builtin "len") (λxs H Q=>∃x n,xs=[x]/\LenV K x H n/\Q (.int n) H):=e▸call_len
theorem call_isiK(e:X.K=K):CallR X (.builtin "isinstance") (rIsi K):=e▸call_isi
theorem zz27(e:X.K=K):CallR X (.type "list") (λxs H Q=>∃p ys,xs=[.ref p]/\(SqL K H p ys\/SqT K H p ys)/\∀l,H l=none->Q (.ref l) (upd H l (.lst ys))):=e▸call_list_of
theorem zz12(e:X.K=K)(hl:PE X l tl):PI X tg l (iList K tl):=e▸pi_list hl
theorem pg_tupK(e:X.K=K)(hc:X.calm=true)(h:PGs X es t)
  (hn:(assignEach es X.env).length=n:=by rfl) (hst:(assignEach es X.env).findIdx? (·.1)=none:=by rfl):PG X (.Tuple es k pos) (gTup K n t):=e▸pg_tup hc h hn hst
end
section
variable{X:Cx}
noncomputable def rStarts:V->List V->Hp->VK->Prop:=λx vs H Q=>∃z y,x=.str z/\vs=[.str y]/\Q (.bl (Txt.startswith z y)) H
noncomputable def rIndex:V->List V->Hp->VK->Prop:=λx vs H Q=>∃z y i,x=.str z/\vs=[.str y]/\(∃rest,Builtin.Str.occurrences z y 0 z.length 1=i::rest)/\Q (.int (i:Nat)) H
end
def ExcIs(h:Heap)(e:Addr)(cls:Value)(dx:Option Addr)(fl:Value)(T:Addr):Prop:=
 ∃oe vs oT ts,h.get? e=some oe/\oe.cls=cls/\oe.dict=dx/\oe.data=.fields vs/\vs[1]?=some (.ref T)/\T≠e/\h.get? T=some oT/\oT.data=.fields ts/\ts[3]?=some fl
structure LeftX(fs:List Addr)(e T0:Addr)(cls:Value)(dx:Option Addr)(fl:Value)(h h':Heap):Prop where
 keep:∀b o,b∉fs->b≠e->b≠T0->h.get? b=some o->h'.get? b=some o
 slot:∀b o,b∈fs->b≠e->b≠T0->h.get? b=some o->∃sl,h'.get? b=some { o with slots:=sl }
 there:∀b o,h.get? b=some o->∃o',h'.get? b=some o'
 exc:∃T,h.objs.size<=T/\ExcIs h' e cls dx fl T
section
variable{M:Model}{A:Around}{E:Vs}{s:Shared}
theorem cls_dict_mapFields(f:Array Value->Array Value)(o:Obj):(Obj.mapFields f o).dict=o.dict:=by
 obtain⟨c,d,da,sl⟩:=o
 cases da<;>rfl
theorem newEntryX{outer:List Env}{hadNext:Bool}
  (hfr:A.frames=some (env::outer)) (hl:s.heap.FunFrames base (env::outer)) (hf:env.frame=some L)
  (he:s.heap.get? e=some oe) (hd:oe.data=.fields vs) (hsz:1<vs.size)
  (h:∀h',LeftX (frs (env::outer)) e T0 oe.cls oe.dict (rawInt L) s.heap h'->Q () { s with heap:=h' }):
  wpAny M A (do let a <-frameOf env;let pl <-entryPlaceOf L hadNext;let b <-EntryCells.newEntry head a .none (rawInt L) .none pl;setField (.ref e) 1 b) Q E s:=by
 have hene:e∉(env::outer).filterMap (·.frame):=λhm=>by
  obtain⟨_,o,ho,hnf⟩:=hl.mem hm
  rw[he]at ho;injection ho with ho;subst ho;exact hnf vs hd
 refine yab (wpAny_frameOf_fun hfr hl hf λh₁ hs₁=>?_)
 refine yab (wpAny_entryPlaceOf λpl hpl=>?_)
 unfold EntryCells.newEntry newFields
 refine yab (ybn ?_ (hpl.sizeOk5 _ _ _ _ _))
 have he₁:h₁.get? e=some oe:=(hs₁.2.1 e hene).trans he
 have he₂:=yad (h:=h₁) { cls:=.type "traceback", dict:=none,data:=.fields ([head,.ref L,.none,rawInt L,.none]++(if pl.isEmpty then List.replicate 6 Value.none else pl)).toArray } he₁
 refine yce he₂ hd hsz (h _ ?_)
 have hTe:h₁.objs.size≠e:=Nat.ne_of_gt (yal he₁)
 have hd₃:=Obj.data_mapFields hd (·.setIfInBounds 1 (Value.ref h₁.objs.size))
 have he₃:=ybf (Obj.mapFields (·.setIfInBounds 1 (Value.ref h₁.objs.size))) he₂ (Obj.isFreed_of_fields hd₃)
 have hT₃:=(ybi (h₁.push { cls:=.type "traceback", dict:=none,data:=.fields ([head,.ref L,.none,rawInt L,.none]++(if pl.isEmpty then List.replicate 6 Value.none else pl)).toArray })
  (Obj.mapFields (·.setIfInBounds 1 (Value.ref h₁.objs.size))) (Ne.symm hTe)).trans (yaq h₁ rfl)
 have keep:∀b o,b≠e->h₁.get? b=some o->
   ((h₁.push { cls:=.type "traceback", dict:=none,data:=.fields ([head,.ref L,.none,rawInt L,.none]++(if pl.isEmpty then List.replicate 6 Value.none else pl)).toArray }).update e (Obj.mapFields (·.setIfInBounds 1 (Value.ref h₁.objs.size)))).get? b=some o:=
  λb o hbe hb=>by
   rw[ybi _ _ (Ne.symm hbe)]
   exact yad _ hb
 have new:s.heap.objs.size<=h₁.objs.size:=Nat.le_of_eq hs₁.1.symm
 refine⟨λb o hb hbe _ hbo=>keep b o hbe ((hs₁.2.1 b hb).trans hbo),λb o _ hbe _ hbo=>?_,λb o hbo=>?_,h₁.objs.size,new,_,_,_,_,he₃,Obj.cls_mapFields _ _,cls_dict_mapFields _ _,hd₃,by simp[hsz],hTe,hT₃,rfl,?_⟩
 ·obtain⟨sl,hs⟩:=hs₁.2.2 b o hbo
  exact⟨sl,keep b _ hbe hs⟩
 ·by_cases hbe:b=e
  ·subst hbe;exact⟨_,he₃⟩
  ·obtain⟨sl,hs⟩:=hs₁.2.2 b o hbo
   exact⟨_,keep b _ hbe hs⟩
 ·first|(simp;done)|(rcases hpl with rfl|⟨_,_,_,_,_,_,_,rfl⟩<;>simp)
def ExcNew(h:Heap)(e:Addr)(cls:Value)(dx:Option Addr):Prop:=∃oe vs,h.get? e=some oe/\oe.cls=cls/\oe.dict=dx/\oe.data=.fields vs/\vs[1]?=some .none
theorem note_new{outer:List Env}
  (hfr:A.frames=some (env::outer)) (hl:s.heap.FunFrames base (env::outer)) (hf:env.frame=some L) (hx:ExcNew s.heap e cls dx)
  (h:∀h',LeftX (frs (env::outer)) e e cls dx (rawInt L) s.heap h'->Q () { s with heap:=h' }):wpAny M A (noteFrame (.ref e) env) Q E s:=by
 obtain⟨oe,vs,he,hc,hdx,hd,h1⟩:=hx
 subst hc hdx
 unfold noteFrame
 simp only[hf]
 refine yab (ycs he hd h1 ?_)
 rw[if_neg (by decide)]
 exact newEntryX hfr hl hf he hd (ybx.mp h1).1 h
theorem note_next{outer:List Env}
  (hfr:A.frames=some (env::outer)) (hl:s.heap.FunFrames base (env::outer)) (hf:env.frame=some L) (hx:ExcIs s.heap e cls dx .none T)
  (h:∀h',LeftX (frs (env::outer)) e T cls dx (rawInt L) s.heap h'->Q () { s with heap:=h' }):wpAny M A (noteFrame (.ref e) env) Q E s:=by
 obtain⟨oe,vs,oT,ts,he,hc,hdx,hd,h1,hTe,hT,hdT,h3⟩:=hx
 subst hc hdx
 unfold noteFrame
 simp only[hf]
 refine yab (ycs he hd h1 ?_)
 rw[if_pos (show(Value.ref T != Value.none)=true from by simp)]
 refine yab (ycs hT hdT h3 ?_)
 rw[if_neg (show ¬((Value.none == rawInt L)=true) from by simp[rawInt])]
 refine yab (yce hT hdT (ybx.mp h3).1 ?_)
 have other:∀b,b≠T->(s.heap.update T (Obj.mapFields (·.setIfInBounds 3 Value.none))).get? b=s.heap.get? b:=λb hb=>ybi _ _ (Ne.symm hb)
 have noRecord:∀b o,s.heap.get? b=some o->(∀vs,o.data≠.fields vs)->b≠T:=λb o hb hnf q=>by
  rw[q,hT]at hb;injection hb with hb;subst hb;exact hnf ts hdT
 have hT':=ybf (Obj.mapFields (·.setIfInBounds 3 Value.none)) hT (Obj.isFreed_of_fields (Obj.data_mapFields hdT _))
 refine newEntryX (T0:=T) hfr (hl.of_keeps λb o hb hnf=>⟨o,(other b (noRecord b o hb hnf)).trans hb,rfl⟩) hf ((other e (Ne.symm hTe)).trans he) hd (ybx.mp h1).1 λh' x=>h h' ?_
 refine⟨λb o hb hbe hbT hbo=>x.keep b o hb hbe hbT ((other b hbT).trans hbo),λb o hb hbe hbT hbo=>x.slot b o hb hbe hbT ((other b hbT).trans hbo),λb o hbo=>?_,?_⟩
 ·by_cases hb:b=T
  ·subst hb;exact x.there b _ hT'
  ·exact x.there b o ((other b hb).trans hbo)
 ·obtain⟨T',hn,y⟩:=x.exc
  exact⟨T',by rw[Heap.size_update]at hn;exact hn,y⟩
theorem flight_off(hx:ExcIs s.heap e cls dx fl T)
  (h:∀h',(∀b o,b≠T->s.heap.get? b=some o->h'.get? b=some o)->(∃o,h'.get? T=some o)->ExcIs h' e cls dx .none T->Q () { s with heap:=h' }):wpAny M A (setFlight (.ref e) none) Q E s:=by
 obtain⟨oe,vs,oT,ts,he,hc,hdx,hd,h1,hTe,hT,hdT,h3⟩:=hx
 unfold setFlight
 refine yab (ycs he hd h1 ?_)
 rw[if_pos (show(Value.ref T != Value.none)=true from by simp)]
 have hs:=(ybx.mp h3).1
 refine yce hT hdT hs (h _ (λb o hb hbo=>?_) ?_ ?_)
 ·rw[ybi _ _ (Ne.symm hb)];exact hbo
 ·exact⟨_,ybf _ hT (Obj.isFreed_of_fields (Obj.data_mapFields hdT _))⟩
 ·refine⟨oe,vs,_,_,?_,hc,hdx,hd,h1,hTe,ybf _ hT (Obj.isFreed_of_fields (Obj.data_mapFields hdT _)),Obj.data_mapFields hdT _,?_⟩
  ·rw[ybi _ _ hTe];exact he
  ·simp[hs]
theorem LeftX.off(x:LeftX fs e T0 cls dx fl h h1)(hT:h.objs.size<=T)(k:∀b o,b≠T->h1.get? b=some o->h2.get? b=some o)
  (hT2:∃o,h2.get? T=some o) (y:ExcIs h2 e cls dx .none T):LeftX fs e T0 cls dx .none h h2:=by
 have ne:∀b o,h.get? b=some o->b≠T:=λb o e z=>by
  have:=yal e
  rw[z]at this
  exact absurd (yat this hT) (ybb _)
 refine⟨λb o hb hbe hb0 hbo=>k b o (ne b o hbo) (x.keep b o hb hbe hb0 hbo),λb o hb hbe hb0 hbo=>?_,λb o hbo=>?_,T,hT,y⟩
 ·obtain⟨sl,q⟩:=x.slot b o hb hbe hb0 hbo
  exact⟨sl,k b _ (ne b o hbo) q⟩
 ·obtain⟨o',q⟩:=x.there b o hbo
  exact⟨o',k b _ (ne b o hbo) q⟩
theorem leave_new{outer:List Env}
  (hfr:A.frames=some (env::outer)) (hl:s.heap.FunFrames base (env::outer)) (hf:env.frame=some L) (hx:ExcNew s.heap e cls dx)
  (h:∀h',LeftX (frs (env::outer)) e e cls dx .none s.heap h'->Q () { s with heap:=h' }):wpAny M A (leaving env (.ref e)) Q E s:=by
 unfold leaving
 refine yab (note_new hfr hl hf hx λh1 x=>?_)
 obtain⟨T,hT,y⟩:=x.exc
 exact flight_off (s:={ s with heap:=h1 }) y λh2 k hT2 z=>h h2 (x.off hT k hT2 z)
theorem leave_next{outer:List Env}
  (hfr:A.frames=some (env::outer)) (hl:s.heap.FunFrames base (env::outer)) (hf:env.frame=some L) (hx:ExcIs s.heap e cls dx .none T0)
  (h:∀h',LeftX (frs (env::outer)) e T0 cls dx .none s.heap h'->Q () { s with heap:=h' }):wpAny M A (leaving env (.ref e)) Q E s:=by
 unfold leaving
 refine yab (note_next hfr hl hf hx λh1 x=>?_)
 obtain⟨T,hT,y⟩:=x.exc
 exact flight_off (s:={ s with heap:=h1 }) y λh2 k hT2 z=>h h2 (x.off hT k hT2 z)
end
noncomputable def CXE(P:Program)(w:World):CXT:=λouter H s E e s'=>∃(a T:Addr) (cls:Value) (dx:Option Addr) (H':Hp),e=.ref a/\s'.os=s.os/\AllBare s'.gens/\Un (frs outer) [] H H' s.heap s'.heap/\HOk P w H' s'.heap/\
 s.heap.get? a=none/\s.heap.get? T=none/\H' a=none/\H' T=none/\ExcIs s'.heap a cls dx .none T/\E cls dx H'
def ExcAt(X:Cx)(H:Hp)(h:Heap)(a:Addr)(cls:Value)(dx:Option Addr):Prop:=
 X.s₀.heap.get? a=none/\H a=none/\(ExcNew h a cls dx\/∃T,X.s₀.heap.get? T=none/\H T=none/\ExcIs h a cls dx .none T)
def Xe(X:Cx)(E:XK):Prop:=∀(pins:Lo) (σ:St) (H:Hp) (s:Shared) (a:Addr) (cls:Value) (dx:Option Addr),Inv X pins σ H s->ExcAt X H s.heap a cls dx->E cls dx H->X.xe (.ref a) s
theorem HOk.tracked(ok:HOk P w H h)(k:∀b o u,H b=some u->h.get? b=some o->h'.get? b=some o):HOk P w H h':=λa o e=>
 (ok a o e).stay (λb u hb q=>by
  rcases hb with z|z
  ·subst z;exact k b u o e q
  ·exact k b u _ z q) (λ_ q=>q) λ_ _ q=>q
theorem Un.left(I:Inv X pins σ H s)(hex:X.ex=[])(hst:X.stack=X.env::X.outer)(hfr:X.env.frame=some X.env.locals)
  (ha:X.s₀.heap.get? a=none) (hT:X.s₀.heap.get? T0=none) (x:LeftX (frs (X.env::X.outer)) a T0 cls dx .none s.heap h'):Un X.fs [] X.H₀ H X.s₀.heap h':=by
 have hfs:frs (X.env::X.outer)=X.env.locals::X.fs:=by simp[frs,hfr]
 have nl:∀b o,X.s₀.heap.get? b=some o->b≠X.env.locals:=λb o e z=>by
  have:=yal e
  rw[z]at this
  exact absurd (yat this I.ok.above) (ybb _)
 have na:∀b o,X.s₀.heap.get? b=some o->b≠a:=λb o e z=>by rw[z,ha]at e;cases e
 have nT:∀b o,X.s₀.heap.get? b=some o->b≠T0:=λb o e z=>by rw[z,hT]at e;cases e
 have nx:∀b:Addr,b∉X.ex:=λb=>by rw[hex];simp
 have B:=I.base
 have nfs:∀b o,X.s₀.heap.get? b=some o->b∉X.fs->b∉frs (X.env::X.outer):=λb o e hb z=>by
  rw[hfs]at z
  rcases yau.mp z with q|q
  ·exact nl b o e q
  ·exact hb q
 refine⟨λb o e n hb _=>x.keep b o (nfs b o e hb) (na b o e) (nT b o e) (B.keep b o e n hb (nx b)),λb o e n hb _=>?_,λb o e n _=>B.free b o e n (nx b),λb o e _=>?_,B.tups,B.frzs,B.tbls⟩
 ·obtain⟨sl,q⟩:=B.slot b o e n hb (nx b)
  obtain⟨sl2,q2⟩:=x.slot b _ (by rw[hfs];exact yaw _ hb) (na b o e) (nT b o e) q
  exact⟨sl2,q2⟩
 ·obtain⟨o',q⟩:=B.there b o e (nx b)
  exact x.there b o' q
theorem xe_cx{P:Program}{w:World}{K:Wf}{mg:So}{base:Heap}{N:List Str}{qual:Str}{scope:Scope}{f:Addr}{cd:Value}{A:Around}{outer:List Env}{s₀:Shared}{H₀:Hp}{E₀:XK}:
  Xe (cxOf (CXE P w) P w K mg base N qual scope f cd A outer s₀ H₀ E₀) E₀:=by
 intro pins σ H s a cls dx I hx hE
 obtain⟨ha,hHa,hx⟩:=hx
 have hfr:(envOfC qual scope s₀.heap.objs.size f cd).frame=some s₀.heap.objs.size:=rfl
 have fin:∀(T0:Addr) (h':Heap),s₀.heap.get? T0=none->H T0=none->LeftX (frs (envOfC qual scope s₀.heap.objs.size f cd::outer)) a T0 cls dx .none s.heap h'->CXE P w outer H₀ s₀ E₀ (.ref a) { s with heap:=h' }:=by
  intro T0 h' hT0 hHT0 x
  obtain⟨T,hT,y⟩:=x.exc
  have hTn:s₀.heap.get? T=none:=by
   cases q:s₀.heap.get? T with
   |none=>rfl
   |some o=>exact absurd (yat (yal q) (yay I.sz hT)) (ybb _)
  refine⟨a,T,cls,dx,H,rfl,I.os,I.bare,Un.left I rfl rfl rfl ha hT0 x,?_,ha,hTn,hHa,I.hok.fresh hT,y,hE⟩
  refine I.hok.tracked λb o u hb q=>x.keep b o (λz=>?_) (λz=>by rw[z,hHa]at hb;cases hb) (λz=>by rw[z,hHT0]at hb;cases hb) q
  have:=I.stkFree b z
  rw[this]at hb;cases hb
 rcases hx with hx|⟨T0,hT0,hHT0,hx⟩
 ·exact leave_new (base:=base) I.ok.frames I.stack hfr hx λh' x=>fin a h' ha hHa x
 ·exact leave_next (base:=base) I.ok.frames I.stack hfr hx λh' x=>fin T0 h' hT0 hHT0 x
theorem passesE(h:Xe X E)(hex:X.ex=[]:=by rfl):Passes (CXE X.prog X.w) X E:=by
 intro pins σ H s e s' I hx
 obtain⟨a,T,cls,dx,H',rfl,ho,hg,u,hok,ha,hT,hHa,hHT,y,hE⟩:=hx
 have I':Inv X pins σ H' s':=I.call' (ch:=[]) ho u hok hg λb hb=>absurd hb (by simp)
 have old:∀b,s.heap.get? b=none->X.ex=[]->X.s₀.heap.get? b=none:=λb hb hx=>by
  cases q:X.s₀.heap.get? b with
  |none=>rfl
  |some o=>
   obtain⟨o',q'⟩:=I.base.there b o q (by rw[hx];simp)
   rw[hb]at q';cases q'
 exact h pins σ H' s' a cls dx I' ⟨old a ha hex,hHa,.inr ⟨T,old T hT hex,hHT,y⟩⟩ hE
theorem ObjOk.there(x:ObjOk P w H h a o):∃ob,h.get? a=some ob:=by
 cases o with
 |lst xs=>obtain⟨_,_,_,_,e⟩:=x;exact⟨_,e⟩
 |tup xs=>obtain⟨_,_,_,o,e,_⟩:=x;exact⟨_,e⟩
 |dK kvs=>obtain⟨_,_,_,_,o,_,_,e,_⟩:=x;exact⟨_,e⟩
 |dT kvs=>obtain⟨_,_,_,_,o,_,_,e,_⟩:=x;exact⟨_,e⟩
 |set S n=>obtain⟨o,_,_,_,e,_⟩:=x;exact⟨_,e⟩
 |ins C dx fs=>obtain⟨_,_,_,e,_⟩:=x;exact⟨_,e⟩
 |own y=>obtain⟨_,e⟩:=x;exact⟨_,e⟩
 |xd fs=>obtain⟨_,⟨_,_,_,e,_⟩,_⟩:=x;exact⟨_,e⟩
 |rng lo hi=>obtain⟨_,_,_,e⟩:=x;exact⟨_,e⟩
 |frz ob u=>obtain⟨e,_⟩:=x;exact⟨_,e⟩
 |tbl ps=>exact⟨_,(show h.get? a=some _ from x)⟩
 |met f y=>exact⟨_,(show h.get? a=some _ from x)⟩
 |ext φ=>obtain⟨_,⟨_,e⟩,_⟩:=x;exact⟨_,e⟩
theorem own_obj{K:Wf}{h:Heap}{C:Addr}{bmB:List Value}{newId:String}(X:K.In h)(q:excIn K C bmB newId=true):
  ∃bm N nm q bs hdct sn sub ab col dd k0 k1 k2 k3 k5 mN,h.get? C=some (excClassObj nm q C N bs bm hdct sn sub ab col dd k0 k1 k2 k3 k5 newId)/\h.Ns N mN/\mN "__init__" = none/\OwnTail h bmB bm:=by
 unfold excIn at q
 split at q
 ·rename_i dd cd sl ho
  split at q
  ·rename_i C' bm k0 k1 k2 k3 n k5 hm hs
   simp only[Bool.and_eq_true,beq_iff_eq,Bool.not_eq_true']at q
   obtain⟨⟨⟨⟨⟨rfl,rfl⟩,hdel⟩,ht⟩,hok⟩,hni⟩:=q
   obtain⟨nm,bs,mro,ns,qn,hd,sn,sub,ab,col,del⟩:=cd
   dsimp only at hm hdel hok hni
   subst hm hdel
   have hsl:sl=#[k0,k1,k2,k3,some (.builtin n),k5]:=by
    obtain⟨l⟩:=sl
    simp only at hs
    rw[hs]
   subst hsl
   exact⟨bm,ns,nm,qn,bs,hd,sn,sub,ab,col,dd,k0,k1,k2,k3,k5,_,X _ _ ho,.of_isNs (isNs_of_in X hok),PySem.W.nsMap_none_of_in X hok hni,tail_of_in X ht⟩
  ·cases q
 ·cases q
section
variable{X:Cx}
def tRaise(C:Addr)(E:XK)(t:TA):TS:=λ_ σ H=>t σ H λvs H1=>vs.length<=sizeLine/\E (.ref C) none H1
end
end L2
namespace L2
open PySem PySem.Spec PyProof.Rows PySem.W
structure XCls(K:Frag)(C:Addr):Prop where
 ga:findIn K (.ref C) "__getattribute__" = some (some (.builtin "BaseException.__getattribute__"))
 gn:findIn K (.ref C) "__getattr__" = some none
 cl:findIn K (.ref C) "__class__" = some (some (.builtin "object.__class__"))
 sg:specialIn K (.builtin "object.__class__") "__get__" = some (some (.builtin "getset_descriptor.__get__"))
 tk:takesIn K (.builtin "object.__class__")=some true
 mo:mroIn K C (.type "object")=some true
 mb:mroIn K C (.type "BaseException")=some true
section
variable{prog:Program}{w:World}{A:Around}{E:Vs}{s:Shared}{K:Frag}{x C:Addr}{ox:Obj}{od:Option Obj}{name:Str}
theorem xc_some(e:mroIn K C b=some r):∃cd,clsIn K C=some cd:=by
 obtain⟨cd,a,_⟩:=Option.bind_eq_some_iff.mp e
 exact⟨cd,a⟩
theorem x_check{nameV:Value}(X:K.In s.heap)(c:XCls K C)(I:InstAt s.heap x ox C od)(q:Q () s):wpAny M A (checkBuiltinCall "BaseException.__getattribute__" ⟨[.ref x,nameV],[]⟩) Q E s:=
 @check_slot M A E s "BaseException.__getattribute__" "BaseException" "__getattribute__" (.ref x) [nameV] [] Q (by decide +kernel) (by decide +kernel) ((I.type).andThen (looks_mroIn X c.mb)) (F.args_bexc_ga _ _) q
theorem x_entry_value(X:K.In s.heap)(I:InstAt s.heap x ox C od)(hf:findObj K C od name=some (.value v))(h:Q (.done (.ret v)) s):
  wpAny (model prog w) A (Builtin.«object.__getattribute__» ⟨[.ref x,.str name tk],[]⟩) Q E s:=by
 have L0:=I.type (M:=model prog w)
 have L1:=looks_find (M:=model prog w) X I hf
 unfold Builtin.«object.__getattribute__»
 refine yab (yaf ?_)
 refine yab (yaf ?_)
 refine yab (L0.here (yab (L1.here ?_)))
 exact yaf h
theorem x_entry_class(X:K.In s.heap)(c:XCls K C)(I:InstAt s.heap x ox C od)(h:Q (.done (.ret (.ref C))) s):
  wpAny (model prog w) A (Builtin.«object.__getattribute__» ⟨[.ref x,.str "__class__" tk],[]⟩) Q E s:=by
 obtain⟨cd,hc⟩:=xc_some c.mo
 have hf:findObj K C od "__class__" = some (.bind (.builtin "getset_descriptor.__get__") (.builtin "object.__class__")):=by
  unfold findObj
  rw[hc,c.cl]
  simp only[Option.bind_some]
  rw[c.sg]
  simp only[Option.bind_some]
  rw[c.tk]
  rfl
 have L0:=I.type (M:=model prog w)
 have L1:=looks_find (M:=model prog w) X I hf
 unfold Builtin.«object.__getattribute__»
 refine yab (yaf ?_)
 refine yab (yaf ?_)
 refine yab (L0.here (yab (L1.here ?_)))
 show wpAny _ _ (holding [_] (call _ [_,.ref x,.ref C]) >>= ret) _ _ _
 exact yab (ybo (ycv (class_get X I c.mo (yaf h))))
theorem bind_bexc(self:Value):bindSpecial (.builtin "BaseException.__getattribute__") self=pure (.builtin "BaseException.__getattribute__", [self]):=F.attr_ValueError.ga.bind self
theorem plain_bexc:plainId "BaseException.__getattribute__" = true:=F.attr_ValueError.ga.plain
theorem x_by{v nameV:Value}{fill expr:Bool}{Q:Vs}(X:K.In s.heap)(c:XCls K C)(I:InstAt s.heap x ox C od)
  (he:∀(A:Around) (E:Vs) (Q:Fin->Shared->Prop),Q (.done (.ret v)) s->wpAny (model prog w) A (Builtin.«object.__getattribute__» ⟨[.ref x,nameV],[]⟩) Q E s)
  (hv:handedIn v=true) (h:Q v s):wpAny (model prog w) A (getAttrBy (.ref x) nameV fill expr) Q E s:=by
 have L0:=I.type (M:=model prog w)
 have L1:=looks_findIn (M:=model prog w) X c.ga
 have L2:=looks_findIn (M:=model prog w) X c.gn
 unfold getAttrBy
 refine ybo (yab (L0.here (yab (L1.here ?_))))
 have hne:(onTheHeap (Value.ref C)&&Value.builtin "BaseException.__getattribute__" == Value.builtin "object.__getattribute__")=false:=by
  show(true&&_)=false
  decide +kernel
 show wpAny _ _ (if (onTheHeap (Value.ref C)&&Value.builtin "BaseException.__getattribute__" == Value.builtin "object.__getattribute__")=true then _ else getAttrByItsOwn _ _ _ _ _ _) _ _ _
 rw[hne,if_neg yaz]
 unfold getAttrByItsOwn
 refine yab ?_
 show wpAny _ _ (typeLookup (.ref C) "__getattr__") _ _ _
 refine L2.here ?_
 refine yab (ycl (ybo ?_))
 have hcg:callGetattribute (.ref x) nameV (.builtin "BaseException.__getattribute__") expr=boundAndCalled (.builtin "BaseException.__getattribute__") (.ref x) nameV:=by
  unfold callGetattribute
  rw[if_neg (by cases expr<;>decide)]
 rw[hcg]
 unfold boundAndCalled
 rw[bind_bexc]
 refine yab (yaf ?_)
 refine ycv (codeAny_call_builtin plain_bexc F.entry_bexc_ga (x_check X c I (he _ _ _ ?_)))
 show wpAny _ _ (handedOut v) _ _ _
 rw[handedOut_of hv]
 exact yaf h
theorem x_class(X:K.In s.heap)(c:XCls K C)(I:InstAt s.heap x ox C od)(h:Q (some (.ref C)) { s with toks:=s.toks+1 }):wpAny (model prog w) A (getAttr? (.ref x) "__class__") Q E s:=by
 unfold getAttr? getAttrBy?
 refine yab (wpAny_mkText (yab (ycl ?_)))
 exact x_by (s:={ s with toks:=s.toks+1 }) X c I (λA E Q q=>x_entry_class (s:={ s with toks:=s.toks+1 }) X c I q) rfl (yaf h)
theorem x_attr(X:K.In s.heap)(c:XCls K C)(I:InstAt s.heap x ox C od)(hf:findObj K C od name=some (.value v))(hv:handedIn v=true)
  (h:Q v { s with toks:=s.toks+1 }):wpAny (model prog w) A (getAttr (.ref x) name expr) Q E s:=by
 unfold getAttr
 refine yab (wpAny_mkText ?_)
 exact x_by (s:={ s with toks:=s.toks+1 }) X c I (λA E Q q=>x_entry_value (s:={ s with toks:=s.toks+1 }) X I hf q) hv h
theorem kitx_exc{ox:Obj}{od:Option Obj}(c:XCls K C):KitX K (.ref x) (.ref C) (λh=>InstAt h x ox C od) where
 ty:=λ_ _ _ I=>I.type
 it:=λ_ _ X _=>by
  obtain⟨cdD,hcD⟩:=xc_some c.mo
  unfold clsIn at hcD
  split at hcD
  ·rename_i c' d' cd' sl' ho
   intro A' Q' E' s' k q
   unfold isType loadHead
   exact yab (wpAny_loadPart (k _ _ (X _ _ ho)) (yaf q))
  ·cases hcD
 ne:=λh tp dd its n sl X htp=>by
  obtain⟨cdD,hcD⟩:=xc_some c.mo
  refine Bool.eq_false_iff.mpr λq=>?_
  have e:C=tp:=Value.ref.inj (beq_iff_eq.mp q)
  subst e
  unfold clsIn at hcD
  split at hcD
  ·rename_i c' d' cd' sl' ho
   have z:=(X _ _ ho).symm.trans htp
   cases z
  ·cases hcD
 ca:=λX I k=>x_class X c I k
end
end L2
namespace L2
open PySem PySem.Spec PyProof.Rows
structure Catch(K:Wf)(B C:Addr):Prop where
 ty:instIn K (.ref B) (.type "tuple")=some false
 bb:mroIn K B (.type "BaseException")=some true
 sub:mroIn K C (.ref B)=some true
theorem isType_of{K:Wf}{M:Model}{h:Heap}{C:Addr}{cd:ClassData}(X:K.In h)(hc:clsIn K C=some cd):PySem.W.Looks M h (isType (.ref C)) true:=by
 unfold clsIn at hc
 split at hc
 ·rename_i c' d' cd' sl' ho
  intro A' Q' E' s' k q
  unfold isType loadHead
  exact yab (wpAny_loadPart (k _ _ (X _ _ ho)) (yaf q))
 ·cases hc
theorem excMatches_in{K:Wf}{M:Model}{A:Around}{E:Vs}{s:Shared}{a B C:Addr}{ox:Obj}{od:Option Obj}{Q:Bool->Shared->Prop}(X:K.In s.heap)(I:PySem.W.InstAt s.heap a ox C od)(c:Catch K B C)(h:Q true s):
  wpAny M A (excMatches (.ref a) (.ref B)) Q E s:=by
 obtain⟨cd,hcd⟩:=xc_some c.bb
 have L0:=PySem.W.looks_instIn (M:=M) X c.ty
 have L1:=isType_of (M:=M) X hcd
 have L2:=looks_mroIn (M:=M) X c.bb
 have L3:=I.type (M:=M)
 have L4:=looks_mroIn (M:=M) X c.sub
 unfold excMatches
 refine yab (L0.here ?_)
 simp only[Bool.false_eq_true,if_false]
 refine yab (yaf ?_)
 rw[List.forIn_cons]
 refine yab (yab (yab ?_))
 unfold isExcClass
 refine yab (L1.here ?_)
 simp only[if_true]
 refine L2.here ?_
 simp only[Bool.not_true,Bool.false_eq_true,if_false]
 refine yaf ?_
 simp only[List.forIn_nil]
 refine yaf ?_
 refine yab (L3.here ?_)
 rw[List.forIn_cons]
 refine yab (yab (yab (L4.here ?_)))
 simp only[if_true]
 exact yaf (yaf (yaf h))
noncomputable abbrev Cx.hand(X:Cx)(a:Addr):Cx:={ X with A:=X.A.mark (some (.ref a)),calm:=false,xe:=λ_ _=>False }
theorem Cx.Ok.hand{X:Cx}(ok:X.Ok)(a:Addr):(X.hand a).Ok:=
 ⟨ok.mod,ok.kind,ok.glob,ok.blt,ok.above,ok.inj,ok.has,ok.cab,(λz=>by cases z),ok.frames,ok.stk,ok.exf,ok.bs,ok.bsz,ok.noex,ok.exfs,ok.funs,ok.frf⟩
section
variable{X:Cx}{pins:Lo}{σ:St}{H:Hp}{s:Shared}{a:Addr}
theorem Inv.hand(I:Inv X pins σ H s)(a:Addr):Inv (X.hand a) pins σ H s:=⟨I.ok.hand a,I.os,I.bare,I.base,I.loc,I.cell,I.free,I.freeC,I.pin,I.hok,I.len⟩
theorem Inv.unhand(ok:X.Ok)(I:Inv (X.hand a) pins σ H s):Inv X pins σ H s:=⟨ok,I.os,I.bare,I.base,I.loc,I.cell,I.free,I.freeC,I.pin,I.hok,I.len⟩
end
noncomputable def XO(a C:Addr)(dx:Option Addr):HO:=.ext λh=>∃ob vs,h.get? a=some ob/\ob.cls=.ref C/\ob.dict=dx/\ob.data=.fields vs
theorem XO.ok(x:ExcIs h a (.ref C) dx fl T):ObjOk P w H h a (XO a C dx):=by
 obtain⟨oe,vs,oT,ts,he,hc,hdx,hd,_⟩:=x
 exact⟨⟨oe,vs,he,hc,hdx,hd⟩,⟨oe,he⟩,λh1 h2 ⟨ob,ws,q,r⟩ k=>⟨ob,ws,k _ q,r⟩⟩
noncomputable abbrev XS:=St->XK
def XP(X:Cx)(pins:Lo)(E:XS)(e:Value)(s':Shared):Prop:=∃σ H s,Inv X pins σ H s/\CXE X.prog X.w X.stack H s (E σ) e s'
noncomputable abbrev TEX:=St->Hp->VK->XK->Prop
noncomputable abbrev TSX:=Ends->XS->St->Hp->Prop
def PEX(X:Cx)(e:Expr)(t:TEX):Prop:=∀(pins:Lo) (s:Shared) (σ:St) (H:Hp) (Q:VK) (E:XS),Inv X pins σ H s->t σ H Q (E σ)->
 wpAny (model X.prog X.w) X.A (eval e X.env) (EP X pins σ Q) (XP X pins E) s
def PSX(X:Cx)(st:Stmt)(t:TSX):Prop:=∀(pins:Lo) (s:Shared) (σ:St) (H:Hp) (D:Ends) (E:XS),Inv X pins σ H s->t D E σ H->
 wpAny (model X.prog X.w) X.A (exec st X.env) (SP X pins D) (XP X pins E) s
def PSsX(X:Cx)(st:List Stmt)(t:TSX):Prop:=∀(pins:Lo) (s:Shared) (σ:St) (H:Hp) (D:Ends) (E:XS),Inv X pins σ H s->t D E σ H->
 wpAny (model X.prog X.w) X.A (execs st X.env) (SP X pins D) (XP X pins E) s
section
variable{X:Cx}{k:Nat}{f C:Addr}{fd:FuncData}{ps:List Str}{sp:Sp}{dvs:List V}{ds:List Value}{x m:Str}{p pos apos:Pos}{e o:Expr}{es:List Expr}{ta:TE}{t:TA}
theorem runX(F:FnOk X.prog X.w X.K X.mg X.base (CXE X.prog X.w) k f fd ps sp)(hr:Room k X.A)(hb:Binds X.K fd ps ds)(hd:Vals dvs ds)
  (I:Inv X pins σ H s) (r:Vals vs us) (h:sp (vs++dvs) H Q (E σ)):wpAny (model X.prog X.w) X.A (call (.ref f) us) (EP X pins σ Q) (XP X pins E) s:=by
 have r2:Vals (vs++dvs) (us++ds):=r.append hd
 have hl:(us++ds).length=ps.length:=by rw[<-r2.length];exact F.len _ _ _ _ h
 refine ycv (codeAny_mono (F.run X.A X.stack s H ⟨us,[]⟩ (us++ds) (vs++dvs) Q (E σ) hr I.env0 (hb s us I.kIn hl) r2 h) λr s' hq=>?_)
 cases r with
 |error e=>exact⟨σ,H,s,I,hq⟩
 |ok fl=>
  cases fl with
  |ret u=>exact I.after hq
  |next=>exact False.elim hq
  |brk=>exact False.elim hq
  |cont=>exact False.elim hq
noncomputable def xCall(sp:Sp)(dvs:List V)(t:TA):TEX:=λσ H Q E=>t σ H λvs H1=>sp (vs++dvs) H1 Q E
noncomputable def xMeth(C:Addr)(m:Str)(sp:Sp)(dvs:List V)(ta:TE)(t:TA):TEX:=λσ H Q E=>ta σ H λx H1=>∃a dx fs,x=.ref a/\H1 a=some (.ins C dx fs)/\fs.lookup m=none/\
 t σ H1 λvs H2=>sp (x::(vs++dvs)) H2 Q E
theorem noE{α:Type}{t:Sem α}{Q:α->Shared->Prop}{M:Model}{A:Around}{E:Vs}{s:Shared}(h:wpAny M A t Q (λ_ _=>False) s):wpAny M A t Q E s:=ybk h (λ_ _ q=>q) λ_ _ z=>False.elim z
theorem pex_call(F:FnOk X.prog X.w X.K X.mg X.base (CXE X.prog X.w) k f fd ps sp)(hr:Room k X.A)(hg:Gl X x)(hm:X.mg x=some (.ref f))(hk:keepIn X.K (.ref f)=true)(hb:Binds X.K fd ps ds)(hd:Vals dvs ds)
  (ha:PA X.nox (e::es) t) (hdb:(x == ("__debug__" : Str))=false:=by decide) (he:starEach (e::es) X.env=(false,eval e X.env)::starEach es X.env:=by rfl) (hpl:(backTo pos (starEach es X.env)).any (·.1)=false:=by rfl):
  PEX X (.Call (.Name x p) (e::es) [] pos) (xCall sp dvs t):=by
 intro pins s σ H Q E I h
 refine ycg (ld_glob I hg hm ?_ hdb)
 refine callWith_K (h₀:=X.base) I.ok.mod.kin hk (noE (thn (ha pos pins s σ H _ (I.wish _) h) λus s1 ⟨vs,H1,I1,r,q⟩=>⟨I1.kIn,?_⟩)) he hpl
 exact runX F hr hb hd I1.unwish r q
end
section
variable{X:Cx}{st:Stmt}{rest:List Stmt}{t:TS}{tx ux:TSX}{e:Expr}{te:TEX}{pos:Pos}
noncomputable def xDrop(te:TEX):TSX:=λD E σ H=>te σ H (λ_ H1=>D.nx σ H1) (E σ)
noncomputable def xSet(i:Nat)(te:TEX):TSX:=λD E σ H=>te σ H (λv H1=>D.nx (σ.set i (some v)) H1) (E σ)
theorem psx_set(hN:X.N.Nodup)(hi:X.N[i]?=some x)(hx:Loc X.env.scope x)(he:PEX X e te)(hs:swapsWith e (some (.Name x pos')) pos.line X.env=pure false:=by rfl)(hf:X.fn x=true\/X.env.scope.names.lookup x=some .local:=by first|exact .inl rfl|exact .inr rfl|assumption):
  PSX X (.Assign [.Name x pos'] e pos) (xSet i te):=by
 intro pins s σ H D E I h
 refine wpAny_Assign_Name (thn (he pins s σ H _ E I h) λv s1 ⟨y,H1,I1,r1,q1⟩=>?_) hs
 exact store_ok I1 hN hi hx r1 (λs2 I2=>⟨_,H1,I2,q1⟩) hf
noncomputable def xRet(te:TEX):TSX:=λD E σ H=>te σ H D.rt (E σ)
noncomputable def xOf(t:TS):TSX:=λD _ σ H=>t D σ H
noncomputable def xSeq(t u:TSX):TSX:=λD E σ H=>t { D with nx:=u D E } E σ H
theorem pssx_one(h1:PSX X st tx):PSsX X [st] tx:=by
 intro pins s σ H D E I h
 refine wpAny_execs_cons (thn (h1 pins s σ H D E I h) λf s1 q=>?_)
 cases f with
 |next=>exact ycx q
 |ret v=>exact q
 |brk=>exact q
 |cont=>exact q
end
structure Land(X:Cx)(H:Hp)(s:Shared)(a T:Addr)(cls:Value)(dx:Option Addr)(H':Hp)(s':Shared):Prop where
 os:s'.os=s.os
 bare:AllBare s'.gens
 un:Un (frs X.stack) [] H H' s.heap s'.heap
 hok:HOk X.prog X.w H' s'.heap
 fa:s.heap.get? a=none
 fT:s.heap.get? T=none
 na:H' a=none
 nT:H' T=none
 ex:ExcIs s'.heap a cls dx .none T
section
variable{X:Cx}{pins:Lo}{σ:St}{H H':Hp}{s s':Shared}{a T:Addr}{cls:Value}{dx:Option Addr}{M:Model}{A:Around}{E:Vs}
theorem Land.inv(L:Land X H s a T cls dx H' s')(I:Inv X pins σ H s):Inv X pins σ H' s':=I.call' (ch:=[]) L.os L.un L.hok L.bare λb hb=>absurd hb (by simp)
theorem Land.left(L:Land X H s a T cls dx H' s')(I:Inv X pins σ H s)(x:LeftX (frs X.stack) a T cls dx .none s'.heap h'):∃T',Land X H s a T' cls dx H' { s' with heap:=h' }:=by
 have J:=L.inv I
 have na:∀b o,s.heap.get? b=some o->b≠a:=λb o e z=>by rw[z,L.fa]at e;cases e
 have nT:∀b o,s.heap.get? b=some o->b≠T:=λb o e z=>by rw[z,L.fT]at e;cases e
 obtain⟨T',hT,y⟩:=x.exc
 have hT':s.heap.get? T'=none:=by
  cases q:s.heap.get? T' with
  |none=>rfl
  |some o=>
   obtain⟨o',q'⟩:=L.un.there T' o q (by simp)
   exact absurd (yat (yal q') hT) (ybb _)
 refine⟨T',L.os,L.bare,⟨λb o e n hb hx=>x.keep b o hb (na b o e) (nT b o e) (L.un.keep b o e n hb hx),λb o e n hb hx=>?_,L.un.free,λb o e hx=>?_,L.un.tups,L.un.frzs,L.un.tbls⟩,?_,L.fa,hT',L.na,L.hok.fresh hT,y⟩
 ·obtain⟨sl,q⟩:=L.un.slot b o e n hb hx
  obtain⟨sl2,q2⟩:=x.slot b _ hb (na b o e) (nT b o e) q
  exact⟨sl2,q2⟩
 ·obtain⟨o',q⟩:=L.un.there b o e hx
  exact x.there b o' q
 ·refine L.hok.tracked λb o u hb q=>x.keep b o (λz=>?_) (λz=>by rw[z,L.na]at hb;cases hb) (λz=>by rw[z,L.nT]at hb;cases hb) q
  have:=J.stkFree b z
  rw[this]at hb;cases hb
theorem Land.off(L:Land X H s a T cls dx H' s')(k:∀b o,b≠T->s'.heap.get? b=some o->h'.get? b=some o)(hT:∃o,h'.get? T=some o)(y:ExcIs h' a cls dx .none T):Land X H s a T cls dx H' { s' with heap:=h' }:=by
 have nT:∀b o,s.heap.get? b=some o->b≠T:=λb o e z=>by rw[z,L.fT]at e;cases e
 refine⟨L.os,L.bare,⟨λb o e n hb hx=>k b o (nT b o e) (L.un.keep b o e n hb hx),λb o e n hb hx=>?_,L.un.free,λb o e hx=>?_,L.un.tups,L.un.frzs,L.un.tbls⟩,?_,L.fa,L.fT,L.na,L.nT,y⟩
 ·obtain⟨sl,q⟩:=L.un.slot b o e n hb hx
  exact⟨sl,k b _ (nT b o e) q⟩
 ·obtain⟨o',q⟩:=L.un.there b o e hx
  exact⟨o',k b o' (nT b o e) q⟩
 ·exact L.hok.tracked λb o u hb q=>k b o (λz=>by rw[z,L.nT]at hb;cases hb) q
theorem Land.track(L:Land X H s a T (.ref C) dx H' s')(I:Inv X pins σ H s):Inv X pins σ (upd H' a (XO a C dx)) s':=by
 have na:∀b o,s.heap.get? b=some o->b≠a:=λb o e z=>by rw[z,L.fa]at e;cases e
 have up:∀b u,H' b=some u->upd H' a (XO a C dx) b=some u:=λb u q=>by rw[upd_ne (zz4 q L.na)];exact q
 refine I.call' (ch:=[]) L.os ⟨L.un.keep,L.un.slot,λb o e n hx=>?_,L.un.there,λb xs q=>up b _ (L.un.tups b xs q),λb o u q=>up b _ (L.un.frzs b o u q),λb ps q=>?_⟩ (λb u q=>?_) L.bare λb hb=>absurd hb (by simp)
 ·rw[upd_ne (na b o e)];exact L.un.free b o e n hx
 ·obtain⟨m,z⟩:=L.un.tbls b ps q
  exact⟨m,up b _ z⟩
 ·by_cases hb:b=a
  ·subst hb;rw[zz1]at q;cases q;exact XO.ok L.ex
  ·rw[upd_ne hb]at q
   exact(L.hok b u q).stay (λc v _ q=>q) (λc q=>up c _ q) λc xs q=>up c _ q
def DxOk(dx:Option Addr)(H:Hp):Prop:=dx=none\/∃d fs,dx=some d/\H d=some (.xd fs)
theorem Land.inst(L:Land X H s a T (.ref C) dx H' s')(hd:DxOk dx H'):∃ox od,PySem.W.InstAt s'.heap a ox C od:=by
 obtain⟨oe,vs,oT,ts,he,hc,hdx,hdt,_⟩:=L.ex
 rcases hd with e|⟨d,fs,e,hd⟩
 ·refine⟨oe,none,he,hc,?_,?_⟩
  ·unfold notCls;rw[hdt]
  ·rw[hdx,e];trivial
 ·obtain⟨o,q⟩:=(L.hok d _ hd).there
  refine⟨oe,some o,he,hc,?_,?_⟩
  ·unfold notCls;rw[hdt]
  ·rw[hdx,e];exact q
theorem land_note{R:Shared->Prop}(hst:X.stack=X.env::X.outer)(hfr:X.env.frame=some X.env.locals)(L:Land X H s a T cls dx H' s')(I:Inv X pins σ H s)
  (h:∀T' s3,Land X H s a T' cls dx H' s3->R s3):wpAny M X.A (noteFrame (.ref a) X.env) (λ_ s2=>wpAny M X.A (setFlight (.ref a) none) (λ_ s3=>R s3) E s2) E s':=by
 have J:=L.inv I
 refine note_next (base:=X.base) (by rw[J.ok.frames,hst]) (by rw[<-hst];exact J.stack) hfr L.ex λh1 x=>?_
 obtain⟨T1,hT,y⟩:=x.exc
 refine flight_off (s:={ s' with heap:=h1 }) y λh2 k hT2 z=>?_
 obtain⟨T2,L2⟩:=L.left (h':=h2) I (by rw[hst];exact x.off hT k hT2 z)
 exact h T2 _ L2
theorem name_gone(I:Inv X pins σ H s)(hN:X.N.Nodup)(hi:X.N[i]?=some n)(hk:X.env.scope.names.lookup n=some .local)(h:∀s',Inv X pins (σ.set i none) H s'->Q () s'):
  wpAny M A (do bindName X.env n .none;unbindBehindTheSuite X.env n pos) Q E s:=by
 obtain⟨m,hn,hl⟩:=id I.loc
 have hcls:(X.env.scope.kind == .class || (X.env.scope.kind == .module&&X.env.locals != X.env.globals))=false:=by rw[I.ok.kind];rfl
 have hiσ:i<σ.length:=by rw[I.len];exact(yam.mp hi).1
 have cne:=I.cne
 refine wpAny_nameGoes_keeps hk hn hcls λh' v hn' hs=>?_
 obtain⟨oL,_,_,hoL,_⟩:=id hn
 refine h _ ⟨I.ok,I.os,I.bare,⟨λb o e n hb hx=>?_,λb o e n hb hx=>?_,I.base.free,λb o e hx=>?_,I.base.tups,I.base.frzs,I.base.tbls⟩,⟨_,hn',λj y v' e1 e2 e3=>?_⟩,λy c e=>?_,I.free,I.freeC,λp hp=>?_,λb ob e=>?_,by simpa using I.len⟩
 ·exact(hs.2 b (yax (yat (yal e) I.ok.above))).trans (I.base.keep b o e n hb hx)
 ·obtain⟨sl,e1⟩:=I.base.slot b o e n hb hx
  exact⟨sl,(hs.2 b (yax (yat (yal e) I.ok.above))).trans e1⟩
 ·obtain⟨o',e1⟩:=I.base.there b o e hx
  exact⟨o',(hs.2 b (yax (yat (yal e) I.ok.above))).trans e1⟩
 ·by_cases hj:j=i
  ·subst hj
   rw[List.getElem?_set_self hiσ]at e2
   cases e2
  ·rw[List.getElem?_set_ne (Ne.symm hj)]at e2
   obtain⟨u',r',q⟩:=hl j y v' e1 e2 e3
   refine⟨u',r',?_⟩
   rcases q with ⟨k,e⟩|⟨k,c,e,z⟩
   ·refine .inl ⟨k,?_⟩
    have:y≠n:=λe=>hj (nodup_ix hN e1 (e▸hi))
    simp[this,e]
   ·exact .inr ⟨k,c,e,z.sameBut hs (cne y c e)⟩
 ·obtain⟨w',z⟩:=I.cell y c e
  exact⟨w',z.sameBut hs (cne y c e)⟩
 ·obtain⟨e,n,ne,nf,d⟩:=I.pin p hp
  exact⟨(hs.2 p.1 ne).trans e,n,ne,nf,d⟩
 ·refine(I.hok b ob e).stay (λc w' hc q=>(hs.2 c ?_).trans q) (λ_ q=>q) λ_ _ q=>q
  rintro rfl
  have fr:=I.free
  rcases hc with rfl|hc
  ·rw[fr]at e;cases e
  ·rw[fr]at hc;cases hc
end
noncomputable def un1(i:Nat)(D:Ends):Ends:={ nx:=λσ H=>D.nx (σ.set i none) H,rt:=D.rt,bk:=λσ H=>D.bk (σ.set i none) H,ct:=λσ H=>D.ct (σ.set i none) H }
def tTryAs(K:Wf)(B:Addr)(i:Nat)(tb:TSX)(th:TS):TS:=λD σ H=>
 tb D (λσ' cls dx H'=>∃C,cls=.ref C/\Catch K B C/\DxOk dx H'/\∀a,H' a=none->th (un1 i D) (σ'.set i (some (.ref a))) (upd H' a (XO a C dx))) σ H
def tTry0(K:Wf)(B:Addr)(tb:TSX)(th:TS):TS:=λD σ H=>
 tb D (λσ' cls dx H'=>∃C,cls=.ref C/\Catch K B C/\DxOk dx H'/\th D σ' H') σ H
section
variable{X:Cx}{body suite:List Stmt}{b₀:Stmt}{x n:Str}{B:Addr}{i:Nat}{np hpos pos:Pos}{tb:TSX}{th:TS}
theorem ps_tryAs(hst:X.stack=X.env::X.outer)(hfr:X.env.frame=some X.env.locals)(hN:X.N.Nodup)(hi:X.N[i]?=some n)(hlo:X.env.scope.names.lookup n=some .local)(hg:Gl X x)(hm:X.mg x=some (.ref B))(hb:PSsX X body tb)
  (hs:∀a,PSs (X.hand a) (b₀::suite) th) (hd:(x == ("__debug__" : Str))=false:=by decide):PS X (.Try body [.ExceptHandler (some (.Name x np)) (some n) (b₀::suite) hpos] [] [] pos) (tTryAs X.K B i tb th):=by
 intro pins s σ H D I h
 refine wpAny_Try_except (ybk (hb pins s σ H D _ I h) (λf s1 q=>?_) λe s1 hx=>?_)
 ·cases f with
  |next=>exact ycx q
  |ret v=>exact q
  |brk=>exact q
  |cont=>exact q
 ·obtain⟨σ1,H1,s2,I1,a,T,cls,dx,H',rfl,ho,hg',u,hok,ha,hT,hHa,hHT,y,C,rfl,hcat,hdx,hth⟩:=hx
  have L:Land X H1 s2 a T (.ref C) dx H' s1:=⟨ho,hg',u,hok,ha,hT,hHa,hHT,y⟩
  refine land_note hst hfr L I1 λT3 s3 L3=>?_
  have J:=L3.inv I1
  obtain⟨ox,od,ins⟩:=L3.inst hdx
  refine wpAny_handleBy_cons (codeAny_handlers_test (ld_glob (X:=X.hand a) (J.hand a) hg hm ?_ hd)) (by intro q;cases q)
  refine excMatches_in J.kIn ins hcat ?_
  refine codeAny_handlers_suite_as ?_
  refine flight_off L3.ex λh4 k4 hT4 y4=>?_
  have J4:=(L3.off k4 hT4 y4).track I1
  refine store_ok (X:=X.hand a) (J4.hand a) hN hi (.inl hlo) (v:=.ref a) rfl (λs5 I5=>?_) (.inr hlo)
  refine noE (thn (hs a pins s5 _ _ (un1 i D) I5 (hth a hHa)) λf s6 q=>?_)
  have ok:=I.ok
  cases f with
  |next=>
   obtain⟨σ',H2,I6,q⟩:=q
   exact name_gone (I6.unhand ok) hN hi hlo λs7 I7=>⟨_,H2,I7,q⟩
  |brk=>
   obtain⟨σ',H2,I6,q⟩:=q
   exact name_gone (I6.unhand ok) hN hi hlo λs7 I7=>⟨_,H2,I7,q⟩
  |cont=>
   obtain⟨σ',H2,I6,q⟩:=q
   exact name_gone (I6.unhand ok) hN hi hlo λs7 I7=>⟨_,H2,I7,q⟩
  |ret v=>
   obtain⟨v',σ',H2,I6,r,q⟩:=q
   exact name_gone (I6.unhand ok) hN hi hlo λs7 I7=>⟨v',_,H2,I7,r,q⟩
theorem ps_tryAsK{K:Wf}(e:X.K=K)(hst:X.stack=X.env::X.outer)(hfr:X.env.frame=some X.env.locals)(hN:X.N.Nodup)(hi:X.N[i]?=some n)(hlo:X.env.scope.names.lookup n=some .local)(hg:Gl X x)(hm:X.mg x=some (.ref B))(hb:PSsX X body tb)
  (hs:∀a,PSs (X.hand a) (b₀::suite) th) (hd:(x == ("__debug__" : Str))=false:=by decide):PS X (.Try body [.ExceptHandler (some (.Name x np)) (some n) (b₀::suite) hpos] [] [] pos) (tTryAs K B i tb th):=e▸ps_tryAs hst hfr hN hi hlo hg hm hb hs hd
end
section
variable{X:Cx}
def Sg(z:Str):Prop:=∀c∈z.cps.toList,c<16 ^ 8
def tRepr(t:TE):TE:=λσ H Q=>t σ H λx H1=>∃z,x=.str z/\(reprText z).length<=sizeLine/\Q (.str (reprText z)) H1
theorem pe_repr(he:PE X e t):PE X (.FormattedValue e 114 none pos) (tRepr t):=by
 intro pins s σ H Q I h
 refine wpAny_FormattedValue_repr (thn (he pins s σ H _ I h) λv s1 ⟨x,H1,I1,r1,z,ez,hz,q⟩=>?_)
 subst ez
 obtain⟨t',rfl⟩:=r1
 refine pyReprObj_str ?_ hz
 exact formatField_str (λt'' tk=>⟨.str (reprText z),H1,I1.tok tk,⟨t'',rfl⟩,q⟩) hz
def tFmt(t:TE):TE:=λσ H Q=>t σ H λx H1=>(∃z,x=.str z/\z.length<=sizeLine/\Q (.str z) H1)\/∃i:Int,x=.int i/\i.natAbs.log2<1920/\Q (.str (toString i)) H1
noncomputable abbrev TJ:=Str->St->Hp->VK->Prop
def PJ(X:Cx)(es:List Expr)(t:TJ):Prop:=∀(acc:Str) (pins:Lo) (s:Shared) (σ:St) (H:Hp) (Q:VK),Inv X pins σ H s->t acc σ H Q->
 wpAny (model X.prog X.w) X.A (joinParts acc (evalEach es X.env)) (EP X pins σ Q) X.xe s
noncomputable def jNil:TJ:=λacc _ H Q=>acc.length<=sizeLine/\Q (.str acc) H
noncomputable def jCons(t:TE)(u:TJ):TJ:=λacc σ H Q=>t σ H λx H1=>∃y,x=.str y/\(acc++y).length<=sizeLine/\u (acc++y) σ H1 Q
theorem pj_nil:PJ X [] jNil:=λacc pins s σ H Q I h=>joinParts_nilE (joinParts_nil ⟨.str acc,H,I.tok _,⟨_,rfl⟩,h.2⟩ h.1)
theorem pj_cons(he:PE X e t)(hr:PJ X es u):PJ X (e::es) (jCons t u):=by
 intro acc pins s σ H Q I h
 refine joinParts_consE (joinParts_cons (thn (he pins s σ H _ I h) λv s1 ⟨x,H1,I1,r1,y,ey,hy,q⟩=>?_))
 subst ey
 obtain⟨t',rfl⟩:=r1
 exact⟨hy,hr (acc++y) pins s1 σ H1 Q I1 q⟩
def tJoined(t:TJ):TE:=λσ H Q=>t Str.empty σ H Q
theorem pe_joined{v₁ v₂:Expr}{rest:List Expr}{pos:Pos}{t:TJ}(h:PJ X (v₁::v₂::rest) t):PE X (.JoinedStr (v₁::v₂::rest) pos) (tJoined t):=
 λpins s σ H Q I hw=>JoinedStr_many (h Str.empty pins s σ H Q I hw)
noncomputable def rJoin(K:Wf):V->List V->Hp->VK->Prop:=λx vs H Q=>∃z a zs,x=.str z/\vs=[.ref a]/\SqL K H a (zs.map V.str)/\JoinOk z zs=true/\Q (.str (Txt.join z zs)) H
def TyX(K:Wf)(H:Hp)(x:V)(t:Value):Prop:=TyOf K H x t\/∃a C dx,x=.ref a/\t=.ref C/\H a=some (XO a C dx)/\DxOk dx H/\XCls K C
noncomputable def vOf:V->Value
 |.ref a=>.ref a
 |.ty n=>.type n
 |_=>.none
noncomputable def isCl:V->Bool
 |.ref _=>true
 |.ty _=>true
 |_=>false
theorem xo_inst(I:Inv X pins σ H s)(e:H a=some (XO a C dx))(hd:DxOk dx H):∃ox od,PySem.W.InstAt s.heap a ox C od:=by
 obtain⟨⟨ob,vs,he,hc,hdx,hdt⟩,_⟩:=I.hok a _ e
 rcases hd with e|⟨d,fs,e,hd⟩
 ·refine⟨ob,none,he,hc,?_,?_⟩
  ·unfold notCls;rw[hdt]
  ·rw[hdx,e];trivial
 ·obtain⟨o,q⟩:=(I.hok d _ hd).there
  refine⟨ob,some o,he,hc,?_,?_⟩
  ·unfold notCls;rw[hdt]
  ·rw[hdx,e];exact q
noncomputable def rIsx(K:Wf):List V->Hp->VK->Prop:=λxs H Q=>∃x c t b,xs=[x,c]/\isCl c=true/\TyX K H x t/\kitOne K t (vOf c)=some b/\Q (.bl b) H
theorem vOf_rel(h:isCl c=true)(r:RelV c u):u=vOf c:=by
 cases c<;>first|exact r|cases h
theorem call_isx:CallR X (.builtin "isinstance") (rIsx X.K):=by
 intro pins s σ H xs us Q I r h
 obtain⟨x,c,t,b,rfl,hc,ty,e,q⟩:=h
 obtain⟨u,u2,rfl,ru,ru2⟩:=vals2 r
 have e2:=vOf_rel hc ru2
 subst e2
 rcases ty with ty|⟨a,C,dx,rfl,rfl,ha,hd,xc⟩
 ·exact isinst_ok I ru ty e λtk=>⟨.bl b,H,I.tok tk,rfl,q⟩
 ·cases ru
  obtain⟨ox,od,J⟩:=xo_inst I ha hd
  exact kia_one (kitx_exc xc) I.kIn J e (λz=>nomatch z) λtk=>⟨.bl b,H,I.tok tk,rfl,q⟩
noncomputable def rIst(K:Wf):List V->Hp->VK->Prop:=λxs H Q=>∃x tp cs t b,xs=[x,.ref tp]/\H tp=some (.tup cs)/\cs.all isCl=true/\TyX K H x t/\PySem.W.kitAny K t (cs.map vOf)=some b/\Q (.bl b) H
theorem zz24{K:Wf}(e:X.K=K):CallR X (.builtin "isinstance") (rIsx K):=e▸call_isx
end
section
variable{P:Program}{w:World}{K:Wf}{mg:So}{base:Heap}
theorem Fun.okE{x qual:Str}{st:Stmt}{f:Addr}{fd:FuncData}{N ps:List Str}{k:Nat}{sp:Sp}(F:Fun K x qual st f fd)(S:FnScope N ps (defScope st))(len:∀vs H Q E,sp vs H Q E->vs.length=ps.length)
  (hbody:∀(cdv:Value) (A:Around) (outer:List Env) (s:Shared) (H:Hp) (vs:List V) (Q:VK) (E:XK),Room k (A.deeper (envOfC qual (defScope st) s.heap.objs.size f cdv))->sp vs H Q E->
   ∃t,PSs (cxOf (CXE P w) P w K mg base N qual (defScope st) f cdv A outer s H E) (defBody st) t/\t { nx:=λ_ H'=>Q .non H',rt:=Q } (start N vs) H):FnOk P w K mg base (CXE P w) (k+1) f fd ps sp:=by
 obtain⟨oc,od,kV,doc,pm,an,cdv,ct,osl,rfl,lk,hcd⟩:=F.ex
 refine fn_of lk hcd S len λA outer s H vs Q E hr hsp=>?_
 obtain⟨t,h,q⟩:=hbody cdv A outer s H vs Q E hr hsp
 exact⟨t,h,q⟩
end
theorem repr_le(h:Sg z)(hz:z.length<=n):(reprText z).length<=10 * n+2:=yay (StrLaws.reprText_len z h) (by omega)
structure FillM where
 a:Addr
 at_:Int
 rule:Str
 name:Str
 add:Int
 soft:Bool
structure StM where
 t:Addr
 lw:Addr
 lf:Addr
 kind:Str
 step:Int
 words:List Int
 fills:List FillM
structure ToldM where
 a:Addr
 name:Str
 sort:Str
 st:Int
 off:Int
structure PcM where
 t:Addr
 ls:Addr
 ln:Addr
 name:Str
 sts:List StM
 nms:List ToldM
noncomputable abbrev FillM.v(f:FillM):V:=.ref f.a
noncomputable abbrev StM.v(s:StM):V:=.ref s.t
noncomputable abbrev ToldM.v(n:ToldM):V:=.ref n.a
noncomputable abbrev PcM.v(p:PcM):V:=.ref p.t
def FillM.At(H:Hp)(f:FillM):Prop:=H f.a=some (.tup [.int f.at_,.str f.rule,.str f.name,.int f.add,.bl f.soft])
def ToldM.At(H:Hp)(n:ToldM):Prop:=H n.a=some (.tup [.str n.name,.str n.sort,.int n.st,.int n.off])
structure StM.At(H:Hp)(s:StM):Prop where
 top:H s.t=some (.tup [.str s.kind,.int s.step,.ref s.lw,.ref s.lf])
 wd:H s.lw=some (.lst (s.words.map V.int))
 fl:H s.lf=some (.lst (s.fills.map FillM.v))
 fs:∀f∈s.fills,f.At H
structure PcM.At(H:Hp)(p:PcM):Prop where
 top:H p.t=some (.tup [.str p.name,.ref p.ls,.ref p.ln])
 sl:H p.ls=some (.lst (p.sts.map StM.v))
 nl:H p.ln=some (.lst (p.nms.map ToldM.v))
 ss:∀s∈p.sts,s.At H
 ns:∀n∈p.nms,n.At H
noncomputable def StM.lists(s:StM):List Addr:=[s.lw,s.lf]
noncomputable def PcM.lists(p:PcM):List Addr:=p.ls::p.ln::p.sts.flatMap StM.lists
noncomputable def listsOf(ps:List PcM):List Addr:=ps.flatMap PcM.lists
structure Pcs(H:Hp)(L:Addr)(ps:List PcM):Prop where
 top:H L=some (.lst (ps.map PcM.v))
 at_:∀p∈ps,p.At H
 nd:(L::listsOf ps).Nodup
theorem FillM.At.mono{H H':Hp}{f:FillM}(h:f.At H)(e:Same H H'):f.At H':=e _ _ h
theorem ToldM.At.mono{H H':Hp}{n:ToldM}(h:n.At H)(e:Same H H'):n.At H':=e _ _ h
theorem StM.At.mono{H H':Hp}{s:StM}(h:s.At H)(e:Same H H'):s.At H':=⟨e _ _ h.top,e _ _ h.wd,e _ _ h.fl,λf hf=>(h.fs f hf).mono e⟩
theorem PcM.At.mono{H H':Hp}{p:PcM}(h:p.At H)(e:Same H H'):p.At H':=⟨e _ _ h.top,e _ _ h.sl,e _ _ h.nl,λs hs=>(h.ss s hs).mono e,λn hn=>(h.ns n hn).mono e⟩
theorem Pcs.mono(h:Pcs H L ps)(e:Same H H'):Pcs H' L ps:=⟨e _ _ h.top,λp hp=>(h.at_ p hp).mono e,h.nd⟩
def But(H H':Hp)(l:Addr):Prop:=(∃xs,H l=some (.lst xs))/\∀b o,H b=some o->b≠l->H' b=some o
theorem But.upd(h:H l=some (.lst xs)):But H (L2.upd H l o) l:=⟨⟨xs,h⟩,λb u e n=>by rw[upd_ne n];exact e⟩
theorem But.tup{H H':Hp}{l a:Addr}{xs:List V}(b:But H H' l)(h:H a=some (.tup xs)):H' a=some (.tup xs):=by
 obtain⟨ys,hl⟩:=b.1
 exact b.2 _ _ h λe=>by rw[e,hl]at h;cases h
theorem FillM.At.but{H H':Hp}{l:Addr}{f:FillM}(h:f.At H)(b:But H H' l):f.At H':=b.tup h
theorem ToldM.At.but{H H':Hp}{l:Addr}{n:ToldM}(h:n.At H)(b:But H H' l):n.At H':=b.tup h
theorem StM.At.but{H H':Hp}{l:Addr}{s:StM}(h:s.At H)(b:But H H' l)(n:l∉s.lists):s.At H':=
 ⟨b.tup h.top,b.2 _ _ h.wd λe=>n (by simp[StM.lists,e]),b.2 _ _ h.fl λe=>n (by simp[StM.lists,e]),λf hf=>(h.fs f hf).but b⟩
theorem PcM.At.but{H H':Hp}{l:Addr}{p:PcM}(h:p.At H)(b:But H H' l)(n:l∉p.lists):p.At H':=
 ⟨b.tup h.top,b.2 _ _ h.sl λe=>n (by simp[PcM.lists,e]),b.2 _ _ h.nl λe=>n (by simp[PcM.lists,e]),
  λs hs=>(h.ss s hs).but b λz=>n (by simp only[PcM.lists,List.mem_cons];exact .inr (.inr (List.mem_flatMap.mpr ⟨s,hs,z⟩))),λm hm=>(h.ns m hm).but b⟩
theorem StM.At.list{H:Hp}{s:StM}(h:s.At H){b:Addr}(hb:b∈s.lists):∃xs,H b=some (.lst xs):=by
 simp only[StM.lists,List.mem_cons,List.not_mem_nil,or_false]at hb
 rcases hb with e|e
 ·rw[e];exact⟨_,h.wd⟩
 ·rw[e];exact⟨_,h.fl⟩
theorem PcM.At.list{H:Hp}{p:PcM}(h:p.At H){b:Addr}(hb:b∈p.lists):∃xs,H b=some (.lst xs):=by
 simp only[PcM.lists,List.mem_cons]at hb
 rcases hb with e|e|e
 ·rw[e];exact⟨_,h.sl⟩
 ·rw[e];exact⟨_,h.nl⟩
 ·obtain⟨s,hs,z⟩:=yav.mp e
  exact(h.ss s hs).list z
theorem Pcs.list(h:Pcs H L ps){b:Addr}(hb:b∈L::listsOf ps):∃xs,H b=some (.lst xs):=by
 rcases yau.mp hb with e|e
 ·rw[e];exact⟨_,h.top⟩
 ·obtain⟨p,hp,z⟩:=yav.mp e
  exact(h.at_ p hp).list z
theorem Pcs.fresh(h:Pcs H L ps){b:Addr}(hb:H b=none):b∉L::listsOf ps:=λz=>by
 obtain⟨xs,e⟩:=h.list z
 rw[hb]at e;cases e
theorem zz17(ps:List PcM)(p:PcM):listsOf (ps++[p])=listsOf ps++p.lists:=by simp[listsOf,List.flatMap_append]
theorem Pcs.apart(h:Pcs H L (ps++[p])):(∀q∈ps,∀b∈p.lists,b∉q.lists)/\p.lists.Nodup/\L∉p.lists/\∀q∈ps,L∉q.lists:=by
 have n:=h.nd
 rw[zz17]at n
 obtain⟨n1,n2⟩:=ya8.mp n
 obtain⟨n3,n4,n5⟩:=ya3.mp n2
 refine⟨λq hq b hb z=>n5 b (yav.mpr ⟨q,hq,z⟩) b hb rfl,n4,λz=>n1 (yaj _ z),λq hq z=>n1 (yak _ (yav.mpr ⟨q,hq,z⟩))⟩
theorem Pcs.nil(h:H L=some (.lst [])):Pcs H L []:=⟨h,λp hp=>absurd hp (by simp),by simp[listsOf]⟩
theorem Pcs.newPiece(h:Pcs H L ps)(h1:H t=some (.tup [.str nm,.ref ls,.ref ln]))(h2:H ls=some (.lst []))(h3:H ln=some (.lst []))(n1:ls≠ln)
  (n2:ls∉L::listsOf ps) (n3:ln∉L::listsOf ps):Pcs (upd H L (.lst (ps.map PcM.v++[.ref t]))) L (ps++[⟨t,ls,ln,nm,[],[]⟩]):=by
 have b:But H (upd H L (.lst (ps.map PcM.v++[.ref t]))) L:=But.upd h.top
 have nL:=(ya8.mp h.nd).1
 refine⟨by rw[zz1];simp,λp hp=>?_,?_⟩
 ·rcases yai.mp hp with z|z
  ·exact(h.at_ p z).but b λq=>nL (yav.mpr ⟨p,z,q⟩)
  ·have e:=yae.mp z
   subst e
   refine⟨b.tup h1,b.2 _ _ h2 λ(e:ls=L)=>n2 (e▸ya5),b.2 _ _ h3 λ(e:ln=L)=>n3 (e▸ya5),λs hs=>absurd hs (by simp),λn hn=>absurd hn (by simp)⟩
 ·rw[zz17]
  show(L::(listsOf ps++[ls,ln])).Nodup
  rw[<-yc3]
  refine ya3.mpr ⟨h.nd,by simp[n1],λx hx y hy e=>?_⟩
  subst e
  simp only[List.mem_cons,List.not_mem_nil,or_false]at hy
  rcases hy with e|e
  ·subst e;exact n2 hx
  ·subst e;exact n3 hx
theorem Pcs.last(h:Pcs H L (ps++[p]))(hl:l∈p.lists)(ht:p'.t=p.t)(hp:p'.At (upd H l o))(hn:(L::listsOf (ps++[p'])).Nodup):Pcs (upd H l o) L (ps++[p']):=by
 obtain⟨a1,a2,a3,a4⟩:=h.apart
 obtain⟨xs,hx⟩:=(h.at_ p (by simp)).list hl
 have b:But H (upd H l o) l:=But.upd hx
 refine⟨?_,λq hq=>?_,hn⟩
 ·rw[b.2 _ _ h.top λe=>a3 (by rw[e];exact hl)]
  simp[PcM.v,ht]
 ·rcases yai.mp hq with z|z
  ·exact(h.at_ q (yak _ z)).but b (a1 q z l hl)
  ·rw[yae.mp z];exact hp
theorem Pcs.newStretch{H:Hp}{L t lw lf:Addr}{kind:Str}{step:Int}{ps:List PcM}{p:PcM}(h:Pcs H L (ps++[p]))(h1:H t=some (.tup [.str kind,.int step,.ref lw,.ref lf]))(h2:H lw=some (.lst []))(h3:H lf=some (.lst []))
  (n1:lw≠lf) (n2:lw∉L::listsOf (ps++[p])) (n3:lf∉L::listsOf (ps++[p])):
  Pcs (upd H p.ls (.lst (p.sts.map StM.v++[.ref t]))) L (ps++[{ p with sts:=p.sts++[⟨t,lw,lf,kind,step,[],[]⟩] }]):=by
 have hp:=h.at_ p (by simp)
 obtain⟨a1,a2,a3,a4⟩:=h.apart
 have b:But H (upd H p.ls (.lst (p.sts.map StM.v++[.ref t]))) p.ls:=But.upd hp.sl
 have in1:∀x,x∈p.lists->x∈L::listsOf (ps++[p]):=λx hx=>yaw _ (by rw[zz17];exact yaj _ hx)
 have hls:p.ls∈p.lists:=by simp[PcM.lists]
 have nd:p.ls≠p.ln/\p.ls∉p.sts.flatMap StM.lists:=by
  have:=a2
  simp only[PcM.lists,List.nodup_cons,List.mem_cons,not_or]at this
  exact this.1
 refine h.last hls rfl ⟨b.tup hp.top,by rw[zz1];simp,b.2 _ _ hp.nl (Ne.symm nd.1),λs hs=>?_,λn hn=>(hp.ns n hn).but b⟩ ?_
 ·rcases yai.mp hs with z|z
  ·exact(hp.ss s z).but b λq=>nd.2 (yav.mpr ⟨s,z,q⟩)
  ·have e:=yae.mp z
   subst e
   exact⟨b.tup h1,b.2 _ _ h2 λ(e:lw=p.ls)=>n2 (in1 _ (e▸hls)),b.2 _ _ h3 λ(e:lf=p.ls)=>n3 (in1 _ (e▸hls)),λf hf=>absurd hf (by simp)⟩
 ·have e:L::listsOf (ps++[{ p with sts:=p.sts++[⟨t,lw,lf,kind,step,[],[]⟩] }])=(L::listsOf (ps++[p]))++[lw,lf]:=by
   rw[zz17,zz17]
   simp[PcM.lists,StM.lists,List.flatMap_append]
  rw[e]
  refine ya3.mpr ⟨h.nd,by simp[n1],λx hx y hy e=>?_⟩
  subst e
  simp only[List.mem_cons,List.not_mem_nil,or_false]at hy
  rcases hy with e|e
  ·subst e;exact n2 hx
  ·subst e;exact n3 hx
theorem Pcs.newTold(h:Pcs H L (ps++[p]))(h1:n.At H):Pcs (upd H p.ln (.lst (p.nms.map ToldM.v++[n.v]))) L (ps++[{ p with nms:=p.nms++[n] }]):=by
 have hp:=h.at_ p (by simp)
 obtain⟨a1,a2,a3,a4⟩:=h.apart
 have b:But H (upd H p.ln (.lst (p.nms.map ToldM.v++[n.v]))) p.ln:=But.upd hp.nl
 have hln:p.ln∈p.lists:=by simp[PcM.lists]
 have nd:p.ls≠p.ln/\p.ln∉p.sts.flatMap StM.lists:=by
  have:=a2
  simp only[PcM.lists,List.nodup_cons,List.mem_cons,not_or]at this
  exact⟨this.1.1,this.2.1⟩
 refine h.last hln rfl ⟨b.tup hp.top,b.2 _ _ hp.sl nd.1,by rw[zz1];simp,λs hs=>(hp.ss s hs).but b λq=>nd.2 (List.mem_flatMap.mpr ⟨s,hs,q⟩),λm hm=>?_⟩ ?_
 ·rcases yai.mp hm with z|z
  ·exact(hp.ns m z).but b
  ·rw[yae.mp z];exact h1.but b
 ·have:=h.nd
  rw[zz17]at this ⊢
  exact this
theorem Pcs.lastSt(h:Pcs H L (ps++[p]))(e:p.sts=ss++[s]):s.lw∈p.lists/\s.lf∈p.lists/\s.lw≠s.lf/\(∀b∈s.lists,b≠p.ls/\b≠p.ln/\∀r∈ss,b∉r.lists):=by
 obtain⟨a1,a2,a3,a4⟩:=h.apart
 have hs:s∈p.sts:=by rw[e];simp
 have m:∀b∈s.lists,b∈p.sts.flatMap StM.lists:=λb hb=>yav.mpr ⟨s,hs,hb⟩
 have m':∀b∈s.lists,b∈p.lists:=λb hb=>by simp only[PcM.lists,List.mem_cons];exact .inr (.inr (m b hb))
 simp only[PcM.lists,List.nodup_cons,List.mem_cons,not_or]at a2
 obtain⟨⟨_,b1⟩,b2,b3⟩:=a2
 rw[e,ybh]at b3
 obtain⟨_,c2,c3⟩:=ya3.mp b3
 have c2':s.lists.Nodup:=by simpa using c2
 refine⟨m' _ (by simp[StM.lists]),m' _ (by simp[StM.lists]),?_,λb hb=>⟨λz=>b1 (z▸m b hb),λz=>b2 (z▸m b hb),λr hr z=>c3 b (List.mem_flatMap.mpr ⟨r,hr,z⟩) b (by simpa using hb) rfl⟩⟩
 simpa [StM.lists] using c2'
theorem Pcs.newFill(h:Pcs H L (ps++[p]))(e:p.sts=ss++[s])(h1:f.At H):
  Pcs (upd H s.lf (.lst (s.fills.map FillM.v++[f.v]))) L (ps++[{ p with sts:=ss++[{ s with fills:=s.fills++[f] }] }]):=by
 have hp:=h.at_ p (by simp)
 obtain⟨m1,m2,n1,n2⟩:=h.lastSt e
 have hs:s.At H:=hp.ss s (by rw[e];simp)
 have b:But H (upd H s.lf (.lst (s.fills.map FillM.v++[f.v]))) s.lf:=But.upd hs.fl
 obtain⟨q1,q2,q3⟩:=n2 s.lf (by simp[StM.lists])
 refine h.last m2 rfl ⟨b.tup hp.top,?_,b.2 _ _ hp.nl (Ne.symm q2),λr hr=>?_,λn hn=>(hp.ns n hn).but b⟩ ?_
 ·rw[b.2 _ _ hp.sl (Ne.symm q1),e];simp[StM.v]
 ·rcases yai.mp hr with z|z
  ·exact(hp.ss r (by rw[e];exact yak _ z)).but b (q3 r z)
  ·have er:=yae.mp z
   subst er
   refine⟨b.tup hs.top,b.2 _ _ hs.wd n1,by rw[zz1];simp,λg hg=>?_⟩
   rcases yai.mp hg with y|y
   ·exact(hs.fs g y).but b
   ·rw[yae.mp y];exact h1.but b
 ·have:=h.nd
  rw[zz17]at this ⊢
  simp only[PcM.lists,e,List.flatMap_append]at this ⊢
  exact this
theorem Pcs.newWord(h:Pcs H L (ps++[p]))(e:p.sts=ss++[s]):
  Pcs (upd H s.lw (.lst (s.words.map V.int++[.int i]))) L (ps++[{ p with sts:=ss++[{ s with words:=s.words++[i] }] }]):=by
 have hp:=h.at_ p (by simp)
 obtain⟨m1,m2,n1,n2⟩:=h.lastSt e
 have hs:s.At H:=hp.ss s (by rw[e];simp)
 have b:But H (upd H s.lw (.lst (s.words.map V.int++[.int i]))) s.lw:=But.upd hs.wd
 obtain⟨q1,q2,q3⟩:=n2 s.lw (by simp[StM.lists])
 refine h.last m1 rfl ⟨b.tup hp.top,?_,b.2 _ _ hp.nl (Ne.symm q2),λr hr=>?_,λn hn=>(hp.ns n hn).but b⟩ ?_
 ·rw[b.2 _ _ hp.sl (Ne.symm q1),e];simp[StM.v]
 ·rcases yai.mp hr with z|z
  ·exact(hp.ss r (by rw[e];exact yak _ z)).but b (q3 r z)
  ·have er:=yae.mp z
   subst er
   exact⟨b.tup hs.top,by rw[zz1];simp,b.2 _ _ hs.fl (Ne.symm n1),λg hg=>(hs.fs g hg).but b⟩
 ·have:=h.nd
  rw[zz17]at this ⊢
  simp only[PcM.lists,e,List.flatMap_append]at this ⊢
  exact this
noncomputable def FillM.d(f:FillM):D:=.tup [.int f.at_,.str f.rule,.str f.name,.int f.add,.bl f.soft]
noncomputable def StM.d(s:StM):D:=.tup [.str s.kind,.int s.step,.lst (s.words.map D.int),.lst (s.fills.map FillM.d)]
noncomputable def ToldM.d(n:ToldM):D:=.tup [.str n.name,.str n.sort,.int n.st,.int n.off]
noncomputable def PcM.d(p:PcM):D:=.tup [.str p.name,.lst (p.sts.map StM.d),.lst (p.nms.map ToldM.d)]
theorem RepL.map{K:Wf}{H:Hp}{α:Type}{f:α->D}{g:α->V}:∀{xs:List α},(∀x∈xs,Rep K H (f x) (g x))->RepL K H (xs.map f) (xs.map g)
 |[],_=>by simp[RepL]
 |x::xs,h=>by
  simp only[List.map_cons,RepL]
  exact⟨_,_,rfl,h x (ya5 ..),RepL.map λy hy=>h y (yaw _ hy)⟩
theorem FillM.At.rep{K:Wf}{H:Hp}{f:FillM}(h:f.At H):Rep K H f.d f.v:=by
 simp only[FillM.d,Rep]
 exact⟨_,_,rfl,SqT.of h,by simp[RepL,Rep]⟩
theorem ToldM.At.rep{K:Wf}{H:Hp}{n:ToldM}(h:n.At H):Rep K H n.d n.v:=by
 simp only[ToldM.d,Rep]
 exact⟨_,_,rfl,SqT.of h,by simp[RepL,Rep]⟩
theorem StM.At.rep{K:Wf}{H:Hp}{s:StM}(h:s.At H):Rep K H s.d s.v:=by
 simp only[StM.d,Rep]
 refine⟨_,_,rfl,SqT.of h.top,?_⟩
 simp only[RepL,Rep]
 exact⟨_,_,rfl,rfl,_,_,rfl,rfl,_,_,rfl,⟨_,_,rfl,SqL.of h.wd,RepL.ints _⟩,_,_,rfl,⟨_,_,rfl,SqL.of h.fl,RepL.map λf hf=>(h.fs f hf).rep⟩,rfl⟩
theorem PcM.At.rep{K:Wf}{H:Hp}{p:PcM}(h:p.At H):Rep K H p.d p.v:=by
 simp only[PcM.d,Rep]
 refine⟨_,_,rfl,SqT.of h.top,?_⟩
 simp only[RepL,Rep]
 exact⟨_,_,rfl,rfl,_,_,rfl,⟨_,_,rfl,SqL.of h.sl,RepL.map λs hs=>(h.ss s hs).rep⟩,_,_,rfl,⟨_,_,rfl,SqL.of h.nl,RepL.map λn hn=>(h.ns n hn).rep⟩,rfl⟩
theorem depL_le{α:Type}{f:α->D}{n:Nat}:∀{xs:List α},(∀x∈xs,dep (f x)<=n)->depL (xs.map f)<=n
 |[],_=>by simp[depL]
 |x::xs,h=>by
  simp only[List.map_cons,depL]
  exact Nat.max_le.mpr ⟨h x (ya5 ..),depL_le λy hy=>h y (yaw _ hy)⟩
theorem dep_fill(f:FillM):dep f.d<=1:=by simp[FillM.d,dep,depL]
theorem dep_told(n:ToldM):dep n.d<=1:=by simp[ToldM.d,dep,depL]
theorem dep_st(s:StM):dep s.d<=3:=by
 have h1:depL (s.words.map D.int)<=0:=depL_le λx _=>by simp[dep]
 have h2:depL (s.fills.map FillM.d)<=1:=depL_le λx _=>dep_fill x
 simp only[StM.d,dep,depL]
 omega
theorem dep_pc(p:PcM):dep p.d<=5:=by
 have h1:depL (p.sts.map StM.d)<=3:=depL_le λx _=>dep_st x
 have h2:depL (p.nms.map ToldM.d)<=1:=depL_le λx _=>dep_told x
 simp only[PcM.d,dep,depL]
 omega
theorem deqL_nil(ds:List D):deqL ds []=decide (ds=[]):=by cases ds<;>simp[deqL]
theorem Pcs.rep{K:Wf}{H:Hp}{L:Addr}{ps:List PcM}(h:Pcs H L ps):Rep K H (.lst (ps.map PcM.d)) (.ref L):=by
 simp only[Rep]
 exact⟨_,_,rfl,SqL.of h.top,RepL.map λp hp=>(h.at_ p hp).rep⟩
noncomputable def StM.core(s:StM):Str×Int×List Int×List FillM:=(s.kind,s.step,s.words,s.fills)
structure PcM.Copy(p q:PcM):Prop where
 name:q.name=p.name
 nms:q.nms=p.nms
 sts:q.sts.map StM.core=p.sts.map StM.core
theorem pt_never:PT X e (λ_ _ _=>False):=λ_ _ _ _ _ _ h=>h.elim
end L2
namespace L2
open PySem PySem.Spec PyProof.Rows PySem.W
noncomputable abbrev VE:List Value:=[.type "ValueError", .type "Exception", .type "BaseException", .type "object"]
noncomputable def ownInit(K:Frag)(C fI:Addr):Bool:=
 match K.lookup C with
 |none=>false
 |some ob=>
  match ob.cls,ob.data,ob.slots.toList with
  |.type "type", .cls cd,[_,_,_,_,some (.builtin n),_]=>
   (match cd.mro with
    |.ref C'::bm=>C' == C&&(n == "ValueError.__new__" && (!cd.hasDel&&(tailIn K VE bm&&(nsOkIn K cd.ns&&(cd.hasDict&&nsIn K cd.ns "__init__" == some (some (.ref fI)))))))
    |_=>false)
  |_,_,_=>false
theorem ns_has{K:Frag}{h:Heap}{N:Addr}{m:So}{n:Str}{v:Value}(X:K.In h)(G:h.Ns N m)(e:nsIn K N n=some (some v)):m n=some v:=by
 obtain⟨o,es,ep,ho,hd,_,hf⟩:=G
 unfold nsIn at e
 split at e
 ·rename_i c d es' n' sl q
  have z:=X _ _ q
  rw[ho]at z
  cases z
  cases hd
  split at e
  ·rename_i en he
   cases e
   rw[<-hf]
   unfold nsFind findBy
   rw[<-Array.find?_toList,he]
   rfl
  ·split at e<;>cases e
 ·cases e
theorem init_obj{K:Frag}{h:Heap}{C fI:Addr}(X:K.In h)(q:ownInit K C fI=true):
  ∃bm N nm q bs sn sub ab col dd k0 k1 k2 k3 k5 mN,h.get? C=some (excClassObj nm q C N bs bm true sn sub ab col dd k0 k1 k2 k3 k5 "ValueError.__new__")/\h.Ns N mN/\mN "__init__" = some (.ref fI)/\OwnTail h VE bm:=by
 unfold ownInit at q
 split at q
 ·cases q
 ·rename_i ob ho
  split at q
  ·rename_i cd _ _ _ _ n _ hc hd hs
   split at q
   ·rename_i C' bm hm
    simp only[Bool.and_eq_true,beq_iff_eq,Bool.not_eq_true']at q
    obtain⟨rfl,rfl,hdel,ht,hok,hdi,hni⟩:=q
    obtain⟨oc,odi,oda,osl⟩:=ob
    dsimp only at hc hd hs
    subst hc hd
    obtain⟨nm,bs,mro,ns,qn,hdd,sn,sub,ab,col,del⟩:=cd
    dsimp only at hm hdel hok hni hdi
    subst hm hdel hdi
    obtain⟨l⟩:=osl
    simp only at hs
    subst hs
    refine⟨bm,ns,nm,qn,bs,sn,sub,ab,col,odi,_,_,_,_,_,_,X _ _ ho,.of_isNs (isNs_of_in X hok),?_,tail_of_in X ht⟩
    exact ns_has X (.of_isNs (isNs_of_in X hok)) hni
   ·cases q
  ·cases q
section
variable{prog:Program}{w:World}{A:Around}{E:Vs}{h:Heap}{g:Array GenState}{d:Drawn}{t:Nat}{os:OsState}
variable{nm q:Str}{C N:Addr}{bs bm bmB:List Value}{hdct:Bool}{sn:List Str}{sub:List Value}{ab:Bool}{col:Option Bool}{dd:Option Addr}{k0 k1 k2 k3 k5:Option Value}{B newId initId:String}
theorem type_call_init(F:ExcBaseFacts B newId initId bmB)(T:OwnTail h bmB bm){mN:So}{rest:List Value}{fI:Addr}{oI:Obj}{Q:Fin->Shared->Prop}
  (hC:h.get? C=some (excClassObj nm q C N bs bm hdct sn sub ab col dd k0 k1 k2 k3 k5 newId)) (hn:h.Ns N mN) (hi:mN "__init__" = some (.ref fI))
  (hfI:h.get? fI=some oI) (hfc:oI.cls=.type "function")
  (hq:∀h' e,h.objs.size<=e->Heap.MadeExcOf h h' e (.ref C) rest->
   wpAny (model prog w) A (call (.ref fI) (.ref e::rest)) (λr s'=>r=.none/\Q (.done (.ret (.ref e))) s') E ⟨h',g,d,t,os⟩) (hrest:rest.length<=sizeLine):
  wpAny (model prog w) A (Builtin.«type.__call__» ⟨.ref C::rest,[]⟩) Q E ⟨h,g,d,t,os⟩:=by
 repeat (first|with_reducible refine ycz hC ?_|with_reducible refine wpAny_madeBy_exc hC ?_|wp_step)
 refine codeAny_call_builtin_code (Code.quiet_builtin _ F.quiet) (wpAny_check_new_subT F T hC ?_)
 refine codeAny_exc_new_subT F T hC ?_ hrest
 show wpAny _ _ _ _ _ _
 have up:∀b o,h.get? b=some o->((h.push { cls:=.type "tuple", data:=.seq rest.toArray }).push { cls:=.ref C,data:=.fields #[.ref h.objs.size,.none,.none,.none,.bool false,.none] }).get? b=some o:=
  λb o e=>yad _ (yad _ e)
 have hC₁:=up _ _ hC
 have hfI₁:=up _ _ hfI
 have hn₁:=hn.keeps up
 have hget:((h.push { cls:=.type "tuple", data:=.seq rest.toArray }).push
   { cls:=.ref C,data:=.fields #[.ref h.objs.size,.none,.none,.none,.bool false,.none] }).get? (h.objs.size+1)=some
   { cls:=.ref C,data:=.fields #[.ref h.objs.size,.none,.none,.none,.bool false,.none] }:=by heap_get
 have hcC:(Value.ref C::bm).contains (.ref C)=true:=by simp
 unfold isInstance
 repeat (first|with_reducible refine ycz hget ?_|(with_reducible refine wpAny_isSubtype_exc hC₁ ?_;rw[hcC])|wp_step)
 show wpAny _ _ (typeLookup (.ref C) _) _ _ _
 refine wpAny_typeLookup_tail hC₁ hn₁ (T.keeps up) F.mroIs F.init.lookup ?_
 rw[hi]
 refine ybo (yab ?_)
 unfold bindSpecial
 refine yab (wpAny_typeOf (T := "function") ⟨_,hfI₁,hfc⟩ ?_)
 rw[if_pos (by decide)]
 refine yaf (yab (ybk (hq _ (h.objs.size+1) (yb7 _) ⟨up,Heap.get?_none_of_le (yb7 _),h.objs.size,hget,Heap.get?_none_of_le (yap _),?_⟩) (λr s' hr=>?_) λ_ _ x=>x))
 ·exact yad _ (Heap.get?_push_at rfl rfl)
 ·obtain⟨rfl,hQ⟩:=hr
  wp_walk
  exact hQ
theorem call_init(F:ExcBaseFacts B newId initId bmB)(T:OwnTail h bmB bm){mN:So}{rest:List Value}{fI:Addr}{oI:Obj}{Q:Vs}
  (hC:h.get? C=some (excClassObj nm q C N bs bm hdct sn sub ab col dd k0 k1 k2 k3 k5 newId)) (hn:h.Ns N mN) (hi:mN "__init__" = some (.ref fI))
  (hfI:h.get? fI=some oI) (hfc:oI.cls=.type "function")
  (hq:∀h' e,h.objs.size<=e->Heap.MadeExcOf h h' e (.ref C) rest->
   wpAny (model prog w) (A.under (.builtin "type.__call__" ⟨.ref C::rest,[]⟩)) (call (.ref fI) (.ref e::rest)) (λr s'=>r=.none/\Q (.ref e) s') E ⟨h',g,d,t,os⟩) (hrest:rest.length<=sizeLine):
  wpAny (model prog w) A (call (.ref C) rest) Q E ⟨h,g,d,t,os⟩:=by
 have f1:=tc_lookup
 have f2:=tc_bind (.ref C)
 have hT:(⟨h,g,d,t,os⟩:Shared).TypeIs (.ref C) "type" := ⟨_,hC,rfl⟩
 refine ycv (codeAny_of_tree ?_)
 show wpAny _ _ (callAny (.ref C) _) _ _ _
 repeat (any_goals (first|assumption|with_reducible refine ycz hC ?_|wp_step))
 refine⟨rfl,?_⟩
 refine codeAny_call_builtin_at (Code.quiet_builtin _ (by decide +kernel)) entry_typeCall (wpAny_check_type_call_sub hC (type_call_init (hrest:=hrest) F T hC hn hi hfI hfc λh' e hz hm=>?_))
 exact hq h' e hz hm
theorem base_init(F:ExcBaseFacts B newId initId bmB)(T:OwnTail h bmB bm){e:Addr}{oe:Obj}{vs:Array Value}{v0:Value}{rest:List Value}{Q:Vs}
  (hC:h.get? C=some (excClassObj nm q C N bs bm hdct sn sub ab col dd k0 k1 k2 k3 k5 newId)) (he:h.get? e=some oe) (hcls:oe.cls=.ref C) (hd:oe.data=.fields vs) (h0:vs[0]?=some v0)
  (hq:∀h' T,(∀b o,b≠e->h.get? b=some o->h'.get? b=some o)->h'.get? e=some { oe with data:=.fields (vs.setIfInBounds 0 T) }->Q .none ⟨h',g,d,t,os⟩) (hrest:rest.length<=sizeLine):
  wpAny (model prog w) A (call (.builtin initId) (.ref e::rest)) Q E ⟨h,g,d,t,os⟩:=by
 refine ycv (codeAny_call_builtin F.init.plain F.initEntry (wpAny_check_init_subT F T hC he hcls ?_))
 have he1:=yad { cls:=.type "tuple", data:=.seq rest.toArray } he
 have hsz:=(ybx.mp h0).1
 unfold Builtin.«BaseException.__init__»
 repeat (first|with_reducible refine ycs he1 hd h0 ?_|with_reducible refine yce he1 hd hsz ?_|wp_step)
 have hd3:(Obj.mapFields (·.setIfInBounds 0 (Value.ref h.objs.size)) oe).data=.fields (vs.setIfInBounds 0 (Value.ref h.objs.size)):=Obj.data_mapFields hd _
 have e3:=ybf (Obj.mapFields (·.setIfInBounds 0 (Value.ref h.objs.size))) he1 (Obj.isFreed_of_fields hd3)
 have e4:Obj.mapFields (·.setIfInBounds 0 (Value.ref h.objs.size)) oe={ oe with data:=.fields (vs.setIfInBounds 0 (Value.ref h.objs.size)) }:=by
  obtain⟨oc,od,oda,osl⟩:=oe
  dsimp only at hd
  subst hd
  rfl
 rw[e4]at e3
 have fin:=hq _ (.ref h.objs.size) (λb o hb ho=>by rw[ybi _ _ (Ne.symm hb)];exact yad _ ho) e3
 cases v0<;>repeat (first|exact fin|(unfold letGo;done)|with_reducible exact wpAny_holding (wpAny_point (wpAny_pure ?_))|wp_step)
end
noncomputable def onlyErr:List Value->Bool
 |.ref _::r=>onlyErr r
 |l=>l == VE
noncomputable def errIn(K:Frag)(C:Addr):Bool:=(clsIn K C).any λcd=>cd.hasDict&&onlyErr cd.mro
theorem refuse_err(self:Value):∀{l:List Value},onlyErr l=true->refuseLoop self "__setattr__" l=pure ()
 |.ref c::r,e=>by rw[refuseLoop_ref];exact refuse_err self (l:=r) e
 |[],e=>by cases (show([]:List Value)=VE from beq_iff_eq.mp e)
 |.type n::r,e=>by rw[show(Value.type n::r)=VE from beq_iff_eq.mp e];exact PySem.F.store_ValueError.passes self
 |.none::r,e=>nomatch (show(Value.none::r)=VE from beq_iff_eq.mp e)
 |.bool b::r,e=>nomatch (show(Value.bool b::r)=VE from beq_iff_eq.mp e)
 |.int b t::r,e=>nomatch (show(Value.int b t::r)=VE from beq_iff_eq.mp e)
 |.str b t::r,e=>nomatch (show(Value.str b t::r)=VE from beq_iff_eq.mp e)
 |.bytes b t::r,e=>nomatch (show(Value.bytes b t::r)=VE from beq_iff_eq.mp e)
 |.float b t::r,e=>nomatch (show(Value.float b t::r)=VE from beq_iff_eq.mp e)
 |.builtin b::r,e=>nomatch (show(Value.builtin b::r)=VE from beq_iff_eq.mp e)
theorem err_has:∀{l:List Value},onlyErr l=true->l.contains (.type "object")=true
 |.ref c::r,e=>by rw[List.contains_cons,err_has (l:=r) e,Bool.or_true]
 |[],e=>by cases (show([]:List Value)=VE from beq_iff_eq.mp e)
 |.type n::r,e=>by rw[show(Value.type n::r)=VE from beq_iff_eq.mp e];decide
 |.none::r,e=>nomatch (show(Value.none::r)=VE from beq_iff_eq.mp e)
section
variable{prog:Program}{w:World}{A:Around}{E:Vs}{s:Shared}{K:Frag}{x C:Addr}{R:Result->Shared->Prop}
theorem osa_err(X:K.In s.heap)(I:InstAt s.heap x ox C od)(hp:errIn K C=true)(hf:findIn K (.ref C) name=some none)
  (h:wpAny (model prog w) A.in1 (Builtin.ObjectAttr.storeInOwnDict (.ref x) (.ref C) (.str name tk) name v false)
   (λfin s'=>match fin with | .done f=>R (.ok f) s' | .again c'=>c'.quiet=true/\codeAny (model prog w) A c' R s') (λe s'=>R (.error e) s') s):
  codeAny (model prog w) A (.call (.builtin "object.__setattr__") ⟨[.ref x,.str name tk,v],[]⟩) R s:=by
 have SF:=PySem.F.store_object
 obtain⟨cd,hc,ho⟩:=any_some hp
 rw[ya2]at ho
 obtain⟨_,ho⟩:=ho
 have ne:cd.mro.isEmpty=false:=by cases q:cd.mro with|nil=>rw[q]at ho;cases ho|cons _ _=>rfl
 have sub:Looks (model prog w) s.heap (isInstance (.ref x) (.type "object")) true:=I.type.andThen (looks_mroIn X (by unfold mroIn;rw[hc,Option.bind_some,if_neg (by rw[ne];decide),err_has ho]))
 refine codeAny_call_builtin SF.slot.plain SF.entry (@check_slot (model prog w) _ _ s "object.__setattr__" "object" "__setattr__" (.ref x) [.str name tk,v] [] _ SF.kind SF.split sub (SF.args (.ref x) (.str name tk) v) ?_)
 have hm:Looks (model prog w) s.heap (mroOf (.ref C)) cd.mro:=(looks_clsIn X hc).andThen .now
 rw[osa_eq,refuse_eq]
 refine yab (yab (I.type.here (yab (hm.here ?_))))
 rw[refuse_err _ ho]
 refine yaf (yab (I.type.here (yab ((looks_findIn X hf).here (yab (yaf ?_))))))
 exact h
theorem set_err0(X:K.In s.heap)(hx:s.heap.get? x=some ox)(hcl:ox.cls=.ref C)(hdn:ox.dict=none)(hda:ox.data=.fields vs)(hp:errIn K C=true)
  (hs:findIn K (.ref C) "__setattr__" = some (some (.builtin "object.__setattr__"))) (hf:findIn K (.ref C) name=some none)
  (h:∀h' tk,h'.get? x=some { ox with dict:=some s.heap.objs.size }->h'.Ns1 s.heap.objs.size (λy=>if y=name then some v else none)->(∀b o,b≠x->s.heap.get? b=some o->h'.get? b=some o)->Q () { s with heap:=h',toks:=tk }):
  wpAny (model prog w) A (setAttr (.ref x) name v) Q E s:=by
 obtain⟨hh,g,d,t,os⟩:=s
 have J:InstAt hh x ox C none:=⟨hx,hcl,by unfold notCls;rw[hda],by rw[hdn];trivial⟩
 refine set_plain X J hs (osa_err (s:=⟨hh,g,d,t+1,os⟩) X J hp hf ?_)
 obtain⟨cd,hc,ho⟩:=any_some hp
 rw[ya2]at ho
 refine yab (yaf (yab (yab (wpAny_loadPart hx ?_))))
 rw[hcl]
 refine yab (Looks.here (s:=⟨hh,g,d,t+1,os⟩) (looks_clsIn X hc) ?_)
 rw[ho.1,hdn,hda]
 rw[if_neg (by decide)]
 dsimp only
 rw[if_neg (by simp[typeHasDict])]
 have hx₁:(hh.push { cls:=.type "dict", data:=.dict #[] }).get? x=some ox:=yad _ hx
 have hxs:x≠hh.objs.size:=yax (yal hx)
 refine yab (wpAny_alloc' ?_)
 refine yab (wpAny_update' hx₁ ?_)
 refine yaf ?_
 have hgd:((hh.push { cls:=.type "dict", data:=.dict #[] }).update x λo=>{ cls:=o.cls,dict:=some hh.objs.size,data:=o.data,slots:=o.slots }).get? hh.objs.size
   = some { cls:=.type "dict", data:=.dict #[] }:=(ybz _ _ _ _ hxs.symm).trans (Heap.get?_push_at rfl rfl)
 have hnd:((hh.push { cls:=.type "dict", data:=.dict #[] }).update x λo=>{ cls:=o.cls,dict:=some hh.objs.size,data:=o.data,slots:=o.slots }).Ns hh.objs.size (λ_=>none):=
  ⟨_,#[],_,hgd,rfl,λe he=>absurd he (by simp),λ_=>rfl⟩
 show wpAny _ _ (Builtin.ObjectAttr.storeInDict hh.objs.size (.str name t) name v) _ _ _
 unfold Builtin.ObjectAttr.storeInDict Builtin.ObjectAttr.newKeyGuard
 refine yab (yaf (yab (wpAny_nsSet1 (Heap.Ns1.of_empty hnd) λh' hn' hs=>?_)))
 obtain⟨oD,esD,epD,hoD,hdD,hcD⟩:=hn'.count (Within.cons name v Within.nil)
 refine yab (wpAny_lookBehind hoD (by rw[hdD];exact pastItsLine_dict (yay hcD (by rw[ya7,List.length_nil,sizeLine_eq];omega))) ?_)
 refine yaf (h h' _ ?_ hn' λb o hb hbo=>?_)
 ·refine(hs.2 x hxs).trans (ybf _ hx₁ ?_)
  obtain⟨oc,od,odt,osl⟩:=ox
  dsimp only at hda
  subst hda
  rfl
 ·exact(hs.2 b (yax (yal hbo))).trans ((ybz _ _ _ _ hb).trans (yad _ hbo))
theorem set_err1(X:K.In s.heap)(hx:s.heap.get? x=some ox)(hcl:ox.cls=.ref C)(hdn:ox.dict=some dx)(hda:ox.data=.fields vs)
  (hns:s.heap.Ns1 dx mA) (hp:errIn K C=true) (hs:findIn K (.ref C) "__setattr__" = some (some (.builtin "object.__setattr__"))) (hf:findIn K (.ref C) name=some none) (hw:Within mA ns) (hsz:ns.length<=sizeLine)
  (h:∀h' tk,h'.Ns1 dx (λy=>if y=name then some v else mA y)->Heap.SameBut dx s.heap h'->Q () { s with heap:=h',toks:=tk }):
  wpAny (model prog w) A (setAttr (.ref x) name v) Q E s:=by
 obtain⟨hh,g,d,t,os⟩:=s
 obtain⟨oD,_,_,hoD,_⟩:=id hns
 have J:InstAt hh x ox C (some oD):=⟨hx,hcl,by unfold notCls;rw[hda],by rw[hdn];exact hoD⟩
 refine set_plain X J hs (osa_err (s:=⟨hh,g,d,t+1,os⟩) X J hp hf ?_)
 obtain⟨cd,hc,ho⟩:=any_some hp
 rw[ya2]at ho
 refine yab (yaf (yab (yab (wpAny_loadPart hx ?_))))
 rw[hcl]
 refine yab (Looks.here (s:=⟨hh,g,d,t+1,os⟩) (looks_clsIn X hc) ?_)
 rw[ho.1,hdn]
 rw[if_neg (by decide)]
 refine yaf ?_
 show wpAny _ _ (Builtin.ObjectAttr.storeInDict dx (.str name t) name v) _ _ _
 unfold Builtin.ObjectAttr.storeInDict Builtin.ObjectAttr.newKeyGuard
 refine yab (yaf (yab (wpAny_nsSet1 hns λh' hn' hs=>?_)))
 obtain⟨oD,esD,epD,hoD,hdD,hcD⟩:=hn'.count (Within.cons name v hw)
 refine yab (wpAny_lookBehind hoD (by rw[hdD];exact pastItsLine_dict (yay hcD (by rw[ya7];omega))) ?_)
 exact yaf (h h' _ hn' hs)
end
end L2
namespace L2
open PySem PySem.Spec PyProof.Rows PySem.W
section
variable{M:Model}{A:Around}{E:Vs}{env:Env}
variable{nm q:Str}{C N:Addr}{bs bm:List Value}{hdct:Bool}{sn:List Str}{sub:List Value}{ab:Bool}{col:Option Bool}{dd:Option Addr}{k0 k1 k2 k3 k5:Option Value}{newId:String}
theorem raise_made(hbase:bm.contains (.type "BaseException")=true)(hh:A.handled=none)
  (h:wpAny M A x (λv s₁=>∃e oe vs,v=.ref e/\s₁.heap.get? C=some (excClassObj nm q C N bs bm hdct sn sub ab col dd k0 k1 k2 k3 k5 newId)/\
   s₁.heap.get? e=some oe/\oe.cls=.ref C/\oe.data=.fields vs/\vs[1]?=some .none/\E (.ref e) s₁) E s):
  wpAny M A (raiseStmt env (some x) none) Q E s:=by
 have hcB:(Value.ref C::bm).contains (.type "BaseException")=true:=by rw[List.contains_cons,hbase,Bool.or_true]
 unfold raiseStmt
 refine yab (ybk h (λv s₁ h₁=>?_) λ_ _ x=>x)
 obtain⟨e,oe,vs,rfl,hC,he,hcls,hd,h1,hE⟩:=h₁
 obtain⟨hp,g,d,tk,os⟩:=s₁
 obtain⟨oc,odi,oda,osl⟩:=oe
 dsimp only at hcls hd
 subst hcls hd
 repeat (first|with_reducible refine ycz he ?_|with_reducible refine ycz hC ?_|(with_reducible refine wpAny_isSubtype_exc hC ?_;rw[hcB])|with_reducible refine ycs he rfl h1 ?_|wp_step)
 exact wpAny_raiseNew_none hh hE
end
section
variable{prog:Program}{w:World}{A:Around}{E:Vs}{s:Shared}{env:Env}
variable{nm q:Str}{C N:Addr}{bs bm bmB:List Value}{hdct:Bool}{sn:List Str}{sub:List Value}{ab:Bool}{col:Option Bool}{dd:Option Addr}{k0 k1 k2 k3 k5:Option Value}{B newId initId:String}
theorem raise_init(F:ExcBaseFacts B newId initId bmB){mN:So}{x:Str}{np cpos pos:Pos}{args:List Expr}{fI:Addr}{oI:Obj}{Q:Flow->Shared->Prop}
  (hbase:bm.contains (.type "BaseException")=true) (hh:A.handled=none) (hplain:(backTo cpos (starEach args env)).any (·.1)=false) (hi:mN "__init__" = some (.ref fI)) (hfc:oI.cls=.type "function")
  (h:wpAny (model prog w) A (eval (.Name x np) env) (λf s₁=>f=.ref C/\wpAny (model prog w) A (evalArgs (.ref C) true (backTo cpos (starEach args env)) [])
   (λa s₂=>a.kw=[]/\a.pos.length<=sizeLine/\s₂.heap.get? C=some (excClassObj nm q C N bs bm hdct sn sub ab col dd k0 k1 k2 k3 k5 newId)/\s₂.heap.Ns N mN/\OwnTail s₂.heap bmB bm/\s₂.heap.get? fI=some oI/\
    ∀h' e,s₂.heap.objs.size<=e->Heap.MadeExcOf s₂.heap h' e (.ref C) a.pos->
     wpAny (model prog w) (A.under (.builtin "type.__call__" ⟨.ref C::a.pos,[]⟩)) (call (.ref fI) (.ref e::a.pos)) (λr s'=>r=.none/\∃oe vs,s'.heap.get? C=some (excClassObj nm q C N bs bm hdct sn sub ab col dd k0 k1 k2 k3 k5 newId)/\
      s'.heap.get? e=some oe/\oe.cls=.ref C/\oe.data=.fields vs/\vs[1]?=some .none/\E (.ref e) s') E { s₂ with heap:=h' }) E s₁) E s):
  wpAny (model prog w) A (exec (.Raise (some (.Call (.Name x np) args [] cpos)) none pos) env) Q E s:=by
 rw[arm_exec_Raise]
 refine yab (wpAny_standAt (raise_made (C:=C) (nm:=nm) (q:=q) (N:=N) (bs:=bs) (bm:=bm) (hdct:=hdct) (sn:=sn) (sub:=sub) (ab:=ab) (col:=col) (dd:=dd) (k0:=k0) (k1:=k1) (k2:=k2) (k3:=k3) (k5:=k5) (newId:=newId) hbase hh
  (yab (ybk (wpAny_Call_ofName (ybk h (λf s₁ h₁=>?_) λ_ _ x=>x)) (λv s₃ h₃=>yab (wpAny_standAt (yaf h₃))) λ_ _ x=>x))))
 obtain⟨rfl,h₁⟩:=h₁
 unfold callWith
 refine yab (ybo (ybk h₁ (λa s₂ h₂=>yab (wpAny_standAt ?_)) λ_ _ x=>x))
 obtain⟨apos,akw⟩:=a
 obtain⟨hkw,hlen,hC,hn,T,hfI,h₂⟩:=h₂
 obtain rfl:akw=[]:=hkw
 obtain⟨hp,g,d,tk,os⟩:=s₂
 simp only[hplain]
 refine yab (wpAny_keeperOf_exc hC ?_)
 refine yab (call_init (hrest:=hlen) F T hC hn hi hfI hfc λh' e hz hm=>ybk (h₂ h' e hz hm) (λr s' hr=>⟨hr.1,yab (ybo (wpAny_point (yaf ?_)))⟩) λ_ _ x=>x)
 obtain⟨_,oe,vs,k1,k2,k3,k4,k5,k6⟩:=hr
 exact⟨e,oe,vs,rfl,k1,k2,k3,k4,k5,k6⟩
end
noncomputable def XN(a C:Addr)(dx:Option Addr):HO:=.ext λh=>∃ob vs v0,h.get? a=some ob/\ob.cls=.ref C/\ob.dict=dx/\ob.data=.fields vs/\vs[0]?=some v0/\vs[1]?=some .none
noncomputable def XD(d:Addr)(fs:List (Str×V)):HO:=.ext λh=>∃mA,h.Ns1 d mA/\(∀f,RelO (fs.lookup f) (mA f))/\PySem.Within mA (fs.map (·.1))
noncomputable def del(H:Hp)(a:Addr):Hp:=λb=>if b=a then none else H b
theorem del_ne(h:b≠a):del H a b=H b:=by unfold del;rw[if_neg h]
theorem del_same:del H a a=none:=by unfold del;rw[if_pos rfl]
theorem XN.get(ok:HOk P w H h)(e:H a=some (XN a C dx)):∃ob vs v0,h.get? a=some ob/\ob.cls=.ref C/\ob.dict=dx/\ob.data=.fields vs/\vs[0]?=some v0/\vs[1]?=some .none:=(ok a _ e).1
theorem XD.get(ok:HOk P w H h)(e:H d=some (XD d fs)):∃mA,h.Ns1 d mA/\(∀f,RelO (fs.lookup f) (mA f))/\PySem.Within mA (fs.map (·.1)):=(ok d _ e).1
theorem XN.ok(x:∃ob vs v0,h.get? a=some ob/\ob.cls=.ref C/\ob.dict=dx/\ob.data=.fields vs/\vs[0]?=some v0/\vs[1]?=some .none):ObjOk P w H h a (XN a C dx):=by
 obtain⟨ob,vs,v0,he,r⟩:=x
 exact⟨⟨ob,vs,v0,he,r⟩,⟨ob,he⟩,λh1 h2 ⟨ob,ws,v0,q,r⟩ k=>⟨ob,ws,v0,k _ q,r⟩⟩
theorem XD.ok(x:∃mA,h.Ns1 d mA/\(∀f,RelO (fs.lookup f) (mA f))/\PySem.Within mA (fs.map (·.1))):ObjOk P w H h d (XD d fs):=by
 obtain⟨mA,n,r⟩:=x
 obtain⟨o,_,_,e,_⟩:=id n
 exact⟨⟨mA,n,r⟩,⟨o,e⟩,λh1 h2 ⟨mA,n,r⟩ k=>⟨mA,n.at k,r⟩⟩
section
variable{X:Cx}{pins:Lo}{σ:St}{H:Hp}{s:Shared}{a C:Addr}{φ:Heap->Prop}
theorem Inv.untrack(I:Inv X pins σ H s)(e:H a=some (.ext φ)):Inv X pins σ (del H a) s:=by
 have ne:∀b u,H b=some u->(∀ψ,u≠.ext ψ)->b≠a:=λb u q n z=>by rw[z,e]at q;exact n φ (Option.some.inj q).symm
 refine I.un (h':=s.heap) (t':=s.toks) ⟨λb o q _ _ _=>q,λb o q _ _ _=>⟨o.slots,q⟩,λb o q n _=>?_,λb o q _=>⟨o,q⟩,λb xs q=>?_,λb o u q=>?_,λb ps q=>⟨#[],?_⟩⟩ λb u q=>?_
 ·by_cases hb:b=a
  ·rw[hb];exact del_same
  ·rw[del_ne hb];exact n
 ·rw[del_ne (ne b _ q (by intro ψ z;cases z))];exact q
 ·rw[del_ne (ne b _ q (by intro ψ z;cases z))];exact q
 ·rw[del_ne (ne b _ q (by intro ψ z;cases z)),q];simp
 ·by_cases hb:b=a
  ·rw[hb,del_same]at q;cases q
  ·rw[del_ne hb]at q
   exact(I.hok b u q).stay (λ_ _ _ z=>z) (λc z=>by rw[del_ne (ne c _ z (by intro ψ z;cases z))];exact z) λc xs z=>by rw[del_ne (ne c _ z (by intro ψ z;cases z))];exact z
theorem Inv.dictDone(I:Inv X pins σ H s)(e:H d=some (XD d fs)):Inv X pins σ (upd H d (.xd fs)) s:=by
 obtain⟨mA,n,r,_⟩:=XD.get I.hok e
 obtain⟨o,_,_,q,_⟩:=id n
 exact I.write (h':=s.heap) (t':=s.toks) (x:=d) (e:=d) (by rw[e];exact True.intro) (.inl rfl) (λ_ _ _ z=>z) ⟨o,q⟩ ⟨mA,n,r⟩
end
end L2
namespace L2
open PySem PySem.Spec PyProof.Rows PySem.W
structure ErrC(K:Frag)(C f:Addr):Prop where
 ini:ownInit K C f=true
 ei:errIn K C=true
 sa:findIn K (.ref C) "__setattr__" = some (some (.builtin "object.__setattr__"))
 fn:isFn K (.ref f)=true
structure BaseI(K:Frag)(B:Addr):Prop where
 rd:readsIn K B (.type "type")=true
 fc:findCls K (.ref B) (.type "type") "__init__" = some (.val (.builtin "ValueError.__init__"))
 ga:specialIn K (.ref B) "__getattribute__" = some (some (.builtin "type.__getattribute__"))
theorem upd_id(e:H a=some o):upd H a o=H:=by
 funext b
 by_cases hb:b=a
 ·subst hb;rw[zz1,e]
 ·rw[upd_ne hb]
def tRaiseI(C:Addr)(sp:Sp)(E:XK)(t:TA):TS:=λ_ σ H=>t σ H λvs H1=>vs.length<=sizeLine/\∀x,H1 x=none->sp (.ref x::vs) (upd H1 x (XN x C none)) (λv H2=>v=.non/\
 ((H2 x=some (XN x C none)/\E (.ref C) none (del H2 x))\/∃d fs,d≠x/\H2 x=some (XN x C (some d))/\H2 d=some (XD d fs)/\E (.ref C) (some d) (del (upd H2 d (.xd fs)) x))) E0
def tXInit(K:Frag)(t:TA):TE:=λσ H Q=>t σ H λvs H1=>∃a C dx rest f,vs=.ref a::rest/\H1 a=some (XN a C dx)/\ErrC K C f/\rest.length<=sizeLine/\Q .non H1
def sXFld(K:Frag)(ta tv:TE)(f:Str):TS:=λD σ H=>tv σ H λy H1=>ta σ H1 λx H2=>∃a C fI dx,x=.ref a/\H2 a=some (XN a C dx)/\ErrC K C fI/\NoAttr K C f/\
 ((dx=none/\∀d,H2 d=none->D.nx σ (upd (upd H2 d (XD d [(f,y)])) a (XN a C (some d))))\/∃d fs,dx=some d/\H2 d=some (XD d fs)/\fs.length<1000/\D.nx σ (upd H2 d (XD d (putF f y fs))))
def tXFld(K:Frag)(ta:TE)(f:Str):TE:=λσ H Q=>ta σ H λx H1=>∃a C d fs v,x=.ref a/\H1 a=some (XO a C (some d))/\H1 d=some (.xd fs)/\XCls K C/\hasDictIn K C=true/\NoAttr K C f/\fs.lookup f=some v/\Q v H1
section
variable{X:Cx}{x f:Str}{B C fI:Addr}{k:Nat}{fd:FuncData}{ps:List Str}{sp:Sp}{E:XK}{e o value:Expr}{es:List Expr}{p np apos cpos pos pos':Pos}{t:TA}{ta tv:TE}
theorem ps_raiseI(F:FnOk X.prog X.w X.K X.mg X.base CX0 k fI fd ps sp)(hr:Room (k+1) X.A)(hb:Binds X.K fd ps [])(M:ErrC X.K C fI)(hg:Gl X x)(hm:X.mg x=some (.ref C))(hc:X.calm=true)(hX:Xe X E)(ha:PA X (e::es) t)(hex:X.ex=[]:=by rfl)
  (he:starEach (e::es) X.env=(false,eval e X.env)::starEach es X.env:=by rfl) (hplain:(backTo cpos (starEach es X.env)).any (·.1)=false:=by rfl) (hdb:(x == ("__debug__" : Str))=false:=by decide):
  PS X (.Raise (some (.Call (.Name x np) (e::es) [] cpos)) none pos) (tRaiseI C sp E t):=by
 intro pins s σ H D I h
 obtain⟨tl,N,nm,qn,bs,sn,sub,ab,col,dd,k0,k1,k2,k3,k5,mN,hC,hN,hni,T⟩:=init_obj I.ok.mod.kin M.ini
 obtain⟨oI,hoI,hfc⟩:∃oI,X.K.lookup fI=some oI/\oI.cls=.type "function" := yao.mp (beq_iff_eq.mp M.fn)
 have hfI:=I.ok.mod.kin _ _ hoI
 refine raise_init (C:=C) (nm:=nm) (q:=qn) (N:=N) (bs:=bs) (bm:=tl) (hdct:=true) (sn:=sn) (sub:=sub) (ab:=ab) (col:=col) (dd:=dd) (k0:=k0) (k1:=k1) (k2:=k2) (k3:=k3) (k5:=k5) (fI:=fI) (oI:=oI)
  PySem.F.excBase_ValueError (mN:=mN) (T.hasType PySem.F.excBase_ValueError.hasBase) (I.ok.hd hc) (by rw[he];show(false || (backTo cpos (starEach es X.env)).any (·.1))=false;rw[hplain];rfl) hni hfc (ld_glob I hg hm ⟨rfl,?_⟩ hdb)
 have h1:=ha cpos pins s σ H _ I h
 rw[he]at h1 ⊢
 refine Calls.evalArgs_plain (ybk h1 (λus s2 h2=>?_) λ_ _ y=>y)
 obtain⟨vs,H2,I2,rv,hz,hE⟩:=h2
 refine⟨rfl,by rw[<-rv.length];exact hz,I2.bk _ _ hC,hN.keeps I2.bk,T.keeps I2.bk,I2.bk _ _ hfI,λh' e hsz me=>?_⟩
 obtain⟨t',hx,_,_⟩:=me.there
 have I3:Inv X pins σ (upd H2 e (XN e C none)) { s2 with heap:=h' }:=I2.laid (t':=s2.toks) me.keeps hsz (XN.ok ⟨_,_,_,hx,rfl,rfl,rfl,rfl,rfl⟩)
 have hq:=hE e (I2.hok.fresh hsz)
 have r2:Vals (V.ref e::vs) (Value.ref e::us):=.cons rfl rv
 have hl:(Value.ref e::us++[]).length=ps.length:=by
  have z:=r2.length
  rw[F.len _ _ _ _ hq]at z
  rw[ybc];exact z.symm
 have hbb:=hb { s2 with heap:=h' } (Value.ref e::us) I3.kIn hl
 rw[ybc]at hbb
 have hs0:X.s₀.heap.get? e=none:=by
  cases qq:X.s₀.heap.get? e with
  |none=>rfl
  |some o=>
   obtain⟨o',q'⟩:=I2.base.there e o qq (by rw[hex];simp)
   rw[me.new]at q';cases q'
 refine ycv (codeAny_mono (F.run _ X.stack _ _ ⟨Value.ref e::us,[]⟩ (Value.ref e::us) _ _ E0 (hr.make C us []) (I3.env0.make C us []) hbb r2 hq) λr s' hq'=>?_)
 cases r with
 |error e=>exact False.elim hq'
 |ok fl=>
  cases fl with
  |ret u=>
   obtain⟨v,H',I4,rv',ev,alt⟩:=I3.after hq'
   subst ev
   rcases alt with ⟨e1,hE⟩|⟨d,fs,dne,e1,e2,hE⟩
   ·obtain⟨ob,ws,v0,g1,g2,g3,g4,g5,g6⟩:=XN.get I4.hok e1
    exact⟨rv',ob,ws,I4.bk _ _ hC,g1,g2,g4,g6,hX pins σ _ _ e (.ref C) none (I4.untrack e1) ⟨hs0,del_same,.inl ⟨ob,ws,g1,g2,g3,g4,g6⟩⟩ hE⟩
   ·obtain⟨ob,ws,v0,g1,g2,g3,g4,g5,g6⟩:=XN.get I4.hok e1
    have I5:=I4.dictDone e2
    have e3:upd H' d (.xd fs) e=some (XN e C (some d)):=by rw[upd_ne (Ne.symm dne)];exact e1
    exact⟨rv',ob,ws,I4.bk _ _ hC,g1,g2,g4,g6,hX pins σ _ _ e (.ref C) (some d) (I5.untrack e3) ⟨hs0,del_same,.inl ⟨ob,ws,g1,g2,g3,g4,g6⟩⟩ hE⟩
  |next=>exact False.elim hq'
  |brk=>exact False.elim hq'
  |cont=>exact False.elim hq'
theorem pe_xinit(hg:Gl X x)(hm:X.mg x=some (.ref B))(b:BaseI X.K B)(ha:PA X (e::es) t)(hdb:(x == ("__debug__" : Str))=false:=by decide)
  (hst:starEach (e::es) X.env=(false,eval e X.env)::starEach es X.env:=by rfl) (hpl:(backTo pos (starEach es X.env)).any (·.1)=false:=by rfl)
  (ht:eval (.Call (.Attribute (.Name x p) "__init__" apos) (e::es) [] pos) X.env=(do
   let ov <-eval (.Name x p) X.env
   standAt apos.atName
   let (f,first) <-holding [ov] (getMethod ov "__init__" pl)
   callWith pos f first (backTo pos (starEach (e::es) X.env)) (backToKw pos (keywordEach [] X.env))):=by rfl):
  PE X (.Call (.Attribute (.Name x p) "__init__" apos) (e::es) [] pos) (tXInit X.K t):=by
 intro pins s σ H Q I h
 refine methodCall_KW (pl:=pl) (ld_glob I hg hm ?_ hdb) ht
 refine method_cls I.kIn b.ga (cls_value I.kIn b.rd b.fc (by rfl) ?_)
 refine callWith_builtin1 (thn (ha pos pins _ σ H _ (I.tok (s.toks+1)) h) λus s1 ⟨vs,H1,I2,r,q⟩=>?_) hst hpl
 obtain⟨a,C,dx,rest,f,rfl,e1,M,hz,q⟩:=q
 cases r with
 |cons ra rr=>
  rename_i u us _
  obtain rfl:u=Value.ref a:=ra
  obtain⟨tl,N,nm,qn,bs,sn,sub,ab,col,dd,k0,k1,k2,k3,k5,mN,hC,hN,hni,T⟩:=init_obj I2.kIn M.ini
  obtain⟨ob,ws,v0,g1,g2,g3,g4,g5,g6⟩:=XN.get I2.hok e1
  obtain⟨hh,g,d,tk,os⟩:=s1
  have h0:=(ybx.mp g5).1
  refine base_init PySem.F.excBase_ValueError T hC g1 g2 g4 g5 (λh' T' kk e'=>?_) (by rw[<-rr.length];exact hz)
  have I3:=I2.write (h':=h') (t':=tk) (x:=a) (e:=a) (o:=XN a C dx) (by rw[e1];exact True.intro) (.inl rfl) kk ⟨_,e'⟩
   (XN.ok ⟨_,ws.setIfInBounds 0 T',T',e',g2,g3,rfl,by simp[h0],by rw[Array.getElem?_setIfInBounds_ne (by decide)];exact g6⟩)
  rw[upd_id e1]at I3
  exact⟨.non,H1,I3,rfl,q⟩
theorem ps_xfld(ha:PE X o ta)(hv:PE X value tv)(hs:swapsWith value (some (.Attribute o f pos')) pos.line X.env=pure false):PS X (.Assign [.Attribute o f pos'] value pos) (sXFld X.K ta tv f):=by
 intro pins s σ H D I h
 refine plainObj_wpAny_Assign_Attribute (thn (hv pins s σ H _ I h) λu s1 hz=>?_) hs
 obtain⟨y,H1,I1,ry,q⟩:=hz
 refine thn (ha pins s1 σ H1 _ I1 q) λov s2 hz=>?_
 obtain⟨x,H2,I2,rx,a,C,fI,dx,ex,ea,M,n,q2⟩:=hz
 subst ex
 obtain rfl:ov=Value.ref a:=rx
 obtain⟨ob,ws,v0,g1,g2,g3,g4,g5,g6⟩:=XN.get I2.hok ea
 rcases q2 with ⟨rfl,q2⟩|⟨d,fs,rfl,ed,hl,q2⟩
 ·refine set_err0 I2.kIn g1 g2 g3 g4 M.ei M.sa n λh' tk k1 k2 k3=>?_
  have hne:s2.heap.objs.size≠a:=Ne.symm (yax (yal g1))
  have hn:=I2.hok.fresh (yap s2.heap.objs.size)
  refine⟨σ,_,?_,q2 s2.heap.objs.size hn⟩
  have na:∀b u,H2 b=some u->(∀ψ,u≠.ext ψ)->b≠a:=λb u q nx z=>by rw[z,ea]at q;exact nx _ (Option.some.inj q).symm
  have nd:∀b u,H2 b=some u->b≠s2.heap.objs.size:=λb u q=>zz4 q hn
  have n0:∀b,H2 b=none->b≠a:=λb q z=>by rw[z,ea]at q;cases q
  have up:∀b,b≠a->b≠s2.heap.objs.size->upd (upd H2 s2.heap.objs.size (XD s2.heap.objs.size [(f,y)])) a (XN a C (some s2.heap.objs.size)) b=H2 b:=λb z1 z2=>by rw[upd_ne z1,upd_ne z2]
  refine I2.un (h':=h') (t':=tk) ⟨λb o q m _ _=>k3 b o (n0 b m) q,λb o q m _ _=>⟨o.slots,k3 b o (n0 b m) q⟩,λb o q m _=>?_,λb o q _=>?_,λb xs q=>?_,λb o u q=>?_,λb ps q=>⟨#[],?_⟩⟩ λb u q=>?_
  ·rw[up b (n0 b m) (yax (yal q))];exact m
  ·by_cases hb:b=a
   ·rw[hb];exact⟨_,k1⟩
   ·exact⟨o,k3 b o hb q⟩
  ·rw[up b (na b _ q (by intro ψ z;cases z)) (nd b _ q)];exact q
  ·rw[up b (na b _ q (by intro ψ z;cases z)) (nd b _ q)];exact q
  ·rw[up b (na b _ q (by intro ψ z;cases z)) (nd b _ q),q];simp
  ·by_cases hb:b=a
   ·subst hb
    rw[zz1]at q;cases q
    exact XN.ok ⟨_,ws,v0,k1,g2,rfl,g4,g5,g6⟩
   ·by_cases hd:b=s2.heap.objs.size
    ·subst hd
     rw[upd_ne hb,zz1]at q;cases q
     refine XD.ok ⟨_,k2,λg=>?_,λg hg=>?_⟩
     ·by_cases z:g=f
      ·rw[if_pos z,z];simp[List.lookup];exact ry
      ·have zb:(g == f)=false:=beq_eq_false_iff_ne.mpr z
       rw[if_neg z];simp only[List.lookup,zb];trivial
     ·by_cases z:g=f
      ·rw[z];simp
      ·exact absurd (if_neg z) hg
    ·rw[up b hb hd]at q
     refine(I2.hok b u q).stay (λc v hc z=>k3 c v ?_ z) (λc z=>by rw[up c (na c _ z (by intro ψ z;cases z)) (nd c _ z)];exact z) λc xs z=>by rw[up c (na c _ z (by intro ψ z;cases z)) (nd c _ z)];exact z
     rcases hc with z|z
     ·rw[z];exact hb
     ·exact na c _ z (by intro ψ z;cases z)
 ·obtain⟨mA,n1,r,wi⟩:=XD.get I2.hok ed
  have hz:(fs.map (·.1)).length<=sizeLine:=by rw[yaa,sizeLine_eq];omega
  refine set_err1 I2.kIn g1 g2 g3 g4 n1 M.ei M.sa n wi hz λh' tk k1 sb=>?_
  refine⟨σ,_,?_,q2⟩
  obtain⟨od,_,_,hod,_⟩:=id k1
  refine I2.write (x:=d) (e:=d) (by rw[ed];exact True.intro) (.inl rfl) (λb q hb z=>(sb.2 b hb).trans z) ⟨od,hod⟩ (XD.ok ⟨_,k1,λg=>?_,λg hg=>?_⟩)
  ·show RelO ((putF f y fs).lookup g) (if g=f then some u else mA g)
   rw[lookup_putF]
   by_cases q:g=f
   ·rw[if_pos q,if_pos q];exact ry
   ·rw[if_neg q,if_neg q];exact r g
  ·by_cases q:g=f
   ·rw[q];exact(keys_putF f y fs).1
   ·refine(keys_putF f y fs).2 g (wi g λz=>hg ?_)
    show(if g=f then some u else mA g)=none
    rw[if_neg q];exact z
theorem pe_xfld(he:PE X o ta)(hb:attributeBase o f X.env (eval o X.env)=eval o X.env):PE X (.Attribute o f pos) (tXFld X.K ta f):=by
 intro pins s σ H Q I h
 refine attr_of hb (thn (he pins s σ H _ I h) λu s1 hz=>?_)
 obtain⟨x,H1,I1,rx,a,C,d,fs,v,ex,ea,ed,c,hd,n,l,q⟩:=hz
 subst ex
 obtain rfl:u=Value.ref a:=rx
 obtain⟨⟨ob,ws,g1,g2,g3,g4⟩,_⟩:=(I1.hok a _ ea)
 obtain⟨mA,n1,r⟩:=(show ∃mA,s1.heap.Ns1 d mA/\∀f,RelO (fs.lookup f) (mA f) from I1.hok d _ ed)
 obtain⟨od,ho,hl⟩:=lookIn_ns n1
 obtain⟨u,hu,ru⟩:=RelO.some_of (v:=v) (o:=mA f) (by rw[<-l];exact r f)
 have J:InstAt s1.heap a ob C (some od):=⟨g1,g2,by unfold notCls;rw[g4],by rw[g3];exact ho⟩
 exact x_attr I1.kIn c J (findObj_own hd n rfl (by rw[hl,hu])) (handed_of ru) ⟨v,H1,I1.tok _,ru,q⟩
end
end L2
namespace L2
open PySem PySem.Spec PyProof.Rows
section
variable{X:Cx}
theorem pss_weak(h:PSs X b t)(w:∀D σ H,u D σ H->t D σ H):PSs X b u:=λpins s σ H D I q=>h pins s σ H D I (w D σ H q)
theorem ps_weak(h:PS X b t)(w:∀D σ H,u D σ H->t D σ H):PS X b u:=λpins s σ H D I q=>h pins s σ H D I (w D σ H q)
theorem pt_weak(h:PT X e t)(w:∀σ H R,u σ H R->t σ H R):PT X e u:=λpins s σ H R I q=>h pins s σ H R I (w σ H R q)
end
section
variable{X:Cx}
theorem ps_setC{scope:Scope}(hN:X.N.Nodup)(hi':X.N[i]?=some y)(hy:Loc X.env.scope y)(B:BlkScope X N' k fm scope)(hc:X.calm=true)(hi:PI X tg iter wi)
  (hb:∀fp s H,PG (blk X N' scope fp s H) tg g/\PTs (blk X N' scope fp s H) ifs tt/\PE (blk X N' scope fp s H) elt te)
  (hsw:swapsWith (.ListComp elt [⟨tg,iter,ifs,0⟩] scope pos) (some (.Name y py)) spos.line X.env=pure true:=by rfl)
  (hs:∀x,foldedSetIterable iter X.env x=pure x:=by intro _;rfl) (hfn:X.fn y=true\/X.env.scope.names.lookup y=some .local:=by first|exact .inl rfl|exact .inr rfl|assumption):
  PS X (.Assign [.Name y py] (.ListComp elt [⟨tg,iter,ifs,0⟩] scope pos) spos) (tAsg (tComp k fm wi g tt te) (gName i)):=by
 intro pins s σ H DD I h
 have hfree:∀x∈scope.names,x.2=.free->∃c,X.env.cells.lookup x.1=some c:=λx hx hk=>I.ok.has x.1 (B.free x hx hk)
 rw[exec_Assign_Name_used _ _ _ _ hsw]
 refine yab (wpAny_standAt (yab ?_))
 show wpAny _ X.A (do let _ <-comprehension (.ListComp elt [⟨tg,iter,ifs,0⟩] scope pos) scope X.env _ (newList []) false (eval iter X.env) (some (assign (.Name y py) X.env))) _ _ s
 refine yab (ybk (wpAny_comprehension_free (use:=some (assign (.Name y py) X.env)) (Q:=λ_ s'=>SP X pins DD .next s') rfl hs (closureFor_eq hfree) B.kind B.names (thn (hi pins s σ H _ I h) λv s1 h1=>thn h1 λitv s2 h2=>?_)) (λ_ s' hq=>yaf (yaf hq)) λ_ _ e=>e)
 obtain⟨it,fp,tn,J,H2,e,I2,T,st2,f2,h2⟩:=h2
 subst e
 obtain⟨W,⟨m0,w0⟩,turn⟩:=h2 s2.heap.objs.size I2.fresh
 refine ybn (wpAny_newFunctionEnv B.nocell (by intro y hy;simp at hy) (λh4 hns4 hsb4=>?_) B.kind)
 have I3:=I2.lnew (its:=[]) (ys:=[]) (t':=s2.toks) .nil (ya1 _)
 have hf3:∀b∈fp,FpOk X pins (upd H2 s2.heap.objs.size (.lst [])) b:=λb hb=>by
  obtain⟨o,e,_⟩:=T.obj _ _ st2 b hb
  refine⟨?_,(f2 b hb).2⟩
  rw[upd_ne (λz=>ybb _ (z▸yal e))]
  exact(f2 b hb).1
 have ho3:∀b∈fp,∃o,(s2.heap.push { cls:=.type "list", data:=.seq ([]:List Value).toArray }).get? b=some o:=λb hb=>by
  obtain⟨o,e,_⟩:=T.obj _ _ st2 b hb
  exact⟨o,yad _ e⟩
 have kp4:∀b o,(s2.heap.push { cls:=.type "list", data:=.seq ([]:List Value).toArray }).get? b=some o->h4.get? b=some o:=λb o e=>
  hsb4.extBut b o (λz=>ybb _ (z▸yal e)) (yad _ e)
 have I4:=I3.block (fp:=fp) (h':=h4) (tk:=s2.toks+([]:List (Str×Value)).length) B hf3 ho3 hns4 kp4
 generalize hs3:({ s2 with heap:=s2.heap.push { cls:=.type "list", data:=.seq ([]:List Value).toArray },toks:=s2.toks }:Shared)=s3 at *
 obtain⟨hg,ht,he⟩:=hb fp s3 (upd H2 s2.heap.objs.size (.lst []))
 have st4:tn 0 h4:=T.keep _ _ _ st2 λb hb o e=>kp4 b o (yad _ e)
 have stat:∀{H':Hp},(∀b∈fp,H' b=none)->∀b∈fp,FpOk (blk X N' scope fp s3 (upd H2 s2.heap.objs.size (.lst []))) [] H' b:=λ{H'} hn b hb=>by
  obtain⟨f0,f1,f3,f4,f5,f6⟩:=hf3 b hb
  obtain⟨g1,g2⟩:=I4.ok.exf b hb
  exact⟨hn b hb,g1,I4.ok.exfs b hb,.inl hb,g2,λp hp=>f6 p ((yai.mp hp).elim (λz=>yak _ z) λz=>absurd z (by simp))⟩
 have loop:codeAny (model X.prog X.w) X.A (.compLoop (.ListComp elt [⟨tg,iter,ifs,0⟩] scope pos) 0 (.ref it) (.ref s2.heap.objs.size) (compEnvC scope (clOf X.env scope.names []) s3.heap.objs.size X.env))
   (compPost (model X.prog X.w) X.A X.xe (some (assign (.Name y py) X.env)) (λ_ s'=>SP X pins DD .next s') (.ref s2.heap.objs.size) s3.heap.objs.size) { s3 with heap:=h4,toks:=s2.toks+([]:List (Str×Value)).length }:=by
  refine blk_loop (X:=blk X N' scope fp s3 (upd H2 s2.heap.objs.size (.lst []))) (D:=s2.heap.objs.size) (Q:=λv H'=>DD.nx (σ.set i (some v)) H') (W:=W) (m0:=m0) rfl hc T stat hg ht he turn I4 st4 (λb hb=>(hf3 b hb).1) w0 ?_
  intro H' s' I' q
  obtain⟨m,hn,_⟩:=I'.loc
  have hCn:s3.heap.get? s3.heap.objs.size=none:=by
   cases e:s3.heap.get? s3.heap.objs.size with
   |none=>rfl
   |some o=>exact absurd (yal e) (ybb _)
  have J:∀h'':Heap,(∀b o,b≠s3.heap.objs.size->s'.heap.get? b=some o->h''.get? b=some o)->Inv X pins σ H' { s' with heap:=h'' }:=λh'' hk=>by
   have u:Un (frs X.stack) fp (upd H2 s2.heap.objs.size (.lst [])) H' s3.heap h'':=Un.tail I'.base hk hCn
   refine I3.call' (s':={ s' with heap:=h'' }) (ch:=fp) I'.os u (I'.hok.tail hk I'.free) I'.bare λb hb=>?_
   obtain⟨f0,f1,f3,f4,f5,f6⟩:=hf3 b hb
   exact⟨f4,f1,f5,f6⟩
  have J1:Inv X pins σ H' s':=J s'.heap λ_ _ _ e=>e
  obtain⟨oC,es,ep,hoC,hdC,rC⟩:=hn
  have hCf:H' s3.heap.objs.size=none:=I'.free
  have hCL:s3.heap.objs.size≠X.env.locals:=Ne.symm (yax I3.lt)
  have hCfs:=I3.nofs (yap _)
  have J2:Inv X (pins++[(s3.heap.objs.size,oC)]) σ H' s':=J1.pins_of λp hp=>by
   rcases yai.mp hp with z|z
   ·exact J1.pin p (yaj _ z)
   ·rw[yae.mp z]
    exact⟨hoC,hCf,hCL,hCfs,λv e=>by rw[hdC]at e;cases e⟩
  show wpAny _ X.A (assign (.Name y py) X.env (.ref s2.heap.objs.size)) _ _ _
  refine wpAny_assign_Name (store_ok J2 hN hi' hy (v:=.ref s2.heap.objs.size) rfl (λs5 I5=>?_) hfn)
  have hC5:=(I5.pin (s3.heap.objs.size,oC) (yaj _ (yaj _ (yae.mpr rfl)))).1
  refine⟨m,⟨oC,es,ep,hC5,hdC,rC⟩,λh'' hs''=>?_⟩
  have I6:Inv X pins (σ.set i (some (.ref s2.heap.objs.size))) H' s5:=I5.pins_of λp hp=>I5.pin p (yaj _ (yak _ hp))
  refine⟨_,H',I6.turned (t':=s5.toks) (it:=s3.heap.objs.size) (λb o hb e=>hs''.extBut b o hb e) hCf hCL (.inr I3.sz) (λx c e z=>?_) (λp hp z=>?_),q⟩
  ·obtain⟨v,o,ho,_⟩:=I3.cell x c e
   rw[z]at ho
   exact absurd (yal ho) (ybb _)
  ·have z':=(I3.pin p hp).1
   rw[z]at z'
   exact absurd (yal z') (ybb _)
 subst hs3
 exact codeAny_compStart_list loop (T.self X.A 0 _ _ _ st4 loop)
end
section
variable{prog:Program}{w:World}{K:Type} [DecidableEq K]{knd:KeyKind prog w K}{A:Around}{E:Vs}{s:Shared}
end
section
variable{X:Cx}
def rEqDict(K:Wf):R2:=λx y H Q=>∃p q kvs,x=.ref p/\y=.ref q/\H p=some (.dK kvs)/\H q=some (.dK kvs)/\(∀kv∈kvs,∃d,Rep K H d kv.2/\dep d<=20)/\Q (.bl true) H
noncomputable def rDictOf:List V->Hp->VK->Prop:=λxs H Q=>∃p kvs,xs=[.ref p]/\H p=some (.dK kvs)/\∀q,H q=none->Q (.ref q) (upd H q (.dK kvs))
noncomputable def cntV(x:V)(xs:List V):Nat:=xs.countP λy=>eqV y x
noncomputable def rCount(K:Wf):V->List V->Hp->VK->Prop:=λx vs H Q=>∃p xs y,x=.ref p/\vs=[y]/\SqL K H p xs/\flatV y=true/\xs.all flatV=true/\Q (.int (cntV y xs:Nat)) H
theorem count_eqU:∀{xs:List V}{us:List Value},Vals xs us->xs.all flatV=true->us.countP (eqU x)=xs.countP λy=>eqV y x
 |_,_,.nil,_=>rfl
 |y::xs,u::us,.cons r t,f=>by
  rw[List.all_cons,ya2]at f
  rw[List.countP_cons,List.countP_cons,eqU_of r f.1,count_eqU t f.2]
theorem mt_count:MtM X "list.count" (rCount X.K):=by
 intro pins s σ H x vs v us Q I rx rv h
 obtain⟨p,xs,y,rfl,rfl,hq,fy,fs,q⟩:=h
 cases rx
 obtain⟨u,rfl,ru⟩:=rv.one
 obtain⟨its,r,pl,hz⟩:=I.list hq
 obtain⟨⟨cls,dd,data,sl⟩,ho,hc,n,hd⟩:=id pl.isList
 simp only at hc hd
 subst hc hd
 refine call_meets PySem.F.slot_list_count ⟨_,ho,rfl⟩ PySem.F.entry_list_count (PySem.F.args_list_count_2 _ _) (SeqAt.list_countAt p its.toArray n dd sl u (eqU y)) ⟨ho,λw hw=>mem_eqAt ru fy r fs w (by simpa using hw),?_⟩
 show EP X pins σ Q (Value.int ((its.toArray.toList.countP (eqU y):Nat):Int) s.toks) _
 rw[show its.toArray.toList=its by simp,count_eqU r fs]
 exact⟨V.int (cntV y xs:Nat),H,I.tok _,⟨s.toks,rfl⟩,q⟩
theorem mt_countK{K:Wf}(e:X.K=K):MtM X "list.count" (rCount K):=e▸mt_count
end
section
variable{M:Model}{A:Around}{E:Vs}{s:Shared}
end
section
variable{prog:Program}{w:World}{A:Around}{R:Result->Shared->Prop}{s:Shared}
end
section
variable{X:Cx}
def tCompX(E:XK)(k:Nat)(fm:List Nat)(wi:TI)(g:TG)(tt:TT)(te:TEX):TE:=λσ H Q=>wi σ H λJ H1=>∀D,H1 D=none->∃W:Nat->Nat->List V->Hp->Prop,
 (∃m,W 0 m [] (upd H1 D (.lst [])))/\∀i m ys H2,W i m ys H2->H2 D=some (.lst ys)/\ys.length<sizeLine/\((J.stop i H2/\Q (.ref D) H2)\/(J.go i H2/\∃N:List V->Hp->Prop,(∀ys' H',N ys' H'->∃m',m'<m/\W (i+1) m' ys' H')/\∀x H3,J.yld i H2 x H3->
  g x (blkSt k fm σ) H3 λσ3 H4=>Ext (blkSt k fm σ) σ3/\tt σ3 H4 λb H5=>if b=true then te σ3 H5 (λy H6=>H6 D=some (.lst ys)/\N (ys++[y]) (upd H6 D (.lst (ys++[y])))) E else N ys H5))
end
def CompWX(E:XK)(g:TG)(tt:TT)(te:TEX)(σ0:St)(Q:VK)(J:It)(H1:Hp):Prop:=∀DD,H1 DD=none->∃W:Nat->Nat->List V->Hp->Prop,
 (∃m,W 0 m [] (upd H1 DD (.lst [])))/\∀i m ys H2,W i m ys H2->H2 DD=some (.lst ys)/\ys.length<sizeLine/\((J.stop i H2/\Q (.ref DD) H2)\/(J.go i H2/\∃N:List V->Hp->Prop,(∀ys' H',N ys' H'->∃m',m'<m/\W (i+1) m' ys' H')/\∀x H3,J.yld i H2 x H3->
  g x σ0 H3 λσ3 H4=>Ext σ0 σ3/\tt σ3 H4 λb H5=>if b=true then te σ3 H5 (λy H6=>H6 DD=some (.lst ys)/\N (ys++[y]) (upd H6 DD (.lst (ys++[y])))) E else N ys H5))
def CompLX(K:Wf)(E:XK)(g:TG)(tt:TT)(te:TEX)(σ0:St)(Q:VK):VK:=λx H1=>∃a,x=.ref a/\(∃xs,SqL K H1 a xs)/\CompWX E g tt te σ0 Q (Itl K a) H1
section
variable{K:Wf}{k:Nat}{fm:List Nat}{tl:TE}{te:TEX}{g:TG}{tt:TT}{σ σ0:St}{H H1:Hp}{Q:VK}{E:XK}
theorem tCompX_list:tCompX E k fm (iList K tl) g tt te σ H Q=tl σ H (CompLX K E g tt te (blkSt k fm σ) Q):=rfl
end
section
variable{M:Model}{A:Around}{E:Vs}{s:Shared}
end
section
variable{X:Cx}
end
def leS(a b:Str):Prop:=a.cps.toList<=b.cps.toList
theorem leS_trans(x:leS a b)(y:leS b c):leS a c:=List.le_trans x y
theorem leS_anti(x:leS a b)(y:leS b a):a=b:=by
 have e:=List.le_antisymm x y
 cases a;cases b;congr 1;exact Array.toList_inj.mp e
theorem rising_pw:∀{l:List Str}{p:Str},risingS p l=true->(p::l).Pairwise leS
 |[],p,_=>List.pairwise_singleton ..
 |x::r,p,h=>by
  rw[risingS,ya2,ltCps_eq]at h
  have px:leS p x:=by
   have z:=h.1
   rw[Bool.not_eq_true',decide_eq_false_iff_not]at z
   exact z
  have ih:=rising_pw h.2
  refine List.Pairwise.cons (λy hy=>?_) ih
  rcases yau.mp hy with rfl|hy
  ·exact px
  ·exact leS_trans px ((List.pairwise_cons.mp ih).1 y hy)
theorem sorted_pw:∀{l:List Str},sortedS l=true->l.Pairwise leS
 |[],_=>.nil
 |_::_,h=>rising_pw h
theorem txs_of:∀{ss:List Str}{us:List Value},Vals (ss.map V.str) us->StrsAre us ss
 |[],[],.nil=>.nil
 |x::ss,u::us,.cons r t=>by
  obtain⟨k,rfl⟩:=r
  exact .cons x k (txs_of t)
theorem of_strs:∀{ss:List Str}{us:List Value},StrsAre us ss->Vals (ss.map V.str) us
 |_,_,.nil=>.nil
 |_,_,.cons x k t=>.cons ⟨k,rfl⟩ (of_strs t)
theorem strs_ix:∀{us:List Value}{ss:List Str},us.length=ss.length->(∀(j:Nat) (v:Value),us[j]?=some v->∃y k,ss[j]?=some y/\v=Value.str y k)->StrsAre us ss
 |[],[],_,_=>.nil
 |u::us,s::ss,hl,h=>by
  obtain⟨y,k,e,rfl⟩:=h 0 u rfl
  cases e
  exact .cons _ k (strs_ix (by simpa using hl) λj v hv=>by simpa using h (j+1) v (by simpa using hv))
theorem StrsAre_len:∀{us:List Value}{ss:List Str},StrsAre us ss->us.length=ss.length
 |_,_,.nil=>rfl
 |_,_,.cons _ _ t=>by rw[ya7,ya7,StrsAre_len t]
theorem sorted_by 
  (hc:wpAny (model prog w) A.in1 (collect a) (λvs s1=>∃ss:List Str,StrsAre vs ss/\vs.length<64/\
   ∀(h':Heap) (out:List Value) (ss':List Str) (D:Addr) (e:Nat),(∀b o,s1.heap.get? b=some o->h'.get? b=some o)->s1.heap.objs.size<=D->h'.get? D=some (seqObj "list" out.toArray e)->
    StrsAre out ss'->ss'.Perm ss->ss'.Pairwise leS->Q (.ref D) { s1 with heap:=h' }) E s):
  wpAny (model prog w) A (call (.builtin "sorted") [a]) Q E s:=by
 refine Calls.call_function_entry kind_sorted plain_sorted entry_sorted (args_sorted1 _) ?_
 unfold Builtin.«sorted»
 refine yab (m:=checkCount "sorted" 1 1 _) (yaf ?_)
 refine yab (ybk hc (λvs s1 hv=>?_) λ_ _ z=>z)
 obtain⟨ss,S,hz,q⟩:=hv
 refine yab (wpAny_newList ?_ (by rw[sizeLine_eq];omega))
 have hoL:(s1.heap.push (seqObj "list" vs.toArray 0)).get? s1.heap.objs.size=some (seqObj "list" vs.toArray 0):=yaq _ rfl
 refine yab (ybo (yb8 slot_list_sort ⟨_,hoL,rfl⟩ entry_list_sort
  (list_sort_treeK strKind_oneLt hoL S.keysOf (λv₁ v₂ rest z=>keyKind_strs (by rw[<-z];exact S)) hz λst a1 a2=>⟨_,rfl,?_⟩) (args_list_sort _)))
 obtain⟨ss',t1,t2,t3⟩:=sorted_out_str S a1 a2
 obtain⟨e,he⟩:=sortedHeap_at (out:=(arrOf st).map (·.2)) hoL
 refine yaf ⟨_,rfl,q _ ((arrOf st).map (·.2)).toList ss' s1.heap.objs.size e (λb o z=>?_) (yap _) (by rw[Array.toArray_toList];exact he) t1 t2 (sorted_pw t3)⟩
 have lt:=yal z
 rw[sortedHeap_old (yax lt) (by rw[size_push'];exact yb6 lt)]
 exact yad _ z
section
variable{X:Cx}
noncomputable def rSorted(K:Wf):List V->Hp->VK->Prop:=λxs H Q=>∃(p:Addr) (ss:List Str),xs=[.ref p]/\SqL K H p (ss.map V.str)/\ss.length<64/\∀(l:Addr) (ss':List Str),H l=none->ss'.Perm ss->ss'.Pairwise leS->Q (.ref l) (upd H l (.lst (ss'.map V.str)))
theorem call_sorted:CallR X (.builtin "sorted") (rSorted X.K):=by
 intro pins s σ H xs us Q I r h
 obtain⟨p,ss,rfl,hq,hz,q⟩:=h
 obtain⟨u,rfl,rx⟩:=vals1 r
 cases rx
 obtain⟨its,r',pl,_⟩:=I.list hq
 have S:StrsAre its ss:=txs_of r'
 refine sorted_strs pl.isList S (by rw[StrsAre_len S];exact hz) λout ss' a1 a2 a3=>?_
 obtain⟨e,he⟩:=sortedAll_at s.heap its out
 refine⟨.ref (s.heap.objs.size+1),_,I.laid (a:=s.heap.objs.size+1) (o:=.lst (ss'.map V.str)) (t':=s.toks) (λb o=>sortedAll_old) (yb7 _) ⟨?_,out.toList,e,of_strs a1,by simpa using he⟩,rfl,q _ ss' (I.hok.fresh (Nat.le_succ _)) a2 (sorted_pw a3)⟩
 rw[yaa,a2.length_eq,sizeLine_eq];omega
noncomputable def rSortedD:List V->Hp->VK->Prop:=λxs H Q=>∃p kvs,∃ss:List Str,xs=[.ref p]/\H p=some (.dK kvs)/\kvs.map (·.1)=ss.map Sum.inr/\ss.length<64/\∀(l:Addr) (ss':List Str),H l=none->ss'.Perm ss->ss'.Pairwise leS->Q (.ref l) (upd H l (.lst (ss'.map V.str)))
theorem kv_keys{kvs:List (Key×V)}{vs:List (Key×Value)}(r:KV kvs vs):kvs.map (·.1)=vs.map (·.1):=by
 unfold KV at r
 induction r with
 |nil=>rfl
 |cons h _ ih=>rw[ybg,ybg,h.1,ih]
theorem call_sortedD(hc:X.calm=true):CallR X (.builtin "sorted") rSortedD:=by
 intro pins s σ H xs us Q I r h
 obtain⟨p,kvs,ss,rfl,hq,hk,hz,q⟩:=h
 obtain⟨u,rfl,rx⟩:=vals1 r
 cases rx
 obtain⟨z,hS,vs,rel,dd⟩:=dk_of I.hok hq
 obtain⟨ep,da⟩:=dd.dictAt
 have hh:X.A.in1.handled=none:=by simp[I.ok.hd hc]
 have hkeys:vs.map (·.1)=ss.map Sum.inr:=(kv_keys rel).symm.trans hk
 have hlen:vs.length=ss.length:=by have e:=congrArg List.length hkeys;simpa using e
 refine sorted_by (PySem.W.kdu_collect (PySem.W.kdl_dict hS) hh da (by rw[hlen,sizeLine_eq];omega) λh1 tk acc kp it=>?_)
 have hal:acc.toList.length=ss.length:=by rw[ybl,it.1,hlen]
 refine⟨ss,strs_ix hal (λj v hv=>?_),by rw[hal];exact hz,λh2 out ss' D e k2 hD hg S pm pw=>?_⟩
 ·rw[yc2]at hv
  obtain⟨k,x,e,hi⟩:=it.2 j v hv
  have e1:(vs.map (·.1))[j]?=some k:=by rw[ybd,e];rfl
  rw[hkeys,ybd]at e1
  cases hj:ss[j]? with
  |none=>rw[hj]at e1;cases e1
  |some y=>
   rw[hj]at e1;cases e1
   obtain⟨t,rfl⟩:=Value.isStrOf_shape (x:=y) (v:=v) hi
   exact⟨y,t,rfl,rfl⟩
 ·have I1:=I.kept (t':=tk) kp
  exact⟨.ref D,_,I1.laid (a:=D) (o:=.lst (ss'.map V.str)) (t':=tk) k2 hD ⟨by rw[yaa,pm.length_eq,sizeLine_eq];omega,out,e,of_strs S,by simpa using hg⟩,rfl,q _ ss' (I1.hok.fresh hD) pm pw⟩
theorem call_sortedK{K:Wf}(e:X.K=K):CallR X (.builtin "sorted") (rSorted K):=e▸call_sorted
theorem refs_of:∀{as:List Addr}{us:List Value},Vals (as.map V.ref) us->us=as.map Value.ref
 |[],[],.nil=>rfl
 |a::as,u::us,.cons r t=>by
  cases r
  rw[refs_of t];rfl
noncomputable def atD(g:Addr->D)(d:D):Value->Bool
 |.ref a=>deq (g a) d
 |_=>false
def rInD(K:Wf)(neg:Bool):R2:=λx y H Q=>∃(p:Addr) (as:List Addr) (g:Addr->D) (d:D),y=.ref p/\SqL K H p (as.map V.ref)/\(∀a∈as,Rep K H (g a) (.ref a)/\dep (g a)<=20)/\Rep K H d x/\Q (.bl (if neg then !(as.any λa=>deq (g a) d) else as.any λa=>deq (g a) d)) H
theorem any_atD(g:Addr->D)(d:D)(as:List Addr):(as.map Value.ref).toArray.any (atD g d)=as.any λa=>deq (g a) d:=by
 rw[List.any_toArray,ycw];rfl
theorem op_notInD(hu:X.A.units+64<cLine):OpR X (compareOp .NotIn) (rInD X.K true):=by
 intro pins s σ H x y v u Q I rx ry h
 obtain⟨p,as,g,d,rfl,hq,ha,hd,q⟩:=h
 cases ry
 obtain⟨its,r,pl,hz⟩:=I.list hq
 have e:=refs_of r
 subst e
 refine SeqAt.notIn_listAt (atD g d) pl.isList (λw hw=>?_) ⟨.bl _,H,I,rfl,by rw[any_atD];exact q⟩
 obtain⟨a,hm,rfl⟩:=yag.mp (by simpa using hw)
 exact eq_deep I (g a) d (.ref a) x (.ref a) v X.A.in1 (by have:=(ha a hm).2;show X.A.units+1+_<_;omega) (ha a hm).1 hd rfl rx
theorem op_notInDK{K:Wf}(hu:X.A.units+64<cLine)(e:X.K=K):OpR X (compareOp .NotIn) (rInD K true):=e▸op_notInD hu
end
end L2
namespace L2
open PySem
section
variable{prog:Program}{w:World}{A:Around}{E:Vs}{s:Shared}
set_option maxHeartbeats 3200000 in
set_option maxHeartbeats 3200000 in
set_option maxHeartbeats 3200000 in
end
section
open PyProof.Rows PySem.Spec
variable{X:Cx}
end
end L2
namespace L2
open PySem PySem.Spec PyProof.Rows
section
variable{X:Cx}{pins:Lo}{σ:List (Option V)}{H H':Hp}{s:Shared}{h':Heap}
end
section
variable{X:Cx}
end
section
variable{K:Wf}{k:Nat}{fm:List Nat}{te:TE}{ta:TA}{g:TG}{tt:TT}{σ σ0:St}{H H1:Hp}{Q:VK}
end
theorem PS.nox{X:Cx}{st:Stmt}{t:TS}(h:PS X.nox st t):PS X st t:=λpins s σ H D I hw=>
 ybk (h pins s σ H D (I.wish _) hw) (λ_ _ q=>q.unwish) λ_ _ q=>q.elim
section
variable{X:Cx}
end
section
variable{K:Wf}{te:TE}{ta:TA}{g:TG}{tb:TS}{D:Ends}{σ:St}{H:Hp}
end
section
variable{X:Cx}
end
section
variable{te:TE}{g:TG}{tb:TS}{D:Ends}{σ:St}{H:Hp}
end
section
variable{X:Cx}
end
section
variable{M:Model}{A:Around}{E:Vs}{s:Shared}{env:Env}
end
section
variable{prog:Program}{w:World}{A:Around}{E:Vs}{s:Shared}
end
section
variable{prog:Program}{w:World}{A:Around}{E:Vs}{s:Shared}
end
section
variable{prog:Program}{w:World}{A:Around}{E:Vs}{s:Shared}
end
section
variable{X:Cx}
end
section
variable{K:Wf}{te:TE}{ta:TA}{g:TG}{tb:TS}{D:Ends}{σ:St}{H:Hp}
end
section
variable{X:Cx}{o e:Expr}{ty:TE}{a:Addr}{kvs:List (Key×V)}{apos cpos:Pos}
end
section
variable{K:Wf}{te:TE}{g:TG}{tt:TT}{σ0:St}{H1:Hp}{Q:VK}
end
section
variable{M:Model}{A:Around}{E:Vs}{s:Shared}
end
section
variable{X:Cx}{tg:Expr}{E:XK}
end
end L2
namespace L2
open PySem
theorem orStandIn_led(t:SetTable)(n:Nat):(t.orStandIn n).led=t.led:=by
 unfold SetTable.orStandIn;split<;>rfl
theorem layNew_led(t:SetTable)(es:Array (Int×Value))(h:Int)(x:Value):(layNew t es h x).2.1.led=t.led:=by
 unfold layNew
 split
 ·rename_i slot wd _
  exact(orStandIn_led (t.put slot).1 _)
 ·rfl
theorem laid_led(h:SetTable.laid m f v b c hs=some (t',o)):t'.led=b/\t'.plain=c:=by
 unfold SetTable.laid at h
 cases hl:SetTable.layClean m hs with
 |none=>rw[hl]at h;cases h
 |some ow=>rw[hl]at h;cases h;exact⟨rfl,rfl⟩
theorem relay_led(t:SetTable)(es:Array (Int×Value))(n:Nat):(relayAll t es n).2.1.led=t.led/\((relayAll t es n).2.1.plain=true->t.plain=true):=by
 unfold relayAll
 split
 ·rename_i t' o hr
  have z:=laid_led hr
  dsimp only
  split
  ·exact⟨z.1,λq=>z.2▸q⟩
  ·exact⟨rfl,λq=>(nomatch q)⟩
 ·exact⟨rfl,λq=>(nomatch q)⟩
noncomputable def ByT(w:World):Bool:=w.params.followText "set-order"
noncomputable def txtOf:Value->Str
 |.str x _=>x
 |_=>Str.empty
def SetT(w:World)(h:Heap)(a:Addr)(L:List Str):Prop:=
 ∃(es:Array (Int×Value)) (ep:Nat) (t:SetTable),h.get? a=some { cls:=.type "set", dict:=none,data:=.set es ep t,slots:=#[] }/\
  (∀e∈es.toList,∃y k,e=(hashStr w y,Value.str y k))/\es.toList.map (λe=>txtOf e.2)=L/\es.size<scanBound/\t.fits es.size=true/\t.led = !ByT w/\(t.plain=true->L=[])
section
variable{prog:Program}{w:World}{A:Around}{E:Vs}{s:Shared}{a:Addr}{L:List Str}
theorem elems_of(h:∀e∈es,∃y k,e=(hashStr w y,Value.str y k)):ElemsOf (PySem.strKind prog w) es:=λe he=>by
 obtain⟨y,k,rfl⟩:=h e he
 exact⟨⟨y,by simp[PySem.strKind,Value.isStrOf],rfl⟩,rfl⟩
theorem mem_txt{es:List (Int×Value)}(h:∀e∈es,∃y k,e=(hashStr w y,Value.str y k))(x:Str):x∈es.map (λe=>txtOf e.2)↔∃e∈es,(PySem.strKind prog w).is x e.2=true:=by
 constructor
 ·intro hx
  obtain⟨e,he,rfl⟩:=yag.mp hx
  obtain⟨y,k,rfl⟩:=h e he
  exact⟨_,he,by simp[PySem.strKind,Value.isStrOf,txtOf]⟩
 ·rintro⟨e,he,hi⟩
  obtain⟨y,k,rfl⟩:=h e he
  obtain⟨t,z⟩:=Value.isStrOf_shape (x:=x) (v:=Value.str y k) hi
  cases z
  exact yag.mpr ⟨_,he,rfl⟩
theorem setT_add(S:SetT w s.heap a L)(hz:L.length+1<scanBound)
  (h:∀h' L' b,Heap.SameBut a s.heap h'->SetT w h' a L'->L'.Perm (if x∈L then L else L++[x])->Q b { s with heap:=h' }):
  wpAny (model prog w) A (setAddHashed a (.str x k) (hashStr w x)) Q E s:=by
 obtain⟨es,ep,t,ho,he,hL,hb,hf,hl,hp⟩:=id S
 have hel:=elems_of (prog:=prog) he
 have hx:(PySem.strKind prog w).is x (.str x k)=true:=by simp[PySem.strKind,Value.isStrOf]
 have hn:es.size=L.length:=by rw[<-hL,yaa,ybl]
 unfold setAddHashed setAddHashedIn
 refine ybo (yab (yby ho rfl hf ?_));dsimp only
 rw[byScan_of (knd:=PySem.strKind prog w) rfl hb hel,if_pos rfl]
 unfold setAddByScan
 refine yab (yab (yc5 (yab (wpAny_setScan_of (knd:=PySem.strKind prog w) (k:=x) hx ho rfl hf hel ?_))))
 have gw:∀(b:Bool) {s1:Shared}{Q':Unit->Shared->Prop},Q' () s1->wpAny (model prog w) A (match b with | true=>rule "set.scan.the-table-gave-way" |false=>pure ()) Q' E s1:=λb s1 Q' q=>by
  cases b
  ·exact yaf q
  ·exact yc5 q
 cases hr:List.findIdx? (λe=>(PySem.strKind prog w).is x e.2) es.toList with
 |some j=>
  dsimp only
  have hm:x∈L:=by
   obtain⟨hj,pj,_⟩:=List.findIdx?_eq_some_iff_getElem.mp hr
   rw[<-hL];exact(mem_txt he x).mpr ⟨_,ybr hj,pj⟩
  exact yaf (yaf (h s.heap L _ (Heap.SameBut.refl a s.heap) S (by rw[if_pos hm])))
 |none=>
  dsimp only
  have hm:x∉L:=λhm=>by
   rw[<-hL]at hm
   obtain⟨e,m,z⟩:=(mem_txt (prog:=prog) he x).mp hm
   have:=List.findIdx?_eq_none_iff.mp hr e m
   rw[z]at this;cases this
  have lp:=layNew_perm t es (hashStr w x) (.str x k)
  have lf:=layNew_fits t es (hashStr w x) (.str x k)
  have ll:=layNew_led t es (hashStr w x) (.str x k)
  generalize layNew t es (hashStr w x) (.str x k)=R at lp lf ll ⊢
  obtain⟨e1,t1,wd,gv⟩:=R
  dsimp only at lp lf ll ⊢
  rw[Array.toList_push]at lp
  refine yab (gw _ ?_)
  have he1:∀e∈e1.toList,∃y k,e=(hashStr w y,Value.str y k):=λe m=>by
   rcases yai.mp (lp.mem_iff.mp m) with m|m
   ·exact he e m
   ·exact⟨x,k,yae.mp m⟩
  have hp1:(e1.toList.map (λe=>txtOf e.2)).Perm (if x∈L then L else L++[x]):=by
   rw[if_neg hm,<-hL]
   have z:=lp.map (λe=>txtOf e.2)
   rw[yac]at z
   exact z
  have hs1:e1.size=L.length+1:=by
   rw[<-ybl,lp.length_eq,yah,ybl,hn];rfl
  have hb1:e1.size<scanBound:=by rw[hs1];exact hz
  have tail:∀t2:SetTable,t2.fits e1.size=true->t2.led=(!ByT w)->t2.plain=false->
    wpAny (model prog w) A (do
     storeSet a e1 t2
     if (!wd&&t2.tooFull)=true then do
       (match (relayAll t2 e1 (SetTable.grown e1.size)).2.2 with | true=>rule "set.scan.the-table-gave-way" |false=>pure ())
       storeSet a (relayAll t2 e1 (SetTable.grown e1.size)).1 (relayAll t2 e1 (SetTable.grown e1.size)).2.1
       pure (some true)
      else pure (some true)) (λ(r:Option Bool) s'=>wpAny (model prog w) A (match r with | some b=>pure b | none=>setAddHashedIn a (.str x k) (hashStr w x) 99999) Q E s') E s:=by
   intro t2 f2 l2 p2
   have u1:=(SetOf_store (knd:=PySem.strKind prog w) (S':=λy=>decide (y∈e1.toList.map (λe=>txtOf e.2))) (h:=s.heap) ho ⟨rfl,rfl,rfl⟩ rfl (elems_of he1) (λy=>by rw[decide_eq_true_eq];exact mem_txt he1 y) hb1 f2).1
   have sb1:=Heap.SameBut.update s.heap a (Obj.putSet e1 t2)
   refine yab (wpAny_storeSet_of ho rfl ?_ (fits_of_scanBound hb1))
   have S1:SetT w (s.heap.update a (Obj.putSet e1 t2)) a (e1.toList.map (λe=>txtOf e.2)):=⟨e1,ep+1,t2,u1,he1,rfl,hb1,f2,l2,λq=>by rw[p2]at q;cases q⟩
   split
   ·have rp:=relayAll_perm t2 e1 (SetTable.grown e1.size)
    have rf:=relayAll_fits t2 e1 (SetTable.grown e1.size)
    have rl:=relay_led t2 e1 (SetTable.grown e1.size)
    generalize relayAll t2 e1 (SetTable.grown e1.size)=R at rp rf rl ⊢
    obtain⟨e2,t3,g2⟩:=R
    dsimp only at rp rf rl ⊢
    have he2:∀e∈e2.toList,∃y k,e=(hashStr w y,Value.str y k):=λe m=>he1 e (rp.mem_iff.mp m)
    have hs2:e2.size=e1.size:=by rw[<-ybl,rp.length_eq,ybl]
    have hb2:e2.size<scanBound:=by rw[hs2];exact hb1
    refine yab (gw _ ?_)
    refine yab (wpAny_storeSet_of u1 rfl ?_ (fits_of_scanBound hb2))
    have u2:=(SetOf_store (knd:=PySem.strKind prog w) (S':=λy=>decide (y∈e2.toList.map (λe=>txtOf e.2))) u1 ⟨rfl,rfl,rfl⟩ rfl (elems_of he2) (λy=>by rw[decide_eq_true_eq];exact mem_txt he2 y) hb2 rf).1
    refine yaf (yaf (h _ (e2.toList.map (λe=>txtOf e.2)) _ (sb1.trans (Heap.SameBut.update _ a _)) ⟨e2,_,t3,u2,he2,rfl,hb2,rf,rl.1.trans l2,λq=>?_⟩ ((rp.map _).trans hp1)))
    rw[rl.2 q]at p2;cases p2
   ·exact yaf (yaf (h _ _ _ sb1 S1 hp1))
  rw[hl]at ll
  cases pl:t1.plain with
  |true=>
   rw[if_pos rfl]
   refine yab (wpAny_of_eq (hashByValue_scannable 8 rfl) ?_)
   exact tail { t1 with plain:=false } (SetTable.fits_plain_off lf) ll rfl
  |false=>
   rw[if_neg (by simp)]
   refine yab (yaf ?_)
   exact tail t1 lf ll pl
end
end L2
namespace L2
open PySem
theorem zz26:Slot "set_iterator" "__next__" "set_iterator.__next__" := .of (owner := "set_iterator") (n := "__next__") (by rw[typeLookup_type,builtinLookup_eq_fast];kernel_rfl) (by decide +kernel) (by decide +kernel) (by decide +kernel) (by first|exact .inl (by decide +kernel)|exact .inr (by decide +kernel)) (by rw[isSubtype_type];kernel_rfl)
theorem entry_si_next:entryFor table "set_iterator.__next__" = some Builtin.«set_iterator.__next__»:=entryFor_of_tree (by kernel_rfl)
theorem args_si_next(a:Value):argsOk "set_iterator.__next__" ⟨[a],[]⟩:=by unfold argsOk;kernel_rfl
theorem entry_s_iter:entryFor table "set.__iter__" = some Builtin.«frozenset.__iter__»:=entryFor_alias (id' := "frozenset.__iter__") (by kernel_rfl) rfl (by decide +kernel) (by kernel_rfl)
noncomputable def siO(f:Value)(i:Nat)(a:Value)(n ep:Nat):Obj:={ cls:=.type "set_iterator", data:=.fields #[f,.int i 0,a,.int n 0,.int ep 0] }
section
variable{prog:Program}{w:World}{A:Around}{E:Vs}{s:Shared}{it a:Addr}{i n ep slot next:Nat}{es:Array (Int×Value)}{t:SetTable}{Q:Option Value->Shared->Prop}{x:Value}
theorem next_some(ho:s.heap.get? it=some (siO (.int slot 0) i (.ref a) n ep))(hs:s.heap.get? a=some { cls:=.type "set", dict:=none,data:=.set es ep t,slots:=#[] })(hf:t.fits es.size=true)(hn:es.size=n)
  (hx:∀(A:Around) (E:Vs) (Q':Option (Value×Nat)->Shared->Prop),Q' (some (x,next)) s->wpAny (model prog w) A (setNext a slot i ep) Q' E s)
  (hQ:∀h',h'.get? it=some (siO (.int next 0) (i+1) (.ref a) n ep)->Heap.SameBut it s.heap h'->Q (some x) { s with heap:=h' }):wpAny (model prog w) A (pyNext (.ref it)) Q E s:=by
 have hT:s.TypeIs (.ref it) "set_iterator" := ⟨_,ho,rfl⟩
 unfold pyNext
 refine yab (ycl (ycc (name:=Str.ofString "__next__") hT zz26 (yb8 zz26 hT entry_si_next ?_ (args_si_next _))))
 unfold Builtin.«set_iterator.__next__»
 refine yab (yaf (yab (wpAny_fieldsOf ho rfl ?_)));dsimp only
 refine yab (ycr hs rfl hf ?_)
 rw[if_neg (by rw[hn];simp)]
 refine yab (hx _ _ _ ?_)
 dsimp only
 have u1:(s.heap.update it (Obj.mapFields (·.setIfInBounds 0 (rawInt next)))).get? it=some (siO (.int next 0) i (.ref a) n ep):=ybf (Obj.mapFields (·.setIfInBounds 0 (rawInt next))) ho rfl
 refine yab (yce ho rfl (by simp) (wpAny_bind (wpAny_setField (s:={ s with heap:=s.heap.update it (Obj.mapFields (·.setIfInBounds 0 (rawInt next))) }) u1 rfl (by simp) (wpAny_pure ⟨x,rfl,wpAny_pure (hQ _ ?_ ((Heap.SameBut.update ..).trans (Heap.SameBut.update ..)))⟩))))
 exact ybf (Obj.mapFields (·.setIfInBounds 1 (rawInt ((i:Int)+1)))) u1 rfl
theorem stop_end(hh:A.handled=none){h0:Heap}(hQ:∀h',Heap.ExtBut it h0 h'->Q none { s with heap:=h' }):
  wpAny (model prog w) A.in1 (do let e <-newExc (Value.type "StopIteration") [];raiseNew e) (λ(fin:PySem.Fin) s'=>∃v,fin=Fin.done (Flow.ret v)/\wpAny (model prog w) A (pure (some v)) Q E s')
  (λe s'=>wpAny (model prog w) A (do let b <-isInstance e (Value.type "StopIteration");if b=true then pure none else throw e) Q E s') { s with heap:=h0 }:=by
 refine yab ?_
 simp only[newExc,newTuple]
 refine yab (ybn ?_ (by size_fits))
 refine yab (m:=firstArgMember _ _) (wpAny_of_eq (a:=Value.none) (by first|rfl|(simp only[firstArgMember];rfl)) (wpAny_newObj_type ?_ (by size_fits)))
 simp only[raiseNew]
 refine yab (wpAny_handled ?_)
 rw[show A.in1.handled=none from hh]
 refine yab (yaf (wpAny_throw ?_))
 refine yab (wpAny_isInstance (T := "StopIteration") ⟨_,yaq _ rfl,rfl⟩ isSubtype_stop ?_);rw[if_pos rfl]
 refine yaf (hQ _ λb o hb e=>?_)
 exact yad _ (yad _ e)
theorem next_none(hh:A.handled=none)(ho:s.heap.get? it=some (siO (.int slot 0) i (.ref a) n ep))(hs:s.heap.get? a=some { cls:=.type "set", dict:=none,data:=.set es ep t,slots:=#[] })(hf:t.fits es.size=true)(hn:es.size=n)
  (hx:∀(A:Around) (E:Vs) (Q':Option (Value×Nat)->Shared->Prop),Q' none s->wpAny (model prog w) A (setNext a slot i ep) Q' E s)
  (hQ:∀h',Heap.ExtBut it s.heap h'->Q none { s with heap:=h' }):wpAny (model prog w) A (pyNext (.ref it)) Q E s:=by
 have hT:s.TypeIs (.ref it) "set_iterator" := ⟨_,ho,rfl⟩
 unfold pyNext
 refine yab (ycl (ycc (name:=Str.ofString "__next__") hT zz26 (yb8 zz26 hT entry_si_next ?_ (args_si_next _))))
 unfold Builtin.«set_iterator.__next__»
 refine yab (yaf (yab (wpAny_fieldsOf ho rfl ?_)));dsimp only
 refine yab (ycr hs rfl hf ?_)
 rw[if_neg (by rw[hn];simp)]
 refine yab (hx _ _ _ ?_)
 dsimp only
 refine yab (yce ho rfl (by simp) ?_)
 exact stop_end hh λh' e=>hQ h' λb o hb z=>e b o hb (((Heap.SameBut.update s.heap it _).2 b hb).trans z)
theorem next_drawn{p:Addr}{ps:List Nat}{j:Nat}{hv:Int}(ho:s.heap.get? it=some (siO (.ref p) i (.ref a) n ep))(hs:s.heap.get? a=some { cls:=.type "set", dict:=none,data:=.set es ep t,slots:=#[] })(hf:t.fits es.size=true)(hn:es.size=n)
  (hp:s.heap.get? p=some { cls:=.type "tuple", data:=.seq (List.toArray (ps.map λj=>rawInt (j:Nat))) 0 }) (hj:ps[i]?=some j) (hx:es[j]?=some (hv,x))
  (hQ:∀h',h'.get? it=some (siO (.ref p) (i+1) (.ref a) n ep)->Heap.SameBut it s.heap h'->Q (some x) { s with heap:=h' }):wpAny (model prog w) A (pyNext (.ref it)) Q E s:=by
 have hT:s.TypeIs (.ref it) "set_iterator" := ⟨_,ho,rfl⟩
 unfold pyNext
 refine yab (ycl (ycc (name:=Str.ofString "__next__") hT zz26 (yb8 zz26 hT entry_si_next ?_ (args_si_next _))))
 unfold Builtin.«set_iterator.__next__»
 refine yab (yaf (yab (wpAny_fieldsOf ho rfl ?_)));dsimp only
 refine yab (ycr hs rfl hf ?_)
 rw[if_neg (by rw[hn];simp)]
 refine yab (wpAny_seqItems hp rfl ?_)
 have e1:(List.map (λj=>rawInt (j:Nat)) ps).toArray[(i:Int).toNat]?=some (.int (j:Nat) 0):=by
  rw[yco,yc1,ybd,hj];rfl
 dsimp only
 rw[e1];dsimp only
 unfold setNextDrawn
 refine yab (yab (yby hs rfl hf ?_));dsimp only
 rw[yco,yco,if_neg (by simp),hx]
 refine yaf ?_
 refine yab (yce ho rfl (by simp) (wpAny_pure ⟨x,rfl,wpAny_pure (hQ _ ?_ (Heap.SameBut.update ..))⟩))
 exact ybf (Obj.mapFields (·.setIfInBounds 1 (rawInt ((i:Int)+1)))) ho rfl
theorem next_drawn_end(hh:A.handled=none){p:Addr}{ps:List Nat}(ho:s.heap.get? it=some (siO (.ref p) i (.ref a) n ep))(hs:s.heap.get? a=some { cls:=.type "set", dict:=none,data:=.set es ep t,slots:=#[] })(hf:t.fits es.size=true)(hn:es.size=n)
  (hp:s.heap.get? p=some { cls:=.type "tuple", data:=.seq (List.toArray (ps.map λj=>rawInt (j:Nat))) 0 }) (hj:ps[i]?=none)
  (hQ:∀h',Heap.ExtBut it s.heap h'->Q none { s with heap:=h' }):wpAny (model prog w) A (pyNext (.ref it)) Q E s:=by
 have hT:s.TypeIs (.ref it) "set_iterator" := ⟨_,ho,rfl⟩
 unfold pyNext
 refine yab (ycl (ycc (name:=Str.ofString "__next__") hT zz26 (yb8 zz26 hT entry_si_next ?_ (args_si_next _))))
 unfold Builtin.«set_iterator.__next__»
 refine yab (yaf (yab (wpAny_fieldsOf ho rfl ?_)));dsimp only
 refine yab (ycr hs rfl hf ?_)
 rw[if_neg (by rw[hn];simp)]
 refine yab (wpAny_seqItems hp rfl ?_)
 have e1:(List.map (λj=>rawInt (j:Nat)) ps).toArray[(i:Int).toNat]?=none:=by
  rw[yco,yc1,ybd,hj];rfl
 dsimp only
 rw[e1];dsimp only
 have u1:(s.heap.update it (Obj.mapFields (·.setIfInBounds 0 (rawInt 0)))).get? it=some (siO (.int 0 0) i (.ref a) n ep):=ybf (Obj.mapFields (·.setIfInBounds 0 (rawInt 0))) ho rfl
 refine yab (yce ho rfl (by simp) (wpAny_bind (wpAny_setField (s:={ s with heap:=s.heap.update it (Obj.mapFields (·.setIfInBounds 0 (rawInt 0))) }) u1 rfl (by simp) ?_)))
 exact stop_end hh λh' e=>hQ h' λb o hb z=>e b o hb ((((Heap.SameBut.update s.heap it _).trans (Heap.SameBut.update _ it _)).2 b hb).trans z)
end
end L2
namespace L2
open PySem
theorem slot_si_iter:Slot "set_iterator" "__iter__" "set_iterator.__iter__" := .of (owner := "set_iterator") (n := "__iter__") (by rw[typeLookup_type,builtinLookup_eq_fast];kernel_rfl) (by decide +kernel) (by decide +kernel) (by decide +kernel) (by first|exact .inl (by decide +kernel)|exact .inr (by decide +kernel)) (by rw[isSubtype_type];kernel_rfl)
theorem entry_si_iter:entryFor table "set_iterator.__iter__" = some Builtin.«dict_keyiterator.__iter__»:=entryFor_alias (id' := "dict_keyiterator.__iter__") (by kernel_rfl) rfl (by decide +kernel) (by kernel_rfl)
theorem args_si_iter(a:Value):argsOk "set_iterator.__iter__" ⟨[a],[]⟩:=by unfold argsOk;kernel_rfl
theorem erase_perm{α:Type}:∀{l:List α}{i:Nat}(h:i<l.length),(l[i]::l.eraseIdx i).Perm l
 |x::xs,0,_=>.rfl
 |x::xs,i+1,h=>(List.Perm.swap x _ _).trans ((erase_perm (l:=xs) (i:=i) (Nat.lt_of_succ_lt_succ h)).cons x)
theorem go_perm{α:Type}(next:Nat->Nat):∀(f k:Nat) (l:List α) (out:Array α),f=l.length->(pickOrder.go next f k l out).toList.Perm (out.toList++l)
 |0,k,l,out,h=>by
  rw[List.length_eq_zero_iff.mp h.symm,ybc]
  exact .rfl
 |f+1,k,l,out,h=>by
  have hl:next k % l.length<l.length:=Nat.mod_lt _ (by omega)
  unfold pickOrder.go
  rw[yar hl]
  dsimp only
  refine(go_perm next f (k+1) _ _ (by rw[List.length_eraseIdx_of_lt hl];omega)).trans ?_
  rw[Array.toList_push,ybp]
  exact List.Perm.append_left _ (erase_perm hl)
theorem pick_perm{α:Type}(next:Nat->Nat)(xs:Array α):(pickOrder next xs).toList.Perm xs.toList:=by
 have z:=go_perm next xs.size 0 xs.toList #[] (by rw[ybl])
 exact z
section
variable{prog:Program}{w:World}{A:Around}{E:Vs}{s:Shared}{I a:Addr}{n ep:Nat}{es:Array (Int×Value)}{t:SetTable}
theorem ite_no{α:Type}{c:Prop} [Decidable c]{x y:Sem α}{Q:α->Shared->Prop}(hc:¬c)(h:wpAny (model prog w) A y Q E s):wpAny (model prog w) A (if c then x else y) Q E s:=by
 rw[if_neg hc];exact h
theorem ite_yes{α:Type}{c:Prop} [Decidable c]{x y:Sem α}{Q:α->Shared->Prop}(hc:c)(h:wpAny (model prog w) A x Q E s):wpAny (model prog w) A (if c then x else y) Q E s:=by
 rw[if_pos hc];exact h
theorem wp_choose_any(h0:0<m)(h:∀i d,i<m->Q i { s with drawn:=d }):wpAny (model prog w) A (choose src m) Q E s:=λΓ p _=>by
 show Sem.wp _ _ (.choose src m .pure) _ _ _ _
 rw[Sem.wp_choose]
 refine⟨by omega,?_⟩
 show Sem.wp _ _ (pure _) _ _ _ _
 rw[Sem.wp_pure']
 exact h _ _ (Nat.mod_lt _ h0)
theorem draw_any{α:Type}:∀(m:Nat) (xs:List α) (s:Shared) {Q:List α->Shared->Prop},m=xs.length->(∀ys d,ys.Perm xs->Q ys { s with drawn:=d })->wpAny (model prog w) A (drawOrder m xs) Q E s
 |0,xs,s,Q,hm,h=>by
  unfold drawOrder
  exact yaf (h [] s.drawn (by rw[List.length_eq_zero_iff.mp hm.symm]))
 |m+1,[],s,Q,hm,h=>by simp at hm
 |m+1,x::xs,s,Q,hm,h=>by
  unfold drawOrder
  refine yab (wp_choose_any (by simp) λi d hi=>?_)
  rw[yar hi]
  refine yab (draw_any m _ _ (by rw[List.length_eraseIdx_of_lt hi];omega) λys d' hp=>yaf ?_)
  exact h _ d' ((hp.cons _).trans (erase_perm hi))
theorem iter_self{f:Value}{i:Nat}{a:Value}{Q:Vs}(ho:s.heap.get? I=some (siO f i a n ep))(h:Q (.ref I) s):wpAny (model prog w) A (pyIter (.ref I)) Q E s:=by
 have hT:s.TypeIs (.ref I) "set_iterator" := ⟨_,ho,rfl⟩
 refine wpAny_pyIter_slot hT slot_si_iter (yb8 slot_si_iter hT entry_si_iter ?_ (args_si_iter _))
 show wpAny _ _ (ret (.ref I)) _ _ s
 exact yaf ⟨_,rfl, "set_iterator", _,hT,zz26.lookup,h⟩
noncomputable abbrev setO(es:Array (Int×Value))(ep:Nat)(t:SetTable):Obj:={ cls:=.type "set", dict:=none,data:=.set es ep t,slots:=#[] }
theorem below_le1(h:xs.size=1)(hx:xs[0]?=some j):SetTable.below xs 0=0/\SetTable.below xs (j+1)=1:=by
 obtain⟨l⟩:=xs
 match l,h with
 |[x],_=>
  simp at hx
  subst hx
  simp[SetTable.below,SetTable.below.go]
theorem below_0(h:xs.size=0)(j:Nat):SetTable.below xs j=0:=by
 unfold SetTable.below
 rw[h];rfl
theorem walks_txt(bt:ByT w=true)(hh:A.handled=none)(hne:a≠I)(hf:t.fits es.size=true):
  Walks prog w A I [I,a] [I] es.size (λi v=>∃h,(pickOrder (w.params.setOrder a ep) es)[i]?=some (h,v)) (λi h=>h.get? I=some (siO (.int 0 0) i (.ref a) es.size ep)/\h.get? a=some (setO es ep t)) where
 sub:=λb hb=>by simp at hb;simp[hb]
 frame:=λ_ _ _ st k=>⟨k I (by simp) _ st.1,k a (by simp) _ st.2⟩
 item:=λi s Q E hi st hQ=>by
  have hlen:(pickOrder (w.params.setOrder a ep) es).size=es.size:=by
   have z:=(pick_perm (w.params.setOrder a ep) es).length_eq
   simpa using z
  obtain⟨x,hx⟩:∃x,(pickOrder (w.params.setOrder a ep) es)[i]?=some x:=⟨_,yb9 (by rw[hlen];exact hi)⟩
  refine next_some (next:=0) (x:=x.2) st.1 st.2 hf rfl (λA E Q' q=>?_) λh' o' sb=>hQ x.2 h' s.toks ⟨x.1,hx⟩ ⟨o',(sb.2 a hne).trans st.2⟩ λb o hb e=>(sb.2 b (by simpa using hb)).trans e
  unfold setNext setsByText
  refine yab (yby st.2 rfl hf ?_)
  dsimp only
  refine yab (yab (ybw (yaf ?_)))
  rw[show(model prog w).w.params.followText "set-order" = true from bt,if_pos rfl,if_neg (by simp)]
  unfold setWalk setsByText
  refine yab (yab (yby st.2 rfl hf ?_));dsimp only
  refine yab (yab (ybw (yaf ?_)))
  rw[show(model prog w).w.params.followText "set-order" = true from bt,if_pos rfl]
  refine yab (ybw (yaf (yaf ?_)))
  rw[show(pickOrder ((model prog w).w.params.setOrder a ep) es)[i]?=some x from hx]
  exact q
 done:=λs Q E st hQ=>by
  refine next_none hh st.1 st.2 hf rfl (λA E Q' q=>?_) λh' e=>hQ h' s.toks λb o hb z=>e b o (by simpa using hb) z
  have hlen:(pickOrder (w.params.setOrder a ep) es).size=es.size:=by
   have z:=(pick_perm (w.params.setOrder a ep) es).length_eq
   simpa using z
  unfold setNext setsByText
  refine yab (yby st.2 rfl hf ?_);dsimp only
  refine yab (yab (ybw (yaf ?_)))
  rw[show(model prog w).w.params.followText "set-order" = true from bt,if_pos rfl,if_neg (by simp)]
  unfold setWalk setsByText
  refine yab (yab (yby st.2 rfl hf ?_));dsimp only
  refine yab (yab (ybw (yaf ?_)))
  rw[show(model prog w).w.params.followText "set-order" = true from bt,if_pos rfl]
  refine yab (ybw (yaf (yaf ?_)))
  rw[show(pickOrder ((model prog w).w.params.setOrder a ep) es)[es.size]?=none from Array.getElem?_eq_none (by rw[<-hlen];exact yap _)]
  exact q
 self:=λ_ _ _ _ st hQ=>iter_self st.1 hQ
theorem walks_one(bt:ByT w=false)(hh:A.handled=none)(hne:a≠I)(hf:t.fits es.size=true)(hl:t.led=true)(h1:es.size<=1):
  Walks prog w A I [I,a] [I] es.size (λi v=>∃h,es[i]?=some (h,v)) (λi h=>(∃sl,h.get? I=some (siO (.int (sl:Nat) 0) i (.ref a) es.size ep)/\(i=0->sl=0)/\(i=1->∃j,t.place[0]?=some j/\sl=j+1))/\h.get? a=some (setO es ep t)) where
 sub:=λb hb=>by simp at hb;simp[hb]
 frame:=λ_ _ _ st k=>by
  obtain⟨⟨sl,o,z⟩,q⟩:=st
  exact⟨⟨sl,k I (by simp) _ o,z⟩,k a (by simp) _ q⟩
 item:=λi s Q E hi st hQ=>by
  obtain⟨⟨sl,o,z0,z1⟩,hs⟩:=st
  have e1:es.size=1:=by omega
  have i0:i=0:=by omega
  subst i0
  have s0:=z0 rfl
  subst s0
  have hp:t.place.size=1:=by
   have z:=hf
   simp only[SetTable.fits,Bool.and_eq_true,beq_iff_eq]at z
   omega
  obtain⟨j,hj⟩:∃j,t.place[0]?=some j:=⟨_,yb9 (by omega)⟩
  obtain⟨⟨hv,x⟩,hx⟩:∃x,es[0]?=some x:=⟨_,yb9 (by omega)⟩
  refine next_some (next:=j+1) (x:=x) o hs hf rfl (λA E Q' q=>?_) λh' o' sb=>hQ x h' s.toks ⟨hv,hx⟩ ⟨⟨j+1,o',λz=>absurd z (by omega),λ_=>⟨j,hj,rfl⟩⟩,(sb.2 a hne).trans hs⟩ λb o hb e=>(sb.2 b (by simpa using hb)).trans e
  unfold setNext setsByText
  refine yab (yby hs rfl hf ?_);dsimp only
  refine yab (yab (ybw (yaf ?_)))
  rw[show(model prog w).w.params.followText "set-order" = false from bt,if_neg (by simp)]
  refine ite_no (λz=>absurd (show(!t.plain&&decide (es.size>1))=true from z) (by rw[e1];simp)) ?_
  refine yab ?_
  show wpAny _ _ (if (!t.led && !es.isEmpty)=true then unsupported "set:maker-not-led" else pure ()) _ _ _
  rw[hl,if_neg (by simp)]
  refine yaf ?_
  rw[(below_le1 hp hj).1,hx,hj]
  exact yaf q
 done:=λs Q E st hQ=>by
  obtain⟨⟨sl,o,z0,z1⟩,hs⟩:=st
  refine next_none hh o hs hf rfl (λA E Q' q=>?_) λh' e=>hQ h' s.toks λb o hb z=>e b o (by simpa using hb) z
  unfold setNext setsByText
  refine yab (yby hs rfl hf ?_);dsimp only
  refine yab (yab (ybw (yaf ?_)))
  rw[show(model prog w).w.params.followText "set-order" = false from bt,if_neg (by simp)]
  refine ite_no (λz=>absurd (show(!t.plain&&decide (es.size>1))=true from z) (by simp;omega)) ?_
  refine yab ?_
  show wpAny _ _ (if (!t.led && !es.isEmpty)=true then unsupported "set:maker-not-led" else pure ()) _ _ _
  rw[hl,if_neg (by simp)]
  refine yaf ?_
  have hb:es[SetTable.below t.place sl]?=none:=by
   have z:=hf
   simp only[SetTable.fits,Bool.and_eq_true,beq_iff_eq]at z
   by_cases e1:es.size=1
   ·obtain⟨j,hj,rfl⟩:=z1 e1
    rw[(below_le1 (by omega) hj).2];exact Array.getElem?_eq_none (by omega)
   ·rw[below_0 (by omega)];exact Array.getElem?_eq_none (by omega)
  rw[hb]
  exact yaf q
 self:=λ_ _ _ _ st hQ=>by
  obtain⟨⟨sl,o,_⟩,_⟩:=st
  exact iter_self o hQ
theorem walks_drawn{p:Addr}{ps:List Nat}(hh:A.handled=none)(hne:a≠I)(hpI:p≠I)(hf:t.fits es.size=true)(hps:ps.Perm (List.range es.size)):
  Walks prog w A I [I,a,p] [I] es.size (λi v=>∃j h,ps[i]?=some j/\es[j]?=some (h,v)) (λi h=>h.get? I=some (siO (.ref p) i (.ref a) es.size ep)/\h.get? a=some (setO es ep t)/\h.get? p=some { cls:=.type "tuple", data:=.seq (List.toArray (ps.map λj=>rawInt (j:Nat))) 0 }) where
 sub:=λb hb=>by simp at hb;simp[hb]
 frame:=λ_ _ _ st k=>⟨k I (by simp) _ st.1,k a (by simp) _ st.2.1,k p (by simp) _ st.2.2⟩
 item:=λi s Q E hi st hQ=>by
  have hl:ps.length=es.size:=by rw[hps.length_eq,ycn]
  obtain⟨j,hj⟩:∃j,ps[i]?=some j:=⟨_,yar (by omega)⟩
  have hj1:j<es.size:=ycf.mp (hps.mem_iff.mp (yan hj))
  obtain⟨⟨hv,x⟩,hx⟩:∃x,es[j]?=some x:=⟨_,yb9 hj1⟩
  exact next_drawn st.1 st.2.1 hf rfl st.2.2 hj hx λh' o' sb=>hQ x h' s.toks ⟨j,hv,hj,hx⟩ ⟨o',(sb.2 a hne).trans st.2.1,(sb.2 p hpI).trans st.2.2⟩ λb o hb e=>(sb.2 b (by simpa using hb)).trans e
 done:=λs Q E st hQ=>next_drawn_end hh st.1 st.2.1 hf rfl st.2.2 (List.getElem?_eq_none (by rw[hps.length_eq,ycn];exact yap _)) λh' e=>hQ h' s.toks λb o hb z=>e b o (by simpa using hb) z
 self:=λ_ _ _ _ st hQ=>iter_self st.1 hQ
end
end L2
namespace L2
open PySem
section
variable{prog:Program}{w:World}{A:Around}{E:Vs}{s:Shared}{a:Addr}{L:List Str}
theorem fm_get{es:Array (Int×Value)}:∀(l:List Nat),(∀j∈l,j<es.size)->∀(i j:Nat),l[i]?=some j->(l.filterMap λj=>es[j]?)[i]?=es[j]?
 |[],_,i,j,q=>by simp at q
 |x::l,hl,i,j,q=>by
  have hx:=yb9 (hl x (.head _))
  rw[List.filterMap_cons,hx]
  cases i with
  |zero=>simp at q;subst q;simp[hx]
  |succ i=>
   simp at q ⊢
   exact fm_get l (λj hj=>hl j (.tail _ hj)) i j q
def OrdOf(w:World)(ord:List (Int×Value))(i:Nat)(v:Value):Prop:=∃h,ord[i]?=some (h,v)
theorem iter_set(ho:s.heap.get? a=some (setO es ep t))(hf:t.fits es.size=true)(hl:t.led = !ByT w)(hp:t.plain=true->es.size=0)(hz:es.size<scanBound)
  (hQ:∀(s':Shared) (I:Addr) (fp:List Addr) (St:Nat->Heap->Prop) (P:Nat->Value->Prop) (ord:List (Int×Value)),(∀b o,s.heap.get? b=some o->s'.heap.get? b=some o)->s'.gens=s.gens->s'.os=s.os->
   (∀A':Around,A'.handled=none->Walks prog w A' I fp [I] es.size P St)->St 0 s'.heap->(∀b∈fp,b=a\/s.heap.objs.size<=b)->s.heap.objs.size<=I->ord.Perm es.toList->(∀i v,P i v->OrdOf w ord i v)->Q (.ref I) s'):
  wpAny (model prog w) A (pyIter (.ref a)) Q E s:=by
 have hT:s.TypeIs (.ref a) "set" := ⟨_,ho,rfl⟩
 have hlt:a<s.heap.objs.size:=yal ho
 refine wpAny_pyIter_slot hT PySem.F.slot_set_iter (yb8 PySem.F.slot_set_iter hT entry_s_iter ?_ (PySem.F.args_set_iter_1 _))
 unfold Builtin.«frozenset.__iter__» Builtin.Frozenset.sizeOf setDrawn setsByText
 refine yab (yaf ?_)
 refine yab (yab (ycr ho rfl hf (yaf ?_)))
 refine yab (yab (yby ho rfl hf ?_));dsimp only
 refine yab (yab (ybw (yaf (yaf ?_))))
 cases bt:ByT w with
 |true=>
  refine ite_no (λz=>absurd (show(!(ByT w)&&(!t.plain&&decide (es.size>1)))=true from z) (by rw[bt];simp)) ?_
  refine yab (yaf (yab (wpAny_setEpoch_of ho rfl hf (yab (ybn ?_)))))
  refine yaf ⟨_,rfl, "set_iterator", _,⟨_,yaq _ rfl,rfl⟩,zz26.lookup,?_⟩
  exact hQ _ s.heap.objs.size [s.heap.objs.size,a] _ _ (pickOrder (w.params.setOrder a ep) es).toList (λb o z=>yad _ z) rfl rfl (λA' h'=>walks_txt bt h' (yax hlt) hf) ⟨yaq _ rfl,yad _ ho⟩
   (λb hb=>by simp at hb;rcases hb with rfl|rfl<;>simp) (Nat.le_refl _) (pick_perm _ _) λi v ⟨h,z⟩=>⟨h,by rw[Array.getElem?_toList];exact z⟩
 |false=>
  rw[bt]at hl
  by_cases h1:es.size<=1
  ·refine ite_no (λz=>absurd (show(!(ByT w)&&(!t.plain&&decide (es.size>1)))=true from z) (by simp;omega)) ?_
   refine yab (yaf (yab (wpAny_setEpoch_of ho rfl hf (yab (ybn ?_)))))
   refine yaf ⟨_,rfl, "set_iterator", _,⟨_,yaq _ rfl,rfl⟩,zz26.lookup,?_⟩
   exact hQ _ s.heap.objs.size [s.heap.objs.size,a] _ _ es.toList (λb o z=>yad _ z) rfl rfl (λA' h'=>walks_one bt h' (yax hlt) hf hl h1) ⟨⟨0,yaq _ rfl,λ_=>rfl,λz=>absurd z (by omega)⟩,yad _ ho⟩
    (λb hb=>by simp at hb;rcases hb with rfl|rfl<;>simp) (Nat.le_refl _) .rfl λi v ⟨h,z⟩=>⟨h,by rw[Array.getElem?_toList];exact z⟩
  ·have np:t.plain=false:=by
    cases z:t.plain with
    |false=>rfl
    |true=>exact absurd (hp z) (by omega)
   refine ite_yes (show(!(ByT w)&&(!t.plain&&decide (es.size>1)))=true by rw[bt,np];simp;omega) ?_
   refine yab (draw_any es.size (List.range es.size) s (by simp) λps d hps=>?_)
   refine yab <| wpAny_newTuple ?_ (by rw[yaa,hps.length_eq,ycn];exact fits_of_scanBound hz)
   have ho1:(s.heap.push { cls:=.type "tuple", data:=.seq (List.toArray (ps.map λj=>rawInt (j:Nat))) 0 }).get? a=some (setO es ep t):=yad _ ho
   refine yab (wpAny_setEpoch_of (s:={ s with heap:=s.heap.push { cls:=.type "tuple", data:=.seq (List.toArray (ps.map λj=>rawInt (j:Nat))) 0 },drawn:=d }) ho1 rfl hf (yab (ybn ?_)))
   refine yaf ⟨_,rfl, "set_iterator", _,⟨_,yaq _ rfl,rfl⟩,zz26.lookup,?_⟩
   have hs1:(s.heap.push { cls:=.type "tuple", data:=.seq (List.toArray (ps.map λj=>rawInt (j:Nat))) 0 }).objs.size=s.heap.objs.size+1:=yb5 ..
   refine hQ _ _ [_,a,s.heap.objs.size] _ _ (ps.filterMap λj=>es[j]?) (λb o z=>yad _ (yad _ z)) rfl rfl (λA' h'=>walks_drawn (ps:=ps) (p:=s.heap.objs.size) h' (hs1▸yax (yb6 hlt)) (hs1▸yax (ybt _)) hf hps)
    ⟨yaq _ rfl,yad _ ho1,yad _ (yaq _ rfl)⟩ (λb hb=>?_) (by first|exact yb7 _|exact hs1.symm▸yb7 _) ?_ λi v ⟨j,h,z1,z2⟩=>?_
   ·simp at hb
    rcases hb with rfl|rfl|rfl
    ·exact .inr (by first|exact yb7 _|exact hs1.symm▸yb7 _)
    ·exact .inl rfl
    ·exact .inr (yap _)
   ·refine(hps.filterMap _).trans ?_
    rw[filterMap_getElem?_range]
   ·exact⟨h,by rw[fm_get ps (λj hj=>ycf.mp (hps.mem_iff.mp hj)) i j z1,z2]⟩
theorem hint_set(hT:s.TypeIs (.ref a) "set")(h:Q false s):wpAny (model prog w) A (Builtin.List.listLengthHint (.ref a)) Q E s:=by
 unfold Builtin.List.listLengthHint
 refine yab (wpAny_specialOf hT PySem.F.slot_set_len.lookup ?_)
 generalize hid:("set.__len__" : String)=id0
 wp_delta
 rw[show splitId id0=some ("set", "__len__") from by subst hid;decide +kernel]
 subst hid
 refine yab (wpAny_isInstance (T := "set") (b:=true) hT (by rw[isSubtype_type];kernel_rfl) ?_)
 refine ite_no (by decide) (ite_yes (by decide +kernel) ?_)
 exact yab (wpAny_typeOf hT (yaf h))
theorem collect_set(S:SetT w s.heap a L)(hh:A.handled=none)
  (h:∀(s':Shared) (vs:List Value) (ord:List Str),(∀b o,s.heap.get? b=some o->s'.heap.get? b=some o)->s'.gens=s.gens->s'.os=s.os->ord.Perm L->vs.length=ord.length->(∀(j:Nat) (v:Value),vs[j]?=some v->∃y k,ord[j]?=some y/\v=Value.str y k)->R vs s'):
  wpAny (model prog w) A (collect (.ref a)) R E s:=by
 obtain⟨es,ep,t,ho,he,hL,hb,hf,hl,hp⟩:=id S
 have hn:es.size=L.length:=by rw[<-hL,yaa,ybl]
 have hlt:a<s.heap.objs.size:=yal ho
 unfold collect
 refine yab (wpAny_runValue (codeAny_builtin PySem.F.entry_proto_collect ?_));rw[Around.under_plainId PySem.F.plain_proto_collect _]
 show wpAny _ A.in1 (newList [] >>= λl=>again (.builtin "list.__iadd__" ⟨[l,.ref a],[]⟩)) _ _ s
 refine yab (ybn (yaf ⟨plainId_quiet PySem.F.plain_list_iadd _,codeAny_builtin PySem.F.entry_list_iadd ?_⟩));rw[Around.under_plainId PySem.F.plain_list_iadd _]
 show wpAny _ A.in1 (Builtin.List.listExtendWith (.ref s.heap.objs.size) (.ref a) (.ref s.heap.objs.size)) _ _ _
 generalize hH:s.heap.push { cls:=.type "list", data:=.seq ([]:List Value).toArray }=H
 have hHs:H.objs.size=s.heap.objs.size+1:=by rw[<-hH];exact yb5 ..
 have hS0:H.get? s.heap.objs.size=some { cls:=.type "list", data:=.seq ([]:List Value).toArray }:=hH▸yaq _ rfl
 have ho1:H.get? a=some (setO es ep t):=hH▸yad _ ho
 have kp:∀b o,s.heap.get? b=some o->H.get? b=some o:=λb o z=>hH▸yad _ z
 unfold Builtin.List.listExtendWith
 refine yab (wpAny_typeOf (T := "set") ⟨_,ho1,rfl⟩ ?_)
 have h1:Builtin.List.listSameRef (.ref s.heap.objs.size) (.ref a)=false:=by simp[Builtin.List.listSameRef];exact Ne.symm (Nat.ne_of_lt hlt)
 refine ite_no (by rw[h1];decide) ?_
 refine yab (iter_set (s:={ s with heap:=H }) ho1 hf hl (λz=>by rw[hn,hp z];rfl) hb λs1 I fp St P ord k1 g1 o1 W st hfp hI hord hP=>?_)
 have hI':s.heap.objs.size+1<=I:=hHs▸hI
 have hSI:s.heap.objs.size≠I:=yax hI'
 have hSf:s.heap.objs.size∉fp:=λz=>by
  rcases hfp _ z with q|q
  ·exact absurd q (Ne.symm (yax hlt))
  ·exact absurd (show H.objs.size<=s.heap.objs.size from q) (by rw[hHs];exact Nat.not_succ_le_self _)
 have hS1:=k1 _ _ hS0
 have ord_len:(ord.map λe=>txtOf e.2).Perm L:=by rw[<-hL];exact hord.map _
 refine yab (ybo (hint_set (s:=s1) ⟨_,k1 _ _ ho1,rfl⟩ ?_))
 refine ite_yes (by decide +kernel) (yab (yc5 (yab ?_)))
 show wpAny _ _ (updateSeq s.heap.objs.size (λq=>q.push Value.none) >>= λ_=>updateSeq s.heap.objs.size (λq=>q.pop)) _ _ _
 refine yab (wpAny_updateSeq hS1 rfl ?_)
 have hS2:=ybf (Obj.mapSeq (λq=>q.push Value.none)) hS1 rfl
 refine wpAny_updateSeq (hz:=by seq_fits) hS2 rfl ?_
 have hS3:=ybf (Obj.mapSeq (λq=>q.pop)) hS2 rfl
 have k2:∀b o,b≠s.heap.objs.size->s1.heap.get? b=some o->((s1.heap.update s.heap.objs.size (Obj.mapSeq λq=>q.push Value.none)).update s.heap.objs.size (Obj.mapSeq λq=>q.pop)).get? b=some o:=λb o hb z=>
  (ybi _ _ (Ne.symm hb)).trans ((ybi _ _ (Ne.symm hb)).trans z)
 have W1:=(W A.in1 hh).toS
 refine yaf ⟨plainId_quiet PySem.F.plain_extend_loop _,codeAny_extend_loopS W1 (fits_of_scanBound hb) _ hSf _ es.size 0 _ #[] _ rfl (ya1 _) ((W A.in1 hh).frame 0 _ _ st λb hb o z=>k2 b o (λq=>hSf (q▸hb)) z) hS3 (ItemsOf.nil _) λs2 acc c hm hS2 hacc=>?_⟩
 show wpAny _ A (load s.heap.objs.size >>= _) _ _ s2
 refine yab (wpAny_load hS2 (yaf (h s2 acc.toList (ord.map λe=>txtOf e.2) (λb o z=>?_) (hm.gens.trans g1) (hm.os.trans o1) ord_len ?_ λj v hv=>?_)))
 ·refine hm.heap b o (λq=>?_) (k2 b o (yax (yal z)) (k1 b o (kp b o z)))
  have lt:=yal z
  rcases yau.mp q with q|q
  ·exact absurd lt (q▸ybb _)
  ·rw[yae.mp q]at lt
   exact absurd (yat (yb6 lt) hI') (ybb _)
 ·rw[ybl,hacc.1,yaa,hord.length_eq,ybl]
 ·rw[yc2]at hv
  obtain⟨hh,z⟩:=hP j v (hacc.2 j v hv)
  obtain⟨y,k,e⟩:=he _ (hord.mem_iff.mp (yan z))
  refine⟨y,k,?_,congrArg Prod.snd e⟩
  rw[ybd,z,e];rfl
end
end L2
namespace L2
open PySem PySem.Spec
section
variable{prog:Program}{w:World}{A:Around}{E:Vs}
theorem code_setN(a:Value){Q₁:Vs}(h:Q₁ (.ref s.heap.objs.size) { s with heap:=s.heap.push (setO #[] 0 (.fresh 0 0 (!ByT w))) }):
  codeAny (model prog w) A (.call (.builtin "set.__new__") ⟨[.type "set", a],[]⟩) (wants Q₁ E) s:=by
 refine codeAny_of_tree ?_
 show wpAny _ A.in1 (checkBuiltinCall "set.__new__" ⟨[.type "set", a],[]⟩ >>= λ_=>again (.builtin "set.__new__" ⟨[.type "set", a],[]⟩)) _ _ s
 refine yab (wpAny_of_eq (PySem.F.newCall_set_1 a) (yaf ⟨plainId_quiet PySem.F.plain_set_new _,codeAny_builtin PySem.F.entry_set_new ?_⟩));rw[Around.under_plainId PySem.F.plain_set_new _]
 unfold Builtin.«set.__new__» Builtin.Frozenset.newClass
 have hs:=sub_set_self
 obtain⟨hp,g,d,tk,os⟩:=s;dsimp only
 wp_walk
 refine ybw (yaf ?_);dsimp only
 simp only[newObj]
 exact yab (wpAny_alloc (yaf (yaf h)))
theorem fresh_setT{h:Heap}:SetT w (h.push (setO #[] 0 (.fresh 0 0 (!ByT w)))) h.objs.size []:=
 ⟨#[],0,_,yaq _ rfl,λe he=>by simp at he,rfl,by decide,rfl,rfl,λ_=>rfl⟩
theorem SetT.keep(S:SetT w h a L)(k:∀o,h.get? a=some o->h'.get? a=some o):SetT w h' a L:=
 let ⟨es,ep,t,ho,r⟩:=S;⟨es,ep,t,k _ ho,r⟩
theorem add_perm{L L':List Str}{x:Str}(h:L'.Perm (if x∈L then L else L++[x]))(hn:L.Nodup):L'.Nodup/\(∀y,y∈L'↔y∈L\/y=x)/\L'.length<=L.length+1:=by
 by_cases m:x∈L
 ·rw[if_pos m]at h
  exact⟨h.symm.nodup hn,λy=>by rw[h.mem_iff];exact⟨.inl,λz=>z.elim id λe=>e▸m⟩,by rw[h.length_eq];omega⟩
 ·rw[if_neg m]at h
  refine⟨h.symm.nodup ?_,λy=>by rw[h.mem_iff];simp,by rw[h.length_eq];simp⟩
  rw[ya3]
  exact⟨hn,by simp,λa ha b hb=>by simp at hb;subst hb;exact λe=>m (e▸ha)⟩
theorem upd_loop{R:Result->Shared->Prop}{I:Addr}{fp wr:List Addr}{G:Array GenState->Array GenState->Prop}{n:Nat}{P:Nat->Value->Prop}{St:Nat->Shared->Prop}(W:WalksS prog w A.in1 I fp wr G n P St)(S:Addr)(hSf:S∉fp)
  (val:Nat->Str) (hval:∀i v,P i v->∃t,v=Value.str (val i) t) (hb:n+1<scanBound):
  ∀(k i:Nat) (s:Shared) (L:List Str),n - i=k->i<=n->St i s->SetT w s.heap S L->L.Nodup->L.length<=i->(∀y,y∈L↔∃j,j<i/\val j=y)->
   (∀s' L',Moved (S::wr) G s s'->SetT w s'.heap S L'->L'.Nodup->L'.length<=n->(∀y,y∈L'↔∃j,j<n/\val j=y)->R (.ok (.ret .none)) s')->
   codeAny (model prog w) A (.builtin "set.update.loop" ⟨[.ref S,.ref I],[]⟩) R s:=by
 have hSw:S∉wr:=λh=>hSf (W.sub _ h)
 have sub:∀b∈wr,b∈S::wr:=λb hb=>yaw _ hb
 intro k
 induction k with
 |zero=>
  intro i s L hk hi st hS hN hl hm hR
  obtain rfl:i=n:=by omega
  refine codeAny_builtin PyProof.Rows.F.entry_set_update_loop ?_;rw[Around.under_plainId PyProof.Rows.F.plain_set_update_loop _]
  show wpAny _ A.in1 (pyNext (.ref I) >>= _) _ _ s
  refine yab (W.done s _ _ st λs' mv=>?_)
  exact yaf (hR s' L (mv.mono sub) (hS.keep λo z=>mv.heap S o hSw z) hN hl hm)
 |succ k ih=>
  intro i s L hk hi st hS hN hl hm hR
  have lt:i<n:=by omega
  refine codeAny_builtin PyProof.Rows.F.entry_set_update_loop ?_;rw[Around.under_plainId PyProof.Rows.F.plain_set_update_loop _]
  show wpAny _ A.in1 (pyNext (.ref I) >>= _) _ _ s
  refine yab (W.item i s _ _ lt st λv s' hP st' mv=>?_)
  obtain⟨t,rfl⟩:=hval i v hP
  have hS':SetT w s'.heap S L:=hS.keep λo z=>mv.heap S o hSw z
  show wpAny _ A.in1 (holding [Value.str (val i) t] (setAdd S (.str (val i) t)) >>= _) _ _ s'
  refine yab (ybo ?_)
  unfold setAdd
  refine ybo (yab ((PySem.strKind prog w).pyHash (k:=val i) (by simp[PySem.strKind,Value.isStrOf]) ?_))
  refine setT_add (s:={ s' with toks:=s'.toks+1 }) hS' (by omega) λh' L' b sb S2 pm=>?_
  obtain⟨n2,m2,l2⟩:=add_perm pm hN
  refine yaf ⟨plainId_quiet PyProof.Rows.F.plain_set_update_loop _,ih (i+1) _ L' (by omega) lt (W.frame _ s' _ _ st' (yb7 _) λb hb o e=>?_) S2 n2 (by omega) (λy=>?_) λs'' L'' mv' S3 n3 l3 m3=>?_⟩
  ·rw[sb.2 b (λh:b=S=>hSf (by rw[<-h];exact hb))];exact e
  ·rw[m2 y,hm y]
   constructor
   ·rintro (⟨j,hj,e⟩|e)
    ·exact⟨j,by omega,e⟩
    ·exact⟨i,by omega,e.symm⟩
   ·rintro⟨j,hj,e⟩
    by_cases ji:j=i
    ·exact .inr (ji▸e.symm)
    ·exact .inl ⟨j,by omega,e⟩
  ·refine hR s'' L'' (Moved.trans W.gtrans ((mv.mono sub).then_heap (yb7 _) λb o hb e=>?_) mv') S3 n3 l3 m3
   rw[sb.2 b (λh:b=S=>hb (by rw[h];exact ya5))];exact e
set_option maxHeartbeats 3200000 in
theorem call_setL{s:Shared}{l:Addr}{items:Array Value}{val:Nat->Str}{Q:Vs}(hh:A.handled=none)(hl:s.heap.IsList l items)(hi:∀(i:Nat) (v:Value),items[i]?=some v->∃t,v=Value.str (val i) t)(hb:items.size+1<scanBound)
  (h:∀(h':Heap) (tk:Nat) (L:List Str),SetT w h' s.heap.objs.size L->L.Nodup->L.length<=items.size->(∀y,y∈L↔∃j,j<items.size/\val j=y)->(∀b o,s.heap.get? b=some o->h'.get? b=some o)->Q (.ref s.heap.objs.size) { s with heap:=h',toks:=tk }):
  wpAny (model prog w) A (call (.type "set") [.ref l]) Q E s:=by
 obtain⟨c0,tl0,mro0⟩:=PySem.F.called_set.mro
 have made0:=PySem.F.called_set.made;have sub0:=PySem.F.called_set.sub
 refine ycv (codeAny_of_tree (show wpAny _ _ (callAny (.type "set") _) _ _ _ from ?_))
 refine yaf ⟨Code.quiet_builtin _ (by decide +kernel),codeAny_builtin PySem.F.entry_type_call ?_⟩
 rw[Around.under_plain (weight_type_call_type "set" [.ref l] []) rfl]
 have n1:=PySem.F.called_set.notType;have n2:=PySem.F.called_set.canCreate;have n3:=PySem.F.typeCall_set_1 (.ref l)
 repeat (any_goals (first|assumption|wp_step))
 refine codeAny_mono (code_setN (.ref l) (E:=E) (Q₁:=λobj s1=>obj=.ref s.heap.objs.size/\s1={ s with heap:=s.heap.push (setO #[] 0 (.fresh 0 0 (!ByT w))) }) ⟨rfl,rfl⟩) λr s1 hr=>?_
 cases r with
 |error e=>exact hr
 |ok fl=>
  cases fl with
  |ret obj=>
   obtain⟨rfl,rfl⟩:=hr
   have hS:(s.heap.push (setO #[] 0 (.fresh 0 0 (!ByT w)))).get? s.heap.objs.size=some (setO #[] 0 (.fresh 0 0 (!ByT w))):=yaq _ rfl
   have hT:Shared.TypeIs { s with heap:=s.heap.push (setO #[] 0 (.fresh 0 0 (!ByT w))) } (.ref s.heap.objs.size) "set" := ⟨_,hS,rfl⟩
   have li:=PySem.F.called_set.init.lookup;have bi:=PySem.F.called_set.init.bind (.ref s.heap.objs.size)
   repeat (any_goals (first|assumption|wp_step))
   refine codeAny_mono (codeAny_call_builtin (R:=wants (λr s2=>r=.none/\∃h' tk L,s2={ s with heap:=h',toks:=tk }/\SetT w h' s.heap.objs.size L/\L.Nodup/\L.length<=items.size/\(∀y,y∈L↔∃j,j<items.size/\val j=y)/\∀b o,s.heap.get? b=some o->h'.get? b=some o) E) PySem.F.called_set.init.plain PySem.F.entry_set_init (check_set_init_1 hT ?_)) λr2 s2 hr2=>?_
   ·obtain⟨ol,hol,hcl,nl,hdl⟩:=hl
    obtain⟨ocls,odict,odata,oslots⟩:=ol
    simp only at hcl hdl
    subst hcl hdl
    have hol':(s.heap.push (setO #[] 0 (.fresh 0 0 (!ByT w)))).get? l=some { cls:=.type "list", dict:=odict,data:=.seq items nl,slots:=oslots }:=yad _ hol
    have q1:=PySem.F.sub_list_set;have q2:=PySem.F.sub_list_frozenset
    have q3:(Value.type "list" == Value.type "dict")=false:=by decide
    have hl1:(s.heap.push (setO #[] 0 (.fresh 0 0 (!ByT w)))).IsList l items:=⟨_,hol',rfl,nl,rfl⟩
    unfold Builtin.«set.__init__» noKeywords Builtin.Frozenset.updateFrom;generalize hPI:pyIter=PI
    wp_walk
    subst hPI
    refine wpAny_pyIter_list hl1 (yab (wpAny_runValue ?_))
    have hlS:l<s.heap.objs.size:=yal hol
    have hs1:(s.heap.push (setO #[] 0 (.fresh 0 0 (!ByT w)))).objs.size=s.heap.objs.size+1:=yb5 ..
    have h3:A.in1.in1.in1.handled=none:=by simp[hh]
    have nI:l≠(s.heap.push (setO #[] 0 (.fresh 0 0 (!ByT w)))).objs.size:=hs1▸yax (yb6 hlS)
    have hSf:s.heap.objs.size∉[(s.heap.push (setO #[] 0 (.fresh 0 0 (!ByT w)))).objs.size,l]:=by
     rw[hs1];simp only[List.mem_cons,List.not_mem_nil,or_false,not_or]
     exact⟨yax (ybt _),Nat.ne_of_gt hlS⟩
    refine upd_loop ((Walks.list h3 _ l nI items).toS) s.heap.objs.size hSf val hi hb (items.size - 0) 0 _ [] (by omega) (ya1 _) ⟨⟨_,yaq _ rfl,rfl,rfl⟩,(hl1.push _)⟩
     (fresh_setT.keep λo z=>yad _ z) .nil (ya1 _) (λy=>by simp) λs' L' mv S' N' l' m'=>?_
    obtain⟨h',g',d',tk',os'⟩:=s'
    obtain rfl:g'=s.gens:=mv.gens
    obtain rfl:d'=s.drawn:=mv.drawn
    obtain rfl:os'=s.os:=mv.os
    show wpAny _ _ _ _ _ _
    refine yaf ?_
    show wpAny _ _ (ret Value.none) _ _ _
    refine yaf ⟨rfl,h',tk',L',rfl,S',N',l',m',λb o e=>?_⟩
    have lt:=yal e
    exact mv.heap b o (by rw[hs1];simp only[List.mem_cons,List.not_mem_nil,or_false,not_or];exact⟨Nat.ne_of_lt lt,Nat.ne_of_lt (Nat.lt_succ_of_lt lt)⟩) (Heap.get?_push_of_some _ (Heap.get?_push_of_some _ e))
   ·cases r2 with
    |error e=>exact hr2
    |ok f2=>
     cases f2 with
     |ret r=>
      obtain⟨rfl,h',tk,L,rfl,S',N',l',m',k'⟩:=hr2
      repeat (any_goals (first|assumption|wp_step))
      exact h _ _ _ S' N' l' m' k'
     |_=>exact hr2.elim
  |_=>exact hr.elim
end
section
open PyProof.Rows
variable{X:Cx}
noncomputable def SetV(w:World)(L:List Str)(a:Addr):HO:=.ext λh=>SetT w h a L
theorem SetV.ok(S:SetT w h a L):ObjOk P w H h a (SetV w L a):=
 ⟨S,let ⟨_,_,_,ho,_⟩:=S;⟨_,ho⟩,λ_ _ s k=>s.keep k⟩
noncomputable def rSet(w:World)(K:Wf):List V->Hp->VK->Prop:=λxs H Q=>∃(p:Addr) (ss:List Str),xs=[.ref p]/\SqL K H p (ss.map V.str)/\ss.length<4000/\∀(q:Addr) (L:List Str),H q=none->L.Nodup->L.length<=ss.length->(∀y,y∈L↔y∈ss)->Q (.ref q) (upd H q (SetV w L q))
theorem call_set(hc:X.calm=true):CallR X (.type "set") (rSet X.w X.K):=by
 intro pins s σ H xs us Q I r h
 obtain⟨p,ss,rfl,hq,hz,q⟩:=h
 obtain⟨u,rfl,rx⟩:=vals1 r
 cases rx
 obtain⟨its,r',pl,_⟩:=I.list hq
 have hl:its.length=ss.length:=by rw[<-r'.length,yaa]
 have at_:∀(i:Nat) (v:Value),its.toArray[i]?=some v->∃t,v=Value.str (ss.getD i Str.empty) t:=λi v hv=>by
  rw[yc1]at hv
  have hi:i<ss.length:=by rw[<-hl];exact(yam.mp hv).1
  obtain⟨u,hu,ru⟩:=r'.get (i:=i) (x:=.str ss[i]) (by rw[ybd,yar hi];rfl)
  rw[hv]at hu;cases hu
  obtain⟨t,rfl⟩:=ru
  exact⟨t,by rw[yba,yar hi];rfl⟩
 refine call_setL (I.ok.hd hc) pl.isList at_ (by rw[yas,hl];show _<4096;omega) λh' tk L S N hle hm kp=>?_
 rw[yas,hl]at hle
 refine⟨.ref s.heap.objs.size,_,I.laid (a:=s.heap.objs.size) (o:=SetV X.w L s.heap.objs.size) (t':=tk) kp (yap _) (SetV.ok S),rfl,q _ L (I.hok.fresh (yap _)) N hle λy=>?_⟩
 rw[hm y,yas,hl]
 constructor
 ·rintro⟨j,hj,rfl⟩
  rw[yba,yar hj]
  exact ybr hj
 ·intro z
  obtain⟨j,hj,rfl⟩:=ycu z
  exact⟨j,hj,by rw[yba,yar hj];rfl⟩
noncomputable def rSortedS(w:World):List V->Hp->VK->Prop:=λxs H Q=>∃(p:Addr) (L:List Str),xs=[.ref p]/\H p=some (SetV w L p)/\L.length<64/\∀(l:Addr) (ss':List Str),H l=none->ss'.Perm L->ss'.Pairwise leS->Q (.ref l) (upd H l (.lst (ss'.map V.str)))
theorem call_sortedS(hc:X.calm=true):CallR X (.builtin "sorted") (rSortedS X.w):=by
 intro pins s σ H xs us Q I r h
 obtain⟨p,L,rfl,hq,hz,q⟩:=h
 obtain⟨u,rfl,rx⟩:=vals1 r
 cases rx
 have S:SetT X.w s.heap p L:=(I.hok p _ hq).1
 have hh:X.A.in1.handled=none:=by simp[I.ok.hd hc]
 refine sorted_by (collect_set S hh λs1 vs ord kp g1 o1 pm hl at_=>?_)
 refine⟨ord,strs_ix hl at_,by rw[hl,pm.length_eq];exact hz,λh2 out ss' D e k2 hD hg S2 pm2 pw=>?_⟩
 have I1:Inv X pins σ H s1:=I.call' (ch:=[]) o1 (Un.kept kp) (I.hok.kept kp) (g1▸I.bare) λb hb=>nomatch hb
 exact⟨.ref D,_,I1.laid (a:=D) (o:=.lst (ss'.map V.str)) (t':=s1.toks) k2 hD ⟨by rw[yaa,pm2.length_eq,pm.length_eq,sizeLine_eq];omega,out,e,of_strs S2,by simpa using hg⟩,rfl,q _ ss' (I1.hok.fresh hD) (pm2.trans pm) pw⟩
end
end L2
namespace L2
open PySem PySem.Spec PyProof.Rows
section
variable{X:Cx}
end
structure Pr(H:Hp)(p:PcM):Prop where
 sl:H p.ls=some (.lst (p.sts.map StM.v))
 nl:H p.ln=some (.lst (p.nms.map ToldM.v))
 ss:∀s∈p.sts,s.At H
 ns:∀n∈p.nms,n.At H
 nd:p.lists.Nodup
section
variable{prog:Program}{w:World}{K:Type} [DecidableEq K]{knd:HeapKind prog w K}{A:Around}{E:Vs}{s:Shared}
theorem grown(ho:h.get? d=some o)(hd:o.data=.dict es ep)(hc:o.ExactDict)
  (he:es.toList=xs.map (entryOfKey knd)) (his:∀x∈xs,knd.is h x.1 x.2.1) (hn:(xs.map (·.1)).Nodup) (hkey:knd.is h k a) (hno:∀(j:Nat) (p:Addr×Value),xs[j]?≠some (k,p)):
  (h.update d (Obj.mapDictKeys λl=>l.push ⟨knd.hash k,.ref a,v⟩)).DictOfH knd d (storedH xs k a v):=by
 have e:storedH xs k a v=xs++[(k,a,v)]:=storedH_new (atKey_none_of_get hno) a v
 have keep:∀{c:K}{b:Addr},knd.is h c b->knd.is (h.update d (Obj.mapDictKeys λl=>l.push ⟨knd.hash k,.ref a,v⟩)) c b:=λq=>knd.keeps q ho hd (Heap.SameBut.update ..)
 have dat:=Obj.data_mapDictKeys hd λl=>l.push ⟨knd.hash k,.ref a,v⟩
 refine e▸⟨_,es.push ⟨knd.hash k,.ref a,v⟩,ep+1,ybf _ ho (Obj.isFreed_of_dict dat),hc.mapDictKeys _,dat,?_,?_,?_⟩
 ·rw[Array.toList_push,he,yac];rfl
 ·exact λx hx=>(yai.mp hx).elim (λq=>keep (his x q)) λq=>by cases yae.mp q;exact keep hkey
 ·rw[yac]
  refine ya3.mpr ⟨hn,by simp,λx hx y hy q=>not_mem_keys_of_get hno ?_⟩
  have ey:y=k:=by simpa using hy
  rw[<-ey,<-q];exact hx
theorem setdef_heap(hu:knd.room A)(hkey:knd.is s.heap k a)(hm:s.heap.DictOfH knd d xs)(hsz:xs.length<=sizeLine)
  (there:∀u,(atKey xs k).map (·.2)=some u->Q u { s with toks:=s.toks+knd.draws k })
  (new:(atKey xs k).map (·.2)=none->∀h',h'.DictOfH knd d (storedH xs k a v)->Heap.SameBut d s.heap h'->Q v { s with heap:=h',toks:=s.toks+knd.draws k }):
  wpAny (model prog w) A (dictSetDefault d (.ref a) v) Q E s:=by
 obtain⟨o,es,ep,ho,hc,hd,he,his,hn⟩:=hm
 have hes:es.size<=sizeLine:=by rw[size_of_entries he];exact hsz
 have none_of:∀hno:(∀(j:Nat) (p:Addr×Value),xs[j]?≠some (k,p)),(atKey xs k).map (·.2)=none:=λhno=>by rw[atKey_none_of_get hno];rfl
 exact ybo (yab (knd.pyHash hu hkey (yab (wpAny_dictFind_heap (s:={ s with toks:=s.toks+knd.draws k }) hu hkey ho hd he his hn
  (λhno=>yab (yc5 (yab (wpAny_updateDictKeys (hz:=hes) (s:={ s with toks:=s.toks+knd.draws k }) ho hd (yaf (new (none_of hno) _ (grown ho hd hc he his hn hkey hno) (Heap.SameBut.update ..)))))))
  λj p hj=>yab (wpAny_dictEntries (s:={ s with toks:=s.toks+knd.draws k }) ho hd (by
   rw[entry_at he j,hj]
   exact yab (yc5 (yaf (there p.2 (by rw[atKey_of_get hn hj];rfl))))))))))
theorem meets_sd(knd:HeapKind prog w K){d:Addr}(a:Addr)(hd:(d == sysModules)=false)(x:Value):
  MeetsIn prog w (Builtin.«dict.setdefault» ⟨[.ref d,.ref a,x],[]⟩) λA R s=>knd.room A.in1/\∃k xs,knd.is s.heap k a/\s.heap.DictOfH knd d xs/\xs.length<=sizeLine/\
   (∀v,(atKey xs k).map (·.2)=some v->R (.ok (.ret v)) { s with toks:=s.toks+knd.draws k })/\
   ((atKey xs k).map (·.2)=none->∀h',h'.DictOfH knd d (storedH xs k a x)->Heap.SameBut d s.heap h'->R (.ok (.ret x)) { s with heap:=h',toks:=s.toks+knd.draws k }):=by
 refine .of_wp ?_
 rintro A R s ⟨hu,k,xs,hkey,hm,hz,there,new⟩
 have main:=setdef_heap (v:=x) (E:=λe s'=>R (.error e) s') (Q:=λv s'=>R (.ok (.ret v)) s') hu hkey hm hz there new
 refine yab (yab (wpAny_notOrdered_dict hm.typeIs (yaf ?_)))
 simp only[hd,Bool.false_eq_true,if_false]
 exact yab (ybk main (λv s' q=>yaf ⟨v,rfl,q⟩) λ_ _ q=>q)
end
section
variable{X:Cx}{pins:Lo}{σ:St}{H:Hp}{s:Shared}{a:Addr}{y d:V}{u r:Value}{o:Option V}{A:Around}{E:Vs}
theorem d_setdef(hu:A.units+1<cLine)(I:Inv X pins σ H s)(g:DGet H a y o)(p:DPut H a y d H')(ry:RelV y u)(rd:RelV d r)
  (h1:∀v w' s',o=some v->Inv X pins σ H s'->RelV v w'->Q w' s') (h2:∀w' s',o=none->Inv X pins σ H' s'->RelV d w'->Q w' s'):
  wpAny (model X.prog X.w) A (call (.builtin "dict.setdefault") [.ref a,u,r]) Q E s:=by
 rcases p with ⟨kvs,k,e,ey,l,eH⟩|⟨kvs,k,b,e,ey,eb,l,eH⟩
 ·subst ey eH
  obtain⟨z,hd,vs,rel,dd⟩:=dk_of I.hok e
  have go:o=valV kvs k:=by
   rcases g with ⟨kvs',k',e',ey',l'⟩|⟨kvs',k',b,e',ey',eb',l'⟩
   ·have ek:k'=k:=by cases k<;>cases k'<;>simp_all [kV]
    rcases e' with e'|⟨ob,e'⟩
    ·rw[e]at e';cases e';rw[l',ek]
    ·rw[e]at e';cases e'
   ·cases k<;>cases ey'
  have hz:vs.length<=sizeLine:=by rw[<-rel.length];exact z
  have hl:(putK kvs k d).length<=sizeLine:=by have:=length_putK kvs k d;omega
  refine call_meetsIn PySem.F.slot_dict_setdefault dd.typeIs PySem.F.entry_dict_setdefault (PySem.F.args_dict_setdefault_3 _ _ _) (kt_meets_setdefault (mixKind X.prog X.w) a (kV_is ry) hd r) ⟨vs,dd,hz,λv hv=>?_,λhn h' dd' hs=>?_⟩
  ·have q:=rel.val k
   rw[hv]at q
   cases ho:valV kvs k with
   |none=>rw[ho]at q;exact q.elim
   |some v'=>rw[ho]at q;exact h1 v' v _ (by rw[go,ho]) (I.tok _) q
  ·have q:=rel.val k
   rw[hn]at q
   have ho:valV kvs k=none:=by
    cases ho:valV kvs k with
    |none=>rfl
    |some v'=>rw[ho]at q;exact q.elim
   have he:∃q,h'.get? a=some q:=let ⟨q,_,_,hq,_⟩:=dd';⟨q,hq⟩
   exact h2 r _ (by rw[go,ho]) (d_write I (by rw[e];exact True.intro) hs he (dk_new hl hd (rel.put k rd) dd')) rd
 ·subst ey eH
  cases (show u=Value.ref b from ry)
  obtain⟨z,hd,xs,rel,dd⟩:=dt_of I.hok e
  have go:o=valV kvs k:=by
   rcases g with ⟨kvs',k',e',ey',l'⟩|⟨kvs',k',b',e',ey',eb',l'⟩
   ·cases k'<;>cases ey'
   ·cases ey'
    have ek:k'=k:=by
     rw[eb]at eb'
     injection eb' with eb'
     injection eb' with eb'
     exact(List.map_inj_right (f:=kV) (by intro x y q;cases x<;>cases y<;>simp_all [kV])).mp eb'.symm
    rcases e' with e'|⟨ob,e'⟩
    ·rw[e]at e';cases e';rw[l',ek]
    ·rw[e]at e';cases e'
  have hz:xs.length<=sizeLine:=by rw[<-Paired.length rel];exact z
  have hl:(putK kvs k d).length<=sizeLine:=by have:=length_putK kvs k d;omega
  refine call_meetsIn PySem.F.slot_dict_setdefault dd.typeIs PySem.F.entry_dict_setdefault (PySem.F.args_dict_setdefault_3 _ _ _) (meets_sd (tupleKind (mixKind X.prog X.w)) b hd r) ⟨tupleKind_room_in1 hu,k,xs,key_of I.hok eb,dd,hz,λv hv=>?_,λhn h' dd' hs=>?_⟩
  ·have q:=rel.val k
   rw[hv]at q
   cases ho:valV kvs k with
   |none=>rw[ho]at q;exact q.elim
   |some v'=>rw[ho]at q;exact h1 v' v _ (by rw[go,ho]) (I.tok _) q
  ·have q:=rel.val k
   rw[hn]at q
   have ho:valV kvs k=none:=by
    cases ho:valV kvs k with
    |none=>rfl
    |some v'=>rw[ho]at q;exact q.elim
   obtain⟨qo,es,ep,hq,g2,g3,g4,_,g5⟩:=dd'
   refine h2 r _ (by rw[go,ho]) (d_write I (by rw[e];exact True.intro) hs ⟨qo,hq⟩ ⟨hl,hd,_,(rel.put k eb rd).keeps λc ys ec=>?_,qo,es,ep,hq,g2,g3,g4,g5⟩) rd
   rw[upd_ne (ne_of ec e (λz=>nomatch z))]
   exact ec
end
def tDSd(td ty tx:TE):TE:=λσ H Q=>td σ H λx H1=>∃a,x=.ref a/\IsD H1 a/\ty σ H1 λy H2=>tx σ H2 λz H3=>∃o H4,DGet H3 a y o/\DPut H3 a y z H4/\(∀v,o=some v->Q v H3)/\(o=none->Q z H4)
section
variable{X:Cx}{o e f:Expr}{apos cpos:Pos}{td ty tx:TE}
theorem pe_dsd(hu:X.A.units+1<cLine)(ho:PE X o td)(he:PE X e ty)(hf:PE X f tx)(m:M2 X o "setdefault" apos e f cpos):PE X (.Call (.Attribute o "setdefault" apos) [e,f] [] cpos) (tDSd td ty tx):=by
 intro pins s σ H Q I h
 refine wpAny_Call_method m.base m.few m.line PySem.F.plainAttrs_dict PySem.F.slot_dict_setdefault PySem.F.type_dict_setdefault (thn (ho pins s σ H _ I h) λu s1 ⟨x,H1,I1,rx,a,ex,d,q1⟩=>?_)
 subst ex
 obtain rfl:u=Value.ref a:=rx
 obtain⟨t1,t2,_⟩:=isD_at I1 d
 refine⟨t1,t2,?_⟩
 rw[m.trees]
 refine Calls.callWith_builtin rfl (Calls.evalArgs_plain (Calls.spliced_cons (thn (he pins s1 σ H1 _ I1 q1) λiv s2 ⟨y,H2,I2,ry,q2⟩=>
  Calls.spliced_cons (thn (hf pins s2 σ H2 _ I2 q2) λfv s3 ⟨z,H3,I3,rz,ov,H4,g,p,q3,q4⟩=>Calls.spliced_nil ?_))))
 exact d_setdef hu I3 g p ry rz (λv w' s4 e4 I4 rw'=>⟨v,H3,I4,rw',q3 v e4⟩) (λw' s4 e4 I4 rw'=>⟨z,H4,I4,rw',q4 e4⟩)
end
section
variable{prog:Program}{w:World}{A:Around}{E:Vs}{s:Shared}{kd:SortKind}{r:Keyed->Nat}{base:Array Keyed}
noncomputable def rk(r:Keyed->Nat)(xs:Array Keyed)(i:Nat):Nat:=(xs[i]?.map r).getD 0
def Rise(r:Keyed->Nat)(xs:Array Keyed)(n:Nat):Prop:=∀i j,i<=j->j<n->rk r xs i<=rk r xs j
def Fall(r:Keyed->Nat)(xs:Array Keyed)(n:Nat):Prop:=∀i j,i<=j->j<n->rk r xs j<=rk r xs i
def Flat(r:Keyed->Nat)(xs:Array Keyed)(n q:Nat):Prop:=q+1<=n/\∀i,n<=i+(q+1)->i<n->rk r xs i=rk r xs (n - 1)
theorem Rise.one(xs:Array Keyed):Rise r xs 1:=λi j a b=>by rw[show i=j by omega];exact yap _
theorem Fall.one(xs:Array Keyed):Fall r xs 1:=λi j a b=>by rw[show i=j by omega];exact yap _
theorem Rise.more(h:Rise r xs n)(h1:1<=n)(hn:rk r xs (n - 1)<=rk r xs n):Rise r xs (n+1):=λi j a b=>by
 by_cases z:j<n
 ·exact h i j a z
 ·rw[show j=n by omega]
  by_cases y:i=n
  ·rw[y];exact yap _
  ·exact yay (h i (n - 1) (by omega) (by omega)) hn
theorem Fall.more(h:Fall r xs n)(h1:1<=n)(hn:rk r xs n<=rk r xs (n - 1)):Fall r xs (n+1):=λi j a b=>by
 by_cases z:j<n
 ·exact h i j a z
 ·rw[show j=n by omega]
  by_cases y:i=n
  ·rw[y];exact yap _
  ·exact yay hn (h i (n - 1) (by omega) (by omega))
theorem rk_turn(hj:j<=xs.size)(k:Nat):rk r (mirror xs i j ((j - i) / 2)) k=if i<=k/\k<j then rk r xs (i+j - 1 - k) else rk r xs k:=by
 unfold rk
 rw[getElem?_mirror_all hj k]
 by_cases z:i<=k/\k<j
 ·rw[if_pos z,if_pos z]
 ·rw[if_neg z,if_neg z]
theorem rk_flat(h:Flat r xs n q)(hn:n<=xs.size)(k:Nat):rk r (mirror xs (n - (q+1)) n ((n - (n - (q+1))) / 2)) k=rk r xs k:=by
 rw[rk_turn hn]
 by_cases z:n - (q+1)<=k/\k<n
 ·rw[if_pos z,h.2 _ (by omega) (by omega),h.2 k (by omega) (by omega)]
 ·rw[if_neg z]
theorem Fall.turned(h:Fall r xs n)(hn:n<=xs.size):Rise r (mirror xs 0 n ((n - 0) / 2)) n:=λi j a b=>by
 rw[rk_turn hn,rk_turn hn,if_pos (by omega),if_pos (by omega)]
 exact h _ _ (by omega) (by omega)
structure Srt(kd:SortKind)(base:Array Keyed)(st:SortSt):Prop where
 pm:(arrOf st).Perm base
 kd:kindOf st=kd
 ok:failedOf st=none
 pn:pendingOf st=#[]
theorem Srt.len{st:SortSt}(h:Srt kd base st):(arrOf st).size=base.size:=h.pm.size_eq
theorem Srt.put{st:SortSt}(h:Srt kd base st){xs:Array Keyed}(p:xs.Perm (arrOf st)):Srt kd base (setArr st xs):=⟨p.trans h.pm,h.kd,h.ok,h.pn⟩
def Asks(prog:Program)(w:World)(A:Around)(E:Vs)(s:Shared)(kd:SortKind)(r:Keyed->Nat)(base:Array Keyed):Prop:=
 ∀x∈base.toList,∀y∈base.toList,∀Q:Bool->Shared->Prop,Q (decide (r x<r y)) s->wpAny (model prog w) A (keyLt' kd x.1 y.1) Q (λ_ _=>False) s
theorem asked{st:SortSt}{i j:Nat}{Q:Option Bool->SortSt->Prop}(ask:Asks prog w A E s kd r base)(S:Srt kd base st)(hi:i<base.size)(hj:j<base.size)
  (q:Q (some (decide (rk r (arrOf st) i<rk r (arrOf st) j))) st):wpS (model prog w) A E s (ltAt' i j) Q st:=by
 have li:i<(arrOf st).size:=by rw[S.len];exact hi
 have lj:j<(arrOf st).size:=by rw[S.len];exact hj
 have ei:(arrOf st)[i]?=some (arrOf st)[i]:=getElem?_pos _ i li
 have ej:(arrOf st)[j]?=some (arrOf st)[j]:=getElem?_pos _ j lj
 have mem:∀{k:Nat}(h:k<(arrOf st).size),(arrOf st)[k]∈base.toList:=λ{k} h=>(Array.perm_iff_toList_perm.mp S.pm).mem_iff.mp (Array.getElem_mem_toList h)
 unfold rk at q
 rw[ei,ej]at q
 rw[ltAt'_eq]
 refine wpS_bind (wpS_get ?_)
 dsimp only
 rw[elem'_eq,elem'_eq,ei,ej]
 refine wpS_bind (wpS_pure (wpS_bind (wpS_pure ?_)))
 rw[lt'_eq]
 refine wpS_bind (wpS_get (wpS_bind (wpS_lift (ycl ?_))))
 rw[S.kd]
 exact ybk (ask _ (mem li) _ (mem lj) (λb s'=>b=decide (r (arrOf st)[i]<r (arrOf st)[j])/\s'=s) ⟨rfl,rfl⟩) (λb s' ⟨e1,e2⟩=>⟨e2,by subst e1;exact wpS_pure q⟩) λ_ _ z=>z.elim
theorem asc_loop{st:SortSt}{a n:Nat}{Q:AscSt->SortSt->Prop}(ask:Asks prog w A E s kd r base)(S:Srt kd base st)(ha:1<=a)(han:a<=n)(hn:n<=base.size)(up:Rise r (arrOf st) a)
  (k:∀m,a<=m->m<=n->Rise r (arrOf st) m->(m=n\/rk r (arrOf st) m<rk r (arrOf st) (m - 1))->Q (none,m) st):wpS (model prog w) A E s (ascLoop a n) Q st:=by
 refine wpS_forRange (I:=λm c st'=>st'=st/\c=(none,m)/\Rise r (arrOf st) m) (λm c st' am mn ⟨e1,e2,up'⟩=>?_) (λc st' ⟨e1,e2,up'⟩=>?_) ⟨rfl,rfl,up⟩
 ·subst e1 e2
  refine wpS_bind (asked ask S (by omega) (by show m - 1<_;omega) ?_)
  by_cases lt:rk r (arrOf st') m<rk r (arrOf st') (m - 1)
  ·simp only[decide_eq_true lt,if_true]
   exact wpS_pure (k m am (by omega) up' (.inr lt))
  ·simp only[decide_eq_false lt,Bool.false_eq_true,if_false]
   exact wpS_pure ⟨rfl,rfl,up'.more (by omega) (by omega)⟩
 ·subst e1 e2
  have e:max a n=n:=by omega
  rw[e]at up' ⊢
  exact k n han (yap _) up' (.inl rfl)
theorem fall_tail{st:SortSt}{m n:Nat}{Q:Option Nat->SortSt->Prop}(ask:Asks prog w A E s kd r base)(S:Srt kd base st)(h1:1<=m)(hm:m<=n)(hn:n<=base.size)(dn:Fall r (arrOf st) m)
  (k:∀j st',Srt kd base st'->1<=j->j<=n->Rise r (arrOf st') j->Q (some j) st'):wpS (model prog w) A E s (tail3 m n) Q st:=by
 have up:=dn.turned (by rw[S.len];omega)
 have S':=S.put (mirror_perm (arrOf st) 0 m ((m - 0) / 2))
 exact wpS_bind (wpS_reverse (wpS_bind (asc_loop ask S' h1 hm hn up λj mj jn up' _=>wpS_pure (k j _ S' (by omega) jn up'))))
theorem desc_loop{st:SortSt}{a n:Nat}{Q:DescSt->SortSt->Prop}(ask:Asks prog w A E s kd r base)(S:Srt kd base st)(ha:1<=a)(han:a<=n)(hn:n<=base.size)(dn:Fall r (arrOf st) a)
  (k:∀m q st',Srt kd base st'->a<=m->m<=n->Fall r (arrOf st') m->Flat r (arrOf st') m q->Q (none,m,q) st'):wpS (model prog w) A E s (descLoop a n) Q st:=by
 refine wpS_forRange (I:=λm c st'=>Srt kd base st'/\∃q,c=(none,m,q)/\Fall r (arrOf st') m/\Flat r (arrOf st') m q) (λm c st' am mn ⟨S',q,e,dn',fl⟩=>?_) (λc st' ⟨S',q,e,dn',fl⟩=>?_)
  ⟨S,0,rfl,dn,ha,λi p1 p2=>by rw[show i=a - 1 by omega]⟩
 ·subst e
  have sz:m<(arrOf st').size:=by rw[S'.len];omega
  have one:∀xs:Array Keyed,Flat r xs (m+1) 0:=λxs=>⟨by omega,λi a b=>by rw[show i=m by omega];rfl⟩
  refine wpS_bind (asked ask S' (by show m<_;omega) (by show m - 1<_;omega) ?_)
  by_cases lt:rk r (arrOf st') m<rk r (arrOf st') (m - 1)
  ·simp only[decide_eq_true lt,if_true]
   by_cases q0:q>0
   ·rw[if_pos q0]
    have same:=rk_flat fl (yci sz)
    refine wpS_bind (wpS_reverse (wpS_pure ⟨S'.put (mirror_perm ..),0,rfl,Fall.more (λi j a b=>?_) (by omega) ?_,one _⟩))
    ·show rk r (mirror _ _ _ _) j<=rk r (mirror _ _ _ _) i
     rw[same,same];exact dn' i j a b
    ·show rk r (mirror _ _ _ _) m<=rk r (mirror _ _ _ _) (m - 1)
     rw[same,same];exact yci lt
   ·rw[if_neg q0]
    exact wpS_pure ⟨S',0,rfl,dn'.more (by omega) (yci lt),one _⟩
  ·simp only[decide_eq_false lt,Bool.false_eq_true,if_false]
   refine wpS_bind (asked ask S' (by show m - 1<_;omega) (by show m<_;omega) ?_)
   by_cases gt:rk r (arrOf st') (m - 1)<rk r (arrOf st') m
   ·simp only[decide_eq_true gt,if_true]
    exact wpS_pure (k m q st' S' am (by omega) dn' fl)
   ·simp only[decide_eq_false gt,Bool.false_eq_true,if_false]
    refine wpS_pure ⟨S',q+1,rfl,dn'.more (by omega) (by omega),by have:=fl.1;omega,λi a b=>?_⟩
    show _=rk r (arrOf st') m
    by_cases z:i=m
    ·rw[z]
    ·have:=fl.2 i (by omega) (by omega);omega
 ·subst e
  have e:max a n=n:=by omega
  rw[e]at dn' fl ⊢
  exact k n q st' S' han (yap _) dn' fl
theorem desc_part{st:SortSt}{m n:Nat}{Q:Option Nat->SortSt->Prop}(ask:Asks prog w A E s kd r base)(S:Srt kd base st)(hm:m+1<=n)(hn:n<=base.size)(dn:Fall r (arrOf st) (m+1))
  (k:∀j st',Srt kd base st'->1<=j->j<=n->Rise r (arrOf st') j->Q (some j) st'):wpS (model prog w) A E s (descPart m n) Q st:=by
 refine wpS_bind (wpS_lift (yc5 ⟨rfl,wpS_bind (desc_loop ask S (by omega) hm hn dn λj q st' S' mj jn dn' fl=>?_)⟩))
 by_cases q0:q>0
 ·have same:=rk_flat fl (by rw[S'.len];omega)
  simp only[q0,if_true]
  exact wpS_bind (wpS_reverse (fall_tail ask (S'.put (mirror_perm ..)) (by omega) jn hn (λi l a b=>by show rk r (mirror _ _ _ _) l<=rk r (mirror _ _ _ _) i;rw[same,same];exact dn' i l a b) k))
 ·simp only[q0,if_false]
  exact fall_tail ask S' (by omega) jn hn dn' k
theorem first_run{st:SortSt}{n:Nat}{Q:Option Nat->SortSt->Prop}(ask:Asks prog w A E s kd r base)(S:Srt kd base st)(h1:1<=n)(hn:n<=base.size)
  (k:∀j st',Srt kd base st'->1<=j->j<=n->Rise r (arrOf st') j->Q (some j) st'):wpS (model prog w) A E s (countRun' 0 n) Q st:=by
 rw[countRun0_eq]
 refine wpS_bind (asc_loop ask S (yap 1) h1 hn (Rise.one _) λm m1 mn up why=>?_)
 by_cases z:m=n
 ·simp only[beq_iff_eq,z,if_true]
  exact wpS_pure (k n st S h1 (yap _) (z▸up))
 ·have lt:=why.resolve_left z
  simp only[beq_iff_eq,z,if_false]
  by_cases m2:m>1
  ·rw[if_pos m2]
   refine wpS_bind (asked ask S (by omega) (by show m - 1<_;omega) ?_)
   by_cases rose:rk r (arrOf st) 0<rk r (arrOf st) (m - 1)
   ·simp only[decide_eq_true rose,if_true]
    exact wpS_pure (k m st S m1 mn up)
   ·simp only[decide_eq_false rose,Bool.false_eq_true,if_false]
    have eq:∀i,i<m->rk r (arrOf st) i=rk r (arrOf st) (m - 1):=λi hi=>by
     have a:=up 0 i (by omega) hi
     have b:=up i (m - 1) (by omega) (by omega)
     omega
    have sz:m<=(arrOf st).size:=by rw[S.len];omega
    have same:∀i,rk r (mirror (arrOf st) 0 m ((m - 0) / 2)) i=rk r (arrOf st) i:=λi=>by
     rw[rk_turn sz]
     by_cases y:0<=i/\i<m
     ·rw[if_pos y,eq _ (by omega),eq i y.2]
     ·rw[if_neg y]
    refine wpS_bind (wpS_reverse (desc_part ask (S.put (mirror_perm ..)) (by omega) hn (λi j a b=>?_) k))
    show rk r (mirror (arrOf st) 0 m ((m - 0) / 2)) j<=rk r (mirror (arrOf st) 0 m ((m - 0) / 2)) i
    rw[same,same]
    by_cases jm:j=m
    ·by_cases im:i=m
     ·rw[jm,im];exact yap _
     ·have:=eq i (by omega);rw[jm];omega
    ·have a1:=eq i (by omega);have a2:=eq j (by omega);omega
  ·rw[if_neg m2]
   have e:m=1:=by omega
   subst e
   exact desc_part ask S (by omega) hn ((Fall.one _).more (yap _) (yci lt)) k
theorem rk_moved(hk:k<xs.size)(hl:l<=k)(i:Nat):rk r (bubble xs k (k - l)) i=if i=l then rk r xs k else if l<i/\i<=k then rk r xs (i - 1) else rk r xs i:=by
 have e:=getElem?_bubble hk (k - l) (by omega) i
 rw[show k - (k - l)=l by omega]at e
 unfold rk
 rw[e]
 by_cases a:i=l
 ·rw[if_pos a,if_pos a]
 ·rw[if_neg a,if_neg a]
  by_cases b:l<i/\i<=k
  ·rw[if_pos b,if_pos b]
  ·rw[if_neg b,if_neg b]
theorem put_in{st:SortSt}{n ok:Nat}{Q:Bool->SortSt->Prop}(ask:Asks prog w A E s kd r base)(S:Srt kd base st)(h1:1<=ok)(hok:ok<=n)(hn:n<=base.size)(up:Rise r (arrOf st) ok)
  (q:∀st',Srt kd base st'->Rise r (arrOf st') n->Q true st'):wpS (model prog w) A E s (binarySort' 0 n ok) Q st:=by
 rw[binarySort'_eq]
 simp only[Nat.zero_add]
 have e1:max ok 1=ok:=by omega
 rw[e1]
 refine wpS_bind (wpS_mono (wpS_forRange (I:=λk c st'=>c=(none,())/\Srt kd base st'/\Rise r (arrOf st') k) (Q:=λc st'=>c=(none,())/\Srt kd base st'/\Rise r (arrOf st') n) (λk c st' ak kn ⟨e,S',up'⟩=>?step) (λc st' ⟨e,S',up'⟩=>?fin) ⟨rfl,S,up⟩) ?post)
 case step=>
  subst e
  have hk:k<(arrOf st').size:=by rw[S'.len];omega
  refine wpS_bind (wpS_mono (wpS_forRange (I:=λx c st2=>st2=st'/\∃l u,c=(none,l,u)/\l<=u/\u<=k/\u - l+x<=k/\(∀i,i<l->rk r (arrOf st') i<=rk r (arrOf st') k)/\∀i,u<=i->i<k->rk r (arrOf st') k<rk r (arrOf st') i)
   (Q:=λc st2=>st2=st'/\∃l u,c=(none,l,u)/\l<=k/\(∀i,i<l->rk r (arrOf st') i<=rk r (arrOf st') k)/\∀i,l<=i->i<k->rk r (arrOf st') k<rk r (arrOf st') i)
   (λx c st2 _ xk ⟨e,l,u,ec,lu,uk,small,lo,hi⟩=>?look) (λc st2 ⟨e,l,u,ec,lu,uk,small,lo,hi⟩=>⟨e,l,u,ec,by omega,lo,λi a b=>hi i (by omega) b⟩) ⟨rfl,0,k,rfl,by omega,by omega,by omega,λi a=>by omega,λi a b=>by omega⟩) ?move)
  case look=>
   subst e ec
   dsimp only
   by_cases z:l≥u
   ·rw[if_pos z]
    exact wpS_pure ⟨rfl,l,u,rfl,by omega,lo,λi a b=>hi i (by omega) b⟩
   ·rw[if_neg z]
    refine wpS_bind (asked ask S' (by omega) (by omega) ?_)
    by_cases lt:rk r (arrOf st2) k<rk r (arrOf st2) ((l+u) / 2)
    ·simp only[decide_eq_true lt,if_true]
     exact wpS_pure ⟨rfl,l,(l+u) / 2,rfl,by omega,by omega,by omega,lo,λi a b=>yat lt (up' _ _ a b)⟩
    ·simp only[decide_eq_false lt,Bool.false_eq_true,if_false]
     exact wpS_pure ⟨rfl,(l+u) / 2+1,u,rfl,by omega,by omega,by omega,λi a=>yay (up' i ((l+u) / 2) (by omega) (by omega)) (by omega),hi⟩
  case move=>
   rintro c st2 ⟨rfl,l,u,rfl,lk,lo,hi⟩
   dsimp only
   rw[moveDown'_eq]
   refine wpS_bind (wpS_modify (wpS_pure ⟨rfl,S'.put (bubble_perm ..),λi j a b=>?_⟩))
   show rk r (bubble (arrOf st2) k (k - l)) i<=rk r (bubble (arrOf st2) k (k - l)) j
   rw[rk_moved hk lk,rk_moved hk lk]
   have U:=λx y (p:x<=y) (q:y<k)=>up' x y p q
   by_cases c1:i=l
   ·rw[if_pos c1]
    by_cases c2:j=l
    ·rw[if_pos c2];exact yap _
    ·rw[if_neg c2,if_pos (by omega)];exact yci (hi _ (by omega) (by omega))
   ·rw[if_neg c1]
    by_cases c3:l<i/\i<=k
    ·rw[if_pos c3,if_neg (by omega),if_pos (by omega)];exact U _ _ (by omega) (by omega)
    ·rw[if_neg c3]
     by_cases c2:j=l
     ·rw[if_pos c2];exact lo i (by omega)
     ·rw[if_neg c2]
      by_cases c4:l<j/\j<=k
      ·rw[if_pos c4];exact U _ _ (by omega) (by omega)
      ·rw[if_neg c4];exact U _ _ (by omega) (by omega)
 case fin=>
  have e2:max ok n=n:=by omega
  rw[e2]at up'
  exact⟨e,S',up'⟩
 case post=>
  rintro c st' ⟨rfl,S',up'⟩
  exact wpS_pure (q st' S' up')
theorem by_ranks{st:SortSt}{Q:Unit->SortSt->Prop}(ask:Asks prog w A E s kd r base)(S:Srt kd base st)(h2:2<=base.size)(h64:base.size<64)
  (k:∀st',(arrOf st').Perm base->failedOf st'=none->Rise r (arrOf st') base.size->Q () st'):wpS (model prog w) A E s sortRuns' Q st:=by
 have run:minRun' base.size base.size 0=base.size:=by
  generalize base.size=n at h2 h64
  cases n with
  |zero=>omega
  |succ f=>rw[minRun'_succ,if_pos h64]
 rw[sortRuns'_eq]
 refine wpS_bind (wpS_get ?_)
 simp only[S.len,run]
 refine wpS_bind (wpS_mono (wpS_forRange (I:=λx c st'=>if x=0 then c=(none,0)/\Srt kd base st' else c=(none,base.size)/\(arrOf st').Perm base/\failedOf st'=none/\(pendingOf st').size=1/\Rise r (arrOf st') base.size)
  (Q:=λc st'=>c=(none,base.size)/\(arrOf st').Perm base/\failedOf st'=none/\(pendingOf st').size=1/\Rise r (arrOf st') base.size) (λx c st' _ xn h=>?turn) (λc st' h=>?end_) ?start) ?rest)
 case start=>rw[if_pos rfl];exact⟨rfl,S⟩
 case end_=>rwa [if_neg (by omega)]at h
 case turn=>
  by_cases x0:x=0
  ·rw[if_pos x0]at h
   obtain⟨rfl,S'⟩:=h
   have pend:∀{st2:SortSt},Srt kd base st2->Rise r (arrOf st2) base.size->(arrOf (setPending st2 ((pendingOf st2).push (0,base.size,0)))).Perm base/\failedOf (setPending st2 ((pendingOf st2).push (0,base.size,0)))=none/\(pendingOf (setPending st2 ((pendingOf st2).push (0,base.size,0)))).size=1/\Rise r (arrOf (setPending st2 ((pendingOf st2).push (0,base.size,0)))) base.size:=λ{st2} S2 up=>by
    refine⟨S2.pm,S2.ok,?_,up⟩
    show((pendingOf st2).push (0,base.size,0)).size=1
    rw[S2.pn];rfl
   dsimp only
   rw[if_neg (by omega)]
   simp only[Nat.sub_zero,Nat.min_self,Nat.zero_add]
   refine wpS_bind (first_run ask S' (by omega) (yap _) λm st2 S2 m1 mn up=>?_)
   have last:∀{st3:SortSt},Srt kd base st3->(pendingOf st3).back?=none:=λ{st3} S3=>by rw[S3.pn];rfl
   dsimp only
   by_cases lt:m<base.size
   ·rw[if_pos lt]
    refine wpS_bind (wpS_lift (yc5 ⟨rfl,wpS_bind (put_in ask S2 m1 mn (yap _) up λst3 S3 up3=>?_)⟩))
    simp only[Bool.not_true,Bool.false_eq_true,if_false]
    refine wpS_bind (wpS_get ?_)
    rw[last S3]
    refine wpS_bind (wpS_modify (wpS_pure ?_))
    dsimp only
    rw[if_neg (by omega)]
    exact⟨rfl,pend S3 up3⟩
   ·rw[if_neg lt]
    have e:m=base.size:=by omega
    subst e
    refine wpS_bind (wpS_get ?_)
    rw[last S2]
    refine wpS_bind (wpS_modify (wpS_pure ?_))
    dsimp only
    rw[if_neg (by omega)]
    exact⟨rfl,pend S2 up⟩
  ·rw[if_neg x0]at h
   obtain⟨rfl,h⟩:=h
   dsimp only
   rw[if_pos (yap _)]
   exact wpS_pure ⟨rfl,h⟩
 case rest=>
  rintro c st' ⟨rfl,p1,p2,p3,p4⟩
  refine wpS_bind (wpS_mono (wpS_forRange (I:=λ_ c st2=>c=(none,())/\st2=st') (Q:=λc st2=>c=(none,())/\st2=st') (λx c st2 _ _ ⟨e1,e2⟩=>?stay) (λ_ _ h=>h) ⟨rfl,rfl⟩) ?done)
  case stay=>
   subst e1 e2
   refine wpS_bind (wpS_get ?_)
   rw[if_pos (Nat.le_of_eq p3)]
   exact wpS_pure ⟨rfl,rfl⟩
  case done=>
   rintro c st2 ⟨rfl,rfl⟩
   exact wpS_pure (k st2 p1 p2 p4)
end
noncomputable abbrev PairD:=Str×Int
noncomputable def ltP(a b:PairD):Bool:=if a.1=b.1 then decide (a.2<b.2) else decide (a.1.cps.toList<b.1.cps.toList)
def leP(a b:PairD):Prop:=ltP b a=false
theorem cps_inj{a b:Str}(h:a.cps.toList=b.cps.toList):a=b:=by
 cases a;cases b;congr 1;exact Array.toList_inj.mp h
theorem ltP_irr(a:PairD):ltP a a=false:=by unfold ltP;rw[if_pos rfl];simp
theorem ltP_cases(a b:PairD):ltP a b=true↔a.1.cps.toList<b.1.cps.toList\/(a.1=b.1/\a.2<b.2):=by
 unfold ltP
 by_cases h:a.1=b.1
 ·rw[if_pos h,decide_eq_true_eq]
  exact⟨λq=>.inr ⟨h,q⟩,λq=>q.elim (λz=>absurd z (by rw[h];exact List.lt_irrefl _)) (·.2)⟩
 ·rw[if_neg h,decide_eq_true_eq]
  exact⟨.inl,λq=>q.elim id λz=>absurd z.1 h⟩
theorem ltP_trans(h1:ltP a b=true)(h2:ltP b c=true):ltP a c=true:=by
 rw[ltP_cases]at *
 rcases h1 with h1|⟨e1,h1⟩<;>rcases h2 with h2|⟨e2,h2⟩
 ·exact .inl (List.lt_trans h1 h2)
 ·exact .inl (by rw[<-e2];exact h1)
 ·exact .inl (by rw[e1];exact h2)
 ·exact .inr ⟨e1.trans e2,by omega⟩
theorem ltP_total(h1:ltP a b=false)(h2:ltP b a=false):a=b:=by
 have n1:¬(a.1.cps.toList<b.1.cps.toList\/(a.1=b.1/\a.2<b.2)):=λq=>by rw[(ltP_cases a b).mpr q]at h1;cases h1
 have n2:¬(b.1.cps.toList<a.1.cps.toList\/(b.1=a.1/\b.2<a.2)):=λq=>by rw[(ltP_cases b a).mpr q]at h2;cases h2
 have e:a.1=b.1:=cps_inj (List.le_antisymm (List.not_lt.mp λq=>n2 (.inl q)) (List.not_lt.mp λq=>n1 (.inl q)))
 have e2:a.2=b.2:=by
  have m1:¬a.2<b.2:=λq=>n1 (.inr ⟨e,q⟩)
  have m2:¬b.2<a.2:=λq=>n2 (.inr ⟨e.symm,q⟩)
  omega
 exact Prod.ext e e2
theorem leP_trans(h1:leP a b)(h2:leP b c):leP a c:=by
 unfold leP at *
 cases h:ltP c a with
 |false=>rfl
 |true=>
  exfalso
  cases hb:ltP b a with
  |true=>rw[hb]at h1;cases h1
  |false=>
   cases ha:ltP a b with
   |true=>rw[ltP_trans h ha]at h2;cases h2
   |false=>rw[ltP_total ha hb]at h;rw[h]at h2;cases h2
noncomputable def rankP(ds:List PairD)(d:PairD):Nat:=ds.countP λe=>ltP e d
theorem countP_lt{α:Type}{p q:α->Bool}:∀{l:List α},(∀x∈l,p x=true->q x=true)->(∃x∈l,q x=true/\p x=false)->l.countP p<l.countP q
 |[],_,⟨x,hx,_⟩=>nomatch hx
 |y::l,h,⟨x,hx,h1,h2⟩=>by
  have le:l.countP p<=l.countP q:=List.countP_mono_left λz hz hp=>h z (.tail _ hz) hp
  rw[List.countP_cons,List.countP_cons]
  rcases yau.mp hx with rfl|hx
  ·rw[if_pos h1,if_neg (by rw[h2];simp)];omega
  ·have:=countP_lt (λz hz=>h z (.tail _ hz)) ⟨x,hx,h1,h2⟩
   by_cases z:p y=true
   ·rw[if_pos z,if_pos (h y (.head _) z)];omega
   ·rw[if_neg z];split<;>omega
theorem rankP_lt(ha:a∈ds):decide (rankP ds a<rankP ds b)=ltP a b:=by
 cases h:ltP a b with
 |true=>exact decide_eq_true (countP_lt (λx _ q=>ltP_trans q h) ⟨a,ha,h,ltP_irr a⟩)
 |false=>
  refine decide_eq_false (Nat.not_lt.mpr (List.countP_mono_left λx _ q=>?_))
  have le:leP x a:=leP_trans (a:=x) (b:=b) (c:=a) (by
   unfold leP
   cases z:ltP b x with
   |false=>rfl
   |true=>have:=ltP_trans q z;rw[ltP_irr]at this;cases this) h
  cases z:ltP x a with
  |true=>rfl
  |false=>
   have e:x=a:=ltP_total z le
   rw[e]at q;rw[q]at h;cases h
section
variable{prog:Program}{w:World}{A:Around}{E:Vs}{s:Shared}
end
section
variable{prog:Program}{w:World}{A:Around}{E:Vs}{s:Shared}
noncomputable def adr:Value->Addr
 |.ref b=>b
 |_=>0
noncomputable def twice(bs:List Addr):List Keyed:=bs.map λb=>(Value.ref b,Value.ref b)
end
section
variable{X:Cx}
theorem vals_refs:∀{as:List Addr},Vals (as.map V.ref) (as.map Value.ref)
 |[]=>.nil
 |_::_=>.cons rfl vals_refs
end
section
variable{X:Cx}
end
section
variable{prog:Program}{w:World}{A:Around}{E:Vs}{s:Shared}
end
section
variable{X:Cx}{e:Expr}{te:TE}{p1 p2 pos1 pos2:Pos}
def tLRev(K:Wf)(te:TE):TE:=λσ H Q=>te σ H λx H1=>∃p ys,x=.ref p/\SqL K H1 p ys/\ys.length<sizeLine/\∀l,H1 l=none->Q (.ref l) (upd H1 l (.lst ys.reverse))
end
section
variable{prog:Program}{w:World}{A:Around}{R:Result->Shared->Prop}{I S:Addr}{fp wr:List Addr}{n:Nat}{P:Nat->Value->Prop}{St:Nat->Heap->Prop}{d:Value}{f:Nat->Int}
noncomputable abbrev bestO(xs:Array Value)(c:Nat):Obj:={ cls:=.type "list", dict:=none,data:=.seq xs c,slots:=#[] }
end
section
variable{prog:Program}{w:World}{A:Around}{E:Vs}{s:Shared}
end
section
variable{X:Cx}{e:Expr}{te:TE}{p pos cp kp:Pos}{n:Int}{j:Nat}
end
section
variable{X:Cx}{a b c d:Expr}{ta tb tc td:TE}{pos:Pos}
end
def LtAt(A:Around)(s:Shared)(u v:Value)(r:Bool):Prop:=∀(prog:Program) (w:World) (E Q:Vs),Q (.bool r) s->wpAny (model prog w) A (richCompare .Lt u v) Q E s
section
open PySem.SeqAt
open PySem.AutoSeq1 (wpAny_loadPart')
open PySem.MeetsSeq PySem.MeetsSeq2 PySem.MeetsSeq3
theorem two_lt(l b:Addr)(x1 x2 y1 y2:Value)(n n2:Nat)(dd dd2:Option Addr)(sl sl2:Array (Option Value))(e1 r:Bool):
  Meets (Builtin.«tuple.__lt__» ⟨[.ref l,.ref b],[]⟩)
   (λA R s=>s.heap.get? l=some { cls:=.type "tuple", dict:=dd,data:=.seq #[x1,x2] n,slots:=sl }/\s.heap.get? b=some { cls:=.type "tuple", dict:=dd2,data:=.seq #[y1,y2] n2,slots:=sl2 }/\
    EqAt A.in1 s x1 y1 e1/\(e1=false->LtAt A.in1 s x1 y1 r)/\(e1=true->EqAt A.in1 s x2 y2 false/\LtAt A.in1 s x2 y2 r)/\R (.ok (.ret (.bool r))) s):=
 .of_wp λprog w A R s h=>by
  obtain⟨hp,g,d,tk,os⟩:=s
  obtain⟨hl,hb,q1,q2,q3,hR⟩:=h
  have f2:=AutoSeq1.sub_tuple_tuple
  have w1:∀(E:Vs) (Q:Bool->Shared->Prop),Q e1 ⟨hp,g,d,tk,os⟩->wpAny (model prog w) A.in1 (eqBool x1 y1) Q E ⟨hp,g,d,tk,os⟩:=λE Q h=>q1 prog w E Q h
  cases e1 with
  |false=>
   have w2:∀(E Q:Vs),Q (.bool r) ⟨hp,g,d,tk,os⟩->wpAny (model prog w) A.in1 (richCompare .Lt x1 y1) Q E ⟨hp,g,d,tk,os⟩:=λE Q h=>q2 rfl prog w E Q h
   wp_walk using wpAny_loadPart' hl,wpAny_loadPart' hb,w1,w2
   exact⟨_,rfl,hR⟩
  |true=>
   obtain⟨q3,q4⟩:=q3 rfl
   have w3:∀(E:Vs) (Q:Bool->Shared->Prop),Q false ⟨hp,g,d,tk,os⟩->wpAny (model prog w) A.in1 (eqBool x2 y2) Q E ⟨hp,g,d,tk,os⟩:=λE Q h=>q3 prog w E Q h
   have w4:∀(E Q:Vs),Q (.bool r) ⟨hp,g,d,tk,os⟩->wpAny (model prog w) A.in1 (richCompare .Lt x2 y2) Q E ⟨hp,g,d,tk,os⟩:=λE Q h=>q4 prog w E Q h
   wp_walk using wpAny_loadPart' hl,wpAny_loadPart' hb,w1,w3,w4
   exact⟨_,rfl,hR⟩
end
theorem lt_two(hl:IsTup s.heap l #[x1,x2])(hb:IsTup s.heap b #[y1,y2])(hu:A.units<cLine)
  (h1:SeqAt.EqAt A.in1 s x1 y1 e1) (h2:e1=false->LtAt A.in1 s x1 y1 r) (h3:e1=true->SeqAt.EqAt A.in1 s x2 y2 false/\LtAt A.in1 s x2 y2 r):LtAt A s (.ref l) (.ref b) r:=by
 intro prog w E Q q
 obtain⟨⟨cls,dd,data,sl⟩,ho,hc,n,hd⟩:=id hl
 obtain⟨⟨cls2,dd2,data2,sl2⟩,ho2,hc2,n2,hd2⟩:=id hb
 simp only at hc hd hc2 hd2
 subst hc hd hc2 hd2
 exact richCompare_meets_room (op:=.Lt) ⟨_,ho,rfl⟩ ⟨_,ho2,rfl⟩ PySem.F.slot_tuple_lt PySem.F.entry_tuple_lt (PySem.F.args_tuple_lt_2 _ _) (two_lt l b x1 x2 y1 y2 n n2 dd dd2 sl sl2 e1 r)
  ⟨ho,ho2,h1,h2,h3,show Value.bool r≠Value.notImplemented/\Q (.bool r) s from ⟨(λx=>nomatch x),q⟩⟩ hu
def SameX(P:Addr)(H H':Hp):Prop:=∀b o,b≠P->H b=some o->H' b=some o
noncomputable def CRec(c:Addr)(q:Str):HO:=.ext λh=>h.CodeRec (.ref c) q
noncomputable def ObjO(f:Addr)(o:Obj):HO:=.ext λh=>h.get? f=some o
def TbOk(P:Addr)(pos:Pos)(q:Str)(H:Hp):Prop:=∃ps:Array Value,H P=some (.tbl ps)/\TriplesOk ps.toList/\(codeAmong pos ps.toList=none\/∃c,codeAmong pos ps.toList=some (.ref c)/\H c=some (CRec c q))
theorem TbOk.more(h:TbOk P pos q H)(s:∀b o,H b=some o->H' b=some o):TbOk P pos q H':=by
 obtain⟨ps,h1,h2,h3⟩:=h
 exact⟨ps,s _ _ h1,h2,h3.imp id λ⟨c,h4,h5⟩=>⟨c,h4,s _ _ h5⟩⟩
theorem crec_ok(e:h.CodeRec (.ref c) q):ObjOk P w H h c (CRec c q):=by
 refine⟨e,?_,?_⟩
 ·obtain⟨c',o,_,_,e1,e2,_⟩:=e
  cases e1
  exact⟨o,e2⟩
 ·rintro h1 h2 ⟨c',o,vs,t,e1,e2,e3⟩ k
  cases e1
  exact⟨c,o,vs,t,rfl,k o e2,e3⟩
theorem objo_ok(e:h.get? f=some o):ObjOk P w H h f (ObjO f o):=⟨e,⟨o,e⟩,λ_ _ e1 k=>k o e1⟩
def BMod(K:Wf)(mg:So):Prop:=∃(bm:Addr) (sl:Array (Option Value)),mg (Str.ofString "__builtins__")=some (.ref bm)/\bm≠builtinsNs/\bm≠mainGlobals/\K.lookup bm=some ⟨.type "module", some builtinsNs,.plain,sl⟩
section
variable{X:Cx}{pins:Lo}{σ:St}{H:Hp}{s:Shared}
theorem Inv.grow(I:Inv X pins σ H s)(hP:H P=some (.tbl ps))(k:∀b o,b≠P->s.heap.get? b=some o->h'.get? b=some o)(hP':h'.get? P=some (tabObj (ps++more)))
  (hc:s.heap.objs.size<=c) (hf:s.heap.objs.size<=f) (hcf:c≠f) (ok1:∀H'',ObjOk X.prog X.w H'' h' c o1) (ok2:∀H'',ObjOk X.prog X.w H'' h' f o2):
  Inv X pins σ (upd (upd (upd H P (.tbl (ps++more))) c o1) f o2) { s with heap:=h',toks:=t' }:=by
 have c0:H c=none:=I.hok.fresh hc
 have f0:H f=none:=I.hok.fresh hf
 have cP:P≠c:=zz4 hP c0
 have fP:P≠f:=zz4 hP f0
 have get:∀b,b≠P->b≠c->b≠f->upd (upd (upd H P (.tbl (ps++more))) c o1) f o2 b=H b:=λb n1 n2 n3=>by rw[upd_ne n3,upd_ne n2,upd_ne n1]
 have old:∀b o,s.heap.get? b=some o->b≠c/\b≠f:=λb o e=>⟨yax (yat (yal e) hc),yax (yat (yal e) hf)⟩
 have trk:∀b o,H b=some o->b≠P->upd (upd (upd H P (.tbl (ps++more))) c o1) f o2 b=some o:=λb o e n=>by
  rw[get b n (zz4 e c0) (zz4 e f0)];exact e
 have atP:upd (upd (upd H P (.tbl (ps++more))) c o1) f o2 P=some (.tbl (ps++more)):=by rw[upd_ne fP,upd_ne cP,zz1]
 refine I.un ⟨λb o e n _ _=>k b o (λz=>by rw[z,hP]at n;cases n) e,λb o e n _ _=>⟨o.slots,k b o (λz=>by rw[z,hP]at n;cases n) e⟩,λb o e n _=>?_,λb o e _=>?_,λb xs e=>trk b _ e (λz=>by rw[z,hP]at e;cases e),λb o u e=>trk b _ e (λz=>by rw[z,hP]at e;cases e),λb ps' e=>?_⟩ λb u e=>?_
 ·rw[get b (λz=>by rw[z,hP]at n;cases n) (old b o e).1 (old b o e).2];exact n
 ·by_cases z:b=P
  ·rw[z];exact⟨_,hP'⟩
  ·exact⟨o,k b o z e⟩
 ·by_cases z:b=P
  ·rw[z,hP]at e
   cases e
   rw[z];exact⟨more,atP⟩
  ·exact⟨#[],by rw[trk b _ e z];simp⟩
 ·by_cases z3:b=f
  ·rw[z3,zz1]at e
   cases e
   rw[z3];exact ok2 _
  ·by_cases z2:b=c
   ·rw[z2,upd_ne hcf,zz1]at e
    cases e
    rw[z2];exact ok1 _
   ·by_cases z1:b=P
    ·rw[z1,atP]at e
     cases e
     rw[z1];exact hP'
    ·rw[get b z1 z2 z3]at e
     refine(I.hok b u e).stay (λd v hd q=>k d v ?_ q) (λd q=>trk d _ q (λz=>by rw[z,hP]at q;cases q)) λd xs q=>trk d _ q (λz=>by rw[z,hP]at q;cases q)
     rcases hd with z|z
     ·rw[z];exact z1
     ·intro y;rw[y,hP]at z;cases z
theorem make_lam(I:Inv X pins σ H s)(hcl:closureFor sc X.env=pure [])(hcd:X.env.code=.ref c)(hc:codeHdIn X.K c P=true)(hb:BMod X.K X.mg)(ht:TbOk P pos q H)
  (k:∀(f c':Addr) (ctv pm:Value) (H':Hp) (s':Shared),Inv X pins σ H' s'->SameX P H H'->TbOk P pos q H'->H f=none->f≠P->H' f=some (ObjO f (kla_obj x q pr bd sc [] pm c' ctv))->H' c'=some (CRec c' q)->Q (.ref f) s'):
  wpAny (model X.prog X.w) A (makeFunction x q pr (.expr bd) sc X.env [] [] [] pos line) Q E s:=by
 obtain⟨ps,hP,tri,cs⟩:=ht
 have gP:s.heap.get? P=some (tabObj ps):=I.hok P _ hP
 have ns:s.heap.Ns mainGlobals X.mg:=I.ok.mod.glob.keeps I.bk
 have nP:∀b o,X.base.get? b=some o->b≠P:=λb o e z=>by
  have:=(I.bs b o e).2
  rw[z,hP]at this;cases this
 have mP:mainGlobals≠P:=by
  obtain⟨o,_,_,e,_⟩:=I.ok.mod.glob
  exact nP _ o e
 have hd:PySem.W.CodeHd s.heap c P:=codeHd_of_K I.kIn hc
 have bl:s.heap.BuiltinsAt X.mg P:=by
  obtain⟨bm,sl,e1,e2,e3,e4⟩:=hb
  exact⟨bm,_,e1,e2,e3,nP bm _ (I.ok.mod.kin _ _ e4),I.kIn _ _ e4,rfl,rfl,rfl⟩
 rcases cs with cs|⟨c',cs,hc'⟩
 ·refine PySem.W.kla_makeFunction hcl I.ok.glob ns hcd hd gP tri cs mP bl λc' ctv h' tk ext h1 h2 h3 h4=>?_
  have pk:∀b o,h'.get? b=some o->(h'.push (kla_obj x q pr bd sc [] ((X.mg (Str.ofString "__name__")).getD .none) c' ctv)).get? b=some o:=λb o e=>yad _ e
  have sz:s.heap.objs.size<=h'.objs.size:=by omega
  have fP:P≠h'.objs.size:=yax (yal h4)
  have cP:P≠c':=yax (yat (yal gP) h1)
  have J:=I.grow (P:=P) (c:=c') (f:=h'.objs.size) (t':=tk) (h':=h'.push (kla_obj x q pr bd sc [] ((X.mg (Str.ofString "__name__")).getD .none) c' ctv)) (o1:=CRec c' q) (o2:=ObjO h'.objs.size (kla_obj x q pr bd sc [] ((X.mg (Str.ofString "__name__")).getD .none) c' ctv)) hP
   (λb o n e=>pk b o (ext b o n e)) (pk _ _ h4) h1 sz (yax h2) (λH''=>crec_ok (by
    obtain⟨c2,o,vs,t,e1,e2,e3⟩:=h3
    exact⟨c2,o,vs,t,e1,pk _ _ e2,e3⟩)) (λH''=>objo_ok (yaq _ rfl))
  refine k _ c' ctv _ _ _ J (λb o n e=>?_) ⟨_,by rw[upd_ne fP,upd_ne cP,zz1],?_,.inr ⟨c',?_,by rw[upd_ne (yax h2),zz1]⟩⟩ (I.hok.fresh sz) (Ne.symm fP) zz1 (by rw[upd_ne (yax h2),zz1])
  ·rw[upd_ne (zz4 e (I.hok.fresh sz)),upd_ne (zz4 e (I.hok.fresh h1)),upd_ne n];exact e
  ·rw[Array.toList_append];exact TriplesOk_snoc _ _ _ _ tri
  ·rw[Array.toList_append];exact codeAmong_snoc _ tri cs
 ·refine PySem.W.kla_makeFunctionHit hcl I.ok.glob ns hcd hd gP tri cs bl λctv h' tk kp sz=>?_
  have J:=I.laid (a:=h'.objs.size) (t':=tk) (h':=h'.push (kla_obj x q pr bd sc [] ((X.mg (Str.ofString "__name__")).getD .none) c' ctv)) (o:=ObjO h'.objs.size (kla_obj x q pr bd sc [] ((X.mg (Str.ofString "__name__")).getD .none) c' ctv)) (λb o e=>yad _ (kp b o e)) sz (objo_ok (yaq _ rfl))
  have f0:=I.hok.fresh sz
  have st:∀b o,H b=some o->upd H h'.objs.size (ObjO h'.objs.size (kla_obj x q pr bd sc [] ((X.mg (Str.ofString "__name__")).getD .none) c' ctv)) b=some o:=λb o e=>by rw[upd_ne (zz4 e f0)];exact e
  exact k _ c' ctv _ _ _ J (λb o _ e=>st b o e) ⟨ps,st _ _ hP,tri,.inr ⟨c',cs,st _ _ hc'⟩⟩ f0 (λz=>by rw[z,hP]at f0;cases f0) zz1 (st _ _ hc')
end
theorem lam_run{P:Program}{w:World}{K:Wf}{mg:So}{base:Heap}{A:Around}{outer:List Env}{s:Shared}{H:Hp}{f c:Addr}{x q:Str}{pr:Arguments}{bd:Expr}{sc:Scope}{pm ct:Value}{N ps:List Str}{us:List Value}{vs:List V}{Q:VK}{t:TE}
  (ho:s.heap.get? f=some (kla_obj x q pr bd sc [] pm c ct)) (hc:s.heap.CodeRec (.ref c) q) (S:FnScope N ps sc) (hr:Room 1 A) (e0:Env0 P w K mg base A outer s H)
  (hb:BindsTo s (kla_fn x q pr bd sc [] pm (.ref c) ct) ⟨us,[]⟩ (ps.zip us)) (hl:vs.length=ps.length) (r:Vals vs us)
  (ht:PE (cxOf CX0 P w K mg base N q sc f (.ref c) A outer s H E0) bd t) (hq:t (start N vs) H Q):codeAny (model P w) A (.call (.ref f) ⟨us,[]⟩) (CR CX0 outer P w H s Q E0) s:=by
 have lim:s.heap.NoLimit:=e0.mod.nolimit.keeps λb o e=>(e0.bs b o e).1
 have hkind:∀y∈ps.zip us,sc.names.lookup y.1=some .local\/(sc.names.lookup y.1=some .cell/\((cellsFrom (s.heap.objs.size+1) sc.names []).lookup y.1).isSome=true):=λ⟨n,v⟩ hy=>by
  rcases S.par n (List.of_mem_zip hy).1 with q|q
  ·exact .inl q
  ·exact .inr ⟨q,cellsFrom_some _ _ _ (.inl q)⟩
 refine PySem.W.kla_callFunE hr.depth ho rfl S.co S.gen rfl hc (hb _ _ _ _ ?_)
 refine wpAny_newFunctionEnv_cells S.kind hkind λenv he s1 x=>?_
 subst he
 refine⟨lim.keeps x.toInCall.keep,PySem.W.kla_codeExpr ?_⟩
 have I:=inv_start (CX:=CX0) (E:=E0) (f:=f) (cd:=.ref c) (qual:=q) S hr.hd e0 hl r x
 refine ybk (ht [] s1 (start N vs) H Q I hq) (λu s' ⟨v,H',J,rv,q⟩=>?_) λe s' hs=>hs
 exact⟨v,H',J.os,J.bare,J.base,J.hok,rv,q⟩
theorem sorted_flip{bs:List Addr}{z:Addr->Str}(h:bs.length<2):(bs.map λb=>((z b,0):PairD)).Pairwise leP:=by
 rw[yb0]
 intro i j hi hj lt
 rw[yaa]at hj
 omega
noncomputable def keyed(kt:List Value)(bs:List Addr):List Keyed:=kt.zip (bs.map Value.ref)
noncomputable def sOf:Value->Str
 |.str x _=>x
 |_=>Str.ofString ""
section
variable{X:Cx}{pins:Lo}{σ:St}{H:Hp}{s:Shared}{A:Around}{E:Vs}
theorem kstr_ix:∀{kt:List Value}{ss:List Str}{i:Nat}{k:Value},StrsAre kt ss->kt[i]?=some k->ss[i]?=some (sOf k)/\∃t,k=.str (sOf k) t
 |_,_,0,_,.cons y t h,e=>by cases e;exact⟨rfl,t,rfl⟩
 |_,_,i+1,_,.cons _ _ h,e=>kstr_ix (i:=i) h e
theorem kstr_len:∀{kt:List Value}{ss:List Str},StrsAre kt ss->kt.length=ss.length
 |_,_,.nil=>rfl
 |_,_,.cons _ _ h=>by rw[ya7,ya7,kstr_len h]
theorem kstr_snoc:∀{kt:List Value}{ss:List Str}{y:Str}{t:Tok},StrsAre kt ss->StrsAre (kt++[.str y t]) (ss++[y])
 |_,_,y,t,.nil=>.cons y t .nil
 |_,_,_,_,.cons a b h=>.cons a b (kstr_snoc h)
theorem keyed_mem(h:StrsAre kt (bs.map z))(hx:x∈keyed kt bs):∃b t,b∈bs/\x=(.str (z b) t,.ref b):=by
 obtain⟨i,hi⟩:=yb3 hx
 unfold keyed at hi
 rw[List.getElem?_zip_eq_some]at hi
 obtain⟨h1,h2⟩:=hi
 rw[ybd]at h2
 obtain⟨b,h3,h4⟩:=yao.mp h2
 obtain⟨h5,t,h6⟩:=kstr_ix h h1
 rw[ybd,h3]at h5
 refine⟨b,t,yan h3,?_⟩
 rw[<-Option.some.inj h5]at h6
 exact Prod.ext h6 h4.symm
theorem sort_end(I:Inv X pins σ H s)(fa:FpOk X pins H a)(fk:FpOk X pins H kS)(nak:a≠kS)(ha:s.heap.get? a=some (seqObj "list" #[] n))(hk:s.heap.get? kS=some (seqObj "list" kt.toArray e))(hz:StrsAre kt (bs.map z))(h64:bs.length<64)
  (k:∀(s':Shared) (bs':List Addr) (e':Nat),Inv X pins σ H s'->bs'.Perm bs->(bs'.map λb=>((z b,0):PairD)).Pairwise leP->s'.heap.get? a=some (seqObj "list" (bs'.map Value.ref).toArray e')->Q (.done (.ret .none)) s'):
  wpAny (model X.prog X.w) A (ksk_end a false (bs.map Value.ref).toArray n (.ref kS) kt.toArray) Q E s:=by
 have kl:kt.length=bs.length:=by have:=kstr_len hz;rwa [yaa]at this
 have sl:(kt.toArray.zip (bs.map Value.ref).toArray).toList=keyed kt bs:=ksk_zip kt.toArray (bs.map Value.ref)
 have epi:∀(st:SortSt) (bs':List Addr),failedOf st=none->(arrOf st).toList.map (·.2)=bs'.map Value.ref->bs'.Perm bs->(bs'.map λb=>((z b,0):PairD)).Pairwise leP->wpAny (model X.prog X.w) A (ksk_tail a false n (.ref kS) st) Q E s:=λst bs' f ea p pw=>by
  unfold ksk_tail
  have ea':((arrOf st).map λx=>x.2)=(bs'.map Value.ref).toArray:=by
   apply Array.ext'
   rw[Array.toList_map,ea]
  rw[f,ea']
  refine yab (listUpdate_at hk rfl ?_ (hsz2:=by simp))
  have k1:∀b o,b≠kS->s.heap.get? b=some o->(s.heap.update kS (Obj.mapSeq λ_=>#[])).get? b=some o:=λb o nb g=>by rw[ybz _ _ _ _ nb];exact g
  have I1:=I.turned (t':=s.toks) k1 fk.1 fk.2.1 fk.2.2.2.1 fk.2.2.2.2.1 fk.2.2.2.2.2
  have ha1:=k1 a _ nak ha
  generalize s.heap.update kS (Obj.mapSeq λ_=>#[])=h1 at k1 I1 ha1
  refine yab (wpAny_letGo (yab (seqEpoch_at ha1 rfl (yab (listUpdate_at ha1 rfl ?_ (hsz2 := ?_))))))
  ·have k2:∀b o,b≠a->h1.get? b=some o->(h1.update a (Obj.mapSeq λ_=>(bs'.map Value.ref).toArray)).get? b=some o:=λb o nb g=>by rw[ybz _ _ _ _ nb];exact g
   have I2:=I1.turned (t':=s.toks) k2 fa.1 fa.2.1 fa.2.2.2.1 fa.2.2.2.2.1 fa.2.2.2.2.2
   have e2:=get?_update_seq ha1 λ_=>(bs'.map Value.ref).toArray
   simp only[bne_self_eq_false,Bool.false_eq_true,if_false]
   exact yaf (k _ bs' _ I2 p pw e2)
  ·simp only[Bool.false_eq_true,if_false]
   rw[yas,yaa,p.length_eq,sizeLine_eq];omega
 unfold ksk_end
 simp only[Bool.false_eq_true,if_false,List.size_toArray,List.length_map]
 by_cases few:bs.length<2
 ·simp only[if_pos few]
  refine yab (yaf ?_)
  rw[StateT.run_pure]
  refine yab (yaf ?_)
  refine epi _ bs rfl ?_ (.refl _) (sorted_flip few)
  show(kt.toArray.zip (bs.map Value.ref).toArray).toList.map (·.2)=_
  rw[sl]
  unfold keyed
  exact List.map_snd_zip (by rw[yaa,kl];exact yap _)
 ·simp only[if_neg few]
  have kk:keyKind' kt.toArray=pure oneType':=by
   match kt,hz,kl with
   |[],_,kl=>exact absurd kl (by simp;omega)
   |[_],_,kl=>exact absurd kl (by simp;omega)
   |_::_::_,hz,_=>exact keyKind_strs hz
  refine yab (wpAny_of_eq kk ?_)
  have bz:(kt.toArray.zip (bs.map Value.ref).toArray).size=bs.length:=by rw[<-ybl,sl];unfold keyed;rw[List.length_zip,List.length_map,kl,Nat.min_self]
  have ask:Asks X.prog X.w A E s oneType' (λx=>rankP (bs.map λb=>((z b,0):PairD)) (sOf x.1,0)) (kt.toArray.zip (bs.map Value.ref).toArray):=λx hx y hy Q q=>by
   rw[sl]at hx hy
   obtain⟨b,t,hb,rfl⟩:=keyed_mem hz hx
   obtain⟨c,u,hc,rfl⟩:=keyed_mem hz hy
   refine oneLt_str (?_:Q (decide ((z b).cps.toList<(z c).cps.toList)) s)
   have e:=rankP_lt (ds:=bs.map λb=>((z b,0):PairD)) (a:=(z b,0)) (b:=(z c,0)) (yag.mpr ⟨b,hb,rfl⟩)
   have e2:ltP ((z b,0):PairD) (z c,0)=decide ((z b).cps.toList<(z c).cps.toList):=by
    unfold ltP
    by_cases h:z b=z c
    ·rw[if_pos h,h,decide_eq_false (by omega),decide_eq_false (List.lt_irrefl _)]
    ·rw[if_neg h]
   rw[<-e2,<-e];exact q
  refine yab (ybk (by_ranks (Q:=λ_ st=>(arrOf st).Perm (kt.toArray.zip (bs.map Value.ref).toArray)/\failedOf st=none/\Rise (λx=>rankP (bs.map λb=>((z b,0):PairD)) (sOf x.1,0)) (arrOf st) bs.length) ask (st:=SortSt.mk' oneType' (kt.toArray.zip (bs.map Value.ref).toArray) #[] 7 none) ⟨.refl _,rfl,rfl,rfl⟩ (by rw[bz];omega) (by rw[bz];exact h64) λst p f up=>⟨p,f,by rw[bz]at up;exact up⟩) ?_ λ_ _ z=>z)
  rintro⟨⟨⟩,st⟩ s' ⟨rfl,p,f,up⟩
  have p':=Array.perm_iff_toList_perm.mp p
  rw[sl]at p'
  have all:∀x∈(arrOf st).toList,∃b t,b∈bs/\x=(Value.str (z b) t,Value.ref b):=λx hx=>keyed_mem hz (p'.mem_iff.mp hx)
  have e2:(arrOf st).toList.map (·.2)=((arrOf st).toList.map λx=>adr x.2).map Value.ref:=by
   rw[ya6]
   refine ybq λx hx=>?_
   obtain⟨b,t,_,rfl⟩:=all x hx
   rfl
  have pb:((arrOf st).toList.map λx=>adr x.2).Perm bs:=by
   have:=p'.map λx:Keyed=>adr x.2
   have e3:(keyed kt bs).map (λx:Keyed=>adr x.2)=bs:=by
    unfold keyed
    have:(λx:Keyed=>adr x.2)=adr ∘ (·.2):=rfl
    rw[this,<-ya6,List.map_snd_zip (by rw[yaa,kl];exact yap _),ya6]
    exact(ybq λ_ _=>rfl).trans (List.map_id _)
   rwa [e3]at this
  refine epi st _ f e2 pb ?_
  rw[yb0]
  intro i j hi hj lt
  rw[yaa,yaa]at hi hj
  have at_:∀m (hm:m<(arrOf st).toList.length),rk (λx=>rankP (bs.map λb=>((z b,0):PairD)) (sOf x.1,0)) (arrOf st) m=rankP (bs.map λb=>((z b,0):PairD)) (z (adr ((arrOf st).toList[m]).2),0):=λm hm=>by
   unfold rk
   rw[<-yc2,yar hm]
   obtain⟨b,t,_,e⟩:=all _ (ybr hm)
   rw[e];rfl
  have len:(arrOf st).toList.length=bs.length:=by rw[<-pb.length_eq,yaa]
  have h:=up i j (yci lt) (by omega)
  rw[at_ i hi,at_ j hj]at h
  simp only[List.getElem_map]
  unfold leP
  rw[<-rankP_lt (ds:=bs.map λb=>((z b,0):PairD))]
  ·exact decide_eq_false (Nat.not_lt.mpr h)
  ·obtain⟨b,t,hb,e⟩:=all _ (ybr hj)
   rw[e];exact yag.mpr ⟨b,hb,rfl⟩
theorem sort_keys{a f:Addr}{bs:List Addr}{z:Addr->Str}{n:Nat}{Q:Fin->Shared->Prop}(I:Inv X pins σ H s)(fa:FpOk X pins H a)(ha:s.heap.get? a=some (seqObj "list" (bs.map Value.ref).toArray n))(h64:bs.length<64)
  (key:∀s',Inv X pins σ H s'->∀b∈bs,wpAny (model X.prog X.w) A (call (.ref f) [.ref b]) (λu s''=>∃t,u=.str (z b) t/\Inv X pins σ H s''/\∀d o,FpOk X pins H d->s'.heap.get? d=some o->s''.heap.get? d=some o) (λ_ _=>False) s')
  (k:∀(s':Shared) (bs':List Addr) (e':Nat),Inv X pins σ H s'->bs'.Perm bs->(bs'.map λb=>((z b,0):PairD)).Pairwise leP->s'.heap.get? a=some (seqObj "list" (bs'.map Value.ref).toArray e')->Q (.done (.ret .none)) s'):
  wpAny (model X.prog X.w) A (ksk_tree a (.ref f) false) Q E s:=by
 unfold ksk_tree
 refine yab (listItems_at ha rfl (yab (listUpdate_at ha rfl ?_ (hsz2:=by simp))))
 have k1:∀b o,b≠a->s.heap.get? b=some o->(s.heap.update a (Obj.mapSeq λ_=>#[])).get? b=some o:=λb o nb g=>by rw[ybz _ _ _ _ nb];exact g
 have I1:=I.turned (t':=s.toks) k1 fa.1 fa.2.1 fa.2.2.2.1 fa.2.2.2.2.1 fa.2.2.2.2.2
 have e1:=get?_update_seq ha λ_=>#[]
 generalize (if (#[]:Array Value).size == (bs.map Value.ref).toArray.size then n else n+1)=n1 at e1
 generalize s.heap.update a (Obj.mapSeq λ_=>#[])=h1 at k1 I1 e1
 refine yab (seqEpoch_at e1 rfl (yab (wpAny_newTuple (yab (wpAny_newList (ybo ?_) (ya1 _))) ?_)))
 ·have I2:=I1.kept (h':=h1.push { cls:=Value.type "tuple", data:=Data.seq (bs.map Value.ref).toArray.toList.toArray }) (t':=s.toks) λb o g=>yad _ g
  have e2:(h1.push { cls:=Value.type "tuple", data:=Data.seq (bs.map Value.ref).toArray.toList.toArray }).get? a=some (seqObj "list" #[] n1):=yad _ e1
  generalize h1.push { cls:=Value.type "tuple", data:=Data.seq (bs.map Value.ref).toArray.toList.toArray }=h2 at I2 e2
  have fk:FpOk X pins H h2.objs.size:=I2.fpOk (yap _) (I2.hok.fresh (yap _))
  have nak:a≠h2.objs.size:=yax (yal e2)
  have I3:=I2.kept (h':=h2.push { cls:=Value.type "list", data:=Data.seq ([]:List Value).toArray }) (t':=s.toks) λb o g=>yad _ g
  have e3:(h2.push { cls:=Value.type "list", data:=Data.seq ([]:List Value).toArray }).get? a=some (seqObj "list" #[] n1):=yad _ e2
  have k3:(h2.push { cls:=Value.type "list", data:=Data.seq ([]:List Value).toArray }).get? h2.objs.size=some (seqObj "list" ([]:List Value).toArray 0):=yaq _ rfl
  dsimp only
  generalize h2.objs.size=kS at fk nak k3 ⊢
  generalize h2.push { cls:=Value.type "list", data:=Data.seq ([]:List Value).toArray }=h3 at I3 e3 k3
  unfold ksk_rest
  refine yab (yc5 (yab ?_))
  rw[List.forIn_toArray]
  refine ksk_fold (λi s'=>∃(kt:List Value) (e:Nat),Inv X pins σ H s'/\s'.heap.get? a=some (seqObj "list" #[] n1)/\s'.heap.get? kS=some (seqObj "list" kt.toArray e)/\StrsAre kt ((bs.take i).map z)) (bs.map Value.ref) 0 _ ⟨[],0,I3,e3,k3,.nil⟩ (λj v s' hv hI=>?_) λs' hI=>?_
  ·rw[Nat.zero_add]at hI ⊢
   obtain⟨kt,e,J,ja,jk,jz⟩:=hI
   rw[ybd]at hv
   obtain⟨b,hb,rfl⟩:=yao.mp hv
   have jl:=kstr_len jz
   rw[yaa,ybe]at jl
   refine yab (ycl (ybk (key s' J b (yan hb)) (λu s'' hu=>?_) λ_ _ h=>h.elim))
   obtain⟨t,rfl,J2,kp⟩:=hu
   have ja2:=kp a _ fa ja
   have jk2:=kp kS _ fk jk
   dsimp only
   have up:=get?_update_seq jk2 λx=>x.push (.str (z b) t)
   rw[List.push_toArray]at up
   refine yab (listUpdate_at jk2 rfl (yaf ⟨rfl,kt++[.str (z b) t],_,J2.turned (t':=s''.toks) (λd o nd g=>by rw[ybz _ _ _ _ nd];exact g) fk.1 fk.2.1 fk.2.2.2.1 fk.2.2.2.2.1 fk.2.2.2.2.2,by rw[ybz _ _ _ _ nak];exact ja2,up,?_⟩) ?_ ?_)
   ·rw[ya4,hb,yac]
    exact kstr_snoc jz
   ·rw[yas,sizeLine_eq];omega
   ·rw[Array.size_push,yas,sizeLine_eq];omega
  ·rw[Nat.zero_add,yaa,ya0]at hI
   obtain⟨kt,e,J,ja,jk,jz⟩:=hI
   refine yab (listItems_at jk rfl ?_)
   exact sort_end J fa fk nak ja jk jz h64 k
 ·rw[List.toList_toArray,yaa,sizeLine_eq];omega
theorem Inv.track(I:Inv X pins σ H s)(fa:FpOk X pins H a)(new:∀H'',ObjOk X.prog X.w H'' s.heap a o):Inv X pins σ (upd H a o) s:=by
 have n0:=fa.1
 have trk:∀b u,H b=some u->upd H a o b=some u:=λb u e=>by rw[upd_ne (zz4 e n0)];exact e
 refine I.step (g':=s.gens) (d':=s.drawn) (t':=s.toks) (h':=s.heap) (ch:=[a]) (λb hb=>?_) (λb o _ _ _ e _=>e) (λb o _ _ _ e _=>⟨o.slots,e⟩) (λb u hb _ n=>?_) (λb u _ e=>⟨u,e⟩) (λb xs e=>trk b _ e) (λb u v e=>trk b _ e) (λb ps e=>⟨#[],by rw[trk b _ e];simp⟩) (λm hm=>hm) (λb u e=>?_) I.bare
 ·rw[yae.mp hb]
  exact⟨fa.2.2.2.1,fa.2.1,fa.2.2.2.2.1,fa.2.2.2.2.2⟩
 ·rw[upd_ne (λz=>hb (by rw[z];exact List.mem_singleton_self _))];exact n
 ·by_cases z:b=a
  ·rw[z,zz1]at e
   cases e
   rw[z];exact new _
  ·rw[upd_ne z]at e
   exact(I.hok b u e).stay (λ_ _ _ q=>q) (λd q=>trk d _ q) λd xs q=>trk d _ q
theorem sorted_keys{p f c:Addr}{bs:List Addr}{z:Addr->Str}{x q:Str}{pr:Arguments}{bd:Expr}{sc:Scope}{pm ct:Value}{y:Str}{rs:Addr->List V}{Q:VK}(I:Inv X pins σ H s)(hr:Room 4 X.A)(hp:SqL X.K H p (bs.map V.ref))(hd:∀b∈bs,H b=some (.tup (.str (z b)::rs b)))(h64:bs.length<64)
  (hf:H f=some (ObjO f (kla_obj x q pr bd sc [] pm c ct))) (hc:H c=some (CRec c q)) (S:FnScope [y] [y] sc) (hb:∀(s:Shared) (u:Value),BindsTo s (kla_fn x q pr bd sc [] pm (.ref c) ct) ⟨[u],[]⟩ [(y,u)])
  (ht:∀A outer s H,PE (cxOf CX0 X.prog X.w X.K X.mg X.base [y] q sc f (.ref c) A outer s H E0) bd (tOp (rIxT X.K) (tVar 0) (tC (.int 0))))
  (k:∀(l:Addr) (bs':List Addr),H l=none->bs'.Perm bs->(bs'.map λb=>((z b,0):PairD)).Pairwise leP->Q (.ref l) (upd H l (.lst (bs'.map V.ref)))):
  wpAny (model X.prog X.w) X.A (call (.builtin "sorted") [.ref p] [(Str.ofString "key", .ref f)]) (EP X pins σ Q) X.xe s:=by
 obtain⟨its,r',pl,_⟩:=I.list hp
 have e:=refs_of r'
 subst e
 have fit:(bs.map Value.ref).length<=sizeLine:=by rw[yaa,sizeLine_eq];omega
 refine call_function_entry_kw kind_sorted plain_sorted entry_sorted (ksk_s1 _ _) (yab (m:=checkCount "sorted" 1 1 _) (yaf (yab (collect_list pl.isList (yab (wpAny_newList ?_ fit)) fit))))
 dsimp only
 have k1:∀b o,s.heap.get? b=some o->((s.heap.push (seqObj "list" #[] 0)).update s.heap.objs.size (Obj.mapSeq (·++(bs.map Value.ref).toArray))).get? b=some o:=λb o g=>by
  rw[ybz _ _ _ _ (yax (yal g))];exact yad _ g
 have I1:=I.kept (t':=s.toks) k1
 generalize (s.heap.push (seqObj "list" #[] 0)).update s.heap.objs.size (Obj.mapSeq (·++(bs.map Value.ref).toArray))=h1 at k1 I1
 have I2:=I1.kept (t':=s.toks) (h':=h1.push { cls:=.type "list", data:=.seq (bs.map Value.ref).toArray }) λb o g=>yad _ g
 have new:(h1.push { cls:=.type "list", data:=.seq (bs.map Value.ref).toArray }).get? h1.objs.size=some (seqObj "list" (bs.map Value.ref).toArray 0):=yaq _ rfl
 have fa:FpOk X pins H h1.objs.size:=I1.fpOk (yap _) (I1.hok.fresh (yap _))
 refine yab (ybo (wpAny_call_entry_kw slot_list_sort ⟨_,new,rfl⟩ entry_list_sort ?_ (ksk_l1 _ _)))
 rw[ksk_t1]
 refine sort_keys (z:=z) I2 fa new h64 (λs' J b hb'=>?_) λs' bs' e' J pb pw g=>?_
 ·refine ycv (codeAny_mono (lam_run (vs:=[.ref b]) (us:=[.ref b]) (Q:=λv H'=>v=.str (z b)/\H'=H) (J.hok f _ hf).1 (J.hok c _ hc).1 S (hr.in1.in1.mono (by decide)) J.env0.in1.in1 (hb s' _) rfl (.cons rfl .nil) (ht _ _ _ _) ?_) λr s'' hq=>?_)
  ·show tOp _ _ _ [some (V.ref b)] _ _
   exact⟨b,_,0,_,rfl,rfl,SqT.of (hd b hb'),show atI (V.str (z b)::rs b) ((0:Nat):Int)=_ from atI_nat rfl,rfl,rfl⟩
  ·cases r with
   |error e=>exact hq.elim
   |ok fl=>
    cases fl with
    |next=>exact False.elim hq
    |brk=>exact False.elim hq
    |cont=>exact False.elim hq
    |ret u=>
     obtain⟨v,H',os,bare,un,hok,rv,hv,hH⟩:=hq
     subst hv hH
     obtain⟨t,rfl⟩:=rv
     refine⟨t,rfl,J.call' (ch:=[]) os un hok bare (λb z=>absurd z (by simp)),λd o fd g=>un.keep d o g fd.1 (λz=>?_) (by simp)⟩
     exact(yau.mp (J.stkSub d z)).elim fd.2.1 fd.2.2.1
 ·refine⟨_,rfl,yaf ⟨_,rfl,.ref h1.objs.size,upd H h1.objs.size (.lst (bs'.map V.ref)),?_,rfl,k _ bs' fa.1 pb pw⟩⟩
  exact J.track fa λH''=>⟨by rw[yaa,pb.length_eq,sizeLine_eq];omega,bs'.map Value.ref,e',vals_refs,g⟩
def tSortL(K:Wf)(P:Addr)(lp:Pos)(q:Str)(te:TE):TE:=λσ H Q=>te σ H λx H1=>∃(p:Addr) (bs:List Addr) (z:Addr->Str) (rs:Addr->List V),x=.ref p/\SqL K H1 p (bs.map V.ref)/\(∀b∈bs,H1 b=some (.tup (.str (z b)::rs b)))/\bs.length<64/\TbOk P lp q H1/\
 ∀(l:Addr) (bs':List Addr) (H2:Hp),H1 l=none->bs'.Perm bs->(bs'.map λb=>((z b,0):PairD)).Pairwise leP->SameX P H1 H2->TbOk P lp q H2->H2 l=some (.lst (bs'.map V.ref))->Q (.ref l) H2
theorem pe_sortL{K:Wf}{P c:Addr}{e:Expr}{te:TE}{p kp lp pos:Pos}{pr:Arguments}{bd:Expr}{sc:Scope}{y q:Str}(eK:X.K=K)(hr:Room 4 X.A)(he:PE X e te)(hg:Gl X "sorted")(hm:X.mg "sorted" = none)(hcd:X.env.code=.ref c)(hc:codeHdIn K c P=true)(bm:BMod K X.mg)(S:FnScope [y] [y] sc)
  (ht:∀(f c:Addr) A outer s H,PE (cxOf CX0 X.prog X.w X.K X.mg X.base [y] q sc f (.ref c) A outer s H E0) bd (tOp (rIxT X.K) (tVar 0) (tC (.int 0))))
  (hb:∀(pm cd ct u:Value),bindArgs (kla_fn (Str.ofString "<lambda>") q pr bd sc [] pm cd ct) ⟨[u],[]⟩=pure [(y,u)]:=by intros;rfl)
  (hcl:closureFor sc X.env=pure []:=by rfl) (hq:X.env.qual++Str.ofString "<lambda>" = q:=by rfl) (hdf:defaultsOf pr X.env=([],[]):=by rfl) (s1:starEach [e] X.env=[(false,eval e X.env)]:=by rfl):
  PE X (.Call (.Name "sorted" p) [e] [⟨some "key", .Lambda pr bd sc lp,kp⟩] pos) (tSortL K P lp q te):=by
 subst eK
 intro pins s σ H Q I h
 refine ycg (ld_blt I hg hm (show bootBuiltins "sorted" = some (.builtin "sorted") by kernel_rfl) ?_)
 refine PyProof.Rows.callWith_kw ?_ (by rw[s1];rfl) (by rw[s1];rfl)
 rw[s1]
 refine Calls.spliced_cons (thn (he pins s σ H _ I h) λu s2 hh=>?_)
 obtain⟨x,H1,I1,r1,p',bs,z,rs,ex,hp,hd,h64,tb,k⟩:=hh
 refine Calls.spliced_nil (kws_cons (PySem.W.kla_eval hdf ?_))
 subst ex
 cases r1
 rw[hq]
 refine make_lam I1 hcl hcd hc bm tb λf c' ctv pm H' s' J sx tb' f0 fP hf hc'=>kws_nil ?_
 have pt:∀(b:Addr) (o:HO),(∀ps,o≠.tbl ps)->H1 b=some o->H' b=some o:=λb o ne e=>sx b o (λzz=>by
  obtain⟨ps,hP,_⟩:=tb
  rw[zz,hP]at e
  exact ne ps (Option.some.inj e).symm) e
 have hp':SqL X.K H' p' (bs.map V.ref):=by
  rcases hp with hp|hp
  ·rcases hp with hp|⟨o,hp⟩
   ·exact .inl (.inl (pt _ _ (λps z=>by cases z) hp))
   ·exact .inl (.inr ⟨o,pt _ _ (λps z=>by cases z) hp⟩)
  ·exact .inr hp
 refine sorted_keys (z:=z) (rs:=rs) J hr hp' (λb hb=>pt _ _ (λps z=>by cases z) (hd b hb)) h64 hf hc' S (λs u=>.of_eq (hb _ _ _ _)) (λA outer s H=>ht f c' A outer s H) λl bs' l0 pb pw=>?_
 have st:∀b o,H' b=some o->upd H' l (.lst (bs'.map V.ref)) b=some o:=λb o e=>by rw[upd_ne (zz4 e l0)];exact e
 have l1:H1 l=none:=by
  cases e:H1 l with
  |none=>rfl
  |some o=>
   obtain⟨ps,hP,_⟩:=tb'
   have:=sx l o (λzz=>by rw[zz,hP]at l0;cases l0) e
   rw[l0]at this;cases this
 exact k l bs' _ l1 pb pw (λb o n e=>st b o (sx b o n e)) (tb'.more st) zz1
end
section
variable{P:Program}{w:World}{K:Wf}{mg:So}{base:Heap}
def Lam(K:Wf)(fd:FuncData)(T:Addr):Prop:=∃c,fd.code=.ref c/\codeHdIn K c T=true
theorem Fun.okCE{x qual:Str}{st:Stmt}{f T:Addr}{fd:FuncData}{N ps:List Str}{k:Nat}{sp:Sp}(F:Fun K x qual st f fd)(L:Lam K fd T)(S:FnScope N ps (defScope st))(len:∀vs H Q E,sp vs H Q E->vs.length=ps.length)
  (hbody:∀(c:Addr) (cdv:Value) (A:Around) (outer:List Env) (s:Shared) (H:Hp) (vs:List V) (Q:VK) (E:XK),cdv=.ref c->codeHdIn K c T=true->Room k (A.deeper (envOfC qual (defScope st) s.heap.objs.size f cdv))->sp vs H Q E->
   ∃t,PSs (cxOf (CXE P w) P w K mg base N qual (defScope st) f cdv A outer s H E) (defBody st) t/\t { nx:=λ_ H'=>Q .non H',rt:=Q } (start N vs) H):FnOk P w K mg base (CXE P w) (k+1) f fd ps sp:=by
 obtain⟨oc,od,kV,doc,pm,an,cdv,ct,osl,rfl,lk,hcd⟩:=F.ex
 obtain⟨c,e1,e2⟩:=L
 refine fn_of lk hcd S len λA outer s H vs Q E hr hsp=>?_
 obtain⟨t,h,q⟩:=hbody c cdv A outer s H vs Q E e1 e2 hr hsp
 exact⟨t,h,q⟩
end
def AtEntry(Ts:List Addr)(H:Hp):Prop:=∀T∈Ts,H T=some (.tbl #[])
theorem law_callT{P:Program}{w:World}{K:Wf}{mg mb:So}{CX:CXT}{k:Nat}{fa a:Addr}{fd:FuncData}{x:Str}{sp:Sp}{s₁:Shared}{vs:List Value}{ns:List Int}{Ts:List Addr}
  (KX:K.In s₁.heap) (hns:s₁.heap.Ns mainGlobals mg) (hb:s₁.heap.Ns builtinsNs mb) (hbb:∀x:Str,x ≠ "__name__" -> mb x=bootBuiltins x) (hlim:s₁.heap.NoLimit) (hg:s₁.gens=#[])
  (ha:s₁.heap.get? a=some { cls:=.type "list", data:=.seq vs.toArray }) (hi:IntsAre vs ns) (hl:ns.length<=sizeLine) (hr:Room k callerA)
  (hT:∀T∈Ts,s₁.heap.get? T=some (tabObj #[])/\isCodeTable s₁.heap T/\K.lookup T=none)
  (F:∀base:Heap,K.In base->base.Ns mainGlobals mg->FnOk P w K mg base CX k fa fd [x] sp) (hbind:∀(s:Shared) (u:Value),BindsTo s fd ⟨[u],[]⟩ [(x,u)])
  (hsp:∀H:Hp,AtEntry Ts H->SqL K H a (ns.map V.int)->sp [.ref a] H (λv _=>v=.bl true) λ_ _ _=>False)
  (hCX:∀H e s',CX [] H s₁ (λ_ _ _=>False) e s'->False):
  codeAny (model P w) callerA (.call (.ref fa) ⟨[.ref a],[]⟩) (λr s'=>r=.ok (.ret (.bool true))/\OldK s₁.heap s'.heap/\s'.os=s₁.os/\AllBare s'.gens) s₁:=by
 have rv:=vals_ints hi
 have lenV:=hi.length
 have aT:a∉Ts:=λz=>by
  have:=(hT a z).1
  rw[ha]at this;cases this
 have core:∀H:Hp,SqL K H a (ns.map V.int)->(∀b,H b=none\/(b=a/\K.lookup a=none/\H b=some (.frz { cls:=.type "list", data:=.seq vs.toArray } (.lst (ns.map V.int))))\/(b∈Ts/\H b=some (.tbl #[])))->AtEntry Ts H->
   codeAny (model P w) callerA (.call (.ref fa) ⟨[.ref a],[]⟩) (λr s'=>r=.ok (.ret (.bool true))/\OldK s₁.heap s'.heap/\s'.os=s₁.os/\AllBare s'.gens) s₁:=by
  intro H hS hO hE
  have hok:HOk P w H s₁.heap:=λb u z=>by
   rcases hO b with y|⟨rfl,_,y⟩|⟨y1,y⟩
   ·rw[y]at z;cases z
   ·rw[y]at z;cases z
    exact⟨ha,by rw[yaa];exact hl,vs,_,rv,ha⟩
   ·rw[y]at z;cases z
    exact(hT b y1).1
  have base_of:∀{b:Addr}{o:Obj},s₁.heap.get? b=some o->H b=none->(hidT s₁.heap H).get? b=some o:=λe n=>hidT_get e n
  have noA:∀{b:Addr}{o:Obj}{es:Array DictEntry}{ep:Nat},s₁.heap.get? b=some o->o.data=.dict es ep->H b=none:=λ{b o es ep} e d=>by
   rcases hO b with y|⟨rfl,_,y⟩|⟨y1,y⟩
   ·exact y
   ·rw[ha]at e;cases e
    have d':Data.seq vs.toArray _=Data.dict es ep:=d
    cases d'
   ·rw[(hT b y1).1]at e;cases e
    have d':Data.fields #[]=Data.dict es ep:=d
    cases d'
  have nsK:∀{b:Addr}{m:So},s₁.heap.Ns b m->(hidT s₁.heap H).Ns b m:=λ{b m} ⟨o,es,ep,e,d,r⟩=>⟨o,es,ep,base_of e (noA e d),d,r⟩
  have hKb:K.In (hidT s₁.heap H):=λb o e=>base_of (KX b o e) (by
   rcases hO b with y|⟨rfl,y1,y⟩|⟨y1,y⟩
   ·exact y
   ·rw[y1]at e;cases e
   ·rw[(hT b y1).2.2]at e;cases e)
  have hM:Mod K mg (hidT s₁.heap H):=⟨hKb,nsK hns,⟨mb,nsK hb,hbb⟩,let ⟨mc,h1,h2⟩:=hlim;⟨mc,nsK h1,h2⟩⟩
  have e0:Env0 P w K mg (hidT s₁.heap H) callerA [] s₁ H:=⟨rfl,hM,λb o e=>of_hidT e,Nat.le_of_eq (hidT_size _ _),trivial,λb hb=>absurd (show b∈([]:List Addr) from hb) (by simp),hok,.of_eq hg⟩
  refine codeAny_mono ((F _ hKb (nsK hns)).run callerA [] s₁ H ⟨[.ref a],[]⟩ [.ref a] [.ref a] _ _ hr e0 (hbind s₁ (.ref a)) (.cons rfl .nil) (hsp H hE hS)) λr s' h=>?_
  cases r with
  |error e=>exact(hCX H e s' h).elim
  |ok fl=>
   cases fl with
   |next=>exact False.elim h
   |brk=>exact False.elim h
   |cont=>exact False.elim h
   |ret u=>
    obtain⟨v,H',os,bare,un,hok',r',q⟩:=h
    have q':v=.bl true:=q
    subst q'
    obtain rfl:u=Value.bool true:=r'
    have nf:∀b:Addr,b∉frs []:=λb z=>absurd (show b∈([]:List Addr) from z) (by simp)
    refine⟨rfl,⟨λb o e=>?_,λb o e=>un.there b o e (by simp)⟩,os,bare⟩
    rcases hO b with y|⟨_,_,y⟩|⟨y1,y⟩
    ·exact .inl (un.keep b o e y (nf b) (by simp))
    ·obtain⟨e1,_⟩:=hok b _ y
     obtain⟨e2,_⟩:=hok' b _ (un.frzs b _ _ y)
     rw[e]at e1;cases e1
     exact .inl e2
    ·obtain⟨more,z⟩:=un.tbls b _ y
     have e2:s'.heap.get? b=some { cls:=.none,data:=.fields (#[]++more) }:=hok' b _ z
     obtain⟨t1,t2,_⟩:=hT b y1
     rw[e]at t1;cases t1
     exact .inr (.inl ⟨t2,rfl,#[],more,rfl,e2⟩)
 cases hk:K.lookup a with
 |some o=>
  have e:=KX a o hk
  rw[ha]at e
  cases e
  refine core (λb=>if b∈Ts then some (.tbl #[]) else none) (.inr ⟨_,vs.toArray,_,hk,rfl,rfl,rfl,by rw[yas,lenV];exact hl,by simpa using rv⟩) (λb=>?_) λT hT'=>if_pos hT'
  by_cases z:b∈Ts
  ·exact .inr (.inr ⟨z,if_pos z⟩)
  ·exact .inl (if_neg z)
 |none=>
  refine core (λb=>if b∈Ts then some (.tbl #[]) else if b=a then some (.frz { cls:=.type "list", data:=.seq vs.toArray } (.lst (ns.map V.int))) else none) (.inl (.inr ⟨{ cls:=.type "list", data:=.seq vs.toArray },(if_neg aT).trans (if_pos rfl)⟩)) (λb=>?_) λT hT'=>if_pos hT'
  by_cases z:b∈Ts
  ·exact .inr (.inr ⟨z,if_pos z⟩)
  ·by_cases y:b=a
   ·exact .inr (.inl ⟨y,hk,(if_neg z).trans (if_pos y)⟩)
   ·exact .inl ((if_neg z).trans (if_neg y))
def FOT(K:Wf)(f T:Addr)(st:Stmt)(x q:Str):Prop:=∃(oc:Value) (od an:Option Addr) (sl:Array (Option Value)) (kV dc pm ct:Value) (c:Addr),K.lookup f=some ⟨oc,od,.func (fnOf x q (defArgs st) (defBody st) (defScope st) .none kV dc pm an (.ref c) ct),sl⟩/\codeIn K (.ref c) q=true/\keepIn K (.ref f)=true/\codeHdIn K c T=true
def TabIn(K:Wf)(h:Heap)(T:Addr):Prop:=h.get? T=some (tabObj #[])/\(∃c,codeHdIn K c T=true)/\K.lookup T=none
theorem tab_in{q:Program}{loose:List Str}{mean:ExcName->Option Value}{mg mb:So}{h:Heap}{K:Wf}{f T:Addr}{st:Stmt}{x y:Str}(KX:K.In h)(TP:Top q loose mean mg mb h)(hrec:((recsOf q).any λd=>d.name == x)=true)(a:nsIn K mainGlobals x=some (some (.ref f)))(l:FOT K f T st x y)(n:K.lookup T=none):TabIn K h T:=by
 obtain⟨oc,od,an,sl,kV,dc,pm,ct,c,lk,_,_,hc⟩:=l
 obtain⟨d,hd,en⟩:=ybm.mp hrec
 have en:d.name=x:=by simpa using en
 obtain⟨a',o,fd,c',P,e1,e2,e3,e4,_,e6⟩:=TP.tab d hd
 have ef:=mg_of KX TP.g a
 rw[en,ef]at e1
 cases e1
 rw[KX _ _ lk]at e2
 cases e2
 cases e3
 have ec:c=c':=Value.ref.inj e4
 subst ec
 obtain⟨⟨o2,vs2,g1,g2,g3,g4⟩,g5⟩:=e6
 obtain⟨o3,vs3,_,_,_,_,_,_,_,k1,k2,k3,k4,_⟩:=codeHd_of_K KX hc
 rw[k1]at g1
 cases g1
 rw[k3]at g3
 cases g3
 rw[k4]at g4
 cases g4
 exact⟨g5,⟨c,hc⟩,n⟩
theorem walk_ofT{l:PySem.W.OpenLaw}{n k:Nat}{q:Program}{loose:List Str}{XP:(Str->Option Value)->Heap->Prop}{YP:World->Heap->Prop}{d:DefRec}{K:Params->Wf}{CX:World->CXT}{sp:World->Sp}{x:Str}{Ts:List Addr}
  (hn:l.most=some n) (hn2:n<=sizeLine) (hdf:d.params.defaults=[]) (hr:Room k callerA)
  (hY:∀(w:World) (h:Heap),YP w h->(K w.params).In h)
  (hT:∀(w:World) (h:Heap) (lo:List Str) (mean:ExcName->Option Value) (mg mb:So),(K w.params).In h->Top q lo mean mg mb h->∀T∈Ts,TabIn (K w.params) h T)
  (F:∀(w:World) (mg:So) (fa:Addr) (h:Heap),(K w.params).In h->h.Ns mainGlobals mg->mg d.name=some (.ref fa)->
   ∃fd:FuncData,(∀(s:Shared) (u:Value),BindsTo s fd ⟨[u],[]⟩ [(x,u)])/\
    ∀base:Heap,(K w.params).In base->base.Ns mainGlobals mg->FnOk l.prog w (K w.params) mg base (CX w) k fa fd [x] (sp w))
  (hsp:∀(w:World) (H:Hp) (a:Addr) (ns:List Int),ns.length<=n->AtEntry Ts H->SqL (K w.params) H a (ns.map V.int)->sp w [.ref a] H (λv _=>v=.bl true) λ_ _ _=>False)
  (hCX:∀(w:World) (H:Hp) (s:Shared) (e:Value) (s':Shared),CX w [] H s (λ_ _ _=>False) e s'->False):
  PySem.W.WalkO q loose XP YP l.row.toRowW d [] (λf vs=>PySem.call f vs):=by
 refine Att.attach_call hn hdf λw s₀ s₁ mg mb fa o pm cd doc a vs ns G Y ho hd hcd hmg hobj hints hlen hg=>?_
 have KX:=hY w _ Y
 obtain⟨fd,hb,hF⟩:=F w mg fa _ KX G.T.g hmg
 refine law_callT KX G.T.g G.T.b G.T.builtins G.T.nolimit hg hobj hints (yay hlen hn2) hr (λT hT'=>?_) hF hb (λH hO hS=>hsp w H a ns hlen hO hS) λH e s'=>hCX w H s₁ e s'
 obtain⟨t1,⟨c,t2⟩,t3⟩:=hT w _ _ _ mg mb KX G.T T hT'
 obtain⟨o',vs',_,_,_,_,_,_,_,e1,e2,e3,e4,_⟩:=codeHd_of_K KX t2
 exact⟨t1,⟨c,o',vs',e1,e2,e3,e4⟩,t3⟩
theorem SameX.get(s:SameX P H H')(hP:H P=some (.tbl ps)){b:Addr}{o:HO}(e:H b=some o)(n:∀ps,o≠.tbl ps):H' b=some o:=
 s b o (λz=>by rw[z,hP]at e;exact n ps (Option.some.inj e).symm) e
noncomputable def noT(P:Addr)(H:Hp):Hp:=λb=>if b=P then none else H b
theorem noT_get(hP:H P=some (.tbl ps))(e:H b=some o)(n:∀ps,o≠.tbl ps):noT P H b=some o:=by
 unfold noT
 rw[if_neg (λz=>by rw[z,hP]at e;exact n ps (Option.some.inj e).symm)];exact e
theorem SameX.same(s:SameX P H H'):Same (noT P H) H':=λb o e=>by
 unfold noT at e
 by_cases z:b=P
 ·rw[if_pos z]at e;cases e
 ·rw[if_neg z]at e;exact s b o z e
theorem StM.At.noT{P:Addr}{ps:Array Value}{H:Hp}{s:StM}(hP:H P=some (.tbl ps))(h:s.At H):s.At (noT P H):=
 ⟨noT_get hP h.top (λ_ z=>by cases z),noT_get hP h.wd (λ_ z=>by cases z),noT_get hP h.fl (λ_ z=>by cases z),λf hf=>noT_get hP (h.fs f hf) (λ_ z=>by cases z)⟩
theorem PcM.At.noT{P:Addr}{ps:Array Value}{H:Hp}{p:PcM}(hP:H P=some (.tbl ps))(h:p.At H):p.At (noT P H):=
 ⟨noT_get hP h.top (λ_ z=>by cases z),noT_get hP h.sl (λ_ z=>by cases z),noT_get hP h.nl (λ_ z=>by cases z),λs hs=>(h.ss s hs).noT hP,λn hn=>noT_get hP (h.ns n hn) (λ_ z=>by cases z)⟩
theorem PcM.At.keep{P:Addr}{ps:Array Value}{H H':Hp}{p:PcM}(h:p.At H)(hP:H P=some (.tbl ps))(s:SameX P H H'):p.At H':=(h.noT hP).mono s.same
section
variable{X:Cx}{tg:Expr}{K:Wf}
section
variable{te:TE}{g:TG}{tb:TS}{D:Ends}{σ:St}{H:Hp}
end
section
variable{k:Nat}{fm:List Nat}{tl te:TE}{g:TG}{tt:TT}{σ σ0:St}{H H1:Hp}{Q:VK}
end
section
variable{te:TE}{g:TG}{tb:TS}{D:Ends}{σ:St}{H:Hp}
end
end
section
variable{X:Cx}
noncomputable def rSortedR:List V->Hp->VK->Prop:=λxs H Q=>∃p kvs,∃ss:List Str,xs=[.ref p]/\Rd H p (.dK kvs)/\kvs.map (·.1)=ss.map Sum.inr/\ss.length<64/\∀(l:Addr) (ss':List Str),H l=none->ss'.Perm ss->ss'.Pairwise leS->Q (.ref l) (upd H l (.lst (ss'.map V.str)))
end
section
variable{X:Cx}
noncomputable def rInsert:V->List V->Hp->VK->Prop:=λx vs H Q=>∃l xs,∃i:Int,∃y,x=.ref l/\vs=[.int i,y]/\H l=some (.lst xs)/\0<=i/\i<2 ^ 62/\xs.length<sizeLine/\Q .non (upd H l (.lst (xs.take i.toNat++y::xs.drop i.toNat)))
theorem mt_insert:MtM X "list.insert" rInsert:=by
 intro pins s σ H x vs v us Q I rx rv h
 obtain⟨l,xs,i,y,rfl,rfl,hH,h0,h1,hz,q⟩:=h
 cases rx
 obtain⟨u1,u2,rfl,r1,r2⟩:=vals2 rv
 obtain⟨t,rfl⟩:=r1
 obtain⟨z,its,n,r,hl,e⟩:=I.lstM hH
 have hlen:xs.length=its.length:=r.length
 have hf:Builtin.List.listFitsIndex i=true:=fitsIndex_of h0 (by omega)
 refine call_meets F.slot_list_insert ⟨_,e,rfl⟩ F.entry_list_insert (F.args_list_insert_3 _ _ _) (PySem.AutoSeq1.list_insert_list_int_val_1 l its.toArray n i t u2 (by rw[hf];decide) (by rw[yas];omega)) ⟨e,?_⟩
 refine⟨.non,_,I.lset (its':=its.take i.toNat++u2::its.drop i.toNat) hH e ?_ ((r.take _).append (.cons r2 (r.drop _))) ?_,rfl,q⟩
 ·have hn:¬i<0:=by omega
  simp only[hn,if_false,List.size_toArray]
  apply Array.toList_inj.mp
  simp[Array.toList_extract]
  by_cases hi:i.toNat<=its.length
  ·rw[Nat.min_eq_left hi,List.take_of_length_le (show(its.drop i.toNat).length<=its.length - i.toNat by rw[ycq];exact yap _)]
  ·rw[Nat.min_eq_right (by omega),ya0,List.drop_length,List.take_nil,List.take_of_length_le (show its.length<=i.toNat by omega),List.drop_of_length_le (show its.length<=i.toNat by omega)]
 ·rw[yah,ybe,ya7,ycq]
  omega
noncomputable def rIndexS(K:Wf):V->List V->Hp->VK->Prop:=λx vs H Q=>∃(p:Addr) (xs:List Str) (y:Str) (j:Nat),x=.ref p/\vs=[.str y]/\SqL K H p (xs.map V.str)/\xs[j]?=some y/\(∀m,m<j->xs[m]?≠some y)/\Q (.int j) H
end
theorem CmpOf.strs_lt(val:Nat->Str)(hval:∀i v,P i v->∃t,v=.str (val i) t):
  CmpOf prog w A .Lt P (λi j=>decide ((val i).cps.toList<(val j).cps.toList)):=λi j vi vj s Q E hi hj h=>by
 obtain⟨t,rfl⟩:=hval i vi hi
 obtain⟨u,rfl⟩:=hval j vj hj
 exact richCompare_gives (op:=.Lt) (typeIs_str s _ t) (typeIs_str s _ u) F.slot_str_lt F.entry_str_lt (F.args_str_lt_2 _ _) (gives_str_lt _ _ t u) (λx=>nomatch x) h
theorem best_le(bt:Nat->Nat->Bool):∀n,argBest bt n<=n
 |0=>yap _
 |n+1=>by
  unfold argBest
  have:=best_le bt n
  split<;>omega
theorem best_min(val:Nat->Str):∀n i,i<=n->leS (val (argBest (λi j=>decide ((val i).cps.toList<(val j).cps.toList)) n)) (val i)
 |0,i,h=>by
  rw[show i=0 by omega]
  exact List.le_refl _
 |n+1,i,h=>by
  unfold argBest
  have ih:=best_min val n
  split
  ·rename_i q
   have q:=of_decide_eq_true q
   by_cases e:i=n+1
   ·rw[e];exact List.le_refl _
   ·exact leS_trans (List.le_of_lt q) (ih i (by omega))
  ·rename_i q
   have q:¬(val (n+1)).cps.toList<(val (argBest (λi j=>decide ((val i).cps.toList<(val j).cps.toList)) n)).cps.toList:=λz=>q (decide_eq_true z)
   by_cases e:i=n+1
   ·rw[e];exact List.not_lt.mp q
   ·exact ih i (by omega)
section
variable{X:Cx}
noncomputable def rMinL(K:Wf):List V->Hp->VK->Prop:=λxs H Q=>∃(p:Addr) (ss:List Str),xs=[.ref p]/\SqL K H p (ss.map V.str)/\ss≠[]/\∀m:Str,m∈ss->(∀z∈ss,leS m z)->Q (.str m) H
theorem call_minL(hc:X.calm=true):CallR X (.builtin "min") (rMinL X.K):=by
 intro pins s σ H xs us Q I r h
 obtain⟨p,ss,rfl,hq,hne,q⟩:=h
 obtain⟨u,rfl,rx⟩:=vals1 r
 cases rx
 obtain⟨its,rv,pl,hz⟩:=I.list hq
 have hl:=rv.length
 rw[yaa]at hl
 have hlt:p<s.heap.objs.size:=by obtain⟨_,e,_⟩:=pl.isList;exact yal e
 have npos:0<its.length:=by rw[<-hl];exact yct.mpr hne
 have val:∀(i:Nat) (v:Value),its.toArray[i]?=some v->∃t,v=.str (ss.getD i (Str.ofString "")) t:=λi v hv=>by
  have hv:its[i]?=some v:=by simpa using hv
  have hi:=(yam.mp hv).1
  have e1:(ss.map V.str)[i]?=some (V.str (ss[i]'(by omega))):=by rw[ybd,yar (by omega)];rfl
  obtain⟨u,hu,ru⟩:=rv.get e1
  rw[hv]at hu
  rw[Option.some.inj hu]
  obtain⟨t,et⟩:=ru
  exact⟨t,by rw[et,yba,yar (show i<ss.length by omega)];rfl⟩
 refine call_min_walk (wpAny_pyIter_list pl.isList ?_)
 refine⟨_,_,_,_,_,_,_,rfl,Walks.list (A:=X.A.in1) (by simp[I.ok.hd hc]) s.heap.objs.size p (Nat.ne_of_lt hlt) its.toArray,⟨⟨_,Heap.get?_push_size _ rfl,rfl,rfl⟩,pl.isList.push _⟩,λb hb=>?_,by simpa using npos,CmpOf.strs_lt (λi=>ss.getD i (Str.ofString "")) val,λv h' tk hP kp=>?_⟩
 ·show b<(s.heap.push _).objs.size
  rw[yb5]
  rcases yau.mp hb with rfl|hb
  ·exact ybt _
  ·rw[yae.mp hb];exact yb6 hlt
 ·obtain⟨t,rfl⟩:=val _ v hP
  have kept:∀b o,s.heap.get? b=some o->h'.get? b=some o:=λb o e=>kp b o (λhm=>by rw[yae.mp hm]at e;exact absurd (yal e) (ybb _)) (yad _ e)
  have bl:=best_le (λi j=>decide ((ss.getD i (Str.ofString "")).cps.toList<(ss.getD j (Str.ofString "")).cps.toList)) (its.toArray.size - 1)
  have bm:=best_min (λi=>ss.getD i (Str.ofString "")) (its.toArray.size - 1)
  rw[yas]at bl bm
  refine⟨V.str _,H,I.kept kept,⟨t,rfl⟩,q _ ?_ λz hz=>?_⟩
  ·rw[yas]
   have:argBest (λi j=>decide ((ss.getD i (Str.ofString "")).cps.toList<(ss.getD j (Str.ofString "")).cps.toList)) (its.length - 1)<ss.length:=by omega
   rw[yba,yar this]
   exact ybr _
  ·obtain⟨i,hi⟩:=yb3 hz
   have il:=(yam.mp hi).1
   have:=bm i (by omega)
   rw[yas]
   rw[show ss.getD i (Str.ofString "")=z by rw[yba,hi];rfl]at this
   exact this
noncomputable def rMinD:List V->Hp->VK->Prop:=λxs H Q=>∃(p:Addr) (kvs:List (Key×V)) (ss:List Str),xs=[.ref p]/\Rd H p (.dK kvs)/\kvs.map (·.1)=ss.map Sum.inr/\ss≠[]/\∀m:Str,m∈ss->(∀z∈ss,leS m z)->Q (.str m) H
theorem call_minD(hc:X.calm=true):CallR X (.builtin "min") rMinD:=by
 intro pins s σ H xs us Q I r h
 obtain⟨p,kvs,ss,rfl,hq,hk,hne,q⟩:=h
 obtain⟨u,rfl,rx⟩:=vals1 r
 cases rx
 obtain⟨z,hS,vs,rel,dd⟩:=dk_rd I.hok hq
 obtain⟨ep,da⟩:=dd.dictAt
 have hkeys:vs.map (·.1)=ss.map Sum.inr:=(kv_keys rel).symm.trans hk
 have hl:vs.length=ss.length:=by have e:=congrArg List.length hkeys;simpa using e
 have hlt:p<s.heap.objs.size:=by obtain⟨_,_,e,_⟩:=id da;exact yal e
 have npos:0<vs.length:=by rw[hl];exact yct.mpr hne
 have val:∀(i:Nat) (v:Value),(∃k x,vs[i]?=some (k,x)/\(mixKind X.prog X.w).is k v=true)->∃t,v=.str (ss.getD i (Str.ofString "")) t:=λi v ⟨k,x,e,hi⟩=>by
  have e1:(vs.map (·.1))[i]?=some k:=by rw[ybd,e];rfl
  rw[hkeys,ybd]at e1
  cases hj:ss[i]? with
  |none=>rw[hj]at e1;cases e1
  |some y=>
   rw[hj]at e1;cases e1
   obtain⟨t,rfl⟩:=Value.isStrOf_shape (x:=y) (v:=v) hi
   exact⟨t,by rw[yba,hj];rfl⟩
 refine call_min_walk (wpAny_pyIter_dict hS da ?_)
 refine⟨_,_,_,_,_,_,_,rfl,Walks.dictKeys (A:=X.A.in1) (by simp[I.ok.hd hc]) s.heap.objs.size p (Nat.ne_of_lt hlt) vs ep,⟨⟨_,Heap.get?_push_size _ rfl,rfl,rfl⟩,da.at' λo e=>Heap.get?_push_of_some _ e⟩,λb hb=>?_,npos,CmpOf.strs_lt (λi=>ss.getD i (Str.ofString "")) val,λv h' tk hP kp=>?_⟩
 ·show b<(s.heap.push _).objs.size
  rw[yb5]
  rcases yau.mp hb with rfl|hb
  ·exact ybt _
  ·rw[yae.mp hb];exact yb6 hlt
 ·obtain⟨t,rfl⟩:=val _ v hP
  have kept:∀b o,s.heap.get? b=some o->h'.get? b=some o:=λb o e=>kp b o (λhm=>by rw[yae.mp hm]at e;exact absurd (yal e) (ybb _)) (yad _ e)
  have bl:=best_le (λi j=>decide ((ss.getD i (Str.ofString "")).cps.toList<(ss.getD j (Str.ofString "")).cps.toList)) (vs.length - 1)
  have bm:=best_min (λi=>ss.getD i (Str.ofString "")) (vs.length - 1)
  refine⟨V.str _,H,I.kept kept,⟨t,rfl⟩,q _ ?_ λz hz=>?_⟩
  ·have:argBest (λi j=>decide ((ss.getD i (Str.ofString "")).cps.toList<(ss.getD j (Str.ofString "")).cps.toList)) (vs.length - 1)<ss.length:=by omega
   rw[yba,yar this]
   exact ybr _
  ·obtain⟨i,hi⟩:=yb3 hz
   have il:=(yam.mp hi).1
   have:=bm i (by omega)
   rw[show ss.getD i (Str.ofString "")=z by rw[yba,hi];rfl]at this
   exact this
noncomputable def minS(a b:Str):Str:=if decide (b.cps.toList<a.cps.toList)=true then b else a
noncomputable def rMin2S:List V->Hp->VK->Prop:=λxs H Q=>∃a b:Str,xs=[.str a,.str b]/\Q (.str (minS a b)) H
theorem call_min2S(hc:X.calm=true):CallR X (.builtin "min") rMin2S:=by
 intro pins s σ H xs us Q I r h
 obtain⟨a,b,rfl,q⟩:=h
 obtain⟨u,w',rfl,⟨t,rfl⟩,⟨t',rfl⟩⟩:=vals2 r
 have hT:(s.heap.push { cls:=.type "tuple", data:=.seq #[.str a t,.str b t'] }).IsTuple s.heap.objs.size #[.str a t,.str b t']:=⟨_,yaq _ rfl,rfl,0,rfl⟩
 refine call_min_two (wpAny_pyIter_tuple hT ?_)
 have hsz:(s.heap.push { cls:=.type "tuple", data:=.seq #[.str a t,.str b t'] }).objs.size=s.heap.objs.size+1:=yb5 ..
 have val:∀(i:Nat) (v:Value),(#[Value.str a t,Value.str b t']:Array Value)[i]?=some v->∃t,v=.str ([a,b].getD i (Str.ofString "")) t:=λi v hv=>by
  match i,hv with
  |0,hv=>exact⟨t,(Option.some.inj hv).symm⟩
  |1,hv=>exact⟨t',(Option.some.inj hv).symm⟩
  |i+2,hv=>simp at hv
 refine⟨_,[_,s.heap.objs.size],[_],_,_,_,_,rfl,Walks.tuple (A:=X.A.in1) (by simp[I.ok.hd hc]) _ s.heap.objs.size (by rw[hsz];exact Nat.ne_of_lt (Nat.lt_succ_self _)) #[.str a t,.str b t'],
  ⟨⟨_,yaq _ rfl,rfl,rfl⟩,hT.push _⟩,λc hc=>?_,by simp,CmpOf.strs_lt (λi=>[a,b].getD i (Str.ofString "")) val,λv h' tk hP hk=>?_⟩
 ·show c<((s.heap.push _).push _).objs.size
  rw[yb5,hsz]
  rcases yau.mp hc with rfl|hc
  ·rw[hsz];exact ybt _
  ·rcases yau.mp hc with rfl|hc
   ·exact yb6 (ybt _)
   ·cases hc
 ·have kept:∀c o,s.heap.get? c=some o->h'.get? c=some o:=λc o e=>by
   refine hk c o (λhm=>?_) (yad _ (yad _ e))
   rcases yau.mp hm with e1|hm
   ·have:=yal e;rw[e1,hsz]at this;exact ybb _ (Nat.lt_of_succ_lt this)
   ·cases hm
  refine⟨V.str (minS a b),H,I.kept kept,?_,q⟩
  have hP':(#[Value.str a t,Value.str b t']:Array Value)[argBest (λi j=>decide (([a,b].getD i (Str.ofString "")).cps.toList<([a,b].getD j (Str.ofString "")).cps.toList)) 1]?=some v:=hP
  have e:argBest (λi j=>decide (([a,b].getD i (Str.ofString "")).cps.toList<([a,b].getD j (Str.ofString "")).cps.toList)) 1=if decide (b.cps.toList<a.cps.toList)=true then 1 else 0:=rfl
  rw[e]at hP'
  unfold minS
  split at hP'
  ·rename_i z
   rw[if_pos z];exact⟨t',(Option.some.inj hP').symm⟩
  ·rename_i z
   rw[if_neg z];exact⟨t,(Option.some.inj hP').symm⟩
theorem call_minLK{K:Wf}(hc:X.calm=true)(e:X.K=K):CallR X (.builtin "min") (rMinL K):=e▸call_minL hc
end
section
open PySem.SeqAt
open PySem.AutoSeq1 (wpAny_loadPart')
open PySem.MeetsSeq PySem.MeetsSeq2 PySem.MeetsSeq3
theorem two_same(l b:Addr)(x1 x2 y1 y2:Value)(n n2:Nat)(dd dd2:Option Addr)(sl sl2:Array (Option Value)):
  Meets (Builtin.«tuple.__lt__» ⟨[.ref l,.ref b],[]⟩)
   (λA R s=>s.heap.get? l=some { cls:=.type "tuple", dict:=dd,data:=.seq #[x1,x2] n,slots:=sl }/\s.heap.get? b=some { cls:=.type "tuple", dict:=dd2,data:=.seq #[y1,y2] n2,slots:=sl2 }/\
    EqAt A.in1 s x1 y1 true/\EqAt A.in1 s x2 y2 true/\R (.ok (.ret (.bool false))) s):=
 .of_wp λprog w A R s h=>by
  obtain⟨hp,g,d,tk,os⟩:=s
  obtain⟨hl,hb,q1,q2,hR⟩:=h
  have f2:=AutoSeq1.sub_tuple_tuple
  have w1:∀(E:Vs) (Q:Bool->Shared->Prop),Q true ⟨hp,g,d,tk,os⟩->wpAny (model prog w) A.in1 (eqBool x1 y1) Q E ⟨hp,g,d,tk,os⟩:=λE Q h=>q1 prog w E Q h
  have w2:∀(E:Vs) (Q:Bool->Shared->Prop),Q true ⟨hp,g,d,tk,os⟩->wpAny (model prog w) A.in1 (eqBool x2 y2) Q E ⟨hp,g,d,tk,os⟩:=λE Q h=>q2 prog w E Q h
  wp_walk using wpAny_loadPart' hl,wpAny_loadPart' hb,w1,w2
  exact⟨_,rfl,hR⟩
end
theorem same_two(hl:IsTup s.heap l #[x1,x2])(hb:IsTup s.heap b #[y1,y2])(hu:A.units<cLine)
  (h1:SeqAt.EqAt A.in1 s x1 y1 true) (h2:SeqAt.EqAt A.in1 s x2 y2 true):LtAt A s (.ref l) (.ref b) false:=by
 intro prog w E Q q
 obtain⟨⟨cls,dd,data,sl⟩,ho,hc,n,hd⟩:=id hl
 obtain⟨⟨cls2,dd2,data2,sl2⟩,ho2,hc2,n2,hd2⟩:=id hb
 simp only at hc hd hc2 hd2
 subst hc hd hc2 hd2
 exact richCompare_meets_room (op:=.Lt) ⟨_,ho,rfl⟩ ⟨_,ho2,rfl⟩ PySem.F.slot_tuple_lt PySem.F.entry_tuple_lt (PySem.F.args_tuple_lt_2 _ _) (two_same l b x1 x2 y1 y2 n n2 dd dd2 sl sl2)
  ⟨ho,ho2,h1,h2,show Value.bool false≠Value.notImplemented/\Q (.bool false) s from ⟨(λx=>nomatch x),q⟩⟩ hu
noncomputable def ltQ(x y:Str×Str):Bool:=if x.1=y.1 then decide (x.2.cps.toList<y.2.cps.toList) else decide (x.1.cps.toList<y.1.cps.toList)
theorem ltQ_cases(x y:Str×Str):ltQ x y=true↔x.1.cps.toList<y.1.cps.toList\/(x.1=y.1/\x.2.cps.toList<y.2.cps.toList):=by
 unfold ltQ
 by_cases e:x.1=y.1
 ·rw[if_pos e,decide_eq_true_eq,e]
  exact⟨λh=>.inr ⟨rfl,h⟩,λh=>h.elim (λh=>absurd h (List.lt_irrefl _)) (·.2)⟩
 ·rw[if_neg e,decide_eq_true_eq]
  exact⟨.inl,λh=>h.elim id λh=>absurd h.1 e⟩
theorem ltQ_trans(h1:ltQ x y=true)(h2:ltQ y z=true):ltQ x z=true:=by
 rw[ltQ_cases]at *
 rcases h1 with h1|⟨e1,h1⟩<;>rcases h2 with h2|⟨e2,h2⟩
 ·exact .inl (List.lt_trans h1 h2)
 ·exact .inl (e2▸h1)
 ·exact .inl (e1▸h2)
 ·exact .inr ⟨e1.trans e2,List.lt_trans h1 h2⟩
theorem ltQ_irr(x:Str×Str):ltQ x x=false:=by unfold ltQ;rw[if_pos rfl];simp
theorem lt_strB:LtAt A s (.str z t) (.str z' t') (decide (z.cps.toList<z'.cps.toList)):=by
 intro prog w E Q q
 exact(lt_str q:wpAny (model prog w) A (compareOp .Lt (.str z t) (.str z' t')) Q E s)
theorem lt_pair(hl:IsTup s.heap l #[.str x.1 t1,.str x.2 t2])(hb:IsTup s.heap b #[.str y.1 t3,.str y.2 t4])(hu:A.units<cLine):LtAt A s (.ref l) (.ref b) (ltQ x y):=by
 have q1:=SeqAt.EqAt.str_str (A:=A.in1) (s:=s) x.1 t1 y.1 t3
 have q2:=SeqAt.EqAt.str_str (A:=A.in1) (s:=s) x.2 t2 y.2 t4
 unfold ltQ
 by_cases e:x.1=y.1
 ·rw[if_pos e]
  rw[show(x.1 == y.1)=true by simpa using e]at q1
  by_cases e2:x.2=y.2
  ·rw[show(x.2 == y.2)=true by simpa using e2]at q2
   rw[e2,decide_eq_false (List.lt_irrefl _)]
   exact same_two hl hb hu q1 q2
  ·rw[show(x.2 == y.2)=false by simpa using e2]at q2
   exact lt_two hl hb hu q1 (λh=>by cases h) λ_=>⟨q2,lt_strB⟩
 ·rw[if_neg e]
  rw[show(x.1 == y.1)=false by simpa using e]at q1
  exact lt_two hl hb hu q1 (λ_=>lt_strB) (λh=>by cases h)
def Lst(a:Nat->Addr)(lt:Nat->Nat->Bool)(j:Nat)(xs:Array Value):Prop:=(j=0/\xs=#[])\/∃m,m<j/\xs=#[.ref (a m),.ref (a m)]/\∀i,i<j->lt i m=false
section
variable{prog:Program}{w:World}{A:Around}{R:Result->Shared->Prop}{I S:Addr}{fp wr:List Addr}{n:Nat}{P:Nat->Value->Prop}{St:Nat->Heap->Prop}{a:Nat->Addr}{lt:Nat->Nat->Bool}{Kp:Heap->Prop}
theorem min_turns(W:Walks prog w A.in1 I fp wr n P St)(hP:∀i v,P i v->v=.ref (a i))(hSf:S∉fp)(hn:0<n)(irr:∀i,lt i i=false)(tr:∀i j k,lt i j=true->lt j k=true->lt i k=true)
  (kpt:∀h h':Heap,Kp h->(∀b o,b∉wr->b≠S->h.get? b=some o->h'.get? b=some o)->Kp h') (cmp:∀(s:Shared) i j,i<n->j<n->Kp s.heap->LtAt A.in1 s (.ref (a i)) (.ref (a j)) (lt i j)):
  ∀(k j:Nat) (s:Shared) (xs:Array Value) (c:Nat),n - j=k->j<=n->St j s.heap->Kp s.heap->s.heap.get? S=some (bestO xs c)->Lst a lt j xs->
  (∀m h' tk,m<n->(∀i,i<n->lt i m=false)->(∀b o,b∉wr->b≠S->s.heap.get? b=some o->h'.get? b=some o)->R (.ok (.ret (.ref (a m)))) { s with heap:=h',toks:=tk })->
  codeAny (model prog w) A (.builtin "min.loop" ⟨[.ref I,.none,.ref S],[]⟩) R s:=by
 have hSw:S∉wr:=λh=>hSf (W.sub _ h)
 have nm:(toString "min" ++ toString ".loop" : String) = "min.loop" := by decide
 intro k
 induction k with
 |zero=>
  intro j s xs c hk hj hst kp0 hS hb hR
  have ej:j=n:=by omega
  subst ej
  refine codeAny_builtin F.entry_min_loop ?_
  rw[Around.under_plainId F.plain_min_loop _]
  show wpAny _ A.in1 (seqItems? (.ref S) >>= _) _ _ s
  refine yab (wpAny_seqItems hS rfl ?_)
  refine yab (wpAny_tryCatch (W.done s _ _ hst λh' tk kp=>?_))
  have hS':=kp S _ hSw hS
  rcases hb with ⟨z,rfl⟩|⟨m,z1,rfl,z2⟩
  ·omega
  ·refine yab (m:=updateSeq S λ_=>#[]) (wpAny_updateSeq hS' rfl (yab (wpAny_letGo (yaf ?_))))
   exact hR m _ tk z1 z2 λb o b1 b2 e=>(ybi _ _ (Ne.symm b2)).trans (kp b o b1 e)
 |succ k ih=>
  intro j s xs c hk hj hst kp0 hS hb hR
  have hlt:j<n:=by omega
  refine codeAny_builtin F.entry_min_loop ?_
  rw[Around.under_plainId F.plain_min_loop _]
  show wpAny _ A.in1 (seqItems? (.ref S) >>= _) _ _ s
  refine yab (wpAny_seqItems hS rfl ?_)
  refine yab (wpAny_tryCatch (W.item j s _ _ hlt hst λv h' tk hv hst' kp=>?_))
  have hS':=kp S _ hSw hS
  have kp1:Kp h':=kpt _ _ kp0 λb o b1 _ e=>kp b o b1 e
  have ev:=hP j v hv
  subst ev
  have put:∀h'':Heap,St (j+1) h''->(∀b o,b≠S->h'.get? b=some o->h''.get? b=some o)->∀ys c',h''.get? S=some (bestO ys c')->Lst a lt (j+1) ys->codeAny (model prog w) A (.builtin "min.loop" ⟨[.ref I,.none,.ref S],[]⟩) R { s with heap:=h'',toks:=tk }:=λh'' st'' k2 ys c' e1 e2=>
   ih (j+1) _ ys c' (by omega) hlt st'' (kpt _ _ kp1 λb o _ b2 e=>k2 b o b2 e) e1 e2 λm h3 tk3 b3 b4 k3=>hR m h3 tk3 b3 b4 λb o b1 b2 e=>k3 b o b1 b2 (k2 b o b2 (kp b o b1 e))
  have write:∀ys:Array Value,∃c',(h'.update S (Obj.mapSeq λ_=>ys)).get? S=some (bestO ys c')/\St (j+1) (h'.update S (Obj.mapSeq λ_=>ys))/\∀b o,b≠S->h'.get? b=some o->(h'.update S (Obj.mapSeq λ_=>ys)).get? b=some o:=λys=>
   ⟨_,ybf _ hS' rfl,W.frame _ _ _ hst' λb hbf o e=>(ybi _ _ (λq:S=b=>hSf (q▸hbf))).trans e,λb o hb e=>(ybi _ _ (Ne.symm hb)).trans e⟩
  rcases hb with ⟨z,rfl⟩|⟨m,z1,rfl,z2⟩
  ·have nb:Lst a lt (j+1) #[.ref (a j),.ref (a j)]:=.inr ⟨j,by omega,rfl,λi hi=>by rw[show i=j by omega];exact irr j⟩
   obtain⟨c',e1,e2,e3⟩:=write #[.ref (a j),.ref (a j)]
   refine yab (m:=updateSeq S λ_=>#[.ref (a j),.ref (a j)]) (wpAny_updateSeq hS' rfl ?_)
   rw[nm]
   exact yaf ⟨plainId_quiet F.plain_min_loop _,put _ e2 e3 _ c' e1 nb⟩
  ·refine yab (yaf ?_)
   refine yab (wpAny_tryCatch (ybo (yab ?_)))
   refine cmp _ j m hlt (by omega) kp1 prog w _ _ ?_
   refine yab (ybo (yck (yab (wpAny_letGo (yaf ?_)))))
   cases gt:lt j m with
   |true=>
    have nb:Lst a lt (j+1) #[.ref (a j),.ref (a j)]:=.inr ⟨j,by omega,rfl,λi hi=>by
     by_cases q:i=j
     ·rw[q];exact irr j
     ·have h2:=z2 i (by omega)
      cases h3:lt i j with
      |false=>rfl
      |true=>rw[tr i j m h3 gt]at h2;cases h2⟩
    obtain⟨c',e1,e2,e3⟩:=write #[.ref (a j),.ref (a j)]
    simp only[if_true]
    refine yab (m:=updateSeq S λ_=>#[.ref (a j),.ref (a j)]) (wpAny_updateSeq hS' rfl (yab (wpAny_letGo ?_)))
    rw[nm]
    exact yaf ⟨plainId_quiet F.plain_min_loop _,put _ e2 e3 _ c' e1 nb⟩
   |false=>
    have nb:Lst a lt (j+1) #[.ref (a m),.ref (a m)]:=.inr ⟨m,by omega,rfl,λi hi=>by
     by_cases q:i=j
     ·rw[q];exact gt
     ·exact z2 i (by omega)⟩
    simp only[Bool.false_eq_true,if_false]
    refine yab (wpAny_letGo ?_)
    rw[nm]
    exact yaf ⟨plainId_quiet F.plain_min_loop _,put h' hst' (λb o _ e=>e) _ c hS' nb⟩
end
section
variable{prog:Program}{w:World}{A:Around}{E:Vs}{s:Shared}
theorem min_pairs{l:Addr}{as:List Addr}{f:Addr->Str×Str}{Q:Vs}(hh:A.handled=none)(hu:A.units+2<cLine)(hl:s.heap.IsList l (as.map Value.ref).toArray)(hn:as≠[])(ht:∀b∈as,∃t1 t2,IsTup s.heap b #[.str (f b).1 t1,.str (f b).2 t2])
  (hQ:∀b h' tk,b∈as->(∀c∈as,ltQ (f c) (f b)=false)->(∀b o,s.heap.get? b=some o->h'.get? b=some o)->Q (.ref b) { s with heap:=h',toks:=tk }):
  wpAny (model prog w) A (call (.builtin "min") [.ref l]) Q E s:=by
 have ll:l<s.heap.objs.size:=let ⟨o,ho,_⟩:=hl;yal ho
 have nm:(toString "min" ++ toString ".loop" : String) = "min.loop" := by decide
 have npos:0<as.length:=yct.mpr hn
 refine call_function_tree F.kind_min F.plain_min F.entry_min (F.args_min1 _) ?_
 show wpAny _ A.in1 (Builtin.Builtins.bindParams "min" ["key", "default"] 0 ⟨[],[]⟩ >>= _) _ _ s
 refine yab (wpAny_of_eq (show Builtin.Builtins.bindParams "min" ["key", "default"] 0 ⟨[],[]⟩=pure [none,none] from rfl) ?_)
 refine yab (yaf (yab (wpAny_pyIter_list hl (yab (ybn ?_)))))
 rw[nm]
 generalize h1:s.heap.push { cls:=.type "list_iterator", data:=.fields #[.ref l,.int 0 0] }=H1
 have z1:H1.objs.size=s.heap.objs.size+1:=by rw[<-h1];exact yb5 ..
 have k1:∀b o,s.heap.get? b=some o->H1.get? b=some o:=λb o e=>h1▸yad _ e
 have it:H1.IsListIter s.heap.objs.size l 0:=h1▸⟨_,yaq _ rfl,rfl,rfl⟩
 have W:=Walks.list (prog:=prog) (w:=w) (A:=A.in1) (by simpa using hh) s.heap.objs.size l (Nat.ne_of_lt ll) (as.map Value.ref).toArray
 have sz:(as.map Value.ref).toArray.size=as.length:=by simp
 have tl:∀b∈as,b<s.heap.objs.size:=λb hb=>by
  obtain⟨_,_,⟨o,ho,_⟩⟩:=ht b hb
  exact yal ho
 have inA:∀i,i<as.length->as.getD i 0∈as:=λi hi=>by rw[yba,yar hi];exact ybr _
 refine yaf ⟨plainId_quiet F.plain_min_loop _,min_turns (S:=H1.objs.size) (a:=λi=>as.getD i 0) (lt:=λi j=>ltQ (f (as.getD i 0)) (f (as.getD j 0))) (Kp:=λh=>∀b∈as,∃t1 t2,IsTup h b #[.str (f b).1 t1,.str (f b).2 t2]) W (λi v hv=>?_) (λq=>?_) (by rw[sz];exact npos) (λi=>ltQ_irr _) (λi j k h1 h2=>ltQ_trans h1 h2) (λh h' kp kk b hb=>?_) (λs' i j hi hj kp=>?_) (as.map Value.ref).toArray.size 0 _ #[] 0 rfl (ya1 _) ⟨it.at λo e=>yad _ e,(hl.at λo e=>k1 _ _ e).at λo e=>yad _ e⟩ (λb hb=>?_) (yaq _ rfl) (.inl ⟨rfl,rfl⟩) λm h' tk hm hx kp=>?_⟩
 ·have hv:(as.map Value.ref).toArray[i]?=some v:=hv
  rw[yc1,ybd]at hv
  obtain⟨b,hb,rfl⟩:=yao.mp hv
  rw[yba,hb];rfl
 ·rw[z1]at q
  rcases yau.mp q with q|q
  ·exact Nat.succ_ne_self _ q
  ·exact Nat.ne_of_gt (yb6 ll) (yae.mp q)
 ·obtain⟨t1,t2,⟨o,ho,q⟩⟩:=kp b hb
  have hb2:=tl b hb
  exact⟨t1,t2,⟨o,kk b o (λz=>yax hb2 (yae.mp z)) (λz=>by rw[z,z1]at hb2;exact ybb _ (Nat.lt_of_succ_lt hb2)) ho,q⟩⟩
 ·rw[sz]at hi hj
  obtain⟨t1,t2,p1⟩:=kp _ (inA i hi)
  obtain⟨t3,t4,p2⟩:=kp _ (inA j hj)
  exact lt_pair p1 p2 (by show A.units+1<cLine;omega)
 ·obtain⟨t1,t2,⟨o,ho,q⟩⟩:=ht b hb
  exact⟨t1,t2,⟨o,yad _ (k1 b o ho),q⟩⟩
 ·rw[sz]at hm hx
  refine hQ _ h' tk (inA m hm) (λc hc=>?_) λb o e=>kp b o (λq=>?_) (yax (Nat.lt_trans (yal e) (z1▸ybt _))) (yad _ (k1 b o e))
  ·obtain⟨i,hi,rfl⟩:=ycu hc
   have:=hx i hi
   rwa [show as.getD i 0=as[i] by rw[yba,yar hi];rfl]at this
  ·exact yax (yal e) (yae.mp q)
end
section
variable{X:Cx}
noncomputable def rMinP(K:Wf):List V->Hp->VK->Prop:=λxs H Q=>∃(p:Addr) (as:List Addr) (f:Addr->Str×Str),xs=[.ref p]/\SqL K H p (as.map V.ref)/\as≠[]/\(∀a∈as,H a=some (.tup [.str (f a).1,.str (f a).2]))/\∀a∈as,(∀b∈as,ltQ (f b) (f a)=false)->Q (.ref a) H
theorem call_minP(hc:X.calm=true)(hu:X.A.units+64<cLine):CallR X (.builtin "min") (rMinP X.K):=by
 intro pins s σ H xs us Q I r h
 obtain⟨p,as,f,rfl,hq,hne,ht,q⟩:=h
 obtain⟨u,rfl,rx⟩:=vals1 r
 cases rx
 obtain⟨its,rv,pl,hz⟩:=I.list hq
 have e:=refs_of rv
 subst e
 refine min_pairs (f:=f) (by simp[I.ok.hd hc]) (by omega) pl.isList hne (λb hb=>?_) λb h' tk hb hx kp=>?_
 ·obtain⟨its,r1,p1,_⟩:=I.tuple (SqT.of (ht b hb))
  obtain⟨u,w',rfl,⟨t,rfl⟩,⟨t',rfl⟩⟩:=vals2 r1
  exact⟨t,t',p1⟩
 ·exact⟨V.ref b,H,I.kept kp,rfl,q b hb hx⟩
theorem call_minPK{K:Wf}(hc:X.calm=true)(hu:X.A.units+64<cLine)(e:X.K=K):CallR X (.builtin "min") (rMinP K):=e▸call_minP hc hu
end
end L2
set_option maxHeartbeats 0
set_option pp.deepTerms true
set_option pp.maxSteps 100000
namespace My
open PySem PySem.Spec PyProof.Rows L2
noncomputable abbrev pfA(a:Addr):List (Str×V):=putF (Str.ofString "pieces") (V.ref a) []
noncomputable abbrev pfB(a b:Addr):List (Str×V):=putF (Str.ofString "reasons") (V.ref b) (pfA a)
noncomputable abbrev pfC(a b c:Addr):List (Str×V):=putF (Str.ofString "told_by_given") (V.ref c) (pfB a b)
noncomputable abbrev pfD(a b c d:Addr):List (Str×V):=putF (Str.ofString "on_shelves") (V.ref d) (pfC a b c)
noncomputable abbrev pfE(a b c d e:Addr):List (Str×V):=putF (Str.ofString "from_shelves") (V.ref e) (pfD a b c d)
set_option hygiene false in
local macro_rules | `(tactic| walk_at "0") => `(tactic| rw [ybd] at hx)
set_option hygiene false in
local macro_rules | `(tactic| walk_at "1") => `(tactic| have mem : ∀ b ∈ p.lists, b ∈ L :: listsOf (ps ++ [p]) := fun b hb => yaw _ (by rw [zz17]; exact yaj _ hb))
set_option hygiene false in
local macro_rules | `(tactic| walk_at "2") => `(tactic| have tk : (p.nms.take (i + 1)) = p.nms.take i ++ [n] := by rw [ya4, hn]; rfl)
set_option hygiene false in
local macro_rules | `(tactic| walk_at "3") => `(tactic| rw [yaa, yaa] at this)
set_option hygiene false in
local macro_rules | `(tactic| walk_at "4") => `(tactic| rw [yaa, ya0] at e)
set_option hygiene false in
local macro_rules | `(tactic| walk_at "5") => `(tactic| have tj : fillsOf (p.sts.take i) ++ st.fills.take (j + 1) = (fillsOf (p.sts.take i) ++ st.fills.take j) ++ [f] := by rw [ya4, hf, ybp]; rfl)
set_option hygiene false in
local macro_rules | `(tactic| walk_at "6") => `(tactic| rw [ybd] at hv)
set_option hygiene false in
local macro_rules | `(tactic| walk_at "7") => `(tactic| obtain ⟨p, hp, rfl⟩ := yao.mp hv)
set_option hygiene false in
local macro_rules | `(tactic| walk_at "8") => `(tactic| rw [yaa, yaa, ybe] at this)
set_option hygiene false in
local macro_rules | `(tactic| walk_at "9") => `(tactic| have at0 : atI (((c0, G') :: yr).map fun y => V.ref y.1) 0 = some (V.ref c0) := (show atI (V.ref c0 :: yr.map fun y => V.ref y.1) ((0 : Nat) : Int) = _ from atI_nat rfl))
local macro_rules | `(tactic| walk_at "o") => `(tactic| first | exact Or.inl rfl | exact Or.inr rfl)
local macro_rules | `(tactic| walk_at "s") => `(tactic| (rw [sizeLine_eq]; decide))
local macro_rules | `(tactic| walk_at "p") => `(tactic| first | exact Or.inl rfl | exact Or.inr (Or.inl rfl) | exact Or.inr (Or.inr rfl))
local macro_rules | `(tactic| walk_at "q") => `(tactic| first | exact .inl rfl | exact .inr rfl | assumption)
noncomputable def top(i:Nat):Stmt:=PySem.Challenge.pw_joinload_k22_not_taken.main.body.getD i (.Pass ⟨0,0,0,0⟩)
noncomputable abbrev s_qqw:Stmt:=inClass (top 5) 0
noncomputable abbrev s_qqk:Stmt:=inClass (top 6) 0
noncomputable abbrev s_tells:Stmt:=top 13
noncomputable abbrev s_wants:Stmt:=top 14
noncomputable abbrev s_qzq:Stmt:=top 15
noncomputable abbrev s_qwv:Stmt:=top 17
noncomputable abbrev s_qwk:Stmt:=top 18
noncomputable abbrev s_taken:Stmt:=top 20
noncomputable abbrev s_qxq:Stmt:=top 21
noncomputable abbrev s_qqy:Stmt:=inClass (top 22) 0
noncomputable abbrev s_qqq:Stmt:=inClass (top 22) 1
noncomputable abbrev s_qqx:Stmt:=inClass (top 22) 2
noncomputable abbrev s_qyy:Stmt:=top 23
noncomputable abbrev s_qqz:Stmt:=top 24
noncomputable abbrev s_qqv:Stmt:=top 25
noncomputable abbrev s_qwy:Stmt:=top 27
noncomputable abbrev s_qww:Stmt:=top 28
noncomputable abbrev s_qqj:Stmt:=top 29
noncomputable abbrev s_qwj:Stmt:=top 30
noncomputable abbrev s_qzk:Stmt:=top 31
noncomputable abbrev s_qyq:Stmt:=top 32
noncomputable abbrev s_qwx:Stmt:=top 33
noncomputable abbrev s_qyz:Stmt:=top 34
noncomputable abbrev s_qyx:Stmt:=top 35
noncomputable abbrev s_qzw:Stmt:=top 36
noncomputable abbrev s_qzx:Stmt:=top 37
noncomputable abbrev s_qwz:Stmt:=top 38
noncomputable abbrev s_qzv:Stmt:=top 39
noncomputable abbrev s_qzy:Stmt:=top 40
noncomputable abbrev s_qzz:Stmt:=top 41
noncomputable abbrev s_qzj:Stmt:=top 42
noncomputable abbrev s_qwq:Stmt:=top 43
noncomputable abbrev s_law:Stmt:=top 44
theorem bt_ValueError:bootBuiltins "ValueError" = some (.type "ValueError"):=by decide +kernel
theorem bt_int:bootBuiltins "int" = some (.type "int"):=by decide +kernel
theorem zz13:bootBuiltins "isinstance" = some (.builtin "isinstance"):=by decide +kernel
theorem bt_len:bootBuiltins "len" = some (.builtin "len"):=by decide +kernel
theorem bt_list:bootBuiltins "list" = some (.type "list"):=by decide +kernel
theorem bt_min:bootBuiltins "min" = some (.builtin "min"):=by decide +kernel
theorem bt_set:bootBuiltins "set" = some (.type "set"):=by decide +kernel
theorem bt_sorted:bootBuiltins "sorted" = some (.builtin "sorted"):=by decide +kernel
theorem bt_str:bootBuiltins "str" = some (.type "str"):=by decide +kernel
theorem relT:RelV (.ty n) (.type n):=rfl
structure Ad where
 qqw:Addr
 fd_qqw:FuncData
 qqk:Addr
 fd_qqk:FuncData
 tells:Addr
 fd_tells:FuncData
 wants:Addr
 fd_wants:FuncData
 qzq:Addr
 fd_qzq:FuncData
 qwv:Addr
 fd_qwv:FuncData
 qwk:Addr
 fd_qwk:FuncData
 taken:Addr
 fd_taken:FuncData
 qxq:Addr
 fd_qxq:FuncData
 qqy:Addr
 fd_qqy:FuncData
 qqq:Addr
 fd_qqq:FuncData
 qqx:Addr
 fd_qqx:FuncData
 qyy:Addr
 fd_qyy:FuncData
 qqz:Addr
 fd_qqz:FuncData
 qqv:Addr
 fd_qqv:FuncData
 qwy:Addr
 fd_qwy:FuncData
 qww:Addr
 fd_qww:FuncData
 qqj:Addr
 fd_qqj:FuncData
 qwj:Addr
 fd_qwj:FuncData
 qzk:Addr
 fd_qzk:FuncData
 qyq:Addr
 fd_qyq:FuncData
 qwx:Addr
 fd_qwx:FuncData
 qyz:Addr
 fd_qyz:FuncData
 qyx:Addr
 fd_qyx:FuncData
 qzw:Addr
 fd_qzw:FuncData
 qzx:Addr
 fd_qzx:FuncData
 qwz:Addr
 fd_qwz:FuncData
 qzv:Addr
 fd_qzv:FuncData
 qzy:Addr
 fd_qzy:FuncData
 qzz:Addr
 fd_qzz:FuncData
 qzj:Addr
 fd_qzj:FuncData
 qwq:Addr
 fd_qwq:FuncData
 law:Addr
 fd_law:FuncData
 tb_taken:Addr
 c_qyw:Addr
 c_Lost:Addr
 c_qxz:Addr
 c_qxw:Addr
 c_qxx:Addr
 c_qyv:Addr
 c_qyj:Addr
 c_qyk:Addr
 c_qxy:Addr
 c_qxk:Addr
 c_qxv:Addr
 c_qxj:Addr
structure Txt(K:Wf)(mg:So)(A:Ad):Prop where
 k_qqw:keepIn K (.ref A.qqw)=true
 b_qqw:Binds K A.fd_qqw ["self", "name"] []
 F_qqw:Fun K "__init__" "SameName.__init__" s_qqw A.qqw A.fd_qqw
 k_qqk:keepIn K (.ref A.qqk)=true
 b_qqk:Binds K A.fd_qqk ["self", "name", "piece"] []
 F_qqk:Fun K "__init__" "Unmet.__init__" s_qqk A.qqk A.fd_qqk
 m_tells:mg "tells" = some (.ref A.tells)
 k_tells:keepIn K (.ref A.tells)=true
 b_tells:Binds K A.fd_tells ["piece"] []
 F_tells:Fun K "tells" "tells" s_tells A.tells A.fd_tells
 m_wants:mg "wants" = some (.ref A.wants)
 k_wants:keepIn K (.ref A.wants)=true
 b_wants:Binds K A.fd_wants ["piece"] []
 F_wants:Fun K "wants" "wants" s_wants A.wants A.fd_wants
 m_qzq:mg "places_told" = some (.ref A.qzq)
 k_qzq:keepIn K (.ref A.qzq)=true
 b_qzq:Binds K A.fd_qzq ["piece", "told_by"] []
 F_qzq:Fun K "places_told" "places_told" s_qzq A.qzq A.fd_qzq
 m_qwv:mg "copied_piece" = some (.ref A.qwv)
 k_qwv:keepIn K (.ref A.qwv)=true
 b_qwv:Binds K A.fd_qwv ["piece"] []
 F_qwv:Fun K "copied_piece" "copied_piece" s_qwv A.qwv A.fd_qwv
 m_qwk:mg "copied_fills" = some (.ref A.qwk)
 k_qwk:keepIn K (.ref A.qwk)=true
 b_qwk:Binds K A.fd_qwk ["fills"] []
 F_qwk:Fun K "copied_fills" "copied_fills" s_qwk A.qwk A.fd_qwk
 m_taken:mg "taken" = some (.ref A.taken)
 k_taken:keepIn K (.ref A.taken)=true
 b_taken:Binds K A.fd_taken ["given", "shelves", "entry"] []
 F_taken:Fun K "taken" "taken" s_taken A.taken A.fd_taken
 m_qxq:mg "reasons" = some (.ref A.qxq)
 k_qxq:keepIn K (.ref A.qxq)=true
 b_qxq:Binds K A.fd_qxq ["given", "shelves", "entry"] []
 F_qxq:Fun K "reasons" "reasons" s_qxq A.qxq A.fd_qxq
 k_qqy:keepIn K (.ref A.qqy)=true
 b_qqy:Binds K A.fd_qqy ["self", "given", "shelves", "entry"] []
 F_qqy:Fun K "__init__" "Taking.__init__" s_qqy A.qqy A.fd_qqy
 k_qqq:keepIn K (.ref A.qqq)=true
 b_qqq:Binds K A.fd_qqq ["self"] []
 F_qqq:Fun K "take_for_pieces" "Taking.take_for_pieces" s_qqq A.qqq A.fd_qqq
 k_qqx:keepIn K (.ref A.qqx)=true
 b_qqx:Binds K A.fd_qqx ["self", "name", "by"] []
 F_qqx:Fun K "take_for" "Taking.take_for" s_qqx A.qqx A.fd_qqx
 m_qyy:mg "pieces_on" = some (.ref A.qyy)
 k_qyy:keepIn K (.ref A.qyy)=true
 b_qyy:Binds K A.fd_qyy ["shelves"] []
 F_qyy:Fun K "pieces_on" "pieces_on" s_qyy A.qyy A.fd_qyy
 m_qqz:mg "refuse_same_name" = some (.ref A.qqz)
 k_qqz:keepIn K (.ref A.qqz)=true
 b_qqz:Binds K A.fd_qqz ["pieces"] []
 F_qqz:Fun K "refuse_same_name" "refuse_same_name" s_qqz A.qqz A.fd_qqz
 m_qqv:mg "first_tellers" = some (.ref A.qqv)
 k_qqv:keepIn K (.ref A.qqv)=true
 b_qqv:Binds K A.fd_qqv ["pieces"] []
 F_qqv:Fun K "first_tellers" "first_tellers" s_qqv A.qqv A.fd_qqv
 m_qwy:mg "_law_cell_at" = some (.ref A.qwy)
 k_qwy:keepIn K (.ref A.qwy)=true
 b_qwy:Binds K A.fd_qwy ["_law_script", "_law_k"] []
 F_qwy:Fun K "_law_cell_at" "_law_cell_at" s_qwy A.qwy A.fd_qwy
 m_qww:mg "_law_name_by" = some (.ref A.qww)
 k_qww:keepIn K (.ref A.qww)=true
 b_qww:Binds K A.fd_qww ["_law_cell", "_law_k"] []
 F_qww:Fun K "_law_name_by" "_law_name_by" s_qww A.qww A.fd_qww
 m_qqj:mg "_law_word_row" = some (.ref A.qqj)
 k_qqj:keepIn K (.ref A.qqj)=true
 b_qqj:Binds K A.fd_qqj ["_law_cell", "_law_names_by"] []
 F_qqj:Fun K "_law_word_row" "_law_word_row" s_qqj A.qqj A.fd_qqj
 m_qwj:mg "_law_told_by" = some (.ref A.qwj)
 k_qwj:keepIn K (.ref A.qwj)=true
 b_qwj:Binds K A.fd_qwj ["_law_pieces", "_law_cell", "_law_names_by", "_law_strict"] []
 F_qwj:Fun K "_law_told_by" "_law_told_by" s_qwj A.qwj A.fd_qwj
 m_qzk:mg "_law_drawn" = some (.ref A.qzk)
 k_qzk:keepIn K (.ref A.qzk)=true
 b_qzk:Binds K A.fd_qzk ["_law_cells", "_law_names_by", "_law_titles_by", "_law_strict"] []
 F_qzk:Fun K "_law_drawn" "_law_drawn" s_qzk A.qzk A.fd_qzk
 m_qyq:mg "_law_copy" = some (.ref A.qyq)
 k_qyq:keepIn K (.ref A.qyq)=true
 b_qyq:Binds K A.fd_qyq ["_law_piece"] []
 F_qyq:Fun K "_law_copy" "_law_copy" s_qyq A.qyq A.fd_qyq
 m_qwx:mg "_law_shelved" = some (.ref A.qwx)
 k_qwx:keepIn K (.ref A.qwx)=true
 b_qwx:Binds K A.fd_qwx ["_law_pieces", "_law_cell"] []
 F_qwx:Fun K "_law_shelved" "_law_shelved" s_qwx A.qwx A.fd_qwx
 m_qyz:mg "_law_rest" = some (.ref A.qyz)
 k_qyz:keepIn K (.ref A.qyz)=true
 b_qyz:Binds K A.fd_qyz ["_law_names_by", "_law_titles_by", "_law_there"] []
 F_qyz:Fun K "_law_rest" "_law_rest" s_qyz A.qyz A.fd_qyz
 m_qyx:mg "_law_told" = some (.ref A.qyx)
 k_qyx:keepIn K (.ref A.qyx)=true
 b_qyx:Binds K A.fd_qyx ["_law_piece"] []
 F_qyx:Fun K "_law_told" "_law_told" s_qyx A.qyx A.fd_qyx
 m_qzw:mg "_law_wanted" = some (.ref A.qzw)
 k_qzw:keepIn K (.ref A.qzw)=true
 b_qzw:Binds K A.fd_qzw ["_law_piece"] []
 F_qzw:Fun K "_law_wanted" "_law_wanted" s_qzw A.qzw A.fd_qzw
 m_qzx:mg "_law_first" = some (.ref A.qzx)
 k_qzx:keepIn K (.ref A.qzx)=true
 b_qzx:Binds K A.fd_qzx ["_law_some", "_law_name"] []
 F_qzx:Fun K "_law_first" "_law_first" s_qzx A.qzx A.fd_qzx
 m_qwz:mg "_law_doubled" = some (.ref A.qwz)
 k_qwz:keepIn K (.ref A.qwz)=true
 b_qwz:Binds K A.fd_qwz ["_law_some"] []
 F_qwz:Fun K "_law_doubled" "_law_doubled" s_qwz A.qwz A.fd_qwz
 m_qzv:mg "_law_unmet" = some (.ref A.qzv)
 k_qzv:keepIn K (.ref A.qzv)=true
 b_qzv:Binds K A.fd_qzv ["_law_some", "_law_entry"] []
 F_qzv:Fun K "_law_unmet" "_law_unmet" s_qzv A.qzv A.fd_qzv
 m_qzy:mg "_law_alone" = some (.ref A.qzy)
 k_qzy:keepIn K (.ref A.qzy)=true
 b_qzy:Binds K A.fd_qzy ["_law_kept"] []
 F_qzy:Fun K "_law_alone" "_law_alone" s_qzy A.qzy A.fd_qzy
 m_qzz:mg "_law_right" = some (.ref A.qzz)
 k_qzz:keepIn K (.ref A.qzz)=true
 b_qzz:Binds K A.fd_qzz ["_law_answer", "_law_kept", "_law_some", "_law_entry"] []
 F_qzz:Fun K "_law_right" "_law_right" s_qzz A.qzz A.fd_qzz
 m_qzj:mg "_law_holds" = some (.ref A.qzj)
 k_qzj:keepIn K (.ref A.qzj)=true
 b_qzj:Binds K A.fd_qzj ["_law_some", "_law_entry"] []
 F_qzj:Fun K "_law_holds" "_law_holds" s_qzj A.qzj A.fd_qzj
 m_qwq:mg "_law_spoiled" = some (.ref A.qwq)
 k_qwq:keepIn K (.ref A.qwq)=true
 b_qwq:Binds K A.fd_qwq ["_law_some", "_law_by"] []
 F_qwq:Fun K "_law_spoiled" "_law_spoiled" s_qwq A.qwq A.fd_qwq
 m_law:mg "law" = some (.ref A.law)
 k_law:keepIn K (.ref A.law)=true
 b_law:Binds K A.fd_law ["_law_script"] []
 F_law:Fun K "law" "law" s_law A.law A.fd_law
 n_ValueError:mg "ValueError" = none
 n_int:mg "int" = none
 n_isinstance:mg "isinstance" = none
 n_len:mg "len" = none
 n_list:mg "list" = none
 n_min:mg "min" = none
 n_range:mg "range" = none
 n_set:mg "set" = none
 n_sorted:mg "sorted" = none
 n_str:mg "str" = none
 bm:BMod K mg
 lm_taken:Lam K A.fd_taken A.tb_taken
 mc_qyw:mg "JoinError" = some (.ref A.c_qyw)
 mc_Lost:mg "Lost" = some (.ref A.c_Lost)
 mc_qxz:mg "NoBase" = some (.ref A.c_qxz)
 mc_qxw:mg "NoPiece" = some (.ref A.c_qxw)
 mc_qxx:mg "NoRule" = some (.ref A.c_qxx)
 mc_qyv:mg "NoSense" = some (.ref A.c_qyv)
 mc_qyj:mg "NoWhole" = some (.ref A.c_qyj)
 mc_qyk:mg "SameName" = some (.ref A.c_qyk)
 mc_qxy:mg "Taking" = some (.ref A.c_qxy)
 cl_qxy:Cls K A.c_qxy
 mc_qxk:mg "TooFar" = some (.ref A.c_qxk)
 mc_qxv:mg "Twice" = some (.ref A.c_qxv)
 mc_qxj:mg "Unmet" = some (.ref A.c_qxj)
 ks_qxx:kitOne K (.ref A.c_qyk) (.ref A.c_qxx)=some false
 ks_qxw:kitOne K (.ref A.c_qyk) (.ref A.c_qxw)=some false
 ks_qxv:kitOne K (.ref A.c_qyk) (.ref A.c_qxv)=some false
 ks_qyk:kitOne K (.ref A.c_qyk) (.ref A.c_qyk)=some true
 ks_qxj:kitOne K (.ref A.c_qyk) (.ref A.c_qxj)=some false
 ks_qxk:kitOne K (.ref A.c_qyk) (.ref A.c_qxk)=some false
 ks_qyj:kitOne K (.ref A.c_qyk) (.ref A.c_qyj)=some false
 ks_qxz:kitOne K (.ref A.c_qyk) (.ref A.c_qxz)=some false
 ks_Lost:kitOne K (.ref A.c_qyk) (.ref A.c_Lost)=some false
 ks_qyv:kitOne K (.ref A.c_qyk) (.ref A.c_qyv)=some false
 ks_qyw:kitOne K (.ref A.c_qyk) (.ref A.c_qyw)=some true
 ks_V:kitOne K (.ref A.c_qyk) (.type "ValueError")=some true
 ks_mj:mroIn K A.c_qyk (.ref A.c_qyw)=some true
 ks_hd:hasDictIn K A.c_qyk=true
 ku_qxx:kitOne K (.ref A.c_qxj) (.ref A.c_qxx)=some false
 ku_qxw:kitOne K (.ref A.c_qxj) (.ref A.c_qxw)=some false
 ku_qxv:kitOne K (.ref A.c_qxj) (.ref A.c_qxv)=some false
 ku_qyk:kitOne K (.ref A.c_qxj) (.ref A.c_qyk)=some false
 ku_qxj:kitOne K (.ref A.c_qxj) (.ref A.c_qxj)=some true
 ku_qxk:kitOne K (.ref A.c_qxj) (.ref A.c_qxk)=some false
 ku_qyj:kitOne K (.ref A.c_qxj) (.ref A.c_qyj)=some false
 ku_qxz:kitOne K (.ref A.c_qxj) (.ref A.c_qxz)=some false
 ku_Lost:kitOne K (.ref A.c_qxj) (.ref A.c_Lost)=some false
 ku_qyv:kitOne K (.ref A.c_qxj) (.ref A.c_qyv)=some false
 ku_qyw:kitOne K (.ref A.c_qxj) (.ref A.c_qyw)=some true
 ku_V:kitOne K (.ref A.c_qxj) (.type "ValueError")=some true
 ku_mj:mroIn K A.c_qxj (.ref A.c_qyw)=some true
 ku_hd:hasDictIn K A.c_qxj=true
 xg_qxj:findIn K (.ref A.c_qxj) "__getattribute__" = some (some (.builtin "BaseException.__getattribute__"))
 xn_qxj:findIn K (.ref A.c_qxj) "__getattr__" = some none
 xl_qxj:findIn K (.ref A.c_qxj) "__class__" = some (some (.builtin "object.__class__"))
 xo_qxj:mroIn K A.c_qxj (.type "object")=some true
 xb_qxj:mroIn K A.c_qxj (.type "BaseException")=some true
 xg_qyk:findIn K (.ref A.c_qyk) "__getattribute__" = some (some (.builtin "BaseException.__getattribute__"))
 xn_qyk:findIn K (.ref A.c_qyk) "__getattr__" = some none
 xl_qyk:findIn K (.ref A.c_qyk) "__class__" = some (some (.builtin "object.__class__"))
 xo_qyk:mroIn K A.c_qyk (.type "object")=some true
 xb_qyk:mroIn K A.c_qyk (.type "BaseException")=some true
 sp_cl:specialIn K (.builtin "object.__class__") "__get__" = some (some (.builtin "getset_descriptor.__get__"))
 tk_cl:takesIn K (.builtin "object.__class__")=some true
 ei_qyk:ownInit K A.c_qyk A.qqw=true
 ee_qyk:errIn K A.c_qyk=true
 es_qyk:findIn K (.ref A.c_qyk) "__setattr__" = some (some (.builtin "object.__setattr__"))
 ei_qxj:ownInit K A.c_qxj A.qqk=true
 ee_qxj:errIn K A.c_qxj=true
 es_qxj:findIn K (.ref A.c_qxj) "__setattr__" = some (some (.builtin "object.__setattr__"))
 br_qyw:readsIn K A.c_qyw (.type "type")=true
 bf_qyw:findCls K (.ref A.c_qyw) (.type "type") "__init__" = some (.val (.builtin "ValueError.__init__"))
 bg_qyw:specialIn K (.ref A.c_qyw) "__getattribute__" = some (some (.builtin "type.__getattribute__"))
 ct_qyw:instIn K (.ref A.c_qyw) (.type "tuple")=some false
 cb_qyw:mroIn K A.c_qyw (.type "BaseException")=some true
 er_qyk:ErrC K A.c_qyk A.qqw
 er_qxj:ErrC K A.c_qxj A.qqk
 bi_qyw:BaseI K A.c_qyw
 mk_qxy:Mk K A.c_qxy A.qqy
 me_qqx:Meth K A.c_qxy "take_for" A.qqx
 me_qqq:Meth K A.c_qxy "take_for_pieces" A.qqq
 no_qxy_pieces:NoAttr K A.c_qxy "pieces"
 no_qxy_qxq:NoAttr K A.c_qxy "reasons"
 no_qxy_told_by_given:NoAttr K A.c_qxy "told_by_given"
 no_qxy_on_shelves:NoAttr K A.c_qxy "on_shelves"
 no_qxy_from_shelves:NoAttr K A.c_qxy "from_shelves"
 no_qxy_unmet:NoAttr K A.c_qxy "unmet"
 no_qxj_name:NoAttr K A.c_qxj "name"
 no_qxj_piece:NoAttr K A.c_qxj "piece"
 no_qyk_name:NoAttr K A.c_qyk "name"
theorem sc_qqw:FnScope ["self", "name"] ["self", "name"] (defScope s_qqw):=⟨rfl,rfl,rfl,by decide +kernel,rfl,by decide +kernel,by decide +kernel⟩
theorem sc_qqk:FnScope ["self", "name", "piece"] ["self", "name", "piece"] (defScope s_qqk):=⟨rfl,rfl,rfl,by decide +kernel,rfl,by decide +kernel,by decide +kernel⟩
theorem sc_tells:FnScope ["piece"] ["piece"] (defScope s_tells):=⟨rfl,rfl,rfl,by decide +kernel,rfl,by decide +kernel,by decide +kernel⟩
theorem sc_wants:FnScope ["piece", "own", "wanted", "kind", "step", "words", "fills", "at", "rule", "name", "add", "soft"] ["piece"] (defScope s_wants):=⟨rfl,rfl,rfl,by decide +kernel,rfl,by decide +kernel,by decide +kernel⟩
theorem sc_qzq:FnScope ["piece", "told_by", "places", "name", "sort", "stretch", "offset"] ["piece", "told_by"] (defScope s_qzq):=⟨rfl,rfl,rfl,by decide +kernel,rfl,by decide +kernel,by decide +kernel⟩
theorem sc_qwv:FnScope ["piece", "stretches", "names"] ["piece"] (defScope s_qwv):=⟨rfl,rfl,rfl,by decide +kernel,rfl,by decide +kernel,by decide +kernel⟩
theorem sc_qwk:FnScope ["fills"] ["fills"] (defScope s_qwk):=⟨rfl,rfl,rfl,by decide +kernel,rfl,by decide +kernel,by decide +kernel⟩
theorem sc_taken:FnScope ["given", "shelves", "entry", "taking", "ordered"] ["given", "shelves", "entry"] (defScope s_taken):=⟨rfl,rfl,rfl,by decide +kernel,rfl,by decide +kernel,by decide +kernel⟩
theorem sc_qxq:FnScope ["given", "shelves", "entry"] ["given", "shelves", "entry"] (defScope s_qxq):=⟨rfl,rfl,rfl,by decide +kernel,rfl,by decide +kernel,by decide +kernel⟩
theorem sc_qqy:FnScope ["self", "given", "shelves", "entry", "on_shelves", "least"] ["self", "given", "shelves", "entry"] (defScope s_qqy):=⟨rfl,rfl,rfl,by decide +kernel,rfl,by decide +kernel,by decide +kernel⟩
theorem sc_qqq:FnScope ["self", "done", "piece", "name"] ["self"] (defScope s_qqq):=⟨rfl,rfl,rfl,by decide +kernel,rfl,by decide +kernel,by decide +kernel⟩
theorem sc_qqx:FnScope ["self", "name", "by", "piece"] ["self", "name", "by"] (defScope s_qqx):=⟨rfl,rfl,rfl,by decide +kernel,rfl,by decide +kernel,by decide +kernel⟩
theorem sc_qyy:FnScope ["shelves", "pieces", "shelf"] ["shelves"] (defScope s_qyy):=⟨rfl,rfl,rfl,by decide +kernel,rfl,by decide +kernel,by decide +kernel⟩
theorem sc_qqz:FnScope ["pieces", "seen", "again", "piece"] ["pieces"] (defScope s_qqz):=⟨rfl,rfl,rfl,by decide +kernel,rfl,by decide +kernel,by decide +kernel⟩
theorem sc_qqv:FnScope ["pieces", "first", "piece", "name"] ["pieces"] (defScope s_qqv):=⟨rfl,rfl,rfl,by decide +kernel,rfl,by decide +kernel,by decide +kernel⟩
theorem sc_qwy:FnScope ["_law_script", "_law_k"] ["_law_script", "_law_k"] (defScope s_qwy):=⟨rfl,rfl,rfl,by decide +kernel,rfl,by decide +kernel,by decide +kernel⟩
theorem sc_qww:FnScope ["_law_cell", "_law_k", "_law_signs", "_law_size", "_law_at", "_law_name", "_law_j", "_law_many", "_law_place"] ["_law_cell", "_law_k"] (defScope s_qww):=⟨rfl,rfl,rfl,by decide +kernel,rfl,by decide +kernel,by decide +kernel⟩
theorem sc_qqj:FnScope ["_law_cell", "_law_names_by", "_law_what", "_law_rest_here", "_law_soft", "_law_add", "_law_rule"] ["_law_cell", "_law_names_by"] (defScope s_qqj):=⟨rfl,rfl,rfl,by decide +kernel,rfl,by decide +kernel,by decide +kernel⟩
theorem sc_qwj:FnScope ["_law_pieces", "_law_cell", "_law_names_by", "_law_strict", "_law_piece", "_law_name", "_law_sort", "_law_other"] ["_law_pieces", "_law_cell", "_law_names_by", "_law_strict"] (defScope s_qwj):=⟨rfl,rfl,rfl,by decide +kernel,rfl,by decide +kernel,by decide +kernel⟩
theorem sc_qzk:FnScope ["_law_cells", "_law_names_by", "_law_titles_by", "_law_strict", "_law_pieces", "_law_cell", "_law_what", "_law_step", "_law_stretch", "_law_more"] ["_law_cells", "_law_names_by", "_law_titles_by", "_law_strict"] (defScope s_qzk):=⟨rfl,rfl,rfl,by decide +kernel,rfl,by decide +kernel,by decide +kernel⟩
theorem sc_qyq:FnScope ["_law_piece", "_law_stretches"] ["_law_piece"] (defScope s_qyq):=⟨rfl,rfl,rfl,by decide +kernel,rfl,by decide +kernel,by decide +kernel⟩
theorem sc_qwx:FnScope ["_law_pieces", "_law_cell", "_law_some", "_law_mix", "_law_piece"] ["_law_pieces", "_law_cell"] (defScope s_qwx):=⟨rfl,rfl,rfl,by decide +kernel,rfl,by decide +kernel,by decide +kernel⟩
theorem sc_qyz:FnScope ["_law_names_by", "_law_titles_by", "_law_there", "_law_told_here", "_law_k", "_law_name"] ["_law_names_by", "_law_titles_by", "_law_there"] (defScope s_qyz):=⟨rfl,rfl,rfl,by decide +kernel,rfl,by decide +kernel,by decide +kernel⟩
theorem sc_qyx:FnScope ["_law_piece"] ["_law_piece"] (defScope s_qyx):=⟨rfl,rfl,rfl,by decide +kernel,rfl,by decide +kernel,by decide +kernel⟩
theorem sc_qzw:FnScope ["_law_piece", "_law_some", "_law_kind", "_law_step", "_law_words", "_law_fills", "_law_at", "_law_rule", "_law_name", "_law_add", "_law_soft"] ["_law_piece"] (defScope s_qzw):=⟨rfl,rfl,rfl,by decide +kernel,rfl,by decide +kernel,by decide +kernel⟩
theorem sc_qzx:FnScope ["_law_some", "_law_name", "_law_shelf", "_law_piece"] ["_law_some", "_law_name"] (defScope s_qzx):=⟨rfl,rfl,rfl,by decide +kernel,rfl,by decide +kernel,by decide +kernel⟩
theorem sc_qwz:FnScope ["_law_some", "_law_titles", "_law_shelf", "_law_title"] ["_law_some"] (defScope s_qwz):=⟨rfl,rfl,rfl,by decide +kernel,rfl,by decide +kernel,by decide +kernel⟩
theorem sc_qzv:FnScope ["_law_some", "_law_entry", "_law_there", "_law_unmet_here", "_law_left", "_law_piece", "_law_name", "_law_by"] ["_law_some", "_law_entry"] (defScope s_qzv):=⟨rfl,rfl,rfl,by decide +kernel,rfl,by decide +kernel,by decide +kernel⟩
theorem sc_qzy:FnScope ["_law_kept", "_law_some"] ["_law_kept"] (defScope s_qzy):=⟨rfl,rfl,rfl,by decide +kernel,rfl,by decide +kernel,by decide +kernel⟩
theorem sc_qzz:FnScope ["_law_answer", "_law_kept", "_law_some", "_law_entry", "_law_title", "_law_due"] ["_law_answer", "_law_kept", "_law_some", "_law_entry"] (defScope s_qzz):=⟨rfl,rfl,rfl,by decide +kernel,rfl,by decide +kernel,by decide +kernel⟩
theorem sc_qzj:FnScope ["_law_some", "_law_entry", "_law_handed", "_law_kept", "_law_answer", "refusal"] ["_law_some", "_law_entry"] (defScope s_qzj):=⟨rfl,rfl,rfl,by decide +kernel,rfl,by decide +kernel,by decide +kernel⟩
theorem sc_qwq:FnScope ["_law_some", "_law_by", "_law_more", "_law_k", "_law_full", "_law_shelf", "_law_title", "_law_at"] ["_law_some", "_law_by"] (defScope s_qwq):=⟨rfl,rfl,rfl,by decide +kernel,rfl,by decide +kernel,by decide +kernel⟩
theorem sc_law:FnScope ["_law_script", "_law_names_by", "_law_titles_by", "_law_by", "_law_some", "_law_entry", "_law_rest_here", "_law_good", "_law_bad"] ["_law_script"] (defScope s_law):=⟨rfl,rfl,rfl,by decide +kernel,rfl,by decide +kernel,by decide +kernel⟩
theorem cK{CX P w K mg base N qual scope f cd Ar outer s H E}:(cxOf CX P w K mg base N qual scope f cd Ar outer s H E).K=K:=rfl
theorem bK{scope:Scope}:(blk X N' scope fp s H).K=X.K:=rfl
theorem slen(a b:Str):(a++b).length=a.length+b.length:=Array.size_append
theorem atI_ex{α:Type}{xs:List α}{i:Int}(h1 : -(xs.length:Int)<=i)(h2:i<xs.length):∃v,atI xs i=some v/\v∈xs:=by
 unfold atI ixN
 by_cases h0:0<=i
 ·have hl:i.toNat<xs.length:=by omega
  refine⟨xs[i.toNat],?_,ybr hl⟩
  rw[if_pos h0,if_pos h2]
  show xs[i.toNat]?=_
  rw[yar hl]
 ·have hl:(i+xs.length).toNat<xs.length:=by omega
  refine⟨xs[(i+xs.length).toNat],?_,ybr hl⟩
  rw[if_neg h0,if_pos h1]
  show xs[(i+xs.length).toNat]?=_
  rw[yar hl]
def isT(z:Str):Prop:=z=Str.ofString "whole" \/ z=Str.ofString "high" \/ z=Str.ofString "low" \/ z=Str.ofString "near" \/ z=Str.ofString "split"
def isSort(z:Str):Prop:=z=Str.ofString "tell" \/ z=Str.ofString "weak" \/ z=Str.ofString "own"
def isKind(z:Str):Prop:=z=Str.ofString "code" \/ z=Str.ofString "data"
noncomputable def signs:Str:=Str.ofString "abcdefghijklmnopqrstuvwxyz0123456789_"
noncomputable def sgn(i:Int):Nat:=(atI signs.cps.toList i).getD 0
noncomputable def nmSize(c k:Int):Int:=if c / 256 % 3=0 then 1+k % 16 else 1+c % 16
noncomputable def nmAt(c:Int):Int:=if c / 256 % 3=0 then 16 else c / 16 % (1+c % 16)
noncomputable def nmIx(c k:Int)(j:Int):Int:=(c / (j+3)+j * j+k * (if decide (j=nmAt c)=true then 1 else 0)) % (37 - 11 * (if decide (j=0)=true then 1 else 0))
noncomputable def nmTo(c k:Int)(n:Nat):Str:=⟨((List.range n).map λj:Nat=>sgn (nmIx c k j)).toArray⟩
noncomputable def nameOf(c k:Int):Str:=nmTo c k (nmSize c k).toNat
def NmIn(c:Int)(z:Str):Prop:=∃k:Int,0<=k/\k<12/\z=nameOf c k
structure FillOk(c:Int)(n:Nat)(f:FillM):Prop where
 rule:isT f.rule
 name:NmIn c f.name
 lo:0<=f.at_
 hi:f.at_<n
 addlo : -2147483648<=f.add
 addhi:f.add<2147483648
 soft:f.soft=true->f.rule=Str.ofString "whole" \/ f.rule=Str.ofString "high" \/ f.rule=Str.ofString "low"
structure StOk(c:Int)(s:StM):Prop where
 kind:isKind s.kind
 step:s.step=1\/s.step=2\/s.step=4\/s.step=16\/s.step=65536
 words:∀i∈s.words,0<=i/\i<4294967296
 fills:∀f∈s.fills,FillOk c s.words.length f
 asc:s.fills.Pairwise λf g=>f.at_<g.at_
 few:s.fills.length<=s.words.length
structure ToldOk(c:Int)(ss:List StM)(n:ToldM):Prop where
 name:NmIn c n.name
 sort:isSort n.sort
 at_:∃(k:Nat) (s:StM),ss[k]?=some s/\n.st=k/\0<=n.off/\n.off<=s.words.length
structure PcOk(c:Int)(p:PcM):Prop where
 sts:∀s∈p.sts,StOk c s
 nms:∀n∈p.nms,ToldOk c p.sts n
 nd:(p.nms.map ToldM.name).Nodup
noncomputable def _root_.L2.PcM.size(p:PcM):Nat:=1+p.sts.length+(p.sts.map λs=>s.words.length).sum+p.nms.length
structure Drawn(c t:Int)(n:Nat)(ps:List PcM):Prop where
 ok:∀p∈ps,PcOk c p
 few:ps.length<=12
 names:ps.map PcM.name=(List.range ps.length).map λi:Nat=>nameOf t i
 size:(ps.map PcM.size).sum<=n
structure DC(H0:Hp)(a L:Addr)(c t v:Int)(i:Nat)(ps:List PcM)(σ:L2.St)(H:Hp):Prop where
 st:∃b7 b8 b9,σ=[some (V.ref a),some (V.int c),some (V.int t),some (V.bl true),some (V.ref L),some (V.int v),some (V.int (v % 9)),b7,b8,b9]
 same:Same H0 H
 pcs:Pcs H L ps
 new:∀b∈L::listsOf ps,H0 b=none
 dr:Drawn c t i ps
 lt:i<61
theorem DC.mono(d:DC H0 a L c t v i ps σ H)(e:Same H H'):DC H0 a L c t v i ps σ H':=⟨d.st,d.same.trans e,d.pcs.mono e,d.new,d.dr,d.lt⟩
def DN(H0:Hp)(a L:Addr)(c t:Int)(i:Nat)(D:Ends):Prop:=∀ps σ H,(∃b5 b6 b7 b8 b9,σ=[some (V.ref a),some (V.int c),some (V.int t),some (V.bl true),some (V.ref L),b5,b6,b7,b8,b9])->Same H0 H->Pcs H L ps->(∀b∈L::listsOf ps,H0 b=none)->Drawn c t (i+1) ps->D.nx σ H
def dB1:TS:=λD σ H=>∃H0 a L c t v i ps,DC H0 a L c t v i ps σ H/\ps.length<12/\DN H0 a L c t i D
def dB2:TS:=λD σ H=>∃H0 a L c t v i ps p,DC H0 a L c t v i (ps++[p]) σ H/\DN H0 a L c t i D
def dB3:TS:=λD σ H=>∃H0 a L c t v i ps p ss s,DC H0 a L c t v i (ps++[p]) σ H/\p.sts=ss++[s]/\DN H0 a L c t i D
def dB4:TS:=λD σ H=>∃H0 a L c t v i ps p ss s,DC H0 a L c t v i (ps++[p]) σ H/\p.sts=ss++[s]/\DN H0 a L c t i D
def dT1:TT:=λσ H R=>∃H0 a L c t v i ps,DC H0 a L c t v i ps σ H/\∀(b:Bool) H',Same H H'->(b=true->ps.length<12)->(b=false->ps≠[])->R b H'
def dT2:TT:=λσ H R=>∃H0 a L c t v i ps p,DC H0 a L c t v i (ps++[p]) σ H/\∀(b:Bool) H',Same H H'->(b=false->p.sts≠[])->R b H'
def sp_cellat(K:Wf):Sp:=λvs H Q _=>∃(a:Addr) (ns:List Int) (k:Int),vs=[.ref a,.int k]/\SqL K H a (ns.map V.int)/\ns.length<=63/\0<=k/\∀i:Int,Q (.int i) H
def sp_nameby:Sp:=λvs H Q _=>∃c k:Int,vs=[.int c,.int k]/\Q (.str (nameOf c k)) H
def sp_wordrow:Sp:=λvs H Q _=>∃c n:Int,vs=[.int c,.int n]/\∀H',Same H H'->Q .non H'/\∀f:FillM,FillOk n 1 { f with at_:=0 }->H' f.a=some (.tup [.str f.rule,.str f.name,.int f.add,.bl f.soft])->H f.a=none->Q (.ref f.a) H'
def sp_toldby(K:Wf):Sp:=λvs H Q _=>∃(L:Addr) (c n:Int) (ps:List PcM) (p:PcM) (ss:List StM) (s:StM),vs=[.ref L,.int c,.int n,.bl true]/\Pcs H L (ps++[p])/\p.sts=ss++[s]/\ps.length<=12/\p.nms.length<=61/\p.sts.length<=61/\s.words.length<=61/\
 (∀H',Same H H'->Q .non H')/\∀(m:ToldM) (H':Hp),Same H H'->m.At H'->NmIn n m.name->m.name∉p.nms.map ToldM.name->isSort m.sort->m.st=ss.length->m.off=s.words.length->Q .non (upd H' p.ln (.lst (p.nms.map ToldM.v++[m.v])))
def sp_drawn(K:Wf):Sp:=λvs H Q _=>∃(a:Addr) (ns:List Int) (c t:Int),vs=[.ref a,.int c,.int t,.bl true]/\SqL K H a (ns.map V.int)/\ns.length<=61/\∀(L:Addr) (ps:List PcM) (H':Hp),Same H H'->Pcs H' L ps->(∀b∈L::listsOf ps,H b=none)->Drawn c t ns.length ps->Q (.ref L) H'
def sp_copy(K:Wf):Sp:=λvs H Q _=>∃p:PcM,vs=[p.v]/\p.At H/\p.sts.length<=61/\p.nms.length<=62/\(∀s∈p.sts,s.words.length<=61/\s.fills.length<=61)/\∀(q:PcM) (H':Hp),Same H H'->q.At H'->p.Copy q->(∀b∈q.lists,H b=none)->q.lists.Nodup->Q q.v H'
structure TabM where
 name:Str
 t:Addr
 a:Str
 b:Int
 c:Int
noncomputable def TabM.kv(m:TabM):Key×V:=(.inr m.name,.ref m.t)
def TabM.At(H:Hp)(m:TabM):Prop:=H m.t=some (.tup [.str m.a,.int m.b,.int m.c])
structure Tab(H:Hp)(d:Addr)(ms:List TabM):Prop where
 top:H d=some (.dK (ms.map TabM.kv))
 at_:∀m∈ms,TabM.At H m
noncomputable def lookT(ms:List TabM)(z:Str):Option TabM:=ms.find? λm=>decide (m.name=z)
noncomputable def putT(ms:List TabM)(m:TabM):List TabM:=if (ms.any λn=>decide (n.name=m.name))=true then ms.map (λn=>if n.name=m.name then m else n) else ms++[m]
theorem valT(ms:List TabM)(z:Str):valV (ms.map TabM.kv) (.inr z)=(lookT ms z).map λm=>V.ref m.t:=by
 unfold valV lookT
 rw[List.find?_map,Option.map_map]
 congr 1
 congr 1
 funext m
 simp[TabM.kv]
theorem any_kv(ms:List TabM)(z:Str):((ms.map TabM.kv).any λkv=>decide (kv.1=(.inr z:Key)))=ms.any λn=>decide (n.name=z):=by
 rw[ycw]
 congr 1
 funext m
 simp[TabM.kv]
theorem putK_T(ms:List TabM)(m:TabM):putK (ms.map TabM.kv) (.inr m.name) (.ref m.t)=(putT ms m).map TabM.kv:=by
 unfold putK putT
 rw[any_kv]
 by_cases h:(ms.any λn=>decide (n.name=m.name))=true
 ·rw[if_pos h,if_pos h,ya6,ya6]
  congr 1
  funext n
  by_cases e:n.name=m.name
  ·simp[TabM.kv,e]
  ·simp[TabM.kv,e]
 ·rw[if_neg h,if_neg h,yac];rfl
theorem putT_mem(h:n∈putT ms m):n∈ms\/n=m:=by
 unfold putT at h
 split at h
 ·obtain⟨x,hx,e⟩:=yag.mp h
  split at e
  ·exact .inr e.symm
  ·exact .inl (e▸hx)
 ·rcases yai.mp h with z|z
  ·exact .inl z
  ·exact .inr (yae.mp z)
theorem putT_new(h:m.name∉ms.map TabM.name):putT ms m=ms++[m]:=by
 unfold putT
 rw[if_neg]
 intro z
 obtain⟨n,hn,e⟩:=ybm.mp z
 exact h (yag.mpr ⟨n,hn,of_decide_eq_true e⟩)
theorem Tab.mono(h:Tab H d ms)(e:Same H H'):Tab H' d ms:=⟨e _ _ h.top,λm hm=>e _ _ (h.at_ m hm)⟩
theorem Tab.put(h:Tab H d ms)(hm:TabM.At H m):Tab (upd H d (.dK (putK (ms.map TabM.kv) (.inr m.name) (.ref m.t)))) d (putT ms m):=by
 refine⟨by rw[zz1,putK_T],λn hn=>?_⟩
 have tup:∀n:TabM,TabM.At H n->TabM.At (upd H d (.dK (putK (ms.map TabM.kv) (.inr m.name) (.ref m.t)))) n:=λn hn=>by
  unfold TabM.At
  rw[upd_ne (ne_of hn h.top (by intro z;cases z))]
  exact hn
 rcases putT_mem hn with z|z
 ·exact tup n (h.at_ n z)
 ·rw[z];exact tup m hm
noncomputable def sOwn:Str:=Str.ofString "own"
def sp_places:Sp:=λvs H Q _=>∃(p:PcM) (z:Str),vs=[p.v,.str z]/\p.At H/\p.nms.length<=61/\(p.nms.map ToldM.name).Nodup/\
 ∀d ms H',Same H H'->Tab H' d ms->ms.map (λm=>(m.name,m.a,m.b,m.c))=(p.nms.filter λn=>decide (n.sort=z)).map (λn=>(n.name,p.name,n.st,n.off))->H d=none->Q (.ref d) H'
structure PL(H:Hp)(L:Addr)(ps:List PcM):Prop where
 top:H L=some (.lst (ps.map PcM.v))
 at_:∀p∈ps,p.At H
noncomputable def tellN(p:PcM):List Str:=(p.nms.filter λn=>decide (n.sort≠sOwn)).map ToldM.name
noncomputable def ownHas(p:PcM)(z:Str):Bool:=p.nms.any λn=>decide (n.name=z)&&decide (n.sort=sOwn)
noncomputable def addW(W:List Str)(y:Str):List Str:=if y∈W then W else W++[y]
noncomputable def wkv(y:Str):Key×V:=(.inr y,.bl true)
noncomputable def wAdd(p:PcM)(W:List Str)(f:FillM):List Str:=if (!f.soft && !ownHas p f.name)=true then addW W f.name else W
noncomputable def fillsOf(ss:List StM):List FillM:=ss.flatMap StM.fills
noncomputable def wantN(p:PcM):List Str:=(fillsOf p.sts).foldl (wAdd p) []
def SortedOf(l:Addr)(N:List Str)(H:Hp):Prop:=∃ss:List Str,ss.Perm N/\ss.Pairwise leS/\H l=some (.lst (ss.map V.str))
structure PcB(p:PcM):Prop where
 nm:p.nms.length<=61
 st:p.sts.length<=61
 ss:∀s∈p.sts,s.words.length<=61/\s.fills.length<=61
 fl:(fillsOf p.sts).length<=61
 nd:(p.nms.map ToldM.name).Nodup
def sp_tells:Sp:=λvs H Q _=>∃p:PcM,vs=[p.v]/\p.At H/\PcB p/\∀l H',Same H H'->SortedOf l (tellN p) H'->H l=none->Q (.ref l) H'
def sp_wants:Sp:=λvs H Q _=>∃p:PcM,vs=[p.v]/\p.At H/\PcB p/\∀l H',Same H H'->SortedOf l (wantN p) H'->H l=none->Q (.ref l) H'
noncomputable abbrev Co:=Str×List ToldM×List (Str×Int×List Int×List FillM)
noncomputable def ToldM.e(n:ToldM):ToldM:={ n with a:=0 }
noncomputable def FillM.e(f:FillM):FillM:={ f with a:=0 }
noncomputable def StM.e(s:StM):Str×Int×List Int×List FillM:=(s.kind,s.step,s.words,s.fills.map FillM.e)
noncomputable def pcE(p:PcM):Co:=(p.name,p.nms.map ToldM.e,p.sts.map StM.e)
noncomputable def tellBC(z:Str)(c:Co):Bool:=c.2.1.any λn=>decide (n.name=z) && !decide (n.sort=sOwn)
noncomputable def ownBC(z:Str)(c:Co):Bool:=c.2.1.any λn=>decide (n.name=z)&&decide (n.sort=sOwn)
noncomputable def wantBC(z:Str)(c:Co):Bool := !ownBC z c&&c.2.2.any λs=>s.2.2.2.any λf=>decide (f.name=z) && !f.soft
noncomputable def firstC(cs:List Co)(z:Str):Option Co:=cs.find? (tellBC z)
noncomputable def firstN(ps:List PcM)(z:Str):Option PcM:=ps.find? λp=>tellBC z (pcE p)
structure TkC(G S:List Co)(e:Str)(T:List Co)(rs:List (Str×Str×Str)):Prop where
 nd:(T.map (·.1)).Nodup
 sub:∀p∈T,p∈S
 len:rs.map (·.1)=T.map (·.1)
 just:∀(i:Nat) (p:Co) (r:Str×Str×Str),T[i]?=some p->rs[i]?=some r->firstC G r.2.1=none/\firstC S r.2.1=some p/\(r.2.2=Str.ofString "" /\ r.2.1=e\/∃q∈G++T.take i,q.1=r.2.2/\wantBC r.2.1 q=true)
def CovC(G S T:List Co)(z:Str):Prop:=(firstC G z).isSome=true\/∃p∈T,firstC S z=some p
def MetC(G S:List Co)(z:Str):Prop:=(firstC G z).isSome=true\/(firstC S z).isSome=true
def ClosU(G S:List Co)(e:Str)(T:List Co):Prop:=(MetC G S e->CovC G S T e)/\∀q∈G++T,∀z,wantBC z q=true->MetC G S z->CovC G S T z
def Dm(G S:List Co)(e:Str)(T:List Co)(z b:Str):Prop:=¬MetC G S z/\(b=Str.ofString "" /\ z=e\/∃q∈G++T,q.1=b/\wantBC z q=true)
structure UsOk(us:List (Str×Str))(D:Str->Str->Prop):Prop where
 nd:(us.map (·.1)).Nodup
 in_:∀u∈us,D u.1 u.2
 all:∀z b,D z b->∃u∈us,u.1=z/\leS u.2 b
def SmT(z:Str):Prop:=z.length<=16/\Sg z
structure TkB(G S:List PcM)(e:Str):Prop where
 few:(G++S).length<=16
 bnd:∀p∈G++S,PcB p
 nd:((G++S).map PcM.name).Nodup
 nm:∀p∈G++S,SmT p.name
 wn:∀p∈G++S,∀z,wantBC z (pcE p)=true->SmT z
 en:SmT e
structure Shv(H:Hp)(S:Addr)(xs:List (Addr×List PcM)):Prop where
 top:H S=some (.lst (xs.map λx=>V.ref x.1))
 at_:∀x∈xs,PL H x.1 x.2
noncomputable def flat(xs:List (Addr×List PcM)):List PcM:=xs.flatMap (·.2)
def sp_on:Sp:=λvs H Q _=>∃(S:Addr) (xs:List (Addr×List PcM)),vs=[.ref S]/\Shv H S xs/\(flat xs).length<=100/\∀(l:Addr) (H':Hp),Same H H'->H l=none->H' l=some (.lst ((flat xs).map PcM.v))->Q (.ref l) H'
def FtD(H:Hp)(d:Addr)(ps:List PcM):Prop:=∃kvs:List (Key×V),H d=some (.dK kvs)/\∀z,valV kvs (.inr z)=(firstN ps z).map PcM.v
def sp_first:Sp:=λvs H Q _=>∃(L:Addr) (ps:List PcM),vs=[.ref L]/\PL H L ps/\ps.length<=16/\(∀p∈ps,PcB p)/\∀(d:Addr) (H':Hp),Same H H'->H d=none->FtD H' d ps->Q (.ref d) H'
structure TkI where
 x:Addr
 dx:Addr
 lp:Addr
 lr:Addr
 dg:Addr
 ds:Addr
 df:Addr
 du:Addr
noncomputable def TkI.attrs(t:TkI):List (Str×V):=putF (Str.ofString "unmet") (.ref t.du) (putF (Str.ofString "from_shelves") (.ref t.df) (putF (Str.ofString "on_shelves") (.ref t.ds) (putF (Str.ofString "told_by_given") (.ref t.dg) (putF (Str.ofString "reasons") (.ref t.lr) (putF (Str.ofString "pieces") (.ref t.lp) [])))))
noncomputable abbrev RsM:=Addr×Str×Str×Str
noncomputable def usK(us:List (Str×Str)):List (Key×V):=us.map λu=>(.inr u.1,.str u.2)
structure TkO(C:Addr)(H:Hp)(t:TkI)(G S T:List PcM)(rs:List RsM)(us:List (Str×Str)):Prop where
 top:H t.x=some (.ins C t.dx t.attrs)
 lp:H t.lp=some (.lst ((G++T).map PcM.v))
 lr:H t.lr=some (.lst (rs.map λr=>V.ref r.1))
 rs:∀r∈rs,H r.1=some (.tup [.str r.2.1,.str r.2.2.1,.str r.2.2.2])
 dg:FtD H t.dg G
 ds:FtD H t.ds S
 df:H t.df=some (.dK ((T.map PcM.name).map wkv))
 du:H t.du=some (.dK (usK us))
 at_:∀p∈G++S,p.At H/\t.lp∉p.lists/\t.lr∉p.lists
 ne:t.lp≠t.lr
 nf:t.dg≠t.df/\t.ds≠t.df/\t.du≠t.df
 nu:t.dg≠t.du/\t.ds≠t.du
 sub:∀p∈T,p∈S
def KpT(t:TkI)(H H':Hp):Prop:=∀b o,b≠t.lp->b≠t.lr->b≠t.df->b≠t.du->H b=some o->H' b=some o
def addD(D:Str->Str->Prop)(G S:List Co)(z b:Str)(z' b':Str):Prop:=D z' b'\/(¬MetC G S z/\z'=z/\b'=b)
def sp_takefor(C:Addr):Sp:=λvs H Q _=>∃(t:TkI) (z b e:Str) (G S T:List PcM) (rs:List RsM) (us:List (Str×Str)) (D:Str->Str->Prop),vs=[.ref t.x,.str z,.str b]/\TkO C H t G S T rs us/\TkB G S e/\TkC (G.map pcE) (S.map pcE) e (T.map pcE) (rs.map (·.2))/\UsOk us D/\us.length<=2000/\(b=Str.ofString "" /\ z=e\/∃q∈G++T,q.name=b/\wantBC z (pcE q)=true)/\
 ∀(T':List PcM) (rs':List RsM) (us':List (Str×Str)) (H':Hp),TkO C H' t G S (T++T') rs' us'->KpT t H H'->TkC (G.map pcE) (S.map pcE) e ((T++T').map pcE) (rs'.map (·.2))->(MetC (G.map pcE) (S.map pcE) z->CovC (G.map pcE) (S.map pcE) ((T++T').map pcE) z)->UsOk us' (addD D (G.map pcE) (S.map pcE) z b)->us'.length<=us.length+1->Q .non H'
def sp_tfp(C:Addr):Sp:=λvs H Q _=>∃(t:TkI) (e:Str) (G S T:List PcM) (rs:List RsM) (us:List (Str×Str)),vs=[.ref t.x]/\TkO C H t G S T rs us/\TkB G S e/\TkC (G.map pcE) (S.map pcE) e (T.map pcE) (rs.map (·.2))/\(MetC (G.map pcE) (S.map pcE) e->CovC (G.map pcE) (S.map pcE) (T.map pcE) e)/\UsOk us (λz b=>¬MetC (G.map pcE) (S.map pcE) z/\b=Str.ofString "" /\ z=e)/\us.length<=1/\
 ∀(T':List PcM) (rs':List RsM) (us':List (Str×Str)) (H':Hp),TkO C H' t G S T' rs' us'->KpT t H H'->TkC (G.map pcE) (S.map pcE) e (T'.map pcE) (rs'.map (·.2))->ClosU (G.map pcE) (S.map pcE) e (T'.map pcE)->UsOk us' (Dm (G.map pcE) (S.map pcE) e (T'.map pcE))->Q .non H'
structure TkB0(G S:List PcM)(e:Str):Prop where
 few:(G++S).length<=16
 bnd:∀p∈G++S,PcB p
 nm:∀p∈G++S,SmT p.name
 wn:∀p∈G++S,∀z,wantBC z (pcE p)=true->SmT z
 en:SmT e
theorem TkB0.full(h:TkB0 G S e)(nd:((G++S).map PcM.name).Nodup):TkB G S e:=⟨h.few,h.bnd,nd,h.nm,h.wn,h.en⟩
noncomputable def xdN(n:Str):HO:=.xd [("name", .str n)]
def sp_sinit(A:Ad):Sp:=λvs H Q _=>∃(a:Addr) (n:Str),vs=[.ref a,.str n]/\H a=some (XN a A.c_qyk none)/\(n.length<=16/\Sg n)/\
 ∀d H',H d=none->d≠a->(∀b o,b≠a->H b=some o->H' b=some o)->H' a=some (XN a A.c_qyk (some d))->H' d=some (XD d [("name", .str n)])->Q .non H'
def Dbl(ns:List Str)(z:Str):Prop:=∃(i j:Nat),i<j/\ns[i]?=some z/\ns[j]?=some z
def sp_refuseX(A:Ad):Sp:=λvs H Q E=>∃(L:Addr) (ps:List PcM),vs=[.ref L]/\PL H L ps/\ps.length<=100/\(∀p∈ps,p.name.length<=16/\Sg p.name)/\
 ((ps.map PcM.name).Nodup->∀H',Same H H'->Q .non H')/\∀(z:Str) (d:Addr) (H':Hp),Same H H'->Dbl (ps.map PcM.name) z->(∀z',Dbl (ps.map PcM.name) z'->leS z z')->H' d=some (xdN z)->E (.ref A.c_qyk) (some d) H'
def TkP(H:Hp)(g s:Addr)(e:Str)(G:List PcM)(xs:List (Addr×List PcM)):Prop:=PL H g G/\Shv H s xs/\TkB0 G (flat xs) e
noncomputable def xdOf(n p:Str):HO:=.xd [("name", .str n),("piece", .str p)]
structure LeastU(G S:List Co)(e:Str)(T:List Co)(z b:Str):Prop where
 in_:Dm G S e T z b
 name:∀z' b',Dm G S e T z' b'->leS z z'
 by_:∀b',Dm G S e T z b'->leS b b'
def sp_tkinit(A:Ad):Sp:=λvs H Q E=>∃(x dx g s:Addr) (e:Str) (G:List PcM) (xs:List (Addr×List PcM)),vs=[.ref x,.ref g,.ref s,.str e]/\H x=some (.ins A.c_qxy dx [])/\TkP H g s e G xs/\
 (∀(t:TkI) (T:List PcM) (rs:List RsM) (H':Hp),((G++flat xs).map PcM.name).Nodup->t.x=x->TkO A.c_qxy H' t G (flat xs) T rs []->(∀b o,b≠x->H b=some o->H' b=some o)->H t.lp=none->H t.lr=none->TkC (G.map pcE) ((flat xs).map pcE) e (T.map pcE) (rs.map (·.2))->ClosU (G.map pcE) ((flat xs).map pcE) e (T.map pcE)->(∀z b,¬Dm (G.map pcE) ((flat xs).map pcE) e (T.map pcE) z b)->Q .non H')/\
 (∀(T:List Co) (rs:List (Str×Str×Str)) (z b:Str) (d:Addr) (H':Hp),((G++flat xs).map PcM.name).Nodup->(∀b o,b≠x->H b=some o->H' b=some o)->TkC (G.map pcE) ((flat xs).map pcE) e T rs->ClosU (G.map pcE) ((flat xs).map pcE) e T->LeastU (G.map pcE) ((flat xs).map pcE) e T z b->H' d=some (xdOf z b)->E (.ref A.c_qxj) (some d) H')/\
 (∀(z:Str) (d:Addr) (H':Hp),(∀b o,b≠x->H b=some o->H' b=some o)->Dbl ((G++flat xs).map PcM.name) z->(∀z',Dbl ((G++flat xs).map PcM.name) z'->leS z z')->H' d=some (xdN z)->E (.ref A.c_qyk) (some d) H')
noncomputable def tkP:Pos:=⟨81,40,81,62⟩
noncomputable def tkQ:Str:=(Str.ofString "taken" ++ Str.ofString ".<locals>.")++Str.ofString "<lambda>"
def sp_cfills:Sp:=λvs H Q _=>∃(l:Addr) (fs:List FillM),vs=[.ref l]/\H l=some (.lst (fs.map FillM.v))/\(∀f∈fs,f.At H)/\fs.length<=62/\∀(l':Addr) (gs:List FillM) (H':Hp),Same H H'->H l'=none->H' l'=some (.lst (gs.map FillM.v))->(∀f∈gs,f.At H')->gs.map FillM.e=fs.map FillM.e->Q (.ref l') H'
def sp_cpiece:Sp:=λvs H Q _=>∃p:PcM,vs=[p.v]/\p.At H/\p.sts.length<=62/\p.nms.length<=62/\(∀s∈p.sts,s.fills.length<=62)/\∀(q:PcM) (H':Hp),Same H H'->q.At H'->pcE q=pcE p->(∀b∈q.lists,H b=none)->q.lists.Nodup->Q q.v H'
noncomputable abbrev Ot:=Option (Str×Option Str)
noncomputable def OtOk(G S:List Co)(e:Str):Ot->Prop
 |none=>((G++S).map (·.1)).Nodup/\∃T rs,TkC G S e T rs/\ClosU G S e T/\∀z b,¬Dm G S e T z b
 |some (z,none)=>Dbl ((G++S).map (·.1)) z/\∀z',Dbl ((G++S).map (·.1)) z'->leS z z'
 |some (z,some b)=>((G++S).map (·.1)).Nodup/\∃T rs,TkC G S e T rs/\ClosU G S e T/\LeastU G S e T z b
def sp_taken(A:Ad):Sp:=λvs H Q E=>∃(g s:Addr) (e:Str) (G:List PcM) (xs:List (Addr×List PcM)),vs=[.ref g,.ref s,.str e]/\TkP H g s e G xs/\TbOk A.tb_taken tkP tkQ H/\
 (∀(l:Addr) (ws:List V) (H':Hp),SameX A.tb_taken H H'->TbOk A.tb_taken tkP tkQ H'->H' l=some (.lst ws)->OtOk (G.map pcE) ((flat xs).map pcE) e none->Q (.ref l) H')/\
 (∀(o:Str×Option Str) (d:Addr) (H':Hp),Same H H'->OtOk (G.map pcE) ((flat xs).map pcE) e (some o)->(o.2=none->H' d=some (xdN o.1)->E (.ref A.c_qyk) (some d) H')/\(∀b,o.2=some b->H' d=some (xdOf o.1 b)->E (.ref A.c_qxj) (some d) H'))
def sp_reasonsX(A:Ad):Sp:=λvs H Q E=>∃(g s:Addr) (e:Str) (G:List PcM) (xs:List (Addr×List PcM)),vs=[.ref g,.ref s,.str e]/\TkP H g s e G xs/\
 (∀(l:Addr) (ws:List V) (H':Hp),Same H H'->H' l=some (.lst ws)->OtOk (G.map pcE) ((flat xs).map pcE) e none->Q (.ref l) H')/\
 (∀(o:Str×Option Str) (d:Addr) (H':Hp),Same H H'->OtOk (G.map pcE) ((flat xs).map pcE) e (some o)->(o.2=none->H' d=some (xdN o.1)->E (.ref A.c_qyk) (some d) H')/\(∀b,o.2=some b->H' d=some (xdOf o.1 b)->E (.ref A.c_qxj) (some d) H'))
def SameLT(H H':Hp):Prop:=∀b o,((∃xs,o=.lst xs)\/∃xs,o=.tup xs)->H b=some o->H' b=some o
def sp_uinit(A:Ad):Sp:=λvs H Q _=>∃(a:Addr) (n p:Str),vs=[.ref a,.str n,.str p]/\H a=some (XN a A.c_qxj none)/\(n.length<=16/\Sg n)/\(p.length<=16/\Sg p)/\
 ∀d H',H d=none->d≠a->(∀b o,b≠a->H b=some o->H' b=some o)->H' a=some (XN a A.c_qxj (some d))->H' d=some (XD d [("name", .str n),("piece", .str p)])->Q .non H'
def iI(A:Ad)(E:XK):TS:=λD σ Hk=>∃(t:TkI) (g s l:Addr) (e:Str) (G:List PcM) (xs:List (Addr×List PcM)) (H:Hp),σ=[some (.ref t.x),some (.ref g),some (.ref s),some (.str e),some (.ref l),none]/\TkO A.c_qxy Hk t G (flat xs) [] [] []/\TkB G (flat xs) e/\(∀b o,b≠t.x->H b=some o->Hk b=some o)/\H t.lp=none/\H t.lr=none/\H t.df=none/\H t.du=none/\
 (∀(T:List PcM) (rs:List RsM) (H':Hp),TkO A.c_qxy H' t G (flat xs) T rs []->(∀b o,b≠t.x->H b=some o->H' b=some o)->TkC (G.map pcE) ((flat xs).map pcE) e (T.map pcE) (rs.map (·.2))->ClosU (G.map pcE) ((flat xs).map pcE) e (T.map pcE)->(∀z b,¬Dm (G.map pcE) ((flat xs).map pcE) e (T.map pcE) z b)->D.nx [some (.ref t.x),some (.ref g),some (.ref s),some (.str e),some (.ref l),none] H')/\
 (∀(T:List Co) (rs:List (Str×Str×Str)) (z b:Str) (d:Addr) (H':Hp),(∀b o,b≠t.x->H b=some o->H' b=some o)->TkC (G.map pcE) ((flat xs).map pcE) e T rs->ClosU (G.map pcE) ((flat xs).map pcE) e T->LeastU (G.map pcE) ((flat xs).map pcE) e T z b->H' d=some (xdOf z b)->E (.ref A.c_qxj) (some d) H')
def sp_shelved:Sp:=λvs H Q _=>∃(L:Addr) (c:Int) (ps:List PcM),vs=[.ref L,.int c]/\PL H L ps/\ps.length<=12/\
 ∀(S:Addr) (xs:List (Addr×List PcM)) (H':Hp),Same H H'->Shv H' S xs->(∀b∈S::xs.map (·.1),H b=none)->(S::xs.map (·.1)).Nodup->xs.length=4->(flat xs).Perm ps->Q (.ref S) H'
structure RstP(c t:Int)(p:PcM):Prop where
 name:p.name=nameOf t 14
 nms:p.nms.map ToldM.name=(List.range 12).map λk:Nat=>nameOf c k
 weak:∀n∈p.nms,n.sort=Str.ofString "weak"
 sts:∃s,p.sts=[s]/\s.words.length=1/\s.fills=[]
def sp_rest:Sp:=λvs H Q _=>∃(c t:Int) (l:Addr),vs=[.int c,.int t,.ref l]/\H l=some (.lst [])/\
 ∀(p:PcM) (H':Hp),Same H H'->p.At H'->RstP c t p->(∀b∈p.lists,H b=none)->Q p.v H'
def sp_told1:Sp:=λvs H Q _=>∃p:PcM,vs=[p.v]/\p.At H/\PcB p/\∀l H',Same H H'->H l=none->H' l=some (.lst ((tellN p).map V.str))->Q (.ref l) H'
noncomputable def wantL(p:PcM)(fs:List FillM):List Str:=(fs.filter λf=>!f.soft && !ownHas p f.name).map FillM.name
def sp_wanted1:Sp:=λvs H Q _=>∃p:PcM,vs=[p.v]/\p.At H/\PcB p/\∀l H',Same H H'->H l=none->H' l=some (.lst ((wantL p (fillsOf p.sts)).map V.str))->Q (.ref l) H'
noncomputable def optV:Option PcM->V
 |some p=>p.v
 |none=>.non
def sp_firstL:Sp:=λvs H Q _=>∃(S:Addr) (z:Str) (xs:List (Addr×List PcM)),vs=[.ref S,.str z]/\Shv H S xs/\(∀p∈flat xs,PcB p)/\∀H',Same H H'->Q (optV (firstN (flat xs) z)) H'
noncomputable def coD(c:Co):D:=.tup [.str c.1,.lst (c.2.2.map λs=>D.tup [.str s.1,.int s.2.1,.lst (s.2.2.1.map D.int),.lst (s.2.2.2.map FillM.d)]),.lst (c.2.1.map ToldM.d)]
noncomputable def OtV(A:Ad)(H:Hp)(u v:V):Ot->Prop
 |none=>v=.non/\∃l xs,u=.ref l/\H l=some (.lst xs)
 |some (z,none)=>∃a d,v=.ref a/\H a=some (XO a A.c_qyk (some d))/\H d=some (xdN z)
 |some (z,some b)=>∃a d,v=.ref a/\H a=some (XO a A.c_qxj (some d))/\H d=some (xdOf z b)
noncomputable abbrev Pr3:=Addr×Str×Str
def sp_doubled:Sp:=λvs H Q _=>∃(S:Addr) (ys:List (Addr×List PcM)),vs=[.ref S]/\Shv H S ys/\(flat ys).length<=16/\
 (∀H',Same H H'->((flat ys).map PcM.name).Nodup->Q .non H')/\∀(z:Str) (H':Hp),Same H H'->Dbl ((flat ys).map PcM.name) z->(∀z',Dbl ((flat ys).map PcM.name) z'->leS z z')->Q (.str z) H'
def sp_unmetL:Sp:=λvs H Q _=>∃(S a0:Addr) (e:Str) (G:List PcM) (xs:List (Addr×List PcM)),vs=[.ref S,.str e]/\Shv H S ((a0,G)::xs)/\TkB G (flat xs) e/\
 (∀(T:List Co) (rs:List (Str×Str×Str)) (H':Hp),Same H H'->TkC (G.map pcE) ((flat xs).map pcE) e T rs->ClosU (G.map pcE) ((flat xs).map pcE) e T->(∀z b,¬Dm (G.map pcE) ((flat xs).map pcE) e T z b)->Q .non H')/\
 ∀(T:List Co) (rs:List (Str×Str×Str)) (z b:Str) (t:Addr) (H':Hp),Same H H'->TkC (G.map pcE) ((flat xs).map pcE) e T rs->ClosU (G.map pcE) ((flat xs).map pcE) e T->LeastU (G.map pcE) ((flat xs).map pcE) e T z b->H' t=some (.tup [.str z,.str b])->Q (.ref t) H'
def sp_aloneU(A:Ad):Sp:=λvs H Q _=>∃(a C:Addr) (dx:Option Addr),vs=[.ref a]/\(C=A.c_qyk\/C=A.c_qxj)/\H a=some (XO a C dx)/\DxOk dx H/\∀H',Same H H'->Q (.bl true) H'
def sp_right(A:Ad):Sp:=λvs H Q _=>∃(u v:V) (S a0:Addr) (e:Str) (G:List PcM) (xs:List (Addr×List PcM)) (o:Ot),vs=[u,v,.ref S,.str e]/\Shv H S ((a0,G)::xs)/\TkB0 G (flat xs) e/\OtOk (G.map pcE) ((flat xs).map pcE) e o/\OtV A H u v o/\∀H',Same H H'->Q (.bl true) H'
def sp_holdsX(A:Ad):Sp:=λvs H Q _=>∃(S a0:Addr) (e:Str) (G:List PcM) (xs:List (Addr×List PcM)),vs=[.ref S,.str e]/\Shv H S ((a0,G)::xs)/\xs.length<=10/\TkB0 G (flat xs) e/\TbOk A.tb_taken tkP tkQ H/\∀H',SameX A.tb_taken H H'->TbOk A.tb_taken tkP tkQ H'->Q (.bl true) H'
def Spo(ys zs:List PcM)(n:Nat):Prop:=zs.length<=ys.length+n/\∀p∈zs,p∈ys\/(p.sts=[]/\p.nms=[]/\p.name∈ys.map PcM.name)
def sp_spoiled:Sp:=λvs H Q _=>∃(S:Addr) (c:Int) (ys:List (Addr×List PcM)),vs=[.ref S,.int c]/\Shv H S ys/\ys.length=4/\(flat ys).length<=13/\
 ∀(S':Addr) (zs:List (Addr×List PcM)) (H':Hp),Same H H'->Shv H' S' zs->zs.length=4->Spo (flat ys) (flat zs) 2->Q (.ref S') H'
def sp_law(K:Wf)(tb:Addr):Sp:=λvs H Q _=>∃(a:Addr) (ns:List Int),vs=[.ref a]/\SqL K H a (ns.map V.int)/\ns.length<=63/\H tb=some (.tbl #[])/\∀H',Q (.bl true) H'
def AL1(K:Wf)(A:Ad)(C:Addr)(bs:List V):Prop:=∃x1 x2 x3 x4:Bool,kitOne K (.ref C) (.ref A.c_qxx)=some x1/\kitOne K (.ref C) (.ref A.c_qxw)=some x2/\kitOne K (.ref C) (.ref A.c_qxv)=some x3/\kitOne K (.ref C) (.ref A.c_qyk)=some x4/\bs=[.bl x1,.bl x2,.bl x3,.bl x4]
def AL2(K:Wf)(A:Ad)(C:Addr)(bs:List V):Prop:=∃x1 x2 x3:Bool,kitOne K (.ref C) (.ref A.c_qxj)=some x1/\kitOne K (.ref C) (.ref A.c_qxk)=some x2/\kitOne K (.ref C) (.ref A.c_qyj)=some x3/\bs=[.bl x1,.bl x2,.bl x3]
def AL3(K:Wf)(A:Ad)(C:Addr)(bs:List V):Prop:=∃x1 x2 x3:Bool,kitOne K (.ref C) (.ref A.c_qxz)=some x1/\kitOne K (.ref C) (.ref A.c_Lost)=some x2/\kitOne K (.ref C) (.ref A.c_qyv)=some x3/\bs=[.bl x1,.bl x2,.bl x3]
def aS1(K:Wf)(A:Ad):TS:=λD σ H=>∃(a C:Addr) (b1:Option V) (bs:List V),σ=[some (.ref a),b1]/\TyX K H (.ref a) (.ref C)/\AL1 K A C bs/\∀q H',Same H H'->H' q=some (.lst bs)->D.nx [some (.ref a),some (.ref q)] H'
def aS2(K:Wf)(A:Ad):TS:=λD σ H=>∃(a C l:Addr) (b0 bs:List V),σ=[some (.ref a),some (.ref l)]/\H l=some (.lst b0)/\b0.length<=100/\(∀{H'},Same H H'->TyX K H' (.ref a) (.ref C))/\AL2 K A C bs/\∀q H',Same H H'->H' q=some (.lst (b0++bs))->D.nx [some (.ref a),some (.ref q)] H'
def aS3(K:Wf)(A:Ad):TS:=λD σ H=>∃(a C l:Addr) (b0 bs:List V),σ=[some (.ref a),some (.ref l)]/\H l=some (.lst b0)/\b0.length<=100/\(∀{H'},Same H H'->TyX K H' (.ref a) (.ref C))/\AL3 K A C bs/\∀q H',Same H H'->H' q=some (.lst (b0++bs))->D.nx [some (.ref a),some (.ref q)] H'
def hB(K:Wf)(A:Ad):TS:=λD σ H=>∃(S a0 Hn c0:Addr) (e:Str) (G G':List PcM) (xs yr:List (Addr×List PcM)) (u v:V) (o:Ot) (b5:Option V),σ=[some (.ref S),some (.str e),some (.ref Hn),some v,some u,b5]/\Shv H S ((a0,G)::xs)/\Shv H Hn ((c0,G')::yr)/\(((c0,G')::yr).map λy=>y.2.map pcE)=(((a0,G)::xs).map λx=>x.2.map pcE)/\TkB0 G (flat xs) e/\TkB0 G' (flat yr) e/\OtOk (G.map pcE) ((flat xs).map pcE) e o/\OtV A H u v o/\∀H',Same H H'->D.rt (.bl true) H'
structure PsB(ps:List PcM):Prop where
 few:ps.length<=13
 ok:∀p∈ps,PcB p/\SmT p.name/\∀z,wantBC z (pcE p)=true->SmT z
def lB(A:Ad):TS:=λD σ H=>∃(b0:Option V) (c t by_:Int) (S:Addr) (e:Str) (xs:List (Addr×List PcM)) (n:Nat) (ps:List PcM),σ=[b0,some (.int c),some (.int t),some (.int by_),some (.ref S),some (.str e),none,none,none]/\Shv H S xs/\xs.length=4/\Drawn c t n ps/\n<=61/\(flat xs).Perm ps/\SmT e/\TbOk A.tb_taken tkP tkQ H/\∀H',D.rt (.bl true) H'
def lC(A:Ad):TS:=λD σ H=>∃(b0 b1 b2 b6:Option V) (by_:Int) (S g:Addr) (e:Str) (xs gs:List (Addr×List PcM)),σ=[b0,b1,b2,some (.int by_),some (.ref S),some (.str e),b6,some (.ref g),none]/\Shv H S xs/\xs.length=4/\PsB (flat xs)/\Shv H g gs/\gs.length=4/\PsB (flat gs)/\SmT e/\TbOk A.tb_taken tkP tkQ H/\∀H',D.rt (.bl true) H'
def rdL:Array Lean.Ident:=("tSeq tAsg gName tC tOp tUn tVar vAt tRet tIfS tOr tAnd tNot tTest tB tChain tCB tCons tNil tCall tSl tNoPart tPart tNext tDrop tLst tTup tYes tNotV tAndV tOrV L2.start List.set List.map List.length List.replicate List.cons_append List.nil_append List.append_nil cK bK rI0 rI rU rIxS rIxL rIxT tRetN rSlL rIn rCatT gTup gCons gNil tRaiseI tXInit tDGet tDGet1 tDGet2 tDIn tDNotIn sDPut tDNewK rDictOf rEqDict rCount tCompX_list xCall sXFld tXFld rSlS rEq rNe sc0 sc1 sc2 sc3 sc4 sc5 sc6 sc7 sc8 sc9 sc10 sc11 sc12 sc13 rCatS rIsi LenV rAll tFor_list tFor_tup tFor_str tFor_rng1 tFor_rng2 tComp_list tComp_tup tComp_str tComp_rng1 blkSt tBM rAppend rStarts rIndex tIf tMake tMeth sFld tFld tRepr tFmt jNil jCons tJoined rJoin rIsx rIst tRaise tTryAs tTry0 un1 xMeth xDrop xSet xRet xOf xSeq List.getElem?_cons_zero List.getElem?_cons_succ Option.some.injEq V.int.injEq V.str.injEq V.bl.injEq V.ref.injEq V.ty.injEq List.cons.injEq exists_eq_left' exists_eq_left exists_eq' and_assoc if_true if_false Bool.not_false Bool.not_true Bool.not_not Bool.false_eq_true exists_and_left and_true true_and List.set_cons_zero List.set_cons_succ Option.join_some false_and or_false false_or exists_false sp_cellat sp_nameby sp_wordrow sp_toldby sp_drawn sp_copy sp_uinit sp_sinit sp_places sp_tells sp_wants sp_on sp_refuseX sp_first sp_takefor sp_tfp sp_tkinit sp_reasonsX sp_cfills sp_cpiece sp_taken sp_shelved sp_rest sp_told1 sp_wanted1 sp_firstL sp_doubled sp_unmetL sp_aloneU sp_right sp_holdsX sp_spoiled rSet rSortedS rSortedD rSortedR rSlT rInD tSortL tDSd ipI tAug rInsert rIndexS rMinD rMinL rMin2S tLRev rMinP rPop tBM0 rSorted rInD rInsert Ends.nx Nat.reduceSub Nat.reduceAdd".splitOn " ").toArray.map λs=>Lean.mkIdent s.toName
local macro_rules | `(tactic| walk_at "rdd") => do
 let a<-rdL.mapM λx=>`(Lean.Parser.Tactic.simpLemma| $x:ident)
 `(tactic| try dsimp only [$a,*])
local macro_rules | `(tactic| walk_at "rd") => do
 let a<-rdL.mapM λx=>`(Lean.Parser.Tactic.simpLemma| $x:ident)
 let a:=a.push (<-`(Lean.Parser.Tactic.simpLemma| reduceCtorEq))
 `(tactic| (walk_at "rdd";try simp only [$a,*]))
section
variable{P:Program}{w:World}{K:Wf}{mg:So}{base:Heap}{A:Ad}
theorem nmTo_succ(c k:Int)(n:Nat):nmTo c k (n+1)=nmTo c k n++(⟨#[sgn (nmIx c k n)]⟩:Str):=by
 show(⟨_⟩:Str)=⟨_⟩
 congr 1
 rw[List.range_succ,yac]
 apply Array.ext'
 unfold nmTo
 simp
theorem nmTo_len(c k:Int)(n:Nat):(nmTo c k n).length=n:=by
 show((List.range n).map _).toArray.size=n
 simp
theorem sgn_at(h0:0<=i)(h1:i<37):atI signs.cps.toList i=some (sgn i):=by
 have hl:signs.cps.toList.length=37:=by decide +kernel
 obtain⟨v,hv,_⟩:=atI_ex (xs:=signs.cps.toList) (i:=i) (by omega) (by omega)
 unfold sgn
 rw[hv];rfl
theorem nmIx_lo(c k:Int)(j:Nat):0<=nmIx c k j/\nmIx c k j<37:=by
 unfold nmIx
 generalize c / ((j:Int)+3)+(j:Int) * (j:Int)+k * (if decide ((j:Int)=nmAt c)=true then 1 else 0)=x
 split<;>omega
theorem sgn_sg(h0:0<=i)(h1:i<37):sgn i<16 ^ 8:=by
 have hl:signs.cps.toList.length=37:=by decide +kernel
 obtain⟨v,hv,hm⟩:=atI_ex (xs:=signs.cps.toList) (i:=i) (by omega) (by omega)
 unfold sgn
 rw[hv]
 have all:signs.cps.toList.all (λc=>decide (c<16 ^ 8))=true:=by decide +kernel
 exact of_decide_eq_true (List.all_eq_true.mp all v hm)
theorem nameOf_ok(c k:Int)(hk:0<=k):(nameOf c k).length<=16/\Sg (nameOf c k):=by
 unfold nameOf
 refine⟨?_,λx hx=>?_⟩
 ·rw[nmTo_len];unfold nmSize;split<;>omega
 ·unfold nmTo at hx
  simp only[List.mem_toArray,List.mem_map,List.mem_range]at hx
  obtain⟨j,_,rfl⟩:=hx
  exact sgn_sg (nmIx_lo c k j).1 (nmIx_lo c k j).2
theorem G_qwy(T:Txt K mg A):FnOk P w K mg base CX0 1 A.qwy A.fd_qwy ["_law_script", "_law_k"] (sp_cellat K):=by
 refine T.F_qwy.ok sc_qwy (λvs H Q E h=>?_) (λcdv Ar outer s H vs Q E hr h=>?_)
 ·obtain⟨a,ns,k,rfl,_⟩:=h
  rfl
 ·obtain⟨a,ns,i,rfl,hS,hl,h0,k⟩:=h
  refine⟨_,(zz3 (ps_if (zz15 op_lt (pv 1) (zz11 (call_lenK (K:=K) rfl) (by rfl) T.n_len bt_len (zz0 (pv 0) pa_nil)) (nomark _)) (zz5 (ps_ret (pe_ix (zz19 (K:=K) rfl) (pv 0) (pv 1) (λ_ _=>rfl)))) zz16) (zz5 (ps_ret pe_int))),?_⟩
  walk_at "rd"
  refine⟨ns.length,.inl ⟨_,hS,by simp⟩,ite2 (λhi=>?_) (λ_=>k 0)⟩
  have hi:=of_decide_eq_true hi
  obtain⟨v,hv,hm⟩:=atI_ex (xs:=ns.map V.int) (i:=i) (by simp;omega) (by simpa using hi)
  obtain⟨j,_,rfl⟩:=yag.mp hm
  exact⟨_,hS,_,hv,k j⟩
theorem G_qww(T:Txt K mg A):FnOk P w K mg base CX0 1 A.qww A.fd_qww ["_law_cell", "_law_k"] sp_nameby:=by
 refine T.F_qww.ok sc_qww (λvs H Q E h=>?_) (λcdv Ar outer s H vs Q E hr h=>?_)
 ·obtain⟨c,k,rfl,_⟩:=h
  rfl
 ·obtain⟨c,i,rfl,k⟩:=h
  refine⟨_,(zz3 (ps_set (i:=2) sc_qww.nd rfl (by walk_at "o") pe_str) (zz3 (ps_set (i:=3) sc_qww.nd rfl (by walk_at "o") (pe_op op_add pe_int (pe_op op_mod (pv 0) pe_int))) (zz3 (ps_set (i:=4) sc_qww.nd rfl (by walk_at "o") (pe_op op_mod (pe_op zz22 (pv 0) pe_int) (pv 3))) (zz3 (ps_if (zz15 op_eq (pe_op op_mod (pe_op zz22 (pv 0) pe_int) pe_int) pe_int (nomark _)) (zz3 (ps_set (i:=3) sc_qww.nd rfl (by walk_at "o") (pe_op op_add pe_int (pe_op op_mod (pv 1) pe_int))) (zz5 (ps_set (i:=4) sc_qww.nd rfl (by walk_at "o") pe_int))) zz16) (zz3 (ps_set (i:=5) sc_qww.nd rfl (by walk_at "o") pe_str) (zz3 (ps_for PassesOwn.never rfl (pi_range1 rfl T.n_range (zz0 (pv 3) pa_nil)) (zz6 (i:=6) sc_qww.nd rfl (by walk_at "o")) (zz3 (ps_set (i:=7) sc_qww.nd rfl (by walk_at "o") (pe_op op_sub pe_int (pe_op op_mul pe_int (pe_callTy call_int1 (by rfl) T.n_int bt_int (zz0 (pe_cmpR op_eq (pv 6) pe_int (nomark _)) pa_nil))))) (zz3 (ps_set (i:=8) sc_qww.nd rfl (by walk_at "o") (pe_op op_add (pe_op op_add (pe_op zz22 (pv 0) (pe_op op_add (pv 6) pe_int)) (pe_op op_mul (pv 6) (pv 6))) (pe_op op_mul (pv 1) (pe_callTy call_int1 (by rfl) T.n_int bt_int (zz0 (pe_cmpR op_eq (pv 6) (pv 4) (nomark _)) pa_nil))))) (zz5 (ps_set (i:=5) sc_qww.nd rfl (by walk_at "o") (pe_op op_add_str (pv 5) (pe_ix ix_str (pv 2) (pe_op op_mod (pv 8) (pv 7)) (λ_ _=>rfl)))))))) (zz5 (ps_ret (pv 5))))))))),?_⟩
  walk_at "rd"
  refine⟨by decide,⟨by decide,by decide⟩,by omega,⟨by decide,by decide⟩,by decide,ite2 (λhc=>⟨by decide,?_⟩) (λhc=>?_)⟩
  ·have hc:=of_decide_eq_true hc
   have e1:nmSize c i=1+i % 16:=by unfold nmSize;rw[if_pos hc]
   have e2:nmAt c=16:=by unfold nmAt;rw[if_pos hc]
   refine ForR.of (by omega) (by omega) (λn σ H'=>H'=H/\∃b6 b7 b8,σ=[some (.int c),some (.int i),some (.str signs),some (.int (1+i % 16)),some (.int 16),some (.str (nmTo c i n)),b6,b7,b8]) ⟨rfl,_,_,_,rfl⟩ ?_ ?_
   ·rintro n σ H' hn ⟨rfl,b6,b7,b8,rfl⟩
    walk_at "rd"
    have lo:=nmIx_lo c i n
    have at_:=sgn_at lo.1 lo.2
    unfold nmIx at at_ lo
    rw[e2]at at_ lo
    exact⟨.inl ⟨by decide,by decide⟩,⟨by omega,by omega⟩,.inl ⟨by omega,by omega⟩,.inr (by split<;>exact⟨by decide,by decide⟩),by split<;>decide,by rw[sizeLine_eq];decide +kernel,_,at_,by rw[nmTo_len,sizeLine_eq];show n+1<=_;omega,by rw[nmTo_succ];unfold nmIx;rw[e2]⟩
   ·rintro σ H' ⟨rfl,b6,b7,b8,rfl⟩
    walk_at "rd"
    rw[<-e1];exact k
  ·have hc:¬c / 256 % 3=0:=by simpa using hc
   have e1:nmSize c i=1+c % 16:=by unfold nmSize;rw[if_neg hc]
   have e2:nmAt c=c / 16 % (1+c % 16):=by unfold nmAt;rw[if_neg hc]
   refine ForR.of (by omega) (by omega) (λn σ H'=>H'=H/\∃b6 b7 b8,σ=[some (.int c),some (.int i),some (.str signs),some (.int (1+c % 16)),some (.int (c / 16 % (1+c % 16))),some (.str (nmTo c i n)),b6,b7,b8]) ⟨rfl,_,_,_,rfl⟩ ?_ ?_
   ·rintro n σ H' hn ⟨rfl,b6,b7,b8,rfl⟩
    walk_at "rd"
    have lo:=nmIx_lo c i n
    have at_:=sgn_at lo.1 lo.2
    unfold nmIx at at_ lo
    rw[e2]at at_ lo
    exact⟨.inl ⟨by decide,by decide⟩,⟨by omega,by omega⟩,.inl ⟨by omega,by omega⟩,.inr (by split<;>exact⟨by decide,by decide⟩),by split<;>decide,by rw[sizeLine_eq];decide +kernel,_,at_,by rw[nmTo_len,sizeLine_eq];show n+1<=_;omega,by rw[nmTo_succ];unfold nmIx;rw[e2]⟩
   ·rintro σ H' ⟨rfl,b6,b7,b8,rfl⟩
    walk_at "rd"
    rw[<-e1];exact k
theorem G_qqj(T:Txt K mg A):FnOk P w K mg base CX0 2 A.qqj A.fd_qqj ["_law_cell", "_law_names_by"] sp_wordrow:=by
 refine T.F_qqj.ok sc_qqj (λvs H Q E h=>?_) (λcdv Ar outer s H vs Q E hr h=>?_)
 ·obtain⟨c,n,rfl,_⟩:=h
  rfl
 ·obtain⟨c,n,rfl,k⟩:=h
  refine⟨_,(zz3 (ps_set (i:=2) sc_qqj.nd rfl (by walk_at "o") (pe_op op_mod (pv 0) pe_int)) (zz3 (ps_set (i:=3) sc_qqj.nd rfl (by walk_at "o") (pe_op zz22 (pv 0) pe_int)) (zz3 (ps_set (i:=4) sc_qqj.nd rfl (by walk_at "o") (pe_and (pe_cmpR op_eq (pe_op op_mod (pe_op zz22 (pv 3) pe_int) pe_int) pe_int (nomark _)) (pe_one (pe_cmpR op_lt (pe_op op_mod (pv 3) pe_int) pe_int (nomark _))))) (zz3 (ps_set (i:=5) sc_qqj.nd rfl (by walk_at "o") (pe_op op_sub (pe_op op_mod (pe_op zz22 (pv 3) pe_int) pe_int) pe_int)) (zz3 (ps_if (zz15 op_eq (pe_op op_mod (pe_op zz22 (pv 3) pe_int) pe_int) pe_int (nomark _)) (zz5 (ps_set (i:=5) sc_qqj.nd rfl (by walk_at "o") (pe_op op_sub (pe_op op_mod (pe_op op_mul (pe_op zz22 (pv 3) pe_int) pe_int) pe_int) pe_int))) zz16) (zz3 (ps_set (i:=6) sc_qqj.nd rfl (by walk_at "o") (pe_ix (zz19 (K:=K) rfl) (pe_lst (zz0 pe_str (zz0 pe_str (zz0 pe_str (zz0 pe_str (zz0 pe_str pa_nil)))))) (pe_op op_mod (pv 3) pe_int) (λ_ _=>rfl))) (zz3 (ps_if (zz15 op_eq (pv 2) pe_int (nomark _)) (zz5 (ps_ret pe_non)) zz16) (zz5 (ps_ret (pe_tup (zz0 (pv 6) (zz0 (zz10 (G_qww T) (hr.mono (by decide)) rfl T.m_qww T.k_qww T.b_qww .nil pass0 (zz0 (pv 1) (zz0 (pe_op op_mod (pe_op zz22 (pv 3) pe_int) pe_int) pa_nil))) (zz0 (pv 5) (zz0 (pv 4) pa_nil)))))))))))))),?_⟩
  walk_at "rd"
  have five:∀(p:Addr) (sf:Bool) (add:Int),H p=none->(sf=true->c / 9 % 5<3) -> -2147483648<=add->add<2147483648->
    (0:Int)<5/\∃x,SqL K (upd H p (HO.lst [V.str (Str.ofString "whole"),V.str (Str.ofString "high"),V.str (Str.ofString "low"),V.str (Str.ofString "near"),V.str (Str.ofString "split")])) p x/\
     ∃x_1,atI x (c / 9 % 5)=some x_1/\
      if decide (c % 9=2)=true then Q V.non (upd H p (HO.lst [V.str (Str.ofString "whole"),V.str (Str.ofString "high"),V.str (Str.ofString "low"),V.str (Str.ofString "near"),V.str (Str.ofString "split")]))
      else CDiv (c / 9) 5/\(0:Int)<12/\4<=sizeLine/\∀(p_1:Addr),
       upd H p (HO.lst [V.str (Str.ofString "whole"),V.str (Str.ofString "high"),V.str (Str.ofString "low"),V.str (Str.ofString "near"),V.str (Str.ofString "split")]) p_1=none->
       Q (V.ref p_1) (upd (upd H p (HO.lst [V.str (Str.ofString "whole"),V.str (Str.ofString "high"),V.str (Str.ofString "low"),V.str (Str.ofString "near"),V.str (Str.ofString "split")])) p_1 (HO.tup [x_1,V.str (nameOf n (c / 9 / 5 % 12)),V.int add,V.bl sf])):=by
   intro p sf add hp hsf h1 h2
   refine⟨by decide,_,SqL.of zz1,?_⟩
   obtain⟨z,hz,hT,hS⟩:∃z:Str,atI [V.str (Str.ofString "whole"),V.str (Str.ofString "high"),V.str (Str.ofString "low"),V.str (Str.ofString "near"),V.str (Str.ofString "split")] (c / 9 % 5)=some (V.str z)/\isT z/\(c / 9 % 5<3->z=Str.ofString "whole" \/ z=Str.ofString "high" \/ z=Str.ofString "low"):=by
    have hd:c / 9 % 5=0\/c / 9 % 5=1\/c / 9 % 5=2\/c / 9 % 5=3\/c / 9 % 5=4:=by omega
    rcases hd with e|e|e|e|e<;>rw[e]
    ·exact⟨_,rfl,.inl rfl,λ_=>.inl rfl⟩
    ·exact⟨_,rfl,.inr (.inl rfl),λ_=>.inr (.inl rfl)⟩
    ·exact⟨_,rfl,.inr (.inr (.inl rfl)),λ_=>.inr (.inr rfl)⟩
    ·exact⟨_,rfl,.inr (.inr (.inr (.inl rfl))),λh=>absurd h (by decide)⟩
    ·exact⟨_,rfl,.inr (.inr (.inr (.inr rfl))),λh=>absurd h (by decide)⟩
   refine⟨_,hz,ite2 (λ_=>(k _ λb o e=>?_).1) (λ_=>⟨⟨by decide,by decide⟩,by decide,by walk_at "s", λq hq=>?_⟩)⟩
   ·rw[upd_ne (zz4 e hp)];exact e
   ·have hqp:q≠p:=λe=>by rw[e,zz1]at hq;cases hq
    have hq':H q=none:=by rw[upd_ne hqp]at hq;exact hq
    refine(k _ λb o e=>?_).2 ⟨q,0,z,nameOf n (c / 9 / 5 % 12),add,sf⟩ ⟨hT,⟨_,by omega,by omega,rfl⟩,by show(0:Int)<=0;decide,by show(0:Int)<(1:Nat);decide,h1,h2,λh=>hS (hsf h)⟩ zz1 hq'
    rw[upd_ne (zz4 e hq'),upd_ne (zz4 e hp)];exact e
  refine⟨by decide,⟨by decide,by decide⟩,⟨by decide,by decide⟩,by decide,ite2 (λ_=>⟨by decide,⟨by decide,by decide⟩,by decide,⟨by decide,by decide⟩,by decide,ite2 (λ_=>⟨⟨by decide,by decide⟩,.inr ⟨by decide,by decide⟩,by decide,by walk_at "s", λp hp=>?_⟩) (λ_=>⟨by rw[sizeLine_eq];decide,λp hp=>?_⟩)⟩)
   (λhs=>⟨⟨by decide,by decide⟩,by decide,⟨by decide,by decide⟩,by decide,ite2 (λ_=>⟨⟨by decide,by decide⟩,.inr ⟨by decide,by decide⟩,by decide,by walk_at "s", λp hp=>?_⟩) (λ_=>⟨by rw[sizeLine_eq];decide,λp hp=>?_⟩)⟩)⟩
  ·refine five p _ _ hp (λh=>of_decide_eq_true h) ?_ ?_<;>omega
  ·refine five p _ _ hp (λh=>of_decide_eq_true h) ?_ ?_<;>omega
  ·refine five p _ _ hp (λh=>absurd h (by decide)) ?_ ?_<;>omega
  ·refine five p _ _ hp (λh=>absurd h (by decide)) ?_ ?_<;>omega
theorem zz2(h:H p=none):Same H (upd H p o):=λb u e=>by rw[upd_ne (zz4 e h)];exact e
theorem zz14(h:upd H p o q=none):q≠p/\H q=none:=by
 have n:q≠p:=λe=>by rw[e,zz1]at h;cases h
 exact⟨n,by rw[upd_ne n]at h;exact h⟩
theorem atI_last{α:Type}{xs:List α}{x:α}:atI (xs++[x]) (-1)=some x:=by
 unfold atI ixN
 rw[if_neg (by decide),if_pos (by simp;omega)]
 show(xs++[x])[(-1+((xs++[x]).length:Int)).toNat]?=some x
 have e:(-1+((xs++[x]).length:Int)).toNat=xs.length:=by simp;omega
 rw[e];simp
theorem inV_str{z:Str}{xs:List Str}:inV (.str z) (xs.map V.str)=true↔z∈xs:=by
 unfold inV
 rw[ycw,ybm]
 constructor
 ·rintro⟨y,hy,e⟩
  have:y=z:=by simpa [Function.comp,eqV] using e
  exact this▸hy
 ·intro h
  exact⟨z,h,by simp[Function.comp,eqV]⟩
theorem sort_at:∃z:Str,atI [V.str (Str.ofString "tell"),V.str (Str.ofString "weak"),V.str (Str.ofString "own")] (c % 3)=some (V.str z)/\isSort z:=by
 have hd:c % 3=0\/c % 3=1\/c % 3=2:=by omega
 rcases hd with e|e|e<;>rw[e]
 ·exact⟨_,rfl,.inl rfl⟩
 ·exact⟨_,rfl,.inr (.inl rfl)⟩
 ·exact⟨_,rfl,.inr (.inr rfl)⟩
theorem G_qwj(T:Txt K mg A):FnOk P w K mg base CX0 2 A.qwj A.fd_qwj ["_law_pieces", "_law_cell", "_law_names_by", "_law_strict"] (sp_toldby K):=by
 refine T.F_qwj.ok sc_qwj (λvs H Q E h=>?_) (λcdv Ar outer s H vs Q E hr h=>?_)
 ·obtain⟨L,c,n,ps,p,ss,st,rfl,_⟩:=h
  rfl
 ·obtain⟨L,c,n,ps,p,ss,st,rfl,hP,hst,b1,b2,b3,b4,k0,k1⟩:=h
  refine⟨_,(zz3 (ps_set (i:=4) sc_qwj.nd rfl (by walk_at "o") (pe_ix (zz19 (K:=K) rfl) (pv 0) (pe_un un_neg pe_int) (λ_ _=>rfl))) (zz3 (ps_set (i:=5) sc_qwj.nd rfl (by walk_at "o") (zz10 (G_qww T) (hr.mono (by decide)) rfl T.m_qww T.k_qww T.b_qww .nil pass0 (zz0 (pv 2) (zz0 (pe_op op_mod (pe_op zz22 (pv 1) pe_int) pe_int) pa_nil)))) (zz3 (ps_if (zz15 (op_inSK (K:=K) rfl) (pv 5) (pe_comp (blk_mk (own:=["_law_row"]) (fr:=[]) (fm:=[]) rfl (by decide +kernel) (by decide +kernel) (by decide +kernel) .nil) rfl (zz12 (K:=K) rfl (pe_ix (zz8 (K:=K) rfl) (pv 4) pe_int (λ_ _=>rfl))) (λ_ _ _=>⟨(zz6 (i:=0) (by show List.Nodup (["_law_row"]:List Str);decide +kernel) rfl (by walk_at "o")),pts_nil,(pe_ix (zz8 (K:=K) rfl) (pv 0) pe_int (λ_ _=>rfl))⟩)) (by with_unfolding_all rfl)) (zz5 ps_retN) zz16) (zz3 (ps_set (i:=6) sc_qwj.nd rfl (by walk_at "o") (pe_ix (zz19 (K:=K) rfl) (pe_lst (zz0 pe_str (zz0 pe_str (zz0 pe_str pa_nil)))) (pe_op op_mod (pv 1) pe_int) (λ_ _=>rfl))) (zz3 (ps_for PassesOwn.never rfl (zz12 (K:=K) rfl (pe_slice (sl_listK (K:=K) rfl) (pv 0) po_none (po_some (pe_un un_neg pe_int)))) (zz6 (i:=7) sc_qwj.nd rfl (by walk_at "o")) (zz5 (ps_if (PW.pt (pw_and (zz15 op_eq (pv 6) pe_str (nomark _)) (pw_and (pt_not (pt_val (pv 3))) (pw_and1 pt_never)))) (zz5 (ps_set (i:=6) sc_qwj.nd rfl (by walk_at "o") pe_str)) zz16))) (zz5 (zz20 (pe_bm PySem.F.plainAttrs_list PySem.F.slot_list_append PySem.F.type_list_append zz23 (pe_ix (zz8 (K:=K) rfl) (pv 4) pe_int (λ_ _=>rfl)) (zz0 (pe_tup (zz0 (pv 5) (zz0 (pv 6) (zz0 (pe_op op_sub (zz11 (call_lenK (K:=K) rfl) (by rfl) T.n_len bt_len (zz0 (pe_ix (zz8 (K:=K) rfl) (pv 4) pe_int (λ_ _=>rfl)) pa_nil)) pe_int) (zz0 (zz11 (call_lenK (K:=K) rfl) (by rfl) T.n_len bt_len (zz0 (pe_ix (zz8 (K:=K) rfl) (pe_ix (zz19 (K:=K) rfl) (pe_ix (zz8 (K:=K) rfl) (pv 4) pe_int (λ_ _=>rfl)) (pe_un un_neg pe_int) (λ_ _=>rfl)) pe_int (λ_ _=>rfl)) pa_nil)) pa_nil))))) pa_nil))))))))),?_⟩
  walk_at "rd"
  have hp:=hP.at_ p (by simp)
  refine⟨_,SqL.of hP.top,V.ref p.t,by rw[yac];exact atI_last,⟨by decide,by decide⟩,by decide,p.t,rfl,_,SqT.of hp.top,_,rfl,?_⟩
  refine CompL.of (by rw[yaa,sizeLine_eq];omega) (SqL.of hp.nl) (λD i ys H'=>ys=(p.nms.take i).map (λm=>V.str m.name)/\H'=upd H D (.lst ys)) (λD hD=>⟨rfl,rfl⟩) (λD i ys H' hD hi ⟨e1,e2⟩=>?_) (λD i x ys H' hD hx ⟨e1,e2⟩=>?_) (λD ys H' hD ⟨e1,e2⟩=>?_)
  ·subst e2
   refine⟨SqL.of (by rw[upd_ne (zz4 hp.nl hD)];exact hp.nl),zz1,?_⟩
   rw[e1,yaa];exact List.length_take_le ..
  ·subst e2
   walk_at "0"
   obtain⟨m,hm,rfl⟩:=yao.mp hx
   have ma:=hp.ns m (yan hm)
   walk_at "rd"
   refine⟨.no .nil,_,SqT.of (by rw[upd_ne (zz4 ma hD)];exact ma),_,rfl,zz1,?_,upd_upd⟩
   rw[e1,ya4,hm,yac];rfl
  ·subst e2
   have e3:ys=(p.nms.map ToldM.name).map V.str:=by rw[e1,yaa,ya0,ya6];rfl
   refine⟨D,rfl,ys,.inl (SqL.of zz1),rfl,?_,ite2 (λ_=>k0 _ (zz2 hD)) (λhin=>⟨by rw[sizeLine_eq];decide,λp1 h1=>?_⟩)⟩
   ·rw[e3,List.all_map];exact List.all_eq_true.mpr λ_ _=>rfl
   ·obtain⟨z,hz,hs⟩:=sort_at (c:=c)
    have sm:Same H (upd (upd H D (.lst ys)) p1 (.lst [V.str (Str.ofString "tell"),V.str (Str.ofString "weak"),V.str (Str.ofString "own")])):=(zz2 hD).trans (zz2 h1)
    refine⟨by decide,_,SqL.of zz1,_,hz,_,SqL.of (sm _ _ hP.top),λp2 h2=>?_⟩
    have sm2:=sm.trans (zz2 (o:=HO.lst (cutV ((ps++[p]).map PcM.v) none (some (-1)))) h2)
    generalize hH4:upd (upd (upd H D (.lst ys)) p1 (.lst [V.str (Str.ofString "tell"),V.str (Str.ofString "weak"),V.str (Str.ofString "own")])) p2 (HO.lst (cutV ((ps++[p]).map PcM.v) none (some (-1))))=H4 at *
    have hl4:H4 p2=some (HO.lst (cutV ((ps++[p]).map PcM.v) none (some (-1)))):=by rw[<-hH4];exact zz1
    refine ForL.of (λi σ H'=>H'=H4/\∃b7,σ=[some (V.ref L),some (V.int c),some (V.int n),some (V.bl true),some (V.ref p.t),some (V.str (nameOf n (c / 9 % 12))),some (V.str z),b7]) ⟨rfl,_,rfl⟩ (λi σ H' _ ⟨e,_⟩=>by rw[e];exact SqL.of hl4) ?_ ?_
    ·rintro i x σ H' hx ⟨rfl,b7,rfl⟩
     walk_at "rd"
     split<;>trivial
    ·rintro σ H' ⟨rfl,b7,rfl⟩
     walk_at "rd"
     have hs':=hp.ss st (by rw[hst];simp)
     refine⟨_,SqT.of (sm2 _ _ hp.top),_,rfl,.inl ⟨rfl,_,SqL.of (sm2 _ _ hp.nl)⟩,_,SqT.of (sm2 _ _ hp.top),_,rfl,p.sts.length,.inl ⟨_,SqL.of (sm2 _ _ hp.sl),by simp⟩,_,SqT.of (sm2 _ _ hp.top),_,rfl,p.ls,rfl,_,SqL.of (sm2 _ _ hp.sl),st.v,(by rw[hst,List.map_append];exact atI_last),st.t,rfl,_,SqT.of (sm2 _ _ hs'.top),_,rfl,st.words.length,.inl ⟨_,SqL.of (sm2 _ _ hs'.wd),by simp⟩,by walk_at "s", λm hm=>⟨p.ln,rfl,p.nms.map ToldM.v,?_,?_,?_⟩⟩
     ·rw[upd_ne (zz4 (sm2 _ _ hp.nl) hm)];exact sm2 _ _ hp.nl
     ·rw[yaa,sizeLine_eq];omega
     ·refine k1 ⟨m,nameOf n (c / 9 % 12),z,(p.sts.length:Int) - 1,st.words.length⟩ _ (sm2.trans (zz2 hm)) zz1 ⟨_,by omega,by omega,rfl⟩ (λhn=>hin ?_) hs ?_ rfl
      ·rw[e3];exact inV_str.mpr hn
      ·show(p.sts.length:Int) - 1=ss.length
       rw[hst,yah];simp
theorem zz9(h:H0 L=none)(e:Same H0 H):Same H0 (upd H L o):=λb u q=>by rw[upd_ne (zz4 q h)];exact e b u q
theorem PcOk.empty:PcOk c ⟨t,ls,ln,nm,[],[]⟩:=⟨λs hs=>absurd hs (by simp),λn hn=>absurd hn (by simp),by simp⟩
theorem Drawn.push(d:Drawn c t i ps)(h:ps.length<12):Drawn c t (i+1) (ps++[⟨a,ls,ln,nameOf t ps.length,[],[]⟩]):=by
 refine⟨λp hp=>?_,by rw[yah];simp;omega,?_,?_⟩
 ·rcases yai.mp hp with z|z
  ·exact d.ok p z
  ·rw[yae.mp z];exact PcOk.empty
 ·rw[yac,d.names,yah,yb2,List.range_succ,yac];rfl
 ·have:=d.size
  rw[yac,ycy]
  simp[PcM.size]
  exact this
theorem Drawn.last(d:Drawn c t i (ps++[p]))(h:PcOk c p')(hn:p'.name=p.name)(hs:p'.size<=p.size+1):Drawn c t (i+1) (ps++[p']):=by
 refine⟨λq hq=>?_,by have:=d.few;simpa using this,?_,?_⟩
 ·rcases yai.mp hq with z|z
  ·exact d.ok q (yak _ z)
  ·rw[yae.mp z];exact h
 ·have:=d.names
  simpa [hn] using this
 ·have:=d.size
  rw[yac,ycy]at this ⊢
  simp at this ⊢
  omega
theorem Drawn.lastSize(d:Drawn c t i (ps++[p])):p.size<=i:=by
 have:=d.size
 rw[yac,ycy]at this
 simp at this
 omega
theorem Drawn.keep(d:Drawn c t i ps):Drawn c t (i+1) ps:=⟨d.ok,d.few,d.names,ycm d.size⟩
theorem PcOk.stretch(h:PcOk c p)(hs:StOk c s):PcOk c { p with sts:=p.sts++[s] }:=by
 refine⟨λr hr=>?_,λn hn=>?_,h.nd⟩
 ·rcases yai.mp hr with z|z
  ·exact h.sts r z
  ·rw[yae.mp z];exact hs
 ·obtain⟨a,b,k,r,e,q⟩:=h.nms n hn
  exact⟨a,b,k,r,by rw[ya9 (yam.mp e).1];exact e,q⟩
theorem PcOk.lastSt(h:PcOk c p)(e:p.sts=ss++[s])(hs:StOk c s')(hw:s.words.length<=s'.words.length):PcOk c { p with sts:=ss++[s'] }:=by
 refine⟨λr hr=>?_,λn hn=>?_,h.nd⟩
 ·rcases yai.mp hr with z|z
  ·exact h.sts r (by rw[e];exact yak _ z)
  ·rw[yae.mp z];exact hs
 ·obtain⟨a,b,k,r,g,q1,q2,q3⟩:=h.nms n hn
  rw[e]at g
  by_cases hk:k<ss.length
  ·rw[ya9 hk]at g
   exact⟨a,b,k,r,by show(ss++[s'])[k]?=some r;rw[ya9 hk];exact g,q1,q2,q3⟩
  ·rw[ybj (by omega)]at g
   have hk0:k - ss.length=0:=by
    have:=(yam.mp g).1
    simp at this;omega
   rw[hk0]at g
   simp at g
   subst g
   exact⟨a,b,k,s',by show(ss++[s'])[k]?=some s';rw[ybj (by omega),hk0];rfl,q1,q2,Int.le_trans q3 (by omega)⟩
theorem PcOk.told(h:PcOk c p)(hm:ToldOk c p.sts m)(hn:m.name∉p.nms.map ToldM.name):PcOk c { p with nms:=p.nms++[m] }:=by
 refine⟨h.sts,λn hn=>?_,?_⟩
 ·rcases yai.mp hn with z|z
  ·exact h.nms n z
  ·rw[yae.mp z];exact hm
 ·show((p.nms++[m]).map ToldM.name).Nodup
  rw[yac]
  refine ya3.mpr ⟨h.nd,by simp,λx hx y hy e=>?_⟩
  have:y=m.name:=by simpa using hy
  subst this
  exact hn (e▸hx)
theorem step_at:∃z:Int,atI [V.int 1,V.int 1,V.int 2,V.int 4,V.int 16,V.int 65536] (v % 6)=some (V.int z)/\(z=1\/z=2\/z=4\/z=16\/z=65536):=by
 have hd:v % 6=0\/v % 6=1\/v % 6=2\/v % 6=3\/v % 6=4\/v % 6=5:=by omega
 rcases hd with e|e|e|e|e|e<;>rw[e]<;>exact⟨_,rfl,by decide⟩
theorem kind_at:∃z:Str,atI [V.str (Str.ofString "code"),V.str (Str.ofString "data")] (v % 2)=some (V.str z)/\isKind z:=by
 have hd:v % 2=0\/v % 2=1:=by omega
 rcases hd with e|e<;>rw[e]
 ·exact⟨_,rfl,.inl rfl⟩
 ·exact⟨_,rfl,.inr rfl⟩
theorem size_last{p:PcM}{ss:List StM}{s:StM}(e:p.sts=ss++[s]):s.words.length+p.sts.length+p.nms.length<p.size:=by
 unfold PcM.size
 rw[e,yac,ycy]
 simp
 omega
theorem size_st{p:PcM}{ss:List StM}{s s':StM}(e:p.sts=ss++[s])(h:s'.words.length=s.words.length+1):({ p with sts:=ss++[s'] }:PcM).size<=p.size+1:=by
 unfold PcM.size
 rw[e,yac,ycy,yac,ycy]
 simp[h]
 omega
theorem StOk.word(h:StOk c s)(h1:0<=wd)(h2:wd<4294967296):StOk c { s with words:=s.words++[wd] }:=by
 refine⟨h.kind,h.step,λi hi=>?_,λf hf=>?_,h.asc,?_⟩
 ·rcases yai.mp hi with z|z
  ·exact h.words i z
  ·rw[yae.mp z];exact⟨h1,h2⟩
 ·have g:=h.fills f hf
  exact⟨g.rule,g.name,g.lo,by have:=g.hi;show f.at_<((s.words++[wd]).length:Int);rw[yah];simp;omega,g.addlo,g.addhi,g.soft⟩
 ·have:=h.few
  show s.fills.length<=(s.words++[wd]).length
  rw[yah];simp;omega
theorem StOk.fill{c:Int}{s:StM}{f:FillM}{wd:Int}(h:StOk c s)(hf:FillOk c 1 { f with at_:=0 })(ha:f.at_=s.words.length)(h1:0<=wd)(h2:wd<4294967296):StOk c { s with fills:=s.fills++[f],words:=s.words++[wd] }:=by
 have w:=h.word h1 h2
 refine⟨h.kind,h.step,w.words,λg hg=>?_,?_,?_⟩
 ·rcases yai.mp hg with z|z
  ·exact w.fills g z
  ·rw[yae.mp z]
   exact⟨hf.rule,hf.name,by omega,by show f.at_<((s.words++[wd]).length:Int);rw[yah];simp;omega,hf.addlo,hf.addhi,hf.soft⟩
 ·show(s.fills++[f]).Pairwise _
  refine List.pairwise_append.mpr ⟨h.asc,by simp,λg hg y hy=>?_⟩
  rw[yae.mp hy,ha]
  exact(h.fills g hg).hi
 ·have:=h.few
  show(s.fills++[f]).length<=(s.words++[wd]).length
  rw[yah,yah];simp;omega
theorem G_qzk(T:Txt K mg A):FnOk P w K mg base CX0 3 A.qzk A.fd_qzk ["_law_cells", "_law_names_by", "_law_titles_by", "_law_strict"] (sp_drawn K):=by
 refine T.F_qzk.ok sc_qzk (λvs H Q E h=>?_) (λcdv Ar outer s H vs Q E hr h=>?_)
 ·obtain⟨a,ns,c,t,rfl,_⟩:=h
  rfl
 ·obtain⟨a,ns,c,t,rfl,hS,hl,k⟩:=h
  refine⟨_,(zz3 (ps_set (i:=4) sc_qzk.nd rfl (by walk_at "o") (pe_lst pa_nil)) (zz3 (ps_for PassesOwn.never rfl (zz12 (K:=K) rfl (pv 0)) (zz6 (i:=5) sc_qzk.nd rfl (by walk_at "o")) (zz3 (ps_set (i:=6) sc_qzk.nd rfl (by walk_at "o") (pe_op op_mod (pv 5) pe_int)) (zz5 (ps_if (pt_weak (u:=dT1) (PW.pt (pw_or (PW.pt (pw_and (zz15 op_eq (pv 6) pe_int (nomark _)) (pw_and1 (zz15 op_lt (zz11 (call_lenK (K:=K) rfl) (by rfl) T.n_len bt_len (zz0 (pv 4) pa_nil)) pe_int (nomark _))))) (pw_or1 (zz15 (op_eqDK hr.units (K:=K) rfl) (pv 4) (pe_lst pa_nil) (nomark _))))) ?wt1) (pss_weak (u:=dB1) (zz5 (zz20 (pe_bm PySem.F.plainAttrs_list PySem.F.slot_list_append PySem.F.type_list_append zz23 (pv 4) (zz0 (pe_tup (zz0 (zz10 (G_qww T) (hr.mono (by decide)) rfl T.m_qww T.k_qww T.b_qww .nil pass0 (zz0 (pv 2) (zz0 (zz11 (call_lenK (K:=K) rfl) (by rfl) T.n_len bt_len (zz0 (pv 4) pa_nil)) pa_nil))) (zz0 (pe_lst pa_nil) (zz0 (pe_lst pa_nil) pa_nil)))) pa_nil)))) ?wb1) (zz5 (ps_if (pt_weak (u:=dT2) (PW.pt (pw_or (zz15 op_lt (pv 6) pe_int (nomark _)) (pw_or1 (zz15 (op_eqDK hr.units (K:=K) rfl) (pe_ix (zz8 (K:=K) rfl) (pe_ix (zz19 (K:=K) rfl) (pv 4) (pe_un un_neg pe_int) (λ_ _=>rfl)) pe_int (λ_ _=>rfl)) (pe_lst pa_nil) (nomark _))))) ?wt2) (pss_weak (u:=dB2) (zz3 (ps_set (i:=7) sc_qzk.nd rfl (by walk_at "o") (pe_ix (zz19 (K:=K) rfl) (pe_lst (zz0 pe_int (zz0 pe_int (zz0 pe_int (zz0 pe_int (zz0 pe_int (zz0 pe_int pa_nil))))))) (pe_op op_mod (pe_op zz22 (pv 5) pe_int) pe_int) (λ_ _=>rfl))) (zz5 (zz20 (pe_bm PySem.F.plainAttrs_list PySem.F.slot_list_append PySem.F.type_list_append zz23 (pe_ix (zz8 (K:=K) rfl) (pe_ix (zz19 (K:=K) rfl) (pv 4) (pe_un un_neg pe_int) (λ_ _=>rfl)) pe_int (λ_ _=>rfl)) (zz0 (pe_tup (zz0 (pe_ix (zz19 (K:=K) rfl) (pe_lst (zz0 pe_str (zz0 pe_str pa_nil))) (pe_op op_mod (pe_op zz22 (pv 5) pe_int) pe_int) (λ_ _=>rfl)) (zz0 (pv 7) (zz0 (pe_lst pa_nil) (zz0 (pe_lst pa_nil) pa_nil))))) pa_nil))))) ?wb2) (zz5 (ps_if (zz15 op_lt (pv 6) pe_int (nomark _)) (pss_weak (u:=dB3) (zz3 (ps_set (i:=8) sc_qzk.nd rfl (by walk_at "o") (pe_ix (zz19 (K:=K) rfl) (pe_ix (zz8 (K:=K) rfl) (pe_ix (zz19 (K:=K) rfl) (pv 4) (pe_un un_neg pe_int) (λ_ _=>rfl)) pe_int (λ_ _=>rfl)) (pe_un un_neg pe_int) (λ_ _=>rfl))) (zz3 (ps_set (i:=9) sc_qzk.nd rfl (by walk_at "o") (zz10 (G_qqj T) (hr.mono (by decide)) rfl T.m_qqj T.k_qqj T.b_qqj .nil pass0 (zz0 (pv 5) (zz0 (pv 1) pa_nil)))) (zz3 (ps_if (zz15 op_notN (pv 9) pe_non (nomark _)) (zz5 (zz20 (pe_bm PySem.F.plainAttrs_list PySem.F.slot_list_append PySem.F.type_list_append zz23 (pe_ix (zz8 (K:=K) rfl) (pv 8) pe_int (λ_ _=>rfl)) (zz0 (pe_op (op_catTK (K:=K) rfl) (pe_tup (zz0 (zz11 (call_lenK (K:=K) rfl) (by rfl) T.n_len bt_len (zz0 (pe_ix (zz8 (K:=K) rfl) (pv 8) pe_int (λ_ _=>rfl)) pa_nil)) pa_nil)) (pv 9)) pa_nil)))) zz16) (zz5 (zz20 (pe_bm PySem.F.plainAttrs_list PySem.F.slot_list_append PySem.F.type_list_append zz23 (pe_ix (zz8 (K:=K) rfl) (pv 8) pe_int (λ_ _=>rfl)) (zz0 (pe_op op_mod (pe_op op_mul (pv 5) pe_int) pe_int) pa_nil))))))) ?wb3) (pss_weak (u:=dB4) (zz5 (zz20 (zz10 (G_qwj T) (hr.mono (by decide)) rfl T.m_qwj T.k_qwj T.b_qwj .nil pass0 (zz0 (pv 4) (zz0 (pv 5) (zz0 (pv 1) (zz0 (pv 3) pa_nil))))))) ?wb4))))))))) (zz5 (ps_ret (pv 4))))),?main⟩
  case wt1=>
   rintro σ H R ⟨H0,a,L,c,t,v,i,ps,⟨⟨b7,b8,b9,rfl⟩,sm,hP,hf,hd,hi⟩,k⟩
   walk_at "rd"
   have z:(0:Nat)<=sizeLine:=ya1 _
   have eqd:∀q,H q=none->rEqD K (V.ref L) (V.ref q) (upd H q (HO.lst [])) λx H'=>∃k,x=V.bl k/\R k H':=λq hq=>by
    refine⟨ps.map PcM.d,[],.inl ⟨(hP.mono (zz2 hq)).rep,⟨q,[],rfl,SqL.of zz1,by simp[RepL]⟩⟩,Nat.le_trans (depL_le λp _=>dep_pc p) (by decide),_,rfl,k _ _ (zz2 hq) (λh=>?_) λh e=>?_⟩
    ·rw[deqL_nil]at h
     have e:=of_decide_eq_true h
     rw[List.map_eq_nil_iff.mp e];decide
    ·rw[deqL_nil,e]at h
     simp at h
   exact ite2 (λ_=>⟨ps.length,.inl ⟨_,SqL.of hP.top,by simp⟩,ite2 (λh=>k true H (Same.refl _) (λ_=>by have:=of_decide_eq_true h;omega) (λh=>by cases h)) (λ_=>⟨z,eqd⟩)⟩) (λ_=>⟨z,eqd⟩)
  case wt2=>
   rintro σ H R ⟨H0,a,L,c,t,v,i,ps,p,⟨⟨b7,b8,b9,rfl⟩,sm,hP,hf,hd,hi⟩,k⟩
   walk_at "rd"
   have hp:=hP.at_ p (by simp)
   refine ite2 (λ_=>k true H (Same.refl _) (λh=>by cases h)) (λ_=>⟨_,SqL.of hP.top,V.ref p.t,by rw[yac];exact atI_last,p.t,rfl,_,SqT.of hp.top,_,rfl,ya1 _,λq hq=>?_⟩)
   refine⟨p.sts.map StM.d,[],.inl ⟨⟨p.ls,_,rfl,SqL.of (zz2 hq _ _ hp.sl),RepL.map λs hs=>((hp.ss s hs).mono (zz2 hq)).rep⟩,⟨q,[],rfl,SqL.of zz1,by simp[RepL]⟩⟩,Nat.le_trans (depL_le λp _=>dep_st p) (by decide),_,rfl,k _ _ (zz2 hq) λh e=>?_⟩
   rw[deqL_nil,e]at h
   simp at h
  case wb1=>
   rintro D σ H ⟨H0,a,L,c,t,v,i,ps,⟨⟨b7,b8,b9,rfl⟩,sm,hP,hf,hd,hi⟩,hz,k⟩
   walk_at "rd"
   refine⟨.inl ⟨rfl,_,SqL.of hP.top⟩,ps.length,.inl ⟨_,SqL.of hP.top,by simp⟩,Nat.zero_le _,λls h1=>⟨Nat.zero_le _,λln h2=>⟨by rw[sizeLine_eq];decide,λtt h3=>?_⟩⟩⟩
   obtain⟨n2,h2'⟩:=zz14 h2
   obtain⟨n3,h3a⟩:=zz14 h3
   obtain⟨n4,h3'⟩:=zz14 h3a
   have s3:=((zz2 (o:=HO.lst []) h1).trans (zz2 (o:=HO.lst []) h2)).trans (zz2 (o:=HO.tup [V.str (nameOf t (ps.length:Int)),V.ref ls,V.ref ln]) h3)
   refine⟨_,s3 _ _ hP.top,by rw[yaa,sizeLine_eq];omega,?_⟩
   have hL0:=hf L ya5
   refine k _ _ _ ⟨_,_,_,_,_,rfl⟩ (zz9 hL0 (sm.trans s3)) ((hP.mono s3).newPiece zz1 (by rw[upd_ne (Ne.symm n4),upd_ne (Ne.symm n2),zz1]) (by rw[upd_ne (Ne.symm n3),zz1]) (Ne.symm n2) (hP.fresh h1) (hP.fresh h2')) (λb hb=>?_) (hd.push hz)
   rw[zz17,<-yc3]at hb
   rcases yai.mp hb with e|e
   ·exact hf b e
   ·simp[PcM.lists]at e
    rcases e with e|e
    ·rw[e];exact sm.free h1
    ·rw[e];exact sm.free h2'
  case wb2=>
   rintro D σ H ⟨H0,a,L,c,t,v,i,ps,p,⟨⟨b7,b8,b9,rfl⟩,sm,hP,hf,hd,hi⟩,k⟩
   walk_at "rd"
   have hp:=hP.at_ p (by simp)
   have hsz:=hd.lastSize
   obtain⟨z,hz,hz'⟩:=step_at (v:=v / 9)
   obtain⟨kd,hk,hk'⟩:=kind_at (v:=v / 54)
   refine⟨by rw[sizeLine_eq];decide,λq1 h1=>⟨⟨by decide,by decide⟩,by decide,_,SqL.of zz1,_,hz,_,SqL.of (zz2 h1 _ _ hP.top),V.ref p.t,by rw[yac];exact atI_last,p.t,rfl,_,SqT.of (zz2 h1 _ _ hp.top),_,rfl,.inl ⟨rfl,_,SqL.of (zz2 h1 _ _ hp.sl)⟩,by walk_at "s", λq2 h2=>⟨⟨by decide,by decide⟩,by decide,_,SqL.of zz1,_,hk,ya1 _,λlw h3=>⟨ya1 _,λlf h4=>⟨by rw[sizeLine_eq];decide,λtt h5=>⟨p.ls,rfl,?_⟩⟩⟩⟩⟩⟩
   have s2:=(zz2 (o:=HO.lst [V.int 1,V.int 1,V.int 2,V.int 4,V.int 16,V.int 65536]) h1).trans (zz2 (o:=HO.lst [V.str (Str.ofString "code"),V.str (Str.ofString "data")]) h2)
   generalize upd (upd H q1 (HO.lst [V.int 1,V.int 1,V.int 2,V.int 4,V.int 16,V.int 65536])) q2 (HO.lst [V.str (Str.ofString "code"),V.str (Str.ofString "data")])=H2 at *
   obtain⟨n4,h4'⟩:=zz14 h4
   obtain⟨n5,h5a⟩:=zz14 h5
   obtain⟨n6,h5'⟩:=zz14 h5a
   have sA:=s2.trans (((zz2 (o:=HO.lst []) h3).trans (zz2 (o:=HO.lst []) h4)).trans (zz2 (o:=HO.tup [V.str kd,V.int z,V.ref lw,V.ref lf]) h5))
   refine⟨_,sA _ _ hp.sl,by rw[yaa,sizeLine_eq];unfold PcM.size at hsz;omega,?_⟩
   walk_at "1"
   refine k _ _ _ ⟨_,_,_,_,_,rfl⟩ (zz9 (hf p.ls (mem _ (by simp[PcM.lists]))) (sm.trans sA)) ((hP.mono sA).newStretch zz1 (by rw[upd_ne (Ne.symm n6),upd_ne (Ne.symm n4),zz1]) (by rw[upd_ne (Ne.symm n5),zz1]) (Ne.symm n4) ((hP.mono s2).fresh h3) ((hP.mono s2).fresh h4')) (λb hb=>?_) (hd.last ((hd.ok p (by simp)).stretch ⟨hk',hz',by simp,by simp,by simp,by simp⟩) rfl ?_)
   ·have hb':b∈L::listsOf (ps++[p])\/b=lw\/b=lf:=by
     rw[zz17]at hb ⊢
     simp only[PcM.lists,List.flatMap_append,List.mem_cons,List.mem_append,List.flatMap_cons,List.flatMap_nil,StM.lists,List.append_nil,List.not_mem_nil,or_false]at hb ⊢
     grind
    rcases hb' with e|e|e
    ·exact hf b e
    ·rw[e];exact(sm.trans s2).free h3
    ·rw[e];exact(sm.trans s2).free h4'
   ·unfold PcM.size
    simp
    omega
  case wb3=>
   rintro D σ H ⟨H0,a,L,c,t,v,i,ps,p,ss,s,⟨⟨b7,b8,b9,rfl⟩,sm,hP,hf,hd,hi⟩,hs,k⟩
   walk_at "rd"
   have hp:=hP.at_ p (by simp)
   have hsz:=hd.lastSize
   have hs':=hp.ss s (by rw[hs];simp)
   have hw:=size_last hs
   walk_at "1"
   refine⟨_,SqL.of hP.top,V.ref p.t,by rw[yac];exact atI_last,p.t,rfl,_,SqT.of hp.top,_,rfl,p.ls,rfl,_,SqL.of hp.sl,s.v,by rw[hs,yac];exact atI_last,λH' s1=>⟨?_,λf hf1 hf2 hf3=>?_⟩⟩
   ·rw[if_neg (by simp)]
    refine⟨s.t,rfl,_,SqT.of (s1 _ _ hs'.top),_,rfl,.inl ⟨rfl,_,SqL.of (s1 _ _ hs'.wd)⟩,.inr ⟨by decide,by decide⟩,by decide,s.lw,rfl,_,s1 _ _ hs'.wd,by rw[yaa,sizeLine_eq];omega,?_⟩
    refine k _ _ _ ⟨_,_,_,_,_,rfl⟩ (zz9 (hf _ (mem _ (by simp[PcM.lists,hs,StM.lists]))) (sm.trans s1)) ((hP.mono s1).newWord hs) (λb hb=>hf b ?_) (hd.last (PcOk.lastSt (hd.ok p (by simp)) hs (((hd.ok p (by simp)).sts s (by rw[hs];simp)).word (by omega) (by omega)) (by simp)) rfl (size_st hs (by simp)))
    rw[zz17]at hb ⊢
    simpa [PcM.lists,hs,StM.lists] using hb
   ·rw[if_pos (by simp)]
    refine⟨s.t,rfl,_,SqT.of (s1 _ _ hs'.top),_,rfl,.inl ⟨rfl,_,SqL.of (s1 _ _ hs'.fl)⟩,s.t,rfl,_,SqT.of (s1 _ _ hs'.top),_,rfl,s.words.length,.inl ⟨_,SqL.of (s1 _ _ hs'.wd),by simp⟩,by walk_at "s", λq1 h1=>⟨_,SqT.of zz1,_,SqT.of (zz2 h1 _ _ hf2),by simp,by rw[sizeLine_eq];simp,λe=>(by cases e),λ_ q2 h2=>⟨s.lf,rfl,?_⟩⟩⟩
    have s3:=s1.trans ((zz2 (o:=HO.tup [V.int (s.words.length:Int)]) h1).trans (zz2 (o:=HO.tup ([V.int (s.words.length:Int)]++[V.str f.rule,V.str f.name,V.int f.add,V.bl f.soft])) h2))
    have hat:FillM.At (upd (upd H' q1 (HO.tup [V.int (s.words.length:Int)])) q2 (HO.tup ([V.int (s.words.length:Int)]++[V.str f.rule,V.str f.name,V.int f.add,V.bl f.soft]))) ⟨q2,s.words.length,f.rule,f.name,f.add,f.soft⟩:=zz1
    generalize upd (upd H' q1 (HO.tup [V.int (s.words.length:Int)])) q2 (HO.tup ([V.int (s.words.length:Int)]++[V.str f.rule,V.str f.name,V.int f.add,V.bl f.soft]))=H3 at *
    have P1:=(hP.mono s3).newFill hs hat
    have ok:=PcOk.lastSt (p:=p) (s':={ s with fills:=s.fills++[⟨q2,s.words.length,f.rule,f.name,f.add,f.soft⟩],words:=s.words++[v * 48271 % 4294967296] }) (hd.ok p (by simp)) hs (StOk.fill ((hd.ok p (by simp)).sts s (by rw[hs];simp)) (f:=⟨q2,s.words.length,f.rule,f.name,f.add,f.soft⟩) ⟨hf1.rule,hf1.name,hf1.lo,hf1.hi,hf1.addlo,hf1.addhi,hf1.soft⟩ rfl (by omega) (by omega)) (by simp)
    have sz:=size_st (p:=p) (s':={ s with fills:=s.fills++[⟨q2,s.words.length,f.rule,f.name,f.add,f.soft⟩],words:=s.words++[v * 48271 % 4294967296] }) hs (by simp)
    have a1:=(P1.at_ _ (yaj _ (yae.mpr rfl))).ss _ (yaj _ (yae.mpr rfl))
    refine⟨_,s3 _ _ hs'.fl,by rw[yaa,sizeLine_eq];have:=((hd.ok p (by simp)).sts s (by rw[hs];simp)).few;omega,s.t,rfl,_,SqT.of a1.top,_,rfl,.inl ⟨rfl,_,SqL.of a1.wd⟩,.inr ⟨by decide,by decide⟩,by decide,s.lw,rfl,_,a1.wd,by rw[List.length_map,sizeLine_eq];show s.words.length<_;omega,?_⟩
    have P2:=P1.newWord (i:=v * 48271 % 4294967296) rfl
    refine k (ps++[({ p with sts:=ss++[{ s with fills:=s.fills++[⟨q2,s.words.length,f.rule,f.name,f.add,f.soft⟩],words:=s.words++[v * 48271 % 4294967296] }] }:PcM)]) _ _ ⟨_,_,_,_,_,rfl⟩ (zz9 (hf _ (mem _ (by simp[PcM.lists,hs,StM.lists]))) (zz9 (hf _ (mem _ (by simp[PcM.lists,hs,StM.lists]))) (sm.trans s3))) (by exact P2) (λb hb=>hf b ?_) (hd.last ok rfl sz)
    rw[zz17]at hb ⊢
    simpa [PcM.lists,hs,StM.lists] using hb
  case wb4=>
   rintro D σ H ⟨H0,a,L,c,t,v,i,ps,p,ss,s,⟨⟨b7,b8,b9,rfl⟩,sm,hP,hf,hd,hi⟩,hs,k⟩
   walk_at "rd"
   have hsz:=hd.lastSize
   have hw:=size_last hs
   have hfew:=hd.few
   walk_at "1"
   refine⟨ps,p,hP,ss,s,hs,by simp at hfew;omega,by omega,by omega,by omega,λH' s1=>k _ _ _ ⟨_,_,_,_,_,rfl⟩ (sm.trans s1) (hP.mono s1) hf hd.keep,λm H' s1 hm hn hne hso hst hoff=>?_⟩
   refine k _ _ _ ⟨_,_,_,_,_,rfl⟩ (zz9 (hf _ (mem _ (by simp[PcM.lists]))) (sm.trans s1)) ((hP.mono s1).newTold hm) (λb hb=>hf b ?_) (hd.last ((hd.ok p (by simp)).told ⟨hn,hso,ss.length,s,by rw[hs];simp,hst,by omega,by omega⟩ hne) rfl ?_)
   ·rw[zz17]at hb ⊢
    exact hb
   ·unfold PcM.size
    simp
    omega
  case main=>
  walk_at "rd"
  refine⟨by rw[sizeLine_eq];decide,λL hL=>?_⟩
  refine ForL.of (xs:=ns.map V.int) (λi σ H'=>∃ps b5 b6 b7 b8 b9,σ=[some (V.ref a),some (V.int c),some (V.int t),some (V.bl true),some (V.ref L),b5,b6,b7,b8,b9]/\Same H H'/\Pcs H' L ps/\(∀b∈L::listsOf ps,H b=none)/\Drawn c t i ps)
   ⟨[],_,_,_,_,_,rfl,zz2 hL,Pcs.nil zz1,by simpa [listsOf] using hL,⟨by simp,by simp,rfl,by simp⟩⟩ (λi σ H' _ ⟨_,_,_,_,_,_,_,sm,_⟩=>sm.seq hS) ?_ ?_
  ·rintro i x σ H' hx ⟨ps,b5,b6,b7,b8,b9,rfl,sm,hP,hf,hd⟩
   walk_at "0"
   obtain⟨v,hv,rfl⟩:=yao.mp hx
   have hi:i<61:=yat (yam.mp hv).1 hl
   walk_at "rd"
   have dc:DC H a L c t v i ps [some (V.ref a),some (V.int c),some (V.int t),some (V.bl true),some (V.ref L),some (V.int v),some (V.int (v % 9)),b7,b8,b9] H':=⟨⟨_,_,_,rfl⟩,sm,hP,hf,hd,hi⟩
   refine⟨by decide,H,a,L,c,t,v,i,ps,dc,λb H1 s1 ht hn=>?_⟩
   cases b with
   |true=>exact⟨H,a,L,c,t,v,i,ps,dc.mono s1,ht rfl,λps' σ' H'' ⟨b5,b6,b7,b8,b9,e⟩ s1 s2 s3 s4=>⟨ps',b5,b6,b7,b8,b9,e,s1,s2,s3,s4⟩⟩
   |false=>
    obtain⟨ps0,p,e⟩:∃ps0 p,ps=ps0++[p]:=by
     rcases List.eq_nil_or_concat ps with e|⟨l,x,e⟩
     ·exact absurd e (hn rfl)
     ·exact⟨l,x,by rw[e,List.concat_eq_append]⟩
    subst e
    refine⟨H,a,L,c,t,v,i,ps0,p,dc.mono s1,λb H2 s2 hn2=>?_⟩
    cases b with
    |true=>exact⟨H,a,L,c,t,v,i,ps0,p,(dc.mono s1).mono s2,λps' σ' H'' ⟨b5,b6,b7,b8,b9,e⟩ s1 s2 s3 s4=>⟨ps',b5,b6,b7,b8,b9,e,s1,s2,s3,s4⟩⟩
    |false=>
     obtain⟨ss,r,e⟩:∃ss r,p.sts=ss++[r]:=by
      rcases List.eq_nil_or_concat p.sts with e|⟨l,x,e⟩
      ·exact absurd e (hn2 rfl)
      ·exact⟨l,x,by rw[e,List.concat_eq_append]⟩
     by_cases h6:v % 9<6
     ·rw[if_neg (by decide),if_pos (decide_eq_true h6)]
      exact⟨H,a,L,c,t,v,i,ps0,p,ss,r,(dc.mono s1).mono s2,e,λps' σ' H'' ⟨b5,b6,b7,b8,b9,e⟩ s1 s2 s3 s4=>⟨ps',b5,b6,b7,b8,b9,e,s1,s2,s3,s4⟩⟩
     ·rw[if_neg (by decide),if_neg (by simpa using h6)]
      exact⟨H,a,L,c,t,v,i,ps0,p,ss,r,(dc.mono s1).mono s2,e,λps' σ' H'' ⟨b5,b6,b7,b8,b9,e⟩ s1 s2 s3 s4=>⟨ps',b5,b6,b7,b8,b9,e,s1,s2,s3,s4⟩⟩
  ·rintro σ H' ⟨ps,b5,b6,b7,b8,b9,rfl,sm,hP,hf,hd⟩
   rw[yaa]at hd
   walk_at "rd"
   exact k L ps H' sm hP hf hd
theorem G_qyq(T:Txt K mg A):FnOk P w K mg base CX0 1 A.qyq A.fd_qyq ["_law_piece"] (sp_copy K):=by
 refine T.F_qyq.ok sc_qyq (λvs H Q E h=>?_) (λcdv Ar outer s H vs Q E hr h=>?_)
 ·obtain⟨p,rfl,_⟩:=h
  rfl
 ·obtain⟨p,rfl,hp,b1,b2,b3,k⟩:=h
  refine⟨_,(zz3 (ps_setC (i:=1) sc_qyq.nd rfl (by walk_at "o") (blk_mk (own:=["_law_row"]) (fr:=[]) (fm:=[]) rfl (by decide +kernel) (by decide +kernel) (by decide +kernel) .nil) rfl (zz12 (K:=K) rfl (pe_ix (zz8 (K:=K) rfl) (pv 0) pe_int (λ_ _=>rfl))) (λ_ _ _=>⟨(zz6 (i:=0) (by show List.Nodup (["_law_row"]:List Str);decide +kernel) rfl (by walk_at "o")),pts_nil,(pe_tup (zz0 (pe_ix (zz8 (K:=K) rfl) (pv 0) pe_int (λ_ _=>rfl)) (zz0 (pe_ix (zz8 (K:=K) rfl) (pv 0) pe_int (λ_ _=>rfl)) (zz0 (pe_callTy (zz27 (K:=K) rfl) (by rfl) T.n_list bt_list (zz0 (pe_ix (zz8 (K:=K) rfl) (pv 0) pe_int (λ_ _=>rfl)) pa_nil)) (zz0 (pe_callTy (zz27 (K:=K) rfl) (by rfl) T.n_list bt_list (zz0 (pe_ix (zz8 (K:=K) rfl) (pv 0) pe_int (λ_ _=>rfl)) pa_nil)) pa_nil)))))⟩)) (zz5 (ps_ret (pe_tup (zz0 (pe_ix (zz8 (K:=K) rfl) (pv 0) pe_int (λ_ _=>rfl)) (zz0 (pv 1) (zz0 (pe_callTy (zz27 (K:=K) rfl) (by rfl) T.n_list bt_list (zz0 (pe_ix (zz8 (K:=K) rfl) (pv 0) pe_int (λ_ _=>rfl)) pa_nil)) pa_nil))))))),?_⟩
  walk_at "rd"
  refine⟨_,SqT.of hp.top,_,rfl,?_⟩
  refine CompL.of (by rw[yaa,sizeLine_eq];omega) (SqL.of hp.sl) (λD i ys H'=>∃qs:List StM,ys=qs.map StM.v/\qs.map StM.core=(p.sts.take i).map StM.core/\Same H H'/\H' D=some (.lst ys)/\(∀q∈qs,q.At H')/\(∀b∈qs.flatMap StM.lists,H b=none/\b≠D)/\(qs.flatMap StM.lists).Nodup)
   (λD hD=>⟨[],rfl,rfl,zz2 hD,zz1,by simp,by simp,by simp⟩) ?_ ?_ ?_
  ·rintro D i ys H' hD hi ⟨qs,rfl,hc,sm,hDD,_⟩
   refine⟨SqL.of (sm _ _ hp.sl),hDD,?_⟩
   have e:=congrArg List.length hc
   rw[yaa,yaa]at e
   rw[yaa,e]
   exact List.length_take_le ..
  ·rintro D i x ys H' hD hx ⟨qs,rfl,hc,sm,hDD,hat,hnew,hnd⟩
   walk_at "0"
   obtain⟨s,hs,rfl⟩:=yao.mp hx
   have hs':=hp.ss s (yan hs)
   walk_at "rd"
   refine⟨.no .nil,_,SqT.of (sm _ _ hs'.top),_,rfl,_,SqT.of (sm _ _ hs'.top),_,rfl,_,SqT.of (sm _ _ hs'.top),_,rfl,s.lw,rfl,_,.inl (SqL.of (sm _ _ hs'.wd)),λlw h1=>⟨_,SqT.of (zz2 h1 _ _ (sm _ _ hs'.top)),_,rfl,s.lf,rfl,_,.inl (SqL.of (zz2 h1 _ _ (sm _ _ hs'.fl))),λlf h2=>⟨by rw[sizeLine_eq];decide,λt h3=>?_⟩⟩⟩
   obtain⟨n2,h2'⟩:=zz14 h2
   obtain⟨n3,h3a⟩:=zz14 h3
   obtain⟨n4,h3'⟩:=zz14 h3a
   have s3:=((zz2 (o:=HO.lst (s.words.map V.int)) h1).trans (zz2 (o:=HO.lst (s.fills.map FillM.v)) h2)).trans (zz2 (o:=HO.tup [V.str s.kind,V.int s.step,V.ref lw,V.ref lf]) h3)
   have e1:upd (upd (upd H' lw (HO.lst (s.words.map V.int))) lf (HO.lst (s.fills.map FillM.v))) t (HO.tup [V.str s.kind,V.int s.step,V.ref lw,V.ref lf]) lw=some (HO.lst (s.words.map V.int)):=by rw[upd_ne (Ne.symm n4),upd_ne (Ne.symm n2),zz1]
   have e2:upd (upd (upd H' lw (HO.lst (s.words.map V.int))) lf (HO.lst (s.fills.map FillM.v))) t (HO.tup [V.str s.kind,V.int s.step,V.ref lw,V.ref lf]) lf=some (HO.lst (s.fills.map FillM.v)):=by rw[upd_ne (Ne.symm n3),zz1]
   have e3:upd (upd (upd H' lw (HO.lst (s.words.map V.int))) lf (HO.lst (s.fills.map FillM.v))) t (HO.tup [V.str s.kind,V.int s.step,V.ref lw,V.ref lf]) t=some (HO.tup [V.str s.kind,V.int s.step,V.ref lw,V.ref lf]):=zz1
   generalize upd (upd (upd H' lw (HO.lst (s.words.map V.int))) lf (HO.lst (s.fills.map FillM.v))) t (HO.tup [V.str s.kind,V.int s.step,V.ref lw,V.ref lf])=H3 at *
   have bt:But H3 (upd H3 D (HO.lst (qs.map StM.v++[V.ref t]))) D:=But.upd (s3 _ _ hDD)
   have d1:lw≠D:=Ne.symm (zz4 hDD h1)
   have d2:lf≠D:=Ne.symm (zz4 hDD h2')
   refine⟨s3 _ _ hDD,qs++[⟨t,lw,lf,s.kind,s.step,s.words,s.fills⟩],by simp,?_,zz9 hD (sm.trans s3),zz1,λq hq=>?_,λb hb=>?_,?_⟩
   ·rw[yac,hc,ya4,hs,yac];rfl
   ·rcases yai.mp hq with z|z
    ·exact((hat q z).mono s3).but bt λy=>(hnew D (yav.mpr ⟨q,z,y⟩)).2 rfl
    ·rw[yae.mp z]
     exact⟨bt.tup e3,bt.2 _ _ e1 d1,bt.2 _ _ e2 d2,λf hf=>(((hs'.fs f hf).mono sm).mono s3).but bt⟩
   ·rw[ybh]at hb
    rcases yai.mp hb with z|z
    ·exact hnew b z
    ·simp[StM.lists]at z
     rcases z with e|e
     ·rw[e];exact⟨sm.free h1,d1⟩
     ·rw[e];exact⟨sm.free h2',d2⟩
   ·rw[ybh]
    refine ya3.mpr ⟨hnd,by simp[StM.lists,Ne.symm n2],λx hx y hy e=>?_⟩
    obtain⟨q,hq,hb'⟩:=yav.mp hx
    obtain⟨xs,he⟩:=(hat q hq).list hb'
    simp[StM.lists]at hy
    rcases hy with z|z
    ·rw[e,z,h1]at he;cases he
    ·rw[e,z,h2']at he;cases he
  ·rintro D ys H' hD ⟨qs,rfl,hc,sm,hDD,hat,hnew,hnd⟩
   rw[yaa,ya0]at hc
   refine⟨_,SqT.of (sm _ _ hp.top),_,rfl,_,SqT.of (sm _ _ hp.top),_,rfl,p.ln,rfl,_,.inl (SqL.of (sm _ _ hp.nl)),λl hl=>⟨by rw[sizeLine_eq];decide,λt ht=>?_⟩⟩
   obtain⟨n1,ht'⟩:=zz14 ht
   have s2:=(zz2 (o:=HO.lst (p.nms.map ToldM.v)) hl).trans (zz2 (o:=HO.tup [V.str p.name,V.ref D,V.ref l]) ht)
   have nl:∀b∈qs.flatMap StM.lists,b≠l/\b≠t:=λb hb=>by
    obtain⟨q,hq,hb'⟩:=yav.mp hb
    obtain⟨xs,e⟩:=(hat q hq).list hb'
    exact⟨zz4 e hl,zz4 e ht'⟩
   refine k ⟨t,D,l,p.name,qs,p.nms⟩ _ (sm.trans s2) ⟨zz1,s2 _ _ hDD,by rw[upd_ne (Ne.symm n1),zz1],λq hq=>(hat q hq).mono s2,λn hn=>((hp.ns n hn).mono sm).mono s2⟩ ⟨rfl,rfl,hc⟩ (λb hb=>?_) ?_
   ·simp only[PcM.lists,List.mem_cons]at hb
    rcases hb with e|e|e
    ·rw[e];exact hD
    ·rw[e];exact sm.free hl
    ·exact(hnew b e).1
   ·show(D::l::qs.flatMap StM.lists).Nodup
    refine ya8.mpr ⟨λz=>?_,ya8.mpr ⟨λz=>(nl l z).1 rfl,hnd⟩⟩
    rcases yau.mp z with e|e
    ·exact zz4 hDD hl e
    ·exact(hnew D e).2 rfl
theorem nodup_perm:∀{a b:List Str},a.Nodup->b.Nodup->(∀x,x∈a↔x∈b)->a.Perm b
 |[],b,_,_,h=>by
  have:b=[]:=List.eq_nil_iff_forall_not_mem.mpr λx hx=>by simpa using (h x).mpr hx
  rw[this]
 |x::a,b,ha,hb,h=>by
  have hx:x∈b:=(h x).mp (.head _)
  refine((nodup_perm (ya8.mp ha).2 (hb.erase x) λy=>?_).cons x).trans (List.perm_cons_erase hx).symm
  rw[hb.mem_erase_iff]
  constructor
  ·intro hy
   exact⟨λe=>(ya8.mp ha).1 (e▸hy),(h y).mp (.tail _ hy)⟩
  ·rintro⟨ne,hy⟩
   exact(yau.mp ((h y).mpr hy)).resolve_left ne
theorem putW(W:List Str)(y:Str):putK (W.map wkv) (.inr y) (.bl true)=(addW W y).map wkv:=by
 unfold putK addW
 have e:((W.map wkv).any λkv=>decide (kv.1=(.inr y:Key)))=decide (y∈W):=by
  rw[ycw,ycb,ybm,decide_eq_true_eq]
  constructor
  ·rintro⟨z,hz,q⟩
   have:z=y:=by simpa [wkv] using q
   exact this▸hz
  ·intro hy
   exact⟨y,hy,by simp[wkv]⟩
 rw[e]
 by_cases m:y∈W
 ·rw[if_pos (decide_eq_true m),if_pos m,ya6]
  refine ybq λz hz=>?_
  by_cases q:z=y
  ·simp[wkv,q]
  ·simp[wkv,q]
 ·rw[if_neg (by simpa using m),if_neg m,List.map_append];rfl
theorem addW_len(W:List Str)(y:Str):(addW W y).length<=W.length+1:=by
 unfold addW
 split
 ·omega
 ·simp
theorem wAdd_len(p:PcM)(W:List Str)(f:FillM):(wAdd p W f).length<=W.length+1:=by
 unfold wAdd
 split
 ·exact addW_len W f.name
 ·omega
theorem fold_len(p:PcM):∀(fs:List FillM) (W:List Str),(fs.foldl (wAdd p) W).length<=W.length+fs.length
 |[],W=>by simp
 |f::fs,W=>by
  have h1:=fold_len p fs (wAdd p W f)
  have h2:=wAdd_len p W f
  rw[List.foldl_cons,ya7]
  omega
theorem wAdd_no(h:¬(!f.soft && !ownHas p f.name)=true):wAdd p W f=W:=if_neg h
theorem wAdd_yes(h:(!f.soft && !ownHas p f.name)=true):wAdd p W f=addW W f.name:=if_pos h
theorem call_setK(hc:X.calm=true){w:World}(ew:X.w=w){K:Wf}(e:X.K=K):CallR X (.type "set") (rSet w K):=ew▸e▸call_set hc
theorem call_sortedSK(hc:X.calm=true){w:World}(ew:X.w=w):CallR X (.builtin "sorted") (rSortedS w):=ew▸call_sortedS hc
theorem same_no(e:Same H H')(h:H' l=none):H l=none:=by
 cases q:H l with
 |none=>rfl
 |some o=>rw[e _ _ q]at h;cases h
theorem tell_nodup(h:(p.nms.map ToldM.name).Nodup):(tellN p).Nodup:=List.Nodup.sublist (List.Sublist.map _ List.filter_sublist) h
theorem own_look(e:ms.map (λm=>(m.name,m.a,m.b,m.c))=(p.nms.filter λn=>decide (n.sort=Str.ofString "own")).map (λn=>(n.name,p.name,n.st,n.off)))(z:Str):(lookT ms z).isSome=ownHas p z:=by
 have e1:ms.map TabM.name=(p.nms.filter λn=>decide (n.sort=Str.ofString "own")).map ToldM.name:=by
  have h:=congrArg (List.map (·.1)) e
  rw[ya6,ya6]at h
  exact h
 have a:(lookT ms z).isSome=decide (z∈ms.map TabM.name):=by
  unfold lookT
  rw[ycb,List.find?_isSome,decide_eq_true_eq]
  constructor
  ·rintro⟨m,hm,q⟩
   exact yag.mpr ⟨m,hm,of_decide_eq_true q⟩
  ·intro h
   obtain⟨m,hm,q⟩:=yag.mp h
   exact⟨m,hm,decide_eq_true q⟩
 rw[a,e1]
 unfold ownHas
 rw[ycb,decide_eq_true_eq,ybm]
 constructor
 ·intro h
  obtain⟨n,hn,q⟩:=yag.mp h
  obtain⟨h1,h2⟩:=yb1.mp hn
  exact⟨n,h1,by rw[ya2];exact⟨decide_eq_true q,h2⟩⟩
 ·rintro⟨n,hn,q⟩
  rw[ya2]at q
  exact yag.mpr ⟨n,yb1.mpr ⟨hn,q.2⟩,of_decide_eq_true q.1⟩
theorem keysW(W:List Str):List.map (λx=>x.fst) (W.map wkv)=W.map Sum.inr:=by rw[ya6];rfl
theorem not_own(h:(!decide (V.str z=V.str (Str.ofString "own")))=true):z≠sOwn:=λe=>by
 rw[e]at h
 exact absurd h (by simp[sOwn])
theorem is_own(h:¬(!decide (V.str z=V.str (Str.ofString "own")))=true):z=sOwn:=by
 have q:V.str z=V.str (Str.ofString "own"):=by simpa using h
 injection q
theorem fills_snoc{p:PcM}{i:Nat}{st:StM}(h:p.sts[i]?=some st):fillsOf (p.sts.take (i+1))=fillsOf (p.sts.take i)++st.fills:=by
 unfold fillsOf
 rw[ya4,h,ybh]
 simp
theorem fills_le{p:PcM}(i:Nat):(fillsOf (p.sts.take i)).length<=(fillsOf p.sts).length:=by
 have h:fillsOf p.sts=fillsOf (p.sts.take i)++fillsOf (p.sts.drop i):=by
  unfold fillsOf
  rw[<-ybh,ycj]
 rw[h,yah];omega
theorem G_qzq(T:Txt K mg A):FnOk P w K mg base CX0 1 A.qzq A.fd_qzq ["piece", "told_by"] sp_places:=by
 refine T.F_qzq.ok sc_qzq (λvs H Q E h=>?_) (λcdv Ar outer s H vs Q E hr h=>?_)
 ·obtain⟨p,z,rfl,_⟩:=h
  rfl
 ·obtain⟨p,z,rfl,hp,hf,hd,k⟩:=h
  refine⟨_,(zz3 (ps_set (i:=2) sc_qzq.nd rfl (by walk_at "o") pe_dnewK) (zz3 (ps_for PassesOwn.never rfl (zz12 (K:=K) rfl (pe_ix (zz8 (K:=K) rfl) (pv 0) pe_int (λ_ _=>rfl))) (pg_tupK (K:=K) (n:=4) rfl rfl (zz7 (zz6 (i:=3) sc_qzq.nd rfl (by walk_at "o")) (zz7 (zz6 (i:=4) sc_qzq.nd rfl (by walk_at "o")) (zz7 (zz6 (i:=5) sc_qzq.nd rfl (by walk_at "o")) (zz7 (zz6 (i:=6) sc_qzq.nd rfl (by walk_at "o")) pgs_nil))))) (zz5 (ps_if (zz15 op_eq (pv 4) (pv 1) (nomark _)) (zz5 (ps_dput (hu_of hr) (pv 2) (pv 3) (pe_tup (zz0 (pe_ix (zz8 (K:=K) rfl) (pv 0) pe_int (λ_ _=>rfl)) (zz0 (pv 5) (zz0 (pv 6) pa_nil)))) rfl)) zz16))) (zz5 (ps_ret (pv 2))))),?_⟩
  walk_at "rd"
  intro d hdn
  refine⟨_,SqT.of (zz2 hdn _ _ hp.top),_,rfl,?_⟩
  refine ForL.of (xs:=p.nms.map ToldM.v) (λi σ H'=>∃ms b3 b4 b5 b6,σ=[some p.v,some (V.str z),some (V.ref d),b3,b4,b5,b6]/\Same H H'/\Tab H' d ms/\ms.map (λm=>(m.name,m.a,m.b,m.c))=((p.nms.take i).filter λn=>decide (n.sort=z)).map (λn=>(n.name,p.name,n.st,n.off)))
   ⟨[],_,_,_,_,rfl,zz2 hdn,⟨zz1,by simp⟩,rfl⟩ (λi σ H' _ ⟨_,_,_,_,_,_,sm,_⟩=>SqL.of (sm _ _ hp.nl)) ?_ ?_
  ·rintro i x σ H' hx ⟨ms,b3,b4,b5,b6,rfl,sm,tab,e⟩
   walk_at "0"
   obtain⟨n,hn,rfl⟩:=yao.mp hx
   have na:=sm _ _ (hp.ns n (yan hn))
   walk_at "2"
   have hnew:n.name∉ms.map TabM.name:=by
    have e1:ms.map TabM.name=((p.nms.take i).filter λn=>decide (n.sort=z)).map ToldM.name:=by
     have:=congrArg (List.map (·.1)) e
     rw[ya6,ya6]at this
     exact this
    rw[e1]
    intro h
    obtain⟨n',h1,h2⟩:=yag.mp h
    have h3:=(yb1.mp h1).1
    have nd:((p.nms.take (i+1)).map ToldM.name).Nodup:=List.Nodup.sublist (List.Sublist.map _ (List.take_sublist _ _)) hd
    rw[tk,yac]at nd
    exact(ya3.mp nd).2.2 n'.name (yag.mpr ⟨n',h3,rfl⟩) n.name (by simp) h2
   have hlen:ms.length<=61:=by
    have:=congrArg List.length e
    walk_at "3"
    have h1:=ybu (λn:ToldM=>decide (n.sort=z)) (p.nms.take i)
    have h2:=List.length_take_le i p.nms
    have h3:(p.nms.take i).length<=p.nms.length:=by rw[ybe];omega
    omega
   walk_at "rd"
   refine⟨_,SqT.of na,rfl,_,_,rfl,_,_,rfl,_,_,rfl,_,_,rfl,rfl,rfl,ite2 (λhz=>?_) (λhz=>?_)⟩
   ·have hz':n.sort=z:=by
     have:=of_decide_eq_true hz
     injection this
    refine⟨_,SqT.of (sm _ _ hp.top),_,rfl,by walk_at "s", λq hq=>⟨_,DPut.k (k:=Sum.inr n.name) (zz2 hq _ _ tab.top) (by rw[yaa,sizeLine_eq];omega),zz9 hdn (sm.trans (zz2 hq)),_,(tab.mono (zz2 hq)).put (m:=⟨n.name,q,p.name,n.st,n.off⟩) zz1,?_⟩⟩
    rw[putT_new hnew,yac,e,tk,ybv,yac]
    simp[hz']
   ·have hz':n.sort≠z:=λy=>hz (decide_eq_true (by rw[y]))
    refine⟨sm,ms,tab,?_⟩
    rw[tk,ybv,e]
    simp[hz']
  ·rintro σ H' ⟨ms,b3,b4,b5,b6,rfl,sm,tab,e⟩
   walk_at "4"
   walk_at "rd"
   exact k d ms H' sm tab e hdn
theorem G_tells(T:Txt K mg A):FnOk P w K mg base CX0 2 A.tells A.fd_tells ["piece"] sp_tells:=by
 refine T.F_tells.ok sc_tells (λvs H Q E h=>?_) (λcdv Ar outer s H vs Q E hr h=>?_)
 ·obtain⟨p,rfl,_⟩:=h
  rfl
 ·obtain⟨p,rfl,hp,hb,k⟩:=h
  refine⟨_,(zz5 (ps_ret (zz11 (call_sortedSK rfl (w:=w) rfl) (by rfl) T.n_sorted bt_sorted (zz0 (pe_callTy (call_setK rfl (w:=w) rfl (K:=K) rfl) (by rfl) T.n_set bt_set (zz0 (pe_comp (blk_mk (own:=["name", "sort", "stretch", "offset"]) (fr:=[]) (fm:=[]) rfl (by decide +kernel) (by decide +kernel) (by decide +kernel) .nil) rfl (zz12 (K:=K) rfl (pe_ix (zz8 (K:=K) rfl) (pv 0) pe_int (λ_ _=>rfl))) (λ_ _ _=>⟨(pg_tupK (K:=K) (n:=4) rfl rfl (zz7 (zz6 (i:=0) (by show List.Nodup (["name", "sort", "stretch", "offset"]:List Str);decide +kernel) rfl (by walk_at "o")) (zz7 (zz6 (i:=1) (by show List.Nodup (["name", "sort", "stretch", "offset"]:List Str);decide +kernel) rfl (by walk_at "o")) (zz7 (zz6 (i:=2) (by show List.Nodup (["name", "sort", "stretch", "offset"]:List Str);decide +kernel) rfl (by walk_at "o")) (zz7 (zz6 (i:=3) (by show List.Nodup (["name", "sort", "stretch", "offset"]:List Str);decide +kernel) rfl (by walk_at "o")) pgs_nil))))),(pts_one (zz15 op_ne (pv 1) pe_str (nomark _))),(pv 0)⟩)) pa_nil)) pa_nil)))),?_⟩
  walk_at "rd"
  refine⟨_,SqT.of hp.top,_,rfl,?_⟩
  refine CompL.of (xs:=p.nms.map ToldM.v) (by rw[yaa,sizeLine_eq];have:=hb.nm;omega) (SqL.of hp.nl) (λD i ys H'=>Same H H'/\H' D=some (.lst ys)/\ys=(((p.nms.take i).filter λn=>decide (n.sort≠sOwn)).map ToldM.name).map V.str)
   (λD hD=>⟨zz2 hD,zz1,rfl⟩) ?_ ?_ ?_
  ·rintro D i ys H' hD hi ⟨sm,hDD,e⟩
   refine⟨sm.seq (SqL.of hp.nl),hDD,?_⟩
   rw[e,yaa,yaa]
   exact yay (ybu _ _) (by rw[ybe];omega)
  ·rintro D i x ys H' hD hx ⟨sm,hDD,e⟩
   walk_at "0"
   obtain⟨n,hn,rfl⟩:=yao.mp hx
   have na:=sm _ _ (hp.ns n (yan hn))
   walk_at "2"
   walk_at "rd"
   refine⟨_,SqT.of na,rfl,_,_,rfl,_,_,rfl,_,_,rfl,_,_,rfl,rfl,.no (.no (.no (.no .nil))),rfl,ite2 (λh=>?_) (λh=>?_)⟩
   ·have hz:=not_own h
    refine⟨hDD,zz9 hD sm,zz1,?_⟩
    rw[e,tk,ybv,yac,yac]
    simp[hz]
   ·have hz:=is_own h
    refine⟨sm,hDD,?_⟩
    rw[e,tk,ybv]
    simp[hz]
  ·rintro D ys H' hD ⟨sm,hDD,e⟩
   walk_at "4"
   have hle:(tellN p).length<=61:=by
    unfold tellN
    rw[yaa]
    exact yay (ybu _ _) hb.nm
   refine⟨D,rfl,tellN p,SqL.of (by rw[hDD,e];rfl),by omega,λq L hq nd hL hm=>⟨L,zz1,by omega,λl ss hl pm pw=>?_⟩⟩
   have s2:=sm.trans (zz2 (o:=SetV w L q) hq)
   exact k l _ (s2.trans (zz2 hl)) ⟨ss,pm.trans (nodup_perm nd (tell_nodup hb.nd) hm),pw,zz1⟩ (same_no s2 hl)
theorem G_wants(T:Txt K mg A):FnOk P w K mg base CX0 2 A.wants A.fd_wants ["piece"] sp_wants:=by
 refine T.F_wants.ok sc_wants (λvs H Q E h=>?_) (λcdv Ar outer s H vs Q E hr h=>?_)
 ·obtain⟨p,rfl,_⟩:=h
  rfl
 ·obtain⟨p,rfl,hp,hb,k⟩:=h
  refine⟨_,(zz3 (ps_set (i:=1) sc_wants.nd rfl (by walk_at "o") (zz10 (G_qzq T) (hr.mono (by decide)) rfl T.m_qzq T.k_qzq T.b_qzq .nil pass0 (zz0 (pv 0) (zz0 pe_str pa_nil)))) (zz3 (ps_set (i:=2) sc_wants.nd rfl (by walk_at "o") pe_dnewK) (zz3 (ps_for PassesOwn.never rfl (zz12 (K:=K) rfl (pe_ix (zz8 (K:=K) rfl) (pv 0) pe_int (λ_ _=>rfl))) (pg_tupK (K:=K) (n:=4) rfl rfl (zz7 (zz6 (i:=3) sc_wants.nd rfl (by walk_at "o")) (zz7 (zz6 (i:=4) sc_wants.nd rfl (by walk_at "o")) (zz7 (zz6 (i:=5) sc_wants.nd rfl (by walk_at "o")) (zz7 (zz6 (i:=6) sc_wants.nd rfl (by walk_at "o")) pgs_nil))))) (zz5 (ps_for PassesOwn.never rfl (zz12 (K:=K) rfl (pv 6)) (pg_tupK (K:=K) (n:=5) rfl rfl (zz7 (zz6 (i:=7) sc_wants.nd rfl (by walk_at "o")) (zz7 (zz6 (i:=8) sc_wants.nd rfl (by walk_at "o")) (zz7 (zz6 (i:=9) sc_wants.nd rfl (by walk_at "o")) (zz7 (zz6 (i:=10) sc_wants.nd rfl (by walk_at "o")) (zz7 (zz6 (i:=11) sc_wants.nd rfl (by walk_at "o")) pgs_nil)))))) (zz5 (ps_if (PW.pt (pw_and (pt_not (pt_val (pv 11))) (pw_and1 (pt_cmp (pc_dnotin (hu_of hr) (pv 9) (pv 1)))))) (zz5 (ps_dput (hu_of hr) (pv 2) (pv 9) pe_bl rfl)) zz16))))) (zz5 (ps_ret (zz11 (call_sortedD rfl) (by rfl) T.n_sorted bt_sorted (zz0 (pv 2) pa_nil))))))),?_⟩
  walk_at "rd"
  refine⟨p,rfl,hp,hb.nm,hb.nd,λdO ms H1 s1 tab eo hdO d hd=>⟨_,SqT.of (zz2 hd _ _ (s1 _ _ hp.top)),_,rfl,?_⟩⟩
  have p1:=hp.mono s1
  refine ForL.of (xs:=p.sts.map StM.v) (λi σ H'=>∃b3 b4 b5 b6 b7 b8 b9 b10 b11,σ=[some p.v,some (V.ref dO),some (V.ref d),b3,b4,b5,b6,b7,b8,b9,b10,b11]/\Same H1 H'/\H' d=some (.dK (((fillsOf (p.sts.take i)).foldl (wAdd p) []).map wkv)))
   ⟨_,_,_,_,_,_,_,_,_,rfl,zz2 hd,zz1⟩ (λi σ H' _ ⟨_,_,_,_,_,_,_,_,_,_,sm,_⟩=>SqL.of (sm _ _ p1.sl)) ?_ ?_
  ·rintro i x σ H' hx ⟨b3,b4,b5,b6,b7,b8,b9,b10,b11,rfl,sm,hd'⟩
   walk_at "0"
   obtain⟨st,hst,rfl⟩:=yao.mp hx
   have sa0:=p1.ss st (yan hst)
   have sa:=sa0.mono sm
   have tk:=fills_snoc hst
   have bd:=fills_le (p:=p) (i+1)
   have bd2:=hb.fl
   rw[tk,yah]at bd
   walk_at "rd"
   refine⟨_,SqT.of sa.top,rfl,_,_,rfl,_,_,rfl,_,_,rfl,_,_,rfl,rfl,?_⟩
   refine ForL.of (xs:=st.fills.map FillM.v) (λj σ H2=>∃b7 b8 b9 b10 b11,σ=[some p.v,some (V.ref dO),some (V.ref d),some (V.str st.kind),some (V.int st.step),some (V.ref st.lw),some (V.ref st.lf),b7,b8,b9,b10,b11]/\Same H1 H2/\H2 d=some (.dK (((fillsOf (p.sts.take i)++st.fills.take j).foldl (wAdd p) []).map wkv)))
    ⟨_,_,_,_,_,rfl,sm,by rw[hd'];simp⟩ (λj σ H' _ ⟨_,_,_,_,_,_,sm,_⟩=>SqL.of (sm _ _ sa0.fl)) ?_ ?_
   ·rintro j x σ H2 hx ⟨b7,b8,b9,b10,b11,rfl,sm2,hd2⟩
    walk_at "0"
    obtain⟨f,hf,rfl⟩:=yao.mp hx
    have fa:=sm2 _ _ (sa0.fs f (yan hf))
    have tb:=tab.mono sm2
    have hj:j<st.fills.length:=(yam.mp hf).1
    have gO:DGet H2 dO (V.str f.name) ((lookT ms f.name).map λm=>V.ref m.t):=by rw[<-valT];exact DGet.k (k:=Sum.inr f.name) tb.top
    walk_at "5"
    have ow:=own_look eo f.name
    have flen:((fillsOf (p.sts.take i)++st.fills.take j).foldl (wAdd p) []).length<=61:=by
     have h1:=fold_len p (fillsOf (p.sts.take i)++st.fills.take j) []
     rw[yah,ybe,List.length_nil]at h1
     omega
    have step:(fillsOf (p.sts.take i)++st.fills.take (j+1)).foldl (wAdd p) []=wAdd p ((fillsOf (p.sts.take i)++st.fills.take j).foldl (wAdd p) []) f:=by rw[tj,List.foldl_append];rfl
    walk_at "rd"
    refine⟨_,SqT.of fa,rfl,_,_,rfl,_,_,rfl,_,_,rfl,_,_,rfl,_,_,rfl,rfl,_,rfl,ite2 (λh1=>⟨_,gO,ite2 (λh2=>?_) (λh2=>?_)⟩) (λh1=>?_)⟩
    ·rw[yca,ow]at h2
     refine⟨_,DPut.k (k:=Sum.inr f.name) hd2 (by rw[yaa,sizeLine_eq];omega),zz9 hd sm2,?_⟩
     rw[zz1,putW,step,wAdd_yes (by rw[h1,h2];rfl)]
    ·rw[yca,ow]at h2
     refine⟨sm2,?_⟩
     rw[hd2,step]
     rw[wAdd_no (by rw[ya2];exact λz=>h2 z.2)]
    ·refine⟨sm2,?_⟩
     rw[hd2,step]
     rw[wAdd_no (by rw[ya2];exact λz=>h1 z.1)]
   ·rintro σ H2 ⟨b7,b8,b9,b10,b11,rfl,sm2,hd2⟩
    rw[yaa,ya0]at hd2
    exact⟨_,_,_,_,_,_,_,_,_,rfl,sm2,by rw[hd2,tk]⟩
  ·rintro σ H' ⟨b3,b4,b5,b6,b7,b8,b9,b10,b11,rfl,sm,hd'⟩
   rw[yaa,ya0]at hd'
   have hle:(wantN p).length<=61:=yay (fold_len p _ []) (by have:=hb.fl;simpa using this)
   walk_at "rd"
   have s2:=s1.trans sm
   exact⟨_,hd',wantN p,keysW _,by omega,λl ss hl pm pw=>k l _ (s2.trans (zz2 hl)) ⟨ss,pm,pw,zz1⟩ (same_no s2 hl)⟩
theorem sgn_inj(h0:0<=i)(h1:i<37)(g0:0<=j)(g1:j<37)(e:sgn i=sgn j):i=j:=by
 obtain⟨m,rfl⟩:=yb4 h0
 obtain⟨n,rfl⟩:=yb4 g0
 have hm:m<37:=by omega
 have hn:n<37:=by omega
 have:∀a:Nat,a<37->∀b:Nat,b<37->sgn (a:Int)=sgn (b:Int)->a=b:=by decide +kernel
 rw[this m hm n hn e]
theorem nameOf_inj(h0:0<=k)(h1:k<16)(g0:0<=k')(g1:k'<16)(e:nameOf t k=nameOf t k'):k=k':=by
 unfold nameOf at e
 by_cases hc:t / 256 % 3=0
 ·have l:=congrArg Str.length e
  rw[nmTo_len,nmTo_len]at l
  unfold nmSize at l
  rw[if_pos hc,if_pos hc]at l
  omega
 ·unfold nmSize at e
  rw[if_neg hc,if_neg hc]at e
  have a0:0<=t / 16 % (1+t % 16):=Int.emod_nonneg _ (by omega)
  have a1:t / 16 % (1+t % 16)<1+t % 16:=Int.emod_lt_of_pos _ (by omega)
  have ea:nmAt t=t / 16 % (1+t % 16):=by unfold nmAt;rw[if_neg hc]
  obtain⟨j,ej⟩:=yb4 a0
  have hj:j<(1+t % 16).toNat:=by omega
  have e1:=congrArg (λz:Str=>z.cps.toList[j]?) e
  have get:∀k:Int,(nmTo t k (1+t % 16).toNat).cps.toList[j]?=some (sgn (nmIx t k j)):=λk=>by
   unfold nmTo
   simp[hj]
  have e2:sgn (nmIx t k j)=sgn (nmIx t k' j):=by
   have e1:(nmTo t k (1+t % 16).toNat).cps.toList[j]?=(nmTo t k' (1+t % 16).toNat).cps.toList[j]?:=e1
   rw[get,get]at e1
   exact Option.some.inj e1
  have e3:=sgn_inj (nmIx_lo t k j).1 (nmIx_lo t k j).2 (nmIx_lo t k' j).1 (nmIx_lo t k' j).2 e2
  unfold nmIx at e3
  rw[decide_eq_true (show(j:Int)=nmAt t by rw[ea,ej])]at e3
  simp only[if_true,Int.mul_one]at e3
  generalize t / ((j:Int)+3)+(j:Int) * (j:Int)=y at e3
  by_cases hj0:(j:Int)=0
  ·rw[decide_eq_true hj0]at e3
   simp at e3
   omega
  ·rw[decide_eq_false hj0]at e3
   simp at e3
   omega
theorem range_nd:∀n:Nat,n<=12->(((List.range n).map λi:Nat=>nameOf t i)++[nameOf t 14]).Nodup:=λn hn=>by
 rw[ya3]
 refine⟨?_,by simp,λx hx y hy e=>?_⟩
 ·rw[List.Nodup,List.pairwise_map]
  refine List.Pairwise.imp_of_mem (λ{a b} ha hb hne e=>hne ?_) (List.nodup_range (n:=n))
  have:=nameOf_inj (k:=(a:Int)) (k':=(b:Int)) (by omega) (by have:=ycf.mp ha;omega) (by omega) (by have:=ycf.mp hb;omega) e
  omega
 ·obtain⟨i,hi,rfl⟩:=yag.mp hx
  rw[yae.mp hy]at e
  have:=nameOf_inj (k:=(i:Int)) (k':=14) (by omega) (by have:=ycf.mp hi;omega) (by omega) (by omega) e
  have:=ycf.mp hi
  omega
theorem sum_mem{l:List Nat}{x:Nat}(h:x∈l):x<=l.sum:=by
 induction l with
 |nil=>cases h
 |cons a l ih=>
  rw[List.sum_cons]
  rcases yau.mp h with e|e
  ·omega
  ·have:=ih e
   omega
theorem Drawn.pc(d:Drawn c t n ps)(h:p∈ps):(p.name.length<=16/\Sg p.name)/\p.nms.length<=n/\p.sts.length<=n/\∀s∈p.sts,s.words.length<=n/\s.fills.length<=n:=by
 have h1:p.size<=n:=yay (sum_mem (yag.mpr ⟨p,h,rfl⟩)) d.size
 have h2:p.name∈(List.range ps.length).map λi:Nat=>nameOf t i:=by rw[<-d.names];exact yag.mpr ⟨p,h,rfl⟩
 obtain⟨i,_,e⟩:=yag.mp h2
 unfold PcM.size at h1
 refine⟨by rw[<-e];exact nameOf_ok t i (Int.natCast_nonneg i),by omega,by omega,λs hs=>?_⟩
 have h3:=sum_mem (yag.mpr ⟨s,hs,rfl⟩:s.words.length∈p.sts.map λs=>s.words.length)
 have h4:=((d.ok p h).sts s hs).few
 exact⟨by omega,by omega⟩
theorem fills_sum:∀{ss:List StM},(∀s∈ss,s.fills.length<=s.words.length)->(fillsOf ss).length<=(ss.map λs=>s.words.length).sum
 |[],_=>yap _
 |s::ss,h=>by
  have h1:=fills_sum (ss:=ss) λr hr=>h r (.tail _ hr)
  have h2:=h s (.head _)
  unfold fillsOf at h1 ⊢
  rw[yc0,yah,ybg,List.sum_cons]
  omega
theorem Drawn.bnd(d:Drawn c t n ps)(hn:n<=61)(h:p∈ps):PcB p:=by
 have h1:p.size<=n:=yay (sum_mem (yag.mpr ⟨p,h,rfl⟩)) d.size
 obtain⟨_,h2,h3,h4⟩:=d.pc h
 have h5:=fills_sum λs hs=>((d.ok p h).sts s hs).few
 unfold PcM.size at h1
 exact⟨by omega,by omega,λs hs=>⟨yay (h4 s hs).1 hn,yay (h4 s hs).2 hn⟩,by omega,(d.ok p h).nd⟩
theorem tell_le(b:PcB p):(tellN p).length<=61:=by
 unfold tellN
 rw[yaa]
 exact yay (ybu _ _) b.nm
theorem want_le(b:PcB p):(wantN p).length<=61:=yay (fold_len p _ []) (by have:=b.fl;simpa using this)
theorem G_qqk(T:Txt K mg A):FnOk P w K mg base CX0 1 A.qqk A.fd_qqk ["self", "name", "piece"] (sp_uinit A):=by
 refine T.F_qqk.ok sc_qqk (λvs H Q E h=>?_) (λcdv Ar outer s H vs Q E hr h=>?_)
 ·obtain⟨a,n,p,rfl,_⟩:=h
  rfl
 ·obtain⟨a,n,p,rfl,ha,hn,hp,k⟩:=h
  refine⟨_,(zz3 (zz20 (pe_xinit rfl T.mc_qyw T.bi_qyw (zz0 (pv 0) (zz0 (pe_joined (pj_cons (pe_repr (pv 1)) (pj_cons pe_str (pj_cons (pe_repr (pv 2)) pj_nil)))) pa_nil)))) (zz3 (ps_xfld (pv 0) (pv 1) rfl) (zz5 (ps_xfld (pv 0) (pv 2) rfl)))),?_⟩
  walk_at "rd"
  have l1:=repr_le hn.2 hn.1
  have l2:=repr_le hp.2 hp.1
  have l0:Str.empty.length=0:=rfl
  have l3:(Str.ofString " is told by no piece, wanted by ").length=32:=by decide +kernel
  have sz:∀m:Nat,m<=400->m<=sizeLine:=λm h=>by rw[sizeLine_eq];omega
  have e:putF (Str.ofString "piece") (V.str p) [(Str.ofString "name", V.str n)]=[(Str.ofString "name", V.str n),(Str.ofString "piece", V.str p)]:=by
   show(if Str.ofString "name" = Str.ofString "piece" then _ else _)=_
   rw[if_neg (by decide)]
   rfl
  refine⟨sz _ (by omega),sz _ (by rw[slen];omega),sz _ (by rw[slen,slen];omega),sz _ (by omega),sz _ (by rw[slen,slen,slen];omega),sz _ (by rw[slen,slen,slen];omega),A.c_qxj,none,ha,A.qqk,T.er_qxj,sz _ (by decide),A.c_qxj,A.qqk,none,ha,T.er_qxj,T.no_qxj_name,.inl ⟨rfl,λd hd=>?_⟩⟩
  have hne:d≠a:=Ne.symm (zz4 ha hd)
  have hD:upd (upd H d (XD d [(Str.ofString "name", V.str n)])) a (XN a A.c_qxj (some d)) d=some (XD d [(Str.ofString "name", V.str n)]):=by rw[upd_ne hne,zz1]
  refine⟨A.c_qxj,A.qqk,some d,zz1,T.er_qxj,T.no_qxj_piece,.inr ⟨d,rfl,_,hD,by simp,?_⟩⟩
  rw[e]
  refine k d _ hd hne (λb o hb q=>?_) ?_ zz1
  ·have hbd:=zz4 q hd
   rw[upd_ne hbd,upd_ne hb,upd_ne hbd];exact q
  ·rw[upd_ne (Ne.symm hne),zz1]
theorem tell_mem:z∈tellN p↔tellBC z (pcE p)=true:=by
 unfold tellN tellBC pcE
 simp only[List.any_map,List.any_eq_true,List.mem_map,List.mem_filter]
 constructor
 ·rintro⟨n,⟨h1,h2⟩,rfl⟩
  have h2:n.sort≠sOwn:=of_decide_eq_true h2
  refine⟨n,h1,?_⟩
  show(decide (n.name=n.name) && !decide (n.sort=sOwn))=true
  rw[decide_eq_true rfl,decide_eq_false h2];rfl
 ·rintro⟨n,h1,h2⟩
  have h2:(decide (n.name=z) && !decide (n.sort=sOwn))=true:=h2
  rw[ya2,Bool.not_eq_true',decide_eq_false_iff_not]at h2
  exact⟨n,⟨h1,decide_eq_true h2.2⟩,of_decide_eq_true h2.1⟩
def WantP(p:PcM)(z:Str):Prop:=∃f∈fillsOf p.sts,(!f.soft && !ownHas p f.name)=true/\f.name=z
theorem own_core(p:PcM)(z:Str):ownBC z (pcE p)=ownHas p z:=by
 unfold ownBC ownHas pcE
 rw[ycw];rfl
theorem want_core:WantP p z↔wantBC z (pcE p)=true:=by
 unfold WantP wantBC
 rw[own_core,ya2]
 have e:(pcE p).2.2=p.sts.map StM.e:=rfl
 rw[e,ycw,ybm]
 constructor
 ·rintro⟨f,hf,h,rfl⟩
  obtain⟨s,hs,hf⟩:=yav.mp hf
  rw[ya2]at h
  exact⟨h.2,s,hs,ybm.mpr ⟨FillM.e f,yag.mpr ⟨f,hf,rfl⟩,by rw[ya2];exact⟨decide_eq_true rfl,h.1⟩⟩⟩
 ·rintro⟨h0,s,hs,h⟩
  obtain⟨g,hg,h⟩:=ybm.mp h
  obtain⟨f,hf,rfl⟩:=yag.mp hg
  rw[ya2]at h
  have hn:f.name=z:=of_decide_eq_true h.1
  exact⟨f,yav.mpr ⟨s,hs,hf⟩,by rw[ya2,hn];exact⟨h.2,h0⟩,hn⟩
theorem addW_mem:z∈addW W y↔z∈W\/z=y:=by
 unfold addW
 split
 ·rename_i h
  exact⟨.inl,λq=>q.elim id λe=>e▸h⟩
 ·simp
theorem fold_mem(p:PcM){z:Str}:∀(fs:List FillM) (W:List Str),z∈fs.foldl (wAdd p) W↔z∈W\/∃f∈fs,(!f.soft && !ownHas p f.name)=true/\f.name=z
 |[],W=>by simp
 |f::fs,W=>by
  rw[List.foldl_cons,fold_mem p fs]
  by_cases h:(!f.soft && !ownHas p f.name)=true
  ·rw[wAdd_yes h,addW_mem]
   constructor
   ·rintro ((q|q)|⟨g,hg,q⟩)
    ·exact .inl q
    ·exact .inr ⟨f,ya5,h,q.symm⟩
    ·exact .inr ⟨g,yaw _ hg,q⟩
   ·rintro (q|⟨g,hg,q⟩)
    ·exact .inl (.inl q)
    ·rcases yau.mp hg with e|e
     ·exact .inl (.inr (by rw[<-q.2,e]))
     ·exact .inr ⟨g,e,q⟩
  ·rw[wAdd_no h]
   constructor
   ·rintro (q|⟨g,hg,q⟩)
    ·exact .inl q
    ·exact .inr ⟨g,yaw _ hg,q⟩
   ·rintro (q|⟨g,hg,q⟩)
    ·exact .inl q
    ·rcases yau.mp hg with e|e
     ·rw[e]at q;exact absurd q.1 h
     ·exact .inr ⟨g,e,q⟩
theorem want_mem:z∈wantN p↔wantBC z (pcE p)=true:=by
 rw[<-want_core]
 unfold wantN
 rw[fold_mem]
 simp[WantP]
theorem first_map(ps:List PcM)(z:Str):firstC (ps.map pcE) z=(firstN ps z).map pcE:=by
 unfold firstC firstN
 rw[List.find?_map];rfl
theorem lt_l(s:SameLT H H'){b:Addr}{xs:List V}(h:H b=some (.lst xs)):H' b=some (.lst xs):=s b _ (.inl ⟨_,rfl⟩) h
theorem lt_t(s:SameLT H H'){b:Addr}{xs:List V}(h:H b=some (.tup xs)):H' b=some (.tup xs):=s b _ (.inr ⟨_,rfl⟩) h
theorem at_lt(s:SameLT H H'){p:PcM}(q:p.At H):p.At H':=
 ⟨lt_t s q.top,lt_l s q.sl,lt_l s q.nl,λst hs=>have y:=q.ss st hs;⟨lt_t s y.top,lt_l s y.wd,lt_l s y.fl,λf hf=>lt_t s (y.fs f hf)⟩,λn hn=>lt_t s (q.ns n hn)⟩
theorem pl_lt(s:SameLT H H')(h:PL H L ps):PL H' L ps:=⟨lt_l s h.top,λp hp=>at_lt s (h.at_ p hp)⟩
theorem lt_ne(hx:H x=some u)(n:(∀xs,u≠.lst xs)/\∀xs,u≠.tup xs)(s:∀b o,b≠x->H b=some o->H' b=some o):SameLT H H':=λb o h e=>s b o (λq=>by
 rw[q,hx]at e
 have e:=Option.some.inj e
 rcases h with ⟨xs,h⟩|⟨xs,h⟩
 ·exact n.1 xs (e.trans h)
 ·exact n.2 xs (e.trans h)) e
theorem pl_mono(h:PL H L ps)(s:Same H H'):PL H' L ps:=⟨s _ _ h.top,λp hp=>(h.at_ p hp).mono s⟩
theorem zz18(h:Shv H S xs)(s:Same H H'):Shv H' S xs:=⟨s _ _ h.top,λx hx=>pl_mono (h.at_ x hx) s⟩
theorem flat_take{xs:List (Addr×List PcM)}{i:Nat}{x:Addr×List PcM}(h:xs[i]?=some x):flat (xs.take (i+1))=flat (xs.take i)++x.2:=by
 unfold flat
 rw[ya4,h,ybh]
 simp
theorem flat_le(xs:List (Addr×List PcM))(i:Nat):(flat (xs.take i)).length<=(flat xs).length:=by
 have h:flat xs=flat (xs.take i)++flat (xs.drop i):=by
  unfold flat
  rw[<-ybh,ycj]
 rw[h,yah];omega
theorem G_qyy(T:Txt K mg A):FnOk P w K mg base CX0 1 A.qyy A.fd_qyy ["shelves"] sp_on:=by
 refine T.F_qyy.ok sc_qyy (λvs H Q E h=>?_) (λcdv Ar outer s H vs Q E hr h=>?_)
 ·obtain⟨S,xs,rfl,_⟩:=h
  rfl
 ·obtain⟨S,xs,rfl,hS,hl,k⟩:=h
  refine⟨_,(zz3 (ps_set (i:=1) sc_qyy.nd rfl (by walk_at "o") (pe_lst pa_nil)) (zz3 (ps_for PassesOwn.never rfl (zz12 (K:=K) rfl (pv 0)) (zz6 (i:=2) sc_qyy.nd rfl (by walk_at "o")) (zz5 (zz20 (pe_bm PySem.F.plainAttrs_list PySem.F.slot_list_extend PySem.F.type_list_extend mt_extend (pv 1) (zz0 (pv 2) pa_nil))))) (zz5 (ps_ret (pv 1))))),?_⟩
  walk_at "rd"
  refine⟨ya1 _,λl hn=>?_⟩
  refine ForL.of (xs:=xs.map λx=>V.ref x.1) (λi σ H'=>∃b2:Option V,σ=[some (.ref S),some (.ref l),b2]/\Same H H'/\H' l=some (.lst ((flat (xs.take i)).map PcM.v)))
   ⟨_,rfl,zz2 hn,zz1⟩ ?_ ?_ ?_
  ·rintro i σ H' hi ⟨b2,rfl,s1,_⟩
   exact SqL.of (s1 _ _ hS.top)
  ·rintro i v σ H' hv ⟨b2,rfl,s1,h1⟩
   walk_at "6"
   obtain⟨x,hx,rfl⟩:=yao.mp hv
   have hm:=yan hx
   have px:=s1 _ _ (hS.at_ x hm).top
   have tk:=flat_take hx
   have fl:=flat_le xs (i+1)
   rw[tk,yah]at fl
   walk_at "rd"
   refine⟨.inl ⟨rfl,_,SqL.of h1⟩,l,x.1,_,_,rfl,rfl,h1,px,by rw[yaa,yaa,sizeLine_eq];omega,zz9 hn s1,?_⟩
   rw[zz1,tk,yac]
  ·rintro σ H' ⟨b2,rfl,s1,h1⟩
   walk_at "rd"
   rw[yaa,ya0]at h1
   exact k l H' s1 hn h1
theorem valW_no{W:List Str}{z:Str}(h:z∉W):valV (W.map wkv) (.inr z)=none:=by
 cases q:valV (W.map wkv) (.inr z) with
 |none=>rfl
 |some v=>
  have a:=valV_any (.inr z:Key) (W.map wkv)
  rw[q]at a
  obtain⟨x,hx,e⟩:=ybm.mp (a.trans rfl)
  obtain⟨y,hy,rfl⟩:=yag.mp hx
  exact absurd (Sum.inr.inj (of_decide_eq_true e:(Sum.inr y:Key)=Sum.inr z)▸hy) h
theorem valW_yes{W:List Str}{z:Str}(h:z∈W):valV (W.map wkv) (.inr z)=some (.bl true):=by
 have a:=valV_any (.inr z:Key) (W.map wkv)
 have b:((W.map wkv).any λkv=>decide (kv.1=(.inr z:Key)))=true:=ybm.mpr ⟨wkv z,yag.mpr ⟨z,h,rfl⟩,decide_eq_true rfl⟩
 rw[b]at a
 cases q:valV (W.map wkv) (.inr z) with
 |none=>rw[q]at a;cases a
 |some v=>
  unfold valV at q
  obtain⟨x,hx,e⟩:=yao.mp q
  obtain⟨y,hy,e2⟩:=yag.mp (ybs hx)
  rw[<-e,<-e2];rfl
theorem G_qqw(T:Txt K mg A):FnOk P w K mg base CX0 1 A.qqw A.fd_qqw ["self", "name"] (sp_sinit A):=by
 refine T.F_qqw.ok sc_qqw (λvs H Q E h=>?_) (λcdv Ar outer s H vs Q E hr h=>?_)
 ·obtain⟨a,n,rfl,_⟩:=h
  rfl
 ·obtain⟨a,n,rfl,ha,hn,k⟩:=h
  refine⟨_,(zz3 (zz20 (pe_xinit rfl T.mc_qyw T.bi_qyw (zz0 (pv 0) (zz0 (pe_joined (pj_cons pe_str (pj_cons (pe_repr (pv 1)) pj_nil))) pa_nil)))) (zz5 (ps_xfld (pv 0) (pv 1) rfl))),?_⟩
  walk_at "rd"
  have l1:=repr_le hn.2 hn.1
  have l0:Str.empty.length=0:=rfl
  have l3:(Str.ofString "two pieces are called ").length=22:=by decide +kernel
  have sz:∀m:Nat,m<=400->m<=sizeLine:=λm h=>by rw[sizeLine_eq];omega
  refine⟨sz _ (by rw[slen];omega),sz _ (by omega),sz _ (by rw[slen,slen];omega),sz _ (by rw[slen,slen];omega),A.c_qyk,none,ha,A.qqw,T.er_qyk,sz _ (by decide),A.c_qyk,A.qqw,none,ha,T.er_qyk,T.no_qyk_name,.inl ⟨rfl,λd hd=>?_⟩⟩
  have hne:d≠a:=Ne.symm (zz4 ha hd)
  refine k d _ hd hne (λb o hb q=>?_) zz1 ?_
  ·rw[upd_ne hb,upd_ne (zz4 q hd)];exact q
  ·rw[upd_ne hne,zz1]
theorem addW_in:z∈addW W y↔z∈W\/z=y:=by
 unfold addW
 split
 ·rename_i h
  exact⟨.inl,λq=>q.elim id λe=>e▸h⟩
 ·simp
theorem valW_no'{W:List Str}{z:Str}(h:z∉W):valV (W.map wkv) (.inr z)=none:=by
 cases q:valV (W.map wkv) (.inr z) with
 |none=>rfl
 |some v=>
  have a:=valV_any (.inr z:Key) (W.map wkv)
  rw[q]at a
  obtain⟨x,hx,e⟩:=ybm.mp (a.trans rfl)
  obtain⟨y,hy,rfl⟩:=yag.mp hx
  exact absurd (Sum.inr.inj (of_decide_eq_true e:(Sum.inr y:Key)=Sum.inr z)▸hy) h
theorem valW_yes'{W:List Str}{z:Str}(h:z∈W):(valV (W.map wkv) (.inr z)).isSome=true:=by
 rw[<-valV_any]
 exact ybm.mpr ⟨wkv z,yag.mpr ⟨z,h,rfl⟩,decide_eq_true rfl⟩
theorem dbl_snoc:Dbl (ns++[y]) z↔Dbl ns z\/(z=y/\y∈ns):=by
 constructor
 ·rintro⟨i,j,hij,hi,hj⟩
  by_cases h:j<ns.length
  ·rw[ya9 h]at hj
   rw[ya9 (by omega)]at hi
   exact .inl ⟨i,j,hij,hi,hj⟩
  ·have hj2:=(yam.mp hj).1
   rw[yah,yb2]at hj2
   have ej:j=ns.length:=by omega
   rw[ej,ybj (yap _),Nat.sub_self]at hj
   have ey:y=z:=Option.some.inj hj
   rw[ya9 (by omega)]at hi
   exact .inr ⟨ey.symm,by rw[ey];exact yan hi⟩
 ·rintro (⟨i,j,hij,hi,hj⟩|⟨rfl,h⟩)
  ·have a:=(yam.mp hi).1
   have b:=(yam.mp hj).1
   exact⟨i,j,hij,by rw[ya9 a];exact hi,by rw[ya9 b];exact hj⟩
  ·obtain⟨i,hi⟩:=yb3 h
   have a:=(yam.mp hi).1
   exact⟨i,ns.length,a,by rw[ya9 a];exact hi,by rw[ybj (yap _),Nat.sub_self];rfl⟩
theorem nd_dbl(h:∀z,¬Dbl ns z):ns.Nodup:=by
 rw[List.Nodup,yb0]
 intro i j hi hj hij e
 exact h ns[i] ⟨i,j,hij,yar hi,by rw[e];exact yar hj⟩
theorem G_qqz(T:Txt K mg A):FnOk P w K mg base (CXE P w) 3 A.qqz A.fd_qqz ["pieces"] (sp_refuseX A):=by
 refine T.F_qqz.okE sc_qqz (λvs H Q E h=>?_) (λcdv Ar outer s H vs Q E hr h=>?_)
 ·obtain⟨L,ps,rfl,_⟩:=h
  rfl
 ·obtain⟨L,ps,rfl,hP,hl,hs,k,kx⟩:=h
  refine⟨_,(zz3 (ps_set (i:=1) sc_qqz.nd rfl (by walk_at "o") pe_dnewK) (zz3 (ps_set (i:=2) sc_qqz.nd rfl (by walk_at "o") (pe_lst pa_nil)) (zz3 (PS.nox (ps_for PassesOwn.never rfl (zz12 (K:=K) rfl (pv 0)) (zz6 (i:=3) sc_qqz.nd rfl (by walk_at "o")) (zz3 (ps_if (pt_cmp (pc_din (hu_of hr) (pe_ix (zz8 (K:=K) rfl) (pv 3) pe_int (λ_ _=>rfl)) (pv 1))) (zz5 (zz20 (pe_bm PySem.F.plainAttrs_list PySem.F.slot_list_append PySem.F.type_list_append zz23 (pv 2) (zz0 (pe_ix (zz8 (K:=K) rfl) (pv 3) pe_int (λ_ _=>rfl)) pa_nil)))) zz16) (zz5 (ps_dput (hu_of hr) (pv 1) (pe_ix (zz8 (K:=K) rfl) (pv 3) pe_int (λ_ _=>rfl)) pe_bl rfl))))) (zz5 (ps_if (pt_truth (pv 2) (λ_=>rfl)) (zz5 (ps_raiseI (G_qqw T) (hr.mono (by decide)) T.b_qqw T.er_qyk rfl T.mc_qyk rfl xe_cx (zz0 (zz11 (call_minLK rfl (K:=K) rfl) (by rfl) T.n_min bt_min (zz0 (pv 2) pa_nil)) pa_nil))) zz16))))),?_⟩
  walk_at "rd"
  refine λd hd=>⟨ya1 _,λl hn=>?_⟩
  have s0:=(zz2 (o:=HO.dK []) hd).trans (zz2 (o:=HO.lst []) hn)
  have hln:H l=none:=(zz14 hn).2
  have nld:l≠d:=(zz14 hn).1
  refine ForL.of (xs:=ps.map PcM.v) (λi σ H'=>∃(b3:Option V) (W ag:List Str),σ=[some (.ref L),some (.ref d),some (.ref l),b3]/\Same H H'/\H' l=some (.lst (ag.map V.str))/\H' d=some (.dK (W.map wkv))/\W.length<=i/\ag.length<=i/\(∀z,z∈W↔z∈(ps.take i).map PcM.name)/\∀z,z∈ag↔Dbl ((ps.take i).map PcM.name) z)
   ⟨_,[],[],rfl,s0,zz1,by rw[upd_ne (Ne.symm nld),zz1];rfl,yap _,yap _,by simp,λz=>⟨(λh=>by cases h),(λ⟨i,j,_,h,_⟩=>by simp at h)⟩⟩ ?_ ?_ ?_
  ·rintro i σ H' hi ⟨b3,W,ag,rfl,s1,_⟩
   exact SqL.of (s1 _ _ hP.top)
  ·rintro i v σ H' hv ⟨b3,W,ag,rfl,s1,h1,h2,wl,al,wm,am⟩
   walk_at "6"
   walk_at "7"
   have hi:=(yam.mp hp).1
   have hm:=yan hp
   have pa:=s1 _ _ (hP.at_ p hm).top
   have tk:(ps.take (i+1)).map PcM.name=(ps.take i).map PcM.name++[p.name]:=by rw[ya4,hp,yac];rfl
   have g:=DGet.k (k:=Sum.inr p.name) h2
   have al2:=addW_len W p.name
   have wm2:∀z,z∈addW W p.name↔z∈(ps.take (i+1)).map PcM.name:=λz=>by rw[addW_in,tk,wm];simp
   walk_at "rd"
   refine⟨_,SqT.of pa,_,rfl,_,g,ite2 (λh=>?_) (λh=>?_)⟩
   ·have inW:p.name∈W:=by
     by_cases m:p.name∈W
     ·exact m
     ·rw[valW_no' m]at h;cases h
    have bt:But H' (upd H' l (HO.lst (ag.map V.str++[V.str p.name]))) l:=But.upd h1
    refine⟨.inl ⟨rfl,_,SqL.of h1⟩,_,SqT.of pa,_,rfl,_,h1,by rw[yaa,sizeLine_eq];omega,_,SqT.of (bt.tup pa),_,rfl,_,DPut.k (k:=Sum.inr p.name) (by rw[upd_ne (Ne.symm nld)];exact h2) (by rw[yaa,sizeLine_eq];omega),zz9 hd (zz9 hln s1),addW W p.name,ag++[p.name],by rw[upd_ne nld,zz1,yac];rfl,by rw[zz1,putW],by omega,by rw[yah];exact Nat.succ_le_succ al,wm2,λz=>?_⟩
    rw[tk,dbl_snoc,yai,am,yae]
    exact⟨λq=>q.imp id λe=>⟨e,(wm _).mp inW⟩,λq=>q.imp id λe=>e.1⟩
   ·have notW:p.name∉W:=λm=>h (valW_yes' m)
    refine⟨_,SqT.of pa,_,rfl,_,DPut.k (k:=Sum.inr p.name) h2 (by rw[yaa,sizeLine_eq];omega),zz9 hd s1,addW W p.name,ag,by rw[upd_ne nld];exact h1,by rw[zz1,putW],by omega,by omega,wm2,λz=>?_⟩
    rw[tk,dbl_snoc,am]
    exact⟨.inl,λq=>q.elim id λe=>absurd ((wm _).mpr e.2) notW⟩
  ·rintro σ H' ⟨b3,W,ag,rfl,s1,h1,h2,wl,al,wm,am⟩
   rw[yaa,ya0]at am
   walk_at "rd"
   refine⟨!(ag.map V.str).isEmpty,.inl ⟨_,SqL.of h1,rfl⟩,?_⟩
   cases ag with
   |nil=>
    rw[if_neg (by decide)]
    exact k (nd_dbl λz hz=>by have:=(am z).mpr hz;cases this) H' s1
   |cons z0 zr=>
    rw[if_pos (by rfl)]
    refine⟨z0::zr,SqL.of h1,by simp,λm hm hl=>⟨by rw[sizeLine_eq];decide,λx hx=>?_⟩⟩
    have dm:=(am m).mp hm
    have sm:m.length<=16/\Sg m:=by
     obtain⟨i,j,_,hi,_⟩:=id dm
     obtain⟨p,hp,e⟩:=yag.mp (yan hi)
     rw[<-e];exact hs p hp
    refine⟨zz1,sm.1,sm.2,λd2 H2 hd2 hne hk hx' hd'=>.inr ⟨d2,hne,hx',_,hd',kx m d2 _ (λb o q=>?_) dm (λz' hz'=>hl z' ((am z').mpr hz')) ?_⟩⟩
    ·have q2:=s1 _ _ q
     have hb:=zz4 q2 hx
     have hdn:=(zz14 hd2).2
     rw[del_ne hb,upd_ne (zz4 q2 hdn)]
     exact hk b o hb (by rw[upd_ne hb];exact q2)
    ·rw[del_ne hne,zz1];rfl
theorem G_qqv(T:Txt K mg A):FnOk P w K mg base CX0 3 A.qqv A.fd_qqv ["pieces"] sp_first:=by
 refine T.F_qqv.ok sc_qqv (λvs H Q E h=>?_) (λcdv Ar outer s H vs Q E hr h=>?_)
 ·obtain⟨L,ps,rfl,_⟩:=h
  rfl
 ·obtain⟨L,ps,rfl,hP,hl,hb,k⟩:=h
  refine⟨_,(zz3 (ps_set (i:=1) sc_qqv.nd rfl (by walk_at "o") pe_dnewK) (zz3 (ps_for PassesOwn.never rfl (zz12 (K:=K) rfl (pv 0)) (zz6 (i:=2) sc_qqv.nd rfl (by walk_at "o")) (zz5 (ps_for PassesOwn.never rfl (zz12 (K:=K) rfl (zz10 (G_tells T) (hr.mono (by decide)) rfl T.m_tells T.k_tells T.b_tells .nil pass0 (zz0 (pv 2) pa_nil))) (zz6 (i:=3) sc_qqv.nd rfl (by walk_at "o")) (zz5 (zz20 (pe_dsd (hu_of hr) (pv 1) (pv 3) (pv 2) ⟨rfl,rfl,rfl,rfl⟩)))))) (zz5 (ps_ret (pv 1))))),?_⟩
  walk_at "rd"
  intro d hd
  refine ForL.of (xs:=ps.map PcM.v) (λi σ H'=>∃(b2 b3:Option V) (kvs:List (Key×V)),σ=[some (.ref L),some (.ref d),b2,b3]/\Same H H'/\H' d=some (.dK kvs)/\kvs.length<=61 * i/\∀z,valV kvs (.inr z)=(firstN (ps.take i) z).map PcM.v)
   ⟨_,_,[],rfl,zz2 hd,zz1,by simp,λz=>rfl⟩ ?_ ?_ ?_
  ·rintro i σ H' hi ⟨b2,b3,kvs,rfl,s1,_⟩
   exact SqL.of (s1 _ _ hP.top)
  ·rintro i v σ H' hv ⟨b2,b3,kvs,rfl,s1,h1,hk,hz⟩
   walk_at "6"
   walk_at "7"
   have hm:=yan hp
   have hi:=(yam.mp hp).1
   have tk:ps.take (i+1)=ps.take i++[p]:=by rw[ya4,hp];rfl
   walk_at "rd"
   refine⟨p,rfl,(hP.at_ p hm).mono s1,hb p hm,λl H2 s2 ⟨ss,pm,pw,hl2⟩ hn=>?_⟩
   have sl:ss.length<=61:=by rw[pm.length_eq];exact tell_le (hb p hm)
   have nld:l≠d:=λe=>by rw[e,h1]at hn;cases hn
   refine ForL.of (xs:=ss.map V.str) (λj σ H3=>∃(b3:Option V) (kvs':List (Key×V)),σ=[some (.ref L),some (.ref d),some p.v,b3]/\Same H H3/\H3 l=some (.lst (ss.map V.str))/\H3 d=some (.dK kvs')/\kvs'.length<=kvs.length+j/\∀z,valV kvs' (.inr z)=((firstN (ps.take i) z).map PcM.v).or (if z∈ss.take j then some p.v else none))
    ⟨_,kvs,rfl,s1.trans s2,hl2,s2 _ _ h1,by omega,λz=>by rw[hz];simp⟩ ?_ ?_ ?_
   ·rintro j σ H3 hj ⟨b3,kvs',rfl,s3,h3,_⟩
    exact SqL.of h3
   ·rintro j v σ H3 hv ⟨b3,kvs',rfl,s3,h3,h4,hk',hz'⟩
    walk_at "6"
    obtain⟨y,hy,rfl⟩:=yao.mp hv
    have hj:=(yam.mp hy).1
    have tj:ss.take (j+1)=ss.take j++[y]:=by rw[ya4,hy];rfl
    walk_at "rd"
    have gd:=DGet.k (k:=Sum.inr y) h4
    refine⟨.inl ⟨_,.inl h4⟩,_,gd,_,DPut.k (k:=Sum.inr y) h4 (by rw[sizeLine_eq];omega),λv hv=>⟨s3,h3,kvs',h4,by omega,λz=>?_⟩,λhv=>⟨zz9 hd s3,by rw[upd_ne nld];exact h3,_,zz1,?_,λz=>?_⟩⟩
    ·rw[hz',tj]
     by_cases e:z=y
     ·rw[e]
      have hv:=(hz' y).symm.trans hv
      cases q:firstN (ps.take i) y with
      |some u=>simp
      |none=>
       rw[q]at hv
       have:y∈ss.take j:=by
        by_cases m:y∈ss.take j
        ·exact m
        ·rw[if_neg m]at hv;cases hv
       simp[this]
     ·simp[e]
    ·rw[putK_new _ hv,yah,yb2];omega
    ·rw[valV_put,hz',tj]
     by_cases e:z=y
     ·rw[e,if_pos rfl]
      have hv:=(hz' y).symm.trans hv
      cases q:firstN (ps.take i) y with
      |some u=>rw[q]at hv;cases hv
      |none=>simp
     ·rw[if_neg (λh=>e (Sum.inr.inj h))]
      simp[e]
   ·rintro σ H3 ⟨b3,kvs',rfl,s3,h3,h4,hk',hz'⟩
    rw[yaa,ya0]at hz'
    refine⟨_,_,rfl,s3,kvs',h4,by rw[yaa]at hk';omega,λz=>?_⟩
    have e:(z∈ss)=(tellBC z (pcE p)=true):=propext (pm.mem_iff.trans tell_mem)
    rw[hz',tk]
    unfold firstN
    rw[List.find?_append]
    cases q:(ps.take i).find? (λp=>tellBC z (pcE p)) with
    |some u=>simp
    |none=>
     by_cases t:tellBC z (pcE p)=true
     ·simp[e,t]
     ·simp[e,t]
  ·rintro σ H' ⟨b2,b3,kvs,rfl,s1,h1,hk,hz⟩
   rw[yaa,ya0]at hz
   walk_at "rd"
   exact k d H' s1 hd ⟨kvs,h1,hz⟩
theorem G_qwk(T:Txt K mg A):FnOk P w K mg base CX0 1 A.qwk A.fd_qwk ["fills"] sp_cfills:=by
 refine T.F_qwk.ok sc_qwk (λvs H Q E h=>?_) (λcdv Ar outer s H vs Q E hr h=>?_)
 ·obtain⟨l,fs,rfl,_⟩:=h
  rfl
 ·obtain⟨l,fs,rfl,hl,ha,hn,k⟩:=h
  refine⟨_,(zz5 (ps_ret (pe_comp (blk_mk (own:=["at", "rule", "name", "add", "soft"]) (fr:=[]) (fm:=[]) rfl (by decide +kernel) (by decide +kernel) (by decide +kernel) .nil) rfl (zz12 (K:=K) rfl (pv 0)) (λ_ _ _=>⟨(pg_tupK (K:=K) (n:=5) rfl rfl (zz7 (zz6 (i:=0) (by show List.Nodup (["at", "rule", "name", "add", "soft"]:List Str);decide +kernel) rfl (by walk_at "o")) (zz7 (zz6 (i:=1) (by show List.Nodup (["at", "rule", "name", "add", "soft"]:List Str);decide +kernel) rfl (by walk_at "o")) (zz7 (zz6 (i:=2) (by show List.Nodup (["at", "rule", "name", "add", "soft"]:List Str);decide +kernel) rfl (by walk_at "o")) (zz7 (zz6 (i:=3) (by show List.Nodup (["at", "rule", "name", "add", "soft"]:List Str);decide +kernel) rfl (by walk_at "o")) (zz7 (zz6 (i:=4) (by show List.Nodup (["at", "rule", "name", "add", "soft"]:List Str);decide +kernel) rfl (by walk_at "o")) pgs_nil)))))),pts_nil,(pe_tup (zz0 (pv 0) (zz0 (pv 1) (zz0 (pv 2) (zz0 (pv 3) (zz0 (pv 4) pa_nil))))))⟩)))),?_⟩
  walk_at "rd"
  refine CompL.of (xs:=fs.map FillM.v) (by rw[yaa,sizeLine_eq];omega) (SqL.of hl) (λD i ys H'=>∃gs:List FillM,ys=gs.map FillM.v/\Same H H'/\H' D=some (.lst ys)/\(∀g∈gs,FillM.At H' g)/\gs.map FillM.e=(fs.take i).map FillM.e)
   (λD hD=>⟨[],rfl,zz2 hD,zz1,(λq hq=>by cases hq),rfl⟩) ?_ ?_ ?_
  ·rintro D i ys H' hD hi ⟨gs,rfl,s1,hDD,ga,e⟩
   refine⟨SqL.of (s1 _ _ hl),hDD,?_⟩
   have:=congrArg List.length e
   walk_at "8"
   rw[yaa];omega
  ·rintro D i x ys H' hD hx ⟨gs,rfl,s1,hDD,ga,e⟩
   walk_at "0"
   obtain⟨f,hf,rfl⟩:=yao.mp hx
   have fa:=s1 _ _ (ha f (yan hf))
   walk_at "rd"
   refine⟨_,SqT.of fa,rfl,_,_,rfl,_,_,rfl,_,_,rfl,_,_,rfl,_,_,rfl,rfl,.no (.no (.no (.no (.no .nil)))),by walk_at "s", λq hq=>?_⟩
   have s2:=zz2 (o:=HO.tup [V.int f.at_,V.str f.rule,V.str f.name,V.int f.add,V.bl f.soft]) hq
   refine⟨s2 _ _ hDD,gs++[{ f with a:=q }],by simp,zz9 hD (s1.trans s2),zz1,λg hg=>?_,?_⟩
   ·have bt:But (upd H' q (HO.tup [V.int f.at_,V.str f.rule,V.str f.name,V.int f.add,V.bl f.soft])) (upd (upd H' q (HO.tup [V.int f.at_,V.str f.rule,V.str f.name,V.int f.add,V.bl f.soft])) D (HO.lst (gs.map FillM.v++[V.ref q]))) D:=But.upd (s2 _ _ hDD)
    rcases yai.mp hg with z|z
    ·exact FillM.At.but (FillM.At.mono (ga g z) s2) bt
    ·rw[yae.mp z]
     exact bt.tup zz1
   ·rw[yac,e,ya4,hf,yac];rfl
  ·rintro D ys H' hD ⟨gs,rfl,s1,hDD,ga,e⟩
   walk_at "4"
   exact k D gs H' s1 hD hDD ga e
theorem G_qwv(T:Txt K mg A):FnOk P w K mg base CX0 2 A.qwv A.fd_qwv ["piece"] sp_cpiece:=by
 refine T.F_qwv.ok sc_qwv (λvs H Q E h=>?_) (λcdv Ar outer s H vs Q E hr h=>?_)
 ·obtain⟨p,rfl,_⟩:=h
  rfl
 ·obtain⟨p,rfl,hp,b1,b2,b3,k⟩:=h
  refine⟨_,(zz3 (ps_setC (i:=1) sc_qwv.nd rfl (by walk_at "o") (blk_mk (own:=["kind", "step", "words", "fills"]) (fr:=[]) (fm:=[]) rfl (by decide +kernel) (by decide +kernel) (by decide +kernel) .nil) rfl (zz12 (K:=K) rfl (pe_ix (zz8 (K:=K) rfl) (pv 0) pe_int (λ_ _=>rfl))) (λ_ _ _=>⟨(pg_tupK (K:=K) (n:=4) rfl rfl (zz7 (zz6 (i:=0) (by show List.Nodup (["kind", "step", "words", "fills"]:List Str);decide +kernel) rfl (by walk_at "o")) (zz7 (zz6 (i:=1) (by show List.Nodup (["kind", "step", "words", "fills"]:List Str);decide +kernel) rfl (by walk_at "o")) (zz7 (zz6 (i:=2) (by show List.Nodup (["kind", "step", "words", "fills"]:List Str);decide +kernel) rfl (by walk_at "o")) (zz7 (zz6 (i:=3) (by show List.Nodup (["kind", "step", "words", "fills"]:List Str);decide +kernel) rfl (by walk_at "o")) pgs_nil))))),pts_nil,(pe_tup (zz0 (pv 0) (zz0 (pv 1) (zz0 (pe_callTy (zz27 (K:=K) rfl) (by rfl) T.n_list bt_list (zz0 (pv 2) pa_nil)) (zz0 (zz10 (G_qwk T) (hr.mono (by decide)) rfl T.m_qwk T.k_qwk T.b_qwk .nil pass0 (zz0 (pv 3) pa_nil)) pa_nil)))))⟩)) (zz3 (ps_setC (i:=2) sc_qwv.nd rfl (by walk_at "o") (blk_mk (own:=["name", "sort", "stretch", "offset"]) (fr:=[]) (fm:=[]) rfl (by decide +kernel) (by decide +kernel) (by decide +kernel) .nil) rfl (zz12 (K:=K) rfl (pe_ix (zz8 (K:=K) rfl) (pv 0) pe_int (λ_ _=>rfl))) (λ_ _ _=>⟨(pg_tupK (K:=K) (n:=4) rfl rfl (zz7 (zz6 (i:=0) (by show List.Nodup (["name", "sort", "stretch", "offset"]:List Str);decide +kernel) rfl (by walk_at "o")) (zz7 (zz6 (i:=1) (by show List.Nodup (["name", "sort", "stretch", "offset"]:List Str);decide +kernel) rfl (by walk_at "o")) (zz7 (zz6 (i:=2) (by show List.Nodup (["name", "sort", "stretch", "offset"]:List Str);decide +kernel) rfl (by walk_at "o")) (zz7 (zz6 (i:=3) (by show List.Nodup (["name", "sort", "stretch", "offset"]:List Str);decide +kernel) rfl (by walk_at "o")) pgs_nil))))),pts_nil,(pe_tup (zz0 (pv 0) (zz0 (pv 1) (zz0 (pv 2) (zz0 (pv 3) pa_nil)))))⟩)) (zz5 (ps_ret (pe_tup (zz0 (pe_ix (zz8 (K:=K) rfl) (pv 0) pe_int (λ_ _=>rfl)) (zz0 (pv 1) (zz0 (pv 2) pa_nil)))))))),?_⟩
  walk_at "rd"
  refine⟨_,SqT.of hp.top,_,rfl,?_⟩
  refine CompL.of (xs:=p.sts.map StM.v) (by rw[yaa,sizeLine_eq];omega) (SqL.of hp.sl) (λD i ys H'=>∃qs:List StM,ys=qs.map StM.v/\qs.map StM.e=(p.sts.take i).map StM.e/\Same H H'/\H' D=some (.lst ys)/\(∀q∈qs,q.At H')/\(∀b∈qs.flatMap StM.lists,H b=none/\b≠D)/\(qs.flatMap StM.lists).Nodup)
   (λD hD=>⟨[],rfl,rfl,zz2 hD,zz1,by simp,by simp,by simp⟩) ?_ ?_ ?_
  ·rintro D i ys H' hD hi ⟨qs,rfl,hc,sm,hDD,_⟩
   refine⟨SqL.of (sm _ _ hp.sl),hDD,?_⟩
   have e:=congrArg List.length hc
   rw[yaa,yaa]at e
   rw[yaa,e]
   exact List.length_take_le ..
  ·rintro D i x ys H' hD hx ⟨qs,rfl,hc,sm,hDD,hat,hnew,hnd⟩
   walk_at "0"
   obtain⟨s,hs,rfl⟩:=yao.mp hx
   have hm:=yan hs
   have hs':=(hp.ss s hm).mono sm
   walk_at "rd"
   refine⟨_,SqT.of hs'.top,rfl,_,_,rfl,_,_,rfl,_,_,rfl,_,_,rfl,rfl,.no (.no (.no (.no .nil))),s.lw,rfl,_,.inl (SqL.of hs'.wd),λlw h1=>?_⟩
   have s1:=zz2 (o:=HO.lst (s.words.map V.int)) h1
   have ew:upd H' lw (HO.lst (s.words.map V.int)) lw=some (HO.lst (s.words.map V.int)):=zz1
   generalize upd H' lw (HO.lst (s.words.map V.int))=H1 at *
   refine⟨s.lf,rfl,s.fills,s1 _ _ hs'.fl,λf hf=>s1 _ _ (hs'.fs f hf),b3 s hm,λlf gs H2 s2 h2 el ga ge=>⟨by rw[sizeLine_eq];decide,λt h3=>?_⟩⟩
   have s3:=zz2 (o:=HO.tup [V.str s.kind,V.int s.step,V.ref lw,V.ref lf]) h3
   have e1:upd H2 t (HO.tup [V.str s.kind,V.int s.step,V.ref lw,V.ref lf]) lw=some (HO.lst (s.words.map V.int)):=s3 _ _ (s2 _ _ ew)
   have e2:=s3 _ _ el
   have e3:upd H2 t (HO.tup [V.str s.kind,V.int s.step,V.ref lw,V.ref lf]) t=some (HO.tup [V.str s.kind,V.int s.step,V.ref lw,V.ref lf]):=zz1
   have n2:lw≠lf:=zz4 ew h2
   have d1:lw≠D:=Ne.symm (zz4 hDD h1)
   have d2:lf≠D:=Ne.symm (zz4 (s1 _ _ hDD) h2)
   have sA:=(s1.trans s2).trans s3
   generalize upd H2 t (HO.tup [V.str s.kind,V.int s.step,V.ref lw,V.ref lf])=H3 at *
   have bt:But H3 (upd H3 D (HO.lst (qs.map StM.v++[V.ref t]))) D:=But.upd (sA _ _ hDD)
   refine⟨sA _ _ hDD,qs++[⟨t,lw,lf,s.kind,s.step,s.words,gs⟩],by simp,?_,zz9 hD (sm.trans sA),zz1,λq hq=>?_,λb hb=>?_,?_⟩
   ·rw[yac,hc,ya4,hs,yac]
    congr 1
    show [(s.kind,s.step,s.words,gs.map FillM.e)]=[(s.kind,s.step,s.words,s.fills.map FillM.e)]
    rw[ge]
   ·rcases yai.mp hq with z|z
    ·exact((hat q z).mono sA).but bt λy=>(hnew D (yav.mpr ⟨q,z,y⟩)).2 rfl
    ·rw[yae.mp z]
     exact⟨bt.tup e3,bt.2 _ _ e1 d1,bt.2 _ _ e2 d2,λf hf=>FillM.At.but (FillM.At.mono (ga f hf) s3) bt⟩
   ·rw[ybh]at hb
    rcases yai.mp hb with z|z
    ·exact hnew b z
    ·simp[StM.lists]at z
     rcases z with e|e
     ·rw[e];exact⟨sm.free h1,d1⟩
     ·rw[e];exact⟨(sm.trans s1).free h2,d2⟩
   ·rw[ybh]
    refine ya3.mpr ⟨hnd,by simp[StM.lists,n2],λx hx y hy e=>?_⟩
    obtain⟨q,hq,hb'⟩:=yav.mp hx
    obtain⟨xs,he⟩:=(hat q hq).list hb'
    simp[StM.lists]at hy
    rcases hy with z|z
    ·rw[e,z,h1]at he;cases he
    ·have:=s1 _ _ he
     rw[e,z,h2]at this;cases this
  ·rintro D ys H' hD ⟨qs,rfl,hc,sm,hDD,hat,hnew,hnd⟩
   rw[yaa,ya0]at hc
   have hpm:=hp.mono sm
   refine⟨_,SqT.of hpm.top,_,rfl,?_⟩
   refine CompL.of (xs:=p.nms.map ToldM.v) (by rw[yaa,sizeLine_eq];omega) (SqL.of hpm.nl) (λD2 i ys H2=>∃gs:List ToldM,ys=gs.map ToldM.v/\Same H' H2/\H2 D2=some (.lst ys)/\(∀g∈gs,ToldM.At H2 g)/\gs.map ToldM.e=(p.nms.take i).map ToldM.e)
    (λD2 hD2=>⟨[],rfl,zz2 hD2,zz1,(λq hq=>by cases hq),rfl⟩) ?_ ?_ ?_
   ·rintro D2 i ys H2 hD2 hi ⟨gs,rfl,s1,hDD2,ga,e⟩
    refine⟨SqL.of (s1 _ _ hpm.nl),hDD2,?_⟩
    have:=congrArg List.length e
    walk_at "8"
    rw[yaa];omega
   ·rintro D2 i x ys H2 hD2 hx ⟨gs,rfl,s1,hDD2,ga,e⟩
    walk_at "0"
    obtain⟨f,hf,rfl⟩:=yao.mp hx
    have fa:=s1 _ _ (hpm.ns f (yan hf))
    walk_at "rd"
    refine⟨_,SqT.of fa,rfl,_,_,rfl,_,_,rfl,_,_,rfl,_,_,rfl,rfl,.no (.no (.no (.no .nil))),by walk_at "s", λq hq=>?_⟩
    have s2:=zz2 (o:=HO.tup [V.str f.name,V.str f.sort,V.int f.st,V.int f.off]) hq
    refine⟨s2 _ _ hDD2,gs++[{ f with a:=q }],by simp,zz9 hD2 (s1.trans s2),zz1,λg hg=>?_,?_⟩
    ·have bt:But (upd H2 q (HO.tup [V.str f.name,V.str f.sort,V.int f.st,V.int f.off])) (upd (upd H2 q (HO.tup [V.str f.name,V.str f.sort,V.int f.st,V.int f.off])) D2 (HO.lst (gs.map ToldM.v++[V.ref q]))) D2:=But.upd (s2 _ _ hDD2)
     rcases yai.mp hg with z|z
     ·exact ToldM.At.but (ToldM.At.mono (ga g z) s2) bt
     ·rw[yae.mp z]
      exact bt.tup zz1
    ·rw[yac,e,ya4,hf,yac];rfl
   ·rintro D2 ys H2 hD2 ⟨gs,rfl,s1,hDD2,ga,e⟩
    walk_at "4"
    refine⟨_,SqT.of (s1 _ _ hpm.top),_,rfl,by walk_at "s", λt ht=>?_⟩
    have s2:=zz2 (o:=HO.tup [V.str p.name,V.ref D,V.ref D2]) ht
    have nl:∀b∈qs.flatMap StM.lists,b≠D2:=λb hb=>by
     obtain⟨q,hq,hb'⟩:=yav.mp hb
     obtain⟨xs,e⟩:=(hat q hq).list hb'
     exact zz4 e hD2
    refine k ⟨t,D,D2,p.name,qs,gs⟩ _ ((sm.trans s1).trans s2) ⟨zz1,s2 _ _ (s1 _ _ hDD),s2 _ _ hDD2,λq hq=>(hat q hq).mono (s1.trans s2),λn hn=>ToldM.At.mono (ga n hn) s2⟩ ?_ (λb hb=>?_) ?_
    ·unfold pcE
     rw[hc,e]
    ·simp only[PcM.lists,List.mem_cons]at hb
     rcases hb with e|e|e
     ·rw[e];exact hD
     ·rw[e];exact sm.free hD2
     ·exact(hnew b e).1
    ·show(D::D2::qs.flatMap StM.lists).Nodup
     refine ya8.mpr ⟨λz=>?_,ya8.mpr ⟨λz=>nl D2 z rfl,hnd⟩⟩
     rcases yau.mp z with e|e
     ·exact zz4 hDD hD2 e
     ·exact(hnew D e).2 rfl
theorem TkI.l1(t:TkI):List.lookup (Str.ofString "pieces") t.attrs=some (.ref t.lp):=rfl
theorem TkI.l2(t:TkI):List.lookup (Str.ofString "reasons") t.attrs=some (.ref t.lr):=rfl
theorem TkI.l3(t:TkI):List.lookup (Str.ofString "told_by_given") t.attrs=some (.ref t.dg):=rfl
theorem TkI.l4(t:TkI):List.lookup (Str.ofString "on_shelves") t.attrs=some (.ref t.ds):=rfl
theorem TkI.l5(t:TkI):List.lookup (Str.ofString "from_shelves") t.attrs=some (.ref t.df):=rfl
theorem TkI.l6(t:TkI):List.lookup (Str.ofString "unmet") t.attrs=some (.ref t.du):=rfl
theorem kp_lst(o:TkO C H t G S T rs us)(kp:KpT t H H'){b:Addr}{xs:List V}(h:H b=some (.lst xs))(n1:b≠t.lp)(n2:b≠t.lr):H' b=some (.lst xs):=kp b _ n1 n2 (λe=>by rw[e,o.df]at h;cases h) (λe=>by rw[e,o.du]at h;cases h) h
theorem kp_tup(o:TkO C H t G S T rs us)(kp:KpT t H H'){b:Addr}{xs:List V}(h:H b=some (.tup xs)):H' b=some (.tup xs):=kp b _ (λe=>by rw[e,o.lp]at h;cases h) (λe=>by rw[e,o.lr]at h;cases h) (λe=>by rw[e,o.df]at h;cases h) (λe=>by rw[e,o.du]at h;cases h) h
theorem kp_at(o:TkO C H t G S T rs us)(kp:KpT t H H'){p:PcM}(h:p.At H)(n1:t.lp∉p.lists)(n2:t.lr∉p.lists):p.At H':=by
 have ls:∀b∈p.lists,∀xs,H b=some (.lst xs)->H' b=some (.lst xs):=λb hb xs e=>kp_lst o kp e (λq=>n1 (q▸hb)) (λq=>n2 (q▸hb))
 refine⟨kp_tup o kp h.top,ls _ (by simp[PcM.lists]) _ h.sl,ls _ (by simp[PcM.lists]) _ h.nl,λs hs=>?_,λn hn=>kp_tup o kp (h.ns n hn)⟩
 have hs':=h.ss s hs
 have m:∀b∈s.lists,b∈p.lists:=λb hb=>by
  simp only[PcM.lists,List.mem_cons]
  exact .inr (.inr (yav.mpr ⟨s,hs,hb⟩))
 exact⟨kp_tup o kp hs'.top,ls _ (m _ (by simp[StM.lists])) _ hs'.wd,ls _ (m _ (by simp[StM.lists])) _ hs'.fl,λf hf=>kp_tup o kp (hs'.fs f hf)⟩
theorem len_sub{l m:List Str}(h:l.Nodup)(s:∀x∈l,x∈m):l.length<=m.length:=by
 induction l generalizing m with
 |nil=>exact ya1 _
 |cons x r ih=>
  obtain⟨h1,h2⟩:=ya8.mp h
  have hx:=s x ya5
  have:=ih (m:=m.erase x) h2 λy hy=>(List.mem_erase_of_ne (λ(e:y=x)=>h1 (e▸hy))).mpr (s y (yaw _ hy))
  rw[List.length_erase_of_mem hx]at this
  have:=List.length_pos_of_mem hx
  rw[ya7]
  omega
theorem name_inj{ps:List PcM}(nd:(ps.map PcM.name).Nodup){p q:PcM}(hp:p∈ps)(hq:q∈ps)(e:p.name=q.name):p=q:=by
 induction ps with
 |nil=>cases hp
 |cons x r ih=>
  rw[ybg,ya8]at nd
  rcases yau.mp hp with a|a<;>rcases yau.mp hq with b|b
  ·rw[a,b]
  ·exact absurd (yag.mpr ⟨q,b,by rw[<-e,a]⟩) nd.1
  ·exact absurd (yag.mpr ⟨p,a,by rw[e,b]⟩) nd.1
  ·exact ih nd.2 a b
theorem TkC.snoc(h:TkC G S e T rs)(h1:firstC G z=none)(h2:firstC S z=some p)(n:p.1∉T.map (·.1))(wy:b=Str.ofString "" /\ z=e\/∃q∈G++T,q.1=b/\wantBC z q=true):TkC G S e (T++[p]) (rs++[(p.1,z,b)]):=by
 have hl:rs.length=T.length:=by have:=congrArg List.length h.len;rwa [yaa,yaa]at this
 refine⟨?_,λq hq=>?_,by rw[yac,yac,h.len];rfl,λi q r hq hr=>?_⟩
 ·rw[yac]
  exact ya3.mpr ⟨h.nd,by simp,λx hx y hy e=>n (by rw[List.map_cons,List.map_nil,List.mem_singleton]at hy;rw[<-hy,<-e];exact hx)⟩
 ·rcases yai.mp hq with y|y
  ·exact h.sub q y
  ·rw[yae.mp y]
   exact ybs h2
 ·by_cases hi:i<T.length
  ·rw[ya9 hi]at hq
   rw[ya9 (by omega)]at hr
   rw[ycd (by omega)]
   exact h.just i q r hq hr
  ·have hi2:i=T.length:=by
    have:=(yam.mp hq).1
    rw[yah,yb2]at this
    omega
   rw[hi2,ybj (yap _),Nat.sub_self]at hq
   rw[hi2,<-hl,ybj (yap _),Nat.sub_self]at hr
   have hq:=Option.some.inj hq
   have hr:=Option.some.inj hr
   rw[<-hq,<-hr,hi2,ycd (yap _),ya0]
   exact⟨h1,h2,wy⟩
theorem tk_len(bd:TkB G S e)(tc:TkC (G.map pcE) (S.map pcE) e (T.map pcE) rs)(sub:∀p∈T,p∈S):(G++T).length<=16:=by
 have h1:=tc.nd
 have:(T.map PcM.name).length<=(S.map PcM.name).length:=len_sub (by rw[ya6]at h1;exact h1) λy hy=>by
  obtain⟨u,hu,rfl⟩:=yag.mp hy
  exact yag.mpr ⟨u,sub u hu,rfl⟩
 walk_at "3"
 have b:=bd.few
 rw[yah]at b ⊢
 omega
theorem cov_mono(U:List Co)(h:CovC G S T z):CovC G S (T++U) z:=h.imp id λ⟨p,hp,e⟩=>⟨p,yak _ hp,e⟩
theorem TkO.mono{C:Addr}{H H':Hp}{t:TkI}{G S T:List PcM}{rs:List RsM}{us:List (Str×Str)}(o:TkO C H t G S T rs us)(s:Same H H'):TkO C H' t G S T rs us:=
 ⟨s _ _ o.top,s _ _ o.lp,s _ _ o.lr,λr hr=>s _ _ (o.rs r hr),o.dg.imp λ_ h=>⟨s _ _ h.1,h.2⟩,o.ds.imp λ_ h=>⟨s _ _ h.1,h.2⟩,s _ _ o.df,s _ _ o.du,λp hp=>have h:=o.at_ p hp;⟨h.1.mono s,h.2⟩,o.ne,o.nf,o.nu,o.sub⟩
theorem key_inj{us:List (Str×Str)}(nd:(us.map (·.1)).Nodup){p q:Str×Str}(hp:p∈us)(hq:q∈us)(e:p.1=q.1):p=q:=by
 induction us with
 |nil=>cases hp
 |cons x r ih=>
  rw[ybg,ya8]at nd
  rcases yau.mp hp with a|a<;>rcases yau.mp hq with b|b
  ·rw[a,b]
  ·exact absurd (yag.mpr ⟨q,b,by rw[<-e,a]⟩) nd.1
  ·exact absurd (yag.mpr ⟨p,a,by rw[e,b]⟩) nd.1
  ·exact ih nd.2 a b
theorem us_look(nd:(us.map (·.1)).Nodup){u:Str×Str}(h:u∈us):valV (usK us) (.inr u.1)=some (.str u.2):=by
 induction us with
 |nil=>cases h
 |cons x r ih=>
  rw[ybg,ya8]at nd
  show valV ((.inr x.1,.str x.2)::usK r) (.inr u.1)=_
  rcases yau.mp h with e|e
  ·rw[e];exact valV_pos (p:=((Sum.inr x.1:Key),V.str x.2)) rfl
  ·have ne:¬((Sum.inr x.1:Key),V.str x.2).1=Sum.inr u.1:=λz=>nd.1 (by rw[Sum.inr.inj z];exact yag.mpr ⟨u,e,rfl⟩)
   rw[valV_neg ne]
   exact ih nd.2 e
theorem us_no(h:z∉us.map (·.1)):valV (usK us) (.inr z)=none:=by
 cases q:valV (usK us) (.inr z) with
 |none=>rfl
 |some v=>
  have a:=valV_any (.inr z:Key) (usK us)
  rw[q]at a
  obtain⟨x,hx,e⟩:=ybm.mp (a.trans rfl)
  obtain⟨y,hy,rfl⟩:=yag.mp hx
  exact absurd (yag.mpr ⟨y,hy,Sum.inr.inj (of_decide_eq_true e:(Sum.inr y.1:Key)=Sum.inr z)⟩) h
noncomputable def putU(us:List (Str×Str))(z b:Str):List (Str×Str):=if z∈us.map (·.1) then us.map λu=>if u.1=z then (z,minS b u.2) else u else us++[(z,b)]
theorem minS_le(a b:Str):leS (minS a b) a/\leS (minS a b) b/\(minS a b=a\/minS a b=b):=by
 unfold minS
 split
 ·rename_i h
  exact⟨List.le_of_lt (of_decide_eq_true h),List.le_refl _,.inr rfl⟩
 ·rename_i h
  exact⟨List.le_refl _,List.not_lt.mp λz=>h (decide_eq_true z),.inl rfl⟩
theorem putU_keys(us:List (Str×Str))(z b:Str):(putU us z b).map (·.1)=if z∈us.map (·.1) then us.map (·.1) else us.map (·.1)++[z]:=by
 unfold putU
 split
 ·rw[ya6]
  refine ybq λu _=>?_
  show(if u.1=z then (z,minS b u.2) else u).1=u.1
  split
  ·rename_i h;exact h.symm
  ·rfl
 ·rw[yac];rfl
theorem putU_ok{us:List (Str×Str)}{D:Str->Str->Prop}{z b:Str}{G S:List Co}(h:UsOk us D)(hz:¬MetC G S z):UsOk (putU us z b) (addD D G S z b):=by
 refine⟨?_,λu hu=>?_,λz' b' hd=>?_⟩
 ·rw[putU_keys]
  split
  ·exact h.nd
  ·rename_i n
   exact ya3.mpr ⟨h.nd,by simp,λx hx y hy e=>n (by rw[List.mem_singleton.mp hy]at e;rw[<-e];exact hx)⟩
 ·unfold putU at hu
  split at hu
  ·obtain⟨v,hv,rfl⟩:=yag.mp hu
   by_cases e:v.1=z
   ·rw[if_pos e]
    rcases (minS_le b v.2).2.2 with q|q
    ·exact .inr ⟨hz,rfl,q⟩
    ·refine .inl ?_
     show D z (minS b v.2)
     rw[q,<-e];exact h.in_ v hv
   ·rw[if_neg e];exact .inl (h.in_ v hv)
  ·rcases yai.mp hu with y|y
   ·exact .inl (h.in_ u y)
   ·rw[yae.mp y];exact .inr ⟨hz,rfl,rfl⟩
 ·unfold putU
  split
  ·rename_i hin
   rcases hd with hd|⟨_,rfl,rfl⟩
   ·obtain⟨u,hu,e1,e2⟩:=h.all z' b' hd
    by_cases e:u.1=z
    ·exact⟨(z,minS b u.2),yag.mpr ⟨u,hu,if_pos e⟩,by rw[<-e1];exact e.symm,leS_trans (minS_le b u.2).2.1 e2⟩
    ·exact⟨u,yag.mpr ⟨u,hu,if_neg e⟩,e1,e2⟩
   ·obtain⟨u,hu,e⟩:=yag.mp hin
    exact⟨(z',minS b' u.2),yag.mpr ⟨u,hu,if_pos e⟩,rfl,(minS_le b' u.2).1⟩
  ·rcases hd with hd|⟨_,rfl,rfl⟩
   ·obtain⟨u,hu,e⟩:=h.all z' b' hd
    exact⟨u,yak _ hu,e⟩
   ·exact⟨(z',b'),yaj _ (by simp),rfl,List.le_refl _⟩
theorem putU_len(us:List (Str×Str))(z b:Str):(putU us z b).length<=us.length+1:=by
 unfold putU
 split
 ·rw[yaa];omega
 ·rw[yah];exact yap _
theorem putU_new(h:z∉us.map (·.1)):putK (usK us) (.inr z) (.str b)=usK (putU us z b):=by
 rw[putK_new _ (us_no h)]
 unfold putU
 rw[if_neg h]
 unfold usK
 rw[yac];rfl
theorem putU_old(nd:(us.map (·.1)).Nodup){u:Str×Str}(hu:u∈us)(e:u.1=z):putK (usK us) (.inr z) (.str (minS b u.2))=usK (putU us z b):=by
 have h:z∈us.map (·.1):=yag.mpr ⟨u,hu,e⟩
 unfold putU putK
 rw[if_pos h]
 have a:((usK us).any λkv=>decide (kv.1=(.inr z:Key)))=true:=ybm.mpr ⟨_,yag.mpr ⟨u,hu,rfl⟩,decide_eq_true (by rw[e])⟩
 rw[if_pos a]
 unfold usK
 rw[ya6,ya6]
 refine ybq λv hv=>?_
 show(if (Sum.inr v.1:Key)=Sum.inr z then ((Sum.inr v.1:Key),V.str (minS b u.2)) else (Sum.inr v.1,V.str v.2))=(Sum.inr (if v.1=z then (z,minS b v.2) else v).1,V.str (if v.1=z then (z,minS b v.2) else v).2)
 by_cases q:v.1=z
 ·have:v=u:=by
   have hp:=nd
   exact key_inj nd hv hu (q.trans e.symm)
  rw[if_pos (by rw[q]),if_pos q,this,q.symm,this]
 ·rw[if_neg (λy=>q (Sum.inr.inj y)),if_neg q]
theorem TkO.setU{C:Addr}{H:Hp}{t:TkI}{G S T:List PcM}{rs:List RsM}{us us':List (Str×Str)}(o:TkO C H t G S T rs us):TkO C (upd H t.du (.dK (usK us'))) t G S T rs us':=by
 have nl:∀{b:Addr}{xs:List V},H b=some (.lst xs)->upd H t.du (.dK (usK us')) b=some (.lst xs):=λ{b xs} e=>by rw[upd_ne (λz=>by rw[z,o.du]at e;cases e)];exact e
 have nt:∀{b:Addr}{xs:List V},H b=some (.tup xs)->upd H t.du (.dK (usK us')) b=some (.tup xs):=λ{b xs} e=>by rw[upd_ne (λz=>by rw[z,o.du]at e;cases e)];exact e
 have lt:SameLT H (upd H t.du (.dK (usK us'))):=λb u h e=>by
  rcases h with ⟨xs,rfl⟩|⟨xs,rfl⟩
  ·exact nl e
  ·exact nt e
 obtain⟨kg,hg,vg⟩:=o.dg
 obtain⟨ks,hs,vs⟩:=o.ds
 exact⟨by rw[upd_ne (λz=>by have:=o.top;rw[z,o.du]at this;cases this)];exact o.top,nl o.lp,nl o.lr,λr hr=>nt (o.rs r hr),⟨kg,by rw[upd_ne o.nu.1];exact hg,vg⟩,⟨ks,by rw[upd_ne o.nu.2];exact hs,vs⟩,by rw[upd_ne (Ne.symm o.nf.2.2)];exact o.df,zz1,λp hp=>have h:=o.at_ p hp;⟨at_lt lt h.1,h.2⟩,o.ne,o.nf,o.nu,o.sub⟩
theorem UsOk.keep{us:List (Str×Str)}{D:Str->Str->Prop}{z b:Str}{G S:List Co}(h:UsOk us D)(m:MetC G S z):UsOk us (addD D G S z b):=⟨h.nd,λu hu=>.inl (h.in_ u hu),λz' b' hd=>hd.elim (h.all z' b') λq=>absurd m q.1⟩
theorem G_qqx(T:Txt K mg A):FnOk P w K mg base CX0 1 A.qqx A.fd_qqx ["self", "name", "by"] (sp_takefor A.c_qxy):=by
 refine T.F_qqx.ok sc_qqx (λvs H Q E h=>?_) (λcdv Ar outer s H vs Q E hr h=>?_)
 ·obtain⟨t,z,b,e,G,S,T,rs,us,D,rfl,_⟩:=h
  rfl
 ·obtain⟨t,z,b,e,G,S,Tp,rs,us,D,rfl,o,bd,tc,uo,ul,wy,k⟩:=h
  refine⟨_,(zz3 (ps_if (pt_cmp (pc_din (hu_of hr) (pv 1) (pe_fld (pv 0) rfl))) (zz5 ps_retN) zz16) (zz3 (ps_if (pt_cmp (pc_dnotin (hu_of hr) (pv 1) (pe_fld (pv 0) rfl))) (zz3 (ps_dput (hu_of hr) (pe_fld (pv 0) rfl) (pv 1) (zz11 (call_min2S rfl) (by rfl) T.n_min bt_min (zz0 (pv 2) (zz0 (pe_dget2 (hu_of hr) (pe_fld (pv 0) rfl) (pv 1) (pv 2) ⟨rfl,rfl,rfl,rfl⟩) pa_nil))) rfl) (zz5 ps_retN)) zz16) (zz3 (ps_set (i:=3) sc_qqx.nd rfl (by walk_at "o") (pe_dget (hu_of hr) (pe_fld (pv 0) rfl) (pv 1) (λ_ _=>rfl))) (zz5 (ps_if (pt_cmp (pc_dnotin (hu_of hr) (pe_ix (zz8 (K:=K) rfl) (pv 3) pe_int (λ_ _=>rfl)) (pe_fld (pv 0) rfl))) (zz3 (ps_dput (hu_of hr) (pe_fld (pv 0) rfl) (pe_ix (zz8 (K:=K) rfl) (pv 3) pe_int (λ_ _=>rfl)) pe_bl rfl) (zz3 (zz20 (pe_bm PySem.F.plainAttrs_list PySem.F.slot_list_append PySem.F.type_list_append zz23 (pe_fld (pv 0) rfl) (zz0 (pv 3) pa_nil))) (zz5 (zz20 (pe_bm PySem.F.plainAttrs_list PySem.F.slot_list_append PySem.F.type_list_append zz23 (pe_fld (pv 0) rfl) (zz0 (pe_tup (zz0 (pe_ix (zz8 (K:=K) rfl) (pv 3) pe_int (λ_ _=>rfl)) (zz0 (pv 1) (zz0 (pv 2) pa_nil)))) pa_nil)))))) zz16))))),?_⟩
  walk_at "rd"
  obtain⟨kg,hkg,vg⟩:=o.dg
  obtain⟨ks,hks,vs⟩:=o.ds
  have gg:=DGet.k (k:=Sum.inr z) hkg
  have gs:=DGet.k (k:=Sum.inr z) hks
  rw[vg]at gg
  rw[vs]at gs
  have fG:=first_map G z
  have fS:=first_map S z
  refine⟨_,_,_,o.top,T.cl_qxy,T.no_qxy_told_by_given,_,t.l3,t.dg,rfl,_,gg,ite2 (λh=>?_) (λh=>?_)⟩
  ·have mz:MetC (G.map pcE) (S.map pcE) z:=.inl (by rw[fG,yca];rw[yca]at h;exact h)
   refine k [] rs us H (by rw[ybc];exact o) (λb o _ _ _ _ e=>e) (by rw[ybc];exact tc) (λ_=>.inl ?_) (uo.keep mz) (yb7 _)
   rw[fG]
   cases q:firstN G z with
   |none=>rw[q]at h;cases h
   |some u=>rfl
  ·have nG:firstN G z=none:=by
    cases q:firstN G z with
    |none=>rfl
    |some u=>rw[q]at h;exact absurd rfl h
   rw[nG]at fG
   cases q:firstN S z with
   |none=>
    rw[q]at gs fS
    have nz:¬MetC (G.map pcE) (S.map pcE) z:=λm=>by
     rcases m with m|m
     ·rw[fG]at m;cases m
     ·rw[fS]at m;cases m
    refine⟨_,_,_,o.top,T.cl_qxy,T.no_qxy_on_shelves,_,t.l4,t.ds,rfl,_,gs,?_⟩
    rw[if_pos (by simp)]
    have gu:=DGet.k (k:=Sum.inr z) o.du
    have hub:(usK us).length<sizeLine:=by unfold usK;rw[List.length_map,sizeLine_eq];omega
    have fin:∀v,putK (usK us) (.inr z) (.str v)=usK (putU us z b)->∃x_7,DPut H t.du (V.str z) (V.str v) x_7/\Q V.non x_7:=λv ev=>by
     refine⟨_,DPut.k (k:=Sum.inr z) o.du hub,?_⟩
     rw[ev]
     refine k [] rs (putU us z b) _ (by rw[ybc];exact o.setU) (λc u _ _ _ n h=>by rw[upd_ne n];exact h) (by rw[ybc];exact tc) (λm=>absurd m nz) (putU_ok uo nz) (putU_len us z b)
    refine⟨_,_,_,o.top,T.cl_qxy,T.no_qxy_unmet,_,t.l6,t.du,rfl,.inl ⟨_,.inl o.du⟩,_,gu,?_⟩
    by_cases m:z∈us.map (·.1)
    ·obtain⟨u,hu,eu⟩:=yag.mp m
     have lk:=us_look uo.nd hu
     rw[eu]at lk
     exact⟨u.2,by rw[lk];rfl,_,_,_,o.top,T.cl_qxy,T.no_qxy_unmet,_,t.l6,t.du,rfl,fin _ (putU_old uo.nd hu eu)⟩
    ·have mb:minS b b=b:=by unfold minS;split<;>rfl
     exact⟨b,by rw[us_no m];rfl,_,_,_,o.top,T.cl_qxy,T.no_qxy_unmet,_,t.l6,t.du,rfl,fin _ (by rw[mb];exact putU_new m)⟩
   |some p=>
    rw[q]at gs fS
    have pS:p∈S:=ybs q
    have mz:MetC (G.map pcE) (S.map pcE) z:=.inr (by rw[fS];rfl)
    obtain⟨pa,n1,n2⟩:=o.at_ p (yaj _ pS)
    refine⟨_,_,_,o.top,T.cl_qxy,T.no_qxy_on_shelves,_,t.l4,t.ds,rfl,_,gs,?_⟩
    rw[if_neg (by simp)]
    have ndS:(S.map PcM.name).Nodup:=by have:=bd.nd;rw[yac]at this;exact(ya3.mp this).2.1
    have gf:=DGet.k (k:=Sum.inr p.name) o.df
    refine⟨_,_,_,o.top,T.cl_qxy,T.no_qxy_on_shelves,_,t.l4,t.ds,rfl,_,gs,_,rfl,_,SqT.of pa.top,_,rfl,_,_,_,o.top,T.cl_qxy,T.no_qxy_from_shelves,_,t.l5,t.df,rfl,_,gf,?_⟩
    by_cases m:p.name∈Tp.map PcM.name
    ·rw[valW_yes m,if_neg (by decide)]
     obtain⟨u,hu,eu⟩:=yag.mp m
     have eu:=name_inj ndS (o.sub u hu) pS eu
     exact k [] rs us H (by rw[ybc];exact o) (λb o _ _ _ _ e=>e) (by rw[ybc];exact tc) (λ_=>.inr ⟨pcE p,yag.mpr ⟨p,by rw[ybc,<-eu];exact hu,rfl⟩,fS⟩) (uo.keep mz) (yb7 _)
    ·rw[valW_no m,if_pos (by decide)]
     have hl:Tp.length<=16:=by
      have h1:=tc.nd
      have:(Tp.map PcM.name).length<=(S.map PcM.name).length:=len_sub (by rw[ya6]at h1;exact h1) λy hy=>by
       obtain⟨u,hu,rfl⟩:=yag.mp hy
       exact yag.mpr ⟨u,o.sub u hu,rfl⟩
      walk_at "3"
      have b:=bd.few
      rw[yah]at b
      omega
     have hlG:G.length<=16:=by have b:=bd.few;rw[yah]at b;omega
     have hrl:rs.length=Tp.length:=by have:=congrArg List.length tc.len;rwa [yaa,yaa,yaa,yaa]at this
     have nx1:t.x≠t.df:=λe=>by have:=o.top;rw[e,o.df]at this;cases this
     have nx2:t.x≠t.lp:=λe=>by have:=o.top;rw[e,o.lp]at this;cases this
     have nx3:t.x≠t.lr:=λe=>by have:=o.top;rw[e,o.lr]at this;cases this
     have nl1:t.lp≠t.df:=λe=>by have:=o.lp;rw[e,o.df]at this;cases this
     have nl2:t.lr≠t.df:=λe=>by have:=o.lr;rw[e,o.df]at this;cases this
     have np1:p.t≠t.df:=λe=>by have:=pa.top;rw[e,o.df]at this;cases this
     have np2:p.t≠t.lp:=λe=>by have:=pa.top;rw[e,o.lp]at this;cases this
     refine⟨_,_,_,o.top,T.cl_qxy,T.no_qxy_from_shelves,_,t.l5,_,rfl,_,SqT.of pa.top,_,rfl,t.df,rfl,_,DPut.k (k:=Sum.inr p.name) o.df (by rw[yaa,yaa,sizeLine_eq];omega),?_⟩
     rw[putW]
     unfold addW
     rw[if_neg m]
     have a1:upd H t.df (HO.dK ((Tp.map PcM.name++[p.name]).map wkv)) t.df=some (HO.dK ((Tp.map PcM.name++[p.name]).map wkv)):=zz1
     have k1:∀b u,b≠t.df->H b=some u->upd H t.df (HO.dK ((Tp.map PcM.name++[p.name]).map wkv)) b=some u:=λb u n e=>by rw[upd_ne n];exact e
     generalize upd H t.df (HO.dK ((Tp.map PcM.name++[p.name]).map wkv))=H1 at *
     have lp1:=k1 _ _ nl1 o.lp
     refine⟨_,_,_,k1 _ _ nx1 o.top,T.cl_qxy,T.no_qxy_pieces,_,t.l1,.inl ⟨rfl,_,SqL.of lp1⟩,t.lp,rfl,_,lp1,by rw[yaa,yah,sizeLine_eq];omega,?_⟩
     have a2:upd H1 t.lp (HO.lst ((G++Tp).map PcM.v++[V.ref p.t])) t.lp=some (HO.lst ((G++Tp).map PcM.v++[V.ref p.t])):=zz1
     have k2:∀b u,b≠t.lp->H1 b=some u->upd H1 t.lp (HO.lst ((G++Tp).map PcM.v++[V.ref p.t])) b=some u:=λb u n e=>by rw[upd_ne n];exact e
     generalize upd H1 t.lp (HO.lst ((G++Tp).map PcM.v++[V.ref p.t]))=H2 at *
     have lr2:=k2 _ _ (Ne.symm o.ne) (k1 _ _ nl2 o.lr)
     refine⟨_,_,_,k2 _ _ nx2 (k1 _ _ nx1 o.top),T.cl_qxy,T.no_qxy_qxq,_,t.l2,.inl ⟨rfl,_,SqL.of lr2⟩,_,rfl,_,SqT.of (k2 _ _ np2 (k1 _ _ np1 pa.top)),_,rfl,by walk_at "s", λr hr=>⟨t.lr,rfl,_,zz2 hr _ _ lr2,by rw[yaa,sizeLine_eq];omega,?_⟩⟩
     have s3:=zz2 (o:=HO.tup [V.str p.name,V.str z,V.str b]) hr
     have a3:upd H2 r (HO.tup [V.str p.name,V.str z,V.str b]) r=some (HO.tup [V.str p.name,V.str z,V.str b]):=zz1
     generalize upd H2 r (HO.tup [V.str p.name,V.str z,V.str b])=H3 at *
     have k4:∀b u,b≠t.lr->H3 b=some u->upd H3 t.lr (HO.lst (rs.map (λr=>V.ref r.1)++[V.ref r])) b=some u:=λb u n e=>by rw[upd_ne n];exact e
     have kp:KpT t H (upd H3 t.lr (HO.lst (rs.map (λr=>V.ref r.1)++[V.ref r]))):=λb u m1 m2 m3 _ e=>k4 b u m2 (s3 _ _ (k2 _ _ m1 (k1 _ _ m3 e)))
     have nr:r≠t.lr:=Ne.symm (zz4 lr2 hr)
     refine k [p] (rs++[(r,p.name,z,b)]) us _ ⟨?_,?_,?_,?_,?_,?_,?_,?_,?_,o.ne,o.nf,o.nu,?_⟩ kp ?_ (λ_=>?_) (uo.keep mz) (yb7 _)
     ·exact kp _ _ nx2 nx3 nx1 (λe=>by have:=o.top;rw[e,o.du]at this;cases this) o.top
     ·rw[<-ybp,yac]
      exact k4 _ _ o.ne (s3 _ _ a2)
     ·rw[zz1,yac];rfl
     ·intro y hy
      rcases yai.mp hy with c|c
      ·exact kp_tup o kp (o.rs y c)
      ·rw[yae.mp c]
       exact k4 _ _ nr a3
     ·exact⟨kg,kp _ _ (λe=>by rw[e,o.lp]at hkg;cases hkg) (λe=>by rw[e,o.lr]at hkg;cases hkg) o.nf.1 o.nu.1 hkg,vg⟩
     ·exact⟨ks,kp _ _ (λe=>by rw[e,o.lp]at hks;cases hks) (λe=>by rw[e,o.lr]at hks;cases hks) o.nf.2.1 o.nu.2 hks,vs⟩
     ·rw[yac]
      exact k4 _ _ (Ne.symm nl2) (s3 _ _ (k2 _ _ (Ne.symm nl1) a1))
     ·have du:=o.du
      exact k4 _ _ (λe=>by rw[e,o.lr]at du;cases du) (s3 _ _ (k2 _ _ (λe=>by rw[e,o.lp]at du;cases du) (k1 _ _ o.nf.2.2 du)))
     ·intro y hy
      obtain⟨ya,m1,m2⟩:=o.at_ y hy
      exact⟨kp_at o kp ya m1 m2,m1,m2⟩
     ·intro y hy
      rcases yai.mp hy with c|c
      ·exact o.sub y c
      ·rw[yae.mp c];exact pS
     ·rw[yac,yac]
      refine tc.snoc fG fS (λc=>m ?_) (wy.imp id λ⟨y,hy,e1,e2⟩=>⟨pcE y,by rw[<-yac];exact yag.mpr ⟨y,hy,rfl⟩,e1,e2⟩)
      rw[ya6]at c
      exact c
     ·exact .inr ⟨pcE p,yag.mpr ⟨p,by simp,rfl⟩,fS⟩
def DmT(G S:List Co)(e:Str)(ps:List PcM)(z b:Str):Prop:=¬MetC G S z/\(b=Str.ofString "" /\ z=e\/∃q∈ps,q.name=b/\wantBC z (pcE q)=true)
theorem UsOk.iff{us:List (Str×Str)}{D D':Str->Str->Prop}(h:UsOk us D)(i:∀z b,D z b↔D' z b):UsOk us D':=⟨h.nd,λu hu=>(i _ _).mp (h.in_ u hu),λz b hd=>h.all z b ((i z b).mpr hd)⟩
theorem UsOk.dm0{us:List (Str×Str)}{G S:List Co}{e:Str}{ps:List PcM}(h:UsOk us (λz b=>¬MetC G S z/\b=Str.ofString "" /\ z=e)):UsOk us (DmT G S e (ps.take 0)):=h.iff λz b=>⟨λq=>⟨q.1,.inl q.2⟩,λq=>⟨q.1,q.2.elim id λ⟨u,hu,_⟩=>by simp at hu⟩⟩
theorem UsOk.orN{us:List (Str×Str)}{D:Str->Str->Prop}{G S:List Co}{ss:List Str}{n:Str}(h:UsOk us D):UsOk us (λz b=>D z b\/(¬MetC G S z/\z∈ss.take 0/\b=n)):=h.iff λz b=>⟨.inl,λq=>q.elim id λy=>by simp at y⟩
theorem UsOk.stepN{us:List (Str×Str)}{D:Str->Str->Prop}{G S:List Co}{ts:List Str}{y n:Str}(h:UsOk us (addD (λz b=>D z b\/(¬MetC G S z/\z∈ts/\b=n)) G S y n)):UsOk us (λz b=>D z b\/(¬MetC G S z/\z∈ts++[y]/\b=n)):=h.iff λz b=>by
 constructor
 ·rintro ((q|⟨q1,q2,q3⟩)|⟨q1,rfl,rfl⟩)
  ·exact .inl q
  ·exact .inr ⟨q1,yak _ q2,q3⟩
  ·exact .inr ⟨q1,by simp,rfl⟩
 ·rintro (q|⟨q1,q2,q3⟩)
  ·exact .inl (.inl q)
  ·rcases yai.mp q2 with a|a
   ·exact .inl (.inr ⟨q1,a,q3⟩)
   ·have a:=yae.mp a
    exact .inr ⟨a▸q1,a,q3⟩
theorem UsOk.stepP{us:List (Str×Str)}{G S:List Co}{e:Str}{ps:List PcM}{p:PcM}{ss:List Str}(h:UsOk us (λz b=>DmT G S e ps z b\/(¬MetC G S z/\z∈ss/\b=p.name)))(hs:∀z,z∈ss↔wantBC z (pcE p)=true):UsOk us (DmT G S e (ps++(some p).toList)):=h.iff λz b=>by
 constructor
 ·rintro (⟨q1,q|⟨u,hu,q⟩⟩|⟨q1,q2,q3⟩)
  ·exact⟨q1,.inl q⟩
  ·exact⟨q1,.inr ⟨u,yak _ hu,q⟩⟩
  ·exact⟨q1,.inr ⟨p,by simp,q3.symm,(hs z).mp q2⟩⟩
 ·rintro⟨q1,q|⟨u,hu,q2,q3⟩⟩
  ·exact .inl ⟨q1,.inl q⟩
  ·rcases yai.mp hu with a|a
   ·exact .inl ⟨q1,.inr ⟨u,a,q2,q3⟩⟩
   ·have a:u=p:=by simpa using a
    rw[a]at q2 q3
    exact .inr ⟨q1,(hs z).mpr q3,q2.symm⟩
theorem UsOk.dmT{us:List (Str×Str)}{G S T:List PcM}{e:Str}(h:UsOk us (DmT (G.map pcE) (S.map pcE) e (G++T))):UsOk us (Dm (G.map pcE) (S.map pcE) e (T.map pcE)):=h.iff λz b=>by
 constructor
 ·rintro⟨q1,q|⟨u,hu,q⟩⟩
  ·exact⟨q1,.inl q⟩
  ·exact⟨q1,.inr ⟨pcE u,by rw[<-yac];exact yag.mpr ⟨u,hu,rfl⟩,q⟩⟩
 ·rintro⟨q1,q|⟨c,hc,q⟩⟩
  ·exact⟨q1,.inl q⟩
  ·rw[<-yac]at hc
   obtain⟨u,hu,rfl⟩:=yag.mp hc
   exact⟨q1,.inr ⟨u,hu,q⟩⟩
theorem G_qqq(T:Txt K mg A):FnOk P w K mg base CX0 3 A.qqq A.fd_qqq ["self"] (sp_tfp A.c_qxy):=by
 refine T.F_qqq.ok sc_qqq (λvs H Q E h=>?_) (λcdv Ar outer s H vs Q E hr h=>?_)
 ·obtain⟨t,e,G,S,T,rs,us,rfl,_⟩:=h
  rfl
 ·obtain⟨t,e,G,S,Tp,rs,us,rfl,o,bd,tc,cv,uo,ul,k⟩:=h
  refine⟨_,(zz3 (ps_set (i:=1) sc_qqq.nd rfl (by walk_at "o") pe_int) (zz5 (ps_while PassesOwn.never (zz15 op_lt (pv 1) (zz11 (call_lenK (K:=K) rfl) (by rfl) T.n_len bt_len (zz0 (pe_fld (pv 0) rfl) pa_nil)) (nomark _)) (zz3 (ps_set (i:=2) sc_qqq.nd rfl (by walk_at "o") (pe_ix (zz19 (K:=K) rfl) (pe_fld (pv 0) rfl) (pv 1) (λ_ _=>rfl))) (zz3 (ps_for PassesOwn.never rfl (zz12 (K:=K) rfl (zz10 (G_wants T) (hr.mono (by decide)) rfl T.m_wants T.k_wants T.b_wants .nil pass0 (zz0 (pv 2) pa_nil))) (zz6 (i:=3) sc_qqq.nd rfl (by walk_at "o")) (zz5 (zz20 (pe_meth (pv 0) T.cl_qxy T.me_qqx (G_qqx T) (hr.mono (by decide)) T.b_qqx .nil pass0 (zz0 (pv 3) (zz0 (pe_ix (zz8 (K:=K) rfl) (pv 2) pe_int (λ_ _=>rfl)) pa_nil)))))) (zz5 (ps_aug (i:=1) sc_qqq.nd rfl (by walk_at "o") pe_int ip_add))))))),?_⟩
  walk_at "rd"
  refine⟨λm σ Hc=>∃(dn:Nat) (Tc:List PcM) (rc:List RsM) (uc:List (Str×Str)) (b2 b3:Option V),σ=[some (V.ref t.x),some (V.int dn),b2,b3]/\TkO A.c_qxy Hc t G S Tc rc uc/\KpT t H Hc/\TkC (G.map pcE) (S.map pcE) e (Tc.map pcE) (rc.map (·.2))/\(MetC (G.map pcE) (S.map pcE) e->CovC (G.map pcE) (S.map pcE) (Tc.map pcE) e)/\m+dn=17/\dn<=(G++Tc).length/\(∀q∈(G++Tc).take dn,∀z,wantBC z (pcE q)=true->MetC (G.map pcE) (S.map pcE) z->CovC (G.map pcE) (S.map pcE) (Tc.map pcE) z)/\UsOk uc (DmT (G.map pcE) (S.map pcE) e ((G++Tc).take dn))/\uc.length<=1+61 * dn,
   ⟨17,0,Tp,rs,us,_,_,rfl,o,λb o _ _ _ _ e=>e,tc,cv,rfl,ya1 _,λq hq=>by simp at hq,uo.dm0,by omega⟩,?_⟩
  rintro m σ Hc ⟨dn,Tc,rc,uc,b2,b3,rfl,oc,kc,tcc,cvc,hm,hd,cl,uoc,ulc⟩
  have bl:=tk_len bd tcc oc.sub
  walk_at "rd"
  refine⟨_,_,_,oc.top,T.cl_qxy,T.no_qxy_pieces,_,t.l1,_,.inl ⟨_,SqL.of oc.lp,by rw[yaa]⟩,ite2 (λhlt=>?_) (λhge=>?_)⟩
  ·have hlt:dn<(G++Tc).length:=by have:=of_decide_eq_true hlt;omega
   obtain⟨m',rfl⟩:∃m',m=m'+1:=⟨m - 1,by omega⟩
   have hp:(G++Tc)[dn]?=some (G++Tc)[dn]:=yar hlt
   have hmem:(G++Tc)[dn]∈G++Tc:=ybr hlt
   generalize (G++Tc)[dn]=p at hp hmem
   have hpS:p∈G++S:=(yai.mp hmem).elim (yak _) λy=>yaj _ (oc.sub p y)
   obtain⟨pa,n1,n2⟩:=oc.at_ p hpS
   refine⟨λσ' H'=>∃(dn:Nat) (Tc:List PcM) (rc:List RsM) (uc:List (Str×Str)) (b2 b3:Option V),σ'=[some (V.ref t.x),some (V.int dn),b2,b3]/\TkO A.c_qxy H' t G S Tc rc uc/\KpT t H H'/\TkC (G.map pcE) (S.map pcE) e (Tc.map pcE) (rc.map (·.2))/\(MetC (G.map pcE) (S.map pcE) e->CovC (G.map pcE) (S.map pcE) (Tc.map pcE) e)/\m'+dn=17/\dn<=(G++Tc).length/\(∀q∈(G++Tc).take dn,∀z,wantBC z (pcE q)=true->MetC (G.map pcE) (S.map pcE) z->CovC (G.map pcE) (S.map pcE) (Tc.map pcE) z)/\UsOk uc (DmT (G.map pcE) (S.map pcE) e ((G++Tc).take dn))/\uc.length<=1+61 * dn,λσ' H' z=>⟨m',ybt _,z⟩,?_⟩
   refine⟨_,_,_,oc.top,T.cl_qxy,T.no_qxy_pieces,_,t.l1,_,rfl,_,SqL.of oc.lp,_,atI_nat (by rw[ybd,hp];rfl),p,rfl,pa,bd.bnd p hpS,λl H2 s2 ⟨ss,pm,pw,hl2⟩ hl=>?_⟩
   have o2:=oc.mono s2
   have nl1:l≠t.lp:=Ne.symm (zz4 oc.lp hl)
   have nl2:l≠t.lr:=Ne.symm (zz4 oc.lr hl)
   refine ForL.of (xs:=ss.map V.str) (λj σ H3=>∃(T':List PcM) (rc':List RsM) (uc':List (Str×Str)) (b3:Option V),σ=[some (V.ref t.x),some (V.int dn),some p.v,b3]/\TkO A.c_qxy H3 t G S (Tc++T') rc' uc'/\KpT t H2 H3/\TkC (G.map pcE) (S.map pcE) e ((Tc++T').map pcE) (rc'.map (·.2))/\(∀z∈ss.take j,MetC (G.map pcE) (S.map pcE) z->CovC (G.map pcE) (S.map pcE) ((Tc++T').map pcE) z)/\UsOk uc' (λz b=>DmT (G.map pcE) (S.map pcE) e ((G++Tc).take dn) z b\/(¬MetC (G.map pcE) (S.map pcE) z/\z∈ss.take j/\b=p.name))/\uc'.length<=uc.length+j)
    ⟨[],rc,uc,_,rfl,by rw[ybc];exact o2,(λb o _ _ _ _ e=>e),by rw[ybc];exact tcc,(λz hz=>by simp at hz),uoc.orN,Nat.le_refl _⟩ ?_ ?_ ?_
   ·rintro j σ H3 hj ⟨T',rc',uc',b3,rfl,o3,k3,_⟩
    exact SqL.of (kp_lst o2 k3 hl2 nl1 nl2)
   ·rintro j v σ H3 hv ⟨T',rc',uc',b3,rfl,o3,k3,tc3,c3,uo3,ul3⟩
    walk_at "6"
    obtain⟨y,hy,rfl⟩:=yao.mp hv
    have tj:ss.take (j+1)=ss.take j++[y]:=by rw[ya4,hy];rfl
    have wy:wantBC y (pcE p)=true:=want_mem.mp (pm.mem_iff.mp (yan hy))
    have sl:ss.length<=61:=by rw[pm.length_eq];exact want_le (bd.bnd p hpS)
    have jl:=(yam.mp hy).1
    obtain⟨pa3,_⟩:=o3.at_ p hpS
    walk_at "rd"
    refine⟨_,_,o3.top,rfl,_,SqT.of pa3.top,_,rfl,t,rfl,_,rfl,e,G,S,Tc++T',rc',uc',o3,bd,tc3,_,uo3,by omega,.inr ⟨p,?_,rfl,wy⟩,λU rc2 uc2 H4 o4 k4 tc4 c4 uo4 ul4=>⟨T'++U,rc2,uc2,?_⟩⟩
    ·rw[<-ybp];exact yak _ hmem
    ·rw[<-ybp]
     refine⟨o4,λb u m1 m2 m3 m4 h=>k4 b u m1 m2 m3 m4 (k3 b u m1 m2 m3 m4 h),tc4,λz hz mz=>?_,?_,by omega⟩
     ·rw[tj]at hz
      rcases yai.mp hz with y1|y1
      ·rw[yac];exact cov_mono _ (c3 z y1 mz)
      ·rw[yae.mp y1]at mz ⊢;exact c4 mz
     ·rw[tj]
      exact uo4.stepN
   ·rintro σ H3 ⟨T',rc',uc',b3,rfl,o3,k3,tc3,c3,uo3,ul3⟩
    rw[yaa,ya0]at c3 uo3
    rw[yaa]at ul3
    have sl:ss.length<=61:=by rw[pm.length_eq];exact want_le (bd.bnd p hpS)
    walk_at "rd"
    refine⟨dn+1,by simp,Tc++T',rc',uc',o3,λb u m1 m2 m3 m4 h=>k3 b u m1 m2 m3 m4 (s2 _ _ (kc b u m1 m2 m3 m4 h)),tc3,λme=>by rw[List.map_append];exact cov_mono _ (cvc me),by omega,by rw[<-List.append_assoc,List.length_append];omega,λq hq z hz mz=>?_,?_,by omega⟩
    ·rw[<-ybp,ycd (by omega),ya4,hp]at hq
     rcases yai.mp hq with y1|y1
     ·rw[yac];exact cov_mono _ (cl q y1 z hz mz)
     ·have e1:q=p:=yae.mp y1
      rw[e1]at hz
      exact c3 z (pm.mem_iff.mpr (want_mem.mpr hz)) mz
    ·rw[<-ybp,ycd (by omega),ya4,hp]
     exact uo3.stepP λz=>(pm.mem_iff.trans want_mem)
  ·have hge:dn=(G++Tc).length:=by
    have:=of_decide_eq_false (Bool.eq_false_iff.mpr hge)
    omega
   rw[hge,ya0]at cl uoc
   refine k Tc rc uc Hc oc kc tcc ⟨cvc,λq hq z hz mz=>?_⟩ uoc.dmT
   rw[<-yac]at hq
   obtain⟨u,hu,rfl⟩:=yag.mp hq
   exact cl u hu z hz mz
theorem stor{H0 H:Hp}{x:Addr}{o:HO}(fr:∀b o,b≠x->H0 b=some o->H b=some o):∀b u,b≠x->H0 b=some u->upd H x o b=some u:=λb u n e=>by rw[upd_ne n];exact fr b u n e
theorem sg_nil:Sg (Str.ofString ""):=λx hx=>by
 have e:(Str.ofString "").cps.toList=[]:=by decide +kernel
 simp[e]at hx
theorem G_qqy(T:Txt K mg A):FnOk P w K mg base (CXE P w) 4 A.qqy A.fd_qqy ["self", "given", "shelves", "entry"] (sp_tkinit A):=by
 refine T.F_qqy.okE sc_qqy (λvs H Q E h=>?_) (λcdv Ar outer s H vs Q E hr h=>?_)
 ·obtain⟨x,dx,g,s,e,G,xs,rfl,_⟩:=h
  rfl
 ·obtain⟨x,dx,g,s,e,G,xs,rfl,hx,⟨hG,hS,bd0⟩,k,kx,ky⟩:=h
  refine⟨_,(zz3 (ps_set (i:=4) sc_qqy.nd rfl (by walk_at "o") (zz10 (G_qyy T) (hr.mono (by decide)) rfl T.m_qyy T.k_qyy T.b_qyy .nil pass0 (zz0 (pv 2) pa_nil))) (zz3 (zz20 (zz10 (G_qqz T) (hr.mono (by decide)) rfl T.m_qqz T.k_qqz T.b_qqz .nil (passesE xe_cx) (zz0 (pe_op (op_catSK (K:=K) rfl) (pv 1) (pv 4)) pa_nil))) (zz3 (ps_fld (pv 0) (pe_callTy (zz27 (K:=K) rfl) (by rfl) T.n_list bt_list (zz0 (pv 1) pa_nil)) rfl) (zz3 (ps_fld (pv 0) (pe_lst pa_nil) rfl) (zz3 (ps_fld (pv 0) (zz10 (G_qqv T) (hr.mono (by decide)) rfl T.m_qqv T.k_qqv T.b_qqv .nil pass0 (zz0 (pv 1) pa_nil)) rfl) (zz3 (ps_fld (pv 0) (zz10 (G_qqv T) (hr.mono (by decide)) rfl T.m_qqv T.k_qqv T.b_qqv .nil pass0 (zz0 (pv 4) pa_nil)) rfl) (zz3 (ps_fld (pv 0) pe_dnewK rfl) (zz3 (ps_fld (pv 0) pe_dnewK rfl) (pss_weak (u:=iI A E) (zz3 (zz20 (pe_meth (pv 0) T.cl_qxy T.me_qqx (G_qqx T) (hr.mono (by decide)) T.b_qqx .nil pass0 (zz0 (pv 3) (zz0 pe_str pa_nil)))) (zz3 (zz20 (pe_meth0 (pv 0) T.cl_qxy T.me_qqq (G_qqq T) (hr.mono (by decide)) T.b_qqq .nil pass0 )) (zz5 (ps_if (pt_truth (pe_fld (pv 0) rfl) (λ_=>rfl)) (zz3 (ps_set (i:=5) sc_qqy.nd rfl (by walk_at "o") (zz11 (call_minD rfl) (by rfl) T.n_min bt_min (zz0 (pe_fld (pv 0) rfl) pa_nil))) (zz5 (ps_raiseI (G_qqk T) (hr.mono (by decide)) T.b_qqk T.er_qxj rfl T.mc_qxj rfl xe_cx (zz0 (pv 5) (zz0 (pe_dget (hu_of hr) (pe_fld (pv 0) rfl) (pv 5) (λ_ _=>rfl)) pa_nil))))) zz16)))) ?ii))))))))),?main⟩
  case ii=>
   rintro D σ Hk ⟨t,g,s,l,e,G,xs,H,rfl,o,bd,rHk,lpn,lrn,dfn,dun,k,kx⟩
   walk_at "rd"
   refine⟨_,_,o.top,rfl,t,rfl,e,G,flat xs,[],[],[],o,bd,⟨List.nodup_nil,(λp hp=>by cases hp),rfl,(λi p r hp=>by cases hp)⟩,λz b=>False,⟨List.nodup_nil,(λu hu=>by cases hu),(λ_ _ h=>h.elim)⟩,ya1 _,.inl rfl,λT' rs' us' Hl ol kl tl cl uol ull=>?_⟩
   refine⟨_,_,ol.top,rfl,t,rfl,e,G,flat xs,_,rs',us',ol,bd,tl,cl,uol.iff (λz b=>⟨λh=>h.elim False.elim λq=>⟨q.2.1▸q.1,q.2.2,q.2.1⟩,λq=>.inr ⟨q.2.2▸q.1,q.2.2,q.2.1⟩⟩),by simpa using ull,λT2 rs2 us2 Hm om km tm cm uom=>⟨_,_,_,om.top,T.cl_qxy,T.no_qxy_unmet,_,TkI.l6 _,_,.inr (.inr ⟨_,om.du,rfl⟩),?_⟩⟩
   have rm:∀b u,b≠t.x->H b=some u->Hm b=some u:=λb u n h=>km b u (λq=>by rw[q,lpn]at h;cases h) (λq=>by rw[q,lrn]at h;cases h) (λq=>by rw[q,dfn]at h;cases h) (λq=>by rw[q,dun]at h;cases h) (kl b u (λq=>by rw[q,lpn]at h;cases h) (λq=>by rw[q,lrn]at h;cases h) (λq=>by rw[q,dfn]at h;cases h) (λq=>by rw[q,dun]at h;cases h) (rHk b u n h))
   cases us2 with
   |nil=>
    rw[if_neg (by decide)]
    exact k T2 rs2 Hm om rm tm cm (λz b h=>by obtain⟨u,hu,_⟩:=uom.all z b h;cases hu)
   |cons u0 ur=>
    rw[if_pos (by rfl)]
    generalize hus:u0::ur=us2 at *
    have une:us2.map (·.1)≠[]:=by rw[<-hus];simp
    refine⟨_,_,_,om.top,T.cl_qxy,T.no_qxy_unmet,_,TkI.l6 _,t.du,rfl,usK us2,.inl om.du,us2.map (·.1),by unfold usK;rw[List.map_map,List.map_map];rfl,une,λm hm hl=>?_⟩
    obtain⟨u,hu,eu⟩:=yag.mp hm
    have gm:DGet Hm t.du (V.str m) (some (V.str u.2)):=by
     have:=DGet.k (k:=Sum.inr m) om.du
     rw[<-eu,us_look uom.nd hu,eu]at this
     exact this
    have dm:=uom.in_ u hu
    rw[eu]at dm
    have inS:∀q∈G.map pcE++T2.map pcE,∃p∈G++flat xs,pcE p=q:=λq hq=>by
     rw[<-yac]at hq
     obtain⟨p,hp,e⟩:=yag.mp hq
     exact⟨p,(yai.mp hp).elim (yak _) λy=>yaj _ (om.sub p y),e⟩
    have sm:SmT m:=by
     rcases dm.2 with ⟨_,q⟩|⟨q,hq,_,hw⟩
     ·rw[q];exact bd.en
     ·obtain⟨p,hp,e⟩:=inS q hq
      exact bd.wn p hp m (by rw[e];exact hw)
    have sb:SmT u.2:=by
     rcases dm.2 with ⟨q,_⟩|⟨q,hq,hn,_⟩
     ·rw[q];exact⟨by decide +kernel,sg_nil⟩
     ·obtain⟨p,hp,e⟩:=inS q hq
      rw[<-hn,<-e];exact bd.nm p hp
    have lu:LeastU (G.map pcE) ((flat xs).map pcE) e (T2.map pcE) m u.2:=by
     refine⟨dm,λz' b' hd=>?_,λb' hd=>?_⟩
     ·obtain⟨v,hv,e1,_⟩:=uom.all z' b' hd
      exact hl z' (yag.mpr ⟨v,hv,e1⟩)
     ·obtain⟨v,hv,e1,e2⟩:=uom.all m b' hd
      rw[key_inj uom.nd hu hv (eu.trans e1.symm)];exact e2
    refine⟨_,_,_,om.top,T.cl_qxy,T.no_qxy_unmet,_,TkI.l6 _,t.du,rfl,_,gm,by walk_at "s", λx6 hx6=>⟨u.2,rfl,zz1,sm.1,sm.2,sb.1,sb.2,λd H' hd hne hk hx' hd'=>.inr ⟨d,hne,hx',_,hd',kx _ _ m u.2 d _ (λb o n q=>?_) tm cm lu ?_⟩⟩⟩
    ·have q2:=rm b o n q
     have hb:=zz4 q2 hx6
     have hdn:=(zz14 hd).2
     rw[del_ne hb,upd_ne (zz4 q2 hdn)]
     exact hk b o hb (by rw[upd_ne hb];exact q2)
    ·rw[del_ne hne,zz1];rfl
  walk_at "rd"
  have few:=bd0.few
  rw[yah]at few
  refine⟨xs,hS,by omega,λl H1 s1 hl e1=>⟨_,SqL.of (s1 _ _ hG.top),_,SqL.of e1,by rw[yaa,yaa,sizeLine_eq];omega,λp hp=>?_⟩⟩
  have atA:∀q∈G++flat xs,q.At H:=λq hq=>(yai.mp hq).elim (hG.at_ q) λy=>by
   obtain⟨x',hx',y⟩:=yav.mp y
   exact(hS.at_ x' hx').at_ q y
  have s2:=s1.trans (zz2 (o:=HO.lst (G.map PcM.v++(flat xs).map PcM.v)) hp)
  refine⟨G++flat xs,⟨by rw[zz1,yac],λq hq=>(atA q hq).mono s2⟩,by rw[yah];omega,bd0.nm,λnd H2 s3=>⟨_,.inl (SqL.of (s3 _ _ (s2 _ _ hG.top))),λlp hlp=>?_⟩,λz d H2 s3 db lz hd=>ky z d H2 (λb o _ e=>s3 _ _ (s2 _ _ e)) db lz hd⟩
  have bd:=bd0.full nd
  have s4:=s2.trans s3
  have e4:=s3 _ _ (zz2 hp _ _ e1)
  clear s1 s2 s3 e1 hp
  have s5:=s4.trans (zz2 (o:=HO.lst (G.map PcM.v)) hlp)
  have e5:=zz2 (o:=HO.lst (G.map PcM.v)) hlp _ _ e4
  have lp5:upd H2 lp (HO.lst (G.map PcM.v)) lp=some (HO.lst (G.map PcM.v)):=zz1
  have lpn:H lp=none:=s4.free hlp
  have nx5:=s5 _ _ hx
  have n1:lp≠x:=Ne.symm (zz4 (s4 _ _ hx) hlp)
  have n1l:l≠lp:=zz4 e4 hlp
  generalize upd H2 lp (HO.lst (G.map PcM.v))=H5 at *
  refine⟨_,_,_,nx5,T.cl_qxy,T.no_qxy_pieces,by show 0<1000;decide,ya1 _,λlr hlr=>?_⟩
  have ra:=stor (x:=x) (o:=HO.ins A.c_qxy dx (pfA lp)) (λb o _ e=>s5 b o e)
  have lpa:=upd_ne n1 (H:=H5) (o:=HO.ins A.c_qxy dx (pfA lp))▸lp5
  have nlx:l≠x:=λe=>by rw[e,hx]at hl;cases hl
  have la:upd H5 x (HO.ins A.c_qxy dx (pfA lp)) l=some (HO.lst ((flat xs).map PcM.v)):=by rw[upd_ne nlx];exact e5
  have xa:upd H5 x (HO.ins A.c_qxy dx (pfA lp)) x=some (HO.ins A.c_qxy dx (pfA lp)):=zz1
  generalize upd H5 x (HO.ins A.c_qxy dx (pfA lp))=Ha at *
  have n2:lr≠x:=Ne.symm (zz4 xa hlr)
  have n12:lp≠lr:=zz4 lpa hlr
  have lrn:H lr=none:=by
   cases q:H lr with
   |none=>rfl
   |some u=>rw[ra lr u n2 q]at hlr;cases hlr
  have sb:=zz2 (o:=HO.lst []) hlr
  have lrb:upd Ha lr (HO.lst []) lr=some (HO.lst []):=zz1
  generalize upd Ha lr (HO.lst [])=Hb at *
  refine⟨_,_,_,sb _ _ xa,T.cl_qxy,T.no_qxy_qxq,by show 1<1000;decide,?_⟩
  have rc:=stor (x:=x) (o:=HO.ins A.c_qxy dx (pfB lp lr)) (λb o n e=>sb b o (ra b o n e))
  have rac:=stor (x:=x) (o:=HO.ins A.c_qxy dx (pfB lp lr)) (λb o _ e=>sb b o e)
  have lrc:upd Hb x (HO.ins A.c_qxy dx (pfB lp lr)) lr=some (HO.lst []):=by rw[upd_ne n2];exact lrb
  have xc:upd Hb x (HO.ins A.c_qxy dx (pfB lp lr)) x=some (HO.ins A.c_qxy dx (pfB lp lr)):=zz1
  generalize upd Hb x (HO.ins A.c_qxy dx (pfB lp lr))=Hc at *
  have insx:(∀xs:List V,HO.ins A.c_qxy dx []≠.lst xs)/\∀xs:List V,HO.ins A.c_qxy dx []≠.tup xs:=⟨(λ_ z=>by cases z),(λ_ z=>by cases z)⟩
  refine⟨G,pl_lt (lt_ne hx insx rc) hG,by omega,λp hp=>bd.bnd p (yak _ hp),λdg Hd sd hdg fg=>⟨_,_,_,sd _ _ xc,T.cl_qxy,T.no_qxy_told_by_given,by show 2<1000;decide,?_⟩⟩
  have n3:dg≠x:=Ne.symm (zz4 xc hdg)
  have rce:=stor (x:=x) (o:=HO.ins A.c_qxy dx (pfC lp lr dg)) (λb o _ e=>sd b o e)
  have rde:=stor (H0:=Hd) (x:=x) (o:=HO.ins A.c_qxy dx (pfC lp lr dg)) (λb o _ e=>e)
  have xe:upd Hd x (HO.ins A.c_qxy dx (pfC lp lr dg)) x=some (HO.ins A.c_qxy dx (pfC lp lr dg)):=zz1
  generalize upd Hd x (HO.ins A.c_qxy dx (pfC lp lr dg))=He at *
  have re:∀b o,b≠x->H b=some o->He b=some o:=λb o n e=>rce b o n (rc b o n e)
  have le:=rce _ _ nlx (rac _ _ nlx la)
  refine⟨flat xs,⟨le,λp hp=>at_lt (lt_ne hx insx re) (atA p (yaj _ hp))⟩,by omega,λp hp=>bd.bnd p (yaj _ hp),λds Hf sf hds fs=>⟨_,_,_,sf _ _ xe,T.cl_qxy,T.no_qxy_on_shelves,by show 3<1000;decide,λdf hdf=>?_⟩⟩
  obtain⟨kg,hkg,vg⟩:=fg
  obtain⟨ks,hks,vs⟩:=fs
  have n4:ds≠x:=Ne.symm (zz4 xe hds)
  have rfg:=stor (H0:=Hf) (x:=x) (o:=HO.ins A.c_qxy dx (pfD lp lr dg ds)) (λb o _ e=>e)
  have xg:upd Hf x (HO.ins A.c_qxy dx (pfD lp lr dg ds)) x=some (HO.ins A.c_qxy dx (pfD lp lr dg ds)):=zz1
  generalize upd Hf x (HO.ins A.c_qxy dx (pfD lp lr dg ds))=Hg at *
  have reg:∀b o,b≠x->He b=some o->Hg b=some o:=λb o n e=>rfg b o n (sf b o e)
  have dgg:=reg _ _ n3 (rde _ _ n3 hkg)
  have dsg:=rfg _ _ n4 hks
  have n5:df≠x:=Ne.symm (zz4 xg hdf)
  have sh:=zz2 (o:=HO.dK []) hdf
  have dfh:upd Hg df (HO.dK []) df=some (HO.dK []):=zz1
  have dfn:H df=none:=by
   cases q:H df with
   |none=>rfl
   |some u=>rw[reg df u n5 (re df u n5 q)]at hdf;cases hdf
  have n35:dg≠df:=zz4 dgg hdf
  have n45:ds≠df:=zz4 dsg hdf
  generalize upd Hg df (HO.dK [])=Hh at *
  refine⟨_,_,_,sh _ _ xg,T.cl_qxy,T.no_qxy_from_shelves,by show 4<1000;decide,λdu hdu=>?_⟩
  have rhi:=stor (H0:=Hh) (x:=x) (o:=HO.ins A.c_qxy dx (pfE lp lr dg ds df)) (λb o _ e=>e)
  have xi:upd Hh x (HO.ins A.c_qxy dx (pfE lp lr dg ds df)) x=some (HO.ins A.c_qxy dx (pfE lp lr dg ds df)):=zz1
  generalize upd Hh x (HO.ins A.c_qxy dx (pfE lp lr dg ds df))=Hi at *
  have n6:du≠x:=Ne.symm (zz4 xi hdu)
  have n65:du≠df:=Ne.symm (zz4 (rhi _ _ n5 dfh) hdu)
  have n36:dg≠du:=zz4 (rhi _ _ n3 (sh _ _ dgg)) hdu
  have n46:ds≠du:=zz4 (rhi _ _ n4 (sh _ _ dsg)) hdu
  have sj:=zz2 (o:=HO.dK []) hdu
  have duj:upd Hi du (HO.dK []) du=some (HO.dK []):=zz1
  generalize upd Hi du (HO.dK [])=Hj at *
  refine⟨_,_,_,sj _ _ xi,T.cl_qxy,T.no_qxy_unmet,by show 5<1000;decide,?_⟩
  have rjk:=stor (H0:=Hj) (x:=x) (o:=HO.ins A.c_qxy dx (TkI.attrs ⟨x,dx,lp,lr,dg,ds,df,du⟩)) (λb o _ e=>e)
  have xk:upd Hj x (HO.ins A.c_qxy dx (TkI.attrs ⟨x,dx,lp,lr,dg,ds,df,du⟩)) x=some (HO.ins A.c_qxy dx (TkI.attrs ⟨x,dx,lp,lr,dg,ds,df,du⟩)):=zz1
  have rgk:∀b o,b≠x->Hg b=some o->upd Hj x (HO.ins A.c_qxy dx (TkI.attrs ⟨x,dx,lp,lr,dg,ds,df,du⟩)) b=some o:=λb o n e=>rjk b o n (sj _ _ (rhi b o n (sh _ _ e)))
  have rHk:∀b o,b≠x->H b=some o->upd Hj x (HO.ins A.c_qxy dx (TkI.attrs ⟨x,dx,lp,lr,dg,ds,df,du⟩)) b=some o:=λb o n e=>rgk b o n (reg b o n (re b o n e))
  have o:TkO A.c_qxy (upd Hj x (HO.ins A.c_qxy dx (TkI.attrs ⟨x,dx,lp,lr,dg,ds,df,du⟩))) ⟨x,dx,lp,lr,dg,ds,df,du⟩ G (flat xs) [] [] []:=by
   refine⟨xk,?_,?_,(λr hr=>by cases hr),⟨kg,rgk _ _ n3 dgg,vg⟩,⟨ks,rgk _ _ n4 dsg,vs⟩,rjk _ _ n5 (sj _ _ (rhi _ _ n5 dfh)),rjk _ _ n6 duj,λp hp=>⟨at_lt (lt_ne hx insx rHk) (atA p hp),λy=>?_,λy=>?_⟩,n12,⟨n35,n45,n65⟩,⟨n36,n46⟩,(λp hp=>by cases hp)⟩
   ·rw[ybc]
    exact rgk _ _ n1 (reg _ _ n1 (rce _ _ n1 (rac _ _ n1 lpa)))
   ·exact rgk _ _ n2 (reg _ _ n2 (rce _ _ n2 lrc))
   ·obtain⟨ys,z⟩:=(atA p hp).list y
    rw[lpn]at z;cases z
   ·obtain⟨ys,z⟩:=(atA p hp).list y
    rw[lrn]at z;cases z
  have dun:H du=none:=by
   cases q:H du with
   |none=>rfl
   |some u=>rw[rhi du u n6 (sh _ _ (reg du u n6 (re du u n6 q)))]at hdu;cases hdu
  exact⟨⟨x,dx,lp,lr,dg,ds,df,du⟩,g,s,l,e,G,xs,H,rfl,o,bd,rHk,lpn,lrn,dfn,dun,λT2 rs2 Hm om rm tm cm nu=>k ⟨x,dx,lp,lr,dg,ds,df,du⟩ T2 rs2 Hm nd rfl om rm lpn lrn tm cm nu,λT rs z b d H'=>kx T rs z b d H' nd⟩
noncomputable def zF(H:Hp)(b:Addr):Str:=match H b with | some (.tup (.str n::_))=>n | _=>Str.ofString ""
noncomputable def rF(H:Hp)(b:Addr):List V:=match H b with | some (.tup (.str _::r))=>r | _=>[]
theorem by_adr(at_:∀p∈ps,p.At H)(nd:(ps.map PcM.name).Nodup)(pm:bs.Perm (ps.map PcM.t)):∃so:List PcM,so.Perm ps/\so.map PcM.t=bs:=by
 have one:∀p∈ps,∀q∈ps,p.t=q.t->p=q:=λp hp q hq e=>by
  have h1:=(at_ p hp).top
  have h2:=(at_ q hq).top
  rw[e,h2]at h1
  have en:q.name=p.name:=by
   have:=Option.some.inj h1
   injection this with this
   injection this with this _
   injection this
  obtain⟨i,hi,rfl⟩:=ycu hp
  obtain⟨j,hj,rfl⟩:=ycu hq
  have pw:=yb0.mp nd
  rcases Nat.lt_trichotomy i j with z|z|z
  ·exact absurd (by rw[List.getElem_map,List.getElem_map];exact en.symm) (pw i j (by simpa using hi) (by simpa using hj) z)
  ·subst z;rfl
  ·exact absurd (by rw[List.getElem_map,List.getElem_map];exact en) (pw j i (by simpa using hj) (by simpa using hi) z)
 let g:Addr->PcM:=λb=>(ps.find? λp=>decide (p.t=b)).getD ⟨0,0,0,Str.ofString "", [],[]⟩
 have hg:∀p∈ps,g p.t=p:=λp hp=>by
  show(ps.find? λq=>decide (q.t=p.t)).getD _=p
  cases hf:ps.find? λq=>decide (q.t=p.t) with
  |none=>exact absurd (decide_eq_true rfl) (List.find?_eq_none.mp hf p hp)
  |some q=>exact(one p hp q (ybs hf) (of_decide_eq_true (List.find?_some (p:=λq:PcM=>decide (q.t=p.t)) hf)).symm).symm
 refine⟨bs.map g,?_,?_⟩
 ·have:=pm.map g
  rw[ya6,(ybq (f:=g ∘ PcM.t) (g:=id) λp hp=>hg p hp),List.map_id]at this
  exact this
 ·rw[ya6]
  refine(ybq (g:=id) λb hb=>?_).trans (List.map_id _)
  obtain⟨p,hp,rfl⟩:=yag.mp (pm.mem_iff.mp hb)
  show(g p.t).t=p.t
  rw[hg p hp]
theorem tk_nd(bd:TkB G S e)(tc:TkC (G.map pcE) (S.map pcE) e (T.map pcE) rs)(sub:∀p∈T,p∈S):((G++T).map PcM.name).Nodup:=by
 have h:=bd.nd
 rw[yac]at h ⊢
 obtain⟨h1,h2,h3⟩:=ya3.mp h
 refine ya3.mpr ⟨h1,?_,λx hx y hy=>?_⟩
 ·have:=tc.nd
  rw[ya6]at this
  exact this
 ·obtain⟨u,hu,rfl⟩:=yag.mp hy
  exact h3 x hx _ (yag.mpr ⟨u,sub u hu,rfl⟩)
theorem nm_core(ps:List PcM):(ps.map pcE).map (·.1)=ps.map PcM.name:=by rw[ya6];rfl
theorem nm_core2(G S:List PcM):(G.map pcE++S.map pcE).map (·.1)=(G++S).map PcM.name:=by rw[<-yac,nm_core]
theorem G_taken(T:Txt K mg A):FnOk P w K mg base (CXE P w) 6 A.taken A.fd_taken ["given", "shelves", "entry"] (sp_taken A):=by
 refine T.F_taken.okCE T.lm_taken sc_taken (λvs H Q E h=>?_) (λc cdv Ar outer s H vs Q E hcd hcc hr h=>?_)
 ·obtain⟨g,s,e,G,xs,rfl,_⟩:=h
  rfl
 ·obtain⟨g,s,e,G,xs,rfl,hp,tb,k,kx⟩:=h
  refine⟨_,(zz3 (ps_set (i:=3) sc_taken.nd rfl (by walk_at "o") (pe_make T.mk_qxy (G_qqy T) (hr.mono (by decide)) rfl T.mc_qxy T.b_qqy .nil (passesE xe_cx) (zz0 (pv 0) (zz0 (pv 1) (zz0 (pv 2) pa_nil))))) (zz3 (ps_set (i:=4) sc_taken.nd rfl (by walk_at "o") (pe_sortL (K:=K) (P:=A.tb_taken) (y := "piece") rfl (hr.mono (by decide)) (pe_fld (pv 3) rfl) (by rfl) T.n_sorted hcd hcc T.bm ⟨rfl,rfl,rfl,by decide +kernel,rfl,by decide +kernel,by decide +kernel⟩ (λ_ _ _ _ _ _=>(pe_ix (zz8 (K:=K) rfl) (pv 0) pe_int (λ_ _=>rfl))))) (zz5 (ps_ret (pe_comp (blk_mk (own:=["piece"]) (fr:=[]) (fm:=[]) rfl (by decide +kernel) (by decide +kernel) (by decide +kernel) .nil) rfl (zz12 (K:=K) rfl (pv 4)) (λ_ _ _=>⟨(zz6 (i:=0) (by show List.Nodup (["piece"]:List Str);decide +kernel) rfl (by walk_at "o")),pts_nil,(zz10 (G_qwv T) (hr.mono (by decide)) rfl T.m_qwv T.k_qwv T.b_qwv .nil pass0 (zz0 (pv 0) pa_nil))⟩)))))),?_⟩
  walk_at "rd"
  obtain⟨hG,hS,bd0⟩:=hp
  intro x dx hx hdx n
  have s1:Same H (upd (upd H dx (HO.own x)) x (HO.ins A.c_qxy dx [])):=(zz2 hdx).trans (zz2 (by rw[upd_ne (Ne.symm n)];exact hx))
  refine⟨_,zz1,G,xs,⟨pl_mono hG s1,zz18 hS s1,bd0⟩,λt T' rs H1 nd ex o r f1 f2 tc cl nu=>⟨_,_,_,by rw[<-ex];exact o.top,T.cl_qxy,T.no_qxy_pieces,_,t.l1,?_⟩,λT' rs z b d H1 nd r tc cl lu hd=>(kx (z,some b) d H1 (λb u e=>r b u (zz4 e hx) (s1 _ _ e)) ⟨by rw[nm_core2];exact nd,T',rs,tc,cl,lu⟩).2 b rfl hd,λz d H1 r db lz hd=>(kx (z,none) d H1 (λb u e=>r b u (zz4 e hx) (s1 _ _ e)) (by rw[<-nm_core2]at db lz;exact⟨db,lz⟩)).1 rfl hd⟩
  have bd:=bd0.full nd
  have s2:Same H H1:=λb u e=>r b u (zz4 e hx) (s1 _ _ e)
  have tb1:=tb.more s2
  have bl:=tk_len bd tc o.sub
  have inS:∀p∈G++T',p∈G++flat xs:=λp hp=>(yai.mp hp).elim (yak _) λy=>yaj _ (o.sub p y)
  have ndT:=tk_nd bd tc o.sub
  have atA:∀p∈G++T',p.At H1:=λp hp=>(o.at_ p (inS p hp)).1
  have hz:∀p∈G++T',zF H1 p.t=p.name/\rF H1 p.t=[.ref p.ls,.ref p.ln]:=λp hp=>by
   unfold zF rF
   rw[(atA p hp).top];exact⟨rfl,rfl⟩
  refine⟨_,rfl,(G++T').map PcM.t,by rw[ya6];exact SqL.of o.lp,zF H1,rF H1,λb hb=>?_,by rw[yaa];omega,tb1,λl bs H2 hl pm pw sx tb2 hl2=>?_⟩
  ·obtain⟨p,hp,rfl⟩:=yag.mp hb
   rw[(hz p hp).1,(hz p hp).2];exact(atA p hp).top
  obtain⟨ps0,hT,_⟩:=id tb1
  obtain⟨so,sp,rfl⟩:=by_adr atA ndT pm
  have at2:∀p∈so,p.At H2:=λp hp=>(atA p (sp.mem_iff.mp hp)).keep hT sx
  rw[ya6]at hl2
  have hl2:H2 l=some (.lst (so.map PcM.v)):=hl2
  have sln:so.length<=16:=by rw[sp.length_eq];exact bl
  refine CompL.of (xs:=so.map PcM.v) (by rw[yaa,sizeLine_eq];omega) (SqL.of hl2) (λD i ys H'=>Same H2 H'/\H' D=some (.lst ys)/\ys.length=i)
   (λD hD=>⟨zz2 hD,zz1,rfl⟩) ?_ ?_ ?_
  ·rintro D i ys H' hD hi ⟨s3,hDD,e⟩
   exact⟨SqL.of (s3 _ _ hl2),hDD,by omega⟩
  ·rintro D i x ys H' hD hx ⟨s3,hDD,e⟩
   walk_at "0"
   obtain⟨p,hp,rfl⟩:=yao.mp hx
   have hm:=yan hp
   have pb:=bd.bnd p (inS p (sp.mem_iff.mp hm))
   walk_at "rd"
   exact⟨.no .nil,p,rfl,(at2 p hm).mono s3,ycm pb.st,ycm pb.nm,λs hs=>ycm (pb.ss s hs).2,λq H4 s4 qa qe qf qn=>⟨s4 _ _ hDD,zz9 hD (s3.trans s4),zz1,by rw[yah,e];rfl⟩⟩
  ·rintro D ys H' hD ⟨s3,hDD,e⟩
   exact k D ys H' (λb u n h=>s3 _ _ (sx b u n (s2 _ _ h))) (tb2.more s3) hDD ⟨by rw[nm_core2];exact nd,_,_,tc,cl,nu⟩
theorem G_qxq(T:Txt K mg A):FnOk P w K mg base (CXE P w) 6 A.qxq A.fd_qxq ["given", "shelves", "entry"] (sp_reasonsX A):=by
 refine T.F_qxq.okE sc_qxq (λvs H Q E h=>?_) (λcdv Ar outer s H vs Q E hr h=>?_)
 ·obtain⟨g,s,e,G,xs,rfl,_⟩:=h
  rfl
 ·obtain⟨g,s,e,G,xs,rfl,hp,k,kx⟩:=h
  refine⟨_,(zz5 (ps_ret (pe_fld (pe_make T.mk_qxy (G_qqy T) (hr.mono (by decide)) rfl T.mc_qxy T.b_qqy .nil (passesE xe_cx) (zz0 (pv 0) (zz0 (pv 1) (zz0 (pv 2) pa_nil)))) rfl))),?_⟩
  walk_at "rd"
  obtain⟨hG,hS,bd0⟩:=hp
  intro x dx hx hdx n
  have s1:Same H (upd (upd H dx (HO.own x)) x (HO.ins A.c_qxy dx [])):=(zz2 hdx).trans (zz2 (by rw[upd_ne (Ne.symm n)];exact hx))
  exact⟨_,zz1,G,xs,⟨pl_mono hG s1,zz18 hS s1,bd0⟩,λt T' rs H1 nd ex o r f1 f2 tc cl nu=>⟨_,_,_,by rw[<-ex];exact o.top,T.cl_qxy,T.no_qxy_qxq,_,t.l2,k t.lr _ H1 (λb u e=>r b u (zz4 e hx) (s1 _ _ e)) o.lr ⟨by rw[nm_core2];exact nd,_,_,tc,cl,nu⟩⟩,λT' rs z b d H1 nd r tc cl lu hd=>(kx (z,some b) d H1 (λb u e=>r b u (zz4 e hx) (s1 _ _ e)) ⟨by rw[nm_core2];exact nd,T',rs,tc,cl,lu⟩).2 b rfl hd,λz d H1 r db lz hd=>(kx (z,none) d H1 (λb u e=>r b u (zz4 e hx) (s1 _ _ e)) (by rw[<-nm_core2]at db lz;exact⟨db,lz⟩)).1 rfl hd⟩
theorem Copy.e(h:p.Copy q):pcE q=pcE p:=by
 have e:∀l:List StM,l.map StM.e=(l.map StM.core).map λc=>(c.1,c.2.1,c.2.2.1,c.2.2.2.map FillM.e):=λl=>by rw[ya6];rfl
 unfold pcE
 rw[h.name,h.nms,e,h.sts,<-e]
theorem co_d(p:PcM):p.d=coD (pcE p):=by
 unfold PcM.d coD pcE
 simp only[List.map_map]
 congr 3
 ·congr 1
  refine ybq λs _=>?_
  show StM.d s=_
  unfold StM.d
  simp only[Function.comp,StM.e,List.map_map]
  rfl
theorem copies_row(hS:Shv H S xs)(few:xs.length<=100)(bd:∀x∈xs,x.2.length<=100/\∀p∈x.2,PcB p)
  (k:∀(D:Addr) (ys:List (Addr×List PcM)) (H':Hp),Same H H'->Shv H' D ys->H D=none->ys.map (λy=>y.2.map pcE)=xs.map (λx=>x.2.map pcE)->Q (.ref D) H'):
  CompL K (gName 0) tYes (tComp 1 [] (iList K (tVar 0)) (gName 0) tYes (tCall (sp_copy K) [] E0 (tCons (tVar 0) tNil))) [none] Q (V.ref S) H:=by
 refine CompL.of (xs:=xs.map λx=>V.ref x.1) (by rw[yaa,sizeLine_eq];omega) (SqL.of hS.top) (λD i vs H'=>∃ys:List (Addr×List PcM),vs=ys.map (λy=>V.ref y.1)/\Same H H'/\H' D=some (.lst vs)/\(∀y∈ys,PL H' y.1 y.2/\y.1≠D/\∀p∈y.2,D∉p.lists)/\ys.map (λy=>y.2.map pcE)=(xs.take i).map λx=>x.2.map pcE)
  (λD hD=>⟨[],rfl,zz2 hD,zz1,(λq hq=>by cases hq),rfl⟩) ?_ ?_ ?_
 ·rintro D i vs H' hD hi ⟨ys,rfl,s1,hDD,ya,e⟩
  refine⟨SqL.of (s1 _ _ hS.top),hDD,?_⟩
  have:=congrArg List.length e
  walk_at "8"
  rw[yaa];omega
 ·rintro D i v vs H' hD hv ⟨ys,rfl,s1,hDD,ya,e⟩
  walk_at "6"
  obtain⟨x,hx,rfl⟩:=yao.mp hv
  have hm:=yan hx
  have px:=hS.at_ x hm
  obtain⟨b1,b2⟩:=bd x hm
  walk_at "rd"
  refine⟨.no .nil,?_⟩
  refine CompL.of (xs:=x.2.map PcM.v) (by rw[yaa,sizeLine_eq];omega) (SqL.of (s1 _ _ px.top)) (λD2 j vs H2=>∃qs:List PcM,vs=qs.map PcM.v/\Same H' H2/\H2 D2=some (.lst vs)/\(∀q∈qs,q.At H2/\D2∉q.lists/\D∉q.lists)/\qs.map pcE=(x.2.take j).map pcE)
   (λD2 hD2=>⟨[],rfl,zz2 hD2,zz1,(λq hq=>by cases hq),rfl⟩) ?_ ?_ ?_
  ·rintro D2 j vs H2 hD2 hj ⟨qs,rfl,s2,hDD2,qa,e2⟩
   refine⟨SqL.of (s2 _ _ (s1 _ _ px.top)),hDD2,?_⟩
   have:=congrArg List.length e2
   walk_at "8"
   rw[yaa];omega
  ·rintro D2 j v vs H2 hD2 hv ⟨qs,rfl,s2,hDD2,qa,e2⟩
   walk_at "6"
   walk_at "7"
   have hpm:=yan hp
   have pb:=b2 p hpm
   walk_at "rd"
   refine⟨.no .nil,p,rfl,(px.at_ p hpm).mono (s1.trans s2),pb.st,ycm pb.nm,pb.ss,λq H3 s3 ra cp fr nd=>⟨s3 _ _ hDD2,qs++[q],by simp,zz9 hD2 (s2.trans s3),zz1,λy hy=>?_,?_⟩⟩
   ·have bt:But H3 (upd H3 D2 (.lst (qs.map PcM.v++[q.v]))) D2:=But.upd (s3 _ _ hDD2)
    rcases yai.mp hy with z|z
    ·obtain⟨y1,y2,y3⟩:=qa y z
     exact⟨(y1.mono s3).but bt y2,y2,y3⟩
    ·rw[yae.mp z]
     have z1:D2∉q.lists:=λz=>by have:=fr D2 z;rw[hDD2]at this;cases this
     have z2:D∉q.lists:=λz=>by have:=fr D z;rw[s2 _ _ hDD]at this;cases this
     exact⟨ra.but bt z1,z1,z2⟩
   ·rw[yac,e2,ya4,hp,yac]
    congr 1
    show [pcE q]=[pcE p]
    rw[Copy.e cp]
  ·rintro D2 vs H2 hD2 ⟨qs,rfl,s2,hDD2,qa,e2⟩
   rw[yaa,ya0]at e2
   have bt:But H2 (upd H2 D (.lst (ys.map (λy=>V.ref y.1)++[V.ref D2]))) D:=But.upd (s2 _ _ hDD)
   refine⟨s2 _ _ hDD,ys++[(D2,qs)],by simp,zz9 hD (s1.trans s2),zz1,λy hy=>?_,?_⟩
   ·rcases yai.mp hy with z|z
    ·obtain⟨y1,y2,y3⟩:=ya y z
     exact⟨⟨bt.2 _ _ (s2 _ _ y1.top) y2,λp hp=>((y1.at_ p hp).mono s2).but bt (y3 p hp)⟩,y2,y3⟩
    ·rw[yae.mp z]
     have n:D2≠D:=Ne.symm (zz4 hDD hD2)
     exact⟨⟨bt.2 _ _ hDD2 n,λp hp=>(qa p hp).1.but bt (qa p hp).2.2⟩,n,λp hp=>(qa p hp).2.2⟩
   ·rw[yac,e,ya4,hx,yac]
    congr 1
    show [qs.map pcE]=[x.2.map pcE]
    rw[e2]
 ·rintro D vs H' hD ⟨ys,rfl,s1,hDD,ya,e⟩
  walk_at "4"
  exact k D ys H' s1 ⟨hDD,λy hy=>(ya y hy).1⟩ hD e
theorem cut1(xs:List V):cutV xs (some 1) none=xs.drop 1:=by
 unfold cutV
 have e:HT.sIx xs.length 0 (some 1)=min 1 xs.length:=HT.sIx_nat _ _ 1
 have e0:HT.sIx xs.length xs.length none=xs.length:=rfl
 rw[e,e0]
 cases xs with
 |nil=>rfl
 |cons x r=>
  rw[show min 1 (x::r).length=1 by simp,List.take_of_length_le (by rw[List.length_drop];omega)]
theorem flat_core(h:ys.map (λy=>y.2.map pcE)=xs.map λx=>x.2.map pcE):(flat ys).map pcE=(flat xs).map pcE:=by
 have e:∀l:List (Addr×List PcM),(flat l).map pcE=(l.map λx=>x.2.map pcE).flatten:=λl=>by
  unfold flat
  rw[List.map_flatMap,List.flatMap_def]
 rw[e,e,h]
theorem len_four{α:Type}{l:List α}(h:l.length=4):∃a b c d,l=[a,b,c,d]:=by
 match l,h with
 |[a,b,c,d],_=>exact⟨a,b,c,d,rfl⟩
theorem fl_core(c:List (Str×Int×List Int×List FillM)):∀{ss:List StM},ss.map StM.e=c->(fillsOf ss).length=(c.map λs=>s.2.2.2.length).sum/\ss.length=c.length/\∀s∈ss,∃x∈c,s.words.length=x.2.2.1.length/\s.fills.length=x.2.2.2.length
 := by
 intro ss h
 subst h
 refine⟨?_,by rw[yaa],λs hs=>⟨StM.e s,yag.mpr ⟨s,hs,rfl⟩,rfl,by unfold StM.e;rw[List.length_map]⟩⟩
 unfold fillsOf
 rw[List.length_flatMap,ya6]
 refine congrArg List.sum (ybq λs _=>?_)
 show s.fills.length=(s.fills.map FillM.e).length
 rw[yaa]
theorem pcb_copy(h:PcB p)(e:pcE q=pcE p):PcB q:=by
 have e1:q.nms.map ToldM.e=p.nms.map ToldM.e:=congrArg (·.2.1) e
 have e2:q.sts.map StM.e=p.sts.map StM.e:=congrArg (·.2.2) e
 have l1:q.nms.length=p.nms.length:=by have:=congrArg List.length e1;rwa [yaa,yaa]at this
 have l2:q.sts.length=p.sts.length:=by have:=congrArg List.length e2;rwa [yaa,yaa]at this
 obtain⟨f1,_,_⟩:=fl_core _ e2
 obtain⟨g1,_,_⟩:=fl_core _ (rfl:p.sts.map StM.e=_)
 refine⟨by rw[l1];exact h.nm,by rw[l2];exact h.st,λs hs=>?_,by rw[f1,<-g1];exact h.fl,?_⟩
 ·have m:StM.e s∈q.sts.map StM.e:=yag.mpr ⟨s,hs,rfl⟩
  rw[e2]at m
  obtain⟨s',hs',es⟩:=yag.mp m
  have h1:=h.ss s' hs'
  have w:s'.words=s.words:=congrArg (·.2.2.1) es
  have f:(s'.fills.map FillM.e).length=(s.fills.map FillM.e).length:=congrArg (λx:Str×Int×List Int×List FillM=>x.2.2.2.length) es
  rw[yaa,yaa]at f
  rw[<-w,<-f];exact h1
 ·have n:∀l:List ToldM,l.map ToldM.name=(l.map ToldM.e).map ToldM.name:=λl=>by rw[ya6];rfl
  rw[n,e1,<-n];exact h.nd
theorem cut4(ns:List Int)(h:ns.length<=63):∃ms:List Int,cutV (ns.map V.int) (some 4) (some 204)=ms.map V.int/\ms.length<=61:=by
 refine⟨(ns.drop (HT.sIx (ns.map V.int).length 0 (some 4))).take (HT.sIx (ns.map V.int).length (ns.map V.int).length (some 204) - HT.sIx (ns.map V.int).length 0 (some 4)),?_,?_⟩
 ·unfold cutV
  rw[List.map_take,List.map_drop]
 ·have e:HT.sIx (ns.map V.int).length 0 (some 4)=min 4 ns.length:=by
   rw[show(some (4:Int))=some ((4:Nat):Int) from rfl,HT.sIx_nat,yaa]
  rw[ybe,ycq,e]
  omega
theorem shv_rep(h:Shv H S xs):Rep K H (.lst ((xs.map λx=>x.2.map pcE).map λcs=>D.lst (cs.map coD))) (.ref S):=by
 simp only[Rep]
 refine⟨_,_,rfl,SqL.of h.top,?_⟩
 rw[ya6]
 refine RepL.map λx hx=>?_
 simp only[Rep,Function.comp]
 refine⟨_,_,rfl,SqL.of (h.at_ x hx).top,?_⟩
 rw[ya6]
 refine RepL.map λp hp=>?_
 show Rep K H (coD (pcE p)) p.v
 rw[<-co_d]
 exact((h.at_ x hx).at_ p hp).rep
theorem shv_dep(xs:List (Addr×List PcM)):depL ((xs.map λx=>x.2.map pcE).map λcs=>D.lst (cs.map coD))<=20:=by
 rw[ya6]
 refine yay (depL_le (n:=6) λx _=>?_) (by decide)
 show dep (D.lst ((x.2.map pcE).map coD))<=6
 rw[ya6]
 have h:depL (x.2.map (coD ∘ pcE))<=5:=depL_le λp _=>by show dep (coD (pcE p))<=5;rw[<-co_d];exact dep_pc p
 simp only[dep]
 omega
theorem heads_comp{α:Type}{f:α->Addr}{g:α->Str}{r:α->List V}{as:List α}{l:Addr}{H:Hp}{R:VK}(hl:H l=some (.lst (as.map λa=>V.ref (f a))))(few:as.length<=1000)(ha:∀a∈as,H (f a)=some (.tup (V.str (g a)::r a)))
  (k:∀(D:Addr) (H':Hp),Same H H'->H D=none->H' D=some (.lst ((as.map g).map V.str))->R (.ref D) H'):
  CompL K (gName 0) tYes (tOp (rIxT K) (tVar 0) (tC (V.int 0))) [none] R (V.ref l) H:=by
 refine CompL.of (xs:=as.map λa=>V.ref (f a)) (by rw[yaa,sizeLine_eq];omega) (SqL.of hl) (λD i vs H'=>Same H H'/\H' D=some (.lst vs)/\vs=((as.take i).map g).map V.str)
  (λD hD=>⟨zz2 hD,zz1,rfl⟩) ?_ ?_ ?_
 ·rintro D i vs H' hD hi ⟨s1,hDD,rfl⟩
  refine⟨SqL.of (s1 _ _ hl),hDD,?_⟩
  rw[yaa,yaa,ybe]
  omega
 ·rintro D i v vs H' hD hv ⟨s1,hDD,rfl⟩
  walk_at "6"
  obtain⟨a,h,rfl⟩:=yao.mp hv
  walk_at "rd"
  refine⟨.no .nil,_,SqT.of (s1 _ _ (ha a (yan h))),_,(show atI (V.str (g a)::r a) ((0:Nat):Int)=_ from atI_nat rfl),hDD,zz9 hD s1,zz1,?_⟩
  rw[ya4,h,yac,yac];rfl
 ·rintro D vs H' hD ⟨s1,hDD,rfl⟩
  rw[yaa,ya0]at hDD
  exact k D H' s1 hD hDD
theorem G_qwx(T:Txt K mg A):FnOk P w K mg base CX0 1 A.qwx A.fd_qwx ["_law_pieces", "_law_cell"] sp_shelved:=by
 refine T.F_qwx.ok sc_qwx (λvs H Q E h=>?_) (λcdv Ar outer s H vs Q E hr h=>?_)
 ·obtain⟨L,c,ps,rfl,_⟩:=h
  rfl
 ·obtain⟨L,c,ps,rfl,hP,hl,k⟩:=h
  refine⟨_,(zz3 (ps_set (i:=2) sc_qwx.nd rfl (by walk_at "o") (pe_lst (zz0 (pe_lst pa_nil) (zz0 (pe_lst pa_nil) (zz0 (pe_lst pa_nil) (zz0 (pe_lst pa_nil) pa_nil)))))) (zz3 (ps_set (i:=3) sc_qwx.nd rfl (by walk_at "o") (pe_op op_mod (pe_op op_mul (pe_op op_add (pv 1) pe_int) pe_int) pe_int)) (zz3 (ps_for PassesOwn.never rfl (zz12 (K:=K) rfl (pv 0)) (zz6 (i:=4) sc_qwx.nd rfl (by walk_at "o")) (zz3 (zz20 (pe_bm PySem.F.plainAttrs_list PySem.F.slot_list_append PySem.F.type_list_append zz23 (pe_ix (zz19 (K:=K) rfl) (pv 2) (pe_op op_mod (pv 3) pe_int) (λ_ _=>rfl)) (zz0 (pv 4) pa_nil))) (zz5 (ps_set (i:=3) sc_qwx.nd rfl (by walk_at "o") (pe_op zz22 (pv 3) pe_int))))) (zz5 (ps_ret (pv 2)))))),?_⟩
  walk_at "rd"
  refine⟨ya1 _,λa0 h0=>⟨ya1 _,λa1 h1=>⟨ya1 _,λa2 h2=>⟨ya1 _,λa3 h3=>⟨by rw[sizeLine_eq];decide,λS h4=>⟨.inr ⟨by decide,by decide⟩,by decide,?_⟩⟩⟩⟩⟩⟩
  have s1:=zz2 (o:=HO.lst []) h0
  have s2:=zz2 (o:=HO.lst []) h1
  have s3:=zz2 (o:=HO.lst []) h2
  have s4:=zz2 (o:=HO.lst []) h3
  have s5:=zz2 (o:=HO.lst [V.ref a0,V.ref a1,V.ref a2,V.ref a3]) h4
  have e0:=s5 _ _ (s4 _ _ (s3 _ _ (s2 _ _ (zz1 (H:=H) (a:=a0) (o:=HO.lst [])))))
  have e1:=s5 _ _ (s4 _ _ (s3 _ _ (zz1 (H:=upd H a0 (HO.lst [])) (a:=a1) (o:=HO.lst []))))
  have e2:=s5 _ _ (s4 _ _ (zz1 (H:=upd (upd H a0 (HO.lst [])) a1 (HO.lst [])) (a:=a2) (o:=HO.lst [])))
  have e3:=s5 _ _ (zz1 (H:=upd (upd (upd H a0 (HO.lst [])) a1 (HO.lst [])) a2 (HO.lst [])) (a:=a3) (o:=HO.lst []))
  have e4:=zz1 (H:=upd (upd (upd (upd H a0 (HO.lst [])) a1 (HO.lst [])) a2 (HO.lst [])) a3 (HO.lst [])) (a:=S) (o:=HO.lst [V.ref a0,V.ref a1,V.ref a2,V.ref a3])
  have sA:=((((s1.trans s2).trans s3).trans s4).trans s5)
  have f1:=s1.free h1
  have f2:=(s1.trans s2).free h2
  have f3:=((s1.trans s2).trans s3).free h3
  have f4:=(((s1.trans s2).trans s3).trans s4).free h4
  have nd:[S,a0,a1,a2,a3].Nodup:=by
   have m01:=(zz14 h1).1
   have m02:=(zz14 (zz14 h2).2).1
   have m12:=(zz14 h2).1
   have m23:=(zz14 h3).1
   have m13:=(zz14 (zz14 h3).2).1
   have m03:=(zz14 (zz14 (zz14 h3).2).2).1
   have m34:=(zz14 h4).1
   have m24:=(zz14 (zz14 h4).2).1
   have m14:=(zz14 (zz14 (zz14 h4).2).2).1
   have m04:=(zz14 (zz14 (zz14 (zz14 h4).2).2).2).1
   simp[m04,m14,m24,m34,Ne.symm m01,Ne.symm m02,Ne.symm m03,Ne.symm m12,Ne.symm m13,Ne.symm m23]
  generalize upd (upd (upd (upd (upd H a0 (HO.lst [])) a1 (HO.lst [])) a2 (HO.lst [])) a3 (HO.lst [])) S (HO.lst [V.ref a0,V.ref a1,V.ref a2,V.ref a3])=H5 at *
  clear s1 s2 s3 s4 s5
  refine ForL.of (xs:=ps.map PcM.v) (λi σ H'=>∃(xs:List (Addr×List PcM)) (mx:Int) (b4:Option V),σ=[some (.ref L),some (.int c),some (.ref S),some (.int mx),b4]/\Same H H'/\H' S=some (.lst (xs.map λx=>V.ref x.1))/\(∀x∈xs,H' x.1=some (.lst (x.2.map PcM.v)))/\xs.map (·.1)=[a0,a1,a2,a3]/\(flat xs).Perm (ps.take i))
   ⟨[(a0,[]),(a1,[]),(a2,[]),(a3,[])],_,_,rfl,sA,e4,?_,rfl,by simp[flat]⟩ ?_ ?_ ?_
  ·intro x hx
   simp at hx
   rcases hx with rfl|rfl|rfl|rfl
   ·exact e0
   ·exact e1
   ·exact e2
   ·exact e3
  ·rintro i σ H' hi ⟨xs,mx,b4,rfl,s1,_⟩
   exact SqL.of (s1 _ _ hP.top)
  ·rintro i v σ H' hv ⟨xs,mx,b4,rfl,s1,hT,hx,hn,pm⟩
   walk_at "6"
   walk_at "7"
   have tk:ps.take (i+1)=ps.take i++[p]:=by rw[ya4,hp];rfl
   have xl:xs.length=4:=by have:=congrArg List.length hn;rwa [yaa]at this
   obtain⟨m,em⟩:=yb4 (show 0<=mx % 4 by omega)
   have hm4:m<xs.length:=by omega
   have hxm:xs[m]?=some xs[m]:=yar hm4
   have hmem:xs[m]∈xs:=ybr hm4
   have ex:xs=xs.take m++xs[m]::xs.drop (m+1):=by
    have h1:=ycj (m+1) xs
    rw[ya4,hxm,ybp]at h1
    exact h1.symm
   generalize xs[m]=x at hxm hmem ex
   have fl:x.2.length<=12:=by
    have h1:x.2.length<=(flat xs).length:=by
     rw[ex]
     unfold flat
     rw[ybh,yc0,yah,yah];omega
    rw[pm.length_eq,ybe]at h1
    omega
   have hxx:=hx x hmem
   have nS:S≠x.1:=λe=>by
    have h1:x.1∈xs.map (·.1):=yag.mpr ⟨x,hmem,rfl⟩
    rw[hn,<-e]at h1
    exact(ya8.mp nd).1 h1
   have xn:H x.1=none:=by
    have h1:x.1∈xs.map (·.1):=yag.mpr ⟨x,hmem,rfl⟩
    rw[hn]at h1
    simp at h1
    rcases h1 with e|e|e|e<;>rw[e]<;>assumption
   have ndx:(xs.map (·.1)).Nodup:=by rw[hn];exact(ya8.mp nd).2
   walk_at "rd"
   refine⟨by decide,_,SqL.of hT,V.ref x.1,by rw[em];exact atI_nat (by rw[ybd,hxm];rfl),.inl ⟨rfl,_,SqL.of hxx⟩,x.1,rfl,_,hxx,by rw[yaa,sizeLine_eq];omega,⟨by decide,by decide⟩,zz9 xn s1,xs.take m++(x.1,x.2++[p])::xs.drop (m+1),?_,λy hy=>?_,?_,?_⟩
   ·rw[upd_ne nS,hT]
    conv=>lhs;rw[ex]
    simp
   ·have ey:y∈xs/\y.1≠x.1\/y=(x.1,x.2++[p]):=by
     rw[ex,yac,ybg]at ndx
     have h3:=(ya3.mp ndx).2.2
     have h4:=(ya8.mp (ya3.mp ndx).2.1).1
     rcases yai.mp hy with q|q
     ·exact .inl ⟨yc4 q,h3 y.1 (yag.mpr ⟨y,q,rfl⟩) x.1 ya5⟩
     ·rcases yau.mp q with q|q
      ·exact .inr q
      ·exact .inl ⟨List.mem_of_mem_drop q,λe=>h4 (yag.mpr ⟨y,q,e⟩)⟩
    rcases ey with ⟨h1,h2⟩|h1
    ·rw[upd_ne h2];exact hx y h1
    ·rw[h1,zz1,yac];rfl
   ·rw[<-hn]
    conv=>rhs;rw[ex]
    simp
   ·rw[tk]
    refine List.Perm.trans ?_ (pm.append_right [p])
    conv=>rhs;rw[ex]
    unfold flat
    simp only[List.flatMap_append,List.flatMap_cons,List.append_assoc]
    refine List.Perm.append_left _ (List.Perm.append_left _ ?_)
    exact List.perm_append_comm
  ·rintro σ H' ⟨xs,mx,b4,rfl,s1,hT,hx,hn,pm⟩
   walk_at "rd"
   rw[yaa,ya0]at pm
   refine k S xs H' s1 ⟨hT,λx hx'=>⟨hx x hx',λp hp=>(hP.at_ p (pm.mem_iff.mp (yav.mpr ⟨x,hx',hp⟩))).mono s1⟩⟩ ?_ (by rw[hn];exact nd) (by have:=congrArg List.length hn;rwa [yaa]at this) pm
   rw[hn]
   intro b hb
   simp at hb
   rcases hb with e|e|e|e|e<;>rw[e]<;>assumption
theorem G_qyz(T:Txt K mg A):FnOk P w K mg base CX0 2 A.qyz A.fd_qyz ["_law_names_by", "_law_titles_by", "_law_there"] sp_rest:=by
 refine T.F_qyz.ok sc_qyz (λvs H Q E h=>?_) (λcdv Ar outer s H vs Q E hr h=>?_)
 ·obtain⟨c,t,l,rfl,_⟩:=h
  rfl
 ·obtain⟨c,t,l,rfl,hl,k⟩:=h
  refine⟨_,(zz3 (ps_set (i:=3) sc_qyz.nd rfl (by walk_at "o") (pe_lst pa_nil)) (zz3 (ps_for PassesOwn.never rfl (pi_range1 rfl T.n_range (zz0 pe_int pa_nil)) (zz6 (i:=4) sc_qyz.nd rfl (by walk_at "o")) (zz3 (ps_set (i:=5) sc_qyz.nd rfl (by walk_at "o") (zz10 (G_qww T) (hr.mono (by decide)) rfl T.m_qww T.k_qww T.b_qww .nil pass0 (zz0 (pv 0) (zz0 (pv 4) pa_nil)))) (zz5 (ps_if (zz15 (op_notInSK (K:=K) rfl) (pv 5) (pv 2) (by with_unfolding_all rfl)) (zz5 (zz20 (pe_bm PySem.F.plainAttrs_list PySem.F.slot_list_append PySem.F.type_list_append zz23 (pv 3) (zz0 (pe_tup (zz0 (pv 5) (zz0 pe_str (zz0 pe_int (zz0 (pe_op zz22 (pv 4) pe_int) pa_nil))))) pa_nil)))) zz16)))) (zz5 (ps_ret (pe_tup (zz0 (zz10 (G_qww T) (hr.mono (by decide)) rfl T.m_qww T.k_qww T.b_qww .nil pass0 (zz0 (pv 1) (zz0 pe_int pa_nil))) (zz0 (pe_lst (zz0 (pe_tup (zz0 pe_str (zz0 pe_int (zz0 (pe_lst (zz0 pe_int pa_nil)) (zz0 (pe_lst pa_nil) pa_nil))))) pa_nil)) (zz0 (pv 3) pa_nil)))))))),?_⟩
  walk_at "rd"
  refine⟨ya1 _,λd hd=>?_⟩
  refine ForR.of (n:=12) (by decide) (by decide) (λi σ H'=>∃(ns:List ToldM) (b4 b5:Option V),σ=[some (.int c),some (.int t),some (.ref l),some (.ref d),b4,b5]/\Same H H'/\H' d=some (.lst (ns.map ToldM.v))/\(∀n∈ns,n.At H')/\ns.map ToldM.name=(List.range i).map (λk:Nat=>nameOf c k)/\∀n∈ns,n.sort=Str.ofString "weak")
   ⟨[],_,_,rfl,zz2 hd,zz1,(λn hn=>by cases hn),rfl,(λn hn=>by cases hn)⟩ ?_ ?_
  ·rintro i σ H' hi ⟨ns,b4,b5,rfl,s1,h1,ha,hn,hw⟩
   have hi:i<12:=by omega
   have nl:ns.length=i:=by have:=congrArg List.length hn;rwa [yaa,yaa,ycn]at this
   walk_at "rd"
   refine⟨_,.inl (SqL.of (s1 _ _ hl)),rfl,rfl,?_⟩
   rw[if_pos (show(!inV (V.str (nameOf c i)) [])=true from rfl)]
   refine⟨.inl ⟨rfl,_,SqL.of h1⟩,⟨by decide,by decide⟩,by walk_at "s", λq hq=>?_⟩
   have s2:=zz2 (o:=HO.tup [V.str (nameOf c i),V.str (Str.ofString "weak"),V.int 0,V.int ((i:Int) / 6)]) hq
   have eq:upd H' q (HO.tup [V.str (nameOf c i),V.str (Str.ofString "weak"),V.int 0,V.int ((i:Int) / 6)]) q=some (HO.tup [V.str (nameOf c i),V.str (Str.ofString "weak"),V.int 0,V.int ((i:Int) / 6)]):=zz1
   generalize upd H' q (HO.tup [V.str (nameOf c i),V.str (Str.ofString "weak"),V.int 0,V.int ((i:Int) / 6)])=H2 at *
   have bt:But H2 (upd H2 d (HO.lst (ns.map ToldM.v++[V.ref q]))) d:=But.upd (s2 _ _ h1)
   refine⟨_,s2 _ _ h1,by rw[yaa,sizeLine_eq];omega,zz9 hd (s1.trans s2),ns++[⟨q,nameOf c i,Str.ofString "weak", 0,(i:Int) / 6⟩],by rw[zz1,yac];rfl,λn hn'=>?_,?_,λn hn'=>?_⟩
   ·rcases yai.mp hn' with z|z
    ·exact ToldM.At.but (ToldM.At.mono (ha n z) s2) bt
    ·rw[yae.mp z]
     exact bt.tup eq
   ·rw[yac,hn,List.range_succ,yac];rfl
   ·rcases yai.mp hn' with z|z
    ·exact hw n z
    ·rw[yae.mp z]
  ·rintro σ H' ⟨ns,b4,b5,rfl,s1,h1,ha,hn,hw⟩
   walk_at "rd"
   refine⟨by rw[sizeLine_eq];decide,λlw g1=>⟨ya1 _,λlf g2=>⟨by rw[sizeLine_eq];decide,λst g3=>⟨by rw[sizeLine_eq];decide,λls g4=>⟨by rw[sizeLine_eq];decide,λtp g5=>?_⟩⟩⟩⟩⟩
   have t1:=zz2 (o:=HO.lst [V.int 5]) g1
   have t2:=zz2 (o:=HO.lst []) g2
   have t3:=zz2 (o:=HO.tup [V.str (Str.ofString "data"),V.int 1,V.ref lw,V.ref lf]) g3
   have t4:=zz2 (o:=HO.lst [V.ref st]) g4
   have t5:=zz2 (o:=HO.tup [V.str (nameOf t 14),V.ref ls,V.ref d]) g5
   have tA:=((((t1.trans t2).trans t3).trans t4).trans t5)
   refine k ⟨tp,ls,d,nameOf t 14,[⟨st,lw,lf,Str.ofString "data", 1,[5],[]⟩],ns⟩ _ (s1.trans tA) ⟨zz1,t5 _ _ zz1,tA _ _ h1,λq hq=>?_,λn hn'=>ToldM.At.mono (ha n hn') tA⟩ ⟨rfl,hn,hw,_,rfl,rfl,rfl⟩ (λb hb=>?_)
   ·rw[yae.mp hq]
    exact⟨t5 _ _ (t4 _ _ zz1),t5 _ _ (t4 _ _ (t3 _ _ (t2 _ _ zz1))),t5 _ _ (t4 _ _ (t3 _ _ zz1)),(λf hf=>by cases hf)⟩
   ·have u1:=s1.free g1
    have u2:=(s1.trans t1).free g2
    have u4:=((s1.trans t1).trans (t2.trans t3)).free g4
    simp[PcM.lists,StM.lists]at hb
    rcases hb with e|e|e|e<;>rw[e]<;>assumption
theorem G_qyx(T:Txt K mg A):FnOk P w K mg base CX0 1 A.qyx A.fd_qyx ["_law_piece"] sp_told1:=by
 refine T.F_qyx.ok sc_qyx (λvs H Q E h=>?_) (λcdv Ar outer s H vs Q E hr h=>?_)
 ·obtain⟨p,rfl,_⟩:=h
  rfl
 ·obtain⟨p,rfl,hp,hb,k⟩:=h
  refine⟨_,(zz5 (ps_ret (pe_comp (blk_mk (own:=["_law_row"]) (fr:=[]) (fm:=[]) rfl (by decide +kernel) (by decide +kernel) (by decide +kernel) .nil) rfl (zz12 (K:=K) rfl (pe_ix (zz8 (K:=K) rfl) (pv 0) pe_int (λ_ _=>rfl))) (λ_ _ _=>⟨(zz6 (i:=0) (by show List.Nodup (["_law_row"]:List Str);decide +kernel) rfl (by walk_at "o")),(pts_one (zz15 op_ne (pe_ix (zz8 (K:=K) rfl) (pv 0) pe_int (λ_ _=>rfl)) pe_str (nomark _))),(pe_ix (zz8 (K:=K) rfl) (pv 0) pe_int (λ_ _=>rfl))⟩)))),?_⟩
  walk_at "rd"
  refine⟨_,SqT.of hp.top,_,rfl,?_⟩
  refine CompL.of (xs:=p.nms.map ToldM.v) (by rw[yaa,sizeLine_eq];have:=hb.nm;omega) (SqL.of hp.nl) (λD i ys H'=>Same H H'/\H' D=some (.lst ys)/\ys=(((p.nms.take i).filter λn=>decide (n.sort≠sOwn)).map ToldM.name).map V.str)
   (λD hD=>⟨zz2 hD,zz1,rfl⟩) ?_ ?_ ?_
  ·rintro D i ys H' hD hi ⟨sm,hDD,e⟩
   refine⟨sm.seq (SqL.of hp.nl),hDD,?_⟩
   rw[e,yaa,yaa]
   exact yay (ybu _ _) (by rw[ybe];omega)
  ·rintro D i x ys H' hD hx ⟨sm,hDD,e⟩
   walk_at "0"
   obtain⟨n,hn,rfl⟩:=yao.mp hx
   have na:=sm _ _ (hp.ns n (yan hn))
   walk_at "2"
   walk_at "rd"
   refine⟨.no .nil,_,SqT.of na,_,rfl,rfl,ite2 (λh=>?_) (λh=>?_)⟩
   ·have hz:=not_own h
    refine⟨_,SqT.of na,_,rfl,hDD,zz9 hD sm,zz1,?_⟩
    rw[e,tk,ybv,yac,yac]
    simp[hz]
   ·have hz:=is_own h
    refine⟨sm,hDD,?_⟩
    rw[e,tk,ybv]
    simp[hz]
  ·rintro D ys H' hD ⟨sm,hDD,e⟩
   walk_at "4"
   exact k D H' sm hD (by rw[hDD,e];rfl)
noncomputable def gO:Option HO->D
 |some (.tup [.str n,.str s])=>.tup [.str n,.str s]
 |_=>.non
noncomputable def rowO(n:ToldM):Option HO:=some (.tup [.str n.name,.str n.sort])
theorem any_own{H:Hp}{as:List Addr}{p:PcM}{z:Str}(e:as.map H=p.nms.map rowO):(as.any λa=>deq (gO (H a)) (.tup [.str z,.str (Str.ofString "own")]))=ownHas p z:=by
 have h:(as.any λa=>deq (gO (H a)) (.tup [.str z,.str (Str.ofString "own")]))=(as.map H).any λo=>deq (gO o) (.tup [.str z,.str (Str.ofString "own")]):=by rw[ycw];rfl
 rw[h,e,ycw]
 unfold ownHas
 congr 1
 funext n
 show deq (.tup [.str n.name,.str n.sort]) (.tup [.str z,.str (Str.ofString "own")])=_
 simp only[deq,deqL,Bool.and_true,sOwn]
 by_cases a:n.name=z<;>by_cases b:n.sort=Str.ofString "own" <;> simp[a,b]
theorem rows_at{H:Hp}{as:List Addr}{ns:List ToldM}(e:as.map H=ns.map rowO){a:Addr}(ha:a∈as):∃n∈ns,H a=rowO n:=by
 have h:H a∈ns.map rowO:=by rw[<-e];exact yag.mpr ⟨a,ha,rfl⟩
 obtain⟨n,hn,q⟩:=yag.mp h
 exact⟨n,hn,q.symm⟩
theorem rows_mono{H H':Hp}{as:List Addr}{ns:List ToldM}(e:as.map H=ns.map rowO)(s:∀a∈as,∀o,H a=some o->H' a=some o):as.map H'=ns.map rowO:=by
 rw[<-e]
 refine ybq λa ha=>?_
 obtain⟨n,_,q⟩:=rows_at e ha
 rw[s a ha _ q,q];rfl
theorem wantL_yes(h:(!f.soft && !ownHas p f.name)=true):wantL p [f]=[f.name]:=by
 unfold wantL
 rw[List.filter_cons,if_pos h];rfl
theorem wantL_no(h:¬(!f.soft && !ownHas p f.name)=true):wantL p [f]=[]:=by
 unfold wantL
 rw[List.filter_cons,if_neg h];rfl
theorem wantL_mem:z∈wantL p (fillsOf p.sts)↔wantBC z (pcE p)=true:=by
 rw[<-want_core]
 unfold wantL WantP
 rw[yag]
 exact⟨λ⟨f,h,e⟩=>⟨f,(yb1.mp h).1,(yb1.mp h).2,e⟩,λ⟨f,h1,h2,e⟩=>⟨f,yb1.mpr ⟨h1,h2⟩,e⟩⟩
theorem wantL_len(h:PcB p):(wantL p (fillsOf p.sts)).length<=61:=by
 unfold wantL
 rw[yaa]
 exact yay (ybu _ _) h.fl
theorem G_qzw(T:Txt K mg A):FnOk P w K mg base CX0 1 A.qzw A.fd_qzw ["_law_piece"] sp_wanted1:=by
 refine T.F_qzw.ok sc_qzw (λvs H Q E h=>?_) (λcdv Ar outer s H vs Q E hr h=>?_)
 ·obtain⟨p,rfl,_⟩:=h
  rfl
 ·obtain⟨p,rfl,hp,hb,k⟩:=h
  refine⟨_,(zz3 (ps_set (i:=1) sc_qzw.nd rfl (by walk_at "o") (pe_lst pa_nil)) (zz3 (ps_for PassesOwn.never rfl (zz12 (K:=K) rfl (pe_ix (zz8 (K:=K) rfl) (pv 0) pe_int (λ_ _=>rfl))) (pg_tupK (K:=K) (n:=4) rfl rfl (zz7 (zz6 (i:=2) sc_qzw.nd rfl (by walk_at "o")) (zz7 (zz6 (i:=3) sc_qzw.nd rfl (by walk_at "o")) (zz7 (zz6 (i:=4) sc_qzw.nd rfl (by walk_at "o")) (zz7 (zz6 (i:=5) sc_qzw.nd rfl (by walk_at "o")) pgs_nil))))) (zz5 (ps_for PassesOwn.never rfl (zz12 (K:=K) rfl (pv 5)) (pg_tupK (K:=K) (n:=5) rfl rfl (zz7 (zz6 (i:=6) sc_qzw.nd rfl (by walk_at "o")) (zz7 (zz6 (i:=7) sc_qzw.nd rfl (by walk_at "o")) (zz7 (zz6 (i:=8) sc_qzw.nd rfl (by walk_at "o")) (zz7 (zz6 (i:=9) sc_qzw.nd rfl (by walk_at "o")) (zz7 (zz6 (i:=10) sc_qzw.nd rfl (by walk_at "o")) pgs_nil)))))) (zz5 (ps_if (PW.pt (pw_and (pt_not (pt_val (pv 10))) (pw_and1 (zz15 (op_notInDK hr.units (K:=K) rfl) (pe_tup (zz0 (pv 8) (zz0 pe_str pa_nil))) (pe_comp (blk_mk (own:=["_law_row"]) (fr:=[]) (fm:=[]) rfl (by decide +kernel) (by decide +kernel) (by decide +kernel) .nil) rfl (zz12 (K:=K) rfl (pe_ix (zz8 (K:=K) rfl) (pv 0) pe_int (λ_ _=>rfl))) (λ_ _ _=>⟨(zz6 (i:=0) (by show List.Nodup (["_law_row"]:List Str);decide +kernel) rfl (by walk_at "o")),pts_nil,(pe_slice (sl_tupK (K:=K) rfl) (pv 0) po_none (po_some pe_int))⟩)) (by with_unfolding_all rfl))))) (zz5 (zz20 (pe_bm PySem.F.plainAttrs_list PySem.F.slot_list_append PySem.F.type_list_append zz23 (pv 1) (zz0 (pv 8) pa_nil)))) zz16))))) (zz5 (ps_ret (pv 1))))),?_⟩
  walk_at "rd"
  refine⟨ya1 _,λd hd=>⟨_,SqT.of (zz2 hd _ _ hp.top),_,rfl,?_⟩⟩
  refine ForL.of (xs:=p.sts.map StM.v) (λi σ H'=>∃b2 b3 b4 b5 b6 b7 b8 b9 b10,σ=[some p.v,some (V.ref d),b2,b3,b4,b5,b6,b7,b8,b9,b10]/\Same H H'/\H' d=some (.lst ((wantL p (fillsOf (p.sts.take i))).map V.str)))
   ⟨_,_,_,_,_,_,_,_,_,rfl,zz2 hd,zz1⟩ (λi σ H' _ ⟨_,_,_,_,_,_,_,_,_,_,sm,_⟩=>SqL.of (sm _ _ hp.sl)) ?_ ?_
  ·rintro i x σ H' hx ⟨b2,b3,b4,b5,b6,b7,b8,b9,b10,rfl,sm,hd'⟩
   walk_at "0"
   obtain⟨st,hst,rfl⟩:=yao.mp hx
   have sa0:=hp.ss st (yan hst)
   have sa:=sa0.mono sm
   have tk:=fills_snoc hst
   have bd:=fills_le (p:=p) (i+1)
   have bd2:=hb.fl
   rw[tk,yah]at bd
   walk_at "rd"
   refine⟨_,SqT.of sa.top,rfl,_,_,rfl,_,_,rfl,_,_,rfl,_,_,rfl,rfl,?_⟩
   refine ForL.of (xs:=st.fills.map FillM.v) (λj σ H2=>∃b6 b7 b8 b9 b10,σ=[some p.v,some (V.ref d),some (V.str st.kind),some (V.int st.step),some (V.ref st.lw),some (V.ref st.lf),b6,b7,b8,b9,b10]/\Same H H2/\H2 d=some (.lst ((wantL p (fillsOf (p.sts.take i)++st.fills.take j)).map V.str)))
    ⟨_,_,_,_,_,rfl,sm,by rw[hd'];simp⟩ (λj σ H' _ ⟨_,_,_,_,_,_,sm,_⟩=>SqL.of (sm _ _ sa0.fl)) ?_ ?_
   ·rintro j x σ H2 hx ⟨b6,b7,b8,b9,b10,rfl,sm2,hd2⟩
    walk_at "0"
    obtain⟨f,hf,rfl⟩:=yao.mp hx
    have fa:=sm2 _ _ (sa0.fs f (yan hf))
    have hj:j<st.fills.length:=(yam.mp hf).1
    walk_at "5"
    have flen:(wantL p (fillsOf (p.sts.take i)++st.fills.take j)).length<=61:=by
     unfold wantL
     rw[yaa]
     refine yay (ybu _ _) ?_
     rw[yah,ybe]
     omega
    have step:wantL p (fillsOf (p.sts.take i)++st.fills.take (j+1))=wantL p (fillsOf (p.sts.take i)++st.fills.take j)++wantL p [f]:=by
     rw[tj]
     unfold wantL
     rw[ybv,yac]
    walk_at "rd"
    refine⟨_,SqT.of fa,rfl,_,_,rfl,_,_,rfl,_,_,rfl,_,_,rfl,_,_,rfl,rfl,_,rfl,ite2 (λh1=>?_) (λh1=>?_)⟩
    ·refine⟨by rw[sizeLine_eq];decide,λq hq=>?_⟩
     have sq:=zz2 (o:=HO.tup [V.str f.name,V.str (Str.ofString "own")]) hq
     have hqq:upd H2 q (HO.tup [V.str f.name,V.str (Str.ofString "own")]) q=some (HO.tup [V.str f.name,V.str (Str.ofString "own")]):=zz1
     have s3:=sm2.trans sq
     have hd3:=sq _ _ hd2
     generalize upd H2 q (HO.tup [V.str f.name,V.str (Str.ofString "own")])=H3 at *
     refine⟨_,SqT.of (s3 _ _ hp.top),_,rfl,?_⟩
     refine CompL.of (xs:=p.nms.map ToldM.v) (by rw[yaa,sizeLine_eq];have:=hb.nm;omega) (SqL.of (s3 _ _ hp.nl)) (λD i ys H4=>Same H3 H4/\H4 D=some (.lst ys)/\∃as:List Addr,ys=as.map V.ref/\as.map H4=(p.nms.take i).map rowO)
      (λD hD=>⟨zz2 hD,zz1,[],rfl,rfl⟩) ?_ ?_ ?_
     ·rintro D i ys H4 hD hi ⟨s4,hDD,as,rfl,e⟩
      refine⟨SqL.of (s4 _ _ (s3 _ _ hp.nl)),hDD,?_⟩
      have h:=congrArg List.length e
      rw[yaa,yaa,ybe]at h
      rw[yaa]
      omega
     ·rintro D i x ys H4 hD hx ⟨s4,hDD,as,rfl,e⟩
      walk_at "0"
      obtain⟨n,hn,rfl⟩:=yao.mp hx
      have na:=s4 _ _ (s3 _ _ (hp.ns n (yan hn)))
      walk_at "2"
      walk_at "rd"
      refine⟨.no .nil,_,SqT.of na,λz=>absurd (show HT.sIx 4 4 (some 2)=4 from z.2) (by decide),λq2 hq2=>⟨by rw[upd_ne (zz4 hDD hq2)];exact hDD,zz9 hD (s4.trans (zz2 hq2)),zz1,as++[q2],by rw[yac];rfl,?_⟩⟩
      rw[tk,yac,yac]
      congr 1
      ·refine rows_mono e λa ha o ho=>?_
       obtain⟨n',_,q'⟩:=rows_at e ha
       have nD:a≠D:=λz=>by rw[z,hDD]at q';cases q'
       rw[upd_ne nD,upd_ne (zz4 ho hq2)];exact ho
      ·show [upd (upd H4 q2 _) D _ q2]=[rowO n]
       rw[upd_ne (Ne.symm (zz4 hDD hq2)),zz1];rfl
     ·rintro D ys H4 hD ⟨s4,hDD,as,rfl,e⟩
      walk_at "4"
      have any:=any_own (z:=f.name) e
      refine⟨D,rfl,as,SqL.of hDD,λa=>gO (H4 a),λa ha=>?_,.tup [.str f.name,.str (Str.ofString "own")],?_,ite2 (λh2=>?_) (λh2=>?_)⟩
      ·obtain⟨n,_,q⟩:=rows_at e ha
       show Rep K H4 (gO (H4 a)) (V.ref a)/\dep (gO (H4 a))<=20
       rw[q]
       refine⟨?_,by simp[gO,rowO,dep,depL]⟩
       simp only[gO,rowO,Rep]
       exact⟨_,_,rfl,SqT.of q,by simp[RepL,Rep]⟩
      ·simp only[Rep]
       exact⟨_,_,rfl,SqT.of (s4 _ _ hqq),by simp[RepL,Rep]⟩
      ·rw[any]at h2
       refine⟨.inl ⟨rfl,_,SqL.of (s4 _ _ hd3)⟩,_,s4 _ _ hd3,by rw[yaa,sizeLine_eq];omega,zz9 hd (s3.trans s4),?_⟩
       rw[zz1,step,wantL_yes (by rw[h1,h2];rfl),yac];rfl
      ·rw[any]at h2
       refine⟨s3.trans s4,?_⟩
       rw[s4 _ _ hd3,step,wantL_no (by rw[ya2];exact λz=>h2 z.2),ybc]
    ·refine⟨sm2,?_⟩
     rw[hd2,step]
     rw[wantL_no (by rw[ya2];exact λz=>h1 z.1),ybc]
   ·rintro σ H2 ⟨b6,b7,b8,b9,b10,rfl,sm2,hd2⟩
    rw[yaa,ya0]at hd2
    exact⟨_,_,_,_,_,_,_,_,_,rfl,sm2,by rw[hd2,tk]⟩
  ·rintro σ H' ⟨b2,b3,b4,b5,b6,b7,b8,b9,b10,rfl,sm,hd'⟩
   rw[yaa,ya0]at hd'
   walk_at "rd"
   exact k d H' sm hd hd'
theorem flat_strs(l:List Str):(l.map V.str).all flatV=true:=by
 rw[List.all_map,List.all_eq_true]
 intro x _;rfl
theorem in_strs{l:List Str}{z:Str}:inV (V.str z) (l.map V.str)=decide (z∈l):=by
 rw[ycb,inV_str,decide_eq_true_eq]
theorem G_qzx(T:Txt K mg A):FnOk P w K mg base CX0 2 A.qzx A.fd_qzx ["_law_some", "_law_name"] sp_firstL:=by
 refine T.F_qzx.ok sc_qzx (λvs H Q E h=>?_) (λcdv Ar outer s H vs Q E hr h=>?_)
 ·obtain⟨S,z,xs,rfl,_⟩:=h
  rfl
 ·obtain⟨S,z,xs,rfl,hS,hb,k⟩:=h
  refine⟨_,(zz3 (ps_for PassesOwn.never rfl (zz12 (K:=K) rfl (pv 0)) (zz6 (i:=2) sc_qzx.nd rfl (by walk_at "o")) (zz5 (ps_for PassesOwn.never rfl (zz12 (K:=K) rfl (pv 2)) (zz6 (i:=3) sc_qzx.nd rfl (by walk_at "o")) (zz5 (ps_if (zz15 (op_inSK (K:=K) rfl) (pv 1) (zz10 (G_qyx T) (hr.mono (by decide)) rfl T.m_qyx T.k_qyx T.b_qyx .nil pass0 (zz0 (pv 3) pa_nil)) (by with_unfolding_all rfl)) (zz5 (ps_ret (pv 3))) zz16))))) (zz5 (ps_ret pe_non))),?_⟩
  walk_at "rd"
  refine ForL.of (xs:=xs.map λx=>V.ref x.1) (λi σ H'=>∃b2 b3:Option V,σ=[some (.ref S),some (.str z),b2,b3]/\Same H H'/\firstN (flat (xs.take i)) z=none)
   ⟨_,_,rfl,Same.refl _,rfl⟩ ?_ ?_ ?_
  ·rintro i σ H' hi ⟨b2,b3,rfl,s1,_⟩
   exact SqL.of (s1 _ _ hS.top)
  ·rintro i v σ H' hv ⟨b2,b3,rfl,s1,no⟩
   walk_at "6"
   obtain⟨x,hx,rfl⟩:=yao.mp hv
   have hm:=yan hx
   have px:=hS.at_ x hm
   have tk:=flat_take hx
   walk_at "rd"
   refine ForL.of (xs:=x.2.map PcM.v) (λj σ H2=>∃b3:Option V,σ=[some (.ref S),some (.str z),some (.ref x.1),b3]/\Same H H2/\firstN (flat (xs.take i)++x.2.take j) z=none)
    ⟨_,rfl,s1,by simpa using no⟩ ?_ ?_ ?_
   ·rintro j σ H2 hj ⟨b3,rfl,s2,_⟩
    exact SqL.of (s2 _ _ px.top)
   ·rintro j v σ H2 hv ⟨b3,rfl,s2,no2⟩
    walk_at "6"
    walk_at "7"
    have hpm:=yan hp
    have pf:p∈flat xs:=yav.mpr ⟨x,hm,hpm⟩
    walk_at "rd"
    refine⟨p,rfl,(px.at_ p hpm).mono s2,hb p pf,λl H3 s3 hl el=>⟨_,.inl (SqL.of el),rfl,flat_strs _,?_⟩⟩
    rw[in_strs]
    have tj:x.2.take (j+1)=x.2.take j++[p]:=by rw[ya4,hp];rfl
    have tm:(decide (z∈tellN p)=true)↔tellBC z (pcE p)=true:=by rw[decide_eq_true_eq];exact tell_mem
    refine ite2 (λh=>?_) (λh=>⟨s2.trans s3,?_⟩)
    ·have e:firstN (flat xs) z=some p:=by
      have fx:flat xs=(flat (xs.take i)++x.2.take j)++p::(x.2.drop (j+1)++flat (xs.drop (i+1))):=by
       have e1:flat xs=flat (xs.take i)++(x.2++flat (xs.drop (i+1))):=by
        have h1:=ycj (i+1) xs
        unfold flat
        rw[<-ybp]
        have h2:=flat_take hx
        unfold flat at h2
        rw[<-h2,<-ybh,h1]
       have e2:x.2=x.2.take j++p::x.2.drop (j+1):=by
        have h1:=ycj (j+1) x.2
        rw[tj]at h1
        rw[ybp]at h1
        exact h1.symm
       rw[e1]
       conv=>lhs;rw[e2]
       simp
      unfold firstN at no2 ⊢
      rw[fx,List.find?_append,no2]
      simp[List.find?_cons,tm.mp h]
     have:=k H3 (s2.trans s3)
     rw[e]at this
     exact this
    ·unfold firstN at no2 ⊢
     rw[tj,<-ybp,List.find?_append,no2]
     have q:tellBC z (pcE p)=false:=Bool.eq_false_iff.mpr λq=>h (tm.mpr q)
     simp[List.find?_cons,q]
   ·rintro σ H2 ⟨b3,rfl,s2,no2⟩
    rw[yaa,ya0]at no2
    exact⟨_,_,rfl,s2,by rw[tk];exact no2⟩
  ·rintro σ H' ⟨b2,b3,rfl,s1,no⟩
   rw[yaa,ya0]at no
   walk_at "rd"
   have:=k H' s1
   rw[no]at this
   exact this
theorem tk_sub(h:TkC G S e T rs)(c:ClosU G S e T'):∀p∈T,p∈T':=by
 have hl:rs.length=T.length:=by have:=congrArg List.length h.len;rwa [yaa,yaa]at this
 have key:∀n i:Nat,i<n->∀p,T[i]?=some p->p∈T':=by
  intro n
  induction n with
  |zero=>intro i hi;omega
  |succ n ih=>
   intro i hi p hp
   have hi2:=(yam.mp hp).1
   have hr:rs[i]?=some (rs[i]'(by omega)):=yar (by omega)
   generalize rs[i]'(by omega)=r at hr
   obtain⟨j1,j2,j3⟩:=h.just i p r hp hr
   have mz:MetC G S r.2.1:=.inr (by rw[j2];rfl)
   have cv:CovC G S T' r.2.1:=by
    rcases j3 with ⟨_,b2⟩|⟨q,hq,_,b2⟩
    ·rw[b2]at mz ⊢;exact c.1 mz
    ·refine c.2 q ?_ _ b2 mz
     rcases yai.mp hq with y|y
     ·exact yak _ y
     ·obtain⟨j,hj⟩:=yb3 y
      have hj2:=(yam.mp hj).1
      rw[ybe]at hj2
      rw[List.getElem?_take_of_lt (by omega)]at hj
      exact yaj _ (ih j (by omega) q hj)
   rcases cv with a|⟨v,hv,a⟩
   ·rw[j1]at a;cases a
   ·rw[j2]at a
    rw[Option.some.inj a];exact hv
 intro p hp
 obtain⟨i,hi⟩:=yb3 hp
 exact key (i+1) i (ybt _) p hi
theorem nd_no(h:ns.Nodup)(d:Dbl ns z):False:=by
 obtain⟨i,j,hij,hi,hj⟩:=d
 obtain⟨li,ei⟩:=yam.mp hi
 obtain⟨lj,ej⟩:=yam.mp hj
 exact yb0.mp h i j li lj hij (ei.trans ej.symm)
theorem OtOk.one(hx:OtOk G S e x)(hy:OtOk G S e y):x=y:=by
 have dm:∀{T T':List Co}{rs rs':List (Str×Str×Str)},TkC G S e T rs->ClosU G S e T'->∀z b,Dm G S e T z b->Dm G S e T' z b:=λ{T T' rs rs'} t c z b hd=>⟨hd.1,hd.2.imp id λ⟨q,hq,w⟩=>⟨q,(yai.mp hq).elim (yak _) λy=>yaj _ (tk_sub t c q y),w⟩⟩
 match x,y,hx,hy with
 |none,none,_,_=>rfl
 |none,some (z,none),hx,hy=>exact(nd_no hx.1 hy.1).elim
 |some (z,none),none,hx,hy=>exact(nd_no hy.1 hx.1).elim
 |some (z,none),some (z',some b),hx,hy=>exact(nd_no hy.1 hx.1).elim
 |some (z',some b),some (z,none),hx,hy=>exact(nd_no hx.1 hy.1).elim
 |some (z,none),some (z',none),hx,hy=>rw[leS_anti (hx.2 z' hy.1) (hy.2 z hx.1)]
 |none,some (z,some b),hx,hy=>
  obtain⟨_,T,rs,t1,c1,n1⟩:=hx
  obtain⟨_,T',rs',t2,c2,l2⟩:=hy
  exact(n1 z b (dm (rs':=rs) t2 c1 z b l2.in_)).elim
 |some (z,some b),none,hx,hy=>
  obtain⟨_,T,rs,t1,c1,n1⟩:=hy
  obtain⟨_,T',rs',t2,c2,l2⟩:=hx
  exact(n1 z b (dm (rs':=rs) t2 c1 z b l2.in_)).elim
 |some (z,some b),some (z',some b'),hx,hy=>
  obtain⟨_,T,rs,t1,c1,l1⟩:=hx
  obtain⟨_,T',rs',t2,c2,l2⟩:=hy
  have e1:z=z':=leS_anti (l1.name _ _ (dm (rs':=rs) t2 c1 _ _ l2.in_)) (l2.name _ _ (dm (rs':=rs) t1 c2 _ _ l1.in_))
  subst e1
  rw[leS_anti (l1.by_ _ (dm (rs':=rs) t2 c1 _ _ l2.in_)) (l2.by_ _ (dm (rs':=rs) t1 c2 _ _ l1.in_))]
theorem dbl_cons:Dbl (y::ns) z↔(y=z/\z∈ns)\/Dbl ns z:=by
 constructor
 ·rintro⟨i,j,hij,hi,hj⟩
  obtain⟨j,rfl⟩:∃k,j=k+1:=⟨j - 1,by omega⟩
  rw[List.getElem?_cons_succ]at hj
  cases i with
  |zero=>exact .inl ⟨Option.some.inj hi,yan hj⟩
  |succ i=>rw[List.getElem?_cons_succ]at hi;exact .inr ⟨i,j,by omega,hi,hj⟩
 ·rintro (⟨rfl,h⟩|⟨i,j,hij,hi,hj⟩)
  ·obtain⟨j,hj⟩:=yb3 h
   exact⟨0,j+1,by omega,rfl,hj⟩
  ·exact⟨i+1,j+1,by omega,hi,hj⟩
theorem dbl_count:Dbl ns z↔1<ns.count z:=by
 induction ns with
 |nil=>exact⟨(λ⟨i,j,_,h,_⟩=>by simp at h),(λh=>by simp at h)⟩
 |cons y r ih=>
  rw[dbl_cons,ih,List.count_cons,<-List.count_pos_iff (a:=z) (l:=r)]
  by_cases e:y=z
  ·rw[if_pos (by simpa using e)]
   exact⟨λh=>h.elim (λh=>by have:=h.2;omega) λh=>by omega,λh=>.inl ⟨e,by omega⟩⟩
  ·rw[if_neg (by simpa using e)]
   exact⟨λh=>h.elim (λh=>absurd h.1 e) id,.inr⟩
theorem cnt_strs{ns:List Str}{z:Str}:cntV (.str z) (ns.map V.str)=ns.count z:=by
 unfold cntV List.count
 rw[List.countP_map]
 congr 1
theorem G_qwz(T:Txt K mg A):FnOk P w K mg base CX0 1 A.qwz A.fd_qwz ["_law_some"] sp_doubled:=by
 refine T.F_qwz.ok sc_qwz (λvs H Q E h=>?_) (λcdv Ar outer s H vs Q E hr h=>?_)
 ·obtain⟨S,ys,rfl,_⟩:=h
  rfl
 ·obtain⟨S,ys,rfl,hS,few,k,kx⟩:=h
  refine⟨_,(zz3 (ps_set (i:=1) sc_qwz.nd rfl (by walk_at "o") (pe_lst pa_nil)) (zz3 (ps_for PassesOwn.never rfl (zz12 (K:=K) rfl (pv 0)) (zz6 (i:=2) sc_qwz.nd rfl (by walk_at "o")) (zz5 (ps_set (i:=1) sc_qwz.nd rfl (by walk_at "o") (pe_op (op_catSK (K:=K) rfl) (pv 1) (pe_comp (blk_mk (own:=["_law_piece"]) (fr:=[]) (fm:=[]) rfl (by decide +kernel) (by decide +kernel) (by decide +kernel) .nil) rfl (zz12 (K:=K) rfl (pv 2)) (λ_ _ _=>⟨(zz6 (i:=0) (by show List.Nodup (["_law_piece"]:List Str);decide +kernel) rfl (by walk_at "o")),pts_nil,(pe_ix (zz8 (K:=K) rfl) (pv 0) pe_int (λ_ _=>rfl))⟩)))))) (zz3 (ps_for PassesOwn.never rfl (zz12 (K:=K) rfl (zz11 (call_sortedK (K:=K) rfl) (by rfl) T.n_sorted bt_sorted (zz0 (pv 1) pa_nil))) (zz6 (i:=3) sc_qwz.nd rfl (by walk_at "o")) (zz5 (ps_if (zz15 op_gt (pe_bm PySem.F.plainAttrs_list PySem.F.slot_list_count PySem.F.type_list_count (mt_countK (K:=K) rfl) (pv 1) (zz0 (pv 3) pa_nil)) pe_int (nomark _)) (zz5 (ps_ret (pv 3))) zz16))) (zz5 (ps_ret pe_non))))),?_⟩
  walk_at "rd"
  refine⟨ya1 _,λl0 h0=>?_⟩
  refine ForL.of (xs:=ys.map λy=>V.ref y.1) (λi σ H'=>∃(l:Addr) (b2:Option V),σ=[some (.ref S),some (.ref l),b2,none]/\Same H H'/\H' l=some (.lst (((flat (ys.take i)).map PcM.name).map V.str)))
   ⟨l0,_,rfl,zz2 h0,zz1⟩ ?_ ?_ ?_
  ·rintro i σ H' hi ⟨l,b2,rfl,s1,_⟩
   exact SqL.of (s1 _ _ hS.top)
  ·rintro i v σ H' hv ⟨l,b2,rfl,s1,hl⟩
   walk_at "6"
   obtain⟨y,hy,rfl⟩:=yao.mp hv
   have hm:=yan hy
   have pl:=hS.at_ y hm
   have tk:=flat_take hy
   have fl:=flat_le ys (i+1)
   rw[tk,yah]at fl
   walk_at "rd"
   refine heads_comp (as:=y.2) (f:=PcM.t) (g:=PcM.name) (r:=λp=>[.ref p.ls,.ref p.ln]) (s1 _ _ pl.top) (by omega) (λp hp=>s1 _ _ (pl.at_ p hp).top) λD H2 s2 hD e2=>?_
   refine⟨D,rfl,_,SqL.of (s2 _ _ hl),_,SqL.of e2,by simp only[List.length_map];rw[sizeLine_eq];omega,λq hq=>⟨(s1.trans s2).trans (zz2 hq),?_⟩⟩
   rw[zz1,tk,yac,yac]
  ·rintro σ H' ⟨l,b2,rfl,s1,hl⟩
   rw[yaa,ya0]at hl
   walk_at "rd"
   refine⟨_,SqL.of hl,by rw[yaa];omega,λl2 ss hl2 pm pw=>?_⟩
   have s2:=zz2 (o:=HO.lst (ss.map V.str)) hl2
   have hl3:=s2 _ _ hl
   have e3:upd H' l2 (HO.lst (ss.map V.str)) l2=some (HO.lst (ss.map V.str)):=zz1
   have s3:=s1.trans s2
   generalize upd H' l2 (HO.lst (ss.map V.str))=H3 at *
   refine ForL.of (xs:=ss.map V.str) (λi σ H2=>∃b3:Option V,σ=[some (.ref S),some (.ref l),b2,b3]/\H2=H3/\∀z∈ss.take i,¬Dbl ((flat ys).map PcM.name) z)
    ⟨_,rfl,rfl,λz hz=>by simp at hz⟩ ?_ ?_ ?_
   ·rintro i σ H2 hi ⟨b3,rfl,rfl,_⟩
    exact SqL.of e3
   ·rintro i v σ H2 hv ⟨b3,rfl,rfl,no⟩
    walk_at "6"
    obtain⟨z,hz,rfl⟩:=yao.mp hv
    have tz:ss.take (i+1)=ss.take i++[z]:=by rw[ya4,hz];rfl
    walk_at "rd"
    refine⟨.inl ⟨rfl,_,SqL.of hl3⟩,_,SqL.of hl3,rfl,flat_strs _,?_⟩
    rw[cnt_strs]
    by_cases q:1<((flat ys).map PcM.name).count z
    ·rw[if_pos (by rw[decide_eq_true_eq];omega)]
     refine kx z H2 s3 (dbl_count.mpr q) λz' hz'=>?_
     have hin:z'∈ss:=pm.mem_iff.mpr (by
      obtain⟨a,_,_,ha,_⟩:=hz'
      exact yan ha)
     obtain⟨j,hj,rfl⟩:=ycu hin
     obtain⟨hi,ei⟩:=yam.mp hz
     rcases Nat.lt_trichotomy j i with q'|q'|q'
     ·exact absurd hz' (no ss[j] (List.mem_take_iff_getElem.mpr ⟨j,by omega,rfl⟩))
     ·subst q';rw[ei];exact List.le_refl _
     ·have:=yb0.mp pw i j hi hj q'
      rw[ei]at this;exact this
    ·rw[if_neg (by rw[decide_eq_true_eq];omega)]
     refine λy hy=>?_
     rw[tz]at hy
     rcases yai.mp hy with h|h
     ·exact no y h
     ·rw[yae.mp h];exact λd=>q (dbl_count.mp d)
   ·rintro σ H2 ⟨b3,rfl,rfl,no⟩
    rw[yaa,ya0]at no
    walk_at "rd"
    refine k H2 s3 (nd_dbl λz hz=>no z (pm.mem_iff.mpr ?_) hz)
    obtain⟨a,_,_,ha,_⟩:=hz
    exact yan ha
theorem nil_rep(h:H L=some (.lst [])):Rep K H (.lst []) (.ref L):=by
 simp only[Rep]
 exact⟨_,_,rfl,SqL.of h,by simp[RepL]⟩
theorem deq_nil{α:Type}{f:α->D}:∀l:List α,deqL (l.map f) []=l.isEmpty
 |[]=>rfl
 |_::_=>rfl
def PrA(H:Hp)(ts:List Pr3):Prop:=∀x∈ts,H x.1=some (.tup [.str x.2.1,.str x.2.2])
theorem PrA.same(h:PrA H ts)(s:Same H H'):PrA H' ts:=λx hx=>s _ _ (h x hx)
theorem PrA.add(h:PrA H ts)(g:PrA H us):PrA H (ts++us):=λx hx=>(yai.mp hx).elim (h x) (g x)
theorem PrA.upd(h:PrA H ts)(hl:H l=some o)(ho:∀xs,o≠.tup xs):PrA (upd H l o') ts:=λx hx=>by
 rw[upd_ne (ne_of (h x hx) hl (λz=>ho _ z.symm))];exact h x hx
theorem pairs_row{p:PcM}{l:Addr}{ws:List Str}{H:Hp}{Q:VK}(hp:p.At H)(hl:H l=some (.lst (ws.map V.str)))(few:ws.length<=100)
  (k:∀(D:Addr) (ts:List Pr3) (H':Hp),Same H H'->H D=none->H' D=some (.lst (ts.map λx=>V.ref x.1))->PrA H' ts->ts.map (·.2)=ws.map (λz=>(z,p.name))->Q (.ref D) H'):
  CompL K (gName 0) tYes (tTup (tCons (tVar 0) (tCons (tOp (rIxT K) (tVar 1) (tC (V.int 0))) tNil))) [none,some p.v] Q (V.ref l) H:=by
 refine CompL.of (xs:=ws.map V.str) (by rw[yaa,sizeLine_eq];omega) (SqL.of hl) (λD i vs H'=>∃ts:List Pr3,vs=ts.map (λx=>V.ref x.1)/\Same H H'/\H' D=some (.lst vs)/\PrA H' ts/\ts.map (·.2)=(ws.take i).map λz=>(z,p.name))
  (λD hD=>⟨[],rfl,zz2 hD,zz1,(λx hx=>by cases hx),rfl⟩) ?_ ?_ ?_
 ·rintro D i vs H' hD hi ⟨ts,rfl,s1,hDD,_,e⟩
  refine⟨SqL.of (s1 _ _ hl),hDD,?_⟩
  have:=congrArg List.length e
  walk_at "8"
  rw[yaa];omega
 ·rintro D i v vs H' hD hv ⟨ts,rfl,s1,hDD,ta,e⟩
  walk_at "6"
  obtain⟨z,hz,rfl⟩:=yao.mp hv
  walk_at "rd"
  refine⟨.no (.yes .nil),_,SqT.of (s1 _ _ hp.top),_,rfl,by walk_at "s", λt ht=>?_⟩
  have s2:=zz2 (o:=HO.tup [V.str z,V.str p.name]) ht
  refine⟨s2 _ _ hDD,ts++[(t,z,p.name)],by simp,zz9 hD (s1.trans s2),zz1,PrA.upd (o:=.lst (ts.map λx=>V.ref x.1)) ((ta.same s2).add λx hx=>?_) (s2 _ _ hDD) (λ_ z=>by cases z),?_⟩
  ·rw[yae.mp hx];exact zz1
  ·rw[yac,e,ya4,hz,yac];rfl
 ·rintro D vs H' hD ⟨ts,rfl,s1,hDD,ta,e⟩
  walk_at "4"
  exact k D ts H' s1 hD hDD ta e
noncomputable def wPrs(ps:List PcM):List (Str×Str):=ps.flatMap λp=>(wantL p (fillsOf p.sts)).map λz=>(z,p.name)
theorem wPrs_snoc:wPrs (ps++[p])=wPrs ps++(wantL p (fillsOf p.sts)).map λz=>(z,p.name):=by
 unfold wPrs
 rw[ybh];simp
theorem wPrs_mem:(z,b)∈wPrs ps↔∃q∈ps,q.name=b/\wantBC z (pcE q)=true:=by
 unfold wPrs
 rw[yav]
 constructor
 ·rintro⟨p,hp,h⟩
  obtain⟨y,hy,e⟩:=yag.mp h
  have e1:y=z:=congrArg (·.1) e
  have e2:p.name=b:=congrArg (·.2) e
  exact⟨p,hp,e2,wantL_mem.mp (e1▸hy)⟩
 ·rintro⟨p,hp,rfl,h⟩
  exact⟨p,hp,yag.mpr ⟨z,wantL_mem.mpr h,rfl⟩⟩
theorem wPrs_len(h:∀p∈ps,PcB p):(wPrs ps).length<=61 * ps.length:=by
 induction ps with
 |nil=>exact yap _
 |cons p r ih=>
  have h1:=ih λq hq=>h q (yaw _ hq)
  have h2:=wantL_len (h p ya5)
  have e:wPrs (p::r)=((wantL p (fillsOf p.sts)).map λz=>(z,p.name))++wPrs r:=rfl
  rw[e,yah,yaa,ya7]
  omega
structure UmI(H H':Hp)(d u l:Addr)(W:List Str)(un lf:List Pr3):Prop where
 sm:Same H H'
 hd:H d=none
 hu:H u=none
 hl:H l=none
 dd:H' d=some (.dK (W.map wkv))
 uu:H' u=some (.lst (un.map λx=>V.ref x.1))
 ll:H' l=some (.lst (lf.map λx=>V.ref x.1))
 ua:PrA H' un
 la:PrA H' lf
 ul:u≠l
theorem UmI.same(h:UmI H H' d u l W un lf)(s:Same H' H''):UmI H H'' d u l W un lf:=⟨h.sm.trans s,h.hd,h.hu,h.hl,s _ _ h.dd,s _ _ h.uu,s _ _ h.ll,h.ua.same s,h.la.same s,h.ul⟩
theorem UmI.put(h:UmI H H' d u l W un lf):UmI H (upd H' d (.dK (putK (W.map wkv) (.inr z) (.bl true)))) d u l (addW W z) un lf:=
 ⟨zz9 h.hd h.sm,h.hd,h.hu,h.hl,by rw[zz1,putW],by rw[upd_ne (ne_of h.uu h.dd (by intro z;cases z))];exact h.uu,by rw[upd_ne (ne_of h.ll h.dd (by intro z;cases z))];exact h.ll,h.ua.upd h.dd (λ_ z=>by cases z),h.la.upd h.dd (λ_ z=>by cases z),h.ul⟩
theorem UmI.cat(h:UmI H H' d u l W un lf)(ta:PrA H' ts)(hq:H' q=none):UmI H (upd H' q (.lst (lf.map (λx=>V.ref x.1)++ts.map λx=>V.ref x.1))) d u q W un (lf++ts):=
 have s:=zz2 (o:=HO.lst (lf.map (λx=>V.ref x.1)++ts.map λx=>V.ref x.1)) hq
 ⟨h.sm.trans s,h.hd,h.hu,h.sm.free hq,s _ _ h.dd,s _ _ h.uu,by rw[zz1,yac],h.ua.same s,(h.la.add ta).same s,zz4 h.uu hq⟩
theorem UmI.pop(h:UmI H H' d u l W un (lf++[x])):UmI H (upd H' l (.lst (((lf++[x]).map λx=>V.ref x.1).dropLast))) d u l W un lf:=by
 have e:((lf++[x]).map λx=>V.ref x.1).dropLast=lf.map λx=>V.ref x.1:=by rw[yac,List.map_singleton,List.dropLast_concat]
 exact⟨zz9 h.hl h.sm,h.hd,h.hu,h.hl,by rw[upd_ne (ne_of h.dd h.ll (by intro z;cases z))];exact h.dd,by rw[upd_ne h.ul];exact h.uu,by rw[zz1,e],h.ua.upd h.ll (λ_ z=>by cases z),(PrA.upd (λy hy=>h.la y (yak _ hy)) h.ll (λ_ z=>by cases z)),h.ul⟩
theorem UmI.app(h:UmI H H' d u l W un lf)(ht:H' t=some (.tup [.str z,.str b])):UmI H (upd H' u (.lst (un.map (λx=>V.ref x.1)++[V.ref t]))) d u l W (un++[(t,z,b)]) lf:=
 ⟨zz9 h.hu h.sm,h.hd,h.hu,h.hl,by rw[upd_ne (ne_of h.dd h.uu (by intro z;cases z))];exact h.dd,by rw[zz1,yac];rfl,by rw[upd_ne (Ne.symm h.ul)];exact h.ll,(h.ua.add (λy hy=>by rw[yae.mp hy];exact ht)).upd h.uu (λ_ z=>by cases z),h.la.upd h.uu (λ_ z=>by cases z),h.ul⟩
def Wn(e:Str)(ps:List PcM)(z b:Str):Prop:=(b=Str.ofString "" /\ z=e)\/(z,b)∈wPrs ps
structure UmJ(G S:List PcM)(e:Str)(W:List Str)(un lf:List Pr3)(Tp:List PcM)(rs:List (Str×Str×Str)):Prop where
 tc:TkC (G.map pcE) (S.map pcE) e (Tp.map pcE) rs
 sub:∀p∈Tp,p∈S
 w:∀z,z∈W↔z∈(G++Tp).map PcM.name
 wl:W.length<=(G++Tp).length
 lw:∀x∈lf,Wn e (G++Tp) x.2.1 x.2.2
 uw:∀x∈un,¬MetC (G.map pcE) (S.map pcE) x.2.1/\Wn e (G++Tp) x.2.1 x.2.2
 dn:∀z b,Wn e (G++Tp) z b->(z,b)∈lf.map (·.2)\/((MetC (G.map pcE) (S.map pcE) z->CovC (G.map pcE) (S.map pcE) (Tp.map pcE) z)/\(¬MetC (G.map pcE) (S.map pcE) z->(z,b)∈un.map (·.2)))
 ln:lf.length+un.length<=1+61 * (G++Tp).length
theorem mem_pop{lf:List Pr3}{x:Pr3}{y:Str×Str}(h:y∈(lf++[x]).map (·.2)):y∈lf.map (·.2)\/y=x.2:=by
 rw[yac]at h
 exact(yai.mp h).imp id yae.mp
theorem UmJ.popN(h:UmJ G S e W un (lf++[x]) Tp rs)(hn:¬MetC (G.map pcE) (S.map pcE) x.2.1):UmJ G S e W (un++[(t,x.2)]) lf Tp rs:=by
 refine⟨h.tc,h.sub,h.w,h.wl,λy hy=>h.lw y (yak _ hy),λy hy=>?_,λz b hw=>?_,?_⟩
 ·rcases yai.mp hy with q|q
  ·exact h.uw y q
  ·rw[yae.mp q];exact⟨hn,h.lw x (by simp)⟩
 ·rw[yac]
  rcases h.dn z b hw with q|⟨q1,q2⟩
  ·rcases mem_pop q with q|q
   ·exact .inl q
   ·refine .inr ⟨λm=>absurd m ?_,λ_=>yaj _ ?_⟩
    ·rw[<-q]at hn;exact hn
    ·rw[q];exact yae.mpr rfl
  ·exact .inr ⟨q1,λm=>yak _ (q2 m)⟩
 ·have:=h.ln
  rw[yah]at this ⊢
  simp only[List.length_singleton]at this ⊢
  omega
theorem UmJ.popC(h:UmJ G S e W un (lf++[x]) Tp rs)(hc:CovC (G.map pcE) (S.map pcE) (Tp.map pcE) x.2.1):UmJ G S e W un lf Tp rs:=by
 refine⟨h.tc,h.sub,h.w,h.wl,λy hy=>h.lw y (yak _ hy),h.uw,λz b hw=>?_,?_⟩
 ·rcases h.dn z b hw with q|q
  ·rcases mem_pop q with q|q
   ·exact .inl q
   ·have ez:z=x.2.1:=congrArg (·.1) q
    have m:MetC (G.map pcE) (S.map pcE) z:=by
     rw[ez]
     rcases hc with y|⟨p,_,y⟩
     ·exact .inl y
     ·exact .inr (by rw[y];rfl)
    exact .inr ⟨λ_=>by rw[ez];exact hc,λn=>absurd m n⟩
  ·exact .inr q
 ·have:=h.ln
  rw[yah]at this
  omega
theorem UmJ.popT(h:UmJ G S e W un (lf++[x]) Tp rs)(hg:firstC (G.map pcE) x.2.1=none)(hf:firstC (S.map pcE) x.2.1=some (pcE p))(hp:p∈S)(n:p.name∉W)(pb:PcB p)(et:ts.map (·.2)=(wantL p (fillsOf p.sts)).map λz=>(z,p.name)):UmJ G S e (addW W p.name) un (lf++ts) (Tp++[p]) (rs++[(p.name,x.2.1,x.2.2)]):=by
 have ea:G++(Tp++[p])=(G++Tp)++[p]:=(ybp ..).symm
 have em:(Tp++[p]).map pcE=Tp.map pcE++[pcE p]:=yac
 have mono:∀{z b},Wn e (G++Tp) z b->Wn e (G++(Tp++[p])) z b:=λ{z b} q=>q.imp id λq=>by rw[ea,wPrs_snoc];exact yak _ q
 have lw:=h.lw x (by simp)
 refine⟨?_,λq hq=>?_,λz=>?_,?_,λy hy=>?_,λy hy=>⟨(h.uw y hy).1,mono (h.uw y hy).2⟩,λz b hw=>?_,?_⟩
 ·rw[em]
  refine h.tc.snoc (p:=pcE p) hg hf (λq=>n ((h.w _).mpr ?_)) (lw.imp id λq=>?_)
  ·rw[nm_core]at q
   rw[yac];exact yaj _ q
  ·obtain⟨r,hr,q1,q2⟩:=wPrs_mem.mp q
   exact⟨pcE r,by rw[<-yac];exact yag.mpr ⟨r,hr,rfl⟩,q1,q2⟩
 ·rcases yai.mp hq with y|y
  ·exact h.sub q y
  ·rw[yae.mp y];exact hp
 ·rw[addW_in,ea,yac,yai,h.w z]
  exact or_congr Iff.rfl (by simp)
 ·have:=addW_len W p.name
  have:=h.wl
  rw[ea,yah]
  simp only[List.length_singleton]
  omega
 ·rcases yai.mp hy with q|q
  ·exact mono (h.lw y (yak _ q))
  ·have:y.2∈ts.map (·.2):=yag.mpr ⟨y,q,rfl⟩
   rw[et]at this
   exact .inr (by rw[ea,wPrs_snoc];exact yaj _ this)
 ·rw[ea]at hw
  have old:Wn e (G++Tp) z b->(z,b)∈(lf++ts).map (·.2)\/((MetC (G.map pcE) (S.map pcE) z->CovC (G.map pcE) (S.map pcE) ((Tp++[p]).map pcE) z)/\(¬MetC (G.map pcE) (S.map pcE) z->(z,b)∈un.map (·.2))):=λhw=>by
   rw[yac (l₁:=lf),em]
   rcases h.dn z b hw with q|⟨q1,q2⟩
   ·rcases mem_pop q with q|q
    ·exact .inl (yak _ q)
    ·have ez:z=x.2.1:=congrArg (·.1) q
     exact .inr ⟨λ_=>.inr ⟨pcE p,by simp,by rw[ez];exact hf⟩,λm=>absurd (.inr (by rw[ez,hf];rfl)) m⟩
   ·exact .inr ⟨λm=>cov_mono _ (q1 m),q2⟩
  rcases hw with q|q
  ·exact old (.inl q)
  ·rw[wPrs_snoc]at q
   rcases yai.mp q with q|q
   ·exact old (.inr q)
   ·rw[<-et]at q
    exact .inl (by rw[yac];exact yaj _ q)
 ·have h1:=h.ln
  have h2:=wantL_len pb
  have h3:=congrArg List.length et
  rw[yaa,yaa]at h3
  rw[ea,yah,yah (as:=G++Tp)]
  rw[yah]at h1
  simp only[List.length_singleton]at h1 ⊢
  omega
theorem first_two:(firstN (G++S) z=none->¬MetC (G.map pcE) (S.map pcE) z)/\∀p,firstN (G++S) z=some p->(firstC (G.map pcE) z=some (pcE p)/\p∈G)\/(firstC (G.map pcE) z=none/\firstC (S.map pcE) z=some (pcE p)/\p∈S):=by
 have e:firstN (G++S) z=(firstN G z).or (firstN S z):=List.find?_append
 refine⟨λh=>?_,λp h=>?_⟩
 ·rw[e,Option.or_eq_none_iff]at h
  rintro (m|m)
  ·rw[first_map,h.1]at m;cases m
  ·rw[first_map,h.2]at m;cases m
 ·rw[first_map,first_map]
  cases q:firstN G z with
  |some r=>
   rw[e,q]at h
   have:r=p:=Option.some.inj h
   subst this
   exact .inl ⟨rfl,ybs q⟩
  |none=>
   rw[e,q]at h
   have h:firstN S z=some p:=h
   exact .inr ⟨rfl,by rw[h];rfl,ybs h⟩
noncomputable def prD(x:Pr3):D:=.tup [.str x.2.1,.str x.2.2]
theorem pr_rep(h:PrA H ts)(hl:H l=some (.lst (ts.map λx=>V.ref x.1))):Rep K H (.lst (ts.map prD)) (.ref l):=by
 simp only[Rep]
 refine⟨_,_,rfl,SqL.of hl,RepL.map λx hx=>?_⟩
 simp only[prD,Rep]
 exact⟨_,_,rfl,SqT.of (h x hx),by simp[RepL,Rep]⟩
theorem pr_dep(ts:List Pr3):depL (ts.map prD)<=20:=yay (depL_le (n:=2) λx _=>by simp[prD,dep,depL]) (by decide)
noncomputable def prF(H:Hp)(a:Addr):Str×Str:=match H a with
 |some (.tup [.str x,.str y])=>(x,y)
 |_=>(Str.ofString "", Str.ofString "")
theorem G_qzv(T:Txt K mg A):FnOk P w K mg base CX0 3 A.qzv A.fd_qzv ["_law_some", "_law_entry"] sp_unmetL:=by
 refine T.F_qzv.ok sc_qzv (λvs H Q E h=>?_) (λcdv Ar outer s H vs Q E hr h=>?_)
 ·obtain⟨S,a0,e,G,xs,rfl,_⟩:=h
  rfl
 ·obtain⟨S,a0,e,G,xs,rfl,hS,bd,k,kx⟩:=h
  refine⟨_,(zz3 (ps_set (i:=2) sc_qzv.nd rfl (by walk_at "o") pe_dnewK) (zz3 (ps_set (i:=3) sc_qzv.nd rfl (by walk_at "o") (pe_lst pa_nil)) (zz3 (ps_set (i:=4) sc_qzv.nd rfl (by walk_at "o") (pe_lst (zz0 (pe_tup (zz0 (pv 1) (zz0 pe_str pa_nil))) pa_nil))) (zz3 (ps_for PassesOwn.never rfl (zz12 (K:=K) rfl (pe_ix (zz19 (K:=K) rfl) (pv 0) pe_int (λ_ _=>rfl))) (zz6 (i:=5) sc_qzv.nd rfl (by walk_at "o")) (zz3 (ps_dput (hu_of hr) (pv 2) (pe_ix (zz8 (K:=K) rfl) (pv 5) pe_int (λ_ _=>rfl)) pe_bl rfl) (zz5 (ps_set (i:=4) sc_qzv.nd rfl (by walk_at "o") (pe_op (op_catSK (K:=K) rfl) (pv 4) (pe_comp (blk_mk (own:=["_law_name"]) (fr:=["_law_piece"]) (fm:=[5]) rfl (by decide +kernel) (by decide +kernel) (by decide +kernel) (.cons rfl (by walk_at "o") rfl .nil)) rfl (zz12 (K:=K) rfl (zz10 (G_qzw T) (hr.mono (by decide)) rfl T.m_qzw T.k_qzw T.b_qzw .nil pass0 (zz0 (pv 5) pa_nil))) (λ_ _ _=>⟨(zz6 (i:=0) (by show List.Nodup (["_law_name", "_law_piece"]:List Str);decide +kernel) rfl (by walk_at "o")),pts_nil,(pe_tup (zz0 (pv 0) (zz0 (pe_ix (zz8 (K:=K) rfl) (pv 1) pe_int (λ_ _=>rfl)) pa_nil)))⟩))))))) (zz3 (ps_while PassesOwn.never (zz15 (op_neDK hr.units (K:=K) rfl) (pv 4) (pe_lst pa_nil) (nomark _)) (zz3 (ps_asg (pe_bm0 PySem.F.plainAttrs_list PySem.F.slot_list_pop PySem.F.type_list_pop mt_pop (pv 4)) (pg_tupK (K:=K) (n:=2) rfl rfl (zz7 (zz6 (i:=6) sc_qzv.nd rfl (by walk_at "o")) (zz7 (zz6 (i:=7) sc_qzv.nd rfl (by walk_at "o")) pgs_nil)))) (zz3 (ps_set (i:=5) sc_qzv.nd rfl (by walk_at "o") (zz10 (G_qzx T) (hr.mono (by decide)) rfl T.m_qzx T.k_qzx T.b_qzx .nil pass0 (zz0 (pv 0) (zz0 (pv 6) pa_nil)))) (zz5 (ps_if (zz15 op_isN (pv 5) pe_non (nomark _)) (zz5 (zz20 (pe_bm PySem.F.plainAttrs_list PySem.F.slot_list_append PySem.F.type_list_append zz23 (pv 3) (zz0 (pe_tup (zz0 (pv 6) (zz0 (pv 7) pa_nil))) pa_nil)))) (zz5 (ps_if (pt_cmp (pc_dnotin (hu_of hr) (pe_ix (zz8 (K:=K) rfl) (pv 5) pe_int (λ_ _=>rfl)) (pv 2))) (zz3 (ps_dput (hu_of hr) (pv 2) (pe_ix (zz8 (K:=K) rfl) (pv 5) pe_int (λ_ _=>rfl)) pe_bl rfl) (zz5 (ps_set (i:=4) sc_qzv.nd rfl (by walk_at "o") (pe_op (op_catSK (K:=K) rfl) (pv 4) (pe_comp (blk_mk (own:=["_law_other"]) (fr:=["_law_piece"]) (fm:=[5]) rfl (by decide +kernel) (by decide +kernel) (by decide +kernel) (.cons rfl (by walk_at "o") rfl .nil)) rfl (zz12 (K:=K) rfl (zz10 (G_qzw T) (hr.mono (by decide)) rfl T.m_qzw T.k_qzw T.b_qzw .nil pass0 (zz0 (pv 5) pa_nil))) (λ_ _ _=>⟨(zz6 (i:=0) (by show List.Nodup (["_law_other", "_law_piece"]:List Str);decide +kernel) rfl (by walk_at "o")),pts_nil,(pe_tup (zz0 (pv 0) (zz0 (pe_ix (zz8 (K:=K) rfl) (pv 1) pe_int (λ_ _=>rfl)) pa_nil)))⟩)))))) zz16))))))) (zz3 (ps_if (zz15 (op_eqDK hr.units (K:=K) rfl) (pv 3) (pe_lst pa_nil) (nomark _)) (zz5 (ps_ret pe_non)) zz16) (zz5 (ps_ret (zz11 (call_minPK rfl hr.units (K:=K) rfl) (by rfl) T.n_min bt_min (zz0 (pv 3) pa_nil)))))))))),?_⟩
  walk_at "rd"
  refine λd h1=>⟨ya1 _,λu h2=>⟨by rw[sizeLine_eq];decide,λt0 h3=>⟨by rw[sizeLine_eq];decide,λl0 h4=>?_⟩⟩⟩
  have s1:=zz2 (o:=HO.dK []) h1
  have s2:=zz2 (o:=HO.lst []) h2
  have s3:=zz2 (o:=HO.tup [V.str e,V.str (Str.ofString "")]) h3
  have s4:=zz2 (o:=HO.lst [V.ref t0]) h4
  have um:UmI H (upd (upd (upd (upd H d (HO.dK [])) u (HO.lst [])) t0 (HO.tup [V.str e,V.str (Str.ofString "")])) l0 (HO.lst [V.ref t0])) d u l0 [] [] [(t0,e,Str.ofString "")]:=
   ⟨((s1.trans s2).trans s3).trans s4,h1,s1.free h2,((s1.trans s2).trans s3).free h4,s4 _ _ (s3 _ _ (s2 _ _ zz1)),s4 _ _ (s3 _ _ zz1),zz1,(λx hx=>by cases hx),(λx hx=>by rw[yae.mp hx];exact s4 _ _ zz1),zz4 (s3 _ _ zz1) h4⟩
  generalize upd (upd (upd (upd H d (HO.dK [])) u (HO.lst [])) t0 (HO.tup [V.str e,V.str (Str.ofString "")])) l0 (HO.lst [V.ref t0])=H0 at *
  have at0:atI (((a0,G)::xs).map λy=>V.ref y.1) 0=some (V.ref a0):=(show atI (V.ref a0::xs.map λy=>V.ref y.1) ((0:Nat):Int)=_ from atI_nat rfl)
  have ef:flat ((a0,G)::xs)=G++flat xs:=rfl
  have few:=bd.few
  rw[yah]at few
  have pG:=hS.at_ (a0,G) ya5
  have bG:∀p∈G,PcB p:=λp hp=>bd.bnd p (yak _ hp)
  refine⟨_,SqL.of (um.sm _ _ hS.top),_,at0,?_⟩
  refine ForL.of (xs:=G.map PcM.v) (λi σ H'=>∃(l:Addr) (W:List Str) (lf:List Pr3) (b5:Option V),σ=[some (.ref S),some (.str e),some (.ref d),some (.ref u),some (.ref l),b5,none,none]/\UmI H H' d u l W [] lf/\W.length<=i/\(∀z,z∈W↔z∈(G.take i).map PcM.name)/\lf.map (·.2)=(e,Str.ofString "")::wPrs (G.take i))
   ⟨l0,[],[(t0,e,Str.ofString "")],_,rfl,um,yap _,λz=>Iff.rfl,rfl⟩ ?_ ?_ ?_
  ·rintro i σ H' hi ⟨l,W,lf,b5,rfl,um,_⟩
   exact SqL.of (um.sm _ _ pG.top)
  ·rintro i v σ H' hv ⟨l,W,lf,b5,rfl,um,wl,wm,el⟩
   walk_at "6"
   walk_at "7"
   have hm:=yan hp
   have il:=(yam.mp hp).1
   have pa0:=pG.at_ p hm
   have tk:G.take (i+1)=G.take i++[p]:=by rw[ya4,hp];rfl
   have al:=addW_len W p.name
   have wn:=wantL_len (bG p hm)
   have ll:lf.length<=1+61 * i:=by
    have h1:=congrArg List.length el
    have h2:=wPrs_len (ps:=G.take i) λq hq=>bG q (yc4 hq)
    rw[yaa,ya7]at h1
    rw[ybe]at h2
    omega
   walk_at "rd"
   refine⟨_,SqT.of (um.sm _ _ pa0.top),_,rfl,_,DPut.k (k:=.inr p.name) um.dd (by rw[yaa,sizeLine_eq];omega),p,rfl,pa0.mono um.put.sm,bG p hm,λw H2 s5 hw0 hw=>?_⟩
   have um2:=(um.put (z:=p.name)).same s5
   refine pairs_row (p:=p) (pa0.mono um2.sm) hw (by omega) λD ts H3 s6 hD hDD ta et=>⟨D,rfl,_,SqL.of (s6 _ _ um2.ll),_,SqL.of hDD,?_,λq hq=>?_⟩
   ·have:=congrArg List.length et
    walk_at "3"
    rw[yaa,yaa,sizeLine_eq];omega
   refine⟨addW W p.name,lf++ts,(um2.same s6).cat ta hq,by omega,λz=>?_,?_⟩
   ·rw[addW_in,wm,tk,yac,yai]
    exact or_congr Iff.rfl (by simp)
   ·rw[yac,el,et,tk,wPrs_snoc];rfl
  ·rintro σ H' ⟨l,W,lf,b5,rfl,um,wl,wm,el⟩
   rw[yaa,ya0]at wm el
   rw[yaa]at wl
   have j0:UmJ G (flat xs) e W [] lf [] []:=by
    refine⟨⟨List.nodup_nil,(λp hp=>by cases hp),rfl,(λi p r hp=>by cases hp)⟩,(λp hp=>by cases hp),by rw[ybc];exact wm,by rw[ybc];exact wl,λx hx=>?_,(λx hx=>by cases hx),λz b hw=>.inl ?_,?_⟩
    ·have:x.2∈lf.map (·.2):=yag.mpr ⟨x,hx,rfl⟩
     rw[el]at this
     rcases yau.mp this with q|q
     ·exact .inl ⟨congrArg (·.2) q,congrArg (·.1) q⟩
     ·exact .inr (by rw[ybc];exact q)
    ·rw[el]
     rw[ybc]at hw
     rcases hw with ⟨q1,q2⟩|q
     ·rw[q1,q2];exact ya5
     ·exact yaw _ q
    ·have h1:=congrArg List.length el
     have h2:=wPrs_len bG
     rw[yaa,ya7]at h1
     rw[ybc]
     simp only[List.length_nil]
     omega
   walk_at "rd"
   refine⟨λm σ Hc=>∃(l:Addr) (W:List Str) (un lf:List Pr3) (Tp:List PcM) (rs:List (Str×Str×Str)) (b5 b6 b7:Option V),σ=[some (.ref S),some (.str e),some (.ref d),some (.ref u),some (.ref l),b5,b6,b7]/\UmI H Hc d u l W un lf/\UmJ G (flat xs) e W un lf Tp rs/\m=62 * (17 - Tp.length)+lf.length,
    ⟨_,l,W,[],lf,[],[],_,_,_,rfl,um,j0,rfl⟩,?_⟩
   rintro m σ Hc ⟨l,W,un,lf,Tp,rs,b5,b6,b7,rfl,um,uj,em⟩
   have tl:=tk_len bd uj.tc uj.sub
   have ln:=uj.ln
   have wl:=uj.wl
   walk_at "rd"
   refine⟨ya1 _,λq hq=>?_⟩
   have sq:=zz2 (o:=HO.lst []) hq
   have um1:=um.same sq
   have q1:upd Hc q (HO.lst []) q=some (HO.lst []):=zz1
   generalize upd Hc q (HO.lst [])=H1 at *
   refine⟨_,_,.inl ⟨pr_rep um1.la um1.ll,nil_rep q1⟩,pr_dep _,_,rfl,?_⟩
   rw[deq_nil]
   rcases List.eq_nil_or_concat lf with rfl|⟨lf',x,ex⟩
   ·rw[if_neg (by decide)]
    refine⟨ya1 _,λp hp=>?_⟩
    have sp:=zz2 (o:=HO.lst []) hp
    have um2:=um1.same sp
    have p2:upd H1 p (HO.lst []) p=some (HO.lst []):=zz1
    generalize upd H1 p (HO.lst [])=H2 at *
    refine⟨_,_,.inl ⟨pr_rep um2.ua um2.uu,nil_rep p2⟩,pr_dep _,_,rfl,?_⟩
    rw[deq_nil]
    have cl:ClosU (G.map pcE) ((flat xs).map pcE) e (Tp.map pcE):=by
     refine⟨λm=>(uj.dn e (Str.ofString "") (.inl ⟨rfl,rfl⟩)).elim (λq=>by cases q) λq=>q.1 m,λq hq z hz m=>?_⟩
     rw[<-yac]at hq
     obtain⟨r,hr,rfl⟩:=yag.mp hq
     exact(uj.dn z r.name (.inr (wPrs_mem.mpr ⟨r,hr,rfl,hz⟩))).elim (λq=>by cases q) λq=>q.1 m
    have dmI:∀z b,Dm (G.map pcE) ((flat xs).map pcE) e (Tp.map pcE) z b->(z,b)∈un.map (·.2):=λz b hd=>by
     refine(uj.dn z b (hd.2.imp id λ⟨q,hq,q1,q2⟩=>?_)).elim (λq=>by cases q) λq=>q.2 hd.1
     rw[<-yac]at hq
     obtain⟨r,hr,rfl⟩:=yag.mp hq
     exact wPrs_mem.mpr ⟨r,hr,q1,q2⟩
    have dmO:∀x∈un,Dm (G.map pcE) ((flat xs).map pcE) e (Tp.map pcE) x.2.1 x.2.2:=λx hx=>by
     obtain⟨h1,h2⟩:=uj.uw x hx
     refine⟨h1,h2.imp id λq=>?_⟩
     obtain⟨r,hr,q1,q2⟩:=wPrs_mem.mp q
     exact⟨pcE r,by rw[<-yac];exact yag.mpr ⟨r,hr,rfl⟩,q1,q2⟩
    cases un with
    |nil=>
     rw[if_pos (by rfl)]
     exact k _ _ H2 um2.sm uj.tc cl λz b h=>by cases dmI z b h
    |cons x0 xr=>
     rw[if_neg (by simp)]
     have fx:∀x∈x0::xr,prF H2 x.1=x.2:=λx hx=>by unfold prF;rw[um2.ua x hx]
     refine⟨(x0::xr).map (·.1),by rw[ya6];exact SqL.of um2.uu,by simp,prF H2,λa ha=>?_,λa ha least=>?_⟩
     ·obtain⟨x,hx,rfl⟩:=yag.mp ha
      rw[fx x hx];exact um2.ua x hx
     ·obtain⟨x,hx,rfl⟩:=yag.mp ha
      have le:∀z b,Dm (G.map pcE) ((flat xs).map pcE) e (Tp.map pcE) z b->ltQ (z,b) x.2=false:=λz b hd=>by
       obtain⟨y,hy,e⟩:=yag.mp (dmI z b hd)
       have:=least y.1 (yag.mpr ⟨y,hy,rfl⟩)
       rw[fx y hy,fx x hx,e]at this
       exact this
      have no:∀{b:Bool},b=false->¬b=true:=λh z=>by rw[h]at z;cases z
      exact kx _ _ x.2.1 x.2.2 x.1 H2 um2.sm uj.tc cl ⟨dmO x hx,λz' b' hd=>List.not_lt.mp λq=>no (le z' b' hd) ((ltQ_cases _ _).mpr (.inl q)),λb' hd=>List.not_lt.mp λq=>no (le _ b' hd) ((ltQ_cases _ _).mpr (.inr ⟨rfl,q⟩))⟩ (um2.ua x hx)
   ·rw[List.concat_eq_append]at ex
    subst ex
    rw[if_pos (by simp)]
    have gl:((lf'++[x]).map λx=>V.ref x.1)[((lf'++[x]).map λx=>V.ref x.1).length - 1]?=some (V.ref x.1):=by
     rw[yac,yah,List.map_singleton,yb2,Nat.add_sub_cancel,ybj (yap _),Nat.sub_self];rfl
    have um2:=um1.pop
    have hx:upd H1 l (.lst (((lf'++[x]).map λx=>V.ref x.1).dropLast)) x.1=some (.tup [.str x.2.1,.str x.2.2]):=um1.la.upd um1.ll (λ_ z=>by cases z) x (by simp)
    rw[yah]at ln em
    simp only[List.length_singleton]at ln em
    have atA:∀q∈G++flat xs,q.At H:=λq hq=>by
     obtain⟨y,hy,hq⟩:=yav.mp (show q∈flat ((a0,G)::xs) from hq)
     exact(hS.at_ y hy).at_ q hq
    refine⟨_,λσ' H' h=>h,.inl ⟨rfl,_,SqL.of um1.ll⟩,_,um1.ll,_,gl,x.1,rfl,_,SqT.of hx,rfl,_,_,rfl,_,_,rfl,rfl,x.2.1,rfl,(a0,G)::xs,zz18 hS um2.sm,(λp hp=>bd.bnd p hp),λH3 s3=>?_⟩
    have um3:=um2.same s3
    cases q:firstN (flat ((a0,G)::xs)) x.2.1 with
    |none=>
     rw[if_pos (by simp[optV])]
     refine⟨.inl ⟨rfl,_,SqL.of um3.uu⟩,by walk_at "s", λt ht=>⟨_,zz2 ht _ _ um3.uu,by rw[yaa,sizeLine_eq];omega,?_⟩⟩
     exact⟨_,by omega,l,W,un++[(t,x.2)],lf',Tp,rs,_,_,_,rfl,(um3.same (zz2 ht)).app zz1,uj.popN (first_two.1 q),rfl⟩
    |some p=>
     have pin:p∈G++flat xs:=ybs q
     have pb:=bd.bnd p pin
     have pa:=atA p pin
     have ft:=first_two.2 p q
     rw[if_neg (by simp[optV])]
     refine⟨p.t,rfl,_,SqT.of (um3.sm _ _ pa.top),_,rfl,_,DGet.k (k:=Sum.inr p.name) um3.dd,?_⟩
     by_cases hin:p.name∈W
     ·rw[if_neg (by rw[valW_yes' hin];decide)]
      refine⟨_,?_,l,W,un,lf',Tp,rs,_,_,_,rfl,um3,uj.popC ?_,rfl⟩
      ·omega
      ·rcases ft with ⟨h1,_⟩|⟨h1,h2,hpS⟩
       ·exact .inl (by rw[h1];rfl)
       ·obtain⟨r,hr,er⟩:=yag.mp ((uj.w _).mp hin)
        have hrS:r∈G++flat xs:=(yai.mp hr).elim (yak _) λy=>yaj _ (uj.sub r y)
        have e:=name_inj bd.nd hrS pin er
        subst e
        rcases yai.mp hr with y|y
        ·exact absurd (List.find?_some q) (List.find?_eq_none.mp h1 (pcE r) (yag.mpr ⟨r,y,rfl⟩))
        ·exact .inr ⟨pcE r,yag.mpr ⟨r,y,rfl⟩,h2⟩
     ·rw[if_pos (by rw[valW_no' hin];rfl)]
      have wn:=wantL_len pb
      refine⟨p.t,rfl,_,SqT.of (um3.sm _ _ pa.top),_,rfl,_,DPut.k (k:=.inr p.name) um3.dd (by rw[yaa,sizeLine_eq];omega),p,rfl,pa.mono um3.put.sm,pb,λw H4 s5 hw0 hw=>?_⟩
      have um4:=(um3.put (z:=p.name)).same s5
      refine pairs_row (p:=p) (pa.mono um4.sm) hw (by omega) λD ts H5 s6 hD hDD ta et=>⟨D,rfl,_,SqL.of (s6 _ _ um4.ll),_,SqL.of hDD,?_,λq' hq'=>?_⟩
      ·have:=congrArg List.length et
       walk_at "3"
       rw[yaa,yaa,sizeLine_eq];omega
      rcases ft with ⟨h1,hpG⟩|⟨h1,h2,hpS⟩
      ·exact absurd ((uj.w _).mpr (yag.mpr ⟨p,yak _ hpG,rfl⟩)) hin
      ·refine⟨_,?_,q',addW W p.name,un,lf'++ts,Tp++[p],rs++[(p.name,x.2.1,x.2.2)],_,_,_,rfl,(um4.same s6).cat ta hq',uj.popT h1 h2 hpS hin pb et,rfl⟩
       have:=congrArg List.length et
       walk_at "3"
       rw[yah,yah (as:=lf'),yb2]
       rw[yah]at tl
       omega
theorem G_qzy(T:Txt K mg A):FnOk P w K mg base CX0 1 A.qzy A.fd_qzy ["_law_kept"] (sp_aloneU A):=by
 refine T.F_qzy.ok sc_qzy (λvs H Q E h=>?_) (λcdv Ar outer s H vs Q E hr h=>?_)
 ·obtain⟨a,C,dx,rfl,_⟩:=h
  rfl
 ·obtain⟨a,C,dx,rfl,hC,ha,hd,k⟩:=h
  have xc:XCls K C:=by
   rcases hC with rfl|rfl
   ·exact⟨T.xg_qyk,T.xn_qyk,T.xl_qyk,T.sp_cl,T.tk_cl,T.xo_qyk,T.xb_qyk⟩
   ·exact⟨T.xg_qxj,T.xn_qxj,T.xl_qxj,T.sp_cl,T.tk_cl,T.xo_qxj,T.xb_qxj⟩
  refine⟨_,(zz3 (ps_weak (u:=aS1 K A) (ps_set (i:=1) sc_qzy.nd rfl (by walk_at "o") (pe_lst (zz0 (zz11 (zz24 (K:=K) rfl) (by rfl) T.n_isinstance zz13 (zz0 (pv 0) (zz0 (pe_glob (v:=.ref A.c_qxx) rfl T.mc_qxx rfl) pa_nil))) (zz0 (zz11 (zz24 (K:=K) rfl) (by rfl) T.n_isinstance zz13 (zz0 (pv 0) (zz0 (pe_glob (v:=.ref A.c_qxw) rfl T.mc_qxw rfl) pa_nil))) (zz0 (zz11 (zz24 (K:=K) rfl) (by rfl) T.n_isinstance zz13 (zz0 (pv 0) (zz0 (pe_glob (v:=.ref A.c_qxv) rfl T.mc_qxv rfl) pa_nil))) (zz0 (zz11 (zz24 (K:=K) rfl) (by rfl) T.n_isinstance zz13 (zz0 (pv 0) (zz0 (pe_glob (v:=.ref A.c_qyk) rfl T.mc_qyk rfl) pa_nil))) pa_nil)))))) ?wa1) (zz3 (ps_weak (u:=aS2 K A) (ps_set (i:=1) sc_qzy.nd rfl (by walk_at "o") (pe_op (op_catSK (K:=K) rfl) (pv 1) (pe_lst (zz0 (zz11 (zz24 (K:=K) rfl) (by rfl) T.n_isinstance zz13 (zz0 (pv 0) (zz0 (pe_glob (v:=.ref A.c_qxj) rfl T.mc_qxj rfl) pa_nil))) (zz0 (zz11 (zz24 (K:=K) rfl) (by rfl) T.n_isinstance zz13 (zz0 (pv 0) (zz0 (pe_glob (v:=.ref A.c_qxk) rfl T.mc_qxk rfl) pa_nil))) (zz0 (zz11 (zz24 (K:=K) rfl) (by rfl) T.n_isinstance zz13 (zz0 (pv 0) (zz0 (pe_glob (v:=.ref A.c_qyj) rfl T.mc_qyj rfl) pa_nil))) pa_nil)))))) ?wa2) (zz3 (ps_weak (u:=aS3 K A) (ps_set (i:=1) sc_qzy.nd rfl (by walk_at "o") (pe_op (op_catSK (K:=K) rfl) (pv 1) (pe_lst (zz0 (zz11 (zz24 (K:=K) rfl) (by rfl) T.n_isinstance zz13 (zz0 (pv 0) (zz0 (pe_glob (v:=.ref A.c_qxz) rfl T.mc_qxz rfl) pa_nil))) (zz0 (zz11 (zz24 (K:=K) rfl) (by rfl) T.n_isinstance zz13 (zz0 (pv 0) (zz0 (pe_glob (v:=.ref A.c_Lost) rfl T.mc_Lost rfl) pa_nil))) (zz0 (zz11 (zz24 (K:=K) rfl) (by rfl) T.n_isinstance zz13 (zz0 (pv 0) (zz0 (pe_glob (v:=.ref A.c_qyv) rfl T.mc_qyv rfl) pa_nil))) pa_nil)))))) ?wa3) (zz5 (ps_ret (pe_and (pe_cmpR op_eq (pe_bm PySem.F.plainAttrs_list PySem.F.slot_list_count PySem.F.type_list_count (mt_countK (K:=K) rfl) (pv 1) (zz0 pe_bl pa_nil)) pe_int (nomark _)) (pe_and (zz11 (zz24 (K:=K) rfl) (by rfl) T.n_isinstance zz13 (zz0 (pv 0) (zz0 (pe_glob (v:=.ref A.c_qyw) rfl T.mc_qyw rfl) pa_nil))) (pe_one (zz11 (zz24 (K:=K) rfl) (by rfl) T.n_isinstance zz13 (zz0 (pv 0) (zz0 (pe_bltn rfl T.n_ValueError bt_ValueError relT) pa_nil))))))))))),?main⟩
  case wa1=>
   rintro D σ H ⟨a,C,b1,bs,rfl,ty,⟨x1,x2,x3,x4,k1,k2,k3,k4,rfl⟩,k⟩
   walk_at "rd"
   exact⟨rfl,_,ty,_,k1,rfl,_,ty,_,k2,rfl,_,ty,_,k3,rfl,_,ty,_,k4,by walk_at "s", λq h=>k q _ (zz2 h) zz1⟩
  case wa2=>
   rintro D σ H ⟨a,C,l,b0,bs,rfl,hl,hb,ty',⟨x1,x2,x3,k1,k2,k3,rfl⟩,k⟩
   have ty:=ty' (Same.refl _)
   walk_at "rd"
   refine⟨rfl,_,ty,_,k1,rfl,_,ty,_,k2,rfl,_,ty,_,k3,by walk_at "s", λq h=>?_⟩
   exact⟨_,SqL.of (zz2 h _ _ hl),_,SqL.of zz1,by rw[sizeLine_eq];exact yay (Nat.add_le_add_right hb 3) (by decide),λr h2=>k r _ ((zz2 h).trans (zz2 h2)) zz1⟩
  case wa3=>
   rintro D σ H ⟨a,C,l,b0,bs,rfl,hl,hb,ty',⟨x1,x2,x3,k1,k2,k3,rfl⟩,k⟩
   have ty:=ty' (Same.refl _)
   walk_at "rd"
   refine⟨rfl,_,ty,_,k1,rfl,_,ty,_,k2,rfl,_,ty,_,k3,by walk_at "s", λq h=>?_⟩
   exact⟨_,SqL.of (zz2 h _ _ hl),_,SqL.of zz1,by rw[sizeLine_eq];exact yay (Nat.add_le_add_right hb 3) (by decide),λr h2=>k r _ ((zz2 h).trans (zz2 h2)) zz1⟩
  walk_at "rd"
  have dm:∀{H':Hp},Same H H'->DxOk dx H':=λ{H'} e=>by
   rcases hd with z|⟨d,fs,z,y⟩
   ·exact .inl z
   ·exact .inr ⟨d,fs,z,e _ _ y⟩
  have ty:∀{H':Hp},Same H H'->TyX K H' (V.ref a) (.ref C):=λ{H'} e=>.inr ⟨a,_,dx,rfl,rfl,e _ _ ha,dm e,xc⟩
  obtain⟨c1,c2,c3,a1,a2,a3,l1,l2,cnt,kj,kv⟩:∃c1 c2 c3:List V,AL1 K A C c1/\AL2 K A C c2/\AL3 K A C c3/\c1.length=4/\c2.length=3/\((c1++c2++c3).all flatV=true/\cntV (.bl true) (c1++c2++c3)=1)/\kitOne K (.ref C) (.ref A.c_qyw)=some true/\kitOne K (.ref C) (.type "ValueError")=some true:=by
   rcases hC with rfl|rfl
   ·exact⟨_,_,_,⟨_,_,_,_,T.ks_qxx,T.ks_qxw,T.ks_qxv,T.ks_qyk,rfl⟩,⟨_,_,_,T.ks_qxj,T.ks_qxk,T.ks_qyj,rfl⟩,⟨_,_,_,T.ks_qxz,T.ks_Lost,T.ks_qyv,rfl⟩,rfl,rfl,⟨rfl,rfl⟩,T.ks_qyw,T.ks_V⟩
   ·exact⟨_,_,_,⟨_,_,_,_,T.ku_qxx,T.ku_qxw,T.ku_qxv,T.ku_qyk,rfl⟩,⟨_,_,_,T.ku_qxj,T.ku_qxk,T.ku_qyj,rfl⟩,⟨_,_,_,T.ku_qxz,T.ku_Lost,T.ku_qyv,rfl⟩,rfl,rfl,⟨rfl,rfl⟩,T.ku_qyw,T.ku_V⟩
  refine⟨a,C,_,c1,rfl,ty (Same.refl _),a1,λq1 H1 s1 h1=>⟨a,C,q1,c1,c2,rfl,h1,by omega,λe=>ty (s1.trans e),a2,λq2 H2 s2 h2=>⟨a,C,q2,c1++c2,c3,rfl,h2,by rw[yah];omega,λe=>ty ((s1.trans s2).trans e),a3,λq3 H3 s3 h3=>?_⟩⟩⟩
  have s5:=(s1.trans s2).trans s3
  have t5:=ty s5
  walk_at "rd"
  refine⟨.inl ⟨rfl,_,SqL.of h3⟩,_,SqL.of h3,rfl,cnt.1,?_⟩
  rw[cnt.2,if_pos (by decide)]
  exact⟨rfl,_,t5,_,kj,⟨rfl,_,t5,_,kv,k _ s5⟩⟩
theorem G_qzz(T:Txt K mg A):FnOk P w K mg base CX0 4 A.qzz A.fd_qzz ["_law_answer", "_law_kept", "_law_some", "_law_entry"] (sp_right A):=by
 refine T.F_qzz.ok sc_qzz (λvs H Q E h=>?_) (λcdv Ar outer s H vs Q E hr h=>?_)
 ·obtain⟨u,v,S,a0,e,G,xs,o,rfl,_⟩:=h
  rfl
 ·obtain⟨u,v,S,a0,e,G,xs,o,rfl,hS,bd,ok,ov,k⟩:=h
  refine⟨_,(zz3 (ps_set (i:=4) sc_qzz.nd rfl (by walk_at "o") (zz10 (G_qwz T) (hr.mono (by decide)) rfl T.m_qwz T.k_qwz T.b_qwz .nil pass0 (zz0 (pv 2) pa_nil))) (zz3 (ps_if (zz15 op_notN (pv 4) pe_non (nomark _)) (zz3 (ps_if (PW.pt (pw_or (pt_not (pt_val (zz11 (zz24 (K:=K) rfl) (by rfl) T.n_isinstance zz13 (zz0 (pv 1) (zz0 (pe_glob (v:=.ref A.c_qyk) rfl T.mc_qyk rfl) pa_nil))))) (pw_or1 (pt_not (pt_val (zz10 (G_qzy T) (hr.mono (by decide)) rfl T.m_qzy T.k_qzy T.b_qzy .nil pass0 (zz0 (pv 1) pa_nil))))))) (zz5 (ps_ret pe_bl)) zz16) (zz5 (ps_ret (pe_and (zz11 (call_isiK (K:=K) rfl) (by rfl) T.n_isinstance zz13 (zz0 (pe_xfld (pv 1) rfl) (zz0 (pe_bltn rfl T.n_str bt_str relT) pa_nil))) (pe_one (pe_cmpR op_eq (pe_xfld (pv 1) rfl) (pv 4) (nomark _))))))) zz16) (zz3 (ps_set (i:=5) sc_qzz.nd rfl (by walk_at "o") (zz10 (G_qzv T) (hr.mono (by decide)) rfl T.m_qzv T.k_qzv T.b_qzv .nil pass0 (zz0 (pv 2) (zz0 (pv 3) pa_nil)))) (zz3 (ps_if (zz15 op_isN (pv 5) pe_non (nomark _)) (zz5 (ps_ret (pe_and (pe_cmpR op_isN (pv 1) pe_non (nomark _)) (pe_one (zz11 (call_isiK (K:=K) rfl) (by rfl) T.n_isinstance zz13 (zz0 (pv 0) (zz0 (pe_bltn rfl T.n_list bt_list relT) pa_nil))))))) zz16) (zz3 (ps_if (PW.pt (pw_or (pt_not (pt_val (zz11 (zz24 (K:=K) rfl) (by rfl) T.n_isinstance zz13 (zz0 (pv 1) (zz0 (pe_glob (v:=.ref A.c_qxj) rfl T.mc_qxj rfl) pa_nil))))) (pw_or1 (pt_not (pt_val (zz10 (G_qzy T) (hr.mono (by decide)) rfl T.m_qzy T.k_qzy T.b_qzy .nil pass0 (zz0 (pv 1) pa_nil))))))) (zz5 (ps_ret pe_bl)) zz16) (zz3 (ps_if (PW.pt (pw_or (pt_not (pt_val (zz11 (call_isiK (K:=K) rfl) (by rfl) T.n_isinstance zz13 (zz0 (pe_xfld (pv 1) rfl) (zz0 (pe_bltn rfl T.n_str bt_str relT) pa_nil))))) (pw_or1 (pt_not (pt_val (zz11 (call_isiK (K:=K) rfl) (by rfl) T.n_isinstance zz13 (zz0 (pe_xfld (pv 1) rfl) (zz0 (pe_bltn rfl T.n_str bt_str relT) pa_nil)))))))) (zz5 (ps_ret pe_bl)) zz16) (zz5 (ps_ret (pe_cmpR (op_eqDK hr.units (K:=K) rfl) (pe_tup (zz0 (pe_xfld (pv 1) rfl) (zz0 (pe_xfld (pv 1) rfl) pa_nil))) (pv 5) (nomark _)))))))))),?_⟩
  walk_at "rd"
  have fe:flat ((a0,G)::xs)=G++flat xs:=rfl
  have ne:(flat ((a0,G)::xs)).map PcM.name=(G.map pcE++(flat xs).map pcE).map (·.1):=by rw[fe,nm_core2]
  have xcS:XCls K A.c_qyk:=⟨T.xg_qyk,T.xn_qyk,T.xl_qyk,T.sp_cl,T.tk_cl,T.xo_qyk,T.xb_qyk⟩
  have xcU:XCls K A.c_qxj:=⟨T.xg_qxj,T.xn_qxj,T.xl_qxj,T.sp_cl,T.tk_cl,T.xo_qxj,T.xb_qxj⟩
  refine⟨_,hS,by rw[fe];exact bd.few,λH1 s1 nd=>?_,λz' H1 s1 db lz=>?_⟩
  ·rw[if_neg (by simp)]
   have nd2:=nd
   rw[ne]at nd2
   refine⟨a0,G,xs,zz18 hS s1,bd.full (by rw[<-fe];exact nd),λT' rs H2 s2 tc cl nu=>?_,λT' rs z b t H2 s2 tc cl lu ht=>?_⟩
   ·have eo:=OtOk.one ok (y:=none) ⟨nd2,T',rs,tc,cl,nu⟩
    subst eo
    obtain⟨rfl,l,ws,rfl,hl⟩:=ov
    rw[if_pos (by simp),if_pos (by simp)]
    exact⟨_,.lst (s2 _ _ (s1 _ _ hl)),true,rfl,k H2 (s1.trans s2)⟩
   ·have eo:=OtOk.one ok (y:=some (z,some b)) ⟨nd2,T',rs,tc,cl,lu⟩
    subst eo
    obtain⟨a,d,rfl,ha,hd⟩:=ov
    rw[if_neg (by simp)]
    have sA:=s1.trans s2
    have ha2:=sA _ _ ha
    have hd2:=sA _ _ hd
    have dk:DxOk (some d) H2:=.inr ⟨d,_,rfl,hd2⟩
    have ty:TyX K H2 (V.ref a) (.ref A.c_qxj):=.inr ⟨a,_,some d,rfl,rfl,ha2,dk,xcU⟩
    have lk1:List.lookup (Str.ofString "name") [(Str.ofString "name", V.str z),(Str.ofString "piece", V.str b)]=some (V.str z):=by simp[List.lookup]
    have lk2:List.lookup (Str.ofString "piece") [(Str.ofString "name", V.str z),(Str.ofString "piece", V.str b)]=some (V.str b):=by
     have e:(Str.ofString "piece" == Str.ofString "name")=false:=by decide +kernel
     simp only[List.lookup,e]
     simp
    refine⟨rfl,_,ty,_,T.ku_qxj,iteF ⟨a,rfl,A.c_qxj,.inr rfl,some d,ha2,dk,λH3 s3=>?_⟩⟩
    have ha3:=s3 _ _ ha2
    have hd3:=s3 _ _ hd2
    refine⟨a,rfl,_,d,ha3,_,hd3,xcU,T.ku_hd,T.no_qxj_name,_,lk1,_,.str z,true,rfl,iteF ⟨a,rfl,_,d,ha3,_,hd3,xcU,T.ku_hd,T.no_qxj_piece,_,lk2,_,.str b,true,rfl,iteF ⟨a,rfl,_,d,ha3,_,hd3,xcU,T.ku_hd,T.no_qxj_name,_,lk1,a,rfl,_,d,ha3,_,hd3,xcU,T.ku_hd,T.no_qxj_piece,_,lk2,by walk_at "s", λp hp=>?_⟩⟩⟩
    have s4:=zz2 (o:=HO.tup [V.str z,V.str b]) hp
    have rp:∀{r:Addr}{Hx:Hp},Hx r=some (.tup [.str z,.str b])->Rep K Hx (.tup [.str z,.str b]) (.ref r):=λhr=>by
     simp only[Rep]
     exact⟨_,_,rfl,SqT.of hr,by simp[RepL,Rep]⟩
    refine⟨_,_,.inr ⟨rp zz1,rp (s4 _ _ (s3 _ _ ht))⟩,by simp[depL,dep],?_⟩
    rw[deqL_refl]
    exact k _ ((sA.trans s3).trans s4)
  ·have eo:=OtOk.one ok (y:=some (z',none)) (by rw[ne]at db lz;exact⟨db,lz⟩)
   subst eo
   obtain⟨a,d,rfl,ha,hd⟩:=ov
   rw[if_pos (by simp)]
   have ha2:=s1 _ _ ha
   have hd2:=s1 _ _ hd
   have dk:DxOk (some d) H1:=.inr ⟨d,_,rfl,hd2⟩
   have ty:TyX K H1 (V.ref a) (.ref A.c_qyk):=.inr ⟨a,_,some d,rfl,rfl,ha2,dk,xcS⟩
   have lk1:List.lookup (Str.ofString "name") [(Str.ofString "name", V.str z')]=some (V.str z'):=by simp[List.lookup]
   refine⟨rfl,_,ty,_,T.ks_qyk,iteF ⟨a,rfl,A.c_qyk,.inl rfl,some d,ha2,dk,λH3 s3=>?_⟩⟩
   have ha3:=s3 _ _ ha2
   have hd3:=s3 _ _ hd2
   refine⟨a,rfl,_,d,ha3,_,hd3,xcS,T.ks_hd,T.no_qyk_name,_,lk1,_,.str z',true,rfl,iteT ⟨a,rfl,_,d,ha3,_,hd3,xcS,T.ks_hd,T.no_qyk_name,_,lk1,rfl,?_⟩⟩
   rw[decide_eq_true rfl]
   exact k _ (s1.trans s3)
theorem shv_lt(s:SameLT H H')(h:Shv H S xs):Shv H' S xs:=⟨lt_l s h.top,λx hx=>pl_lt s (h.at_ x hx)⟩
theorem tkb0_copy(h:TkB0 G S e)(e1:G'.map pcE=G.map pcE)(e2:S'.map pcE=S.map pcE):TkB0 G' S' e:=by
 have e3:(G'++S').map pcE=(G++S).map pcE:=by rw[yac,yac,e1,e2]
 have back:∀q∈G'++S',∃p∈G++S,pcE p=pcE q:=λq hq=>by
  have m:pcE q∈(G'++S').map pcE:=yag.mpr ⟨q,hq,rfl⟩
  rw[e3]at m
  exact yag.mp m
 refine⟨?_,λq hq=>?_,λq hq=>?_,λq hq z hz=>?_,h.en⟩
 ·have:=congrArg List.length e3
  walk_at "3"
  rw[this];exact h.few
 ·obtain⟨p,hp,ep⟩:=back q hq
  exact pcb_copy (h.bnd p hp) ep.symm
 ·obtain⟨p,hp,ep⟩:=back q hq
  have:p.name=q.name:=congrArg (·.1) ep
  rw[<-this];exact h.nm p hp
 ·obtain⟨p,hp,ep⟩:=back q hq
  exact h.wn p hp z (by rw[ep];exact hz)
theorem core_cons(ec:(((c0,G')::yr).map λy=>y.2.map pcE)=(((a0,G)::xs).map λx=>x.2.map pcE)):G'.map pcE=G.map pcE/\(flat yr).map pcE=(flat xs).map pcE:=by
 rw[ybg,ybg]at ec
 injection ec with e1 e2
 exact⟨e1,flat_core e2⟩
theorem G_qzj(T:Txt K mg A):FnOk P w K mg base CX0 8 A.qzj A.fd_qzj ["_law_some", "_law_entry"] (sp_holdsX A):=by
 refine T.F_qzj.ok sc_qzj (λvs H Q E h=>?_) (λcdv Ar outer s H vs Q E hr h=>?_)
 ·obtain⟨S,a0,e,G,xs,rfl,_⟩:=h
  rfl
 ·obtain⟨S,a0,e,G,xs,rfl,hS,hx,bd,tb,k⟩:=h
  refine⟨_,(zz3 (ps_setC (i:=2) sc_qzj.nd rfl (by walk_at "o") (blk_mk (own:=["_law_shelf"]) (fr:=[]) (fm:=[]) rfl (by decide +kernel) (by decide +kernel) (by decide +kernel) .nil) rfl (zz12 (K:=K) rfl (pv 0)) (λ_ _ _=>⟨(zz6 (i:=0) (by show List.Nodup (["_law_shelf"]:List Str);decide +kernel) rfl (by walk_at "o")),pts_nil,(pe_comp (blk_mk (own:=["_law_piece"]) (fr:=[]) (fm:=[]) rfl (by decide +kernel) (by decide +kernel) (by decide +kernel) .nil) rfl (zz12 (K:=K) rfl (pv 0)) (λ_ _ _=>⟨(zz6 (i:=0) (by show List.Nodup (["_law_piece"]:List Str);decide +kernel) rfl (by walk_at "o")),pts_nil,(zz10 (G_qyq T) (hr.mono (by decide)) rfl T.m_qyq T.k_qyq T.b_qyq .nil pass0 (zz0 (pv 0) pa_nil))⟩))⟩)) (zz3 (ps_set (i:=3) sc_qzj.nd rfl (by walk_at "o") pe_non) (zz3 (ps_set (i:=4) sc_qzj.nd rfl (by walk_at "o") pe_non) (zz3 (ps_tryAsK (K:=K) rfl rfl rfl (i:=5) sc_qzj.nd rfl rfl rfl T.mc_qyw (pssx_one (psx_set (i:=4) sc_qzj.nd rfl (by walk_at "o") (pex_call (G_taken T) (hr.mono (by decide)) rfl T.m_taken T.k_taken T.b_taken .nil (zz0 (pe_ix (zz19 (K:=K) rfl) (pv 2) pe_int (λ_ _=>rfl)) (zz0 (pe_slice (sl_listK (K:=K) rfl) (pv 2) (po_some pe_int) po_none) (zz0 (pv 1) pa_nil)))))) (λ_=>(zz5 (ps_set (i:=3) sc_qzj.nd rfl (by walk_at "o") (pv 5))))) (pss_weak (u:=hB K A) (zz3 (ps_if (pt_not (pt_val (zz10 (G_qzz T) (hr.mono (by decide)) rfl T.m_qzz T.k_qzz T.b_qzz .nil pass0 (zz0 (pv 4) (zz0 (pv 3) (zz0 (pv 0) (zz0 (pv 1) pa_nil))))))) (zz5 (ps_ret pe_bl)) zz16) (zz3 (ps_set (i:=3) sc_qzj.nd rfl (by walk_at "o") pe_non) (zz3 (ps_set (i:=4) sc_qzj.nd rfl (by walk_at "o") pe_non) (zz3 (ps_tryAsK (K:=K) rfl rfl rfl (i:=5) sc_qzj.nd rfl rfl rfl T.mc_qyw (pssx_one (psx_set (i:=4) sc_qzj.nd rfl (by walk_at "o") (pex_call (G_qxq T) (hr.mono (by decide)) rfl T.m_qxq T.k_qxq T.b_qxq .nil (zz0 (pe_ix (zz19 (K:=K) rfl) (pv 2) pe_int (λ_ _=>rfl)) (zz0 (pe_slice (sl_listK (K:=K) rfl) (pv 2) (po_some pe_int) po_none) (zz0 (pv 1) pa_nil)))))) (λ_=>(zz5 (ps_set (i:=3) sc_qzj.nd rfl (by walk_at "o") (pv 5))))) (zz5 (ps_ret (pe_and (zz10 (G_qzz T) (hr.mono (by decide)) rfl T.m_qzz T.k_qzz T.b_qzz .nil pass0 (zz0 (pv 4) (zz0 (pv 3) (zz0 (pv 0) (zz0 (pv 1) pa_nil))))) (pe_one (pe_cmpR (op_eqDK hr.units (K:=K) rfl) (pv 2) (pv 0) (nomark _)))))))))) ?hb))))),?main⟩
  case hb=>
   rintro D σ H ⟨S,a0,Hn,c0,e,G,G',xs,yr,u,v,o,b5,rfl,hS,hY,ec,bd,bd',ok,ov,k⟩
   walk_at "rd"
   obtain⟨e1,e2⟩:=core_cons ec
   walk_at "9"
   have ed:(((c0,G')::yr).map λy=>V.ref y.1).drop 1=yr.map λy=>V.ref y.1:=rfl
   refine⟨a0,G,xs,hS,bd,o,ok,ov,λH1 s1=>⟨_,SqL.of (s1 _ _ hY.top),V.ref c0,at0,_,SqL.of (s1 _ _ hY.top),λp hp=>?_⟩⟩
   rw[cut1,ed]
   have s2:=zz2 (o:=HO.lst (yr.map λy=>V.ref y.1)) hp
   have p2:upd H1 p (HO.lst (yr.map λy=>V.ref y.1)) p=some (HO.lst (yr.map λy=>V.ref y.1)):=zz1
   have s12:=s1.trans s2
   generalize upd H1 p (HO.lst (yr.map λy=>V.ref y.1))=H2 at *
   have hY2:=zz18 hY s12
   have fin:∀H4,Same H2 H4->rEqD K (V.ref Hn) (V.ref S) H4 D.rt:=λH4 s4=>by
    have s:=s12.trans s4
    refine⟨_,_,.inl ⟨shv_rep (zz18 hY s),shv_rep (zz18 hS s)⟩,shv_dep _,?_⟩
    rw[ec,deqL_refl]
    exact k _ s
   refine⟨c0,rfl,G',yr,⟨hY2.at_ (c0,G') ya5,⟨p2,λy hy=>hY2.at_ y (yaw _ hy)⟩,bd'⟩,λl ws H3 s3 hl okn=>?_,λo' d H3 s3 oko=>⟨λen hd=>?_,λb en hd=>?_⟩⟩
   ·rw[e1,e2]at okn
    exact⟨a0,G,xs,zz18 hS (s12.trans s3),bd,none,okn,⟨rfl,l,ws,rfl,hl⟩,λH4 s4=>fin H4 (s3.trans s4)⟩
   ·rw[e1,e2]at oko
    refine⟨A.c_qyk,rfl,⟨T.ct_qyw,T.cb_qyw,T.ks_mj⟩,.inr ⟨d,_,rfl,hd⟩,λa ha=>?_⟩
    have sa:=zz2 (o:=XO a A.c_qyk (some d)) ha
    obtain⟨z,ob⟩:=o'
    have en:ob=none:=en
    subst en
    exact⟨a0,G,xs,zz18 hS ((s12.trans s3).trans sa),bd,some (z,none),oko,⟨a,d,rfl,zz1,sa _ _ hd⟩,λH4 s4=>fin H4 ((s3.trans sa).trans s4)⟩
   ·rw[e1,e2]at oko
    refine⟨A.c_qxj,rfl,⟨T.ct_qyw,T.cb_qyw,T.ku_mj⟩,.inr ⟨d,_,rfl,hd⟩,λa ha=>?_⟩
    have sa:=zz2 (o:=XO a A.c_qxj (some d)) ha
    obtain⟨z,ob⟩:=o'
    have en:ob=some b:=en
    subst en
    exact⟨a0,G,xs,zz18 hS ((s12.trans s3).trans sa),bd,some (z,some b),oko,⟨a,d,rfl,zz1,sa _ _ hd⟩,λH4 s4=>fin H4 ((s3.trans sa).trans s4)⟩
  walk_at "rd"
  have ef:flat ((a0,G)::xs)=G++flat xs:=rfl
  refine copies_row hS (by rw[ya7];omega) (λx hx'=>⟨?_,λp hp=>bd.bnd p (by rw[<-ef];exact yav.mpr ⟨x,hx',hp⟩)⟩) λDn ys H1 s1 hy _ ec=>?_
  ·have h1:x.2.length<=(flat ((a0,G)::xs)).length:=by
    obtain⟨u,v,e⟩:=List.append_of_mem hx'
    rw[e]
    unfold flat
    simp
    omega
   have h2:=bd.few
   rw[ef]at h1
   omega
  cases ys with
  |nil=>cases ec
  |cons y0 yr=>
   obtain⟨c0,G'⟩:=y0
   obtain⟨e1,e2⟩:=core_cons ec
   walk_at "9"
   have ed:(((c0,G')::yr).map λy=>V.ref y.1).drop 1=yr.map λy=>V.ref y.1:=rfl
   refine⟨_,rfl,_,SqL.of hy.top,V.ref c0,at0,_,rfl,_,SqL.of hy.top,λp hp=>?_⟩
   rw[cut1,ed]
   have s2:=zz2 (o:=HO.lst (yr.map λy=>V.ref y.1)) hp
   have p2:upd H1 p (HO.lst (yr.map λy=>V.ref y.1)) p=some (HO.lst (yr.map λy=>V.ref y.1)):=zz1
   have s12:=s1.trans s2
   have hY2:=zz18 hy s2
   generalize upd H1 p (HO.lst (yr.map λy=>V.ref y.1))=H2 at *
   have bd':=tkb0_copy bd e1 e2
   have hS2:=zz18 hS s12
   have tb2:=tb.more s12
   obtain⟨t0,hT,_⟩:=id tb2
   refine⟨c0,rfl,G',yr,⟨hY2.at_ (c0,G') ya5,⟨p2,λy hy=>hY2.at_ y (yaw _ hy)⟩,bd'⟩,tb2,λl ws H3 sx tb3 hl okn=>?_,λo' d H3 s3 oko=>⟨λen hd=>?_,λb en hd=>?_⟩⟩
   ·rw[e1,e2]at okn
    have lt:SameLT H2 H3:=λb o h e=>sx.get hT e λps z=>by rcases h with ⟨_,h⟩|⟨_,h⟩<;>rw[h]at z<;>cases z
    exact⟨S,a0,Dn,c0,e,G,G',xs,yr,_,_,none,_,rfl,shv_lt lt hS2,shv_lt lt hY2,ec,bd,bd',okn,⟨rfl,l,ws,rfl,hl⟩,λH4 s4=>k H4 (λb o n h=>s4 _ _ (sx b o n (s12 _ _ h))) (tb3.more s4)⟩
   ·rw[e1,e2]at oko
    refine⟨A.c_qyk,rfl,⟨T.ct_qyw,T.cb_qyw,T.ks_mj⟩,.inr ⟨d,_,rfl,hd⟩,λa ha=>?_⟩
    have sa:=zz2 (o:=XO a A.c_qyk (some d)) ha
    have s3a:=s3.trans sa
    obtain⟨z,ob⟩:=o'
    have en:ob=none:=en
    subst en
    exact⟨S,a0,Dn,c0,e,G,G',xs,yr,_,_,some (z,none),_,rfl,zz18 hS2 s3a,zz18 hY2 s3a,ec,bd,bd',oko,⟨a,d,rfl,zz1,sa _ _ hd⟩,λH4 s4=>k H4 (λb o n h=>s4 _ _ (s3a _ _ (s12 _ _ h))) (tb2.more (s3a.trans s4))⟩
   ·rw[e1,e2]at oko
    refine⟨A.c_qxj,rfl,⟨T.ct_qyw,T.cb_qyw,T.ku_mj⟩,.inr ⟨d,_,rfl,hd⟩,λa ha=>?_⟩
    have sa:=zz2 (o:=XO a A.c_qxj (some d)) ha
    have s3a:=s3.trans sa
    obtain⟨z,ob⟩:=o'
    have en:ob=some b:=en
    subst en
    exact⟨S,a0,Dn,c0,e,G,G',xs,yr,_,_,some (z,some b),_,rfl,zz18 hS2 s3a,zz18 hY2 s3a,ec,bd,bd',oko,⟨a,d,rfl,zz1,sa _ _ hd⟩,λH4 s4=>k H4 (λb o n h=>s4 _ _ (s3a _ _ (s12 _ _ h))) (tb2.more (s3a.trans s4))⟩
theorem lists_row(hr:∀p x H Q,SqL K H p x->(∀l,H l=none->Q (V.ref l) (upd H l (.lst x)))->r [V.ref p] H Q)(hS:Shv H S xs)(few:xs.length<=100)
  (k:∀(D:Addr) (ys:List (Addr×List PcM)) (H':Hp),Same H H'->Shv H' D ys->(∀b∈D::ys.map (·.1),H b=none)->(D::ys.map (·.1)).Nodup->ys.map (·.2)=xs.map (·.2)->Q (.ref D) H'):
  CompL K (gName 0) tYes (tCB r (tCons (tVar 0) tNil)) [none] Q (V.ref S) H:=by
 refine CompL.of (xs:=xs.map λx=>V.ref x.1) (by rw[yaa,sizeLine_eq];omega) (SqL.of hS.top) (λD i vs H'=>∃ys:List (Addr×List PcM),vs=ys.map (λy=>V.ref y.1)/\Same H H'/\Shv H' D ys/\(∀b∈D::ys.map (·.1),H b=none)/\(D::ys.map (·.1)).Nodup/\ys.map (·.2)=(xs.take i).map (·.2))
  (λD hD=>⟨[],rfl,zz2 hD,⟨zz1,λx hx=>by cases hx⟩,λb hb=>by rw[yae.mp hb];exact hD,by simp,rfl⟩) ?_ ?_ ?_
 ·rintro D i vs H' hD hi ⟨ys,rfl,s1,hY,_,_,e⟩
  refine⟨SqL.of (s1 _ _ hS.top),hY.top,?_⟩
  have:=congrArg List.length e
  walk_at "8"
  rw[yaa];omega
 ·rintro D i v vs H' hD hv ⟨ys,rfl,s1,hY,fr,nd,e⟩
  walk_at "6"
  obtain⟨x,hx,rfl⟩:=yao.mp hv
  have hm:=yan hx
  have px:=hS.at_ x hm
  walk_at "rd"
  refine⟨.no .nil,hr _ _ _ _ (SqL.of (s1 _ _ px.top)) λl hl=>?_⟩
  have s2:=zz2 (o:=HO.lst (x.2.map PcM.v)) hl
  have hl0:H l=none:=s1.free hl
  have nin:l∉D::ys.map (·.1):=λz=>by
   rcases yau.mp z with z|z
   ·rw[z,hY.top]at hl;cases hl
   ·obtain⟨y,hy,z⟩:=yag.mp z
    rw[<-z,(hY.at_ y hy).top]at hl;cases hl
  have bt:But (upd H' l (HO.lst (x.2.map PcM.v))) (upd (upd H' l (HO.lst (x.2.map PcM.v))) D (.lst (ys.map (λy=>V.ref y.1)++[V.ref l]))) D:=But.upd (s2 _ _ hY.top)
  have lD:l≠D:=λz=>nin (by rw[z];exact ya5)
  have notin:∀{p:PcM},p.At H->D∉p.lists:=λ{p} pa z=>by
   obtain⟨zs,e⟩:=pa.list z
   rw[hD]at e;cases e
  have inH:∀y∈ys,∀p∈y.2,p.At H:=λy hy p hp=>by
   have:y.2∈(xs.take i).map (·.2):=by rw[<-e];exact yag.mpr ⟨y,hy,rfl⟩
   obtain⟨z,hz,q⟩:=yag.mp this
   exact(hS.at_ z (yc4 hz)).at_ p (by rw[q];exact hp)
  refine⟨s2 _ _ hY.top,ys++[(l,x.2)],by simp,zz9 hD (s1.trans s2),⟨by rw[zz1,List.map_append];rfl,λy hy=>?_⟩,λb hb=>?_,?_,?_⟩
  ·rcases yai.mp hy with z|z
   ·have py:=pl_mono (hY.at_ y z) s2
    refine⟨bt.2 _ _ py.top (λq=>?_),λp hp=>(py.at_ p hp).but bt (notin (inH y z p hp))⟩
    exact(ya8.mp nd).1 (by rw[<-q];exact yag.mpr ⟨y,z,rfl⟩)
   ·rw[yae.mp z]
    exact⟨bt.2 _ _ zz1 lD,λp hp=>((px.at_ p hp).mono (s1.trans s2)).but bt (notin (px.at_ p hp))⟩
  ·rw[yac,<-yc3]at hb
   rcases yai.mp hb with z|z
   ·exact fr b z
   ·rw[yae.mp z];exact hl0
  ·rw[yac,<-yc3]
   exact ya3.mpr ⟨nd,by simp,λa ha b hb e=>nin ((e.trans (List.mem_singleton.mp hb):a=l)▸ha)⟩
  ·rw[yac,e,ya4,hx,yac];rfl
 ·rintro D vs H' hD ⟨ys,rfl,s1,hY,fr,nd,e⟩
  walk_at "4"
  exact k D ys H' s1 hY fr nd e
theorem flat_two(e:ys.map (·.2)=xs.map (·.2)):flat ys=flat xs:=by
 have h:∀l:List (Addr×List PcM),flat l=(l.map (·.2)).flatten:=λl=>by unfold flat;rw[List.flatMap_def]
 rw[h,h,e]
theorem pl_rep(h:PL H L ps):Rep K H (.lst (ps.map PcM.d)) (.ref L):=by
 simp only[Rep]
 exact⟨_,_,rfl,SqL.of h.top,RepL.map λp hp=>(h.at_ p hp).rep⟩
theorem pl_dep(ps:List PcM):depL (ps.map PcM.d)<=20:=yay (depL_le (n:=5) λx _=>dep_pc x) (by decide)
theorem ix_mod{α:Type}{f:α->V}{l:List α}{c:Int}(h:l≠[]):∃(n:Nat) (x:α),l[n]?=some x/\x∈l/\atI (l.map f) (c % ((l.map f).length:Int))=some (f x)/\c % ((l.map f).length:Int)=n:=by
 have pos:0<l.length:=yct.mpr h
 rw[yaa]
 have h0:0<=c % (l.length:Int):=Int.emod_nonneg _ (by omega)
 have h1:c % (l.length:Int)<l.length:=Int.emod_lt_of_pos _ (by omega)
 obtain⟨n,hn⟩:=yb4 h0
 have lt:n<l.length:=by omega
 refine⟨n,l[n],yar lt,ybr _,?_,hn⟩
 rw[hn]
 exact atI_nat (by rw[ybd,yar lt];rfl)
theorem full_row(hS:Shv H S ys)(few:ys.length<=100)
  (k:∀(D:Addr) (H':Hp),Same H H'->H' D=some (.lst ((ys.filter λy=>!y.2.isEmpty).map λy=>V.ref y.1))->Q (.ref D) H'):
  CompL K (gName 0) (tTest (tOp (rNeD K) (tVar 0) (tLst tNil))) (tVar 0) [none] Q (V.ref S) H:=by
 refine CompL.of (xs:=ys.map λx=>V.ref x.1) (by rw[yaa,sizeLine_eq];omega) (SqL.of hS.top) (λD i vs H'=>Same H H'/\H' D=some (.lst vs)/\vs=((ys.take i).filter λy=>!y.2.isEmpty).map λy=>V.ref y.1)
  (λD hD=>⟨zz2 hD,zz1,rfl⟩) ?_ ?_ ?_
 ·rintro D i vs H' hD hi ⟨s1,hDD,e⟩
  refine⟨SqL.of (s1 _ _ hS.top),hDD,?_⟩
  rw[e,yaa]
  exact yay (ybu _ _) (by rw[ybe];omega)
 ·rintro D i v vs H' hD hv ⟨s1,hDD,e⟩
  walk_at "6"
  obtain⟨y,hy,rfl⟩:=yao.mp hv
  have py:=hS.at_ y (yan hy)
  have tk:ys.take (i+1)=ys.take i++[y]:=by rw[ya4,hy];rfl
  walk_at "rd"
  refine⟨.no .nil,ya1 _,λp hp=>?_⟩
  have s2:=zz2 (o:=HO.lst []) hp
  refine⟨y.2.map PcM.d,[],.inl ⟨pl_rep (pl_mono py (s1.trans s2)),nil_rep zz1⟩,pl_dep _,_,rfl,?_⟩
  rw[deq_nil]
  cases hb:y.2.isEmpty with
  |true=>
   rw[if_neg (by decide)]
   refine⟨s1.trans s2,s2 _ _ hDD,?_⟩
   rw[e,tk,ybv,List.filter_cons,if_neg (by rw[hb];decide)];simp
  |false=>
   rw[if_pos (by decide)]
   refine⟨s2 _ _ hDD,zz9 hD (s1.trans s2),zz1,?_⟩
   rw[e,tk,ybv,List.filter_cons,if_pos (by rw[hb];decide),yac];rfl
 ·rintro D vs H' hD ⟨s1,hDD,e⟩
  walk_at "4"
  exact k D H' s1 (by rw[hDD,e])
theorem G_qwq(T:Txt K mg A):FnOk P w K mg base CX0 1 A.qwq A.fd_qwq ["_law_some", "_law_by"] sp_spoiled:=by
 refine T.F_qwq.ok sc_qwq (λvs H Q E h=>?_) (λcdv Ar outer s H vs Q E hr h=>?_)
 ·obtain⟨S,c,ys,rfl,_⟩:=h
  rfl
 ·obtain⟨S,c,ys,rfl,hS,y4,few,k⟩:=h
  refine⟨_,(zz3 (ps_setC (i:=2) sc_qwq.nd rfl (by walk_at "o") (blk_mk (own:=["_law_shelf"]) (fr:=[]) (fm:=[]) rfl (by decide +kernel) (by decide +kernel) (by decide +kernel) .nil) rfl (zz12 (K:=K) rfl (pv 0)) (λ_ _ _=>⟨(zz6 (i:=0) (by show List.Nodup (["_law_shelf"]:List Str);decide +kernel) rfl (by walk_at "o")),pts_nil,(pe_callTy (zz27 (K:=K) rfl) (by rfl) T.n_list bt_list (zz0 (pv 0) pa_nil))⟩)) (zz3 (ps_for PassesOwn.never rfl (pi_range1 rfl T.n_range (zz0 (pe_op op_mod (pv 1) pe_int) pa_nil)) (zz6 (i:=3) sc_qwq.nd rfl (by walk_at "o")) (zz3 (ps_setC (i:=4) sc_qwq.nd rfl (by walk_at "o") (blk_mk (own:=["_law_shelf"]) (fr:=[]) (fm:=[]) rfl (by decide +kernel) (by decide +kernel) (by decide +kernel) .nil) rfl (zz12 (K:=K) rfl (pv 0)) (λ_ _ _=>⟨(zz6 (i:=0) (by show List.Nodup (["_law_shelf"]:List Str);decide +kernel) rfl (by walk_at "o")),(pts_one (zz15 (op_neDK hr.units (K:=K) rfl) (pv 0) (pe_lst pa_nil) (nomark _))),(pv 0)⟩)) (zz5 (ps_if (zz15 (op_neDK hr.units (K:=K) rfl) (pv 4) (pe_lst pa_nil) (nomark _)) (zz3 (ps_set (i:=5) sc_qwq.nd rfl (by walk_at "o") (pe_ix (zz19 (K:=K) rfl) (pv 4) (pe_op op_mod (pe_op zz22 (pv 1) (pe_op op_add pe_int (pv 3))) (zz11 (call_lenK (K:=K) rfl) (by rfl) T.n_len bt_len (zz0 (pv 4) pa_nil))) (λ_ _=>rfl))) (zz3 (ps_set (i:=6) sc_qwq.nd rfl (by walk_at "o") (pe_ix (zz8 (K:=K) rfl) (pe_ix (zz19 (K:=K) rfl) (pv 5) (pe_op op_mod (pe_op zz22 (pv 1) (pe_op op_add pe_int (pv 3))) (zz11 (call_lenK (K:=K) rfl) (by rfl) T.n_len bt_len (zz0 (pv 5) pa_nil))) (λ_ _=>rfl)) pe_int (λ_ _=>rfl))) (zz3 (ps_set (i:=7) sc_qwq.nd rfl (by walk_at "o") (pe_op op_mod (pe_op zz22 (pv 1) (pe_op op_add pe_int (pv 3))) pe_int)) (zz5 (zz20 (pe_bm PySem.F.plainAttrs_list PySem.F.slot_list_insert PySem.F.type_list_insert mt_insert (pe_ix (zz19 (K:=K) rfl) (pv 2) (pv 7) (λ_ _=>rfl)) (zz0 (pe_op op_mod (pe_op zz22 (pv 1) pe_int) (pe_op op_add pe_int (zz11 (call_lenK (K:=K) rfl) (by rfl) T.n_len bt_len (zz0 (pe_ix (zz19 (K:=K) rfl) (pv 2) (pv 7) (λ_ _=>rfl)) pa_nil)))) (zz0 (pe_tup (zz0 (pv 6) (zz0 (pe_lst pa_nil) (zz0 (pe_lst pa_nil) pa_nil)))) pa_nil)))))))) zz16)))) (zz5 (ps_ret (pv 2))))),?_⟩
  walk_at "rd"
  refine lists_row (λp x H Q h k=>⟨p,rfl,x,.inl h,k⟩) hS (by omega) λM zs H1 s1 hZ fr nd ez=>⟨by decide,?_⟩
  have z4:zs.length=4:=by have:=congrArg List.length ez;rw[yaa,yaa]at this;omega
  have c3:0<=c % 3/\c % 3<3:=⟨Int.emod_nonneg _ (by decide),Int.emod_lt_of_pos _ (by decide)⟩
  have atY:∀y∈ys,∀p∈y.2,p.At H:=λy hy p hp=>(hS.at_ y hy).at_ p hp
  refine ForR.of (by omega) (by omega) (λi σ H'=>∃(zs:List (Addr×List PcM)) (b3 b4 b5 b6 b7:Option V),σ=[some (.ref S),some (.int c),some (.ref M),b3,b4,b5,b6,b7]/\Same H H'/\Shv H' M zs/\(∀b∈M::zs.map (·.1),H b=none)/\(M::zs.map (·.1)).Nodup/\(∀p∈flat zs,∀b∈M::zs.map (·.1),b∉p.lists)/\zs.length=4/\Spo (flat ys) (flat zs) i)
   ⟨zs,_,_,_,_,_,rfl,s1,hZ,fr,nd,λp hp b hb z=>?_,z4,by rw[flat_two ez];exact⟨yap _,λp hp=>.inl hp⟩⟩ ?_ ?_
  ·rw[flat_two ez]at hp
   obtain⟨y,hy,hp⟩:=yav.mp hp
   obtain⟨vs,e⟩:=(atY y hy p hp).list z
   rw[fr b hb]at e;cases e
  ·rintro i σ H' hi ⟨zs,b3,b4,b5,b6,b7,rfl,s2,hZ,fr,nd,nl,z4,sp⟩
   walk_at "rd"
   refine full_row (zz18 hS s2) (by omega) λF H2 s3 hF=>⟨ya1 _,λq hq=>?_⟩
   have s4:=zz2 (o:=HO.lst []) hq
   have s34:=s3.trans s4
   have hF4:=s4 _ _ hF
   have q4:upd H2 q (HO.lst []) q=some (HO.lst []):=zz1
   have s5:=s2.trans s34
   have hZ4:=zz18 hZ s34
   generalize upd H2 q (HO.lst [])=H4 at *
   have rpF:Rep K H4 (.lst ((ys.filter λy=>!y.2.isEmpty).map λy=>D.lst (y.2.map PcM.d))) (.ref F):=by
    simp only[Rep]
    exact⟨_,_,rfl,SqL.of hF4,RepL.map λy hy=>pl_rep (pl_mono (hS.at_ y (yb1.mp hy).1) s5)⟩
   refine⟨_,_,.inl ⟨rpF,nil_rep q4⟩,yay (depL_le (n:=6) λy _=>by have:=depL_le (n:=5) (xs:=y.2) (λx _=>dep_pc x);simp only[dep];omega) (by decide),_,rfl,?_⟩
   rw[deq_nil]
   by_cases hne:ys.filter (λy=>!y.2.isEmpty)=[]
   ·rw[hne,if_neg (by decide)]
    exact⟨s5,zs,hZ4,fr,nd,nl,z4,ycm sp.1,sp.2⟩
   rw[if_pos (by cases h:ys.filter (λy=>!y.2.isEmpty) with
    |nil=>exact absurd h hne
    |cons=>rfl)]
   obtain⟨n1,y,_,hyF,at1,_⟩:=ix_mod (f:=λy:Addr×List PcM=>V.ref y.1) (c:=c / (3+(i:Int))) hne
   obtain⟨hy,hy2⟩:=yb1.mp hyF
   have y2:y.2≠[]:=λz=>by rw[z]at hy2;cases hy2
   have py:=pl_mono (hS.at_ y hy) s5
   obtain⟨n2,p,_,hp,at2,_⟩:=ix_mod (f:=PcM.v) (c:=c / (5+(i:Int))) y2
   have pa:=py.at_ p hp
   obtain⟨n3,row,hrow,hrm,at3,e3⟩:=ix_mod (f:=λy:Addr×List PcM=>V.ref y.1) (c:=c / (7+(i:Int))) (l:=zs) (λz=>by rw[z]at z4;cases z4)
   rw[yaa,z4]at at3 e3
   have at3:atI (zs.map λy=>V.ref y.1) (c / (7+(i:Int)) % 4)=some (V.ref row.1):=at3
   have pr:=hZ4.at_ row hrm
   have ln:∀{α β:Type}{f:α->β}{l:List α},l≠[]->(0:Int)<((l.map f).length:Int):=λ{α β f l} h=>by
    have:=yct.mpr h
    rw[yaa];omega
   have rl:row.2.length<=16:=by
    have h1:row.2.length<=(flat zs).length:=by
     obtain⟨u,v,e⟩:=List.append_of_mem hrm
     rw[e]
     unfold flat
     simp
     omega
    have:=sp.1
    omega
   refine⟨⟨by omega,by omega⟩,_,.inl ⟨_,SqL.of hF4,rfl⟩,ln hne,F,rfl,_,SqL.of hF4,_,at1,⟨by omega,by omega⟩,_,.inl ⟨_,SqL.of py.top,rfl⟩,ln y2,_,rfl,_,SqL.of py.top,_,at2,_,rfl,_,SqT.of pa.top,_,rfl,⟨by omega,by omega⟩,by decide,_,SqL.of hZ4.top,_,at3,.inl ⟨rfl,_,SqL.of pr.top⟩,⟨by decide,by decide⟩,_,SqL.of hZ4.top,_,at3,_,.inl ⟨_,SqL.of pr.top,rfl⟩,by omega,ya1 _,λa1 h1=>⟨ya1 _,λa2 h2=>⟨by rw[sizeLine_eq];decide,λa3 h3=>?_⟩⟩⟩
   have t1:=zz2 (o:=HO.lst []) h1
   have t2:=zz2 (o:=HO.lst []) h2
   have t3:=zz2 (o:=HO.tup [V.str p.name,V.ref a1,V.ref a2]) h3
   have tA:=(t1.trans t2).trans t3
   have qa:PcM.At (upd (upd (upd H4 a1 (HO.lst [])) a2 (HO.lst [])) a3 (HO.tup [V.str p.name,V.ref a1,V.ref a2])) ⟨a3,a1,a2,p.name,[],[]⟩:=⟨zz1,t3 _ _ (t2 _ _ zz1),t3 _ _ zz1,(λs hs=>by cases hs),(λn hn=>by cases hn)⟩
   have f1:H4 a1=none:=h1
   have f2:H4 a2=none:=t1.free h2
   have hZ7:=zz18 hZ4 tA
   have pr7:=pl_mono pr tA
   have inH4:∀b∈M::zs.map (·.1),∃xs,H4 b=some (.lst xs):=λb hb=>by
    rcases yau.mp hb with z|z
    ·exact⟨_,z▸hZ4.top⟩
    ·obtain⟨y,hy,z⟩:=yag.mp z
     exact⟨_,z▸(hZ4.at_ y hy).top⟩
   have nq:∀b∈M::zs.map (·.1),b∉(⟨a3,a1,a2,p.name,[],[]⟩:PcM).lists:=λb hb z=>by
    obtain⟨vs,e⟩:=inH4 b hb
    have z:b∈[a1,a2]:=z
    rcases yau.mp z with z|z
    ·rw[z,f1]at e;cases e
    ·rw[yae.mp z,f2]at e;cases e
   have s7:=s5.trans tA
   generalize upd (upd (upd H4 a1 (HO.lst [])) a2 (HO.lst [])) a3 (HO.tup [V.str p.name,V.ref a1,V.ref a2])=H7 at *
   obtain⟨m,hm⟩:∃m:Nat,c / 11 % (1+((row.2.map PcM.v).length:Int))=m:=yb4 (Int.emod_nonneg _ (by omega))
   have hml:(m:Int)<1+((row.2.map PcM.v).length:Int):=by rw[<-hm];exact Int.emod_lt_of_pos _ (by omega)
   rw[yaa]at hml
   rw[hm]
   refine⟨_,rfl,_,pr7.top,by omega,by omega,by rw[yaa,sizeLine_eq];omega,?_⟩
   obtain⟨za,zb,ezs⟩:=List.append_of_mem hrm
   rw[yco]
   have er:(row.2.map PcM.v).take m++V.ref a3::(row.2.map PcM.v).drop m=(row.2.take m++⟨a3,a1,a2,p.name,[],[]⟩::row.2.drop m).map PcM.v:=by
    rw[yac,ybg,List.map_take,List.map_drop]
   rw[er]
   have bt:But H7 (upd H7 row.1 (.lst ((row.2.take m++⟨a3,a1,a2,p.name,[],[]⟩::row.2.drop m).map PcM.v))) row.1:=But.upd pr7.top
   have rin:row.1∈M::zs.map (·.1):=yaw _ (yag.mpr ⟨row,hrm,rfl⟩)
   have ea:(za++(row.1,row.2.take m++⟨a3,a1,a2,p.name,[],[]⟩::row.2.drop m)::zb).map (·.1)=zs.map (·.1):=by rw[ezs,yac,ybg,yac,ybg]
   have ef:∀q,q∈flat (za++(row.1,row.2.take m++⟨a3,a1,a2,p.name,[],[]⟩::row.2.drop m)::zb)->q∈flat zs\/q=⟨a3,a1,a2,p.name,[],[]⟩:=λq hq=>by
    rw[ezs]
    unfold flat at hq ⊢
    rw[ybh,yc0]at hq ⊢
    rcases yai.mp hq with z|z
    ·exact .inl (yak _ z)
    ·rcases yai.mp z with z|z
     ·rcases yai.mp z with z|z
      ·exact .inl (yaj _ (yak _ (yc4 z)))
      ·rcases yau.mp z with z|z
       ·exact .inr z
       ·exact .inl (yaj _ (yak _ (List.mem_of_mem_drop z)))
     ·exact .inl (yaj _ (yaj _ z))
   have atq:∀q,q∈flat zs\/q=⟨a3,a1,a2,p.name,[],[]⟩->q.At (upd H7 row.1 (.lst ((row.2.take m++⟨a3,a1,a2,p.name,[],[]⟩::row.2.drop m).map PcM.v))):=λq hq=>by
    rcases hq with z|z
    ·obtain⟨y,hy,hq⟩:=yav.mp z
     exact((hZ7.at_ y hy).at_ q hq).but bt (nl q z _ rin)
    ·rw[z];exact qa.but bt (nq _ rin)
   have nd':∀y,y∈za\/y∈zb->y.1≠row.1:=λy hy e=>by
    have h:=(ya8.mp nd).2
    rw[ezs,yac,ybg]at h
    obtain⟨_,h2,h3⟩:=ya3.mp h
    rcases hy with z|z
    ·exact h3 _ (yag.mpr ⟨y,z,rfl⟩) _ ya5 e
    ·exact(ya8.mp h2).1 (by rw[<-e];exact yag.mpr ⟨y,z,rfl⟩)
   refine⟨zz9 (fr _ rin) s7,za++(row.1,row.2.take m++⟨a3,a1,a2,p.name,[],[]⟩::row.2.drop m)::zb,⟨?_,λy hy=>?_⟩,by rw[ea];exact fr,by rw[ea];exact nd,λq hq b hb=>?_,?_,?_,λq hq=>?_⟩
   ·have e:(za++(row.1,row.2.take m++⟨a3,a1,a2,p.name,[],[]⟩::row.2.drop m)::zb).map (λx=>V.ref x.1)=zs.map λx=>V.ref x.1:=by rw[ezs,yac,ybg,yac,ybg]
    rw[e]
    exact bt.2 _ _ hZ7.top (λz=>(ya8.mp nd).1 (by rw[z];exact yag.mpr ⟨row,hrm,rfl⟩))
   ·have old:y∈za\/y∈zb->PL (upd H7 row.1 (.lst ((row.2.take m++⟨a3,a1,a2,p.name,[],[]⟩::row.2.drop m).map PcM.v))) y.1 y.2:=λh=>by
     have hyz:y∈zs:=by rw[ezs];exact h.elim (yak _) λz=>yaj _ (yaw _ z)
     have pz:=hZ7.at_ y hyz
     exact⟨bt.2 _ _ pz.top (nd' y h),λq hq=>atq q (.inl (yav.mpr ⟨y,hyz,hq⟩))⟩
    rcases yai.mp hy with z|z
    ·exact old (.inl z)
    ·rcases yau.mp z with z|z
     ·rw[z]
      refine⟨zz1,λq hq=>atq q (ef q ?_)⟩
      unfold flat
      rw[ybh,yc0]
      exact yaj _ (yak _ hq)
     ·exact old (.inr z)
   ·rw[ea]at hb
    rcases ef q hq with z|z
    ·exact nl q z b hb
    ·rw[z];exact nq b hb
   ·rw[ezs]at z4
    rw[yah,ya7]at z4 ⊢
    exact z4
   ·have h1:=sp.1
    rw[ezs]at h1
    unfold flat at h1 ⊢
    rw[ybh,yc0,yah,yah]at h1 ⊢
    have:(row.2.take m++(⟨a3,a1,a2,p.name,[],[]⟩:PcM)::row.2.drop m).length=row.2.length+1:=by
     rw[yah,ya7,ybe,ycq];omega
    rw[this]
    omega
   ·rcases ef q hq with z|z
    ·exact sp.2 q z
    ·rw[z]
     exact .inr ⟨rfl,rfl,yag.mpr ⟨p,yav.mpr ⟨y,hy,hp⟩,rfl⟩⟩
  ·rintro σ H' ⟨zs,b3,b4,b5,b6,b7,rfl,s2,hZ,fr,nd,nl,z4,sp⟩
   walk_at "rd"
   refine k M zs H' s2 hZ z4 ⟨yay sp.1 (by omega),sp.2⟩
theorem drawn_sm(d:Drawn c t n ps)(hn:n<=61)(h:p∈ps):PcB p/\SmT p.name/\∀z,wantBC z (pcE p)=true->SmT z:=by
 refine⟨d.bnd hn h,(d.pc h).1,λz hz=>?_⟩
 obtain⟨f,hf,_,e⟩:=want_core.mpr hz
 obtain⟨s,hs,hf⟩:=yav.mp hf
 obtain⟨k,k0,_,ek⟩:=(((d.ok p h).sts s hs).fills f hf).name
 rw[<-e,ek];exact nameOf_ok c k k0
theorem rst_more(h:RstP c t p)(hm:m.name=nameOf c 13):PcB ⟨p.t,p.ls,p.ln,p.name,p.sts,p.nms++[m]⟩/\SmT p.name/\∀z,wantBC z (pcE ⟨p.t,p.ls,p.ln,p.name,p.sts,p.nms++[m]⟩)=true->SmT z:=by
 obtain⟨s,es,sw,sf⟩:=h.sts
 have nl:p.nms.length=12:=by have:=congrArg List.length h.nms;rwa [yaa,yaa,ycn]at this
 have ff:fillsOf p.sts=[]:=by rw[es];show s.fills++[]=[];rw[sf];rfl
 refine⟨⟨?_,by rw[es];exact(by decide:1<=61),λs' hs=>?_,by show(fillsOf p.sts).length<=61;rw[ff];decide,?_⟩,by rw[h.name];exact nameOf_ok t 14 (by decide),λz hz=>?_⟩
 ·show(p.nms++[m]).length<=61
  rw[yah,nl];exact(by decide:12+1<=61)
 ·have hs:s'∈p.sts:=hs
  rw[es]at hs
  rw[yae.mp hs,sw,sf];exact⟨by decide,by decide⟩
 ·show((p.nms++[m]).map ToldM.name).Nodup
  rw[yac,h.nms,List.map_singleton,hm]
  refine ya3.mpr ⟨?_,by simp,λx hx y hy e=>?_⟩
  ·have:=(ya3.mp (range_nd (t:=c) 12 (by decide))).1
   exact this
  ·obtain⟨i,hi,rfl⟩:=yag.mp hx
   rw[yae.mp hy]at e
   have hi:=ycf.mp hi
   have:=nameOf_inj (k:=(i:Int)) (k':=13) (by omega) (by omega) (by omega) (by omega) e
   omega
 ·obtain⟨f,hf,_⟩:=want_core.mpr hz
  have hf:f∈fillsOf p.sts:=hf
  rw[ff]at hf;cases hf
theorem PsB.tk(h:PsB ps)(sp:Spo ps zs n)(hn:n<=2)(ez:zs=G++flat xs)(he:SmT e):TkB0 G (flat xs) e:=by
 have hf:=h.few
 have al:∀p∈G++flat xs,PcB p/\SmT p.name/\∀z,wantBC z (pcE p)=true->SmT z:=λp hp=>by
  rcases sp.2 p (by rw[ez];exact hp) with q|⟨q1,q2,q3⟩
  ·exact h.ok p q
  ·obtain⟨r,hr,er⟩:=yag.mp q3
   refine⟨⟨by rw[q2];exact ya1 _,by rw[q1];exact ya1 _,(λs hs=>by rw[q1]at hs;cases hs),by rw[q1];exact ya1 _,by rw[q2];exact List.nodup_nil⟩,by rw[<-er];exact(h.ok r hr).2.1,λz hz=>?_⟩
   obtain⟨f,hf,_⟩:=want_core.mpr hz
   rw[q1]at hf
   cases hf
 refine⟨?_,λp hp=>(al p hp).1,λp hp=>(al p hp).2.1,λp hp=>(al p hp).2.2,he⟩
 have:=sp.1
 rw[<-ez];omega
theorem G_law(T:Txt K mg A):FnOk P w K mg base CX0 9 A.law A.fd_law ["_law_script"] (sp_law K A.tb_taken):=by
 refine T.F_law.ok sc_law (λvs H Q E h=>?_) (λcdv Ar outer s H vs Q E hr h=>?_)
 ·obtain⟨a,ns,rfl,_⟩:=h
  rfl
 ·obtain⟨sc,ns,rfl,hS,hl,hT,k⟩:=h
  refine⟨_,(zz3 (ps_set (i:=1) sc_law.nd rfl (by walk_at "o") (zz10 (G_qwy T) (hr.mono (by decide)) rfl T.m_qwy T.k_qwy T.b_qwy .nil pass0 (zz0 (pv 0) (zz0 pe_int pa_nil)))) (zz3 (ps_set (i:=2) sc_law.nd rfl (by walk_at "o") (zz10 (G_qwy T) (hr.mono (by decide)) rfl T.m_qwy T.k_qwy T.b_qwy .nil pass0 (zz0 (pv 0) (zz0 pe_int pa_nil)))) (zz3 (ps_set (i:=3) sc_law.nd rfl (by walk_at "o") (zz10 (G_qwy T) (hr.mono (by decide)) rfl T.m_qwy T.k_qwy T.b_qwy .nil pass0 (zz0 (pv 0) (zz0 pe_int pa_nil)))) (zz3 (ps_set (i:=4) sc_law.nd rfl (by walk_at "o") (zz10 (G_qwx T) (hr.mono (by decide)) rfl T.m_qwx T.k_qwx T.b_qwx .nil pass0 (zz0 (zz10 (G_qzk T) (hr.mono (by decide)) rfl T.m_qzk T.k_qzk T.b_qzk .nil pass0 (zz0 (pe_slice (sl_listK (K:=K) rfl) (pv 0) (po_some pe_int) (po_some pe_int)) (zz0 (pv 1) (zz0 (pv 2) (zz0 pe_bl pa_nil))))) (zz0 (pv 3) pa_nil)))) (zz3 (ps_set (i:=5) sc_law.nd rfl (by walk_at "o") (zz10 (G_qww T) (hr.mono (by decide)) rfl T.m_qww T.k_qww T.b_qww .nil pass0 (zz0 (pv 1) (zz0 (pe_op op_mod (zz10 (G_qwy T) (hr.mono (by decide)) rfl T.m_qwy T.k_qwy T.b_qwy .nil pass0 (zz0 (pv 0) (zz0 pe_int pa_nil))) pe_int) pa_nil)))) (zz3 (ps_if (zz15 op_eq (pe_op op_mod (pv 3) pe_int) pe_int (nomark _)) (zz5 (ps_set (i:=5) sc_law.nd rfl (by walk_at "o") (pe_ix (zz19 (K:=K) rfl) (pe_lst (zz0 (zz10 (G_qww T) (hr.mono (by decide)) rfl T.m_qww T.k_qww T.b_qww .nil pass0 (zz0 (pv 1) (zz0 pe_int pa_nil))) (zz0 pe_str (zz0 pe_str (zz0 (zz10 (G_qww T) (hr.mono (by decide)) rfl T.m_qww T.k_qww T.b_qww .nil pass0 (zz0 (pv 1) (zz0 pe_int pa_nil))) pa_nil))))) (pe_op op_mod (pe_op zz22 (pv 3) pe_int) pe_int) (λ_ _=>rfl)))) zz16) (pss_weak (u:=lB A) (zz3 (ps_set (i:=6) sc_law.nd rfl (by walk_at "o") (zz10 (G_qyz T) (hr.mono (by decide)) rfl T.m_qyz T.k_qyz T.b_qyz .nil pass0 (zz0 (pv 1) (zz0 (pv 2) (zz0 (pe_lst pa_nil) pa_nil))))) (zz3 (zz20 (pe_bm PySem.F.plainAttrs_list PySem.F.slot_list_append PySem.F.type_list_append zz23 (pe_ix (zz8 (K:=K) rfl) (pv 6) pe_int (λ_ _=>rfl)) (zz0 (pe_tup (zz0 (zz10 (G_qww T) (hr.mono (by decide)) rfl T.m_qww T.k_qww T.b_qww .nil pass0 (zz0 (pv 1) (zz0 pe_int pa_nil))) (zz0 pe_str (zz0 pe_int (zz0 pe_int pa_nil))))) pa_nil))) (zz3 (ps_setC (i:=7) sc_law.nd rfl (by walk_at "o") (blk_mk (own:=["_law_shelf"]) (fr:=[]) (fm:=[]) rfl (by decide +kernel) (by decide +kernel) (by decide +kernel) .nil) rfl (zz12 (K:=K) rfl (pv 4)) (λ_ _ _=>⟨(zz6 (i:=0) (by show List.Nodup (["_law_shelf"]:List Str);decide +kernel) rfl (by walk_at "o")),pts_nil,(pe_callTy (zz27 (K:=K) rfl) (by rfl) T.n_list bt_list (zz0 (pv 0) pa_nil))⟩)) (zz3 (zz20 (pe_bm PySem.F.plainAttrs_list PySem.F.slot_list_append PySem.F.type_list_append zz23 (pe_ix (zz19 (K:=K) rfl) (pv 7) pe_int (λ_ _=>rfl)) (zz0 (pv 6) pa_nil))) (zz3 (ps_if (zz15 op_eq (pe_op op_mod (pv 3) pe_int) pe_int (nomark _)) (zz5 (ps_set (i:=4) sc_law.nd rfl (by walk_at "o") (pv 7))) zz16) (pss_weak (u:=lC A) (zz3 (ps_set (i:=8) sc_law.nd rfl (by walk_at "o") (zz10 (G_qwq T) (hr.mono (by decide)) rfl T.m_qwq T.k_qwq T.b_qwq .nil pass0 (zz0 (pv 4) (zz0 (pe_op zz22 (pv 3) pe_int) pa_nil)))) (zz5 (ps_ret (pe_and (zz10 (G_qzj T) (hr.mono (by decide)) rfl T.m_qzj T.k_qzj T.b_qzj .nil pass0 (zz0 (pv 8) (zz0 (pv 5) pa_nil))) (pe_one (zz10 (G_qzj T) (hr.mono (by decide)) rfl T.m_qzj T.k_qzj T.b_qzj .nil pass0 (zz0 (pv 7) (zz0 (pv 5) pa_nil)))))))) ?lc)))))) ?lb))))))),?main⟩
  case lb=>
   rintro D σ H ⟨b0,c,t,by_,S,e,xs,n,ps,rfl,hS,x4,dr,hn,pm,he,tb,k⟩
   walk_at "rd"
   refine⟨ya1 _,λq0 h0=>⟨zz1,λp H1 s1 pa rp fr=>?_⟩⟩
   have s0:=zz2 (o:=HO.lst []) h0
   have hln:H p.ln=none:=s0.free (fr p.ln (by simp[PcM.lists]))
   obtain⟨st,es,sw,sf⟩:=rp.sts
   have nl:p.nms.length=12:=by have:=congrArg List.length rp.nms;rwa [yaa,yaa,ycn]at this
   refine⟨_,SqT.of pa.top,V.ref p.ln,(show atI _ ((2:Nat):Int)=_ from atI_nat rfl),.inl ⟨rfl,_,SqL.of pa.nl⟩,by walk_at "s", λtm ht=>⟨p.ln,rfl,_,zz2 ht _ _ pa.nl,by rw[yaa,nl,sizeLine_eq];decide,?_⟩⟩
   have st1:=zz2 (o:=HO.tup [V.str (nameOf c 13),V.str (Str.ofString "tell"),V.int 0,V.int 1]) ht
   have bt:But (upd H1 tm (HO.tup [V.str (nameOf c 13),V.str (Str.ofString "tell"),V.int 0,V.int 1])) (upd (upd H1 tm (HO.tup [V.str (nameOf c 13),V.str (Str.ofString "tell"),V.int 0,V.int 1])) p.ln (.lst (p.nms.map ToldM.v++[V.ref tm]))) p.ln:=But.upd (st1 _ _ pa.nl)
   have dl:∀{b:Addr}{ws:List V},H1 b=some (.lst ws)->ws.length≠12->b≠p.ln:=λ{b ws} e n z=>by
    rw[z,pa.nl]at e
    injection e with e
    injection e with e
    rw[<-e,yaa]at n
    exact n nl
   have qa:PcM.At (upd (upd H1 tm (HO.tup [V.str (nameOf c 13),V.str (Str.ofString "tell"),V.int 0,V.int 1])) p.ln (.lst (p.nms.map ToldM.v++[V.ref tm]))) ⟨p.t,p.ls,p.ln,p.name,p.sts,p.nms++[⟨tm,nameOf c 13,Str.ofString "tell", 0,1⟩]⟩:=by
    refine⟨bt.tup (st1 _ _ pa.top),bt.2 _ _ (st1 _ _ pa.sl) (dl pa.sl (by rw[es];simp)),by rw[zz1,List.map_append];rfl,λs hs=>?_,λm hm=>?_⟩
    ·have hs:s∈p.sts:=hs
     have sa:=pa.ss s hs
     rw[es]at hs
     refine(sa.mono st1).but bt λz=>?_
     have e:=yae.mp hs
     have z:p.ln∈[s.lw,s.lf]:=z
     rcases yau.mp z with z|z
     ·exact dl sa.wd (by rw[yaa,e,sw];decide) z.symm
     ·exact dl sa.fl (by rw[yaa,e,sf];decide) (yae.mp z).symm
    ·rcases yai.mp hm with z|z
     ·exact((pa.ns m z).mono st1).but bt
     ·rw[yae.mp z];exact bt.tup zz1
   have sA:Same H (upd (upd H1 tm (HO.tup [V.str (nameOf c 13),V.str (Str.ofString "tell"),V.int 0,V.int 1])) p.ln (.lst (p.nms.map ToldM.v++[V.ref tm]))):=zz9 hln (s0.trans (s1.trans st1))
   generalize upd (upd H1 tm (HO.tup [V.str (nameOf c 13),V.str (Str.ofString "tell"),V.int 0,V.int 1])) p.ln (.lst (p.nms.map ToldM.v++[V.ref tm]))=H3 at *
   obtain⟨rb1,rb2,rb3⟩:=rst_more (m:=⟨tm,nameOf c 13,Str.ofString "tell", 0,1⟩) rp rfl
   have hS3:=zz18 hS sA
   have few:=dr.few
   have bS:PsB (flat xs):=⟨by rw[pm.length_eq];omega,λq hq=>drawn_sm dr hn (pm.mem_iff.mp hq)⟩
   refine lists_row (λp x H Q h k=>⟨p,rfl,x,.inl h,k⟩) hS3 (by omega) λg ys H4 s4 hY fr4 nd4 ey=>?_
   have y4:ys.length=4:=by have:=congrArg List.length ey;rw[yaa,yaa]at this;omega
   obtain⟨y0,y1,y2,y3,rfl⟩:=len_four y4
   have p3:=hY.at_ y3 (by simp)
   have fy:=flat_two ey
   have l3:y3.2.length<=12:=by
    have h1:y3.2.length<=(flat [y0,y1,y2,y3]).length:=by
     unfold flat
     simp
     omega
    rw[fy,pm.length_eq]at h1
    omega
   have sB:Same H3 (upd H4 y3.1 (HO.lst (y3.2.map PcM.v++[p.v]))):=zz9 (fr4 _ (by simp)) s4
   have atF:∀q∈flat xs,q.At H3:=λq hq=>by
    obtain⟨x,hx,hq⟩:=yav.mp hq
    exact(hS3.at_ x hx).at_ q hq
   simp only[List.map_cons,List.map_nil,List.nodup_cons,List.mem_cons,List.not_mem_nil,or_false,not_or]at nd4
   obtain⟨⟨_,_,_,n3⟩,⟨_,_,n03⟩,⟨_,n13⟩,n23,_⟩:=nd4
   have hG:Shv (upd H4 y3.1 (HO.lst (y3.2.map PcM.v++[p.v]))) g [y0,y1,y2,(y3.1,y3.2++[⟨p.t,p.ls,p.ln,p.name,p.sts,p.nms++[⟨tm,nameOf c 13,Str.ofString "tell", 0,1⟩]⟩])]:=by
    have old:∀y∈[y0,y1,y2,y3],y.1≠y3.1->PL (upd H4 y3.1 (HO.lst (y3.2.map PcM.v++[p.v]))) y.1 y.2:=λy hy ne=>⟨by rw[upd_ne ne];exact(hY.at_ y hy).top,λq hq=>(atF q (by rw[<-fy];exact yav.mpr ⟨y,hy,hq⟩)).mono sB⟩
    refine⟨by rw[upd_ne n3];exact hY.top,λy hy=>?_⟩
    simp only[List.mem_cons,List.not_mem_nil,or_false]at hy
    rcases hy with rfl|rfl|rfl|rfl
    ·exact old _ (by simp) n03
    ·exact old _ (by simp) n13
    ·exact old _ (by simp) n23
    ·refine⟨by rw[zz1,yac];rfl,λq hq=>?_⟩
     rcases yai.mp hq with z|z
     ·exact(atF q (by rw[<-fy];exact yav.mpr ⟨y3,by simp,z⟩)).mono sB
     ·rw[yae.mp z];exact qa.mono sB
   have fg:flat [y0,y1,y2,(y3.1,y3.2++[⟨p.t,p.ls,p.ln,p.name,p.sts,p.nms++[⟨tm,nameOf c 13,Str.ofString "tell", 0,1⟩]⟩])]=flat xs++[⟨p.t,p.ls,p.ln,p.name,p.sts,p.nms++[⟨tm,nameOf c 13,Str.ofString "tell", 0,1⟩]⟩]:=by
    rw[<-fy]
    unfold flat
    simp
   have bG:PsB (flat [y0,y1,y2,(y3.1,y3.2++[⟨p.t,p.ls,p.ln,p.name,p.sts,p.nms++[⟨tm,nameOf c 13,Str.ofString "tell", 0,1⟩]⟩])]):=by
    rw[fg]
    refine⟨by rw[yah,pm.length_eq];exact Nat.succ_le_succ few,λq hq=>?_⟩
    rcases yai.mp hq with z|z
    ·exact bS.ok q z
    ·rw[yae.mp z];exact⟨rb1,rb2,rb3⟩
   have tb5:=tb.more (sA.trans sB)
   refine⟨g,rfl,_,SqL.of hY.top,V.ref y3.1,(show atI _ ((3:Nat):Int)=_ from atI_nat rfl),.inl ⟨rfl,_,SqL.of p3.top⟩,y3.1,rfl,_,p3.top,by rw[yaa,sizeLine_eq];omega,by decide,ite2 (λ_=>?_) (λ_=>?_)⟩
   ·exact⟨_,_,_,_,by_,g,g,e,_,_,rfl,hG,rfl,bG,hG,rfl,bG,he,tb5,k⟩
   ·exact⟨_,_,_,_,by_,S,g,e,_,_,rfl,zz18 hS3 sB,x4,bS,hG,rfl,bG,he,tb5,k⟩
  case lc=>
   rintro D σ H ⟨b0,b1,b2,b6,by_,S,g,e,xs,gs,rfl,hS,x4,bS,hG,g4,bG,he,tb,k⟩
   walk_at "rd"
   refine⟨⟨by decide,by decide⟩,xs,hS,x4,bS.few,λB zs H1 s1 hB z4 sp=>?_⟩
   cases zs with
   |nil=>cases z4
   |cons z0 zr=>
    cases gs with
    |nil=>cases g4
    |cons g0 gr=>
     rw[ya7]at z4 g4
     have tb1:=tb.more s1
     obtain⟨t0,hT1,_⟩:=id tb1
     refine⟨z0.1,z0.2,zr,hB,by omega,bS.tk sp (by decide) rfl he,tb1,λH2 sx tb2=>?_⟩
     have lt:SameLT H1 H2:=λb o h e=>sx.get hT1 e λps z=>by rcases h with ⟨_,h⟩|⟨_,h⟩<;>rw[h]at z<;>cases z
     exact⟨g0.1,g0.2,gr,shv_lt lt (zz18 hG s1),by omega,bG.tk (zs:=flat (g0::gr)) (n:=0) ⟨yap _,λp hp=>.inl hp⟩ (by decide) rfl he,tb2,λH3 _ _=>k H3⟩
  case main=>
   walk_at "rd"
   refine⟨ns,hS,hl,by decide,λc=>⟨ns,hS,hl,by decide,λt=>⟨ns,hS,hl,by decide,λv=>⟨_,hS,λp hp=>?_⟩⟩⟩⟩
   obtain⟨ms,em,lm⟩:=cut4 ns hl
   rw[em]
   have s1:=zz2 (o:=HO.lst (ms.map V.int)) hp
   refine⟨ms,SqL.of zz1,lm,λL ps H1 s2 hP _ dr=>⟨ps,⟨hP.top,hP.at_⟩,dr.few,λS xs H2 s3 hX _ _ x4 pm=>⟨ns,((s1.trans s2).trans s3).seq hS,hl,by decide,λa=>⟨by decide,by decide,?_⟩⟩⟩⟩
   have tb:TbOk A.tb_taken tkP tkQ H:=⟨#[],hT,trivial,.inl rfl⟩
   have sA:=(s1.trans s2).trans s3
   have sm:∀k:Int,0<=k->SmT (nameOf c k):=λk h=>nameOf_ok c k h
   refine ite2 (λ_=>⟨by rw[sizeLine_eq];decide,λq hq=>?_⟩) (λ_=>?_)
   ·have s4:=zz2 (o:=HO.lst [V.str (nameOf c 13),V.str (Str.ofString ""),V.str (Str.ofString "A b"),V.str (nameOf c 13)]) hq
    obtain⟨n,z,_,hz,at1,_⟩:=ix_mod (f:=V.str) (c:=v / 7) (l:=[nameOf c 13,Str.ofString "", Str.ofString "A b", nameOf c 13]) (by simp)
    have at1:atI [V.str (nameOf c 13),V.str (Str.ofString ""),V.str (Str.ofString "A b"),V.str (nameOf c 13)] (v / 7 % 4)=some (V.str z):=at1
    have he:SmT z:=by
     simp only[List.mem_cons,List.not_mem_nil,or_false]at hz
     rcases hz with rfl|rfl|rfl|rfl
     ·exact sm 13 (by decide)
     ·exact⟨by decide +kernel,sg_nil⟩
     ·exact⟨by decide +kernel,by unfold Sg;decide +kernel⟩
     ·exact sm 13 (by decide)
    exact⟨⟨by decide,by decide⟩,by decide,_,SqL.of zz1,_,at1,_,c,t,v,S,z,xs,_,ps,rfl,zz18 hX s4,x4,dr,lm,pm,he,tb.more (sA.trans s4),k⟩
   ·exact⟨_,c,t,v,S,_,xs,_,ps,rfl,hX,x4,dr,lm,pm,sm _ (Int.emod_nonneg _ (by decide)),tb.more sA,k⟩
end
@[elab_as_elim] theorem len1{α:Type}{p:List α->Prop}(us:List α)(h:us.length=1)(f:∀a,p [a]):p us:=by
 match us,h with | [a],_=>exact f a
@[elab_as_elim] theorem len2{α:Type}{p:List α->Prop}(us:List α)(h:us.length=2)(f:∀a b,p [a,b]):p us:=by
 match us,h with | [a,b],_=>exact f a b
@[elab_as_elim] theorem len3{α:Type}{p:List α->Prop}(us:List α)(h:us.length=3)(f:∀a b c,p [a,b,c]):p us:=by
 match us,h with | [a,b,c],_=>exact f a b c
@[elab_as_elim] theorem len4{α:Type}{p:List α->Prop}(us:List α)(h:us.length=4)(f:∀a b c d,p [a,b,c,d]):p us:=by
 match us,h with | [a,b,c,d],_=>exact f a b c d
def FO(K:Wf)(f:Addr)(st:Stmt)(x q:Str):Prop:=∃(oc:Value) (od an:Option Addr) (sl:Array (Option Value)) (kV dc pm cd ct:Value),K.lookup f=some ⟨oc,od,.func (fnOf x q (defArgs st) (defBody st) (defScope st) .none kV dc pm an cd ct),sl⟩/\codeIn K cd q=true/\keepIn K (.ref f)=true
def BMO(K:Wf)(bm:Addr):Prop:=∃sl,bm≠builtinsNs/\bm≠mainGlobals/\K.lookup bm=some ⟨.type "module", some builtinsNs,.plain,sl⟩
theorem all_mk{l:PySem.W.OpenLaw}{w:World}{K:Wf}{h:Heap}{mg:So}{fa f_qqw f_qqk f_tells f_wants f_qzq f_qwv f_qwk f_taken f_qxq f_qqy f_qqq f_qqx f_qyy f_qqz f_qqv f_qwy f_qww f_qqj f_qwj f_qzk f_qyq f_qwx f_qyz f_qyx f_qzw f_qzx f_qwz f_qzv f_qzy f_qzz f_qzj f_qwq f_law C_qyw C_Lost C_qxz C_qxw C_qxx C_qyv C_qyj C_qyk C_qxy C_qxk C_qxv C_qxj bm tb_taken:Addr}(X:K.In h)(G:h.Ns mainGlobals mg)(hfa:mg "law" = some (.ref fa))
  (ac_qyw:nsIn K mainGlobals "JoinError" = some (some (.ref C_qyw)))
  (ac_Lost:nsIn K mainGlobals "Lost" = some (some (.ref C_Lost)))
  (ac_qxz:nsIn K mainGlobals "NoBase" = some (some (.ref C_qxz)))
  (ac_qxw:nsIn K mainGlobals "NoPiece" = some (some (.ref C_qxw)))
  (ac_qxx:nsIn K mainGlobals "NoRule" = some (some (.ref C_qxx)))
  (ac_qyv:nsIn K mainGlobals "NoSense" = some (some (.ref C_qyv)))
  (ac_qyj:nsIn K mainGlobals "NoWhole" = some (some (.ref C_qyj)))
  (ac_qyk:nsIn K mainGlobals "SameName" = some (some (.ref C_qyk)))
  (ac_qxy:nsIn K mainGlobals "Taking" = some (some (.ref C_qxy)))
  (ac_qxk:nsIn K mainGlobals "TooFar" = some (some (.ref C_qxk)))
  (ac_qxv:nsIn K mainGlobals "Twice" = some (some (.ref C_qxv)))
  (ac_qxj:nsIn K mainGlobals "Unmet" = some (some (.ref C_qxj)))
  (a_qqw:findIn K (.ref C_qyk) "__init__" = some (some (.ref f_qqw)))
  (i_qqw:isFn K (.ref f_qqw)=true)
  (l_qqw:FO K f_qqw s_qqw "__init__" "SameName.__init__")
  (a_qqk:findIn K (.ref C_qxj) "__init__" = some (some (.ref f_qqk)))
  (i_qqk:isFn K (.ref f_qqk)=true)
  (l_qqk:FO K f_qqk s_qqk "__init__" "Unmet.__init__")
  (a_tells:nsIn K mainGlobals "tells" = some (some (.ref f_tells)))
  (l_tells:FO K f_tells s_tells "tells" "tells")
  (a_wants:nsIn K mainGlobals "wants" = some (some (.ref f_wants)))
  (l_wants:FO K f_wants s_wants "wants" "wants")
  (a_qzq:nsIn K mainGlobals "places_told" = some (some (.ref f_qzq)))
  (l_qzq:FO K f_qzq s_qzq "places_told" "places_told")
  (a_qwv:nsIn K mainGlobals "copied_piece" = some (some (.ref f_qwv)))
  (l_qwv:FO K f_qwv s_qwv "copied_piece" "copied_piece")
  (a_qwk:nsIn K mainGlobals "copied_fills" = some (some (.ref f_qwk)))
  (l_qwk:FO K f_qwk s_qwk "copied_fills" "copied_fills")
  (a_taken:nsIn K mainGlobals "taken" = some (some (.ref f_taken)))
  (l_taken:FOT K f_taken tb_taken s_taken "taken" "taken")
  (a_qxq:nsIn K mainGlobals "reasons" = some (some (.ref f_qxq)))
  (l_qxq:FO K f_qxq s_qxq "reasons" "reasons")
  (a_qqy:findIn K (.ref C_qxy) "__init__" = some (some (.ref f_qqy)))
  (i_qqy:isFn K (.ref f_qqy)=true)
  (l_qqy:FO K f_qqy s_qqy "__init__" "Taking.__init__")
  (a_qqq:findIn K (.ref C_qxy) "take_for_pieces" = some (some (.ref f_qqq)))
  (i_qqq:isFn K (.ref f_qqq)=true)
  (l_qqq:FO K f_qqq s_qqq "take_for_pieces" "Taking.take_for_pieces")
  (a_qqx:findIn K (.ref C_qxy) "take_for" = some (some (.ref f_qqx)))
  (i_qqx:isFn K (.ref f_qqx)=true)
  (l_qqx:FO K f_qqx s_qqx "take_for" "Taking.take_for")
  (a_qyy:nsIn K mainGlobals "pieces_on" = some (some (.ref f_qyy)))
  (l_qyy:FO K f_qyy s_qyy "pieces_on" "pieces_on")
  (a_qqz:nsIn K mainGlobals "refuse_same_name" = some (some (.ref f_qqz)))
  (l_qqz:FO K f_qqz s_qqz "refuse_same_name" "refuse_same_name")
  (a_qqv:nsIn K mainGlobals "first_tellers" = some (some (.ref f_qqv)))
  (l_qqv:FO K f_qqv s_qqv "first_tellers" "first_tellers")
  (a_qwy:nsIn K mainGlobals "_law_cell_at" = some (some (.ref f_qwy)))
  (l_qwy:FO K f_qwy s_qwy "_law_cell_at" "_law_cell_at")
  (a_qww:nsIn K mainGlobals "_law_name_by" = some (some (.ref f_qww)))
  (l_qww:FO K f_qww s_qww "_law_name_by" "_law_name_by")
  (a_qqj:nsIn K mainGlobals "_law_word_row" = some (some (.ref f_qqj)))
  (l_qqj:FO K f_qqj s_qqj "_law_word_row" "_law_word_row")
  (a_qwj:nsIn K mainGlobals "_law_told_by" = some (some (.ref f_qwj)))
  (l_qwj:FO K f_qwj s_qwj "_law_told_by" "_law_told_by")
  (a_qzk:nsIn K mainGlobals "_law_drawn" = some (some (.ref f_qzk)))
  (l_qzk:FO K f_qzk s_qzk "_law_drawn" "_law_drawn")
  (a_qyq:nsIn K mainGlobals "_law_copy" = some (some (.ref f_qyq)))
  (l_qyq:FO K f_qyq s_qyq "_law_copy" "_law_copy")
  (a_qwx:nsIn K mainGlobals "_law_shelved" = some (some (.ref f_qwx)))
  (l_qwx:FO K f_qwx s_qwx "_law_shelved" "_law_shelved")
  (a_qyz:nsIn K mainGlobals "_law_rest" = some (some (.ref f_qyz)))
  (l_qyz:FO K f_qyz s_qyz "_law_rest" "_law_rest")
  (a_qyx:nsIn K mainGlobals "_law_told" = some (some (.ref f_qyx)))
  (l_qyx:FO K f_qyx s_qyx "_law_told" "_law_told")
  (a_qzw:nsIn K mainGlobals "_law_wanted" = some (some (.ref f_qzw)))
  (l_qzw:FO K f_qzw s_qzw "_law_wanted" "_law_wanted")
  (a_qzx:nsIn K mainGlobals "_law_first" = some (some (.ref f_qzx)))
  (l_qzx:FO K f_qzx s_qzx "_law_first" "_law_first")
  (a_qwz:nsIn K mainGlobals "_law_doubled" = some (some (.ref f_qwz)))
  (l_qwz:FO K f_qwz s_qwz "_law_doubled" "_law_doubled")
  (a_qzv:nsIn K mainGlobals "_law_unmet" = some (some (.ref f_qzv)))
  (l_qzv:FO K f_qzv s_qzv "_law_unmet" "_law_unmet")
  (a_qzy:nsIn K mainGlobals "_law_alone" = some (some (.ref f_qzy)))
  (l_qzy:FO K f_qzy s_qzy "_law_alone" "_law_alone")
  (a_qzz:nsIn K mainGlobals "_law_right" = some (some (.ref f_qzz)))
  (l_qzz:FO K f_qzz s_qzz "_law_right" "_law_right")
  (a_qzj:nsIn K mainGlobals "_law_holds" = some (some (.ref f_qzj)))
  (l_qzj:FO K f_qzj s_qzj "_law_holds" "_law_holds")
  (a_qwq:nsIn K mainGlobals "_law_spoiled" = some (some (.ref f_qwq)))
  (l_qwq:FO K f_qwq s_qwq "_law_spoiled" "_law_spoiled")
  (a_law:nsIn K mainGlobals "law" = some (some (.ref f_law)))
  (l_law:FO K f_law s_law "law" "law")
  (pg_qxy:plainGet K C_qxy Str.empty=true)
  (hd_qxy:hasDictIn K C_qxy=true)
  (po_qxy:plainOver K C_qxy=true)
  (sa_qxy:findIn K (.ref C_qxy) "__setattr__" = some (some (.builtin "object.__setattr__")))
  (mm_qxy:makesIn K C_qxy=true)
  (kc_qxy:keepIn K (.ref C_qxy)=true)
  (ks_qxx:kitOne K (.ref C_qyk) (.ref C_qxx)=some false)
  (ks_qxw:kitOne K (.ref C_qyk) (.ref C_qxw)=some false)
  (ks_qxv:kitOne K (.ref C_qyk) (.ref C_qxv)=some false)
  (ks_qyk:kitOne K (.ref C_qyk) (.ref C_qyk)=some true)
  (ks_qxj:kitOne K (.ref C_qyk) (.ref C_qxj)=some false)
  (ks_qxk:kitOne K (.ref C_qyk) (.ref C_qxk)=some false)
  (ks_qyj:kitOne K (.ref C_qyk) (.ref C_qyj)=some false)
  (ks_qxz:kitOne K (.ref C_qyk) (.ref C_qxz)=some false)
  (ks_Lost:kitOne K (.ref C_qyk) (.ref C_Lost)=some false)
  (ks_qyv:kitOne K (.ref C_qyk) (.ref C_qyv)=some false)
  (ks_qyw:kitOne K (.ref C_qyk) (.ref C_qyw)=some true)
  (ks_V:kitOne K (.ref C_qyk) (.type "ValueError")=some true)
  (ks_mj:mroIn K C_qyk (.ref C_qyw)=some true)
  (ks_hd:hasDictIn K C_qyk=true)
  (ku_qxx:kitOne K (.ref C_qxj) (.ref C_qxx)=some false)
  (ku_qxw:kitOne K (.ref C_qxj) (.ref C_qxw)=some false)
  (ku_qxv:kitOne K (.ref C_qxj) (.ref C_qxv)=some false)
  (ku_qyk:kitOne K (.ref C_qxj) (.ref C_qyk)=some false)
  (ku_qxj:kitOne K (.ref C_qxj) (.ref C_qxj)=some true)
  (ku_qxk:kitOne K (.ref C_qxj) (.ref C_qxk)=some false)
  (ku_qyj:kitOne K (.ref C_qxj) (.ref C_qyj)=some false)
  (ku_qxz:kitOne K (.ref C_qxj) (.ref C_qxz)=some false)
  (ku_Lost:kitOne K (.ref C_qxj) (.ref C_Lost)=some false)
  (ku_qyv:kitOne K (.ref C_qxj) (.ref C_qyv)=some false)
  (ku_qyw:kitOne K (.ref C_qxj) (.ref C_qyw)=some true)
  (ku_V:kitOne K (.ref C_qxj) (.type "ValueError")=some true)
  (ku_mj:mroIn K C_qxj (.ref C_qyw)=some true)
  (ku_hd:hasDictIn K C_qxj=true)
  (xg_qxj:findIn K (.ref C_qxj) "__getattribute__" = some (some (.builtin "BaseException.__getattribute__")))
  (xn_qxj:findIn K (.ref C_qxj) "__getattr__" = some none)
  (xl_qxj:findIn K (.ref C_qxj) "__class__" = some (some (.builtin "object.__class__")))
  (xo_qxj:mroIn K C_qxj (.type "object")=some true)
  (xb_qxj:mroIn K C_qxj (.type "BaseException")=some true)
  (xg_qyk:findIn K (.ref C_qyk) "__getattribute__" = some (some (.builtin "BaseException.__getattribute__")))
  (xn_qyk:findIn K (.ref C_qyk) "__getattr__" = some none)
  (xl_qyk:findIn K (.ref C_qyk) "__class__" = some (some (.builtin "object.__class__")))
  (xo_qyk:mroIn K C_qyk (.type "object")=some true)
  (xb_qyk:mroIn K C_qyk (.type "BaseException")=some true)
  (sp_cl:specialIn K (.builtin "object.__class__") "__get__" = some (some (.builtin "getset_descriptor.__get__")))
  (tk_cl:takesIn K (.builtin "object.__class__")=some true)
  (ei_qyk:ownInit K C_qyk f_qqw=true)
  (ee_qyk:errIn K C_qyk=true)
  (es_qyk:findIn K (.ref C_qyk) "__setattr__" = some (some (.builtin "object.__setattr__")))
  (ei_qxj:ownInit K C_qxj f_qqk=true)
  (ee_qxj:errIn K C_qxj=true)
  (es_qxj:findIn K (.ref C_qxj) "__setattr__" = some (some (.builtin "object.__setattr__")))
  (br_qyw:readsIn K C_qyw (.type "type")=true)
  (bf_qyw:findCls K (.ref C_qyw) (.type "type") "__init__" = some (.val (.builtin "ValueError.__init__")))
  (bg_qyw:specialIn K (.ref C_qyw) "__getattribute__" = some (some (.builtin "type.__getattribute__")))
  (ct_qyw:instIn K (.ref C_qyw) (.type "tuple")=some false)
  (cb_qyw:mroIn K C_qyw (.type "BaseException")=some true)
  (no_qxy_pieces:findIn K (.ref C_qxy) "pieces" = some none)
  (no_qxy_qxq:findIn K (.ref C_qxy) "reasons" = some none)
  (no_qxy_told_by_given:findIn K (.ref C_qxy) "told_by_given" = some none)
  (no_qxy_on_shelves:findIn K (.ref C_qxy) "on_shelves" = some none)
  (no_qxy_from_shelves:findIn K (.ref C_qxy) "from_shelves" = some none)
  (no_qxy_unmet:findIn K (.ref C_qxy) "unmet" = some none)
  (no_qxj_name:findIn K (.ref C_qxj) "name" = some none)
  (no_qxj_piece:findIn K (.ref C_qxj) "piece" = some none)
  (no_qyk_name:findIn K (.ref C_qyk) "name" = some none)
  (n_ValueError:nsIn K mainGlobals "ValueError" = some none)
  (n_int:nsIn K mainGlobals "int" = some none)
  (n_isinstance:nsIn K mainGlobals "isinstance" = some none)
  (n_len:nsIn K mainGlobals "len" = some none)
  (n_list:nsIn K mainGlobals "list" = some none)
  (n_min:nsIn K mainGlobals "min" = some none)
  (n_range:nsIn K mainGlobals "range" = some none)
  (n_set:nsIn K mainGlobals "set" = some none)
  (n_sorted:nsIn K mainGlobals "sorted" = some none)
  (n_str:nsIn K mainGlobals "str" = some none)
  (a_bm:nsIn K mainGlobals "__builtins__" = some (some (.ref bm)))
  (l_bm:BMO K bm):
  ∃fd:FuncData,(∀(s:Shared) (v:Value),BindsTo s fd ⟨[v],[]⟩ [("_law_script", v)])/\∀base:Heap,K.In base->base.Ns mainGlobals mg->FnOk l.prog w K mg base CX0 9 fa fd ["_law_script"] (sp_law K tb_taken):=by
 have e:=hfa.symm.trans (mg_of X G a_law)
 cases e
 obtain⟨_,_,_,_,_,_,_,_,_,l_qqw,e_qqw,k_qqw⟩:=l_qqw
 have F_qqw:=fun_mk l_qqw e_qqw k_qqw
 have b_qqw:=F_qqw.binds (ps:=["self", "name"]) λ_ _ _ _ _ _ us hl=>len2 us hl λ_ _=>rfl
 obtain⟨_,_,_,_,_,_,_,_,_,l_qqk,e_qqk,k_qqk⟩:=l_qqk
 have F_qqk:=fun_mk l_qqk e_qqk k_qqk
 have b_qqk:=F_qqk.binds (ps:=["self", "name", "piece"]) λ_ _ _ _ _ _ us hl=>len3 us hl λ_ _ _=>rfl
 obtain⟨_,_,_,_,_,_,_,_,_,l_tells,e_tells,k_tells⟩:=l_tells
 have F_tells:=fun_mk l_tells e_tells k_tells
 have b_tells:=F_tells.binds (ps:=["piece"]) λ_ _ _ _ _ _ us hl=>len1 us hl λ_=>rfl
 obtain⟨_,_,_,_,_,_,_,_,_,l_wants,e_wants,k_wants⟩:=l_wants
 have F_wants:=fun_mk l_wants e_wants k_wants
 have b_wants:=F_wants.binds (ps:=["piece"]) λ_ _ _ _ _ _ us hl=>len1 us hl λ_=>rfl
 obtain⟨_,_,_,_,_,_,_,_,_,l_qzq,e_qzq,k_qzq⟩:=l_qzq
 have F_qzq:=fun_mk l_qzq e_qzq k_qzq
 have b_qzq:=F_qzq.binds (ps:=["piece", "told_by"]) λ_ _ _ _ _ _ us hl=>len2 us hl λ_ _=>rfl
 obtain⟨_,_,_,_,_,_,_,_,_,l_qwv,e_qwv,k_qwv⟩:=l_qwv
 have F_qwv:=fun_mk l_qwv e_qwv k_qwv
 have b_qwv:=F_qwv.binds (ps:=["piece"]) λ_ _ _ _ _ _ us hl=>len1 us hl λ_=>rfl
 obtain⟨_,_,_,_,_,_,_,_,_,l_qwk,e_qwk,k_qwk⟩:=l_qwk
 have F_qwk:=fun_mk l_qwk e_qwk k_qwk
 have b_qwk:=F_qwk.binds (ps:=["fills"]) λ_ _ _ _ _ _ us hl=>len1 us hl λ_=>rfl
 obtain⟨_,_,_,_,_,_,_,_,_,l_taken,e_taken,k_taken,h_taken⟩:=l_taken
 have F_taken:=fun_mk l_taken e_taken k_taken
 have b_taken:=F_taken.binds (ps:=["given", "shelves", "entry"]) λ_ _ _ _ _ _ us hl=>len3 us hl λ_ _ _=>rfl
 obtain⟨_,_,_,_,_,_,_,_,_,l_qxq,e_qxq,k_qxq⟩:=l_qxq
 have F_qxq:=fun_mk l_qxq e_qxq k_qxq
 have b_qxq:=F_qxq.binds (ps:=["given", "shelves", "entry"]) λ_ _ _ _ _ _ us hl=>len3 us hl λ_ _ _=>rfl
 obtain⟨_,_,_,_,_,_,_,_,_,l_qqy,e_qqy,k_qqy⟩:=l_qqy
 have F_qqy:=fun_mk l_qqy e_qqy k_qqy
 have b_qqy:=F_qqy.binds (ps:=["self", "given", "shelves", "entry"]) λ_ _ _ _ _ _ us hl=>len4 us hl λ_ _ _ _=>rfl
 obtain⟨_,_,_,_,_,_,_,_,_,l_qqq,e_qqq,k_qqq⟩:=l_qqq
 have F_qqq:=fun_mk l_qqq e_qqq k_qqq
 have b_qqq:=F_qqq.binds (ps:=["self"]) λ_ _ _ _ _ _ us hl=>len1 us hl λ_=>rfl
 obtain⟨_,_,_,_,_,_,_,_,_,l_qqx,e_qqx,k_qqx⟩:=l_qqx
 have F_qqx:=fun_mk l_qqx e_qqx k_qqx
 have b_qqx:=F_qqx.binds (ps:=["self", "name", "by"]) λ_ _ _ _ _ _ us hl=>len3 us hl λ_ _ _=>rfl
 obtain⟨_,_,_,_,_,_,_,_,_,l_qyy,e_qyy,k_qyy⟩:=l_qyy
 have F_qyy:=fun_mk l_qyy e_qyy k_qyy
 have b_qyy:=F_qyy.binds (ps:=["shelves"]) λ_ _ _ _ _ _ us hl=>len1 us hl λ_=>rfl
 obtain⟨_,_,_,_,_,_,_,_,_,l_qqz,e_qqz,k_qqz⟩:=l_qqz
 have F_qqz:=fun_mk l_qqz e_qqz k_qqz
 have b_qqz:=F_qqz.binds (ps:=["pieces"]) λ_ _ _ _ _ _ us hl=>len1 us hl λ_=>rfl
 obtain⟨_,_,_,_,_,_,_,_,_,l_qqv,e_qqv,k_qqv⟩:=l_qqv
 have F_qqv:=fun_mk l_qqv e_qqv k_qqv
 have b_qqv:=F_qqv.binds (ps:=["pieces"]) λ_ _ _ _ _ _ us hl=>len1 us hl λ_=>rfl
 obtain⟨_,_,_,_,_,_,_,_,_,l_qwy,e_qwy,k_qwy⟩:=l_qwy
 have F_qwy:=fun_mk l_qwy e_qwy k_qwy
 have b_qwy:=F_qwy.binds (ps:=["_law_script", "_law_k"]) λ_ _ _ _ _ _ us hl=>len2 us hl λ_ _=>rfl
 obtain⟨_,_,_,_,_,_,_,_,_,l_qww,e_qww,k_qww⟩:=l_qww
 have F_qww:=fun_mk l_qww e_qww k_qww
 have b_qww:=F_qww.binds (ps:=["_law_cell", "_law_k"]) λ_ _ _ _ _ _ us hl=>len2 us hl λ_ _=>rfl
 obtain⟨_,_,_,_,_,_,_,_,_,l_qqj,e_qqj,k_qqj⟩:=l_qqj
 have F_qqj:=fun_mk l_qqj e_qqj k_qqj
 have b_qqj:=F_qqj.binds (ps:=["_law_cell", "_law_names_by"]) λ_ _ _ _ _ _ us hl=>len2 us hl λ_ _=>rfl
 obtain⟨_,_,_,_,_,_,_,_,_,l_qwj,e_qwj,k_qwj⟩:=l_qwj
 have F_qwj:=fun_mk l_qwj e_qwj k_qwj
 have b_qwj:=F_qwj.binds (ps:=["_law_pieces", "_law_cell", "_law_names_by", "_law_strict"]) λ_ _ _ _ _ _ us hl=>len4 us hl λ_ _ _ _=>rfl
 obtain⟨_,_,_,_,_,_,_,_,_,l_qzk,e_qzk,k_qzk⟩:=l_qzk
 have F_qzk:=fun_mk l_qzk e_qzk k_qzk
 have b_qzk:=F_qzk.binds (ps:=["_law_cells", "_law_names_by", "_law_titles_by", "_law_strict"]) λ_ _ _ _ _ _ us hl=>len4 us hl λ_ _ _ _=>rfl
 obtain⟨_,_,_,_,_,_,_,_,_,l_qyq,e_qyq,k_qyq⟩:=l_qyq
 have F_qyq:=fun_mk l_qyq e_qyq k_qyq
 have b_qyq:=F_qyq.binds (ps:=["_law_piece"]) λ_ _ _ _ _ _ us hl=>len1 us hl λ_=>rfl
 obtain⟨_,_,_,_,_,_,_,_,_,l_qwx,e_qwx,k_qwx⟩:=l_qwx
 have F_qwx:=fun_mk l_qwx e_qwx k_qwx
 have b_qwx:=F_qwx.binds (ps:=["_law_pieces", "_law_cell"]) λ_ _ _ _ _ _ us hl=>len2 us hl λ_ _=>rfl
 obtain⟨_,_,_,_,_,_,_,_,_,l_qyz,e_qyz,k_qyz⟩:=l_qyz
 have F_qyz:=fun_mk l_qyz e_qyz k_qyz
 have b_qyz:=F_qyz.binds (ps:=["_law_names_by", "_law_titles_by", "_law_there"]) λ_ _ _ _ _ _ us hl=>len3 us hl λ_ _ _=>rfl
 obtain⟨_,_,_,_,_,_,_,_,_,l_qyx,e_qyx,k_qyx⟩:=l_qyx
 have F_qyx:=fun_mk l_qyx e_qyx k_qyx
 have b_qyx:=F_qyx.binds (ps:=["_law_piece"]) λ_ _ _ _ _ _ us hl=>len1 us hl λ_=>rfl
 obtain⟨_,_,_,_,_,_,_,_,_,l_qzw,e_qzw,k_qzw⟩:=l_qzw
 have F_qzw:=fun_mk l_qzw e_qzw k_qzw
 have b_qzw:=F_qzw.binds (ps:=["_law_piece"]) λ_ _ _ _ _ _ us hl=>len1 us hl λ_=>rfl
 obtain⟨_,_,_,_,_,_,_,_,_,l_qzx,e_qzx,k_qzx⟩:=l_qzx
 have F_qzx:=fun_mk l_qzx e_qzx k_qzx
 have b_qzx:=F_qzx.binds (ps:=["_law_some", "_law_name"]) λ_ _ _ _ _ _ us hl=>len2 us hl λ_ _=>rfl
 obtain⟨_,_,_,_,_,_,_,_,_,l_qwz,e_qwz,k_qwz⟩:=l_qwz
 have F_qwz:=fun_mk l_qwz e_qwz k_qwz
 have b_qwz:=F_qwz.binds (ps:=["_law_some"]) λ_ _ _ _ _ _ us hl=>len1 us hl λ_=>rfl
 obtain⟨_,_,_,_,_,_,_,_,_,l_qzv,e_qzv,k_qzv⟩:=l_qzv
 have F_qzv:=fun_mk l_qzv e_qzv k_qzv
 have b_qzv:=F_qzv.binds (ps:=["_law_some", "_law_entry"]) λ_ _ _ _ _ _ us hl=>len2 us hl λ_ _=>rfl
 obtain⟨_,_,_,_,_,_,_,_,_,l_qzy,e_qzy,k_qzy⟩:=l_qzy
 have F_qzy:=fun_mk l_qzy e_qzy k_qzy
 have b_qzy:=F_qzy.binds (ps:=["_law_kept"]) λ_ _ _ _ _ _ us hl=>len1 us hl λ_=>rfl
 obtain⟨_,_,_,_,_,_,_,_,_,l_qzz,e_qzz,k_qzz⟩:=l_qzz
 have F_qzz:=fun_mk l_qzz e_qzz k_qzz
 have b_qzz:=F_qzz.binds (ps:=["_law_answer", "_law_kept", "_law_some", "_law_entry"]) λ_ _ _ _ _ _ us hl=>len4 us hl λ_ _ _ _=>rfl
 obtain⟨_,_,_,_,_,_,_,_,_,l_qzj,e_qzj,k_qzj⟩:=l_qzj
 have F_qzj:=fun_mk l_qzj e_qzj k_qzj
 have b_qzj:=F_qzj.binds (ps:=["_law_some", "_law_entry"]) λ_ _ _ _ _ _ us hl=>len2 us hl λ_ _=>rfl
 obtain⟨_,_,_,_,_,_,_,_,_,l_qwq,e_qwq,k_qwq⟩:=l_qwq
 have F_qwq:=fun_mk l_qwq e_qwq k_qwq
 have b_qwq:=F_qwq.binds (ps:=["_law_some", "_law_by"]) λ_ _ _ _ _ _ us hl=>len2 us hl λ_ _=>rfl
 obtain⟨_,_,_,_,_,_,_,_,_,l_law,e_law,k_law⟩:=l_law
 have F_law:=fun_mk l_law e_law k_law
 have b_law:=F_law.binds (ps:=["_law_script"]) λ_ _ _ _ _ _ us hl=>len1 us hl λ_=>rfl
 obtain⟨_,n1_bm,n2_bm,l_bm⟩:=l_bm
 have T:Txt K mg { qqw:=f_qqw,fd_qqw:=_,qqk:=f_qqk,fd_qqk:=_,tells:=f_tells,fd_tells:=_,wants:=f_wants,fd_wants:=_,qzq:=f_qzq,fd_qzq:=_,qwv:=f_qwv,fd_qwv:=_,qwk:=f_qwk,fd_qwk:=_,taken:=f_taken,fd_taken:=_,qxq:=f_qxq,fd_qxq:=_,qqy:=f_qqy,fd_qqy:=_,qqq:=f_qqq,fd_qqq:=_,qqx:=f_qqx,fd_qqx:=_,qyy:=f_qyy,fd_qyy:=_,qqz:=f_qqz,fd_qqz:=_,qqv:=f_qqv,fd_qqv:=_,qwy:=f_qwy,fd_qwy:=_,qww:=f_qww,fd_qww:=_,qqj:=f_qqj,fd_qqj:=_,qwj:=f_qwj,fd_qwj:=_,qzk:=f_qzk,fd_qzk:=_,qyq:=f_qyq,fd_qyq:=_,qwx:=f_qwx,fd_qwx:=_,qyz:=f_qyz,fd_qyz:=_,qyx:=f_qyx,fd_qyx:=_,qzw:=f_qzw,fd_qzw:=_,qzx:=f_qzx,fd_qzx:=_,qwz:=f_qwz,fd_qwz:=_,qzv:=f_qzv,fd_qzv:=_,qzy:=f_qzy,fd_qzy:=_,qzz:=f_qzz,fd_qzz:=_,qzj:=f_qzj,fd_qzj:=_,qwq:=f_qwq,fd_qwq:=_,law:=fa,fd_law:=_,c_qyw:=C_qyw,c_Lost:=C_Lost,c_qxz:=C_qxz,c_qxw:=C_qxw,c_qxx:=C_qxx,c_qyv:=C_qyv,c_qyj:=C_qyj,c_qyk:=C_qyk,c_qxy:=C_qxy,c_qxk:=C_qxk,c_qxv:=C_qxv,c_qxj:=C_qxj,tb_taken:=tb_taken }:={
  k_qqw,
  b_qqw,
  F_qqw,
  k_qqk,
  b_qqk,
  F_qqk,
  m_tells:=mg_of X G a_tells
  k_tells,
  b_tells,
  F_tells,
  m_wants:=mg_of X G a_wants
  k_wants,
  b_wants,
  F_wants,
  m_qzq:=mg_of X G a_qzq
  k_qzq,
  b_qzq,
  F_qzq,
  m_qwv:=mg_of X G a_qwv
  k_qwv,
  b_qwv,
  F_qwv,
  m_qwk:=mg_of X G a_qwk
  k_qwk,
  b_qwk,
  F_qwk,
  lm_taken:=⟨_,rfl,h_taken⟩
  m_taken:=mg_of X G a_taken
  k_taken,
  b_taken,
  F_taken,
  m_qxq:=mg_of X G a_qxq
  k_qxq,
  b_qxq,
  F_qxq,
  k_qqy,
  b_qqy,
  F_qqy,
  k_qqq,
  b_qqq,
  F_qqq,
  k_qqx,
  b_qqx,
  F_qqx,
  m_qyy:=mg_of X G a_qyy
  k_qyy,
  b_qyy,
  F_qyy,
  m_qqz:=mg_of X G a_qqz
  k_qqz,
  b_qqz,
  F_qqz,
  m_qqv:=mg_of X G a_qqv
  k_qqv,
  b_qqv,
  F_qqv,
  m_qwy:=mg_of X G a_qwy
  k_qwy,
  b_qwy,
  F_qwy,
  m_qww:=mg_of X G a_qww
  k_qww,
  b_qww,
  F_qww,
  m_qqj:=mg_of X G a_qqj
  k_qqj,
  b_qqj,
  F_qqj,
  m_qwj:=mg_of X G a_qwj
  k_qwj,
  b_qwj,
  F_qwj,
  m_qzk:=mg_of X G a_qzk
  k_qzk,
  b_qzk,
  F_qzk,
  m_qyq:=mg_of X G a_qyq
  k_qyq,
  b_qyq,
  F_qyq,
  m_qwx:=mg_of X G a_qwx
  k_qwx,
  b_qwx,
  F_qwx,
  m_qyz:=mg_of X G a_qyz
  k_qyz,
  b_qyz,
  F_qyz,
  m_qyx:=mg_of X G a_qyx
  k_qyx,
  b_qyx,
  F_qyx,
  m_qzw:=mg_of X G a_qzw
  k_qzw,
  b_qzw,
  F_qzw,
  m_qzx:=mg_of X G a_qzx
  k_qzx,
  b_qzx,
  F_qzx,
  m_qwz:=mg_of X G a_qwz
  k_qwz,
  b_qwz,
  F_qwz,
  m_qzv:=mg_of X G a_qzv
  k_qzv,
  b_qzv,
  F_qzv,
  m_qzy:=mg_of X G a_qzy
  k_qzy,
  b_qzy,
  F_qzy,
  m_qzz:=mg_of X G a_qzz
  k_qzz,
  b_qzz,
  F_qzz,
  m_qzj:=mg_of X G a_qzj
  k_qzj,
  b_qzj,
  F_qzj,
  m_qwq:=mg_of X G a_qwq
  k_qwq,
  b_qwq,
  F_qwq,
  m_law:=mg_of X G a_law
  k_law,
  b_law,
  F_law,
  bm:=⟨bm,_,mg_of X G a_bm,n1_bm,n2_bm,l_bm⟩
  n_ValueError:=mg_none_of X G n_ValueError
  n_int:=mg_none_of X G n_int
  n_isinstance:=mg_none_of X G n_isinstance
  n_len:=mg_none_of X G n_len
  n_list:=mg_none_of X G n_list
  n_min:=mg_none_of X G n_min
  n_range:=mg_none_of X G n_range
  n_set:=mg_none_of X G n_set
  n_sorted:=mg_none_of X G n_sorted
  n_str:=mg_none_of X G n_str
  mc_qyw:=mg_of X G ac_qyw
  mc_Lost:=mg_of X G ac_Lost
  mc_qxz:=mg_of X G ac_qxz
  mc_qxw:=mg_of X G ac_qxw
  mc_qxx:=mg_of X G ac_qxx
  mc_qyv:=mg_of X G ac_qyv
  mc_qyj:=mg_of X G ac_qyj
  mc_qyk:=mg_of X G ac_qyk
  mc_qxy:=mg_of X G ac_qxy
  cl_qxy:=⟨pg_qxy,hd_qxy,po_qxy,sa_qxy⟩
  mc_qxk:=mg_of X G ac_qxk
  mc_qxv:=mg_of X G ac_qxv
  mc_qxj:=mg_of X G ac_qxj
  ks_qxx,
  ks_qxw,
  ks_qxv,
  ks_qyk,
  ks_qxj,
  ks_qxk,
  ks_qyj,
  ks_qxz,
  ks_Lost,
  ks_qyv,
  ks_qyw,
  ks_V,
  ks_mj,
  ks_hd,
  ku_qxx,
  ku_qxw,
  ku_qxv,
  ku_qyk,
  ku_qxj,
  ku_qxk,
  ku_qyj,
  ku_qxz,
  ku_Lost,
  ku_qyv,
  ku_qyw,
  ku_V,
  ku_mj,
  ku_hd,
  xg_qxj,
  xn_qxj,
  xl_qxj,
  xo_qxj,
  xb_qxj,
  xg_qyk,
  xn_qyk,
  xl_qyk,
  xo_qyk,
  xb_qyk,
  sp_cl,
  tk_cl,
  ei_qyk,
  ee_qyk,
  es_qyk,
  ei_qxj,
  ee_qxj,
  es_qxj,
  br_qyw,
  bf_qyw,
  bg_qyw,
  ct_qyw,
  cb_qyw,
  er_qyk:=⟨ei_qyk,ee_qyk,es_qyk,i_qqw⟩
  er_qxj:=⟨ei_qxj,ee_qxj,es_qxj,i_qqk⟩
  bi_qyw:=⟨br_qyw,bf_qyw,bg_qyw⟩
  mk_qxy:=⟨mm_qxy,a_qqy,i_qqy,kc_qxy⟩
  me_qqx:=⟨a_qqx,i_qqx,k_qqx⟩
  me_qqq:=⟨a_qqq,i_qqq,k_qqq⟩
  no_qxy_pieces,
  no_qxy_qxq,
  no_qxy_told_by_given,
  no_qxy_on_shelves,
  no_qxy_from_shelves,
  no_qxy_unmet,
  no_qxj_name,
  no_qxj_piece,
  no_qyk_name:=no_qyk_name }
 exact⟨_,λs v=>.of_eq rfl,λbase _ _=>G_law T⟩
theorem walk{l:PySem.W.OpenLaw}{q:Program}{loose:List Str}{XP:(Str->Option Value)->Heap->Prop}{YP:World->Heap->Prop}{d:DefRec}{K:Params->Wf}{tb_taken:Addr}(hn:l.most=some 63)(hdf:d.params.defaults=[])
  (hY:∀(w:World) (h:Heap),YP w h->(K w.params).In h)
  (hT:∀(w:World) (h:Heap) (lo:List Str) (mean:ExcName->Option Value) (mg mb:So),(K w.params).In h->Top q lo mean mg mb h->∀T∈[tb_taken],TabIn (K w.params) h T)
  (F:∀(w:World) (mg:So) (fa:Addr) (h:Heap),(K w.params).In h->h.Ns mainGlobals mg->mg d.name=some (.ref fa)->
   ∃fd:FuncData,(∀(s:Shared) (u:Value),BindsTo s fd ⟨[u],[]⟩ [("_law_script", u)])/\∀base:Heap,(K w.params).In base->base.Ns mainGlobals mg->FnOk l.prog w (K w.params) mg base CX0 9 fa fd ["_law_script"] (sp_law (K w.params) tb_taken)):
  PySem.W.WalkO q loose XP YP l.row.toRowW d [] (λf vs=>PySem.call f vs):=
 L2.walk_ofT (n:=63) (k:=9) (x := "_law_script") (CX:=λ_=>CX0) (sp:=λw=>sp_law (K w.params) tb_taken) hn (by decide) hdf ⟨rfl,by decide,by decide⟩ hY hT F (λ_ _ a ns hl hE hS=>⟨a,ns,rfl,hS,hl,hE _ (by simp),λ_=>rfl⟩) λ_ _ _ _ _ z=>z
end My
namespace Hd
open PySem PySem.W PySem.Calls PyProof.Rows
variable(P:Params)
class Pr where
 p:Program
 r:WRecords
section
variable [Pr]
noncomputable abbrev pw:Program:=Pr.p
noncomputable def T(i:Nat):Stmt:=pw.main.body.getD i (.Pass ⟨0,0,0,0⟩)
noncomputable def C(i j:Nat):Stmt:=L2.inClass (T i) j
noncomputable abbrev k(P:Params)(x:Str)(t:Tok)(v:Value):DictEntry:=⟨PyData.keyHash P x,.str x t,v⟩
noncomputable abbrev fn(s:Stmt)(x q:Str)(dV kV doc pm:Value)(an:Option Addr)(cd ct:Value):FuncData:=fnOf x q (L2.defArgs s) (L2.defBody s) (L2.defScope s) dV kV doc pm an cd ct
noncomputable abbrev e1:Obj:=⟨.type "tuple", none,.seq #[] 0,#[]⟩
noncomputable abbrev e2:Obj:=⟨.none,none,.fields #[],#[]⟩
noncomputable abbrev bp:Obj:=⟨.type "builtin_function_or_method", none,.fields #[.builtin "type.__prepare__", .type "type"],#[]⟩
noncomputable abbrev tu(x:Array Value):Obj:=⟨.type "tuple", none,.seq x 0,#[]⟩
noncomputable abbrev nf(x:Array Value):Obj:=⟨.none,none,.fields x,#[]⟩
noncomputable abbrev bs(a:Addr):Obj:=⟨.type "builtin_function_or_method", none,.fields #[.builtin "object.__init_subclass__", .ref a],#[]⟩
noncomputable abbrev su(a:Addr):Obj:=⟨.type "super", none,.fields #[.ref a,.ref a,.ref a],#[]⟩
noncomputable abbrev co(x q:Str)(t:Nat)(l a b:Int)(r:Addr)(o:Bool)(r2:Addr)(v:Value)(u:Nat):Obj:=⟨.type "code", none,.fields #[.str x t,.str q (t+1),.str "/claim/cut.py" (t+2),.int l 0,.int a 0,.int 0 0,.int 0 0,.int b 0,.ref r,.bool o,.int 181 0,.ref r2,.none,.none,.none,v,.int (Int.ofNat u) 0,.int l 0,.str "/claim/cut.py" (u+1)],#[]⟩
noncomputable abbrev cf(x q:Str)(t:Nat)(l a:Int)(r u:Nat):Obj:=⟨.type "code", none,.fields #[.str x t,.str q (t+1),.str "/claim/cut.py" (t+2),.int l 0,.int a 0,.int 0 0,.int 0 0,.int 3 0,.ref r,.bool true,.int 181 0,.ref (r+1),.none,.ref (r+2),.ref (r+3),.ref (r+4),.int (Int.ofNat u) 0,.int l 0,.str "/claim/cut.py" (u+1)],#[]⟩
noncomputable abbrev cc(x:Str)(b:Value)(s:Addr)(m:List Value)(d:Addr)(l:List Value)(o:Option Value)(t u:Nat)(n:String):Obj:=⟨.type "type", none,.cls ⟨x,[b],.ref s::m,d,x,true,[],l,false,none,false⟩,#[o,none,some (.str x t),some (.str x u),some (.builtin n),some (.bool true)]⟩
noncomputable def nl:List Nat->List Value
 |a::b::c::r=>.int (Int.ofNat a) 0::.int (Int.ofNat b) 0::.ref c::nl r
 |_=>[]
noncomputable abbrev fm(a b:Addr)(v:Value):Obj:=⟨.type "frame", none,.plain,#[some (.ref a),some (.ref 3),some (.ref b),none,some v,none,some (.ref 0)]⟩
noncomputable abbrev fo(s:Stmt)(x q m:Str)(t:Nat)(c:Addr):Obj:=⟨.type "function", none,.func (fn s x q .none .none .none (.str m t) none (.ref c) .none),#[]⟩
noncomputable abbrev ft(s:Stmt)(x q:Str):Obj:=⟨.none,none,.func { fn s x q .none .none .none .none none .none .none with globals:=0,closure:=[],builtins:=0 },#[]⟩
noncomputable abbrev di(l:List DictEntry)(n:Nat):Obj:=⟨.type "dict", none,.dict l.toArray n,#[]⟩
noncomputable def sv:List DictEntry->Nat->Value->List DictEntry
 |[],_,_=>[]
 |e::r,0,v=>⟨e.hash,e.key,v⟩::r
 |e::r,n+1,v=>e::sv r n v
noncomputable def od:List (Nat×Obj)->List (Nat×Obj)
 |[]=>[]
 | (i,o)::r=>match Nat.beq (i % 2) 1 with
  |true=>(i / 2,o)::od r
  |false=>od r
noncomputable def ev:List (Nat×Obj)->List (Nat×Obj)
 |[]=>[]
 | (i,o)::r=>match Nat.beq i 0 with
  |true=>ev r
  |false=>match Nat.beq (i % 2) 1 with
   |true=>ev r
   |false=>(i / 2 - 1,o)::ev r
noncomputable def at0(v:Obj):List (Nat×Obj)->Obj
 |[]=>v
 | (i,o)::r=>match Nat.beq i 0 with
  |true=>o
  |false=>at0 v r
noncomputable def mg:Nat->BT->List (Nat×Obj)->BT
 |0,t,_=>t
 |f+1,t,d=>match d with
  |[]=>t
  |x::r=>match t with
   |.nil=>.node (at0 default (x::r)) (mg f .nil (od (x::r))) (mg f .nil (ev (x::r)))
   |.node v a b=>.node (at0 v (x::r)) (mg f a (od (x::r))) (mg f b (ev (x::r)))
noncomputable def bd:List Stmt:=behindTheImports pw
noncomputable def en:Env:={ scope:=pw.main.scope,locals:=mainNs,globals:=mainNs,cells:=[],code:=(.ref 13),frame:=some 14 }
noncomputable abbrev cE:Code:=.body bd en
noncomputable abbrev B:List Frame:=[topFrame ⟨0,0,0,0⟩]
noncomputable def li:Life:={ registered:=[],finalised:=[],alive:=[],known:=0,ids:=[],orphanDicts:=[],counting:=false,cnt:=⟨[]⟩,zero:=[],soft:=0,below:=false,collecting:=false,loading:=false,debug:=0,thresholds:=[2000,10,10],woke:=false,asked:=0,gcEnabled:=true,old:=[],middle:=[],young:=0,intoMiddle:=false }
noncomputable abbrev an:Option Value:=(some (.ref 6))
noncomputable abbrev sT(t:BT)(n k:Nat)(os:OsState):SharedT:=⟨t,n,li,⟨[]⟩,boot_drawn,k,os⟩
noncomputable abbrev sR(w:World)(n:Nat)(S S':World->OsState->SharedT)(l:List Stmt)(p p':Pos):Prop:=(λos=>segRunT treeTable pw w 11 an 1 n (S w os) (piecesOf l en cE p B))=λos=>some (.next,S' w os,cE,p')
noncomputable def o13_0:Obj:=co "<module>" "<module>" 182 1 0 0 11 false 12 .none 185
noncomputable def o14_0:Obj:=fm 13 3 (.str "__main__" 164)
noncomputable def Ha(P:Params):Heap:=⟨⟨boot_o_0 P::boot_o_1 P::boot_o_2 P::boot_o_3 P::boot_o_4 P::boot_o_5 P::boot_o_6 P::boot_o_7 P::boot_o_8 P::boot_o_9 P::boot_o_10 P::e1::e2::o13_0::o14_0::[]⟩,li⟩
noncomputable def S0(w:World)(os:OsState):Shared:=⟨boot_heap w.params,⟨[]⟩,boot_drawn,boot_toks,os⟩
noncomputable def Sa(w:World)(os:OsState):Shared:=⟨Ha w.params,⟨[]⟩,boot_drawn,187,os⟩
def Pre(w:World):Prop:=(λos=>topGo treeTable pw w 11 an 12 (S0 w os) (topStub pw))=λos=>some (Sa w os,⟨denote treeTable cE,cE,⟨0,0,0,0⟩,B⟩)
noncomputable def D0(P:Params):List (Nat×Obj):=(0,boot_o_0 P)::(1,boot_o_1 P)::(2,boot_o_2 P)::(3,boot_o_3 P)::(4,boot_o_4 P)::(5,boot_o_5 P)::(6,boot_o_6 P)::(7,boot_o_7 P)::(8,boot_o_8 P)::(9,boot_o_9 P)::(10,boot_o_10 P)::(11,e1)::(12,e2)::(13,o13_0)::(14,o14_0)::[]
noncomputable def T0(P:Params):BT:=mg 14 .nil (D0 P)
noncomputable def S0T(w:World):OsState->SharedT:=sT (T0 w.params) 15 187
def Blk(w:World):Prop:=(λos=>segRun treeTable pw w 11 an 1 1 (Sa w os) (blockOf bd en cE ⟨0,0,0,0⟩ B))=λos=>some (.next,(S0T w os).abs,cE,⟨0,0,0,0⟩)
noncomputable def g3_2(P:Params):List DictEntry:=[k P "__name__" 165 (.str "joinload.errors" 187),k P "__doc__" 166 .none,k P "__package__" 167 .none,k P "__loader__" 168 (.builtin "__main__.__loader__#opaque"),k P "__spec__" 169 .none,k P "__annotations__" 170 (.ref 6),k P "__builtins__" 171 (.ref 4),k P "__file__" 173 (.str "/claim/cut.py" 172),k P "__cached__" 174 .none,k P "JoinError" 206 (.ref 24),k P "NoRule" 222 (.ref 37),k P "NoPiece" 247 (.ref 56)]
noncomputable def o3_2:Obj:=⟨(.type "dict"),none,.dict (g3_2 P).toArray 12,#[]⟩
noncomputable def o12_2:Obj:=nf (nl [2,0,20,4,0,33,6,0,45]).toArray
noncomputable def o17_2:=di [k P "__module__" 196 (.str "joinload.errors" 187),k P "__qualname__" 198 (.str "JoinError" 197),k P "__firstlineno__" 200 (.int 2 199),k P "__static_attributes__" 201 (.ref 22)] 4
noncomputable def o20_2:Obj:=co "JoinError" "JoinError" 191 2 0 0 18 false 19 .none 194
noncomputable def o21_2:Obj:=fm 20 17 (.str "joinload.errors" 187)
noncomputable def o23_2:=di [k P "__module__" 196 (.str "joinload.errors" 187),k P "__firstlineno__" 200 (.int 2 199),k P "__static_attributes__" 201 (.ref 22),k P "__weakref__" 203 (.ref 25),k P "__doc__" 204 .none] 3
noncomputable def o24_2:Obj:=cc "JoinError" (.type "ValueError") 24 [.type "ValueError",.type "Exception",.type "BaseException",.type "object"] 23 [.ref 37,.ref 56] (some (.ref 15)) 189 197 "ValueError.__new__"
noncomputable def o25_2:Obj:=⟨(.type "getset_descriptor"),none,(.fields #[.str "__weakref__" 202,.ref 24,.builtin "ExceptionGroup.__weakref__",.none]),#[]⟩
noncomputable def o30_2:=di [k P "__module__" 214 (.str "joinload.errors" 187),k P "__qualname__" 216 (.str "NoRule" 215),k P "__firstlineno__" 218 (.int 4 217),k P "__static_attributes__" 219 (.ref 35)] 4
noncomputable def o33_2:Obj:=co "NoRule" "NoRule" 209 4 0 0 31 false 32 .none 212
noncomputable def o34_2:Obj:=fm 33 30 (.str "joinload.errors" 187)
noncomputable def o36_2:=di [k P "__module__" 214 (.str "joinload.errors" 187),k P "__firstlineno__" 218 (.int 4 217),k P "__static_attributes__" 219 (.ref 35),k P "__doc__" 220 .none] 2
noncomputable def o37_2:Obj:=cc "NoRule" (.ref 24) 37 [.ref 24,.type "ValueError",.type "Exception",.type "BaseException",.type "object"] 36 [] (some (.ref 28)) 207 215 "ValueError.__new__"
noncomputable def o42_2:=di [k P "__module__" 230 (.str "joinload.errors" 187),k P "__qualname__" 232 (.str "NoPiece" 231),k P "__firstlineno__" 234 (.int 6 233),k P "__init__" 242 (.ref 53),k P "__static_attributes__" 244 (.ref 54)] 5
noncomputable def o44_2:Obj:=nf (nl [8,4,52]).toArray
noncomputable def o45_2:Obj:=co "NoPiece" "NoPiece" 225 6 0 0 43 false 44 .none 228
noncomputable def o46_2:Obj:=fm 45 42 (.str "joinload.errors" 187)
noncomputable def o49_2:Obj:=tu #[.str "self" 238,.str "row" 239]
noncomputable def o51_2:Obj:=ft (C 3 0) "__init__" "NoPiece.__init__"
noncomputable def o52_2:Obj:=cf "__init__" "NoPiece.__init__" 235 8 2 47 240
noncomputable def o53_2:Obj:=fo (C 3 0) "__init__" "NoPiece.__init__" "joinload.errors" 187 52
noncomputable def o54_2:Obj:=tu #[.str "row" 243]
noncomputable def o55_2:=di [k P "__module__" 230 (.str "joinload.errors" 187),k P "__firstlineno__" 234 (.int 6 233),k P "__init__" 242 (.ref 53),k P "__static_attributes__" 244 (.ref 54),k P "__doc__" 245 .none] 2
noncomputable def o56_2:Obj:=cc "NoPiece" (.ref 24) 56 [.ref 24,.type "ValueError",.type "Exception",.type "BaseException",.type "object"] 55 [] (some (.ref 40)) 223 231 "ValueError.__new__"
noncomputable def d1_0(P:Params)(r:List (Nat×Obj)):List (Nat×Obj):=(3,o3_2 P)::(12,o12_2)::(15,tu #[.type "ValueError"])::(16,bp)::(17,o17_2 P)::(18,e1)::(19,e2)::(20,o20_2)::(21,o21_2)::(22,e1)::(23,o23_2 P)::(24,o24_2)::(25,o25_2)::(26,su 24)::(27,bs 24)::(28,tu #[.ref 24])::(29,bp)::(30,o30_2 P)::(31,e1)::(32,e2)::(33,o33_2)::(34,o34_2)::(35,e1)::(36,o36_2 P)::r
noncomputable def d1_1(P:Params)(r:List (Nat×Obj)):List (Nat×Obj):=(37,o37_2)::(38,su 37)::(39,bs 37)::(40,tu #[.ref 24])::(41,bp)::(42,o42_2 P)::(43,e1)::(44,o44_2)::(45,o45_2)::(46,o46_2)::(47,e1)::(48,e2)::(49,o49_2)::(50,e1)::(51,o51_2)::(52,o52_2)::(53,o53_2)::(54,o54_2)::(55,o55_2 P)::(56,o56_2)::(57,su 56)::(58,bs 56)::r
noncomputable def T1(P:Params):BT:=mg 14 (T0 P) (d1_0 P (d1_1 P ([])))
noncomputable def S1T(w:World):OsState->SharedT:=sT (T1 w.params) 59 248
noncomputable def L0:List Stmt:=T 0::T 1::T 2::T 3::[]
def P0(w:World):Prop:=sR w 654 S0T S1T L0 ⟨0,0,0,0⟩ ⟨6,0,10,22⟩
noncomputable def g3_3(P:Params):List DictEntry:=g3_2 P++[k P "Twice" 276 (.ref 75),k P "SameName" 301 (.ref 94),k P "Unmet" 328 (.ref 113)]
noncomputable def o3_3:Obj:=⟨(.type "dict"),none,.dict (g3_3 P).toArray 15,#[]⟩
noncomputable def o12_3:Obj:=nf (nl [2,0,20,4,0,33,6,0,45,11,0,64,18,0,83,23,0,102]).toArray
noncomputable def o24_3:Obj:=cc "JoinError" (.type "ValueError") 24 [.type "ValueError",.type "Exception",.type "BaseException",.type "object"] 23 [.ref 37,.ref 56,.ref 75,.ref 94,.ref 113] (some (.ref 15)) 189 197 "ValueError.__new__"
noncomputable def o61_3:=di [k P "__module__" 255 (.str "joinload.errors" 187),k P "__qualname__" 257 (.str "Twice" 256),k P "__firstlineno__" 259 (.int 11 258),k P "__init__" 269 (.ref 72),k P "__static_attributes__" 273 (.ref 73)] 5
noncomputable def o63_3:Obj:=nf (nl [13,4,71]).toArray
noncomputable def o64_3:Obj:=co "Twice" "Twice" 250 11 0 0 62 false 63 .none 253
noncomputable def o65_3:Obj:=fm 64 61 (.str "joinload.errors" 187)
noncomputable def o68_3:Obj:=tu #[.str "self" 263,.str "name" 264,.str "one" 265,.str "other" 266]
noncomputable def o70_3:Obj:=ft (C 4 0) "__init__" "Twice.__init__"
noncomputable def o71_3:Obj:=cf "__init__" "Twice.__init__" 260 13 4 66 267
noncomputable def o72_3:Obj:=fo (C 4 0) "__init__" "Twice.__init__" "joinload.errors" 187 71
noncomputable def o73_3:Obj:=tu #[.str "name" 270,.str "one" 271,.str "other" 272]
noncomputable def o74_3:=di [k P "__module__" 255 (.str "joinload.errors" 187),k P "__firstlineno__" 259 (.int 11 258),k P "__init__" 269 (.ref 72),k P "__static_attributes__" 273 (.ref 73),k P "__doc__" 274 .none] 2
noncomputable def o75_3:Obj:=cc "Twice" (.ref 24) 75 [.ref 24,.type "ValueError",.type "Exception",.type "BaseException",.type "object"] 74 [] (some (.ref 59)) 248 256 "ValueError.__new__"
noncomputable def o80_3:=di [k P "__module__" 284 (.str "joinload.errors" 187),k P "__qualname__" 286 (.str "SameName" 285),k P "__firstlineno__" 288 (.int 18 287),k P "__init__" 296 (.ref 91),k P "__static_attributes__" 298 (.ref 92)] 5
noncomputable def o82_3:Obj:=nf (nl [20,4,90]).toArray
noncomputable def o83_3:Obj:=co "SameName" "SameName" 279 18 0 0 81 false 82 .none 282
noncomputable def o84_3:Obj:=fm 83 80 (.str "joinload.errors" 187)
noncomputable def o87_3:Obj:=tu #[.str "self" 292,.str "name" 293]
noncomputable def o89_3:Obj:=ft (C 5 0) "__init__" "SameName.__init__"
noncomputable def o90_3:Obj:=cf "__init__" "SameName.__init__" 289 20 2 85 294
noncomputable def o91_3:Obj:=fo (C 5 0) "__init__" "SameName.__init__" "joinload.errors" 187 90
noncomputable def o92_3:Obj:=tu #[.str "name" 297]
noncomputable def o93_3:=di [k P "__module__" 284 (.str "joinload.errors" 187),k P "__firstlineno__" 288 (.int 18 287),k P "__init__" 296 (.ref 91),k P "__static_attributes__" 298 (.ref 92),k P "__doc__" 299 .none] 2
noncomputable def o94_3:Obj:=cc "SameName" (.ref 24) 94 [.ref 24,.type "ValueError",.type "Exception",.type "BaseException",.type "object"] 93 [] (some (.ref 78)) 277 285 "ValueError.__new__"
noncomputable def o99_3:=di [k P "__module__" 309 (.str "joinload.errors" 187),k P "__qualname__" 311 (.str "Unmet" 310),k P "__firstlineno__" 313 (.int 23 312),k P "__init__" 322 (.ref 110),k P "__static_attributes__" 325 (.ref 111)] 5
noncomputable def o101_3:Obj:=nf (nl [25,4,109]).toArray
noncomputable def o102_3:Obj:=co "Unmet" "Unmet" 304 23 0 0 100 false 101 .none 307
noncomputable def o103_3:Obj:=fm 102 99 (.str "joinload.errors" 187)
noncomputable def o106_3:Obj:=tu #[.str "self" 317,.str "name" 318,.str "piece" 319]
noncomputable def o108_3:Obj:=ft (C 6 0) "__init__" "Unmet.__init__"
noncomputable def o109_3:Obj:=cf "__init__" "Unmet.__init__" 314 25 3 104 320
noncomputable def o110_3:Obj:=fo (C 6 0) "__init__" "Unmet.__init__" "joinload.errors" 187 109
noncomputable def o111_3:Obj:=tu #[.str "name" 323,.str "piece" 324]
noncomputable def o112_3:=di [k P "__module__" 309 (.str "joinload.errors" 187),k P "__firstlineno__" 313 (.int 23 312),k P "__init__" 322 (.ref 110),k P "__static_attributes__" 325 (.ref 111),k P "__doc__" 326 .none] 2
noncomputable def o113_3:Obj:=cc "Unmet" (.ref 24) 113 [.ref 24,.type "ValueError",.type "Exception",.type "BaseException",.type "object"] 112 [] (some (.ref 97)) 302 310 "ValueError.__new__"
noncomputable def d2_0(P:Params)(r:List (Nat×Obj)):List (Nat×Obj):=(3,o3_3 P)::(12,o12_3)::(24,o24_3)::(59,tu #[.ref 24])::(60,bp)::(61,o61_3 P)::(62,e1)::(63,o63_3)::(64,o64_3)::(65,o65_3)::(66,e1)::(67,e2)::(68,o68_3)::(69,e1)::(70,o70_3)::(71,o71_3)::(72,o72_3)::(73,o73_3)::(74,o74_3 P)::(75,o75_3)::(76,su 75)::(77,bs 75)::(78,tu #[.ref 24])::(79,bp)::r
noncomputable def d2_1(P:Params)(r:List (Nat×Obj)):List (Nat×Obj):=(80,o80_3 P)::(81,e1)::(82,o82_3)::(83,o83_3)::(84,o84_3)::(85,e1)::(86,e2)::(87,o87_3)::(88,e1)::(89,o89_3)::(90,o90_3)::(91,o91_3)::(92,o92_3)::(93,o93_3 P)::(94,o94_3)::(95,su 94)::(96,bs 94)::(97,tu #[.ref 24])::(98,bp)::(99,o99_3 P)::(100,e1)::(101,o101_3)::(102,o102_3)::(103,o103_3)::r
noncomputable def d2_2(P:Params)(r:List (Nat×Obj)):List (Nat×Obj):=(104,e1)::(105,e2)::(106,o106_3)::(107,e1)::(108,o108_3)::(109,o109_3)::(110,o110_3)::(111,o111_3)::(112,o112_3 P)::(113,o113_3)::(114,su 113)::(115,bs 113)::r
noncomputable def T2(P:Params):BT:=mg 14 (T1 P) (d2_0 P (d2_1 P (d2_2 P ([]))))
noncomputable def S2T(w:World):OsState->SharedT:=sT (T2 w.params) 116 329
noncomputable def L1:List Stmt:=T 4::T 5::T 6::[]
def P1(w:World):Prop:=sR w 742 S1T S2T L1 ⟨6,0,10,22⟩ ⟨23,0,28,26⟩
noncomputable def g3_4(P:Params):List DictEntry:=g3_3 P++[k P "TooFar" 359 (.ref 132),k P "NoWhole" 384 (.ref 151),k P "NoBase" 409 (.ref 170)]
noncomputable def o3_4:Obj:=⟨(.type "dict"),none,.dict (g3_4 P).toArray 18,#[]⟩
noncomputable def o12_4:Obj:=nf (nl [2,0,20,4,0,33,6,0,45,11,0,64,18,0,83,23,0,102,29,0,121,37,0,140,42,0,159]).toArray
noncomputable def o24_4:Obj:=cc "JoinError" (.type "ValueError") 24 [.type "ValueError",.type "Exception",.type "BaseException",.type "object"] 23 [.ref 37,.ref 56,.ref 75,.ref 94,.ref 113,.ref 132,.ref 151,.ref 170] (some (.ref 15)) 189 197 "ValueError.__new__"
noncomputable def o118_4:=di [k P "__module__" 336 (.str "joinload.errors" 187),k P "__qualname__" 338 (.str "TooFar" 337),k P "__firstlineno__" 340 (.int 29 339),k P "__init__" 351 (.ref 129),k P "__static_attributes__" 356 (.ref 130)] 5
noncomputable def o120_4:Obj:=nf (nl [31,4,128]).toArray
noncomputable def o121_4:Obj:=co "TooFar" "TooFar" 331 29 0 0 119 false 120 .none 334
noncomputable def o122_4:Obj:=fm 121 118 (.str "joinload.errors" 187)
noncomputable def o125_4:Obj:=tu #[.str "self" 344,.str "name" 345,.str "piece" 346,.str "stretch" 347,.str "at" 348]
noncomputable def o127_4:Obj:=ft (C 7 0) "__init__" "TooFar.__init__"
noncomputable def o128_4:Obj:=cf "__init__" "TooFar.__init__" 341 31 5 123 349
noncomputable def o129_4:Obj:=fo (C 7 0) "__init__" "TooFar.__init__" "joinload.errors" 187 128
noncomputable def o130_4:Obj:=tu #[.str "at" 352,.str "name" 353,.str "piece" 354,.str "stretch" 355]
noncomputable def o131_4:=di [k P "__module__" 336 (.str "joinload.errors" 187),k P "__firstlineno__" 340 (.int 29 339),k P "__init__" 351 (.ref 129),k P "__static_attributes__" 356 (.ref 130),k P "__doc__" 357 .none] 2
noncomputable def o132_4:Obj:=cc "TooFar" (.ref 24) 132 [.ref 24,.type "ValueError",.type "Exception",.type "BaseException",.type "object"] 131 [] (some (.ref 116)) 329 337 "ValueError.__new__"
noncomputable def o137_4:=di [k P "__module__" 367 (.str "joinload.errors" 187),k P "__qualname__" 369 (.str "NoWhole" 368),k P "__firstlineno__" 371 (.int 37 370),k P "__init__" 379 (.ref 148),k P "__static_attributes__" 381 (.ref 149)] 5
noncomputable def o139_4:Obj:=nf (nl [39,4,147]).toArray
noncomputable def o140_4:Obj:=co "NoWhole" "NoWhole" 362 37 0 0 138 false 139 .none 365
noncomputable def o141_4:Obj:=fm 140 137 (.str "joinload.errors" 187)
noncomputable def o144_4:Obj:=tu #[.str "self" 375,.str "row" 376]
noncomputable def o146_4:Obj:=ft (C 8 0) "__init__" "NoWhole.__init__"
noncomputable def o147_4:Obj:=cf "__init__" "NoWhole.__init__" 372 39 2 142 377
noncomputable def o148_4:Obj:=fo (C 8 0) "__init__" "NoWhole.__init__" "joinload.errors" 187 147
noncomputable def o149_4:Obj:=tu #[.str "row" 380]
noncomputable def o150_4:=di [k P "__module__" 367 (.str "joinload.errors" 187),k P "__firstlineno__" 371 (.int 37 370),k P "__init__" 379 (.ref 148),k P "__static_attributes__" 381 (.ref 149),k P "__doc__" 382 .none] 2
noncomputable def o151_4:Obj:=cc "NoWhole" (.ref 24) 151 [.ref 24,.type "ValueError",.type "Exception",.type "BaseException",.type "object"] 150 [] (some (.ref 135)) 360 368 "ValueError.__new__"
noncomputable def o156_4:=di [k P "__module__" 392 (.str "joinload.errors" 187),k P "__qualname__" 394 (.str "NoBase" 393),k P "__firstlineno__" 396 (.int 42 395),k P "__init__" 404 (.ref 167),k P "__static_attributes__" 406 (.ref 168)] 5
noncomputable def o158_4:Obj:=nf (nl [44,4,166]).toArray
noncomputable def o159_4:Obj:=co "NoBase" "NoBase" 387 42 0 0 157 false 158 .none 390
noncomputable def o160_4:Obj:=fm 159 156 (.str "joinload.errors" 187)
noncomputable def o163_4:Obj:=tu #[.str "self" 400,.str "base" 401]
noncomputable def o165_4:Obj:=ft (C 9 0) "__init__" "NoBase.__init__"
noncomputable def o166_4:Obj:=cf "__init__" "NoBase.__init__" 397 44 2 161 402
noncomputable def o167_4:Obj:=fo (C 9 0) "__init__" "NoBase.__init__" "joinload.errors" 187 166
noncomputable def o168_4:Obj:=tu #[.str "base" 405]
noncomputable def o169_4:=di [k P "__module__" 392 (.str "joinload.errors" 187),k P "__firstlineno__" 396 (.int 42 395),k P "__init__" 404 (.ref 167),k P "__static_attributes__" 406 (.ref 168),k P "__doc__" 407 .none] 2
noncomputable def o170_4:Obj:=cc "NoBase" (.ref 24) 170 [.ref 24,.type "ValueError",.type "Exception",.type "BaseException",.type "object"] 169 [] (some (.ref 154)) 385 393 "ValueError.__new__"
noncomputable def d3_0(P:Params)(r:List (Nat×Obj)):List (Nat×Obj):=(3,o3_4 P)::(12,o12_4)::(24,o24_4)::(116,tu #[.ref 24])::(117,bp)::(118,o118_4 P)::(119,e1)::(120,o120_4)::(121,o121_4)::(122,o122_4)::(123,e1)::(124,e2)::(125,o125_4)::(126,e1)::(127,o127_4)::(128,o128_4)::(129,o129_4)::(130,o130_4)::(131,o131_4 P)::(132,o132_4)::(133,su 132)::(134,bs 132)::(135,tu #[.ref 24])::(136,bp)::r
noncomputable def d3_1(P:Params)(r:List (Nat×Obj)):List (Nat×Obj):=(137,o137_4 P)::(138,e1)::(139,o139_4)::(140,o140_4)::(141,o141_4)::(142,e1)::(143,e2)::(144,o144_4)::(145,e1)::(146,o146_4)::(147,o147_4)::(148,o148_4)::(149,o149_4)::(150,o150_4 P)::(151,o151_4)::(152,su 151)::(153,bs 151)::(154,tu #[.ref 24])::(155,bp)::(156,o156_4 P)::(157,e1)::(158,o158_4)::(159,o159_4)::(160,o160_4)::r
noncomputable def d3_2(P:Params)(r:List (Nat×Obj)):List (Nat×Obj):=(161,e1)::(162,e2)::(163,o163_4)::(164,e1)::(165,o165_4)::(166,o166_4)::(167,o167_4)::(168,o168_4)::(169,o169_4 P)::(170,o170_4)::(171,su 170)::(172,bs 170)::r
noncomputable def T3(P:Params):BT:=mg 14 (T2 P) (d3_0 P (d3_1 P (d3_2 P ([]))))
noncomputable def S3T(w:World):OsState->SharedT:=sT (T3 w.params) 173 410
noncomputable def L2:List Stmt:=T 7::T 8::T 9::[]
def P2(w:World):Prop:=sR w 742 S2T S3T L2 ⟨23,0,28,26⟩ ⟨42,0,46,24⟩
noncomputable def g3_5(P:Params):List DictEntry:=sv (g3_4 P) 0 (.str "joinload.shelves" 504)++[k P "Lost" 434 (.ref 189),k P "NoSense" 450 (.ref 201),k P "tells" 458 (.ref 208),k P "wants" 476 (.ref 215),k P "places_told" 489 (.ref 222),k P "copied_piece" 497 (.ref 227),k P "copied_fills" 503 (.ref 232),k P "taken" 511 (.ref 237),k P "reasons" 520 (.ref 244)]
noncomputable def o3_5:Obj:=⟨(.type "dict"),none,.dict (g3_5 P).toArray 27,#[]⟩
noncomputable def o12_5:Obj:=nf (nl [2,0,20,4,0,33,6,0,45,11,0,64,18,0,83,23,0,102,29,0,121,37,0,140,42,0,159,47,0,178,52,0,197,55,0,207,57,0,214,65,0,221,72,0,226,76,0,231,79,0,236,83,0,243]).toArray
noncomputable def o24_5:Obj:=cc "JoinError" (.type "ValueError") 24 [.type "ValueError",.type "Exception",.type "BaseException",.type "object"] 23 [.ref 37,.ref 56,.ref 75,.ref 94,.ref 113,.ref 132,.ref 151,.ref 170,.ref 189,.ref 201] (some (.ref 15)) 189 197 "ValueError.__new__"
noncomputable def o175_5:=di [k P "__module__" 417 (.str "joinload.errors" 187),k P "__qualname__" 419 (.str "Lost" 418),k P "__firstlineno__" 421 (.int 47 420),k P "__init__" 429 (.ref 186),k P "__static_attributes__" 431 (.ref 187)] 5
noncomputable def o177_5:Obj:=nf (nl [49,4,185]).toArray
noncomputable def o178_5:Obj:=co "Lost" "Lost" 412 47 0 0 176 false 177 .none 415
noncomputable def o179_5:Obj:=fm 178 175 (.str "joinload.errors" 187)
noncomputable def o182_5:Obj:=tu #[.str "self" 425,.str "place" 426]
noncomputable def o184_5:Obj:=ft (C 10 0) "__init__" "Lost.__init__"
noncomputable def o185_5:Obj:=cf "__init__" "Lost.__init__" 422 49 2 180 427
noncomputable def o186_5:Obj:=fo (C 10 0) "__init__" "Lost.__init__" "joinload.errors" 187 185
noncomputable def o187_5:Obj:=tu #[.str "place" 430]
noncomputable def o188_5:=di [k P "__module__" 417 (.str "joinload.errors" 187),k P "__firstlineno__" 421 (.int 47 420),k P "__init__" 429 (.ref 186),k P "__static_attributes__" 431 (.ref 187),k P "__doc__" 432 .none] 2
noncomputable def o189_5:Obj:=cc "Lost" (.ref 24) 189 [.ref 24,.type "ValueError",.type "Exception",.type "BaseException",.type "object"] 188 [] (some (.ref 173)) 410 418 "ValueError.__new__"
noncomputable def o194_5:=di [k P "__module__" 442 (.str "joinload.errors" 187),k P "__qualname__" 444 (.str "NoSense" 443),k P "__firstlineno__" 446 (.int 52 445),k P "__static_attributes__" 447 (.ref 199)] 4
noncomputable def o197_5:Obj:=co "NoSense" "NoSense" 437 52 0 0 195 false 196 .none 440
noncomputable def o198_5:Obj:=fm 197 194 (.str "joinload.errors" 187)
noncomputable def o200_5:=di [k P "__module__" 442 (.str "joinload.errors" 187),k P "__firstlineno__" 446 (.int 52 445),k P "__static_attributes__" 447 (.ref 199),k P "__doc__" 448 .none] 2
noncomputable def o201_5:Obj:=cc "NoSense" (.ref 24) 201 [.ref 24,.type "ValueError",.type "Exception",.type "BaseException",.type "object"] 200 [] (some (.ref 192)) 435 443 "ValueError.__new__"
noncomputable def o206_5:Obj:=ft (T 13) "tells" "tells"
noncomputable def o207_5:Obj:=co "tells" "tells" 453 55 1 3 204 true 205 (.ref 206) 456
noncomputable def o208_5:Obj:=fo (T 13) "tells" "tells" "joinload.names" 451 207
noncomputable def o211_5:Obj:=tu #[.str "piece" 462,.str "own" 463,.str "wanted" 464,.str "kind" 465,.str "step" 466,.str "words" 467,.str "fills" 468,.str "at" 469,.str "rule" 470,.str "name" 471,.str "add" 472,.str "soft" 473]
noncomputable def o213_5:Obj:=ft (T 14) "wants" "wants"
noncomputable def o214_5:Obj:=cf "wants" "wants" 459 57 1 209 474
noncomputable def o215_5:Obj:=fo (T 14) "wants" "wants" "joinload.names" 451 214
noncomputable def o218_5:Obj:=tu #[.str "piece" 480,.str "told_by" 481,.str "places" 482,.str "name" 483,.str "sort" 484,.str "stretch" 485,.str "offset" 486]
noncomputable def o220_5:Obj:=ft (T 15) "places_told" "places_told"
noncomputable def o221_5:Obj:=cf "places_told" "places_told" 477 65 2 216 487
noncomputable def o222_5:Obj:=fo (T 15) "places_told" "places_told" "joinload.names" 451 221
noncomputable def o225_5:Obj:=ft (T 17) "copied_piece" "copied_piece"
noncomputable def o226_5:Obj:=co "copied_piece" "copied_piece" 492 72 1 3 223 true 224 (.ref 225) 495
noncomputable def o227_5:Obj:=fo (T 17) "copied_piece" "copied_piece" "joinload.pieces" 490 226
noncomputable def o230_5:Obj:=ft (T 18) "copied_fills" "copied_fills"
noncomputable def o231_5:Obj:=co "copied_fills" "copied_fills" 498 76 1 3 228 true 229 (.ref 230) 501
noncomputable def o232_5:Obj:=fo (T 18) "copied_fills" "copied_fills" "joinload.pieces" 490 231
noncomputable def o235_5:Obj:=ft (T 20) "taken" "taken"
noncomputable def o236_5:Obj:=co "taken" "taken" 506 79 3 3 233 true 234 (.ref 235) 509
noncomputable def o237_5:Obj:=fo (T 20) "taken" "taken" "joinload.shelves" 504 236
noncomputable def o240_5:Obj:=tu #[.str "given" 515,.str "shelves" 516,.str "entry" 517]
noncomputable def o242_5:Obj:=ft (T 21) "reasons" "reasons"
noncomputable def o243_5:Obj:=cf "reasons" "reasons" 512 83 3 238 518
noncomputable def o244_5:Obj:=fo (T 21) "reasons" "reasons" "joinload.shelves" 504 243
noncomputable def d4_0(P:Params)(r:List (Nat×Obj)):List (Nat×Obj):=(3,o3_5 P)::(12,o12_5)::(24,o24_5)::(173,tu #[.ref 24])::(174,bp)::(175,o175_5 P)::(176,e1)::(177,o177_5)::(178,o178_5)::(179,o179_5)::(180,e1)::(181,e2)::(182,o182_5)::(183,e1)::(184,o184_5)::(185,o185_5)::(186,o186_5)::(187,o187_5)::(188,o188_5 P)::(189,o189_5)::(190,su 189)::(191,bs 189)::(192,tu #[.ref 24])::(193,bp)::r
noncomputable def d4_1(P:Params)(r:List (Nat×Obj)):List (Nat×Obj):=(194,o194_5 P)::(195,e1)::(196,e2)::(197,o197_5)::(198,o198_5)::(199,e1)::(200,o200_5 P)::(201,o201_5)::(202,su 201)::(203,bs 201)::(204,e1)::(205,e2)::(206,o206_5)::(207,o207_5)::(208,o208_5)::(209,e1)::(210,e2)::(211,o211_5)::(212,e1)::(213,o213_5)::(214,o214_5)::(215,o215_5)::(216,e1)::(217,e2)::r
noncomputable def d4_2(P:Params)(r:List (Nat×Obj)):List (Nat×Obj):=(218,o218_5)::(219,e1)::(220,o220_5)::(221,o221_5)::(222,o222_5)::(223,e1)::(224,e2)::(225,o225_5)::(226,o226_5)::(227,o227_5)::(228,e1)::(229,e2)::(230,o230_5)::(231,o231_5)::(232,o232_5)::(233,e1)::(234,e2)::(235,o235_5)::(236,o236_5)::(237,o237_5)::(238,e1)::(239,e2)::(240,o240_5)::(241,e1)::r
noncomputable def d4_3(P:Params)(r:List (Nat×Obj)):List (Nat×Obj):=(242,o242_5)::(243,o243_5)::(244,o244_5)::r
noncomputable def T4(P:Params):BT:=mg 14 (T3 P) (d4_0 P (d4_1 P (d4_2 P (d4_3 P ([])))))
noncomputable def S4T(w:World):OsState->SharedT:=sT (T4 w.params) 245 521
noncomputable def L3:List Stmt:=T 10::T 11::T 12::T 13::T 14::T 15::T 16::T 17::T 18::T 19::T 20::T 21::[]
def P3(w:World):Prop:=sR w 696 S3T S4T L3 ⟨42,0,46,24⟩ ⟨83,0,84,48⟩
noncomputable def g3_6(P:Params):List DictEntry:=sv (g3_5 P) 0 (.str "law_joinload_k22_not_taken" 608)++[k P "Taking" 578 (.ref 275),k P "pieces_on" 587 (.ref 286),k P "refuse_same_name" 597 (.ref 293),k P "first_tellers" 607 (.ref 300),k P "_law_cell_at" 617 (.ref 307),k P "_law_name_by" 632 (.ref 314),k P "_law_word_row" 645 (.ref 321),k P "_law_told_by" 651 (.ref 326),k P "_law_drawn" 667 (.ref 333),k P "_law_copy" 673 (.ref 338),k P "_law_shelved" 684 (.ref 345),k P "_law_rest" 696 (.ref 352),k P "_law_told" 702 (.ref 357),k P "_law_wanted" 708 (.ref 362),k P "_law_first" 718 (.ref 369),k P "_law_doubled" 724 (.ref 374),k P "_law_unmet" 730 (.ref 379),k P "_law_alone" 738 (.ref 386),k P "_law_right" 750 (.ref 393),k P "_law_holds" 756 (.ref 398)]
noncomputable def o3_6:Obj:=⟨(.type "dict"),none,.dict (g3_6 P).toArray 47,#[]⟩
noncomputable def o12_6:Obj:=nf (nl [2,0,20,4,0,33,6,0,45,11,0,64,18,0,83,23,0,102,29,0,121,37,0,140,42,0,159,47,0,178,52,0,197,55,0,207,57,0,214,65,0,221,72,0,226,76,0,231,79,0,236,83,0,243,85,0,250,121,0,285,126,0,292,135,0,299,142,0,306,146,0,313,159,0,320,170,0,325,180,0,332,198,0,337,201,0,344,208,0,351,215,0,356,217,0,361,224,0,368,230,0,373,238,0,378,256,0,385,261,0,392,275,0,397]).toArray
noncomputable def o247_6:=di [k P "__module__" 528 (.str "joinload.shelves" 504),k P "__qualname__" 530 (.str "Taking" 529),k P "__firstlineno__" 532 (.int 85 531),k P "__init__" 544 (.ref 258),k P "take_for_pieces" 554 (.ref 265),k P "take_for" 564 (.ref 272),k P "__static_attributes__" 571 (.ref 273)] 7
noncomputable def o249_6:Obj:=nf (nl [87,4,257,102,4,264,110,4,271]).toArray
noncomputable def o250_6:Obj:=co "Taking" "Taking" 523 85 0 0 248 false 249 .none 526
noncomputable def o251_6:Obj:=fm 250 247 (.str "joinload.shelves" 504)
noncomputable def o254_6:Obj:=tu #[.str "self" 536,.str "given" 537,.str "shelves" 538,.str "entry" 539,.str "on_shelves" 540,.str "least" 541]
noncomputable def o256_6:Obj:=ft (C 22 0) "__init__" "Taking.__init__"
noncomputable def o257_6:Obj:=cf "__init__" "Taking.__init__" 533 87 4 252 542
noncomputable def o258_6:Obj:=fo (C 22 0) "__init__" "Taking.__init__" "joinload.shelves" 504 257
noncomputable def o261_6:Obj:=tu #[.str "self" 548,.str "done" 549,.str "piece" 550,.str "name" 551]
noncomputable def o263_6:Obj:=ft (C 22 1) "take_for_pieces" "Taking.take_for_pieces"
noncomputable def o264_6:Obj:=cf "take_for_pieces" "Taking.take_for_pieces" 545 102 1 259 552
noncomputable def o265_6:Obj:=fo (C 22 1) "take_for_pieces" "Taking.take_for_pieces" "joinload.shelves" 504 264
noncomputable def o268_6:Obj:=tu #[.str "self" 558,.str "name" 559,.str "by" 560,.str "piece" 561]
noncomputable def o270_6:Obj:=ft (C 22 2) "take_for" "Taking.take_for"
noncomputable def o271_6:Obj:=cf "take_for" "Taking.take_for" 555 110 3 266 562
noncomputable def o272_6:Obj:=fo (C 22 2) "take_for" "Taking.take_for" "joinload.shelves" 504 271
noncomputable def o273_6:Obj:=tu #[.str "from_shelves" 565,.str "on_shelves" 566,.str "pieces" 567,.str "reasons" 568,.str "told_by_given" 569,.str "unmet" 570]
noncomputable def g274_6(P:Params):List DictEntry:=[k P "__module__" 528 (.str "joinload.shelves" 504),k P "__firstlineno__" 532 (.int 85 531),k P "__init__" 544 (.ref 258),k P "take_for_pieces" 554 (.ref 265),k P "take_for" 564 (.ref 272),k P "__static_attributes__" 571 (.ref 273),k P "__dict__" 573 (.ref 276),k P "__weakref__" 575 (.ref 277),k P "__doc__" 576 .none]
noncomputable def o274_6:Obj:=⟨(.type "dict"),none,.dict (g274_6 P).toArray 4,#[]⟩
noncomputable def o275_6:Obj:=cc "Taking" (.type "object") 275 [.type "object"] 274 [] none 521 529 "object.__new__"
noncomputable def o276_6:Obj:=⟨(.type "getset_descriptor"),none,(.fields #[.str "__dict__" 572,.ref 275,.builtin "function.__dict__",.builtin "function.__dict__#set"]),#[]⟩
noncomputable def o277_6:Obj:=⟨(.type "getset_descriptor"),none,(.fields #[.str "__weakref__" 574,.ref 275,.builtin "ExceptionGroup.__weakref__",.none]),#[]⟩
noncomputable def o282_6:Obj:=tu #[.str "shelves" 582,.str "pieces" 583,.str "shelf" 584]
noncomputable def o284_6:Obj:=ft (T 23) "pieces_on" "pieces_on"
noncomputable def o285_6:Obj:=cf "pieces_on" "pieces_on" 579 121 1 280 585
noncomputable def o286_6:Obj:=fo (T 23) "pieces_on" "pieces_on" "joinload.shelves" 504 285
noncomputable def o289_6:Obj:=tu #[.str "pieces" 591,.str "seen" 592,.str "again" 593,.str "piece" 594]
noncomputable def o291_6:Obj:=ft (T 24) "refuse_same_name" "refuse_same_name"
noncomputable def o292_6:Obj:=cf "refuse_same_name" "refuse_same_name" 588 126 1 287 595
noncomputable def o293_6:Obj:=fo (T 24) "refuse_same_name" "refuse_same_name" "joinload.shelves" 504 292
noncomputable def o296_6:Obj:=tu #[.str "pieces" 601,.str "first" 602,.str "piece" 603,.str "name" 604]
noncomputable def o298_6:Obj:=ft (T 25) "first_tellers" "first_tellers"
noncomputable def o299_6:Obj:=cf "first_tellers" "first_tellers" 598 135 1 294 605
noncomputable def o300_6:Obj:=fo (T 25) "first_tellers" "first_tellers" "joinload.shelves" 504 299
noncomputable def o303_6:Obj:=tu #[.str "_law_script" 613,.str "_law_k" 614]
noncomputable def o305_6:Obj:=ft (T 27) "_law_cell_at" "_law_cell_at"
noncomputable def o306_6:Obj:=cf "_law_cell_at" "_law_cell_at" 610 142 2 301 615
noncomputable def o307_6:Obj:=fo (T 27) "_law_cell_at" "_law_cell_at" "law_joinload_k22_not_taken" 608 306
noncomputable def o310_6:Obj:=tu #[.str "_law_cell" 621,.str "_law_k" 622,.str "_law_signs" 623,.str "_law_size" 624,.str "_law_at" 625,.str "_law_name" 626,.str "_law_j" 627,.str "_law_many" 628,.str "_law_place" 629]
noncomputable def o312_6:Obj:=ft (T 28) "_law_name_by" "_law_name_by"
noncomputable def o313_6:Obj:=cf "_law_name_by" "_law_name_by" 618 146 2 308 630
noncomputable def o314_6:Obj:=fo (T 28) "_law_name_by" "_law_name_by" "law_joinload_k22_not_taken" 608 313
noncomputable def o317_6:Obj:=tu #[.str "_law_cell" 636,.str "_law_names_by" 637,.str "_law_what" 638,.str "_law_rest_here" 639,.str "_law_soft" 640,.str "_law_add" 641,.str "_law_rule" 642]
noncomputable def o319_6:Obj:=ft (T 29) "_law_word_row" "_law_word_row"
noncomputable def o320_6:Obj:=cf "_law_word_row" "_law_word_row" 633 159 2 315 643
noncomputable def o321_6:Obj:=fo (T 29) "_law_word_row" "_law_word_row" "law_joinload_k22_not_taken" 608 320
noncomputable def o324_6:Obj:=ft (T 30) "_law_told_by" "_law_told_by"
noncomputable def o325_6:Obj:=co "_law_told_by" "_law_told_by" 646 170 4 3 322 true 323 (.ref 324) 649
noncomputable def o326_6:Obj:=fo (T 30) "_law_told_by" "_law_told_by" "law_joinload_k22_not_taken" 608 325
noncomputable def o329_6:Obj:=tu #[.str "_law_cells" 655,.str "_law_names_by" 656,.str "_law_titles_by" 657,.str "_law_strict" 658,.str "_law_pieces" 659,.str "_law_cell" 660,.str "_law_what" 661,.str "_law_step" 662,.str "_law_stretch" 663,.str "_law_more" 664]
noncomputable def o331_6:Obj:=ft (T 31) "_law_drawn" "_law_drawn"
noncomputable def o332_6:Obj:=cf "_law_drawn" "_law_drawn" 652 180 4 327 665
noncomputable def o333_6:Obj:=fo (T 31) "_law_drawn" "_law_drawn" "law_joinload_k22_not_taken" 608 332
noncomputable def o336_6:Obj:=ft (T 32) "_law_copy" "_law_copy"
noncomputable def o337_6:Obj:=co "_law_copy" "_law_copy" 668 198 1 3 334 true 335 (.ref 336) 671
noncomputable def o338_6:Obj:=fo (T 32) "_law_copy" "_law_copy" "law_joinload_k22_not_taken" 608 337
noncomputable def o341_6:Obj:=tu #[.str "_law_pieces" 677,.str "_law_cell" 678,.str "_law_some" 679,.str "_law_mix" 680,.str "_law_piece" 681]
noncomputable def o343_6:Obj:=ft (T 33) "_law_shelved" "_law_shelved"
noncomputable def o344_6:Obj:=cf "_law_shelved" "_law_shelved" 674 201 2 339 682
noncomputable def o345_6:Obj:=fo (T 33) "_law_shelved" "_law_shelved" "law_joinload_k22_not_taken" 608 344
noncomputable def o348_6:Obj:=tu #[.str "_law_names_by" 688,.str "_law_titles_by" 689,.str "_law_there" 690,.str "_law_told_here" 691,.str "_law_k" 692,.str "_law_name" 693]
noncomputable def o350_6:Obj:=ft (T 34) "_law_rest" "_law_rest"
noncomputable def o351_6:Obj:=cf "_law_rest" "_law_rest" 685 208 3 346 694
noncomputable def o352_6:Obj:=fo (T 34) "_law_rest" "_law_rest" "law_joinload_k22_not_taken" 608 351
noncomputable def o355_6:Obj:=ft (T 35) "_law_told" "_law_told"
noncomputable def o356_6:Obj:=co "_law_told" "_law_told" 697 215 1 3 353 true 354 (.ref 355) 700
noncomputable def o357_6:Obj:=fo (T 35) "_law_told" "_law_told" "law_joinload_k22_not_taken" 608 356
noncomputable def o360_6:Obj:=ft (T 36) "_law_wanted" "_law_wanted"
noncomputable def o361_6:Obj:=co "_law_wanted" "_law_wanted" 703 217 1 3 358 true 359 (.ref 360) 706
noncomputable def o362_6:Obj:=fo (T 36) "_law_wanted" "_law_wanted" "law_joinload_k22_not_taken" 608 361
noncomputable def o365_6:Obj:=tu #[.str "_law_some" 712,.str "_law_name" 713,.str "_law_shelf" 714,.str "_law_piece" 715]
noncomputable def o367_6:Obj:=ft (T 37) "_law_first" "_law_first"
noncomputable def o368_6:Obj:=cf "_law_first" "_law_first" 709 224 2 363 716
noncomputable def o369_6:Obj:=fo (T 37) "_law_first" "_law_first" "law_joinload_k22_not_taken" 608 368
noncomputable def o372_6:Obj:=ft (T 38) "_law_doubled" "_law_doubled"
noncomputable def o373_6:Obj:=co "_law_doubled" "_law_doubled" 719 230 1 3 370 true 371 (.ref 372) 722
noncomputable def o374_6:Obj:=fo (T 38) "_law_doubled" "_law_doubled" "law_joinload_k22_not_taken" 608 373
noncomputable def o377_6:Obj:=ft (T 39) "_law_unmet" "_law_unmet"
noncomputable def o378_6:Obj:=co "_law_unmet" "_law_unmet" 725 238 2 3 375 true 376 (.ref 377) 728
noncomputable def o379_6:Obj:=fo (T 39) "_law_unmet" "_law_unmet" "law_joinload_k22_not_taken" 608 378
noncomputable def o382_6:Obj:=tu #[.str "_law_kept" 734,.str "_law_some" 735]
noncomputable def o384_6:Obj:=ft (T 40) "_law_alone" "_law_alone"
noncomputable def o385_6:Obj:=cf "_law_alone" "_law_alone" 731 256 1 380 736
noncomputable def o386_6:Obj:=fo (T 40) "_law_alone" "_law_alone" "law_joinload_k22_not_taken" 608 385
noncomputable def o389_6:Obj:=tu #[.str "_law_answer" 742,.str "_law_kept" 743,.str "_law_some" 744,.str "_law_entry" 745,.str "_law_title" 746,.str "_law_due" 747]
noncomputable def o391_6:Obj:=ft (T 41) "_law_right" "_law_right"
noncomputable def o392_6:Obj:=cf "_law_right" "_law_right" 739 261 4 387 748
noncomputable def o393_6:Obj:=fo (T 41) "_law_right" "_law_right" "law_joinload_k22_not_taken" 608 392
noncomputable def o396_6:Obj:=ft (T 42) "_law_holds" "_law_holds"
noncomputable def o397_6:Obj:=co "_law_holds" "_law_holds" 751 275 2 3 394 true 395 (.ref 396) 754
noncomputable def o398_6:Obj:=fo (T 42) "_law_holds" "_law_holds" "law_joinload_k22_not_taken" 608 397
noncomputable def d5_0(P:Params)(r:List (Nat×Obj)):List (Nat×Obj):=(3,o3_6 P)::(12,o12_6)::(245,e1)::(246,bp)::(247,o247_6 P)::(248,e1)::(249,o249_6)::(250,o250_6)::(251,o251_6)::(252,e1)::(253,e2)::(254,o254_6)::(255,e1)::(256,o256_6)::(257,o257_6)::(258,o258_6)::(259,e1)::(260,e2)::(261,o261_6)::(262,e1)::(263,o263_6)::(264,o264_6)::(265,o265_6)::(266,e1)::r
noncomputable def d5_1(P:Params)(r:List (Nat×Obj)):List (Nat×Obj):=(267,e2)::(268,o268_6)::(269,e1)::(270,o270_6)::(271,o271_6)::(272,o272_6)::(273,o273_6)::(274,o274_6 P)::(275,o275_6)::(276,o276_6)::(277,o277_6)::(278,su 275)::(279,bs 275)::(280,e1)::(281,e2)::(282,o282_6)::(283,e1)::(284,o284_6)::(285,o285_6)::(286,o286_6)::(287,e1)::(288,e2)::(289,o289_6)::(290,e1)::r
noncomputable def d5_2(P:Params)(r:List (Nat×Obj)):List (Nat×Obj):=(291,o291_6)::(292,o292_6)::(293,o293_6)::(294,e1)::(295,e2)::(296,o296_6)::(297,e1)::(298,o298_6)::(299,o299_6)::(300,o300_6)::(301,e1)::(302,e2)::(303,o303_6)::(304,e1)::(305,o305_6)::(306,o306_6)::(307,o307_6)::(308,e1)::(309,e2)::(310,o310_6)::(311,e1)::(312,o312_6)::(313,o313_6)::(314,o314_6)::r
noncomputable def d5_3(P:Params)(r:List (Nat×Obj)):List (Nat×Obj):=(315,e1)::(316,e2)::(317,o317_6)::(318,e1)::(319,o319_6)::(320,o320_6)::(321,o321_6)::(322,e1)::(323,e2)::(324,o324_6)::(325,o325_6)::(326,o326_6)::(327,e1)::(328,e2)::(329,o329_6)::(330,e1)::(331,o331_6)::(332,o332_6)::(333,o333_6)::(334,e1)::(335,e2)::(336,o336_6)::(337,o337_6)::(338,o338_6)::r
noncomputable def d5_4(P:Params)(r:List (Nat×Obj)):List (Nat×Obj):=(339,e1)::(340,e2)::(341,o341_6)::(342,e1)::(343,o343_6)::(344,o344_6)::(345,o345_6)::(346,e1)::(347,e2)::(348,o348_6)::(349,e1)::(350,o350_6)::(351,o351_6)::(352,o352_6)::(353,e1)::(354,e2)::(355,o355_6)::(356,o356_6)::(357,o357_6)::(358,e1)::(359,e2)::(360,o360_6)::(361,o361_6)::(362,o362_6)::r
noncomputable def d5_5(P:Params)(r:List (Nat×Obj)):List (Nat×Obj):=(363,e1)::(364,e2)::(365,o365_6)::(366,e1)::(367,o367_6)::(368,o368_6)::(369,o369_6)::(370,e1)::(371,e2)::(372,o372_6)::(373,o373_6)::(374,o374_6)::(375,e1)::(376,e2)::(377,o377_6)::(378,o378_6)::(379,o379_6)::(380,e1)::(381,e2)::(382,o382_6)::(383,e1)::(384,o384_6)::(385,o385_6)::(386,o386_6)::r
noncomputable def d5_6(P:Params)(r:List (Nat×Obj)):List (Nat×Obj):=(387,e1)::(388,e2)::(389,o389_6)::(390,e1)::(391,o391_6)::(392,o392_6)::(393,o393_6)::(394,e1)::(395,e2)::(396,o396_6)::(397,o397_6)::(398,o398_6)::r
noncomputable def T5(P:Params):BT:=mg 14 (T4 P) (d5_0 P (d5_1 P (d5_2 P (d5_3 P (d5_4 P (d5_5 P (d5_6 P ([]))))))))
noncomputable def S5T(w:World):OsState->SharedT:=sT (T5 w.params) 399 757
noncomputable def L4:List Stmt:=T 22::T 23::T 24::T 25::T 26::T 27::T 28::T 29::T 30::T 31::T 32::T 33::T 34::T 35::T 36::T 37::T 38::T 39::T 40::T 41::T 42::[]
def P4(w:World):Prop:=sR w 889 S4T S5T L4 ⟨83,0,84,48⟩ ⟨275,0,291,97⟩
noncomputable def g3_7(P:Params):List DictEntry:=g3_6 P++[k P "_law_spoiled" 762 (.ref 403),k P "law" 768 (.ref 408)]
noncomputable def o3_7:Obj:=⟨(.type "dict"),none,.dict (g3_7 P).toArray 49,#[]⟩
noncomputable def o12_7:Obj:=nf (nl [2,0,20,4,0,33,6,0,45,11,0,64,18,0,83,23,0,102,29,0,121,37,0,140,42,0,159,47,0,178,52,0,197,55,0,207,57,0,214,65,0,221,72,0,226,76,0,231,79,0,236,83,0,243,85,0,250,121,0,285,126,0,292,135,0,299,142,0,306,146,0,313,159,0,320,170,0,325,180,0,332,198,0,337,201,0,344,208,0,351,215,0,356,217,0,361,224,0,368,230,0,373,238,0,378,256,0,385,261,0,392,275,0,397,292,0,402,302,0,407]).toArray
noncomputable def o401_7:Obj:=ft (T 43) "_law_spoiled" "_law_spoiled"
noncomputable def o402_7:Obj:=co "_law_spoiled" "_law_spoiled" 757 292 2 3 399 true 400 (.ref 401) 760
noncomputable def o403_7:Obj:=fo (T 43) "_law_spoiled" "_law_spoiled" "law_joinload_k22_not_taken" 608 402
noncomputable def o406_7:Obj:=ft (T 44) "law" "law"
noncomputable def o407_7:Obj:=co "law" "law" 763 302 1 3 404 true 405 (.ref 406) 766
noncomputable def o408_7:Obj:=fo (T 44) "law" "law" "law_joinload_k22_not_taken" 608 407
noncomputable def d6_0(P:Params)(r:List (Nat×Obj)):List (Nat×Obj):=(3,o3_7 P)::(12,o12_7)::(399,e1)::(400,e2)::(401,o401_7)::(402,o402_7)::(403,o403_7)::(404,e1)::(405,e2)::(406,o406_7)::(407,o407_7)::(408,o408_7)::r
noncomputable def T6(P:Params):BT:=mg 14 (T5 P) (d6_0 P ([]))
noncomputable def S6T(w:World):OsState->SharedT:=sT (T6 w.params) 409 769
noncomputable def L5:List Stmt:=T 43::T 44::[]
def P5(w:World):Prop:=sR w 53 S5T S6T L5 ⟨275,0,291,97⟩ ⟨302,0,317,81⟩
noncomputable def h_0(P:Params)(r:List Obj):List Obj:=boot_o_0 P::boot_o_1 P::boot_o_2 P::o3_7 P::boot_o_4 P::boot_o_5 P::boot_o_6 P::boot_o_7 P::boot_o_8 P::boot_o_9 P::boot_o_10 P::e1::o12_7::o13_0::o14_0::tu #[.type "ValueError"]::bp::o17_2 P::e1::e2::o20_2::o21_2::e1::o23_2 P::r
noncomputable def h_1(P:Params)(r:List Obj):List Obj:=o24_5::o25_2::su 24::bs 24::tu #[.ref 24]::bp::o30_2 P::e1::e2::o33_2::o34_2::e1::o36_2 P::o37_2::su 37::bs 37::tu #[.ref 24]::bp::o42_2 P::e1::o44_2::o45_2::o46_2::e1::r
noncomputable def h_2(P:Params)(r:List Obj):List Obj:=e2::o49_2::e1::o51_2::o52_2::o53_2::o54_2::o55_2 P::o56_2::su 56::bs 56::tu #[.ref 24]::bp::o61_3 P::e1::o63_3::o64_3::o65_3::e1::e2::o68_3::e1::o70_3::o71_3::r
noncomputable def h_3(P:Params)(r:List Obj):List Obj:=o72_3::o73_3::o74_3 P::o75_3::su 75::bs 75::tu #[.ref 24]::bp::o80_3 P::e1::o82_3::o83_3::o84_3::e1::e2::o87_3::e1::o89_3::o90_3::o91_3::o92_3::o93_3 P::o94_3::su 94::r
noncomputable def h_4(P:Params)(r:List Obj):List Obj:=bs 94::tu #[.ref 24]::bp::o99_3 P::e1::o101_3::o102_3::o103_3::e1::e2::o106_3::e1::o108_3::o109_3::o110_3::o111_3::o112_3 P::o113_3::su 113::bs 113::tu #[.ref 24]::bp::o118_4 P::e1::r
noncomputable def h_5(P:Params)(r:List Obj):List Obj:=o120_4::o121_4::o122_4::e1::e2::o125_4::e1::o127_4::o128_4::o129_4::o130_4::o131_4 P::o132_4::su 132::bs 132::tu #[.ref 24]::bp::o137_4 P::e1::o139_4::o140_4::o141_4::e1::e2::r
noncomputable def h_6(P:Params)(r:List Obj):List Obj:=o144_4::e1::o146_4::o147_4::o148_4::o149_4::o150_4 P::o151_4::su 151::bs 151::tu #[.ref 24]::bp::o156_4 P::e1::o158_4::o159_4::o160_4::e1::e2::o163_4::e1::o165_4::o166_4::o167_4::r
noncomputable def h_7(P:Params)(r:List Obj):List Obj:=o168_4::o169_4 P::o170_4::su 170::bs 170::tu #[.ref 24]::bp::o175_5 P::e1::o177_5::o178_5::o179_5::e1::e2::o182_5::e1::o184_5::o185_5::o186_5::o187_5::o188_5 P::o189_5::su 189::bs 189::r
noncomputable def h_8(P:Params)(r:List Obj):List Obj:=tu #[.ref 24]::bp::o194_5 P::e1::e2::o197_5::o198_5::e1::o200_5 P::o201_5::su 201::bs 201::e1::e2::o206_5::o207_5::o208_5::e1::e2::o211_5::e1::o213_5::o214_5::o215_5::r
noncomputable def h_9(P:Params)(r:List Obj):List Obj:=e1::e2::o218_5::e1::o220_5::o221_5::o222_5::e1::e2::o225_5::o226_5::o227_5::e1::e2::o230_5::o231_5::o232_5::e1::e2::o235_5::o236_5::o237_5::e1::e2::r
noncomputable def h_10(P:Params)(r:List Obj):List Obj:=o240_5::e1::o242_5::o243_5::o244_5::e1::bp::o247_6 P::e1::o249_6::o250_6::o251_6::e1::e2::o254_6::e1::o256_6::o257_6::o258_6::e1::e2::o261_6::e1::o263_6::r
noncomputable def h_11(P:Params)(r:List Obj):List Obj:=o264_6::o265_6::e1::e2::o268_6::e1::o270_6::o271_6::o272_6::o273_6::o274_6 P::o275_6::o276_6::o277_6::su 275::bs 275::e1::e2::o282_6::e1::o284_6::o285_6::o286_6::e1::r
noncomputable def h_12(P:Params)(r:List Obj):List Obj:=e2::o289_6::e1::o291_6::o292_6::o293_6::e1::e2::o296_6::e1::o298_6::o299_6::o300_6::e1::e2::o303_6::e1::o305_6::o306_6::o307_6::e1::e2::o310_6::e1::r
noncomputable def h_13(P:Params)(r:List Obj):List Obj:=o312_6::o313_6::o314_6::e1::e2::o317_6::e1::o319_6::o320_6::o321_6::e1::e2::o324_6::o325_6::o326_6::e1::e2::o329_6::e1::o331_6::o332_6::o333_6::e1::e2::r
noncomputable def h_14(P:Params)(r:List Obj):List Obj:=o336_6::o337_6::o338_6::e1::e2::o341_6::e1::o343_6::o344_6::o345_6::e1::e2::o348_6::e1::o350_6::o351_6::o352_6::e1::e2::o355_6::o356_6::o357_6::e1::e2::r
noncomputable def h_15(P:Params)(r:List Obj):List Obj:=o360_6::o361_6::o362_6::e1::e2::o365_6::e1::o367_6::o368_6::o369_6::e1::e2::o372_6::o373_6::o374_6::e1::e2::o377_6::o378_6::o379_6::e1::e2::o382_6::e1::r
noncomputable def h_16(P:Params)(r:List Obj):List Obj:=o384_6::o385_6::o386_6::e1::e2::o389_6::e1::o391_6::o392_6::o393_6::e1::e2::o396_6::o397_6::o398_6::e1::e2::o401_7::o402_7::o403_7::e1::e2::o406_7::o407_7::r
noncomputable def h_17(P:Params)(r:List Obj):List Obj:=o408_7::r
noncomputable def Hf(P:Params):Heap:=⟨⟨h_0 P (h_1 P (h_2 P (h_3 P (h_4 P (h_5 P (h_6 P (h_7 P (h_8 P (h_9 P (h_10 P (h_11 P (h_12 P (h_13 P (h_14 P (h_15 P (h_16 P (h_17 P ([]))))))))))))))))))⟩,li⟩
noncomputable def Sf(w:World)(os:OsState):Shared:=⟨Hf w.params,⟨[]⟩,boot_drawn,769,os⟩
def Fin(w:World):Prop:=(λos=>topRun treeTable pw w 11 an 2 (S6T w os).abs ⟨doneF .next,cE,⟨302,0,317,81⟩,B⟩)=λos=>some (Sf w os)
noncomputable def q:Program:={ pw with main:={ pw.main with body:=T 1::T 2::T 3::T 4::T 5::T 6::T 7::T 8::T 9::T 10::T 11::T 13::T 14::T 15::T 17::T 18::T 20::T 21::T 22::T 23::T 24::T 25::T 27::T 28::T 29::T 30::T 31::T 32::T 33::T 34::T 35::T 36::T 37::T 38::T 39::T 40::T 41::T 42::T 43::T 44::[] } }
noncomputable def f_0(P:Params)(r:List (Nat×Obj)):List (Nat×Obj):=(2,boot_o_2 P)::(3,o3_7 P)::(4,boot_o_4 P)::(15,tu #[.type "ValueError"])::(22,e1)::(23,o23_2 P)::(24,o24_5)::(25,o25_2)::(28,tu #[.ref 24])::(35,e1)::(36,o36_2 P)::(37,o37_2)::(40,tu #[.ref 24])::(47,e1)::(49,o49_2)::(50,e1)::(52,o52_2)::(53,o53_2)::(54,o54_2)::(55,o55_2 P)::(56,o56_2)::(59,tu #[.ref 24])::(66,e1)::(68,o68_3)::r
noncomputable def f_1(P:Params)(r:List (Nat×Obj)):List (Nat×Obj):=(69,e1)::(71,o71_3)::(72,o72_3)::(73,o73_3)::(74,o74_3 P)::(75,o75_3)::(78,tu #[.ref 24])::(85,e1)::(87,o87_3)::(88,e1)::(90,o90_3)::(91,o91_3)::(92,o92_3)::(93,o93_3 P)::(94,o94_3)::(97,tu #[.ref 24])::(104,e1)::(106,o106_3)::(107,e1)::(109,o109_3)::(110,o110_3)::(111,o111_3)::(112,o112_3 P)::(113,o113_3)::r
noncomputable def f_2(P:Params)(r:List (Nat×Obj)):List (Nat×Obj):=(116,tu #[.ref 24])::(123,e1)::(125,o125_4)::(126,e1)::(128,o128_4)::(129,o129_4)::(130,o130_4)::(131,o131_4 P)::(132,o132_4)::(135,tu #[.ref 24])::(142,e1)::(144,o144_4)::(145,e1)::(147,o147_4)::(148,o148_4)::(149,o149_4)::(150,o150_4 P)::(151,o151_4)::(154,tu #[.ref 24])::(161,e1)::(163,o163_4)::(164,e1)::(166,o166_4)::(167,o167_4)::r
noncomputable def f_3(P:Params)(r:List (Nat×Obj)):List (Nat×Obj):=(168,o168_4)::(169,o169_4 P)::(170,o170_4)::(173,tu #[.ref 24])::(180,e1)::(182,o182_5)::(183,e1)::(185,o185_5)::(186,o186_5)::(187,o187_5)::(188,o188_5 P)::(189,o189_5)::(192,tu #[.ref 24])::(199,e1)::(200,o200_5 P)::(201,o201_5)::(204,e1)::(207,o207_5)::(208,o208_5)::(209,e1)::(211,o211_5)::(212,e1)::(214,o214_5)::(215,o215_5)::r
noncomputable def f_4(P:Params)(r:List (Nat×Obj)):List (Nat×Obj):=(216,e1)::(218,o218_5)::(219,e1)::(221,o221_5)::(222,o222_5)::(223,e1)::(226,o226_5)::(227,o227_5)::(228,e1)::(231,o231_5)::(232,o232_5)::(233,e1)::(236,o236_5)::(237,o237_5)::(238,e1)::(240,o240_5)::(241,e1)::(243,o243_5)::(244,o244_5)::(252,e1)::(254,o254_6)::(255,e1)::(257,o257_6)::(258,o258_6)::r
noncomputable def f_5(P:Params)(r:List (Nat×Obj)):List (Nat×Obj):=(259,e1)::(261,o261_6)::(262,e1)::(264,o264_6)::(265,o265_6)::(266,e1)::(268,o268_6)::(269,e1)::(271,o271_6)::(272,o272_6)::(273,o273_6)::(274,o274_6 P)::(275,o275_6)::(276,o276_6)::(277,o277_6)::(280,e1)::(282,o282_6)::(283,e1)::(285,o285_6)::(286,o286_6)::(287,e1)::(289,o289_6)::(290,e1)::(292,o292_6)::r
noncomputable def f_6(P:Params)(r:List (Nat×Obj)):List (Nat×Obj):=(293,o293_6)::(294,e1)::(296,o296_6)::(297,e1)::(299,o299_6)::(300,o300_6)::(301,e1)::(303,o303_6)::(304,e1)::(306,o306_6)::(307,o307_6)::(308,e1)::(310,o310_6)::(311,e1)::(313,o313_6)::(314,o314_6)::(315,e1)::(317,o317_6)::(318,e1)::(320,o320_6)::(321,o321_6)::(322,e1)::(325,o325_6)::(326,o326_6)::r
noncomputable def f_7(P:Params)(r:List (Nat×Obj)):List (Nat×Obj):=(327,e1)::(329,o329_6)::(330,e1)::(332,o332_6)::(333,o333_6)::(334,e1)::(337,o337_6)::(338,o338_6)::(339,e1)::(341,o341_6)::(342,e1)::(344,o344_6)::(345,o345_6)::(346,e1)::(348,o348_6)::(349,e1)::(351,o351_6)::(352,o352_6)::(353,e1)::(356,o356_6)::(357,o357_6)::(358,e1)::(361,o361_6)::(362,o362_6)::r
noncomputable def f_8(P:Params)(r:List (Nat×Obj)):List (Nat×Obj):=(363,e1)::(365,o365_6)::(366,e1)::(368,o368_6)::(369,o369_6)::(370,e1)::(373,o373_6)::(374,o374_6)::(375,e1)::(378,o378_6)::(379,o379_6)::(380,e1)::(382,o382_6)::(383,e1)::(385,o385_6)::(386,o386_6)::(387,e1)::(389,o389_6)::(390,e1)::(392,o392_6)::(393,o393_6)::(394,e1)::(397,o397_6)::(398,o398_6)::r
noncomputable def f_9(P:Params)(r:List (Nat×Obj)):List (Nat×Obj):=(399,e1)::(402,o402_7)::(403,o403_7)::(404,e1)::(407,o407_7)::(408,o408_7)::r
noncomputable def K2(P:Params):Frag:=f_0 P (f_1 P (f_2 P (f_3 P (f_4 P (f_5 P (f_6 P (f_7 P (f_8 P (f_9 P ([]))))))))))
noncomputable def as:List Addr:=nat_lit 2::nat_lit 3::nat_lit 4::nat_lit 15::nat_lit 22::nat_lit 23::nat_lit 24::nat_lit 25::nat_lit 28::nat_lit 35::nat_lit 36::nat_lit 37::nat_lit 40::nat_lit 47::nat_lit 49::nat_lit 50::nat_lit 52::nat_lit 53::nat_lit 54::nat_lit 55::nat_lit 56::nat_lit 59::nat_lit 66::nat_lit 68::nat_lit 69::nat_lit 71::nat_lit 72::nat_lit 73::nat_lit 74::nat_lit 75::nat_lit 78::nat_lit 85::nat_lit 87::nat_lit 88::nat_lit 90::nat_lit 91::nat_lit 92::nat_lit 93::nat_lit 94::nat_lit 97::nat_lit 104::nat_lit 106::nat_lit 107::nat_lit 109::nat_lit 110::nat_lit 111::nat_lit 112::nat_lit 113::nat_lit 116::nat_lit 123::nat_lit 125::nat_lit 126::nat_lit 128::nat_lit 129::nat_lit 130::nat_lit 131::nat_lit 132::nat_lit 135::nat_lit 142::nat_lit 144::nat_lit 145::nat_lit 147::nat_lit 148::nat_lit 149::nat_lit 150::nat_lit 151::nat_lit 154::nat_lit 161::nat_lit 163::nat_lit 164::nat_lit 166::nat_lit 167::nat_lit 168::nat_lit 169::nat_lit 170::nat_lit 173::nat_lit 180::nat_lit 182::nat_lit 183::nat_lit 185::nat_lit 186::nat_lit 187::nat_lit 188::nat_lit 189::nat_lit 192::nat_lit 199::nat_lit 200::nat_lit 201::nat_lit 204::nat_lit 207::nat_lit 208::nat_lit 209::nat_lit 211::nat_lit 212::nat_lit 214::nat_lit 215::nat_lit 216::nat_lit 218::nat_lit 219::nat_lit 221::nat_lit 222::nat_lit 223::nat_lit 226::nat_lit 227::nat_lit 228::nat_lit 231::nat_lit 232::nat_lit 233::nat_lit 236::nat_lit 237::nat_lit 238::nat_lit 240::nat_lit 241::nat_lit 243::nat_lit 244::nat_lit 252::nat_lit 254::nat_lit 255::nat_lit 257::nat_lit 258::nat_lit 259::nat_lit 261::nat_lit 262::nat_lit 264::nat_lit 265::nat_lit 266::nat_lit 268::nat_lit 269::nat_lit 271::nat_lit 272::nat_lit 273::nat_lit 274::nat_lit 275::nat_lit 276::nat_lit 277::nat_lit 280::nat_lit 282::nat_lit 283::nat_lit 285::nat_lit 286::nat_lit 287::nat_lit 289::nat_lit 290::nat_lit 292::nat_lit 293::nat_lit 294::nat_lit 296::nat_lit 297::nat_lit 299::nat_lit 300::nat_lit 301::nat_lit 303::nat_lit 304::nat_lit 306::nat_lit 307::nat_lit 308::nat_lit 310::nat_lit 311::nat_lit 313::nat_lit 314::nat_lit 315::nat_lit 317::nat_lit 318::nat_lit 320::nat_lit 321::nat_lit 322::nat_lit 325::nat_lit 326::nat_lit 327::nat_lit 329::nat_lit 330::nat_lit 332::nat_lit 333::nat_lit 334::nat_lit 337::nat_lit 338::nat_lit 339::nat_lit 341::nat_lit 342::nat_lit 344::nat_lit 345::nat_lit 346::nat_lit 348::nat_lit 349::nat_lit 351::nat_lit 352::nat_lit 353::nat_lit 356::nat_lit 357::nat_lit 358::nat_lit 361::nat_lit 362::nat_lit 363::nat_lit 365::nat_lit 366::nat_lit 368::nat_lit 369::nat_lit 370::nat_lit 373::nat_lit 374::nat_lit 375::nat_lit 378::nat_lit 379::nat_lit 380::nat_lit 382::nat_lit 383::nat_lit 385::nat_lit 386::nat_lit 387::nat_lit 389::nat_lit 390::nat_lit 392::nat_lit 393::nat_lit 394::nat_lit 397::nat_lit 398::nat_lit 399::nat_lit 402::nat_lit 403::nat_lit 404::nat_lit 407::nat_lit 408::[]
noncomputable abbrev R:WRecords:=Pr.r
noncomputable abbrev Xt(s:Shared):Bool:=xlAt q [] s&&recOk R s
def Size(w:World):Prop:=((boot_heap w.params).isNs mainGlobals&&(⟨[]⟩:Array GenState).size == 0,(boot_heap w.params).objs.size,(boot_heap w.params).nsMap mainGlobals "__annotations__")=(true,11,an)
def LA(w:World):Prop:=(λos=>staticsOk (importedModules pw.main.body) (boot_heap w.params) (Hf w.params)&&namesBound pw (Hf w.params)&&gensDone (Sf w os)&&laidKept (boot_heap w.params) (Hf w.params))=λ_=>true
def Ls1(w:World):Prop:=(λos=>seen ((recsOf q).map (·.name)) (ownsOf q) [] { Sf w os with gens:=#[] })=λ_=>expectedOf q
def Ls2(w:World):Prop:=(λos=>(Sf w os).heap.bltView)=λ_=>bltViewBooted
def Ls3(w:World):Prop:=(λos=>(Sf w os).heap.keysOk (looseW q []) ((recsOf q).map (·.name)) ((litsOf q).map (·.1)) ((clssOf q (looseW q [])).map (·.name))&&(Sf w os).heap.accountedOkI (importedModules pw.main.body)&&(Sf w os).heap.isNs mainGlobals&&(Sf w os).heap.isNs builtinsNs&&tablesOk q (Sf w os).heap&&Xt (Sf w os)&&(if true then (Sf w os).gens.size == 0 else !leftWithCleanup (Sf w os).gens))=λ_=>true
def Ls4(w:World):Prop:=(λos=>tabsOk q (Sf w os))=λ_=>true
def Ls5(w:World):Prop:=(λos=>pinSeenD q (drecsOf q) (Sf w os))=λ_=>pinGoodD (drecsOf q)
def Ls6(w:World):Prop:=(λos=>plainSeenE q (looseW q []) (Sf w os))=λ_=>plainGoodE q (looseW q [])
def Ls7(w:World):Prop:=(λos=>plainSeenD q [] (Sf w os))=λ_=>plainGoodD q []
def Ls8(w:World):Prop:=(λos=>wideSeen q (Sf w os))=λ_=>wideGood q
def Ls9(w:World):Prop:=(λos=>clsSeenW q [] (Sf w os))=λ_=>clsGoodW q []
def Yk(w:World):Prop:=(λos=>as.map (Sf w os).heap.get?)=λ_=>(K2 w.params).map λp=>some p.2
end
theorem Pre_r:@Pre=@Pre:=rfl
theorem Blk_r:@Blk=@Blk:=rfl
theorem P0_r:@P0=@P0:=rfl
theorem P1_r:@P1=@P1:=rfl
theorem P2_r:@P2=@P2:=rfl
theorem P3_r:@P3=@P3:=rfl
theorem P4_r:@P4=@P4:=rfl
theorem P5_r:@P5=@P5:=rfl
theorem Fin_r:@Fin=@Fin:=rfl
theorem Size_r:Size=Size:=rfl
theorem LA_r:@LA=@LA:=rfl
theorem Ls1_r:@Ls1=@Ls1:=rfl
theorem Ls2_r:@Ls2=@Ls2:=rfl
theorem Ls3_r:@Ls3=@Ls3:=rfl
theorem Ls4_r:@Ls4=@Ls4:=rfl
theorem Ls5_r:@Ls5=@Ls5:=rfl
theorem Ls6_r:@Ls6=@Ls6:=rfl
theorem Ls7_r:@Ls7=@Ls7:=rfl
theorem Ls8_r:@Ls8=@Ls8:=rfl
theorem Ls9_r:@Ls9=@Ls9:=rfl
theorem Yk_r:@Yk=@Yk:=rfl
end Hd
name_quick hdPre for Hd.Pre by Hd.Pre_r
name_quick hdBlk for Hd.Blk by Hd.Blk_r
name_quick hdP0 for Hd.P0 by Hd.P0_r
name_quick hdP1 for Hd.P1 by Hd.P1_r
name_quick hdP2 for Hd.P2 by Hd.P2_r
name_quick hdP3 for Hd.P3 by Hd.P3_r
name_quick hdP4 for Hd.P4 by Hd.P4_r
name_quick hdP5 for Hd.P5 by Hd.P5_r
name_quick hdFin for Hd.Fin by Hd.Fin_r
name_quick hdSize for Hd.Size by Hd.Size_r
name_quick hdLA for Hd.LA by Hd.LA_r
name_quick hdLs1 for Hd.Ls1 by Hd.Ls1_r
name_quick hdLs2 for Hd.Ls2 by Hd.Ls2_r
name_quick hdLs3 for Hd.Ls3 by Hd.Ls3_r
name_quick hdLs4 for Hd.Ls4 by Hd.Ls4_r
name_quick hdLs5 for Hd.Ls5 by Hd.Ls5_r
name_quick hdLs6 for Hd.Ls6 by Hd.Ls6_r
name_quick hdLs7 for Hd.Ls7 by Hd.Ls7_r
name_quick hdLs8 for Hd.Ls8 by Hd.Ls8_r
name_quick hdLs9 for Hd.Ls9 by Hd.Ls9_r
name_quick hdYk for Hd.Yk by Hd.Yk_r
namespace Hd
open PySem PySem.W PySem.Calls PyProof.Rows
noncomputable instance ip:Pr:=⟨PySem.Challenge.pw_joinload_k22_not_taken,RowW.records (OpenRow.toRowW (OpenLaw.row PySem.Challenge.rw_joinload_k22_not_taken))⟩
noncomputable def K(P:Params):Frag:=(nat_lit 2,boot_o_2 P)::(nat_lit 3,o3_7 P)::(nat_lit 4,boot_o_4 P)::(nat_lit 15,tu #[(.type "ValueError")])::(nat_lit 22,e1)::(nat_lit 23,o23_2 P)::(nat_lit 24,o24_5)::(nat_lit 25,o25_2)::(nat_lit 28,tu #[(.ref 24)])::(nat_lit 35,e1)::(nat_lit 36,o36_2 P)::(nat_lit 37,o37_2)::(nat_lit 40,tu #[(.ref 24)])::(nat_lit 47,e1)::(nat_lit 49,o49_2)::(nat_lit 50,e1)::(nat_lit 52,o52_2)::(nat_lit 53,o53_2)::(nat_lit 54,o54_2)::(nat_lit 55,o55_2 P)::(nat_lit 56,o56_2)::(nat_lit 59,tu #[(.ref 24)])::(nat_lit 66,e1)::(nat_lit 68,o68_3)::(nat_lit 69,e1)::(nat_lit 71,o71_3)::(nat_lit 72,o72_3)::(nat_lit 73,o73_3)::(nat_lit 74,o74_3 P)::(nat_lit 75,o75_3)::(nat_lit 78,tu #[(.ref 24)])::(nat_lit 85,e1)::(nat_lit 87,o87_3)::(nat_lit 88,e1)::(nat_lit 90,o90_3)::(nat_lit 91,o91_3)::(nat_lit 92,o92_3)::(nat_lit 93,o93_3 P)::(nat_lit 94,o94_3)::(nat_lit 97,tu #[(.ref 24)])::(nat_lit 104,e1)::(nat_lit 106,o106_3)::(nat_lit 107,e1)::(nat_lit 109,o109_3)::(nat_lit 110,o110_3)::(nat_lit 111,o111_3)::(nat_lit 112,o112_3 P)::(nat_lit 113,o113_3)::(nat_lit 116,tu #[(.ref 24)])::(nat_lit 123,e1)::(nat_lit 125,o125_4)::(nat_lit 126,e1)::(nat_lit 128,o128_4)::(nat_lit 129,o129_4)::(nat_lit 130,o130_4)::(nat_lit 131,o131_4 P)::(nat_lit 132,o132_4)::(nat_lit 135,tu #[(.ref 24)])::(nat_lit 142,e1)::(nat_lit 144,o144_4)::(nat_lit 145,e1)::(nat_lit 147,o147_4)::(nat_lit 148,o148_4)::(nat_lit 149,o149_4)::(nat_lit 150,o150_4 P)::(nat_lit 151,o151_4)::(nat_lit 154,tu #[(.ref 24)])::(nat_lit 161,e1)::(nat_lit 163,o163_4)::(nat_lit 164,e1)::(nat_lit 166,o166_4)::(nat_lit 167,o167_4)::(nat_lit 168,o168_4)::(nat_lit 169,o169_4 P)::(nat_lit 170,o170_4)::(nat_lit 173,tu #[(.ref 24)])::(nat_lit 180,e1)::(nat_lit 182,o182_5)::(nat_lit 183,e1)::(nat_lit 185,o185_5)::(nat_lit 186,o186_5)::(nat_lit 187,o187_5)::(nat_lit 188,o188_5 P)::(nat_lit 189,o189_5)::(nat_lit 192,tu #[(.ref 24)])::(nat_lit 199,e1)::(nat_lit 200,o200_5 P)::(nat_lit 201,o201_5)::(nat_lit 204,e1)::(nat_lit 207,o207_5)::(nat_lit 208,o208_5)::(nat_lit 209,e1)::(nat_lit 211,o211_5)::(nat_lit 212,e1)::(nat_lit 214,o214_5)::(nat_lit 215,o215_5)::(nat_lit 216,e1)::(nat_lit 218,o218_5)::(nat_lit 219,e1)::(nat_lit 221,o221_5)::(nat_lit 222,o222_5)::(nat_lit 223,e1)::(nat_lit 226,o226_5)::(nat_lit 227,o227_5)::(nat_lit 228,e1)::(nat_lit 231,o231_5)::(nat_lit 232,o232_5)::(nat_lit 233,e1)::(nat_lit 236,o236_5)::(nat_lit 237,o237_5)::(nat_lit 238,e1)::(nat_lit 240,o240_5)::(nat_lit 241,e1)::(nat_lit 243,o243_5)::(nat_lit 244,o244_5)::(nat_lit 252,e1)::(nat_lit 254,o254_6)::(nat_lit 255,e1)::(nat_lit 257,o257_6)::(nat_lit 258,o258_6)::(nat_lit 259,e1)::(nat_lit 261,o261_6)::(nat_lit 262,e1)::(nat_lit 264,o264_6)::(nat_lit 265,o265_6)::(nat_lit 266,e1)::(nat_lit 268,o268_6)::(nat_lit 269,e1)::(nat_lit 271,o271_6)::(nat_lit 272,o272_6)::(nat_lit 273,o273_6)::(nat_lit 274,o274_6 P)::(nat_lit 275,o275_6)::(nat_lit 276,o276_6)::(nat_lit 277,o277_6)::(nat_lit 280,e1)::(nat_lit 282,o282_6)::(nat_lit 283,e1)::(nat_lit 285,o285_6)::(nat_lit 286,o286_6)::(nat_lit 287,e1)::(nat_lit 289,o289_6)::(nat_lit 290,e1)::(nat_lit 292,o292_6)::(nat_lit 293,o293_6)::(nat_lit 294,e1)::(nat_lit 296,o296_6)::(nat_lit 297,e1)::(nat_lit 299,o299_6)::(nat_lit 300,o300_6)::(nat_lit 301,e1)::(nat_lit 303,o303_6)::(nat_lit 304,e1)::(nat_lit 306,o306_6)::(nat_lit 307,o307_6)::(nat_lit 308,e1)::(nat_lit 310,o310_6)::(nat_lit 311,e1)::(nat_lit 313,o313_6)::(nat_lit 314,o314_6)::(nat_lit 315,e1)::(nat_lit 317,o317_6)::(nat_lit 318,e1)::(nat_lit 320,o320_6)::(nat_lit 321,o321_6)::(nat_lit 322,e1)::(nat_lit 325,o325_6)::(nat_lit 326,o326_6)::(nat_lit 327,e1)::(nat_lit 329,o329_6)::(nat_lit 330,e1)::(nat_lit 332,o332_6)::(nat_lit 333,o333_6)::(nat_lit 334,e1)::(nat_lit 337,o337_6)::(nat_lit 338,o338_6)::(nat_lit 339,e1)::(nat_lit 341,o341_6)::(nat_lit 342,e1)::(nat_lit 344,o344_6)::(nat_lit 345,o345_6)::(nat_lit 346,e1)::(nat_lit 348,o348_6)::(nat_lit 349,e1)::(nat_lit 351,o351_6)::(nat_lit 352,o352_6)::(nat_lit 353,e1)::(nat_lit 356,o356_6)::(nat_lit 357,o357_6)::(nat_lit 358,e1)::(nat_lit 361,o361_6)::(nat_lit 362,o362_6)::(nat_lit 363,e1)::(nat_lit 365,o365_6)::(nat_lit 366,e1)::(nat_lit 368,o368_6)::(nat_lit 369,o369_6)::(nat_lit 370,e1)::(nat_lit 373,o373_6)::(nat_lit 374,o374_6)::(nat_lit 375,e1)::(nat_lit 378,o378_6)::(nat_lit 379,o379_6)::(nat_lit 380,e1)::(nat_lit 382,o382_6)::(nat_lit 383,e1)::(nat_lit 385,o385_6)::(nat_lit 386,o386_6)::(nat_lit 387,e1)::(nat_lit 389,o389_6)::(nat_lit 390,e1)::(nat_lit 392,o392_6)::(nat_lit 393,o393_6)::(nat_lit 394,e1)::(nat_lit 397,o397_6)::(nat_lit 398,o398_6)::(nat_lit 399,e1)::(nat_lit 402,o402_7)::(nat_lit 403,o403_7)::(nat_lit 404,e1)::(nat_lit 407,o407_7)::(nat_lit 408,o408_7)::[]
noncomputable def H:Hook:=kHook K as (λ_=>by kernel_rfl)
theorem K_is:K=K2:=by kernel_rfl
theorem Pre_h(w:World):Pre w:=by
 rw[show Pre w=PySem.W.Fast.hdPre w from congrFun (congrFun PySem.W.Fast.hdPre_eq _) _]
 delta PySem.W.Fast.hdPre PySem.W.Fast.tw7651035101826984186
 kernel_rfl
theorem Blk_h(w:World):Blk w:=by
 rw[show Blk w=PySem.W.Fast.hdBlk w from congrFun (congrFun PySem.W.Fast.hdBlk_eq _) _]
 delta PySem.W.Fast.hdBlk PySem.W.Fast.tw10272554187927912860
 kernel_rfl
theorem P0_h(w:World):P0 w:=by
 rw[show P0 w=PySem.W.Fast.hdP0 w from congrFun (congrFun PySem.W.Fast.hdP0_eq _) _]
 delta PySem.W.Fast.hdP0 PySem.W.Fast.tw2223480372460268926 PySem.W.Fast.tw16301345103801407739
 kernel_rfl
theorem P1_h(w:World):P1 w:=by
 rw[show P1 w=PySem.W.Fast.hdP1 w from congrFun (congrFun PySem.W.Fast.hdP1_eq _) _]
 delta PySem.W.Fast.hdP1 PySem.W.Fast.tw14855786421978465553 PySem.W.Fast.tw16301345103801407739
 kernel_rfl
theorem P2_h(w:World):P2 w:=by
 rw[show P2 w=PySem.W.Fast.hdP2 w from congrFun (congrFun PySem.W.Fast.hdP2_eq _) _]
 delta PySem.W.Fast.hdP2 PySem.W.Fast.tw6117723192894798286 PySem.W.Fast.tw16301345103801407739
 kernel_rfl
theorem P3_h(w:World):P3 w:=by
 rw[show P3 w=PySem.W.Fast.hdP3 w from congrFun (congrFun PySem.W.Fast.hdP3_eq _) _]
 delta PySem.W.Fast.hdP3 PySem.W.Fast.tw4020557457582994402 PySem.W.Fast.tw16301345103801407739
 kernel_rfl
theorem P4_h(w:World):P4 w:=by
 rw[show P4 w=PySem.W.Fast.hdP4 w from congrFun (congrFun PySem.W.Fast.hdP4_eq _) _]
 delta PySem.W.Fast.hdP4 PySem.W.Fast.tw16968994527078285662 PySem.W.Fast.tw16301345103801407739
 kernel_rfl
theorem P5_h(w:World):P5 w:=by
 rw[show P5 w=PySem.W.Fast.hdP5 w from congrFun (congrFun PySem.W.Fast.hdP5_eq _) _]
 delta PySem.W.Fast.hdP5 PySem.W.Fast.tw18047075776830140373 PySem.W.Fast.tw16301345103801407739
 kernel_rfl
theorem Fin_h(w:World):Fin w:=by
 rw[show Fin w=PySem.W.Fast.hdFin w from congrFun (congrFun PySem.W.Fast.hdFin_eq _) _]
 delta PySem.W.Fast.hdFin PySem.W.Fast.tw4976735305809376593
 kernel_rfl
theorem Size_h(w:World):Size w:=by
 rw[show Size w=PySem.W.Fast.hdSize w from congrFun PySem.W.Fast.hdSize_eq _]
 delta PySem.W.Fast.hdSize PySem.W.Fast.tw14461627914784175761
 kernel_rfl
theorem LA_h(w:World):LA w:=by
 rw[show LA w=PySem.W.Fast.hdLA w from congrFun (congrFun PySem.W.Fast.hdLA_eq _) _]
 delta PySem.W.Fast.hdLA PySem.W.Fast.tw11134583137455730433
 kernel_rfl
theorem Ls1_h(w:World):Ls1 w:=by
 rw[show Ls1 w=PySem.W.Fast.hdLs1 w from congrFun (congrFun PySem.W.Fast.hdLs1_eq _) _]
 delta PySem.W.Fast.hdLs1 PySem.W.Fast.tw14098396552713008135
 kernel_rfl
theorem Ls2_h(w:World):Ls2 w:=by
 rw[show Ls2 w=PySem.W.Fast.hdLs2 w from congrFun (congrFun PySem.W.Fast.hdLs2_eq _) _]
 delta PySem.W.Fast.hdLs2 PySem.W.Fast.tw6547580189001637342
 kernel_rfl
theorem Ls3_h(w:World):Ls3 w:=by
 rw[show Ls3 w=PySem.W.Fast.hdLs3 w from congrFun (congrFun PySem.W.Fast.hdLs3_eq _) _]
 delta PySem.W.Fast.hdLs3 PySem.W.Fast.tw10934468223134025866
 kernel_rfl
theorem Ls4_h(w:World):Ls4 w:=by
 rw[show Ls4 w=PySem.W.Fast.hdLs4 w from congrFun (congrFun PySem.W.Fast.hdLs4_eq _) _]
 delta PySem.W.Fast.hdLs4 PySem.W.Fast.tw13894289833044730176
 kernel_rfl
theorem Ls5_h(w:World):Ls5 w:=by
 rw[show Ls5 w=PySem.W.Fast.hdLs5 w from congrFun (congrFun PySem.W.Fast.hdLs5_eq _) _]
 delta PySem.W.Fast.hdLs5 PySem.W.Fast.tw11162159950934395656
 kernel_rfl
theorem Ls6_h(w:World):Ls6 w:=by
 rw[show Ls6 w=PySem.W.Fast.hdLs6 w from congrFun (congrFun PySem.W.Fast.hdLs6_eq _) _]
 delta PySem.W.Fast.hdLs6 PySem.W.Fast.tw9014929701734557122
 kernel_rfl
theorem Ls7_h(w:World):Ls7 w:=by
 rw[show Ls7 w=PySem.W.Fast.hdLs7 w from congrFun (congrFun PySem.W.Fast.hdLs7_eq _) _]
 delta PySem.W.Fast.hdLs7 PySem.W.Fast.tw16695146034332369646
 kernel_rfl
theorem Ls8_h(w:World):Ls8 w:=by
 rw[show Ls8 w=PySem.W.Fast.hdLs8 w from congrFun (congrFun PySem.W.Fast.hdLs8_eq _) _]
 delta PySem.W.Fast.hdLs8 PySem.W.Fast.tw13045354483572663336
 kernel_rfl
theorem Ls9_h(w:World):Ls9 w:=by
 rw[show Ls9 w=PySem.W.Fast.hdLs9 w from congrFun (congrFun PySem.W.Fast.hdLs9_eq _) _]
 delta PySem.W.Fast.hdLs9 PySem.W.Fast.tw9459536174771691377
 kernel_rfl
theorem Yk_h(w:World):Yk w:=by
 rw[show Yk w=PySem.W.Fast.hdYk w from congrFun (congrFun PySem.W.Fast.hdYk_eq _) _]
 delta PySem.W.Fast.hdYk PySem.W.Fast.tw3491827284470035837
 kernel_rfl
noncomputable def R5:List Stmt:=L5++[]
noncomputable def R4:List Stmt:=L4++R5
noncomputable def R3:List Stmt:=L3++R4
noncomputable def R2:List Stmt:=L2++R3
noncomputable def R1:List Stmt:=L1++R2
noncomputable def R0:List Stmt:=L0++R1
theorem bd_is:bd=R0:=by kernel_rfl
theorem rest_h(w:World)(os:OsState):topRun treeTable pw w 11 an (654+(742+(742+(696+(889+(53+2)))))) (S0T w os).abs (restOf R0 en cE ⟨0,0,0,0⟩ B)=some (Sf w os):=
 (piece_app (l:=L0) (segRun_of (congrFun (P0_h w) os)) (piece_app (l:=L1) (segRun_of (congrFun (P1_h w) os)) (piece_app (l:=L2) (segRun_of (congrFun (P2_h w) os)) (piece_app (l:=L3) (segRun_of (congrFun (P3_h w) os)) (piece_app (l:=L4) (segRun_of (congrFun (P4_h w) os)) (piece_app (l:=L5) (segRun_of (congrFun (P5_h w) os)) (congrFun (Fin_h w) os)))))))
theorem run_h(w:World)(os:OsState):topRun treeTable pw w 11 an (12+(1+(654+(742+(742+(696+(889+(53+2)))))))) (S0 w os) (topStub pw)=some (Sf w os):=
 go_top (congrFun (Pre_h w) os) (piece_block (congrFun (Blk_h w) os) (by
  rw[show restOf bd en cE ⟨0,0,0,0⟩ B=restOf R0 en cE ⟨0,0,0,0⟩ B from congrArg (λl=>restOf l en cE ⟨0,0,0,0⟩ B) bd_is]
  exact rest_h w os))
theorem Yk_k(w:World)(os:OsState):Hook.obs H (Sf w os)=Hook.val H w:=by
 show as.map (Sf w os).heap.get?=(K w.params).map λp=>some p.2
 rw[K_is];exact congrFun (Yk_h w) os
theorem left_h:LeftO pw q [] Xt (Hook.obs H) (Hook.val H) 7666:=
 LeftO.of_pieces (H₀:=boot_heap) (H₁:=Hf) (m₀:=11) (ann:=an) (boot_open rfl rfl (λ_=>rfl)) Size_h run_h (by decide +kernel) λw=>funext λos=>
  looks_pair (congrFun (LA_h w) os) (looks_pair
   (show openSeen q [] (importedModules pw.main.body) Xt true (Sf w os)=openGood q [] from
    looks_pair (congrFun (Ls1_h w) os) (looks_pair (congrFun (Ls2_h w) os) (looks_pair (congrFun (Ls3_h w) os) (looks_pair (congrFun (Ls4_h w) os) (looks_pair (congrFun (Ls5_h w) os) (looks_pair (congrFun (Ls6_h w) os) (looks_pair (congrFun (Ls7_h w) os) (looks_pair (congrFun (Ls8_h w) os) (congrFun (Ls9_h w) os)))))))))
   (Yk_k w os))
end Hd
open PySem PySem.W PyProof.Rows
set_option maxRecDepth 100000 in
set_option maxHeartbeats 0 in
theorem PySem.Challenge.cw_joinload_k22_not_taken_holds : PySem.Challenge.rw_joinload_k22_not_taken.Holds := by
 w_on;o_law
 refine holds_open (q:=Hd.q) (loose:=[]) (Xt:=Hd.Xt) (XP:=XL Hd.q []) (Yf:=Hook.obs Hd.H) (Ya:=Hook.val Hd.H) (YP:=InK Hd.K) Hd.left_h (Hook.of Hd.H) (Hook.keeps Hd.H) (λs e=>xl_of s (Bool.and_eq_true_iff.mp e).1) XL.keeps (by rfl) (by rfl) (by rfl) (λs e=>recFacts_of (Bool.and_eq_true_iff.mp e).2) (by rfl) (by first|assumption|decide +kernel) (by decide +kernel) ⟨rfl,rfl,rfl,rfl,rfl,by decide +kernel⟩ ?hw ?hc
 (case hw=>w_witness2)
 k_fill
 refine My.walk (l:=PySem.Challenge.rw_joinload_k22_not_taken) (K:=Hd.K) (tb_taken:=234) rfl rfl (λw h Y=>Y) ?hT ?F
 case hT=>
  intro w h lo mean mg mb KX TP T hT
  simp only[List.mem_cons,List.not_mem_nil,or_false]at hT
  rcases hT with rfl
  ·refine' L2.tab_in (x := "taken") (y := "taken") (st:=My.s_taken) (T:=234) KX TP (by kernel_rfl) _ _ _
   all_goals first|exact⟨_,_,_,_,_,_,_,_,_,by k_is,by k_is,by k_is,by kernel_rfl⟩|k_is|kernel_rfl|skip
 case F=>
  intro w mg fa h KX G hmg
  refine' My.all_mk (tb_taken:=234) KX G hmg _ _ _ _ _ _ _ _ _ _ _ _ _ _ _ _ _ _ _ _ _ _ _ _ _ _ _ _ _ _ _ _ _ _ _ _ _ _ _ _ _ _ _ _ _ _ _ _ _ _ _ _ _ _ _ _ _ _ _ _ _ _ _ _ _ _ _ _ _ _ _ _ _ _ _ _ _ _ _ _ _ _ _ _ _ _ _ _ _ _ _ _ _ _ _ _ _ _ _ _ _ _ _ _ _ _ _ _ _ _ _ _ _ _ _ _ _ _ _ _ _ _ _ _ _ _ _ _ _ _ _ _ _ _ _ _ _ _ _ _ _ _ _ _ _ _ _ _ _ _ _ _ _ _ _ _ _ _ _ _ _
  all_goals first|exact⟨_,_,_,_,_,_,_,_,_,by k_is,by k_is,by k_is⟩|exact⟨_,_,_,_,_,_,_,_,_,by k_is,by k_is,by k_is,by kernel_rfl⟩|exact⟨_,by decide,by decide,by k_is⟩|k_is|kernel_rfl|kit_is|skip
#print axioms PySem.Challenge.cw_joinload_k22_not_taken_holds
