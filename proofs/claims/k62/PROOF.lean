import PyProof.Rows.All
import Wide.All
import OpenK.AllK
import Wide.FinOn
import Lean
import PyProof.EqAt
import PyProof.EqKinds
import PyProof.TupleCall
import PyProof.EnumMake
import PyProof.AttrMissHeap
import KE.KDictOf
import KE.KEqDict
import KE.KDictSum
import PySem.Challenge.RW_namewell_k62_a_world_asked
open List(all_cons all_eq_true all_nil any_cons any_eq_true any_map append_nil cons_append drop_eq_getElem_cons drop_eq_nil_of_le drop_zero filterMap_cons filter_append filter_cons filter_nil find?_cons find?_eq_none find?_some flatten_cons getD_eq_getElem?_getD getElem?_append_left getElem?_append_right getElem?_drop getElem?_eq_getElem getElem?_map getElem?_range getElem_mem isEmpty_iff length_append length_cons length_drop length_eq_zero_iff length_filter_le length_map length_nil length_range length_replicate length_singleton length_take lookup_cons map_append map_congr_left map_cons map_drop map_id map_map map_nil map_take mem_append mem_append_left mem_append_right mem_cons mem_cons_of_mem mem_cons_self mem_filter mem_filterMap mem_flatMap mem_iff_getElem? mem_map mem_of_getElem? mem_range mem_singleton nil_append nodup_append nodup_cons nodup_nil not_mem_nil of_mem_zip replicate_succ reverse_cons size_toArray take_add_one take_length take_of_length_le take_take)
open Nat(add_le_add_left le_of_eq le_of_lt le_of_not_lt le_refl le_succ le_succ_of_le le_total le_trans lt_irrefl lt_of_le_of_lt lt_of_lt_of_le lt_or_ge min_eq_left min_eq_right ne_of_lt not_lt_zero sub_self sub_zero succ_pos zero_le)
open Bool(and_eq_true false_eq_true not_eq_true' or_eq_true)
open PySem.W(Frag OpenLaw callWith_K codeIn findIn fnOf hasDictIn instObj isFn keepIn kia_one kitOne kitx_dict kitx_list kitx_tuple makesIn methodCall_KW methodObj mg_none_of mg_of nsIn plainGet plainGet_of plainOver pyHash_slot)
open PySem.F(args_dict_get_2 args_tuple_add_2 entry_dict_get entry_tuple_add plainAttrs_dict slot_dict_get slot_dict_keyiterator_next slot_dict_pop slot_dict_setdefault slot_list_index slot_tuple_add type_dict_get)
section
open PySem PySem.Spec PyProof.Rows
theorem Za:type_of%(@wpAny_bind):=@wpAny_bind
theorem Zb:type_of%(@length_map):=@length_map
theorem Zc:type_of%(@if_neg):=@if_neg
theorem Zd:type_of%(@wpAny_pure):=@wpAny_pure
theorem Ze:type_of%(@decide_eq_true_eq):=@decide_eq_true_eq
theorem Zf:type_of%(@getElem?_eq_getElem):=@getElem?_eq_getElem
theorem Zg:type_of%(@if_pos):=@if_pos
theorem Zh:type_of%(@and_eq_true):=@and_eq_true
theorem Zi:type_of%(@length_cons):=@length_cons
theorem Zj:type_of%(@List.getElem?_eq_some_iff):=@List.getElem?_eq_some_iff
theorem Zk:type_of%(@mem_cons_of_mem):=@mem_cons_of_mem
theorem Zl:type_of%(@length_append):=@length_append
theorem Zm:type_of%(@Heap.get?_push_of_some):=@Heap.get?_push_of_some
theorem Zo:type_of%(@decide_eq_true):=@decide_eq_true
theorem Zp:type_of%(@mem_singleton):=@mem_singleton
theorem Zq:type_of%(@getElem?_map):=@getElem?_map
theorem Zr:type_of%(@Heap.lt_size):=@Heap.lt_size
theorem Zs:type_of%(@le_refl):=@le_refl
theorem Zt:type_of%(@mem_of_getElem?):=@mem_of_getElem?
theorem Zu:type_of%(@mem_append_right):=@mem_append_right
theorem Zv:type_of%(@mem_cons_self):=@mem_cons_self
theorem Zw:type_of%(@mem_cons):=@mem_cons
theorem Zx:type_of%(@beq_iff_eq):=@beq_iff_eq
theorem Zy:type_of%(@Bool.false_ne_true):=@Bool.false_ne_true
theorem Zz:type_of%(@getD_eq_getElem?_getD):=@getD_eq_getElem?_getD
theorem Z0:type_of%(@mem_append):=@mem_append
theorem Z1:type_of%(@Heap.get?_push_size):=@Heap.get?_push_size
theorem Z2:type_of%(@lt_of_lt_of_le):=@lt_of_lt_of_le
theorem Z3:type_of%(@le_trans):=@le_trans
theorem Z4:type_of%(@not_mem_nil):=@not_mem_nil
theorem Z5:type_of%(@decide_eq_false):=@decide_eq_false
theorem Z6:type_of%(@map_cons):=@map_cons
theorem Z7:type_of%(@Int.toNat_natCast):=@Int.toNat_natCast
theorem Z8:type_of%(@length_nil):=@length_nil
theorem Z9:type_of%(@size_toArray):=@size_toArray
theorem ZA:type_of%(@length_take):=@length_take
theorem ZB:type_of%(@Option.some.inj):=@Option.some.inj
theorem ZC:type_of%(@map_append):=@map_append
theorem ZD:type_of%(@false_eq_true):=@false_eq_true
theorem ZE:type_of%(@Paired.length):=@Paired.length
theorem ZF:type_of%(@filter_cons):=@filter_cons
theorem ZG:type_of%(@lt_of_le_of_lt):=@lt_of_le_of_lt
theorem ZH:type_of%(@mem_map):=@mem_map
theorem ZI:type_of%(@length_filter_le):=@length_filter_le
theorem ZJ:type_of%(@Array.length_toList):=@Array.length_toList
theorem ZK:type_of%(@lookup_cons):=@lookup_cons
theorem ZL:type_of%(@of_decide_eq_true):=@of_decide_eq_true
theorem ZM:type_of%(@append_nil):=@append_nil
theorem ZN:type_of%(@all_eq_true):=@all_eq_true
theorem ZO:type_of%(@ne_of_lt):=@ne_of_lt
theorem ZP:type_of%(@or_false):=@or_false
theorem ZQ:type_of%(@if_false):=@if_false
theorem ZR:type_of%(@Calls.spliced_cons):=@Calls.spliced_cons
theorem ZS:type_of%(@if_true):=@if_true
theorem ZT:type_of%(@map_map):=@map_map
theorem ZU:type_of%(@all_cons):=@all_cons
theorem ZV:type_of%(@add_le_add_left):=@add_le_add_left
theorem ZW:type_of%(@PyProof.Rows.slot_tuple_getitem):=@PyProof.Rows.slot_tuple_getitem
theorem ZX:type_of%(@zero_le):=@zero_le
theorem ZY:type_of%(@wpAny_mono):=@wpAny_mono
theorem ZZ:type_of%(@True.intro):=@True.intro
theorem Yb:type_of%(@wpAny_holding):=@wpAny_holding
theorem Yc:type_of%(@wpAny_truthy_bool):=@wpAny_truthy_bool
theorem Yd:type_of%(@drop_eq_nil_of_le):=@drop_eq_nil_of_le
theorem Ye:type_of%(@beq_eq_false_iff_ne):=@beq_eq_false_iff_ne
theorem Yg:type_of%(@Calls.callWith_builtin):=@Calls.callWith_builtin
theorem Yh:type_of%(@length_singleton):=@length_singleton
theorem Yi:type_of%(@tupleKind_room_in1):=@tupleKind_room_in1
theorem Yj:type_of%(@map_congr_left):=@map_congr_left
theorem Yk:type_of%(@Option.map_some):=@Option.map_some
theorem Yl:type_of%(@wpAny_newObj_type):=@wpAny_newObj_type
theorem Ym:type_of%(@take_length):=@take_length
end
set_option hygiene false in
local macro_rules | `(tactic| walk_at "q0") => `(tactic| (
 refine ix_tup (by decide) (by simp only[Zi,Z8];omega) fun d0 hd0=>?_
 cases hd0))
set_option hygiene false in
local macro_rules | `(tactic| walk_at "q1") => `(tactic| (
 refine ix_tup (by omega) (by simp) fun d0 hd0=>?_
 cases hd0))
set_option Elab.async false
set_option linter.all false
set_option compiler.extract_closed false
set_option maxRecDepth 100000
namespace TH
open PySem PySem.W
noncomputable def topT(p:Program)(w:World)(m:Nat)(ann:Option Value):Nat->SharedT->Thread->Option SharedT
 | 0,_,_=>none
 | n+1,s,t =>
  match through t with
  | true=>some s
  | false =>
   match stepOk m ann t with
   | false=>none
   | true =>
    match stepT (denote treeTable) p w s t with
    | none=>none
    | some (s',t')=>topT p w m ann n s' t'
theorem Q4X{p:Program}{w:World}{m:Nat}{ann:Option Value}:∀ {n:Nat} {s r:SharedT} {t:Thread},
  topT p w m ann n s t=some r->topRun treeTable p w m ann n s.abs t=some r.abs
 | 0,_,_,_,h=>by cases h
 | n+1,s,r,t,h=>by
  unfold topT at h;unfold topRun;cases ht:through t with
  | true=>rw[ht]at h;cases h;rfl
  | false =>
   rw[ht]at h;cases hk:stepOk m ann t with
   | false=>rw[hk]at h;cases h
   | true =>
    rw[hk]at h;cases hs:stepT (denote treeTable) p w s t with
    | none=>rw[hs]at h;cases h
    | some x =>
     obtain⟨s₂,t₂⟩:=x;rw[hs]at h;rw[stepT_spec hs];exact Q4X h
noncomputable def treeL(l:List Obj):Nat->Nat->Nat->BT
 | 0,_,_=>.nil
 | f+1,a,b =>
  match l[b]? with
  | some o=>.node o (treeL l f (2 * a) (a+b)) (treeL l f (2 * a) (2 * a+b))
  | none=>.nil
noncomputable def bootT(P:Params):BT:=treeL (boot_heap P).objs.toList 5 1 0
theorem Q4Y(P:Params):absHeap (bootT P) 11 (boot_heap P).life=boot_heap P:=by kernel_rfl
theorem Q4Z(P:Params):((boot_heap P).isNs mainGlobals,(boot_heap P).objs.size,(boot_heap P).nsMap mainGlobals "__annotations__")=(true,11,some (.ref 6)):=by kernel_rfl
noncomputable def beginT(w:World)(os:OsState):SharedT:=⟨bootT w.params,11,(boot_heap w.params).life,Array.mk [],boot_drawn,boot_toks,os⟩
noncomputable def runT(p:Program)(N:Nat)(w:World)(os:OsState):Option SharedT:=topT p w 11 (some (.ref 6)) N (beginT w os) (topStub p)
theorem Q8M{p q:Program}{loose:List Str}{Xt:Shared->Bool}{α:Type}{Yf:Shared->α}{Ya:World->α}{N:Nat}{g0:Bool}
  (e:opening p=plainProg p.main.scope.names) (hN:Nat.ble 600 N=true) (f:∀ s,fenceModules? p s=some s)
  (c1:∀ (w:World) (os:OsState),(runT p N w os).map (fun s=>staticsOk (importedModules p.main.body) (boot_heap w.params) s.abs.heap&&namesBound p s.abs.heap&&gensDone s.abs&&laidKept (boot_heap w.params) s.abs.heap)=some true)
  (c2:∀ (w:World) (os:OsState),(runT p N w os).map (fun s=>openSeen q loose (importedModules p.main.body) Xt g0 s.abs)=some (openGood q loose))
  (c3:∀ (w:World) (os:OsState),(runT p N w os).map (fun s=>Yf s.abs)=some (Ya w)):LeftO p q loose Xt Yf Ya N g0:=fun w=>by
 obtain⟨⟨h,gs,d,k,os⟩,e1,e2⟩:=Option.map_eq_some_iff.mp (boot_open e hN f w);obtain⟨rfl,rfl,rfl,rfl⟩:h=boot_heap w.params/\gs=Array.mk []/\d=boot_drawn/\k=boot_toks:=by simpa using e2
 obtain⟨r,r1,l1⟩:=Option.map_eq_some_iff.mp (c1 w os);have l2:=c2 w os;have l3:=c3 w os;rw[r1]at l2 l3
 replace l2:=ZB l2
 replace l3:=ZB l3
 obtain⟨z1,z2,z3⟩:_/\_/\_:=by simpa only [Prod.mk.injEq]using Q4Z w.params
 have t0:=Q4X r1;have ab:(beginT w os).abs=⟨boot_heap w.params,Array.mk [],boot_drawn,boot_toks,os⟩:=by
  show Shared.mk (absHeap (bootT w.params) 11 (boot_heap w.params).life) _ _ _ _=_;rw[Q4Y];rfl
 rw[ab]at t0;have t:topFrom treeTable p w N ⟨boot_heap w.params,Array.mk [],boot_drawn,boot_toks,os⟩=some r.abs:=by
  unfold topFrom;dsimp only;rw[z1,z2,z3,t0];show (match staticsOk (importedModules p.main.body) (boot_heap w.params) r.abs.heap&&namesBound p r.abs.heap&&gensDone r.abs&&laidKept (boot_heap w.params) r.abs.heap with | true=>_ | false=>_)=_
  rw[l1]
 unfold openEnds;rw[e1];show Option.map _ (topFrom treeTable p w N _)=_;rw[t];refine congrArg some ?_;exact Prod.ext l2 l3
noncomputable abbrev pp:Program:=PySem.Challenge.pw_namewell_k62_a_world_asked
noncomputable def qq:Program:=view pp ((List.range 46).filter fun i=>!([1,8,16,22,24].contains i))
noncomputable abbrev ll:List Str:=[]
noncomputable def xt(s:Shared):Bool:=xlAt qq [] s&&recOk (RowW.records (OpenRow.toRowW (OpenLaw.row PySem.Challenge.rw_namewell_k62_a_world_asked))) s
theorem left2(w:World)(os:OsState):(runT pp 5342 w os).map (fun s=>openSeen qq ll (importedModules pp.main.body) xt true s.abs)=some (openGood qq ll):=by kernel_rfl
theorem left1(w:World)(os:OsState):(runT pp 5342 w os).map (fun s=>staticsOk (importedModules pp.main.body) (boot_heap w.params) s.abs.heap&&namesBound pp s.abs.heap&&gensDone s.abs&&laidKept (boot_heap w.params) s.abs.heap)=some true:=by kernel_rfl
local macro_rules | `(tactic| o_head $H) => `(tactic| (
 refine holds_open (r:=OpenLaw.row PySem.Challenge.rw_namewell_k62_a_world_asked) (q:=qq) (loose:=ll) (N:=5342) (Xt:=xt) (XP:=XL qq [])
  (Ya := Hook.val $H) (Yf := Hook.obs $H) (YP := Hook.says $H) ?hl (Hook.of $H) (Hook.keeps $H)
  (fun s e=>xl_of s (Bool.and_eq_true_iff.mp e).1) XL.keeps (by rfl) (by rfl) (by rfl) (fun s e=>recFacts_of (Bool.and_eq_true_iff.mp e).2)
  (by rfl) (by assumption) (by decide +kernel) ⟨rfl,rfl,rfl,rfl,rfl,by decide +kernel⟩ ?hw ?hc
 (case hl=>exact Q8M (by kernel_rfl) (by rfl) (fun s=>by kernel_rfl) left1 left2 (fun w os=>by kernel_rfl))))
set_option maxHeartbeats 0 in
theorem said0:OpenLaw.wellSaid PySem.Challenge.rw_namewell_k62_a_world_asked=true:=by kernel_rfl
set_option maxHeartbeats 0 in
noncomputable def pack:{ A:Prop // A->PySem.Challenge.rw_namewell_k62_a_world_asked.Holds }:=by
 refine⟨?_,?_⟩;rotate_left
 ·intro hA;w_on;refine holds_law said0 fun said=>?_;k_head;(case hw=>w_witness2);exact hA
end TH
namespace L2
open PySem PySem.Spec PyProof.Rows
noncomputable abbrev Key:=Sum Int Str
noncomputable def zbx:Key->Value->Bool
 | .inl k,v=>Value.isInt k v
 | .inr x,v=>Value.isStrOf x v
noncomputable def keyH(w:World):Key->Int
 | .inl k=>hashInt k
 | .inr x=>hashStr w x
theorem Q0m:∀ {k:Key} {v:Value},zbx k v=true->(∃ i t,k=Sum.inl i/\v=Value.int i t)\/(∃ x t,k=Sum.inr x/\v=Value.str x t)
 | .inl i,v,h=>by
  obtain⟨t,e⟩:=Value.isInt_shape (k:=i) (v:=v) h;exact .inl ⟨i,t,rfl,e⟩
 | .inr x,v,h=>by
  obtain⟨t,e⟩:=Value.isStrOf_shape (x:=x) (v:=v) h;exact .inr ⟨x,t,rfl,e⟩
theorem Q5a(i:Int)(t:Tok):zbx (.inl i) (.int i t)=true:=by simp[zbx,Value.isInt]
theorem Q5b(x:Str)(t:Tok):zbx (.inr x) (.str x t)=true:=by simp[zbx,Value.isStrOf]
theorem Qap(a b:Int):decide ((Sum.inl a:Key)=Sum.inl b)=(a==b):=by
 by_cases e:a=b
 ·subst e;simp
 ·have h:¬ (Sum.inl a:Key)=Sum.inl b:=fun q=>e (Sum.inl.inj q);rw[Z5 h];exact (Ye.mpr e).symm
theorem Qaq(a b:Str):decide ((Sum.inr a:Key)=Sum.inr b)=decide (a=b):=by
 by_cases e:a=b
 ·subst e;simp
 ·have h:¬ (Sum.inr a:Key)=Sum.inr b:=fun q=>e (Sum.inr.inj q);rw[Z5 h,Z5 e]
theorem Qar(a:Int)(b:Str):decide ((Sum.inl a:Key)=Sum.inr b)=false:=Z5 (fun q=>nomatch q)
theorem Qas(a:Str)(b:Int):decide ((Sum.inr a:Key)=Sum.inl b)=false:=Z5 (fun q=>nomatch q)
noncomputable def za5(prog:Program)(w:World):PySem.KeyKind prog w Key where
 is:=zbx
 hash:=keyH w
 inj:=fun v a b ha hb=>by
  rcases Q0m ha with ⟨i,t,rfl,rfl⟩ | ⟨x,t,rfl,rfl⟩
  ·rcases Q0m hb with ⟨j,u,rfl,e⟩ | ⟨y,u,rfl,e⟩
   ·injection e with e1 _;rw[e1]
   ·exact nomatch e
  ·rcases Q0m hb with ⟨j,u,rfl,e⟩ | ⟨y,u,rfl,e⟩
   ·exact nomatch e
   ·injection e with e1 _;rw[e1]
 byValue:=fun k v h=>by
  rcases Q0m h with ⟨i,t,rfl,rfl⟩ | ⟨x,t,rfl,rfl⟩ <;> rfl
 pyHash:=fun hv h=>by
  rcases Q0m hv with ⟨i,t,rfl,rfl⟩ | ⟨x,t,rfl,rfl⟩
  ·exact wpAny_pyHash_int h
  ·exact wpAny_pyHash_str h
 eqBool:=fun hu hv h=>by
  rcases Q0m hu with ⟨i,t,rfl,rfl⟩ | ⟨x,t,rfl,rfl⟩
  ·rcases Q0m hv with ⟨j,u,rfl,rfl⟩ | ⟨y,u,rfl,rfl⟩
   ·rw[Qap]at h;exact wpAny_eqBool_int h
   ·rw[Qar]at h;exact SeqAt.EqAt.int_str i t y u _ _ _ _ h
  ·rcases Q0m hv with ⟨j,u,rfl,rfl⟩ | ⟨y,u,rfl,rfl⟩
   ·rw[Qas]at h;exact SeqAt.EqAt.str_int x t j u _ _ _ _ h
   ·rw[Qaq]at h;exact wpAny_eqBool_str h
 «strs»:=fun k x t v h=>by
  rcases Q0m h with ⟨i,u,rfl,e⟩ | ⟨y,u,rfl,e⟩
  ·exact nomatch e
  ·injection e with e1 _;subst e1;cases v <;> rfl
theorem Q3J(prog:Program)(w:World)(i:Int)(t:Tok):(za5 prog w).is (.inl i) (.int i t)=true:=Q5a i t
theorem Q3K(prog:Program)(w:World)(x:Str)(t:Tok):(za5 prog w).is (.inr x) (.str x t)=true:=Q5b x t
inductive V where
 | non | bl (b:Bool) | int (i:Int) | str (x:Str) | byt (b:Array UInt8) | flt (b:UInt64) | ref (a:Addr) | ty (n:String)
 deriving DecidableEq
noncomputable def RelV:V->Value->Prop
 | .non,u=>u=Value.none
 | .bl b,u=>u=Value.bool b
 | .int i,u=>∃ t,u=Value.int i t
 | .str x,u=>∃ t,u=Value.str x t
 | .byt b,u=>∃ t,u=Value.bytes b t
 | .flt b,u=>∃ t,u=Value.float b t
 | .ref a,u=>u=Value.ref a
 | .ty n,u=>u=Value.type n
noncomputable abbrev Vals:List V->List Value->Prop:=Paired RelV
theorem Vals.length(r:Vals xs us):xs.length=us.length:=ZE r
theorem Vals.get:∀ {xs:List V} {us:List Value} {i:Nat} {x:V},Vals xs us->xs[i]? = some x->∃ u,us[i]? = some u/\RelV x u
 | _,_,_,_,.nil,e=>by simp at e
 | _,_,0,_,.cons r _,e=>by simp at e;subst e;exact⟨_,rfl,r⟩
 | _,_,i+1,x,.cons _ t,e=>by
  obtain⟨u,h1,h2⟩:=Vals.get (i:=i) (x:=x) t (by simpa using e)
  exact⟨u,by simpa using h1,h2⟩
theorem Vals.set(r:RelV x u):∀ {xs:List V} {us:List Value} (i:Nat),Vals xs us->Vals (xs.set i x) (us.set i u)
 | _,_,_,.nil=>.nil
 | _,_,0,.cons _ t=>.cons r t
 | _,_,i+1,.cons q t=>.cons q (Vals.set r i t)
theorem Vals.append:∀ {xs ys:List V} {us ws:List Value},Vals xs us->Vals ys ws->Vals (xs++ys) (us++ws)
 | _,_,_,_,.nil,s=>s
 | _,_,_,_,.cons r t,s=>.cons r (Vals.append t s)
theorem Vals.take:∀ {xs:List V} {us:List Value} (n:Nat),Vals xs us->Vals (xs.take n) (us.take n)
 | _,_,0,_=>.nil
 | _,_,_+1,.nil=>.nil
 | _,_,n+1,.cons r t=>.cons r (Vals.take n t)
theorem Vals.drop:∀ {xs:List V} {us:List Value} (n:Nat),Vals xs us->Vals (xs.drop n) (us.drop n)
 | _,_,0,r=>r
 | _,_,_+1,.nil=>.nil
 | _,_,n+1,.cons _ t=>Vals.drop n t
noncomputable def RelO:Option V->Option Value->Prop
 | some v,some u=>RelV v u
 | none,none=>True
 | _,_=>False
noncomputable def KV{κ:Type}:List (κ×V)->List (κ×Value)->Prop:=Paired fun(p:κ×V) (q:κ×Value)=>p.1=q.1/\RelV p.2 q.2
noncomputable def kV:Key->V
 | .inl i=>.int i
 | .inr x=>.str x
inductive HO where
 | lst (xs:List V)
 | tup (xs:List V)
 | dK (kvs:List (Key×V)) | dT (kvs:List (List Key×V))
 | set (S:Int->Bool) (n:Nat)
 | ins (C dx:Addr) (fs:List (Str×V))
 | own (x:Addr)
 | xd (fs:List (Str×V))
 | met (f x:Addr)
 | rng (lo hi:Int)
 | frz (o:Obj) (u:HO)
 | tbl (ps:Array Value)
 | ext (φ:Heap->Prop)
noncomputable abbrev Hp:=Addr->Option HO
noncomputable def upd(H:Hp)(a:Addr)(o:HO):Hp:=fun b=>if b=a then some o else H b
theorem Q0d:upd H a o a=some o:=by unfold upd;rw[Zg rfl]
theorem Q0g(h:b≠a):upd H a o b=H b:=by unfold upd;rw[Zc h]
theorem Q1Y:upd (upd H a o) a u=upd H a u:=by
 funext b;unfold upd;split <;> rfl
theorem ne_of{H:Hp}{a b:Addr}{o u:HO}(h:H a=some o)(h':H b=some u)(d:o≠u):a≠b:=by
 intro e;subst e;rw[h]at h';exact d (ZB h')
theorem Q0l{H:Hp}{a b:Addr}{o:HO}(h:H a=some o)(h':H b=none):a≠b:=by
 intro e;subst e;rw[h]at h';cases h'
section
variable(P:Program)(w:World)
noncomputable def ObjOk(H:Hp)(h:Heap)(a:Addr):HO->Prop
 | .lst xs=>xs.length<=sizeLine/\∃ (its:List Value) (n:Nat),Vals xs its/\h.get? a=some { cls:=.type "list",data:=.seq its.toArray n }
 | .tup xs=>xs.length<=sizeLine/\∃ its:List Value,Vals xs its/\IsTup h a its.toArray
 | .dK kvs=>kvs.length<=sizeLine/\(a==sysModules)=false/\∃ vs,KV kvs vs/\h.DictOf (za5 P w) a vs
 | .dT kvs=>kvs.length<=sizeLine/\(a==sysModules)=false/\∃ xs:List (List Key×Addr×Value),
   Paired (fun(p:List Key×V) (q:List Key×Addr×Value)=>p.1=q.1/\H q.2.1=some (.tup (p.1.map kV))/\RelV p.2 q.2.2) kvs xs /\
   ∃ o es ep,h.get? a=some o/\o.ExactDict/\o.data=.dict es ep/\es.toList=xs.map (entryOfKey (tupleKind (za5 P w)))/\(xs.map (·.1)).Nodup
 | .set S n=>h.SetOf (intKind P w) a S n
 | .ins C dx fs=>H dx=some (.own a)/\fs.length<=1000/\dx≠a/\h.get? a=some (instObj C dx) /\
   ∃ mA,h.Ns1 dx mA/\(∀ f,RelO (fs.lookup f) (mA f))/\PySem.Within mA (fs.map (·.1))
 | .own _=>∃ o,h.get? a=some o
 | .xd fs=>∃ mA,h.Ns1 a mA/\∀ f,RelO (fs.lookup f) (mA f)
 | .rng lo hi=>∃ t u v,h.get? a=some { cls:=.type "range",data:=.fields #[.int lo t,.int hi u,.int 1 v] }
 | .frz o u=>h.get? a=some o/\ObjOk H h a u
 | .tbl ps=>h.get? a=some { cls:=.none,data:=.fields ps }
 | .met f x=>h.get? a=some (methodObj (.ref f) (.ref x))
 | .ext φ=>φ h/\(∃ o,h.get? a=some o)/\∀ h1 h2:Heap,φ h1->(∀ o,h1.get? a=some o->h2.get? a=some o)->φ h2
noncomputable def HOk(H:Hp)(h:Heap):Prop:=∀ a o,H a=some o->ObjOk P w H h a o
end
section
variable{P:Program}{w:World}{H H':Hp}{h h':Heap}{a:Addr}{o:HO}
theorem ObjOk.lt(x:ObjOk P w H h a o):a<h.objs.size:=by
 cases o with
 | lst xs=>obtain⟨_,_,_,_,e⟩:=x;exact Zr e
 | tup xs=>obtain⟨_,_,_,p⟩:=x;exact p.lt
 | dK kvs=>obtain⟨_,_,_,_,o,_,_,e,_⟩:=x;exact Zr e
 | dT kvs=>obtain⟨_,_,_,_,o,_,_,e,_⟩:=x;exact Zr e
 | set S n=>obtain⟨o,_,_,_,e,_⟩:=x;exact Zr e
 | ins C dx fs=>obtain⟨_,_,_,e,_⟩:=x;exact Zr e
 | own y=>obtain⟨_,e⟩:=x;exact Zr e
 | xd fs=>obtain⟨_,⟨_,_,_,e,_⟩,_⟩:=x;exact Zr e
 | rng lo hi=>obtain⟨_,_,_,e⟩:=x;exact Zr e
 | frz ob u=>obtain⟨e,_⟩:=x;exact Zr e
 | tbl ps=>exact Zr (show h.get? a=some _ from x)
 | met f y=>exact Zr (show h.get? a=some _ from x)
 | ext φ=>obtain⟨_,⟨_,e⟩,_⟩:=x;exact Zr e
theorem Paired.mapP{α β:Type}{F G:α->β->Prop}:∀ {l₁:List α} {l₂:List β},Paired F l₁ l₂->(∀ a b,F a b->G a b)->Paired G l₁ l₂
 | _,_,.nil,_=>.nil
 | _,_,.cons r t,f=>.cons (f _ _ r) (Paired.mapP t f)
theorem ObjOk.stay(x:ObjOk P w H h a o)(k:∀ b u,(b=a\/H b=some (.own a))->h.get? b=some u->h'.get? b=some u)
  (ho:∀ b,H b=some (.own a)->H' b=some (.own a)) (ht:∀ b xs,H b=some (.tup xs)->H' b=some (.tup xs)):ObjOk P w H' h' a o:=by
 induction o with
 | lst xs=>obtain⟨z,its,n,r,e⟩:=x;exact⟨z,its,n,r,k _ _ (.inl rfl) e⟩
 | tup xs=>obtain⟨z,its,r,ob,e,c⟩:=x;exact⟨z,its,r,ob,k _ _ (.inl rfl) e,c⟩
 | dK kvs=>obtain⟨z,y,vs,r,ob,es,ep,e,c⟩:=x;exact⟨z,y,vs,r,ob,es,ep,k _ _ (.inl rfl) e,c⟩
 | dT kvs =>
  obtain⟨z,y,xs,r,ob,es,ep,e,c⟩:=x;exact⟨z,y,xs,Paired.mapP r fun p q z=>⟨z.1,ht _ _ z.2.1,z.2.2⟩,ob,es,ep,k _ _ (.inl rfl) e,c⟩
 | set S n=>obtain⟨ob,es,ep,t,e,c⟩:=x;exact⟨ob,es,ep,t,k _ _ (.inl rfl) e,c⟩
 | ins C dx fs =>
  obtain⟨d,z,ne,e,mA,⟨od,es,ep,e2,c⟩,r⟩:=x;exact⟨ho _ d,z,ne,k _ _ (.inl rfl) e,mA,⟨od,es,ep,k _ _ (.inr d) e2,c⟩,r⟩
 | own y=>obtain⟨ob,e⟩:=x;exact⟨ob,k _ _ (.inl rfl) e⟩
 | xd fs=>obtain⟨mA,⟨od,es,ep,e,c⟩,r⟩:=x;exact⟨mA,⟨od,es,ep,k _ _ (.inl rfl) e,c⟩,r⟩
 | rng lo hi=>obtain⟨t,u,v,e⟩:=x;exact⟨t,u,v,k _ _ (.inl rfl) e⟩
 | frz ob u ih=>obtain⟨e,q⟩:=x;exact⟨k _ _ (.inl rfl) e,ih q⟩
 | tbl ps =>
  have e:h.get? a=some { cls:=.none,data:=.fields ps }:=x;show h'.get? a=some { cls:=.none,data:=.fields ps };exact k a _ (.inl rfl) e
 | met f y =>
  have e:h.get? a=some (methodObj (.ref f) (.ref y)):=x;show h'.get? a=some (methodObj (.ref f) (.ref y));exact k a _ (.inl rfl) e
 | ext φ=>obtain⟨p,⟨o,e⟩,st⟩:=x;exact⟨st _ _ p fun o q=>k _ _ (.inl rfl) q,⟨o,k _ _ (.inl rfl) e⟩,st⟩
theorem HOk.lt(x:HOk P w H h)(e:H a=some o):a<h.objs.size:=(x a o e).lt
theorem HOk.fresh(x:HOk P w H h)(e:h.objs.size<=a):H a=none:=by
 cases q:H a with
 | none=>rfl
 | some u=>exact absurd (Z2 (x.lt q) e) (lt_irrefl _)
theorem HOk.kept(x:HOk P w H h)(k:∀ b u,h.get? b=some u->h'.get? b=some u):HOk P w H h':=fun a o e =>
 (x a o e).stay (fun b u _ q=>k b u q) (fun _ q=>q) fun _ _ q=>q
theorem HOk.laid(x:HOk P w H h)(k:∀ b u,h.get? b=some u->h'.get? b=some u)(hp:h.objs.size<=a)(new:ObjOk P w (upd H a o) h' a o):HOk P w (upd H a o) h':=fun b u e=>by
 have hn:=x.fresh hp;by_cases hb:b=a
 ·subst hb;rw[Q0d]at e;cases e;exact new
 ·rw[Q0g hb]at e;exact (x b u e).stay (fun c v _ q=>k c v q) (fun c q=>by rw[Q0g (Q0l q hn)];exact q) fun c xs q=>by rw[Q0g (Q0l q hn)];exact q
end
noncomputable def Rd(H:Hp)(a:Addr)(u:HO):Prop:=H a=some u\/∃ o,H a=some (.frz o u)
theorem Rd.of(h:H a=some u):Rd H a u:=.inl h
theorem Rd.ok(r:Rd H a u)(x:HOk P w H h):ObjOk P w H h a u:=by
 rcases r with r | ⟨o,r⟩
 ·exact x a u r
 ·obtain⟨_,q⟩:=x a _ r;exact q
noncomputable def Mut:Option HO->Prop
 | some (.lst _)=>True
 | some (.dK _)=>True
 | some (.dT _)=>True
 | some (.set _ _)=>True
 | some (.ins _ _ _)=>True
 | some (.ext _)=>True
 | _=>False
section
variable{P:Program}{w:World}{H:Hp}{h h':Heap}{x e:Addr}{o':HO}
theorem HOk.write(ok:HOk P w H h)(mu:Mut (H x))(he:e=x\/H e=some (.own x))(k:∀ b u,b≠e->h.get? b=some u->h'.get? b=some u)(heo:∃ u,h'.get? e=some u)
  (new:ObjOk P w (upd H x o') h' x o'):HOk P w (upd H x o') h':=fun b u q=>by
 have nown:∀ c y,H c=some (.own y)->c≠x:=fun c y r z=>by subst z;rw[r]at mu;exact mu
 have ntup:∀ c xs,H c=some (.tup xs)->c≠x:=fun c xs r z=>by subst z;rw[r]at mu;exact mu
 by_cases hb:b=x
 ·subst hb;rw[Q0d]at q;cases q;exact new
 ·rw[Q0g hb]at q;by_cases hbe:b=e
  ·have q':H b=some (.own x):=by
    rcases he with z | z
    ·exact absurd (hbe.trans z) hb
    ·rw[hbe];exact z
   rw[q]at q';cases q';obtain⟨v,hv⟩:=heo;exact⟨v,by rw[hbe];exact hv⟩
  ·refine (ok b u q).stay (fun c v hc r=>k c v ?_ r) (fun c r=>by rw[Q0g (nown c b r)];exact r) fun c xs r=>by rw[Q0g (ntup c xs r)];exact r
   rcases hc with rfl | hc
   ·exact hbe
   ·rintro rfl;rcases he with z | z
    ·exact nown c b hc z
    ·rw[hc]at z;cases z;exact hb rfl
end
structure Un(fs ex:List Addr)(H H':Hp)(h h':Heap):Prop where
 keep:∀ b o,h.get? b=some o->H b=none->b∉fs->b∉ex->h'.get? b=some o
 slot:∀ b o,h.get? b=some o->H b=none->b∈fs->b∉ex->∃ sl,h'.get? b=some { o with slots:=sl }
 free:∀ b o,h.get? b=some o->H b=none->b∉ex->H' b=none
 there:∀ b o,h.get? b=some o->b∉ex->∃ o',h'.get? b=some o'
 tups:∀ b xs,H b=some (.tup xs)->H' b=some (.tup xs)
 frzs:∀ b o u,H b=some (.frz o u)->H' b=some (.frz o u)
 tbls:∀ b ps,H b=some (.tbl ps)->∃ more,H' b=some (.tbl (ps++more))
section
variable{fs fs' ex ex':List Addr}{H H1 H2:Hp}{h h1 h2 h':Heap}{a x e:Addr}{o:HO}
theorem Un.any(u:Un fs ex H H1 h h1)(q:h.get? b=some ob)(n:H b=none)(hx:b∉ex):∃ sl,h1.get? b=some { ob with slots:=sl }:=by
 by_cases hb:b∈fs
 ·exact u.slot b ob q n hb hx
 ·exact⟨ob.slots,u.keep b ob q n hb hx⟩
theorem Un.trans(a:Un fs ex H H1 h h1)(b:Un fs ex H1 H2 h1 h2):Un fs ex H H2 h h2 where
 keep:=fun c ob q n hc hx=>b.keep c ob (a.keep c ob q n hc hx) (a.free c ob q n hx) hc hx
 slot:=fun c ob q n hc hx=>by
  obtain⟨sl,e1⟩:=a.slot c ob q n hc hx;obtain⟨sl',e2⟩:=b.slot c _ e1 (a.free c ob q n hx) hc hx;exact⟨sl',e2⟩
 free:=fun c ob q n hx=>by
  obtain⟨o',e1⟩:=a.there c ob q hx;exact b.free c o' e1 (a.free c ob q n hx) hx
 there:=fun c ob q hx=>by
  obtain⟨o',e1⟩:=a.there c ob q hx;exact b.there c o' e1 hx
 tups:=fun c xs q=>b.tups c xs (a.tups c xs q)
 frzs:=fun c ob xs q=>b.frzs c ob xs (a.frzs c ob xs q)
 tbls:=fun c ps q=>by
  obtain⟨m1,e1⟩:=a.tbls c ps q;obtain⟨m2,e2⟩:=b.tbls c _ e1;exact⟨m1++m2,by rw[e2,Array.append_assoc]⟩
theorem Un.kept(k:∀ b u,h.get? b=some u->h'.get? b=some u):Un fs ex H H h h' :=
 ⟨fun b ob q _ _ _=>k b ob q,fun b ob q _ _ _=>⟨ob.slots,k b ob q⟩,fun _ _ _ n _=>n,fun b ob q _=>⟨ob,k b ob q⟩,fun _ _ q=>q,fun _ _ _ q=>q,fun _ ps q=>⟨#[],by rw[q];simp⟩⟩
theorem Un.refl:Un fs ex H H h h:=Un.kept fun _ _ q=>q
theorem Un.laid(k:∀ b u,h.get? b=some u->h'.get? b=some u)(hp:h.objs.size<=a)(hn:H a=none):Un fs ex H (upd H a o) h h' where
 keep:=fun b u q _ _ _=>k b u q
 slot:=fun b u q _ _ _=>⟨u.slots,k b u q⟩
 free:=fun b u q n _=>by rw[Q0g (ZO (Z2 (Zr q) hp))];exact n
 there:=fun b u q _=>⟨u,k b u q⟩
 tups:=fun b xs q=>by rw[Q0g (Q0l q hn)];exact q
 frzs:=fun b u xs q=>by rw[Q0g (Q0l q hn)];exact q
 tbls:=fun b ps q=>⟨#[],by rw[Q0g (Q0l q hn),q];simp⟩
theorem Un.write(mu:Mut (H x))(he:e=x\/H e=some (.own x))(k:∀ b u,b≠e->h.get? b=some u->h'.get? b=some u)(heo:∃ u,h'.get? e=some u):Un fs ex H (upd H x o) h h':=by
 have hx:∀ b,H b=none->b≠x:=fun b n z=>by subst z;rw[n]at mu;exact mu
 have hb:∀ b,H b=none->b≠e:=fun b n z=>by
  subst z;rcases he with r | r
  ·exact hx b n r
  ·rw[n]at r;cases r
 have hm:∀ b u,H b=some u->¬ Mut (some u)->b≠x:=fun b u q nm z=>by subst z;rw[q]at mu;exact nm mu
 refine⟨fun b u q n _ _=>k b u (hb b n) q,fun b u q n _ _=>⟨u.slots,k b u (hb b n) q⟩,fun b u q n _=>by rw[Q0g (hx b n)];exact n,fun b u q _=>?_,
  fun b xs q=>by rw[Q0g (hm b _ q fun z=>z)];exact q,fun b u xs q=>by rw[Q0g (hm b _ q fun z=>z)];exact q,fun b ps q=>⟨#[],by rw[Q0g (hm b _ q fun z=>z),q];simp⟩⟩
 by_cases hbe:b=e
 ·subst hbe;exact heo
 ·exact⟨u,k b u hbe q⟩
theorem Un.mono(u:Un fs ex H H1 h h1)(hs:∀ b∈fs,b∈fs')(hx:∀ b∈ex,b∈ex'):Un fs' ex' H H1 h h1 :=
 ⟨fun b ob q n hb he=>u.keep b ob q n (fun z=>hb (hs b z)) fun z=>he (hx b z),fun _ _ q n _ he=>u.any q n fun z=>he (hx _ z),fun b ob q n he=>u.free b ob q n fun z=>he (hx b z),fun b ob q he=>u.there b ob q fun z=>he (hx b z),u.tups,u.frzs,u.tbls⟩
end
noncomputable def trk(h:Heap)(H:Hp):List Addr:=(List.range h.objs.size).filter fun a=>(H a).isSome
noncomputable def hidT(h:Heap)(H:Hp):Heap:=PySem.W.hideAll h (trk h H)
theorem Q5c(h:Heap)(H:Hp):(hidT h H).objs.size=h.objs.size:=PySem.W.hideAll_size _ _
theorem Q6L(e:h.get? b=some o)(n:H b=none):(hidT h H).get? b=some o :=
 PySem.W.hideAll_get _ e fun hm=>by
  have q:(H b).isSome=true:=(mem_filter.mp hm).2;rw[n]at q;simp at q
theorem Q8N(e:(hidT h H).get? b=some o):h.get? b=some o/\H b=none:=by
 have e':h.get? b=some o:=PySem.W.of_hideAll (trk h H) e;refine⟨e',?_⟩;cases q:H b with
 | none=>rfl
 | some x =>
  have hm:b∈trk h H:=mem_filter.mpr ⟨mem_range.mpr (Zr e'),by simp[q]⟩
  have z:(hidT h H).get? b=none:=PySem.W.hideAll_none (trk h H) hm;rw[z]at e;cases e
noncomputable def allNews(g h:Heap)(L:Addr):List (Addr×Obj):=(List.range h.objs.size).filterMap fun a=>if a=L\/(g.get? a).isSome=true then none else (h.get? a).map fun o=>(a,o)
noncomputable def rest(g h:Heap)(L d:Addr):List (Addr×Obj):=(allNews g h L).filter fun p=>decide (p.1≠d)
structure Mod(K:Frag)(mg:Str->Option Value)(base:Heap):Prop where
 kin:K.In base
 glob:base.Ns mainGlobals mg
 blt:∃ mb,base.Ns builtinsNs mb/\∀ x:Str,x ≠ "__name__" -> mb x=bootBuiltins x
 nolimit:base.NoLimit
structure Cx where
 prog:Program
 w:World
 K:Frag
 mg:Str->Option Value
 base:Heap
 A:Around
 N:List Str
 s₀:Shared
 H₀:Hp
 env:Env
 outer:List Env
 stack:List Env
 ex:List Addr
 fn:Str->Bool
 calm:Bool
 pn:List (Addr×Obj)
 xe:Value->Shared->Prop
noncomputable def frs(l:List Env):List Addr:=l.filterMap (·.frame)
noncomputable abbrev Cx.fs(X:Cx):List Addr:=frs X.outer
noncomputable def Vis(sc:Scope)(x:Str):Prop:=sc.names.lookup x=some .local\/sc.names.lookup x=some .cell\/sc.names.lookup x=some .free
noncomputable def Loc(sc:Scope)(x:Str):Prop:=sc.names.lookup x=some .local\/sc.names.lookup x=some .cell
noncomputable def Look(env:Env)(h:Heap)(m:Str->Option Value)(x:Str)(u:Value):Prop :=
 (env.kindOf x=some .local/\m x=some u)\/((env.kindOf x=some .cell\/env.kindOf x=some .free)/\∃ c,env.cells.lookup x=some c/\h.IsCell c (some u))
structure Cx.Ok(X:Cx):Prop where
 mod:Mod X.K X.mg X.base
 kind:X.env.scope.kind=.function
 glob:X.env.globals=mainGlobals
 blt:X.env.builtins=builtinsNs
 above:X.s₀.heap.objs.size<=X.env.locals
 inj:∀ x y c,X.env.cells.lookup x=some c->X.env.cells.lookup y=some c->x=y
 has:∀ x,(X.env.kindOf x=some .cell\/X.env.kindOf x=some .free)->∃ c,X.env.cells.lookup x=some c
 cab:∀ x c,X.fn x=true->X.env.cells.lookup x=some c->X.s₀.heap.objs.size<=c
 hd:X.calm=true->X.A.handled=none
 frames:X.A.frames=some X.stack
 stk:X.stack=X.outer\/(X.stack=X.env::X.outer/\X.env.frame=some X.env.locals)
 exf:∀ b∈X.ex,b≠X.env.locals/\∀ x c,X.env.cells.lookup x=some c->c≠b
 bs:∀ b o,X.base.get? b=some o->X.s₀.heap.get? b=some o/\X.H₀ b=none
 bsz:X.base.objs.size<=X.s₀.heap.objs.size
 noex:∀ b o,X.base.get? b=some o->b∉X.ex
 exfs:∀ b∈X.ex,b∉X.fs
 funs:X.s₀.heap.FunFrames X.base X.outer
 frf:∀ b∈X.fs,X.H₀ b=none
structure Inv(X:Cx)(pins:List (Addr×Obj))(σ:List (Option V))(H:Hp)(s:Shared):Prop where
 ok:X.Ok
 os:s.os=X.s₀.os
 bare:AllBare s.gens
 base:Un X.fs X.ex X.H₀ H X.s₀.heap s.heap
 loc:∃ m,s.heap.Ns X.env.locals m/\∀ (i:Nat) (x:Str) (v:V),X.N[i]? = some x->σ[i]? = some (some v)->Vis X.env.scope x->∃ u,RelV v u/\Look X.env s.heap m x u
 cell:∀ x c,X.env.cells.lookup x=some c->∃ v,s.heap.IsCell c v
 free:H X.env.locals=none
 freeC:∀ x c,X.env.cells.lookup x=some c->H c=none
 pin:∀ p∈X.pn++pins,s.heap.get? p.1=some p.2/\H p.1=none/\p.1≠X.env.locals/\p.1∉X.fs/\∀ v,p.2.data≠.cell v
 hok:HOk X.prog X.w H s.heap
 len:σ.length=X.N.length
section
variable{X:Cx}{pins:List (Addr×Obj)}{σ:List (Option V)}{H H':Hp}{s:Shared}{h':Heap}
theorem Cx.Ok.nofr(ok:X.Ok)(e:X.base.get? b=some o):b∉X.fs:=fun hb=>by
 have:=(ok.funs.mem hb).1;rw[e]at this;cases this
theorem Inv.bs(I:Inv X pins σ H s):∀ b o,X.base.get? b=some o->s.heap.get? b=some o/\H b=none:=fun b o e =>
 ⟨I.base.keep b o (I.ok.bs b o e).1 (I.ok.bs b o e).2 (I.ok.nofr e) (I.ok.noex b o e),I.base.free b o (I.ok.bs b o e).1 (I.ok.bs b o e).2 (I.ok.noex b o e)⟩
theorem Inv.bk(I:Inv X pins σ H s):∀ b o,X.base.get? b=some o->s.heap.get? b=some o:=fun b o e=>(I.bs b o e).1
theorem Inv.mod(I:Inv X pins σ H s):Mod X.K X.mg X.base:=I.ok.mod
theorem Inv.kIn(I:Inv X pins σ H s):X.K.In s.heap:=I.ok.mod.kin.keeps I.bk
theorem Inv.nolimit(I:Inv X pins σ H s):s.heap.NoLimit:=I.ok.mod.nolimit.keeps I.bk
theorem Inv.fr(I:Inv X pins σ H s):∃ m,Fr X.base X.env.locals s.heap m :=
 let ⟨m,hn,_⟩:=I.loc
 ⟨m,hn,I.bk,Z3 I.ok.bsz I.ok.above⟩
theorem Inv.lt(I:Inv X pins σ H s):X.env.locals<s.heap.objs.size:=let ⟨_,hn,_⟩:=I.loc;hn.lt
theorem Inv.sz(I:Inv X pins σ H s):X.s₀.heap.objs.size<=s.heap.objs.size:=Z3 I.ok.above (le_of_lt I.lt)
theorem Inv.nofs(I:Inv X pins σ H s)(h:s.heap.objs.size<=a):a∉X.fs:=fun hb=>by
 obtain⟨_,o,ho,_⟩:=I.ok.funs.mem hb;exact absurd (Z2 (Zr ho) (Z3 I.sz h)) (lt_irrefl _)
theorem Inv.cne(I:Inv X pins σ H s):∀ x c,X.env.cells.lookup x=some c->c≠X.env.locals:=fun x c e z=>by
 obtain⟨v,o,ho,hd⟩:=I.cell x c e;obtain⟨m,⟨o',es,ep,ho',hd',_⟩,_⟩:=I.loc;rw[z,ho']at ho;cases ho;rw[hd']at hd;cases hd
theorem Inv.funs(I:Inv X pins σ H s):s.heap.FunFrames X.base X.outer:=by
 have all:∀ (l:List Env),(∀ b∈frs l,b∈X.fs)->X.s₀.heap.FunFrames X.base l->s.heap.FunFrames X.base l:=by
  intro l
  induction l with
  | nil=>intro _ _;trivial
  | cons env r ih =>
   intro hs hl;obtain⟨hk,⟨L,o,hf,hn,ho,hd⟩,hr⟩:=hl;have hL:L∈X.fs:=hs L (by unfold frs;rw[filterMap_cons,hf];exact Zv)
   obtain⟨sl,e⟩:=I.base.slot L o ho (I.ok.frf L hL) hL fun z=>I.ok.exfs L z hL;exact⟨hk,⟨L,_,hf,hn,e,hd⟩,ih (fun b hb=>hs b (by unfold frs;rw[filterMap_cons,hf];exact Zk _ hb)) hr⟩
 exact all X.outer (fun _ hb=>hb) I.ok.funs
theorem Inv.stack(I:Inv X pins σ H s):s.heap.FunFrames X.base X.stack:=by
 rcases I.ok.stk with e | ⟨e,hf⟩
 ·rw[e];exact I.funs
 ·rw[e];obtain⟨m,hn,_⟩:=I.loc;refine .cons (by rw[I.ok.kind];decide) hf hn ?_ I.funs
  exact Heap.get?_none_of_le (Z3 I.ok.bsz I.ok.above)
theorem Inv.stkSub(I:Inv X pins σ H s):∀ b∈frs X.stack,b∈X.env.locals::X.fs:=fun b hb=>by
 rcases I.ok.stk with e | ⟨e,hf⟩
 ·rw[e]at hb;exact Zk _ hb
 ·rw[e]at hb;unfold frs at hb;rw[filterMap_cons,hf]at hb;exact hb
theorem Inv.stkFree(I:Inv X pins σ H s):∀ b∈frs X.stack,H b=none:=fun b hb=>by
 rcases Zw.mp (I.stkSub b hb) with e | hb
 ·rw[e];exact I.free
 ·obtain⟨_,o,ho,_⟩:=I.ok.funs.mem hb;exact I.base.free b o ho (I.ok.frf b hb) fun z=>I.ok.exfs b z hb
theorem Inv.step{g':Array GenState}{t':Nat}{d':Drawn}{ch:List Addr}(I:Inv X pins σ H s)
  (hch:∀ b∈ch,(b∈X.ex\/X.s₀.heap.objs.size<=b)/\b≠X.env.locals/\(∀ x c,X.env.cells.lookup x=some c->c≠b)/\∀ p∈X.pn++pins,p.1≠b)
  (keep:∀ b o,b≠X.env.locals->b∉X.fs->b∉ch->s.heap.get? b=some o->H b=none->h'.get? b=some o)
  (slot:∀ b o,b≠X.env.locals->b∈X.fs->b∉ch->s.heap.get? b=some o->H b=none->∃ sl,h'.get? b=some { o with slots:=sl }) (free:∀ b o,b∉ch->s.heap.get? b=some o->H b=none->H' b=none)
  (there:∀ b o,b∉ch->s.heap.get? b=some o->∃ o',h'.get? b=some o')
  (tups:∀ b xs,H b=some (.tup xs)->H' b=some (.tup xs)) (frzs:∀ b o u,H b=some (.frz o u)->H' b=some (.frz o u)) (tbls:∀ b ps,H b=some (.tbl ps)->∃ more,H' b=some (.tbl (ps++more)))
  (ns:∀ m,s.heap.Ns X.env.locals m->h'.Ns X.env.locals m) (hok:HOk X.prog X.w H' h') (hg:AllBare g') :
  Inv X pins σ H' { s with heap:=h',gens:=g',drawn:=d',toks:=t' }:=by
 have neL:∀ b o,X.s₀.heap.get? b=some o->b≠X.env.locals:=fun b o e=>ZO (Z2 (Zr e) I.ok.above);have neC:∀ b o,X.s₀.heap.get? b=some o->b∉X.ex->b∉ch:=fun b o e hx hb=>by
  rcases (hch b hb).1 with z | z
  ·exact hx z
  ·exact absurd (Z2 (Zr e) z) (lt_irrefl _)
 have cellK:∀ x c,X.env.cells.lookup x=some c->∀ v,s.heap.IsCell c v->h'.IsCell c v:=fun x c e v ⟨o,ho,hd⟩=>by
  have nch:c∉ch:=fun z=>(hch c z).2.2.1 x c e rfl;by_cases hc:c∈X.fs
  ·obtain⟨sl,q⟩:=slot c o (I.cne x c e) hc nch ho (I.freeC x c e);exact⟨_,q,hd⟩
  ·exact⟨o,keep c o (I.cne x c e) hc nch ho (I.freeC x c e),hd⟩
 refine⟨I.ok,I.os,hg,⟨fun b o e n hb hx=>?_,fun b o e n hb hx=>?_,fun b o e n hx=>?_,fun b o e hx=>?_,fun b xs e=>tups b xs (I.base.tups b xs e),fun b o xs e=>frzs b o xs (I.base.frzs b o xs e),fun b ps e=>?_⟩,?_,fun x c e=>?_,?_,fun x c e=>?_,fun p hp=>?_,hok,I.len⟩
 ·exact keep b o (neL b o e) hb (neC b o e hx) (I.base.keep b o e n hb hx) (I.base.free b o e n hx)
 ·obtain⟨sl,e1⟩:=I.base.slot b o e n hb hx;obtain⟨sl',e2⟩:=slot b _ (neL b o e) hb (neC b o e hx) e1 (I.base.free b o e n hx);exact⟨sl',e2⟩
 ·obtain⟨o',e1⟩:=I.base.there b o e hx;exact free b o' (neC b o e hx) e1 (I.base.free b o e n hx)
 ·obtain⟨o',e1⟩:=I.base.there b o e hx;exact there b o' (neC b o e hx) e1
 ·obtain⟨m1,e1⟩:=I.base.tbls b ps e;obtain⟨m2,e2⟩:=tbls b _ e1;exact⟨m1++m2,by rw[e2,Array.append_assoc]⟩
 ·obtain⟨m,hn,hl⟩:=I.loc;refine⟨m,ns m hn,fun i x v e1 e2 e3=>?_⟩;obtain⟨u,r,l⟩:=hl i x v e1 e2 e3;refine⟨u,r,?_⟩;rcases l with l | ⟨k,c,e,z⟩
  ·exact .inl l
  ·exact .inr ⟨k,c,e,cellK x c e _ z⟩
 ·obtain⟨v,z⟩:=I.cell x c e;exact⟨v,cellK x c e v z⟩
 ·obtain⟨m,⟨o,_,_,ho,_⟩,_⟩:=I.loc;exact free _ o (fun z=>(hch _ z).2.1 rfl) ho I.free
 ·obtain⟨v,o,ho,hd⟩:=I.cell x c e;exact free c o (fun z=>(hch c z).2.2.1 x c e rfl) ho (I.freeC x c e)
 ·obtain⟨e,n,ne,nf,d⟩:=I.pin p hp;have nch:p.1∉ch:=fun z=>(hch p.1 z).2.2.2 p hp rfl;exact⟨keep p.1 p.2 ne nf nch e n,free p.1 p.2 nch e n,ne,nf,d⟩
theorem Inv.un{t':Nat}(I:Inv X pins σ H s)(u:Un X.fs [] H H' s.heap h')(hok:HOk X.prog X.w H' h'):Inv X pins σ H' { s with heap:=h',toks:=t' }:=by
 obtain⟨m,⟨o,es,ep,ho,r⟩,_⟩:=id I.loc;obtain⟨sl,hL⟩:=u.any ho I.free (by simp)
 exact I.step (g':=s.gens) (d':=s.drawn) (ch:=[]) (fun _ z=>nomatch z) (fun b o _ hb _ e n=>u.keep b o e n hb (by simp)) (fun b o _ hb _ e n=>u.slot b o e n hb (by simp)) (fun b o _ e n=>u.free b o e n (by simp)) (fun b o _ e=>u.there b o e (by simp)) u.tups u.frzs u.tbls (fun m' hm=>by
  obtain⟨o',es',ep',ho',r'⟩:=hm;rw[ho]at ho';cases ho';exact⟨_,es',ep',hL,r'⟩) hok I.bare
theorem Inv.call{g':Array GenState}{t':Nat}{d':Drawn}{ch:List Addr}(I:Inv X pins σ H s)(u:Un (frs X.stack) ch H H' s.heap h')(hok:HOk X.prog X.w H' h')(hg:AllBare g')
  (hch:∀ b∈ch,(b∈X.ex\/X.s₀.heap.objs.size<=b)/\b≠X.env.locals/\(∀ x c,X.env.cells.lookup x=some c->c≠b)/\∀ p∈X.pn++pins,p.1≠b) :
  Inv X pins σ H' { s with heap:=h',gens:=g',drawn:=d',toks:=t' }:=by
 obtain⟨m,⟨o,es,ep,ho,r⟩,_⟩:=id I.loc;obtain⟨sl,hL⟩:=u.any ho I.free fun z=>(hch _ z).2.1 rfl;exact I.step (ch:=ch) hch (fun b o hL hb hc e n=>u.keep b o e n (fun z=>(Zw.mp (I.stkSub b z)).elim hL hb) hc) (fun b o _ _ hc e n=>u.any e n hc) (fun b o hc e n=>u.free b o e n hc) (fun b o hc e=>u.there b o e hc) u.tups u.frzs u.tbls (fun m' hm=>by
  obtain⟨o',es',ep',ho',r'⟩:=hm;rw[ho]at ho';cases ho';exact⟨_,es',ep',hL,r'⟩) hok hg
theorem Inv.turned{t':Nat}{it:Addr}(I:Inv X pins σ H s)(k:∀ b o,b≠it->s.heap.get? b=some o->h'.get? b=some o)(hn:H it=none)(hL:it≠X.env.locals)
  (h1:it∈X.ex\/X.s₀.heap.objs.size<=it) (h2:∀ x c,X.env.cells.lookup x=some c->c≠it) (h3:∀ p∈X.pn++pins,p.1≠it):Inv X pins σ H { s with heap:=h',toks:=t' }:=by
 have nit:∀ b u,H b=some u->b≠it:=fun b u e z=>by rw[z,hn]at e;cases e
 refine I.step (g':=s.gens) (d':=s.drawn) (ch:=[it]) (fun b hb=>?_) (fun b o _ _ hc e _=>k b o (fun z=>hc (by simp[z])) e) (fun b o _ _ hc e _=>⟨o.slots,k b o (fun z=>hc (by simp[z])) e⟩) (fun _ _ _ _ n=>n)
  (fun b o hc e=>⟨o,k b o (fun z=>hc (by simp[z])) e⟩) (fun _ _ e=>e) (fun _ _ _ e=>e) (fun b ps e=>⟨#[],by rw[e];simp⟩) (fun m hm=>?_) (fun b u e=>?_) I.bare
 ·have e:b=it:=by simpa using hb
  subst e;exact⟨h1,hL,h2,h3⟩
 ·obtain⟨o,es,ep,ho,r⟩:=hm;exact⟨o,es,ep,k _ o (Ne.symm hL) ho,r⟩
 ·refine (I.hok b u e).stay (fun c v hc q=>k c v ?_ q) (fun _ q=>q) fun _ _ q=>q;rcases hc with z | z
  ·rw[z];exact nit b u e
  ·exact nit c _ z
theorem Inv.tok(I:Inv X pins σ H s)(t:Nat):Inv X pins σ H { s with toks:=t }:=I.un (h':=s.heap) (t':=t) Un.refl I.hok
theorem Inv.kept(I:Inv X pins σ H s)(k:∀ b u,s.heap.get? b=some u->h'.get? b=some u):Inv X pins σ H { s with heap:=h',toks:=t' }:=I.un (Un.kept k) (I.hok.kept k)
theorem Inv.laid(I:Inv X pins σ H s)(k:∀ b u,s.heap.get? b=some u->h'.get? b=some u)(hp:s.heap.objs.size<=a)(new:ObjOk X.prog X.w (upd H a o) h' a o) :
  Inv X pins σ (upd H a o) { s with heap:=h',toks:=t' }:=I.un (Un.laid k hp (I.hok.fresh hp)) (I.hok.laid k hp new)
theorem Inv.write(I:Inv X pins σ H s)(mu:Mut (H x))(he:e=x\/H e=some (.own x))(k:∀ b u,b≠e->s.heap.get? b=some u->h'.get? b=some u)(heo:∃ u,h'.get? e=some u)
  (new:ObjOk X.prog X.w (upd H x o) h' x o):Inv X pins σ (upd H x o) { s with heap:=h',toks:=t' }:=I.un (Un.write mu he k heo) (I.hok.write mu he k heo new)
theorem Inv.weak(I:Inv X pins σ H s)(hl:σ'.length=σ.length)(w:∀ (i:Nat) v,σ'[i]? = some (some v)->σ[i]? = some (some v)):Inv X pins σ' H s :=
 ⟨I.ok,I.os,I.bare,I.base,let ⟨m,hn,hl'⟩:=I.loc;⟨m,hn,fun i x v e1 e2 e3=>hl' i x v e1 (w i v e2) e3⟩,I.cell,I.free,I.freeC,I.pin,I.hok,hl.trans I.len⟩
theorem Inv.pins_of(I:Inv X pins σ H s)(h:∀ p∈pins',s.heap.get? p.1=some p.2/\H p.1=none/\p.1≠X.env.locals/\p.1∉X.fs/\∀ v,p.2.data≠.cell v):Inv X pins' σ H s :=
 ⟨I.ok,I.os,I.bare,I.base,I.loc,I.cell,I.free,I.freeC,fun p hp=>(Z0.mp hp).elim (fun z=>I.pin p (mem_append_left _ z)) (h p),I.hok,I.len⟩
theorem Q4c{N:List Str}(hN:N.Nodup){i j:Nat}{x:Str}(a:N[i]? = some x)(b:N[j]? = some x):i=j:=by
 obtain⟨h1,e1⟩:=Zj.mp a;obtain⟨h2,e2⟩:=Zj.mp b;exact (List.getElem_inj hN).mp (e1.trans e2.symm)
theorem Q2V{M:Model}{A:Around}{E:Value->Shared->Prop}{i:Nat}{x:Str}{v:V}{u:Value}{Q:Unit->Shared->Prop}(I:Inv X pins σ H s)(hN:X.N.Nodup)(hi:X.N[i]? = some x)(hx:Loc X.env.scope x)(r:RelV v u)
  (h:∀ s',Inv X pins (σ.set i (some v)) H s'->(∃ a,Heap.SameBut a s.heap s'.heap/\(a=X.env.locals\/X.env.cells.lookup x=some a))->Q () s') (hf:X.fn x=true\/X.env.scope.names.lookup x=some .local:=by first | exact .inl rfl | exact .inr rfl | assumption):wpAny M A (storeName X.env x u) Q E s:=by
 obtain⟨m,hn,hl⟩:=id I.loc;have hcls:(X.env.scope.kind==.class||(X.env.scope.kind==.module&&X.env.locals != X.env.globals))=false:=by rw[I.ok.kind];rfl
 have hiσ:i<σ.length:=by rw[I.len];exact (Zj.mp hi).1
 have cne:=I.cne;have tracked:∀ {a:Addr} {h':Heap},(∃ o,s.heap.get? a=some o/\H a=none)->Heap.SameBut a s.heap h'->HOk X.prog X.w H h':=fun{a h'} ha hs b ob e=>by
  obtain⟨_,_,hfree⟩:=ha;refine (I.hok b ob e).stay (fun c w' hc q=>(hs.2 c ?_).trans q) (fun _ q=>q) fun _ _ q=>q;rintro rfl;rcases hc with rfl | hc
  ·rw[hfree]at e;cases e
  ·rw[hfree]at hc;cases hc
 rcases hx with hk | hk
 ·refine wpAny_storeName_local hk hn (fun h' hn' hs=>?_) hcls;obtain⟨oL,_,_,hoL,_⟩:=id hn;refine h _ ⟨I.ok,I.os,I.bare,⟨fun b o e n hb hx=>?_,fun b o e n hb hx=>?_,I.base.free,fun b o e hx=>?_,I.base.tups,I.base.frzs,I.base.tbls⟩,⟨_,hn',fun j y v' e1 e2 e3=>?_⟩,fun y c e=>?_,I.free,I.freeC,fun p hp=>?_,tracked ⟨oL,hoL,I.free⟩ hs,by simpa using I.len⟩ ⟨_,hs,.inl rfl⟩
  ·exact (hs.2 b (ZO (Z2 (Zr e) I.ok.above))).trans (I.base.keep b o e n hb hx)
  ·obtain⟨sl,e1⟩:=I.base.slot b o e n hb hx;exact⟨sl,(hs.2 b (ZO (Z2 (Zr e) I.ok.above))).trans e1⟩
  ·obtain⟨o',e1⟩:=I.base.there b o e hx;exact⟨o',(hs.2 b (ZO (Z2 (Zr e) I.ok.above))).trans e1⟩
  ·by_cases hj:j=i
   ·subst hj;rw[hi]at e1;cases e1;rw[List.getElem?_set_self hiσ]at e2;cases e2;exact⟨u,r,.inl ⟨hk,by simp⟩⟩
   ·rw[List.getElem?_set_ne (Ne.symm hj)]at e2;obtain⟨u',r',q⟩:=hl j y v' e1 e2 e3;refine⟨u',r',?_⟩;rcases q with ⟨k,e⟩ | ⟨k,c,e,z⟩
    ·refine .inl ⟨k,?_⟩;have:y≠x:=fun e=>hj (Q4c hN e1 (e ▸ hi));simp[this,e]
    ·exact .inr ⟨k,c,e,z.sameBut hs (cne y c e)⟩
  ·obtain⟨w',z⟩:=I.cell y c e;exact⟨w',z.sameBut hs (cne y c e)⟩
  ·obtain⟨e,n,ne,nf,d⟩:=I.pin p hp;exact⟨(hs.2 p.1 ne).trans e,n,ne,nf,d⟩
 ·have hfn:X.fn x=true:=by
   rcases hf with z | z
   ·exact z
   ·rw[z]at hk;cases hk
  obtain⟨c,hc⟩:=I.ok.has x (.inl hk);obtain⟨w',z⟩:=I.cell x c hc;refine wpAny_storeName_cell I.ok.kind hk hc z (fun h' hc' hs=>?_);obtain⟨oc,hoc,hocd⟩:=id z;refine h { s with heap:=h' } ⟨I.ok,I.os,I.bare,⟨fun b o e n hb hx=>?_,fun b o e n hb hx=>?_,I.base.free,fun b o e hx=>?_,I.base.tups,I.base.frzs,I.base.tbls⟩,⟨m,hn.sameBut hs (Ne.symm (cne x c hc)),fun j y v' e1 e2 e3=>?_⟩,fun y c' e=>?_,I.free,I.freeC,fun p hp=>?_,tracked ⟨oc,hoc,I.freeC x c hc⟩ hs,by simpa using I.len⟩ ⟨c,hs,.inr hc⟩
  ·exact (hs.2 b (ZO (Z2 (Zr e) (I.ok.cab x c hfn hc)))).trans (I.base.keep b o e n hb hx)
  ·obtain⟨sl,e1⟩:=I.base.slot b o e n hb hx;exact⟨sl,(hs.2 b (ZO (Z2 (Zr e) (I.ok.cab x c hfn hc)))).trans e1⟩
  ·obtain⟨o',e1⟩:=I.base.there b o e hx;exact⟨o',(hs.2 b (ZO (Z2 (Zr e) (I.ok.cab x c hfn hc)))).trans e1⟩
  ·by_cases hj:j=i
   ·subst hj;rw[hi]at e1;cases e1;rw[List.getElem?_set_self hiσ]at e2;cases e2;exact⟨u,r,.inr ⟨.inl hk,c,hc,hc'⟩⟩
   ·rw[List.getElem?_set_ne (Ne.symm hj)]at e2;obtain⟨u',r',q⟩:=hl j y v' e1 e2 e3;refine⟨u',r',?_⟩;rcases q with q | ⟨k,c',e,z'⟩
    ·exact .inl q
    ·refine .inr ⟨k,c',e,z'.sameBut hs ?_⟩;rintro rfl;exact hj (Q4c hN e1 (I.ok.inj _ _ _ e hc ▸ hi))
  ·by_cases hcc:c'=c
   ·subst hcc;exact⟨_,hc'⟩
   ·obtain⟨w2,z2⟩:=I.cell y c' e;exact⟨w2,z2.sameBut hs hcc⟩
  ·obtain⟨e,n,ne,nf,d⟩:=I.pin p hp;refine⟨(hs.2 p.1 ?_).trans e,n,ne,nf,d⟩;intro q;rw[q,hoc]at e;have q':oc=p.2:=ZB e;exact d w' (by rw[<- q'];exact hocd)
theorem Q4d{E:Value->Shared->Prop}{Q:Unit->Shared->Prop}(I:Inv X pins σ H s)(hN:X.N.Nodup)(hi:X.N[i]? = some x)(hx:Loc X.env.scope x)(r:RelV v u)
  (h:∀ s',Inv X pins (σ.set i (some v)) H s'->Q () s') (hf:X.fn x=true\/X.env.scope.names.lookup x=some .local:=by first | exact .inl rfl | exact .inr rfl | assumption):wpAny M A (storeName X.env x u) Q E s :=
 Q2V I hN hi hx r (fun s' I' _=>h s' I') hf
theorem Inv.call'(I:Inv X pins σ H s)(ho:s'.os=s.os)(u:Un (frs X.stack) ch H H' s.heap s'.heap)(hok:HOk X.prog X.w H' s'.heap)(hg:AllBare s'.gens)
  (hch:∀ b∈ch,(b∈X.ex\/X.s₀.heap.objs.size<=b)/\b≠X.env.locals/\(∀ x c,X.env.cells.lookup x=some c->c≠b)/\∀ p∈X.pn++pins,p.1≠b):Inv X pins σ H' s':=by
 obtain⟨h',g',d',t',o'⟩:=s';have e:o'=s.os:=ho;subst e;exact I.call (g':=g') (t':=t') (d':=d') u hok hg hch
end
noncomputable abbrev XK:=Value->Option Addr->Hp->Prop
noncomputable abbrev St:=List (Option V)
noncomputable abbrev VK:=V->Hp->Prop
noncomputable abbrev TE:=St->Hp->VK->Prop
noncomputable abbrev TT:=St->Hp->(Bool->Hp->Prop)->Prop
noncomputable abbrev TA:=St->Hp->(List V->Hp->Prop)->Prop
structure Ends where
 nx:St->Hp->Prop
 rt:VK
 bk:St->Hp->Prop:=fun _ _=>False
 ct:St->Hp->Prop:=fun _ _=>False
noncomputable abbrev TS:=Ends->St->Hp->Prop
noncomputable def EP(X:Cx)(pins:List (Addr×Obj))(σ:St)(Q:VK)(u:Value)(s':Shared):Prop:=∃ v H',Inv X pins σ H' s'/\RelV v u/\Q v H'
noncomputable def TP(X:Cx)(pins:List (Addr×Obj))(σ:St)(Q:Bool->Hp->Prop)(b:Bool)(s':Shared):Prop:=∃ H',Inv X pins σ H' s'/\Q b H'
noncomputable def AP(X:Cx)(pins:List (Addr×Obj))(σ:St)(Q:List V->Hp->Prop)(us:List Value)(s':Shared):Prop:=∃ vs H',Inv X pins σ H' s'/\Vals vs us/\Q vs H'
noncomputable def SP(X:Cx)(pins:List (Addr×Obj))(D:Ends)(f:Flow)(s':Shared):Prop :=
 match f with
 | .next=>∃ σ' H',Inv X pins σ' H' s'/\D.nx σ' H'
 | .brk=>∃ σ' H',Inv X pins σ' H' s'/\D.bk σ' H'
 | .cont=>∃ σ' H',Inv X pins σ' H' s'/\D.ct σ' H'
 | .ret u=>∃ v σ' H',Inv X pins σ' H' s'/\RelV v u/\D.rt v H'
noncomputable def PE(X:Cx)(e:Expr)(t:TE):Prop :=
 ∀ (pins:List (Addr×Obj)) (s:Shared) (σ:St) (H:Hp) (Q:VK),Inv X pins σ H s->t σ H Q->wpAny (model X.prog X.w) X.A (eval e X.env) (EP X pins σ Q) X.xe s
noncomputable def PT(X:Cx)(e:Expr)(t:TT):Prop :=
 ∀ (pins:List (Addr×Obj)) (s:Shared) (σ:St) (H:Hp) (Q:Bool->Hp->Prop),Inv X pins σ H s->t σ H Q->wpAny (model X.prog X.w) X.A (isTrue e X.env (eval e X.env)) (TP X pins σ Q) X.xe s
noncomputable def PW(X:Cx)(e:Expr)(t:TT):Prop :=
 ∀ (whole:Sem Value) (pins:List (Addr×Obj)) (s:Shared) (σ:St) (H:Hp) (Q:Bool->Hp->Prop),Inv X pins σ H s->t σ H Q->wpAny (model X.prog X.w) X.A (isTrue e X.env whole) (TP X pins σ Q) X.xe s
theorem PW.pt(h:PW X e t):PT X e t:=h _
noncomputable def PA(X:Cx)(es:List Expr)(t:TA):Prop :=
 ∀ (pos:Pos) (pins:List (Addr×Obj)) (s:Shared) (σ:St) (H:Hp) (Q:List V->Hp->Prop),Inv X pins σ H s->t σ H Q->wpAny (model X.prog X.w) X.A (spliced (backTo pos (starEach es X.env))) (AP X pins σ Q) X.xe s
noncomputable def PS(X:Cx)(st:Stmt)(t:TS):Prop :=
 ∀ (pins:List (Addr×Obj)) (s:Shared) (σ:St) (H:Hp) (D:Ends),Inv X pins σ H s->t D σ H->wpAny (model X.prog X.w) X.A (exec st X.env) (SP X pins D) X.xe s
noncomputable def PSs(X:Cx)(st:List Stmt)(t:TS):Prop :=
 ∀ (pins:List (Addr×Obj)) (s:Shared) (σ:St) (H:Hp) (D:Ends),Inv X pins σ H s->t D σ H->wpAny (model X.prog X.w) X.A (execs st X.env) (SP X pins D) X.xe s
theorem thn{α:Type}{t:Sem α}{Q Q':α->Shared->Prop}{M:Model}{A:Around}{E:Value->Shared->Prop}{s:Shared}(h:wpAny M A t Q E s)(hQ:∀ a s,Q a s->Q' a s):wpAny M A t Q' E s:=ZY h hQ fun _ _ x=>x
section
variable{X:Cx}
theorem bin{a b:Expr}{ta tb:TE}(ha:PE X a ta)(hb:PE X b tb){pins:List (Addr×Obj)}{s:Shared}{σ:St}{H:Hp}{R:V->V->Hp->Prop}(I:Inv X pins σ H s)(h:ta σ H fun x H1=>tb σ H1 fun y H2=>R x y H2)
  {α:Type} {Q:α->Shared->Prop} {f:Value->Value->Sem α}
  (hf:∀ v u s2 x y H2,Inv X pins σ H2 s2->RelV x v->RelV y u->R x y H2->wpAny (model X.prog X.w) X.A (f v u) Q X.xe s2) :
  wpAny (model X.prog X.w) X.A (eval a X.env) (fun v s₁=>wpAny (model X.prog X.w) X.A (eval b X.env) (fun u s₂=>wpAny (model X.prog X.w) X.A (f v u) Q X.xe s₂) X.xe s₁) X.xe s:=by
 refine thn (ha pins s σ H _ I h) fun v s1 ⟨x,H1,I1,r1,q1⟩=>?_;refine thn (hb pins s1 σ H1 _ I1 q1) fun u s2 ⟨y,H2,I2,r2,q2⟩=>?_;exact hf v u s2 x y H2 I2 r1 r2 q2
noncomputable def tVar(i:Nat):TE:=fun σ H Q=>∃ v,σ[i]? = some (some v)/\Q v H
noncomputable def tC(v:V):TE:=fun _ H Q=>Q v H
theorem Q8t(hN:X.N[i]? = some x)(hv:Vis X.env.scope x)(hd:(x==("__debug__" : Str))=false:=by decide)(hcd:(x==("__classdict__" : Str))=false:=by decide):PE X (.Name x pos) (tVar i):=by
 intro pins s σ H Q I h;obtain⟨v,e,h⟩:=h;obtain⟨m,hn,hl⟩:=I.loc;obtain⟨u,r,l⟩:=hl i x v hN e hv;have fin:EP X pins σ Q u s:=⟨v,H,I,r,h⟩;rcases l with ⟨hk,hm⟩ | ⟨hk,c,hc,hcell⟩
 ·exact wpAny_Name (wpAny_loadName_local I.ok.kind hk hn hm fin) hd
 ·rcases hk with hk | hk
  ·exact wpAny_Name (wpAny_loadName_cell I.ok.kind hk hc hcell fin) hd
  ·exact wpAny_Name (wpAny_loadName_free I.ok.kind hk hc hcell fin hcd) hd
theorem Qat{i j pos}:PE X (.Constant (.int i) j pos) (tC (.int i)):=fun _ _ _ H _ I h=>wpAny_Constant_int ⟨.int i,H,I.tok _,⟨_,rfl⟩,h⟩
theorem pe_bl{b j pos}:PE X (.Constant (.bool b) j pos) (tC (.bl b)):=fun _ _ _ H _ I h=>Constant_bool ⟨.bl b,H,I,rfl,h⟩
theorem Qau{j pos}:PE X (.Constant .none j pos) (tC .non):=fun _ _ _ H _ I h=>Constant_none ⟨.non,H,I,rfl,h⟩
theorem Qav{x j pos}:PE X (.Constant (.str x) j pos) (tC (.str x)):=fun _ _ _ H _ I h=>Calls.Constant_str ⟨.str x,H,I.tok _,⟨_,rfl⟩,h⟩
noncomputable def Gl(X:Cx)(x:Str):Prop:=X.env.kindOf x=some .globalImplicit
theorem Q3L{E:Value->Shared->Prop}{Q:Value->Shared->Prop}(I:Inv X pins σ H s)(hg:Gl X x)(hm:X.mg x=some u)(h:Q u s)
  (hd:(x==("__debug__" : Str))=false:=by decide):wpAny (model X.prog X.w) X.A (eval (.Name x pos) X.env) Q E s :=
 Calls.Name_function_global I.ok.kind hg (Calls.loadGlobal_global (by rw[I.ok.glob];exact I.mod.glob.keeps I.bk) hm h) hd
theorem Q2W{E:Value->Shared->Prop}{Q:Value->Shared->Prop}(I:Inv X pins σ H s)(hg:Gl X x)(hm:X.mg x=none)(hv:bootBuiltins x=some u)(h:Q u s)
  (hn:x ≠ "__name__":=by decide) (hd:(x==("__debug__" : Str))=false:=by decide):wpAny (model X.prog X.w) X.A (eval (.Name x pos) X.env) Q E s:=by
 obtain⟨mb,h1,h2⟩:=I.mod.blt;exact Calls.Name_function_global I.ok.kind hg (Calls.loadGlobal_builtin (by rw[I.ok.glob];exact I.mod.glob.keeps I.bk) hm (by rw[I.ok.blt];exact h1.keeps I.bk) ((h2 x hn).trans hv) h) hd
theorem Q8O(hg:Gl X x)(hm:X.mg x=some u)(r:RelV v u)(hd:(x==("__debug__" : Str))=false:=by decide):PE X (.Name x pos) (tC v) :=
 fun _ _ _ H _ I h=>Q3L I hg hm ⟨v,H,I,r,h⟩ hd
theorem Q8P(hg:Gl X x)(hm:X.mg x=none)(hv:bootBuiltins x=some u)(r:RelV v u)(hn:x ≠ "__name__":=by decide)(hd:(x==("__debug__" : Str))=false:=by decide):PE X (.Name x pos) (tC v) :=
 fun _ _ _ H _ I h=>Q2W I hg hm hv ⟨v,H,I,r,h⟩ hn hd
variable{a b:Expr}{ta tb:TE}{pos:Pos}
noncomputable def tB(t:TE):TT:=fun σ H Q=>t σ H fun x H1=>∃ c,x=.bl c/\Q c H1
theorem Qaw{e:Expr}{t:TE}(h:PE X e t)(he:∀ whole,isTrue e X.env whole=(do let v <- whole;standAt e.pos;holding [v] (truthy v)):=by intro _;rfl):PT X e (tB t):=by
 intro pins s σ H Q I hw;refine isTrue_plain (thn (h pins s σ H _ I hw) fun v s1 ⟨x,H1,I1,r1,q1⟩=>?_) (he _);obtain⟨d,rfl,q⟩:=q1;cases r1;exact Yc ⟨H1,I1,q⟩
variable{tA tB':TT}{rest:List Expr}
noncomputable def tAnd(t u:TT):TT:=fun σ H Q=>t σ H fun c H1=>if c=true then u σ H1 Q else Q false H1
noncomputable def tOr(t u:TT):TT:=fun σ H Q=>t σ H fun c H1=>if c=true then Q true H1 else u σ H1 Q
noncomputable def tNot(t:TT):TT:=fun σ H Q=>t σ H fun c H1=>Q (!c) H1
theorem Q8Q(ha:PT X a tA):PW X (.BoolOp .And [a] pos) tA:=by
 intro wh pins s σ H Q I h;refine isTrue_and (thn (ha pins s σ H Q I h) fun c s1 e=>?_);cases c with
 | true=>exact isTrue_and_nil e
 | false=>exact e
theorem Qax(ha:PT X a tA):PW X (.BoolOp .Or [a] pos) tA:=by
 intro wh pins s σ H Q I h;refine isTrue_or (thn (ha pins s σ H Q I h) fun c s1 e=>?_);cases c with
 | false=>exact isTrue_or_nil e
 | true=>exact e
theorem Qay(ha:PT X a tA)(hb:PW X (.BoolOp .And (b::rest) pos) tB'):PW X (.BoolOp .And (a::b::rest) pos) (tAnd tA tB'):=by
 intro wh pins s σ H Q I h;refine isTrue_and (thn (ha pins s σ H _ I h) fun c s1 ⟨H1,I1,q1⟩=>?_);cases c with
 | true=>exact hb wh pins s1 σ H1 Q I1 q1
 | false=>exact⟨H1,I1,q1⟩
theorem pw_or(ha:PT X a tA)(hb:PW X (.BoolOp .Or (b::rest) pos) tB'):PW X (.BoolOp .Or (a::b::rest) pos) (tOr tA tB'):=by
 intro wh pins s σ H Q I h;refine isTrue_or (thn (ha pins s σ H _ I h) fun c s1 ⟨H1,I1,q1⟩=>?_);cases c with
 | true=>exact⟨H1,I1,q1⟩
 | false=>exact hb wh pins s1 σ H1 Q I1 q1
theorem Qaz(ha:PT X a tA):PT X (.UnaryOp .Not a pos) (tNot tA):=by
 intro pins s σ H Q I h;exact isTrue_not (ha pins s σ H (fun c H1=>Q (!c) H1) I h)
noncomputable def tAndV(ta tb:TE):TE:=fun σ H Q=>ta σ H fun x H1=>∃ c,x=.bl c/\if c=true then tb σ H1 Q else Q (.bl false) H1
noncomputable def tOrV(ta tb:TE):TE:=fun σ H Q=>ta σ H fun x H1=>∃ c,x=.bl c/\if c=true then Q (.bl true) H1 else tb σ H1 Q
noncomputable def tNotV(ta:TE):TE:=fun σ H Q=>ta σ H fun x H1=>∃ c,x=.bl c/\Q (.bl (!c)) H1
theorem QaA{op}(h:PE X a t):PE X (.BoolOp op [a] pos) t:=fun pins s σ H Q I hw=>BoolOp_one (h pins s σ H Q I hw)
theorem QaB(ha:PE X a ta)(hb:PE X (.BoolOp .And (b::rest) pos) tb):PE X (.BoolOp .And (a::b::rest) pos) (tAndV ta tb):=by
 intro pins s σ H Q I h;refine BoolOp_and (thn (ha pins s σ H _ I h) fun v s1 ⟨x,H1,I1,r1,q1⟩=>?_);obtain⟨c,rfl,q1⟩:=q1;cases r1;refine Yc ?_;cases c with
 | true=>exact hb pins s1 σ H1 Q I1 q1
 | false=>exact⟨.bl false,H1,I1,rfl,q1⟩
theorem pe_or(ha:PE X a ta)(hb:PE X (.BoolOp .Or (b::rest) pos) tb):PE X (.BoolOp .Or (a::b::rest) pos) (tOrV ta tb):=by
 intro pins s σ H Q I h;refine BoolOp_or (thn (ha pins s σ H _ I h) fun v s1 ⟨x,H1,I1,r1,q1⟩=>?_);obtain⟨c,rfl,q1⟩:=q1;cases r1;refine Yc ?_;cases c with
 | false=>exact hb pins s1 σ H1 Q I1 q1
 | true=>exact⟨.bl true,H1,I1,rfl,q1⟩
theorem QaC(ha:PE X a ta):PE X (.UnaryOp .Not a pos) (tNotV ta):=by
 intro pins s σ H Q I h;refine UnaryOp_ (thn (ha pins s σ H _ I h) fun v s1 ⟨x,H1,I1,r1,q1⟩=>?_);obtain⟨c,rfl,q1⟩:=q1;cases r1;exact not_of (Yc ⟨.bl (!c),H1,I1,rfl,q1⟩)
noncomputable def tIf(t:TT)(ta tb:TE):TE:=fun σ H Q=>t σ H fun c H1=>if c=true then ta σ H1 Q else tb σ H1 Q
theorem Q6M{c:Expr}(hc:PT X c tA)(ha:PE X a ta)(hb:PE X b tb):PE X (.IfExp c a b pos) (tIf tA ta tb):=by
 intro pins s σ H Q I h;refine wpAny_IfExp (thn (hc pins s σ H _ I h) fun d s1 ⟨H1,I1,q1⟩=>?_);cases d with
 | true=>exact ha pins s1 σ H1 Q I1 q1
 | false=>exact hb pins s1 σ H1 Q I1 q1
end
noncomputable def SqL(K:Frag)(H:Hp)(a:Addr)(xs:List V):Prop :=
 Rd H a (.lst xs) \/
  ∃ (o:Obj) (its:Array Value) (n:Nat),K.lookup a=some o/\o.cls=.type "list" /\ o.dict=none/\o.data=.seq its n/\its.size<=sizeLine/\Vals xs its.toList
noncomputable def SqT(K:Frag)(H:Hp)(a:Addr)(xs:List V):Prop :=
 Rd H a (.tup xs) \/
  ∃ (o:Obj) (its:Array Value) (n:Nat),K.lookup a=some o/\o.cls=.type "tuple" /\ o.data=.seq its n/\its.size<=sizeLine/\Vals xs its.toList
noncomputable def absV:Value->Option V
 | .none=>some .non
 | .bool b=>some (.bl b)
 | .int i _=>some (.int i)
 | .str x _=>some (.str x)
 | .bytes b _=>some (.byt b)
 | .float b _=>some (.flt b)
 | .ref a=>some (.ref a)
 | .type n=>some (.ty n)
 | _=>none
theorem RelV.abs(r:RelV x u):absV u=some x:=by
 cases x with
 | non=>cases r;rfl
 | bl _=>cases r;rfl
 | int _=>obtain⟨t,rfl⟩:=r;rfl
 | str _=>obtain⟨t,rfl⟩:=r;rfl
 | byt _=>obtain⟨t,rfl⟩:=r;rfl
 | flt _=>obtain⟨t,rfl⟩:=r;rfl
 | ref _=>cases r;rfl
 | ty _=>cases r;rfl
theorem RelV.inj(r:RelV x u)(q:RelV y u):x=y:=ZB (r.abs.symm.trans q.abs)
theorem Vals.inj:∀ {xs ys:List V} {us:List Value},Vals xs us->Vals ys us->xs=ys
 | _,_,_,.nil,.nil=>rfl
 | _,_,_,.cons r t,.cons r' t'=>by rw[r.inj r',Vals.inj t t']
section
variable{X:Cx}{pins:List (Addr×Obj)}{σ:St}{H:Hp}{s:Shared}{a:Addr}{xs ys:List V}
theorem SqL.of{K:Frag}(h:H a=some (.lst xs)):SqL K H a xs:=.inl (.inl h)
theorem SqT.of{K:Frag}(h:H a=some (.tup xs)):SqT K H a xs:=.inl (.inl h)
theorem Inv.list(I:Inv X pins σ H s)(h:SqL X.K H a xs):∃ its:List Value,Vals xs its/\PlainL s.heap a its.toArray/\xs.length<=sizeLine:=by
 rcases h with h | ⟨o,its,n,hk,hc,hd,hs,hz,r⟩
 ·obtain⟨z,its,n,r,e⟩:=h.ok I.hok;exact⟨its,r,⟨_,n,e,rfl,rfl,rfl⟩,z⟩
 ·refine⟨its.toList,r,⟨o,n,I.kIn a o hk,hc,hd,by simpa using hs⟩,?_⟩
  have e:=r.length;simp only[ZJ]at e;omega
theorem Inv.tuple(I:Inv X pins σ H s)(h:SqT X.K H a xs):∃ its:List Value,Vals xs its/\IsTup s.heap a its.toArray/\xs.length<=sizeLine:=by
 rcases h with h | ⟨o,its,n,hk,hc,hs,hz,r⟩
 ·obtain⟨z,its,r,p⟩:=h.ok I.hok;exact⟨its,r,p,z⟩
 ·refine⟨its.toList,r,⟨o,I.kIn a o hk,hc,n,by simpa using hs⟩,?_⟩
  have e:=r.length;simp only[ZJ]at e;omega
theorem Inv.list_inj(I:Inv X pins σ H s)(h:SqL X.K H a xs)(h':SqL X.K H a ys):xs=ys:=by
 obtain⟨its,r,⟨o,n,e,_,_,d⟩,_⟩:=I.list h;obtain⟨its',r',⟨o',n',e',_,_,d'⟩,_⟩:=I.list h';rw[e]at e';cases e';rw[d]at d';injection d' with d1 _;have:its=its':=by simpa using congrArg Array.toList d1
 subst this;exact r.inj r'
theorem Inv.tuple_inj(I:Inv X pins σ H s)(h:SqT X.K H a xs)(h':SqT X.K H a ys):xs=ys:=by
 obtain⟨its,r,⟨o,e,_,n,d⟩,_⟩:=I.tuple h;obtain⟨its',r',⟨o',e',_,n',d'⟩,_⟩:=I.tuple h';rw[e]at e';cases e';rw[d]at d';injection d' with d1 _;have:its=its':=by simpa using congrArg Array.toList d1
 subst this;exact r.inj r'
end
noncomputable abbrev Cx.wish(X:Cx)(E:Value->Shared->Prop):Cx:={ X with xe:=E }
noncomputable abbrev Cx.nox(X:Cx):Cx:=X.wish fun _ _=>False
theorem Cx.Ok.wish{X:Cx}(ok:X.Ok)(E:Value->Shared->Prop):(X.wish E).Ok :=
 ⟨ok.mod,ok.kind,ok.glob,ok.blt,ok.above,ok.inj,ok.has,ok.cab,ok.hd,ok.frames,ok.stk,ok.exf,ok.bs,ok.bsz,ok.noex,ok.exfs,ok.funs,ok.frf⟩
theorem Cx.Ok.unwish{X:Cx}{E:Value->Shared->Prop}(ok:(X.wish E).Ok):X.Ok :=
 ⟨ok.mod,ok.kind,ok.glob,ok.blt,ok.above,ok.inj,ok.has,ok.cab,ok.hd,ok.frames,ok.stk,ok.exf,ok.bs,ok.bsz,ok.noex,ok.exfs,ok.funs,ok.frf⟩
section
variable{X:Cx}{pins:List (Addr×Obj)}{σ:St}{H:Hp}{s:Shared}{E:Value->Shared->Prop}
theorem Inv.wish(I:Inv X pins σ H s)(E:Value->Shared->Prop):Inv (X.wish E) pins σ H s:=⟨I.ok.wish E,I.os,I.bare,I.base,I.loc,I.cell,I.free,I.freeC,I.pin,I.hok,I.len⟩
theorem Inv.unwish(I:Inv (X.wish E) pins σ H s):Inv X pins σ H s:=⟨I.ok.unwish,I.os,I.bare,I.base,I.loc,I.cell,I.free,I.freeC,I.pin,I.hok,I.len⟩
theorem SP.unwish(h:SP (X.wish E) pins D f s'):SP X pins D f s':=by
 cases f with
 | next=>obtain⟨σ',H',I,q⟩:=h;exact⟨σ',H',I.unwish,q⟩
 | brk=>obtain⟨σ',H',I,q⟩:=h;exact⟨σ',H',I.unwish,q⟩
 | cont=>obtain⟨σ',H',I,q⟩:=h;exact⟨σ',H',I.unwish,q⟩
 | ret u=>obtain⟨v,σ',H',I,r,q⟩:=h;exact⟨v,σ',H',I.unwish,r,q⟩
theorem PE.nox(h:PE X.nox e t):PE X e t:=fun pins s σ H Q I hw =>
 ZY (h pins s σ H Q (I.wish _) hw) (fun _ _ ⟨v,H',I',r,q⟩=>⟨v,H',I'.unwish,r,q⟩) fun _ _ z=>False.elim z
theorem PT.nox(h:PT X.nox e t):PT X e t:=fun pins s σ H Q I hw =>
 ZY (h pins s σ H Q (I.wish _) hw) (fun _ _ ⟨H',I',q⟩=>⟨H',I'.unwish,q⟩) fun _ _ z=>False.elim z
theorem PSs.nox{st:List Stmt}{t:TS}(h:PSs X.nox st t):PSs X st t:=fun pins s σ H D I hw =>
 ZY (h pins s σ H D (I.wish _) hw) (fun _ _ q=>q.unwish) fun _ _ z=>False.elim z
end
section
variable{X:Cx}{st:Stmt}{rest:List Stmt}{t u:TS}{e:Expr}{te:TE}{pos:Pos}
noncomputable def tNext:TS:=fun D σ H=>D.nx σ H
noncomputable def tSeq(t u:TS):TS:=fun D σ H=>t { D with nx:=u D } σ H
theorem Q8R:PSs X [] tNext:=fun _ _ σ H _ I h=>wpAny_execs_nil ⟨σ,H,I,h⟩
theorem Q6N(h1:PS X st t)(h2:PSs X rest u):PSs X (st::rest) (tSeq t u):=by
 intro pins s σ H D I h;refine wpAny_execs_cons (thn (h1 pins s σ H { D with nx:=u D } I h) fun f s1 q=>?_);cases f with
 | next =>
  obtain⟨σ',H',I',q⟩:=q;exact h2 pins s1 σ' H' D I' q
 | ret v=>exact q
 | brk=>exact q
 | cont=>exact q
noncomputable def tBreak:TS:=fun D σ H=>D.bk σ H
noncomputable def tCont:TS:=fun D σ H=>D.ct σ H
theorem Inv.quiet(I:Inv X pins σ H s):interactive X.env=false:=by simp[interactive,I.ok.kind]
noncomputable def tDrop(te:TE):TS:=fun D σ H=>te σ H fun _ H1=>D.nx σ H1
theorem Q8S(he:PE X e te)(hs:swapsWith e none pos.line X.env=pure false:=by rfl):PS X (.Expr e pos) (tDrop te):=by
 intro pins s σ H D I h;exact wpAny_Expr_any (thn (he pins s σ H _ I h) fun v s1 ⟨x,H1,I1,r1,q1⟩=>⟨σ,H1,I1,q1⟩) I.quiet hs
noncomputable def tRet(te:TE):TS:=fun D σ H=>te σ H D.rt
theorem QaD(he:PE X e te):PS X (.Return (some e) pos) (tRet te):=by
 intro pins s σ H D I h;exact wpAny_Return_some (thn (he pins s σ H _ I h) fun v s1 ⟨x,H1,I1,r1,q1⟩=>⟨x,σ,H1,I1,r1,q1⟩)
noncomputable def tRetN:TS:=fun D _ H=>D.rt .non H
noncomputable def tIfS(c:TT)(t u:TS):TS:=fun D σ H=>c σ H fun b H1=>if b=true then t D σ H1 else u D σ H1
theorem ps_if{c:Expr}{a b:List Stmt}{tc:TT}(hc:PT X c tc)(ha:PSs X a t)(hb:PSs X b u):PS X (.If c a b pos) (tIfS tc t u):=by
 intro pins s σ H D I h;refine wpAny_If (thn (hc pins s σ H _ I h) fun d s1 ⟨H1,I1,q1⟩=>?_);cases d with
 | true=>exact ha pins s1 σ H1 D I1 q1
 | false=>exact hb pins s1 σ H1 D I1 q1
end
noncomputable abbrev TG:=V->St->Hp->(St->Hp->Prop)->Prop
noncomputable abbrev TGs:=List V->St->Hp->(St->Hp->Prop)->Prop
noncomputable def PG(X:Cx)(target:Expr)(t:TG):Prop :=
 ∀ (pins:List (Addr×Obj)) (s:Shared) (σ:St) (H:Hp) (v:V) (u:Value) (Q:St->Hp->Prop),Inv X pins σ H s->RelV v u->t v σ H Q ->
  wpAny (model X.prog X.w) X.A (assign target X.env u) (fun _ s'=>∃ σ' H',Inv X pins σ' H' s'/\Q σ' H') X.xe s
noncomputable def PGs(X:Cx)(ts:List Expr)(t:TGs):Prop :=
 ∀ (pins:List (Addr×Obj)) (s:Shared) (σ:St) (H:Hp) (vs:List V) (us:List Value) (Q:St->Hp->Prop),Inv X pins σ H s->Vals vs us->t vs σ H Q ->
  wpAny (model X.prog X.w) X.A (assignInOrder ((assignEach ts X.env).map (·.2)) us) (fun _ s'=>∃ σ' H',Inv X pins σ' H' s'/\Q σ' H') X.xe s
noncomputable abbrev TSet:=V->V->V->Hp->(Hp->Prop)->Prop
noncomputable def PSet(X:Cx)(t:TSet):Prop :=
 ∀ (pins:List (Addr×Obj)) (s:Shared) (σ:St) (H:Hp) (o i v:V) (ov iv u:Value) (Q:Hp->Prop),Inv X pins σ H s->RelV o ov->RelV i iv->RelV v u->t o i v H Q ->
  wpAny (model X.prog X.w) X.A (setItem ov iv u) (fun _ s'=>∃ H',Inv X pins σ H' s'/\Q H') X.xe s
section
variable{X:Cx}{pos:Pos}
noncomputable def zaR(i:Nat):TG:=fun v σ H Q=>Q (σ.set i (some v)) H
theorem Q5d(hN:X.N.Nodup)(hi:X.N[i]? = some x)(hx:Loc X.env.scope x)(hf:X.fn x=true\/X.env.scope.names.lookup x=some .local:=by first | exact .inl rfl | exact .inr rfl | assumption):PG X (.Name x pos) (zaR i):=by
 intro pins s σ H v u Q I r h;exact wpAny_assign_Name (Q4d I hN hi hx r (fun s' I'=>⟨_,H,I',h⟩) hf)
noncomputable def gNil:TGs:=fun vs σ H Q=>vs=[]/\Q σ H
noncomputable def zbP(t:TG)(u:TGs):TGs:=fun vs σ H Q=>∃ v r,vs=v::r/\t v σ H fun σ' H'=>u r σ' H' Q
theorem Q5e:PGs X [] gNil:=by
 intro pins s σ H vs us Q I r h;obtain⟨e,h⟩:=h;subst e;cases r;exact assignInOrder_nil ⟨σ,H,I,h⟩
theorem Q2E{e:Expr}{es:List Expr}{t:TG}{u:TGs}(h1:PG X e t)(h2:PGs X es u)
  (hs:(assignEach (e::es) X.env).map (·.2)=assign e X.env::(assignEach es X.env).map (·.2):=by rfl):PGs X (e::es) (zbP t u):=by
 intro pins s σ H vs us Q I r h;obtain⟨v,vr,e1,h⟩:=h;subst e1;cases r with
 | cons r rr =>
  rw[hs];refine assignInOrder_cons (thn (h1 pins s σ H _ _ _ I r h) fun _ s1 ⟨σ1,H1,I1,q1⟩=>?_);exact h2 pins s1 σ1 H1 _ _ Q I1 rr q1
noncomputable def gTup(K:Frag)(n:Nat)(t:TGs):TG:=fun v σ H Q=>∃ a xs,v=.ref a/\SqT K H a xs/\xs.length=n/\t xs σ H Q
theorem Q8u(hc:X.calm=true)(h:PGs X es t)
  (hn:(assignEach es X.env).length=n:=by rfl) (hst:(assignEach es X.env).findIdx? (·.1)=none:=by rfl):PG X (.Tuple es k pos) (gTup X.K n t):=by
 intro pins s σ H v u Q I r hw;obtain⟨a,xs,e1,hq,hl,hw⟩:=hw;subst e1;cases r;obtain⟨its,rv,ht,hz⟩:=I.tuple hq;refine assign_Tuple_tuple (I.ok.hd hc) ht (by simp[hn,<- hl,rv.length]) hst fun h' hx=>?_
 have I1:Inv X pins σ H { s with heap:=h' }:=I.kept (t':=s.toks) fun b o e=>hx b o (ZO (Zr e)) e;exact h pins _ σ H xs _ Q I1 (by simpa using rv) hw
noncomputable def tAsg(te:TE)(g:TG):TS:=fun D σ H=>te σ H fun x H1=>g x σ H1 D.nx
theorem QaE{tg e:Expr}{te:TE}{g:TG}(he:PE X e te)(hg:PG X tg g)(hs:swapsWithSole [tg] e pos.line X.env=pure false:=by rfl)(hw:swappedStores [tg] e X.env=pure none:=by rfl)
  (h1:(assignEach [tg] X.env).map (·.2)=[assign tg X.env]:=by rfl):PS X (.Assign [tg] e pos) (tAsg te g):=by
 intro pins s σ H D I h;refine wpAny_Assign_stores (thn (he pins s σ H _ I h) fun v s1 ⟨x,H1,I1,r1,q1⟩=>?_) hs hw;rw[h1];exact thn (hg pins s1 σ H1 x v _ I1 r1 q1) fun _ s2 q=>q
theorem QaF{i:Nat}{x:Str}{e:Expr}{te:TE}{pos':Pos}(hN:X.N.Nodup)(hi:X.N[i]? = some x)(hx:Loc X.env.scope x)(he:PE X e te)(hs:swapsWith e (some (.Name x pos')) pos.line X.env=pure false:=by rfl)(hf:X.fn x=true\/X.env.scope.names.lookup x=some .local:=by first | exact .inl rfl | exact .inr rfl | assumption) :
  PS X (.Assign [.Name x pos'] e pos) (tAsg te (zaR i)):=by
 intro pins s σ H D I h;refine wpAny_Assign_Name (thn (he pins s σ H _ I h) fun v s1 ⟨y,H1,I1,r1,q1⟩=>?_) hs;exact Q4d I1 hN hi hx r1 (fun s2 I2=>⟨_,H1,I2,q1⟩) hf
end
section
variable{X:Cx}{pos:Pos}
noncomputable def tWhile(c:TT)(tb:TS):TS:=fun D σ H=>∃ W:Nat->St->Hp->Prop,(∃ m,W m σ H)/\∀ m σ H,W m σ H ->
 c σ H fun b H1=>if b=true then ∃ N:St->Hp->Prop,(∀ σ' H',N σ' H'->∃ m',m'<m/\W m' σ' H')/\tb { D with nx:=N,ct:=N,bk:=D.nx } σ H1 else D.nx σ H1
theorem Q6O{c:Expr}{body:List Stmt}{tc:TT}{tb:TS}(hp:PassesOwn (model X.prog X.w) X.A X.env X.xe)(hc:PT X c tc)(hb:PSs X body tb):PS X (.While c body [] pos) (tWhile tc tb):=by
 intro pins s σ H D I h;obtain⟨W,⟨m0,w0⟩,turn⟩:=h;refine wpAny_While (codeAny_whileLoop (fun n s'=>∃ σ' H',Inv X pins σ' H' s'/\W n σ' H') ?_ m0 ⟨σ,H,I,w0⟩);rintro n s1 ⟨σ1,H1,I1,w1⟩;refine wpAny_passesOwn hp (thn (hc pins s1 σ1 H1 _ I1 (turn n σ1 H1 w1)) fun b s2 ⟨H2,I2,q2⟩=>?_);cases b with
 | true =>
  obtain⟨N,hN,q2⟩:=q2;rw[Zg rfl];refine wpAny_passesOwn hp (thn (hb pins s2 σ1 H2 _ I2 q2) fun f s3 q3=>?_);cases f with
  | next =>
   obtain⟨σ3,H3,I3,n3⟩:=q3;obtain⟨m',hm,w3⟩:=hN σ3 H3 n3;exact⟨m',hm,σ3,H3,I3,w3⟩
  | cont =>
   obtain⟨σ3,H3,I3,n3⟩:=q3;obtain⟨m',hm,w3⟩:=hN σ3 H3 n3;exact⟨m',hm,σ3,H3,I3,w3⟩
  | brk=>exact q3
  | ret v=>exact q3
 | false =>
  rw[Zc Zy];exact wpAny_execs_nil ⟨σ1,H2,I2,q2⟩
end
structure It where
 go:Nat->Hp->Prop
 yld:Nat->Hp->V->Hp->Prop
 stop:Nat->Hp->Prop
noncomputable def FpOk(X:Cx)(pins:List (Addr×Obj))(H:Hp)(b:Addr):Prop :=
 H b=none/\b≠X.env.locals/\b∉X.fs/\(b∈X.ex\/X.s₀.heap.objs.size<=b)/\(∀ x c,X.env.cells.lookup x=some c->c≠b)/\∀ p∈X.pn++pins,p.1≠b
theorem Inv.fpOk(I:Inv X pins σ H s)(hb:s.heap.objs.size<=b)(hn:H' b=none):FpOk X pins H' b:=by
 refine⟨hn,Nat.ne_of_gt (Z2 I.lt hb),I.nofs hb,.inr (Z3 I.sz hb),fun x c e z=>?_,fun p hp z=>?_⟩
 ·obtain⟨v,q⟩:=I.cell x c e;exact absurd (Z2 q.lt (by rw[z];exact hb)) (lt_irrefl _)
 ·exact absurd (Z2 (Zr (I.pin p hp).1) (by rw[z];exact hb)) (lt_irrefl _)
structure Turn(P:Program)(w:World)(K:Frag)(tg:Expr)(J:It)(fp:List Addr)(it:Addr)(tn:Nat->Heap->Prop):Prop where
 mem:it∈fp
 obj:∀ i h,tn i h->∀ b∈fp,∃ o,h.get? b=some o/\∀ v,o.data≠.cell v
 keep:∀ i h h',tn i h->(∀ b∈fp,∀ o,h.get? b=some o->h'.get? b=some o)->tn i h'
 item:∀ (X:Cx),X.prog=P->X.w=w->X.K=K->X.calm=true->∀ (i:Nat) (pins:List (Addr×Obj)) (s:Shared) (σ:St) (H:Hp) (E:Value->Shared->Prop),Inv X pins σ H s->(∀ b∈fp,FpOk X pins H b)->tn i s.heap->J.go i H ->
  wpAny (model P w) X.A (pyNext (.ref it)) (fun r s1=>∃ u,r=some u /\
   wpAny (model P w) X.A (letOwnedTupleGo tg (.ref it) u) (fun _ s2=>∃ x H',Inv X pins σ H' s2/\RelV x u/\J.yld i H x H'/\tn (i+1) s2.heap/\∀ b∈fp,H' b=none) E s1) E s
 done:∀ (X:Cx),X.prog=P->X.w=w->X.K=K->X.calm=true->∀ (i:Nat) (pins:List (Addr×Obj)) (s:Shared) (σ:St) (H:Hp) (E:Value->Shared->Prop),Inv X pins σ H s->(∀ b∈fp,FpOk X pins H b)->tn i s.heap->J.stop i H ->
  wpAny (model P w) X.A (pyNext (.ref it)) (fun r s1=>r=none/\Inv X pins σ H s1) E s
 self:∀ (A:Around) (i:Nat) (s:Shared) (Q:Value->Shared->Prop) (E:Value->Shared->Prop),tn i s.heap->Q (.ref it) s->wpAny (model P w) A (pyIter (.ref it)) Q E s
noncomputable abbrev TI:=St->Hp->(It->Hp->Prop)->Prop
noncomputable def PIE(X:Cx)(pins:List (Addr×Obj))(σ:St)(tg:Expr)(R:It->Hp->Prop)(itv:Value)(s2:Shared):Prop :=
 ∃ (it:Addr) (fp:List Addr) (tn:Nat->Heap->Prop) (J:It) (H':Hp),itv=.ref it/\Inv X pins σ H' s2/\Turn X.prog X.w X.K tg J fp it tn/\tn 0 s2.heap/\(∀ b∈fp,FpOk X pins H' b)/\R J H'
noncomputable def PI(X:Cx)(tg iter:Expr)(wi:TI):Prop :=
 ∀ (pins:List (Addr×Obj)) (s:Shared) (σ:St) (H:Hp) (R:It->Hp->Prop),Inv X pins σ H s->wi σ H R ->
  wpAny (model X.prog X.w) X.A (eval iter X.env) (fun v s1=>wpAny (model X.prog X.w) X.A (pyIter v) (PIE X pins σ tg R) X.xe s1) X.xe s
theorem go_of{E:Value->Shared->Prop}{Q:Unit->Shared->Prop}(ho:s.heap.get? it=some o)(hc:o.cls=.type n)(hd:o.data=.fields vs)
  (hn:["enumerate","zip","dict_itemiterator","dict_reverseitemiterator","odict_iterator","itertools.zip_longest","itertools.pairwise"].contains n=false) (hQ:Q () s):wpAny M A (letOwnedTupleGo tg (.ref it) u) Q E s:=by
 unfold letOwnedTupleGo;cases tg <;> first
  | exact Zd hQ
  | (cases u <;> first
    | exact Zd hQ
    | (refine Za (wpAny_load ho ?_)
       rw[hc,hd];show wpAny M A (if (["enumerate","zip","dict_itemiterator","dict_reverseitemiterator","odict_iterator","itertools.zip_longest","itertools.pairwise"].contains n&&vs[0]? == some (rawInt _))=true then _ else _) Q E s
       rw[Zc (by intro h;rw[hn,Bool.false_and]at h;cases h)]
       exact Zd hQ))
noncomputable def Itl(K:Frag)(a:Addr):It :=
 ⟨fun i H=>∃ xs x,SqL K H a xs/\xs[i]? = some x,fun i H x H'=>H'=H/\∀ xs,SqL K H a xs->xs[i]? = some x,fun i H=>∃ xs,SqL K H a xs/\xs.length<=i⟩
noncomputable def Itt(K:Frag)(a:Addr):It :=
 ⟨fun i H=>∃ xs x,SqT K H a xs/\xs[i]? = some x,fun i H x H'=>H'=H/\∀ xs,SqT K H a xs->xs[i]? = some x,fun i H=>∃ xs,SqT K H a xs/\xs.length<=i⟩
noncomputable def Itr(lo:Int)(n:Nat):It:=⟨fun i _=>i<n,fun i H x H'=>H'=H/\x=.int (lo+i),fun i _=>n<=i⟩
theorem Q5f{P:Program}{w:World}{K:Frag}{tg:Expr}(a it:Addr):Turn P w K tg (Itl K a) [it] it (fun i h=>h.IsListIter it a i) where
 mem:=by simp
 obj:=fun i h st b hb=>by
  have e:b=it:=by simpa using hb
  subst e;obtain⟨o,e,c,d⟩:=st;exact⟨o,e,fun v z=>by rw[d]at z;cases z⟩
 keep:=fun i h h' st k=>st.at fun o e=>k it (by simp) o e
 item:=by
  intro X hP hw hK hc i pins s σ H E I hf st hg;subst hP hw hK;obtain⟨xs,x,hq,hx⟩:=hg;obtain⟨its,rv,p,hz⟩:=I.list hq;obtain⟨u,hu,ru⟩:=rv.get hx;obtain⟨f0,f1,f2,f3,f4,f5⟩:=hf it (by simp)
  refine wpAny_pyNext_list_item st p.isList (x:=u) (by simpa using hu) fun h' st' sb=>?_
  have I1:Inv X pins σ H { s with heap:=h' }:=I.turned (t':=s.toks) (fun b o hb e=>(sb.2 b hb).trans e) f0 f1 f3 f4 f5;obtain⟨o,e,c,d⟩:=id st';exact⟨u,rfl,go_of (s:={ s with heap:=h' }) e c d (by decide) ⟨x,H,I1,ru,⟨rfl,fun ys hy=>by rw[I.list_inj hy hq];exact hx⟩,st',fun b hb=>(hf b hb).1⟩⟩
 done:=by
  intro X hP hw hK hc i pins s σ H E I hf st hg;subst hP hw hK;obtain⟨xs,hq,hx⟩:=hg;obtain⟨its,rv,p,hz⟩:=I.list hq;obtain⟨f0,f1,f2,f3,f4,f5⟩:=hf it (by simp)
  have hl:=rv.length;exact wpAny_pyNext_list_end (I.ok.hd hc) st p.isList (by simp;omega) fun h' eb=>⟨rfl,I.turned (t':=s.toks) (fun b o hb e=>eb b o hb e) f0 f1 f3 f4 f5⟩
 self:=fun _ _ _ _ _ st h=>wpAny_pyIter_listiter st h
theorem Q4F{P:Program}{w:World}{K:Frag}{tg:Expr}(a it:Addr):Turn P w K tg (Itt K a) [it] it (fun i h=>h.IsTupleIter it a i) where
 mem:=by simp
 obj:=fun i h st b hb=>by
  have e:b=it:=by simpa using hb
  subst e;obtain⟨o,e,c,d⟩:=st;exact⟨o,e,fun v z=>by rw[d]at z;cases z⟩
 keep:=fun i h h' st k=>st.at fun o e=>k it (by simp) o e
 item:=by
  intro X hP hw hK hc i pins s σ H E I hf st hg;subst hP hw hK;obtain⟨xs,x,hq,hx⟩:=hg;obtain⟨its,rv,p,hz⟩:=I.tuple hq;obtain⟨u,hu,ru⟩:=rv.get hx;obtain⟨f0,f1,f2,f3,f4,f5⟩:=hf it (by simp)
  refine wpAny_pyNext_tuple_item st (show s.heap.IsTuple a its.toArray from p) (x:=u) (by simpa using hu) fun h' st' sb=>?_
  have I1:Inv X pins σ H { s with heap:=h' }:=I.turned (t':=s.toks) (fun b o hb e=>(sb.2 b hb).trans e) f0 f1 f3 f4 f5;obtain⟨o,e,c,d⟩:=id st';exact⟨u,rfl,go_of (s:={ s with heap:=h' }) e c d (by decide) ⟨x,H,I1,ru,⟨rfl,fun ys hy=>by rw[I.tuple_inj hy hq];exact hx⟩,st',fun b hb=>(hf b hb).1⟩⟩
 done:=by
  intro X hP hw hK hc i pins s σ H E I hf st hg;subst hP hw hK;obtain⟨xs,hq,hx⟩:=hg;obtain⟨its,rv,p,hz⟩:=I.tuple hq;obtain⟨f0,f1,f2,f3,f4,f5⟩:=hf it (by simp)
  have hl:=rv.length;exact wpAny_pyNext_tuple_end (I.ok.hd hc) st (show s.heap.IsTuple a its.toArray from p) (by simp;omega) fun h' eb=>⟨rfl,I.turned (t':=s.toks) (fun b o hb e=>eb b o hb e) f0 f1 f3 f4 f5⟩
 self:=fun _ _ _ _ _ st h=>wpAny_pyIter_tupleiter st h
theorem Q4G{P:Program}{w:World}{K:Frag}{tg:Expr}(it:Addr)(lo:Int)(n:Nat):Turn P w K tg (Itr lo n) [it] it (fun i h=>IsRangeIter h it (lo+(i:Nat) * 1) ((n:Int)-(i:Nat)) 1) where
 mem:=by simp
 obj:=fun i h st b hb=>by
  have e:b=it:=by simpa using hb
  subst e;exact⟨_,st,fun v z=>by
   have z':Data.fields _=Data.cell v:=z;cases z'⟩
 keep:=fun i h h' st k=>k it (by simp) _ st
 item:=by
  intro X hP hw hK hc i pins s σ H E I hf st hg;subst hP hw hK;obtain⟨f0,f1,f2,f3,f4,f5⟩:=hf it (by simp)
  have W:=Walks.range (prog:=X.prog) (w:=X.w) (I.ok.hd hc) it lo 1 n;refine W.item i s _ _ hg st fun v h' tk hv st' kk=>?_;obtain⟨t,rfl⟩:=hv;have I1:Inv X pins σ H { s with heap:=h',toks:=tk }:=I.turned (fun b o hb e=>kk b o (by simpa using hb) e) f0 f1 f3 f4 f5
  refine⟨_,rfl,go_of (s:={ s with heap:=h',toks:=tk }) (n:="range_iterator") st' rfl rfl (by decide) ⟨.int (lo+i),H,I1,⟨t,?_⟩,⟨rfl,rfl⟩,st',fun b hb=>(hf b hb).1⟩⟩
  rw[Int.mul_one]
 done:=by
  intro X hP hw hK hc i pins s σ H E I hf st hg;subst hP hw hK;obtain⟨f0,f1,f2,f3,f4,f5⟩:=hf it (by simp)
  exact wpAny_pyNext_range_end (I.ok.hd hc) st (by have:n<=i:=hg;omega) fun h' eb=>⟨rfl,I.turned (t':=s.toks) (fun b o hb e=>eb b o hb e) f0 f1 f3 f4 f5⟩
 self:=fun _ _ _ _ _ st h=>wpAny_pyIter_rangeiter st h
section
variable{X:Cx}{tg:Expr}
theorem Q4e{pins:List (Addr×Obj)}{σ:St}{H:Hp}{s:Shared}{R:It->Hp->Prop}{E:Value->Shared->Prop}{lo hi:Int}{t u v:Tok}{tk:Nat}(I:Inv X pins σ H s)(h1:-(2 ^ 62)<=lo)(h2:lo<2 ^ 62)(h3:-(2 ^ 62)<=hi)(h4:hi<2 ^ 62)
  (q:R (Itr lo (hi-lo).toNat) H):wpAny (model X.prog X.w) X.A (pyIter (.ref s.heap.objs.size)) (PIE X pins σ tg R) E { s with heap:=s.heap.push { cls:=.type "range",data:=.fields #[.int lo t,.int hi u,.int 1 v] },toks:=tk }:=by
 refine wpAny_pyIter_range (IsRange.new ..) (small_one h1 h2 h3 h4) ?_;have I1:Inv X pins σ H { s with heap:=s.heap.push { cls:=.type "range",data:=.fields #[.int lo t,.int hi u,.int 1 v] },toks:=tk }:=I.kept fun b o e=>Zm _ e;refine⟨(s.heap.push { cls:=.type "range",data:=.fields #[.int lo t,.int hi u,.int 1 v] }).objs.size,[(s.heap.push { cls:=.type "range",data:=.fields #[.int lo t,.int hi u,.int 1 v] }).objs.size],_,_,H,rfl,
  I1.kept (t':=tk) fun b o e=>Zm _ e,Q4G _ lo (hi-lo).toNat,?_,fun b hb=>?_,q⟩
 ·have e1:lo+((0:Nat):Int) * 1=lo:=by simp
  have e2:(((hi-lo).toNat:Nat):Int)-((0:Nat):Int)=Builtin.Range.rangeSize lo hi 1:=by rw[rangeSize_one];split <;> omega
  show IsRangeIter _ _ (lo+((0:Nat):Int) * 1) ((((hi-lo).toNat:Nat):Int)-((0:Nat):Int)) 1;rw[e1,e2];exact Z1 _ rfl
 ·have e:b=(s.heap.push { cls:=.type "range",data:=.fields #[.int lo t,.int hi u,.int 1 v] }).objs.size:=by simpa using hb
  subst e;exact I1.fpOk (Zs _) (I1.hok.fresh (Zs _))
noncomputable def iRng1(ta:TA):TI:=fun σ H R=>ta σ H fun vs H1=>∃ j:Int,vs=[.int j] /\ -(2 ^ 62)<=j/\j<2 ^ 62/\R (Itr 0 j.toNat) H1
noncomputable def iRng2(ta:TA):TI:=fun σ H R=>ta σ H fun vs H1=>∃ i j:Int,vs=[.int i,.int j]/\(-(2 ^ 62)<=i/\i<2 ^ 62 /\ -(2 ^ 62)<=j/\j<2 ^ 62)/\R (Itr i (j-i).toNat) H1
theorem Q5g{a:Expr}{ta:TA}{p pos:Pos}(hg:Gl X "range")(hm:X.mg "range" = none)(ha:PA X [a] ta)(hs:starEach [a] X.env=[(false,eval a X.env)]:=by rfl):PI X tg (.Call (.Name "range" p) [a] [] pos) (iRng1 ta):=by
 intro pins s σ H R I h;refine Call_ (Q2W I hg hm boot_range (PyProof.Rows.callWith_type1 (thn (ha pos pins s σ H _ I h) fun us s1 ⟨vs,H1,I1,r1,q1⟩=>?_) hs rfl));obtain⟨j,e,q1,q2,q⟩:=q1;subst e;cases r1 with
 | cons r rr =>
  cases rr;obtain⟨t,rfl⟩:=r;exact call_range_1 (Q4e I1 (by omega) (by omega) q1 q2 (by simpa using q))
theorem Q5h(hg:Gl X "range")(hm:X.mg "range" = none)(ha:PA X [a,b] ta)(hs:starEach [a,b] X.env=[(false,eval a X.env),(false,eval b X.env)]:=by rfl)(hs2:starEach [b] X.env=[(false,eval b X.env)]:=by rfl) :
  PI X tg (.Call (.Name "range" p) [a,b] [] pos) (iRng2 ta):=by
 intro pins s σ H R I h;refine Call_ (Q2W I hg hm boot_range (PyProof.Rows.callWith_type1 (thn (ha pos pins s σ H _ I h) fun us s1 ⟨vs,H1,I1,r1,q1⟩=>?_) (by rw[hs,hs2]) (by rw[hs2];rfl)))
 obtain⟨i,j,e,⟨q1,q2,q3,q4⟩,q⟩:=q1;subst e;cases r1 with
 | cons r rr =>
  cases rr with
  | cons r' rr =>
   cases rr;obtain⟨t,rfl⟩:=r;obtain⟨t',rfl⟩:=r';exact call_range_2 (Q4e I1 q1 q2 q3 q4 q)
noncomputable def tFor(wi:TI)(g:TG)(tb:TS):TS:=fun D σ H=>wi σ H fun J H1=>∃ W:Nat->Nat->St->Hp->Prop,(∃ m,W 0 m σ H1)/\∀ i m σ H,W i m σ H ->
 (J.stop i H/\D.nx σ H)\/(J.go i H/\∃ N:St->Hp->Prop,(∀ σ' H',N σ' H'->∃ m',m'<m/\W (i+1) m' σ' H')/\∀ x H',J.yld i H x H'->g x σ H' fun σ2 H2=>tb { D with nx:=N,ct:=N,bk:=D.nx } σ2 H2)
noncomputable def zas(fp:List Addr)(h:Heap):List (Addr×Obj):=fp.filterMap fun b=>(h.get? b).map fun o=>(b,o)
theorem Q0Z(hb:b∈fp)(e:h.get? b=some o):(b,o)∈zas fp h:=mem_filterMap.mpr ⟨b,hb,by rw[e];rfl⟩
theorem Q2X(hp:p∈zas fp h):p.1∈fp/\h.get? p.1=some p.2:=by
 obtain⟨b,hb,e⟩:=mem_filterMap.mp hp;cases q:h.get? b with
 | none=>rw[q]at e;cases e
 | some o =>
  rw[q]at e;have e':(b,o)=p:=ZB e;subst e';exact⟨hb,q⟩
theorem Inv.pinned(I:Inv X pins σ H s)(hf:∀ b∈fp,FpOk X pins H b)(ho:∀ b∈fp,∃ o,s.heap.get? b=some o/\∀ v,o.data≠.cell v):Inv X (pins++zas fp s.heap) σ H s :=
 I.pins_of fun p hp=>(Z0.mp hp).elim (fun z=>I.pin p (Zu _ z)) fun z=>by
  obtain⟨hb,e⟩:=Q2X z;obtain⟨f0,f1,f2,_⟩:=hf p.1 hb;obtain⟨o,e',d⟩:=ho p.1 hb;rw[e]at e';cases e';exact⟨e,f0,f1,f2,d⟩
theorem Inv.unpinned(I:Inv X (pins++pl) σ H s):Inv X pins σ H s:=I.pins_of fun p hp=>I.pin p (Zu _ (mem_append_left _ hp))
theorem QaG(hp:PassesOwn (model X.prog X.w) X.A X.env X.xe)(hc:X.calm=true)(hi:PI X tg iter wi)(hg:PG X tg g)(hb:PSs X body tb)
  (hs:∀ x,foldedSetIterable iter X.env x=pure x:=by intro _;rfl):PS X (.For tg iter body [] pos) (tFor wi g tb):=by
 intro pins s σ H D I h;refine wpAny_For (thn (hi pins s σ H _ I h) fun v s1 h1=>thn h1 fun itv s2 h2=>?_) hs;obtain⟨it,fp,tn,J,H2,e,I2,T,st2,f2,W,⟨m0,w0⟩,turn⟩:=h2;subst e
 -- what stays true of the iterator's objects through the loop
 have stat:∀ {H':Hp},(∀ b∈fp,H' b=none)->∀ b∈fp,FpOk X pins H' b:=fun hn b hb=>⟨hn b hb,(f2 b hb).2⟩;refine codeAny_forLoop_any (fun n s'=>∃ i σ' H',Inv X pins σ' H' s'/\tn i s'.heap/\(∀ b∈fp,H' b=none)/\W i n σ' H') ?_ m0 ⟨0,σ,H2,I2,st2,fun b hb=>(f2 b hb).1,w0⟩;rintro n s3 ⟨i,σ3,H3,I3,st3,fr3,w3⟩;rcases turn i n σ3 H3 w3 with ⟨stop,qn⟩ | ⟨go,N,hN,step⟩
 ·refine wpAny_passesOwn hp (thn (T.done X rfl rfl rfl hc i pins s3 σ3 H3 X.xe I3 (stat fr3) st3 stop) fun r s4 ⟨hr,I4⟩=>?_);subst hr;exact wpAny_execs_nil ⟨σ3,H3,I4,qn⟩
 ·refine wpAny_passesOwn hp (thn (T.item X rfl rfl rfl hc i pins s3 σ3 H3 X.xe I3 (stat fr3) st3 go) fun r s4 ⟨u,hr,h4⟩=>?_);subst hr;refine wpAny_passesOwn hp (thn h4 fun _ s5 ⟨x,H5,I5,r5,y5,st5,fr5⟩=>?_);have I5':=I5.pinned (stat fr5) (T.obj _ _ st5);refine wpAny_passesOwn hp (thn (hg _ s5 σ3 H5 x u _ I5' r5 (step x H5 y5)) fun _ s6 ⟨σ6,H6,I6,q6⟩=>?_);refine wpAny_passesOwn hp (thn (hb _ s6 σ6 H6 _ I6 q6) fun f s7 q7=>?_);have again:∀ {σ7:St} {H7:Hp},Inv X (pins++zas fp s5.heap) σ7 H7 s7->N σ7 H7->∃ m,m<n/\∃ i σ' H',Inv X pins σ' H' s7/\tn i s7.heap/\(∀ b∈fp,H' b=none)/\W i m σ' H':=fun{σ7 H7} I7 n7=>by
   obtain⟨m',hm,w7⟩:=hN σ7 H7 n7;refine⟨m',hm,i+1,σ7,H7,I7.unpinned,T.keep _ _ _ st5 fun b hb o e=>(I7.pin (b,o) (Zu _ (Zu _ (Q0Z hb e)))).1,fun b hb=>?_,w7⟩;obtain⟨o,e,d⟩:=T.obj _ _ st5 b hb;exact (I7.pin (b,o) (Zu _ (Zu _ (Q0Z hb e)))).2.1
  cases f with
  | next=>obtain⟨σ7,H7,I7,n7⟩:=q7;exact again I7 n7
  | cont=>obtain⟨σ7,H7,I7,n7⟩:=q7;exact again I7 n7
  | brk=>obtain⟨σ7,H7,I7,q7⟩:=q7;exact⟨σ7,H7,I7.unpinned,q7⟩
  | ret v=>obtain⟨x7,σ7,H7,I7,r7,q7⟩:=q7;exact⟨x7,σ7,H7,I7.unpinned,r7,q7⟩
end
noncomputable abbrev R2:=V->V->Hp->VK->Prop
noncomputable def OpR(X:Cx)(f:Value->Value->Sem Value)(r:R2):Prop :=
 ∀ (pins:List (Addr×Obj)) (s:Shared) (σ:St) (H:Hp) (x y:V) (v u:Value) (Q:VK),Inv X pins σ H s->RelV x v->RelV y u->r x y H Q ->
  wpAny (model X.prog X.w) X.A (f v u) (EP X pins σ Q) X.xe s
noncomputable def UnR(X:Cx)(f:Value->Sem Value)(r:V->Hp->VK->Prop):Prop :=
 ∀ (pins:List (Addr×Obj)) (s:Shared) (σ:St) (H:Hp) (x:V) (v:Value) (Q:VK),Inv X pins σ H s->RelV x v->r x H Q ->
  wpAny (model X.prog X.w) X.A (f v) (EP X pins σ Q) X.xe s
noncomputable def CallR(X:Cx)(f:Value)(r:List V->Hp->VK->Prop):Prop :=
 ∀ (pins:List (Addr×Obj)) (s:Shared) (σ:St) (H:Hp) (xs:List V) (us:List Value) (Q:VK),Inv X pins σ H s->Vals xs us->r xs H Q ->
  wpAny (model X.prog X.w) X.A (call f us) (EP X pins σ Q) X.xe s
noncomputable def tOp(r:R2)(ta tb:TE):TE:=fun σ H Q=>ta σ H fun x H1=>tb σ H1 fun y H2=>r x y H2 Q
noncomputable def tUn(r:V->Hp->VK->Prop)(ta:TE):TE:=fun σ H Q=>ta σ H fun x H1=>r x H1 Q
noncomputable def rI(C:Int->Int->Prop)(g:Int->Int->V):R2:=fun x y H Q=>∃ i j,x=.int i/\y=.int j/\C i j/\Q (g i j) H
noncomputable def rI0(g:Int->Int->V):R2:=fun x y H Q=>∃ i j,x=.int i/\y=.int j/\Q (g i j) H
noncomputable def rU(g:Int->V):V->Hp->VK->Prop:=fun x H Q=>∃ i,x=.int i/\Q (g i) H
section
variable{X:Cx}{a b c:Expr}{ta tb tc:TE}{pos:Pos}
theorem binT(ha:PE X a ta)(hb:PE X b tb){R:V->V->Hp->Prop}(I:Inv X pins σ H s)
  (h:ta σ H fun x H1=>tb σ H1 fun y H2=>R x y H2) {Q:Value->Shared->Prop} {f:Value->Value->Sem Value}
  (hf:∀ v u s2 x y H2,Inv X pins σ H2 s2->RelV x v->RelV y u->R x y H2->wpAny (model X.prog X.w) X.A (f v u) Q X.xe s2) :
  wpAny (model X.prog X.w) X.A (eval a X.env) (fun v s₁=>wpAny (model X.prog X.w) X.A (eval b X.env) (fun u s₂=>wpAny (model X.prog X.w) X.A (f v u) Q X.xe s₂) X.xe s₁) X.xe s:=by
 refine thn (ha pins s σ H _ I h) fun v s1 ⟨x,H1,I1,r1,q1⟩=>?_;refine thn (hb pins s1 σ H1 _ I1 q1) fun u s2 ⟨y,H2,I2,r2,q2⟩=>?_;exact hf v u s2 x y H2 I2 r1 r2 q2
theorem pe_op(ho:OpR X (binaryOp op) r)(ha:PE X a ta)(hb:PE X b tb):PE X (.BinOp a op b pos) (tOp r ta tb):=by
 intro pins s σ H Q I h;exact wpAny_BinOp (binT ha hb I h fun v u s2 x y H2 I2 rx ry q=>ho pins s2 σ H2 x y v u Q I2 rx ry q)
theorem pe_un{r:V->Hp->VK->Prop}(ho:UnR X (unaryOp op) r)(ha:PE X a ta):PE X (.UnaryOp op a pos) (tUn r ta):=by
 intro pins s σ H Q I h;exact UnaryOp_ (thn (ha pins s σ H _ I h) fun v s1 ⟨x,H1,I1,r1,q1⟩=>ho pins s1 σ H1 x v Q I1 r1 q1)
theorem opI{f:Value->Value->Sem Value}{C:Int->Int->Prop}{g:Int->Int->Int}
  (rule:∀ (i j:Int) (t u:Tok) (s:Shared) (Q:Value->Shared->Prop) (E:Value->Shared->Prop),C i j->Q (.int (g i j) s.toks) { s with toks:=s.toks+1 }->wpAny (model X.prog X.w) X.A (f (.int i t) (.int j u)) Q E s) :
  OpR X f (rI C fun i j=>.int (g i j)):=by
 intro pins s σ H x y v u Q I rx ry h;obtain⟨i,j,rfl,rfl,hc,q⟩:=h;obtain⟨t,rfl⟩:=rx;obtain⟨t',rfl⟩:=ry;exact rule i j t t' s _ _ hc ⟨.int (g i j),H,I.tok _,⟨_,rfl⟩,q⟩
theorem opI0{f:Value->Value->Sem Value}{g:Int->Int->Int}
  (rule:∀ (i j:Int) (t u:Tok) (s:Shared) (Q:Value->Shared->Prop) (E:Value->Shared->Prop),Q (.int (g i j) s.toks) { s with toks:=s.toks+1 }->wpAny (model X.prog X.w) X.A (f (.int i t) (.int j u)) Q E s) :
  OpR X f (rI0 fun i j=>.int (g i j)):=by
 intro pins s σ H x y v u Q I rx ry h;obtain⟨i,j,rfl,rfl,q⟩:=h;obtain⟨t,rfl⟩:=rx;obtain⟨t',rfl⟩:=ry;exact rule i j t t' s _ _ ⟨.int (g i j),H,I.tok _,⟨_,rfl⟩,q⟩
theorem opB0{f:Value->Value->Sem Value}{g:Int->Int->Bool}
  (rule:∀ (i j:Int) (t u:Tok) (s:Shared) (Q:Value->Shared->Prop) (E:Value->Shared->Prop),Q (.bool (g i j)) s->wpAny (model X.prog X.w) X.A (f (.int i t) (.int j u)) Q E s) :
  OpR X f (rI0 fun i j=>.bl (g i j)):=by
 intro pins s σ H x y v u Q I rx ry h;obtain⟨i,j,rfl,rfl,q⟩:=h;obtain⟨t,rfl⟩:=rx;obtain⟨t',rfl⟩:=ry;exact rule i j t t' s _ _ ⟨.bl (g i j),H,I,rfl,q⟩
noncomputable def CDiv(i j:Int):Prop:=0<j/\j<1073741824
noncomputable def CPow(i j:Int):Prop:=0<=j/\j<=1000000/\i.natAbs<2 ^ 64
noncomputable def CMul(i j:Int):Prop:=(-(2 ^ 64)<i/\i<2 ^ 64)\/(-(2 ^ 64)<j/\j<2 ^ 64)
theorem CMul.ok(h:CMul i j):IntMulOk i j:=by
 rcases h with ⟨h1,h2⟩ | ⟨h1,h2⟩
 ·exact .of_left (intBits_le_64 h1 h2)
 ·exact .of_right (intBits_le_64 h1 h2)
theorem QaH:OpR X (binaryOp .Add) (rI0 fun i j=>.int (i+j)):=opI0 fun _ _ _ _ _ _ _ q=>add_int q
theorem QaI:OpR X (binaryOp .Sub) (rI0 fun i j=>.int (i-j)):=opI0 fun _ _ _ _ _ _ _ q=>sub_int q
theorem QaJ:OpR X (binaryOp .Mult) (rI CMul fun i j=>.int (i * j)):=opI fun _ _ _ _ _ _ _ hc q=>mul_int q hc.ok
theorem QaK:OpR X (binaryOp .Mod) (rI (fun _ j=>0<j) fun i j=>.int (i % j)):=opI fun i j _ _ _ _ _ hc q=>by
 have h1:(0:Int)<j:=hc;exact mod_int' (by omega) (by rw[Int.fmod_eq_emod_of_nonneg i (by omega)];exact q)
theorem QaL:OpR X (binaryOp .Pow) (rI CPow fun i j=>.int (i ^ j.toNat)):=opI fun _ _ _ _ _ _ _ hc q=>pow_int_small hc.1 hc.2.1 hc.2.2 q
theorem unI{f:Value->Sem Value}{g:Int->Int}
  (rule:∀ (i:Int) (t:Tok) (s:Shared) (Q:Value->Shared->Prop) (E:Value->Shared->Prop),Q (.int (g i) s.toks) { s with toks:=s.toks+1 }->wpAny (model X.prog X.w) X.A (f (.int i t)) Q E s) :
  UnR X f (rU fun i=>.int (g i)):=by
 intro pins s σ H x v Q I rx h;obtain⟨i,rfl,q⟩:=h;obtain⟨t,rfl⟩:=rx;exact rule i t s _ _ ⟨.int (g i),H,I.tok _,⟨_,rfl⟩,q⟩
theorem QaM:UnR X (unaryOp .USub) (rU fun i=>.int (-i)):=unI fun _ _ _ _ _ q=>neg_int q
end
section
variable{X:Cx}{a b c:Expr}{ta tb tc:TE}{pos:Pos}
theorem Q8v(I:Inv X pins σ H s)(q:Q (.bl k) H)(e:k=k'):EP X pins σ Q (.bool k') s:=by
 subst e;exact⟨.bl k,H,I,rfl,q⟩
theorem op_lt:OpR X (compareOp .Lt) (rI0 fun i j=>.bl (decide (i<j))):=opB0 fun _ _ _ _ _ _ _ q=>lt_int q
theorem op_gt:OpR X (compareOp .Gt) (rI0 fun i j=>.bl (decide (j<i))):=opB0 fun _ _ _ _ _ _ _ q=>gt_int q
theorem QaN:OpR X (compareOp .Is) (fun x y H Q=>y=.non/\Q (.bl (decide (x=.non))) H):=by
 intro pins s σ H x y v u Q I rx ry h;obtain⟨rfl,q⟩:=h;cases ry;refine is_none_gen (Q8v I q ?_);cases x <;> first
  | (cases rx;rfl)
  | (obtain⟨t,rfl⟩:=rx;rfl)
theorem Q8T:OpR X (compareOp .IsNot) (fun x y H Q=>y=.non/\Q (.bl (!decide (x=.non))) H):=by
 intro pins s σ H x y v u Q I rx ry h;obtain⟨rfl,q⟩:=h;cases ry;refine isnot_none_gen (Q8v I q ?_);cases x <;> first
  | (cases rx;rfl)
  | (obtain⟨t,rfl⟩:=rx;rfl)
theorem OpR.or{f:Value->Value->Sem Value}(h:OpR X f r)(h':OpR X f r'):OpR X f (fun x y H Q=>r x y H Q\/r' x y H Q):=by
 intro pins s σ H x y v u Q I rx ry q;rcases q with q | q
 ·exact h pins s σ H x y v u Q I rx ry q
 ·exact h' pins s σ H x y v u Q I rx ry q
theorem Q8U(ho:OpR X (compareOp op) r)(ha:PE X a ta)(hb:PE X b tb)(hm:behindInMarks op b=false):PE X (.Compare a [op] [b] pos) (tOp r ta tb):=by
 intro pins s σ H Q I h;exact wpAny_Compare1 (binT ha hb I h fun v u s2 x y H2 I2 rx ry q=>ho pins s2 σ H2 x y v u Q I2 rx ry q) hm
noncomputable def tTest(t:TE):TT:=fun σ H Q=>t σ H fun x H'=>∃ k,x=.bl k/\Q k H'
theorem Q8V(ho:OpR X (compareOp op) r)(ha:PE X a ta)(hb:PE X b tb)(hm:behindInMarks op b=false):PT X (.Compare a [op] [b] pos) (tTest (tOp r ta tb)):=by
 intro pins s σ H Q I h;refine wpAny_isTrue_Compare1 (thn (ha pins s σ H _ I h) fun v s1 ⟨x,H1,I1,r1,q1⟩=>thn (hb pins s1 σ H1 _ I1 q1) fun u s2 ⟨y,H2,I2,r2,q2⟩ =>
  thn (ho pins s2 σ H2 x y v u _ I2 r1 r2 q2) fun c s3 ⟨z,H3,I3,r3,k,e,q3⟩=>?_) hm
 subst e;cases r3;exact Yc ⟨H3,I3,q3⟩
noncomputable def zbC(r r':R2)(ta tb tc:TE):TE:=fun σ H Q=>ta σ H fun x H1=>tb σ H1 fun y H2=>r x y H2 fun z H3=>∃ k,z=.bl k /\
 (if k=true then tc σ H3 fun w' H4=>r' y w' H4 Q else Q (.bl false) H3)
theorem Q6P(ho:OpR X (compareOp op) r)(ho':OpR X (compareOp op') r')(ha:PE X a ta)(hb:PE X b tb)(hc:PE X c tc)
  (hm:lastMarks [op,op'] [b,c]=false:=by with_unfolding_all rfl):PE X (.Compare a [op,op'] [b,c] pos) (zbC r r' ta tb tc):=by
 intro pins s σ H Q I h;refine Compare_chain (thn (ha pins s σ H _ I h) fun v s1 ⟨x,H1,I1,r1,q1⟩=>chain_link (thn (hb pins s1 σ H1 _ I1 q1) fun u s2 ⟨y,H2,I2,r2,q2⟩ =>
  thn (ho pins s2 σ H2 x y v u _ I2 r1 r2 q2) fun d s3 ⟨z,H3,I3,r3,k,e,q3⟩=>?_)) hm
 subst e;cases r3;refine Yc ?_;cases k with
 | false=>exact ite_ff ⟨.bl false,H3,I3,rfl,q3⟩
 | true=>exact ite_tt (chain_last (thn (hc pins s3 σ H3 _ I3 q3) fun w' s4 ⟨z',H4,I4,r4,q4⟩=>ho' pins s4 σ H4 y z' u w' Q I4 r2 r4 q4))
theorem Q6Q(ho:OpR X (compareOp op) r)(ho':OpR X (compareOp op') r')(ha:PE X a ta)(hb:PE X b tb)(hc:PE X c tc)
  (hm:lastMarks [op,op'] [b,c]=false:=by with_unfolding_all rfl):PT X (.Compare a [op,op'] [b,c] pos) (tTest (zbC r r' ta tb tc)):=by
 intro pins s σ H Q I h;refine isTrue_chain (thn (ha pins s σ H _ I h) fun v s1 ⟨x,H1,I1,r1,q1⟩=>test_link (thn (hb pins s1 σ H1 _ I1 q1) fun u s2 ⟨y,H2,I2,r2,q2⟩ =>
  thn (ho pins s2 σ H2 x y v u _ I2 r1 r2 q2) fun d s3 ⟨z,H3,I3,r3,k,e,q3⟩=>?_)) hm
 subst e;cases r3;refine Yc ?_;cases k with
 | false =>
  obtain⟨k',e',q'⟩:=q3;cases e';exact ite_ff ⟨H3,I3,q'⟩
 | true =>
  refine ite_tt (test_last (thn (hc pins s3 σ H3 _ I3 q3) fun w' s4 ⟨z',H4,I4,r4,q4⟩=>thn (ho' pins s4 σ H4 y z' u w' _ I4 r2 r4 q4) fun d' s5 ⟨z2,H5,I5,r5,k2,e2,q5⟩=>?_));subst e2;cases r5;exact Yc ⟨H5,I5,q5⟩
theorem line63:(sizeLine:Nat)<2 ^ 63:=by rw[sizeLine_eq];decide
theorem Q4H:OpR X (binaryOp .Add) (fun x y H Q=>∃ i j,x=.str i/\y=.str j/\i.length+j.length<=sizeLine/\Q (.str (i++j)) H):=by
 intro pins s σ H x y v u Q I rx ry h;obtain⟨i,j,rfl,rfl,hz,q⟩:=h;obtain⟨t,rfl⟩:=rx;obtain⟨t',rfl⟩:=ry;exact add_str (fun t' tk=>⟨.str (i++j),H,I.tok _,⟨_,rfl⟩,q⟩) hz
theorem vals1(r:Vals [x] us):∃ u,us=[u]/\RelV x u:=by
 cases r with
 | cons r1 r2=>cases r2;exact⟨_,rfl,r1⟩
theorem Q2Y:CallR X (.type "str") (fun xs H Q=>∃ i,xs=[.int i]/\i.natAbs.log2<1920/\Q (.str (toString i)) H):=by
 intro pins s σ H xs us Q I r h;obtain⟨i,rfl,hz,q⟩:=h;obtain⟨u,rfl,t,rfl⟩:=vals1 r;exact PySem.P.str_of_int hz ⟨.str _,H,I.tok _,⟨_,rfl⟩,q⟩
end
structure ObjM(h:Heap)(x dx C:Addr)(mA:Str->Option Value):Prop where
 obj:h.get? x=some (instObj C dx)
 ns:h.Ns1 dx mA
 ne:dx≠x
theorem Q5i{h:Heap}{dx:Addr}{mA:Str->Option Value}(n:h.Ns1 dx mA):∃ od,h.get? dx=some od/\∀ name,PySem.W.lookIn name od=some (mA name):=by
 obtain⟨o,es,ep,ho,hd,hk,_,hm⟩:=n;refine⟨o,ho,fun name=>?_⟩;have e:=hm name;unfold nsFind findBy at e;rw[<- Array.find?_toList]at e;unfold PySem.W.lookIn;rw[hd];dsimp only;split
 ·rename_i y q;rw[q]at e;exact congrArg some e
 ·rename_i q;rw[q]at e;have a:es.toList.any (·.refKey)=false:=by
   rw[List.any_eq_false];intro y hy;obtain⟨z,t,hkey⟩:=hk y (Array.mem_toList_iff.mp hy);simp[DictEntry.refKey,hkey]
  have a':¬ es.toList.any (·.refKey)=true:=by rw[a];exact Zy
  rw[Zc a'];exact congrArg some e
theorem ObjM.look{mA:Str->Option Value}(I:ObjM h x dx C mA):∃ od,PySem.W.InstAt h x (instObj C dx) C (some od)/\∀ name,PySem.W.lookIn name od=some (mA name) :=
 let ⟨od,ho,hl⟩:=Q5i I.ns
 ⟨od,⟨I.obj,rfl,rfl,ho⟩,hl⟩
section
variable{prog:Program}{w:World}{A:Around}{E:Value->Shared->Prop}{s:Shared}{K:Frag}{x dx C f:Addr}{mA:Str->Option Value}{name:Str}{v:Value}
theorem Q8W{Q:Value->Shared->Prop}(X:K.In s.heap)(I:ObjM s.heap x dx C mA)(hg:plainGet K C name=true)(hh:hasDictIn K C=true)
  (ha:findIn K (.ref C) name=some none) (hv:mA name=some v) (hv':PySem.W.handedIn v=true) (h:Q v { s with toks:=s.toks+1 }) :
  wpAny (model prog w) A (getAttr (.ref x) name expr) Q E s:=by
 obtain⟨od,J,hl⟩:=I.look;exact PySem.W.get_value X J (plainGet_of hg).1 (PySem.W.findObj_own hh ha rfl (by rw[hl,hv])) hv' h
theorem Q6R{Q:Value×List Value->Shared->Prop}(X:K.In s.heap)(I:ObjM s.heap x dx C mA)(hg:plainGet K C name=true)
  (hf:findIn K (.ref C) name=some (some (.ref f))) (ht:isFn K (.ref f)=true) (hv:mA name=none) (h:Q (.ref f,[.ref x]) s) :
  wpAny (model prog w) A (getMethod (.ref x) name pl) Q E s:=by
 obtain⟨od,J,hl⟩:=I.look;exact PySem.W.method_fn X J (plainGet_of hg).1 (plainGet_of hg).2 hf (Zx.mp ht) (by show (PySem.W.lookIn name od).map (·.isSome)=some false;rw[hl,hv];rfl) h
theorem Q8X{Q:Unit->Shared->Prop}(X:K.In s.heap)(I:ObjM s.heap x dx C mA)
  (hs:findIn K (.ref C) "__setattr__" = some (some (.builtin "object.__setattr__"))) (hp:plainOver K C=true) (ht:PySem.W.takerIn K C name=some none) (hh:hasDictIn K C=true)
  (hw:PySem.Within mA ns) (hsz:ns.length<=sizeLine)
  (h:∀ h',ObjM h' x dx C (fun y=>if y=name then some v else mA y)->Heap.SameBut dx s.heap h'->Q () { s with heap:=h',toks:=s.toks+2 }) :
  wpAny (model prog w) A (setAttr (.ref x) name v) Q E s:=by
 obtain⟨od,J,hl⟩:=I.look;refine PySem.W.set_plain X J hs (PySem.W.osa_open (s:={ s with toks:=s.toks+1 }) (r:=none) X J hp ht fun b=>?_);obtain⟨cd,hc,hd'⟩:=PySem.W.any_some hh;have hx:s.heap.get? x=some ⟨.ref C,some dx,.plain,#[]⟩:=I.obj;refine Za (Zd (Za (Za (wpAny_loadPart hx (Za (PySem.W.Looks.here (s:={ s with toks:=s.toks+1 }) (PySem.W.looks_clsIn X hc) ?_))))));rw[hd'];refine Zd (a:=some dx) (Za (Zd (Za ?_)));refine wpAny_nsSet1 (s:={ s with toks:=s.toks+1 }) I.ns fun h' hn2 hs2=>?_;obtain⟨oD,esD,epD,hoD,hdD,hcD⟩:=hn2.count (PySem.Within.cons name v hw);refine Za (wpAny_lookBehind hoD (by rw[hdD];exact pastItsLine_dict (Z3 hcD (by rw[Zi];omega))) ?_)
 exact Zd (h _ ⟨(hs2.2 _ (Ne.symm I.ne)).trans I.obj,hn2,I.ne⟩ hs2)
theorem Q6S{R:Result->Shared->Prop}(X:K.In s.heap)(hm:makesIn K C=true)
  (hi:findIn K (.ref C) "__init__" = some (some (.ref f))) (hf:PySem.W.typeIn K (.ref f)=some (.type "function"))
  (h:codeAny (model prog w) (A.under (.builtin "type.__call__" ⟨.ref C::vs,kw⟩)) (.call (.ref f) ⟨.ref (s.heap.objs.size+1)::vs,kw⟩) (PySem.W.InitBack (s.heap.objs.size+1) R)
   {s with heap:=(s.heap.push PySem.W.emptyDict).push (instObj C s.heap.objs.size) }) :
  codeAny (model prog w) A (.call (.ref C) ⟨vs,kw⟩) R s:=by
 obtain⟨hh,g,d,t,os⟩:=s;exact PySem.W.make_core (PySem.W.makes_of X hm) (PySem.W.looks_findIn X hi) (fun self=>PySem.W.bind_fn X self hf) (.inl rfl) h
end
noncomputable def putF(f:Str)(v:V):List (Str×V)->List (Str×V)
 | []=>[(f,v)]
 | (g,x)::r=>if g=f then (g,v)::r else (g,x)::putF f v r
theorem Q1Z(f g:Str)(v:V):∀ fs:List (Str×V),(putF f v fs).lookup g=if g=f then some v else fs.lookup g
 | []=>by
  show List.lookup g [(f,v)]=_;by_cases h:g=f
  ·have hb:(g==f)=true:=Zx.mpr h;simp only[List.lookup,hb,Zg h]
  ·have hb:(g==f)=false:=Ye.mpr h;simp only[List.lookup,hb,Zc h]
 | (k,x)::r=>by
  have ih:=Q1Z f g v r;rw[show putF f v ((k,x)::r)=(if k=f then (k,v)::r else (k,x)::putF f v r) from rfl]
  by_cases hk:k=f
  ·rw[Zg hk];by_cases h:g=k
   ·have hb:(g==k)=true:=Zx.mpr h;simp only[List.lookup,hb,Zg (h.trans hk)]
   ·have hb:(g==k)=false:=Ye.mpr h;simp only[List.lookup,hb,Zc (fun e:g=f=>h (e.trans hk.symm))]
  ·rw[Zc hk];by_cases h:g=k
   ·have hb:(g==k)=true:=Zx.mpr h;simp only[List.lookup,hb,Zc (fun e:g=f=>hk (h.symm.trans e))]
   ·have hb:(g==k)=false:=Ye.mpr h;simp only[List.lookup,hb];exact ih
theorem Q2a(f:Str)(v:V):∀ fs:List (Str×V),f∈(putF f v fs).map (·.1)/\∀ g,g∈fs.map (·.1)->g∈(putF f v fs).map (·.1)
 | []=>⟨by simp[putF],fun g h=>by simp at h⟩
 | (k,x)::r=>by
  obtain⟨i1,i2⟩:=Q2a f v r;rw[show putF f v ((k,x)::r)=(if k=f then (k,v)::r else (k,x)::putF f v r) from rfl]
  by_cases hk:k=f
  ·rw[Zg hk];subst hk;exact⟨by simp,fun g h=>by simpa using h⟩
  ·rw[Zc hk];refine⟨?_,fun g h=>?_⟩
   ·rw[Z6];exact Zk _ i1
   ·rw[Z6]at h ⊢;rcases Zw.mp h with e | e
    ·exact Zw.mpr (.inl e)
    ·exact Zk _ (i2 g e)
theorem Q2b(f:Str)(v:V):∀ fs:List (Str×V),(putF f v fs).length<=fs.length+1
 | []=>by simp[putF]
 | (k,x)::r=>by
  have ih:=Q2b f v r;rw[show putF f v ((k,x)::r)=(if k=f then (k,v)::r else (k,x)::putF f v r) from rfl]
  by_cases hk:k=f
  ·rw[Zg hk,Zi,Zi];omega
  ·rw[Zc hk,Zi,Zi];omega
theorem RelO.some_of(r:RelO (some v) o):∃ u,o=some u/\RelV v u:=by
 cases o with
 | none=>exact (show False from r).elim
 | some u=>exact⟨u,rfl,r⟩
theorem RelO.none_of(r:RelO none o):o=none:=by
 cases o with
 | none=>rfl
 | some u=>exact (show False from r).elim
theorem Q5j(r:RelV v u):PySem.W.handedIn u=true:=by
 cases v with
 | non=>cases (show u=Value.none from r);rfl
 | bl b=>cases (show u=Value.bool b from r);rfl
 | int i=>obtain⟨t,e⟩:=(show ∃ t,u=Value.int i t from r);cases e;rfl
 | str x=>obtain⟨t,e⟩:=(show ∃ t,u=Value.str x t from r);cases e;rfl
 | byt b=>obtain⟨t,e⟩:=(show ∃ t,u=Value.bytes b t from r);cases e;rfl
 | flt b=>obtain⟨t,e⟩:=(show ∃ t,u=Value.float b t from r);cases e;rfl
 | ref a=>cases (show u=Value.ref a from r);rfl
 | ty n=>cases (show u=Value.type n from r);rfl
section
variable{P:Program}{w:World}{H H':Hp}{h h':Heap}{a C dx:Addr}{fs fs':List (Str×V)}
theorem Q2F(hok:HOk P w H h)(e:H a=some (.ins C dx fs)):∃ mA,ObjM h a dx C mA/\(∀ f,RelO (fs.lookup f) (mA f))/\PySem.Within mA (fs.map (·.1))/\fs.length<=1000/\H dx=some (.own a):=by
 obtain⟨d,z,ne,ob,mA,n,r,q⟩:=(show ObjOk P w H h a (.ins C dx fs) from hok a _ e);exact⟨mA,⟨ob,n,ne⟩,r,q,z,d⟩
end
structure Cls(K:Frag)(C:Addr):Prop where
 pg:plainGet K C Str.empty=true
 hd:hasDictIn K C=true
 po:plainOver K C=true
 sa:findIn K (.ref C) "__setattr__" = some (some (.builtin "object.__setattr__"))
theorem Cls.get{K:Frag}{C:Addr}(c:Cls K C)(f:Str):plainGet K C f=true:=c.pg
noncomputable def NoAttr(K:Frag)(C:Addr)(f:Str):Prop:=findIn K (.ref C) f=some none
theorem NoAttr.taker{K:Frag}{C:Addr}{f:Str}(n:NoAttr K C f):PySem.W.takerIn K C f=some none:=by
 unfold PySem.W.takerIn;rw[show findIn K (.ref C) f=some none from n];rfl
structure Meth(K:Frag)(C:Addr)(m:Str)(f:Addr):Prop where
 at_:findIn K (.ref C) m=some (some (.ref f))
 fn:isFn K (.ref f)=true
 kp:keepIn K (.ref f)=true
section
variable{X:Cx}{pins:List (Addr×Obj)}{σ:St}{H:Hp}{s:Shared}{a C dx:Addr}{fs:List (Str×V)}{f:Str}{v:V}{A:Around}{E:Value->Shared->Prop}
theorem Q2s{Q:Value->Shared->Prop}(I:Inv X pins σ H s)(e:H a=some (.ins C dx fs))(c:Cls X.K C)(n:NoAttr X.K C f)(l:fs.lookup f=some v)
  (h:∀ u s',Inv X pins σ H s'->RelV v u->Q u s'):wpAny (model X.prog X.w) A (getAttr (.ref a) f b) Q E s:=by
 obtain⟨mA,O,r,_,_,_⟩:=Q2F I.hok e;obtain⟨u,hu,ru⟩:=RelO.some_of (v:=v) (o:=mA f) (by rw[<- l];exact r f)
 exact Q8W I.kIn O (c.get f) c.hd n hu (Q5j ru) (h u _ (I.tok _) ru)
theorem Q2t{Q:Value×List Value->Shared->Prop}(I:Inv X pins σ H s)(e:H a=some (.ins C dx fs))(c:Cls X.K C)(k:Meth X.K C m g)(l:fs.lookup m=none)
  (h:Q (.ref g,[.ref a]) s):wpAny (model X.prog X.w) A (getMethod (.ref a) m pl) Q E s:=by
 obtain⟨mA,O,r,_,_,_⟩:=Q2F I.hok e;have hn:mA m=none:=RelO.none_of (by rw[<- l];exact r m)
 exact Q6R I.kIn O (c.get m) k.at_ k.fn hn h
theorem Q2u{Q:Unit->Shared->Prop}(I:Inv X pins σ H s)(e:H a=some (.ins C dx fs))(c:Cls X.K C)(n:NoAttr X.K C f)(hl:fs.length<1000)(ry:RelV y u)
  (h:∀ s',Inv X pins σ (upd H a (.ins C dx (putF f y fs))) s'->Q () s'):wpAny (model X.prog X.w) A (setAttr (.ref a) f u) Q E s:=by
 obtain⟨mA,O,r,wi,_,ho⟩:=Q2F I.hok e;have hz:(fs.map (·.1)).length<=sizeLine:=by rw[Zb,sizeLine_eq];omega
 refine Q8X I.kIn O c.sa c.po n.taker c.hd wi hz fun h' O' sb=>h _ ?_;have hd:∃ o,h'.get? dx=some o:=let ⟨o,_,_,e',_⟩:=O'.ns;⟨o,e'⟩;refine I.write (x:=a) (e:=dx) (by rw[e];exact ZZ) (.inr ho) (fun b q hb z=>(sb.2 b hb).trans z) hd ?_
 refine⟨by rw[Q0g O.ne];exact ho,?_,O.ne,O'.obj,_,O'.ns,fun g=>?_,fun g hg=>?_⟩
 ·have:=Q2b f y fs;omega
 ·show RelO ((putF f y fs).lookup g) (if g=f then some u else mA g)
  rw[Q1Z];by_cases q:g=f
  ·rw[Zg q,Zg q];exact ry
  ·rw[Zc q,Zc q];exact r g
 ·by_cases q:g=f
  ·rw[q];exact (Q2a f y fs).1
  ·refine (Q2a f y fs).2 g (wi g fun z=>hg ?_);show (if g=f then some u else mA g)=none
   rw[Zc q];exact z
theorem Inv.made(I:Inv X pins σ H s):Inv X pins σ (upd (upd H s.heap.objs.size (.own (s.heap.objs.size+1))) (s.heap.objs.size+1) (.ins C s.heap.objs.size []))
  {s with heap:=(s.heap.push PySem.W.emptyDict).push (instObj C s.heap.objs.size) }:=by
 have e1:(s.heap.push PySem.W.emptyDict).get? s.heap.objs.size=some PySem.W.emptyDict:=Z1 s.heap rfl;have e2:((s.heap.push PySem.W.emptyDict).push (instObj C s.heap.objs.size)).get? (s.heap.objs.size+1)=some (instObj C s.heap.objs.size):=by
  have:=Z1 (s.heap.push PySem.W.emptyDict) (o:=instObj C s.heap.objs.size) rfl
  rwa [Heap.size_push]at this
 have e3:(s.heap.push PySem.W.emptyDict).Ns s.heap.objs.size (fun _=>none):=⟨PySem.W.emptyDict,#[],_,e1,rfl,(fun e he=>absurd he (by simp)),fun _=>rfl⟩
 have I1:=I.laid (a:=s.heap.objs.size) (o:=.own (s.heap.objs.size+1)) (h':=s.heap.push PySem.W.emptyDict) (t':=s.toks) (fun b u q=>Zm _ q) (Zs _) ⟨_,e1⟩;refine I1.laid (a:=s.heap.objs.size+1) (o:=.ins C s.heap.objs.size []) (t':=s.toks) (fun b u q=>Zm _ q) (le_of_eq (Heap.size_push _ _)) ?_;have ne:s.heap.objs.size≠s.heap.objs.size+1:=ZO (Nat.lt_succ_self _);refine⟨by rw[Q0g ne,Q0d],ZX _,ne,e2,fun _=>none,(Heap.Ns1.of_empty e3).at fun o q=>Zm _ q,fun _=>ZZ,fun y hy=>absurd rfl hy⟩
theorem Q8Y{Q:Value->Shared->Prop}(hb:attributeBase e f env (eval e env)=eval e env)
  (h:wpAny (model prog w) A (eval e env) (fun o s₁=>wpAny (model prog w) A (getAttr o f true) Q E s₁) E s):wpAny (model prog w) A (eval (.Attribute e f pos) env) Q E s :=
 Attribute_any_ h (by rw[arm_eval_Attribute,hb])
end
noncomputable def tFld(K:Frag)(ta:TE)(f:Str):TE:=fun σ H Q=>ta σ H fun x H1=>∃ a C dx fs v,x=.ref a/\H1 a=some (.ins C dx fs)/\Cls K C/\NoAttr K C f/\fs.lookup f=some v/\Q v H1
noncomputable def sFld(K:Frag)(ta tv:TE)(f:Str):TS:=fun D σ H=>tv σ H fun y H1=>ta σ H1 fun x H2=>∃ a C dx fs,x=.ref a/\H2 a=some (.ins C dx fs)/\Cls K C/\NoAttr K C f/\fs.length<1000 /\
 D.nx σ (upd H2 a (.ins C dx (putF f y fs)))
noncomputable def InOp(X:Cx)(op:Operator)(rd:V->V->Hp->VK->Prop):Prop :=
 ∀ (pins:List (Addr×Obj)) (s:Shared) (σ:St) (H:Hp) (x y:V) (u v:Value) (Q:VK),Inv X pins σ H s->RelV x u->RelV y v->rd x y H Q->wpAny (model X.prog X.w) X.A (inplaceOp op u v) (EP X pins σ Q) X.xe s
noncomputable def sFldAug(K:Frag)(ta tv:TE)(rd:V->V->Hp->VK->Prop)(f:Str):TS:=fun D σ H=>ta σ H fun x H1=>∃ a C dx fs v,x=.ref a/\H1 a=some (.ins C dx fs)/\Cls K C/\NoAttr K C f/\fs.lookup f=some v /\
 tv σ H1 fun y H2=>rd v y H2 fun z H3=>∃ dx' fs',H3 a=some (.ins C dx' fs')/\fs'.length<1000/\D.nx σ (upd H3 a (.ins C dx' (putF f z fs')))
section
variable{X:Cx}{o e value:Expr}{f:Str}{pos pos' tpos:Pos}{ta tv:TE}
theorem QaO(he:PE X e ta)(hb:attributeBase e f X.env (eval e X.env)=eval e X.env):PE X (.Attribute e f pos) (tFld X.K ta f):=by
 intro pins s σ H Q I h;refine Q8Y hb (thn (he pins s σ H _ I h) fun u s1 zz=>?_);obtain⟨x,H1,I1,rx,a,C,dx,fs,v,ex,ea,c,n,l,q⟩:=zz;subst ex;obtain rfl:u=Value.ref a:=rx;exact Q2s I1 ea c n l fun u' s2 I2 ru=>⟨v,H1,I2,ru,q⟩
theorem QaP(ha:PE X o ta)(hv:PE X value tv)(hs:swapsWith value (some (.Attribute o f pos')) pos.line X.env=pure false):PS X (.Assign [.Attribute o f pos'] value pos) (sFld X.K ta tv f):=by
 intro pins s σ H D I h;refine plainObj_wpAny_Assign_Attribute (thn (hv pins s σ H _ I h) fun u s1 ⟨y,H1,I1,ry,q⟩=>thn (ha pins s1 σ H1 _ I1 q) fun ov s2 zz=>?_) hs;obtain⟨x,H2,I2,rx,a,C,dx,fs,ex,ea,c,n,l,q2⟩:=zz;subst ex;obtain rfl:ov=Value.ref a:=rx;exact Q2u I2 ea c n l ry fun s3 I3=>⟨σ,_,I3,q2⟩
theorem Q5k{rd:V->V->Hp->VK->Prop}(ha:PE X o ta)(hv:PE X value tv)(hop:InOp X op rd):PS X (.AugAssign (.Attribute o f tpos) op value pos) (sFldAug X.K ta tv rd f):=by
 intro pins s σ H D I h;refine wpAny_AugAssign_AttributeAny (thn (ha pins s σ H _ I h) fun ov s1 zz=>?_);obtain⟨x,H1,I1,rx,a,C,dx,fs,v,ex,ea,c,n,l,q⟩:=zz;subst ex;obtain rfl:ov=Value.ref a:=rx;refine Q2s I1 ea c n l fun u s2 I2 ru=>thn (hv pins s2 σ H1 _ I2 q) fun w3 s3 ⟨y,H2,I3,ry,q3⟩=>thn (hop pins s3 σ H2 v y u w3 _ I3 ru ry q3) fun w4 s4 zz=>?_;obtain⟨z,H3,I4,rz,dx',fs',ea',l',q4⟩:=zz;exact Q2u I4 ea' c n l' rz fun s5 I5=>⟨σ,_,I5,q4⟩
noncomputable def rAdd:V->V->Hp->VK->Prop:=fun x y H Q=>∃ i j,x=.int i/\y=.int j/\Q (.int (i+j)) H
theorem QaQ:InOp X .Add rAdd:=by
 rintro pins s σ H x y u v Q I rx ry ⟨i,j,rfl,rfl,q⟩;obtain⟨t,rfl⟩:=(show ∃ t,u=Value.int i t from rx);obtain⟨t',rfl⟩:=(show ∃ t',v=Value.int j t' from ry);exact PyProof.Rows.iadd_int ⟨.int (i+j),H,I.tok _,⟨_,rfl⟩,q⟩
end
section
variable{X:Cx}{pins:List (Addr×Obj)}{σ:St}{H:Hp}{s:Shared}{A:Around}{E:Value->Shared->Prop}{Q:Value->Shared->Prop}{c:Value}{b:Bool}
inductive TyOf(K:Frag)(H:Hp):V->Value->Prop where
 | non:TyOf K H .non (.type "NoneType")
 | bl (x:Bool):TyOf K H (.bl x) (.type "bool")
 | int (i:Int):TyOf K H (.int i) (.type "int")
 | str (x:Str):TyOf K H (.str x) (.type "str")
 | flt (x:UInt64):TyOf K H (.flt x) (.type "float")
 | lst {a:Addr} {xs:List V} (e:H a=some (.lst xs)):TyOf K H (.ref a) (.type "list")
 | frz {a:Addr} {o:Obj} {xs:List V} (e:H a=some (.frz o (.lst xs))):TyOf K H (.ref a) (.type "list")
 | tup {a:Addr} {xs:List V} (e:H a=some (.tup xs)):TyOf K H (.ref a) (.type "tuple")
 | dK {a:Addr} {kvs:List (Key×V)} (e:H a=some (.dK kvs)):TyOf K H (.ref a) (.type "dict")
 | dT {a:Addr} {kvs:List (List Key×V)} (e:H a=some (.dT kvs)):TyOf K H (.ref a) (.type "dict")
 | ins {a C dx:Addr} {fs:List (Str×V)} (e:H a=some (.ins C dx fs)) (cl:Cls K C) (ha:findIn K (.ref C) "__class__" = some (some (.builtin "object.__class__")))
   (hn:PySem.W.specialIn K (.builtin "object.__class__") "__get__" = some (some (.builtin "getset_descriptor.__get__"))) (htk:PySem.W.takesIn K (.builtin "object.__class__")=some true)
   (hm:PySem.W.mroIn K C (.type "object")=some true):TyOf K H (.ref a) (.ref C)
theorem Q1f(I:Inv X pins σ H s)(rx:RelV x u)(ty:TyOf X.K H x t)(e:kitOne X.K t c=some b)(h:∀ tk,Q (.bool b) { s with toks:=tk }) :
  wpAny (model X.prog X.w) A (call (.builtin "isinstance") [u,c]) Q E s:=by
 cases ty with
 | non=>cases (show u=Value.none from rx);exact kia_one PySem.W.kitx_none I.kIn ZZ e (fun z=>nomatch z) h
 | bl y=>cases (show u=Value.bool y from rx);exact kia_one PySem.W.kitx_bool I.kIn ZZ e (fun z=>nomatch z) h
 | int i=>obtain⟨t,q⟩:=(show ∃ t,u=Value.int i t from rx);cases q;exact kia_one PySem.W.kitx_int I.kIn ZZ e (fun z=>nomatch z) h
 | str y=>obtain⟨t,q⟩:=(show ∃ t,u=Value.str y t from rx);cases q;exact kia_one PySem.W.kitx_str I.kIn ZZ e (fun z=>nomatch z) h
 | flt y=>obtain⟨t,q⟩:=(show ∃ t,u=Value.float y t from rx);cases q;exact kia_one PySem.W.kitx_float I.kIn ZZ e (fun z=>nomatch z) h
 | @lst a xs ea =>
  cases (show u=Value.ref a from rx);obtain⟨_,_,n,_,h1⟩:=(show ObjOk X.prog X.w H s.heap a (.lst xs) from I.hok a _ ea);exact kia_one kitx_list I.kIn ⟨_,h1,rfl⟩ e (fun z=>nomatch z) h
 | @frz a ob xs ea =>
  cases (show u=Value.ref a from rx);obtain⟨_,_,_,n,_,h1⟩:=(show ObjOk X.prog X.w H s.heap a (.frz ob (.lst xs)) from I.hok a _ ea);exact kia_one kitx_list I.kIn ⟨_,h1,rfl⟩ e (fun z=>nomatch z) h
 | @tup a xs ea =>
  cases (show u=Value.ref a from rx);obtain⟨_,_,_,p⟩:=(show ObjOk X.prog X.w H s.heap a (.tup xs) from I.hok a _ ea);obtain⟨o,h1,h2,_⟩:=p;exact kia_one kitx_tuple I.kIn ⟨o,h1,h2⟩ e (fun z=>nomatch z) h
 | @dK a kvs ea =>
  cases (show u=Value.ref a from rx);obtain⟨_,_,vs,_,p⟩:=(show ObjOk X.prog X.w H s.heap a (.dK kvs) from I.hok a _ ea);obtain⟨o,es,ep,h1,h2,_⟩:=p;exact kia_one kitx_dict I.kIn ⟨o,h1,h2.1⟩ e (fun z=>nomatch z) h
 | @dT a kvs ea =>
  cases (show u=Value.ref a from rx);obtain⟨_,_,xs,_,o,es,ep,h1,h2,_⟩:=(show ObjOk X.prog X.w H s.heap a (.dT kvs) from I.hok a _ ea);exact kia_one kitx_dict I.kIn ⟨o,h1,h2.1⟩ e (fun z=>nomatch z) h
 | @ins a C dx fs ea cl ha hn htk hm =>
  cases (show u=Value.ref a from rx);obtain⟨mA,O,_⟩:=Q2F I.hok ea;obtain⟨od,J,_⟩:=O.look;exact kia_one (PySem.W.kitx_own (cl.get _) cl.hd ha hn htk hm) I.kIn J e (fun z=>nomatch z) h
end
structure Room(k:Nat)(A:Around):Prop where
 hd:A.handled=none
 dp:A.depth+3 * k+5<recursionLimit
 un:A.units+16 * k+200<cLine
theorem Room.mono(r:Room k A)(h:j<=k):Room j A:=⟨r.hd,by have:=r.dp;omega,by have:=r.un;omega⟩
theorem Room.deeper(r:Room (k+1) A)(env:Env):Room k (A.deeper env) :=
 ⟨r.hd,by have:=r.dp;show A.depth+1+3 * k+5<_;omega,by have:=r.un;show A.units+3+16 * k+200<_;omega⟩
theorem Room.in1(r:Room (k+1) A):Room k A.in1 :=
 ⟨r.hd,by have:=r.dp;show A.depth+3 * k+5<_;omega,by have:=r.un;show A.units+1+16 * k+200<_;omega⟩
theorem Q4I{A:Around}{C:Addr}{us:List Value}{kw:List (Str×Value)}:(A.under (.builtin "type.__call__" ⟨.ref C::us,kw⟩)).depth=A.depth+1:=by
 first | rfl | simp[Around.under,Code.weight,Code.isCreation,Code.isGuard,Code.isCaller,Code.frames,Code.isFrame,guardIds]
theorem Q4J{A:Around}{C:Addr}{us:List Value}{kw:List (Str×Value)}:(A.under (.builtin "type.__call__" ⟨.ref C::us,kw⟩)).units=A.units+1:=by
 first | rfl | simp[Around.under,Code.cUnits,Code.frames,Code.isFrame]
theorem Room.make(r:Room (k+1) A)(C:Addr)(us:List Value)(kw:List (Str×Value)):Room k (A.under (.builtin "type.__call__" ⟨.ref C::us,kw⟩)) :=
 ⟨r.hd,by have:=r.dp;rw[Q4I];omega,by have:=r.un;rw[Q4J];omega⟩
theorem Room.depth(r:Room k A):A.depth<recursionLimit:=by have:=r.dp;omega
theorem Room.units(r:Room k A):A.units+64<cLine:=by have:=r.un;omega
noncomputable def tNil:TA:=fun _ H Q=>Q [] H
noncomputable def tCons(ta:TE)(tr:TA):TA:=fun σ H Q=>ta σ H fun x H1=>tr σ H1 fun xs H2=>Q (x::xs) H2
section
variable{X:Cx}{e:Expr}{es:List Expr}{te:TE}{t:TA}{pos:Pos}
theorem Q8w:PA X [] tNil:=fun _ _ _ _ H Q I h=>Calls.spliced_nil ⟨[],H,I,.nil,h⟩
theorem Q3M(ha:PE X e te)(hr:PA X es t)(hs:starEach (e::es) X.env=(false,eval e X.env)::starEach es X.env:=by rfl):PA X (e::es) (tCons te t):=by
 intro pos pins s σ H Q I h;rw[hs];show wpAny _ _ (spliced ((false,eval e X.env)::backTo pos (starEach es X.env))) _ _ s;refine ZR (thn (ha pins s σ H _ I h) fun u s1 ⟨x,H1,I1,r1,q1⟩=>?_);exact thn (hr pos pins s1 σ H1 _ I1 q1) fun us s2 ⟨xs,H2,I2,r2,q2⟩=>⟨x::xs,H2,I2,.cons r1 r2,q2⟩
noncomputable def tTup(t:TA):TE:=fun σ H Q=>t σ H fun xs H1=>xs.length<=sizeLine/\∀ p,H1 p=none->Q (.ref p) (upd H1 p (.tup xs))
noncomputable def tLst(t:TA):TE:=fun σ H Q=>t σ H fun xs H1=>xs.length<=sizeLine/\∀ p,H1 p=none->Q (.ref p) (upd H1 p (.lst xs))
theorem QaR{x1}(h:PA X es t):PE X (.Tuple es x1 pos) (tTup t):=by
 intro pins s σ H Q I hq;refine wpAny_Tuple_spliced (thn (h pos pins s σ H _ I hq) fun us s1 ⟨xs,H1,I1,r,z,q⟩=>⟨by rw[<- r.length];exact z,?_⟩)
 have hf:H1 s1.heap.objs.size=none:=I1.hok.fresh (Zs _);refine⟨.ref s1.heap.objs.size,upd H1 s1.heap.objs.size (.tup xs),I1.laid (t':=s1.toks) (fun b u e=>Zm _ e) (Zs _) ?_,rfl,q _ hf⟩;exact⟨z,us,r,⟨_,Z1 _ rfl,rfl,_,rfl⟩⟩
theorem Q8x(h:PA X es t):PE X (.List es pos) (tLst t):=by
 intro pins s σ H Q I hq;refine wpAny_List_spliced (thn (h pos pins s σ H _ I hq) fun us s1 ⟨xs,H1,I1,r,z,q⟩=>⟨by rw[<- r.length];exact z,?_⟩)
 have hf:H1 s1.heap.objs.size=none:=I1.hok.fresh (Zs _);refine⟨.ref s1.heap.objs.size,upd H1 s1.heap.objs.size (.lst xs),I1.laid (t':=s1.toks) (fun b u e=>Zm _ e) (Zs _) ?_,rfl,q _ hf⟩;exact⟨z,us,0,r,Z1 _ rfl⟩
end
noncomputable abbrev Sp:=List V->Hp->VK->XK->Prop
noncomputable abbrev CXT:=List Env->Hp->Shared->XK->Value->Shared->Prop
structure Env0(P:Program)(w:World)(K:Frag)(mg:Str->Option Value)(base:Heap)(A:Around)(outer:List Env)(s:Shared)(H:Hp):Prop where
 frames:A.frames=some outer
 mod:Mod K mg base
 bs:∀ b o,base.get? b=some o->s.heap.get? b=some o/\H b=none
 bsz:base.objs.size<=s.heap.objs.size
 funs:s.heap.FunFrames base outer
 frf:∀ b∈frs outer,H b=none
 hok:HOk P w H s.heap
 bare:AllBare s.gens
noncomputable def CE(outer:List Env)(P:Program)(w:World)(H:Hp)(s:Shared)(Q:VK)(u:Value)(s':Shared):Prop :=
 ∃ v H',s'.os=s.os/\AllBare s'.gens/\Un (frs outer) [] H H' s.heap s'.heap/\HOk P w H' s'.heap/\RelV v u/\Q v H'
noncomputable def CR(CX:CXT)(outer:List Env)(P:Program)(w:World)(H:Hp)(s:Shared)(Q:VK)(E:XK)(r:Result)(s':Shared):Prop :=
 match r with
 | .ok (.ret u)=>CE outer P w H s Q u s'
 | .ok _=>False
 | .error e=>CX outer H s E e s'
structure FnOk(P:Program)(w:World)(K:Frag)(mg:Str->Option Value)(base:Heap)(CX:CXT)(k:Nat)(f:Addr)(fd:FuncData)(ps:List Str)(sp:Sp):Prop where
 len:∀ vs H Q E,sp vs H Q E->vs.length=ps.length
 run:∀ (A:Around) (outer:List Env) (s:Shared) (H:Hp) (args:Args) (us:List Value) (vs:List V) (Q:VK) (E:XK),Room k A->Env0 P w K mg base A outer s H->BindsTo s fd args (ps.zip us)->Vals vs us->sp vs H Q E ->
  codeAny (model P w) A (.call (.ref f) args) (CR CX outer P w H s Q E) s
theorem FnOk.mono{P:Program}{w:World}{K:Frag}{mg:Str->Option Value}{base:Heap}{CX:CXT}{j k:Nat}{f:Addr}{fd:FuncData}{ps:List Str}{sp:Sp}(F:FnOk P w K mg base CX j f fd ps sp)(h:j<=k) :
  FnOk P w K mg base CX k f fd ps sp:=⟨F.len,fun A outer s H args us vs Q E hr=>F.run A outer s H args us vs Q E (hr.mono h)⟩
theorem Env0.make{P:Program}{w:World}{K:Frag}{mg:Str->Option Value}{base:Heap}{A:Around}{outer:List Env}{s:Shared}{H:Hp}(e:Env0 P w K mg base A outer s H)(C:Addr)(us:List Value)(kw:List (Str×Value)) :
  Env0 P w K mg base (A.under (.builtin "type.__call__" ⟨.ref C::us,kw⟩)) outer s H:=⟨by first | exact e.frames | (simpa[Around.under,Code.envs,Code.isFrame,pushEnvs]using e.frames),e.mod,e.bs,e.bsz,e.funs,e.frf,e.hok,e.bare⟩
theorem Env0.in1{P:Program}{w:World}{K:Frag}{mg:Str->Option Value}{base:Heap}{A:Around}{outer:List Env}{s:Shared}{H:Hp}(e:Env0 P w K mg base A outer s H) :
  Env0 P w K mg base A.in1 outer s H:=⟨e.frames,e.mod,e.bs,e.bsz,e.funs,e.frf,e.hok,e.bare⟩
section
variable{X:Cx}{pins:List (Addr×Obj)}{σ:St}{H:Hp}{s s':Shared}
theorem Inv.env0(I:Inv X pins σ H s):Env0 X.prog X.w X.K X.mg X.base X.A X.stack s H :=
 ⟨I.ok.frames,I.ok.mod,I.bs,Z3 I.ok.bsz I.sz,I.stack,I.stkFree,I.hok,I.bare⟩
theorem Inv.after(I:Inv X pins σ H s)(h:CE X.stack X.prog X.w H s Q u s'):EP X pins σ Q u s':=by
 obtain⟨v,H',os,bare,un,hok,r,q⟩:=h;obtain⟨hh,g,d,t,os'⟩:=s';obtain rfl:os'=s.os:=os;exact⟨v,H',I.call (h':=hh) (g':=g) (d':=d) (t':=t) (ch:=[]) un hok bare (fun b z=>absurd z (by simp)),r,q⟩
end
noncomputable def tCall(sp:Sp)(dvs:List V)(E:XK)(t:TA):TE:=fun σ H Q=>t σ H fun vs H1=>sp (vs++dvs) H1 Q E
noncomputable def tMeth(C:Addr)(m:Str)(sp:Sp)(dvs:List V)(E:XK)(ta:TE)(t:TA):TE:=fun σ H Q=>ta σ H fun x H1=>∃ a dx fs,x=.ref a/\H1 a=some (.ins C dx fs)/\fs.lookup m=none /\
 t σ H1 fun vs H2=>sp (x::(vs++dvs)) H2 Q E
noncomputable def tMake(C:Addr)(sp:Sp)(dvs:List V)(E:XK)(t:TA):TE:=fun σ H Q=>t σ H fun vs H1=>∀ x dx,H1 x=none->H1 dx=none->dx≠x ->
 sp (.ref x::(vs++dvs)) (upd (upd H1 dx (.own x)) x (.ins C dx [])) (fun v H2=>v=.non/\Q (.ref x) H2) E
noncomputable def Binds(K:Frag)(fd:FuncData)(ps:List Str)(ds:List Value):Prop :=
 ∀ (s:Shared) (us:List Value),K.In s.heap->(us++ds).length=ps.length->BindsTo s fd ⟨us,[]⟩ (ps.zip (us++ds))
theorem Binds.all{K:Frag}{fd:FuncData}{ps:List Str}(h:∀ us:List Value,us.length=ps.length->bindArgs fd ⟨us,[]⟩=pure (ps.zip us)):Binds K fd ps []:=fun s us _ hl=>by
 rw[ZM]at hl ⊢;exact .of_eq (h us hl)
noncomputable def zau(CX:CXT)(X:Cx)(E:XK):Prop:=∀ (pins:List (Addr×Obj)) (σ:St) (H:Hp) (s:Shared) (e:Value) (s':Shared),Inv X pins σ H s->CX X.stack H s E e s'->X.xe e s'
section
variable{X:Cx}{CX:CXT}{k:Nat}{f C:Addr}{fd:FuncData}{ps:List Str}{sp:Sp}{dvs:List V}{ds:List Value}{E:XK}{x m:Str}{p pos apos:Pos}{e o:Expr}{es:List Expr}{ta:TE}{t:TA}
theorem Q5l(F:FnOk X.prog X.w X.K X.mg X.base CX k f fd ps sp)(hr:Room k X.A)(hb:Binds X.K fd ps ds)(hd:Vals dvs ds)(hx:zau CX X E)
  (I:Inv X pins σ H s) (r:Vals vs us) (h:sp (vs++dvs) H Q E):wpAny (model X.prog X.w) X.A (call (.ref f) us) (EP X pins σ Q) X.xe s:=by
 have r2:Vals (vs++dvs) (us++ds):=r.append hd;have hl:(us++ds).length=ps.length:=by rw[<- r2.length];exact F.len _ _ _ _ h
 refine wpAny_call (codeAny_mono (F.run X.A X.stack s H ⟨us,[]⟩ (us++ds) (vs++dvs) Q E hr I.env0 (hb s us I.kIn hl) r2 h) fun r s' hq=>?_);cases r with
 | error e=>exact hx pins σ H s e s' I hq
 | ok fl =>
  cases fl with
  | ret u=>exact I.after hq
  | next=>exact False.elim hq
  | brk=>exact False.elim hq
  | cont=>exact False.elim hq
theorem Q8Z(F:FnOk X.prog X.w X.K X.mg X.base CX k f fd ps sp)(hr:Room k X.A)(hg:Gl X x)(hm:X.mg x=some (.ref f))(hk:keepIn X.K (.ref f)=true)(hb:Binds X.K fd ps ds)(hd:Vals dvs ds)(hx:zau CX X E)
  (ha:PA X (e::es) t) (hdb:(x==("__debug__" : Str))=false:=by decide) (he:starEach (e::es) X.env=(false,eval e X.env)::starEach es X.env:=by rfl) (hpl:(backTo pos (starEach es X.env)).any (·.1)=false:=by rfl) :
  PE X (.Call (.Name x p) (e::es) [] pos) (tCall sp dvs E t):=by
 intro pins s σ H Q I h;refine wpAny_Call_Name_kw (Q3L I hg hm ?_ hdb);refine callWith_K (h₀:=X.base) I.ok.mod.kin hk (thn (ha pos pins s σ H _ I h) fun us s1 ⟨vs,H1,I1,r,q⟩=>⟨I1.kIn,?_⟩) he hpl;exact Q5l F hr hb hd hx I1 r q
theorem Q9a{pl:Sem Bool}(he:PE X o ta)(c:Cls X.K C)(hm:Meth X.K C m f)(F:FnOk X.prog X.w X.K X.mg X.base CX k f fd ps sp)(hr:Room k X.A)(hb:Binds X.K fd ps ds)(hd:Vals dvs ds)(hx:zau CX X E)(ha:PA X (e::es) t)
  (hst:starEach (e::es) X.env=(false,eval e X.env)::starEach es X.env:=by rfl) (hpl:(backTo pos (starEach es X.env)).any (·.1)=false:=by rfl)
  (ht:eval (.Call (.Attribute o m apos) (e::es) [] pos) X.env=(do
   let ov <- eval o X.env
   standAt apos.atName
   let (f,first) <- holding [ov] (getMethod ov m pl)
   callWith pos f first (backTo pos (starEach (e::es) X.env)) (backToKw pos (keywordEach [] X.env))):=by rfl) :
  PE X (.Call (.Attribute o m apos) (e::es) [] pos) (tMeth C m sp dvs E ta t):=by
 intro pins s σ H Q I h;refine methodCall_KW (pl:=pl) (thn (he pins s σ H _ I h) fun u s1 zz=>?_) ht;obtain⟨x,H1,I1,rx,a,dx,fs,ex,ea,l,q⟩:=zz;subst ex;obtain rfl:u=Value.ref a:=rx;refine Q2t I1 ea c hm l ?_;refine callWith_K (first:=[.ref a]) (h₀:=X.base) I.ok.mod.kin hm.kp (thn (ha pos pins s1 σ H1 _ I1 q) fun us s2 ⟨vs,H2,I2,r,q2⟩=>⟨I2.kIn,?_⟩) hst hpl
 exact Q5l (us:=.ref a::us) (vs:=.ref a::vs) F hr hb hd hx I2 (.cons rfl r) q2
theorem Q6T(he:PE X o ta)(c:Cls X.K C)(hm:Meth X.K C m f)(F:FnOk X.prog X.w X.K X.mg X.base CX k f fd ps sp)(hr:Room k X.A)(hb:Binds X.K fd ps ds)(hd:Vals dvs ds)(hx:zau CX X E)
  (ht:eval (.Call (.Attribute o m apos) [] [] pos) X.env=(do
   let ov <- eval o X.env
   standAt apos.atName
   let (f,first) <- holding [ov] (getMethod ov m pl)
   callWith pos f first (backTo pos (starEach [] X.env)) (backToKw pos (keywordEach [] X.env))):=by rfl) :
  PE X (.Call (.Attribute o m apos) [] [] pos) (tMeth C m sp dvs E ta tNil):=by
 intro pins s σ H Q I h;refine methodCall_KW (pl:=pl) (thn (he pins s σ H _ I h) fun u s1 zz=>?_) ht;obtain⟨x,H1,I1,rx,a,dx,fs,ex,ea,l,q⟩:=zz;subst ex;obtain rfl:u=Value.ref a:=rx;refine Q2t I1 ea c hm l ?_;exact PySem.W.callWith_K0 (first:=[.ref a]) I1.kIn hm.kp (Q5l (us:=[.ref a]) (vs:=[.ref a]) F hr hb hd hx I1 (.cons rfl .nil) q)
structure Mk(K:Frag)(C f:Addr):Prop where
 makes:makesIn K C=true
 init:findIn K (.ref C) "__init__" = some (some (.ref f))
 fn:isFn K (.ref f)=true
 kp:keepIn K (.ref C)=true
theorem Q6U(M:Mk X.K C f)(F:FnOk X.prog X.w X.K X.mg X.base CX k f fd ps sp)(hr:Room (k+1) X.A)(hb:Binds X.K fd ps ds)(hd:Vals dvs ds)
  (hx:zau CX X E) (I:Inv X pins σ H s) (r:Vals vs us)
  (h:∀ x dx,H x=none->H dx=none->dx≠x->sp (.ref x::(vs++dvs)) (upd (upd H dx (.own x)) x (.ins C dx [])) (fun v H2=>v=.non/\Q (.ref x) H2) E) :
  wpAny (model X.prog X.w) X.A (call (.ref C) us) (EP X pins σ Q) X.xe s:=by
 have hq:=h (s.heap.objs.size+1) s.heap.objs.size (I.hok.fresh (le_succ _)) (I.hok.fresh (Zs _)) (ZO (Nat.lt_succ_self _));have I2:=Inv.made (C:=C) I;have r2:Vals (V.ref (s.heap.objs.size+1)::(vs++dvs)) (Value.ref (s.heap.objs.size+1)::(us++ds)):=.cons rfl (r.append hd);have hl:(Value.ref (s.heap.objs.size+1)::us++ds).length=ps.length:=by
  have e:=r2.length;rw[F.len _ _ _ _ hq]at e;exact e.symm
 refine wpAny_call (Q6S (f:=f) I.kIn M.makes M.init (Zx.mp M.fn) (codeAny_mono (F.run _ X.stack _ _ ⟨Value.ref (s.heap.objs.size+1)::us,[]⟩ (Value.ref (s.heap.objs.size+1)::(us++ds)) _ _ E (hr.make C us [])
  (I2.env0.make C us []) (hb _ (Value.ref (s.heap.objs.size+1)::us) I2.kIn hl) r2 hq) fun r s' hq'=>?_))
 cases r with
 | error e=>exact hx pins σ _ _ e s' I2 hq'
 | ok fl =>
  cases fl with
  | ret u =>
   obtain⟨v,H',I3,rv,ev,q3⟩:=I2.after hq';subst ev;exact⟨rv,⟨V.ref (s.heap.objs.size+1),H',I3,rfl,q3⟩⟩
  | next=>exact False.elim hq'
  | brk=>exact False.elim hq'
  | cont=>exact False.elim hq'
theorem Q9b(M:Mk X.K C f)(F:FnOk X.prog X.w X.K X.mg X.base CX k f fd ps sp)(hr:Room (k+1) X.A)(hg:Gl X x)(hm:X.mg x=some (.ref C))(hb:Binds X.K fd ps ds)(hd:Vals dvs ds)(hx:zau CX X E)
  (ha:PA X (e::es) t) (hdb:(x==("__debug__" : Str))=false:=by decide) (he:starEach (e::es) X.env=(false,eval e X.env)::starEach es X.env:=by rfl) (hpl:(backTo pos (starEach es X.env)).any (·.1)=false:=by rfl) :
  PE X (.Call (.Name x p) (e::es) [] pos) (tMake C sp dvs E t):=by
 intro pins s σ H Q I h;refine wpAny_Call_Name_kw (Q3L I hg hm ?_ hdb);refine callWith_K (h₀:=X.base) I.ok.mod.kin M.kp (thn (ha pos pins s σ H _ I h) fun us s1 ⟨vs,H1,I1,r,q⟩=>⟨I1.kIn,?_⟩) he hpl;exact Q6U M F hr hb hd hx I1 r q
end
noncomputable def PK(X:Cx)(kws:List Keyword)(t:TA):Prop :=
 ∀ (pos:Pos) (pins:List (Addr×Obj)) (s:Shared) (σ:St) (H:Hp) (Q:List V->Hp->Prop),Inv X pins σ H s->t σ H Q->wpAny (model X.prog X.w) X.A (evalAll ((backToKw pos (keywordEach kws X.env)).map (·.2))) (AP X pins σ Q) X.xe s
section
variable{X:Cx}{CX:CXT}{k:Nat}{f C:Addr}{fd:FuncData}{ps ks:List Str}{sp:Sp}{E:XK}{x m:Str}{p pos apos kpos:Pos}{e o:Expr}{es:List Expr}{kws:List Keyword}{te ta:TE}{t tk:TA}{nm:Option Str}
theorem QaS:PK X [] tNil:=fun _ _ _ _ H Q I h=>wpAny_evalAll_nil ⟨[],H,I,.nil,h⟩
theorem Q9c(ha:PE X e te)(hr:PK X kws t):PK X (⟨nm,e,kpos⟩::kws) (tCons te t):=by
 intro pos pins s σ H Q I h;show wpAny _ _ (evalAll ((do let v <- eval e X.env;standAt pos;pure v)::(backToKw pos (keywordEach kws X.env)).map (·.2))) _ _ s
 refine wpAny_evalAll_cons (Za (thn (ha pins s σ H _ I h) fun u s1 ⟨x,H1,I1,r1,q1⟩=>Za (wpAny_standAt (Zd ?_))));exact thn (hr pos pins s1 σ H1 _ I1 q1) fun us s2 ⟨xs,H2,I2,r2,q2⟩=>⟨x::xs,H2,I2,.cons r1 r2,q2⟩
structure zc0(K:Frag)(fd:FuncData)(ps ks:List Str)(g:List Value->List Value->List Value)(gV:List V->List V->List V):Prop where
 to:∀ (s:Shared) (us ws:List Value),K.In s.heap->(g us ws).length=ps.length->BindsTo s fd ⟨us,ks.zip ws⟩ (ps.zip (g us ws))
 rel:∀ {vs:List V} {us:List Value} {zs:List V} {ws:List Value},Vals vs us->Vals zs ws->Vals (gV vs zs) (g us ws)
noncomputable def tCallK(sp:Sp)(gV:List V->List V->List V)(E:XK)(t tk:TA):TE:=fun σ H Q=>t σ H fun vs H1=>tk σ H1 fun zs H2=>sp (gV vs zs) H2 Q E
variable{g:List Value->List Value->List Value}{gV:List V->List V->List V}
end
structure zaK(N P:List Str)(sc:Scope):Prop where
 kind:sc.kind=.function
 co:sc.isCoroutine=false
 gen:sc.isGenerator=false
 nd:N.Nodup
 pre:N.take P.length=P
 par:∀ x∈P,sc.names.lookup x=some .local\/sc.names.lookup x=some .cell
 nofree:∀ y∈sc.names,y.2≠.free
theorem Q2Z{kindOf:Str->Option NameKind}:∀ {binds:List (Str×Value)} {m:Str->Option Value},(∀ v,(x,v)∉binds)->bindL kindOf binds m x=m x
 | [],_,_=>rfl
 | (n,v)::r,m,h=>by
  unfold bindL;rw[Q2Z fun w hw=>h w (Zk _ hw)];split
  ·have:x≠n:=by rintro rfl;exact h v Zv
   simp[this]
  ·rfl
theorem Q3a{kindOf:Str->Option NameKind}:∀ {binds:List (Str×Value)} {m:Str->Option Value},(∀ v,(x,v)∉binds)->bindC kindOf binds m x=m x
 | [],_,_=>rfl
 | (n,v)::r,m,h=>by
  unfold bindC;rw[Q3a fun w hw=>h w (Zk _ hw)];split
  ·rfl
  ·have:x≠n:=by rintro rfl;exact h v Zv
   simp[this]
theorem Q3b{kindOf:Str->Option NameKind}:∀ {P:List Str} {vs:List Value} {i:Nat} {m:Str->Option Value},P.Nodup->P[i]? = some x->vs[i]? = some v->kindOf x=some .local ->
  bindL kindOf (P.zip vs) m x=some v
 | [],_,_,_,_,h,_,_=>by simp at h
 | _::_,[],_,_,_,_,h,_=>by simp at h
 | p::P,w::vs,0,m,nd,h1,h2,hk=>by
  simp at h1 h2;subst h1;subst h2;show bindL kindOf ((p,w)::P.zip vs) m p=_;unfold bindL;rw[Q2Z fun v hv=>(nodup_cons.mp nd).1 (of_mem_zip hv).1,Zg hk];simp
 | p::P,w::vs,i+1,m,nd,h1,h2,hk=>by
  show bindL kindOf ((p,w)::P.zip vs) m x=_;unfold bindL;exact Q3b (i:=i) (nodup_cons.mp nd).2 (by simpa using h1) (by simpa using h2) hk
theorem Q3c{kindOf:Str->Option NameKind}:∀ {P:List Str} {vs:List Value} {i:Nat} {m:Str->Option Value},P.Nodup->P[i]? = some x->vs[i]? = some v->kindOf x≠some .local ->
  bindC kindOf (P.zip vs) m x=some v
 | [],_,_,_,_,h,_,_=>by simp at h
 | _::_,[],_,_,_,_,h,_=>by simp at h
 | p::P,w::vs,0,m,nd,h1,h2,hk=>by
  simp at h1 h2;subst h1;subst h2;show bindC kindOf ((p,w)::P.zip vs) m p=_;unfold bindC;rw[Q3a fun v hv=>(nodup_cons.mp nd).1 (of_mem_zip hv).1,Zc hk];simp
 | p::P,w::vs,i+1,m,nd,h1,h2,hk=>by
  show bindC kindOf ((p,w)::P.zip vs) m x=_;unfold bindC;exact Q3c (i:=i) (nodup_cons.mp nd).2 (by simpa using h1) (by simpa using h2) hk
noncomputable def start(N:List Str)(vs:List V):St:=vs.map some++List.replicate (N.length-vs.length) none
noncomputable def cxOf(CX:CXT)(P:Program)(w:World)(K:Frag)(mg:Str->Option Value)(base:Heap)(N:List Str)(qual:Str)(scope:Scope)(f:Addr)(cd:Value)(A:Around)(outer:List Env)(s:Shared)(H:Hp)(E:XK):Cx where
 prog:=P
 w:=w
 K:=K
 mg:=mg
 base:=base
 A:=A.deeper (envOfC qual scope s.heap.objs.size f cd)
 N:=N
 s₀:=s
 H₀:=H
 env:=envOfC qual scope s.heap.objs.size f cd
 outer:=outer
 stack:=envOfC qual scope s.heap.objs.size f cd::outer
 ex:=[]
 calm:=true
 fn:=fun _=>true
 pn:=[]
 xe:=fun e s'=>wpAny (model P w) (A.deeper (envOfC qual scope s.heap.objs.size f cd)) (leaving (envOfC qual scope s.heap.objs.size f cd) e) (fun _ s''=>CX outer H s E e s'') (fun e' s''=>CX outer H s E e' s'') s'
theorem Q4f{sc:Scope}{n:Nat}{x:Str}(h:sc.names.lookup x=some .cell):∃ c,(cellsFrom n sc.names []).lookup x=some c:=by
 have q:=PySem.W.cellsFrom_some sc.names n [] (.inl h);exact Option.isSome_iff_exists.mp q
theorem Q5m{CX:CXT}{P:Program}{w:World}{K:Frag}{mg:Str->Option Value}{base:Heap}{N ps:List Str}{qual:Str}{scope:Scope}{f:Addr}{cd:Value}{A:Around}{outer:List Env}{s s1:Shared}{H:Hp}{E:XK}{us:List Value}{vs:List V}
  (S:zaK N ps scope) (hd:A.handled=none) (e0:Env0 P w K mg base A outer s H) (hl:vs.length=ps.length) (r:Vals vs us)
  (x:InCallC s s.heap.objs.size (bindL (envOfC qual scope s.heap.objs.size f cd).kindOf (ps.zip us) fun _=>none) (cellsFrom (s.heap.objs.size+1) scope.names []) (bindC (envOfC qual scope s.heap.objs.size f cd).kindOf (ps.zip us) fun _=>none) s1) :
  Inv (cxOf CX P w K mg base N qual scope f cd A outer s H E) [] (start N vs) H s1:=by
 have hpl:ps.length<=N.length:=by have:=congrArg List.length S.pre;rw[ZA]at this;omega
 obtain⟨h1,tk,rfl,hk⟩:=x.done;have noA:∀ b:Addr,b∉(cxOf CX P w K mg base N qual scope f cd A outer s H E).ex:=fun b z=>absurd (show b∈([]:List Addr) from z) (by simp)
 refine⟨⟨e0.mod,S.kind,rfl,rfl,Zs _,fun y z c h1 h2=>?_,fun y hy=>?_,fun y c _ h=>?_,fun _=>hd,Around.frames_deeper e0.frames,.inr ⟨rfl,rfl⟩,fun b z=>absurd z (noA b),e0.bs,e0.bsz,fun b _ _=>noA b,fun b z=>absurd z (noA b),e0.funs,e0.frf⟩,
  rfl,e0.bare,Un.kept hk,⟨_,x.toInCall.ns,fun i y v h1 h2 h3=>?_⟩,fun y c h=>⟨_,x.cell y c h⟩,e0.hok.fresh (Zs _),fun y c h=>?_,fun p hp=>absurd (show p∈([]:List (Addr×Obj)) from hp) (by simp),e0.hok.kept hk,?_⟩
 ·exact name_of_addr x.apart (PySem.mem_of_lookup h1) (PySem.mem_of_lookup h2)
 ·have hy:scope.names.lookup y=some .cell\/scope.names.lookup y=some .free:=hy;rcases hy with hy | hy
  ·exact Q4f hy
  ·exact absurd rfl (S.nofree _ (PySem.mem_of_lookup hy))
 ·exact le_of_lt (x.above y c (PySem.mem_of_lookup h))
 ·have hi:i<vs.length:=by
   unfold start at h2;by_cases hi:i<vs.length
   ·exact hi
   ·rw[getElem?_append_right (by simpa using hi)]at h2
    rw[List.getElem?_replicate]at h2;split at h2 <;> cases h2
  have ha:vs[i]? = some v:=by
   unfold start at h2;rw[getElem?_append_left (by simpa using hi),Zq]at h2
   cases e:vs[i]? with
   | none=>rw[e]at h2;cases h2
   | some a=>rw[e]at h2;cases h2;rfl
  obtain⟨u,hu,rv⟩:=r.get ha;have hp:ps[i]? = some y:=by
   rw[<- S.pre,List.getElem?_take_of_lt (by omega)];exact h1
  have ndP:ps.Nodup:=by rw[<- S.pre];exact S.nd.sublist (List.take_sublist _ _)
  refine⟨u,rv,?_⟩;rcases S.par y (Zt hp) with k | k
  ·exact .inl ⟨k,Q3b ndP hp hu k⟩
  ·obtain⟨c,e⟩:=Q4f (n:=s.heap.objs.size+1) k;refine .inr ⟨.inl k,c,e,?_⟩;have q:=x.cell y c e;rw[Q3c ndP hp hu (by show scope.names.lookup y≠_;rw[k];decide)]at q
   exact q
 ·exact e0.hok.fresh (le_of_lt (x.above y c (PySem.mem_of_lookup h)))
 ·unfold start;show _=N.length;rw[Zl,Zb,length_replicate];omega
theorem fn_of{CX:CXT}{P:Program}{w:World}{K:Frag}{mg:Str->Option Value}{base:Heap}{k:Nat}{f:Addr}{name qual:Str}{params:Arguments}{body:List Stmt}{scope:Scope}{dV kV doc pm cdv ct oc:Value}{an od:Option Addr}
  {osl:Array (Option Value)} {N ps:List Str} {sp:Sp} (lk:K.lookup f=some ⟨oc,od,.func (fnOf name qual params body scope dV kV doc pm an cdv ct),osl⟩) (hcd:codeIn K cdv qual=true) (S:zaK N ps scope)
  (len:∀ vs H Q E,sp vs H Q E->vs.length=ps.length)
  (hbody:∀ (A:Around) (outer:List Env) (s:Shared) (H:Hp) (vs:List V) (Q:VK) (E:XK),Room k (A.deeper (envOfC qual scope s.heap.objs.size f cdv))->sp vs H Q E ->
   ∃ t,PSs (cxOf CX P w K mg base N qual scope f cdv A outer s H E) body t/\t { nx:=fun _ H'=>Q .non H',rt:=Q } (start N vs) H) :
  FnOk P w K mg base CX (k+1) f (fnOf name qual params body scope dV kV doc pm an cdv ct) ps sp:=by
 refine⟨len,fun A outer s H args us vs Q E hr e0 hb r hsp=>?_⟩;have hl:=len _ _ _ _ hsp;have KX:K.In s.heap:=e0.mod.kin.keeps fun b o e=>(e0.bs b o e).1;have lim:s.heap.NoLimit:=e0.mod.nolimit.keeps fun b o e=>(e0.bs b o e).1;have hkind:∀ y∈ps.zip us,scope.names.lookup y.1=some .local\/(scope.names.lookup y.1=some .cell/\((cellsFrom (s.heap.objs.size+1) scope.names []).lookup y.1).isSome=true):=fun⟨n,v⟩ hy=>by
  rcases S.par n (of_mem_zip hy).1 with q | q
  ·exact .inl q
  ·exact .inr ⟨q,PySem.W.cellsFrom_some _ _ _ (.inl q)⟩
 refine codeAny_call_function hr.depth (KX _ _ lk) rfl S.co S.gen rfl (PySem.W.codeRec_of KX hcd) (hb _ _ _ _ ?_);refine wpAny_newFunctionEnv_cells S.kind hkind fun env he s1 x=>?_;subst he;refine⟨lim.keeps x.toInCall.keep,codeAny_func ?_⟩;obtain⟨t,ht,hq⟩:=hbody A outer s H vs Q E (hr.deeper _) hsp;have I:Inv (cxOf CX P w K mg base N qual scope f cdv A outer s H E) [] (start N vs) H s1:=Q5m S hr.hd e0 hl r x;refine ZY (ht [] s1 (start N vs) H _ I hq) (fun fl s' hs=>?_) fun e s' hs=>hs;have fin:∀ {σ':St} {H':Hp} {v:V} {u:Value},Inv (cxOf CX P w K mg base N qual scope f cdv A outer s H E) [] σ' H' s'->RelV v u->Q v H'->CE outer P w H s Q u s' :=
  fun{σ' H' v u} J rv q=>⟨v,H',J.os,J.bare,J.base,J.hok,rv,q⟩
 cases fl with
 | ret u =>
  obtain⟨v,σ',H',J,rv,q⟩:=hs;exact fin J rv q
 | next =>
  obtain⟨σ',H',J,q⟩:=hs;exact fin (v:=V.non) (u:=Value.none) J rfl q
 | brk =>
  obtain⟨_,_,_,q⟩:=hs;exact False.elim q
 | cont =>
  obtain⟨_,_,_,q⟩:=hs;exact False.elim q
section
variable{X:Cx}{x:Str}{p pos:Pos}{e:Expr}{es:List Expr}{t:TA}{id T:String}{r:List V->Hp->VK->Prop}
noncomputable def tCB(r:List V->Hp->VK->Prop)(t:TA):TE:=fun σ H Q=>t σ H fun vs H1=>r vs H1 Q
theorem Q4g(hc:CallR X (.builtin id) r)(hg:Gl X x)(hm:X.mg x=none)(hv:bootBuiltins x=some (.builtin id))(ha:PA X (e::es) t)(hn:x ≠ "__name__":=by decide)(hdb:(x==("__debug__" : Str))=false:=by decide)
  (he:starEach (e::es) X.env=(false,eval e X.env)::starEach es X.env:=by rfl) (hpl:(backTo pos (starEach es X.env)).any (·.1)=false:=by rfl):PE X (.Call (.Name x p) (e::es) [] pos) (tCB r t):=by
 intro pins s σ H Q I h;refine wpAny_Call_Name_kw (Q2W I hg hm hv ?_ hn hdb);exact PyProof.Rows.callWith_builtin1 (thn (ha pos pins s σ H _ I h) fun us s1 ⟨vs,H1,I1,r1,q1⟩=>hc pins s1 σ H1 vs us Q I1 r1 q1) he hpl
theorem Q5n(hc:CallR X (.type T) r)(hg:Gl X x)(hm:X.mg x=none)(hv:bootBuiltins x=some (.type T))(ha:PA X (e::es) t)(hn:x ≠ "__name__":=by decide)(hdb:(x==("__debug__" : Str))=false:=by decide)
  (he:starEach (e::es) X.env=(false,eval e X.env)::starEach es X.env:=by rfl) (hpl:(backTo pos (starEach es X.env)).any (·.1)=false:=by rfl):PE X (.Call (.Name x p) (e::es) [] pos) (tCB r t):=by
 intro pins s σ H Q I h;refine wpAny_Call_Name_kw (Q2W I hg hm hv ?_ hn hdb);exact PyProof.Rows.callWith_type1 (thn (ha pos pins s σ H _ I h) fun us s1 ⟨vs,H1,I1,r1,q1⟩=>hc pins s1 σ H1 vs us Q I1 r1 q1) he hpl
end
end L2
namespace HT
open PySem PyProof.Rows
section
open PySem.SeqAt
open PySem.AutoSeq1 (wpAny_loadPart')
open PySem.MeetsSeq PySem.MeetsSeq2 PySem.MeetsSeq3
end
section
variable{prog:Program}{w:World}{A:Around}{E:Value->Shared->Prop}{s:Shared}
noncomputable def sIx(n d:Nat):Option Int->Nat
 | none=>d
 | some v=>if v<0 then (v+(n:Int)).toNat else min v.toNat n
theorem sIx_none(n d:Nat):sIx n d none=d:=rfl
theorem sIx_nat(n d k:Nat):sIx n d (some (k:Int))=min k n:=by
 show (if (k:Int)<0 then ((k:Int)+(n:Int)).toNat else min (k:Int).toNat n)=min k n
 rw[Zc (by omega),Z7]
theorem sIx_le(n d:Nat)(hd:d<=n)(o:Option Int):sIx n d o<=n:=by
 cases o with
 | none=>exact hd
 | some v =>
  show (if v<0 then (v+(n:Int)).toNat else min v.toNat n)<=n
  by_cases hv:v<0
  ·rw[Zg hv];omega
  ·rw[Zc hv];exact Nat.min_le_right _ _
theorem Q5o(v:Int)(n d:Nat):(if v<0 then max (v+(n:Int)) 0 else min v (n:Int))=((sIx n d (some v):Nat):Int):=by
 show (if v<0 then max (v+(n:Int)) 0 else min v (n:Int))=(((if v<0 then (v+(n:Int)).toNat else min v.toNat n):Nat):Int)
 by_cases hv:v<0
 ·simp only[Zg hv];omega
 ·simp only[Zc hv];omega
theorem Q4K(lo hi:Option Int)(n:Nat):Builtin.Slice.sliceAdjust lo hi 1 (n:Int)=(((sIx n 0 lo:Nat):Int),((sIx n n hi:Nat):Int)):=by
 have h1:¬ ((1:Int)<0):=by omega
 unfold Builtin.Slice.sliceAdjust;simp only[h1,ZQ];refine Prod.ext ?_ ?_
 ·cases lo with
  | none=>rfl
  | some v=>exact Q5o v n 0
 ·cases hi with
  | none=>rfl
  | some v=>exact Q5o v n n
theorem Q4L(i j:Nat):Builtin.Slice.slicePlaces (i:Int) (j:Int) 1=j-i:=by
 unfold Builtin.Slice.slicePlaces;have h1:(1:Int) > 0:=by omega
 simp only[h1,ZS,Int.ediv_one];split <;> omega
theorem Q2v{Q:Option Int->Shared->Prop}(p:IsPart v o)(h:Q o s):wpAny (model prog w) A (Builtin.Slice.slicePartIndex v) Q E s:=by
 cases p with
 | none=>exact slicePart_none h
 | int i t=>exact slicePart_int h
theorem sliceApplied_gen{sl:Addr}{vl vu:Value}{lo hi:Option Int}{n:Nat}{Q:Int×Int×Nat->Shared->Prop}(hs:s.heap.IsSliceOf sl vl vu .none)(pl:IsPart vl lo)(pu:IsPart vu hi)
  (h:Q (((sIx n 0 lo:Nat):Int),1,sIx n n hi-sIx n 0 lo) s):wpAny (model prog w) A (Builtin.Slice.sliceApplied (.ref sl) (pure (n:Int))) Q E s:=by
 obtain⟨os,hos,hcs,hds⟩:=id hs;unfold Builtin.Slice.sliceApplied Builtin.Slice.sliceFields;refine Za (Za (wpAny_field hos hds (x:=vl) rfl (Za (wpAny_field hos hds (x:=vu) rfl (Za (wpAny_field hos hds (x:=.none) rfl (Zd ?_)))))));refine Za (slicePart_none ?_);show wpAny _ _ (if ((1:Int)==0)=true then _ else _) _ _ s
 rw[Zc (by decide)]
 refine Za (Q2v pl (Za (Q2v pu (Za (Zd ?_)))));show wpAny _ _ (match Builtin.Slice.sliceAdjust lo hi 1 (n:Int) with | (lo,hi)=>pure (lo,(1:Int),Builtin.Slice.slicePlaces lo hi 1)) _ _ s
 rw[Q4K lo hi n];show wpAny _ _ (pure (((sIx n 0 lo:Nat):Int),(1:Int),Builtin.Slice.slicePlaces ((sIx n 0 lo:Nat):Int) ((sIx n n hi:Nat):Int) 1)) _ _ s;rw[Q4L];exact Zd h
theorem Q6V(xs:Array Value)(i k:Nat):((List.range k).filterMap fun(m:Nat)=>xs[((i:Int)+(m:Int) * 1).toNat]?).toArray=((xs.toList.drop i).take k).toArray:=by
 have e:(fun(m:Nat)=>xs[((i:Int)+(m:Int) * 1).toNat]?)=fun m=>xs[i+m]?:=by
  funext m
  have:((i:Int)+(m:Int) * 1).toNat=i+m:=by omega
  rw[this]
 rw[e];have:=pick_run xs i k;rw[List.filterMap_map]at this;have e2:((fun x=>xs[x]?) ∘ fun x=>i+x)=fun m=>xs[i+m]?:=rfl;rw[e2]at this;rw[this]
theorem getItem_tuple_cut{t sl:Addr}{items:Array Value}{vl vu:Value}{lo hi:Option Int}{Q:Value->Shared->Prop}(ht:IsTup s.heap t items)(hs:s.heap.IsSliceOf sl vl vu .none)(pl:IsPart vl lo)(pu:IsPart vu hi)
  (hw:¬ (sIx items.size 0 lo=0/\sIx items.size items.size hi=items.size))
  (h:Q (.ref s.heap.objs.size) { s with heap:=s.heap.push { cls:=.type "tuple",data:=.seq ((items.toList.drop (sIx items.size 0 lo)).take (sIx items.size items.size hi-sIx items.size 0 lo)).toArray } })
  (hsz:items.size<=sizeLine):wpAny (model prog w) A (getItem (.ref t) (.ref sl)) Q E s:=by
 have htake:sizeOk (.seq ((items.toList.drop (sIx items.size 0 lo)).take (sIx items.size items.size hi-sIx items.size 0 lo)).toArray):=by
  show ((items.toList.drop (sIx items.size 0 lo)).take (sIx items.size items.size hi-sIx items.size 0 lo)).toArray.size<=sizeLine;rw[Z9,ZA,length_drop,ZJ];omega
 have hj:sIx items.size items.size hi<=items.size:=sIx_le _ _ (Zs _) hi;obtain⟨os,hos,hcs,hds⟩:=id hs;have hTs:s.TypeIs (.ref sl) "slice":=⟨os,hos,hcs⟩;unfold getItem
 try with_reducible refine Yb ?_
 first | refine Za (Zd ?_) | skip
 refine Za (wpAny_sequenceKey ht.typeIs (by decide) ?_)
 refine Za (wpAny_callSpecial?_slot (name:=Str.ofString "__getitem__") ht.typeIs ZW
  (wpAny_call_entry ZW ht.typeIs entry_tuple_getitem ?_ (args_tuple_getitem _ _)))
 show wpAny _ _ (Builtin.Tuple.tupleItemsOf (.ref t) >>= _) _ _ s;refine Za (tupleItemsOf_ ht ?_);refine Za (wpAny_typeOf hTs ?_);rw[Zg (by decide)]
 refine Za (sliceApplied_gen hs pl pu ?_);have hno:¬ ((((sIx items.size 0 lo:Nat):Int)==0&&(1:Int)==1&&(sIx items.size items.size hi-sIx items.size 0 lo)==items.size)=true):=by
  intro q;rw[Zh,Zh]at q;have q1:((sIx items.size 0 lo:Nat):Int)=0:=eq_of_beq q.1.1;have q2:sIx items.size items.size hi-sIx items.size 0 lo=items.size:=eq_of_beq q.2;exact hw ⟨by omega,by omega⟩
 show wpAny _ _ (if (((sIx items.size 0 lo:Nat):Int)==0&&(1:Int)==1&&(sIx items.size items.size hi-sIx items.size 0 lo)==items.size)=true then _ else _) _ _ s
 rw[Zc hno,Q6V]
 first
  | exact Za (m:=Builtin.Tuple.tupleExact _) (Yl (Zd ⟨_,rfl,Zd h⟩) htake)
  | exact Za (m:=Builtin.Tuple.tupleExact _) (Yl (Za (Zd (Zd ⟨_,rfl,Zd h⟩))) htake)
  | exact Za (Za (m:=Builtin.Tuple.tupleExact _) (Yl (Zd (Zd ⟨_,rfl,Zd h⟩)) htake))
  | exact Za (Za (m:=Builtin.Tuple.tupleExact _) (Yl (Zd ⟨_,rfl,Zd h⟩) htake))
end
end HT
namespace L2
open PySem PySem.Spec PyProof.Rows
noncomputable abbrev TO:=St->Hp->(Option Int->Hp->Prop)->Prop
noncomputable def PO(X:Cx)(e:Option Expr)(t:TO):Prop :=
 ∀ (pins:List (Addr×Obj)) (s:Shared) (σ:St) (H:Hp) (Q:Option Int->Hp->Prop),Inv X pins σ H s->t σ H Q ->
  wpAny (model X.prog X.w) X.A (evalPart e X.env) (fun u s'=>∃ o H',Inv X pins σ H' s'/\IsPart u o/\Q o H') X.xe s
noncomputable def tNoPart:TO:=fun _ H Q=>Q none H
noncomputable def tPart(t:TE):TO:=fun σ H Q=>t σ H fun x H1=>∃ i,x=.int i/\Q (some i) H1
theorem Q4M:∀ {us:List Value},Vals (ns.map V.int) us->IntsAre us ns:=by
 induction ns with
 | nil=>intro us r;rw[map_nil]at r;cases r;exact .nil
 | cons n ns ih =>
  intro us r;rw[Z6]at r;cases r with
  | cons r1 r2 =>
   obtain⟨t,e⟩:=r1;subst e;exact .cons n t (ih r2)
section
variable{X:Cx}{e:Expr}{te:TE}{lo hi:Option Expr}{tl th:TO}{pos p2:Pos}
theorem Q9d:PO X none tNoPart:=by
 intro pins s σ H Q I h;rw[evalPart_none];exact Zd ⟨none,H,I,.none,h⟩
theorem Q9e(h:PE X e te):PO X (some e) (tPart te):=by
 intro pins s σ H Q I hw;rw[evalPart_some];refine thn (h pins s σ H _ I hw) fun u s1 ⟨x,H1,I1,r1,q1⟩=>?_;obtain⟨i,rfl,q⟩:=q1;obtain⟨t,rfl⟩:=r1;exact⟨some i,H1,I1,.int i t,q⟩
noncomputable def SlR(X:Cx)(r:V->Option Int->Option Int->Hp->VK->Prop):Prop :=
 ∀ (pins:List (Addr×Obj)) (s:Shared) (σ:St) (H:Hp) (x:V) (v vl vu:Value) (lo hi:Option Int) (sl:Addr) (Q:VK),Inv X pins σ H s->RelV x v->s.heap.IsSliceOf sl vl vu .none->IsPart vl lo->IsPart vu hi->r x lo hi H Q ->
  ∃ T id,typeLookup (.type T) "__getitem__" = pure (some (.builtin id))/\s.TypeIs v T/\wpAny (model X.prog X.w) X.A (getItem v (.ref sl)) (EP X pins σ Q) X.xe s
theorem SlR.or{r r':V->Option Int->Option Int->Hp->VK->Prop}(h:SlR X r)(h':SlR X r'):SlR X (fun x lo hi H Q=>r x lo hi H Q\/r' x lo hi H Q):=by
 intro pins s σ H x v vl vu lo hi sl Q I rx hs pl pu q;rcases q with q | q
 ·exact h pins s σ H x v vl vu lo hi sl Q I rx hs pl pu q
 ·exact h' pins s σ H x v vl vu lo hi sl Q I rx hs pl pu q
noncomputable def tSl(r:V->Option Int->Option Int->Hp->VK->Prop)(te:TE)(tl th:TO):TE:=fun σ H Q=>te σ H fun x H1=>tl σ H1 fun l H2=>th σ H2 fun u H3=>r x l u H3 Q
theorem Q6W{r:V->Option Int->Option Int->Hp->VK->Prop}(hr:SlR X r)(he:PE X e te)(hl:PO X lo tl)(hu:PO X hi th):PE X (.Subscript e (.Slice lo hi none p2) pos) (tSl r te tl th):=by
 intro pins s σ H Q I h;refine Subscript_ (thn (he pins s σ H _ I h) fun v s1 ⟨x,H1,I1,r1,q1⟩=>?_);refine wpAny_Slice (thn (hl pins s1 σ H1 _ I1 q1) fun vl s2 ⟨l,H2,I2,pl,q2⟩=>thn (hu pins s2 σ H2 _ I2 q2) fun vu s3 ⟨u,H3,I3,pu,q3⟩=>?_);rw[evalPart_none];refine Zd ?_;have I4:Inv X pins σ H3 { s3 with heap:=s3.heap.push { cls:=.type "slice",data:=.fields #[vl,vu,.none] } }:=I3.kept (t':=s3.toks) fun b ob q=>Zm _ q;obtain⟨T,id,hT,ht,hg⟩:=hr pins { s3 with heap:=s3.heap.push { cls:=.type "slice",data:=.fields #[vl,vu,.none] } } σ H3 x v vl vu l u s3.heap.objs.size Q I4 r1 (Heap.IsSliceOf.new ..) pl pu q3;show wpAny (model X.prog X.w) X.A (subscriptTail e (.Slice lo hi none p2) v (.ref s3.heap.objs.size)) (EP X pins σ Q) X.xe { s3 with heap:=s3.heap.push { cls:=.type "slice",data:=.fields #[vl,vu,.none] } };exact tail_any (ops:=[.ref s3.heap.objs.size,v]) ht hT hg (by with_unfolding_all rfl)
noncomputable def cutV(xs:List V)(lo hi:Option Int):List V:=(xs.drop (HT.sIx xs.length 0 lo)).take (HT.sIx xs.length xs.length hi-HT.sIx xs.length 0 lo)
theorem Q2c(xs:List V)(lo hi:Option Int):(cutV xs lo hi).length<=xs.length:=by
 unfold cutV;rw[ZA,length_drop];omega
noncomputable def rSlT(K:Frag):V->Option Int->Option Int->Hp->VK->Prop:=fun x lo hi H Q=>∃ a xs,x=.ref a/\SqT K H a xs /\
 ¬ (HT.sIx xs.length 0 lo=0/\HT.sIx xs.length xs.length hi=xs.length)/\∀ p,H p=none->Q (.ref p) (upd H p (.tup (cutV xs lo hi)))
theorem QaT:SlR X (rSlT X.K):=by
 intro pins s σ H x v vl vu lo hi sl Q I rx hs pl pu h;obtain⟨a,xs,rfl,hx,hw,q⟩:=h;cases rx;obtain⟨its,r,ht,hz⟩:=I.tuple hx;have hlen:its.toArray.size=xs.length:=by rw[Z9];exact r.length.symm
 refine⟨"tuple",_,ZW.lookup,ht.typeIs,?_⟩;refine HT.getItem_tuple_cut ht hs pl pu (by rw[hlen];exact hw) ?_ (by rw[hlen];exact hz)
 rw[hlen];refine⟨.ref s.heap.objs.size,_,I.laid (t':=s.toks) (o:=.tup (cutV xs lo hi)) (fun b ob q=>Zm _ q) (Zs _) ?_,rfl,q _ (I.hok.fresh (Zs _))⟩;exact⟨Z3 (Q2c xs lo hi) hz,_,(r.drop (HT.sIx xs.length 0 lo)).take (HT.sIx xs.length xs.length hi-HT.sIx xs.length 0 lo),IsTup.new _ _⟩
end
noncomputable def ixN(n:Nat)(i:Int):Option Nat:=if 0<=i then (if i<n then some i.toNat else none) else if -(n:Int)<=i then some (i+n).toNat else none
noncomputable def atI{α:Type}(xs:List α)(i:Int):Option α:=(ixN xs.length i).bind fun j=>xs[j]?
theorem Q5p(h:ixN n i=some j):seqIndex? i n=some j/\j<n /\ -(n:Int)<=i/\i<n:=by
 unfold ixN at h;by_cases h0:0<=i
 ·rw[Zg h0]at h;by_cases h1:i<n
  ·rw[Zg h1]at h;have e:i.toNat=j:=ZB h;exact⟨by rw[seqIndex_of h0 h1,e],by omega,by omega,h1⟩
  ·rw[Zc h1]at h;cases h
 ·rw[Zc h0]at h;by_cases h1:-(n:Int)<=i
  ·rw[Zg h1]at h;have e:(i+n).toNat=j:=ZB h;exact⟨by rw[seqIndex_neg (by omega) h1,e],by omega,h1,by omega⟩
  ·rw[Zc h1]at h;cases h
theorem Q2G{α:Type}{xs:List α}{i:Int}{v:α}(h:atI xs i=some v):∃ j,seqIndex? i xs.length=some j/\xs[j]? = some v/\j<xs.length /\ -(xs.length:Int)<=i/\i<xs.length:=by
 unfold atI at h;cases e:ixN xs.length i with
 | none=>rw[e]at h;cases h
 | some j =>
  rw[e]at h;obtain⟨h1,h2,h3,h4⟩:=Q5p e;exact⟨j,h1,h,h2,h3,h4⟩
theorem atI_last{α:Type}(xs:List α)(v:α):atI (xs++[v]) (-1)=some v:=by
 have hl:(xs++[v]).length=xs.length+1:=by simp
 have e:ixN (xs++[v]).length (-1)=some xs.length:=by
  unfold ixN;rw[hl,Zc (by decide),Zg (by omega)]
  congr 1;omega
 unfold atI;rw[e];show (xs++[v])[xs.length]? = some v;simp
noncomputable def zbs(b:Expr):Prop:=∀ o i,subscripted b false o i=operate [o,i] (getItem o i)
noncomputable def IxR(X:Cx)(r:R2):Prop :=
 ∀ (value slice:Expr) (pins:List (Addr×Obj)) (s:Shared) (σ:St) (H:Hp) (x y:V) (v u:Value) (Q:VK),Inv X pins σ H s->RelV x v->RelV y u->r x y H Q ->
  subscripted slice false v u=operate [v,u] (getItem v u)->wpAny (model X.prog X.w) X.A (subscriptTail value slice v u) (EP X pins σ Q) X.xe s
noncomputable def MtR(X:Cx)(id:String)(r:V->List V->Hp->VK->Prop):Prop :=
 ∀ (pins:List (Addr×Obj)) (s:Shared) (σ:St) (H:Hp) (x:V) (xs:List V) (v:Value) (us:List Value) (Q:VK),Inv X pins σ H s->RelV x v->Vals xs us->r x xs H Q ->
  wpAny (model X.prog X.w) X.A (call (.builtin id) (v::us)) (EP X pins σ Q) X.xe s
section
variable{X:Cx}{a b:Expr}{ta tb:TE}{pos:Pos}
theorem IxR.or(h:IxR X r)(h':IxR X r'):IxR X (fun x y H Q=>r x y H Q\/r' x y H Q):=by
 intro value slice pins s σ H x y v u Q I rx ry q hs;rcases q with q | q
 ·exact h value slice pins s σ H x y v u Q I rx ry q hs
 ·exact h' value slice pins s σ H x y v u Q I rx ry q hs
theorem MtR.or{id:String}{r r':V->List V->Hp->VK->Prop}(h:MtR X id r)(h':MtR X id r'):MtR X id (fun x xs H Q=>r x xs H Q\/r' x xs H Q):=by
 intro pins s σ H x xs v us Q I rx rs q;rcases q with q | q
 ·exact h pins s σ H x xs v us Q I rx rs q
 ·exact h' pins s σ H x xs v us Q I rx rs q
theorem pe_ix(hr:IxR X r)(ha:PE X a ta)(hb:PE X b tb)(hs:zbs b):PE X (.Subscript a b pos) (tOp r ta tb):=by
 intro pins s σ H Q I h;exact Subscript_ (binT ha hb I h fun v u s2 x y H2 I2 rx ry q=>hr a b pins s2 σ H2 x y v u Q I2 rx ry q (hs _ _))
noncomputable def rIxL(K:Frag):R2:=fun x y H Q=>∃ p xs i v,x=.ref p/\y=.int i/\SqL K H p xs/\atI xs i=some v/\Q v H
noncomputable def rIxT(K:Frag):R2:=fun x y H Q=>∃ p xs i v,x=.ref p/\y=.int i/\SqT K H p xs/\atI xs i=some v/\Q v H
noncomputable def rIxS:R2:=fun x y H Q=>∃ z i c,x=.str z/\y=.int i/\z.length<=sizeLine/\atI z.cps.toList i=some c/\Q (.str ⟨#[c]⟩) H
theorem Q9f:IxR X (rIxL X.K):=by
 intro value slice pins s σ H x y v u Q I rx ry h hs;obtain⟨p,xs,i,z,rfl,rfl,hq,he,q⟩:=h;cases rx;obtain⟨t,rfl⟩:=ry;obtain⟨its,r,pl,hz⟩:=I.list hq;obtain⟨j,h1,h2,h3,h4,h5⟩:=Q2G he;obtain⟨w,ew,rw'⟩:=r.get h2;have hl:=r.length;have hn:=line63;have fin:EP X pins σ Q w s:=⟨z,H,I,rw',q⟩;by_cases h0:0<=i
 ·have hj:i.toNat=j:=by
   rw[seqIndex_of h0 h5]at h1;exact ZB h1
  exact item_listR pl.isList h0 (by omega) (by rw[hj];simpa using ew) fin hs
 ·have hj:(i+(its.toArray.size:Int)).toNat=j:=by
   rw[seqIndex_neg (by omega) h4]at h1
   rw[Z9,<- hl];exact ZB h1
  exact subscriptTail_builtinR (x:=w) pl.isList.typeIs slot_list_getitem.lookup
   (wpAny_getItem_list_neg (Q:=fun r s'=>r=w/\EP X pins σ Q r s') pl.isList (by omega) (by rw[Z9] <;> omega) (by omega) (by rw[hj];simpa using ew) ⟨rfl,fin⟩) hs
theorem ix_tup:IxR X (rIxT X.K):=by
 intro value slice pins s σ H x y v u Q I rx ry h hs;obtain⟨p,xs,i,z,rfl,rfl,hq,he,q⟩:=h;cases rx;obtain⟨t,rfl⟩:=ry;obtain⟨its,r,pl,hz⟩:=I.tuple hq;obtain⟨j,h1,h2,h3,h4,h5⟩:=Q2G he;obtain⟨w,ew,rw'⟩:=r.get h2;have hl:=r.length;have hn:=line63;have fin:EP X pins σ Q w s:=⟨z,H,I,rw',q⟩;exact subscriptTail_builtinR (x:=w) pl.typeIs slot_tuple_getitem.lookup
  (getItem_tuple (j:=j) (Q:=fun r s'=>r=w/\EP X pins σ Q r s') pl (by omega) (by omega) (by rw[Z9,<- hl];exact h1) (by simpa using ew) ⟨rfl,fin⟩) hs
theorem ix_str:IxR X rIxS:=by
 intro value slice pins s σ H x y v u Q I rx ry h hs;obtain⟨z,i,c,rfl,rfl,hz,he,q⟩:=h;obtain⟨t,rfl⟩:=rx;obtain⟨t',rfl⟩:=ry;obtain⟨j,h1,h2,h3,h4,h5⟩:=Q2G he;have hl:z.cps.toList.length=z.length:=by simp[Str.length]
 rw[hl]at h1 h4 h5;have hn:=line63;exact tail_any (typeIs_str s z t) slot_str_getitem.lookup (getItem_str (c:=c) (by
  have e1:decide (i < -(2 ^ 63:Int))=false:=Z5 (by omega)
  have e2:decide (i >= 2 ^ 63)=false:=Z5 (by omega)
  rw[e1,e2,Bool.or_false]) (by rw[h1];simpa using h2) ⟨.str ⟨#[c]⟩,H,I.tok _,⟨_,rfl⟩,q⟩) hs
theorem Q4N(its:List Value)(n j:Nat)(u:Value):Obj.mapSeq (·.setIfInBounds j u) { cls:=.type "list",data:=.seq its.toArray n }={ cls:=.type "list",data:=.seq (its.set j u).toArray n }:=by
 simp[Obj.mapSeq]
theorem Inv.lst(I:Inv X pins σ H s)(h:H p=some (.lst xs)) :
  ∃ (its:List Value) (n:Nat),Vals xs its/\s.heap.get? p=some { cls:=.type "list",data:=.seq its.toArray n }/\xs.length<=sizeLine:=by
 obtain⟨z,its,n,r,e⟩:=I.hok p _ h;exact⟨its,n,r,e,z⟩
theorem Inv.lstUpd{pins:List (Addr×Obj)}{σ:St}{H:Hp}{s:Shared}{p:Addr}{xs ys:List V}{its its':List Value}{n n':Nat}{f:Obj->Obj}(I:Inv X pins σ H s)(h:H p=some (.lst xs))
  (ho:s.heap.get? p=some { cls:=.type "list",data:=.seq its.toArray n }) (hf:f { cls:=.type "list",data:=.seq its.toArray n }={ cls:=.type "list",data:=.seq its'.toArray n' }) (r:Vals ys its') (hz:ys.length<=sizeLine) (t:Nat) :
  Inv X pins σ (upd H p (.lst ys)) { s with heap:=s.heap.update p f,toks:=t }:=by
 have e:(s.heap.update p f).get? p=some { cls:=.type "list",data:=.seq its'.toArray n' }:=by
  rw[Heap.get?_update_self f ho (by rw[hf] <;> rfl),hf]
 refine I.write (x:=p) (e:=p) (by rw[h];trivial) (.inl rfl) (fun b u hb q=>(Heap.get?_update_other _ _ (Ne.symm hb)).trans q) ⟨_,e⟩ ?_
 exact⟨hz,its',n',r,e⟩
noncomputable def rSetL:V->V->V->Hp->(Hp->Prop)->Prop:=fun o i v H Q=>∃ p xs k j,o=.ref p/\i=.int k/\H p=some (.lst xs)/\ixN xs.length k=some j/\Q (upd H p (.lst (xs.set j v)))
theorem Q6X:PSet X rSetL:=by
 intro pins s σ H o i v ov iv u Q I ro ri rv h;obtain⟨p,xs,k,j,rfl,rfl,hp,hj,q⟩:=h;cases ro;obtain⟨t,rfl⟩:=ri;obtain⟨its,n,r,ho,hz⟩:=I.lst hp;obtain⟨h1,h2,h3,h4⟩:=Q5p hj;have hl:=r.length;have hn:=line63;have I':Inv X pins σ (upd H p (.lst (xs.set j v))) { s with heap:=s.heap.update p (Obj.mapSeq (·.setIfInBounds j u)) } :=
  I.lstUpd hp ho (Q4N its n j u) (r.set rv j) (by rw[List.length_set];exact hz) s.toks
 by_cases h0:0<=k
 ·have hk:k.toNat=j:=by
   rw[seqIndex_of h0 h4]at h1;exact ZB h1
  exact PySem.W.ki_setAt ho h0 (by omega) (by rw[Z9,<- hl];exact h4) (by rw[hk];exact⟨_,I',q⟩)
 ·have hk:(k+(its.toArray.size:Int)).toNat=j:=by
   rw[seqIndex_neg (by omega) h3]at h1
   rw[Z9,<- hl];exact ZB h1
  exact PySem.W.ki_setBack ho (by omega) (by rw[Z9,<- hl];exact h3) (by omega) (by rw[hk];exact⟨_,I',q⟩)
theorem Q3d(lo hi:Option Int)(n:Nat):(sliceBounds lo hi none n).1=((HT.sIx n 0 lo:Nat):Int)/\(sliceBounds lo hi none n).2.1=((HT.sIx n n hi:Nat):Int)/\(sliceBounds lo hi none n).2.2=1:=by
 refine⟨?_,?_,rfl⟩
 ·cases lo with
  | none=>simp[sliceBounds,HT.sIx]
  | some i =>
   simp only[sliceBounds,HT.sIx,Option.getD_none,show (1:Int) > 0 by decide,ZS]
   by_cases h:i<0
   ·simp only[h,ZS] <;> omega
   ·simp only[h,ZQ] <;> omega
 ·cases hi with
  | none=>simp[sliceBounds,HT.sIx]
  | some i =>
   simp only[sliceBounds,HT.sIx,Option.getD_none,show (1:Int) > 0 by decide,ZS]
   by_cases h:i<0
   ·simp only[h,ZS] <;> omega
   ·simp only[h,ZQ] <;> omega
theorem Q2H(its:List Value)(lo hi:Option Int):slicePick its.toArray lo hi none=((its.drop (HT.sIx its.length 0 lo)).take (HT.sIx its.length its.length hi-HT.sIx its.length 0 lo)).toArray:=by
 obtain⟨h1,h2,h3⟩:=Q3d lo hi its.toArray.size;unfold slicePick;rw[h1,h2,h3];simp only[sliceRange_one,pick_run,Z9] <;> rfl
noncomputable def rSlL(K:Frag):V->Option Int->Option Int->Hp->VK->Prop:=fun x lo hi H Q=>∃ a xs,x=.ref a/\SqL K H a xs/\∀ p,H p=none->Q (.ref p) (upd H p (.lst (cutV xs lo hi)))
theorem Q9g:SlR X (rSlL X.K):=by
 intro pins s σ H x v vl vu lo hi sl Q I rx hs pl pu h;obtain⟨a,xs,rfl,hx,q⟩:=h;cases rx;obtain⟨its,r,ht,hz⟩:=I.list hx;have hlen:=r.length;refine⟨"list",_,slot_list_getitem.lookup,ht.isList.typeIs,?_⟩;refine wpAny_getItem_list_slice ht.isList hs pl pu .none (by simp) ?_ (by rw[Z9] <;> omega)
 rw[Q2H,<- hlen];refine⟨.ref s.heap.objs.size,_,I.laid (t':=s.toks) (o:=.lst (cutV xs lo hi)) (fun b ob q=>Zm _ q) (Zs _) ?_,rfl,q _ (I.hok.fresh (Zs _))⟩;exact⟨Z3 (Q2c xs lo hi) hz,_,0,(r.drop (HT.sIx xs.length 0 lo)).take (HT.sIx xs.length xs.length hi-HT.sIx xs.length 0 lo),Z1 _ rfl⟩
theorem Q1g:CallR X (.builtin "len") (fun xs H Q=>∃ p ys,xs=[.ref p]/\(SqL X.K H p ys\/SqT X.K H p ys)/\Q (.int ys.length) H):=by
 intro pins s σ H xs us Q I r h;obtain⟨p,ys,rfl,hq,q⟩:=h;obtain⟨u,rfl,rx⟩:=vals1 r;cases rx;have hn:=line63;rcases hq with hq | hq
 ·obtain⟨its,r',pl,hz⟩:=I.list hq;have hlen:=r'.length;exact Calls.call_len_list pl.isList (by simp only[Z9] <;> omega) ⟨.int ys.length,H,I.tok _,⟨s.toks+1,by rw[Z9,hlen]⟩,q⟩
 ·obtain⟨its,r',pl,hz⟩:=I.tuple hq;have hlen:=r'.length;exact len_tuple pl (by simp only[Z9] <;> omega) ⟨.int ys.length,H,I.tok _,⟨s.toks+1,by rw[Z9,hlen]⟩,q⟩
theorem Q3e:CallR X (.builtin "len") (fun xs H Q=>∃ z,xs=[.str z]/\z.length<=sizeLine/\Q (.int z.length) H):=by
 intro pins s σ H xs us Q I r h;obtain⟨z,rfl,hz,q⟩:=h;obtain⟨u,rfl,t,rfl⟩:=vals1 r;have hn:=line63;exact len_str (by omega) ⟨.int z.length,H,I.tok _,⟨_,rfl⟩,q⟩
theorem CallR.or{r r':List V->Hp->VK->Prop}(h:CallR X f r)(h':CallR X f r'):CallR X f (fun xs H Q=>r xs H Q\/r' xs H Q):=by
 intro pins s σ H xs us Q I rs q;rcases q with q | q
 ·exact h pins s σ H xs us Q I rs q
 ·exact h' pins s σ H xs us Q I rs q
theorem Q3f:CallR X (.type "list") (fun xs H Q=>∃ p ys,xs=[.ref p]/\(SqL X.K H p ys\/SqT X.K H p ys)/\∀ l,H l=none->Q (.ref l) (upd H l (.lst ys))):=by
 intro pins s σ H xs us Q I r h;obtain⟨p,ys,rfl,hq,q⟩:=h;obtain⟨u,rfl,rx⟩:=vals1 r;cases rx;have fin:∀ (its:List Value),Vals ys its->ys.length<=sizeLine->∀ (h':Heap) (c':Nat),(∀ b o',s.heap.get? b=some o'->h'.get? b=some o') ->
   h'.get? s.heap.objs.size=some { cls:=.type "list",dict:=none,data:=.seq its.toArray c',slots:=#[] }->EP X pins σ Q (.ref s.heap.objs.size) { s with heap:=h' }:=fun its r' hz h' c' kp e =>
  ⟨.ref s.heap.objs.size,_,I.laid (t':=s.toks) kp (Zs _) (show ObjOk X.prog X.w _ h' _ (.lst ys) from⟨hz,its,c',r',e⟩),rfl,q _ (I.hok.fresh (Zs _))⟩
 rcases hq with hq | hq
 ·obtain⟨its,r',pl,hz⟩:=I.list hq;have hlen:=r'.length;obtain⟨o,ho,hc,n,hd⟩:=pl.isList;exact call_list_seq p (.inl rfl) ho hc hd (fun h' c' kp e=>fin its r' hz h' c' kp e) (by simp only[Z9] <;> omega)
 ·obtain⟨its,r',pl,hz⟩:=I.tuple hq;have hlen:=r'.length;obtain⟨o,ho,hc,n,hd⟩:=pl;exact call_list_seq p (.inr rfl) ho hc hd (fun h' c' kp e=>fin its r' hz h' c' kp e) (by simp only[Z9] <;> omega)
noncomputable def tyV(K:Frag)(T:String)(x:V)(H:Hp):Prop:=match x with
 | .str _=>T = "str"
 | .int _=>T = "int"
 | .ref p=>(T = "list" /\ ∃ xs,SqL K H p xs)\/(T = "tuple" /\ ∃ o,K.lookup p=some o/\o.cls=.type "tuple" /\ o.dict=none) \/
   (T = "dict" /\ ((∃ kvs,H p=some (.dK kvs))\/∃ kvs,H p=some (.dT kvs)))\/(T = "set" /\ ∃ S n,H p=some (.set S n))
 | _=>False
theorem Q8y(I:Inv X pins σ H s)(r:RelV x v)(ty:tyV X.K T x H) :
  s.TypeIs v T/\∀ a,v=.ref a->∃ ob,s.heap.get? a=some ob/\ob.dict=none:=by
 cases x with
 | str z =>
  obtain⟨t,rfl⟩:=r;cases (show T = "str" from ty);exact⟨typeIs_str s z t,fun _ e=>nomatch e⟩
 | int i =>
  obtain⟨t,rfl⟩:=r;cases (show T = "int" from ty);exact⟨typeIs_int s i t,fun _ e=>nomatch e⟩
 | ref p =>
  cases r;rcases ty with ⟨rfl,xs,hq⟩ | ⟨rfl,o,hk,hc,hd⟩ | ⟨rfl,hk⟩ | ⟨rfl,S,n,hk⟩
  ·obtain⟨its,_,pl,_⟩:=I.list hq;refine⟨pl.isList.typeIs,fun a e=>?_⟩;cases e;obtain⟨o,n,e,c,hd,_⟩:=pl;exact⟨o,e,hd⟩
  ·refine⟨⟨o,I.kIn p o hk,hc⟩,fun a e=>?_⟩;cases e;exact⟨o,I.kIn _ o hk,hd⟩
  ·have z:∃ o,s.heap.get? p=some o/\o.ExactDict:=by
    rcases hk with ⟨kvs,hk⟩ | ⟨kvs,hk⟩
    ·obtain⟨_,_,_,_,o,_,_,e,ex,_⟩:=I.hok p _ hk;exact⟨o,e,ex⟩
    ·obtain⟨_,_,_,_,o,_,_,e,ex,_⟩:=I.hok p _ hk;exact⟨o,e,ex⟩
   obtain⟨o,e,ex⟩:=z;refine⟨⟨o,e,ex.1⟩,fun a e2=>?_⟩;cases e2;exact⟨o,e,ex.2.1⟩
  ·obtain⟨o,_,_,_,e,ex,_⟩:=I.hok p _ hk;refine⟨⟨o,e,ex.1⟩,fun a e2=>?_⟩;cases e2;exact⟨o,e,ex.2.1⟩
 | _=>exact False.elim ty
noncomputable def tBM0(K:Frag)(T:String)(r:V->List V->Hp->VK->Prop)(to:TE):TE:=fun σ H Q=>to σ H fun x H1=>tyV K T x H1/\r x [] H1 Q
noncomputable def tBM(K:Frag)(T:String)(r:V->List V->Hp->VK->Prop)(to:TE)(t:TA):TE:=fun σ H Q=>to σ H fun x H1=>tyV K T x H1/\t σ H1 fun xs H2=>r x xs H2 Q
variable{o e:Expr}{es:List Expr}{to:TE}{t:TA}{name:Str}{apos cpos:Pos}{T id:String}{r:V->List V->Hp->VK->Prop}
theorem QaU(pa:PlainAttrs T)(slot:Slot T name id)(hty:typeOf (.builtin id)=pure (.type "method_descriptor"))(hm:MtR X id r)(ho:PE X o to)
  (hbase:attributeBase o name X.env (eval o X.env)=eval o X.env:=by rfl) (hline:(apos.endLine==cpos.line)=true:=by rfl):PE X (.Call (.Attribute o name apos) [] [] cpos) (tBM0 X.K T r to):=by
 intro pins s σ H Q I h;refine wpAny_Call_method0_late hbase hline (thn (ho pins s σ H _ I h) fun v s1 ⟨x,H1,I1,r1,ty,q1⟩=>?_);obtain⟨h1,h2⟩:=Q8y I1 r1 ty;exact⟨T,id,pa,slot,hty,h1,h2,Yg rfl (PySem.evalArgs_none (hm pins s1 σ H1 x [] v [] Q I1 r1 .nil q1))⟩
theorem pe_bm(pa:PlainAttrs T)(slot:Slot T name id)(hty:typeOf (.builtin id)=pure (.type "method_descriptor"))(hm:MtR X id r)(ho:PE X o to)(ha:PA X (e::es) t)
  (hbase:attributeBase o name X.env (eval o X.env)=eval o X.env:=by rfl)
  (hfew:((backTo cpos (starEach (e::es) X.env)).all (fun x=>!x.1)&&(backToKw cpos (keywordEach [] X.env)).all (fun x=>x.1.isSome)
   && decide ((e::es).length+([]:List Keyword).length+(if ([]:List Keyword).isEmpty then 0 else 1)<30))=true:=by rfl)
  (hline:(apos.endLine==cpos.line)=true:=by rfl) (hs:starEach (e::es) X.env=(false,eval e X.env)::starEach es X.env:=by rfl) (hplain:(backTo cpos (starEach es X.env)).any (·.1)=false:=by rfl) :
  PE X (.Call (.Attribute o name apos) (e::es) [] cpos) (tBM X.K T r to t):=by
 intro pins s σ H Q I h;refine wpAny_Call_method_late hbase hfew hline rfl (thn (ho pins s σ H _ I h) fun v s1 ⟨x,H1,I1,r1,ty,q1⟩=>?_);obtain⟨h1,h2⟩:=Q8y I1 r1 ty;refine⟨T,id,pa,slot,hty,h1,h2,?_⟩;have hA:=ha cpos pins s1 σ H1 _ I1 q1;rw[hs]at hA ⊢;refine Yg (by show (false||(backTo cpos (starEach es X.env)).any (·.1))=false;rw[hplain] <;> rfl) (Calls.evalArgs_plain ?_)
 exact thn hA fun us s2 ⟨vs,H2,I2,r2,q2⟩=>hm pins s2 σ H2 x vs v us Q I2 r1 r2 q2
end
noncomputable def MtM(X:Cx)(id:String)(r:V->List V->Hp->VK->Prop):Prop :=
 ∀ (pins:List (Addr×Obj)) (s:Shared) (σ:St) (H:Hp) (x:V) (xs:List V) (v:Value) (us:List Value) (Q:VK),Inv X pins σ H s->RelV x v->Vals xs us->r x xs H Q ->
  wpAny (model X.prog X.w) X.A (call (.builtin id) (v::us)) (EP X pins σ Q) X.xe s
theorem Vals.one(h:Vals [x] us):∃ u,us=[u]/\RelV x u:=by
 cases h with | cons r t=>cases t;exact⟨_,rfl,r⟩
theorem Vals.two(h:Vals [x,y] us):∃ u v,us=[u,v]/\RelV x u/\RelV y v:=by
 cases h with | cons r t=>cases t with | cons q t=>cases t;exact⟨_,_,rfl,r,q⟩
theorem Vals.zero:∀ {us:List Value},Vals [] us->us=[]
 | _,.nil=>rfl
theorem Vals.dropLast(h:Vals xs us):Vals xs.dropLast us.dropLast:=by
 induction h with
 | nil=>exact .nil
 | cons r t ih =>
  cases t with
  | nil=>exact .nil
  | cons q t'=>exact .cons r ih
theorem Vals.reverse(h:Vals xs us):Vals xs.reverse us.reverse:=by
 induction h with
 | nil=>exact .nil
 | cons r t ih=>rw[reverse_cons,reverse_cons];exact Vals.append ih (.cons r .nil)
theorem Vals.rep(h:Vals xs us):∀ k:Nat,Vals (List.replicate k xs).flatten (List.replicate k us).flatten
 | 0=>.nil
 | k+1=>by
  rw[replicate_succ,replicate_succ,flatten_cons,flatten_cons];exact Vals.append h (Vals.rep h k)
section
variable{X:Cx}{pins:List (Addr×Obj)}{σ:St}{H:Hp}{s:Shared}{l b:Addr}{xs ys zs:List V}
theorem Inv.lset{its its':List Value}{n:Nat}{f:Array Value->Array Value}{t':Nat}(I:Inv X pins σ H s)(hH:H l=some (.lst xs))
  (e:s.heap.get? l=some { cls:=.type "list",data:=.seq its.toArray n }) (hf:f its.toArray=its'.toArray) (hv:Vals ys its') (hz:ys.length<=sizeLine) :
  Inv X pins σ (upd H l (.lst ys)) { s with heap:=s.heap.update l (Obj.mapSeq f),toks:=t' }:=by
 have q:=PySem.IsL.update e f;rw[hf]at q;refine I.write (x:=l) (e:=l) (by rw[hH];exact trivial) (.inl rfl) (fun b' u hb hu=>(Heap.get?_update_other s.heap (Obj.mapSeq f) (Ne.symm hb)).trans hu) ⟨_,q⟩ ?_
 exact⟨hz,its',_,hv,q⟩
theorem Inv.lnew(I:Inv X pins σ H s)(hv:Vals ys its)(hz:ys.length<=sizeLine) :
  Inv X pins σ (upd H s.heap.objs.size (.lst ys)) { s with heap:=s.heap.push { cls:=.type "list",data:=.seq its.toArray },toks:=t' } :=
 I.laid (fun _ _ q=>Zm _ q) (Zs _) ⟨hz,its,0,hv,Z1 _ rfl⟩
theorem Inv.fresh(I:Inv X pins σ H s):H s.heap.objs.size=none:=I.hok.fresh (Zs _)
theorem Inv.lstM(I:Inv X pins σ H s)(hH:H l=some (.lst xs)):xs.length<=sizeLine/\∃ (its:List Value) (n:Nat),Vals xs its/\xs.length=its.length/\s.heap.get? l=some { cls:=.type "list",data:=.seq its.toArray n }:=by
 obtain⟨z,its,n,r,e⟩:=I.hok l _ hH;exact⟨z,its,n,r,r.length,e⟩
end
section
variable{X:Cx}
noncomputable def rAppend:V->List V->Hp->VK->Prop:=fun x vs H Q=>∃ l xs y,x=.ref l/\vs=[y]/\H l=some (.lst xs)/\xs.length<sizeLine/\Q .non (upd H l (.lst (xs++[y])))
theorem Q5q:MtM X "list.append" rAppend:=by
 intro pins s σ H x vs v us Q I rx rv h;obtain⟨l,xs,y,rfl,rfl,hH,hz,q⟩:=h;cases rx;obtain⟨u,rfl,ru⟩:=rv.one;obtain⟨z,its,n,r,hl,e⟩:=I.lstM hH;refine call_meets F.slot_list_append ⟨_,e,rfl⟩ F.entry_list_append (F.args_list_append_2 _ _) (PySem.list_append l its.toArray n u (by rw[Z9];omega)) ⟨e,?_⟩
 refine⟨.non,_,I.lset (its':=its++[u]) hH e (by simp) (r.append (.cons ru .nil)) ?_,rfl,q⟩
 rw[Zl,Yh];omega
noncomputable def rPop:V->List V->Hp->VK->Prop:=fun x vs H Q=>∃ l xs y,x=.ref l/\vs=[]/\H l=some (.lst xs)/\xs[xs.length-1]? = some y/\Q y (upd H l (.lst xs.dropLast))
noncomputable def rReverse:V->List V->Hp->VK->Prop:=fun x vs H Q=>∃ l xs,x=.ref l/\vs=[]/\H l=some (.lst xs)/\Q .non (upd H l (.lst xs.reverse))
noncomputable def rClear:V->List V->Hp->VK->Prop:=fun x vs H Q=>∃ l xs,x=.ref l/\vs=[]/\H l=some (.lst xs)/\Q .non (upd H l (.lst []))
theorem Q6Y:MtM X "list.clear" rClear:=by
 intro pins s σ H x vs v us Q I rx rv h;obtain⟨l,xs,rfl,rfl,hH,q⟩:=h;cases rx;have hus:=rv.zero;subst hus;obtain⟨z,its,n,r,hl,e⟩:=I.lstM hH;refine call_meets F.slot_list_clear ⟨_,e,rfl⟩ F.entry_list_clear (F.args_list_clear_1 _) (AutoSeq1.list_clear_list_0 l its.toArray n (by rw[Z9];omega)) ⟨e,?_⟩
 exact⟨.non,_,I.lset (its':=[]) (ys:=[]) hH e rfl .nil (ZX _),rfl,q⟩
end
section
variable{prog:Program}{w:World}{A:Around}{E:Value->Shared->Prop}{s:Shared}
end
section
variable{X:Cx}
end
end L2
namespace Att
open PySem PySem.W PySem.Calls PyProof.Rows
theorem Q2d:∀ (ns:List Int) (vs:List Value),WellAll P h vs (ns.map WData.int)->IntsAre vs ns:=by
 intro ns
 induction ns with
 | nil =>
  intro vs w;rw[map_nil]at w;cases w;exact .nil
 | cons n ns ih =>
  intro vs w;rw[Z6]at w;cases w with
  | cons a b =>
   cases a;exact .cons _ _ (ih _ b)
theorem Q5r{l:OpenLaw}{n:Nat}(hn:l.most=some n){P:Params}{h:Heap}{args:List WData}{vals:List Value}
  (hpre:l.row.toRowW.claim.pre args=true) (hwl:WellAll P h vals args) :
  ∃ a vs ns,vals=[Value.ref a]/\args=[WData.list (ns.map WData.int)]/\h.get? a=some { cls:=.type "list",data:=.seq vs.toArray }/\IntsAre vs ns/\ns.length<=n:=by
 have hsh:WShape.hasAll [] args [.list .int]=true:=(pre_splitW hpre).1;have hc:l.pre.holds [] { args:=args }=true:=(pre_splitW hpre).2;obtain⟨d,r,rfl,h1,h2⟩:=hasAllW_cons hsh;obtain rfl:=hasAllW_nil h2;obtain⟨xs,rfl,h3⟩:=hasW_list h1;obtain⟨ns,rfl⟩:=items_int h3;have hlen:ns.length<=n:=by
  unfold OpenLaw.pre at hc;have h4:(WTm.not (.lt (.lit (.int (n:Int))) (.len (.arg 0)))).holds [] { args:=[.list (ns.map .int)] }=true:=by
   have h4:=(holds_andW hc).1;rw[hn]at h4;exact h4
  have h5:=condW_of h4 (w_not (w_lt w_lit (w_len_list (w_arg rfl))));rw[Zb]at h5;refine le_of_not_lt fun q=>?_;have q':(n:Int)<((ns.length:Nat):Int):=by omega
  first
   | (rw[Zo q']at h5;exact absurd h5 (by decide))
   | (simp at h5;omega)
 cases hwl with
 | cons w1 w2 =>
  cases w2;cases w1 with
  | list ho hall=>exact⟨_,_,ns,rfl,rfl,ho,Q2d ns _ hall,hlen⟩
theorem Q5s(l:OpenLaw)(args:List WData):l.row.toRowW.claim.post args (.bool true) args=true :=
 postW_of (r:=l.row.toRowW) (X:=(true==true))
  (show WShape.has [] (.bool true) .bool=true by first | rfl | decide | simp[WShape.has,WShape.arms,WShape.armsAll])
  (show (WTm.eq .res (.lit (.bool true))).value [] { args:=args,res:=some (.bool true),after:=args }=some (.bool (true==true)) from w_eq_bool (w_res rfl) w_lit) rfl
theorem attach_call{l:OpenLaw}{n:Nat}{q:Program}{loose:List Str}{XP:(Str->Option Value)->Heap->Prop}{YP:World->Heap->Prop}{d:DefRec}
  (hn:l.most=some n) (hdf:d.params.defaults=[])
  (call:∀ (w:World) (s₀ s₁:Shared) (mg mb:Str->Option Value) (fa:Addr) (o:Obj) (pm cd doc:Value) (a:Addr) (vs:List Value) (ns:List Int),
   Ground q loose [] XP w s₀ mg mb s₁.heap->YP w s₁.heap ->
   s₁.heap.get? fa=some o->o.data=.func (docDef d.name d.params d.body d.scope pm cd doc)->s₁.heap.CodeRec cd d.name->mg d.name=some (.ref fa) ->
   s₁.heap.get? a=some { cls:=.type "list",data:=.seq vs.toArray }->IntsAre vs ns->ns.length<=n->s₁.gens = #[] ->
   codeAny (model l.prog w) callerA (.call (.ref fa) ⟨[.ref a],[]⟩) (fun r s'=>r=.ok (.ret (.bool true))/\OldK s₁.heap s'.heap/\s'.os=s₁.os/\AllBare s'.gens) s₁) :
  WalkO q loose XP YP l.row.toRowW d [] (fun f vs=>PySem.call f vs):=by
 intro w s₀ s₁ mg mb G Y fa o pm cd doc dV kV ho hd hcd hD hmg hg args vals as hpre hlay hrd hwl hlo;obtain rfl:dV=.none:=Dflts.none hD hdf;obtain rfl:kV=.none:=Dflts.noKw hD;obtain⟨a,vs,ns,rfl,rfl,hobj,hints,hlen⟩:=Q5r hn hpre hwl;refine enter_call (codeAny_mono (call w s₀ s₁ mg mb fa o pm cd doc a vs ns G Y ho (fd_plain hd) hcd hmg hobj hints hlen hg) fun r s' hq=>?_);obtain⟨rfl,h2,h3,h4⟩:=hq;exact⟨.inl ⟨.bool true,.bool true,[],rfl,fun _=>rfl,.bool true,Q5s l _,fun _=>⟨List.Pairwise.nil,fun _ hm=>(nomatch hm)⟩⟩,h2,h3,h4⟩
section
variable{prog:Program}{w:World}{A:Around}{E:Value->Shared->Prop}{s:Shared}{K:Frag}
end
end Att
namespace L2
open PySem PySem.Spec PyProof.Rows
theorem Q3g:∀ {vs:List Value} {ns:List Int},IntsAre vs ns->Vals (ns.map V.int) vs
 | _,_,.nil=>.nil
 | _,_,.cons n t h=>.cons ⟨t,rfl⟩ (Q3g h)
noncomputable def Only(H:Hp):Prop:=∀ b,H b=none\/∃ o xs,H b=some (.frz o (.lst xs))
theorem Q6Z{P:Program}{w:World}{K:Frag}{mg mb:Str->Option Value}{CX:CXT}{k:Nat}{fa a:Addr}{fd:FuncData}{x:Str}{sp:Sp}{s₁:Shared}{vs:List Value}{ns:List Int}
  (KX:K.In s₁.heap) (hns:s₁.heap.Ns mainGlobals mg) (hb:s₁.heap.Ns builtinsNs mb) (hbb:∀ x:Str,x ≠ "__name__" -> mb x=bootBuiltins x) (hlim:s₁.heap.NoLimit) (hg:s₁.gens = #[])
  (ha:s₁.heap.get? a=some { cls:=.type "list",data:=.seq vs.toArray }) (hi:IntsAre vs ns) (hl:ns.length<=sizeLine) (hr:Room k callerA)
  (F:∀ base:Heap,K.In base->base.Ns mainGlobals mg->FnOk P w K mg base CX k fa fd [x] sp) (hbind:∀ (s:Shared) (u:Value),BindsTo s fd ⟨[u],[]⟩ [(x,u)])
  (hsp:∀ H:Hp,Only H->SqL K H a (ns.map V.int)->sp [.ref a] H (fun v _=>v=.bl true) fun _ _ _=>False)
  (hCX:∀ H e s',CX [] H s₁ (fun _ _ _=>False) e s'->False) :
  codeAny (model P w) callerA (.call (.ref fa) ⟨[.ref a],[]⟩) (fun r s'=>r=.ok (.ret (.bool true))/\OldK s₁.heap s'.heap/\s'.os=s₁.os/\AllBare s'.gens) s₁:=by
 have rv:=Q3g hi;have lenV:=hi.length
 -- from an abstract heap in which nothing but the script may be tracked
 have core:∀ H:Hp,Only H->SqL K H a (ns.map V.int)->HOk P w H s₁.heap->(∀ b,H b≠none->b=a)->(H a≠none->K.lookup a=none) ->
   codeAny (model P w) callerA (.call (.ref fa) ⟨[.ref a],[]⟩) (fun r s'=>r=.ok (.ret (.bool true))/\OldK s₁.heap s'.heap/\s'.os=s₁.os/\AllBare s'.gens) s₁:=by
  intro H hO hS hok hA hK;have base_of:∀ {b:Addr} {o:Obj},s₁.heap.get? b=some o->H b=none->(hidT s₁.heap H).get? b=some o:=fun e n=>Q6L e n;have noA:∀ {b:Addr} {o:Obj} {es:Array DictEntry} {ep:Nat},s₁.heap.get? b=some o->o.data=.dict es ep->H b=none:=fun{b o es ep} e d=>by
   cases q:H b with
   | none=>rfl
   | some u =>
    have e':b=a:=hA b (by rw[q];simp)
    subst e';rw[ha]at e;cases e;have d':Data.seq vs.toArray _=Data.dict es ep:=d;cases d'
  have nsK:∀ {b:Addr} {m:Str->Option Value},s₁.heap.Ns b m->(hidT s₁.heap H).Ns b m:=fun{b m} ⟨o,es,ep,e,d,r⟩=>⟨o,es,ep,base_of e (noA e d),d,r⟩;have hKb:K.In (hidT s₁.heap H):=fun b o e=>base_of (KX b o e) (by
   cases q:H b with
   | none=>rfl
   | some u =>
    have e':b=a:=hA b (by rw[q];simp)
    subst e';rw[hK (by rw[q];simp)]at e;cases e)
  have hM:Mod K mg (hidT s₁.heap H):=⟨hKb,nsK hns,⟨mb,nsK hb,hbb⟩,let ⟨mc,h1,h2⟩:=hlim;⟨mc,nsK h1,h2⟩⟩;have e0:Env0 P w K mg (hidT s₁.heap H) callerA [] s₁ H:=⟨rfl,hM,fun b o e=>Q8N e,le_of_eq (Q5c _ _),trivial,fun b hb=>absurd (show b∈([]:List Addr) from hb) (by simp),hok,.of_eq hg⟩
  refine codeAny_mono ((F _ hKb (nsK hns)).run callerA [] s₁ H ⟨[.ref a],[]⟩ [.ref a] [.ref a] _ _ hr e0 (hbind s₁ (.ref a)) (.cons rfl .nil) (hsp H hO hS)) fun r s' h=>?_;cases r with
  | error e=>exact (hCX H e s' h).elim
  | ok fl =>
   cases fl with
   | next=>exact False.elim h
   | brk=>exact False.elim h
   | cont=>exact False.elim h
   | ret u =>
    obtain⟨v,H',os,bare,un,hok',r',q⟩:=h;have q':v=.bl true:=q;subst q';obtain rfl:u=Value.bool true:=r';refine⟨rfl,OldK.of_keep fun b o e=>?_,os,bare⟩;cases q:H b with
    | none=>exact un.keep b o e q (by intro z;exact absurd (show b∈([]:List Addr) from z) (by simp)) (by simp)
    | some u =>
     rcases hO b with z | ⟨ob,xs,z⟩
     ·rw[q]at z;cases z
     ·have z2:=un.frzs b ob _ z;obtain⟨e1,_⟩:=hok b _ z;obtain⟨e2,_⟩:=hok' b _ z2;rw[e]at e1;cases e1;exact e2
 cases hk:K.lookup a with
 | some o =>
  -- the script is one of the module's own objects
  have e:=KX a o hk;rw[ha]at e;cases e;refine core (fun _=>none) (fun _=>.inl rfl) (.inr ⟨_,vs.toArray,_,hk,rfl,rfl,rfl,by rw[Z9,lenV];exact hl,by simpa using rv⟩) (fun b u z=>by have z':(none:Option HO)=some u:=z;cases z') (fun b z=>absurd rfl z) fun z=>absurd rfl z
 | none =>
  refine core (fun b=>if b=a then some (.frz { cls:=.type "list",data:=.seq vs.toArray } (.lst (ns.map V.int))) else none) (fun b=>?_) (.inl (.inr ⟨{ cls:=.type "list",data:=.seq vs.toArray },Zg rfl⟩)) (fun b u z=>?_) (fun b z=>?_) fun _=>hk
  ·by_cases hb:b=a
   ·exact .inr ⟨_,_,Zg hb⟩
   ·exact .inl (Zc hb)
  ·by_cases hb:b=a
   ·have z':=(Zg hb).symm.trans z;cases z';subst hb;exact⟨ha,by rw[Zb];exact hl,vs,_,rv,ha⟩
   ·have z':=(Zc hb).symm.trans z;cases z'
  ·by_cases hb:b=a
   ·exact hb
   ·exact absurd (Zc hb) z
noncomputable abbrev KOf{K:Frag}{h:Heap}(_:K.In h):Frag:=K
theorem walk_of{l:OpenLaw}{n k:Nat}{q:Program}{loose:List Str}{XP:(Str->Option Value)->Heap->Prop}{YP:World->Heap->Prop}{d:DefRec}{K:Params->Frag}{CX:World->CXT}{sp:World->Sp}{x:Str}
  (hn:l.most=some n) (hn2:n<=sizeLine) (hdf:d.params.defaults=[]) (hr:Room k callerA)
  (hY:∀ (w:World) (h:Heap),YP w h->(K w.params).In h)
  (F:∀ (w:World) (mg:Str->Option Value) (fa:Addr) (h:Heap),(K w.params).In h->h.Ns mainGlobals mg->mg d.name=some (.ref fa) ->
   ∃ fd:FuncData,(∀ (s:Shared) (u:Value),BindsTo s fd ⟨[u],[]⟩ [(x,u)]) /\
    ∀ base:Heap,(K w.params).In base->base.Ns mainGlobals mg->FnOk l.prog w (K w.params) mg base (CX w) k fa fd [x] (sp w))
  (hsp:∀ (w:World) (H:Hp) (a:Addr) (ns:List Int),ns.length<=n->Only H->SqL (K w.params) H a (ns.map V.int)->sp w [.ref a] H (fun v _=>v=.bl true) fun _ _ _=>False)
  (hCX:∀ (w:World) (H:Hp) (s:Shared) (e:Value) (s':Shared),CX w [] H s (fun _ _ _=>False) e s'->False) :
  PySem.W.WalkO q loose XP YP l.row.toRowW d [] (fun f vs=>PySem.call f vs):=by
 refine Att.attach_call hn hdf fun w s₀ s₁ mg mb fa o pm cd doc a vs ns G Y ho hd hcd hmg hobj hints hlen hg=>?_;have KX:=hY w _ Y;obtain⟨fd,hb,hF⟩:=F w mg fa _ KX G.T.g hmg;exact Q6Z KX G.T.g G.T.b G.T.builtins G.T.nolimit hg hobj hints (Z3 hlen hn2) hr hF hb (fun H hO hS=>hsp w H a ns hlen hO hS) fun H e s'=>hCX w H s₁ e s'
noncomputable def inClass(s:Stmt)(j:Nat):Stmt:=match s with
 | .ClassDef _ _ _ body _ _ _ _ _ _ _=>body.getD j (.Pass ⟨0,0,0,0⟩)
 | _=>.Pass ⟨0,0,0,0⟩
noncomputable def zah(s:Stmt):Arguments:=match s with
 | .FunctionDef _ a _ _ _ _ _ _ _ _=>a
 | _=>{ posonlyargs:=[],args:=[],vararg:=none,kwonlyargs:=[],kw_defaults:=[],kwarg:=none,defaults:=[] }
noncomputable def zab(s:Stmt):List Stmt:=match s with
 | .FunctionDef _ _ b _ _ _ _ _ _ _=>b
 | _=>[]
noncomputable def za4(s:Stmt):Scope:=match s with
 | .FunctionDef _ _ _ _ _ _ sc _ _ _=>sc
 | _=>{ kind:=.function,names:=[],isGenerator:=false,isCoroutine:=false }
noncomputable abbrev CX0:CXT:=fun _ _ _ _ _ _=>False
noncomputable abbrev E0:XK:=fun _ _ _=>False
theorem pass0:zau CX0 X E0:=fun _ _ _ _ _ _ _ h=>h.elim
structure Fun(K:Frag)(x qual:Str)(st:Stmt)(f:Addr)(fd:FuncData):Prop where
 ex:∃ (oc:Value) (od:Option Addr) (kV doc pm:Value) (an:Option Addr) (cdv ct:Value) (osl:Array (Option Value)),
  fd=fnOf x qual (zah st) (zab st) (za4 st) .none kV doc pm an cdv ct/\K.lookup f=some ⟨oc,od,.func fd,osl⟩/\codeIn K cdv qual=true
 kp:keepIn K (.ref f)=true
section
variable{P:Program}{w:World}{K:Frag}{mg:Str->Option Value}{base:Heap}
theorem Fun.ok{x qual:Str}{st:Stmt}{f:Addr}{fd:FuncData}{N ps:List Str}{k:Nat}{sp:Sp}(F:Fun K x qual st f fd)(S:zaK N ps (za4 st))(len:∀ vs H Q E,sp vs H Q E->vs.length=ps.length)
  (hbody:∀ (cdv:Value) (A:Around) (outer:List Env) (s:Shared) (H:Hp) (vs:List V) (Q:VK) (E:XK),Room k (A.deeper (envOfC qual (za4 st) s.heap.objs.size f cdv))->sp vs H Q E ->
   ∃ t,PSs (cxOf CX0 P w K mg base N qual (za4 st) f cdv A outer s H E).nox (zab st) t/\t { nx:=fun _ H'=>Q .non H',rt:=Q } (start N vs) H):FnOk P w K mg base CX0 (k+1) f fd ps sp:=by
 obtain⟨oc,od,kV,doc,pm,an,cdv,ct,osl,rfl,lk,hcd⟩:=F.ex;refine fn_of lk hcd S len fun A outer s H vs Q E hr hsp=>?_;obtain⟨t,h,q⟩:=hbody cdv A outer s H vs Q E hr hsp;exact⟨t,h.nox,q⟩
theorem Fun.binds{x qual:Str}{st:Stmt}{f:Addr}{fd:FuncData}{ps:List Str}(F:Fun K x qual st f fd)
  (h:∀ (kV doc pm:Value) (an:Option Addr) (cdv ct:Value) (us:List Value),us.length=ps.length->bindArgs (fnOf x qual (zah st) (zab st) (za4 st) .none kV doc pm an cdv ct) ⟨us,[]⟩=pure (ps.zip us)):Binds K fd ps []:=by
 obtain⟨oc,od,kV,doc,pm,an,cdv,ct,osl,rfl,lk,hcd⟩:=F.ex;exact .all (h kV doc pm an cdv ct)
theorem Q5t{x qual:Str}{st:Stmt}{f:Addr}{oc:Value}{od an:Option Addr}{osl:Array (Option Value)}{kV doc pm cdv ct:Value}(l:K.lookup f=some ⟨oc,od,.func (fnOf x qual (zah st) (zab st) (za4 st) .none kV doc pm an cdv ct),osl⟩)
  (c:codeIn K cdv qual=true) (k:keepIn K (.ref f)=true):Fun K x qual st f (fnOf x qual (zah st) (zab st) (za4 st) .none kV doc pm an cdv ct):=⟨⟨oc,od,kV,doc,pm,an,cdv,ct,osl,rfl,l,c⟩,k⟩
end
theorem small1000(h:n<=1000):n<sizeLine:=ZG h (by decide)
section
variable{X:Cx}
theorem pv(i:Nat)(hN:X.N[i]? = some x:=by rfl)(hv:Vis X.env.scope x:=by first | exact Or.inl rfl | exact Or.inr (Or.inl rfl) | exact Or.inr (Or.inr rfl))(hd:(x==("__debug__" : Str))=false:=by decide)
  (hcd:(x==("__classdict__" : Str))=false:=by decide):PE X (.Name x pos) (tVar i):=Q8t hN hv hd hcd
end
theorem iteF{A B:Prop}(h:B):if false=true then A else B:=by
 rw[Zc Zy];exact h
theorem iteT{A B:Prop}(h:A):if true=true then A else B:=by
 rw[Zg rfl];exact h
theorem ite2{c A B:Prop}[Decidable c](h1:c->A)(h2:¬ c->B):if c then A else B:=by
 by_cases h:c
 ·rw[Zg h];exact h1 h
 ·rw[Zc h];exact h2 h
noncomputable def Same(H H':Hp):Prop:=∀ b o,H b=some o->H' b=some o
theorem Same.trans(a:Same H H1)(b:Same H1 H2):Same H H2:=fun c o h=>b c o (a c o h)
theorem Same.free(e:Same H H')(h:H' l=Option.none):H l=Option.none:=by
 cases q:H l with
 | none=>rfl
 | some o =>
  rw[e l o q]at h;cases h
theorem Same.seq{K:Frag}{H H':Hp}{a:Addr}{xs:List V}(e:Same H H')(h:SqL K H a xs):SqL K H' a xs:=by
 rcases h with (h | ⟨o,h⟩) | h
 ·exact .inl (.inl (e _ _ h))
 ·exact .inl (.inr ⟨o,e _ _ h⟩)
 ·exact .inr h
theorem PE.imp(h:PE X e T)(i:∀ σ H Q,T' σ H Q->T σ H Q):PE X e T':=fun pins s σ H Q I q=>h pins s σ H Q I (i σ H Q q)
theorem PT.imp(h:PT X e T)(i:∀ σ H Q,T' σ H Q->T σ H Q):PT X e T':=fun pins s σ H Q I q=>h pins s σ H Q I (i σ H Q q)
theorem PW.imp(h:PW X e T)(i:∀ σ H Q,T' σ H Q->T σ H Q):PW X e T':=fun wh pins s σ H Q I q=>h wh pins s σ H Q I (i σ H Q q)
theorem PA.imp(h:PA X e T)(i:∀ σ H Q,T' σ H Q->T σ H Q):PA X e T':=fun pos pins s σ H Q I q=>h pos pins s σ H Q I (i σ H Q q)
theorem PS.imp{X:Cx}{st:Stmt}{T T':TS}(h:PS X st T)(i:∀ D σ H,T' D σ H->T D σ H):PS X st T':=fun pins s σ H D I q=>h pins s σ H D I (i D σ H q)
theorem PSs.imp{X:Cx}{st:List Stmt}{T T':TS}(h:PSs X st T)(i:∀ D σ H,T' D σ H->T D σ H):PSs X st T':=fun pins s σ H D I q=>h pins s σ H D I (i D σ H q)
theorem PI.imp(h:PI X tg it T)(i:∀ σ H R,T' σ H R->T σ H R):PI X tg it T':=fun pins s σ H R I q=>h pins s σ H R I (i σ H R q)
theorem PG.imp(h:PG X tg T)(i:∀ v σ H R,T' v σ H R->T v σ H R):PG X tg T':=fun pins s σ H v u R I r q=>h pins s σ H v u R I r (i v σ H R q)
theorem OpR.imp{f:Value->Value->Sem Value}(h:OpR X f T)(i:∀ x y H Q,T' x y H Q->T x y H Q):OpR X f T':=fun pins s σ H x y v u Q I a b q=>h pins s σ H x y v u Q I a b (i x y H Q q)
theorem Inv.frozen(I:Inv X pins σ H s)(h:H a=some (.lst xs)) :
  ∃ o,Inv X pins σ (upd H a (.frz o (.lst xs))) s:=by
 obtain⟨z,its,n,r,e⟩:=I.hok a _ h;refine⟨{ cls:=.type "list",data:=.seq its.toArray n },I.un (h':=s.heap) (t':=s.toks) ⟨fun b u q _ _ _=>q,fun b u q _ _ _=>⟨u.slots,q⟩,fun b u _ q _=>?_,fun b u q _=>⟨u,q⟩,fun b ys q=>?_,fun b u ys q=>?_,fun b ps q=>?_⟩ fun b u q=>?_⟩
 ·rw[Q0g fun w=>by rw[w,h]at q;cases q];exact q
 ·rw[Q0g fun w=>by rw[w,h]at q;cases q];exact q
 ·rw[Q0g fun w=>by rw[w,h]at q;cases q];exact q
 ·exact⟨#[],by rw[Q0g (fun w=>by rw[w,h]at q;cases q),q];simp⟩
 ·by_cases hb:b=a
  ·subst hb;rw[Q0d]at q;cases q;exact⟨e,z,its,n,r,e⟩
  ·rw[Q0g hb]at q;exact (I.hok b u q).stay (fun _ _ _ q=>q) (fun c q=>by rw[Q0g fun w=>by rw[w,h]at q;cases q];exact q) fun c ys q=>by rw[Q0g fun w=>by rw[w,h]at q;cases q];exact q
noncomputable def tFrz(T:TE):TE:=fun σ H Q=>T σ H fun v H'=>∃ a xs,v=.ref a/\H' a=some (.lst xs)/\∀ o,Q v (upd H' a (.frz o (.lst xs)))
theorem Q5u(h:PE X e T):PE X e (tFrz T):=by
 intro pins s σ H Q I q;refine thn (h pins s σ H _ I q) fun u s' zz=>?_;obtain⟨v,H',I',r,a,xs,ev,ha,k⟩:=zz;obtain⟨o,I2⟩:=I'.frozen ha;exact⟨v,_,I2,r,k o⟩
theorem Q3N(env:Env):∀ (names:List (Str×NameKind)) (cs:List (Str×Addr)),(∀ y∈names,y.2=.free->∃ c,env.cells.lookup y.1=some c)->(∀ y c,cs.lookup y=some c->env.cells.lookup y=some c) ->
  ∃ cl:List (Str×Addr),(forIn names cs (fun x r=>match x with | (name,kind)=>if (kind==.free)=true then (cellOf env name >>= fun c=>pure (ForInStep.yield ((name,c)::r)):Sem _) else pure (ForInStep.yield r)))=(pure cl:Sem _) /\
   (∀ y c,cl.lookup y=some c->env.cells.lookup y=some c)/\(∀ y∈names,y.2=.free->∃ c,cl.lookup y.1=some c)/\(∀ y c,cs.lookup y=some c->∃ c',cl.lookup y=some c')
 | [],cs,_,h2=>⟨cs,rfl,h2,(fun _ h=>absurd h Z4),fun y c h=>⟨c,h⟩⟩
 | (n,k)::r,cs,h1,h2=>by
  have h1':∀ y∈r,y.2=.free->∃ c,env.cells.lookup y.1=some c:=fun y hy=>h1 y (Zk _ hy);by_cases hk:k=.free
  ·subst hk;obtain⟨c,hc⟩:=h1 (n,.free) Zv rfl;have h2':∀ y d,((n,c)::cs).lookup y=some d->env.cells.lookup y=some d:=fun y d e=>by
    rw[ZK]at e;cases hy:y==n with
    | true =>
     rw[hy]at e;have:y=n:=by simpa using hy
     subst this;cases e;exact hc
    | false=>rw[hy]at e;exact h2 y d e
   obtain⟨cl,e,p1,p2,p3⟩:=Q3N env r ((n,c)::cs) h1' h2';refine⟨cl,?_,p1,fun y hy hf=>?_,fun y d hd=>?_⟩
   ·rw[List.forIn_cons];have ec:cellOf env n=pure c:=by unfold cellOf;rw[hc]
    simp only[beq_self_eq_true,ZS,ec,pure_bind];exact e
   ·rcases Zw.mp hy with q | q
    ·subst q;exact p3 n c (by simp[ZK])
    ·exact p2 y q hf
   ·by_cases hy:y=n
    ·subst hy;exact p3 y c (by simp[ZK])
    ·exact p3 y d (by rw[ZK,show (y==n)=false by simpa using hy];exact hd)
  ·obtain⟨cl,e,p1,p2,p3⟩:=Q3N env r cs h1' h2;refine⟨cl,?_,p1,fun y hy hf=>?_,p3⟩
   ·rw[List.forIn_cons];have ek:(k==NameKind.free)=false:=by simpa using hk
    simp only[ek,ZD,ZQ,pure_bind];exact e
   ·rcases Zw.mp hy with q | q
    ·subst q;exact absurd hf hk
    ·exact p2 y q hf
theorem Q9h(h:∀ y∈scope.names,y.2=.free->∃ c,env.cells.lookup y.1=some c) :
  ∃ cl,closureFor scope env=pure cl/\(∀ y c,cl.lookup y=some c->env.cells.lookup y=some c)/\(∀ y∈scope.names,y.2=.free->∃ c,cl.lookup y.1=some c):=by
 obtain⟨cl,e,p1,p2,_⟩:=Q3N env scope.names [] h (fun y c q=>by simp at q)
 refine⟨cl,?_,p1,p2⟩;unfold closureFor;simp only[bind_pure_comp,map_pure]at e ⊢
 first
  | exact e
  | (rw[e];rfl)
  | (simp only[e];rfl)
theorem Q7a{R:Result->Shared->Prop}(I:Nat->Shared->Prop){EE:Value->Shared->Prop}
  (hE:∀ e s',EE e s'->notedBy (model prog w) A env (fun e s'=>R (.error e) s') e s')
  (turn:∀ n s,I n s->wpAny (model prog w) A (pyNext it) (fun r s₁=>match r with
   | none=>R (.ok .next) s₁
   | some v=>wpAny (model prog w) A (letOwnedTupleGo target it v) (fun _ s₂=>wpAny (model prog w) A (assign target env v) (fun _ s₂ =>
     wpAny (model prog w) A (forIn ifs true fun c r=>if r=true then do let ok <- isTrue c env (eval c env);pure (ForInStep.yield ok) else pure (ForInStep.yield r)) (fun ok s₃ =>
      if ok=true then wpAny (model prog w) A (eval elt env) (fun x s₄ =>
       wpAny (model prog w) A (call (.builtin "list.append") [acc,x]) (fun _ s₅=>∃ m,m<n/\I m s₅) EE s₄) EE s₃
      else ∃ m,m<n/\I m s₃) EE s₂) EE s₂) EE s₁) EE s)
  (n:Nat) (h:I n s) :
  codeAny (model prog w) A (.compLoop (.ListComp elt [⟨target,iter,ifs,0⟩] scope pos) 0 it acc env) R s:=by
 refine codeAny_loop rfl I (fun n s hI=>?_) n h;show wpAny _ A ((compTurn (.ListComp elt [⟨target,iter,ifs,0⟩] scope pos) 0 it acc env).onRaise (fun x=>do noteFrame x env;theTreesLotGoes x)) _ _ s
 refine wpAny_noted (ZY (E:=EE) ?_ (fun _ _ q=>q) fun e s' q=>hE e s' q);rw[compTurn_list];refine Za (wpAny_standAt (Za (ZY (turn n s hI) (fun r s₁ h₁=>?_) fun _ _ h'=>h')));cases r with
 | none=>exact Zd h₁
 | some v =>
  refine Za (ZY h₁ (fun _ s₂ h₂=>Za (ZY h₂ (fun _ s₃ h₃=>Za (ZY h₃ (fun ok s₄ h₄=>?_) fun _ _ h'=>h')) fun _ _ h'=>h')) fun _ _ h'=>h');cases ok with
  | false=>exact Zd ⟨rfl,h₄⟩
  | true =>
   exact Za (Za (ZY h₄ (fun x s₅ h₅=>Za (ZY h₅ (fun _ s₆ h₆=>Zd (Zd ⟨rfl,h₆⟩)) fun _ _ h'=>h')) fun _ _ h'=>h'))
noncomputable def za2(X:Cx)(scope:Scope)(N:List Str)(cl:List (Str×Addr))(C:Addr)(s₀:Shared)(H₀:Hp)(ex:List Addr)(E:Value->Shared->Prop):Cx :=
 {X with N:=N,s₀:=s₀,H₀:=H₀,env:=compEnvC scope cl C X.env,outer:=X.stack,ex:=ex,fn:=fun _=>false,pn:=[],xe:=E }
noncomputable def PIfs(X:Cx)(ifs:List Expr)(t:TT):Prop :=
 ∀ (pins:List (Addr×Obj)) (s:Shared) (σ:St) (H:Hp) (Q:Bool->Hp->Prop),Inv X pins σ H s->t σ H Q ->
  wpAny (model X.prog X.w) X.A (forIn ifs true fun c r=>if r=true then do let ok <- isTrue c X.env (eval c X.env);pure (ForInStep.yield ok) else pure (ForInStep.yield r)) (TP X pins σ Q) X.xe s
theorem Q7b:PIfs X [] (fun _ H Q=>Q true H):=fun _ _ _ H _ I q=>wpAny_tests_nil ⟨H,I,q⟩
theorem Q7c(h:PT X c t):PIfs X [c] t:=fun pins s σ H Q I q=>wpAny_tests_one (h pins s σ H Q I q)
structure zav(sc:Scope)(scope:Scope)(N:List Str)(k:Nat)(fn:List Str):Prop where
 kind:scope.kind=.function
 cell:∀ y∈scope.names,y.2≠.cell
 names:∀ y∈scope.names,y.2=.local->scope.names.lookup y.1=some .local
 free:∀ y∈scope.names,y.2=.free->sc.names.lookup y.1=some .cell\/sc.names.lookup y.1=some .free
 nd:N.Nodup
 tail:N.drop k=fn
 len:N.length=k+fn.length
 fnk:∀ y∈fn,(sc.names.lookup y=some .cell\/sc.names.lookup y=some .free)/\scope.names.lookup y=some .free
theorem Q1h{env:Env}:∀ {names:List (Str×NameKind)} {x:Str} {k:NameKind},
  (names.map fun(n,k)=>if (k==NameKind.free&&env.scope.kind==.function&&env.kindOf n==some .cell) then (n,NameKind.cell) else (n,k)).lookup x=some k->k=.cell\/k=.free->(∀ y∈names,y.2≠.cell)->(x,NameKind.free)∈names
 | [],_,_,h,_,_=>by simp at h
 | (n,k)::r,x,k',h,hk,hc=>by
  have ih:=@Q1h env r x k';rw[Z6,ZK]at h;by_cases hx:x=n
  ·subst hx;by_cases hcnd:(k==NameKind.free&&env.scope.kind==.function&&env.kindOf x==some .cell)=true
   ·have:k=.free:=by
     simp only[Zh,Zx]at hcnd;exact hcnd.1.1
    subst this;exact Zv
   ·have e:(if (k==NameKind.free&&env.scope.kind==.function&&env.kindOf x==some .cell)=true then (x,NameKind.cell) else (x,k))=(x,k):=Zc hcnd
    rw[e]at h;simp at h;subst h;rcases hk with rfl | rfl
    ·exact absurd rfl (hc _ Zv)
    ·exact Zv
  ·have hne:(x==n)=false:=by simpa using hx
   refine Zk _ (ih ?_ hk fun y hy=>hc y (Zk _ hy));split at h
   ·rename_i w;split at w <;> simp_all
   ·exact h
theorem Q1i{env:Env}:∀ {names:List (Str×NameKind)} {x:Str},names.lookup x=some .free ->
  (names.map fun(n,k)=>if (k==NameKind.free&&env.scope.kind==.function&&env.kindOf n==some .cell) then (n,NameKind.cell) else (n,k)).lookup x=some .cell \/
  (names.map fun(n,k)=>if (k==NameKind.free&&env.scope.kind==.function&&env.kindOf n==some .cell) then (n,NameKind.cell) else (n,k)).lookup x=some .free
 | [],_,h=>by simp at h
 | (n,k)::r,x,h=>by
  have ih:=@Q1i env r x;rw[Z6];dsimp only;rw[ZK]at h;by_cases hx:x=n
  ·subst hx;simp only[beq_self_eq_true]at h;cases h;by_cases hc:(NameKind.free==NameKind.free&&env.scope.kind==.function&&env.kindOf x==some .cell)=true
   ·rw[Zg hc];left;simp[ZK]
   ·rw[Zc hc];right;simp[ZK]
  ·have hne:(x==n)=false:=by simpa using hx
   rw[hne]at h;have ih':=ih h;by_cases hc:(k==NameKind.free&&env.scope.kind==.function&&env.kindOf n==some .cell)=true
   ·rw[Zg hc];simp only[ZK,hne];exact ih'
   ·rw[Zc hc];simp only[ZK,hne];exact ih'
theorem Q2w:∀ {names:List (Str×NameKind)},names.lookup x=some k->(x,k)∈names
 | [],h=>by simp at h
 | (n,j)::r,h=>by
  rw[ZK]at h;by_cases hx:x=n
  ·subst hx;simp only[beq_self_eq_true]at h;cases h;exact Zv
  ·have hne:(x==n)=false:=by simpa using hx
   rw[hne]at h;exact Zk _ (Q2w h)
section
variable{X:Cx}{pins:List (Addr×Obj)}{σ:St}{H H':Hp}{s s':Shared}{scope:Scope}{N fn:List Str}{k:Nat}{cl:List (Str×Addr)}{C acc:Addr}{fp:List Addr}{E:Value->Shared->Prop}{h₁:Heap}{tk:Nat}
noncomputable def zb0(X:Cx)(σ:St)(ix:List Nat):St:=ix.map fun i=>(σ[i]?).getD none
theorem Inv.comp(I:Inv X pins σ H s)(ok:zav X.env.scope scope N k fn){ix:List Nat}(hix:ix.map (fun i=>X.N[i]?)=fn.map some)
  (p1:∀ y c,cl.lookup y=some c->X.env.cells.lookup y=some c) (p2:∀ y∈scope.names,y.2=.free->∃ c,cl.lookup y.1=some c)
  (hC:s.heap.objs.size<=C) (hns:h₁.Ns C fun _=>none) (old:∀ b o,s.heap.get? b=some o->h₁.get? b=some o)
  (hfp:∀ b∈fp,FpOk X pins H b) (hlt:∀ b∈fp,b<s.heap.objs.size) :
  Inv (za2 X scope N cl C s H fp E) [] (List.replicate k none++zb0 X σ ix) H { s with heap:=h₁,toks:=tk }:=by
 have hlen:ix.length=fn.length:=by
  have:=congrArg List.length hix;simpa using this
 refine⟨⟨I.ok.mod,ok.kind,I.ok.glob,I.ok.blt,hC,fun x y c h1 h2=>I.ok.inj x y c (p1 x c h1) (p1 y c h2),fun x hx=>?_,fun x c h=>(nomatch h),I.ok.hd,I.ok.frames,.inl rfl,fun b hb=>⟨ZO (Z2 (hlt b hb) hC),fun x c h=>(hfp b hb).2.2.2.2.1 x c (p1 x c h)⟩,I.bs,Z3 I.ok.bsz I.sz,fun b o e hb=>?_,fun b hb hs=>?_,I.stack,I.stkFree⟩,
  rfl,I.bare,Un.kept old,⟨_,hns,fun i x v h1 h2 h3=>?_⟩,fun x c h=>?_,I.hok.fresh hC,fun x c h=>I.freeC x c (p1 x c h),fun p hp=>absurd hp Z4,I.hok.kept old,?_⟩
 ·have hm:(x,NameKind.free)∈scope.names:=by
   rcases hx with h | h
   ·exact Q1h h (.inl rfl) ok.cell
   ·exact Q1h h (.inr rfl) ok.cell
  exact p2 _ hm rfl
 ·rcases (hfp b hb).2.2.2.1 with z | z
  ·exact I.ok.noex b o e z
  ·have h1:b<X.base.objs.size:=Zr e;have h2:=I.ok.bsz;exact absurd (Z2 h1 (Z3 h2 z)) (lt_irrefl _)
 ·rcases Zw.mp (I.stkSub b hs) with z | z
  ·exact (hfp b hb).2.1 z
  ·exact (hfp b hb).2.2.1 z
 ·-- the names from around
  have hi:k<=i:=by
   refine le_of_not_lt fun q=>?_;rw[getElem?_append_left (by simpa using q),List.getElem?_replicate_of_lt q]at h2
   cases h2
  rw[getElem?_append_right (by simpa using hi),length_replicate]at h2
  unfold zb0 at h2;rw[Zq]at h2;cases hj:ix[i-k]? with
  | none=>rw[hj]at h2;cases h2
  | some j =>
   rw[hj]at h2;have h2':(σ[j]?).getD none=some v:=by simpa using h2
   have hσ:σ[j]? = some (some v):=by
    cases q:σ[j]? with
    | none=>rw[q]at h2';cases h2'
    | some o=>rw[q]at h2';simpa using h2'
   have hNi:fn[i-k]? = some x:=by
    have e:(N.drop k)[i-k]? = N[i]?:=by rw[getElem?_drop];congr 1;omega
    rw[ok.tail]at e;exact e.trans h1
   have hNj:X.N[j]? = some x:=by
    have e:=congrArg (fun l=>l[i-k]?) hix;simp only[Zq,hj,hNi,Yk]at e;simpa using e
   obtain⟨hk1,hk2⟩:=ok.fnk x (Zt hNi);obtain⟨m,hm,hl⟩:=I.loc;obtain⟨u,r,l⟩:=hl j x v hNj hσ (by rcases hk1 with z | z;exact .inr (.inl z);exact .inr (.inr z))
   refine⟨u,r,.inr ⟨Q1i hk2,?_⟩⟩;rcases l with ⟨z,_⟩ | ⟨_,c,hc,hcell⟩
   ·have z':X.env.scope.names.lookup x=some .local:=z;rcases hk1 with q | q <;> (rw[q]at z';cases z')
   ·obtain⟨c',hc'⟩:=p2 (x,.free) (Q2w hk2) rfl;have e:=p1 x c' hc';rw[hc]at e;cases e;obtain⟨o,ho,hd⟩:=hcell;exact⟨c,hc',o,old c o ho,hd⟩
 ·obtain⟨v,o,ho,hd⟩:=I.cell x c (p1 x c h);exact⟨v,o,old c o ho,hd⟩
 ·rw[Zl,length_replicate];show k+(zb0 X σ ix).length=N.length;unfold zb0;rw[Zb,ok.len,hlen]
theorem Inv.uncomp(I:Inv X pins σ H s)(I':Inv (za2 X scope N cl C s H fp E) pins' σ' H' s')(hfp:∀ b∈fp,FpOk X pins H b)
  (ha:s.heap.objs.size<=acc) (hn:H' acc=none) (hl:s'.heap.PlainList acc its.toArray) (hv:Vals ys its) (hz:ys.length<=sizeLine):Inv X pins σ (upd H' acc (.lst ys)) s':=by
 have b0:Un (frs X.stack) fp H H' s.heap s'.heap:=I'.base;have ne:∀ {b:Addr} {o:Obj},s.heap.get? b=some o->b≠acc:=fun e=>ZO (Z2 (Zr e) ha);have neH:∀ {b:Addr} {o:HO},H b=some o->b≠acc:=fun e=>ZO (Z2 (I.hok.lt e) ha);obtain⟨n,hget⟩:=hl;refine I.call' I'.os ⟨b0.keep,b0.slot,fun b o e n hb=>?_,b0.there,fun b xs e=>?_,fun b o xs e=>?_,fun b ps e=>?_⟩ (fun b u e=>?_) I'.bare fun b hb=>⟨(hfp b hb).2.2.2.1,(hfp b hb).2.1,(hfp b hb).2.2.2.2.1,(hfp b hb).2.2.2.2.2⟩
 ·rw[Q0g (ne e)];exact b0.free b o e n hb
 ·rw[Q0g (neH e)];exact b0.tups b xs e
 ·rw[Q0g (neH e)];exact b0.frzs b o xs e
 ·rw[Q0g (neH e)];exact b0.tbls b ps e
 ·by_cases hb:b=acc
  ·subst hb;rw[Q0d]at e;cases e;exact⟨hz,its,n,hv,hget⟩
  ·rw[Q0g hb]at e;exact (I'.hok b u e).stay (fun _ _ _ q=>q) (fun c q=>by rw[Q0g (Q0l q hn)];exact q) fun c xs q=>by rw[Q0g (Q0l q hn)];exact q
end
noncomputable abbrev XF:Value->Shared->Prop:=fun _ _=>False
noncomputable def tComp(wi:TI)(k:Nat)(ix:List Nat)(g:TG)(tc:TT)(te:TE):TE:=fun σ H Q=>wi σ H fun J H1=>∃ W:Nat->Nat->List V->Hp->Prop,(∃ m,W 0 m [] H1)/\∀ i m ys H,W i m ys H ->
 (J.stop i H/\ys.length<=sizeLine/\∀ a,H a=none->Q (.ref a) (upd H a (.lst ys))) \/
 (J.go i H/\∀ y H',J.yld i H y H'->g y (List.replicate k none++ix.map (fun i=>(σ[i]?).getD none)) H' fun σ2 H2=>σ2.drop k=ix.map (fun i=>(σ[i]?).getD none)/\σ2.length=k+ix.length/\tc σ2 H2 fun b H3 =>
  if b=true then te σ2 H3 fun z H4=>ys.length<sizeLine/\∃ m',m'<m/\W (i+1) m' (ys++[z]) H4 else ∃ m',m'<m/\W (i+1) m' ys H3)
section
variable{X:Cx}{pins:List (Addr×Obj)}{σ:St}{H:Hp}{s:Shared}{scope:Scope}{N fn:List Str}{k:Nat}{ix:List Nat}{elt tg iter:Expr}{ifs:List Expr}{pos:Pos}{g:TG}{tc:TT}{te:TE}
theorem Q5v(I:Inv X pins σ H s)(ok:zav X.env.scope scope N k fn) :
  ∃ cl,closureFor scope X.env=pure cl/\(∀ y c,cl.lookup y=some c->X.env.cells.lookup y=some c)/\(∀ y∈scope.names,y.2=.free->∃ c,cl.lookup y.1=some c) :=
 Q9h fun y hy hf=>I.ok.has y.1 (ok.free y hy hf)
end
noncomputable def zak(h:Heap)(l:List Addr):Heap:=⟨h.objs.mapIdx fun i o=>if i∈l then { o with data:=.freed } else o,h.life⟩
theorem Q0M(h:Heap)(l:List Addr)(b:Addr):(zak h l).get? b=if b∈l then none else h.get? b:=by
 unfold zak Heap.get?;simp only[Array.getElem?_mapIdx];cases e:h.objs[b]? with
 | none=>simp[e]
 | some o =>
  by_cases hb:b∈l
  ·simp[hb]
  ·simp[hb,e]
theorem Q5w(hb:b∈l):(zak h l).get? b=none:=by rw[Q0M,Zg hb]
theorem Q0s(hb:b∉l):(zak h l).get? b=h.get? b:=by rw[Q0M,Zc hb]
theorem Q1u{h b b':Heap}:∀ {l:List Env},h.FunFrames b l->(∀ x∈frs l,b'.get? x=none)->h.FunFrames b' l
 | [],_,_=>trivial
 | env::r,⟨hk,⟨L,o,hf,hn,ho,hd⟩,hr⟩,hb=>by
  have hL:L∈frs (env::r):=by unfold frs;rw[filterMap_cons,hf];exact Zv
  refine⟨hk,⟨L,o,hf,hb L hL,ho,hd⟩,Q1u hr fun x hx=>hb x ?_⟩;unfold frs at hx ⊢;rw[filterMap_cons,hf];exact Zk _ hx
noncomputable def FlyT(B:Heap)(l:List Env)(a:Addr)(cls:Value)(h:Heap):Prop:=B.StaysIn h/\B.get? a=none/\h.FunFrames B l/\∃ a0 fl,h.TracedAtW B a cls a0 fl
noncomputable def Fly(B:Heap)(l:List Env)(a:Addr)(cls:Value)(h:Heap):Prop :=
 FlyT B l a cls h\/(B.StaysIn h/\B.get? a=none/\h.FunFrames B l/\∃ oe vs a0,h.get? a=some oe/\oe.cls=cls/\oe.data=.fields vs/\vs[1]? = some .none/\vs[0]? = some a0)
theorem Fly.stays(f:Fly B l a cls h):B.StaysIn h:=by
 rcases f with f | f
 ·exact f.1
 ·exact f.1
section
variable{M:Model}{A:Around}{E:Value->Shared->Prop}{s:Shared}
theorem Q5x(h:env.frame=env'.frame):noteFrame e env=noteFrame e env':=by
 unfold noteFrame PySem.frameOf;rw[h]
theorem Q7d{Q:Unit->Shared->Prop}(hfr:A.frames=some (e0::outer))(hf:e0.frame=some L)(hf':env.frame=some L)(x:Fly B (e0::outer) a cls s.heap)
  (hQ:∀ h',FlyT B (e0::outer) a cls h'->s.heap.UpToSlots h'->Q () { s with heap:=h' }):wpAny M A (noteFrame (.ref a) env) Q E s:=by
 rw[Q5x (hf'.trans hf.symm)];rcases x with ⟨f1,f2,f3,a0,fl,oe,vs,T,oT,ts,he,⟨hcls,h0⟩,hd,h1,hnT,hTe,hT,hdT,h3⟩ | ⟨f1,f2,f3,oe,vs,a0,he,hcls,hd,h1,h0⟩
 ·by_cases hfl:fl=rawInt L
  ·subst hfl;exact wpAny_noteFrame_againW hf ⟨oe,vs,T,oT,ts,he,⟨hcls,h0⟩,hd,h1,hnT,hTe,hT,hdT,h3⟩ (hQ s.heap ⟨f1,f2,f3,a0,_,oe,vs,T,oT,ts,he,⟨hcls,h0⟩,hd,h1,hnT,hTe,hT,hdT,h3⟩ (.refl _))
  ·subst hcls;unfold noteFrame;simp only[hf];refine Za (wpAny_field he hd h1 ?_);rw[Zg (show (Value.ref T != Value.none)=true from by simp)]
   refine Za (wpAny_field hT hdT h3 ?_);rw[Zc (show ¬ ((fl==rawInt L)=true) from by simpa using hfl)]
   refine Za (wpAny_setField hT hdT (Array.getElem?_eq_some_iff.mp h3).1 ?_);have other:∀ b,b≠T->(s.heap.update T (Obj.mapFields (·.setIfInBounds 3 Value.none))).get? b=s.heap.get? b:=fun b hb=>Heap.get?_update_other _ _ (Ne.symm hb);have rec':∀ b o,s.heap.get? b=some o->(∀ vs,o.data≠.fields vs)->b≠T:=fun b o hb hnf q=>by
    rw[q,hT]at hb;cases hb;exact hnf ts hdT
   refine wpAny_entryW hfr (f3.of_keeps fun b o hb hnf=>⟨o,(other b (rec' b o hb hnf)).trans hb,rfl⟩) hf ((other a (Ne.symm hTe)).trans he)
    (fun b o hbo=>(other b fun q=>by rw[q,hnT]at hbo;cases hbo).trans (f1 b o hbo)) f2 hd (Array.getElem?_eq_some_iff.mp h1).1 h0 fun h' ⟨x1,x2,x3,x4⟩=>?_
   exact hQ h' ⟨x1,f2,x2,a0,_,x3⟩ fun b o hb hnf=>x4 b o ((other b (rec' b o hb hnf)).trans hb) hnf
 ·subst hcls;unfold noteFrame;simp only[hf];refine Za (wpAny_field he hd h1 ?_);rw[Zc (by decide)]
  refine wpAny_entryW hfr f3 hf he f1 f2 hd (Array.getElem?_eq_some_iff.mp h1).1 h0 fun h' ⟨x1,x2,x3,x4⟩=>?_;exact hQ h' ⟨x1,f2,x2,a0,_,x3⟩ x4
theorem Q3O{Q:Unit->Shared->Prop}(x:FlyT B l a cls s.heap)(hQ:∀ h',FlyT B l a cls h'->s.heap.UpToSlots h'->Q () { s with heap:=h' }):wpAny M A (setFlight (.ref a) fr) Q E s:=by
 obtain⟨f1,f2,f3,a0,fl,oe,vs,T,oT,ts,he,hcls,hd,h1,hnT,hTe,hT,hdT,h3⟩:=x;have hsz3:3<ts.size:=(Array.getElem?_eq_some_iff.mp h3).1;have other:∀ b,b≠T->(s.heap.update T (Obj.mapFields (·.setIfInBounds 3 (fr.elim Value.none fun f=>rawInt f)))).get? b=s.heap.get? b:=fun b hb=>Heap.get?_update_other _ _ (Ne.symm hb);have rec':∀ b o,s.heap.get? b=some o->(∀ vs,o.data≠.fields vs)->b≠T:=fun b o hb hnf q=>by
  rw[q,hT]at hb;cases hb;exact hnf ts hdT
 unfold setFlight;refine Za (wpAny_field he hd h1 ?_);rw[Zg (show (Value.ref T != Value.none)=true from by simp)]
 refine wpAny_setField hT hdT hsz3 (hQ _ ⟨fun b o hbo=>(other b fun q=>by rw[q,hnT]at hbo;cases hbo).trans (f1 b o hbo),f2,f3.of_keeps fun b o hb hnf=>⟨o,(other b (rec' b o hb hnf)).trans hb,rfl⟩,a0,(fr.elim Value.none fun f=>rawInt f),?_⟩ fun b o hb hnf=>⟨o.slots,(other b (rec' b o hb hnf)).trans hb⟩)
 exact⟨oe,vs,T,_,_,(other a (Ne.symm hTe)).trans he,hcls,hd,h1,hnT,hTe,Heap.get?_update_self _ hT (Obj.isFreed_of_fields (Obj.data_mapFields hdT _)),Obj.data_mapFields hdT _,by simp[hsz3]⟩
theorem Q3h{Q:Value->Shared->Prop}(x:FlyT B l a cls s.heap)(hQ:∀ T,Q (.ref T) s):wpAny M A (field (.ref a) 1) Q E s:=by
 obtain⟨f1,f2,f3,a0,fl,oe,vs,T,oT,ts,he,hcls,hd,h1,r⟩:=x;exact wpAny_field he hd h1 (hQ T)
end
noncomputable def zbZ(fs:List Addr)(H:Hp)(h B:Heap):Prop:=∀ b o,h.get? b=some o->b∉fs->∃ o',B.get? b=some o'/\(H b=none->o'=o)
noncomputable def CX1(P:Program)(w:World):CXT:=fun outer H s E e s'=>∃ (a:Addr) (cls:Value) (H':Hp) (B:Heap),e=.ref a/\s'.os=s.os/\AllBare s'.gens/\Un (frs outer) [] H H' s.heap s'.heap/\HOk P w H' B /\
 FlyT B outer a cls s'.heap/\zbZ (frs outer) H s.heap B/\E cls none H'
structure XS(X:Cx)(pins:List (Addr×Obj))(σ:St)(H:Hp)(s:Shared)(a:Addr)(cls:Value):Prop where
 inv:Inv X pins σ H s
 ex:∃ B,Fly B X.stack a cls s.heap/\HOk X.prog X.w H B/\zbZ (X.fs++X.ex) X.H₀ X.s₀.heap B/\∀ p∈X.pn++pins,B.get? p.1=some p.2
section
variable{X:Cx}{pins:List (Addr×Obj)}{σ:St}{H H':Hp}{s s':Shared}{a:Addr}{cls:Value}{E:XK}
theorem Inv.notStk(I:Inv X pins σ H s)(e:X.s₀.heap.get? b=some o)(hb:b∉X.fs):b∉frs X.stack:=fun z=>by
 rcases Zw.mp (I.stkSub b z) with q | q
 ·have h1:=Zr e;rw[q]at h1;exact absurd (Z2 h1 I.ok.above) (lt_irrefl _)
 ·exact hb q
theorem Inv.stays(I:Inv X pins σ H s)(hB:B.StaysIn h')(up:s.heap.UpToSlots h')(hok:HOk X.prog X.w H B)(old:zbZ (X.fs++X.ex) X.H₀ X.s₀.heap B)(hp:∀ p∈X.pn++pins,B.get? p.1=some p.2):Inv X pins σ H { s with heap:=h' }:=by
 have keep:∀ b o,X.s₀.heap.get? b=some o->X.H₀ b=none->b∉X.fs->b∉X.ex->h'.get? b=some o:=fun b o e n h1 h2=>by
  obtain⟨o',e',q⟩:=old b o e fun z=>(Z0.mp z).elim h1 h2;rw[q n]at e';exact hB b o e'
 have slot:∀ b o,X.s₀.heap.get? b=some o->X.H₀ b=none->b∈X.fs->b∉X.ex->∃ sl,h'.get? b=some { o with slots:=sl }:=fun b o e n h1 h2=>by
  obtain⟨sl,e1⟩:=I.base.slot b o e n h1 h2;obtain⟨_,o2,e2,nf⟩:=I.ok.funs.mem h1;rw[e]at e2;cases e2;obtain⟨sl',e3⟩:=up b _ e1 nf;exact⟨sl',e3⟩
 refine⟨I.ok,I.os,I.bare,⟨keep,slot,I.base.free,fun b o e hx=>?_,I.base.tups,I.base.frzs,I.base.tbls⟩,?_,fun x c e=>?_,I.free,I.freeC,fun p q=>?_,hok.kept hB,I.len⟩
 ·by_cases hf:b∈X.fs
  ·by_cases n:X.H₀ b=none
   ·obtain⟨sl,e1⟩:=slot b o e n hf hx;exact⟨_,e1⟩
   ·exact absurd (I.ok.frf b hf) n
  ·obtain⟨o',e',_⟩:=old b o e fun z=>(Z0.mp z).elim hf hx;exact⟨o',hB b o' e'⟩
 ·obtain⟨m,hn,hl⟩:=I.loc;refine⟨m,up.ns hn,fun i x v h1 h2 h3=>?_⟩;obtain⟨u,r,hk⟩:=hl i x v h1 h2 h3;refine⟨u,r,?_⟩;rcases hk with hk | ⟨k1,c,k2,o,k3,k4⟩
  ·exact .inl hk
  ·obtain⟨sl,e3⟩:=up c o k3 fun vs q=>by rw[k4]at q;cases q
   exact .inr ⟨k1,c,k2,_,e3,k4⟩
 ·obtain⟨v,o,k3,k4⟩:=I.cell x c e;obtain⟨sl,e3⟩:=up c o k3 fun vs q=>by rw[k4]at q;cases q
  exact⟨v,_,e3,k4⟩
 ·obtain⟨p1,p2⟩:=I.pin p q;exact⟨hB _ _ (hp p q),p2⟩
theorem XS.pass(hP:X.prog=P)(hw:X.w=w)(I:Inv X pins σ H s)(h:CX1 P w X.stack H s E e s'):∃ a cls H',e=.ref a/\XS X pins σ H' s' a cls/\E cls none H':=by
 subst hP hw;obtain⟨a,cls,H',B,rfl,os,bare,un,hok,fly,old,hE⟩:=h;have I2:Inv X pins σ H' s':=I.call' os un (hok.kept fly.1) bare fun b z=>absurd z (by simp)
 refine⟨a,cls,H',rfl,⟨I2,B,.inl fly,hok,fun b o e hb=>?_,fun p hp=>?_⟩,hE⟩
 ·rw[Z0]at hb;obtain⟨o1,e1⟩:=I.base.there b o e fun z=>hb (.inr z);obtain⟨o2,e2,h2⟩:=old b o1 e1 (I.notStk e fun z=>hb (.inl z));refine⟨o2,e2,fun hn=>?_⟩;have k1:=I.base.keep b o e hn (fun z=>hb (.inl z)) fun z=>hb (.inr z);rw[e1]at k1;cases k1;exact h2 (I.base.free b o e hn fun z=>hb (.inr z))
 ·obtain⟨p1,p2,p3,p4,p5⟩:=I.pin p hp;obtain⟨o2,e2,h2⟩:=old p.1 p.2 p1 fun z=>by
   rcases Zw.mp (I.stkSub _ z) with q | q
   ·exact p3 q
   ·exact p4 q
  rw[e2,h2 p2]
theorem XS.made{h':Heap}{vs:List Value}(I:Inv X pins σ H s)(mk:Heap.MadeExcOf s.heap h' a cls vs):XS X pins σ H { s with heap:=h' } a cls:=by
 obtain⟨t,he,ht,_⟩:=mk.there;have st:(zak s.heap (frs X.stack)).StaysIn h':=fun b o e=>by
  rw[Q0M]at e;split at e
  ·cases e
  ·exact mk.keeps b o e
 refine⟨I.kept (t':=s.toks) mk.keeps,zak s.heap (frs X.stack),.inr ⟨st,?_,?_,_,_,.ref t,he,rfl,rfl,rfl,rfl⟩,fun b u q=>?_,fun b o e hb=>?_,fun p hp=>?_⟩
 ·rw[Q0M,mk.new];simp
 ·exact Q1u (I.kept (t':=s.toks) mk.keeps).stack fun x hx=>Q5w hx
 ·have out:∀ {c:Addr} {v:HO},H c=some v->c∉frs X.stack:=fun{c v} e z=>by rw[I.stkFree c z]at e;cases e
  refine (I.hok b u q).stay (fun c v hc e=>?_) (fun _ z=>z) fun _ _ z=>z;rcases hc with rfl | hc
  ·rw[Q0s (out q)];exact e
  ·rw[Q0s (out hc)];exact e
 ·rw[Z0]at hb;obtain⟨o1,e1⟩:=I.base.there b o e fun z=>hb (.inr z);refine⟨o1,by rw[Q0s (I.notStk e fun z=>hb (.inl z))];exact e1,fun hn=>?_⟩
  have k1:=I.base.keep b o e hn (fun z=>hb (.inl z)) fun z=>hb (.inr z);rw[e1]at k1;cases k1;rfl
 ·obtain⟨p1,p2,p3,p4,p5⟩:=I.pin p hp;rw[Q0s fun z=>by
   rcases Zw.mp (I.stkSub _ z) with q | q
   ·exact p3 q
   ·exact p4 q]
  exact p1
structure XT(X:Cx)(pins:List (Addr×Obj))(σ:St)(H:Hp)(s:Shared)(a:Addr)(cls:Value):Prop where
 inv:Inv X pins σ H s
 ex:∃ B,FlyT B X.stack a cls s.heap/\HOk X.prog X.w H B/\zbZ (X.fs++X.ex) X.H₀ X.s₀.heap B/\∀ p∈X.pn++pins,B.get? p.1=some p.2
theorem XT.xs(x:XT X pins σ H s a cls):XS X pins σ H s a cls:=by
 obtain⟨I,B,f,r⟩:=x;exact⟨I,B,.inl f,r⟩
structure Top(X:Cx):Prop where
 ex:∃ e0 r L,X.stack=e0::r/\e0.frame=some L/\X.env.frame=some L
theorem XS.note{E':Value->Shared->Prop}{Q:Unit->Shared->Prop}(t:Top X)(x:XS X pins σ H s a cls)(hQ:∀ s',XT X pins σ H s' a cls->Q () s'):wpAny (model X.prog X.w) X.A (noteFrame (.ref a) X.env) Q E' s:=by
 obtain⟨e0,r,L,h1,h2,h3⟩:=t.ex;obtain⟨I,B,f,hok,old,hp⟩:=x;rw[h1]at f;refine Q7d (by rw[<- h1];exact I.ok.frames) h2 h3 f fun h' f' up=>hQ _ ⟨I.stays f'.1 up hok old hp,B,by rw[h1];exact f',hok,old,hp⟩
theorem XT.set{E':Value->Shared->Prop}{Q:Unit->Shared->Prop}(x:XT X pins σ H s a cls)(hQ:∀ s',XT X pins σ H s' a cls->Q () s'):wpAny (model X.prog X.w) A (setFlight (.ref a) fr) Q E' s:=by
 obtain⟨I,B,f,hok,old,hp⟩:=x;exact Q3O f fun h' f' up=>hQ _ ⟨I.stays f'.1 up hok old hp,B,f',hok,old,hp⟩
theorem XS.own{xe:Value->Shared->Prop}(t:Top X)(x:XS X pins σ H s a cls)(hx:∀ s',XS X pins σ H s' a cls->xe (.ref a) s'):notedBy (model X.prog X.w) X.A X.env (cameBackBy (model X.prog X.w) X.A X.env xe) (.ref a) s:=by
 unfold notedBy;refine x.note t fun s1 x1=>?_;unfold cameBackBy;obtain⟨I,B,f,r⟩:=id x1;refine Za (Q3h f fun T=>?_);rw[Zc (by simp)]
 first
  | exact x1.set fun s2 x2=>hx s2 x2.xs
  | exact Za (Zd (x1.set fun s2 x2=>hx s2 x2.xs))
end
structure XCls(K:Frag)(C:Addr):Prop where
 ex:∃ (B newId initId:String) (bm:List Value),ExcBaseFacts B newId initId bm/\PySem.W.excIn K C bm newId=true
section
variable{X:Cx}{pins:List (Addr×Obj)}{σ:St}{H:Hp}{s:Shared}{a C f:Addr}{cls:Value}{x:Str}{e:Expr}{es:List Expr}{t:TA}{np cpos pos p:Pos}{k:Nat}{fd:FuncData}{ps:List Str}{sp:Sp}{dvs:List V}{ds:List Value}
noncomputable abbrev XR:=Value->St->Hp->Prop
noncomputable def zai(X:Cx)(R:XR):Prop:=∀ pins σ H s a cls,XS X pins σ H s a cls->R cls σ H->X.xe (.ref a) s
noncomputable def tRaise(t:TA)(R:St->Hp->Prop):TS:=fun _ σ H=>t σ H fun vs H1=>vs.length<=sizeLine/\R σ H1
noncomputable def tCallX(sp:Sp)(dvs:List V)(R:XR)(t:TA):TE:=fun σ H Q=>t σ H fun vs H1=>sp (vs++dvs) H1 Q fun cls _ H'=>R cls σ H'
noncomputable def xeOf(X:Cx)(R:XR):Value->Shared->Prop:=fun e s=>∃ pins σ H a cls,e=.ref a/\XS X pins σ H s a cls/\R cls σ H
theorem XS.wish{E:Value->Shared->Prop}(x:XS X pins σ H s a cls):XS (X.wish E) pins σ H s a cls:=⟨x.inv.wish E,x.ex⟩
theorem XS.unwish{E:Value->Shared->Prop}(x:XS (X.wish E) pins σ H s a cls):XS X pins σ H s a cls:=⟨x.inv.unwish,x.ex⟩
theorem Q7e(R:XR):zai (X.wish (xeOf X R)) R:=fun pins σ H s a cls x r=>⟨pins,σ,H,a,cls,rfl,x.unwish,r⟩
noncomputable def handling(X:Cx)(v:Value):Cx:={ X with A:=X.A.mark (some v),calm:=false,xe:=fun _ _=>False }
theorem Inv.handling(I:Inv X pins σ H s):Inv (L2.handling X v) pins σ H s :=
 ⟨⟨I.ok.mod,I.ok.kind,I.ok.glob,I.ok.blt,I.ok.above,I.ok.inj,I.ok.has,I.ok.cab,(fun z=>nomatch z),I.ok.frames,I.ok.stk,I.ok.exf,I.ok.bs,I.ok.bsz,I.ok.noex,I.ok.exfs,I.ok.funs,I.ok.frf⟩,I.os,I.bare,I.base,I.loc,I.cell,I.free,I.freeC,I.pin,I.hok,I.len⟩
noncomputable abbrev Cx.holds(X:Cx)(pins:List (Addr×Obj))(E:Value->Shared->Prop):Cx:={ X with pn:=X.pn++pins,xe:=E }
theorem Cx.Ok.holds(ok:X.Ok)(pins:List (Addr×Obj))(E:Value->Shared->Prop):(X.holds pins E).Ok :=
 ⟨ok.mod,ok.kind,ok.glob,ok.blt,ok.above,ok.inj,ok.has,ok.cab,ok.hd,ok.frames,ok.stk,ok.exf,ok.bs,ok.bsz,ok.noex,ok.exfs,ok.funs,ok.frf⟩
theorem Inv.holds(I:Inv X pins σ H s)(E:Value->Shared->Prop):Inv (X.holds pins E) [] σ H s :=
 ⟨I.ok.holds pins E,I.os,I.bare,I.base,I.loc,I.cell,I.free,I.freeC,fun p hp=>I.pin p (by simpa using hp),I.hok,I.len⟩
noncomputable def tTry(C:Addr)(tb:XR->TS)(th:TS):TS:=fun D σ H=>tb (fun cls σ' H'=>cls=.ref C/\th D σ' H') D σ H
end
section
variable{X:Cx}{pins:List (Addr×Obj)}{σ:St}{H:Hp}{s:Shared}{scope:Scope}{N fn:List Str}{k:Nat}{ix:List Nat}{elt tg iter:Expr}{ifs:List Expr}{pos:Pos}{g:TG}{tc:TT}{te:TE}
theorem Q2e{EX:List (Str×Addr)->Addr->Shared->Hp->List Addr->Value->Shared->Prop}{tn:Nat->Heap->Prop}{RR:Value->Addr->Result->Shared->Prop}{E:Value->Shared->Prop}{R:List V->Hp->Prop}
  (hc:X.calm=true) (ok:zav X.env.scope scope N k fn) (hix:ix.map (fun i=>X.N[i]?)=fn.map some)
  (hg:∀ cl C s₀ H₀ ex,PG (za2 X scope N cl C s₀ H₀ ex (EX cl C s₀ H₀ ex)) tg g) (ht:∀ cl C s₀ H₀ ex,PIfs (za2 X scope N cl C s₀ H₀ ex (EX cl C s₀ H₀ ex)) ifs tc) (he:∀ cl C s₀ H₀ ex,PE (za2 X scope N cl C s₀ H₀ ex (EX cl C s₀ H₀ ex)) elt te)
  (p1:∀ y c,cl.lookup y=some c->X.env.cells.lookup y=some c) (p2:∀ y∈scope.names,y.2=.free->∃ c,cl.lookup y.1=some c)
  (I2:Inv X pins σ H s) (T:Turn X.prog X.w X.K tg J fp it tn) (st2:tn 0 s.heap) (f2:∀ b∈fp,FpOk X pins H b)
  (W:Nat->Nat->List V->Hp->Prop) (w0:∃ m,W 0 m [] H)
  (turn:∀ i m ys H,W i m ys H ->
   (J.stop i H/\ys.length<=sizeLine/\R ys H) \/
   (J.go i H/\∀ y H',J.yld i H y H'->g y (List.replicate k none++ix.map (fun i=>(σ[i]?).getD none)) H' fun σ2 H2=>σ2.drop k=ix.map (fun i=>(σ[i]?).getD none)/\σ2.length=k+ix.length/\tc σ2 H2 fun b H3 =>
    if b=true then te σ2 H3 fun z H4=>ys.length<sizeLine/\∃ m',m'<m/\W (i+1) m' (ys++[z]) H4 else ∃ m',m'<m/\W (i+1) m' ys H3))
  (hE:∀ acc C e s',EX cl C s H fp e s'->notedBy (model X.prog X.w) X.A (compEnvC scope cl C X.env) (fun e s'=>RR (.ref acc) C (.error e) s') e s')
  (fin:∀ ys a C H' s' m,H' a=none->R ys H'->Inv X pins σ (upd H' a (.lst ys)) s'->FpOk X pins (upd H' a (.lst ys)) C->s'.heap.Ns C m->RR (.ref a) C (.ok .next) s') :
  wpAny (model X.prog X.w) X.A (newList []) (fun acc s₃=>wpAny (model X.prog X.w) X.A (newFunctionEnv scope X.env.globals cl [] X.env.qual none .none (some X.env)) (fun cenv s₄ =>
   codeAny (model X.prog X.w) X.A (.compStart (.ListComp elt [⟨tg,iter,ifs,0⟩] scope pos) 0 (.ref it) acc { cenv with scope:=relabel scope X.env }) (RR acc cenv.locals) s₄) E s₃) E s:=by
 refine Yl (wpAny_newFunctionEnv ok.cell (by intro y hy;simp at hy) (fun h₁ hns₁ hsb₁=>?_) ok.kind)
 dsimp only at hns₁ hsb₁ ⊢;generalize hH2:s.heap.push { cls:=.type "list",dict:=none,data:=.seq ([]:List Value).toArray }=Hp2 at hns₁ hsb₁ ⊢;have hC:Hp2.objs.size=s.heap.objs.size+1:=by rw[<- hH2,Heap.size_push]
 have hDC:s.heap.objs.size≠Hp2.objs.size:=by rw[hC];exact ZO (Nat.lt_succ_self _)
 have hCle:s.heap.objs.size<=Hp2.objs.size:=by rw[hC];exact le_succ _
 have old:∀ b o,s.heap.get? b=some o->h₁.get? b=some o:=fun b o e=>hsb₁.extBut b o (by have:=Zr e;rw[hC];exact ZO (Nat.lt_succ_of_lt this)) (Zm _ (hH2 ▸ Zm _ e))
 have hacc:h₁.PlainList s.heap.objs.size #[]:=⟨_,hsb₁.extBut _ _ hDC (Zm _ (hH2 ▸ Z1 _ rfl))⟩;have hlt:∀ b∈fp,b<s.heap.objs.size:=fun b hb=>by
  obtain⟨o,e,_⟩:=T.obj _ _ st2 b hb;exact Zr e
 have hns0:h₁.Ns Hp2.objs.size fun _=>none:=by simpa using hns₁
 have I4:Inv (za2 X scope N cl Hp2.objs.size s H fp (EX cl Hp2.objs.size s H fp)) [] (List.replicate k none++zb0 X σ ix) H { s with heap:=h₁,toks:=s.toks+([]:List (Str×Value)).length } :=
  I2.comp ok hix p1 p2 hCle hns0 old f2 hlt
 generalize hCC:Hp2.objs.size=C at *;generalize hAA:s.heap.objs.size=acc at *;have hix2:ix.length=fn.length:=by have:=congrArg List.length hix;simpa using this
 -- what stays true of the iterator's objects and of the list
 have fpX:∀ {pins':List (Addr×Obj)} {H':Hp} {b:Addr},b∈fp->H' b=none->FpOk (za2 X scope N cl C s H fp (EX cl C s H fp)) [] H' b:=fun{pins' H' b} hb hn =>
  ⟨hn,(I4.ok.exf b hb).1,I4.ok.exfs b hb,.inl hb,(I4.ok.exf b hb).2,fun p hp=>absurd hp Z4⟩
 have accX:∀ {H':Hp},H' acc=none->FpOk (za2 X scope N cl C s H fp (EX cl C s H fp)) [] H' acc:=fun{H'} hn =>
  ⟨hn,hDC,fun z=>by
   have h1:=I2.stkSub acc z;rcases Zw.mp h1 with q | q
   ·exact absurd I2.lt (by rw[hAA,q];exact lt_irrefl _)
   ·exact I2.nofs (le_of_eq hAA) q,.inr (le_of_eq hAA),fun x c e=>by
   obtain⟨v,o,ho,_⟩:=I2.cell x c (p1 x c e);have:=Zr ho;rw[hAA]at this;exact ZO this,fun p hp=>absurd hp Z4⟩
 have loop:∀ s₃:Shared,s₃={ s with heap:=h₁,toks:=s.toks+([]:List (Str×Value)).length } ->
   codeAny (model X.prog X.w) X.A (.compLoop (.ListComp elt [⟨tg,iter,ifs,0⟩] scope pos) 0 (.ref it) (.ref acc) (compEnvC scope cl C X.env)) (RR (.ref acc) C) s₃:=by
  rintro s₃ rfl;obtain⟨m0,w0⟩:=w0;refine Q7a (EE:=EX cl C s H fp) (fun n s'=>∃ i ys its H',Inv (za2 X scope N cl C s H fp (EX cl C s H fp)) [] (List.replicate k none++zb0 X σ ix) H' s'/\tn i s'.heap/\(∀ b∈fp,H' b=none)/\H' acc=none/\s'.heap.PlainList acc its.toArray/\Vals ys its/\W i n ys H')
   (fun e s' q=>hE acc C e s' q) ?_ m0 ⟨0,[],[],H,I4,T.keep _ _ _ st2 fun b _ o e=>old b o e,fun b hb=>(f2 b hb).1,I2.hok.fresh (le_of_eq hAA),hacc,.nil,w0⟩
  rintro n s3 ⟨i,ys,its,H3,I3,st3,fr3,an3,pl3,rv3,w3⟩;obtain⟨nl,pe3⟩:=id pl3;have neA:∀ b∈fp,acc≠b:=fun b hb=>by have:=hlt b hb;exact Ne.symm (ZO this)
  have mA:(acc,({ cls:=.type "list",data:=.seq its.toArray nl }:Obj))∈zas [acc] s3.heap:=Q0Z Zv pe3;have ofA:∀ p∈zas [acc] s3.heap,p.1=acc:=fun p hp=>Zp.mp (Q2X hp).1;have I3p:Inv (za2 X scope N cl C s H fp (EX cl C s H fp)) (zas [acc] s3.heap) (List.replicate k none++zb0 X σ ix) H3 s3 :=
   I3.pinned (fp:=[acc]) (fun b hb=>by rw[Zp.mp hb];exact accX an3) (fun b hb=>by
    rw[Zp.mp hb];exact⟨_,pe3,fun v z=>nomatch z⟩)
  have fpP:∀ {H':Hp} {b:Addr},b∈fp->H' b=none->FpOk (za2 X scope N cl C s H fp (EX cl C s H fp)) (zas [acc] s3.heap) H' b:=fun{H' b} hb hn =>
   ⟨hn,(I4.ok.exf b hb).1,I4.ok.exfs b hb,.inl hb,(I4.ok.exf b hb).2,fun p hp=>by
    have hp':p∈([]:List (Addr×Obj))++zas [acc] s3.heap:=hp;rw[ofA p (by simpa using hp')];exact neA b hb⟩
  rcases turn i n ys H3 w3 with ⟨stop,hz,q⟩ | ⟨go,step⟩
  ·refine thn (T.done (za2 X scope N cl C s H fp (EX cl C s H fp)) rfl rfl rfl hc i _ s3 _ H3 (EX cl C s H fp) I3p (fun b hb=>fpP hb (fr3 b hb)) st3 stop) fun r s4 ⟨hr,I4'⟩=>?_;subst hr;have pl4:s4.heap.PlainList acc its.toArray:=⟨nl,(I4'.pin _ (Zu _ mA)).1⟩;have Ix:=I2.uncomp (acc:=acc) I4' f2 (le_of_eq hAA) an3 pl4 rv3 hz;obtain⟨m,hm,_⟩:=I4'.loc;refine fin ys acc C H3 s4 m an3 q Ix ⟨?_,?_,?_,?_,?_,?_⟩ hm
   ·rw[Q0g (Ne.symm hDC)];exact I4'.free
   ·exact Ne.symm (ZO (Z2 I2.lt (by rw[hAA];exact hCle)))
   ·exact I2.nofs (by rw[hAA];exact hCle)
   ·exact .inr (Z3 I2.sz (by rw[hAA];exact hCle))
   ·intro x c e;obtain⟨v,o,ho,_⟩:=I2.cell x c e;have:=Zr ho;rw[hAA]at this;exact ZO (Z2 this hCle)
   ·intro p hp;have:=Zr (I2.pin p hp).1;rw[hAA]at this;exact ZO (Z2 this hCle)
  ·refine thn (T.item (za2 X scope N cl C s H fp (EX cl C s H fp)) rfl rfl rfl hc i _ s3 _ H3 (EX cl C s H fp) I3p (fun b hb=>fpP hb (fr3 b hb)) st3 go) fun r s4 ⟨u,hr,h4⟩=>?_;subst hr;refine thn h4 fun _ s5 ⟨x,H5,I5,r5,y5,st5,fr5⟩=>?_;have I5':=I5.pinned (fun b hb=>fpP hb (fr5 b hb)) (T.obj _ _ st5);refine thn (hg _ _ _ _ _ _ s5 _ H5 x u _ I5' r5 (step x H5 y5)) fun _ s6 ⟨σ6,H6,I6,hσ6,hl6,q6⟩=>?_;have back:∀ {s7:Shared} {H7:Hp},Inv (za2 X scope N cl C s H fp (EX cl C s H fp)) (zas [acc] s3.heap++zas fp s5.heap) σ6 H7 s7 ->
     Inv (za2 X scope N cl C s H fp (EX cl C s H fp)) [] (List.replicate k none++zb0 X σ ix) H7 s7/\tn (i+1) s7.heap/\(∀ b∈fp,H7 b=none)/\H7 acc=none/\s7.heap.PlainList acc its.toArray:=fun{s7 H7} I7=>by
    refine⟨(I7.pins_of (pins':=[]) (fun p hp=>absurd hp Z4)).weak ?_ ?_,T.keep _ _ _ st5 fun b hb o e=>(I7.pin (b,o) (Zu _ (Zu _ (Q0Z hb e)))).1,fun b hb=>?_,?_,?_⟩
    ·unfold zb0;rw[Zl,length_replicate,Zb,hl6]
    ·intro j v hj;by_cases hjk:j<k
     ·rw[getElem?_append_left (by simpa using hjk),List.getElem?_replicate_of_lt hjk]at hj
      cases hj
     ·have hjk':k<=j:=le_of_not_lt hjk;rw[getElem?_append_right (by simpa using hjk'),length_replicate]at hj
      have e:(σ6.drop k)[j-k]? = σ6[j]?:=by rw[getElem?_drop];congr 1;omega
      rw[<- e,hσ6];exact hj
    ·obtain⟨o,e,d⟩:=T.obj _ _ st5 b hb;exact (I7.pin (b,o) (Zu _ (Zu _ (Q0Z hb e)))).2.1
    ·exact (I7.pin _ (Zu _ (mem_append_left _ mA))).2.1
    ·exact⟨nl,(I7.pin _ (Zu _ (mem_append_left _ mA))).1⟩
   refine thn (ht _ _ _ _ _ _ s6 σ6 H6 _ I6 q6) fun ok s7 ⟨H7,I7,q7⟩=>?_;cases ok with
   | false =>
    have q7':∃ m',m'<n/\W (i+1) m' ys H7:=by simpa using q7
    obtain⟨m',hm',w7⟩:=q7';obtain⟨J7,t7,f7,a7,p7⟩:=back I7;exact (Zc Zy).mpr ⟨m',hm',i+1,ys,its,H7,J7,t7,f7,a7,p7,rv3,w7⟩
   | true =>
    refine (Zg rfl).mpr ?_;have q7':te σ6 H7 fun z H4=>ys.length<sizeLine/\∃ m',m'<n/\W (i+1) m' (ys++[z]) H4:=by simpa using q7
    refine thn (he _ _ _ _ _ _ s7 σ6 H7 _ I7 q7') fun uz s8 zz=>?_;obtain⟨z,H8,I8,r8,hz8,m',hm',w8⟩:=zz;obtain⟨J8,t8,f8,a8,p8⟩:=back I8;have hlen:=rv3.length;refine wpAny_list_append_plain (hsz:=by rw[Z9,<- hlen];exact le_of_lt hz8) p8 fun h9 pl9 sb9=>?_
    obtain⟨x0,x1,x2,x3,x4,x5⟩:=accX a8;refine⟨m',hm',i+1,ys++[z],its++[uz],H8,J8.turned (t':=s8.toks) (fun b o hb e=>(sb9.2 b hb).trans e) x0 x1 x3 x4 x5,T.keep _ _ _ t8 fun b hb o e=>(sb9.2 b (Ne.symm (neA b hb))).trans e,f8,a8,?_,rv3.append (.cons r8 .nil),w8⟩;simpa using pl9
 exact codeAny_compStart_list (loop _ rfl) (T.self _ _ _ _ _ (T.keep _ _ _ st2 fun b _ o e=>old b o e) (loop _ rfl))
theorem Q1P{h h' b b':Heap}:∀ {l:List Env},h.FunFrames b l->(∀ x∈frs l,b'.get? x=none)->(∀ x∈frs l,∀ o,h.get? x=some o->h'.get? x=some o)->h'.FunFrames b' l
 | [],_,_,_=>trivial
 | env::r,⟨hk,⟨L,o,hf,hn,ho,hd⟩,hr⟩,hb,hc=>by
  have hL:L∈frs (env::r):=by unfold frs;rw[filterMap_cons,hf];exact Zv
  have tl:∀ x∈frs r,x∈frs (env::r):=fun x hx=>by
   unfold frs at hx ⊢;rw[filterMap_cons,hf];exact Zk _ hx
  exact⟨hk,⟨L,o,hf,hb L hL,hc L hL o ho,hd⟩,Q1P hr (fun x hx=>hb x (tl x hx)) fun x hx=>hc x (tl x hx)⟩
theorem XS.uncomp{Rp:XR}{cl:List (Str×Addr)}{C:Addr}{fp:List Addr}{use:Option (Value->Sem Unit)}{Q:Value->Shared->Prop}{acc e:Value}{s':Shared}(hx:zai X Rp)(tp:Top X)(I2:Inv X pins σ H s)(f2:∀ b∈fp,FpOk X pins H b)
  (q:xeOf (za2 X scope N cl C s H fp XF) (fun cls _ H'=>Rp cls σ H') e s') :
  notedBy (model X.prog X.w) X.A (compEnvC scope cl C X.env) (fun e s'=>compPost (model X.prog X.w) X.A X.xe use Q acc C (.error e) s') e s':=by
 obtain⟨pins',σ',H',a,cls,rfl,x,r⟩:=q;have tp':Top (za2 X scope N cl C s H fp XF):=by
  obtain⟨e0,rr,L,h1,h2,h3⟩:=tp.ex;exact⟨e0,rr,L,h1,h2,h3⟩
 unfold notedBy;refine XS.note (X:=za2 X scope N cl C s H fp XF) tp' x fun s1 x1=>?_;obtain⟨I',B,⟨f1,f2',f3,a0,fl,oe,vs,T,oT,ts,he,hcls,hd,hv1,hnT,hTe,hT,hdT,h3⟩,hok,old,hp⟩:=x1;obtain⟨m,hm,_⟩:=I'.loc;have hm':s1.heap.Ns C m:=hm;refine⟨m,hm',fun h' sb cenv hcenv=>?_⟩;obtain⟨oC,es,ep,hC,hdC,_⟩:=id hm';have aC:a≠C:=fun z=>by rw[z,hC]at he;cases he;rw[hdC]at hd;cases hd
 have TC:T≠C:=fun z=>by rw[z,hC]at hT;cases hT;rw[hdC]at hdT;cases hdT
 have Cge:s.heap.objs.size<=C:=I'.ok.above;have ltC:∀ {b:Addr} {o:Obj},s.heap.get? b=some o->b≠C:=fun e=>ZO (Z2 (Zr e) Cge);have frC:∀ b∈frs X.stack,b≠C:=fun b hb=>by
  obtain⟨_,o,ho,_⟩:=I2.stack.mem hb;exact ltC ho
 have up:∀ b o,b≠C->s1.heap.get? b=some o->h'.get? b=some o:=fun b o hb e=>(sb.2 b hb).trans e;have stays:(zak B [C]).StaysIn h':=fun b o e=>by
  rw[Q0M]at e;split at e
  ·cases e
  ·rename_i hb;exact up b o (fun z=>hb (by simp[z])) (f1 b o e)
 have sub:∀ {b:Addr},B.get? b=none->(zak B [C]).get? b=none:=fun e=>by rw[Q0M];split <;> first | rfl | exact e
 have fly':FlyT (zak B [C]) X.stack a cls h':=⟨stays,sub f2',Q1P (l:=X.stack) f3 (fun x hx=>by
   obtain⟨hn,_⟩:=f3.mem hx;exact sub hn) (fun x hx o e=>up x o (frC x hx) e),a0,fl,oe,vs,T,oT,ts,up _ _ aC he,hcls,hd,hv1,sub hnT,hTe,up _ _ TC hT,hdT,h3⟩
 have old':zbZ (X.fs++X.ex) X.H₀ X.s₀.heap (zak B [C]):=fun b o e hb=>by
  rw[Z0]at hb;obtain⟨o1,e1⟩:=I2.base.there b o e fun z=>hb (.inr z);have hfp:b∉fp:=fun z=>by
   obtain⟨_,_,_,z1,_⟩:=f2 b z;rcases z1 with z1 | z1
   ·exact hb (.inr z1)
   ·exact absurd (Zr e) (Nat.not_lt.mpr z1)
  obtain⟨o2,e2,h2⟩:=old b o1 e1 fun z=>by
   rcases Z0.mp z with z | z
   ·exact I2.notStk e (fun z=>hb (.inl z)) z
   ·exact hfp z
  refine⟨o2,by rw[Q0s (by simpa using ltC e1)];exact e2,fun hn=>?_⟩
  have k1:=I2.base.keep b o e hn (fun z=>hb (.inl z)) fun z=>hb (.inr z);rw[e1]at k1;cases k1;exact h2 (I2.base.free b o e hn fun z=>hb (.inr z))
 have pin':∀ p∈X.pn++pins,(zak B [C]).get? p.1=some p.2:=fun p hpm=>by
  obtain⟨p1,p2,p3,p4,p5⟩:=I2.pin p hpm;obtain⟨o2,e2,h2⟩:=old p.1 p.2 p1 fun z=>by
   rcases Z0.mp z with z | z
   ·rcases Zw.mp (I2.stkSub _ z) with q | q
    ·exact p3 q
    ·exact p4 q
   ·exact (f2 p.1 z).2.2.2.2.2 p hpm rfl
  rw[Q0s (by simpa using ltC p1),e2,h2 p2]
 have hok':HOk X.prog X.w H' (zak B [C]):=fun b u e=>by
  have nC:∀ {c:Addr} {v:HO},H' c=some v->c∉[C]:=fun{c v} e z=>by
   have hz:c=C:=by simpa using z
   have:H' C=none:=I'.free;rw[hz,this]at e;cases e
  refine (hok b u e).stay (fun c v hc e'=>?_) (fun _ z=>z) fun _ _ z=>z;rcases hc with rfl | hc
  ·rw[Q0s (nC e)];exact e'
  ·rw[Q0s (nC hc)];exact e'
 have fin:∀ h2,FlyT (zak B [C]) X.stack a cls h2->h'.UpToSlots h2->X.xe (.ref a) { s1 with heap:=h2 }:=fun h2 fl2 up2=>by
  have b0:Un (frs X.stack) fp H H' s.heap s1.heap:=I'.base;have keep:∀ b o,s.heap.get? b=some o->b∉frs X.stack->b∉fp->∃ o',h2.get? b=some o'/\(H b=none->o'=o):=fun b o e n1 n2=>by
   obtain⟨o2,e2,q2⟩:=old b o e fun z=>(Z0.mp z).elim n1 n2;exact⟨o2,fl2.1 b o2 (by rw[Q0s (by simpa using ltC e)];exact e2),q2⟩
  have slot:∀ b o,s.heap.get? b=some o->H b=none->b∈frs X.stack->b∉fp->∃ sl,h2.get? b=some { o with slots:=sl }:=fun b o e n h1 n2=>by
   obtain⟨sl,e1⟩:=b0.slot b o e n h1 n2;obtain⟨_,o2,e2,nf⟩:=I2.stack.mem h1;rw[e]at e2;cases e2;obtain⟨sl',e3⟩:=up2 b _ (up b _ (frC b h1) e1) nf;exact⟨sl',e3⟩
  have un:Un (frs X.stack) fp H H' s.heap h2:=⟨fun b o e n n1 n2=>by
    obtain⟨o',e',q'⟩:=keep b o e n1 n2;rw[q' n]at e';exact e',slot,b0.free,fun b o e n2=>by
    by_cases n1:b∈frs X.stack
    ·obtain⟨sl,e'⟩:=slot b o e (I2.stkFree b n1) n1 n2;exact⟨_,e'⟩
    ·obtain⟨o',e',_⟩:=keep b o e n1 n2;exact⟨o',e'⟩,b0.tups,b0.frzs,b0.tbls⟩
  have I3:Inv X pins σ H' { s1 with heap:=h2 }:=I2.call' (s':={ s1 with heap:=h2 }) I'.os un (hok'.kept fl2.1) I'.bare fun b hb=>⟨(f2 b hb).2.2.2.1,(f2 b hb).2.1,(f2 b hb).2.2.2.2.1,(f2 b hb).2.2.2.2.2⟩;exact hx pins σ H' _ a cls ⟨I3,zak B [C],.inl fl2,hok',old',pin'⟩ r
 unfold PySem.passOn;refine Za (Q3h (s:={ s1 with heap:=h' }) fly' fun T'=>?_);rw[Zc (by simp)]
 first
  | exact Za (Q3O (s:={ s1 with heap:=h' }) fly' fun h2 fl2 up2=>wpAny_throw (fin h2 fl2 up2))
  | exact Za (Zd (Za (Q3O (s:={ s1 with heap:=h' }) fly' fun h2 fl2 up2=>wpAny_throw (fin h2 fl2 up2))))
theorem Q1p(R:XR):zai (za2 X scope N cl C s₀ H₀ ex (xeOf (za2 X scope N cl C s₀ H₀ ex XF) R)) R :=
 Q7e (X:=za2 X scope N cl C s₀ H₀ ex XF) R
section
variable{R0:Value->Hp->Prop}{wi:TI}
theorem Q4h(tp:Top X)(hx:zai X fun cls _ H=>R0 cls H)(hc:X.calm=true)(ok:zav X.env.scope scope N k fn)(hix:ix.map (fun i=>X.N[i]?)=fn.map some)(hi:PI X tg iter wi)
  (hg:∀ cl C s₀ H₀ ex E,PG (za2 X scope N cl C s₀ H₀ ex E) tg g) (ht:∀ cl C s₀ H₀ ex E,zai (za2 X scope N cl C s₀ H₀ ex E) (fun cls _ H=>R0 cls H)->PIfs (za2 X scope N cl C s₀ H₀ ex E) ifs tc) (he:∀ cl C s₀ H₀ ex E,zai (za2 X scope N cl C s₀ H₀ ex E) (fun cls _ H=>R0 cls H)->PE (za2 X scope N cl C s₀ H₀ ex E) elt te)
  (hs:∀ x,foldedSetIterable iter X.env x=pure x:=by intro _;rfl):PE X (.ListComp elt [⟨tg,iter,ifs,0⟩] scope pos) (tComp wi k ix g tc te):=by
 intro pins s σ H Q I h;obtain⟨cl,hcl,p1,p2⟩:=Q5v I ok;rw[eval_ListComp];refine wpAny_comprehension_free (use:=none) rfl hs hcl ok.kind ok.names (thn (hi pins s σ H _ I h) fun v s1 h1=>thn h1 fun itv s2 h2=>?_);obtain⟨it,fp,tn,J,H2,e,I2,T,st2,f2,W,w0,turn⟩:=h2;subst e;refine Q2e (EX:=fun cl C s₀ H₀ ex=>xeOf (za2 X scope N cl C s₀ H₀ ex XF) fun cls _ H'=>R0 cls H') (RR:=fun acc C=>compPost (model X.prog X.w) X.A X.xe none (EP X pins σ Q) acc C) (R:=fun ys H=>∀ a,H a=none->Q (.ref a) (upd H a (.lst ys))) hc ok hix
  (fun cl C s₀ H₀ ex=>hg cl C s₀ H₀ ex _) (fun cl C s₀ H₀ ex=>ht cl C s₀ H₀ ex _ (Q1p _)) (fun cl C s₀ H₀ ex=>he cl C s₀ H₀ ex _ (Q1p _)) p1 p2 I2 T st2 f2 W w0 turn (fun acc C e s' q=>XS.uncomp (Rp:=fun cls _ H=>R0 cls H) hx tp I2 f2 q) ?_
 intro ys a C H' s' m ha q I' fC hm;refine⟨m,hm,fun h' sb=>⟨.ref a,_,?_,rfl,q a ha⟩⟩;obtain⟨x0,x1,x2,x3,x4,x5⟩:=fC;exact I'.turned (t':=s'.toks) (fun b o hb e=>(sb.2 b hb).trans e) x0 x1 x3 x4 x5
theorem Q2f(tp:Top X)(hx0:zai X fun cls _ H=>R0 cls H)(hsw:swapsWith (.ListComp elt [⟨tg,iter,ifs,0⟩] scope pos) (some (.Name x pos')) spos.line X.env=pure true)
  (hN:X.N.Nodup) (hiN:X.N[i]? = some x) (hx:X.env.scope.names.lookup x=some .local) (hc:X.calm=true) (ok:zav X.env.scope scope N k fn) (hix:ix.map (fun i=>X.N[i]?)=fn.map some) (hi:PI X tg iter wi)
  (hg:∀ cl C s₀ H₀ ex E,PG (za2 X scope N cl C s₀ H₀ ex E) tg g) (ht:∀ cl C s₀ H₀ ex E,zai (za2 X scope N cl C s₀ H₀ ex E) (fun cls _ H=>R0 cls H)->PIfs (za2 X scope N cl C s₀ H₀ ex E) ifs tc) (he:∀ cl C s₀ H₀ ex E,zai (za2 X scope N cl C s₀ H₀ ex E) (fun cls _ H=>R0 cls H)->PE (za2 X scope N cl C s₀ H₀ ex E) elt te)
  (hs:∀ x,foldedSetIterable iter X.env x=pure x:=by intro _;rfl):PS X (.Assign [.Name x pos'] (.ListComp elt [⟨tg,iter,ifs,0⟩] scope pos) spos) (tAsg (tComp wi k ix g tc te) (zaR i)):=by
 intro pins s σ H D I h;obtain⟨cl,hcl,p1,p2⟩:=Q5v I ok;rw[exec_Assign_Name_used _ _ _ _ hsw];refine Za (wpAny_standAt (Za ?_));show wpAny _ X.A (do let _ <- comprehension (.ListComp elt [⟨tg,iter,ifs,0⟩] scope pos) scope X.env _ (newList []) false (eval iter X.env) (some (assign (.Name x pos') X.env))) _ _ s
 refine Za (ZY (wpAny_comprehension_free (use:=some (assign (.Name x pos') X.env)) (Q:=fun _ s'=>SP X pins D .next s') rfl hs hcl ok.kind ok.names
  (thn (hi pins s σ H _ I h) fun v s1 h1=>thn h1 fun itv s2 h2=>?_)) (fun _ s' hq=>Zd (Zd hq)) fun _ _ e=>e)
 obtain⟨it,fp,tn,J,H2,e,I2,T,st2,f2,W,w0,turn⟩:=h2;subst e;refine Q2e (EX:=fun cl C s₀ H₀ ex=>xeOf (za2 X scope N cl C s₀ H₀ ex XF) fun cls _ H'=>R0 cls H') (RR:=fun acc C=>compPost (model X.prog X.w) X.A X.xe (some (assign (.Name x pos') X.env)) (fun _ s'=>SP X pins D .next s') acc C) (R:=fun ys H=>∀ a,H a=none->D.nx (σ.set i (some (.ref a))) (upd H a (.lst ys))) hc ok hix
  (fun cl C s₀ H₀ ex=>hg cl C s₀ H₀ ex _) (fun cl C s₀ H₀ ex=>ht cl C s₀ H₀ ex _ (Q1p _)) (fun cl C s₀ H₀ ex=>he cl C s₀ H₀ ex _ (Q1p _)) p1 p2 I2 T st2 f2 W w0 turn (fun acc C e s' q=>XS.uncomp (Rp:=fun cls _ H=>R0 cls H) hx0 tp I2 f2 q) ?_
 intro ys a C H' s' m ha q I' fC hm;obtain⟨x0,x1,x2,x3,x4,x5⟩:=fC;show wpAny _ X.A (assign (.Name x pos') X.env (.ref a)) _ _ s';refine wpAny_assign_Name (Q2V I' hN hiN (.inl hx) (v:=.ref a) rfl (fun s'' I'' ⟨b,sb,hb⟩=>?_) (.inr hx));have hCb:C≠b:=by
  rcases hb with z | z
  ·rw[z];exact x1
  ·exact fun w=>x4 _ _ z w.symm
 refine⟨m,hm.sameBut sb hCb,fun h' sb2=>⟨_,_,I''.turned (t':=s''.toks) (fun b o hb e=>(sb2.2 b hb).trans e) x0 x1 x3 x4 x5,q a ha⟩⟩
end
end
structure XLook(K:Frag)(D:Addr):Prop where
 cls0:PySem.W.isClsIn K D=true
 ga:findIn K (.ref D) "__getattribute__" = some (some (.builtin "BaseException.__getattribute__"))
 gh:findIn K (.ref D) "__getattr__" = some none
 ca:findIn K (.ref D) "__class__" = some (some (.builtin "object.__class__"))
 gg:PySem.W.specialIn K (.builtin "object.__class__") "__get__" = some (some (.builtin "getset_descriptor.__get__"))
 tk:PySem.W.takesIn K (.builtin "object.__class__")=some true
 ob:PySem.W.mroIn K D (.type "object")=some true
 be:PySem.W.mroIn K D (.type "BaseException")=some true
 ty:PySem.W.typeIn K (.ref D)=some (.type "type")
 self:PySem.W.mroIn K D (.ref D)=some true
theorem XLook.cls{K:Frag}{D:Addr}(L:XLook K D):(PySem.W.clsIn K D).isSome=true:=L.cls0
noncomputable def XAt(D x:Addr)(h:Heap):Prop:=∃ o,h.get? x=some o/\o.cls=.ref D
theorem XAt.look(I:XAt D x h):PySem.W.Looks M h (typeOf (.ref x)) (.ref D):=by
 obtain⟨o,e,c⟩:=I;exact c ▸ PySem.W.Looks.andThen (PySem.W.Looks.ld e) PySem.W.Looks.now
section
variable{prog:Program}{w:World}{A:Around}{E:Value->Shared->Prop}{s:Shared}{K:Frag}{x D:Addr}
end
section
variable{X:Cx}{pins:List (Addr×Obj)}{σ:St}{H:Hp}{s:Shared}{a C f:Addr}{cls:Value}{x:Str}{np cpos pos p:Pos}
noncomputable abbrev handlingAs(X:Cx)(a:Addr)(oe:Obj):Cx:={ L2.handling X (.ref a) with pn:=X.pn++[(a,oe)] }
theorem Inv.handlingAs(I:Inv X pins σ H s)(h:s.heap.get? a=some oe/\H a=none/\a≠X.env.locals/\a∉X.fs/\∀ v,oe.data≠.cell v):Inv (L2.handlingAs X a oe) pins σ H s :=
 ⟨⟨I.ok.mod,I.ok.kind,I.ok.glob,I.ok.blt,I.ok.above,I.ok.inj,I.ok.has,I.ok.cab,(fun z=>nomatch z),I.ok.frames,I.ok.stk,I.ok.exf,I.ok.bs,I.ok.bsz,I.ok.noex,I.ok.exfs,I.ok.funs,I.ok.frf⟩,I.os,I.bare,I.base,I.loc,I.cell,I.free,I.freeC,
  fun p hp=>by
   have hp':p∈(X.pn++[(a,oe)])++pins:=hp;rcases Z0.mp hp' with hp | hp
   ·rcases Z0.mp hp with hp | hp
    ·exact I.pin p (mem_append_left _ hp)
    ·rw[Zp.mp hp];exact h
   ·exact I.pin p (Zu _ hp),I.hok,I.len⟩
noncomputable def Ends.gone(D:Ends)(i:Nat):Ends:=⟨fun σ H=>D.nx (σ.set i none) H,D.rt,fun σ H=>D.bk (σ.set i none) H,fun σ H=>D.ct (σ.set i none) H⟩
noncomputable def tTryAs(je:Nat)(ok:Addr->Prop)(tb:XR->TS)(th:Addr->Addr->TS):TS:=fun D σ H=>tb (fun cls σ' H'=>∃ C,cls=.ref C/\ok C/\∀ a,th C a (D.gone je) (σ'.set je (some (.ref a))) H') D σ H
end
section
variable{κ:Type}[DecidableEq κ]
noncomputable def valV(kvs:List (κ×V))(k:κ):Option V:=(kvs.find? fun kv=>decide (kv.1=k)).map (·.2)
noncomputable def putK(kvs:List (κ×V))(k:κ)(v:V):List (κ×V) :=
 if (kvs.any fun kv=>decide (kv.1=k))=true then kvs.map (fun kv=>if kv.1=k then (kv.1,v) else kv) else kvs++[(k,v)]
noncomputable def dropK(kvs:List (κ×V))(k:κ):List (κ×V):=kvs.filter fun kv=>decide (kv.1≠k)
theorem Q1B{p:κ×V}{r:List (κ×V)}{k:κ}(e:p.1=k):valV (p::r) k=some p.2:=by simp[valV,find?_cons,e]
theorem Q1C{p:κ×V}{r:List (κ×V)}{k:κ}(e:¬ p.1=k):valV (p::r) k=valV r k:=by simp[valV,find?_cons,e]
theorem Q1V(k:κ):∀ kvs:List (κ×V),(kvs.any fun kv=>decide (kv.1=k))=(valV kvs k).isSome
 | []=>rfl
 | p::r=>by
  rw[any_cons];by_cases e:p.1=k
  ·simp only[Q1B e,Zo e,Bool.true_or,Option.isSome_some]
  ·rw[Q1C e,Z5 e,Bool.false_or];exact Q1V k r
theorem Q0x(kvs:List (κ×V))(k:κ)(v:V):(putK kvs k v).length<=kvs.length+1:=by
 unfold putK;split
 ·rw[Zb];omega
 ·rw[Zl,Zi,Z8];omega
theorem RelO.isSome_eq(r:RelO o u):o.isSome=u.isSome:=by
 cases o with
 | none=>cases u with
  | none=>rfl
  | some _=>exact (show False from r).elim
 | some _=>cases u with
  | none=>exact (show False from r).elim
  | some _=>rfl
theorem RelO.getD(r:RelO o u)(rd:RelV d d'):RelV (o.getD d) (u.getD d'):=by
 cases o with
 | none=>cases u with
  | none=>exact rd
  | some _=>exact (show False from r).elim
 | some _=>cases u with
  | none=>exact (show False from r).elim
  | some _=>exact r
theorem KV.val{kvs:List (κ×V)}{vs:List (κ×Value)}(r:KV kvs vs)(k:κ):RelO (valV kvs k) (valueAt vs k):=by
 unfold KV at r
 induction r with
 | nil=>exact ZZ
 | @cons p q ps qs h t ih =>
  obtain⟨h1,h2⟩:=h;by_cases e:p.1=k
  ·have e':q.1=k:=h1.symm.trans e;have b:valueAt (q::qs) k=some q.2:=by simp[valueAt,find?_cons,e']
   rw[Q1B e,b];exact h2
  ·have e':¬ q.1=k:=fun z=>e (h1.trans z);have b:valueAt (q::qs) k=valueAt qs k:=by simp[valueAt,find?_cons,e']
   rw[Q1C e,b];exact ih
theorem KV.any(r:KV kvs vs)(k:κ):(kvs.any fun kv=>decide (kv.1=k))=vs.any fun kv=>decide (kv.1=k):=by
 unfold KV at r
 induction r with
 | nil=>rfl
 | cons h t ih=>rw[any_cons,any_cons,ih,h.1]
theorem KV.repl(r:KV kvs vs)(k:κ)(ry:RelV y u) :
  KV (kvs.map fun kv=>if kv.1=k then (kv.1,y) else kv) (vs.map fun kv=>if kv.1=k then (kv.1,u) else kv):=by
 unfold KV at r ⊢
 induction r with
 | nil=>exact .nil
 | @cons p q ps qs h t ih =>
  rw[Z6,Z6];refine .cons ?_ ih;obtain⟨h1,h2⟩:=h;by_cases e:p.1=k
  ·rw[Zg e,Zg (h1.symm.trans e)];exact⟨h1,ry⟩
  ·rw[Zc e,Zc (fun z=>e (h1.trans z))];exact⟨h1,h2⟩
theorem KV.put(r:KV kvs vs)(k:κ)(ry:RelV y u):KV (putK kvs k y) (stored vs k u):=by
 unfold putK stored;rw[r.any k];by_cases e:(vs.any fun kv=>decide (kv.1=k))=true
 ·rw[Zg e,Zg e];exact r.repl k ry
 ·rw[Zc e,Zc e];exact Paired.snoc r ⟨rfl,ry⟩
theorem KV.drop(r:KV kvs vs)(k:κ):KV (dropK kvs k) (without vs k):=by
 unfold KV at r ⊢;unfold dropK without
 induction r with
 | nil=>exact .nil
 | @cons p q ps qs h t ih =>
  obtain⟨h1,h2⟩:=h;rw[ZF,ZF];by_cases e:p.1=k
  ·have a:¬ decide (p.1≠k)=true:=by simp[e]
   have b:¬ decide (q.1≠k)=true:=by simp[h1.symm.trans e]
   rw[Zc a,Zc b];exact ih
  ·have e':¬ q.1=k:=fun z=>e (h1.trans z);have a:decide (p.1≠k)=true:=by simp[e]
   have b:decide (q.1≠k)=true:=by simp[e']
   rw[Zg a,Zg b];exact .cons ⟨h1,h2⟩ ih
theorem KV.keys{kvs:List (κ×V)}{vs:List (κ×Value)}(r:KV kvs vs):kvs.map (·.1)=vs.map (·.1):=by
 unfold KV at r
 induction r with
 | nil=>rfl
 | cons h t ih=>rw[Z6,Z6,ih,h.1]
theorem KV.length(r:KV kvs vs):kvs.length=vs.length:=ZE r
end
theorem kV_is(r:RelV (kV k) u):(za5 P w).is k u=true:=by
 cases k with
 | inl i=>obtain⟨t,e⟩:=(show ∃ t,u=Value.int i t from r);subst e;exact Q3J P w i t
 | inr x=>obtain⟨t,e⟩:=(show ∃ t,u=Value.str x t from r);subst e;exact Q3K P w x t
theorem Q3i:∀ {ks:List Key} {us:List Value},Vals (ks.map kV) us->ItemsAre (za5 P w) ks us
 | [],_,r=>by rw[map_nil]at r;cases r;exact .nil
 | k::ks,_,r=>by
  rw[Z6]at r;cases r with
  | cons h t=>exact .cons (kV_is h) (Q3i t)
noncomputable abbrev KT(H:Hp):List (List Key×V)->List (List Key×Addr×Value)->Prop:=Paired fun p q=>p.1=q.1/\H q.2.1=some (.tup (p.1.map kV))/\RelV p.2 q.2.2
theorem KT.val{H:Hp}{kvs:List (List Key×V)}{xs:List (List Key×Addr×Value)}(r:KT H kvs xs)(k:List Key):RelO (valV kvs k) ((atKey xs k).map (·.2)):=by
 induction r with
 | nil=>exact ZZ
 | @cons p q ps qs h t ih =>
  obtain⟨h1,_,h2⟩:=h;by_cases e:p.1=k
  ·have e':q.1=k:=h1.symm.trans e;have b:atKey (q::qs) k=some q.2:=by simp[atKey,find?_cons,e']
   rw[Q1B e,b];exact h2
  ·have e':¬ q.1=k:=fun z=>e (h1.trans z);have b:atKey (q::qs) k=atKey qs k:=by simp[atKey,find?_cons,e']
   rw[Q1C e,b];exact ih
theorem KT.repl(r:KT H kvs xs)(k:List Key)(ry:RelV y u) :
  KT H (kvs.map fun kv=>if kv.1=k then (kv.1,y) else kv) (xs.map (putAt k u)):=by
 induction r with
 | nil=>exact .nil
 | @cons p q ps qs h t ih =>
  rw[Z6,Z6];refine .cons ?_ ih;obtain⟨h1,h2,h3⟩:=h;unfold putAt;by_cases e:p.1=k
  ·rw[Zg e,Zg (h1.symm.trans e)];exact⟨h1,h2,ry⟩
  ·rw[Zc e,Zc (fun z=>e (h1.trans z))];exact⟨h1,h2,h3⟩
theorem KT.put(r:KT H kvs xs)(k:List Key)(hb:H b=some (.tup (k.map kV)))(ry:RelV y u) :
  KT H (putK kvs k y) (storedH xs k b u):=by
 have e:(kvs.any fun kv=>decide (kv.1=k))=(atKey xs k).isSome:=by
  rw[Q1V,(r.val k).isSome_eq,Option.isSome_map]
 unfold putK storedH;rw[e];by_cases q:(atKey xs k).isSome=true
 ·rw[Zg q,Zg q];exact r.repl k ry
 ·rw[Zc q,Zc q];exact Paired.snoc r ⟨rfl,hb,ry⟩
theorem KT.keeps(r:KT H kvs xs)(ht:∀ b ys,H b=some (.tup ys)->H' b=some (.tup ys)):KT H' kvs xs :=
 Paired.mapP r fun _ _ z=>⟨z.1,ht _ _ z.2.1,z.2.2⟩
section
variable{P:Program}{w:World}{H:Hp}{h:Heap}{a:Addr}
theorem rd_of(ok:HOk P w H h)(e:Rd H a u):ObjOk P w H h a u:=e.ok ok
theorem dk_rd(ok:HOk P w H h)(e:Rd H a (.dK kvs)):kvs.length<=sizeLine/\(a==sysModules)=false/\∃ vs,KV kvs vs/\h.DictOf (za5 P w) a vs :=
 show ObjOk P w H h a (.dK kvs) from rd_of ok e
theorem dk_of(ok:HOk P w H h)(e:H a=some (.dK kvs)):kvs.length<=sizeLine/\(a==sysModules)=false/\∃ vs,KV kvs vs/\h.DictOf (za5 P w) a vs:=dk_rd ok (.inl e)
theorem Q1j(ok:HOk P w H h)(e:H a=some (.tup (ks.map kV))):(tupleKind (za5 P w)).is h ks a:=by
 obtain⟨_,its,r,o,h1,h2,n,h3⟩:=(show ObjOk P w H h a (.tup (ks.map kV)) from ok a _ e);exact⟨o,its.toArray,n,h1,h2,h3,by simpa using Q3i r⟩
theorem dt_rd(ok:HOk P w H h)(e:Rd H a (.dT kvs)):kvs.length<=sizeLine/\(a==sysModules)=false /\
  ∃ xs,KT H kvs xs/\h.DictOfH (tupleKind (za5 P w)) a xs:=by
 obtain⟨z,y,xs,r,o,es,ep,h1,h2,h3,h4,h5⟩:=(show ObjOk P w H h a (.dT kvs) from rd_of ok e);refine⟨z,y,xs,r,o,es,ep,h1,h2,h3,h4,fun x hx=>?_,h5⟩;have all:∀ {l:List (List Key×V)} {m:List (List Key×Addr×Value)},KT H l m->∀ x∈m,(tupleKind (za5 P w)).is h x.1 x.2.1:=by
  intro l m q
  induction q with
  | nil=>intro x hx;exact nomatch hx
  | @cons p q ps qs hq t ih =>
   intro x hx;rcases Zw.mp hx with e | hx
   ·subst e;exact Q1j ok (by rw[<- hq.1];exact hq.2.1)
   ·exact ih x hx
 exact all r x hx
theorem dt_of(ok:HOk P w H h)(e:H a=some (.dT kvs)):kvs.length<=sizeLine/\(a==sysModules)=false /\
  ∃ xs,KT H kvs xs/\h.DictOfH (tupleKind (za5 P w)) a xs:=dt_rd ok (.inl e)
end
noncomputable def DGet(H:Hp)(a:Addr)(y:V)(r:Option V):Prop :=
 (∃ kvs k,Rd H a (.dK kvs)/\y=kV k/\r=valV kvs k)\/∃ kvs k b,Rd H a (.dT kvs)/\y=.ref b/\H b=some (.tup (k.map kV))/\r=valV kvs k
noncomputable def DPut(H:Hp)(a:Addr)(y v:V)(H':Hp):Prop :=
 (∃ kvs k,H a=some (.dK kvs)/\y=kV k/\kvs.length<sizeLine/\H'=upd H a (.dK (putK kvs k v))) \/
 ∃ kvs k b,H a=some (.dT kvs)/\y=.ref b/\H b=some (.tup (k.map kV))/\kvs.length<sizeLine/\H'=upd H a (.dT (putK kvs k v))
theorem DGet.k{H:Hp}{a:Addr}{kvs:List (Key×V)}{k:Key}(e:H a=some (.dK kvs)):DGet H a (kV k) (valV kvs k):=.inl ⟨kvs,k,.inl e,rfl,rfl⟩
theorem DGet.t{H:Hp}{a b:Addr}{kvs:List (List Key×V)}{k:List Key}(e:H a=some (.dT kvs))(eb:H b=some (.tup (k.map kV))):DGet H a (.ref b) (valV kvs k):=.inr ⟨kvs,k,b,.inl e,rfl,eb,rfl⟩
theorem DPut.k{H:Hp}{a:Addr}{kvs:List (Key×V)}{k:Key}{v:V}(e:H a=some (.dK kvs))(hl:kvs.length<sizeLine):DPut H a (kV k) v (upd H a (.dK (putK kvs k v))):=.inl ⟨kvs,k,e,rfl,hl,rfl⟩
theorem DPut.t{H:Hp}{a b:Addr}{kvs:List (List Key×V)}{k:List Key}{v:V}(e:H a=some (.dT kvs))(eb:H b=some (.tup (k.map kV)))(hl:kvs.length<sizeLine) :
  DPut H a (.ref b) v (upd H a (.dT (putK kvs k v))):=.inr ⟨kvs,k,b,e,rfl,eb,hl,rfl⟩
section
variable{X:Cx}{pins:List (Addr×Obj)}{σ:St}{H:Hp}{s:Shared}{a:Addr}{y v:V}{u r:Value}{o:Option V}{A:Around}{E:Value->Shared->Prop}
theorem Inv.big(I:Inv X pins σ H s):sysModules<s.heap.objs.size:=by
 have h:mainGlobals<s.heap.objs.size:=(I.mod.glob.keeps I.bk).lt;exact Nat.lt_trans (by decide) h
theorem Q5y{Q:Value->Shared->Prop}(hu:A.units+1<cLine)(I:Inv X pins σ H s)(g:DGet H a y (some v))(ry:RelV y u)(h:∀ w' s',Inv X pins σ H s'->RelV v w'->Q w' s') :
  wpAny (model X.prog X.w) A (getItem (.ref a) u) Q E s:=by
 rcases g with ⟨kvs,k,e,ey,l⟩ | ⟨kvs,k,b,e,ey,eb,l⟩
 ·subst ey;obtain⟨z,hd,vs,rel,dd⟩:=dk_rd I.hok e;obtain⟨w',hw,rw'⟩:=RelO.some_of (v:=v) (o:=valueAt vs k) (by rw[l];exact rel.val k)
  exact wpAny_getItem_of (kV_is ry) dd.mapOf hw (h w' _ (I.tok _) rw')
 ·subst ey;cases (show u=Value.ref b from ry);obtain⟨z,hd,xs,rel,dd⟩:=dt_rd I.hok e;obtain⟨w',hw,rw'⟩:=RelO.some_of (v:=v) (o:=(atKey xs k).map (·.2)) (by rw[l];exact rel.val k)
  obtain⟨p,hp,hp2⟩:=Option.map_eq_some_iff.mp hw;refine wpAny_getItem_heap (Yi hu) (Q1j I.hok eb) dd hp ?_;rw[hp2];exact h w' _ (I.tok _) rw'
theorem d_in{Q:Value->Shared->Prop}(hu:A.units+1<cLine)(I:Inv X pins σ H s)(g:DGet H a y o)(ry:RelV y u)(h:∀ s',Inv X pins σ H s'->Q (.bool o.isSome) s') :
  wpAny (model X.prog X.w) A (compareOp .In u (.ref a)) Q E s:=by
 rcases g with ⟨kvs,k,e,ey,l⟩ | ⟨kvs,k,b,e,ey,eb,l⟩
 ·subst ey;obtain⟨z,hd,vs,rel,dd⟩:=dk_rd I.hok e;refine wpAny_in_of (kV_is ry) hd dd.mapOf ?_;rw[<- (rel.val k).isSome_eq,<- l];exact h _ (I.tok _)
 ·subst ey;cases (show u=Value.ref b from ry);obtain⟨z,hd,xs,rel,dd⟩:=dt_rd I.hok e;refine wpAny_in_heap (Yi hu) (Q1j I.hok eb) hd dd ?_;have q:=(rel.val k).isSome_eq;rw[Option.isSome_map]at q;rw[<- q,<- l];exact h _ (I.tok _)
theorem Q9i{Q:Value->Shared->Prop}(hu:A.units+1<cLine)(I:Inv X pins σ H s)(g:DGet H a y o)(ry:RelV y u)(h:∀ s',Inv X pins σ H s'->Q (.bool (!o.isSome)) s') :
  wpAny (model X.prog X.w) A (compareOp .NotIn u (.ref a)) Q E s:=by
 rcases g with ⟨kvs,k,e,ey,l⟩ | ⟨kvs,k,b,e,ey,eb,l⟩
 ·subst ey;obtain⟨z,hd,vs,rel,dd⟩:=dk_rd I.hok e;refine wpAny_notIn_of (kV_is ry) hd dd.mapOf ?_;rw[<- (rel.val k).isSome_eq,<- l];exact h _ (I.tok _)
 ·subst ey;cases (show u=Value.ref b from ry);obtain⟨z,hd,xs,rel,dd⟩:=dt_rd I.hok e;refine wpAny_notIn_heap (Yi hu) (Q1j I.hok eb) hd dd ?_;have q:=(rel.val k).isSome_eq;rw[Option.isSome_map]at q;rw[<- q,<- l];exact h _ (I.tok _)
theorem Q1v(I:Inv X pins σ H s)(mu:Mut (H a))(hs:Heap.SameBut a s.heap h')(he:∃ q,h'.get? a=some q)(new:ObjOk X.prog X.w (upd H a ob) h' a ob) :
  Inv X pins σ (upd H a ob) { s with heap:=h',toks:=t' } :=
 I.write (x:=a) (e:=a) mu (.inl rfl) (fun b q hb z=>(hs.2 b hb).trans z) he new
theorem Q5z(z:kvs.length<=sizeLine)(hd:(a==sysModules)=false)(rel:KV kvs vs)(dd:h'.DictOf (za5 P w) a vs) :
  ObjOk P w H' h' a (.dK kvs):=⟨z,hd,vs,rel,dd⟩
theorem Q5A{Q:Unit->Shared->Prop}(hu:A.units+1<cLine)(I:Inv X pins σ H s)(g:DPut H a y v H')(ry:RelV y u)(rv:RelV v r)(h:∀ s',Inv X pins σ H' s'->Q () s') :
  wpAny (model X.prog X.w) A (setItem (.ref a) u r) Q E s:=by
 rcases g with ⟨kvs,k,e,ey,l,eH⟩ | ⟨kvs,k,b,e,ey,eb,l,eH⟩
 ·subst ey eH;obtain⟨z,hd,vs,rel,dd⟩:=dk_of I.hok e;have hz:vs.length<=sizeLine:=by rw[<- rel.length];exact z
  have hl:(putK kvs k v).length<=sizeLine:=by have:=Q0x kvs k v;omega
  refine wpAny_setItem_pairs (hsz:=hz) (kV_is ry) dd fun h' dd' hs=>h _ ?_;have he:∃ q,h'.get? a=some q:=let ⟨q,_,_,hq,_⟩:=dd';⟨q,hq⟩;exact Q1v I (by rw[e];exact ZZ) hs he (Q5z hl hd (rel.put k rv) dd')
 ·subst ey eH;cases (show u=Value.ref b from ry);obtain⟨z,hd,xs,rel,dd⟩:=dt_of I.hok e;have hz:xs.length<=sizeLine:=by rw[<- ZE rel];exact z
  have hl:(putK kvs k v).length<=sizeLine:=by have:=Q0x kvs k v;omega
  refine wpAny_setItem_heap (hsz:=hz) (Yi hu) (Q1j I.hok eb) dd fun h' dd' hs=>h _ ?_;obtain⟨q,es,ep,hq,h2,h3,h4,_,h5⟩:=dd';refine Q1v I (by rw[e];exact ZZ) hs ⟨q,hq⟩ ⟨hl,hd,_,(rel.put k eb rv).keeps fun c ys ec=>?_,q,es,ep,hq,h2,h3,h4,h5⟩
  rw[Q0g (ne_of ec e (fun z=>nomatch z))]
  exact ec
end
section
variable{X:Cx}{pins:List (Addr×Obj)}{σ:St}{H:Hp}{s:Shared}{a:Addr}{kvs:List (Key×V)}{k:Key}{u:Value}{A:Around}{E:Value->Shared->Prop}
end
noncomputable def NoSl(i:Expr):Prop:=∀ ov iv,subscripted i false ov iv=operate [ov,iv] (getItem ov iv)
theorem Q9j{prog:Program}{w:World}{A:Around}{E:Value->Shared->Prop}{s:Shared}{env:Env}{value slice:Expr}{pos:Pos}{T id:String}{Q:Value->Shared->Prop}
  (hl:typeLookup (.type T) "__getitem__" = pure (some (.builtin id))) (hs:NoSl slice)
  (h:wpAny (model prog w) A (eval value env) (fun o s₁=>wpAny (model prog w) A (eval slice env) (fun i s₂=>s₂.TypeIs o T/\wpAny (model prog w) A (getItem o i) Q E s₂) E s₁) E s) :
  wpAny (model prog w) A (eval (.Subscript value slice pos) env) Q E s:=by
 refine Subscript_ (ZY h (fun o s₁ h₁=>ZY h₁ (fun i s₂ h₂=>?_) fun _ _ x=>x) fun _ _ x=>x);obtain⟨hT,h₂⟩:=h₂;unfold subscriptTail;refine Za ?_;rw[getitemInPython_of_ne hT.not_modules];refine Za (wpAny_specialOf hT hl ?_);have fin:wpAny (model prog w) A (subscripted slice false o i) (fun r s₃=>wpAny (model prog w) A (letTemporaryGo value o r >>= fun _=>pure r) Q E s₃) E s₂:=by
  rw[hs o i];exact wpAny_operating (ZY h₂ (fun r s₃ h₃=>Za (wpAny_letTemporaryGo (Zd h₃))) fun _ _ x=>x)
 first
  | exact Zd (Za fin)
  | exact Za (Zd (Za fin))
  | exact Za fin
theorem Q3P(I:Inv X pins σ H s)(g:DGet H a y o):s.TypeIs (.ref a) "dict":=by
 rcases g with ⟨kvs,k,e,_,_⟩ | ⟨kvs,k,b,e,_,_,_⟩
 ·obtain⟨_,_,vs,_,dd⟩:=dk_rd I.hok e;exact dd.typeIs
 ·obtain⟨_,_,xs,_,dd⟩:=dt_rd I.hok e;exact dd.typeIs
noncomputable def tDGet(td ty:TE):TE:=fun σ H Q=>td σ H fun x H1=>ty σ H1 fun y H2=>∃ a v,x=.ref a/\DGet H2 a y (some v)/\Q v H2
noncomputable def sDPut(td ty tv:TE):TS:=fun D σ H=>tv σ H fun v H1=>td σ H1 fun x H2=>ty σ H2 fun y H3=>∃ a H4,x=.ref a/\DPut H3 a y v H4/\D.nx σ H4
section
variable{X:Cx}{o i e value:Expr}{pos pos' tpos:Pos}{td ty tv:TE}
theorem Q3Q(hu:X.A.units+1<cLine)(ho:PE X o td)(hi:PE X i ty)(hs:NoSl i):PE X (.Subscript o i pos) (tDGet td ty):=by
 intro pins s σ H Q I h;refine Q9j PySem.F.slot_dict_getitem.lookup hs (thn (ho pins s σ H _ I h) fun u s1 ⟨x,H1,I1,rx,q1⟩=>thn (hi pins s1 σ H1 _ I1 q1) fun iv s2 zz=>?_);obtain⟨y,H2,I2,ry,a,v,ex,g,q2⟩:=zz;subst ex;obtain rfl:u=Value.ref a:=rx;exact⟨Q3P I2 g,Q5y hu I2 g ry fun w' s3 I3 rw'=>⟨v,H2,I3,rw',q2⟩⟩
theorem Q9k(hu:X.A.units+1<cLine)(ho:PE X o td)(hi:PE X i ty)(hv:PE X value tv)(hs:swapsWith value (some (.Subscript o i pos')) pos.line X.env=pure false) :
  PS X (.Assign [.Subscript o i pos'] value pos) (sDPut td ty tv):=by
 intro pins s σ H D I h;refine wpAny_Assign_Subscript (thn (hv pins s σ H _ I h) fun r s1 ⟨v,H1,I1,rv,q1⟩=>thn (ho pins s1 σ H1 _ I1 q1) fun u s2 ⟨x,H2,I2,rx,q2⟩=>thn (hi pins s2 σ H2 _ I2 q2) fun iv s3 zz=>?_) hs;obtain⟨y,H3,I3,ry,a,H4,ex,g,q3⟩:=zz;subst ex;obtain rfl:u=Value.ref a:=rx;exact Q5A hu I3 g ry rv fun s4 I4=>⟨σ,H4,I4,q3⟩
end
theorem Q4i(h:Heap)(hb:sysModules<h.objs.size):ObjOk P w H (h.push { cls:=.type "dict",data:=.dict #[] }) h.objs.size (.dK []) :=
 ⟨ZX _,Ye.mpr (Ne.symm (ZO hb)),[],.nil,Heap.DictOf.new h⟩
theorem Q2I(h:Heap)(hb:sysModules<h.objs.size):ObjOk P w H (h.push { cls:=.type "dict",data:=.dict #[] }) h.objs.size (.dT []) :=
 ⟨ZX _,Ye.mpr (Ne.symm (ZO hb)),[],.nil,_,#[],0,Z1 _ rfl,⟨rfl,rfl,rfl⟩,rfl,rfl,nodup_nil⟩
noncomputable def tDNewK:TE:=fun _ H Q=>∀ p,H p=none->Q (.ref p) (upd H p (.dK []))
noncomputable def tDNewT:TE:=fun _ H Q=>∀ p,H p=none->Q (.ref p) (upd H p (.dT []))
section
variable{X:Cx}{pos:Pos}
theorem Q7f:PE X (.Dict [] [] pos) tDNewK:=fun pins s σ H Q I h =>
 wpAny_Dict_empty ⟨.ref s.heap.objs.size,_,I.laid (a:=s.heap.objs.size) (o:=.dK []) (t':=s.toks) (fun _ _ q=>Zm _ q) (Zs _) (Q4i s.heap I.big),rfl,h _ (I.hok.fresh (Zs _))⟩
theorem Q7g:PE X (.Dict [] [] pos) tDNewT:=fun pins s σ H Q I h =>
 wpAny_Dict_empty ⟨.ref s.heap.objs.size,_,I.laid (a:=s.heap.objs.size) (o:=.dT []) (t':=s.toks) (fun _ _ q=>Zm _ q) (Zs _) (Q2I s.heap I.big),rfl,h _ (I.hok.fresh (Zs _))⟩
end
structure M1(X:Cx)(o:Expr)(m:Str)(apos:Pos)(e:Expr)(cpos:Pos):Prop where
 base:attributeBase o m X.env (eval o X.env)=eval o X.env
 few:((backTo cpos (starEach [e] X.env)).all (fun x=>!x.1)&&(backToKw cpos (keywordEach [] X.env)).all (fun x=>x.1.isSome)
  && decide (([e]:List Expr).length+([]:List Keyword).length+(if ([]:List Keyword).isEmpty then 0 else 1)<30))=true
 line:(apos.endLine==cpos.line)=true
 trees:backTo cpos (starEach [e] X.env)=[(false,eval e X.env)]
structure M2(X:Cx)(o:Expr)(m:Str)(apos:Pos)(e f:Expr)(cpos:Pos):Prop where
 base:attributeBase o m X.env (eval o X.env)=eval o X.env
 few:((backTo cpos (starEach [e,f] X.env)).all (fun x=>!x.1)&&(backToKw cpos (keywordEach [] X.env)).all (fun x=>x.1.isSome)
  && decide (([e,f]:List Expr).length+([]:List Keyword).length+(if ([]:List Keyword).isEmpty then 0 else 1)<30))=true
 line:(apos.endLine==cpos.line)=true
 trees:backTo cpos (starEach [e,f] X.env)=[(false,eval e X.env),(false,eval f X.env)]
noncomputable def IsD(H:Hp)(a:Addr):Prop:=(∃ kvs,Rd H a (.dK kvs))\/∃ kvs,Rd H a (.dT kvs)
theorem Q3j(I:Inv X pins σ H s)(d:IsD H a) :
  s.TypeIs (.ref a) "dict" /\ (∀ b,Value.ref a=.ref b->∃ ob,s.heap.get? b=some ob/\ob.dict=none)/\(a==sysModules)=false:=by
 rcases d with ⟨kvs,e⟩ | ⟨kvs,e⟩
 ·obtain⟨_,hd,vs,_,dd⟩:=dk_rd I.hok e;refine⟨dd.typeIs,fun b q=>?_,hd⟩;cases q;obtain⟨ob,_,_,h1,h2,_⟩:=dd;exact⟨ob,h1,h2.2.1⟩
 ·obtain⟨_,hd,xs,_,dd⟩:=dt_rd I.hok e;refine⟨dd.typeIs,fun b q=>?_,hd⟩;cases q;obtain⟨ob,_,_,h1,h2,_⟩:=dd;exact⟨ob,h1,h2.2.1⟩
section
variable{X:Cx}{pins:List (Addr×Obj)}{σ:St}{H:Hp}{s:Shared}{a:Addr}{y d:V}{u r:Value}{o:Option V}{A:Around}{E:Value->Shared->Prop}
theorem QaV{Q:Value->Shared->Prop}(hu:A.units+1<cLine)(I:Inv X pins σ H s)(g:DGet H a y o)(ry:RelV y u)(h:∀ w' s',Inv X pins σ H s'->RelV (o.getD .non) w'->Q w' s') :
  wpAny (model X.prog X.w) A (call (.builtin "dict.get") [.ref a,u]) Q E s:=by
 rcases g with ⟨kvs,k,e,ey,l⟩ | ⟨kvs,k,b,e,ey,eb,l⟩
 ·subst ey;obtain⟨z,hd,vs,rel,dd⟩:=dk_rd I.hok e;refine call_meetsIn slot_dict_get dd.typeIs entry_dict_get (args_dict_get_2 _ _) (meets_dict_get (za5 X.prog X.w) a (kV_is ry) hd) ⟨_,dd.mapOf,h _ _ (I.tok _) ?_⟩;rw[l];exact (rel.val k).getD rfl
 ·subst ey;cases (show u=Value.ref b from ry);obtain⟨z,hd,xs,rel,dd⟩:=dt_rd I.hok e;refine call_meetsIn slot_dict_get dd.typeIs entry_dict_get (args_dict_get_2 _ _) (meetsH_dict_get (tupleKind (za5 X.prog X.w)) a b hd) ⟨Yi hu,k,xs,Q1j I.hok eb,dd,h _ _ (I.tok _) ?_⟩;rw[l];exact (rel.val k).getD rfl
theorem QaW{Q:Value->Shared->Prop}(hu:A.units+1<cLine)(I:Inv X pins σ H s)(g:DGet H a y o)(ry:RelV y u)(rd:RelV d r)(h:∀ w' s',Inv X pins σ H s'->RelV (o.getD d) w'->Q w' s') :
  wpAny (model X.prog X.w) A (call (.builtin "dict.get") [.ref a,u,r]) Q E s:=by
 rcases g with ⟨kvs,k,e,ey,l⟩ | ⟨kvs,k,b,e,ey,eb,l⟩
 ·subst ey;obtain⟨z,hd,vs,rel,dd⟩:=dk_rd I.hok e;refine call_meetsIn slot_dict_get dd.typeIs entry_dict_get (PySem.F.args_dict_get_3 _ _ _) (meets_dict_get_default (za5 X.prog X.w) a (kV_is ry) hd r) ⟨_,dd.mapOf,h _ _ (I.tok _) ?_⟩;rw[l];exact (rel.val k).getD rd
 ·subst ey;cases (show u=Value.ref b from ry);obtain⟨z,hd,xs,rel,dd⟩:=dt_rd I.hok e;refine call_meetsIn slot_dict_get dd.typeIs entry_dict_get (PySem.F.args_dict_get_3 _ _ _) (meetsH_dict_get_default (tupleKind (za5 X.prog X.w)) a b hd r) ⟨Yi hu,k,xs,Q1j I.hok eb,dd,h _ _ (I.tok _) ?_⟩;rw[l];exact (rel.val k).getD rd
end
noncomputable def tDGet2(td ty tx:TE):TE:=fun σ H Q=>td σ H fun x H1=>∃ a,x=.ref a/\IsD H1 a/\ty σ H1 fun y H2=>tx σ H2 fun z H3=>∃ o,DGet H3 a y o/\Q (o.getD z) H3
section
variable{X:Cx}{o e f:Expr}{apos cpos:Pos}{td ty tx:TE}
theorem Q4j(hu:X.A.units+1<cLine)(ho:PE X o td)(he:PE X e ty)(hf:PE X f tx)(m:M2 X o "get" apos e f cpos):PE X (.Call (.Attribute o "get" apos) [e,f] [] cpos) (tDGet2 td ty tx):=by
 intro pins s σ H Q I h;refine wpAny_Call_method m.base m.few m.line plainAttrs_dict slot_dict_get type_dict_get (thn (ho pins s σ H _ I h) fun u s1 zz=>?_);obtain⟨x,H1,I1,rx,a,ex,d,q1⟩:=zz;subst ex;obtain rfl:u=Value.ref a:=rx;obtain⟨t1,t2,_⟩:=Q3j I1 d;refine⟨t1,t2,?_⟩;rw[m.trees];refine Yg rfl (Calls.evalArgs_plain (ZR (thn (he pins s1 σ H1 _ I1 q1) fun iv s2 ⟨y,H2,I2,ry,q2⟩ =>
  ZR (thn (hf pins s2 σ H2 _ I2 q2) fun fv s3 ⟨z,H3,I3,rz,ov,g,q3⟩=>Calls.spliced_nil ?_))))
 exact QaW hu I3 g ry rz fun w' s4 I4 rw'=>⟨_,H3,I4,rw',q3⟩
end
section
variable{X:Cx}{pins:List (Addr×Obj)}{σ:St}{H:Hp}{s:Shared}{a:Addr}{kvs:List (Key×V)}{A:Around}{E:Value->Shared->Prop}
end
section
variable{X:Cx}{pins:List (Addr×Obj)}{σ:St}{H:Hp}{s:Shared}{a:Addr}{y:V}{u:Value}{A:Around}{E:Value->Shared->Prop}
end
section
variable{prog:Program}{w:World}{K:Type}[DecidableEq K]{knd:HeapKind prog w K}{A:Around}{E:Value->Shared->Prop}{s:Shared}
theorem Q1w{Q:Value->Shared->Prop}(hu:knd.room A)(hkey:knd.is s.heap k a)(hm:s.heap.DictOfH knd d xs)
  (h1:∀ p,atKey xs k=some p->Q p.2 { s with toks:=s.toks+knd.draws k })
  (h2:atKey xs k=none->∀ h',h'.DictOfH knd d (storedH xs k a v)->Heap.SameBut d s.heap h'->Q v { s with heap:=h',toks:=s.toks+knd.draws k })
  (hsz:xs.length<=sizeLine):wpAny (model prog w) A (dictSetDefault d (.ref a) v) Q E s:=by
 obtain⟨o,es,ep,ho,hc,hd,he,his,hn⟩:=hm;unfold dictSetDefault
 try with_reducible refine Yb ?_
 refine Za (knd.pyHash hu hkey (Za (wpAny_dictFind_heap (s:={ s with toks:=s.toks+knd.draws k }) hu hkey ho hd he his hn ?_ ?_)))
 ·intro hno;have hnot:k∉xs.map (·.1):=not_mem_keys_of_get hno;have hk:atKey xs k=none:=atKey_none_of_get hno;refine Za (wpAny_rule (Za (wpAny_updateDictKeys (hz:=by have e:=size_of_entries he;omega) (s:={ s with toks:=s.toks+knd.draws k }) ho hd (Zd (h2 hk _ ⟨_,_,ep+1,Heap.get?_update_self _ ho (Obj.isFreed_of_dict (Obj.data_mapDictKeys hd _)),
   hc.mapDictKeys _,Obj.data_mapDictKeys hd _,?_,?_,?_⟩ (Heap.SameBut.update ..))))))
  ·rw[storedH_new hk];simp[he,entryOfKey]
  ·rw[storedH_new hk];intro x hx;rcases Z0.mp hx with hx | hx
   ·exact knd.keeps (his x hx) ho hd (Heap.SameBut.update ..)
   ·simp only[Zp]at hx;subst hx;exact knd.keeps hkey ho hd (Heap.SameBut.update ..)
  ·rw[storedH_new hk];rw[ZC,nodup_append];refine⟨hn,by simp,?_⟩
   intro x hx y hy;simp only[Z6,map_nil,Zp]at hy;subst hy;exact fun e=>hnot (e ▸ hx)
 ·intro j p hj;refine Za (wpAny_dictEntries (s:={ s with toks:=s.toks+knd.draws k }) ho hd ?_);rw[entry_at he j,hj];exact Za (wpAny_rule (Zd (h1 p (atKey_of_get hn hj))))
end
theorem Q1K{prog:Program}{w:World}{K:Type}[DecidableEq K](knd:HeapKind prog w K)(d a:Addr)(hd:(d==sysModules)=false)(dflt:Value) :
  MeetsIn prog w (Builtin.«dict.setdefault» ⟨[.ref d,.ref a,dflt],[]⟩) (fun A R s=>knd.room A.in1/\∃ k xs,knd.is s.heap k a/\s.heap.DictOfH knd d xs/\xs.length<=sizeLine /\
   (∀ p,atKey xs k=some p->R (.ok (.ret p.2)) { s with toks:=s.toks+knd.draws k }) /\
   (atKey xs k=none->∀ h',h'.DictOfH knd d (storedH xs k a dflt)->Heap.SameBut d s.heap h'->R (.ok (.ret dflt)) { s with heap:=h',toks:=s.toks+knd.draws k })) :=
 .of_wp fun A R s ⟨hu,k,xs,hkey,hm,hz,h1,h2⟩=>by
  unfold Builtin.«dict.setdefault»;refine Za ?_;unfold Builtin.Dict.keyAndDefault;refine Za (wpAny_notOrdered_dict hm.typeIs ?_);show wpAny _ _ (pure (d,Value.ref a,some dflt)) _ _ s;refine Zd ?_;show wpAny _ _ (if (d==sysModules)=true then _ else (dictSetDefault d (.ref a) dflt >>= _)) _ _ s
  rw[Zc (by rw[hd];exact Zy)]
  exact Za (Q1w (hsz:=hz) hu hkey hm (fun p hp=>Zd ⟨p.2,rfl,h1 p hp⟩) fun hn h' hm' hs'=>Zd ⟨dflt,rfl,h2 hn h' hm' hs'⟩)
section
variable{X:Cx}{pins:List (Addr×Obj)}{σ:St}{H:Hp}{s:Shared}{a b:Addr}{v:V}{r:Value}{A:Around}{E:Value->Shared->Prop}{kvs:List (List Key×V)}{k:List Key}
theorem Q7h {Q:Value->Shared->Prop}(hu:A.units+1<cLine)(I:Inv X pins σ H s)(e:H a=some (.dT kvs))(eb:H b=some (.tup (k.map kV)))(l:kvs.length<sizeLine)(rv:RelV v r)
  (h1:∀ y u s',valV kvs k=some y->RelV y u->Inv X pins σ H s'->Q u s') (h2:valV kvs k=none->∀ s',Inv X pins σ (upd H a (.dT (putK kvs k v))) s'->Q r s') :
  wpAny (model X.prog X.w) A (call (.builtin "dict.setdefault") [.ref a,.ref b,r]) Q E s:=by
 obtain⟨z,hd,xs,rel,dd⟩:=dt_of I.hok e;have hz:xs.length<=sizeLine:=by rw[<- ZE rel];exact z
 have hl:(putK kvs k v).length<=sizeLine:=by have:=Q0x kvs k v;omega
 refine call_meetsIn slot_dict_setdefault dd.typeIs PySem.F.entry_dict_setdefault (PySem.F.args_dict_setdefault_3 _ _ _) (Q1K (tupleKind (za5 X.prog X.w)) a b hd r)
  ⟨Yi hu,k,xs,Q1j I.hok eb,dd,hz,fun p hp=>?_,fun hn h' dd' hs=>?_⟩
 ·have q:=rel.val k;rw[hp]at q;cases ev:valV kvs k with
  | none=>rw[ev]at q;exact (show False from q).elim
  | some y =>
   rw[ev]at q;exact h1 y p.2 _ ev q (I.tok _)
 ·have q:=rel.val k;rw[hn]at q;have ev:valV kvs k=none:=by
   cases ev:valV kvs k with
   | none=>rfl
   | some y=>rw[ev]at q;exact (show False from q).elim
  refine h2 ev _ ?_;obtain⟨q,es,ep,hq,g2,g3,g4,_,g5⟩:=dd';refine Q1v I (by rw[e];exact ZZ) hs ⟨q,hq⟩ ⟨hl,hd,_,(rel.put k eb rv).keeps fun c ys ec=>?_,q,es,ep,hq,g2,g3,g4,g5⟩
  rw[Q0g (ne_of ec e (fun z=>nomatch z))]
  exact ec
end
noncomputable def tDSetd(td ty tx:TE):TE:=fun σ H Q=>td σ H fun x H1=>∃ a,x=.ref a/\IsD H1 a/\ty σ H1 fun y H2=>tx σ H2 fun z H3=>∃ kvs k b,H3 a=some (.dT kvs)/\y=.ref b/\H3 b=some (.tup (k.map kV))/\kvs.length<sizeLine /\
 (∀ v,valV kvs k=some v->Q v H3)/\(valV kvs k=none->Q z (upd H3 a (.dT (putK kvs k z))))
theorem Q7i(hu:X.A.units+1<cLine)(ho:PE X o td)(he:PE X e ty)(hf:PE X f tx)(m:M2 X o "setdefault" apos e f cpos):PE X (.Call (.Attribute o "setdefault" apos) [e,f] [] cpos) (tDSetd td ty tx):=by
 intro pins s σ H Q I h;refine wpAny_Call_method m.base m.few m.line plainAttrs_dict slot_dict_setdefault PySem.F.type_dict_setdefault (thn (ho pins s σ H _ I h) fun u s1 zz=>?_);obtain⟨x,H1,I1,rx,a,ex,d,q1⟩:=zz;subst ex;obtain rfl:u=Value.ref a:=rx;obtain⟨t1,t2,_⟩:=Q3j I1 d;refine⟨t1,t2,?_⟩;rw[m.trees];refine Yg rfl (Calls.evalArgs_plain (ZR (thn (he pins s1 σ H1 _ I1 q1) fun iv s2 ⟨y,H2,I2,ry,q2⟩ =>
  ZR (thn (hf pins s2 σ H2 _ I2 q2) fun fv s3 ⟨z,H3,I3,rz,kvs,k,b,ea,ey,eb,hl,q3,q4⟩=>Calls.spliced_nil ?_))))
 subst ey;obtain rfl:iv=Value.ref b:=ry;exact Q7h hu I3 ea eb hl rz (fun v u' s' ev rv I'=>⟨v,H3,I',rv,q3 v ev⟩) fun ev s' I'=>⟨z,_,I',rz,q4 ev⟩
noncomputable def tDisp1(tk tv:TE):TE:=fun σ H Q=>∀ p,H p=none->tk σ (upd H p (.dT [])) fun x H1=>tv σ H1 fun y H2=>∃ k b,x=.ref b/\H2 b=some (.tup (k.map kV))/\H2 p=some (.dT [])/\Q (.ref p) (upd H2 p (.dT [(k,y)]))
theorem Q7j(hu:X.A.units+1<cLine)(hk:PE X k tk)(hv:PE X v tv):PE X (.Dict [some k] [v] pos) (tDisp1 tk tv):=by
 intro pins s σ H Q I q;have hn:=I.hok.fresh (Zs s.heap.objs.size);have I1:=I.laid (a:=s.heap.objs.size) (o:=.dT []) (h':=s.heap.push { cls:=.type "dict",data:=.dict #[] }) (t':=s.toks) (fun _ _ q=>Zm _ q) (Zs _) (Q2I s.heap I.big);refine wpAny_Dict_any rfl rfl (by simp) (by show 1<=15;decide) ?_
 refine pairTrees_cons_walk (thn (hk pins _ σ _ _ I1 (q _ hn)) fun kv s1 ⟨x,H1,J1,rx,q1⟩=>thn (hv pins s1 σ H1 _ J1 q1) fun vv s2 ⟨y,H2,J2,ry,ks,b,ex,eb,ep,q2⟩=>pairTrees_nil_walk ?_);subst ex;obtain rfl:kv=Value.ref b:=rx;obtain⟨z,hd,xs,rel,dd⟩:=dt_of J2.hok ep;cases rel;have hu':(tupleKind (za5 X.prog X.w)).room X.A:=Nat.lt_of_succ_lt hu;unfold storeAll;refine wpAny_forIn_list _ (fun rest r s'=>(rest=[(Value.ref b,vv)]/\s'=s2)\/(rest=[]/\∃ s3,s'=s3/\Inv X pins σ (upd H2 s.heap.objs.size (.dT [(ks,y)])) s3)) _ ?_ ?_ _ _ (.inl ⟨rfl,rfl⟩)
 ·rintro p rest r s' (⟨e1,rfl⟩ | ⟨e1,_⟩)
  ·cases e1;refine Za (wpAny_dictSet_heap (hsz:=by simp) (knd:=tupleKind (za5 X.prog X.w)) hu' (Q1j J2.hok eb) dd fun h' dd' hs=>Zd ?_)
   refine .inr ⟨rfl,_,rfl,?_⟩;obtain⟨qo,es,eo,hq,g2,g3,g4,_,g5⟩:=dd';refine Q1v J2 (by rw[ep];exact ZZ) hs ⟨qo,hq⟩ ⟨by simp[sizeLine_eq],hd,_,?_,qo,es,eo,hq,g2,g3,g4,g5⟩
   refine Paired.cons ⟨rfl,?_,ry⟩ .nil;show upd H2 _ _ b=_;rw[Q0g (ne_of eb ep (fun z=>nomatch z))]
   exact eb
  ·cases e1
 ·rintro r s' (⟨e1,_⟩ | ⟨_,s3,rfl,I3⟩)
  ·cases e1
  ·exact⟨.ref s.heap.objs.size,_,I3,rfl,q2⟩
noncomputable def tDispK(tk tv:TE):TE:=fun σ H Q=>∀ p,H p=none->tk σ (upd H p (.dK [])) fun x H1=>tv σ H1 fun y H2=>∃ k,x=kV k/\H2 p=some (.dK [])/\Q (.ref p) (upd H2 p (.dK [(k,y)]))
section
variable{X:Cx}{o i value:Expr}{td ty tv:TE}{pos pos':Pos}
noncomputable def sLPut(td ty tv:TE):TS:=fun D σ H=>tv σ H fun v H1=>td σ H1 fun x H2=>ty σ H2 fun y H3=>rSetL x y v H3 fun H4=>D.nx σ H4
theorem Q9l(ho:PE X o td)(hi:PE X i ty)(hv:PE X value tv)(hs:swapsWith value (some (.Subscript o i pos')) pos.line X.env=pure false):PS X (.Assign [.Subscript o i pos'] value pos) (sLPut td ty tv):=by
 intro pins s σ H D I h;refine wpAny_Assign_Subscript (thn (hv pins s σ H _ I h) fun r s1 ⟨v,H1,I1,rv,q1⟩=>thn (ho pins s1 σ H1 _ I1 q1) fun u s2 ⟨x,H2,I2,rx,q2⟩=>thn (hi pins s2 σ H2 _ I2 q2) fun iv s3 ⟨y,H3,I3,ry,q3⟩=>?_) hs;exact thn (Q6X pins s3 σ H3 x y v u iv r _ I3 rx ry rv q3) fun _ s4 ⟨H4,I4,q4⟩=>⟨σ,H4,I4,q4⟩
end
section
variable{P:Program}{w:World}{A:Around}{E:Value->Shared->Prop}{s:Shared}{d it:Addr}{o:Obj}{es:Array DictEntry}{ep i:Nat}
theorem Q5B{Q:Value->Shared->Prop}(hd:(d==sysModules)=false)(ty:s.TypeIs (.ref d) "dict")(h1:s.heap.get? d=some o)(h2:o.data=.dict es ep)
  (h:Q (.ref s.heap.objs.size) { s with heap:=s.heap.push { cls:=.type "dict_keyiterator",data:=.fields #[.ref d,.int 0 0,.int es.size 0,.int ep 0] } }):wpAny (model P w) A (pyIter (.ref d)) Q E s:=by
 have nm:¬ ((d==sysModules)=true):=by rw[hd];exact Zy
 refine wpAny_pyIter_slot ty PySem.F.slot_dict_iter (wpAny_call_entry PySem.F.slot_dict_iter ty PySem.F.entry_dict_iter ?_ (PySem.F.args_dict_iter_1 _));unfold Builtin.«dict.__iter__» Builtin.Dict.dictSlotNone;refine Za (Za (wpAny_notOrdered_dict ty (Zd (a:=Value.ref d) ?_)));show wpAny _ _ (Builtin.Dict.showsAll d >>= _) _ _ s;unfold Builtin.Dict.showsAll;rw[Zc nm];refine Za (Zd (Za (wpAny_dictEntries h1 h2 (Za (wpAny_dictEpoch h1 h2 (Za (Yl (Zd ⟨_,rfl,"dict_keyiterator",_,⟨_,Z1 _ rfl,rfl⟩,slot_dict_keyiterator_next.lookup,?_⟩))))))));simpa[rawInt]using h
theorem Q5C{Q:Option Value->Shared->Prop}(st:s.heap.IsKeyIter it d i es.size ep)(h1:s.heap.get? d=some o)(h2:o.data=.dict es ep)(lt:i<es.size)
  (h:∀ h',h'.IsKeyIter it d (i+1) es.size ep->Heap.SameBut it s.heap h'->Q (some es[i].key) { s with heap:=h' }):wpAny (model P w) A (pyNext (.ref it)) Q E s:=by
 obtain⟨oi,q1,q2,q3⟩:=id st;have own:Builtin.Dict_items.ownsTuple "dict_keyiterator" = false:=by decide
 have st':(s.heap.update it (Obj.mapFields (·.setIfInBounds 1 (rawInt ((i:Int)+1))))).IsKeyIter it d (i+1) es.size ep :=
  ⟨_,Heap.get?_update_self _ q1 (Obj.isFreed_of_fields (Obj.data_mapFields q3 _)),(Obj.cls_mapFields ..).trans q2,by rw[Obj.data_mapFields q3];simp[rawInt]⟩
 unfold pyNext;refine Za (wpAny_attempt (wpAny_callSpecial?_slot (name:=Str.ofString "__next__") st.typeIs slot_dict_keyiterator_next (wpAny_call_entry slot_dict_keyiterator_next st.typeIs PySem.F.entry_dict_keyiterator_next ?_ (PySem.F.args_dict_keyiterator_next_1 _))));refine Za (Zd (Za (Za ?_)));refine Za (wpAny_typeNameOfWhole_keyiter st.typeIs (Zd (Za (wpAny_fieldsOf q1 q3 ?_))));simp only[own,ZD,ZQ];show wpAny _ _ (if (Value.ref d==Value.none)=true then _ else _) _ _ s
 have dn:¬ ((Value.ref d==Value.none)=true):=fun z=>Zy z;rw[Zc dn];refine Za (Zd (Za (wpAny_dictEntries h1 h2 ?_)));rw[Zc (by simp)]
 refine Za (Zd (Za (wpAny_dictEpoch h1 h2 ?_)));rw[Zc (by simp)]
 refine Zd ?_;have ni:¬ ((i:Int)<0):=by omega
 simp only[ni,ZQ,Z7,Array.getElem?_eq_getElem lt];refine Za (Za (wpAny_typeNameOfWhole_keyiter st.typeIs (Zd (Za (wpAny_isOneOf_keyiter st.typeIs ?_)))));show wpAny _ _ (setField (.ref it) 1 (rawInt ((i:Int)+1)) >>= _) _ _ s;refine Za (wpAny_setField q1 q3 (by simp) (Za (Yb ?_)))
 refine Za (wpAny_isOneOf_keyiter (s:={ s with heap:=s.heap.update it (Obj.mapFields (·.setIfInBounds 1 (rawInt ((i:Int)+1)))) }) st'.typeIs ?_);show wpAny _ _ (pure es[i].key) _ _ _;exact Zd (Zd ⟨_,rfl,Zd (h _ st' (Heap.SameBut.update ..))⟩)
theorem Q7k{Q:Option Value->Shared->Prop}(hh:A.handled=none)(st:s.heap.IsKeyIter it d i es.size ep)(h1:s.heap.get? d=some o)(h2:o.data=.dict es ep)(ge:es.size<=i)
  (h:∀ h',Heap.ExtBut it s.heap h'->Q none { s with heap:=h' }):wpAny (model P w) A (pyNext (.ref it)) Q E s:=by
 obtain⟨oi,q1,q2,q3⟩:=id st;have own:Builtin.Dict_items.ownsTuple "dict_keyiterator" = false:=by decide
 unfold pyNext;refine Za (wpAny_attempt (wpAny_callSpecial?_slot (name:=Str.ofString "__next__") st.typeIs slot_dict_keyiterator_next (wpAny_call_entry slot_dict_keyiterator_next st.typeIs PySem.F.entry_dict_keyiterator_next ?_ (PySem.F.args_dict_keyiterator_next_1 _))));refine Za (Zd (Za (Za ?_)));refine Za (wpAny_typeNameOfWhole_keyiter st.typeIs (Zd (Za (wpAny_fieldsOf q1 q3 ?_))));simp only[own,ZD,ZQ];show wpAny _ _ (if (Value.ref d==Value.none)=true then _ else _) _ _ s
 have dn:¬ ((Value.ref d==Value.none)=true):=fun z=>Zy z;rw[Zc dn];refine Za (Zd (Za (wpAny_dictEntries h1 h2 ?_)));rw[Zc (by simp)]
 refine Za (Zd (Za (wpAny_dictEpoch h1 h2 ?_)));rw[Zc (by simp)]
 refine Zd ?_;have ni:¬ ((i:Int)<0):=by omega
 simp only[ni,ZQ,Z7,Array.getElem?_eq_none ge];refine Za (Za (wpAny_typeNameOfWhole_keyiter st.typeIs (Zd ?_)));show wpAny _ _ (setField (.ref it) 0 .none >>= _) _ _ s;refine Za (wpAny_setField q1 q3 (by simp) ?_)
 show wpAny _ _ (newExc (.type "StopIteration") [] >>= _) _ _ _;simp only[newExc,newTuple];refine Za (Za (Yl (Za (m:=firstArgMember _ _) (wpAny_of_eq (a:=Value.none) (by first | rfl | (simp only[firstArgMember];rfl)) (Yl ?_ (by size_fits)))) (by size_fits)))
 simp only[raiseNew];refine Za (wpAny_handled ?_);rw[show A.in1.handled=none from hh];refine Za (Zd (wpAny_throw (Za ?_)));exact wpAny_isInstance (T:="StopIteration") (b:=true) ⟨_,Z1 _ rfl,rfl⟩ isSubtype_stop (Zd (h _ (((Heap.SameBut.update ..).extBut.push _).push _)))
end
end L2
namespace DL
open PySem PySem.Spec L2
open PyProof.Rows hiding St
noncomputable def S(x:List Nat):Str:=⟨x.toArray⟩
inductive D where
 | non | bl (b:Bool) | int (i:Int) | str (x:List Nat) | tup (xs:List D) | lst (xs:List D) | ref (a:Addr)
noncomputable def FzL(K:Frag)(H:Hp)(a:Addr)(xs:List V):Prop :=
 (∃ o,H a=some (.frz o (.lst xs))) \/
  ∃ (o:Obj) (its:Array Value) (n:Nat),K.lookup a=some o/\o.cls=.type "list" /\ o.dict=none/\o.data=.seq its n/\its.size<=sizeLine/\Vals xs its.toList
theorem FzL.sq{K:Frag}{H:Hp}{a:Addr}{xs:List V}(h:FzL K H a xs):SqL K H a xs:=by
 rcases h with ⟨o,h⟩ | h
 ·exact .inl (.inr ⟨o,h⟩)
 ·exact .inr h
mutual
inductive Den(K:Frag)(H:Hp):D->V->Prop
 | non:Den K H .non .non
 | bl (b:Bool):Den K H (.bl b) (.bl b)
 | int (i:Int):Den K H (.int i) (.int i)
 | str (x:List Nat) (h:(x.all fun c=>decide (c<1114112))=true):Den K H (.str x) (.str (S x))
 | ref (a:Addr):Den K H (.ref a) (.ref a)
 | tup {a:Addr} {ds:List D} {vs:List V}:H a=some (.tup vs)->Dens K H ds vs->Den K H (.tup ds) (.ref a)
 | lst {a:Addr} {ds:List D} {vs:List V}:FzL K H a vs->Dens K H ds vs->Den K H (.lst ds) (.ref a)
inductive Dens(K:Frag)(H:Hp):List D->List V->Prop
 | nil:Dens K H [] []
 | cons {d:D} {v:V} {ds:List D} {vs:List V}:Den K H d v->Dens K H ds vs->Dens K H (d::ds) (v::vs)
end
structure Ext(H H':Hp):Prop where
 tup:∀ b xs,H b=some (.tup xs)->H' b=some (.tup xs)
 frz:∀ b o u,H b=some (.frz o u)->H' b=some (.frz o u)
theorem Ext.refl(H:Hp):Ext H H:=⟨fun _ _ e=>e,fun _ _ _ e=>e⟩
theorem Ext.trans(a:Ext H H1)(b:Ext H1 H2):Ext H H2:=⟨fun c xs e=>b.tup c xs (a.tup c xs e),fun c o u e=>b.frz c o u (a.frz c o u e)⟩
theorem Ext.new(h:H p=none):Ext H (upd H p o) :=
 ⟨fun b xs e=>by rw[Q0g (Q0l e h)];exact e,fun b o u e=>by rw[Q0g (Q0l e h)];exact e⟩
theorem Ext.mut(h:H p=some u)(h1:∀ xs,u≠.tup xs)(h2:∀ ob v,u≠.frz ob v):Ext H (upd H p o) :=
 ⟨fun b ys e=>by rw[Q0g fun w=>by rw[w,h]at e;cases e;exact h1 _ rfl];exact e,fun b ob y e=>by rw[Q0g fun w=>by rw[w,h]at e;cases e;exact h2 _ _ rfl];exact e⟩
theorem Ext.lst(h:H p=some (.lst xs)):Ext H (upd H p o) :=
 ⟨fun b ys e=>by rw[Q0g fun w=>by rw[w,h]at e;cases e];exact e,fun b u y e=>by rw[Q0g fun w=>by rw[w,h]at e;cases e];exact e⟩
section
variable{K:Frag}{H H':Hp}
theorem SqT.ext(x:Ext H H')(h:SqT K H a xs):SqT K H' a xs:=by
 rcases h with (h | ⟨o,h⟩) | h
 ·exact .inl (.inl (x.tup _ _ h))
 ·exact .inl (.inr ⟨o,x.frz _ _ _ h⟩)
 ·exact .inr h
theorem FzL.ext(x:Ext H H')(h:FzL K H a xs):FzL K H' a xs:=by
 rcases h with ⟨o,h⟩ | h
 ·exact .inl ⟨o,x.frz _ _ _ h⟩
 ·exact .inr h
mutual
theorem Den.ext(x:Ext H H'):∀ {d:D} {v:V},Den K H d v->Den K H' d v
 | _,_,.non=>.non
 | _,_,.bl b=>.bl b
 | _,_,.int i=>.int i
 | _,_,.str s h=>.str s h
 | _,_,.ref a=>.ref a
 | _,_,.tup h t=>.tup (x.tup _ _ h) (Dens.ext x t)
 | _,_,.lst h t=>.lst (FzL.ext x h) (Dens.ext x t)
theorem Dens.ext(x:Ext H H'):∀ {ds:List D} {vs:List V},Dens K H ds vs->Dens K H' ds vs
 | _,_,.nil=>.nil
 | _,_,.cons h t=>.cons (Den.ext x h) (Dens.ext x t)
end
theorem Dens.length:∀ {ds:List D} {vs:List V},Dens K H ds vs->ds.length=vs.length
 | _,_,.nil=>rfl
 | _,_,.cons _ t=>by rw[Zi,Zi,Dens.length t]
theorem Dens.get:∀ {ds:List D} {vs:List V} {i:Nat} {d:D},Dens K H ds vs->ds[i]? = some d->∃ v,vs[i]? = some v/\Den K H d v
 | _,_,_,_,.nil,e=>by simp at e
 | _,_,0,_,.cons r _,e=>by simp at e;subst e;exact⟨_,rfl,r⟩
 | _,_,i+1,d,.cons _ t,e=>by
  obtain⟨u,h1,h2⟩:=Dens.get (i:=i) (d:=d) t (by simpa using e)
  exact⟨u,by simpa using h1,h2⟩
theorem Dens.get':∀ {ds:List D} {vs:List V} {i:Nat} {v:V},Dens K H ds vs->vs[i]? = some v->∃ d,ds[i]? = some d/\Den K H d v
 | _,_,_,_,.nil,e=>by simp at e
 | _,_,0,_,.cons r _,e=>by simp at e;subst e;exact⟨_,rfl,r⟩
 | _,_,i+1,d,.cons _ t,e=>by
  obtain⟨u,h1,h2⟩:=Dens.get' (i:=i) (v:=d) t (by simpa using e)
  exact⟨u,by simpa using h1,h2⟩
theorem Dens.append:∀ {ds es:List D} {vs ws:List V},Dens K H ds vs->Dens K H es ws->Dens K H (ds++es) (vs++ws)
 | _,_,_,_,.nil,s=>s
 | _,_,_,_,.cons r t,s=>.cons r (Dens.append t s)
theorem Dens.take:∀ {ds:List D} {vs:List V} (n:Nat),Dens K H ds vs->Dens K H (ds.take n) (vs.take n)
 | _,_,0,_=>.nil
 | _,_,_+1,.nil=>.nil
 | _,_,n+1,.cons r t=>.cons r (Dens.take n t)
theorem Dens.drop:∀ {ds:List D} {vs:List V} (n:Nat),Dens K H ds vs->Dens K H (ds.drop n) (vs.drop n)
 | _,_,0,r=>r
 | _,_,_+1,.nil=>.nil
 | _,_,n+1,.cons _ t=>Dens.drop n t
theorem Dens.reverse(h:Dens K H ds vs):Dens K H ds.reverse vs.reverse:=by
 induction ds generalizing vs with
 | nil=>cases h;exact .nil
 | cons d r ih =>
  cases h with
  | cons a t=>rw[reverse_cons,reverse_cons];exact Dens.append (ih t) (.cons a .nil)
end
noncomputable abbrev DSt:=List (Option D)
inductive MO2 where
 | dct (kvs:List (List (List Nat)×D))
 | dkt (kvs:List (List Nat×D))
 | dkf (ob:Obj) (kvs:List (List Nat×D))
 | dcf (ob:Obj) (kvs:List (List (List Nat)×D))
 | ins (c:Str) (fs:List (Str×D))
inductive MO where
 | lst (ds:List D)
 | oth (o:MO2)
noncomputable abbrev DH:=Addr->Option MO
noncomputable def dupd(M:DH)(a:Addr)(o:MO):DH:=fun b=>if b=a then some o else M b
theorem Q0a:dupd M a o a=some o:=Zg rfl
theorem Q0b(h:b≠a):dupd M a o b=M b:=Zc h
theorem dne{M:DH}{a b:Addr}{o:MO}(h:M a=some o)(h':M b=none):a≠b:=by
 intro e;subst e;rw[h]at h';cases h'
theorem Q1k:dupd (dupd M a o) a u=dupd M a u:=by
 funext b
 unfold dupd;by_cases h:b=a
 ·rw[Zg h,Zg h]
 ·rw[Zc h,Zc h,Zc h]
noncomputable def DenO(K:Frag)(H:Hp):Option D->Option V->Prop
 | none,none=>True
 | some d,some v=>Den K H d v
 | _,_=>False
inductive SimS(K:Frag)(H:Hp):DSt->St->Prop
 | nil:SimS K H [] []
 | cons {d:Option D} {v:Option V} {ds:DSt} {vs:St}:DenO K H d v->SimS K H ds vs->SimS K H (d::ds) (v::vs)
noncomputable def nk(n:List (List Nat)):List Key:=n.map fun x=>Sum.inr (S x)
noncomputable abbrev KDs(K:Frag)(H:Hp):List (List (List Nat)×D)->List (List Key×V)->Prop:=Paired fun p q=>q.1=nk p.1/\Den K H p.2 q.2
noncomputable def tkk(x:List Nat):Key:=Sum.inr (S x)
noncomputable abbrev KTs(K:Frag)(H:Hp):List (List Nat×D)->List (Key×V)->Prop:=Paired fun p q=>q.1=tkk p.1/\Den K H p.2 q.2
noncomputable abbrev FDs(K:Frag)(H:Hp):List (Str×D)->List (Str×V)->Prop:=Paired fun p q=>p.1=q.1/\Den K H p.2 q.2
noncomputable def MOk2(K:Frag)(H:Hp)(a:Addr):MO2->Prop
 | .dct kvs=>∃ vs,H a=some (.dT vs)/\KDs K H kvs vs
 | .dkt kvs=>∃ vs,H a=some (.dK vs)/\KTs K H kvs vs
 | .dkf ob kvs=>∃ vs,H a=some (.frz ob (.dK vs))/\KTs K H kvs vs
 | .dcf ob kvs=>∃ vs,H a=some (.frz ob (.dT vs))/\KDs K H kvs vs
 | .ins c fs=>∃ C dx vs,nsIn K mainGlobals c=some (some (.ref C))/\H a=some (.ins C dx vs)/\FDs K H fs vs
noncomputable def MOk(K:Frag)(H:Hp)(a:Addr):MO->Prop
 | .lst ds=>∃ vs,H a=some (.lst vs)/\Dens K H ds vs
 | .oth o=>MOk2 K H a o
noncomputable def SimM(K:Frag)(M:DH)(H:Hp):Prop:=∀ a o,M a=some o->MOk K H a o
section
variable{K:Frag}{H H':Hp}{M:DH}
theorem DenO.ext(x:Ext H H'):∀ {d:Option D} {v:Option V},DenO K H d v->DenO K H' d v
 | none,none,_=>trivial
 | some _,some _,h=>Den.ext x h
 | none,some _,h=>h.elim
 | some _,none,h=>h.elim
theorem SimS.ext(x:Ext H H'):∀ {ds:DSt} {vs:St},SimS K H ds vs->SimS K H' ds vs
 | _,_,.nil=>.nil
 | _,_,.cons h t=>.cons (h.ext x) (SimS.ext x t)
theorem SimS.length:∀ {ds:DSt} {vs:St},SimS K H ds vs->ds.length=vs.length
 | _,_,.nil=>rfl
 | _,_,.cons _ t=>by rw[Zi,Zi,SimS.length t]
theorem SimS.get:∀ {ds:DSt} {vs:St} {i:Nat} {d:D},SimS K H ds vs->ds[i]? = some (some d)->∃ v,vs[i]? = some (some v)/\Den K H d v
 | _,_,_,_,.nil,e=>by simp at e
 | _,some v::_,0,d,.cons (d:=some d') r _,e=>by simp at e;subst e;exact⟨v,rfl,r⟩
 | _,none::_,0,d,.cons (d:=some d') r _,e=>r.elim
 | _,_,0,d,.cons (d:=none) r _,e=>by simp at e
 | _,_,i+1,d,.cons _ t,e=>by
  obtain⟨u,h1,h2⟩:=SimS.get (i:=i) (d:=d) t (by simpa using e)
  exact⟨u,by simpa using h1,h2⟩
theorem SimS.getD:∀ {ds:DSt} {vs:St} (i:Nat),SimS K H ds vs->DenO K H ((ds[i]?).getD none) ((vs[i]?).getD none)
 | _,_,_,.nil=>by simp;exact trivial
 | _,_,0,.cons r _=>by simpa using r
 | _,_,i+1,.cons _ t=>by simpa using SimS.getD i t
theorem SimS.set(r:Den K H d v):∀ {ds:DSt} {vs:St} (i:Nat),SimS K H ds vs->SimS K H (ds.set i (some d)) (vs.set i (some v))
 | _,_,_,.nil=>.nil
 | _,_,0,.cons _ t=>.cons r t
 | _,_,i+1,.cons q t=>.cons q (SimS.set r i t)
theorem SimS.append:∀ {ds es:DSt} {vs ws:St},SimS K H ds vs->SimS K H es ws->SimS K H (ds++es) (vs++ws)
 | _,_,_,_,.nil,s=>s
 | _,_,_,_,.cons r t,s=>.cons r (SimS.append t s)
theorem SimS.nones:∀ k:Nat,SimS K H (List.replicate k none) (List.replicate k none)
 | 0=>.nil
 | k+1=>.cons trivial (SimS.nones k)
theorem SimS.ofDens:∀ {ds:List D} {vs:List V},Dens K H ds vs->SimS K H (ds.map some) (vs.map some)
 | _,_,.nil=>.nil
 | _,_,.cons r t=>.cons r (SimS.ofDens t)
theorem SimS.pick(h:SimS K H ds vs):∀ ix:List Nat,SimS K H (ix.map fun i=>(ds[i]?).getD none) (ix.map fun i=>(vs[i]?).getD none)
 | []=>.nil
 | i::r=>.cons (h.getD i) (SimS.pick h r)
theorem MOk.keep(h:MOk K H a o)(x:Ext H H')(e:H' a=H a):MOk K H' a o:=by
 cases o with
 | lst ds=>obtain⟨vs,e1,e2⟩:=h;exact⟨vs,e.trans e1,e2.ext x⟩
 | oth o =>
  cases o with
  | dct kvs=>obtain⟨vs,e1,e2⟩:=h;exact⟨vs,e.trans e1,Paired.mapP e2 fun p q z=>⟨z.1,Den.ext x z.2⟩⟩
  | dkt kvs=>obtain⟨vs,e1,e2⟩:=h;exact⟨vs,e.trans e1,Paired.mapP e2 fun p q z=>⟨z.1,Den.ext x z.2⟩⟩
  | dkf ob kvs=>obtain⟨vs,e1,e2⟩:=h;exact⟨vs,e.trans e1,Paired.mapP e2 fun p q z=>⟨z.1,Den.ext x z.2⟩⟩
  | dcf ob kvs=>obtain⟨vs,e1,e2⟩:=h;exact⟨vs,e.trans e1,Paired.mapP e2 fun p q z=>⟨z.1,Den.ext x z.2⟩⟩
  | ins c fs=>obtain⟨C,dx,vs,e0,e1,e2⟩:=h;exact⟨C,dx,vs,e0,e.trans e1,Paired.mapP e2 fun p q z=>⟨z.1,Den.ext x z.2⟩⟩
theorem MOk.there(h:MOk K H a o):∃ u,H a=some u:=by
 cases o with
 | lst ds=>obtain⟨vs,e1,e2⟩:=h;exact⟨_,e1⟩
 | oth o =>
  cases o with
  | dct kvs=>obtain⟨vs,e1,e2⟩:=h;exact⟨_,e1⟩
  | dkt kvs=>obtain⟨vs,e1,e2⟩:=h;exact⟨_,e1⟩
  | dkf ob kvs=>obtain⟨vs,e1,e2⟩:=h;exact⟨_,e1⟩
  | dcf ob kvs=>obtain⟨vs,e1,e2⟩:=h;exact⟨_,e1⟩
  | ins c fs=>obtain⟨C,dx,vs,e0,e1,e2⟩:=h;exact⟨_,e1⟩
theorem SimM.free(h:SimM K M H)(e:H p=none):M p=none:=by
 cases q:M p with
 | none=>rfl
 | some o=>obtain⟨u,e'⟩:=(h p _ q).there;rw[e]at e';cases e'
theorem SimM.get(h:SimM K M H)(e:M a=some (.lst ds)):∃ vs,H a=some (.lst vs)/\Dens K H ds vs:=h a _ e
theorem SimM.new(h:SimM K M H)(e:H p=none):SimM K M (upd H p o):=fun a u q=>by
 obtain⟨u',e1⟩:=(h a _ q).there;exact (h a _ q).keep (Ext.new e) (Q0g (Q0l e1 e))
theorem SimM.newL(h:SimM K M H)(e:H p=none)(r:Dens K H ds vs):SimM K (dupd M p (.lst ds)) (upd H p (.lst vs)):=fun a u q=>by
 by_cases ha:a=p
 ·subst ha;rw[Q0a]at q;cases q;exact⟨vs,Q0d,Dens.ext (Ext.new e) r⟩
 ·rw[Q0b ha]at q;exact (h.new e) a u q
theorem SimM.write(h:SimM K M H)(e:H p=some (.lst ws))(r:Dens K H ds vs):SimM K (dupd M p (.lst ds)) (upd H p (.lst vs)):=fun a u q=>by
 by_cases ha:a=p
 ·subst ha;rw[Q0a]at q;cases q;exact⟨vs,Q0d,Dens.ext (Ext.lst e) r⟩
 ·rw[Q0b ha]at q;exact (h a _ q).keep (Ext.lst e) (Q0g ha)
theorem SimM.put(h:SimM K M H)(x:Ext H (upd H p o))(n:MOk K (upd H p o) p u):SimM K (dupd M p u) (upd H p o):=fun a v q=>by
 by_cases ha:a=p
 ·subst ha;rw[Q0a]at q;cases q;exact n
 ·rw[Q0b ha]at q;exact (h a _ q).keep x (Q0g ha)
noncomputable def ddel(M:DH)(a:Addr):DH:=fun b=>if b=a then none else M b
theorem SimM.del(h:SimM K M H)(a:Addr):SimM K (ddel M a) H:=fun b u q=>by
 unfold ddel at q;by_cases hb:b=a
 ·rw[Zg hb]at q;cases q
 ·rw[Zc hb]at q;exact h b u q
theorem SimM.frz(h:SimM K M H)(e:H p=some (.lst ws)):SimM K (ddel M p) (upd H p o):=fun a u q=>by
 unfold ddel at q;by_cases ha:a=p
 ·rw[Zg ha]at q;cases q
 ·rw[Zc ha]at q;exact (h a _ q).keep (Ext.lst e) (Q0g ha)
end
noncomputable abbrev DK:=D->DH->Prop
noncomputable abbrev DTE:=DSt->DH->DK->Prop
noncomputable abbrev DTT:=DSt->DH->(Bool->DH->Prop)->Prop
noncomputable abbrev DTA:=DSt->DH->(List D->DH->Prop)->Prop
structure zb6 where
 nx:DSt->DH->Prop
 rt:DK
 bk:DSt->DH->Prop
 ct:DSt->DH->Prop
noncomputable abbrev DTS:=zb6->DSt->DH->Prop
noncomputable def Aft(K:Frag)(H:Hp)(R:DK)(Q:VK):Prop:=∀ d M' v H',R d M'->Ext H H'->SimM K M' H'->Den K H' d v->Q v H'
noncomputable def lE(K:Frag)(t:DTE):TE:=fun σ H Q=>∃ ρ M R,SimS K H ρ σ/\SimM K M H/\t ρ M R/\Aft K H R Q
noncomputable def lT(K:Frag)(t:DTT):TT:=fun σ H Q=>∃ ρ M R,SimS K H ρ σ/\SimM K M H/\t ρ M R/\∀ b M' H',R b M'->Ext H H'->SimM K M' H'->Q b H'
noncomputable def lA(K:Frag)(t:DTA):TA:=fun σ H Q=>∃ ρ M R,SimS K H ρ σ/\SimM K M H/\t ρ M R/\∀ ds M' vs H',R ds M'->Ext H H'->SimM K M' H'->Dens K H' ds vs->Q vs H'
structure Fin(K:Frag)(H:Hp)(DD:zb6)(D:Ends):Prop where
 nx:∀ ρ' M' σ' H',DD.nx ρ' M'->Ext H H'->SimS K H' ρ' σ'->SimM K M' H'->D.nx σ' H'
 rt:Aft K H DD.rt D.rt
 bk:∀ ρ' M' σ' H',DD.bk ρ' M'->Ext H H'->SimS K H' ρ' σ'->SimM K M' H'->D.bk σ' H'
 ct:∀ ρ' M' σ' H',DD.ct ρ' M'->Ext H H'->SimS K H' ρ' σ'->SimM K M' H'->D.ct σ' H'
noncomputable def lS(K:Frag)(t:DTS):TS:=fun D σ H=>∃ ρ M DD,SimS K H ρ σ/\SimM K M H/\t DD ρ M/\Fin K H DD D
theorem Aft.ext{K:Frag}{H H':Hp}{R:DK}{Q:VK}(a:Aft K H R Q)(x:Ext H H'):Aft K H' R Q:=fun d M v H'' r y=>a d M v H'' r (x.trans y)
theorem Fin.ext{K:Frag}{H H':Hp}{DD:zb6}{D:Ends}(a:Fin K H DD D)(x:Ext H H'):Fin K H' DD D :=
 ⟨fun r M s H2 q y=>a.nx r M s H2 q (x.trans y),a.rt.ext x,fun r M s H2 q y=>a.bk r M s H2 q (x.trans y),fun r M s H2 q y=>a.ct r M s H2 q (x.trans y)⟩
noncomputable abbrev DE(X:Cx)(e:Expr)(t:DTE):Prop:=PE X e (lE X.K t)
noncomputable abbrev DT(X:Cx)(e:Expr)(t:DTT):Prop:=PT X e (lT X.K t)
noncomputable abbrev DW(X:Cx)(e:Expr)(t:DTT):Prop:=PW X e (lT X.K t)
noncomputable abbrev DA(X:Cx)(es:List Expr)(t:DTA):Prop:=PA X es (lA X.K t)
noncomputable abbrev DS(X:Cx)(st:Stmt)(t:DTS):Prop:=PS X st (lS X.K t)
noncomputable abbrev DSs(X:Cx)(st:List Stmt)(t:DTS):Prop:=PSs X st (lS X.K t)
section
variable{X:Cx}{a b c e:Expr}{es:List Expr}{ta tb te:DTE}{tt tu:DTT}{pos:Pos}{K:Frag}
noncomputable def dVar(i:Nat):DTE:=fun ρ M Q=>match ρ[i]? with
 | some (some d)=>Q d M
 | _=>False
theorem dv(i:Nat)(hN:X.N[i]? = some x:=by rfl)(hv:Vis X.env.scope x:=by first | exact Or.inl rfl | exact Or.inr (Or.inl rfl) | exact Or.inr (Or.inr rfl))(hd:(x==("__debug__" : Str))=false:=by decide)
  (hcd:(x==("__classdict__" : Str))=false:=by decide):DE X (.Name x pos) (dVar i):=(Q8t hN hv hd hcd).imp fun σ H Q ⟨ρ,M,R,s,m,h,k⟩=>by
 unfold dVar at h;cases e:ρ[i]? with
 | none=>rw[e]at h;exact h.elim
 | some o =>
  rw[e]at h;cases o with
  | none=>exact h.elim
  | some d =>
   obtain⟨v,e1,e2⟩:=s.get e;exact⟨v,e1,k d M v H h (Ext.refl H) m e2⟩
noncomputable def dC(d:D):DTE:=fun _ M Q=>Q d M
theorem dc_of(h:PE X e (tC v))(hd:∀ H,Den X.K H d v):DE X e (dC d):=h.imp fun σ H Q ⟨ρ,M,R,s,m,h,k⟩=>k d M v H h (Ext.refl H) m (hd H)
theorem QaX{i j pos}:DE X (.Constant (.int i) j pos) (dC (.int i)):=dc_of Qat fun _=>.int i
theorem de_bl{i j pos}:DE X (.Constant (.bool i) j pos) (dC (.bl i)):=dc_of pe_bl fun _=>.bl i
theorem QaY{j pos}:DE X (.Constant .none j pos) (dC .non):=dc_of Qau fun _=>.non
theorem S_of'(x:Str):S x.cps.toList=x:=by unfold S;cases x;simp
theorem QaZ{j pos}(h:(i.cps.toList.all fun c=>decide (c<1114112))=true:=by decide):DE X (.Constant (.str i) j pos) (dC (.str i.cps.toList)):=dc_of Qav fun H=>by
 have q:=Den.str (K:=X.K) (H:=H) i.cps.toList h;rw[S_of']at q;exact q
theorem Q9m(hg:Gl X x)(hm:X.mg x=some u)(r:RelV v u)(hd:∀ H,Den X.K H d v)(hdb:(x==("__debug__" : Str))=false:=by decide):DE X (.Name x pos) (dC d):=dc_of (Q8O hg hm r hdb) hd
noncomputable abbrev DR2:=D->D->DH->DK->Prop
noncomputable def lR2(K:Frag)(r:DR2):R2:=fun x y H Q=>∃ dx dy M R,Den K H dx x/\Den K H dy y/\SimM K M H/\r dx dy M R/\Aft K H R Q
noncomputable abbrev OpD(X:Cx)(f:Value->Value->Sem Value)(r:DR2):Prop:=OpR X f (lR2 X.K r)
noncomputable def dOp(r:DR2)(ta tb:DTE):DTE:=fun ρ M Q=>ta ρ M fun x M1=>tb ρ M1 fun y M2=>r x y M2 Q
theorem Q4k(hr:∀ x y H Q,lR2 K r x y H Q->rV x y H Q)(h:lE K (dOp r ta tb) σ H Q):tOp rV (lE K ta) (lE K tb) σ H Q:=by
 obtain⟨ρ,M,R,s,m,h,k⟩:=h;refine⟨ρ,M,_,s,m,h,fun d1 M1 v1 H1 h1 x1 m1 e1=>⟨ρ,M1,_,s.ext x1,m1,h1,fun d2 M2 v2 H2 h2 x2 m2 e2=>hr _ _ _ _ ⟨d1,d2,M2,R,e1.ext x2,e2,m2,h2,k.ext (x1.trans x2)⟩⟩⟩
theorem de_op(ho:OpD X (binaryOp op) r)(ha:DE X a ta)(hb:DE X b tb):DE X (.BinOp a op b pos) (dOp r ta tb) :=
 (pe_op ho ha hb).imp fun σ H Q h=>Q4k (fun _ _ _ _ q=>q) h
theorem Qb0(ho:OpD X (compareOp op) r)(ha:DE X a ta)(hb:DE X b tb)(hm:behindInMarks op b=false:=by first | exact nobehind _ (by decide) (by decide) | rfl):DE X (.Compare a [op] [b] pos) (dOp r ta tb) :=
 (Q8U ho ha hb hm).imp fun σ H Q h=>Q4k (fun _ _ _ _ q=>q) h
noncomputable def dB(t:DTE):DTT:=fun ρ M Q=>t ρ M fun x M1=>match x with
 | .bl c=>Q c M1
 | _=>False
theorem Qb1(h:DE X e te)(he:∀ whole,isTrue e X.env whole=(do let v <- whole;standAt e.pos;holding [v] (truthy v)):=by intro _;rfl):DT X e (dB te) :=
 (Qaw h he).imp fun σ H Q ⟨ρ,M,R,s,m,h,k⟩=>⟨ρ,M,_,s,m,h,fun d M1 v H1 h1 x1 m1 e1=>by
  cases d with
  | bl c=>cases e1;exact⟨c,rfl,k c M1 H1 h1 x1 m1⟩
  | _=>exact h1.elim⟩
theorem Qb2(ho:OpD X (compareOp op) r)(ha:DE X a ta)(hb:DE X b tb)(hm:behindInMarks op b=false:=by first | exact nobehind _ (by decide) (by decide) | rfl):DT X (.Compare a [op] [b] pos) (dB (dOp r ta tb)) :=
 (Q8V ho ha hb hm).imp fun σ H Q ⟨ρ,M,R,s,m,h,k⟩=>Q4k (r:=r) (fun _ _ _ _ q=>q) ⟨ρ,M,_,s,m,h,fun d M1 v H1 h1 x1 m1 e1=>by
  cases d with
  | bl c=>cases e1;exact⟨c,rfl,k c M1 H1 h1 x1 m1⟩
  | _=>exact h1.elim⟩
noncomputable def dAnd(t u:DTT):DTT:=fun ρ M Q=>t ρ M fun c M1=>if c=true then u ρ M1 Q else Q false M1
noncomputable def dOr(t u:DTT):DTT:=fun ρ M Q=>t ρ M fun c M1=>if c=true then Q true M1 else u ρ M1 Q
noncomputable def dNot(t:DTT):DTT:=fun ρ M Q=>t ρ M fun c M1=>Q (!c) M1
variable{rest:List Expr}
theorem Q9n(ha:DT X a tt):DW X (.BoolOp .And [a] pos) tt:=Q8Q ha
theorem Qb3(ha:DT X a tt):DW X (.BoolOp .Or [a] pos) tt:=Qax ha
theorem Qb4(ha:DT X a tt)(hb:DW X (.BoolOp .And (b::rest) pos) tu):DW X (.BoolOp .And (a::b::rest) pos) (dAnd tt tu) :=
 (Qay ha hb).imp fun σ H Q ⟨ρ,M,R,s,m,h,k⟩=>⟨ρ,M,_,s,m,h,fun c M1 H1 h1 x1 m1=>by
  cases c with
  | true=>exact iteT ⟨ρ,M1,_,s.ext x1,m1,(Zg rfl).mp h1,fun b M2 H2 h2 x2 m2=>k b M2 H2 h2 (x1.trans x2) m2⟩
  | false=>exact iteF (k false M1 H1 ((Zc Zy).mp h1) x1 m1)⟩
theorem dw_or(ha:DT X a tt)(hb:DW X (.BoolOp .Or (b::rest) pos) tu):DW X (.BoolOp .Or (a::b::rest) pos) (dOr tt tu) :=
 (pw_or ha hb).imp fun σ H Q ⟨ρ,M,R,s,m,h,k⟩=>⟨ρ,M,_,s,m,h,fun c M1 H1 h1 x1 m1=>by
  cases c with
  | true=>exact iteT (k true M1 H1 ((Zg rfl).mp h1) x1 m1)
  | false=>exact iteF ⟨ρ,M1,_,s.ext x1,m1,(Zc Zy).mp h1,fun b M2 H2 h2 x2 m2=>k b M2 H2 h2 (x1.trans x2) m2⟩⟩
theorem Qb5(ha:DT X a tt):DT X (.UnaryOp .Not a pos) (dNot tt) :=
 (Qaz ha).imp fun σ H Q ⟨ρ,M,R,s,m,h,k⟩=>⟨ρ,M,_,s,m,h,fun c M1 H1 h1 x1 m1=>k (!c) M1 H1 h1 x1 m1⟩
theorem DW.dt(h:DW X e tt):DT X e tt:=PW.pt h
noncomputable def zbq(ta tb:DTE):DTE:=fun ρ M Q=>ta ρ M fun x M1=>match x with
 | .bl c=>if c=true then tb ρ M1 Q else Q (.bl false) M1
 | _=>False
noncomputable def dOrV(ta tb:DTE):DTE:=fun ρ M Q=>ta ρ M fun x M1=>match x with
 | .bl c=>if c=true then Q (.bl true) M1 else tb ρ M1 Q
 | _=>False
noncomputable def dNotV(ta:DTE):DTE:=fun ρ M Q=>ta ρ M fun x M1=>match x with
 | .bl c=>Q (.bl (!c)) M1
 | _=>False
theorem Q5D{op}(h:DE X a ta):DE X (.BoolOp op [a] pos) ta:=QaA h
theorem Qb6(ha:DE X a ta)(hb:DE X (.BoolOp .And (b::rest) pos) tb):DE X (.BoolOp .And (a::b::rest) pos) (zbq ta tb) :=
 (QaB ha hb).imp fun σ H Q ⟨ρ,M,R,s,m,h,k⟩=>⟨ρ,M,_,s,m,h,fun d M1 v H1 h1 x1 m1 e1=>by
  cases d with
  | bl c =>
   cases e1;refine⟨c,rfl,?_⟩;cases c with
   | true=>exact iteT ⟨ρ,M1,_,s.ext x1,m1,(Zg rfl).mp h1,k.ext x1⟩
   | false=>exact iteF (k _ M1 _ H1 ((Zc Zy).mp h1) x1 m1 (.bl _))
  | _=>exact h1.elim⟩
theorem de_or(ha:DE X a ta)(hb:DE X (.BoolOp .Or (b::rest) pos) tb):DE X (.BoolOp .Or (a::b::rest) pos) (dOrV ta tb) :=
 (pe_or ha hb).imp fun σ H Q ⟨ρ,M,R,s,m,h,k⟩=>⟨ρ,M,_,s,m,h,fun d M1 v H1 h1 x1 m1 e1=>by
  cases d with
  | bl c =>
   cases e1;refine⟨c,rfl,?_⟩;cases c with
   | true=>exact iteT (k _ M1 _ H1 ((Zg rfl).mp h1) x1 m1 (.bl _))
   | false=>exact iteF ⟨ρ,M1,_,s.ext x1,m1,(Zc Zy).mp h1,k.ext x1⟩
  | _=>exact h1.elim⟩
theorem Qb7(ha:DE X a ta):DE X (.UnaryOp .Not a pos) (dNotV ta) :=
 (QaC ha).imp fun σ H Q ⟨ρ,M,R,s,m,h,k⟩=>⟨ρ,M,_,s,m,h,fun d M1 v H1 h1 x1 m1 e1=>by
  cases d with
  | bl c=>cases e1;exact⟨c,rfl,k _ M1 _ H1 h1 x1 m1 (.bl _)⟩
  | _=>exact h1.elim⟩
noncomputable def dIf(t:DTT)(ta tb:DTE):DTE:=fun ρ M Q=>t ρ M fun c M1=>if c=true then ta ρ M1 Q else tb ρ M1 Q
theorem Q7l(hc:DT X c tt)(ha:DE X a ta)(hb:DE X b tb):DE X (.IfExp c a b pos) (dIf tt ta tb) :=
 (Q6M hc ha hb).imp fun σ H Q ⟨ρ,M,R,s,m,h,k⟩=>⟨ρ,M,_,s,m,h,fun c M1 H1 h1 x1 m1=>by
  cases c with
  | true=>exact iteT ⟨ρ,M1,_,s.ext x1,m1,(Zg rfl).mp h1,k.ext x1⟩
  | false=>exact iteF ⟨ρ,M1,_,s.ext x1,m1,(Zc Zy).mp h1,k.ext x1⟩⟩
noncomputable def dNil:DTA:=fun _ M Q=>Q [] M
noncomputable def zaB(ta:DTE)(tr:DTA):DTA:=fun ρ M Q=>ta ρ M fun x M1=>tr ρ M1 fun xs M2=>Q (x::xs) M2
variable{tr:DTA}
theorem Q5E:DA X [] dNil:=Q8w.imp fun σ H Q ⟨ρ,M,R,s,m,h,k⟩=>k [] M [] H h (Ext.refl H) m .nil
theorem Q2J(ha:DE X e te)(hr:DA X es tr)(hs:starEach (e::es) X.env=(false,eval e X.env)::starEach es X.env:=by rfl):DA X (e::es) (zaB te tr) :=
 (Q3M ha hr hs).imp fun σ H Q ⟨ρ,M,R,s,m,h,k⟩=>⟨ρ,M,_,s,m,h,fun d1 M1 v1 H1 h1 x1 m1 e1=>⟨ρ,M1,_,s.ext x1,m1,h1,fun ds M2 vs H2 h2 x2 m2 e2=>k _ M2 _ H2 h2 (x1.trans x2) m2 (.cons (e1.ext x2) e2)⟩⟩
noncomputable def dTup(t:DTA):DTE:=fun ρ M Q=>t ρ M fun xs M1=>xs.length<=sizeLine/\Q (.tup xs) M1
theorem Qb8{x1}(h:DA X es tr):DE X (.Tuple es x1 pos) (dTup tr) :=
 (QaR h).imp fun σ H Q ⟨ρ,M,R,s,m,h,k⟩=>⟨ρ,M,_,s,m,h,fun ds M1 vs H1 ⟨hl,h1⟩ x1 m1 e1=>⟨by rw[<- e1.length];exact hl,fun p hp=>k _ M1 _ _ h1 (x1.trans (Ext.new hp)) (m1.new hp) (.tup Q0d (e1.ext (Ext.new hp)))⟩⟩
noncomputable def dLst(t:DTA):DTE:=fun ρ M Q=>t ρ M fun xs M1=>xs.length<=sizeLine/\∀ p,M1 p=none->Q (.ref p) (dupd M1 p (.lst xs))
theorem Qb9(h:DA X es tr):DE X (.List es pos) (dLst tr) :=
 (Q8x h).imp fun σ H Q ⟨ρ,M,R,s,m,h,k⟩=>⟨ρ,M,_,s,m,h,fun ds M1 vs H1 ⟨hl,h1⟩ x1 m1 e1=>⟨by rw[<- e1.length];exact hl,fun p hp=>k _ _ _ _ (h1 p (m1.free hp)) (x1.trans (Ext.new hp)) (m1.newL hp e1) (.ref p)⟩⟩
noncomputable def dFrz(t:DTE):DTE:=fun ρ M Q=>t ρ M fun d M1=>match d with
 | .ref a=>match M1 a with
  | some (.lst ds)=>Q (.lst ds) (ddel M1 a)
  | _=>False
 | _=>False
theorem Qba(h:DE X e te):DE X e (dFrz te) :=
 (Q5u h).imp fun σ H Q ⟨ρ,M,R,s,m,h,k⟩=>⟨ρ,M,_,s,m,h,fun d M1 v H1 h1 x1 m1 e1=>by
  cases d with
  | ref a =>
   cases e1;cases q:M1 a with
   | none=>simp only[q]at h1
   | some o =>
    cases o with
    | oth _=>simp only[q]at h1
    | lst ds =>
     simp only[q]at h1;obtain⟨vs,e2,e3⟩:=m1.get q;exact⟨a,vs,rfl,e2,fun o=>k _ _ _ _ h1 (x1.trans (Ext.lst e2)) (m1.frz e2) (.lst (.inl ⟨o,Q0d⟩) (e3.ext (Ext.lst e2)))⟩
  | _=>exact h1.elim⟩
noncomputable def lC(K:Frag)(r:List D->DH->DK->Prop):List V->Hp->VK->Prop:=fun vs H Q=>∃ ds M R,Dens K H ds vs/\SimM K M H/\r ds M R/\Aft K H R Q
noncomputable abbrev zaS(X:Cx)(f:Value)(r:List D->DH->DK->Prop):Prop:=CallR X f (lC X.K r)
noncomputable def dCB(r:List D->DH->DK->Prop)(t:DTA):DTE:=fun ρ M Q=>t ρ M fun ds M1=>r ds M1 Q
theorem Q8z{r:List D->DH->DK->Prop}(h:lE K (dCB r t) σ H Q):tCB (lC K r) (lA K t) σ H Q:=by
 obtain⟨ρ,M,R,s,m,h,k⟩:=h;exact⟨ρ,M,_,s,m,h,fun ds M1 vs H1 h1 x1 m1 e1=>⟨ds,M1,R,e1,m1,h1,k.ext x1⟩⟩
theorem Q1W{x:Str}{id:String}{p:Pos}{r:List D->DH->DK->Prop}{t:DTA}(hc:zaS X (.builtin id) r)(hg:Gl X x)(hm:X.mg x=none)(hv:bootBuiltins x=some (.builtin id))(ha:DA X (e::es) t)(hn:x ≠ "__name__":=by decide)(hdb:(x==("__debug__" : Str))=false:=by decide)
  (he:starEach (e::es) X.env=(false,eval e X.env)::starEach es X.env:=by rfl) (hpl:(backTo pos (starEach es X.env)).any (·.1)=false:=by rfl):DE X (.Call (.Name x p) (e::es) [] pos) (dCB r t) :=
 (Q4g hc hg hm hv ha hn hdb he hpl).imp fun _ _ _ h=>Q8z h
theorem Q1D{r:List D->DH->DK->Prop}(hc:zaS X (.type T) r)(hg:Gl X x)(hm:X.mg x=none)(hv:bootBuiltins x=some (.type T))(ha:DA X (e::es) t)(hn:x ≠ "__name__":=by decide)(hdb:(x==("__debug__" : Str))=false:=by decide)
  (he:starEach (e::es) X.env=(false,eval e X.env)::starEach es X.env:=by rfl) (hpl:(backTo pos (starEach es X.env)).any (·.1)=false:=by rfl):DE X (.Call (.Name x p) (e::es) [] pos) (dCB r t) :=
 (Q5n hc hg hm hv ha hn hdb he hpl).imp fun _ _ _ h=>Q8z h
noncomputable abbrev DSp:=List D->DH->DK->Prop
noncomputable def lSp(K:Frag)(sp:DSp):Sp:=fun vs H Q _=>∃ ds M R,Dens K H ds vs/\SimM K M H/\sp ds M R/\Aft K H R Q
noncomputable def zbz(sp:DSp)(dds:List D)(t:DTA):DTE:=fun ρ M Q=>t ρ M fun ds M1=>sp (ds++dds) M1 Q
theorem Q9o{p:Pos}(F:FnOk X.prog X.w X.K X.mg X.base CX k f fd ps (lSp X.K sp))(hr:Room k X.A)(hg:Gl X x)(hm:X.mg x=some (.ref f))(hk:keepIn X.K (.ref f)=true)(hb:Binds X.K fd ps ds)(hd:Vals dvs ds)(hdd:∀ H,Dens X.K H dds dvs)(hx:zau CX X E)
  (ha:DA X (e::es) t) (hdb:(x==("__debug__" : Str))=false:=by decide) (he:starEach (e::es) X.env=(false,eval e X.env)::starEach es X.env:=by rfl) (hpl:(backTo pos (starEach es X.env)).any (·.1)=false:=by rfl) :
  DE X (.Call (.Name x p) (e::es) [] pos) (zbz sp dds t) :=
 (Q8Z F hr hg hm hk hb hd hx ha hdb he hpl).imp fun σ H Q ⟨ρ,M,R,s,m,h,k⟩=>⟨ρ,M,_,s,m,h,fun ds M1 vs H1 h1 x1 m1 e1=>⟨_,M1,R,e1.append (hdd _),m1,h1,k.ext x1⟩⟩
end
section
variable{X:Cx}{a b c e tg iter:Expr}{es:List Expr}{st:Stmt}{sts body:List Stmt}{ta tb te:DTE}{tt tu:DTT}{t u:DTS}{pos:Pos}{K:Frag}
noncomputable def zbS:DTS:=fun D ρ M=>D.nx ρ M
noncomputable def dSeq(t u:DTS):DTS:=fun D ρ M=>t { D with nx:=u D } ρ M
theorem Q9p:DSs X [] zbS:=Q8R.imp fun D σ H ⟨ρ,M,DD,s,m,h,k⟩=>k.nx ρ M σ H h (Ext.refl H) s m
theorem Q7m(h1:DS X st t)(h2:DSs X sts u):DSs X (st::sts) (dSeq t u) :=
 (Q6N h1 h2).imp fun D σ H ⟨ρ,M,DD,s,m,h,k⟩=>⟨ρ,M,_,s,m,h,⟨fun ρ1 M1 σ1 H1 q x s1 m1=>⟨ρ1,M1,DD,s1,m1,q,k.ext x⟩,k.rt,k.bk,k.ct⟩⟩
noncomputable def dBreak:DTS:=fun D ρ M=>D.bk ρ M
noncomputable def dCont:DTS:=fun D ρ M=>D.ct ρ M
noncomputable def dDrop(te:DTE):DTS:=fun D ρ M=>te ρ M fun _ M1=>D.nx ρ M1
theorem Q9q(he:DE X e te)(hs:swapsWith e none pos.line X.env=pure false:=by rfl):DS X (.Expr e pos) (dDrop te) :=
 (Q8S he hs).imp fun D σ H ⟨ρ,M,DD,s,m,h,k⟩=>⟨ρ,M,_,s,m,h,fun d M1 v H1 h1 x1 m1 e1=>k.nx ρ M1 σ H1 h1 x1 (s.ext x1) m1⟩
noncomputable def dRet(te:DTE):DTS:=fun D ρ M=>te ρ M D.rt
theorem Qbb(he:DE X e te):DS X (.Return (some e) pos) (dRet te) :=
 (QaD he).imp fun D σ H ⟨ρ,M,DD,s,m,h,k⟩=>⟨ρ,M,_,s,m,h,k.rt⟩
noncomputable def dRetN:DTS:=fun D _ M=>D.rt .non M
noncomputable def dIfS(c:DTT)(t u:DTS):DTS:=fun D ρ M=>c ρ M fun b M1=>if b=true then t D ρ M1 else u D ρ M1
theorem ds_if{a b:List Stmt}(hc:DT X c tt)(ha:DSs X a t)(hb:DSs X b u):DS X (.If c a b pos) (dIfS tt t u) :=
 (ps_if hc ha hb).imp fun D σ H ⟨ρ,M,DD,s,m,h,k⟩=>⟨ρ,M,_,s,m,h,fun c M1 H1 h1 x1 m1=>by
  cases c with
  | true=>exact iteT ⟨ρ,M1,DD,s.ext x1,m1,(Zg rfl).mp h1,k.ext x1⟩
  | false=>exact iteF ⟨ρ,M1,DD,s.ext x1,m1,(Zc Zy).mp h1,k.ext x1⟩⟩
noncomputable abbrev DTG:=D->DSt->DH->(DSt->DH->Prop)->Prop
noncomputable def lG(K:Frag)(g:DTG):TG:=fun v σ H Q=>∃ d ρ M R,Den K H d v/\SimS K H ρ σ/\SimM K M H/\g d ρ M R/\∀ ρ' M' σ' H',R ρ' M'->Ext H H'->SimS K H' ρ' σ'->SimM K M' H'->Q σ' H'
noncomputable abbrev DG(X:Cx)(tg:Expr)(g:DTG):Prop:=PG X tg (lG X.K g)
noncomputable def zat(i:Nat):DTG:=fun d ρ M Q=>Q (ρ.set i (some d)) M
theorem Q9r(hN:X.N.Nodup)(hi:X.N[i]? = some x)(hx:Loc X.env.scope x)(hf:X.fn x=true\/X.env.scope.names.lookup x=some .local:=by first | exact .inl rfl | exact .inr rfl | assumption):DG X (.Name x pos) (zat i) :=
 (Q5d hN hi hx hf).imp fun v σ H Q ⟨d,ρ,M,R,e,s,m,h,k⟩=>k _ M _ H h (Ext.refl H) (s.set e i) m
noncomputable abbrev DTGs:=List D->DSt->DH->(DSt->DH->Prop)->Prop
noncomputable def lGs(K:Frag)(g:DTGs):TGs:=fun vs σ H Q=>∃ ds ρ M R,Dens K H ds vs/\SimS K H ρ σ/\SimM K M H/\g ds ρ M R/\∀ ρ' M' σ' H',R ρ' M'->Ext H H'->SimS K H' ρ' σ'->SimM K M' H'->Q σ' H'
noncomputable abbrev DGs(X:Cx)(ts:List Expr)(g:DTGs):Prop:=PGs X ts (lGs X.K g)
theorem PGs.imp(h:PGs X ts T)(i:∀ v σ H R,T' v σ H R->T v σ H R):PGs X ts T':=fun pins s σ H v u R I r q=>h pins s σ H v u R I r (i v σ H R q)
noncomputable def dgNil:DTGs:=fun ds ρ M Q=>match ds with
 | []=>Q ρ M
 | _=>False
noncomputable def zaU(t:DTG)(u:DTGs):DTGs:=fun ds ρ M Q=>match ds with
 | d::r=>t d ρ M fun ρ' M'=>u r ρ' M' Q
 | []=>False
theorem Q9s:DGs X [] dgNil:=PGs.imp Q5e fun vs σ H Q ⟨ds,ρ,M,R,e,s,m,h,k⟩=>by
 cases e with
 | nil=>exact⟨rfl,k ρ M σ H h (Ext.refl H) s m⟩
 | cons _ _=>exact h.elim
theorem Q4l(h1:DG X e g)(h2:DGs X es gs)
  (hs:(assignEach (e::es) X.env).map (·.2)=assign e X.env::(assignEach es X.env).map (·.2):=by rfl):DGs X (e::es) (zaU g gs):=PGs.imp (Q2E h1 h2 hs) fun vs σ H Q ⟨ds,ρ,M,R,e,s,m,h,k⟩=>by
 cases e with
 | nil=>exact h.elim
 | cons a t=>exact⟨_,_,rfl,_,ρ,M,_,a,s,m,h,fun ρ1 M1 σ1 H1 q x s1 m1=>⟨_,ρ1,M1,R,t.ext x,s1,m1,q,fun ρ2 M2 σ2 H2 q2 x2 s2 m2=>k ρ2 M2 σ2 H2 q2 (x.trans x2) s2 m2⟩⟩
noncomputable def dgTup(n:Nat)(t:DTGs):DTG:=fun d ρ M Q=>match d with
 | .tup ds=>ds.length=n/\t ds ρ M Q
 | _=>False
theorem Qbc(hc:X.calm=true)(h:DGs X es gs)
  (hn:(assignEach es X.env).length=n:=by rfl) (hst:(assignEach es X.env).findIdx? (·.1)=none:=by rfl):DG X (.Tuple es k pos) (dgTup n gs) :=
 (Q8u hc h hn hst).imp fun v σ H Q ⟨d,ρ,M,R,e,s,m,h,k⟩=>by
  cases e with
  | tup q r=>exact⟨_,_,rfl,.of q,r.length.symm.trans h.1,_,ρ,M,R,r,s,m,h.2,k⟩
  | _=>exact h.elim
noncomputable def dAsg(te:DTE)(g:DTG):DTS:=fun D ρ M=>te ρ M fun x M1=>g x ρ M1 D.nx
theorem Q5F{g:DTG}{gV:TG}{teV:TE}{D:Ends}{σ:St}{H:Hp}(h1:∀ σ H Q,lE K te σ H Q->teV σ H Q)(h2:∀ v σ H Q,lG K g v σ H Q->gV v σ H Q)(h:lS K (dAsg te g) D σ H):tAsg teV gV D σ H:=by
 obtain⟨ρ,M,DD,s,m,h,k⟩:=h;exact h1 _ _ _ ⟨ρ,M,_,s,m,h,fun d M1 v H1 q x m1 e1=>h2 _ _ _ _ ⟨d,ρ,M1,_,e1,s.ext x,m1,q,fun ρ2 M2 σ2 H2 q2 x2 s2 m2=>k.nx ρ2 M2 σ2 H2 q2 (x.trans x2) s2 m2⟩⟩
theorem Qbd(he:DE X e te)(hg:DG X tg g)(hs:swapsWithSole [tg] e pos.line X.env=pure false:=by rfl)(hw:swappedStores [tg] e X.env=pure none:=by rfl)(h1:(assignEach [tg] X.env).map (·.2)=[assign tg X.env]:=by rfl):DS X (.Assign [tg] e pos) (dAsg te g) :=
 (QaE he hg hs hw h1).imp fun D σ H h=>Q5F (fun _ _ _ q=>q) (fun _ _ _ _ q=>q) h
noncomputable def dSet(i:Nat)(te:DTE):DTS:=fun D ρ M=>te ρ M fun x M1=>D.nx (ρ.set i (some x)) M1
theorem Q8A(hN:X.N.Nodup)(hi:X.N[i]? = some x)(hx:Loc X.env.scope x)(he:DE X e te)(hs:swapsWith e (some (.Name x pos')) pos.line X.env=pure false:=by rfl)(hf:X.fn x=true\/X.env.scope.names.lookup x=some .local:=by first | exact .inl rfl | exact .inr rfl | assumption) :
  DS X (.Assign [.Name x pos'] e pos) (dSet i te) :=
 (QaF hN hi hx he hs hf).imp fun D σ H h=>by
  obtain⟨ρ,M,DD,s,m,h,k⟩:=h;exact⟨ρ,M,_,s,m,h,fun d M1 v H1 q x m1 e1=>k.nx _ M1 _ H1 q x ((s.ext x).set e1 i) m1⟩
structure Yields(K:Frag)(J:It)(items:List D)(Cd:DH->Prop)(H:Hp):Prop where
 go:∀ i H' M,Ext H H'->SimM K M H'->Cd M->i<items.length->J.go i H'
 yld:∀ i H' M x H'',Ext H H'->SimM K M H'->Cd M->J.yld i H' x H''->i<items.length->Ext H' H''/\SimM K M H''/\∃ d,items[i]? = some d/\Den K H'' d x
 stop:∀ i H' M,Ext H H'->SimM K M H'->Cd M->items.length<=i->J.stop i H'
noncomputable abbrev DTI:=DSt->DH->(List D->(DH->Prop)->DH->Prop)->Prop
noncomputable def lI(K:Frag)(wi:DTI):TI:=fun σ H R=>∃ ρ M RD,SimS K H ρ σ/\SimM K M H/\wi ρ M RD/\∀ items Cd M' H' J,RD items Cd M'->Ext H H'->SimM K M' H'->Yields K J items Cd H'->R J H'
noncomputable abbrev DI(X:Cx)(tg iter:Expr)(wi:DTI):Prop:=PI X tg iter (lI X.K wi)
noncomputable def zb4(g:DTG)(tb:DTS)(DD:zb6)(Cd:DH->Prop):List D->DSt->DH->Prop
 | [],ρ,M=>Cd M/\DD.nx ρ M
 | d::ds,ρ,M=>Cd M/\g d ρ M fun ρ' M'=>tb { DD with nx:=zb4 g tb DD Cd ds,ct:=zb4 g tb DD Cd ds,bk:=DD.nx } ρ' M'
noncomputable def dFor(wi:DTI)(g:DTG)(tb:DTS):DTS:=fun DD ρ M=>wi ρ M fun items Cd M1=>zb4 g tb DD Cd items ρ M1
theorem Qbe{wi:DTI}{g:DTG}{tb:DTS}(hp:PassesOwn (model X.prog X.w) X.A X.env X.xe)(hc:X.calm=true)(hi:DI X tg iter wi)(hg:DG X tg g)(hb:DSs X body tb)
  (hs:∀ x,foldedSetIterable iter X.env x=pure x:=by intro _;rfl):DS X (.For tg iter body [] pos) (dFor wi g tb) :=
 (QaG hp hc hi hg hb hs).imp fun D σ H ⟨ρ,M,DD,s,m,h,k⟩=>⟨ρ,M,_,s,m,h,fun items Cd M1 H1 J h1 x1 m1 Y=>by
  refine⟨fun i mm σ' H'=>mm=items.length-i/\i<=items.length/\∃ ρ' M',Ext H1 H'/\SimS X.K H' ρ' σ'/\SimM X.K M' H'/\zb4 g tb DD Cd (items.drop i) ρ' M',⟨_,rfl,ZX _,ρ,M1,Ext.refl _,s.ext x1,m1,h1⟩,?_⟩;rintro i mm σ' H' ⟨rfl,hi,ρ',M',x',s',m',h'⟩;by_cases hlt:i<items.length
  ·right;have hd:items.drop i=items[i]::items.drop (i+1):=drop_eq_getElem_cons hlt;rw[hd]at h';obtain⟨cd,h'⟩:=h';refine⟨Y.go i H' M' x' m' cd hlt,fun σ2 H2=>∃ ρ2 M2,Ext H1 H2/\SimS X.K H2 ρ2 σ2/\SimM X.K M2 H2/\zb4 g tb DD Cd (items.drop (i+1)) ρ2 M2,fun σ2 H2 ⟨ρ2,M2,x2,s2,m2,h2⟩=>⟨_,(show items.length-(i+1)<items.length-i by omega),rfl,hlt,ρ2,M2,x2,s2,m2,h2⟩,fun x Hy yl=>?_⟩
   obtain⟨xy,my,d,ed,den⟩:=Y.yld i H' M' x Hy x' m' cd yl hlt;have:items[i]=d:=by
    rw[Zf hlt]at ed;exact ZB ed
   rw[this]at h';have xx:=x'.trans xy;refine⟨d,ρ',M',_,den,s'.ext xy,my,h',fun ρ3 M3 σ3 H3 q3 x3 s3 m3=>⟨ρ3,M3,_,s3,m3,q3,?_⟩⟩;have xz:=xx.trans x3;exact⟨fun ρ4 M4 σ4 H4 q4 x4 s4 m4=>⟨ρ4,M4,xz.trans x4,s4,m4,q4⟩,(k.ext (x1.trans xz)).rt,fun ρ4 M4 σ4 H4 q4 x4 s4 m4=>(k.ext (x1.trans xz)).nx ρ4 M4 σ4 H4 q4 x4 s4 m4,fun ρ4 M4 σ4 H4 q4 x4 s4 m4=>⟨ρ4,M4,xz.trans x4,s4,m4,q4⟩⟩
  ·left;have hd:items.drop i=[]:=Yd (le_of_not_lt hlt);rw[hd]at h';exact⟨Y.stop i H' M' x' m' h'.1 (le_of_not_lt hlt),(k.ext (x1.trans x')).nx ρ' M' σ' H' h'.2 (Ext.refl _) s' m'⟩⟩
noncomputable def zaq(fr:DSt)(unp:D->Option (List D))(tc:DTT)(te:DTE)(Cd:DH->Prop)(Q:List D->DH->Prop):List D->List D->DH->Prop
 | [],ys,M=>Cd M/\Q ys M
 | d::ds,ys,M=>Cd M/\match unp d with
  | some us=>tc (us.map some++fr) M fun b M3 =>
   if b=true then te (us.map some++fr) M3 fun z M4=>ys.length<sizeLine/\zaq fr unp tc te Cd Q ds (ys++[z]) M4 else zaq fr unp tc te Cd Q ds ys M3
  | none=>False
noncomputable def zbp(wi:DTI)(ix:List Nat)(unp:D->Option (List D))(tc:DTT)(te:DTE):DTE:=fun ρ M Q=>wi ρ M fun items Cd M1 =>
 zaq (ix.map fun i=>(ρ[i]?).getD none) unp tc te Cd (fun ys M2=>ys.length<=sizeLine/\∀ a,M2 a=none->Q (.ref a) (dupd M2 a (.lst ys))) items [] M1
structure Unp(K:Frag)(k:Nat)(unp:D->Option (List D))(gV:TG):Prop where
 len:∀ d us,unp d=some us->us.length=k
 to:∀ d v us frV H Q,Den K H d v->unp d=some us->(∀ ws,Dens K H us ws->Q (ws.map some++frV) H)->gV v (List.replicate k none++frV) H Q
theorem unp1:Unp K 1 (fun d=>some [d]) (zaR 0) where
 len:=fun d us e=>by cases e;rfl
 to:=fun d v us frV H Q den e h=>by cases e;exact h [v] (.cons den .nil)
noncomputable def zbt:D->Option (List D)
 | .tup [a,b]=>some [a,b]
 | _=>none
theorem unp2:Unp K 2 zbt (gTup K 2 (zbP (zaR 0) (zbP (zaR 1) gNil))) where
 len:=fun d us e=>by
  unfold zbt at e;split at e
  ·cases e;rfl
  ·cases e
 to:=fun d v us frV H Q den e h=>by
  unfold zbt at e;split at e
  ·cases e;cases den with
   | tup q r =>
    cases r with
    | cons r1 r =>
     cases r with
     | cons r2 r =>
      cases r;exact⟨_,_,rfl,.of q,rfl,_,_,rfl,_,_,rfl,rfl,h _ (.cons r1 (.cons r2 .nil))⟩
  ·cases e
theorem Q4m{unp:D->Option (List D)}(hu:Unp K k unp gV)
  (h:lE K (zbp wi ix unp tc te) σ H Q):tComp (lI K wi) k ix gV (lT K tc) (lE K te) σ H Q:=by
 obtain⟨ρ,M,R,s,m,h,kk⟩:=h;refine⟨ρ,M,_,s,m,h,fun items Cd M1 H1 J h1 x1 m1 Y=>?_⟩;refine⟨fun i mm ys H'=>mm=items.length-i/\i<=items.length/\∃ M' zs,Ext H1 H'/\SimM K M' H'/\Dens K H' zs ys/\zaq (ix.map fun i=>(ρ[i]?).getD none) unp tc te Cd (fun ys M2=>ys.length<=sizeLine/\∀ a,M2 a=none->R (.ref a) (dupd M2 a (.lst ys))) (items.drop i) zs M',⟨_,rfl,ZX _,M1,[],Ext.refl _,m1,.nil,h1⟩,?_⟩;rintro i mm ys H' ⟨rfl,hi,M',zs,x',m',dz,h'⟩;by_cases hlt:i<items.length
 ·right;have hd:items.drop i=items[i]::items.drop (i+1):=drop_eq_getElem_cons hlt;rw[hd]at h';obtain⟨cd,h'⟩:=h';refine⟨Y.go i H' M' x' m' cd hlt,fun y Hy yl=>?_⟩;obtain⟨xy,my,d,ed,den⟩:=Y.yld i H' M' y Hy x' m' cd yl hlt;have:items[i]=d:=by
   rw[Zf hlt]at ed;exact ZB ed
  rw[this]at h';cases eu:unp d with
  | none=>rw[eu]at h';exact h'.elim
  | some us =>
   rw[eu]at h';refine hu.to d y us _ Hy _ den eu fun ws dw=>?_;have hk:ws.length=k:=by rw[<- dw.length];exact hu.len d us eu
   refine⟨?_,?_,?_⟩
   ·rw[List.drop_left' (by rw[Zb];exact hk)]
   ·rw[Zl,Zb,Zb,hk]
   ·have xx:=x'.trans xy;have sρ:SimS K Hy (us.map some++ix.map fun i=>(ρ[i]?).getD none) (ws.map some++ix.map fun i=>(σ[i]?).getD none):=(SimS.ofDens dw).append ((s.ext (x1.trans xx)).pick ix);refine⟨_,M',_,sρ,my,h',fun b M3 H3 h3 x3 m3=>?_⟩;cases b with
    | true =>
     refine iteT ⟨_,M3,_,sρ.ext x3,m3,(Zg rfl).mp h3,fun z M4 v H4 ⟨hz,h4⟩ x4 m4 e4=>⟨by rw[<- dz.length];exact hz,_,(show items.length-(i+1)<items.length-i by omega),rfl,hlt,M4,_,(xx.trans x3).trans x4,m4,(dz.ext (xy.trans (x3.trans x4))).append (.cons e4 .nil),h4⟩⟩
    | false=>exact iteF ⟨_,(show items.length-(i+1)<items.length-i by omega),rfl,hlt,M3,zs,xx.trans x3,m3,dz.ext (xy.trans x3),(Zc Zy).mp h3⟩
 ·left;have hd:items.drop i=[]:=Yd (le_of_not_lt hlt);rw[hd]at h';obtain⟨cd,hz,q⟩:=h';exact⟨Y.stop i H' M' x' m' cd (le_of_not_lt hlt),by rw[<- dz.length];exact hz,fun a ha=>kk _ _ _ _ (q a (m'.free ha)) ((x1.trans x').trans (Ext.new ha)) (m'.newL ha dz) (.ref a)⟩
section
variable{scope:Scope}{N fn:List Str}{k:Nat}{ix:List Nat}{elt:Expr}{ifs:List Expr}{wi:DTI}{unp:D->Option (List D)}{gV:TG}{tc:DTT}
noncomputable abbrev DIfs(X:Cx)(ifs:List Expr)(t:DTT):Prop:=PIfs X ifs (lT X.K t)
noncomputable def zb3:DTT:=fun _ M Q=>Q true M
theorem Q7n:DIfs X [] zb3:=fun pins s σ H Q I ⟨ρ,M,R,sm,m,h,k⟩=>Q7b pins s σ H Q I (k true M H h (Ext.refl H) m)
theorem Q2K(h:DT X c tc):DIfs X [c] tc:=Q7c h
theorem Q9t(tp:Top X){R0:Value->Hp->Prop}(hx0:zai X fun cls _ H=>R0 cls H)(hu:Unp X.K k unp gV)(hc:X.calm=true)(ok:zav X.env.scope scope N k fn)(hix:ix.map (fun i=>X.N[i]?)=fn.map some)(hi:DI X tg iter wi)
  (hg:∀ cl C s₀ H₀ ex E,PG (za2 X scope N cl C s₀ H₀ ex E) tg gV) (ht:∀ cl C s₀ H₀ ex E,zai (za2 X scope N cl C s₀ H₀ ex E) (fun cls _ H=>R0 cls H)->DIfs (za2 X scope N cl C s₀ H₀ ex E) ifs tc) (he:∀ cl C s₀ H₀ ex E,zai (za2 X scope N cl C s₀ H₀ ex E) (fun cls _ H=>R0 cls H)->DE (za2 X scope N cl C s₀ H₀ ex E) elt te)
  (hs:∀ x,foldedSetIterable iter X.env x=pure x:=by intro _;rfl):DE X (.ListComp elt [⟨tg,iter,ifs,0⟩] scope pos) (zbp wi ix unp tc te) :=
 (Q4h tp hx0 hc ok hix hi hg ht he hs).imp fun _ _ _ h=>Q4m hu h
theorem Q4O(tp:Top X){R0:Value->Hp->Prop}(hx0:zai X fun cls _ H=>R0 cls H)(hsw:swapsWith (.ListComp elt [⟨tg,iter,ifs,0⟩] scope pos) (some (.Name x pos')) spos.line X.env=pure true)
  (hN:X.N.Nodup) (hiN:X.N[i]? = some x) (hx:X.env.scope.names.lookup x=some .local) (hu:Unp X.K k unp gV) (hc:X.calm=true) (ok:zav X.env.scope scope N k fn) (hix:ix.map (fun i=>X.N[i]?)=fn.map some) (hi:DI X tg iter wi)
  (hg:∀ cl C s₀ H₀ ex E,PG (za2 X scope N cl C s₀ H₀ ex E) tg gV) (ht:∀ cl C s₀ H₀ ex E,zai (za2 X scope N cl C s₀ H₀ ex E) (fun cls _ H=>R0 cls H)->DIfs (za2 X scope N cl C s₀ H₀ ex E) ifs tc) (he:∀ cl C s₀ H₀ ex E,zai (za2 X scope N cl C s₀ H₀ ex E) (fun cls _ H=>R0 cls H)->DE (za2 X scope N cl C s₀ H₀ ex E) elt te)
  (hs:∀ x,foldedSetIterable iter X.env x=pure x:=by intro _;rfl):DS X (.Assign [.Name x pos'] (.ListComp elt [⟨tg,iter,ifs,0⟩] scope pos) spos) (dAsg (zbp wi ix unp tc te) (zat i)) :=
 (Q2f tp hx0 hsw hN hiN hx hc ok hix hi hg ht he hs).imp fun D σ H h=>Q5F (fun _ _ _ q=>Q4m hu q) (fun v σ H Q ⟨d,ρ,M,R,e,s,m,h,k⟩=>k _ M _ H h (Ext.refl H) (s.set e i) m) h
end
theorem Yields.tup{a:Addr}{ds:List D}{vs:List V}{H:Hp}{Cd:DH->Prop}(q:SqT K H a vs)(r:Dens K H ds vs):Yields K (Itt K a) ds Cd H where
 go:=fun i H' M x m c hi=>by
  have hi':i<vs.length:=by rw[<- r.length];exact hi
  exact⟨vs,vs[i],SqT.ext x q,Zf hi'⟩
 yld:=fun i H' M y H'' x m c ⟨e,h⟩ hi=>by
  subst e;obtain⟨d,e1,e2⟩:=r.get' (h vs (SqT.ext x q));exact⟨Ext.refl _,m,d,e1,e2.ext x⟩
 stop:=fun i H' M x m c hi=>⟨vs,SqT.ext x q,by rw[<- r.length];exact hi⟩
theorem Yields.fz{a:Addr}{ds:List D}{vs:List V}{H:Hp}{Cd:DH->Prop}(q:FzL K H a vs)(r:Dens K H ds vs):Yields K (Itl K a) ds Cd H where
 go:=fun i H' M x m c hi=>by
  have hi':i<vs.length:=by rw[<- r.length];exact hi
  exact⟨vs,vs[i],(FzL.ext x q).sq,Zf hi'⟩
 yld:=fun i H' M y H'' x m c ⟨e,h⟩ hi=>by
  subst e;obtain⟨d,e1,e2⟩:=r.get' (h vs (FzL.ext x q).sq);exact⟨Ext.refl _,m,d,e1,e2.ext x⟩
 stop:=fun i H' M x m c hi=>⟨vs,(FzL.ext x q).sq,by rw[<- r.length];exact hi⟩
theorem Yields.mut{a:Addr}{ds:List D}{H:Hp}:Yields K (Itl K a) ds (fun M=>M a=some (.lst ds)) H where
 go:=fun i H' M x m c hi=>by
  obtain⟨vs,e,r⟩:=m.get c;have hi':i<vs.length:=by rw[<- r.length];exact hi
  exact⟨vs,vs[i],.of e,Zf hi'⟩
 yld:=fun i H' M y H'' x m c ⟨e,h⟩ hi=>by
  subst e;obtain⟨vs,e,r⟩:=m.get c;obtain⟨d,e1,e2⟩:=r.get' (h vs (.of e));exact⟨Ext.refl _,m,d,e1,e2⟩
 stop:=fun i H' M x m c hi=>by
  obtain⟨vs,e,r⟩:=m.get c;exact⟨vs,.of e,by rw[<- r.length];exact hi⟩
noncomputable def rngD(lo:Int)(n:Nat):List D:=(List.range n).map fun(i:Nat)=>D.int (lo+(i:Int))
theorem Yields.rng{lo:Int}{n:Nat}{H:Hp}{Cd:DH->Prop}:Yields K (Itr lo n) (rngD lo n) Cd H where
 go:=fun i H' M x m c hi=>by
  show i<n;simpa[rngD]using hi
 yld:=fun i H' M y H'' x m c ⟨e,h⟩ hi=>by
  subst e h;have hi':i<n:=by simpa[rngD]using hi
  exact⟨Ext.refl _,m,.int (lo+i),by simp[rngD,hi'],.int _⟩
 stop:=fun i H' M x m c hi=>by
  have:(rngD lo n).length=n:=by simp[rngD]
  rw[this]at hi;exact hi
noncomputable def zbb(ta:DTA):DTI:=fun ρ M R=>ta ρ M fun ds M1=>match ds with
 | [.int j]=>-(2 ^ 62)<=j/\j<2 ^ 62/\R (rngD 0 j.toNat) (fun _=>True) M1
 | _=>False
noncomputable def zbv(ta:DTA):DTI:=fun ρ M R=>ta ρ M fun ds M1=>match ds with
 | [.int i,.int j]=>(-(2 ^ 62)<=i/\i<2 ^ 62 /\ -(2 ^ 62)<=j/\j<2 ^ 62)/\R (rngD i (j-i).toNat) (fun _=>True) M1
 | _=>False
theorem Q5G(hg:Gl X "range")(hm:X.mg "range" = none)(ha:DA X [a] tr)(hs:starEach [a] X.env=[(false,eval a X.env)]:=by rfl):DI X tg (.Call (.Name "range" p) [a] [] pos) (zbb tr) :=
 (Q5g hg hm ha hs).imp fun σ H R ⟨ρ,M,RD,s,m,h,k⟩=>⟨ρ,M,_,s,m,h,fun ds M1 vs H1 h1 x1 m1 e1=>by
  unfold zbb at h;cases e1 with
  | nil=>exact h1.elim
  | cons d1 e2 =>
   cases e2 with
   | cons d2 e3=>cases d1 <;> exact h1.elim
   | nil =>
    cases d1 with
    | int j=>exact⟨j,rfl,h1.1,h1.2.1,k _ _ M1 H1 _ h1.2.2 x1 m1 Yields.rng⟩
    | _=>exact h1.elim⟩
theorem Q5H(hg:Gl X "range")(hm:X.mg "range" = none)(ha:DA X [a,b] tr)(hs:starEach [a,b] X.env=[(false,eval a X.env),(false,eval b X.env)]:=by rfl)(hs2:starEach [b] X.env=[(false,eval b X.env)]:=by rfl):DI X tg (.Call (.Name "range" p) [a,b] [] pos) (zbv tr) :=
 (Q5h hg hm ha hs hs2).imp fun σ H R ⟨ρ,M,RD,s,m,h,k⟩=>⟨ρ,M,_,s,m,h,fun ds M1 vs H1 h1 x1 m1 e1=>by
  cases e1 with
  | nil=>exact h1.elim
  | cons d1 e2 =>
   cases e2 with
   | nil=>cases d1 <;> exact h1.elim
   | cons d2 e3 =>
    cases e3 with
    | cons d3 e4=>cases d1 <;> cases d2 <;> exact h1.elim
    | nil =>
     cases d1 with
     | int i =>
      cases d2 with
      | int j=>exact⟨i,j,rfl,h1.1,k _ _ M1 H1 _ h1.2 x1 m1 Yields.rng⟩
      | _=>exact h1.elim
     | _=>cases d2 <;> exact h1.elim⟩
end
noncomputable def za1(N:List Str)(ds:List D):DSt:=ds.map some++List.replicate (N.length-ds.length) none
noncomputable def dLaw(n:Nat):DSp:=fun ds M R=>match ds with
 | [.lst ds]=>∃ ns:List Int,ds=ns.map D.int/\ns.length<=n/\R (.bl true) M
 | _=>False
theorem Q3k{K:Frag}{H:Hp}:∀ ns:List Int,Dens K H (ns.map D.int) (ns.map V.int)
 | []=>.nil
 | n::r=>.cons (.int n) (Q3k r)
theorem Qbf{K:Frag}{H:Hp}{a:Addr}{ns:List Int}{n:Nat}(hl:ns.length<=n)(hO:Only H)(hS:SqL K H a (ns.map V.int)):lSp K (dLaw n) [.ref a] H (fun v _=>v=.bl true) fun _ _ _=>False:=by
 refine⟨[.lst (ns.map D.int)],fun _=>none,fun d _=>d=.bl true,.cons (.lst ?_ (Q3k ns)) .nil,(fun b o e=>nomatch e),⟨ns,rfl,hl,rfl⟩,fun d M v H' q _ _ e=>?_⟩
 ·rcases hS with (h | ⟨o,h⟩) | h
  ·rcases hO a with z | ⟨o,xs,z⟩
   ·rw[h]at z;cases z
   ·rw[h]at z;cases z
  ·exact .inl ⟨o,h⟩
  ·exact .inr h
 ·have q':d=.bl true:=q;subst q';cases e;rfl
section
variable{X:Cx}{a b c e:Expr}{es:List Expr}{ta tb te:DTE}{tt tu:DTT}{pos:Pos}{K:Frag}
noncomputable abbrev cpOk(x:List Nat):Prop:=(x.all fun c=>decide (c<1114112))=true
theorem cpOk.app(h:cpOk x)(h':cpOk y):cpOk (x++y):=by
 show ((x++y).all _)=true;rw[List.all_append,h,h'];rfl
theorem cpOk.sub(h:cpOk x)(hs:∀ c∈y,c∈x):cpOk y:=ZN.mpr fun c hc=>(ZN.mp h) c (hs c hc)
theorem Q7o(x y:List Nat):S x++S y=S (x++y):=by
 show Str.append (S x) (S y)=S (x++y);unfold Str.append S;simp
theorem Q1c(x:List Nat):(S x).length=x.length:=by unfold S Str.length;simp
theorem S_inj(h:S x=S y):x=y:=by
 unfold S at h;have:=congrArg (fun z:Str=>z.cps.toList) h;simpa using this
theorem Q7p(x:List Nat):(S x).cps.toList=x:=by unfold S;simp
theorem S_of(x:Str):S x.cps.toList=x:=by unfold S;cases x;simp
noncomputable def rI2(C:Int->Int->Prop)(g:Int->Int->Int):DR2:=fun x y M Q=>match x,y with
 | .int i,.int j=>C i j/\Q (.int (g i j)) M
 | _,_=>False
theorem opI2{f:Value->Value->Sem Value}{C:Int->Int->Prop}{g:Int->Int->Int}(h:OpR X f (rI C fun i j=>.int (g i j))):OpD X f (rI2 C g):=by
 rintro pins s σ H x y v u Q I rx ry ⟨dx,dy,M,R,ex,ey,m,q,k⟩;cases ex <;> cases ey <;> first | exact False.elim q | skip
 exact h pins s σ H _ _ v u Q I rx ry ⟨_,_,rfl,rfl,q.1,k _ M _ H q.2 (Ext.refl H) m (.int _)⟩
theorem Qbg{f:Value->Value->Sem Value}{g:Int->Int->V}(h:OpR X f (rI0 g)):OpR X f (rI (fun _ _=>True) g):=h.imp fun x y H Q ⟨i,j,e1,e2,_,q⟩=>⟨i,j,e1,e2,q⟩
theorem Qbh:OpD X (binaryOp .Sub) (rI2 (fun _ _=>True) fun i j=>i-j):=opI2 (Qbg QaI)
theorem Qbi:OpD X (binaryOp .Mult) (rI2 CMul fun i j=>i * j):=opI2 QaJ
theorem Qbj:OpD X (binaryOp .Mod) (rI2 (fun _ j=>0<j) fun i j=>i % j):=opI2 QaK
theorem Qbk:OpD X (binaryOp .Pow) (rI2 CPow fun i j=>i ^ j.toNat):=opI2 QaL
noncomputable def zbM:DR2:=fun x y M Q=>match x,y with
 | .int i,.int j=>Q (.int (i+j)) M
 | .str a,.str b=>a.length+b.length<=sizeLine/\Q (.str (a++b)) M
 | .tup xs,.tup ys=>xs.length+ys.length<=sizeLine/\Q (.tup (xs++ys)) M
 | _,_=>False
theorem Q9u{s:Shared}{A:Around}{prog:Program}{w:World}{E:Value->Shared->Prop}{t b:Addr}{vs ws:List Value}{Q:Value->Shared->Prop}(ht:IsTup s.heap t vs.toArray)(hb:IsTup s.heap b ws.toArray)
  (h0:vs=[]->Q (.ref b) s) (h1:ws=[]->Q (.ref t) s) (h2:Q (.ref s.heap.objs.size) { s with heap:=s.heap.push { cls:=.type "tuple",data:=.seq (vs++ws).toArray } })
  (hsz:vs.length+ws.length<=sizeLine):wpAny (model prog w) A (binaryOp .Add (.ref t) (.ref b)) Q E s:=by
 obtain⟨⟨cls,dd,data,sl⟩,ho,hc,n,hd⟩:=id ht;obtain⟨⟨cls2,dd2,data2,sl2⟩,ho2,hc2,n2,hd2⟩:=id hb;simp only at hc hd hc2 hd2;subst hc hd hc2 hd2;have e:vs.toArray++ws.toArray=(vs++ws).toArray:=by simp
 by_cases hv:vs=[]
 ·exact concat_meets ⟨_,ho,rfl⟩ ⟨_,ho2,rfl⟩ noFill_tuple_add seq_tuple_add slot_tuple_add entry_tuple_add (args_tuple_add_2 _ _)
   (tuple_addW0 t b vs.toArray ws.toArray n n2 dd dd2 sl sl2 (by simp[hv])) ⟨ho,ho2,h0 hv⟩
 ·by_cases hw:ws=[]
  ·exact concat_meets ⟨_,ho,rfl⟩ ⟨_,ho2,rfl⟩ noFill_tuple_add seq_tuple_add slot_tuple_add entry_tuple_add (args_tuple_add_2 _ _)
    (tuple_addW1 t b vs.toArray ws.toArray n n2 dd dd2 sl sl2 (by simpa using hv) (by simp[hw])) ⟨ho,ho2,h1 hw⟩
  ·refine concat_meets ⟨_,ho,rfl⟩ ⟨_,ho2,rfl⟩ noFill_tuple_add seq_tuple_add slot_tuple_add entry_tuple_add (args_tuple_add_2 _ _)
    (tuple_addW2 t b vs.toArray ws.toArray n n2 dd dd2 sl sl2 (by simpa using hv) (by simpa using hw) (by rw[Z9,Z9];exact hsz)) ⟨ho,ho2,?_⟩
   rw[e];exact h2
theorem Qbl:OpD X (binaryOp .Add) zbM:=by
 rintro pins s σ H x y v u Q I rx ry ⟨dx,dy,M,R,ex,ey,m,q,k⟩;cases ex with
 | int i=>cases ey <;> first | exact False.elim q | skip
          exact QaH pins s σ H _ _ v u Q I rx ry ⟨_,_,rfl,rfl,k _ M _ H q (Ext.refl H) m (.int _)⟩
 | str i hi=>cases ey <;> first | exact False.elim q | skip
             rename_i j hj;exact Q4H pins s σ H _ _ v u Q I rx ry ⟨_,_,rfl,rfl,by rw[Q1c,Q1c];exact q.1,k _ M _ H q.2 (Ext.refl H) m (by rw[Q7o];exact .str _ (cpOk.app hi hj))⟩
 | tup qx dx=>cases ey <;> first | exact False.elim q | skip
              rename_i ds vs b es ws qy dy;cases rx;cases ry;obtain⟨its,r1,p1,z1⟩:=I.tuple (.of qx);obtain⟨jts,r2,p2,z2⟩:=I.tuple (.of qy);have l1:=dx.length;have l2:=dy.length;have l3:=r1.length;have l4:=r2.length;refine Q9u p1 p2 (fun e=>?_) (fun e=>?_) ?_ (by rw[<- l3,<- l4,<- l1,<- l2];exact q.1)
              ·subst e;cases r1;cases dx;exact⟨.ref b,H,I,rfl,k _ M _ H q.2 (Ext.refl H) m (.tup qy dy)⟩
              ·subst e;cases r2;cases dy;refine⟨.ref _,H,I,rfl,k _ M _ H q.2 (Ext.refl H) m ?_⟩;rw[ZM];exact .tup qx dx
              ·have hn:=I.fresh;refine⟨.ref s.heap.objs.size,_,I.laid (t':=s.toks) (o:=.tup (vs++ws)) (fun b ob q=>Zm _ q) (Zs _) ⟨?_,_,r1.append r2,IsTup.new _ _⟩,rfl,k _ M _ _ q.2 (Ext.new hn) (m.new hn) (.tup Q0d ((dx.append dy).ext (Ext.new hn)))⟩;rw[Zl,<- l1,<- l2];exact q.1
 | _=>exact False.elim q
mutual
noncomputable def toPy:D->PyData
 | .non=>.none
 | .bl b=>.bool b
 | .int i=>.int i
 | .str x=>.str (S x)
 | .tup xs=>.tuple (zaE xs)
 | .lst xs=>.list (zaE xs)
 | .ref _=>.none
noncomputable def zaE:List D->List PyData
 | []=>[]
 | x::r=>toPy x::zaE r
end
noncomputable def plain:Nat->D->Bool
 | _,.non=>true
 | _,.int _=>true
 | _,.str _=>true
 | n+1,.tup xs=>xs.all (plain n)
 | n+1,.lst xs=>xs.all (plain n)
 | _,_=>false
theorem Q0N:∀ (n:Nat) (d:D) (v:V),plain n d=true->Den K H d v->(toPy d).canLay0=true/\(toPy d).depth<=n:=by
 have all:∀ (n:Nat),(∀ d v,plain n d=true->Den K H d v->(toPy d).canLay0=true/\(toPy d).depth<=n)->∀ (ds:List D) (vs:List V),ds.all (plain n)=true->Dens K H ds vs->PyData.canLayAll0 (zaE ds)=true/\PyData.depthAll (zaE ds)<=n:=by
  intro n ih ds
  induction ds with
  | nil=>intro vs _ _;simp[zaE,PyData.canLayAll0,PyData.depthAll]
  | cons d ds hi =>
   intro vs h r;cases r with
   | cons r1 r2 =>
    rw[ZU,Zh]at h;have h1:=ih d _ h.1 r1;have h2:=hi _ h.2 r2;simp only[zaE,PyData.canLayAll0,PyData.depthAll,h1.1,h2.1,Bool.and_self,true_and];have a1:=h1.2;have a2:=h2.2;omega
 intro n
 induction n with
 | zero =>
  intro d v h r;cases r with
  | str x hx=>simp[toPy,PyData.canLay0,PyData.depth,PyData.strOk,S];simpa using hx
  | _=>simp_all [plain,toPy,PyData.canLay0,PyData.depth]
 | succ n ih =>
  intro d v h r;cases r with
  | str x hx=>simp[toPy,PyData.canLay0,PyData.depth,PyData.strOk,S];simpa using hx
  | tup q r =>
   have q:=all n ih _ _ (by simpa[plain]using h) r
   have q2:=q.2;simp only[toPy,PyData.canLay0,PyData.depth,q.1,true_and];omega
  | lst q r =>
   have q:=all n ih _ _ (by simpa[plain]using h) r
   have q2:=q.2;simp only[toPy,PyData.canLay0,PyData.depth,q.1,true_and];omega
  | _=>simp_all [plain,toPy,PyData.canLay0,PyData.depth]
theorem Q5I:∀ (n:Nat) (d e:D) (k:Nat),plain n d=true->plain k e=true->(PyData.eqv (toPy d) (toPy e)=true <-> d=e):=by
 have all:∀ (n:Nat),(∀ d e k,plain n d=true->plain k e=true->(PyData.eqv (toPy d) (toPy e)=true <-> d=e))->∀ (k:Nat) (ds es:List D),ds.all (plain n)=true->es.all (plain k)=true ->
   (PyData.eqvAll (zaE ds) (zaE es)=true <-> ds=es):=by
  intro n ih k ds
  induction ds with
  | nil=>intro es _ _;cases es <;> simp[zaE,PyData.eqvAll]
  | cons d ds hi =>
   intro es h1 h2;cases es with
   | nil=>simp[zaE,PyData.eqvAll]
   | cons e es =>
    rw[ZU,Zh]at h1 h2;have q1:=ih d e k h1.1 h2.1;have q2:=hi es h1.2 h2.2;simp only[zaE,PyData.eqvAll,Zh,q1,q2,List.cons.injEq]
 have st:∀ x y:List Nat,(S x==S y)=true <-> x=y:=fun x y=>⟨fun h=>S_inj (by simpa using h),fun h=>by simp[h]⟩
 intro n
 induction n with
 | zero =>
  intro d e k h1 h2;cases d <;> cases e <;> cases k <;> simp_all [plain,toPy,PyData.eqv]
 | succ n ih =>
  intro d e k h1 h2;cases d with
  | tup ds =>
   cases e with
   | tup es =>
    cases k with
    | zero=>simp[plain]at h2
    | succ k =>
     simp only[toPy,PyData.eqv,D.tup.injEq];exact all n ih k ds es (by simpa[plain]using h1) (by simpa[plain]using h2)
   | _=>clear ih all;cases k <;> simp_all [plain,toPy,PyData.eqv]
  | lst ds =>
   cases e with
   | lst es =>
    cases k with
    | zero=>simp[plain]at h2
    | succ k =>
     simp only[toPy,PyData.eqv,D.lst.injEq];exact all n ih k ds es (by simpa[plain]using h1) (by simpa[plain]using h2)
   | _=>clear ih all;cases k <;> simp_all [plain,toPy,PyData.eqv]
  | non=>clear ih all;cases e <;> cases k <;> simp_all [plain,toPy,PyData.eqv]
  | bl b=>simp[plain]at h1
  | int i=>clear ih all;cases e <;> cases k <;> simp_all [plain,toPy,PyData.eqv]
  | str x=>clear ih all;cases e <;> cases k <;> simp_all [plain,toPy,PyData.eqv]
  | ref a=>simp[plain]at h1
theorem Q0q(I:Inv X pins σ H s):∀ (n:Nat) (d:D) (v:V) (u:Value),plain n d=true->Den X.K H d v->L2.RelV v u->∃ as,Reads s.heap u (toPy d) as:=by
 have all:∀ (n:Nat),(∀ d v u,plain n d=true->Den X.K H d v->L2.RelV v u->∃ as,Reads s.heap u (toPy d) as)->∀ (ds:List D) (vs:List V) (us:List Value),ds.all (plain n)=true->Dens X.K H ds vs->Vals vs us->∃ as,ReadsAll s.heap us (zaE ds) as:=by
  intro n ih ds
  induction ds with
  | nil=>intro vs us _ r q;cases r;cases q;exact⟨_,.nil⟩
  | cons d ds hi =>
   intro vs us h r q;rw[ZU,Zh]at h;cases r with
   | cons r1 r2 =>
    cases q with
    | cons q1 q2 =>
     obtain⟨as,h1⟩:=ih d _ _ h.1 r1 q1;obtain⟨bs,h2⟩:=hi _ _ h.2 r2 q2;exact⟨_,.cons h1 h2⟩
 have base:∀ n d v u,plain n d=true->Den X.K H d v->L2.RelV v u->(∀ ds,d≠.tup ds)->(∀ ds,d≠.lst ds)->∃ as,Reads s.heap u (toPy d) as:=by
  intro n d v u h r q n1 n2;cases r with
  | non=>cases q;exact⟨_,.none⟩
  | bl b=>cases q;exact⟨_,.bool b⟩
  | int i=>obtain⟨t,rfl⟩:=q;exact⟨_,.int i t⟩
  | str x hx=>obtain⟨t,rfl⟩:=q;exact⟨_,.str _ t⟩
  | tup _ _=>exact absurd rfl (n1 _)
  | lst _ _=>exact absurd rfl (n2 _)
  | ref a=>cases n <;> simp[plain]at h
 intro n
 induction n with
 | zero =>
  intro d v u h r q;exact base 0 d v u h r q (fun ds e=>by subst e;simp[plain]at h) (fun ds e=>by subst e;simp[plain]at h)
 | succ n ih =>
  intro d v u h r q;cases r with
  | tup sq r =>
   obtain⟨its,rv,⟨o,ho,hc,k,hd⟩,z⟩:=I.tuple (.of sq);cases q;obtain⟨as,ra⟩:=all n ih _ _ _ (by simpa[plain]using h) r rv
   exact⟨_,.tuple ho hc hd (by simpa using ra)⟩
  | lst sq r =>
   obtain⟨its,rv,⟨o,k,ho,hc,hdd,hd⟩,z⟩:=I.list sq.sq;cases q;obtain⟨as,ra⟩:=all n ih _ _ _ (by simpa[plain]using h) r rv
   exact⟨_,.list ho hc hd (by simpa using ra)⟩
  | non=>exact base _ _ _ _ h .non q (fun ds e=>nomatch e) (fun ds e=>nomatch e)
  | bl b=>exact base _ _ _ _ h (.bl b) q (fun ds e=>nomatch e) (fun ds e=>nomatch e)
  | int i=>exact base _ _ _ _ h (.int i) q (fun ds e=>nomatch e) (fun ds e=>nomatch e)
  | str x hx=>exact base _ _ _ _ h (.str x hx) q (fun ds e=>nomatch e) (fun ds e=>nomatch e)
  | ref a=>simp[plain]at h
noncomputable def res(M:DH):D->D
 | .ref a=>match M a with
  | some (.lst ds)=>.lst ds
  | _=>.ref a
 | d=>d
open Classical in
noncomputable def eqB(x y:D):Bool:=decide (x=y)
open Classical in
theorem Q2g(x y:D):eqB x y=true <-> x=y:=by unfold eqB;exact decide_eq_true_iff
open Classical in
theorem Q0W(x y:D):eqB x y=false <-> ¬ x=y:=by unfold eqB;exact decide_eq_false_iff_not
theorem Q9v(x y:List Nat):eqB (.str x) (.str y)=decide (x=y):=by
 by_cases h:x=y
 ·rw[Zo h,(Q2g _ _).mpr (by rw[h])]
 ·rw[Z5 h,(Q0W _ _).mpr (fun e=>h (D.str.inj e))]
theorem Q9w(x y:Int):eqB (.int x) (.int y)=decide (x=y):=by
 by_cases h:x=y
 ·rw[Zo h,(Q2g _ _).mpr (by rw[h])]
 ·rw[Z5 h,(Q0W _ _).mpr (fun e=>h (D.int.inj e))]
theorem Q0p(x:D):eqB x x=true:=(Q2g x x).mpr rfl
noncomputable def rEqN(f:Bool->Bool):DR2:=fun x y M Q=>match x,y with
 | .bl a,.bl b=>Q (.bl (f (a==b))) M
 | x,y=>plain 12 (res M x)=true/\plain 12 (res M y)=true/\Q (.bl (f (eqB (res M x) (res M y)))) M
theorem Q2h(I:Inv X pins σ H s)(m:SimM X.K M H)(h:plain n (res M d)=true)(e:Den X.K H d v)(r:L2.RelV v u) :
  (∃ as,Reads s.heap u (toPy (res M d)) as)/\(toPy (res M d)).canLay0=true/\(toPy (res M d)).depth<=n:=by
 by_cases hr:∃ a,d=.ref a
 ·obtain⟨a,rfl⟩:=hr;cases e;cases q:M a with
  | none=>simp only[res,q]at h;cases n <;> simp[plain]at h
  | some o =>
   cases o with
   | oth _=>simp only[res,q]at h;cases n <;> simp[plain]at h
   | lst ds =>
    simp only[res,q]at h ⊢;cases n with
    | zero=>simp[plain]at h
    | succ n =>
     obtain⟨vs,e1,e2⟩:=m.get q
     -- as if it were finished
     obtain⟨o,I2⟩:=I.frozen e1;have x:=Ext.lst (o:=.frz o (.lst vs)) e1;have den:Den X.K (upd H a (.frz o (.lst vs))) (.lst ds) (.ref a):=.lst (.inl ⟨o,Q0d⟩) (e2.ext x);exact⟨Q0q I2 _ _ _ _ h den r,Q0N _ _ _ h den⟩
 ·have e2:res M d=d:=by cases d <;> first | rfl | exact absurd ⟨_,rfl⟩ hr
  rw[e2]at h ⊢;exact⟨Q0q I _ _ _ _ h e r,Q0N _ _ _ h e⟩
theorem bEq(x y:D)(n k:Nat)(h1:plain n x=true)(h2:plain k y=true):PyData.eqv (toPy x) (toPy y)=eqB x y:=by
 have h:=Q5I n x y k h1 h2;cases q:eqB x y with
 | true=>exact h.mpr ((Q2g x y).mp q)
 | false =>
  cases q2:PyData.eqv (toPy x) (toPy y) with
  | false=>rfl
  | true=>exact absurd (h.mp q2) ((Q0W x y).mp q)
theorem Q8B{f:Bool->Bool}(hu:X.A.units+64<cLine)
  (r1:∀ {a b:Value} {da db:PyData} {as bs:List Addr} {Q:Value->Shared->Prop} {s:Shared} (ra:Reads s.heap a da as) (rb:Reads s.heap b db bs) (ha:SeqAt.shaped da=true) (hb:SeqAt.shaped db=true),Q (.bool (f (PyData.eqv da db))) s->wpAny (model X.prog X.w) X.A (compareOp op a b) Q X.xe s):OpD X (compareOp op) (rEqN f):=by
 rintro pins s σ H x y v u Q I rx ry ⟨dx,dy,M,R,ex,ey,m,q,k⟩;by_cases hb:(∃ a,dx=.bl a)/\∃ b,dy=.bl b
 ·obtain⟨⟨a,rfl⟩,⟨b,rfl⟩⟩:=hb;cases ex;cases ey;cases rx;cases ry;refine r1 (Reads.bool a) (Reads.bool b) rfl rfl ⟨.bl (f (a==b)),H,I,?_,k _ M _ H q (Ext.refl H) m (.bl _)⟩;simp[PyData.eqv,L2.RelV]
 ·have q':plain 12 (res M dx)=true/\plain 12 (res M dy)=true/\R (.bl (f (eqB (res M dx) (res M dy)))) M:=by
   unfold rEqN at q;split at q
   ·exact absurd ⟨⟨_,rfl⟩,⟨_,rfl⟩⟩ hb
   ·exact q
  obtain⟨h1,h2,q⟩:=q';obtain⟨⟨as,ra⟩,c1,d1⟩:=Q2h I m h1 ex rx;obtain⟨⟨bs,rb⟩,c2,d2⟩:=Q2h I m h2 ey ry;have sh:∀ d:PyData,d.canLay0=true->d.depth<=12->SeqAt.shaped d=true:=fun d h1 h2=>by
   unfold SeqAt.shaped;rw[h1,Bool.true_and];exact Zo (by omega)
  refine r1 ra rb (sh _ c1 d1) (sh _ c2 d2) ?_;rw[bEq _ _ _ _ h1 h2];exact⟨.bl _,H,I,rfl,k _ M _ H q (Ext.refl H) m (.bl _)⟩
theorem od_eq(hu:X.A.units+64<cLine):OpD X (compareOp .Eq) (rEqN id):=Q8B hu fun ra rb ha hb h=>SeqAt.compareEq_shaped ra rb ha hb hu h
theorem od_ne(hu:X.A.units+64<cLine):OpD X (compareOp .NotEq) (rEqN not):=Q8B hu fun ra rb ha hb h=>SeqAt.compareNe_shaped ra rb ha hb hu h
end
noncomputable def cut{α:Type}(xs:List α)(lo hi:Option Int):List α:=(xs.drop (HT.sIx xs.length 0 lo)).take (HT.sIx xs.length xs.length hi-HT.sIx xs.length 0 lo)
theorem Q9x{α:Type}{xs:List α}{lo hi:Option Int}{c:α}(h:c∈cut xs lo hi):c∈xs:=List.mem_of_mem_drop (List.mem_of_mem_take h)
theorem Q9y{α:Type}(xs:List α)(lo hi:Option Int):(cut xs lo hi).length<=xs.length:=by
 unfold cut;rw[ZA,length_drop];omega
theorem Q4P{α:Type}(xs:List α)(i:Nat):∀ k:Nat,((List.range k).map fun m=>i+m).filterMap (fun j=>xs[j]?)=(xs.drop i).take k:=by
 intro k
 induction k with
 | zero=>simp
 | succ k ih =>
  rw[List.range_succ,ZC,List.filterMap_append,ih];simp only[Z6,map_nil,filterMap_cons,List.filterMap_nil];rw[List.take_succ,getElem?_drop];cases xs[i+k]? <;> simp
theorem sliceIdx(lo hi:Option Int)(n:Nat):Builtin.Str.strSliceIndices lo hi 1 n=(List.range (HT.sIx n n hi-HT.sIx n 0 lo)).map fun m=>HT.sIx n 0 lo+m:=by
 have h1:(1:Int) > 0:=by decide
 have cl:∀ (v:Int) (d:Nat),max 0 (min (if v<0 then v+(n:Int) else v) (n:Int))=((HT.sIx n d (some v):Nat):Int):=fun v d=>by
  show _=((if v<0 then (v+(n:Int)).toNat else min v.toNat n:Nat):Int)
  split <;> omega
 have key:∀ I J:Nat,sliceRange (I:Int) (J:Int) 1=(List.range (J-I)).map fun m=>I+m:=fun I J=>by
  unfold sliceRange;have hc:(if (1:Int) > 0 then (if (I:Int)<(J:Int) then ((J:Int)-(I:Int)+1-1) / 1 else 0) else (if (I:Int) > (J:Int) then ((I:Int)-(J:Int)-1-1) / (-1) else 0))=((J-I:Nat):Int):=by
   rw[Zg h1];split <;> omega
  simp only[hc,Z7];refine Yj fun k _=>?_;omega
 unfold Builtin.Str.strSliceIndices;simp only[h1,ZS];cases lo with
 | none =>
  cases hi with
  | none=>exact key 0 n
  | some j=>exact (congrArg (fun z=>sliceRange 0 z 1) (cl j n)).trans (key 0 _)
 | some i =>
  cases hi with
  | none=>exact (congrArg (fun z=>sliceRange z n 1) (cl i 0)).trans (key _ n)
  | some j=>exact (congr (congrArg (fun z y=>sliceRange z y 1) (cl i 0)) (cl j n)).trans (key _ _)
theorem Q9z(x:List Nat)(lo hi:Option Int):Txt.slice (S x) lo hi=S (cut x lo hi):=by
 unfold Txt.slice;rw[Q1c,sliceIdx];split
 ·rename_i h;have h':HT.sIx x.length x.length hi-HT.sIx x.length 0 lo=x.length:=by simpa using h
  have h2:HT.sIx x.length x.length hi<=x.length:=HT.sIx_le _ _ (Zs _) hi;unfold cut;have h3:HT.sIx x.length 0 lo=0:=by
   by_cases hx:x.length=0
   ·have:=HT.sIx_le x.length 0 (ZX _) lo;omega
   ·omega
  rw[h',h3,drop_zero,Ym]
 ·unfold cut S;rw[<- Q4P];simp
section
variable{X:Cx}{a b c e:Expr}{es:List Expr}{ta tb te:DTE}{tt tu:DTT}{pos p2:Pos}{K:Frag}
noncomputable abbrev DTO:=DSt->DH->(Option Int->DH->Prop)->Prop
noncomputable def lO(K:Frag)(t:DTO):TO:=fun σ H Q=>∃ ρ M R,SimS K H ρ σ/\SimM K M H/\t ρ M R/\∀ o M' H',R o M'->Ext H H'->SimM K M' H'->Q o H'
noncomputable abbrev DO(X:Cx)(e:Option Expr)(t:DTO):Prop:=PO X e (lO X.K t)
theorem PO.imp{e:Option Expr}{T T':TO}(h:PO X e T)(i:∀ σ H Q,T' σ H Q->T σ H Q):PO X e T':=fun pins s σ H Q I q=>h pins s σ H Q I (i σ H Q q)
noncomputable def zbu:DTO:=fun _ M Q=>Q none M
noncomputable def zbQ(t:DTE):DTO:=fun ρ M Q=>t ρ M fun x M1=>match x with
 | .int i=>Q (some i) M1
 | _=>False
theorem Q9A:DO X none zbu:=PO.imp Q9d fun σ H Q ⟨ρ,M,R,s,m,h,k⟩=>k none M H h (Ext.refl H) m
theorem Q3R(h:DE X e te):DO X (some e) (zbQ te):=PO.imp (Q9e h) fun σ H Q ⟨ρ,M,R,s,m,h,k⟩=>⟨ρ,M,_,s,m,h,fun d M1 v H1 h1 x1 m1 e1=>by
 cases e1 <;> first | exact False.elim h1 | exact⟨_,rfl,k _ M1 H1 h1 x1 m1⟩⟩
noncomputable def rSlD:D->Option Int->Option Int->DH->DK->Prop:=fun x lo hi M Q=>match x with
 | .str z=>z.length<=sizeLine/\Q (.str (cut z lo hi)) M
 | .tup xs=>Q (.tup (cut xs lo hi)) M
 | .lst xs=>∀ p,M p=none->Q (.ref p) (dupd M p (.lst (cut xs lo hi)))
 | .ref a=>match M a with
  | some (.lst xs)=>∀ p,M p=none->Q (.ref p) (dupd M p (.lst (cut xs lo hi)))
  | _=>False
 | _=>False
noncomputable def lSl(K:Frag)(r:D->Option Int->Option Int->DH->DK->Prop):V->Option Int->Option Int->Hp->VK->Prop:=fun x lo hi H Q=>∃ d M R,Den K H d x/\SimM K M H/\r d lo hi M R/\Aft K H R Q
theorem Dens.cut(h:Dens K H ds vs)(lo hi:Option Int):Dens K H (DL.cut ds lo hi) (cutV vs lo hi):=by
 unfold DL.cut cutV;rw[h.length];exact (h.drop _).take _
theorem Q5J{prog:Program}{w:World}{A:Around}{E:Value->Shared->Prop}{s:Shared}{t sl:Addr}{items:Array Value}{vl vu:Value}{lo hi:Option Int}{Q:Value->Shared->Prop}(ht:IsTup s.heap t items)(hs:s.heap.IsSliceOf sl vl vu .none)(pl:IsPart vl lo)(pu:IsPart vu hi)
  (hw:HT.sIx items.size 0 lo=0/\HT.sIx items.size items.size hi=items.size) (h:Q (.ref t) s):wpAny (model prog w) A (getItem (.ref t) (.ref sl)) Q E s:=by
 obtain⟨os,hos,hcs,hds⟩:=id hs;have hTs:s.TypeIs (.ref sl) "slice":=⟨os,hos,hcs⟩;unfold getItem
 try with_reducible refine Yb ?_
 first | refine Za (Zd ?_) | skip
 refine Za (wpAny_sequenceKey ht.typeIs (by decide) ?_)
 refine Za (wpAny_callSpecial?_slot (name:=Str.ofString "__getitem__") ht.typeIs ZW
  (wpAny_call_entry ZW ht.typeIs entry_tuple_getitem ?_ (args_tuple_getitem _ _)))
 show wpAny _ _ (Builtin.Tuple.tupleItemsOf (.ref t) >>= _) _ _ s;refine Za (tupleItemsOf_ ht ?_);refine Za (wpAny_typeOf hTs ?_);rw[Zg (by decide)]
 refine Za (HT.sliceApplied_gen hs pl pu ?_);have hyes:((((HT.sIx items.size 0 lo:Nat):Int)==0&&(1:Int)==1&&(HT.sIx items.size items.size hi-HT.sIx items.size 0 lo)==items.size)=true):=by
  rw[hw.1,hw.2];simp
 show wpAny _ _ (if (((HT.sIx items.size 0 lo:Nat):Int)==0&&(1:Int)==1&&(HT.sIx items.size items.size hi-HT.sIx items.size 0 lo)==items.size)=true then _ else _) _ _ s
 rw[Zg hyes];unfold Builtin.Tuple.tupleIsExact;refine Za (Za (wpAny_typeOf ht.typeIs (Zd ?_)));rw[Zg (by decide)]
 exact Za (wpAny_rule (Zd ⟨_,rfl,Zd h⟩))
theorem Qbm:SlR X (lSl X.K rSlD):=by
 rintro pins s σ H x v vl vu lo hi sl Q I rx hs pl pu ⟨d,M,R,e,m,q,k⟩;have viaL:∀ {p:Addr} {ds:List D} {vs:List V},x=.ref p->SqL X.K H p vs->Dens X.K H ds vs->(∀ p,M p=none->R (.ref p) (dupd M p (.lst (DL.cut ds lo hi))))->∃ T id,typeLookup (.type T) "__getitem__" = pure (some (.builtin id))/\s.TypeIs v T/\wpAny (model X.prog X.w) X.A (getItem v (.ref sl)) (EP X pins σ Q) X.xe s:=by
  intro p ds vs ex sq dn q;subst ex;exact Q9g pins s σ H _ v vl vu lo hi sl Q I rx hs pl pu ⟨p,vs,rfl,sq,fun p hp=>k _ _ _ _ (q p (m.free hp)) (Ext.new hp) (m.newL hp (Dens.cut dn lo hi)) (.ref p)⟩
 cases e with
 | str z hz =>
  obtain⟨t,rfl⟩:=rx;refine⟨"str",_,F.slot_str_getitem.lookup,typeIs_str s _ t,?_⟩;have go:∀ (l u:Option (Int×Tok)),l.map (·.1)=lo->u.map (·.1)=hi->s.heap.IsSlice sl l u none->wpAny (model X.prog X.w) X.A (getItem (.str (S z) t) (.ref sl)) (EP X pins σ Q) X.xe s:=by
   intro l u e1 e2 hsl;have es:Txt.slice (S z) lo hi=S (DL.cut z lo hi):=Q9z z lo hi;have fin:∀ (t':Tok) (tk:Nat),EP X pins σ Q (.str (S (DL.cut z lo hi)) t') { s with toks:=tk }:=fun t' tk=>⟨.str (S (DL.cut z lo hi)),H,I.tok tk,⟨t',rfl⟩,k _ M _ H q.2 (Ext.refl H) m (.str _ (cpOk.sub hz fun c hc=>Q9x hc))⟩;refine wpAny_getItem_str_slice (l:=l) (u:=u) (st:=none) hsl rfl ?_;unfold sliceMade;unfold Txt.slice at es;unfold slicePicked;rw[e1,e2];simp only[Option.map_none,Option.getD_none];by_cases hc:((1:Int)==1&&(Builtin.Str.strSliceIndices lo hi 1 (S z).length).length==(S z).length)=true
   ·rw[Zg hc]at es ⊢;have:=fin t s.toks;rw[<- es]at this;exact this
   ·rw[Zc hc]at es ⊢;rw[es];refine⟨?_,fin _ _⟩;show (S (DL.cut z lo hi)).length<=sizeLine;rw[Q1c];exact Z3 (Q9y z lo hi) q.1
  obtain⟨os,hos,hcs,hds⟩:=hs;cases pl with
  | none =>
   cases pu with
   | none=>exact go none none rfl rfl ⟨os,hos,hcs,hds⟩
   | int j u=>exact go none (some (j,u)) rfl rfl ⟨os,hos,hcs,hds⟩
  | int i t =>
   cases pu with
   | none=>exact go (some (i,t)) none rfl rfl ⟨os,hos,hcs,hds⟩
   | int j u=>exact go (some (i,t)) (some (j,u)) rfl rfl ⟨os,hos,hcs,hds⟩
 | tup sq dn =>
  rename_i p ds vs;cases rx;have hl:=dn.length;by_cases hw:HT.sIx vs.length 0 lo=0/\HT.sIx vs.length vs.length hi=vs.length
  ·obtain⟨its,r,ht,hz⟩:=I.tuple (.of sq);have hlen:its.toArray.size=vs.length:=by rw[Z9];exact r.length.symm
   refine⟨"tuple",_,ZW.lookup,ht.typeIs,Q5J ht hs pl pu (by rw[hlen];exact hw) ⟨.ref p,H,I,rfl,k _ M _ H q (Ext.refl H) m ?_⟩⟩
   have:DL.cut ds lo hi=ds:=by
    unfold DL.cut;rw[hl,hw.1,hw.2,drop_zero,<- hl,sub_zero,Ym]
   rw[this];exact .tup sq dn
  ·exact QaT pins s σ H (.ref p) _ vl vu lo hi sl Q I rfl hs pl pu ⟨p,vs,rfl,.of sq,hw,fun p hp=>k _ M _ _ q (Ext.new hp) (m.new hp) (.tup Q0d ((Dens.cut dn lo hi).ext (Ext.new hp)))⟩
 | lst sq dn=>exact viaL rfl sq.sq dn q
 | ref p =>
  cases qa:M p with
  | none=>simp only[rSlD,qa]at q
  | some o =>
   cases o with
   | oth _=>simp only[rSlD,qa]at q
   | lst ds =>
    simp only[rSlD,qa]at q;obtain⟨vs,e2,dn⟩:=m.get qa;exact viaL rfl (.of e2) dn q
 | _=>exact False.elim q
noncomputable def dSl(te:DTE)(tl th:DTO):DTE:=fun ρ M Q=>te ρ M fun x M1=>tl ρ M1 fun l M2=>th ρ M2 fun u M3=>rSlD x l u M3 Q
theorem Q7q{lo hi:Option Expr}{tl th:DTO}(he:DE X e te)(hl:DO X lo tl)(hh:DO X hi th):DE X (.Subscript e (.Slice lo hi none p2) pos) (dSl te tl th) :=
 (Q6W Qbm he hl hh).imp fun σ H Q ⟨ρ,M,R,s,m,h,k⟩=>⟨ρ,M,_,s,m,h,fun d1 M1 v1 H1 h1 x1 m1 e1=>⟨ρ,M1,_,s.ext x1,m1,h1,fun l M2 H2 h2 x2 m2=>⟨ρ,M2,_,s.ext (x1.trans x2),m2,h2,fun u M3 H3 h3 x3 m3 =>
  ⟨d1,M3,R,e1.ext (x2.trans x3),m3,h3,k.ext (x1.trans (x2.trans x3))⟩⟩⟩⟩
noncomputable def rIxD:DR2:=fun x y M Q=>match x,y with
 | .str z,.int i=>match atI z i with
  | some c=>z.length<=sizeLine/\Q (.str [c]) M
  | none=>False
 | .tup xs,.int i=>match atI xs i with
  | some d=>Q d M
  | none=>False
 | .lst xs,.int i=>match atI xs i with
  | some d=>Q d M
  | none=>False
 | .ref a,.int i=>match M a with
  | some (.lst xs)=>match atI xs i with
   | some d=>Q d M
   | none=>False
  | _=>False
 | _,_=>False
theorem Dens.atI(h:Dens K H ds vs)(e:L2.atI ds i=some d):∃ v,L2.atI vs i=some v/\Den K H d v:=by
 unfold L2.atI at e ⊢;rw[h.length]at e;cases q:ixN vs.length i with
 | none=>rw[q]at e;cases e
 | some j =>
  rw[q]at e;obtain⟨v,e1,e2⟩:=h.get (i:=j) (d:=d) e;exact⟨v,e1,e2⟩
theorem Qbn:IxR X (lR2 X.K rIxD):=by
 rintro value slice pins s σ H x y v u Q I rx ry ⟨dx,dy,M,R,ex,ey,m,q,k⟩ hsub;have viaL:∀ {p:Addr} {ds:List D} {vs:List V} {i:Int},x=.ref p->y=.int i->SqL X.K H p vs->Dens X.K H ds vs->(match atI ds i with | some d=>R d M | none=>False)->wpAny (model X.prog X.w) X.A (subscriptTail value slice v u) (EP X pins σ Q) X.xe s:=by
  intro p ds vs i e1 e2 sq dn q;subst e1 e2;cases ei:atI ds i with
  | none=>rw[ei]at q;exact q.elim
  | some d =>
   rw[ei]at q;obtain⟨w,e3,e4⟩:=Dens.atI dn ei;exact Q9f value slice pins s σ H _ _ v u Q I rx ry ⟨p,vs,i,w,rfl,rfl,sq,e3,k _ M _ H q (Ext.refl H) m e4⟩ hsub
 cases ex with
 | str z hz =>
  cases ey <;> first | exact False.elim q | skip
  rename_i i;have q:(match atI z i with | some c=>z.length<=sizeLine/\R (.str [c]) M | none=>False):=q
  cases ei:atI z i with
  | none=>rw[ei]at q;exact q.elim
  | some c =>
   rw[ei]at q;obtain⟨j,_,ej,_⟩:=Q2G ei;exact ix_str value slice pins s σ H _ _ v u Q I rx ry ⟨S z,i,c,rfl,rfl,by rw[Q1c];exact q.1,by rw[Q7p];exact ei,k _ M _ H q.2 (Ext.refl H) m (.str [c] (cpOk.sub hz fun c' hc=>by rw[Zp.mp hc];exact Zt ej))⟩ hsub
 | tup sq dn =>
  cases ey <;> first | exact False.elim q | skip
  rename_i p ds vs i;have q:(match atI ds i with | some d=>R d M | none=>False):=q
  cases ei:atI ds i with
  | none=>rw[ei]at q;exact q.elim
  | some d =>
   rw[ei]at q;obtain⟨w,e3,e4⟩:=Dens.atI dn ei;exact ix_tup value slice pins s σ H _ _ v u Q I rx ry ⟨p,vs,i,w,rfl,rfl,.of sq,e3,k _ M _ H q (Ext.refl H) m e4⟩ hsub
 | lst sq dn =>
  cases ey <;> first | exact False.elim q | skip
  exact viaL rfl rfl sq.sq dn q
 | ref p =>
  cases ey <;> first | exact False.elim q | skip
  cases qa:M p with
  | none=>simp only[rIxD,qa]at q
  | some o =>
   cases o with
   | oth _=>simp only[rIxD,qa]at q
   | lst ds =>
    simp only[rIxD,qa]at q;obtain⟨vs,e2,dn⟩:=m.get qa;exact viaL rfl rfl (.of e2) dn q
 | _=>exact False.elim q
theorem de_ix(ha:DE X a ta)(hb:DE X b tb)(hs:zbs b:=by intro _ _;rfl):DE X (.Subscript a b pos) (dOp rIxD ta tb) :=
 (pe_ix Qbn ha hb hs).imp fun σ H Q h=>Q4k (fun _ _ _ _ q=>q) h
noncomputable def rLtD(f:Int->Int->Bool):DR2:=fun x y M Q=>match x,y with
 | .int i,.int j=>Q (.bl (f i j)) M
 | _,_=>False
theorem opB2{f:Int->Int->Bool}(h:OpR X (compareOp op) (rI0 fun i j=>.bl (f i j))):OpD X (compareOp op) (rLtD f):=by
 rintro pins s σ H x y v u Q I rx ry ⟨dx,dy,M,R,ex,ey,m,q,k⟩;cases ex <;> cases ey <;> first | exact False.elim q | skip
 exact h pins s σ H _ _ v u Q I rx ry ⟨_,_,rfl,rfl,k _ M _ H q (Ext.refl H) m (.bl _)⟩
theorem od_lt:OpD X (compareOp .Lt) (rLtD fun i j=>decide (i<j)):=opB2 op_lt
theorem od_gt:OpD X (compareOp .Gt) (rLtD fun i j=>decide (j<i)):=opB2 op_gt
noncomputable def rLtS:DR2:=fun x y M Q=>match x,y with
 | .str i,.str j=>Q (.bl (decide (i<j))) M
 | _,_=>False
noncomputable def isNon:D->Bool
 | .non=>true
 | _=>false
noncomputable def rIsN(f:Bool->Bool):DR2:=fun x y M Q=>match y with
 | .non=>Q (.bl (f (isNon x))) M
 | _=>False
theorem Qbo:OpD X (compareOp .Is) (rIsN id):=by
 rintro pins s σ H x y v u Q I rx ry ⟨dx,dy,M,R,ex,ey,m,q,k⟩;cases ey <;> first | exact False.elim q | skip
 refine QaN pins s σ H _ _ v u Q I rx ry ⟨rfl,?_⟩;have:decide (x=V.non)=isNon dx:=by cases ex <;> rfl
 rw[this];exact k _ M _ H q (Ext.refl H) m (.bl _)
theorem Q9B:OpD X (compareOp .IsNot) (rIsN not):=by
 rintro pins s σ H x y v u Q I rx ry ⟨dx,dy,M,R,ex,ey,m,q,k⟩;cases ey <;> first | exact False.elim q | skip
 refine Q8T pins s σ H _ _ v u Q I rx ry ⟨rfl,?_⟩;have:decide (x=V.non)=isNon dx:=by cases ex <;> rfl
 rw[this];exact k _ M _ H q (Ext.refl H) m (.bl _)
noncomputable def zaP(r r':DR2)(ta tb tc:DTE):DTE:=fun ρ M Q=>ta ρ M fun x M1=>tb ρ M1 fun y M2=>r x y M2 fun z M3=>match z with
 | .bl k=>if k=true then tc ρ M3 fun z' M4=>r' y z' M4 Q else Q (.bl false) M3
 | _=>False
theorem Q3l(h:lE K (zaP r r' ta tb tc) σ H Q):zbC (lR2 K r) (lR2 K r') (lE K ta) (lE K tb) (lE K tc) σ H Q:=by
 obtain⟨ρ,M,R,s,m,h,k⟩:=h;refine⟨ρ,M,_,s,m,h,fun d1 M1 v1 H1 h1 x1 m1 e1=>⟨ρ,M1,_,s.ext x1,m1,h1,fun d2 M2 v2 H2 h2 x2 m2 e2=>⟨d1,d2,M2,_,e1.ext x2,e2,m2,h2,fun d3 M3 v3 H3 h3 x3 m3 e3=>?_⟩⟩⟩;have xx:=(x1.trans x2).trans x3;cases d3 with
 | bl c =>
  cases e3;refine⟨c,rfl,?_⟩;cases c with
  | true=>exact⟨ρ,M3,_,s.ext xx,m3,(Zg rfl).mp h3,fun d4 M4 v4 H4 h4 x4 m4 e4=>⟨d2,d4,M4,R,e2.ext (x3.trans x4),e4,m4,h4,k.ext (xx.trans x4)⟩⟩
  | false=>exact k _ M3 _ H3 ((Zc Zy).mp h3) xx m3 (.bl _)
 | _=>exact False.elim h3
theorem Q7r(ho:OpD X (compareOp op) r)(ho':OpD X (compareOp op') r')(ha:DE X a ta)(hb:DE X b tb)(hc:DE X c tc)
  (hm:lastMarks [op,op'] [b,c]=false:=by with_unfolding_all rfl):DE X (.Compare a [op,op'] [b,c] pos) (zaP r r' ta tb tc):=(Q6P ho ho' ha hb hc hm).imp fun σ H Q h=>Q3l h
theorem Q7s(ho:OpD X (compareOp op) r)(ho':OpD X (compareOp op') r')(ha:DE X a ta)(hb:DE X b tb)(hc:DE X c tc)
  (hm:lastMarks [op,op'] [b,c]=false:=by with_unfolding_all rfl):DT X (.Compare a [op,op'] [b,c] pos) (dB (zaP r r' ta tb tc)) :=
 (Q6Q ho ho' ha hb hc hm).imp fun σ H Q ⟨ρ,M,R,s,m,h,k⟩=>Q3l ⟨ρ,M,_,s,m,h,fun d M1 v H1 h1 x1 m1 e1=>by
  cases d with
  | bl c=>cases e1;exact⟨c,rfl,k c M1 H1 h1 x1 m1⟩
  | _=>exact False.elim h1⟩
end
section
variable{X:Cx}{a b c e:Expr}{es:List Expr}{ta tb te:DTE}{tt tu:DTT}{pos p2:Pos}{K:Frag}
inductive Ty where
 | non | bool | int | str | tuple | list
 deriving DecidableEq
noncomputable def Ty.nm:Ty->String
 | .non=>"NoneType" | .bool=>"bool" | .int=>"int" | .str=>"str" | .tuple=>"tuple" | .list=>"list"
noncomputable def Ty.sub:Ty->Ty->Bool
 | .bool,.int=>true
 | a,b=>decide (a=b)
noncomputable def tyD:D->Ty
 | .non=>.non | .bl _=>.bool | .int _=>.int | .str _=>.str | .tup _=>.tuple | .lst _=>.list | .ref _=>.list
theorem Q1x(K:Frag)(a b:Ty)(hb:b≠.non):kitOne K (.type a.nm) (.type b.nm)=some (a.sub b):=by
 cases a <;> cases b <;> first | exact absurd rfl hb | with_unfolding_all rfl
noncomputable def dIsI(T:Ty)(te:DTE):DTE:=fun ρ M Q=>te ρ M fun d M1=>match d with
 | .ref a=>match M1 a with
  | some (.lst _)=>Q (.bl (Ty.sub .list T)) M1
  | _=>False
 | d=>Q (.bl ((tyD d).sub T)) M1
theorem Qbp(T:Ty)(hT:T≠.non){p:Pos}(hx:bootBuiltins x=some (.type T.nm))(he:DE X e te)(hg:Gl X "isinstance")(hm:X.mg "isinstance" = none)(hg2:Gl X x)(hm2:X.mg x=none)(hn:x ≠ "__name__":=by decide)(hdb:(x==("__debug__" : Str))=false:=by decide)
  (hs:starEach [e,.Name x p3] X.env=(false,eval e X.env)::starEach [.Name x p3] X.env:=by rfl) (hs2:starEach [.Name x p3] X.env=(false,eval (.Name x p3) X.env)::starEach [] X.env:=by rfl) (hpl:(backTo pos (starEach [.Name x p3] X.env)).any (·.1)=false:=by rfl) :
  DE X (.Call (.Name "isinstance" p) [e,.Name x p3] [] pos) (dIsI T te):=by
 have hc:CallR X (.builtin "isinstance") (fun xs H Q=>∃ d M R v,xs=[v,.ty T.nm]/\Den X.K H d v/\SimM X.K M H/\Aft X.K H R Q/\(match d with
  | .ref a=>match M a with
   | some (.lst _)=>R (.bl (Ty.sub .list T)) M
   | _=>False
  | d=>R (.bl ((tyD d).sub T)) M)):=by
  rintro pins s σ H xs us Q I rv ⟨d,M,R,v,e,den,m,k,q⟩;subst e;cases rv with
  | cons r1 rv =>
   cases rv with
   | cons r2 rv =>
    cases rv;cases r2;have fin:∀ b,R (.bl b) M->∀ tk,EP X pins σ Q (.bool b) { s with toks:=tk }:=fun b hb tk=>⟨.bl b,H,I.tok tk,rfl,k _ M _ H hb (Ext.refl H) m (.bl b)⟩;cases den with
    | non=>exact Q1f I r1 .non (Q1x X.K .non T hT) (fin _ q)
    | bl b=>exact Q1f I r1 (.bl b) (Q1x X.K .bool T hT) (fin _ q)
    | int i=>exact Q1f I r1 (.int i) (Q1x X.K .int T hT) (fin _ q)
    | str z hz=>exact Q1f I r1 (.str _) (Q1x X.K .str T hT) (fin _ q)
    | tup sq dn =>
     cases r1;obtain⟨its,r,⟨o,h1,h2,_⟩,hz⟩:=I.tuple (.of sq);exact kia_one kitx_tuple I.kIn ⟨o,h1,h2⟩ (Q1x X.K .tuple T hT) (fun z=>nomatch z) (fin _ q)
    | lst sq dn =>
     cases r1;obtain⟨its,r,⟨o,n,h1,h2,_⟩,hz⟩:=I.list sq.sq;exact kia_one kitx_list I.kIn ⟨o,h1,h2⟩ (Q1x X.K .list T hT) (fun z=>nomatch z) (fin _ q)
    | ref p =>
     cases qa:M p with
     | none=>simp only[qa]at q
     | some o =>
      cases o with
      | oth _=>simp only[qa]at q
      | lst ds =>
       simp only[qa]at q;cases r1;obtain⟨vs,e2,dn⟩:=m.get qa;exact Q1f (x:=.ref p) I rfl (.lst e2) (Q1x X.K .list T hT) (fin _ q)
 refine (Q4g hc hg hm (by rfl) (Q3M he (Q3M (Q8P hg2 hm2 hx (v:=.ty T.nm) rfl hn hdb) Q8w hs2) hs) (by decide) (by decide) hs hpl).imp fun σ H Q ⟨ρ,M,R,s,m,h,k⟩=>?_
 exact⟨ρ,M,_,s,m,h,fun d M1 v H1 h1 x1 m1 e1=>⟨d,M1,R,v,rfl,e1,m1,k.ext x1,by
  cases d <;> exact h1⟩⟩
noncomputable def zbI:D->DH->DK->Prop:=fun d M Q=>match d with
 | .str z=>z.length<=sizeLine/\Q (.int z.length) M
 | .tup xs=>Q (.int xs.length) M
 | .lst xs=>Q (.int xs.length) M
 | .ref a=>match M a with
  | some (.lst xs)=>Q (.int xs.length) M
  | _=>False
 | _=>False
noncomputable def rLen:List D->DH->DK->Prop:=fun ds M Q=>match ds with
 | [d]=>zbI d M Q
 | _=>False
theorem Qbq:zaS X (.builtin "len") rLen:=by
 rintro pins s σ H xs us Q I rv ⟨ds,M,R,dn,m,q,k⟩
 match ds,dn,q with
 | [d],.cons den .nil,q =>
  cases den with
  | str z hz=>exact Q3e pins s σ H _ us Q I rv ⟨_,rfl,by rw[Q1c];exact q.1,k _ M _ H q.2 (Ext.refl H) m (by rw[Q1c];exact .int _)⟩
  | tup sq d=>exact Q1g pins s σ H _ us Q I rv ⟨_,_,rfl,.inr (.of sq),k _ M _ H q (Ext.refl H) m (by rw[d.length];exact .int _)⟩
  | lst sq d=>exact Q1g pins s σ H _ us Q I rv ⟨_,_,rfl,.inl sq.sq,k _ M _ H q (Ext.refl H) m (by rw[d.length];exact .int _)⟩
  | ref p =>
   cases qa:M p with
   | none=>simp only[rLen,zbI,qa]at q
   | some o =>
    cases o with
    | oth _=>simp only[rLen,zbI,qa]at q
    | lst ds =>
     simp only[rLen,zbI,qa]at q;obtain⟨vs,e2,d⟩:=m.get qa;exact Q1g pins s σ H _ us Q I rv ⟨_,_,rfl,.inl (.of e2),k _ M _ H q (Ext.refl H) m (by rw[d.length];exact .int _)⟩
  | _=>exact False.elim q
noncomputable def zaM(M:DH):D->Option (List D)
 | .tup xs=>some xs
 | .lst xs=>some xs
 | .ref a=>match M a with
  | some (.lst xs)=>some xs
  | _=>none
 | _=>none
noncomputable def rTuple:List D->DH->DK->Prop:=fun ds M Q=>match ds with
 | [d]=>match zaM M d with
  | some xs=>Q (.tup xs) M
  | none=>False
 | _=>False
noncomputable def rList:List D->DH->DK->Prop:=fun ds M Q=>match ds with
 | [d]=>match zaM M d with
  | some xs=>∀ p,M p=none->Q (.ref p) (dupd M p (.lst xs))
  | none=>False
 | _=>False
theorem Qbr(m:SimM K M H)(den:Den K H d v)(e:zaM M d=some xs):∃ p vs,v=.ref p/\(SqL K H p vs\/SqT K H p vs)/\Dens K H xs vs/\(SqL K H p vs\/H p=some (.tup vs)):=by
 cases den with
 | tup sq d=>cases e;exact⟨_,_,rfl,.inr (.of sq),d,.inr sq⟩
 | lst sq d=>cases e;exact⟨_,_,rfl,.inl sq.sq,d,.inl sq.sq⟩
 | ref p =>
  cases qa:M p with
  | none=>simp[zaM,qa]at e
  | some o =>
   cases o with
   | oth _=>simp[zaM,qa]at e
   | lst ds =>
    simp[zaM,qa]at e;subst e;obtain⟨vs,e2,d⟩:=m.get qa;exact⟨_,_,rfl,.inl (.of e2),d,.inl (.of e2)⟩
 | _=>simp[zaM]at e
theorem Q9C:zaS X (.type "list") rList:=by
 rintro pins s σ H xs us Q I rv ⟨ds,M,R,dn,m,q,k⟩
 match ds,dn,q with
 | [d],.cons den .nil,q =>
  unfold rList at q;cases e:zaM M d with
  | none=>simp only[e]at q
  | some ys =>
   simp only[e]at q;obtain⟨p,vs,rfl,sq,d,_⟩:=Qbr m den e;exact Q3f pins s σ H _ us Q I rv ⟨p,vs,rfl,sq,fun l hl=>k _ _ _ _ (q l (m.free hl)) (Ext.new hl) (m.newL hl d) (.ref l)⟩
noncomputable def rMin:List D->DH->DK->Prop:=fun ds M Q=>match ds with
 | [.int i,.int j]=>Q (.int (if j<i then j else i)) M
 | _=>False
noncomputable def rMax:List D->DH->DK->Prop:=fun ds M Q=>match ds with
 | [.int i,.int j]=>Q (.int (if j > i then j else i)) M
 | _=>False
noncomputable def rOrd1:D->DH->DK->Prop:=fun d M Q=>match d with
 | .str z=>match z with
  | [c]=>Q (.int (c:Nat)) M
  | _=>False
 | _=>False
noncomputable def rOrd:List D->DH->DK->Prop:=fun ds M Q=>match ds with
 | [d]=>rOrd1 d M Q
 | _=>False
noncomputable def lM(K:Frag)(r:D->List D->DH->DK->Prop):V->List V->Hp->VK->Prop:=fun x vs H Q=>∃ d ds M R,Den K H d x/\Dens K H ds vs/\SimM K M H/\r d ds M R/\Aft K H R Q
noncomputable abbrev MtD(X:Cx)(id:String)(r:D->List D->DH->DK->Prop):Prop:=MtR X id (lM X.K r)
noncomputable def dMS(r:D->List D->DH->DK->Prop)(to:DTE)(t:DTA):DTE:=fun ρ M Q=>to ρ M fun d M1=>match d with
 | .str z=>t ρ M1 fun ds M2=>r (.str z) ds M2 Q
 | _=>False
noncomputable def dML(r:D->List D->DH->DK->Prop)(to:DTE)(t:DTA):DTE:=fun ρ M Q=>to ρ M fun d M1=>match d with
 | .ref a=>match M1 a with
  | some (.lst _)=>t ρ M1 fun ds M2=>r (.ref a) ds M2 Q
  | _=>False
 | .lst xs=>t ρ M1 fun ds M2=>r (.lst xs) ds M2 Q
 | _=>False
theorem de_ml{o:Expr}{to:DTE}{tr:DTA}{name:Str}{apos cpos:Pos}{id:String}{r:D->List D->DH->DK->Prop}(slot:Slot "list" name id)(hty:typeOf (.builtin id)=pure (.type "method_descriptor"))(hm:MtD X id r)(ho:DE X o to)(ha:DA X (e::es) tr)
  (hbase:attributeBase o name X.env (eval o X.env)=eval o X.env:=by rfl)
  (hfew:((backTo cpos (starEach (e::es) X.env)).all (fun x=>!x.1)&&(backToKw cpos (keywordEach [] X.env)).all (fun x=>x.1.isSome)
   && decide ((e::es).length+([]:List Keyword).length+(if ([]:List Keyword).isEmpty then 0 else 1)<30))=true:=by rfl)
  (hline:(apos.endLine==cpos.line)=true:=by rfl) (hs:starEach (e::es) X.env=(false,eval e X.env)::starEach es X.env:=by rfl) (hplain:(backTo cpos (starEach es X.env)).any (·.1)=false:=by rfl) :
  DE X (.Call (.Attribute o name apos) (e::es) [] cpos) (dML r to tr) :=
 (pe_bm PySem.F.plainAttrs_list slot hty hm ho ha hbase hfew hline hs hplain).imp fun σ H Q ⟨ρ,M,R,s,m,h,k⟩=>⟨ρ,M,_,s,m,h,fun d M1 v H1 h1 x1 m1 e1=>by
  cases e1 with
  | ref a =>
   cases qa:M1 a with
   | none=>simp only[qa]at h1
   | some o =>
    cases o with
    | oth _=>simp only[qa]at h1
    | lst xs =>
     simp only[qa]at h1;obtain⟨vs,e2,d⟩:=m1.get qa;exact⟨.inl ⟨rfl,vs,.of e2⟩,ρ,M1,_,s.ext x1,m1,h1,fun ds M2 vs H2 h2 x2 m2 e2=>⟨.ref a,ds,M2,R,.ref a,e2,m2,h2,k.ext (x1.trans x2)⟩⟩
  | lst fz dd=>exact⟨.inl ⟨rfl,_,fz.sq⟩,ρ,M1,_,s.ext x1,m1,h1,fun ds M2 vs H2 h2 x2 m2 e2=>⟨_,ds,M2,R,Den.ext x2 (.lst fz dd),e2,m2,h2,k.ext (x1.trans x2)⟩⟩
  | _=>exact False.elim h1⟩
theorem Q5K{o:Expr}{to:DTE}{name:Str}{apos cpos:Pos}{id:String}{r:D->List D->DH->DK->Prop}(slot:Slot "list" name id)(hty:typeOf (.builtin id)=pure (.type "method_descriptor"))(hm:MtD X id r)(ho:DE X o to)
  (hbase:attributeBase o name X.env (eval o X.env)=eval o X.env:=by rfl) (hline:(apos.endLine==cpos.line)=true:=by rfl):DE X (.Call (.Attribute o name apos) [] [] cpos) (dML r to dNil) :=
 (QaU PySem.F.plainAttrs_list slot hty hm ho hbase hline).imp fun σ H Q ⟨ρ,M,R,s,m,h,k⟩=>⟨ρ,M,_,s,m,h,fun d M1 v H1 h1 x1 m1 e1=>by
  cases e1 with
  | ref a =>
   cases qa:M1 a with
   | none=>simp only[qa]at h1
   | some o =>
    cases o with
    | oth _=>simp only[qa]at h1
    | lst xs =>
     simp only[qa]at h1;obtain⟨vs,e2,d⟩:=m1.get qa;exact⟨.inl ⟨rfl,vs,.of e2⟩,.ref a,[],M1,R,.ref a,.nil,m1,h1,k.ext x1⟩
  | lst fz dd=>exact⟨.inl ⟨rfl,_,fz.sq⟩,_,[],M1,R,.lst fz dd,.nil,m1,h1,k.ext x1⟩
  | _=>exact False.elim h1⟩
noncomputable def zaI:D->List D->DH->DK->Prop:=fun d ds M Q=>match d,ds with
 | .ref a,[y]=>match M a with
  | some (.lst xs)=>xs.length<sizeLine/\Q .non (dupd M a (.lst (xs++[y])))
  | _=>False
 | _,_=>False
theorem Q3m:MtD X "list.append" zaI:=by
 rintro pins s σ H x xs v us Q I rx rv ⟨d,ds,M,R,e,dn,m,q,k⟩;cases e <;> first | exact False.elim q | skip
 rename_i a
 match ds,dn,q with
 | [y],.cons dy .nil,q =>
  cases qa:M a with
  | none=>simp only[zaI,qa]at q
  | some o =>
   cases o with
   | oth _=>simp only[zaI,qa]at q
   | lst ys =>
    simp only[zaI,qa]at q;obtain⟨vs,e2,d⟩:=m.get qa;exact Q5q pins s σ H _ _ v us Q I rx rv ⟨a,vs,_,rfl,rfl,e2,by rw[<- d.length];exact q.1,k _ _ _ _ q.2 (Ext.lst e2) (m.write e2 (d.append (.cons dy .nil))) .non⟩
noncomputable def mReverse:D->List D->DH->DK->Prop:=fun d ds M Q=>match d,ds with
 | .ref a,[]=>match M a with
  | some (.lst xs)=>Q .non (dupd M a (.lst xs.reverse))
  | _=>False
 | _,_=>False
end
section
variable{X:Cx}{a b c e:Expr}{es:List Expr}{ta tb te:DTE}{tt tu:DTT}{pos p2:Pos}{K:Frag}
noncomputable def mIndex:D->List D->DH->DK->Prop:=fun d ds M Q=>match d,ds with
 | .str z,[.str y]=>match y with
  | [c]=>c∈z/\∀ i:Nat,z[i]? = some c->(∀ j,j<i->¬ z[j]? = some c)->Q (.int i) M
  | _=>False
 | _,_=>False
noncomputable def tFzS(T:TS):TS:=fun D σ H=>T { D with nx:=fun σ' H'=>∃ a xs,H' a=some (.lst xs)/\∀ o,D.nx σ' (upd H' a (.frz o (.lst xs))) } σ H
theorem ps_fz{st:Stmt}{T:TS}(h:PS X st T):PS X st (tFzS T):=by
 intro pins s σ H D I q;refine thn (h pins s σ H _ I q) fun f s' q'=>?_;cases f with
 | next =>
  obtain⟨σ',H',I',a,xs,ha,k⟩:=q';obtain⟨o,I2⟩:=I'.frozen ha;exact⟨σ',_,I2,k o⟩
 | brk=>exact q'
 | cont=>exact q'
 | ret v=>exact q'
noncomputable def dFzS(i:Nat)(t:DTS):DTS:=fun DD ρ M=>t { DD with nx:=fun ρ' M'=>match ρ'[i]? with
 | some (some (.ref a))=>match M' a with
  | some (.lst ds)=>DD.nx (ρ'.set i (some (.lst ds))) (ddel M' a)
  | _=>False
 | _=>False } ρ M
end
noncomputable def Sub(M M':DH):Prop:=∀ a o,M a=some o->M' a=some o
theorem Sub.refl(M:DH):Sub M M:=fun _ _ e=>e
theorem Sub.trans{M M1 M2:DH}(a:Sub M M1)(b:Sub M1 M2):Sub M M2:=fun c o e=>b c o (a c o e)
theorem Sub.new(h:M p=none):Sub M (dupd M p o):=fun a u e=>by rw[Q0b (dne e h)];exact e
theorem Sub.put(s:Sub M M')(h:M p=none):Sub M (dupd M' p o):=fun a u e=>by rw[Q0b (dne e h)];exact s a u e
theorem Sub.none(s:Sub M M')(h:M' p=Option.none):M p=Option.none:=by
 cases e:M p with
 | none=>rfl
 | some o=>rw[s p o e]at h;cases h
theorem SimM.sub{K:Frag}{H:Hp}{M M':DH}(h:SimM K M' H)(s:Sub M M'):SimM K M H:=fun a o e=>h a o (s a o e)
section
variable{X:Cx}{a b c e tg iter:Expr}{es:List Expr}{st:Stmt}{sts body:List Stmt}{ta tb te:DTE}{tt tu:DTT}{t u:DTS}{pos:Pos}{K:Frag}
noncomputable def zaV(wi:DTI)(ix:List Nat)(unp:D->Option (List D))(tc:DTT)(te:DTE):DTE:=fun ρ M Q=>wi ρ M fun items Cd M1 =>
 zaq (ix.map fun i=>(ρ[i]?).getD none) unp tc te Cd (fun ys M2=>ys.length<=sizeLine/\Q (.lst ys) M2) items [] M1
theorem Q3n{unp:D->Option (List D)}{F:List D->DH->Prop}(hu:Unp K k unp gV)(s:SimS K H ρ σ)(m:SimM K M H)
  (h:wi ρ M fun items Cd M1=>zaq (ix.map fun i=>(ρ[i]?).getD none) unp tc te Cd (fun ys M2=>ys.length<=sizeLine/\F ys M2) items [] M1)
  (kk:∀ zs M' ys H' a,F zs M'->Ext H H'->SimM K M' H'->Dens K H' zs ys->H' a=none->Q (.ref a) (upd H' a (.lst ys))):tComp (lI K wi) k ix gV (lT K tc) (lE K te) σ H Q:=by
 refine⟨ρ,M,_,s,m,h,fun items Cd M1 H1 J h1 x1 m1 Y=>?_⟩;refine⟨fun i mm ys H'=>mm=items.length-i/\i<=items.length/\∃ M' zs,Ext H1 H'/\SimM K M' H'/\Dens K H' zs ys/\zaq (ix.map fun i=>(ρ[i]?).getD none) unp tc te Cd (fun ys M2=>ys.length<=sizeLine/\F ys M2) (items.drop i) zs M',⟨_,rfl,ZX _,M1,[],Ext.refl _,m1,.nil,h1⟩,?_⟩;rintro i mm ys H' ⟨rfl,hi,M',zs,x',m',dz,h'⟩;by_cases hlt:i<items.length
 ·right;have hd:items.drop i=items[i]::items.drop (i+1):=drop_eq_getElem_cons hlt;rw[hd]at h';obtain⟨cd,h'⟩:=h';refine⟨Y.go i H' M' x' m' cd hlt,fun y Hy yl=>?_⟩;obtain⟨xy,my,d,ed,den⟩:=Y.yld i H' M' y Hy x' m' cd yl hlt;have:items[i]=d:=by
   rw[Zf hlt]at ed;exact ZB ed
  rw[this]at h';cases eu:unp d with
  | none=>rw[eu]at h';exact h'.elim
  | some us =>
   rw[eu]at h';refine hu.to d y us _ Hy _ den eu fun ws dw=>?_;have hk:ws.length=k:=by rw[<- dw.length];exact hu.len d us eu
   refine⟨?_,?_,?_⟩
   ·rw[List.drop_left' (by rw[Zb];exact hk)]
   ·rw[Zl,Zb,Zb,hk]
   ·have xx:=x'.trans xy;have sρ:SimS K Hy (us.map some++ix.map fun i=>(ρ[i]?).getD none) (ws.map some++ix.map fun i=>(σ[i]?).getD none):=(SimS.ofDens dw).append ((s.ext (x1.trans xx)).pick ix);refine⟨_,M',_,sρ,my,h',fun b M3 H3 h3 x3 m3=>?_⟩;cases b with
    | true =>
     refine iteT ⟨_,M3,_,sρ.ext x3,m3,(Zg rfl).mp h3,fun z M4 v H4 ⟨hz,h4⟩ x4 m4 e4=>⟨by rw[<- dz.length];exact hz,_,(show items.length-(i+1)<items.length-i by omega),rfl,hlt,M4,_,(xx.trans x3).trans x4,m4,(dz.ext (xy.trans (x3.trans x4))).append (.cons e4 .nil),h4⟩⟩
    | false=>exact iteF ⟨_,(show items.length-(i+1)<items.length-i by omega),rfl,hlt,M3,zs,xx.trans x3,m3,dz.ext (xy.trans x3),(Zc Zy).mp h3⟩
 ·left;have hd:items.drop i=[]:=Yd (le_of_not_lt hlt);rw[hd]at h';obtain⟨cd,hz,q⟩:=h';exact⟨Y.stop i H' M' x' m' cd (le_of_not_lt hlt),by rw[<- dz.length];exact hz,fun a ha=>kk _ _ _ _ a q (x1.trans x') m' dz ha⟩
section
variable{scope:Scope}{N fn:List Str}{k:Nat}{ix:List Nat}{elt:Expr}{ifs:List Expr}{wi:DTI}{unp:D->Option (List D)}{gV:TG}{tc:DTT}
theorem Q7t(tp:Top X){R0:Value->Hp->Prop}(hx0:zai X fun cls _ H=>R0 cls H)(hu:Unp X.K k unp gV)(hc:X.calm=true)(ok:zav X.env.scope scope N k fn)(hix:ix.map (fun i=>X.N[i]?)=fn.map some)(hi:DI X tg iter wi)
  (hg:∀ cl C s₀ H₀ ex E,PG (za2 X scope N cl C s₀ H₀ ex E) tg gV) (ht:∀ cl C s₀ H₀ ex E,zai (za2 X scope N cl C s₀ H₀ ex E) (fun cls _ H=>R0 cls H)->DIfs (za2 X scope N cl C s₀ H₀ ex E) ifs tc) (he:∀ cl C s₀ H₀ ex E,zai (za2 X scope N cl C s₀ H₀ ex E) (fun cls _ H=>R0 cls H)->DE (za2 X scope N cl C s₀ H₀ ex E) elt te)
  (hs:∀ x,foldedSetIterable iter X.env x=pure x:=by intro _;rfl):DE X (.ListComp elt [⟨tg,iter,ifs,0⟩] scope pos) (zaV wi ix unp tc te) :=
 (Q5u (Q4h tp hx0 hc ok hix hi hg ht he hs)).imp fun σ H Q ⟨ρ,M,R,s,m,h,kk⟩=>Q3n hu s m h fun zs M' ys H' a q x' m' dz ha =>
  ⟨a,ys,rfl,Q0d,fun o=>by
   rw[Q1Y];exact kk _ M' _ _ q (x'.trans (Ext.new ha)) (m'.new ha) (.lst (.inl ⟨o,Q0d⟩) (dz.ext (Ext.new ha)))⟩
theorem Q3S(tp:Top X){R0:Value->Hp->Prop}(hx0:zai X fun cls _ H=>R0 cls H)(hsw:swapsWith (.ListComp elt [⟨tg,iter,ifs,0⟩] scope pos) (some (.Name x pos')) spos.line X.env=pure true)
  (hN:X.N.Nodup) (hiN:X.N[i]? = some x) (hx:X.env.scope.names.lookup x=some .local) (hu:Unp X.K k unp gV) (hc:X.calm=true) (ok:zav X.env.scope scope N k fn) (hix:ix.map (fun i=>X.N[i]?)=fn.map some) (hi:DI X tg iter wi)
  (hg:∀ cl C s₀ H₀ ex E,PG (za2 X scope N cl C s₀ H₀ ex E) tg gV) (ht:∀ cl C s₀ H₀ ex E,zai (za2 X scope N cl C s₀ H₀ ex E) (fun cls _ H=>R0 cls H)->DIfs (za2 X scope N cl C s₀ H₀ ex E) ifs tc) (he:∀ cl C s₀ H₀ ex E,zai (za2 X scope N cl C s₀ H₀ ex E) (fun cls _ H=>R0 cls H)->DE (za2 X scope N cl C s₀ H₀ ex E) elt te)
  (hs:∀ x,foldedSetIterable iter X.env x=pure x:=by intro _;rfl):DS X (.Assign [.Name x pos'] (.ListComp elt [⟨tg,iter,ifs,0⟩] scope pos) spos) (dSet i (zaV wi ix unp tc te)) :=
 by
 have h0:=Q2f (tc:=lT X.K tc) (te:=lE X.K te) tp hx0 hsw hN hiN hx hc ok hix hi hg ht he hs;refine (ps_fz h0).imp fun D σ H ⟨ρ,M,DD,s,m,h,kk⟩=>?_;unfold tFzS tAsg;refine Q3n hu s m h fun zs M' ys H' a q x' m' dz ha=>?_;refine⟨a,ys,Q0d,fun o=>?_⟩;rw[Q1Y];have xa:Ext H (upd H' a (.frz o (.lst ys))):=x'.trans (Ext.new ha);exact kk.nx _ M' _ _ q xa ((s.ext xa).set (d:=.lst zs) (v:=.ref a) (.lst (.inl ⟨o,Q0d⟩) (dz.ext (Ext.new ha))) i) (m'.new ha)
end
noncomputable def dNeg(te:DTE):DTE:=fun ρ M Q=>te ρ M fun x M1=>match x with
 | .int i=>Q (.int (-i)) M1
 | _=>False
theorem Qbs(h:DE X e te):DE X (.UnaryOp .USub e pos) (dNeg te) :=
 (pe_un QaM h).imp fun σ H Q ⟨ρ,M,R,s,m,h,k⟩=>⟨ρ,M,_,s,m,h,fun d M1 v H1 h1 x1 m1 e1=>by
  cases e1 <;> first | exact False.elim h1 | exact⟨_,rfl,k _ M1 _ H1 h1 x1 m1 (.int _)⟩⟩
noncomputable def zbU(t:DTA):DTE:=fun ρ M Q=>t ρ M fun xs M1=>xs.length<=sizeLine/\Q (.lst xs) M1
theorem Q9D(h:DA X es tr):DE X (.List es pos) (zbU tr) :=
 (Q5u (Q8x h)).imp fun σ H Q ⟨ρ,M,R,s,m,h,k⟩=>⟨ρ,M,_,s,m,h,fun ds M1 vs H1 ⟨hl,h1⟩ x1 m1 e1=>⟨by rw[<- e1.length];exact hl,fun p hp=>⟨p,vs,rfl,Q0d,fun o=>by
  rw[Q1Y];exact k _ M1 _ _ h1 (x1.trans (Ext.new hp)) (m1.new hp) (.lst (.inl ⟨o,Q0d⟩) (e1.ext (Ext.new hp)))⟩⟩⟩
noncomputable def za0(R:DK):zb6:={ nx:=fun _ M'=>∃ M0,Sub M0 M'/\R .non M0,rt:=fun d M'=>∃ M0,Sub M0 M'/\R d M0,bk:=fun _ _=>False,ct:=fun _ _=>False }
end
section
variable{X:Cx}{a b c e tg:Expr}{es:List Expr}{ta tb te:DTE}{tt tu:DTT}{pos p2:Pos}{K:Frag}
noncomputable def Its(z:List Nat):It:=⟨fun i _=>i<z.length,fun i H x H'=>H'=H/\∃ c,z[i]? = some c/\x=.str (S [c]),fun i _=>z.length<=i⟩
theorem Qbt(z:List Nat):(S z).cps.size=z.length:=by unfold S;simp
theorem S_get(z:List Nat)(i:Nat):(S z).cps[i]? = z[i]?:=by unfold S;simp
theorem Q7u(hty:ty = "str_ascii_iterator" \/ ty = "str_iterator"):Turn P w K tg (Its z) [it] it (fun i h=>h.IsStrIter it ty (S z) t i) where
 mem:=by simp
 obj:=fun i h st b hb=>by
  have e:b=it:=by simpa using hb
  subst e;obtain⟨o,e,c,d⟩:=st;exact⟨o,e,fun v q=>by rw[d]at q;cases q⟩
 keep:=fun i h h' st k=>by
  obtain⟨o,e,r⟩:=st;exact⟨o,k it (by simp) o e,r⟩
 item:=by
  intro X hP hw hK hc i pins s σ H E I hf st hg;subst hP hw;obtain⟨f0,f1,f2,f3,f4,f5⟩:=hf it (by simp)
  have hlt:i<(S z).cps.size:=by rw[Qbt];exact hg
  have fin:∀ v h' tk,SignAt (S z) i v->h'.IsStrIter it ty (S z) t (i+1)->(∀ b o,b∉[it]->s.heap.get? b=some o->h'.get? b=some o)->∃ u,some v=some u /\
    wpAny (model X.prog X.w) X.A (letOwnedTupleGo tg (.ref it) u) (fun _ s2=>∃ x H',Inv X pins σ H' s2/\L2.RelV x u/\(Its z).yld i H x H'/\s2.heap.IsStrIter it ty (S z) t (i+1)/\∀ b∈[it],H' b=none) E { s with heap:=h',toks:=tk }:=by
   rintro v h' tk ⟨c,u,hcu,rfl⟩ st' kk;have I1:Inv X pins σ H { s with heap:=h',toks:=tk }:=I.turned (fun b o hb e=>kk b o (by simpa using hb) e) f0 f1 f3 f4 f5
   obtain⟨o,e,cl,d⟩:=id st';refine⟨_,rfl,go_of (s:={ s with heap:=h',toks:=tk }) (n:=ty) e cl d (by rcases hty with rfl | rfl <;> decide) ⟨.str (S [c]),H,I1,⟨u,rfl⟩,⟨rfl,c,by rw[<- S_get];exact hcu,rfl⟩,st',fun b hb=>(hf b hb).1⟩⟩
  rcases hty with rfl | rfl
  ·exact (Walks.strAscii (prog:=X.prog) (w:=X.w) (I.ok.hd hc) it (S z) t).item i s _ _ hlt st fun v h' tk hv st' kk=>fin v h' tk hv st' kk
  ·exact (Walks.strWide (prog:=X.prog) (w:=X.w) (I.ok.hd hc) it (S z) t).item i s _ _ hlt st fun v h' tk hv st' kk=>fin v h' tk hv st' kk
 done:=by
  intro X hP hw hK hc i pins s σ H E I hf st hg;subst hP hw;obtain⟨f0,f1,f2,f3,f4,f5⟩:=hf it (by simp)
  have hx:(S z).cps[i]? = none:=by rw[S_get];exact List.getElem?_eq_none_iff.mpr hg
  rcases hty with rfl | rfl
  ·exact wpAny_pyNext_ascii_end (I.ok.hd hc) st hx fun h' eb=>⟨rfl,I.turned (t':=s.toks) (fun b o hb e=>eb b o hb e) f0 f1 f3 f4 f5⟩
  ·exact wpAny_pyNext_wide_end (I.ok.hd hc) st hx fun h' eb=>⟨rfl,I.turned (t':=s.toks) (fun b o hb e=>eb b o hb e) f0 f1 f3 f4 f5⟩
 self:=fun _ _ _ _ _ st h=>by
  rcases hty with rfl | rfl
  ·exact wpAny_pyIter_striter_ascii st h
  ·exact wpAny_pyIter_striter_wide st h
theorem Yields.str{Cd:DH->Prop}(hz:cpOk z):Yields K (Its z) (z.map fun c=>D.str [c]) Cd H where
 go:=fun i H' M x m c hi=>by simpa[Its]using hi
 yld:=fun i H' M y H'' x m c ⟨e,ch,h1,h2⟩ hi=>by
  subst e h2;refine⟨Ext.refl _,m,.str [ch],by rw[Zq,h1];rfl,.str [ch] (cpOk.sub hz fun c' hc=>?_)⟩
  rw[Zp.mp hc];exact Zt h1
 stop:=fun i H' M x m c hi=>by simpa[Its]using hi
noncomputable def diAny(tl:DTE):DTI:=fun ρ M R=>tl ρ M fun d M1=>match d with
 | .tup ds=>R ds (fun _=>True) M1
 | .lst ds=>R ds (fun _=>True) M1
 | .str z=>R (z.map fun c=>D.str [c]) (fun _=>True) M1
 | .ref a=>match M1 a with
  | some (.lst ds)=>R ds (fun M=>M a=some (.lst ds)) M1
  | _=>False
 | _=>False
theorem Q5L(hl:DE X l tl):DI X tg l (diAny tl):=by
 rintro pins s σ H R I ⟨ρ,M,RD,sm,m,h,k⟩;have q0:tl ρ M (fun d M1=>match d with
  | .tup ds=>RD ds (fun _=>True) M1
  | .lst ds=>RD ds (fun _=>True) M1
  | .str z=>RD (z.map fun c=>D.str [c]) (fun _=>True) M1
  | .ref a=>match M1 a with
   | some (.lst ds)=>RD ds (fun M=>M a=some (.lst ds)) M1
   | _=>False
  | _=>False):=h
 refine thn (hl pins s σ H (fun v H1=>∃ d M1,Ext H H1/\SimM X.K M1 H1/\Den X.K H1 d v/\(match d with
  | .tup ds=>RD ds (fun _=>True) M1
  | .lst ds=>RD ds (fun _=>True) M1
  | .str z=>RD (z.map fun c=>D.str [c]) (fun _=>True) M1
  | .ref a=>match M1 a with
   | some (.lst ds)=>RD ds (fun M=>M a=some (.lst ds)) M1
   | _=>False
  | _=>False)) I ⟨ρ,M,_,sm,m,q0,fun d M1 v H1 h1 x1 m1 e1=>⟨d,M1,x1,m1,e1,h1⟩⟩) fun u s1 ⟨v,H1,I1,r1,d,M1,x1,m1,e1,h1⟩=>?_
 have viaL:∀ {a:Addr} {vs:List V} (_:v=.ref a) (_:SqL X.K H1 a vs) {items:List D} {Cd:DH->Prop},RD items Cd M1->Yields X.K (Itl X.K a) items Cd H1 ->
   wpAny (model X.prog X.w) X.A (pyIter u) (PIE X pins σ tg R) X.xe s1:=fun{a vs} ev hq {items Cd} q Y=>by
  subst ev;cases r1;obtain⟨its,rv,p,hz⟩:=I1.list hq;refine wpAny_pyIter_list p.isList ?_;refine⟨s1.heap.objs.size,[s1.heap.objs.size],_,_,H1,rfl,I1.kept (t':=s1.toks) fun b o e=>Zm _ e,Q5f a _,⟨_,Z1 _ rfl,rfl,rfl⟩,fun b hb=>?_,k items Cd M1 H1 _ q x1 m1 Y⟩;have e:b=s1.heap.objs.size:=by simpa using hb
  subst e;exact I1.fpOk (Zs _) (I1.hok.fresh (Zs _))
 cases e1 with
 | tup q0 r =>
  have q:=SqT.of (K:=X.K) q0;cases r1;obtain⟨its,rv,p,hz⟩:=I1.tuple q;refine wpAny_pyIter_tuple (show s1.heap.IsTuple _ its.toArray from p) ?_;refine⟨s1.heap.objs.size,[s1.heap.objs.size],_,_,H1,rfl,I1.kept (t':=s1.toks) fun b o e=>Zm _ e,Q4F _ _,⟨_,Z1 _ rfl,rfl,rfl⟩,fun b hb=>?_,k _ _ M1 H1 _ h1 x1 m1 (Yields.tup q r)⟩;have e:b=s1.heap.objs.size:=by simpa using hb
  subst e;exact I1.fpOk (Zs _) (I1.hok.fresh (Zs _))
 | lst q r=>exact viaL rfl q.sq h1 (Yields.fz q r)
 | str z hz =>
  obtain⟨t,rfl⟩:=r1;have go:∀ (ty:String),ty = "str_ascii_iterator" \/ ty = "str_iterator" -> PIE X pins σ tg R (.ref s1.heap.objs.size) { s1 with heap:=s1.heap.push { cls:=.type ty,data:=.fields #[.str (S z) t,.int 0 0] } }:=fun ty hty=>by
   refine⟨s1.heap.objs.size,[s1.heap.objs.size],_,_,H1,rfl,I1.kept (t':=s1.toks) fun b o e=>Zm _ e,Q7u (z:=z) (t:=t) hty,⟨_,Z1 _ rfl,rfl,rfl⟩,fun b hb=>?_,k _ _ M1 H1 _ h1 x1 m1 (Yields.str hz)⟩;have e:b=s1.heap.objs.size:=by simpa using hb
   subst e;exact I1.fpOk (Zs _) (I1.hok.fresh (Zs _))
  cases ha:(S z).cps.all (· < 128)
  ·exact wpAny_pyIter_wide ha (go _ (.inr rfl))
  ·exact wpAny_pyIter_ascii ha (go _ (.inl rfl))
 | ref a =>
  cases qa:M1 a with
  | none=>simp only[qa]at h1
  | some o =>
   cases o with
   | oth _=>simp only[qa]at h1
   | lst ds =>
    simp only[qa]at h1;obtain⟨vs,e2,_⟩:=m1.get qa;exact viaL rfl (.of e2) h1 Yields.mut
 | _=>exact h1.elim
noncomputable def strip2(l r:Bool)(y x:List Nat):List Nat :=
 let lo:=if l then (x.takeWhile fun c=>y.contains c).length else 0
 let hi:=if r then x.length-((x.drop lo).reverse.takeWhile fun c=>y.contains c).length else x.length
 (x.drop lo).take (hi-lo)
noncomputable def m1S(C:List Nat->List Nat->Prop)(f:List Nat->List Nat->D):D->List D->DH->DK->Prop:=fun d ds M Q=>match d,ds with
 | .str z,[.str y]=>C z y/\Q (f z y) M
 | _,_=>False
noncomputable def mFind:D->List D->DH->DK->Prop:=fun d ds M Q=>match d,ds with
 | .str z,[.str y]=>match y with
  | [c]=>(∀ i:Nat,z[i]? = some c->(∀ j,j<i->¬ z[j]? = some c)->Q (.int i) M)/\(c∉z->Q (.int (-1)) M)
  | _=>False
 | _,_=>False
noncomputable def joinL(s:List Nat):List (List Nat)->List Nat
 | []=>[]
 | [w]=>w
 | w::v::r=>w++s++joinL s (v::r)
noncomputable def weight(s:List Nat)(ws:List (List Nat)):Nat:=ws.foldl (fun n w=>n+w.length+s.length) 0
noncomputable def mJoin:D->List D->DH->DK->Prop:=fun d ds M Q=>match d,ds with
 | .str s,[l]=>∃ ws:List (List Nat),zaM M l=some (ws.map D.str)/\(∀ xs,l≠.tup xs)/\weight s ws<=16000000/\Q (.str (joinL s ws)) M
 | _,_=>False
end
section
variable{X:Cx}{a b c e tg:Expr}{es:List Expr}{ta tb te:DTE}{tt tu:DTT}{pos p2:Pos}{K:Frag}
noncomputable def digs(m:Nat):List Nat:=(Nat.toDigits 10 m).map Char.toNat
theorem Qbu(m:Nat):S (digs m)=Str.ofString (toString ((m:Nat):Int)):=by
 have:=PySem.W.KIN.signs_num m;unfold digs;rw[<- this,S_of]
theorem Q4Q{m c:Nat}(h:c∈digs m):48<=c/\c<=57:=by
 unfold digs at h;obtain⟨ch,hch,rfl⟩:=ZH.mp h;have h1:=Nat.isDigit_of_mem_toDigits (by decide) (by decide) hch
 simp only[Char.isDigit,Zh,Ze]at h1;obtain⟨h1,h2⟩:=h1;exact⟨UInt32.le_iff_toNat_le.mp h1,UInt32.le_iff_toNat_le.mp h2⟩
theorem Q5M(m:Nat):cpOk (digs m):=ZN.mpr fun c hc=>by
 have:=Q4Q hc;exact Zo (by omega)
noncomputable def rStr:List D->DH->DK->Prop:=fun ds M Q=>match ds with
 | [.int i]=>0<=i/\i.natAbs.log2<1920/\Q (.str (digs i.toNat)) M
 | _=>False
theorem Qbv:zaS X (.type "str") rStr:=by
 rintro pins s σ H xs us Q I rv ⟨ds,M,R,dn,m,q,k⟩;cases dn with
 | nil=>exact False.elim q
 | cons den t =>
  cases t with
  | cons _ _=>cases den <;> exact False.elim q
  | nil =>
   cases den with
   | int i =>
    obtain⟨h0,h1,q⟩:0<=i/\i.natAbs.log2<1920/\R (.str (digs i.toNat)) M:=q;obtain⟨n,rfl⟩:=Int.eq_ofNat_of_zero_le h0;rw[Z7]at q;refine Q2Y pins s σ H _ us Q I rv ⟨_,rfl,h1,?_⟩;have e:(V.str (toString ((n:Nat):Int)))=V.str (S (digs n)):=by rw[Qbu]
    rw[e];exact k _ M _ H q (Ext.refl H) m (.str _ (Q5M n))
   | _=>exact False.elim q
noncomputable def rInt:List D->DH->DK->Prop:=fun ds M Q=>match ds with
 | [d]=>match d with
  | .str z=>z≠[]/\(∀ c∈z,48<=c/\c<=57)/\z.length<=640/\Q (.int (NumText.digitsVal z:Nat)) M
  | .int i=>Q (.int i) M
  | .bl b=>Q (.int (if b then 1 else 0)) M
  | _=>False
 | _=>False
noncomputable def rAll(any:Bool):List D->DH->DK->Prop:=fun ds M Q=>match ds with
 | [d]=>∃ bs:List Bool,zaM M d=some (bs.map D.bl)/\(∀ xs,d≠.tup xs)/\Q (.bl (if any then bs.any id else bs.all id)) M
 | _=>False
noncomputable def rIn1(f:Bool->Bool):DR2:=fun x y M Q=>match y with
 | .str z=>match x with
  | .str w=>match w with
   | [c]=>Q (.bl (f (decide (c∈z)))) M
   | _=>False
  | _=>False
 | y=>∃ xs,zaM M y=some xs/\plain 11 (res M x)=true/\xs.all (plain 11)=true/\Q (.bl (f (xs.any fun d=>eqB d (res M x)))) M
open Classical in
theorem Qbw(I:Inv X pins σ H s)(m:SimM X.K M H)(hu:X.A.units+64<cLine)(hx:plain 11 (res M x)=true)(ex:Den X.K H x vx)(rx:L2.RelV vx ux)
  {xs:List D} {vs:List V} {its:List Value} (hp:xs.all (plain 11)=true) (dn:Dens X.K H xs vs) (rv:Vals vs its) :
  ∃ e:Value->Bool,(∀ y∈its,SeqAt.EqAt X.A.in1 s y ux (e y))/\its.map e=xs.map fun d=>eqB d (res M x):=by
 obtain⟨⟨as,ra⟩,c1,d1⟩:=Q2h I m hx ex rx;refine⟨fun y=>decide (∃ da bs,Reads s.heap y da bs/\PyData.eqv da (toPy (res M x))=true),?_,?_⟩
 ·intro y hy;have:∃ d v,d∈xs/\Den X.K H d v/\L2.RelV v y:=by
   clear hp
   induction xs generalizing vs its with
   | nil=>cases dn;cases rv;cases hy
   | cons d0 xs ih =>
    cases dn with
    | cons a t =>
     cases rv with
     | cons r1 r2 =>
      rcases Zw.mp hy with rfl | hy
      ·exact⟨_,_,Zv,a,r1⟩
      ·obtain⟨d,v,h1,h2⟩:=ih t r2 hy;exact⟨d,v,Zk _ h1,h2⟩
  obtain⟨d,v,hd,den,rr⟩:=this;have pd:plain 11 d=true:=(ZN.mp hp) d hd;obtain⟨bs,rb⟩:=Q0q I 11 d v y pd den rr;obtain⟨c2,d2⟩:=Q0N 11 d v pd den;have h:=SeqAt.eqAt_reads (toPy d) (toPy (res M x)) X.A.in1 s y ux bs as rb ra c2 c1 (by
   have:X.A.in1.units<=X.A.units+1:=by simp[Around.in1]
   have h2:min (toPy d).depth (toPy (res M x)).depth<=11:=Z3 (Nat.min_le_left _ _) d2;omega)
  have e:decide (∃ da bs,Reads s.heap y da bs/\PyData.eqv da (toPy (res M x))=true)=PyData.eqv (toPy d) (toPy (res M x)):=by
   cases hq:PyData.eqv (toPy d) (toPy (res M x)) with
   | true=>exact Zo ⟨_,_,rb,hq⟩
   | false =>
    refine Z5 ?_;rintro⟨da,cs,r,he⟩;have:=(Reads.unique rb _ _ r).1;rw[<- this,hq]at he;cases he
  show SeqAt.EqAt X.A.in1 s y ux (decide (∃ da bs,Reads s.heap y da bs/\PyData.eqv da (toPy (res M x))=true));rw[e];exact h
 ·induction xs generalizing vs its with
  | nil=>cases dn;cases rv;rfl
  | cons d xs ih =>
   cases dn with
   | cons a t =>
    cases rv with
    | cons r1 r2 =>
     rw[ZU,Zh]at hp;rw[Z6,Z6,ih hp.2 t r2];congr 1;obtain⟨bs,rb⟩:=Q0q I 11 _ _ _ hp.1 a r1;have be:=bEq _ (res M x) 11 11 hp.1 hx;rw[<- be];cases hq:PyData.eqv (toPy d) (toPy (res M x)) with
     | true=>exact Zo ⟨_,_,rb,hq⟩
     | false =>
      refine Z5 ?_;rintro⟨da,cs,r,he⟩;have:=(Reads.unique rb _ _ r).1;rw[<- this,hq]at he;cases he
end
end DL
namespace DL
open PySem PySem.Spec L2
open PyProof.Rows hiding St
open AutoSeq1 (wpAny_loadPart')
noncomputable def rvObj(t:Addr)(i:Int):Obj:={ cls:=.type "reversed",data:=.fields #[.ref t,rawInt i] }
section
variable{prog:Program}{w:World}{A:Around}{E:Value->Shared->Prop}{s:Shared}
noncomputable def IsRv(h:Heap)(a t:Addr)(i:Int):Prop:=∃ o,h.get? a=some o/\o.cls=.type "reversed" /\ o.data=.fields #[.ref t,rawInt i]
theorem IsRv.typeIs(x:IsRv s.heap a t i):s.TypeIs (.ref a) "reversed":=let ⟨o,ho,hc,_⟩:=x;⟨o,ho,hc⟩
end
theorem IsRv.at(x:IsRv h a t i)(e:∀ o,h.get? a=some o->h'.get? a=some o):IsRv h' a t i:=let ⟨o,ho,r⟩:=x;⟨o,e _ ho,r⟩
end DL
namespace DL
open PySem PySem.Spec L2
open PyProof.Rows hiding St
section
variable{prog:Program}{w:World}{A:Around}{E:Value->Shared->Prop}{s:Shared}
end
section
variable{prog:Program}{w:World}{A:Around}{E:Value->Shared->Prop}{s:Shared}
end
section
variable{X:Cx}{a b c e o tg:Expr}{es:List Expr}{ta tb te to:DTE}{pos p2 p apos cpos:Pos}{K:Frag}
noncomputable def dJoinR(to te:DTE):DTE:=fun ρ M Q=>to ρ M fun d M1=>match d with
 | .str z=>te ρ M1 fun d2 M2=>match d2 with
  | .tup ds=>∃ ws:List (List Nat),ds=ws.map D.str/\weight z ws.reverse<=16000000/\Q (.str (joinL z ws.reverse)) M2
  | _=>False
 | _=>False
end
noncomputable def zbD(c:Nat):List Nat->List (List Nat)
 | []=>[[]]
 | x::r=>if x=c then []::zbD c r else match zbD c r with
  | w::ws=>(x::w)::ws
  | []=>[[x]]
section
variable{X:Cx}{a b c e tg:Expr}{es:List Expr}{ta tb te:DTE}{tt tu:DTT}{pos p2 p:Pos}{K:Frag}
noncomputable def mSplit:D->List D->DH->DK->Prop:=fun d ds M Q=>match d,ds with
 | .str z,[.str y]=>match y with
  | [c]=>z.length+2<=sizeLine/\Q (.lst ((zbD c z).map D.str)) M
  | _=>False
 | _,_=>False
noncomputable def m0S(f:Nat->Nat):D->List D->DH->DK->Prop:=fun d ds M Q=>match d,ds with
 | .str z,[]=>(∀ c∈z,c<128)/\z.length<=5592405/\Q (.str (z.map f)) M
 | _,_=>False
noncomputable def Itv(K:Frag)(a:Addr)(n:Nat):It :=
 ⟨fun i H=>∃ xs x,SqL K H a xs/\xs.length=n/\i<n/\xs[n-1-i]? = some x,fun i H x H'=>H'=H/\∀ xs,SqL K H a xs->xs[n-1-i]? = some x,fun i _=>n<=i⟩
noncomputable def diRev(te:DTE):DTI:=fun ρ M R=>te ρ M fun d M1=>match d with
 | .lst ds=>R ds.reverse (fun _=>True) M1
 | _=>False
theorem _root_.L2.PK.imp'(h:PK X kws t)(i:∀ σ H Q,t' σ H Q->t σ H Q):PK X kws t':=fun pos pins s σ H Q I q=>h pos pins s σ H Q I (i σ H Q q)
noncomputable def dCallK(sp:DSp)(g:List D->List D->List D)(t tk:DTA):DTE:=fun ρ M Q=>t ρ M fun ds M1=>tk ρ M1 fun zs M2=>sp (g ds zs) M2 Q
noncomputable abbrev DKw(X:Cx)(kws:List Keyword)(t:DTA):Prop:=PK X kws (lA X.K t)
theorem Q9E:DKw X [] dNil:=QaS.imp' fun σ H Q ⟨ρ,M,R,s,m,h,k⟩=>k [] M [] H h (Ext.refl H) m .nil
theorem Q7v(ha:DE X e te)(hr:DKw X kws tr):DKw X (⟨nm,e,kpos⟩::kws) (zaB te tr) :=
 (Q9c ha hr).imp' fun σ H Q ⟨ρ,M,R,s,m,h,k⟩=>⟨ρ,M,_,s,m,h,fun d M1 v H1 h1 x1 m1 e1=>⟨ρ,M1,_,s.ext x1,m1,h1,fun ds M2 vs H2 h2 x2 m2 e2=>k _ M2 _ H2 h2 (x1.trans x2) m2 (.cons (e1.ext x2) e2)⟩⟩
noncomputable def dBot:DTS:=fun _ _ _=>False
end
noncomputable abbrev DX:=Nat->DH->Prop
noncomputable abbrev DSpX:=List D->DH->DK->DX->Prop
noncomputable abbrev CN:=Nat->Option Str
noncomputable def AftX(K:Frag)(mg:Str->Option Value)(cn:CN)(H:Hp)(RX:DX)(R0:Value->Hp->Prop):Prop:=∀ c x u M' H',RX c M'->cn c=some x->mg x=some u->Ext H H'->SimM K M' H'->R0 u H'
noncomputable def lX(K:Frag)(mg:Str->Option Value)(cn:CN)(RX:DX):Value->Hp->Prop:=fun u H=>∃ c x M,cn c=some x/\mg x=some u/\SimM K M H/\RX c M
noncomputable def lSpX(K:Frag)(mg:Str->Option Value)(cn:CN)(sp:DSpX):Sp:=fun vs H Q E=>∃ ds M R RX,Dens K H ds vs/\SimM K M H/\sp ds M R RX/\Aft K H R Q/\AftX K mg cn H RX fun u H'=>E u none H'
section
variable{X:Cx}{a b c e:Expr}{es:List Expr}{te:DTE}{pos p2 p np cpos:Pos}{K:Frag}{cn:CN}
noncomputable def dCallX(sp:DSpX)(dds:List D)(xd:DX)(t:DTA):DTE:=fun ρ M Q=>t ρ M fun ds M1=>sp (ds++dds) M1 Q xd
noncomputable def dRaise(t:DTA)(R:DH->Prop):DTS:=fun _ ρ M=>t ρ M fun ds M1=>ds.length<=sizeLine/\R M1
noncomputable def zbF:Option Nat->D->DSt->DSt
 | none,_,ρ=>ρ
 | some i,d,ρ=>ρ.set i (some d)
noncomputable def dTryC(sp:DSpX)(dds:List D)(c:Nat)(tgt:Option Nat)(j:Nat)(l:D)(t:DTA):DTS:=fun DD ρ M=>t ρ M fun ds M1=>sp (ds++dds) M1 (fun d M2=>DD.nx (zbF tgt d ρ) M2) fun c' M2=>c'=c/\DD.nx (ρ.set j (some l)) M2
end
section
variable{X:Cx}{pos:Pos}
noncomputable def zaO(c:DTT)(tb:DTS):DTS:=fun DD ρ M=>∃ W:Nat->DSt->DH->Prop,(∃ m,W m ρ M)/\∀ m ρ M,W m ρ M ->
 c ρ M fun b M1=>if b=true then ∃ N:DSt->DH->Prop,(∀ ρ' M',N ρ' M'->∃ m',m'<m/\W m' ρ' M')/\tb { DD with nx:=N,ct:=N,bk:=DD.nx } ρ M1 else DD.nx ρ M1
theorem Q7w(hp:PassesOwn (model X.prog X.w) X.A X.env X.xe)(hc:DT X c tc)(hb:DSs X body tb):DS X (.While c body [] pos) (zaO tc tb) :=
 (Q6O hp hc hb).imp fun D σ H ⟨ρ,M,DD,s,m,⟨W,⟨m0,w0⟩,turn⟩,k⟩ =>
  ⟨fun n σ' H'=>∃ ρ' M',Ext H H'/\SimS X.K H' ρ' σ'/\SimM X.K M' H'/\W n ρ' M',⟨m0,ρ,M,Ext.refl H,s,m,w0⟩,by
   rintro n σ' H' ⟨ρ',M',x',s',m',w'⟩;refine⟨ρ',M',_,s',m',turn n ρ' M' w',fun b M1 H1 h1 x1 m1=>?_⟩;cases b with
   | true =>
    obtain⟨N,hN,h2⟩:=(Zg rfl).mp h1;refine iteT ⟨fun σ2 H2=>∃ ρ2 M2,Ext H H2/\SimS X.K H2 ρ2 σ2/\SimM X.K M2 H2/\N ρ2 M2,?_,?_⟩
    ·rintro σ2 H2 ⟨ρ2,M2,x2,s2,m2,n2⟩;obtain⟨m',hm,w2⟩:=hN ρ2 M2 n2;exact⟨m',hm,ρ2,M2,x2,s2,m2,w2⟩
    ·have xx:=x'.trans x1;exact⟨ρ',M1,_,s'.ext x1,m1,h2,⟨fun ρ4 M4 σ4 H4 q4 x4 s4 m4=>⟨ρ4,M4,xx.trans x4,s4,m4,q4⟩,(k.ext xx).rt,fun ρ4 M4 σ4 H4 q4 x4 s4 m4=>(k.ext xx).nx ρ4 M4 σ4 H4 q4 x4 s4 m4,fun ρ4 M4 σ4 H4 q4 x4 s4 m4=>⟨ρ4,M4,xx.trans x4,s4,m4,q4⟩⟩⟩
   | false=>exact iteF (k.nx ρ' M1 σ' H1 ((Zc Zy).mp h1) (x'.trans x1) (s'.ext x1) m1)⟩
end
section
variable{X:Cx}{K:Frag}{H:Hp}
noncomputable def zag(M:DH):D->Option (List D)
 | .lst xs=>some xs
 | .ref a=>match M a with
  | some (.lst xs)=>some xs
  | _=>none
 | _=>none
theorem Q1Q(m:SimM K M H)(den:Den K H d v)(e:zag M d=some xs):∃ p vs,v=.ref p/\SqL K H p vs/\Dens K H xs vs:=by
 cases den with
 | lst sq d=>cases e;exact⟨_,_,rfl,sq.sq,d⟩
 | ref p =>
  cases qa:M p with
  | none=>simp[zag,qa]at e
  | some o =>
   cases o with
   | oth _=>simp only[zag,qa]at e;cases e
   | lst ds =>
    simp only[zag,qa]at e;cases e;obtain⟨vs,e2,dn⟩:=m.get qa;exact⟨_,_,rfl,.inl (.inl e2),dn⟩
 | _=>cases e
noncomputable def zbl:List D->DH->DK->Prop:=fun ds M Q=>match ds with
 | [d]=>∃ zs:List (List Nat),zag M d=some (zs.map .str)/\zs.length<64/\∀ zs':List (List Nat),zs'.Perm zs->zs'.Pairwise (fun a b=>a<=b)->∀ p,M p=none->Q (.ref p) (dupd M p (.lst (zs'.map .str)))
 | _=>False
theorem Q4n:∀ {zs:List (List Nat)} {vs:List V} {its:List Value},Dens K H (zs.map .str) vs->Vals vs its->StrsAre its (zs.map S)
 | [],_,_,.nil,.nil=>.nil
 | z::r,_,_,.cons (.str _ _) t,.cons ⟨tk,e⟩ u=>by
  subst e;exact .cons (S z) tk (Q4n t u)
theorem Q3o:∀ {its:List Value} {ss:List Str},StrsAre its ss->Vals (ss.map .str) its
 | _,_,.nil=>.nil
 | _,_,.cons x t r=>.cons ⟨t,rfl⟩ (Q3o r)
theorem Q5N:∀ {zs:List (List Nat)} {vs:List V},Dens K H (zs.map .str) vs->∀ z∈zs,(z.all fun c=>decide (c<1114112))=true
 | [],_,_,_,h=>nomatch h
 | z::r,_,.cons (.str _ h) t,y,hy=>by
  rcases Zw.mp hy with e | e
  ·rw[e];exact h
  ·exact Q5N t y e
theorem Q2L:∀ {zs:List (List Nat)},(∀ z∈zs,(z.all fun c=>decide (c<1114112))=true)->Dens K H (zs.map .str) ((zs.map S).map .str)
 | [],_=>.nil
 | z::r,h=>.cons (.str z (h z (Zv ..))) (Q2L fun y hy=>h y (Zk _ hy))
theorem S_cps(x:Str):S x.cps.toList=x:=by
 cases x;rfl
theorem Q3p:∀ (p:Str) (l:List Str),risingS p l=true->(p::l).Pairwise (fun a b=>a.cps.toList<=b.cps.toList)
 | p,[],_=>List.pairwise_singleton ..
 | p,x::r,h=>by
  have h':(!ltCps x.cps.toList p.cps.toList&&risingS x r)=true:=h;rw[Zh,not_eq_true',ltCps_eq,decide_eq_false_iff_not]at h';have ih:=Q3p x r h'.2;refine List.pairwise_cons.mpr ⟨fun y hy=>?_,ih⟩;have h1:p.cps.toList<=x.cps.toList:=h'.1;rcases Zw.mp hy with e | e
  ·rw[e];exact h1
  ·exact List.le_trans h1 ((List.pairwise_cons.mp ih).1 y e)
theorem Q3q:∀ (l:List Str),sortedS l=true->l.Pairwise (fun a b=>a.cps.toList<=b.cps.toList)
 | [],_=>.nil
 | x::r,h=>Q3p x r h
theorem Q5O:zaS X (.builtin "sorted") zbl:=by
 rintro pins s σ H xs us Q I rv ⟨ds,M,R,dn,m,q,k⟩
 match ds,dn,q with
 | [d],.cons den .nil,⟨zs,e,h64,q⟩ =>
  obtain⟨p,vs,rfl,sq,dd⟩:=Q1Q m den e;obtain⟨u,rfl,rx⟩:=vals1 rv;cases rx;obtain⟨its,r',pl,hz⟩:=I.list sq;have hS:=Q4n dd r';have hlen:its.length=zs.length:=by rw[<- r'.length,<- dd.length,Zb]
  refine sorted_strs pl.isList hS (by rw[hlen];exact h64) fun out ss' a1 a2 a3=>?_
  obtain⟨n,hn⟩:=sortedAll_at s.heap its out;have ez:(ss'.map fun x=>x.cps.toList).map S=ss':=by
   rw[ZT]
   conv=>rhs;rw[<- map_id ss']
   exact Yj fun x _=>S_cps x
  have pz:(ss'.map fun x=>x.cps.toList).Perm zs:=by
   have:=a2.map fun x:Str=>x.cps.toList;rw[ZT]at this;have e0:zs.map ((fun x:Str=>x.cps.toList) ∘ S)=zs:=by
    conv=>rhs;rw[<- map_id zs]
    exact Yj fun x _=>by simp[S]
   rwa [e0]at this
  have fr:H (s.heap.objs.size+1)=none:=I.hok.fresh (le_succ _);have al:∀ z∈(ss'.map fun x=>x.cps.toList),(z.all fun c=>decide (c<1114112))=true:=fun z hz=>Q5N dd z (pz.mem_iff.mp hz);have dn':Dens X.K H ((ss'.map fun x=>x.cps.toList).map .str) (ss'.map .str):=by
   have:=Q2L (K:=X.K) (H:=H) al
   rwa [ez]at this
  have hl':(ss'.map V.str).length<=sizeLine:=by
   have:=a2.length_eq;rw[Zb]at this ⊢;rw[this,<- hlen,<- r'.length];exact hz
  exact⟨.ref _,_,I.laid (t':=s.toks) (fun b o e=>sortedAll_old e) (le_succ _) (show ObjOk X.prog X.w _ _ _ (.lst (ss'.map V.str)) from⟨hl',out.toList,n,Q3o a1,hn⟩),rfl,
   k _ _ _ _ (q _ pz (List.pairwise_map.mpr (Q3q ss' a3)) _ (m.free fr)) (Ext.new fr) (m.newL fr dn') (.ref _)⟩
end
section
variable{X:Cx}
noncomputable def rMulS:DR2:=fun x y M Q=>match x,y with
 | .str z,.int n=>0<=n/\n<=100/\z.length<=1000/\Q (.str (List.replicate n.toNat z).flatten) M
 | _,_=>False
theorem Q4o(z:List Nat):∀ (n:Nat) (l:List Nat),(List.replicate n z.toArray).foldl (· ++ ·) l.toArray=(l++(List.replicate n z).flatten).toArray
 | 0,l=>by simp
 | n+1,l=>by
  rw[replicate_succ,List.foldl_cons,List.append_toArray,Q4o z n,replicate_succ,flatten_cons,List.append_assoc]
theorem Q9F(z:List Nat)(n:Int)(h:0<=n):Txt.mul (S z) n=S (List.replicate n.toNat z).flatten:=by
 unfold Txt.mul;by_cases h1:n<1
 ·rw[Zg h1];have:n.toNat=0:=by omega
  rw[this];rfl
 ·rw[Zc h1];split
  ·rename_i q;rw[or_eq_true,Zx,Zx]at q;rcases q with q | q
   ·subst q;simp
   ·have:z=[]:=length_eq_zero_iff.mp q;subst this;have:(List.replicate n.toNat ([]:List Nat)).flatten=[]:=by simp
    rw[this]
  ·have:=Q4o z n.toNat [];rw[nil_append]at this;show Str.mk _=Str.mk _;exact congrArg Str.mk this
theorem Q9G:OpD X (binaryOp .Mult) rMulS:=by
 rintro pins s σ H x y v u Q I rx ry ⟨dx,dy,M,R,ex,ey,m,q,k⟩;cases ex with
 | str z hz =>
  cases ey <;> first | exact False.elim q | skip
  rename_i n;obtain⟨h0,h1,h2,q⟩:=q;obtain⟨t,rfl⟩:=rx;obtain⟨t',rfl⟩:=ry;have hlen:(S z).length=z.length:=rfl;have hmul:z.length * n.toNat<=1000 * 100:=Nat.mul_le_mul h2 (by omega)
  refine SB.mul (x:=S z) (n:=n) ⟨?_,fun a b=>?_,fun a b=>?_⟩ fun t' k'=>?_
  ·rw[Bool.or_eq_false_iff,decide_eq_false_iff_not,decide_eq_false_iff_not];omega
  ·rw[hlen];have:(1000:Int)<=(2 ^ 63-1) / n:=by
    refine (Int.le_ediv_iff_mul_le (by omega)).mpr ?_
    omega
   omega
  ·rw[hlen];show decide (z.length * n.toNat > sizeLine)=false;rw[decide_eq_false_iff_not,sizeLine_eq];omega
  ·rw[Q9F z n h0];refine⟨.str _,H,I.tok _,⟨_,rfl⟩,k _ M _ H q (Ext.refl H) m (.str _ ?_)⟩;rw[ZN]at hz ⊢;intro c hc;obtain⟨w,hw,hcw⟩:=List.mem_flatten.mp hc;exact hz c (by rw[List.eq_of_mem_replicate hw]at hcw;exact hcw)
 | _=>exact False.elim (by cases dy <;> exact q)
end
noncomputable abbrev tupO(dd:Option Addr)(xs:Array Value)(n:Nat)(sl:Array (Option Value)):Obj:={ cls:=.type "tuple",dict:=dd,data:=.seq xs n,slots:=sl }
section
variable{l:Addr}{dd:Option Addr}{xs:Array Value}{n:Nat}{sl:Array (Option Value)}
end
section
variable{X:Cx}
noncomputable def rMulT:DR2:=fun x y M Q=>match x,y with
 | .tup xs,.int n=>(n=1/\Q (.tup xs) M)\/(n=0/\Q (.tup []) M)
 | _,_=>False
end
section
variable{X:Cx}{pos p p2 p3 cpos np:Pos}{cn:CN}{e:Expr}{es:List Expr}
theorem SimS.gone{K:Frag}{H:Hp}:∀ {ds:DSt} {vs:St} (i:Nat),SimS K H ds vs->SimS K H (ds.set i none) (vs.set i none)
 | _,_,_,.nil=>.nil
 | _,_,0,.cons _ t=>.cons trivial t
 | _,_,i+1,.cons q t=>.cons q (SimS.gone i t)
noncomputable def gone(D:zb6)(i:Nat):zb6:=⟨fun ρ M=>D.nx (ρ.set i none) M,D.rt,fun ρ M=>D.bk (ρ.set i none) M,fun ρ M=>D.ct (ρ.set i none) M⟩
theorem Fin.gone{K:Frag}{H:Hp}{DD:zb6}{D:Ends}(a:Fin K H DD D)(i:Nat):Fin K H (gone DD i) (D.gone i) :=
 ⟨fun r M s H2 q x y m=>a.nx _ M _ H2 q x (y.gone i) m,a.rt,fun r M s H2 q x y m=>a.bk _ M _ H2 q x (y.gone i) m,fun r M s H2 q x y m=>a.ct _ M _ H2 q x (y.gone i) m⟩
noncomputable def dIsE(je:Nat)(a:Addr)(b:Bool):DTE:=fun ρ M Q=>dVar je ρ M fun d M1=>d=.ref a/\Q (.bl b) M1
noncomputable def dTryA(sp:DSpX)(dds:List D)(je:Nat)(okc:Nat->Prop)(th:Nat->Addr->DTS)(t:DTA):DTS:=fun DD ρ M=>t ρ M fun ds M1=>sp (ds++dds) M1 (fun d M2=>DD.nx ρ M2) fun c M2=>okc c/\∀ a,th c a (gone DD je) (ρ.set je (some (.ref a))) M2
end
section
variable{X:Cx}
noncomputable def flat:D->Bool
 | .non=>true
 | .bl _=>true
 | .int _=>true
 | .str _=>true
 | _=>false
noncomputable def alike:D->D->Bool
 | .bl _,.int _=>false
 | .int _,.bl _=>false
 | _,_=>true
noncomputable def alikes:List D->List D->Bool
 | x::xs,y::ys=>alike x y&&alikes xs ys
 | _,_=>true
noncomputable def rEqT:DR2:=fun x y M Q=>match x,y with
 | .tup xs,.tup ys=>xs.all flat=true/\ys.all flat=true/\alikes xs ys=true/\Q (.bl (eqB (.tup xs) (.tup ys))) M
 | _,_=>False
end
section
variable{α:Type}
noncomputable def valD(kvs:List (List (List Nat)×D))(k:List (List Nat)):Option D:=(kvs.find? fun kv=>decide (kv.1=k)).map (·.2)
noncomputable def putD(kvs:List (List (List Nat)×D))(k:List (List Nat))(v:D):List (List (List Nat)×D) :=
 if (kvs.any fun kv=>decide (kv.1=k))=true then kvs.map (fun kv=>if kv.1=k then (kv.1,v) else kv) else kvs++[(k,v)]
theorem Q7x:valD [] k=none:=rfl
theorem Q0t(e:p.1=k):valD (p::r) k=some p.2:=by simp[valD,find?_cons,e]
theorem Q0w(e:¬ p.1=k):valD (p::r) k=valD r k:=by simp[valD,find?_cons,e]
theorem Q1E(k:List (List Nat)):∀ kvs:List (List (List Nat)×D),(kvs.any fun kv=>decide (kv.1=k))=(valD kvs k).isSome
 | []=>rfl
 | p::r=>by
  rw[any_cons];by_cases e:p.1=k
  ·simp only[Q0t e,Zo e,Bool.true_or,Option.isSome_some]
  ·rw[Q0w e,Z5 e,Bool.false_or];exact Q1E k r
theorem Q4p(k j:List (List Nat))(y:D):∀ kvs:List (List (List Nat)×D),valD (kvs.map fun kv=>if kv.1=k then (kv.1,y) else kv) j=(valD kvs j).map fun x=>if j=k then y else x
 | []=>rfl
 | p::r=>by
  have ih:=Q4p k j y r;rw[Z6];by_cases h:p.1=k
  ·rw[Zg h];by_cases e:p.1=j
   ·rw[Q0t (p:=(p.1,y)) e,Q0t e,Yk,Zg (e.symm.trans h)]
   ·rw[Q0w (p:=(p.1,y)) e,Q0w e,ih]
  ·rw[Zc h];by_cases e:p.1=j
   ·rw[Q0t (p:=p) e,Q0t e,Yk,Zc (fun z=>h (e.trans z))]
   ·rw[Q0w (p:=p) e,Q0w e,ih]
theorem Q3r(k j:List (List Nat))(y:D):∀ kvs:List (List (List Nat)×D),valD kvs k=none->valD (kvs++[(k,y)]) j=if j=k then some y else valD kvs j
 | [],_=>by
  by_cases e:k=j
  ·rw[Zg e.symm];exact Q0t (p:=(k,y)) e
  ·rw[Zc (fun z=>e z.symm)];exact Q0w (p:=(k,y)) e
 | p::r,hn=>by
  rw[cons_append];have hk:¬ p.1=k:=fun z=>by rw[Q0t z]at hn;cases hn
  rw[Q0w hk]at hn;have ih:=Q3r k j y r hn;by_cases e:p.1=j
  ·rw[Q0t e,Q0t e,Zc (fun z=>hk (e.trans z))]
  ·rw[Q0w e,Q0w e,ih]
theorem Q0u(kvs:List (List (List Nat)×D))(k j:List (List Nat))(y:D):valD (putD kvs k y) j=if j=k then some y else valD kvs j:=by
 unfold putD;by_cases a:(kvs.any fun kv=>decide (kv.1=k))=true
 ·rw[Zg a,Q4p];rw[Q1E]at a;by_cases e:j=k
  ·obtain⟨x,hx⟩:=Option.isSome_iff_exists.mp a;rw[Zg e,e,hx,Yk,Zg rfl]
  ·rw[Zc e];cases valD kvs j with
   | none=>rfl
   | some x=>rw[Yk,Zc e]
 ·rw[Zc a];refine Q3r k j y kvs ?_;rw[Q1E]at a;cases q:valD kvs k with
  | none=>rfl
  | some x=>rw[q]at a;exact (a rfl).elim
theorem Q0y(kvs:List (List (List Nat)×D))(k:List (List Nat))(v:D):(putD kvs k v).length<=kvs.length+1:=by
 unfold putD;split
 ·rw[Zb];omega
 ·rw[Zl,Zi,Z8];omega
end
theorem Q5P:∀ {a b:List (List Nat)},nk a=nk b->a=b
 | [],[],_=>rfl
 | [],_::_,e=>by simp[nk]at e
 | _::_,[],e=>by simp[nk]at e
 | x::xs,y::ys,e=>by
  have e':(Sum.inr (S x):Key)::nk xs=Sum.inr (S y)::nk ys:=e;injection e' with e1 e2;injection e1 with e1;rw[S_inj e1,Q5P e2]
section
variable{K:Frag}{H:Hp}
theorem Q3s:∀ {n:List (List Nat)} {vs:List V},Dens K H (n.map .str) vs->vs=(nk n).map kV
 | [],_,h=>by cases h;rfl
 | x::r,_,h=>by
  cases h with
  | cons h1 h2 =>
   cases h1;rw[Q3s h2];rfl
theorem KDs.val(r:KDs K H kvs vs)(k:List (List Nat)) :
  (valD kvs k=none/\valV vs (nk k)=none)\/∃ d v,valD kvs k=some d/\valV vs (nk k)=some v/\Den K H d v:=by
 induction r with
 | nil=>exact .inl ⟨rfl,rfl⟩
 | @cons p q ps qs h t ih =>
  by_cases e:p.1=k
  ·exact .inr ⟨p.2,q.2,Q0t e,Q1B (by rw[h.1,e]),h.2⟩
  ·rw[Q0w e,Q1C (by rw[h.1];exact fun z=>e (Q5P z))];exact ih
theorem KDs.put(r:KDs K H kvs vs)(k:List (List Nat))(den:Den K H d v):KDs K H (putD kvs k d) (putK vs (nk k) v):=by
 have an:(kvs.any fun kv=>decide (kv.1=k))=vs.any fun kv=>decide (kv.1=nk k):=by
  rw[Q1E,Q1V];rcases r.val k with ⟨a,b⟩ | ⟨x,y,a,b,_⟩ <;> rw[a,b] <;> rfl
 unfold putD putK;rw[an];by_cases e:(vs.any fun kv=>decide (kv.1=nk k))=true
 ·rw[Zg e,Zg e];clear an e
  induction r with
  | nil=>exact .nil
  | @cons p q ps qs h t ih =>
   rw[Z6,Z6];refine .cons ?_ ih;by_cases e:p.1=k
   ·rw[Zg e,Zg (by rw[h.1,e])];exact⟨h.1,den⟩
   ·rw[Zc e,Zc (by rw[h.1];exact fun z=>e (Q5P z))];exact h
 ·rw[Zc e,Zc e];exact Paired.snoc r ⟨rfl,den⟩
theorem KDs.length(r:KDs K H kvs vs):kvs.length=vs.length:=ZE r
noncomputable def zal(f:Str)(v:D):List (Str×D)->List (Str×D)
 | []=>[(f,v)]
 | (g,x)::r=>if g=f then (g,v)::r else (g,x)::zal f v r
theorem FDs.lookup(r:FDs K H fs vs)(e:fs.lookup f=some d):∃ v,vs.lookup f=some v/\Den K H d v:=by
 induction r with
 | nil=>cases e
 | @cons p q ps qs h t ih =>
  obtain⟨p1,p2⟩:=p;obtain⟨q1,q2⟩:=q;obtain⟨h1,h2⟩:=h;cases h1;rw[ZK]at e ⊢;cases c:f==p1 with
  | true=>rw[c]at e;cases e;exact⟨q2,rfl,h2⟩
  | false=>rw[c]at e;exact ih e
theorem FDs.no(r:FDs K H fs vs)(e:fs.lookup f=none):vs.lookup f=none:=by
 induction r with
 | nil=>rfl
 | @cons p q ps qs h t ih =>
  obtain⟨p1,p2⟩:=p;obtain⟨q1,q2⟩:=q;obtain⟨h1,h2⟩:=h;cases h1;rw[ZK]at e ⊢;cases c:f==p1 with
  | true=>rw[c]at e;cases e
  | false=>rw[c]at e;exact ih e
theorem FDs.put(r:FDs K H fs vs)(f:Str)(den:Den K H d v):FDs K H (zal f d fs) (putF f v vs):=by
 induction r with
 | nil=>exact .cons ⟨rfl,den⟩ .nil
 | @cons p q ps qs h t ih =>
  obtain⟨p1,p2⟩:=p;obtain⟨q1,q2⟩:=q;obtain⟨h1,h2⟩:=h;cases h1;show FDs K H (if p1=f then (p1,d)::ps else (p1,p2)::zal f d ps) (if p1=f then (p1,v)::qs else (p1,q2)::putF f v qs)
  by_cases e:p1=f
  ·rw[Zg e,Zg e];exact .cons ⟨rfl,den⟩ t
  ·rw[Zc e,Zc e];exact .cons ⟨rfl,h2⟩ ih
theorem FDs.length(r:FDs K H fs vs):fs.length=vs.length:=ZE r
end
theorem SimM.dct{K:Frag}{H:Hp}{M:DH}(h:SimM K M H){a:Addr}{kvs:List (List (List Nat)×D)}(e:M a=some (.oth (.dct kvs))):∃ vs,H a=some (.dT vs)/\KDs K H kvs vs:=h a _ e
theorem SimM.ins{K:Frag}{H:Hp}{M:DH}(h:SimM K M H){a:Addr}{c:Str}{fs:List (Str×D)}(e:M a=some (.oth (.ins c fs))):∃ C dx vs,nsIn K mainGlobals c=some (some (.ref C))/\H a=some (.ins C dx vs)/\FDs K H fs vs:=h a _ e
theorem Q0J{K:Frag}{H:Hp}{n:List (List Nat)}{v:V}(h:Den K H (.tup (n.map .str)) v):∃ b,v=.ref b/\H b=some (.tup ((nk n).map kV)):=by
 cases h with
 | tup q r=>exact⟨_,rfl,by rw[<- Q3s r];exact q⟩
section
variable{X:Cx}{e o value a b k:Expr}{es:List Expr}{pos pos' apos cpos p:Pos}{te tv tk td:DTE}{t:DTA}
noncomputable def dFld(c f:Str)(te:DTE):DTE:=fun ρ M Q=>te ρ M fun x M1=>∃ a fs d,x=.ref a/\M1 a=some (.oth (.ins c fs))/\fs.lookup f=some d/\Q d M1
theorem Qbx(hC:nsIn X.K mainGlobals c=some (some (.ref C)))(hc:Cls X.K C)(hn:NoAttr X.K C f)(he:DE X e te)(hb:attributeBase e f X.env (eval e X.env)=eval e X.env):DE X (.Attribute e f pos) (dFld c f te) :=
 (QaO he hb).imp fun σ H Q ⟨ρ,M,R,s,m,h,k⟩=>⟨ρ,M,_,s,m,h,fun d M1 v H1 ⟨a,fs,d',e1,e2,e3,h1⟩ x1 m1 den=>by
  subst e1;cases den;obtain⟨C',dx,vs,g1,g2,g3⟩:=m1.ins e2;rw[hC]at g1;cases g1;obtain⟨v,l1,l2⟩:=FDs.lookup g3 e3;exact⟨a,C,dx,vs,v,rfl,g2,hc,hn,l1,k _ M1 _ _ h1 x1 m1 l2⟩⟩
noncomputable def dSetF(c f:Str)(to tv:DTE):DTS:=fun DD ρ M=>tv ρ M fun y M1=>to ρ M1 fun x M2=>∃ a fs,x=.ref a/\M2 a=some (.oth (.ins c fs))/\fs.length<1000/\DD.nx ρ (dupd M2 a (.oth (.ins c (zal f y fs))))
theorem Q9H(hC:nsIn X.K mainGlobals c=some (some (.ref C)))(hc:Cls X.K C)(hn:NoAttr X.K C f)(ho:DE X o to)(hv:DE X value tv)
  (hs:swapsWith value (some (.Attribute o f pos')) pos.line X.env=pure false):DS X (.Assign [.Attribute o f pos'] value pos) (dSetF c f to tv) :=
 (QaP ho hv hs).imp fun D σ H ⟨ρ,M,DD,s,m,h,k⟩=>⟨ρ,M,_,s,m,h,fun y M1 yv H1 h1 x1 m1 dy=>⟨ρ,M1,_,s.ext x1,m1,h1,fun x M2 xv H2 ⟨a,fs,e1,e2,e3,h2⟩ x2 m2 dx'=>by
  subst e1;cases dx';obtain⟨C',dx,vs,g1,g2,g3⟩:=m2.ins e2;rw[hC]at g1;cases g1;have xx:Ext H2 (upd H2 a (.ins C dx (putF f yv vs))):=Ext.mut g2 (fun _ z=>nomatch z) (fun _ _ z=>nomatch z)
  exact⟨a,C,dx,vs,rfl,g2,hc,hn,by rw[<- g3.length];exact e3,k.nx ρ _ σ _ h2 ((x1.trans x2).trans xx) ((s.ext (x1.trans x2)).ext xx)
   (m2.put xx ⟨C,dx,_,hC,Q0d,Paired.mapP (g3.put f (dy.ext x2)) fun p q z=>⟨z.1,Den.ext xx z.2⟩⟩)⟩⟩⟩
noncomputable def zbo(c m:Str)(sp:DSp)(to:DTE)(t:DTA):DTE:=fun ρ M Q=>to ρ M fun x M1=>∃ a fs,x=.ref a/\M1 a=some (.oth (.ins c fs))/\fs.lookup m=none/\t ρ M1 fun ds M2=>sp (.ref a::ds) M2 Q
theorem Q7y{c m:Str}{C:Addr}{sp:DSp}{to:DTE}{E:XK}{K:Frag}(hC:nsIn K mainGlobals c=some (some (.ref C))){σ:St}{H:Hp}{Q:VK}(h:lE K (zbo c m sp to t) σ H Q) :
  tMeth C m (lSp K sp) [] E (lE K to) (lA K t) σ H Q:=by
 obtain⟨ρ,M,R,s,mm,h,k⟩:=h;refine⟨ρ,M,_,s,mm,h,fun x M1 xv H1 ⟨a,fs,e1,e2,e3,h1⟩ x1 m1 den=>?_⟩;subst e1;cases den;obtain⟨C',dx,vs,g1,g2,g3⟩:=m1.ins e2;rw[hC]at g1;cases g1;refine⟨a,dx,vs,rfl,g2,g3.no e3,ρ,M1,_,s.ext x1,m1,h1,fun ds M2 ws H2 h2 x2 m2 dn=>?_⟩;refine⟨.ref a::ds,M2,R,?_,m2,h2,k.ext (x1.trans x2)⟩;rw[ZM];exact .cons (.ref a) dn
theorem Q9I(hC:nsIn X.K mainGlobals c=some (some (.ref C)))(hc:Cls X.K C)(hm:Meth X.K C m f)
  (F:FnOk X.prog X.w X.K X.mg X.base CX kk f fd ps (lSp X.K sp)) (hr:Room kk X.A) (hb:Binds X.K fd ps []) (hx:zau CX X E) (ho:DE X o to) (ha:DA X (e::es) t)
  (hst:starEach (e::es) X.env=(false,eval e X.env)::starEach es X.env) (hpl:(backTo pos (starEach es X.env)).any (·.1)=false)
  (ht:eval (.Call (.Attribute o m apos) (e::es) [] pos) X.env=(do
   let ov <- eval o X.env
   standAt apos.atName
   let (f,first) <- holding [ov] (getMethod ov m pl)
   callWith pos f first (backTo pos (starEach (e::es) X.env)) (backToKw pos (keywordEach [] X.env)))):DE X (.Call (.Attribute o m apos) (e::es) [] pos) (zbo c m sp to t) :=
 (Q9a ho hc hm F hr hb .nil hx ha hst hpl ht).imp fun σ H Q h=>Q7y hC h
theorem Q7z(hC:nsIn X.K mainGlobals c=some (some (.ref C)))(hc:Cls X.K C)(hm:Meth X.K C m f)
  (F:FnOk X.prog X.w X.K X.mg X.base CX kk f fd ps (lSp X.K sp)) (hr:Room kk X.A) (hb:Binds X.K fd ps []) (hx:zau CX X E) (ho:DE X o to)
  (ht:eval (.Call (.Attribute o m apos) [] [] pos) X.env=(do
   let ov <- eval o X.env
   standAt apos.atName
   let (f,first) <- holding [ov] (getMethod ov m pl)
   callWith pos f first (backTo pos (starEach [] X.env)) (backToKw pos (keywordEach [] X.env)))):DE X (.Call (.Attribute o m apos) [] [] pos) (zbo c m sp to dNil) :=
 (Q6T ho hc hm F hr hb .nil hx ht).imp fun σ H Q h=>by
  obtain⟨ρ,M,R,s,mm,h,k⟩:=h;refine⟨ρ,M,_,s,mm,h,fun x M1 xv H1 ⟨a,fs,e1,e2,e3,h1⟩ x1 m1 den=>?_⟩;subst e1;cases den;obtain⟨C',dx,vs,g1,g2,g3⟩:=m1.ins e2;rw[hC]at g1;cases g1;exact⟨a,dx,vs,rfl,g2,g3.no e3,.ref a::[],M1,R,.cons (.ref a) .nil,m1,h1,k.ext x1⟩
noncomputable def zbT(c:Str)(sp:DSp)(t:DTA):DTE:=fun ρ M Q=>t ρ M fun ds M1=>∀ x,M1 x=none->sp (.ref x::ds) (dupd M1 x (.oth (.ins c []))) fun d M2=>d=.non/\Q (.ref x) M2
theorem Q9J(hC:nsIn X.K mainGlobals c=some (some (.ref C)))(MK:Mk X.K C f)
  (F:FnOk X.prog X.w X.K X.mg X.base CX kk f fd ps (lSp X.K sp)) (hr:Room (kk+1) X.A) (hg:Gl X c) (hm:X.mg c=some (.ref C)) (hb:Binds X.K fd ps []) (hx:zau CX X E) (ha:DA X (e::es) t) (hdb:(c==("__debug__" : Str))=false)
  (he:starEach (e::es) X.env=(false,eval e X.env)::starEach es X.env) (hpl:(backTo pos (starEach es X.env)).any (·.1)=false):DE X (.Call (.Name c p) (e::es) [] pos) (zbT c sp t) :=
 (Q9b MK F hr hg hm hb .nil hx ha hdb he hpl).imp fun σ H Q ⟨ρ,M,R,s,m,h,k⟩=>⟨ρ,M,_,s,m,h,fun ds M1 vs H1 h1 x1 m1 dn x dx hx hd hne=>by
  have n1:upd H1 dx (.own x) x=none:=by rw[Q0g hne.symm];exact hx
  have y1:Ext H1 (upd H1 dx (.own x)):=Ext.new hd;have y2:Ext (upd H1 dx (.own x)) (upd (upd H1 dx (.own x)) x (.ins C dx [])):=Ext.new n1;refine⟨.ref x::ds,dupd M1 x (.oth (.ins c [])),_,?_,(m1.new hd).put y2 ⟨C,dx,[],hC,Q0d,.nil⟩,h1 x (m1.free hx),fun d M2 v H2 ⟨e2,h2⟩ x2 m2 den=>?_⟩
  ·rw[ZM];exact .cons (.ref x) ((dn.ext y1).ext y2)
  ·subst e2;cases den;exact⟨rfl,k _ M2 _ _ h2 (((x1.trans y1).trans y2).trans x2) m2 (.ref x)⟩⟩
noncomputable def zbV:DTE:=fun _ M Q=>∀ q,M q=none->Q (.ref q) (dupd M q (.oth (.dct [])))
theorem Q9K:DE X (.Dict [] [] pos) zbV :=
 Q7g.imp fun σ H Q ⟨ρ,M,R,s,m,h,k⟩ q hq=>k _ _ _ _ (h q (m.free hq)) (Ext.new hq) (m.put (u:=.oth (.dct [])) (Ext.new hq) ⟨[],Q0d,.nil⟩) (.ref q)
noncomputable def zbe(tk tv:DTE):DTE:=fun ρ M Q=>∀ q,M q=none->tk ρ (dupd M q (.oth (.dct []))) fun x M1=>tv ρ M1 fun y M2=>∃ n:List (List Nat),x=.tup (n.map .str)/\M2 q=some (.oth (.dct []))/\Q (.ref q) (dupd M2 q (.oth (.dct [(n,y)])))
theorem Q7A(hu:X.A.units+1<cLine)(hk:DE X k tk)(hv:DE X value tv):DE X (.Dict [some k] [value] pos) (zbe tk tv) :=
 (Q7j hu hk hv).imp fun σ H Q ⟨ρ,M,R,s,m,h,k⟩ q hq=>⟨ρ,_,_,s.ext (Ext.new hq),m.put (u:=.oth (.dct [])) (Ext.new hq) ⟨[],Q0d,.nil⟩,h q (m.free hq),fun x M1 xv H1 h1 x1 m1 dx=>⟨ρ,M1,_,(s.ext (Ext.new hq)).ext x1,m1,h1,fun y M2 yv H2 ⟨n,e1,e2,h2⟩ x2 m2 dy=>by
  subst e1;obtain⟨b,rfl,eb⟩:=Q0J (dx.ext x2);obtain⟨vs,g1,g2⟩:=m2.dct e2;cases g2;have xx:Ext H2 (upd H2 q (.dT [(nk n,yv)])):=Ext.mut g1 (fun _ z=>nomatch z) (fun _ _ z=>nomatch z)
  exact⟨nk n,b,rfl,eb,g1,k _ _ _ _ h2 ((((Ext.new hq).trans x1).trans x2).trans xx) (m2.put xx ⟨_,Q0d,.cons ⟨rfl,dy.ext xx⟩ .nil⟩) (.ref q)⟩⟩⟩
noncomputable def rInD(f:Bool->Bool):DR2:=fun x y M Q=>∃ (n:List (List Nat)) (a:Addr) (kvs:List (List (List Nat)×D)),x=.tup (n.map .str)/\y=.ref a/\M a=some (.oth (.dct kvs))/\Q (.bl (f (valD kvs n).isSome)) M
theorem Q2M{K:Frag}{H:Hp}{kvs:List (List (List Nat)×D)}{vs:List (List Key×V)}(r:KDs K H kvs vs)(n:List (List Nat)):(valV vs (nk n)).isSome=(valD kvs n).isSome:=by
 rcases r.val n with ⟨q1,q2⟩ | ⟨d,v,q1,q2,_⟩ <;> rw[q1,q2] <;> rfl
theorem Q8C(hu:X.A.units+1<cLine):OpD X (compareOp .In) (rInD id):=by
 rintro pins s σ H x y v u Q I rx ry ⟨dx,dy,M,R,ex,ey,m,⟨n,a,kvs,e1,e2,e3,q⟩,k⟩;subst e1 e2;obtain⟨b,rfl,eb⟩:=Q0J ex;cases ey;obtain⟨vs,g1,g2⟩:=m.dct e3;cases ry;refine d_in hu I (DGet.t g1 eb) rx fun s' I'=>⟨.bl (valV vs (nk n)).isSome,H,I',rfl,?_⟩;rw[Q2M g2];exact k _ M _ H q (Ext.refl H) m (.bl _)
theorem Q9L(hu:X.A.units+1<cLine):OpD X (compareOp .NotIn) (rInD not):=by
 rintro pins s σ H x y v u Q I rx ry ⟨dx,dy,M,R,ex,ey,m,⟨n,a,kvs,e1,e2,e3,q⟩,k⟩;subst e1 e2;obtain⟨b,rfl,eb⟩:=Q0J ex;cases ey;obtain⟨vs,g1,g2⟩:=m.dct e3;cases ry;refine Q9i hu I (DGet.t g1 eb) rx fun s' I'=>⟨.bl (!(valV vs (nk n)).isSome),H,I',rfl,?_⟩;rw[Q2M g2];exact k _ M _ H q (Ext.refl H) m (.bl _)
noncomputable def rDIx:DR2:=fun x y M Q=>∃ (n:List (List Nat)) (a:Addr) (kvs:List (List (List Nat)×D)) (d:D),y=.tup (n.map .str)/\x=.ref a/\M a=some (.oth (.dct kvs))/\valD kvs n=some d/\Q d M
theorem Qby(hu:X.A.units+1<cLine)(hd:DE X o td)(hk:DE X k tk)(hs:NoSl k):DE X (.Subscript o k pos) (dOp rDIx td tk) :=
 (Q3Q hu hd hk hs).imp fun σ H Q ⟨ρ,M,R,s,m,h,k⟩=>⟨ρ,M,_,s,m,h,fun x M1 xv H1 h1 x1 m1 dx=>⟨ρ,M1,_,s.ext x1,m1,h1,fun y M2 yv H2 ⟨n,a,kvs,d,e1,e2,e3,e4,h2⟩ x2 m2 dy=>by
  subst e1 e2;obtain⟨b,rfl,eb⟩:=Q0J dy;cases dx;obtain⟨vs,g1,g2⟩:=m2.dct e3;rcases g2.val n with ⟨q1,q2⟩ | ⟨d',v,q1,q2,q3⟩
  ·rw[q1]at e4;cases e4
  ·rw[q1]at e4;cases e4;refine⟨a,v,rfl,?_,k _ M2 _ _ h2 (x1.trans x2) m2 q3⟩;rw[<- q2];exact DGet.t g1 eb⟩⟩
noncomputable def zbh(td tk tx:DTE):DTE:=fun ρ M Q=>td ρ M fun x M1=>∃ (a:Addr) (kvs0:List (List (List Nat)×D)),x=.ref a/\M1 a=some (.oth (.dct kvs0))/\tk ρ M1 fun y M2=>tx ρ M2 fun z M3=>∃ (n:List (List Nat)) (kvs:List (List (List Nat)×D)),y=.tup (n.map .str)/\M3 a=some (.oth (.dct kvs))/\Q ((valD kvs n).getD z) M3
theorem Q7B{f:Expr}{tx:DTE}(hu:X.A.units+1<cLine)(hd:DE X o td)(hk:DE X k tk)(hf:DE X f tx)(m2:M2 X o "get" apos k f cpos):DE X (.Call (.Attribute o "get" apos) [k,f] [] cpos) (zbh td tk tx) :=
 (Q4j hu hd hk hf m2).imp fun σ H Q ⟨ρ,M,R,s,m,h,k⟩=>⟨ρ,M,_,s,m,h,fun x M1 xv H1 ⟨a,kvs0,e1,e2,h1⟩ x1 m1 dx=>by
  subst e1;cases dx;obtain⟨vs0,g1,_⟩:=m1.dct e2;refine⟨a,rfl,.inr ⟨vs0,.inl g1⟩,ρ,M1,_,s.ext x1,m1,h1,fun y M2 yv H2 h2 x2 m2 dy=>⟨ρ,M2,_,(s.ext x1).ext x2,m2,h2,fun z M3 zv H3 ⟨n,kvs,e3,e4,h3⟩ x3 m3 dz=>?_⟩⟩;subst e3;obtain⟨b,rfl,eb⟩:=Q0J (dy.ext x3);obtain⟨vs,g3,g4⟩:=m3.dct e4;refine⟨_,DGet.t g3 eb,?_⟩;have xx:=(x1.trans x2).trans x3;rcases g4.val n with ⟨q1,q2⟩ | ⟨d',v,q1,q2,q3⟩
  ·rw[q2];rw[q1]at h3;exact k _ M3 _ _ h3 xx m3 dz
  ·rw[q2];rw[q1]at h3;exact k _ M3 _ _ h3 xx m3 q3⟩
noncomputable def zbf(td tk tx:DTE):DTE:=fun ρ M Q=>td ρ M fun x M1=>∃ (a:Addr) (kvs0:List (List (List Nat)×D)),x=.ref a/\M1 a=some (.oth (.dct kvs0))/\tk ρ M1 fun y M2=>tx ρ M2 fun z M3=>∃ (n:List (List Nat)) (kvs:List (List (List Nat)×D)),y=.tup (n.map .str)/\M3 a=some (.oth (.dct kvs))/\kvs.length<sizeLine /\
 (∀ d,valD kvs n=some d->Q d M3)/\(valD kvs n=none->Q z (dupd M3 a (.oth (.dct (putD kvs n z)))))
theorem Q7C{f:Expr}{tx:DTE}(hu:X.A.units+1<cLine)(hd:DE X o td)(hk:DE X k tk)(hf:DE X f tx)(m2:M2 X o "setdefault" apos k f cpos):DE X (.Call (.Attribute o "setdefault" apos) [k,f] [] cpos) (zbf td tk tx) :=
 (Q7i hu hd hk hf m2).imp fun σ H Q ⟨ρ,M,R,s,m,h,k⟩=>⟨ρ,M,_,s,m,h,fun x M1 xv H1 ⟨a,kvs0,e1,e2,h1⟩ x1 m1 dx=>by
  subst e1;cases dx;obtain⟨vs0,g1,_⟩:=m1.dct e2;refine⟨a,rfl,.inr ⟨vs0,.inl g1⟩,ρ,M1,_,s.ext x1,m1,h1,fun y M2 yv H2 h2 x2 m2 dy=>⟨ρ,M2,_,(s.ext x1).ext x2,m2,h2,fun z M3 zv H3 ⟨n,kvs,e3,e4,e5,h3,h4⟩ x3 m3 dz=>?_⟩⟩;subst e3;obtain⟨b,rfl,eb⟩:=Q0J (dy.ext x3);obtain⟨vs,g3,g4⟩:=m3.dct e4;have xx:=(x1.trans x2).trans x3;refine⟨vs,nk n,b,g3,rfl,eb,by rw[<- g4.length];exact e5,fun v hv=>?_,fun hv=>?_⟩
  ·rcases g4.val n with ⟨q1,q2⟩ | ⟨d',v',q1,q2,q3⟩
   ·rw[q2]at hv;cases hv
   ·rw[q2]at hv;cases hv;exact k _ M3 _ _ (h3 d' q1) xx m3 q3
  ·rcases g4.val n with ⟨q1,q2⟩ | ⟨d',v',q1,q2,q3⟩
   ·have y:Ext H3 (upd H3 a (.dT (putK vs (nk n) zv))):=Ext.mut g3 (fun _ z=>nomatch z) (fun _ _ z=>nomatch z)
    exact k _ _ _ _ (h4 q1) (xx.trans y) (m3.put y ⟨_,Q0d,Paired.mapP (g4.put n dz) fun p q z=>⟨z.1,Den.ext y z.2⟩⟩) (dz.ext y)
   ·rw[q2]at hv;cases hv⟩
noncomputable def dDPut(td tk tv:DTE):DTS:=fun DD ρ M=>tv ρ M fun v M1=>td ρ M1 fun x M2=>tk ρ M2 fun y M3=>∃ (a:Addr) (n:List (List Nat)) (kvs:List (List (List Nat)×D)),x=.ref a/\y=.tup (n.map .str)/\M3 a=some (.oth (.dct kvs))/\kvs.length<sizeLine/\DD.nx ρ (dupd M3 a (.oth (.dct (putD kvs n v))))
theorem Q9M(hu:X.A.units+1<cLine)(hd:DE X o td)(hk:DE X k tk)(hv:DE X value tv)(hs:swapsWith value (some (.Subscript o k pos')) pos.line X.env=pure false):DS X (.Assign [.Subscript o k pos'] value pos) (dDPut td tk tv) :=
 (Q9k hu hd hk hv hs).imp fun D σ H ⟨ρ,M,DD,s,m,h,k⟩=>⟨ρ,M,_,s,m,h,fun v M1 vv H1 h1 x1 m1 dv=>⟨ρ,M1,_,s.ext x1,m1,h1,fun x M2 xv H2 h2 x2 m2 dx=>⟨ρ,M2,_,(s.ext x1).ext x2,m2,h2,fun y M3 yv H3 ⟨a,n,kvs,e1,e2,e3,e4,h3⟩ x3 m3 dy=>by
  subst e1 e2;cases dx;obtain⟨b,rfl,eb⟩:=Q0J dy;obtain⟨vs,g1,g2⟩:=m3.dct e3;have y:Ext H3 (upd H3 a (.dT (putK vs (nk n) vv))):=Ext.mut g1 (fun _ z=>nomatch z) (fun _ _ z=>nomatch z)
  have xx:=(x1.trans x2).trans x3;exact⟨a,_,rfl,DPut.t g1 eb (by rw[<- g2.length];exact e4),k.nx ρ _ σ _ h3 (xx.trans y) ((s.ext xx).ext y) (m3.put y ⟨_,Q0d,Paired.mapP (g2.put n ((dv.ext x2).ext x3)) fun p q z=>⟨z.1,Den.ext y z.2⟩⟩)⟩⟩⟩⟩
end
section
variable{X:Cx}
noncomputable def rAddL:DR2:=fun x y M Q=>∃ xs ys,zag M x=some xs/\zag M y=some ys/\xs.length+ys.length<=sizeLine/\∀ p,M p=none->Q (.ref p) (dupd M p (.lst (xs++ys)))
theorem Q9N:OpD X (binaryOp .Add) rAddL:=by
 rintro pins s σ H x y v u Q I rx ry ⟨dx,dy,M,R,ex,ey,m,⟨xs,ys,e1,e2,hz,q⟩,k⟩;obtain⟨a,vs,rfl,sq,d1⟩:=Q1Q m ex e1;obtain⟨b,ws,rfl,sq2,d2⟩:=Q1Q m ey e2;cases rx;cases ry;obtain⟨its,r1,pl1,_⟩:=I.list sq;obtain⟨its2,r2,pl2,_⟩:=I.list sq2;have l1:=d1.length;have l2:=d2.length;have l3:=r1.length;have l4:=r2.length;obtain⟨⟨cls,dd,data,sl⟩,ho,hc,n,hd⟩:=pl1.isList;obtain⟨⟨cls2,dd2,data2,sl2⟩,ho2,hc2,n2,hd2⟩:=pl2.isList;simp only at hc hd hc2 hd2;subst hc hd hc2 hd2;have e:its.toArray++its2.toArray=(its++its2).toArray:=by simp
 refine concat_meets ⟨_,ho,rfl⟩ ⟨_,ho2,rfl⟩ noFill_list_add seq_list_add PySem.F.slot_list_add PySem.F.entry_list_add (PySem.F.args_list_add_2 _ _) (list_addW a b its.toArray its2.toArray n n2 dd dd2 sl sl2 (by simp only[Z9];rw[<- l3,<- l4,<- l1,<- l2];exact hz)) ⟨ho,ho2,?_⟩
 rw[e];exact⟨.ref _,_,I.lnew (t':=s.toks) (r1.append r2) (by rw[Zl,<- l1,<- l2];exact hz),rfl,k _ _ _ _ (q _ (m.free I.fresh)) (Ext.new I.fresh) (m.newL I.fresh (d1.append d2)) (.ref _)⟩
theorem Q4q{K:Frag}{H:Hp}:∀ {ns:List Int} {vs:List V},Dens K H (ns.map D.int) vs->vs=ns.map V.int
 | [],_,h=>by cases h;rfl
 | n::r,_,h=>by
  cases h with
  | cons h1 h2=>cases h1;rw[Q4q h2];rfl
noncomputable def rMin1:List D->DH->DK->Prop:=fun ds M Q=>match ds with
 | [d]=>∃ ns:List Int,zag M d=some (ns.map .int)/\0<ns.length/\∀ z:Int,z∈ns->(∀ a∈ns,z<=a)->Q (.int z) M
 | _=>False
theorem Q9O(hc:X.calm=true):zaS X (.builtin "min") rMin1:=by
 rintro pins s σ H xs us Q I rv ⟨ds,M,R,dn,m,q,k⟩
 match ds,dn,q with
 | [d],.cons den .nil,⟨ns,e,h0,q⟩ =>
  obtain⟨p,vs,rfl,sq,dd⟩:=Q1Q m den e;obtain⟨u,rfl,rx⟩:=vals1 rv;cases rx;obtain⟨its,r',pl,hz⟩:=I.list sq;cases Q4q dd;have hi:=Q4M r';obtain⟨ys,ey⟩:=hi.allInts.items;have hns:ns=ys.toList.map (·.1):=by rw[<- hi.numsOf,<- nums_intItems,<- ey]
  have hsz:0<ys.size:=by
   have h3:=h0;rw[hns,Zb,ZJ]at h3;exact h3
  have hl:=pl.isList;rw[ey]at hl;refine min_intList (I.ok.hd hc) hl hsz fun v h' tk hv hk=>?_;obtain⟨t,rfl⟩:=intItems_at hv;obtain⟨h1,h2⟩:=argBest_lt (numAt ys) (ys.size-1);refine⟨.int _,H,I.kept hk,⟨t,rfl⟩,k _ M _ H (q _ ?_ fun a ha=>?_) (Ext.refl H) m (.int _)⟩
  ·rw[hns,numAt_eq];exact getD_mem (by rw[Zb,ZJ];omega)
  ·rw[hns]at ha;obtain⟨j,hj,rfl⟩:=mem_getD ha;rw[Zb,ZJ]at hj;rw[<- numAt_eq];exact h2 j (by omega)
end
section
variable{X:Cx}
noncomputable def rInB:DR2:=fun x y M Q=>∃ (b:Bool) (bs:List Bool),x=.bl b/\zag M y=some (bs.map .bl)/\Q (.bl (bs.any fun c=>c==b)) M
theorem Q5Q{K:Frag}{H:Hp}:∀ {bs:List Bool} {vs:List V} {its:List Value},Dens K H (bs.map D.bl) vs->Vals vs its->its=bs.map Value.bool
 | [],_,_,.nil,.nil=>rfl
 | b::r,_,_,.cons (.bl _) t,.cons e u=>by
  cases e;rw[Q5Q t u];rfl
theorem Qbz(hu:X.A.units+64<cLine):OpD X (compareOp .In) rInB:=by
 rintro pins s σ H x y v u Q I rx ry ⟨dx,dy,M,R,ex,ey,m,⟨b,bs,e1,e2,q⟩,k⟩;subst e1;cases ex;cases rx;obtain⟨p,vs,rfl,sq,dd⟩:=Q1Q m ey e2;cases ry;obtain⟨its,r',pl,hz⟩:=I.list sq;cases Q5Q dd r';refine SeqAt.in_listAt (fun y=>decide (y=Value.bool b)) pl.isList (fun y hy=>?_) ⟨.bl (bs.any fun c=>c==b),H,I,?_,k _ M _ H q (Ext.refl H) m (.bl _)⟩
 ·obtain⟨c,_,rfl⟩:=ZH.mp (show y∈bs.map Value.bool from Array.mem_toList_iff.mpr hy);have h:=SeqAt.eqAt_reads (.bool c) (.bool b) X.A.in1 s (.bool c) (.bool b) _ _ (.bool c) (.bool b) rfl rfl (by
   have:X.A.in1.units<=X.A.units+1:=by simp[Around.in1]
   have h2:min (PyData.bool c).depth (PyData.bool b).depth<=11:=Z3 (Nat.min_le_left _ _) (by simp[PyData.depth])
   omega)
  have e:PyData.eqv (.bool c) (.bool b)=decide (Value.bool c=Value.bool b):=by cases c <;> cases b <;> rfl
  rw[e]at h;exact h
 ·show Value.bool _=Value.bool _;congr 1;rw[<- Array.any_toList];simp only[any_map];congr 1
  funext c
  cases c <;> cases b <;> rfl
noncomputable def subR(a:Addr)(ds:List D):D->D
 | .ref b=>if b=a then .lst ds else .ref b
 | d=>d
noncomputable def subT(a:Addr)(ds:List D):D->D
 | .tup xs=>.tup (xs.map (subR a ds))
 | d=>d
noncomputable def rNeR:DR2:=fun x y M Q=>(∃ (a:Addr) (ds:List D),M a=some (.lst ds)/\plain 12 (subT a ds x)=true/\plain 12 y=true/\Q (.bl (!eqB (subT a ds x) y)) M)\/(plain 12 x=true/\plain 12 y=true/\Q (.bl (!eqB x y)) M)
theorem Den.subR{K:Frag}{H H':Hp}{a:Addr}{ds:List D}(x:Ext H H')(den:Den K H' (.lst ds) (.ref a)){d:D}{v:V}(h:Den K H d v):Den K H' (subR a ds d) v:=by
 by_cases hr:∃ b,d=.ref b
 ·obtain⟨b,rfl⟩:=hr;cases h;show Den K H' (if b=a then .lst ds else .ref b) (.ref b)
  by_cases e:b=a
  ·rw[Zg e,e];exact den
  ·rw[Zc e];exact .ref b
 ·have e2:DL.subR a ds d=d:=by cases d <;> first | rfl | exact absurd ⟨_,rfl⟩ hr
  rw[e2];exact h.ext x
theorem Dens.subR{K:Frag}{H H':Hp}{a:Addr}{ds:List D}(x:Ext H H')(den:Den K H' (.lst ds) (.ref a)):∀ {xs:List D} {vs:List V},Dens K H xs vs->Dens K H' (xs.map (DL.subR a ds)) vs
 | [],_,.nil=>.nil
 | _::_,_,.cons h r=>.cons (Den.subR x den h) (Dens.subR x den r)
theorem Den.subT{K:Frag}{H H':Hp}{a:Addr}{ds:List D}(x:Ext H H')(den:Den K H' (.lst ds) (.ref a)){d:D}{v:V}(h:Den K H d v):Den K H' (subT a ds d) v:=by
 cases h with
 | tup e r=>exact .tup (x.tup _ _ e) (Dens.subR x den r)
 | non=>exact .non
 | bl b=>exact .bl b
 | int i=>exact .int i
 | str y hy=>exact .str y hy
 | ref b=>exact .ref b
 | lst f r=>exact (Den.lst f r).ext x
theorem QbA(hu:X.A.units+64<cLine):OpD X (compareOp .NotEq) rNeR:=by
 rintro pins s σ H x y v u Q I rx ry ⟨dx,dy,M,R,ex,ey,m,h,k⟩;have sh:∀ d:PyData,d.canLay0=true->d.depth<=12->SeqAt.shaped d=true:=fun d h1 h2=>by
  unfold SeqAt.shaped;rw[h1,Bool.true_and];exact Zo (by omega)
 rcases h with ⟨a,ds,ha,h1,h2,q⟩ | ⟨h1,h2,q⟩
 ·obtain⟨vs,e1,e2⟩:=m.get ha;obtain⟨o,I2⟩:=I.frozen e1;have x:=Ext.lst (o:=.frz o (.lst vs)) e1;have den:Den X.K (upd H a (.frz o (.lst vs))) (.lst ds) (.ref a):=.lst (.inl ⟨o,Q0d⟩) (e2.ext x);have ex':=Den.subT x den ex;have ey':=ey.ext x;obtain⟨as,ra⟩:=Q0q I2 _ _ _ _ h1 ex' rx;obtain⟨bs,rb⟩:=Q0q I2 _ _ _ _ h2 ey' ry;obtain⟨c1,d1⟩:=Q0N _ _ _ h1 ex';obtain⟨c2,d2⟩:=Q0N _ _ _ h2 ey';refine SeqAt.compareNe_shaped ra rb (sh _ c1 d1) (sh _ c2 d2) hu ?_;rw[bEq _ _ _ _ h1 h2];exact⟨.bl _,H,I,rfl,k _ M _ H q (Ext.refl H) m (.bl _)⟩
 ·obtain⟨as,ra⟩:=Q0q I _ _ _ _ h1 ex rx;obtain⟨bs,rb⟩:=Q0q I _ _ _ _ h2 ey ry;obtain⟨c1,d1⟩:=Q0N _ _ _ h1 ex;obtain⟨c2,d2⟩:=Q0N _ _ _ h2 ey;refine SeqAt.compareNe_shaped ra rb (sh _ c1 d1) (sh _ c2 d2) hu ?_;rw[bEq _ _ _ _ h1 h2];exact⟨.bl _,H,I,rfl,k _ M _ H q (Ext.refl H) m (.bl _)⟩
noncomputable def zbN:D->List D->DH->DK->Prop:=fun d ds M Q=>∃ (a:Addr) (xs:List D),d=.ref a/\ds=[]/\M a=some (.lst xs)/\Q .non (dupd M a (.lst []))
theorem Q4r:MtD X "list.clear" zbN:=by
 rintro pins s σ H x xs v us Q I rx rv ⟨d,ds,M,R,e,dn,m,⟨a,ys,h1,h2,qa,q⟩,k⟩;subst h1 h2;cases e;cases dn;obtain⟨vs,e2,d⟩:=m.get qa;exact Q6Y pins s σ H _ _ v us Q I rx rv ⟨a,vs,rfl,rfl,e2,k _ _ _ _ q (Ext.lst e2) (m.write e2 .nil) .non⟩
end
end DL
namespace L2
open PySem PySem.Spec PyProof.Rows
end L2
namespace DL
open PySem PySem.Spec L2
open PyProof.Rows hiding St
section
variable{X:Cx}
noncomputable def dFmt(te:DTE):DTE:=fun ρ M Q=>te ρ M fun d M1=>match d with
 | .str z=>z.length<=sizeLine/\Q (.str z) M1
 | .int i=>0<=i/\i.natAbs.log2<1920/\Q (.str (digs i.toNat)) M1
 | _=>False
noncomputable def dJoin:List DTE->List Nat->DTE
 | [],out=>fun _ M Q=>Q (.str out) M
 | t::r,out=>fun ρ M Q=>t ρ M fun d M1=>∃ y,d=.str y/\(out++y).length<=sizeLine/\dJoin r (out++y) ρ M1 Q
inductive DJs(X:Cx):List Expr->List DTE->Prop
 | nil:DJs X [] []
 | cons {e:Expr} {t:DTE} {es:List Expr} {ts:List DTE}:DE X e t->DJs X es ts->DJs X (e::es) (t::ts)
end
end DL
namespace L2
open PySem PySem.Spec PyProof.Rows
noncomputable abbrev liOf(l:Addr):Obj:={ cls:=.type "list_iterator",data:=.fields #[.ref l,.int 0 0] }
noncomputable abbrev enOf(a b:Value)(it:Addr)(c:Int)(x:Value):Obj:={ cls:=.type "enumerate",dict:=none,data:=.fields #[a,b,.ref it,rawInt c,.none,x],slots:=#[] }
section
variable{P:Program}{w:World}{A:Around}{E:Value->Shared->Prop}{s:Shared}
end
section
variable{X:Cx}{pins:List (Addr×Obj)}{σ:St}{H:Hp}{s:Shared}{h':Heap}
theorem Inv.turnedL{t':Nat}{fp:List Addr}(I:Inv X pins σ H s)(k:∀ b o,b∉fp->s.heap.get? b=some o->h'.get? b=some o)(hf:∀ b∈fp,FpOk X pins H b):Inv X pins σ H { s with heap:=h',toks:=t' }:=by
 have nit:∀ b u,H b=some u->b∉fp:=fun b u e z=>by rw[(hf b z).1]at e;cases e
 have hL:X.env.locals∉fp:=fun z=>(hf _ z).2.1 rfl;refine I.step (g':=s.gens) (d':=s.drawn) (ch:=fp) (fun b hb=>?_) (fun b o _ _ hc e _=>k b o hc e) (fun b o _ _ hc e _=>⟨o.slots,k b o hc e⟩) (fun _ _ _ _ n=>n)
  (fun b o hc e=>⟨o,k b o hc e⟩) (fun _ _ e=>e) (fun _ _ _ e=>e) (fun b ps e=>⟨#[],by rw[e];simp⟩) (fun m hm=>?_) (fun b u e=>?_) I.bare
 ·obtain⟨f0,f1,f2,f3,f4,f5⟩:=hf b hb;exact⟨f3,f1,f4,f5⟩
 ·obtain⟨o,es,ep,ho,r⟩:=hm;exact⟨o,es,ep,k _ o hL ho,r⟩
 ·refine (I.hok b u e).stay (fun c v hc q=>k c v ?_ q) (fun _ q=>q) fun _ _ q=>q;rcases hc with z | z
  ·rw[z];exact nit b u e
  ·exact nit c _ z
end
noncomputable def Ite(K:Frag)(a:Addr):It :=
 ⟨fun i H=>∃ xs x,SqL K H a xs/\xs[i]? = some x,fun i H v H'=>∃ T x,v=.ref T/\H T=none/\H'=upd H T (.tup [.int (1+(i:Int)),x])/\∀ xs,SqL K H a xs->xs[i]? = some x,fun i H=>∃ xs,SqL K H a xs/\xs.length<=i⟩
end L2
namespace DL
open PySem PySem.Spec L2
open PyProof.Rows hiding St
section
variable{X:Cx}{K:Frag}{e:Expr}{te:DTE}
noncomputable def enumD(ds:List D):List D:=(ds.zipIdx 1).map fun p=>D.tup [.int p.2,p.1]
noncomputable def diEnum(te:DTE):DTI:=fun ρ M R=>te ρ M fun d M1=>match d with
 | .lst ds=>R (enumD ds) (fun _=>True) M1
 | .ref a=>match M1 a with
  | some (.lst ds)=>R (enumD ds) (fun M=>M a=some (.lst ds)) M1
  | _=>False
 | _=>False
end
section
variable{α:Type}
noncomputable def valT(kvs:List (List Nat×D))(k:List Nat):Option D:=(kvs.find? fun kv=>decide (kv.1=k)).map (·.2)
noncomputable def putT(kvs:List (List Nat×D))(k:List Nat)(v:D):List (List Nat×D) :=
 if (kvs.any fun kv=>decide (kv.1=k))=true then kvs.map (fun kv=>if kv.1=k then (kv.1,v) else kv) else kvs++[(k,v)]
theorem Q7D:valT [] k=none:=rfl
theorem Q0z(e:p.1=k):valT (p::r) k=some p.2:=by simp[valT,find?_cons,e]
theorem Q0A(e:¬ p.1=k):valT (p::r) k=valT r k:=by simp[valT,find?_cons,e]
theorem Q1q(k:List Nat):∀ kvs:List (List Nat×D),(kvs.any fun kv=>decide (kv.1=k))=(valT kvs k).isSome
 | []=>rfl
 | p::r=>by
  rw[any_cons];by_cases e:p.1=k
  ·simp only[Q0z e,Zo e,Bool.true_or,Option.isSome_some]
  ·rw[Q0A e,Z5 e,Bool.false_or];exact Q1q k r
theorem Q4s(k j:List Nat)(y:D):∀ kvs:List (List Nat×D),valT (kvs.map fun kv=>if kv.1=k then (kv.1,y) else kv) j=(valT kvs j).map fun x=>if j=k then y else x
 | []=>rfl
 | p::r=>by
  have ih:=Q4s k j y r;rw[Z6];by_cases h:p.1=k
  ·rw[Zg h];by_cases e:p.1=j
   ·rw[Q0z (p:=(p.1,y)) e,Q0z e,Yk,Zg (e.symm.trans h)]
   ·rw[Q0A (p:=(p.1,y)) e,Q0A e,ih]
  ·rw[Zc h];by_cases e:p.1=j
   ·rw[Q0z (p:=p) e,Q0z e,Yk,Zc (fun z=>h (e.trans z))]
   ·rw[Q0A (p:=p) e,Q0A e,ih]
theorem Q3t(k j:List Nat)(y:D):∀ kvs:List (List Nat×D),valT kvs k=none->valT (kvs++[(k,y)]) j=if j=k then some y else valT kvs j
 | [],_=>by
  by_cases e:k=j
  ·rw[Zg e.symm];exact Q0z (p:=(k,y)) e
  ·rw[Zc (fun z=>e z.symm)];exact Q0A (p:=(k,y)) e
 | p::r,hn=>by
  rw[cons_append];have hk:¬ p.1=k:=fun z=>by rw[Q0z z]at hn;cases hn
  rw[Q0A hk]at hn;have ih:=Q3t k j y r hn;by_cases e:p.1=j
  ·rw[Q0z e,Q0z e,Zc (fun z=>hk (e.trans z))]
  ·rw[Q0A e,Q0A e,ih]
theorem Q2N(kvs:List (List Nat×D))(k j:List Nat)(y:D):valT (putT kvs k y) j=if j=k then some y else valT kvs j:=by
 unfold putT;by_cases a:(kvs.any fun kv=>decide (kv.1=k))=true
 ·rw[Zg a,Q4s];rw[Q1q]at a;by_cases e:j=k
  ·obtain⟨x,hx⟩:=Option.isSome_iff_exists.mp a;rw[Zg e,e,hx,Yk,Zg rfl]
  ·rw[Zc e];cases valT kvs j with
   | none=>rfl
   | some x=>rw[Yk,Zc e]
 ·rw[Zc a];refine Q3t k j y kvs ?_;rw[Q1q]at a;cases q:valT kvs k with
  | none=>rfl
  | some x=>rw[q]at a;exact (a rfl).elim
theorem Q3T(kvs:List (List Nat×D))(k:List Nat)(v:D):(putT kvs k v).length<=kvs.length+1:=by
 unfold putT;split
 ·rw[Zb];omega
 ·rw[Zl,Zi,Z8];omega
end
theorem Q5R(e:tkk a=tkk b):a=b:=S_inj (Sum.inr.inj e)
section
variable{K:Frag}{H:Hp}
theorem KTs.val(r:KTs K H kvs vs)(k:List Nat) :
  (valT kvs k=none/\valV vs (tkk k)=none)\/∃ d v,valT kvs k=some d/\valV vs (tkk k)=some v/\Den K H d v:=by
 induction r with
 | nil=>exact .inl ⟨rfl,rfl⟩
 | @cons p q ps qs h t ih =>
  by_cases e:p.1=k
  ·exact .inr ⟨p.2,q.2,Q0z e,Q1B (by rw[h.1,e]),h.2⟩
  ·rw[Q0A e,Q1C (by rw[h.1];exact fun z=>e (Q5R z))];exact ih
theorem KTs.put(r:KTs K H kvs vs)(k:List Nat)(den:Den K H d v):KTs K H (putT kvs k d) (putK vs (tkk k) v):=by
 have an:(kvs.any fun kv=>decide (kv.1=k))=vs.any fun kv=>decide (kv.1=tkk k):=by
  rw[Q1q,Q1V];rcases r.val k with ⟨a,b⟩ | ⟨x,y,a,b,_⟩ <;> rw[a,b] <;> rfl
 unfold putT putK;rw[an];by_cases e:(vs.any fun kv=>decide (kv.1=tkk k))=true
 ·rw[Zg e,Zg e];clear an e
  induction r with
  | nil=>exact .nil
  | @cons p q ps qs h t ih =>
   rw[Z6,Z6];refine .cons ?_ ih;by_cases e:p.1=k
   ·rw[Zg e,Zg (by rw[h.1,e])];exact⟨h.1,den⟩
   ·rw[Zc e,Zc (by rw[h.1];exact fun z=>e (Q5R z))];exact h
 ·rw[Zc e,Zc e];exact Paired.snoc r ⟨rfl,den⟩
theorem KTs.length(r:KTs K H kvs vs):kvs.length=vs.length:=ZE r
end
theorem SimM.dkt{K:Frag}{H:Hp}{M:DH}(h:SimM K M H){a:Addr}{kvs:List (List Nat×D)}(e:M a=some (.oth (.dkt kvs))):∃ vs,H a=some (.dK vs)/\KTs K H kvs vs:=h a _ e
section
variable{X:Cx}{e o value a b k:Expr}{es:List Expr}{pos pos' apos cpos p:Pos}{te tv tk td:DTE}{t:DTA}
noncomputable def zbR:DTE:=fun _ M Q=>∀ q,M q=none->Q (.ref q) (dupd M q (.oth (.dkt [])))
theorem Q9P:DE X (.Dict [] [] pos) zbR :=
 Q7f.imp fun σ H Q ⟨ρ,M,R,s,m,h,k⟩ q hq=>k _ _ _ _ (h q (m.free hq)) (Ext.new hq) (m.put (u:=.oth (.dkt [])) (Ext.new hq) ⟨[],Q0d,.nil⟩) (.ref q)
noncomputable def rInT(f:Bool->Bool):DR2:=fun x y M Q=>∃ (n:List Nat) (a:Addr) (kvs:List (List Nat×D)),x=.str n/\y=.ref a/\M a=some (.oth (.dkt kvs))/\Q (.bl (f (valT kvs n).isSome)) M
noncomputable def rTIx:DR2:=fun x y M Q=>∃ (n:List Nat) (a:Addr) (kvs:List (List Nat×D)) (d:D),y=.str n/\x=.ref a/\M a=some (.oth (.dkt kvs))/\valT kvs n=some d/\Q d M
noncomputable def zbd(td tk tx:DTE):DTE:=fun ρ M Q=>td ρ M fun x M1=>∃ (a:Addr) (kvs0:List (List Nat×D)),x=.ref a/\M1 a=some (.oth (.dkt kvs0))/\tk ρ M1 fun y M2=>tx ρ M2 fun z M3=>∃ (n:List Nat) (kvs:List (List Nat×D)),y=.str n/\M3 a=some (.oth (.dkt kvs))/\Q ((valT kvs n).getD z) M3
theorem Q7E(hu:X.A.units+1<cLine)(hd:DE X o td)(hk:DE X k tk)(hf:DE X f tx)(m2:M2 X o "get" apos k f cpos):DE X (.Call (.Attribute o "get" apos) [k,f] [] cpos) (zbd td tk tx) :=
 (Q4j hu hd hk hf m2).imp fun σ H Q ⟨ρ,M,R,s,m,h,k⟩=>⟨ρ,M,_,s,m,h,fun x M1 xv H1 ⟨a,kvs0,e1,e2,h1⟩ x1 m1 dx=>by
  subst e1;cases dx;obtain⟨vs0,g1,_⟩:=m1.dkt e2;refine⟨a,rfl,.inl ⟨vs0,.inl g1⟩,ρ,M1,_,s.ext x1,m1,h1,fun y M2 yv H2 h2 x2 m2 dy=>⟨ρ,M2,_,(s.ext x1).ext x2,m2,h2,fun z M3 zv H3 ⟨n,kvs,e3,e4,h3⟩ x3 m3 dz=>?_⟩⟩;subst e3;cases dy;obtain⟨vs,g3,g4⟩:=m3.dkt e4;refine⟨_,DGet.k (k:=tkk n) g3,?_⟩;have xx:=(x1.trans x2).trans x3;rcases g4.val n with ⟨q1,q2⟩ | ⟨d',v,q1,q2,q3⟩
  ·rw[q2];rw[q1]at h3;exact k _ M3 _ _ h3 xx m3 dz
  ·rw[q2];rw[q1]at h3;exact k _ M3 _ _ h3 xx m3 q3⟩
noncomputable def dTPut(td tk tv:DTE):DTS:=fun DD ρ M=>tv ρ M fun v M1=>td ρ M1 fun x M2=>tk ρ M2 fun y M3=>∃ (a:Addr) (n:List Nat) (kvs:List (List Nat×D)),x=.ref a/\y=.str n/\M3 a=some (.oth (.dkt kvs))/\kvs.length<sizeLine/\DD.nx ρ (dupd M3 a (.oth (.dkt (putT kvs n v))))
noncomputable def dDispT(tk tv:DTE):DTE:=fun ρ M Q=>∀ q,M q=none->tk ρ (dupd M q (.oth (.dkt []))) fun x M1=>tv ρ M1 fun y M2=>∃ n:List Nat,x=.str n/\M2 q=some (.oth (.dkt []))/\Q (.ref q) (dupd M2 q (.oth (.dkt [(n,y)])))
end
end DL
namespace L2
open PySem PySem.Spec PyProof.Rows
theorem Q3u:typeLookup (.type "list") "keys" = pure none:=by rw[typeLookup_type,builtinLookup_eq_fast];kernel_rfl
section
variable{prog:Program}{w:World}{A:Around}{E:Value->Shared->Prop}{s:Shared}{a:Addr}
theorem Q9Q{Q:Option Value->Shared->Prop}(hx:s.heap.get? a=some ⟨.type "list",none,.seq xs n,sl⟩)(hA:A.handled=none)
  (hq:∀ h' tk,(∀ b u,s.heap.get? b=some u->h'.get? b=some u)->Q none { s with heap:=h',toks:=tk }):wpAny (model prog w) A (getAttr? (.ref a) "keys") Q E s:=by
 obtain⟨hp,g,d,tk,os⟩:=s;have hT:∀ tk',(⟨hp,g,d,tk',os⟩:Shared).TypeIs (.ref a) "list":=fun _=>⟨_,hx,rfl⟩;have f1:=sub_AttributeError;have f3:=F.slot_list_getattribute.lookup;have f4:=F.slot_list_getattribute.bind (.ref a);have f5:=am_list_getattr_none;unfold getAttr? getAttrBy? getAttrBy
 repeat (any_goals (first | assumption | exact hT _ | ((with_reducible show wpAny _ _ (call (Value.builtin "list.__getattribute__") _ _) _ _ _);refine call_meets F.slot_list_getattribute (hT _) am_entry_list_getattribute (F.args_list_getattribute_2 _ _) (meets_getattribute_miss_list a xs n sl "keys" _ Q3u (by decide) (by size_fits)) ⟨hx,hA,fun h' tk' e hx'=>?_⟩) | wp_step))
 obtain⟨t',u',he⟩:=hx'.there;show wpAny _ _ (getattributeRaised _ _ _ _ _ _ _) _ _ _;unfold getattributeRaised
 repeat (any_goals (first | assumption | wp_step))
 exact hq _ _ hx'.keeps
end
section
variable{X:Cx}{pins:List (Addr×Obj)}{σ:St}{H:Hp}{s:Shared}{A:Around}{E:Value->Shared->Prop}
theorem Q5S{Q:Unit->Shared->Prop}(hu:A.units<cLine)(I:Inv X pins σ H s)(e:H d=some (.dT kvs))(eb:H b=some (.tup (k.map kV)))(l:kvs.length<sizeLine)(rv:RelV v r)
  (h:∀ s',Inv X pins σ (upd H d (.dT (putK kvs k v))) s'->(∀ c o,c≠d->s.heap.get? c=some o->s'.heap.get? c=some o)->Q () s'):wpAny (model X.prog X.w) A (dictSet d (.ref b) r) Q E s:=by
 obtain⟨z,hd,xs,rel,dd⟩:=dt_of I.hok e;have hz:xs.length<=sizeLine:=by rw[<- ZE rel];exact z
 have hl:(putK kvs k v).length<=sizeLine:=by have:=Q0x kvs k v;omega
 refine wpAny_dictSet_heap (hsz:=hz) (knd:=tupleKind (za5 X.prog X.w)) hu (Q1j I.hok eb) dd fun h' dd' hs=>h _ ?_ fun c o nc q=>(hs.2 c nc).trans q;obtain⟨q,es,ep,hq,h2,h3,h4,_,h5⟩:=dd';refine Q1v I (by rw[e];exact ZZ) hs ⟨q,hq⟩ ⟨hl,hd,_,(rel.put k eb rv).keeps fun c ys ec=>?_,q,es,ep,hq,h2,h3,h4,h5⟩
 rw[Q0g (ne_of ec e (fun z=>nomatch z))]
 exact ec
end
theorem Q1F:entryFor table "dict.update.loop" = some Builtin.«dict.update.loop»:=entryFor_of_tree (by kernel_rfl)
theorem Q0K:plainId "dict.update.loop" = true:=by decide +kernel
theorem Q5T{K:Frag}{H:Hp}{l d:Addr}{xs:List V}{o:HO}(h:SqL K H l xs)(hd:H d=none):SqL K (upd H d o) l xs:=by
 rcases h with (h | ⟨ob,h⟩) | h
 ·exact .inl (.inl (by rw[Q0g (Q0l h hd)];exact h))
 ·exact .inl (.inr ⟨ob,by rw[Q0g (Q0l h hd)];exact h⟩)
 ·exact .inr h
theorem Q3v{α β:Type}{F:α->β->Prop}:∀ {xs:List α} {ys:List β} {i:Nat} {x:α} {y:β},Paired F xs ys->xs[i]? = some x->ys[i]? = some y->F x y
 | _,_,0,_,_,.cons r t,h1,h2=>by cases h1;cases h2;exact r
 | _,_,i+1,_,_,.cons r t,h1,h2=>Q3v t h1 h2
 | _,_,_,_,_,.nil,h1,_=>by cases h1
noncomputable abbrev zaQ{κ:Type}(kr:Hp->κ->V->Prop)(H:Hp):List V->List (κ×V)->Prop:=Paired fun x p=>∃ t y,x=.ref t/\H t=some (.tup [y,p.2])/\kr H p.1 y
noncomputable def zay{κ:Type}[DecidableEq κ](kvs:List (κ×V))(ps:List (κ×V)):List (κ×V):=ps.foldl (fun a p=>putK a p.1 p.2) kvs
noncomputable abbrev zbw{κ:Type}[DecidableEq κ](X:Cx)(pins:List (Addr×Obj))(σ:St)(H:Hp)(mk:List (κ×V)->HO)(kr:Hp->κ->V->Prop)(d:Addr):Prop:=∀ (A:Around) (E:Value->Shared->Prop) (s:Shared) (kvs:List (κ×V)) (k:κ) (y v:V) (u r:Value) (Q:Unit->Shared->Prop),Inv X pins σ (upd H d (mk kvs)) s->kr H k y->RelV y u->RelV v r->kvs.length<sizeLine->A.units<cLine ->
 (∀ s',Inv X pins σ (upd H d (mk (putK kvs k v))) s'->(∀ c o,c≠d->s.heap.get? c=some o->s'.heap.get? c=some o)->Q () s')->wpAny (model X.prog X.w) A (dictSet d u r) Q E s
noncomputable def krT(H:Hp)(k:List Key)(y:V):Prop:=∃ b,y=.ref b/\H b=some (.tup (k.map kV))
theorem setT(hd:H d=none):zbw X pins σ H HO.dT krT d:=fun A E s kvs k y v u r Q I e ry rv hl hu h=>by
 obtain⟨b,rfl,eb⟩:=e;obtain rfl:u=Value.ref b:=ry;refine Q5S hu I Q0d (by rw[Q0g (Q0l eb hd)];exact eb) hl rv fun s' I' k'=>h s' ?_ k'
 rw[Q1Y]at I';exact I'
section
variable{X:Cx}{pins:List (Addr×Obj)}{σ:St}{H:Hp}{A:Around}{R:Result->Shared->Prop}{d it l:Addr}{xs:List V}{κ:Type}[DecidableEq κ]{mk:List (κ×V)->HO}{kr:Hp->κ->V->Prop}{ps:List (κ×V)}
theorem Q5U(hh:A.in1.handled=none)(hu:A.in1.units<cLine)(hd:H d=none)(hit:FpOk X pins H it)(ne:it≠d)(hl:SqL X.K H l xs)(hp:zaQ kr H xs ps)(hS:zbw X pins σ H mk kr d) :
  ∀ (n i:Nat) (s:Shared) (kvs:List (κ×V)),ps.length-i=n->i<=ps.length->kvs.length+n<=sizeLine->Inv X pins σ (upd H d (mk kvs)) s->s.heap.IsListIter it l i ->
   (∀ s',Inv X pins σ (upd H d (mk (zay kvs (ps.drop i)))) s'->R (.ok (.ret .none)) s')->codeAny (model X.prog X.w) A (.builtin "dict.update.loop" ⟨[.ref d,.ref it,rawInt (i:Int),.none],[]⟩) R s:=by
 intro n
 induction n with
 | zero =>
  intro i s kvs hn hi hk I st hR;have hi2:i=ps.length:=by omega
  have hl2:SqL X.K (upd H d (mk kvs)) l xs:=Q5T hl hd;obtain⟨its,rv,p,hz⟩:=I.list hl2;have hlen:=rv.length;have hpl:=ZE hp;refine codeAny_builtin Q1F ?_;rw[Around.under_plainId Q0K _];show wpAny _ A.in1 (pyNext (.ref it) >>= _) _ _ s;refine Za (wpAny_pyNext_list_end hh st p.isList (by simp;omega) fun h' eb=>?_)
  show wpAny _ A.in1 (Builtin.Dict.addKeywords d [] >>= _) _ _ _;refine Za (Zd (Zd ?_));have e0:zay kvs (ps.drop i)=kvs:=by rw[hi2,List.drop_length];rfl
  rw[e0]at hR;exact hR _ (I.turnedL (t':=s.toks) (fp:=[it]) (fun b o nb q=>eb b o (fun z=>nb (by simp[z])) q) fun b hb=>by
   rw[Zp.mp hb];exact⟨by rw[Q0g ne];exact hit.1,hit.2⟩)
 | succ n ih =>
  intro i s kvs hn hi hk I st hR;have hlt:i<ps.length:=by omega
  have hl2:SqL X.K (upd H d (mk kvs)) l xs:=Q5T hl hd;obtain⟨its,rv,p,hz⟩:=I.list hl2;have hpl:=ZE hp;have hx:xs[i]? = some xs[i]:=Zf (by omega)
  obtain⟨t,y,e1,e2,e3⟩:=Q3v hp hx (Zf hlt);obtain⟨u,hu2,ru⟩:=rv.get hx;rw[e1]at ru;obtain rfl:u=Value.ref t:=ru;have fp:∀ c∈[it],FpOk X pins (upd H d (mk kvs)) c:=fun c hc=>by
   rw[Zp.mp hc];exact⟨by rw[Q0g ne];exact hit.1,hit.2⟩
  refine codeAny_builtin Q1F ?_;rw[Around.under_plainId Q0K _];show wpAny _ A.in1 (pyNext (.ref it) >>= _) _ _ s;refine Za (wpAny_pyNext_list_item st p.isList (x:=.ref t) (by simpa using hu2) fun h' st' sb=>?_)
  have I1:Inv X pins σ (upd H d (mk kvs)) { s with heap:=h' }:=I.turnedL (t':=s.toks) (fp:=[it]) (fun c o nc q=>(sb.2 c (fun z=>nc (by simp[z]))).trans q) fp
  have et:upd H d (mk kvs) t=some (.tup [y,(ps[i]).2]):=by rw[Q0g (Q0l e2 hd)];exact e2
  obtain⟨it2,rv2,⟨ob,ho,hc,m2,hd2⟩,hz2⟩:=I1.tuple (.of et);cases rv2 with
  | cons r1 rv2 =>
  cases rv2 with
  | cons r2 rv2 =>
  cases rv2;rename_i u1 u2;refine Za (Yb (Za (wpAny_tryCatch ?_)));unfold Builtin.Dict.pairItems;refine Za (wpAny_typeOf (show Shared.TypeIs { s with heap:=h' } (.ref t) "tuple" from⟨ob,ho,hc⟩) ?_);rw[Zg (by decide)]
  refine Za (wpAny_seqItems ho hd2 (Zd ?_));show wpAny _ _ (holding [u1,u2] (dictSet d u1 u2)) _ _ _;refine Yb (hS _ _ _ _ _ _ _ _ _ _ I1 e3 r1 r2 (by omega) hu fun s2 I2 k2=>?_)
  have e9:zay kvs (ps.drop i)=zay (putK kvs (ps[i]).1 (ps[i]).2) (ps.drop (i+1)):=by rw[drop_eq_getElem_cons hlt];rfl
  rw[e9]at hR;have hlp:=Q0x kvs (ps[i]).1 (ps[i]).2;exact Zd ⟨plainId_quiet Q0K _,ih (i+1) s2 _ (by omega) hlt (by omega) I2 (st'.at fun o q=>k2 it o ne q) hR⟩
end
section
variable{X:Cx}{pins:List (Addr×Obj)}{σ:St}{H:Hp}{s:Shared}{l:Addr}{xs:List V}{κ:Type}[DecidableEq κ]{mk:List (κ×V)->HO}{kr:Hp->κ->V->Prop}{ps:List (κ×V)}{Q:Value->Shared->Prop}
theorem Q2x(hc:X.calm=true)(hu:X.A.units+64<cLine)(I:Inv X pins σ H s)(hl:SqL X.K H l xs)(hp:zaQ kr H xs ps)(hn:ps.length<=sizeLine)(hS:∀ d,H d=none->zbw X pins σ H mk kr d)(h0:∀ h:Heap,sysModules<h.objs.size->ObjOk X.prog X.w (upd H h.objs.size (mk [])) (h.push { cls:=.type "dict",data:=.dict #[] }) h.objs.size (mk []))
  (h:∀ d s',H d=none->Inv X pins σ (upd H d (mk (zay [] ps))) s'->Q (.ref d) s'):wpAny (model X.prog X.w) X.A (call (.type "dict") [.ref l]) Q X.xe s:=by
 refine callType_codes (Q₁:=fun obj s₁=>obj=.ref s.heap.objs.size/\s₁={ s with heap:=s.heap.push { cls:=.type "dict",data:=.dict #[] } }) F.kt_called_dict (F.kt_typeCall_dict_1 _) F.entry_dict_init (kt_code_dict_new _ ⟨rfl,rfl⟩) ?_;rintro obj s₁ ⟨rfl,rfl⟩;have hnew:(s.heap.push { cls:=.type "dict",data:=.dict #[] }).DictOf (za5 X.prog X.w) s.heap.objs.size []:=Heap.DictOf.new s.heap;have hd:H s.heap.objs.size=none:=I.hok.fresh (Zs _);have I1:=I.laid (a:=s.heap.objs.size) (o:=mk []) (h':=s.heap.push { cls:=.type "dict",data:=.dict #[] }) (t':=s.toks) (fun _ _ q=>Zm _ q) (Zs _) (h0 s.heap I.big);have hl1:SqL X.K (upd H s.heap.objs.size (mk [])) l xs:=Q5T hl hd;obtain⟨its,rv,p,hz⟩:=I1.list hl1;obtain⟨⟨cls,dd,data,sl⟩,n,ho,hcl,hdn,hdt⟩:=p;refine⟨hnew.typeIs,F.args_dict_init_2 _ _,?_⟩;unfold Builtin.«dict.__init__»;refine Za ?_;unfold Builtin.Dict.selfAndRest;refine Za (wpAny_notOrdered_dict hnew.typeIs ?_);show wpAny _ _ (pure (s.heap.objs.size,[Value.ref l])) _ _ _;refine Zd ?_;show wpAny _ _ (Builtin.Dict.updateFrom "dict.__init__" s.heap.objs.size (.ref l) [] .none) _ _ _;unfold Builtin.Dict.updateFrom;refine Za (wpAny_typeOf (show Shared.TypeIs _ (.ref l) "list" from⟨_,ho,hcl⟩) ?_);rw[Zg (by decide)]
 refine Za (Q9Q (s:={ s with heap:=s.heap.push { cls:=.type "dict",data:=.dict #[] } }) (xs:=its.toArray) (n:=n) (sl:=sl) ?_ ?_ fun h2 tk2 k2=>?_)
 ·have e:(⟨cls,dd,data,sl⟩:Obj)=⟨.type "list",none,.seq its.toArray n,sl⟩:=by
   have hcl:cls=.type "list":=hcl;have hdn:dd=none:=hdn;have hdt:data=.seq its.toArray n:=hdt;rw[hcl,hdn,hdt]
  rw[<- e];exact ho
 ·exact I.ok.hd hc
 have I2:Inv X pins σ (upd H s.heap.objs.size (mk [])) { s with heap:=h2,toks:=tk2 }:=I1.kept k2;simp only[Option.isNone_none,ZS];refine Za (wpAny_rule (Za ?_));obtain⟨its2,rv2,p2,hz2⟩:=I2.list hl1;refine wpAny_pyIter_list p2.isList ?_;refine Zd ⟨plainId_quiet Q0K _,?_⟩;have hdl:s.heap.objs.size<h2.objs.size:=Zr (k2 _ _ (Z1 s.heap rfl));have ne:h2.objs.size≠s.heap.objs.size:=Nat.ne_of_gt hdl;have hf:upd H s.heap.objs.size (mk []) h2.objs.size=none:=I2.hok.fresh (Zs _);rw[Q0g ne]at hf;have I3:Inv X pins σ (upd H s.heap.objs.size (mk [])) { s with heap:=h2.push { cls:=.type "list_iterator",data:=.fields #[.ref l,.int 0 0] },toks:=tk2 }:=I2.kept (t':=tk2) fun b o q=>Zm _ q;exact Q5U (A:=X.A.in1) (it:=h2.objs.size) (I.ok.hd hc) (ZG (by first | exact units_in2 | (simp only[Around.in1];omega)) hu) hd (I2.fpOk (H':=H) (Zs _) hf) ne hl hp (hS _ hd) ps.length 0 _ [] (by omega) (ZX _) (by simpa using hn) I3 ⟨_,Z1 _ rfl,rfl,rfl⟩ fun s' I'=>⟨rfl,h _ s' hd I'⟩
end
theorem Q4R{Q:Value->Shared->Prop}(hc:X.calm=true)(hu:X.A.units+64<cLine)(I:Inv X pins σ H s)(hl:SqL X.K H l xs)(hp:zaQ krT H xs ps)(hn:ps.length<=sizeLine)
  (h:∀ d s',H d=none->Inv X pins σ (upd H d (.dT (zay [] ps))) s'->Q (.ref d) s'):wpAny (model X.prog X.w) X.A (call (.type "dict") [.ref l]) Q X.xe s :=
 Q2x hc hu I hl hp hn (fun _ hd=>setT hd) (fun h hb=>Q2I h hb) h
end L2
namespace DL
open PySem PySem.Spec L2
open PyProof.Rows hiding St
section
variable{X:Cx}{K:Frag}{H:Hp}
noncomputable def pairD(p:List (List Nat)×D):D:=.tup [.tup (p.1.map .str),p.2]
noncomputable def zaA(kvs ps:List (List (List Nat)×D)):List (List (List Nat)×D):=ps.foldl (fun a p=>putD a p.1 p.2) kvs
theorem Q4t:∀ {ps:List (List (List Nat)×D)} {vs:List V},Dens K H (ps.map pairD) vs->∃ qs,zaQ krT H vs qs/\KDs K H ps qs
 | [],_,.nil=>⟨[],.nil,.nil⟩
 | p::r,_,.cons h t=>by
  obtain⟨qs,a,b⟩:=Q4t t;cases h with
  | tup e d =>
   cases d with
   | cons d1 d2 =>
    cases d2 with
    | cons d3 d4 =>
     cases d4;obtain⟨c,rfl,ec⟩:=Q0J d1;exact⟨(nk p.1,_)::qs,.cons ⟨_,_,rfl,e,c,rfl,ec⟩ a,.cons ⟨rfl,d3⟩ b⟩
theorem Q3w:∀ {ps:List (List (List Nat)×D)} {qs:List (List Key×V)} {kvs:List (List (List Nat)×D)} {vs:List (List Key×V)},KDs K H ps qs->KDs K H kvs vs->KDs K H (zaA kvs ps) (zay vs qs)
 | [],_,_,_,.nil,h=>h
 | p::r,q::qs,kvs,vs,.cons h t,g=>by
  have g2:=KDs.put g p.1 h.2;rw[<- h.1]at g2;exact Q3w (kvs:=putD kvs p.1 p.2) (vs:=putK vs q.1 q.2) t g2
noncomputable def zbK:List D->DH->DK->Prop:=fun ds M Q=>match ds with
 | [d]=>∃ ps:List (List (List Nat)×D),zag M d=some (ps.map pairD)/\ps.length<=sizeLine/\∀ q,M q=none->Q (.ref q) (dupd M q (.oth (.dct (zaA [] ps))))
 | _=>False
theorem Q9R(hc:X.calm=true)(hu:X.A.units+64<cLine):zaS X (.type "dict") zbK:=by
 rintro pins s σ H xs us Q I rv ⟨ds,M,R,dn,m,q,k⟩
 match ds,dn,q with
 | [d],.cons den .nil,⟨ps,e,hz,q⟩ =>
  obtain⟨p,vs,rfl,sq,dd⟩:=Q1Q m den e;obtain⟨u,rfl,rx⟩:=vals1 rv;cases rx;obtain⟨qs,h1,h2⟩:=Q4t dd;refine Q4R hc hu I sq h1 (by rw[<- ZE h2];exact hz) fun d s' hd I'=>?_
  have xx:Ext H (upd H d (.dT (zay [] qs))):=Ext.new hd;exact⟨.ref d,_,I',rfl,k _ _ _ _ (q d (m.free hd)) xx (m.put (u:=.oth (.dct _)) xx ⟨_,Q0d,Paired.mapP (Q3w h2 .nil) fun a b z=>⟨z.1,Den.ext xx z.2⟩⟩) (.ref d)⟩
end
section
variable{X:Cx}
noncomputable def rNeK:DR2:=fun x y M Q=>∃ (a b:Addr) (ka kb:List (List Nat×D)),x=.ref a/\y=.ref b/\M a=some (.oth (.dkt ka))/\M b=some (.oth (.dkt kb))/\ka.length=kb.length /\
 (∀ p∈ka,∃ d,valT kb p.1=some d/\plain 11 (res M p.2)=true/\res M d=res M p.2)/\Q (.bl false) M
noncomputable def rEqK:DR2:=fun x y M Q=>∃ (a b:Addr) (ka kb:List (List Nat×D)),x=.ref a/\y=.ref b/\M a=some (.oth (.dkt ka))/\M b=some (.oth (.dkt kb))/\ka.length=kb.length /\
 (∀ p∈ka,∃ d,valT kb p.1=some d/\plain 11 (res M p.2)=true/\res M d=res M p.2)/\Q (.bl true) M
end
section
variable{X:Cx}{e:Expr}{te:DTE}
noncomputable def rEqR:DR2:=fun x y M Q=>∃ (a:Addr) (ds:List D),M a=some (.lst ds)/\plain 12 (subT a ds x)=true/\plain 12 y=true/\Q (.bl (eqB (subT a ds x) y)) M
noncomputable def subL(a:Addr)(ds:List D):D->D
 | .lst xs=>.lst (xs.map (subT a ds))
 | d=>d
theorem Dens.subT{K:Frag}{H H':Hp}{a:Addr}{ds:List D}(x:Ext H H')(den:Den K H' (.lst ds) (.ref a)):∀ {xs:List D} {vs:List V},Dens K H xs vs->Dens K H' (xs.map (DL.subT a ds)) vs
 | [],_,.nil=>.nil
 | _::_,_,.cons h r=>.cons (Den.subT x den h) (Dens.subT x den r)
theorem Den.subL{K:Frag}{H H':Hp}{a:Addr}{ds:List D}(x:Ext H H')(den:Den K H' (.lst ds) (.ref a)){d:D}{v:V}(h:Den K H d v):Den K H' (subL a ds d) v:=by
 cases h with
 | lst f r=>exact .lst (FzL.ext x f) (Dens.subT x den r)
 | tup e r=>exact (Den.tup e r).ext x
 | non=>exact .non
 | bl b=>exact .bl b
 | int i=>exact .int i
 | str y hy=>exact .str y hy
 | ref b=>exact .ref b
noncomputable def dfzL:List Addr->D->DH->DK->Prop
 | [],d,M,Q=>Q d M
 | a::as,d,M,Q=>∃ ds,M a=some (.lst ds)/\dfzL as (subL a ds d) (ddel M a) Q
noncomputable def dDfz(te:DTE):DTE:=fun ρ M Q=>dFrz te ρ M fun d M1=>∃ as:List Addr,dfzL as d M1 Q
end
end DL
namespace L2
open PySem PySem.Spec PyProof.Rows
section
variable{prog:Program}{w:World}{K:Type}[DecidableEq K]{knd:HeapKind prog w K}{A:Around}{E:Value->Shared->Prop}{s:Shared}
theorem Q7F{stored:List Value}{Q:Bool->Shared->Prop}(hst:∀ v∈stored,∃ k' b,v=.ref b/\knd.is s.heap k' b)(h:Q false s):wpAny (model prog w) A (tableMayTell .none stored) Q E s:=by
 unfold tableMayTell;split
 ·exact Zd h
 ·have eq0:eqIsQuiet 8 Value.none=pure true:=by first | rfl | simp[eqIsQuiet]
  rw[eq0];refine Za (Zd ?_);simp only[Bool.not_true,ZD,ZQ];refine Za ?_;refine wpAny_forIn_list _ (fun rest r s'=>s'=s/\r=(none,())/\∀ v∈rest,∃ k' b,v=.ref b/\knd.is s.heap k' b) _ ?_ ?_ _ _ ⟨rfl,rfl,hst⟩
  ·rintro x rest r s' ⟨rfl,rfl,hr⟩;obtain⟨k',b,rfl,hb⟩:=hr x Zv;refine Za (knd.quiet hb ?_);simp only[Bool.not_true,ZD,ZQ];exact Zd ⟨rfl,rfl,fun v hv=>hr v (Zk _ hv)⟩
  ·rintro r s' ⟨rfl,rfl,_⟩;exact Zd h
theorem Q4u{d:Addr}{o:Obj}{es:Array DictEntry}{ep:Nat}{xs:List (K×Addr×Value)}{hk:Int}{Q:Option Nat->Shared->Prop}(ho:s.heap.get? d=some o)(hd:o.data=.dict es ep)(he:es.toList=xs.map (entryOfKey knd))
  (his:∀ x∈xs,knd.is s.heap x.1 x.2.1) (heq:∀ x∈xs,SeqAt.EqAt A s (.ref x.2.1) .none false) (h:Q none s):wpAny (model prog w) A (dictFind d .none hk) Q E s:=by
 have hmem:∀ (i:Nat) (e:DictEntry),es[i]? = some e->∃ x∈xs,e=entryOfKey knd x:=fun i e hi=>by
  have:e∈xs.map (entryOfKey knd):=he ▸ Array.mem_toList_iff.mpr (Array.mem_of_getElem? hi);obtain⟨x,hx,rfl⟩:=ZH.mp this;exact⟨x,hx,rfl⟩
 have hst:∀ v∈(placesWithHash es.size (fun i=>es[i]?.map (·.hash)) hk).filterMap (fun i=>es[i]?.map (·.key)),∃ k' b,v=.ref b/\knd.is s.heap k' b:=fun v hv=>by
  obtain⟨i,_,hi⟩:=mem_filterMap.mp hv;cases hei:es[i]? with
  | none=>rw[hei]at hi;cases hi
  | some e =>
   rw[hei]at hi;obtain rfl:e.key=v:=by simpa using hi
   obtain⟨x,hx,rfl⟩:=hmem i e hei;exact⟨x.1,x.2.1,rfl,his x hx⟩
 unfold dictFind
 try with_reducible refine Yb ?_
 refine Za (wpAny_dictEntries ho hd ?_);dsimp only;by_cases hall:((Value.none::(placesWithHash es.size (fun i=>es[i]?.map (·.hash)) hk).filterMap (fun i=>es[i]?.map (·.key))).all carriedByValue)=true
 ·rw[Zg hall];have hnil:placesWithHash es.size (fun i=>es[i]?.map (·.hash)) hk=[]:=by
   cases hp:placesWithHash es.size (fun i=>es[i]?.map (·.hash)) hk with
   | nil=>rfl
   | cons i r =>
    exfalso
    have hi:i∈placesWithHash es.size (fun i=>es[i]?.map (·.hash)) hk:=by rw[hp];exact Zv
    unfold placesWithHash at hi;have hlt:=mem_range.mp (mem_filter.mp hi).1;have hei:es[i]? = some es[i]:=Array.getElem?_eq_getElem hlt;have hin:(es[i]).key∈(placesWithHash es.size (fun i=>es[i]?.map (·.hash)) hk).filterMap (fun i=>es[i]?.map (·.key)):=mem_filterMap.mpr ⟨i,by rw[hp];exact Zv,by rw[hei];rfl⟩
    have hc:=ZN.mp hall _ (Zk _ hin);obtain⟨k',b,e,_⟩:=hst _ hin;rw[e]at hc;cases hc
  rw[hnil];unfold dictWalkPlain;simp only[List.forIn_nil];exact Za (Zd (Zd h))
 ·rw[Zc hall];have hone:¬ (((placesWithHash es.size (fun i=>es[i]?.map (·.hash)) hk).filterMap (fun i=>es[i]?.map (·.key)))==[Value.none])=true:=fun z=>by
   have z:=Zx.mp z;obtain⟨k',b,e,_⟩:=hst Value.none (by rw[z];exact Zp.mpr rfl)
   cases e
  rw[Zc hone];refine Za (Q7F hst ?_);rw[Zc (by simp)]
  refine Za ?_;refine wpAny_forIn_list _ (fun rest b s'=>s'=s/\b=(none,none)) _ ?_ ?_ _ _ ⟨rfl,rfl⟩
  ·rintro i rest b s' ⟨rfl,rfl⟩;cases hei:es[i]? with
   | none=>exact Zd ⟨rfl,rfl⟩
   | some e =>
    obtain⟨x,hx,rfl⟩:=hmem i e hei;dsimp only;by_cases hh:((entryOfKey knd x).hash==hk)=true
    ·rw[Zg hh];refine Za (wpAny_dictEpoch ho hd (Za (heq x hx _ _ _ _ (Za (wpAny_dictEpoch ho hd ?_)))));rw[Zc (by simp)]
     simp only[ZD,ZQ];refine Za (wpAny_rule ?_)
     first | exact Zd ⟨rfl,rfl⟩ | (rw[Zc (by simp)];exact Zd ⟨rfl,rfl⟩) | (simp only[Bool.false_and,ZD,ZQ];first | exact Zd ⟨rfl,rfl⟩ | exact Za (Zd (Zd ⟨rfl,rfl⟩)))
    ·rw[Zc hh];exact Zd ⟨rfl,rfl⟩
  ·rintro b s' ⟨rfl,rfl⟩;exact Zd h
theorem QbB{d:Addr}{xs:List (K×Addr×Value)}{Q:Value->Shared->Prop}(hd:(d==sysModules)=false)(hm:s.heap.DictOfH knd d xs)(heq:∀ tk,∀ x∈xs,SeqAt.EqAt A.in1 { s with toks:=tk } (.ref x.2.1) .none false)
  (h:∀ tk,Q (.bool false) { s with toks:=tk }):wpAny (model prog w) A (compareOp .In .none (.ref d)) Q E s:=by
 show wpAny _ _ (do return .bool (<- contains (.ref d) .none)) Q E s
 refine Za ?_;unfold contains
 try with_reducible refine Yb ?_
 refine Za (wpAny_specialOf hm.typeIs slot_dict_contains.lookup ?_);show wpAny _ _ (if (some (Value.builtin "dict.__contains__")==some Value.none)=true then _ else _) _ E s
 rw[Zc (by rw[beq_builtin_none];exact Zy)]
 refine Za (wpAny_callSpecialUnlessNone?_slot (name:=Str.ofString "__contains__") hm.typeIs slot_dict_contains (wpAny_call_entry slot_dict_contains hm.typeIs entry_dict_contains ?_ (args_dict_contains _ _)));show wpAny _ _ (dictGet d .none >>= _) _ _ s;refine Za ?_;obtain⟨o,es,ep,ho,_,hdd,he,his,hn⟩:=hm;unfold dictGet
 try with_reducible refine Yb ?_
 refine Za ?_;refine (show wpAny _ _ (pyHash Value.none) _ _ s from pyHash_slot (T:="NoneType") rfl F.slot_NoneType_hash F.entry_NoneType_hash (F.args_NoneType_hash_1 _) (beq_builtin_none _) (.inl rfl) (Za (Zd (Za (wpAny_mkInt (Zd ⟨_,_,rfl,?_⟩))))));refine Za (Q4u (s:={ s with toks:=s.toks+1 }) ho hdd he his (heq _) (Zd ?_));show wpAny _ _ (Builtin.Dict.pendingKey? d .none >>= _) _ _ _;exact Za (wpAny_pendingKey_other hd (Zd ⟨_,rfl,Yc (Zd (h _))⟩))
theorem Q2O{d:Addr}(hd:(d==sysModules)=false):MeetsIn prog w (Builtin.«dict.get» ⟨[.ref d,.none],[]⟩) (fun A R s=>∃ xs:List (K×Addr×Value),s.heap.DictOfH knd d xs/\(∀ A':Around,A'.units<=A.units+2->∀ tk,∀ x∈xs,SeqAt.EqAt A' { s with toks:=tk } (.ref x.2.1) .none false)/\∀ tk,R (.ok (.ret .none)) { s with toks:=tk }) :=
 .of_wp fun A R s ⟨xs,hm,heq,h⟩=>by
  show wpAny _ _ (dictGet d .none >>= _) _ _ s;refine Za ?_;obtain⟨o,es,ep,ho,_,hdd,he,his,hn⟩:=hm;unfold dictGet
  try with_reducible refine Yb ?_
  refine Za ?_;refine (show wpAny _ _ (pyHash Value.none) _ _ s from pyHash_slot (T:="NoneType") rfl F.slot_NoneType_hash F.entry_NoneType_hash (F.args_NoneType_hash_1 _) (beq_builtin_none _) (.inl rfl) (Za (Zd (Za (wpAny_mkInt (Zd ⟨_,_,rfl,?_⟩))))));refine Za (Q4u (s:={ s with toks:=s.toks+1 }) ho hdd he his (heq _ (by simp[Around.in1]) _) (Zd ?_))
  show wpAny _ _ (Builtin.Dict.missed d .none >>= _) _ _ _;exact Za (wpAny_missed_other hd (Zd ⟨.none,rfl,h _⟩))
end
end L2
namespace DL
open PySem PySem.Spec L2
open PyProof.Rows hiding St
section
variable{X:Cx}
theorem Q8D(r:KT H vs xs)(hx:x∈xs):∃ p∈vs,H x.2.1=some (.tup (p.1.map kV)):=by
 induction r with
 | nil=>cases hx
 | cons h t ih =>
  rcases Zw.mp hx with rfl | hx
  ·exact⟨_,Zv,h.2.1⟩
  ·obtain⟨p,h1,h2⟩:=ih hx;exact⟨p,Zk _ h1,h2⟩
noncomputable def rEqE:DR2:=fun x y M Q=>∃ xs,zag M x=some xs/\y=.lst []/\Q (.bl xs.isEmpty) M
noncomputable def rInO:DR2:=fun x y M Q=>(∃ (n:List (List Nat)) (a:Addr) (kvs:List (List (List Nat)×D)),x=.tup (n.map .str)/\y=.ref a/\M a=some (.oth (.dct kvs))/\Q (.bl (valD kvs n).isSome) M)\/(∃ (a:Addr) (kvs:List (List (List Nat)×D)),x=.non/\y=.ref a/\M a=some (.oth (.dct kvs))/\Q (.bl false) M)
theorem QbC(hu:X.A.units+66<cLine):OpD X (compareOp .In) rInO:=by
 rintro pins s σ H x y v u Q I rx ry ⟨dx,dy,M,R,ex,ey,m,h,k⟩;rcases h with ⟨n,a,kvs,e1,e2,e3,q⟩ | ⟨a,kvs,e1,e2,e3,q⟩
 ·exact Q8C (by omega) pins s σ H x y v u Q I rx ry ⟨dx,dy,M,R,ex,ey,m,⟨n,a,kvs,e1,e2,e3,q⟩,k⟩
 ·subst e1 e2;cases ex;cases ey;cases rx;cases ry;obtain⟨vs,g1,g2⟩:=m.dct e3;obtain⟨z,hd,xs,rel,dd⟩:=dt_of I.hok g1;refine QbB (knd:=tupleKind (za5 X.prog X.w)) hd dd (fun tk x hx=>?_) fun tk=>⟨.bl false,H,I.tok tk,rfl,k _ M _ H q (Ext.refl H) m (.bl _)⟩;obtain⟨p,hp,hk⟩:=Q8D rel hx;have I2:=I.tok tk;obtain⟨its,rv,hit,z9⟩:=I2.tuple (.of hk);exact SeqAt.EqAt.tuple_none hit (by
   have:X.A.in1.units<=X.A.units+1:=by simp[Around.in1]
   omega)
noncomputable def zbi(td tk:DTE):DTE:=fun ρ M Q=>td ρ M fun x M1=>∃ (a:Addr) (kvs0:List (List (List Nat)×D)),x=.ref a/\M1 a=some (.oth (.dct kvs0))/\tk ρ M1 fun y M2=>∃ kvs:List (List (List Nat)×D),M2 a=some (.oth (.dct kvs))/\((∃ n:List (List Nat),y=.tup (n.map .str)/\Q ((valD kvs n).getD .non) M2)\/(y=.non/\Q .non M2))
theorem Q7G(hu:X.A.units+100<cLine)(hd:DE X o td)(hk:DE X k tk)(m1:M1 X o "get" apos k cpos):DE X (.Call (.Attribute o "get" apos) [k] [] cpos) (zbi td tk):=by
 rintro pins s σ H Q I ⟨ρ,M,R,sm,m,h,k⟩;refine wpAny_Call_method m1.base m1.few m1.line plainAttrs_dict slot_dict_get type_dict_get (thn (hd pins s σ H _ I ⟨ρ,M,_,sm,m,h,fun x M1 xv H1 h1 x1 m1 dx=>(show ∃ M1' R1 x',(∃ a kvs0,x'=.ref a/\M1' a=some (.oth (.dct kvs0))/\tk ρ M1' R1)/\SimM X.K M1' H1/\Den X.K H1 x' xv/\Ext H H1/\∀ y M2 yv H2,R1 y M2->Ext H1 H2->SimM X.K M2 H2->Den X.K H2 y yv->∃ a kvs,x'=.ref a/\M2 a=some (.oth (.dct kvs))/\((∃ n:List (List Nat),y=.tup (n.map .str)/\R ((valD kvs n).getD .non) M2)\/(y=.non/\R .non M2)) from by
   obtain⟨a,kvs0,e1,e2,h1⟩:=h1;exact⟨M1,_,x,⟨a,kvs0,e1,e2,h1⟩,m1,dx,x1,fun y M2 yv H2 ⟨kvs,q1,q2⟩ _ _ _=>⟨a,kvs,e1,q1,q2⟩⟩)⟩) fun u s1 ⟨x,H1,I1,rx,M1',R1,x',⟨a,kvs0,e1,e2,h1⟩,mm,dx,x1,nxt⟩=>?_)
 subst e1;cases dx;obtain rfl:u=Value.ref a:=rx;obtain⟨vs0,g1,_⟩:=mm.dct e2;obtain⟨t1,t2,_⟩:=Q3j I1 (.inr ⟨vs0,.inl g1⟩);refine⟨t1,t2,?_⟩;rw[m1.trees];refine Yg rfl (Calls.evalArgs_plain (ZR (thn (hk pins s1 σ H1 _ I1 ⟨ρ,M1',R1,sm.ext x1,mm,h1,fun y M2 yv H2 h2 x2 m2 dy=>(show ∃ M2' y',R1 y' M2'/\Ext H1 H2/\SimM X.K M2' H2/\Den X.K H2 y' yv from⟨M2,y,h2,x2,m2,dy⟩)⟩) fun iv s2 ⟨yv,H2,I2,ry,M2',y',hy,x2,m2,dy⟩=>Calls.spliced_nil ?_)));obtain⟨a',kvs,e3,e4,h3⟩:=nxt y' M2' yv H2 hy x2 m2 dy;cases e3;obtain⟨vs,g3,g4⟩:=m2.dct e4;rcases h3 with ⟨n,rfl,h3⟩ | ⟨rfl,h3⟩
 ·obtain⟨b,rfl,eb⟩:=Q0J dy;refine QaV (ZG (ZV (by decide) _) hu) I2 (DGet.t g3 eb) ry fun w' s3 I3 rw'=>⟨_,H2,I3,rw',?_⟩
  rcases g4.val n with ⟨q1,q2⟩ | ⟨d',v,q1,q2,q3⟩
  ·rw[q2];rw[q1]at h3;exact k _ M2' _ _ h3 (x1.trans x2) m2 .non
  ·rw[q2];rw[q1]at h3;exact k _ M2' _ _ h3 (x1.trans x2) m2 q3
 ·cases dy;cases ry;obtain⟨z,hd,xs,rel,dd⟩:=dt_of I2.hok g3;refine call_meetsIn slot_dict_get dd.typeIs entry_dict_get (args_dict_get_2 _ _) (Q2O (knd:=tupleKind (za5 X.prog X.w)) hd) ⟨xs,dd,fun A' hA' tk x hx=>?_,fun tk=>⟨.non,H2,I2.tok tk,rfl,k _ M2' _ H2 h3 (x1.trans x2) m2 .non⟩⟩;obtain⟨p,hp,hk⟩:=Q8D rel hx;obtain⟨its,rv,hit,z9⟩:=(I2.tok tk).tuple (.of hk);exact SeqAt.EqAt.tuple_none hit (by
   have:X.A.in1.units<=X.A.units+1:=by simp[Around.in1]
   omega)
end
section
variable{X:Cx}
noncomputable def subU(a:Addr)(ds:List D):D->D
 | .tup xs=>.tup (xs.map (subT a ds))
 | d=>d
theorem Dens.subU{K:Frag}{H H':Hp}{a:Addr}{ds:List D}(x:Ext H H')(den:Den K H' (.lst ds) (.ref a)):∀ {xs:List D} {vs:List V},Dens K H xs vs->Dens K H' (xs.map (DL.subU a ds)) vs:=by
 have inner:∀ {xs:List D} {vs:List V},Dens K H xs vs->Dens K H' (xs.map (DL.subT a ds)) vs:=by
  intro xs
  induction xs with
  | nil=>intro vs h;cases h;exact .nil
  | cons d r ih=>intro vs h;cases h with | cons h1 h2=>exact .cons (Den.subT x den h1) (ih h2)
 have one:∀ {d:D} {v:V},Den K H d v->Den K H' (DL.subU a ds d) v:=by
  intro d v h;cases h with
  | tup e r=>exact .tup (x.tup _ _ e) (inner r)
  | lst e r=>exact Den.ext x (.lst e r)
  | ref b=>exact .ref b
  | str z hz=>exact .str z hz
  | int i=>exact .int i
  | bl b=>exact .bl b
  | non=>exact .non
 intro xs
 induction xs with
 | nil=>intro vs h;cases h;exact .nil
 | cons d r ih=>intro vs h;cases h with | cons h1 h2=>exact .cons (one h1) (ih h2)
noncomputable def rEqL:DR2:=fun x y M Q=>(∃ (q a:Addr) (ds xs:List D),x=.ref q/\q≠a/\M q=some (.lst ds)/\M a=some (.lst xs)/\plain 12 (.lst (ds.map (subU a xs)))=true/\plain 12 y=true/\Q (.bl (eqB (.lst (ds.map (subU a xs))) y)) M)\/rEqN id x y M Q
end
section
variable{X:Cx}{o k:Expr}{td tk:DTE}{pos:Pos}
theorem Q9S(h:j<n):ixN n (j:Int)=some j:=by
 unfold ixN;rw[Zg (by omega),Zg (by omega),Z7]
theorem Dens.put{K:Frag}{H:Hp}{d:D}{v:V}(r:Den K H d v):∀ {ds:List D} {vs:List V} (j:Nat),Dens K H ds vs->Dens K H (ds.set j d) (vs.set j v)
 | _,_,_,.nil=>.nil
 | _,_,0,.cons _ t=>.cons r t
 | _,_,j+1,.cons h t=>.cons h (Dens.put r j t)
noncomputable def dLPut(td tk tv:DTE):DTS:=fun DD ρ M=>tv ρ M fun v M1=>td ρ M1 fun x M2=>tk ρ M2 fun y M3=>∃ (a:Addr) (xs:List D) (j:Nat),x=.ref a/\y=.int j/\M3 a=some (.lst xs)/\j<xs.length/\DD.nx ρ (dupd M3 a (.lst (xs.set j v)))
theorem Q9T(hd:DE X o td)(hk:DE X k tk)(hv:DE X value tv)(hs:swapsWith value (some (.Subscript o k pos')) pos.line X.env=pure false):DS X (.Assign [.Subscript o k pos'] value pos) (dLPut td tk tv) :=
 (Q9l hd hk hv hs).imp fun D σ H ⟨ρ,M,DD,s,m,h,k⟩=>⟨ρ,M,_,s,m,h,fun v M1 vv H1 h1 x1 m1 dv=>⟨ρ,M1,_,s.ext x1,m1,h1,fun x M2 xv H2 h2 x2 m2 dx=>⟨ρ,M2,_,(s.ext x1).ext x2,m2,h2,fun y M3 yv H3 ⟨a,xs,j,e1,e2,e3,e4,h3⟩ x3 m3 dy=>by
  subst e1 e2;cases dx;cases dy;obtain⟨vs,g1,g2⟩:=m3.get e3;have xx:=(x1.trans x2).trans x3;have y:Ext H3 (upd H3 a (.lst (vs.set j vv))):=Ext.lst g1;exact⟨a,vs,j,j,rfl,rfl,g1,by rw[<- g2.length];exact Q9S e4,k.nx ρ _ σ _ h3 (xx.trans y) ((s.ext xx).ext y) (m3.write g1 (Dens.put ((dv.ext x2).ext x3) j g2))⟩⟩⟩⟩
end
end DL
namespace L2
open PySem PySem.Spec PyProof.Rows
noncomputable def rExtendF(K:Frag):V->List V->Hp->VK->Prop:=fun x vs H Q=>∃ l b xs zs,x=.ref l/\vs=[.ref b]/\H l=some (.lst xs)/\SqL K H b zs/\xs.length+zs.length<=sizeLine/\Q .non (upd H l (.lst (xs++zs)))
end L2
namespace DL
open PySem PySem.Spec L2
open PyProof.Rows hiding St
section
variable{X:Cx}
noncomputable def mExtend:D->List D->DH->DK->Prop:=fun d ds M Q=>∃ (a:Addr) (xs ys:List D),d=.ref a/\ds=[.lst ys]/\M a=some (.lst xs)/\xs.length+ys.length<=sizeLine/\Q .non (dupd M a (.lst (xs++ys)))
noncomputable def rNinB:DR2:=fun x y M Q=>∃ (b:Bool) (bs:List Bool),x=.bl b/\zag M y=some (bs.map .bl)/\Q (.bl (!(bs.any fun c=>c==b))) M
noncomputable def mIdx:D->List D->DH->DK->Prop:=fun d ds M Q=>∃ (x:D) (xs:List D) (j:Nat),ds=[x]/\zag M d=some xs/\plain 11 (res M x)=true/\xs.all (plain 11)=true /\
 (xs.map fun d=>eqB d (res M x))[j]? = some true/\(∀ i,i<j->(xs.map fun d=>eqB d (res M x))[i]? = some false)/\Q (.int j) M
theorem Q8E(hu:X.A.units+64<cLine):MtD X "list.index" mIdx:=by
 rintro pins s σ H x xs v us Q I rx rv ⟨d,ds,M,R,e,dn,m,⟨y,ys,j,h1,h2,h3,h4,h5,h6,q⟩,k⟩;subst h1;obtain⟨p,vs,rfl,sq,dd⟩:=Q1Q m e h2;cases rx;cases dn with
 | cons dy t =>
  cases t;obtain⟨u,rfl,ru⟩:=rv.one;obtain⟨its,r',pl,hz⟩:=I.list sq;obtain⟨f,g1,g2⟩:=Qbw I m hu h3 dy ru h4 dd r';obtain⟨⟨cls,dx,data,sl⟩,ho,hc,n,hd⟩:=pl.isList;simp only at hc hd;subst hc hd;rw[<- g2]at h5 h6;have hj:j<its.length:=by
   by_cases z:j<its.length
   ·exact z
   ·rw[List.getElem?_eq_none (by rw[Zb];omega)]at h5;cases h5
  have hl:its.length<=sizeLine:=by rw[<- r'.length];exact hz
  have big:sizeLine<2 ^ 62:=by decide +kernel
  refine call_meets slot_list_index ⟨_,ho,rfl⟩ PySem.F.entry_list_index (PySem.F.args_list_index_2 _ _)
   (SeqAt.list_indexAt p its.toArray n dx sl u f j (by simpa using hj) (by omega) ?_ ?_) ⟨ho,fun y hy=>g1 y (by simpa using hy),⟨.int j,H,I.tok _,⟨_,rfl⟩,k _ M _ H q (Ext.refl H) m (.int _)⟩⟩
  ·rw[Zq,Zf hj]at h5;simpa using h5
  ·intro i hi lt;have hi':i<its.length:=by simpa using hi
   have:=h6 i lt;rw[Zq,Zf hi']at this;simpa using this
end
end DL
namespace L2
open PySem PySem.Spec PyProof.Rows
section
variable{X:Cx}{pins:List (Addr×Obj)}{σ:St}{H:Hp}{s:Shared}{a:Addr}{v:V}{r u:Value}{A:Around}{E:Value->Shared->Prop}{kvs:List (Key×V)}{k:Key}
theorem Q5V{Q:Value->Shared->Prop}(I:Inv X pins σ H s)(e:H a=some (.dK kvs))(ry:RelV (kV k) u)(l:kvs.length<sizeLine)(rv:RelV v r)
  (h1:∀ y u s',valV kvs k=some y->RelV y u->Inv X pins σ H s'->Q u s') (h2:valV kvs k=none->∀ s',Inv X pins σ (upd H a (.dK (putK kvs k v))) s'->Q r s') :
  wpAny (model X.prog X.w) A (call (.builtin "dict.setdefault") [.ref a,u,r]) Q E s:=by
 obtain⟨z,hd,vs,rel,dd⟩:=dk_of I.hok e;have hz:vs.length<=sizeLine:=by rw[<- rel.length];exact z
 have hl:(putK kvs k v).length<=sizeLine:=by have:=Q0x kvs k v;omega
 refine call_meetsIn slot_dict_setdefault dd.typeIs PySem.F.entry_dict_setdefault (PySem.F.args_dict_setdefault_3 _ _ _) (kt_meets_setdefault (za5 X.prog X.w) a (kV_is ry) hd r) ⟨vs,dd,hz,fun p hp=>?_,fun hn h' dd' hs=>?_⟩
 ·have q:=rel.val k;rw[hp]at q;cases ev:valV kvs k with
  | none=>rw[ev]at q;exact (show False from q).elim
  | some y =>
   rw[ev]at q;exact h1 y p _ ev q (I.tok _)
 ·have q:=rel.val k;rw[hn]at q;have ev:valV kvs k=none:=by
   cases ev:valV kvs k with
   | none=>rfl
   | some y=>rw[ev]at q;exact (show False from q).elim
  have he:∃ q,h'.get? a=some q:=let ⟨q,_,_,hq,_⟩:=dd';⟨q,hq⟩;exact h2 ev _ (Q1v I (by rw[e];exact ZZ) hs he (Q5z hl hd (rel.put k rv) dd'))
end
noncomputable def tKSetd(td ty tx:TE):TE:=fun σ H Q=>td σ H fun x H1=>∃ a,x=.ref a/\IsD H1 a/\ty σ H1 fun y H2=>tx σ H2 fun z H3=>∃ kvs k,H3 a=some (.dK kvs)/\y=kV k/\kvs.length<sizeLine /\
 (∀ v,valV kvs k=some v->Q v H3)/\(valV kvs k=none->Q z (upd H3 a (.dK (putK kvs k z))))
theorem Q7H(ho:PE X o td)(he:PE X e ty)(hf:PE X f tx)(m:M2 X o "setdefault" apos e f cpos):PE X (.Call (.Attribute o "setdefault" apos) [e,f] [] cpos) (tKSetd td ty tx):=by
 intro pins s σ H Q I h;refine wpAny_Call_method m.base m.few m.line plainAttrs_dict slot_dict_setdefault PySem.F.type_dict_setdefault (thn (ho pins s σ H _ I h) fun u s1 z1=>?_);obtain⟨x,H1,I1,rx,a,ex,d,q1⟩:=z1;subst ex;obtain rfl:u=Value.ref a:=rx;obtain⟨t1,t2,_⟩:=Q3j I1 d;refine⟨t1,t2,?_⟩;rw[m.trees];refine Yg rfl (Calls.evalArgs_plain (ZR (thn (he pins s1 σ H1 _ I1 q1) fun iv s2 ⟨y,H2,I2,ry,q2⟩ =>
  ZR (thn (hf pins s2 σ H2 _ I2 q2) fun fv s3 z3=>Calls.spliced_nil ?_))))
 obtain⟨z,H3,I3,rz,kvs,k,ea,ey,hl,q3,q4⟩:=z3;subst ey;exact Q5V I3 ea ry hl rz (fun v u' s' ev rv I'=>⟨v,H3,I',rv,q3 v ev⟩) fun ev s' I'=>⟨z,_,I',rz,q4 ev⟩
theorem Q3U{P:Program}{w:World}{κ:Type}[DecidableEq κ](knd:HeapKind P w κ)(d a:Addr)(hd:(d==sysModules)=false)(dflt:Value) :
  MeetsIn P w (Builtin.«dict.pop» ⟨[.ref d,.ref a,dflt],[]⟩) (fun A R s=>knd.room A.in1/\∃ k xs,knd.is s.heap k a/\s.heap.DictOfH knd d xs/\atKey xs k=none/\∀ t,R (.ok (.ret dflt)) { s with toks:=t }):=by
 refine .of_wp fun A R s q=>?_;obtain⟨hu,k,xs,h1,h2,h3,h5⟩:=q;obtain⟨o,es,ep,q1,q2,q3,q4,q5,q6⟩:=id h2;unfold Builtin.«dict.pop» Builtin.Dict.keyAndDefault;refine Za (Za (wpAny_notOrdered_dict h2.typeIs (Zd (a:=(d,Value.ref a,(some dflt:Option Value))) ?_)));have kp:(keyPart (Value.ref a)).isSome=false:=rfl;simp only[kp,ZD,ZQ];refine Za (wpAny_dictEntries q1 q3 (Za (Zd ?_)));cases em:es.isEmpty with
 | true =>
  simp only[ZS];refine Za (wpAny_rule (Za (Zd ?_)));simp only[Option.isNone_none,ZS];refine Za (wpAny_missedRemoval_other hd ?_);exact Za (wpAny_rule (Zd ⟨dflt,rfl,h5 s.toks⟩))
 | false =>
  simp only[ZD,ZQ];refine Za ?_;unfold Builtin.Dict.takeOut
  try with_reducible refine Yb ?_
  refine Za (knd.pyHash hu h1 (Za (wpAny_dictFind_heap (s:={ s with toks:=s.toks+knd.draws k }) hu h1 q1 q3 q4 q5 q6 (fun no=>?_) fun j p hj=>?_)))
  ·refine Zd ?_;simp only[Option.isNone_none,ZS];refine Za (wpAny_missedRemoval_other hd ?_);exact Za (wpAny_rule (Zd ⟨dflt,rfl,h5 _⟩))
  ·exact absurd (atKey_of_get q6 hj) (by rw[h3];exact fun z=>nomatch z)
section
variable{X:Cx}{pins:List (Addr×Obj)}{σ:St}{H:Hp}{s:Shared}{a b:Addr}{v:V}{r:Value}{A:Around}{E:Value->Shared->Prop}{kvs:List (List Key×V)}{k:List Key}
theorem QbD{Q:Value->Shared->Prop}(hu:A.units+1<cLine)(I:Inv X pins σ H s)(e:H a=some (.dT kvs))(eb:H b=some (.tup (k.map kV)))(l:valV kvs k=none)(h:∀ s',Inv X pins σ H s'->Q r s') :
  wpAny (model X.prog X.w) A (call (.builtin "dict.pop") [.ref a,.ref b,r]) Q E s:=by
 obtain⟨z,hd,xs,rel,dd⟩:=dt_of I.hok e;have q:=rel.val k;rw[l]at q;have hn:atKey xs k=none:=by
  cases ev:atKey xs k with
  | none=>rfl
  | some y=>rw[ev]at q;exact (show False from q).elim
 exact call_meetsIn slot_dict_pop dd.typeIs PySem.F.entry_dict_pop (PySem.F.args_dict_pop_3 _ _ _) (Q3U (tupleKind (za5 X.prog X.w)) a b hd r) ⟨Yi hu,k,xs,Q1j I.hok eb,dd,hn,fun t=>h _ (I.tok _)⟩
end
noncomputable def tTPop(td ty tx:TE):TE:=fun σ H Q=>td σ H fun x H1=>∃ a,x=.ref a/\IsD H1 a/\ty σ H1 fun y H2=>tx σ H2 fun z H3=>∃ kvs k b,H3 a=some (.dT kvs)/\y=.ref b/\H3 b=some (.tup (k.map kV))/\valV kvs k=none/\Q z H3
theorem Q9U(hu:X.A.units+1<cLine)(ho:PE X o td)(he:PE X e ty)(hf:PE X f tx)(m:M2 X o "pop" apos e f cpos):PE X (.Call (.Attribute o "pop" apos) [e,f] [] cpos) (tTPop td ty tx):=by
 intro pins s σ H Q I h;refine wpAny_Call_method m.base m.few m.line plainAttrs_dict slot_dict_pop PySem.F.type_dict_pop (thn (ho pins s σ H _ I h) fun u s1 z1=>?_);obtain⟨x,H1,I1,rx,a,ex,d,q1⟩:=z1;subst ex;obtain rfl:u=Value.ref a:=rx;obtain⟨t1,t2,_⟩:=Q3j I1 d;refine⟨t1,t2,?_⟩;rw[m.trees];refine Yg rfl (Calls.evalArgs_plain (ZR (thn (he pins s1 σ H1 _ I1 q1) fun iv s2 ⟨y,H2,I2,ry,q2⟩ =>
  ZR (thn (hf pins s2 σ H2 _ I2 q2) fun fv s3 z3=>Calls.spliced_nil ?_))))
 obtain⟨z,H3,I3,rz,kvs,k,b,ea,ey,eb,l,q3⟩:=z3;subst ey;obtain rfl:iv=Value.ref b:=ry;exact QbD hu I3 ea eb l fun s' I'=>⟨z,H3,I',rz,q3⟩
end L2
namespace DL
open PySem PySem.Spec L2
open PyProof.Rows hiding St
section
variable{X:Cx}{o k:Expr}{apos cpos:Pos}{td tk:DTE}
noncomputable def zbc(td tk tx:DTE):DTE:=fun ρ M Q=>td ρ M fun x M1=>∃ (a:Addr) (kvs0:List (List Nat×D)),x=.ref a/\M1 a=some (.oth (.dkt kvs0))/\tk ρ M1 fun y M2=>tx ρ M2 fun z M3=>∃ (n:List Nat) (kvs:List (List Nat×D)),y=.str n/\M3 a=some (.oth (.dkt kvs))/\kvs.length<sizeLine /\
 (∀ d,valT kvs n=some d->Q d M3)/\(valT kvs n=none->Q z (dupd M3 a (.oth (.dkt (putT kvs n z)))))
theorem Q7I(hd:DE X o td)(hk:DE X k tk)(hf:DE X f tx)(m2:M2 X o "setdefault" apos k f cpos):DE X (.Call (.Attribute o "setdefault" apos) [k,f] [] cpos) (zbc td tk tx) :=
 (Q7H hd hk hf m2).imp fun σ H Q ⟨ρ,M,R,s,m,h,k⟩=>⟨ρ,M,_,s,m,h,fun x M1 xv H1 ⟨a,kvs0,e1,e2,h1⟩ x1 m1 dx=>by
  subst e1;cases dx;obtain⟨vs0,g1,_⟩:=m1.dkt e2;refine⟨a,rfl,.inl ⟨vs0,.inl g1⟩,ρ,M1,_,s.ext x1,m1,h1,fun y M2 yv H2 h2 x2 m2 dy=>⟨ρ,M2,_,(s.ext x1).ext x2,m2,h2,fun z M3 zv H3 ⟨n,kvs,e3,e4,e5,h3,h4⟩ x3 m3 dz=>?_⟩⟩;subst e3;cases dy;obtain⟨vs,g3,g4⟩:=m3.dkt e4;have xx:=(x1.trans x2).trans x3;refine⟨vs,tkk n,g3,rfl,by rw[<- g4.length];exact e5,fun v hv=>?_,fun hv=>?_⟩
  ·rcases g4.val n with ⟨q1,q2⟩ | ⟨d',v',q1,q2,q3⟩
   ·rw[q2]at hv;cases hv
   ·rw[q2]at hv;cases hv;exact k _ M3 _ _ (h3 d' q1) xx m3 q3
  ·rcases g4.val n with ⟨q1,q2⟩ | ⟨d',v',q1,q2,q3⟩
   ·have y:Ext H3 (upd H3 a (.dK (putK vs (tkk n) zv))):=Ext.mut g3 (fun _ z=>nomatch z) (fun _ _ z=>nomatch z)
    exact k _ _ _ _ (h4 q1) (xx.trans y) (m3.put y ⟨_,Q0d,Paired.mapP (g4.put n dz) fun p q z=>⟨z.1,Den.ext y z.2⟩⟩) (dz.ext y)
   ·rw[q2]at hv;cases hv⟩
noncomputable def zbg(td tk tx:DTE):DTE:=fun ρ M Q=>td ρ M fun x M1=>∃ (a:Addr) (kvs0:List (List (List Nat)×D)),x=.ref a/\M1 a=some (.oth (.dct kvs0))/\tk ρ M1 fun y M2=>tx ρ M2 fun z M3=>∃ (n:List (List Nat)) (kvs:List (List (List Nat)×D)),y=.tup (n.map .str)/\M3 a=some (.oth (.dct kvs))/\valD kvs n=none/\Q z M3
theorem Q7J(hu:X.A.units+1<cLine)(hd:DE X o td)(hk:DE X k tk)(hf:DE X f tx)(m2:M2 X o "pop" apos k f cpos):DE X (.Call (.Attribute o "pop" apos) [k,f] [] cpos) (zbg td tk tx) :=
 (Q9U hu hd hk hf m2).imp fun σ H Q ⟨ρ,M,R,s,m,h,k⟩=>⟨ρ,M,_,s,m,h,fun x M1 xv H1 ⟨a,kvs0,e1,e2,h1⟩ x1 m1 dx=>by
  subst e1;cases dx;obtain⟨vs0,g1,_⟩:=m1.dct e2;refine⟨a,rfl,.inr ⟨vs0,.inl g1⟩,ρ,M1,_,s.ext x1,m1,h1,fun y M2 yv H2 h2 x2 m2 dy=>⟨ρ,M2,_,(s.ext x1).ext x2,m2,h2,fun z M3 zv H3 ⟨n,kvs,e3,e4,e5,h3⟩ x3 m3 dz=>?_⟩⟩;subst e3;obtain⟨b,rfl,eb⟩:=Q0J (dy.ext x3);obtain⟨vs,g3,g4⟩:=m3.dct e4;have xx:=(x1.trans x2).trans x3;refine⟨vs,nk n,b,g3,rfl,eb,?_,k _ M3 _ _ h3 xx m3 dz⟩;rcases g4.val n with ⟨q1,q2⟩ | ⟨d',v',q1,q2,q3⟩
  ·exact q2
  ·rw[e5]at q1;cases q1⟩
end
section
variable{X:Cx}{o value:Expr}{pos pos':Pos}{tv:DTE}
noncomputable def dFAug(c f:Str)(to tv:DTE):DTS:=fun DD ρ M=>to ρ M fun x M1=>∃ a fs i,x=.ref a/\M1 a=some (.oth (.ins c fs))/\fs.lookup f=some (.int i) /\
 tv ρ M1 fun y M2=>∃ j fs',y=.int j/\M2 a=some (.oth (.ins c fs'))/\fs'.length<1000/\DD.nx ρ (dupd M2 a (.oth (.ins c (zal f (.int (i+j)) fs'))))
theorem Q9V(hC:nsIn X.K mainGlobals c=some (some (.ref C)))(hc:Cls X.K C)(hn:NoAttr X.K C f)(ho:DE X o to)(hv:DE X value tv) :
  DS X (.AugAssign (.Attribute o f pos') .Add value pos) (dFAug c f to tv) :=
 (Q5k ho hv QaQ).imp fun D σ H ⟨ρ,M,DD,s,m,h,k⟩=>⟨ρ,M,_,s,m,h,fun x M1 xv H1 ⟨a,fs,i,e1,e2,e3,h1⟩ x1 m1 dx=>by
  subst e1;cases dx;obtain⟨C',dx,vs,g1,g2,g3⟩:=m1.ins e2;rw[hC]at g1;cases g1;obtain⟨v,q1,q2⟩:=g3.lookup e3;cases q2;refine⟨a,C,dx,vs,.int i,rfl,g2,hc,hn,q1,ρ,M1,_,s.ext x1,m1,h1,fun y M2 yv H2 ⟨j,fs',e4,e5,e6,h2⟩ x2 m2 dy=>?_⟩;subst e4;cases dy;obtain⟨C',dx',vs',g1,g4,g5⟩:=m2.ins e5;rw[hC]at g1;cases g1;have xx:Ext H2 (upd H2 a (.ins C dx' (putF f (.int (i+j)) vs'))):=Ext.mut g4 (fun _ z=>nomatch z) (fun _ _ z=>nomatch z)
  exact⟨i,j,rfl,rfl,dx',vs',g4,by rw[<- g5.length];exact e6,k.nx ρ _ σ _ h2 ((x1.trans x2).trans xx) ((s.ext (x1.trans x2)).ext xx)
   (m2.put xx ⟨C,dx',_,hC,Q0d,Paired.mapP (g5.put f (.int (i+j))) fun p q z=>⟨z.1,Den.ext xx z.2⟩⟩)⟩⟩
end
end DL
namespace L2
open PySem PySem.Spec PyProof.Rows
noncomputable def IsDct(u:HO):Prop:=(∃ kvs,u=.dK kvs)\/∃ kvs,u=.dT kvs
noncomputable def zbE:HO->Nat
 | .dK kvs=>kvs.length
 | .dT kvs=>kvs.length
 | _=>0
noncomputable def KeyAt(H:Hp)(i:Nat)(x:V):HO->Prop
 | .dK kvs=>∃ p,kvs[i]? = some p/\x=kV p.1
 | .dT kvs=>∃ p b,kvs[i]? = some p/\x=.ref b/\H b=some (.tup (p.1.map kV))
 | _=>False
noncomputable def ItF(a:Addr)(ob:Obj)(u:HO):It:=⟨fun i H=>H a=some (.frz ob u)/\i<zbE u,fun i H x H'=>H'=H/\KeyAt H i x u,fun i H=>H a=some (.frz ob u)/\zbE u<=i⟩
theorem Q8F(h:(za5 P w).is k v=true):RelV (kV k) v:=by
 rcases Q0m h with ⟨i,t,rfl,rfl⟩ | ⟨x,t,rfl,rfl⟩
 ·exact⟨t,rfl⟩
 ·exact⟨t,rfl⟩
theorem Q1a{α β:Type}{F:α->β->Prop}:∀ {xs:List α} {ys:List β} {i:Nat} {y:β},Paired F xs ys->ys[i]? = some y->∃ x,xs[i]? = some x/\F x y
 | _,_,0,_,.cons r t,h2=>by cases h2;exact⟨_,rfl,r⟩
 | _,_,i+1,_,.cons r t,h2=>Q1a (i:=i) t h2
 | _,_,_,_,.nil,h1=>by cases h1
theorem Q4v{prog:Program}{w:World}{K:Type}[DecidableEq K]{knd:KeyKind prog w K}:∀ {es:List DictEntry} {kvs:List (K×Value)},Pairs knd es kvs->∀ {i:Nat} {e:DictEntry},es[i]? = some e->∃ kv,kvs[i]? = some kv/\knd.is kv.1 e.key=true
 | _,_,.nil,_,_,h=>by cases h
 | _,_,.cons h1 h2 t,0,_,h=>by cases h;exact⟨_,rfl,h1⟩
 | _,_,.cons h1 h2 t,i+1,_,h=>Q4v t (i:=i) h
section
variable{P:Program}{w:World}{H:Hp}{h:Heap}{a:Addr}{ob:Obj}{u:HO}
theorem fz_at(hu:IsDct u)(ok:HOk P w H h)(e:H a=some (.frz ob u)):h.get? a=some ob/\(a==sysModules)=false/\ob.ExactDict/\∃ es ep,ob.data=.dict es ep/\es.size=zbE u/\zbE u<=sizeLine /\
  ∀ (i:Nat) (hi:i<es.size),∃ x,KeyAt H i x u/\RelV x es[i].key:=by
 rcases hu with ⟨kvs,rfl⟩ | ⟨kvs,rfl⟩
 ·obtain⟨e1,z,y,vs,r,o,es,ep,g1,g2,g3,g4,g5,g6⟩:=ok a _ e;rw[e1]at g1;cases g1;have sz:es.size=vs.length:=by rw[<- ZJ];exact g5.length
  refine⟨e1,y,g2,es,ep,g3,sz.trans r.length.symm,z,fun i hi=>?_⟩;have q:es.toList[i]? = some es[i]:=by simp[hi]
  obtain⟨kv,k1,k2⟩:=Q4v g5 q;obtain⟨p,p1,p2⟩:=Q1a r k1;refine⟨kV p.1,⟨p,p1,rfl⟩,?_⟩;rw[p2.1];exact Q8F k2
 ·obtain⟨e1,z,y,xs,r,o,es,ep,g1,g2,g3,g4,g5⟩:=ok a _ e;rw[e1]at g1;cases g1;have sz:es.size=xs.length:=by have:=congrArg List.length g4;rwa [Zb,ZJ]at this
  refine⟨e1,y,g2,es,ep,g3,sz.trans (ZE r).symm,z,fun i hi=>?_⟩;have hx:i<xs.length:=by rw[<- sz];exact hi
  have q:es.toList[i]? = some es[i]:=by simp[hi]
  rw[g4,Zq,Zf hx]at q;have q2:=ZB q;obtain⟨p,p1,p2,p3,p4⟩:=Q1a r (Zf hx);refine⟨.ref xs[i].2.1,⟨p,xs[i].2.1,p1,rfl,p3⟩,?_⟩;rw[<- q2];rfl
end
theorem Q4S{P:Program}{w:World}{K:Frag}{tg:Expr}(a it:Addr)(ob:Obj){u:HO}(hu:IsDct u){es:Array DictEntry}{ep:Nat}(hob:ob.data=.dict es ep)(sz:es.size=zbE u) :
  Turn P w K tg (ItF a ob u) [it] it (fun i h=>h.IsKeyIter it a i es.size ep) where
 mem:=by simp
 obj:=fun i h st b hb=>by
  have e:b=it:=by simpa using hb
  subst e;obtain⟨o,e,c,d⟩:=st;exact⟨o,e,fun v z=>by rw[d]at z;cases z⟩
 keep:=fun i h h' st k=>st.at fun o e=>k it (by simp) o e
 item:=by
  intro X hP hw hK hc i pins s σ H E I hf st hg;subst hP hw hK;obtain⟨e,lt⟩:=hg;obtain⟨h1,_,_,es',ep',h2,_,_,el⟩:=fz_at hu I.hok e;rw[hob]at h2;cases h2;obtain⟨f0,f1,f2,f3,f4,f5⟩:=hf it (by simp)
  obtain⟨x,q1,q2⟩:=el i (by omega)
  refine Q5C st h1 hob (by omega) fun h' st' sb=>?_
  have I1:Inv X pins σ H { s with heap:=h' }:=I.turned (t':=s.toks) (fun b o hb e=>(sb.2 b hb).trans e) f0 f1 f3 f4 f5;obtain⟨oi,w1,w2,w3⟩:=id st';exact⟨_,rfl,go_of (s:={ s with heap:=h' }) w1 w2 w3 (by decide) ⟨x,H,I1,q2,⟨rfl,q1⟩,st',fun b hb=>(hf b hb).1⟩⟩
 done:=by
  intro X hP hw hK hc i pins s σ H E I hf st hg;subst hP hw hK;obtain⟨e,ge⟩:=hg;obtain⟨h1,_,_,es',ep',h2,_,_,el⟩:=fz_at hu I.hok e;obtain⟨f0,f1,f2,f3,f4,f5⟩:=hf it (by simp)
  exact Q7k (I.ok.hd hc) st h1 hob (by omega) fun h' eb=>⟨rfl,I.turned (t':=s.toks) (fun b o hb e=>eb b o hb e) f0 f1 f3 f4 f5⟩
 self:=fun _ _ _ _ _ st h=>wpAny_pyIter_keyiter st h
theorem Inv.frozenD(hu:IsDct u)(I:Inv X pins σ H s)(h:H a=some u) :
  ∃ o,Inv X pins σ (upd H a (.frz o u)) s:=by
 have hx:=I.hok a _ h;have nt:∀ c ys,H c=some (.tup ys)->c≠a:=fun c ys q w=>by
  rw[w,h]at q;rcases hu with ⟨kvs,rfl⟩ | ⟨kvs,rfl⟩ <;> cases q
 have nf:∀ c ob v,H c=some (.frz ob v)->c≠a:=fun c ob v q w=>by
  rw[w,h]at q;rcases hu with ⟨kvs,rfl⟩ | ⟨kvs,rfl⟩ <;> cases q
 have nb:∀ c ps,H c=some (.tbl ps)->c≠a:=fun c ob q w=>by
  rw[w,h]at q;rcases hu with ⟨kvs,rfl⟩ | ⟨kvs,rfl⟩ <;> cases q
 have no:∀ c y,H c=some (.own y)->c≠a:=fun c ob q w=>by
  rw[w,h]at q;rcases hu with ⟨kvs,rfl⟩ | ⟨kvs,rfl⟩ <;> cases q
 have hg:∃ ob,s.heap.get? a=some ob:=by
  rcases hu with ⟨kvs,rfl⟩ | ⟨kvs,rfl⟩
  ·obtain⟨_,_,_,_,o,_,_,g,_⟩:=hx;exact⟨o,g⟩
  ·obtain⟨_,_,_,_,o,_,_,g,_⟩:=hx;exact⟨o,g⟩
 obtain⟨ob,hg⟩:=hg;refine⟨ob,I.un (h':=s.heap) (t':=s.toks) ⟨fun b u q _ _ _=>q,fun b u q _ _ _=>⟨u.slots,q⟩,fun b u _ q _=>?_,fun b u q _=>⟨u,q⟩,fun b ys q=>?_,fun b u ys q=>?_,fun b ps q=>?_⟩ fun b v q=>?_⟩
 ·rw[Q0g fun w=>by rw[w,h]at q;cases q];exact q
 ·rw[Q0g (nt _ _ q)];exact q
 ·rw[Q0g (nf _ _ _ q)];exact q
 ·exact⟨#[],by rw[Q0g (nb _ _ q),q];simp⟩
 ·by_cases hb:b=a
  ·subst hb;rw[Q0d]at q;cases q;exact⟨hg,hx.stay (fun _ _ _ q=>q) (fun c q=>by rw[Q0g (no _ _ q)];exact q) fun c ys q=>by rw[Q0g (nt _ _ q)];exact q⟩
  ·rw[Q0g hb]at q;exact (I.hok b v q).stay (fun _ _ _ q=>q) (fun c q=>by rw[Q0g (no _ _ q)];exact q) fun c ys q=>by rw[Q0g (nt _ _ q)];exact q
section
variable{X:Cx}{tg:Expr}
noncomputable def iKeysF(tl:TE):TI:=fun σ H R=>tl σ H fun x H1=>∃ a u,x=.ref a/\IsDct u/\H1 a=some u/\∀ ob,R (ItF a ob u) (upd H1 a (.frz ob u))
theorem Q4w{l:Expr}{tl:TE}(hl:PE X l tl):PI X tg l (iKeysF tl):=by
 intro pins s σ H R I h;refine thn (hl pins s σ H _ I h) fun v s1 zz=>?_;obtain⟨x,H1,I1,r1,a,u,e,hu,hq,q⟩:=zz;subst e;cases r1;obtain⟨ob,I2⟩:=I1.frozenD hu hq;obtain⟨h1,hd,hx,es,ep,h2,sz,_,_⟩:=fz_at hu I2.hok Q0d;refine Q5B hd ⟨ob,h1,hx.1⟩ h1 h2 ?_;refine⟨s1.heap.objs.size,[s1.heap.objs.size],_,_,_,rfl,I2.kept (t':=s1.toks) fun b o e=>Zm _ e,Q4S a _ ob hu h2 sz,⟨_,Z1 _ rfl,rfl,rfl⟩,fun b hb=>?_,q ob⟩;have e:b=s1.heap.objs.size:=by simpa using hb
 subst e;exact I2.fpOk (Zs _) (I2.hok.fresh (Zs _))
end
section
variable{X:Cx}{pins:List (Addr×Obj)}{σ:St}{H:Hp}{s:Shared}{A:Around}{E:Value->Shared->Prop}
theorem Q4T{Q:Unit->Shared->Prop}(I:Inv X pins σ H s)(e:H d=some (.dK kvs))(ry:RelV (kV k) u)(l:kvs.length<sizeLine)(rv:RelV v r)
  (h:∀ s',Inv X pins σ (upd H d (.dK (putK kvs k v))) s'->(∀ c o,c≠d->s.heap.get? c=some o->s'.heap.get? c=some o)->Q () s'):wpAny (model X.prog X.w) A (dictSet d u r) Q E s:=by
 obtain⟨z,hd,vs,rel,dd⟩:=dk_of I.hok e;have hz:vs.length<=sizeLine:=by rw[<- rel.length];exact z
 have hl:(putK kvs k v).length<=sizeLine:=by have:=Q0x kvs k v;omega
 refine wpAny_dictSet_pairs (hsz:=hz) (kV_is ry) dd fun h' dd' hs=>h _ ?_ fun c o nc q=>(hs.2 c nc).trans q;have he:∃ q,h'.get? d=some q:=let ⟨q,_,_,hq,_⟩:=dd';⟨q,hq⟩;exact Q1v I (by rw[e];exact ZZ) hs he (Q5z hl hd (rel.put k rv) dd')
end
noncomputable def krK(_:Hp)(k:Key)(y:V):Prop:=y=kV k
theorem setK:zbw X pins σ H HO.dK krK d:=fun A E s kvs k y v u r Q I e ry rv hl hu h=>by
 subst e;refine Q4T I Q0d ry hl rv fun s' I' k'=>h s' ?_ k';rw[Q1Y]at I';exact I'
theorem Q2y:∀ {its:List Value} {ss:List Str},StrsAre its ss->Vals (ss.map .str) its
 | _,_,.nil=>.nil
 | _,_,.cons x t r=>.cons ⟨t,rfl⟩ (Q2y r)
theorem Q5W{Q:Value->Shared->Prop}(hc:X.calm=true)(I:Inv X pins σ H s)(e:Rd H a (.dK kvs))(hk:kvs.map (·.1)=ss.map Sum.inr)(h64:kvs.length<64)
  (h:∀ p s' (ss':List Str),H p=none->Inv X pins σ (upd H p (.lst (ss'.map V.str))) s'->ss'.Perm ss->sortedS ss'=true->Q (.ref p) s'):wpAny (model X.prog X.w) X.A (call (.builtin "sorted") [.ref a]) Q X.xe s:=by
 obtain⟨z,hd,vs,rel,dd⟩:=dk_rd I.hok e;obtain⟨ep,hat⟩:=dd.dictAt;have hvl:vs.length<64:=by rw[<- rel.length];exact h64
 have hsl:vs.length<=sizeLine:=by rw[<- rel.length];exact z
 refine Calls.call_function_entry kind_sorted plain_sorted entry_sorted (args_sorted1 _) ?_;unfold Builtin.«sorted»;refine Za (m:=checkCount "sorted" 1 1 _) (Zd ?_);refine Za (PySem.W.kdu_collect (A:=X.A.in1) (PySem.W.kdl_dict (knd:=za5 X.prog X.w) (kvs:=vs) (ep:=ep) hd) (I.ok.hd hc) hat hsl fun h' tk acc kp ac=>?_);have I4:=I.kept (t':=tk) (h':=h') kp;refine Za (wpAny_newList ?_ (by rw[ZJ,ac.1];exact hsl))
 have I5:=I4.kept (t':=tk) (h':=h'.push (seqObj "list" acc.toList.toArray 0)) fun _ _ z=>Zm _ z;have gL:(h'.push (seqObj "list" acc.toList.toArray 0)).get? h'.objs.size=some (seqObj "list" acc.toList.toArray 0):=Z1 _ rfl;have hS:StrsAre acc.toList ss:=by
  have key:∀ (l:List Value) (us:List (Key×Value)) (ss:List Str),us.map (·.1)=ss.map Sum.inr->l.length=us.length->(∀ (j:Nat) (v:Value),l[j]? = some v->∃ k x,us[j]? = some (k,x)/\(za5 X.prog X.w).is k v=true)->StrsAre l ss:=by
   intro l
   induction l with
   | nil =>
    intro us ss h1 h2 _;have:us=[]:=length_eq_zero_iff.mp h2.symm;subst this;have:ss=[]:=by simpa using h1.symm
    subst this;exact .nil
   | cons v r ih =>
    intro us ss h1 h2 h3;cases us with
    | nil=>cases h2
    | cons u us =>
     cases ss with
     | nil=>cases h1
     | cons x ss =>
      rw[Z6,Z6,List.cons.injEq]at h1;obtain⟨k,y,e1,e2⟩:=h3 0 v rfl;cases e1;have hk:k=Sum.inr x:=h1.1;subst hk;obtain⟨t,rfl⟩:=Q8F e2;exact .cons x t (ih us ss h1.2 (by simpa using h2) fun j v hj=>h3 (j+1) v hj)
  refine key _ vs ss ?_ (by rw[ZJ];exact ac.1) fun j v hj=>ac.2 j v (by rw[<- Array.getElem?_toList];exact hj)
  rw[<- rel.keys,hk]
 have hal:acc.toList.length<64:=by rw[ZJ,ac.1];exact hvl
 refine Za (Yb (wpAny_call_entry slot_list_sort ⟨_,gL,rfl⟩ entry_list_sort (list_sort_treeK strKind_oneLt gL hS.keysOf (fun v₁ v₂ rest e=>keyKind_strs (by rw[<- e];exact hS)) hal fun st' hp hs=>⟨_,rfl,?_⟩) (args_list_sort _)))
 obtain⟨ss',h1,h2,h3⟩:=sorted_out_str hS hp hs;obtain⟨n,hn⟩:=sortedHeap_at (out:=(arrOf st').map (·.2)) gL;have fr:H h'.objs.size=none:=I4.hok.fresh (Zs _);refine Zd ⟨_,rfl,h _ _ ss' fr (I4.laid (t':=tk) (a:=h'.objs.size) (fun b o q=>?_) (Zs _) ?_) h2 h3⟩
 ·have hb:b<h'.objs.size:=Zr q;rw[sortedHeap_old (ZO hb) (by rw[size_push'];exact Nat.lt_succ_of_lt hb)]
  exact Zm _ q
 ·refine⟨?_,((arrOf st').map (·.2)).toList,n,Q2y h1,hn⟩;have e1:=h2.length_eq;have e2:=congrArg List.length hk;rw[Zb,Zb]at e2;rw[Zb,e1,<- e2];exact z
end L2
namespace DL
open PySem PySem.Spec L2
open PyProof.Rows hiding St
noncomputable def gdT(x:List Nat):Prop:=(x.all fun c=>decide (c<1114112))=true
section
variable{K:Frag}{H:Hp}{M:DH}{a:Addr}{ob:Obj}
theorem SimM.dkf(h:SimM K M H)(e:M a=some (.oth (.dkf ob kvs))):∃ vs,H a=some (.frz ob (.dK vs))/\KTs K H kvs vs:=h a _ e
theorem SimM.dcf(h:SimM K M H)(e:M a=some (.oth (.dcf ob kvs))):∃ vs,H a=some (.frz ob (.dT vs))/\KDs K H kvs vs:=h a _ e
theorem Q5X:∀ {n:List (List Nat)},(∀ w∈n,gdT w)->Dens K H (n.map .str) ((nk n).map kV)
 | [],_=>.nil
 | x::r,h=>.cons (.str x (h x Zv)) (Q5X fun w hw=>h w (Zk _ hw))
theorem Yields.tkeys{Cd:DH->Prop}(h0:H a=some (.frz ob (.dK vs)))(r:KTs K H kvs vs)(hg:∀ p∈kvs,gdT p.1):Yields K (ItF a ob (.dK vs)) (kvs.map fun p=>.str p.1) Cd H where
 go:=fun i H' M x m c hi=>⟨x.frz _ _ _ h0,by rw[Zb,ZE r]at hi;exact hi⟩
 yld:=fun i H' M x H'' xx m c h hi=>by
  obtain⟨rfl,p,q1,rfl⟩:=h;obtain⟨p',p1,p2,p3⟩:=Q1a r q1;refine⟨Ext.refl _,m,.str p'.1,by rw[Zq,p1];rfl,?_⟩
  rw[p2];exact .str _ (hg p' (Zt p1))
 stop:=fun i H' M x m c hi=>⟨x.frz _ _ _ h0,by rw[Zb,ZE r]at hi;exact hi⟩
theorem Yields.dkeys{Cd:DH->Prop}(h0:H a=some (.frz ob (.dT vs)))(r:KDs K H kvs vs)(hg:∀ p∈kvs,∀ w∈p.1,gdT w):Yields K (ItF a ob (.dT vs)) (kvs.map fun p=>.tup (p.1.map .str)) Cd H where
 go:=fun i H' M x m c hi=>⟨x.frz _ _ _ h0,by rw[Zb,ZE r]at hi;exact hi⟩
 yld:=fun i H' M x H'' xx m c h hi=>by
  obtain⟨rfl,p,b,q1,rfl,q2⟩:=h;obtain⟨p',p1,p2,p3⟩:=Q1a r q1;refine⟨Ext.refl _,m,.tup (p'.1.map .str),by rw[Zq,p1];rfl,?_⟩
  rw[p2]at q2;exact .tup q2 (Q5X (hg p' (Zt p1)))
 stop:=fun i H' M x m c hi=>⟨x.frz _ _ _ h0,by rw[Zb,ZE r]at hi;exact hi⟩
end
section
variable{X:Cx}{tg e o k:Expr}{te td tk:DTE}{pos:Pos}
noncomputable def zb1(te:DTE):DTI:=fun ρ M R=>te ρ M fun d M1=>∃ (a:Addr) (kvs:List (List Nat×D)),d=.ref a/\M1 a=some (.oth (.dkt kvs))/\(∀ p∈kvs,gdT p.1)/\∀ ob,R (kvs.map fun p=>.str p.1) (fun _=>True) (dupd M1 a (.oth (.dkf ob kvs)))
theorem Q7K(he:DE X e te):DI X tg e (zb1 te) :=
 (Q4w he).imp fun σ H R ⟨ρ,M,RD,s,m,h,k⟩=>⟨ρ,M,_,s,m,h,fun d M1 v H1 ⟨a,kvs,e1,e2,hg,h1⟩ x1 m1 den=>by
  subst e1;cases den;obtain⟨vs,g1,g2⟩:=m1.dkt e2;refine⟨a,.dK vs,rfl,.inl ⟨_,rfl⟩,g1,fun ob=>?_⟩;have xx:Ext H1 (upd H1 a (.frz ob (.dK vs))):=Ext.mut g1 (fun _ z=>nomatch z) (fun _ _ z=>nomatch z)
  have g3:KTs X.K (upd H1 a (.frz ob (.dK vs))) kvs vs:=Paired.mapP g2 fun p q z=>⟨z.1,Den.ext xx z.2⟩;exact k _ _ _ _ _ (h1 ob) (x1.trans xx) (m1.put (u:=.oth (.dkf ob kvs)) xx ⟨vs,Q0d,g3⟩) (Yields.tkeys Q0d g3 hg)⟩
noncomputable def zb2(te:DTE):DTI:=fun ρ M R=>te ρ M fun d M1=>∃ (a:Addr) (kvs:List (List (List Nat)×D)),d=.ref a/\M1 a=some (.oth (.dct kvs))/\(∀ p∈kvs,∀ w∈p.1,gdT w)/\∀ ob,R (kvs.map fun p=>.tup (p.1.map .str)) (fun _=>True) (dupd M1 a (.oth (.dcf ob kvs)))
theorem Q7L(he:DE X e te):DI X tg e (zb2 te) :=
 (Q4w he).imp fun σ H R ⟨ρ,M,RD,s,m,h,k⟩=>⟨ρ,M,_,s,m,h,fun d M1 v H1 ⟨a,kvs,e1,e2,hg,h1⟩ x1 m1 den=>by
  subst e1;cases den;obtain⟨vs,g1,g2⟩:=m1.dct e2;refine⟨a,.dT vs,rfl,.inr ⟨_,rfl⟩,g1,fun ob=>?_⟩;have xx:Ext H1 (upd H1 a (.frz ob (.dT vs))):=Ext.mut g1 (fun _ z=>nomatch z) (fun _ _ z=>nomatch z)
  have g3:KDs X.K (upd H1 a (.frz ob (.dT vs))) kvs vs:=Paired.mapP g2 fun p q z=>⟨z.1,Den.ext xx z.2⟩;exact k _ _ _ _ _ (h1 ob) (x1.trans xx) (m1.put (u:=.oth (.dcf ob kvs)) xx ⟨vs,Q0d,g3⟩) (Yields.dkeys Q0d g3 hg)⟩
noncomputable def zbG:DR2:=fun x y M Q=>∃ (n:List Nat) (a:Addr) (ob:Obj) (kvs:List (List Nat×D)) (d:D),y=.str n/\x=.ref a/\M a=some (.oth (.dkf ob kvs))/\valT kvs n=some d/\Q d M
theorem Q9W(hu:X.A.units+1<cLine)(hd:DE X o td)(hk:DE X k tk)(hs:NoSl k):DE X (.Subscript o k pos) (dOp zbG td tk) :=
 (Q3Q hu hd hk hs).imp fun σ H Q ⟨ρ,M,R,s,m,h,k⟩=>⟨ρ,M,_,s,m,h,fun x M1 xv H1 h1 x1 m1 dx=>⟨ρ,M1,_,s.ext x1,m1,h1,fun y M2 yv H2 ⟨n,a,ob,kvs,d,e1,e2,e3,e4,h2⟩ x2 m2 dy=>by
  subst e1 e2;cases dy;cases dx;obtain⟨vs,g1,g2⟩:=m2.dkf e3;rcases g2.val n with ⟨q1,q2⟩ | ⟨d',v,q1,q2,q3⟩
  ·rw[q1]at e4;cases e4
  ·rw[q1]at e4;cases e4;exact⟨a,v,rfl,.inl ⟨vs,tkk n,.inr ⟨ob,g1⟩,rfl,q2.symm⟩,k _ M2 _ _ h2 (x1.trans x2) m2 q3⟩⟩⟩
noncomputable def zbL:DR2:=fun x y M Q=>∃ (n:List (List Nat)) (a:Addr) (ob:Obj) (kvs:List (List (List Nat)×D)) (d:D),y=.tup (n.map .str)/\x=.ref a/\M a=some (.oth (.dcf ob kvs))/\valD kvs n=some d/\Q d M
theorem Q9X(hu:X.A.units+1<cLine)(hd:DE X o td)(hk:DE X k tk)(hs:NoSl k):DE X (.Subscript o k pos) (dOp zbL td tk) :=
 (Q3Q hu hd hk hs).imp fun σ H Q ⟨ρ,M,R,s,m,h,k⟩=>⟨ρ,M,_,s,m,h,fun x M1 xv H1 h1 x1 m1 dx=>⟨ρ,M1,_,s.ext x1,m1,h1,fun y M2 yv H2 ⟨n,a,ob,kvs,d,e1,e2,e3,e4,h2⟩ x2 m2 dy=>by
  subst e1 e2;obtain⟨b,rfl,eb⟩:=Q0J dy;cases dx;obtain⟨vs,g1,g2⟩:=m2.dcf e3;rcases g2.val n with ⟨q1,q2⟩ | ⟨d',v,q1,q2,q3⟩
  ·rw[q1]at e4;cases e4
  ·rw[q1]at e4;cases e4;exact⟨a,v,rfl,.inr ⟨vs,nk n,b,.inr ⟨ob,g1⟩,rfl,eb,q2.symm⟩,k _ M2 _ _ h2 (x1.trans x2) m2 q3⟩⟩⟩
noncomputable def rInF:DR2:=fun x y M Q=>∃ (n:List (List Nat)) (a:Addr) (ob:Obj) (kvs:List (List (List Nat)×D)),x=.tup (n.map .str)/\y=.ref a/\M a=some (.oth (.dcf ob kvs))/\Q (.bl (valD kvs n).isSome) M
theorem QbE(hu:X.A.units+1<cLine):OpD X (compareOp .In) rInF:=by
 rintro pins s σ H x y v u Q I rx ry ⟨dx,dy,M,R,ex,ey,m,⟨n,a,ob,kvs,e1,e2,e3,q⟩,k⟩;subst e1 e2;obtain⟨b,rfl,eb⟩:=Q0J ex;cases ey;obtain⟨vs,g1,g2⟩:=m.dcf e3;cases ry;refine d_in hu I (.inr ⟨vs,nk n,b,.inr ⟨ob,g1⟩,rfl,eb,rfl⟩) rx fun s' I'=>⟨.bl (valV vs (nk n)).isSome,H,I',rfl,?_⟩;rw[Q2M g2];exact k _ M _ H q (Ext.refl H) m (.bl _)
noncomputable def dFzT(te:DTE):DTE:=fun ρ M Q=>te ρ M fun d M1=>(∃ (a:Addr) (ds:List D),M1 a=some (.lst ds)/\Q (subT a ds d) (ddel M1 a))\/Q d M1
theorem QbF(he:DE X e te):DE X e (dFzT te):=by
 rintro pins s σ H Q I ⟨ρ,M,R,ss,m,h,k⟩;refine thn (he pins s σ H (fun v H'=>∃ d M1,((∃ (a:Addr) (ds:List D),M1 a=some (.lst ds)/\R (subT a ds d) (ddel M1 a))\/R d M1)/\Ext H H'/\SimM X.K M1 H'/\Den X.K H' d v) I ⟨ρ,M,_,ss,m,h,fun d M1 v H1 h1 x1 m1 e1=>⟨d,M1,h1,x1,m1,e1⟩⟩) fun u s' z=>?_;obtain⟨v,H',I',r,d,M1,q,x,m',den⟩:=z;rcases q with ⟨a,ds,ha,q⟩ | q
 ·obtain⟨vs,e1,e2⟩:=m'.get ha;obtain⟨o,I2⟩:=I'.frozen e1;have y:=Ext.lst (o:=.frz o (.lst vs)) e1;have den2:Den X.K (upd H' a (.frz o (.lst vs))) (.lst ds) (.ref a):=.lst (.inl ⟨o,Q0d⟩) (e2.ext y);exact⟨v,_,I2,r,k _ _ _ _ q (x.trans y) (m'.frz e1) (Den.subT y den2 den)⟩
 ·exact⟨v,H',I',r,k _ _ _ _ q x m' den⟩
noncomputable def pairT(p:List Nat×D):D:=.tup [.str p.1,p.2]
noncomputable def zaF(kvs ps:List (List Nat×D)):List (List Nat×D):=ps.foldl (fun a p=>putT a p.1 p.2) kvs
theorem Q3x{K:Frag}{H:Hp}:∀ {ps:List (List Nat×D)} {vs:List V},Dens K H (ps.map pairT) vs->∃ qs,zaQ krK H vs qs/\KTs K H ps qs
 | [],_,.nil=>⟨[],.nil,.nil⟩
 | p::r,_,.cons h t=>by
  obtain⟨qs,a,b⟩:=Q3x t;cases h with
  | tup e d =>
   cases d with
   | cons d1 d2 =>
    cases d2 with
    | cons d3 d4 =>
     cases d4;cases d1;exact⟨(tkk p.1,_)::qs,.cons ⟨_,_,rfl,e,rfl⟩ a,.cons ⟨rfl,d3⟩ b⟩
theorem Q2z{K:Frag}{H:Hp}:∀ {ps:List (List Nat×D)} {qs:List (Key×V)} {kvs:List (List Nat×D)} {vs:List (Key×V)},KTs K H ps qs->KTs K H kvs vs->KTs K H (zaF kvs ps) (zay vs qs)
 | [],_,_,_,.nil,h=>h
 | p::r,q::qs,kvs,vs,.cons h t,g=>by
  have g2:=KTs.put g p.1 h.2;rw[<- h.1]at g2;exact Q2z (kvs:=putT kvs p.1 p.2) (vs:=putK vs q.1 q.2) t g2
noncomputable def zbJ:List D->DH->DK->Prop:=fun ds M Q=>match ds with
 | [d]=>∃ ps:List (List Nat×D),zag M d=some (ps.map pairT)/\ps.length<=sizeLine/\∀ q,M q=none->Q (.ref q) (dupd M q (.oth (.dkt (zaF [] ps))))
 | _=>False
theorem Q7M(hc:X.calm=true)(hu:X.A.units+64<cLine):zaS X (.type "dict") zbJ:=by
 rintro pins s σ H xs us Q I rv ⟨ds,M,R,dn,m,q,k⟩
 match ds,dn,q with
 | [d],.cons den .nil,⟨ps,e,hz,q⟩ =>
  obtain⟨p,vs,rfl,sq,dd⟩:=Q1Q m den e;obtain⟨u,rfl,rx⟩:=vals1 rv;cases rx;obtain⟨qs,h1,h2⟩:=Q3x dd;refine Q2x (mk:=HO.dK) hc hu I sq h1 (by rw[<- ZE h2];exact hz) (fun _ _=>setK) (fun h hb=>Q4i h hb) fun d s' hd I'=>?_
  have xx:Ext H (upd H d (.dK (zay [] qs))):=Ext.new hd;exact⟨.ref d,_,I',rfl,k _ _ _ _ (q d (m.free hd)) xx (m.put (u:=.oth (.dkt _)) xx ⟨_,Q0d,Paired.mapP (Q2z h2 .nil) fun a b z=>⟨z.1,Den.ext xx z.2⟩⟩) (.ref d)⟩
noncomputable def zbH:List D->DH->DK->Prop:=fun ds M Q=>match ds with
 | [d]=>∃ (a:Addr) (kvs:List (List Nat×D)),d=.ref a/\M a=some (.oth (.dkt kvs))/\kvs.length<64/\(∀ p∈kvs,gdT p.1)/\∀ zs':List (List Nat),zs'.Perm (kvs.map (·.1))->zs'.Pairwise (fun a b=>a<=b)->∀ p,M p=none->Q (.ref p) (dupd M p (.lst (zs'.map .str)))
 | _=>False
theorem Q7N(hc:X.calm=true):zaS X (.builtin "sorted") zbH:=by
 rintro pins s σ H xs us Q I rv ⟨ds,M,R,dn,m,q,k⟩
 match ds,dn,q with
 | [d],.cons den .nil,⟨a,kvs,e,e2,h64,hg,q⟩ =>
  subst e;cases den;obtain⟨u,rfl,rx⟩:=vals1 rv;cases rx;obtain⟨vs,g1,g2⟩:=m.dkt e2;have hk:vs.map (·.1)=(kvs.map fun p=>S p.1).map Sum.inr:=by
   rw[ZT];have key:∀ {kvs:List (List Nat×D)} {vs:List (Key×V)},KTs X.K H kvs vs->vs.map (·.1)=kvs.map ((Sum.inr:Str->Key) ∘ fun p=>S p.1):=by
    intro kvs vs r
    induction r with
    | nil=>rfl
    | cons h t ih=>rw[Z6,Z6,ih,h.1];rfl
   exact key g2
  refine Q5W hc I (.inl g1) hk (by rw[<- ZE g2];exact h64) fun p s' ss' fr I' a2 a3=>?_
  have ez:(ss'.map fun x=>x.cps.toList).map S=ss':=by
   rw[ZT]
   conv=>rhs;rw[<- map_id ss']
   exact Yj fun x _=>S_cps x
  have pz:(ss'.map fun x=>x.cps.toList).Perm (kvs.map (·.1)):=by
   have:=a2.map fun x:Str=>x.cps.toList;rw[ZT]at this;have e0:kvs.map ((fun x:Str=>x.cps.toList) ∘ fun p:List Nat×D=>S p.1)=kvs.map (·.1):=Yj fun x _=>by simp[S]
   rwa [e0]at this
  have al:∀ z∈(ss'.map fun x=>x.cps.toList),(z.all fun c=>decide (c<1114112))=true:=fun z hz=>by
   obtain⟨p,hp,rfl⟩:=ZH.mp (pz.mem_iff.mp hz);exact hg p hp
  have dn':Dens X.K H ((ss'.map fun x=>x.cps.toList).map .str) (ss'.map .str):=by
   have:=Q2L (K:=X.K) (H:=H) al
   rwa [ez]at this
  exact⟨.ref _,_,I',rfl,k _ _ _ _ (q _ pz (List.pairwise_map.mpr (Q3q ss' a3)) _ (m.free fr)) (Ext.new fr) (m.newL fr dn') (.ref _)⟩
end
end DL
namespace IR
open PySem PySem.Spec L2 DL
open PyProof.Rows hiding St
inductive Lit where
 | non | bl (b:Bool) | int (i:Int) | str (x:List Nat)
noncomputable def Lit.d:Lit->D
 | .non=>.non | .bl b=>.bl b | .int i=>.int i | .str x=>.str x
noncomputable def Lit.ck:Lit->Const->Bool
 | .non,.none=>true
 | .bl b,.bool c=>b==c
 | .int i,.int j=>i==j
 | .str x,.str y=>x==y.cps.toList&&(x.all fun c=>decide (c<1114112))
 | _,_=>false
inductive Bn where
 | add | sub | mul | mod | pow | mulS | addL
 deriving DecidableEq
noncomputable def Bn.op:Bn->Operator
 | .add=>.Add
 | .sub=>.Sub
 | .mul=>.Mult
 | .mod=>.Mod
 | .pow=>.Pow
 | .mulS=>.Mult
 | .addL=>.Add
noncomputable def Bn.r:Bn->DR2
 | .add=>zbM
 | .sub=>rI2 (fun _ _=>True) (fun i j=>i-j)
 | .mul=>rI2 CMul (fun i j=>i * j)
 | .mod=>rI2 (fun _ j=>0<j) (fun i j=>i % j)
 | .pow=>rI2 CPow (fun i j=>i ^ j.toNat)
 | .mulS=>rMulS
 | .addL=>rAddL
theorem Bn.ok:∀ b:Bn,OpD X (binaryOp b.op) b.r
 | .add=>Qbl
 | .sub=>Qbh
 | .mul=>Qbi
 | .mod=>Qbj
 | .pow=>Qbk
 | .mulS=>Q9G
 | .addL=>Q9N
inductive Cp where
 | eq | ne | lt | gt | isN | notN | inD | ninD | inB | neR | inO | inF
 deriving DecidableEq
noncomputable def Cp.op:Cp->CmpOp
 | .eq=>.Eq
 | .ne=>.NotEq
 | .lt=>.Lt
 | .gt=>.Gt
 | .isN=>.Is
 | .notN=>.IsNot
 | .inD=>.In
 | .ninD=>.NotIn
 | .inB=>.In
 | .neR=>.NotEq
 | .inO=>.In
 | .inF=>.In
noncomputable def Cp.r:Cp->DR2
 | .eq=>rEqN id
 | .ne=>rEqN not
 | .lt=>rLtD (fun i j=>decide (i<j))
 | .gt=>rLtD (fun i j=>decide (j<i))
 | .isN=>rIsN id
 | .notN=>rIsN not
 | .inD=>rInD id
 | .ninD=>rInD not
 | .inB=>rInB
 | .neR=>rNeR
 | .inO=>rInO
 | .inF=>rInF
theorem l64(h:n+100<cLine):n+64<cLine:=ZG (ZV (by decide) _) h
theorem Cp.ok(hu':X.A.units+100<cLine):∀ b:Cp,OpD X (compareOp b.op) b.r
 | .eq=>od_eq (l64 hu')
 | .ne=>od_ne (l64 hu')
 | .lt=>od_lt
 | .gt=>od_gt
 | .isN=>Qbo
 | .notN=>Q9B
 | .inD=>Q8C (ZG (ZV (by decide) _) (l64 hu'))
 | .ninD=>Q9L (ZG (ZV (by decide) _) (l64 hu'))
 | .inB=>Qbz (l64 hu')
 | .neR=>QbA (l64 hu')
 | .inO=>QbC (ZG (ZV (by decide) _) hu')
 | .inF=>QbE (ZG (ZV (by decide) _) (l64 hu'))
inductive Bl where
 | len | list | str | sorted | min1 | dict | dictT | sortT
 deriving DecidableEq
noncomputable def Bl.nm:Bl->Str
 | .len=>"len"
 | .list=>"list"
 | .str=>"str"
 | .sorted=>"sorted"
 | .min1=>"min"
 | .dict=>"dict"
 | .dictT=>"dict"
 | .sortT=>"sorted"
noncomputable def Bl.r:Bl->List D->DH->DK->Prop
 | .len=>rLen
 | .list=>rList
 | .str=>rStr
 | .sorted=>zbl
 | .min1=>rMin1
 | .dict=>zbK
 | .dictT=>zbJ
 | .sortT=>zbH
inductive Ms where
 | index | strip | rstrip | startswith | endswith | find | join | split | lower | upper
 deriving DecidableEq
noncomputable def Ms.nm:Ms->Str
 | .index=>"index" | .strip=>"strip" | .rstrip=>"rstrip" | .startswith=>"startswith" | .endswith=>"endswith" | .find=>"find" | .join=>"join" | .split=>"split" | .lower=>"lower" | .upper=>"upper"
noncomputable def Ms.r:Ms->D->List D->DH->DK->Prop
 | .index=>mIndex
 | .strip=>m1S (fun z _=>z.length<=sizeLine) fun z y=>.str (strip2 true true y z)
 | .rstrip=>m1S (fun z _=>z.length<=sizeLine) fun z y=>.str (strip2 false true y z)
 | .startswith=>m1S (fun _ _=>True) fun z y=>.bl (decide (z.take y.length=y))
 | .endswith=>m1S (fun _ _=>True) fun z y=>.bl (decide (y.length<=z.length/\z.drop (z.length-y.length)=y))
 | .find=>mFind
 | .join=>mJoin
 | .split=>mSplit
 | .lower=>m0S lo1
 | .upper=>m0S up1
inductive Ml where
 | append | clear | index
 deriving DecidableEq
noncomputable def Ml.nm:Ml->Str
 | .append=>"append"
 | .clear=>"clear"
 | .index=>"index"
noncomputable def Ml.r:Ml->D->List D->DH->DK->Prop
 | .append=>zaI
 | .clear=>zbN
 | .index=>mIdx
inductive FP where
 | lit (w:List Nat)
 | var (i:Nat)
noncomputable def FP.d:FP->DTE
 | .lit w=>dC (.str w)
 | .var i=>dFmt (dVar i)
set_option genSizeOf false in
set_option genInjectivity false in
inductive CE where
 | var (i:Nat)
 | con (l:Lit)
 | glob (i:Nat)
 | bin (op:Bn) (a b:CE)
 | cmp (op:Cp) (a b:CE)
 | chain (o p:Cp) (a b c:CE)
 | and (a b:CE) | or (a b:CE) | not (a:CE) | neg (a:CE)
 | ite (c a b:CE)
 | ix (a b:CE)
 | sl (a lo hi:CE)
 | tup (as:CE) | lst (as:CE) | lstz (as:CE) | frz (e:CE)
 | call (f:Nat) (as:CE)
 | blt (b:Bl) (as:CE)
 | isi (T:Ty) (e:CE)
 | ml (m:Ml) (o as:CE)
 | fld (c f:Str) (e:CE)
 | meth (f:Nat) (o as:CE)
 | make (f:Nat) (as:CE)
 | dnew
 | disp1 (k v:CE)
 | dix (d k:CE)
 | dget2 (d k e:CE)
 | dget1 (d k:CE)
 | dsetd (d k e:CE)
 | knew
 | fzt (e:CE)
 | kixf (d k:CE)
 | dixf (d k:CE)
 | kget2 (d k e:CE)
 | ksetd (d k e:CE)
 | dpop0 (d k e:CE)
 | comp (two:Bool) (ix:List Nat) (it c e:CE)
 | compz (two:Bool) (ix:List Nat) (it c e:CE)
 | rng1 (a:CE) | rng2 (a b:CE) | tkeys (a:CE) | dkeys (a:CE)
 | nil | cons (a as:CE)
noncomputable def CE.len:CE->Nat
 | .cons _ as=>as.len+1
 | _=>0
structure FI where
 nm:Str
 np:Nat
 dds:List D
 sp:DSp
structure KI where
 nm:Str
 ks:List Str
 g:List D->List D->List D
 sp:DSp
structure FX where
 nm:Str
 np:Nat
 dds:List D
 sp:DSpX
structure MI where
 cl:Str
 nm:Str
 np:Nat
 sp:DSp
structure TabC where
 fn:Nat->Option FI
 kfn:Nat->Option KI
 con:Nat->Option (Str×D)
 bl:List Str
 fx:Nat->Option FX:=fun _=>none
 cl:CN:=fun _=>none
 isx:Nat->Str->Option Bool:=fun _ _=>none
 lk:List Str:=[]
 mt:Nat->Option MI:=fun _=>none
 ini:Nat->Option MI:=fun _=>none
 fd:List (Str×Str):=[]
structure Tab extends TabC where
 xd:DX:=fun _ _=>False
structure Evs where
 e:DTE
 t:DTT
 a:DTA
 i:DTI
 o:DTO
noncomputable def botE:DTE:=fun _ _ _=>False
noncomputable def botT:DTT:=fun _ _ _=>False
noncomputable def botA:DTA:=fun _ _ _=>False
noncomputable def botI:DTI:=fun _ _ _=>False
noncomputable def botO:DTO:=fun _ _ _=>False
noncomputable def mkE(t:DTE):Evs:=⟨t,dB t,botA,diAny t,zbQ t⟩
noncomputable def zb8:Bool->D->Option (List D)
 | false=>fun d=>some [d]
 | true=>zbt
noncomputable def ev(T:Tab):CE->Evs
 | .var i=>mkE (dVar i)
 | .con l=>mkE (dC l.d)
 | .glob i=>mkE (match T.con i with | some p=>dC p.2 | none=>botE)
 | .bin op a b=>mkE (dOp op.r (ev T a).e (ev T b).e)
 | .cmp op a b=>mkE (dOp op.r (ev T a).e (ev T b).e)
 | .chain o p a b c=>mkE (zaP o.r p.r (ev T a).e (ev T b).e (ev T c).e)
 | .and a b=>{ mkE (zbq (ev T a).e (ev T b).e) with t:=dAnd (ev T a).t (ev T b).t }
 | .or a b=>{ mkE (dOrV (ev T a).e (ev T b).e) with t:=dOr (ev T a).t (ev T b).t }
 | .not a=>{ mkE (dNotV (ev T a).e) with t:=dNot (ev T a).t }
 | .neg a=>mkE (dNeg (ev T a).e)
 | .ite c a b=>{ mkE (dIf (ev T c).t (ev T a).e (ev T b).e) with t:=botT }
 | .ix a b=>mkE (dOp rIxD (ev T a).e (ev T b).e)
 | .sl a lo hi=>mkE (dSl (ev T a).e (ev T lo).o (ev T hi).o)
 | .tup as=>mkE (dTup (ev T as).a)
 | .lst as=>mkE (dLst (ev T as).a)
 | .lstz as=>mkE (zbU (ev T as).a)
 | .frz e=>{ mkE (dFrz (ev T e).e) with t:=botT }
 | .call f as=>mkE (match T.fn f with | some fi=>zbz fi.sp (fi.dds.drop (fi.dds.length-(fi.np-as.len))) (ev T as).a | none=>botE)
 | .blt b as=>mkE (dCB b.r (ev T as).a)
 | .isi y e=>mkE (dIsI y (ev T e).e)
 | .ml m o as=>mkE (dML m.r (ev T o).e (ev T as).a)
 | .fld c f e=>mkE (dFld c f (ev T e).e)
 | .meth f o as=>mkE (match T.mt f with | some mi=>zbo mi.cl mi.nm mi.sp (ev T o).e (ev T as).a | none=>botE)
 | .make f as=>mkE (match T.ini f with | some mi=>zbT mi.cl mi.sp (ev T as).a | none=>botE)
 | .dnew=>mkE zbV
 | .disp1 k v=>mkE (zbe (ev T k).e (ev T v).e)
 | .dix d k=>mkE (dOp rDIx (ev T d).e (ev T k).e)
 | .dget2 d k e=>mkE (zbh (ev T d).e (ev T k).e (ev T e).e)
 | .dget1 d k=>mkE (zbi (ev T d).e (ev T k).e)
 | .dsetd d k e=>mkE (zbf (ev T d).e (ev T k).e (ev T e).e)
 | .knew=>mkE zbR
 | .fzt e=>{ mkE (dFzT (ev T e).e) with t:=botT }
 | .kixf d k=>mkE (dOp zbG (ev T d).e (ev T k).e)
 | .dixf d k=>mkE (dOp zbL (ev T d).e (ev T k).e)
 | .kget2 d k e=>mkE (zbd (ev T d).e (ev T k).e (ev T e).e)
 | .ksetd d k e=>mkE (zbc (ev T d).e (ev T k).e (ev T e).e)
 | .dpop0 d k e=>mkE (zbg (ev T d).e (ev T k).e (ev T e).e)
 | .comp two ix it c e=>mkE (zbp (ev T it).i ix (zb8 two) (ev T c).t (ev T e).e)
 | .compz two ix it c e=>mkE (zaV (ev T it).i ix (zb8 two) (ev T c).t (ev T e).e)
 | .rng1 a=>⟨botE,botT,botA,zbb (zaB (ev T a).e dNil),botO⟩
 | .rng2 a b=>⟨botE,botT,botA,zbv (zaB (ev T a).e (zaB (ev T b).e dNil)),botO⟩
 | .tkeys a=>⟨botE,botT,botA,zb1 (ev T a).e,botO⟩
 | .dkeys a=>⟨botE,botT,botA,zb2 (ev T a).e,botO⟩
 | .nil=>⟨botE,zb3,dNil,botI,zbu⟩
 | .cons a as=>⟨botE,botT,zaB (ev T a).e (ev T as).a,botI,botO⟩
theorem ev_var(T:Tab){i}:ev T (.var i)=(mkE (dVar i)):=rfl
theorem ev_con(T:Tab){l}:ev T (.con l)=(mkE (dC l.d)):=rfl
theorem ev_glob(T:Tab){i}:ev T (.glob i)=(mkE (match T.con i with | some p=>dC p.2 | none=>botE)):=rfl
theorem ev_bin(T:Tab){op}{a}{b}:ev T (.bin op a b)=(mkE (dOp op.r (ev T a).e (ev T b).e)):=rfl
theorem ev_cmp(T:Tab){op}{a}{b}:ev T (.cmp op a b)=(mkE (dOp op.r (ev T a).e (ev T b).e)):=rfl
theorem ev_chain(T:Tab){o}{p}{a}{b}{c}:ev T (.chain o p a b c)=(mkE (zaP o.r p.r (ev T a).e (ev T b).e (ev T c).e)):=rfl
theorem ev_and(T:Tab){a}{b}:ev T (.and a b)=({ mkE (zbq (ev T a).e (ev T b).e) with t:=dAnd (ev T a).t (ev T b).t }):=rfl
theorem ev_or(T:Tab){a}{b}:ev T (.or a b)=({ mkE (dOrV (ev T a).e (ev T b).e) with t:=dOr (ev T a).t (ev T b).t }):=rfl
theorem ev_not(T:Tab){a}:ev T (.not a)=({ mkE (dNotV (ev T a).e) with t:=dNot (ev T a).t }):=rfl
theorem ev_neg(T:Tab){a}:ev T (.neg a)=(mkE (dNeg (ev T a).e)):=rfl
theorem ev_ite(T:Tab){c}{a}{b}:ev T (.ite c a b)=({ mkE (dIf (ev T c).t (ev T a).e (ev T b).e) with t:=botT }):=rfl
theorem ev_ix(T:Tab){a}{b}:ev T (.ix a b)=(mkE (dOp rIxD (ev T a).e (ev T b).e)):=rfl
theorem ev_sl(T:Tab){a}{lo}{hi}:ev T (.sl a lo hi)=(mkE (dSl (ev T a).e (ev T lo).o (ev T hi).o)):=rfl
theorem ev_tup(T:Tab){as}:ev T (.tup as)=(mkE (dTup (ev T as).a)):=rfl
theorem ev_lst(T:Tab){as}:ev T (.lst as)=(mkE (dLst (ev T as).a)):=rfl
theorem ev_lstz(T:Tab){as}:ev T (.lstz as)=(mkE (zbU (ev T as).a)):=rfl
theorem ev_frz(T:Tab){e}:ev T (.frz e)=({ mkE (dFrz (ev T e).e) with t:=botT }):=rfl
theorem ev_call(T:Tab){f}{as}:ev T (.call f as)=(mkE (match T.fn f with | some fi=>zbz fi.sp (fi.dds.drop (fi.dds.length-(fi.np-as.len))) (ev T as).a | none=>botE)):=rfl
theorem ev_blt(T:Tab){b}{as}:ev T (.blt b as)=(mkE (dCB b.r (ev T as).a)):=rfl
theorem ev_isi(T:Tab){y}{e}:ev T (.isi y e)=(mkE (dIsI y (ev T e).e)):=rfl
theorem ev_ml(T:Tab){m}{o}{as}:ev T (.ml m o as)=(mkE (dML m.r (ev T o).e (ev T as).a)):=rfl
theorem ev_fld(T:Tab){c}{f}{e}:ev T (.fld c f e)=(mkE (dFld c f (ev T e).e)):=rfl
theorem ev_meth(T:Tab){f}{o}{as}:ev T (.meth f o as)=(mkE (match T.mt f with | some mi=>zbo mi.cl mi.nm mi.sp (ev T o).e (ev T as).a | none=>botE)):=rfl
theorem ev_make(T:Tab){f}{as}:ev T (.make f as)=(mkE (match T.ini f with | some mi=>zbT mi.cl mi.sp (ev T as).a | none=>botE)):=rfl
theorem ev_dnew(T:Tab):ev T (.dnew)=(mkE zbV):=rfl
theorem ev_disp1(T:Tab){k}{v}:ev T (.disp1 k v)=(mkE (zbe (ev T k).e (ev T v).e)):=rfl
theorem ev_dix(T:Tab){d}{k}:ev T (.dix d k)=(mkE (dOp rDIx (ev T d).e (ev T k).e)):=rfl
theorem ev_dget2(T:Tab){d}{k}{e}:ev T (.dget2 d k e)=(mkE (zbh (ev T d).e (ev T k).e (ev T e).e)):=rfl
theorem ev_dget1(T:Tab){d}{k}:ev T (.dget1 d k)=(mkE (zbi (ev T d).e (ev T k).e)):=rfl
theorem ev_dsetd(T:Tab){d}{k}{e}:ev T (.dsetd d k e)=(mkE (zbf (ev T d).e (ev T k).e (ev T e).e)):=rfl
theorem ev_knew(T:Tab):ev T (.knew)=(mkE zbR):=rfl
theorem ev_fzt(T:Tab){e}:ev T (.fzt e)=({ mkE (dFzT (ev T e).e) with t:=botT }):=rfl
theorem ev_kixf(T:Tab){d}{k}:ev T (.kixf d k)=(mkE (dOp zbG (ev T d).e (ev T k).e)):=rfl
theorem ev_dixf(T:Tab){d}{k}:ev T (.dixf d k)=(mkE (dOp zbL (ev T d).e (ev T k).e)):=rfl
theorem ev_kget2(T:Tab){d}{k}{e}:ev T (.kget2 d k e)=(mkE (zbd (ev T d).e (ev T k).e (ev T e).e)):=rfl
theorem ev_ksetd(T:Tab){d}{k}{e}:ev T (.ksetd d k e)=(mkE (zbc (ev T d).e (ev T k).e (ev T e).e)):=rfl
theorem ev_dpop0(T:Tab){d}{k}{e}:ev T (.dpop0 d k e)=(mkE (zbg (ev T d).e (ev T k).e (ev T e).e)):=rfl
theorem ev_comp(T:Tab){two}{ix}{it}{c}{e}:ev T (.comp two ix it c e)=(mkE (zbp (ev T it).i ix (zb8 two) (ev T c).t (ev T e).e)):=rfl
theorem ev_compz(T:Tab){two}{ix}{it}{c}{e}:ev T (.compz two ix it c e)=(mkE (zaV (ev T it).i ix (zb8 two) (ev T c).t (ev T e).e)):=rfl
theorem ev_rng1(T:Tab){a}:ev T (.rng1 a)=(⟨botE,botT,botA,zbb (zaB (ev T a).e dNil),botO⟩):=rfl
theorem ev_rng2(T:Tab){a}{b}:ev T (.rng2 a b)=(⟨botE,botT,botA,zbv (zaB (ev T a).e (zaB (ev T b).e dNil)),botO⟩):=rfl
theorem ev_tkeys(T:Tab){a}:ev T (.tkeys a)=(⟨botE,botT,botA,zb1 (ev T a).e,botO⟩):=rfl
theorem ev_dkeys(T:Tab){a}:ev T (.dkeys a)=(⟨botE,botT,botA,zb2 (ev T a).e,botO⟩):=rfl
theorem ev_nil(T:Tab):ev T (.nil)=(⟨botE,zb3,dNil,botI,zbu⟩):=rfl
theorem ev_cons(T:Tab){a}{as}:ev T (.cons a as)=(⟨botE,botT,zaB (ev T a).e (ev T as).a,botI,botO⟩):=rfl
structure GI where
 N:List Str
 names:List (Str×NameKind)
noncomputable def GI.kd(g:GI)(x:Str):Option NameKind:=g.names.lookup x
noncomputable def za7:Expr->Bool
 | .Starred _ _=>false
 | _=>true
noncomputable def zaT:Expr->Bool
 | .Set _ _ _=>false
 | _=>true
noncomputable def zaw:Expr->Bool
 | .Slice _ _ _ _=>false
 | _=>true
noncomputable def zar:Expr->Bool
 | .Call (.Name _ _) [] [] _=>false
 | _=>true
noncomputable def zaL(g:GI)(x:Str):Bool:=g.kd x==some .globalImplicit && !(x==("__debug__" : Str)) && !(x==("__name__" : Str))
noncomputable def zby(g:GI)(x:Str):Bool:=(g.kd x==some .local||g.kd x==some .cell||g.kd x==some .free) && !(x==("__debug__" : Str)) && !(x==("__classdict__" : Str))
noncomputable def zaZ(T:TabC)(g:GI)(x:Str):Bool:=zaL g x&&T.bl.contains x
noncomputable def zaX:(x:Expr)->Option { p:Str×Pos×Expr×List Expr×Pos // x=.Call (.Name p.1 p.2.1) (p.2.2.1::p.2.2.2.1) [] p.2.2.2.2 }
 | .Call (.Name f fp) (z::zs) [] p=>some ⟨(f,fp,z,zs,p),rfl⟩
 | _=>none
noncomputable def vNm:(x:Expr)->Option { p:Str×Pos // x=.Name p.1 p.2 }
 | .Name y p=>some ⟨(y,p),rfl⟩
 | _=>none
noncomputable def vCst:(x:Expr)->Option { p:Const×Nat×Pos // x=.Constant p.1 p.2.1 p.2.2 }
 | .Constant k n p=>some ⟨(k,n,p),rfl⟩
 | _=>none
noncomputable def vTup:(x:Expr)->Option { p:List Expr×Nat×Pos // x=.Tuple p.1 p.2.1 p.2.2 }
 | .Tuple es n p=>some ⟨(es,n,p),rfl⟩
 | _=>none
noncomputable def vAdd:(x:Expr)->Option { p:Expr×Expr×Pos // x=.BinOp p.1 .Add p.2.1 p.2.2 }
 | .BinOp a .Add b p=>some ⟨(a,b,p),rfl⟩
 | _=>none
noncomputable def zb7:(x:Expr)->Option { p:Expr×Str×Pos×List Expr×Pos // x=.Call (.Attribute p.1 p.2.1 p.2.2.1) p.2.2.2.1 [] p.2.2.2.2 }
 | .Call (.Attribute z n ap) es [] cp=>some ⟨(z,n,ap,es,cp),rfl⟩
 | _=>none
noncomputable def vCall0:(x:Expr)->Option { p:Str×Pos×Pos // x=.Call (.Name p.1 p.2.1) [] [] p.2.2 }
 | .Call (.Name f fp) [] [] p=>some ⟨(f,fp,p),rfl⟩
 | _=>none
noncomputable def vBin:(x:Expr)->Option { p:Expr×Operator×Expr×Pos // x=.BinOp p.1 p.2.1 p.2.2.1 p.2.2.2 }
 | .BinOp l o r p=>some ⟨(l,o,r,p),rfl⟩
 | _=>none
noncomputable def vCmp:(x:Expr)->Option { p:Expr×CmpOp×Expr×Pos // x=.Compare p.1 [p.2.1] [p.2.2.1] p.2.2.2 }
 | .Compare l [o] [r] p=>some ⟨(l,o,r,p),rfl⟩
 | _=>none
noncomputable def vIfE:(x:Expr)->Option { p:Expr×Expr×Expr×Pos // x=.IfExp p.1 p.2.1 p.2.2.1 p.2.2.2 }
 | .IfExp l o r p=>some ⟨(l,o,r,p),rfl⟩
 | _=>none
noncomputable def vSub:(x:Expr)->Option { p:Expr×Expr×Pos // x=.Subscript p.1 p.2.1 p.2.2 }
 | .Subscript y z p=>some ⟨(y,z,p),rfl⟩
 | _=>none
noncomputable def vSl:(x:Expr)->Option { p:Option Expr×Option Expr×Pos // x=.Slice p.1 p.2.1 none p.2.2 }
 | .Slice l u none p=>some ⟨(l,u,p),rfl⟩
 | _=>none
noncomputable def vNot:(x:Expr)->Option { p:UnaryOp×Expr×Pos // x=.UnaryOp p.1 p.2.1 p.2.2 }
 | .UnaryOp o y p=>some ⟨(o,y,p),rfl⟩
 | _=>none
noncomputable def vLst:(x:Expr)->Option { p:List Expr×Pos // x=.List p.1 p.2 }
 | .List es p=>some ⟨(es,p),rfl⟩
 | _=>none
noncomputable def vAtt:(x:Expr)->Option { p:Expr×Str×Pos // x=.Attribute p.1 p.2.1 p.2.2 }
 | .Attribute z n p=>some ⟨(z,n,p),rfl⟩
 | _=>none
noncomputable def vLc:(x:Expr)->Option { p:Expr×Expr×Expr×List Expr×Scope×Pos // x=.ListComp p.1 [⟨p.2.1,p.2.2.1,p.2.2.2.1,0⟩] p.2.2.2.2.1 p.2.2.2.2.2 }
 | .ListComp elt [⟨tg,iter,ifs,0⟩] scope p=>some ⟨(elt,tg,iter,ifs,scope,p),rfl⟩
 | _=>none
noncomputable def vBo:(x:Expr)->Option { p:PySem.BoolOp×List Expr×Pos // x=.BoolOp p.1 p.2.1 p.2.2 }
 | .BoolOp o vs p=>some ⟨(o,vs,p),rfl⟩
 | _=>none
noncomputable def vD0:(x:Expr)->Option { p:Pos // x=.Dict [] [] p }
 | .Dict [] [] p=>some ⟨p,rfl⟩
 | _=>none
noncomputable def vD1:(x:Expr)->Option { p:Expr×Expr×Pos // x=.Dict [some p.1] [p.2.1] p.2.2 }
 | .Dict [some y] [z] p=>some ⟨(y,z,p),rfl⟩
 | _=>none
noncomputable def vJn:(x:Expr)->Option { p:List Expr×Pos // x=.JoinedStr p.1 p.2 }
 | .JoinedStr es p=>some ⟨(es,p),rfl⟩
 | _=>none
noncomputable def vFm:(x:Expr)->Option { p:Expr×Pos // x=.FormattedValue p.1 (-1) none p.2 }
 | .FormattedValue e c none p=>if h:c = -1 then some ⟨(e,p),by rw[h]⟩ else none
 | _=>none
noncomputable def v1{α:Type}:(xs:List α)->Option { p:α // xs=[p] }
 | [z]=>some ⟨z,rfl⟩
 | _=>none
noncomputable def v2{α:Type}:(xs:List α)->Option { p:α×α // xs=[p.1,p.2] }
 | [z,z']=>some ⟨(z,z'),rfl⟩
 | _=>none
noncomputable def onV{α:Type}{P:α->Prop}(o:Option { p:α // P p })(f:α->Bool):Bool:=match o with
 | some p=>f p.1
 | none=>false
theorem Q0i{α:Type}{P:α->Prop}{o:Option { p:α // P p }}{f:α->Bool}(h:onV o f=true):∃ p,P p/\f p=true:=by
 cases o with
 | none=>cases h
 | some p=>exact⟨p.1,p.2,h⟩
structure Chk where
 e:GI->Expr->Bool
 b:PySem.BoolOp->GI->List Expr->Bool
 a:GI->List Expr->Bool
 i:GI->Expr->Bool
 o:GI->Option Expr->Bool
 c:GI->List Expr->Bool
noncomputable def mkC(f:GI->Expr->Bool):Chk :=
 ⟨f,fun _ g vs=>match vs with | [x]=>f g x | _=>false,fun _ _=>false,f,fun g o=>match o with | some x=>f g x | none=>false,fun g vs=>match vs with | [x]=>f g x | _=>false⟩
noncomputable def zaW(op:PySem.BoolOp)(ca cb:Chk):GI->List Expr->Bool:=fun g vs=>match vs with
 | x::y::r=>ca.e g x&&cb.b op g (y::r)
 | _=>false
noncomputable def zbW(op:PySem.BoolOp)(ca cb:Chk):GI->Expr->Bool:=fun g x=>onV (vBo x) fun c=>c.1==op&&zaW op ca cb g c.2.1
noncomputable def zbA(op:PySem.BoolOp)(ca cb:Chk):PySem.BoolOp->GI->List Expr->Bool:=fun o g vs=>if o=op then zaW op ca cb g vs else match vs with
 | [x]=>zbW op ca cb g x
 | _=>false
noncomputable def zbB:Bool->Expr->Option (List Str)
 | false,e=>(vNm e).bind fun p=>some [p.1.1]
 | true,e=>(vTup e).bind fun t=>(v2 t.1.1).bind fun p=>(vNm p.1.1).bind fun a=>(vNm p.1.2).bind fun b=>some [a.1.1,b.1.1]
noncomputable def zb5(g:GI)(scope:Scope)(N:List Str)(k:Nat)(fn:List Str):Bool :=
 scope.kind==.function&&scope.names.all (fun y=>!(y.2==.cell))&&scope.names.all (fun y=>!(y.2==.local)||scope.names.lookup y.1==some .local)
  && scope.names.all (fun y=>!(y.2==.free)||(g.kd y.1==some .cell||g.kd y.1==some .free))&&decide N.Nodup&&decide (N.drop k=fn)&&decide (N.length=k+fn.length)
  && fn.all (fun y=>(g.kd y==some .cell||g.kd y==some .free)&&scope.names.lookup y==some .free)
noncomputable def zbX(two:Bool)(ix:List Nat)(ci cc ce:Chk):GI->Expr->Bool:=fun g x=>onV (vLc x) fun c=>match zbB two c.2.1 with
 | some ts=>let fn:=ix.filterMap fun i=>g.N[i]?
  zb5 g c.2.2.2.2.1 (ts++fn) ts.length fn&&decide (ix.map (fun i=>g.N[i]?)=fn.map some)&&ts.all (fun y=>c.2.2.2.2.1.names.lookup y==some .local)&&zaT c.2.2.1&&ci.i g c.2.2.1&&cc.c ⟨ts++fn,c.2.2.2.2.1.names⟩ c.2.2.2.1&&ce.e ⟨ts++fn,c.2.2.2.2.1.names⟩ c.1
 | none=>false
noncomputable def ckR1(T:TabC)(nm:Str)(f:GI->Expr->Bool)(g:GI)(x:Expr):Bool:=onV (zaX x) fun c=>c.2.2.2.1.isEmpty&&zaZ T g c.1&&c.1==nm&&za7 c.2.2.1&&f g c.2.2.1
noncomputable def ckR2(T:TabC)(f f':GI->Expr->Bool)(g:GI)(x:Expr):Bool:=onV (zaX x) fun c=>onV (v1 c.2.2.2.1) fun d=>zaZ T g c.1&&c.1==("range" : Str)&&za7 c.2.2.1&&za7 d&&f g c.2.2.1&&f' g d
noncomputable def ckEn(T:TabC)(f:GI->Expr->Bool)(g:GI)(x:Expr):Bool:=onV (zaX x) fun c=>onV (v1 c.2.2.2.1) fun d=>onV (vCst d) fun n=>zaZ T g c.1&&c.1==("enumerate" : Str)&&za7 c.2.2.1&&(Lit.int 1).ck n.1&&f g c.2.2.1
noncomputable def ckF1(g:GI)(e:Expr):FP->Bool
 | .lit w=>onV (vCst e) fun c=>(Lit.str w).ck c.1
 | .var i=>onV (vFm e) fun c=>onV (vNm c.1) fun n=>g.N[i]? == some n.1&&zby g n.1
noncomputable def ckF(g:GI):List FP->List Expr->Bool
 | [],es=>es.isEmpty
 | p::ps,es=>match es with
  | e::es=>ckF1 g e p&&ckF g ps es
  | []=>false
noncomputable def chkC(T:TabC):CE->Chk
 | .var i=>mkC fun g x=>onV (vNm x) fun c=>g.N[i]? == some c.1&&zby g c.1
 | .con l=>mkC fun _ x=>onV (vCst x) fun c=>l.ck c.1
 | .glob i=>mkC fun g x=>onV (vNm x) fun c=>zaL g c.1&&(match T.con i with | some p=>p.1==c.1 | none=>false)
 | .bin op a b=>mkC fun g x=>onV (vBin x) fun c=>c.2.1==op.op&&(chkC T a).e g c.1&&(chkC T b).e g c.2.2.1
 | .cmp op a b=>mkC fun g x=>onV (vCmp x) fun c=>c.2.1==op.op&&zaT c.2.2.1&&(chkC T a).e g c.1&&(chkC T b).e g c.2.2.1
 | .chain o p a b c=>mkC fun g x=>match x with
  | .Compare l [q,q'] [r,r'] _=>q==o.op&&q'==p.op&&zaT r'&&(chkC T a).e g l&&(chkC T b).e g r&&(chkC T c).e g r'
  | _=>false
 | .and a b=>{ mkC (zbW .And (chkC T a) (chkC T b)) with b:=zbA .And (chkC T a) (chkC T b) }
 | .or a b=>{ mkC (zbW .Or (chkC T a) (chkC T b)) with b:=zbA .Or (chkC T a) (chkC T b) }
 | .not a=>mkC fun g x=>onV (vNot x) fun c=>c.1==.Not&&(chkC T a).e g c.2.1
 | .neg a=>mkC fun g x=>onV (vNot x) fun c=>c.1==.USub&&(chkC T a).e g c.2.1
 | .ite c a b=>mkC fun g x=>onV (vIfE x) fun t=>(chkC T c).e g t.1&&(chkC T a).e g t.2.1&&(chkC T b).e g t.2.2.1
 | .ix a b=>mkC fun g x=>onV (vSub x) fun c=>zaw c.2.1&&(chkC T a).e g c.1&&(chkC T b).e g c.2.1
 | .sl a lo hi=>mkC fun g x=>onV (vSub x) fun c=>onV (vSl c.2.1) fun s=>(chkC T a).e g c.1&&(chkC T lo).o g s.1&&(chkC T hi).o g s.2.1
 | .tup as=>mkC fun g x=>onV (vTup x) fun c=>(chkC T as).a g c.1
 | .lst as=>mkC fun g x=>onV (vLst x) fun c=>(chkC T as).a g c.1
 | .lstz as=>mkC fun g x=>onV (vLst x) fun c=>(chkC T as).a g c.1
 | .frz e=>mkC fun g x=>(chkC T e).e g x
 | .call f as=>mkC fun g x=>onV (zaX x) fun c=>match T.fn f with
  | some fi=>zaL g c.1&&c.1==fi.nm&&decide (as.len<=fi.np)&&decide (fi.np-as.len<=fi.dds.length)&&(chkC T as).a g (c.2.2.1::c.2.2.2.1)
  | none=>false
 | .blt b as=>mkC fun g x=>onV (zaX x) fun c=>zaZ T g c.1&&c.1==b.nm&&(chkC T as).a g (c.2.2.1::c.2.2.2.1)
 | .isi ty e=>mkC fun g x=>onV (zaX x) fun c=>onV (v1 c.2.2.2.1) fun d=>onV (vNm d) fun m=>zaZ T g c.1&&c.1==("isinstance" : Str)&&zaZ T g m.1&&(m.1==(Str.ofString ty.nm)) && !(ty==.non)&&za7 c.2.2.1&&(chkC T e).e g c.2.2.1
 | .ml m o as=>mkC fun g x=>onV (zb7 x) fun c=>c.2.1==m.nm&&(c.2.2.1.endLine==c.2.2.2.2.line)&&zar c.1&&(chkC T o).e g c.1&&(chkC T as).a g c.2.2.2.1&&decide (c.2.2.2.1.length<30)
 | .fld c f e=>mkC fun g x=>onV (vAtt x) fun a=>a.2.1==f&&T.fd.contains (c,f)&&zar a.1&&(chkC T e).e g a.1
 | .meth f o as=>mkC fun g x=>onV (zb7 x) fun c=>match T.mt f with
  | some mi=>c.2.1==mi.nm&&(c.2.2.1.endLine==c.2.2.2.2.line)&&zar c.1&&(chkC T o).e g c.1&&(chkC T as).a g c.2.2.2.1&&decide (c.2.2.2.1.length<30)
  | none=>false
 | .make f as=>mkC fun g x=>onV (zaX x) fun c=>match T.ini f with
  | some mi=>zaL g c.1&&c.1==mi.cl&&(chkC T as).a g (c.2.2.1::c.2.2.2.1)
  | none=>false
 | .dnew=>mkC fun _ x=>onV (vD0 x) fun _=>true
 | .disp1 k v=>mkC fun g x=>onV (vD1 x) fun c=>(chkC T k).e g c.1&&(chkC T v).e g c.2.1
 | .dix a b=>mkC fun g x=>onV (vSub x) fun c=>zaw c.2.1&&(chkC T a).e g c.1&&(chkC T b).e g c.2.1
 | .dget2 d k e=>mkC fun g x=>onV (zb7 x) fun c=>onV (v2 c.2.2.2.1) fun a=>c.2.1==("get" : Str)&&(c.2.2.1.endLine==c.2.2.2.2.line)&&zar c.1&&za7 a.1&&za7 a.2&&(chkC T d).e g c.1&&(chkC T k).e g a.1&&(chkC T e).e g a.2
 | .dsetd d k e=>mkC fun g x=>onV (zb7 x) fun c=>onV (v2 c.2.2.2.1) fun a=>c.2.1==("setdefault" : Str)&&(c.2.2.1.endLine==c.2.2.2.2.line)&&zar c.1&&za7 a.1&&za7 a.2&&(chkC T d).e g c.1&&(chkC T k).e g a.1&&(chkC T e).e g a.2
 | .dpop0 d k e=>mkC fun g x=>onV (zb7 x) fun c=>onV (v2 c.2.2.2.1) fun a=>c.2.1==("pop" : Str)&&(c.2.2.1.endLine==c.2.2.2.2.line)&&zar c.1&&za7 a.1&&za7 a.2&&(chkC T d).e g c.1&&(chkC T k).e g a.1&&(chkC T e).e g a.2
 | .ksetd d k e=>mkC fun g x=>onV (zb7 x) fun c=>onV (v2 c.2.2.2.1) fun a=>c.2.1==("setdefault" : Str)&&(c.2.2.1.endLine==c.2.2.2.2.line)&&zar c.1&&za7 a.1&&za7 a.2&&(chkC T d).e g c.1&&(chkC T k).e g a.1&&(chkC T e).e g a.2
 | .dget1 d k=>mkC fun g x=>onV (zb7 x) fun c=>onV (v1 c.2.2.2.1) fun a=>c.2.1==("get" : Str)&&(c.2.2.1.endLine==c.2.2.2.2.line)&&zar c.1&&za7 a&&(chkC T d).e g c.1&&(chkC T k).e g a
 | .knew=>mkC fun _ x=>onV (vD0 x) fun _=>true
 | .fzt e=>mkC fun g x=>(chkC T e).e g x
 | .kixf a b=>mkC fun g x=>onV (vSub x) fun c=>zaw c.2.1&&(chkC T a).e g c.1&&(chkC T b).e g c.2.1
 | .dixf a b=>mkC fun g x=>onV (vSub x) fun c=>zaw c.2.1&&(chkC T a).e g c.1&&(chkC T b).e g c.2.1
 | .kget2 d k e=>mkC fun g x=>onV (zb7 x) fun c=>onV (v2 c.2.2.2.1) fun a=>c.2.1==("get" : Str)&&(c.2.2.1.endLine==c.2.2.2.2.line)&&zar c.1&&za7 a.1&&za7 a.2&&(chkC T d).e g c.1&&(chkC T k).e g a.1&&(chkC T e).e g a.2
 | .comp two ix it c e=>mkC (zbX two ix (chkC T it) (chkC T c) (chkC T e))
 | .compz two ix it c e=>mkC (zbX two ix (chkC T it) (chkC T c) (chkC T e))
 | .rng1 a=>{ (mkC fun _ _=>false) with
   i:=ckR1 T "range" (chkC T a).e }
 | .rng2 a b=>{ (mkC fun _ _=>false) with
   i:=ckR2 T (chkC T a).e (chkC T b).e }
 | .tkeys a=>{ (mkC fun _ _=>false) with
   i:=fun g x=>(chkC T a).e g x }
 | .dkeys a=>{ (mkC fun _ _=>false) with
   i:=fun g x=>(chkC T a).e g x }
 | .nil=>⟨fun _ _=>false,fun _ _ _=>false,fun _ es=>es.isEmpty,fun _ _=>false,fun _ o=>o.isNone,fun _ es=>es.isEmpty⟩
 | .cons a as=>⟨fun _ _=>false,fun _ _ _=>false,fun g es=>match es with | x::r=>za7 x&&(chkC T a).e g x&&(chkC T as).a g r | []=>false,fun _ _=>false,fun _ _=>false,fun _ _=>false⟩
noncomputable abbrev chk(T:Tab)(c:CE):Chk:=chkC T.toTabC c
structure FRel(X:Cx)(fi:FI):Prop where
 ex:∃ (k:Nat) (f:Addr) (fd:FuncData) (ps:List Str),FnOk X.prog X.w X.K X.mg X.base CX0 k f fd ps (lSp X.K fi.sp)/\Room k X.A/\X.mg fi.nm=some (.ref f)/\keepIn X.K (.ref f)=true/\ps.length=fi.np /\
  ∀ j,j<=fi.dds.length->∃ (ds:List Value) (dvs:List V),Binds X.K fd ps ds/\Vals dvs ds/\∀ H,Dens X.K H (fi.dds.drop j) dvs
structure KRel(X:Cx)(ki:KI):Prop where
 ex:∃ (k:Nat) (f:Addr) (fd:FuncData) (ps:List Str) (gv:List Value->List Value->List Value) (gV:List V->List V->List V),FnOk X.prog X.w X.K X.mg X.base CX0 k f fd ps (lSp X.K ki.sp)/\Room k X.A/\X.mg ki.nm=some (.ref f)/\keepIn X.K (.ref f)=true /\
  zc0 X.K fd ps ki.ks gv gV/\∀ H ds vs zs ws,Dens X.K H ds vs->Dens X.K H zs ws->Dens X.K H (ki.g ds zs) (gV vs ws)
structure XFRel(X:Cx)(cn:CN)(fi:FX):Prop where
 ex:∃ (k:Nat) (f:Addr) (fd:FuncData) (ps:List Str),FnOk X.prog X.w X.K X.mg X.base (CX1 X.prog X.w) k f fd ps (lSpX X.K X.mg cn fi.sp)/\Room k X.A/\X.mg fi.nm=some (.ref f)/\keepIn X.K (.ref f)=true/\ps.length=fi.np /\
  ∀ j,j<=fi.dds.length->∃ (ds:List Value) (dvs:List V),Binds X.K fd ps ds/\Vals dvs ds/\∀ H,Dens X.K H (fi.dds.drop j) dvs
noncomputable def IsxOk(K:Frag)(mg:Str->Option Value)(cl:CN)(c:Nat)(nm:Str)(b:Bool):Prop :=
 ∃ (x:Str) (C:Addr) (u:Value) (v:V),cl c=some x/\mg x=some (.ref C)/\XLook K C/\(mg nm=some u\/(mg nm=none/\bootBuiltins nm=some u))/\L2.RelV v u/\(∀ u',L2.RelV v u'->u'=u)/\kitOne K (.ref C) u=some b
structure MRel(X:Cx)(mi:MI):Prop where
 ex:∃ (k:Nat) (C f:Addr) (fd:FuncData) (ps:List Str),nsIn X.K mainGlobals mi.cl=some (some (.ref C))/\Cls X.K C/\Meth X.K C mi.nm f/\FnOk X.prog X.w X.K X.mg X.base CX0 k f fd ps (lSp X.K mi.sp)/\Room (k+1) X.A/\Binds X.K fd ps []
structure MkRel(X:Cx)(mi:MI):Prop where
 ex:∃ (k:Nat) (C f:Addr) (fd:FuncData) (ps:List Str),nsIn X.K mainGlobals mi.cl=some (some (.ref C))/\X.mg mi.cl=some (.ref C)/\Mk X.K C f/\FnOk X.prog X.w X.K X.mg X.base CX0 k f fd ps (lSp X.K mi.sp)/\Room (k+1) X.A/\Binds X.K fd ps []
noncomputable def FdOk(K:Frag)(c f:Str):Prop:=∃ C,nsIn K mainGlobals c=some (some (.ref C))/\Cls K C/\NoAttr K C f
structure Rel(X:Cx)(T:Tab)(g:GI):Prop where
 N:X.N=g.N
 nd:g.N.Nodup
 calm:X.calm=true
 gl:∀ x,g.kd x=some .globalImplicit->X.env.scope.names.lookup x=some .globalImplicit
 lc:∀ x,g.kd x=some .local->X.env.scope.names.lookup x=some .local
 cf:∀ x,(g.kd x=some .cell\/g.kd x=some .free)->(X.env.scope.names.lookup x=some .cell\/X.env.scope.names.lookup x=some .free)
 fns:∀ f fi,T.fn f=some fi->FRel X fi
 kfs:∀ f ki,T.kfn f=some ki->KRel X ki
 fxs:∀ f fi,T.fx f=some fi->XFRel X T.cl fi
 cls:∀ c x,T.cl c=some x->∃ C,X.mg x=some (.ref C)/\XCls X.K C
 tk:zai X fun cls _ H=>lX X.K X.mg T.cl T.xd cls H
 tp:Top X
 con:∀ i p,T.con i=some p->∃ u v,X.mg p.1=some u/\L2.RelV v u/\∀ H,Den X.K H p.2 v
 nob:∀ x∈T.bl,X.mg x=none
 isx:∀ c nm b,T.isx c nm=some b->IsxOk X.K X.mg T.cl c nm b
 lks:∀ x∈T.lk,∃ C,X.mg x=some (.ref C)/\XLook X.K C
 mts:∀ f mi,T.mt f=some mi->MRel X mi
 mks:∀ f mi,T.ini f=some mi->MkRel X mi
 fds:∀ p∈T.fd,FdOk X.K p.1 p.2
 un:X.A.units+100<cLine
section
variable{X:Cx}{T:Tab}{g:GI}{e:Expr}{es:List Expr}{env:Env}
theorem Q0h(h:za7 e=true):starEach (e::es) env=(false,eval e env)::starEach es env:=by
 cases e <;> first | rfl | cases h
theorem Q0n:∀ {es:List Expr},es.all za7=true->(backTo pos (starEach es env)).any (·.1)=false
 | [],_=>rfl
 | e::r,h=>by
  rw[ZU,Zh]at h;rw[Q0h h.1];have ih:=Q0n (pos:=pos) h.2;unfold backTo at ih ⊢;simp only[Z6,any_cons,ih,Bool.false_or]
theorem Q4x:∀ {es:List Expr},es.all za7=true->(backTo pos (starEach es env)).all (fun x=>!x.1)=true
 | [],_=>rfl
 | e::r,h=>by
  rw[ZU,Zh]at h;rw[Q0h h.1];have ih:=Q4x (pos:=pos) h.2;unfold backTo at ih ⊢;simp only[Z6,ZU,ih,Bool.not_false,Bool.true_and]
theorem Q0B(h:zar e=true):attributeBase e n env (eval e env)=eval e env:=by
 unfold attributeBase;split
 ·rename_i q;cases q;cases h
 ·rfl
theorem Q1G(h:zaT e=true):behindInMarks op e=false:=by
 cases e <;> first | rfl | cases h
theorem Q2P(h:zaT e=true)(x:Value):foldedSetIterable e env x=pure x:=by
 cases e <;> first | rfl | cases h
theorem Q3V(h:zaw e=true):zbs e:=by
 intro o i;cases e <;> first | rfl | cases h
theorem Rel.glob(R:Rel X T g)(h:zaL g x=true):Gl X x/\(x==("__debug__" : Str))=false/\x ≠ "__name__":=by
 unfold zaL at h;simp only[Zh,Zx,not_eq_true']at h;refine⟨R.gl x h.1.1,h.1.2,fun e=>?_⟩;have q:=h.2;rw[e]at q;simp at q
theorem Rel.blt(R:Rel X T g)(h:zaZ T.toTabC g x=true):Gl X x/\(x==("__debug__" : Str))=false/\x ≠ "__name__" /\ X.mg x=none:=by
 unfold zaZ at h;rw[Zh]at h;obtain⟨a,b,c⟩:=R.glob h.1;exact⟨a,b,c,R.nob x (by simpa using h.2)⟩
theorem Rel.vis(R:Rel X T g)(h:zby g x=true):Vis X.env.scope x/\(x==("__debug__" : Str))=false/\(x==("__classdict__" : Str))=false:=by
 unfold zby at h;simp only[Zh,or_eq_true,Zx,not_eq_true']at h;refine⟨?_,h.1.2,h.2⟩;rcases h.1.1 with (h | h) | h
 ·exact .inl (R.lc x h)
 ·rcases R.cf x (.inl h) with q | q
  ·exact .inr (.inl q)
  ·exact .inr (.inr q)
 ·rcases R.cf x (.inr h) with q | q
  ·exact .inr (.inl q)
  ·exact .inr (.inr q)
theorem Q0I{env:Env}{k:NameKind}(hk:k≠.free):∀ {names:List (Str×NameKind)} {x:Str},names.lookup x=some k ->
  (names.map fun(n,k)=>if (k==NameKind.free&&env.scope.kind==.function&&env.kindOf n==some .cell) then (n,NameKind.cell) else (n,k)).lookup x=some k
 | [],_,h=>by simp at h
 | (n,j)::r,x,h=>by
  have ih:=@Q0I env k hk r x;rw[Z6];dsimp only;rw[ZK]at h;by_cases hx:x=n
  ·subst hx;simp only[beq_self_eq_true]at h;cases h;have hc:¬ (k==NameKind.free&&env.scope.kind==.function&&env.kindOf x==some .cell)=true:=by
    intro q;simp only[Zh,Zx]at q;exact hk q.1.1
   rw[Zc hc];simp[ZK]
  ·have hne:(x==n)=false:=by simpa using hx
   rw[hne]at h;have ih':=ih h;by_cases hc:(j==NameKind.free&&env.scope.kind==.function&&env.kindOf n==some .cell)=true
   ·rw[Zg hc];simp only[ZK,hne];exact ih'
   ·rw[Zc hc];simp only[ZK,hne];exact ih'
theorem Q3y(R:Rel X T g)(h:zb5 g scope N k fn=true):zav X.env.scope scope N k fn:=by
 unfold zb5 at h;simp only[Zh,Zx,ZN,not_eq_true',or_eq_true,Ze,Ye,ne_eq]at h;obtain⟨⟨⟨⟨⟨⟨⟨h1,h2⟩,h3⟩,h4⟩,h5⟩,h6⟩,h7⟩,h8⟩:=h;refine⟨h1,fun y hy=>h2 y hy,fun y hy e=>?_,fun y hy e=>?_,h5,h6,h7,fun y hy=>?_⟩
 ·rcases h3 y hy with q | q
  ·exact absurd e q
  ·exact q
 ·rcases h4 y hy with q | q
  ·exact absurd e q
  ·exact R.cf y.1 q
 ·exact⟨R.cf y (h8 y hy).1,(h8 y hy).2⟩
theorem Rel.comp(R:Rel X T g){scope:Scope}{N fn:List Str}{k:Nat}(h:zb5 g scope N k fn=true)(cl:List (Str×Addr))(C:Addr)(s₀:Shared)(H₀:Hp)(ex:List Addr)(E:Value->Shared->Prop)(hE:zai (za2 X scope N cl C s₀ H₀ ex E) fun cls _ H=>lX X.K X.mg T.cl T.xd cls H):Rel (za2 X scope N cl C s₀ H₀ ex E) T ⟨N,scope.names⟩ where
 N:=rfl
 nd:=(Q3y R h).nd
 calm:=R.calm
 gl:=fun x e=>Q0I (k:=.globalImplicit) (by decide) e
 lc:=fun x e=>Q0I (k:=.local) (by decide) e
 cf:=fun x e=>by
  rcases e with e | e
  ·exact .inl (Q0I (k:=.cell) (by decide) e)
  ·exact Q1i e
 fns:=fun f fi e=>⟨(R.fns f fi e).ex⟩
 kfs:=fun f ki e=>⟨(R.kfs f ki e).ex⟩
 fxs:=fun f fi e=>⟨(R.fxs f fi e).ex⟩
 cls:=R.cls
 tk:=hE
 tp:=⟨R.tp.ex⟩
 con:=R.con
 nob:=R.nob
 isx:=R.isx
 lks:=R.lks
 mts:=fun f mi e=>⟨(R.mts f mi e).ex⟩
 mks:=fun f mi e=>⟨(R.mks f mi e).ex⟩
 fds:=R.fds
 un:=R.un
end
structure Snd(T:Tab)(c:CE):Prop where
 e:∀ {X:Cx} {g:GI},Rel X T g->∀ {x:Expr},(chk T c).e g x=true->DE X x (ev T c).e
 t:∀ {X:Cx} {g:GI},Rel X T g->∀ {x:Expr},(chk T c).e g x=true->DT X x (ev T c).t
 be:∀ {X:Cx} {g:GI},Rel X T g->∀ {op:PySem.BoolOp} {vs:List Expr} {pos:Pos},(chk T c).b op g vs=true->DE X (.BoolOp op vs pos) (ev T c).e
 bt:∀ {X:Cx} {g:GI},Rel X T g->∀ {op:PySem.BoolOp} {vs:List Expr} {pos:Pos},(chk T c).b op g vs=true->DW X (.BoolOp op vs pos) (ev T c).t
 a:∀ {X:Cx} {g:GI},Rel X T g->∀ {es:List Expr},(chk T c).a g es=true->DA X es (ev T c).a/\es.all za7=true/\es.length=c.len
 i:∀ {X:Cx} {g:GI},Rel X T g->∀ {x tg:Expr},(chk T c).i g x=true->DI X tg x (ev T c).i
 o:∀ {X:Cx} {g:GI},Rel X T g->∀ {x:Option Expr},(chk T c).o g x=true->DO X x (ev T c).o
 k:∀ {X:Cx} {g:GI},Rel X T g->∀ {kws:List Keyword},(chk T c).a g (kws.map (·.value))=true->DKw X kws (ev T c).a
 c:∀ {X:Cx} {g:GI},Rel X T g->∀ {xs:List Expr},(chk T c).c g xs=true->DIfs X xs (ev T c).t
section
variable{T:Tab}{c:CE}{f:GI->Expr->Bool}{t:DTE}{u:DTT}
theorem Q5Y:DT X x botT:=fun _ _ _ _ _ _ ⟨_,_,_,_,_,h,_⟩=>h.elim
theorem Q5Z(h:DT X x u):DW X (.BoolOp op [x] pos) u:=by
 cases op
 ·exact Q9n h
 ·exact Qb3 h
theorem Snd.of(hc:chk T c=mkC f)(hv:ev T c={ mkE t with t:=u })(h:∀ {X:Cx} {g:GI},Rel X T g->∀ {x:Expr},f g x=true->DE X x t/\DT X x u):Snd T c where
 e:=fun R x q=>by rw[hc]at q;rw[hv];exact (h R q).1
 t:=fun R x q=>by rw[hc]at q;rw[hv];exact (h R q).2
 be:=fun{X g} R {op vs pos} q=>by
  rw[hc]at q;rw[hv]
  match vs,q with
  | [x],q=>exact Q5D (h R (show f g x=true from q)).1
 bt:=fun{X g} R {op vs pos} q=>by
  rw[hc]at q;rw[hv]
  match vs,q with
  | [x],q=>exact Q5Z (h R (show f g x=true from q)).2
 a:=fun R es q=>by rw[hc]at q;cases q
 k:=fun R kws q=>by rw[hc]at q;cases q
 i:=fun{X g} R {x tg} q=>by
  rw[hc]at q;rw[hv];exact Q5L (h R (show f g x=true from q)).1
 o:=fun{X g} R {x} q=>by
  rw[hc]at q;rw[hv]
  match x,q with
  | some x,q=>exact Q3R (h R (show f g x=true from q)).1
 c:=fun{X g} R {xs} q=>by
  rw[hc]at q;rw[hv]
  match xs,q with
  | [x],q=>exact Q2K (h R (show f g x=true from q)).2
end
section
variable{T:Tab}{X:Cx}{g:GI}{x:Expr}
theorem dtv(h:DE X x t)(he:∀ whole,isTrue x X.env whole=(do let v <- whole;standAt x.pos;holding [v] (truthy v))):DE X x t/\DT X x (dB t):=⟨h,Qb1 h he⟩
theorem Q9Y:Snd T (.var i):=by
 refine Snd.of (u:=dB (dVar i)) rfl rfl fun{X g} R {x} q=>?_;have qv:=Q0i q;clear q;obtain⟨⟨y,p⟩,rfl,q⟩:=qv;dsimp only at q ⊢;rw[Zh,Zx]at q;obtain⟨v1,v2,v3⟩:=R.vis q.2;exact dtv (dv i (by rw[R.N];exact q.1) v1 v2 v3) fun _=>rfl
theorem Q9Z:Snd T (.con l):=by
 refine Snd.of (u:=dB (dC l.d)) rfl rfl fun{X g} R {x} q=>?_;have qv:=Q0i q;clear q;obtain⟨⟨c,k,p⟩,rfl,q⟩:=qv;dsimp only at q ⊢;refine dtv ?_ fun _=>rfl;cases l with
 | non=>cases c <;> first | exact QaY | cases q
 | bl b=>cases c <;> first | cases q | skip
         rename_i c';have q':b=c':=by simpa[Lit.ck]using q
         subst q';exact de_bl
 | int b=>cases c <;> first | cases q | skip
          rename_i c';have q':b=c':=by simpa[Lit.ck]using q
          subst q';exact QaX
 | str b=>cases c <;> first | cases q | skip
          rename_i y;unfold Lit.ck at q;rw[Zh,Zx]at q;obtain⟨q1,q2⟩:=q;subst q1;exact QaZ q2
theorem Q7O:Snd T (.glob i):=by
 refine Snd.of (u:=dB (match T.con i with | some p=>dC p.2 | none=>botE)) rfl rfl fun{X g} R {x} q=>?_
 have qv:=Q0i q;clear q;obtain⟨⟨y,p⟩,rfl,q⟩:=qv;dsimp only at q ⊢;rw[Zh]at q;obtain⟨q1,q2⟩:=q;refine dtv ?_ fun _=>rfl;cases e:T.con i with
 | none=>rw[e]at q2;cases q2
 | some p =>
  rw[e]at q2;have q3:p.1=y:=by simpa using q2
  subst q3;obtain⟨u,v,h1,h2,h3⟩:=R.con i p e;obtain⟨g1,g2,g3⟩:=R.glob q1;exact Q9m g1 h1 h2 h3 g2
theorem Qa0(ha:Snd T a)(hb:Snd T b):Snd T (.bin op a b):=by
 refine Snd.of (u:=dB (dOp op.r (ev T a).e (ev T b).e)) rfl rfl fun{X g} R {x} q=>?_;have qv:=Q0i q;clear q;obtain⟨⟨l,o,r,p⟩,rfl,q⟩:=qv;dsimp only at q ⊢;simp only[Zh,Zx]at q;obtain⟨⟨rfl,q1⟩,q2⟩:=q;exact dtv (de_op (Bn.ok op) (ha.e R q1) (hb.e R q2)) fun _=>rfl
theorem Qa1(ha:Snd T a)(hb:Snd T b):Snd T (.cmp op a b):=by
 refine Snd.of (u:=dB (dOp op.r (ev T a).e (ev T b).e)) rfl rfl fun{X g} R {x} q=>?_;have qv:=Q0i q;clear q;obtain⟨⟨l,o,r,p⟩,rfl,q⟩:=qv;dsimp only at q ⊢;simp only[Zh,Zx]at q;obtain⟨⟨⟨rfl,q0⟩,q1⟩,q2⟩:=q;exact⟨Qb0 (Cp.ok R.un op) (ha.e R q1) (hb.e R q2) (Q1G q0),Qb2 (Cp.ok R.un op) (ha.e R q1) (hb.e R q2) (Q1G q0)⟩
theorem Q6a(ha:Snd T a)(hb:Snd T b)(hc:Snd T c):Snd T (.chain o p a b c):=by
 refine Snd.of (u:=dB (zaP o.r p.r (ev T a).e (ev T b).e (ev T c).e)) rfl rfl fun{X g} R {x} q=>?_;split at q
 ·rename_i l q1 q1' r r' pp;simp only[Zh,Zx]at q;obtain⟨⟨⟨⟨⟨rfl,rfl⟩,q0⟩,q1⟩,q2⟩,q3⟩:=q;exact⟨Q7r (Cp.ok R.un o) (Cp.ok R.un p) (ha.e R q1) (hb.e R q2) (hc.e R q3) (show behindInMarks _ _=false from Q1G q0),
   Q7s (Cp.ok R.un o) (Cp.ok R.un p) (ha.e R q1) (hb.e R q2) (hc.e R q3) (show behindInMarks _ _=false from Q1G q0)⟩
 ·cases q
theorem Q4y(ha:Snd T a)(hb:Snd T b)(R:Rel X T g)(q:zaW .And (chk T a) (chk T b) g vs=true) :
  DE X (.BoolOp .And vs pos) (zbq (ev T a).e (ev T b).e)/\DW X (.BoolOp .And vs pos) (dAnd (ev T a).t (ev T b).t):=by
 unfold zaW at q;split at q
 ·rw[Zh]at q;exact⟨Qb6 (ha.e R q.1) (hb.be R q.2),Qb4 (ha.t R q.1) (hb.bt R q.2)⟩
 ·cases q
theorem Q6b(ha:Snd T a)(hb:Snd T b)(R:Rel X T g)(q:zaW .Or (chk T a) (chk T b) g vs=true) :
  DE X (.BoolOp .Or vs pos) (dOrV (ev T a).e (ev T b).e)/\DW X (.BoolOp .Or vs pos) (dOr (ev T a).t (ev T b).t):=by
 unfold zaW at q;split at q
 ·rw[Zh]at q;exact⟨de_or (ha.e R q.1) (hb.be R q.2),dw_or (ha.t R q.1) (hb.bt R q.2)⟩
 ·cases q
theorem Qa2(ha:Snd T a)(hb:Snd T b):Snd T (.and a b):=by
 have base:∀ {X:Cx} {g:GI},Rel X T g->∀ {x:Expr},zbW .And (chk T a) (chk T b) g x=true->DE X x (zbq (ev T a).e (ev T b).e)/\DT X x (dAnd (ev T a).t (ev T b).t):=fun{X g} R {x} q=>by
  have qv:=Q0i q;clear q;obtain⟨⟨o,vs,p⟩,rfl,q⟩:=qv;dsimp only at q ⊢;rw[Zh,Zx]at q;obtain⟨rfl,q⟩:=q;obtain⟨h1,h2⟩:=Q4y ha hb R (pos:=_) q;exact⟨h1,h2.dt⟩
 have bs:∀ {X:Cx} {g:GI},Rel X T g->∀ {op:PySem.BoolOp} {vs:List Expr} {pos:Pos},zbA .And (chk T a) (chk T b) op g vs=true->DE X (.BoolOp op vs pos) (zbq (ev T a).e (ev T b).e)/\DW X (.BoolOp op vs pos) (dAnd (ev T a).t (ev T b).t):=fun{X g} R {op vs pos} q=>by
  unfold zbA at q;split at q
  ·rename_i e;subst e;exact Q4y ha hb R q
  ·split at q
   ·obtain⟨h1,h2⟩:=base R q;exact⟨Q5D h1,Q5Z h2⟩
   ·cases q
 exact {
  e:=fun R _ q=>(base R q).1
  t:=fun R _ q=>(base R q).2
  be:=fun R _ _ _ q=>(bs R q).1
  bt:=fun R _ _ _ q=>(bs R q).2
  a:=fun R _ q=>nomatch q
  k:=fun R _ q=>nomatch q
  i:=fun R _ _ q=>Q5L (base R q).1
  o:=fun{X g} R {x} q=>by match x,q with | some x,q=>exact Q3R (base R q).1
  c:=fun{X g} R {xs} q=>by match xs,q with | [x],q=>exact Q2K (base R q).2 }
theorem QbG(ha:Snd T a)(hb:Snd T b):Snd T (.or a b):=by
 have base:∀ {X:Cx} {g:GI},Rel X T g->∀ {x:Expr},zbW .Or (chk T a) (chk T b) g x=true->DE X x (dOrV (ev T a).e (ev T b).e)/\DT X x (dOr (ev T a).t (ev T b).t):=fun{X g} R {x} q=>by
  have qv:=Q0i q;clear q;obtain⟨⟨o,vs,p⟩,rfl,q⟩:=qv;dsimp only at q ⊢;rw[Zh,Zx]at q;obtain⟨rfl,q⟩:=q;obtain⟨h1,h2⟩:=Q6b ha hb R (pos:=_) q;exact⟨h1,h2.dt⟩
 have bs:∀ {X:Cx} {g:GI},Rel X T g->∀ {op:PySem.BoolOp} {vs:List Expr} {pos:Pos},zbA .Or (chk T a) (chk T b) op g vs=true->DE X (.BoolOp op vs pos) (dOrV (ev T a).e (ev T b).e)/\DW X (.BoolOp op vs pos) (dOr (ev T a).t (ev T b).t):=fun{X g} R {op vs pos} q=>by
  unfold zbA at q;split at q
  ·rename_i e;subst e;exact Q6b ha hb R q
  ·split at q
   ·obtain⟨h1,h2⟩:=base R q;exact⟨Q5D h1,Q5Z h2⟩
   ·cases q
 exact {
  e:=fun R _ q=>(base R q).1
  t:=fun R _ q=>(base R q).2
  be:=fun R _ _ _ q=>(bs R q).1
  bt:=fun R _ _ _ q=>(bs R q).2
  a:=fun R _ q=>nomatch q
  k:=fun R _ q=>nomatch q
  i:=fun R _ _ q=>Q5L (base R q).1
  o:=fun{X g} R {x} q=>by match x,q with | some x,q=>exact Q3R (base R q).1
  c:=fun{X g} R {xs} q=>by match xs,q with | [x],q=>exact Q2K (base R q).2 }
theorem Qa3(ha:Snd T a):Snd T (.not a):=by
 refine Snd.of (u:=dNot (ev T a).t) rfl rfl fun{X g} R {x} q=>?_;have qv:=Q0i q;clear q;obtain⟨⟨uo,y,p⟩,rfl,q⟩:=qv;dsimp only at q ⊢;rw[Zh]at q;obtain⟨q0,q⟩:=q;cases Zx.mp q0;exact⟨Qb7 (ha.e R q),Qb5 (ha.t R q)⟩
theorem Qa4(ha:Snd T a):Snd T (.neg a):=by
 refine Snd.of (u:=dB (dNeg (ev T a).e)) rfl rfl fun{X g} R {x} q=>?_;have qv:=Q0i q;clear q;obtain⟨⟨uo,y,p⟩,rfl,q⟩:=qv;dsimp only at q ⊢;rw[Zh]at q;obtain⟨q0,q⟩:=q;cases Zx.mp q0;exact dtv (Qbs (ha.e R q)) fun _=>rfl
theorem Qa5(hc:Snd T c)(ha:Snd T a)(hb:Snd T b):Snd T (.ite c a b):=by
 refine Snd.of (u:=botT) rfl rfl fun{X g} R {x} q=>?_;have qv:=Q0i q;clear q;obtain⟨⟨y,z,z2,p⟩,rfl,q⟩:=qv;dsimp only at q ⊢;simp only[Zh]at q;exact⟨Q7l (hc.t R q.1.1) (ha.e R q.1.2) (hb.e R q.2),Q5Y⟩
theorem QbH(ha:Snd T a)(hb:Snd T b):Snd T (.ix a b):=by
 refine Snd.of (u:=dB (dOp rIxD (ev T a).e (ev T b).e)) rfl rfl fun{X g} R {x} q=>?_;have qv:=Q0i q;clear q;obtain⟨⟨y,z,p⟩,rfl,q⟩:=qv;dsimp only at q ⊢;simp only[Zh]at q;exact dtv (de_ix (ha.e R q.1.2) (hb.e R q.2) (Q3V q.1.1)) fun _=>rfl
theorem QbI{a lo hi:CE}(ha:Snd T a)(hl:Snd T lo)(hh:Snd T hi):Snd T (.sl a lo hi):=by
 refine Snd.of (u:=dB (dSl (ev T a).e (ev T lo).o (ev T hi).o)) rfl rfl fun{X g} R {x} q=>?_;have qv:=Q0i q;clear q;obtain⟨⟨y,z,p⟩,rfl,q⟩:=qv;have qv:=Q0i q;clear q;obtain⟨⟨sl,su,sp⟩,e,q⟩:=qv;dsimp only at e q ⊢;subst e;simp only[Zh]at q;exact dtv (Q7q (ha.e R q.1.1) (hl.o R q.1.2) (hh.o R q.2)) fun _=>rfl
theorem Qa6(ha:Snd T as):Snd T (.tup as):=by
 refine Snd.of (u:=dB (dTup (ev T as).a)) rfl rfl fun{X g} R {x} q=>?_;have qv:=Q0i q;clear q;obtain⟨⟨es,k,p⟩,rfl,q⟩:=qv;dsimp only at q ⊢;exact dtv (Qb8 (ha.a R q).1) fun _=>rfl
theorem Qa7(ha:Snd T as):Snd T (.lst as):=by
 refine Snd.of (u:=dB (dLst (ev T as).a)) rfl rfl fun{X g} R {x} q=>?_;have qv:=Q0i q;clear q;obtain⟨⟨es,p⟩,rfl,q⟩:=qv;dsimp only at q ⊢;exact dtv (Qb9 (ha.a R q).1) fun _=>rfl
theorem Q7P(ha:Snd T as):Snd T (.lstz as):=by
 refine Snd.of (u:=dB (zbU (ev T as).a)) rfl rfl fun{X g} R {x} q=>?_;have qv:=Q0i q;clear q;obtain⟨⟨es,p⟩,rfl,q⟩:=qv;dsimp only at q ⊢;exact dtv (Q9D (ha.a R q).1) fun _=>rfl
theorem Qa8(ha:Snd T a):Snd T (.frz a) :=
 Snd.of (u:=botT) rfl rfl fun{X g} R {x} q=>⟨Qba (ha.e R q),Q5Y⟩
theorem Qa9(ha:Snd T a):Snd T (.fzt a) :=
 Snd.of (u:=botT) rfl rfl fun{X g} R {x} q=>⟨QbF (ha.e R q),Q5Y⟩
theorem Q7Q(ha:Snd T as):Snd T (.call f as):=by
 refine Snd.of (u:=dB (match T.fn f with | some fi=>zbz fi.sp (fi.dds.drop (fi.dds.length-(fi.np-as.len))) (ev T as).a | none=>botE)) rfl rfl fun{X g} R {x} q=>?_
 have qv:=Q0i q;clear q;obtain⟨⟨y,p,z,zs,pp⟩,rfl,q⟩:=qv;dsimp only at q ⊢;cases e:T.fn f with
 | none=>rw[e]at q;cases q
 | some fi =>
  rw[e]at q;simp only[Zh,Zx,Ze]at q;obtain⟨⟨⟨⟨q1,rfl⟩,q2⟩,q3⟩,q4⟩:=q;obtain⟨g1,g2,g3⟩:=R.glob q1;obtain⟨k,fa,fd,ps,F,hr,hm,hk,hl,hd⟩:=(R.fns f fi e).ex;obtain⟨ds,dvs,b1,b2,b3⟩:=hd (fi.dds.length-(fi.np-as.len)) (Nat.sub_le _ _);obtain⟨a1,a2,a3⟩:=ha.a R q4;rw[ZU,Zh]at a2;exact dtv (Q9o F hr g1 hm hk b1 b2 b3 (E:=E0) pass0 a1 g2 (Q0h a2.1) (Q0n a2.2)) fun _=>rfl
theorem Qaa(ha:Snd T as):Snd T (.blt b as):=by
 refine Snd.of (u:=dB (dCB b.r (ev T as).a)) rfl rfl fun{X g} R {x} q=>?_;have qv:=Q0i q;clear q;obtain⟨⟨y,p,z,zs,pp⟩,rfl,q⟩:=qv;dsimp only at q ⊢;simp only[Zh,Zx]at q;obtain⟨⟨q1,rfl⟩,q2⟩:=q;obtain⟨g1,g2,g3,g4⟩:=R.blt q1;obtain⟨a1,a2,a3⟩:=ha.a R q2;rw[ZU,Zh]at a2;refine dtv ?_ fun _=>rfl;cases b with
 | dict=>exact Q1D (Q9R R.calm (ZG (ZV (by decide) _) R.un)) g1 g4 (by rfl) a1 g3 g2 (Q0h a2.1) (Q0n a2.2)
 | len=>exact Q1W Qbq g1 g4 (by rfl) a1 g3 g2 (Q0h a2.1) (Q0n a2.2)
 | list=>exact Q1D Q9C g1 g4 (by rfl) a1 g3 g2 (Q0h a2.1) (Q0n a2.2)
 | str=>exact Q1D Qbv g1 g4 (by rfl) a1 g3 g2 (Q0h a2.1) (Q0n a2.2)
 | sorted=>exact Q1W Q5O g1 g4 (by rfl) a1 g3 g2 (Q0h a2.1) (Q0n a2.2)
 | dictT=>exact Q1D (Q7M R.calm (ZG (ZV (by decide) _) R.un)) g1 g4 (by rfl) a1 g3 g2 (Q0h a2.1) (Q0n a2.2)
 | sortT=>exact Q1W (Q7N R.calm) g1 g4 (by rfl) a1 g3 g2 (Q0h a2.1) (Q0n a2.2)
 | min1=>exact Q1W (Q9O R.calm) g1 g4 (by rfl) a1 g3 g2 (Q0h a2.1) (Q0n a2.2)
theorem Qab(y:Ty)(h:y≠.non):bootBuiltins (Str.ofString y.nm)=some (.type y.nm):=by
 cases y <;> first | exact absurd rfl h | rfl
theorem Qac(ha:Snd T a):Snd T (.isi y a):=by
 refine Snd.of (u:=dB (dIsI y (ev T a).e)) rfl rfl fun{X g} R {x} q=>?_;have qv:=Q0i q;clear q;obtain⟨⟨n,p,z,zs,pos⟩,rfl,q⟩:=qv;have qv:=Q0i q;clear q;obtain⟨d,e,q⟩:=qv;dsimp only at e;subst e;have qv:=Q0i q;clear q;obtain⟨⟨n',p3⟩,rfl,q⟩:=qv;dsimp only at q ⊢;simp only[Zh,Zx,not_eq_true',Ye,ne_eq]at q;obtain⟨⟨⟨⟨⟨⟨q1,rfl⟩,q2⟩,rfl⟩,q3⟩,q4⟩,q5⟩:=q;obtain⟨g1,g2,g3,g4⟩:=R.blt q1;obtain⟨k1,k2,k3,k4⟩:=R.blt q2;exact dtv (Qbp y q3 (Qab y q3) (ha.e R q5) g1 g4 k1 k4 k3 k2 (Q0h q4) (Q0h rfl) (Q0n rfl)) fun _=>rfl
theorem Q2i(h:es.all za7=true)(hl:es.length<30):((backTo cp (starEach es env)).all (fun x=>!x.1)&&(backToKw cp (keywordEach [] env)).all (fun x=>x.1.isSome)
      && decide (es.length+([]:List Keyword).length+(if ([]:List Keyword).isEmpty then 0 else 1)<30))=true:=by
 rw[Q4x h];simp[keywordEach,backToKw,hl]
theorem Q8G(h:(chk T as).a g []=true):as=.nil:=by
 cases as <;> first | rfl | exact Bool.noConfusion (show false=true from h)
theorem hu64(R:Rel X T g):X.A.units+64<cLine:=ZG (ZV (by decide) _) R.un
theorem QbJ(ho:Snd T o)(ha:Snd T as):Snd T (.ml m o as):=by
 refine Snd.of (u:=dB (dML m.r (ev T o).e (ev T as).a)) rfl rfl fun{X g} R {x} q=>?_;have qv:=Q0i q;clear q;obtain⟨⟨z,n,ap,es,cp⟩,rfl,q⟩:=qv;dsimp only at q ⊢;simp only[Zh,Ze]at q;obtain⟨⟨⟨⟨⟨q0,q1⟩,q2⟩,q3⟩,q4⟩,q5⟩:=q;obtain rfl:n=m.nm:=by simpa using q0
 obtain⟨a1,a2,a3⟩:=ha.a R q4;refine dtv ?_ fun _=>rfl;cases es with
 | nil =>
  obtain rfl:=Q8G q4;cases m with
  | append=>exact Q5K PySem.F.slot_list_append PySem.F.type_list_append Q3m (ho.e R q3) (Q0B q2) q1
  | clear=>exact Q5K PySem.F.slot_list_clear PySem.F.type_list_clear Q4r (ho.e R q3) (Q0B q2) q1
  | index=>exact Q5K slot_list_index PySem.F.type_list_index (Q8E (hu64 R)) (ho.e R q3) (Q0B q2) q1
 | cons e es =>
  have a2':=a2;rw[ZU,Zh]at a2';cases m with
  | append=>exact de_ml PySem.F.slot_list_append PySem.F.type_list_append Q3m (ho.e R q3) a1 (Q0B q2) (Q2i a2 q5) q1 (Q0h a2'.1) (Q0n a2'.2)
  | clear=>exact de_ml PySem.F.slot_list_clear PySem.F.type_list_clear Q4r (ho.e R q3) a1 (Q0B q2) (Q2i a2 q5) q1 (Q0h a2'.1) (Q0n a2'.2)
  | index=>exact de_ml slot_list_index PySem.F.type_list_index (Q8E (hu64 R)) (ho.e R q3) a1 (Q0B q2) (Q2i a2 q5) q1 (Q0h a2'.1) (Q0n a2'.2)
theorem hu1(R:Rel X T g):X.A.units+1<cLine:=ZG (ZV (by decide) _) R.un
theorem Qad(ha:Snd T a):Snd T (.fld c f a):=by
 refine Snd.of (u:=dB (dFld c f (ev T a).e)) rfl rfl fun{X g} R {x} q=>?_;have qv:=Q0i q;clear q;obtain⟨⟨z,n,p⟩,rfl,q⟩:=qv;dsimp only at q ⊢;simp only[Zh,Zx,List.contains_eq_mem,Ze]at q;obtain⟨⟨⟨rfl,q1⟩,q2⟩,q3⟩:=q;obtain⟨C,h1,h2,h3⟩:=R.fds _ q1;exact dtv (Qbx h1 h2 h3 (ha.e R q3) (Q0B q2)) fun _=>rfl
theorem Q3z(hb:attributeBase o m env (eval o env)=eval o env)
  (hf:((backTo pos (starEach args env)).all (fun x=>!x.1)&&(backToKw pos (keywordEach [] env)).all (fun x=>x.1.isSome)&&decide (args.length+([]:List Keyword).length+(if ([]:List Keyword).isEmpty then 0 else 1)<30))=true)
  (hl:(apos.endLine==pos.line)=true):eval (.Call (.Attribute o m apos) args [] pos) env=(do
   let ov <- eval o env
   standAt apos.atName
   let (f,first) <- holding [ov] (getMethod ov m (do return (<- importBound o env).getD true))
   callWith pos f first (backTo pos (starEach args env)) (backToKw pos (keywordEach [] env))):=by
 have hform:methodCallForm (args.length+([]:List Keyword).length) (backTo pos (starEach args env)) (backToKw pos (keywordEach [] env))=true:=hf;have hpos:methodCallPos true o env apos pos=pure pos:=by unfold methodCallPos;simp[hl]
 rw[arm_eval_Call,hb];unfold methodCall;rw[hform];simp only[hpos];rfl
theorem Q7R(ho:Snd T o)(ha:Snd T as):Snd T (.meth f o as):=by
 refine Snd.of (u:=dB (match T.mt f with | some mi=>zbo mi.cl mi.nm mi.sp (ev T o).e (ev T as).a | none=>botE)) rfl rfl fun{X g} R {x} q=>?_
 have qv:=Q0i q;clear q;obtain⟨⟨z,n,ap,es,cp⟩,rfl,q⟩:=qv;dsimp only at q ⊢;cases e:T.mt f with
 | none=>rw[e]at q;cases q
 | some mi =>
  rw[e]at q;simp only[Zh,Zx,Ze]at q;obtain⟨⟨⟨⟨⟨rfl,q1⟩,q2⟩,q3⟩,q4⟩,q5⟩:=q;obtain⟨k,C,fa,fd,ps,h1,h2,h3,F,hr,hb⟩:=(R.mts f mi e).ex;obtain⟨a1,a2,a3⟩:=ha.a R q4;have q1:(ap.endLine==cp.line)=true:=by rw[q1];exact beq_self_eq_true _
  refine dtv ?_ fun _=>rfl;cases es with
  | nil =>
   obtain rfl:=Q8G q4;exact Q7z h1 h2 h3 F (hr.mono (le_succ _)) hb (E:=E0) pass0 (ho.e R q3) (Q3z (Q0B q2) (Q2i a2 q5) q1)
  | cons y ys =>
   have a2':=a2;rw[ZU,Zh]at a2';exact Q9I h1 h2 h3 F (hr.mono (le_succ _)) hb (E:=E0) pass0 (ho.e R q3) a1 (Q0h a2'.1) (Q0n a2'.2) (Q3z (Q0B q2) (Q2i a2 q5) q1)
theorem Q7S(ha:Snd T as):Snd T (.make f as):=by
 refine Snd.of (u:=dB (match T.ini f with | some mi=>zbT mi.cl mi.sp (ev T as).a | none=>botE)) rfl rfl fun{X g} R {x} q=>?_
 have qv:=Q0i q;clear q;obtain⟨⟨y,p,z,zs,pp⟩,rfl,q⟩:=qv;dsimp only at q ⊢;cases e:T.ini f with
 | none=>rw[e]at q;cases q
 | some mi =>
  rw[e]at q;simp only[Zh,Zx]at q;obtain⟨⟨q1,rfl⟩,q4⟩:=q;obtain⟨g1,g2,g3⟩:=R.glob q1;obtain⟨k,C,fa,fd,ps,h1,h2,h3,F,hr,hb⟩:=(R.mks f mi e).ex;obtain⟨a1,a2,a3⟩:=ha.a R q4;rw[ZU,Zh]at a2;exact dtv (Q9J h1 h3 F hr g1 h2 hb (E:=E0) pass0 a1 g2 (Q0h a2.1) (Q0n a2.2)) fun _=>rfl
theorem Q7T:Snd T .dnew:=by
 refine Snd.of (u:=dB zbV) rfl rfl fun{X g} R {x} q=>?_;have qv:=Q0i q;clear q;obtain⟨p,rfl,q⟩:=qv
 (try dsimp only at q ⊢)
 exact dtv Q9K fun _=>rfl
theorem Q7U:Snd T .knew:=by
 refine Snd.of (u:=dB zbR) rfl rfl fun{X g} R {x} q=>?_;have qv:=Q0i q;clear q;obtain⟨p,rfl,q⟩:=qv
 (try dsimp only at q ⊢)
 exact dtv Q9P fun _=>rfl
theorem Q6c(hk:Snd T k)(hv:Snd T v):Snd T (.disp1 k v):=by
 refine Snd.of (u:=dB (zbe (ev T k).e (ev T v).e)) rfl rfl fun{X g} R {x} q=>?_;have qv:=Q0i q;clear q;obtain⟨⟨y,z,p⟩,rfl,q⟩:=qv;dsimp only at q ⊢;rw[Zh]at q;exact dtv (Q7A (hu1 R) (hk.e R q.1) (hv.e R q.2)) fun _=>rfl
theorem Q2Q(h:zaw z=true):NoSl z:=by
 intro o i;cases z <;> first | rfl | cases h
theorem Qae(ha:Snd T a)(hb:Snd T b):Snd T (.dix a b):=by
 refine Snd.of (u:=dB (dOp rDIx (ev T a).e (ev T b).e)) rfl rfl fun{X g} R {x} q=>?_;have qv:=Q0i q;clear q;obtain⟨⟨y,z,p⟩,rfl,q⟩:=qv;dsimp only at q ⊢;simp only[Zh]at q;exact dtv (Qby (hu1 R) (ha.e R q.1.2) (hb.e R q.2) (Q2Q q.1.1)) fun _=>rfl
theorem hu2(R:Rel X T g):X.A.units+2<cLine:=ZG (ZV (by decide) _) R.un
theorem m1_of(h1:zar z=true)(h2:(ap.endLine==cp.line)=true)(h3:za7 y=true):M1 X z m ap y cp :=
 ⟨Q0B h1,Q2i (by rw[ZU,h3];rfl) (by show 1<30;decide),h2,by
  have e:starEach [y] X.env=[(false,eval y X.env)]:=by rw[Q0h h3];rfl
  rw[e];rfl⟩
theorem Q6d(hd:Snd T d)(hk:Snd T k):Snd T (.dget1 d k):=by
 refine Snd.of (u:=dB (zbi (ev T d).e (ev T k).e)) rfl rfl fun{X g} R {x} q=>?_;have qv:=Q0i q;clear q;obtain⟨⟨z,n,ap,es,cp⟩,rfl,q⟩:=qv;have qv:=Q0i q;clear q;obtain⟨y,e,q⟩:=qv;dsimp only at e q ⊢;subst e;simp only[Zh]at q;obtain⟨⟨⟨⟨⟨q0,q1⟩,q2⟩,q3⟩,q4⟩,q5⟩:=q;cases Zx.mp q0;exact dtv (Q7G R.un (hd.e R q4) (hk.e R q5) (m1_of q2 q1 q3)) fun _=>rfl
theorem Q7V(ha:Snd T a)(hb:Snd T b):Snd T (.kixf a b):=by
 refine Snd.of (u:=dB (dOp zbG (ev T a).e (ev T b).e)) rfl rfl fun{X g} R {x} q=>?_;have qv:=Q0i q;clear q;obtain⟨⟨y,z,p⟩,rfl,q⟩:=qv;dsimp only at q ⊢;simp only[Zh]at q;exact dtv (Q9W (hu1 R) (ha.e R q.1.2) (hb.e R q.2) (Q2Q q.1.1)) fun _=>rfl
theorem Q7W(ha:Snd T a)(hb:Snd T b):Snd T (.dixf a b):=by
 refine Snd.of (u:=dB (dOp zbL (ev T a).e (ev T b).e)) rfl rfl fun{X g} R {x} q=>?_;have qv:=Q0i q;clear q;obtain⟨⟨y,z,p⟩,rfl,q⟩:=qv;dsimp only at q ⊢;simp only[Zh]at q;exact dtv (Q9X (hu1 R) (ha.e R q.1.2) (hb.e R q.2) (Q2Q q.1.1)) fun _=>rfl
theorem m2_of(h1:zar z=true)(h2:(ap.endLine==cp.line)=true)(h3:za7 y=true)(h4:za7 y'=true):M2 X z m ap y y' cp :=
 ⟨Q0B h1,Q2i (by rw[ZU,ZU,h3,h4];rfl) (by show 2<30;decide),h2,by
  have e:starEach [y,y'] X.env=[(false,eval y X.env),(false,eval y' X.env)]:=by rw[Q0h h3,Q0h h4];rfl
  rw[e];rfl⟩
theorem Q6e(hd:Snd T d)(hk:Snd T k)(he:Snd T e):Snd T (.dget2 d k e):=by
 refine Snd.of (u:=dB (zbh (ev T d).e (ev T k).e (ev T e).e)) rfl rfl fun{X g} R {x} q=>?_;have qv:=Q0i q;clear q;obtain⟨⟨z,n,ap,es,cp⟩,rfl,q⟩:=qv;have qv:=Q0i q;clear q;obtain⟨⟨y,y'⟩,e,q⟩:=qv;dsimp only at e q ⊢;subst e;simp only[Zh]at q;obtain⟨⟨⟨⟨⟨⟨⟨q0,q1⟩,q2⟩,q3⟩,q4⟩,q5⟩,q6⟩,q7⟩:=q;cases Zx.mp q0;exact dtv (Q7B (hu1 R) (hd.e R q5) (hk.e R q6) (he.e R q7) (m2_of q2 q1 q3 q4)) fun _=>rfl
theorem Q6f(hd:Snd T d)(hk:Snd T k)(he:Snd T e):Snd T (.kget2 d k e):=by
 refine Snd.of (u:=dB (zbd (ev T d).e (ev T k).e (ev T e).e)) rfl rfl fun{X g} R {x} q=>?_;have qv:=Q0i q;clear q;obtain⟨⟨z,n,ap,es,cp⟩,rfl,q⟩:=qv;have qv:=Q0i q;clear q;obtain⟨⟨y,y'⟩,e,q⟩:=qv;dsimp only at e q ⊢;subst e;simp only[Zh]at q;obtain⟨⟨⟨⟨⟨⟨⟨q0,q1⟩,q2⟩,q3⟩,q4⟩,q5⟩,q6⟩,q7⟩:=q;cases Zx.mp q0;exact dtv (Q7E (hu1 R) (hd.e R q5) (hk.e R q6) (he.e R q7) (m2_of q2 q1 q3 q4)) fun _=>rfl
theorem Q6g(hd:Snd T d)(hk:Snd T k)(he:Snd T e):Snd T (.dsetd d k e):=by
 refine Snd.of (u:=dB (zbf (ev T d).e (ev T k).e (ev T e).e)) rfl rfl fun{X g} R {x} q=>?_;have qv:=Q0i q;clear q;obtain⟨⟨z,n,ap,es,cp⟩,rfl,q⟩:=qv;have qv:=Q0i q;clear q;obtain⟨⟨y,y'⟩,e,q⟩:=qv;dsimp only at e q ⊢;subst e;simp only[Zh]at q;obtain⟨⟨⟨⟨⟨⟨⟨q0,q1⟩,q2⟩,q3⟩,q4⟩,q5⟩,q6⟩,q7⟩:=q;cases Zx.mp q0;exact dtv (Q7C (hu1 R) (hd.e R q5) (hk.e R q6) (he.e R q7) (m2_of q2 q1 q3 q4)) fun _=>rfl
theorem Q6h(hd:Snd T d)(hk:Snd T k)(he:Snd T e):Snd T (.dpop0 d k e):=by
 refine Snd.of (u:=dB (zbg (ev T d).e (ev T k).e (ev T e).e)) rfl rfl fun{X g} R {x} q=>?_;have qv:=Q0i q;clear q;obtain⟨⟨z,n,ap,es,cp⟩,rfl,q⟩:=qv;have qv:=Q0i q;clear q;obtain⟨⟨y,y'⟩,e,q⟩:=qv;dsimp only at e q ⊢;subst e;simp only[Zh]at q;obtain⟨⟨⟨⟨⟨⟨⟨q0,q1⟩,q2⟩,q3⟩,q4⟩,q5⟩,q6⟩,q7⟩:=q;cases Zx.mp q0;exact dtv (Q7J (hu1 R) (hd.e R q5) (hk.e R q6) (he.e R q7) (m2_of q2 q1 q3 q4)) fun _=>rfl
theorem Q6i(hd:Snd T d)(hk:Snd T k)(he:Snd T e):Snd T (.ksetd d k e):=by
 refine Snd.of (u:=dB (zbc (ev T d).e (ev T k).e (ev T e).e)) rfl rfl fun{X g} R {x} q=>?_;have qv:=Q0i q;clear q;obtain⟨⟨z,n,ap,es,cp⟩,rfl,q⟩:=qv;have qv:=Q0i q;clear q;obtain⟨⟨y,y'⟩,e,q⟩:=qv;dsimp only at e q ⊢;subst e;simp only[Zh]at q;obtain⟨⟨⟨⟨⟨⟨⟨q0,q1⟩,q2⟩,q3⟩,q4⟩,q5⟩,q6⟩,q7⟩:=q;cases Zx.mp q0;exact dtv (Q7I (hd.e R q5) (hk.e R q6) (he.e R q7) (m2_of q2 q1 q3 q4)) fun _=>rfl
theorem Q1r{two:Bool}{ix:List Nat}{it c e:CE}(hi:Snd T it)(hc:Snd T c)(he:Snd T e)(R:Rel X T g)(q:zbX two ix (chk T it) (chk T c) (chk T e) g x=true) :
  ∃ elt tg iter ifs scope pos ts fn gV,x=.ListComp elt [⟨tg,iter,ifs,0⟩] scope pos/\Unp X.K ts.length (zb8 two) gV/\zav X.env.scope scope (ts++fn) ts.length fn/\ix.map (fun i=>X.N[i]?)=fn.map some/\DI X tg iter (ev T it).i /\
   (∀ cl C s₀ H₀ ex E,PG (za2 X scope (ts++fn) cl C s₀ H₀ ex E) tg gV)/\(∀ cl C s₀ H₀ ex E,zai (za2 X scope (ts++fn) cl C s₀ H₀ ex E) (fun cls _ H=>lX X.K X.mg T.cl T.xd cls H)->DIfs (za2 X scope (ts++fn) cl C s₀ H₀ ex E) ifs (ev T c).t)/\(∀ cl C s₀ H₀ ex E,zai (za2 X scope (ts++fn) cl C s₀ H₀ ex E) (fun cls _ H=>lX X.K X.mg T.cl T.xd cls H)->DE (za2 X scope (ts++fn) cl C s₀ H₀ ex E) elt (ev T e).e) /\
   (∀ y,foldedSetIterable iter X.env y=pure y):=by
 have qv:=Q0i q;clear q;obtain⟨⟨elt,tg,iter,ifs,scope,pos⟩,rfl,q⟩:=qv;dsimp only at q ⊢
 ·cases et:zbB two tg with
  | none=>rw[et]at q;cases q
  | some ts =>
   rw[et]at q;dsimp only at q ⊢;simp only[Zh,Ze]at q;obtain⟨⟨⟨⟨⟨⟨q1,q2⟩,q3⟩,q4⟩,q5⟩,q6⟩,q7⟩:=q;have ok:=Q3y R q1;have Rc:=fun cl C s₀ H₀ ex E hE=>R.comp q1 cl C s₀ H₀ ex E hE;have loc:∀ cl C s₀ H₀ ex E,∀ (i:Nat) (y:Str) (p:Pos),ts[i]? = some y->PG (za2 X scope (ts++ix.filterMap fun i=>g.N[i]?) cl C s₀ H₀ ex E) (.Name y p) (zaR i):=fun cl C s₀ H₀ ex E i y p hy=>by
    have hm:y∈ts:=Zt hy;have hl:scope.names.lookup y=some .local:=by simpa using (ZN.mp q3) y hm
    have hl2:(compEnvC scope cl C X.env).scope.names.lookup y=some .local:=Q0I (k:=.local) (by decide) hl
    exact Q5d ok.nd (by
     show (ts++_)[i]? = some y;rw[getElem?_append_left (Zj.mp hy).1];exact hy) (.inl hl2) (.inr hl2)
   cases two with
   | false =>
    obtain⟨⟨⟨y,p⟩,e0⟩,_,et⟩:=Option.bind_eq_some_iff.mp et;cases e0;cases et;exact⟨_,_,_,_,_,_,[y],_,zaR 0,rfl,unp1,ok,by rw[R.N];exact q2,hi.i R q5,fun cl C s₀ H₀ ex E=>loc cl C s₀ H₀ ex E 0 y p rfl,fun cl C s₀ H₀ ex E hE=>hc.c (Rc cl C s₀ H₀ ex E hE) q6,fun cl C s₀ H₀ ex E hE=>he.e (Rc cl C s₀ H₀ ex E hE) q7,Q2P q4⟩
   | true =>
    obtain⟨⟨⟨es,k',pp⟩,e0⟩,_,et⟩:=Option.bind_eq_some_iff.mp et;obtain⟨⟨⟨a,b⟩,e1⟩,_,et⟩:=Option.bind_eq_some_iff.mp et;obtain⟨⟨⟨y,p⟩,e2⟩,_,et⟩:=Option.bind_eq_some_iff.mp et;obtain⟨⟨⟨y',p'⟩,e3⟩,_,et⟩:=Option.bind_eq_some_iff.mp et;dsimp only at e0 e1 e2 e3;subst e2 e3;subst e1;cases e0;cases et;exact⟨_,_,_,_,_,_,[y,y'],_,gTup X.K 2 (zbP (zaR 0) (zbP (zaR 1) gNil)),rfl,unp2,ok,by rw[R.N];exact q2,hi.i R q5,
     fun cl C s₀ H₀ ex E=>Q8u R.calm (Q2E (loc cl C s₀ H₀ ex E 0 y p rfl) (Q2E (loc cl C s₀ H₀ ex E 1 y' p' rfl) Q5e)),fun cl C s₀ H₀ ex E hE=>hc.c (Rc cl C s₀ H₀ ex E hE) q6,fun cl C s₀ H₀ ex E hE=>he.e (Rc cl C s₀ H₀ ex E hE) q7,Q2P q4⟩
theorem Q7X{two:Bool}{ix:List Nat}{it c e:CE}(hi:Snd T it)(hc:Snd T c)(he:Snd T e):Snd T (.comp two ix it c e):=by
 refine Snd.of (u:=dB (zbp (ev T it).i ix (zb8 two) (ev T c).t (ev T e).e)) rfl rfl fun{X g} R {x} q=>?_;obtain⟨elt,tg,iter,ifs,scope,pos,ts,fn,gV,rfl,h1,h2,h3,h4,h5,h6,h7,h8⟩:=Q1r hi hc he R q;exact dtv (Q9t R.tp R.tk h1 R.calm h2 h3 h4 h5 h6 h7 h8) fun _=>rfl
theorem Q6j{two:Bool}{ix:List Nat}{it c e:CE}(hi:Snd T it)(hc:Snd T c)(he:Snd T e):Snd T (.compz two ix it c e):=by
 refine Snd.of (u:=dB (zaV (ev T it).i ix (zb8 two) (ev T c).t (ev T e).e)) rfl rfl fun{X g} R {x} q=>?_;obtain⟨elt,tg,iter,ifs,scope,pos,ts,fn,gV,rfl,h1,h2,h3,h4,h5,h6,h7,h8⟩:=Q1r hi hc he R q;exact dtv (Q7t R.tp R.tk h1 R.calm h2 h3 h4 h5 h6 h7 h8) fun _=>rfl
theorem Q7Y(ha:Snd T a):Snd T (.rng1 a) where
 e:=fun _ _ q=>nomatch q
 t:=fun _ _ q=>nomatch q
 be:=fun{X g} R {op vs pos} q=>by match vs,q with | [x],q=>cases q
 bt:=fun{X g} R {op vs pos} q=>by match vs,q with | [x],q=>cases q
 a:=fun _ _ q=>nomatch q
 k:=fun _ _ q=>nomatch q
 o:=fun{X g} R {x} q=>by match x,q with | some x,q=>cases q
 c:=fun{X g} R {xs} q=>by match xs,q with | [x],q=>cases q
 i:=fun{X g} R {x tg} q=>by
  have qv:=Q0i (show (ckR1 T.toTabC "range" (chk T a).e g x)=true from q);clear q;obtain⟨⟨y,p,z,zs,pp⟩,rfl,q⟩:=qv;simp only[Zh,Zx,isEmpty_iff]at q;obtain⟨⟨⟨⟨rfl,q1⟩,rfl⟩,q2⟩,q3⟩:=q;obtain⟨g1,g2,g3,g4⟩:=R.blt q1;exact Q5G g1 g4 (Q2J (ha.e R q3) Q5E (Q0h q2)) (Q0h q2)
theorem Q7Z(ha:Snd T a)(hb:Snd T b):Snd T (.rng2 a b) where
 e:=fun _ _ q=>nomatch q
 t:=fun _ _ q=>nomatch q
 be:=fun{X g} R {op vs pos} q=>by match vs,q with | [x],q=>cases q
 bt:=fun{X g} R {op vs pos} q=>by match vs,q with | [x],q=>cases q
 a:=fun _ _ q=>nomatch q
 k:=fun _ _ q=>nomatch q
 o:=fun{X g} R {x} q=>by match x,q with | some x,q=>cases q
 c:=fun{X g} R {xs} q=>by match xs,q with | [x],q=>cases q
 i:=fun{X g} R {x tg} q=>by
  have qv:=Q0i (show (ckR2 T.toTabC (chk T a).e (chk T b).e g x)=true from q);clear q;obtain⟨⟨y,p,z,zs,pp⟩,rfl,q⟩:=qv;have qv:=Q0i q;clear q;obtain⟨z',e,q⟩:=qv;dsimp only at e q ⊢;subst e;simp only[Zh,Zx]at q;obtain⟨⟨⟨⟨⟨q1,rfl⟩,q2⟩,q3⟩,q4⟩,q5⟩:=q;obtain⟨g1,g2,g3,g4⟩:=R.blt q1;exact Q5H g1 g4 (Q2J (ha.e R q4) (Q2J (hb.e R q5) Q5E (Q0h q3)) (Q0h q2)) (by rw[Q0h q2,Q0h q3];rfl) (Q0h q3)
theorem Q6k(ha:Snd T a):Snd T (.tkeys a) where
 e:=fun _ _ q=>nomatch q
 t:=fun _ _ q=>nomatch q
 be:=fun{X g} R {op vs pos} q=>by match vs,q with | [x],q=>cases q
 bt:=fun{X g} R {op vs pos} q=>by match vs,q with | [x],q=>cases q
 a:=fun _ _ q=>nomatch q
 k:=fun _ _ q=>nomatch q
 o:=fun{X g} R {x} q=>by match x,q with | some x,q=>cases q
 c:=fun{X g} R {xs} q=>by match xs,q with | [x],q=>cases q
 i:=fun{X g} R {x tg} q=>Q7K (ha.e R q)
theorem Q6l(ha:Snd T a):Snd T (.dkeys a) where
 e:=fun _ _ q=>nomatch q
 t:=fun _ _ q=>nomatch q
 be:=fun{X g} R {op vs pos} q=>by match vs,q with | [x],q=>cases q
 bt:=fun{X g} R {op vs pos} q=>by match vs,q with | [x],q=>cases q
 a:=fun _ _ q=>nomatch q
 k:=fun _ _ q=>nomatch q
 o:=fun{X g} R {x} q=>by match x,q with | some x,q=>cases q
 c:=fun{X g} R {xs} q=>by match xs,q with | [x],q=>cases q
 i:=fun{X g} R {x tg} q=>Q7L (ha.e R q)
theorem Qaf:Snd T .nil where
 e:=fun _ _ q=>nomatch q
 t:=fun _ _ q=>nomatch q
 be:=fun _ _ _ _ q=>nomatch q
 bt:=fun _ _ _ _ q=>nomatch q
 a:=fun{X g} R {es} q=>by
  have:es=[]:=isEmpty_iff.mp q;subst this;exact⟨Q5E,rfl,rfl⟩
 k:=fun{X g} R {kws} q=>by
  match kws,q with
  | [],_=>exact Q9E
  | _::_,q=>cases q
 i:=fun _ _ _ q=>nomatch q
 o:=fun{X g} R {x} q=>by
  have:x=none:=Option.isNone_iff_eq_none.mp q;subst this;exact Q9A
 c:=fun{X g} R {es} q=>by
  have:es=[]:=isEmpty_iff.mp q;subst this;exact Q7n
theorem Q8a(ha:Snd T a)(hs:Snd T as):Snd T (.cons a as) where
 e:=fun _ _ q=>nomatch q
 t:=fun _ _ q=>nomatch q
 be:=fun _ _ _ _ q=>nomatch q
 bt:=fun _ _ _ _ q=>nomatch q
 a:=fun{X g} R {es} q=>by
  match es,q with
  | x::r,q =>
   have q':(za7 x&&(chk T a).e g x&&(chk T as).a g r)=true:=q;simp only[Zh]at q';obtain⟨⟨q1,q2⟩,q3⟩:=q';obtain⟨a1,a2,a3⟩:=hs.a R q3;exact⟨Q2J (ha.e R q2) a1 (Q0h q1),by rw[ZU,q1,a2];rfl,by rw[Zi,a3];rfl⟩
 k:=fun{X g} R {kws} q=>by
  match kws,q with
  | [],q=>cases q
  | ⟨nm,x,kp⟩::r,q =>
   have q':(za7 x&&(chk T a).e g x&&(chk T as).a g (r.map (·.value)))=true:=q;simp only[Zh]at q';obtain⟨⟨q1,q2⟩,q3⟩:=q';exact Q7v (ha.e R q2) (hs.k R q3)
 i:=fun _ _ _ q=>nomatch q
 o:=fun _ _ q=>nomatch q
 c:=fun _ _ q=>nomatch q
theorem snd:∀ c:CE,Snd T c
 | .var _=>Q9Y
 | .con _=>Q9Z
 | .glob _=>Q7O
 | .bin _ a b=>Qa0 (snd a) (snd b)
 | .cmp _ a b=>Qa1 (snd a) (snd b)
 | .chain _ _ a b c=>Q6a (snd a) (snd b) (snd c)
 | .and a b=>Qa2 (snd a) (snd b)
 | .or a b=>QbG (snd a) (snd b)
 | .not a=>Qa3 (snd a)
 | .neg a=>Qa4 (snd a)
 | .ite c a b=>Qa5 (snd c) (snd a) (snd b)
 | .ix a b=>QbH (snd a) (snd b)
 | .sl a lo hi=>QbI (snd a) (snd lo) (snd hi)
 | .tup as=>Qa6 (snd as)
 | .lst as=>Qa7 (snd as)
 | .lstz as=>Q7P (snd as)
 | .frz e=>Qa8 (snd e)
 | .call _ as=>Q7Q (snd as)
 | .blt _ as=>Qaa (snd as)
 | .isi _ e=>Qac (snd e)
 | .ml _ o as=>QbJ (snd o) (snd as)
 | .fld _ _ e=>Qad (snd e)
 | .meth _ o as=>Q7R (snd o) (snd as)
 | .make _ as=>Q7S (snd as)
 | .dnew=>Q7T
 | .disp1 k v=>Q6c (snd k) (snd v)
 | .dix d k=>Qae (snd d) (snd k)
 | .dget2 d k e=>Q6e (snd d) (snd k) (snd e)
 | .dsetd d k e=>Q6g (snd d) (snd k) (snd e)
 | .ksetd d k e=>Q6i (snd d) (snd k) (snd e)
 | .dpop0 d k e=>Q6h (snd d) (snd k) (snd e)
 | .knew=>Q7U
 | .dget1 d k=>Q6d (snd d) (snd k)
 | .fzt e=>Qa9 (snd e)
 | .kixf d k=>Q7V (snd d) (snd k)
 | .dixf d k=>Q7W (snd d) (snd k)
 | .kget2 d k e=>Q6f (snd d) (snd k) (snd e)
 | .comp _ _ it c e=>Q7X (snd it) (snd c) (snd e)
 | .compz _ _ it c e=>Q6j (snd it) (snd c) (snd e)
 | .rng1 a=>Q7Y (snd a)
 | .rng2 a b=>Q7Z (snd a) (snd b)
 | .tkeys a=>Q6k (snd a)
 | .dkeys a=>Q6l (snd a)
 | .nil=>Qaf
 | .cons a as=>Q8a (snd a) (snd as)
end
inductive HP where
 | isx (nm:Str) | lit (l:Lit)
set_option genSizeOf false in
set_option genInjectivity false in
inductive CS where
 | nil | seq (s r:CS)
 | set (i:Nat) (e:CE)
 | set2 (i j:Nat) (e:CE)
 | ret (e:CE)
 | ite (c:CE) (a b:CS)
 | for1 (i:Nat) (it:CE) (b:CS)
 | ex (e:CE)
 | whil (c:CE) (b:CS)
 | setf (c f:Str) (o v:CE)
 | dput (d k v:CE)
 | lput (d k v:CE)
 | faug (c f:Str) (o v:CE)
noncomputable def hP(T:Tab)(c je:Nat)(a:Addr):HP->DTE
 | .isx nm=>match T.isx c nm with
  | some b=>dIsE je a b
  | none=>botE
 | .lit l=>dC l.d
noncomputable def hA(T:Tab)(c je:Nat)(a:Addr):List HP->DTA
 | []=>dNil
 | p::r=>zaB (hP T c je a p) (hA T c je a r)
noncomputable def hS(T:Tab)(c je:Nat)(a:Addr)(y:Nat):List (List HP)->DTS
 | []=>zbS
 | p::r=>dSeq (dSet y (dOp zbM (dVar y) (dTup (hA T c je a p)))) (hS T c je a y r)
noncomputable def evS(T:Tab):CS->DTS
 | .nil=>zbS
 | .seq s r=>dSeq (evS T s) (evS T r)
 | .set i e=>dSet i (ev T e).e
 | .set2 i j e=>dAsg (ev T e).e (dgTup 2 (zaU (zat i) (zaU (zat j) dgNil)))
 | .ret e=>dRet (ev T e).e
 | .ite c a b=>dIfS (ev T c).t (evS T a) (evS T b)
 | .for1 i it b=>dFor (ev T it).i (zat i) (evS T b)
 | .ex e=>dDrop (ev T e).e
 | .whil c b=>zaO (ev T c).t (evS T b)
 | .setf c f o v=>dSetF c f (ev T o).e (ev T v).e
 | .dput d k v=>dDPut (ev T d).e (ev T k).e (ev T v).e
 | .lput d k v=>dLPut (ev T d).e (ev T k).e (ev T v).e
 | .faug c f o v=>dFAug c f (ev T o).e (ev T v).e
theorem evS_nil(T:Tab):evS T (.nil)=(zbS):=rfl
theorem evS_seq(T:Tab){s}{r}:evS T (.seq s r)=(dSeq (evS T s) (evS T r)):=rfl
theorem evS_set(T:Tab){i}{e}:evS T (.set i e)=(dSet i (ev T e).e):=rfl
theorem evS_set2(T:Tab){i}{j}{e}:evS T (.set2 i j e)=(dAsg (ev T e).e (dgTup 2 (zaU (zat i) (zaU (zat j) dgNil)))):=rfl
theorem evS_ret(T:Tab){e}:evS T (.ret e)=(dRet (ev T e).e):=rfl
theorem evS_ite(T:Tab){c}{a}{b}:evS T (.ite c a b)=(dIfS (ev T c).t (evS T a) (evS T b)):=rfl
theorem evS_for1(T:Tab){i}{it}{b}:evS T (.for1 i it b)=(dFor (ev T it).i (zat i) (evS T b)):=rfl
theorem evS_ex(T:Tab){e}:evS T (.ex e)=(dDrop (ev T e).e):=rfl
theorem evS_whil(T:Tab){c}{b}:evS T (.whil c b)=(zaO (ev T c).t (evS T b)):=rfl
theorem evS_setf(T:Tab){c}{f}{o}{v}:evS T (.setf c f o v)=(dSetF c f (ev T o).e (ev T v).e):=rfl
theorem evS_dput(T:Tab){d}{k}{v}:evS T (.dput d k v)=(dDPut (ev T d).e (ev T k).e (ev T v).e):=rfl
theorem evS_lput(T:Tab){d}{k}{v}:evS T (.lput d k v)=(dLPut (ev T d).e (ev T k).e (ev T v).e):=rfl
theorem evS_faug(T:Tab){c}{f}{o}{v}:evS T (.faug c f o v)=(dFAug c f (ev T o).e (ev T v).e):=rfl
noncomputable def zaH:Expr->Bool
 | .ListComp .. | .SetComp .. | .DictComp ..=>false
 | _=>true
noncomputable def notTup:Expr->Bool
 | .Tuple ..=>false
 | _=>true
noncomputable def swapB(g:GI)(y:Str)(p:Pos):Expr->Bool
 | .ListComp _ _ s q=>g.kd y==some .local&&p.line==q.line && !(s.names.any fun(n,k)=>n==y&&(k==.local||k==.cell))
 | _=>false
noncomputable def zba(g:GI)(i:Nat)(y:Str):Bool:=g.N[i]? == some y&&(g.kd y==some .local||g.kd y==some .cell)
noncomputable def vTry:(x:Stmt)->Option { p:Stmt×ExceptHandler×Pos // x=.Try [p.1] [p.2.1] [] [] p.2.2 }
 | .Try [b] [h] [] [] p=>some ⟨(b,h,p),rfl⟩
 | _=>none
noncomputable def vRet:(x:Stmt)->Option { p:Expr×Pos // x=.Return (some p.1) p.2 }
 | .Return (some v) p=>some ⟨(v,p),rfl⟩
 | _=>none
noncomputable def vHan:(x:ExceptHandler)->Option { p:Str×Pos×Option Str×Stmt×List Stmt×Pos // x=.ExceptHandler (some (.Name p.1 p.2.1)) p.2.2.1 (p.2.2.2.1::p.2.2.2.2.1) p.2.2.2.2.2 }
 | .ExceptHandler (some (.Name x np)) n (b::r) p=>some ⟨(x,np,n,b,r,p),rfl⟩
 | _=>none
noncomputable def vEx:(x:Stmt)->Option { p:Expr×Pos // x=.Expr p.1 p.2 }
 | .Expr e p=>some ⟨(e,p),rfl⟩
 | _=>none
noncomputable def vSet:(x:Stmt)->Option { p:Str×Pos×Expr×Pos // x=.Assign [.Name p.1 p.2.1] p.2.2.1 p.2.2.2 }
 | .Assign [.Name y yp] v p=>some ⟨(y,yp,v,p),rfl⟩
 | _=>none
structure ChkS where
 s:GI->Stmt->Bool
 b:GI->List Stmt->Bool
noncomputable def mkS(f:GI->Stmt->Bool):ChkS:=⟨f,fun _ _=>false⟩
noncomputable def isComp:CE->Bool
 | .comp .. | .compz ..=>true
 | _=>false
noncomputable def ckP(g:GI)(n:Str):HP->Expr->Bool
 | .isx nm=>fun e=>onV (zaX e) fun c=>c.1==("isinstance" : Str)&&onV (vNm c.2.2.1) (fun m=>m.1==n)&&(match c.2.2.2.1 with
  | [k]=>onV (vNm k) (fun k=>k.1==nm)&&zaL g nm
  | _=>false)
 | .lit l=>fun e=>onV (vCst e) fun k=>l.ck k.1
noncomputable def ckA(g:GI)(n:Str):List HP->List Expr->Bool
 | []=>fun es=>es.isEmpty
 | p::r=>fun es=>match es with
  | e::es=>ckP g n p e&&ckA g n r es
  | []=>false
noncomputable def ckT(g:GI)(n:Str)(ps:List HP)(e:Expr):Bool:=onV (vTup e) fun t=>ckA g n ps t.1
noncomputable def ckHs(g:GI)(n:Str)(y:Nat):List (List HP)->List Stmt->Bool
 | []=>fun sts=>sts.isEmpty
 | p::r=>fun sts=>match sts with
  | st::sts=>onV (vSet st) (fun a=>zba g y a.1&&zby g a.1&&onV (vAdd a.2.2.1) fun b=>onV (vNm b.1) (fun m=>m.1==a.1)&&ckT g n p b.2.1)&&ckHs g n y r sts
  | []=>false
noncomputable def ckX(T:TabC)(f:Nat)(as:CE)(g:GI)(e:Expr):Bool:=match T.fx f with
 | some fi=>onV (zaX e) fun c=>zaL g c.1&&c.1==fi.nm&&decide (as.len<=fi.np)&&decide (fi.np-as.len<=fi.dds.length)&&(chkC T as).a g (c.2.2.1::c.2.2.2.1)
 | none=>false
noncomputable def zbr(T:TabC):CS->ChkS
 | .nil=>⟨fun _ _=>false,fun _ sts=>sts.isEmpty⟩
 | .seq s r=>⟨fun _ _=>false,fun g sts=>match sts with | x::xs=>(zbr T s).s g x&&(zbr T r).b g xs | []=>false⟩
 | .set i e=>mkS fun g x=>match x with
  | .Assign [.Name y p] v _=>zba g i y&&(chkC T e).e g v&&(zaH v||g.kd y==some .cell||(swapB g y p v&&isComp e))
  | _=>false
 | .set2 i j e=>mkS fun g x=>match x with
  | .Assign [.Tuple [.Name y _,.Name z _] _ _] v _=>zba g i y&&zba g j z&&(chkC T e).e g v&&zaH v&&notTup v
  | _=>false
 | .ret e=>mkS fun g x=>match x with
  | .Return (some v) _=>(chkC T e).e g v
  | _=>false
 | .ite c a b=>mkS fun g x=>match x with
  | .If t y z _=>(chkC T c).e g t&&(zbr T a).b g y&&(zbr T b).b g z
  | _=>false
 | .for1 i it b=>mkS fun g x=>match x with
  | .For (.Name y _) iter body [] _=>zba g i y&&zaT iter&&(chkC T it).i g iter&&(zbr T b).b g body
  | _=>false
 | .ex e=>mkS fun g x=>match x with
  | .Expr v _=>(chkC T e).e g v&&zaH v
  | _=>false
 | .whil c b=>mkS fun g x=>match x with
  | .While t body [] _=>(chkC T c).e g t&&(zbr T b).b g body
  | _=>false
 | .setf c f o v=>mkS fun g x=>match x with
  | .Assign [.Attribute z n _] w _=>n==f&&T.fd.contains (c,f)&&(chkC T o).e g z&&(chkC T v).e g w&&zaH w
  | _=>false
 | .dput d k v=>mkS fun g x=>match x with
  | .Assign [.Subscript y z _] w _=>(chkC T d).e g y&&(chkC T k).e g z&&(chkC T v).e g w&&zaH w
  | _=>false
 | .faug c f o v=>mkS fun g x=>match x with
  | .AugAssign (.Attribute z n _) .Add w _=>n==f&&T.fd.contains (c,f)&&(chkC T o).e g z&&(chkC T v).e g w
  | _=>false
 | .lput d k v=>mkS fun g x=>match x with
  | .Assign [.Subscript y z _] w _=>(chkC T d).e g y&&(chkC T k).e g z&&(chkC T v).e g w
  | _=>false
noncomputable abbrev chkS(T:Tab)(c:CS):ChkS:=zbr T.toTabC c
structure RelS(X:Cx)(T:Tab)(g:GI):Prop extends Rel X T g where
 kind:X.env.scope.kind=.function
 pass:PassesOwn (model X.prog X.w) X.A X.env X.xe
 own:∀ x,g.kd x=some .cell->X.env.scope.names.lookup x=some .cell
 fn:∀ x,X.fn x=true
section
variable{X:Cx}{T:Tab}{g:GI}
theorem Q1l(h:zaH v=true):swapsWith v t l env=pure false:=by
 cases v <;> first | rfl | cases h
theorem Q6m(h:env.scope.names.lookup y=some .cell):swapsWith v (some (.Name y p)) l env=pure false:=by
 have hk:(env.kindOf y==some .local)=false:=by rw[show env.kindOf y=some .cell from h];rfl
 cases v with
 | ListComp el gens sc pp =>
  show (pure (env.blockKind==.function&&env.kindOf y==some .local&&p.line==pp.line && !(sc.names.any fun(n,k)=>n==y&&(k==.local||k==.cell))):Sem Bool)=pure false;rw[hk,Bool.and_false,Bool.false_and,Bool.false_and]
 | SetComp el gens sc pp =>
  show (pure (env.blockKind==.function&&env.kindOf y==some .local&&p.line==pp.line && !(sc.names.any fun(n,k)=>n==y&&(k==.local||k==.cell))):Sem Bool)=pure false;rw[hk,Bool.and_false,Bool.false_and,Bool.false_and]
 | DictComp k el gens sc pp =>
  show (pure (env.blockKind==.function&&env.kindOf y==some .local&&p.line==pp.line && !(sc.names.any fun(n,k)=>n==y&&(k==.local||k==.cell))):Sem Bool)=pure false;rw[hk,Bool.and_false,Bool.false_and,Bool.false_and]
 | _=>rfl
theorem RelS.loc(R:RelS X T g)(h:zba g i y=true):X.N.Nodup/\X.N[i]? = some y/\Loc X.env.scope y/\(X.fn y=true\/X.env.scope.names.lookup y=some .local):=by
 unfold zba at h;simp only[Zh,or_eq_true,Zx]at h;refine⟨by rw[R.N];exact R.nd,by rw[R.N];exact h.1,?_,.inl (R.fn y)⟩
 rcases h.2 with q | q
 ·exact .inl (R.lc y q)
 ·exact .inr (R.own y q)
theorem RelS.tg(R:RelS X T g)(h:zba g i y=true):DL.DG X (.Name y p) (zat i):=by
 obtain⟨a,b,c,d⟩:=R.loc h;exact Q9r a b c d
structure SndS(T:Tab)(c:CS):Prop where
 s:∀ {X:Cx} {g:GI},RelS X T g->∀ {x:Stmt},(chkS T c).s g x=true->DL.DS X x (evS T c)
 b:∀ {X:Cx} {g:GI},RelS X T g->∀ {xs:List Stmt},(chkS T c).b g xs=true->DSs X xs (evS T c)
theorem SndS.of{f:GI->Stmt->Bool}(hc:chkS T c=mkS f)(h:∀ {X:Cx} {g:GI},RelS X T g->∀ {x:Stmt},f g x=true->DL.DS X x (evS T c)):SndS T c where
 s:=fun R x q=>by rw[hc]at q;exact h R q
 b:=fun R x q=>by rw[hc]at q;cases q
theorem Q8b:SndS T (.set i e):=by
 refine SndS.of rfl fun{X g} R {x} q=>?_;split at q
 ·rename_i y p v sp;simp only[Zh,or_eq_true]at q;obtain⟨⟨q1,q2⟩,q3⟩:=q;obtain⟨l1,l2,l3,l4⟩:=R.loc q1;rcases q3 with (q3 | q3) | ⟨q3,q4⟩
  ·exact Q8A l1 l2 l3 ((snd e).e R.toRel q2) (Q1l q3) l4
  ·exact Q8A l1 l2 l3 ((snd e).e R.toRel q2) (Q6m (R.own y (Zx.mp q3))) l4
  ·unfold swapB at q3;split at q3
   ·rename_i el gens sc pp;simp only[Zh,Zx,not_eq_true']at q3;obtain⟨⟨r1,r2⟩,r3⟩:=q3;have hl:=R.lc y r1;have hb:X.env.blockKind=.function:=by unfold Env.blockKind;rw[R.kind];rfl
    have hsw:swapsWith (.ListComp el gens sc pp) (some (.Name y p)) sp.line X.env=pure true:=by
     show (pure (X.env.blockKind==.function&&X.env.kindOf y==some .local&&p.line==pp.line && !(sc.names.any fun(n,k)=>n==y&&(k==.local||k==.cell))):Sem Bool)=pure true;have hk:X.env.kindOf y=some .local:=hl;rw[hb,hk,r2,r3];simp
    unfold isComp at q4;split at q4
    ·rename_i two ix it c el';obtain⟨elt,tg,iter,ifs,scope,pos,ts,fn,gV,e0,h1,h2,h3,h4,h5,h6,h7,h8⟩:=Q1r (snd it) (snd c) (snd el') R.toRel q2;cases e0;exact Q4O R.tp R.tk hsw l1 l2 hl h1 R.calm h2 h3 h4 h5 h6 h7 h8
    ·rename_i two ix it c el';obtain⟨elt,tg,iter,ifs,scope,pos,ts,fn,gV,e0,h1,h2,h3,h4,h5,h6,h7,h8⟩:=Q1r (snd it) (snd c) (snd el') R.toRel q2;cases e0;exact Q3S R.tp R.tk hsw l1 l2 hl h1 R.calm h2 h3 h4 h5 h6 h7 h8
    ·cases q4
   ·cases q3
 ·cases q
theorem Q6n:SndS T (.set2 i j e):=by
 refine SndS.of rfl fun{X g} R {x} q=>?_;split at q
 ·rename_i y p z p' k pp v sp;simp only[Zh]at q;obtain⟨⟨⟨⟨q1,q2⟩,q3⟩,q4⟩,q5⟩:=q;exact Qbd ((snd e).e R.toRel q3) (Qbc R.calm (Q4l (R.tg q1) (Q4l (R.tg q2) Q9s))) (by unfold swapsWithSole;exact Q1l q4) (by cases v <;> first | rfl | cases q5)
 ·cases q
theorem Q8c:SndS T (.ret e):=by
 refine SndS.of rfl fun{X g} R {x} q=>?_;split at q
 ·exact Qbb ((snd e).e R.toRel q)
 ·cases q
theorem Q8d(ha:SndS T a)(hb:SndS T b):SndS T (.ite c a b):=by
 refine SndS.of rfl fun{X g} R {x} q=>?_;split at q
 ·simp only[Zh]at q;exact ds_if ((snd c).t R.toRel q.1.1) (ha.b R q.1.2) (hb.b R q.2)
 ·cases q
theorem Q6o(hb:SndS T b):SndS T (.for1 i it b):=by
 refine SndS.of rfl fun{X g} R {x} q=>?_;split at q
 ·simp only[Zh]at q;obtain⟨⟨⟨q1,q2⟩,q3⟩,q4⟩:=q;exact Qbe R.pass R.calm ((snd it).i R.toRel q3) (R.tg q1) (hb.b R q4) (Q2P q2)
 ·cases q
theorem Qag:SndS T (.ex e):=by
 refine SndS.of rfl fun{X g} R {x} q=>?_;split at q
 ·simp only[Zh]at q;exact Q9q ((snd e).e R.toRel q.1) (Q1l q.2)
 ·cases q
theorem Rel.holds(R:Rel X T g)(hno:∀ c M,¬ T.xd c M)(pins:List (Addr×Obj))(E:Value->Shared->Prop):Rel (X.holds pins E) T g where
 N:=R.N
 nd:=R.nd
 calm:=R.calm
 gl:=R.gl
 lc:=R.lc
 cf:=R.cf
 fns:=fun f fi e=>⟨(R.fns f fi e).ex⟩
 kfs:=fun f ki e=>⟨(R.kfs f ki e).ex⟩
 fxs:=fun f fi e=>⟨(R.fxs f fi e).ex⟩
 cls:=R.cls
 tk:=fun _ _ _ _ _ _ _ ⟨c,_,M,_,_,_,h⟩=>(hno c M h).elim
 tp:=⟨R.tp.ex⟩
 con:=R.con
 nob:=R.nob
 isx:=R.isx
 lks:=R.lks
 mts:=fun f mi e=>⟨(R.mts f mi e).ex⟩
 mks:=fun f mi e=>⟨(R.mks f mi e).ex⟩
 fds:=R.fds
 un:=R.un
theorem Q6p(hb:SndS T b):SndS T (.whil c b):=by
 refine SndS.of rfl fun{X g} R {x} q=>?_;split at q
 ·simp only[Zh]at q;exact Q7w R.pass ((snd c).t R.toRel q.1) (hb.b R q.2)
 ·cases q
theorem Q6q:SndS T (.setf c f o v):=by
 refine SndS.of rfl fun{X g} R {x} q=>?_;split at q
 ·simp only[Zh,Zx,List.contains_eq_mem,Ze]at q;obtain⟨⟨⟨⟨rfl,q1⟩,q2⟩,q3⟩,q4⟩:=q;obtain⟨C,h1,h2,h3⟩:=R.fds _ q1;exact Q9H h1 h2 h3 ((snd o).e R.toRel q2) ((snd v).e R.toRel q3) (Q1l q4)
 ·cases q
theorem Q6r:SndS T (.dput d k v):=by
 refine SndS.of rfl fun{X g} R {x} q=>?_;split at q
 ·simp only[Zh]at q;obtain⟨⟨⟨q1,q2⟩,q3⟩,q4⟩:=q;exact Q9M (hu1 R.toRel) ((snd d).e R.toRel q1) ((snd k).e R.toRel q2) ((snd v).e R.toRel q3) (Q1l q4)
 ·cases q
theorem Q8e:swapsWith v (some (.Subscript y z p)) l env=pure false:=by
 cases v <;> rfl
theorem Q6s:SndS T (.lput d k v):=by
 refine SndS.of rfl fun{X g} R {x} q=>?_;split at q
 ·simp only[Zh]at q;obtain⟨⟨q1,q2⟩,q3⟩:=q;exact Q9T ((snd d).e R.toRel q1) ((snd k).e R.toRel q2) ((snd v).e R.toRel q3) Q8e
 ·cases q
theorem Q6t:SndS T (.faug c f o v):=by
 refine SndS.of rfl fun{X g} R {x} q=>?_;split at q
 ·simp only[Zh,Zx,List.contains_eq_mem,Ze]at q;obtain⟨⟨⟨rfl,q1⟩,q2⟩,q3⟩:=q;obtain⟨C,h1,h2,h3⟩:=R.fds _ q1;exact Q9V h1 h2 h3 ((snd o).e R.toRel q2) ((snd v).e R.toRel q3)
 ·cases q
structure HRel(X:Cx)(T:Tab)(g:GI)(Y:Cx)(n:Str)(je c:Nat)(a C:Addr)(oe:Obj):Prop where
 R:RelS X T g
 y:Y=L2.handlingAs X a oe
 vis:zby g n=true
 own:X.N[je]? = some n
 bi:zaZ T.toTabC g "isinstance" = true
 cl:∃ x,T.cl c=some x/\X.mg x=some (.ref C)
 oc:oe.cls=.ref C
theorem sndS:∀ c:CS,SndS T c
 | .nil=>⟨fun _ _ q=>(nomatch q),fun{X g} R {xs} q=>by
   have:xs=[]:=isEmpty_iff.mp q;subst this;exact Q9p⟩
 | .seq s r=>⟨fun _ _ q=>(nomatch q),fun{X g} R {xs} q=>by
   match xs,q with
   | x::xs,q =>
    have q':((chkS T s).s g x&&(chkS T r).b g xs)=true:=q;rw[Zh]at q';exact Q7m ((sndS s).s R q'.1) ((sndS r).b R q'.2)⟩
 | .set _ _=>Q8b
 | .set2 _ _ _=>Q6n
 | .ret _=>Q8c
 | .ite _ a b=>Q8d (sndS a) (sndS b)
 | .for1 _ _ b=>Q6o (sndS b)
 | .ex _=>Qag
 | .whil _ b=>Q6p (sndS b)
 | .setf _ _ _ _=>Q6q
 | .dput _ _ _=>Q6r
 | .lput _ _ _=>Q6s
 | .faug _ _ _ _=>Q6t
end
structure FunV(K:Frag)(x qual:Str)(st:Stmt)(f:Addr)(fd:FuncData)(dV:Value):Prop where
 ex:∃ (oc:Value) (od:Option Addr) (kV doc pm:Value) (an:Option Addr) (cdv ct:Value) (osl:Array (Option Value)),
  fd=fnOf x qual (zah st) (zab st) (za4 st) dV kV doc pm an cdv ct/\K.lookup f=some ⟨oc,od,.func fd,osl⟩/\codeIn K cdv qual=true
 kp:keepIn K (.ref f)=true
theorem _root_.L2.Fun.v{K:Frag}{x qual:Str}{st:Stmt}{f:Addr}{fd:FuncData}(F:Fun K x qual st f fd):FunV K x qual st f fd .none:=⟨F.ex,F.kp⟩
theorem FunV.ok{P:Program}{w:World}{K:Frag}{mg:Str->Option Value}{base:Heap}{x qual:Str}{st:Stmt}{f:Addr}{fd:FuncData}{dV:Value}{N ps:List Str}{k:Nat}{sp:DSp}(F:FunV K x qual st f fd dV)(S:zaK N ps (za4 st))(len:∀ ds M R,sp ds M R->ds.length=ps.length)
  (hb:∀ (cdv:Value) (A:Around) (outer:List Env) (s:Shared) (H:Hp) (E:XK),Room k (A.deeper (envOfC qual (za4 st) s.heap.objs.size f cdv)) ->
   ∃ td:DTS,DSs (cxOf CX0 P w K mg base N qual (za4 st) f cdv A outer s H E).nox (zab st) td/\∀ ds M R,sp ds M R->td (za0 R) (za1 N ds) M):FnOk P w K mg base CX0 (k+1) f fd ps (lSp K sp):=by
 obtain⟨oc,od,kV,doc,pm,an,cdv,ct,osl,rfl,lk,hcd⟩:=F.ex;refine fn_of lk hcd S (fun vs H Q E ⟨ds,M,R,e,m,h,k⟩=>by rw[<- e.length];exact len ds M R h) fun A outer s H vs Q E hr ⟨ds,M,R,e,m,h,k⟩=>?_
 obtain⟨td,ht,hq⟩:=hb cdv A outer s H E hr;refine⟨_,ht.nox,za1 N ds,M,za0 R,?_,m,hq ds M R h,⟨fun ρ' M' σ' H' ⟨M0,q0,q⟩ x' s' m'=>k .non M0 .non H' q x' (m'.sub q0) .non,fun d M' v H' ⟨M0,q0,q⟩ x' m' e'=>k d M0 v H' q x' (m'.sub q0) e',fun _ _ _ _ q=>q.elim,fun _ _ _ _ q=>q.elim⟩⟩;unfold za1 L2.start;rw[<- e.length];exact (SimS.ofDens e).append (SimS.nones _)
structure TabOk(P:Program)(w:World)(K:Frag)(mg:Str->Option Value)(base:Heap)(T:Tab)(k:Nat):Prop where
 fns:∀ f fi,T.fn f=some fi->∃ (j:Nat) (fa:Addr) (fd:FuncData) (ps:List Str),j<=k/\FnOk P w K mg base CX0 j fa fd ps (lSp K fi.sp)/\mg fi.nm=some (.ref fa)/\keepIn K (.ref fa)=true/\ps.length=fi.np /\
  ∀ j,j<=fi.dds.length->∃ (ds:List Value) (dvs:List V),Binds K fd ps ds/\Vals dvs ds/\∀ H,Dens K H (fi.dds.drop j) dvs
 fxs:∀ f fi,T.fx f=some fi->∃ (j:Nat) (fa:Addr) (fd:FuncData) (ps:List Str),j<=k/\FnOk P w K mg base (CX1 P w) j fa fd ps (lSpX K mg T.cl fi.sp)/\mg fi.nm=some (.ref fa)/\keepIn K (.ref fa)=true/\ps.length=fi.np /\
  ∀ j,j<=fi.dds.length->∃ (ds:List Value) (dvs:List V),Binds K fd ps ds/\Vals dvs ds/\∀ H,Dens K H (fi.dds.drop j) dvs
 cls:∀ c x,T.cl c=some x->∃ C,mg x=some (.ref C)/\XCls K C
 kfs:∀ f ki,T.kfn f=some ki->∃ (j:Nat) (fa:Addr) (fd:FuncData) (ps:List Str) (gv:List Value->List Value->List Value) (gV:List V->List V->List V),j<=k/\FnOk P w K mg base CX0 j fa fd ps (lSp K ki.sp)/\mg ki.nm=some (.ref fa)/\keepIn K (.ref fa)=true /\
  zc0 K fd ps ki.ks gv gV/\∀ H ds vs zs ws,Dens K H ds vs->Dens K H zs ws->Dens K H (ki.g ds zs) (gV vs ws)
 con:∀ i p,T.con i=some p->∃ u v,mg p.1=some u/\L2.RelV v u/\∀ H,Den K H p.2 v
 nob:∀ x∈T.bl,mg x=none
 isx:∀ c nm b,T.isx c nm=some b->IsxOk K mg T.cl c nm b
 lks:∀ x∈T.lk,∃ C,mg x=some (.ref C)/\XLook K C
 mts:∀ f mi,T.mt f=some mi->∃ (j:Nat) (C fa:Addr) (fd:FuncData) (ps:List Str),j+1<=k/\nsIn K mainGlobals mi.cl=some (some (.ref C))/\Cls K C/\Meth K C mi.nm fa/\FnOk P w K mg base CX0 j fa fd ps (lSp K mi.sp)/\Binds K fd ps []
 mks:∀ f mi,T.ini f=some mi->∃ (j:Nat) (C fa:Addr) (fd:FuncData) (ps:List Str),j+1<=k/\nsIn K mainGlobals mi.cl=some (some (.ref C))/\mg mi.cl=some (.ref C)/\Mk K C fa/\FnOk P w K mg base CX0 j fa fd ps (lSp K mi.sp)/\Binds K fd ps []
 fds:∀ p∈T.fd,FdOk K p.1 p.2
theorem room100(r:Room k A):A.units+100<cLine:=by have:=r.un;omega
theorem Q4z{P:Program}{w:World}{K:Frag}{mg:Str->Option Value}{base:Heap}{T:Tab}{k:Nat}{x qual:Str}{st:Stmt}{f:Addr}{fd:FuncData}{N ps:List Str}{sp:DSp}(body:CS)
  (O:TabOk P w K mg base T k) {dV:Value} (F:FunV K x qual st f fd dV) (S:zaK N ps (za4 st)) (hc:(chkS T body).b ⟨N,(za4 st).names⟩ (zab st)=true)
  (len:∀ ds M R,sp ds M R->ds.length=ps.length) (hb:∀ ds M R,sp ds M R->evS T body (za0 R) (za1 N ds) M) (hno:∀ c M,¬ T.xd c M:=by intro _ _ h;exact h):FnOk P w K mg base CX0 (k+1) f fd ps (lSp K sp):=by
 refine F.ok S len fun cdv A outer s H E hr=>⟨evS T body,(sndS body).b (g:=⟨N,(za4 st).names⟩) ?_ hc,hb⟩;refine { N:=rfl,nd:=S.nd,calm:=rfl,gl:=fun x e=>e,lc:=fun x e=>e,cf:=fun x e=>e,fns:=fun f fi e=>?_,kfs:=fun f ki e=>?_,fxs:=fun f fi e=>?_,cls:=O.cls,tk:=fun _ _ _ _ _ _ _ ⟨c,_,M,_,_,_,h⟩=>(hno c M h).elim,tp:=⟨_,_,_,rfl,rfl,rfl⟩,con:=O.con,nob:=O.nob,isx:=O.isx,lks:=O.lks,mts:=fun f mi e=>?_,mks:=fun f mi e=>?_,fds:=O.fds,un:=room100 hr,kind:=S.kind,pass:=PassesOwn.never,own:=fun x e=>e,fn:=fun _=>rfl }
 ·obtain⟨j,fa,fd,ps,hj,F,h1,h2,h3,h4⟩:=O.fns f fi e;exact⟨⟨j,fa,fd,ps,F,hr.mono hj,h1,h2,h3,h4⟩⟩
 ·obtain⟨j,fa,fd,ps,gv,gV,hj,F,h1,h2,h3,h4⟩:=O.kfs f ki e;exact⟨⟨j,fa,fd,ps,gv,gV,F,hr.mono hj,h1,h2,h3,h4⟩⟩
 ·obtain⟨j,fa,fd,ps,hj,F,h1,h2,h3,h4⟩:=O.fxs f fi e;exact⟨⟨j,fa,fd,ps,F,hr.mono hj,h1,h2,h3,h4⟩⟩
 ·obtain⟨j,C,fa,fd,ps,hj,h1,h2,h3,F,h4⟩:=O.mts f mi e;exact⟨⟨j,C,fa,fd,ps,h1,h2,h3,F,hr.mono hj,h4⟩⟩
 ·obtain⟨j,C,fa,fd,ps,hj,h1,h2,h3,F,h4⟩:=O.mks f mi e;exact⟨⟨j,C,fa,fd,ps,h1,h2,h3,F,hr.mono hj,h4⟩⟩
theorem Q1m{K:Frag}{mg:Str->Option Value}{nm x:Str}{t:Tok}{codes:List Nat}(hm:mg nm=some (.str x t))(h:S codes=x)(hc:cpOk codes):∃ u v,mg nm=some u/\L2.RelV v u/\∀ H,Den K H (.str codes) v :=
 ⟨_,.str (S codes),hm,⟨t,by rw[h]⟩,fun H=>.str _ hc⟩
noncomputable def Tab.only(T:Tab)(l:List Nat):Tab:={ T with fn:=fun i=>if i∈l then T.fn i else none,kfn:=fun i=>if i∈l then T.kfn i else none,fx:=fun i=>if i∈l then T.fx i else none,mt:=fun i=>if i∈l then T.mt i else none,ini:=fun i=>if i∈l then T.ini i else none }
noncomputable def KOk(P:Program)(w:World)(K:Frag)(mg:Str->Option Value)(base:Heap)(ki:KI)(k:Nat):Prop :=
 ∃ (j:Nat) (fa:Addr) (fd:FuncData) (ps:List Str) (gv:List Value->List Value->List Value) (gV:List V->List V->List V),j<=k/\FnOk P w K mg base CX0 j fa fd ps (lSp K ki.sp)/\mg ki.nm=some (.ref fa)/\keepIn K (.ref fa)=true /\
  zc0 K fd ps ki.ks gv gV/\∀ H ds vs zs ws,Dens K H ds vs->Dens K H zs ws->Dens K H (ki.g ds zs) (gV vs ws)
noncomputable def FOk(P:Program)(w:World)(K:Frag)(mg:Str->Option Value)(base:Heap)(fi:FI)(k:Nat):Prop :=
 ∃ (j:Nat) (fa:Addr) (fd:FuncData) (ps:List Str),j<=k/\FnOk P w K mg base CX0 j fa fd ps (lSp K fi.sp)/\mg fi.nm=some (.ref fa)/\keepIn K (.ref fa)=true/\ps.length=fi.np /\
  ∀ j,j<=fi.dds.length->∃ (ds:List Value) (dvs:List V),Binds K fd ps ds/\Vals dvs ds/\∀ H,Dens K H (fi.dds.drop j) dvs
section
variable{P:Program}{w:World}{K:Frag}{mg:Str->Option Value}{base:Heap}{T:Tab}{k:Nat}{fi:FI}
theorem FOk.mono(h:FOk P w K mg base fi j)(hk:j<=k):FOk P w K mg base fi k:=by
 obtain⟨i,fa,fd,ps,h1,h2⟩:=h;exact⟨i,fa,fd,ps,Z3 h1 hk,h2⟩
theorem TabOk.nil(hc:∀ i p,T.con i=some p->∃ u v,mg p.1=some u/\L2.RelV v u/\∀ H,Den K H p.2 v)(hb:∀ x∈T.bl,mg x=none)(hcl:∀ c x,T.cl c=some x->∃ C,mg x=some (.ref C)/\XCls K C)
  (hix:∀ c nm b,T.isx c nm=some b->IsxOk K mg T.cl c nm b:=by intro _ _ _ h;cases h) (hlk:∀ x∈T.lk,∃ C,mg x=some (.ref C)/\XLook K C:=by intro _ h;cases h) (hfd:∀ p∈T.fd,FdOk K p.1 p.2:=by intro _ h;cases h):TabOk P w K mg base (T.only []) k :=
 ⟨fun f fi e=>by simp[Tab.only]at e,fun f fi e=>by simp[Tab.only]at e,hcl,fun f fi e=>by simp[Tab.only]at e,hc,hb,hix,hlk,fun f fi e=>by simp[Tab.only]at e,fun f fi e=>by simp[Tab.only]at e,hfd⟩
theorem Q2j{α:Type}{F:Nat->Option α}{f f':Nat}{l:List Nat}{y:α}(h:(if f'∈f::l then F f' else none)=some y):(f'=f/\F f=some y)\/(if f'∈l then F f' else none)=some y:=by
 by_cases hf:f'=f
 ·subst hf;rw[Zg Zv]at h;exact .inl ⟨rfl,h⟩
 ·right;by_cases hm:f'∈l
  ·rw[Zg (Zk _ hm)]at h;rw[Zg hm];exact h
  ·rw[Zc (by simp[hf,hm])]at h
   cases h
noncomputable def XOk(P:Program)(w:World)(K:Frag)(mg:Str->Option Value)(base:Heap)(cn:CN)(fi:FX)(k:Nat):Prop :=
 ∃ (j:Nat) (fa:Addr) (fd:FuncData) (ps:List Str),j<=k/\FnOk P w K mg base (CX1 P w) j fa fd ps (lSpX K mg cn fi.sp)/\mg fi.nm=some (.ref fa)/\keepIn K (.ref fa)=true/\ps.length=fi.np /\
  ∀ j,j<=fi.dds.length->∃ (ds:List Value) (dvs:List V),Binds K fd ps ds/\Vals dvs ds/\∀ H,Dens K H (fi.dds.drop j) dvs
theorem XOk.mono{cn:CN}{fi:FX}{j:Nat}(h:XOk P w K mg base cn fi j)(hk:j<=k):XOk P w K mg base cn fi k:=by
 obtain⟨i,fa,fd,ps,h1,h2⟩:=h;exact⟨i,fa,fd,ps,Z3 h1 hk,h2⟩
noncomputable def MtOk(P:Program)(w:World)(K:Frag)(mg:Str->Option Value)(base:Heap)(mi:MI)(k:Nat):Prop :=
 ∃ (j:Nat) (C fa:Addr) (fd:FuncData) (ps:List Str),j+1<=k/\nsIn K mainGlobals mi.cl=some (some (.ref C))/\Cls K C/\Meth K C mi.nm fa/\FnOk P w K mg base CX0 j fa fd ps (lSp K mi.sp)/\Binds K fd ps []
noncomputable def MkOk(P:Program)(w:World)(K:Frag)(mg:Str->Option Value)(base:Heap)(mi:MI)(k:Nat):Prop :=
 ∃ (j:Nat) (C fa:Addr) (fd:FuncData) (ps:List Str),j+1<=k/\nsIn K mainGlobals mi.cl=some (some (.ref C))/\mg mi.cl=some (.ref C)/\Mk K C fa/\FnOk P w K mg base CX0 j fa fd ps (lSp K mi.sp)/\Binds K fd ps []
theorem MtOk.mono(h:MtOk P w K mg base mi j)(hk:j<=k):MtOk P w K mg base mi k:=by
 obtain⟨i,C,fa,fd,ps,h1,h2⟩:=h;exact⟨i,C,fa,fd,ps,Z3 h1 hk,h2⟩
theorem MkOk.mono(h:MkOk P w K mg base mi j)(hk:j<=k):MkOk P w K mg base mi k:=by
 obtain⟨i,C,fa,fd,ps,h1,h2⟩:=h;exact⟨i,C,fa,fd,ps,Z3 h1 hk,h2⟩
theorem TabOk.add{f:Nat}{l:List Nat}(r:TabOk P w K mg base (T.only l) k)(h1:∀ fi,T.fn f=some fi->FOk P w K mg base fi k)(h2:∀ ki,T.kfn f=some ki->KOk P w K mg base ki k)(h3:∀ fi,T.fx f=some fi->XOk P w K mg base T.cl fi k)
  (h4:∀ mi,T.mt f=some mi->MtOk P w K mg base mi k) (h5:∀ mi,T.ini f=some mi->MkOk P w K mg base mi k):TabOk P w K mg base (T.only (f::l)) k :=
 {cls:=r.cls
  fxs:=fun f' fi' e'=>by
   rcases Q2j e' with ⟨rfl,e'⟩ | e'
   ·exact h3 _ e'
   ·exact r.fxs f' fi' e'
  fns:=fun f' fi' e'=>by
   rcases Q2j e' with ⟨rfl,e'⟩ | e'
   ·exact h1 _ e'
   ·exact r.fns f' fi' e'
  kfs:=fun f' ki e'=>by
   rcases Q2j e' with ⟨rfl,e'⟩ | e'
   ·exact h2 _ e'
   ·exact r.kfs f' ki e'
  mts:=fun f' mi e'=>by
   rcases Q2j e' with ⟨rfl,e'⟩ | e'
   ·exact h4 _ e'
   ·exact r.mts f' mi e'
  mks:=fun f' mi e'=>by
   rcases Q2j e' with ⟨rfl,e'⟩ | e'
   ·exact h5 _ e'
   ·exact r.mks f' mi e'
  con:=r.con
  nob:=r.nob
  isx:=r.isx
  lks:=r.lks
  fds:=r.fds }
theorem no_of{α:Type}{o:Option α}{p:α->Prop}(h:o=none):∀ x,o=some x->p x:=fun x e=>by rw[h]at e;cases e
theorem Q6u{α:Type}{o:Option α}{p:α->Prop}{y:α}(h:o=some y)(hp:p y):∀ x,o=some x->p x:=fun x e=>by rw[h]at e;cases e;exact hp
theorem TabOk.cons{f:Nat}{l:List Nat}(e:T.fn f=some fi)(h:FOk P w K mg base fi k)(r:TabOk P w K mg base (T.only l) k)(en:T.kfn f=none)(ex:T.fx f=none)(em:T.mt f=none:=by rfl)(ei:T.ini f=none:=by rfl):TabOk P w K mg base (T.only (f::l)) k :=
 r.add (Q6u e h) (no_of en) (no_of ex) (no_of em) (no_of ei)
theorem TabOk.consM{f:Nat}{l:List Nat}{mi:MI}(e:T.mt f=some mi)(h:MtOk P w K mg base mi k)(r:TabOk P w K mg base (T.only l) k)(en:T.fn f=none)(ek:T.kfn f=none)(ex:T.fx f=none:=by rfl)(ei:T.ini f=none:=by rfl):TabOk P w K mg base (T.only (f::l)) k :=
 r.add (no_of en) (no_of ek) (no_of ex) (Q6u e h) (no_of ei)
theorem TabOk.consI{f:Nat}{l:List Nat}{mi:MI}(e:T.ini f=some mi)(h:MkOk P w K mg base mi k)(r:TabOk P w K mg base (T.only l) k)(en:T.fn f=none)(ek:T.kfn f=none)(ex:T.fx f=none:=by rfl)(em:T.mt f=none:=by rfl):TabOk P w K mg base (T.only (f::l)) k :=
 r.add (no_of en) (no_of ek) (no_of ex) (no_of em) (Q6u e h)
theorem KOk.mono(h:KOk P w K mg base ki j)(hk:j<=k):KOk P w K mg base ki k:=by
 obtain⟨i,fa,fd,ps,gv,gV,h1,h2⟩:=h;exact⟨i,fa,fd,ps,gv,gV,Z3 h1 hk,h2⟩
theorem Q2R{x qual:Str}{st:Stmt}{f:Addr}{oc:Value}{od an:Option Addr}{osl:Array (Option Value)}{dV kV doc pm cdv ct:Value}(l:K.lookup f=some ⟨oc,od,.func (fnOf x qual (zah st) (zab st) (za4 st) dV kV doc pm an cdv ct),osl⟩)
  (c:codeIn K cdv qual=true) (kp:keepIn K (.ref f)=true):FunV K x qual st f (fnOf x qual (zah st) (zab st) (za4 st) dV kV doc pm an cdv ct) dV:=⟨⟨oc,od,kV,doc,pm,an,cdv,ct,osl,rfl,l,c⟩,kp⟩
theorem fok(F:FnOk P w K mg base CX0 k fa fd ps (lSp K sp))(hm:mg nm=some (.ref fa))(hk:keepIn K (.ref fa)=true)(hl:ps.length=np)(hb:Binds K fd ps []) :
  FOk P w K mg base ⟨nm,np,[],sp⟩ k :=
 ⟨k,fa,fd,ps,Zs _,F,hm,hk,hl,fun j _=>⟨[],[],hb,.nil,fun H=>by simp;exact .nil⟩⟩
end
end IR
namespace My
open PySem PySem.Spec L2 DL IR
open PyProof.Rows hiding St
noncomputable abbrev W:=List Nat
noncomputable def dn(ws:List W):D:=.tup (ws.map D.str)
theorem sIx_none(n d:Nat):HT.sIx n d none=d:=rfl
theorem sIx_nat(n d k:Nat):HT.sIx n d (some (k:Int))=min k n:=by
 show (if ((k:Int)<0) then ((k:Int)+(n:Int)).toNat else min (k:Int).toNat n)=min k n
 rw[Zc (by omega)]
 simp
theorem Q1R{α:Type}(xs:List α)(k:Nat):cut xs none (some (k:Int))=xs.take k:=by
 unfold cut;rw[sIx_none,sIx_nat,drop_zero,sub_zero];rcases le_total k xs.length with h | h
 ·rw[min_eq_left h]
 ·rw[min_eq_right h,take_of_length_le (Zs _),take_of_length_le h]
theorem Q8f{α:Type}(xs:List α)(k:Nat):cut xs (some (k:Int)) none=xs.drop k:=by
 unfold cut;rw[sIx_none,sIx_nat];rcases le_total k xs.length with h | h
 ·rw[min_eq_left h,take_of_length_le (by rw[length_drop];exact Zs _)]
 ·rw[min_eq_right h,Yd (Zs _),Yd h];simp
theorem Q6v{α:Type}(xs:List α)(i j:Nat):cut xs (some (i:Int)) (some (j:Int))=(xs.drop i).take (j-i):=by
 unfold cut;rw[sIx_nat,sIx_nat];rcases le_total i xs.length with h | h
 ·rw[min_eq_left h];rcases le_total j xs.length with h' | h'
  ·rw[min_eq_left h']
  ·rw[min_eq_right h',take_of_length_le (by rw[length_drop];exact Zs _),take_of_length_le (by rw[length_drop];omega)]
 ·rw[min_eq_right h,Yd (Zs _),Yd h];simp
theorem atI_nat'{α:Type}(xs:List α)(k:Nat):atI xs (k:Int)=xs[k]?:=by
 unfold atI ixN;by_cases h:k<xs.length
 ·simp[h]
 ·simp[h]
theorem Q0c(h:∀ k:DSt->DH->Prop,k=evS T r DD->evS T s { DD with nx:=k } ρ M):evS T (.seq s r) DD ρ M:=h _ rfl
theorem Q0k(h:∀ k:DSt->DH->Prop,k=u DD->t { DD with nx:=k } ρ M):dSeq t u DD ρ M:=h _ rfl
theorem Q0U{Cd:DH->Prop}(I:Nat->DSt->DH->Prop)(h0:I 0 ρ M)(hC:∀ i ρ M,I i ρ M->Cd M)
  (hs:∀ (i:Nat) (d:D) (ρ:DSt) (M:DH) (k:DSt->DH->Prop),items[i]? = some d->I i ρ M->(∀ ρ' M',I (i+1) ρ' M'->k ρ' M')->g d ρ M fun ρ' M'=>tb { DD with nx:=k,ct:=k,bk:=DD.nx } ρ' M')
  (hd:∀ ρ M,I items.length ρ M->DD.nx ρ M):zb4 g tb DD Cd items ρ M:=by
 have go:∀ (n i:Nat) (ρ:DSt) (M:DH),i+n=items.length->I i ρ M->zb4 g tb DD Cd (items.drop i) ρ M:=by
  intro n
  induction n with
  | zero =>
   intro i ρ M e h;have e':i=items.length:=by omega
   subst e';rw[Yd (Zs _)];exact⟨hC _ _ _ h,hd ρ M h⟩
  | succ n ih =>
   intro i ρ M e h;have hlt:i<items.length:=by omega
   rw[drop_eq_getElem_cons hlt];exact⟨hC _ _ _ h,hs i items[i] ρ M _ (Zf hlt) h fun ρ' M' h'=>ih (i+1) ρ' M' (by omega) h'⟩
 have:=go items.length 0 ρ M (by omega) h0
 simpa using this
theorem Q4A(lo:Int)(n:Nat):(rngD lo n).length=n:=by simp[rngD]
theorem Q4B{lo:Int}{n i:Nat}{d:D}(h:(rngD lo n)[i]? = some d):i<n/\d=.int (lo+(i:Int)):=by
 unfold rngD at h;rw[Zq]at h;cases e:(List.range n)[i]? with
 | none=>rw[e]at h;cases h
 | some j =>
  rw[e]at h;obtain⟨h1,h2⟩:=Zj.mp e;rw[length_range]at h1;rw[List.getElem_range]at h2;subst h2;cases h;exact⟨h1,rfl⟩
theorem Q0L{g:DTG}{tb:DTS}{DD:zb6}{Cd:DH->Prop}{lo:Int}{n:Nat}{ρ:DSt}{M:DH}(I:Nat->DSt->DH->Prop)(h0:I 0 ρ M)(hC:∀ i ρ M,I i ρ M->Cd M)
  (hs:∀ (i:Nat) (ρ:DSt) (M:DH) (k:DSt->DH->Prop),i<n->I i ρ M->(∀ ρ' M',I (i+1) ρ' M'->k ρ' M')->g (.int (lo+(i:Int))) ρ M fun ρ' M'=>tb { DD with nx:=k,ct:=k,bk:=DD.nx } ρ' M')
  (hd:∀ ρ M,I n ρ M->DD.nx ρ M):zb4 g tb DD Cd (rngD lo n) ρ M :=
 Q0U I h0 hC (fun i d ρ M k e h hk=>by obtain⟨h1,rfl⟩:=Q4B e;exact hs i ρ M k h1 h hk) (by rw[Q4A];exact hd)
theorem Q0v{unp:D->Option (List D)}{Cd:DH->Prop}{Q:List D->DH->Prop}(I:Nat->List D->DH->Prop)(h0:I 0 ys M)(hC:∀ i ys M,I i ys M->Cd M)
  (hs:∀ (i:Nat) (d:D) (ys:List D) (M:DH) (k:List D->DH->Prop),items[i]? = some d->I i ys M->(∀ ys' M',I (i+1) ys' M'->k ys' M')->match unp d with
   | some us=>tc (us.map some++fr) M fun b M3=>if b=true then te (us.map some++fr) M3 fun z M4=>ys.length<sizeLine/\k (ys++[z]) M4 else k ys M3
   | none=>False)
  (hd:∀ ys M,I items.length ys M->Q ys M):zaq fr unp tc te Cd Q items ys M:=by
 have go:∀ (n i:Nat) (ys:List D) (M:DH),i+n=items.length->I i ys M->zaq fr unp tc te Cd Q (items.drop i) ys M:=by
  intro n
  induction n with
  | zero =>
   intro i ys M e h;have e':i=items.length:=by omega
   subst e';rw[Yd (Zs _)];exact⟨hC _ _ _ h,hd ys M h⟩
  | succ n ih =>
   intro i ys M e h;have hlt:i<items.length:=by omega
   rw[drop_eq_getElem_cons hlt];exact⟨hC _ _ _ h,hs i items[i] ys M _ (Zf hlt) h fun ys' M' h'=>ih (i+1) ys' M' (by omega) h'⟩
 have:=go items.length 0 ys M (by omega) h0
 simpa using this
theorem Q0C{Cd:DH->Prop}{Q:List D->DH->Prop}(f:D->D)(hC:Cd M)(hl:items.length<=1000)
  (hs:∀ (d:D) (k:D->DH->Prop),d∈items->k (f d) M->te (some d::fr) M k) (hd:Q (items.map f) M):zaq fr (fun d=>some [d]) zb3 te Cd Q items [] M:=by
 refine Q0v (fun i ys M'=>M'=M/\ys=(items.take i).map f) ⟨rfl,by simp⟩ (fun i ys M' h=>by rw[h.1];exact hC) ?_ ?_
 ·rintro i d ys M' k e ⟨rfl,rfl⟩ hk;have hi:=(Zj.mp e).1;simp only[zb3,ZS,Z6,map_nil,cons_append,nil_append];refine hs d _ (Zt e) ⟨small1000 (by rw[Zb,ZA];omega),hk _ _ ⟨rfl,?_⟩⟩
  rw[take_add_one,e,ZC];rfl
 ·rintro ys M' ⟨rfl,rfl⟩;rw[Ym];exact hd
theorem Q1L{Cd:DH->Prop}{Q:List D->DH->Prop}(P:D->D->Prop)(hC:Cd M)(hl:items.length<=1000)
  (hs:∀ (d:D) (k:D->DH->Prop),d∈items->(∀ z,P d z->k z M)->te (some d::fr) M k) (hd:∀ zs:List D,zs.length=items.length->(∀ z∈zs,∃ d∈items,P d z)->Q zs M):zaq fr (fun d=>some [d]) zb3 te Cd Q items [] M:=by
 refine Q0v (fun i ys M'=>M'=M/\ys.length=i/\∀ z∈ys,∃ d∈items,P d z) ⟨rfl,rfl,fun z h=>nomatch h⟩ (fun i ys M' h=>by rw[h.1];exact hC) ?_ ?_
 ·rintro i d ys M' k e ⟨rfl,hy,hp⟩ hk;have hi:=(Zj.mp e).1;simp only[zb3,ZS,Z6,map_nil,cons_append,nil_append];refine hs d _ (Zt e) fun z hz=>⟨small1000 (by omega),hk _ _ ⟨rfl,by rw[Zl,hy];rfl,fun y h=>?_⟩⟩
  rcases Z0.mp h with h | h
  ·exact hp y h
  ·rw[Zp.mp h];exact⟨d,Zt e,hz⟩
 ·rintro ys M' ⟨rfl,hy,hp⟩;exact hd ys hy hp
theorem ix_str(h0:0<=i)(h1:i<z.length)(hz:z.length<=1000)(h:∀ c,z[i.toNat]? = some c->Q (.str [c]) M):rIxD (.str z) (.int i) M Q:=by
 obtain⟨k,rfl⟩:=Int.eq_ofNat_of_zero_le h0;show (match atI z (k:Int) with | some c=>z.length<=sizeLine/\Q (.str [c]) M | none=>False)
 rw[atI_nat',Zf (by omega)]
 exact⟨le_of_lt (small1000 hz),h _ (Zf (by simpa using h1))⟩
theorem ix_tup(h0:0<=i)(h1:i<xs.length)(h:∀ d,xs[i.toNat]? = some d->Q d M):rIxD (.tup xs) (.int i) M Q:=by
 obtain⟨k,rfl⟩:=Int.eq_ofNat_of_zero_le h0;show (match atI xs (k:Int) with | some c=>Q c M | none=>False)
 rw[atI_nat',Zf (by omega)]
 exact h _ (Zf (by simpa using h1))
theorem Q0r(h0:0<=i)(h1:i<xs.length)(h:∀ d,xs[i.toNat]? = some d->Q d M):rIxD (.lst xs) (.int i) M Q:=by
 obtain⟨k,rfl⟩:=Int.eq_ofNat_of_zero_le h0;show (match atI xs (k:Int) with | some c=>Q c M | none=>False)
 rw[atI_nat',Zf (by omega)]
 exact h _ (Zf (by simpa using h1))
theorem Q0e(ws:List W):plain 12 (.tup (ws.map D.str))=true:=by
 show (ws.map D.str).all (plain 11)=true;rw[ZN];intro d hd;obtain⟨w,_,rfl⟩:=ZH.mp hd;rfl
theorem Q2k:∀ {a b:List W},a.map D.str=b.map D.str->a=b
 | [],[],_=>rfl
 | [],_::_,h=>by cases h
 | _::_,[],h=>by cases h
 | x::a,y::b,h=>by
  rw[Z6,Z6,List.cons.injEq]at h;rw[D.str.inj h.1,Q2k h.2]
theorem Q0O(a b:List W):eqB (.tup (a.map D.str)) (.tup (b.map D.str))=decide (a=b):=by
 by_cases h:a=b
 ·rw[Zo h,(Q2g _ _).mpr (by rw[h])]
 ·rw[Z5 h,(Q0W _ _).mpr (fun e=>h (Q2k (D.tup.inj e)))]
theorem Q0f{R:DK}{d:D}{M:DH}(h:R d M):∃ M0,Sub M0 M/\R d M0:=⟨M,Sub.refl M,h⟩
@[elab_as_elim] theorem len1{α:Type}{P:List α->Prop}(us:List α)(h:us.length=1)(k:∀ a,P [a]):P us:=by
 cases us with
 | nil=>cases h
 | cons a t=>cases t with
  | nil=>exact k a
  | cons b t=>cases h
@[elab_as_elim] theorem len2{α:Type}{P:List α->Prop}(us:List α)(h:us.length=2)(k:∀ a b,P [a,b]):P us:=by
 cases us with
 | nil=>cases h
 | cons a t=>exact len1 t (Nat.succ.inj h) (k a)
@[elab_as_elim] theorem len3{α:Type}{P:List α->Prop}(us:List α)(h:us.length=3)(k:∀ a b c,P [a,b,c]):P us:=by
 cases us with
 | nil=>cases h
 | cons a t=>exact len2 t (Nat.succ.inj h) (k a)
@[elab_as_elim] theorem len4{α:Type}{P:List α->Prop}(us:List α)(h:us.length=4)(k:∀ a b c d,P [a,b,c,d]):P us:=by
 cases us with
 | nil=>cases h
 | cons a t=>exact len3 t (Nat.succ.inj h) (k a)
@[elab_as_elim] theorem len5{α:Type}{P:List α->Prop}(us:List α)(h:us.length=5)(k:∀ a b c d e,P [a,b,c,d,e]):P us:=by
 cases us with
 | nil=>cases h
 | cons a t=>exact len4 t (Nat.succ.inj h) (k a)
@[elab_as_elim] theorem len6{α:Type}{P:List α->Prop}(us:List α)(h:us.length=6)(k:∀ a b c d e f,P [a,b,c,d,e,f]):P us:=by
 cases us with
 | nil=>cases h
 | cons a t=>exact len5 t (Nat.succ.inj h) (k a)
open Lean in
local macro_rules | `(tactic| walk_at "ev") => do
 let xs : Array (TSyntax `term):=("IR.evS_nil IR.evS_seq IR.evS_set IR.evS_set2 IR.evS_ret IR.evS_ite IR.evS_for1 IR.evS_ex IR.evS_whil IR.evS_setf IR.evS_dput IR.evS_lput IR.evS_faug IR.ev_var IR.ev_con IR.ev_glob IR.ev_bin IR.ev_cmp IR.ev_chain IR.ev_and IR.ev_or IR.ev_not IR.ev_neg IR.ev_ite IR.ev_ix IR.ev_sl IR.ev_tup IR.ev_lst IR.ev_lstz IR.ev_frz IR.ev_call IR.ev_blt IR.ev_isi IR.ev_ml IR.ev_fld IR.ev_meth IR.ev_make IR.ev_dnew IR.ev_disp1 IR.ev_dix IR.ev_dget2 IR.ev_dget1 IR.ev_dsetd IR.ev_knew IR.ev_fzt IR.ev_kixf IR.ev_dixf IR.ev_kget2 IR.ev_ksetd IR.ev_dpop0 IR.ev_comp IR.ev_compz IR.ev_rng1 IR.ev_rng2 IR.ev_tkeys IR.ev_dkeys IR.ev_nil IR.ev_cons mkE dSeq zbS dRet dRetN dSet dIfS dAsg dFor dDrop dBreak dCont dOp dSl dVar dC za1 dCB zbz zaB dNil dTup dLst zbU zbp zaV zbu zbQ dB dAnd dOr dNot zbq dOrV dNotV dNeg dIf dIsI dMS dML dJoinR zaP diAny diEnum zbb zbv diRev dCallK dBot dRaise dCallX dTryC dTryA gone hP hA hS dIsE rMulS rMulT zbl zag rEqT zbF dFld zbo zbT zbV dJoin FP.d dFmt zbe dDispT rEqL rInD rInO rEqE botE zb1 zb2 dFzT zbG zbL rInF zbJ zbH dLPut rInB rNinB rNeR rDIx zbh zbi zbd zbc zbg zbR dTPut rTIx rInT zbf dSetF dDPut dFzS mSplit m0S zat dgTup zaU dgNil zb3 zb8 Lit.d Bn.r Cp.r Bl.r Ms.r Ml.r rLen zbI rSlD rTuple rList zaM zbM rI2 rLtD rEqN rIsN res rMin rMin1 rAddL rMax rStr rInt rIn1 m1S zaI mReverse zbN mExtend isNon za0 Q9w Q9v CE.len sub_self List.drop_nil drop_zero append_nil map_cons map_nil cons_append nil_append List.getElem?_cons_zero List.getElem?_cons_succ List.getElem?_nil List.set_cons_zero List.set_cons_succ length_cons length_nil Nat.reduceAdd Nat.reduceSub List.replicate Option.getD if_true if_false false_eq_true Bool.not_true Bool.not_false id true_and and_true".splitOn " ").toArray.map fun s=>⟨(mkIdent s.toName).raw⟩
 `(tactic| simp only [$[$xs:term],*])
noncomputable def b_al:CS :=
  (.seq (.ret (.cmp .eq (.sl (.var 0) .nil (.blt .len (.cons (.var 1) .nil))) (.var 1)))
  .nil)
noncomputable def b_a3:CS :=
  (.seq (.ret (.comp false [0] (.rng1 (.bin .add (.blt .len (.cons (.var 0) .nil)) (.con (.int 1)))) .nil (.sl (.var 1) .nil (.var 0))))
  .nil)
noncomputable def signs:W:=[97,98,99,100,101,102,103,104,105,106,107,108,109,110,111,112,113,114,115,116,117,118,119,120,121,122,48,49,50,51,52,53,54,55,56,57,45]
structure Wd(w:W):Prop where
 lo:1<=w.length
 hi:w.length<=12
 al:∀ c∈w,c∈signs
noncomputable def sp_al:DSp:=fun ds M R=>∃ a b:List W,ds=[dn a,dn b]/\R (.bl (decide (a.take b.length=b))) M
noncomputable def zac(a:List W):List D:=(List.range (a.length+1)).map fun k=>dn (a.take k)
noncomputable def sp_a3:DSp:=fun ds M R=>∃ a:List W,ds=[dn a]/\a.length<=900/\∀ p,M p=none->R (.ref p) (dupd M p (.lst (zac a)))
section
variable{T:Tab}
theorem ok_al:∀ ds M R,sp_al ds M R->evS T b_al (za0 R) (za1 ["name","top"] ds) M:=by
 rintro ds M R ⟨a,b,rfl,h⟩;simp only[b_al,dn];walk_at "ev";rw[Q1R,Zb,<- map_take,Q0O];exact⟨Q0e _,Q0e _,Q0f h⟩
theorem ok_a3:∀ ds M R,sp_a3 ds M R->evS T b_a3 (za0 R) (za1 ["name"] ds) M:=by
 rintro ds M R ⟨a,rfl,hl,h⟩;simp only[b_a3,dn];walk_at "ev";rw[Zb];refine⟨by omega,by omega,?_⟩
 have e:((a.length:Int)+1).toNat=a.length+1:=by omega
 rw[e];refine Q0C (fun d=>match d with | .int i=>dn (a.take i.toNat) | d=>d) trivial (by rw[Q4A];omega) ?_ ?_
 ·intro d k hd hk;obtain⟨i,hi⟩:=mem_iff_getElem?.mp hd;obtain⟨h1,rfl⟩:=Q4B hi;have e2:(0:Int)+(i:Int)=(i:Int):=by omega
  rw[e2]at hk ⊢;walk_at "ev";rw[Q1R,<- map_take];have e4:(match D.int (i:Int) with | .int i=>dn (a.take i.toNat) | d=>d)=dn (a.take i):=by simp
  rw[e4]at hk;exact hk
 ·have e3:(rngD 0 (a.length+1)).map (fun d=>match d with | .int i=>dn (a.take i.toNat) | d=>d)=zac a:=by
   unfold rngD zac;rw[ZT];refine Yj fun i _=>?_;simp
  rw[e3];refine⟨le_of_lt (small1000 (by unfold zac;rw[Zb,length_range];omega)),fun p hp=>Q0f (h p hp)⟩
theorem mulOk{i j:Int}(h1:-1000000000000<=i)(h2:i<=1000000000000):CMul i j:=.inl ⟨by omega,by omega⟩
end
theorem atI_last{α:Type}{xs:List α}(h:xs≠[]):atI xs (-1)=xs[xs.length-1]?:=by
 have hl:0<xs.length:=List.length_pos_iff.mpr h;unfold atI ixN;rw[Zc (by omega),Zg (by omega)]
 show xs[((-1:Int)+(xs.length:Int)).toNat]? = _;congr 1;omega
theorem Q2l{xs:List D}{M:DH}{Q:DK}{d:D}(e:xs[xs.length-1]? = some d)(h:Q d M):rIxD (.lst xs) (.int (-1)) M Q:=by
 show (match atI xs (-1) with | some c=>Q c M | none=>False)
 rw[atI_last (by intro z;subst z;cases e),e]
 exact h
noncomputable def b_ay:CS :=
  (.seq (.ret (.cmp .inD (.var 1) (.fld "Page" "standing" (.var 0))))
  .nil)
noncomputable def b_aN:CS :=
  (.seq (.for1 2 (.sl (.call 2 (.cons (.var 1) .nil)) (.bin .add (.blt .len (.cons (.fld "Page" "top" (.var 0)) .nil)) (.con (.int 1))) .nil)
  (.seq (.ite (.cmp .inD (.var 2) (.fld "Page" "downs" (.var 0)))
  (.seq (.ret (.var 2))
  .nil)
  .nil)
  .nil))
  (.seq (.ret (.con .non))
  .nil))
noncomputable def b_aL:CS :=
  (.seq (.ex (.ml .append (.dsetd (.fld "Page" "rows" (.var 0)) (.ix (.var 1) (.con (.int 0))) (.lst .nil)) (.cons (.var 1) .nil)))
  (.seq (.ite (.cmp .eq (.ix (.var 1) (.con (.int 2))) (.glob 13))
  (.seq (.dput (.fld "Page" "downs" (.var 0)) (.ix (.var 1) (.con (.int 0))) (.var 1))
  .nil)
  .nil)
  (.seq (.set 2 (.ix (.var 1) (.con (.int 0))))
  (.seq (.whil (.cmp .ninD (.var 2) (.fld "Page" "standing" (.var 0)))
  (.seq (.dput (.fld "Page" "standing" (.var 0)) (.var 2) (.con (.bl true)))
  (.seq (.set 2 (.sl (.var 2) .nil (.neg (.con (.int 1)))))
  .nil)))
  .nil))))
noncomputable def b_ao:CS :=
  (.seq (.setf "Page" "top" (.var 0) (.ix (.var 1) (.con (.int 0))))
  (.seq (.setf "Page" "life" (.var 0) (.ix (.var 1) (.con (.int 1))))
  (.seq (.setf "Page" "rows" (.var 0) .dnew)
  (.seq (.setf "Page" "downs" (.var 0) .dnew)
  (.seq (.setf "Page" "standing" (.var 0) (.disp1 (.ix (.var 1) (.con (.int 0))) (.con (.bl true))))
  (.seq (.for1 2 (.ix (.var 1) (.con (.int 2)))
  (.seq (.ex (.meth 301 (.var 0) (.cons (.var 2) .nil)))
  .nil))
  .nil))))))
structure Rw where
 n:List W
 l:Int
 k:W
 v:D
noncomputable def Rw.d(r:Rw):D:=.tup [dn r.n,.int r.l,.str r.k,r.v]
noncomputable def zD(top:List W)(life:Int)(rows:List Rw):D:=.tup [dn top,.int life,.lst (rows.map Rw.d)]
noncomputable def zad:W:=[100,111,119,110]
noncomputable def zaY(top:List W)(life:Int)(r d s:Addr):List (Str×D):=[("top",dn top),("life",.int life),("rows",.ref r),("downs",.ref d),("standing",.ref s)]
theorem Q1b{f:Str}{v:D}{fs:List (Str×D)}:List.lookup f ((f,v)::fs)=some v:=by rw[ZK,beq_self_eq_true]
theorem Q0j{f g:Str}{v:D}{fs:List (Str×D)}(h:(f==g)=false):List.lookup f ((g,v)::fs)=fs.lookup f:=by rw[ZK,h]
section
variable{top:List W}{life:Int}{r d s:Addr}
theorem Q6w:List.lookup ("top" : Str) (zaY top life r d s)=some (dn top):=Q1b
theorem Q2A:List.lookup ("life" : Str) (zaY top life r d s)=some (D.int life):=(Q0j (by decide +kernel)).trans Q1b
theorem Q1M:List.lookup ("rows" : Str) (zaY top life r d s)=some (D.ref r):=(Q0j (by decide +kernel)).trans ((Q0j (by decide +kernel)).trans Q1b)
theorem Q1y:List.lookup ("downs" : Str) (zaY top life r d s)=some (D.ref d):=(Q0j (by decide +kernel)).trans ((Q0j (by decide +kernel)).trans ((Q0j (by decide +kernel)).trans Q1b))
theorem Q0X:List.lookup ("standing" : Str) (zaY top life r d s)=some (D.ref s):=(Q0j (by decide +kernel)).trans ((Q0j (by decide +kernel)).trans ((Q0j (by decide +kernel)).trans ((Q0j (by decide +kernel)).trans Q1b)))
theorem Q1s{m:Str}(h1:(m == "top")=false:=by decide +kernel)(h2:(m == "life")=false:=by decide +kernel)(h3:(m == "rows")=false:=by decide +kernel)(h4:(m == "downs")=false:=by decide +kernel)(h5:(m == "standing")=false:=by decide +kernel):List.lookup m (zaY top life r d s)=none :=
 (Q0j h1).trans ((Q0j h2).trans ((Q0j h3).trans ((Q0j h4).trans ((Q0j h5).trans rfl))))
end
theorem Q0D:∀ {fs:List (Str×D)},f∉fs.map (·.1)->zal f v fs=fs++[(f,v)]
 | [],_=>rfl
 | (g,x)::r,h=>by
  rw[Z6,Zw,not_or]at h;show (if g=f then (g,v)::r else (g,x)::zal f v r)=_
  rw[Zc (fun e=>h.1 e.symm),Q0D h.2];rfl
noncomputable def atN(rows:List Rw)(n:List W):List Rw:=rows.filter fun x=>decide (x.n=n)
structure RowsAt(M0 M:DH)(r:Addr)(kr:List (List W×D))(rows:List Rw):Prop where
 m:M r=some (.oth (.dct kr))
 f:M0 r=none
 l:kr.length<=rows.length
 v:∀ n v,valD kr n=some v->∃ l,v=.ref l/\M l=some (.lst ((atN rows n).map Rw.d))/\M0 l=none
 i:∀ n n' l,valD kr n=some (.ref l)->valD kr n'=some (.ref l)->n=n'
 no:∀ n,valD kr n=none->atN rows n=[]
 yes:∀ n,atN rows n=[]->valD kr n=none
noncomputable def zaJ(rows:List Rw)(n:List W):Option D:=((rows.filter fun x=>decide (x.k=zad/\x.n=n)).getLast?).map Rw.d
structure DownsAt(M0 M:DH)(d:Addr)(kd:List (List W×D))(rows:List Rw):Prop where
 m:M d=some (.oth (.dct kd))
 f:M0 d=none
 l:kd.length<=rows.length
 v:∀ n,valD kd n=zaJ rows n
structure StandAt(M0 M:DH)(s:Addr)(ks:List (List W×D))(S:List W->Prop)(k:Nat):Prop where
 m:M s=some (.oth (.dct ks))
 f:M0 s=none
 l:ks.length<=k
 v:∀ n,(valD ks n).isSome=true <-> S n
noncomputable def Std(top:List W)(rows:List Rw)(n:List W):Prop:=n=top\/(top.length<n.length/\∃ x∈rows,x.n.take n.length=n)
section
variable{M0 M:DH}{r d s q:Addr}{kr kd ks:List (List W×D)}{rows:List Rw}{o:MO}{S:List W->Prop}{k:Nat}
theorem RowsAt.upd(h:RowsAt M0 M r kr rows)(hq:q≠r)(hl:∀ n l,valD kr n=some (.ref l)->l≠q):RowsAt M0 (dupd M q o) r kr rows :=
 {h with
  m:=by rw[Q0b hq.symm];exact h.m
  v:=fun n v e=>by
   obtain⟨l,rfl,h1,h2⟩:=h.v n v e;exact⟨l,rfl,by rw[Q0b (hl n l e)];exact h1,h2⟩ }
theorem RowsAt.new(h:RowsAt M0 M r kr rows)(hq:M q=none):RowsAt M0 (dupd M q o) r kr rows :=
 h.upd (dne h.m hq).symm fun n l e=>by
  obtain⟨l',e',h1,_⟩:=h.v n _ e;cases e';exact dne h1 hq
theorem RowsAt.oth(h:RowsAt M0 M r kr rows)(hr:q≠r)(hq:M q=some (.oth u)):RowsAt M0 (dupd M q o) r kr rows :=
 h.upd hr fun n l e z=>by
  obtain⟨l',e',h1,_⟩:=h.v n _ e;cases e';rw[z,hq]at h1;cases h1
theorem DownsAt.upd(h:DownsAt M0 M d kd rows)(hq:q≠d):DownsAt M0 (dupd M q o) d kd rows:={ h with m:=by rw[Q0b hq.symm];exact h.m }
theorem StandAt.upd(h:StandAt M0 M s ks S k)(hq:q≠s):StandAt M0 (dupd M q o) s ks S k:={ h with m:=by rw[Q0b hq.symm];exact h.m }
end
structure PG(M0 M:DH)(p r d s:Addr)(top:List W)(life:Int)(kr kd ks:List (List W×D))(rr rd:List Rw)(S:List W->Prop)(k:Nat):Prop where
 ob:M p=some (.oth (.ins "Page" (zaY top life r d s)))
 fp:M0 p=none
 sub:Sub M0 M
 ne1:r≠d
 ne2:r≠s
 ne3:d≠s
 hR:RowsAt M0 M r kr rr
 hD:DownsAt M0 M d kd rd
 hS:StandAt M0 M s ks S k
noncomputable def Page(M0 M:DH)(p:Addr)(top:List W)(life:Int)(rows:List Rw):Prop:=∃ r d s kr kd ks,PG M0 M p r d s top life kr kd ks rows rows (Std top rows) (1+21 * rows.length)
section
variable{M0 M:DH}{p r d s q:Addr}{top:List W}{life:Int}{kr kd ks:List (List W×D)}{rr rd:List Rw}{o:MO}{S:List W->Prop}{k:Nat}
theorem PG.new(h:PG M0 M p r d s top life kr kd ks rr rd S k)(hq:M q=none):PG M0 (dupd M q o) p r d s top life kr kd ks rr rd S k :=
 {h with
  ob:=by rw[Q0b (dne h.ob hq)];exact h.ob
  sub:=h.sub.put (h.sub.none hq)
  hR:=h.hR.new hq
  hD:=h.hD.upd (dne h.hD.m hq).symm
  hS:=h.hS.upd (dne h.hS.m hq).symm }
theorem mne(h:M a=some u)(h':M b=some v)(e:u≠v):a≠b:=fun z=>by
 subst z;rw[h]at h';exact e (ZB h')
end
theorem Q0V:atN (rows++[x]) n=if x.n=n then atN rows n++[x] else atN rows n:=by
 unfold atN;rw[filter_append];by_cases e:x.n=n
 ·rw[Zg e,ZF,Zg (by simp[e])];rfl
 ·rw[Zc e,ZF,Zc (by simp[e])];simp
theorem Q2B:zaJ (rows++[x]) n=if x.k=zad/\x.n=n then some x.d else zaJ rows n:=by
 unfold zaJ;rw[filter_append];by_cases e:x.k=zad/\x.n=n
 ·rw[Zg e,ZF,Zg (by simp[e]),filter_nil,List.getLast?_append];rfl
 ·rw[Zc e,ZF,Zc (by simp only[Ze];exact e)];simp
theorem Q8g{α:Type}(xs:List α):cut xs none (some (-1))=xs.take (xs.length-1):=by
 unfold cut;have e:HT.sIx xs.length xs.length (some (-1))=xs.length-1:=by
  show (if ((-1:Int)<0) then ((-1:Int)+(xs.length:Int)).toNat else min (-1:Int).toNat xs.length)=_
  rw[Zg (by decide)]
  omega
 rw[sIx_none,e,drop_zero,sub_zero]
structure zbY(top:List W)(x:Rw):Prop where
 le:x.n.length<=20
 at_:x.n.take top.length=top
noncomputable def sp_aL:DSp:=fun ds M R=>∃ (p:Addr) (x:Rw) (M0:DH) (top:List W) (life:Int) (rows:List Rw),ds=[.ref p,x.d]/\Page M0 M p top life rows/\zbY top x/\rows.length<=1000/\∀ M',Page M0 M' p top life (rows++[x])->R .non M'
noncomputable def sp_ao:DSp:=fun ds M R=>∃ (p:Addr) (M0:DH) (top:List W) (life:Int) (rows:List Rw),ds=[.ref p,zD top life rows]/\M p=some (.oth (.ins "Page" []))/\M0 p=none/\Sub M0 M/\rows.length<=1000/\(∀ x∈rows,zbY top x)/\∀ M',Page M0 M' p top life rows->R .non M'
noncomputable def cutN(top:List W)(rows:List Rw)(n:List W):Option (List W):=(((List.range (n.length+1)).drop (top.length+1)).map fun k=>n.take k).find? fun m=>(zaJ rows m).isSome
noncomputable def cutD(top:List W)(rows:List Rw)(n:List W):D:=match cutN top rows n with
 | some m=>dn m
 | none=>.non
noncomputable def sp_aN:DSp:=fun ds M R=>∃ (p:Addr) (n:List W) (M0:DH) (top:List W) (life:Int) (rows:List Rw),ds=[.ref p,dn n]/\Page M0 M p top life rows/\n.length<=900/\R (cutD top rows n) M
noncomputable def sp_ay:DSp:=fun ds M R=>∃ (p:Addr) (n:List W) (M0:DH) (top:List W) (life:Int) (rows:List Rw),ds=[.ref p,dn n]/\Page M0 M p top life rows/\∀ b,(b=true <-> Std top rows n)->R (.bl b) M
section
variable{M0 M:DH}{p r d s:Addr}{top:List W}{life:Int}{kr kd ks:List (List W×D)}{rr rd:List Rw}{S:List W->Prop}{k:Nat}
theorem PG.grow(h:PG M0 M p r d s top life kr kd ks rr rd S k)(e:valD kr x.n=some (.ref l)):PG M0 (dupd M l (.lst ((atN rr x.n).map Rw.d++[x.d]))) p r d s top life kr kd ks (rr++[x]) rd S k:=by
 obtain⟨l',e',h1,h2⟩:=h.hR.v _ _ e;cases e';have np:p≠l:=mne h.ob h1 (fun z=>nomatch z)
 have nr:r≠l:=mne h.hR.m h1 (fun z=>nomatch z)
 have nd:d≠l:=mne h.hD.m h1 (fun z=>nomatch z)
 have ns:s≠l:=mne h.hS.m h1 (fun z=>nomatch z)
 exact { h with
  ob:=by rw[Q0b np];exact h.ob
  sub:=h.sub.put h2
  hD:=h.hD.upd nd.symm
  hS:=h.hS.upd ns.symm
  hR:={ m:=by rw[Q0b nr];exact h.hR.m
        f:=h.hR.f
        l:=by rw[Zl];exact Z3 h.hR.l (Nat.le_add_right _ _)
        i:=h.hR.i
        v:=fun n v ev=>by
         obtain⟨l',rfl,g1,g2⟩:=h.hR.v n v ev;by_cases hn:x.n=n
         ·subst hn;rw[e]at ev;cases ev;exact⟨l,rfl,by rw[Q0a,Q0V,Zg rfl,ZC];rfl,h2⟩
         ·have hl:l'≠l:=fun z=>hn (by subst z;exact h.hR.i _ _ _ e ev)
          exact⟨l',rfl,by rw[Q0b hl,Q0V,Zc hn];exact g1,g2⟩
        no:=fun n en=>by
         rw[Q0V];by_cases hn:x.n=n
         ·subst hn;rw[e]at en;cases en
         ·rw[Zc hn];exact h.hR.no n en
        yes:=fun n en=>by
         rw[Q0V]at en;by_cases hn:x.n=n
         ·rw[Zg hn]at en;simp at en
         ·rw[Zc hn]at en;exact h.hR.yes n en } }
theorem PG.fresh(h:PG M0 M p r d s top life kr kd ks rr rd S k)(hq:M q=none)(e:valD kr x.n=none) :
  PG M0 (dupd (dupd (dupd M q (.lst [])) r (.oth (.dct (putD kr x.n (.ref q))))) q (.lst [x.d])) p r d s top life (putD kr x.n (.ref q)) kd ks (rr++[x]) rd S k:=by
 have np:p≠q:=dne h.ob hq;have nr:r≠q:=dne h.hR.m hq;have nd:d≠q:=dne h.hD.m hq;have ns:s≠q:=dne h.hS.m hq;have pr:p≠r:=mne h.ob h.hR.m (fun z=>nomatch z)
 have fq:M0 q=none:=h.sub.none hq;exact { h with
  ob:=by rw[Q0b np,Q0b pr,Q0b np];exact h.ob
  sub:=((h.sub.put fq).put h.hR.f).put fq
  hD:=((h.hD.upd nd.symm).upd h.ne1).upd nd.symm
  hS:=((h.hS.upd ns.symm).upd h.ne2).upd ns.symm
  hR:={ m:=by rw[Q0b nr,Q0a]
        f:=h.hR.f
        l:=by
         have h1:=Q0y kr x.n (.ref q);have h2:=h.hR.l;rw[Zl];show _<=rr.length+1;omega
        i:=fun n n' l e1 e2=>by
         rw[Q0u]at e1 e2;have old:∀ n,valD kr n=some (.ref q)->False:=fun n z=>by
          obtain⟨l',e',h1,_⟩:=h.hR.v n _ z;cases e';rw[hq]at h1;cases h1
         by_cases a:n=x.n <;> by_cases b:n'=x.n
         ·rw[a,b]
         ·rw[Zg a]at e1;rw[Zc b]at e2;cases e1;exact (old _ e2).elim
         ·rw[Zc a]at e1;rw[Zg b]at e2;cases e2;exact (old _ e1).elim
         ·rw[Zc a]at e1;rw[Zc b]at e2;exact h.hR.i _ _ _ e1 e2
        v:=fun n v ev=>by
         rw[Q0u]at ev;by_cases a:n=x.n
         ·rw[Zg a]at ev;cases ev;exact⟨q,rfl,by rw[Q0a,a,Q0V,Zg rfl,h.hR.no _ e];rfl,fq⟩
         ·rw[Zc a]at ev;obtain⟨l,rfl,g1,g2⟩:=h.hR.v n v ev;have lq:l≠q:=dne g1 hq;have lr:l≠r:=mne g1 h.hR.m (fun z=>nomatch z)
          exact⟨l,rfl,by rw[Q0b lq,Q0b lr,Q0b lq,Q0V,Zc (fun z=>a z.symm)];exact g1,g2⟩
        no:=fun n en=>by
         rw[Q0u]at en;by_cases a:n=x.n
         ·rw[Zg a]at en;cases en
         ·rw[Zc a]at en;rw[Q0V,Zc (fun z=>a z.symm)];exact h.hR.no n en
        yes:=fun n en=>by
         rw[Q0V]at en;by_cases a:n=x.n
         ·rw[Zg a.symm]at en;simp at en
         ·rw[Zc (fun z=>a z.symm)]at en;rw[Q0u,Zc a];exact h.hR.yes n en } }
theorem PG.down(h:PG M0 M p r d s top life kr kd ks rr rd S k)(hx:x.k=zad):PG M0 (dupd M d (.oth (.dct (putD kd x.n x.d)))) p r d s top life kr (putD kd x.n x.d) ks rr (rd++[x]) S k:=by
 have pd:p≠d:=mne h.ob h.hD.m (fun z=>nomatch z)
 exact { h with
  ob:=by rw[Q0b pd];exact h.ob
  sub:=h.sub.put h.hD.f
  hR:=h.hR.oth h.ne1.symm h.hD.m
  hS:=h.hS.upd h.ne3
  hD:={ m:=Q0a
        f:=h.hD.f
        l:=by
         have h1:=Q0y kd x.n x.d;have h2:=h.hD.l;rw[Zl];show _<=rd.length+1;omega
        v:=fun n=>by
         rw[Q0u,Q2B,h.hD.v];by_cases a:n=x.n
         ·rw[Zg a,Zg ⟨hx,a.symm⟩]
         ·rw[Zc a,Zc (fun z=>a z.2.symm)] } }
theorem PG.nodown(h:PG M0 M p r d s top life kr kd ks rr rd S k)(hx:¬ x.k=zad):PG M0 M p r d s top life kr kd ks rr (rd++[x]) S k :=
 {h with
  hD:={ h.hD with
        l:=by rw[Zl];exact Z3 h.hD.l (Nat.le_add_right _ _)
        v:=fun n=>by rw[Q2B,Zc (fun z=>hx z.1)];exact h.hD.v n } }
theorem PG.stand(h:PG M0 M p r d s top life kr kd ks rr rd S k)(m:List W):PG M0 (dupd M s (.oth (.dct (putD ks m (.bl true))))) p r d s top life kr kd (putD ks m (.bl true)) rr rd (fun n=>n=m\/S n) (k+1):=by
 have ps:p≠s:=mne h.ob h.hS.m (fun z=>nomatch z)
 exact { h with
  ob:=by rw[Q0b ps];exact h.ob
  sub:=h.sub.put h.hS.f
  hR:=h.hR.oth h.ne2.symm h.hS.m
  hD:=h.hD.upd h.ne3.symm
  hS:={ m:=Q0a
        f:=h.hS.f
        l:=by
         have h1:=Q0y ks m (.bl true);have h2:=h.hS.l;omega
        v:=fun n=>by
         rw[Q0u];by_cases a:n=m
         ·rw[Zg a];simp[a]
         ·rw[Zc a,h.hS.v];simp[a] } }
theorem PG.same(h:PG M0 M p r d s top life kr kd ks rr rd S k){S':List W->Prop}(e:∀ n,S n <-> S' n)(hk:k<=k'):PG M0 M p r d s top life kr kd ks rr rd S' k' :=
 {h with hS:={ h.hS with l:=Z3 h.hS.l hk,v:=fun n=>(h.hS.v n).trans (e n) } }
end
theorem Q3A(w:W):plain 12 (.str w)=true:=rfl
theorem Q8h(hx:zbY top x)(hj:top.length<=j)(hjx:j<=x.n.length)(hs:Std top rows (x.n.take j))(n:List W) :
  (Std top rows n\/∃ i,j<i/\i<=x.n.length/\n=x.n.take i) <-> Std top (rows++[x]) n:=by
 constructor
 ·rintro (h | ⟨i,h1,h2,rfl⟩)
  ·rcases h with h | ⟨h1,y,hy,h2⟩
   ·exact .inl h
   ·exact .inr ⟨h1,y,mem_append_left _ hy,h2⟩
  ·have e:(x.n.take i).length=i:=by rw[ZA];omega
   exact .inr ⟨by rw[e];omega,x,Zu _ (Zp.mpr rfl),by rw[e]⟩
 ·rintro (h | ⟨h1,y,hy,h2⟩)
  ·exact .inl (.inl h)
  ·rcases Z0.mp hy with hy | hy
   ·exact .inl (.inr ⟨h1,y,hy,h2⟩)
   ·rw[Zp.mp hy]at h2;have hl:n.length<=x.n.length:=by rw[<- h2,ZA];omega
    by_cases hi:j<n.length
    ·exact .inr ⟨n.length,hi,hl,h2.symm⟩
    ·left;have e:(x.n.take j).take n.length=n:=by rw[take_take,show min n.length j=n.length by omega];exact h2
     have ej:(x.n.take j).length=j:=by rw[ZA];omega
     rcases hs with hs | ⟨g1,z,hz,g2⟩
     ·rw[hs]at ej;omega
     ·refine .inr ⟨h1,z,hz,?_⟩;rw[ej]at g2;rw[<- g2,take_take,show min n.length j=n.length by omega]at e
      exact e
theorem ok_aL(T:Tab)(h13:T.con 13=some (("DOWN" : Str),D.str [100,111,119,110])):∀ ds M R,sp_aL ds M R->evS T b_aL (za0 R) (za1 ["self","row","name"] ds) M:=by
 rintro ds M R ⟨p,x,M0,top,life,rows,rfl,⟨r,d,s,kr,kd,ks,G⟩,hx,hn,h⟩;simp only[b_aL,Rw.d];refine Q0c fun k1 e1=>?_;walk_at "ev";refine⟨p,_,_,rfl,G.ob,Q1M,r,kr,rfl,G.hR.m,?_⟩;walk_at "q1";refine⟨by simp[sizeLine_eq],fun q hq=>?_⟩
 have nr:r≠q:=dne G.hR.m hq;have kl:kr.length<sizeLine:=by have:=G.hR.l;rw[sizeLine_eq];omega
 -- behind it
 have step2:∀ M1 kr1,PG M0 M1 p r d s top life kr1 kd ks (rows++[x]) rows (Std top rows) (1+21 * rows.length)->k1 [some (.ref p),some x.d,none] M1:=by
  intro M1 kr1 G1;rw[e1];clear e1;refine Q0c fun k2 e2=>?_
  -- what follows the if
  have step3:∀ M2 kd2,PG M0 M2 p r d s top life kr1 kd2 ks (rows++[x]) (rows++[x]) (Std top rows) (1+21 * rows.length)->k2 [some (.ref p),some x.d,none] M2:=by
   intro M2 kd2 G2;rw[e2];clear e2;refine Q0c fun k3 e3=>?_;walk_at "ev";walk_at "q1";rw[e3];clear e3;refine Q0c fun k4 e4=>?_;show zaO _ _ _ _ _;refine⟨fun j ρ M'=>∃ ks',top.length<=j/\j<=x.n.length/\ρ=[some (.ref p),some x.d,some (dn (x.n.take j))] /\
    PG M0 M' p r d s top life kr1 kd2 ks' (rows++[x]) (rows++[x]) (fun n=>Std top rows n\/∃ i,j<i/\i<=x.n.length/\n=x.n.take i) (1+21 * rows.length+(x.n.length-j)),⟨x.n.length,ks,?_⟩,?_⟩
   ·have hl:top.length<=x.n.length:=by rw[<- hx.at_,ZA];omega
    refine⟨hl,Zs _,by rw[Ym],G2.same (fun n=>⟨fun a=>.inl a,?_⟩) (by omega)⟩
    rintro (a | ⟨i,h1,h2,_⟩)
    ·exact a
    ·omega
   ·rintro j ρ M' ⟨ks',hj1,hj2,rfl,G3⟩;have ej:(x.n.take j).length=j:=by rw[ZA];omega
    walk_at "ev";refine⟨p,_,_,rfl,G3.ob,Q0X,x.n.take j,s,ks',rfl,rfl,G3.hS.m,?_⟩;cases c:(valD ks' (x.n.take j)).isSome with
    | true =>
     refine iteF ?_;rw[e4];walk_at "ev";have st:Std top rows (x.n.take j):=by
      rcases (G3.hS.v _).mp c with a | ⟨i,h1,h2,h3⟩
      ·exact a
      ·have:=congrArg List.length h3;rw[ej,ZA]at this;omega
     refine Q0f (h M' ⟨r,d,s,kr1,kd2,ks',G3.same (Q8h hx hj1 hj2 st) ?_⟩);have:=hx.le;rw[Zl];show _<=1+21 * (rows.length+1);omega
    | false =>
     refine iteT ⟨_,fun ρ' M'' q=>q,?_⟩;have hjt:top.length<j:=by
      rcases lt_or_ge top.length j with a | a
      ·exact a
      ·have ej':j=top.length:=by omega
       have:(valD ks' (x.n.take j)).isSome=true:=(G3.hS.v _).mpr (.inl (.inl (by rw[ej'];exact hx.at_)))
       rw[c]at this;cases this
     refine⟨p,_,_,rfl,G3.ob,Q0X,s,x.n.take j,ks',rfl,rfl,G3.hS.m,?_,?_⟩
     ·have:=G3.hS.l;have:=hx.le;rw[sizeLine_eq];omega
     ·simp only[dn];rw[Q8g,Zb,ej,<- map_take,take_take,show min (j-1) j=j-1 by omega]
      refine⟨j-1,by omega,putD ks' (x.n.take j) (.bl true),by omega,by omega,rfl,(G3.stand (x.n.take j)).same (fun n=>?_) (by omega)⟩
      constructor
      ·rintro (a | a | ⟨i,g1,g2,g3⟩)
       ·exact .inr ⟨j,by omega,hj2,a⟩
       ·exact .inl a
       ·exact .inr ⟨i,by omega,g2,g3⟩
      ·rintro (a | ⟨i,g1,g2,g3⟩)
       ·exact .inr (.inl a)
       ·by_cases hi:i=j
        ·exact .inl (by rw[g3,hi])
        ·exact .inr (.inr ⟨i,by omega,g2,g3⟩)
  walk_at "ev";walk_at "q1";simp only[h13];walk_at "ev";refine⟨Q3A _,Q3A _,ite2 (fun c=>?_) fun c=>?_⟩
  ·rw[Ze]at c;refine⟨p,_,_,rfl,G1.ob,Q1y,?_⟩;walk_at "q1";refine⟨d,x.n,kd,rfl,rfl,G1.hD.m,by have:=G1.hD.l;rw[sizeLine_eq];omega,?_⟩
   exact step3 _ _ (G1.down c)
  ·rw[Ze]at c;exact step3 _ _ (G1.nodown c)
 refine⟨x.n,kr,rfl,by rw[Q0b nr];exact G.hR.m,kl,fun v hv=>?_,fun hv=>?_⟩
 ·obtain⟨l,rfl,g1,g2⟩:=G.hR.v _ _ hv;have lq:l≠q:=dne g1 hq;have hM:dupd M q (.lst []) l=some (.lst ((atN rows x.n).map Rw.d)):=by rw[Q0b lq];exact g1
  simp only[hM]
  try walk_at "ev"
  try simp only[hM]
  refine⟨?_,step2 _ _ ((G.new hq).grow hv)⟩;rw[Zb];have:(atN rows x.n).length<=rows.length:=ZI _ _;rw[sizeLine_eq];omega
 ·have hM:dupd (dupd M q (.lst [])) r (.oth (.dct (putD kr x.n (.ref q)))) q=some (.lst []):=by rw[Q0b nr.symm,Q0a]
  simp only[hM]
  try walk_at "ev"
  try simp only[hM]
  exact⟨by simp[sizeLine_eq],step2 _ _ (G.fresh hq hv)⟩
theorem ok_ao(T:Tab)(h301:T.mt 301=some ⟨"Page","lay",1,sp_aL⟩):∀ ds M R,sp_ao ds M R->evS T b_ao (za0 R) (za1 ["self","zone","row"] ds) M:=by
 rintro ds M R ⟨p,M0,top,life,rows,rfl,hp,fp,sub,hn,hr,h⟩;simp only[b_ao,zD];refine Q0c fun k1 e1=>?_;walk_at "ev";walk_at "q1";refine⟨p,[],rfl,hp,by simp,?_⟩
 rw[e1];clear e1;refine Q0c fun k1 e1=>?_;walk_at "ev";walk_at "q1";refine⟨p,_,rfl,Q0a,by simp[zal],?_⟩
 rw[Q1k,Q0D (fs:=[]) (by simp),Q0D (by show ("life" : Str)∉[("top" : Str)];decide +kernel)]
 rw[e1];clear e1;refine Q0c fun k1 e1=>?_;walk_at "ev";intro r nr;have pr:p≠r:=dne Q0a nr;refine⟨p,_,rfl,by rw[Q0b pr,Q0a],by simp,?_⟩
 rw[Q0D (by show ("rows" : Str)∉[("top" : Str),"life"];decide +kernel)]
 rw[e1];clear e1;refine Q0c fun k1 e1=>?_;walk_at "ev";intro d nd;have pd:p≠d:=dne Q0a nd;rw[Q0b pd.symm]at nd;have rd:r≠d:=dne Q0a nd;refine⟨p,_,rfl,by rw[Q0b pd,Q0a],by simp,?_⟩
 rw[Q0D (by show ("downs" : Str)∉[("top" : Str),"life","rows"];decide +kernel)]
 rw[e1];clear e1;refine Q0c fun k1 e1=>?_;walk_at "ev";intro s ns;have ps:p≠s:=dne Q0a ns;rw[Q0b ps.symm]at ns;have ds:d≠s:=dne Q0a ns;rw[Q0b ds.symm,Q0b ps.symm]at ns;have rs:r≠s:=dne Q0a ns;rw[Q0b rs.symm,Q0b ps.symm]at ns;walk_at "q1";refine⟨top,rfl,Q0a,p,_,rfl,by rw[Q0b ps,Q0b ps,Q0a],by simp,?_⟩
 rw[Q0D (by show ("standing" : Str)∉[("top" : Str),"life","rows","downs"];decide +kernel)]
 rw[e1];clear e1;rw[Q0b rd.symm,Q0b pd.symm]at nd;rw[Q0b pr.symm]at nr;have f1:M0 r=none:=sub.none nr;have f2:M0 d=none:=sub.none nd;have f3:M0 s=none:=sub.none ns
 -- what is made
 generalize hM1:dupd _ p _=M1;have G:PG M0 M1 p r d s top life [] [] [(top,.bl true)] [] [] (Std top []) (1+21 * ([]:List Rw).length):=by
  subst hM1;refine⟨Q0a,fp,?_,rd,rs,ds,⟨?_,f1,by simp,fun n v e=>(nomatch e),fun n n' l e=>(nomatch e),fun n _=>rfl,fun n _=>rfl⟩,⟨?_,f2,by simp,fun n=>rfl⟩,⟨?_,f3,by simp,fun n=>?_⟩⟩
  ·exact ((((((((sub.put fp).put f1).put fp).put f2).put fp).put f3).put f3).put fp)
  ·rw[Q0b pr.symm,Q0b rs,Q0b rs,Q0b pr.symm,Q0b rd,Q0b pr.symm,Q0a]
  ·rw[Q0b pd.symm,Q0b ds,Q0b ds,Q0b pd.symm,Q0a]
  ·rw[Q0b ps.symm,Q0a]
  ·unfold Std;by_cases e:top=n
   ·rw[Q0t e];simp[e]
   ·rw[Q0w e];constructor
    ·intro z;cases z
    ·rintro (z | ⟨_,x,hx,_⟩)
     ·exact absurd z.symm e
     ·cases hx
 clear hM1;refine Q0c fun k1 e1=>?_;walk_at "ev";walk_at "q1";refine Q0U (fun i ρ M'=>Page M0 M' p top life (rows.take i)/\∃ v,ρ=[some (.ref p),some (zD top life rows),v]) ⟨⟨r,d,s,[],[],_,G⟩,none,rfl⟩ (fun _ _ _ _=>trivial) ?_ ?_
 ·rintro i d0 ρ M' k hi ⟨Pg,v,rfl⟩ hk;rw[Zq]at hi;cases ei:rows[i]? with
  | none=>rw[ei]at hi;cases hi
  | some x =>
   rw[ei]at hi;cases hi;have hil:=(Zj.mp ei).1;walk_at "ev";simp only[h301];walk_at "ev";obtain⟨r',d',s',kr',kd',ks',G'⟩:=id Pg;refine⟨p,_,rfl,G'.ob,Q1s,?_⟩;refine⟨p,x,M0,top,life,rows.take i,rfl,Pg,hr x (Zt ei),by rw[ZA];omega,fun M'' Pg'=>hk _ _ ⟨?_,_,rfl⟩⟩
   rw[take_add_one,ei];exact Pg'
 ·rintro ρ M' ⟨Pg,v,rfl⟩;rw[Zb,Ym]at Pg;rw[e1];walk_at "ev";exact Q0f (h M' Pg)
theorem ok_ay:∀ ds M R,sp_ay ds M R->evS T b_ay (za0 R) (za1 ["self","name"] ds) M:=by
 rintro ds M R ⟨p,n,M0,top,life,rows,rfl,⟨r,d,s,kr,kd,ks,G⟩,h⟩;simp only[b_ay];walk_at "ev";exact⟨p,_,_,rfl,G.ob,Q0X,n,s,ks,rfl,rfl,G.hS.m,Q0f (h _ (G.hS.v n))⟩
theorem ok_aN(T:Tab)(h2:T.fn 2=some ⟨"above",1,[],sp_a3⟩):∀ ds M R,sp_aN ds M R->evS T b_aN (za0 R) (za1 ["self","name","wider"] ds) M:=by
 rintro ds M R ⟨p,n,M0,top,life,rows,rfl,⟨r,d,s,kr,kd,ks,G⟩,hl,h⟩;simp only[b_aN];refine Q0c fun k1 e1=>?_;walk_at "ev";simp only[h2];walk_at "ev";refine⟨n,rfl,hl,fun a ha=>?_⟩;have G1:=G.new (o:=.lst (zac n)) ha;refine⟨p,_,_,rfl,G1.ob,Q6w,?_⟩;walk_at "ev";simp only[Q0a];intro q hq;have qa:q≠a:=(dne Q0a hq).symm;have el:(((top.map D.str).length:Int)+1)=((top.length+1:Nat):Int):=by rw[Zb];omega
 unfold dn;rw[el,Q8f];have G2:=G1.new (o:=.lst ((zac n).drop (top.length+1))) hq
 try simp only[Q0a]
 have ea:(zac n).drop (top.length+1)=(((List.range (n.length+1)).drop (top.length+1)).map fun k=>n.take k).map dn:=by
  unfold zac;rw[<- map_drop,ZT];rfl
 rw[ea];rw[ea]at G2;generalize hL:((List.range (n.length+1)).drop (top.length+1)).map (fun k=>n.take k)=L at *;generalize hM2:dupd (dupd M a _) q _=M2 at *;have hcd:M2 q=some (.lst (L.map dn)):=by rw[<- hM2,Q0a]
 have hsub:Sub M M2:=by rw[<- hM2];exact (Sub.new ha).put (by rw[Q0b qa]at hq;exact hq)
 have hcut:∀ (i:Nat) (m:List W),L[i]? = some m->(∀ (j:Nat) (y:List W),j<i->L[j]? = some y->(zaJ rows y).isSome=false)->(zaJ rows m).isSome=true->cutN top rows n=some m:=by
  intro i m hi hb hm;unfold cutN;rw[hL];obtain⟨h1,h2⟩:=Zj.mp hi;exact List.find?_eq_some_iff_getElem.mpr ⟨hm,i,h1,h2,fun j hj=>by rw[hb j _ hj (Zf _)];rfl⟩
 refine Q0U (fun i ρ M'=>M'=M2/\(∃ v,ρ=[some (.ref p),some (dn n),v])/\∀ (j:Nat) (y:List W),j<i->L[j]? = some y->(zaJ rows y).isSome=false) ⟨rfl,⟨none,rfl⟩,fun j y hj=>absurd hj (not_lt_zero j)⟩ (fun i ρ M' h=>by rw[h.1];exact hcd) ?_ ?_
 ·rintro i d0 ρ M' k hi ⟨rfl,⟨v,rfl⟩,hb⟩ hk;rw[Zq]at hi;cases ei:L[i]? with
  | none=>rw[ei]at hi;cases hi
  | some m =>
   rw[ei]at hi;cases hi;walk_at "ev";refine⟨p,_,_,rfl,G2.ob,Q1y,m,d,kd,rfl,rfl,G2.hD.m,?_⟩;rw[G2.hD.v];cases c:(zaJ rows m).isSome with
   | true =>
    refine iteT ⟨M,hsub,?_⟩;have:cutD top rows n=dn m:=by unfold cutD;rw[hcut i m ei hb c]
    rw[<- this];exact h
   | false =>
    refine iteF (hk _ _ ⟨rfl,⟨_,rfl⟩,fun j y hj hy=>?_⟩);by_cases hji:j=i
    ·subst hji;rw[ei]at hy;cases hy;exact c
    ·exact hb j y (by omega) hy
 ·rintro ρ M' ⟨rfl,⟨v,rfl⟩,hb⟩;rw[e1];walk_at "ev";refine⟨M,hsub,?_⟩;have:cutD top rows n=.non:=by
   have e:cutN top rows n=none:=by
    unfold cutN;rw[hL];refine find?_eq_none.mpr fun y hy=>?_;obtain⟨j,hj⟩:=mem_iff_getElem?.mp hy;rw[hb j y (by rw[Zb];exact (Zj.mp hj).1) hj]
    simp
   unfold cutD;rw[e]
  rw[<- this];exact h
noncomputable def b_a0:CS :=
  (.seq (.ret (.bin .mod (.bin .mod (.bin .mul (.bin .mod (.bin .mul (.bin .add (.bin .mod (.var 0) (.con (.int 99991))) (.con (.int 17))) (.bin .add (.con (.int 48271)) (.bin .mul (.con (.int 7919)) (.var 1)))) (.con (.int 65537))) (.bin .add (.var 1) (.con (.int 3)))) (.con (.int 8191))) (.var 2)))
  .nil)
noncomputable def b_a9:CS :=
  (.seq (.set 4 (.tup .nil))
  (.seq (.for1 5 (.rng1 (.var 3))
  (.seq (.set 4 (.bin .add (.var 4) (.tup (.cons (.ix (.var 0) (.call 101 (.cons (.var 1) (.cons (.bin .add (.var 2) (.var 5)) (.cons (.con (.int 4)) .nil))))) .nil))))
  .nil))
  (.seq (.ret (.var 4))
  .nil)))
noncomputable def sp_a0:DSp:=fun ds M R=>∃ (c k m:Int),ds=[.int c,.int k,.int m]/\0<=k/\k<=1000000/\0<m/\∀ v:Nat,(v:Int)<m->R (.int v) M
noncomputable def sp_a9:DSp:=fun ds M R=>∃ (ws:List W) (c k:Int) (m:Nat),ds=[.lst (ws.map D.str),.int c,.int k,.int m]/\ws.length=4/\(∀ w∈ws,Wd w)/\0<=k/\k<=1000/\m<=100/\∀ a:List W,a.length=m->(∀ w∈a,Wd w)->R (dn a) M
theorem szL{n:Nat}(h:n<=1000):n<=sizeLine:=le_of_lt (small1000 h)
theorem Q8i{n k:Nat}(hk:0<k)(h:n<10 ^ k):(digs n).length<=k:=by
 unfold digs;rw[Zb];exact (Nat.length_toDigits_le_iff (by decide) hk).mpr h
theorem ok_a0{T:Tab}:∀ ds M R,sp_a0 ds M R->evS T b_a0 (za0 R) (za1 ["a","b","c"] ds) M:=by
 rintro ds M R ⟨c,k,m,rfl,h0,h1,hm,h⟩;simp only[b_a0];walk_at "ev";refine⟨by decide,mulOk (by omega) (by omega),mulOk (by omega) (by omega),by decide,mulOk (by omega) (by omega),by decide,hm,Q0f ?_⟩
 generalize ((c % 99991+17) * (48271+7919 * k) % 65537 * (k+3)) % 8191=z;have e:=Int.emod_nonneg z (show m≠0 by omega)
 have e2:=Int.emod_lt_of_pos z hm;obtain⟨v,hv⟩:=Int.eq_ofNat_of_zero_le e;rw[hv]at e2 ⊢;exact h v e2
theorem ok_a9(T:Tab)(h1:T.fn 101=some ⟨"_law_part",3,[],sp_a0⟩):∀ ds M R,sp_a9 ds M R->evS T b_a9 (za0 R) (za1 ["a","b","c","d","e","f"] ds) M:=by
 rintro ds M R ⟨ws,c,k,m,rfl,hl,hw,h0,h2,hm,h⟩;simp only[b_a9];refine Q0c fun k1 e1=>?_;walk_at "ev";refine⟨szL (by decide),?_⟩
 rw[e1];clear e1;refine Q0c fun k1 e1=>?_;walk_at "ev";refine⟨by omega,by omega,?_⟩
 rw[Z7];refine Q0L (fun i ρ M'=>∃ (a:List W) (v:Option D),M'=M/\ρ=[some (.lst (ws.map D.str)),some (.int c),some (.int k),some (.int m),some (dn a),v]/\a.length=i/\∀ w∈a,Wd w)
  ⟨[],none,rfl,rfl,rfl,fun w h=>nomatch h⟩ (fun _ _ _ _=>trivial) ?_ ?_
 ·rintro i ρ M' k3 hi ⟨a,v,rfl,rfl,ha,hwa⟩ hk;unfold dn;walk_at "ev";simp only[h1];walk_at "ev";refine⟨c,_,4,rfl,by omega,by omega,by decide,fun n hn=>?_⟩
  refine Q0r (by omega) (by rw[Zb,hl];exact hn) fun d hd=>?_
  rw[Zq]at hd;cases e:ws[(n:Int).toNat]? with
  | none=>rw[e]at hd;cases hd
  | some w =>
   rw[e]at hd;cases hd
   try walk_at "ev"
   refine⟨szL (by decide),szL (by rw[Zb,ha];omega),?_⟩
   refine hk _ _ ⟨a++[w],_,rfl,by unfold dn;rw[ZC];rfl,by rw[Zl,ha];rfl,fun y hy=>?_⟩
   rcases Z0.mp hy with hy | hy
   ·exact hwa y hy
   ·rw[Zp.mp hy];exact hw w (Zt e)
 ·rintro ρ M' ⟨a,v,rfl,rfl,ha,hwa⟩;rw[e1];clear e1;walk_at "ev";exact Q0f (h a ha hwa)
noncomputable def IsN(k:W):Prop:=k=[100,111,119,110]\/k=[101,108,115,101]
structure RowOk(top:List W)(x:Rw):Prop where
 in_:zbY top x
 pv:(IsN x.k/\∃ b:List W,x.v=dn b)\/(¬ IsN x.k/\∃ w:W,x.v=.str w)
theorem Q0E(k:Nat)(ws:List W):plain (k+2) (dn ws)=true:=by
 show (ws.map D.str).all (plain (k+1))=true;rw[ZN];intro d hd;obtain⟨w,_,rfl⟩:=ZH.mp hd;rfl
theorem RowOk.v{top:List W}{x:Rw}(h:RowOk top x)(k:Nat):plain (k+2) x.v=true:=by
 rcases h.pv with ⟨_,b,e⟩ | ⟨_,w,e⟩
 ·rw[e];exact Q0E k b
 ·rw[e];rfl
theorem RowOk.res{top:List W}{x:Rw}(h:RowOk top x)(M:DH):res M x.v=x.v:=by
 rcases h.pv with ⟨_,b,e⟩ | ⟨_,w,e⟩ <;> rw[e] <;> rfl
theorem RowOk.nb{top:List W}{x:Rw}(h:RowOk top x)(b:Bool):x.v≠.bl b:=by
 rcases h.pv with ⟨_,c,e⟩ | ⟨_,w,e⟩ <;> rw[e] <;> exact fun z=>nomatch z
theorem RowOk.d{top:List W}{x:Rw}(h:RowOk top x)(k:Nat):plain (k+3) x.d=true:=by
 show [dn x.n,.int x.l,.str x.k,x.v].all (plain (k+2))=true;simp only[ZU,all_nil,Q0E,h.v,Bool.and_true,Bool.true_and];rfl
theorem Q1t{top:List W}{rows:List Rw}(h:∀ x∈rows,RowOk top x)(k:Nat):plain (k+4) (.lst (rows.map Rw.d))=true:=by
 show (rows.map Rw.d).all (plain (k+3))=true;rw[ZN];intro d hd;obtain⟨x,hx,rfl⟩:=ZH.mp hd;exact (h x hx).d k
theorem Q3W{xs:List D}{M:DH}{Q:DK}{d:D}(e:xs[xs.length-1]? = some d)(h:Q d M):rIxD (.tup xs) (.int (-1)) M Q:=by
 show (match atI xs (-1) with | some c=>Q c M | none=>False)
 rw[My.atI_last (by intro z;subst z;cases e),e]
 exact h
theorem QbK{x:Nat}(hx:x<10 ^ 31):((x:Nat):Int).natAbs.log2<1920:=by
 rw[Int.natAbs_natCast];by_cases h0:x=0
 ·subst h0;decide
 ·exact (Nat.log2_lt h0).mpr (Z2 hx (Z3 (by decide:10 ^ 31<=2 ^ 128) (Nat.pow_le_pow_right (by decide) (by decide))))
theorem Q8j{α:Type}(xs:List α):cut xs (some (-1)) none=xs.drop (xs.length-1):=by
 unfold cut;have e:HT.sIx xs.length 0 (some (-1))=xs.length-1:=by
  show (if ((-1:Int)<0) then ((-1:Int)+(xs.length:Int)).toNat else min (-1:Int).toNat xs.length)=_
  rw[Zg (by decide)]
  omega
 rw[sIx_none,e,take_of_length_le (by rw[length_drop];exact Zs _)]
noncomputable def b_az:CS :=
  (.seq (.ret (.cmp .eq (.sl (.var 0) (.neg (.con (.int 1))) .nil) (.tup (.cons (.glob 11) .nil))))
  .nil)
noncomputable def b_a5:CS :=
  (.seq (.ret (.blt .min1 (.cons (.compz false [] (.var 0) .nil (.ix (.var 0) (.con (.int 1)))) .nil)))
  .nil)
noncomputable def b_aT:CS :=
  (.seq (.ret (.frz (.blt .sorted (.cons (.compz false [] (.var 0) .nil (.ix (.var 0) (.con (.int 3)))) .nil))))
  .nil)
noncomputable def b_a4:CS :=
  (.seq (.ret (.compz false [2] (.dget2 (.fld "Page" "rows" (.var 0)) (.var 1) (.lstz .nil)) (.cmp .eq (.ix (.var 0) (.con (.int 2))) (.var 1)) (.var 0)))
  .nil)
noncomputable def b_ap:CS :=
  (.seq (.set 2 (.ix (.compz false [0] (.call 2 (.cons (.var 1) .nil)) (.meth 302 (.var 1) (.cons (.var 0) .nil)) (.var 0)) (.neg (.con (.int 1)))))
  (.seq (.ret (.ite (.cmp .eq (.var 2) (.var 1)) (.var 1) (.bin .add (.var 2) (.tup (.cons (.glob 11) .nil)))))
  .nil))
theorem Q3B{a b:List W}(h:a.Perm b)(ha:a.Pairwise (fun x y=>x<=y))(hb:b.Pairwise (fun x y=>x<=y)):a=b :=
 List.Perm.eq_of_pairwise (le:=fun x y:W=>x<=y) (fun x y _ _ h1 h2=>Std.le_antisymm h1 h2) ha hb h
noncomputable def zbk(zs:List W):List W:=Classical.epsilon fun zs'=>zs'.Perm zs/\zs'.Pairwise (fun x y=>x<=y)
theorem Q1X(h:zs'.Perm zs)(hs:zs'.Pairwise (fun x y=>x<=y)):zs'=zbk zs:=by
 have:=Classical.epsilon_spec (p:=fun zs':List W=>zs'.Perm zs/\zs'.Pairwise (fun x y=>x<=y)) ⟨zs',h,hs⟩;exact Q3B (h.trans this.1.symm) hs this.2
noncomputable def minI(ns:List Int):Int:=Classical.epsilon fun z=>z∈ns/\∀ a∈ns,z<=a
theorem Q3X(h:z∈ns)(hs:∀ a∈ns,z<=a):z=minI ns:=by
 have:=Classical.epsilon_spec (p:=fun z:Int=>z∈ns/\∀ a∈ns,z<=a) ⟨z,h,hs⟩;have h1:=hs _ this.1;have h2:=this.2 _ h;show z=minI ns;unfold minI;omega
noncomputable def za8:W:=[101,108,115,101]
noncomputable def zam:W:=[100,111,111,114]
noncomputable def zbm:W:=[114,111,119,115]
noncomputable def kEmpty:W:=[101,109,112,116,121]
noncomputable def kNone:W:=[110,111,110,101]
noncomputable def za3(rows:List Rw)(k:W):List Rw:=rows.filter fun x=>decide (x.k=k)
noncomputable def zaf:D->W
 | .str w=>w
 | _=>[]
noncomputable def nmOf:D->List W
 | .tup xs=>xs.map zaf
 | _=>[]
theorem Q2m(a:List W):nmOf (dn a)=a:=by
 unfold nmOf dn;simp only[ZT]
 induction a with
 | nil=>rfl
 | cons x r ih=>rw[Z6,ih];rfl
noncomputable def zaN(xs:List Rw):D:=.lst ((zbk (xs.map fun x=>zaf x.v)).map D.str)
noncomputable def zbO(xs:List Rw):D:=.int (minI (xs.map fun x=>x.l))
noncomputable def zaz(rows:List Rw)(pl:List W)(k:W)(life:Int):D:=match za3 (atN rows pl) za8 with
 | x::_=>.tup [.str za8,x.v,.int x.l]
 | []=>match za3 (atN rows pl) k with
  | x::r=>.tup [.str zbm,zaN (x::r),zbO (x::r)]
  | []=>.tup [.str kEmpty,.int life]
noncomputable def zaj(rows:List Rw)(pl:List W)(k:W)(life:Int):D :=
 if pl.drop (pl.length-1)=[[42]]/\atN rows pl=[] then .tup [.str kNone,.int life] else zaz rows pl k life
open Classical in
noncomputable def zao(top:List W)(rows:List Rw)(n:List W):Nat:=(((List.range (n.length+1)).filter fun j=>decide (Std top rows (n.take j))).getLast?).getD 0
noncomputable def zaa(top:List W)(rows:List Rw)(n:List W):List W:=if zao top rows n=n.length then n else n.take (zao top rows n)++[[42]]
noncomputable def zae(rows:List Rw)(c:List W):Option Rw:=(rows.filter fun x=>decide (x.k=zad/\x.n=c)).getLast?
theorem Q0P(rows:List Rw)(c:List W):zaJ rows c=(zae rows c).map Rw.d:=rfl
noncomputable def zaC(rows:List Rw)(c h:List W):List Rw:=if h.take c.length=c then za3 (atN rows h) zam else []
noncomputable def zaD(rows:List Rw)(x:Rw):D:=.tup [.str zad,dn x.n,x.v,zaN (zaC rows x.n (nmOf x.v)),zbO (x::zaC rows x.n (nmOf x.v))]
noncomputable def za9(top:List W)(life:Int)(rows:List Rw)(n:List W)(k:W):D:=match cutN top rows n with
 | some c=>match zae rows c with
  | some x=>zaD rows x
  | none=>.non
 | none=>zaj rows (zaa top rows n) k life
noncomputable def Good(top:List W)(rows:List Rw):Prop:=rows.length<60/\∀ x∈rows,RowOk top x
noncomputable def sp_az:DSp:=fun ds M R=>∃ n:List W,ds=[dn n]/\R (.bl (decide (n.drop (n.length-1)=[[42]]))) M
noncomputable def sp_a5:DSp:=fun ds M R=>∃ xs:List Rw,ds=[.lst (xs.map Rw.d)]/\0<xs.length/\xs.length<=900/\R (zbO xs) M
noncomputable def sp_aT:DSp:=fun ds M R=>∃ xs:List Rw,ds=[.lst (xs.map Rw.d)]/\xs.length<64/\(∀ x∈xs,∃ w,x.v=.str w)/\R (zaN xs) M
noncomputable def sp_a4:DSp:=fun ds M R=>∃ (p:Addr) (n:List W) (k:W) (M0:DH) (top:List W) (life:Int) (rows:List Rw),ds=[.ref p,dn n,.str k]/\Page M0 M p top life rows/\rows.length<=900/\R (.lst ((za3 (atN rows n) k).map Rw.d)) M
noncomputable def sp_ap:DSp:=fun ds M R=>∃ (p:Addr) (n:List W) (M0:DH) (top:List W) (life:Int) (rows:List Rw),ds=[.ref p,dn n]/\Page M0 M p top life rows/\n.length<=900/\n.take top.length=top/\R (dn (zaa top rows n)) M
theorem Good.in(h:Good top rows):∀ x∈rows,zbY top x:=fun x hx=>(h.2 x hx).in_
theorem Q0Q(h:x∈za3 rows k):x∈rows/\x.k=k:=by
 obtain⟨h1,h2⟩:=mem_filter.mp h;exact⟨h1,ZL h2⟩
theorem Q1d(h:x∈atN rows n):x∈rows/\x.n=n:=by
 obtain⟨h1,h2⟩:=mem_filter.mp h;exact⟨h1,ZL h2⟩
theorem Q1n(rows:List Rw)(n:List W)(k:W):(za3 (atN rows n) k).length<=rows.length:=Z3 (ZI _ _) (ZI _ _)
theorem Good.strs(h:Good top rows)(hk:¬ IsN k):∀ x∈za3 (atN rows n) k,∃ w,x.v=.str w:=by
 intro x hx;obtain⟨h1,h2⟩:=Q0Q hx;obtain⟨h3,h4⟩:=Q1d h1;rcases (h.2 x h3).pv with ⟨a,_⟩ | ⟨_,b⟩
 ·rw[h2]at a;exact absurd a hk
 ·exact b
theorem Good.plain(h:Good top rows)(n:List W)(k:W):DL.plain 12 (.lst ((za3 (atN rows n) k).map Rw.d))=true :=
 Q1t (top:=top) (fun x hx=>h.2 x (Q1d (Q0Q hx).1).1) 8
section
variable{T:Tab}
theorem ok_az(T:Tab)(h11:T.con 11=some (("STAR" : Str),D.str [42])):∀ ds M R,sp_az ds M R->evS T b_az (za0 R) (za1 ["name"] ds) M:=by
 rintro ds M R ⟨n,rfl,h⟩;simp only[b_az,dn];walk_at "ev";simp only[h11];walk_at "ev";have e:([D.str [42]]:List D)=([[42]]:List W).map D.str:=rfl;rw[e];simp only[Q8j,Zb,<- map_drop,Q0O];exact⟨szL (by decide),Q0e _,Q0e _,Q0f h⟩
theorem ok_a5:∀ ds M R,sp_a5 ds M R->evS T b_a5 (za0 R) (za1 ["rows"] ds) M:=by
 rintro ds M R ⟨xs,rfl,h0,hl,h⟩;simp only[b_a5];walk_at "ev";refine Q0C (fun d=>match d with | .tup [_,l,_,_]=>l | d=>d) trivial (by rw[Zb];omega) ?_ ?_
 ·intro d k hd hk;obtain⟨x,_,rfl⟩:=ZH.mp hd;simp only[Rw.d]at hk ⊢;walk_at "ev";walk_at "q1";exact hk
 ·have e:(xs.map Rw.d).map (fun d=>match d with | .tup [_,l,_,_]=>l | d=>d)=(xs.map fun x=>x.l).map D.int:=by
   rw[ZT,ZT];rfl
  rw[e];refine⟨szL (by rw[Zb,Zb];omega),xs.map fun x=>x.l,rfl,by rw[Zb];exact h0,fun z hz hs=>Q0f ?_⟩
  rw[Q3X hz hs];exact h
theorem ok_aT:∀ ds M R,sp_aT ds M R->evS T b_aT (za0 R) (za1 ["rows"] ds) M:=by
 rintro ds M R ⟨xs,rfl,h64,hv,h⟩;simp only[b_aT];walk_at "ev";simp only[dFrz];walk_at "ev";refine Q0C (fun d=>match d with | .tup [_,_,_,v]=>.str (zaf v) | d=>d) trivial (by rw[Zb];omega) ?_ ?_
 ·intro d k hd hk;obtain⟨x,hx,rfl⟩:=ZH.mp hd;obtain⟨w,hw⟩:=hv x hx;simp only[Rw.d,hw,zaf]at hk ⊢;walk_at "ev";walk_at "q1";exact hk
 ·have e:(xs.map Rw.d).map (fun d=>match d with | .tup [_,_,_,v]=>.str (zaf v) | d=>d)=(xs.map fun x=>zaf x.v).map D.str:=by
   rw[ZT,ZT];rfl
  rw[e];refine⟨szL (by rw[Zb,Zb];omega),xs.map fun x=>zaf x.v,rfl,by rw[Zb];exact h64,fun zs hp hs q hq=>?_⟩
  simp only[Q0a];rw[Q1X hp hs];refine⟨M,fun c o e=>?_,h⟩;unfold ddel dupd;have:c≠q:=dne e hq;rw[Zc this,Zc this];exact e
theorem ok_a4:∀ ds M R,sp_a4 ds M R->evS T b_a4 (za0 R) (za1 ["self","place","kind"] ds) M:=by
 rintro ds M R ⟨p,n,k,M0,top,life,rows,rfl,⟨r,d,s,kr,kd,ks,G⟩,hn,h⟩;simp only[b_a4];walk_at "ev";refine⟨p,_,_,rfl,G.ob,Q1M,r,kr,rfl,G.hR.m,szL (by decide),n,kr,rfl,G.hR.m,?_⟩
 have loop:∀ (xs:List Rw) (Cd:DH->Prop),xs.length<=900->Cd M->zaq [some (.str k)] (fun d=>some [d]) (dB (dOp (rEqN id) (dOp rIxD (dVar 0) (dC (.int 2))) (dVar 1))) (dVar 0) Cd (fun ys M2=>ys.length<=sizeLine/\∃ M0,Sub M0 M2/\(ys=(za3 xs k).map Rw.d->R (.lst ys) M0)) (xs.map Rw.d) [] M->True:=fun _ _ _ _ _=>trivial;clear loop;have turn:∀ (xs:List Rw),(xs.map Rw.d).length<=900->∀ (i:Nat) (d:D) (ys:List D) (M':DH) (kk:List D->DH->Prop),(xs.map Rw.d)[i]? = some d->M'=M/\ys=(za3 (xs.take i) k).map Rw.d->(∀ ys' M'',(M''=M/\ys'=(za3 (xs.take (i+1)) k).map Rw.d)->kk ys' M'') ->
   dB (dOp (rEqN id) (dOp rIxD (dVar 0) (dC (.int 2))) (dVar 1)) [some d,some (.str k)] M' fun b M3=>if b=true then dVar 0 [some d,some (.str k)] M3 fun z M4=>ys.length<sizeLine/\kk (ys++[z]) M4 else kk ys M3:=by
  rintro xs hxl i d ys M' kk hd ⟨rfl,rfl⟩ hk;rw[Zq]at hd;cases ei:xs[i]? with
  | none=>rw[ei]at hd;cases hd
  | some x =>
   rw[ei]at hd;cases hd;simp only[Rw.d];walk_at "ev";walk_at "q1";walk_at "ev";have hs:za3 (xs.take (i+1)) k=za3 (xs.take i) k++za3 [x] k:=by
    rw[take_add_one,ei];unfold za3;rw[filter_append];rfl
   refine⟨rfl,rfl,ite2 (fun q=>?_) fun q=>hk _ _ ⟨rfl,?_⟩⟩
   ·rw[Ze]at q;refine⟨small1000 ?_,hk _ _ ⟨rfl,?_⟩⟩
    ·rw[Zb];refine Z3 (ZI _ _) ?_;rw[ZA];rw[Zb]at hxl;omega
    ·rw[hs,ZC];unfold za3;rw[ZF,Zg (Zo q)];rfl
   ·rw[Ze]at q;rw[hs];unfold za3;rw[ZF,Zc (by rw[Ze];exact q),filter_nil,ZM]
 cases e:valD kr n with
 | none =>
  have en:=G.hR.no n e;rw[en]at h;exact⟨trivial,szL (by decide),Q0f h⟩
 | some v =>
  obtain⟨l,rfl,g1,g2⟩:=G.hR.v n v e;simp only[g1];have hxl:((atN rows n).map Rw.d).length<=900:=by
   rw[Zb];exact Z3 (ZI _ _) hn
  refine Q0v (fun i ys M'=>M'=M/\ys=(za3 ((atN rows n).take i) k).map Rw.d) ⟨rfl,rfl⟩ (fun i ys M' h=>by rw[h.1];exact g1) (fun i d ys M' kk hd hi hk=>turn _ hxl i d ys M' kk hd hi hk) ?_
  rintro ys M' ⟨rfl,rfl⟩;have tl:(atN rows n).take ((atN rows n).map Rw.d).length=atN rows n:=by rw[Zb,Ym]
  rw[tl];refine⟨szL ?_,Q0f h⟩;rw[Zb];exact Z3 (Q1n rows n k) (by omega)
end
open Classical in
theorem Q2n(top:List W)(rows:List Rw)(n:List W)(ht:n.take top.length=top):zao top rows n<=n.length/\top.length<=zao top rows n/\Std top rows (n.take (zao top rows n))/\∀ j,zao top rows n<j->j<=n.length->¬ Std top rows (n.take j):=by
 unfold zao;have hl:top.length<=n.length:=by rw[<- ht,ZA];omega
 generalize hF:(List.range (n.length+1)).filter (fun j=>decide (Std top rows (n.take j)))=F;have mem:∀ j,j∈F <-> j<=n.length/\Std top rows (n.take j):=fun j=>by
  rw[<- hF,mem_filter,mem_range,Ze];exact⟨fun z=>⟨by omega,z.2⟩,fun z=>⟨by omega,z.2⟩⟩
 have tm:top.length∈F:=(mem _).mpr ⟨hl,.inl ht⟩;have pw:F.Pairwise (· < ·):=by rw[<- hF];exact List.Pairwise.filter _ List.pairwise_lt_range
 have hne:F≠[]:=fun z=>by rw[z]at tm;cases tm
 rw[List.getLast?_eq_some_getLast hne,Option.getD_some];have lastm:=(mem _).mp (List.getLast_mem hne);have big:∀ j∈F,j<=F.getLast hne:=by
  intro j hj;obtain⟨i,hi,rfl⟩:=List.mem_iff_getElem.mp hj;rw[List.getLast_eq_getElem];rcases lt_or_ge i (F.length-1) with z | z
  ·exact le_of_lt (List.pairwise_iff_getElem.mp pw i (F.length-1) hi (by omega) z)
  ·have:i=F.length-1:=by omega
   subst this;exact Zs _
 exact⟨lastm.1,big _ tm,lastm.2,fun j hj hjn hs=>absurd (big j ((mem j).mpr ⟨hjn,hs⟩)) (by omega)⟩
theorem ok_ap(T:Tab)(h302:T.mt 302=some ⟨"Page","has",1,sp_ay⟩)(h2:T.fn 2=some ⟨"above",1,[],sp_a3⟩)(h11:T.con 11=some (("STAR" : Str),D.str [42])):∀ ds M R,sp_ap ds M R->evS T b_ap (za0 R) (za1 ["self","name","nearest"] ds) M:=by
 rintro ds M R ⟨p,n,M0,top,life,rows,rfl,Pg,hl,ht,h⟩;obtain⟨r,d,s,kr,kd,ks,G⟩:=id Pg;obtain⟨n1,n2,n3,n4⟩:=Q2n top rows n ht;simp only[b_ap];refine Q0c fun k1 e1=>?_;walk_at "ev";simp only[h2,h302];walk_at "ev";refine⟨n,rfl,hl,fun a ha=>?_⟩;have G1:=G.new (o:=.lst (zac n)) ha;have Pg1:Page M0 (dupd M a (.lst (zac n))) p top life rows:=⟨_,_,_,_,_,_,G1⟩;have sM:Sub M (dupd M a (.lst (zac n))):=Sub.new ha;simp only[Q0a];have len:(zac n).length=n.length+1:=by unfold zac;rw[Zb,length_range]
 refine Q0v (fun i ys M'=>M'=dupd M a (.lst (zac n))/\ys.length<=i/\(zao top rows n<i->ys[ys.length-1]? = some (dn (n.take (zao top rows n))))) ⟨rfl,Zs _,fun z=>absurd z (not_lt_zero _)⟩ (fun i ys M' h=>by rw[h.1,Q0a]) ?_ ?_
 ·rintro i d0 ys M' k hd ⟨rfl,hyl,hy⟩ hk;have hi:i<n.length+1:=by rw[<- len];exact (Zj.mp hd).1
  unfold zac at hd;rw[Zq,getElem?_range hi]at hd;cases hd;walk_at "ev";refine⟨p,_,rfl,G1.ob,Q1s,p,n.take i,M0,top,life,rows,rfl,Pg1,fun b hb=>?_⟩;cases b with
  | true =>
   refine iteT ⟨small1000 (by omega),hk _ _ ⟨rfl,by rw[Zl];show ys.length+1<=i+1;omega,fun z=>?_⟩⟩
   have hs:=hb.mp rfl;have:i=zao top rows n:=by
    rcases lt_or_ge (zao top rows n) i with q | q
    ·exact absurd hs (n4 i q (by omega))
    ·omega
   rw[Zl];show (ys++[dn (n.take i)])[ys.length+1-1]? = _;rw[Nat.add_sub_cancel,getElem?_append_right (Zs _),sub_self,this];rfl
  | false =>
   refine iteF (hk _ _ ⟨rfl,by omega,fun z=>?_⟩)
   rcases lt_or_ge (zao top rows n) i with q | q
   ·exact hy q
   ·have:i=zao top rows n:=by omega
    rw[this]at hb;exact absurd (hb.mpr n3) (by decide)
 ·rintro ys M' ⟨rfl,hyl,hy⟩;rw[len]at hyl hy;refine⟨szL (by omega),?_⟩
  try walk_at "ev"
  refine Q2l (hy (by omega)) ?_
  rw[e1];clear e1;walk_at "ev";simp only[h11];simp only[dn];walk_at "ev";simp only[Q0O];unfold zaa at h;have lt:(n.take (zao top rows n)).length=zao top rows n:=by rw[ZA];omega
  refine⟨Q0e _,Q0e _,ite2 (fun q=>?_) fun q=>?_⟩
  ·rw[Ze]at q;rw[Zg (by rw[<- lt,q])]at h
   exact⟨M,sM,h⟩
  ·rw[Ze]at q;rw[Zc (fun z=>q (by rw[z,Ym]))]at h
   refine⟨szL (by decide),szL (by rw[Zb,lt];(try simp only[Zi,Z8]);omega),M,sM,?_⟩
   unfold dn at h;rw[ZC]at h;exact h
theorem Q0F(h:zae rows c=some x):x∈rows/\x.k=zad/\x.n=c:=by
 obtain⟨h1,h2⟩:=mem_filter.mp (List.mem_of_getLast? h);exact⟨h1,ZL h2⟩
noncomputable def b_aM:CS :=
  (.seq (.ite (.and (.cmp .inO (.var 1) (.fld "House" "zones" (.var 0))) (.cmp .ninD (.var 1) (.fld "House" "pages" (.var 0))))
  (.seq (.dput (.fld "House" "pages" (.var 0)) (.var 1) (.make 300 (.cons (.dix (.fld "House" "zones" (.var 0)) (.var 1)) .nil)))
  .nil)
  .nil)
  (.seq (.ret (.dget1 (.fld "House" "pages" (.var 0)) (.var 1)))
  .nil))
noncomputable def b_aG:CS :=
  (.seq (.set 2 (.compz false [0] (.call 2 (.cons (.var 1) .nil)) (.cmp .inD (.var 0) (.fld "House" "zones" (.var 1))) (.var 0)))
  (.seq (.ret (.ite (.cmp .ne (.var 2) (.lstz .nil)) (.ix (.var 2) (.neg (.con (.int 1)))) (.con .non)))
  .nil))
noncomputable def b_a2:CS :=
  (.seq (.setf "House" "zones" (.var 0) (.blt .dict (.cons (.compz false [] (.var 1) .nil (.tup (.cons (.ix (.var 0) (.con (.int 0))) (.cons (.var 0) .nil)))) .nil)))
  (.seq (.setf "House" "pages" (.var 0) .dnew)
  (.seq (.setf "House" "turned" (.var 0) .dnew)
  .nil)))
noncomputable def b_am:CS :=
  (.seq (.ret (.make 320 (.cons (.kget2 (.var 0) (.var 1) (.lstz .nil)) .nil)))
  .nil)
structure Zn where
 o:W
 t:List W
 l:Int
 r:List Rw
noncomputable def Zn.v(z:Zn):D:=zD z.t z.l z.r
noncomputable def Zn.kv(z:Zn):List W×D:=(z.t,z.v)
noncomputable def atT(zs:List Zn)(n:List W):Option Zn:=zs.find? fun z=>decide (z.t=n)
theorem Q2C:∀ (zs:List Zn) (kvs:List (List W×D)) (n:List W),(zs.map (·.t)).Nodup->valD (zaA kvs (zs.map Zn.kv)) n=match atT zs n with | some z=>some z.v | none=>valD kvs n
 | [],kvs,n,_=>rfl
 | z::r,kvs,n,h=>by
  rw[Z6,nodup_cons]at h;have ih:=Q2C r (putD kvs z.t z.v) n h.2;show valD (zaA (putD kvs z.t z.v) (r.map Zn.kv)) n=_;rw[ih];unfold atT;rw[find?_cons];by_cases e:z.t=n
  ·rw[Zo e];have hn:r.find? (fun z=>decide (z.t=n))=none:=by
    rw[find?_eq_none];intro y hy;simp only[Ze];exact fun e2=>h.1 (ZH.mpr ⟨y,hy,e2.trans e.symm⟩)
   rw[hn];show valD (putD kvs z.t z.v) n=some z.v;rw[Q0u,Zg e.symm]
  ·rw[Z5 e];cases r.find? (fun z=>decide (z.t=n)) with
   | some y=>rfl
   | none=>show valD (putD kvs z.t z.v) n=valD kvs n;rw[Q0u,Zc (fun e2=>e e2.symm)]
structure HouseAt(M:DH)(p:Addr)(zs:List Zn):Prop where
 ex:∃ d fs kvs,M p=some (.oth (.ins "House" fs))/\fs.lookup ("zones" : Str)=some (.ref d)/\fs.lookup ("zone" : Str)=none/\fs.lookup ("nearest_top" : Str)=none/\M d=some (.oth (.dct kvs))/\∀ n,valD kvs n=(atT zs n).map Zn.v
 nd:(zs.map (·.t)).Nodup
theorem HouseAt.sub(h:HouseAt M p zs)(s:Sub M M'):HouseAt M' p zs:=by
 obtain⟨d,fs,kvs,e1,e2,e3,e4,e5,e6⟩:=h.ex;exact⟨⟨d,fs,kvs,s _ _ e1,e2,e3,e4,s _ _ e5,e6⟩,h.nd⟩
noncomputable def onm:Option (List W)->D
 | some a=>dn a
 | none=>.non
theorem atT_t(h:atT zs n=some z):z.t=n:=by
 have:=find?_some h;simpa using this
noncomputable def up(zs:List Zn)(a:List W):Nat->Option Zn
 | 0=>none
 | k+1=>match atT zs (a.take k) with
  | some z=>some z
  | none=>up zs a k
theorem up_at:∀ {k:Nat},up zs a k=some z->atT zs z.t=some z
 | 0,h=>nomatch h
 | k+1,h=>by
  unfold up at h;cases e:atT zs (a.take k) with
  | none=>rw[e]at h;exact up_at h
  | some y =>
   rw[e]at h;cases h;rw[atT_t e];exact e
noncomputable def upT(zs:List Zn)(a:List W):Option (List W):=(up zs a (a.length+1)).map (·.t)
noncomputable def sp_aG:DSp:=fun ds M R=>∃ (p:Addr) (zs:List Zn) (a:List W),ds=[.ref p,dn a]/\HouseAt M p zs/\a.length<=900/\R (onm (upT zs a)) M
theorem ok_aG(T:Tab)(h2:T.fn 2=some ⟨"above",1,[],sp_a3⟩):∀ ds M R,sp_aG ds M R->evS T b_aG (za0 R) (za1 ["self","name","tops"] ds) M:=by
 rintro ds M R ⟨p,zs,a,rfl,hp,hl,h⟩;obtain⟨d,fs,kvs,e1,e2,e3,e4,e5,e6⟩:=hp.ex;simp only[b_aG];refine Q0c fun k1 e0=>?_;walk_at "ev";simp only[h2];walk_at "ev";refine⟨a,rfl,hl,fun q hq=>?_⟩;simp only[Q0a];refine Q0v (fun i ys M'=>M'=dupd M q (.lst (zac a))/\ys.length<=i/\ys.getLast? = (up zs a i).map (fun z=>dn z.t)/\∀ y∈ys,∃ n:List W,y=dn n) ⟨rfl,Zs _,rfl,fun y h=>nomatch h⟩ (fun i ys M' h=>by rw[h.1];exact Q0a) ?_ ?_
 ·rintro i y ys M' k hi ⟨rfl,hy,hlast,hall⟩ hk;have hi1:i<a.length+1:=by
   have:=(Zj.mp hi).1;unfold zac at this;rw[Zb,length_range]at this;exact this
  have hy':y=dn (a.take i):=by
   unfold zac at hi;rw[Zq,getElem?_range hi1]at hi;cases hi;rfl
  subst hy';walk_at "ev";have sb:=Sub.new (o:=.lst (zac a)) hq;refine⟨p,fs,_,rfl,sb _ _ e1,e2,a.take i,d,kvs,rfl,rfl,sb _ _ e5,?_⟩;rw[e6];cases ez:atT zs (a.take i) with
  | none =>
   refine hk _ _ ⟨rfl,by omega,?_,hall⟩
   rw[hlast];show _=((match atT zs (a.take i) with | some z=>some z | none=>up zs a i)).map _
   rw[ez]
  | some z =>
   show _/\_;refine⟨small1000 (by omega),hk _ _ ⟨rfl,by rw[Zl];show ys.length+1<=i+1;omega,?_,fun y hy=>?_⟩⟩
   ·rw[List.getLast?_append];show some _=((match atT zs (a.take i) with | some z=>some z | none=>up zs a i)).map _
    rw[ez];show some (dn (a.take i))=some (dn z.t);rw[atT_t ez]
   ·rcases Z0.mp hy with hy | hy
    ·exact hall y hy
    ·rw[Zp.mp hy];exact⟨_,rfl⟩
 ·rintro ys M' ⟨rfl,hy,hlast,hall⟩;have hal:(zac a).length=a.length+1:=by unfold zac;rw[Zb,length_range]
  rw[hal]at hy hlast;refine⟨szL (by omega),?_⟩
  rw[e0];clear e0;walk_at "ev";have pl:plain 12 (.lst ys)=true:=by
   show ys.all (plain 11)=true;rw[ZN];intro y hy;obtain⟨n,rfl⟩:=hall y hy;exact Q0E 9 n
  refine⟨szL (by decide),pl,rfl,?_⟩
  have fin:∀ x,x=onm (upT zs a)->∃ M0,Sub M0 (dupd M q (.lst (zac a)))/\R x M0:=fun x e=>⟨M,Sub.new hq,by rw[e];exact h⟩
  refine ite2 (fun q9=>?_) fun q9=>?_
  ·have hne:ys≠[]:=fun z=>by
    subst z;rw[show eqB (D.lst []) (D.lst [])=true from Q0p _]at q9;cases q9
   have hn:ys[ys.length-1]? = ys.getLast?:=by rw[List.getLast?_eq_getElem?]
   cases eu:up zs a (a.length+1) with
   | none =>
    rw[eu]at hlast;exact absurd (List.getLast?_eq_none_iff.mp hlast) hne
   | some z =>
    rw[eu]at hlast;refine Q2l (by rw[hn,hlast];rfl) (fin _ ?_)
    unfold upT;rw[eu];rfl
  ·have hne:ys=[]:=by
    cases ys with
    | nil=>rfl
    | cons y r =>
     refine absurd ?_ q9;rw[(Q0W (D.lst (y::r)) (D.lst [])).mpr (fun z=>by cases z)]
     rfl
   subst hne;refine fin _ ?_;have:(up zs a (a.length+1))=none:=by
    cases e:up zs a (a.length+1) with
    | none=>rfl
    | some z=>rw[e]at hlast;cases hlast
   unfold upT;rw[this];rfl
theorem Q1H(e:zag M d=some xs):d=.lst xs\/∃ a,d=.ref a/\M a=some (.lst xs):=by
 cases d with
 | lst ys=>cases e;exact .inl rfl
 | ref a =>
  simp only[zag]at e;cases ea:M a with
  | none=>rw[ea]at e;cases e
  | some o =>
   rw[ea]at e;cases o with
   | lst ys=>cases e;exact .inr ⟨a,rfl,ea⟩
   | oth _=>cases e
 | _=>simp only[zag]at e;cases e
theorem Q3C{Cd:DH->Prop}{Q:List D->DH->Prop}{zs:List Zn}{M:DH}(hC:Cd M)(hl:zs.length<=900)(hd:Q ((zs.map Zn.kv).map DL.pairD) M) :
  zaq [] (fun d=>some [d]) zb3 (dTup (zaB (dOp rIxD (dVar 0) (dC (D.int 0))) (zaB (dVar 0) dNil))) Cd Q (zs.map Zn.v) [] M:=by
 refine Q0v (fun i ys M'=>M'=M/\ys=((zs.take i).map Zn.kv).map DL.pairD) ⟨rfl,by simp⟩ (fun i ys M' h=>by rw[h.1];exact hC) ?_ ?_
 ·rintro i d ys M' k e ⟨rfl,rfl⟩ hk;have hi:=(Zj.mp e).1;rw[Zb]at hi;rw[Zq]at e;cases ez:zs[i]? with
  | none=>rw[ez]at e;cases e
  | some z =>
   rw[ez]at e;cases e;walk_at "ev";simp only[Zn.v,zD];walk_at "q0";refine⟨szL (by decide),?_⟩
   refine⟨small1000 (by rw[Zb,Zb,ZA];omega),hk _ _ ⟨rfl,?_⟩⟩
   rw[take_add_one,ez,ZC,ZC];rfl
 ·rintro ys M' ⟨rfl,rfl⟩;rw[Zb,Ym];exact hd
theorem houseF1:zal ("pages" : Str) b (zal ("zones" : Str) a [])=[(("zones" : Str),a),(("pages" : Str),b)]:=by
 rw[Q0D (fs:=[]) (by simp),Q0D (by show ("pages" : Str)∉[("zones" : Str)];decide +kernel)]
 rfl
theorem houseF2:zal ("turned" : Str) c [(("zones" : Str),a),(("pages" : Str),b)]=[(("zones" : Str),a),(("pages" : Str),b),(("turned" : Str),c)]:=by
 rw[Q0D (by show ("turned" : Str)∉[("zones" : Str),"pages"];decide +kernel)]
 rfl
noncomputable def ofD(zs:List Zn)(w:W):List Zn:=zs.filter fun z=>decide (z.o=w)
noncomputable def HsOk(M:DH)(a:Addr)(zs:List Zn):Prop:=∃ kvs,M a=some (.oth (.dkt kvs))/\∀ w,(valT kvs w=none/\ofD zs w=[])\/∃ d,valT kvs w=some d/\zag M d=some ((ofD zs w).map Zn.v)
theorem Q2S(zs:List Zn)(n:List W):(upT zs n).bind (atT zs)=up zs n (n.length+1):=by
 unfold upT;cases e:up zs n (n.length+1) with
 | none=>rfl
 | some z=>exact up_at e
noncomputable def vlen:D->Nat
 | .tup xs=>xs.length
 | _=>0
structure ZnOk(z:Zn):Prop where
 r:∀ x∈z.r,RowOk z.t x
 t:z.t.length<=5
 l:z.r.length<60
 v:∀ x∈z.r,vlen x.v<=20
 s:∀ w∈z.t,w≠[42]
structure ZsOk(zs:List Zn):Prop where
 ok:∀ z∈zs,ZnOk z
 l:zs.length<=8
 nd:∀ w,((ofD zs w).map (·.t)).Nodup
theorem ZsOk.len(h:ZsOk zs)(w:W):(ofD zs w).length<=8:=Z3 (ZI ..) h.l
theorem ZnOk.good(h:ZnOk z):Good z.t z.r:=⟨h.l,h.r⟩
theorem Q3D(h:z∈ofD zs w):z∈zs:=(mem_filter.mp h).1
noncomputable def hsF(zd pd td:Addr):List (Str×D):=[(("zones" : Str),.ref zd),(("pages" : Str),.ref pd),(("turned" : Str),.ref td)]
section
variable{zd pd td:Addr}
theorem hsF_z:List.lookup ("zones" : Str) (hsF zd pd td)=some (D.ref zd):=Q1b
theorem hsF_p:List.lookup ("pages" : Str) (hsF zd pd td)=some (D.ref pd):=(Q0j (by decide +kernel)).trans Q1b
theorem hsF_t:List.lookup ("turned" : Str) (hsF zd pd td)=some (D.ref td):=(Q0j (by decide +kernel)).trans ((Q0j (by decide +kernel)).trans Q1b)
theorem Q0R{m:Str}(h1:(m == "zones")=false:=by decide +kernel)(h2:(m == "pages")=false:=by decide +kernel)(h3:(m == "turned")=false:=by decide +kernel):List.lookup m (hsF zd pd td)=none:=(Q0j h1).trans ((Q0j h2).trans ((Q0j h3).trans rfl))
end
section
variable{M0 M:DH}{p r d s q:Addr}{top:List W}{life:Int}{kr kd ks:List (List W×D)}{rr rd:List Rw}{o:MO}{S:List W->Prop}{k:Nat}
theorem PG.mono(h:PG M0 M p r d s top life kr kd ks rr rd S k)(sb:Sub M M'):PG M0 M' p r d s top life kr kd ks rr rd S k :=
 {h with
  ob:=sb _ _ h.ob
  sub:=h.sub.trans sb
  hR:={ h.hR with
   m:=sb _ _ h.hR.m
   v:=fun n v e=>by
    obtain⟨l,e1,h1,h2⟩:=h.hR.v n v e;exact⟨l,e1,sb _ _ h1,h2⟩ }
  hD:={ h.hD with m:=sb _ _ h.hD.m }
  hS:={ h.hS with m:=sb _ _ h.hS.m } }
theorem PG.base(h:PG M0 M p r d s top life kr kd ks rr rd S k)(sb:Sub Mb M0):PG Mb M p r d s top life kr kd ks rr rd S k :=
 {h with
  fp:=sb.none h.fp
  sub:=sb.trans h.sub
  hR:={ h.hR with
   f:=sb.none h.hR.f
   v:=fun n v e=>by
    obtain⟨l,e1,h1,h2⟩:=h.hR.v n v e;exact⟨l,e1,h1,sb.none h2⟩ }
  hD:={ h.hD with f:=sb.none h.hD.f }
  hS:={ h.hS with f:=sb.none h.hS.f } }
theorem PG.apart(h:PG M0 M p r d s top life kr kd ks rr rd S k)(hM:∀ b,b≠q->M' b=M b)(n1:q≠p)(n2:q≠r)(n3:q≠d)(n4:q≠s)(n5:∀ n,valD kr n≠some (.ref q))(sb:Sub M0 M'):PG M0 M' p r d s top life kr kd ks rr rd S k :=
 {h with
  ob:=(hM _ n1.symm).trans h.ob
  sub:=sb
  hR:={ h.hR with
   m:=(hM _ n2.symm).trans h.hR.m
   v:=fun n v e=>by
    obtain⟨l,rfl,h1,h2⟩:=h.hR.v n v e;exact⟨l,rfl,(hM _ fun z=>n5 n (by rw[<- z];exact e)).trans h1,h2⟩ }
  hD:={ h.hD with m:=(hM _ n3.symm).trans h.hD.m }
  hS:={ h.hS with m:=(hM _ n4.symm).trans h.hS.m } }
end
noncomputable def PageX(M0 M:DH)(fo:List Addr)(pg:Addr)(z:Zn):Prop:=∃ r d s kr kd ks,PG M0 M pg r d s z.t z.l kr kd ks z.r z.r (Std z.t z.r) (1+21 * z.r.length)/\∀ b∈fo,b≠pg/\b≠r/\b≠d/\b≠s/\∀ n,valD kr n≠some (.ref b)
theorem PageX.mono(h:PageX M0 M fo pg z)(sb:Sub M M'):PageX M0 M' fo pg z:=by
 obtain⟨r,d,s,kr,kd,ks,G,k⟩:=h;exact⟨r,d,s,kr,kd,ks,G.mono sb,k⟩
theorem PageX.less(h:PageX M0 M fo pg z)(sb:∀ b∈fo',b∈fo):PageX M0 M fo' pg z:=by
 obtain⟨r,d,s,kr,kd,ks,G,k⟩:=h;exact⟨r,d,s,kr,kd,ks,G,fun b hb=>k b (sb b hb)⟩
theorem PageX.alter(h:PageX M0 M fo pg z)(hb:b∈fo)(hM:∀ c,c≠b->M' c=M c)(sb:Sub M0 M'):PageX M0 M' fo pg z:=by
 obtain⟨r,d,s,kr,kd,ks,G,k⟩:=h;obtain⟨n1,n2,n3,n4,n5⟩:=k b hb;exact⟨r,d,s,kr,kd,ks,G.apart hM n1 n2 n3 n4 n5 sb,k⟩
theorem PageX.apart(h:PageX M0 M fo pg z)(hb:b∈fo)(f:M0 b=none):PageX M0 (dupd M b o) fo pg z :=
 h.alter hb (fun c hc=>Q0b hc) (by obtain⟨r,d,s,kr,kd,ks,G,k⟩:=h;exact G.sub.put f)
theorem PageX.add(h:PageX M0 M fo pg z)(hb:M b=none):PageX M0 M (b::fo) pg z:=by
 obtain⟨r,d,s,kr,kd,ks,G,k⟩:=h;refine⟨r,d,s,kr,kd,ks,G,fun c hc=>?_⟩;rcases Zw.mp hc with rfl | hc
 ·refine⟨(dne G.ob hb).symm,(dne G.hR.m hb).symm,(dne G.hD.m hb).symm,(dne G.hS.m hb).symm,fun n e=>?_⟩;obtain⟨l,e1,h1,_⟩:=G.hR.v n _ e;cases e1;rw[hb]at h1;cases h1
 ·exact k c hc
theorem PageX.made{M0 M1 M:DH}{fo:List Addr}{pg:Addr}{z:Zn}(h:Page M1 M pg z.t z.l z.r)(sb:Sub M0 M1)(hf:∀ b∈fo,∃ o,M1 b=some o):PageX M0 M fo pg z:=by
 obtain⟨r,d,s,kr,kd,ks,G⟩:=h;refine⟨r,d,s,kr,kd,ks,G.base sb,fun b hb=>?_⟩;obtain⟨o,ho⟩:=hf b hb;refine⟨dne ho G.fp,dne ho G.hR.f,dne ho G.hD.f,dne ho G.hS.f,fun n e=>?_⟩;obtain⟨l,e1,_,h2⟩:=G.hR.v n _ e;cases e1;rw[ho]at h2;cases h2
theorem PageX.page(h:PageX M0 M fo pg z):Page M0 M pg z.t z.l z.r:=by
 obtain⟨r,d,s,kr,kd,ks,G,_⟩:=h;exact⟨r,d,s,kr,kd,ks,G⟩
noncomputable def zbn:W:=[97,119,97,121]
noncomputable def ElT(v:D):Prop:=∃ (a:D) (m:List W) (l:Int),v=.tup [a,.tup [.str za8,dn m,.int l]]
structure HX(M0 M:DH)(p zd pd td:Addr)(fo:List Addr)(zs:List Zn)(c:Nat):Prop where
 ob:M p=some (.oth (.ins "House" (hsF zd pd td)))
 n1:zd≠pd
 n2:zd≠td
 n3:pd≠td
 f1:M0 pd=none
 f2:M0 td=none
 f0:M0 zd=none
 sub:Sub M0 M
 fp:pd∈fo
 ft:td∈fo
 fi:∀ b∈fo,∃ o,M b=some o
 hz:∃ kz,M zd=some (.oth (.dct kz))/\∀ n,valD kz n=(atT zs n).map Zn.v
 hp:∃ kp,M pd=some (.oth (.dct kp))/\kp.length<=c/\∀ n v,valD kp n=some v->∃ z pg,atT zs n=some z/\v=.ref pg/\PageX M0 M fo pg z
 ht:∃ kt,M td=some (.oth (.dct kt))/\kt.length<=c/\∀ n v,valD kt n=some v->∃ z,up zs n (n.length+1)=some z/\(∀ k,¬ IsN k->v=.tup [dn z.t,za9 z.t z.l z.r n k])/\ElT v
 nd:(zs.map (·.t)).Nodup
section
variable{M0 M M':DH}{p zd pd td:Addr}{fo:List Addr}{zs:List Zn}{c:Nat}
theorem HX.house(h:HX M0 M p zd pd td fo zs c):HouseAt M p zs:=by
 obtain⟨kz,e1,e2⟩:=h.hz;exact⟨⟨zd,_,kz,h.ob,hsF_z,Q0R,Q0R,e1,e2⟩,h.nd⟩
theorem HX.mono(h:HX M0 M p zd pd td fo zs c)(sb:Sub M M'):HX M0 M' p zd pd td fo zs c :=
 {h with
  ob:=sb _ _ h.ob
  sub:=h.sub.trans sb
  fi:=fun b hb=>by obtain⟨o,e⟩:=h.fi b hb;exact⟨o,sb _ _ e⟩
  hz:=by obtain⟨kz,e1,e2⟩:=h.hz;exact⟨kz,sb _ _ e1,e2⟩
  hp:=by
   obtain⟨kp,e1,e2,e3⟩:=h.hp;refine⟨kp,sb _ _ e1,e2,fun n v e=>?_⟩;obtain⟨z,pg,q1,q2,q3⟩:=e3 n v e;exact⟨z,pg,q1,q2,q3.mono sb⟩
  ht:=by obtain⟨kt,e1,e2,e3⟩:=h.ht;exact⟨kt,sb _ _ e1,e2,e3⟩ }
theorem HX.le(h:HX M0 M p zd pd td fo zs c)(hc:c<=c'):HX M0 M p zd pd td fo zs c' :=
 {h with
  hp:=by obtain⟨kp,e1,e2,e3⟩:=h.hp;exact⟨kp,e1,Z3 e2 hc,e3⟩
  ht:=by obtain⟨kt,e1,e2,e3⟩:=h.ht;exact⟨kt,e1,Z3 e2 hc,e3⟩ }
theorem HX.less(h:HX M0 M p zd pd td fo zs c)(sb:∀ b∈fo',b∈fo)(h1:pd∈fo')(h2:td∈fo'):HX M0 M p zd pd td fo' zs c :=
 {h with
  fp:=h1
  ft:=h2
  fi:=fun b hb=>h.fi b (sb b hb)
  hp:=by
   obtain⟨kp,e1,e2,e3⟩:=h.hp;refine⟨kp,e1,e2,fun n v e=>?_⟩;obtain⟨z,pg,q1,q2,q3⟩:=e3 n v e;exact⟨z,pg,q1,q2,q3.less sb⟩ }
theorem HX.add(h:HX M0 M p zd pd td fo zs c)(hb:M b=none):HX M0 (dupd M b o) p zd pd td (b::fo) zs c:=by
 have h2:=h.mono (Sub.new (o:=o) hb);exact { h2 with
  fp:=Zk _ h.fp
  ft:=Zk _ h.ft
  fi:=fun c hc=>by
   rcases Zw.mp hc with rfl | hc
   ·exact⟨o,Q0a⟩
   ·exact h2.fi c hc
  hp:=by
   obtain⟨kp,e1,e2,e3⟩:=h.hp;refine⟨kp,Sub.new hb _ _ e1,e2,fun n v e=>?_⟩;obtain⟨z,pg,q1,q2,q3⟩:=e3 n v e;exact⟨z,pg,q1,q2,(q3.add hb).mono (Sub.new hb)⟩ }
theorem HX.alter(h:HX M0 M p zd pd td fo zs c)(hb:b∈fo)(hM:∀ c,c≠b->M' c=M c)(sb:Sub M0 M')(n1:b≠p)(n2:b≠zd)(n3:b≠pd)(n4:b≠td)(hf:∀ c∈fo',c∈fo/\∃ o,M' c=some o)(h1:pd∈fo')(h2:td∈fo'):HX M0 M' p zd pd td fo' zs c :=
 {h with
  ob:=(hM _ n1.symm).trans h.ob
  sub:=sb
  fp:=h1
  ft:=h2
  fi:=fun c hc=>(hf c hc).2
  hz:=by obtain⟨kz,e1,e2⟩:=h.hz;exact⟨kz,(hM _ n2.symm).trans e1,e2⟩
  hp:=by
   obtain⟨kp,e1,e2,e3⟩:=h.hp;refine⟨kp,(hM _ n3.symm).trans e1,e2,fun n v e=>?_⟩;obtain⟨z,pg,q1,q2,q3⟩:=e3 n v e;exact⟨z,pg,q1,q2,(q3.alter hb hM sb).less fun c hc=>(hf c hc).1⟩
  ht:=by obtain⟨kt,e1,e2,e3⟩:=h.ht;exact⟨kt,(hM _ n4.symm).trans e1,e2,e3⟩ }
theorem HX.write(h:HX M0 M p zd pd td fo zs c)(hb:b∈fo)(f:M0 b=none)(n1:b≠p)(n2:b≠zd)(n3:b≠pd)(n4:b≠td):HX M0 (dupd M b o) p zd pd td fo zs c :=
 h.alter hb (fun c hc=>Q0b hc) (h.sub.put f) n1 n2 n3 n4 (fun c hc=>⟨hc,by
  by_cases e:c=b
  ·rw[e];exact⟨o,Q0a⟩
  ·obtain⟨u,hu⟩:=h.fi c hc;exact⟨u,by rw[Q0b e];exact hu⟩⟩) h.fp h.ft
theorem HX.del(h:HX M0 M p zd pd td fo zs c)(hb:b∈fo)(f:M0 b=none)(n1:b≠p)(n2:b≠zd)(n3:b≠pd)(n4:b≠td)(hf:∀ c∈fo',c∈fo/\c≠b)(h1:pd∈fo')(h2:td∈fo'):HX M0 (ddel M b) p zd pd td fo' zs c :=
 h.alter hb (fun c hc=>Zc hc) (fun c o e=>by
  unfold ddel;rw[Zc (dne e f)];exact h.sub c o e) n1 n2 n3 n4 (fun c hc=>⟨(hf c hc).1,by
  obtain⟨u,hu⟩:=h.fi c (hf c hc).1;exact⟨u,by unfold ddel;rw[Zc (hf c hc).2];exact hu⟩⟩) h1 h2
theorem HX.nep(h:HX M0 M p zd pd td fo zs c):pd≠p/\td≠p:=by
 obtain⟨kp,e1,_⟩:=h.hp;obtain⟨kt,e2,_⟩:=h.ht;exact⟨mne e1 h.ob (fun z=>nomatch z),mne e2 h.ob (fun z=>nomatch z)⟩
theorem HX.putP(h:HX M0 M p zd pd td fo zs c)(e:M pd=some (.oth (.dct kp)))(hn:atT zs n=some z)(hx:PageX M0 M fo pg z):HX M0 (dupd M pd (.oth (.dct (putD kp n (.ref pg))))) p zd pd td fo zs (c+1) :=
 {h with
  ob:=by rw[Q0b h.nep.1.symm];exact h.ob
  sub:=h.sub.put h.f1
  fi:=fun c hc=>by
   by_cases e:c=pd
   ·rw[e];exact⟨_,Q0a⟩
   ·obtain⟨u,hu⟩:=h.fi c hc;exact⟨u,by rw[Q0b e];exact hu⟩
  hz:=by obtain⟨kz,e1,e2⟩:=h.hz;exact⟨kz,by rw[Q0b h.n1];exact e1,e2⟩
  hp:=by
   obtain⟨kp',e1,e2,e3⟩:=h.hp;rw[e]at e1;cases e1;refine⟨_,Q0a,Z3 (Q0y ..) (Nat.succ_le_succ e2),fun m v ev=>?_⟩;rw[Q0u]at ev;by_cases em:m=n
   ·rw[Zg em]at ev;cases ev;exact⟨z,pg,by rw[em];exact hn,rfl,hx.apart h.fp h.f1⟩
   ·rw[Zc em]at ev;obtain⟨z,pg,q1,q2,q3⟩:=e3 m v ev;exact⟨z,pg,q1,q2,q3.apart h.fp h.f1⟩
  ht:=by obtain⟨kt,e1,e2,e3⟩:=h.ht;exact⟨kt,by rw[Q0b h.n3.symm];exact e1,le_succ_of_le e2,e3⟩ }
theorem HX.putT(h:HX M0 M p zd pd td fo zs c)(e:M td=some (.oth (.dct kt)))(hl:kt.length<=c)(hn:up zs n (n.length+1)=some z)(hv:∀ k,¬ IsN k->v=.tup [dn z.t,za9 z.t z.l z.r n k])(he:ElT v):HX M0 (dupd M td (.oth (.dct (putD kt n v)))) p zd pd td fo zs (c+1) :=
 {h with
  ob:=by rw[Q0b h.nep.2.symm];exact h.ob
  sub:=h.sub.put h.f2
  fi:=fun c hc=>by
   by_cases e:c=td
   ·rw[e];exact⟨_,Q0a⟩
   ·obtain⟨u,hu⟩:=h.fi c hc;exact⟨u,by rw[Q0b e];exact hu⟩
  hz:=by obtain⟨kz,e1,e2⟩:=h.hz;exact⟨kz,by rw[Q0b h.n2];exact e1,e2⟩
  hp:=by
   obtain⟨kp,e1,e2,e3⟩:=h.hp;refine⟨kp,by rw[Q0b h.n3];exact e1,le_succ_of_le e2,fun m v ev=>?_⟩
   obtain⟨z,pg,q1,q2,q3⟩:=e3 m v ev;exact⟨z,pg,q1,q2,q3.apart h.ft h.f2⟩
  ht:=by
   obtain⟨kt',e1,e2,e3⟩:=h.ht;rw[e]at e1;cases e1;refine⟨_,Q0a,Z3 (Q0y ..) (Nat.succ_le_succ hl),fun m w ev=>?_⟩;rw[Q0u]at ev;by_cases em:m=n
   ·rw[Zg em]at ev;cases ev;rw[em];exact⟨z,hn,hv,he⟩
   ·rw[Zc em]at ev;exact e3 m w ev }
end
noncomputable def HSub(pd td:Addr)(M M':DH):Prop:=∀ b o,b≠pd->b≠td->M b=some o->M' b=some o
theorem HSub.refl(pd td:Addr)(M:DH):HSub pd td M M:=fun _ _ _ _ e=>e
theorem HSub.of(s:Sub M M'):HSub pd td M M':=fun b o _ _ e=>s b o e
theorem HSub.trans{pd td:Addr}{M M1 M2:DH}(a:HSub pd td M M1)(b:HSub pd td M1 M2):HSub pd td M M2:=fun c o h1 h2 e=>b c o h1 h2 (a c o h1 h2 e)
theorem HSub.putP(a:HSub pd td M M'):HSub pd td M (dupd M' pd o):=fun c u h1 h2 e=>by rw[Q0b h1];exact a c u h1 h2 e
theorem HSub.putT(a:HSub pd td M M'):HSub pd td M (dupd M' td o):=fun c u h1 h2 e=>by rw[Q0b h2];exact a c u h1 h2 e
theorem HSub.put(a:HSub pd td M M')(hq:M q=none):HSub pd td M (dupd M' q o):=fun c u h1 h2 e=>by rw[Q0b (dne e hq)];exact a c u h1 h2 e
theorem smallM(h:n<=1000000):n<sizeLine:=ZG h (by decide)
noncomputable def sp_a2:DSp:=fun ds M R=>∃ (x:Addr) (d:D) (zs:List Zn),ds=[.ref x,d]/\M x=some (.oth (.ins "House" []))/\zag M d=some (zs.map Zn.v)/\zs.length<=900/\(zs.map (·.t)).Nodup /\
 ∀ M' zd pd td,(∀ M0,Sub M0 M->M0 x=none->HX M0 M' x zd pd td [pd,td] zs 0)->R .non M'
theorem ok_a2{T:Tab}:∀ ds M R,sp_a2 ds M R->evS T b_a2 (za0 R) (za1 ["self","zones"] ds) M:=by
 rintro ds M R ⟨x,d,zs,rfl,hx,hd,hl,hn,h⟩;simp only[b_a2];refine Q0c fun k1 e1=>?_;have rest:∀ q,M q=none->∃ a fs,D.ref x=D.ref a/\dupd M q (.oth (.dct (zaA [] (zs.map Zn.kv)))) a=some (.oth (.ins "House" fs))/\fs.length<1000/\k1 [some (.ref x),some d] (dupd (dupd M q (.oth (.dct (zaA [] (zs.map Zn.kv))))) a (.oth (.ins "House" (zal "zones" (.ref q) fs)))):=by
  intro q hq;refine⟨x,[],rfl,Sub.new hq _ _ hx,by decide,?_⟩
  rw[e1];clear e1;walk_at "ev";intro q2 hq2;have n2:q2≠x:=fun z=>by subst z;rw[Q0a]at hq2;cases hq2
  refine⟨x,_,rfl,by rw[Q0b n2.symm];exact Q0a,by simp[zal],fun q3 hq3=>?_⟩
  have n3:q3≠x:=fun z=>by subst z;rw[Q0a]at hq3;cases hq3
  have n1:q≠x:=fun z=>by subst z;rw[hx]at hq;cases hq
  rw[houseF1]at hq3 ⊢;refine⟨x,_,rfl,by rw[Q0b n3.symm];exact Q0a,(by simp only[Zi,Z8];omega),?_⟩
  rw[houseF2];have n32:q3≠q2:=fun z=>by
   subst z;rw[Q0b n2,Q0a]at hq3;cases hq3
  have n12:q2≠q:=fun z=>by
   subst z;rw[Q0b n1,Q0a]at hq2;cases hq2
  have n13:q3≠q:=fun z=>by
   subst z;rw[Q0b n3,Q0b n12.symm,Q0b n3,Q0a]at hq3;cases hq3
  have hq2':M q2=none:=by rw[Q0b n2,Q0b n12]at hq2;exact hq2
  have hq3':M q3=none:=by rw[Q0b n3,Q0b n32,Q0b n3,Q0b n13]at hq3;exact hq3
  refine Q0f (h _ q q2 q3 fun M0 sb hx0=>⟨Q0a,n12.symm,n13.symm,n32.symm,sb.none hq2',sb.none hq3',sb.none hq,?_,by simp,by simp,?_,⟨zaA [] (zs.map Zn.kv),?_,fun n=>?_⟩,⟨[],?_,ZX _,fun n v e=>(nomatch e)⟩,⟨[],?_,ZX _,fun n v e=>(nomatch e)⟩,hn⟩)
  ·intro b o hb;have hbM:=sb b o hb;have nb:b≠x:=dne hb hx0;rw[Q0b nb,Q0b (dne hbM hq3'),Q0b nb,Q0b (dne hbM hq2'),Q0b nb,Q0b (dne hbM hq)];exact hbM
  ·intro b hb;simp only[Zw,Z4,ZP]at hb;rcases hb with rfl | rfl
   ·exact⟨_,by rw[Q0b n2,Q0b n32.symm,Q0b n2,Q0a]⟩
   ·exact⟨_,by rw[Q0b n3,Q0a]⟩
  ·rw[Q0b n1,Q0b n13.symm,Q0b n1,Q0b n12.symm,Q0b n1,Q0a]
  ·rw[Q2C zs [] n hn];cases atT zs n <;> rfl
  ·rw[Q0b n2,Q0b n32.symm,Q0b n2,Q0a]
  ·rw[Q0b n3,Q0a]
 rcases Q1H hd with rfl | ⟨a,rfl,ha⟩
 ·walk_at "ev";refine Q3C trivial hl ?_;refine⟨szL (by rw[Zb,Zb];omega),zs.map Zn.kv,rfl,szL (by rw[Zb];omega),rest⟩
 ·walk_at "ev";simp only[ha];refine Q3C ha hl ?_;refine⟨szL (by rw[Zb,Zb];omega),zs.map Zn.kv,rfl,szL (by rw[Zb];omega),rest⟩
noncomputable def sp_am:DSp:=fun ds M R=>∃ (a:Addr) (zs:List Zn) (w:W),ds=[.ref a,.str w]/\HsOk M a zs/\ZsOk zs/\∀ p zd pd td M',HX M M' p zd pd td [pd,td] (ofD zs w) 0->R (.ref p) M'
theorem ok_am(T:Tab)(h320:T.ini 320=some ⟨"House","__init__",1,sp_a2⟩):∀ ds M R,sp_am ds M R->evS T b_am (za0 R) (za1 ["houses","door"] ds) M:=by
 rintro ds M R ⟨a,zs,w,rfl,⟨kvs,e1,e2⟩,hz,h⟩;simp only[b_am];walk_at "ev";simp only[h320];walk_at "ev";refine⟨a,kvs,rfl,e1,szL (by decide),w,kvs,rfl,e1,fun x hx=>?_⟩
 have hd:zag M ((valT kvs w).getD (.lst []))=some ((ofD zs w).map Zn.v):=by
  rcases e2 w with ⟨q1,q2⟩ | ⟨d,q1,q2⟩
  ·rw[q1,q2];rfl
  ·rw[q1];exact q2
 have hd2:zag (dupd M x (.oth (.ins "House" []))) ((valT kvs w).getD (.lst []))=some ((ofD zs w).map Zn.v):=by
  rcases Q1H hd with e | ⟨b,e,eb⟩
  ·rw[e];rfl
  ·rw[e];simp only[zag,Sub.new hx _ _ eb]
 refine⟨x,_,ofD zs w,rfl,Q0a,hd2,Z3 (hz.len w) (by decide),hz.nd w,fun M' zd pd td k=>⟨rfl,Q0f (h x zd pd td M' (k M (Sub.new hx) hx))⟩⟩
noncomputable def sp_aM:DSp:=fun ds M R=>∃ (M0:DH) (p zd pd td:Addr) (fo:List Addr) (zs:List Zn) (c:Nat) (t:Option (List W)),ds=[.ref p,onm t]/\HX M0 M p zd pd td fo zs c/\(∀ z∈zs,ZnOk z)/\c<=100000 /\
 (t.bind (atT zs)=none->R .non M)/\∀ z,t.bind (atT zs)=some z->∀ pg M',HX M0 M' p zd pd td fo zs (c+1)->HSub pd td M M'->PageX M0 M' fo pg z->R (.ref pg) M'
theorem Q1S(h:atT zs n=some z):z∈zs:=List.mem_of_find?_eq_some h
theorem ok_aM(T:Tab)(h300:T.ini 300=some ⟨"Page","__init__",1,sp_ao⟩):∀ ds M R,sp_aM ds M R->evS T b_aM (za0 R) (za1 ["self","top"] ds) M:=by
 rintro ds M R ⟨M0,p,zd,pd,td,fo,zs,c,t,rfl,H,hok,hc,hno,hyes⟩;obtain⟨kz,z1,z2⟩:=H.hz;obtain⟨kp,p1,p2,p3⟩:=H.hp;simp only[b_aM];refine Q0c fun k1 e1=>?_;walk_at "ev";refine⟨p,_,_,rfl,H.ob,hsF_z,?_⟩;have fin:∀ M',HX M0 M' p zd pd td fo zs (c+1)->HSub pd td M M'->∀ n z pg kp',t=some n->atT zs n=some z->M' pd=some (.oth (.dct kp'))->valD kp' n=some (.ref pg)->PageX M0 M' fo pg z->k1 [some (.ref p),some (onm t)] M':=by
  intro M' H' S' n z pg kp' ht hn hk hv hx;subst ht;rw[e1];walk_at "ev";refine⟨p,_,_,rfl,H'.ob,hsF_p,pd,kp',rfl,hk,kp',hk,.inl ⟨n,rfl,?_⟩⟩;rw[hv];exact Q0f (hyes z hn pg M' H' S' hx)
 cases t with
 | none =>
  refine .inr ⟨zd,kz,rfl,rfl,z1,?_⟩;rw[e1];walk_at "ev";exact⟨p,_,_,rfl,H.ob,hsF_p,pd,kp,rfl,p1,kp,p1,.inr ⟨rfl,Q0f (hno rfl)⟩⟩
 | some n =>
  refine .inl ⟨n,zd,kz,rfl,rfl,z1,?_⟩;rw[z2];cases en:atT zs n with
  | none =>
   refine iteF ?_;rw[e1];walk_at "ev";refine⟨p,_,_,rfl,H.ob,hsF_p,pd,kp,rfl,p1,kp,p1,.inl ⟨n,rfl,?_⟩⟩;cases ev:valD kp n with
   | none=>exact Q0f (hno en)
   | some v =>
    obtain⟨z,pg,q1,_⟩:=p3 n v ev;rw[en]at q1;cases q1
  | some z =>
   refine iteT ⟨p,_,_,rfl,H.ob,hsF_p,n,pd,kp,rfl,rfl,p1,?_⟩;cases ev:valD kp n with
   | some v =>
    obtain⟨z',pg,q1,q2,q3⟩:=p3 n v ev;rw[en]at q1;cases q1;subst q2;refine iteF ?_;exact fin M (H.le (le_succ c)) (HSub.refl pd td M) n z pg kp rfl en p1 ev q3
   | none =>
    refine iteT ?_;simp only[h300];walk_at "ev";refine⟨p,_,_,rfl,H.ob,hsF_z,n,zd,kz,z.v,rfl,rfl,z1,by rw[z2,en];rfl,fun x hx=>?_⟩
    have zk:=hok z (Q1S en);refine⟨x,M,z.t,z.l,z.r,rfl,Q0a,hx,Sub.new hx,by have:=zk.l;omega,zk.good.in,fun M' hP=>⟨rfl,?_⟩⟩
    have sb:Sub M M':=by
     obtain⟨r,d,s,kr,kd,ks,G⟩:=hP;exact G.sub
    have H1:=H.mono sb;refine⟨p,_,_,rfl,H1.ob,hsF_p,pd,n,kp,rfl,rfl,sb _ _ p1,smallM (by omega),?_⟩
    have hx':=PageX.made hP H.sub H.fi;refine fin _ (H1.putP (sb _ _ p1) en hx') (HSub.of sb).putP n z x _ rfl en Q0a (by rw[Q0u,Zg rfl]) (hx'.apart H.fp H.f1)
noncomputable def RepF(d:D):Prop:=∃ (w:W) (r:List D),d=.tup (.str w::r)/\(w=za8->∃ (m:List W) (l:Int),r=[dn m,.int l]/\m.length<=20)
noncomputable def zap(zs:List Zn):List (List W):=zs.flatMap fun z=>z.r.map fun x=>nmOf x.v
theorem Q4U(hz:z∈zs)(hx:x∈z.r)(e:x.v=dn m):m∈zap zs:=by
 unfold zap;rw[mem_flatMap];refine⟨z,hz,ZH.mpr ⟨x,hx,?_⟩⟩;show nmOf x.v=m;rw[e,Q2m]
theorem Q4V(h:∀ z∈zs,ZnOk z):(zap zs).length<=60 * zs.length:=by
 induction zs with
 | nil=>exact Zs _
 | cons z r ih =>
  have h1:=(h z Zv).l;have h2:=ih fun y hy=>h y (Zk _ hy);unfold zap at h2 ⊢;rw[List.flatMap_cons,Zl,Zb,Zi];omega
theorem Q3Y(e:za3 (atN rows pl) za8=x::r):zaz rows pl k life=.tup [.str za8,x.v,.int x.l]:=by
 unfold zaz;rw[e]
theorem Q4W(e:za3 (atN rows pl) za8=[]):∃ (w:W) (r:List D),zaz rows pl k life=.tup (.str w::r)/\w≠za8/\w≠zbn:=by
 unfold zaz;rw[e];cases za3 (atN rows pl) k with
 | nil=>exact⟨_,_,rfl,by decide,by decide⟩
 | cons x r=>exact⟨_,_,rfl,by decide,by decide⟩
theorem Q3E:IsN za8:=.inr rfl
theorem Q1z{z:Zn}{n c:List W}{k:W}{x:Rw}(ec:cutN z.t z.r n=some c)(ed:zae z.r c=some x):za9 z.t z.l z.r n k=zaD z.r x:=by
 unfold za9;rw[ec];show (match zae z.r c with | some x=>zaD z.r x | none=>.non)=_
 rw[ed]
theorem Q1o{z:Zn}{n:List W}{k:W}(ec:cutN z.t z.r n=none):za9 z.t z.l z.r n k=zaj z.r (zaa z.t z.r n) k z.l:=by
 unfold za9;rw[ec]
theorem Q1N{z:Zn}(h:ZnOk z)(n:List W):(∃ (m:List W) (l:Int),(∀ k,za9 z.t z.l z.r n k=.tup [.str za8,dn m,.int l])/\m.length<=20/\∃ x∈z.r,x.v=dn m)\/∀ k,∃ (w:W) (r:List D),za9 z.t z.l z.r n k=.tup (.str w::r)/\w≠za8/\w≠zbn:=by
 cases ec:cutN z.t z.r n with
 | some c =>
  right;intro k;have hs:=find?_some (show _=some c from ec);rw[Q0P]at hs;cases ed:zae z.r c with
  | none=>rw[ed]at hs;cases hs
  | some x=>exact⟨zad,_,(Q1z ec ed).trans rfl,by decide,by decide⟩
 | none =>
  by_cases hn:(zaa z.t z.r n).drop ((zaa z.t z.r n).length-1)=[[42]]/\atN z.r (zaa z.t z.r n)=[]
  ·right;intro k;refine⟨kNone,[.int z.l],?_,by decide,by decide⟩
   rw[Q1o ec,zaj,Zg hn]
  ·cases ee:za3 (atN z.r (zaa z.t z.r n)) za8 with
   | nil =>
    right;intro k;rw[Q1o ec,zaj,Zc hn];exact Q4W ee
   | cons x r =>
    left;have hx:x∈za3 (atN z.r (zaa z.t z.r n)) za8:=by rw[ee];exact Zv
    obtain⟨h1,h2⟩:=Q0Q hx;obtain⟨h3,_⟩:=Q1d h1;rcases (h.r x h3).pv with ⟨_,m,em⟩ | ⟨nk,_⟩
    ·refine⟨m,x.l,fun k=>?_,?_,x,h3,em⟩
     ·rw[Q1o ec,zaj,Zc hn,Q3Y ee,em]
     ·have:=h.v x h3;rw[em]at this;simpa[vlen,dn]using this
    ·exact absurd Q3E (by rw[<- h2];exact nk)
noncomputable def repO(zs:List Zn)(t:Option (List W))(n:List W)(k:W):D:=match t.bind (atT zs) with
 | some z=>za9 z.t z.l z.r n k
 | none=>.tup [.str zbn]
theorem Q0S(e:t.bind (atT zs)=some z):repO zs t n k=za9 z.t z.l z.r n k:=by unfold repO;rw[e]
theorem Q0T(e:t.bind (atT zs)=none):repO zs t n k=.tup [.str zbn]:=by unfold repO;rw[e]
structure RepIn(E:List (List W))(d:D):Prop where
 f:RepF d
 i:∀ m l,d=.tup [.str za8,dn m,.int l]->m∈E
theorem Q3F(h:dn a=dn b):a=b:=by
 have:=congrArg nmOf h;rw[Q2m,Q2m]at this;exact this
theorem Q3G(hz:z∈zs)(h:ZnOk z)(n:List W)(k:W):RepIn (zap zs) (za9 z.t z.l z.r n k):=by
 rcases Q1N h n with ⟨m,l,e,hm,x,hx,ex⟩ | e
 ·rw[e k];refine⟨⟨_,_,rfl,fun _=>⟨m,l,rfl,hm⟩⟩,fun m' l' e'=>?_⟩;injection e' with e';injection e' with _ e';injection e' with e' _;rw[<- Q3F e'];exact Q4U hz hx ex
 ·obtain⟨w,r,e1,e2,_⟩:=e k;rw[e1];refine⟨⟨w,r,rfl,fun z=>absurd z e2⟩,fun m' l' e'=>?_⟩;injection e' with e';injection e' with e' _;injection e' with e';exact absurd e' e2
theorem Q6x(E:List (List W)):RepIn E (.tup [.str zbn]):=⟨⟨_,_,rfl,fun z=>absurd z (by decide)⟩,fun m l e=>by
 injection e with e;injection e with _ e;cases e⟩
theorem Q6y(h:∀ z∈zs,ZnOk z)(t:Option (List W))(n:List W)(k:W):RepIn (zap zs) (repO zs t n k):=by
 cases e:t.bind (atT zs) with
 | none=>rw[Q0T e];exact Q6x _
 | some z =>
  rw[Q0S e];cases t with
  | none=>cases e
  | some a=>exact Q3G (Q1S e) (h z (Q1S e)) n k
theorem Q6z:∀ {k:Nat},k<=a.length+1->up zs a k=some z->a.take z.t.length=z.t
 | 0,_,h=>nomatch h
 | k+1,hk,h=>by
  unfold up at h;cases e:atT zs (a.take k) with
  | none=>rw[e]at h;exact Q6z (by omega) h
  | some y =>
   rw[e]at h;cases h;rw[atT_t e,ZA,min_eq_left (by omega)]
theorem Q8k(h:upT zs n=some a):n.take a.length=a:=by
 unfold upT at h;cases e:up zs n (n.length+1) with
 | none=>rw[e]at h;cases h
 | some z =>
  rw[e]at h;cases h;exact Q6z (Zs _) e
noncomputable def zb9(zs:List Zn)(n:List W)(k:W):D:=.tup [onm (upT zs n),repO zs (upT zs n) n k]
theorem Q2D(e:up zs n (n.length+1)=some z):zb9 zs n k=.tup [dn z.t,za9 z.t z.l z.r n k]:=by
 unfold zb9;rw[Q0S (by rw[Q2S];exact e)]
 unfold upT;rw[e];rfl
theorem up_in(h:up zs n k=some z):z∈zs:=Q1S (up_at h)
noncomputable def sp_House_nearby:DSp:=fun ds M R=>∃ (M0:DH) (p zd pd td:Addr) (fo:List Addr) (zs:List Zn) (c:Nat) (n:List W) (k:W),ds=[.ref p,dn n,.str k]/\HX M0 M p zd pd td fo zs c/\(∀ z∈zs,ZnOk z)/\c<=100000 /\
 ¬ IsN k/\n.length<=900/\∀ M',HX M0 M' p zd pd td fo zs (c+2)->HSub pd td M M'->R (zb9 zs n k) M'
inductive zan(zs:List Zn)(k:W):List (List W)->D->List D->Prop
 | stop {sp:List (List W)} {d:D}:(∀ m l,d=.tup [.str za8,dn m,.int l]->m∈sp)->zan zs k sp d []
 | off {sp:List (List W)} {m:List W} {l:Int}:m∉sp->up zs m (m.length+1)=none->zan zs k sp (.tup [.str za8,dn m,.int l]) []
 | step {sp:List (List W)} {m:List W} {l:Int} {z:Zn} {out:List D}:m∉sp->up zs m (m.length+1)=some z->zan zs k (m::sp) (za9 z.t z.l z.r m k) out ->
   zan zs k sp (.tup [.str za8,dn m,.int l]) (.tup [dn z.t,dn m,.str k,za9 z.t z.l z.r m k]::out)
theorem Q6A(h:zan zs k sp d out)(hd:∀ m l,d≠.tup [.str za8,dn m,.int l]):out=[]:=by
 cases h with
 | stop _=>rfl
 | off _ _=>rfl
 | step _ _ _=>exact absurd rfl (hd _ _)
noncomputable def left(E sp:List (List W)):Nat:=(E.filter fun m=>decide (m∉sp)).length
theorem Qah(E sp:List (List W)):left E sp<=E.length:=ZI ..
theorem Q6B(hn:m∉sp):∀ {E:List (List W)},m∈E->left E (m::sp)+1<=left E sp:=by
 have low:∀ E:List (List W),left E (m::sp)<=left E sp:=fun E=>by
  induction E with
  | nil=>exact Zs _
  | cons a r ih =>
   unfold left at ih ⊢;rw[ZF,ZF];by_cases h1:a∈sp
   ·have h2:a∈m::sp:=Zk _ h1;simp only[h1,h2,not_true,decide_false,ZD,ZQ];exact ih
   ·by_cases h2:a∈m::sp
    ·simp only[h1,h2,not_true,not_false_iff,decide_false,decide_true,ZD,ZQ,ZS,Zi];omega
    ·simp only[h1,h2,not_false_iff,decide_true,ZS,Zi];omega
 intro E hm
 induction E with
 | nil=>cases hm
 | cons a r ih =>
  have hl:=low r;unfold left at ih hl ⊢;rw[ZF,ZF];by_cases ea:a=m
  ·subst ea;have h2:a∈a::sp:=Zv;simp only[hn,h2,not_true,not_false_iff,decide_false,decide_true,ZD,ZQ,ZS,Zi];omega
  ·have hr:m∈r:=by
    rcases Zw.mp hm with e | e
    ·exact absurd e.symm ea
    ·exact e
   have:=ih hr;by_cases h1:a∈sp
   ·have h2:a∈m::sp:=Zk _ h1;simp only[h1,h2,not_true,decide_false,ZD,ZQ];exact this
   ·have h2:a∉m::sp:=fun z=>by
     rcases Zw.mp z with e | e
     ·exact ea e
     ·exact h1 e
    simp only[h1,h2,not_false_iff,decide_true,ZS,Zi];omega
theorem RepIn.mono(h:RepIn E d)(s:∀ m∈E,m∈E'):RepIn E' d:=⟨h.f,fun m l e=>s m (h.i m l e)⟩
theorem Q6C(I:Nat->DSt->DH->Prop)(h0:∃ m,I m ρ M)(turn:∀ m ρ M,I m ρ M->∀ TB:DTS,TB=tb->c ρ M fun b M1=>if b=true then ∃ N:DSt->DH->Prop,(∀ ρ' M',N ρ' M'->∃ m',m'<m/\I m' ρ' M')/\TB { DD with nx:=N,ct:=N,bk:=DD.nx } ρ M1 else DD.nx ρ M1):zaO c tb DD ρ M :=
 ⟨I,h0,fun m ρ M h=>turn m ρ M h tb rfl⟩
theorem ZsOk.of(h:ZsOk zs)(w:W):∀ z∈ofD zs w,ZnOk z:=fun z hz=>h.ok z (Q3D hz)
theorem ZsOk.few(h:ZsOk zs)(w:W):(zap (ofD zs w)).length<=480:=by
 have h1:=Q4V (h.of w);have h2:=h.len w;omega
noncomputable def b_ac:CS :=
  (.seq (.ret (.blt .sorted (.cons (.compz false [] (.var 0) .nil (.ix (.var 0) (.con (.int 3)))) .nil)))
  .nil)
noncomputable def b_aJ:CS :=
  (.seq (.ite (.and (.call 5 (.cons (.var 1) .nil)) (.cmp .ninD (.var 1) (.fld "Page" "rows" (.var 0))))
  (.seq (.ret (.tup (.cons (.glob 17) (.cons (.fld "Page" "life" (.var 0)) .nil))))
  .nil)
  .nil)
  (.seq (.set 3 (.meth 309 (.var 0) (.cons (.var 1) (.cons (.glob 12) .nil))))
  (.seq (.ite (.cmp .ne (.var 3) (.lstz .nil))
  (.seq (.ret (.tup (.cons (.glob 12) (.cons (.ix (.ix (.var 3) (.con (.int 0))) (.con (.int 3))) (.cons (.ix (.ix (.var 3) (.con (.int 0))) (.con (.int 1))) .nil)))))
  .nil)
  .nil)
  (.seq (.set 4 (.meth 309 (.var 0) (.cons (.var 1) (.cons (.var 2) .nil))))
  (.seq (.ite (.cmp .ne (.var 4) (.lstz .nil))
  (.seq (.ret (.tup (.cons (.glob 15) (.cons (.call 25 (.cons (.var 4) .nil)) (.cons (.call 24 (.cons (.var 4) .nil)) .nil)))))
  .nil)
  .nil)
  (.seq (.ret (.tup (.cons (.glob 16) (.cons (.fld "Page" "life" (.var 0)) .nil))))
  .nil))))))
noncomputable def b_aF:CS :=
  (.seq (.set 2 (.dix (.fld "Page" "downs" (.var 0)) (.var 1)))
  (.seq (.set 3 (.ix (.var 2) (.con (.int 3))))
  (.seq (.set 4 (.ite (.call 1 (.cons (.var 3) (.cons (.var 1) .nil))) (.meth 309 (.var 0) (.cons (.var 3) (.cons (.glob 14) .nil))) (.lstz .nil)))
  (.seq (.ret (.tup (.cons (.glob 13) (.cons (.var 1) (.cons (.var 3) (.cons (.call 25 (.cons (.var 4) .nil)) (.cons (.call 24 (.cons (.frz (.bin .addL (.lstz (.cons (.var 2) .nil)) (.var 4))) .nil)) .nil)))))))
  .nil))))
noncomputable def b_au:CS :=
  (.seq (.set 3 (.meth 303 (.var 0) (.cons (.var 1) .nil)))
  (.seq (.ite (.cmp .notN (.var 3) (.con .non))
  (.seq (.ret (.meth 311 (.var 0) (.cons (.var 3) .nil)))
  .nil)
  .nil)
  (.seq (.ret (.meth 312 (.var 0) (.cons (.meth 307 (.var 0) (.cons (.var 1) .nil)) (.cons (.var 2) .nil))))
  .nil)))
noncomputable def thaw(q:Addr):D->D
 | .lst _=>.ref q
 | d=>d
noncomputable def RepM(M M':DH)(d d':D):Prop:=∃ ps,d'=.tup ps/\((d=d'/\∀ ys,D.lst ys∉ps)\/∃ q xs,M q=none/\M' q=some (.lst xs)/\xs.length<=900/\(∀ ys,D.lst ys∈ps->ys=xs)/\d=.tup (ps.map (thaw q)))
theorem RepM.same(h:∀ ys,D.lst ys∉ps):RepM M M' (.tup ps) (.tup ps):=⟨ps,rfl,.inl ⟨rfl,h⟩⟩
theorem RepM.base(h:RepM M M' d d')(s:Sub Mb M):RepM Mb M' d d':=by
 obtain⟨ps,e,h | ⟨q,xs,h1,h2,h3,h4,h5⟩⟩:=h
 ·exact⟨ps,e,.inl h⟩
 ·exact⟨ps,e,.inr ⟨q,xs,s.none h1,h2,h3,h4,h5⟩⟩
theorem RepM.mono{M M1 M2:DH}{d d':D}(h:RepM M M1 d d')(s:∀ q xs,M1 q=some (.lst xs)->M2 q=some (.lst xs)):RepM M M2 d d':=by
 obtain⟨ps,e,h | ⟨q,xs,h1,h2,h3,h4,h5⟩⟩:=h
 ·exact⟨ps,e,.inl h⟩
 ·exact⟨ps,e,.inr ⟨q,xs,h1,s q xs h2,h3,h4,h5⟩⟩
theorem Q8l(h:thaw q x=.str w):x=.str w:=by
 cases x with
 | lst ys=>cases h
 | _=>exact h
theorem Q8m(h:thaw q x=.int i):x=.int i:=by
 cases x with
 | lst ys=>cases h
 | _=>exact h
theorem Qai(h:thaw q x=dn n):x=dn n:=by
 cases x with
 | lst ys=>cases h
 | _=>exact h
theorem RepM.else_(h:RepM M M' d d')(m:List W)(l:Int):d=.tup [.str za8,dn m,.int l] <-> d'=.tup [.str za8,dn m,.int l]:=by
 obtain⟨ps,e,⟨rfl,_⟩ | ⟨q,xs,h1,h2,h3,h4,h5⟩⟩:=h
 ·exact Iff.rfl
 ·subst e h5;constructor
  ·intro z;injection z with z
   match ps,z with
   | [a,b,c],z =>
    simp only[Z6,map_nil,List.cons.injEq,and_true]at z;rw[Q8l z.1,Qai z.2.1,Q8m z.2.2]
   | [],z=>cases z
   | [_],z=>simp at z
   | [_,_],z=>simp at z
   | _::_::_::_::_,z=>simp at z
  ·intro z;injection z with z;subst z;rfl
theorem RepM.repIn(h:RepM M M' d d')(hd:RepIn E d'):RepIn E d:=by
 refine⟨?_,fun m l e=>hd.i m l ((h.else_ m l).mp e)⟩;obtain⟨w,r,e,hw⟩:=hd.f;obtain⟨ps,e',⟨rfl,_⟩ | ⟨q,xs,h1,h2,h3,h4,h5⟩⟩:=h
 ·exact⟨w,r,e,hw⟩
 ·subst h5;rw[e]at e';cases e';refine⟨w,r.map (thaw q),rfl,fun z=>?_⟩;obtain⟨m,l,rfl,hm⟩:=hw z;exact⟨m,l,rfl,hm⟩
theorem RepM.chain(h:RepM M M' d d')(hc:zan zs k sp d out):zan zs k sp d' out:=by
 generalize ed:d=d0 at hc;cases hc with
 | stop hs =>
  subst ed;exact .stop fun m l e=>hs m l ((h.else_ m l).mpr e)
 | off h1 h2 =>
  rw[(h.else_ _ _).mp ed];exact .off h1 h2
 | step h1 h2 h3 =>
  rw[(h.else_ _ _).mp ed];exact .step h1 h2 h3
theorem Q8H:RepM M M' (.tup [.str w,.int l]) (.tup [.str w,.int l]):=.same fun ys z=>by
 simp only[Zw,Z4,ZP]at z;rcases z with z | z <;> cases z
theorem Qaj(hx:∀ ys,x≠.lst ys):RepM M M' (.tup [.str w,x,.int l]) (.tup [.str w,x,.int l]):=.same fun ys z=>by
 simp only[Zw,Z4,ZP]at z;rcases z with z | z | z
 ·cases z
 ·exact hx ys z.symm
 ·cases z
theorem Qak(hv:v=.lst ys)(hl:∃ i,l=.int i)(h1:M q=none)(h2:M' q=some (.lst ys))(h3:ys.length<=64):RepM M M' (.tup [.str w,.ref q,l]) (.tup [.str w,v,l]):=by
 obtain⟨i,rfl⟩:=hl;subst hv;refine⟨_,rfl,.inr ⟨q,ys,h1,h2,by omega,fun zs z=>?_,rfl⟩⟩
 simp only[Zw,Z4,ZP]at z;rcases z with z | z | z <;> cases z;rfl
theorem Qal(hv:v=.lst ys)(hl:∃ i,l=.int i)(h1:M q=none)(h2:M' q=some (.lst ys))(h3:ys.length<=64):RepM M M' (.tup [.str w,dn a,dn b,.ref q,l]) (.tup [.str w,dn a,dn b,v,l]):=by
 obtain⟨i,rfl⟩:=hl;subst hv;refine⟨_,rfl,.inr ⟨q,ys,h1,h2,by omega,fun zs z=>?_,rfl⟩⟩
 simp only[Zw,Z4,ZP]at z;rcases z with z | z | z | z | z <;> cases z;rfl
noncomputable def sp_ac:DSp:=fun ds M R=>∃ xs:List Rw,ds=[.lst (xs.map Rw.d)]/\xs.length<64/\(∀ x∈xs,∃ w,x.v=.str w)/\∀ q ys,zaN xs=.lst ys->ys.length<=64->M q=none->R (.ref q) (dupd M q (.lst ys))
theorem ok_ac:∀ ds M R,sp_ac ds M R->evS T b_ac (za0 R) (za1 ["rows"] ds) M:=by
 rintro ds M R ⟨xs,rfl,h64,hv,h⟩;simp only[b_ac];walk_at "ev";refine Q0C (fun d=>match d with | .tup [_,_,_,v]=>.str (zaf v) | d=>d) trivial (by rw[Zb];omega) ?_ ?_
 ·intro d k hd hk;obtain⟨x,hx,rfl⟩:=ZH.mp hd;obtain⟨w,hw⟩:=hv x hx;simp only[Rw.d,hw,zaf]at hk ⊢;walk_at "ev";walk_at "q1";exact hk
 ·have e:(xs.map Rw.d).map (fun d=>match d with | .tup [_,_,_,v]=>.str (zaf v) | d=>d)=(xs.map fun x=>zaf x.v).map D.str:=by
   rw[ZT,ZT];rfl
  rw[e];refine⟨szL (by rw[Zb,Zb];omega),xs.map fun x=>zaf x.v,rfl,by rw[Zb];exact h64,fun zs hp hs q hq=>Q0f (h q _ ?_ ?_ hq)⟩
  ·unfold zaN;rw[Q1X hp hs]
  ·have:=hp.length_eq;rw[Zb]at this;rw[Zb];omega
noncomputable def sp_aJ:DSp:=fun ds M R=>∃ (p:Addr) (n:List W) (k:W) (M0:DH) (top:List W) (life:Int) (rows:List Rw),ds=[.ref p,dn n,.str k]/\Page M0 M p top life rows/\Good top rows/\¬ IsN k/\∀ d M',Sub M M'->RepM M M' d (zaj rows n k life)->R d M'
noncomputable def sp_aF:DSp:=fun ds M R=>∃ (p:Addr) (c:List W) (x:Rw) (M0:DH) (top:List W) (life:Int) (rows:List Rw),ds=[.ref p,dn c]/\Page M0 M p top life rows/\Good top rows/\zae rows c=some x/\∀ d M',Sub M M'->RepM M M' d (zaD rows x)->R d M'
noncomputable def sp_au:DSp:=fun ds M R=>∃ (p:Addr) (n:List W) (k:W) (M0:DH) (top:List W) (life:Int) (rows:List Rw),ds=[.ref p,dn n,.str k]/\Page M0 M p top life rows/\Good top rows/\¬ IsN k/\n.length<=900/\n.take top.length=top/\∀ d M',Sub M M'->RepM M M' d (za9 top life rows n k)->R d M'
theorem ok_aJ(T:Tab)(h24:T.fn 24=some ⟨"least_life",1,[],sp_a5⟩)(h25:T.fn 25=some ⟨"values_of",1,[],sp_ac⟩)(h309:T.mt 309=some ⟨"Page","rows_at",2,sp_a4⟩)(h5:T.fn 5=some ⟨"is_star_name",1,[],sp_az⟩)
  (h16:T.con 16=some (("EMPTY" : Str),D.str [101,109,112,116,121])) (h15:T.con 15=some (("ROWS" : Str),D.str [114,111,119,115])) (h12:T.con 12=some (("ELSE" : Str),D.str [101,108,115,101])) (h17:T.con 17=some (("NONE" : Str),D.str [110,111,110,101])) :
  ∀ ds M R,sp_aJ ds M R->evS T b_aJ (za0 R) (za1 ["self","place","kind","others","rows"] ds) M:=by
 rintro ds M R ⟨p,n,k,M0,top,life,rows,rfl,Pg,hg,hk,h⟩;obtain⟨r,d,s,kr,kd,ks,G⟩:=id Pg;simp only[b_aJ];refine Q0c fun k1 e1=>?_;have nom:∀ {m:Str},(m == "top")=false->(m == "life")=false->(m == "rows")=false->(m == "downs")=false->(m == "standing")=false->List.lookup m (zaY top life r d s)=none:=fun a b c d e=>Q1s a b c d e;have rest:(¬ (n.drop (n.length-1)=[[42]]/\atN rows n=[]))->k1 [some (.ref p),some (dn n),some (.str k),none,none] M:=by
  intro hne;unfold zaj at h;rw[Zc hne]at h;rw[e1];clear e1;refine Q0c fun k1 e1=>?_;walk_at "ev";simp only[h309,h12];walk_at "ev";refine⟨p,_,rfl,G.ob,nom (by decide +kernel) (by decide +kernel) (by decide +kernel) (by decide +kernel) (by decide +kernel),p,n,[101,108,115,101],M0,top,life,rows,rfl,Pg,by have:=hg.1;omega,?_⟩
  rw[e1];clear e1;refine Q0c fun k1 e1=>?_;unfold zaz at h;cases ee:za3 (atN rows n) za8 with
  | cons x xs =>
   rw[ee]at h;have pl:=hg.plain n za8;rw[ee]at pl;have:za3 (atN rows n) [101,108,115,101]=x::xs:=ee;rw[this];walk_at "ev";refine⟨szL (by decide),pl,rfl,?_⟩
   have ne:eqB (.lst ((x::xs).map Rw.d)) (.lst [])=false:=(Q0W _ _).mpr (fun z=>by cases z)
   simp only[Z6]at ne;simp only[Z6,ne,Bool.not_false,ZS];simp only[h12];walk_at "ev";refine Q0r (by omega) (by simp) fun d0 hd0=>?_
   cases hd0;simp only[Rw.d];walk_at "q1";refine Q0r (by omega) (by simp) fun d0 hd0=>?_
   cases hd0;walk_at "q1";have xv:∀ ys,x.v≠.lst ys:=fun ys z=>by
    have hx:x∈za3 (atN rows n) za8:=by rw[ee];exact Zv
    rcases (hg.2 x (Q1d (Q0Q hx).1).1).pv with ⟨_,b,e⟩ | ⟨_,w,e⟩ <;> rw[e]at z <;> cases z
   exact⟨szL (by decide),Q0f (h _ M (Sub.refl M) (Qaj xv))⟩
  | nil =>
   rw[ee]at h;have:za3 (atN rows n) [101,108,115,101]=[]:=ee;rw[this];walk_at "ev";refine⟨szL (by decide),rfl,rfl,?_⟩
   simp only[Q0p,Bool.not_true,ZD,ZQ];rw[e1];clear e1;refine Q0c fun k1 e1=>?_;walk_at "ev";simp only[h309];walk_at "ev";refine⟨p,_,rfl,G.ob,nom (by decide +kernel) (by decide +kernel) (by decide +kernel) (by decide +kernel) (by decide +kernel),p,n,k,M0,top,life,rows,rfl,Pg,by have:=hg.1;omega,?_⟩
   rw[e1];clear e1;refine Q0c fun k1 e1=>?_;have pl:=hg.plain n k;have str:=hg.strs (n:=n) hk;have kl:=Q1n rows n k;have rl:=hg.1;cases ek:za3 (atN rows n) k with
   | cons x xs =>
    rw[ek]at h pl str kl;walk_at "ev";refine⟨szL (by decide),pl,rfl,?_⟩
    have ne:eqB (.lst ((x::xs).map Rw.d)) (.lst [])=false:=(Q0W _ _).mpr (fun z=>by cases z)
    simp only[Z6]at ne;simp only[Z6,ne,Bool.not_false,ZS];simp only[h15,h25,h24];walk_at "ev";exact⟨x::xs,rfl,by omega,str,fun q ys hys hyl hq=>⟨x::xs,rfl,succ_pos _,by omega,szL (by decide),Q0f (h _ _ (Sub.new hq) (Qak hys ⟨_,rfl⟩ hq Q0a hyl))⟩⟩
   | nil =>
    rw[ek]at h;walk_at "ev";refine⟨szL (by decide),rfl,rfl,?_⟩
    simp only[Q0p,Bool.not_true,ZD,ZQ];rw[e1];clear e1;walk_at "ev";simp only[h16];walk_at "ev";exact⟨p,_,_,rfl,G.ob,Q2A,szL (by decide),Q0f (h _ M (Sub.refl M) Q8H)⟩
 walk_at "ev";simp only[h5];walk_at "ev";refine⟨n,rfl,ite2 (fun q=>?_) fun q=>?_⟩
 ·rw[Ze]at q;refine⟨p,_,_,rfl,G.ob,Q1M,n,r,kr,rfl,rfl,G.hR.m,?_⟩;cases c:valD kr n with
  | none =>
   refine iteT ?_;simp only[h17];walk_at "ev";refine⟨p,_,_,rfl,G.ob,Q2A,szL (by decide),Q0f ?_⟩
   unfold zaj at h;rw[Zg ⟨q,G.hR.no n c⟩]at h;exact h _ M (Sub.refl M) Q8H
  | some v=>exact iteF (rest fun z=>by rw[G.hR.yes n z.2]at c;cases c)
 ·rw[Ze]at q;exact rest fun z=>q z.1
theorem ok_aF(T:Tab)(h24:T.fn 24=some ⟨"least_life",1,[],sp_a5⟩)(h25:T.fn 25=some ⟨"values_of",1,[],sp_ac⟩)(h1:T.fn 1=some ⟨"at_or_beneath",2,[],sp_al⟩)(h309:T.mt 309=some ⟨"Page","rows_at",2,sp_a4⟩)
  (h13:T.con 13=some (("DOWN" : Str),D.str [100,111,119,110])) (h14:T.con 14=some (("DOOR" : Str),D.str [100,111,111,114])) :
  ∀ ds M R,sp_aF ds M R->evS T b_aF (za0 R) (za1 ["self","cut","down","house","doors"] ds) M:=by
 rintro ds M R ⟨p,c,x,M0,top,life,rows,rfl,Pg,hg,hx,h⟩;obtain⟨r,d,s,kr,kd,ks,G⟩:=id Pg;obtain⟨x1,x2,x3⟩:=Q0F hx;have xv:∃ b:List W,x.v=dn b:=by
  rcases (hg.2 x x1).pv with ⟨_,a⟩ | ⟨a,_⟩
  ·exact a
  ·exact absurd (.inl x2) a
 obtain⟨hs,hv⟩:=xv;simp only[b_aF];refine Q0c fun k1 e1=>?_;walk_at "ev";refine⟨p,_,_,rfl,G.ob,Q1y,c,d,kd,x.d,rfl,rfl,G.hD.m,by rw[G.hD.v,Q0P,hx];rfl,?_⟩
 rw[e1];clear e1;refine Q0c fun k1 e1=>?_;simp only[Rw.d];walk_at "ev";walk_at "q1";rw[e1];clear e1;refine Q0c fun k1 e1=>?_;have rl:=hg.1;unfold zaD at h;rw[hv,Q2m]at h;have fin:∀ xs:List Rw,xs=zaC rows x.n hs->xs.length<60->(∀ y∈xs,∃ w,y.v=.str w)->k1 [some (.ref p),some (dn c),some x.d,some (dn hs),some (.lst (xs.map Rw.d))] M:=by
  intro xs hxs hxl hxv;rw[e1];clear e1;walk_at "ev";simp only[h13,h25,h24];walk_at "ev";refine⟨xs,rfl,by omega,hxv,fun q2 ys hys hyl hq2=>⟨szL (by show 1<=1000;decide),?_⟩⟩
  simp only[dFrz];walk_at "ev";refine⟨[x.d],xs.map Rw.d,rfl,rfl,szL (by rw[Zb];(try simp only[Zi,Z8]);omega),fun q hq=>?_⟩
  simp only[Q0a];refine⟨x::xs,rfl,succ_pos _,by rw[Zi];omega,szL (by decide),?_⟩
  have sM:Sub (dupd M q2 (.lst ys)) (ddel (dupd (dupd M q2 (.lst ys)) q (.lst ([x.d]++xs.map Rw.d))) q):=fun c o e=>by
   unfold ddel;have:c≠q:=dne e hq;rw[Zc this,Q0b this];exact e
  rw[<- hxs,x3]at h;exact⟨dupd M q2 (.lst ys),sM,h _ _ (Sub.new hq2) (Qal hys ⟨_,rfl⟩ hq2 Q0a hyl)⟩
 walk_at "ev";simp only[h1];walk_at "ev";rw[hv];refine⟨hs,c,rfl,?_⟩;walk_at "ev";have fin':=fin;simp only[Rw.d,hv]at fin';refine ite2 (fun q=>?_) fun q=>?_
 ·rw[Ze]at q;simp only[h309,h14];walk_at "ev";refine⟨p,_,rfl,G.ob,Q1s,p,hs,[100,111,111,114],M0,top,life,rows,rfl,Pg,by omega,?_⟩
  exact fin' (za3 (atN rows hs) zam) (by unfold zaC;rw[x3,Zg q]) (by have:=Q1n rows hs zam;omega) (hg.strs (by unfold IsN zam;decide))
 ·rw[Ze]at q;refine⟨szL (by decide),?_⟩
  exact fin' [] (by unfold zaC;rw[x3,Zc q]) (by decide) (fun y hy=>nomatch hy)
theorem ok_au(T:Tab)(h312:T.mt 312=some ⟨"Page","reply_at",2,sp_aJ⟩)(h307:T.mt 307=some ⟨"Page","place_of",1,sp_ap⟩)(h311:T.mt 311=some ⟨"Page","reply_down",1,sp_aF⟩)(h303:T.mt 303=some ⟨"Page","cut",1,sp_aN⟩) :
  ∀ ds M R,sp_au ds M R->evS T b_au (za0 R) (za1 ["self","name","kind","cut"] ds) M:=by
 rintro ds M R ⟨p,n,k,M0,top,life,rows,rfl,Pg,hg,hk,hn,ht,h⟩;obtain⟨r,d,s,kr,kd,ks,G⟩:=id Pg;have nom:∀ {m:Str},(m == "top")=false->(m == "life")=false->(m == "rows")=false->(m == "downs")=false->(m == "standing")=false->List.lookup m (zaY top life r d s)=none:=fun a b c d e=>Q1s a b c d e;simp only[b_au];refine Q0c fun k1 e1=>?_;walk_at "ev";simp only[h303];walk_at "ev";refine⟨p,_,rfl,G.ob,nom (by decide +kernel) (by decide +kernel) (by decide +kernel) (by decide +kernel) (by decide +kernel),p,n,M0,top,life,rows,rfl,Pg,hn,?_⟩
 rw[e1];clear e1;refine Q0c fun k1 e1=>?_;unfold za9 at h;unfold cutD;cases ec:cutN top rows n with
 | some c =>
  rw[ec]at h;have hc:(zaJ rows c).isSome=true:=by
   unfold cutN at ec;exact find?_some (p:=fun m=>(zaJ rows m).isSome) ec
  rw[Q0P,Option.isSome_map]at hc;obtain⟨x,hx⟩:=Option.isSome_iff_exists.mp hc;simp only[hx]at h;simp only[dn];walk_at "ev";simp only[h311];walk_at "ev";exact⟨p,_,rfl,G.ob,nom (by decide +kernel) (by decide +kernel) (by decide +kernel) (by decide +kernel) (by decide +kernel),p,c,x,M0,top,life,rows,rfl,Pg,hg,hx,fun d M' s r=>Q0f (h d M' s r)⟩
 | none =>
  rw[ec]at h;walk_at "ev";rw[e1];clear e1;walk_at "ev";simp only[h312,h307];walk_at "ev";exact⟨p,_,rfl,G.ob,nom (by decide +kernel) (by decide +kernel) (by decide +kernel) (by decide +kernel) (by decide +kernel),p,_,rfl,G.ob,nom (by decide +kernel) (by decide +kernel) (by decide +kernel) (by decide +kernel) (by decide +kernel),
   p,n,M0,top,life,rows,rfl,Pg,hn,ht,p,_,k,M0,top,life,rows,rfl,Pg,hg,hk,fun d M' s r=>Q0f (h d M' s r)⟩
noncomputable def b_ai:CS :=
  (.seq (.ret (.bin .mod (.bin .mod (.bin .mul (.bin .mod (.bin .mul (.bin .add (.bin .mod (.var 0) (.con (.int 99991))) (.con (.int 17))) (.bin .add (.con (.int 48271)) (.bin .mul (.con (.int 7919)) (.var 1)))) (.con (.int 65537))) (.bin .add (.var 1) (.con (.int 3)))) (.con (.int 8191))) (.var 2)))
  .nil)
noncomputable def b_aH:CS :=
  (.seq (.set 3 (.con (.str [97,98,99,100,101,102,103,104,105,106,107,108,109,110,111,112,113,114,115,116,117,118,119,120,121,122,48,49,50,51,52,53,54,55,56,57,45])))
  (.seq (.set 4 (.call 170 (.cons (.var 1) (.cons (.con (.int 1)) (.cons (.var 2) .nil)))))
  (.seq (.set 5 (.lst .nil))
  (.seq (.for1 6 (.rng1 (.con (.int 4)))
  (.seq (.set 7 (.con (.str [])))
  (.seq (.for1 8 (.rng1 (.var 2))
  (.seq (.set 9 (.call 170 (.cons (.var 0) (.cons (.bin .add (.var 8) (.con (.int 2))) (.cons (.con (.int 37)) .nil)))))
  (.seq (.ite (.cmp .eq (.var 8) (.var 4))
  (.seq (.set 9 (.bin .add (.var 9) (.var 6)))
  .nil)
  .nil)
  (.seq (.set 7 (.bin .add (.var 7) (.ix (.var 3) (.bin .mod (.var 9) (.con (.int 37))))))
  .nil))))
  (.seq (.ex (.ml .append (.var 5) (.cons (.var 7) .nil)))
  .nil))))
  (.seq (.ret (.frz (.var 5)))
  .nil)))))
noncomputable def b_a1:CS :=
  (.seq (.ret (.ix (.lstz (.cons (.bin .mod (.var 0) (.con (.int 1000000000))) (.cons (.call 101 (.cons (.var 0) (.cons (.con (.int 40)) (.cons (.con (.int 5)) .nil)))) .nil))) (.call 101 (.cons (.var 0) (.cons (.con (.int 41)) (.cons (.con (.int 2)) .nil))))))
  .nil)
noncomputable def b_aa:CS :=
  (.seq (.ret (.lstz (.cons (.tup .nil) (.cons (.tup (.cons (.ix (.var 0) (.con (.int 0))) .nil)) (.cons (.tup (.cons (.ix (.var 0) (.con (.int 1))) .nil)) (.cons (.tup (.cons (.ix (.var 0) (.con (.int 0))) (.cons (.ix (.var 0) (.con (.int 1))) .nil))) (.cons (.tup (.cons (.ix (.var 0) (.con (.int 1))) (.cons (.ix (.var 0) (.con (.int 2))) .nil))) .nil)))))))
  .nil)
noncomputable def b_aj:CS :=
  (.seq (.ite (.or (.cmp .ne (.sl (.ix (.var 1) (.con (.int 0))) .nil (.blt .len (.cons (.var 2) .nil))) (.var 2)) (.and (.cmp .eq (.ix (.var 1) (.con (.int 2))) (.con (.str [100,111,119,110]))) (.or (.cmp .eq (.ix (.var 1) (.con (.int 0))) (.var 2)) (.cmp .eq (.ix (.ix (.var 1) (.con (.int 0))) (.neg (.con (.int 1)))) (.con (.str [42]))))))
  (.seq (.ret (.con (.bl false)))
  .nil)
  .nil)
  (.seq (.for1 3 (.var 0)
  (.seq (.ite (.cmp .eq (.ix (.var 3) (.con (.int 0))) (.ix (.var 1) (.con (.int 0))))
  (.seq (.ite (.or (.cmp .eq (.ix (.var 3) (.con (.int 2))) (.con (.str [101,108,115,101]))) (.cmp .eq (.ix (.var 1) (.con (.int 2))) (.con (.str [101,108,115,101]))))
  (.seq (.ret (.con (.bl false)))
  .nil)
  .nil)
  (.seq (.ite (.and (.cmp .eq (.ix (.var 3) (.con (.int 2))) (.ix (.var 1) (.con (.int 2)))) (.or (.cmp .eq (.ix (.var 1) (.con (.int 2))) (.con (.str [100,111,119,110]))) (.cmp .eq (.ix (.var 3) (.con (.int 3))) (.ix (.var 1) (.con (.int 3))))))
  (.seq (.ret (.con (.bl false)))
  .nil)
  .nil)
  .nil))
  .nil)
  .nil))
  (.seq (.ret (.con (.bl true)))
  .nil)))
noncomputable def b_ad:CS :=
  (.seq (.ite (.call 106 (.cons (.ix (.var 0) (.var 2)) (.cons (.var 3) (.cons (.ix (.var 1) (.var 2)) .nil))))
  (.seq (.ex (.ml .append (.ix (.var 0) (.var 2)) (.cons (.var 3) .nil)))
  .nil)
  .nil)
  .nil)
noncomputable def b_aO:CS :=
  (.seq (.set 6 (.ix (.lstz (.cons (.con (.int 0)) (.cons (.con (.int 0)) (.cons (.con (.int 0)) (.cons (.var 4) (.cons (.con (.int 1)) (.cons (.con (.int 2)) (.cons (.con (.int 3)) (.cons (.con (.int 4)) .nil))))))))) (.call 101 (.cons (.var 5) (.cons (.con (.int 0)) (.cons (.con (.int 8)) .nil))))))
  (.seq (.set 7 (.bin .add (.ix (.var 1) (.var 6)) (.tup (.cons (.ix (.var 2) (.con (.int 3))) .nil))))
  (.seq (.set 8 (.ix (.lstz (.cons (.con (.int 0)) (.cons (.con (.int 0)) (.cons (.con (.int 0)) (.cons (.con (.int 1)) (.cons (.con (.int 2)) .nil)))))) (.var 4)))
  (.seq (.ex (.call 107 (.cons (.var 0) (.cons (.var 1) (.cons (.var 8) (.cons (.tup (.cons (.ix (.var 1) (.var 4)) (.cons (.call 104 (.cons (.var 5) .nil)) (.cons (.con (.str [100,111,119,110])) (.cons (.var 7) .nil))))) .nil))))))
  (.seq (.ite (.cmp .eq (.call 101 (.cons (.var 5) (.cons (.con (.int 1)) (.cons (.con (.int 2)) .nil)))) (.con (.int 1)))
  (.seq (.ex (.call 107 (.cons (.var 0) (.cons (.var 1) (.cons (.var 8) (.cons (.tup (.cons (.var 7) (.cons (.call 104 (.cons (.bin .add (.var 5) (.con (.int 1))) .nil)) (.cons (.con (.str [100,111,111,114])) (.cons (.ix (.var 3) (.var 6)) .nil))))) .nil))))))
  .nil)
  .nil)
  (.seq (.ite (.cmp .gt (.call 101 (.cons (.var 5) (.cons (.con (.int 2)) (.cons (.con (.int 6)) .nil)))) (.con (.int 2)))
  (.seq (.ex (.call 107 (.cons (.var 0) (.cons (.var 1) (.cons (.var 6) (.cons (.tup (.cons (.var 7) (.cons (.call 104 (.cons (.bin .add (.var 5) (.con (.int 2))) .nil)) (.cons (.con (.str [100,111,111,114])) (.cons (.ix (.var 3) (.var 6)) .nil))))) .nil))))))
  .nil)
  .nil)
  (.seq (.ite (.chain .lt .lt (.con (.int 0)) (.call 101 (.cons (.var 5) (.cons (.con (.int 2)) (.cons (.con (.int 6)) .nil)))) (.con (.int 3)))
  (.seq (.ex (.call 107 (.cons (.var 0) (.cons (.var 1) (.cons (.var 6) (.cons (.tup (.cons (.var 7) (.cons (.call 104 (.cons (.bin .add (.var 5) (.con (.int 2))) .nil)) (.cons (.con (.str [101,108,115,101])) (.cons (.bin .add (.ix (.var 1) (.call 101 (.cons (.var 5) (.cons (.con (.int 3)) (.cons (.con (.int 5)) .nil))))) (.tup (.cons (.ix (.var 2) (.con (.int 3))) .nil))) .nil))))) .nil))))))
  .nil)
  .nil)
  (.seq (.ret (.ix (.var 3) (.var 6)))
  .nil))))))))
noncomputable def b_aw:CS :=
  (.seq (.set 6 (.bin .add (.ix (.var 1) (.var 4)) (.call 103 (.cons (.var 2) (.cons (.var 5) (.cons (.con (.int 5)) (.cons (.call 101 (.cons (.var 5) (.cons (.con (.int 8)) (.cons (.con (.int 3)) .nil)))) .nil)))))))
  (.seq (.ite (.cmp .eq (.call 101 (.cons (.var 5) (.cons (.con (.int 9)) (.cons (.con (.int 6)) .nil)))) (.con (.int 1)))
  (.seq (.set 6 (.bin .add (.var 6) (.tup (.cons (.con (.str [42])) .nil))))
  .nil)
  .nil)
  (.seq (.set 7 (.ix (.lstz (.cons (.con (.str [101,108,115,101])) (.cons (.con (.str [109,97,114,107])) (.cons (.con (.str [109,97,114,107])) (.cons (.con (.str [100,111,111,114])) (.cons (.con (.str [100,111,119,110])) (.cons (.con (.str [101,108,115,101])) (.cons (.con (.str [100,111,111,114])) .nil)))))))) (.call 101 (.cons (.var 5) (.cons (.con (.int 10)) (.cons (.con (.int 7)) .nil))))))
  (.seq (.set 8 (.ix (.lstz (.cons (.con (.str [114,101,100])) (.cons (.con (.str [114,101])) (.cons (.bin .add (.con (.str [118])) (.blt .str (.cons (.bin .mod (.var 5) (.bin .pow (.con (.int 10)) (.con (.int 30)))) .nil))) .nil)))) (.call 101 (.cons (.var 5) (.cons (.con (.int 11)) (.cons (.con (.int 3)) .nil))))))
  (.seq (.ite (.cmp .eq (.var 7) (.con (.str [100,111,111,114])))
  (.seq (.set 8 (.ix (.var 3) (.call 101 (.cons (.var 5) (.cons (.con (.int 12)) (.cons (.con (.int 5)) .nil))))))
  (.seq (.set 6 (.ix (.lstz (.cons (.var 6) (.cons (.bin .add (.ix (.var 1) (.var 4)) (.tup (.cons (.ix (.var 2) (.con (.int 3))) .nil))) .nil))) (.call 101 (.cons (.var 5) (.cons (.con (.int 18)) (.cons (.con (.int 2)) .nil))))))
  .nil))
  .nil)
  (.seq (.ite (.cmp .eq (.var 7) (.con (.str [101,108,115,101])))
  (.seq (.set 8 (.bin .add (.ix (.var 1) (.call 101 (.cons (.var 5) (.cons (.con (.int 13)) (.cons (.con (.int 5)) .nil))))) (.call 103 (.cons (.var 2) (.cons (.var 5) (.cons (.con (.int 14)) (.cons (.call 101 (.cons (.var 5) (.cons (.con (.int 17)) (.cons (.con (.int 3)) .nil)))) .nil)))))))
  .nil)
  .nil)
  (.seq (.ite (.cmp .eq (.var 7) (.con (.str [100,111,119,110])))
  (.seq (.set 8 (.bin .add (.ix (.var 1) (.call 101 (.cons (.var 5) (.cons (.con (.int 13)) (.cons (.con (.int 5)) .nil))))) (.tup (.cons (.ix (.var 2) (.con (.int 3))) .nil))))
  .nil)
  .nil)
  (.seq (.ex (.call 107 (.cons (.var 0) (.cons (.var 1) (.cons (.var 4) (.cons (.tup (.cons (.var 6) (.cons (.call 104 (.cons (.var 5) .nil)) (.cons (.var 7) (.cons (.var 8) .nil))))) .nil))))))
  .nil))))))))
noncomputable def b_aS:CS :=
  (.seq (.set 3 (.call 105 (.cons (.var 1) .nil)))
  (.seq (.set 4 (.lstz (.cons (.lst .nil) (.cons (.lst .nil) (.cons (.lst .nil) (.cons (.lst .nil) (.cons (.lst .nil) .nil)))))))
  (.seq (.set 5 (.compz false [2,0] (.rng1 (.con (.int 5))) .nil (.ix (.var 1) (.call 101 (.cons (.call 100 (.cons (.var 2) (.cons (.con (.int 3)) .nil))) (.cons (.var 0) (.cons (.con (.int 4)) .nil)))))))
  (.seq (.set 6 (.lst (.cons (.ix (.var 2) (.con (.int 0))) .nil)))
  (.seq (.for1 7 (.rng2 (.con (.int 1)) (.con (.int 5)))
  (.seq (.ex (.ml .append (.var 6) (.cons (.call 108 (.cons (.var 4) (.cons (.var 3) (.cons (.var 1) (.cons (.var 5) (.cons (.var 7) (.cons (.call 100 (.cons (.var 0) (.cons (.bin .add (.con (.int 3)) (.var 7)) .nil))) .nil))))))) .nil)))
  .nil))
  (.seq (.for1 8 (.sl (.var 0) (.con (.int 9)) (.con (.int 25)))
  (.seq (.ex (.call 109 (.cons (.var 4) (.cons (.var 3) (.cons (.var 1) (.cons (.var 5) (.cons (.call 101 (.cons (.var 8) (.cons (.con (.int 4)) (.cons (.con (.int 5)) .nil)))) (.cons (.var 8) .nil))))))))
  .nil))
  (.seq (.for1 7 (.rng1 (.con (.int 5)))
  (.seq (.ite (.cmp .eq (.call 101 (.cons (.call 100 (.cons (.var 0) (.cons (.con (.int 8)) .nil))) (.cons (.var 7) (.cons (.con (.int 12)) .nil)))) (.con (.int 1)))
  (.seq (.lput (.var 6) (.var 7) (.con .non))
  .nil)
  .nil)
  .nil))
  (.seq (.ret (.tup (.cons (.var 4) (.cons (.frz (.var 6)) .nil))))
  .nil))))))))
noncomputable def zaG(c k m:Int):Nat:=((c % 99991+17) * (48271+7919 * k) % 65537 * (k+3) % 8191 % m).toNat
theorem Q8n(hm:0<m):(zaG c k m:Int)<m:=by
 have e:=Int.emod_nonneg ((c % 99991+17) * (48271+7919 * k) % 65537 * (k+3) % 8191) (show m≠0 by omega)
 unfold zaG;rw[Int.toNat_of_nonneg e];exact Int.emod_lt_of_pos _ hm
noncomputable def sp_ai:DSp:=fun ds M R=>∃ (c k m:Int),ds=[.int c,.int k,.int m]/\0<=k/\k<=1000000/\0<m/\R (.int (zaG c k m)) M
theorem ok_ai:∀ ds M R,sp_ai ds M R->evS T b_ai (za0 R) (za1 ["a","b","c"] ds) M:=by
 rintro ds M R ⟨c,k,m,rfl,h0,h1,hm,h⟩;simp only[b_ai];walk_at "ev";refine⟨by decide,mulOk (by omega) (by omega),mulOk (by omega) (by omega),by decide,mulOk (by omega) (by omega),by decide,hm,Q0f ?_⟩
 have e:=Int.emod_nonneg ((c % 99991+17) * (48271+7919 * k) % 65537 * (k+3) % 8191) (show m≠0 by omega)
 unfold zaG at h;rw[Int.toNat_of_nonneg e]at h;exact h
noncomputable def Fit(a b:Rw):Prop:=a.n=b.n->(a.k≠za8/\b.k≠za8)/\¬ (a.k=zad/\b.k=zad)
noncomputable def Valid(rows:List Rw):Prop:=rows.Pairwise Fit
theorem Fit.symm(h:Fit a b):Fit b a:=fun e=>⟨(h e.symm).1.symm,fun z=>(h e.symm).2 z.symm⟩
theorem wd_ns(h:Wd w):w≠[42]:=by
 rintro rfl;exact absurd (h.al 42 (Zp.mpr rfl)) (by decide)
theorem Q2o(a:List W)(w:W):D.tup (a.map D.str++[.str w])=dn (a++[w]):=by unfold dn;rw[ZC];rfl
theorem Q6D:∀ x<37,∀ y<37,signs.getD x 0=signs.getD y 0->x=y:=by decide +kernel
noncomputable def WInj(ws:List W):Prop:=∀ i<4,∀ j<4,ws.getD i []=ws.getD j []->i=j
noncomputable def sp_aH:DSp:=fun ds M R=>∃ (a b:Int) (v:Nat),ds=[.int a,.int b,.int ((v+1:Nat):Int)]/\v<12/\∀ ws:List W,ws.length=4->(∀ w∈ws,Wd w)->WInj ws->R (.lst (ws.map D.str)) M
theorem ok_aH(T:Tab)(h1:T.fn 170=some ⟨"_law_part",3,[],sp_ai⟩):∀ ds M R,sp_aH ds M R->evS T b_aH (za0 R) (za1 ["a","b","c","d","e","f","g","h","i","j"] ds) M:=by
 rintro ds M R ⟨a,b,v,rfl,hv,h⟩;simp only[b_aH];refine Q0c fun k1 e1=>?_;walk_at "ev";rw[e1];clear e1;refine Q0c fun k1 e1=>?_;walk_at "ev";simp only[h1];walk_at "ev";refine⟨b,1,_,rfl,by decide,by decide,by omega,?_⟩
 have hu:=Q8n (c:=b) (k:=1) (m:=((v+1:Nat):Int)) (by omega)
 generalize zaG b 1 ((v+1:Nat):Int)=u at hu ⊢;rw[e1];clear e1;refine Q0c fun k1 e1=>?_;walk_at "ev";refine⟨szL (by decide),fun p hp=>?_⟩
 rw[e1];clear e1;refine Q0c fun k1 e1=>?_;walk_at "ev";refine⟨by decide,by decide,?_⟩
 refine Q0L (fun i ρ M'=>∃ (ws:List W) (v6 v7 v8 v9:Option D),M'=dupd M p (.lst (ws.map D.str))/\ρ=[some (.int a),some (.int b),some (.int ((v+1:Nat):Int)),some (.str signs),some (.int u),some (.ref p),v6,v7,v8,v9]/\ws.length=i/\(∀ w∈ws,Wd w)/\∀ k<i,(ws.getD k [])[u]? = signs[(zaG a ((u:Int)+2) 37+k) % 37]?)
  ⟨[],none,none,none,none,rfl,rfl,rfl,(fun w h=>nomatch h),fun k h=>absurd h (not_lt_zero k)⟩ (fun _ _ _ _=>trivial) ?_ ?_
 ·rintro i ρ M' k hi ⟨ws,v6,v7,v8,v9,rfl,rfl,hw,ha,hs⟩ hk;show dSeq _ _ _ _ _;refine Q0k fun k2 e2=>?_;walk_at "ev";rw[e2];clear e2;refine Q0k fun k2 e2=>?_;walk_at "ev";refine⟨by omega,by omega,?_⟩
  rw[Z7];refine Q0L (fun j ρ M'=>∃ (w:W) (v8 v9:Option D),M'=dupd M p (.lst (ws.map D.str))/\ρ=[some (.int a),some (.int b),some (.int ((v+1:Nat):Int)),some (.str signs),some (.int u),some (.ref p),some (.int (0+(i:Int))),some (.str w),v8,v9]/\w.length=j/\(∀ x∈w,x∈signs)/\(u<j->w[u]? = signs[(zaG a ((u:Int)+2) 37+i) % 37]?))
   ⟨[],v8,v9,rfl,rfl,rfl,(fun x h=>nomatch h),fun h=>absurd h (not_lt_zero u)⟩ (fun _ _ _ _=>trivial) ?_ ?_
  ·rintro j ρ M' k3 hj ⟨w,v8,v9,rfl,rfl,hwl,hwa,hwu⟩ hk3;show dSeq _ _ _ _ _;refine Q0k fun k4 e4=>?_;walk_at "ev";simp only[h1];walk_at "ev";refine⟨a,_,37,rfl,by omega,by omega,by decide,?_⟩
   rw[e4];clear e4;refine Q0k fun k4 e4=>?_;have last:∀ z:Nat,(u=j->z=zaG a ((u:Int)+2) 37+i)->k4 [some (.int a),some (.int b),some (.int ((v+1:Nat):Int)),some (.str signs),some (.int u),some (.ref p),some (.int (0+(i:Int))),some (.str w),some (.int (0+(j:Int))),some (.int z)] (dupd M p (.lst (ws.map D.str))):=by
    intro z hz;rw[e4];clear e4;walk_at "ev";refine⟨by decide,ix_str (by omega) (by show _<(37:Int);omega) (by decide) fun x hx=>?_⟩
    walk_at "ev";refine⟨szL (by rw[hwl];omega),hk3 _ _ ⟨w++[x],_,_,rfl,rfl,by rw[Zl,hwl];rfl,fun y hy=>?_,fun huj=>?_⟩⟩
    ·rcases Z0.mp hy with hy | hy
     ·exact hwa y hy
     ·rw[Zp.mp hy];exact Zt hx
    ·by_cases e:u<j
     ·rw[getElem?_append_left (by omega)];exact hwu e
     ·have e':u=j:=by omega
      have e3:((z:Int) % 37).toNat=(zaG a ((u:Int)+2) 37+i) % 37:=by rw[hz e'];omega
      rw[e3]at hx;rw[getElem?_append_right (by omega),e',hwl,sub_self,<- e',hx]
      rfl
   walk_at "ev";have ej:(0+(j:Int))+2=(j:Int)+2:=by omega
   rw[ej];refine⟨rfl,rfl,ite2 (fun q=>?_) fun q=>last _ fun e=>absurd (show decide ((0+(j:Int))=(u:Int))=true from Zo (by omega)) q⟩
   have en:(zaG a ((j:Int)+2) 37:Int)+(0+(i:Int))=((zaG a ((j:Int)+2) 37+i:Nat):Int):=by omega
   rw[en];exact last _ fun e=>by rw[e]
  ·rintro ρ M' ⟨w,v8,v9,rfl,rfl,hwl,hwa,hwu⟩;rw[e2];clear e2;walk_at "ev";simp only[Q0a]
   try walk_at "ev"
   try simp only[Q0a]
   refine⟨small1000 (by rw[Zb];omega),?_⟩
   rw[Q1k];refine hk _ _ ⟨ws++[w],_,_,_,_,by rw[ZC];rfl,rfl,by rw[Zl,hw];rfl,fun y hy=>?_,fun k hk=>?_⟩
   ·rcases Z0.mp hy with hy | hy
    ·exact ha y hy
    ·rw[Zp.mp hy];exact⟨by omega,by omega,hwa⟩
   ·rw[Zz];by_cases e:k<i
    ·rw[getElem?_append_left (by omega),<- Zz];exact hs k e
    ·have e':k=i:=by omega
     rw[getElem?_append_right (by omega),e',hw,sub_self]
     exact hwu (by omega)
 ·rintro ρ M' ⟨ws,v6,v7,v8,v9,rfl,rfl,hw,ha,hs⟩;rw[e1];clear e1;walk_at "ev";simp only[dFrz];walk_at "ev";simp only[Q0a];refine⟨M,fun c o e=>?_,h ws hw ha fun i hi j hj e=>?_⟩;rotate_left
  ·have h1:=hs i (by simpa using hi)
   rw[e,hs j (by simpa using hj)]at h1
   have l1:(zaG a ((u:Int)+2) 37+j) % 37<37:=Nat.mod_lt _ (by decide)
   have l2:(zaG a ((u:Int)+2) 37+i) % 37<37:=Nat.mod_lt _ (by decide)
   have:=Q6D _ l1 _ l2 (by rw[Zz,Zz,h1])
   omega
  unfold ddel dupd;have:c≠p:=dne e hp;rw[Zc this,Zc this];exact e
noncomputable def sp_a1:DSp:=fun ds M R=>∃ c:Int,ds=[.int c]/\∀ z:Int,R (.int z) M
theorem ok_a1(T:Tab)(h101:T.fn 101=some ⟨"_law_part",3,[],sp_a0⟩):∀ ds M R,sp_a1 ds M R->evS T b_a1 (za0 R) (za1 ["a"] ds) M:=by
 rintro ds M R ⟨c,rfl,h⟩;simp only[b_a1];walk_at "ev";simp only[h101];walk_at "ev";refine⟨by decide,c,40,5,rfl,by decide,by decide,by decide,fun u _=>⟨szL (by decide),c,41,2,rfl,by decide,by decide,by decide,fun v hv=>Q0r (by omega) hv fun d hd=>?_⟩⟩
 have hm:=Zt hd;simp only[Zw,Z4,ZP]at hm;rcases hm with rfl | rfl <;> exact Q0f (h _)
structure T5(tops:List (List W)):Prop where
 l:tops.length=5
 ok:∀ t∈tops,t.length<=2/\∀ w∈t,Wd w
noncomputable def za6(ws:List W):List (List W):=[[],[ws.getD 0 []],[ws.getD 1 []],[ws.getD 0 [],ws.getD 1 []],[ws.getD 1 [],ws.getD 2 []]]
theorem Q1A{ws:List W}{i:Nat}(h:i<ws.length):ws.getD i []∈ws:=by
 rw[Zz,Zf h];exact getElem_mem h
theorem Q4C{ws:List W}(hl:ws.length=4)(hw:∀ w∈ws,Wd w):T5 (za6 ws):=by
 have g:∀ i<4,Wd (ws.getD i []):=fun i hi=>hw _ (Q1A (by omega))
 refine⟨rfl,fun t ht=>?_⟩;unfold za6 at ht;simp only[Zw,Z4,ZP]at ht;rcases ht with rfl | rfl | rfl | rfl | rfl
 ·exact⟨by simp,fun w hw=>nomatch hw⟩
 ·exact⟨by simp,fun w hw=>by rw[Zp.mp hw];exact g 0 (by decide)⟩
 ·exact⟨by simp,fun w hw=>by rw[Zp.mp hw];exact g 1 (by decide)⟩
 ·refine⟨by simp,fun w hw=>?_⟩
  simp only[Zw,Z4,ZP]at hw;rcases hw with rfl | rfl
  ·exact g 0 (by decide)
  ·exact g 1 (by decide)
 ·refine⟨by simp,fun w hw=>?_⟩
  simp only[Zw,Z4,ZP]at hw;rcases hw with rfl | rfl
  ·exact g 1 (by decide)
  ·exact g 2 (by decide)
theorem Q0o{ws:List W}{i:Nat}{M:DH}{Q:DK}(h:i<ws.length)(hq:Q (.str (ws.getD i [])) M):rIxD (.lst (ws.map D.str)) (.int (i:Int)) M Q :=
 Q0r (by omega) (by rw[Zb];omega) fun d hd=>by
  rw[Z7,Zq,Zf h]at hd;cases hd;rw[Zz,Zf h]at hq;exact hq
theorem Q0Y{ns:List (List W)}{i:Nat}{M:DH}{Q:DK}(h:i<ns.length)(hq:Q (dn (ns.getD i [])) M):rIxD (.lst (ns.map dn)) (.int (i:Int)) M Q :=
 Q0r (by omega) (by rw[Zb];omega) fun d hd=>by
  rw[Z7,Zq,Zf h]at hd;cases hd;rw[Zz,Zf h]at hq;exact hq
noncomputable def sp_aa:DSp:=fun ds M R=>∃ ws:List W,ds=[.lst (ws.map D.str)]/\ws.length=4/\R (.lst ((za6 ws).map dn)) M
theorem ok_aa{T:Tab}:∀ ds M R,sp_aa ds M R->evS T b_aa (za0 R) (za1 ["a"] ds) M:=by
 rintro ds M R ⟨ws,rfl,hl,h⟩;simp only[b_aa];walk_at "ev";refine⟨szL (by decide),Q0o (i:=0) (by omega) ⟨szL (by decide),Q0o (i:=1) (by omega) ⟨szL (by decide),Q0o (i:=0) (by omega) (Q0o (i:=1) (by omega) ⟨szL (by decide),Q0o (i:=1) (by omega) (Q0o (i:=2) (by omega) ⟨szL (by decide),szL (by decide),Q0f h⟩)⟩)⟩⟩⟩
noncomputable def Pre5(x:Rw):Prop:=x.n.length<=9/\((IsN x.k/\∃ b:List W,x.v=dn b/\b.length<=9/\∀ w∈b,w≠[42])\/(¬ IsN x.k/\∃ w:W,x.v=.str w))
noncomputable def sp_aj:DSp:=fun ds M R=>∃ (a:Addr) (rows:List Rw) (x:Rw) (top:List W),ds=[.ref a,x.d,dn top]/\M a=some (.lst (rows.map Rw.d))/\Pre5 x/\(∀ y∈rows,Pre5 y)/\∀ b,(b=true->x.n.take top.length=top/\∀ y∈rows,Fit y x)->R (.bl b) M
theorem ok_aj:∀ ds M R,sp_aj ds M R->evS T b_aj (za0 R) (za1 ["a","b","c","d"] ds) M:=by
 rintro ds M R ⟨a,rows,x,top,rfl,ha,hx,hr,h⟩;have no:∃ M0,Sub M0 M/\R (.bl false) M0:=⟨M,Sub.refl M,h false fun z=>(nomatch z)⟩
 simp only[b_aj,Rw.d];refine Q0c fun k1 e1=>?_;have rest:x.n.take top.length=top->k1 [some (.ref a),some x.d,some (dn top),none] M:=by
  intro htop;rw[e1];clear e1;refine Q0c fun k1 e1=>?_;walk_at "ev";simp only[ha];refine Q0U (fun i ρ M'=>M'=M/\(∃ v,ρ=[some (.ref a),some x.d,some (dn top),v])/\∀ (j:Nat) (y:Rw),j<i->rows[j]? = some y->Fit y x) ⟨rfl,⟨none,rfl⟩,fun j y hj=>absurd hj (not_lt_zero j)⟩ (fun i ρ M' h=>by rw[h.1];exact ha) ?_ ?_
  ·rintro i d0 ρ M' k hi ⟨rfl,⟨v,rfl⟩,hb⟩ hk;rw[Zq]at hi;cases ei:rows[i]? with
   | none=>rw[ei]at hi;cases hi
   | some y =>
    rw[ei]at hi;cases hi;have hy:=hr y (Zt ei);have next:Fit y x->k [some (.ref a),some x.d,some (dn top),some y.d] M':=fun q=>hk _ _ ⟨rfl,⟨_,rfl⟩,fun j z hj hz=>by
     by_cases hji:j=i
     ·subst hji;rw[ei]at hz;cases hz;exact q
     ·exact hb j z (by omega) hz⟩
    simp only[Rw.d]at next ⊢;walk_at "ev";walk_at "q1";walk_at "q1";simp only[dn]at next ⊢
    try walk_at "ev"
    simp only[Q0O];refine⟨Q0e _,Q0e _,ite2 (fun q1=>?_) fun q1=>next fun z=>absurd (Zo z) q1⟩;walk_at "q1"
    try walk_at "ev"
    refine⟨rfl,rfl,ite2 (fun _=>no) fun q2=>?_⟩;walk_at "q1"
    try walk_at "ev"
    refine⟨rfl,rfl,ite2 (fun _=>no) fun q3=>?_⟩;rw[Ze]at q2 q3;walk_at "q1";walk_at "q1"
    try walk_at "ev"
    refine⟨rfl,rfl,ite2 (fun q4=>?_) fun q4=>next fun _=>⟨⟨q2,q3⟩,fun z=>q4 (Zo (by rw[z.1,z.2]))⟩⟩
    walk_at "q1"
    try walk_at "ev"
    refine⟨rfl,rfl,ite2 (fun _=>no) fun q5=>?_⟩
    replace next:=next fun _=>⟨⟨q2,q3⟩,fun z=>q5 (Zo z.2)⟩
    walk_at "q1";walk_at "q1";have pv:∀ z:W,DL.plain 12 (.str z)=true:=fun _=>rfl;rcases hy.2 with ⟨_,b1,ey,_⟩ | ⟨_,b1,ey⟩ <;> rcases hx.2 with ⟨_,b2,ex,_⟩ | ⟨_,b2,ex⟩ <;> rw[ey,ex]at next ⊢ <;> simp only[dn]at next ⊢
    ·exact⟨Q0E 10 _,Q0E 10 _,ite2 (fun _=>no) fun _=>next⟩
    ·exact⟨Q0E 10 _,pv _,ite2 (fun _=>no) fun _=>next⟩
    ·exact⟨pv _,Q0E 10 _,ite2 (fun _=>no) fun _=>next⟩
    ·exact⟨pv _,pv _,ite2 (fun _=>no) fun _=>next⟩
  ·rintro ρ M' ⟨rfl,⟨v,rfl⟩,hb⟩;rw[e1];clear e1;walk_at "ev";refine Q0f (h true fun _=>⟨htop,fun y hy=>?_⟩);obtain⟨j,hj⟩:=mem_iff_getElem?.mp hy;exact hb j y (by rw[Zb];exact (Zj.mp hj).1) hj
 walk_at "ev";walk_at "q1";unfold dn;walk_at "ev";rw[Zb,Q1R,<- map_take];refine⟨Q0e _,Q0e _,?_⟩;rw[Q0O];refine ite2 (fun _=>no) fun q0=>?_;have htop:x.n.take top.length=top:=by
  cases e:decide (x.n.take top.length=top) with
  | true=>exact ZL e
  | false=>rw[e]at q0;exact absurd rfl q0
 have rest:=rest htop;walk_at "q1";refine⟨rfl,rfl,ite2 (fun _=>?_) fun _=>rest⟩;walk_at "q1"
 try walk_at "ev"
 refine⟨Q0e _,Q0e _,?_⟩;rw[Q0O];refine ite2 (fun _=>no) fun hne=>?_;rw[Ze]at hne;have hn:0<x.n.length:=by
  rcases Nat.eq_zero_or_pos x.n.length with z | z
  ·refine absurd ?_ hne;have z0:=length_eq_zero_iff.mp z;rw[z0]at htop ⊢;rw[<- htop,List.take_nil]
  ·exact z
 walk_at "q1";refine Q3W (d:=.str x.n[x.n.length-1]) (by rw[Zb,Zq,Zf (by omega)];rfl) ?_
 try walk_at "ev"
 exact⟨rfl,rfl,ite2 (fun _=>no) fun _=>rest⟩
structure RT5(M:DH)(ad:Nat->Addr)(tops:List (List W))(rw:Nat->List Rw)(n:Nat):Prop where
 l:∀ i<5,M (ad i)=some (.lst ((rw i).map Rw.d))
 nd:∀ i j,i<5->j<5->ad i=ad j->i=j
 pre:∀ i<5,∀ x∈rw i,Pre5 x/\x.n.take (tops.getD i []).length=tops.getD i []
 val:∀ i<5,Valid (rw i)
 sz:∀ i<5,(rw i).length<=n
noncomputable def zsD(ad:Nat->Addr):D:=.lst ((List.range 5).map fun i=>.ref (ad i))
theorem ix_zs{ad:Nat->Addr}{i:Nat}{M:DH}{Q:DK}(h:i<5)(hq:Q (.ref (ad i)) M):rIxD (zsD ad) (.int (i:Int)) M Q :=
 Q0r (by omega) (by rw[Zb,length_range];omega) fun d hd=>by
  rw[Z7,Zq,getElem?_range h]at hd;cases hd;exact hq
theorem RT5.le{ad:Nat->Addr}{rw:Nat->List Rw}(h:RT5 M ad tops rw n)(hm:n<=m):RT5 M ad tops rw m:=⟨h.l,h.nd,h.pre,h.val,fun i hi=>Z3 (h.sz i hi) hm⟩
theorem RT5.put{ad:Nat->Addr}{rw:Nat->List Rw}(h:RT5 M ad tops rw n)(hi:i<5)(hx:Pre5 x)(ht:x.n.take (tops.getD i []).length=tops.getD i [])(hf:∀ y∈rw i,Fit y x) :
  RT5 (dupd M (ad i) (.lst ((rw i).map Rw.d++[x.d]))) ad tops (fun j=>if j=i then rw j++[x] else rw j) (n+1):=by
 refine⟨fun j hj=>?_,h.nd,fun j hj y hy=>?_,fun j hj=>?_,fun j hj=>?_⟩
 ·by_cases e:j=i
  ·subst e;simp only[ZS];rw[Q0a,ZC];rfl
  ·simp only[Zc e];rw[Q0b fun z=>e (h.nd j i hj hi z)];exact h.l j hj
 ·by_cases e:j=i
  ·subst e;simp only[ZS]at hy;rcases Z0.mp hy with hy | hy
   ·exact h.pre j hj y hy
   ·rw[Zp.mp hy];exact⟨hx,ht⟩
  ·simp only[Zc e]at hy;exact h.pre j hj y hy
 ·by_cases e:j=i
  ·subst e;simp only[ZS];refine List.pairwise_append.mpr ⟨h.val j hj,List.pairwise_singleton _ _,fun y hy z hz=>?_⟩;rw[Zp.mp hz];exact hf y hy
  ·simp only[Zc e];exact h.val j hj
 ·by_cases e:j=i
  ·subst e;simp only[ZS];rw[Zl,Yh];exact Nat.succ_le_succ (h.sz j hj)
  ·simp only[Zc e];exact le_succ_of_le (h.sz j hj)
noncomputable def Fr5(ad:Nat->Addr)(M M':DH):Prop:=∀ b,(∀ i<5,b≠ad i)->M' b=M b
theorem Fr5.refl(ad:Nat->Addr)(M:DH):Fr5 ad M M:=fun _ _=>rfl
theorem Fr5.trans{ad:Nat->Addr}{M M1 M2:DH}(h1:Fr5 ad M M1)(h2:Fr5 ad M1 M2):Fr5 ad M M2:=fun b hb=>(h2 b hb).trans (h1 b hb)
noncomputable def sp_ad:DSp:=fun ds M R=>∃ (ad:Nat->Addr) (tops:List (List W)) (rw:Nat->List Rw) (n i:Nat) (x:Rw),ds=[zsD ad,.lst (tops.map dn),.int (i:Int),x.d]/\T5 tops/\i<5/\Pre5 x/\RT5 M ad tops rw n/\n<=900 /\
 ∀ M' rw',RT5 M' ad tops rw' (n+1)->Fr5 ad M M'->R .non M'
theorem ok_ad(T:Tab)(h106:T.fn 106=some ⟨"_law_fits",3,[],sp_aj⟩):∀ ds M R,sp_ad ds M R->evS T b_ad (za0 R) (za1 ["a","b","c","d"] ds) M:=by
 rintro ds M R ⟨ad,tops,rw,n,i,x,rfl,ht,hi,hx,rt,hn,h⟩;simp only[b_ad];walk_at "ev";simp only[h106];walk_at "ev";refine ix_zs hi (Q0Y (by rw[ht.l];exact hi) ⟨ad i,rw i,x,tops.getD i [],rfl,rt.l i hi,hx,fun y hy=>(rt.pre i hi y hy).1,fun b hb=>ite2 (fun q=>?_) fun _=>?_⟩)
 ·obtain⟨htop,hf⟩:=hb q;refine ix_zs hi ?_;show (match M (ad i) with | some (MO.lst ds)=>_ | x=>False)
  simp only[rt.l i hi];have:=rt.sz i hi;exact⟨small1000 (by rw[Zb];omega),Q0f (h _ _ (rt.put hi hx htop hf) fun b hb=>Q0b (hb i hi))⟩
 ·exact Q0f (h M rw (rt.le (le_succ _)) (Fr5.refl ad M))
theorem Q6E{l:List Nat}{d:D}{v:Nat}{b:Nat}(hb:∀ x∈l,x<b)(hd:(l.map fun i:Nat=>D.int (i:Int))[v]? = some d):∃ j:Nat,d=.int (j:Int)/\j<b:=by
 have hm:=Zt hd;obtain⟨j,hj,rfl⟩:=ZH.mp hm;exact⟨j,rfl,hb j hj⟩
theorem T5.at_(h:T5 tops)(hi:i<5):(tops.getD i []).length<=2/\∀ w∈tops.getD i [],w≠[42]:=by
 have hm:tops.getD i []∈tops:=by
  rw[Zz,Zf (by rw[h.l];exact hi)]
  exact getElem_mem _
 exact⟨(h.ok _ hm).1,fun w hw=>wd_ns ((h.ok _ hm).2 w hw)⟩
theorem Q4D:IsN zad:=.inl rfl
theorem Q4E:IsN za8:=Q3E
theorem Q8o:¬ IsN zam:=by unfold IsN;decide
theorem Q2T(ht:∀ w∈t,w≠[42])(hw:w≠[42]):∀ x∈t++[w],x≠[42]:=fun x hx=>by
 rcases Z0.mp hx with hx | hx
 ·exact ht x hx
 ·rw[Zp.mp hx];exact hw
noncomputable def sp_aO:DSp:=fun ds M R=>∃ (ad:Nat->Addr) (tops:List (List W)) (ws hm:List W) (rw:Nat->List Rw) (n k:Nat) (c:Int),ds=[zsD ad,.lst (tops.map dn),.lst (ws.map D.str),.lst (hm.map D.str),.int (k:Int),.int c]/\T5 tops/\ws.length=4/\(∀ w∈ws,Wd w)/\hm.length=5/\k<5/\RT5 M ad tops rw n/\n<=800 /\
 ∀ M' rw' o,o∈hm->RT5 M' ad tops rw' (n+4)->Fr5 ad M M'->R (.str o) M'
theorem ok_aO(T:Tab)(h107:T.fn 107=some ⟨"_law_put",4,[],sp_ad⟩)(h104:T.fn 104=some ⟨"_law_life",1,[],sp_a1⟩)(h101:T.fn 101=some ⟨"_law_part",3,[],sp_a0⟩):∀ ds M R,sp_aO ds M R->evS T b_aO (za0 R) (za1 ["a","b","c","d","e","f","g","h","i"] ds) M:=by
 rintro ds M R ⟨ad,tops,ws,hm,rw,n,k,c,rfl,ht,hwl,hw,hml,hk,rt,hn,h⟩;simp only[b_aO];refine Q0c fun k1 e1=>?_;walk_at "ev";simp only[h101];walk_at "ev";refine⟨szL (by decide),c,0,8,rfl,by decide,by decide,by decide,fun v hv=>Q0r (by omega) (by simp only[Zi,Z8];omega) fun d hd=>?_⟩
 obtain⟨j,rfl,hj⟩:=Q6E (l:=[0,0,0,k,1,2,3,4]) (b:=5) (fun x hx=>by simp only[Zw,Z4,ZP]at hx;omega) hd
 clear hd;rw[e1];clear e1;refine Q0c fun k1 e1=>?_;walk_at "ev";have tj:=ht.at_ hj;have w3:ws.getD 3 []≠[42]:=wd_ns (hw _ (Q1A (by omega)))
 refine Q0Y (by rw[ht.l];exact hj) (Q0o (i:=3) (by omega) ⟨szL (by decide),?_⟩)
 rw[show dn (tops.getD j [])=.tup ((tops.getD j []).map D.str) from rfl];walk_at "ev";refine⟨szL (by rw[Zb];(try simp only[Zi,Z8]);omega),?_⟩
 rw[Q2o];obtain⟨hs,ehs⟩:∃ hs,hs=tops.getD j []++[ws.getD 3 []]:=⟨_,rfl⟩;have hsl:hs.length<=3:=by rw[ehs,Zl,Yh];omega
 have hss:∀ w∈hs,w≠[42]:=by rw[ehs];exact Q2T tj.2 w3
 rw[<- ehs];clear ehs tj;rw[e1];clear e1;refine Q0c fun k1 e1=>?_;walk_at "ev";refine⟨szL (by decide),Q0r (by omega) (by simp only[Zi,Z8];omega) fun d hd=>?_⟩
 obtain⟨at_,rfl,ha⟩:=Q6E (l:=[0,0,0,1,2]) (b:=5) (fun x hx=>by simp only[Zw,Z4,ZP]at hx;omega) hd
 clear hd;rw[e1];clear e1;refine Q0c fun k1 e1=>?_;walk_at "ev";simp only[h107,h104];walk_at "ev";have tk:=ht.at_ hk;have pdoor:∀ (z:Int) (o:W),Pre5 ⟨hs,z,zam,.str o⟩:=fun z o=>⟨by show hs.length<=9;omega,.inr ⟨Q8o,o,rfl⟩⟩
 refine Q0Y (by rw[ht.l];exact hk) ⟨c,rfl,fun z=>⟨szL (by decide),ad,tops,rw,n,at_,⟨tops.getD k [],z,zad,dn hs⟩,rfl,ht,ha,⟨by show (tops.getD k []).length<=9;omega,.inl ⟨Q4D,hs,rfl,by omega,hss⟩⟩,rt,by omega,fun M1 rw1 rt1 f1=>?_⟩⟩
 rw[e1];clear e1;refine Q0c fun k1 e1=>?_;have s2:∀ M2 rw2,RT5 M2 ad tops rw2 (n+2)->Fr5 ad M M2->k1 [some (zsD ad),some (.lst (tops.map dn)),some (.lst (ws.map D.str)),some (.lst (hm.map D.str)),some (.int (k:Int)),some (.int c),some (.int (j:Int)),some (dn hs),some (.int (at_:Int))] M2:=by
  intro M2 rw2 rt2 f2;rw[e1];clear e1;refine Q0c fun k1 e1=>?_;have s3:∀ M3 rw3,RT5 M3 ad tops rw3 (n+3)->Fr5 ad M M3->k1 [some (zsD ad),some (.lst (tops.map dn)),some (.lst (ws.map D.str)),some (.lst (hm.map D.str)),some (.int (k:Int)),some (.int c),some (.int (j:Int)),some (dn hs),some (.int (at_:Int))] M3:=by
   intro M3 rw3 rt3 f3;rw[e1];clear e1;refine Q0c fun k1 e1=>?_;have s4:∀ M4 rw4,RT5 M4 ad tops rw4 (n+4)->Fr5 ad M M4->k1 [some (zsD ad),some (.lst (tops.map dn)),some (.lst (ws.map D.str)),some (.lst (hm.map D.str)),some (.int (k:Int)),some (.int c),some (.int (j:Int)),some (dn hs),some (.int (at_:Int))] M4:=by
    intro M4 rw4 rt4 f4;rw[e1];clear e1;walk_at "ev";exact Q0o (by omega) (Q0f (h M4 rw4 _ (Q1A (by omega)) rt4 f4))
   walk_at "ev";simp only[h101,h107,h104];walk_at "ev";have no:=s4 M3 rw3 (rt3.le (by omega)) f3
   refine⟨c,2,6,rfl,by decide,by decide,by decide,fun v hv=>ite2 (fun _=>ite2 (fun _=>?_) fun _=>no) fun _=>no⟩
   refine⟨_,rfl,fun z=>⟨c,3,5,rfl,by decide,by decide,by decide,fun u hu=>Q0Y (by rw[ht.l];omega) (Q0o (i:=3) (by omega) ⟨szL (by decide),?_⟩)⟩⟩
   have tu:=ht.at_ (i:=u) (by omega)
   rw[show dn (tops.getD u [])=.tup ((tops.getD u []).map D.str) from rfl];walk_at "ev";refine⟨szL (by rw[Zb];(try simp only[Zi,Z8]);omega),szL (by decide),?_⟩
   rw[Q2o];exact⟨ad,tops,rw3,n+3,j,⟨hs,z,za8,dn (tops.getD u []++[ws.getD 3 []])⟩,rfl,ht,hj,⟨by show hs.length<=9;omega,.inl ⟨Q4E,_,rfl,by rw[Zl,Yh];omega,Q2T tu.2 w3⟩⟩,rt3,by omega,fun M4 rw4 rt4 f4=>s4 M4 rw4 rt4 (f3.trans f4)⟩
  walk_at "ev";simp only[h101,h107,h104];walk_at "ev";refine⟨c,2,6,rfl,by decide,by decide,by decide,fun v hv=>ite2 (fun _=>?_) fun _=>s3 M2 rw2 (rt2.le (by omega)) f2⟩
  exact⟨_,rfl,fun z=>Q0o (by omega) ⟨szL (by decide),ad,tops,rw2,n+2,j,⟨hs,z,zam,.str _⟩,rfl,ht,hj,pdoor _ _,rt2,by omega,fun M3 rw3 rt3 f3=>s3 M3 rw3 rt3 (f2.trans f3)⟩⟩
 walk_at "ev";simp only[h101,h107,h104];walk_at "ev";refine⟨c,1,2,rfl,by decide,by decide,by decide,fun v hv=>⟨rfl,rfl,ite2 (fun _=>?_) fun _=>s2 M1 rw1 (rt1.le (by omega)) f1⟩⟩
 exact⟨_,rfl,fun z=>Q0o (by omega) ⟨szL (by decide),ad,tops,rw1,n+1,at_,⟨hs,z,zam,.str _⟩,rfl,ht,ha,pdoor _ _,rt1,by omega,fun M2 rw2 rt2 f2=>s2 M2 rw2 rt2 (f1.trans f2)⟩⟩
noncomputable def kMk:W:=[109,97,114,107]
theorem Q8I(a b:List W):D.tup (a.map D.str++b.map D.str)=dn (a++b):=by unfold dn;rw[ZC]
noncomputable def sp_aw:DSp:=fun ds M R=>∃ (ad:Nat->Addr) (tops:List (List W)) (ws hm:List W) (rw:Nat->List Rw) (n i:Nat) (c:Int),ds=[zsD ad,.lst (tops.map dn),.lst (ws.map D.str),.lst (hm.map D.str),.int (i:Int),.int c]/\T5 tops/\ws.length=4/\(∀ w∈ws,Wd w)/\hm.length=5/\i<5/\RT5 M ad tops rw n/\n<=800 /\
 ∀ M' rw',RT5 M' ad tops rw' (n+1)->Fr5 ad M M'->R .non M'
theorem ok_aw(T:Tab)(h107:T.fn 107=some ⟨"_law_put",4,[],sp_ad⟩)(h104:T.fn 104=some ⟨"_law_life",1,[],sp_a1⟩)(h101:T.fn 101=some ⟨"_law_part",3,[],sp_a0⟩)(h103:T.fn 103=some ⟨"_law_below",4,[],sp_a9⟩):∀ ds M R,sp_aw ds M R->evS T b_aw (za0 R) (za1 ["a","b","c","d","e","f","g","h","i"] ds) M:=by
 rintro ds M R ⟨ad,tops,ws,hm,rw,n,i,c,rfl,ht,hwl,hw,hml,hi,rt,hn,h⟩;have ti:=ht.at_ hi;have w3:ws.getD 3 []≠[42]:=wd_ns (hw _ (Q1A (by omega)))
 simp only[b_aw];refine Q0c fun k1 e1=>?_;walk_at "ev";simp only[h101,h103];walk_at "ev";refine Q0Y (by rw[ht.l];exact hi) ⟨c,8,3,rfl,by decide,by decide,by decide,fun v hv=>⟨ws,c,5,v,rfl,hwl,hw,by decide,by decide,by omega,fun a al _=>?_⟩⟩
 rw[show dn (tops.getD i [])=.tup ((tops.getD i []).map D.str) from rfl,show dn a=.tup (a.map D.str) from rfl];walk_at "ev";refine⟨szL (by rw[Zb,Zb];omega),?_⟩
 rw[Q8I,e1];clear e1;refine Q0c fun k1 e1=>?_;have go:∀ m:List W,m.length<=5->k1 [some (zsD ad),some (.lst (tops.map dn)),some (.lst (ws.map D.str)),some (.lst (hm.map D.str)),some (.int (i:Int)),some (.int c),some (dn m),none,none] M:=by
  intro m ml;rw[e1];clear e1;refine Q0c fun k1 e1=>?_;walk_at "ev";simp only[h101];walk_at "ev";refine⟨szL (by decide),c,10,7,rfl,by decide,by decide,by decide,fun v hv=>Q0r (by omega) (by simp only[Zi,Z8];omega) fun d hd=>?_⟩
  obtain⟨kd,rfl,hkd⟩:∃ kd:W,d=.str kd/\(kd=za8\/kd=kMk\/kd=zam\/kd=zad):=by
   have hmm:=Zt hd;simp only[Zw,Z4,ZP]at hmm;rcases hmm with rfl | rfl | rfl | rfl | rfl | rfl | rfl
   ·exact⟨_,rfl,.inl rfl⟩
   ·exact⟨_,rfl,.inr (.inl rfl)⟩
   ·exact⟨_,rfl,.inr (.inl rfl)⟩
   ·exact⟨_,rfl,.inr (.inr (.inl rfl))⟩
   ·exact⟨_,rfl,.inr (.inr (.inr rfl))⟩
   ·exact⟨_,rfl,.inl rfl⟩
   ·exact⟨_,rfl,.inr (.inr (.inl rfl))⟩
  clear hd;rw[e1];clear e1;refine Q0c fun k1 e1=>?_;walk_at "ev";simp only[h101];walk_at "ev";have ep:(10:Int) ^ (30:Int).toNat=1000000000000000000000000000000:=by decide
  rw[ep];have l9:=Q8i (n:=(c % 1000000000000000000000000000000).toNat) (k:=30) (by decide) (by omega)
  refine⟨⟨by decide,by decide,by decide⟩,by decide,by omega,by rw[<- Int.toNat_of_nonneg (show 0<=c % 1000000000000000000000000000000 by omega)];exact QbK (by omega),szL (by (try simp only[Zi,Z8]);omega),szL (by decide),c,11,3,rfl,by decide,by decide,by decide,fun v hv=>?_⟩
  refine Q0r (by omega) hv fun d0 hd0=>?_
  obtain⟨vw,rfl⟩:∃ vw:W,d0=.str vw:=by
   have hm:=Zt hd0;simp only[Zw,Z4,ZP]at hm;rcases hm with rfl | rfl | rfl <;> exact⟨_,rfl⟩
  clear hd0 l9;rw[e1];clear e1;refine Q0c fun k1 e1=>?_;have s1:∀ (m:List W) (vd:D),m.length<=5->(kd=zad\/kd=za8\/∃ w,vd=.str w)->k1 [some (zsD ad),some (.lst (tops.map dn)),some (.lst (ws.map D.str)),some (.lst (hm.map D.str)),some (.int (i:Int)),some (.int c),some (dn m),some (.str kd),some vd] M:=by
   intro m vd ml hvd;rw[e1];clear e1;refine Q0c fun k1 e1=>?_;have s2:∀ (vd:D),(kd=zad\/((∃ b:List W,vd=dn b/\b.length<=9/\∀ w∈b,w≠[42])/\kd=za8)\/((∃ w,vd=.str w)/\kd≠za8))->k1 [some (zsD ad),some (.lst (tops.map dn)),some (.lst (ws.map D.str)),some (.lst (hm.map D.str)),some (.int (i:Int)),some (.int c),some (dn m),some (.str kd),some vd] M:=by
    intro vd hvd;rw[e1];clear e1;refine Q0c fun k1 e1=>?_;have s3:∀ vd:D,((IsN kd/\∃ b:List W,vd=dn b/\b.length<=9/\∀ w∈b,w≠[42])\/(¬ IsN kd/\∃ w:W,vd=.str w))->k1 [some (zsD ad),some (.lst (tops.map dn)),some (.lst (ws.map D.str)),some (.lst (hm.map D.str)),some (.int (i:Int)),some (.int c),some (dn m),some (.str kd),some vd] M:=by
     intro vd hvd;rw[e1];clear e1;walk_at "ev";simp only[h107,h104];walk_at "ev";exact⟨c,rfl,fun z=>⟨szL (by decide),ad,tops,rw,n,i,⟨m,z,kd,vd⟩,rfl,ht,hi,⟨by show m.length<=9;omega,hvd⟩,rt,by omega,fun M' rw' rt' f'=>Q0f (h M' rw' rt' f')⟩⟩
    walk_at "ev";simp only[h101];walk_at "ev";refine⟨rfl,rfl,ite2 (fun q=>?_) fun q=>?_⟩
    ·have q':kd=zad:=ZL q;refine⟨c,13,5,rfl,by decide,by decide,by decide,fun u hu=>Q0Y (by rw[ht.l];omega) (Q0o (i:=3) (by omega) ⟨szL (by decide),?_⟩)⟩
     have tu:=ht.at_ (i:=u) (by omega)
     rw[show dn (tops.getD u [])=.tup ((tops.getD u []).map D.str) from rfl];walk_at "ev";refine⟨szL (by rw[Zb];(try simp only[Zi,Z8]);omega),?_⟩
     rw[Q2o];exact s3 _ (.inl ⟨by rw[q'];exact Q4D,_,rfl,by rw[Zl,Yh];omega,Q2T tu.2 w3⟩)
    ·have q':kd≠zad:=fun z=>q (by simp[z,zad])
     refine s3 vd ?_;rcases hvd with z | ⟨z,ez⟩ | ⟨z,ez⟩
     ·exact absurd z q'
     ·exact .inl ⟨by rw[ez];exact Q4E,z⟩
     ·exact .inr ⟨fun y=>by rcases y with y | y;exact q' y;exact ez y,z⟩
   walk_at "ev";simp only[h101,h103];walk_at "ev";refine⟨rfl,rfl,ite2 (fun q=>?_) fun q=>?_⟩
   ·have q':kd=za8:=ZL q;refine⟨c,13,5,rfl,by decide,by decide,by decide,fun u hu=>Q0Y (by rw[ht.l];omega) ⟨c,17,3,rfl,by decide,by decide,by decide,fun v hv=>⟨ws,c,14,v,rfl,hwl,hw,by decide,by decide,by omega,fun a al aw=>?_⟩⟩⟩
    have tu:=ht.at_ (i:=u) (by omega)
    rw[show dn (tops.getD u [])=.tup ((tops.getD u []).map D.str) from rfl,show dn a=.tup (a.map D.str) from rfl];walk_at "ev";refine⟨szL (by rw[Zb,Zb];omega),?_⟩
    rw[Q8I];refine s2 _ (.inr (.inl ⟨⟨_,rfl,by rw[Zl];omega,fun w hw'=>?_⟩,q'⟩))
    rcases Z0.mp hw' with y | y
    ·exact tu.2 w y
    ·exact wd_ns (aw w y)
   ·have q':kd≠za8:=fun z=>q (by simp[z,za8])
    refine s2 vd ?_;rcases hvd with z | z | z
    ·exact .inl z
    ·exact absurd z q'
    ·exact .inr (.inr ⟨z,q'⟩)
  walk_at "ev";simp only[h101];walk_at "ev";refine⟨rfl,rfl,ite2 (fun q=>?_) fun q=>s1 m _ ml (.inr (.inr ⟨vw,rfl⟩))⟩;refine⟨c,12,5,rfl,by decide,by decide,by decide,fun u hu=>Q0o (by omega) (Q0Y (by rw[ht.l];exact hi) (Q0o (i:=3) (by omega) ⟨szL (by decide),?_⟩))⟩
  rw[show dn (tops.getD i [])=.tup ((tops.getD i []).map D.str) from rfl];walk_at "ev";refine⟨szL (by rw[Zb];(try simp only[Zi,Z8]);omega),szL (by decide),?_⟩
  rw[Q2o];refine⟨c,18,2,rfl,by decide,by decide,by decide,fun v hv=>Q0r (by omega) hv fun d hd=>?_⟩
  have hmm:=Zt hd;simp only[Zw,Z4,ZP]at hmm;rcases hmm with rfl | rfl
  ·exact s1 m _ ml (.inr (.inr ⟨_,rfl⟩))
  ·exact s1 _ _ (by rw[Zl,Yh];omega) (.inr (.inr ⟨_,rfl⟩))
 walk_at "ev";simp only[h101];walk_at "ev";refine⟨c,9,6,rfl,by decide,by decide,by decide,fun v hv=>⟨rfl,rfl,ite2 (fun _=>⟨szL (by decide),?_⟩) fun _=>go _ (by rw[Zl];omega)⟩⟩
 rw[show dn (tops.getD i []++a)=.tup ((tops.getD i []++a).map D.str) from rfl];walk_at "ev";refine⟨szL (by rw[Zb,Zl];(try simp only[Zi,Z8]);omega),?_⟩
 rw[Q2o];exact go _ (by rw[Zl,Zl,Yh];omega)
noncomputable def sp_ab:DSp:=fun ds M R=>∃ (ns:List Int) (k:Nat),ds=[.lst (ns.map D.int),.int k]/\R (.int (ns.getD k 0)) M
theorem RT5.frame{ad:Nat->Addr}{rw:Nat->List Rw}(h:RT5 M ad tops rw n)(e:∀ i<5,M' (ad i)=M (ad i)):RT5 M' ad tops rw n:=⟨fun i hi=>(e i hi).trans (h.l i hi),h.nd,h.pre,h.val,h.sz⟩
noncomputable def atD:Option W->D
 | some w=>.str w
 | none=>.non
theorem Q8J:∀ {zs:List D} {n:Nat} {P:W->Prop},zs.length=n->(∀ z∈zs,∃ w,P w/\z=.str w)->∃ hm:List W,zs=hm.map D.str/\hm.length=n/\∀ w∈hm,P w
 | [],_,_,hn,_=>⟨[],rfl,hn,fun _ h=>nomatch h⟩
 | z::r,n,P,hn,h=>by
  obtain⟨w,hw,rfl⟩:=h z Zv;obtain⟨hm,rfl,hl,hp⟩:=Q8J (n:=r.length) rfl fun y hy=>h y (Zk _ hy);refine⟨w::hm,rfl,by rw[Zi]at hn ⊢;omega,fun y hy=>?_⟩
  rcases Zw.mp hy with rfl | hy
  ·exact hw
  ·exact hp y hy
theorem five(f0:M p0=none)(f1:dupd M p0 (.lst []) p1=none)(f2:dupd (dupd M p0 (.lst [])) p1 (.lst []) p2=none)(f3:dupd (dupd (dupd M p0 (.lst [])) p1 (.lst [])) p2 (.lst []) p3=none)(f4:dupd (dupd (dupd (dupd M p0 (.lst [])) p1 (.lst [])) p2 (.lst [])) p3 (.lst []) p4=none) :
  ∃ (ad:Nat->Addr) (M1:DH),RT5 M1 ad tops (fun _=>[]) 0/\Sub M M1/\(∀ i<5,M (ad i)=none)/\dupd (dupd (dupd (dupd (dupd M p0 (.lst [])) p1 (.lst [])) p2 (.lst [])) p3 (.lst [])) p4 (.lst [])=M1/\D.lst [.ref p0,.ref p1,.ref p2,.ref p3,.ref p4]=zsD ad:=by
 have no:∀ {X:DH} {a b:Addr},dupd X a (.lst []) b=none->b≠a/\X b=none:=fun{X a b} h=>by
  by_cases e:b=a
  ·rw[e,Q0a]at h;cases h
  ·rw[Q0b e]at h;exact⟨e,h⟩
 obtain⟨n10,g1⟩:=no f1;obtain⟨n21,g2⟩:=no f2;obtain⟨n20,g2⟩:=no g2;obtain⟨n32,g3⟩:=no f3;obtain⟨n31,g3⟩:=no g3;obtain⟨n30,g3⟩:=no g3;obtain⟨n43,g4⟩:=no f4;obtain⟨n42,g4⟩:=no g4;obtain⟨n41,g4⟩:=no g4;obtain⟨n40,g4⟩:=no g4;have i5:∀ {P:Nat->Prop},P 0->P 1->P 2->P 3->P 4->∀ i<5,P i:=fun{P} a b c d e i hi=>by
  match i,hi with
  | 0,_=>exact a
  | 1,_=>exact b
  | 2,_=>exact c
  | 3,_=>exact d
  | 4,_=>exact e
 refine⟨fun i=>match i with | 0=>p0 | 1=>p1 | 2=>p2 | 3=>p3 | _=>p4,_,⟨?_,?_,(fun i _ x hx=>nomatch hx),fun i _=>List.Pairwise.nil,fun i _=>Zs _⟩,(Sub.new f0).trans ((Sub.new f1).trans ((Sub.new f2).trans ((Sub.new f3).trans (Sub.new f4)))),?_,rfl,rfl⟩
 ·refine i5 ?_ ?_ ?_ ?_ ?_
  ·show dupd _ p4 _ p0=_;rw[Q0b n40.symm,Q0b n30.symm,Q0b n20.symm,Q0b n10.symm,Q0a];rfl
  ·show dupd _ p4 _ p1=_;rw[Q0b n41.symm,Q0b n31.symm,Q0b n21.symm,Q0a];rfl
  ·show dupd _ p4 _ p2=_;rw[Q0b n42.symm,Q0b n32.symm,Q0a];rfl
  ·show dupd _ p4 _ p3=_;rw[Q0b n43.symm,Q0a];rfl
  ·show dupd _ p4 _ p4=_;rw[Q0a];rfl
 ·intro i j hi hj
  revert i
  refine i5 ?_ ?_ ?_ ?_ ?_ <;> revert j <;> refine i5 ?_ ?_ ?_ ?_ ?_ <;> intro e <;> first | rfl | exact absurd e (by assumption) | exact absurd e.symm (by assumption)
 ·exact i5 f0 g1 g2 g3 g4
noncomputable def sp_aS:DSp:=fun ds M R=>∃ (ns:List Int) (ws drs:List W),ds=[.lst (ns.map D.int),.lst (ws.map D.str),.lst (drs.map D.str)]/\ws.length=4/\(∀ w∈ws,Wd w)/\drs.length=4 /\
 ∀ M' (ad:Nat->Addr) (rw:Nat->List Rw) (ats:List (Option W)),Sub M M'->(∀ i<5,M (ad i)=none)->RT5 M' ad (za6 ws) rw 40->ats.length=5->(∀ o∈ats,∀ w,o=some w->w∈drs)->R (.tup [zsD ad,.lst (ats.map atD)]) M'
theorem ok_aS(T:Tab)(h109:T.fn 109=some ⟨"_law_more",6,[],sp_aw⟩)(h101:T.fn 101=some ⟨"_law_part",3,[],sp_a0⟩)(h108:T.fn 108=some ⟨"_law_handed",6,[],sp_aO⟩)(h100:T.fn 100=some ⟨"_law_cell_at",2,[],sp_ab⟩)(h105:T.fn 105=some ⟨"_law_tops",1,[],sp_aa⟩) :
  ∀ ds M R,sp_aS ds M R->evS T b_aS (za0 R) (za1 ["a","b","c","d","e","f","g","h","i"] ds) M:=by
 rintro ds M R ⟨ns,ws,drs,rfl,hwl,hw,hdl,h⟩;simp only[b_aS];refine Q0c fun k1 e1=>?_;walk_at "ev";simp only[h105];walk_at "ev";refine⟨ws,rfl,hwl,?_⟩;have ht:=Q4C hwl hw;rw[e1];clear e1;refine Q0c fun k1 e1=>?_;walk_at "ev";refine⟨ZX _,fun p0 f0=>⟨ZX _,fun p1 f1=>⟨ZX _,fun p2 f2=>⟨ZX _,fun p3 f3=>⟨ZX _,fun p4 f4=>⟨szL (by decide),?_⟩⟩⟩⟩⟩⟩
 obtain⟨ad,M1,rt0,s1,fr1,eM,ez⟩:∃ (ad:Nat->Addr) (M1:DH),RT5 M1 ad (za6 ws) (fun _=>[]) 0/\Sub M M1/\(∀ i<5,M (ad i)=none)/\dupd (dupd (dupd (dupd (dupd M p0 (.lst [])) p1 (.lst [])) p2 (.lst [])) p3 (.lst [])) p4 (.lst [])=M1/\D.lst [.ref p0,.ref p1,.ref p2,.ref p3,.ref p4]=zsD ad:=five f0 f1 f2 f3 f4;rw[eM,ez];clear eM ez f0 f1 f2 f3 f4;rw[e1];clear e1;refine Q0c fun k1 e1=>?_;walk_at "ev";refine⟨by decide,by decide,?_⟩
 refine Q1L (fun _ z=>∃ w∈drs,z=.str w) trivial (by decide) (fun d kk hd hkk=>?_) fun zs zl hz=>?_
 ·obtain⟨i,hi,rfl⟩:=ZH.mp hd;have hi5:i<5:=mem_range.mp hi;simp only[h100,h101];walk_at "ev";refine⟨ns,3,rfl,ns.getD 3 0,0+(i:Int),4,rfl,by omega,by omega,by decide,fun v hv=>Q0o (by omega) (hkk _ ⟨_,Q1A (by omega),rfl⟩)⟩
 obtain⟨hm,rfl,hml,hmd⟩:∃ hm:List W,zs=hm.map D.str/\hm.length=5/\∀ w∈hm,w∈drs:=Q8J zl fun z h=>by
  obtain⟨_,_,w,hw,e⟩:=hz z h;exact⟨w,hw,e⟩
 refine⟨szL (by rw[Zb,hml];decide),?_⟩
 clear hz zl;rw[e1];clear e1;refine Q0c fun k1 e1=>?_;walk_at "ev";refine Q0o (i:=0) (by omega) ⟨szL (by decide),fun la fla=>?_⟩
 have lad:∀ i<5,la≠ad i:=fun i hi z=>by rw[z,rt0.l i hi]at fla;cases fla
 have hlaM:M la=none:=s1.none fla;rw[e1];clear e1;refine Q0c fun k1 e1=>?_;walk_at "ev";refine⟨⟨by decide,by decide,by decide,by decide⟩,?_⟩
 have fr5:∀ {X X':DH},Fr5 ad X X'->X' la=X la:=fun f=>f la lad;have sb5:∀ {X X':DH},Sub M X->Fr5 ad X X'->Sub M X':=fun{X X'} s f b o e=>(f b fun i hi z=>by rw[z,fr1 i hi]at e;cases e).trans (s b o e)
 refine Q0L (fun i ρ M'=>∃ (rw:Nat->List Rw) (as_:List W) (v7:Option D),ρ=[some (.lst (ns.map D.int)),some (.lst (ws.map D.str)),some (.lst (drs.map D.str)),some (.lst ((za6 ws).map dn)),some (zsD ad),some (.lst (hm.map D.str)),some (.ref la),v7,none]/\RT5 M' ad (za6 ws) rw (4 * i)/\M' la=some (.lst (as_.map D.str))/\as_.length=i+1/\(∀ w∈as_,w∈drs)/\Sub M M')
  ⟨_,[drs.getD 0 []],none,rfl,rt0.frame fun i hi=>Q0b (lad i hi).symm,Q0a,rfl,fun w hw=>by rw[Zp.mp hw];exact Q1A (by omega),s1.put hlaM⟩ (fun _ _ _ _=>trivial) ?_ ?_
 ·clear e1;rintro i ρ M' k hi ⟨rw,as_,v7,rfl,rt,ma,al,ad_,sM⟩ hk;have hi4:i<4:=hi;walk_at "ev";simp only[h100,h108,ma];walk_at "ev";have ei:(1:Int)+(i:Int)=((i+1:Nat):Int):=by omega
  have ej:(3:Int)+(1+(i:Int))=((4+i:Nat):Int):=by omega
  refine⟨ns,4+i,by rw[ej],ad,za6 ws,ws,hm,rw,4 * i,i+1,ns.getD (4+i) 0,by rw[ei],ht,hwl,hw,hml,by omega,rt,by omega,fun M2 rw2 o ho rt2 f2=>?_⟩
  have ma2:M2 la=some (.lst (as_.map D.str)):=(fr5 f2).trans ma;simp only[ma2];refine⟨small1000 (by rw[Zb];omega),hk _ _ ⟨rw2,as_++[o],_,rfl,(rt2.frame fun i hi=>Q0b (lad i hi).symm).le (by omega),by rw[Q0a,ZC];rfl,by rw[Zl,al];rfl,fun w hw=>?_,(sb5 sM f2).put hlaM⟩⟩
  rcases Z0.mp hw with hw | hw
  ·exact ad_ w hw
  ·rw[Zp.mp hw];exact hmd o ho
 rintro ρ M2 ⟨rw,as_,v7,rfl,rt,ma,al,had,sM⟩;have rt:RT5 M2 ad (za6 ws) rw 16:=rt;have al:as_.length=5:=al;rw[e1];clear e1;refine Q0c fun k1 e1=>?_;walk_at "ev";have ec:cut (ns.map D.int) (some 9) (some 25)=((ns.drop 9).take 16).map D.int:=by
  rw[map_take,map_drop];exact Q6v _ 9 25
 have c16:((ns.drop 9).take 16).length<=16:=by rw[ZA];omega
 rw[ec];generalize (ns.drop 9).take 16=cs at ec c16;intro p hp;simp only[Q0a];have pad:∀ i<5,p≠ad i:=fun i hi z=>by rw[z,rt.l i hi]at hp;cases hp
 have pla:p≠la:=fun z=>by rw[z,ma]at hp;cases hp
 have hpM:M p=none:=sM.none hp;refine Q0U (fun i ρ M'=>∃ (rw:Nat->List Rw) (v8:Option D),ρ=[some (.lst (ns.map D.int)),some (.lst (ws.map D.str)),some (.lst (drs.map D.str)),some (.lst ((za6 ws).map dn)),some (zsD ad),some (.lst (hm.map D.str)),some (.ref la),v7,v8]/\RT5 M' ad (za6 ws) rw (16+i)/\M' la=some (.lst (as_.map D.str))/\M' p=some (.lst (cs.map D.int))/\Sub M M')
  ⟨rw,none,rfl,rt.frame fun i hi=>Q0b (pad i hi).symm,by rw[Q0b pla.symm];exact ma,Q0a,sM.put hpM⟩ (fun i ρ M' h=>by obtain⟨_,_,_,_,_,e,_⟩:=h;exact e) ?_ ?_
 ·clear e1;rintro i d ρ M' k hi ⟨rw,v8,rfl,rt,ma,mp,sM⟩ hk;have hil:=(Zj.mp hi).1;rw[Zb]at hil;obtain⟨c,_,rfl⟩:=ZH.mp (Zt hi);walk_at "ev";simp only[h101,h109];walk_at "ev";refine⟨c,4,5,rfl,by decide,by decide,by decide,fun v hv=>⟨ad,za6 ws,ws,hm,rw,16+i,v,c,rfl,ht,hwl,hw,hml,by omega,rt,by omega,fun M3 rw3 rt3 f3=>hk _ _ ⟨rw3,_,rfl,rt3,(fr5 f3).trans ma,(f3 p pad).trans mp,sb5 sM f3⟩⟩⟩
 rintro ρ M3 ⟨rw,v8,rfl,rt,ma,mp,sM⟩;rw[Zb]at rt;have rt:=rt.le (m:=40) (by omega)
 clear mp;rw[e1];clear e1;refine Q0c fun k1 e1=>?_;walk_at "ev";refine⟨by decide,by decide,?_⟩
 refine Q0L (fun i ρ M'=>∃ (ats:List (Option W)) (v7:Option D),ρ=[some (.lst (ns.map D.int)),some (.lst (ws.map D.str)),some (.lst (drs.map D.str)),some (.lst ((za6 ws).map dn)),some (zsD ad),some (.lst (hm.map D.str)),some (.ref la),v7,v8]/\RT5 M' ad (za6 ws) rw 40/\M' la=some (.lst (ats.map atD))/\ats.length=5/\(∀ o∈ats,∀ w,o=some w->w∈drs)/\Sub M M')
  ⟨as_.map some,_,rfl,rt,by rw[ma,ZT];rfl,by rw[Zb,al],(fun o ho w e=>by obtain⟨x,hx,e2⟩:=ZH.mp ho;rw[e]at e2;rw[<- ZB e2];exact had x hx),sM⟩ (fun _ _ _ _=>trivial) ?_ ?_
 ·clear e1;rintro i ρ M' k hi ⟨ats,v7',rfl,rt,ma,al,had,sM⟩ hk;have hi5:i<5:=hi;walk_at "ev";simp only[h100,h101];walk_at "ev";refine⟨ns,8,rfl,ns.getD 8 0,0+(i:Int),12,rfl,by omega,by omega,by decide,fun v hv=>⟨rfl,rfl,ite2 (fun _=>?_) fun _=>hk _ _ ⟨ats,_,rfl,rt,ma,al,had,sM⟩⟩⟩
  refine⟨la,_,i,rfl,by rw[Int.zero_add],ma,by rw[Zb,al];exact hi5,hk _ _ ⟨ats.set i none,_,rfl,rt.frame fun j hj=>Q0b (lad j hj).symm,?_,by rw[List.length_set,al],fun o ho w e=>?_,sM.put hlaM⟩⟩
  ·rw[Q0a,List.map_set];rfl
  ·rcases List.mem_or_eq_of_mem_set ho with y | y
   ·exact had o y w e
   ·rw[y]at e;cases e
 ·rintro ρ M4 ⟨ats,v7',rfl,rt,ma,al,had,sM⟩;rw[e1];clear e1;walk_at "ev";simp only[dFrz];walk_at "ev";simp only[ma];refine⟨szL (by decide),ddel M4 la,Sub.refl _,h _ ad rw ats (fun b o e=>?_) fr1 (rt.frame fun i hi=>?_) al had⟩
  ·unfold ddel;rw[Zc (dne e hlaM)];exact sM b o e
  ·unfold ddel;rw[Zc (lad i hi).symm]
noncomputable def b_a7:CS :=
  (.seq (.ret (.tup (.cons (.ix (.var 0) (.var 3)) (.cons (.ix (.var 2) (.var 3)) (.cons (.frz (.blt .list (.cons (.ix (.var 1) (.var 3)) .nil))) .nil)))))
  .nil)
noncomputable def b_aK:CS :=
  (.seq (.set 1 (.bin .add (.con (.int 1)) (.call 101 (.cons (.var 0) (.cons (.con (.int 30)) (.cons (.con (.int 8)) .nil))))))
  (.seq (.set 2 (.call 101 (.cons (.var 0) (.cons (.con (.int 31)) (.cons (.var 1) .nil)))))
  (.seq (.set 3 (.lst .nil))
  (.seq (.for1 4 (.rng1 (.con (.int 4)))
  (.seq (.ex (.ml .append (.var 3) (.cons (.bin .add (.bin .add (.bin .mulS (.con (.str [35])) (.var 2)) (.ix (.con (.str [48,49,50,51,52,53,54,55,56,57])) (.bin .mod (.bin .add (.call 101 (.cons (.var 0) (.cons (.con (.int 32)) (.cons (.con (.int 10)) .nil)))) (.var 4)) (.con (.int 10))))) (.bin .mulS (.con (.str [35])) (.bin .sub (.bin .sub (.var 1) (.con (.int 1))) (.var 2)))) .nil)))
  .nil))
  (.seq (.ret (.frz (.var 3)))
  .nil)))))
theorem Q1e{M:DH}{q:Addr}{o:MO}(h:M q=none):ddel (dupd M q o) q=M:=by
 funext b
 unfold ddel dupd;by_cases e:b=q
 ·rw[Zg e,e,h]
 ·rw[Zc e,Zc e]
noncomputable def sp_aK:DSp:=fun ds M R=>∃ c:Int,ds=[.int c]/\∀ drs:List W,drs.length=4->(∀ w∈drs,w.length<=20/\∀ c∈w,c<=57)->R (.lst (drs.map D.str)) M
theorem ok_aK(T:Tab)(h101:T.fn 101=some ⟨"_law_part",3,[],sp_a0⟩):∀ ds M R,sp_aK ds M R->evS T b_aK (za0 R) (za1 ["a","b","c","d","e"] ds) M:=by
 rintro ds M R ⟨c,rfl,h⟩;simp only[b_aK];refine Q0c fun k1 e1=>?_;walk_at "ev";simp only[h101];walk_at "ev";refine⟨c,30,8,rfl,by decide,by decide,by decide,fun v hv=>?_⟩
 have es:(1:Int)+(v:Int)=((v+1:Nat):Int):=by omega
 walk_at "ev";rw[es,e1];clear e1;refine Q0c fun k1 e1=>?_;walk_at "ev";simp only[h101];walk_at "ev";refine⟨c,31,_,rfl,by decide,by decide,by omega,fun u hu=>?_⟩
 rw[e1];clear e1;refine Q0c fun k1 e1=>?_;walk_at "ev";refine⟨ZX _,fun p hp=>?_⟩;rw[e1];clear e1;refine Q0c fun k1 e1=>?_;walk_at "ev";refine⟨by decide,by decide,?_⟩
 refine Q0L (fun i ρ M'=>∃ (drs:List W) (v4:Option D),M'=dupd M p (.lst (drs.map D.str))/\ρ=[some (.int c),some (.int ((v+1:Nat):Int)),some (.int (u:Int)),some (.ref p),v4]/\drs.length=i/\∀ w∈drs,w.length<=20/\∀ c∈w,c<=57) ⟨[],none,rfl,rfl,rfl,fun w h=>nomatch h⟩ (fun _ _ _ _=>trivial) ?_ ?_
 ·clear e1;rintro i ρ M' k hi ⟨drs,v4,rfl,rfl,dl,dw⟩ hk;have hi4:i<4:=hi;walk_at "ev";simp only[h101,Q0a];walk_at "ev";have fl:∀ n:Nat,(List.replicate n ([35]:W)).flatten.length=n:=fun n=>by simp
  refine⟨by omega,by omega,by decide,c,32,10,rfl,by decide,by decide,by decide,fun x hx=>⟨by decide,ix_str (by omega) (by show _<(10:Int);omega) (by decide) fun y hy=>?_⟩⟩
  have y57:y<=57:=by
   have hm:=Zt hy;simp only[Zw,Z4,ZP]at hm;omega
  walk_at "ev";simp only[Q0a];refine⟨szL (by rw[fl];(try simp only[Zi,Z8]);omega),by omega,by omega,by decide,szL (by rw[Zl,fl,fl];(try simp only[Zi,Z8]);omega),small1000 (by rw[Zb];omega),?_⟩
  rw[Q1k];refine hk _ _ ⟨drs++[(List.replicate (u:Int).toNat [35]).flatten++[y]++(List.replicate (((v+1:Nat):Int)-1-(u:Int)).toNat [35]).flatten],_,by rw[ZC];rfl,rfl,by rw[Zl,dl];rfl,fun w hw=>?_⟩
  rcases Z0.mp hw with hw | hw
  ·exact dw w hw
  ·rw[Zp.mp hw];have f5:∀ (n:Nat) (c:Nat),c∈(List.replicate n ([35]:W)).flatten->c<=57:=fun n c hc=>by
    obtain⟨l,hl,hc⟩:=List.mem_flatten.mp hc;rw[(List.mem_replicate.mp hl).2]at hc;rw[Zp.mp hc];decide
   refine⟨?_,fun c hc=>?_⟩
   ·rw[Zl,Zl,fl,fl];simp only[Zi,Z8];omega
   ·rcases Z0.mp hc with hc | hc
    ·rcases Z0.mp hc with hc | hc
     ·exact f5 _ c hc
     ·rw[Zp.mp hc];exact y57
    ·exact f5 _ c hc
 ·rintro ρ M' ⟨drs,v4,rfl,rfl,dl,dw⟩;rw[e1];clear e1;walk_at "ev";simp only[dFrz];walk_at "ev";simp only[Q0a,Q1e hp];exact Q0f (h drs dl dw)
noncomputable def zn5(o:W)(ws:List W)(lv:List Int)(rw:Nat->List Rw)(i:Nat):Zn:=⟨o,(za6 ws).getD i [],lv.getD i 0,rw i⟩
theorem QbL{M:DH}{ad:Nat->Addr}{ws:List W}{rw:Nat->List Rw}(rt:RT5 M ad (za6 ws) rw 40)(ht:T5 (za6 ws))(o:W)(lv:List Int){i:Nat}(hi:i<5):ZnOk (zn5 o ws lv rw i):=by
 have ti:=ht.at_ hi;refine⟨fun x hx=>?_,Z3 ti.1 (by decide),ZG (rt.sz i hi) (by decide),fun x hx=>?_,ti.2⟩
 ·obtain⟨⟨p1,p2⟩,p3⟩:=rt.pre i hi x hx;refine⟨⟨Z3 p1 (by decide),p3⟩,?_⟩
  rcases p2 with ⟨q,b,e,_⟩ | q
  ·exact .inl ⟨q,b,e⟩
  ·exact .inr q
 ·obtain⟨⟨p1,p2⟩,p3⟩:=rt.pre i hi x hx;rcases p2 with ⟨q,b,e,bl,_⟩ | ⟨q,w,e⟩
  ·rw[e];show (b.map D.str).length<=20;rw[Zb];omega
  ·rw[e];exact ZX _
noncomputable def sp_a7:DSp:=fun ds M R=>∃ (ad:Nat->Addr) (ws:List W) (lv:List Int) (rw:Nat->List Rw) (i:Nat) (o:W),ds=[.lst ((za6 ws).map dn),zsD ad,.lst (lv.map D.int),.int (i:Int)]/\RT5 M ad (za6 ws) rw 40/\T5 (za6 ws)/\lv.length=5/\i<5/\R (zn5 o ws lv rw i).v M
theorem ok_a7{T:Tab}:∀ ds M R,sp_a7 ds M R->evS T b_a7 (za0 R) (za1 ["a","b","c","d"] ds) M:=by
 rintro ds M R ⟨ad,ws,lv,rw,i,o,rfl,rt,ht,hl,hi,h⟩;simp only[b_a7];walk_at "ev";refine Q0Y (by rw[ht.l];exact hi) (Q0r (by omega) (by rw[Zb,hl];omega) fun d hd=>?_)
 rw[Z7,Zq,Zf (by omega)]at hd
 cases hd;simp only[dFrz];walk_at "ev";refine ix_zs hi ?_;simp only[rt.l i hi];intro p hp;simp only[Q0a,Q1e hp];refine⟨szL (by decide),Q0f ?_⟩
 have e:(zn5 o ws lv rw i).v=.tup [dn ((za6 ws).getD i []),.int lv[i],.lst ((rw i).map Rw.d)]:=by
  show D.tup [dn ((za6 ws).getD i []),.int (lv.getD i 0),.lst ((rw i).map Rw.d)]=_;have e9:lv.getD i 0=lv[i]:=by
   rw[Zz,Zf (by omega)]
   rfl
  rw[e9]
 rw[<- e];exact h
noncomputable def b_aI:CS :=
  (.seq (.for1 2 (.rng2 (.bin .add (.blt .len (.cons (.ix (.var 0) (.con (.int 0))) .nil)) (.con (.int 1))) (.bin .add (.blt .len (.cons (.var 1) .nil)) (.con (.int 1))))
  (.seq (.for1 3 (.ix (.var 0) (.con (.int 2)))
  (.seq (.ite (.and (.cmp .eq (.ix (.var 3) (.con (.int 2))) (.con (.str [100,111,119,110]))) (.cmp .eq (.ix (.var 3) (.con (.int 0))) (.sl (.var 1) .nil (.var 2))))
  (.seq (.ret (.var 3))
  .nil)
  .nil)
  .nil))
  .nil))
  (.seq (.ret (.con .non))
  .nil))
noncomputable def b_ag:CS :=
  (.seq (.ret (.or (.cmp .eq (.var 1) (.ix (.var 0) (.con (.int 0)))) (.cmp .inB (.con (.bl true)) (.compz false [1] (.ix (.var 0) (.con (.int 2))) .nil (.cmp .eq (.sl (.ix (.var 0) (.con (.int 0))) .nil (.blt .len (.cons (.var 1) .nil))) (.var 1))))))
  .nil)
noncomputable def b_aq:CS :=
  (.seq (.set 2 (.lstz .nil))
  (.seq (.ite (.cmp .eq (.sl (.ix (.var 1) (.con (.int 3))) .nil (.blt .len (.cons (.ix (.var 1) (.con (.int 0))) .nil))) (.ix (.var 1) (.con (.int 0))))
  (.seq (.set 2 (.compz false [1] (.ix (.var 0) (.con (.int 2))) (.and (.cmp .eq (.ix (.var 0) (.con (.int 0))) (.ix (.var 1) (.con (.int 3)))) (.cmp .eq (.ix (.var 0) (.con (.int 2))) (.con (.str [100,111,111,114])))) (.var 0)))
  .nil)
  .nil)
  (.seq (.set 3 (.blt .min1 (.cons (.frz (.bin .addL (.lstz (.cons (.ix (.var 1) (.con (.int 1))) .nil)) (.compz false [] (.var 2) .nil (.ix (.var 0) (.con (.int 1)))))) .nil)))
  (.seq (.ret (.tup (.cons (.con (.str [100,111,119,110])) (.cons (.ix (.var 1) (.con (.int 0))) (.cons (.ix (.var 1) (.con (.int 3))) (.cons (.frz (.blt .sorted (.cons (.compz false [] (.var 2) .nil (.ix (.var 0) (.con (.int 3)))) .nil))) (.cons (.var 3) .nil)))))))
  .nil))))
noncomputable def b_av:CS :=
  (.seq (.set 3 (.call 115 (.cons (.var 0) (.cons (.var 1) .nil))))
  (.seq (.ite (.cmp .notN (.var 3) (.con .non))
  (.seq (.ret (.call 117 (.cons (.var 0) (.cons (.var 3) .nil))))
  .nil)
  .nil)
  (.seq (.set 4 (.blt .len (.cons (.var 1) .nil)))
  (.seq (.whil (.not (.call 116 (.cons (.var 0) (.cons (.sl (.var 1) .nil (.var 4)) .nil))))
  (.seq (.set 4 (.bin .sub (.var 4) (.con (.int 1))))
  .nil))
  (.seq (.set 5 (.var 1))
  (.seq (.ite (.cmp .lt (.var 4) (.blt .len (.cons (.var 1) .nil)))
  (.seq (.set 5 (.bin .add (.sl (.var 1) .nil (.var 4)) (.tup (.cons (.con (.str [42])) .nil))))
  .nil)
  .nil)
  (.seq (.set 6 (.compz false [5] (.ix (.var 0) (.con (.int 2))) (.cmp .eq (.ix (.var 0) (.con (.int 0))) (.var 1)) (.var 0)))
  (.seq (.ite (.and (.cmp .eq (.var 6) (.lstz .nil)) (.cmp .ne (.var 5) (.var 1)))
  (.seq (.ret (.tup (.cons (.con (.str [110,111,110,101])) (.cons (.ix (.var 0) (.con (.int 1))) .nil))))
  .nil)
  .nil)
  (.seq (.ite (.and (.cmp .ne (.var 6) (.lstz .nil)) (.cmp .eq (.ix (.ix (.var 6) (.con (.int 0))) (.con (.int 2))) (.con (.str [101,108,115,101]))))
  (.seq (.ret (.tup (.cons (.con (.str [101,108,115,101])) (.cons (.ix (.ix (.var 6) (.con (.int 0))) (.con (.int 3))) (.cons (.ix (.ix (.var 6) (.con (.int 0))) (.con (.int 1))) .nil)))))
  .nil)
  .nil)
  (.seq (.set 7 (.compz false [2] (.var 6) (.cmp .eq (.ix (.var 0) (.con (.int 2))) (.var 1)) (.var 0)))
  (.seq (.ite (.cmp .eq (.var 7) (.lstz .nil))
  (.seq (.ret (.tup (.cons (.con (.str [101,109,112,116,121])) (.cons (.ix (.var 0) (.con (.int 1))) .nil))))
  .nil)
  .nil)
  (.seq (.ret (.tup (.cons (.con (.str [114,111,119,115])) (.cons (.frz (.blt .sorted (.cons (.compz false [] (.var 7) .nil (.ix (.var 0) (.con (.int 3)))) .nil))) (.cons (.blt .min1 (.cons (.compz false [] (.var 7) .nil (.ix (.var 0) (.con (.int 1)))) .nil)) .nil)))))
  .nil))))))))))))
noncomputable def b_aQ:CS :=
  (.seq (.for1 5 (.kget2 (.var 0) (.var 1) (.lstz .nil))
  (.seq (.ite (.cmp .eq (.ix (.var 5) (.con (.int 0))) (.var 2))
  (.seq (.ret (.call 118 (.cons (.var 5) (.cons (.var 3) (.cons (.var 4) .nil)))))
  .nil)
  .nil)
  .nil))
  (.seq (.ret (.tup (.cons (.con (.str [97,119,97,121])) .nil)))
  .nil))
noncomputable def zbj(top:List W)(rows:List Rw)(m:List W):Bool:=decide (m=top)||rows.any fun x=>decide (x.n.take m.length=m)
theorem Q3H(ht:m.take top.length=top):zbj top rows m=true <-> Std top rows m:=by
 unfold zbj Std;rw[or_eq_true,Ze,any_eq_true];have hl:top.length<=m.length:=by rw[<- ht,ZA];omega
 constructor
 ·rintro (h | ⟨x,hx,h⟩)
  ·exact .inl h
  ·by_cases e:m=top
   ·exact .inl e
   ·refine .inr ⟨?_,x,hx,ZL h⟩;rcases lt_or_ge top.length m.length with z | z
    ·exact z
    ·rw[take_of_length_le z]at ht;exact absurd ht e
 ·rintro (h | ⟨_,x,hx,h⟩)
  ·exact .inl h
  ·exact .inr ⟨x,hx,Zo h⟩
theorem Q6F(ht:n.take top.length=top)(hj:j<=n.length)(h1:Std top rows (n.take j))(h2:∀ i,j<i->i<=n.length->¬ Std top rows (n.take i)):zao top rows n=j:=by
 obtain⟨a1,a2,a3,a4⟩:=Q2n top rows n ht;rcases Nat.lt_trichotomy (zao top rows n) j with z | z | z
 ·exact absurd h1 (a4 j z hj)
 ·exact z
 ·exact absurd a3 (h2 _ z a1)
theorem Q6G(hv:Valid rows)(hx:x∈rows)(hy:y∈rows)(h1:x.k=zad)(h2:y.k=zad)(hn:x.n=y.n):x=y:=by
 apply Classical.byContradiction;intro hne;obtain⟨i,hi⟩:=mem_iff_getElem?.mp hx;obtain⟨j,hj⟩:=mem_iff_getElem?.mp hy;obtain⟨i1,i2⟩:=Zj.mp hi;obtain⟨j1,j2⟩:=Zj.mp hj;rcases Nat.lt_trichotomy i j with z | z | z
 ·have:=List.pairwise_iff_getElem.mp hv i j i1 j1 z;rw[i2,j2]at this;exact (this hn).2 ⟨h1,h2⟩
 ·subst z;rw[i2]at j2;exact hne j2
 ·have:=List.pairwise_iff_getElem.mp hv j i j1 i1 z;rw[i2,j2]at this;exact (this hn.symm).2 ⟨h2,h1⟩
theorem Q3Z(hv:Valid rows):zae rows c=some x <-> x∈rows/\x.k=zad/\x.n=c:=by
 refine⟨Q0F,fun⟨h1,h2,h3⟩=>?_⟩;cases e:zae rows c with
 | none =>
  unfold zae at e;rw[List.getLast?_eq_none_iff,List.filter_eq_nil_iff]at e;exact absurd (Zo ⟨h2,h3⟩) (e x h1)
 | some y =>
  obtain⟨g1,g2,g3⟩:=Q0F e;rw[Q6G hv g1 h1 g2 h2 (g3.trans h3.symm)]
theorem Valid.alone(h:Valid rows):rows.Pairwise fun a b=>a.n=b.n->a.k≠za8/\b.k≠za8:=List.Pairwise.imp (fun{a b} q e=>(q e).1) h
noncomputable def byK(xs:List Rw)(k:W)(life:Int):D:=match za3 xs k with
 | x::r=>.tup [.str zbm,zaN (x::r),zbO (x::r)]
 | []=>.tup [.str kEmpty,.int life]
noncomputable def sp_ag:DSp:=fun ds M R=>∃ (top m:List W) (life:Int) (rows:List Rw),ds=[zD top life rows,dn m]/\rows.length<=900/\R (.bl (zbj top rows m)) M
theorem ok_ag:∀ ds M R,sp_ag ds M R->evS T b_ag (za0 R) (za1 ["a","b"] ds) M:=by
 rintro ds M R ⟨top,m,life,rows,rfl,hl,h⟩;simp only[b_ag,zD,dn];walk_at "ev";walk_at "q0";simp only[Q0O];refine⟨Q0e _,Q0e _,?_⟩;unfold zbj at h;by_cases e:m=top
 ·rw[Zo e,Bool.true_or]at h;simp only[Zo e];exact Q0f h
 ·rw[Z5 e,Bool.false_or]at h;simp only[Z5 e];refine iteF ?_;walk_at "q0";refine Q0C (fun d=>match d with | .tup [.tup n,_,_,_]=>.bl (eqB (.tup (n.take m.length)) (.tup (m.map D.str))) | d=>d) trivial (by rw[Zb];omega) ?_ ?_
  ·intro d k hd hk;obtain⟨x,_,rfl⟩:=ZH.mp hd;simp only[Rw.d,dn]at hk ⊢;walk_at "ev";walk_at "q1"
   try walk_at "ev"
   rw[Zb,Q1R];refine⟨?_,Q0e _,hk⟩;rw[<- map_take];exact Q0e _
  ·have e2:(rows.map Rw.d).map (fun d=>match d with | .tup [.tup n,_,_,_]=>.bl (eqB (.tup (n.take m.length)) (.tup (m.map D.str))) | d=>d)=(rows.map fun x=>decide (x.n.take m.length=m)).map D.bl:=by
    rw[ZT,ZT];refine Yj fun x _=>?_;show D.bl (eqB (.tup ((x.n.map D.str).take m.length)) (.tup (m.map D.str)))=_;rw[<- map_take,Q0O];rfl
   rw[e2];refine⟨szL (by rw[Zb,Zb];omega),true,rows.map fun x=>decide (x.n.take m.length=m),rfl,rfl,Q0f ?_⟩
   rw[any_map];have e3:((fun c:Bool=>c==true) ∘ fun x:Rw=>decide (x.n.take m.length=m))=fun x=>decide (x.n.take m.length=m):=by
    funext x
    simp[Function.comp]
   rw[e3];exact h
noncomputable def sp_aI:DSp:=fun ds M R=>∃ (top n:List W) (life:Int) (rows:List Rw),ds=[zD top life rows,dn n]/\rows.length<=900/\n.length<=100/\top.length<=100/\Valid rows /\
 (cutN top rows n=none->R .non M)/\(∀ c x,cutN top rows n=some c->zae rows c=some x->R x.d M)
theorem ok_aI:∀ ds M R,sp_aI ds M R->evS T b_aI (za0 R) (za1 ["a","b","c","d"] ds) M:=by
 rintro ds M R ⟨top,n,life,rows,rfl,hl,hn,ht,hv,h1,h2⟩;simp only[b_aI];refine Q0c fun k1 e1=>?_;simp only[zD,dn];walk_at "ev";walk_at "q0";walk_at "ev";rw[Zb,Zb];refine⟨⟨by omega,by omega,by omega,by omega⟩,?_⟩
 have en:(((n.length:Int)+1)-((top.length:Int)+1)).toNat=n.length-top.length:=by omega
 rw[en];generalize hL:((List.range (n.length+1)).drop (top.length+1)).map (fun k=>n.take k)=L;have hLl:L.length=n.length-top.length:=by rw[<- hL,Zb,length_drop,length_range];omega
 have hLi:∀ i:Nat,i<n.length-top.length->L[i]? = some (n.take (top.length+1+i)):=by
  intro i hi;rw[<- hL,Zq,getElem?_drop,getElem?_range (by omega)]
  rfl
 refine Q0L (fun i ρ M'=>M'=M/\(∃ v v',ρ=[some (zD top life rows),some (dn n),v,v'])/\∀ (j:Nat) (y:List W),j<i->L[j]? = some y->(zaJ rows y).isSome=false) ⟨rfl,⟨none,none,rfl⟩,fun j y hj=>absurd hj (not_lt_zero j)⟩ (fun _ _ _ _=>trivial) ?_ ?_
 ·rintro i ρ M' k hi ⟨rfl,⟨v,v',rfl⟩,hb⟩ hk;have ei:((top.length:Int)+1)+(i:Int)=((top.length+1+i:Nat):Int):=by omega
  rw[ei];simp only[zD,dn];walk_at "ev";walk_at "q0";refine Q0U (fun i2 ρ M''=>M''=M'/\(∃ v',ρ=[some (zD top life rows),some (dn n),some (.int (top.length+1+i:Nat)),v'])/\∀ (j:Nat) (y:Rw),j<i2->rows[j]? = some y->¬ (y.k=zad/\y.n=n.take (top.length+1+i))) ⟨rfl,⟨v',rfl⟩,fun j y hj=>absurd hj (not_lt_zero j)⟩ (fun _ _ _ _=>trivial) ?_ ?_
  ·rintro i2 d0 ρ M'' kk hi2 ⟨rfl,⟨v',rfl⟩,hb2⟩ hkk;rw[Zq]at hi2;cases ex:rows[i2]? with
   | none=>rw[ex]at hi2;cases hi2
   | some x =>
    rw[ex]at hi2;cases hi2;have next:¬ (x.k=zad/\x.n=n.take (top.length+1+i))->kk [some (zD top life rows),some (dn n),some (.int (top.length+1+i:Nat)),some x.d] M'':=fun q=>hkk _ _ ⟨rfl,⟨_,rfl⟩,fun j z hj hz=>by
     by_cases hji:j=i2
     ·subst hji;rw[ex]at hz;cases hz;exact q
     ·exact hb2 j z (by omega) hz⟩
    simp only[Rw.d,zD,dn]at next ⊢;walk_at "ev";walk_at "q1"
    try walk_at "ev"
    refine⟨rfl,rfl,ite2 (fun q=>?_) fun q=>next fun z=>q (Zo z.1)⟩;rw[Ze]at q;walk_at "q1"
    try walk_at "ev"
    rw[Q1R,<- map_take];simp only[Q0O];refine⟨Q0e _,Q0e _,ite2 (fun q2=>?_) fun q2=>next fun z=>q2 (Zo z.2)⟩;rw[Ze]at q2;have dr:zae rows (n.take (top.length+1+i))=some x:=(Q3Z hv).mpr ⟨Zt ex,q,q2⟩;have ec:cutN top rows n=some (n.take (top.length+1+i)):=by
     unfold cutN;rw[hL];obtain⟨g1,g2⟩:=Zj.mp (hLi i hi);exact List.find?_eq_some_iff_getElem.mpr ⟨by rw[Q0P,dr];rfl,i,g1,g2,fun j hj=>by rw[hb j _ hj (Zf _)];rfl⟩
    have:=h2 _ x ec dr;simp only[Rw.d,dn]at this;exact Q0f this
  ·rintro ρ M'' ⟨rfl,⟨v',rfl⟩,hb2⟩;refine hk _ _ ⟨rfl,⟨_,_,rfl⟩,fun j y hj hy=>?_⟩;by_cases hji:j=i
   ·subst hji;rw[hLi j hi]at hy;cases hy;rw[Q0P,Option.isSome_map];cases ed:zae rows (n.take (top.length+1+j)) with
    | none=>rfl
    | some x =>
     obtain⟨g1,g2,g3⟩:=Q0F ed;obtain⟨q,hq⟩:=mem_iff_getElem?.mp g1;exact absurd ⟨g2,g3⟩ (hb2 q x (by rw[Zb];exact (Zj.mp hq).1) hq)
   ·exact hb j y (by omega) hy
 ·rintro ρ M' ⟨rfl,⟨v,v',rfl⟩,hb⟩;rw[e1];clear e1;walk_at "ev";refine Q0f (h1 ?_);unfold cutN;rw[hL];refine find?_eq_none.mpr fun y hy=>?_;obtain⟨j,hj⟩:=mem_iff_getElem?.mp hy;rw[hb j y (by rw[<- hLl];exact (Zj.mp hj).1) hj]
  simp
noncomputable def Alone(rows:List Rw):Prop:=rows.Pairwise fun a b=>a.n=b.n->a.k≠za8/\b.k≠za8
noncomputable def byD(xs:List Rw)(k:W)(life:Int):D:=match xs with
 | x::r=>if x.k=za8 then .tup [.str za8,x.v,.int x.l] else byK (x::r) k life
 | []=>byK [] k life
theorem by_eq(ha:Alone rows)(pl:List W)(k:W)(life:Int):zaz rows pl k life=byD (atN rows pl) k life:=by
 have hp:(atN rows pl).Pairwise fun a b=>a.k≠za8/\b.k≠za8:=by
  have:=List.Pairwise.filter (fun x:Rw=>decide (x.n=pl)) ha;refine List.Pairwise.imp_of_mem (fun{a b} h1 h2 h3=>h3 ?_) this;rw[(Q1d h1).2,(Q1d h2).2]
 unfold zaz byD;cases e:atN rows pl with
 | nil=>rfl
 | cons x r =>
  rw[e]at hp;by_cases hx:x.k=za8
  ·have e1:za3 (x::r) za8=x::za3 r za8:=by unfold za3;rw[ZF,Zg (Zo hx)]
   simp only[e1,Zg hx]
  ·have e1:za3 (x::r) za8=[]:=by
    unfold za3;rw[List.filter_eq_nil_iff];intro y hy;rw[Ze];rcases Zw.mp hy with rfl | hy
    ·exact hx
    ·exact ((List.pairwise_cons.mp hp).1 y hy).2
   simp only[e1,Zc hx];rfl
noncomputable def sp_aq:DSp:=fun ds M R=>∃ (rows:List Rw) (x:Rw) (top:List W) (life:Int),ds=[zD top life rows,x.d]/\Good top rows/\x∈rows/\x.k=zad/\R (zaD rows x) M
theorem ok_aq:∀ ds M R,sp_aq ds M R->evS T b_aq (za0 R) (za1 ["a","b","c","d"] ds) M:=by
 rintro ds M R ⟨rows,x,top,life,rfl,hg,hx,hxk,h⟩;have rl:=hg.1;obtain⟨hs,hv⟩:∃ b:List W,x.v=dn b:=by
  rcases (hg.2 x hx).pv with ⟨_,a⟩ | ⟨a,_⟩
  ·exact a
  ·exact absurd (.inl hxk) a
 unfold zaD at h;rw[hv,Q2m]at h;simp only[b_aq,Rw.d];rw[hv];refine Q0c fun k1 e1=>?_;walk_at "ev";refine⟨szL (by decide),?_⟩
 rw[e1];clear e1;refine Q0c fun k1 e1=>?_;have rest:∀ zs:List Rw,zs=zaC rows x.n hs->zs.length<60->(∀ y∈zs,∃ w,y.v=.str w)->k1 [some (zD top life rows),some (.tup [dn x.n,.int x.l,.str x.k,dn hs]),some (.lst (zs.map Rw.d)),none] M:=by
  intro zs hzs kl str;rw[<- hzs]at h;rw[e1];clear e1;refine Q0c fun k1 e1=>?_;walk_at "ev";simp only[dFrz];walk_at "ev";walk_at "q1";refine⟨szL (by show 1<=1000;decide),?_⟩
  refine Q0C (fun d=>match d with | .tup [_,l,_,_]=>l | d=>d) trivial (by rw[Zb];omega) ?_ ?_
  ·intro d kk hd hkk;obtain⟨x,_,rfl⟩:=ZH.mp hd;simp only[Rw.d]at hkk ⊢;walk_at "ev";walk_at "q1";exact hkk
  have e5:(zs.map Rw.d).map (fun d=>match d with | .tup [_,l,_,_]=>l | d=>d)=(zs.map fun x=>x.l).map D.int:=by
   rw[ZT,ZT];rfl
  rw[e5];refine⟨szL (by rw[Zb,Zb];omega),_,_,rfl,rfl,szL (by rw[Zb,Zb];(try simp only[Zi,Z8]);omega),fun q hq=>?_⟩
  simp only[Q0a];have e6:([D.int x.l]++(zs.map fun x=>x.l).map D.int:List D)=(x.l::zs.map fun x=>x.l).map D.int:=rfl;refine⟨x.l::zs.map fun x=>x.l,rfl,succ_pos _,fun z hz hsz=>?_⟩;have sM:Sub M (ddel (dupd M q (.lst ([D.int x.l]++(zs.map fun x=>x.l).map D.int))) q):=fun c o e=>by
   unfold ddel dupd;have:c≠q:=dne e hq;rw[Zc this,Zc this];exact e
  generalize ddel (dupd M q (.lst ([D.int x.l]++(zs.map fun x=>x.l).map D.int))) q=M1 at sM;rw[Q3X hz hsz,e1];clear e1;walk_at "ev";walk_at "q1";walk_at "q1";simp only[dFrz]
  try walk_at "ev"
  refine Q0C (fun d=>match d with | .tup [_,_,_,v]=>.str (zaf v) | d=>d) trivial (by rw[Zb];omega) ?_ ?_
  ·intro d kk hd hkk;obtain⟨x,hx,rfl⟩:=ZH.mp hd;obtain⟨w,hw⟩:=str x hx;simp only[Rw.d,hw,zaf]at hkk ⊢;walk_at "ev";walk_at "q1";exact hkk
  have ee:(zs.map Rw.d).map (fun d=>match d with | .tup [_,_,_,v]=>.str (zaf v) | d=>d)=(zs.map fun x=>zaf x.v).map D.str:=by
   rw[ZT,ZT];rfl
  rw[ee];refine⟨szL (by rw[Zb,Zb];omega),zs.map fun x=>zaf x.v,rfl,by rw[Zb];omega,fun ys hp hs2 q2 hq2=>?_⟩
  simp only[Q0a];rw[Q1X hp hs2];refine⟨szL (by decide),M,fun c o e=>?_,h⟩
  have e1:=sM c o e;unfold ddel dupd;have:c≠q2:=dne e1 hq2;rw[Zc this,Zc this];exact e1
 simp only[zD,dn]at rest ⊢;walk_at "ev";walk_at "q1";walk_at "q1"
 try walk_at "ev"
 walk_at "q1"
 try walk_at "ev"
 rw[Zb,Q1R,<- map_take];simp only[Q0O];refine⟨Q0e _,Q0e _,ite2 (fun q=>?_) fun q=>?_⟩
 ·rw[Ze]at q;walk_at "q0";refine Q0v (fun i ys M'=>M'=M/\ys=(za3 (atN (rows.take i) hs) zam).map Rw.d) ⟨rfl,rfl⟩ (fun _ _ _ _=>trivial) ?_ ?_
  ·rintro i d ys M' kk hd ⟨rfl,rfl⟩ hkk;rw[Zq]at hd;cases ei:rows[i]? with
   | none=>rw[ei]at hd;cases hd
   | some y =>
    rw[ei]at hd;cases hd;have hs2:za3 (atN (rows.take (i+1)) hs) zam=za3 (atN (rows.take i) hs) zam++za3 (atN [y] hs) zam:=by
     rw[take_add_one,ei];unfold za3 atN;rw[filter_append,filter_append];rfl
    have no:¬ (y.n=hs/\y.k=zam)->kk ((za3 (atN (rows.take i) hs) zam).map Rw.d) M':=fun z=>hkk _ _ ⟨rfl,by
     rw[hs2];have:za3 (atN [y] hs) zam=[]:=by
      unfold za3;rw[List.filter_eq_nil_iff];intro w hw;obtain⟨g1,g2⟩:=Q1d hw;rw[Zp.mp g1]at g2 ⊢;rw[Ze];exact fun q=>z ⟨g2,q⟩
     rw[this,ZM]⟩
    simp only[Rw.d,dn];walk_at "ev";walk_at "q1";walk_at "q1"
    try walk_at "ev"
    simp only[Q0O];refine⟨Q0e _,Q0e _,ite2 (fun q1=>?_) fun q1=>no fun z=>q1 (Zo z.1)⟩;rw[Ze]at q1;walk_at "q1"
    try walk_at "ev"
    refine⟨rfl,rfl,ite2 (fun q2=>?_) fun q2=>no fun z=>q2 (Zo z.2)⟩;rw[Ze]at q2;refine⟨small1000 ?_,hkk _ _ ⟨rfl,?_⟩⟩
    ·rw[Zb];refine Z3 (Q1n _ _ _) ?_;rw[ZA];omega
    ·rw[hs2,ZC];have:za3 (atN [y] hs) zam=[y]:=by
      unfold za3 atN;rw[ZF,Zg (Zo q1),filter_nil,ZF,Zg (Zo (show y.k=zam from q2)),filter_nil]
     rw[this];rfl
  ·rintro ys M' ⟨rfl,rfl⟩;have tl:rows.take (rows.map Rw.d).length=rows:=by rw[Zb,Ym]
   rw[tl];have kl:=Q1n rows hs zam;exact⟨szL (by rw[Zb];omega),rest (za3 (atN rows hs) zam) (by unfold zaC;rw[Zg q]) (by omega) (hg.strs (by unfold IsN zam;decide))⟩
 ·rw[Ze]at q;exact rest [] (by unfold zaC;rw[Zc q]) (by decide) (fun y hy=>nomatch hy)
noncomputable def sp_av:DSp:=fun ds M R=>∃ (top n:List W) (rows:List Rw) (k:W) (life:Int),ds=[zD top life rows,dn n,.str k]/\Good top rows/\Valid rows/\¬ IsN k/\n.take top.length=top/\n.length<=100/\(∀ w∈n,w≠[42])/\R (za9 top life rows n k) M
theorem ok_av(T:Tab)(h116:T.fn 116=some ⟨"_law_begun",2,[],sp_ag⟩)(h117:T.fn 117=some ⟨"_law_told_down",2,[],sp_aq⟩)(h115:T.fn 115=some ⟨"_law_down",2,[],sp_aI⟩):∀ ds M R,sp_av ds M R->evS T b_av (za0 R) (za1 ["a","b","c","d","e","f","g","h"] ds) M:=by
 rintro ds M R ⟨top,n,rows,k,life,rfl,hg,hval,hk,ht,hn,hns,h⟩;have rl:=hg.1;have hal:Alone rows:=hval.alone;obtain⟨a1,a2,a3,a4⟩:=Q2n top rows n ht;have hnl:top.length<=n.length:=by rw[<- ht,ZA];omega
 simp only[b_av];refine Q0c fun k1 e1=>?_;walk_at "ev";simp only[h115];walk_at "ev";refine⟨top,n,life,rows,rfl,by omega,hn,by omega,hval,fun ec=>?_,fun c x ec ed=>?_⟩
 rotate_left
 ·rw[e1];clear e1;refine Q0c fun k1 e1=>?_;obtain⟨g1,g2,g3⟩:=Q0F ed;unfold za9 at h;simp only[ec,ed]at h;walk_at "ev";simp only[Rw.d]
  try walk_at "ev"
  simp only[h117];walk_at "ev";exact⟨rows,x,top,life,rfl,hg,g1,g2,Q0f h⟩
 unfold za9 at h;simp only[ec]at h;rw[e1];clear e1;refine Q0c fun k1 e1=>?_;walk_at "ev";rw[e1];clear e1;refine Q0c fun k1 e1=>?_;simp only[dn];walk_at "ev";rw[Zb,e1];clear e1;refine Q0c fun k1 e1=>?_;show zaO _ _ _ _ _;refine⟨fun j ρ M''=>M''=M/\ρ=[some (zD top life rows),some (dn n),some (.str k),some .non,some (.int (j:Nat)),none,none,none]/\top.length<=j/\j<=n.length/\∀ i,j<i->i<=n.length->¬ Std top rows (n.take i),⟨n.length,rfl,rfl,hnl,Zs _,fun i h1 h2=>absurd h1 (by omega)⟩,?_⟩
 rintro j ρ M'' ⟨rfl,rfl,j1,j2,j3⟩;simp only[dn];walk_at "ev";simp only[h116];walk_at "ev";rw[Q1R,<- map_take];have htj:(n.take j).take top.length=top:=by rw[take_take,min_eq_left j1];exact ht
 refine⟨top,n.take j,life,rows,rfl,by omega,?_⟩
 try walk_at "ev"
 cases c2:zbj top rows (n.take j) with
 | false =>
  refine iteT ⟨_,fun ρ' M3 q=>q,?_⟩;have ns2:¬ Std top rows (n.take j):=fun z=>by rw[(Q3H htj).mpr z]at c2;cases c2
  have jt:top.length<j:=by
   rcases lt_or_ge top.length j with z | z
   ·exact z
   ·have:j=top.length:=by omega
    rw[this,ht]at ns2;exact absurd (.inl rfl) ns2
  have ej:(j:Int)-1=((j-1:Nat):Int):=by omega
  rw[ej];refine⟨j-1,by omega,rfl,rfl,by omega,by omega,fun i h1 h2=>?_⟩
  by_cases hij:i=j
  ·rw[hij];exact ns2
  ·exact j3 i (by omega) h2
 | true =>
  have hs:=(Q3H htj).mp c2;have hnear:=Q6F ht j2 hs j3;refine iteF ?_;rw[e1];clear e1;refine Q0c fun k1 e1=>?_;walk_at "ev";rw[e1];clear e1;refine Q0c fun k1 e1=>?_;have rest:∀ look:List W,look=zaa top rows n->k1 [some (zD top life rows),some (dn n),some (.str k),some .non,some (.int (j:Nat)),some (dn look),none,none] M'':=by
   intro look hlook;rw[<- hlook]at h;rw[e1];clear e1;refine Q0c fun k1 e1=>?_;simp only[zD];walk_at "ev";walk_at "q0";refine Q0v (fun i ys M'=>M'=M''/\ys=(atN (rows.take i) look).map Rw.d) ⟨rfl,rfl⟩ (fun _ _ _ _=>trivial) ?_ ?_
   ·rintro i d ys M' kk hd ⟨rfl,rfl⟩ hkk;rw[Zq]at hd;cases ei:rows[i]? with
    | none=>rw[ei]at hd;cases hd
    | some x =>
     rw[ei]at hd;cases hd;simp only[Rw.d,dn];walk_at "ev";walk_at "q1";simp only[dn]
     try walk_at "ev"
     simp only[Q0O];have hs2:atN (rows.take (i+1)) look=atN (rows.take i) look++atN [x] look:=by
      rw[take_add_one,ei];unfold atN;rw[filter_append];rfl
     refine⟨Q0e _,Q0e _,ite2 (fun q=>?_) fun q=>hkk _ _ ⟨rfl,?_⟩⟩
     ·rw[Ze]at q;refine⟨small1000 ?_,hkk _ _ ⟨rfl,?_⟩⟩
      ·rw[Zb];refine Z3 (ZI _ _) ?_;rw[ZA];omega
      ·rw[hs2,ZC];unfold atN;rw[ZF,Zg (Zo q)];rfl
     ·rw[Ze]at q;rw[hs2];unfold atN;rw[ZF,Zc (by rw[Ze];exact q),filter_nil,ZM]
   ·rintro ys M' ⟨rfl,rfl⟩;have tl:rows.take (rows.map Rw.d).length=rows:=by rw[Zb,Ym]
    rw[tl];have kl:(atN rows look).length<=rows.length:=ZI _ _;refine⟨szL (by rw[Zb];omega),?_⟩
    rw[e1];clear e1;have hga:Good top (atN rows look):=⟨by omega,fun x hx=>hg.2 x (Q1d hx).1⟩
    have pk:DL.plain 12 (.lst ((atN rows look).map Rw.d))=true:=Q1t hga.2 8;unfold zaj at h;rw[by_eq hal]at h;refine Q0c fun k1 e1=>?_;have star:look.drop (look.length-1)=[[42]] <-> ¬ look=n:=by
     rw[hlook];unfold zaa;by_cases z:zao top rows n=n.length
     ·rw[Zg z];refine⟨fun q=>?_,fun q=>absurd rfl q⟩;have:([42]:W)∈n:=List.mem_of_mem_drop (by rw[q];exact Zp.mpr rfl)
      exact absurd rfl (hns _ this)
     ·rw[Zc z];refine⟨fun _ q=>?_,fun _=>?_⟩
      ·have:([42]:W)∈n:=by rw[<- q];exact Zu _ (Zp.mpr rfl)
       exact hns _ this rfl
      ·rw[Zl,show (n.take (zao top rows n)).length+[[42]].length-1=(n.take (zao top rows n)).length from rfl,List.drop_left]
    -- by what stands there
    have last:∀ xs:List Rw,Good top xs->R (byD xs k life) M'->k1 [some (zD top life rows),some (dn n),some (.str k),some .non,some (.int (j:Nat)),some (dn look),some (.lst (xs.map Rw.d)),none] M':=by
     clear pk h;intro xs hgx h;have pl:DL.plain 12 (.lst (xs.map Rw.d))=true:=Q1t hgx.2 8;have rl:=hgx.1;rw[e1];clear e1;refine Q0c fun k1 e1=>?_;have rest2:R (byK xs k life) M'->k1 [some (zD top life rows),some (dn n),some (.str k),some .non,some (.int (j:Nat)),some (dn look),some (.lst (xs.map Rw.d)),none] M':=by
      intro h;rw[e1];clear e1;refine Q0c fun k1 e1=>?_;walk_at "ev";refine Q0v (fun i ys M2=>M2=M'/\ys=(za3 (xs.take i) k).map Rw.d) ⟨rfl,rfl⟩ (fun _ _ _ _=>trivial) ?_ ?_
      ·rintro i d ys M2 kk hd ⟨rfl,rfl⟩ hkk;rw[Zq]at hd;cases ei:xs[i]? with
       | none=>rw[ei]at hd;cases hd
       | some x =>
        rw[ei]at hd;cases hd;simp only[Rw.d];walk_at "ev";walk_at "q1"
        try walk_at "ev"
        have hs:za3 (xs.take (i+1)) k=za3 (xs.take i) k++za3 [x] k:=by
         rw[take_add_one,ei];unfold za3;rw[filter_append];rfl
        refine⟨rfl,rfl,ite2 (fun q=>?_) fun q=>hkk _ _ ⟨rfl,?_⟩⟩
        ·rw[Ze]at q;refine⟨small1000 ?_,hkk _ _ ⟨rfl,?_⟩⟩
         ·rw[Zb];refine Z3 (ZI _ _) ?_;rw[ZA];omega
         ·rw[hs,ZC];unfold za3;rw[ZF,Zg (Zo q)];rfl
        ·rw[Ze]at q;rw[hs];unfold za3;rw[ZF,Zc (by rw[Ze];exact q),filter_nil,ZM]
      ·rintro ys M2 ⟨rfl,rfl⟩;have tl:xs.take (xs.map Rw.d).length=xs:=by rw[Zb,Ym]
       rw[tl];have kl:(za3 xs k).length<=xs.length:=ZI _ _;refine⟨szL (by rw[Zb];omega),?_⟩
       rw[e1];clear e1;refine Q0c fun k1 e1=>?_;have pk:DL.plain 12 (.lst ((za3 xs k).map Rw.d))=true:=Q1t (fun x hx=>hgx.2 x (Q0Q hx).1) 8;have str:∀ x∈za3 xs k,∃ w,x.v=.str w:=by
        intro x hx;obtain⟨h1,h2⟩:=Q0Q hx;rcases (hgx.2 x h1).pv with ⟨a,_⟩ | ⟨_,b⟩
        ·rw[h2]at a;exact absurd a hk
        ·exact b
       unfold byK at h;generalize za3 xs k=zs at h kl pk str;walk_at "ev";cases zs with
       | nil =>
        refine⟨szL (by decide),rfl,rfl,?_⟩
        simp only[map_nil,Q0p,ZS];walk_at "q0";exact⟨szL (by decide),Q0f h⟩
       | cons x r =>
        refine⟨szL (by decide),pk,rfl,?_⟩
        have ne:eqB (.lst ((x::r).map Rw.d)) (.lst [])=false:=(Q0W _ _).mpr (fun z=>by cases z)
        simp only[ne,ZD,ZQ];rw[e1];clear e1
        replace h:R (.tup [.str zbm,zaN (x::r),zbO (x::r)]) M2:=h
        have z0:0<(x::r).length:=succ_pos _;generalize x::r=zs at h kl str z0;walk_at "ev";simp only[dFrz];walk_at "ev";refine Q0C (fun d=>match d with | .tup [_,_,_,v]=>.str (zaf v) | d=>d) trivial (by rw[Zb];omega) ?_ ?_
        ·intro d kk hd hkk;obtain⟨x,hx,rfl⟩:=ZH.mp hd;obtain⟨w,hw⟩:=str x hx;simp only[Rw.d,hw,zaf]at hkk ⊢;walk_at "ev";walk_at "q1";exact hkk
        have ee:(zs.map Rw.d).map (fun d=>match d with | .tup [_,_,_,v]=>.str (zaf v) | d=>d)=(zs.map fun x=>zaf x.v).map D.str:=by
         rw[ZT,ZT];rfl
        rw[ee];refine⟨szL (by rw[Zb,Zb];omega),zs.map fun x=>zaf x.v,rfl,by rw[Zb];omega,fun ys hp hs q hq=>?_⟩
        simp only[Q0a];rw[Q1X hp hs];have sM:Sub M2 (ddel (dupd M2 q (.lst ((zbk (zs.map fun x=>zaf x.v)).map D.str))) q):=fun c o e=>by
         unfold ddel dupd;have:c≠q:=dne e hq;rw[Zc this,Zc this];exact e
        generalize ddel (dupd M2 q (.lst ((zbk (zs.map fun x=>zaf x.v)).map D.str))) q=M3 at sM;refine Q0C (fun d=>match d with | .tup [_,l,_,_]=>l | d=>d) trivial (by rw[Zb];omega) ?_ ?_
        ·intro d kk hd hkk;obtain⟨x,_,rfl⟩:=ZH.mp hd;simp only[Rw.d]at hkk ⊢;walk_at "ev";walk_at "q1";exact hkk
        have e5:(zs.map Rw.d).map (fun d=>match d with | .tup [_,l,_,_]=>l | d=>d)=(zs.map fun x=>x.l).map D.int:=by
         rw[ZT,ZT];rfl
        rw[e5];refine⟨szL (by rw[Zb,Zb];omega),zs.map fun x=>x.l,rfl,by rw[Zb];omega,fun z hz hs=>⟨szL (by decide),M2,sM,?_⟩⟩
        rw[Q3X hz hs];exact h
     walk_at "ev";unfold byD at h;cases xs with
     | nil =>
      refine⟨szL (by decide),rfl,rfl,?_⟩
      simp only[map_nil,Q0p,Bool.not_true,ZD,ZQ];exact rest2 h
     | cons x r =>
      refine⟨szL (by decide),pl,rfl,?_⟩
      have ne:eqB (.lst ((x::r).map Rw.d)) (.lst [])=false:=(Q0W _ _).mpr (fun z=>by cases z)
      simp only[ne,Bool.not_false,ZS];refine Q0r (by omega) (by simp) fun d0 hd0=>?_
      cases hd0;simp only[Rw.d];walk_at "q1"
      try walk_at "ev"
      refine⟨rfl,rfl,ite2 (fun q=>?_) fun q=>?_⟩
      ·rw[Ze]at q;simp only[Zg (show x.k=za8 from q)]at h;refine Q0r (by omega) (by simp) fun d0 hd0=>?_
       cases hd0;walk_at "q1";refine Q0r (by omega) (by simp) fun d0 hd0=>?_
       cases hd0;walk_at "q1";exact⟨szL (by decide),Q0f h⟩
      ·rw[Ze]at q;simp only[Zc (show ¬ x.k=za8 from q)]at h;exact rest2 h
    simp only[zD,dn]at last ⊢;walk_at "ev";cases ea:atN rows look with
    | nil =>
     rw[ea]at h hga;refine⟨szL (by decide),rfl,rfl,?_⟩
     simp only[map_nil,Q0p,ZS];simp only[Q0O];refine⟨Q0e _,Q0e _,?_⟩;by_cases z:look=n
     ·rw[Zc (fun q=>(star.mp q.1) z)]at h;simp only[Zo z,Bool.not_true,ZD,ZQ];exact last [] hga h
     ·rw[Zg ⟨star.mpr z,rfl⟩]at h;simp only[Z5 z,Bool.not_false,ZS];walk_at "q0";exact⟨szL (by decide),Q0f h⟩
    | cons x r =>
     rw[ea]at h pk hga;rw[Zc (fun q=>nomatch q.2)]at h
     refine⟨szL (by decide),pk,rfl,?_⟩
     have ne:eqB (.lst ((x::r).map Rw.d)) (.lst [])=false:=(Q0W _ _).mpr (fun z=>by cases z)
     simp only[ne,ZD,ZQ];exact last (x::r) hga h
  try simp only[dn]
  walk_at "ev";rw[Zb];refine ite2 (fun q=>?_) fun q=>?_
  ·rw[Ze]at q;rw[Q1R,<- map_take];refine⟨szL (by decide),szL (by rw[Zb,ZA];(try simp only[Zi,Z8]);omega),?_⟩
   have:=rest (n.take j++[[42]]) (by unfold zaa;rw[hnear,Zc (by omega)])
   unfold dn at this;rw[ZC]at this;exact this
  ·rw[Ze]at q;exact rest n (by unfold zaa;rw[hnear,Zg (by omega)])
noncomputable def b_ak:CS :=
  (.seq (.set 4 .knew)
  (.seq (.for1 5 (.rng1 (.con (.int 5)))
  (.seq (.ite (.cmp .notN (.ix (.var 3) (.var 5)) (.con .non))
  (.seq (.ex (.ml .append (.ksetd (.var 4) (.ix (.var 3) (.var 5)) (.lst .nil)) (.cons (.call 111 (.cons (.var 0) (.cons (.var 1) (.cons (.var 2) (.cons (.var 5) .nil))))) .nil)))
  .nil)
  .nil)
  .nil))
  (.seq (.ret (.var 4))
  .nil)))
theorem Q2p(kvs:List (W×D))(k:W):(valT kvs k).isSome=true <-> k∈kvs.map (·.1):=by
 rw[<- Q1q,any_eq_true,ZH];exact⟨fun⟨p,h1,h2⟩=>⟨p,h1,ZL h2⟩,fun⟨p,h1,h2⟩=>⟨p,h1,Zo h2⟩⟩
theorem Q2U(v:D)(h:(valT kvs k).isSome=false):putT kvs k v=kvs++[(k,v)]:=by
 unfold putT;rw[Q1q,h,Zc Zy]
noncomputable def sp_aQ:DSp:=fun ds M R=>∃ (a:Addr) (zs:List Zn) (o:W) (top n:List W) (k:W),ds=[.ref a,.str o,dn top,dn n,.str k]/\HsOk M a zs/\(∀ z∈zs,ZnOk z/\Valid z.r)/\zs.length<=900/\¬ IsN k/\n.take top.length=top/\n.length<=100/\(∀ w∈n,w≠[42])/\R (repO (ofD zs o) (some top) n k) M
theorem ok_aQ(T:Tab)(h118:T.fn 118=some ⟨"_law_reply",3,[],sp_av⟩):∀ ds M R,sp_aQ ds M R->evS T b_aQ (za0 R) (za1 ["a","b","c","d","e","f"] ds) M:=by
 rintro ds M R ⟨a,zs,o,top,n,k,rfl,⟨kvs,ha,hs⟩,hz,hzl,hk,ht,hn,hns,h⟩;simp only[b_aQ];refine Q0c fun k1 e1=>?_;have body:∀ (Cd:DH->Prop) (xs:List D),Cd M->xs=(ofD zs o).map Zn.v->zb4 (zat 5) (evS T (.seq (.ite (.cmp .eq (.ix (.var 5) (.con (.int 0))) (.var 2)) (.seq (.ret (.call 118 (.cons (.var 5) (.cons (.var 3) (.cons (.var 4) .nil))))) .nil) .nil) .nil)) { nx:=k1,rt:=(za0 R).rt,bk:=(za0 R).bk,ct:=(za0 R).ct } Cd xs [some (.ref a),some (.str o),some (dn top),some (dn n),some (.str k),none] M:=by
  intro Cd xs hC exs;subst exs;refine Q0U (fun i ρ M'=>M'=M/\(∃ v5,ρ=[some (.ref a),some (.str o),some (dn top),some (dn n),some (.str k),v5])/\∀ (j:Nat) (z:Zn),j<i->(ofD zs o)[j]? = some z->z.t≠top) ⟨rfl,⟨none,rfl⟩,fun j z hj=>absurd hj (not_lt_zero j)⟩ (fun i ρ M' h=>by rw[h.1];exact hC) ?_ ?_
  ·rintro i d ρ M' kk hi ⟨rfl,⟨v5,rfl⟩,hb⟩ hk2;rw[Zq]at hi;cases ei:(ofD zs o)[i]? with
   | none=>rw[ei]at hi;cases hi
   | some z =>
    rw[ei]at hi;cases hi;obtain⟨zok,zv⟩:=hz z (Q3D (Zt ei));have next:z.t≠top->kk [some (.ref a),some (.str o),some (dn top),some (dn n),some (.str k),some z.v] M':=fun q=>hk2 _ _ ⟨rfl,⟨_,rfl⟩,fun j y hj hy=>by
     by_cases hji:j=i
     ·subst hji;rw[ei]at hy;cases hy;exact q
     ·exact hb j y (by omega) hy⟩
    simp only[Zn.v,zD,dn]at next ⊢;walk_at "ev";walk_at "q0";simp only[Q0O];refine⟨Q0e _,Q0e _,ite2 (fun q=>?_) fun q=>next fun e=>q (Zo e)⟩;have q':z.t=top:=ZL q;simp only[h118];walk_at "ev";refine⟨z.t,n,z.r,k,z.l,rfl,zok.good,zv,hk,by rw[q'];exact ht,hn,hns,Q0f ?_⟩
    have ea:atT (ofD zs o) top=some z:=by
     obtain⟨g1,g2⟩:=Zj.mp ei;exact List.find?_eq_some_iff_getElem.mpr ⟨Zo q',i,g1,g2,fun j hj=>by simpa using hb j _ hj (Zf _)⟩
    rw[Q0S (z:=z) (t:=some top) ea]at h;exact h
  ·rintro ρ M' ⟨rfl,⟨v5,rfl⟩,hb⟩;rw[e1];clear e1;walk_at "ev";refine⟨szL (by decide),Q0f ?_⟩
   have ea:atT (ofD zs o) top=none:=find?_eq_none.mpr fun z hz=>by
    obtain⟨j,hj⟩:=mem_iff_getElem?.mp hz;simpa using hb j z (by rw[Zb];exact (Zj.mp hj).1) hj
   rw[Q0T (t:=some top) ea]at h;exact h
 walk_at "ev";refine⟨a,kvs,rfl,ha,ZX _,o,kvs,rfl,ha,?_⟩;rcases hs o with ⟨e,e2⟩ | ⟨d,e,e2⟩
 ·rw[e];exact body (fun _=>True) [] trivial (by rw[e2];rfl)
 ·rw[e];rcases Q1H e2 with e3 | ⟨q,e3,e4⟩
  ·rw[e3];exact body (fun _=>True) _ trivial rfl
  ·rw[e3];simp only[e4];exact body (fun X=>X q=some (.lst ((ofD zs o).map Zn.v))) _ e4 rfl
noncomputable def zs5(ws:List W)(lv:List Int)(rw:Nat->List Rw)(ats:List (Option W))(n:Nat):List Zn:=(List.range n).filterMap fun i=>(ats.getD i none).map fun o=>zn5 o ws lv rw i
theorem Q1I(ws:List W)(lv:List Int)(rw:Nat->List Rw)(ats:List (Option W))(n:Nat):zs5 ws lv rw ats (n+1)=zs5 ws lv rw ats n++((ats.getD n none).map fun o=>zn5 o ws lv rw n).toList:=by
 unfold zs5;rw[List.range_succ,List.filterMap_append];rw[filterMap_cons,List.filterMap_nil];cases h:ats.getD n none with
 | none=>rfl
 | some o=>rfl
theorem Q0G(a b:List Zn)(w:W):ofD (a++b) w=ofD a w++ofD b w:=filter_append ..
theorem Q0H(z:Zn)(w:W):ofD [z] w=if z.o=w then [z] else []:=by
 unfold ofD;by_cases e:z.o=w
 ·rw[Zg e,ZF,Zg (Zo e),filter_nil]
 ·rw[Zc e,ZF,Zc (by simp[e]),filter_nil]
noncomputable def zax(ks:List W)(w:W):List W:=if w∈ks then ks else ks++[w]
noncomputable def k5(ats:List (Option W)):Nat->List W
 | 0=>[]
 | i+1=>match ats.getD i none with
  | none=>k5 ats i
  | some o=>zax (k5 ats i) o
theorem k5_nd(ats:List (Option W)):∀ i,(k5 ats i).Nodup
 | 0=>nodup_nil
 | i+1=>by
  have ih:=k5_nd ats i;unfold k5;cases ats.getD i none with
  | none=>exact ih
  | some o =>
   show (zax (k5 ats i) o).Nodup;unfold zax;by_cases e:o∈k5 ats i
   ·rw[Zg e];exact ih
   ·rw[Zc e,nodup_append];exact⟨ih,by simp,fun a h1 b h2 z=>by rw[Zp.mp h2]at z;rw[z]at h1;exact e h1⟩
structure Hs5(M M':DH)(hd:Addr)(kvs:List (W×D))(zs:List Zn):Prop where
 d:M' hd=some (.oth (.dkt kvs))
 f:M hd=none
 v:∀ w,(valT kvs w=none/\ofD zs w=[])\/∃ q,valT kvs w=some (.ref q)/\M' q=some (.lst ((ofD zs w).map Zn.v))/\M q=none/\q≠hd
 i:∀ w w' q,valT kvs w=some (.ref q)->valT kvs w'=some (.ref q)->w=w'
 s:Sub M M'
theorem Hs5.old(h:Hs5 M M' hd kvs zs)(e:valT kvs z.o=some (.ref q))(fp:M' p=none):Hs5 M (dupd (dupd M' p (.lst [])) q (.lst ((ofD zs z.o).map Zn.v++[z.v]))) hd kvs (zs++[z]):=by
 obtain⟨q0,e0,m0,f0,n0⟩:=(h.v z.o).resolve_left fun y=>by rw[y.1]at e;cases e
 rw[e]at e0;cases e0;have pq:q≠p:=fun y=>by rw[y,fp]at m0;cases m0
 have ph:hd≠p:=fun y=>by rw[<- y,h.d]at fp;cases fp
 refine⟨by rw[Q0b n0.symm,Q0b ph];exact h.d,h.f,fun w=>?_,h.i,(h.s.put (h.s.none fp)).put f0⟩
 by_cases ew:z.o=w
 ·right;refine⟨q,by rw[<- ew];exact e,?_,f0,n0⟩
  rw[Q0a,Q0G,Q0H,Zg ew,ZC,<- ew];rfl
 ·rcases h.v w with ⟨a,b⟩ | ⟨q',a,b,c,d⟩
  ·exact .inl ⟨a,by rw[Q0G,Q0H,Zc ew,b];rfl⟩
  ·right;have qq:q'≠q:=fun y=>ew (h.i z.o w q e (by rw[<- y];exact a))
   have qp:q'≠p:=fun y=>by rw[y,fp]at b;cases b
   refine⟨q',a,?_,c,d⟩;rw[Q0b qq,Q0b qp,Q0G,Q0H,Zc ew,ZM];exact b
theorem Hs5.new(h:Hs5 M M' hd kvs zs)(e:valT kvs z.o=none)(fp:M' p=none):Hs5 M (dupd (dupd (dupd M' p (.lst [])) hd (.oth (.dkt (putT kvs z.o (.ref p))))) p (.lst [z.v])) hd (putT kvs z.o (.ref p)) (zs++[z]):=by
 have ph:hd≠p:=fun y=>by rw[<- y,h.d]at fp;cases fp
 have z0:ofD zs z.o=[]:=by
  rcases h.v z.o with y | ⟨q,y,_⟩
  ·exact y.2
  ·rw[e]at y;cases y
 have fresh:∀ w q,valT kvs w=some (.ref q)->q≠p:=fun w q a y=>by
  rcases h.v w with x | ⟨q',a',b,_⟩
  ·rw[x.1]at a;cases a
  ·rw[a]at a';cases a';rw[y,fp]at b;cases b
 refine⟨by rw[Q0b ph,Q0a],h.f,fun w=>?_,fun w w' q a b=>?_,((h.s.put (h.s.none fp)).put h.f).put (h.s.none fp)⟩
 ·by_cases ew:w=z.o
  ·right;refine⟨p,by rw[Q2N,Zg ew],?_,h.s.none fp,ph.symm⟩
   rw[Q0a,Q0G,Q0H,ew,Zg rfl,z0];rfl
  ·rw[Q2N,Zc ew];rcases h.v w with ⟨a,b⟩ | ⟨q',a,b,c,d⟩
   ·exact .inl ⟨a,by rw[Q0G,Q0H,Zc (fun y=>ew y.symm),b];rfl⟩
   ·right;refine⟨q',a,?_,c,d⟩;rw[Q0b (fresh w q' a),Q0b d,Q0b (fresh w q' a),Q0G,Q0H,Zc (fun y=>ew y.symm),ZM];exact b
 ·rw[Q2N]at a b;by_cases e1:w=z.o
  ·by_cases e2:w'=z.o
   ·rw[e1,e2]
   ·rw[Zg e1]at a;rw[Zc e2]at b;cases a;exact absurd rfl (fresh w' _ b)
  ·rw[Zc e1]at a;by_cases e2:w'=z.o
   ·rw[Zg e2]at b;cases b;exact absurd rfl (fresh w _ a)
   ·rw[Zc e2]at b;exact h.i w w' q a b
noncomputable def sp_ak:DSp:=fun ds M R=>∃ (ad:Nat->Addr) (ws:List W) (lv:List Int) (rw:Nat->List Rw) (ats:List (Option W)),ds=[.lst ((za6 ws).map dn),zsD ad,.lst (lv.map D.int),.lst (ats.map atD)]/\RT5 M ad (za6 ws) rw 40/\T5 (za6 ws)/\lv.length=5/\ats.length=5 /\
 ∀ M' a kvs,Sub M M'->HsOk M' a (zs5 ws lv rw ats 5)->M' a=some (.oth (.dkt kvs))->kvs.map (·.1)=k5 ats 5->R (.ref a) M'
theorem ok_ak(T:Tab)(h111:T.fn 111=some ⟨"_law_zone",4,[],sp_a7⟩):∀ ds M R,sp_ak ds M R->evS T b_ak (za0 R) (za1 ["a","b","c","d","e","f"] ds) M:=by
 rintro ds M R ⟨ad,ws,lv,rw,ats,rfl,rt,ht,hl,hal,h⟩;simp only[b_ak];refine Q0c fun k1 e1=>?_;walk_at "ev";intro hd hhd;rw[e1];clear e1;refine Q0c fun k1 e1=>?_;walk_at "ev";refine⟨by decide,by decide,?_⟩
 refine Q0L (fun i ρ M'=>∃ (kvs:List (W×D)) (v5:Option D),ρ=[some (.lst ((za6 ws).map dn)),some (zsD ad),some (.lst (lv.map D.int)),some (.lst (ats.map atD)),some (.ref hd),v5]/\Hs5 M M' hd kvs (zs5 ws lv rw ats i)/\kvs.length<=i/\kvs.map (·.1)=k5 ats i/\∀ w,(ofD (zs5 ws lv rw ats i) w).length<=i)
  ⟨[],none,rfl,⟨Q0a,hhd,fun w=>.inl ⟨Q7D,rfl⟩,(fun w w' q a=>nomatch a),Sub.new hhd⟩,Zs _,rfl,fun w=>Zs _⟩ (fun _ _ _ _=>trivial) ?_ ?_
 ·clear e1;rintro i ρ M' k hi ⟨kvs,v5,rfl,hs,kl,kk,ol⟩ hk;have hi5:i<5:=hi;rw[Int.zero_add];have eo:∃ o,ats[i]? = some o/\ats.getD i none=o:=⟨ats[i],Zf (by omega),by rw[Zz,Zf (by omega)];rfl⟩
  obtain⟨o,eo,eg⟩:=eo;walk_at "ev";refine Q0r (by omega) (by rw[Zb,hal];omega) fun d0 hd0=>?_
  rw[Z7,Zq,eo]at hd0;cases hd0;cases o with
  | none =>
   refine hk _ _ ⟨kvs,_,rfl,?_,by omega,by rw[kk,k5,eg],fun w=>?_⟩
   ·rw[Q1I,eg];show Hs5 M M' hd kvs (zs5 ws lv rw ats i++[]);rw[ZM];exact hs
   ·rw[Q1I,eg];show (ofD (zs5 ws lv rw ats i++[]) w).length<=_;rw[ZM];exact le_succ_of_le (ol w)
  | some o =>
   have rtM:∀ X:DH,Sub M X->RT5 X ad (za6 ws) rw 40:=fun X sx=>rt.frame fun j hj=>(sx _ _ (rt.l j hj)).trans (rt.l j hj).symm;have es:zs5 ws lv rw ats (i+1)=zs5 ws lv rw ats i++[zn5 o ws lv rw i]:=by rw[Q1I,eg];rfl
   have ol':∀ w,(ofD (zs5 ws lv rw ats (i+1)) w).length<=i+1:=fun w=>by
    rw[es,Q0G,Q0H,Zl];have:=ol w;split <;> simp <;> omega
   simp only[atD];walk_at "ev";refine⟨hd,kvs,rfl,hs.d,Q0r (by omega) (by rw[Zb,hal];omega) fun d0 hd0=>?_⟩
   rw[Z7,Zq,eo]at hd0;cases hd0;refine⟨ZX _,fun p hp=>?_⟩;have ph:hd≠p:=fun y=>by rw[<- y,hs.d]at hp;cases hp
   refine⟨o,kvs,rfl,by rw[Q0b ph];exact hs.d,small1000 (by omega),fun d hv=>?_,fun hv=>?_⟩
   ·rcases hs.v o with y | ⟨q,y1,y2,_⟩
    ·rw[y.1]at hv;cases hv
    ·rw[hv]at y1;cases y1;have qp:q≠p:=fun y=>by rw[y,hp]at y2;cases y2
     have mq:dupd M' p (.lst []) q=some (.lst ((ofD (zs5 ws lv rw ats i) o).map Zn.v)):=by rw[Q0b qp];exact y2
     simp only[h111,mq];walk_at "ev";refine⟨ad,ws,lv,rw,i,o,rfl,rtM _ (hs.s.put (hs.s.none hp)),ht,hl,hi5,?_⟩;simp only[mq];have:=ol o;refine⟨small1000 (by rw[Zb];omega),hk _ _ ⟨kvs,_,rfl,?_,by omega,?_,ol'⟩⟩
     rotate_left
     ·have hm:o∈k5 ats i:=by rw[<- kk];exact (Q2p kvs o).mp (by rw[hv];rfl)
      rw[kk,k5,eg];show _=zax _ _;unfold zax;rw[Zg hm]
     rw[es];exact hs.old (z:=zn5 o ws lv rw i) hv hp
   ·have mp:dupd (dupd M' p (.lst [])) hd (.oth (.dkt (putT kvs o (.ref p)))) p=some (.lst []):=by rw[Q0b ph.symm,Q0a]
    simp only[h111,mp];walk_at "ev";refine⟨ad,ws,lv,rw,i,o,rfl,rtM _ ((hs.s.put (hs.s.none hp)).put hs.f),ht,hl,hi5,?_⟩;simp only[mp];refine⟨small1000 (by simp),hk _ _ ⟨putT kvs o (.ref p),_,rfl,?_,by have:=Q3T kvs o (.ref p);omega,?_,ol'⟩⟩
    rotate_left
    ·have hm:o∉k5 ats i:=fun z=>by rw[<- kk,<- Q2p,hv]at z;cases z
     rw[Q2U _ (by rw[hv];rfl),ZC,kk,k5,eg]
     show _=zax _ _;unfold zax;rw[Zc hm];rfl
    rw[es];exact hs.new (z:=zn5 o ws lv rw i) hv hp
 ·rintro ρ M' ⟨kvs,v5,rfl,hs,kl,kk,ol⟩;rw[e1];clear e1;walk_at "ev";refine⟨M',Sub.refl _,h M' hd kvs hs.s ⟨kvs,hs.d,fun w=>?_⟩ hs.d kk⟩;rcases hs.v w with y | ⟨q,y1,y2,_⟩
  ·exact .inl y
  ·exact .inr ⟨_,y1,by simp only[zag,y2];rfl⟩
noncomputable def b_as:CS :=
  (.seq (.ex (.dpop0 (.fld "House" "pages" (.var 0)) (.var 1) (.con .non)))
  (.seq (.setf "House" "turned" (.var 0) .dnew)
  .nil))
noncomputable def b_ah:CS :=
  (.seq (.dput (.fld "House" "zones" (.var 0)) (.ix (.var 1) (.con (.int 0))) (.var 1))
  (.seq (.ex (.meth 334 (.var 0) (.cons (.ix (.var 1) (.con (.int 0))) .nil)))
  .nil))
structure HN(M:DH)(p zd pd td:Addr)(zs:List Zn):Prop where
 ob:M p=some (.oth (.ins "House" (hsF zd pd td)))
 n1:zd≠pd
 n2:zd≠td
 n3:pd≠td
 hz:∃ kz,M zd=some (.oth (.dct kz))/\kz.length<=zs.length/\∀ n,valD kz n=(atT zs n).map Zn.v
 hp:M pd=some (.oth (.dct []))
 ht:M td=some (.oth (.dct []))
 nd:(zs.map (·.t)).Nodup
noncomputable def sp_as:DSp:=fun ds M R=>∃ (p zd pd td:Addr) (zs:List Zn) (t:List W),ds=[.ref p,dn t]/\HN M p zd pd td zs/\∀ td',M td'=none->R .non (dupd (dupd M td' (.oth (.dct []))) p (.oth (.ins "House" (hsF zd pd td'))))
theorem ok_as{T:Tab}:∀ ds M R,sp_as ds M R->evS T b_as (za0 R) (za1 ["self","top"] ds) M:=by
 rintro ds M R ⟨p,zd,pd,td,zs,t,rfl,hn,h⟩;simp only[b_as];refine Q0c fun k1 e1=>?_;walk_at "ev";refine⟨p,_,_,rfl,hn.ob,hsF_p,pd,[],rfl,hn.hp,t,[],rfl,hn.hp,rfl,?_⟩;rw[e1];clear e1;walk_at "ev";intro q hq;have pq:p≠q:=dne hn.ob hq;have ef:zal ("turned" : Str) (.ref q) (hsF zd pd td)=hsF zd pd q:=by rfl
 refine⟨p,_,rfl,by rw[Q0b pq];exact hn.ob,by show (3:Nat)<1000;decide,?_⟩
 show ∃ M0,Sub M0 (dupd (dupd M q (.oth (.dct []))) p (.oth (.ins "House" (zal ("turned" : Str) (.ref q) (hsF zd pd td)))))/\R .non M0;rw[ef];exact Q0f (h q hq)
theorem Q8p{zs:List Zn}{z:Zn}(n:List W)(h:atT zs z.t=none):atT (zs++[z]) n=if n=z.t then some z else atT zs n:=by
 unfold atT at h ⊢;rw[List.find?_append];by_cases e:n=z.t
 ·rw[Zg e,e,h];simp
 ·rw[Zc e];cases zs.find? fun y=>decide (y.t=n) with
  | some y=>rfl
  | none =>
   have:¬ z.t=n:=fun q=>e q.symm;simp[this]
noncomputable def sp_ah:DSp:=fun ds M R=>∃ (p zd pd td:Addr) (zs:List Zn) (z:Zn),ds=[.ref p,z.v]/\HN M p zd pd td zs/\atT zs z.t=none/\zs.length<=900 /\
 ∀ M' td',HN M' p zd pd td' (zs++[z])->M td'=none->(∀ b,b≠p->b≠zd->b≠td'->M' b=M b)->R .non M'
theorem ok_ah(T:Tab)(h334:T.mt 334=some ⟨"House","let_go",1,sp_as⟩):∀ ds M R,sp_ah ds M R->evS T b_ah (za0 R) (za1 ["self","zone"] ds) M:=by
 rintro ds M R ⟨p,zd,pd,td,zs,z,rfl,hn,ha,hl,h⟩;obtain⟨kz,z1,z2,z3⟩:=hn.hz;simp only[b_ah];refine Q0c fun k1 e1=>?_;simp only[Zn.v,zD];walk_at "ev";refine⟨p,_,_,rfl,hn.ob,hsF_z,?_⟩;walk_at "q0";refine⟨zd,z.t,kz,rfl,rfl,z1,small1000 (by omega),?_⟩
 have pz:p≠zd:=fun y=>by have:=hn.ob;rw[y,z1]at this;cases this
 have h1:HN (dupd M zd (.oth (.dct (putD kz z.t z.v)))) p zd pd td (zs++[z]):=by
  refine⟨by rw[Q0b pz];exact hn.ob,hn.n1,hn.n2,hn.n3,⟨_,Q0a,?_,fun n=>?_⟩,by rw[Q0b hn.n1.symm];exact hn.hp,by rw[Q0b hn.n2.symm];exact hn.ht,?_⟩
  ·have:=Q0y kz z.t z.v;rw[Zl,Yh];omega
  ·rw[Q0u,Q8p n ha];by_cases e:n=z.t
   ·rw[Zg e,Zg e];rfl
   ·rw[Zc e,Zc e];exact z3 n
  ·rw[ZC,nodup_append];refine⟨hn.nd,by simp,fun a h1 b h2 e=>?_⟩
   obtain⟨y,hy,ey⟩:=ZH.mp h1;have:=find?_eq_none.mp ha y hy;rw[List.map_singleton,Zp]at h2;exact this (Zo (by rw[ey,e,h2]))
 show k1 _ (dupd M zd (.oth (.dct (putD kz z.t z.v))));rw[e1];clear e1;walk_at "ev";simp only[h334];walk_at "ev";refine⟨p,_,rfl,h1.ob,Q0R,?_⟩;walk_at "q0";refine⟨p,zd,pd,td,zs++[z],z.t,rfl,h1,fun td' ft=>?_⟩;obtain⟨kz',y1,y2,y3⟩:=h1.hz;have tz:td'≠zd:=fun y=>by rw[y,Q0a]at ft;cases ft
 have tp:td'≠p:=fun y=>by rw[y,h1.ob]at ft;cases ft
 have tpd:td'≠pd:=fun y=>by rw[y,h1.hp]at ft;cases ft
 have pp:p≠pd:=fun y=>by have:=h1.ob;rw[y,h1.hp]at this;cases this
 refine Q0f (h _ td' ⟨Q0a,hn.n1,tz.symm,tpd.symm,⟨kz',by rw[Q0b pz.symm,Q0b tz.symm];exact y1,y2,y3⟩,by rw[Q0b pp.symm,Q0b tpd.symm];exact h1.hp,by rw[Q0b tp,Q0a],h1.nd⟩ (by rw[Q0b tz]at ft;exact ft) fun b b1 b2 b3=>by rw[Q0b b1,Q0b b3,Q0b b2])
theorem HX.hn{M0 M:DH}{p zd pd td:Addr}{fo:List Addr}(h:HX M0 M p zd pd td fo [] 0):HN M p zd pd td []:=by
 obtain⟨kz,a1,a2⟩:=h.hz;obtain⟨kp,b1,b2,_⟩:=h.hp;obtain⟨kt,c1,c2,_⟩:=h.ht;have e1:kp=[]:=length_eq_zero_iff.mp (Nat.le_zero.mp b2);have e2:kt=[]:=length_eq_zero_iff.mp (Nat.le_zero.mp c2);rw[e1]at b1;rw[e2]at c1;have e3:kz=[]:=by
  cases kz with
  | nil=>rfl
  | cons x r =>
   have:=a2 x.1;rw[Q0t rfl]at this;cases this
 rw[e3]at a1;exact⟨h.ob,h.n1,h.n2,h.n3,⟨[],a1,Zs _,fun n=>rfl⟩,b1,c1,nodup_nil⟩
theorem HN.stay{M M':DH}{p zd pd td:Addr}{zs:List Zn}(h:HN M p zd pd td zs)(e1:M' p=M p)(e2:M' zd=M zd)(e3:M' pd=M pd)(e4:M' td=M td):HN M' p zd pd td zs:=by
 obtain⟨kz,a1,a2,a3⟩:=h.hz;exact⟨e1.trans h.ob,h.n1,h.n2,h.n3,⟨kz,e2.trans a1,a2,a3⟩,e3.trans h.hp,e4.trans h.ht,h.nd⟩
noncomputable def wF(root:W)(now asks:Int)(sd:Addr):List (Str×D):=[(("root_door" : Str),.str root),(("now" : Str),.int now),(("times_asked" : Str),.int asks),(("street" : Str),.ref sd)]
noncomputable def b_aE:CS :=
  (.seq (.setf "World" "root_door" (.var 0) (.var 1))
  (.seq (.setf "World" "now" (.var 0) (.con (.int 0)))
  (.seq (.setf "World" "times_asked" (.var 0) (.con (.int 0)))
  (.seq (.setf "World" "street" (.var 0) .knew)
  .nil))))
noncomputable def b_at:CS :=
  (.seq (.ret (.fld "World" "times_asked" (.var 0)))
  .nil)
noncomputable def b_an:CS :=
  (.seq (.ret (.fld "World" "now" (.var 0)))
  .nil)
noncomputable def sp_aE:DSp:=fun ds M R=>∃ (p:Addr) (root:W),ds=[.ref p,.str root]/\M p=some (.oth (.ins "World" []))/\∀ sd,M sd=none->R .non (dupd (dupd M sd (.oth (.dkt []))) p (.oth (.ins "World" (wF root 0 0 sd))))
theorem ok_aE{T:Tab}:∀ ds M R,sp_aE ds M R->evS T b_aE (za0 R) (za1 ["self","root"] ds) M:=by
 rintro ds M R ⟨p,root,rfl,hp,h⟩;simp only[b_aE];walk_at "ev";refine⟨p,_,rfl,hp,by decide,p,_,rfl,Q0a,by show (1:Nat)<1000;decide,p,_,rfl,Q0a,by show (2:Nat)<1000;decide,fun sd hsd=>?_⟩
 simp only[Q1k]at hsd ⊢;have ps:sd≠p:=fun z=>by rw[z,Q0a]at hsd;cases hsd
 rw[Q0b ps]at hsd;refine⟨p,_,rfl,by rw[Q0b ps.symm];exact Q0a,by show (3:Nat)<1000;decide,?_⟩
 have ef:zal ("street" : Str) (.ref sd) (zal ("times_asked" : Str) (.int 0) (zal ("now" : Str) (.int 0) (zal ("root_door" : Str) (.str root) [])))=wF root 0 0 sd:=by rfl
 have eM:∀ X Y Z:MO,dupd (dupd (dupd M p X) sd Y) p Z=dupd (dupd M sd Y) p Z:=fun X Y Z=>by
  funext b
  by_cases e1:b=p
  ·rw[e1,Q0a,Q0a]
  ·rw[Q0b e1,Q0b e1];by_cases e2:b=sd
   ·rw[e2,Q0a,Q0a]
   ·rw[Q0b e2,Q0b e2,Q0b e1]
 rw[eM];refine Q0f ?_;have:=h sd hsd;rw[<- ef]at this;exact this
noncomputable def sp_an:DSp:=fun ds M R=>∃ (p sd:Addr) (root:W) (now asks:Int),ds=[.ref p]/\M p=some (.oth (.ins "World" (wF root now asks sd)))/\R (.int now) M
theorem ok_an{T:Tab}:∀ ds M R,sp_an ds M R->evS T b_an (za0 R) (za1 ["self"] ds) M:=by
 rintro ds M R ⟨p,sd,root,now,asks,rfl,hp,h⟩;simp only[b_an];walk_at "ev";exact⟨p,_,_,rfl,hp,(Q0j (by decide +kernel)).trans Q1b,Q0f h⟩
noncomputable def sp_at:DSp:=fun ds M R=>∃ (p sd:Addr) (root:W) (now asks:Int),ds=[.ref p]/\M p=some (.oth (.ins "World" (wF root now asks sd)))/\R (.int asks) M
theorem ok_at{T:Tab}:∀ ds M R,sp_at ds M R->evS T b_at (za0 R) (za1 ["self"] ds) M:=by
 rintro ds M R ⟨p,sd,root,now,asks,rfl,hp,h⟩;simp only[b_at];walk_at "ev";exact⟨p,_,_,rfl,hp,(Q0j (by decide +kernel)).trans ((Q0j (by decide +kernel)).trans Q1b),Q0f h⟩
noncomputable def b_a6:CS :=
  (.seq (.set 4 (.meth 323 (.var 0) (.cons (.var 1) .nil)))
  (.seq (.ret (.ite (.cmp .isN (.var 4) (.con .non)) (.tup (.cons (.glob 18) .nil)) (.meth 310 (.var 4) (.cons (.var 2) (.cons (.var 3) .nil)))))
  .nil))
noncomputable def b_aB:CS :=
  (.seq (.set 3 (.meth 322 (.var 0) (.cons (.var 1) .nil)))
  (.seq (.set 4 (.tup (.cons (.var 3) (.cons (.fzt (.meth 328 (.var 0) (.cons (.var 3) (.cons (.var 1) (.cons (.var 2) .nil))))) .nil))))
  (.seq (.ite (.cmp .eq (.ix (.ix (.var 4) (.con (.int 1))) (.con (.int 0))) (.glob 12))
  (.seq (.dput (.fld "House" "turned" (.var 0)) (.var 1) (.var 4))
  .nil)
  .nil)
  (.seq (.ret (.var 4))
  .nil))))
noncomputable def b_ar:CS :=
  (.seq (.set 4 (.lst .nil))
  (.seq (.set 5 (.disp1 (.var 2) (.con (.bl true))))
  (.seq (.whil (.and (.cmp .eq (.ix (.var 1) (.con (.int 0))) (.glob 12)) (.cmp .ninD (.ix (.var 1) (.con (.int 1))) (.var 5)))
  (.seq (.set 6 (.ix (.var 1) (.con (.int 1))))
  (.seq (.dput (.var 5) (.var 6) (.con (.bl true)))
  (.seq (.set 7 (.ite (.cmp .inD (.var 6) (.fld "House" "turned" (.var 0))) (.dix (.fld "House" "turned" (.var 0)) (.var 6)) (.meth 339 (.var 0) (.cons (.var 6) (.cons (.var 3) .nil)))))
  (.seq (.set 1 (.ix (.var 7) (.con (.int 1))))
  (.seq (.ite (.cmp .ne (.ix (.var 1) (.con (.int 0))) (.glob 18))
  (.seq (.ex (.ml .append (.var 4) (.cons (.tup (.cons (.ix (.var 7) (.con (.int 0))) (.cons (.var 6) (.cons (.var 3) (.cons (.var 1) .nil))))) .nil)))
  .nil)
  .nil)
  .nil))))))
  (.seq (.ret (.var 4))
  .nil))))
noncomputable def b_ae:CS :=
  (.seq (.set 4 (.meth 328 (.var 0) (.cons (.var 1) (.cons (.var 2) (.cons (.var 3) .nil)))))
  (.seq (.ret (.tup (.cons (.var 4) (.cons (.meth 336 (.var 0) (.cons (.var 4) (.cons (.var 2) (.cons (.var 3) .nil)))) .nil))))
  .nil))
noncomputable def b_aA:CS :=
  (.seq (.ret (.meth 337 (.call 62 (.cons (.var 0) (.cons (.var 1) .nil))) (.cons (.var 2) (.cons (.var 3) (.cons (.var 4) .nil)))))
  .nil)
theorem HX.grow(h:HX M0 M p zd pd td fo zs c)(s:Sub M M')(hq:M q=none)(hq':M' q=some o):HX M0 M' p zd pd td (q::fo) zs c:=by
 have h2:=h.mono s;exact { h2 with
  fp:=Zk _ h.fp
  ft:=Zk _ h.ft
  fi:=fun c hc=>by
   rcases Zw.mp hc with rfl | hc
   ·exact⟨o,hq'⟩
   ·exact h2.fi c hc
  hp:=by
   obtain⟨kp,e1,e2,e3⟩:=h.hp;refine⟨kp,s _ _ e1,e2,fun n v e=>?_⟩;obtain⟨z,pg,q1,q2,q3⟩:=e3 n v e;exact⟨z,pg,q1,q2,(q3.add hq).mono s⟩ }
noncomputable def RepG(fo:List Addr)(M M':DH)(d d':D):Prop:=∃ ps,d'=.tup ps/\((d=d'/\∀ ys,D.lst ys∉ps)\/∃ q xs,q∈fo/\M q=none/\M' q=some (.lst xs)/\xs.length<=900/\(∀ ys,D.lst ys∈ps->ys=xs)/\d=.tup (ps.map (thaw q)))
theorem RepG.m(h:RepG fo M M' d d'):RepM M M' d d':=by
 obtain⟨ps,e,h | ⟨q,xs,_,h⟩⟩:=h
 ·exact⟨ps,e,.inl h⟩
 ·exact⟨ps,e,.inr ⟨q,xs,h⟩⟩
noncomputable def sp_a6:DSp:=fun ds M R=>∃ (M0:DH) (p zd pd td:Addr) (fo:List Addr) (zs:List Zn) (c:Nat) (t:Option (List W)) (n:List W) (k:W),ds=[.ref p,onm t,dn n,.str k]/\HX M0 M p zd pd td fo zs c/\(∀ z∈zs,ZnOk z)/\c<=100000 /\
 ¬ IsN k/\n.length<=900/\(∀ a,t=some a->n.take a.length=a)/\∀ d M' fo',HX M0 M' p zd pd td fo' zs (c+1)->(∀ b∈fo,b∈fo')->HSub pd td M M'->RepG fo' M M' d (repO zs t n k)->R d M'
theorem ok_a6(T:Tab)(h310:T.mt 310=some ⟨"Page","reply",2,sp_au⟩)(h323:T.mt 323=some ⟨"House","page",1,sp_aM⟩)(h18:T.con 18=some (("AWAY" : Str),D.str [97,119,97,121])):∀ ds M R,sp_a6 ds M R->evS T b_a6 (za0 R) (za1 ["self","top","name","kind","page"] ds) M:=by
 rintro ds M R ⟨M0,p,zd,pd,td,fo,zs,c,t,n,k,rfl,H,hok,hc,hk,hn,ht,h⟩;simp only[b_a6];refine Q0c fun k1 e1=>?_;walk_at "ev";simp only[h323];walk_at "ev";refine⟨p,_,rfl,H.ob,Q0R,M0,p,zd,pd,td,fo,zs,c,t,rfl,H,hok,hc,fun en=>?_,fun z ez pg M' H' S' hx=>?_⟩
 ·rw[e1];clear e1;walk_at "ev";simp only[h18];walk_at "ev";refine⟨szL (by decide),Q0f (h _ M fo (H.le (le_succ c)) (fun b hb=>hb) (HSub.refl pd td M) ?_)⟩
  rw[Q0T en];exact⟨_,rfl,.inl ⟨rfl,fun ys z=>by
   simp only[Zw,Z4,ZP]at z;cases z⟩⟩
 ·rw[e1];clear e1;walk_at "ev";simp only[h310];walk_at "ev";obtain⟨r,d,s,kr,kd,ks,G,_⟩:=id hx;cases t with
  | none=>cases ez
  | some a =>
   have ea:=atT_t (show atT zs a=some z from ez);refine⟨pg,_,rfl,G.ob,Q1s,pg,n,k,M0,z.t,z.l,z.r,rfl,hx.page,(hok z (Q1S ez)).good,hk,hn,by rw[ea];exact ht a rfl,fun d M2 s2 r2=>?_⟩
   rw[<- Q0S (zs:=zs) (t:=some a) (n:=n) (k:=k) ez]at r2;obtain⟨ps,e,r2 | ⟨q,xs,h1,h2,h3,h4,h5⟩⟩:=r2
   ·exact Q0f (h d M2 fo (H'.mono s2) (fun b hb=>hb) (S'.trans (HSub.of s2)) ⟨ps,e,.inl r2⟩)
   ·have hMq:M q=none:=by
     cases em:M q with
     | none=>rfl
     | some o =>
      obtain⟨kp,p1,_⟩:=H'.hp;obtain⟨kt,t1,_⟩:=H'.ht;have:=S' q o (fun z=>by rw[z,p1]at h1;cases h1) (fun z=>by rw[z,t1]at h1;cases h1) em
      rw[h1]at this;cases this
    exact Q0f (h d M2 (q::fo) (H'.grow s2 h1 h2) (fun b hb=>Zk _ hb) (S'.trans (HSub.of s2)) ⟨ps,e,.inr ⟨q,xs,Zv,hMq,h2,h3,h4,h5⟩⟩)
theorem Q1T(h:ZnOk z)(n:List W)(k:W)(j:Nat):∃ ps,za9 z.t z.l z.r n k=.tup ps/\ps.length<=10/\ps.all (plain (j+3))=true:=by
 have pv:∀ xs:List Rw,plain (j+3) (zaN xs)=true:=fun xs=>by
  unfold zaN;show ((zbk (xs.map fun x=>zaf x.v)).map D.str).all (plain (j+2))=true;rw[ZN];intro d hd;obtain⟨w,_,rfl⟩:=ZH.mp hd;rfl
 cases ec:cutN z.t z.r n with
 | some c =>
  have hs:=find?_some (show _=some c from ec);rw[Q0P]at hs;cases ed:zae z.r c with
  | none=>rw[ed]at hs;cases hs
  | some x =>
   refine⟨_,(Q1z ec ed).trans rfl,by simp only[Zi,Z8];omega,?_⟩
   simp only[ZU,all_nil,Q0E (j+1),pv,(h.r x (Q0F ed).1).v (j+1),Bool.and_true,Bool.true_and];rfl
 | none =>
  rw[Q1o ec];unfold zaj;by_cases hn:(zaa z.t z.r n).drop ((zaa z.t z.r n).length-1)=[[42]]/\atN z.r (zaa z.t z.r n)=[]
  ·rw[Zg hn];exact⟨_,rfl,by simp only[Zi,Z8];omega,rfl⟩
  ·rw[Zc hn];unfold zaz;cases ee:za3 (atN z.r (zaa z.t z.r n)) za8 with
   | cons x r =>
    have hx:x∈za3 (atN z.r (zaa z.t z.r n)) za8:=by rw[ee];exact Zv
    refine⟨_,rfl,by simp only[Zi,Z8];omega,?_⟩
    simp only[ZU,all_nil,(h.r x (Q1d (Q0Q hx).1).1).v (j+1),Bool.and_true,Bool.true_and];rfl
   | nil =>
    cases za3 (atN z.r (zaa z.t z.r n)) k with
    | nil=>exact⟨_,rfl,by simp only[Zi,Z8];omega,rfl⟩
    | cons x r =>
     refine⟨_,rfl,by simp only[Zi,Z8];omega,?_⟩
     simp only[ZU,all_nil,pv,Bool.and_true,Bool.true_and];rfl
theorem Q6H(h:∀ z∈zs,ZnOk z)(t:Option (List W))(n:List W)(k:W):∃ ps,repO zs t n k=.tup ps/\ps.all (plain 11)=true:=by
 cases e:t.bind (atT zs) with
 | none=>exact⟨_,Q0T e,rfl⟩
 | some z =>
  cases t with
  | none=>cases e
  | some a =>
   obtain⟨ps,e1,e2,e3⟩:=Q1T (h z (Q1S e)) n k 8;exact⟨ps,(Q0S e).trans e1,e3⟩
theorem Q3I{ps:List D}{q:Addr}{xs:List D}{n:Nat}(h:ps.all (plain n)=true)(hx:∀ ys,D.lst ys∈ps->ys=xs):(ps.map (thaw q)).map (subR q xs)=ps:=by
 rw[ZT]
 conv=>rhs;rw[<- map_id ps]
 refine Yj fun d hd=>?_;have hp:=ZN.mp h d hd;cases d with
 | lst ys =>
  show (if q=q then D.lst xs else .ref q)=.lst ys
  rw[Zg rfl,hx ys hd]
 | ref a=>cases n <;> simp[DL.plain]at hp
 | _=>rfl
noncomputable abbrev sp_aB:DSp:=sp_House_nearby
theorem ok_aB(T:Tab)(h325:T.mt 328=some ⟨"House","reply",3,sp_a6⟩)(h322:T.mt 322=some ⟨"House","nearest_top",1,sp_aG⟩)(h12:T.con 12=some (("ELSE" : Str),D.str [101,108,115,101])):∀ ds M R,sp_aB ds M R->evS T b_aB (za0 R) (za1 ["self","name","kind","top","told"] ds) M:=by
 rintro ds M R ⟨M0,p,zd,pd,td,fo,zs,c,n,k,rfl,H,hok,hc,hk,hn,h⟩;simp only[b_aB];refine Q0c fun k1 e1=>?_;walk_at "ev";simp only[h322];walk_at "ev";refine⟨p,_,rfl,H.ob,Q0R,p,zs,n,rfl,H.house,hn,?_⟩;rw[e1];clear e1;refine Q0c fun k1 e1=>?_;walk_at "ev";simp only[h325];walk_at "ev";have hr:RepF (repO zs (upT zs n) n k):=(Q6y hok (upT zs n) n k).f;obtain⟨w,r,er,hw⟩:=hr;have go:∀ M',HX M0 M' p zd pd td fo zs (c+1)->HSub pd td M M'->k1 [some (.ref p),some (dn n),some (.str k),some (onm (upT zs n)),some (.tup [onm (upT zs n),repO zs (upT zs n) n k])] M':=by
  intro M' H' S';rw[e1];clear e1;refine Q0c fun k1 e1=>?_;have fin:∀ M2,HX M0 M2 p zd pd td fo zs (c+2)->HSub pd td M M2->k1 [some (.ref p),some (dn n),some (.str k),some (onm (upT zs n)),some (.tup [onm (upT zs n),repO zs (upT zs n) n k])] M2:=by
   intro M2 H2 S2;rw[e1];walk_at "ev";exact Q0f (h M2 H2 S2)
  walk_at "ev";simp only[h12];walk_at "ev";walk_at "q0";rw[er];refine ix_tup (by decide) (by simp only[Zi];omega) fun d0 hd0=>?_
  cases hd0
  try walk_at "ev"
  refine⟨rfl,rfl,ite2 (fun q=>?_) fun q=>?_⟩
  ·rw[Ze]at q;obtain⟨kt,t1,t2,t3⟩:=H'.ht;rw[<- er];refine⟨p,_,_,rfl,H'.ob,hsF_t,td,n,kt,rfl,rfl,t1,smallM (by omega),?_⟩
   cases eu:up zs n (n.length+1) with
   | none =>
    have e9:=Q0T (zs:=zs) (t:=upT zs n) (n:=n) (k:=k) (by rw[Q2S];exact eu)
    rw[er]at e9;injection e9 with e9;injection e9 with e9 _;injection e9 with e9;rw[e9]at q;exact absurd q (by decide)
   | some z =>
    have es:=Q2D (k:=k) eu;obtain⟨me,le,ee,_⟩:=hw q;refine fin _ (H'.putT t1 t2 eu (fun k' hk'=>?_) ⟨_,me,le,by rw[er,ee,q];rfl⟩) S'.putT
    show zb9 zs n k=_;rw[es];rcases Q1N (hok z (up_in eu)) n with ⟨m,l,e,_⟩ | e
    ·rw[e k,e k']
    ·obtain⟨w',r',e',e2,_⟩:=e k;unfold zb9 at es;injection es with es;injection es with _ es;injection es with es _;rw[er,e']at es;injection es with es;injection es with es _;injection es with es;exact absurd (es.symm.trans q) e2
  ·rw[<- er];exact fin M' (H'.le (by omega)) S'
 refine⟨p,_,rfl,H.ob,Q0R,M0,p,zd,pd,td,fo,zs,c,upT zs n,n,k,rfl,H,hok,hc,hk,hn,fun a ea=>Q8k ea,fun d M' fo' H' hs S' hd=>?_⟩;have hpd:=hs _ H.fp;have htd:=hs _ H.ft;obtain⟨ps0,e0,hp0⟩:=Q6H hok (upT zs n) n k;obtain⟨ps,e,⟨rfl,_⟩ | ⟨q,xs,hqf,h1,h2,h3,h4,rfl⟩⟩:=hd
 ·exact .inr ⟨szL (by decide),go M' (H'.less hs H.fp H.ft) S'⟩
 ·have ep:ps0=ps:=by rw[e0]at e;injection e
  subst ep;have es:subT q xs (.tup (ps0.map (thaw q)))=repO zs (upT zs n) n k:=by
   show D.tup ((ps0.map (thaw q)).map (subR q xs))=_;rw[Q3I hp0 h4,e0]
  obtain⟨kz,z1,_⟩:=H'.hz;obtain⟨kp,p1,_⟩:=H'.hp;obtain⟨kt,t1,_⟩:=H'.ht;refine .inl ⟨q,xs,h2,szL (by decide),?_⟩
  rw[es];refine go _ (H'.del (b:=q) hqf (H.sub.none h1) (mne h2 H'.ob (fun z=>nomatch z)) (mne h2 z1 (fun z=>nomatch z)) (mne h2 p1 (fun z=>nomatch z)) (mne h2 t1 (fun z=>nomatch z)) (fun c hc=>⟨hs c hc,fun z=>?_⟩) H.fp H.ft) (fun b o n1 n2 hb=>?_)
  ·obtain⟨o,ho⟩:=H.fi c hc;rw[z,h1]at ho;cases ho
  ·unfold ddel;rw[Zc (dne hb h1)];exact S' b o n1 n2 hb
noncomputable def sp_ar:DSp:=fun ds M R=>∃ (M0:DH) (p zd pd td:Addr) (fo:List Addr) (zs:List Zn) (c:Nat) (rep:D) (n:List W) (k:W) (E:List (List W)),ds=[.ref p,rep,dn n,.str k]/\HX M0 M p zd pd td fo zs c/\(∀ z∈zs,ZnOk z)/\c+2 * E.length<=100000 /\
 ¬ IsN k/\RepIn E rep/\(∀ m∈zap zs,m∈E)/\∀ M' q out,HX M0 M' p zd pd td (q::fo) zs (c+2 * E.length)->HSub pd td M M'->zan zs k [n] rep out->M q=none->M' q=some (.lst out)->out.length<=E.length->R (.ref q) M'
theorem ok_ar(T:Tab)(h327:T.mt 339=some ⟨"House","nearby",2,sp_aB⟩)(h12:T.con 12=some (("ELSE" : Str),D.str [101,108,115,101]))(h18:T.con 18=some (("AWAY" : Str),D.str [97,119,97,121])) :
  ∀ ds M R,sp_ar ds M R->evS T b_ar (za0 R) (za1 ["self","reply","name","kind","others","spoken_of","other","told"] ds) M:=by
 rintro ds M R ⟨M0,p,zd,pd,td,fo,zs,c,rep,n,k,E,rfl,H,hok,hc,hk,hrep,hE,h⟩;simp only[b_ar];refine Q0c fun k1 e1=>?_;walk_at "ev";refine⟨szL (by decide),fun q hq=>?_⟩
 rw[e1];clear e1;refine Q0c fun k1 e1=>?_;walk_at "ev";intro sd hsd;refine⟨n,rfl,Q0a,?_⟩;rw[e1];clear e1;rw[Q1k];have hsd':M sd=none:=by
  cases e:M sd with
  | none=>rfl
  | some o=>rw[Sub.new hq _ _ e]at hsd;cases hsd
 have hqs:q≠sd:=fun z=>by subst z;rw[Q0a]at hsd;cases hsd
 have H1:=(H.add (o:=.lst []) hq).add (o:=.oth (.dct [(n,.bl true)])) hsd;have f1:=H.sub.none hq;have f2:=H.sub.none hsd';obtain⟨kz,z1,_⟩:=H.hz;obtain⟨kp,p1,_⟩:=H.hp;obtain⟨kt,t1,_⟩:=H.ht;have q1:q≠p:=(dne H.ob hq).symm;have q2:q≠zd:=(dne z1 hq).symm;have q3:q≠pd:=(dne p1 hq).symm;have q4:q≠td:=(dne t1 hq).symm;have s1:sd≠p:=(dne H.ob hsd').symm;have s2:sd≠zd:=(dne z1 hsd').symm;have s3:sd≠pd:=(dne p1 hsd').symm;have s4:sd≠td:=(dne t1 hsd').symm;have S1:HSub pd td M (dupd (dupd M q (.lst [])) sd (.oth (.dct [(n,.bl true)]))):=((HSub.refl pd td M).put hq).put hsd';refine Q0c fun k1 e1=>?_;show zaO _ _ _ _ _;refine Q6C (fun j ρ M'=>∃ (sp:List (List W)) (ks:List (List W×D)) (rp:D) (out:List D) (v6 v7:Option D) (c':Nat),ρ=[some (.ref p),some rp,some (dn n),some (.str k),some (.ref q),some (.ref sd),v6,v7] /\
  HX M0 M' p zd pd td (sd::q::fo) zs c'/\HSub pd td M M'/\M' q=some (.lst out)/\M' sd=some (.oth (.dct ks))/\(∀ a,(valD ks a).isSome=true <-> a∈sp)/\RepIn E rp/\left E sp<=j/\c'+2 * j<=c+2 * E.length/\ks.length+j<=1+E.length/\out.length+j<=E.length /\
  ∀ rest,zan zs k sp rp rest->zan zs k [n] rep (out++rest)) ⟨E.length,[n],_,rep,[],none,none,c,rfl,H1,S1,by rw[Q0b hqs];exact Q0a,Q0a,fun a=>?_,hrep,Qah E [n],Zs _,Zs _,by simp,fun rest z=>z⟩ ?_
 ·by_cases e:n=a
  ·rw[Q0t (p:=(n,D.bl true)) e];simp[e]
  ·rw[Q0w (p:=(n,D.bl true)) e,Q7x];simp only[Option.isSome_none,ZD,Zp,false_iff];exact fun z=>e z.symm
 rintro j ρ M' ⟨sp,ks,rp,out,v6,v7,c',rfl,H',S',hq',hs',hks,hrp,hj,hj1,hj2,hj3,hch⟩ TB eTB;obtain⟨w,r,er,hw⟩:=hrp.f
 -- the loop's end
 have fin:zan zs k sp rp []->k1 [some (.ref p),some rp,some (dn n),some (.str k),some (.ref q),some (.ref sd),v6,v7] M':=by
  intro hz;rw[e1];walk_at "ev";have:=hch [] hz;rw[ZM]at this;exact Q0f (h M' q out ((H'.less (fun b hb=>Zk _ hb) (Zk _ H.fp) (Zk _ H.ft)).le (by omega)) S' this hq hq' (by omega))
 subst er;walk_at "ev";simp only[h12];walk_at "ev";refine ix_tup (by decide) (by simp only[Zi];omega) fun d0 hd0=>?_
 cases hd0
 try walk_at "ev"
 refine⟨rfl,rfl,ite2 (fun qe=>?_) fun qe=>?_⟩
 ·rw[Ze]at qe;obtain⟨m,l,rfl,hm⟩:=hw qe;subst qe;refine ix_tup (by decide) (by simp only[Zi];omega) fun d0 hd0=>?_
  cases hd0;refine⟨m,sd,ks,rfl,rfl,hs',?_⟩;cases ev:(valD ks m).isSome with
  | true =>
   refine iteF (fin (.stop fun m' l' e'=>?_));injection e' with e';injection e' with _ e';injection e' with e' _;rw[<- Q3F e'];exact (hks m).mp ev
  | false =>
   have hms:m∉sp:=fun z=>by rw[(hks m).mpr z]at ev;cases ev
   have hmE:m∈E:=hrp.i m l rfl;have hlc:=Q6B hms hmE;have hj0:1<=j:=by omega
   have eks:=Q0y ks m (.bl true);refine iteT ⟨fun ρ' M''=>∃ (rp:D) (out:List D) (v6 v7:Option D),ρ'=[some (.ref p),some rp,some (dn n),some (.str k),some (.ref q),some (.ref sd),v6,v7] /\
    HX M0 M'' p zd pd td (sd::q::fo) zs (c'+2)/\HSub pd td M M''/\M'' q=some (.lst out)/\M'' sd=some (.oth (.dct (putD ks m (.bl true))))/\RepIn E rp/\out.length+(j-1)<=E.length/\∀ rest,zan zs k (m::sp) rp rest->zan zs k [n] rep (out++rest),
    fun ρ' M'' ⟨rp,out,v6,v7,e,a1,a2,a3,a4,a5,a6,a7⟩=>⟨j-1,by omega,m::sp,_,rp,out,v6,v7,c'+2,e,a1,a2,a3,a4,fun a=>?_,a5,by omega,by omega,by omega,a6,a7⟩,?_⟩
   ·rw[Q0u];by_cases e:a=m
    ·rw[Zg e,e];simp
    ·rw[Zc e,hks a,Zw];exact⟨.inr,fun z=>z.resolve_left e⟩
   rw[eTB];clear eTB;refine Q0c fun k2 e2=>?_;walk_at "ev";refine ix_tup (by decide) (by simp only[Zi];omega) fun d0 hd0=>?_
   cases hd0;rw[e2];clear e2;refine Q0c fun k2 e2=>?_;walk_at "ev";refine⟨sd,m,ks,rfl,rfl,hs',smallM (by omega),?_⟩
   have H2:=H'.write (o:=.oth (.dct (putD ks m (.bl true)))) (by simp) f2 s1 s2 s3 s4
   have S2:=S'.put (o:=.oth (.dct (putD ks m (.bl true)))) hsd';have hq2:dupd M' sd (.oth (.dct (putD ks m (.bl true)))) q=some (.lst out):=by rw[Q0b hqs];exact hq'
   have hs2:dupd M' sd (.oth (.dct (putD ks m (.bl true)))) sd=some (.oth (.dct (putD ks m (.bl true)))):=Q0a;generalize dupd M' sd (.oth (.dct (putD ks m (.bl true))))=M2 at H2 S2 hq2 hs2;rw[e2];clear e2;refine Q0c fun k2 e2=>?_
   -- behind what was told
   have told:∀ M3,HX M0 M3 p zd pd td (sd::q::fo) zs (c'+2)->HSub pd td M2 M3->k2 [some (.ref p),some (.tup [.str za8,dn m,.int l]),some (dn n),some (.str k),some (.ref q),some (.ref sd),some (dn m),some (zb9 zs m k)] M3:=by
    intro M3 H3 S3;have hq3:=S3 q _ q3 q4 hq2;have hs3:=S3 sd _ s3 s4 hs2;rw[e2];clear e2;refine Q0c fun k2 e2=>?_;unfold zb9;walk_at "ev";walk_at "q0";rw[e2];clear e2;walk_at "ev";simp only[h18];walk_at "ev";cases eu:up zs m (m.length+1) with
    | none =>
     rw[Q0T (by rw[Q2S];exact eu)]
     walk_at "q0"
     try walk_at "ev"
     refine⟨rfl,rfl,?_⟩;have et:(!decide (zbn=[97,119,97,121]))=false:=by decide
     rw[et];refine iteF ⟨_,out,_,_,rfl,H3,S2.trans S3,hq3,hs3,Q6x E,by omega,fun rest hr=>?_⟩
     have er:=Q6A hr fun m l e=>by injection e with e;injection e with _ e;cases e
     subst er;exact hch [] (.off hms eu)
    | some z =>
     have zk:=hok z (up_in eu);have er:repO zs (upT zs m) m k=za9 z.t z.l z.r m k:=Q0S (by rw[Q2S];exact eu)
     have eo:onm (upT zs m)=dn z.t:=by unfold upT;rw[eu];rfl
     rw[er,eo];have hin:=(Q3G (up_in eu) zk m k).mono hE;have hw2:∃ (w:W) (r:List D),za9 z.t z.l z.r m k=.tup (.str w::r)/\w≠zbn:=by
      rcases Q1N zk m with ⟨m',l',e,_⟩ | e
      ·exact⟨_,_,e k,by decide⟩
      ·obtain⟨w,r,a1,_,a3⟩:=e k;exact⟨w,r,a1,a3⟩
     obtain⟨w,r,ew,hw3⟩:=hw2;have go:∀ d,d=za9 z.t z.l z.r m k->M3 q=some (.lst out)->(∃ (rp:D) (out':List D) (v6 v7:Option D),[some (D.ref p),some d,some (dn n),some (.str k),some (.ref q),some (.ref sd),some (dn m),some (.tup [dn z.t,d])]=[some (.ref p),some rp,some (dn n),some (.str k),some (.ref q),some (.ref sd),v6,v7] /\
       HX M0 (dupd M3 q (.lst (out++[.tup [dn z.t,dn m,.str k,d]]))) p zd pd td (sd::q::fo) zs (c'+2)/\HSub pd td M (dupd M3 q (.lst (out++[.tup [dn z.t,dn m,.str k,d]])))/\dupd M3 q (.lst (out++[.tup [dn z.t,dn m,.str k,d]])) q=some (.lst out')/\dupd M3 q (.lst (out++[.tup [dn z.t,dn m,.str k,d]])) sd=some (.oth (.dct (putD ks m (.bl true))))/\RepIn E rp/\out'.length+(j-1)<=E.length/\∀ rest,zan zs k (m::sp) rp rest->zan zs k [n] rep (out'++rest)):=by
      intro d ed _;refine⟨d,_,_,_,rfl,H3.write (by simp) f1 q1 q2 q3 q4,(S2.trans S3).put hq,Q0a,by rw[Q0b hqs.symm];exact hs3,by rw[ed];exact hin,by rw[Zl];show out.length+1+(j-1)<=_;omega,fun rest hr=>?_⟩
      rw[List.append_assoc];subst ed;exact hch _ (.step hms eu hr)
     have g2:=go _ rfl hq3;clear go;generalize za9 z.t z.l z.r m k=d at ew g2;subst ew;refine ix_tup (by decide) (by simp only[Zi];omega) fun d0 hd0=>?_
     cases hd0
     try walk_at "ev"
     refine⟨rfl,rfl,?_⟩;have et:(!decide (w=[97,119,97,121]))=true:=by
      rw[Z5 (show ¬ w=[97,119,97,121] from hw3)];rfl
     rw[et];refine iteT ?_;simp only[hq3];walk_at "q0";refine⟨szL (by decide),?_⟩
     simp only[hq3];exact⟨smallM (by omega),g2⟩
   walk_at "ev";obtain⟨kt,t1,t2,t3⟩:=H2.ht;refine⟨p,_,_,rfl,H2.ob,hsF_t,m,td,kt,rfl,rfl,t1,?_⟩;cases et:valD kt m with
   | some v =>
    obtain⟨z,a1,a2,_⟩:=t3 m v et;refine iteT ⟨p,_,_,rfl,H2.ob,hsF_t,m,td,kt,v,rfl,rfl,t1,et,?_⟩;have ev:v=zb9 zs m k:=by rw[Q2D a1];exact a2 k hk
    rw[ev];exact told M2 (H2.le (by omega)) (HSub.refl pd td M2)
   | none =>
    refine iteF ?_;simp only[h327];walk_at "ev";exact⟨p,_,rfl,H2.ob,Q0R,M0,p,zd,pd,td,_,zs,c',m,k,rfl,H2,hok,by omega,hk,by omega,fun M3 H3 S3=>told M3 H3 S3⟩
 ·refine fin (.stop fun m' l' e'=>?_);injection e' with e';injection e' with e' _;injection e' with e';exact absurd e' (by rw[Ze]at qe;exact qe)
theorem HSub.free(H:HX M0 M' p zd pd td fo zs c)(S:HSub pd td M M')(h:M' q=none):M q=none:=by
 cases em:M q with
 | none=>rfl
 | some o =>
  obtain⟨kp,p1,_⟩:=H.hp;obtain⟨kt,t1,_⟩:=H.ht;have:=S q o (fun z=>by rw[z,p1]at h;cases h) (fun z=>by rw[z,t1]at h;cases h) em
  rw[h]at this;cases this
noncomputable def sp_ae:DSp:=fun ds M R=>∃ (M0:DH) (p zd pd td:Addr) (fo:List Addr) (zs:List Zn) (c:Nat) (t n:List W) (k:W),ds=[.ref p,dn t,dn n,.str k]/\HX M0 M p zd pd td fo zs c/\(∀ z∈zs,ZnOk z)/\c+2 * (zap zs).length+1<=100000 /\
 ¬ IsN k/\n.length<=900/\n.take t.length=t/\∀ d M' q out fo1,HX M0 M' p zd pd td (q::fo1) zs (c+1+2 * (zap zs).length)->(∀ b∈fo,b∈fo1)->q∉fo1->HSub pd td M M'->M q=none->M' q=some (.lst out)->RepG fo1 M M' d (repO zs (some t) n k)->out.length<=(zap zs).length->zan zs k [n] (repO zs (some t) n k) out->R (.tup [d,.ref q]) M'
theorem ok_ae(T:Tab)(h336:T.mt 336=some ⟨"House","beside",3,sp_ar⟩)(h328:T.mt 328=some ⟨"House","reply",3,sp_a6⟩):∀ ds M R,sp_ae ds M R->evS T b_ae (za0 R) (za1 ["self","top","name","kind","reply"] ds) M:=by
 rintro ds M R ⟨M0,p,zd,pd,td,fo,zs,c,t,n,k,rfl,H,hok,hc,hk,hn,ht,h⟩;simp only[b_ae];refine Q0c fun k1 e1=>?_;walk_at "ev";simp only[h328];walk_at "ev";refine⟨p,_,rfl,H.ob,Q0R,M0,p,zd,pd,td,fo,zs,c,some t,n,k,rfl,H,hok,by omega,hk,hn,(fun a ha=>by cases ha;exact ht),fun d M' fo1 H' hs S' hd=>?_⟩
 rw[e1];clear e1;walk_at "ev";simp only[h336];walk_at "ev";refine⟨p,_,rfl,H'.ob,Q0R,M0,p,zd,pd,td,fo1,zs,c+1,d,n,k,zap zs,rfl,H',hok,by omega,hk,hd.m.repIn (Q6y hok (some t) n k),(fun m hm=>hm),fun M2 q out H2 S2 hch hq hq2 hl=>⟨szL (by decide),Q0f (h d M2 q out fo1 H2 hs (fun z=>?_) (S'.trans S2) (HSub.free H' S' hq) hq2 ?_ hl (hd.m.chain hch))⟩⟩
 ·obtain⟨o,ho⟩:=H'.fi q z;rw[hq]at ho;cases ho
 ·obtain⟨kp,p1,_⟩:=H'.hp;obtain⟨kt,t1,_⟩:=H'.ht;obtain⟨ps,e,hd | ⟨x,xs,h0,h1,h2,h3,h4,h5⟩⟩:=hd
  ·exact⟨ps,e,.inl hd⟩
  ·exact⟨ps,e,.inr ⟨x,xs,h0,h1,S2 x _ (mne h2 p1 (fun z=>nomatch z)) (mne h2 t1 (fun z=>nomatch z)) h2,h3,h4,h5⟩⟩
noncomputable def sp_aA:DSp:=fun ds M R=>∃ (a:Addr) (zs:List Zn) (w:W) (t n:List W) (k:W),ds=[.ref a,.str w,dn t,dn n,.str k]/\HsOk M a zs/\ZsOk zs/\¬ IsN k/\n.length<=900/\n.take t.length=t /\
 ∀ d M' q out,Sub M M'->M q=none->M' q=some (.lst out)->out.length<=480->zan (ofD zs w) k [n] (repO (ofD zs w) (some t) n k) out->R (.tup [d,.ref q]) M'
theorem ok_aA(T:Tab)(h337:T.mt 337=some ⟨"House","speak",3,sp_ae⟩)(h62:T.fn 62=some ⟨"house_at",2,[],sp_am⟩):∀ ds M R,sp_aA ds M R->evS T b_aA (za0 R) (za1 ["houses","door","T","N","K"] ds) M:=by
 rintro ds M R ⟨a,zs,w,t,n,k,rfl,hs,hz,hk,hn,ht,h⟩;simp only[b_aA];walk_at "ev";simp only[h62,h337];walk_at "ev";refine⟨a,zs,w,rfl,hs,hz,fun p zd pd td M' H=>?_⟩;have hE:=hz.few w;exact⟨p,_,rfl,H.ob,Q0R,M,p,zd,pd,td,_,ofD zs w,0,t,n,k,rfl,H,hz.of w,by omega,hk,hn,ht,fun d M2 q out fo1 H2 hf hqf S2 hq hq2 hd hl hch=>Q0f (h d M2 q out H2.sub (H.sub.none hq) hq2 (by omega) hch)⟩
noncomputable def b_a8:CS :=
  (.seq (.ret (.tup (.cons (.ix (.var 0) (.con (.int 0))) (.cons (.ix (.var 0) (.con (.int 1))) (.cons (.frz (.blt .list (.cons (.ix (.var 0) (.con (.int 2))) .nil))) .nil)))))
  .nil)
noncomputable def b_ax:CS :=
  (.seq (.ex (.meth 333 (.ksetd (.fld "World" "street" (.var 0)) (.var 1) (.make 320 (.cons (.lstz .nil) .nil))) (.cons (.call 63 (.cons (.var 2) .nil)) .nil)))
  (.seq (.faug "World" "now" (.var 0) (.con (.int 1)))
  .nil))
noncomputable def b_aP:CS :=
  (.seq (.set 5 (.make 360 (.cons (.var 4) .nil)))
  (.seq (.for1 6 (.rng1 (.con (.int 5)))
  (.seq (.ite (.cmp .notN (.ix (.var 3) (.var 6)) (.con .non))
  (.seq (.ex (.meth 366 (.var 5) (.cons (.ix (.var 3) (.var 6)) (.cons (.call 111 (.cons (.var 0) (.cons (.var 1) (.cons (.var 2) (.cons (.var 6) .nil))))) .nil))))
  .nil)
  .nil)
  .nil))
  (.seq (.ret (.var 5))
  .nil)))
noncomputable def sp_a8:DSp:=fun ds M R=>∃ z:Zn,ds=[z.v]/\R z.v M
theorem ok_a8:∀ ds M R,sp_a8 ds M R->evS T b_a8 (za0 R) (za1 ["zone"] ds) M:=by
 rintro ds M R ⟨z,rfl,h⟩;simp only[b_a8,Zn.v,zD];walk_at "ev";have ix:∀ (n:Nat) (d:D) (Q:DK) (M:DH),n<3->([dn z.t,.int z.l,.lst (z.r.map Rw.d)]:List D)[n]? = some d->Q d M->rIxD (.tup [dn z.t,.int z.l,.lst (z.r.map Rw.d)]) (.int (n:Int)) M Q:=fun n d Q M hn hd hq=>ix_tup (by omega) (by simp only[Zi,Z8];omega) fun d0 hd0=>by
  rw[Z7,hd]at hd0;cases hd0;exact hq
 refine ix 0 _ _ _ (by decide) rfl (ix 1 _ _ _ (by decide) rfl ?_)
 simp only[dFrz];walk_at "ev";refine ix 2 _ _ _ (by decide) rfl ?_
 walk_at "ev";intro p hp;simp only[Q0a,Q1e hp];exact⟨szL (by decide),Q0f h⟩
structure Hr where
 p:Addr
 zd:Addr
 pd:Addr
 td:Addr
noncomputable def Hr.ad(h:Hr):List Addr:=[h.p,h.zd,h.pd,h.td]
noncomputable def stK(ks:List W)(rc:W->Hr):List (W×D):=ks.map fun w=>(w,.ref (rc w).p)
theorem Q1O(rc:W->Hr)(o:W):∀ ks:List W,valT (stK ks rc) o=if o∈ks then some (.ref (rc o).p) else none
 | []=>rfl
 | w::ks=>by
  unfold stK;rw[Z6];by_cases e:w=o
  ·subst e;rw[Q0z rfl,Zg Zv]
  ·rw[Q0A e];have ih:=Q1O rc o ks;unfold stK at ih;rw[ih];by_cases h:o∈ks
   ·rw[Zg h,Zg (Zk _ h)]
   ·rw[Zc h,Zc fun z=>(Zw.mp z).elim (fun y=>e y.symm) h]
structure WB(M0 M:DH)(wp sd:Addr)(root:W)(now asks:Int)(ks:List W)(rc:W->Hr)(zs:List Zn):Prop where
 ob:M wp=some (.oth (.ins "World" (wF root now asks sd)))
 st:M sd=some (.oth (.dkt (stK ks rc)))
 f1:M0 wp=none
 f2:M0 sd=none
 sub:Sub M0 M
 hn:∀ w∈ks,HN M (rc w).p (rc w).zd (rc w).pd (rc w).td (ofD zs w)
 fr:∀ w∈ks,∀ b∈(rc w).ad,M0 b=none
 ap:∀ w∈ks,∀ w'∈ks,∀ b,b∈(rc w).ad->b∈(rc w').ad->w=w'
 no:∀ w,w∉ks->ofD zs w=[]
theorem HN.mono(h:HN M p zd pd td zs)(s:Sub M M'):HN M' p zd pd td zs:=by
 obtain⟨kz,a1,a2,a3⟩:=h.hz;exact⟨s _ _ h.ob,h.n1,h.n2,h.n3,⟨kz,s _ _ a1,a2,a3⟩,s _ _ h.hp,s _ _ h.ht,h.nd⟩
theorem HN.kinds{M:DH}{h:Hr}{zs:List Zn}(hn:HN M h.p h.zd h.pd h.td zs){b:Addr}(hb:b∈h.ad):M b=some (.oth (.ins "House" (hsF h.zd h.pd h.td)))\/∃ kz,M b=some (.oth (.dct kz)):=by
 obtain⟨kz,a1,_⟩:=hn.hz;simp only[Hr.ad,Zw,Z4,ZP]at hb;rcases hb with rfl | rfl | rfl | rfl
 ·exact .inl hn.ob
 ·exact .inr ⟨kz,a1⟩
 ·exact .inr ⟨_,hn.hp⟩
 ·exact .inr ⟨_,hn.ht⟩
theorem HN.ex{M:DH}{h:Hr}{zs:List Zn}(hn:HN M h.p h.zd h.pd h.td zs){b:Addr}(hb:b∈h.ad):∃ o,M b=some o:=by
 rcases hn.kinds hb with e | ⟨_,e⟩ <;> exact⟨_,e⟩
theorem HN.nw{M:DH}{h:Hr}{zs:List Zn}(hn:HN M h.p h.zd h.pd h.td zs){b c:Addr}{fs:List (Str×D)}(hb:b∈h.ad)(hc:M c=some (.oth (.ins "World" fs))):c≠b:=fun e=>by
 rcases hn.kinds hb with z | ⟨_,z⟩ <;> rw[<- e,hc]at z
 ·injection z with z;injection z with z;injection z with z;exact absurd z (by decide +kernel)
 ·cases z
theorem HN.nk{M:DH}{h:Hr}{zs:List Zn}(hn:HN M h.p h.zd h.pd h.td zs){b c:Addr}{kvs:List (W×D)}(hb:b∈h.ad)(hc:M c=some (.oth (.dkt kvs))):c≠b:=fun e=>by
 rcases hn.kinds hb with z | ⟨_,z⟩ <;> rw[<- e,hc]at z <;> cases z
section
variable{M0 M M1 M2:DH}{wp sd:Addr}{root:W}{now asks:Int}{ks:List W}{rc:W->Hr}{zs:List Zn}{z:Zn}
theorem WB.mono(h:WB M0 M wp sd root now asks ks rc zs)(s:Sub M M1):WB M0 M1 wp sd root now asks ks rc zs :=
 ⟨s _ _ h.ob,s _ _ h.st,h.f1,h.f2,h.sub.trans s,fun w hw=>(h.hn w hw).mono s,h.fr,h.ap,h.no⟩
theorem WB.nws(h:WB M0 M wp sd root now asks ks rc zs):wp≠sd:=mne h.ob h.st (fun z=>nomatch z)
theorem ad_p(h:Hr):h.p∈h.ad:=by simp[Hr.ad]
theorem ad_z(h:Hr):h.zd∈h.ad:=by simp[Hr.ad]
theorem ad_g(h:Hr):h.pd∈h.ad:=by simp[Hr.ad]
theorem ad_t(h:Hr):h.td∈h.ad:=by simp[Hr.ad]
theorem HN.keep{h:Hr}{zs:List Zn}(hn:HN M h.p h.zd h.pd h.td zs)(e:∀ b∈h.ad,M1 b=M b):HN M1 h.p h.zd h.pd h.td zs:=hn.stay (e _ (ad_p h)) (e _ (ad_z h)) (e _ (ad_g h)) (e _ (ad_t h))
theorem WB.tick(h:WB M0 M wp sd root now asks ks rc zs)(now' asks':Int):WB M0 (dupd M wp (.oth (.ins "World" (wF root now' asks' sd)))) wp sd root now' asks' ks rc zs :=
 ⟨Q0a,by rw[Q0b h.nws.symm];exact h.st,h.f1,h.f2,h.sub.put h.f1,fun w hw=>(h.hn w hw).keep fun b hb=>Q0b ((h.hn w hw).nw hb h.ob).symm,h.fr,h.ap,h.no⟩
theorem WB.upd{td':Addr}(h:WB M0 M wp sd root now asks ks rc zs)(ho:z.o∈ks)(hn:HN M1 (rc z.o).p (rc z.o).zd (rc z.o).pd td' (ofD zs z.o++[z]))(ft:M td'=none)(fr:∀ b,b≠(rc z.o).p->b≠(rc z.o).zd->b≠td'->M1 b=M b) :
  WB M0 M1 wp sd root now asks ks (fun w=>if w=z.o then { rc z.o with td:=td' } else rc w) (zs++[z]):=by
 have old:=h.hn z.o ho;have ex:∀ b o,M b=some o->b≠(rc z.o).p->b≠(rc z.o).zd->M1 b=M b:=fun b o e n1 n2=>fr b n1 n2 (dne e ft);refine⟨(ex _ _ h.ob (old.nw (ad_p _) h.ob) (old.nw (ad_z _) h.ob)).trans h.ob,?_,h.f1,h.f2,fun b o e=>?_,fun w hw=>?_,fun w hw b hb=>?_,fun w hw w' hw' b hb hb'=>?_,fun w hw=>?_⟩
 ·rw[ex _ _ h.st (old.nk (ad_p _) h.st) (old.nk (ad_z _) h.st),h.st];have:stK ks (fun w=>if w=z.o then { rc z.o with td:=td' } else rc w)=stK ks rc:=by
   unfold stK;refine Yj fun w _=>?_;by_cases e:w=z.o
   ·simp only[Zg e];rw[e]
   ·simp only[Zc e]
  rw[this]
 ·have e':=h.sub b o e;rw[ex b o e' (fun y=>by rw[y,h.fr z.o ho _ (ad_p _)]at e;cases e) (fun y=>by rw[y,h.fr z.o ho _ (ad_z _)]at e;cases e)]
  exact e'
 ·by_cases e:w=z.o
  ·simp only[Zg e];rw[e,Q0G,Q0H,Zg rfl];exact hn
  ·simp only[Zc e];rw[Q0G,Q0H,Zc (fun y=>e y.symm),ZM];exact (h.hn w hw).keep fun b hb=>by
    obtain⟨u,hu⟩:=(h.hn w hw).ex hb;exact ex b u hu (fun y=>e (h.ap w hw z.o ho b hb (by rw[y];exact ad_p _))) (fun y=>e (h.ap w hw z.o ho b hb (by rw[y];exact ad_z _)))
 ·by_cases e:w=z.o
  ·simp only[Zg e,Hr.ad,Zw,Z4,ZP]at hb;rcases hb with rfl | rfl | rfl | rfl
   ·exact h.fr z.o ho _ (ad_p _)
   ·exact h.fr z.o ho _ (ad_z _)
   ·exact h.fr z.o ho _ (ad_g _)
   ·exact h.sub.none ft
  ·simp only[Zc e]at hb;exact h.fr w hw b hb
 ·have key:∀ w∈ks,∀ b,b∈((fun w=>if w=z.o then { rc z.o with td:=td' } else rc w) w).ad->b∈(rc w).ad\/(w=z.o/\b=td'):=fun w _ b hb=>by
   by_cases e:w=z.o
   ·simp only[Zg e,Hr.ad,Zw,Z4,ZP]at hb;rw[e];rcases hb with rfl | rfl | rfl | rfl
    ·exact .inl (ad_p _)
    ·exact .inl (ad_z _)
    ·exact .inl (ad_g _)
    ·exact .inr ⟨rfl,rfl⟩
   ·simp only[Zc e]at hb;exact .inl hb
  have nt:∀ w∈ks,td'∉(rc w).ad:=fun w hw y=>by
   obtain⟨u,hu⟩:=(h.hn w hw).ex y;rw[ft]at hu;cases hu
  rcases key w hw b hb with h1 | ⟨h1,h2⟩
  ·rcases key w' hw' b hb' with h3 | ⟨h3,h4⟩
   ·exact h.ap w hw w' hw' b h1 h3
   ·rw[h4]at h1;exact absurd h1 (nt w hw)
  ·rcases key w' hw' b hb' with h3 | ⟨h3,h4⟩
   ·rw[h2]at h3;exact absurd h3 (nt w' hw')
   ·rw[h1,h3]
 ·rw[Q0G,Q0H,Zc (fun y=>hw (by rw[<- y];exact ho)),ZM]
  exact h.no w hw
theorem WB.add{h':Hr}(h:WB M0 M wp sd root now asks ks rc zs)(ho:z.o∉ks)(hn:HN M1 h'.p h'.zd h'.pd h'.td [z])(ft:∀ b∈h'.ad,M b=none)(hs:M1 sd=some (.oth (.dkt (stK ks rc++[(z.o,.ref h'.p)]))))(fr:∀ b o,M b=some o->b≠sd->M1 b=M b) :
  WB M0 M1 wp sd root now asks (ks++[z.o]) (fun w=>if w=z.o then h' else rc w) (zs++[z]):=by
 have ne:∀ w∈ks,w≠z.o:=fun w hw e=>ho (e ▸ hw);have nt:∀ w∈ks,∀ b∈h'.ad,b∉(rc w).ad:=fun w hw b hb y=>by
  obtain⟨u,hu⟩:=(h.hn w hw).ex y;rw[ft b hb]at hu;cases hu
 refine⟨(fr _ _ h.ob h.nws).trans h.ob,?_,h.f1,h.f2,fun b o e=>?_,fun w hw=>?_,fun w hw b hb=>?_,fun w hw w' hw' b hb hb'=>?_,fun w hw=>?_⟩
 ·rw[hs];have:stK (ks++[z.o]) (fun w=>if w=z.o then h' else rc w)=stK ks rc++[(z.o,.ref h'.p)]:=by
   unfold stK;rw[ZC];congr 1
   ·exact Yj fun w hw=>by simp only[Zc (ne w hw)]
   ·simp
  rw[this]
 ·have e':=h.sub b o e;rw[fr b o e' (dne e h.f2)];exact e'
 ·rcases Z0.mp hw with hw | hw
  ·simp only[Zc (ne w hw)];rw[Q0G,Q0H,Zc (fun y=>ne w hw y.symm),ZM];exact (h.hn w hw).keep fun b hb=>by
    obtain⟨u,hu⟩:=(h.hn w hw).ex hb;exact fr b u hu ((h.hn w hw).nk hb h.st).symm
  ·have e:=Zp.mp hw;simp only[Zg e];rw[e,Q0G,Q0H,Zg rfl,h.no _ ho];exact hn
 ·rcases Z0.mp hw with hw | hw
  ·simp only[Zc (ne w hw)]at hb;exact h.fr w hw b hb
  ·simp only[Zg (Zp.mp hw)]at hb;exact h.sub.none (ft b hb)
 ·rcases Z0.mp hw with hw | hw
  ·simp only[Zc (ne w hw)]at hb;rcases Z0.mp hw' with hw' | hw'
   ·simp only[Zc (ne w' hw')]at hb';exact h.ap w hw w' hw' b hb hb'
   ·simp only[Zg (Zp.mp hw')]at hb';exact absurd hb (nt w hw b hb')
  ·simp only[Zg (Zp.mp hw)]at hb;rcases Z0.mp hw' with hw' | hw'
   ·simp only[Zc (ne w' hw')]at hb';exact absurd hb' (nt w' hw' b hb)
   ·rw[Zp.mp hw,Zp.mp hw']
 ·rw[Q0G,Q0H,Zc (fun y=>hw (by rw[<- y];simp)),ZM]
  exact h.no w fun y=>hw (mem_append_left _ y)
end
theorem wF_no{root:W}{now asks:Int}{sd:Addr}{m:Str}(a:(m == "root_door")=false:=by decide +kernel)(b:(m == "now")=false:=by decide +kernel)(c:(m == "times_asked")=false:=by decide +kernel)(d:(m == "street")=false:=by decide +kernel):List.lookup m (wF root now asks sd)=none:=(Q0j a).trans ((Q0j b).trans ((Q0j c).trans ((Q0j d).trans rfl)))
theorem Q1J:List.lookup ("street" : Str) (wF root now asks sd)=some (.ref sd):=(Q0j (by decide +kernel)).trans ((Q0j (by decide +kernel)).trans ((Q0j (by decide +kernel)).trans Q1b))
theorem QbM:List.lookup ("now" : Str) (wF root now asks sd)=some (.int now):=(Q0j (by decide +kernel)).trans Q1b
theorem Qam:List.lookup ("times_asked" : Str) (wF root now asks sd)=some (.int asks):=(Q0j (by decide +kernel)).trans ((Q0j (by decide +kernel)).trans Q1b)
noncomputable def sp_ax:DSp:=fun ds M R=>∃ (M0:DH) (wp sd:Addr) (root:W) (now asks:Int) (ks:List W) (rc:W->Hr) (zs:List Zn) (z:Zn),ds=[.ref wp,.str z.o,z.v]/\WB M0 M wp sd root now asks ks rc zs/\(∀ y∈zs,y.t≠z.t)/\zs.length<=100/\ks.length<=100 /\
 ∀ M' rc',WB M0 M' wp sd root (now+1) asks (zax ks z.o) rc' (zs++[z])->R .non M'
theorem ok_ax(T:Tab)(h333:T.mt 333=some ⟨"House","take",1,sp_ah⟩)(h320:T.ini 320=some ⟨"House","__init__",1,sp_a2⟩)(h63:T.fn 63=some ⟨"copied_zone",1,[],sp_a8⟩):∀ ds M R,sp_ax ds M R->evS T b_ax (za0 R) (za1 ["self","door","zone"] ds) M:=by
 rintro ds M R ⟨M0,wp,sd,root,now,asks,ks,rc,zs,z,rfl,wb,ht,zl,kl,h⟩;simp only[b_ax];refine Q0c fun k1 e1=>?_;have fin:∀ M2 rc2,WB M0 M2 wp sd root now asks (zax ks z.o) rc2 (zs++[z])->k1 [some (.ref wp),some (.str z.o),some z.v] M2:=fun M2 rc2 w2=>by
  rw[e1];walk_at "ev";refine⟨wp,_,now,rfl,w2.ob,QbM,1,_,rfl,w2.ob,by show (4:Nat)<1000;decide,?_⟩
  have ef:zal ("now" : Str) (.int (now+1)) (wF root now asks sd)=wF root (now+1) asks sd:=by rfl
  rw[ef];exact Q0f (h _ rc2 (w2.tick (now+1) asks))
 clear e1;have hat:atT (ofD zs z.o) z.t=none:=find?_eq_none.mpr fun y hy=>by simpa using ht y (Q3D hy)
 have hol:(ofD zs z.o).length<=100:=Z3 (ZI ..) zl;walk_at "ev";simp only[h333,h320,h63];walk_at "ev";refine⟨wp,_,_,rfl,wb.ob,Q1J,sd,_,rfl,wb.st,szL (by decide),fun x hx=>⟨x,_,[],rfl,Q0a,rfl,ZX _,nodup_nil,fun M1 zd pd td k=>⟨rfl,?_⟩⟩⟩
 have H:=k M (Sub.new hx) hx;have hn0:=H.hn;have w1:=wb.mono H.sub;refine⟨z.o,stK ks rc,rfl,w1.st,small1000 (by unfold stK;rw[Zb];omega),fun d hd=>?_,fun hd=>?_⟩
 ·rw[Q1O]at hd;by_cases ho:z.o∈ks
  ·rw[Zg ho]at hd;cases hd;have hn:=w1.hn z.o ho;refine⟨(rc z.o).p,_,rfl,hn.ob,Q0R,z,rfl,(rc z.o).p,(rc z.o).zd,(rc z.o).pd,(rc z.o).td,ofD zs z.o,z,rfl,hn,hat,by omega,fun M2 td' hn2 ft fr=>fin M2 (fun w=>if w=z.o then { rc z.o with td:=td' } else rc w) ?_⟩
   unfold zax;rw[Zg ho];exact w1.upd ho hn2 ft fr
  ·rw[Zc ho]at hd;cases hd
 ·rw[Q1O]at hd;by_cases ho:z.o∈ks
  ·rw[Zg ho]at hd;cases hd
  ·have sx:sd≠x:=mne w1.st H.ob (fun y=>nomatch y)
   have nk:∀ b∈(⟨x,zd,pd,td⟩:Hr).ad,sd≠b:=fun b hb=>HN.nk (h:=⟨x,zd,pd,td⟩) hn0 hb w1.st;have hn1:HN (dupd M1 sd (.oth (.dkt (putT (stK ks rc) z.o (.ref x))))) x zd pd td []:=HN.keep (h:=⟨x,zd,pd,td⟩) hn0 fun b hb=>Q0b (nk b hb).symm;refine⟨x,_,rfl,hn1.ob,Q0R,z,rfl,x,zd,pd,td,[],z,rfl,hn1,rfl,ZX _,fun M2 td' hn2 ft fr=>fin M2 (fun w=>if w=z.o then ⟨x,zd,pd,td'⟩ else rc w) ?_⟩
   unfold zax;rw[Zc ho];have sx2:M2 sd=some (.oth (.dkt (stK ks rc++[(z.o,.ref x)]))):=by
    rw[fr sd (nk x (ad_p _)) (nk zd (ad_z _)) (fun y=>by rw[<- y,Q0a]at ft;cases ft),Q0a,Q2U _ (by rw[Q1O,Zc ho];rfl)]
   have ft1:M td'=none:=by
    cases e:M td' with
    | none=>rfl
    | some o =>
     by_cases y:td'=sd
     ·rw[y,Q0a]at ft;cases ft
     ·rw[Q0b y,H.sub _ _ e]at ft;cases ft
   refine wb.add (h':=⟨x,zd,pd,td'⟩) ho hn2 (fun b hb=>?_) sx2 fun b o e ne=>?_
   ·simp only[Hr.ad,Zw,Z4,ZP]at hb;rcases hb with rfl | rfl | rfl | rfl
    ·exact hx
    ·exact H.f0
    ·exact H.f1
    ·exact ft1
   ·rw[fr b (dne e hx) (dne e H.f0) (dne e ft1),Q0b ne];exact (H.sub _ _ e).trans e.symm
theorem Q2q(h:WInj ws):∀ i<5,∀ j<5,(za6 ws).getD i []=(za6 ws).getD j []->i=j:=by
 have h01:ws.getD 0 []≠ws.getD 1 []:=fun e=>absurd (h 0 (by decide) 1 (by decide) e) (by decide)
 have s1:∀ {a b:W},([a]:List W)=[b]->a=b:=fun e=>by injection e
 have s2:∀ {a b c d:W},([a,b]:List W)=[c,d]->a=c:=fun e=>by injection e
 intro i hi j hj e;have ci:i=0\/i=1\/i=2\/i=3\/i=4:=by omega
 have cj:j=0\/j=1\/j=2\/j=3\/j=4:=by omega
 rcases ci with rfl | rfl | rfl | rfl | rfl <;> rcases cj with rfl | rfl | rfl | rfl | rfl <;> first | rfl | (have:=congrArg List.length e;simp[za6]at this;done) | exact absurd (s1 e) h01 | exact absurd (s1 e).symm h01 | exact absurd (s2 e) h01 | exact absurd (s2 e).symm h01
theorem Q2r{rw:Nat->List Rw}(h:y∈zs5 ws lv rw ats n):∃ j<n,∃ o,ats.getD j none=some o/\y=zn5 o ws lv rw j:=by
 unfold zs5 at h;obtain⟨j,hj,e⟩:=mem_filterMap.mp h;obtain⟨o,e1,e2⟩:=Option.map_eq_some_iff.mp e;exact⟨j,mem_range.mp hj,o,e1,e2.symm⟩
theorem Q4a(ws:List W)(lv:List Int)(rw:Nat->List Rw)(ats:List (Option W))(n:Nat):(zs5 ws lv rw ats n).length<=n:=by
 unfold zs5;exact Z3 (List.length_filterMap_le ..) (by rw[length_range];exact Zs _)
theorem Q6I(ats:List (Option W)):∀ i,(k5 ats i).length<=i
 | 0=>Zs _
 | i+1=>by
  have ih:=Q6I ats i;unfold k5;cases ats.getD i none with
  | none=>exact le_succ_of_le ih
  | some o =>
   show (zax (k5 ats i) o).length<=i+1;unfold zax;by_cases e:o∈k5 ats i
   ·rw[Zg e];exact le_succ_of_le ih
   ·rw[Zc e,Zl,Yh];omega
noncomputable def sp_aP:DSp:=fun ds M R=>∃ (ad:Nat->Addr) (ws:List W) (lv:List Int) (rw:Nat->List Rw) (ats:List (Option W)) (root:W),ds=[.lst ((za6 ws).map dn),zsD ad,.lst (lv.map D.int),.lst (ats.map atD),.str root]/\RT5 M ad (za6 ws) rw 40/\T5 (za6 ws)/\lv.length=5/\ats.length=5/\WInj ws /\
 ∀ M' wp sd now rc,WB M M' wp sd root now 0 (k5 ats 5) rc (zs5 ws lv rw ats 5)->R (.ref wp) M'
theorem ok_aP(T:Tab)(h366:T.mt 366=some ⟨"World","put",2,sp_ax⟩)(h111:T.fn 111=some ⟨"_law_zone",4,[],sp_a7⟩)(h360:T.ini 360=some ⟨"World","__init__",1,sp_aE⟩):∀ ds M R,sp_aP ds M R->evS T b_aP (za0 R) (za1 ["a","b","c","d","e","f","g"] ds) M:=by
 rintro ds M R ⟨ad,ws,lv,rw,ats,root,rfl,rt,ht,hl,hal,hw,h⟩;simp only[b_aP];refine Q0c fun k1 e1=>?_;walk_at "ev";simp only[h360];walk_at "ev";intro wp hwp;refine⟨wp,root,rfl,Q0a,fun sd hsd=>⟨rfl,?_⟩⟩;have ws':sd≠wp:=fun y=>by rw[y,Q0a]at hsd;cases hsd
 have hsd':M sd=none:=by rw[Q0b ws']at hsd;exact hsd
 have wb0:WB M (dupd (dupd (dupd M wp (.oth (.ins "World" []))) sd (.oth (.dkt []))) wp (.oth (.ins "World" (wF root 0 0 sd)))) wp sd root 0 0 [] (fun _=>⟨wp,wp,wp,wp⟩) [] :=
  ⟨Q0a,by rw[Q0b ws',Q0a];rfl,hwp,hsd',((Sub.new hwp).put hsd').put hwp,(fun w h=>nomatch h),(fun w h=>nomatch h),(fun w h=>nomatch h),fun w _=>rfl⟩
 generalize dupd (dupd (dupd M wp (.oth (.ins "World" []))) sd (.oth (.dkt []))) wp (.oth (.ins "World" (wF root 0 0 sd)))=M1 at wb0;rw[e1];clear e1;refine Q0c fun k1 e1=>?_;walk_at "ev";refine⟨by decide,by decide,?_⟩
 refine Q0L (fun i ρ M'=>∃ (now:Int) (rc:W->Hr) (v6:Option D),ρ=[some (.lst ((za6 ws).map dn)),some (zsD ad),some (.lst (lv.map D.int)),some (.lst (ats.map atD)),some (.str root),some (.ref wp),v6]/\WB M M' wp sd root now 0 (k5 ats i) rc (zs5 ws lv rw ats i))
  ⟨0,_,none,rfl,wb0⟩ (fun _ _ _ _=>trivial) ?_ ?_
 ·clear e1;rintro i ρ M' k hi ⟨now,rc,v6,rfl,wb⟩ hk;have hi5:i<5:=hi;rw[Int.zero_add];obtain⟨o,eo,eg⟩:∃ o,ats[i]? = some o/\ats.getD i none=o:=⟨ats[i],Zf (by omega),by rw[Zz,Zf (by omega)];rfl⟩
  have ixa:∀ (M:DH) (Q:DK),Q (atD o) M->rIxD (.lst (ats.map atD)) (.int (i:Int)) M Q:=fun M Q q=>Q0r (by omega) (by rw[Zb,hal];omega) fun d0 hd0=>by
   rw[Z7,Zq,eo]at hd0;cases hd0;exact q
  have sz:zs5 ws lv rw ats (i+1)=zs5 ws lv rw ats i++(o.map fun o=>zn5 o ws lv rw i).toList:=by rw[Q1I,eg]
  walk_at "ev";refine ixa _ _ ?_;cases o with
  | none =>
   refine hk _ _ ⟨now,rc,_,rfl,?_⟩;rw[show k5 ats (i+1)=k5 ats i from by rw[k5,eg],sz]
   show WB M M' wp sd root now 0 (k5 ats i) rc (zs5 ws lv rw ats i++[]);rw[ZM];exact wb
  | some o =>
   simp only[atD];walk_at "ev";simp only[h366,h111];walk_at "ev";refine⟨wp,_,rfl,wb.ob,wF_no,ixa _ _ ?_⟩;simp only[atD];refine⟨ad,ws,lv,rw,i,o,rfl,rt.frame fun j hj=>(wb.sub _ _ (rt.l j hj)).trans (rt.l j hj).symm,ht,hl,hi5,?_⟩;have z1:=Q4a ws lv rw ats i;have z2:=Q6I ats i;refine⟨M,wp,sd,root,now,0,k5 ats i,rc,zs5 ws lv rw ats i,zn5 o ws lv rw i,rfl,wb,fun y hy=>?_,by omega,by omega,fun M2 rc2 w2=>hk _ _ ⟨now+1,rc2,_,rfl,?_⟩⟩
   ·obtain⟨j,hj,o',_,rfl⟩:=Q2r hy;exact fun e=>absurd (Q2q hw j (by omega) i hi5 e) (by omega)
   ·rw[show k5 ats (i+1)=zax (k5 ats i) o from by rw[k5,eg],sz]
    exact w2
 ·rintro ρ M' ⟨now,rc,v6,rfl,wb⟩;rw[e1];clear e1;walk_at "ev";exact Q0f (h M' wp sd now rc wb)
noncomputable def b_aD:CS :=
  (.seq (.faug "World" "times_asked" (.var 0) (.con (.int 1)))
  (.seq (.ret (.meth 337 (.kget2 (.fld "World" "street" (.var 0)) (.var 1) (.make 320 (.cons (.lstz .nil) .nil))) (.cons (.var 2) (.cons (.var 3) (.cons (.var 4) .nil)))))
  .nil))
section
variable{M0 M:DH}{p r d s x y:Addr}{top:List W}{life:Int}{kr kd ks:List (List W×D)}{rr rd:List Rw}{S:List W->Prop}{k:Nat}
theorem PG.side(h:PG M0 M p r d s top life kr kd ks rr rd S k)(hM:HSub x y M M')(n1:x≠p/\x≠r/\x≠d/\x≠s/\∀ n,valD kr n≠some (.ref x))(n2:y≠p/\y≠r/\y≠d/\y≠s/\∀ n,valD kr n≠some (.ref y))(sb:Sub M0 M'):PG M0 M' p r d s top life kr kd ks rr rd S k :=
 {h with
  ob:=hM _ _ n1.1.symm n2.1.symm h.ob
  sub:=sb
  hR:={ h.hR with
   m:=hM _ _ n1.2.1.symm n2.2.1.symm h.hR.m
   v:=fun n v e=>by
    obtain⟨l,rfl,h1,h2⟩:=h.hR.v n v e;exact⟨l,rfl,hM _ _ (fun z=>n1.2.2.2.2 n (by rw[<- z];exact e)) (fun z=>n2.2.2.2.2 n (by rw[<- z];exact e)) h1,h2⟩ }
  hD:={ h.hD with m:=hM _ _ n1.2.2.1.symm n2.2.2.1.symm h.hD.m }
  hS:={ h.hS with m:=hM _ _ n1.2.2.2.1.symm n2.2.2.2.1.symm h.hS.m } }
end
theorem PageX.side(h:PageX M0 M fo pg z)(hx:x∈fo)(hy:y∈fo)(hM:HSub x y M M')(sb:Sub M0 M'):PageX M0 M' fo pg z:=by
 obtain⟨r,d,s,kr,kd,ks,G,k⟩:=h;exact⟨r,d,s,kr,kd,ks,G.side hM (k x hx) (k y hy) sb,k⟩
theorem PageX.adds(h:PageX M0 M fo pg z):∀ {ex:List Addr},(∀ b∈ex,M b=none)->PageX M0 M (ex++fo) pg z
 | [],_=>h
 | b::ex,he=>(PageX.adds h (ex:=ex) fun c hc=>he c (Zk _ hc)).add (he b Zv)
section
variable{M0 M M':DH}{p zd pd td x y:Addr}{fo ex:List Addr}{zs:List Zn}{c:Nat}
theorem HX.grows(h:HX M0 M p zd pd td fo zs c)(s:Sub M M')(he:∀ b∈ex,M b=none/\∃ o,M' b=some o):HX M0 M' p zd pd td (ex++fo) zs c:=by
 have h2:=h.mono s;exact { h2 with
  fp:=Zu _ h.fp
  ft:=Zu _ h.ft
  fi:=fun c hc=>(Z0.mp hc).elim (fun hc=>(he c hc).2) (h2.fi c)
  hp:=by
   obtain⟨kp,e1,e2,e3⟩:=h.hp;refine⟨kp,s _ _ e1,e2,fun n v e=>?_⟩;obtain⟨z,pg,q1,q2,q3⟩:=e3 n v e;exact⟨z,pg,q1,q2,(q3.adds fun b hb=>(he b hb).1).mono s⟩ }
theorem HX.side(h:HX M0 M p zd pd td fo zs c)(S:HSub x y M M')(sb:Sub M0 M')(hx:x∈fo)(hy:y∈fo)(n:∀ b∈[p,zd,pd,td],b≠x/\b≠y)(he:∀ b∈ex,M b=none/\∃ o,M' b=some o)(ox:∃ o,M' x=some o)(oy:∃ o,M' y=some o):HX M0 M' p zd pd td (ex++fo) zs c :=
 {h with
  ob:=S _ _ (n p (by simp)).1 (n p (by simp)).2 h.ob
  sub:=sb
  fp:=Zu _ h.fp
  ft:=Zu _ h.ft
  fi:=fun c hc=>by
   rcases Z0.mp hc with hc | hc
   ·exact (he c hc).2
   ·by_cases e1:c=x
    ·rw[e1];exact ox
    by_cases e2:c=y
    ·rw[e2];exact oy
    obtain⟨o,ho⟩:=h.fi c hc;exact⟨o,S _ _ e1 e2 ho⟩
  hz:=by obtain⟨kz,e1,e2⟩:=h.hz;exact⟨kz,S _ _ (n zd (by simp)).1 (n zd (by simp)).2 e1,e2⟩
  hp:=by
   obtain⟨kp,e1,e2,e3⟩:=h.hp;refine⟨kp,S _ _ (n pd (by simp)).1 (n pd (by simp)).2 e1,e2,fun n v e=>?_⟩
   obtain⟨z,pg,q1,q2,q3⟩:=e3 n v e;exact⟨z,pg,q1,q2,(q3.adds fun b hb=>(he b hb).1).side (Zu _ hx) (Zu _ hy) S sb⟩
  ht:=by obtain⟨kt,e1,e2,e3⟩:=h.ht;exact⟨kt,S _ _ (n td (by simp)).1 (n td (by simp)).2 e1,e2,e3⟩ }
end
noncomputable def foW(ex:List Addr)(wp:Addr)(ks:List W)(rc:W->Hr):List Addr:=ex++wp::ks.flatMap fun w=>[(rc w).pd,(rc w).td]
structure WI(M0 M:DH)(wp sd:Addr)(root:W)(now asks:Int)(ks:List W)(rc:W->Hr)(zs:List Zn)(ex:List Addr)(c:Nat):Prop where
 ob:M wp=some (.oth (.ins "World" (wF root now asks sd)))
 st:M sd=some (.oth (.dkt (stK ks rc)))
 f1:M0 wp=none
 f2:M0 sd=none
 sub:Sub M0 M
 ee:∀ b∈ex,∃ o,M b=some o
 hx:∀ w∈ks,HX M0 M (rc w).p (rc w).zd (rc w).pd (rc w).td (foW ex wp ks rc) (ofD zs w) c
 ap:∀ w∈ks,∀ w'∈ks,∀ b,b∈(rc w).ad->b∈(rc w').ad->w=w'
 no:∀ w,w∉ks->ofD zs w=[]
 zl:∀ w∈ks,∃ kz,M (rc w).zd=some (.oth (.dct kz))/\kz.length<=(ofD zs w).length
theorem HX.kinds{M0 M:DH}{h:Hr}{fo:List Addr}{zs:List Zn}{c:Nat}(hn:HX M0 M h.p h.zd h.pd h.td fo zs c){b:Addr}(hb:b∈h.ad):M b=some (.oth (.ins "House" (hsF h.zd h.pd h.td)))\/∃ kz,M b=some (.oth (.dct kz)):=by
 obtain⟨kz,a1,_⟩:=hn.hz;obtain⟨kp,b1,_⟩:=hn.hp;obtain⟨kt,c1,_⟩:=hn.ht;simp only[Hr.ad,Zw,Z4,ZP]at hb;rcases hb with rfl | rfl | rfl | rfl
 ·exact .inl hn.ob
 ·exact .inr ⟨kz,a1⟩
 ·exact .inr ⟨_,b1⟩
 ·exact .inr ⟨_,c1⟩
theorem HX.nw{M0 M:DH}{h:Hr}{fo:List Addr}{zs:List Zn}{cc:Nat}(hn:HX M0 M h.p h.zd h.pd h.td fo zs cc){b c:Addr}{fs:List (Str×D)}(hb:b∈h.ad)(hc:M c=some (.oth (.ins "World" fs))):c≠b:=fun e=>by
 rcases hn.kinds hb with z | ⟨_,z⟩ <;> rw[<- e,hc]at z
 ·injection z with z;injection z with z;injection z with z;exact absurd z (by decide +kernel)
 ·cases z
theorem HX.nl{M0 M:DH}{h:Hr}{fo:List Addr}{zs:List Zn}{cc:Nat}(hn:HX M0 M h.p h.zd h.pd h.td fo zs cc){b c:Addr}{xs:List D}(hb:b∈h.ad)(hc:M c=some (.lst xs)):c≠b:=fun e=>by
 rcases hn.kinds hb with z | ⟨_,z⟩ <;> rw[<- e,hc]at z <;> cases z
theorem foW_p{rc:W->Hr}(h:w∈ks):(rc w).pd∈foW ex wp ks rc:=Zu _ (Zk _ (mem_flatMap.mpr ⟨w,h,by simp⟩))
theorem foW_t{rc:W->Hr}(h:w∈ks):(rc w).td∈foW ex wp ks rc:=Zu _ (Zk _ (mem_flatMap.mpr ⟨w,h,by simp⟩))
theorem foW_w{rc:W->Hr}:wp∈foW ex wp ks rc:=Zu _ Zv
theorem Q4b(ex:List Addr)(wp:Addr)(ks:List W)(rc:W->Hr):foW ex wp ks rc=ex++foW [] wp ks rc:=rfl
theorem WB.wi{rc:W->Hr}(h:WB M0 M wp sd root now asks ks rc zs):WI M0 M wp sd root now asks ks rc zs [] 0:=by
 refine⟨h.ob,h.st,h.f1,h.f2,h.sub,(fun b hb=>nomatch hb),fun w hw=>?_,h.ap,h.no,fun w hw=>let ⟨kz,a1,a2,_⟩:=(h.hn w hw).hz;⟨kz,a1,a2⟩⟩
 have hn:=h.hn w hw;obtain⟨kz,a1,a2,a3⟩:=hn.hz;refine⟨hn.ob,hn.n1,hn.n2,hn.n3,h.fr w hw _ (ad_g _),h.fr w hw _ (ad_t _),h.fr w hw _ (ad_z _),h.sub,foW_p hw,foW_t hw,fun b hb=>?_,⟨kz,a1,a3⟩,⟨[],hn.hp,ZX _,fun n v e=>(nomatch e)⟩,⟨[],hn.ht,ZX _,fun n v e=>(nomatch e)⟩,hn.nd⟩
 rcases Zw.mp hb with e | hb
 ·rw[e];exact⟨_,h.ob⟩
 ·obtain⟨w',hw',e⟩:=mem_flatMap.mp hb;simp only[Zw,Z4,ZP]at e;rcases e with rfl | rfl
  ·exact (h.hn w' hw').ex (ad_g _)
  ·exact (h.hn w' hw').ex (ad_t _)
section
variable{M0 M M1:DH}{wp sd:Addr}{root:W}{now asks:Int}{ks:List W}{rc:W->Hr}{zs:List Zn}{ex:List Addr}{c:Nat}
theorem WI.mono(h:WI M0 M wp sd root now asks ks rc zs ex c)(s:Sub M M1):WI M0 M1 wp sd root now asks ks rc zs ex c :=
 ⟨s _ _ h.ob,s _ _ h.st,h.f1,h.f2,h.sub.trans s,fun b hb=>let ⟨o,e⟩:=h.ee b hb;⟨o,s _ _ e⟩,fun w hw=>(h.hx w hw).mono s,h.ap,h.no,fun w hw=>let ⟨kz,e,l⟩:=h.zl w hw;⟨kz,s _ _ e,l⟩⟩
theorem WI.le(h:WI M0 M wp sd root now asks ks rc zs ex c)(hc:c<=c'):WI M0 M wp sd root now asks ks rc zs ex c':={ h with hx:=fun w hw=>(h.hx w hw).le hc }
theorem WI.tick(h:WI M0 M wp sd root now asks ks rc zs ex c)(hn:wp∉ex)(now' asks':Int):WI M0 (dupd M wp (.oth (.ins "World" (wF root now' asks' sd)))) wp sd root now' asks' ks rc zs ex c :=
 ⟨Q0a,by rw[Q0b (mne h.st h.ob (fun z=>nomatch z))];exact h.st,h.f1,h.f2,h.sub.put h.f1,fun b hb=>by
   have:b≠wp:=fun e=>hn (by rw[<- e];exact hb)
   rw[Q0b this];exact h.ee b hb,
  fun w hw=>(h.hx w hw).write foW_w h.f1 ((h.hx w hw).nw (ad_p _) h.ob) ((h.hx w hw).nw (ad_z _) h.ob) ((h.hx w hw).nw (ad_g _) h.ob) ((h.hx w hw).nw (ad_t _) h.ob),h.ap,h.no,fun w hw=>by rw[Q0b ((h.hx w hw).nw (ad_z _) h.ob).symm];exact h.zl w hw⟩
theorem WI.write{b:Addr}{xs ys:List D}(h:WI M0 M wp sd root now asks ks rc zs ex c)(hb:b∈ex)(f:M0 b=none)(e:M b=some (.lst xs)):WI M0 (dupd M b (.lst ys)) wp sd root now asks ks rc zs ex c :=
 ⟨by rw[Q0b (mne h.ob e (fun z=>nomatch z))];exact h.ob,by rw[Q0b (mne h.st e (fun z=>nomatch z))];exact h.st,h.f1,h.f2,h.sub.put f,fun b' hb'=>by
   by_cases z:b'=b
   ·rw[z];exact⟨_,Q0a⟩
   ·rw[Q0b z];exact h.ee b' hb',
  fun w hw=>(h.hx w hw).write (mem_append_left _ hb) f ((h.hx w hw).nl (ad_p _) e) ((h.hx w hw).nl (ad_z _) e) ((h.hx w hw).nl (ad_g _) e) ((h.hx w hw).nl (ad_t _) e),h.ap,h.no,fun w hw=>by rw[Q0b ((h.hx w hw).nl (ad_z _) e).symm];exact h.zl w hw⟩
theorem WI.drop(h:WI M0 M wp sd root now asks ks rc zs ex c):WI M0 M wp sd root now asks ks rc zs [] c :=
 {h with ee:=(fun b hb=>nomatch hb),hx:=fun w hw=>(h.hx w hw).less (fun b hb=>Zu _ hb) (foW_p hw) (foW_t hw) }
end
theorem RepG.ex(h:RepG fo M M' d d')(s:Sub M0 M):∃ ex,(∀ b∈ex,b∈fo/\M b=none/\∃ o,M' b=some o)/\RepG ex M0 M' d d':=by
 obtain⟨ps,e,h | ⟨q,xs,h0,h1,h2,h3⟩⟩:=h
 ·exact⟨[],(fun b hb=>nomatch hb),ps,e,.inl h⟩
 ·exact⟨[q],fun b hb=>by rw[Zp.mp hb];exact⟨h0,h1,_,h2⟩,ps,e,.inr ⟨q,xs,Zp.mpr rfl,s.none h1,h2,h3⟩⟩
noncomputable def sp_aD:DSp:=fun ds M R=>∃ (M0:DH) (wp sd:Addr) (root:W) (now asks:Int) (ks:List W) (rc:W->Hr) (zs:List Zn) (c:Nat) (o:W) (t n:List W) (k:W),ds=[.ref wp,.str o,dn t,dn n,.str k]/\WI M0 M wp sd root now asks ks rc zs [] c/\ZsOk zs/\c<=90000/\¬ IsN k/\n.length<=900/\n.take t.length=t /\
 ∀ d M' q out ex,WI M0 M' wp sd root now (asks+1) ks rc zs (q::ex) (c+1000)->q∉ex->M0 q=none->M' q=some (.lst out)->RepG ex M0 M' d (repO (ofD zs o) (some t) n k)->out.length<=480->zan (ofD zs o) k [n] (repO (ofD zs o) (some t) n k) out->R (.tup [d,.ref q]) M'
theorem ok_aD(T:Tab)(h337:T.mt 337=some ⟨"House","speak",3,sp_ae⟩)(h320:T.ini 320=some ⟨"House","__init__",1,sp_a2⟩):∀ ds M R,sp_aD ds M R->evS T b_aD (za0 R) (za1 ["self","door","T","N","K"] ds) M:=by
 rintro ds M R ⟨M0,wp,sd,root,now,asks,ks,rc,zs,c,o,t,n,k,rfl,wi,hz,hc,hk,hn,ht,h⟩;simp only[b_aD];refine Q0c fun k1 e1=>?_;walk_at "ev";refine⟨wp,_,asks,rfl,wi.ob,Qam,1,_,rfl,wi.ob,by show (4:Nat)<1000;decide,?_⟩
 have ef:zal ("times_asked" : Str) (.int (asks+1)) (wF root now asks sd)=wF root now (asks+1) sd:=by rfl
 rw[ef];have wa:=wi.tick (fun z=>nomatch z) now (asks+1)
 generalize dupd M wp (.oth (.ins "World" (wF root now (asks+1) sd)))=Ma at wa;clear wi;rw[e1];clear e1;walk_at "ev";simp only[h337,h320];walk_at "ev";refine⟨wp,_,_,rfl,wa.ob,Q1J,sd,_,rfl,wa.st,szL (by decide),fun x hx=>⟨x,_,[],rfl,Q0a,rfl,ZX _,nodup_nil,fun Mb zd pd td kk=>⟨rfl,?_⟩⟩⟩
 have H:=kk Ma (Sub.new hx) hx;have wb:=wa.mono H.sub;have few:=hz.few o;refine⟨o,stK ks rc,rfl,wb.st,?_⟩;rw[Q1O];by_cases ho:o∈ks
 ·rw[Zg ho];have Ho:=wb.hx o ho;refine⟨(rc o).p,_,rfl,Ho.ob,Q0R,M0,(rc o).p,(rc o).zd,(rc o).pd,(rc o).td,_,ofD zs o,c,t,n,k,rfl,Ho,hz.of o,by omega,hk,hn,ht,fun d M' q out fo1 H2 hfo hqf S2 hq hq2 hd hl hch=>?_⟩
  obtain⟨ex,he,hd⟩:=hd.ex wb.sub;have hqe:∀ b∈q::ex,Mb b=none/\∃ u,M' b=some u:=fun b hb=>by
   rcases Zw.mp hb with e | hb
   ·rw[e];exact⟨hq,_,hq2⟩
   ·exact (he b hb).2
  obtain⟨kp2,p2,_⟩:=H2.hp;obtain⟨kt2,t2,_⟩:=H2.ht;have wne:∀ b u,Mb b=some u->(∀ kz,u≠.oth (.dct kz))->M' b=some u:=fun b u e hu=>by
   obtain⟨kp,p1,_⟩:=Ho.hp;obtain⟨kt,t1,_⟩:=Ho.ht;exact S2 b u (fun z=>by rw[z,p1]at e;cases e;exact hu _ rfl) (fun z=>by rw[z,t1]at e;cases e;exact hu _ rfl) e
  refine Q0f (h d M' q out ex ⟨wne _ _ wb.ob (fun _ z=>nomatch z),wne _ _ wb.st (fun _ z=>nomatch z),wb.f1,wb.f2,H2.sub,fun b hb=>(hqe b hb).2,fun w hw=>?_,wb.ap,wb.no,fun w hw=>?_⟩ (fun z=>hqf (he q z).1) (wb.sub.none hq) hq2 hd (by omega) hch)
  rotate_left
  ·obtain⟨kz,z1,z2⟩:=wb.zl w hw;refine⟨kz,S2 _ _ (fun y=>?_) (fun y=>?_) z1,z2⟩
   ·have e:=wb.ap w hw o ho _ (ad_z _) (by rw[y];exact ad_g _)
    rw[e]at y;exact Ho.n1 y
   ·have e:=wb.ap w hw o ho _ (ad_z _) (by rw[y];exact ad_t _)
    rw[e]at y;exact Ho.n2 y
  by_cases e:w=o
  ·rw[e];refine (H2.less (fun b hb=>?_) (foW_p ho) (foW_t ho)).le (by omega)
   rw[Q4b]at hb;rcases Z0.mp hb with hb | hb
   ·rcases Zw.mp hb with e | hb
    ·rw[e];exact Zv
    ·exact Zk _ (he b hb).1
   ·exact Zk _ (hfo b hb)
  ·rw[Q4b];refine ((wb.hx w hw).side S2 H2.sub (foW_p ho) (foW_t ho) (fun b hb=>⟨fun z=>e (wb.ap w hw o ho b hb (by rw[z];exact ad_g _)),fun z=>e (wb.ap w hw o ho b hb (by rw[z];exact ad_t _))⟩) hqe ⟨_,p2⟩ ⟨_,t2⟩).le (by omega)
 ·rw[Zc ho];have e0:=wb.no o ho;refine⟨x,_,rfl,H.ob,Q0R,Ma,x,zd,pd,td,_,[],0,t,n,k,rfl,H,(fun z hz=>nomatch hz),by decide,hk,hn,ht,fun d M' q out fo1 H2 hfo hqf S2 hq hq2 hd hl hch=>?_⟩
  rw[<- e0]at hd hch;obtain⟨ex,he,hd⟩:=hd.ex wb.sub;have hqe:∀ b∈q::ex,Ma b=none/\∃ u,M' b=some u:=fun b hb=>by
   rcases Zw.mp hb with e | hb
   ·rw[e];exact⟨H.sub.none hq,_,hq2⟩
   ·exact⟨H.sub.none (he b hb).2.1,(he b hb).2.2⟩
  have w2:=wa.mono H2.sub;exact Q0f (h d M' q out ex ⟨w2.ob,w2.st,w2.f1,w2.f2,w2.sub,fun b hb=>(hqe b hb).2,fun w hw=>by rw[Q4b];exact ((wa.hx w hw).grows H2.sub hqe).le (by omega),w2.ap,w2.no,w2.zl⟩ (fun z=>hqf (he q z).1) (wb.sub.none hq) hq2 hd (by
   have:(zap []).length=0:=rfl;omega) hch)
noncomputable def b_af:CS :=
  (.seq (.ret (.ite (.cmp .inF (.var 1) (.fld "House" "zones" (.var 0))) (.call 63 (.cons (.dixf (.fld "House" "zones" (.var 0)) (.var 1)) .nil)) (.con .non)))
  .nil)
noncomputable def b_aC:CS :=
  (.seq (.set 2 (.kixf (.fld "World" "street" (.var 0)) (.var 1)))
  (.seq (.ret (.compz false [2] (.dkeys (.fld "House" "zones" (.var 2))) .nil (.meth 338 (.var 1) (.cons (.var 0) .nil))))
  .nil))
noncomputable def b_aR:CS :=
  (.seq (.ret (.blt .dictT (.cons (.compz false [0] (.tkeys (.fld "World" "street" (.var 0))) .nil (.tup (.cons (.var 0) (.cons (.meth 365 (.var 1) (.cons (.var 0) .nil)) .nil)))) .nil)))
  .nil)
noncomputable def sp_af:DSp:=fun ds M R=>∃ (p zd pd td:Addr) (ob:Obj) (kz:List (List W×D)) (n:List W) (z:Zn),ds=[.ref p,dn n]/\M p=some (.oth (.ins "House" (hsF zd pd td)))/\M zd=some (.oth (.dcf ob kz))/\valD kz n=some z.v/\R z.v M
theorem ok_af(T:Tab)(h63:T.fn 63=some ⟨"copied_zone",1,[],sp_a8⟩):∀ ds M R,sp_af ds M R->evS T b_af (za0 R) (za1 ["self","top"] ds) M:=by
 rintro ds M R ⟨p,zd,pd,td,ob,kz,n,z,rfl,hp,hz,hv,h⟩;simp only[b_af];walk_at "ev";simp only[h63];walk_at "ev";refine⟨p,_,_,rfl,hp,hsF_z,n,zd,ob,kz,rfl,rfl,hz,?_⟩;rw[hv];exact iteT ⟨p,_,_,rfl,hp,hsF_z,n,zd,ob,kz,z.v,rfl,rfl,hz,hv,z,rfl,Q0f h⟩
noncomputable def sp_aC:DSp:=fun ds M R=>∃ (wp sd:Addr) (root:W) (now asks:Int) (ob:Obj) (kvs:List (W×D)) (o:W) (p zd pd td:Addr) (kz:List (List W×D)),ds=[.ref wp,.str o]/\M wp=some (.oth (.ins "World" (wF root now asks sd)))/\M sd=some (.oth (.dkf ob kvs))/\valT kvs o=some (.ref p) /\
 M p=some (.oth (.ins "House" (hsF zd pd td)))/\M zd=some (.oth (.dct kz))/\(∀ q∈kz,∀ w∈q.1,gdT w)/\(∀ q∈kz,∃ z:Zn,valD kz q.1=some z.v)/\kz.length<=900/\∀ ob' L,R (.lst L) (dupd M zd (.oth (.dcf ob' kz)))
theorem ok_aC(T:Tab)(h338:T.mt 338=some ⟨"House","zone",1,sp_af⟩):∀ ds M R,sp_aC ds M R->evS T b_aC (za0 R) (za1 ["self","door","house"] ds) M:=by
 rintro ds M R ⟨wp,sd,root,now,asks,ob,kvs,o,p,zd,pd,td,kz,rfl,hw,hs,hv,hp,hz,hg,hk,hl,h⟩;simp only[b_aC];refine Q0c fun k1 e1=>?_;walk_at "ev";refine⟨wp,_,_,rfl,hw,Q1J,o,sd,ob,kvs,.ref p,rfl,rfl,hs,hv,?_⟩;rw[e1];clear e1;walk_at "ev";refine⟨p,_,_,rfl,hp,hsF_z,zd,kz,rfl,hz,hg,fun ob'=>?_⟩;have pz:p≠zd:=mne hp hz (fun z=>nomatch z)
 refine Q1L (fun _ _=>True) trivial (by rw[Zb];omega) (fun d kk hd hkk=>?_) fun zs zl _=>⟨szL (by rw[zl,Zb];omega),Q0f (h ob' zs)⟩
 obtain⟨q,hq,rfl⟩:=ZH.mp hd;obtain⟨z,ez⟩:=hk q hq;simp only[h338];walk_at "ev";exact⟨p,_,rfl,by rw[Q0b pz];exact hp,Q0R,p,zd,pd,td,ob',kz,q.1,z,rfl,by rw[Q0b pz];exact hp,Q0a,ez,hkk _ trivial⟩
theorem Q1U:∀ (ps kvs:List (W×D)),(kvs.map (·.1)++ps.map (·.1)).Nodup->(zaF kvs ps).map (·.1)=kvs.map (·.1)++ps.map (·.1)
 | [],kvs,_=>by rw[map_nil,ZM];rfl
 | p::r,kvs,h=>by
  have hn:(valT kvs p.1).isSome=false:=by
   cases e:(valT kvs p.1).isSome with
   | false=>rfl
   | true =>
    have:=(Q2p kvs p.1).mp e;rw[nodup_append]at h;exact absurd rfl (h.2.2 _ this _ (by simp))
  have e1:(putT kvs p.1 p.2).map (·.1)=kvs.map (·.1)++[p.1]:=by rw[Q2U _ hn,ZC];rfl
  have e2:zaF kvs (p::r)=zaF (putT kvs p.1 p.2) r:=rfl;rw[e2,Q1U r (putT kvs p.1 p.2) (by rw[e1];simpa using h),e1]
  simp
theorem Q8q{M:DH}{zd:Addr}(hz:∀ z∈zs,∀ w∈z.t,gdT w)(h:∀ n,valD kz n=(atT zs n).map Zn.v):(∀ q∈kz,∀ w∈q.1,gdT w)/\∀ q∈kz,∃ z:Zn,valD kz q.1=some z.v:=by
 have key:∀ q∈kz,∃ z∈zs,z.t=q.1/\valD kz q.1=some z.v:=fun q hq=>by
  have h1:(valD kz q.1).isSome=true:=by
   rw[<- Q1E,any_eq_true];exact⟨q,hq,Zo rfl⟩
  rw[h q.1]at h1 ⊢;cases e:atT zs q.1 with
  | none=>rw[e]at h1;cases h1
  | some z=>exact⟨z,Q1S e,atT_t e,rfl⟩
 refine⟨fun q hq w hw=>?_,fun q hq=>?_⟩
 ·obtain⟨z,z1,z2,_⟩:=key q hq;exact hz z z1 w (by rw[z2];exact hw)
 ·obtain⟨z,_,_,z3⟩:=key q hq;exact⟨z,z3⟩
noncomputable def sp_aR:DSp:=fun ds M R=>∃ (M0:DH) (wp sd:Addr) (root:W) (now asks:Int) (ks:List W) (rc:W->Hr) (zs:List Zn) (c:Nat),ds=[.ref wp]/\WI M0 M wp sd root now asks ks rc zs [] c/\ks.Nodup/\(∀ w∈ks,gdT w)/\(∀ z∈zs,∀ w∈z.t,gdT w)/\zs.length<=100/\ks.length<=100 /\
 ∀ M' a kvs,M' a=some (.oth (.dkt kvs))->kvs.map (·.1)=ks->Sub M0 M'->R (.ref a) M'
theorem ok_aR(T:Tab)(h365:T.mt 365=some ⟨"World","zones_at",1,sp_aC⟩):∀ ds M R,sp_aR ds M R->evS T b_aR (za0 R) (za1 ["self"] ds) M:=by
 rintro ds M R ⟨M0,wp,sd,root,now,asks,ks,rc,zs,c,rfl,wi,nd,gk,gz,zl,kl,h⟩;simp only[b_aR];walk_at "ev";refine⟨wp,_,_,rfl,wi.ob,Q1J,sd,stK ks rc,rfl,wi.st,fun p hp=>?_,fun ob=>?_⟩
 ·unfold stK at hp;obtain⟨w,hw,rfl⟩:=ZH.mp hp;exact gk w hw
 have ei:((stK ks rc).map fun p=>D.str p.1)=ks.map D.str:=by unfold stK;rw[ZT];rfl
 rw[ei];have wsd:wp≠sd:=mne wi.ob wi.st (fun z=>nomatch z)
 have nst:∀ w∈ks,∀ b∈(rc w).ad,b≠sd:=fun w hw b hb e=>by
  rcases (wi.hx w hw).kinds hb with z | ⟨_,z⟩ <;> rw[e,wi.st]at z <;> cases z
 refine Q0v (fun i ys M'=>(∃ ps:List (W×D),ys=ps.map pairT/\ps.map (·.1)=ks.take i)/\M' wp=M wp/\M' sd=some (.oth (.dkf ob (stK ks rc)))/\(∀ w∈ks,M' (rc w).p=M (rc w).p)/\(∀ (j:Nat) (w:W),i<=j->ks[j]? = some w->M' (rc w).zd=M (rc w).zd)/\Sub M0 M')
  ⟨⟨[],rfl,rfl⟩,Q0b wsd,Q0a,fun w hw=>Q0b (nst w hw _ (ad_p _)),fun j w _ hj=>Q0b (nst w (Zt hj) _ (ad_z _)),wi.sub.put wi.f2⟩ (fun _ _ _ _=>trivial) ?_ ?_
 ·rintro i d ys M' k hi ⟨⟨ps,rfl,eps⟩,q1,q2,q3,q4,q5⟩ hk;rw[Zq]at hi;cases ei:ks[i]? with
  | none=>rw[ei]at hi;cases hi
  | some w =>
   rw[ei]at hi;cases hi;have hw:=Zt ei;have hil:=(Zj.mp ei).1;have Hw:=wi.hx w hw;obtain⟨kz,z1,z2⟩:=wi.zl w hw;obtain⟨kz',z3,z4⟩:=Hw.hz;rw[z1]at z3;cases z3;obtain⟨g1,g2⟩:=Q8q (M:=M) (zd:=sd) (zs:=ofD zs w) (fun z hz=>gz z (Q3D hz)) z4;have ol:(ofD zs w).length<=100:=Z3 (ZI ..) zl;have pl:ps.length=i:=by
    have:=congrArg List.length eps;rw[Zb,ZA]at this;omega
   simp only[h365];walk_at "ev";refine⟨wp,_,rfl,q1.trans wi.ob,wF_no,wp,sd,root,now,asks,ob,stK ks rc,w,(rc w).p,(rc w).zd,(rc w).pd,(rc w).td,kz,rfl,q1.trans wi.ob,q2,by rw[Q1O,Zg hw],(q3 w hw).trans Hw.ob,(q4 i w (Zs _) ei).trans z1,g1,g2,by omega,fun ob' L=>?_⟩
   refine⟨szL (by decide),small1000 (by rw[Zb];omega),hk _ _ ⟨⟨ps++[(w,.lst L)],by rw[ZC];rfl,?_⟩,?_,?_,fun w' hw'=>?_,fun j w' hj hw'=>?_,q5.put Hw.f0⟩⟩
   ·rw[ZC,eps,take_add_one,ei];rfl
   ·rw[Q0b (Hw.nw (ad_z _) wi.ob)];exact q1
   ·rw[Q0b (nst w hw _ (ad_z _)).symm];exact q2
   ·have ne:(rc w').p≠(rc w).zd:=fun y=>by
     have e:=(wi.hx w' hw').ob;rw[y,z1]at e;cases e
    rw[Q0b ne];exact q3 w' hw'
   ·have hm':=Zt hw';have ne:(rc w').zd≠(rc w).zd:=fun y=>by
     have e:=wi.ap w' hm' w hw _ (ad_z _) (by rw[y];exact ad_z _)
     rw[e,<- ei]at hw';have:=(List.getElem?_inj hil nd).mp hw'.symm;omega
    rw[Q0b ne];exact q4 j w' (by omega) hw'
 ·rintro ys M' ⟨⟨ps,rfl,eps⟩,q1,q2,q3,q4,q5⟩;rw[Zb,Ym]at eps;have pl:ps.length=ks.length:=by have:=congrArg List.length eps;rwa [Zb]at this
  refine⟨szL (by rw[Zb];omega),ps,rfl,szL (by omega),fun q hq=>Q0f (h _ q (zaF [] ps) Q0a ?_ (q5.trans (Sub.new hq)))⟩
  rw[Q1U ps [] (by rw[eps];simpa using nd),eps]
  rfl
noncomputable def b_ab:CS :=
  (.seq (.ite (.cmp .lt (.var 1) (.blt .len (.cons (.var 0) .nil)))
  (.seq (.ret (.ix (.var 0) (.var 1)))
  .nil)
  .nil)
  (.seq (.ret (.con (.int 0)))
  .nil))
noncomputable def b_law:CS :=
  (.seq (.set 1 (.bin .add (.con (.int 1)) (.call 101 (.cons (.call 100 (.cons (.var 0) (.cons (.con (.int 0)) .nil))) (.cons (.con (.int 0)) (.cons (.con (.int 12)) .nil))))))
  (.seq (.set 2 (.call 102 (.cons (.call 100 (.cons (.var 0) (.cons (.con (.int 0)) .nil))) (.cons (.call 100 (.cons (.var 0) (.cons (.con (.int 1)) .nil))) (.cons (.var 1) .nil)))))
  (.seq (.set 3 (.call 114 (.cons (.call 100 (.cons (.var 0) (.cons (.con (.int 2)) .nil))) .nil)))
  (.seq (.set 4 (.call 105 (.cons (.var 2) .nil)))
  (.seq (.set2 5 6 (.call 110 (.cons (.var 0) (.cons (.var 2) (.cons (.var 3) .nil)))))
  (.seq (.set 7 (.compz false [0] (.rng1 (.con (.int 5))) .nil (.call 104 (.cons (.call 100 (.cons (.var 1) (.cons (.bin .add (.con (.int 3)) (.var 0)) .nil))) .nil))))
  (.seq (.set 8 (.call 112 (.cons (.var 4) (.cons (.var 5) (.cons (.var 7) (.cons (.var 6) .nil))))))
  (.seq (.set 9 (.call 113 (.cons (.var 4) (.cons (.var 5) (.cons (.var 7) (.cons (.var 6) (.cons (.ix (.var 3) (.con (.int 0))) .nil)))))))
  (.seq (.set 10 (.meth 362 (.var 9) .nil))
  (.seq (.set 11 (.con (.int 0)))
  (.seq (.for1 12 (.frz (.sl (.var 0) (.con (.int 25)) (.con (.int 41))))
  (.seq (.set 13 (.ix (.frz (.bin .addL (.var 3) (.lstz (.cons (.bin .add (.ix (.var 3) (.con (.int 0))) (.con (.str [33]))) .nil)))) (.call 101 (.cons (.var 12) (.cons (.con (.int 0)) (.cons (.con (.int 5)) .nil))))))
  (.seq (.set 14 (.ix (.var 4) (.call 101 (.cons (.var 12) (.cons (.con (.int 1)) (.cons (.con (.int 5)) .nil))))))
  (.seq (.ite (.and (.cmp .eq (.call 101 (.cons (.var 12) (.cons (.con (.int 2)) (.cons (.con (.int 2)) .nil)))) (.con (.int 1))) (.cmp .notN (.ix (.var 6) (.ml .index (.var 4) (.cons (.var 14) .nil))) (.con .non)))
  (.seq (.set 13 (.ix (.var 6) (.ml .index (.var 4) (.cons (.var 14) .nil))))
  .nil)
  .nil)
  (.seq (.set 15 (.bin .add (.var 14) (.call 103 (.cons (.var 2) (.cons (.var 12) (.cons (.con (.int 3)) (.cons (.call 101 (.cons (.var 12) (.cons (.con (.int 6)) (.cons (.con (.int 4)) .nil)))) .nil)))))))
  (.seq (.set 16 (.ix (.lstz (.cons (.con (.str [109,97,114,107])) (.cons (.con (.str [100,111,111,114])) (.cons (.con (.str [112,111,115,116])) .nil)))) (.call 101 (.cons (.var 12) (.cons (.con (.int 7)) (.cons (.con (.int 3)) .nil))))))
  (.seq (.set 17 (.meth 369 (.var 9) (.cons (.var 13) (.cons (.var 14) (.cons (.var 15) (.cons (.var 16) .nil))))))
  (.seq (.set 11 (.bin .add (.var 11) (.con (.int 1))))
  (.seq (.ite (.or (.not (.isi .tuple (.var 17))) (.or (.cmp .ne (.blt .len (.cons (.var 17) .nil)) (.con (.int 2))) (.or (.cmp .ne (.meth 363 (.var 9) .nil) (.var 11)) (.isi .bool (.meth 363 (.var 9) .nil)))))
  (.seq (.ret (.con (.bl false)))
  .nil)
  .nil)
  (.seq (.ite (.cmp .neR (.ix (.var 17) (.con (.int 0))) (.call 119 (.cons (.var 8) (.cons (.var 13) (.cons (.var 14) (.cons (.var 15) (.cons (.var 16) .nil)))))))
  (.seq (.ret (.con (.bl false)))
  .nil)
  .nil)
  (.seq (.ite (.or (.cmp .ne (.ix (.var 17) (.con (.int 1))) (.ix (.call 67 (.cons (.var 8) (.cons (.var 13) (.cons (.var 14) (.cons (.var 15) (.cons (.var 16) .nil)))))) (.con (.int 1)))) (.cmp .ne (.meth 362 (.var 9) .nil) (.var 10)))
  (.seq (.ret (.con (.bl false)))
  .nil)
  .nil)
  (.seq (.ex (.ml .clear (.ix (.var 17) (.con (.int 1))) .nil))
  (.seq (.ite (.cmp .eq (.ix (.ix (.var 17) (.con (.int 0))) (.con (.int 0))) (.con (.str [114,111,119,115])))
  (.seq (.ex (.ml .append (.ix (.ix (.var 17) (.con (.int 0))) (.con (.int 1))) (.cons (.con (.str [109,111,114,101])) .nil)))
  .nil)
  .nil)
  (.seq (.ite (.cmp .eq (.ix (.ix (.var 17) (.con (.int 0))) (.con (.int 0))) (.con (.str [100,111,119,110])))
  (.seq (.ex (.ml .append (.ix (.ix (.var 17) (.con (.int 0))) (.con (.int 3))) (.cons (.con (.str [109,111,114,101])) .nil)))
  .nil)
  .nil)
  (.seq (.set 11 (.bin .add (.var 11) (.con (.int 1))))
  (.seq (.ite (.cmp .neR (.ix (.meth 369 (.var 9) (.cons (.var 13) (.cons (.var 14) (.cons (.var 15) (.cons (.var 16) .nil))))) (.con (.int 0))) (.call 119 (.cons (.var 8) (.cons (.var 13) (.cons (.var 14) (.cons (.var 15) (.cons (.var 16) .nil)))))))
  (.seq (.ret (.con (.bl false)))
  .nil)
  .nil)
  .nil))))))))))))))))
  (.seq (.ret (.and (.cmp .eq (.meth 363 (.var 9) .nil) (.var 11)) (.cmp .eq (.frz (.blt .sortT (.cons (.meth 364 (.var 9) .nil) .nil))) (.frz (.blt .sortT (.cons (.var 8) .nil))))))
  .nil))))))))))))
theorem ok_ab:∀ ds M R,sp_ab ds M R->evS T b_ab (za0 R) (za1 ["a","b"] ds) M:=by
 rintro ds M R ⟨ns,k,rfl,h⟩;simp only[b_ab,dn];walk_at "ev";refine ite2 (fun q=>?_) fun q=>Q0f ?_
 ·rw[Ze,Zb]at q;refine Q0r (by omega) (by rw[Zb];exact q) fun d hd=>?_
  rw[Zq,Z7]at hd;rw[Zz]at h;cases e:ns[k]? with
  | none=>rw[e]at hd;cases hd
  | some n=>rw[e]at hd h;cases hd;exact Q0f h
 ·rw[Ze,Zb]at q;rw[Zz,List.getElem?_eq_none (by omega)]at h
  exact h
theorem Q6J(h:zan zs k sp d out)(h':zan zs k sp d out'):out=out':=by
 induction h generalizing out' with
 | stop q =>
  cases h' with
  | stop _=>rfl
  | off _ _=>rfl
  | step n1 _ _=>exact absurd (q _ _ rfl) n1
 | @off sp m l n1 e =>
  generalize ed:D.tup [.str za8,dn m,.int l]=d at h';cases h' with
  | stop _=>rfl
  | off _ _=>rfl
  | step n2 e2 _ =>
   injection ed with ed;injection ed with _ ed;injection ed with ed _;rw[Q3F ed,e2]at e;cases e
 | @step sp m l z out n1 e h2 ih =>
  generalize ed:D.tup [.str za8,dn m,.int l]=d at h';cases h' with
  | stop q=>exact absurd (q m l ed.symm) n1
  | off n2 e2 =>
   injection ed with ed;injection ed with _ ed;injection ed with ed _;rw[<- Q3F ed,e]at e2;cases e2
  | step n2 e2 h3 =>
   injection ed with ed;injection ed with _ ed;injection ed with ed _;have em:=Q3F ed;subst em;rw[e]at e2;cases e2;rw[ih h3]
theorem Q6K(s:Sub M M')(h:zag M d=some xs):zag M' d=some xs:=by
 rcases Q1H h with rfl | ⟨b,rfl,eb⟩
 ·rfl
 ·simp only[zag,s _ _ eb]
theorem HsOk.sub(s:Sub M M')(h:HsOk M a zs):HsOk M' a zs:=by
 obtain⟨kvs,e1,e2⟩:=h;refine⟨kvs,s _ _ e1,fun w=>?_⟩;rcases e2 w with q | ⟨d,q1,q2⟩
 ·exact .inl q
 ·exact .inr ⟨d,q1,Q6K s q2⟩
noncomputable def sp_law:DSp:=dLaw 63
theorem Q8K{P:Bool->Prop}(h:RepG ex M0 M d (.tup ps))(hp:ps.all (plain 11)=true)(q:P false) :
  (∃ (a:Addr) (ds:List D),M a=some (.lst ds)/\plain 12 (subT a ds d)=true/\plain 12 (.tup ps)=true/\P (!eqB (subT a ds d) (.tup ps)))\/(plain 12 d=true/\plain 12 (.tup ps)=true/\P (!eqB d (.tup ps))):=by
 obtain⟨ps',e,⟨rfl,_⟩ | ⟨x,xs,_,_,h2,_,h4,rfl⟩⟩:=h
 ·refine .inr ⟨hp,hp,?_⟩;rw[Q0p];exact q
 ·cases e;have es:subT x xs (.tup (ps.map (thaw x)))=.tup ps:=by
   show D.tup ((ps.map (thaw x)).map (subR x xs))=_;rw[Q3I hp h4]
  refine .inl ⟨x,xs,h2,?_,hp,?_⟩
  ·rw[es];exact hp
  ·rw[es,Q0p];exact q
theorem Q8r(hz:∀ z∈zs,ZnOk z)(h:RepG ex M0 M d (repO zs t n k)) :
  (∃ x xs l,x∈ex/\M0 x=none/\M x=some (.lst xs)/\xs.length<=900/\d=.tup [.str zbm,.ref x,l])\/(∃ x xs a v l,x∈ex/\M0 x=none/\M x=some (.lst xs)/\xs.length<=900/\d=.tup [.str zad,a,v,.ref x,l])\/∃ w r,d=.tup (.str w::r)/\w≠zbm/\w≠zad:=by
 have other:∀ {w:W} {r:List D},repO zs t n k=.tup (.str w::r)->w≠zbm->w≠zad->∃ w r,d=.tup (.str w::r)/\w≠zbm/\w≠zad:=fun{w r} e h1 h2=>by
  rw[e]at h;obtain⟨ps,e',⟨rfl,_⟩ | ⟨x,xs,_,_,_,_,_,rfl⟩⟩:=h
  ·exact⟨w,r,rfl,h1,h2⟩
  ·cases e';exact⟨w,r.map (thaw x),rfl,h1,h2⟩
 cases e:t.bind (atT zs) with
 | none=>exact .inr (.inr (other (Q0T e) (by decide) (by decide)))
 | some z =>
  cases t with
  | none=>cases e
  | some a =>
   have er:=Q0S (zs:=zs) (t:=some a) (n:=n) (k:=k) e;have zk:=hz z (Q1S e);cases ec:cutN z.t z.r n with
   | some c =>
    have hs:=find?_some (show _=some c from ec);rw[Q0P]at hs;cases ed:zae z.r c with
    | none=>rw[ed]at hs;cases hs
    | some x =>
     rw[er,Q1z ec ed]at h;obtain⟨ps,e',⟨_,h2⟩ | ⟨q,xs,h1,h2,h3,h4,h5,rfl⟩⟩:=h
     ·have:D.lst ((zbk ((zaC z.r x.n (nmOf x.v)).map fun x=>zaf x.v)).map D.str)∈ps:=by
       unfold zaD at e';cases e';simp[zaN]
      exact absurd this (h2 _)
     ·unfold zaD at e';cases e';exact .inr (.inl ⟨q,xs,_,_,_,h1,h2,h3,h4,rfl⟩)
   | none =>
    rw[Q1o ec]at er;unfold zaj at er;by_cases hn:(zaa z.t z.r n).drop ((zaa z.t z.r n).length-1)=[[42]]/\atN z.r (zaa z.t z.r n)=[]
    ·rw[Zg hn]at er;exact .inr (.inr (other er (by decide) (by decide)))
    ·rw[Zc hn]at er;unfold zaz at er;cases ee:za3 (atN z.r (zaa z.t z.r n)) za8 with
     | cons x r =>
      rw[ee]at er;exact .inr (.inr (other er (by decide) (by decide)))
     | nil =>
      rw[ee]at er;cases ek:za3 (atN z.r (zaa z.t z.r n)) k with
      | nil =>
       rw[ek]at er;exact .inr (.inr (other er (by decide) (by decide)))
      | cons x r =>
       rw[ek]at er;rw[er]at h;obtain⟨ps,e',⟨_,h2⟩ | ⟨q,xs,h1,h2,h3,h4,h5,rfl⟩⟩:=h
       ·have:D.lst ((zbk ((x::r).map fun x=>zaf x.v)).map D.str)∈ps:=by
         cases e';simp[zaN]
        exact absurd this (h2 _)
       ·cases e';exact .inl ⟨q,xs,_,h1,h2,h3,h4,rfl⟩
theorem Q8s(hz:∀ z∈zs,ZnOk z)(h:zan zs k sp d out):out.all (plain 11)=true:=by
 induction h with
 | stop _=>rfl
 | off _ _=>rfl
 | @step sp m l z out n1 e h2 ih =>
  obtain⟨ps,e1,_,e3⟩:=Q1T (hz z (up_in e)) m k 6;rw[ZU,ih,Bool.and_true,e1];show [dn z.t,dn m,.str k,.tup ps].all (plain 10)=true;simp only[ZU,all_nil,Q0E,Bool.and_true,Bool.true_and];exact e3
theorem Q8L:∀ {zs:List D} {n:Nat},zs.length=n->(∀ z∈zs,∃ i:Int,z=.int i)->∃ lv:List Int,zs=lv.map D.int/\lv.length=n
 | [],_,rfl,_=>⟨[],rfl,rfl⟩
 | z::r,_,rfl,h=>by
  obtain⟨i,rfl⟩:=h z Zv;obtain⟨lv,e1,e2⟩:=Q8L (zs:=r) rfl fun z hz=>h z (Zk _ hz);exact⟨i::lv,by rw[e1];rfl,by rw[Zi,e2,Zi]⟩
theorem Qan(ha:a.length+b.length<=900)(h:Q (dn (a++b)) M):zbM (dn a) (dn b) M Q:=by
 simp only[dn]at h ⊢;walk_at "ev";rw[ZC]at h;exact⟨szL (by rw[Zb,Zb];omega),h⟩
theorem QbN(h:∀ c∈w,c<=57):gdT w:=by
 unfold gdT;rw[ZN];exact fun c hc=>Zo (by have:=h c hc;omega)
theorem QbO(h:Wd w):gdT w:=by
 unfold gdT;rw[ZN];intro c hc;have:=h.al c hc;have key:∀ c∈signs,c<1114112:=by decide
 exact Zo (key c this)
theorem QbP{ad:Nat->Addr}{rw:Nat->List Rw}(rt:RT5 M ad (za6 ws) rw 40)(ht:T5 (za6 ws))(hw:WInj ws)(lv:List Int)(ats:List (Option W)):ZsOk (zs5 ws lv rw ats 5):=by
 refine⟨fun z hz=>?_,Z3 (Q4a ..) (by decide),fun w=>?_⟩
 ·obtain⟨j,hj,o,_,rfl⟩:=Q2r hz;exact QbL rt ht o lv hj
 ·have sb:((ofD (zs5 ws lv rw ats 5) w).map (·.t)).Sublist ((zs5 ws lv rw ats 5).map (·.t)):=List.Sublist.map _ List.filter_sublist;refine sb.nodup ?_;have key:∀ n ≤ 5,((zs5 ws lv rw ats n).map (·.t)).Nodup:=by
   intro n
   induction n with
   | zero=>intro _;exact nodup_nil
   | succ n ih =>
    intro hn;rw[Q1I,ZC,nodup_append];refine⟨ih (by omega),?_,fun a h1 b h2 e=>?_⟩
    ·cases ats.getD n none <;> simp
    ·obtain⟨y,hy,rfl⟩:=ZH.mp h1;obtain⟨j,hj,o,_,rfl⟩:=Q2r hy;cases eo:ats.getD n none with
     | none=>rw[eo]at h2;cases h2
     | some o' =>
      rw[eo]at h2;have h2':b=(zn5 o' ws lv rw n).t:=by simpa using h2
      rw[h2']at e;exact absurd (Q2q hw j (by omega) n (by omega) e) (by omega)
  exact key 5 (Zs _)
set_option maxHeartbeats 4000000 in
theorem ok_law(T:Tab)(h100:T.fn 100=some ⟨"_law_cell_at",2,[],sp_ab⟩)(h101:T.fn 101=some ⟨"_law_part",3,[],sp_a0⟩)(h102:T.fn 102=some ⟨"_law_words",3,[],sp_aH⟩)(h114:T.fn 114=some ⟨"_law_doors",1,[],sp_aK⟩)(h105:T.fn 105=some ⟨"_law_tops",1,[],sp_aa⟩)(h110:T.fn 110=some ⟨"_law_tree",3,[],sp_aS⟩)(h104:T.fn 104=some ⟨"_law_life",1,[],sp_a1⟩)(h112:T.fn 112=some ⟨"_law_houses",4,[],sp_ak⟩)(h113:T.fn 113=some ⟨"_law_world",5,[],sp_aP⟩)(h362:T.mt 362=some ⟨"World","turn",0,sp_an⟩)(h103:T.fn 103=some ⟨"_law_below",4,[],sp_a9⟩)(h369:T.mt 369=some ⟨"World","ask",4,sp_aD⟩)(h363:T.mt 363=some ⟨"World","asks",0,sp_at⟩)(h119:T.fn 119=some ⟨"_law_house_reply",5,[],sp_aQ⟩)(h67:T.fn 67=some ⟨"asked",5,[],sp_aA⟩)(h364:T.mt 364=some ⟨"World","houses",0,sp_aR⟩) :
  ∀ ds M R,sp_law ds M R->evS T b_law (za0 R) (za1 ["a","b","c","d","e","f","g","h","i","j","k","l","m","n","o","p","q","r"] ds) M:=by
 intro ds M R h;unfold sp_law dLaw at h;split at h;rotate_left
 ·exact h.elim
 rename_i ds0;obtain⟨ns,rfl,hl,h⟩:=h;have fin:∀ M',Sub M M'->∃ M0,Sub M0 M'/\R (.bl true) M0:=fun M' s=>⟨M,s,h⟩;simp only[b_law];refine Q0c fun k1 e1=>?_;walk_at "ev";simp only[h100,h101];walk_at "ev";refine⟨ns,0,rfl,ns.getD 0 0,0,12,rfl,by decide,by decide,by decide,fun v hv=>?_⟩
 walk_at "ev";have es:(1:Int)+(v:Int)=((v+1:Nat):Int):=by omega
 rw[es,e1];clear e1;refine Q0c fun k1 e1=>?_;walk_at "ev";simp only[h100,h102];walk_at "ev";refine⟨ns,0,rfl,ns,1,rfl,ns.getD 0 0,ns.getD 1 0,v,rfl,by omega,fun ws hwl hw winj=>?_⟩
 have ht:=Q4C hwl hw;rw[e1];clear e1;generalize ((v+1:Nat):Int)=sz;refine Q0c fun k1 e1=>?_;walk_at "ev";simp only[h100,h114];walk_at "ev";refine⟨ns,2,rfl,ns.getD 2 0,rfl,fun drs dl dg=>?_⟩;rw[e1];clear e1;refine Q0c fun k1 e1=>?_;walk_at "ev";simp only[h105];walk_at "ev";refine⟨ws,rfl,hwl,?_⟩;rw[e1];clear e1;refine Q0c fun k1 e1=>?_;walk_at "ev";simp only[h110];walk_at "ev";refine⟨ns,ws,drs,rfl,hwl,hw,dl,fun M1 ad rw_ ats s1 fa rt al had=>?_⟩;refine⟨rfl,?_⟩;rw[e1];clear e1;refine Q0c fun k1 e1=>?_;walk_at "ev";refine⟨by decide,by decide,?_⟩
 refine Q1L (fun _ z=>∃ i:Int,z=.int i) trivial (by decide) (fun d kk hd hkk=>?_) fun zs0 zl hz0=>?_
 ·obtain⟨i,hi,rfl⟩:=ZH.mp hd;simp only[h100,h104];walk_at "ev";have ej:(3:Int)+(0+(i:Int))=((3+i:Nat):Int):=by omega
  exact⟨ns,3+i,by rw[ej],ns.getD (3+i) 0,rfl,fun z=>hkk _ ⟨z,rfl⟩⟩
 obtain⟨lv,rfl,hlv⟩:=Q8L zl fun z hz=>let ⟨_,_,e⟩:=hz0 z hz;e;have hlv:lv.length=5:=hlv;clear hz0 zl;refine⟨szL (by rw[Zb];omega),?_⟩
 rw[e1];clear e1;refine Q0c fun k1 e1=>?_;walk_at "ev";simp only[h112];walk_at "ev";refine⟨ad,ws,lv,rw_,ats,rfl,rt,ht,hlv,al,fun M2 hd kvs s2 hs hkv hkk=>?_⟩;rw[e1];clear e1;refine Q0c fun k1 e1=>?_;walk_at "ev";simp only[h113];walk_at "ev";refine Q0o (i:=0) (by omega) ⟨ad,ws,lv,rw_,ats,_,rfl,rt.frame fun j hj=>(s2 _ _ (rt.l j hj)).trans (rt.l j hj).symm,ht,hlv,al,winj,fun M3 wp sd now rc wb=>?_⟩
 have wi0:=wb.wi;clear wb;have hz:=QbP rt ht winj lv ats;have zval:∀ z∈zs5 ws lv rw_ ats 5,ZnOk z/\Valid z.r:=fun z hz'=>⟨hz.ok z hz',by
  obtain⟨j,hj,o,_,rfl⟩:=Q2r hz';exact rt.val j hj⟩
 have zl5:=Q4a ws lv rw_ ats 5;have kl5:=Q6I ats 5;have knd:=k5_nd ats 5;have kgd:∀ w∈k5 ats 5,gdT w:=fun w hw=>by
  have key:∀ n ≤ 5,∀ w∈k5 ats n,w∈drs:=by
   intro n
   induction n with
   | zero=>intro _ w hw;cases hw
   | succ n ih =>
    intro hn w hw;unfold k5 at hw;cases eo:ats.getD n none with
    | none=>rw[eo]at hw;exact ih (by omega) w hw
    | some o =>
     rw[eo]at hw;have hw':w∈zax (k5 ats n) o:=hw;unfold zax at hw';have ho:o∈drs:=had (some o) (by rw[<- eo,Zz,Zf (by omega)];exact getElem_mem _) o rfl
     by_cases e:o∈k5 ats n
     ·rw[Zg e]at hw';exact ih (by omega) w hw'
     ·rw[Zc e]at hw';rcases Z0.mp hw' with hw' | hw'
      ·exact ih (by omega) w hw'
      ·rw[Zp.mp hw'];exact ho
  exact QbN (dg w (key 5 (Zs _) w hw)).2
 have zgd:∀ z∈zs5 ws lv rw_ ats 5,∀ w∈z.t,gdT w:=fun z hz' w hw'=>by
  obtain⟨j,hj,o,_,rfl⟩:=Q2r hz';have hm:(za6 ws).getD j []∈za6 ws:=by
   have:j<(za6 ws).length:=hj;rw[Zz,Zf this];exact getElem_mem _
  exact QbO ((ht.ok _ hm).2 w hw')
 generalize zs5 ws lv rw_ ats 5=zs at hs wi0 hz zval zl5 zgd;generalize k5 ats 5=ks at hkk wi0 kl5 knd kgd;generalize drs.getD 0 []=root at wi0;have sM2:Sub M M2:=s1.trans s2;rw[e1];clear e1;refine Q0c fun k1 e1=>?_;walk_at "ev";simp only[h362];walk_at "ev";refine⟨wp,_,rfl,wi0.ob,wF_no,wp,sd,root,now,0,rfl,wi0.ob,?_⟩;rw[e1];clear e1;refine Q0c fun k1 e1=>?_;walk_at "ev";rw[e1];clear e1;refine Q0c fun k1 e1=>?_;walk_at "ev";have ec:cut (ns.map D.int) (some 25) (some 41)=((ns.drop 25).take 16).map D.int:=by
  rw[map_take,map_drop];exact Q6v _ 25 41
 have c16:((ns.drop 25).take 16).length<=16:=by rw[ZA];omega
 simp only[dFrz];walk_at "ev";rw[ec];generalize (ns.drop 25).take 16=cs at ec c16;intro pp hpp;simp only[Q0a,Q1e hpp];refine Q0U (fun i ρ M'=>∃ (v12 v13 v14 v15 v16 v17:Option D),ρ=[some (.lst (ns.map D.int)),some (.int sz),some (.lst (ws.map D.str)),some (.lst (drs.map D.str)),some (.lst ((za6 ws).map dn)),some (zsD ad),some (.lst (ats.map atD)),some (.lst (lv.map D.int)),some (.ref hd),some (.ref wp),some (.int now),some (.int ((2 * i:Nat):Int)),v12,v13,v14,v15,v16,v17]/\WI M2 M' wp sd root now ((2 * i:Nat):Int) ks rc zs [] (2000 * i))
  ⟨none,none,none,none,none,none,rfl,wi0⟩ (fun _ _ _ _=>trivial) ?_ ?_
 ·clear e1;rintro i d ρ M4 k hi ⟨v12,v13,v14,v15,v16,v17,rfl,wi⟩ hk;have hil:=(Zj.mp hi).1;rw[Zb]at hil;rw[Zq]at hi;cases ei:cs[i]? with
  | none=>rw[ei]at hi;cases hi
  | some cell =>
  rw[ei]at hi;cases hi;clear ei
  -- the door
  show dSeq _ _ _ _ _;refine Q0k fun k2 e2=>?_;walk_at "ev";simp only[h101]
  (try simp only[dFrz])
  walk_at "ev";refine Q0o (i:=0) (by omega) ?_
  walk_at "ev";have dlen:(drs.getD 0 []).length<=20:=(dg _ (Q1A (by omega))).1
  refine⟨szL (by omega),szL (by decide),_,_,rfl,rfl,szL (by rw[Zb];(try simp only[Zi,Z8]);omega),fun p1 hp1=>?_⟩
  simp only[Q0a,Q1e hp1];refine⟨cell,0,5,rfl,by decide,by decide,by decide,fun v hv=>Q0r (by omega) (by rw[Zl,Zb];(try simp only[Zi,Z8]);omega) fun d0 hd0=>?_⟩
  obtain⟨o,rfl⟩:∃ o:W,d0=.str o:=by
   have hm:=Zt hd0;rcases Z0.mp hm with hm | hm
   ·obtain⟨w,_,e⟩:=ZH.mp hm;exact⟨w,e.symm⟩
   ·exact⟨_,Zp.mp hm⟩
  clear hd0;rw[e2];clear e2
  -- the top
  refine Q0k fun k2 e2=>?_;walk_at "ev";simp only[h101];walk_at "ev";refine⟨cell,1,5,rfl,by decide,by decide,by decide,fun v hv=>Q0Y (by show _<5;omega) ?_⟩
  have hv5:v<5:=by omega
  have htop:=ht.at_ hv5;obtain⟨t,et⟩:∃ t,t=(za6 ws).getD v []:=⟨_,rfl⟩;rw[<- et]at htop ⊢;rw[e2];clear e2;refine Q0k fun k2 e2=>?_
  -- behind the door
  have rest:∀ o:W,k2 [some (.lst (ns.map D.int)),some (.int sz),some (.lst (ws.map D.str)),some (.lst (drs.map D.str)),some (.lst ((za6 ws).map dn)),some (zsD ad),some (.lst (ats.map atD)),some (.lst (lv.map D.int)),some (.ref hd),some (.ref wp),some (.int now),some (.int ((2 * i:Nat):Int)),some (.int cell),some (.str o),some (dn t),v15,v16,v17] M4:=by
   intro o;rw[e2];clear e2;refine Q0k fun k2 e2=>?_;simp only[h101,h103,dSet,dOp,dVar,dC,zbz,zaB,dNil,Lit.d,zbF,CE.len,sub_self,drop_zero,List.drop_nil,ZM,Zi,Z8,List.getElem?_cons_zero,List.getElem?_cons_succ,List.set_cons_zero,List.set_cons_succ,Nat.reduceAdd,Nat.reduceSub,id];refine⟨cell,6,4,rfl,by decide,by decide,by decide,fun v6 hv6=>⟨ws,cell,3,v6,rfl,hwl,hw,by decide,by decide,by omega,fun b hb hbw=>?_⟩⟩
   refine Qan (a:=t) (b:=b) (by omega) ?_
   obtain⟨n,en⟩:∃ n,n=t++b:=⟨_,rfl⟩;rw[<- en];have hn:n.length<=100:=by rw[en,Zl];omega
   have hnt:n.take t.length=t:=by rw[en];exact List.take_left
   have hns:∀ w∈n,w≠[42]:=fun w hw'=>by
    rw[en]at hw';rcases Z0.mp hw' with hw' | hw'
    ·exact htop.2 w hw'
    ·exact wd_ns (hbw w hw')
   clear en;rw[e2];clear e2;refine Q0k fun k2 e2=>?_;walk_at "ev";simp only[h101];walk_at "ev";refine⟨szL (by decide),cell,7,3,rfl,by decide,by decide,by decide,fun v7 hv7=>Q0r (by omega) hv7 fun d0 hd0=>?_⟩
   obtain⟨kd,rfl,hkd⟩:∃ kd:W,d0=.str kd/\¬ IsN kd:=by
    have hm:=Zt hd0;simp only[Zw,Z4,ZP]at hm;rcases hm with rfl | rfl | rfl <;> exact⟨_,rfl,by unfold IsN;decide⟩
   clear hd0;rw[e2];clear e2
   -- it is asked
   refine Q0k fun k2 e2=>?_;walk_at "ev";simp only[h369];walk_at "ev";refine⟨wp,_,rfl,wi.ob,wF_no,M2,wp,sd,root,now,_,ks,rc,zs,2000 * i,o,t,n,kd,rfl,wi,hz,by omega,hkd,by omega,hnt,fun d M5 q out ex wi5 hqe hq0 hq hd5 hol hch=>?_⟩
   have zof:∀ z∈ofD zs o,ZnOk z:=fun z hz'=>hz.ok z (Q3D hz');obtain⟨ps,eps,hps⟩:=Q6H zof (some t) n kd;rw[e2];clear e2;refine Q0k fun k2 e2=>?_;walk_at "ev";have em:((2 * i:Nat):Int)+1=((2 * i+1:Nat):Int):=by omega
   rw[em,e2];clear e2;rw[em]at wi5;refine Q0k fun k2 e2=>?_;walk_at "ev";simp only[h363];walk_at "ev";refine iteF ⟨rfl,rfl,iteF ⟨wp,_,rfl,wi5.ob,wF_no,wp,sd,root,now,_,rfl,wi5.ob,rfl,rfl,?_⟩⟩;show (if (!eqB (D.int ((2 * i+1:Nat):Int)) (D.int ((2 * i+1:Nat):Int)))=true then _ else _)
   rw[Q0p];refine iteF ⟨wp,_,rfl,wi5.ob,wF_no,wp,sd,root,now,_,rfl,wi5.ob,iteF ?_⟩;rw[e2];clear e2
   -- the reply
   refine Q0k fun k2 e2=>?_;walk_at "ev";simp only[h119];walk_at "ev";walk_at "q0";have hs5:HsOk M5 hd zs:=hs.sub wi5.sub;refine⟨hd,zs,o,t,n,kd,rfl,hs5,zval,by omega,hkd,hnt,hn,hns,?_⟩
   rw[eps]at hd5 ⊢;refine Q8K (P:=fun b=>if b=true then (∃ M0,Sub M0 M5/\R (.bl false) M0) else k2 _ M5) hd5 hps (iteF ?_)
   rw[<- eps]at hd5;rw[e2];clear e2
   -- what is told beside
   refine Q0k fun k2 e2=>?_;walk_at "ev";simp only[h67,h362];walk_at "ev";walk_at "q0";refine⟨hd,zs,o,t,n,kd,rfl,hs5,hz,hkd,by omega,hnt,fun d6 M6 q6 out6 s6 hq6 hM6 ol6 hch6=>?_⟩
   walk_at "q0";have eo:=Q6J hch6 hch;subst eo;have po:plain 12 (.lst out6)=true:=Q8s zof hch;have wi6:=wi5.mono s6;have hq6':=s6 _ _ hq;simp only[hq6',hM6];refine⟨po,po,?_⟩;rw[Q0p];refine iteF ⟨wp,_,rfl,wi6.ob,wF_no,wp,sd,root,now,_,rfl,wi6.ob,rfl,rfl,?_⟩;show (if (!eqB (D.int now) (D.int now))=true then _ else _)
   rw[Q0p];refine iteF ?_;rw[e2];clear e2
   -- it is spoiled
   refine Q0k fun k2 e2=>?_;walk_at "ev";walk_at "q0";simp only[hq6'];refine⟨q,_,rfl,hq6',?_⟩;have wi7:=wi6.write (ys:=[]) Zv hq0 hq6';have hd7:RepG ex M2 (dupd M6 q (.lst [])) d (repO (ofD zs o) (some t) n kd):=by
    obtain⟨ps',e',h' | ⟨x,xs,h0,h1,h2,h3⟩⟩:=hd5
    ·exact⟨ps',e',.inl h'⟩
    ·exact⟨ps',e',.inr ⟨x,xs,h0,h1,by rw[Q0b (fun y=>hqe (by rw[<- y];exact h0))];exact s6 _ _ h2,h3⟩⟩
   generalize dupd M6 q (.lst [])=M7 at wi7 hd7 ⊢;rw[e2];clear e2;refine Q0k fun k2 e2=>?_;have two:∀ M8,WI M2 M8 wp sd root now ((2 * i+1:Nat):Int) ks rc zs (q::ex) (2000 * i+1000)->((∃ w r,d=.tup (.str w::r)/\w≠zad)\/∃ x xs a v l,x∈ex/\M2 x=none/\M8 x=some (.lst xs)/\xs.length<=900/\d=.tup [.str zad,a,v,.ref x,l])->k2 [some (.lst (ns.map D.int)),some (.int sz),some (.lst (ws.map D.str)),some (.lst (drs.map D.str)),some (.lst ((za6 ws).map dn)),some (zsD ad),some (.lst (ats.map atD)),some (.lst (lv.map D.int)),some (.ref hd),some (.ref wp),some (.int now),some (.int ((2 * i+1:Nat):Int)),some (.int cell),some (.str o),some (dn t),some (dn n),some (.str kd),some (.tup [d,.ref q])] M8:=by
    intro M8 wi8 hf;rw[e2];clear e2;refine Q0k fun k3 e3=>?_;have rest:∀ M9,WI M2 M9 wp sd root now ((2 * i+1:Nat):Int) ks rc zs (q::ex) (2000 * i+1000)->k3 [some (.lst (ns.map D.int)),some (.int sz),some (.lst (ws.map D.str)),some (.lst (drs.map D.str)),some (.lst ((za6 ws).map dn)),some (zsD ad),some (.lst (ats.map atD)),some (.lst (lv.map D.int)),some (.ref hd),some (.ref wp),some (.int now),some (.int ((2 * i+1:Nat):Int)),some (.int cell),some (.str o),some (dn t),some (dn n),some (.str kd),some (.tup [d,.ref q])] M9:=by
     intro M9 wi9;have wi9:=wi9.drop;rw[e3];clear e3;refine Q0k fun k4 e4=>?_;walk_at "ev";have em:((2 * i+1:Nat):Int)+1=((2 * (i+1):Nat):Int):=by omega
     rw[em,e4];clear e4;walk_at "ev";simp only[h119,h369];walk_at "ev";refine⟨wp,_,rfl,wi9.ob,wF_no,M2,wp,sd,root,now,_,ks,rc,zs,2000 * i+1000,o,t,n,kd,rfl,wi9,hz,by omega,hkd,by omega,hnt,fun dA MA qA outA exA wiA _ _ _ hdA _ _=>?_⟩
     walk_at "q0";refine⟨hd,zs,o,t,n,kd,rfl,hs.sub wiA.sub,zval,by omega,hkd,hnt,hn,hns,?_⟩
     rw[eps]at hdA ⊢;refine Q8K (P:=fun b=>if b=true then (∃ M0,Sub M0 MA/\R (.bl false) M0) else k _ MA) hdA hps (iteF ?_)
     rw[em]at wiA;exact hk _ _ ⟨_,_,_,_,_,_,rfl,wiA.drop⟩
    rcases hf with ⟨w,r,rfl,hw⟩ | ⟨x,xs,a,v,l,hx,hx0,hx1,hxl,rfl⟩
    ·walk_at "ev";walk_at "q0";refine ix_tup (by decide) (by simp only[Zi];omega) fun d0 hd0=>?_
     cases hd0
     try walk_at "ev"
     refine⟨rfl,rfl,ite2 (fun y=>absurd (ZL y) hw) fun _=>rest M8 wi8⟩
    ·walk_at "ev";walk_at "q0";refine ix_tup (by decide) (by simp only[Zi];omega) fun d0 hd0=>?_
     cases hd0
     try walk_at "ev"
     refine⟨rfl,rfl,ite2 (fun _=>?_) fun y=>absurd (Zo rfl) y⟩;walk_at "q0";walk_at "q0";simp only[hx1];exact⟨small1000 (by omega),rest _ (wi8.write (Zk _ hx) hx0 hx1)⟩
   rcases Q8r zof hd7 with ⟨x,xs,l,hx,hx0,hx1,hxl,rfl⟩ | ⟨x,xs,a,v,l,hx,hx0,hx1,hxl,rfl⟩ | ⟨w,r,rfl,hw1,hw2⟩
   ·walk_at "ev";walk_at "q0";refine ix_tup (by decide) (by simp only[Zi];omega) fun d0 hd0=>?_
    cases hd0
    try walk_at "ev"
    refine⟨rfl,rfl,ite2 (fun _=>?_) fun y=>absurd (Zo rfl) y⟩;walk_at "q0";walk_at "q0";simp only[hx1];exact⟨small1000 (by omega),two _ (wi7.write (Zk _ hx) hx0 hx1) (.inl ⟨_,_,rfl,by decide⟩)⟩
   ·walk_at "ev";walk_at "q0";refine ix_tup (by decide) (by simp only[Zi];omega) fun d0 hd0=>?_
    cases hd0
    try walk_at "ev"
    exact⟨rfl,rfl,ite2 (fun y=>absurd (ZL y) (by decide)) fun _=>two _ wi7 (.inr ⟨x,xs,a,v,l,hx,hx0,hx1,hxl,rfl⟩)⟩
   ·walk_at "ev";walk_at "q0";refine ix_tup (by decide) (by simp only[Zi];omega) fun d0 hd0=>?_
    cases hd0
    try walk_at "ev"
    exact⟨rfl,rfl,ite2 (fun y=>absurd (ZL y) hw1) fun _=>two _ wi7 (.inl ⟨_,_,rfl,hw2⟩)⟩
  walk_at "ev";simp only[h101];walk_at "ev";refine⟨cell,2,2,rfl,by decide,by decide,by decide,fun v2 hv2=>?_⟩
  try walk_at "ev"
  refine⟨rfl,rfl,ite2 (fun _=>?_) fun _=>rest o⟩;have idx:∀ (M:DH) (Q:DK),Q (.int (v:Int)) M->mIdx (.lst ((za6 ws).map dn)) [dn t] M Q:=fun M Q q=>by
   have lt:v<(za6 ws).length:=hv5;refine⟨dn t,(za6 ws).map dn,v,rfl,rfl,Q0E 9 t,?_,?_,fun j hj=>?_,q⟩
   ·rw[ZN];intro d hd;obtain⟨a,_,rfl⟩:=ZH.mp hd;exact Q0E 9 a
   ·rw[Zq,Zq,Zf lt,et,Zz,Zf lt];show some (eqB _ _)=_;show some (eqB (dn (za6 ws)[v]) (dn (za6 ws)[v]))=_;rw[Q0p]
   ·have lj:j<(za6 ws).length:=Nat.lt_trans hj lt;rw[Zq,Zq,Zf lj];show some (eqB (dn (za6 ws)[j]) (dn t))=_;rw[show eqB (dn (za6 ws)[j]) (dn t)=decide ((za6 ws)[j]=t) from Q0O _ _,et];congr 1;refine Z5 fun e=>?_;have e':(za6 ws).getD j []=(za6 ws).getD v []:=by rw[<- e,Zz,Zf lj];rfl
    exact absurd (Q2q winj j lj v hv5 e') (by omega)
  obtain⟨o',ixa⟩:∃ o':Option W,∀ (M:DH) (Q:DK),Q (atD o') M->rIxD (.lst (ats.map atD)) (.int (v:Int)) M Q:=⟨ats[v],fun M Q q=>Q0r (by omega) (by rw[Zb,al];omega) fun d0 hd0=>by
   rw[Z7,Zq,Zf (by omega)]at hd0
   cases hd0;exact q⟩
  refine idx _ _ (ixa _ _ ?_);cases o' with
  | none=>exact rest o
  | some o' =>
   simp only[atD];walk_at "ev";exact idx _ _ (ixa _ _ (rest o'))
 ·rintro ρ M4 ⟨v12,v13,v14,v15,v16,v17,rfl,wi⟩;rw[e1];clear e1;walk_at "ev";simp only[h363,h364];walk_at "ev";refine⟨wp,_,rfl,wi.ob,wF_no,wp,sd,root,now,_,rfl,wi.ob,rfl,rfl,?_⟩;show (if eqB (D.int _) (D.int _)=true then _ else _)
  rw[Q0p];refine iteT ?_;simp only[dFrz];walk_at "ev";refine⟨wp,_,rfl,wi.ob,wF_no,M2,wp,sd,root,now,_,ks,rc,zs,_,rfl,wi,knd,kgd,zgd,by omega,by omega,fun M5 a kv5 ha5 hk5 s5=>?_⟩
  have l5:kv5.length=ks.length:=by rw[<- hk5,Zb]
  have l2:kvs.length=ks.length:=by rw[<- hkk,Zb]
  refine⟨a,kv5,rfl,ha5,by omega,fun p hp=>kgd p.1 (by rw[<- hk5];exact ZH.mpr ⟨p,hp,rfl⟩),fun z1 p1 w1 q1 hq1=>?_⟩
  simp only[Q0a,Q1e hq1];refine⟨hd,kvs,rfl,s5 _ _ hkv,by omega,fun p hp=>kgd p.1 (by rw[<- hkk];exact ZH.mpr ⟨p,hp,rfl⟩),fun z2 p2 w2 q2 hq2=>?_⟩
  simp only[Q0a,Q1e hq2];rw[hk5]at p1;rw[hkk]at p2;have e12:z1=z2:=Q3B (p1.trans p2.symm) w1 w2;have pl:plain 12 (.lst (z2.map D.str))=true:=by
   show (z2.map D.str).all (plain 11)=true;rw[ZN];intro d hd;obtain⟨w,_,rfl⟩:=ZH.mp hd;rfl
  rw[e12];refine⟨pl,pl,?_⟩;rw[Q0p];exact fin _ (sM2.trans s5)
noncomputable def top(i:Nat):Stmt:=PySem.Challenge.pw_namewell_k62_a_world_asked.main.body.getD i (.Pass ⟨0,0,0,0⟩)
noncomputable def bls:List Str:=["len","range","sorted","min","dict","list","str","isinstance","tuple","bool"]
noncomputable def cons:Nat->Option (Str×D)
 | 11=>some ("STAR",D.str [42])
 | 12=>some ("ELSE",D.str [101,108,115,101])
 | 13=>some ("DOWN",D.str [100,111,119,110])
 | 14=>some ("DOOR",D.str [100,111,111,114])
 | 15=>some ("ROWS",D.str [114,111,119,115])
 | 16=>some ("EMPTY",D.str [101,109,112,116,121])
 | 17=>some ("NONE",D.str [110,111,110,101])
 | 18=>some ("AWAY",D.str [97,119,97,121])
 | _=>none
noncomputable def fns:Nat->Option FI
 | 1=>some ⟨"at_or_beneath",2,[],sp_al⟩
 | 2=>some ⟨"above",1,[],sp_a3⟩
 | 5=>some ⟨"is_star_name",1,[],sp_az⟩
 | 23=>some ⟨"values_of",1,[],sp_aT⟩
 | 24=>some ⟨"least_life",1,[],sp_a5⟩
 | 62=>some ⟨"house_at",2,[],sp_am⟩
 | 63=>some ⟨"copied_zone",1,[],sp_a8⟩
 | 100=>some ⟨"_law_cell_at",2,[],sp_ab⟩
 | 101=>some ⟨"_law_part",3,[],sp_a0⟩
 | 170=>some ⟨"_law_part",3,[],sp_ai⟩
 | 102=>some ⟨"_law_words",3,[],sp_aH⟩
 | 103=>some ⟨"_law_below",4,[],sp_a9⟩
 | 104=>some ⟨"_law_life",1,[],sp_a1⟩
 | 105=>some ⟨"_law_tops",1,[],sp_aa⟩
 | 106=>some ⟨"_law_fits",3,[],sp_aj⟩
 | 107=>some ⟨"_law_put",4,[],sp_ad⟩
 | 108=>some ⟨"_law_handed",6,[],sp_aO⟩
 | 109=>some ⟨"_law_more",6,[],sp_aw⟩
 | 110=>some ⟨"_law_tree",3,[],sp_aS⟩
 | 111=>some ⟨"_law_zone",4,[],sp_a7⟩
 | 112=>some ⟨"_law_houses",4,[],sp_ak⟩
 | 113=>some ⟨"_law_world",5,[],sp_aP⟩
 | 114=>some ⟨"_law_doors",1,[],sp_aK⟩
 | 115=>some ⟨"_law_down",2,[],sp_aI⟩
 | 116=>some ⟨"_law_begun",2,[],sp_ag⟩
 | 117=>some ⟨"_law_told_down",2,[],sp_aq⟩
 | 118=>some ⟨"_law_reply",3,[],sp_av⟩
 | 119=>some ⟨"_law_house_reply",5,[],sp_aQ⟩
 | 25=>some ⟨"values_of",1,[],sp_ac⟩
 | 67=>some ⟨"asked",5,[],sp_aA⟩
 | _=>none
noncomputable def mts:Nat->Option MI
 | 334=>some ⟨"House","let_go",1,sp_as⟩
 | 333=>some ⟨"House","take",1,sp_ah⟩
 | 366=>some ⟨"World","put",2,sp_ax⟩
 | 363=>some ⟨"World","asks",0,sp_at⟩
 | 338=>some ⟨"House","zone",1,sp_af⟩
 | 365=>some ⟨"World","zones_at",1,sp_aC⟩
 | 364=>some ⟨"World","houses",0,sp_aR⟩
 | 309=>some ⟨"Page","rows_at",2,sp_a4⟩
 | 312=>some ⟨"Page","reply_at",2,sp_aJ⟩
 | 302=>some ⟨"Page","has",1,sp_ay⟩
 | 307=>some ⟨"Page","place_of",1,sp_ap⟩
 | 311=>some ⟨"Page","reply_down",1,sp_aF⟩
 | 303=>some ⟨"Page","cut",1,sp_aN⟩
 | 310=>some ⟨"Page","reply",2,sp_au⟩
 | 301=>some ⟨"Page","lay",1,sp_aL⟩
 | 323=>some ⟨"House","page",1,sp_aM⟩
 | 328=>some ⟨"House","reply",3,sp_a6⟩
 | 322=>some ⟨"House","nearest_top",1,sp_aG⟩
 | 339=>some ⟨"House","nearby",2,sp_aB⟩
 | 336=>some ⟨"House","beside",3,sp_ar⟩
 | 337=>some ⟨"House","speak",3,sp_ae⟩
 | 369=>some ⟨"World","ask",4,sp_aD⟩
 | 362=>some ⟨"World","turn",0,sp_an⟩
 | _=>none
noncomputable def mks:Nat->Option MI
 | 320=>some ⟨"House","__init__",1,sp_a2⟩
 | 360=>some ⟨"World","__init__",1,sp_aE⟩
 | 300=>some ⟨"Page","__init__",1,sp_ao⟩
 | _=>none
noncomputable def fds:List (Str×Str):=[("Page","standing"),("Page","downs"),("Page","rows"),("Page","life"),("Page","top"),("House","turned"),("House","pages"),("House","zones"),("World","street"),("World","times_asked"),("World","now"),("World","root_door")]
noncomputable def tab:Tab:={ fn:=fns,kfn:=fun _=>none,con:=cons,bl:=bls,fx:=fun _=>none,cl:=fun _=>none,mt:=mts,ini:=mks,fd:=fds }
noncomputable abbrev sT(i:Nat):Stmt:=top i
noncomputable abbrev sM(i j:Nat):Stmt:=inClass (top i) j
noncomputable abbrev FnI(K:Frag)(nm:Str)(st:Stmt):Prop:=∃ f oc od sl kV dc pm an cd ct,nsIn K mainGlobals nm=some (some (.ref f))/\K.lookup f=some ⟨oc,od,.func (fnOf nm nm (zah st) (zab st) (za4 st) .none kV dc pm an cd ct),sl⟩/\codeIn K cd nm=true/\keepIn K (.ref f)=true
noncomputable abbrev MtI(K:Frag)(C:Addr)(nm qn:Str)(st:Stmt):Prop:=∃ f oc od sl kV dc pm an cd ct,findIn K (.ref C) nm=some (some (.ref f))/\isFn K (.ref f)=true/\K.lookup f=some ⟨oc,od,.func (fnOf nm qn (zah st) (zab st) (za4 st) .none kV dc pm an cd ct),sl⟩/\codeIn K cd qn=true/\keepIn K (.ref f)=true
theorem fnI{K:Frag}{nm:Str}{st:Stmt}{f:Addr}{oc:Value}{od:Option Addr}{sl:Array (Option Value)}{kV dc pm:Value}{an:Option Addr}{cd ct:Value}(q1:nsIn K mainGlobals nm=some (some (.ref f)))(q2:K.lookup f=some ⟨oc,od,.func (fnOf nm nm (zah st) (zab st) (za4 st) .none kV dc pm an cd ct),sl⟩)(q3:codeIn K cd nm=true)(q4:keepIn K (.ref f)=true):FnI K nm st:=⟨f,oc,od,sl,kV,dc,pm,an,cd,ct,q1,q2,q3,q4⟩
theorem mtI{K:Frag}{C:Addr}{nm qn:Str}{st:Stmt}{f:Addr}{oc:Value}{od:Option Addr}{sl:Array (Option Value)}{kV dc pm:Value}{an:Option Addr}{cd ct:Value}(q1:findIn K (.ref C) nm=some (some (.ref f)))(q0:isFn K (.ref f)=true)(q2:K.lookup f=some ⟨oc,od,.func (fnOf nm qn (zah st) (zab st) (za4 st) .none kV dc pm an cd ct),sl⟩)(q3:codeIn K cd qn=true)(q4:keepIn K (.ref f)=true):MtI K C nm qn st:=⟨f,oc,od,sl,kV,dc,pm,an,cd,ct,q1,q0,q2,q3,q4⟩
noncomputable abbrev ObI(K:Frag)(C:Addr):Prop:=plainGet K C Str.empty=true/\hasDictIn K C=true/\plainOver K C=true/\findIn K (.ref C) "__setattr__" = some (some (.builtin "object.__setattr__"))/\makesIn K C=true/\keepIn K (.ref C)=true
theorem ObI.cls{K:Frag}{C:Addr}(h:ObI K C):Cls K C:=⟨h.1,h.2.1,h.2.2.1,h.2.2.2.1⟩
structure BoI(T:Tab)(b:CS)(N ps:List Str)(nm qn:Str)(st:Stmt)(sp:DSp):Prop where
 sc:zaK N ps (za4 st)
 ck:(chkS T b).b ⟨N,(za4 st).names⟩ (zab st)=true
 ln:∀ ds M R,sp ds M R->ds.length=ps.length
 ok:∀ ds M R,sp ds M R->evS T b (za0 R) (za1 N ds) M
 bd:∀ (kV doc pm:Value) (an:Option Addr) (cdv ct:Value) (us:List Value),us.length=ps.length->bindArgs (fnOf nm qn (zah st) (zab st) (za4 st) .none kV doc pm an cdv ct) ⟨us,[]⟩=pure (ps.zip us)
 no:∀ c M,¬ T.xd c M
section
variable{P:Program}{w:World}{K:Frag}{h:Heap}{mg:Str->Option Value}{base:Heap}{T:Tab}{k:Nat}{b:CS}{N ps:List Str}{nm qn cl:Str}{st:Stmt}{sp:DSp}{C:Addr}{np:Nat}
theorem mkF(X:K.In h)(G:h.Ns mainGlobals mg)(H:FnI K nm st)(O:TabOk P w K mg base T k)(B:BoI T b N ps nm nm st sp)(e:ps.length=np):FOk P w K mg base ⟨nm,np,[],sp⟩ (k+1):=by
 obtain⟨f,oc,od,sl,kV,dc,pm,an,cd,ct,q1,q2,q3,q4⟩:=H;exact fok (Q4z b O (Q2R (st:=st) q2 q3 q4) B.sc B.ck B.ln B.ok B.no) (mg_of X G q1) q4 e ((Q5t (st:=st) q2 q3 q4).binds B.bd)
theorem mkM(oa:nsIn K mainGlobals cl=some (some (.ref C)))(ob:ObI K C)(H:MtI K C nm qn st)(O:TabOk P w K mg base T k)(B:BoI T b N ps nm qn st sp):MtOk P w K mg base ⟨cl,nm,np,sp⟩ (k+2):=by
 obtain⟨f,oc,od,sl,kV,dc,pm,an,cd,ct,q1,q0,q2,q3,q4⟩:=H;exact⟨k+1,C,f,_,_,Zs _,oa,ob.cls,⟨q1,q0,q4⟩,Q4z b O (Q2R (st:=st) q2 q3 q4) B.sc B.ck B.ln B.ok B.no,(Q5t (st:=st) q2 q3 q4).binds B.bd⟩
theorem mkI(X:K.In h)(G:h.Ns mainGlobals mg)(oa:nsIn K mainGlobals cl=some (some (.ref C)))(ob:ObI K C)(H:MtI K C "__init__" qn st)(O:TabOk P w K mg base T k)(B:BoI T b N ps "__init__" qn st sp):MkOk P w K mg base ⟨cl,"__init__",np,sp⟩ (k+2):=by
 obtain⟨f,oc,od,sl,kV,dc,pm,an,cd,ct,q1,q0,q2,q3,q4⟩:=H;exact⟨k+1,C,f,_,_,Zs _,oa,mg_of X G oa,⟨ob.2.2.2.2.1,q1,q0,ob.2.2.2.2.2⟩,Q4z b O (Q2R (st:=st) q2 q3 q4) B.sc B.ck B.ln B.ok B.no,(Q5t (st:=st) q2 q3 q4).binds B.bd⟩
end
theorem Qao:∀ ds M R,sp_law ds M R->ds.length=1:=by
 intro ds M R h;unfold sp_law dLaw at h;split at h
 ·rfl
 ·exact h.elim
open Lean in def mkN (p x:String):Ident:=mkIdent (Name.mkSimple (p++x))
open Lean in def mkS (xs : List String) : Array (TSyntax `term):=(xs.map fun s=>⟨(Syntax.mkStrLit s).raw⟩).toArray
set_option hygiene false
local macro_rules | `(tactic| walk_at "ln")=>`(tactic| (intro _ _ _ h; repeat (first | exact congrArg List.length h.1 | (refine Exists.elim h ?_; clear h; intro _ h))))
open Lean in
local macro_rules | `(tactic| walk_at $s:str) => do
 let a:=(s.getString.splitOn " ").toArray
 let wd:=a[0]!
 if !["dF","dM","dI","dL"].contains wd then Macro.throwUnsupported
 let q:=a[1]!
 let g:=fun(p:String)=>mkN p q
 let h:=fun(p:String)=>mkN p a[2]!
 do
  let x:=(a[3]!.drop 3).toString
  let pl:=a[4]!.splitOn "."
  let st : TSyntax `term <- match pl with
   | [i, j] => `(sM $(Syntax.mkNumLit i) $(Syntax.mkNumLit j))
   | _ => `(sT $(Syntax.mkNumLit a[4]!))
  let np:=a[5]!.toNat!
  let lv:=Syntax.mkNumLit a[6]!
  let calls:=(a[7]!.splitOn ",").filter (fun e=>e != "" && e != "-")
  let ns:=mkS (a[8]!.splitOn ",")
  let ps:=ns.extract 0 np
  let nr:=a[9]!.toNat!
  let mut acc : TSyntax `term <- `(TN)
  for e in calls.reverse do
   let c:=(e.toList.filter (fun c=>!c.isDigit)).head!
   let ab:=e.splitOn c.toString
   let n:=Syntax.mkNumLit ab[0]!
   let r:=mkN "R" ab[1]!
   acc <- match c with
    | 'M' => `(TabOk.consM (T := tab) (f := $n) rfl (MtOk.mono $r (by decide)) $acc rfl rfl)
    | 'I' => `(TabOk.consI (T := tab) (f := $n) rfl (MkOk.mono $r (by decide)) $acc rfl rfl)
    | _ => `(TabOk.cons (T := tab) (f := $n) rfl (FOk.mono $r (by decide)) $acc rfl rfl)
  let cs : Array (TSyntax `term):=(calls.map fun e=>⟨(Syntax.mkNumLit (String.ofList (e.toList.takeWhile Char.isDigit))).raw⟩).toArray
  let mut ok : TSyntax `term:=mkN "ok_" x
  if nr != 0 then
   ok <- `($ok _)
   for _ in [0:nr] do ok <- `($ok rfl)
  let ln : TSyntax `term <- if x == "law" then `(Qao) else `(by walk_at "ln")
  let mut t : TSyntax `term <- `(rfl)
  for _ in [0:np] do t <- `(fun _ => $t)
  let le:=(#[mkIdent `len1,mkIdent `len2,mkIdent `len3,mkIdent `len4,mkIdent `len5,mkIdent `len6])[np - 1]!
  let sc <- `(⟨rfl,rfl,rfl,by decide +kernel,rfl,by decide +kernel,by decide +kernel⟩)
  let w':=fun(p:String)=>mkN p (a[10]?.getD "")
  let nm:=Syntax.mkStrLit (a[11]?.getD "")
  let cl:=Syntax.mkStrLit (a[12]?.getD "")
  let nq:=Syntax.mkNumLit (toString (if wd == "dF" then np else np-1))
  let ac2 <- `((show TabOk l.prog w K mg base (tab.only [$cs,*]) ($lv - 1) from $acc))
  let bo <- `((BoI.mk (T := tab.only [$cs,*]) (b := $(mkN "b_" x)) (N := [$ns,*]) (ps := [$ps,*]) (st := $st) (sp := $(mkN "sp_" x)) $sc (by decide +kernel) $ln $ok (fun _ _ _ _ _ _ us hl => $le us hl $t) (fun _ _ h => h)))
  match wd with
  | "dL" => `(tactic| have $(g "Q") := Q4z (sp := $(mkN "sp_" x)) (N := [$ns,*]) (ps := [$ps,*]) $(mkN "b_" x) $ac2 (Q2R (st := $st) $(h "l") $(h "c") $(h "k")) $sc (by decide +kernel) $ln $ok)
  | "dF" => `(tactic| have $(g "R") : FOk l.prog w K mg base ⟨$nm, $nq, [], $(mkN "sp_" x)⟩ $lv := mkF X G $(h "h") $ac2 $bo rfl)
  | "dM" => `(tactic| have $(g "R") : MtOk l.prog w K mg base ⟨$cl, $nm, $nq, $(mkN "sp_" x)⟩ ($lv + 1) := mkM $(w' "oa") $(w' "ob") $(h "h") $ac2 $bo)
  | _ => `(tactic| have $(g "R") : MkOk l.prog w K mg base ⟨$cl, $nm, $nq, $(mkN "sp_" x)⟩ ($lv + 1) := mkI X G $(w' "oa") $(w' "ob") $(h "h") $ac2 $bo)
set_option hygiene true
set_option maxHeartbeats 4000000 in
theorem all_mk{l:OpenLaw}{w:World}{K:Frag}{h:Heap}{mg:Str->Option Value}{fa:Addr}(X:K.In h)(G:h.Ns mainGlobals mg)(hfa:mg "law" = some (.ref fa))
  {Ob0:Addr} (oa0:nsIn K mainGlobals "House" = some (some (.ref Ob0))) (ob0:ObI K Ob0)
  (nf5:findIn K (.ref Ob0) "turned" = some none)
  (nf6:findIn K (.ref Ob0) "pages" = some none)
  (nf7:findIn K (.ref Ob0) "zones" = some none)
  {Ob1:Addr} (oa1:nsIn K mainGlobals "World" = some (some (.ref Ob1))) (ob1:ObI K Ob1)
  (nf8:findIn K (.ref Ob1) "street" = some none)
  (nf9:findIn K (.ref Ob1) "times_asked" = some none)
  (nf10:findIn K (.ref Ob1) "now" = some none)
  (nf11:findIn K (.ref Ob1) "root_door" = some none)
  {Ob2:Addr} (oa2:nsIn K mainGlobals "Page" = some (some (.ref Ob2))) (ob2:ObI K Ob2)
  (nf0:findIn K (.ref Ob2) "standing" = some none)
  (nf1:findIn K (.ref Ob2) "downs" = some none)
  (nf2:findIn K (.ref Ob2) "rows" = some none)
  (nf3:findIn K (.ref Ob2) "life" = some none)
  (nf4:findIn K (.ref Ob2) "top" = some none)
  (h0:FnI K "at_or_beneath" (sT 3))
  (h1:FnI K "above" (sT 4))
  (h2:FnI K "is_star_name" (sT 5))
  (h3:FnI K "values_of" (sT 14))
  (h4:FnI K "least_life" (sT 15))
  (h5:MtI K Ob0 "__init__" "House.__init__" (sM 21 0))
  (h6:FnI K "house_at" (sT 19))
  (h7:FnI K "copied_zone" (sT 20))
  (h8:FnI K "_law_cell_at" (sT 25))
  (h9:FnI K "_law_part" (sT 26))
  (h11:FnI K "_law_words" (sT 27))
  (h12:FnI K "_law_below" (sT 28))
  (h13:FnI K "_law_life" (sT 29))
  (h14:FnI K "_law_tops" (sT 30))
  (h15:FnI K "_law_fits" (sT 31))
  (h16:FnI K "_law_put" (sT 32))
  (h17:FnI K "_law_handed" (sT 33))
  (h18:FnI K "_law_more" (sT 34))
  (h19:FnI K "_law_tree" (sT 35))
  (h20:FnI K "_law_zone" (sT 36))
  (h21:FnI K "_law_houses" (sT 37))
  (h22:MtI K Ob0 "let_go" "House.let_go" (sM 21 3))
  (h23:MtI K Ob0 "take" "House.take" (sM 21 1))
  (h24:MtI K Ob1 "put" "World.put" (sM 23 6))
  (h25:MtI K Ob1 "__init__" "World.__init__" (sM 23 0))
  (h26:FnI K "_law_world" (sT 38))
  (h27:FnI K "_law_doors" (sT 39))
  (h28:FnI K "_law_down" (sT 40))
  (h29:FnI K "_law_begun" (sT 41))
  (h30:FnI K "_law_told_down" (sT 42))
  (h31:FnI K "_law_reply" (sT 43))
  (h32:FnI K "_law_house_reply" (sT 44))
  (h33:MtI K Ob1 "asks" "World.asks" (sM 23 3))
  (h34:MtI K Ob0 "zone" "House.zone" (sM 21 4))
  (h35:MtI K Ob1 "zones_at" "World.zones_at" (sM 23 5))
  (h36:MtI K Ob1 "houses" "World.houses" (sM 23 4))
  (h38:MtI K Ob2 "rows_at" "Page.rows_at" (sM 13 9))
  (h39:MtI K Ob2 "reply_at" "Page.reply_at" (sM 13 8))
  (h40:MtI K Ob2 "has" "Page.has" (sM 13 2))
  (h41:MtI K Ob2 "place_of" "Page.place_of" (sM 13 7))
  (h42:MtI K Ob2 "reply_down" "Page.reply_down" (sM 13 6))
  (h43:MtI K Ob2 "cut" "Page.cut" (sM 13 3))
  (h44:MtI K Ob2 "reply" "Page.reply" (sM 13 5))
  (h45:MtI K Ob2 "lay" "Page.lay" (sM 13 1))
  (h46:MtI K Ob2 "__init__" "Page.__init__" (sM 13 0))
  (h47:MtI K Ob0 "page" "House.page" (sM 21 6))
  (h48:MtI K Ob0 "reply" "House.reply" (sM 21 8))
  (h49:MtI K Ob0 "nearest_top" "House.nearest_top" (sM 21 5))
  (h50:MtI K Ob0 "nearby" "House.nearby" (sM 21 10))
  (h51:MtI K Ob0 "beside" "House.beside" (sM 21 9))
  (h52:MtI K Ob0 "speak" "House.speak" (sM 21 7))
  (h53:MtI K Ob1 "ask" "World.ask" (sM 23 9))
  (h54:FnI K "asked" (sT 18))
  (h55:MtI K Ob1 "turn" "World.turn" (sM 23 2))
  (h56:FnI K "law" (sT 45))
  (z0:nsIn K mainGlobals "len" = some none)
  (z1:nsIn K mainGlobals "range" = some none)
  (z2:nsIn K mainGlobals "sorted" = some none)
  (z3:nsIn K mainGlobals "min" = some none)
  (z4:nsIn K mainGlobals "dict" = some none)
  (z5:nsIn K mainGlobals "list" = some none)
  (z6:nsIn K mainGlobals "str" = some none)
  (z7:nsIn K mainGlobals "isinstance" = some none)
  (z8:nsIn K mainGlobals "tuple" = some none)
  (z9:nsIn K mainGlobals "bool" = some none)
  {y0:Tok} (g0:nsIn K mainGlobals "STAR" = some (some (.str "*" y0)))
  {y1:Tok} (g1:nsIn K mainGlobals "ELSE" = some (some (.str "else" y1)))
  {y2:Tok} (g2:nsIn K mainGlobals "DOWN" = some (some (.str "down" y2)))
  {y3:Tok} (g3:nsIn K mainGlobals "DOOR" = some (some (.str "door" y3)))
  {y4:Tok} (g4:nsIn K mainGlobals "ROWS" = some (some (.str "rows" y4)))
  {y5:Tok} (g5:nsIn K mainGlobals "EMPTY" = some (some (.str "empty" y5)))
  {y6:Tok} (g6:nsIn K mainGlobals "NONE" = some (some (.str "none" y6)))
  {y7:Tok} (g7:nsIn K mainGlobals "AWAY" = some (some (.str "away" y7)))
  : ∃ fd:FuncData,(∀ (s:Shared) (v:Value),BindsTo s fd ⟨[v],[]⟩ [("_law_script",v)])/\∀ base:Heap,K.In base->base.Ns mainGlobals mg->FnOk l.prog w K mg base CX0 17 fa fd ["_law_script"] (lSp K sp_law):=by
 obtain⟨f56,oc56,od56,sl56,kV56,dc56,pm56,an56,cd56,ct56,a56,l56,c56,k56⟩:=h56;have e:=hfa.symm.trans (mg_of X G a56);cases e;have nb:∀ x∈bls,mg x=none:=by
  intro x hx;simp only[bls,Zw,Z4,ZP]at hx;rcases hx with rfl | rfl | rfl | rfl | rfl | rfl | rfl | rfl | rfl | rfl
  ·exact mg_none_of X G z0
  ·exact mg_none_of X G z1
  ·exact mg_none_of X G z2
  ·exact mg_none_of X G z3
  ·exact mg_none_of X G z4
  ·exact mg_none_of X G z5
  ·exact mg_none_of X G z6
  ·exact mg_none_of X G z7
  ·exact mg_none_of X G z8
  ·exact mg_none_of X G z9
 have hcon:∀ i p,cons i=some p->∃ u v,mg p.1=some u/\L2.RelV v u/\∀ H,Den K H p.2 v:=by
  intro i p hp;unfold cons at hp;split at hp
  ·cases hp;exact Q1m (mg_of X G g0) (by decide +kernel) (by decide +kernel)
  ·cases hp;exact Q1m (mg_of X G g1) (by decide +kernel) (by decide +kernel)
  ·cases hp;exact Q1m (mg_of X G g2) (by decide +kernel) (by decide +kernel)
  ·cases hp;exact Q1m (mg_of X G g3) (by decide +kernel) (by decide +kernel)
  ·cases hp;exact Q1m (mg_of X G g4) (by decide +kernel) (by decide +kernel)
  ·cases hp;exact Q1m (mg_of X G g5) (by decide +kernel) (by decide +kernel)
  ·cases hp;exact Q1m (mg_of X G g6) (by decide +kernel) (by decide +kernel)
  ·cases hp;exact Q1m (mg_of X G g7) (by decide +kernel) (by decide +kernel)
  ·cases hp
 have hcl:∀ c x,tab.cl c=some x->∃ C,mg x=some (.ref C)/\XCls K C:=fun c x h=>nomatch h
 have hfd:∀ p∈tab.fd,FdOk K p.1 p.2:=by
  intro p hp;simp only[tab,fds,Zw,Z4,ZP]at hp;rcases hp with rfl | rfl | rfl | rfl | rfl | rfl | rfl | rfl | rfl | rfl | rfl | rfl
  ·exact⟨Ob2,oa2,ob2.cls,nf0⟩
  ·exact⟨Ob2,oa2,ob2.cls,nf1⟩
  ·exact⟨Ob2,oa2,ob2.cls,nf2⟩
  ·exact⟨Ob2,oa2,ob2.cls,nf3⟩
  ·exact⟨Ob2,oa2,ob2.cls,nf4⟩
  ·exact⟨Ob0,oa0,ob0.cls,nf5⟩
  ·exact⟨Ob0,oa0,ob0.cls,nf6⟩
  ·exact⟨Ob0,oa0,ob0.cls,nf7⟩
  ·exact⟨Ob1,oa1,ob1.cls,nf8⟩
  ·exact⟨Ob1,oa1,ob1.cls,nf9⟩
  ·exact⟨Ob1,oa1,ob1.cls,nf10⟩
  ·exact⟨Ob1,oa1,ob1.cls,nf11⟩
 refine⟨fnOf "law" "law" (zah (sT 45)) (zab (sT 45)) (za4 (sT 45)) .none kV56 dc56 pm56 an56 cd56 ct56,fun s v=>.of_eq rfl,fun base kb nbase=>?_⟩;have TN:∀ {k:Nat},TabOk l.prog w K mg base (tab.only []) k:=TabOk.nil hcon nb hcl (hfd:=hfd);walk_at "dF 0 0 ok_al 3 2 1 - name,top 0 - at_or_beneath";walk_at "dF 1 1 ok_a3 4 1 1 - name 0 - above";walk_at "dF 2 2 ok_az 5 1 1 - name 1 - is_star_name";walk_at "dF 3 3 ok_aT 14 1 1 - rows 0 - values_of";walk_at "dF 4 4 ok_a5 15 1 1 - rows 0 - least_life";walk_at "dI 5 5 ok_a2 21.0 2 1 - self,zones 0 0 __init__ House";walk_at "dF 6 6 ok_am 19 2 3 320I5 houses,door 1 - house_at";walk_at "dF 7 7 ok_a8 20 1 1 - zone 0 - copied_zone";walk_at "dF 8 8 ok_ab 25 2 1 - _law_script,_law_k 0 - _law_cell_at";walk_at "dF 9 9 ok_a0 26 3 1 - _law_cell,_law_k,_law_many 0 - _law_part";walk_at "dF 10 9 ok_ai 26 3 1 - _law_cell,_law_k,_law_many 0 - _law_part";walk_at "dF 11 11 ok_aH 27 3 2 170F10 _law_one,_law_other,_law_size,_law_signs,_law_at,_law_words_here,_law_k,_law_word,_law_j,_law_number 1 - _law_words";walk_at "dF 12 12 ok_a9 28 4 2 101F9 _law_words_here,_law_cell,_law_k,_law_many,_law_name,_law_j 1 - _law_below";walk_at "dF 13 13 ok_a1 29 1 2 101F9 _law_cell 1 - _law_life";walk_at "dF 14 14 ok_aa 30 1 1 - _law_words_here 0 - _law_tops";walk_at "dF 15 15 ok_aj 31 3 1 - _law_rows,_law_row,_law_top,_law_one 0 - _law_fits";walk_at "dF 16 16 ok_ad 32 4 2 106F15 _law_zones,_law_tops_here,_law_at,_law_row 1 - _law_put";walk_at "dF 17 17 ok_aO 33 6 3 101F9,107F16,104F13 _law_zones,_law_tops_here,_law_words_here,_law_homes,_law_k,_law_cell,_law_j,_law_house,_law_at 3 - _law_handed";walk_at "dF 18 18 ok_aw 34 6 3 107F16,104F13,101F9,103F12 _law_zones,_law_tops_here,_law_words_here,_law_homes,_law_at,_law_cell,_law_name,_law_kind,_law_value 4 - _law_more";walk_at "dF 19 19 ok_aS 35 3 4 101F9,100F8,109F18,108F17,105F14 _law_script,_law_words_here,_law_doors_here,_law_tops_here,_law_zones,_law_homes,_law_at,_law_k,_law_cell 5 - _law_tree";walk_at "dF 20 20 ok_a7 36 4 1 - _law_tops_here,_law_zones,_law_lives,_law_k 0 - _law_zone";walk_at "dF 21 21 ok_ak 37 4 2 111F20 _law_tops_here,_law_zones,_law_lives,_law_at,_law_houses_here,_law_k 1 - _law_houses";walk_at "dM 22 22 ok_as 21.3 2 1 - self,top 0 0 let_go House";walk_at "dM 23 23 ok_ah 21.1 2 3 334M22 self,zone 1 0 take House";walk_at "dM 24 24 ok_ax 23.6 3 5 333M23,320I5,63F7 self,door,zone 3 1 put World";walk_at "dI 25 25 ok_aE 23.0 2 1 - self,root 0 1 __init__ World";walk_at "dF 26 26 ok_aP 38 5 7 366M24,111F20,360I25 _law_tops_here,_law_zones,_law_lives,_law_at,_law_root,_law_world_here,_law_k 3 - _law_world";walk_at "dF 27 27 ok_aK 39 1 2 101F9 _law_cell,_law_size,_law_at,_law_doors_here,_law_k 1 - _law_doors";walk_at "dF 28 28 ok_aI 40 2 1 - _law_zone_here,_law_name,_law_size,_law_row 0 - _law_down";walk_at "dF 29 29 ok_ag 41 2 1 - _law_zone_here,_law_name 0 - _law_begun";walk_at "dF 30 30 ok_aq 42 2 1 - _law_zone_here,_law_down_here,_law_some,_law_life_here 0 - _law_told_down";walk_at "dF 31 31 ok_av 43 3 2 116F29,117F30,115F28 _law_zone_here,_law_name,_law_kind,_law_down_here,_law_size,_law_look,_law_some,_law_right 3 - _law_reply";walk_at "dF 32 32 ok_aQ 44 5 3 118F31 _law_houses_here,_law_door,_law_top,_law_name,_law_kind,_law_zone_here 1 - _law_house_reply";walk_at "dM 33 33 ok_at 23.3 1 1 - self 0 1 asks World";walk_at "dM 34 34 ok_af 21.4 2 2 63F7 self,top 1 0 zone House";walk_at "dM 35 35 ok_aC 23.5 2 4 338M34 self,door,house 1 1 zones_at World";walk_at "dM 36 36 ok_aR 23.4 1 6 365M35 self 1 1 houses World";walk_at "dF 37 3 ok_ac 14 1 1 - rows 0 - values_of";walk_at "dM 38 38 ok_a4 13.9 3 1 - self,place,kind 0 2 rows_at Page";walk_at "dM 39 39 ok_aJ 13.8 3 3 24F4,25F37,309M38,5F2 self,place,kind,others,rows 8 2 reply_at Page";walk_at "dM 40 40 ok_ay 13.2 2 1 - self,name 0 2 has Page";walk_at "dM 41 41 ok_ap 13.7 2 3 302M40,2F1 self,name,nearest 3 2 place_of Page";walk_at "dM 42 42 ok_aF 13.6 2 3 24F4,25F37,1F0,309M38 self,cut,down,house,doors 6 2 reply_down Page";walk_at "dM 43 43 ok_aN 13.3 2 2 2F1 self,name,wider 1 2 cut Page";walk_at "dM 44 44 ok_au 13.5 3 5 312M39,307M41,311M42,303M43 self,name,kind,cut 4 2 reply Page";walk_at "dM 45 45 ok_aL 13.1 2 1 - self,row,name 1 2 lay Page";walk_at "dI 46 46 ok_ao 13.0 2 3 301M45 self,zone,row 1 2 __init__ Page";walk_at "dM 47 47 ok_aM 21.6 2 5 300I46 self,top 1 0 page House";walk_at "dM 48 48 ok_a6 21.8 4 7 310M44,323M47 self,top,name,kind,page 3 0 reply House";walk_at "dM 49 49 ok_aG 21.5 2 2 2F1 self,name,tops 1 0 nearest_top House";walk_at "dM 50 50 ok_aB 21.10 3 9 328M48,322M49 self,name,kind,top,told 3 0 nearby House";walk_at "dM 51 51 ok_ar 21.9 4 11 339M50 self,reply,name,kind,others,spoken_of,other,told 3 0 beside House";walk_at "dM 52 52 ok_ae 21.7 4 13 336M51,328M48 self,top,name,kind,reply 2 0 speak House";walk_at "dM 53 53 ok_aD 23.9 5 15 337M52,320I5 self,door,T,N,K 2 1 ask World";walk_at "dF 54 54 ok_aA 18 5 15 337M52,62F6 houses,door,T,N,K 2 - asked";walk_at "dM 55 55 ok_an 23.2 1 1 - self 0 1 turn World";walk_at "dL 56 56 ok_law 45 1 17 363M33,364M36,369M53,119F32,67F54,362M55,101F9,103F12,113F26,112F21,104F13,100F8,110F19,105F14,114F27,102F11 _law_script,_law_size,_law_words_here,_law_doors_here,_law_tops_here,_law_zones,_law_at,_law_lives,_law_houses_here,_law_world_here,_law_turn,_law_many,_law_cell,_law_door,_law_top,_law_name,_law_kind,_law_found 16";exact Q56
theorem walk{l:OpenLaw}{q:Program}{loose:List Str}{XP:(Str->Option Value)->Heap->Prop}{YP:World->Heap->Prop}{d:DefRec}{K:Params->Frag}(hn:l.most=some 63)(hdf:d.params.defaults=[])
  (hY:∀ (w:World) (h:Heap),YP w h->(K w.params).In h)
  (F:∀ (w:World) (mg:Str->Option Value) (fa:Addr) (h:Heap),(K w.params).In h->h.Ns mainGlobals mg->mg d.name=some (.ref fa) ->
   ∃ fd:FuncData,(∀ (s:Shared) (u:Value),BindsTo s fd ⟨[u],[]⟩ [("_law_script",u)])/\∀ base:Heap,(K w.params).In base->base.Ns mainGlobals mg->FnOk l.prog w (K w.params) mg base CX0 17 fa fd ["_law_script"] (lSp (K w.params) sp_law)) :
  PySem.W.WalkO q loose XP YP l.row.toRowW d [] (fun f vs=>PySem.call f vs) :=
 L2.walk_of (n:=63) (k:=17) (x:="_law_script") (CX:=fun _=>CX0) (sp:=fun w=>lSp (K w.params) sp_law) hn (by decide) hdf ⟨rfl,by decide,by decide⟩ hY F (fun _ _ a ns hl hO hS=>Qbf hl hO hS) fun _ _ _ _ _ z=>z
end My
open PySem PySem.W PyProof.Rows
set_option hygiene false
open Lean in
local macro_rules | `(tactic| walk_at $s:str) => do
 let a:=s.getString.splitOn " "
 if a.head! != "dK" then Macro.throwUnsupported
 let mut ts : Array (TSyntax `tactic):=#[]
 for e in a.tail! do
  let x:=My.mkN "" e
  let t <- match e.toList.head! with
   | 'f' => `(tactic| case $x:ident => (refine' My.fnI ?q1 ?q2 ?q3 ?q4; (case q1 => k_is); (case q2 => k_is); (case q3 => k_is); (case q4 => k_is)))
   | 'm' => `(tactic| case $x:ident => (refine' My.mtI ?q1 ?q2 ?q3 ?q4 ?q5; (case q1 => k_is); (case q2 => k_is); (case q3 => k_is); (case q4 => k_is); (case q5 => k_is)))
   | 'o' => `(tactic| case $x:ident => (refine ⟨?_, ?_, ?_, ?_, ?_, ?_⟩ <;> k_is))
   | _ => `(tactic| case $x:ident => k_is)
  ts:=ts.push t
 `(tactic| ($[$ts]*))
set_option hygiene true
set_option maxRecDepth 100000 in
set_option maxHeartbeats 0 in
theorem PySem.Challenge.cw_namewell_k62_a_world_asked_holds : PySem.Challenge.rw_namewell_k62_a_world_asked.Holds := by
 refine TH.pack.2 ?_
 delta TH.pack;dsimp only
 k_fill
 refine My.walk (l:=PySem.Challenge.rw_namewell_k62_a_world_asked) rfl rfl (fun w h Y=>PySem.W.kIn_of Y) ?F
 case F =>
  intro w mg fa h KX G hmg;refine' My.all_mk KX G hmg ?zo0 ?ob0 ?nf5 ?nf6 ?nf7 ?zo1 ?ob1 ?nf8 ?nf9 ?nf10 ?nf11 ?zo2 ?ob2 ?nf0 ?nf1 ?nf2 ?nf3 ?nf4 ?f0 ?f1 ?f2 ?f3 ?f4 ?m5 ?f6 ?f7 ?f8 ?f9 ?f11 ?f12 ?f13 ?f14 ?f15 ?f16 ?f17 ?f18 ?f19 ?f20 ?f21 ?m22 ?m23 ?m24 ?m25 ?f26 ?f27 ?f28 ?f29 ?f30 ?f31 ?f32 ?m33 ?m34 ?m35 ?m36 ?m38 ?m39 ?m40 ?m41 ?m42 ?m43 ?m44 ?m45 ?m46 ?m47 ?m48 ?m49 ?m50 ?m51 ?m52 ?m53 ?f54 ?m55 ?f56 ?z0 ?z1 ?z2 ?z3 ?z4 ?z5 ?z6 ?z7 ?z8 ?z9 ?g0 ?g1 ?g2 ?g3 ?g4 ?g5 ?g6 ?g7;walk_at "dK zo0 ob0 nf5 nf6 nf7 zo1 ob1 nf8 nf9 nf10 nf11 zo2 ob2 nf0 nf1 nf2 nf3 nf4 f0 f1 f2 f3 f4 m5 f6 f7 f8 f9 f11 f12 f13 f14 f15 f16 f17 f18 f19 f20 f21 m22 m23 m24 m25 f26 f27 f28 f29 f30 f31 f32 m33 m34 m35 m36 m38 m39 m40 m41 m42 m43 m44 m45 m46 m47 m48 m49 m50 m51 m52 m53 f54 m55 f56 z0 z1 z2 z3 z4 z5 z6 z7 z8 z9 g0 g1 g2 g3 g4 g5 g6 g7"
