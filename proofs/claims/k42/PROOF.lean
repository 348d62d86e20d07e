import PyProof.Rows.All
import Wide.All
import OpenK.AllK
import Wide.FinOn
import Lean
import PyProof.EqAt
import PyProof.EqKinds
import PyProof.TupleCall
import PyProof.EnumMake
import PyProof.AttrMissHeap
import KE.KDictOf
import KE.KEqDict
import PySem.SetOps
import PyProof.SetKind
import PyProof.TupleKey
import PyProof.SetNew
import PyProof.Rows.SetFrom
import KE.KDictSum
import PySem.Challenge.RW_namewell_k42_no_door_lacks
import PyProof.ExcClass3
import PyProof.InstStoreFacts
import PyProof.ExcBaseAll.ValueError
open List(all_cons all_eq_true all_nil any_cons any_eq_true any_map append_nil cons_append drop_eq_getElem_cons drop_eq_nil_of_le drop_range' drop_zero filterMap_cons filter_append filter_cons filter_nil find?_cons find?_cons_of_neg find?_eq_none find?_eq_some_iff_getElem find?_some flatMap_cons getD_eq_getElem?_getD getElem?_append_left getElem?_append_right getElem?_drop getElem?_eq_getElem getElem?_map getElem?_range getElem_map getElem_range' getLast?_eq_none_iff isEmpty_iff length_append length_cons length_drop length_filter_le length_map length_nil length_range length_replicate length_reverse length_singleton length_take lookup_cons map_append map_congr_left map_cons map_drop map_id map_map map_nil map_take mem_append mem_append_left mem_append_right mem_cons mem_cons_of_mem mem_cons_self mem_filter mem_filterMap mem_flatMap mem_iff_getElem? mem_map mem_of_find?_eq_some mem_of_getElem? mem_of_getLast? mem_range mem_reverse mem_singleton nil_append nodup_append nodup_cons nodup_nil not_mem_nil of_mem_zip pairwise_append pairwise_singleton range_succ size_toArray take_add_one take_length take_of_length_le take_take take_zero)
open Nat(add_le_add_left le_of_eq le_of_lt le_of_not_lt le_refl le_succ le_succ_of_le le_total le_trans lt_irrefl lt_of_le_of_lt lt_of_lt_of_le lt_or_ge lt_succ_self lt_trans min_eq_left min_eq_right ne_of_gt ne_of_lt not_lt_zero sub_self sub_zero succ_pos zero_le)
open Bool(and_eq_true eq_false_iff false_eq_true not_eq_true' or_eq_true)
open PySem.W(Frag OpenLaw callWith_K codeIn findIn fnOf hasDictIn instObj isFn keepIn kia_one kitOne kitx_dict kitx_list kitx_tuple makesIn methodCall_KW methodObj mg_none_of mg_of nsIn plainGet plainGet_of plainOver pyHash_slot)
open PySem.F(args_dict_get_2 args_tuple_add_2 entry_dict_get entry_tuple_add plainAttrs_dict plain_extend_loop slot_dict_get slot_dict_itemiterator_next slot_dict_keyiterator_next slot_dict_setdefault slot_list_pop slot_tuple_add type_dict_get type_list_pop)
local macro_rules|`(tactic|room)=>`(tactic|first|lia|omega)
local macro_rules|`(tactic|kd_p)=>`(tactic|decide +kernel)
open Lean in
local macro_rules|`(tactic|erw[$rs,*]$[$l]?)=>do
 let xs:Array (TSyntax `term):=rs.getElems.map λr=>⟨r.raw[1]⟩
 `(tactic|simp only[$[$xs:term],*]$[$l]?)
section
open PySem PySem.Spec PyProof.Rows
theorem Za:type_of%(@wpAny_bind):=@wpAny_bind
theorem Zb:type_of%(@length_map):=@length_map
theorem Zc:type_of%(@wpAny_pure):=@wpAny_pure
theorem Zd:type_of%(@if_neg):=@if_neg
theorem Ze:type_of%(@decide_eq_true_eq):=@decide_eq_true_eq
theorem Zf:type_of%(@List.getElem?_eq_some_iff):=@List.getElem?_eq_some_iff
theorem Zg:type_of%(@if_pos):=@if_pos
theorem Zh:type_of%(@mem_singleton):=@mem_singleton
theorem Zi:type_of%(@getElem?_eq_getElem):=@getElem?_eq_getElem
theorem Zj:type_of%(@Heap.get?_push_of_some):=@Heap.get?_push_of_some
theorem Zk:type_of%(@and_eq_true):=@and_eq_true
theorem Zl:type_of%(@length_append):=@length_append
theorem Zm:type_of%(@decide_eq_true):=@decide_eq_true
theorem Zo:type_of%(@mem_cons_of_mem):=@mem_cons_of_mem
theorem Zp:type_of%(@mem_cons_self):=@mem_cons_self
theorem Zq:type_of%(@le_refl):=@le_refl
theorem Zr:type_of%(@le_trans):=@le_trans
theorem Zs:type_of%(@Option.bind_eq_some_iff):=@Option.bind_eq_some_iff
theorem Zt:type_of%(@Heap.lt_size):=@Heap.lt_size
theorem Zu:type_of%(@Option.map_eq_some_iff):=@Option.map_eq_some_iff
theorem Zv:type_of%(@Bool.false_ne_true):=@Bool.false_ne_true
theorem Zw:type_of%(@length_cons):=@length_cons
theorem Zx:type_of%(@getElem?_map):=@getElem?_map
theorem Zy:type_of%(@mem_append_right):=@mem_append_right
theorem Zz:type_of%(@length_take):=@length_take
theorem Z0:type_of%(@Heap.get?_push_size):=@Heap.get?_push_size
theorem Z1:type_of%(@mem_cons):=@mem_cons
theorem Z2:type_of%(@of_decide_eq_true):=@of_decide_eq_true
theorem Z3:type_of%(@Option.isSome_iff_exists):=@Option.isSome_iff_exists
theorem Z4:type_of%(@mem_append):=@mem_append
theorem Z5:type_of%(@beq_iff_eq):=@beq_iff_eq
theorem Z6:type_of%(@mem_of_getElem?):=@mem_of_getElem?
theorem Z7:type_of%(@decide_eq_false):=@decide_eq_false
theorem Z8:type_of%(@getD_eq_getElem?_getD):=@getD_eq_getElem?_getD
theorem Z9:type_of%(@map_append):=@map_append
theorem ZA:type_of%(@not_mem_nil):=@not_mem_nil
theorem ZB:type_of%(@lt_of_lt_of_le):=@lt_of_lt_of_le
theorem ZC:type_of%(@map_cons):=@map_cons
theorem ZD:type_of%(@Int.toNat_natCast):=@Int.toNat_natCast
theorem ZE:type_of%(@Option.some.inj):=@Option.some.inj
theorem ZF:type_of%(@size_toArray):=@size_toArray
theorem ZH:type_of%(@length_nil):=@length_nil
theorem ZI:type_of%(@zero_le):=@zero_le
theorem ZJ:type_of%(@mem_map):=@mem_map
theorem ZK:type_of%(@getElem?_append_right):=@getElem?_append_right
theorem ZL:type_of%(@length_singleton):=@length_singleton
theorem ZM:type_of%(@lt_of_le_of_lt):=@lt_of_le_of_lt
theorem ZN:type_of%(@false_eq_true):=@false_eq_true
theorem ZO:type_of%(@ne_of_lt):=@ne_of_lt
theorem ZP:type_of%(@lookup_cons):=@lookup_cons
theorem ZQ:type_of%(@wpAny_newObj_type):=@wpAny_newObj_type
theorem ZR:type_of%(@all_eq_true):=@all_eq_true
theorem ZS:type_of%(@take_of_length_le):=@take_of_length_le
theorem ZT:type_of%(@Paired.length):=@Paired.length
theorem ZU:type_of%(@if_false):=@if_false
theorem ZV:type_of%(@mem_append_left):=@mem_append_left
theorem ZW:type_of%(@Option.map_some):=@Option.map_some
theorem ZX:type_of%(@mem_filter):=@mem_filter
theorem ZY:type_of%(@sizeLine_eq):=@sizeLine_eq
theorem ZZ:type_of%(@getElem?_append_left):=@getElem?_append_left
theorem Yb:type_of%(@mem_iff_getElem?):=@mem_iff_getElem?
theorem Yc:type_of%(@length_filter_le):=@length_filter_le
theorem Yd:type_of%(@Array.length_toList):=@Array.length_toList
theorem Ye:type_of%(@min_eq_left):=@min_eq_left
theorem Yg:type_of%(@PyProof.Rows.slot_tuple_getitem):=@PyProof.Rows.slot_tuple_getitem
theorem Yh:type_of%(@find?_eq_some_iff_getElem):=@find?_eq_some_iff_getElem
theorem Yi:type_of%(@Calls.spliced_cons):=@Calls.spliced_cons
theorem Yj:type_of%(@if_true):=@if_true
theorem Yk:type_of%(@wpAny_holding):=@wpAny_holding
theorem Yl:type_of%(@length_range):=@length_range
theorem Ym:type_of%(@all_cons):=@all_cons
theorem Yn:type_of%(@wpAny_truthy_bool):=@wpAny_truthy_bool
theorem Yo:type_of%(@drop_eq_nil_of_le):=@drop_eq_nil_of_le
theorem Yp:type_of%(@True.intro):=@True.intro
theorem Yq:type_of%(@add_le_add_left):=@add_le_add_left
theorem Yr:type_of%(@beq_eq_false_iff_ne):=@beq_eq_false_iff_ne
theorem Ys:type_of%(@Calls.callWith_builtin):=@Calls.callWith_builtin
theorem Yt:type_of%(@not_lt_zero):=@not_lt_zero
theorem Yu:type_of%(@wpAny_call_entry):=@wpAny_call_entry
theorem Yv:type_of%(@wpAny_mono):=@wpAny_mono
theorem Yw:type_of%(@nodup_cons):=@nodup_cons
theorem Yx:type_of%(@pairwise_singleton):=@pairwise_singleton
theorem Yy:type_of%(@Option.isSome_map):=@Option.isSome_map
theorem Yz:type_of%(@wpAny_dictEntries):=@wpAny_dictEntries
theorem Y0:type_of%(@drop_eq_getElem_cons):=@drop_eq_getElem_cons
theorem Y1:type_of%(@or_false):=@or_false
theorem Y2:type_of%(@append_nil):=@append_nil
end
set_option hygiene false in
local macro_rules | `(tactic| walk_at "q0") => `(tactic| (
 refine Q0b λk1 e1=>?_;w_up))
set_option hygiene false in
local macro_rules | `(tactic| walk_at "q1") => `(tactic| (
 refine ix_t rfl ?_
 try w_up
 refine⟨rfl,rfl,ite2 (λz=>absurd (Z2 z) (by decide)) λ_=>?_⟩))
set_option hygiene false in
local macro_rules | `(tactic| walk_at "q2") => `(tactic| (
 rw[e1];clear e1;walk_at "q0"))
set_option hygiene false in
local macro_rules | `(tactic| walk_at "q3") => `(tactic| (
 w_up;refine ix_t rfl ?_))
set_option hygiene false in
local macro_rules | `(tactic| walk_at "q4") => `(tactic| (
 rw[e1];clear e1;refine Q0b λk1 e1=>?_))
set_option hygiene false in
local macro_rules | `(tactic| walk_at "q5") => `(tactic| (
 obtain⟨⟨z,n,ap,es,cp⟩,rfl,q⟩:=qv;have qv:=Q0i q;clear q;obtain⟨⟨y,y'⟩,e,q⟩:=qv;dsimp only at e q ⊢;subst e;erw[Zk]at q;obtain⟨⟨⟨⟨⟨⟨⟨q0,q1⟩,q2⟩,q3⟩,q4⟩,q5⟩,q6⟩,q7⟩:=q))
set_option Elab.async false
set_option linter.all false
set_option compiler.extract_closed false
set_option maxRecDepth 100000
namespace TH
open PySem PySem.W
noncomputable def topT(p:Program)(w:World)(m:Nat)(ann:Option Value):Nat->SharedT->Thread->Option SharedT
 | 0,_,_=>none
 | n+1,s,t =>
  match through t with
  | true=>some s
  | false =>
   match stepOk m ann t with
   | false=>none
   | true =>
    match stepT (denote treeTable) p w s t with
    | none=>none
    | some (s',t')=>topT p w m ann n s' t'
theorem Q6f{p:Program}{w:World}{m:Nat}{ann:Option Value}:∀ {n:Nat} {s r:SharedT} {t:Thread},
  topT p w m ann n s t=some r->topRun treeTable p w m ann n s.abs t=some r.abs
 | 0,_,_,_,h=>by cases h
 | n+1,s,r,t,h=>by
  unfold topT at h;unfold topRun;cases ht:through t with
  | true=>rw[ht]at h;cases h;rfl
  | false =>
   rw[ht]at h;cases hk:stepOk m ann t with
   | false=>rw[hk]at h;cases h
   | true =>
    rw[hk]at h;cases hs:stepT (denote treeTable) p w s t with
    | none=>rw[hs]at h;cases h
    | some x =>
     obtain⟨s₂,t₂⟩:=x;rw[hs]at h;rw[stepT_spec hs];exact Q6f h
noncomputable def treeL(l:List Obj):Nat->Nat->Nat->BT
 | 0,_,_=>.nil
 | f+1,a,b =>
  match l[b]? with
  | some o=>.node o (treeL l f (2 * a) (a+b)) (treeL l f (2 * a) (2 * a+b))
  | none=>.nil
noncomputable def bootT(P:Params):BT:=treeL (boot_heap P).objs.toList 5 1 0
theorem Q6g(P:Params):absHeap (bootT P) 11 (boot_heap P).life=boot_heap P:=by kernel_rfl
theorem Q6h(P:Params):((boot_heap P).isNs mainGlobals,(boot_heap P).objs.size,(boot_heap P).nsMap mainGlobals "__annotations__")=(true,11,some (.ref 6)):=by kernel_rfl
noncomputable def beginT(w:World)(os:OsState):SharedT:=⟨bootT w.params,11,(boot_heap w.params).life,Array.mk [],boot_drawn,boot_toks,os⟩
noncomputable def runT(p:Program)(N:Nat)(w:World)(os:OsState):Option SharedT:=topT p w 11 (some (.ref 6)) N (beginT w os) (topStub p)
theorem Qa6{p q:Program}{loose:List Str}{Xt:Shared->Bool}{α:Type}{Yf:Shared->α}{Ya:World->α}{N:Nat}{g0:Bool}
  (e:opening p=plainProg p.main.scope.names) (hN:Nat.ble 600 N=true) (f:∀ s,fenceModules? p s=some s)
  (c1:∀ (w:World) (os:OsState),(runT p N w os).map (λs=>staticsOk (importedModules p.main.body) (boot_heap w.params) s.abs.heap&&namesBound p s.abs.heap&&gensDone s.abs&&laidKept (boot_heap w.params) s.abs.heap)=some true)
  (c2:∀ (w:World) (os:OsState),(runT p N w os).map (λs=>openSeen q loose (importedModules p.main.body) Xt g0 s.abs)=some (openGood q loose))
  (c3:∀ (w:World) (os:OsState),(runT p N w os).map (λs=>Yf s.abs)=some (Ya w)):LeftO p q loose Xt Yf Ya N g0:=λw=>by
 obtain⟨⟨h,gs,d,k,os⟩,e1,e2⟩:=Zu.mp (boot_open e hN f w);obtain⟨rfl,rfl,rfl,rfl⟩:h=boot_heap w.params/\gs=Array.mk []/\d=boot_drawn/\k=boot_toks:=by simpa using e2
 obtain⟨r,r1,l1⟩:=Zu.mp (c1 w os);have l2:=c2 w os;have l3:=c3 w os;rw[r1]at l2 l3
 replace l2:=ZE l2
 replace l3:=ZE l3
 obtain⟨z1,z2,z3⟩:_/\_/\_:=by simpa only [Prod.mk.injEq]using Q6h w.params
 have t0:=Q6f r1;have ab:(beginT w os).abs=⟨boot_heap w.params,Array.mk [],boot_drawn,boot_toks,os⟩:=by
  show Shared.mk (absHeap (bootT w.params) 11 (boot_heap w.params).life) _ _ _ _=_;rw[Q6g];rfl
 rw[ab]at t0;have t:topFrom treeTable p w N ⟨boot_heap w.params,Array.mk [],boot_drawn,boot_toks,os⟩=some r.abs:=by
  unfold topFrom;dsimp only;rw[z1,z2,z3,t0];show (match staticsOk (importedModules p.main.body) (boot_heap w.params) r.abs.heap&&namesBound p r.abs.heap&&gensDone r.abs&&laidKept (boot_heap w.params) r.abs.heap with | true=>_ | false=>_)=_
  rw[l1]
 unfold openEnds;rw[e1];show Option.map _ (topFrom treeTable p w N _)=_;rw[t];refine congrArg some ?_;exact Prod.ext l2 l3
end TH
namespace TH
open PySem PySem.W PyProof.Rows
noncomputable abbrev pp:Program:=PySem.Challenge.pw_namewell_k42_no_door_lacks
noncomputable def qq:Program:=view pp ((List.range 46).filter λi=>!([1,8,16,20,23].contains i))
noncomputable abbrev ll:List Str:=[]
noncomputable def xt(s:Shared):Bool:=xlAt qq [] s&&recOk (RowW.records (OpenRow.toRowW (OpenLaw.row PySem.Challenge.rw_namewell_k42_no_door_lacks))) s
theorem p9{A1 A2 A3 A4 A5 A6 A7 A8 A9:Type}{a a':A1}{b b':A2}{c c':A3}{d d':A4}{e e':A5}{f f':A6}{g g':A7}{h h':A8}{i i':A9}(q1:a=a')(q2:(b,c)=(b',c'))(q3:(d,e,f)=(d',e',f'))(q4:(g,h,i)=(g',h',i')):(a,b,c,d,e,f,g,h,i)=(a',b',c',d',e',f',g',h',i'):=by cases q1;cases q2;cases q3;cases q4;rfl
theorem l2a(w:World)(os:OsState):(runT pp 5356 w os).map (λs=>seen ((recsOf qq).map (·.name)) (ownsOf qq) [] { s.abs with gens:=#[] })=some (expectedOf qq):=by kernel_rfl
theorem l2b(w:World)(os:OsState):(runT pp 5356 w os).map (λs=>(s.abs.heap.bltView,(s.abs.heap.keysOk (looseW qq ll) ((recsOf qq).map (·.name)) ((litsOf qq).map (·.1)) ((clssOf qq (looseW qq ll)).map (·.name))&&s.abs.heap.accountedOkI (importedModules pp.main.body)&&s.abs.heap.isNs mainGlobals&&s.abs.heap.isNs builtinsNs&&tablesOk qq s.abs.heap&&xt s.abs&&(if true then s.abs.gens.size==0 else !leftWithCleanup s.abs.gens))))=some (bltViewBooted,true):=by kernel_rfl
theorem l2c(w:World)(os:OsState):(runT pp 5356 w os).map (λs=>(tabsOk qq s.abs,pinSeenD qq (drecsOf qq) s.abs,plainSeenE qq (looseW qq ll) s.abs))=some (true,pinGoodD (drecsOf qq),plainGoodE qq (looseW qq ll)):=by kernel_rfl
theorem l2d(w:World)(os:OsState):(runT pp 5356 w os).map (λs=>(plainSeenD qq ll s.abs,wideSeen qq s.abs,clsSeenW qq ll s.abs))=some (plainGoodD qq ll,wideGood qq,clsGoodW qq ll):=by kernel_rfl
theorem left2(w:World)(os:OsState):(runT pp 5356 w os).map (λs=>openSeen qq ll (importedModules pp.main.body) xt true s.abs)=some (openGood qq ll):=by
 have a:=l2a w os;have b:=l2b w os;have c:=l2c w os;have d:=l2d w os
 revert a b c d
 generalize runT pp 5356 w os=r;intro a b c d;cases r with
 | none=>cases a
 | some r=>exact congrArg some (p9 (ZE a) (ZE b) (ZE c) (ZE d))
theorem left1(w:World)(os:OsState):(runT pp 5356 w os).map (λs=>staticsOk (importedModules pp.main.body) (boot_heap w.params) s.abs.heap&&namesBound pp s.abs.heap&&gensDone s.abs&&laidKept (boot_heap w.params) s.abs.heap)=some true:=by kernel_rfl
local macro_rules | `(tactic| o_head $H) => `(tactic| (
 refine holds_open (r:=OpenLaw.row PySem.Challenge.rw_namewell_k42_no_door_lacks) (q:=qq) (loose:=ll) (N:=5356) (Xt:=xt) (XP:=XL qq [])
  (Ya := Hook.val $H) (Yf := Hook.obs $H) (YP := Hook.says $H) ?hl (Hook.of $H) (Hook.keeps $H)
  (λs e=>xl_of s (Bool.and_eq_true_iff.mp e).1) XL.keeps (by rfl) (by rfl) (by rfl) (λs e=>recFacts_of (Bool.and_eq_true_iff.mp e).2)
  (by rfl) (by assumption) (by kd_p) ⟨rfl,rfl,rfl,rfl,rfl,by kd_p⟩ ?hw ?hc
 (case hl=>exact Qa6 (by kernel_rfl) (by rfl) (λs=>by kernel_rfl) left1 left2 (λw os=>by kernel_rfl))))
set_option maxHeartbeats 0 in
theorem said0:OpenLaw.wellSaid PySem.Challenge.rw_namewell_k42_no_door_lacks=true:=by kernel_rfl
set_option maxHeartbeats 0 in
noncomputable def pack:{ A:Prop // A->PySem.Challenge.rw_namewell_k42_no_door_lacks.Holds }:=by
 refine⟨?_,?_⟩;rotate_left
 ·intro hA;w_on;refine holds_law said0 λsaid=>?_;k_head;(case hw=>w_witness2);exact hA
end TH
namespace L2
open PySem PySem.Spec PyProof.Rows
noncomputable abbrev Key:=Sum Int Str
noncomputable def zbz:Key->Value->Bool
 | .inl k,v=>Value.isInt k v
 | .inr x,v=>Value.isStrOf x v
noncomputable def keyH(w:World):Key->Int
 | .inl k=>hashInt k
 | .inr x=>hashStr w x
theorem Q0o:∀ {k:Key} {v:Value},zbz k v=true->(∃ i t,k=Sum.inl i/\v=Value.int i t)\/(∃ x t,k=Sum.inr x/\v=Value.str x t)
 | .inl i,v,h=>by
  obtain⟨t,e⟩:=Value.isInt_shape (k:=i) (v:=v) h;exact .inl ⟨i,t,rfl,e⟩
 | .inr x,v,h=>by
  obtain⟨t,e⟩:=Value.isStrOf_shape (x:=x) (v:=v) h;exact .inr ⟨x,t,rfl,e⟩
theorem Q6i(i:Int)(t:Tok):zbz (.inl i) (.int i t)=true:=by simp[zbz,Value.isInt]
theorem Q6j(x:Str)(t:Tok):zbz (.inr x) (.str x t)=true:=by simp[zbz,Value.isStrOf]
theorem Qbx(a b:Int):decide ((Sum.inl a:Key)=Sum.inl b)=(a==b):=by
 by_cases e:a=b
 ·subst e;simp
 ·have h:¬ (Sum.inl a:Key)=Sum.inl b:=λq=>e (Sum.inl.inj q);rw[Z7 h];exact (Yr.mpr e).symm
theorem Qby(a b:Str):decide ((Sum.inr a:Key)=Sum.inr b)=decide (a=b):=by
 by_cases e:a=b
 ·subst e;simp
 ·have h:¬ (Sum.inr a:Key)=Sum.inr b:=λq=>e (Sum.inr.inj q);rw[Z7 h,Z7 e]
theorem Qbz(a:Int)(b:Str):decide ((Sum.inl a:Key)=Sum.inr b)=false:=Z7 (λq=>nomatch q)
theorem QbA(a:Str)(b:Int):decide ((Sum.inr a:Key)=Sum.inl b)=false:=Z7 (λq=>nomatch q)
noncomputable def za6(prog:Program)(w:World):PySem.KeyKind prog w Key where
 is:=zbz
 hash:=keyH w
 inj:=λv a b ha hb=>by
  rcases Q0o ha with ⟨i,t,rfl,rfl⟩ | ⟨x,t,rfl,rfl⟩
  ·rcases Q0o hb with ⟨j,u,rfl,e⟩ | ⟨y,u,rfl,e⟩
   ·injection e with e1 _;rw[e1]
   ·exact nomatch e
  ·rcases Q0o hb with ⟨j,u,rfl,e⟩ | ⟨y,u,rfl,e⟩
   ·exact nomatch e
   ·injection e with e1 _;rw[e1]
 byValue:=λk v h=>by
  rcases Q0o h with ⟨i,t,rfl,rfl⟩ | ⟨x,t,rfl,rfl⟩ <;> rfl
 pyHash:=λhv h=>by
  rcases Q0o hv with ⟨i,t,rfl,rfl⟩ | ⟨x,t,rfl,rfl⟩
  ·exact wpAny_pyHash_int h
  ·exact wpAny_pyHash_str h
 eqBool:=λhu hv h=>by
  rcases Q0o hu with ⟨i,t,rfl,rfl⟩ | ⟨x,t,rfl,rfl⟩
  ·rcases Q0o hv with ⟨j,u,rfl,rfl⟩ | ⟨y,u,rfl,rfl⟩
   ·rw[Qbx]at h;exact wpAny_eqBool_int h
   ·rw[Qbz]at h;exact SeqAt.EqAt.int_str i t y u _ _ _ _ h
  ·rcases Q0o hv with ⟨j,u,rfl,rfl⟩ | ⟨y,u,rfl,rfl⟩
   ·rw[QbA]at h;exact SeqAt.EqAt.str_int x t j u _ _ _ _ h
   ·rw[Qby]at h;exact wpAny_eqBool_str h
 «strs»:=λk x t v h=>by
  rcases Q0o h with ⟨i,u,rfl,e⟩ | ⟨y,u,rfl,e⟩
  ·exact nomatch e
  ·injection e with e1 _;subst e1;cases v <;> rfl
theorem Q4z(prog:Program)(w:World)(i:Int)(t:Tok):(za6 prog w).is (.inl i) (.int i t)=true:=Q6i i t
theorem Q4A(prog:Program)(w:World)(x:Str)(t:Tok):(za6 prog w).is (.inr x) (.str x t)=true:=Q6j x t
inductive V where
 | non | bl (b:Bool) | int (i:Int) | str (x:Str) | byt (b:Array UInt8) | flt (b:UInt64) | ref (a:Addr) | ty (n:String)
 deriving DecidableEq
def RelV:V->Value->Prop
 | .non,u=>u=Value.none
 | .bl b,u=>u=Value.bool b
 | .int i,u=>∃ t,u=Value.int i t
 | .str x,u=>∃ t,u=Value.str x t
 | .byt b,u=>∃ t,u=Value.bytes b t
 | .flt b,u=>∃ t,u=Value.float b t
 | .ref a,u=>u=Value.ref a
 | .ty n,u=>u=Value.type n
noncomputable abbrev Vals:List V->List Value->Prop:=Paired RelV
theorem Vals.length(r:Vals xs us):xs.length=us.length:=ZT r
theorem Vals.get:∀ {xs:List V} {us:List Value} {i:Nat} {x:V},Vals xs us->xs[i]? = some x->∃ u,us[i]? = some u/\RelV x u
 | _,_,_,_,.nil,e=>by simp at e
 | _,_,0,_,.cons r _,e=>by simp at e;subst e;exact⟨_,rfl,r⟩
 | _,_,i+1,x,.cons _ t,e=>by
  obtain⟨u,h1,h2⟩:=Vals.get (i:=i) (x:=x) t (by simpa using e)
  exact⟨u,by simpa using h1,h2⟩
theorem Vals.append:∀ {xs ys:List V} {us ws:List Value},Vals xs us->Vals ys ws->Vals (xs++ys) (us++ws)
 | _,_,_,_,.nil,s=>s
 | _,_,_,_,.cons r t,s=>.cons r (Vals.append t s)
theorem Vals.take:∀ {xs:List V} {us:List Value} (n:Nat),Vals xs us->Vals (xs.take n) (us.take n)
 | _,_,0,_=>.nil
 | _,_,_+1,.nil=>.nil
 | _,_,n+1,.cons r t=>.cons r (Vals.take n t)
theorem Vals.drop:∀ {xs:List V} {us:List Value} (n:Nat),Vals xs us->Vals (xs.drop n) (us.drop n)
 | _,_,0,r=>r
 | _,_,_+1,.nil=>.nil
 | _,_,n+1,.cons _ t=>Vals.drop n t
def RelO:Option V->Option Value->Prop
 | some v,some u=>RelV v u
 | none,none=>True
 | _,_=>False
def KV{κ:Type}:List (κ×V)->List (κ×Value)->Prop:=Paired λ(p:κ×V) (q:κ×Value)=>p.1=q.1/\RelV p.2 q.2
noncomputable def kV:Key->V
 | .inl i=>.int i
 | .inr x=>.str x
inductive HO where
 | lst (xs:List V)
 | tup (xs:List V)
 | dK (kvs:List (Key×V)) | dT (kvs:List (List Key×V))
 | set (S:Int->Bool) (n:Nat)
 | ins (C dx:Addr) (fs:List (Str×V))
 | own (x:Addr)
 | xd (fs:List (Str×V))
 | met (f x:Addr)
 | rng (lo hi:Int)
 | frz (o:Obj) (u:HO)
 | tbl (ps:Array Value)
 | ext (φ:Heap->Prop)
noncomputable abbrev Hp:=Addr->Option HO
noncomputable def upd(H:Hp)(a:Addr)(o:HO):Hp:=λb=>if b=a then some o else H b
theorem Q0g:upd H a o a=some o:=by unfold upd;rw[Zg rfl]
theorem Q0d(h:b≠a):upd H a o b=H b:=by unfold upd;rw[Zd h]
theorem Q3k:upd (upd H a o) a u=upd H a u:=by
 funext b;unfold upd;split <;> rfl
theorem ne_of{H:Hp}{a b:Addr}{o u:HO}(h:H a=some o)(h':H b=some u)(d:o≠u):a≠b:=by
 intro e;subst e;rw[h]at h';exact d (ZE h')
theorem Q0k{H:Hp}{a b:Addr}{o:HO}(h:H a=some o)(h':H b=none):a≠b:=by
 intro e;subst e;rw[h]at h';cases h'
section
variable(P:Program)(w:World)
def ObjOk(H:Hp)(h:Heap)(a:Addr):HO->Prop
 | .lst xs=>xs.length<=sizeLine/\∃ (its:List Value) (n:Nat),Vals xs its/\h.get? a=some { cls:=.type "list",data:=.seq its.toArray n }
 | .tup xs=>xs.length<=sizeLine/\∃ its:List Value,Vals xs its/\IsTup h a its.toArray
 | .dK kvs=>kvs.length<=sizeLine/\(a==sysModules)=false/\∃ vs,KV kvs vs/\h.DictOf (za6 P w) a vs
 | .dT kvs=>kvs.length<=sizeLine/\(a==sysModules)=false/\∃ xs:List (List Key×Addr×Value),
   Paired (λ(p:List Key×V) (q:List Key×Addr×Value)=>p.1=q.1/\H q.2.1=some (.tup (p.1.map kV))/\RelV p.2 q.2.2) kvs xs /\
   ∃ o es ep,h.get? a=some o/\o.ExactDict/\o.data=.dict es ep/\es.toList=xs.map (entryOfKey (tupleKind (za6 P w)))/\(xs.map (·.1)).Nodup
 | .set S n=>h.SetOf (intKind P w) a S n
 | .ins C dx fs=>H dx=some (.own a)/\fs.length<=1000/\dx≠a/\h.get? a=some (instObj C dx) /\
   ∃ mA,h.Ns1 dx mA/\(∀ f,RelO (fs.lookup f) (mA f))/\PySem.Within mA (fs.map (·.1))
 | .own _=>∃ o,h.get? a=some o
 | .xd fs=>∃ mA,h.Ns1 a mA/\∀ f,RelO (fs.lookup f) (mA f)
 | .rng lo hi=>∃ t u v,h.get? a=some { cls:=.type "range",data:=.fields #[.int lo t,.int hi u,.int 1 v] }
 | .frz o u=>h.get? a=some o/\ObjOk H h a u
 | .tbl ps=>h.get? a=some { cls:=.none,data:=.fields ps }
 | .met f x=>h.get? a=some (methodObj (.ref f) (.ref x))
 | .ext φ=>φ h/\(∃ o,h.get? a=some o)/\∀ h1 h2:Heap,φ h1->(∀ o,h1.get? a=some o->h2.get? a=some o)->φ h2
def HOk(H:Hp)(h:Heap):Prop:=∀ a o,H a=some o->ObjOk P w H h a o
end
section
variable{P:Program}{w:World}{H H':Hp}{h h':Heap}{a:Addr}{o:HO}
theorem ObjOk.lt(x:ObjOk P w H h a o):a<h.objs.size:=by
 cases o with
 | lst xs=>obtain⟨_,_,_,_,e⟩:=x;exact Zt e
 | tup xs=>obtain⟨_,_,_,p⟩:=x;exact p.lt
 | dK kvs=>obtain⟨_,_,_,_,o,_,_,e,_⟩:=x;exact Zt e
 | dT kvs=>obtain⟨_,_,_,_,o,_,_,e,_⟩:=x;exact Zt e
 | set S n=>obtain⟨o,_,_,_,e,_⟩:=x;exact Zt e
 | ins C dx fs=>obtain⟨_,_,_,e,_⟩:=x;exact Zt e
 | own y=>obtain⟨_,e⟩:=x;exact Zt e
 | xd fs=>obtain⟨_,⟨_,_,_,e,_⟩,_⟩:=x;exact Zt e
 | rng lo hi=>obtain⟨_,_,_,e⟩:=x;exact Zt e
 | frz ob u=>obtain⟨e,_⟩:=x;exact Zt e
 | tbl ps=>exact Zt (show h.get? a=some _ from x)
 | met f y=>exact Zt (show h.get? a=some _ from x)
 | ext φ=>obtain⟨_,⟨_,e⟩,_⟩:=x;exact Zt e
theorem Paired.mapP{α β:Type}{F G:α->β->Prop}:∀ {l₁:List α} {l₂:List β},Paired F l₁ l₂->(∀ a b,F a b->G a b)->Paired G l₁ l₂
 | _,_,.nil,_=>.nil
 | _,_,.cons r t,f=>.cons (f _ _ r) (Paired.mapP t f)
theorem ObjOk.stay(x:ObjOk P w H h a o)(k:∀ b u,(b=a\/H b=some (.own a))->h.get? b=some u->h'.get? b=some u)
  (ho:∀ b,H b=some (.own a)->H' b=some (.own a)) (ht:∀ b xs,H b=some (.tup xs)->H' b=some (.tup xs)):ObjOk P w H' h' a o:=by
 induction o with
 | lst xs=>obtain⟨z,its,n,r,e⟩:=x;exact⟨z,its,n,r,k _ _ (.inl rfl) e⟩
 | tup xs=>obtain⟨z,its,r,ob,e,c⟩:=x;exact⟨z,its,r,ob,k _ _ (.inl rfl) e,c⟩
 | dK kvs=>obtain⟨z,y,vs,r,ob,es,ep,e,c⟩:=x;exact⟨z,y,vs,r,ob,es,ep,k _ _ (.inl rfl) e,c⟩
 | dT kvs =>
  obtain⟨z,y,xs,r,ob,es,ep,e,c⟩:=x;exact⟨z,y,xs,Paired.mapP r λp q z=>⟨z.1,ht _ _ z.2.1,z.2.2⟩,ob,es,ep,k _ _ (.inl rfl) e,c⟩
 | set S n=>obtain⟨ob,es,ep,t,e,c⟩:=x;exact⟨ob,es,ep,t,k _ _ (.inl rfl) e,c⟩
 | ins C dx fs =>
  obtain⟨d,z,ne,e,mA,⟨od,es,ep,e2,c⟩,r⟩:=x;exact⟨ho _ d,z,ne,k _ _ (.inl rfl) e,mA,⟨od,es,ep,k _ _ (.inr d) e2,c⟩,r⟩
 | own y=>obtain⟨ob,e⟩:=x;exact⟨ob,k _ _ (.inl rfl) e⟩
 | xd fs=>obtain⟨mA,⟨od,es,ep,e,c⟩,r⟩:=x;exact⟨mA,⟨od,es,ep,k _ _ (.inl rfl) e,c⟩,r⟩
 | rng lo hi=>obtain⟨t,u,v,e⟩:=x;exact⟨t,u,v,k _ _ (.inl rfl) e⟩
 | frz ob u ih=>obtain⟨e,q⟩:=x;exact⟨k _ _ (.inl rfl) e,ih q⟩
 | tbl ps =>
  have e:h.get? a=some { cls:=.none,data:=.fields ps }:=x;show h'.get? a=some { cls:=.none,data:=.fields ps };exact k a _ (.inl rfl) e
 | met f y =>
  have e:h.get? a=some (methodObj (.ref f) (.ref y)):=x;show h'.get? a=some (methodObj (.ref f) (.ref y));exact k a _ (.inl rfl) e
 | ext φ=>obtain⟨p,⟨o,e⟩,st⟩:=x;exact⟨st _ _ p λo q=>k _ _ (.inl rfl) q,⟨o,k _ _ (.inl rfl) e⟩,st⟩
theorem HOk.lt(x:HOk P w H h)(e:H a=some o):a<h.objs.size:=(x a o e).lt
theorem HOk.fresh(x:HOk P w H h)(e:h.objs.size<=a):H a=none:=by
 cases q:H a with
 | none=>rfl
 | some u=>exact absurd (ZB (x.lt q) e) (lt_irrefl _)
theorem HOk.kept(x:HOk P w H h)(k:∀ b u,h.get? b=some u->h'.get? b=some u):HOk P w H h':=λa o e =>
 (x a o e).stay (λb u _ q=>k b u q) (λ_ q=>q) λ_ _ q=>q
theorem HOk.laid(x:HOk P w H h)(k:∀ b u,h.get? b=some u->h'.get? b=some u)(hp:h.objs.size<=a)(new:ObjOk P w (upd H a o) h' a o):HOk P w (upd H a o) h':=λb u e=>by
 have hn:=x.fresh hp;by_cases hb:b=a
 ·subst hb;rw[Q0g]at e;cases e;exact new
 ·rw[Q0d hb]at e;exact (x b u e).stay (λc v _ q=>k c v q) (λc q=>by rw[Q0d (Q0k q hn)];exact q) λc xs q=>by rw[Q0d (Q0k q hn)];exact q
end
def Rd(H:Hp)(a:Addr)(u:HO):Prop:=H a=some u\/∃ o,H a=some (.frz o u)
theorem Rd.ok(r:Rd H a u)(x:HOk P w H h):ObjOk P w H h a u:=by
 rcases r with r | ⟨o,r⟩
 ·exact x a u r
 ·obtain⟨_,q⟩:=x a _ r;exact q
def Mut:Option HO->Prop
 | some (.lst _)=>True
 | some (.dK _)=>True
 | some (.dT _)=>True
 | some (.set _ _)=>True
 | some (.ins _ _ _)=>True
 | some (.ext _)=>True
 | _=>False
section
variable{P:Program}{w:World}{H:Hp}{h h':Heap}{x e:Addr}{o':HO}
theorem HOk.write(ok:HOk P w H h)(mu:Mut (H x))(he:e=x\/H e=some (.own x))(k:∀ b u,b≠e->h.get? b=some u->h'.get? b=some u)(heo:∃ u,h'.get? e=some u)
  (new:ObjOk P w (upd H x o') h' x o'):HOk P w (upd H x o') h':=λb u q=>by
 have nown:∀ c y,H c=some (.own y)->c≠x:=λc y r z=>by subst z;rw[r]at mu;exact mu
 have ntup:∀ c xs,H c=some (.tup xs)->c≠x:=λc xs r z=>by subst z;rw[r]at mu;exact mu
 by_cases hb:b=x
 ·subst hb;rw[Q0g]at q;cases q;exact new
 ·rw[Q0d hb]at q;by_cases hbe:b=e
  ·have q':H b=some (.own x):=by
    rcases he with z | z
    ·exact absurd (hbe.trans z) hb
    ·rw[hbe];exact z
   rw[q]at q';cases q';obtain⟨v,hv⟩:=heo;exact⟨v,by rw[hbe];exact hv⟩
  ·refine (ok b u q).stay (λc v hc r=>k c v ?_ r) (λc r=>by rw[Q0d (nown c b r)];exact r) λc xs r=>by rw[Q0d (ntup c xs r)];exact r
   rcases hc with rfl | hc
   ·exact hbe
   ·rintro rfl;rcases he with z | z
    ·exact nown c b hc z
    ·rw[hc]at z;cases z;exact hb rfl
end
structure Un(fs ex:List Addr)(H H':Hp)(h h':Heap):Prop where
 keep:∀ b o,h.get? b=some o->H b=none->b∉fs->b∉ex->h'.get? b=some o
 slot:∀ b o,h.get? b=some o->H b=none->b∈fs->b∉ex->∃ sl,h'.get? b=some { o with slots:=sl }
 free:∀ b o,h.get? b=some o->H b=none->b∉ex->H' b=none
 there:∀ b o,h.get? b=some o->b∉ex->∃ o',h'.get? b=some o'
 tups:∀ b xs,H b=some (.tup xs)->H' b=some (.tup xs)
 frzs:∀ b o u,H b=some (.frz o u)->H' b=some (.frz o u)
 tbls:∀ b ps,H b=some (.tbl ps)->∃ more,H' b=some (.tbl (ps++more))
section
variable{fs fs' ex ex':List Addr}{H H1 H2:Hp}{h h1 h2 h':Heap}{a x e:Addr}{o:HO}
theorem Un.any(u:Un fs ex H H1 h h1)(q:h.get? b=some ob)(n:H b=none)(hx:b∉ex):∃ sl,h1.get? b=some { ob with slots:=sl }:=by
 by_cases hb:b∈fs
 ·exact u.slot b ob q n hb hx
 ·exact⟨ob.slots,u.keep b ob q n hb hx⟩
theorem Un.kept(k:∀ b u,h.get? b=some u->h'.get? b=some u):Un fs ex H H h h' :=
 ⟨λb ob q _ _ _=>k b ob q,λb ob q _ _ _=>⟨ob.slots,k b ob q⟩,λ_ _ _ n _=>n,λb ob q _=>⟨ob,k b ob q⟩,λ_ _ q=>q,λ_ _ _ q=>q,λ_ ps q=>⟨#[],by rw[q];simp⟩⟩
theorem Un.refl:Un fs ex H H h h:=Un.kept λ_ _ q=>q
theorem Un.laid(k:∀ b u,h.get? b=some u->h'.get? b=some u)(hp:h.objs.size<=a)(hn:H a=none):Un fs ex H (upd H a o) h h' where
 keep:=λb u q _ _ _=>k b u q
 slot:=λb u q _ _ _=>⟨u.slots,k b u q⟩
 free:=λb u q n _=>by rw[Q0d (ZO (ZB (Zt q) hp))];exact n
 there:=λb u q _=>⟨u,k b u q⟩
 tups:=λb xs q=>by rw[Q0d (Q0k q hn)];exact q
 frzs:=λb u xs q=>by rw[Q0d (Q0k q hn)];exact q
 tbls:=λb ps q=>⟨#[],by rw[Q0d (Q0k q hn),q];simp⟩
theorem Un.write(mu:Mut (H x))(he:e=x\/H e=some (.own x))(k:∀ b u,b≠e->h.get? b=some u->h'.get? b=some u)(heo:∃ u,h'.get? e=some u):Un fs ex H (upd H x o) h h':=by
 have hx:∀ b,H b=none->b≠x:=λb n z=>by subst z;rw[n]at mu;exact mu
 have hb:∀ b,H b=none->b≠e:=λb n z=>by
  subst z;rcases he with r | r
  ·exact hx b n r
  ·rw[n]at r;cases r
 have hm:∀ b u,H b=some u->¬ Mut (some u)->b≠x:=λb u q nm z=>by subst z;rw[q]at mu;exact nm mu
 refine⟨λb u q n _ _=>k b u (hb b n) q,λb u q n _ _=>⟨u.slots,k b u (hb b n) q⟩,λb u q n _=>by rw[Q0d (hx b n)];exact n,λb u q _=>?_,
  λb xs q=>by rw[Q0d (hm b _ q λz=>z)];exact q,λb u xs q=>by rw[Q0d (hm b _ q λz=>z)];exact q,λb ps q=>⟨#[],by rw[Q0d (hm b _ q λz=>z),q];simp⟩⟩
 by_cases hbe:b=e
 ·subst hbe;exact heo
 ·exact⟨u,k b u hbe q⟩
end
noncomputable def trk(h:Heap)(H:Hp):List Addr:=(List.range h.objs.size).filter λa=>(H a).isSome
noncomputable def hidT(h:Heap)(H:Hp):Heap:=PySem.W.hideAll h (trk h H)
theorem Q6k(h:Heap)(H:Hp):(hidT h H).objs.size=h.objs.size:=PySem.W.hideAll_size _ _
theorem Q8g(e:h.get? b=some o)(n:H b=none):(hidT h H).get? b=some o :=
 PySem.W.hideAll_get _ e λhm=>by
  have q:(H b).isSome=true:=(ZX.mp hm).2;rw[n]at q;simp at q
theorem Qa7(e:(hidT h H).get? b=some o):h.get? b=some o/\H b=none:=by
 have e':h.get? b=some o:=PySem.W.of_hideAll (trk h H) e;refine⟨e',?_⟩;cases q:H b with
 | none=>rfl
 | some x =>
  have hm:b∈trk h H:=ZX.mpr ⟨mem_range.mpr (Zt e'),by simp[q]⟩
  have z:(hidT h H).get? b=none:=PySem.W.hideAll_none (trk h H) hm;rw[z]at e;cases e
noncomputable def allNews(g h:Heap)(L:Addr):List (Addr×Obj):=(List.range h.objs.size).filterMap λa=>if a=L\/(g.get? a).isSome=true then none else (h.get? a).map λo=>(a,o)
noncomputable def rest(g h:Heap)(L d:Addr):List (Addr×Obj):=(allNews g h L).filter λp=>decide (p.1≠d)
structure Mod(K:Frag)(mg:Str->Option Value)(base:Heap):Prop where
 kin:K.In base
 glob:base.Ns mainGlobals mg
 blt:∃ mb,base.Ns builtinsNs mb/\∀ x:Str,x ≠ "__name__" -> mb x=bootBuiltins x
 nolimit:base.NoLimit
structure Cx where
 prog:Program
 w:World
 K:Frag
 mg:Str->Option Value
 base:Heap
 A:Around
 N:List Str
 s₀:Shared
 H₀:Hp
 env:Env
 outer:List Env
 stack:List Env
 ex:List Addr
 fn:Str->Bool
 calm:Bool
 pn:List (Addr×Obj)
 xe:Value->Shared->Prop
noncomputable def frs(l:List Env):List Addr:=l.filterMap (·.frame)
noncomputable abbrev Cx.fs(X:Cx):List Addr:=frs X.outer
def Vis(sc:Scope)(x:Str):Prop:=sc.names.lookup x=some .local\/sc.names.lookup x=some .cell\/sc.names.lookup x=some .free
def Loc(sc:Scope)(x:Str):Prop:=sc.names.lookup x=some .local\/sc.names.lookup x=some .cell
def Look(env:Env)(h:Heap)(m:Str->Option Value)(x:Str)(u:Value):Prop :=
 (env.kindOf x=some .local/\m x=some u)\/((env.kindOf x=some .cell\/env.kindOf x=some .free)/\∃ c,env.cells.lookup x=some c/\h.IsCell c (some u))
structure Cx.Ok(X:Cx):Prop where
 mod:Mod X.K X.mg X.base
 kind:X.env.scope.kind=.function
 glob:X.env.globals=mainGlobals
 blt:X.env.builtins=builtinsNs
 above:X.s₀.heap.objs.size<=X.env.locals
 inj:∀ x y c,X.env.cells.lookup x=some c->X.env.cells.lookup y=some c->x=y
 has:∀ x,(X.env.kindOf x=some .cell\/X.env.kindOf x=some .free)->∃ c,X.env.cells.lookup x=some c
 cab:∀ x c,X.fn x=true->X.env.cells.lookup x=some c->X.s₀.heap.objs.size<=c
 hd:X.calm=true->X.A.handled=none
 frames:X.A.frames=some X.stack
 stk:X.stack=X.outer\/(X.stack=X.env::X.outer/\X.env.frame=some X.env.locals)
 exf:∀ b∈X.ex,b≠X.env.locals/\∀ x c,X.env.cells.lookup x=some c->c≠b
 bs:∀ b o,X.base.get? b=some o->X.s₀.heap.get? b=some o/\X.H₀ b=none
 bsz:X.base.objs.size<=X.s₀.heap.objs.size
 noex:∀ b o,X.base.get? b=some o->b∉X.ex
 exfs:∀ b∈X.ex,b∉X.fs
 funs:X.s₀.heap.FunFrames X.base X.outer
 frf:∀ b∈X.fs,X.H₀ b=none
structure Inv(X:Cx)(pins:List (Addr×Obj))(σ:List (Option V))(H:Hp)(s:Shared):Prop where
 ok:X.Ok
 os:s.os=X.s₀.os
 bare:AllBare s.gens
 base:Un X.fs X.ex X.H₀ H X.s₀.heap s.heap
 loc:∃ m,s.heap.Ns X.env.locals m/\∀ (i:Nat) (x:Str) (v:V),X.N[i]? = some x->σ[i]? = some (some v)->Vis X.env.scope x->∃ u,RelV v u/\Look X.env s.heap m x u
 cell:∀ x c,X.env.cells.lookup x=some c->∃ v,s.heap.IsCell c v
 free:H X.env.locals=none
 freeC:∀ x c,X.env.cells.lookup x=some c->H c=none
 pin:∀ p∈X.pn++pins,s.heap.get? p.1=some p.2/\H p.1=none/\p.1≠X.env.locals/\p.1∉X.fs/\∀ v,p.2.data≠.cell v
 hok:HOk X.prog X.w H s.heap
 len:σ.length=X.N.length
section
variable{X:Cx}{pins:List (Addr×Obj)}{σ:List (Option V)}{H H':Hp}{s:Shared}{h':Heap}
theorem Cx.Ok.nofr(ok:X.Ok)(e:X.base.get? b=some o):b∉X.fs:=λhb=>by
 have:=(ok.funs.mem hb).1;rw[e]at this;cases this
theorem Inv.bs(I:Inv X pins σ H s):∀ b o,X.base.get? b=some o->s.heap.get? b=some o/\H b=none:=λb o e =>
 ⟨I.base.keep b o (I.ok.bs b o e).1 (I.ok.bs b o e).2 (I.ok.nofr e) (I.ok.noex b o e),I.base.free b o (I.ok.bs b o e).1 (I.ok.bs b o e).2 (I.ok.noex b o e)⟩
theorem Inv.bk(I:Inv X pins σ H s):∀ b o,X.base.get? b=some o->s.heap.get? b=some o:=λb o e=>(I.bs b o e).1
theorem Inv.mod(I:Inv X pins σ H s):Mod X.K X.mg X.base:=I.ok.mod
theorem Inv.kIn(I:Inv X pins σ H s):X.K.In s.heap:=I.ok.mod.kin.keeps I.bk
theorem Inv.lt(I:Inv X pins σ H s):X.env.locals<s.heap.objs.size:=let ⟨_,hn,_⟩:=I.loc;hn.lt
theorem Inv.sz(I:Inv X pins σ H s):X.s₀.heap.objs.size<=s.heap.objs.size:=Zr I.ok.above (le_of_lt I.lt)
theorem Inv.nofs(I:Inv X pins σ H s)(h:s.heap.objs.size<=a):a∉X.fs:=λhb=>by
 obtain⟨_,o,ho,_⟩:=I.ok.funs.mem hb;exact absurd (ZB (Zt ho) (Zr I.sz h)) (lt_irrefl _)
theorem Inv.cne(I:Inv X pins σ H s):∀ x c,X.env.cells.lookup x=some c->c≠X.env.locals:=λx c e z=>by
 obtain⟨v,o,ho,hd⟩:=I.cell x c e;obtain⟨m,⟨o',es,ep,ho',hd',_⟩,_⟩:=I.loc;rw[z,ho']at ho;cases ho;rw[hd']at hd;cases hd
theorem Inv.funs(I:Inv X pins σ H s):s.heap.FunFrames X.base X.outer:=by
 have all:∀ (l:List Env),(∀ b∈frs l,b∈X.fs)->X.s₀.heap.FunFrames X.base l->s.heap.FunFrames X.base l:=by
  intro l
  induction l with
  | nil=>intro _ _;trivial
  | cons env r ih =>
   intro hs hl;obtain⟨hk,⟨L,o,hf,hn,ho,hd⟩,hr⟩:=hl;have hL:L∈X.fs:=hs L (by unfold frs;rw[filterMap_cons,hf];exact Zp)
   obtain⟨sl,e⟩:=I.base.slot L o ho (I.ok.frf L hL) hL λz=>I.ok.exfs L z hL;exact⟨hk,⟨L,_,hf,hn,e,hd⟩,ih (λb hb=>hs b (by unfold frs;rw[filterMap_cons,hf];exact Zo _ hb)) hr⟩
 exact all X.outer (λ_ hb=>hb) I.ok.funs
theorem Inv.stack(I:Inv X pins σ H s):s.heap.FunFrames X.base X.stack:=by
 rcases I.ok.stk with e | ⟨e,hf⟩
 ·rw[e];exact I.funs
 ·rw[e];obtain⟨m,hn,_⟩:=I.loc;refine .cons (by rw[I.ok.kind];decide) hf hn ?_ I.funs
  exact Heap.get?_none_of_le (Zr I.ok.bsz I.ok.above)
theorem Inv.stkSub(I:Inv X pins σ H s):∀ b∈frs X.stack,b∈X.env.locals::X.fs:=λb hb=>by
 rcases I.ok.stk with e | ⟨e,hf⟩
 ·rw[e]at hb;exact Zo _ hb
 ·rw[e]at hb;unfold frs at hb;rw[filterMap_cons,hf]at hb;exact hb
theorem Inv.stkFree(I:Inv X pins σ H s):∀ b∈frs X.stack,H b=none:=λb hb=>by
 rcases Z1.mp (I.stkSub b hb) with e | hb
 ·rw[e];exact I.free
 ·obtain⟨_,o,ho,_⟩:=I.ok.funs.mem hb;exact I.base.free b o ho (I.ok.frf b hb) λz=>I.ok.exfs b z hb
theorem Inv.step{g':Array GenState}{t':Nat}{d':Drawn}{ch:List Addr}(I:Inv X pins σ H s)
  (hch:∀ b∈ch,(b∈X.ex\/X.s₀.heap.objs.size<=b)/\b≠X.env.locals/\(∀ x c,X.env.cells.lookup x=some c->c≠b)/\∀ p∈X.pn++pins,p.1≠b)
  (keep:∀ b o,b≠X.env.locals->b∉X.fs->b∉ch->s.heap.get? b=some o->H b=none->h'.get? b=some o)
  (slot:∀ b o,b≠X.env.locals->b∈X.fs->b∉ch->s.heap.get? b=some o->H b=none->∃ sl,h'.get? b=some { o with slots:=sl }) (free:∀ b o,b∉ch->s.heap.get? b=some o->H b=none->H' b=none)
  (there:∀ b o,b∉ch->s.heap.get? b=some o->∃ o',h'.get? b=some o')
  (tups:∀ b xs,H b=some (.tup xs)->H' b=some (.tup xs)) (frzs:∀ b o u,H b=some (.frz o u)->H' b=some (.frz o u)) (tbls:∀ b ps,H b=some (.tbl ps)->∃ more,H' b=some (.tbl (ps++more)))
  (ns:∀ m,s.heap.Ns X.env.locals m->h'.Ns X.env.locals m) (hok:HOk X.prog X.w H' h') (hg:AllBare g') :
  Inv X pins σ H' { s with heap:=h',gens:=g',drawn:=d',toks:=t' }:=by
 have neL:∀ b o,X.s₀.heap.get? b=some o->b≠X.env.locals:=λb o e=>ZO (ZB (Zt e) I.ok.above);have neC:∀ b o,X.s₀.heap.get? b=some o->b∉X.ex->b∉ch:=λb o e hx hb=>by
  rcases (hch b hb).1 with z | z
  ·exact hx z
  ·exact absurd (ZB (Zt e) z) (lt_irrefl _)
 have cellK:∀ x c,X.env.cells.lookup x=some c->∀ v,s.heap.IsCell c v->h'.IsCell c v:=λx c e v ⟨o,ho,hd⟩=>by
  have nch:c∉ch:=λz=>(hch c z).2.2.1 x c e rfl;by_cases hc:c∈X.fs
  ·obtain⟨sl,q⟩:=slot c o (I.cne x c e) hc nch ho (I.freeC x c e);exact⟨_,q,hd⟩
  ·exact⟨o,keep c o (I.cne x c e) hc nch ho (I.freeC x c e),hd⟩
 refine⟨I.ok,I.os,hg,⟨λb o e n hb hx=>?_,λb o e n hb hx=>?_,λb o e n hx=>?_,λb o e hx=>?_,λb xs e=>tups b xs (I.base.tups b xs e),λb o xs e=>frzs b o xs (I.base.frzs b o xs e),λb ps e=>?_⟩,?_,λx c e=>?_,?_,λx c e=>?_,λp hp=>?_,hok,I.len⟩
 ·exact keep b o (neL b o e) hb (neC b o e hx) (I.base.keep b o e n hb hx) (I.base.free b o e n hx)
 ·obtain⟨sl,e1⟩:=I.base.slot b o e n hb hx;obtain⟨sl',e2⟩:=slot b _ (neL b o e) hb (neC b o e hx) e1 (I.base.free b o e n hx);exact⟨sl',e2⟩
 ·obtain⟨o',e1⟩:=I.base.there b o e hx;exact free b o' (neC b o e hx) e1 (I.base.free b o e n hx)
 ·obtain⟨o',e1⟩:=I.base.there b o e hx;exact there b o' (neC b o e hx) e1
 ·obtain⟨m1,e1⟩:=I.base.tbls b ps e;obtain⟨m2,e2⟩:=tbls b _ e1;exact⟨m1++m2,by rw[e2,Array.append_assoc]⟩
 ·obtain⟨m,hn,hl⟩:=I.loc;refine⟨m,ns m hn,λi x v e1 e2 e3=>?_⟩;obtain⟨u,r,l⟩:=hl i x v e1 e2 e3;refine⟨u,r,?_⟩;rcases l with l | ⟨k,c,e,z⟩
  ·exact .inl l
  ·exact .inr ⟨k,c,e,cellK x c e _ z⟩
 ·obtain⟨v,z⟩:=I.cell x c e;exact⟨v,cellK x c e v z⟩
 ·obtain⟨m,⟨o,_,_,ho,_⟩,_⟩:=I.loc;exact free _ o (λz=>(hch _ z).2.1 rfl) ho I.free
 ·obtain⟨v,o,ho,hd⟩:=I.cell x c e;exact free c o (λz=>(hch c z).2.2.1 x c e rfl) ho (I.freeC x c e)
 ·obtain⟨e,n,ne,nf,d⟩:=I.pin p hp;have nch:p.1∉ch:=λz=>(hch p.1 z).2.2.2 p hp rfl;exact⟨keep p.1 p.2 ne nf nch e n,free p.1 p.2 nch e n,ne,nf,d⟩
theorem Inv.un{t':Nat}(I:Inv X pins σ H s)(u:Un X.fs [] H H' s.heap h')(hok:HOk X.prog X.w H' h'):Inv X pins σ H' { s with heap:=h',toks:=t' }:=by
 obtain⟨m,⟨o,es,ep,ho,r⟩,_⟩:=id I.loc;obtain⟨sl,hL⟩:=u.any ho I.free (by simp)
 exact I.step (g':=s.gens) (d':=s.drawn) (ch:=[]) (λ_ z=>nomatch z) (λb o _ hb _ e n=>u.keep b o e n hb (by simp)) (λb o _ hb _ e n=>u.slot b o e n hb (by simp)) (λb o _ e n=>u.free b o e n (by simp)) (λb o _ e=>u.there b o e (by simp)) u.tups u.frzs u.tbls (λm' hm=>by
  obtain⟨o',es',ep',ho',r'⟩:=hm;rw[ho]at ho';cases ho';exact⟨_,es',ep',hL,r'⟩) hok I.bare
theorem Inv.call{g':Array GenState}{t':Nat}{d':Drawn}{ch:List Addr}(I:Inv X pins σ H s)(u:Un (frs X.stack) ch H H' s.heap h')(hok:HOk X.prog X.w H' h')(hg:AllBare g')
  (hch:∀ b∈ch,(b∈X.ex\/X.s₀.heap.objs.size<=b)/\b≠X.env.locals/\(∀ x c,X.env.cells.lookup x=some c->c≠b)/\∀ p∈X.pn++pins,p.1≠b) :
  Inv X pins σ H' { s with heap:=h',gens:=g',drawn:=d',toks:=t' }:=by
 obtain⟨m,⟨o,es,ep,ho,r⟩,_⟩:=id I.loc;obtain⟨sl,hL⟩:=u.any ho I.free λz=>(hch _ z).2.1 rfl;exact I.step (ch:=ch) hch (λb o hL hb hc e n=>u.keep b o e n (λz=>(Z1.mp (I.stkSub b z)).elim hL hb) hc) (λb o _ _ hc e n=>u.any e n hc) (λb o hc e n=>u.free b o e n hc) (λb o hc e=>u.there b o e hc) u.tups u.frzs u.tbls (λm' hm=>by
  obtain⟨o',es',ep',ho',r'⟩:=hm;rw[ho]at ho';cases ho';exact⟨_,es',ep',hL,r'⟩) hok hg
theorem Inv.turned{t':Nat}{it:Addr}(I:Inv X pins σ H s)(k:∀ b o,b≠it->s.heap.get? b=some o->h'.get? b=some o)(hn:H it=none)(hL:it≠X.env.locals)
  (h1:it∈X.ex\/X.s₀.heap.objs.size<=it) (h2:∀ x c,X.env.cells.lookup x=some c->c≠it) (h3:∀ p∈X.pn++pins,p.1≠it):Inv X pins σ H { s with heap:=h',toks:=t' }:=by
 have nit:∀ b u,H b=some u->b≠it:=λb u e z=>by rw[z,hn]at e;cases e
 refine I.step (g':=s.gens) (d':=s.drawn) (ch:=[it]) (λb hb=>?_) (λb o _ _ hc e _=>k b o (λz=>hc (by simp[z])) e) (λb o _ _ hc e _=>⟨o.slots,k b o (λz=>hc (by simp[z])) e⟩) (λ_ _ _ _ n=>n)
  (λb o hc e=>⟨o,k b o (λz=>hc (by simp[z])) e⟩) (λ_ _ e=>e) (λ_ _ _ e=>e) (λb ps e=>⟨#[],by rw[e];simp⟩) (λm hm=>?_) (λb u e=>?_) I.bare
 ·have e:b=it:=by simpa using hb
  subst e;exact⟨h1,hL,h2,h3⟩
 ·obtain⟨o,es,ep,ho,r⟩:=hm;exact⟨o,es,ep,k _ o (Ne.symm hL) ho,r⟩
 ·refine (I.hok b u e).stay (λc v hc q=>k c v ?_ q) (λ_ q=>q) λ_ _ q=>q;rcases hc with z | z
  ·rw[z];exact nit b u e
  ·exact nit c _ z
theorem Inv.tok(I:Inv X pins σ H s)(t:Nat):Inv X pins σ H { s with toks:=t }:=I.un (h':=s.heap) (t':=t) Un.refl I.hok
theorem Inv.kept(I:Inv X pins σ H s)(k:∀ b u,s.heap.get? b=some u->h'.get? b=some u):Inv X pins σ H { s with heap:=h',toks:=t' }:=I.un (Un.kept k) (I.hok.kept k)
theorem Inv.laid(I:Inv X pins σ H s)(k:∀ b u,s.heap.get? b=some u->h'.get? b=some u)(hp:s.heap.objs.size<=a)(new:ObjOk X.prog X.w (upd H a o) h' a o) :
  Inv X pins σ (upd H a o) { s with heap:=h',toks:=t' }:=I.un (Un.laid k hp (I.hok.fresh hp)) (I.hok.laid k hp new)
theorem Inv.write(I:Inv X pins σ H s)(mu:Mut (H x))(he:e=x\/H e=some (.own x))(k:∀ b u,b≠e->s.heap.get? b=some u->h'.get? b=some u)(heo:∃ u,h'.get? e=some u)
  (new:ObjOk X.prog X.w (upd H x o) h' x o):Inv X pins σ (upd H x o) { s with heap:=h',toks:=t' }:=I.un (Un.write mu he k heo) (I.hok.write mu he k heo new)
theorem Inv.weak(I:Inv X pins σ H s)(hl:σ'.length=σ.length)(w:∀ (i:Nat) v,σ'[i]? = some (some v)->σ[i]? = some (some v)):Inv X pins σ' H s :=
 ⟨I.ok,I.os,I.bare,I.base,let ⟨m,hn,hl'⟩:=I.loc;⟨m,hn,λi x v e1 e2 e3=>hl' i x v e1 (w i v e2) e3⟩,I.cell,I.free,I.freeC,I.pin,I.hok,hl.trans I.len⟩
theorem Inv.pins_of(I:Inv X pins σ H s)(h:∀ p∈pins',s.heap.get? p.1=some p.2/\H p.1=none/\p.1≠X.env.locals/\p.1∉X.fs/\∀ v,p.2.data≠.cell v):Inv X pins' σ H s :=
 ⟨I.ok,I.os,I.bare,I.base,I.loc,I.cell,I.free,I.freeC,λp hp=>(Z4.mp hp).elim (λz=>I.pin p (ZV _ z)) (h p),I.hok,I.len⟩
theorem Q4Y{N:List Str}(hN:N.Nodup){i j:Nat}{x:Str}(a:N[i]? = some x)(b:N[j]? = some x):i=j:=by
 obtain⟨h1,e1⟩:=Zf.mp a;obtain⟨h2,e2⟩:=Zf.mp b;exact (List.getElem_inj hN).mp (e1.trans e2.symm)
theorem Q3G{M:Model}{A:Around}{E:Value->Shared->Prop}{i:Nat}{x:Str}{v:V}{u:Value}{Q:Unit->Shared->Prop}(I:Inv X pins σ H s)(hN:X.N.Nodup)(hi:X.N[i]? = some x)(hx:Loc X.env.scope x)(r:RelV v u)
  (h:∀ s',Inv X pins (σ.set i (some v)) H s'->(∃ a,Heap.SameBut a s.heap s'.heap/\(a=X.env.locals\/X.env.cells.lookup x=some a))->Q () s') (hf:X.fn x=true\/X.env.scope.names.lookup x=some .local:=by first | exact .inl rfl | exact .inr rfl | assumption):wpAny M A (storeName X.env x u) Q E s:=by
 obtain⟨m,hn,hl⟩:=id I.loc;have hcls:(X.env.scope.kind==.class||(X.env.scope.kind==.module&&X.env.locals != X.env.globals))=false:=by rw[I.ok.kind];rfl
 have hiσ:i<σ.length:=by rw[I.len];exact (Zf.mp hi).1
 have cne:=I.cne;have tracked:∀ {a:Addr} {h':Heap},(∃ o,s.heap.get? a=some o/\H a=none)->Heap.SameBut a s.heap h'->HOk X.prog X.w H h':=fun{a h'} ha hs b ob e=>by
  obtain⟨_,_,hfree⟩:=ha;refine (I.hok b ob e).stay (λc w' hc q=>(hs.2 c ?_).trans q) (λ_ q=>q) λ_ _ q=>q;rintro rfl;rcases hc with rfl | hc
  ·rw[hfree]at e;cases e
  ·rw[hfree]at hc;cases hc
 rcases hx with hk | hk
 ·refine wpAny_storeName_local hk hn (λh' hn' hs=>?_) hcls;obtain⟨oL,_,_,hoL,_⟩:=id hn;refine h _ ⟨I.ok,I.os,I.bare,⟨λb o e n hb hx=>?_,λb o e n hb hx=>?_,I.base.free,λb o e hx=>?_,I.base.tups,I.base.frzs,I.base.tbls⟩,⟨_,hn',λj y v' e1 e2 e3=>?_⟩,λy c e=>?_,I.free,I.freeC,λp hp=>?_,tracked ⟨oL,hoL,I.free⟩ hs,by simpa using I.len⟩ ⟨_,hs,.inl rfl⟩
  ·exact (hs.2 b (ZO (ZB (Zt e) I.ok.above))).trans (I.base.keep b o e n hb hx)
  ·obtain⟨sl,e1⟩:=I.base.slot b o e n hb hx;exact⟨sl,(hs.2 b (ZO (ZB (Zt e) I.ok.above))).trans e1⟩
  ·obtain⟨o',e1⟩:=I.base.there b o e hx;exact⟨o',(hs.2 b (ZO (ZB (Zt e) I.ok.above))).trans e1⟩
  ·by_cases hj:j=i
   ·subst hj;rw[hi]at e1;cases e1;rw[List.getElem?_set_self hiσ]at e2;cases e2;exact⟨u,r,.inl ⟨hk,by simp⟩⟩
   ·rw[List.getElem?_set_ne (Ne.symm hj)]at e2;obtain⟨u',r',q⟩:=hl j y v' e1 e2 e3;refine⟨u',r',?_⟩;rcases q with ⟨k,e⟩ | ⟨k,c,e,z⟩
    ·refine .inl ⟨k,?_⟩;have:y≠x:=λe=>hj (Q4Y hN e1 (e ▸ hi));simp[this,e]
    ·exact .inr ⟨k,c,e,z.sameBut hs (cne y c e)⟩
  ·obtain⟨w',z⟩:=I.cell y c e;exact⟨w',z.sameBut hs (cne y c e)⟩
  ·obtain⟨e,n,ne,nf,d⟩:=I.pin p hp;exact⟨(hs.2 p.1 ne).trans e,n,ne,nf,d⟩
 ·have hfn:X.fn x=true:=by
   rcases hf with z | z
   ·exact z
   ·rw[z]at hk;cases hk
  obtain⟨c,hc⟩:=I.ok.has x (.inl hk);obtain⟨w',z⟩:=I.cell x c hc;refine wpAny_storeName_cell I.ok.kind hk hc z (λh' hc' hs=>?_);obtain⟨oc,hoc,hocd⟩:=id z;refine h { s with heap:=h' } ⟨I.ok,I.os,I.bare,⟨λb o e n hb hx=>?_,λb o e n hb hx=>?_,I.base.free,λb o e hx=>?_,I.base.tups,I.base.frzs,I.base.tbls⟩,⟨m,hn.sameBut hs (Ne.symm (cne x c hc)),λj y v' e1 e2 e3=>?_⟩,λy c' e=>?_,I.free,I.freeC,λp hp=>?_,tracked ⟨oc,hoc,I.freeC x c hc⟩ hs,by simpa using I.len⟩ ⟨c,hs,.inr hc⟩
  ·exact (hs.2 b (ZO (ZB (Zt e) (I.ok.cab x c hfn hc)))).trans (I.base.keep b o e n hb hx)
  ·obtain⟨sl,e1⟩:=I.base.slot b o e n hb hx;exact⟨sl,(hs.2 b (ZO (ZB (Zt e) (I.ok.cab x c hfn hc)))).trans e1⟩
  ·obtain⟨o',e1⟩:=I.base.there b o e hx;exact⟨o',(hs.2 b (ZO (ZB (Zt e) (I.ok.cab x c hfn hc)))).trans e1⟩
  ·by_cases hj:j=i
   ·subst hj;rw[hi]at e1;cases e1;rw[List.getElem?_set_self hiσ]at e2;cases e2;exact⟨u,r,.inr ⟨.inl hk,c,hc,hc'⟩⟩
   ·rw[List.getElem?_set_ne (Ne.symm hj)]at e2;obtain⟨u',r',q⟩:=hl j y v' e1 e2 e3;refine⟨u',r',?_⟩;rcases q with q | ⟨k,c',e,z'⟩
    ·exact .inl q
    ·refine .inr ⟨k,c',e,z'.sameBut hs ?_⟩;rintro rfl;exact hj (Q4Y hN e1 (I.ok.inj _ _ _ e hc ▸ hi))
  ·by_cases hcc:c'=c
   ·subst hcc;exact⟨_,hc'⟩
   ·obtain⟨w2,z2⟩:=I.cell y c' e;exact⟨w2,z2.sameBut hs hcc⟩
  ·obtain⟨e,n,ne,nf,d⟩:=I.pin p hp;refine⟨(hs.2 p.1 ?_).trans e,n,ne,nf,d⟩;intro q;rw[q,hoc]at e;have q':oc=p.2:=ZE e;exact d w' (by rw[<- q'];exact hocd)
theorem Q4Z{E:Value->Shared->Prop}{Q:Unit->Shared->Prop}(I:Inv X pins σ H s)(hN:X.N.Nodup)(hi:X.N[i]? = some x)(hx:Loc X.env.scope x)(r:RelV v u)
  (h:∀ s',Inv X pins (σ.set i (some v)) H s'->Q () s') (hf:X.fn x=true\/X.env.scope.names.lookup x=some .local:=by first | exact .inl rfl | exact .inr rfl | assumption):wpAny M A (storeName X.env x u) Q E s :=
 Q3G I hN hi hx r (λs' I' _=>h s' I') hf
theorem Inv.call'(I:Inv X pins σ H s)(ho:s'.os=s.os)(u:Un (frs X.stack) ch H H' s.heap s'.heap)(hok:HOk X.prog X.w H' s'.heap)(hg:AllBare s'.gens)
  (hch:∀ b∈ch,(b∈X.ex\/X.s₀.heap.objs.size<=b)/\b≠X.env.locals/\(∀ x c,X.env.cells.lookup x=some c->c≠b)/\∀ p∈X.pn++pins,p.1≠b):Inv X pins σ H' s':=by
 obtain⟨h',g',d',t',o'⟩:=s';have e:o'=s.os:=ho;subst e;exact I.call (g':=g') (t':=t') (d':=d') u hok hg hch
end
noncomputable abbrev XK:=Value->Option (Int×Addr)->Hp->Prop
noncomputable abbrev St:=List (Option V)
noncomputable abbrev VK:=V->Hp->Prop
noncomputable abbrev TE:=St->Hp->VK->Prop
noncomputable abbrev TT:=St->Hp->(Bool->Hp->Prop)->Prop
noncomputable abbrev TA:=St->Hp->(List V->Hp->Prop)->Prop
structure Ends where
 nx:St->Hp->Prop
 rt:VK
 bk:St->Hp->Prop:=λ_ _=>False
 ct:St->Hp->Prop:=λ_ _=>False
noncomputable abbrev TS:=Ends->St->Hp->Prop
inductive EP(X:Cx)(pins:List (Addr×Obj))(σ:St)(Q:VK)(u:Value)(s':Shared):Prop
 | mk (v:V) (H':Hp) (I:Inv X pins σ H' s') (r:RelV v u) (q:Q v H')
def TP(X:Cx)(pins:List (Addr×Obj))(σ:St)(Q:Bool->Hp->Prop)(b:Bool)(s':Shared):Prop:=∃ H',Inv X pins σ H' s'/\Q b H'
inductive AP(X:Cx)(pins:List (Addr×Obj))(σ:St)(Q:List V->Hp->Prop)(us:List Value)(s':Shared):Prop
 | mk (vs:List V) (H':Hp) (I:Inv X pins σ H' s') (r:Vals vs us) (q:Q vs H')
def SP(X:Cx)(pins:List (Addr×Obj))(D:Ends)(f:Flow)(s':Shared):Prop :=
 match f with
 | .next=>∃ σ' H',Inv X pins σ' H' s'/\D.nx σ' H'
 | .brk=>∃ σ' H',Inv X pins σ' H' s'/\D.bk σ' H'
 | .cont=>∃ σ' H',Inv X pins σ' H' s'/\D.ct σ' H'
 | .ret u=>∃ v σ' H',Inv X pins σ' H' s'/\RelV v u/\D.rt v H'
def PE(X:Cx)(e:Expr)(t:TE):Prop :=
 ∀ (pins:List (Addr×Obj)) (s:Shared) (σ:St) (H:Hp) (Q:VK),Inv X pins σ H s->t σ H Q->wpAny (model X.prog X.w) X.A (eval e X.env) (EP X pins σ Q) X.xe s
def PT(X:Cx)(e:Expr)(t:TT):Prop :=
 ∀ (pins:List (Addr×Obj)) (s:Shared) (σ:St) (H:Hp) (Q:Bool->Hp->Prop),Inv X pins σ H s->t σ H Q->wpAny (model X.prog X.w) X.A (isTrue e X.env (eval e X.env)) (TP X pins σ Q) X.xe s
def PW(X:Cx)(e:Expr)(t:TT):Prop :=
 ∀ (whole:Sem Value) (pins:List (Addr×Obj)) (s:Shared) (σ:St) (H:Hp) (Q:Bool->Hp->Prop),Inv X pins σ H s->t σ H Q->wpAny (model X.prog X.w) X.A (isTrue e X.env whole) (TP X pins σ Q) X.xe s
theorem PW.pt(h:PW X e t):PT X e t:=h _
def PA(X:Cx)(es:List Expr)(t:TA):Prop :=
 ∀ (pos:Pos) (pins:List (Addr×Obj)) (s:Shared) (σ:St) (H:Hp) (Q:List V->Hp->Prop),Inv X pins σ H s->t σ H Q->wpAny (model X.prog X.w) X.A (spliced (backTo pos (starEach es X.env))) (AP X pins σ Q) X.xe s
def PS(X:Cx)(st:Stmt)(t:TS):Prop :=
 ∀ (pins:List (Addr×Obj)) (s:Shared) (σ:St) (H:Hp) (D:Ends),Inv X pins σ H s->t D σ H->wpAny (model X.prog X.w) X.A (exec st X.env) (SP X pins D) X.xe s
def PSs(X:Cx)(st:List Stmt)(t:TS):Prop :=
 ∀ (pins:List (Addr×Obj)) (s:Shared) (σ:St) (H:Hp) (D:Ends),Inv X pins σ H s->t D σ H->wpAny (model X.prog X.w) X.A (execs st X.env) (SP X pins D) X.xe s
theorem thn{α:Type}{t:Sem α}{Q Q':α->Shared->Prop}{M:Model}{A:Around}{E:Value->Shared->Prop}{s:Shared}(h:wpAny M A t Q E s)(hQ:∀ a s,Q a s->Q' a s):wpAny M A t Q' E s:=Yv h hQ λ_ _ x=>x
section
variable{X:Cx}
theorem bin{a b:Expr}{ta tb:TE}(ha:PE X a ta)(hb:PE X b tb){pins:List (Addr×Obj)}{s:Shared}{σ:St}{H:Hp}{R:V->V->Hp->Prop}(I:Inv X pins σ H s)(h:ta σ H λx H1=>tb σ H1 λy H2=>R x y H2)
  {α:Type} {Q:α->Shared->Prop} {f:Value->Value->Sem α}
  (hf:∀ v u s2 x y H2,Inv X pins σ H2 s2->RelV x v->RelV y u->R x y H2->wpAny (model X.prog X.w) X.A (f v u) Q X.xe s2) :
  wpAny (model X.prog X.w) X.A (eval a X.env) (λv s₁=>wpAny (model X.prog X.w) X.A (eval b X.env) (λu s₂=>wpAny (model X.prog X.w) X.A (f v u) Q X.xe s₂) X.xe s₁) X.xe s:=by
 refine thn (ha pins s σ H _ I h) λv s1 ⟨x,H1,I1,r1,q1⟩=>?_;refine thn (hb pins s1 σ H1 _ I1 q1) λu s2 ⟨y,H2,I2,r2,q2⟩=>?_;exact hf v u s2 x y H2 I2 r1 r2 q2
def tVar(i:Nat):TE:=λσ H Q=>∃ v,σ[i]? = some (some v)/\Q v H
def tC(v:V):TE:=λ_ H Q=>Q v H
theorem Q9H(hN:X.N[i]? = some x)(hv:Vis X.env.scope x)(hd:(x==("__debug__" : Str))=false:=by decide)(hcd:(x==("__classdict__" : Str))=false:=by decide):PE X (.Name x pos) (tVar i):=by
 intro pins s σ H Q I h;obtain⟨v,e,h⟩:=h;obtain⟨m,hn,hl⟩:=I.loc;obtain⟨u,r,l⟩:=hl i x v hN e hv;have fin:EP X pins σ Q u s:=⟨v,H,I,r,h⟩;rcases l with ⟨hk,hm⟩ | ⟨hk,c,hc,hcell⟩
 ·exact wpAny_Name (wpAny_loadName_local I.ok.kind hk hn hm fin) hd
 ·rcases hk with hk | hk
  ·exact wpAny_Name (wpAny_loadName_cell I.ok.kind hk hc hcell fin) hd
  ·exact wpAny_Name (wpAny_loadName_free I.ok.kind hk hc hcell fin hcd) hd
theorem QbB{i j pos}:PE X (.Constant (.int i) j pos) (tC (.int i)):=λ_ _ _ H _ I h=>wpAny_Constant_int ⟨.int i,H,I.tok _,⟨_,rfl⟩,h⟩
theorem pe_bl{b j pos}:PE X (.Constant (.bool b) j pos) (tC (.bl b)):=λ_ _ _ H _ I h=>Constant_bool ⟨.bl b,H,I,rfl,h⟩
theorem QbC{j pos}:PE X (.Constant .none j pos) (tC .non):=λ_ _ _ H _ I h=>Constant_none ⟨.non,H,I,rfl,h⟩
theorem QbD{x j pos}:PE X (.Constant (.str x) j pos) (tC (.str x)):=λ_ _ _ H _ I h=>Calls.Constant_str ⟨.str x,H,I.tok _,⟨_,rfl⟩,h⟩
def Gl(X:Cx)(x:Str):Prop:=X.env.kindOf x=some .globalImplicit
theorem Q4B{E:Value->Shared->Prop}{Q:Value->Shared->Prop}(I:Inv X pins σ H s)(hg:Gl X x)(hm:X.mg x=some u)(h:Q u s)
  (hd:(x==("__debug__" : Str))=false:=by decide):wpAny (model X.prog X.w) X.A (eval (.Name x pos) X.env) Q E s :=
 Calls.Name_function_global I.ok.kind hg (Calls.loadGlobal_global (by rw[I.ok.glob];exact I.mod.glob.keeps I.bk) hm h) hd
theorem Q3a{E:Value->Shared->Prop}{Q:Value->Shared->Prop}(I:Inv X pins σ H s)(hg:Gl X x)(hm:X.mg x=none)(hv:bootBuiltins x=some u)(h:Q u s)
  (hn:x ≠ "__name__":=by decide) (hd:(x==("__debug__" : Str))=false:=by decide):wpAny (model X.prog X.w) X.A (eval (.Name x pos) X.env) Q E s:=by
 obtain⟨mb,h1,h2⟩:=I.mod.blt;exact Calls.Name_function_global I.ok.kind hg (Calls.loadGlobal_builtin (by rw[I.ok.glob];exact I.mod.glob.keeps I.bk) hm (by rw[I.ok.blt];exact h1.keeps I.bk) ((h2 x hn).trans hv) h) hd
theorem Qa8(hg:Gl X x)(hm:X.mg x=some u)(r:RelV v u)(hd:(x==("__debug__" : Str))=false:=by decide):PE X (.Name x pos) (tC v) :=
 λ_ _ _ H _ I h=>Q4B I hg hm ⟨v,H,I,r,h⟩ hd
theorem Qa9(hg:Gl X x)(hm:X.mg x=none)(hv:bootBuiltins x=some u)(r:RelV v u)(hn:x ≠ "__name__":=by decide)(hd:(x==("__debug__" : Str))=false:=by decide):PE X (.Name x pos) (tC v) :=
 λ_ _ _ H _ I h=>Q3a I hg hm hv ⟨v,H,I,r,h⟩ hn hd
variable{a b:Expr}{ta tb:TE}{pos:Pos}
def tB(t:TE):TT:=λσ H Q=>t σ H λx H1=>∃ c,x=.bl c/\Q c H1
theorem QbE{e:Expr}{t:TE}(h:PE X e t)(he:∀ whole,isTrue e X.env whole=(do let v <- whole;standAt e.pos;holding [v] (truthy v)):=by intro _;rfl):PT X e (tB t):=by
 intro pins s σ H Q I hw;refine isTrue_plain (thn (h pins s σ H _ I hw) λv s1 ⟨x,H1,I1,r1,q1⟩=>?_) (he _);obtain⟨d,rfl,q⟩:=q1;cases r1;exact Yn ⟨H1,I1,q⟩
variable{tA tB':TT}{rest:List Expr}
def tAnd(t u:TT):TT:=λσ H Q=>t σ H λc H1=>if c=true then u σ H1 Q else Q false H1
def tOr(t u:TT):TT:=λσ H Q=>t σ H λc H1=>if c=true then Q true H1 else u σ H1 Q
def tNot(t:TT):TT:=λσ H Q=>t σ H λc H1=>Q (!c) H1
theorem Qaa(ha:PT X a tA):PW X (.BoolOp .And [a] pos) tA:=by
 intro wh pins s σ H Q I h;refine isTrue_and (thn (ha pins s σ H Q I h) λc s1 e=>?_);cases c with
 | true=>exact isTrue_and_nil e
 | false=>exact e
theorem QbF(ha:PT X a tA):PW X (.BoolOp .Or [a] pos) tA:=by
 intro wh pins s σ H Q I h;refine isTrue_or (thn (ha pins s σ H Q I h) λc s1 e=>?_);cases c with
 | false=>exact isTrue_or_nil e
 | true=>exact e
theorem QbG(ha:PT X a tA)(hb:PW X (.BoolOp .And (b::rest) pos) tB'):PW X (.BoolOp .And (a::b::rest) pos) (tAnd tA tB'):=by
 intro wh pins s σ H Q I h;refine isTrue_and (thn (ha pins s σ H _ I h) λc s1 ⟨H1,I1,q1⟩=>?_);cases c with
 | true=>exact hb wh pins s1 σ H1 Q I1 q1
 | false=>exact⟨H1,I1,q1⟩
theorem pw_or(ha:PT X a tA)(hb:PW X (.BoolOp .Or (b::rest) pos) tB'):PW X (.BoolOp .Or (a::b::rest) pos) (tOr tA tB'):=by
 intro wh pins s σ H Q I h;refine isTrue_or (thn (ha pins s σ H _ I h) λc s1 ⟨H1,I1,q1⟩=>?_);cases c with
 | true=>exact⟨H1,I1,q1⟩
 | false=>exact hb wh pins s1 σ H1 Q I1 q1
theorem QbH(ha:PT X a tA):PT X (.UnaryOp .Not a pos) (tNot tA):=by
 intro pins s σ H Q I h;exact isTrue_not (ha pins s σ H (λc H1=>Q (!c) H1) I h)
def tAndV(ta tb:TE):TE:=λσ H Q=>ta σ H λx H1=>∃ c,x=.bl c/\if c=true then tb σ H1 Q else Q (.bl false) H1
def tOrV(ta tb:TE):TE:=λσ H Q=>ta σ H λx H1=>∃ c,x=.bl c/\if c=true then Q (.bl true) H1 else tb σ H1 Q
def tNotV(ta:TE):TE:=λσ H Q=>ta σ H λx H1=>∃ c,x=.bl c/\Q (.bl (!c)) H1
theorem QbI{op}(h:PE X a t):PE X (.BoolOp op [a] pos) t:=λpins s σ H Q I hw=>BoolOp_one (h pins s σ H Q I hw)
theorem QbJ(ha:PE X a ta)(hb:PE X (.BoolOp .And (b::rest) pos) tb):PE X (.BoolOp .And (a::b::rest) pos) (tAndV ta tb):=by
 intro pins s σ H Q I h;refine BoolOp_and (thn (ha pins s σ H _ I h) λv s1 ⟨x,H1,I1,r1,q1⟩=>?_);obtain⟨c,rfl,q1⟩:=q1;cases r1;refine Yn ?_;cases c with
 | true=>exact hb pins s1 σ H1 Q I1 q1
 | false=>exact⟨.bl false,H1,I1,rfl,q1⟩
theorem pe_or(ha:PE X a ta)(hb:PE X (.BoolOp .Or (b::rest) pos) tb):PE X (.BoolOp .Or (a::b::rest) pos) (tOrV ta tb):=by
 intro pins s σ H Q I h;refine BoolOp_or (thn (ha pins s σ H _ I h) λv s1 ⟨x,H1,I1,r1,q1⟩=>?_);obtain⟨c,rfl,q1⟩:=q1;cases r1;refine Yn ?_;cases c with
 | false=>exact hb pins s1 σ H1 Q I1 q1
 | true=>exact⟨.bl true,H1,I1,rfl,q1⟩
theorem QbK(ha:PE X a ta):PE X (.UnaryOp .Not a pos) (tNotV ta):=by
 intro pins s σ H Q I h;refine UnaryOp_ (thn (ha pins s σ H _ I h) λv s1 ⟨x,H1,I1,r1,q1⟩=>?_);obtain⟨c,rfl,q1⟩:=q1;cases r1;exact not_of (Yn ⟨.bl (!c),H1,I1,rfl,q1⟩)
def tIf(t:TT)(ta tb:TE):TE:=λσ H Q=>t σ H λc H1=>if c=true then ta σ H1 Q else tb σ H1 Q
theorem Q8h{c:Expr}(hc:PT X c tA)(ha:PE X a ta)(hb:PE X b tb):PE X (.IfExp c a b pos) (tIf tA ta tb):=by
 intro pins s σ H Q I h;refine wpAny_IfExp (thn (hc pins s σ H _ I h) λd s1 ⟨H1,I1,q1⟩=>?_);cases d with
 | true=>exact ha pins s1 σ H1 Q I1 q1
 | false=>exact hb pins s1 σ H1 Q I1 q1
end
def SqL(K:Frag)(H:Hp)(a:Addr)(xs:List V):Prop :=
 Rd H a (.lst xs) \/
  ∃ (o:Obj) (its:Array Value) (n:Nat),K.lookup a=some o/\o.cls=.type "list" /\ o.dict=none/\o.data=.seq its n/\its.size<=sizeLine/\Vals xs its.toList
def SqT(K:Frag)(H:Hp)(a:Addr)(xs:List V):Prop :=
 Rd H a (.tup xs) \/
  ∃ (o:Obj) (its:Array Value) (n:Nat),K.lookup a=some o/\o.cls=.type "tuple" /\ o.data=.seq its n/\its.size<=sizeLine/\Vals xs its.toList
noncomputable def absV:Value->Option V
 | .none=>some .non
 | .bool b=>some (.bl b)
 | .int i _=>some (.int i)
 | .str x _=>some (.str x)
 | .bytes b _=>some (.byt b)
 | .float b _=>some (.flt b)
 | .ref a=>some (.ref a)
 | .type n=>some (.ty n)
 | _=>none
theorem RelV.abs(r:RelV x u):absV u=some x:=by
 cases x with
 | non=>cases r;rfl
 | bl _=>cases r;rfl
 | int _=>obtain⟨t,rfl⟩:=r;rfl
 | str _=>obtain⟨t,rfl⟩:=r;rfl
 | byt _=>obtain⟨t,rfl⟩:=r;rfl
 | flt _=>obtain⟨t,rfl⟩:=r;rfl
 | ref _=>cases r;rfl
 | ty _=>cases r;rfl
theorem RelV.inj(r:RelV x u)(q:RelV y u):x=y:=ZE (r.abs.symm.trans q.abs)
theorem Vals.inj:∀ {xs ys:List V} {us:List Value},Vals xs us->Vals ys us->xs=ys
 | _,_,_,.nil,.nil=>rfl
 | _,_,_,.cons r t,.cons r' t'=>by rw[r.inj r',Vals.inj t t']
section
variable{X:Cx}{pins:List (Addr×Obj)}{σ:St}{H:Hp}{s:Shared}{a:Addr}{xs ys:List V}
theorem SqL.of{K:Frag}(h:H a=some (.lst xs)):SqL K H a xs:=.inl (.inl h)
theorem SqT.of{K:Frag}(h:H a=some (.tup xs)):SqT K H a xs:=.inl (.inl h)
theorem Inv.list(I:Inv X pins σ H s)(h:SqL X.K H a xs):∃ its:List Value,Vals xs its/\PlainL s.heap a its.toArray/\xs.length<=sizeLine:=by
 rcases h with h | ⟨o,its,n,hk,hc,hd,hs,hz,r⟩
 ·obtain⟨z,its,n,r,e⟩:=h.ok I.hok;exact⟨its,r,⟨_,n,e,rfl,rfl,rfl⟩,z⟩
 ·refine⟨its.toList,r,⟨o,n,I.kIn a o hk,hc,hd,by simpa using hs⟩,?_⟩
  have e:=r.length;erw[Yd]at e;room
theorem Inv.tuple(I:Inv X pins σ H s)(h:SqT X.K H a xs):∃ its:List Value,Vals xs its/\IsTup s.heap a its.toArray/\xs.length<=sizeLine:=by
 rcases h with h | ⟨o,its,n,hk,hc,hs,hz,r⟩
 ·obtain⟨z,its,r,p⟩:=h.ok I.hok;exact⟨its,r,p,z⟩
 ·refine⟨its.toList,r,⟨o,I.kIn a o hk,hc,n,by simpa using hs⟩,?_⟩
  have e:=r.length;erw[Yd]at e;room
theorem Inv.list_inj(I:Inv X pins σ H s)(h:SqL X.K H a xs)(h':SqL X.K H a ys):xs=ys:=by
 obtain⟨its,r,⟨o,n,e,_,_,d⟩,_⟩:=I.list h;obtain⟨its',r',⟨o',n',e',_,_,d'⟩,_⟩:=I.list h';rw[e]at e';cases e';rw[d]at d';injection d' with d1 _;have:its=its':=by simpa using congrArg Array.toList d1
 subst this;exact r.inj r'
theorem Inv.tuple_inj(I:Inv X pins σ H s)(h:SqT X.K H a xs)(h':SqT X.K H a ys):xs=ys:=by
 obtain⟨its,r,⟨o,e,_,n,d⟩,_⟩:=I.tuple h;obtain⟨its',r',⟨o',e',_,n',d'⟩,_⟩:=I.tuple h';rw[e]at e';cases e';rw[d]at d';injection d' with d1 _;have:its=its':=by simpa using congrArg Array.toList d1
 subst this;exact r.inj r'
end
noncomputable abbrev Cx.wish(X:Cx)(E:Value->Shared->Prop):Cx:={ X with xe:=E }
noncomputable abbrev Cx.nox(X:Cx):Cx:=X.wish λ_ _=>False
theorem Cx.Ok.wish{X:Cx}(ok:X.Ok)(E:Value->Shared->Prop):(X.wish E).Ok :=
 ⟨ok.mod,ok.kind,ok.glob,ok.blt,ok.above,ok.inj,ok.has,ok.cab,ok.hd,ok.frames,ok.stk,ok.exf,ok.bs,ok.bsz,ok.noex,ok.exfs,ok.funs,ok.frf⟩
theorem Cx.Ok.unwish{X:Cx}{E:Value->Shared->Prop}(ok:(X.wish E).Ok):X.Ok :=
 ⟨ok.mod,ok.kind,ok.glob,ok.blt,ok.above,ok.inj,ok.has,ok.cab,ok.hd,ok.frames,ok.stk,ok.exf,ok.bs,ok.bsz,ok.noex,ok.exfs,ok.funs,ok.frf⟩
section
variable{X:Cx}{pins:List (Addr×Obj)}{σ:St}{H:Hp}{s:Shared}{E:Value->Shared->Prop}
theorem Inv.wish(I:Inv X pins σ H s)(E:Value->Shared->Prop):Inv (X.wish E) pins σ H s:=⟨I.ok.wish E,I.os,I.bare,I.base,I.loc,I.cell,I.free,I.freeC,I.pin,I.hok,I.len⟩
theorem Inv.unwish(I:Inv (X.wish E) pins σ H s):Inv X pins σ H s:=⟨I.ok.unwish,I.os,I.bare,I.base,I.loc,I.cell,I.free,I.freeC,I.pin,I.hok,I.len⟩
theorem SP.unwish(h:SP (X.wish E) pins D f s'):SP X pins D f s':=by
 cases f with
 | next=>obtain⟨σ',H',I,q⟩:=h;exact⟨σ',H',I.unwish,q⟩
 | brk=>obtain⟨σ',H',I,q⟩:=h;exact⟨σ',H',I.unwish,q⟩
 | cont=>obtain⟨σ',H',I,q⟩:=h;exact⟨σ',H',I.unwish,q⟩
 | ret u=>obtain⟨v,σ',H',I,r,q⟩:=h;exact⟨v,σ',H',I.unwish,r,q⟩
theorem PSs.nox{st:List Stmt}{t:TS}(h:PSs X.nox st t):PSs X st t:=λpins s σ H D I hw =>
 Yv (h pins s σ H D (I.wish _) hw) (λ_ _ q=>q.unwish) λ_ _ z=>False.elim z
end
section
variable{X:Cx}{st:Stmt}{rest:List Stmt}{t u:TS}{e:Expr}{te:TE}{pos:Pos}
def tNext:TS:=λD σ H=>D.nx σ H
def tSeq(t u:TS):TS:=λD σ H=>t { D with nx:=u D } σ H
theorem Qab:PSs X [] tNext:=λ_ _ σ H _ I h=>wpAny_execs_nil ⟨σ,H,I,h⟩
theorem Q8i(h1:PS X st t)(h2:PSs X rest u):PSs X (st::rest) (tSeq t u):=by
 intro pins s σ H D I h;refine wpAny_execs_cons (thn (h1 pins s σ H { D with nx:=u D } I h) λf s1 q=>?_);cases f with
 | next =>
  obtain⟨σ',H',I',q⟩:=q;exact h2 pins s1 σ' H' D I' q
 | ret v=>exact q
 | brk=>exact q
 | cont=>exact q
theorem Inv.quiet(I:Inv X pins σ H s):interactive X.env=false:=by simp[interactive,I.ok.kind]
def tDrop(te:TE):TS:=λD σ H=>te σ H λ_ H1=>D.nx σ H1
theorem Qac(he:PE X e te)(hs:swapsWith e none pos.line X.env=pure false:=by rfl):PS X (.Expr e pos) (tDrop te):=by
 intro pins s σ H D I h;exact wpAny_Expr_any (thn (he pins s σ H _ I h) λv s1 ⟨x,H1,I1,r1,q1⟩=>⟨σ,H1,I1,q1⟩) I.quiet hs
def tRet(te:TE):TS:=λD σ H=>te σ H D.rt
theorem QbL(he:PE X e te):PS X (.Return (some e) pos) (tRet te):=by
 intro pins s σ H D I h;exact wpAny_Return_some (thn (he pins s σ H _ I h) λv s1 ⟨x,H1,I1,r1,q1⟩=>⟨x,σ,H1,I1,r1,q1⟩)
def tIfS(c:TT)(t u:TS):TS:=λD σ H=>c σ H λb H1=>if b=true then t D σ H1 else u D σ H1
theorem ps_if{c:Expr}{a b:List Stmt}{tc:TT}(hc:PT X c tc)(ha:PSs X a t)(hb:PSs X b u):PS X (.If c a b pos) (tIfS tc t u):=by
 intro pins s σ H D I h;refine wpAny_If (thn (hc pins s σ H _ I h) λd s1 ⟨H1,I1,q1⟩=>?_);cases d with
 | true=>exact ha pins s1 σ H1 D I1 q1
 | false=>exact hb pins s1 σ H1 D I1 q1
end
noncomputable abbrev TG:=V->St->Hp->(St->Hp->Prop)->Prop
noncomputable abbrev TGs:=List V->St->Hp->(St->Hp->Prop)->Prop
def PG(X:Cx)(target:Expr)(t:TG):Prop :=
 ∀ (pins:List (Addr×Obj)) (s:Shared) (σ:St) (H:Hp) (v:V) (u:Value) (Q:St->Hp->Prop),Inv X pins σ H s->RelV v u->t v σ H Q ->
  wpAny (model X.prog X.w) X.A (assign target X.env u) (λ_ s'=>∃ σ' H',Inv X pins σ' H' s'/\Q σ' H') X.xe s
def PGs(X:Cx)(ts:List Expr)(t:TGs):Prop :=
 ∀ (pins:List (Addr×Obj)) (s:Shared) (σ:St) (H:Hp) (vs:List V) (us:List Value) (Q:St->Hp->Prop),Inv X pins σ H s->Vals vs us->t vs σ H Q ->
  wpAny (model X.prog X.w) X.A (assignInOrder ((assignEach ts X.env).map (·.2)) us) (λ_ s'=>∃ σ' H',Inv X pins σ' H' s'/\Q σ' H') X.xe s
section
variable{X:Cx}{pos:Pos}
def zaW(i:Nat):TG:=λv σ H Q=>Q (σ.set i (some v)) H
theorem Q6l(hN:X.N.Nodup)(hi:X.N[i]? = some x)(hx:Loc X.env.scope x)(hf:X.fn x=true\/X.env.scope.names.lookup x=some .local:=by first | exact .inl rfl | exact .inr rfl | assumption):PG X (.Name x pos) (zaW i):=by
 intro pins s σ H v u Q I r h;exact wpAny_assign_Name (Q4Z I hN hi hx r (λs' I'=>⟨_,H,I',h⟩) hf)
def gNil:TGs:=λvs σ H Q=>vs=[]/\Q σ H
def zbN(t:TG)(u:TGs):TGs:=λvs σ H Q=>∃ v r,vs=v::r/\t v σ H λσ' H'=>u r σ' H' Q
theorem Q6m:PGs X [] gNil:=by
 intro pins s σ H vs us Q I r h;obtain⟨e,h⟩:=h;subst e;cases r;exact assignInOrder_nil ⟨σ,H,I,h⟩
theorem Q3l{e:Expr}{es:List Expr}{t:TG}{u:TGs}(h1:PG X e t)(h2:PGs X es u)
  (hs:(assignEach (e::es) X.env).map (·.2)=assign e X.env::(assignEach es X.env).map (·.2):=by rfl):PGs X (e::es) (zbN t u):=by
 intro pins s σ H vs us Q I r h;obtain⟨v,vr,e1,h⟩:=h;subst e1;cases r with
 | cons r rr =>
  rw[hs];refine assignInOrder_cons (thn (h1 pins s σ H _ _ _ I r h) λ_ s1 ⟨σ1,H1,I1,q1⟩=>?_);exact h2 pins s1 σ1 H1 _ _ Q I1 rr q1
def gTup(K:Frag)(n:Nat)(t:TGs):TG:=λv σ H Q=>∃ a xs,v=.ref a/\SqT K H a xs/\xs.length=n/\t xs σ H Q
theorem Q9I(hc:X.calm=true)(h:PGs X es t)
  (hn:(assignEach es X.env).length=n:=by rfl) (hst:(assignEach es X.env).findIdx? (·.1)=none:=by rfl):PG X (.Tuple es k pos) (gTup X.K n t):=by
 intro pins s σ H v u Q I r hw;obtain⟨a,xs,e1,hq,hl,hw⟩:=hw;subst e1;cases r;obtain⟨its,rv,ht,hz⟩:=I.tuple hq;refine assign_Tuple_tuple (I.ok.hd hc) ht (by simp[hn,<- hl,rv.length]) hst λh' hx=>?_
 have I1:Inv X pins σ H { s with heap:=h' }:=I.kept (t':=s.toks) λb o e=>hx b o (ZO (Zt e)) e;exact h pins _ σ H xs _ Q I1 (by simpa using rv) hw
def tAsg(te:TE)(g:TG):TS:=λD σ H=>te σ H λx H1=>g x σ H1 D.nx
theorem QbM{tg e:Expr}{te:TE}{g:TG}(he:PE X e te)(hg:PG X tg g)(hs:swapsWithSole [tg] e pos.line X.env=pure false:=by rfl)(hw:swappedStores [tg] e X.env=pure none:=by rfl)
  (h1:(assignEach [tg] X.env).map (·.2)=[assign tg X.env]:=by rfl):PS X (.Assign [tg] e pos) (tAsg te g):=by
 intro pins s σ H D I h;refine wpAny_Assign_stores (thn (he pins s σ H _ I h) λv s1 ⟨x,H1,I1,r1,q1⟩=>?_) hs hw;rw[h1];exact thn (hg pins s1 σ H1 x v _ I1 r1 q1) λ_ s2 q=>q
theorem QbN{i:Nat}{x:Str}{e:Expr}{te:TE}{pos':Pos}(hN:X.N.Nodup)(hi:X.N[i]? = some x)(hx:Loc X.env.scope x)(he:PE X e te)(hs:swapsWith e (some (.Name x pos')) pos.line X.env=pure false:=by rfl)(hf:X.fn x=true\/X.env.scope.names.lookup x=some .local:=by first | exact .inl rfl | exact .inr rfl | assumption) :
  PS X (.Assign [.Name x pos'] e pos) (tAsg te (zaW i)):=by
 intro pins s σ H D I h;refine wpAny_Assign_Name (thn (he pins s σ H _ I h) λv s1 ⟨y,H1,I1,r1,q1⟩=>?_) hs;exact Q4Z I1 hN hi hx r1 (λs2 I2=>⟨_,H1,I2,q1⟩) hf
end
section
variable{X:Cx}{pos:Pos}
def tWhile(c:TT)(tb:TS):TS:=λD σ H=>∃ W:Nat->St->Hp->Prop,(∃ m,W m σ H)/\∀ m σ H,W m σ H ->
 c σ H λb H1=>if b=true then ∃ N:St->Hp->Prop,(∀ σ' H',N σ' H'->∃ m',m'<m/\W m' σ' H')/\tb { D with nx:=N,ct:=N,bk:=D.nx } σ H1 else D.nx σ H1
theorem Q8j{c:Expr}{body:List Stmt}{tc:TT}{tb:TS}(hp:PassesOwn (model X.prog X.w) X.A X.env X.xe)(hc:PT X c tc)(hb:PSs X body tb):PS X (.While c body [] pos) (tWhile tc tb):=by
 intro pins s σ H D I h;obtain⟨W,⟨m0,w0⟩,turn⟩:=h;refine wpAny_While (codeAny_whileLoop (λn s'=>∃ σ' H',Inv X pins σ' H' s'/\W n σ' H') ?_ m0 ⟨σ,H,I,w0⟩);rintro n s1 ⟨σ1,H1,I1,w1⟩;refine wpAny_passesOwn hp (thn (hc pins s1 σ1 H1 _ I1 (turn n σ1 H1 w1)) λb s2 ⟨H2,I2,q2⟩=>?_);cases b with
 | true =>
  obtain⟨N,hN,q2⟩:=q2;rw[Zg rfl];refine wpAny_passesOwn hp (thn (hb pins s2 σ1 H2 _ I2 q2) λf s3 q3=>?_);cases f with
  | next =>
   obtain⟨σ3,H3,I3,n3⟩:=q3;obtain⟨m',hm,w3⟩:=hN σ3 H3 n3;exact⟨m',hm,σ3,H3,I3,w3⟩
  | cont =>
   obtain⟨σ3,H3,I3,n3⟩:=q3;obtain⟨m',hm,w3⟩:=hN σ3 H3 n3;exact⟨m',hm,σ3,H3,I3,w3⟩
  | brk=>exact q3
  | ret v=>exact q3
 | false =>
  rw[Zd Zv];exact wpAny_execs_nil ⟨σ1,H2,I2,q2⟩
end
structure It where
 go:Nat->Hp->Prop
 yld:Nat->Hp->V->Hp->Prop
 stop:Nat->Hp->Prop
def FpOk(X:Cx)(pins:List (Addr×Obj))(H:Hp)(b:Addr):Prop :=
 H b=none/\b≠X.env.locals/\b∉X.fs/\(b∈X.ex\/X.s₀.heap.objs.size<=b)/\(∀ x c,X.env.cells.lookup x=some c->c≠b)/\∀ p∈X.pn++pins,p.1≠b
theorem Inv.fpOk(I:Inv X pins σ H s)(hb:s.heap.objs.size<=b)(hn:H' b=none):FpOk X pins H' b:=by
 refine⟨hn,ne_of_gt (ZB I.lt hb),I.nofs hb,.inr (Zr I.sz hb),λx c e z=>?_,λp hp z=>?_⟩
 ·obtain⟨v,q⟩:=I.cell x c e;exact absurd (ZB q.lt (by rw[z];exact hb)) (lt_irrefl _)
 ·exact absurd (ZB (Zt (I.pin p hp).1) (by rw[z];exact hb)) (lt_irrefl _)
structure Turn(P:Program)(w:World)(K:Frag)(tg:Expr)(J:It)(fp:List Addr)(it:Addr)(tn:Nat->Heap->Prop):Prop where
 mem:it∈fp
 obj:∀ i h,tn i h->∀ b∈fp,∃ o,h.get? b=some o/\∀ v,o.data≠.cell v
 keep:∀ i h h',tn i h->(∀ b∈fp,∀ o,h.get? b=some o->h'.get? b=some o)->tn i h'
 item:∀ (X:Cx),X.prog=P->X.w=w->X.K=K->X.calm=true->∀ (i:Nat) (pins:List (Addr×Obj)) (s:Shared) (σ:St) (H:Hp) (E:Value->Shared->Prop),Inv X pins σ H s->(∀ b∈fp,FpOk X pins H b)->tn i s.heap->J.go i H ->
  wpAny (model P w) X.A (pyNext (.ref it)) (λr s1=>∃ u,r=some u /\
   wpAny (model P w) X.A (letOwnedTupleGo tg (.ref it) u) (λ_ s2=>∃ x H',Inv X pins σ H' s2/\RelV x u/\J.yld i H x H'/\tn (i+1) s2.heap/\∀ b∈fp,H' b=none) E s1) E s
 done:∀ (X:Cx),X.prog=P->X.w=w->X.K=K->X.calm=true->∀ (i:Nat) (pins:List (Addr×Obj)) (s:Shared) (σ:St) (H:Hp) (E:Value->Shared->Prop),Inv X pins σ H s->(∀ b∈fp,FpOk X pins H b)->tn i s.heap->J.stop i H ->
  wpAny (model P w) X.A (pyNext (.ref it)) (λr s1=>r=none/\Inv X pins σ H s1) E s
 self:∀ (A:Around) (i:Nat) (s:Shared) (Q:Value->Shared->Prop) (E:Value->Shared->Prop),tn i s.heap->Q (.ref it) s->wpAny (model P w) A (pyIter (.ref it)) Q E s
noncomputable abbrev TI:=St->Hp->(It->Hp->Prop)->Prop
def PIE(X:Cx)(pins:List (Addr×Obj))(σ:St)(tg:Expr)(R:It->Hp->Prop)(itv:Value)(s2:Shared):Prop :=
 ∃ (it:Addr) (fp:List Addr) (tn:Nat->Heap->Prop) (J:It) (H':Hp),itv=.ref it/\Inv X pins σ H' s2/\Turn X.prog X.w X.K tg J fp it tn/\tn 0 s2.heap/\(∀ b∈fp,FpOk X pins H' b)/\R J H'
def PI(X:Cx)(tg iter:Expr)(wi:TI):Prop :=
 ∀ (pins:List (Addr×Obj)) (s:Shared) (σ:St) (H:Hp) (R:It->Hp->Prop),Inv X pins σ H s->wi σ H R ->
  wpAny (model X.prog X.w) X.A (eval iter X.env) (λv s1=>wpAny (model X.prog X.w) X.A (pyIter v) (PIE X pins σ tg R) X.xe s1) X.xe s
theorem go_of{E:Value->Shared->Prop}{Q:Unit->Shared->Prop}(ho:s.heap.get? it=some o)(hc:o.cls=.type n)(hd:o.data=.fields vs)
  (hn:["enumerate","zip","dict_itemiterator","dict_reverseitemiterator","odict_iterator","itertools.zip_longest","itertools.pairwise"].contains n=false) (hQ:Q () s):wpAny M A (letOwnedTupleGo tg (.ref it) u) Q E s:=by
 unfold letOwnedTupleGo;cases tg <;> first
  | exact Zc hQ
  | (cases u <;> first
    | exact Zc hQ
    | (refine Za (wpAny_load ho ?_)
       rw[hc,hd];show wpAny M A (if (["enumerate","zip","dict_itemiterator","dict_reverseitemiterator","odict_iterator","itertools.zip_longest","itertools.pairwise"].contains n&&vs[0]? == some (rawInt _))=true then _ else _) Q E s
       rw[Zd (by intro h;rw[hn,Bool.false_and]at h;cases h)]
       exact Zc hQ))
noncomputable def Itl(K:Frag)(a:Addr):It :=
 ⟨λi H=>∃ xs x,SqL K H a xs/\xs[i]? = some x,λi H x H'=>H'=H/\∀ xs,SqL K H a xs->xs[i]? = some x,λi H=>∃ xs,SqL K H a xs/\xs.length<=i⟩
noncomputable def Itt(K:Frag)(a:Addr):It :=
 ⟨λi H=>∃ xs x,SqT K H a xs/\xs[i]? = some x,λi H x H'=>H'=H/\∀ xs,SqT K H a xs->xs[i]? = some x,λi H=>∃ xs,SqT K H a xs/\xs.length<=i⟩
noncomputable def Itr(lo:Int)(n:Nat):It:=⟨λi _=>i<n,λi H x H'=>H'=H/\x=.int (lo+i),λi _=>n<=i⟩
theorem Q6n{P:Program}{w:World}{K:Frag}{tg:Expr}(a it:Addr):Turn P w K tg (Itl K a) [it] it (λi h=>h.IsListIter it a i) where
 mem:=by simp
 obj:=λi h st b hb=>by
  have e:b=it:=by simpa using hb
  subst e;obtain⟨o,e,c,d⟩:=st;exact⟨o,e,λv z=>by rw[d]at z;cases z⟩
 keep:=λi h h' st k=>st.at λo e=>k it (by simp) o e
 item:=by
  intro X hP hw hK hc i pins s σ H E I hf st hg;subst hP hw hK;obtain⟨xs,x,hq,hx⟩:=hg;obtain⟨its,rv,p,hz⟩:=I.list hq;obtain⟨u,hu,ru⟩:=rv.get hx;obtain⟨f0,f1,f2,f3,f4,f5⟩:=hf it (by simp)
  refine wpAny_pyNext_list_item st p.isList (x:=u) (by simpa using hu) λh' st' sb=>?_
  have I1:Inv X pins σ H { s with heap:=h' }:=I.turned (t':=s.toks) (λb o hb e=>(sb.2 b hb).trans e) f0 f1 f3 f4 f5;obtain⟨o,e,c,d⟩:=id st';exact⟨u,rfl,go_of (s:={ s with heap:=h' }) e c d (by decide) ⟨x,H,I1,ru,⟨rfl,λys hy=>by rw[I.list_inj hy hq];exact hx⟩,st',λb hb=>(hf b hb).1⟩⟩
 done:=by
  intro X hP hw hK hc i pins s σ H E I hf st hg;subst hP hw hK;obtain⟨xs,hq,hx⟩:=hg;obtain⟨its,rv,p,hz⟩:=I.list hq;obtain⟨f0,f1,f2,f3,f4,f5⟩:=hf it (by simp)
  have hl:=rv.length;exact wpAny_pyNext_list_end (I.ok.hd hc) st p.isList (by simp;room) λh' eb=>⟨rfl,I.turned (t':=s.toks) (λb o hb e=>eb b o hb e) f0 f1 f3 f4 f5⟩
 self:=λ_ _ _ _ _ st h=>wpAny_pyIter_listiter st h
theorem Q5J{P:Program}{w:World}{K:Frag}{tg:Expr}(a it:Addr):Turn P w K tg (Itt K a) [it] it (λi h=>h.IsTupleIter it a i) where
 mem:=by simp
 obj:=λi h st b hb=>by
  have e:b=it:=by simpa using hb
  subst e;obtain⟨o,e,c,d⟩:=st;exact⟨o,e,λv z=>by rw[d]at z;cases z⟩
 keep:=λi h h' st k=>st.at λo e=>k it (by simp) o e
 item:=by
  intro X hP hw hK hc i pins s σ H E I hf st hg;subst hP hw hK;obtain⟨xs,x,hq,hx⟩:=hg;obtain⟨its,rv,p,hz⟩:=I.tuple hq;obtain⟨u,hu,ru⟩:=rv.get hx;obtain⟨f0,f1,f2,f3,f4,f5⟩:=hf it (by simp)
  refine wpAny_pyNext_tuple_item st (show s.heap.IsTuple a its.toArray from p) (x:=u) (by simpa using hu) λh' st' sb=>?_
  have I1:Inv X pins σ H { s with heap:=h' }:=I.turned (t':=s.toks) (λb o hb e=>(sb.2 b hb).trans e) f0 f1 f3 f4 f5;obtain⟨o,e,c,d⟩:=id st';exact⟨u,rfl,go_of (s:={ s with heap:=h' }) e c d (by decide) ⟨x,H,I1,ru,⟨rfl,λys hy=>by rw[I.tuple_inj hy hq];exact hx⟩,st',λb hb=>(hf b hb).1⟩⟩
 done:=by
  intro X hP hw hK hc i pins s σ H E I hf st hg;subst hP hw hK;obtain⟨xs,hq,hx⟩:=hg;obtain⟨its,rv,p,hz⟩:=I.tuple hq;obtain⟨f0,f1,f2,f3,f4,f5⟩:=hf it (by simp)
  have hl:=rv.length;exact wpAny_pyNext_tuple_end (I.ok.hd hc) st (show s.heap.IsTuple a its.toArray from p) (by simp;room) λh' eb=>⟨rfl,I.turned (t':=s.toks) (λb o hb e=>eb b o hb e) f0 f1 f3 f4 f5⟩
 self:=λ_ _ _ _ _ st h=>wpAny_pyIter_tupleiter st h
theorem Q5K{P:Program}{w:World}{K:Frag}{tg:Expr}(it:Addr)(lo:Int)(n:Nat):Turn P w K tg (Itr lo n) [it] it (λi h=>IsRangeIter h it (lo+(i:Nat) * 1) ((n:Int)-(i:Nat)) 1) where
 mem:=by simp
 obj:=λi h st b hb=>by
  have e:b=it:=by simpa using hb
  subst e;exact⟨_,st,λv z=>by
   have z':Data.fields _=Data.cell v:=z;cases z'⟩
 keep:=λi h h' st k=>k it (by simp) _ st
 item:=by
  intro X hP hw hK hc i pins s σ H E I hf st hg;subst hP hw hK;obtain⟨f0,f1,f2,f3,f4,f5⟩:=hf it (by simp)
  have W:=Walks.range (prog:=X.prog) (w:=X.w) (I.ok.hd hc) it lo 1 n;refine W.item i s _ _ hg st λv h' tk hv st' kk=>?_;obtain⟨t,rfl⟩:=hv;have I1:Inv X pins σ H { s with heap:=h',toks:=tk }:=I.turned (λb o hb e=>kk b o (by simpa using hb) e) f0 f1 f3 f4 f5
  refine⟨_,rfl,go_of (s:={ s with heap:=h',toks:=tk }) (n:="range_iterator") st' rfl rfl (by decide) ⟨.int (lo+i),H,I1,⟨t,?_⟩,⟨rfl,rfl⟩,st',λb hb=>(hf b hb).1⟩⟩
  rw[Int.mul_one]
 done:=by
  intro X hP hw hK hc i pins s σ H E I hf st hg;subst hP hw hK;obtain⟨f0,f1,f2,f3,f4,f5⟩:=hf it (by simp)
  exact wpAny_pyNext_range_end (I.ok.hd hc) st (by have:n<=i:=hg;room) λh' eb=>⟨rfl,I.turned (t':=s.toks) (λb o hb e=>eb b o hb e) f0 f1 f3 f4 f5⟩
 self:=λ_ _ _ _ _ st h=>wpAny_pyIter_rangeiter st h
section
variable{X:Cx}{tg:Expr}
theorem Q5a{pins:List (Addr×Obj)}{σ:St}{H:Hp}{s:Shared}{R:It->Hp->Prop}{E:Value->Shared->Prop}{lo hi:Int}{t u v:Tok}{tk:Nat}(I:Inv X pins σ H s)(h1:-(2 ^ 62)<=lo)(h2:lo<2 ^ 62)(h3:-(2 ^ 62)<=hi)(h4:hi<2 ^ 62)
  (q:R (Itr lo (hi-lo).toNat) H):wpAny (model X.prog X.w) X.A (pyIter (.ref s.heap.objs.size)) (PIE X pins σ tg R) E { s with heap:=s.heap.push { cls:=.type "range",data:=.fields #[.int lo t,.int hi u,.int 1 v] },toks:=tk }:=by
 refine wpAny_pyIter_range (IsRange.new ..) (small_one h1 h2 h3 h4) ?_;have I1:Inv X pins σ H { s with heap:=s.heap.push { cls:=.type "range",data:=.fields #[.int lo t,.int hi u,.int 1 v] },toks:=tk }:=I.kept λb o e=>Zj _ e;refine⟨(s.heap.push { cls:=.type "range",data:=.fields #[.int lo t,.int hi u,.int 1 v] }).objs.size,[(s.heap.push { cls:=.type "range",data:=.fields #[.int lo t,.int hi u,.int 1 v] }).objs.size],_,_,H,rfl,
  I1.kept (t':=tk) λb o e=>Zj _ e,Q5K _ lo (hi-lo).toNat,?_,λb hb=>?_,q⟩
 ·have e1:lo+((0:Nat):Int) * 1=lo:=by simp
  have e2:(((hi-lo).toNat:Nat):Int)-((0:Nat):Int)=Builtin.Range.rangeSize lo hi 1:=by rw[rangeSize_one];split <;> room
  show IsRangeIter _ _ (lo+((0:Nat):Int) * 1) ((((hi-lo).toNat:Nat):Int)-((0:Nat):Int)) 1;rw[e1,e2];exact Z0 _ rfl
 ·have e:b=(s.heap.push { cls:=.type "range",data:=.fields #[.int lo t,.int hi u,.int 1 v] }).objs.size:=by simpa using hb
  subst e;exact I1.fpOk (Zq _) (I1.hok.fresh (Zq _))
def iRng1(ta:TA):TI:=λσ H R=>ta σ H λvs H1=>∃ j:Int,vs=[.int j] /\ -(2 ^ 62)<=j/\j<2 ^ 62/\R (Itr 0 j.toNat) H1
def iRng2(ta:TA):TI:=λσ H R=>ta σ H λvs H1=>∃ i j:Int,vs=[.int i,.int j]/\(-(2 ^ 62)<=i/\i<2 ^ 62 /\ -(2 ^ 62)<=j/\j<2 ^ 62)/\R (Itr i (j-i).toNat) H1
theorem Q6o{a:Expr}{ta:TA}{p pos:Pos}(hg:Gl X "range")(hm:X.mg "range" = none)(ha:PA X [a] ta)(hs:starEach [a] X.env=[(false,eval a X.env)]:=by rfl):PI X tg (.Call (.Name "range" p) [a] [] pos) (iRng1 ta):=by
 intro pins s σ H R I h;refine Call_ (Q3a I hg hm boot_range (PyProof.Rows.callWith_type1 (thn (ha pos pins s σ H _ I h) λus s1 ⟨vs,H1,I1,r1,q1⟩=>?_) hs rfl));obtain⟨j,e,q1,q2,q⟩:=q1;subst e;cases r1 with
 | cons r rr =>
  cases rr;obtain⟨t,rfl⟩:=r;exact call_range_1 (Q5a I1 (by room) (by room) q1 q2 (by simpa using q))
theorem Q6p(hg:Gl X "range")(hm:X.mg "range" = none)(ha:PA X [a,b] ta)(hs:starEach [a,b] X.env=[(false,eval a X.env),(false,eval b X.env)]:=by rfl)(hs2:starEach [b] X.env=[(false,eval b X.env)]:=by rfl) :
  PI X tg (.Call (.Name "range" p) [a,b] [] pos) (iRng2 ta):=by
 intro pins s σ H R I h;refine Call_ (Q3a I hg hm boot_range (PyProof.Rows.callWith_type1 (thn (ha pos pins s σ H _ I h) λus s1 ⟨vs,H1,I1,r1,q1⟩=>?_) (by rw[hs,hs2]) (by rw[hs2];rfl)))
 obtain⟨i,j,e,⟨q1,q2,q3,q4⟩,q⟩:=q1;subst e;cases r1 with
 | cons r rr =>
  cases rr with
  | cons r' rr =>
   cases rr;obtain⟨t,rfl⟩:=r;obtain⟨t',rfl⟩:=r';exact call_range_2 (Q5a I1 q1 q2 q3 q4 q)
def tFor(wi:TI)(g:TG)(tb:TS):TS:=λD σ H=>wi σ H λJ H1=>∃ W:Nat->Nat->St->Hp->Prop,(∃ m,W 0 m σ H1)/\∀ i m σ H,W i m σ H ->
 (J.stop i H/\D.nx σ H)\/(J.go i H/\∃ N:St->Hp->Prop,(∀ σ' H',N σ' H'->∃ m',m'<m/\W (i+1) m' σ' H')/\∀ x H',J.yld i H x H'->g x σ H' λσ2 H2=>tb { D with nx:=N,ct:=N,bk:=D.nx } σ2 H2)
noncomputable def zax(fp:List Addr)(h:Heap):List (Addr×Obj):=fp.filterMap λb=>(h.get? b).map λo=>(b,o)
theorem Q0W(hb:b∈fp)(e:h.get? b=some o):(b,o)∈zax fp h:=mem_filterMap.mpr ⟨b,hb,by rw[e];rfl⟩
theorem Q3H(hp:p∈zax fp h):p.1∈fp/\h.get? p.1=some p.2:=by
 obtain⟨b,hb,e⟩:=mem_filterMap.mp hp;cases q:h.get? b with
 | none=>rw[q]at e;cases e
 | some o =>
  rw[q]at e;have e':(b,o)=p:=ZE e;subst e';exact⟨hb,q⟩
theorem Inv.pinned(I:Inv X pins σ H s)(hf:∀ b∈fp,FpOk X pins H b)(ho:∀ b∈fp,∃ o,s.heap.get? b=some o/\∀ v,o.data≠.cell v):Inv X (pins++zax fp s.heap) σ H s :=
 I.pins_of λp hp=>(Z4.mp hp).elim (λz=>I.pin p (Zy _ z)) λz=>by
  obtain⟨hb,e⟩:=Q3H z;obtain⟨f0,f1,f2,_⟩:=hf p.1 hb;obtain⟨o,e',d⟩:=ho p.1 hb;rw[e]at e';cases e';exact⟨e,f0,f1,f2,d⟩
theorem Inv.unpinned(I:Inv X (pins++pl) σ H s):Inv X pins σ H s:=I.pins_of λp hp=>I.pin p (Zy _ (ZV _ hp))
theorem QbO(hp:PassesOwn (model X.prog X.w) X.A X.env X.xe)(hc:X.calm=true)(hi:PI X tg iter wi)(hg:PG X tg g)(hb:PSs X body tb)
  (hs:∀ x,foldedSetIterable iter X.env x=pure x:=by intro _;rfl):PS X (.For tg iter body [] pos) (tFor wi g tb):=by
 intro pins s σ H D I h;refine wpAny_For (thn (hi pins s σ H _ I h) λv s1 h1=>thn h1 λitv s2 h2=>?_) hs;obtain⟨it,fp,tn,J,H2,e,I2,T,st2,f2,W,⟨m0,w0⟩,turn⟩:=h2;subst e
 -- what stays true of the iterator's objects through the loop
 have stat:∀ {H':Hp},(∀ b∈fp,H' b=none)->∀ b∈fp,FpOk X pins H' b:=λhn b hb=>⟨hn b hb,(f2 b hb).2⟩;refine codeAny_forLoop_any (λn s'=>∃ i σ' H',Inv X pins σ' H' s'/\tn i s'.heap/\(∀ b∈fp,H' b=none)/\W i n σ' H') ?_ m0 ⟨0,σ,H2,I2,st2,λb hb=>(f2 b hb).1,w0⟩;rintro n s3 ⟨i,σ3,H3,I3,st3,fr3,w3⟩;rcases turn i n σ3 H3 w3 with ⟨stop,qn⟩ | ⟨go,N,hN,step⟩
 ·refine wpAny_passesOwn hp (thn (T.done X rfl rfl rfl hc i pins s3 σ3 H3 X.xe I3 (stat fr3) st3 stop) λr s4 ⟨hr,I4⟩=>?_);subst hr;exact wpAny_execs_nil ⟨σ3,H3,I4,qn⟩
 ·refine wpAny_passesOwn hp (thn (T.item X rfl rfl rfl hc i pins s3 σ3 H3 X.xe I3 (stat fr3) st3 go) λr s4 ⟨u,hr,h4⟩=>?_);subst hr;refine wpAny_passesOwn hp (thn h4 λ_ s5 ⟨x,H5,I5,r5,y5,st5,fr5⟩=>?_);have I5':=I5.pinned (stat fr5) (T.obj _ _ st5);refine wpAny_passesOwn hp (thn (hg _ s5 σ3 H5 x u _ I5' r5 (step x H5 y5)) λ_ s6 ⟨σ6,H6,I6,q6⟩=>?_);refine wpAny_passesOwn hp (thn (hb _ s6 σ6 H6 _ I6 q6) λf s7 q7=>?_);have again:∀ {σ7:St} {H7:Hp},Inv X (pins++zax fp s5.heap) σ7 H7 s7->N σ7 H7->∃ m,m<n/\∃ i σ' H',Inv X pins σ' H' s7/\tn i s7.heap/\(∀ b∈fp,H' b=none)/\W i m σ' H':=fun{σ7 H7} I7 n7=>by
   obtain⟨m',hm,w7⟩:=hN σ7 H7 n7;refine⟨m',hm,i+1,σ7,H7,I7.unpinned,T.keep _ _ _ st5 λb hb o e=>(I7.pin (b,o) (Zy _ (Zy _ (Q0W hb e)))).1,λb hb=>?_,w7⟩;obtain⟨o,e,d⟩:=T.obj _ _ st5 b hb;exact (I7.pin (b,o) (Zy _ (Zy _ (Q0W hb e)))).2.1
  cases f with
  | next=>obtain⟨σ7,H7,I7,n7⟩:=q7;exact again I7 n7
  | cont=>obtain⟨σ7,H7,I7,n7⟩:=q7;exact again I7 n7
  | brk=>obtain⟨σ7,H7,I7,q7⟩:=q7;exact⟨σ7,H7,I7.unpinned,q7⟩
  | ret v=>obtain⟨x7,σ7,H7,I7,r7,q7⟩:=q7;exact⟨x7,σ7,H7,I7.unpinned,r7,q7⟩
end
noncomputable abbrev R2:=V->V->Hp->VK->Prop
def OpR(X:Cx)(f:Value->Value->Sem Value)(r:R2):Prop :=
 ∀ (pins:List (Addr×Obj)) (s:Shared) (σ:St) (H:Hp) (x y:V) (v u:Value) (Q:VK),Inv X pins σ H s->RelV x v->RelV y u->r x y H Q ->
  wpAny (model X.prog X.w) X.A (f v u) (EP X pins σ Q) X.xe s
def UnR(X:Cx)(f:Value->Sem Value)(r:V->Hp->VK->Prop):Prop :=
 ∀ (pins:List (Addr×Obj)) (s:Shared) (σ:St) (H:Hp) (x:V) (v:Value) (Q:VK),Inv X pins σ H s->RelV x v->r x H Q ->
  wpAny (model X.prog X.w) X.A (f v) (EP X pins σ Q) X.xe s
def zbj(X:Cx)(f:Value)(r:List V->Hp->VK->Prop):Prop :=
 ∀ (pins:List (Addr×Obj)) (s:Shared) (σ:St) (H:Hp) (xs:List V) (us:List Value) (Q:VK),Inv X pins σ H s->Vals xs us->r xs H Q ->
  wpAny (model X.prog X.w) X.A (call f us) (EP X pins σ Q) X.xe s
def tOp(r:R2)(ta tb:TE):TE:=λσ H Q=>ta σ H λx H1=>tb σ H1 λy H2=>r x y H2 Q
def tUn(r:V->Hp->VK->Prop)(ta:TE):TE:=λσ H Q=>ta σ H λx H1=>r x H1 Q
def rI(C:Int->Int->Prop)(g:Int->Int->V):R2:=λx y H Q=>∃ i j,x=.int i/\y=.int j/\C i j/\Q (g i j) H
def rI0(g:Int->Int->V):R2:=λx y H Q=>∃ i j,x=.int i/\y=.int j/\Q (g i j) H
def rU(g:Int->V):V->Hp->VK->Prop:=λx H Q=>∃ i,x=.int i/\Q (g i) H
section
variable{X:Cx}{a b c:Expr}{ta tb tc:TE}{pos:Pos}
theorem binT(ha:PE X a ta)(hb:PE X b tb){R:V->V->Hp->Prop}(I:Inv X pins σ H s)
  (h:ta σ H λx H1=>tb σ H1 λy H2=>R x y H2) {Q:Value->Shared->Prop} {f:Value->Value->Sem Value}
  (hf:∀ v u s2 x y H2,Inv X pins σ H2 s2->RelV x v->RelV y u->R x y H2->wpAny (model X.prog X.w) X.A (f v u) Q X.xe s2) :
  wpAny (model X.prog X.w) X.A (eval a X.env) (λv s₁=>wpAny (model X.prog X.w) X.A (eval b X.env) (λu s₂=>wpAny (model X.prog X.w) X.A (f v u) Q X.xe s₂) X.xe s₁) X.xe s:=by
 refine thn (ha pins s σ H _ I h) λv s1 ⟨x,H1,I1,r1,q1⟩=>?_;refine thn (hb pins s1 σ H1 _ I1 q1) λu s2 ⟨y,H2,I2,r2,q2⟩=>?_;exact hf v u s2 x y H2 I2 r1 r2 q2
theorem pe_op(ho:OpR X (binaryOp op) r)(ha:PE X a ta)(hb:PE X b tb):PE X (.BinOp a op b pos) (tOp r ta tb):=by
 intro pins s σ H Q I h;exact wpAny_BinOp (binT ha hb I h λv u s2 x y H2 I2 rx ry q=>ho pins s2 σ H2 x y v u Q I2 rx ry q)
theorem pe_un{r:V->Hp->VK->Prop}(ho:UnR X (unaryOp op) r)(ha:PE X a ta):PE X (.UnaryOp op a pos) (tUn r ta):=by
 intro pins s σ H Q I h;exact UnaryOp_ (thn (ha pins s σ H _ I h) λv s1 ⟨x,H1,I1,r1,q1⟩=>ho pins s1 σ H1 x v Q I1 r1 q1)
theorem opI{f:Value->Value->Sem Value}{C:Int->Int->Prop}{g:Int->Int->Int}
  (rule:∀ (i j:Int) (t u:Tok) (s:Shared) (Q:Value->Shared->Prop) (E:Value->Shared->Prop),C i j->Q (.int (g i j) s.toks) { s with toks:=s.toks+1 }->wpAny (model X.prog X.w) X.A (f (.int i t) (.int j u)) Q E s) :
  OpR X f (rI C λi j=>.int (g i j)):=by
 intro pins s σ H x y v u Q I rx ry h;obtain⟨i,j,rfl,rfl,hc,q⟩:=h;obtain⟨t,rfl⟩:=rx;obtain⟨t',rfl⟩:=ry;exact rule i j t t' s _ _ hc ⟨.int (g i j),H,I.tok _,⟨_,rfl⟩,q⟩
theorem opI0{f:Value->Value->Sem Value}{g:Int->Int->Int}
  (rule:∀ (i j:Int) (t u:Tok) (s:Shared) (Q:Value->Shared->Prop) (E:Value->Shared->Prop),Q (.int (g i j) s.toks) { s with toks:=s.toks+1 }->wpAny (model X.prog X.w) X.A (f (.int i t) (.int j u)) Q E s) :
  OpR X f (rI0 λi j=>.int (g i j)):=by
 intro pins s σ H x y v u Q I rx ry h;obtain⟨i,j,rfl,rfl,q⟩:=h;obtain⟨t,rfl⟩:=rx;obtain⟨t',rfl⟩:=ry;exact rule i j t t' s _ _ ⟨.int (g i j),H,I.tok _,⟨_,rfl⟩,q⟩
theorem opB0{f:Value->Value->Sem Value}{g:Int->Int->Bool}
  (rule:∀ (i j:Int) (t u:Tok) (s:Shared) (Q:Value->Shared->Prop) (E:Value->Shared->Prop),Q (.bool (g i j)) s->wpAny (model X.prog X.w) X.A (f (.int i t) (.int j u)) Q E s) :
  OpR X f (rI0 λi j=>.bl (g i j)):=by
 intro pins s σ H x y v u Q I rx ry h;obtain⟨i,j,rfl,rfl,q⟩:=h;obtain⟨t,rfl⟩:=rx;obtain⟨t',rfl⟩:=ry;exact rule i j t t' s _ _ ⟨.bl (g i j),H,I,rfl,q⟩
def CPow(i j:Int):Prop:=0<=j/\j<=1000000/\i.natAbs<2 ^ 64
def CMul(i j:Int):Prop:=(-(2 ^ 64)<i/\i<2 ^ 64)\/(-(2 ^ 64)<j/\j<2 ^ 64)
theorem CMul.ok(h:CMul i j):IntMulOk i j:=by
 rcases h with ⟨h1,h2⟩ | ⟨h1,h2⟩
 ·exact .of_left (intBits_le_64 h1 h2)
 ·exact .of_right (intBits_le_64 h1 h2)
theorem QbP:OpR X (binaryOp .Add) (rI0 λi j=>.int (i+j)):=opI0 λ_ _ _ _ _ _ _ q=>add_int q
theorem QbQ:OpR X (binaryOp .Sub) (rI0 λi j=>.int (i-j)):=opI0 λ_ _ _ _ _ _ _ q=>sub_int q
theorem QbR:OpR X (binaryOp .Mult) (rI CMul λi j=>.int (i * j)):=opI λ_ _ _ _ _ _ _ hc q=>mul_int q hc.ok
theorem QbS:OpR X (binaryOp .Mod) (rI (λ_ j=>0<j) λi j=>.int (i % j)):=opI λi j _ _ _ _ _ hc q=>by
 have h1:(0:Int)<j:=hc;exact mod_int' (by room) (by rw[Int.fmod_eq_emod_of_nonneg i (by room)];exact q)
theorem QbT:OpR X (binaryOp .Pow) (rI CPow λi j=>.int (i ^ j.toNat)):=opI λ_ _ _ _ _ _ _ hc q=>pow_int_small hc.1 hc.2.1 hc.2.2 q
theorem unI{f:Value->Sem Value}{g:Int->Int}
  (rule:∀ (i:Int) (t:Tok) (s:Shared) (Q:Value->Shared->Prop) (E:Value->Shared->Prop),Q (.int (g i) s.toks) { s with toks:=s.toks+1 }->wpAny (model X.prog X.w) X.A (f (.int i t)) Q E s) :
  UnR X f (rU λi=>.int (g i)):=by
 intro pins s σ H x v Q I rx h;obtain⟨i,rfl,q⟩:=h;obtain⟨t,rfl⟩:=rx;exact rule i t s _ _ ⟨.int (g i),H,I.tok _,⟨_,rfl⟩,q⟩
theorem QbU:UnR X (unaryOp .USub) (rU λi=>.int (-i)):=unI λ_ _ _ _ _ q=>neg_int q
end
section
variable{X:Cx}{a b c:Expr}{ta tb tc:TE}{pos:Pos}
theorem Q9J(I:Inv X pins σ H s)(q:Q (.bl k) H)(e:k=k'):EP X pins σ Q (.bool k') s:=by
 subst e;exact⟨.bl k,H,I,rfl,q⟩
theorem op_lt:OpR X (compareOp .Lt) (rI0 λi j=>.bl (decide (i<j))):=opB0 λ_ _ _ _ _ _ _ q=>lt_int q
theorem op_gt:OpR X (compareOp .Gt) (rI0 λi j=>.bl (decide (j<i))):=opB0 λ_ _ _ _ _ _ _ q=>gt_int q
theorem QbV:OpR X (compareOp .Is) (λx y H Q=>y=.non/\Q (.bl (decide (x=.non))) H):=by
 intro pins s σ H x y v u Q I rx ry h;obtain⟨rfl,q⟩:=h;cases ry;refine is_none_gen (Q9J I q ?_);cases x <;> first
  | (cases rx;rfl)
  | (obtain⟨t,rfl⟩:=rx;rfl)
theorem Qad:OpR X (compareOp .IsNot) (λx y H Q=>y=.non/\Q (.bl (!decide (x=.non))) H):=by
 intro pins s σ H x y v u Q I rx ry h;obtain⟨rfl,q⟩:=h;cases ry;refine isnot_none_gen (Q9J I q ?_);cases x <;> first
  | (cases rx;rfl)
  | (obtain⟨t,rfl⟩:=rx;rfl)
theorem Qae(ho:OpR X (compareOp op) r)(ha:PE X a ta)(hb:PE X b tb)(hm:behindInMarks op b=false):PE X (.Compare a [op] [b] pos) (tOp r ta tb):=by
 intro pins s σ H Q I h;exact wpAny_Compare1 (binT ha hb I h λv u s2 x y H2 I2 rx ry q=>ho pins s2 σ H2 x y v u Q I2 rx ry q) hm
def tTest(t:TE):TT:=λσ H Q=>t σ H λx H'=>∃ k,x=.bl k/\Q k H'
theorem Qaf(ho:OpR X (compareOp op) r)(ha:PE X a ta)(hb:PE X b tb)(hm:behindInMarks op b=false):PT X (.Compare a [op] [b] pos) (tTest (tOp r ta tb)):=by
 intro pins s σ H Q I h;refine wpAny_isTrue_Compare1 (thn (ha pins s σ H _ I h) λv s1 ⟨x,H1,I1,r1,q1⟩=>thn (hb pins s1 σ H1 _ I1 q1) λu s2 ⟨y,H2,I2,r2,q2⟩ =>
  thn (ho pins s2 σ H2 x y v u _ I2 r1 r2 q2) λc s3 ⟨z,H3,I3,r3,k,e,q3⟩=>?_) hm
 subst e;cases r3;exact Yn ⟨H3,I3,q3⟩
def zbH(r r':R2)(ta tb tc:TE):TE:=λσ H Q=>ta σ H λx H1=>tb σ H1 λy H2=>r x y H2 λz H3=>∃ k,z=.bl k /\
 (if k=true then tc σ H3 λw' H4=>r' y w' H4 Q else Q (.bl false) H3)
theorem Q8k(ho:OpR X (compareOp op) r)(ho':OpR X (compareOp op') r')(ha:PE X a ta)(hb:PE X b tb)(hc:PE X c tc)
  (hm:lastMarks [op,op'] [b,c]=false:=by with_unfolding_all rfl):PE X (.Compare a [op,op'] [b,c] pos) (zbH r r' ta tb tc):=by
 intro pins s σ H Q I h;refine Compare_chain (thn (ha pins s σ H _ I h) λv s1 ⟨x,H1,I1,r1,q1⟩=>chain_link (thn (hb pins s1 σ H1 _ I1 q1) λu s2 ⟨y,H2,I2,r2,q2⟩ =>
  thn (ho pins s2 σ H2 x y v u _ I2 r1 r2 q2) λd s3 ⟨z,H3,I3,r3,k,e,q3⟩=>?_)) hm
 subst e;cases r3;refine Yn ?_;cases k with
 | false=>exact ite_ff ⟨.bl false,H3,I3,rfl,q3⟩
 | true=>exact ite_tt (chain_last (thn (hc pins s3 σ H3 _ I3 q3) λw' s4 ⟨z',H4,I4,r4,q4⟩=>ho' pins s4 σ H4 y z' u w' Q I4 r2 r4 q4))
theorem Q8l(ho:OpR X (compareOp op) r)(ho':OpR X (compareOp op') r')(ha:PE X a ta)(hb:PE X b tb)(hc:PE X c tc)
  (hm:lastMarks [op,op'] [b,c]=false:=by with_unfolding_all rfl):PT X (.Compare a [op,op'] [b,c] pos) (tTest (zbH r r' ta tb tc)):=by
 intro pins s σ H Q I h;refine isTrue_chain (thn (ha pins s σ H _ I h) λv s1 ⟨x,H1,I1,r1,q1⟩=>test_link (thn (hb pins s1 σ H1 _ I1 q1) λu s2 ⟨y,H2,I2,r2,q2⟩ =>
  thn (ho pins s2 σ H2 x y v u _ I2 r1 r2 q2) λd s3 ⟨z,H3,I3,r3,k,e,q3⟩=>?_)) hm
 subst e;cases r3;refine Yn ?_;cases k with
 | false =>
  obtain⟨k',e',q'⟩:=q3;cases e';exact ite_ff ⟨H3,I3,q'⟩
 | true =>
  refine ite_tt (test_last (thn (hc pins s3 σ H3 _ I3 q3) λw' s4 ⟨z',H4,I4,r4,q4⟩=>thn (ho' pins s4 σ H4 y z' u w' _ I4 r2 r4 q4) λd' s5 ⟨z2,H5,I5,r5,k2,e2,q5⟩=>?_));subst e2;cases r5;exact Yn ⟨H5,I5,q5⟩
theorem line63:(sizeLine:Nat)<2 ^ 63:=by rw[ZY];decide
theorem Q5L:OpR X (binaryOp .Add) (λx y H Q=>∃ i j,x=.str i/\y=.str j/\i.length+j.length<=sizeLine/\Q (.str (i++j)) H):=by
 intro pins s σ H x y v u Q I rx ry h;obtain⟨i,j,rfl,rfl,hz,q⟩:=h;obtain⟨t,rfl⟩:=rx;obtain⟨t',rfl⟩:=ry;exact add_str (λt' tk=>⟨.str (i++j),H,I.tok _,⟨_,rfl⟩,q⟩) hz
theorem vals1(r:Vals [x] us):∃ u,us=[u]/\RelV x u:=by
 cases r with
 | cons r1 r2=>cases r2;exact⟨_,rfl,r1⟩
theorem Q3I:zbj X (.type "str") (λxs H Q=>∃ i,xs=[.int i]/\i.natAbs.log2<1920/\Q (.str (toString i)) H):=by
 intro pins s σ H xs us Q I r h;obtain⟨i,rfl,hz,q⟩:=h;obtain⟨u,rfl,t,rfl⟩:=vals1 r;exact PySem.P.str_of_int hz ⟨.str _,H,I.tok _,⟨_,rfl⟩,q⟩
end
structure ObjM(h:Heap)(x dx C:Addr)(mA:Str->Option Value):Prop where
 obj:h.get? x=some (instObj C dx)
 ns:h.Ns1 dx mA
 ne:dx≠x
theorem Q6q{h:Heap}{dx:Addr}{mA:Str->Option Value}(n:h.Ns1 dx mA):∃ od,h.get? dx=some od/\∀ name,PySem.W.lookIn name od=some (mA name):=by
 obtain⟨o,es,ep,ho,hd,hk,_,hm⟩:=n;refine⟨o,ho,λname=>?_⟩;have e:=hm name;unfold nsFind findBy at e;rw[<- Array.find?_toList]at e;unfold PySem.W.lookIn;rw[hd];dsimp only;split
 ·rename_i y q;rw[q]at e;exact congrArg some e
 ·rename_i q;rw[q]at e;have a:es.toList.any (·.refKey)=false:=by
   rw[List.any_eq_false];intro y hy;obtain⟨z,t,hkey⟩:=hk y (Array.mem_toList_iff.mp hy);simp[DictEntry.refKey,hkey]
  have a':¬ es.toList.any (·.refKey)=true:=by rw[a];exact Zv
  rw[Zd a'];exact congrArg some e
theorem ObjM.look{mA:Str->Option Value}(I:ObjM h x dx C mA):∃ od,PySem.W.InstAt h x (instObj C dx) C (some od)/\∀ name,PySem.W.lookIn name od=some (mA name) :=
 let ⟨od,ho,hl⟩:=Q6q I.ns
 ⟨od,⟨I.obj,rfl,rfl,ho⟩,hl⟩
section
variable{prog:Program}{w:World}{A:Around}{E:Value->Shared->Prop}{s:Shared}{K:Frag}{x dx C f:Addr}{mA:Str->Option Value}{name:Str}{v:Value}
theorem Qag{Q:Value->Shared->Prop}(X:K.In s.heap)(I:ObjM s.heap x dx C mA)(hg:plainGet K C name=true)(hh:hasDictIn K C=true)
  (ha:findIn K (.ref C) name=some none) (hv:mA name=some v) (hv':PySem.W.handedIn v=true) (h:Q v { s with toks:=s.toks+1 }) :
  wpAny (model prog w) A (getAttr (.ref x) name expr) Q E s:=by
 obtain⟨od,J,hl⟩:=I.look;exact PySem.W.get_value X J (plainGet_of hg).1 (PySem.W.findObj_own hh ha rfl (by rw[hl,hv])) hv' h
theorem Q8m{Q:Value×List Value->Shared->Prop}(X:K.In s.heap)(I:ObjM s.heap x dx C mA)(hg:plainGet K C name=true)
  (hf:findIn K (.ref C) name=some (some (.ref f))) (ht:isFn K (.ref f)=true) (hv:mA name=none) (h:Q (.ref f,[.ref x]) s) :
  wpAny (model prog w) A (getMethod (.ref x) name pl) Q E s:=by
 obtain⟨od,J,hl⟩:=I.look;exact PySem.W.method_fn X J (plainGet_of hg).1 (plainGet_of hg).2 hf (Z5.mp ht) (by show (PySem.W.lookIn name od).map (·.isSome)=some false;rw[hl,hv];rfl) h
theorem Qah{Q:Unit->Shared->Prop}(X:K.In s.heap)(I:ObjM s.heap x dx C mA)
  (hs:findIn K (.ref C) "__setattr__" = some (some (.builtin "object.__setattr__"))) (hp:plainOver K C=true) (ht:PySem.W.takerIn K C name=some none) (hh:hasDictIn K C=true)
  (hw:PySem.Within mA ns) (hsz:ns.length<=sizeLine)
  (h:∀ h',ObjM h' x dx C (λy=>if y=name then some v else mA y)->Heap.SameBut dx s.heap h'->Q () { s with heap:=h',toks:=s.toks+2 }) :
  wpAny (model prog w) A (setAttr (.ref x) name v) Q E s:=by
 obtain⟨od,J,hl⟩:=I.look;refine PySem.W.set_plain X J hs (PySem.W.osa_open (s:={ s with toks:=s.toks+1 }) (r:=none) X J hp ht λb=>?_);obtain⟨cd,hc,hd'⟩:=PySem.W.any_some hh;have hx:s.heap.get? x=some ⟨.ref C,some dx,.plain,#[]⟩:=I.obj;refine Za (Zc (Za (Za (wpAny_loadPart hx (Za (PySem.W.Looks.here (s:={ s with toks:=s.toks+1 }) (PySem.W.looks_clsIn X hc) ?_))))));rw[hd'];refine Zc (a:=some dx) (Za (Zc (Za ?_)));refine wpAny_nsSet1 (s:={ s with toks:=s.toks+1 }) I.ns λh' hn2 hs2=>?_;obtain⟨oD,esD,epD,hoD,hdD,hcD⟩:=hn2.count (PySem.Within.cons name v hw);refine Za (wpAny_lookBehind hoD (by rw[hdD];exact pastItsLine_dict (Zr hcD (by rw[Zw];room))) ?_)
 exact Zc (h _ ⟨(hs2.2 _ (Ne.symm I.ne)).trans I.obj,hn2,I.ne⟩ hs2)
theorem Q8n{R:Result->Shared->Prop}(X:K.In s.heap)(hm:makesIn K C=true)
  (hi:findIn K (.ref C) "__init__" = some (some (.ref f))) (hf:PySem.W.typeIn K (.ref f)=some (.type "function"))
  (h:codeAny (model prog w) (A.under (.builtin "type.__call__" ⟨.ref C::vs,kw⟩)) (.call (.ref f) ⟨.ref (s.heap.objs.size+1)::vs,kw⟩) (PySem.W.InitBack (s.heap.objs.size+1) R)
   {s with heap:=(s.heap.push PySem.W.emptyDict).push (instObj C s.heap.objs.size) }) :
  codeAny (model prog w) A (.call (.ref C) ⟨vs,kw⟩) R s:=by
 obtain⟨hh,g,d,t,os⟩:=s;exact PySem.W.make_core (PySem.W.makes_of X hm) (PySem.W.looks_findIn X hi) (λself=>PySem.W.bind_fn X self hf) (.inl rfl) h
end
noncomputable def putF(f:Str)(v:V):List (Str×V)->List (Str×V)
 | []=>[(f,v)]
 | (g,x)::r=>if g=f then (g,v)::r else (g,x)::putF f v r
theorem Q2t(f g:Str)(v:V):∀ fs:List (Str×V),(putF f v fs).lookup g=if g=f then some v else fs.lookup g
 | []=>by
  show List.lookup g [(f,v)]=_;by_cases h:g=f
  ·have hb:(g==f)=true:=Z5.mpr h;erw[List.lookup,hb,Zg h]
  ·have hb:(g==f)=false:=Yr.mpr h;erw[List.lookup,hb,Zd h]
 | (k,x)::r=>by
  have ih:=Q2t f g v r;rw[show putF f v ((k,x)::r)=(if k=f then (k,v)::r else (k,x)::putF f v r) from rfl]
  by_cases hk:k=f
  ·rw[Zg hk];by_cases h:g=k
   ·have hb:(g==k)=true:=Z5.mpr h;erw[List.lookup,hb,Zg (h.trans hk)]
   ·have hb:(g==k)=false:=Yr.mpr h;erw[List.lookup,hb,Zd (λe:g=f=>h (e.trans hk.symm))]
  ·rw[Zd hk];by_cases h:g=k
   ·have hb:(g==k)=true:=Z5.mpr h;erw[List.lookup,hb,Zd (λe:g=f=>hk (h.symm.trans e))]
   ·have hb:(g==k)=false:=Yr.mpr h;erw[List.lookup,hb];exact ih
theorem Q2u(f:Str)(v:V):∀ fs:List (Str×V),f∈(putF f v fs).map (·.1)/\∀ g,g∈fs.map (·.1)->g∈(putF f v fs).map (·.1)
 | []=>⟨by simp[putF],λg h=>by simp at h⟩
 | (k,x)::r=>by
  obtain⟨i1,i2⟩:=Q2u f v r;rw[show putF f v ((k,x)::r)=(if k=f then (k,v)::r else (k,x)::putF f v r) from rfl]
  by_cases hk:k=f
  ·rw[Zg hk];subst hk;exact⟨by simp,λg h=>by simpa using h⟩
  ·rw[Zd hk];refine⟨?_,λg h=>?_⟩
   ·rw[ZC];exact Zo _ i1
   ·rw[ZC]at h ⊢;rcases Z1.mp h with e | e
    ·exact Z1.mpr (.inl e)
    ·exact Zo _ (i2 g e)
theorem Q2v(f:Str)(v:V):∀ fs:List (Str×V),(putF f v fs).length<=fs.length+1
 | []=>by simp[putF]
 | (k,x)::r=>by
  have ih:=Q2v f v r;rw[show putF f v ((k,x)::r)=(if k=f then (k,v)::r else (k,x)::putF f v r) from rfl]
  by_cases hk:k=f
  ·rw[Zg hk,Zw,Zw];room
  ·rw[Zd hk,Zw,Zw];room
theorem RelO.some_of(r:RelO (some v) o):∃ u,o=some u/\RelV v u:=by
 cases o with
 | none=>exact (show False from r).elim
 | some u=>exact⟨u,rfl,r⟩
theorem RelO.none_of(r:RelO none o):o=none:=by
 cases o with
 | none=>rfl
 | some u=>exact (show False from r).elim
theorem Q6r(r:RelV v u):PySem.W.handedIn u=true:=by
 cases v with
 | non=>cases (show u=Value.none from r);rfl
 | bl b=>cases (show u=Value.bool b from r);rfl
 | int i=>obtain⟨t,e⟩:=(show ∃ t,u=Value.int i t from r);cases e;rfl
 | str x=>obtain⟨t,e⟩:=(show ∃ t,u=Value.str x t from r);cases e;rfl
 | byt b=>obtain⟨t,e⟩:=(show ∃ t,u=Value.bytes b t from r);cases e;rfl
 | flt b=>obtain⟨t,e⟩:=(show ∃ t,u=Value.float b t from r);cases e;rfl
 | ref a=>cases (show u=Value.ref a from r);rfl
 | ty n=>cases (show u=Value.type n from r);rfl
section
variable{P:Program}{w:World}{H H':Hp}{h h':Heap}{a C dx:Addr}{fs fs':List (Str×V)}
theorem Q3m(hok:HOk P w H h)(e:H a=some (.ins C dx fs)):∃ mA,ObjM h a dx C mA/\(∀ f,RelO (fs.lookup f) (mA f))/\PySem.Within mA (fs.map (·.1))/\fs.length<=1000/\H dx=some (.own a):=by
 obtain⟨d,z,ne,ob,mA,n,r,q⟩:=(show ObjOk P w H h a (.ins C dx fs) from hok a _ e);exact⟨mA,⟨ob,n,ne⟩,r,q,z,d⟩
end
structure Cls(K:Frag)(C:Addr):Prop where
 pg:plainGet K C Str.empty=true
 hd:hasDictIn K C=true
 po:plainOver K C=true
 sa:findIn K (.ref C) "__setattr__" = some (some (.builtin "object.__setattr__"))
theorem Cls.get{K:Frag}{C:Addr}(c:Cls K C)(f:Str):plainGet K C f=true:=c.pg
def NoAttr(K:Frag)(C:Addr)(f:Str):Prop:=findIn K (.ref C) f=some none
theorem NoAttr.taker{K:Frag}{C:Addr}{f:Str}(n:NoAttr K C f):PySem.W.takerIn K C f=some none:=by
 unfold PySem.W.takerIn;rw[show findIn K (.ref C) f=some none from n];rfl
structure Meth(K:Frag)(C:Addr)(m:Str)(f:Addr):Prop where
 at_:findIn K (.ref C) m=some (some (.ref f))
 fn:isFn K (.ref f)=true
 kp:keepIn K (.ref f)=true
section
variable{X:Cx}{pins:List (Addr×Obj)}{σ:St}{H:Hp}{s:Shared}{a C dx:Addr}{fs:List (Str×V)}{f:Str}{v:V}{A:Around}{E:Value->Shared->Prop}
theorem Q5M{Q:Value->Shared->Prop}(I:Inv X pins σ H s)(e:H a=some (.ins C dx fs))(c:Cls X.K C)(n:NoAttr X.K C f)(l:fs.lookup f=some v)
  (h:∀ u s',Inv X pins σ H s'->RelV v u->Q u s'):wpAny (model X.prog X.w) A (getAttr (.ref a) f b) Q E s:=by
 obtain⟨mA,O,r,_,_,_⟩:=Q3m I.hok e;obtain⟨u,hu,ru⟩:=RelO.some_of (v:=v) (o:=mA f) (by rw[<- l];exact r f)
 exact Qag I.kIn O (c.get f) c.hd n hu (Q6r ru) (h u _ (I.tok _) ru)
theorem Q3b{Q:Value×List Value->Shared->Prop}(I:Inv X pins σ H s)(e:H a=some (.ins C dx fs))(c:Cls X.K C)(k:Meth X.K C m g)(l:fs.lookup m=none)
  (h:Q (.ref g,[.ref a]) s):wpAny (model X.prog X.w) A (getMethod (.ref a) m pl) Q E s:=by
 obtain⟨mA,O,r,_,_,_⟩:=Q3m I.hok e;have hn:mA m=none:=RelO.none_of (by rw[<- l];exact r m)
 exact Q8m I.kIn O (c.get m) k.at_ k.fn hn h
theorem Q5N{Q:Unit->Shared->Prop}(I:Inv X pins σ H s)(e:H a=some (.ins C dx fs))(c:Cls X.K C)(n:NoAttr X.K C f)(hl:fs.length<1000)(ry:RelV y u)
  (h:∀ s',Inv X pins σ (upd H a (.ins C dx (putF f y fs))) s'->Q () s'):wpAny (model X.prog X.w) A (setAttr (.ref a) f u) Q E s:=by
 obtain⟨mA,O,r,wi,_,ho⟩:=Q3m I.hok e;have hz:(fs.map (·.1)).length<=sizeLine:=by rw[Zb,ZY];room
 refine Qah I.kIn O c.sa c.po n.taker c.hd wi hz λh' O' sb=>h _ ?_;have hd:∃ o,h'.get? dx=some o:=let ⟨o,_,_,e',_⟩:=O'.ns;⟨o,e'⟩;refine I.write (x:=a) (e:=dx) (by rw[e];exact Yp) (.inr ho) (λb q hb z=>(sb.2 b hb).trans z) hd ?_
 refine⟨by rw[Q0d O.ne];exact ho,?_,O.ne,O'.obj,_,O'.ns,λg=>?_,λg hg=>?_⟩
 ·have:=Q2v f y fs;room
 ·show RelO ((putF f y fs).lookup g) (if g=f then some u else mA g)
  rw[Q2t];by_cases q:g=f
  ·rw[Zg q,Zg q];exact ry
  ·rw[Zd q,Zd q];exact r g
 ·by_cases q:g=f
  ·rw[q];exact (Q2u f y fs).1
  ·refine (Q2u f y fs).2 g (wi g λz=>hg ?_);show (if g=f then some u else mA g)=none
   rw[Zd q];exact z
theorem Inv.made(I:Inv X pins σ H s):Inv X pins σ (upd (upd H s.heap.objs.size (.own (s.heap.objs.size+1))) (s.heap.objs.size+1) (.ins C s.heap.objs.size []))
  {s with heap:=(s.heap.push PySem.W.emptyDict).push (instObj C s.heap.objs.size) }:=by
 have e1:(s.heap.push PySem.W.emptyDict).get? s.heap.objs.size=some PySem.W.emptyDict:=Z0 s.heap rfl;have e2:((s.heap.push PySem.W.emptyDict).push (instObj C s.heap.objs.size)).get? (s.heap.objs.size+1)=some (instObj C s.heap.objs.size):=by
  have:=Z0 (s.heap.push PySem.W.emptyDict) (o:=instObj C s.heap.objs.size) rfl
  rwa [Heap.size_push]at this
 have e3:(s.heap.push PySem.W.emptyDict).Ns s.heap.objs.size (λ_=>none):=⟨PySem.W.emptyDict,#[],_,e1,rfl,(λe he=>absurd he (by simp)),λ_=>rfl⟩
 have I1:=I.laid (a:=s.heap.objs.size) (o:=.own (s.heap.objs.size+1)) (h':=s.heap.push PySem.W.emptyDict) (t':=s.toks) (λb u q=>Zj _ q) (Zq _) ⟨_,e1⟩;refine I1.laid (a:=s.heap.objs.size+1) (o:=.ins C s.heap.objs.size []) (t':=s.toks) (λb u q=>Zj _ q) (le_of_eq (Heap.size_push _ _)) ?_;have ne:s.heap.objs.size≠s.heap.objs.size+1:=ZO (lt_succ_self _);refine⟨by rw[Q0d ne,Q0g],ZI _,ne,e2,λ_=>none,(Heap.Ns1.of_empty e3).at λo q=>Zj _ q,λ_=>Yp,λy hy=>absurd rfl hy⟩
theorem Qai{Q:Value->Shared->Prop}(hb:attributeBase e f env (eval e env)=eval e env)
  (h:wpAny (model prog w) A (eval e env) (λo s₁=>wpAny (model prog w) A (getAttr o f true) Q E s₁) E s):wpAny (model prog w) A (eval (.Attribute e f pos) env) Q E s :=
 Attribute_any_ h (by rw[arm_eval_Attribute,hb])
end
def tFld(K:Frag)(ta:TE)(f:Str):TE:=λσ H Q=>ta σ H λx H1=>∃ a C dx fs v,x=.ref a/\H1 a=some (.ins C dx fs)/\Cls K C/\NoAttr K C f/\fs.lookup f=some v/\Q v H1
def sFld(K:Frag)(ta tv:TE)(f:Str):TS:=λD σ H=>tv σ H λy H1=>ta σ H1 λx H2=>∃ a C dx fs,x=.ref a/\H2 a=some (.ins C dx fs)/\Cls K C/\NoAttr K C f/\fs.length<1000 /\
 D.nx σ (upd H2 a (.ins C dx (putF f y fs)))
section
variable{X:Cx}{o e value:Expr}{f:Str}{pos pos' tpos:Pos}{ta tv:TE}
theorem QbW(he:PE X e ta)(hb:attributeBase e f X.env (eval e X.env)=eval e X.env):PE X (.Attribute e f pos) (tFld X.K ta f):=by
 intro pins s σ H Q I h;refine Qai hb (thn (he pins s σ H _ I h) λu s1 zz=>?_);obtain⟨x,H1,I1,rx,a,C,dx,fs,v,ex,ea,c,n,l,q⟩:=zz;subst ex;obtain rfl:u=Value.ref a:=rx;exact Q5M I1 ea c n l λu' s2 I2 ru=>⟨v,H1,I2,ru,q⟩
theorem QbX(ha:PE X o ta)(hv:PE X value tv)(hs:swapsWith value (some (.Attribute o f pos')) pos.line X.env=pure false):PS X (.Assign [.Attribute o f pos'] value pos) (sFld X.K ta tv f):=by
 intro pins s σ H D I h;refine plainObj_wpAny_Assign_Attribute (thn (hv pins s σ H _ I h) λu s1 ⟨y,H1,I1,ry,q⟩=>thn (ha pins s1 σ H1 _ I1 q) λov s2 zz=>?_) hs;obtain⟨x,H2,I2,rx,a,C,dx,fs,ex,ea,c,n,l,q2⟩:=zz;subst ex;obtain rfl:ov=Value.ref a:=rx;exact Q5N I2 ea c n l ry λs3 I3=>⟨σ,_,I3,q2⟩
end
section
variable{X:Cx}{pins:List (Addr×Obj)}{σ:St}{H:Hp}{s:Shared}{A:Around}{E:Value->Shared->Prop}{Q:Value->Shared->Prop}{c:Value}{b:Bool}
inductive TyOf(K:Frag)(H:Hp):V->Value->Prop where
 | non:TyOf K H .non (.type "NoneType")
 | bl (x:Bool):TyOf K H (.bl x) (.type "bool")
 | int (i:Int):TyOf K H (.int i) (.type "int")
 | str (x:Str):TyOf K H (.str x) (.type "str")
 | flt (x:UInt64):TyOf K H (.flt x) (.type "float")
 | lst {a:Addr} {xs:List V} (e:H a=some (.lst xs)):TyOf K H (.ref a) (.type "list")
 | frz {a:Addr} {o:Obj} {xs:List V} (e:H a=some (.frz o (.lst xs))):TyOf K H (.ref a) (.type "list")
 | tup {a:Addr} {xs:List V} (e:H a=some (.tup xs)):TyOf K H (.ref a) (.type "tuple")
 | dK {a:Addr} {kvs:List (Key×V)} (e:H a=some (.dK kvs)):TyOf K H (.ref a) (.type "dict")
 | dT {a:Addr} {kvs:List (List Key×V)} (e:H a=some (.dT kvs)):TyOf K H (.ref a) (.type "dict")
 | ins {a C dx:Addr} {fs:List (Str×V)} (e:H a=some (.ins C dx fs)) (cl:Cls K C) (ha:findIn K (.ref C) "__class__" = some (some (.builtin "object.__class__")))
   (hn:PySem.W.specialIn K (.builtin "object.__class__") "__get__" = some (some (.builtin "getset_descriptor.__get__"))) (htk:PySem.W.takesIn K (.builtin "object.__class__")=some true)
   (hm:PySem.W.mroIn K C (.type "object")=some true):TyOf K H (.ref a) (.ref C)
theorem Q1n(I:Inv X pins σ H s)(rx:RelV x u)(ty:TyOf X.K H x t)(e:kitOne X.K t c=some b)(h:∀ tk,Q (.bool b) { s with toks:=tk }) :
  wpAny (model X.prog X.w) A (call (.builtin "isinstance") [u,c]) Q E s:=by
 cases ty with
 | non=>cases (show u=Value.none from rx);exact kia_one PySem.W.kitx_none I.kIn Yp e (λz=>nomatch z) h
 | bl y=>cases (show u=Value.bool y from rx);exact kia_one PySem.W.kitx_bool I.kIn Yp e (λz=>nomatch z) h
 | int i=>obtain⟨t,q⟩:=(show ∃ t,u=Value.int i t from rx);cases q;exact kia_one PySem.W.kitx_int I.kIn Yp e (λz=>nomatch z) h
 | str y=>obtain⟨t,q⟩:=(show ∃ t,u=Value.str y t from rx);cases q;exact kia_one PySem.W.kitx_str I.kIn Yp e (λz=>nomatch z) h
 | flt y=>obtain⟨t,q⟩:=(show ∃ t,u=Value.float y t from rx);cases q;exact kia_one PySem.W.kitx_float I.kIn Yp e (λz=>nomatch z) h
 | @lst a xs ea =>
  cases (show u=Value.ref a from rx);obtain⟨_,_,n,_,h1⟩:=(show ObjOk X.prog X.w H s.heap a (.lst xs) from I.hok a _ ea);exact kia_one kitx_list I.kIn ⟨_,h1,rfl⟩ e (λz=>nomatch z) h
 | @frz a ob xs ea =>
  cases (show u=Value.ref a from rx);obtain⟨_,_,_,n,_,h1⟩:=(show ObjOk X.prog X.w H s.heap a (.frz ob (.lst xs)) from I.hok a _ ea);exact kia_one kitx_list I.kIn ⟨_,h1,rfl⟩ e (λz=>nomatch z) h
 | @tup a xs ea =>
  cases (show u=Value.ref a from rx);obtain⟨_,_,_,p⟩:=(show ObjOk X.prog X.w H s.heap a (.tup xs) from I.hok a _ ea);obtain⟨o,h1,h2,_⟩:=p;exact kia_one kitx_tuple I.kIn ⟨o,h1,h2⟩ e (λz=>nomatch z) h
 | @dK a kvs ea =>
  cases (show u=Value.ref a from rx);obtain⟨_,_,vs,_,p⟩:=(show ObjOk X.prog X.w H s.heap a (.dK kvs) from I.hok a _ ea);obtain⟨o,es,ep,h1,h2,_⟩:=p;exact kia_one kitx_dict I.kIn ⟨o,h1,h2.1⟩ e (λz=>nomatch z) h
 | @dT a kvs ea =>
  cases (show u=Value.ref a from rx);obtain⟨_,_,xs,_,o,es,ep,h1,h2,_⟩:=(show ObjOk X.prog X.w H s.heap a (.dT kvs) from I.hok a _ ea);exact kia_one kitx_dict I.kIn ⟨o,h1,h2.1⟩ e (λz=>nomatch z) h
 | @ins a C dx fs ea cl ha hn htk hm =>
  cases (show u=Value.ref a from rx);obtain⟨mA,O,_⟩:=Q3m I.hok ea;obtain⟨od,J,_⟩:=O.look;exact kia_one (PySem.W.kitx_own (cl.get _) cl.hd ha hn htk hm) I.kIn J e (λz=>nomatch z) h
end
structure Room(k:Nat)(A:Around):Prop where
 hd:A.handled=none
 dp:A.depth+3 * k+5<recursionLimit
 un:A.units+16 * k+200<cLine
theorem Room.mono(r:Room k A)(h:j<=k):Room j A:=⟨r.hd,by have:=r.dp;room,by have:=r.un;room⟩
theorem Room.deeper(r:Room (k+1) A)(env:Env):Room k (A.deeper env) :=
 ⟨r.hd,by have:=r.dp;show A.depth+1+3 * k+5<_;room,by have:=r.un;show A.units+3+16 * k+200<_;room⟩
theorem Q5O{A:Around}{C:Addr}{us:List Value}{kw:List (Str×Value)}:(A.under (.builtin "type.__call__" ⟨.ref C::us,kw⟩)).depth=A.depth+1:=by
 first | rfl | simp[Around.under,Code.weight,Code.isCreation,Code.isGuard,Code.isCaller,Code.frames,Code.isFrame,guardIds]
theorem Q5P{A:Around}{C:Addr}{us:List Value}{kw:List (Str×Value)}:(A.under (.builtin "type.__call__" ⟨.ref C::us,kw⟩)).units=A.units+1:=by
 first | rfl | simp[Around.under,Code.cUnits,Code.frames,Code.isFrame]
theorem Room.make(r:Room (k+1) A)(C:Addr)(us:List Value)(kw:List (Str×Value)):Room k (A.under (.builtin "type.__call__" ⟨.ref C::us,kw⟩)) :=
 ⟨r.hd,by have:=r.dp;rw[Q5O];room,by have:=r.un;rw[Q5P];room⟩
theorem Room.depth(r:Room k A):A.depth<recursionLimit:=by have:=r.dp;room
def tNil:TA:=λ_ H Q=>Q [] H
def tCons(ta:TE)(tr:TA):TA:=λσ H Q=>ta σ H λx H1=>tr σ H1 λxs H2=>Q (x::xs) H2
section
variable{X:Cx}{e:Expr}{es:List Expr}{te:TE}{t:TA}{pos:Pos}
theorem Q9K:PA X [] tNil:=λ_ _ _ _ H Q I h=>Calls.spliced_nil ⟨[],H,I,.nil,h⟩
theorem Q4C(ha:PE X e te)(hr:PA X es t)(hs:starEach (e::es) X.env=(false,eval e X.env)::starEach es X.env:=by rfl):PA X (e::es) (tCons te t):=by
 intro pos pins s σ H Q I h;rw[hs];show wpAny _ _ (spliced ((false,eval e X.env)::backTo pos (starEach es X.env))) _ _ s;refine Yi (thn (ha pins s σ H _ I h) λu s1 ⟨x,H1,I1,r1,q1⟩=>?_);exact thn (hr pos pins s1 σ H1 _ I1 q1) λus s2 ⟨xs,H2,I2,r2,q2⟩=>⟨x::xs,H2,I2,.cons r1 r2,q2⟩
def tTup(t:TA):TE:=λσ H Q=>t σ H λxs H1=>xs.length<=sizeLine/\∀ p,H1 p=none->Q (.ref p) (upd H1 p (.tup xs))
def tLst(t:TA):TE:=λσ H Q=>t σ H λxs H1=>xs.length<=sizeLine/\∀ p,H1 p=none->Q (.ref p) (upd H1 p (.lst xs))
theorem QbY{x1}(h:PA X es t):PE X (.Tuple es x1 pos) (tTup t):=by
 intro pins s σ H Q I hq;refine wpAny_Tuple_spliced (thn (h pos pins s σ H _ I hq) λus s1 ⟨xs,H1,I1,r,z,q⟩=>⟨by rw[<- r.length];exact z,?_⟩)
 have hf:H1 s1.heap.objs.size=none:=I1.hok.fresh (Zq _);refine⟨.ref s1.heap.objs.size,upd H1 s1.heap.objs.size (.tup xs),I1.laid (t':=s1.toks) (λb u e=>Zj _ e) (Zq _) ?_,rfl,q _ hf⟩;exact⟨z,us,r,⟨_,Z0 _ rfl,rfl,_,rfl⟩⟩
theorem Q9L(h:PA X es t):PE X (.List es pos) (tLst t):=by
 intro pins s σ H Q I hq;refine wpAny_List_spliced (thn (h pos pins s σ H _ I hq) λus s1 ⟨xs,H1,I1,r,z,q⟩=>⟨by rw[<- r.length];exact z,?_⟩)
 have hf:H1 s1.heap.objs.size=none:=I1.hok.fresh (Zq _);refine⟨.ref s1.heap.objs.size,upd H1 s1.heap.objs.size (.lst xs),I1.laid (t':=s1.toks) (λb u e=>Zj _ e) (Zq _) ?_,rfl,q _ hf⟩;exact⟨z,us,0,r,Z0 _ rfl⟩
end
noncomputable abbrev Sp:=List V->Hp->VK->XK->Prop
noncomputable abbrev CXT:=List Env->Hp->Shared->XK->Value->Shared->Prop
structure Env0(P:Program)(w:World)(K:Frag)(mg:Str->Option Value)(base:Heap)(A:Around)(outer:List Env)(s:Shared)(H:Hp):Prop where
 frames:A.frames=some outer
 mod:Mod K mg base
 bs:∀ b o,base.get? b=some o->s.heap.get? b=some o/\H b=none
 bsz:base.objs.size<=s.heap.objs.size
 funs:s.heap.FunFrames base outer
 frf:∀ b∈frs outer,H b=none
 hok:HOk P w H s.heap
 bare:AllBare s.gens
def CE(outer:List Env)(P:Program)(w:World)(H:Hp)(s:Shared)(Q:VK)(u:Value)(s':Shared):Prop :=
 ∃ v H',s'.os=s.os/\AllBare s'.gens/\Un (frs outer) [] H H' s.heap s'.heap/\HOk P w H' s'.heap/\RelV v u/\Q v H'
def CR(CX:CXT)(outer:List Env)(P:Program)(w:World)(H:Hp)(s:Shared)(Q:VK)(E:XK)(r:Result)(s':Shared):Prop :=
 match r with
 | .ok (.ret u)=>CE outer P w H s Q u s'
 | .ok _=>False
 | .error e=>CX outer H s E e s'
structure FnOk(P:Program)(w:World)(K:Frag)(mg:Str->Option Value)(base:Heap)(CX:CXT)(k:Nat)(f:Addr)(fd:FuncData)(ps:List Str)(sp:Sp):Prop where
 len:∀ vs H Q E,sp vs H Q E->vs.length=ps.length
 run:∀ (A:Around) (outer:List Env) (s:Shared) (H:Hp) (args:Args) (us:List Value) (vs:List V) (Q:VK) (E:XK),Room k A->Env0 P w K mg base A outer s H->BindsTo s fd args (ps.zip us)->Vals vs us->sp vs H Q E ->
  codeAny (model P w) A (.call (.ref f) args) (CR CX outer P w H s Q E) s
theorem Env0.make{P:Program}{w:World}{K:Frag}{mg:Str->Option Value}{base:Heap}{A:Around}{outer:List Env}{s:Shared}{H:Hp}(e:Env0 P w K mg base A outer s H)(C:Addr)(us:List Value)(kw:List (Str×Value)) :
  Env0 P w K mg base (A.under (.builtin "type.__call__" ⟨.ref C::us,kw⟩)) outer s H:=⟨by first | exact e.frames | (simpa[Around.under,Code.envs,Code.isFrame,pushEnvs]using e.frames),e.mod,e.bs,e.bsz,e.funs,e.frf,e.hok,e.bare⟩
section
variable{X:Cx}{pins:List (Addr×Obj)}{σ:St}{H:Hp}{s s':Shared}
theorem Inv.env0(I:Inv X pins σ H s):Env0 X.prog X.w X.K X.mg X.base X.A X.stack s H :=
 ⟨I.ok.frames,I.ok.mod,I.bs,Zr I.ok.bsz I.sz,I.stack,I.stkFree,I.hok,I.bare⟩
theorem Inv.after(I:Inv X pins σ H s)(h:CE X.stack X.prog X.w H s Q u s'):EP X pins σ Q u s':=by
 obtain⟨v,H',os,bare,un,hok,r,q⟩:=h;obtain⟨hh,g,d,t,os'⟩:=s';obtain rfl:os'=s.os:=os;exact⟨v,H',I.call (h':=hh) (g':=g) (d':=d) (t':=t) (ch:=[]) un hok bare (λb z=>absurd z (by simp)),r,q⟩
end
def tCall(sp:Sp)(dvs:List V)(E:XK)(t:TA):TE:=λσ H Q=>t σ H λvs H1=>sp (vs++dvs) H1 Q E
def tMeth(C:Addr)(m:Str)(sp:Sp)(dvs:List V)(E:XK)(ta:TE)(t:TA):TE:=λσ H Q=>ta σ H λx H1=>∃ a dx fs,x=.ref a/\H1 a=some (.ins C dx fs)/\fs.lookup m=none /\
 t σ H1 λvs H2=>sp (x::(vs++dvs)) H2 Q E
def tMake(C:Addr)(sp:Sp)(dvs:List V)(E:XK)(t:TA):TE:=λσ H Q=>t σ H λvs H1=>∀ x dx,H1 x=none->H1 dx=none->dx≠x ->
 sp (.ref x::(vs++dvs)) (upd (upd H1 dx (.own x)) x (.ins C dx [])) (λv H2=>v=.non/\Q (.ref x) H2) E
def Binds(K:Frag)(fd:FuncData)(ps:List Str)(ds:List Value):Prop :=
 ∀ (s:Shared) (us:List Value),K.In s.heap->(us++ds).length=ps.length->BindsTo s fd ⟨us,[]⟩ (ps.zip (us++ds))
theorem Binds.all{K:Frag}{fd:FuncData}{ps:List Str}(h:∀ us:List Value,us.length=ps.length->bindArgs fd ⟨us,[]⟩=pure (ps.zip us)):Binds K fd ps []:=λs us _ hl=>by
 rw[Y2]at hl ⊢;exact .of_eq (h us hl)
def zay(CX:CXT)(X:Cx)(E:XK):Prop:=∀ (pins:List (Addr×Obj)) (σ:St) (H:Hp) (s:Shared) (e:Value) (s':Shared),Inv X pins σ H s->CX X.stack H s E e s'->X.xe e s'
section
variable{X:Cx}{CX:CXT}{k:Nat}{f C:Addr}{fd:FuncData}{ps:List Str}{sp:Sp}{dvs:List V}{ds:List Value}{E:XK}{x m:Str}{p pos apos:Pos}{e o:Expr}{es:List Expr}{ta:TE}{t:TA}
theorem Q6s(F:FnOk X.prog X.w X.K X.mg X.base CX k f fd ps sp)(hr:Room k X.A)(hb:Binds X.K fd ps ds)(hd:Vals dvs ds)(hx:zay CX X E)
  (I:Inv X pins σ H s) (r:Vals vs us) (h:sp (vs++dvs) H Q E):wpAny (model X.prog X.w) X.A (call (.ref f) us) (EP X pins σ Q) X.xe s:=by
 have r2:Vals (vs++dvs) (us++ds):=r.append hd;have hl:(us++ds).length=ps.length:=by rw[<- r2.length];exact F.len _ _ _ _ h
 refine wpAny_call (codeAny_mono (F.run X.A X.stack s H ⟨us,[]⟩ (us++ds) (vs++dvs) Q E hr I.env0 (hb s us I.kIn hl) r2 h) λr s' hq=>?_);cases r with
 | error e=>exact hx pins σ H s e s' I hq
 | ok fl =>
  cases fl with
  | ret u=>exact I.after hq
  | next=>exact False.elim hq
  | brk=>exact False.elim hq
  | cont=>exact False.elim hq
theorem Qaj(F:FnOk X.prog X.w X.K X.mg X.base CX k f fd ps sp)(hr:Room k X.A)(hg:Gl X x)(hm:X.mg x=some (.ref f))(hk:keepIn X.K (.ref f)=true)(hb:Binds X.K fd ps ds)(hd:Vals dvs ds)(hx:zay CX X E)
  (ha:PA X (e::es) t) (hdb:(x==("__debug__" : Str))=false:=by decide) (he:starEach (e::es) X.env=(false,eval e X.env)::starEach es X.env:=by rfl) (hpl:(backTo pos (starEach es X.env)).any (·.1)=false:=by rfl) :
  PE X (.Call (.Name x p) (e::es) [] pos) (tCall sp dvs E t):=by
 intro pins s σ H Q I h;refine wpAny_Call_Name_kw (Q4B I hg hm ?_ hdb);refine callWith_K (h₀:=X.base) I.ok.mod.kin hk (thn (ha pos pins s σ H _ I h) λus s1 ⟨vs,H1,I1,r,q⟩=>⟨I1.kIn,?_⟩) he hpl;exact Q6s F hr hb hd hx I1 r q
theorem Qak{pl:Sem Bool}(he:PE X o ta)(c:Cls X.K C)(hm:Meth X.K C m f)(F:FnOk X.prog X.w X.K X.mg X.base CX k f fd ps sp)(hr:Room k X.A)(hb:Binds X.K fd ps ds)(hd:Vals dvs ds)(hx:zay CX X E)(ha:PA X (e::es) t)
  (hst:starEach (e::es) X.env=(false,eval e X.env)::starEach es X.env:=by rfl) (hpl:(backTo pos (starEach es X.env)).any (·.1)=false:=by rfl)
  (ht:eval (.Call (.Attribute o m apos) (e::es) [] pos) X.env=(do
   let ov <- eval o X.env
   standAt apos.atName
   let (f,first) <- holding [ov] (getMethod ov m pl)
   callWith pos f first (backTo pos (starEach (e::es) X.env)) (backToKw pos (keywordEach [] X.env))):=by rfl) :
  PE X (.Call (.Attribute o m apos) (e::es) [] pos) (tMeth C m sp dvs E ta t):=by
 intro pins s σ H Q I h;refine methodCall_KW (pl:=pl) (thn (he pins s σ H _ I h) λu s1 zz=>?_) ht;obtain⟨x,H1,I1,rx,a,dx,fs,ex,ea,l,q⟩:=zz;subst ex;obtain rfl:u=Value.ref a:=rx;refine Q3b I1 ea c hm l ?_;refine callWith_K (first:=[.ref a]) (h₀:=X.base) I.ok.mod.kin hm.kp (thn (ha pos pins s1 σ H1 _ I1 q) λus s2 ⟨vs,H2,I2,r,q2⟩=>⟨I2.kIn,?_⟩) hst hpl
 exact Q6s (us:=.ref a::us) (vs:=.ref a::vs) F hr hb hd hx I2 (.cons rfl r) q2
theorem Q8o(he:PE X o ta)(c:Cls X.K C)(hm:Meth X.K C m f)(F:FnOk X.prog X.w X.K X.mg X.base CX k f fd ps sp)(hr:Room k X.A)(hb:Binds X.K fd ps ds)(hd:Vals dvs ds)(hx:zay CX X E)
  (ht:eval (.Call (.Attribute o m apos) [] [] pos) X.env=(do
   let ov <- eval o X.env
   standAt apos.atName
   let (f,first) <- holding [ov] (getMethod ov m pl)
   callWith pos f first (backTo pos (starEach [] X.env)) (backToKw pos (keywordEach [] X.env))):=by rfl) :
  PE X (.Call (.Attribute o m apos) [] [] pos) (tMeth C m sp dvs E ta tNil):=by
 intro pins s σ H Q I h;refine methodCall_KW (pl:=pl) (thn (he pins s σ H _ I h) λu s1 zz=>?_) ht;obtain⟨x,H1,I1,rx,a,dx,fs,ex,ea,l,q⟩:=zz;subst ex;obtain rfl:u=Value.ref a:=rx;refine Q3b I1 ea c hm l ?_;exact PySem.W.callWith_K0 (first:=[.ref a]) I1.kIn hm.kp (Q6s (us:=[.ref a]) (vs:=[.ref a]) F hr hb hd hx I1 (.cons rfl .nil) q)
structure Mk(K:Frag)(C f:Addr):Prop where
 makes:makesIn K C=true
 init:findIn K (.ref C) "__init__" = some (some (.ref f))
 fn:isFn K (.ref f)=true
 kp:keepIn K (.ref C)=true
theorem Q8p(M:Mk X.K C f)(F:FnOk X.prog X.w X.K X.mg X.base CX k f fd ps sp)(hr:Room (k+1) X.A)(hb:Binds X.K fd ps ds)(hd:Vals dvs ds)
  (hx:zay CX X E) (I:Inv X pins σ H s) (r:Vals vs us)
  (h:∀ x dx,H x=none->H dx=none->dx≠x->sp (.ref x::(vs++dvs)) (upd (upd H dx (.own x)) x (.ins C dx [])) (λv H2=>v=.non/\Q (.ref x) H2) E) :
  wpAny (model X.prog X.w) X.A (call (.ref C) us) (EP X pins σ Q) X.xe s:=by
 have hq:=h (s.heap.objs.size+1) s.heap.objs.size (I.hok.fresh (le_succ _)) (I.hok.fresh (Zq _)) (ZO (lt_succ_self _));have I2:=Inv.made (C:=C) I;have r2:Vals (V.ref (s.heap.objs.size+1)::(vs++dvs)) (Value.ref (s.heap.objs.size+1)::(us++ds)):=.cons rfl (r.append hd);have hl:(Value.ref (s.heap.objs.size+1)::us++ds).length=ps.length:=by
  have e:=r2.length;rw[F.len _ _ _ _ hq]at e;exact e.symm
 refine wpAny_call (Q8n (f:=f) I.kIn M.makes M.init (Z5.mp M.fn) (codeAny_mono (F.run _ X.stack _ _ ⟨Value.ref (s.heap.objs.size+1)::us,[]⟩ (Value.ref (s.heap.objs.size+1)::(us++ds)) _ _ E (hr.make C us [])
  (I2.env0.make C us []) (hb _ (Value.ref (s.heap.objs.size+1)::us) I2.kIn hl) r2 hq) λr s' hq'=>?_))
 cases r with
 | error e=>exact hx pins σ _ _ e s' I2 hq'
 | ok fl =>
  cases fl with
  | ret u =>
   obtain⟨v,H',I3,rv,ev,q3⟩:=I2.after hq';subst ev;exact⟨rv,⟨V.ref (s.heap.objs.size+1),H',I3,rfl,q3⟩⟩
  | next=>exact False.elim hq'
  | brk=>exact False.elim hq'
  | cont=>exact False.elim hq'
theorem Qal(M:Mk X.K C f)(F:FnOk X.prog X.w X.K X.mg X.base CX k f fd ps sp)(hr:Room (k+1) X.A)(hg:Gl X x)(hm:X.mg x=some (.ref C))(hb:Binds X.K fd ps ds)(hd:Vals dvs ds)(hx:zay CX X E)
  (ha:PA X (e::es) t) (hdb:(x==("__debug__" : Str))=false:=by decide) (he:starEach (e::es) X.env=(false,eval e X.env)::starEach es X.env:=by rfl) (hpl:(backTo pos (starEach es X.env)).any (·.1)=false:=by rfl) :
  PE X (.Call (.Name x p) (e::es) [] pos) (tMake C sp dvs E t):=by
 intro pins s σ H Q I h;refine wpAny_Call_Name_kw (Q4B I hg hm ?_ hdb);refine callWith_K (h₀:=X.base) I.ok.mod.kin M.kp (thn (ha pos pins s σ H _ I h) λus s1 ⟨vs,H1,I1,r,q⟩=>⟨I1.kIn,?_⟩) he hpl;exact Q8p M F hr hb hd hx I1 r q
end
def PK(X:Cx)(kws:List Keyword)(t:TA):Prop :=
 ∀ (pos:Pos) (pins:List (Addr×Obj)) (s:Shared) (σ:St) (H:Hp) (Q:List V->Hp->Prop),Inv X pins σ H s->t σ H Q->wpAny (model X.prog X.w) X.A (evalAll ((backToKw pos (keywordEach kws X.env)).map (·.2))) (AP X pins σ Q) X.xe s
section
variable{X:Cx}{CX:CXT}{k:Nat}{f C:Addr}{fd:FuncData}{ps ks:List Str}{sp:Sp}{E:XK}{x m:Str}{p pos apos kpos:Pos}{e o:Expr}{es:List Expr}{kws:List Keyword}{te ta:TE}{t tk:TA}{nm:Option Str}
theorem QbZ:PK X [] tNil:=λ_ _ _ _ H Q I h=>wpAny_evalAll_nil ⟨[],H,I,.nil,h⟩
theorem Qam(ha:PE X e te)(hr:PK X kws t):PK X (⟨nm,e,kpos⟩::kws) (tCons te t):=by
 intro pos pins s σ H Q I h;show wpAny _ _ (evalAll ((do let v <- eval e X.env;standAt pos;pure v)::(backToKw pos (keywordEach kws X.env)).map (·.2))) _ _ s
 refine wpAny_evalAll_cons (Za (thn (ha pins s σ H _ I h) λu s1 ⟨x,H1,I1,r1,q1⟩=>Za (wpAny_standAt (Zc ?_))));exact thn (hr pos pins s1 σ H1 _ I1 q1) λus s2 ⟨xs,H2,I2,r2,q2⟩=>⟨x::xs,H2,I2,.cons r1 r2,q2⟩
structure zc0(K:Frag)(fd:FuncData)(ps ks:List Str)(g:List Value->List Value->List Value)(gV:List V->List V->List V):Prop where
 to:∀ (s:Shared) (us ws:List Value),K.In s.heap->(g us ws).length=ps.length->BindsTo s fd ⟨us,ks.zip ws⟩ (ps.zip (g us ws))
 rel:∀ {vs:List V} {us:List Value} {zs:List V} {ws:List Value},Vals vs us->Vals zs ws->Vals (gV vs zs) (g us ws)
variable{g:List Value->List Value->List Value}{gV:List V->List V->List V}
end
structure zaT(N P:List Str)(sc:Scope):Prop where
 kind:sc.kind=.function
 co:sc.isCoroutine=false
 gen:sc.isGenerator=false
 nd:N.Nodup
 pre:N.take P.length=P
 par:∀ x∈P,sc.names.lookup x=some .local\/sc.names.lookup x=some .cell
 nofree:∀ y∈sc.names,y.2≠.free
theorem Q3J{kindOf:Str->Option NameKind}:∀ {binds:List (Str×Value)} {m:Str->Option Value},(∀ v,(x,v)∉binds)->bindL kindOf binds m x=m x
 | [],_,_=>rfl
 | (n,v)::r,m,h=>by
  unfold bindL;rw[Q3J λw hw=>h w (Zo _ hw)];split
  ·have:x≠n:=by rintro rfl;exact h v Zp
   simp[this]
  ·rfl
theorem Q3K{kindOf:Str->Option NameKind}:∀ {binds:List (Str×Value)} {m:Str->Option Value},(∀ v,(x,v)∉binds)->bindC kindOf binds m x=m x
 | [],_,_=>rfl
 | (n,v)::r,m,h=>by
  unfold bindC;rw[Q3K λw hw=>h w (Zo _ hw)];split
  ·rfl
  ·have:x≠n:=by rintro rfl;exact h v Zp
   simp[this]
theorem Q3L{kindOf:Str->Option NameKind}:∀ {P:List Str} {vs:List Value} {i:Nat} {m:Str->Option Value},P.Nodup->P[i]? = some x->vs[i]? = some v->kindOf x=some .local ->
  bindL kindOf (P.zip vs) m x=some v
 | [],_,_,_,_,h,_,_=>by simp at h
 | _::_,[],_,_,_,_,h,_=>by simp at h
 | p::P,w::vs,0,m,nd,h1,h2,hk=>by
  simp at h1 h2;subst h1;subst h2;show bindL kindOf ((p,w)::P.zip vs) m p=_;unfold bindL;rw[Q3J λv hv=>(Yw.mp nd).1 (of_mem_zip hv).1,Zg hk];simp
 | p::P,w::vs,i+1,m,nd,h1,h2,hk=>by
  show bindL kindOf ((p,w)::P.zip vs) m x=_;unfold bindL;exact Q3L (i:=i) (Yw.mp nd).2 (by simpa using h1) (by simpa using h2) hk
theorem Q3M{kindOf:Str->Option NameKind}:∀ {P:List Str} {vs:List Value} {i:Nat} {m:Str->Option Value},P.Nodup->P[i]? = some x->vs[i]? = some v->kindOf x≠some .local ->
  bindC kindOf (P.zip vs) m x=some v
 | [],_,_,_,_,h,_,_=>by simp at h
 | _::_,[],_,_,_,_,h,_=>by simp at h
 | p::P,w::vs,0,m,nd,h1,h2,hk=>by
  simp at h1 h2;subst h1;subst h2;show bindC kindOf ((p,w)::P.zip vs) m p=_;unfold bindC;rw[Q3K λv hv=>(Yw.mp nd).1 (of_mem_zip hv).1,Zd hk];simp
 | p::P,w::vs,i+1,m,nd,h1,h2,hk=>by
  show bindC kindOf ((p,w)::P.zip vs) m x=_;unfold bindC;exact Q3M (i:=i) (Yw.mp nd).2 (by simpa using h1) (by simpa using h2) hk
noncomputable def start(N:List Str)(vs:List V):St:=vs.map some++List.replicate (N.length-vs.length) none
noncomputable def cxOf(CX:CXT)(P:Program)(w:World)(K:Frag)(mg:Str->Option Value)(base:Heap)(N:List Str)(qual:Str)(scope:Scope)(f:Addr)(cd:Value)(A:Around)(outer:List Env)(s:Shared)(H:Hp)(E:XK):Cx where
 prog:=P
 w:=w
 K:=K
 mg:=mg
 base:=base
 A:=A.deeper (envOfC qual scope s.heap.objs.size f cd)
 N:=N
 s₀:=s
 H₀:=H
 env:=envOfC qual scope s.heap.objs.size f cd
 outer:=outer
 stack:=envOfC qual scope s.heap.objs.size f cd::outer
 ex:=[]
 calm:=true
 fn:=λ_=>true
 pn:=[]
 xe:=λe s'=>wpAny (model P w) (A.deeper (envOfC qual scope s.heap.objs.size f cd)) (leaving (envOfC qual scope s.heap.objs.size f cd) e) (λ_ s''=>CX outer H s E e s'') (λe' s''=>CX outer H s E e' s'') s'
theorem Q5b{sc:Scope}{n:Nat}{x:Str}(h:sc.names.lookup x=some .cell):∃ c,(cellsFrom n sc.names []).lookup x=some c:=by
 have q:=PySem.W.cellsFrom_some sc.names n [] (.inl h);exact Z3.mp q
theorem Q6t{CX:CXT}{P:Program}{w:World}{K:Frag}{mg:Str->Option Value}{base:Heap}{N ps:List Str}{qual:Str}{scope:Scope}{f:Addr}{cd:Value}{A:Around}{outer:List Env}{s s1:Shared}{H:Hp}{E:XK}{us:List Value}{vs:List V}
  (S:zaT N ps scope) (hd:A.handled=none) (e0:Env0 P w K mg base A outer s H) (hl:vs.length=ps.length) (r:Vals vs us)
  (x:InCallC s s.heap.objs.size (bindL (envOfC qual scope s.heap.objs.size f cd).kindOf (ps.zip us) λ_=>none) (cellsFrom (s.heap.objs.size+1) scope.names []) (bindC (envOfC qual scope s.heap.objs.size f cd).kindOf (ps.zip us) λ_=>none) s1) :
  Inv (cxOf CX P w K mg base N qual scope f cd A outer s H E) [] (start N vs) H s1:=by
 have hpl:ps.length<=N.length:=by have:=congrArg List.length S.pre;rw[Zz]at this;room
 obtain⟨h1,tk,rfl,hk⟩:=x.done;have noA:∀ b:Addr,b∉(cxOf CX P w K mg base N qual scope f cd A outer s H E).ex:=λb z=>absurd (show b∈([]:List Addr) from z) (by simp)
 refine⟨⟨e0.mod,S.kind,rfl,rfl,Zq _,λy z c h1 h2=>?_,λy hy=>?_,λy c _ h=>?_,λ_=>hd,Around.frames_deeper e0.frames,.inr ⟨rfl,rfl⟩,λb z=>absurd z (noA b),e0.bs,e0.bsz,λb _ _=>noA b,λb z=>absurd z (noA b),e0.funs,e0.frf⟩,
  rfl,e0.bare,Un.kept hk,⟨_,x.toInCall.ns,λi y v h1 h2 h3=>?_⟩,λy c h=>⟨_,x.cell y c h⟩,e0.hok.fresh (Zq _),λy c h=>?_,λp hp=>absurd (show p∈([]:List (Addr×Obj)) from hp) (by simp),e0.hok.kept hk,?_⟩
 ·exact name_of_addr x.apart (PySem.mem_of_lookup h1) (PySem.mem_of_lookup h2)
 ·have hy:scope.names.lookup y=some .cell\/scope.names.lookup y=some .free:=hy;rcases hy with hy | hy
  ·exact Q5b hy
  ·exact absurd rfl (S.nofree _ (PySem.mem_of_lookup hy))
 ·exact le_of_lt (x.above y c (PySem.mem_of_lookup h))
 ·have hi:i<vs.length:=by
   unfold start at h2;by_cases hi:i<vs.length
   ·exact hi
   ·rw[ZK (by simpa using hi)]at h2
    rw[List.getElem?_replicate]at h2;split at h2 <;> cases h2
  have ha:vs[i]? = some v:=by
   unfold start at h2;rw[ZZ (by simpa using hi),Zx]at h2
   cases e:vs[i]? with
   | none=>rw[e]at h2;cases h2
   | some a=>rw[e]at h2;cases h2;rfl
  obtain⟨u,hu,rv⟩:=r.get ha;have hp:ps[i]? = some y:=by
   rw[<- S.pre,List.getElem?_take_of_lt (by room)];exact h1
  have ndP:ps.Nodup:=by rw[<- S.pre];exact S.nd.sublist (List.take_sublist _ _)
  refine⟨u,rv,?_⟩;rcases S.par y (Z6 hp) with k | k
  ·exact .inl ⟨k,Q3L ndP hp hu k⟩
  ·obtain⟨c,e⟩:=Q5b (n:=s.heap.objs.size+1) k;refine .inr ⟨.inl k,c,e,?_⟩;have q:=x.cell y c e;rw[Q3M ndP hp hu (by show scope.names.lookup y≠_;rw[k];decide)]at q
   exact q
 ·exact e0.hok.fresh (le_of_lt (x.above y c (PySem.mem_of_lookup h)))
 ·unfold start;show _=N.length;rw[Zl,Zb,length_replicate];room
theorem fn_of{CX:CXT}{P:Program}{w:World}{K:Frag}{mg:Str->Option Value}{base:Heap}{k:Nat}{f:Addr}{name qual:Str}{params:Arguments}{body:List Stmt}{scope:Scope}{dV kV doc pm cdv ct oc:Value}{an od:Option Addr}
  {osl:Array (Option Value)} {N ps:List Str} {sp:Sp} (lk:K.lookup f=some ⟨oc,od,.func (fnOf name qual params body scope dV kV doc pm an cdv ct),osl⟩) (hcd:codeIn K cdv qual=true) (S:zaT N ps scope)
  (len:∀ vs H Q E,sp vs H Q E->vs.length=ps.length)
  (hbody:∀ (A:Around) (outer:List Env) (s:Shared) (H:Hp) (vs:List V) (Q:VK) (E:XK),Room k (A.deeper (envOfC qual scope s.heap.objs.size f cdv))->sp vs H Q E ->
   ∃ t,PSs (cxOf CX P w K mg base N qual scope f cdv A outer s H E) body t/\t { nx:=λ_ H'=>Q .non H',rt:=Q } (start N vs) H) :
  FnOk P w K mg base CX (k+1) f (fnOf name qual params body scope dV kV doc pm an cdv ct) ps sp:=by
 refine⟨len,λA outer s H args us vs Q E hr e0 hb r hsp=>?_⟩;have hl:=len _ _ _ _ hsp;have KX:K.In s.heap:=e0.mod.kin.keeps λb o e=>(e0.bs b o e).1;have lim:s.heap.NoLimit:=e0.mod.nolimit.keeps λb o e=>(e0.bs b o e).1;have hkind:∀ y∈ps.zip us,scope.names.lookup y.1=some .local\/(scope.names.lookup y.1=some .cell/\((cellsFrom (s.heap.objs.size+1) scope.names []).lookup y.1).isSome=true):=λ⟨n,v⟩ hy=>by
  rcases S.par n (of_mem_zip hy).1 with q | q
  ·exact .inl q
  ·exact .inr ⟨q,PySem.W.cellsFrom_some _ _ _ (.inl q)⟩
 refine codeAny_call_function hr.depth (KX _ _ lk) rfl S.co S.gen rfl (PySem.W.codeRec_of KX hcd) (hb _ _ _ _ ?_);refine wpAny_newFunctionEnv_cells S.kind hkind λenv he s1 x=>?_;subst he;refine⟨lim.keeps x.toInCall.keep,codeAny_func ?_⟩;obtain⟨t,ht,hq⟩:=hbody A outer s H vs Q E (hr.deeper _) hsp;have I:Inv (cxOf CX P w K mg base N qual scope f cdv A outer s H E) [] (start N vs) H s1:=Q6t S hr.hd e0 hl r x;refine Yv (ht [] s1 (start N vs) H _ I hq) (λfl s' hs=>?_) λe s' hs=>hs;have fin:∀ {σ':St} {H':Hp} {v:V} {u:Value},Inv (cxOf CX P w K mg base N qual scope f cdv A outer s H E) [] σ' H' s'->RelV v u->Q v H'->CE outer P w H s Q u s' :=
  fun{σ' H' v u} J rv q=>⟨v,H',J.os,J.bare,J.base,J.hok,rv,q⟩
 cases fl with
 | ret u =>
  obtain⟨v,σ',H',J,rv,q⟩:=hs;exact fin J rv q
 | next =>
  obtain⟨σ',H',J,q⟩:=hs;exact fin (v:=V.non) (u:=Value.none) J rfl q
 | brk =>
  obtain⟨_,_,_,q⟩:=hs;exact False.elim q
 | cont =>
  obtain⟨_,_,_,q⟩:=hs;exact False.elim q
section
variable{X:Cx}{x:Str}{p pos:Pos}{e:Expr}{es:List Expr}{t:TA}{id T:String}{r:List V->Hp->VK->Prop}
def tCB(r:List V->Hp->VK->Prop)(t:TA):TE:=λσ H Q=>t σ H λvs H1=>r vs H1 Q
theorem Q5c(hc:zbj X (.builtin id) r)(hg:Gl X x)(hm:X.mg x=none)(hv:bootBuiltins x=some (.builtin id))(ha:PA X (e::es) t)(hn:x ≠ "__name__":=by decide)(hdb:(x==("__debug__" : Str))=false:=by decide)
  (he:starEach (e::es) X.env=(false,eval e X.env)::starEach es X.env:=by rfl) (hpl:(backTo pos (starEach es X.env)).any (·.1)=false:=by rfl):PE X (.Call (.Name x p) (e::es) [] pos) (tCB r t):=by
 intro pins s σ H Q I h;refine wpAny_Call_Name_kw (Q3a I hg hm hv ?_ hn hdb);exact PyProof.Rows.callWith_builtin1 (thn (ha pos pins s σ H _ I h) λus s1 ⟨vs,H1,I1,r1,q1⟩=>hc pins s1 σ H1 vs us Q I1 r1 q1) he hpl
theorem Q6u(hc:zbj X (.type T) r)(hg:Gl X x)(hm:X.mg x=none)(hv:bootBuiltins x=some (.type T))(ha:PA X (e::es) t)(hn:x ≠ "__name__":=by decide)(hdb:(x==("__debug__" : Str))=false:=by decide)
  (he:starEach (e::es) X.env=(false,eval e X.env)::starEach es X.env:=by rfl) (hpl:(backTo pos (starEach es X.env)).any (·.1)=false:=by rfl):PE X (.Call (.Name x p) (e::es) [] pos) (tCB r t):=by
 intro pins s σ H Q I h;refine wpAny_Call_Name_kw (Q3a I hg hm hv ?_ hn hdb);exact PyProof.Rows.callWith_type1 (thn (ha pos pins s σ H _ I h) λus s1 ⟨vs,H1,I1,r1,q1⟩=>hc pins s1 σ H1 vs us Q I1 r1 q1) he hpl
end
end L2
namespace HT
open PySem PyProof.Rows
section
open PySem.SeqAt
open PySem.AutoSeq1 (wpAny_loadPart')
open PySem.MeetsSeq PySem.MeetsSeq2 PySem.MeetsSeq3
end
section
variable{prog:Program}{w:World}{A:Around}{E:Value->Shared->Prop}{s:Shared}
noncomputable def sIx(n d:Nat):Option Int->Nat
 | none=>d
 | some v=>if v<0 then (v+(n:Int)).toNat else min v.toNat n
theorem sIx_none(n d:Nat):sIx n d none=d:=rfl
theorem sIx_nat(n d k:Nat):sIx n d (some (k:Int))=min k n:=by
 show (if (k:Int)<0 then ((k:Int)+(n:Int)).toNat else min (k:Int).toNat n)=min k n
 rw[Zd (by room),ZD]
theorem sIx_le(n d:Nat)(hd:d<=n)(o:Option Int):sIx n d o<=n:=by
 cases o with
 | none=>exact hd
 | some v =>
  show (if v<0 then (v+(n:Int)).toNat else min v.toNat n)<=n
  by_cases hv:v<0
  ·rw[Zg hv];room
  ·rw[Zd hv];exact Nat.min_le_right _ _
theorem Q6v(v:Int)(n d:Nat):(if v<0 then max (v+(n:Int)) 0 else min v (n:Int))=((sIx n d (some v):Nat):Int):=by
 show (if v<0 then max (v+(n:Int)) 0 else min v (n:Int))=(((if v<0 then (v+(n:Int)).toNat else min v.toNat n):Nat):Int)
 by_cases hv:v<0
 ·erw[Zg hv];room
 ·erw[Zd hv];room
theorem Q5Q(lo hi:Option Int)(n:Nat):Builtin.Slice.sliceAdjust lo hi 1 (n:Int)=(((sIx n 0 lo:Nat):Int),((sIx n n hi:Nat):Int)):=by
 have h1:¬ ((1:Int)<0):=by room
 unfold Builtin.Slice.sliceAdjust;erw[h1,ZU];refine Prod.ext ?_ ?_
 ·cases lo with
  | none=>rfl
  | some v=>exact Q6v v n 0
 ·cases hi with
  | none=>rfl
  | some v=>exact Q6v v n n
theorem Q5R(i j:Nat):Builtin.Slice.slicePlaces (i:Int) (j:Int) 1=j-i:=by
 unfold Builtin.Slice.slicePlaces;have h1:(1:Int) > 0:=by room
 erw[h1,Yj,Int.ediv_one];split <;> room
theorem Q3c{Q:Option Int->Shared->Prop}(p:IsPart v o)(h:Q o s):wpAny (model prog w) A (Builtin.Slice.slicePartIndex v) Q E s:=by
 cases p with
 | none=>exact slicePart_none h
 | int i t=>exact slicePart_int h
theorem sliceApplied_gen{sl:Addr}{vl vu:Value}{lo hi:Option Int}{n:Nat}{Q:Int×Int×Nat->Shared->Prop}(hs:s.heap.IsSliceOf sl vl vu .none)(pl:IsPart vl lo)(pu:IsPart vu hi)
  (h:Q (((sIx n 0 lo:Nat):Int),1,sIx n n hi-sIx n 0 lo) s):wpAny (model prog w) A (Builtin.Slice.sliceApplied (.ref sl) (pure (n:Int))) Q E s:=by
 obtain⟨os,hos,hcs,hds⟩:=id hs;unfold Builtin.Slice.sliceApplied Builtin.Slice.sliceFields;refine Za (Za (wpAny_field hos hds (x:=vl) rfl (Za (wpAny_field hos hds (x:=vu) rfl (Za (wpAny_field hos hds (x:=.none) rfl (Zc ?_)))))));refine Za (slicePart_none ?_);show wpAny _ _ (if ((1:Int)==0)=true then _ else _) _ _ s
 rw[Zd (by decide)]
 refine Za (Q3c pl (Za (Q3c pu (Za (Zc ?_)))));show wpAny _ _ (match Builtin.Slice.sliceAdjust lo hi 1 (n:Int) with | (lo,hi)=>pure (lo,(1:Int),Builtin.Slice.slicePlaces lo hi 1)) _ _ s
 rw[Q5Q lo hi n];show wpAny _ _ (pure (((sIx n 0 lo:Nat):Int),(1:Int),Builtin.Slice.slicePlaces ((sIx n 0 lo:Nat):Int) ((sIx n n hi:Nat):Int) 1)) _ _ s;rw[Q5R];exact Zc h
theorem Q8q(xs:Array Value)(i k:Nat):((List.range k).filterMap λ(m:Nat)=>xs[((i:Int)+(m:Int) * 1).toNat]?).toArray=((xs.toList.drop i).take k).toArray:=by
 have e:(λ(m:Nat)=>xs[((i:Int)+(m:Int) * 1).toNat]?)=λm=>xs[i+m]?:=by
  funext m
  have:((i:Int)+(m:Int) * 1).toNat=i+m:=by room
  rw[this]
 rw[e];have:=pick_run xs i k;rw[List.filterMap_map]at this;have e2:((λx=>xs[x]?) ∘ λx=>i+x)=λm=>xs[i+m]?:=rfl;rw[e2]at this;rw[this]
theorem getItem_tuple_cut{t sl:Addr}{items:Array Value}{vl vu:Value}{lo hi:Option Int}{Q:Value->Shared->Prop}(ht:IsTup s.heap t items)(hs:s.heap.IsSliceOf sl vl vu .none)(pl:IsPart vl lo)(pu:IsPart vu hi)
  (hw:¬ (sIx items.size 0 lo=0/\sIx items.size items.size hi=items.size))
  (h:Q (.ref s.heap.objs.size) { s with heap:=s.heap.push { cls:=.type "tuple",data:=.seq ((items.toList.drop (sIx items.size 0 lo)).take (sIx items.size items.size hi-sIx items.size 0 lo)).toArray } })
  (hsz:items.size<=sizeLine):wpAny (model prog w) A (getItem (.ref t) (.ref sl)) Q E s:=by
 have htake:sizeOk (.seq ((items.toList.drop (sIx items.size 0 lo)).take (sIx items.size items.size hi-sIx items.size 0 lo)).toArray):=by
  show ((items.toList.drop (sIx items.size 0 lo)).take (sIx items.size items.size hi-sIx items.size 0 lo)).toArray.size<=sizeLine;rw[ZF,Zz,length_drop,Yd];room
 have hj:sIx items.size items.size hi<=items.size:=sIx_le _ _ (Zq _) hi;obtain⟨os,hos,hcs,hds⟩:=id hs;have hTs:s.TypeIs (.ref sl) "slice":=⟨os,hos,hcs⟩;unfold getItem
 try with_reducible refine Yk ?_
 first | refine Za (Zc ?_) | skip
 refine Za (wpAny_sequenceKey ht.typeIs (by decide) ?_)
 refine Za (wpAny_callSpecial?_slot (name:=Str.ofString "__getitem__") ht.typeIs Yg
  (Yu Yg ht.typeIs entry_tuple_getitem ?_ (args_tuple_getitem _ _)))
 show wpAny _ _ (Builtin.Tuple.tupleItemsOf (.ref t) >>= _) _ _ s;refine Za (tupleItemsOf_ ht ?_);refine Za (wpAny_typeOf hTs ?_);rw[Zg (by decide)]
 refine Za (sliceApplied_gen hs pl pu ?_);have hno:¬ ((((sIx items.size 0 lo:Nat):Int)==0&&(1:Int)==1&&(sIx items.size items.size hi-sIx items.size 0 lo)==items.size)=true):=by
  intro q;rw[Zk,Zk]at q;have q1:((sIx items.size 0 lo:Nat):Int)=0:=eq_of_beq q.1.1;have q2:sIx items.size items.size hi-sIx items.size 0 lo=items.size:=eq_of_beq q.2;exact hw ⟨by room,by room⟩
 show wpAny _ _ (if (((sIx items.size 0 lo:Nat):Int)==0&&(1:Int)==1&&(sIx items.size items.size hi-sIx items.size 0 lo)==items.size)=true then _ else _) _ _ s
 rw[Zd hno,Q8q]
 first
  | exact Za (m:=Builtin.Tuple.tupleExact _) (ZQ (Zc ⟨_,rfl,Zc h⟩) htake)
  | exact Za (m:=Builtin.Tuple.tupleExact _) (ZQ (Za (Zc (Zc ⟨_,rfl,Zc h⟩))) htake)
  | exact Za (Za (m:=Builtin.Tuple.tupleExact _) (ZQ (Zc (Zc ⟨_,rfl,Zc h⟩)) htake))
  | exact Za (Za (m:=Builtin.Tuple.tupleExact _) (ZQ (Zc ⟨_,rfl,Zc h⟩) htake))
end
end HT
namespace L2
open PySem PySem.Spec PyProof.Rows
noncomputable abbrev TO:=St->Hp->(Option Int->Hp->Prop)->Prop
def PO(X:Cx)(e:Option Expr)(t:TO):Prop :=
 ∀ (pins:List (Addr×Obj)) (s:Shared) (σ:St) (H:Hp) (Q:Option Int->Hp->Prop),Inv X pins σ H s->t σ H Q ->
  wpAny (model X.prog X.w) X.A (evalPart e X.env) (λu s'=>∃ o H',Inv X pins σ H' s'/\IsPart u o/\Q o H') X.xe s
def tNoPart:TO:=λ_ H Q=>Q none H
def tPart(t:TE):TO:=λσ H Q=>t σ H λx H1=>∃ i,x=.int i/\Q (some i) H1
theorem Q5S:∀ {us:List Value},Vals (ns.map V.int) us->IntsAre us ns:=by
 induction ns with
 | nil=>intro us r;rw[map_nil]at r;cases r;exact .nil
 | cons n ns ih =>
  intro us r;rw[ZC]at r;cases r with
  | cons r1 r2 =>
   obtain⟨t,e⟩:=r1;subst e;exact .cons n t (ih r2)
section
variable{X:Cx}{e:Expr}{te:TE}{lo hi:Option Expr}{tl th:TO}{pos p2:Pos}
theorem Qan:PO X none tNoPart:=by
 intro pins s σ H Q I h;rw[evalPart_none];exact Zc ⟨none,H,I,.none,h⟩
theorem Qao(h:PE X e te):PO X (some e) (tPart te):=by
 intro pins s σ H Q I hw;rw[evalPart_some];refine thn (h pins s σ H _ I hw) λu s1 ⟨x,H1,I1,r1,q1⟩=>?_;obtain⟨i,rfl,q⟩:=q1;obtain⟨t,rfl⟩:=r1;exact⟨some i,H1,I1,.int i t,q⟩
def SlR(X:Cx)(r:V->Option Int->Option Int->Hp->VK->Prop):Prop :=
 ∀ (pins:List (Addr×Obj)) (s:Shared) (σ:St) (H:Hp) (x:V) (v vl vu:Value) (lo hi:Option Int) (sl:Addr) (Q:VK),Inv X pins σ H s->RelV x v->s.heap.IsSliceOf sl vl vu .none->IsPart vl lo->IsPart vu hi->r x lo hi H Q ->
  ∃ T id,typeLookup (.type T) "__getitem__" = pure (some (.builtin id))/\s.TypeIs v T/\wpAny (model X.prog X.w) X.A (getItem v (.ref sl)) (EP X pins σ Q) X.xe s
def tSl(r:V->Option Int->Option Int->Hp->VK->Prop)(te:TE)(tl th:TO):TE:=λσ H Q=>te σ H λx H1=>tl σ H1 λl H2=>th σ H2 λu H3=>r x l u H3 Q
theorem Q8r{r:V->Option Int->Option Int->Hp->VK->Prop}(hr:SlR X r)(he:PE X e te)(hl:PO X lo tl)(hu:PO X hi th):PE X (.Subscript e (.Slice lo hi none p2) pos) (tSl r te tl th):=by
 intro pins s σ H Q I h;refine Subscript_ (thn (he pins s σ H _ I h) λv s1 ⟨x,H1,I1,r1,q1⟩=>?_);refine wpAny_Slice (thn (hl pins s1 σ H1 _ I1 q1) λvl s2 ⟨l,H2,I2,pl,q2⟩=>thn (hu pins s2 σ H2 _ I2 q2) λvu s3 ⟨u,H3,I3,pu,q3⟩=>?_);rw[evalPart_none];refine Zc ?_;have I4:Inv X pins σ H3 { s3 with heap:=s3.heap.push { cls:=.type "slice",data:=.fields #[vl,vu,.none] } }:=I3.kept (t':=s3.toks) λb ob q=>Zj _ q;obtain⟨T,id,hT,ht,hg⟩:=hr pins { s3 with heap:=s3.heap.push { cls:=.type "slice",data:=.fields #[vl,vu,.none] } } σ H3 x v vl vu l u s3.heap.objs.size Q I4 r1 (Heap.IsSliceOf.new ..) pl pu q3;show wpAny (model X.prog X.w) X.A (subscriptTail e (.Slice lo hi none p2) v (.ref s3.heap.objs.size)) (EP X pins σ Q) X.xe { s3 with heap:=s3.heap.push { cls:=.type "slice",data:=.fields #[vl,vu,.none] } };exact tail_any (ops:=[.ref s3.heap.objs.size,v]) ht hT hg (by with_unfolding_all rfl)
noncomputable def cutV(xs:List V)(lo hi:Option Int):List V:=(xs.drop (HT.sIx xs.length 0 lo)).take (HT.sIx xs.length xs.length hi-HT.sIx xs.length 0 lo)
theorem Q2w(xs:List V)(lo hi:Option Int):(cutV xs lo hi).length<=xs.length:=by
 unfold cutV;rw[Zz,length_drop];room
def rSlT(K:Frag):V->Option Int->Option Int->Hp->VK->Prop:=λx lo hi H Q=>∃ a xs,x=.ref a/\SqT K H a xs /\
 ¬ (HT.sIx xs.length 0 lo=0/\HT.sIx xs.length xs.length hi=xs.length)/\∀ p,H p=none->Q (.ref p) (upd H p (.tup (cutV xs lo hi)))
theorem Qc0:SlR X (rSlT X.K):=by
 intro pins s σ H x v vl vu lo hi sl Q I rx hs pl pu h;obtain⟨a,xs,rfl,hx,hw,q⟩:=h;cases rx;obtain⟨its,r,ht,hz⟩:=I.tuple hx;have hlen:its.toArray.size=xs.length:=by rw[ZF];exact r.length.symm
 refine⟨"tuple",_,Yg.lookup,ht.typeIs,?_⟩;refine HT.getItem_tuple_cut ht hs pl pu (by rw[hlen];exact hw) ?_ (by rw[hlen];exact hz)
 rw[hlen];refine⟨.ref s.heap.objs.size,_,I.laid (t':=s.toks) (o:=.tup (cutV xs lo hi)) (λb ob q=>Zj _ q) (Zq _) ?_,rfl,q _ (I.hok.fresh (Zq _))⟩;exact⟨Zr (Q2w xs lo hi) hz,_,(r.drop (HT.sIx xs.length 0 lo)).take (HT.sIx xs.length xs.length hi-HT.sIx xs.length 0 lo),IsTup.new _ _⟩
end
noncomputable def ixN(n:Nat)(i:Int):Option Nat:=if 0<=i then (if i<n then some i.toNat else none) else if -(n:Int)<=i then some (i+n).toNat else none
noncomputable def atI{α:Type}(xs:List α)(i:Int):Option α:=(ixN xs.length i).bind λj=>xs[j]?
theorem Qap(h:ixN n i=some j):seqIndex? i n=some j/\j<n /\ -(n:Int)<=i/\i<n:=by
 unfold ixN at h;by_cases h0:0<=i
 ·rw[Zg h0]at h;by_cases h1:i<n
  ·rw[Zg h1]at h;have e:i.toNat=j:=ZE h;exact⟨by rw[seqIndex_of h0 h1,e],by room,by room,h1⟩
  ·rw[Zd h1]at h;cases h
 ·rw[Zd h0]at h;by_cases h1:-(n:Int)<=i
  ·rw[Zg h1]at h;have e:(i+n).toNat=j:=ZE h;exact⟨by rw[seqIndex_neg (by room) h1,e],by room,h1,by room⟩
  ·rw[Zd h1]at h;cases h
theorem Q3n{α:Type}{xs:List α}{i:Int}{v:α}(h:atI xs i=some v):∃ j,seqIndex? i xs.length=some j/\xs[j]? = some v/\j<xs.length /\ -(xs.length:Int)<=i/\i<xs.length:=by
 unfold atI at h;cases e:ixN xs.length i with
 | none=>rw[e]at h;cases h
 | some j =>
  rw[e]at h;obtain⟨h1,h2,h3,h4⟩:=Qap e;exact⟨j,h1,h,h2,h3,h4⟩
theorem atI_last{α:Type}(xs:List α)(v:α):atI (xs++[v]) (-1)=some v:=by
 have hl:(xs++[v]).length=xs.length+1:=by simp
 have e:ixN (xs++[v]).length (-1)=some xs.length:=by
  unfold ixN;rw[hl,Zd (by decide),Zg (by room)]
  congr 1;room
 unfold atI;rw[e];show (xs++[v])[xs.length]? = some v;simp
def zbr(b:Expr):Prop:=∀ o i,subscripted b false o i=operate [o,i] (getItem o i)
def IxR(X:Cx)(r:R2):Prop :=
 ∀ (value slice:Expr) (pins:List (Addr×Obj)) (s:Shared) (σ:St) (H:Hp) (x y:V) (v u:Value) (Q:VK),Inv X pins σ H s->RelV x v->RelV y u->r x y H Q ->
  subscripted slice false v u=operate [v,u] (getItem v u)->wpAny (model X.prog X.w) X.A (subscriptTail value slice v u) (EP X pins σ Q) X.xe s
def MtR(X:Cx)(id:String)(r:V->List V->Hp->VK->Prop):Prop :=
 ∀ (pins:List (Addr×Obj)) (s:Shared) (σ:St) (H:Hp) (x:V) (xs:List V) (v:Value) (us:List Value) (Q:VK),Inv X pins σ H s->RelV x v->Vals xs us->r x xs H Q ->
  wpAny (model X.prog X.w) X.A (call (.builtin id) (v::us)) (EP X pins σ Q) X.xe s
section
variable{X:Cx}{a b:Expr}{ta tb:TE}{pos:Pos}
theorem pe_ix(hr:IxR X r)(ha:PE X a ta)(hb:PE X b tb)(hs:zbr b):PE X (.Subscript a b pos) (tOp r ta tb):=by
 intro pins s σ H Q I h;exact Subscript_ (binT ha hb I h λv u s2 x y H2 I2 rx ry q=>hr a b pins s2 σ H2 x y v u Q I2 rx ry q (hs _ _))
def rIxL(K:Frag):R2:=λx y H Q=>∃ p xs i v,x=.ref p/\y=.int i/\SqL K H p xs/\atI xs i=some v/\Q v H
def rIxT(K:Frag):R2:=λx y H Q=>∃ p xs i v,x=.ref p/\y=.int i/\SqT K H p xs/\atI xs i=some v/\Q v H
def rIxS:R2:=λx y H Q=>∃ z i c,x=.str z/\y=.int i/\z.length<=sizeLine/\atI z.cps.toList i=some c/\Q (.str ⟨#[c]⟩) H
theorem Qaq:IxR X (rIxL X.K):=by
 intro value slice pins s σ H x y v u Q I rx ry h hs;obtain⟨p,xs,i,z,rfl,rfl,hq,he,q⟩:=h;cases rx;obtain⟨t,rfl⟩:=ry;obtain⟨its,r,pl,hz⟩:=I.list hq;obtain⟨j,h1,h2,h3,h4,h5⟩:=Q3n he;obtain⟨w,ew,rw'⟩:=r.get h2;have hl:=r.length;have hn:=line63;have fin:EP X pins σ Q w s:=⟨z,H,I,rw',q⟩;by_cases h0:0<=i
 ·have hj:i.toNat=j:=by
   rw[seqIndex_of h0 h5]at h1;exact ZE h1
  exact item_listR pl.isList h0 (by room) (by rw[hj];simpa using ew) fin hs
 ·have hj:(i+(its.toArray.size:Int)).toNat=j:=by
   rw[seqIndex_neg (by room) h4]at h1
   rw[ZF,<- hl];exact ZE h1
  exact subscriptTail_builtinR (x:=w) pl.isList.typeIs slot_list_getitem.lookup
   (wpAny_getItem_list_neg (Q:=λr s'=>r=w/\EP X pins σ Q r s') pl.isList (by room) (by rw[ZF] <;> room) (by room) (by rw[hj];simpa using ew) ⟨rfl,fin⟩) hs
theorem ix_tup:IxR X (rIxT X.K):=by
 intro value slice pins s σ H x y v u Q I rx ry h hs;obtain⟨p,xs,i,z,rfl,rfl,hq,he,q⟩:=h;cases rx;obtain⟨t,rfl⟩:=ry;obtain⟨its,r,pl,hz⟩:=I.tuple hq;obtain⟨j,h1,h2,h3,h4,h5⟩:=Q3n he;obtain⟨w,ew,rw'⟩:=r.get h2;have hl:=r.length;have hn:=line63;have fin:EP X pins σ Q w s:=⟨z,H,I,rw',q⟩;exact subscriptTail_builtinR (x:=w) pl.typeIs slot_tuple_getitem.lookup
  (getItem_tuple (j:=j) (Q:=λr s'=>r=w/\EP X pins σ Q r s') pl (by room) (by room) (by rw[ZF,<- hl];exact h1) (by simpa using ew) ⟨rfl,fin⟩) hs
theorem ix_str:IxR X rIxS:=by
 intro value slice pins s σ H x y v u Q I rx ry h hs;obtain⟨z,i,c,rfl,rfl,hz,he,q⟩:=h;obtain⟨t,rfl⟩:=rx;obtain⟨t',rfl⟩:=ry;obtain⟨j,h1,h2,h3,h4,h5⟩:=Q3n he;have hl:z.cps.toList.length=z.length:=by simp[Str.length]
 rw[hl]at h1 h4 h5;have hn:=line63;exact tail_any (typeIs_str s z t) slot_str_getitem.lookup (getItem_str (c:=c) (by
  have e1:decide (i < -(2 ^ 63:Int))=false:=Z7 (by room)
  have e2:decide (i >= 2 ^ 63)=false:=Z7 (by room)
  rw[e1,e2,Bool.or_false]) (by rw[h1];simpa using h2) ⟨.str ⟨#[c]⟩,H,I.tok _,⟨_,rfl⟩,q⟩) hs
theorem Q3N(lo hi:Option Int)(n:Nat):(sliceBounds lo hi none n).1=((HT.sIx n 0 lo:Nat):Int)/\(sliceBounds lo hi none n).2.1=((HT.sIx n n hi:Nat):Int)/\(sliceBounds lo hi none n).2.2=1:=by
 refine⟨?_,?_,rfl⟩
 ·cases lo with
  | none=>simp[sliceBounds,HT.sIx]
  | some i =>
   erw[sliceBounds,HT.sIx,Option.getD_none,show (1:Int) > 0 by decide,Yj]
   by_cases h:i<0
   ·erw[h,Yj] <;> room
   ·erw[h,ZU] <;> room
 ·cases hi with
  | none=>simp[sliceBounds,HT.sIx]
  | some i =>
   erw[sliceBounds,HT.sIx,Option.getD_none,show (1:Int) > 0 by decide,Yj]
   by_cases h:i<0
   ·erw[h,Yj] <;> room
   ·erw[h,ZU] <;> room
theorem Q3o(its:List Value)(lo hi:Option Int):slicePick its.toArray lo hi none=((its.drop (HT.sIx its.length 0 lo)).take (HT.sIx its.length its.length hi-HT.sIx its.length 0 lo)).toArray:=by
 obtain⟨h1,h2,h3⟩:=Q3N lo hi its.toArray.size;unfold slicePick;rw[h1,h2,h3];erw[sliceRange_one,pick_run,ZF] <;> rfl
def rSlL(K:Frag):V->Option Int->Option Int->Hp->VK->Prop:=λx lo hi H Q=>∃ a xs,x=.ref a/\SqL K H a xs/\∀ p,H p=none->Q (.ref p) (upd H p (.lst (cutV xs lo hi)))
theorem Qar:SlR X (rSlL X.K):=by
 intro pins s σ H x v vl vu lo hi sl Q I rx hs pl pu h;obtain⟨a,xs,rfl,hx,q⟩:=h;cases rx;obtain⟨its,r,ht,hz⟩:=I.list hx;have hlen:=r.length;refine⟨"list",_,slot_list_getitem.lookup,ht.isList.typeIs,?_⟩;refine wpAny_getItem_list_slice ht.isList hs pl pu .none (by simp) ?_ (by rw[ZF] <;> room)
 rw[Q3o,<- hlen];refine⟨.ref s.heap.objs.size,_,I.laid (t':=s.toks) (o:=.lst (cutV xs lo hi)) (λb ob q=>Zj _ q) (Zq _) ?_,rfl,q _ (I.hok.fresh (Zq _))⟩;exact⟨Zr (Q2w xs lo hi) hz,_,0,(r.drop (HT.sIx xs.length 0 lo)).take (HT.sIx xs.length xs.length hi-HT.sIx xs.length 0 lo),Z0 _ rfl⟩
theorem Q1o:zbj X (.builtin "len") (λxs H Q=>∃ p ys,xs=[.ref p]/\(SqL X.K H p ys\/SqT X.K H p ys)/\Q (.int ys.length) H):=by
 intro pins s σ H xs us Q I r h;obtain⟨p,ys,rfl,hq,q⟩:=h;obtain⟨u,rfl,rx⟩:=vals1 r;cases rx;have hn:=line63;rcases hq with hq | hq
 ·obtain⟨its,r',pl,hz⟩:=I.list hq;have hlen:=r'.length;exact Calls.call_len_list pl.isList (by erw[ZF] <;> room) ⟨.int ys.length,H,I.tok _,⟨s.toks+1,by rw[ZF,hlen]⟩,q⟩
 ·obtain⟨its,r',pl,hz⟩:=I.tuple hq;have hlen:=r'.length;exact len_tuple pl (by erw[ZF] <;> room) ⟨.int ys.length,H,I.tok _,⟨s.toks+1,by rw[ZF,hlen]⟩,q⟩
theorem Q3O:zbj X (.builtin "len") (λxs H Q=>∃ z,xs=[.str z]/\z.length<=sizeLine/\Q (.int z.length) H):=by
 intro pins s σ H xs us Q I r h;obtain⟨z,rfl,hz,q⟩:=h;obtain⟨u,rfl,t,rfl⟩:=vals1 r;have hn:=line63;exact len_str (by room) ⟨.int z.length,H,I.tok _,⟨_,rfl⟩,q⟩
theorem Q3P:zbj X (.type "list") (λxs H Q=>∃ p ys,xs=[.ref p]/\(SqL X.K H p ys\/SqT X.K H p ys)/\∀ l,H l=none->Q (.ref l) (upd H l (.lst ys))):=by
 intro pins s σ H xs us Q I r h;obtain⟨p,ys,rfl,hq,q⟩:=h;obtain⟨u,rfl,rx⟩:=vals1 r;cases rx;have fin:∀ (its:List Value),Vals ys its->ys.length<=sizeLine->∀ (h':Heap) (c':Nat),(∀ b o',s.heap.get? b=some o'->h'.get? b=some o') ->
   h'.get? s.heap.objs.size=some { cls:=.type "list",dict:=none,data:=.seq its.toArray c',slots:=#[] }->EP X pins σ Q (.ref s.heap.objs.size) { s with heap:=h' }:=λits r' hz h' c' kp e =>
  ⟨.ref s.heap.objs.size,_,I.laid (t':=s.toks) kp (Zq _) (show ObjOk X.prog X.w _ h' _ (.lst ys) from⟨hz,its,c',r',e⟩),rfl,q _ (I.hok.fresh (Zq _))⟩
 rcases hq with hq | hq
 ·obtain⟨its,r',pl,hz⟩:=I.list hq;have hlen:=r'.length;obtain⟨o,ho,hc,n,hd⟩:=pl.isList;exact call_list_seq p (.inl rfl) ho hc hd (λh' c' kp e=>fin its r' hz h' c' kp e) (by erw[ZF] <;> room)
 ·obtain⟨its,r',pl,hz⟩:=I.tuple hq;have hlen:=r'.length;obtain⟨o,ho,hc,n,hd⟩:=pl;exact call_list_seq p (.inr rfl) ho hc hd (λh' c' kp e=>fin its r' hz h' c' kp e) (by erw[ZF] <;> room)
def tyV(K:Frag)(T:String)(x:V)(H:Hp):Prop:=match x with
 | .str _=>T = "str"
 | .int _=>T = "int"
 | .ref p=>(T = "list" /\ ∃ xs,SqL K H p xs)\/(T = "tuple" /\ ∃ o,K.lookup p=some o/\o.cls=.type "tuple" /\ o.dict=none) \/
   (T = "dict" /\ ((∃ kvs,H p=some (.dK kvs))\/∃ kvs,H p=some (.dT kvs)))\/(T = "set" /\ ∃ S n,H p=some (.set S n))
 | _=>False
theorem Q9M(I:Inv X pins σ H s)(r:RelV x v)(ty:tyV X.K T x H) :
  s.TypeIs v T/\∀ a,v=.ref a->∃ ob,s.heap.get? a=some ob/\ob.dict=none:=by
 cases x with
 | str z =>
  obtain⟨t,rfl⟩:=r;cases (show T = "str" from ty);exact⟨typeIs_str s z t,λ_ e=>nomatch e⟩
 | int i =>
  obtain⟨t,rfl⟩:=r;cases (show T = "int" from ty);exact⟨typeIs_int s i t,λ_ e=>nomatch e⟩
 | ref p =>
  cases r;rcases ty with ⟨rfl,xs,hq⟩ | ⟨rfl,o,hk,hc,hd⟩ | ⟨rfl,hk⟩ | ⟨rfl,S,n,hk⟩
  ·obtain⟨its,_,pl,_⟩:=I.list hq;refine⟨pl.isList.typeIs,λa e=>?_⟩;cases e;obtain⟨o,n,e,c,hd,_⟩:=pl;exact⟨o,e,hd⟩
  ·refine⟨⟨o,I.kIn p o hk,hc⟩,λa e=>?_⟩;cases e;exact⟨o,I.kIn _ o hk,hd⟩
  ·have z:∃ o,s.heap.get? p=some o/\o.ExactDict:=by
    rcases hk with ⟨kvs,hk⟩ | ⟨kvs,hk⟩
    ·obtain⟨_,_,_,_,o,_,_,e,ex,_⟩:=I.hok p _ hk;exact⟨o,e,ex⟩
    ·obtain⟨_,_,_,_,o,_,_,e,ex,_⟩:=I.hok p _ hk;exact⟨o,e,ex⟩
   obtain⟨o,e,ex⟩:=z;refine⟨⟨o,e,ex.1⟩,λa e2=>?_⟩;cases e2;exact⟨o,e,ex.2.1⟩
  ·obtain⟨o,_,_,_,e,ex,_⟩:=I.hok p _ hk;refine⟨⟨o,e,ex.1⟩,λa e2=>?_⟩;cases e2;exact⟨o,e,ex.2.1⟩
 | _=>exact False.elim ty
def tBM0(K:Frag)(T:String)(r:V->List V->Hp->VK->Prop)(to:TE):TE:=λσ H Q=>to σ H λx H1=>tyV K T x H1/\r x [] H1 Q
def tBM(K:Frag)(T:String)(r:V->List V->Hp->VK->Prop)(to:TE)(t:TA):TE:=λσ H Q=>to σ H λx H1=>tyV K T x H1/\t σ H1 λxs H2=>r x xs H2 Q
variable{o e:Expr}{es:List Expr}{to:TE}{t:TA}{name:Str}{apos cpos:Pos}{T id:String}{r:V->List V->Hp->VK->Prop}
theorem Qc1(pa:PlainAttrs T)(slot:Slot T name id)(hty:typeOf (.builtin id)=pure (.type "method_descriptor"))(hm:MtR X id r)(ho:PE X o to)
  (hbase:attributeBase o name X.env (eval o X.env)=eval o X.env:=by rfl) (hline:(apos.endLine==cpos.line)=true:=by rfl):PE X (.Call (.Attribute o name apos) [] [] cpos) (tBM0 X.K T r to):=by
 intro pins s σ H Q I h;refine wpAny_Call_method0_late hbase hline (thn (ho pins s σ H _ I h) λv s1 ⟨x,H1,I1,r1,ty,q1⟩=>?_);obtain⟨h1,h2⟩:=Q9M I1 r1 ty;exact⟨T,id,pa,slot,hty,h1,h2,Ys rfl (PySem.evalArgs_none (hm pins s1 σ H1 x [] v [] Q I1 r1 .nil q1))⟩
theorem pe_bm(pa:PlainAttrs T)(slot:Slot T name id)(hty:typeOf (.builtin id)=pure (.type "method_descriptor"))(hm:MtR X id r)(ho:PE X o to)(ha:PA X (e::es) t)
  (hbase:attributeBase o name X.env (eval o X.env)=eval o X.env:=by rfl)
  (hfew:((backTo cpos (starEach (e::es) X.env)).all (λx=>!x.1)&&(backToKw cpos (keywordEach [] X.env)).all (λx=>x.1.isSome)
   && decide ((e::es).length+([]:List Keyword).length+(if ([]:List Keyword).isEmpty then 0 else 1)<30))=true:=by rfl)
  (hline:(apos.endLine==cpos.line)=true:=by rfl) (hs:starEach (e::es) X.env=(false,eval e X.env)::starEach es X.env:=by rfl) (hplain:(backTo cpos (starEach es X.env)).any (·.1)=false:=by rfl) :
  PE X (.Call (.Attribute o name apos) (e::es) [] cpos) (tBM X.K T r to t):=by
 intro pins s σ H Q I h;refine wpAny_Call_method_late hbase hfew hline rfl (thn (ho pins s σ H _ I h) λv s1 ⟨x,H1,I1,r1,ty,q1⟩=>?_);obtain⟨h1,h2⟩:=Q9M I1 r1 ty;refine⟨T,id,pa,slot,hty,h1,h2,?_⟩;have hA:=ha cpos pins s1 σ H1 _ I1 q1;rw[hs]at hA ⊢;refine Ys (by show (false||(backTo cpos (starEach es X.env)).any (·.1))=false;rw[hplain] <;> rfl) (Calls.evalArgs_plain ?_)
 exact thn hA λus s2 ⟨vs,H2,I2,r2,q2⟩=>hm pins s2 σ H2 x vs v us Q I2 r1 r2 q2
end
def MtM(X:Cx)(id:String)(r:V->List V->Hp->VK->Prop):Prop :=
 ∀ (pins:List (Addr×Obj)) (s:Shared) (σ:St) (H:Hp) (x:V) (xs:List V) (v:Value) (us:List Value) (Q:VK),Inv X pins σ H s->RelV x v->Vals xs us->r x xs H Q ->
  wpAny (model X.prog X.w) X.A (call (.builtin id) (v::us)) (EP X pins σ Q) X.xe s
theorem Vals.one(h:Vals [x] us):∃ u,us=[u]/\RelV x u:=by
 cases h with | cons r t=>cases t;exact⟨_,rfl,r⟩
theorem Vals.zero:∀ {us:List Value},Vals [] us->us=[]
 | _,.nil=>rfl
theorem Vals.dropLast(h:Vals xs us):Vals xs.dropLast us.dropLast:=by
 induction h with
 | nil=>exact .nil
 | cons r t ih =>
  cases t with
  | nil=>exact .nil
  | cons q t'=>exact .cons r ih
theorem Q5T{α:Type}(l:List α):l.eraseIdx (l.length-1)=l.dropLast:=by
 induction l with
 | nil=>rfl
 | cons a r ih =>
  cases r with
  | nil=>rfl
  | cons b r =>
   have e:(a::b::r).length-1=((b::r).length-1)+1:=by
    have h1:(a::b::r).length=r.length+2:=rfl;have h2:(b::r).length=r.length+1:=rfl;room
   rw[e,List.eraseIdx_cons_succ,ih]
   all_goals rfl
section
variable{X:Cx}{pins:List (Addr×Obj)}{σ:St}{H:Hp}{s:Shared}{l b:Addr}{xs ys zs:List V}
theorem Inv.lset{its its':List Value}{n:Nat}{f:Array Value->Array Value}{t':Nat}(I:Inv X pins σ H s)(hH:H l=some (.lst xs))
  (e:s.heap.get? l=some { cls:=.type "list",data:=.seq its.toArray n }) (hf:f its.toArray=its'.toArray) (hv:Vals ys its') (hz:ys.length<=sizeLine) :
  Inv X pins σ (upd H l (.lst ys)) { s with heap:=s.heap.update l (Obj.mapSeq f),toks:=t' }:=by
 have q:=PySem.IsL.update e f;rw[hf]at q;refine I.write (x:=l) (e:=l) (by rw[hH];exact trivial) (.inl rfl) (λb' u hb hu=>(Heap.get?_update_other s.heap (Obj.mapSeq f) (Ne.symm hb)).trans hu) ⟨_,q⟩ ?_
 exact⟨hz,its',_,hv,q⟩
theorem Inv.lnew(I:Inv X pins σ H s)(hv:Vals ys its)(hz:ys.length<=sizeLine) :
  Inv X pins σ (upd H s.heap.objs.size (.lst ys)) { s with heap:=s.heap.push { cls:=.type "list",data:=.seq its.toArray },toks:=t' } :=
 I.laid (λ_ _ q=>Zj _ q) (Zq _) ⟨hz,its,0,hv,Z0 _ rfl⟩
theorem Inv.fresh(I:Inv X pins σ H s):H s.heap.objs.size=none:=I.hok.fresh (Zq _)
theorem Inv.lstM(I:Inv X pins σ H s)(hH:H l=some (.lst xs)):xs.length<=sizeLine/\∃ (its:List Value) (n:Nat),Vals xs its/\xs.length=its.length/\s.heap.get? l=some { cls:=.type "list",data:=.seq its.toArray n }:=by
 obtain⟨z,its,n,r,e⟩:=I.hok l _ hH;exact⟨z,its,n,r,r.length,e⟩
theorem notLongL(h:n<=sizeLine):Builtin.List.listTooLong n=false:=by
 unfold Builtin.List.listTooLong;exact Z7 (by room)
end
section
variable{X:Cx}
def rAppend:V->List V->Hp->VK->Prop:=λx vs H Q=>∃ l xs y,x=.ref l/\vs=[y]/\H l=some (.lst xs)/\xs.length<sizeLine/\Q .non (upd H l (.lst (xs++[y])))
theorem Q6w:MtM X "list.append" rAppend:=by
 intro pins s σ H x vs v us Q I rx rv h;obtain⟨l,xs,y,rfl,rfl,hH,hz,q⟩:=h;cases rx;obtain⟨u,rfl,ru⟩:=rv.one;obtain⟨z,its,n,r,hl,e⟩:=I.lstM hH;refine call_meets F.slot_list_append ⟨_,e,rfl⟩ F.entry_list_append (F.args_list_append_2 _ _) (PySem.list_append l its.toArray n u (by rw[ZF];room)) ⟨e,?_⟩
 refine⟨.non,_,I.lset (its':=its++[u]) hH e (by simp) (r.append (.cons ru .nil)) ?_,rfl,q⟩
 rw[Zl,ZL];room
def rPop:V->List V->Hp->VK->Prop:=λx vs H Q=>∃ l xs y,x=.ref l/\vs=[]/\H l=some (.lst xs)/\xs[xs.length-1]? = some y/\Q y (upd H l (.lst xs.dropLast))
theorem Qc2:MtM X "list.pop" rPop:=by
 intro pins s σ H x vs v us Q I rx rv h;obtain⟨l,xs,y,rfl,rfl,hH,hy,q⟩:=h;cases rx;have hus:=rv.zero;subst hus;obtain⟨z,its,n,r,hl,e⟩:=I.lstM hH;obtain⟨u,hu,ru⟩:=r.get hy;have hy':its.toArray[its.toArray.size-1]? = some u:=by
  show its.toArray[its.length-1]? = some u;rw[<- Array.getElem?_toList,<- hl];exact hu
 refine call_meets F.slot_list_pop ⟨_,e,rfl⟩ F.entry_list_pop (F.args_list_pop_1 _) (MeetsSeq.list_pop_last l its.toArray n u hy' (by rw[ZF];room)) ⟨e,?_⟩
 refine⟨y,_,I.lset (its':=its.dropLast) hH e ?_ r.dropLast ?_,ru,q⟩
 ·show its.toArray.eraseIdxIfInBounds (its.toArray.size-1)=its.dropLast.toArray;rw[ZF,List.eraseIdxIfInBounds_toArray,Q5T]
 ·rw[List.length_dropLast];room
end
section
variable{prog:Program}{w:World}{A:Around}{E:Value->Shared->Prop}{s:Shared}
end
section
variable{X:Cx}
end
end L2
namespace Att
open PySem PySem.W PySem.Calls PyProof.Rows
theorem Q2x:∀ (ns:List Int) (vs:List Value),WellAll P h vs (ns.map WData.int)->IntsAre vs ns:=by
 intro ns
 induction ns with
 | nil =>
  intro vs w;rw[map_nil]at w;cases w;exact .nil
 | cons n ns ih =>
  intro vs w;rw[ZC]at w;cases w with
  | cons a b =>
   cases a;exact .cons _ _ (ih _ b)
theorem Q6x{l:OpenLaw}{n:Nat}(hn:l.most=some n){P:Params}{h:Heap}{args:List WData}{vals:List Value}
  (hpre:l.row.toRowW.claim.pre args=true) (hwl:WellAll P h vals args) :
  ∃ a vs ns,vals=[Value.ref a]/\args=[WData.list (ns.map WData.int)]/\h.get? a=some { cls:=.type "list",data:=.seq vs.toArray }/\IntsAre vs ns/\ns.length<=n:=by
 have hsh:WShape.hasAll [] args [.list .int]=true:=(pre_splitW hpre).1;have hc:l.pre.holds [] { args:=args }=true:=(pre_splitW hpre).2;obtain⟨d,r,rfl,h1,h2⟩:=hasAllW_cons hsh;obtain rfl:=hasAllW_nil h2;obtain⟨xs,rfl,h3⟩:=hasW_list h1;obtain⟨ns,rfl⟩:=items_int h3;have hlen:ns.length<=n:=by
  unfold OpenLaw.pre at hc;have h4:(WTm.not (.lt (.lit (.int (n:Int))) (.len (.arg 0)))).holds [] { args:=[.list (ns.map .int)] }=true:=by
   have h4:=(holds_andW hc).1;rw[hn]at h4;exact h4
  have h5:=condW_of h4 (w_not (w_lt w_lit (w_len_list (w_arg rfl))));rw[Zb]at h5;refine le_of_not_lt λq=>?_;have q':(n:Int)<((ns.length:Nat):Int):=by room
  first
   | (rw[Zm q']at h5;exact absurd h5 (by decide))
   | (simp at h5;room)
 cases hwl with
 | cons w1 w2 =>
  cases w2;cases w1 with
  | list ho hall=>exact⟨_,_,ns,rfl,rfl,ho,Q2x ns _ hall,hlen⟩
theorem Q6y(l:OpenLaw)(args:List WData):l.row.toRowW.claim.post args (.bool true) args=true :=
 postW_of (r:=l.row.toRowW) (X:=(true==true))
  (show WShape.has [] (.bool true) .bool=true by first | rfl | decide | simp[WShape.has,WShape.arms,WShape.armsAll])
  (show (WTm.eq .res (.lit (.bool true))).value [] { args:=args,res:=some (.bool true),after:=args }=some (.bool (true==true)) from w_eq_bool (w_res rfl) w_lit) rfl
theorem attach_call{l:OpenLaw}{n:Nat}{q:Program}{loose:List Str}{XP:(Str->Option Value)->Heap->Prop}{YP:World->Heap->Prop}{d:DefRec}
  (hn:l.most=some n) (hdf:d.params.defaults=[])
  (call:∀ (w:World) (s₀ s₁:Shared) (mg mb:Str->Option Value) (fa:Addr) (o:Obj) (pm cd doc:Value) (a:Addr) (vs:List Value) (ns:List Int),
   Ground q loose [] XP w s₀ mg mb s₁.heap->YP w s₁.heap ->
   s₁.heap.get? fa=some o->o.data=.func (docDef d.name d.params d.body d.scope pm cd doc)->s₁.heap.CodeRec cd d.name->mg d.name=some (.ref fa) ->
   s₁.heap.get? a=some { cls:=.type "list",data:=.seq vs.toArray }->IntsAre vs ns->ns.length<=n->s₁.gens = #[] ->
   codeAny (model l.prog w) callerA (.call (.ref fa) ⟨[.ref a],[]⟩) (λr s'=>r=.ok (.ret (.bool true))/\OldK s₁.heap s'.heap/\s'.os=s₁.os/\AllBare s'.gens) s₁) :
  WalkO q loose XP YP l.row.toRowW d [] (λf vs=>PySem.call f vs):=by
 intro w s₀ s₁ mg mb G Y fa o pm cd doc dV kV ho hd hcd hD hmg hg args vals as hpre hlay hrd hwl hlo;obtain rfl:dV=.none:=Dflts.none hD hdf;obtain rfl:kV=.none:=Dflts.noKw hD;obtain⟨a,vs,ns,rfl,rfl,hobj,hints,hlen⟩:=Q6x hn hpre hwl;refine enter_call (codeAny_mono (call w s₀ s₁ mg mb fa o pm cd doc a vs ns G Y ho (fd_plain hd) hcd hmg hobj hints hlen hg) λr s' hq=>?_);obtain⟨rfl,h2,h3,h4⟩:=hq;exact⟨.inl ⟨.bool true,.bool true,[],rfl,λ_=>rfl,.bool true,Q6y l _,λ_=>⟨List.Pairwise.nil,λ_ hm=>(nomatch hm)⟩⟩,h2,h3,h4⟩
section
variable{prog:Program}{w:World}{A:Around}{E:Value->Shared->Prop}{s:Shared}{K:Frag}
end
end Att
namespace L2
open PySem PySem.Spec PyProof.Rows
theorem Q3Q:∀ {vs:List Value} {ns:List Int},IntsAre vs ns->Vals (ns.map V.int) vs
 | _,_,.nil=>.nil
 | _,_,.cons n t h=>.cons ⟨t,rfl⟩ (Q3Q h)
def Only(H:Hp):Prop:=∀ b,H b=none\/∃ o xs,H b=some (.frz o (.lst xs))
theorem Q8s{P:Program}{w:World}{K:Frag}{mg mb:Str->Option Value}{CX:CXT}{k:Nat}{fa a:Addr}{fd:FuncData}{x:Str}{sp:Sp}{s₁:Shared}{vs:List Value}{ns:List Int}
  (KX:K.In s₁.heap) (hns:s₁.heap.Ns mainGlobals mg) (hb:s₁.heap.Ns builtinsNs mb) (hbb:∀ x:Str,x ≠ "__name__" -> mb x=bootBuiltins x) (hlim:s₁.heap.NoLimit) (hg:s₁.gens = #[])
  (ha:s₁.heap.get? a=some { cls:=.type "list",data:=.seq vs.toArray }) (hi:IntsAre vs ns) (hl:ns.length<=sizeLine) (hr:Room k callerA)
  (F:∀ base:Heap,K.In base->base.Ns mainGlobals mg->FnOk P w K mg base CX k fa fd [x] sp) (hbind:∀ (s:Shared) (u:Value),BindsTo s fd ⟨[u],[]⟩ [(x,u)])
  (hsp:∀ H:Hp,Only H->SqL K H a (ns.map V.int)->sp [.ref a] H (λv _=>v=.bl true) λ_ _ _=>False)
  (hCX:∀ H e s',CX [] H s₁ (λ_ _ _=>False) e s'->False) :
  codeAny (model P w) callerA (.call (.ref fa) ⟨[.ref a],[]⟩) (λr s'=>r=.ok (.ret (.bool true))/\OldK s₁.heap s'.heap/\s'.os=s₁.os/\AllBare s'.gens) s₁:=by
 have rv:=Q3Q hi;have lenV:=hi.length
 -- from an abstract heap in which nothing but the script may be tracked
 have core:∀ H:Hp,Only H->SqL K H a (ns.map V.int)->HOk P w H s₁.heap->(∀ b,H b≠none->b=a)->(H a≠none->K.lookup a=none) ->
   codeAny (model P w) callerA (.call (.ref fa) ⟨[.ref a],[]⟩) (λr s'=>r=.ok (.ret (.bool true))/\OldK s₁.heap s'.heap/\s'.os=s₁.os/\AllBare s'.gens) s₁:=by
  intro H hO hS hok hA hK;have base_of:∀ {b:Addr} {o:Obj},s₁.heap.get? b=some o->H b=none->(hidT s₁.heap H).get? b=some o:=λe n=>Q8g e n;have noA:∀ {b:Addr} {o:Obj} {es:Array DictEntry} {ep:Nat},s₁.heap.get? b=some o->o.data=.dict es ep->H b=none:=fun{b o es ep} e d=>by
   cases q:H b with
   | none=>rfl
   | some u =>
    have e':b=a:=hA b (by rw[q];simp)
    subst e';rw[ha]at e;cases e;have d':Data.seq vs.toArray _=Data.dict es ep:=d;cases d'
  have nsK:∀ {b:Addr} {m:Str->Option Value},s₁.heap.Ns b m->(hidT s₁.heap H).Ns b m:=fun{b m} ⟨o,es,ep,e,d,r⟩=>⟨o,es,ep,base_of e (noA e d),d,r⟩;have hKb:K.In (hidT s₁.heap H):=λb o e=>base_of (KX b o e) (by
   cases q:H b with
   | none=>rfl
   | some u =>
    have e':b=a:=hA b (by rw[q];simp)
    subst e';rw[hK (by rw[q];simp)]at e;cases e)
  have hM:Mod K mg (hidT s₁.heap H):=⟨hKb,nsK hns,⟨mb,nsK hb,hbb⟩,let ⟨mc,h1,h2⟩:=hlim;⟨mc,nsK h1,h2⟩⟩;have e0:Env0 P w K mg (hidT s₁.heap H) callerA [] s₁ H:=⟨rfl,hM,λb o e=>Qa7 e,le_of_eq (Q6k _ _),trivial,λb hb=>absurd (show b∈([]:List Addr) from hb) (by simp),hok,.of_eq hg⟩
  refine codeAny_mono ((F _ hKb (nsK hns)).run callerA [] s₁ H ⟨[.ref a],[]⟩ [.ref a] [.ref a] _ _ hr e0 (hbind s₁ (.ref a)) (.cons rfl .nil) (hsp H hO hS)) λr s' h=>?_;cases r with
  | error e=>exact (hCX H e s' h).elim
  | ok fl =>
   cases fl with
   | next=>exact False.elim h
   | brk=>exact False.elim h
   | cont=>exact False.elim h
   | ret u =>
    obtain⟨v,H',os,bare,un,hok',r',q⟩:=h;have q':v=.bl true:=q;subst q';obtain rfl:u=Value.bool true:=r';refine⟨rfl,OldK.of_keep λb o e=>?_,os,bare⟩;cases q:H b with
    | none=>exact un.keep b o e q (by intro z;exact absurd (show b∈([]:List Addr) from z) (by simp)) (by simp)
    | some u =>
     rcases hO b with z | ⟨ob,xs,z⟩
     ·rw[q]at z;cases z
     ·have z2:=un.frzs b ob _ z;obtain⟨e1,_⟩:=hok b _ z;obtain⟨e2,_⟩:=hok' b _ z2;rw[e]at e1;cases e1;exact e2
 cases hk:K.lookup a with
 | some o =>
  -- the script is one of the module's own objects
  have e:=KX a o hk;rw[ha]at e;cases e;refine core (λ_=>none) (λ_=>.inl rfl) (.inr ⟨_,vs.toArray,_,hk,rfl,rfl,rfl,by rw[ZF,lenV];exact hl,by simpa using rv⟩) (λb u z=>by have z':(none:Option HO)=some u:=z;cases z') (λb z=>absurd rfl z) λz=>absurd rfl z
 | none =>
  refine core (λb=>if b=a then some (.frz { cls:=.type "list",data:=.seq vs.toArray } (.lst (ns.map V.int))) else none) (λb=>?_) (.inl (.inr ⟨{ cls:=.type "list",data:=.seq vs.toArray },Zg rfl⟩)) (λb u z=>?_) (λb z=>?_) λ_=>hk
  ·by_cases hb:b=a
   ·exact .inr ⟨_,_,Zg hb⟩
   ·exact .inl (Zd hb)
  ·by_cases hb:b=a
   ·have z':=(Zg hb).symm.trans z;cases z';subst hb;exact⟨ha,by rw[Zb];exact hl,vs,_,rv,ha⟩
   ·have z':=(Zd hb).symm.trans z;cases z'
  ·by_cases hb:b=a
   ·exact hb
   ·exact absurd (Zd hb) z
theorem walk_of{l:OpenLaw}{n k:Nat}{q:Program}{loose:List Str}{XP:(Str->Option Value)->Heap->Prop}{YP:World->Heap->Prop}{d:DefRec}{K:Params->Frag}{CX:World->CXT}{sp:World->Sp}{x:Str}
  (hn:l.most=some n) (hn2:n<=sizeLine) (hdf:d.params.defaults=[]) (hr:Room k callerA)
  (hY:∀ (w:World) (h:Heap),YP w h->(K w.params).In h)
  (F:∀ (w:World) (mg:Str->Option Value) (fa:Addr) (h:Heap),(K w.params).In h->h.Ns mainGlobals mg->mg d.name=some (.ref fa) ->
   ∃ fd:FuncData,(∀ (s:Shared) (u:Value),BindsTo s fd ⟨[u],[]⟩ [(x,u)]) /\
    ∀ base:Heap,(K w.params).In base->base.Ns mainGlobals mg->FnOk l.prog w (K w.params) mg base (CX w) k fa fd [x] (sp w))
  (hsp:∀ (w:World) (H:Hp) (a:Addr) (ns:List Int),ns.length<=n->Only H->SqL (K w.params) H a (ns.map V.int)->sp w [.ref a] H (λv _=>v=.bl true) λ_ _ _=>False)
  (hCX:∀ (w:World) (H:Hp) (s:Shared) (e:Value) (s':Shared),CX w [] H s (λ_ _ _=>False) e s'->False) :
  PySem.W.WalkO q loose XP YP l.row.toRowW d [] (λf vs=>PySem.call f vs):=by
 refine Att.attach_call hn hdf λw s₀ s₁ mg mb fa o pm cd doc a vs ns G Y ho hd hcd hmg hobj hints hlen hg=>?_;have KX:=hY w _ Y;obtain⟨fd,hb,hF⟩:=F w mg fa _ KX G.T.g hmg;exact Q8s KX G.T.g G.T.b G.T.builtins G.T.nolimit hg hobj hints (Zr hlen hn2) hr hF hb (λH hO hS=>hsp w H a ns hlen hO hS) λH e s'=>hCX w H s₁ e s'
noncomputable def inClass(s:Stmt)(j:Nat):Stmt:=match s with
 | .ClassDef _ _ _ body _ _ _ _ _ _ _=>body.getD j (.Pass ⟨0,0,0,0⟩)
 | _=>.Pass ⟨0,0,0,0⟩
noncomputable def zaj(s:Stmt):Arguments:=match s with
 | .FunctionDef _ a _ _ _ _ _ _ _ _=>a
 | _=>{ posonlyargs:=[],args:=[],vararg:=none,kwonlyargs:=[],kw_defaults:=[],kwarg:=none,defaults:=[] }
noncomputable def zae(s:Stmt):List Stmt:=match s with
 | .FunctionDef _ _ b _ _ _ _ _ _ _=>b
 | _=>[]
noncomputable def za5(s:Stmt):Scope:=match s with
 | .FunctionDef _ _ _ _ _ _ sc _ _ _=>sc
 | _=>{ kind:=.function,names:=[],isGenerator:=false,isCoroutine:=false }
noncomputable abbrev CX0:CXT:=λ_ _ _ _ _ _=>False
noncomputable abbrev E0:XK:=λ_ _ _=>False
theorem pass0:zay CX0 X E0:=λ_ _ _ _ _ _ _ h=>h.elim
structure Fun(K:Frag)(x qual:Str)(st:Stmt)(f:Addr)(fd:FuncData):Prop where
 ex:∃ (oc:Value) (od:Option Addr) (kV doc pm:Value) (an:Option Addr) (cdv ct:Value) (osl:Array (Option Value)),
  fd=fnOf x qual (zaj st) (zae st) (za5 st) .none kV doc pm an cdv ct/\K.lookup f=some ⟨oc,od,.func fd,osl⟩/\codeIn K cdv qual=true
 kp:keepIn K (.ref f)=true
section
variable{P:Program}{w:World}{K:Frag}{mg:Str->Option Value}{base:Heap}
theorem Fun.binds{x qual:Str}{st:Stmt}{f:Addr}{fd:FuncData}{ps:List Str}(F:Fun K x qual st f fd)
  (h:∀ (kV doc pm:Value) (an:Option Addr) (cdv ct:Value) (us:List Value),us.length=ps.length->bindArgs (fnOf x qual (zaj st) (zae st) (za5 st) .none kV doc pm an cdv ct) ⟨us,[]⟩=pure (ps.zip us)):Binds K fd ps []:=by
 obtain⟨oc,od,kV,doc,pm,an,cdv,ct,osl,rfl,lk,hcd⟩:=F.ex;exact .all (h kV doc pm an cdv ct)
theorem Q6z{x qual:Str}{st:Stmt}{f:Addr}{oc:Value}{od an:Option Addr}{osl:Array (Option Value)}{kV doc pm cdv ct:Value}(l:K.lookup f=some ⟨oc,od,.func (fnOf x qual (zaj st) (zae st) (za5 st) .none kV doc pm an cdv ct),osl⟩)
  (c:codeIn K cdv qual=true) (k:keepIn K (.ref f)=true):Fun K x qual st f (fnOf x qual (zaj st) (zae st) (za5 st) .none kV doc pm an cdv ct):=⟨⟨oc,od,kV,doc,pm,an,cdv,ct,osl,rfl,l,c⟩,k⟩
end
theorem small1000(h:n<=1000):n<sizeLine:=ZM h (by decide)
section
variable{X:Cx}
theorem pv(i:Nat)(hN:X.N[i]? = some x:=by rfl)(hv:Vis X.env.scope x:=by first | exact Or.inl rfl | exact Or.inr (Or.inl rfl) | exact Or.inr (Or.inr rfl))(hd:(x==("__debug__" : Str))=false:=by decide)
  (hcd:(x==("__classdict__" : Str))=false:=by decide):PE X (.Name x pos) (tVar i):=Q9H hN hv hd hcd
end
theorem iteF{A B:Prop}(h:B):if false=true then A else B:=by
 rw[Zd Zv];exact h
theorem iteT{A B:Prop}(h:A):if true=true then A else B:=by
 rw[Zg rfl];exact h
theorem ite2{c A B:Prop}[Decidable c](h1:c->A)(h2:¬ c->B):if c then A else B:=by
 by_cases h:c
 ·rw[Zg h];exact h1 h
 ·rw[Zd h];exact h2 h
section
variable{X:Cx}{pos:Pos}
end
theorem PE.imp(h:PE X e T)(i:∀ σ H Q,T' σ H Q->T σ H Q):PE X e T':=λpins s σ H Q I q=>h pins s σ H Q I (i σ H Q q)
theorem PT.imp(h:PT X e T)(i:∀ σ H Q,T' σ H Q->T σ H Q):PT X e T':=λpins s σ H Q I q=>h pins s σ H Q I (i σ H Q q)
theorem PW.imp(h:PW X e T)(i:∀ σ H Q,T' σ H Q->T σ H Q):PW X e T':=λwh pins s σ H Q I q=>h wh pins s σ H Q I (i σ H Q q)
theorem PA.imp(h:PA X e T)(i:∀ σ H Q,T' σ H Q->T σ H Q):PA X e T':=λpos pins s σ H Q I q=>h pos pins s σ H Q I (i σ H Q q)
theorem PS.imp{X:Cx}{st:Stmt}{T T':TS}(h:PS X st T)(i:∀ D σ H,T' D σ H->T D σ H):PS X st T':=λpins s σ H D I q=>h pins s σ H D I (i D σ H q)
theorem PSs.imp{X:Cx}{st:List Stmt}{T T':TS}(h:PSs X st T)(i:∀ D σ H,T' D σ H->T D σ H):PSs X st T':=λpins s σ H D I q=>h pins s σ H D I (i D σ H q)
theorem PI.imp(h:PI X tg it T)(i:∀ σ H R,T' σ H R->T σ H R):PI X tg it T':=λpins s σ H R I q=>h pins s σ H R I (i σ H R q)
theorem PG.imp(h:PG X tg T)(i:∀ v σ H R,T' v σ H R->T v σ H R):PG X tg T':=λpins s σ H v u R I r q=>h pins s σ H v u R I r (i v σ H R q)
theorem OpR.imp{f:Value->Value->Sem Value}(h:OpR X f T)(i:∀ x y H Q,T' x y H Q->T x y H Q):OpR X f T':=λpins s σ H x y v u Q I a b q=>h pins s σ H x y v u Q I a b (i x y H Q q)
theorem Inv.frozen(I:Inv X pins σ H s)(h:H a=some (.lst xs)) :
  ∃ o,Inv X pins σ (upd H a (.frz o (.lst xs))) s:=by
 obtain⟨z,its,n,r,e⟩:=I.hok a _ h;refine⟨{ cls:=.type "list",data:=.seq its.toArray n },I.un (h':=s.heap) (t':=s.toks) ⟨λb u q _ _ _=>q,λb u q _ _ _=>⟨u.slots,q⟩,λb u _ q _=>?_,λb u q _=>⟨u,q⟩,λb ys q=>?_,λb u ys q=>?_,λb ps q=>?_⟩ λb u q=>?_⟩
 ·rw[Q0d λw=>by rw[w,h]at q;cases q];exact q
 ·rw[Q0d λw=>by rw[w,h]at q;cases q];exact q
 ·rw[Q0d λw=>by rw[w,h]at q;cases q];exact q
 ·exact⟨#[],by rw[Q0d (λw=>by rw[w,h]at q;cases q),q];simp⟩
 ·by_cases hb:b=a
  ·subst hb;rw[Q0g]at q;cases q;exact⟨e,z,its,n,r,e⟩
  ·rw[Q0d hb]at q;exact (I.hok b u q).stay (λ_ _ _ q=>q) (λc q=>by rw[Q0d λw=>by rw[w,h]at q;cases q];exact q) λc ys q=>by rw[Q0d λw=>by rw[w,h]at q;cases q];exact q
def tFrz(T:TE):TE:=λσ H Q=>T σ H λv H'=>∃ a xs,v=.ref a/\H' a=some (.lst xs)/\∀ o,Q v (upd H' a (.frz o (.lst xs)))
theorem Q6A(h:PE X e T):PE X e (tFrz T):=by
 intro pins s σ H Q I q;refine thn (h pins s σ H _ I q) λu s' zz=>?_;obtain⟨v,H',I',r,a,xs,ev,ha,k⟩:=zz;obtain⟨o,I2⟩:=I'.frozen ha;exact⟨v,_,I2,r,k o⟩
theorem Q4D(env:Env):∀ (names:List (Str×NameKind)) (cs:List (Str×Addr)),(∀ y∈names,y.2=.free->∃ c,env.cells.lookup y.1=some c)->(∀ y c,cs.lookup y=some c->env.cells.lookup y=some c) ->
  ∃ cl:List (Str×Addr),(forIn names cs (λx r=>match x with | (name,kind)=>if (kind==.free)=true then (cellOf env name >>= λc=>pure (ForInStep.yield ((name,c)::r)):Sem _) else pure (ForInStep.yield r)))=(pure cl:Sem _) /\
   (∀ y c,cl.lookup y=some c->env.cells.lookup y=some c)/\(∀ y∈names,y.2=.free->∃ c,cl.lookup y.1=some c)/\(∀ y c,cs.lookup y=some c->∃ c',cl.lookup y=some c')
 | [],cs,_,h2=>⟨cs,rfl,h2,(λ_ h=>absurd h ZA),λy c h=>⟨c,h⟩⟩
 | (n,k)::r,cs,h1,h2=>by
  have h1':∀ y∈r,y.2=.free->∃ c,env.cells.lookup y.1=some c:=λy hy=>h1 y (Zo _ hy);by_cases hk:k=.free
  ·subst hk;obtain⟨c,hc⟩:=h1 (n,.free) Zp rfl;have h2':∀ y d,((n,c)::cs).lookup y=some d->env.cells.lookup y=some d:=λy d e=>by
    rw[ZP]at e;cases hy:y==n with
    | true =>
     rw[hy]at e;have:y=n:=by simpa using hy
     subst this;cases e;exact hc
    | false=>rw[hy]at e;exact h2 y d e
   obtain⟨cl,e,p1,p2,p3⟩:=Q4D env r ((n,c)::cs) h1' h2';refine⟨cl,?_,p1,λy hy hf=>?_,λy d hd=>?_⟩
   ·rw[List.forIn_cons];have ec:cellOf env n=pure c:=by unfold cellOf;rw[hc]
    erw[beq_self_eq_true,Yj,ec,pure_bind];exact e
   ·rcases Z1.mp hy with q | q
    ·subst q;exact p3 n c (by simp[ZP])
    ·exact p2 y q hf
   ·by_cases hy:y=n
    ·subst hy;exact p3 y c (by simp[ZP])
    ·exact p3 y d (by rw[ZP,show (y==n)=false by simpa using hy];exact hd)
  ·obtain⟨cl,e,p1,p2,p3⟩:=Q4D env r cs h1' h2;refine⟨cl,?_,p1,λy hy hf=>?_,p3⟩
   ·rw[List.forIn_cons];have ek:(k==NameKind.free)=false:=by simpa using hk
    erw[ek,ZN,ZU,pure_bind];exact e
   ·rcases Z1.mp hy with q | q
    ·subst q;exact absurd hf hk
    ·exact p2 y q hf
theorem Qas(h:∀ y∈scope.names,y.2=.free->∃ c,env.cells.lookup y.1=some c) :
  ∃ cl,closureFor scope env=pure cl/\(∀ y c,cl.lookup y=some c->env.cells.lookup y=some c)/\(∀ y∈scope.names,y.2=.free->∃ c,cl.lookup y.1=some c):=by
 obtain⟨cl,e,p1,p2,_⟩:=Q4D env scope.names [] h (λy c q=>by simp at q)
 refine⟨cl,?_,p1,p2⟩;unfold closureFor;erw[bind_pure_comp,map_pure]at e ⊢
 first
  | exact e
  | (rw[e];rfl)
  | (erw[e];rfl)
theorem Q8t{R:Result->Shared->Prop}(I:Nat->Shared->Prop){EE:Value->Shared->Prop}
  (hE:∀ e s',EE e s'->notedBy (model prog w) A env (λe s'=>R (.error e) s') e s')
  (turn:∀ n s,I n s->wpAny (model prog w) A (pyNext it) (λr s₁=>match r with
   | none=>R (.ok .next) s₁
   | some v=>wpAny (model prog w) A (letOwnedTupleGo target it v) (λ_ s₂=>wpAny (model prog w) A (assign target env v) (λ_ s₂ =>
     wpAny (model prog w) A (forIn ifs true λc r=>if r=true then do let ok <- isTrue c env (eval c env);pure (ForInStep.yield ok) else pure (ForInStep.yield r)) (λok s₃ =>
      if ok=true then wpAny (model prog w) A (eval elt env) (λx s₄ =>
       wpAny (model prog w) A (call (.builtin "list.append") [acc,x]) (λ_ s₅=>∃ m,m<n/\I m s₅) EE s₄) EE s₃
      else ∃ m,m<n/\I m s₃) EE s₂) EE s₂) EE s₁) EE s)
  (n:Nat) (h:I n s) :
  codeAny (model prog w) A (.compLoop (.ListComp elt [⟨target,iter,ifs,0⟩] scope pos) 0 it acc env) R s:=by
 refine codeAny_loop rfl I (λn s hI=>?_) n h;show wpAny _ A ((compTurn (.ListComp elt [⟨target,iter,ifs,0⟩] scope pos) 0 it acc env).onRaise (λx=>do noteFrame x env;theTreesLotGoes x)) _ _ s
 refine wpAny_noted (Yv (E:=EE) ?_ (λ_ _ q=>q) λe s' q=>hE e s' q);rw[compTurn_list];refine Za (wpAny_standAt (Za (Yv (turn n s hI) (λr s₁ h₁=>?_) λ_ _ h'=>h')));cases r with
 | none=>exact Zc h₁
 | some v =>
  refine Za (Yv h₁ (λ_ s₂ h₂=>Za (Yv h₂ (λ_ s₃ h₃=>Za (Yv h₃ (λok s₄ h₄=>?_) λ_ _ h'=>h')) λ_ _ h'=>h')) λ_ _ h'=>h');cases ok with
  | false=>exact Zc ⟨rfl,h₄⟩
  | true =>
   exact Za (Za (Yv h₄ (λx s₅ h₅=>Za (Yv h₅ (λ_ s₆ h₆=>Zc (Zc ⟨rfl,h₆⟩)) λ_ _ h'=>h')) λ_ _ h'=>h'))
noncomputable def za3(X:Cx)(scope:Scope)(N:List Str)(cl:List (Str×Addr))(C:Addr)(s₀:Shared)(H₀:Hp)(ex:List Addr)(E:Value->Shared->Prop):Cx :=
 {X with N:=N,s₀:=s₀,H₀:=H₀,env:=compEnvC scope cl C X.env,outer:=X.stack,ex:=ex,fn:=λ_=>false,pn:=[],xe:=E }
def PIfs(X:Cx)(ifs:List Expr)(t:TT):Prop :=
 ∀ (pins:List (Addr×Obj)) (s:Shared) (σ:St) (H:Hp) (Q:Bool->Hp->Prop),Inv X pins σ H s->t σ H Q ->
  wpAny (model X.prog X.w) X.A (forIn ifs true λc r=>if r=true then do let ok <- isTrue c X.env (eval c X.env);pure (ForInStep.yield ok) else pure (ForInStep.yield r)) (TP X pins σ Q) X.xe s
theorem Q8u:PIfs X [] (λ_ H Q=>Q true H):=λ_ _ _ H _ I q=>wpAny_tests_nil ⟨H,I,q⟩
theorem Q8v(h:PT X c t):PIfs X [c] t:=λpins s σ H Q I q=>wpAny_tests_one (h pins s σ H Q I q)
structure zaz(sc:Scope)(scope:Scope)(N:List Str)(k:Nat)(fn:List Str):Prop where
 kind:scope.kind=.function
 cell:∀ y∈scope.names,y.2≠.cell
 names:∀ y∈scope.names,y.2=.local->scope.names.lookup y.1=some .local
 free:∀ y∈scope.names,y.2=.free->sc.names.lookup y.1=some .cell\/sc.names.lookup y.1=some .free
 nd:N.Nodup
 tail:N.drop k=fn
 len:N.length=k+fn.length
 fnk:∀ y∈fn,(sc.names.lookup y=some .cell\/sc.names.lookup y=some .free)/\scope.names.lookup y=some .free
theorem Q1p{env:Env}:∀ {names:List (Str×NameKind)} {x:Str} {k:NameKind},
  (names.map λ(n,k)=>if (k==NameKind.free&&env.scope.kind==.function&&env.kindOf n==some .cell) then (n,NameKind.cell) else (n,k)).lookup x=some k->k=.cell\/k=.free->(∀ y∈names,y.2≠.cell)->(x,NameKind.free)∈names
 | [],_,_,h,_,_=>by simp at h
 | (n,k)::r,x,k',h,hk,hc=>by
  have ih:=@Q1p env r x k';rw[ZC,ZP]at h;by_cases hx:x=n
  ·subst hx;by_cases hcnd:(k==NameKind.free&&env.scope.kind==.function&&env.kindOf x==some .cell)=true
   ·have:k=.free:=by
     erw[Zk,Z5]at hcnd;exact hcnd.1.1
    subst this;exact Zp
   ·have e:(if (k==NameKind.free&&env.scope.kind==.function&&env.kindOf x==some .cell)=true then (x,NameKind.cell) else (x,k))=(x,k):=Zd hcnd
    rw[e]at h;simp at h;subst h;rcases hk with rfl | rfl
    ·exact absurd rfl (hc _ Zp)
    ·exact Zp
  ·have hne:(x==n)=false:=by simpa using hx
   refine Zo _ (ih ?_ hk λy hy=>hc y (Zo _ hy));split at h
   ·rename_i w;split at w <;> simp_all
   ·exact h
theorem Q1q{env:Env}:∀ {names:List (Str×NameKind)} {x:Str},names.lookup x=some .free ->
  (names.map λ(n,k)=>if (k==NameKind.free&&env.scope.kind==.function&&env.kindOf n==some .cell) then (n,NameKind.cell) else (n,k)).lookup x=some .cell \/
  (names.map λ(n,k)=>if (k==NameKind.free&&env.scope.kind==.function&&env.kindOf n==some .cell) then (n,NameKind.cell) else (n,k)).lookup x=some .free
 | [],_,h=>by simp at h
 | (n,k)::r,x,h=>by
  have ih:=@Q1q env r x;rw[ZC];dsimp only;rw[ZP]at h;by_cases hx:x=n
  ·subst hx;erw[beq_self_eq_true]at h;cases h;by_cases hc:(NameKind.free==NameKind.free&&env.scope.kind==.function&&env.kindOf x==some .cell)=true
   ·rw[Zg hc];left;simp[ZP]
   ·rw[Zd hc];right;simp[ZP]
  ·have hne:(x==n)=false:=by simpa using hx
   rw[hne]at h;have ih':=ih h;by_cases hc:(k==NameKind.free&&env.scope.kind==.function&&env.kindOf n==some .cell)=true
   ·rw[Zg hc];erw[ZP,hne];exact ih'
   ·rw[Zd hc];erw[ZP,hne];exact ih'
theorem Q3d:∀ {names:List (Str×NameKind)},names.lookup x=some k->(x,k)∈names
 | [],h=>by simp at h
 | (n,j)::r,h=>by
  rw[ZP]at h;by_cases hx:x=n
  ·subst hx;erw[beq_self_eq_true]at h;cases h;exact Zp
  ·have hne:(x==n)=false:=by simpa using hx
   rw[hne]at h;exact Zo _ (Q3d h)
section
variable{X:Cx}{pins:List (Addr×Obj)}{σ:St}{H H':Hp}{s s':Shared}{scope:Scope}{N fn:List Str}{k:Nat}{cl:List (Str×Addr)}{C acc:Addr}{fp:List Addr}{E:Value->Shared->Prop}{h₁:Heap}{tk:Nat}
noncomputable def zb3(X:Cx)(σ:St)(ix:List Nat):St:=ix.map λi=>(σ[i]?).getD none
theorem Inv.comp(I:Inv X pins σ H s)(ok:zaz X.env.scope scope N k fn){ix:List Nat}(hix:ix.map (λi=>X.N[i]?)=fn.map some)
  (p1:∀ y c,cl.lookup y=some c->X.env.cells.lookup y=some c) (p2:∀ y∈scope.names,y.2=.free->∃ c,cl.lookup y.1=some c)
  (hC:s.heap.objs.size<=C) (hns:h₁.Ns C λ_=>none) (old:∀ b o,s.heap.get? b=some o->h₁.get? b=some o)
  (hfp:∀ b∈fp,FpOk X pins H b) (hlt:∀ b∈fp,b<s.heap.objs.size) :
  Inv (za3 X scope N cl C s H fp E) [] (List.replicate k none++zb3 X σ ix) H { s with heap:=h₁,toks:=tk }:=by
 have hlen:ix.length=fn.length:=by
  have:=congrArg List.length hix;simpa using this
 refine⟨⟨I.ok.mod,ok.kind,I.ok.glob,I.ok.blt,hC,λx y c h1 h2=>I.ok.inj x y c (p1 x c h1) (p1 y c h2),λx hx=>?_,λx c h=>(nomatch h),I.ok.hd,I.ok.frames,.inl rfl,λb hb=>⟨ZO (ZB (hlt b hb) hC),λx c h=>(hfp b hb).2.2.2.2.1 x c (p1 x c h)⟩,I.bs,Zr I.ok.bsz I.sz,λb o e hb=>?_,λb hb hs=>?_,I.stack,I.stkFree⟩,
  rfl,I.bare,Un.kept old,⟨_,hns,λi x v h1 h2 h3=>?_⟩,λx c h=>?_,I.hok.fresh hC,λx c h=>I.freeC x c (p1 x c h),λp hp=>absurd hp ZA,I.hok.kept old,?_⟩
 ·have hm:(x,NameKind.free)∈scope.names:=by
   rcases hx with h | h
   ·exact Q1p h (.inl rfl) ok.cell
   ·exact Q1p h (.inr rfl) ok.cell
  exact p2 _ hm rfl
 ·rcases (hfp b hb).2.2.2.1 with z | z
  ·exact I.ok.noex b o e z
  ·have h1:b<X.base.objs.size:=Zt e;have h2:=I.ok.bsz;exact absurd (ZB h1 (Zr h2 z)) (lt_irrefl _)
 ·rcases Z1.mp (I.stkSub b hs) with z | z
  ·exact (hfp b hb).2.1 z
  ·exact (hfp b hb).2.2.1 z
 ·-- the names from around
  have hi:k<=i:=by
   refine le_of_not_lt λq=>?_;rw[ZZ (by simpa using q),List.getElem?_replicate_of_lt q]at h2
   cases h2
  rw[ZK (by simpa using hi),length_replicate]at h2
  unfold zb3 at h2;rw[Zx]at h2;cases hj:ix[i-k]? with
  | none=>rw[hj]at h2;cases h2
  | some j =>
   rw[hj]at h2;have h2':(σ[j]?).getD none=some v:=by simpa using h2
   have hσ:σ[j]? = some (some v):=by
    cases q:σ[j]? with
    | none=>rw[q]at h2';cases h2'
    | some o=>rw[q]at h2';simpa using h2'
   have hNi:fn[i-k]? = some x:=by
    have e:(N.drop k)[i-k]? = N[i]?:=by rw[getElem?_drop];congr 1;room
    rw[ok.tail]at e;exact e.trans h1
   have hNj:X.N[j]? = some x:=by
    have e:=congrArg (λl=>l[i-k]?) hix;erw[Zx,hj,hNi,ZW]at e;simpa using e
   obtain⟨hk1,hk2⟩:=ok.fnk x (Z6 hNi);obtain⟨m,hm,hl⟩:=I.loc;obtain⟨u,r,l⟩:=hl j x v hNj hσ (by rcases hk1 with z | z;exact .inr (.inl z);exact .inr (.inr z))
   refine⟨u,r,.inr ⟨Q1q hk2,?_⟩⟩;rcases l with ⟨z,_⟩ | ⟨_,c,hc,hcell⟩
   ·have z':X.env.scope.names.lookup x=some .local:=z;rcases hk1 with q | q <;> (rw[q]at z';cases z')
   ·obtain⟨c',hc'⟩:=p2 (x,.free) (Q3d hk2) rfl;have e:=p1 x c' hc';rw[hc]at e;cases e;obtain⟨o,ho,hd⟩:=hcell;exact⟨c,hc',o,old c o ho,hd⟩
 ·obtain⟨v,o,ho,hd⟩:=I.cell x c (p1 x c h);exact⟨v,o,old c o ho,hd⟩
 ·rw[Zl,length_replicate];show k+(zb3 X σ ix).length=N.length;unfold zb3;rw[Zb,ok.len,hlen]
theorem Inv.uncomp(I:Inv X pins σ H s)(I':Inv (za3 X scope N cl C s H fp E) pins' σ' H' s')(hfp:∀ b∈fp,FpOk X pins H b)
  (ha:s.heap.objs.size<=acc) (hn:H' acc=none) (hl:s'.heap.PlainList acc its.toArray) (hv:Vals ys its) (hz:ys.length<=sizeLine):Inv X pins σ (upd H' acc (.lst ys)) s':=by
 have b0:Un (frs X.stack) fp H H' s.heap s'.heap:=I'.base;have ne:∀ {b:Addr} {o:Obj},s.heap.get? b=some o->b≠acc:=λe=>ZO (ZB (Zt e) ha);have neH:∀ {b:Addr} {o:HO},H b=some o->b≠acc:=λe=>ZO (ZB (I.hok.lt e) ha);obtain⟨n,hget⟩:=hl;refine I.call' I'.os ⟨b0.keep,b0.slot,λb o e n hb=>?_,b0.there,λb xs e=>?_,λb o xs e=>?_,λb ps e=>?_⟩ (λb u e=>?_) I'.bare λb hb=>⟨(hfp b hb).2.2.2.1,(hfp b hb).2.1,(hfp b hb).2.2.2.2.1,(hfp b hb).2.2.2.2.2⟩
 ·rw[Q0d (ne e)];exact b0.free b o e n hb
 ·rw[Q0d (neH e)];exact b0.tups b xs e
 ·rw[Q0d (neH e)];exact b0.frzs b o xs e
 ·rw[Q0d (neH e)];exact b0.tbls b ps e
 ·by_cases hb:b=acc
  ·subst hb;rw[Q0g]at e;cases e;exact⟨hz,its,n,hv,hget⟩
  ·rw[Q0d hb]at e;exact (I'.hok b u e).stay (λ_ _ _ q=>q) (λc q=>by rw[Q0d (Q0k q hn)];exact q) λc xs q=>by rw[Q0d (Q0k q hn)];exact q
end
noncomputable abbrev XF:Value->Shared->Prop:=λ_ _=>False
def tComp(wi:TI)(k:Nat)(ix:List Nat)(g:TG)(tc:TT)(te:TE):TE:=λσ H Q=>wi σ H λJ H1=>∃ W:Nat->Nat->List V->Hp->Prop,(∃ m,W 0 m [] H1)/\∀ i m ys H,W i m ys H ->
 (J.stop i H/\ys.length<=sizeLine/\∀ a,H a=none->Q (.ref a) (upd H a (.lst ys))) \/
 (J.go i H/\∀ y H',J.yld i H y H'->g y (List.replicate k none++ix.map (λi=>(σ[i]?).getD none)) H' λσ2 H2=>σ2.drop k=ix.map (λi=>(σ[i]?).getD none)/\σ2.length=k+ix.length/\tc σ2 H2 λb H3 =>
  if b=true then te σ2 H3 λz H4=>ys.length<sizeLine/\∃ m',m'<m/\W (i+1) m' (ys++[z]) H4 else ∃ m',m'<m/\W (i+1) m' ys H3)
section
variable{X:Cx}{pins:List (Addr×Obj)}{σ:St}{H:Hp}{s:Shared}{scope:Scope}{N fn:List Str}{k:Nat}{ix:List Nat}{elt tg iter:Expr}{ifs:List Expr}{pos:Pos}{g:TG}{tc:TT}{te:TE}
theorem Q6B(I:Inv X pins σ H s)(ok:zaz X.env.scope scope N k fn) :
  ∃ cl,closureFor scope X.env=pure cl/\(∀ y c,cl.lookup y=some c->X.env.cells.lookup y=some c)/\(∀ y∈scope.names,y.2=.free->∃ c,cl.lookup y.1=some c) :=
 Qas λy hy hf=>I.ok.has y.1 (ok.free y hy hf)
end
noncomputable abbrev XC:=Value×Option (Int×Addr)
section
variable{M:Model}{A:Around}{E:Value->Shared->Prop}{s:Shared}
end
def CX1(P:Program)(w:World):CXT:=λ_ _ _ _ _ _=>False
structure XS(X:Cx)(pins:List (Addr×Obj))(σ:St)(H:Hp)(s:Shared)(a:Addr)(cls:XC):Prop where
 no:False
section
variable{X:Cx}{pins:List (Addr×Obj)}{σ:St}{H H':Hp}{s s':Shared}{a:Addr}{cls:XC}{E:XK}
structure Top(X:Cx):Prop where
 ex:∃ e0 r L,X.stack=e0::r/\e0.frame=some L/\X.env.frame=some L
end
section
variable{X:Cx}{pins:List (Addr×Obj)}{σ:St}{H:Hp}{s:Shared}{a C f:Addr}{cls:XC}{x:Str}{e:Expr}{es:List Expr}{t:TA}{np cpos pos p:Pos}{k:Nat}{fd:FuncData}{ps:List Str}{sp:Sp}{dvs:List V}{ds:List Value}
noncomputable abbrev XR:=XC->St->Hp->Prop
def zal(X:Cx)(R:XR):Prop:=∀ pins σ H s a cls,XS X pins σ H s a cls->R cls σ H->X.xe (.ref a) s
def xeOf(X:Cx)(R:XR):Value->Shared->Prop:=λe s=>∃ pins σ H a cls,e=.ref a/\XS X pins σ H s a cls/\R cls σ H
theorem XS.unwish{E:Value->Shared->Prop}(x:XS (X.wish E) pins σ H s a cls):XS X pins σ H s a cls:=⟨x.no⟩
theorem Q8w(R:XR):zal (X.wish (xeOf X R)) R:=λpins σ H s a cls x r=>⟨pins,σ,H,a,cls,rfl,x.unwish,r⟩
end
section
variable{X:Cx}{pins:List (Addr×Obj)}{σ:St}{H:Hp}{s:Shared}{scope:Scope}{N fn:List Str}{k:Nat}{ix:List Nat}{elt tg iter:Expr}{ifs:List Expr}{pos:Pos}{g:TG}{tc:TT}{te:TE}
theorem Q2y{EX:List (Str×Addr)->Addr->Shared->Hp->List Addr->Value->Shared->Prop}{tn:Nat->Heap->Prop}{RR:Value->Addr->Result->Shared->Prop}{E:Value->Shared->Prop}{R:List V->Hp->Prop}
  (hc:X.calm=true) (ok:zaz X.env.scope scope N k fn) (hix:ix.map (λi=>X.N[i]?)=fn.map some)
  (hg:∀ cl C s₀ H₀ ex,PG (za3 X scope N cl C s₀ H₀ ex (EX cl C s₀ H₀ ex)) tg g) (ht:∀ cl C s₀ H₀ ex,PIfs (za3 X scope N cl C s₀ H₀ ex (EX cl C s₀ H₀ ex)) ifs tc) (he:∀ cl C s₀ H₀ ex,PE (za3 X scope N cl C s₀ H₀ ex (EX cl C s₀ H₀ ex)) elt te)
  (p1:∀ y c,cl.lookup y=some c->X.env.cells.lookup y=some c) (p2:∀ y∈scope.names,y.2=.free->∃ c,cl.lookup y.1=some c)
  (I2:Inv X pins σ H s) (T:Turn X.prog X.w X.K tg J fp it tn) (st2:tn 0 s.heap) (f2:∀ b∈fp,FpOk X pins H b)
  (W:Nat->Nat->List V->Hp->Prop) (w0:∃ m,W 0 m [] H)
  (turn:∀ i m ys H,W i m ys H ->
   (J.stop i H/\ys.length<=sizeLine/\R ys H) \/
   (J.go i H/\∀ y H',J.yld i H y H'->g y (List.replicate k none++ix.map (λi=>(σ[i]?).getD none)) H' λσ2 H2=>σ2.drop k=ix.map (λi=>(σ[i]?).getD none)/\σ2.length=k+ix.length/\tc σ2 H2 λb H3 =>
    if b=true then te σ2 H3 λz H4=>ys.length<sizeLine/\∃ m',m'<m/\W (i+1) m' (ys++[z]) H4 else ∃ m',m'<m/\W (i+1) m' ys H3))
  (hE:∀ acc C e s',EX cl C s H fp e s'->notedBy (model X.prog X.w) X.A (compEnvC scope cl C X.env) (λe s'=>RR (.ref acc) C (.error e) s') e s')
  (fin:∀ ys a C H' s' m,H' a=none->R ys H'->Inv X pins σ (upd H' a (.lst ys)) s'->FpOk X pins (upd H' a (.lst ys)) C->s'.heap.Ns C m->RR (.ref a) C (.ok .next) s') :
  wpAny (model X.prog X.w) X.A (newList []) (λacc s₃=>wpAny (model X.prog X.w) X.A (newFunctionEnv scope X.env.globals cl [] X.env.qual none .none (some X.env)) (λcenv s₄ =>
   codeAny (model X.prog X.w) X.A (.compStart (.ListComp elt [⟨tg,iter,ifs,0⟩] scope pos) 0 (.ref it) acc { cenv with scope:=relabel scope X.env }) (RR acc cenv.locals) s₄) E s₃) E s:=by
 refine ZQ (wpAny_newFunctionEnv ok.cell (by intro y hy;simp at hy) (λh₁ hns₁ hsb₁=>?_) ok.kind)
 dsimp only at hns₁ hsb₁ ⊢;generalize hH2:s.heap.push { cls:=.type "list",dict:=none,data:=.seq ([]:List Value).toArray }=Hp2 at hns₁ hsb₁ ⊢;have hC:Hp2.objs.size=s.heap.objs.size+1:=by rw[<- hH2,Heap.size_push]
 have hDC:s.heap.objs.size≠Hp2.objs.size:=by rw[hC];exact ZO (lt_succ_self _)
 have hCle:s.heap.objs.size<=Hp2.objs.size:=by rw[hC];exact le_succ _
 have old:∀ b o,s.heap.get? b=some o->h₁.get? b=some o:=λb o e=>hsb₁.extBut b o (by have:=Zt e;rw[hC];exact ZO (Nat.lt_succ_of_lt this)) (Zj _ (hH2 ▸ Zj _ e))
 have hacc:h₁.PlainList s.heap.objs.size #[]:=⟨_,hsb₁.extBut _ _ hDC (Zj _ (hH2 ▸ Z0 _ rfl))⟩;have hlt:∀ b∈fp,b<s.heap.objs.size:=λb hb=>by
  obtain⟨o,e,_⟩:=T.obj _ _ st2 b hb;exact Zt e
 have hns0:h₁.Ns Hp2.objs.size λ_=>none:=by simpa using hns₁
 have I4:Inv (za3 X scope N cl Hp2.objs.size s H fp (EX cl Hp2.objs.size s H fp)) [] (List.replicate k none++zb3 X σ ix) H { s with heap:=h₁,toks:=s.toks+([]:List (Str×Value)).length } :=
  I2.comp ok hix p1 p2 hCle hns0 old f2 hlt
 generalize hCC:Hp2.objs.size=C at *;generalize hAA:s.heap.objs.size=acc at *;have hix2:ix.length=fn.length:=by have:=congrArg List.length hix;simpa using this
 -- what stays true of the iterator's objects and of the list
 have fpX:∀ {pins':List (Addr×Obj)} {H':Hp} {b:Addr},b∈fp->H' b=none->FpOk (za3 X scope N cl C s H fp (EX cl C s H fp)) [] H' b:=fun{pins' H' b} hb hn =>
  ⟨hn,(I4.ok.exf b hb).1,I4.ok.exfs b hb,.inl hb,(I4.ok.exf b hb).2,λp hp=>absurd hp ZA⟩
 have accX:∀ {H':Hp},H' acc=none->FpOk (za3 X scope N cl C s H fp (EX cl C s H fp)) [] H' acc:=fun{H'} hn =>
  ⟨hn,hDC,λz=>by
   have h1:=I2.stkSub acc z;rcases Z1.mp h1 with q | q
   ·exact absurd I2.lt (by rw[hAA,q];exact lt_irrefl _)
   ·exact I2.nofs (le_of_eq hAA) q,.inr (le_of_eq hAA),λx c e=>by
   obtain⟨v,o,ho,_⟩:=I2.cell x c (p1 x c e);have:=Zt ho;rw[hAA]at this;exact ZO this,λp hp=>absurd hp ZA⟩
 have loop:∀ s₃:Shared,s₃={ s with heap:=h₁,toks:=s.toks+([]:List (Str×Value)).length } ->
   codeAny (model X.prog X.w) X.A (.compLoop (.ListComp elt [⟨tg,iter,ifs,0⟩] scope pos) 0 (.ref it) (.ref acc) (compEnvC scope cl C X.env)) (RR (.ref acc) C) s₃:=by
  rintro s₃ rfl;obtain⟨m0,w0⟩:=w0;refine Q8t (EE:=EX cl C s H fp) (λn s'=>∃ i ys its H',Inv (za3 X scope N cl C s H fp (EX cl C s H fp)) [] (List.replicate k none++zb3 X σ ix) H' s'/\tn i s'.heap/\(∀ b∈fp,H' b=none)/\H' acc=none/\s'.heap.PlainList acc its.toArray/\Vals ys its/\W i n ys H')
   (λe s' q=>hE acc C e s' q) ?_ m0 ⟨0,[],[],H,I4,T.keep _ _ _ st2 λb _ o e=>old b o e,λb hb=>(f2 b hb).1,I2.hok.fresh (le_of_eq hAA),hacc,.nil,w0⟩
  rintro n s3 ⟨i,ys,its,H3,I3,st3,fr3,an3,pl3,rv3,w3⟩;obtain⟨nl,pe3⟩:=id pl3;have neA:∀ b∈fp,acc≠b:=λb hb=>by have:=hlt b hb;exact Ne.symm (ZO this)
  have mA:(acc,({ cls:=.type "list",data:=.seq its.toArray nl }:Obj))∈zax [acc] s3.heap:=Q0W Zp pe3;have ofA:∀ p∈zax [acc] s3.heap,p.1=acc:=λp hp=>Zh.mp (Q3H hp).1;have I3p:Inv (za3 X scope N cl C s H fp (EX cl C s H fp)) (zax [acc] s3.heap) (List.replicate k none++zb3 X σ ix) H3 s3 :=
   I3.pinned (fp:=[acc]) (λb hb=>by rw[Zh.mp hb];exact accX an3) (λb hb=>by
    rw[Zh.mp hb];exact⟨_,pe3,λv z=>nomatch z⟩)
  have fpP:∀ {H':Hp} {b:Addr},b∈fp->H' b=none->FpOk (za3 X scope N cl C s H fp (EX cl C s H fp)) (zax [acc] s3.heap) H' b:=fun{H' b} hb hn =>
   ⟨hn,(I4.ok.exf b hb).1,I4.ok.exfs b hb,.inl hb,(I4.ok.exf b hb).2,λp hp=>by
    have hp':p∈([]:List (Addr×Obj))++zax [acc] s3.heap:=hp;rw[ofA p (by simpa using hp')];exact neA b hb⟩
  rcases turn i n ys H3 w3 with ⟨stop,hz,q⟩ | ⟨go,step⟩
  ·refine thn (T.done (za3 X scope N cl C s H fp (EX cl C s H fp)) rfl rfl rfl hc i _ s3 _ H3 (EX cl C s H fp) I3p (λb hb=>fpP hb (fr3 b hb)) st3 stop) λr s4 ⟨hr,I4'⟩=>?_;subst hr;have pl4:s4.heap.PlainList acc its.toArray:=⟨nl,(I4'.pin _ (Zy _ mA)).1⟩;have Ix:=I2.uncomp (acc:=acc) I4' f2 (le_of_eq hAA) an3 pl4 rv3 hz;obtain⟨m,hm,_⟩:=I4'.loc;refine fin ys acc C H3 s4 m an3 q Ix ⟨?_,?_,?_,?_,?_,?_⟩ hm
   ·rw[Q0d (Ne.symm hDC)];exact I4'.free
   ·exact Ne.symm (ZO (ZB I2.lt (by rw[hAA];exact hCle)))
   ·exact I2.nofs (by rw[hAA];exact hCle)
   ·exact .inr (Zr I2.sz (by rw[hAA];exact hCle))
   ·intro x c e;obtain⟨v,o,ho,_⟩:=I2.cell x c e;have:=Zt ho;rw[hAA]at this;exact ZO (ZB this hCle)
   ·intro p hp;have:=Zt (I2.pin p hp).1;rw[hAA]at this;exact ZO (ZB this hCle)
  ·refine thn (T.item (za3 X scope N cl C s H fp (EX cl C s H fp)) rfl rfl rfl hc i _ s3 _ H3 (EX cl C s H fp) I3p (λb hb=>fpP hb (fr3 b hb)) st3 go) λr s4 ⟨u,hr,h4⟩=>?_;subst hr;refine thn h4 λ_ s5 ⟨x,H5,I5,r5,y5,st5,fr5⟩=>?_;have I5':=I5.pinned (λb hb=>fpP hb (fr5 b hb)) (T.obj _ _ st5);refine thn (hg _ _ _ _ _ _ s5 _ H5 x u _ I5' r5 (step x H5 y5)) λ_ s6 ⟨σ6,H6,I6,hσ6,hl6,q6⟩=>?_;have back:∀ {s7:Shared} {H7:Hp},Inv (za3 X scope N cl C s H fp (EX cl C s H fp)) (zax [acc] s3.heap++zax fp s5.heap) σ6 H7 s7 ->
     Inv (za3 X scope N cl C s H fp (EX cl C s H fp)) [] (List.replicate k none++zb3 X σ ix) H7 s7/\tn (i+1) s7.heap/\(∀ b∈fp,H7 b=none)/\H7 acc=none/\s7.heap.PlainList acc its.toArray:=fun{s7 H7} I7=>by
    refine⟨(I7.pins_of (pins':=[]) (λp hp=>absurd hp ZA)).weak ?_ ?_,T.keep _ _ _ st5 λb hb o e=>(I7.pin (b,o) (Zy _ (Zy _ (Q0W hb e)))).1,λb hb=>?_,?_,?_⟩
    ·unfold zb3;rw[Zl,length_replicate,Zb,hl6]
    ·intro j v hj;by_cases hjk:j<k
     ·rw[ZZ (by simpa using hjk),List.getElem?_replicate_of_lt hjk]at hj
      cases hj
     ·have hjk':k<=j:=le_of_not_lt hjk;rw[ZK (by simpa using hjk'),length_replicate]at hj
      have e:(σ6.drop k)[j-k]? = σ6[j]?:=by rw[getElem?_drop];congr 1;room
      rw[<- e,hσ6];exact hj
    ·obtain⟨o,e,d⟩:=T.obj _ _ st5 b hb;exact (I7.pin (b,o) (Zy _ (Zy _ (Q0W hb e)))).2.1
    ·exact (I7.pin _ (Zy _ (ZV _ mA))).2.1
    ·exact⟨nl,(I7.pin _ (Zy _ (ZV _ mA))).1⟩
   refine thn (ht _ _ _ _ _ _ s6 σ6 H6 _ I6 q6) λok s7 ⟨H7,I7,q7⟩=>?_;cases ok with
   | false =>
    have q7':∃ m',m'<n/\W (i+1) m' ys H7:=by simpa using q7
    obtain⟨m',hm',w7⟩:=q7';obtain⟨J7,t7,f7,a7,p7⟩:=back I7;exact (Zd Zv).mpr ⟨m',hm',i+1,ys,its,H7,J7,t7,f7,a7,p7,rv3,w7⟩
   | true =>
    refine (Zg rfl).mpr ?_;have q7':te σ6 H7 λz H4=>ys.length<sizeLine/\∃ m',m'<n/\W (i+1) m' (ys++[z]) H4:=by simpa using q7
    refine thn (he _ _ _ _ _ _ s7 σ6 H7 _ I7 q7') λuz s8 zz=>?_;obtain⟨z,H8,I8,r8,hz8,m',hm',w8⟩:=zz;obtain⟨J8,t8,f8,a8,p8⟩:=back I8;have hlen:=rv3.length;refine wpAny_list_append_plain (hsz:=by rw[ZF,<- hlen];exact le_of_lt hz8) p8 λh9 pl9 sb9=>?_
    obtain⟨x0,x1,x2,x3,x4,x5⟩:=accX a8;refine⟨m',hm',i+1,ys++[z],its++[uz],H8,J8.turned (t':=s8.toks) (λb o hb e=>(sb9.2 b hb).trans e) x0 x1 x3 x4 x5,T.keep _ _ _ t8 λb hb o e=>(sb9.2 b (Ne.symm (neA b hb))).trans e,f8,a8,?_,rv3.append (.cons r8 .nil),w8⟩;simpa using pl9
 exact codeAny_compStart_list (loop _ rfl) (T.self _ _ _ _ _ (T.keep _ _ _ st2 λb _ o e=>old b o e) (loop _ rfl))
theorem XS.uncomp{Rp:XR}{cl:List (Str×Addr)}{C:Addr}{fp:List Addr}{use:Option (Value->Sem Unit)}{Q:Value->Shared->Prop}{acc e:Value}{s':Shared}(hx:zal X Rp)(tp:Top X)(I2:Inv X pins σ H s)(f2:∀ b∈fp,FpOk X pins H b)
  (q:xeOf (za3 X scope N cl C s H fp XF) (λcls _ H'=>Rp cls σ H') e s') :
  notedBy (model X.prog X.w) X.A (compEnvC scope cl C X.env) (λe s'=>compPost (model X.prog X.w) X.A X.xe use Q acc C (.error e) s') e s':=by
 obtain⟨_,_,_,_,_,_,x,_⟩:=q;exact x.no.elim
theorem Q1w(R:XR):zal (za3 X scope N cl C s₀ H₀ ex (xeOf (za3 X scope N cl C s₀ H₀ ex XF) R)) R :=
 Q8w (X:=za3 X scope N cl C s₀ H₀ ex XF) R
section
variable{R0:XC->Hp->Prop}{wi:TI}
theorem Q5d(tp:Top X)(hx:zal X λcls _ H=>R0 cls H)(hc:X.calm=true)(ok:zaz X.env.scope scope N k fn)(hix:ix.map (λi=>X.N[i]?)=fn.map some)(hi:PI X tg iter wi)
  (hg:∀ cl C s₀ H₀ ex E,PG (za3 X scope N cl C s₀ H₀ ex E) tg g) (ht:∀ cl C s₀ H₀ ex E,zal (za3 X scope N cl C s₀ H₀ ex E) (λcls _ H=>R0 cls H)->PIfs (za3 X scope N cl C s₀ H₀ ex E) ifs tc) (he:∀ cl C s₀ H₀ ex E,zal (za3 X scope N cl C s₀ H₀ ex E) (λcls _ H=>R0 cls H)->PE (za3 X scope N cl C s₀ H₀ ex E) elt te)
  (hs:∀ x,foldedSetIterable iter X.env x=pure x:=by intro _;rfl):PE X (.ListComp elt [⟨tg,iter,ifs,0⟩] scope pos) (tComp wi k ix g tc te):=by
 intro pins s σ H Q I h;obtain⟨cl,hcl,p1,p2⟩:=Q6B I ok;rw[eval_ListComp];refine wpAny_comprehension_free (use:=none) rfl hs hcl ok.kind ok.names (thn (hi pins s σ H _ I h) λv s1 h1=>thn h1 λitv s2 h2=>?_);obtain⟨it,fp,tn,J,H2,e,I2,T,st2,f2,W,w0,turn⟩:=h2;subst e;refine Q2y (EX:=λcl C s₀ H₀ ex=>xeOf (za3 X scope N cl C s₀ H₀ ex XF) λcls _ H'=>R0 cls H') (RR:=λacc C=>compPost (model X.prog X.w) X.A X.xe none (EP X pins σ Q) acc C) (R:=λys H=>∀ a,H a=none->Q (.ref a) (upd H a (.lst ys))) hc ok hix
  (λcl C s₀ H₀ ex=>hg cl C s₀ H₀ ex _) (λcl C s₀ H₀ ex=>ht cl C s₀ H₀ ex _ (Q1w _)) (λcl C s₀ H₀ ex=>he cl C s₀ H₀ ex _ (Q1w _)) p1 p2 I2 T st2 f2 W w0 turn (λacc C e s' q=>XS.uncomp (Rp:=λcls _ H=>R0 cls H) hx tp I2 f2 q) ?_
 intro ys a C H' s' m ha q I' fC hm;refine⟨m,hm,λh' sb=>⟨.ref a,_,?_,rfl,q a ha⟩⟩;obtain⟨x0,x1,x2,x3,x4,x5⟩:=fC;exact I'.turned (t':=s'.toks) (λb o hb e=>(sb.2 b hb).trans e) x0 x1 x3 x4 x5
theorem Q2z(tp:Top X)(hx0:zal X λcls _ H=>R0 cls H)(hsw:swapsWith (.ListComp elt [⟨tg,iter,ifs,0⟩] scope pos) (some (.Name x pos')) spos.line X.env=pure true)
  (hN:X.N.Nodup) (hiN:X.N[i]? = some x) (hx:X.env.scope.names.lookup x=some .local) (hc:X.calm=true) (ok:zaz X.env.scope scope N k fn) (hix:ix.map (λi=>X.N[i]?)=fn.map some) (hi:PI X tg iter wi)
  (hg:∀ cl C s₀ H₀ ex E,PG (za3 X scope N cl C s₀ H₀ ex E) tg g) (ht:∀ cl C s₀ H₀ ex E,zal (za3 X scope N cl C s₀ H₀ ex E) (λcls _ H=>R0 cls H)->PIfs (za3 X scope N cl C s₀ H₀ ex E) ifs tc) (he:∀ cl C s₀ H₀ ex E,zal (za3 X scope N cl C s₀ H₀ ex E) (λcls _ H=>R0 cls H)->PE (za3 X scope N cl C s₀ H₀ ex E) elt te)
  (hs:∀ x,foldedSetIterable iter X.env x=pure x:=by intro _;rfl):PS X (.Assign [.Name x pos'] (.ListComp elt [⟨tg,iter,ifs,0⟩] scope pos) spos) (tAsg (tComp wi k ix g tc te) (zaW i)):=by
 intro pins s σ H D I h;obtain⟨cl,hcl,p1,p2⟩:=Q6B I ok;rw[exec_Assign_Name_used _ _ _ _ hsw];refine Za (wpAny_standAt (Za ?_));show wpAny _ X.A (do let _ <- comprehension (.ListComp elt [⟨tg,iter,ifs,0⟩] scope pos) scope X.env _ (newList []) false (eval iter X.env) (some (assign (.Name x pos') X.env))) _ _ s
 refine Za (Yv (wpAny_comprehension_free (use:=some (assign (.Name x pos') X.env)) (Q:=λ_ s'=>SP X pins D .next s') rfl hs hcl ok.kind ok.names
  (thn (hi pins s σ H _ I h) λv s1 h1=>thn h1 λitv s2 h2=>?_)) (λ_ s' hq=>Zc (Zc hq)) λ_ _ e=>e)
 obtain⟨it,fp,tn,J,H2,e,I2,T,st2,f2,W,w0,turn⟩:=h2;subst e;refine Q2y (EX:=λcl C s₀ H₀ ex=>xeOf (za3 X scope N cl C s₀ H₀ ex XF) λcls _ H'=>R0 cls H') (RR:=λacc C=>compPost (model X.prog X.w) X.A X.xe (some (assign (.Name x pos') X.env)) (λ_ s'=>SP X pins D .next s') acc C) (R:=λys H=>∀ a,H a=none->D.nx (σ.set i (some (.ref a))) (upd H a (.lst ys))) hc ok hix
  (λcl C s₀ H₀ ex=>hg cl C s₀ H₀ ex _) (λcl C s₀ H₀ ex=>ht cl C s₀ H₀ ex _ (Q1w _)) (λcl C s₀ H₀ ex=>he cl C s₀ H₀ ex _ (Q1w _)) p1 p2 I2 T st2 f2 W w0 turn (λacc C e s' q=>XS.uncomp (Rp:=λcls _ H=>R0 cls H) hx0 tp I2 f2 q) ?_
 intro ys a C H' s' m ha q I' fC hm;obtain⟨x0,x1,x2,x3,x4,x5⟩:=fC;show wpAny _ X.A (assign (.Name x pos') X.env (.ref a)) _ _ s';refine wpAny_assign_Name (Q3G I' hN hiN (.inl hx) (v:=.ref a) rfl (λs'' I'' ⟨b,sb,hb⟩=>?_) (.inr hx));have hCb:C≠b:=by
  rcases hb with z | z
  ·rw[z];exact x1
  ·exact λw=>x4 _ _ z w.symm
 refine⟨m,hm.sameBut sb hCb,λh' sb2=>⟨_,_,I''.turned (t':=s''.toks) (λb o hb e=>(sb2.2 b hb).trans e) x0 x1 x3 x4 x5,q a ha⟩⟩
end
end
def XLook(_:Frag)(_:Addr):Prop:=True
section
variable{prog:Program}{w:World}{A:Around}{E:Value->Shared->Prop}{s:Shared}{K:Frag}{x D:Addr}
end
section
variable{X:Cx}{pins:List (Addr×Obj)}{σ:St}{H:Hp}{s:Shared}{a C f:Addr}{cls:XC}{x:Str}{np cpos pos p:Pos}
end
section
variable{A:Around}{E:Value->Shared->Prop}{s:Shared}{K:Frag}{D:Addr}
end
section
variable{X:Cx}{pins:List (Addr×Obj)}{σ:St}{H:Hp}{s:Shared}{a C:Addr}{pos:Pos}
end
section
variable{prog:Program}{w:World}{A:Around}{h:Heap}{g:Array GenState}{d:Drawn}{t:Nat}{os:OsState}
variable{nm q:Str}{C N:Addr}{bs bm bmB:List Value}{hdct:Bool}{sn:List Str}{sub:List Value}{ab:Bool}{col:Option Bool}{dd:Option Addr}{k0 k1 k2 k3 k5:Option Value}{B newId initId:String}
end
end L2
namespace L2
open PySem PySem.Spec PyProof.Rows Builtin Builtin.ObjectAttr
section
variable{prog:Program}{w:World}{A:Around}{E:Value->Shared->Prop}{s:Shared}{K:Frag}{C f x:Addr}{ox:Obj}{v:Value}{vs:Array Value}
end
section
variable{P:Program}{w:World}{H H':Hp}{h h':Heap}{fs:List Addr}{e d C t:Addr}{φ:Heap->Prop}{o:Obj}
end
section
variable{X:Cx}{pins:List (Addr×Obj)}{σ:St}{H:Hp}{s:Shared}{C f W e:Addr}{x n:Str}{np ap cpos pos p:Pos}{a1:Expr}{es:List Expr}{t:TA}
end
end L2
namespace L2
open PySem PySem.Spec PyProof.Rows
section
variable{κ:Type}[DecidableEq κ]
noncomputable def valV(kvs:List (κ×V))(k:κ):Option V:=(kvs.find? λkv=>decide (kv.1=k)).map (·.2)
noncomputable def putK(kvs:List (κ×V))(k:κ)(v:V):List (κ×V) :=
 if (kvs.any λkv=>decide (kv.1=k))=true then kvs.map (λkv=>if kv.1=k then (kv.1,v) else kv) else kvs++[(k,v)]
theorem Q1O{p:κ×V}{r:List (κ×V)}{k:κ}(e:p.1=k):valV (p::r) k=some p.2:=by simp[valV,find?_cons,e]
theorem Q1P{p:κ×V}{r:List (κ×V)}{k:κ}(e:¬ p.1=k):valV (p::r) k=valV r k:=by simp[valV,find?_cons,e]
theorem Q2m(k:κ):∀ kvs:List (κ×V),(kvs.any λkv=>decide (kv.1=k))=(valV kvs k).isSome
 | []=>rfl
 | p::r=>by
  rw[any_cons];by_cases e:p.1=k
  ·erw[Q1O e,Zm e,Bool.true_or,Option.isSome_some]
  ·rw[Q1P e,Z7 e,Bool.false_or];exact Q2m k r
theorem Q0C(kvs:List (κ×V))(k:κ)(v:V):(putK kvs k v).length<=kvs.length+1:=by
 unfold putK;split
 ·rw[Zb];room
 ·rw[Zl,Zw,ZH];room
theorem RelO.isSome_eq(r:RelO o u):o.isSome=u.isSome:=by
 cases o with
 | none=>cases u with
  | none=>rfl
  | some _=>exact (show False from r).elim
 | some _=>cases u with
  | none=>exact (show False from r).elim
  | some _=>rfl
theorem RelO.getD(r:RelO o u)(rd:RelV d d'):RelV (o.getD d) (u.getD d'):=by
 cases o with
 | none=>cases u with
  | none=>exact rd
  | some _=>exact (show False from r).elim
 | some _=>cases u with
  | none=>exact (show False from r).elim
  | some _=>exact r
theorem KV.val{kvs:List (κ×V)}{vs:List (κ×Value)}(r:KV kvs vs)(k:κ):RelO (valV kvs k) (valueAt vs k):=by
 unfold KV at r
 induction r with
 | nil=>exact Yp
 | @cons p q ps qs h t ih =>
  obtain⟨h1,h2⟩:=h;by_cases e:p.1=k
  ·have e':q.1=k:=h1.symm.trans e;have b:valueAt (q::qs) k=some q.2:=by simp[valueAt,find?_cons,e']
   rw[Q1O e,b];exact h2
  ·have e':¬ q.1=k:=λz=>e (h1.trans z);have b:valueAt (q::qs) k=valueAt qs k:=by simp[valueAt,find?_cons,e']
   rw[Q1P e,b];exact ih
theorem KV.any(r:KV kvs vs)(k:κ):(kvs.any λkv=>decide (kv.1=k))=vs.any λkv=>decide (kv.1=k):=by
 unfold KV at r
 induction r with
 | nil=>rfl
 | cons h t ih=>rw[any_cons,any_cons,ih,h.1]
theorem KV.repl(r:KV kvs vs)(k:κ)(ry:RelV y u) :
  KV (kvs.map λkv=>if kv.1=k then (kv.1,y) else kv) (vs.map λkv=>if kv.1=k then (kv.1,u) else kv):=by
 unfold KV at r ⊢
 induction r with
 | nil=>exact .nil
 | @cons p q ps qs h t ih =>
  rw[ZC,ZC];refine .cons ?_ ih;obtain⟨h1,h2⟩:=h;by_cases e:p.1=k
  ·rw[Zg e,Zg (h1.symm.trans e)];exact⟨h1,ry⟩
  ·rw[Zd e,Zd (λz=>e (h1.trans z))];exact⟨h1,h2⟩
theorem KV.put(r:KV kvs vs)(k:κ)(ry:RelV y u):KV (putK kvs k y) (stored vs k u):=by
 unfold putK stored;rw[r.any k];by_cases e:(vs.any λkv=>decide (kv.1=k))=true
 ·rw[Zg e,Zg e];exact r.repl k ry
 ·rw[Zd e,Zd e];exact Paired.snoc r ⟨rfl,ry⟩
theorem KV.length(r:KV kvs vs):kvs.length=vs.length:=ZT r
end
theorem kV_is(r:RelV (kV k) u):(za6 P w).is k u=true:=by
 cases k with
 | inl i=>obtain⟨t,e⟩:=(show ∃ t,u=Value.int i t from r);subst e;exact Q4z P w i t
 | inr x=>obtain⟨t,e⟩:=(show ∃ t,u=Value.str x t from r);subst e;exact Q4A P w x t
theorem Q3R:∀ {ks:List Key} {us:List Value},Vals (ks.map kV) us->ItemsAre (za6 P w) ks us
 | [],_,r=>by rw[map_nil]at r;cases r;exact .nil
 | k::ks,_,r=>by
  rw[ZC]at r;cases r with
  | cons h t=>exact .cons (kV_is h) (Q3R t)
noncomputable abbrev KT(H:Hp):List (List Key×V)->List (List Key×Addr×Value)->Prop:=Paired λp q=>p.1=q.1/\H q.2.1=some (.tup (p.1.map kV))/\RelV p.2 q.2.2
theorem KT.val{H:Hp}{kvs:List (List Key×V)}{xs:List (List Key×Addr×Value)}(r:KT H kvs xs)(k:List Key):RelO (valV kvs k) ((atKey xs k).map (·.2)):=by
 induction r with
 | nil=>exact Yp
 | @cons p q ps qs h t ih =>
  obtain⟨h1,_,h2⟩:=h;by_cases e:p.1=k
  ·have e':q.1=k:=h1.symm.trans e;have b:atKey (q::qs) k=some q.2:=by simp[atKey,find?_cons,e']
   rw[Q1O e,b];exact h2
  ·have e':¬ q.1=k:=λz=>e (h1.trans z);have b:atKey (q::qs) k=atKey qs k:=by simp[atKey,find?_cons,e']
   rw[Q1P e,b];exact ih
theorem KT.repl(r:KT H kvs xs)(k:List Key)(ry:RelV y u) :
  KT H (kvs.map λkv=>if kv.1=k then (kv.1,y) else kv) (xs.map (putAt k u)):=by
 induction r with
 | nil=>exact .nil
 | @cons p q ps qs h t ih =>
  rw[ZC,ZC];refine .cons ?_ ih;obtain⟨h1,h2,h3⟩:=h;unfold putAt;by_cases e:p.1=k
  ·rw[Zg e,Zg (h1.symm.trans e)];exact⟨h1,h2,ry⟩
  ·rw[Zd e,Zd (λz=>e (h1.trans z))];exact⟨h1,h2,h3⟩
theorem KT.put(r:KT H kvs xs)(k:List Key)(hb:H b=some (.tup (k.map kV)))(ry:RelV y u) :
  KT H (putK kvs k y) (storedH xs k b u):=by
 have e:(kvs.any λkv=>decide (kv.1=k))=(atKey xs k).isSome:=by
  rw[Q2m,(r.val k).isSome_eq,Yy]
 unfold putK storedH;rw[e];by_cases q:(atKey xs k).isSome=true
 ·rw[Zg q,Zg q];exact r.repl k ry
 ·rw[Zd q,Zd q];exact Paired.snoc r ⟨rfl,hb,ry⟩
theorem KT.keeps(r:KT H kvs xs)(ht:∀ b ys,H b=some (.tup ys)->H' b=some (.tup ys)):KT H' kvs xs :=
 Paired.mapP r λ_ _ z=>⟨z.1,ht _ _ z.2.1,z.2.2⟩
section
variable{P:Program}{w:World}{H:Hp}{h:Heap}{a:Addr}
theorem rd_of(ok:HOk P w H h)(e:Rd H a u):ObjOk P w H h a u:=e.ok ok
theorem dk_rd(ok:HOk P w H h)(e:Rd H a (.dK kvs)):kvs.length<=sizeLine/\(a==sysModules)=false/\∃ vs,KV kvs vs/\h.DictOf (za6 P w) a vs :=
 show ObjOk P w H h a (.dK kvs) from rd_of ok e
theorem dk_of(ok:HOk P w H h)(e:H a=some (.dK kvs)):kvs.length<=sizeLine/\(a==sysModules)=false/\∃ vs,KV kvs vs/\h.DictOf (za6 P w) a vs:=dk_rd ok (.inl e)
theorem Q1G(ok:HOk P w H h)(e:H a=some (.tup (ks.map kV))):(tupleKind (za6 P w)).is h ks a:=by
 obtain⟨_,its,r,o,h1,h2,n,h3⟩:=(show ObjOk P w H h a (.tup (ks.map kV)) from ok a _ e);exact⟨o,its.toArray,n,h1,h2,h3,by simpa using Q3R r⟩
theorem dt_rd(ok:HOk P w H h)(e:Rd H a (.dT kvs)):kvs.length<=sizeLine/\(a==sysModules)=false /\
  ∃ xs,KT H kvs xs/\h.DictOfH (tupleKind (za6 P w)) a xs:=by
 obtain⟨z,y,xs,r,o,es,ep,h1,h2,h3,h4,h5⟩:=(show ObjOk P w H h a (.dT kvs) from rd_of ok e);refine⟨z,y,xs,r,o,es,ep,h1,h2,h3,h4,λx hx=>?_,h5⟩;have all:∀ {l:List (List Key×V)} {m:List (List Key×Addr×Value)},KT H l m->∀ x∈m,(tupleKind (za6 P w)).is h x.1 x.2.1:=by
  intro l m q
  induction q with
  | nil=>intro x hx;exact nomatch hx
  | @cons p q ps qs hq t ih =>
   intro x hx;rcases Z1.mp hx with e | hx
   ·subst e;exact Q1G ok (by rw[<- hq.1];exact hq.2.1)
   ·exact ih x hx
 exact all r x hx
theorem dt_of(ok:HOk P w H h)(e:H a=some (.dT kvs)):kvs.length<=sizeLine/\(a==sysModules)=false /\
  ∃ xs,KT H kvs xs/\h.DictOfH (tupleKind (za6 P w)) a xs:=dt_rd ok (.inl e)
end
def DGet(H:Hp)(a:Addr)(y:V)(r:Option V):Prop :=
 (∃ kvs k,Rd H a (.dK kvs)/\y=kV k/\r=valV kvs k)\/∃ kvs k b,Rd H a (.dT kvs)/\y=.ref b/\H b=some (.tup (k.map kV))/\r=valV kvs k
def DPut(H:Hp)(a:Addr)(y v:V)(H':Hp):Prop :=
 (∃ kvs k,H a=some (.dK kvs)/\y=kV k/\kvs.length<sizeLine/\H'=upd H a (.dK (putK kvs k v))) \/
 ∃ kvs k b,H a=some (.dT kvs)/\y=.ref b/\H b=some (.tup (k.map kV))/\kvs.length<sizeLine/\H'=upd H a (.dT (putK kvs k v))
theorem DGet.k{H:Hp}{a:Addr}{kvs:List (Key×V)}{k:Key}(e:H a=some (.dK kvs)):DGet H a (kV k) (valV kvs k):=.inl ⟨kvs,k,.inl e,rfl,rfl⟩
theorem DGet.t{H:Hp}{a b:Addr}{kvs:List (List Key×V)}{k:List Key}(e:H a=some (.dT kvs))(eb:H b=some (.tup (k.map kV))):DGet H a (.ref b) (valV kvs k):=.inr ⟨kvs,k,b,.inl e,rfl,eb,rfl⟩
theorem DPut.k{H:Hp}{a:Addr}{kvs:List (Key×V)}{k:Key}{v:V}(e:H a=some (.dK kvs))(hl:kvs.length<sizeLine):DPut H a (kV k) v (upd H a (.dK (putK kvs k v))):=.inl ⟨kvs,k,e,rfl,hl,rfl⟩
theorem DPut.t{H:Hp}{a b:Addr}{kvs:List (List Key×V)}{k:List Key}{v:V}(e:H a=some (.dT kvs))(eb:H b=some (.tup (k.map kV)))(hl:kvs.length<sizeLine) :
  DPut H a (.ref b) v (upd H a (.dT (putK kvs k v))):=.inr ⟨kvs,k,b,e,rfl,eb,hl,rfl⟩
section
variable{X:Cx}{pins:List (Addr×Obj)}{σ:St}{H:Hp}{s:Shared}{a:Addr}{y v:V}{u r:Value}{o:Option V}{A:Around}{E:Value->Shared->Prop}
theorem Inv.big(I:Inv X pins σ H s):sysModules<s.heap.objs.size:=by
 have h:mainGlobals<s.heap.objs.size:=(I.mod.glob.keeps I.bk).lt;exact lt_trans (by decide) h
theorem Q6C{Q:Value->Shared->Prop}(hu:A.units+1<cLine)(I:Inv X pins σ H s)(g:DGet H a y (some v))(ry:RelV y u)(h:∀ w' s',Inv X pins σ H s'->RelV v w'->Q w' s') :
  wpAny (model X.prog X.w) A (getItem (.ref a) u) Q E s:=by
 rcases g with ⟨kvs,k,e,ey,l⟩ | ⟨kvs,k,b,e,ey,eb,l⟩
 ·subst ey;obtain⟨z,hd,vs,rel,dd⟩:=dk_rd I.hok e;obtain⟨w',hw,rw'⟩:=RelO.some_of (v:=v) (o:=valueAt vs k) (by rw[l];exact rel.val k)
  exact wpAny_getItem_of (kV_is ry) dd.mapOf hw (h w' _ (I.tok _) rw')
 ·subst ey;cases (show u=Value.ref b from ry);obtain⟨z,hd,xs,rel,dd⟩:=dt_rd I.hok e;obtain⟨w',hw,rw'⟩:=RelO.some_of (v:=v) (o:=(atKey xs k).map (·.2)) (by rw[l];exact rel.val k)
  obtain⟨p,hp,hp2⟩:=Zu.mp hw;refine wpAny_getItem_heap (tupleKind_room_in1 hu) (Q1G I.hok eb) dd hp ?_;rw[hp2];exact h w' _ (I.tok _) rw'
theorem d_in{Q:Value->Shared->Prop}(hu:A.units+1<cLine)(I:Inv X pins σ H s)(g:DGet H a y o)(ry:RelV y u)(h:∀ s',Inv X pins σ H s'->Q (.bool o.isSome) s') :
  wpAny (model X.prog X.w) A (compareOp .In u (.ref a)) Q E s:=by
 rcases g with ⟨kvs,k,e,ey,l⟩ | ⟨kvs,k,b,e,ey,eb,l⟩
 ·subst ey;obtain⟨z,hd,vs,rel,dd⟩:=dk_rd I.hok e;refine wpAny_in_of (kV_is ry) hd dd.mapOf ?_;rw[<- (rel.val k).isSome_eq,<- l];exact h _ (I.tok _)
 ·subst ey;cases (show u=Value.ref b from ry);obtain⟨z,hd,xs,rel,dd⟩:=dt_rd I.hok e;refine wpAny_in_heap (tupleKind_room_in1 hu) (Q1G I.hok eb) hd dd ?_;have q:=(rel.val k).isSome_eq;rw[Yy]at q;rw[<- q,<- l];exact h _ (I.tok _)
theorem Q6D{Q:Value->Shared->Prop}(hu:A.units+1<cLine)(I:Inv X pins σ H s)(g:DGet H a y o)(ry:RelV y u)(h:∀ s',Inv X pins σ H s'->Q (.bool (!o.isSome)) s') :
  wpAny (model X.prog X.w) A (compareOp .NotIn u (.ref a)) Q E s:=by
 rcases g with ⟨kvs,k,e,ey,l⟩ | ⟨kvs,k,b,e,ey,eb,l⟩
 ·subst ey;obtain⟨z,hd,vs,rel,dd⟩:=dk_rd I.hok e;refine wpAny_notIn_of (kV_is ry) hd dd.mapOf ?_;rw[<- (rel.val k).isSome_eq,<- l];exact h _ (I.tok _)
 ·subst ey;cases (show u=Value.ref b from ry);obtain⟨z,hd,xs,rel,dd⟩:=dt_rd I.hok e;refine wpAny_notIn_heap (tupleKind_room_in1 hu) (Q1G I.hok eb) hd dd ?_;have q:=(rel.val k).isSome_eq;rw[Yy]at q;rw[<- q,<- l];exact h _ (I.tok _)
theorem Q2c(I:Inv X pins σ H s)(mu:Mut (H a))(hs:Heap.SameBut a s.heap h')(he:∃ q,h'.get? a=some q)(new:ObjOk X.prog X.w (upd H a ob) h' a ob) :
  Inv X pins σ (upd H a ob) { s with heap:=h',toks:=t' } :=
 I.write (x:=a) (e:=a) mu (.inl rfl) (λb q hb z=>(hs.2 b hb).trans z) he new
theorem Q9N(z:kvs.length<=sizeLine)(hd:(a==sysModules)=false)(rel:KV kvs vs)(dd:h'.DictOf (za6 P w) a vs) :
  ObjOk P w H' h' a (.dK kvs):=⟨z,hd,vs,rel,dd⟩
theorem Q6E{Q:Unit->Shared->Prop}(hu:A.units+1<cLine)(I:Inv X pins σ H s)(g:DPut H a y v H')(ry:RelV y u)(rv:RelV v r)(h:∀ s',Inv X pins σ H' s'->Q () s') :
  wpAny (model X.prog X.w) A (setItem (.ref a) u r) Q E s:=by
 rcases g with ⟨kvs,k,e,ey,l,eH⟩ | ⟨kvs,k,b,e,ey,eb,l,eH⟩
 ·subst ey eH;obtain⟨z,hd,vs,rel,dd⟩:=dk_of I.hok e;have hz:vs.length<=sizeLine:=by rw[<- rel.length];exact z
  have hl:(putK kvs k v).length<=sizeLine:=by have:=Q0C kvs k v;room
  refine wpAny_setItem_pairs (hsz:=hz) (kV_is ry) dd λh' dd' hs=>h _ ?_;have he:∃ q,h'.get? a=some q:=let ⟨q,_,_,hq,_⟩:=dd';⟨q,hq⟩;exact Q2c I (by rw[e];exact Yp) hs he (Q9N hl hd (rel.put k rv) dd')
 ·subst ey eH;cases (show u=Value.ref b from ry);obtain⟨z,hd,xs,rel,dd⟩:=dt_of I.hok e;have hz:xs.length<=sizeLine:=by rw[<- ZT rel];exact z
  have hl:(putK kvs k v).length<=sizeLine:=by have:=Q0C kvs k v;room
  refine wpAny_setItem_heap (hsz:=hz) (tupleKind_room_in1 hu) (Q1G I.hok eb) dd λh' dd' hs=>h _ ?_;obtain⟨q,es,ep,hq,h2,h3,h4,_,h5⟩:=dd';refine Q2c I (by rw[e];exact Yp) hs ⟨q,hq⟩ ⟨hl,hd,_,(rel.put k eb rv).keeps λc ys ec=>?_,q,es,ep,hq,h2,h3,h4,h5⟩
  rw[Q0d (ne_of ec e (λz=>nomatch z))]
  exact ec
end
section
variable{X:Cx}{pins:List (Addr×Obj)}{σ:St}{H:Hp}{s:Shared}{a:Addr}{kvs:List (Key×V)}{k:Key}{u:Value}{A:Around}{E:Value->Shared->Prop}
end
def NoSl(i:Expr):Prop:=∀ ov iv,subscripted i false ov iv=operate [ov,iv] (getItem ov iv)
theorem Qat{prog:Program}{w:World}{A:Around}{E:Value->Shared->Prop}{s:Shared}{env:Env}{value slice:Expr}{pos:Pos}{T id:String}{Q:Value->Shared->Prop}
  (hl:typeLookup (.type T) "__getitem__" = pure (some (.builtin id))) (hs:NoSl slice)
  (h:wpAny (model prog w) A (eval value env) (λo s₁=>wpAny (model prog w) A (eval slice env) (λi s₂=>s₂.TypeIs o T/\wpAny (model prog w) A (getItem o i) Q E s₂) E s₁) E s) :
  wpAny (model prog w) A (eval (.Subscript value slice pos) env) Q E s:=by
 refine Subscript_ (Yv h (λo s₁ h₁=>Yv h₁ (λi s₂ h₂=>?_) λ_ _ x=>x) λ_ _ x=>x);obtain⟨hT,h₂⟩:=h₂;unfold subscriptTail;refine Za ?_;rw[getitemInPython_of_ne hT.not_modules];refine Za (wpAny_specialOf hT hl ?_);have fin:wpAny (model prog w) A (subscripted slice false o i) (λr s₃=>wpAny (model prog w) A (letTemporaryGo value o r >>= λ_=>pure r) Q E s₃) E s₂:=by
  rw[hs o i];exact wpAny_operating (Yv h₂ (λr s₃ h₃=>Za (wpAny_letTemporaryGo (Zc h₃))) λ_ _ x=>x)
 first
  | exact Zc (Za fin)
  | exact Za (Zc (Za fin))
  | exact Za fin
theorem Q4E(I:Inv X pins σ H s)(g:DGet H a y o):s.TypeIs (.ref a) "dict":=by
 rcases g with ⟨kvs,k,e,_,_⟩ | ⟨kvs,k,b,e,_,_,_⟩
 ·obtain⟨_,_,vs,_,dd⟩:=dk_rd I.hok e;exact dd.typeIs
 ·obtain⟨_,_,xs,_,dd⟩:=dt_rd I.hok e;exact dd.typeIs
def tDGet(td ty:TE):TE:=λσ H Q=>td σ H λx H1=>ty σ H1 λy H2=>∃ a v,x=.ref a/\DGet H2 a y (some v)/\Q v H2
def sDPut(td ty tv:TE):TS:=λD σ H=>tv σ H λv H1=>td σ H1 λx H2=>ty σ H2 λy H3=>∃ a H4,x=.ref a/\DPut H3 a y v H4/\D.nx σ H4
section
variable{X:Cx}{o i e value:Expr}{pos pos' tpos:Pos}{td ty tv:TE}
theorem Q6F(hu:X.A.units+1<cLine)(ho:PE X o td)(hi:PE X i ty)(hs:NoSl i):PE X (.Subscript o i pos) (tDGet td ty):=by
 intro pins s σ H Q I h;refine Qat PySem.F.slot_dict_getitem.lookup hs (thn (ho pins s σ H _ I h) λu s1 ⟨x,H1,I1,rx,q1⟩=>thn (hi pins s1 σ H1 _ I1 q1) λiv s2 zz=>?_);obtain⟨y,H2,I2,ry,a,v,ex,g,q2⟩:=zz;subst ex;obtain rfl:u=Value.ref a:=rx;exact⟨Q4E I2 g,Q6C hu I2 g ry λw' s3 I3 rw'=>⟨v,H2,I3,rw',q2⟩⟩
theorem Q6G(hu:X.A.units+1<cLine)(ho:PE X o td)(hi:PE X i ty)(hv:PE X value tv)(hs:swapsWith value (some (.Subscript o i pos')) pos.line X.env=pure false) :
  PS X (.Assign [.Subscript o i pos'] value pos) (sDPut td ty tv):=by
 intro pins s σ H D I h;refine wpAny_Assign_Subscript (thn (hv pins s σ H _ I h) λr s1 ⟨v,H1,I1,rv,q1⟩=>thn (ho pins s1 σ H1 _ I1 q1) λu s2 ⟨x,H2,I2,rx,q2⟩=>thn (hi pins s2 σ H2 _ I2 q2) λiv s3 zz=>?_) hs;obtain⟨y,H3,I3,ry,a,H4,ex,g,q3⟩:=zz;subst ex;obtain rfl:u=Value.ref a:=rx;exact Q6E hu I3 g ry rv λs4 I4=>⟨σ,H4,I4,q3⟩
end
theorem Q8x(h:Heap)(hb:sysModules<h.objs.size):ObjOk P w H (h.push { cls:=.type "dict",data:=.dict #[] }) h.objs.size (.dK []) :=
 ⟨ZI _,Yr.mpr (Ne.symm (ZO hb)),[],.nil,Heap.DictOf.new h⟩
theorem Q3p(h:Heap)(hb:sysModules<h.objs.size):ObjOk P w H (h.push { cls:=.type "dict",data:=.dict #[] }) h.objs.size (.dT []) :=
 ⟨ZI _,Yr.mpr (Ne.symm (ZO hb)),[],.nil,_,#[],0,Z0 _ rfl,⟨rfl,rfl,rfl⟩,rfl,rfl,nodup_nil⟩
def tDNewK:TE:=λ_ H Q=>∀ p,H p=none->Q (.ref p) (upd H p (.dK []))
def tDNewT:TE:=λ_ H Q=>∀ p,H p=none->Q (.ref p) (upd H p (.dT []))
section
variable{X:Cx}{pos:Pos}
theorem Q8y:PE X (.Dict [] [] pos) tDNewK:=λpins s σ H Q I h =>
 wpAny_Dict_empty ⟨.ref s.heap.objs.size,_,I.laid (a:=s.heap.objs.size) (o:=.dK []) (t':=s.toks) (λ_ _ q=>Zj _ q) (Zq _) (Q8x s.heap I.big),rfl,h _ (I.hok.fresh (Zq _))⟩
theorem Q8z:PE X (.Dict [] [] pos) tDNewT:=λpins s σ H Q I h =>
 wpAny_Dict_empty ⟨.ref s.heap.objs.size,_,I.laid (a:=s.heap.objs.size) (o:=.dT []) (t':=s.toks) (λ_ _ q=>Zj _ q) (Zq _) (Q3p s.heap I.big),rfl,h _ (I.hok.fresh (Zq _))⟩
end
structure M1(X:Cx)(o:Expr)(m:Str)(apos:Pos)(e:Expr)(cpos:Pos):Prop where
 base:attributeBase o m X.env (eval o X.env)=eval o X.env
 few:((backTo cpos (starEach [e] X.env)).all (λx=>!x.1)&&(backToKw cpos (keywordEach [] X.env)).all (λx=>x.1.isSome)
  && decide (([e]:List Expr).length+([]:List Keyword).length+(if ([]:List Keyword).isEmpty then 0 else 1)<30))=true
 line:(apos.endLine==cpos.line)=true
 trees:backTo cpos (starEach [e] X.env)=[(false,eval e X.env)]
structure M2(X:Cx)(o:Expr)(m:Str)(apos:Pos)(e f:Expr)(cpos:Pos):Prop where
 base:attributeBase o m X.env (eval o X.env)=eval o X.env
 few:((backTo cpos (starEach [e,f] X.env)).all (λx=>!x.1)&&(backToKw cpos (keywordEach [] X.env)).all (λx=>x.1.isSome)
  && decide (([e,f]:List Expr).length+([]:List Keyword).length+(if ([]:List Keyword).isEmpty then 0 else 1)<30))=true
 line:(apos.endLine==cpos.line)=true
 trees:backTo cpos (starEach [e,f] X.env)=[(false,eval e X.env),(false,eval f X.env)]
def IsD(H:Hp)(a:Addr):Prop:=(∃ kvs,Rd H a (.dK kvs))\/∃ kvs,Rd H a (.dT kvs)
theorem Q3S(I:Inv X pins σ H s)(d:IsD H a) :
  s.TypeIs (.ref a) "dict" /\ (∀ b,Value.ref a=.ref b->∃ ob,s.heap.get? b=some ob/\ob.dict=none)/\(a==sysModules)=false:=by
 rcases d with ⟨kvs,e⟩ | ⟨kvs,e⟩
 ·obtain⟨_,hd,vs,_,dd⟩:=dk_rd I.hok e;refine⟨dd.typeIs,λb q=>?_,hd⟩;cases q;obtain⟨ob,_,_,h1,h2,_⟩:=dd;exact⟨ob,h1,h2.2.1⟩
 ·obtain⟨_,hd,xs,_,dd⟩:=dt_rd I.hok e;refine⟨dd.typeIs,λb q=>?_,hd⟩;cases q;obtain⟨ob,_,_,h1,h2,_⟩:=dd;exact⟨ob,h1,h2.2.1⟩
section
variable{X:Cx}{pins:List (Addr×Obj)}{σ:St}{H:Hp}{s:Shared}{a:Addr}{y d:V}{u r:Value}{o:Option V}{A:Around}{E:Value->Shared->Prop}
theorem Qc3{Q:Value->Shared->Prop}(hu:A.units+1<cLine)(I:Inv X pins σ H s)(g:DGet H a y o)(ry:RelV y u)(h:∀ w' s',Inv X pins σ H s'->RelV (o.getD .non) w'->Q w' s') :
  wpAny (model X.prog X.w) A (call (.builtin "dict.get") [.ref a,u]) Q E s:=by
 rcases g with ⟨kvs,k,e,ey,l⟩ | ⟨kvs,k,b,e,ey,eb,l⟩
 ·subst ey;obtain⟨z,hd,vs,rel,dd⟩:=dk_rd I.hok e;refine call_meetsIn slot_dict_get dd.typeIs entry_dict_get (args_dict_get_2 _ _) (meets_dict_get (za6 X.prog X.w) a (kV_is ry) hd) ⟨_,dd.mapOf,h _ _ (I.tok _) ?_⟩;rw[l];exact (rel.val k).getD rfl
 ·subst ey;cases (show u=Value.ref b from ry);obtain⟨z,hd,xs,rel,dd⟩:=dt_rd I.hok e;refine call_meetsIn slot_dict_get dd.typeIs entry_dict_get (args_dict_get_2 _ _) (meetsH_dict_get (tupleKind (za6 X.prog X.w)) a b hd) ⟨tupleKind_room_in1 hu,k,xs,Q1G I.hok eb,dd,h _ _ (I.tok _) ?_⟩;rw[l];exact (rel.val k).getD rfl
theorem Qc4{Q:Value->Shared->Prop}(hu:A.units+1<cLine)(I:Inv X pins σ H s)(g:DGet H a y o)(ry:RelV y u)(rd:RelV d r)(h:∀ w' s',Inv X pins σ H s'->RelV (o.getD d) w'->Q w' s') :
  wpAny (model X.prog X.w) A (call (.builtin "dict.get") [.ref a,u,r]) Q E s:=by
 rcases g with ⟨kvs,k,e,ey,l⟩ | ⟨kvs,k,b,e,ey,eb,l⟩
 ·subst ey;obtain⟨z,hd,vs,rel,dd⟩:=dk_rd I.hok e;refine call_meetsIn slot_dict_get dd.typeIs entry_dict_get (PySem.F.args_dict_get_3 _ _ _) (meets_dict_get_default (za6 X.prog X.w) a (kV_is ry) hd r) ⟨_,dd.mapOf,h _ _ (I.tok _) ?_⟩;rw[l];exact (rel.val k).getD rd
 ·subst ey;cases (show u=Value.ref b from ry);obtain⟨z,hd,xs,rel,dd⟩:=dt_rd I.hok e;refine call_meetsIn slot_dict_get dd.typeIs entry_dict_get (PySem.F.args_dict_get_3 _ _ _) (meetsH_dict_get_default (tupleKind (za6 X.prog X.w)) a b hd r) ⟨tupleKind_room_in1 hu,k,xs,Q1G I.hok eb,dd,h _ _ (I.tok _) ?_⟩;rw[l];exact (rel.val k).getD rd
end
def tDGet2(td ty tx:TE):TE:=λσ H Q=>td σ H λx H1=>∃ a,x=.ref a/\IsD H1 a/\ty σ H1 λy H2=>tx σ H2 λz H3=>∃ o,DGet H3 a y o/\Q (o.getD z) H3
section
variable{X:Cx}{o e f:Expr}{apos cpos:Pos}{td ty tx:TE}
theorem Q5e(hu:X.A.units+1<cLine)(ho:PE X o td)(he:PE X e ty)(hf:PE X f tx)(m:M2 X o "get" apos e f cpos):PE X (.Call (.Attribute o "get" apos) [e,f] [] cpos) (tDGet2 td ty tx):=by
 intro pins s σ H Q I h;refine wpAny_Call_method m.base m.few m.line plainAttrs_dict slot_dict_get type_dict_get (thn (ho pins s σ H _ I h) λu s1 zz=>?_);obtain⟨x,H1,I1,rx,a,ex,d,q1⟩:=zz;subst ex;obtain rfl:u=Value.ref a:=rx;obtain⟨t1,t2,_⟩:=Q3S I1 d;refine⟨t1,t2,?_⟩;rw[m.trees];refine Ys rfl (Calls.evalArgs_plain (Yi (thn (he pins s1 σ H1 _ I1 q1) λiv s2 ⟨y,H2,I2,ry,q2⟩ =>
  Yi (thn (hf pins s2 σ H2 _ I2 q2) λfv s3 ⟨z,H3,I3,rz,ov,g,q3⟩=>Calls.spliced_nil ?_))))
 exact Qc4 hu I3 g ry rz λw' s4 I4 rw'=>⟨_,H3,I4,rw',q3⟩
end
section
variable{X:Cx}{pins:List (Addr×Obj)}{σ:St}{H:Hp}{s:Shared}{a:Addr}{kvs:List (Key×V)}{A:Around}{E:Value->Shared->Prop}
end
section
variable{X:Cx}{pins:List (Addr×Obj)}{σ:St}{H:Hp}{s:Shared}{a:Addr}{y:V}{u:Value}{A:Around}{E:Value->Shared->Prop}
end
section
variable{prog:Program}{w:World}{K:Type}[DecidableEq K]{knd:HeapKind prog w K}{A:Around}{E:Value->Shared->Prop}{s:Shared}
theorem Q1H{Q:Value->Shared->Prop}(hu:knd.room A)(hkey:knd.is s.heap k a)(hm:s.heap.DictOfH knd d xs)
  (h1:∀ p,atKey xs k=some p->Q p.2 { s with toks:=s.toks+knd.draws k })
  (h2:atKey xs k=none->∀ h',h'.DictOfH knd d (storedH xs k a v)->Heap.SameBut d s.heap h'->Q v { s with heap:=h',toks:=s.toks+knd.draws k })
  (hsz:xs.length<=sizeLine):wpAny (model prog w) A (dictSetDefault d (.ref a) v) Q E s:=by
 obtain⟨o,es,ep,ho,hc,hd,he,his,hn⟩:=hm;unfold dictSetDefault
 try with_reducible refine Yk ?_
 refine Za (knd.pyHash hu hkey (Za (wpAny_dictFind_heap (s:={ s with toks:=s.toks+knd.draws k }) hu hkey ho hd he his hn ?_ ?_)))
 ·intro hno;have hnot:k∉xs.map (·.1):=not_mem_keys_of_get hno;have hk:atKey xs k=none:=atKey_none_of_get hno;refine Za (wpAny_rule (Za (wpAny_updateDictKeys (hz:=by have e:=size_of_entries he;room) (s:={ s with toks:=s.toks+knd.draws k }) ho hd (Zc (h2 hk _ ⟨_,_,ep+1,Heap.get?_update_self _ ho (Obj.isFreed_of_dict (Obj.data_mapDictKeys hd _)),
   hc.mapDictKeys _,Obj.data_mapDictKeys hd _,?_,?_,?_⟩ (Heap.SameBut.update ..))))))
  ·rw[storedH_new hk];simp[he,entryOfKey]
  ·rw[storedH_new hk];intro x hx;rcases Z4.mp hx with hx | hx
   ·exact knd.keeps (his x hx) ho hd (Heap.SameBut.update ..)
   ·erw[Zh]at hx;subst hx;exact knd.keeps hkey ho hd (Heap.SameBut.update ..)
  ·rw[storedH_new hk];rw[Z9,nodup_append];refine⟨hn,by simp,?_⟩
   intro x hx y hy;erw[ZC,map_nil,Zh]at hy;subst hy;exact λe=>hnot (e ▸ hx)
 ·intro j p hj;refine Za (Yz (s:={ s with toks:=s.toks+knd.draws k }) ho hd ?_);rw[entry_at he j,hj];exact Za (wpAny_rule (Zc (h1 p (atKey_of_get hn hj))))
end
theorem Q2d{prog:Program}{w:World}{K:Type}[DecidableEq K](knd:HeapKind prog w K)(d a:Addr)(hd:(d==sysModules)=false)(dflt:Value) :
  MeetsIn prog w (Builtin.«dict.setdefault» ⟨[.ref d,.ref a,dflt],[]⟩) (λA R s=>knd.room A.in1/\∃ k xs,knd.is s.heap k a/\s.heap.DictOfH knd d xs/\xs.length<=sizeLine /\
   (∀ p,atKey xs k=some p->R (.ok (.ret p.2)) { s with toks:=s.toks+knd.draws k }) /\
   (atKey xs k=none->∀ h',h'.DictOfH knd d (storedH xs k a dflt)->Heap.SameBut d s.heap h'->R (.ok (.ret dflt)) { s with heap:=h',toks:=s.toks+knd.draws k })) :=
 .of_wp λA R s ⟨hu,k,xs,hkey,hm,hz,h1,h2⟩=>by
  unfold Builtin.«dict.setdefault»;refine Za ?_;unfold Builtin.Dict.keyAndDefault;refine Za (wpAny_notOrdered_dict hm.typeIs ?_);show wpAny _ _ (pure (d,Value.ref a,some dflt)) _ _ s;refine Zc ?_;show wpAny _ _ (if (d==sysModules)=true then _ else (dictSetDefault d (.ref a) dflt >>= _)) _ _ s
  rw[Zd (by rw[hd];exact Zv)]
  exact Za (Q1H (hsz:=hz) hu hkey hm (λp hp=>Zc ⟨p.2,rfl,h1 p hp⟩) λhn h' hm' hs'=>Zc ⟨dflt,rfl,h2 hn h' hm' hs'⟩)
section
variable{X:Cx}{pins:List (Addr×Obj)}{σ:St}{H:Hp}{s:Shared}{a b:Addr}{v:V}{r:Value}{A:Around}{E:Value->Shared->Prop}{kvs:List (List Key×V)}{k:List Key}
theorem Q8A {Q:Value->Shared->Prop}(hu:A.units+1<cLine)(I:Inv X pins σ H s)(e:H a=some (.dT kvs))(eb:H b=some (.tup (k.map kV)))(l:kvs.length<sizeLine)(rv:RelV v r)
  (h1:∀ y u s',valV kvs k=some y->RelV y u->Inv X pins σ H s'->Q u s') (h2:valV kvs k=none->∀ s',Inv X pins σ (upd H a (.dT (putK kvs k v))) s'->Q r s') :
  wpAny (model X.prog X.w) A (call (.builtin "dict.setdefault") [.ref a,.ref b,r]) Q E s:=by
 obtain⟨z,hd,xs,rel,dd⟩:=dt_of I.hok e;have hz:xs.length<=sizeLine:=by rw[<- ZT rel];exact z
 have hl:(putK kvs k v).length<=sizeLine:=by have:=Q0C kvs k v;room
 refine call_meetsIn slot_dict_setdefault dd.typeIs PySem.F.entry_dict_setdefault (PySem.F.args_dict_setdefault_3 _ _ _) (Q2d (tupleKind (za6 X.prog X.w)) a b hd r)
  ⟨tupleKind_room_in1 hu,k,xs,Q1G I.hok eb,dd,hz,λp hp=>?_,λhn h' dd' hs=>?_⟩
 ·have q:=rel.val k;rw[hp]at q;cases ev:valV kvs k with
  | none=>rw[ev]at q;exact (show False from q).elim
  | some y =>
   rw[ev]at q;exact h1 y p.2 _ ev q (I.tok _)
 ·have q:=rel.val k;rw[hn]at q;have ev:valV kvs k=none:=by
   cases ev:valV kvs k with
   | none=>rfl
   | some y=>rw[ev]at q;exact (show False from q).elim
  refine h2 ev _ ?_;obtain⟨q,es,ep,hq,g2,g3,g4,_,g5⟩:=dd';refine Q2c I (by rw[e];exact Yp) hs ⟨q,hq⟩ ⟨hl,hd,_,(rel.put k eb rv).keeps λc ys ec=>?_,q,es,ep,hq,g2,g3,g4,g5⟩
  rw[Q0d (ne_of ec e (λz=>nomatch z))]
  exact ec
end
def tDSetd(td ty tx:TE):TE:=λσ H Q=>td σ H λx H1=>∃ a,x=.ref a/\IsD H1 a/\ty σ H1 λy H2=>tx σ H2 λz H3=>∃ kvs k b,H3 a=some (.dT kvs)/\y=.ref b/\H3 b=some (.tup (k.map kV))/\kvs.length<sizeLine /\
 (∀ v,valV kvs k=some v->Q v H3)/\(valV kvs k=none->Q z (upd H3 a (.dT (putK kvs k z))))
theorem Q8B(hu:X.A.units+1<cLine)(ho:PE X o td)(he:PE X e ty)(hf:PE X f tx)(m:M2 X o "setdefault" apos e f cpos):PE X (.Call (.Attribute o "setdefault" apos) [e,f] [] cpos) (tDSetd td ty tx):=by
 intro pins s σ H Q I h;refine wpAny_Call_method m.base m.few m.line plainAttrs_dict slot_dict_setdefault PySem.F.type_dict_setdefault (thn (ho pins s σ H _ I h) λu s1 zz=>?_);obtain⟨x,H1,I1,rx,a,ex,d,q1⟩:=zz;subst ex;obtain rfl:u=Value.ref a:=rx;obtain⟨t1,t2,_⟩:=Q3S I1 d;refine⟨t1,t2,?_⟩;rw[m.trees];refine Ys rfl (Calls.evalArgs_plain (Yi (thn (he pins s1 σ H1 _ I1 q1) λiv s2 ⟨y,H2,I2,ry,q2⟩ =>
  Yi (thn (hf pins s2 σ H2 _ I2 q2) λfv s3 ⟨z,H3,I3,rz,kvs,k,b,ea,ey,eb,hl,q3,q4⟩=>Calls.spliced_nil ?_))))
 subst ey;obtain rfl:iv=Value.ref b:=ry;exact Q8A hu I3 ea eb hl rz (λv u' s' ev rv I'=>⟨v,H3,I',rv,q3 v ev⟩) λev s' I'=>⟨z,_,I',rz,q4 ev⟩
def tDisp1(tk tv:TE):TE:=λσ H Q=>∀ p,H p=none->tk σ (upd H p (.dT [])) λx H1=>tv σ H1 λy H2=>∃ k b,x=.ref b/\H2 b=some (.tup (k.map kV))/\H2 p=some (.dT [])/\Q (.ref p) (upd H2 p (.dT [(k,y)]))
theorem Q8C(hu:X.A.units+1<cLine)(hk:PE X k tk)(hv:PE X v tv):PE X (.Dict [some k] [v] pos) (tDisp1 tk tv):=by
 intro pins s σ H Q I q;have hn:=I.hok.fresh (Zq s.heap.objs.size);have I1:=I.laid (a:=s.heap.objs.size) (o:=.dT []) (h':=s.heap.push { cls:=.type "dict",data:=.dict #[] }) (t':=s.toks) (λ_ _ q=>Zj _ q) (Zq _) (Q3p s.heap I.big);refine wpAny_Dict_any rfl rfl (by simp) (by show 1<=15;decide) ?_
 refine pairTrees_cons_walk (thn (hk pins _ σ _ _ I1 (q _ hn)) λkv s1 ⟨x,H1,J1,rx,q1⟩=>thn (hv pins s1 σ H1 _ J1 q1) λvv s2 ⟨y,H2,J2,ry,ks,b,ex,eb,ep,q2⟩=>pairTrees_nil_walk ?_);subst ex;obtain rfl:kv=Value.ref b:=rx;obtain⟨z,hd,xs,rel,dd⟩:=dt_of J2.hok ep;cases rel;have hu':(tupleKind (za6 X.prog X.w)).room X.A:=Nat.lt_of_succ_lt hu;unfold storeAll;refine wpAny_forIn_list _ (λrest r s'=>(rest=[(Value.ref b,vv)]/\s'=s2)\/(rest=[]/\∃ s3,s'=s3/\Inv X pins σ (upd H2 s.heap.objs.size (.dT [(ks,y)])) s3)) _ ?_ ?_ _ _ (.inl ⟨rfl,rfl⟩)
 ·rintro p rest r s' (⟨e1,rfl⟩ | ⟨e1,_⟩)
  ·cases e1;refine Za (wpAny_dictSet_heap (hsz:=by simp) (knd:=tupleKind (za6 X.prog X.w)) hu' (Q1G J2.hok eb) dd λh' dd' hs=>Zc ?_)
   refine .inr ⟨rfl,_,rfl,?_⟩;obtain⟨qo,es,eo,hq,g2,g3,g4,_,g5⟩:=dd';refine Q2c J2 (by rw[ep];exact Yp) hs ⟨qo,hq⟩ ⟨by simp[ZY],hd,_,?_,qo,es,eo,hq,g2,g3,g4,g5⟩
   refine Paired.cons ⟨rfl,?_,ry⟩ .nil;show upd H2 _ _ b=_;rw[Q0d (ne_of eb ep (λz=>nomatch z))]
   exact eb
  ·cases e1
 ·rintro r s' (⟨e1,_⟩ | ⟨_,s3,rfl,I3⟩)
  ·cases e1
  ·exact⟨.ref s.heap.objs.size,_,I3,rfl,q2⟩
section
variable{X:Cx}{o i value:Expr}{td ty tv:TE}{pos pos':Pos}
end
section
variable{P:Program}{w:World}{A:Around}{E:Value->Shared->Prop}{s:Shared}{d it:Addr}{o:Obj}{es:Array DictEntry}{ep i:Nat}
theorem Q6H{Q:Value->Shared->Prop}(hd:(d==sysModules)=false)(ty:s.TypeIs (.ref d) "dict")(h1:s.heap.get? d=some o)(h2:o.data=.dict es ep)
  (h:Q (.ref s.heap.objs.size) { s with heap:=s.heap.push { cls:=.type "dict_keyiterator",data:=.fields #[.ref d,.int 0 0,.int es.size 0,.int ep 0] } }):wpAny (model P w) A (pyIter (.ref d)) Q E s:=by
 have nm:¬ ((d==sysModules)=true):=by rw[hd];exact Zv
 refine wpAny_pyIter_slot ty PySem.F.slot_dict_iter (Yu PySem.F.slot_dict_iter ty PySem.F.entry_dict_iter ?_ (PySem.F.args_dict_iter_1 _));unfold Builtin.«dict.__iter__» Builtin.Dict.dictSlotNone;refine Za (Za (wpAny_notOrdered_dict ty (Zc (a:=Value.ref d) ?_)));show wpAny _ _ (Builtin.Dict.showsAll d >>= _) _ _ s;unfold Builtin.Dict.showsAll;rw[Zd nm];refine Za (Zc (Za (Yz h1 h2 (Za (wpAny_dictEpoch h1 h2 (Za (ZQ (Zc ⟨_,rfl,"dict_keyiterator",_,⟨_,Z0 _ rfl,rfl⟩,slot_dict_keyiterator_next.lookup,?_⟩))))))));simpa[rawInt]using h
theorem Q6I{Q:Option Value->Shared->Prop}(st:s.heap.IsKeyIter it d i es.size ep)(h1:s.heap.get? d=some o)(h2:o.data=.dict es ep)(lt:i<es.size)
  (h:∀ h',h'.IsKeyIter it d (i+1) es.size ep->Heap.SameBut it s.heap h'->Q (some es[i].key) { s with heap:=h' }):wpAny (model P w) A (pyNext (.ref it)) Q E s:=by
 obtain⟨oi,q1,q2,q3⟩:=id st;have own:Builtin.Dict_items.ownsTuple "dict_keyiterator" = false:=by decide
 have st':(s.heap.update it (Obj.mapFields (·.setIfInBounds 1 (rawInt ((i:Int)+1))))).IsKeyIter it d (i+1) es.size ep :=
  ⟨_,Heap.get?_update_self _ q1 (Obj.isFreed_of_fields (Obj.data_mapFields q3 _)),(Obj.cls_mapFields ..).trans q2,by rw[Obj.data_mapFields q3];simp[rawInt]⟩
 unfold pyNext;refine Za (wpAny_attempt (wpAny_callSpecial?_slot (name:=Str.ofString "__next__") st.typeIs slot_dict_keyiterator_next (Yu slot_dict_keyiterator_next st.typeIs PySem.F.entry_dict_keyiterator_next ?_ (PySem.F.args_dict_keyiterator_next_1 _))));refine Za (Zc (Za (Za ?_)));refine Za (wpAny_typeNameOfWhole_keyiter st.typeIs (Zc (Za (wpAny_fieldsOf q1 q3 ?_))));erw[own,ZN,ZU];show wpAny _ _ (if (Value.ref d==Value.none)=true then _ else _) _ _ s
 have dn:¬ ((Value.ref d==Value.none)=true):=λz=>Zv z;rw[Zd dn];refine Za (Zc (Za (Yz h1 h2 ?_)));rw[Zd (by simp)]
 refine Za (Zc (Za (wpAny_dictEpoch h1 h2 ?_)));rw[Zd (by simp)]
 refine Zc ?_;have ni:¬ ((i:Int)<0):=by room
 erw[ni,ZU,ZD,Array.getElem?_eq_getElem lt];refine Za (Za (wpAny_typeNameOfWhole_keyiter st.typeIs (Zc (Za (wpAny_isOneOf_keyiter st.typeIs ?_)))));show wpAny _ _ (setField (.ref it) 1 (rawInt ((i:Int)+1)) >>= _) _ _ s;refine Za (wpAny_setField q1 q3 (by simp) (Za (Yk ?_)))
 refine Za (wpAny_isOneOf_keyiter (s:={ s with heap:=s.heap.update it (Obj.mapFields (·.setIfInBounds 1 (rawInt ((i:Int)+1)))) }) st'.typeIs ?_);show wpAny _ _ (pure es[i].key) _ _ _;exact Zc (Zc ⟨_,rfl,Zc (h _ st' (Heap.SameBut.update ..))⟩)
theorem Q8D{Q:Option Value->Shared->Prop}(hh:A.handled=none)(st:s.heap.IsKeyIter it d i es.size ep)(h1:s.heap.get? d=some o)(h2:o.data=.dict es ep)(ge:es.size<=i)
  (h:∀ h',Heap.ExtBut it s.heap h'->Q none { s with heap:=h' }):wpAny (model P w) A (pyNext (.ref it)) Q E s:=by
 obtain⟨oi,q1,q2,q3⟩:=id st;have own:Builtin.Dict_items.ownsTuple "dict_keyiterator" = false:=by decide
 unfold pyNext;refine Za (wpAny_attempt (wpAny_callSpecial?_slot (name:=Str.ofString "__next__") st.typeIs slot_dict_keyiterator_next (Yu slot_dict_keyiterator_next st.typeIs PySem.F.entry_dict_keyiterator_next ?_ (PySem.F.args_dict_keyiterator_next_1 _))));refine Za (Zc (Za (Za ?_)));refine Za (wpAny_typeNameOfWhole_keyiter st.typeIs (Zc (Za (wpAny_fieldsOf q1 q3 ?_))));erw[own,ZN,ZU];show wpAny _ _ (if (Value.ref d==Value.none)=true then _ else _) _ _ s
 have dn:¬ ((Value.ref d==Value.none)=true):=λz=>Zv z;rw[Zd dn];refine Za (Zc (Za (Yz h1 h2 ?_)));rw[Zd (by simp)]
 refine Za (Zc (Za (wpAny_dictEpoch h1 h2 ?_)));rw[Zd (by simp)]
 refine Zc ?_;have ni:¬ ((i:Int)<0):=by room
 erw[ni,ZU,ZD,Array.getElem?_eq_none ge];refine Za (Za (wpAny_typeNameOfWhole_keyiter st.typeIs (Zc ?_)));show wpAny _ _ (setField (.ref it) 0 .none >>= _) _ _ s;refine Za (wpAny_setField q1 q3 (by simp) ?_)
 show wpAny _ _ (newExc (.type "StopIteration") [] >>= _) _ _ _;erw[newExc,newTuple];refine Za (Za (ZQ (Za (m:=firstArgMember _ _) (wpAny_of_eq (a:=Value.none) (by first | rfl | (erw[firstArgMember];rfl)) (ZQ ?_ (by size_fits)))) (by size_fits)))
 erw[raiseNew];refine Za (wpAny_handled ?_);rw[show A.in1.handled=none from hh];refine Za (Zc (wpAny_throw (Za ?_)));exact wpAny_isInstance (T:="StopIteration") (b:=true) ⟨_,Z0 _ rfl,rfl⟩ isSubtype_stop (Zc (h _ (((Heap.SameBut.update ..).extBut.push _).push _)))
end
section
variable{X:Cx}{pins:List (Addr×Obj)}{σ:St}{H:Hp}{s:Shared}{a:Addr}
theorem Inv.adopt(I:Inv X pins σ H s)(f:FpOk X pins H a)(hs:X.s₀.heap.objs.size<=a)(new:ObjOk X.prog X.w (upd H a o) s.heap a o):Inv X pins σ (upd H a o) s:=by
 obtain⟨f0,f1,f2,f3,f4,f5⟩:=f;have ne:∀ {b:Addr} {u:HO},H b=some u->b≠a:=λe=>Q0k e f0;refine { I with base:=⟨I.base.keep,I.base.slot,λb u e n x=>?_,I.base.there,λb xs e=>?_,λb u v e=>?_,λb ps e=>?_⟩,free:=?_,freeC:=λx c e=>?_,pin:=λp hp=>?_,hok:=λb u e=>?_ }
 ·rw[Q0d (ZO (ZB (Zt e) hs))];exact I.base.free b u e n x
 ·have q:=I.base.tups b xs e;rw[Q0d (ne q)];exact q
 ·have q:=I.base.frzs b u v e;rw[Q0d (ne q)];exact q
 ·obtain⟨more,q⟩:=I.base.tbls b ps e;exact⟨more,by rw[Q0d (ne q)];exact q⟩
 ·rw[Q0d f1.symm];exact I.free
 ·rw[Q0d (f4 x c e)];exact I.freeC x c e
 ·obtain⟨p1,p2,p3⟩:=I.pin p hp;exact⟨p1,by rw[Q0d (f5 p hp)];exact p2,p3⟩
 ·by_cases hb:b=a
  ·subst hb;rw[Q0g]at e;cases e;exact new
  ·rw[Q0d hb]at e;exact (I.hok b u e).stay (λ_ _ _ q=>q) (λc q=>by rw[Q0d (ne q)];exact q) λc xs q=>by rw[Q0d (ne q)];exact q
end
theorem Q3T:∀ bs:List Addr,Vals (bs.map V.ref) (bs.map Value.ref)
 | []=>.nil
 | _::r=>.cons rfl (Q3T r)
end L2
namespace STb
open PySem PySem.SetTable
end STb
namespace STb
open PySem PySem.W PyProof.Rows
section
variable{n:Nat}{rk:Nat->Nat}{cmp:Ask}{s:Shared}{p:Array Nat}
end
end STb
namespace STb
open PySem PySem.Spec PySem.SetTable
section
variable{prog:Program}{w:World}{A:Around}{E:Value->Shared->Prop}{s:Shared}{h₀:Heap}{a:Addr}
end
end STb
namespace STb
open PySem PySem.Spec PySem.SetTable PyProof.Rows
section
variable{prog:Program}{w:World}{A:Around}{E:Value->Shared->Prop}{s:Shared}{h₀:Heap}{a:Addr}
end
section
variable{prog:Program}{w:World}{A:Around}{E:Value->Shared->Prop}{s:Shared}{h₀:Heap}{a:Addr}
variable{es:Ents}{ep:Nat}{t:SetTable}{it:Addr}{i:Nat}{first:Value}
end
section
variable{prog:Program}{w:World}{A:Around}{E:Value->Shared->Prop}{s:Shared}{h₀:Heap}{a it:Addr}{es:Ents}{ep i:Nat}{t:SetTable}{first:Value}
end
end STb
namespace STb
open PySem PySem.Spec PySem.W PyProof.Rows
section
variable{prog:Program}{w:World}{A:Around}{E:Value->Shared->Prop}{s:Shared}
end
section
variable{prog:Program}{w:World}{A:Around}{E:Value->Shared->Prop}{s:Shared}
end
end STb
namespace L2
open PySem PySem.Spec PySem.W PyProof.Rows
noncomputable def zaM(o0 o1:Value)(d:Addr)(i n ep:Nat)(ok ov:Value):Obj:={ cls:=.type "dict_itemiterator",dict:=none,data:=.fields #[o0,o1,.ref d,.int i 0,.int n 0,.int ep 0,ok,ov],slots:=#[] }
def ImAt(h:Heap)(it d S:Addr)(i n ep:Nat):Prop:=∃ o0 f ok ov,h.get? it=some (zaM o0 (.bool f) d i n ep ok ov)/\(o0=.none\/∃ a oa,o0=rawInt (a:Addr)/\a≠it/\a≠S/\h.get? a=some oa)
noncomputable def zaE(k v:Value):Obj:={ cls:=.type "tuple",data:=.seq #[k,v] }
section
variable{prog:Program}{w:World}{A:Around}{E:Value->Shared->Prop}{s:Shared}{es:Array DictEntry}{ep:Nat}{od:Obj}{it d S:Addr}{i:Nat}
theorem ImAt.keep(x:ImAt h it d S i n ep)(hk:∀ b o,b≠S->h.get? b=some o->h'.get? b=some o)(hI:it≠S):ImAt h' it d S i n ep:=by
 obtain⟨o0,f,ok,ov,e,z⟩:=x;refine⟨o0,f,ok,ov,hk _ _ hI e,?_⟩;rcases z with z | ⟨a,oa,z1,z2,z3,z4⟩
 ·exact .inl z
 ·exact .inr ⟨a,oa,z1,z2,z3,hk _ _ z3 z4⟩
theorem Qau{Q:Option Value->Shared->Prop}(hit:ImAt s.heap it d S i es.size ep)(ho:s.heap.get? d=some od)(hd:od.data=.dict es ep)(hS:S<s.heap.objs.size)(lt:i<es.size)
  (hQ:∀ h',ImAt h' it d S (i+1) es.size ep->h'.get? s.heap.objs.size=some (zaE es[i].key es[i].val)->h'.objs.size=s.heap.objs.size+1->(∀ b o,b≠it->s.heap.get? b=some o->h'.get? b=some o)->Q (some (.ref s.heap.objs.size)) { s with heap:=h' }) :
  wpAny (model prog w) A (pyNext (.ref it)) Q E s:=by
 obtain⟨o0,f,ok,ov,hit,own⟩:=hit;obtain⟨hp,g,dr,tk,os⟩:=s;have hT:Shared.TypeIs ⟨hp,g,dr,tk,os⟩ (.ref it) "dict_itemiterator":=⟨_,hit,rfl⟩;unfold pyNext;refine Za (wpAny_attempt (wpAny_callSpecial?_slot (name:=Str.ofString "__next__") hT slot_dict_itemiterator_next (Yu slot_dict_itemiterator_next hT PySem.F.entry_dict_itemiterator_next ?_ (PySem.F.args_dict_itemiterator_next_1 _))));refine Za (Zc (Za (Za ?_)))
 first | refine Za (wpAny_typeNameOfWhole_itemiter hT (Zc ?_)) | refine Za (wpAny_typeNameOf_itemiter hT (Zc ?_))
 refine Za (wpAny_fieldsOf hit rfl ?_);erw[show Builtin.Dict_items.ownsTuple "dict_itemiterator" = true by decide,Yj]
 show wpAny _ _ (if (Value.ref d==Value.none)=true then _ else _) _ _ _
 rw[Zd (show ¬ ((Value.ref d==Value.none)=true) from Zv)];refine Za (Zc (Za (Yz ho hd ?_)));rw[Zd (by simp)]
 refine Za (Zc (Za (wpAny_dictEpoch ho hd ?_)));rw[Zd (by simp)]
 refine Zc ?_;erw[show ¬ ((i:Int)<0) from by room,ZU,ZD,Array.getElem?_eq_getElem lt]
 refine Za ?_
 first | refine Za (wpAny_typeNameOfWhole_itemiter hT (Zc ?_)) | refine Za (wpAny_typeNameOf_itemiter hT (Zc ?_))
 refine Za (wpAny_isOneOf_itemiter hT ?_);show wpAny _ _ (setField (.ref it) 3 (rawInt ((i:Int)+1)) >>= _) _ _ ⟨hp,g,dr,tk,os⟩;refine Za (wpAny_setField_rec hit (by simp) λh1 e1 s1=>?_)
 replace s1:Heap.SameBut it hp h1:=s1
 replace e1:h1.get? it=some (zaM o0 (.bool f) d (i+1) es.size ep ok ov):=by
  have e:((i+1:Nat):Int)=(i:Int)+1:=by room
  unfold zaM;rw[e];simpa[rawInt]using e1
 have hT1:Shared.TypeIs ⟨h1,g,dr,tk,os⟩ (.ref it) "dict_itemiterator":=⟨_,e1,rfl⟩;refine Za (Yk (Za (wpAny_isOneOf_itemiter hT1 (Za (wpAny_isOneOf_itemiter hT1 ?_)))));show wpAny _ _ (Builtin.Dict_items.pairFromOwner (.ref it) 6 es[i].key es[i].val) _ _ ⟨h1,g,dr,tk,os⟩;unfold Builtin.Dict_items.pairFromOwner;refine Za (wpAny_newTuple ?_);obtain⟨h2,eh2⟩:∃ h2,h2=h1.push (zaE es[i].key es[i].val):=⟨_,rfl⟩;have e2:h2.get? it=some (zaM o0 (.bool f) d (i+1) es.size ep ok ov):=by rw[eh2];exact Zj _ e1
 have z1:h1.objs.size=hp.objs.size:=s1.1;have t2:h2.get? hp.objs.size=some (zaE es[i].key es[i].val):=by rw[eh2,<- z1];exact Z0 _ rfl
 have z2:h2.objs.size=hp.objs.size+1:=by rw[eh2,Heap.size_push,z1]
 have k2:∀ b o,b≠it->hp.get? b=some o->h2.get? b=some o:=λb o hb e=>by rw[eh2];exact Zj _ (s1.extBut b o hb e)
 show wpAny _ _ (Builtin.Dict_items.ownedTupleIsFree (.ref it) >>= _) _ _ ⟨h1.push (zaE es[i].key es[i].val),g,dr,tk,os⟩;rw[<- eh2,z1];clear eh2 e1 s1 hT1 z1 h1;have il:it<hp.objs.size:=Zt hit;have fin:∀ (h3:Heap) (o0:Value) (f:Bool) (ok ov:Value),h3.get? it=some (zaM o0 (.bool f) d (i+1) es.size ep ok ov)->Heap.SameBut it h2 h3->(o0=.none\/∃ a oa,o0=rawInt (a:Addr)/\a≠it/\a≠S/\h2.get? a=some oa)->Q (some (.ref hp.objs.size)) ⟨h3,g,dr,tk,os⟩:=λh3 o0 f ok ov e3 s3 ow =>
  hQ h3 ⟨o0,f,ok,ov,e3,ow.imp id λ⟨a,oa,q1,q2,q3,q4⟩=>⟨a,oa,q1,q2,q3,s3.extBut _ _ q2 q4⟩⟩ (s3.extBut _ _ (ne_of_gt il) t2) (by show h3.objs.size=_;rw[s3.1,z2]) λb o hb e=>s3.extBut b o hb (k2 b o hb e)
 refine Za ?_;unfold Builtin.Dict_items.ownedTupleIsFree;rcases own with rfl | ⟨a,oa,rfl,a1,a2,a3⟩
 ·refine Za (wpAny_field e2 rfl (x:=.none) rfl (Zc ?_));erw[Yj];refine Za (wpAny_field e2 rfl (x:=ok) rfl (Za (wpAny_field e2 rfl (x:=ov) rfl ?_)));refine Za (wpAny_setField_rec e2 (by simp) λh3 e3 s3=>?_)
  replace s3:Heap.SameBut it h2 h3:=s3
  replace e3:h3.get? it=some (zaM .none (.bool f) d (i+1) es.size ep es[i].key ov):=e3
  refine Za (wpAny_setField_rec e3 (by simp) λh4 e4 s4=>?_)
  replace s4:Heap.SameBut it h3 h4:=s4
  replace e4:h4.get? it=some (zaM .none (.bool f) d (i+1) es.size ep es[i].key es[i].val):=e4
  refine Za (wpAny_setField_rec e4 (by simp) λh5 e5 s5=>?_)
  replace s5:Heap.SameBut it h4 h5:=s5
  replace e5:h5.get? it=some (zaM (rawInt hp.objs.size) (.bool f) d (i+1) es.size ep es[i].key es[i].val):=e5
  refine Za (wpAny_setField_rec e5 (by simp) λh6 e6 s6=>?_)
  replace s6:Heap.SameBut it h5 h6:=s6
  refine Za (wpAny_letGo (Zc (Zc ⟨_,rfl,Zc ?_⟩)));refine fin h6 (rawInt hp.objs.size) false _ _ e6 (s3.trans (s4.trans (s5.trans s6))) (.inr ⟨hp.objs.size,_,rfl,ne_of_gt il,ne_of_gt hS,t2⟩)
 ·refine Za (wpAny_field e2 rfl (x:=rawInt a) rfl ?_);show wpAny _ _ (loadIfAlive ((a:Int).toNat) >>= _) _ _ _;rw[ZD];refine Za (kdx_alive (k2 a oa a1 a3) ?_);erw[Option.isNone_some,ZN,ZU];refine Za (wpAny_field e2 rfl (x:=.bool f) rfl ?_);have ow:rawInt a=Value.none\/∃ a' oa,rawInt a=rawInt (a':Addr)/\a'≠it/\a'≠S/\h2.get? a'=some oa:=.inr ⟨a,oa,rfl,a1,a2,k2 a oa a1 a3⟩;cases f with
  | true =>
   rw[Zd (show ¬ ((Value.bool true != Value.bool true)=true) from Zv)];refine Zc ?_;erw[ZN,ZU];exact Zc (Zc ⟨_,rfl,Zc (fin h2 _ true _ _ e2 (Heap.SameBut.refl _ _) ow)⟩)
  | false =>
   rw[Zg (show (Value.bool false != Value.bool true)=true from rfl)];refine Za (wpAny_setField_rec e2 (by simp) λh3 e3 s3=>?_)
   refine Zc ?_;erw[ZN,ZU];exact Zc (Zc ⟨_,rfl,Zc (fin h3 _ true _ _ e3 s3 ow)⟩)
theorem Qc5{Q:Option Value->Shared->Prop}(hh:A.handled=none)(hit:ImAt s.heap it d S es.size es.size ep)(ho:s.heap.get? d=some od)(hd:od.data=.dict es ep)(hQ:∀ h',Heap.ExtBut it s.heap h'->Q none { s with heap:=h' }):wpAny (model prog w) A (pyNext (.ref it)) Q E s:=by
 obtain⟨o0,f,ok,ov,hit,own⟩:=hit;have hT:s.TypeIs (.ref it) "dict_itemiterator":=⟨_,hit,rfl⟩;unfold pyNext;refine Za (wpAny_attempt (wpAny_callSpecial?_slot (name:=Str.ofString "__next__") hT slot_dict_itemiterator_next (Yu slot_dict_itemiterator_next hT PySem.F.entry_dict_itemiterator_next ?_ (PySem.F.args_dict_itemiterator_next_1 _))));refine Za (Zc (Za (Za ?_)))
 first | refine Za (wpAny_typeNameOfWhole_itemiter hT (Zc ?_)) | refine Za (wpAny_typeNameOf_itemiter hT (Zc ?_))
 refine Za (wpAny_fieldsOf hit rfl ?_);erw[show Builtin.Dict_items.ownsTuple "dict_itemiterator" = true by decide,Yj]
 show wpAny _ _ (if (Value.ref d==Value.none)=true then _ else _) _ _ s
 rw[Zd (show ¬ ((Value.ref d==Value.none)=true) from Zv)];refine Za (Zc (Za (Yz ho hd ?_)));rw[Zd (by simp)]
 refine Za (Zc (Za (wpAny_dictEpoch ho hd ?_)));rw[Zd (by simp)]
 refine Zc ?_;erw[show ¬ ((es.size:Int)<0) from by room,ZU,ZD,Array.getElem?_eq_none (Zq es.size)]
 refine Za ?_
 first | refine Za (wpAny_typeNameOfWhole_itemiter hT (Zc ?_)) | refine Za (wpAny_typeNameOf_itemiter hT (Zc ?_))
 show wpAny _ _ (setField (.ref it) 2 .none >>= _) _ _ s;refine Za (wpAny_setField hit rfl (by simp) ?_)
 show wpAny _ _ (newExc (.type "StopIteration") [] >>= _) _ _ _;refine Za ?_;erw[newExc,newTuple];refine Za (ZQ ?_ (by size_fits))
 refine Za (m:=firstArgMember _ _) (wpAny_of_eq (a:=Value.none) (by first | rfl | (erw[firstArgMember];rfl)) ?_)
 refine ZQ ?_ (by size_fits)
 erw[raiseNew];refine Za (wpAny_handled ?_);rw[show A.in1.handled=none from hh];refine Za (Zc (wpAny_throw ?_));refine Za (wpAny_isInstance (T:="StopIteration") (b:=true) ⟨_,Z0 _ rfl,rfl⟩ isSubtype_stop ?_);exact Zc (hQ _ (((Heap.SameBut.update ..).extBut.push _).push _))
structure ImG(es:Array DictEntry)(lo:Addr)(h:Heap)(as:List Addr):Prop where
 rise:as.Pairwise (· < ·)
 above:∀ a∈as,lo<a
 pairs:∀ (j:Nat) (a:Addr),as[j]? = some a->∃ hj:j<es.size,h.get? a=some (zaE es[j].key es[j].val)
theorem ImG.keep{h h':Heap}{lo:Addr}{as:List Addr}(g:ImG es lo h as)(k:∀ b o,lo<b->h.get? b=some o->h'.get? b=some o):ImG es lo h' as :=
 ⟨g.rise,g.above,λj a hj=>let ⟨e1,e2⟩:=g.pairs j a hj;⟨e1,k a _ (g.above a (Z6 hj)) e2⟩⟩
theorem Qav{R:Result->Shared->Prop}(hh:A.handled=none)(hSI:S<it)(hSd:d≠S)(hId:d≠it)(hn:es.size<=sizeLine)(hd:od.data=.dict es ep)(res:Value){h1:Heap}
  (hR:∀ h' tk acc c as,(∀ b o,b≠S->b≠it->h1.get? b=some o->h'.get? b=some o)->h'.get? S=some { cls:=.type "list",dict:=none,data:=.seq acc c,slots:=#[] }->as.length=es.size->ImG es it h' as->acc.toList=as.map Value.ref->R (.ok (.ret res)) { s with heap:=h',toks:=tk }) :
  ∀ (k i:Nat) (h:Heap) (tk c:Nat) (acc:Array Value) (as:List Addr),es.size-i=k->i<=es.size->ImAt h it d S i es.size ep->h.get? d=some od->(∀ b o,b≠S->b≠it->h1.get? b=some o->h.get? b=some o) ->
   h.get? S=some { cls:=.type "list",dict:=none,data:=.seq acc c,slots:=#[] }->acc.toList=as.map Value.ref->as.length=i->ImG es it h as->it<h.objs.size->(∀ a∈as,a<h.objs.size) ->
   codeAny (model prog w) A (.builtin "list.extend.loop" ⟨[.ref S,.ref it,res],[]⟩) R { s with heap:=h,toks:=tk }:=by
 have hne:S≠it:=ZO hSI;intro k
 induction k with
 | zero =>
  intro i h tk c acc as hk hi hst ho hkeep hS hacc hal hG hIs _;have hin:i=es.size:=by room
  subst hin;refine codeAny_builtin PySem.F.entry_extend_loop ?_;rw[Around.under_plainId plain_extend_loop _];show wpAny _ A.in1 (pyNext (.ref it) >>= _) _ _ _;refine Za (Qc5 (s:={ s with heap:=h,toks:=tk }) (A:=A.in1) hh hst ho hd λh' he=>Zc ?_);exact hR h' tk acc c as (λb o h1 h2 e=>he b o h2 (hkeep b o h1 h2 e)) (he S _ hne hS) hal (hG.keep λb o lt e=>he b o (ne_of_gt lt) e) hacc
 | succ k ih =>
  intro i h tk c acc as hk hi hst ho hkeep hS hacc hal hG hIs hlt;have lt:i<es.size:=by room
  have hsz:acc.size=i:=by rw[<- Yd,hacc,Zb,hal]
  have hSl:S<h.objs.size:=Zt hS;refine codeAny_builtin PySem.F.entry_extend_loop ?_;rw[Around.under_plainId plain_extend_loop _];show wpAny _ A.in1 (pyNext (.ref it) >>= _) _ _ _;refine Za (Qau (s:={ s with heap:=h,toks:=tk }) hst ho hd hSl lt λh' hst' ht hz hkp=>?_);dsimp only at ht hz hkp ⊢;have hS':=hkp S _ hne hS;have up:∀ b o,b≠S->h'.get? b=some o->(h'.update S (Obj.mapSeq (·.push (Value.ref h.objs.size)))).get? b=some o:=λb o hb e=>(Heap.get?_update_other _ _ (Ne.symm hb)).trans e;show wpAny _ A.in1 (updateSeq S (·.push (Value.ref h.objs.size)) >>= _) _ _ _;refine Za ?_;refine wpAny_updateSeq hS' rfl (Zc ⟨plainId_quiet plain_extend_loop _,ih (i+1) _ tk _ (acc.push (Value.ref h.objs.size)) (as++[h.objs.size]) (by room) lt (hst'.keep up (Ne.symm hne)) (up d _ hSd (hkp d _ hId ho))
   (λb o h1 h2 e=>up b o h1 (hkp b o h2 (hkeep b o h1 h2 e))) (Heap.get?_update_self _ hS' rfl) (by rw[Array.toList_push,hacc,Z9];rfl) (by rw[Zl,hal];rfl) ⟨?_,?_,?_⟩ ?_ ?_⟩) (by rw[hsz];room) (by show (acc.push (Value.ref h.objs.size)).size<=sizeLine+1;rw[Array.size_push,hsz];room)
  ·exact pairwise_append.mpr ⟨hG.rise,Yx _ _,λa ha b hb=>by rw[Zh.mp hb];exact hlt a ha⟩
  ·intro a ha;rcases Z4.mp ha with ha | ha
   ·exact hG.above a ha
   ·rw[Zh.mp ha];exact hIs
  ·intro j b hj;rcases lt_or_ge j as.length with q | q
   ·rw[ZZ q]at hj;obtain⟨e1,e2⟩:=hG.pairs j b hj;have hb:=hG.above b (Z6 hj);exact⟨e1,up b _ (ne_of_gt (lt_trans hSI hb)) (hkp b _ (ne_of_gt hb) e2)⟩
   ·rw[ZK q]at hj;have ej:j=i:=by
     have:=(Zf.mp hj).1;rw[ZL]at this;room
    subst ej;rw[hal,sub_self]at hj;injection hj with hj;rw[<- hj];exact⟨lt,up _ _ (ne_of_gt hSl) ht⟩
  ·have e:(h'.update S (Obj.mapSeq (·.push (Value.ref h.objs.size)))).get? h.objs.size=_:=up _ _ (ne_of_gt hSl) ht;exact lt_trans hIs (Zt e)
  ·have e:(h'.update S (Obj.mapSeq (·.push (Value.ref h.objs.size)))).get? h.objs.size=_:=up _ _ (ne_of_gt hSl) ht;intro a ha;rcases Z4.mp ha with ha | ha
   ·exact lt_trans (hlt a ha) (Zt e)
   ·rw[Zh.mp ha];exact Zt e
theorem Qaw{Q:Value->Shared->Prop}(hv:s.heap.IsItemsView v d)(ho:s.heap.get? d=some od)(hd:od.data=.dict es ep)(h:Q (.ref s.heap.objs.size) { s with heap:=s.heap.push (zaM .none (.bool false) d 0 es.size ep .none .none) }):wpAny (model prog w) A (pyIter (.ref v)) Q E s:=by
 obtain⟨ov,hov,hcv,hdv⟩:=id hv;refine wpAny_pyIter_slot hv.typeIs PySem.F.slot_dict_items_iter (Yu PySem.F.slot_dict_items_iter hv.typeIs PySem.F.entry_dict_items_iter ?_ (PySem.F.args_dict_items_iter_1 _));unfold Builtin.«dict_items.__iter__» Builtin.Dict_items.dictOf Builtin.Dict_items.newIterator;refine Za (Zc ?_);refine Za (Za (wpAny_field hov hdv (x:=.ref d) rfl (Zc ?_)));refine Za (Za (Yz ho hd ?_));refine Za (wpAny_dictEpoch ho hd ?_);erw[show Builtin.Dict_items.ownsTuple "dict_itemiterator" = true by decide,Yj]
 refine ZQ (Zc ⟨_,rfl,"dict_itemiterator",_,⟨_,Z0 _ rfl,rfl⟩,slot_dict_itemiterator_next.lookup,?_⟩) (by erw[sizeOk,Builtin.Dict_items.ownedTupleFields,ZF,Zl,Zw,ZH,ZY];room)
 simpa[zaM,rawInt,Builtin.Dict_items.ownedTupleFields]using h
theorem Qax{r:Addr}{Q:Value->Shared->Prop}(hh:A.handled=none)(hv:s.heap.IsItemsView r d)(ho:s.heap.get? d=some od)(hd:od.data=.dict es ep)(hn:es.size<=sizeLine)
  (hQ:∀ h' tk acc c as,(∀ b o,s.heap.get? b=some o->h'.get? b=some o)->h'.get? s.heap.objs.size=some { cls:=.type "list",dict:=none,data:=.seq acc c,slots:=#[] }->as.length=es.size->ImG es s.heap.objs.size h' as->acc.toList=as.map Value.ref->Q (.ref s.heap.objs.size) { s with heap:=h',toks:=tk }) :
  wpAny (model prog w) A (call (.type "list") [.ref r]) Q E s:=by
 refine callType_codes (Q₁:=λobj s₁=>obj=.ref s.heap.objs.size/\s₁={ s with heap:=s.heap.push { cls:=.type "list",data:=.seq #[] } }) PySem.F.called_list (PySem.F.typeCall_list_1 _) PySem.F.entry_list_init (code_list_new _ ⟨rfl,rfl⟩) λobj s₁ h₁=>?_;obtain⟨rfl,rfl⟩:=h₁;have hr:r<s.heap.objs.size:=let ⟨_,ho,_⟩:=hv;Zt ho;have hds:d<s.heap.objs.size:=Zt ho;generalize eS:s.heap.objs.size=S at *;have hS:(s.heap.push { cls:=.type "list",data:=.seq #[] }).get? S=some { cls:=.type "list",data:=.seq #[] }:=by rw[<- eS];exact Z0 _ rfl
 have k0:∀ b o,s.heap.get? b=some o->(s.heap.push { cls:=.type "list",data:=.seq #[] }).get? b=some o:=λb o e=>Zj _ e;have ns:∀ b o,s.heap.get? b=some o->b≠S:=λb o e=>by rw[<- eS];exact ZO (Zt e)
 generalize s.heap.push { cls:=.type "list",data:=.seq #[] }=h1 at hS k0;refine⟨⟨_,hS,rfl⟩,PySem.F.args_list_init_2 _ _,?_⟩;show wpAny _ _ (do let old <- Builtin.List.listItems (.ref S);Builtin.List.listUpdate (.ref S) (λ_=>#[]);letGo old.toList.reverse;Builtin.List.listExtendWith (.ref S) (.ref r) .none) _ _ _
 refine Za ?_;unfold Builtin.List.listItems;refine Za (wpAny_seqItems hS rfl (Zc ?_));show wpAny _ _ (updateSeq S (λ_=>#[]) >>= λ_=>letGo (#[]:Array Value).toList.reverse >>= λ_=>Builtin.List.listExtendWith (.ref S) (.ref r) .none) _ _ _;refine Za (wpAny_updateSeq hS rfl ?_);have hS2:=Heap.get?_update_self (Obj.mapSeq (λ_=>(#[]:Array Value))) hS rfl;have k2:∀ b o,s.heap.get? b=some o->(h1.update S (Obj.mapSeq (λ_=>(#[]:Array Value)))).get? b=some o:=λb o e=>(Heap.get?_update_other _ _ (ns b o e).symm).trans (k0 b o e);generalize h1.update S (Obj.mapSeq (λ_=>(#[]:Array Value)))=h2 at hS2 k2;refine Za (wpAny_letGo ?_);unfold Builtin.List.listExtendWith;have hv2:h2.IsItemsView r d:=let ⟨o,e,x⟩:=hv;⟨o,k2 _ _ e,x⟩;refine Za (wpAny_typeOf (T:="dict_items") hv2.typeIs ?_);have n1:Builtin.List.listSameRef (.ref S) (.ref r)=false:=by simp[Builtin.List.listSameRef,ne_of_gt hr]
 erw[n1,show (Value.type "dict_items" == Value.type "list")=false by decide,show (Value.type "dict_items" == Value.type "tuple")=false by decide,Bool.or_false,ZN,ZU]
 refine Za (Qaw (s:={ s with heap:=h2,toks:=_ }) hv2 (k2 _ _ ho) hd ?_);have lS2:S<h2.objs.size:=Zt hS2;have hS3:=Zj (zaM .none (.bool false) d 0 es.size ep .none .none) hS2;have key:∀ (h:Heap) (c₁ tk:Nat),(∀ b o,b≠S->(h2.push (zaM .none (.bool false) d 0 es.size ep .none .none)).get? b=some o->h.get? b=some o)->h.get? S=some { cls:=.type "list",data:=.seq #[] c₁ }->codeAny (model prog w) A.in1 (.builtin "list.extend.loop" ⟨[.ref S,.ref h2.objs.size,.none],[]⟩) (wants (λr s₂=>r=Value.none/\Q (Value.ref S) s₂) E) { s with heap:=h,toks:=tk }:=by
  intro h c₁ tk hk hS₁;have hI:=hk h2.objs.size _ (ne_of_gt lS2) (Z0 _ rfl);refine Qav (od:=od) (es:=es) (ep:=ep) (s:=s) (h1:=s.heap) (A:=A.in1) hh lS2 (ns d _ ho) (ZO (Zt (k2 _ _ ho))) hn hd .none ?_ es.size 0 h tk c₁ #[] [] (sub_zero _) (ZI _) ⟨.none,false,.none,.none,hI,.inl rfl⟩ (hk d _ (ns d _ ho) (Zj _ (k2 _ _ ho))) (λb o hb _ e=>hk b o hb (Zj _ (k2 b o e))) hS₁ rfl rfl
   ⟨List.Pairwise.nil,(λ_ ha=>nomatch ha),(λj a hj=>by simp at hj)⟩ (Zt hI) (λ_ ha=>nomatch ha)
  intro h' tk' acc c as hk' hS' hl hG hacc;refine⟨rfl,hQ h' tk' acc c as (λb o e=>hk' b o (ns b o e) (ZO (Zt (k2 b o e))) e) hS' hl ⟨hG.rise,λa ha=>lt_trans lS2 (hG.above a ha),hG.pairs⟩ hacc⟩
 refine Za (Yk (kdx_hint (let ⟨o,ho,hc,_⟩:=hv2;⟨o,Zj _ ho,hc⟩) ?_));refine wpAny_ite_split (λ_=>?_) (λ_=>Zc ⟨plainId_quiet plain_extend_loop _,key _ _ _ (λb o _ e=>e) hS3⟩);refine Za (wpAny_rule (Za ?_));show wpAny _ _ (updateSeq S (·.push .none) >>= λ_=>updateSeq S (·.pop)) _ _ _;refine Za (wpAny_updateSeq hS3 rfl ?_);have hS4:=Heap.get?_update_self (Obj.mapSeq (·.push Value.none)) hS3 rfl;refine wpAny_updateSeq (hz:=by seq_fits) hS4 rfl ?_
 have hS5:=Heap.get?_update_self (Obj.mapSeq (·.pop)) hS4 rfl;exact Zc ⟨plainId_quiet plain_extend_loop _,key _ _ _ (λb o hb e=>(Heap.get?_update_other _ _ (Ne.symm hb)).trans ((Heap.get?_update_other _ _ (Ne.symm hb)).trans e)) hS5⟩
end
section
variable{X:Cx}{pins:List (Addr×Obj)}{σ:St}{s:Shared}
theorem FpOk.upd(f:FpOk X pins H a)(n:a≠b):FpOk X pins (upd H b o) a:=⟨by rw[Q0d n];exact f.1,f.2⟩
theorem Q2A:∀ (as:List Addr) (ps:List (V×V)) {H:Hp},Inv X pins σ H s->as.length=ps.length->as.Nodup->(∀ a∈as,FpOk X pins H a/\X.s₀.heap.objs.size<=a)->(∀ (j:Nat) (a:Addr) (p:V×V),as[j]? = some a->ps[j]? = some p->∃ k v,RelV p.1 k/\RelV p.2 v/\s.heap.get? a=some (zaE k v)) ->
  ∃ H',Inv X pins σ H' s/\(∀ b,b∉as->H' b=H b)/\∀ (j:Nat) (a:Addr) (p:V×V),as[j]? = some a->ps[j]? = some p->H' a=some (.tup [p.1,p.2])
 | [],_,H,I,_,_,_,_=>⟨H,I,λ_ _=>rfl,λj a p h=>by simp at h⟩
 | a::as,[],H,I,h,_,_,_=>by cases h
 | a::as,p::ps,H,I,hl,nd,f,hp=>by
  obtain⟨k,v,r1,r2,ha⟩:=hp 0 a p rfl rfl;have I1:=I.adopt (o:=.tup [p.1,p.2]) (f a Zp).1 (f a Zp).2 ⟨by show (2:Nat)<=sizeLine;rw[ZY];room,[k,v],.cons r1 (.cons r2 .nil),_,ha,rfl,0,rfl⟩
  obtain⟨na,nd'⟩:=Yw.mp nd;obtain⟨H',I',e1,e2⟩:=Q2A as ps I1 (Nat.succ.inj hl) nd' (λb hb=>⟨(f b (Zo _ hb)).1.upd λz=>na (by rw[<- z];exact hb),(f b (Zo _ hb)).2⟩) λj b q h1 h2=>hp (j+1) b q h1 h2
  refine⟨H',I',λb hb=>?_,λj b q h1 h2=>?_⟩
  ·rw[e1 b λz=>hb (Zo _ z),Q0d λz=>hb (by rw[z];exact Zp)]
  ·cases j with
   | zero =>
    cases h1;cases h2;rw[e1 _ na,Q0g]
   | succ j=>exact e2 j b q h1 h2
end
end L2
namespace STb
open PySem PySem.Spec PySem.W PyProof.Rows
section
variable{prog:Program}{w:World}{A:Around}{E:Value->Shared->Prop}{s:Shared}
end
end STb
namespace DL
open PySem PySem.Spec L2
open PyProof.Rows hiding St
noncomputable def S(x:List Nat):Str:=⟨x.toArray⟩
inductive D where
 | non | bl (b:Bool) | int (i:Int) | str (x:List Nat) | tup (xs:List D) | lst (xs:List D) | ref (a:Addr)
def FzL(K:Frag)(H:Hp)(a:Addr)(xs:List V):Prop :=
 (∃ o,H a=some (.frz o (.lst xs))) \/
  ∃ (o:Obj) (its:Array Value) (n:Nat),K.lookup a=some o/\o.cls=.type "list" /\ o.dict=none/\o.data=.seq its n/\its.size<=sizeLine/\Vals xs its.toList
theorem FzL.sq{K:Frag}{H:Hp}{a:Addr}{xs:List V}(h:FzL K H a xs):SqL K H a xs:=by
 rcases h with ⟨o,h⟩ | h
 ·exact .inl (.inr ⟨o,h⟩)
 ·exact .inr h
mutual
inductive Den(K:Frag)(H:Hp):D->V->Prop
 | non:Den K H .non .non
 | bl (b:Bool):Den K H (.bl b) (.bl b)
 | int (i:Int):Den K H (.int i) (.int i)
 | str (x:List Nat) (h:(x.all λc=>decide (c<1114112))=true):Den K H (.str x) (.str (S x))
 | ref (a:Addr):Den K H (.ref a) (.ref a)
 | tup {a:Addr} {ds:List D} {vs:List V}:H a=some (.tup vs)->Dens K H ds vs->Den K H (.tup ds) (.ref a)
 | lst {a:Addr} {ds:List D} {vs:List V}:FzL K H a vs->Dens K H ds vs->Den K H (.lst ds) (.ref a)
inductive Dens(K:Frag)(H:Hp):List D->List V->Prop
 | nil:Dens K H [] []
 | cons {d:D} {v:V} {ds:List D} {vs:List V}:Den K H d v->Dens K H ds vs->Dens K H (d::ds) (v::vs)
end
structure Ext(H H':Hp):Prop where
 tup:∀ b xs,H b=some (.tup xs)->H' b=some (.tup xs)
 frz:∀ b o u,H b=some (.frz o u)->H' b=some (.frz o u)
theorem Ext.refl(H:Hp):Ext H H:=⟨λ_ _ e=>e,λ_ _ _ e=>e⟩
theorem Ext.trans(a:Ext H H1)(b:Ext H1 H2):Ext H H2:=⟨λc xs e=>b.tup c xs (a.tup c xs e),λc o u e=>b.frz c o u (a.frz c o u e)⟩
theorem Ext.new(h:H p=none):Ext H (upd H p o) :=
 ⟨λb xs e=>by rw[Q0d (Q0k e h)];exact e,λb o u e=>by rw[Q0d (Q0k e h)];exact e⟩
theorem Ext.mut(h:H p=some u)(h1:∀ xs,u≠.tup xs)(h2:∀ ob v,u≠.frz ob v):Ext H (upd H p o) :=
 ⟨λb ys e=>by rw[Q0d λw=>by rw[w,h]at e;cases e;exact h1 _ rfl];exact e,λb ob y e=>by rw[Q0d λw=>by rw[w,h]at e;cases e;exact h2 _ _ rfl];exact e⟩
theorem Ext.lst(h:H p=some (.lst xs)):Ext H (upd H p o) :=
 ⟨λb ys e=>by rw[Q0d λw=>by rw[w,h]at e;cases e];exact e,λb u y e=>by rw[Q0d λw=>by rw[w,h]at e;cases e];exact e⟩
section
variable{K:Frag}{H H':Hp}
theorem SqT.ext(x:Ext H H')(h:SqT K H a xs):SqT K H' a xs:=by
 rcases h with (h | ⟨o,h⟩) | h
 ·exact .inl (.inl (x.tup _ _ h))
 ·exact .inl (.inr ⟨o,x.frz _ _ _ h⟩)
 ·exact .inr h
theorem FzL.ext(x:Ext H H')(h:FzL K H a xs):FzL K H' a xs:=by
 rcases h with ⟨o,h⟩ | h
 ·exact .inl ⟨o,x.frz _ _ _ h⟩
 ·exact .inr h
mutual
theorem Den.ext(x:Ext H H'):∀ {d:D} {v:V},Den K H d v->Den K H' d v
 | _,_,.non=>.non
 | _,_,.bl b=>.bl b
 | _,_,.int i=>.int i
 | _,_,.str s h=>.str s h
 | _,_,.ref a=>.ref a
 | _,_,.tup h t=>.tup (x.tup _ _ h) (Dens.ext x t)
 | _,_,.lst h t=>.lst (FzL.ext x h) (Dens.ext x t)
theorem Dens.ext(x:Ext H H'):∀ {ds:List D} {vs:List V},Dens K H ds vs->Dens K H' ds vs
 | _,_,.nil=>.nil
 | _,_,.cons h t=>.cons (Den.ext x h) (Dens.ext x t)
end
theorem Dens.length:∀ {ds:List D} {vs:List V},Dens K H ds vs->ds.length=vs.length
 | _,_,.nil=>rfl
 | _,_,.cons _ t=>by rw[Zw,Zw,Dens.length t]
theorem Dens.get:∀ {ds:List D} {vs:List V} {i:Nat} {d:D},Dens K H ds vs->ds[i]? = some d->∃ v,vs[i]? = some v/\Den K H d v
 | _,_,_,_,.nil,e=>by simp at e
 | _,_,0,_,.cons r _,e=>by simp at e;subst e;exact⟨_,rfl,r⟩
 | _,_,i+1,d,.cons _ t,e=>by
  obtain⟨u,h1,h2⟩:=Dens.get (i:=i) (d:=d) t (by simpa using e)
  exact⟨u,by simpa using h1,h2⟩
theorem Dens.get':∀ {ds:List D} {vs:List V} {i:Nat} {v:V},Dens K H ds vs->vs[i]? = some v->∃ d,ds[i]? = some d/\Den K H d v
 | _,_,_,_,.nil,e=>by simp at e
 | _,_,0,_,.cons r _,e=>by simp at e;subst e;exact⟨_,rfl,r⟩
 | _,_,i+1,d,.cons _ t,e=>by
  obtain⟨u,h1,h2⟩:=Dens.get' (i:=i) (v:=d) t (by simpa using e)
  exact⟨u,by simpa using h1,h2⟩
theorem Dens.append:∀ {ds es:List D} {vs ws:List V},Dens K H ds vs->Dens K H es ws->Dens K H (ds++es) (vs++ws)
 | _,_,_,_,.nil,s=>s
 | _,_,_,_,.cons r t,s=>.cons r (Dens.append t s)
theorem Dens.take:∀ {ds:List D} {vs:List V} (n:Nat),Dens K H ds vs->Dens K H (ds.take n) (vs.take n)
 | _,_,0,_=>.nil
 | _,_,_+1,.nil=>.nil
 | _,_,n+1,.cons r t=>.cons r (Dens.take n t)
theorem Dens.drop:∀ {ds:List D} {vs:List V} (n:Nat),Dens K H ds vs->Dens K H (ds.drop n) (vs.drop n)
 | _,_,0,r=>r
 | _,_,_+1,.nil=>.nil
 | _,_,n+1,.cons _ t=>Dens.drop n t
end
noncomputable abbrev DSt:=List (Option D)
inductive MO2 where
 | dct (kvs:List (List (List Nat)×D))
 | dkt (kvs:List (List Nat×D))
 | dkf (ob:Obj) (kvs:List (List Nat×D))
 | dcf (ob:Obj) (kvs:List (List (List Nat)×D))
 | ins (c:Str) (fs:List (Str×D))
inductive MO where
 | lst (ds:List D)
 | oth (o:MO2)
noncomputable abbrev DH:=Addr->Option MO
noncomputable def dupd(M:DH)(a:Addr)(o:MO):DH:=λb=>if b=a then some o else M b
theorem Q0c:dupd M a o a=some o:=Zg rfl
theorem Q0a(h:b≠a):dupd M a o b=M b:=Zd h
theorem dne{M:DH}{a b:Addr}{o:MO}(h:M a=some o)(h':M b=none):a≠b:=by
 intro e;subst e;rw[h]at h';cases h'
theorem Q0X:dupd (dupd M a o) a u=dupd M a u:=by
 funext b
 unfold dupd;by_cases h:b=a
 ·rw[Zg h,Zg h]
 ·rw[Zd h,Zd h,Zd h]
def DenO(K:Frag)(H:Hp):Option D->Option V->Prop
 | none,none=>True
 | some d,some v=>Den K H d v
 | _,_=>False
inductive SimS(K:Frag)(H:Hp):DSt->St->Prop
 | nil:SimS K H [] []
 | cons {d:Option D} {v:Option V} {ds:DSt} {vs:St}:DenO K H d v->SimS K H ds vs->SimS K H (d::ds) (v::vs)
noncomputable def nk(n:List (List Nat)):List Key:=n.map λx=>Sum.inr (S x)
noncomputable abbrev KDs(K:Frag)(H:Hp):List (List (List Nat)×D)->List (List Key×V)->Prop:=Paired λp q=>q.1=nk p.1/\Den K H p.2 q.2
noncomputable def tkk(x:List Nat):Key:=Sum.inr (S x)
noncomputable abbrev KTs(K:Frag)(H:Hp):List (List Nat×D)->List (Key×V)->Prop:=Paired λp q=>q.1=tkk p.1/\Den K H p.2 q.2
noncomputable abbrev FDs(K:Frag)(H:Hp):List (Str×D)->List (Str×V)->Prop:=Paired λp q=>p.1=q.1/\Den K H p.2 q.2
def MOk2(K:Frag)(H:Hp)(a:Addr):MO2->Prop
 | .dct kvs=>∃ vs,H a=some (.dT vs)/\KDs K H kvs vs
 | .dkt kvs=>∃ vs,H a=some (.dK vs)/\KTs K H kvs vs
 | .dkf ob kvs=>∃ vs,H a=some (.frz ob (.dK vs))/\KTs K H kvs vs
 | .dcf ob kvs=>∃ vs,H a=some (.frz ob (.dT vs))/\KDs K H kvs vs
 | .ins c fs=>∃ C dx vs,nsIn K mainGlobals c=some (some (.ref C))/\H a=some (.ins C dx vs)/\FDs K H fs vs
def MOk(K:Frag)(H:Hp)(a:Addr):MO->Prop
 | .lst ds=>∃ vs,H a=some (.lst vs)/\Dens K H ds vs
 | .oth o=>MOk2 K H a o
def SimM(K:Frag)(M:DH)(H:Hp):Prop:=∀ a o,M a=some o->MOk K H a o
section
variable{K:Frag}{H H':Hp}{M:DH}
theorem DenO.ext(x:Ext H H'):∀ {d:Option D} {v:Option V},DenO K H d v->DenO K H' d v
 | none,none,_=>trivial
 | some _,some _,h=>Den.ext x h
 | none,some _,h=>h.elim
 | some _,none,h=>h.elim
theorem SimS.ext(x:Ext H H'):∀ {ds:DSt} {vs:St},SimS K H ds vs->SimS K H' ds vs
 | _,_,.nil=>.nil
 | _,_,.cons h t=>.cons (h.ext x) (SimS.ext x t)
theorem SimS.get:∀ {ds:DSt} {vs:St} {i:Nat} {d:D},SimS K H ds vs->ds[i]? = some (some d)->∃ v,vs[i]? = some (some v)/\Den K H d v
 | _,_,_,_,.nil,e=>by simp at e
 | _,some v::_,0,d,.cons (d:=some d') r _,e=>by simp at e;subst e;exact⟨v,rfl,r⟩
 | _,none::_,0,d,.cons (d:=some d') r _,e=>r.elim
 | _,_,0,d,.cons (d:=none) r _,e=>by simp at e
 | _,_,i+1,d,.cons _ t,e=>by
  obtain⟨u,h1,h2⟩:=SimS.get (i:=i) (d:=d) t (by simpa using e)
  exact⟨u,by simpa using h1,h2⟩
theorem SimS.getD:∀ {ds:DSt} {vs:St} (i:Nat),SimS K H ds vs->DenO K H ((ds[i]?).getD none) ((vs[i]?).getD none)
 | _,_,_,.nil=>by simp;exact trivial
 | _,_,0,.cons r _=>by simpa using r
 | _,_,i+1,.cons _ t=>by simpa using SimS.getD i t
theorem SimS.set(r:Den K H d v):∀ {ds:DSt} {vs:St} (i:Nat),SimS K H ds vs->SimS K H (ds.set i (some d)) (vs.set i (some v))
 | _,_,_,.nil=>.nil
 | _,_,0,.cons _ t=>.cons r t
 | _,_,i+1,.cons q t=>.cons q (SimS.set r i t)
theorem SimS.append:∀ {ds es:DSt} {vs ws:St},SimS K H ds vs->SimS K H es ws->SimS K H (ds++es) (vs++ws)
 | _,_,_,_,.nil,s=>s
 | _,_,_,_,.cons r t,s=>.cons r (SimS.append t s)
theorem SimS.nones:∀ k:Nat,SimS K H (List.replicate k none) (List.replicate k none)
 | 0=>.nil
 | k+1=>.cons trivial (SimS.nones k)
theorem SimS.ofDens:∀ {ds:List D} {vs:List V},Dens K H ds vs->SimS K H (ds.map some) (vs.map some)
 | _,_,.nil=>.nil
 | _,_,.cons r t=>.cons r (SimS.ofDens t)
theorem SimS.pick(h:SimS K H ds vs):∀ ix:List Nat,SimS K H (ix.map λi=>(ds[i]?).getD none) (ix.map λi=>(vs[i]?).getD none)
 | []=>.nil
 | i::r=>.cons (h.getD i) (SimS.pick h r)
theorem MOk.keep(h:MOk K H a o)(x:Ext H H')(e:H' a=H a):MOk K H' a o:=by
 cases o with
 | lst ds=>obtain⟨vs,e1,e2⟩:=h;exact⟨vs,e.trans e1,e2.ext x⟩
 | oth o =>
  cases o with
  | dct kvs=>obtain⟨vs,e1,e2⟩:=h;exact⟨vs,e.trans e1,Paired.mapP e2 λp q z=>⟨z.1,Den.ext x z.2⟩⟩
  | dkt kvs=>obtain⟨vs,e1,e2⟩:=h;exact⟨vs,e.trans e1,Paired.mapP e2 λp q z=>⟨z.1,Den.ext x z.2⟩⟩
  | dkf ob kvs=>obtain⟨vs,e1,e2⟩:=h;exact⟨vs,e.trans e1,Paired.mapP e2 λp q z=>⟨z.1,Den.ext x z.2⟩⟩
  | dcf ob kvs=>obtain⟨vs,e1,e2⟩:=h;exact⟨vs,e.trans e1,Paired.mapP e2 λp q z=>⟨z.1,Den.ext x z.2⟩⟩
  | ins c fs=>obtain⟨C,dx,vs,e0,e1,e2⟩:=h;exact⟨C,dx,vs,e0,e.trans e1,Paired.mapP e2 λp q z=>⟨z.1,Den.ext x z.2⟩⟩
theorem MOk.there(h:MOk K H a o):∃ u,H a=some u:=by
 cases o with
 | lst ds=>obtain⟨vs,e1,e2⟩:=h;exact⟨_,e1⟩
 | oth o =>
  cases o with
  | dct kvs=>obtain⟨vs,e1,e2⟩:=h;exact⟨_,e1⟩
  | dkt kvs=>obtain⟨vs,e1,e2⟩:=h;exact⟨_,e1⟩
  | dkf ob kvs=>obtain⟨vs,e1,e2⟩:=h;exact⟨_,e1⟩
  | dcf ob kvs=>obtain⟨vs,e1,e2⟩:=h;exact⟨_,e1⟩
  | ins c fs=>obtain⟨C,dx,vs,e0,e1,e2⟩:=h;exact⟨_,e1⟩
theorem SimM.free(h:SimM K M H)(e:H p=none):M p=none:=by
 cases q:M p with
 | none=>rfl
 | some o=>obtain⟨u,e'⟩:=(h p _ q).there;rw[e]at e';cases e'
theorem SimM.get(h:SimM K M H)(e:M a=some (.lst ds)):∃ vs,H a=some (.lst vs)/\Dens K H ds vs:=h a _ e
theorem SimM.new(h:SimM K M H)(e:H p=none):SimM K M (upd H p o):=λa u q=>by
 obtain⟨u',e1⟩:=(h a _ q).there;exact (h a _ q).keep (Ext.new e) (Q0d (Q0k e1 e))
theorem SimM.newL(h:SimM K M H)(e:H p=none)(r:Dens K H ds vs):SimM K (dupd M p (.lst ds)) (upd H p (.lst vs)):=λa u q=>by
 by_cases ha:a=p
 ·subst ha;rw[Q0c]at q;cases q;exact⟨vs,Q0g,Dens.ext (Ext.new e) r⟩
 ·rw[Q0a ha]at q;exact (h.new e) a u q
theorem SimM.write(h:SimM K M H)(e:H p=some (.lst ws))(r:Dens K H ds vs):SimM K (dupd M p (.lst ds)) (upd H p (.lst vs)):=λa u q=>by
 by_cases ha:a=p
 ·subst ha;rw[Q0c]at q;cases q;exact⟨vs,Q0g,Dens.ext (Ext.lst e) r⟩
 ·rw[Q0a ha]at q;exact (h a _ q).keep (Ext.lst e) (Q0d ha)
theorem SimM.put(h:SimM K M H)(x:Ext H (upd H p o))(n:MOk K (upd H p o) p u):SimM K (dupd M p u) (upd H p o):=λa v q=>by
 by_cases ha:a=p
 ·subst ha;rw[Q0c]at q;cases q;exact n
 ·rw[Q0a ha]at q;exact (h a _ q).keep x (Q0d ha)
noncomputable def ddel(M:DH)(a:Addr):DH:=λb=>if b=a then none else M b
theorem SimM.frz(h:SimM K M H)(e:H p=some (.lst ws)):SimM K (ddel M p) (upd H p o):=λa u q=>by
 unfold ddel at q;by_cases ha:a=p
 ·rw[Zg ha]at q;cases q
 ·rw[Zd ha]at q;exact (h a _ q).keep (Ext.lst e) (Q0d ha)
end
noncomputable abbrev DK:=D->DH->Prop
noncomputable abbrev DTE:=DSt->DH->DK->Prop
noncomputable abbrev DTT:=DSt->DH->(Bool->DH->Prop)->Prop
noncomputable abbrev DTA:=DSt->DH->(List D->DH->Prop)->Prop
structure zbs where
 nx:DSt->DH->Prop
 rt:DK
 bk:DSt->DH->Prop
 ct:DSt->DH->Prop
noncomputable abbrev DTS:=zbs->DSt->DH->Prop
def Aft(K:Frag)(H:Hp)(R:DK)(Q:VK):Prop:=∀ d M' v H',R d M'->Ext H H'->SimM K M' H'->Den K H' d v->Q v H'
inductive lE(K:Frag)(t:DTE)(σ:St)(H:Hp)(Q:VK):Prop
 | mk (ρ:DSt) (M:DH) (R:DK) (s:SimS K H ρ σ) (m:SimM K M H) (h:t ρ M R) (k:Aft K H R Q)
inductive lT(K:Frag)(t:DTT)(σ:St)(H:Hp)(Q:Bool->Hp->Prop):Prop
 | mk (ρ:DSt) (M:DH) (R:Bool->DH->Prop) (s:SimS K H ρ σ) (m:SimM K M H) (h:t ρ M R) (k:∀ b M' H',R b M'->Ext H H'->SimM K M' H'->Q b H')
inductive lA(K:Frag)(t:DTA)(σ:St)(H:Hp)(Q:List V->Hp->Prop):Prop
 | mk (ρ:DSt) (M:DH) (R:List D->DH->Prop) (s:SimS K H ρ σ) (m:SimM K M H) (h:t ρ M R) (k:∀ ds M' vs H',R ds M'->Ext H H'->SimM K M' H'->Dens K H' ds vs->Q vs H')
structure Fin(K:Frag)(H:Hp)(DD:zbs)(D:Ends):Prop where
 nx:∀ ρ' M' σ' H',DD.nx ρ' M'->Ext H H'->SimS K H' ρ' σ'->SimM K M' H'->D.nx σ' H'
 rt:Aft K H DD.rt D.rt
 bk:∀ ρ' M' σ' H',DD.bk ρ' M'->Ext H H'->SimS K H' ρ' σ'->SimM K M' H'->D.bk σ' H'
 ct:∀ ρ' M' σ' H',DD.ct ρ' M'->Ext H H'->SimS K H' ρ' σ'->SimM K M' H'->D.ct σ' H'
inductive lS(K:Frag)(t:DTS)(D:Ends)(σ:St)(H:Hp):Prop
 | mk (ρ:DSt) (M:DH) (DD:zbs) (s:SimS K H ρ σ) (m:SimM K M H) (h:t DD ρ M) (k:Fin K H DD D)
theorem Aft.ext{K:Frag}{H H':Hp}{R:DK}{Q:VK}(a:Aft K H R Q)(x:Ext H H'):Aft K H' R Q:=λd M v H'' r y=>a d M v H'' r (x.trans y)
theorem Fin.ext{K:Frag}{H H':Hp}{DD:zbs}{D:Ends}(a:Fin K H DD D)(x:Ext H H'):Fin K H' DD D :=
 ⟨λr M s H2 q y=>a.nx r M s H2 q (x.trans y),a.rt.ext x,λr M s H2 q y=>a.bk r M s H2 q (x.trans y),λr M s H2 q y=>a.ct r M s H2 q (x.trans y)⟩
noncomputable abbrev DE(X:Cx)(e:Expr)(t:DTE):Prop:=PE X e (lE X.K t)
noncomputable abbrev DT(X:Cx)(e:Expr)(t:DTT):Prop:=PT X e (lT X.K t)
noncomputable abbrev DW(X:Cx)(e:Expr)(t:DTT):Prop:=PW X e (lT X.K t)
noncomputable abbrev DA(X:Cx)(es:List Expr)(t:DTA):Prop:=PA X es (lA X.K t)
noncomputable abbrev DS(X:Cx)(st:Stmt)(t:DTS):Prop:=PS X st (lS X.K t)
noncomputable abbrev DSs(X:Cx)(st:List Stmt)(t:DTS):Prop:=PSs X st (lS X.K t)
section
variable{X:Cx}{a b c e:Expr}{es:List Expr}{ta tb te:DTE}{tt tu:DTT}{pos:Pos}{K:Frag}
def dVar(i:Nat):DTE:=λρ M Q=>match ρ[i]? with
 | some (some d)=>Q d M
 | _=>False
theorem dv(i:Nat)(hN:X.N[i]? = some x:=by rfl)(hv:Vis X.env.scope x:=by first | exact Or.inl rfl | exact Or.inr (Or.inl rfl) | exact Or.inr (Or.inr rfl))(hd:(x==("__debug__" : Str))=false:=by decide)
  (hcd:(x==("__classdict__" : Str))=false:=by decide):DE X (.Name x pos) (dVar i):=(Q9H hN hv hd hcd).imp λσ H Q ⟨ρ,M,R,s,m,h,k⟩=>by
 unfold dVar at h;cases e:ρ[i]? with
 | none=>rw[e]at h;exact h.elim
 | some o =>
  rw[e]at h;cases o with
  | none=>exact h.elim
  | some d =>
   obtain⟨v,e1,e2⟩:=s.get e;exact⟨v,e1,k d M v H h (Ext.refl H) m e2⟩
def dC(d:D):DTE:=λ_ M Q=>Q d M
theorem dc_of(h:PE X e (tC v))(hd:∀ H,Den X.K H d v):DE X e (dC d):=h.imp λσ H Q ⟨ρ,M,R,s,m,h,k⟩=>k d M v H h (Ext.refl H) m (hd H)
theorem Qc6{i j pos}:DE X (.Constant (.int i) j pos) (dC (.int i)):=dc_of QbB λ_=>.int i
theorem de_bl{i j pos}:DE X (.Constant (.bool i) j pos) (dC (.bl i)):=dc_of pe_bl λ_=>.bl i
theorem Qc7{j pos}:DE X (.Constant .none j pos) (dC .non):=dc_of QbC λ_=>.non
theorem S_of'(x:Str):S x.cps.toList=x:=by unfold S;cases x;simp
theorem Qc8{j pos}(h:(i.cps.toList.all λc=>decide (c<1114112))=true:=by decide):DE X (.Constant (.str i) j pos) (dC (.str i.cps.toList)):=dc_of QbD λH=>by
 have q:=Den.str (K:=X.K) (H:=H) i.cps.toList h;rw[S_of']at q;exact q
theorem Qay(hg:Gl X x)(hm:X.mg x=some u)(r:RelV v u)(hd:∀ H,Den X.K H d v)(hdb:(x==("__debug__" : Str))=false:=by decide):DE X (.Name x pos) (dC d):=dc_of (Qa8 hg hm r hdb) hd
noncomputable abbrev DR2:=D->D->DH->DK->Prop
inductive lR2(K:Frag)(r:DR2)(x y:V)(H:Hp)(Q:VK):Prop
 | mk (dx dy:D) (M:DH) (R:DK) (ex:Den K H dx x) (ey:Den K H dy y) (m:SimM K M H) (h:r dx dy M R) (k:Aft K H R Q)
noncomputable abbrev OpD(X:Cx)(f:Value->Value->Sem Value)(r:DR2):Prop:=OpR X f (lR2 X.K r)
def dOp(r:DR2)(ta tb:DTE):DTE:=λρ M Q=>ta ρ M λx M1=>tb ρ M1 λy M2=>r x y M2 Q
theorem Q5f(hr:∀ x y H Q,lR2 K r x y H Q->rV x y H Q)(h:lE K (dOp r ta tb) σ H Q):tOp rV (lE K ta) (lE K tb) σ H Q:=by
 obtain⟨ρ,M,R,s,m,h,k⟩:=h;refine⟨ρ,M,_,s,m,h,λd1 M1 v1 H1 h1 x1 m1 e1=>⟨ρ,M1,_,s.ext x1,m1,h1,λd2 M2 v2 H2 h2 x2 m2 e2=>hr _ _ _ _ ⟨d1,d2,M2,R,e1.ext x2,e2,m2,h2,k.ext (x1.trans x2)⟩⟩⟩
theorem de_op(ho:OpD X (binaryOp op) r)(ha:DE X a ta)(hb:DE X b tb):DE X (.BinOp a op b pos) (dOp r ta tb) :=
 (pe_op ho ha hb).imp λσ H Q h=>Q5f (λ_ _ _ _ q=>q) h
theorem Qc9(ho:OpD X (compareOp op) r)(ha:DE X a ta)(hb:DE X b tb)(hm:behindInMarks op b=false:=by first | exact nobehind _ (by decide) (by decide) | rfl):DE X (.Compare a [op] [b] pos) (dOp r ta tb) :=
 (Qae ho ha hb hm).imp λσ H Q h=>Q5f (λ_ _ _ _ q=>q) h
def dB(t:DTE):DTT:=λρ M Q=>t ρ M λx M1=>match x with
 | .bl c=>Q c M1
 | _=>False
theorem Qca(h:DE X e te)(he:∀ whole,isTrue e X.env whole=(do let v <- whole;standAt e.pos;holding [v] (truthy v)):=by intro _;rfl):DT X e (dB te) :=
 (QbE h he).imp λσ H Q ⟨ρ,M,R,s,m,h,k⟩=>⟨ρ,M,_,s,m,h,λd M1 v H1 h1 x1 m1 e1=>by
  cases d with
  | bl c=>cases e1;exact⟨c,rfl,k c M1 H1 h1 x1 m1⟩
  | _=>exact h1.elim⟩
theorem Qcb(ho:OpD X (compareOp op) r)(ha:DE X a ta)(hb:DE X b tb)(hm:behindInMarks op b=false:=by first | exact nobehind _ (by decide) (by decide) | rfl):DT X (.Compare a [op] [b] pos) (dB (dOp r ta tb)) :=
 (Qaf ho ha hb hm).imp λσ H Q ⟨ρ,M,R,s,m,h,k⟩=>Q5f (r:=r) (λ_ _ _ _ q=>q) ⟨ρ,M,_,s,m,h,λd M1 v H1 h1 x1 m1 e1=>by
  cases d with
  | bl c=>cases e1;exact⟨c,rfl,k c M1 H1 h1 x1 m1⟩
  | _=>exact h1.elim⟩
def dAnd(t u:DTT):DTT:=λρ M Q=>t ρ M λc M1=>if c=true then u ρ M1 Q else Q false M1
def dOr(t u:DTT):DTT:=λρ M Q=>t ρ M λc M1=>if c=true then Q true M1 else u ρ M1 Q
def dNot(t:DTT):DTT:=λρ M Q=>t ρ M λc M1=>Q (!c) M1
variable{rest:List Expr}
theorem Qaz(ha:DT X a tt):DW X (.BoolOp .And [a] pos) tt:=Qaa ha
theorem Qcc(ha:DT X a tt):DW X (.BoolOp .Or [a] pos) tt:=QbF ha
theorem Qcd(ha:DT X a tt)(hb:DW X (.BoolOp .And (b::rest) pos) tu):DW X (.BoolOp .And (a::b::rest) pos) (dAnd tt tu) :=
 (QbG ha hb).imp λσ H Q ⟨ρ,M,R,s,m,h,k⟩=>⟨ρ,M,_,s,m,h,λc M1 H1 h1 x1 m1=>by
  cases c with
  | true=>exact iteT ⟨ρ,M1,_,s.ext x1,m1,(Zg rfl).mp h1,λb M2 H2 h2 x2 m2=>k b M2 H2 h2 (x1.trans x2) m2⟩
  | false=>exact iteF (k false M1 H1 ((Zd Zv).mp h1) x1 m1)⟩
theorem dw_or(ha:DT X a tt)(hb:DW X (.BoolOp .Or (b::rest) pos) tu):DW X (.BoolOp .Or (a::b::rest) pos) (dOr tt tu) :=
 (pw_or ha hb).imp λσ H Q ⟨ρ,M,R,s,m,h,k⟩=>⟨ρ,M,_,s,m,h,λc M1 H1 h1 x1 m1=>by
  cases c with
  | true=>exact iteT (k true M1 H1 ((Zg rfl).mp h1) x1 m1)
  | false=>exact iteF ⟨ρ,M1,_,s.ext x1,m1,(Zd Zv).mp h1,λb M2 H2 h2 x2 m2=>k b M2 H2 h2 (x1.trans x2) m2⟩⟩
theorem Qce(ha:DT X a tt):DT X (.UnaryOp .Not a pos) (dNot tt) :=
 (QbH ha).imp λσ H Q ⟨ρ,M,R,s,m,h,k⟩=>⟨ρ,M,_,s,m,h,λc M1 H1 h1 x1 m1=>k (!c) M1 H1 h1 x1 m1⟩
theorem DW.dt(h:DW X e tt):DT X e tt:=PW.pt h
def zbq(ta tb:DTE):DTE:=λρ M Q=>ta ρ M λx M1=>match x with
 | .bl c=>if c=true then tb ρ M1 Q else Q (.bl false) M1
 | _=>False
def dOrV(ta tb:DTE):DTE:=λρ M Q=>ta ρ M λx M1=>match x with
 | .bl c=>if c=true then Q (.bl true) M1 else tb ρ M1 Q
 | _=>False
def dNotV(ta:DTE):DTE:=λρ M Q=>ta ρ M λx M1=>match x with
 | .bl c=>Q (.bl (!c)) M1
 | _=>False
theorem Q6J{op}(h:DE X a ta):DE X (.BoolOp op [a] pos) ta:=QbI h
theorem Qcf(ha:DE X a ta)(hb:DE X (.BoolOp .And (b::rest) pos) tb):DE X (.BoolOp .And (a::b::rest) pos) (zbq ta tb) :=
 (QbJ ha hb).imp λσ H Q ⟨ρ,M,R,s,m,h,k⟩=>⟨ρ,M,_,s,m,h,λd M1 v H1 h1 x1 m1 e1=>by
  cases d with
  | bl c =>
   cases e1;refine⟨c,rfl,?_⟩;cases c with
   | true=>exact iteT ⟨ρ,M1,_,s.ext x1,m1,(Zg rfl).mp h1,k.ext x1⟩
   | false=>exact iteF (k _ M1 _ H1 ((Zd Zv).mp h1) x1 m1 (.bl _))
  | _=>exact h1.elim⟩
theorem de_or(ha:DE X a ta)(hb:DE X (.BoolOp .Or (b::rest) pos) tb):DE X (.BoolOp .Or (a::b::rest) pos) (dOrV ta tb) :=
 (pe_or ha hb).imp λσ H Q ⟨ρ,M,R,s,m,h,k⟩=>⟨ρ,M,_,s,m,h,λd M1 v H1 h1 x1 m1 e1=>by
  cases d with
  | bl c =>
   cases e1;refine⟨c,rfl,?_⟩;cases c with
   | true=>exact iteT (k _ M1 _ H1 ((Zg rfl).mp h1) x1 m1 (.bl _))
   | false=>exact iteF ⟨ρ,M1,_,s.ext x1,m1,(Zd Zv).mp h1,k.ext x1⟩
  | _=>exact h1.elim⟩
theorem Qcg(ha:DE X a ta):DE X (.UnaryOp .Not a pos) (dNotV ta) :=
 (QbK ha).imp λσ H Q ⟨ρ,M,R,s,m,h,k⟩=>⟨ρ,M,_,s,m,h,λd M1 v H1 h1 x1 m1 e1=>by
  cases d with
  | bl c=>cases e1;exact⟨c,rfl,k _ M1 _ H1 h1 x1 m1 (.bl _)⟩
  | _=>exact h1.elim⟩
def dIf(t:DTT)(ta tb:DTE):DTE:=λρ M Q=>t ρ M λc M1=>if c=true then ta ρ M1 Q else tb ρ M1 Q
theorem Q8E(hc:DT X c tt)(ha:DE X a ta)(hb:DE X b tb):DE X (.IfExp c a b pos) (dIf tt ta tb) :=
 (Q8h hc ha hb).imp λσ H Q ⟨ρ,M,R,s,m,h,k⟩=>⟨ρ,M,_,s,m,h,λc M1 H1 h1 x1 m1=>by
  cases c with
  | true=>exact iteT ⟨ρ,M1,_,s.ext x1,m1,(Zg rfl).mp h1,k.ext x1⟩
  | false=>exact iteF ⟨ρ,M1,_,s.ext x1,m1,(Zd Zv).mp h1,k.ext x1⟩⟩
def dNil:DTA:=λ_ M Q=>Q [] M
def zaG(ta:DTE)(tr:DTA):DTA:=λρ M Q=>ta ρ M λx M1=>tr ρ M1 λxs M2=>Q (x::xs) M2
variable{tr:DTA}
theorem Q6K:DA X [] dNil:=Q9K.imp λσ H Q ⟨ρ,M,R,s,m,h,k⟩=>k [] M [] H h (Ext.refl H) m .nil
theorem Q3q(ha:DE X e te)(hr:DA X es tr)(hs:starEach (e::es) X.env=(false,eval e X.env)::starEach es X.env:=by rfl):DA X (e::es) (zaG te tr) :=
 (Q4C ha hr hs).imp λσ H Q ⟨ρ,M,R,s,m,h,k⟩=>⟨ρ,M,_,s,m,h,λd1 M1 v1 H1 h1 x1 m1 e1=>⟨ρ,M1,_,s.ext x1,m1,h1,λds M2 vs H2 h2 x2 m2 e2=>k _ M2 _ H2 h2 (x1.trans x2) m2 (.cons (e1.ext x2) e2)⟩⟩
def dTup(t:DTA):DTE:=λρ M Q=>t ρ M λxs M1=>xs.length<=sizeLine/\Q (.tup xs) M1
theorem Qch{x1}(h:DA X es tr):DE X (.Tuple es x1 pos) (dTup tr) :=
 (QbY h).imp λσ H Q ⟨ρ,M,R,s,m,h,k⟩=>⟨ρ,M,_,s,m,h,λds M1 vs H1 ⟨hl,h1⟩ x1 m1 e1=>⟨by rw[<- e1.length];exact hl,λp hp=>k _ M1 _ _ h1 (x1.trans (Ext.new hp)) (m1.new hp) (.tup Q0g (e1.ext (Ext.new hp)))⟩⟩
def dLst(t:DTA):DTE:=λρ M Q=>t ρ M λxs M1=>xs.length<=sizeLine/\∀ p,M1 p=none->Q (.ref p) (dupd M1 p (.lst xs))
theorem Qci(h:DA X es tr):DE X (.List es pos) (dLst tr) :=
 (Q9L h).imp λσ H Q ⟨ρ,M,R,s,m,h,k⟩=>⟨ρ,M,_,s,m,h,λds M1 vs H1 ⟨hl,h1⟩ x1 m1 e1=>⟨by rw[<- e1.length];exact hl,λp hp=>k _ _ _ _ (h1 p (m1.free hp)) (x1.trans (Ext.new hp)) (m1.newL hp e1) (.ref p)⟩⟩
def dFrz(t:DTE):DTE:=λρ M Q=>t ρ M λd M1=>match d with
 | .ref a=>match M1 a with
  | some (.lst ds)=>Q (.lst ds) (ddel M1 a)
  | _=>False
 | _=>False
theorem Qcj(h:DE X e te):DE X e (dFrz te) :=
 (Q6A h).imp λσ H Q ⟨ρ,M,R,s,m,h,k⟩=>⟨ρ,M,_,s,m,h,λd M1 v H1 h1 x1 m1 e1=>by
  cases d with
  | ref a =>
   cases e1;cases q:M1 a with
   | none=>erw[q]at h1
   | some o =>
    cases o with
    | oth _=>erw[q]at h1
    | lst ds =>
     erw[q]at h1;obtain⟨vs,e2,e3⟩:=m1.get q;exact⟨a,vs,rfl,e2,λo=>k _ _ _ _ h1 (x1.trans (Ext.lst e2)) (m1.frz e2) (.lst (.inl ⟨o,Q0g⟩) (e3.ext (Ext.lst e2)))⟩
  | _=>exact h1.elim⟩
inductive lC(K:Frag)(r:List D->DH->DK->Prop)(vs:List V)(H:Hp)(Q:VK):Prop
 | mk (ds:List D) (M:DH) (R:DK) (dn:Dens K H ds vs) (m:SimM K M H) (h:r ds M R) (k:Aft K H R Q)
noncomputable abbrev zbk(X:Cx)(f:Value)(r:List D->DH->DK->Prop):Prop:=zbj X f (lC X.K r)
def dCB(r:List D->DH->DK->Prop)(t:DTA):DTE:=λρ M Q=>t ρ M λds M1=>r ds M1 Q
theorem Q9O{r:List D->DH->DK->Prop}(h:lE K (dCB r t) σ H Q):tCB (lC K r) (lA K t) σ H Q:=by
 obtain⟨ρ,M,R,s,m,h,k⟩:=h;exact⟨ρ,M,_,s,m,h,λds M1 vs H1 h1 x1 m1 e1=>⟨ds,M1,R,e1,m1,h1,k.ext x1⟩⟩
theorem Q3r{x:Str}{id:String}{p:Pos}{r:List D->DH->DK->Prop}{t:DTA}(hc:zbk X (.builtin id) r)(hg:Gl X x)(hm:X.mg x=none)(hv:bootBuiltins x=some (.builtin id))(ha:DA X (e::es) t)(hn:x ≠ "__name__":=by decide)(hdb:(x==("__debug__" : Str))=false:=by decide)
  (he:starEach (e::es) X.env=(false,eval e X.env)::starEach es X.env:=by rfl) (hpl:(backTo pos (starEach es X.env)).any (·.1)=false:=by rfl):DE X (.Call (.Name x p) (e::es) [] pos) (dCB r t) :=
 (Q5c hc hg hm hv ha hn hdb he hpl).imp λ_ _ _ h=>Q9O h
theorem Q2B{r:List D->DH->DK->Prop}(hc:zbk X (.type T) r)(hg:Gl X x)(hm:X.mg x=none)(hv:bootBuiltins x=some (.type T))(ha:DA X (e::es) t)(hn:x ≠ "__name__":=by decide)(hdb:(x==("__debug__" : Str))=false:=by decide)
  (he:starEach (e::es) X.env=(false,eval e X.env)::starEach es X.env:=by rfl) (hpl:(backTo pos (starEach es X.env)).any (·.1)=false:=by rfl):DE X (.Call (.Name x p) (e::es) [] pos) (dCB r t) :=
 (Q6u hc hg hm hv ha hn hdb he hpl).imp λ_ _ _ h=>Q9O h
noncomputable abbrev DSp:=List D->DH->DK->Prop
inductive lSp(K:Frag)(sp:DSp)(vs:List V)(H:Hp)(Q:VK)(_E:XK):Prop
 | mk (ds:List D) (M:DH) (R:DK) (dn:Dens K H ds vs) (m:SimM K M H) (h:sp ds M R) (k:Aft K H R Q)
def zbV(sp:DSp)(dds:List D)(t:DTA):DTE:=λρ M Q=>t ρ M λds M1=>sp (ds++dds) M1 Q
theorem QaA{p:Pos}(F:FnOk X.prog X.w X.K X.mg X.base CX k f fd ps (lSp X.K sp))(hr:Room k X.A)(hg:Gl X x)(hm:X.mg x=some (.ref f))(hk:keepIn X.K (.ref f)=true)(hb:Binds X.K fd ps ds)(hd:Vals dvs ds)(hdd:∀ H,Dens X.K H dds dvs)(hx:zay CX X E)
  (ha:DA X (e::es) t) (hdb:(x==("__debug__" : Str))=false:=by decide) (he:starEach (e::es) X.env=(false,eval e X.env)::starEach es X.env:=by rfl) (hpl:(backTo pos (starEach es X.env)).any (·.1)=false:=by rfl) :
  DE X (.Call (.Name x p) (e::es) [] pos) (zbV sp dds t) :=
 (Qaj F hr hg hm hk hb hd hx ha hdb he hpl).imp λσ H Q ⟨ρ,M,R,s,m,h,k⟩=>⟨ρ,M,_,s,m,h,λds M1 vs H1 h1 x1 m1 e1=>⟨_,M1,R,e1.append (hdd _),m1,h1,k.ext x1⟩⟩
end
section
variable{X:Cx}{a b c e tg iter:Expr}{es:List Expr}{st:Stmt}{sts body:List Stmt}{ta tb te:DTE}{tt tu:DTT}{t u:DTS}{pos:Pos}{K:Frag}
def zbR:DTS:=λD ρ M=>D.nx ρ M
def dSeq(t u:DTS):DTS:=λD ρ M=>t { D with nx:=u D } ρ M
theorem QaB:DSs X [] zbR:=Qab.imp λD σ H ⟨ρ,M,DD,s,m,h,k⟩=>k.nx ρ M σ H h (Ext.refl H) s m
theorem Q8F(h1:DS X st t)(h2:DSs X sts u):DSs X (st::sts) (dSeq t u) :=
 (Q8i h1 h2).imp λD σ H ⟨ρ,M,DD,s,m,h,k⟩=>⟨ρ,M,_,s,m,h,⟨λρ1 M1 σ1 H1 q x s1 m1=>⟨ρ1,M1,DD,s1,m1,q,k.ext x⟩,k.rt,k.bk,k.ct⟩⟩
def dDrop(te:DTE):DTS:=λD ρ M=>te ρ M λ_ M1=>D.nx ρ M1
theorem QaC(he:DE X e te)(hs:swapsWith e none pos.line X.env=pure false:=by rfl):DS X (.Expr e pos) (dDrop te) :=
 (Qac he hs).imp λD σ H ⟨ρ,M,DD,s,m,h,k⟩=>⟨ρ,M,_,s,m,h,λd M1 v H1 h1 x1 m1 e1=>k.nx ρ M1 σ H1 h1 x1 (s.ext x1) m1⟩
def dRet(te:DTE):DTS:=λD ρ M=>te ρ M D.rt
theorem Qck(he:DE X e te):DS X (.Return (some e) pos) (dRet te) :=
 (QbL he).imp λD σ H ⟨ρ,M,DD,s,m,h,k⟩=>⟨ρ,M,_,s,m,h,k.rt⟩
def dIfS(c:DTT)(t u:DTS):DTS:=λD ρ M=>c ρ M λb M1=>if b=true then t D ρ M1 else u D ρ M1
theorem ds_if{a b:List Stmt}(hc:DT X c tt)(ha:DSs X a t)(hb:DSs X b u):DS X (.If c a b pos) (dIfS tt t u) :=
 (ps_if hc ha hb).imp λD σ H ⟨ρ,M,DD,s,m,h,k⟩=>⟨ρ,M,_,s,m,h,λc M1 H1 h1 x1 m1=>by
  cases c with
  | true=>exact iteT ⟨ρ,M1,DD,s.ext x1,m1,(Zg rfl).mp h1,k.ext x1⟩
  | false=>exact iteF ⟨ρ,M1,DD,s.ext x1,m1,(Zd Zv).mp h1,k.ext x1⟩⟩
noncomputable abbrev DTG:=D->DSt->DH->(DSt->DH->Prop)->Prop
inductive lG(K:Frag)(g:DTG)(v:V)(σ:St)(H:Hp)(Q:St->Hp->Prop):Prop
 | mk (d:D) (ρ:DSt) (M:DH) (R:DSt->DH->Prop) (dn:Den K H d v) (s:SimS K H ρ σ) (m:SimM K M H) (h:g d ρ M R) (k:∀ ρ' M' σ' H',R ρ' M'->Ext H H'->SimS K H' ρ' σ'->SimM K M' H'->Q σ' H')
noncomputable abbrev DG(X:Cx)(tg:Expr)(g:DTG):Prop:=PG X tg (lG X.K g)
def zak(i:Nat):DTG:=λd ρ M Q=>Q (ρ.set i (some d)) M
theorem QaD(hN:X.N.Nodup)(hi:X.N[i]? = some x)(hx:Loc X.env.scope x)(hf:X.fn x=true\/X.env.scope.names.lookup x=some .local:=by first | exact .inl rfl | exact .inr rfl | assumption):DG X (.Name x pos) (zak i) :=
 (Q6l hN hi hx hf).imp λv σ H Q ⟨d,ρ,M,R,e,s,m,h,k⟩=>k _ M _ H h (Ext.refl H) (s.set e i) m
noncomputable abbrev DTGs:=List D->DSt->DH->(DSt->DH->Prop)->Prop
def lGs(K:Frag)(g:DTGs):TGs:=λvs σ H Q=>∃ ds ρ M R,Dens K H ds vs/\SimS K H ρ σ/\SimM K M H/\g ds ρ M R/\∀ ρ' M' σ' H',R ρ' M'->Ext H H'->SimS K H' ρ' σ'->SimM K M' H'->Q σ' H'
noncomputable abbrev DGs(X:Cx)(ts:List Expr)(g:DTGs):Prop:=PGs X ts (lGs X.K g)
theorem PGs.imp(h:PGs X ts T)(i:∀ v σ H R,T' v σ H R->T v σ H R):PGs X ts T':=λpins s σ H v u R I r q=>h pins s σ H v u R I r (i v σ H R q)
def zbD:DTGs:=λds ρ M Q=>match ds with
 | []=>Q ρ M
 | _=>False
def zaA(t:DTG)(u:DTGs):DTGs:=λds ρ M Q=>match ds with
 | d::r=>t d ρ M λρ' M'=>u r ρ' M' Q
 | []=>False
theorem Q6L:DGs X [] zbD:=PGs.imp Q6m λvs σ H Q ⟨ds,ρ,M,R,e,s,m,h,k⟩=>by
 cases e with
 | nil=>exact⟨rfl,k ρ M σ H h (Ext.refl H) s m⟩
 | cons _ _=>exact h.elim
theorem Q2n(h1:DG X e g)(h2:DGs X es gs)
  (hs:(assignEach (e::es) X.env).map (·.2)=assign e X.env::(assignEach es X.env).map (·.2):=by rfl):DGs X (e::es) (zaA g gs):=PGs.imp (Q3l h1 h2 hs) λvs σ H Q ⟨ds,ρ,M,R,e,s,m,h,k⟩=>by
 cases e with
 | nil=>exact h.elim
 | cons a t=>exact⟨_,_,rfl,_,ρ,M,_,a,s,m,h,λρ1 M1 σ1 H1 q x s1 m1=>⟨_,ρ1,M1,R,t.ext x,s1,m1,q,λρ2 M2 σ2 H2 q2 x2 s2 m2=>k ρ2 M2 σ2 H2 q2 (x.trans x2) s2 m2⟩⟩
def zbC(n:Nat)(t:DTGs):DTG:=λd ρ M Q=>match d with
 | .tup ds=>ds.length=n/\t ds ρ M Q
 | _=>False
theorem Q9P(hc:X.calm=true)(h:DGs X es gs)
  (hn:(assignEach es X.env).length=n:=by rfl) (hst:(assignEach es X.env).findIdx? (·.1)=none:=by rfl):DG X (.Tuple es k pos) (zbC n gs) :=
 (Q9I hc h hn hst).imp λv σ H Q ⟨d,ρ,M,R,e,s,m,h,k⟩=>by
  cases e with
  | tup q r=>exact⟨_,_,rfl,.of q,r.length.symm.trans h.1,_,ρ,M,R,r,s,m,h.2,k⟩
  | _=>exact h.elim
def dAsg(te:DTE)(g:DTG):DTS:=λD ρ M=>te ρ M λx M1=>g x ρ M1 D.nx
theorem Q6M{g:DTG}{gV:TG}{teV:TE}{D:Ends}{σ:St}{H:Hp}(h1:∀ σ H Q,lE K te σ H Q->teV σ H Q)(h2:∀ v σ H Q,lG K g v σ H Q->gV v σ H Q)(h:lS K (dAsg te g) D σ H):tAsg teV gV D σ H:=by
 obtain⟨ρ,M,DD,s,m,h,k⟩:=h;exact h1 _ _ _ ⟨ρ,M,_,s,m,h,λd M1 v H1 q x m1 e1=>h2 _ _ _ _ ⟨d,ρ,M1,_,e1,s.ext x,m1,q,λρ2 M2 σ2 H2 q2 x2 s2 m2=>k.nx ρ2 M2 σ2 H2 q2 (x.trans x2) s2 m2⟩⟩
theorem Qcl(he:DE X e te)(hg:DG X tg g)(hs:swapsWithSole [tg] e pos.line X.env=pure false:=by rfl)(hw:swappedStores [tg] e X.env=pure none:=by rfl)(h1:(assignEach [tg] X.env).map (·.2)=[assign tg X.env]:=by rfl):DS X (.Assign [tg] e pos) (dAsg te g) :=
 (QbM he hg hs hw h1).imp λD σ H h=>Q6M (λ_ _ _ q=>q) (λ_ _ _ _ q=>q) h
def dSet(i:Nat)(te:DTE):DTS:=λD ρ M=>te ρ M λx M1=>D.nx (ρ.set i (some x)) M1
theorem Q9Q(hN:X.N.Nodup)(hi:X.N[i]? = some x)(hx:Loc X.env.scope x)(he:DE X e te)(hs:swapsWith e (some (.Name x pos')) pos.line X.env=pure false:=by rfl)(hf:X.fn x=true\/X.env.scope.names.lookup x=some .local:=by first | exact .inl rfl | exact .inr rfl | assumption) :
  DS X (.Assign [.Name x pos'] e pos) (dSet i te) :=
 (QbN hN hi hx he hs hf).imp λD σ H h=>by
  obtain⟨ρ,M,DD,s,m,h,k⟩:=h;exact⟨ρ,M,_,s,m,h,λd M1 v H1 q x m1 e1=>k.nx _ M1 _ H1 q x ((s.ext x).set e1 i) m1⟩
structure Yields(K:Frag)(J:It)(items:List D)(Cd:DH->Prop)(H:Hp):Prop where
 go:∀ i H' M,Ext H H'->SimM K M H'->Cd M->i<items.length->J.go i H'
 yld:∀ i H' M x H'',Ext H H'->SimM K M H'->Cd M->J.yld i H' x H''->i<items.length->Ext H' H''/\SimM K M H''/\∃ d,items[i]? = some d/\Den K H'' d x
 stop:∀ i H' M,Ext H H'->SimM K M H'->Cd M->items.length<=i->J.stop i H'
noncomputable abbrev DTI:=DSt->DH->(List D->(DH->Prop)->DH->Prop)->Prop
inductive lI(K:Frag)(wi:DTI)(σ:St)(H:Hp)(R:It->Hp->Prop):Prop
 | mk (ρ:DSt) (M:DH) (RD:List D->(DH->Prop)->DH->Prop) (s:SimS K H ρ σ) (m:SimM K M H) (h:wi ρ M RD) (k:∀ items Cd M' H' J,RD items Cd M'->Ext H H'->SimM K M' H'->Yields K J items Cd H'->R J H')
noncomputable abbrev DI(X:Cx)(tg iter:Expr)(wi:DTI):Prop:=PI X tg iter (lI X.K wi)
def zaX(g:DTG)(tb:DTS)(DD:zbs)(Cd:DH->Prop):List D->DSt->DH->Prop
 | [],ρ,M=>Cd M/\DD.nx ρ M
 | d::ds,ρ,M=>Cd M/\g d ρ M λρ' M'=>tb { DD with nx:=zaX g tb DD Cd ds,ct:=zaX g tb DD Cd ds,bk:=DD.nx } ρ' M'
def dFor(wi:DTI)(g:DTG)(tb:DTS):DTS:=λDD ρ M=>wi ρ M λitems Cd M1=>zaX g tb DD Cd items ρ M1
theorem Q9R{wi:DTI}{g:DTG}{tb:DTS}(hp:PassesOwn (model X.prog X.w) X.A X.env X.xe)(hc:X.calm=true)(hi:DI X tg iter wi)(hg:DG X tg g)(hb:DSs X body tb)
  (hs:∀ x,foldedSetIterable iter X.env x=pure x:=by intro _;rfl):DS X (.For tg iter body [] pos) (dFor wi g tb) :=
 (QbO hp hc hi hg hb hs).imp λD σ H ⟨ρ,M,DD,s,m,h,k⟩=>⟨ρ,M,_,s,m,h,λitems Cd M1 H1 J h1 x1 m1 Y=>by
  refine⟨λi mm σ' H'=>mm=items.length-i/\i<=items.length/\∃ ρ' M',Ext H1 H'/\SimS X.K H' ρ' σ'/\SimM X.K M' H'/\zaX g tb DD Cd (items.drop i) ρ' M',⟨_,rfl,ZI _,ρ,M1,Ext.refl _,s.ext x1,m1,h1⟩,?_⟩;rintro i mm σ' H' ⟨rfl,hi,ρ',M',x',s',m',h'⟩;by_cases hlt:i<items.length
  ·right;have hd:items.drop i=items[i]::items.drop (i+1):=Y0 hlt;rw[hd]at h';obtain⟨cd,h'⟩:=h';refine⟨Y.go i H' M' x' m' cd hlt,λσ2 H2=>∃ ρ2 M2,Ext H1 H2/\SimS X.K H2 ρ2 σ2/\SimM X.K M2 H2/\zaX g tb DD Cd (items.drop (i+1)) ρ2 M2,λσ2 H2 ⟨ρ2,M2,x2,s2,m2,h2⟩=>⟨_,(show items.length-(i+1)<items.length-i by room),rfl,hlt,ρ2,M2,x2,s2,m2,h2⟩,λx Hy yl=>?_⟩
   obtain⟨xy,my,d,ed,den⟩:=Y.yld i H' M' x Hy x' m' cd yl hlt;have:items[i]=d:=by
    rw[Zi hlt]at ed;exact ZE ed
   rw[this]at h';have xx:=x'.trans xy;refine⟨d,ρ',M',_,den,s'.ext xy,my,h',λρ3 M3 σ3 H3 q3 x3 s3 m3=>⟨ρ3,M3,_,s3,m3,q3,?_⟩⟩;have xz:=xx.trans x3;exact⟨λρ4 M4 σ4 H4 q4 x4 s4 m4=>⟨ρ4,M4,xz.trans x4,s4,m4,q4⟩,(k.ext (x1.trans xz)).rt,λρ4 M4 σ4 H4 q4 x4 s4 m4=>(k.ext (x1.trans xz)).nx ρ4 M4 σ4 H4 q4 x4 s4 m4,λρ4 M4 σ4 H4 q4 x4 s4 m4=>⟨ρ4,M4,xz.trans x4,s4,m4,q4⟩⟩
  ·left;have hd:items.drop i=[]:=Yo (le_of_not_lt hlt);rw[hd]at h';exact⟨Y.stop i H' M' x' m' h'.1 (le_of_not_lt hlt),(k.ext (x1.trans x')).nx ρ' M' σ' H' h'.2 (Ext.refl _) s' m'⟩⟩
def zan(fr:DSt)(unp:D->Option (List D))(tc:DTT)(te:DTE)(Cd:DH->Prop)(Q:List D->DH->Prop):List D->List D->DH->Prop
 | [],ys,M=>Cd M/\Q ys M
 | d::ds,ys,M=>Cd M/\match unp d with
  | some us=>tc (us.map some++fr) M λb M3 =>
   if b=true then te (us.map some++fr) M3 λz M4=>ys.length<sizeLine/\zan fr unp tc te Cd Q ds (ys++[z]) M4 else zan fr unp tc te Cd Q ds ys M3
  | none=>False
def zbp(wi:DTI)(ix:List Nat)(unp:D->Option (List D))(tc:DTT)(te:DTE):DTE:=λρ M Q=>wi ρ M λitems Cd M1 =>
 zan (ix.map λi=>(ρ[i]?).getD none) unp tc te Cd (λys M2=>ys.length<=sizeLine/\∀ a,M2 a=none->Q (.ref a) (dupd M2 a (.lst ys))) items [] M1
structure Unp(K:Frag)(k:Nat)(unp:D->Option (List D))(gV:TG):Prop where
 len:∀ d us,unp d=some us->us.length=k
 to:∀ d v us frV H Q,Den K H d v->unp d=some us->(∀ ws,Dens K H us ws->Q (ws.map some++frV) H)->gV v (List.replicate k none++frV) H Q
theorem unp1:Unp K 1 (λd=>some [d]) (zaW 0) where
 len:=λd us e=>by cases e;rfl
 to:=λd v us frV H Q den e h=>by cases e;exact h [v] (.cons den .nil)
noncomputable def zbt:D->Option (List D)
 | .tup [a,b]=>some [a,b]
 | _=>none
theorem unp2:Unp K 2 zbt (gTup K 2 (zbN (zaW 0) (zbN (zaW 1) gNil))) where
 len:=λd us e=>by
  unfold zbt at e;split at e
  ·cases e;rfl
  ·cases e
 to:=λd v us frV H Q den e h=>by
  unfold zbt at e;split at e
  ·cases e;cases den with
   | tup q r =>
    cases r with
    | cons r1 r =>
     cases r with
     | cons r2 r =>
      cases r;exact⟨_,_,rfl,.of q,rfl,_,_,rfl,_,_,rfl,rfl,h _ (.cons r1 (.cons r2 .nil))⟩
  ·cases e
theorem Q5g{unp:D->Option (List D)}(hu:Unp K k unp gV)
  (h:lE K (zbp wi ix unp tc te) σ H Q):tComp (lI K wi) k ix gV (lT K tc) (lE K te) σ H Q:=by
 obtain⟨ρ,M,R,s,m,h,kk⟩:=h;refine⟨ρ,M,_,s,m,h,λitems Cd M1 H1 J h1 x1 m1 Y=>?_⟩;refine⟨λi mm ys H'=>mm=items.length-i/\i<=items.length/\∃ M' zs,Ext H1 H'/\SimM K M' H'/\Dens K H' zs ys/\zan (ix.map λi=>(ρ[i]?).getD none) unp tc te Cd (λys M2=>ys.length<=sizeLine/\∀ a,M2 a=none->R (.ref a) (dupd M2 a (.lst ys))) (items.drop i) zs M',⟨_,rfl,ZI _,M1,[],Ext.refl _,m1,.nil,h1⟩,?_⟩;rintro i mm ys H' ⟨rfl,hi,M',zs,x',m',dz,h'⟩;by_cases hlt:i<items.length
 ·right;have hd:items.drop i=items[i]::items.drop (i+1):=Y0 hlt;rw[hd]at h';obtain⟨cd,h'⟩:=h';refine⟨Y.go i H' M' x' m' cd hlt,λy Hy yl=>?_⟩;obtain⟨xy,my,d,ed,den⟩:=Y.yld i H' M' y Hy x' m' cd yl hlt;have:items[i]=d:=by
   rw[Zi hlt]at ed;exact ZE ed
  rw[this]at h';cases eu:unp d with
  | none=>rw[eu]at h';exact h'.elim
  | some us =>
   rw[eu]at h';refine hu.to d y us _ Hy _ den eu λws dw=>?_;have hk:ws.length=k:=by rw[<- dw.length];exact hu.len d us eu
   refine⟨?_,?_,?_⟩
   ·rw[List.drop_left' (by rw[Zb];exact hk)]
   ·rw[Zl,Zb,Zb,hk]
   ·have xx:=x'.trans xy;have sρ:SimS K Hy (us.map some++ix.map λi=>(ρ[i]?).getD none) (ws.map some++ix.map λi=>(σ[i]?).getD none):=(SimS.ofDens dw).append ((s.ext (x1.trans xx)).pick ix);refine⟨_,M',_,sρ,my,h',λb M3 H3 h3 x3 m3=>?_⟩;cases b with
    | true =>
     refine iteT ⟨_,M3,_,sρ.ext x3,m3,(Zg rfl).mp h3,λz M4 v H4 ⟨hz,h4⟩ x4 m4 e4=>⟨by rw[<- dz.length];exact hz,_,(show items.length-(i+1)<items.length-i by room),rfl,hlt,M4,_,(xx.trans x3).trans x4,m4,(dz.ext (xy.trans (x3.trans x4))).append (.cons e4 .nil),h4⟩⟩
    | false=>exact iteF ⟨_,(show items.length-(i+1)<items.length-i by room),rfl,hlt,M3,zs,xx.trans x3,m3,dz.ext (xy.trans x3),(Zd Zv).mp h3⟩
 ·left;have hd:items.drop i=[]:=Yo (le_of_not_lt hlt);rw[hd]at h';obtain⟨cd,hz,q⟩:=h';exact⟨Y.stop i H' M' x' m' cd (le_of_not_lt hlt),by rw[<- dz.length];exact hz,λa ha=>kk _ _ _ _ (q a (m'.free ha)) ((x1.trans x').trans (Ext.new ha)) (m'.newL ha dz) (.ref a)⟩
section
variable{scope:Scope}{N fn:List Str}{k:Nat}{ix:List Nat}{elt:Expr}{ifs:List Expr}{wi:DTI}{unp:D->Option (List D)}{gV:TG}{tc:DTT}
noncomputable abbrev DIfs(X:Cx)(ifs:List Expr)(t:DTT):Prop:=PIfs X ifs (lT X.K t)
def zaQ:DTT:=λ_ M Q=>Q true M
theorem Q8G:DIfs X [] zaQ:=λpins s σ H Q I ⟨ρ,M,R,sm,m,h,k⟩=>Q8u pins s σ H Q I (k true M H h (Ext.refl H) m)
theorem Q3s(h:DT X c tc):DIfs X [c] tc:=Q8v h
theorem QaE(tp:Top X){R0:XC->Hp->Prop}(hx0:zal X λcls _ H=>R0 cls H)(hu:Unp X.K k unp gV)(hc:X.calm=true)(ok:zaz X.env.scope scope N k fn)(hix:ix.map (λi=>X.N[i]?)=fn.map some)(hi:DI X tg iter wi)
  (hg:∀ cl C s₀ H₀ ex E,PG (za3 X scope N cl C s₀ H₀ ex E) tg gV) (ht:∀ cl C s₀ H₀ ex E,zal (za3 X scope N cl C s₀ H₀ ex E) (λcls _ H=>R0 cls H)->DIfs (za3 X scope N cl C s₀ H₀ ex E) ifs tc) (he:∀ cl C s₀ H₀ ex E,zal (za3 X scope N cl C s₀ H₀ ex E) (λcls _ H=>R0 cls H)->DE (za3 X scope N cl C s₀ H₀ ex E) elt te)
  (hs:∀ x,foldedSetIterable iter X.env x=pure x:=by intro _;rfl):DE X (.ListComp elt [⟨tg,iter,ifs,0⟩] scope pos) (zbp wi ix unp tc te) :=
 (Q5d tp hx0 hc ok hix hi hg ht he hs).imp λ_ _ _ h=>Q5g hu h
theorem Q5U(tp:Top X){R0:XC->Hp->Prop}(hx0:zal X λcls _ H=>R0 cls H)(hsw:swapsWith (.ListComp elt [⟨tg,iter,ifs,0⟩] scope pos) (some (.Name x pos')) spos.line X.env=pure true)
  (hN:X.N.Nodup) (hiN:X.N[i]? = some x) (hx:X.env.scope.names.lookup x=some .local) (hu:Unp X.K k unp gV) (hc:X.calm=true) (ok:zaz X.env.scope scope N k fn) (hix:ix.map (λi=>X.N[i]?)=fn.map some) (hi:DI X tg iter wi)
  (hg:∀ cl C s₀ H₀ ex E,PG (za3 X scope N cl C s₀ H₀ ex E) tg gV) (ht:∀ cl C s₀ H₀ ex E,zal (za3 X scope N cl C s₀ H₀ ex E) (λcls _ H=>R0 cls H)->DIfs (za3 X scope N cl C s₀ H₀ ex E) ifs tc) (he:∀ cl C s₀ H₀ ex E,zal (za3 X scope N cl C s₀ H₀ ex E) (λcls _ H=>R0 cls H)->DE (za3 X scope N cl C s₀ H₀ ex E) elt te)
  (hs:∀ x,foldedSetIterable iter X.env x=pure x:=by intro _;rfl):DS X (.Assign [.Name x pos'] (.ListComp elt [⟨tg,iter,ifs,0⟩] scope pos) spos) (dAsg (zbp wi ix unp tc te) (zak i)) :=
 (Q2z tp hx0 hsw hN hiN hx hc ok hix hi hg ht he hs).imp λD σ H h=>Q6M (λ_ _ _ q=>Q5g hu q) (λv σ H Q ⟨d,ρ,M,R,e,s,m,h,k⟩=>k _ M _ H h (Ext.refl H) (s.set e i) m) h
end
theorem Yields.tup{a:Addr}{ds:List D}{vs:List V}{H:Hp}{Cd:DH->Prop}(q:SqT K H a vs)(r:Dens K H ds vs):Yields K (Itt K a) ds Cd H where
 go:=λi H' M x m c hi=>by
  have hi':i<vs.length:=by rw[<- r.length];exact hi
  exact⟨vs,vs[i],SqT.ext x q,Zi hi'⟩
 yld:=λi H' M y H'' x m c ⟨e,h⟩ hi=>by
  subst e;obtain⟨d,e1,e2⟩:=r.get' (h vs (SqT.ext x q));exact⟨Ext.refl _,m,d,e1,e2.ext x⟩
 stop:=λi H' M x m c hi=>⟨vs,SqT.ext x q,by rw[<- r.length];exact hi⟩
theorem Yields.fz{a:Addr}{ds:List D}{vs:List V}{H:Hp}{Cd:DH->Prop}(q:FzL K H a vs)(r:Dens K H ds vs):Yields K (Itl K a) ds Cd H where
 go:=λi H' M x m c hi=>by
  have hi':i<vs.length:=by rw[<- r.length];exact hi
  exact⟨vs,vs[i],(FzL.ext x q).sq,Zi hi'⟩
 yld:=λi H' M y H'' x m c ⟨e,h⟩ hi=>by
  subst e;obtain⟨d,e1,e2⟩:=r.get' (h vs (FzL.ext x q).sq);exact⟨Ext.refl _,m,d,e1,e2.ext x⟩
 stop:=λi H' M x m c hi=>⟨vs,(FzL.ext x q).sq,by rw[<- r.length];exact hi⟩
theorem Yields.mut{a:Addr}{ds:List D}{H:Hp}:Yields K (Itl K a) ds (λM=>M a=some (.lst ds)) H where
 go:=λi H' M x m c hi=>by
  obtain⟨vs,e,r⟩:=m.get c;have hi':i<vs.length:=by rw[<- r.length];exact hi
  exact⟨vs,vs[i],.of e,Zi hi'⟩
 yld:=λi H' M y H'' x m c ⟨e,h⟩ hi=>by
  subst e;obtain⟨vs,e,r⟩:=m.get c;obtain⟨d,e1,e2⟩:=r.get' (h vs (.of e));exact⟨Ext.refl _,m,d,e1,e2⟩
 stop:=λi H' M x m c hi=>by
  obtain⟨vs,e,r⟩:=m.get c;exact⟨vs,.of e,by rw[<- r.length];exact hi⟩
noncomputable def rngD(lo:Int)(n:Nat):List D:=(List.range n).map λ(i:Nat)=>D.int (lo+(i:Int))
theorem Yields.rng{lo:Int}{n:Nat}{H:Hp}{Cd:DH->Prop}:Yields K (Itr lo n) (rngD lo n) Cd H where
 go:=λi H' M x m c hi=>by
  show i<n;simpa[rngD]using hi
 yld:=λi H' M y H'' x m c ⟨e,h⟩ hi=>by
  subst e h;have hi':i<n:=by simpa[rngD]using hi
  exact⟨Ext.refl _,m,.int (lo+i),by simp[rngD,hi'],.int _⟩
 stop:=λi H' M x m c hi=>by
  have:(rngD lo n).length=n:=by simp[rngD]
  rw[this]at hi;exact hi
def zb9(ta:DTA):DTI:=λρ M R=>ta ρ M λds M1=>match ds with
 | [.int j]=>-(2 ^ 62)<=j/\j<2 ^ 62/\R (rngD 0 j.toNat) (λ_=>True) M1
 | _=>False
def zbv(ta:DTA):DTI:=λρ M R=>ta ρ M λds M1=>match ds with
 | [.int i,.int j]=>(-(2 ^ 62)<=i/\i<2 ^ 62 /\ -(2 ^ 62)<=j/\j<2 ^ 62)/\R (rngD i (j-i).toNat) (λ_=>True) M1
 | _=>False
theorem Q6N(hg:Gl X "range")(hm:X.mg "range" = none)(ha:DA X [a] tr)(hs:starEach [a] X.env=[(false,eval a X.env)]:=by rfl):DI X tg (.Call (.Name "range" p) [a] [] pos) (zb9 tr) :=
 (Q6o hg hm ha hs).imp λσ H R ⟨ρ,M,RD,s,m,h,k⟩=>⟨ρ,M,_,s,m,h,λds M1 vs H1 h1 x1 m1 e1=>by
  unfold zb9 at h;cases e1 with
  | nil=>exact h1.elim
  | cons d1 e2 =>
   cases e2 with
   | cons d2 e3=>cases d1 <;> exact h1.elim
   | nil =>
    cases d1 with
    | int j=>exact⟨j,rfl,h1.1,h1.2.1,k _ _ M1 H1 _ h1.2.2 x1 m1 Yields.rng⟩
    | _=>exact h1.elim⟩
theorem Q6O(hg:Gl X "range")(hm:X.mg "range" = none)(ha:DA X [a,b] tr)(hs:starEach [a,b] X.env=[(false,eval a X.env),(false,eval b X.env)]:=by rfl)(hs2:starEach [b] X.env=[(false,eval b X.env)]:=by rfl):DI X tg (.Call (.Name "range" p) [a,b] [] pos) (zbv tr) :=
 (Q6p hg hm ha hs hs2).imp λσ H R ⟨ρ,M,RD,s,m,h,k⟩=>⟨ρ,M,_,s,m,h,λds M1 vs H1 h1 x1 m1 e1=>by
  cases e1 with
  | nil=>exact h1.elim
  | cons d1 e2 =>
   cases e2 with
   | nil=>cases d1 <;> exact h1.elim
   | cons d2 e3 =>
    cases e3 with
    | cons d3 e4=>cases d1 <;> cases d2 <;> exact h1.elim
    | nil =>
     cases d1 with
     | int i =>
      cases d2 with
      | int j=>exact⟨i,j,rfl,h1.1,k _ _ M1 H1 _ h1.2 x1 m1 Yields.rng⟩
      | _=>exact h1.elim
     | _=>cases d2 <;> exact h1.elim⟩
end
noncomputable def za2(N:List Str)(ds:List D):DSt:=ds.map some++List.replicate (N.length-ds.length) none
def dLaw(n:Nat):DSp:=λds M R=>match ds with
 | [.lst ds]=>∃ ns:List Int,ds=ns.map D.int/\ns.length<=n/\R (.bl true) M
 | _=>False
theorem Q3U{K:Frag}{H:Hp}:∀ ns:List Int,Dens K H (ns.map D.int) (ns.map V.int)
 | []=>.nil
 | n::r=>.cons (.int n) (Q3U r)
theorem Qcm{K:Frag}{H:Hp}{a:Addr}{ns:List Int}{n:Nat}(hl:ns.length<=n)(hO:Only H)(hS:SqL K H a (ns.map V.int)):lSp K (dLaw n) [.ref a] H (λv _=>v=.bl true) λ_ _ _=>False:=by
 refine⟨[.lst (ns.map D.int)],λ_=>none,λd _=>d=.bl true,.cons (.lst ?_ (Q3U ns)) .nil,(λb o e=>nomatch e),⟨ns,rfl,hl,rfl⟩,λd M v H' q _ _ e=>?_⟩
 ·rcases hS with (h | ⟨o,h⟩) | h
  ·rcases hO a with z | ⟨o,xs,z⟩
   ·rw[h]at z;cases z
   ·rw[h]at z;cases z
  ·exact .inl ⟨o,h⟩
  ·exact .inr h
 ·have q':d=.bl true:=q;subst q';cases e;rfl
section
variable{X:Cx}{a b c e:Expr}{es:List Expr}{ta tb te:DTE}{tt tu:DTT}{pos:Pos}{K:Frag}
noncomputable abbrev cpOk(x:List Nat):Prop:=(x.all λc=>decide (c<1114112))=true
theorem cpOk.app(h:cpOk x)(h':cpOk y):cpOk (x++y):=by
 show ((x++y).all _)=true;rw[List.all_append,h,h'];rfl
theorem cpOk.sub(h:cpOk x)(hs:∀ c∈y,c∈x):cpOk y:=ZR.mpr λc hc=>(ZR.mp h) c (hs c hc)
theorem Q8H(x y:List Nat):S x++S y=S (x++y):=by
 show Str.append (S x) (S y)=S (x++y);unfold Str.append S;simp
theorem Q1e(x:List Nat):(S x).length=x.length:=by unfold S Str.length;simp
theorem S_inj(h:S x=S y):x=y:=by
 unfold S at h;have:=congrArg (λz:Str=>z.cps.toList) h;simpa using this
theorem Q3t(x:List Nat):(S x).cps.toList=x:=by unfold S;simp
theorem S_of(x:Str):S x.cps.toList=x:=by unfold S;cases x;simp
def rI2(C:Int->Int->Prop)(g:Int->Int->Int):DR2:=λx y M Q=>match x,y with
 | .int i,.int j=>C i j/\Q (.int (g i j)) M
 | _,_=>False
theorem opI2{f:Value->Value->Sem Value}{C:Int->Int->Prop}{g:Int->Int->Int}(h:OpR X f (rI C λi j=>.int (g i j))):OpD X f (rI2 C g):=by
 rintro pins s σ H x y v u Q I rx ry ⟨dx,dy,M,R,ex,ey,m,q,k⟩;cases ex <;> cases ey <;> first | exact False.elim q | skip
 exact h pins s σ H _ _ v u Q I rx ry ⟨_,_,rfl,rfl,q.1,k _ M _ H q.2 (Ext.refl H) m (.int _)⟩
theorem Qcn{f:Value->Value->Sem Value}{g:Int->Int->V}(h:OpR X f (rI0 g)):OpR X f (rI (λ_ _=>True) g):=h.imp λx y H Q ⟨i,j,e1,e2,_,q⟩=>⟨i,j,e1,e2,q⟩
theorem Qco:OpD X (binaryOp .Sub) (rI2 (λ_ _=>True) λi j=>i-j):=opI2 (Qcn QbQ)
theorem Qcp:OpD X (binaryOp .Mult) (rI2 CMul λi j=>i * j):=opI2 QbR
theorem Qcq:OpD X (binaryOp .Mod) (rI2 (λ_ j=>0<j) λi j=>i % j):=opI2 QbS
theorem Qcr:OpD X (binaryOp .Pow) (rI2 CPow λi j=>i ^ j.toNat):=opI2 QbT
def rAddD:DR2:=λx y M Q=>match x,y with
 | .int i,.int j=>Q (.int (i+j)) M
 | .str a,.str b=>a.length+b.length<=sizeLine/\Q (.str (a++b)) M
 | .tup xs,.tup ys=>xs.length+ys.length<=sizeLine/\Q (.tup (xs++ys)) M
 | _,_=>False
theorem QaF{s:Shared}{A:Around}{prog:Program}{w:World}{E:Value->Shared->Prop}{t b:Addr}{vs ws:List Value}{Q:Value->Shared->Prop}(ht:IsTup s.heap t vs.toArray)(hb:IsTup s.heap b ws.toArray)
  (h0:vs=[]->Q (.ref b) s) (h1:ws=[]->Q (.ref t) s) (h2:Q (.ref s.heap.objs.size) { s with heap:=s.heap.push { cls:=.type "tuple",data:=.seq (vs++ws).toArray } })
  (hsz:vs.length+ws.length<=sizeLine):wpAny (model prog w) A (binaryOp .Add (.ref t) (.ref b)) Q E s:=by
 obtain⟨⟨cls,dd,data,sl⟩,ho,hc,n,hd⟩:=id ht;obtain⟨⟨cls2,dd2,data2,sl2⟩,ho2,hc2,n2,hd2⟩:=id hb;simp only at hc hd hc2 hd2;subst hc hd hc2 hd2;have e:vs.toArray++ws.toArray=(vs++ws).toArray:=by simp
 by_cases hv:vs=[]
 ·exact concat_meets ⟨_,ho,rfl⟩ ⟨_,ho2,rfl⟩ noFill_tuple_add seq_tuple_add slot_tuple_add entry_tuple_add (args_tuple_add_2 _ _)
   (tuple_addW0 t b vs.toArray ws.toArray n n2 dd dd2 sl sl2 (by simp[hv])) ⟨ho,ho2,h0 hv⟩
 ·by_cases hw:ws=[]
  ·exact concat_meets ⟨_,ho,rfl⟩ ⟨_,ho2,rfl⟩ noFill_tuple_add seq_tuple_add slot_tuple_add entry_tuple_add (args_tuple_add_2 _ _)
    (tuple_addW1 t b vs.toArray ws.toArray n n2 dd dd2 sl sl2 (by simpa using hv) (by simp[hw])) ⟨ho,ho2,h1 hw⟩
  ·refine concat_meets ⟨_,ho,rfl⟩ ⟨_,ho2,rfl⟩ noFill_tuple_add seq_tuple_add slot_tuple_add entry_tuple_add (args_tuple_add_2 _ _)
    (tuple_addW2 t b vs.toArray ws.toArray n n2 dd dd2 sl sl2 (by simpa using hv) (by simpa using hw) (by rw[ZF,ZF];exact hsz)) ⟨ho,ho2,?_⟩
   rw[e];exact h2
theorem Qcs:OpD X (binaryOp .Add) rAddD:=by
 rintro pins s σ H x y v u Q I rx ry ⟨dx,dy,M,R,ex,ey,m,q,k⟩;cases ex with
 | int i=>cases ey <;> first | exact False.elim q | skip
          exact QbP pins s σ H _ _ v u Q I rx ry ⟨_,_,rfl,rfl,k _ M _ H q (Ext.refl H) m (.int _)⟩
 | str i hi=>cases ey <;> first | exact False.elim q | skip
             rename_i j hj;exact Q5L pins s σ H _ _ v u Q I rx ry ⟨_,_,rfl,rfl,by rw[Q1e,Q1e];exact q.1,k _ M _ H q.2 (Ext.refl H) m (by rw[Q8H];exact .str _ (cpOk.app hi hj))⟩
 | tup qx dx=>cases ey <;> first | exact False.elim q | skip
              rename_i ds vs b es ws qy dy;cases rx;cases ry;obtain⟨its,r1,p1,z1⟩:=I.tuple (.of qx);obtain⟨jts,r2,p2,z2⟩:=I.tuple (.of qy);have l1:=dx.length;have l2:=dy.length;have l3:=r1.length;have l4:=r2.length;refine QaF p1 p2 (λe=>?_) (λe=>?_) ?_ (by rw[<- l3,<- l4,<- l1,<- l2];exact q.1)
              ·subst e;cases r1;cases dx;exact⟨.ref b,H,I,rfl,k _ M _ H q.2 (Ext.refl H) m (.tup qy dy)⟩
              ·subst e;cases r2;cases dy;refine⟨.ref _,H,I,rfl,k _ M _ H q.2 (Ext.refl H) m ?_⟩;rw[Y2];exact .tup qx dx
              ·have hn:=I.fresh;refine⟨.ref s.heap.objs.size,_,I.laid (t':=s.toks) (o:=.tup (vs++ws)) (λb ob q=>Zj _ q) (Zq _) ⟨?_,_,r1.append r2,IsTup.new _ _⟩,rfl,k _ M _ _ q.2 (Ext.new hn) (m.new hn) (.tup Q0g ((dx.append dy).ext (Ext.new hn)))⟩;rw[Zl,<- l1,<- l2];exact q.1
 | _=>exact False.elim q
mutual
noncomputable def toPy:D->PyData
 | .non=>.none
 | .bl b=>.bool b
 | .int i=>.int i
 | .str x=>.str (S x)
 | .tup xs=>.tuple (zaH xs)
 | .lst xs=>.list (zaH xs)
 | .ref _=>.none
noncomputable def zaH:List D->List PyData
 | []=>[]
 | x::r=>toPy x::zaH r
end
noncomputable def plain:Nat->D->Bool
 | _,.non=>true
 | _,.int _=>true
 | _,.str _=>true
 | n+1,.tup xs=>xs.all (plain n)
 | n+1,.lst xs=>xs.all (plain n)
 | _,_=>false
theorem Q2C:∀ (n:Nat) (d:D) (v:V),plain n d=true->Den K H d v->(toPy d).canLay0=true/\(toPy d).depth<=n:=by
 have all:∀ (n:Nat),(∀ d v,plain n d=true->Den K H d v->(toPy d).canLay0=true/\(toPy d).depth<=n)->∀ (ds:List D) (vs:List V),ds.all (plain n)=true->Dens K H ds vs->PyData.canLayAll0 (zaH ds)=true/\PyData.depthAll (zaH ds)<=n:=by
  intro n ih ds
  induction ds with
  | nil=>intro vs _ _;simp[zaH,PyData.canLayAll0,PyData.depthAll]
  | cons d ds hi =>
   intro vs h r;cases r with
   | cons r1 r2 =>
    rw[Ym,Zk]at h;have h1:=ih d _ h.1 r1;have h2:=hi _ h.2 r2;erw[zaH,PyData.canLayAll0,PyData.depthAll,h1.1,h2.1,Bool.and_self,true_and];have a1:=h1.2;have a2:=h2.2;room
 intro n
 induction n with
 | zero =>
  intro d v h r;cases r with
  | str x hx=>simp[toPy,PyData.canLay0,PyData.depth,PyData.strOk,S];simpa using hx
  | _=>simp_all [plain,toPy,PyData.canLay0,PyData.depth]
 | succ n ih =>
  intro d v h r;cases r with
  | str x hx=>simp[toPy,PyData.canLay0,PyData.depth,PyData.strOk,S];simpa using hx
  | tup q r =>
   have q:=all n ih _ _ (by simpa[plain]using h) r
   have q2:=q.2;erw[toPy,PyData.canLay0,PyData.depth,q.1,true_and];room
  | lst q r =>
   have q:=all n ih _ _ (by simpa[plain]using h) r
   have q2:=q.2;erw[toPy,PyData.canLay0,PyData.depth,q.1,true_and];room
  | _=>simp_all [plain,toPy,PyData.canLay0,PyData.depth]
theorem Q6P:∀ (n:Nat) (d e:D) (k:Nat),plain n d=true->plain k e=true->(PyData.eqv (toPy d) (toPy e)=true <-> d=e):=by
 have all:∀ (n:Nat),(∀ d e k,plain n d=true->plain k e=true->(PyData.eqv (toPy d) (toPy e)=true <-> d=e))->∀ (k:Nat) (ds es:List D),ds.all (plain n)=true->es.all (plain k)=true ->
   (PyData.eqvAll (zaH ds) (zaH es)=true <-> ds=es):=by
  intro n ih k ds
  induction ds with
  | nil=>intro es _ _;cases es <;> simp[zaH,PyData.eqvAll]
  | cons d ds hi =>
   intro es h1 h2;cases es with
   | nil=>simp[zaH,PyData.eqvAll]
   | cons e es =>
    rw[Ym,Zk]at h1 h2;have q1:=ih d e k h1.1 h2.1;have q2:=hi es h1.2 h2.2;erw[zaH,PyData.eqvAll,Zk,q1,q2,List.cons.injEq]
 have st:∀ x y:List Nat,(S x==S y)=true <-> x=y:=λx y=>⟨λh=>S_inj (by simpa using h),λh=>by simp[h]⟩
 intro n
 induction n with
 | zero =>
  intro d e k h1 h2;cases d <;> cases e <;> cases k <;> simp_all [plain,toPy,PyData.eqv]
 | succ n ih =>
  intro d e k h1 h2;cases d with
  | tup ds =>
   cases e with
   | tup es =>
    cases k with
    | zero=>simp[plain]at h2
    | succ k =>
     erw[toPy,PyData.eqv,D.tup.injEq];exact all n ih k ds es (by simpa[plain]using h1) (by simpa[plain]using h2)
   | _=>clear ih all;cases k <;> simp_all [plain,toPy,PyData.eqv]
  | lst ds =>
   cases e with
   | lst es =>
    cases k with
    | zero=>simp[plain]at h2
    | succ k =>
     erw[toPy,PyData.eqv,D.lst.injEq];exact all n ih k ds es (by simpa[plain]using h1) (by simpa[plain]using h2)
   | _=>clear ih all;cases k <;> simp_all [plain,toPy,PyData.eqv]
  | non=>clear ih all;cases e <;> cases k <;> simp_all [plain,toPy,PyData.eqv]
  | bl b=>simp[plain]at h1
  | int i=>clear ih all;cases e <;> cases k <;> simp_all [plain,toPy,PyData.eqv]
  | str x=>clear ih all;cases e <;> cases k <;> simp_all [plain,toPy,PyData.eqv]
  | ref a=>simp[plain]at h1
theorem Q1f(I:Inv X pins σ H s):∀ (n:Nat) (d:D) (v:V) (u:Value),plain n d=true->Den X.K H d v->L2.RelV v u->∃ as,Reads s.heap u (toPy d) as:=by
 have all:∀ (n:Nat),(∀ d v u,plain n d=true->Den X.K H d v->L2.RelV v u->∃ as,Reads s.heap u (toPy d) as)->∀ (ds:List D) (vs:List V) (us:List Value),ds.all (plain n)=true->Dens X.K H ds vs->Vals vs us->∃ as,ReadsAll s.heap us (zaH ds) as:=by
  intro n ih ds
  induction ds with
  | nil=>intro vs us _ r q;cases r;cases q;exact⟨_,.nil⟩
  | cons d ds hi =>
   intro vs us h r q;rw[Ym,Zk]at h;cases r with
   | cons r1 r2 =>
    cases q with
    | cons q1 q2 =>
     obtain⟨as,h1⟩:=ih d _ _ h.1 r1 q1;obtain⟨bs,h2⟩:=hi _ _ h.2 r2 q2;exact⟨_,.cons h1 h2⟩
 have base:∀ n d v u,plain n d=true->Den X.K H d v->L2.RelV v u->(∀ ds,d≠.tup ds)->(∀ ds,d≠.lst ds)->∃ as,Reads s.heap u (toPy d) as:=by
  intro n d v u h r q n1 n2;cases r with
  | non=>cases q;exact⟨_,.none⟩
  | bl b=>cases q;exact⟨_,.bool b⟩
  | int i=>obtain⟨t,rfl⟩:=q;exact⟨_,.int i t⟩
  | str x hx=>obtain⟨t,rfl⟩:=q;exact⟨_,.str _ t⟩
  | tup _ _=>exact absurd rfl (n1 _)
  | lst _ _=>exact absurd rfl (n2 _)
  | ref a=>cases n <;> simp[plain]at h
 intro n
 induction n with
 | zero =>
  intro d v u h r q;exact base 0 d v u h r q (λds e=>by subst e;simp[plain]at h) (λds e=>by subst e;simp[plain]at h)
 | succ n ih =>
  intro d v u h r q;cases r with
  | tup sq r =>
   obtain⟨its,rv,⟨o,ho,hc,k,hd⟩,z⟩:=I.tuple (.of sq);cases q;obtain⟨as,ra⟩:=all n ih _ _ _ (by simpa[plain]using h) r rv
   exact⟨_,.tuple ho hc hd (by simpa using ra)⟩
  | lst sq r =>
   obtain⟨its,rv,⟨o,k,ho,hc,hdd,hd⟩,z⟩:=I.list sq.sq;cases q;obtain⟨as,ra⟩:=all n ih _ _ _ (by simpa[plain]using h) r rv
   exact⟨_,.list ho hc hd (by simpa using ra)⟩
  | non=>exact base _ _ _ _ h .non q (λds e=>nomatch e) (λds e=>nomatch e)
  | bl b=>exact base _ _ _ _ h (.bl b) q (λds e=>nomatch e) (λds e=>nomatch e)
  | int i=>exact base _ _ _ _ h (.int i) q (λds e=>nomatch e) (λds e=>nomatch e)
  | str x hx=>exact base _ _ _ _ h (.str x hx) q (λds e=>nomatch e) (λds e=>nomatch e)
  | ref a=>simp[plain]at h
noncomputable def res(M:DH):D->D
 | .ref a=>match M a with
  | some (.lst ds)=>.lst ds
  | _=>.ref a
 | d=>d
open Classical in
noncomputable def eqB(x y:D):Bool:=decide (x=y)
open Classical in
theorem Q0q(x y:D):eqB x y=true <-> x=y:=by unfold eqB;exact decide_eq_true_iff
open Classical in
theorem Q0I(x y:D):eqB x y=false <-> ¬ x=y:=by unfold eqB;exact decide_eq_false_iff_not
theorem Q2D(x y:List Nat):eqB (.str x) (.str y)=decide (x=y):=by
 by_cases h:x=y
 ·rw[Zm h,(Q0q _ _).mpr (by rw[h])]
 ·rw[Z7 h,(Q0I _ _).mpr (λe=>h (D.str.inj e))]
theorem QaG(x y:Int):eqB (.int x) (.int y)=decide (x=y):=by
 by_cases h:x=y
 ·rw[Zm h,(Q0q _ _).mpr (by rw[h])]
 ·rw[Z7 h,(Q0I _ _).mpr (λe=>h (D.int.inj e))]
theorem Q0s(x:D):eqB x x=true:=(Q0q x x).mpr rfl
def rEqN(f:Bool->Bool):DR2:=λx y M Q=>match x,y with
 | .bl a,.bl b=>Q (.bl (f (a==b))) M
 | x,y=>plain 12 (res M x)=true/\plain 12 (res M y)=true/\Q (.bl (f (eqB (res M x) (res M y)))) M
theorem Q2E(I:Inv X pins σ H s)(m:SimM X.K M H)(h:plain n (res M d)=true)(e:Den X.K H d v)(r:L2.RelV v u) :
  (∃ as,Reads s.heap u (toPy (res M d)) as)/\(toPy (res M d)).canLay0=true/\(toPy (res M d)).depth<=n:=by
 by_cases hr:∃ a,d=.ref a
 ·obtain⟨a,rfl⟩:=hr;cases e;cases q:M a with
  | none=>erw[res,q]at h;cases n <;> simp[plain]at h
  | some o =>
   cases o with
   | oth _=>erw[res,q]at h;cases n <;> simp[plain]at h
   | lst ds =>
    erw[res,q]at h ⊢;cases n with
    | zero=>simp[plain]at h
    | succ n =>
     obtain⟨vs,e1,e2⟩:=m.get q
     -- as if it were finished
     obtain⟨o,I2⟩:=I.frozen e1;have x:=Ext.lst (o:=.frz o (.lst vs)) e1;have den:Den X.K (upd H a (.frz o (.lst vs))) (.lst ds) (.ref a):=.lst (.inl ⟨o,Q0g⟩) (e2.ext x);exact⟨Q1f I2 _ _ _ _ h den r,Q2C _ _ _ h den⟩
 ·have e2:res M d=d:=by cases d <;> first | rfl | exact absurd ⟨_,rfl⟩ hr
  rw[e2]at h ⊢;exact⟨Q1f I _ _ _ _ h e r,Q2C _ _ _ h e⟩
theorem bEq(x y:D)(n k:Nat)(h1:plain n x=true)(h2:plain k y=true):PyData.eqv (toPy x) (toPy y)=eqB x y:=by
 have h:=Q6P n x y k h1 h2;cases q:eqB x y with
 | true=>exact h.mpr ((Q0q x y).mp q)
 | false =>
  cases q2:PyData.eqv (toPy x) (toPy y) with
  | false=>rfl
  | true=>exact absurd (h.mp q2) ((Q0I x y).mp q)
theorem Q9S{f:Bool->Bool}(hu:X.A.units+64<cLine)
  (r1:∀ {a b:Value} {da db:PyData} {as bs:List Addr} {Q:Value->Shared->Prop} {s:Shared} (ra:Reads s.heap a da as) (rb:Reads s.heap b db bs) (ha:SeqAt.shaped da=true) (hb:SeqAt.shaped db=true),Q (.bool (f (PyData.eqv da db))) s->wpAny (model X.prog X.w) X.A (compareOp op a b) Q X.xe s):OpD X (compareOp op) (rEqN f):=by
 rintro pins s σ H x y v u Q I rx ry ⟨dx,dy,M,R,ex,ey,m,q,k⟩;by_cases hb:(∃ a,dx=.bl a)/\∃ b,dy=.bl b
 ·obtain⟨⟨a,rfl⟩,⟨b,rfl⟩⟩:=hb;cases ex;cases ey;cases rx;cases ry;refine r1 (Reads.bool a) (Reads.bool b) rfl rfl ⟨.bl (f (a==b)),H,I,?_,k _ M _ H q (Ext.refl H) m (.bl _)⟩;simp[PyData.eqv,L2.RelV]
 ·have q':plain 12 (res M dx)=true/\plain 12 (res M dy)=true/\R (.bl (f (eqB (res M dx) (res M dy)))) M:=by
   unfold rEqN at q;split at q
   ·exact absurd ⟨⟨_,rfl⟩,⟨_,rfl⟩⟩ hb
   ·exact q
  obtain⟨h1,h2,q⟩:=q';obtain⟨⟨as,ra⟩,c1,d1⟩:=Q2E I m h1 ex rx;obtain⟨⟨bs,rb⟩,c2,d2⟩:=Q2E I m h2 ey ry;have sh:∀ d:PyData,d.canLay0=true->d.depth<=12->SeqAt.shaped d=true:=λd h1 h2=>by
   unfold SeqAt.shaped;rw[h1,Bool.true_and];exact Zm (by room)
  refine r1 ra rb (sh _ c1 d1) (sh _ c2 d2) ?_;rw[bEq _ _ _ _ h1 h2];exact⟨.bl _,H,I,rfl,k _ M _ H q (Ext.refl H) m (.bl _)⟩
theorem od_eq(hu:X.A.units+64<cLine):OpD X (compareOp .Eq) (rEqN id):=Q9S hu λra rb ha hb h=>SeqAt.compareEq_shaped ra rb ha hb hu h
theorem od_ne(hu:X.A.units+64<cLine):OpD X (compareOp .NotEq) (rEqN not):=Q9S hu λra rb ha hb h=>SeqAt.compareNe_shaped ra rb ha hb hu h
end
noncomputable def cut{α:Type}(xs:List α)(lo hi:Option Int):List α:=(xs.drop (HT.sIx xs.length 0 lo)).take (HT.sIx xs.length xs.length hi-HT.sIx xs.length 0 lo)
theorem QaH{α:Type}{xs:List α}{lo hi:Option Int}{c:α}(h:c∈cut xs lo hi):c∈xs:=List.mem_of_mem_drop (List.mem_of_mem_take h)
theorem cut_len{α:Type}(xs:List α)(lo hi:Option Int):(cut xs lo hi).length<=xs.length:=by
 unfold cut;rw[Zz,length_drop];room
theorem Q5V{α:Type}(xs:List α)(i:Nat):∀ k:Nat,((List.range k).map λm=>i+m).filterMap (λj=>xs[j]?)=(xs.drop i).take k:=by
 intro k
 induction k with
 | zero=>simp
 | succ k ih =>
  rw[range_succ,Z9,List.filterMap_append,ih];erw[ZC,map_nil,filterMap_cons,List.filterMap_nil];rw[List.take_succ,getElem?_drop];cases xs[i+k]? <;> simp
theorem sliceIdx(lo hi:Option Int)(n:Nat):Builtin.Str.strSliceIndices lo hi 1 n=(List.range (HT.sIx n n hi-HT.sIx n 0 lo)).map λm=>HT.sIx n 0 lo+m:=by
 have h1:(1:Int) > 0:=by decide
 have cl:∀ (v:Int) (d:Nat),max 0 (min (if v<0 then v+(n:Int) else v) (n:Int))=((HT.sIx n d (some v):Nat):Int):=λv d=>by
  show _=((if v<0 then (v+(n:Int)).toNat else min v.toNat n:Nat):Int)
  split <;> room
 have key:∀ I J:Nat,sliceRange (I:Int) (J:Int) 1=(List.range (J-I)).map λm=>I+m:=λI J=>by
  unfold sliceRange;have hc:(if (1:Int) > 0 then (if (I:Int)<(J:Int) then ((J:Int)-(I:Int)+1-1) / 1 else 0) else (if (I:Int) > (J:Int) then ((I:Int)-(J:Int)-1-1) / (-1) else 0))=((J-I:Nat):Int):=by
   rw[Zg h1];split <;> room
  erw[hc,ZD];refine map_congr_left λk _=>?_;room
 unfold Builtin.Str.strSliceIndices;erw[h1,Yj];cases lo with
 | none =>
  cases hi with
  | none=>exact key 0 n
  | some j=>exact (congrArg (λz=>sliceRange 0 z 1) (cl j n)).trans (key 0 _)
 | some i =>
  cases hi with
  | none=>exact (congrArg (λz=>sliceRange z n 1) (cl i 0)).trans (key _ n)
  | some j=>exact (congr (congrArg (λz y=>sliceRange z y 1) (cl i 0)) (cl j n)).trans (key _ _)
theorem QaI(x:List Nat)(lo hi:Option Int):Txt.slice (S x) lo hi=S (cut x lo hi):=by
 unfold Txt.slice;rw[Q1e,sliceIdx];split
 ·rename_i h;have h':HT.sIx x.length x.length hi-HT.sIx x.length 0 lo=x.length:=by simpa using h
  have h2:HT.sIx x.length x.length hi<=x.length:=HT.sIx_le _ _ (Zq _) hi;unfold cut;have h3:HT.sIx x.length 0 lo=0:=by
   by_cases hx:x.length=0
   ·have:=HT.sIx_le x.length 0 (ZI _) lo;room
   ·room
  rw[h',h3,drop_zero,take_length]
 ·unfold cut S;rw[<- Q5V];simp
section
variable{X:Cx}{a b c e:Expr}{es:List Expr}{ta tb te:DTE}{tt tu:DTT}{pos p2:Pos}{K:Frag}
noncomputable abbrev DTO:=DSt->DH->(Option Int->DH->Prop)->Prop
def lO(K:Frag)(t:DTO):TO:=λσ H Q=>∃ ρ M R,SimS K H ρ σ/\SimM K M H/\t ρ M R/\∀ o M' H',R o M'->Ext H H'->SimM K M' H'->Q o H'
noncomputable abbrev DO(X:Cx)(e:Option Expr)(t:DTO):Prop:=PO X e (lO X.K t)
theorem PO.imp{e:Option Expr}{T T':TO}(h:PO X e T)(i:∀ σ H Q,T' σ H Q->T σ H Q):PO X e T':=λpins s σ H Q I q=>h pins s σ H Q I (i σ H Q q)
def zbu:DTO:=λ_ M Q=>Q none M
def zbO(t:DTE):DTO:=λρ M Q=>t ρ M λx M1=>match x with
 | .int i=>Q (some i) M1
 | _=>False
theorem QaJ:DO X none zbu:=PO.imp Qan λσ H Q ⟨ρ,M,R,s,m,h,k⟩=>k none M H h (Ext.refl H) m
theorem Q4F(h:DE X e te):DO X (some e) (zbO te):=PO.imp (Qao h) λσ H Q ⟨ρ,M,R,s,m,h,k⟩=>⟨ρ,M,_,s,m,h,λd M1 v H1 h1 x1 m1 e1=>by
 cases e1 <;> first | exact False.elim h1 | exact⟨_,rfl,k _ M1 H1 h1 x1 m1⟩⟩
def rSlD:D->Option Int->Option Int->DH->DK->Prop:=λx lo hi M Q=>match x with
 | .str z=>z.length<=sizeLine/\Q (.str (cut z lo hi)) M
 | .tup xs=>Q (.tup (cut xs lo hi)) M
 | .lst xs=>∀ p,M p=none->Q (.ref p) (dupd M p (.lst (cut xs lo hi)))
 | .ref a=>match M a with
  | some (.lst xs)=>∀ p,M p=none->Q (.ref p) (dupd M p (.lst (cut xs lo hi)))
  | _=>False
 | _=>False
def lSl(K:Frag)(r:D->Option Int->Option Int->DH->DK->Prop):V->Option Int->Option Int->Hp->VK->Prop:=λx lo hi H Q=>∃ d M R,Den K H d x/\SimM K M H/\r d lo hi M R/\Aft K H R Q
theorem Dens.cut(h:Dens K H ds vs)(lo hi:Option Int):Dens K H (DL.cut ds lo hi) (cutV vs lo hi):=by
 unfold DL.cut cutV;rw[h.length];exact (h.drop _).take _
theorem Q6Q{prog:Program}{w:World}{A:Around}{E:Value->Shared->Prop}{s:Shared}{t sl:Addr}{items:Array Value}{vl vu:Value}{lo hi:Option Int}{Q:Value->Shared->Prop}(ht:IsTup s.heap t items)(hs:s.heap.IsSliceOf sl vl vu .none)(pl:IsPart vl lo)(pu:IsPart vu hi)
  (hw:HT.sIx items.size 0 lo=0/\HT.sIx items.size items.size hi=items.size) (h:Q (.ref t) s):wpAny (model prog w) A (getItem (.ref t) (.ref sl)) Q E s:=by
 obtain⟨os,hos,hcs,hds⟩:=id hs;have hTs:s.TypeIs (.ref sl) "slice":=⟨os,hos,hcs⟩;unfold getItem
 try with_reducible refine Yk ?_
 first | refine Za (Zc ?_) | skip
 refine Za (wpAny_sequenceKey ht.typeIs (by decide) ?_)
 refine Za (wpAny_callSpecial?_slot (name:=Str.ofString "__getitem__") ht.typeIs Yg
  (Yu Yg ht.typeIs entry_tuple_getitem ?_ (args_tuple_getitem _ _)))
 show wpAny _ _ (Builtin.Tuple.tupleItemsOf (.ref t) >>= _) _ _ s;refine Za (tupleItemsOf_ ht ?_);refine Za (wpAny_typeOf hTs ?_);rw[Zg (by decide)]
 refine Za (HT.sliceApplied_gen hs pl pu ?_);have hyes:((((HT.sIx items.size 0 lo:Nat):Int)==0&&(1:Int)==1&&(HT.sIx items.size items.size hi-HT.sIx items.size 0 lo)==items.size)=true):=by
  rw[hw.1,hw.2];simp
 show wpAny _ _ (if (((HT.sIx items.size 0 lo:Nat):Int)==0&&(1:Int)==1&&(HT.sIx items.size items.size hi-HT.sIx items.size 0 lo)==items.size)=true then _ else _) _ _ s
 rw[Zg hyes];unfold Builtin.Tuple.tupleIsExact;refine Za (Za (wpAny_typeOf ht.typeIs (Zc ?_)));rw[Zg (by decide)]
 exact Za (wpAny_rule (Zc ⟨_,rfl,Zc h⟩))
theorem Qct:SlR X (lSl X.K rSlD):=by
 rintro pins s σ H x v vl vu lo hi sl Q I rx hs pl pu ⟨d,M,R,e,m,q,k⟩;have viaL:∀ {p:Addr} {ds:List D} {vs:List V},x=.ref p->SqL X.K H p vs->Dens X.K H ds vs->(∀ p,M p=none->R (.ref p) (dupd M p (.lst (DL.cut ds lo hi))))->∃ T id,typeLookup (.type T) "__getitem__" = pure (some (.builtin id))/\s.TypeIs v T/\wpAny (model X.prog X.w) X.A (getItem v (.ref sl)) (EP X pins σ Q) X.xe s:=by
  intro p ds vs ex sq dn q;subst ex;exact Qar pins s σ H _ v vl vu lo hi sl Q I rx hs pl pu ⟨p,vs,rfl,sq,λp hp=>k _ _ _ _ (q p (m.free hp)) (Ext.new hp) (m.newL hp (Dens.cut dn lo hi)) (.ref p)⟩
 cases e with
 | str z hz =>
  obtain⟨t,rfl⟩:=rx;refine⟨"str",_,F.slot_str_getitem.lookup,typeIs_str s _ t,?_⟩;have go:∀ (l u:Option (Int×Tok)),l.map (·.1)=lo->u.map (·.1)=hi->s.heap.IsSlice sl l u none->wpAny (model X.prog X.w) X.A (getItem (.str (S z) t) (.ref sl)) (EP X pins σ Q) X.xe s:=by
   intro l u e1 e2 hsl;have es:Txt.slice (S z) lo hi=S (DL.cut z lo hi):=QaI z lo hi;have fin:∀ (t':Tok) (tk:Nat),EP X pins σ Q (.str (S (DL.cut z lo hi)) t') { s with toks:=tk }:=λt' tk=>⟨.str (S (DL.cut z lo hi)),H,I.tok tk,⟨t',rfl⟩,k _ M _ H q.2 (Ext.refl H) m (.str _ (cpOk.sub hz λc hc=>QaH hc))⟩;refine wpAny_getItem_str_slice (l:=l) (u:=u) (st:=none) hsl rfl ?_;unfold sliceMade;unfold Txt.slice at es;unfold slicePicked;rw[e1,e2];erw[Option.map_none,Option.getD_none];by_cases hc:((1:Int)==1&&(Builtin.Str.strSliceIndices lo hi 1 (S z).length).length==(S z).length)=true
   ·rw[Zg hc]at es ⊢;have:=fin t s.toks;rw[<- es]at this;exact this
   ·rw[Zd hc]at es ⊢;rw[es];refine⟨?_,fin _ _⟩;show (S (DL.cut z lo hi)).length<=sizeLine;rw[Q1e];exact Zr (cut_len z lo hi) q.1
  obtain⟨os,hos,hcs,hds⟩:=hs;cases pl with
  | none =>
   cases pu with
   | none=>exact go none none rfl rfl ⟨os,hos,hcs,hds⟩
   | int j u=>exact go none (some (j,u)) rfl rfl ⟨os,hos,hcs,hds⟩
  | int i t =>
   cases pu with
   | none=>exact go (some (i,t)) none rfl rfl ⟨os,hos,hcs,hds⟩
   | int j u=>exact go (some (i,t)) (some (j,u)) rfl rfl ⟨os,hos,hcs,hds⟩
 | tup sq dn =>
  rename_i p ds vs;cases rx;have hl:=dn.length;by_cases hw:HT.sIx vs.length 0 lo=0/\HT.sIx vs.length vs.length hi=vs.length
  ·obtain⟨its,r,ht,hz⟩:=I.tuple (.of sq);have hlen:its.toArray.size=vs.length:=by rw[ZF];exact r.length.symm
   refine⟨"tuple",_,Yg.lookup,ht.typeIs,Q6Q ht hs pl pu (by rw[hlen];exact hw) ⟨.ref p,H,I,rfl,k _ M _ H q (Ext.refl H) m ?_⟩⟩
   have:DL.cut ds lo hi=ds:=by
    unfold DL.cut;rw[hl,hw.1,hw.2,drop_zero,<- hl,sub_zero,take_length]
   rw[this];exact .tup sq dn
  ·exact Qc0 pins s σ H (.ref p) _ vl vu lo hi sl Q I rfl hs pl pu ⟨p,vs,rfl,.of sq,hw,λp hp=>k _ M _ _ q (Ext.new hp) (m.new hp) (.tup Q0g ((Dens.cut dn lo hi).ext (Ext.new hp)))⟩
 | lst sq dn=>exact viaL rfl sq.sq dn q
 | ref p =>
  cases qa:M p with
  | none=>erw[rSlD,qa]at q
  | some o =>
   cases o with
   | oth _=>erw[rSlD,qa]at q
   | lst ds =>
    erw[rSlD,qa]at q;obtain⟨vs,e2,dn⟩:=m.get qa;exact viaL rfl (.of e2) dn q
 | _=>exact False.elim q
def dSl(te:DTE)(tl th:DTO):DTE:=λρ M Q=>te ρ M λx M1=>tl ρ M1 λl M2=>th ρ M2 λu M3=>rSlD x l u M3 Q
theorem Q8I{lo hi:Option Expr}{tl th:DTO}(he:DE X e te)(hl:DO X lo tl)(hh:DO X hi th):DE X (.Subscript e (.Slice lo hi none p2) pos) (dSl te tl th) :=
 (Q8r Qct he hl hh).imp λσ H Q ⟨ρ,M,R,s,m,h,k⟩=>⟨ρ,M,_,s,m,h,λd1 M1 v1 H1 h1 x1 m1 e1=>⟨ρ,M1,_,s.ext x1,m1,h1,λl M2 H2 h2 x2 m2=>⟨ρ,M2,_,s.ext (x1.trans x2),m2,h2,λu M3 H3 h3 x3 m3 =>
  ⟨d1,M3,R,e1.ext (x2.trans x3),m3,h3,k.ext (x1.trans (x2.trans x3))⟩⟩⟩⟩
def rIxD:DR2:=λx y M Q=>match x,y with
 | .str z,.int i=>match atI z i with
  | some c=>z.length<=sizeLine/\Q (.str [c]) M
  | none=>False
 | .tup xs,.int i=>match atI xs i with
  | some d=>Q d M
  | none=>False
 | .lst xs,.int i=>match atI xs i with
  | some d=>Q d M
  | none=>False
 | .ref a,.int i=>match M a with
  | some (.lst xs)=>match atI xs i with
   | some d=>Q d M
   | none=>False
  | _=>False
 | _,_=>False
theorem Dens.atI(h:Dens K H ds vs)(e:L2.atI ds i=some d):∃ v,L2.atI vs i=some v/\Den K H d v:=by
 unfold L2.atI at e ⊢;rw[h.length]at e;cases q:ixN vs.length i with
 | none=>rw[q]at e;cases e
 | some j =>
  rw[q]at e;obtain⟨v,e1,e2⟩:=h.get (i:=j) (d:=d) e;exact⟨v,e1,e2⟩
theorem Qcu:IxR X (lR2 X.K rIxD):=by
 rintro value slice pins s σ H x y v u Q I rx ry ⟨dx,dy,M,R,ex,ey,m,q,k⟩ hsub;have viaL:∀ {p:Addr} {ds:List D} {vs:List V} {i:Int},x=.ref p->y=.int i->SqL X.K H p vs->Dens X.K H ds vs->(match atI ds i with | some d=>R d M | none=>False)->wpAny (model X.prog X.w) X.A (subscriptTail value slice v u) (EP X pins σ Q) X.xe s:=by
  intro p ds vs i e1 e2 sq dn q;subst e1 e2;cases ei:atI ds i with
  | none=>rw[ei]at q;exact q.elim
  | some d =>
   rw[ei]at q;obtain⟨w,e3,e4⟩:=Dens.atI dn ei;exact Qaq value slice pins s σ H _ _ v u Q I rx ry ⟨p,vs,i,w,rfl,rfl,sq,e3,k _ M _ H q (Ext.refl H) m e4⟩ hsub
 cases ex with
 | str z hz =>
  cases ey <;> first | exact False.elim q | skip
  rename_i i;have q:(match atI z i with | some c=>z.length<=sizeLine/\R (.str [c]) M | none=>False):=q
  cases ei:atI z i with
  | none=>rw[ei]at q;exact q.elim
  | some c =>
   rw[ei]at q;obtain⟨j,_,ej,_⟩:=Q3n ei;exact ix_str value slice pins s σ H _ _ v u Q I rx ry ⟨S z,i,c,rfl,rfl,by rw[Q1e];exact q.1,by rw[Q3t];exact ei,k _ M _ H q.2 (Ext.refl H) m (.str [c] (cpOk.sub hz λc' hc=>by rw[Zh.mp hc];exact Z6 ej))⟩ hsub
 | tup sq dn =>
  cases ey <;> first | exact False.elim q | skip
  rename_i p ds vs i;have q:(match atI ds i with | some d=>R d M | none=>False):=q
  cases ei:atI ds i with
  | none=>rw[ei]at q;exact q.elim
  | some d =>
   rw[ei]at q;obtain⟨w,e3,e4⟩:=Dens.atI dn ei;exact ix_tup value slice pins s σ H _ _ v u Q I rx ry ⟨p,vs,i,w,rfl,rfl,.of sq,e3,k _ M _ H q (Ext.refl H) m e4⟩ hsub
 | lst sq dn =>
  cases ey <;> first | exact False.elim q | skip
  exact viaL rfl rfl sq.sq dn q
 | ref p =>
  cases ey <;> first | exact False.elim q | skip
  cases qa:M p with
  | none=>erw[rIxD,qa]at q
  | some o =>
   cases o with
   | oth _=>erw[rIxD,qa]at q
   | lst ds =>
    erw[rIxD,qa]at q;obtain⟨vs,e2,dn⟩:=m.get qa;exact viaL rfl rfl (.of e2) dn q
 | _=>exact False.elim q
theorem de_ix(ha:DE X a ta)(hb:DE X b tb)(hs:zbr b:=by intro _ _;rfl):DE X (.Subscript a b pos) (dOp rIxD ta tb) :=
 (pe_ix Qcu ha hb hs).imp λσ H Q h=>Q5f (λ_ _ _ _ q=>q) h
def rLtD(f:Int->Int->Bool):DR2:=λx y M Q=>match x,y with
 | .int i,.int j=>Q (.bl (f i j)) M
 | _,_=>False
theorem opB2{f:Int->Int->Bool}(h:OpR X (compareOp op) (rI0 λi j=>.bl (f i j))):OpD X (compareOp op) (rLtD f):=by
 rintro pins s σ H x y v u Q I rx ry ⟨dx,dy,M,R,ex,ey,m,q,k⟩;cases ex <;> cases ey <;> first | exact False.elim q | skip
 exact h pins s σ H _ _ v u Q I rx ry ⟨_,_,rfl,rfl,k _ M _ H q (Ext.refl H) m (.bl _)⟩
theorem od_lt:OpD X (compareOp .Lt) (rLtD λi j=>decide (i<j)):=opB2 op_lt
theorem od_gt:OpD X (compareOp .Gt) (rLtD λi j=>decide (j<i)):=opB2 op_gt
noncomputable def isNon:D->Bool
 | .non=>true
 | _=>false
def rIsN(f:Bool->Bool):DR2:=λx y M Q=>match y with
 | .non=>Q (.bl (f (isNon x))) M
 | _=>False
theorem Qcv:OpD X (compareOp .Is) (rIsN id):=by
 rintro pins s σ H x y v u Q I rx ry ⟨dx,dy,M,R,ex,ey,m,q,k⟩;cases ey <;> first | exact False.elim q | skip
 refine QbV pins s σ H _ _ v u Q I rx ry ⟨rfl,?_⟩;have:decide (x=V.non)=isNon dx:=by cases ex <;> rfl
 rw[this];exact k _ M _ H q (Ext.refl H) m (.bl _)
theorem QaK:OpD X (compareOp .IsNot) (rIsN not):=by
 rintro pins s σ H x y v u Q I rx ry ⟨dx,dy,M,R,ex,ey,m,q,k⟩;cases ey <;> first | exact False.elim q | skip
 refine Qad pins s σ H _ _ v u Q I rx ry ⟨rfl,?_⟩;have:decide (x=V.non)=isNon dx:=by cases ex <;> rfl
 rw[this];exact k _ M _ H q (Ext.refl H) m (.bl _)
def zaR(r r':DR2)(ta tb tc:DTE):DTE:=λρ M Q=>ta ρ M λx M1=>tb ρ M1 λy M2=>r x y M2 λz M3=>match z with
 | .bl k=>if k=true then tc ρ M3 λz' M4=>r' y z' M4 Q else Q (.bl false) M3
 | _=>False
theorem Q3V(h:lE K (zaR r r' ta tb tc) σ H Q):zbH (lR2 K r) (lR2 K r') (lE K ta) (lE K tb) (lE K tc) σ H Q:=by
 obtain⟨ρ,M,R,s,m,h,k⟩:=h;refine⟨ρ,M,_,s,m,h,λd1 M1 v1 H1 h1 x1 m1 e1=>⟨ρ,M1,_,s.ext x1,m1,h1,λd2 M2 v2 H2 h2 x2 m2 e2=>⟨d1,d2,M2,_,e1.ext x2,e2,m2,h2,λd3 M3 v3 H3 h3 x3 m3 e3=>?_⟩⟩⟩;have xx:=(x1.trans x2).trans x3;cases d3 with
 | bl c =>
  cases e3;refine⟨c,rfl,?_⟩;cases c with
  | true=>exact⟨ρ,M3,_,s.ext xx,m3,(Zg rfl).mp h3,λd4 M4 v4 H4 h4 x4 m4 e4=>⟨d2,d4,M4,R,e2.ext (x3.trans x4),e4,m4,h4,k.ext (xx.trans x4)⟩⟩
  | false=>exact k _ M3 _ H3 ((Zd Zv).mp h3) xx m3 (.bl _)
 | _=>exact False.elim h3
theorem Q8J(ho:OpD X (compareOp op) r)(ho':OpD X (compareOp op') r')(ha:DE X a ta)(hb:DE X b tb)(hc:DE X c tc)
  (hm:lastMarks [op,op'] [b,c]=false:=by with_unfolding_all rfl):DE X (.Compare a [op,op'] [b,c] pos) (zaR r r' ta tb tc):=(Q8k ho ho' ha hb hc hm).imp λσ H Q h=>Q3V h
theorem Q8K(ho:OpD X (compareOp op) r)(ho':OpD X (compareOp op') r')(ha:DE X a ta)(hb:DE X b tb)(hc:DE X c tc)
  (hm:lastMarks [op,op'] [b,c]=false:=by with_unfolding_all rfl):DT X (.Compare a [op,op'] [b,c] pos) (dB (zaR r r' ta tb tc)) :=
 (Q8l ho ho' ha hb hc hm).imp λσ H Q ⟨ρ,M,R,s,m,h,k⟩=>Q3V ⟨ρ,M,_,s,m,h,λd M1 v H1 h1 x1 m1 e1=>by
  cases d with
  | bl c=>cases e1;exact⟨c,rfl,k c M1 H1 h1 x1 m1⟩
  | _=>exact False.elim h1⟩
end
section
variable{X:Cx}{a b c e:Expr}{es:List Expr}{ta tb te:DTE}{tt tu:DTT}{pos p2:Pos}{K:Frag}
inductive Ty where
 | non | bool | int | str | tuple | list
 deriving DecidableEq
noncomputable def Ty.nm:Ty->String
 | .non=>"NoneType" | .bool=>"bool" | .int=>"int" | .str=>"str" | .tuple=>"tuple" | .list=>"list"
noncomputable def Ty.sub:Ty->Ty->Bool
 | .bool,.int=>true
 | a,b=>decide (a=b)
noncomputable def tyD:D->Ty
 | .non=>.non | .bl _=>.bool | .int _=>.int | .str _=>.str | .tup _=>.tuple | .lst _=>.list | .ref _=>.list
theorem Q1I(K:Frag)(a b:Ty)(hb:b≠.non):kitOne K (.type a.nm) (.type b.nm)=some (a.sub b):=by
 cases a <;> cases b <;> first | exact absurd rfl hb | with_unfolding_all rfl
def dIsI(T:Ty)(te:DTE):DTE:=λρ M Q=>te ρ M λd M1=>match d with
 | .ref a=>match M1 a with
  | some (.lst _)=>Q (.bl (Ty.sub .list T)) M1
  | _=>False
 | d=>Q (.bl ((tyD d).sub T)) M1
theorem Qcw(T:Ty)(hT:T≠.non){p:Pos}(hx:bootBuiltins x=some (.type T.nm))(he:DE X e te)(hg:Gl X "isinstance")(hm:X.mg "isinstance" = none)(hg2:Gl X x)(hm2:X.mg x=none)(hn:x ≠ "__name__":=by decide)(hdb:(x==("__debug__" : Str))=false:=by decide)
  (hs:starEach [e,.Name x p3] X.env=(false,eval e X.env)::starEach [.Name x p3] X.env:=by rfl) (hs2:starEach [.Name x p3] X.env=(false,eval (.Name x p3) X.env)::starEach [] X.env:=by rfl) (hpl:(backTo pos (starEach [.Name x p3] X.env)).any (·.1)=false:=by rfl) :
  DE X (.Call (.Name "isinstance" p) [e,.Name x p3] [] pos) (dIsI T te):=by
 have hc:zbj X (.builtin "isinstance") (λxs H Q=>∃ d M R v,xs=[v,.ty T.nm]/\Den X.K H d v/\SimM X.K M H/\Aft X.K H R Q/\(match d with
  | .ref a=>match M a with
   | some (.lst _)=>R (.bl (Ty.sub .list T)) M
   | _=>False
  | d=>R (.bl ((tyD d).sub T)) M)):=by
  rintro pins s σ H xs us Q I rv ⟨d,M,R,v,e,den,m,k,q⟩;subst e;cases rv with
  | cons r1 rv =>
   cases rv with
   | cons r2 rv =>
    cases rv;cases r2;have fin:∀ b,R (.bl b) M->∀ tk,EP X pins σ Q (.bool b) { s with toks:=tk }:=λb hb tk=>⟨.bl b,H,I.tok tk,rfl,k _ M _ H hb (Ext.refl H) m (.bl b)⟩;cases den with
    | non=>exact Q1n I r1 .non (Q1I X.K .non T hT) (fin _ q)
    | bl b=>exact Q1n I r1 (.bl b) (Q1I X.K .bool T hT) (fin _ q)
    | int i=>exact Q1n I r1 (.int i) (Q1I X.K .int T hT) (fin _ q)
    | str z hz=>exact Q1n I r1 (.str _) (Q1I X.K .str T hT) (fin _ q)
    | tup sq dn =>
     cases r1;obtain⟨its,r,⟨o,h1,h2,_⟩,hz⟩:=I.tuple (.of sq);exact kia_one kitx_tuple I.kIn ⟨o,h1,h2⟩ (Q1I X.K .tuple T hT) (λz=>nomatch z) (fin _ q)
    | lst sq dn =>
     cases r1;obtain⟨its,r,⟨o,n,h1,h2,_⟩,hz⟩:=I.list sq.sq;exact kia_one kitx_list I.kIn ⟨o,h1,h2⟩ (Q1I X.K .list T hT) (λz=>nomatch z) (fin _ q)
    | ref p =>
     cases qa:M p with
     | none=>erw[qa]at q
     | some o =>
      cases o with
      | oth _=>erw[qa]at q
      | lst ds =>
       erw[qa]at q;cases r1;obtain⟨vs,e2,dn⟩:=m.get qa;exact Q1n (x:=.ref p) I rfl (.lst e2) (Q1I X.K .list T hT) (fin _ q)
 refine (Q5c hc hg hm (by rfl) (Q4C he (Q4C (Qa9 hg2 hm2 hx (v:=.ty T.nm) rfl hn hdb) Q9K hs2) hs) (by decide) (by decide) hs hpl).imp λσ H Q ⟨ρ,M,R,s,m,h,k⟩=>?_
 exact⟨ρ,M,_,s,m,h,λd M1 v H1 h1 x1 m1 e1=>⟨d,M1,R,v,rfl,e1,m1,k.ext x1,by
  cases d <;> exact h1⟩⟩
def zbJ:D->DH->DK->Prop:=λd M Q=>match d with
 | .str z=>z.length<=sizeLine/\Q (.int z.length) M
 | .tup xs=>Q (.int xs.length) M
 | .lst xs=>Q (.int xs.length) M
 | .ref a=>match M a with
  | some (.lst xs)=>Q (.int xs.length) M
  | _=>False
 | _=>False
def rLen:List D->DH->DK->Prop:=λds M Q=>match ds with
 | [d]=>zbJ d M Q
 | _=>False
theorem Qcx:zbk X (.builtin "len") rLen:=by
 rintro pins s σ H xs us Q I rv ⟨ds,M,R,dn,m,q,k⟩
 match ds,dn,q with
 | [d],.cons den .nil,q =>
  cases den with
  | str z hz=>exact Q3O pins s σ H _ us Q I rv ⟨_,rfl,by rw[Q1e];exact q.1,k _ M _ H q.2 (Ext.refl H) m (by rw[Q1e];exact .int _)⟩
  | tup sq d=>exact Q1o pins s σ H _ us Q I rv ⟨_,_,rfl,.inr (.of sq),k _ M _ H q (Ext.refl H) m (by rw[d.length];exact .int _)⟩
  | lst sq d=>exact Q1o pins s σ H _ us Q I rv ⟨_,_,rfl,.inl sq.sq,k _ M _ H q (Ext.refl H) m (by rw[d.length];exact .int _)⟩
  | ref p =>
   cases qa:M p with
   | none=>erw[rLen,zbJ,qa]at q
   | some o =>
    cases o with
    | oth _=>erw[rLen,zbJ,qa]at q
    | lst ds =>
     erw[rLen,zbJ,qa]at q;obtain⟨vs,e2,d⟩:=m.get qa;exact Q1o pins s σ H _ us Q I rv ⟨_,_,rfl,.inl (.of e2),k _ M _ H q (Ext.refl H) m (by rw[d.length];exact .int _)⟩
  | _=>exact False.elim q
noncomputable def zaV(M:DH):D->Option (List D)
 | .tup xs=>some xs
 | .lst xs=>some xs
 | .ref a=>match M a with
  | some (.lst xs)=>some xs
  | _=>none
 | _=>none
def rList:List D->DH->DK->Prop:=λds M Q=>match ds with
 | [d]=>match zaV M d with
  | some xs=>∀ p,M p=none->Q (.ref p) (dupd M p (.lst xs))
  | none=>False
 | _=>False
theorem Q9T(m:SimM K M H)(den:Den K H d v)(e:zaV M d=some xs):∃ p vs,v=.ref p/\(SqL K H p vs\/SqT K H p vs)/\Dens K H xs vs/\(SqL K H p vs\/H p=some (.tup vs)):=by
 cases den with
 | tup sq d=>cases e;exact⟨_,_,rfl,.inr (.of sq),d,.inr sq⟩
 | lst sq d=>cases e;exact⟨_,_,rfl,.inl sq.sq,d,.inl sq.sq⟩
 | ref p =>
  cases qa:M p with
  | none=>simp[zaV,qa]at e
  | some o =>
   cases o with
   | oth _=>simp[zaV,qa]at e
   | lst ds =>
    simp[zaV,qa]at e;subst e;obtain⟨vs,e2,d⟩:=m.get qa;exact⟨_,_,rfl,.inl (.of e2),d,.inl (.of e2)⟩
 | _=>simp[zaV]at e
theorem QaL:zbk X (.type "list") rList:=by
 rintro pins s σ H xs us Q I rv ⟨ds,M,R,dn,m,q,k⟩
 match ds,dn,q with
 | [d],.cons den .nil,q =>
  unfold rList at q;cases e:zaV M d with
  | none=>erw[e]at q
  | some ys =>
   erw[e]at q;obtain⟨p,vs,rfl,sq,d,_⟩:=Q9T m den e;exact Q3P pins s σ H _ us Q I rv ⟨p,vs,rfl,sq,λl hl=>k _ _ _ _ (q l (m.free hl)) (Ext.new hl) (m.newL hl d) (.ref l)⟩
inductive lM(K:Frag)(r:D->List D->DH->DK->Prop)(x:V)(vs:List V)(H:Hp)(Q:VK):Prop
 | mk (d:D) (ds:List D) (M:DH) (R:DK) (e:Den K H d x) (dn:Dens K H ds vs) (m:SimM K M H) (h:r d ds M R) (k:Aft K H R Q)
noncomputable abbrev MtD(X:Cx)(id:String)(r:D->List D->DH->DK->Prop):Prop:=MtR X id (lM X.K r)
def dML(r:D->List D->DH->DK->Prop)(to:DTE)(t:DTA):DTE:=λρ M Q=>to ρ M λd M1=>match d with
 | .ref a=>match M1 a with
  | some (.lst _)=>t ρ M1 λds M2=>r (.ref a) ds M2 Q
  | _=>False
 | .lst xs=>t ρ M1 λds M2=>r (.lst xs) ds M2 Q
 | _=>False
theorem de_ml{o:Expr}{to:DTE}{tr:DTA}{name:Str}{apos cpos:Pos}{id:String}{r:D->List D->DH->DK->Prop}(slot:Slot "list" name id)(hty:typeOf (.builtin id)=pure (.type "method_descriptor"))(hm:MtD X id r)(ho:DE X o to)(ha:DA X (e::es) tr)
  (hbase:attributeBase o name X.env (eval o X.env)=eval o X.env:=by rfl)
  (hfew:((backTo cpos (starEach (e::es) X.env)).all (λx=>!x.1)&&(backToKw cpos (keywordEach [] X.env)).all (λx=>x.1.isSome)
   && decide ((e::es).length+([]:List Keyword).length+(if ([]:List Keyword).isEmpty then 0 else 1)<30))=true:=by rfl)
  (hline:(apos.endLine==cpos.line)=true:=by rfl) (hs:starEach (e::es) X.env=(false,eval e X.env)::starEach es X.env:=by rfl) (hplain:(backTo cpos (starEach es X.env)).any (·.1)=false:=by rfl) :
  DE X (.Call (.Attribute o name apos) (e::es) [] cpos) (dML r to tr) :=
 (pe_bm PySem.F.plainAttrs_list slot hty hm ho ha hbase hfew hline hs hplain).imp λσ H Q ⟨ρ,M,R,s,m,h,k⟩=>⟨ρ,M,_,s,m,h,λd M1 v H1 h1 x1 m1 e1=>by
  cases e1 with
  | ref a =>
   cases qa:M1 a with
   | none=>erw[qa]at h1
   | some o =>
    cases o with
    | oth _=>erw[qa]at h1
    | lst xs =>
     erw[qa]at h1;obtain⟨vs,e2,d⟩:=m1.get qa;exact⟨.inl ⟨rfl,vs,.of e2⟩,ρ,M1,_,s.ext x1,m1,h1,λds M2 vs H2 h2 x2 m2 e2=>⟨.ref a,ds,M2,R,.ref a,e2,m2,h2,k.ext (x1.trans x2)⟩⟩
  | lst fz dd=>exact⟨.inl ⟨rfl,_,fz.sq⟩,ρ,M1,_,s.ext x1,m1,h1,λds M2 vs H2 h2 x2 m2 e2=>⟨_,ds,M2,R,Den.ext x2 (.lst fz dd),e2,m2,h2,k.ext (x1.trans x2)⟩⟩
  | _=>exact False.elim h1⟩
theorem Q6R{o:Expr}{to:DTE}{name:Str}{apos cpos:Pos}{id:String}{r:D->List D->DH->DK->Prop}(slot:Slot "list" name id)(hty:typeOf (.builtin id)=pure (.type "method_descriptor"))(hm:MtD X id r)(ho:DE X o to)
  (hbase:attributeBase o name X.env (eval o X.env)=eval o X.env:=by rfl) (hline:(apos.endLine==cpos.line)=true:=by rfl):DE X (.Call (.Attribute o name apos) [] [] cpos) (dML r to dNil) :=
 (Qc1 PySem.F.plainAttrs_list slot hty hm ho hbase hline).imp λσ H Q ⟨ρ,M,R,s,m,h,k⟩=>⟨ρ,M,_,s,m,h,λd M1 v H1 h1 x1 m1 e1=>by
  cases e1 with
  | ref a =>
   cases qa:M1 a with
   | none=>erw[qa]at h1
   | some o =>
    cases o with
    | oth _=>erw[qa]at h1
    | lst xs =>
     erw[qa]at h1;obtain⟨vs,e2,d⟩:=m1.get qa;exact⟨.inl ⟨rfl,vs,.of e2⟩,.ref a,[],M1,R,.ref a,.nil,m1,h1,k.ext x1⟩
  | lst fz dd=>exact⟨.inl ⟨rfl,_,fz.sq⟩,_,[],M1,R,.lst fz dd,.nil,m1,h1,k.ext x1⟩
  | _=>exact False.elim h1⟩
def zaJ:D->List D->DH->DK->Prop:=λd ds M Q=>match d,ds with
 | .ref a,[y]=>match M a with
  | some (.lst xs)=>xs.length<sizeLine/\Q .non (dupd M a (.lst (xs++[y])))
  | _=>False
 | _,_=>False
theorem Q3W:MtD X "list.append" zaJ:=by
 rintro pins s σ H x xs v us Q I rx rv ⟨d,ds,M,R,e,dn,m,q,k⟩;cases e <;> first | exact False.elim q | skip
 rename_i a
 match ds,dn,q with
 | [y],.cons dy .nil,q =>
  cases qa:M a with
  | none=>erw[zaJ,qa]at q
  | some o =>
   cases o with
   | oth _=>erw[zaJ,qa]at q
   | lst ys =>
    erw[zaJ,qa]at q;obtain⟨vs,e2,d⟩:=m.get qa;exact Q6w pins s σ H _ _ v us Q I rx rv ⟨a,vs,_,rfl,rfl,e2,by rw[<- d.length];exact q.1,k _ _ _ _ q.2 (Ext.lst e2) (m.write e2 (d.append (.cons dy .nil))) .non⟩
end
section
variable{X:Cx}{a b c e:Expr}{es:List Expr}{ta tb te:DTE}{tt tu:DTT}{pos p2:Pos}{K:Frag}
def tFzS(T:TS):TS:=λD σ H=>T { D with nx:=λσ' H'=>∃ a xs,H' a=some (.lst xs)/\∀ o,D.nx σ' (upd H' a (.frz o (.lst xs))) } σ H
theorem ps_fz{st:Stmt}{T:TS}(h:PS X st T):PS X st (tFzS T):=by
 intro pins s σ H D I q;refine thn (h pins s σ H _ I q) λf s' q'=>?_;cases f with
 | next =>
  obtain⟨σ',H',I',a,xs,ha,k⟩:=q';obtain⟨o,I2⟩:=I'.frozen ha;exact⟨σ',_,I2,k o⟩
 | brk=>exact q'
 | cont=>exact q'
 | ret v=>exact q'
end
def Sub(M M':DH):Prop:=∀ a o,M a=some o->M' a=some o
theorem Sub.refl(M:DH):Sub M M:=λ_ _ e=>e
theorem Sub.trans{M M1 M2:DH}(a:Sub M M1)(b:Sub M1 M2):Sub M M2:=λc o e=>b c o (a c o e)
theorem Sub.new(h:M p=none):Sub M (dupd M p o):=λa u e=>by rw[Q0a (dne e h)];exact e
theorem Sub.put(s:Sub M M')(h:M p=none):Sub M (dupd M' p o):=λa u e=>by rw[Q0a (dne e h)];exact s a u e
theorem Sub.none(s:Sub M M')(h:M' p=Option.none):M p=Option.none:=by
 cases e:M p with
 | none=>rfl
 | some o=>rw[s p o e]at h;cases h
theorem SimM.sub{K:Frag}{H:Hp}{M M':DH}(h:SimM K M' H)(s:Sub M M'):SimM K M H:=λa o e=>h a o (s a o e)
section
variable{X:Cx}{a b c e tg iter:Expr}{es:List Expr}{st:Stmt}{sts body:List Stmt}{ta tb te:DTE}{tt tu:DTT}{t u:DTS}{pos:Pos}{K:Frag}
def zb0(wi:DTI)(ix:List Nat)(unp:D->Option (List D))(tc:DTT)(te:DTE):DTE:=λρ M Q=>wi ρ M λitems Cd M1 =>
 zan (ix.map λi=>(ρ[i]?).getD none) unp tc te Cd (λys M2=>ys.length<=sizeLine/\Q (.lst ys) M2) items [] M1
theorem Q3X{unp:D->Option (List D)}{F:List D->DH->Prop}(hu:Unp K k unp gV)(s:SimS K H ρ σ)(m:SimM K M H)
  (h:wi ρ M λitems Cd M1=>zan (ix.map λi=>(ρ[i]?).getD none) unp tc te Cd (λys M2=>ys.length<=sizeLine/\F ys M2) items [] M1)
  (kk:∀ zs M' ys H' a,F zs M'->Ext H H'->SimM K M' H'->Dens K H' zs ys->H' a=none->Q (.ref a) (upd H' a (.lst ys))):tComp (lI K wi) k ix gV (lT K tc) (lE K te) σ H Q:=by
 refine⟨ρ,M,_,s,m,h,λitems Cd M1 H1 J h1 x1 m1 Y=>?_⟩;refine⟨λi mm ys H'=>mm=items.length-i/\i<=items.length/\∃ M' zs,Ext H1 H'/\SimM K M' H'/\Dens K H' zs ys/\zan (ix.map λi=>(ρ[i]?).getD none) unp tc te Cd (λys M2=>ys.length<=sizeLine/\F ys M2) (items.drop i) zs M',⟨_,rfl,ZI _,M1,[],Ext.refl _,m1,.nil,h1⟩,?_⟩;rintro i mm ys H' ⟨rfl,hi,M',zs,x',m',dz,h'⟩;by_cases hlt:i<items.length
 ·right;have hd:items.drop i=items[i]::items.drop (i+1):=Y0 hlt;rw[hd]at h';obtain⟨cd,h'⟩:=h';refine⟨Y.go i H' M' x' m' cd hlt,λy Hy yl=>?_⟩;obtain⟨xy,my,d,ed,den⟩:=Y.yld i H' M' y Hy x' m' cd yl hlt;have:items[i]=d:=by
   rw[Zi hlt]at ed;exact ZE ed
  rw[this]at h';cases eu:unp d with
  | none=>rw[eu]at h';exact h'.elim
  | some us =>
   rw[eu]at h';refine hu.to d y us _ Hy _ den eu λws dw=>?_;have hk:ws.length=k:=by rw[<- dw.length];exact hu.len d us eu
   refine⟨?_,?_,?_⟩
   ·rw[List.drop_left' (by rw[Zb];exact hk)]
   ·rw[Zl,Zb,Zb,hk]
   ·have xx:=x'.trans xy;have sρ:SimS K Hy (us.map some++ix.map λi=>(ρ[i]?).getD none) (ws.map some++ix.map λi=>(σ[i]?).getD none):=(SimS.ofDens dw).append ((s.ext (x1.trans xx)).pick ix);refine⟨_,M',_,sρ,my,h',λb M3 H3 h3 x3 m3=>?_⟩;cases b with
    | true =>
     refine iteT ⟨_,M3,_,sρ.ext x3,m3,(Zg rfl).mp h3,λz M4 v H4 ⟨hz,h4⟩ x4 m4 e4=>⟨by rw[<- dz.length];exact hz,_,(show items.length-(i+1)<items.length-i by room),rfl,hlt,M4,_,(xx.trans x3).trans x4,m4,(dz.ext (xy.trans (x3.trans x4))).append (.cons e4 .nil),h4⟩⟩
    | false=>exact iteF ⟨_,(show items.length-(i+1)<items.length-i by room),rfl,hlt,M3,zs,xx.trans x3,m3,dz.ext (xy.trans x3),(Zd Zv).mp h3⟩
 ·left;have hd:items.drop i=[]:=Yo (le_of_not_lt hlt);rw[hd]at h';obtain⟨cd,hz,q⟩:=h';exact⟨Y.stop i H' M' x' m' cd (le_of_not_lt hlt),by rw[<- dz.length];exact hz,λa ha=>kk _ _ _ _ a q (x1.trans x') m' dz ha⟩
section
variable{scope:Scope}{N fn:List Str}{k:Nat}{ix:List Nat}{elt:Expr}{ifs:List Expr}{wi:DTI}{unp:D->Option (List D)}{gV:TG}{tc:DTT}
theorem Q8L(tp:Top X){R0:XC->Hp->Prop}(hx0:zal X λcls _ H=>R0 cls H)(hu:Unp X.K k unp gV)(hc:X.calm=true)(ok:zaz X.env.scope scope N k fn)(hix:ix.map (λi=>X.N[i]?)=fn.map some)(hi:DI X tg iter wi)
  (hg:∀ cl C s₀ H₀ ex E,PG (za3 X scope N cl C s₀ H₀ ex E) tg gV) (ht:∀ cl C s₀ H₀ ex E,zal (za3 X scope N cl C s₀ H₀ ex E) (λcls _ H=>R0 cls H)->DIfs (za3 X scope N cl C s₀ H₀ ex E) ifs tc) (he:∀ cl C s₀ H₀ ex E,zal (za3 X scope N cl C s₀ H₀ ex E) (λcls _ H=>R0 cls H)->DE (za3 X scope N cl C s₀ H₀ ex E) elt te)
  (hs:∀ x,foldedSetIterable iter X.env x=pure x:=by intro _;rfl):DE X (.ListComp elt [⟨tg,iter,ifs,0⟩] scope pos) (zb0 wi ix unp tc te) :=
 (Q6A (Q5d tp hx0 hc ok hix hi hg ht he hs)).imp λσ H Q ⟨ρ,M,R,s,m,h,kk⟩=>Q3X hu s m h λzs M' ys H' a q x' m' dz ha =>
  ⟨a,ys,rfl,Q0g,λo=>by
   rw[Q3k];exact kk _ M' _ _ q (x'.trans (Ext.new ha)) (m'.new ha) (.lst (.inl ⟨o,Q0g⟩) (dz.ext (Ext.new ha)))⟩
theorem Q4G(tp:Top X){R0:XC->Hp->Prop}(hx0:zal X λcls _ H=>R0 cls H)(hsw:swapsWith (.ListComp elt [⟨tg,iter,ifs,0⟩] scope pos) (some (.Name x pos')) spos.line X.env=pure true)
  (hN:X.N.Nodup) (hiN:X.N[i]? = some x) (hx:X.env.scope.names.lookup x=some .local) (hu:Unp X.K k unp gV) (hc:X.calm=true) (ok:zaz X.env.scope scope N k fn) (hix:ix.map (λi=>X.N[i]?)=fn.map some) (hi:DI X tg iter wi)
  (hg:∀ cl C s₀ H₀ ex E,PG (za3 X scope N cl C s₀ H₀ ex E) tg gV) (ht:∀ cl C s₀ H₀ ex E,zal (za3 X scope N cl C s₀ H₀ ex E) (λcls _ H=>R0 cls H)->DIfs (za3 X scope N cl C s₀ H₀ ex E) ifs tc) (he:∀ cl C s₀ H₀ ex E,zal (za3 X scope N cl C s₀ H₀ ex E) (λcls _ H=>R0 cls H)->DE (za3 X scope N cl C s₀ H₀ ex E) elt te)
  (hs:∀ x,foldedSetIterable iter X.env x=pure x:=by intro _;rfl):DS X (.Assign [.Name x pos'] (.ListComp elt [⟨tg,iter,ifs,0⟩] scope pos) spos) (dSet i (zb0 wi ix unp tc te)) :=
 by
 have h0:=Q2z (tc:=lT X.K tc) (te:=lE X.K te) tp hx0 hsw hN hiN hx hc ok hix hi hg ht he hs;refine (ps_fz h0).imp λD σ H ⟨ρ,M,DD,s,m,h,kk⟩=>?_;unfold tFzS tAsg;refine Q3X hu s m h λzs M' ys H' a q x' m' dz ha=>?_;refine⟨a,ys,Q0g,λo=>?_⟩;rw[Q3k];have xa:Ext H (upd H' a (.frz o (.lst ys))):=x'.trans (Ext.new ha);exact kk.nx _ M' _ _ q xa ((s.ext xa).set (d:=.lst zs) (v:=.ref a) (.lst (.inl ⟨o,Q0g⟩) (dz.ext (Ext.new ha))) i) (m'.new ha)
end
def dNeg(te:DTE):DTE:=λρ M Q=>te ρ M λx M1=>match x with
 | .int i=>Q (.int (-i)) M1
 | _=>False
theorem Qcy(h:DE X e te):DE X (.UnaryOp .USub e pos) (dNeg te) :=
 (pe_un QbU h).imp λσ H Q ⟨ρ,M,R,s,m,h,k⟩=>⟨ρ,M,_,s,m,h,λd M1 v H1 h1 x1 m1 e1=>by
  cases e1 <;> first | exact False.elim h1 | exact⟨_,rfl,k _ M1 _ H1 h1 x1 m1 (.int _)⟩⟩
def zbT(t:DTA):DTE:=λρ M Q=>t ρ M λxs M1=>xs.length<=sizeLine/\Q (.lst xs) M1
theorem QaM(h:DA X es tr):DE X (.List es pos) (zbT tr) :=
 (Q6A (Q9L h)).imp λσ H Q ⟨ρ,M,R,s,m,h,k⟩=>⟨ρ,M,_,s,m,h,λds M1 vs H1 ⟨hl,h1⟩ x1 m1 e1=>⟨by rw[<- e1.length];exact hl,λp hp=>⟨p,vs,rfl,Q0g,λo=>by
  rw[Q3k];exact k _ M1 _ _ h1 (x1.trans (Ext.new hp)) (m1.new hp) (.lst (.inl ⟨o,Q0g⟩) (e1.ext (Ext.new hp)))⟩⟩⟩
noncomputable def za0(R:DK):zbs:={ nx:=λ_ M'=>∃ M0,Sub M0 M'/\R .non M0,rt:=λd M'=>∃ M0,Sub M0 M'/\R d M0,bk:=λ_ _=>False,ct:=λ_ _=>False }
end
section
variable{X:Cx}{a b c e tg:Expr}{es:List Expr}{ta tb te:DTE}{tt tu:DTT}{pos p2:Pos}{K:Frag}
noncomputable def Its(z:List Nat):It:=⟨λi _=>i<z.length,λi H x H'=>H'=H/\∃ c,z[i]? = some c/\x=.str (S [c]),λi _=>z.length<=i⟩
theorem Qcz(z:List Nat):(S z).cps.size=z.length:=by unfold S;simp
theorem S_get(z:List Nat)(i:Nat):(S z).cps[i]? = z[i]?:=by unfold S;simp
theorem Q8M(hty:ty = "str_ascii_iterator" \/ ty = "str_iterator"):Turn P w K tg (Its z) [it] it (λi h=>h.IsStrIter it ty (S z) t i) where
 mem:=by simp
 obj:=λi h st b hb=>by
  have e:b=it:=by simpa using hb
  subst e;obtain⟨o,e,c,d⟩:=st;exact⟨o,e,λv q=>by rw[d]at q;cases q⟩
 keep:=λi h h' st k=>by
  obtain⟨o,e,r⟩:=st;exact⟨o,k it (by simp) o e,r⟩
 item:=by
  intro X hP hw hK hc i pins s σ H E I hf st hg;subst hP hw;obtain⟨f0,f1,f2,f3,f4,f5⟩:=hf it (by simp)
  have hlt:i<(S z).cps.size:=by rw[Qcz];exact hg
  have fin:∀ v h' tk,SignAt (S z) i v->h'.IsStrIter it ty (S z) t (i+1)->(∀ b o,b∉[it]->s.heap.get? b=some o->h'.get? b=some o)->∃ u,some v=some u /\
    wpAny (model X.prog X.w) X.A (letOwnedTupleGo tg (.ref it) u) (λ_ s2=>∃ x H',Inv X pins σ H' s2/\L2.RelV x u/\(Its z).yld i H x H'/\s2.heap.IsStrIter it ty (S z) t (i+1)/\∀ b∈[it],H' b=none) E { s with heap:=h',toks:=tk }:=by
   rintro v h' tk ⟨c,u,hcu,rfl⟩ st' kk;have I1:Inv X pins σ H { s with heap:=h',toks:=tk }:=I.turned (λb o hb e=>kk b o (by simpa using hb) e) f0 f1 f3 f4 f5
   obtain⟨o,e,cl,d⟩:=id st';refine⟨_,rfl,go_of (s:={ s with heap:=h',toks:=tk }) (n:=ty) e cl d (by rcases hty with rfl | rfl <;> decide) ⟨.str (S [c]),H,I1,⟨u,rfl⟩,⟨rfl,c,by rw[<- S_get];exact hcu,rfl⟩,st',λb hb=>(hf b hb).1⟩⟩
  rcases hty with rfl | rfl
  ·exact (Walks.strAscii (prog:=X.prog) (w:=X.w) (I.ok.hd hc) it (S z) t).item i s _ _ hlt st λv h' tk hv st' kk=>fin v h' tk hv st' kk
  ·exact (Walks.strWide (prog:=X.prog) (w:=X.w) (I.ok.hd hc) it (S z) t).item i s _ _ hlt st λv h' tk hv st' kk=>fin v h' tk hv st' kk
 done:=by
  intro X hP hw hK hc i pins s σ H E I hf st hg;subst hP hw;obtain⟨f0,f1,f2,f3,f4,f5⟩:=hf it (by simp)
  have hx:(S z).cps[i]? = none:=by rw[S_get];exact List.getElem?_eq_none_iff.mpr hg
  rcases hty with rfl | rfl
  ·exact wpAny_pyNext_ascii_end (I.ok.hd hc) st hx λh' eb=>⟨rfl,I.turned (t':=s.toks) (λb o hb e=>eb b o hb e) f0 f1 f3 f4 f5⟩
  ·exact wpAny_pyNext_wide_end (I.ok.hd hc) st hx λh' eb=>⟨rfl,I.turned (t':=s.toks) (λb o hb e=>eb b o hb e) f0 f1 f3 f4 f5⟩
 self:=λ_ _ _ _ _ st h=>by
  rcases hty with rfl | rfl
  ·exact wpAny_pyIter_striter_ascii st h
  ·exact wpAny_pyIter_striter_wide st h
theorem Yields.str{Cd:DH->Prop}(hz:cpOk z):Yields K (Its z) (z.map λc=>D.str [c]) Cd H where
 go:=λi H' M x m c hi=>by simpa[Its]using hi
 yld:=λi H' M y H'' x m c ⟨e,ch,h1,h2⟩ hi=>by
  subst e h2;refine⟨Ext.refl _,m,.str [ch],by rw[Zx,h1];rfl,.str [ch] (cpOk.sub hz λc' hc=>?_)⟩
  rw[Zh.mp hc];exact Z6 h1
 stop:=λi H' M x m c hi=>by simpa[Its]using hi
def diAny(tl:DTE):DTI:=λρ M R=>tl ρ M λd M1=>match d with
 | .tup ds=>R ds (λ_=>True) M1
 | .lst ds=>R ds (λ_=>True) M1
 | .str z=>R (z.map λc=>D.str [c]) (λ_=>True) M1
 | .ref a=>match M1 a with
  | some (.lst ds)=>R ds (λM=>M a=some (.lst ds)) M1
  | _=>False
 | _=>False
theorem Q6S(hl:DE X l tl):DI X tg l (diAny tl):=by
 rintro pins s σ H R I ⟨ρ,M,RD,sm,m,h,k⟩;have q0:tl ρ M (λd M1=>match d with
  | .tup ds=>RD ds (λ_=>True) M1
  | .lst ds=>RD ds (λ_=>True) M1
  | .str z=>RD (z.map λc=>D.str [c]) (λ_=>True) M1
  | .ref a=>match M1 a with
   | some (.lst ds)=>RD ds (λM=>M a=some (.lst ds)) M1
   | _=>False
  | _=>False):=h
 refine thn (hl pins s σ H (λv H1=>∃ d M1,Ext H H1/\SimM X.K M1 H1/\Den X.K H1 d v/\(match d with
  | .tup ds=>RD ds (λ_=>True) M1
  | .lst ds=>RD ds (λ_=>True) M1
  | .str z=>RD (z.map λc=>D.str [c]) (λ_=>True) M1
  | .ref a=>match M1 a with
   | some (.lst ds)=>RD ds (λM=>M a=some (.lst ds)) M1
   | _=>False
  | _=>False)) I ⟨ρ,M,_,sm,m,q0,λd M1 v H1 h1 x1 m1 e1=>⟨d,M1,x1,m1,e1,h1⟩⟩) λu s1 ⟨v,H1,I1,r1,d,M1,x1,m1,e1,h1⟩=>?_
 have viaL:∀ {a:Addr} {vs:List V} (_:v=.ref a) (_:SqL X.K H1 a vs) {items:List D} {Cd:DH->Prop},RD items Cd M1->Yields X.K (Itl X.K a) items Cd H1 ->
   wpAny (model X.prog X.w) X.A (pyIter u) (PIE X pins σ tg R) X.xe s1:=fun{a vs} ev hq {items Cd} q Y=>by
  subst ev;cases r1;obtain⟨its,rv,p,hz⟩:=I1.list hq;refine wpAny_pyIter_list p.isList ?_;refine⟨s1.heap.objs.size,[s1.heap.objs.size],_,_,H1,rfl,I1.kept (t':=s1.toks) λb o e=>Zj _ e,Q6n a _,⟨_,Z0 _ rfl,rfl,rfl⟩,λb hb=>?_,k items Cd M1 H1 _ q x1 m1 Y⟩;have e:b=s1.heap.objs.size:=by simpa using hb
  subst e;exact I1.fpOk (Zq _) (I1.hok.fresh (Zq _))
 cases e1 with
 | tup q0 r =>
  have q:=SqT.of (K:=X.K) q0;cases r1;obtain⟨its,rv,p,hz⟩:=I1.tuple q;refine wpAny_pyIter_tuple (show s1.heap.IsTuple _ its.toArray from p) ?_;refine⟨s1.heap.objs.size,[s1.heap.objs.size],_,_,H1,rfl,I1.kept (t':=s1.toks) λb o e=>Zj _ e,Q5J _ _,⟨_,Z0 _ rfl,rfl,rfl⟩,λb hb=>?_,k _ _ M1 H1 _ h1 x1 m1 (Yields.tup q r)⟩;have e:b=s1.heap.objs.size:=by simpa using hb
  subst e;exact I1.fpOk (Zq _) (I1.hok.fresh (Zq _))
 | lst q r=>exact viaL rfl q.sq h1 (Yields.fz q r)
 | str z hz =>
  obtain⟨t,rfl⟩:=r1;have go:∀ (ty:String),ty = "str_ascii_iterator" \/ ty = "str_iterator" -> PIE X pins σ tg R (.ref s1.heap.objs.size) { s1 with heap:=s1.heap.push { cls:=.type ty,data:=.fields #[.str (S z) t,.int 0 0] } }:=λty hty=>by
   refine⟨s1.heap.objs.size,[s1.heap.objs.size],_,_,H1,rfl,I1.kept (t':=s1.toks) λb o e=>Zj _ e,Q8M (z:=z) (t:=t) hty,⟨_,Z0 _ rfl,rfl,rfl⟩,λb hb=>?_,k _ _ M1 H1 _ h1 x1 m1 (Yields.str hz)⟩;have e:b=s1.heap.objs.size:=by simpa using hb
   subst e;exact I1.fpOk (Zq _) (I1.hok.fresh (Zq _))
  cases ha:(S z).cps.all (· < 128)
  ·exact wpAny_pyIter_wide ha (go _ (.inr rfl))
  ·exact wpAny_pyIter_ascii ha (go _ (.inl rfl))
 | ref a =>
  cases qa:M1 a with
  | none=>erw[qa]at h1
  | some o =>
   cases o with
   | oth _=>erw[qa]at h1
   | lst ds =>
    erw[qa]at h1;obtain⟨vs,e2,_⟩:=m1.get qa;exact viaL rfl (.of e2) h1 Yields.mut
 | _=>exact h1.elim
end
section
variable{X:Cx}{a b c e tg:Expr}{es:List Expr}{ta tb te:DTE}{tt tu:DTT}{pos p2:Pos}{K:Frag}
noncomputable def digs(m:Nat):List Nat:=(Nat.toDigits 10 m).map Char.toNat
theorem QcA(m:Nat):S (digs m)=Str.ofString (toString ((m:Nat):Int)):=by
 have:=PySem.W.KIN.signs_num m;unfold digs;rw[<- this,S_of]
theorem Q5W{m c:Nat}(h:c∈digs m):48<=c/\c<=57:=by
 unfold digs at h;obtain⟨ch,hch,rfl⟩:=ZJ.mp h;have h1:=Nat.isDigit_of_mem_toDigits (by decide) (by decide) hch
 erw[Char.isDigit,Zk,Ze]at h1;obtain⟨h1,h2⟩:=h1;exact⟨UInt32.le_iff_toNat_le.mp h1,UInt32.le_iff_toNat_le.mp h2⟩
theorem Q6T(m:Nat):cpOk (digs m):=ZR.mpr λc hc=>by
 have:=Q5W hc;exact Zm (by room)
def rStr:List D->DH->DK->Prop:=λds M Q=>match ds with
 | [.int i]=>0<=i/\i.natAbs.log2<1920/\Q (.str (digs i.toNat)) M
 | _=>False
theorem QcB:zbk X (.type "str") rStr:=by
 rintro pins s σ H xs us Q I rv ⟨ds,M,R,dn,m,q,k⟩;cases dn with
 | nil=>exact False.elim q
 | cons den t =>
  cases t with
  | cons _ _=>cases den <;> exact False.elim q
  | nil =>
   cases den with
   | int i =>
    obtain⟨h0,h1,q⟩:0<=i/\i.natAbs.log2<1920/\R (.str (digs i.toNat)) M:=q;obtain⟨n,rfl⟩:=Int.eq_ofNat_of_zero_le h0;rw[ZD]at q;refine Q3I pins s σ H _ us Q I rv ⟨_,rfl,h1,?_⟩;have e:(V.str (toString ((n:Nat):Int)))=V.str (S (digs n)):=by rw[QcA]
    rw[e];exact k _ M _ H q (Ext.refl H) m (.str _ (Q6T n))
   | _=>exact False.elim q
def rIn1(f:Bool->Bool):DR2:=λx y M Q=>match y with
 | .str z=>match x with
  | .str w=>match w with
   | [c]=>Q (.bl (f (decide (c∈z)))) M
   | _=>False
  | _=>False
 | y=>∃ xs,zaV M y=some xs/\plain 11 (res M x)=true/\xs.all (plain 11)=true/\Q (.bl (f (xs.any λd=>eqB d (res M x)))) M
open Classical in
theorem Q9U(I:Inv X pins σ H s)(m:SimM X.K M H)(hu:X.A.units+64<cLine)(hx:plain 11 (res M x)=true)(ex:Den X.K H x vx)(rx:L2.RelV vx ux)
  {xs:List D} {vs:List V} {its:List Value} (hp:xs.all (plain 11)=true) (dn:Dens X.K H xs vs) (rv:Vals vs its) :
  ∃ e:Value->Bool,(∀ y∈its,SeqAt.EqAt X.A.in1 s y ux (e y))/\its.map e=xs.map λd=>eqB d (res M x):=by
 obtain⟨⟨as,ra⟩,c1,d1⟩:=Q2E I m hx ex rx;refine⟨λy=>decide (∃ da bs,Reads s.heap y da bs/\PyData.eqv da (toPy (res M x))=true),?_,?_⟩
 ·intro y hy;have:∃ d v,d∈xs/\Den X.K H d v/\L2.RelV v y:=by
   clear hp
   induction xs generalizing vs its with
   | nil=>cases dn;cases rv;cases hy
   | cons d0 xs ih =>
    cases dn with
    | cons a t =>
     cases rv with
     | cons r1 r2 =>
      rcases Z1.mp hy with rfl | hy
      ·exact⟨_,_,Zp,a,r1⟩
      ·obtain⟨d,v,h1,h2⟩:=ih t r2 hy;exact⟨d,v,Zo _ h1,h2⟩
  obtain⟨d,v,hd,den,rr⟩:=this;have pd:plain 11 d=true:=(ZR.mp hp) d hd;obtain⟨bs,rb⟩:=Q1f I 11 d v y pd den rr;obtain⟨c2,d2⟩:=Q2C 11 d v pd den;have h:=SeqAt.eqAt_reads (toPy d) (toPy (res M x)) X.A.in1 s y ux bs as rb ra c2 c1 (by
   have:X.A.in1.units<=X.A.units+1:=by simp[Around.in1]
   have h2:min (toPy d).depth (toPy (res M x)).depth<=11:=Zr (Nat.min_le_left _ _) d2;room)
  have e:decide (∃ da bs,Reads s.heap y da bs/\PyData.eqv da (toPy (res M x))=true)=PyData.eqv (toPy d) (toPy (res M x)):=by
   cases hq:PyData.eqv (toPy d) (toPy (res M x)) with
   | true=>exact Zm ⟨_,_,rb,hq⟩
   | false =>
    refine Z7 ?_;rintro⟨da,cs,r,he⟩;have:=(Reads.unique rb _ _ r).1;rw[<- this,hq]at he;cases he
  show SeqAt.EqAt X.A.in1 s y ux (decide (∃ da bs,Reads s.heap y da bs/\PyData.eqv da (toPy (res M x))=true));rw[e];exact h
 ·induction xs generalizing vs its with
  | nil=>cases dn;cases rv;rfl
  | cons d xs ih =>
   cases dn with
   | cons a t =>
    cases rv with
    | cons r1 r2 =>
     rw[Ym,Zk]at hp;rw[ZC,ZC,ih hp.2 t r2];congr 1;obtain⟨bs,rb⟩:=Q1f I 11 _ _ _ hp.1 a r1;have be:=bEq _ (res M x) 11 11 hp.1 hx;rw[<- be];cases hq:PyData.eqv (toPy d) (toPy (res M x)) with
     | true=>exact Zm ⟨_,_,rb,hq⟩
     | false =>
      refine Z7 ?_;rintro⟨da,cs,r,he⟩;have:=(Reads.unique rb _ _ r).1;rw[<- this,hq]at he;cases he
theorem Q3e{α β:Type}{f:α->Bool}{g:β->Bool}{xs:List α}{ys:List β}(h:xs.map f=ys.map g):xs.any f=ys.any g:=by
 have e:=congrArg (List.any · id) h;simpa[any_map]using e
theorem Q9V{op:CmpOp}{f:Bool->Bool}(hu:X.A.units+64<cLine)
  (hS:∀ {z:List Nat} {c:Nat} {t u:Tok} {s:Shared} {Q:Value->Shared->Prop},Q (.bool (f (decide (c∈z)))) s->wpAny (model X.prog X.w) X.A (compareOp op (.str (S [c]) t) (.str (S z) u)) Q X.xe s)
  (hL:∀ {l:Addr} {items:Array Value} {x:Value} {s:Shared} {Q:Value->Shared->Prop} (e:Value->Bool),s.heap.IsList l items->(∀ y,y∈items->SeqAt.EqAt X.A.in1 s y x (e y))->Q (.bool (f (items.any e))) s->wpAny (model X.prog X.w) X.A (compareOp op x (.ref l)) Q X.xe s)
  (hT:∀ {l:Addr} {items:Array Value} {x:Value} {s:Shared} {Q:Value->Shared->Prop} (e:Value->Bool),s.heap.IsTuple l items->(∀ y,y∈items->SeqAt.EqAt X.A.in1 s y x (e y))->Q (.bool (f (items.any e))) s->wpAny (model X.prog X.w) X.A (compareOp op x (.ref l)) Q X.xe s):OpD X (compareOp op) (rIn1 f):=by
 rintro pins s σ H x y v u Q I rx ry ⟨dx,dy,M,R,ex,ey,m,q,k⟩;by_cases hz:∃ z,dy=.str z
 ·obtain⟨z,rfl⟩:=hz;cases ey;cases ex <;> first | exact False.elim q | skip
  rename_i hz w hw
  match w,hw,q,rx with
  | [c],hw,q,rx =>
   obtain⟨t,rfl⟩:=rx;obtain⟨t',rfl⟩:=ry;exact hS ⟨.bl _,H,I,rfl,k _ M _ H q (Ext.refl H) m (.bl _)⟩
 ·have q':∃ xs,zaV M dy=some xs/\plain 11 (res M dx)=true/\xs.all (plain 11)=true/\R (.bl (f (xs.any λd=>eqB d (res M dx)))) M:=by
   unfold rIn1 at q;split at q
   ·exact absurd ⟨_,rfl⟩ hz
   ·exact q
  obtain⟨xs,e1,h1,h2,q⟩:=q';obtain⟨p,vs,rfl,sq,d,_⟩:=Q9T m ey e1;cases ry;rcases sq with sq | sq
  ·obtain⟨its,rv,pl,hzz⟩:=I.list sq;obtain⟨e,h3,h4⟩:=Q9U I m hu h1 ex rx h2 d rv;refine hL e pl.isList (λy hy=>h3 y (by simpa using hy)) ⟨.bl _,H,I,rfl,k _ M _ H ?_ (Ext.refl H) m (.bl _)⟩
   rw[show its.toArray.any e=its.any e by simp,Q3e h4]
   exact q
  ·obtain⟨its,rv,pl,hzz⟩:=I.tuple sq;obtain⟨e,h3,h4⟩:=Q9U I m hu h1 ex rx h2 d rv;refine hT e pl (λy hy=>h3 y (by simpa using hy)) ⟨.bl _,H,I,rfl,k _ M _ H ?_ (Ext.refl H) m (.bl _)⟩
   rw[show its.toArray.any e=its.any e by simp,Q3e h4]
   exact q
theorem od_in(hu:X.A.units+64<cLine):OpD X (compareOp .In) (rIn1 id):=by
 refine Q9V hu (fun{z c t u s Q} h=>?_) (λe h1 h2 h3=>SeqAt.in_listAt e h1 h2 h3) (λe h1 h2 h3=>SeqAt.in_tupleAt e h1 h2 h3);refine in_str ?_;have:=StrLaws.found_one (S z) c;rw[Q3t]at this;have e:S [c]=⟨#[c]⟩:=rfl;rw[e,this];exact h
theorem Q8N(hu:X.A.units+64<cLine):OpD X (compareOp .NotIn) (rIn1 not):=by
 refine Q9V hu (fun{z c t u s Q} h=>?_) (λe h1 h2 h3=>SeqAt.notIn_listAt e h1 h2 h3) (λe h1 h2 h3=>SeqAt.notIn_tupleAt e h1 h2 h3);refine notIn_str ?_;have:=StrLaws.found_one (S z) c;rw[Q3t]at this;have e:S [c]=⟨#[c]⟩:=rfl;rw[e,this];exact h
end
end DL
namespace DL
open PySem PySem.Spec L2
open PyProof.Rows hiding St
open AutoSeq1 (wpAny_loadPart')
section
variable{prog:Program}{w:World}{A:Around}{E:Value->Shared->Prop}{s:Shared}
end
end DL
namespace DL
open PySem PySem.Spec L2
open PyProof.Rows hiding St
section
variable{prog:Program}{w:World}{A:Around}{E:Value->Shared->Prop}{s:Shared}
end
section
variable{prog:Program}{w:World}{A:Around}{E:Value->Shared->Prop}{s:Shared}
end
section
variable{X:Cx}{a b c e o tg:Expr}{es:List Expr}{ta tb te to:DTE}{pos p2 p apos cpos:Pos}{K:Frag}
end
section
variable{X:Cx}{a b c e tg:Expr}{es:List Expr}{ta tb te:DTE}{tt tu:DTT}{pos p2 p:Pos}{K:Frag}
theorem _root_.L2.PK.imp'(h:PK X kws t)(i:∀ σ H Q,t' σ H Q->t σ H Q):PK X kws t':=λpos pins s σ H Q I q=>h pos pins s σ H Q I (i σ H Q q)
noncomputable abbrev DKw(X:Cx)(kws:List Keyword)(t:DTA):Prop:=PK X kws (lA X.K t)
theorem QaN:DKw X [] dNil:=QbZ.imp' λσ H Q ⟨ρ,M,R,s,m,h,k⟩=>k [] M [] H h (Ext.refl H) m .nil
theorem Q8O(ha:DE X e te)(hr:DKw X kws tr):DKw X (⟨nm,e,kpos⟩::kws) (zaG te tr) :=
 (Qam ha hr).imp' λσ H Q ⟨ρ,M,R,s,m,h,k⟩=>⟨ρ,M,_,s,m,h,λd M1 v H1 h1 x1 m1 e1=>⟨ρ,M1,_,s.ext x1,m1,h1,λds M2 vs H2 h2 x2 m2 e2=>k _ M2 _ H2 h2 (x1.trans x2) m2 (.cons (e1.ext x2) e2)⟩⟩
end
noncomputable abbrev DX:=Nat->DH->Prop
noncomputable abbrev DSpX:=List D->DH->DK->DX->Prop
noncomputable abbrev CN:=Nat->Option Str
noncomputable def rowOf(c:Nat):Option Int:=if c<64 then none else some ((c / 64-1:Nat):Int)
def RowIs(c:Nat)(r:Option (Int×Addr))(H:Hp):Prop:=r.map (·.1)=rowOf c/\∀ n d,r=some (n,d)->H d=none
def AftX(K:Frag)(mg:Str->Option Value)(cn:CN)(H:Hp)(RX:DX)(R0:XC->Hp->Prop):Prop:=∀ c x u r M' H',RX c M'->cn c=some x->mg x=some u->RowIs c r H'->Ext H H'->SimM K M' H'->R0 (u,r) H'
def lX(K:Frag)(mg:Str->Option Value)(cn:CN)(RX:DX):XC->Hp->Prop:=λu H=>∃ c x M,cn c=some x/\mg x=some u.1/\RowIs c u.2 H/\SimM K M H/\RX c M
def lSpX(K:Frag)(mg:Str->Option Value)(cn:CN)(sp:DSpX):Sp:=λvs H Q E=>∃ ds M R RX,Dens K H ds vs/\SimM K M H/\sp ds M R RX/\Aft K H R Q/\AftX K mg cn H RX λu H'=>E u.1 u.2 H'
section
variable{X:Cx}{a b c e:Expr}{es:List Expr}{te:DTE}{pos p2 p np cpos:Pos}{K:Frag}{cn:CN}
end
section
variable{X:Cx}{pos:Pos}
def zaw(c:DTT)(tb:DTS):DTS:=λDD ρ M=>∃ W:Nat->DSt->DH->Prop,(∃ m,W m ρ M)/\∀ m ρ M,W m ρ M ->
 c ρ M λb M1=>if b=true then ∃ N:DSt->DH->Prop,(∀ ρ' M',N ρ' M'->∃ m',m'<m/\W m' ρ' M')/\tb { DD with nx:=N,ct:=N,bk:=DD.nx } ρ M1 else DD.nx ρ M1
theorem Q8P(hp:PassesOwn (model X.prog X.w) X.A X.env X.xe)(hc:DT X c tc)(hb:DSs X body tb):DS X (.While c body [] pos) (zaw tc tb) :=
 (Q8j hp hc hb).imp λD σ H ⟨ρ,M,DD,s,m,⟨W,⟨m0,w0⟩,turn⟩,k⟩ =>
  ⟨λn σ' H'=>∃ ρ' M',Ext H H'/\SimS X.K H' ρ' σ'/\SimM X.K M' H'/\W n ρ' M',⟨m0,ρ,M,Ext.refl H,s,m,w0⟩,by
   rintro n σ' H' ⟨ρ',M',x',s',m',w'⟩;refine⟨ρ',M',_,s',m',turn n ρ' M' w',λb M1 H1 h1 x1 m1=>?_⟩;cases b with
   | true =>
    obtain⟨N,hN,h2⟩:=(Zg rfl).mp h1;refine iteT ⟨λσ2 H2=>∃ ρ2 M2,Ext H H2/\SimS X.K H2 ρ2 σ2/\SimM X.K M2 H2/\N ρ2 M2,?_,?_⟩
    ·rintro σ2 H2 ⟨ρ2,M2,x2,s2,m2,n2⟩;obtain⟨m',hm,w2⟩:=hN ρ2 M2 n2;exact⟨m',hm,ρ2,M2,x2,s2,m2,w2⟩
    ·have xx:=x'.trans x1;exact⟨ρ',M1,_,s'.ext x1,m1,h2,⟨λρ4 M4 σ4 H4 q4 x4 s4 m4=>⟨ρ4,M4,xx.trans x4,s4,m4,q4⟩,(k.ext xx).rt,λρ4 M4 σ4 H4 q4 x4 s4 m4=>(k.ext xx).nx ρ4 M4 σ4 H4 q4 x4 s4 m4,λρ4 M4 σ4 H4 q4 x4 s4 m4=>⟨ρ4,M4,xx.trans x4,s4,m4,q4⟩⟩⟩
   | false=>exact iteF (k.nx ρ' M1 σ' H1 ((Zd Zv).mp h1) (x'.trans x1) (s'.ext x1) m1)⟩
end
section
variable{X:Cx}{K:Frag}{H:Hp}
noncomputable def zap(M:DH):D->Option (List D)
 | .lst xs=>some xs
 | .ref a=>match M a with
  | some (.lst xs)=>some xs
  | _=>none
 | _=>none
theorem Q3f(m:SimM K M H)(den:Den K H d v)(e:zap M d=some xs):∃ p vs,v=.ref p/\SqL K H p vs/\Dens K H xs vs:=by
 cases den with
 | lst sq d=>cases e;exact⟨_,_,rfl,sq.sq,d⟩
 | ref p =>
  cases qa:M p with
  | none=>simp[zap,qa]at e
  | some o =>
   cases o with
   | oth _=>erw[zap,qa]at e;cases e
   | lst ds =>
    erw[zap,qa]at e;cases e;obtain⟨vs,e2,dn⟩:=m.get qa;exact⟨_,_,rfl,.inl (.inl e2),dn⟩
 | _=>cases e
def zbm:List D->DH->DK->Prop:=λds M Q=>match ds with
 | [d]=>∃ zs:List (List Nat),zap M d=some (zs.map .str)/\zs.length<64/\∀ zs':List (List Nat),zs'.Perm zs->zs'.Pairwise (λa b=>a<=b)->∀ p,M p=none->Q (.ref p) (dupd M p (.lst (zs'.map .str)))
 | _=>False
theorem Q5h:∀ {zs:List (List Nat)} {vs:List V} {its:List Value},Dens K H (zs.map .str) vs->Vals vs its->StrsAre its (zs.map S)
 | [],_,_,.nil,.nil=>.nil
 | z::r,_,_,.cons (.str _ _) t,.cons ⟨tk,e⟩ u=>by
  subst e;exact .cons (S z) tk (Q5h t u)
theorem Q3Y:∀ {its:List Value} {ss:List Str},StrsAre its ss->Vals (ss.map .str) its
 | _,_,.nil=>.nil
 | _,_,.cons x t r=>.cons ⟨t,rfl⟩ (Q3Y r)
theorem Q6U:∀ {zs:List (List Nat)} {vs:List V},Dens K H (zs.map .str) vs->∀ z∈zs,(z.all λc=>decide (c<1114112))=true
 | [],_,_,_,h=>nomatch h
 | z::r,_,.cons (.str _ h) t,y,hy=>by
  rcases Z1.mp hy with e | e
  ·rw[e];exact h
  ·exact Q6U t y e
theorem Q5i:∀ {zs:List (List Nat)},(∀ z∈zs,(z.all λc=>decide (c<1114112))=true)->Dens K H (zs.map .str) ((zs.map S).map .str)
 | [],_=>.nil
 | z::r,h=>.cons (.str z (h z (Zp ..))) (Q5i λy hy=>h y (Zo _ hy))
theorem S_cps(x:Str):S x.cps.toList=x:=by
 cases x;rfl
theorem Q3Z:∀ (p:Str) (l:List Str),risingS p l=true->(p::l).Pairwise (λa b=>a.cps.toList<=b.cps.toList)
 | p,[],_=>Yx ..
 | p,x::r,h=>by
  have h':(!ltCps x.cps.toList p.cps.toList&&risingS x r)=true:=h;rw[Zk,not_eq_true',ltCps_eq,decide_eq_false_iff_not]at h';have ih:=Q3Z x r h'.2;refine List.pairwise_cons.mpr ⟨λy hy=>?_,ih⟩;have h1:p.cps.toList<=x.cps.toList:=h'.1;rcases Z1.mp hy with e | e
  ·rw[e];exact h1
  ·exact List.le_trans h1 ((List.pairwise_cons.mp ih).1 y e)
theorem Q6V:∀ (l:List Str),sortedS l=true->l.Pairwise (λa b=>a.cps.toList<=b.cps.toList)
 | [],_=>.nil
 | x::r,h=>Q3Z x r h
theorem Q6W:zbk X (.builtin "sorted") zbm:=by
 rintro pins s σ H xs us Q I rv ⟨ds,M,R,dn,m,q,k⟩
 match ds,dn,q with
 | [d],.cons den .nil,⟨zs,e,h64,q⟩ =>
  obtain⟨p,vs,rfl,sq,dd⟩:=Q3f m den e;obtain⟨u,rfl,rx⟩:=vals1 rv;cases rx;obtain⟨its,r',pl,hz⟩:=I.list sq;have hS:=Q5h dd r';have hlen:its.length=zs.length:=by rw[<- r'.length,<- dd.length,Zb]
  refine sorted_strs pl.isList hS (by rw[hlen];exact h64) λout ss' a1 a2 a3=>?_
  obtain⟨n,hn⟩:=sortedAll_at s.heap its out;have ez:(ss'.map λx=>x.cps.toList).map S=ss':=by
   rw[map_map]
   conv=>rhs;rw[<- map_id ss']
   exact map_congr_left λx _=>S_cps x
  have pz:(ss'.map λx=>x.cps.toList).Perm zs:=by
   have:=a2.map λx:Str=>x.cps.toList;rw[map_map]at this;have e0:zs.map ((λx:Str=>x.cps.toList) ∘ S)=zs:=by
    conv=>rhs;rw[<- map_id zs]
    exact map_congr_left λx _=>by simp[S]
   rwa [e0]at this
  have fr:H (s.heap.objs.size+1)=none:=I.hok.fresh (le_succ _);have al:∀ z∈(ss'.map λx=>x.cps.toList),(z.all λc=>decide (c<1114112))=true:=λz hz=>Q6U dd z (pz.mem_iff.mp hz);have dn':Dens X.K H ((ss'.map λx=>x.cps.toList).map .str) (ss'.map .str):=by
   have:=Q5i (K:=X.K) (H:=H) al
   rwa [ez]at this
  have hl':(ss'.map V.str).length<=sizeLine:=by
   have:=a2.length_eq;rw[Zb]at this ⊢;rw[this,<- hlen,<- r'.length];exact hz
  exact⟨.ref _,_,I.laid (t':=s.toks) (λb o e=>sortedAll_old e) (le_succ _) (show ObjOk X.prog X.w _ _ _ (.lst (ss'.map V.str)) from⟨hl',out.toList,n,Q3Y a1,hn⟩),rfl,
   k _ _ _ _ (q _ pz (List.pairwise_map.mpr (Q6V ss' a3)) _ (m.free fr)) (Ext.new fr) (m.newL fr dn') (.ref _)⟩
end
section
variable{X:Cx}
def rMulS:DR2:=λx y M Q=>match x,y with
 | .str z,.int n=>0<=n/\n<=100/\z.length<=1000/\Q (.str (List.replicate n.toNat z).flatten) M
 | _,_=>False
theorem Q5j(z:List Nat):∀ (n:Nat) (l:List Nat),(List.replicate n z.toArray).foldl (· ++ ·) l.toArray=(l++(List.replicate n z).flatten).toArray
 | 0,l=>by simp
 | n+1,l=>by
  rw[List.replicate_succ,List.foldl_cons,List.append_toArray,Q5j z n,List.replicate_succ,List.flatten_cons,List.append_assoc]
theorem QaO(z:List Nat)(n:Int)(h:0<=n):Txt.mul (S z) n=S (List.replicate n.toNat z).flatten:=by
 unfold Txt.mul;by_cases h1:n<1
 ·rw[Zg h1];have:n.toNat=0:=by room
  rw[this];rfl
 ·rw[Zd h1];split
  ·rename_i q;rw[or_eq_true,Z5,Z5]at q;rcases q with q | q
   ·subst q;simp
   ·have:z=[]:=List.length_eq_zero_iff.mp q;subst this;have:(List.replicate n.toNat ([]:List Nat)).flatten=[]:=by simp
    rw[this]
  ·have:=Q5j z n.toNat [];rw[nil_append]at this;show Str.mk _=Str.mk _;exact congrArg Str.mk this
theorem QaP:OpD X (binaryOp .Mult) rMulS:=by
 rintro pins s σ H x y v u Q I rx ry ⟨dx,dy,M,R,ex,ey,m,q,k⟩;cases ex with
 | str z hz =>
  cases ey <;> first | exact False.elim q | skip
  rename_i n;obtain⟨h0,h1,h2,q⟩:=q;obtain⟨t,rfl⟩:=rx;obtain⟨t',rfl⟩:=ry;have hlen:(S z).length=z.length:=rfl;have hmul:z.length * n.toNat<=1000 * 100:=Nat.mul_le_mul h2 (by room)
  refine SB.mul (x:=S z) (n:=n) ⟨?_,λa b=>?_,λa b=>?_⟩ λt' k'=>?_
  ·rw[Bool.or_eq_false_iff,decide_eq_false_iff_not,decide_eq_false_iff_not];room
  ·rw[hlen];have:(1000:Int)<=(2 ^ 63-1) / n:=by
    refine (Int.le_ediv_iff_mul_le (by room)).mpr ?_
    room
   room
  ·rw[hlen];show decide (z.length * n.toNat > sizeLine)=false;rw[decide_eq_false_iff_not,ZY];room
  ·rw[QaO z n h0];refine⟨.str _,H,I.tok _,⟨_,rfl⟩,k _ M _ H q (Ext.refl H) m (.str _ ?_)⟩;rw[ZR]at hz ⊢;intro c hc;obtain⟨w,hw,hcw⟩:=List.mem_flatten.mp hc;exact hz c (by rw[List.eq_of_mem_replicate hw]at hcw;exact hcw)
 | _=>exact False.elim (by cases dy <;> exact q)
end
section
variable{l:Addr}{dd:Option Addr}{xs:Array Value}{n:Nat}{sl:Array (Option Value)}
end
section
variable{X:Cx}
end
section
variable{X:Cx}{pos p p2 p3 cpos np:Pos}{cn:CN}{e:Expr}{es:List Expr}
def dIsE(je:Nat)(a:Addr)(b:Bool):DTE:=λρ M Q=>dVar je ρ M λd M1=>d=.ref a/\Q (.bl b) M1
end
section
variable{X:Cx}
end
section
variable{X:Cx}{e:Expr}{es:List Expr}{pos p np cpos:Pos}{cn:CN}
end
section
variable{α:Type}
noncomputable def valD(kvs:List (List (List Nat)×D))(k:List (List Nat)):Option D:=(kvs.find? λkv=>decide (kv.1=k)).map (·.2)
noncomputable def putD(kvs:List (List (List Nat)×D))(k:List (List Nat))(v:D):List (List (List Nat)×D) :=
 if (kvs.any λkv=>decide (kv.1=k))=true then kvs.map (λkv=>if kv.1=k then (kv.1,v) else kv) else kvs++[(k,v)]
theorem Q0v(e:p.1=k):valD (p::r) k=some p.2:=by simp[valD,find?_cons,e]
theorem Q0w(e:¬ p.1=k):valD (p::r) k=valD r k:=by simp[valD,find?_cons,e]
theorem Q1x(k:List (List Nat)):∀ kvs:List (List (List Nat)×D),(kvs.any λkv=>decide (kv.1=k))=(valD kvs k).isSome
 | []=>rfl
 | p::r=>by
  rw[any_cons];by_cases e:p.1=k
  ·erw[Q0v e,Zm e,Bool.true_or,Option.isSome_some]
  ·rw[Q0w e,Z7 e,Bool.false_or];exact Q1x k r
theorem Q5k(k j:List (List Nat))(y:D):∀ kvs:List (List (List Nat)×D),valD (kvs.map λkv=>if kv.1=k then (kv.1,y) else kv) j=(valD kvs j).map λx=>if j=k then y else x
 | []=>rfl
 | p::r=>by
  have ih:=Q5k k j y r;rw[ZC];by_cases h:p.1=k
  ·rw[Zg h];by_cases e:p.1=j
   ·rw[Q0v (p:=(p.1,y)) e,Q0v e,ZW,Zg (e.symm.trans h)]
   ·rw[Q0w (p:=(p.1,y)) e,Q0w e,ih]
  ·rw[Zd h];by_cases e:p.1=j
   ·rw[Q0v (p:=p) e,Q0v e,ZW,Zd (λz=>h (e.trans z))]
   ·rw[Q0w (p:=p) e,Q0w e,ih]
theorem Q4a(k j:List (List Nat))(y:D):∀ kvs:List (List (List Nat)×D),valD kvs k=none->valD (kvs++[(k,y)]) j=if j=k then some y else valD kvs j
 | [],_=>by
  by_cases e:k=j
  ·rw[Zg e.symm];exact Q0v (p:=(k,y)) e
  ·rw[Zd (λz=>e z.symm)];exact Q0w (p:=(k,y)) e
 | p::r,hn=>by
  rw[cons_append];have hk:¬ p.1=k:=λz=>by rw[Q0v z]at hn;cases hn
  rw[Q0w hk]at hn;have ih:=Q4a k j y r hn;by_cases e:p.1=j
  ·rw[Q0v e,Q0v e,Zd (λz=>hk (e.trans z))]
  ·rw[Q0w e,Q0w e,ih]
theorem Q0y(kvs:List (List (List Nat)×D))(k j:List (List Nat))(y:D):valD (putD kvs k y) j=if j=k then some y else valD kvs j:=by
 unfold putD;by_cases a:(kvs.any λkv=>decide (kv.1=k))=true
 ·rw[Zg a,Q5k];rw[Q1x]at a;by_cases e:j=k
  ·obtain⟨x,hx⟩:=Z3.mp a;rw[Zg e,e,hx,ZW,Zg rfl]
  ·rw[Zd e];cases valD kvs j with
   | none=>rfl
   | some x=>rw[ZW,Zd e]
 ·rw[Zd a];refine Q4a k j y kvs ?_;rw[Q1x]at a;cases q:valD kvs k with
  | none=>rfl
  | some x=>rw[q]at a;exact (a rfl).elim
theorem Q1J(kvs:List (List (List Nat)×D))(k:List (List Nat))(v:D):(putD kvs k v).length<=kvs.length+1:=by
 unfold putD;split
 ·rw[Zb];room
 ·rw[Zl,Zw,ZH];room
end
theorem Q6X:∀ {a b:List (List Nat)},nk a=nk b->a=b
 | [],[],_=>rfl
 | [],_::_,e=>by simp[nk]at e
 | _::_,[],e=>by simp[nk]at e
 | x::xs,y::ys,e=>by
  have e':(Sum.inr (S x):Key)::nk xs=Sum.inr (S y)::nk ys:=e;injection e' with e1 e2;injection e1 with e1;rw[S_inj e1,Q6X e2]
section
variable{K:Frag}{H:Hp}
theorem Q4b:∀ {n:List (List Nat)} {vs:List V},Dens K H (n.map .str) vs->vs=(nk n).map kV
 | [],_,h=>by cases h;rfl
 | x::r,_,h=>by
  cases h with
  | cons h1 h2 =>
   cases h1;rw[Q4b h2];rfl
theorem KDs.val(r:KDs K H kvs vs)(k:List (List Nat)) :
  (valD kvs k=none/\valV vs (nk k)=none)\/∃ d v,valD kvs k=some d/\valV vs (nk k)=some v/\Den K H d v:=by
 induction r with
 | nil=>exact .inl ⟨rfl,rfl⟩
 | @cons p q ps qs h t ih =>
  by_cases e:p.1=k
  ·exact .inr ⟨p.2,q.2,Q0v e,Q1O (by rw[h.1,e]),h.2⟩
  ·rw[Q0w e,Q1P (by rw[h.1];exact λz=>e (Q6X z))];exact ih
theorem KDs.put(r:KDs K H kvs vs)(k:List (List Nat))(den:Den K H d v):KDs K H (putD kvs k d) (putK vs (nk k) v):=by
 have an:(kvs.any λkv=>decide (kv.1=k))=vs.any λkv=>decide (kv.1=nk k):=by
  rw[Q1x,Q2m];rcases r.val k with ⟨a,b⟩ | ⟨x,y,a,b,_⟩ <;> rw[a,b] <;> rfl
 unfold putD putK;rw[an];by_cases e:(vs.any λkv=>decide (kv.1=nk k))=true
 ·rw[Zg e,Zg e];clear an e
  induction r with
  | nil=>exact .nil
  | @cons p q ps qs h t ih =>
   rw[ZC,ZC];refine .cons ?_ ih;by_cases e:p.1=k
   ·rw[Zg e,Zg (by rw[h.1,e])];exact⟨h.1,den⟩
   ·rw[Zd e,Zd (by rw[h.1];exact λz=>e (Q6X z))];exact h
 ·rw[Zd e,Zd e];exact Paired.snoc r ⟨rfl,den⟩
theorem KDs.length(r:KDs K H kvs vs):kvs.length=vs.length:=ZT r
noncomputable def zaC(f:Str)(v:D):List (Str×D)->List (Str×D)
 | []=>[(f,v)]
 | (g,x)::r=>if g=f then (g,v)::r else (g,x)::zaC f v r
theorem FDs.lookup(r:FDs K H fs vs)(e:fs.lookup f=some d):∃ v,vs.lookup f=some v/\Den K H d v:=by
 induction r with
 | nil=>cases e
 | @cons p q ps qs h t ih =>
  obtain⟨p1,p2⟩:=p;obtain⟨q1,q2⟩:=q;obtain⟨h1,h2⟩:=h;cases h1;rw[ZP]at e ⊢;cases c:f==p1 with
  | true=>rw[c]at e;cases e;exact⟨q2,rfl,h2⟩
  | false=>rw[c]at e;exact ih e
theorem FDs.no(r:FDs K H fs vs)(e:fs.lookup f=none):vs.lookup f=none:=by
 induction r with
 | nil=>rfl
 | @cons p q ps qs h t ih =>
  obtain⟨p1,p2⟩:=p;obtain⟨q1,q2⟩:=q;obtain⟨h1,h2⟩:=h;cases h1;rw[ZP]at e ⊢;cases c:f==p1 with
  | true=>rw[c]at e;cases e
  | false=>rw[c]at e;exact ih e
theorem FDs.put(r:FDs K H fs vs)(f:Str)(den:Den K H d v):FDs K H (zaC f d fs) (putF f v vs):=by
 induction r with
 | nil=>exact .cons ⟨rfl,den⟩ .nil
 | @cons p q ps qs h t ih =>
  obtain⟨p1,p2⟩:=p;obtain⟨q1,q2⟩:=q;obtain⟨h1,h2⟩:=h;cases h1;show FDs K H (if p1=f then (p1,d)::ps else (p1,p2)::zaC f d ps) (if p1=f then (p1,v)::qs else (p1,q2)::putF f v qs)
  by_cases e:p1=f
  ·rw[Zg e,Zg e];exact .cons ⟨rfl,den⟩ t
  ·rw[Zd e,Zd e];exact .cons ⟨rfl,h2⟩ ih
theorem FDs.length(r:FDs K H fs vs):fs.length=vs.length:=ZT r
end
theorem SimM.dct{K:Frag}{H:Hp}{M:DH}(h:SimM K M H){a:Addr}{kvs:List (List (List Nat)×D)}(e:M a=some (.oth (.dct kvs))):∃ vs,H a=some (.dT vs)/\KDs K H kvs vs:=h a _ e
theorem SimM.ins{K:Frag}{H:Hp}{M:DH}(h:SimM K M H){a:Addr}{c:Str}{fs:List (Str×D)}(e:M a=some (.oth (.ins c fs))):∃ C dx vs,nsIn K mainGlobals c=some (some (.ref C))/\H a=some (.ins C dx vs)/\FDs K H fs vs:=h a _ e
theorem Q0T{K:Frag}{H:Hp}{n:List (List Nat)}{v:V}(h:Den K H (.tup (n.map .str)) v):∃ b,v=.ref b/\H b=some (.tup ((nk n).map kV)):=by
 cases h with
 | tup q r=>exact⟨_,rfl,by rw[<- Q4b r];exact q⟩
section
variable{X:Cx}{e o value a b k:Expr}{es:List Expr}{pos pos' apos cpos p:Pos}{te tv tk td:DTE}{t:DTA}
def dFld(c f:Str)(te:DTE):DTE:=λρ M Q=>te ρ M λx M1=>∃ a fs d,x=.ref a/\M1 a=some (.oth (.ins c fs))/\fs.lookup f=some d/\Q d M1
theorem QcC(hC:nsIn X.K mainGlobals c=some (some (.ref C)))(hc:Cls X.K C)(hn:NoAttr X.K C f)(he:DE X e te)(hb:attributeBase e f X.env (eval e X.env)=eval e X.env):DE X (.Attribute e f pos) (dFld c f te) :=
 (QbW he hb).imp λσ H Q ⟨ρ,M,R,s,m,h,k⟩=>⟨ρ,M,_,s,m,h,λd M1 v H1 ⟨a,fs,d',e1,e2,e3,h1⟩ x1 m1 den=>by
  subst e1;cases den;obtain⟨C',dx,vs,g1,g2,g3⟩:=m1.ins e2;rw[hC]at g1;cases g1;obtain⟨v,l1,l2⟩:=FDs.lookup g3 e3;exact⟨a,C,dx,vs,v,rfl,g2,hc,hn,l1,k _ M1 _ _ h1 x1 m1 l2⟩⟩
def dSetF(c f:Str)(to tv:DTE):DTS:=λDD ρ M=>tv ρ M λy M1=>to ρ M1 λx M2=>∃ a fs,x=.ref a/\M2 a=some (.oth (.ins c fs))/\fs.length<1000/\DD.nx ρ (dupd M2 a (.oth (.ins c (zaC f y fs))))
theorem QaQ(hC:nsIn X.K mainGlobals c=some (some (.ref C)))(hc:Cls X.K C)(hn:NoAttr X.K C f)(ho:DE X o to)(hv:DE X value tv)
  (hs:swapsWith value (some (.Attribute o f pos')) pos.line X.env=pure false):DS X (.Assign [.Attribute o f pos'] value pos) (dSetF c f to tv) :=
 (QbX ho hv hs).imp λD σ H ⟨ρ,M,DD,s,m,h,k⟩=>⟨ρ,M,_,s,m,h,λy M1 yv H1 h1 x1 m1 dy=>⟨ρ,M1,_,s.ext x1,m1,h1,λx M2 xv H2 ⟨a,fs,e1,e2,e3,h2⟩ x2 m2 dx'=>by
  subst e1;cases dx';obtain⟨C',dx,vs,g1,g2,g3⟩:=m2.ins e2;rw[hC]at g1;cases g1;have xx:Ext H2 (upd H2 a (.ins C dx (putF f yv vs))):=Ext.mut g2 (λ_ z=>nomatch z) (λ_ _ z=>nomatch z)
  exact⟨a,C,dx,vs,rfl,g2,hc,hn,by rw[<- g3.length];exact e3,k.nx ρ _ σ _ h2 ((x1.trans x2).trans xx) ((s.ext (x1.trans x2)).ext xx)
   (m2.put xx ⟨C,dx,_,hC,Q0g,Paired.mapP (g3.put f (dy.ext x2)) λp q z=>⟨z.1,Den.ext xx z.2⟩⟩)⟩⟩⟩
def zbo(c m:Str)(sp:DSp)(to:DTE)(t:DTA):DTE:=λρ M Q=>to ρ M λx M1=>∃ a fs,x=.ref a/\M1 a=some (.oth (.ins c fs))/\fs.lookup m=none/\t ρ M1 λds M2=>sp (.ref a::ds) M2 Q
theorem Q8Q{c m:Str}{C:Addr}{sp:DSp}{to:DTE}{E:XK}{K:Frag}(hC:nsIn K mainGlobals c=some (some (.ref C))){σ:St}{H:Hp}{Q:VK}(h:lE K (zbo c m sp to t) σ H Q) :
  tMeth C m (lSp K sp) [] E (lE K to) (lA K t) σ H Q:=by
 obtain⟨ρ,M,R,s,mm,h,k⟩:=h;refine⟨ρ,M,_,s,mm,h,λx M1 xv H1 ⟨a,fs,e1,e2,e3,h1⟩ x1 m1 den=>?_⟩;subst e1;cases den;obtain⟨C',dx,vs,g1,g2,g3⟩:=m1.ins e2;rw[hC]at g1;cases g1;refine⟨a,dx,vs,rfl,g2,g3.no e3,ρ,M1,_,s.ext x1,m1,h1,λds M2 ws H2 h2 x2 m2 dn=>?_⟩;refine⟨.ref a::ds,M2,R,?_,m2,h2,k.ext (x1.trans x2)⟩;rw[Y2];exact .cons (.ref a) dn
theorem QaR(hC:nsIn X.K mainGlobals c=some (some (.ref C)))(hc:Cls X.K C)(hm:Meth X.K C m f)
  (F:FnOk X.prog X.w X.K X.mg X.base CX kk f fd ps (lSp X.K sp)) (hr:Room kk X.A) (hb:Binds X.K fd ps []) (hx:zay CX X E) (ho:DE X o to) (ha:DA X (e::es) t)
  (hst:starEach (e::es) X.env=(false,eval e X.env)::starEach es X.env) (hpl:(backTo pos (starEach es X.env)).any (·.1)=false)
  (ht:eval (.Call (.Attribute o m apos) (e::es) [] pos) X.env=(do
   let ov <- eval o X.env
   standAt apos.atName
   let (f,first) <- holding [ov] (getMethod ov m pl)
   callWith pos f first (backTo pos (starEach (e::es) X.env)) (backToKw pos (keywordEach [] X.env)))):DE X (.Call (.Attribute o m apos) (e::es) [] pos) (zbo c m sp to t) :=
 (Qak ho hc hm F hr hb .nil hx ha hst hpl ht).imp λσ H Q h=>Q8Q hC h
theorem Q8R(hC:nsIn X.K mainGlobals c=some (some (.ref C)))(hc:Cls X.K C)(hm:Meth X.K C m f)
  (F:FnOk X.prog X.w X.K X.mg X.base CX kk f fd ps (lSp X.K sp)) (hr:Room kk X.A) (hb:Binds X.K fd ps []) (hx:zay CX X E) (ho:DE X o to)
  (ht:eval (.Call (.Attribute o m apos) [] [] pos) X.env=(do
   let ov <- eval o X.env
   standAt apos.atName
   let (f,first) <- holding [ov] (getMethod ov m pl)
   callWith pos f first (backTo pos (starEach [] X.env)) (backToKw pos (keywordEach [] X.env)))):DE X (.Call (.Attribute o m apos) [] [] pos) (zbo c m sp to dNil) :=
 (Q8o ho hc hm F hr hb .nil hx ht).imp λσ H Q h=>by
  obtain⟨ρ,M,R,s,mm,h,k⟩:=h;refine⟨ρ,M,_,s,mm,h,λx M1 xv H1 ⟨a,fs,e1,e2,e3,h1⟩ x1 m1 den=>?_⟩;subst e1;cases den;obtain⟨C',dx,vs,g1,g2,g3⟩:=m1.ins e2;rw[hC]at g1;cases g1;exact⟨a,dx,vs,rfl,g2,g3.no e3,.ref a::[],M1,R,.cons (.ref a) .nil,m1,h1,k.ext x1⟩
def zbS(c:Str)(sp:DSp)(t:DTA):DTE:=λρ M Q=>t ρ M λds M1=>∀ x,M1 x=none->sp (.ref x::ds) (dupd M1 x (.oth (.ins c []))) λd M2=>d=.non/\Q (.ref x) M2
theorem QaS(hC:nsIn X.K mainGlobals c=some (some (.ref C)))(MK:Mk X.K C f)
  (F:FnOk X.prog X.w X.K X.mg X.base CX kk f fd ps (lSp X.K sp)) (hr:Room (kk+1) X.A) (hg:Gl X c) (hm:X.mg c=some (.ref C)) (hb:Binds X.K fd ps []) (hx:zay CX X E) (ha:DA X (e::es) t) (hdb:(c==("__debug__" : Str))=false)
  (he:starEach (e::es) X.env=(false,eval e X.env)::starEach es X.env) (hpl:(backTo pos (starEach es X.env)).any (·.1)=false):DE X (.Call (.Name c p) (e::es) [] pos) (zbS c sp t) :=
 (Qal MK F hr hg hm hb .nil hx ha hdb he hpl).imp λσ H Q ⟨ρ,M,R,s,m,h,k⟩=>⟨ρ,M,_,s,m,h,λds M1 vs H1 h1 x1 m1 dn x dx hx hd hne=>by
  have n1:upd H1 dx (.own x) x=none:=by rw[Q0d hne.symm];exact hx
  have y1:Ext H1 (upd H1 dx (.own x)):=Ext.new hd;have y2:Ext (upd H1 dx (.own x)) (upd (upd H1 dx (.own x)) x (.ins C dx [])):=Ext.new n1;refine⟨.ref x::ds,dupd M1 x (.oth (.ins c [])),_,?_,(m1.new hd).put y2 ⟨C,dx,[],hC,Q0g,.nil⟩,h1 x (m1.free hx),λd M2 v H2 ⟨e2,h2⟩ x2 m2 den=>?_⟩
  ·rw[Y2];exact .cons (.ref x) ((dn.ext y1).ext y2)
  ·subst e2;cases den;exact⟨rfl,k _ M2 _ _ h2 (((x1.trans y1).trans y2).trans x2) m2 (.ref x)⟩⟩
def zbU:DTE:=λ_ M Q=>∀ q,M q=none->Q (.ref q) (dupd M q (.oth (.dct [])))
theorem QaT:DE X (.Dict [] [] pos) zbU :=
 Q8z.imp λσ H Q ⟨ρ,M,R,s,m,h,k⟩ q hq=>k _ _ _ _ (h q (m.free hq)) (Ext.new hq) (m.put (u:=.oth (.dct [])) (Ext.new hq) ⟨[],Q0g,.nil⟩) (.ref q)
def zbc(tk tv:DTE):DTE:=λρ M Q=>∀ q,M q=none->tk ρ (dupd M q (.oth (.dct []))) λx M1=>tv ρ M1 λy M2=>∃ n:List (List Nat),x=.tup (n.map .str)/\M2 q=some (.oth (.dct []))/\Q (.ref q) (dupd M2 q (.oth (.dct [(n,y)])))
theorem Q8S(hu:X.A.units+1<cLine)(hk:DE X k tk)(hv:DE X value tv):DE X (.Dict [some k] [value] pos) (zbc tk tv) :=
 (Q8C hu hk hv).imp λσ H Q ⟨ρ,M,R,s,m,h,k⟩ q hq=>⟨ρ,_,_,s.ext (Ext.new hq),m.put (u:=.oth (.dct [])) (Ext.new hq) ⟨[],Q0g,.nil⟩,h q (m.free hq),λx M1 xv H1 h1 x1 m1 dx=>⟨ρ,M1,_,(s.ext (Ext.new hq)).ext x1,m1,h1,λy M2 yv H2 ⟨n,e1,e2,h2⟩ x2 m2 dy=>by
  subst e1;obtain⟨b,rfl,eb⟩:=Q0T (dx.ext x2);obtain⟨vs,g1,g2⟩:=m2.dct e2;cases g2;have xx:Ext H2 (upd H2 q (.dT [(nk n,yv)])):=Ext.mut g1 (λ_ z=>nomatch z) (λ_ _ z=>nomatch z)
  exact⟨nk n,b,rfl,eb,g1,k _ _ _ _ h2 ((((Ext.new hq).trans x1).trans x2).trans xx) (m2.put xx ⟨_,Q0g,.cons ⟨rfl,dy.ext xx⟩ .nil⟩) (.ref q)⟩⟩⟩
def rInD(f:Bool->Bool):DR2:=λx y M Q=>∃ (n:List (List Nat)) (a:Addr) (kvs:List (List (List Nat)×D)),x=.tup (n.map .str)/\y=.ref a/\M a=some (.oth (.dct kvs))/\Q (.bl (f (valD kvs n).isSome)) M
theorem Q3u{K:Frag}{H:Hp}{kvs:List (List (List Nat)×D)}{vs:List (List Key×V)}(r:KDs K H kvs vs)(n:List (List Nat)):(valV vs (nk n)).isSome=(valD kvs n).isSome:=by
 rcases r.val n with ⟨q1,q2⟩ | ⟨d,v,q1,q2,_⟩ <;> rw[q1,q2] <;> rfl
theorem Q9W(hu:X.A.units+1<cLine):OpD X (compareOp .In) (rInD id):=by
 rintro pins s σ H x y v u Q I rx ry ⟨dx,dy,M,R,ex,ey,m,⟨n,a,kvs,e1,e2,e3,q⟩,k⟩;subst e1 e2;obtain⟨b,rfl,eb⟩:=Q0T ex;cases ey;obtain⟨vs,g1,g2⟩:=m.dct e3;cases ry;refine d_in hu I (DGet.t g1 eb) rx λs' I'=>⟨.bl (valV vs (nk n)).isSome,H,I',rfl,?_⟩;rw[Q3u g2];exact k _ M _ H q (Ext.refl H) m (.bl _)
theorem QaU(hu:X.A.units+1<cLine):OpD X (compareOp .NotIn) (rInD not):=by
 rintro pins s σ H x y v u Q I rx ry ⟨dx,dy,M,R,ex,ey,m,⟨n,a,kvs,e1,e2,e3,q⟩,k⟩;subst e1 e2;obtain⟨b,rfl,eb⟩:=Q0T ex;cases ey;obtain⟨vs,g1,g2⟩:=m.dct e3;cases ry;refine Q6D hu I (DGet.t g1 eb) rx λs' I'=>⟨.bl (!(valV vs (nk n)).isSome),H,I',rfl,?_⟩;rw[Q3u g2];exact k _ M _ H q (Ext.refl H) m (.bl _)
def rDIx:DR2:=λx y M Q=>∃ (n:List (List Nat)) (a:Addr) (kvs:List (List (List Nat)×D)) (d:D),y=.tup (n.map .str)/\x=.ref a/\M a=some (.oth (.dct kvs))/\valD kvs n=some d/\Q d M
theorem QcD(hu:X.A.units+1<cLine)(hd:DE X o td)(hk:DE X k tk)(hs:NoSl k):DE X (.Subscript o k pos) (dOp rDIx td tk) :=
 (Q6F hu hd hk hs).imp λσ H Q ⟨ρ,M,R,s,m,h,k⟩=>⟨ρ,M,_,s,m,h,λx M1 xv H1 h1 x1 m1 dx=>⟨ρ,M1,_,s.ext x1,m1,h1,λy M2 yv H2 ⟨n,a,kvs,d,e1,e2,e3,e4,h2⟩ x2 m2 dy=>by
  subst e1 e2;obtain⟨b,rfl,eb⟩:=Q0T dy;cases dx;obtain⟨vs,g1,g2⟩:=m2.dct e3;rcases g2.val n with ⟨q1,q2⟩ | ⟨d',v,q1,q2,q3⟩
  ·rw[q1]at e4;cases e4
  ·rw[q1]at e4;cases e4;refine⟨a,v,rfl,?_,k _ M2 _ _ h2 (x1.trans x2) m2 q3⟩;rw[<- q2];exact DGet.t g1 eb⟩⟩
def zbe(td tk tx:DTE):DTE:=λρ M Q=>td ρ M λx M1=>∃ (a:Addr) (kvs0:List (List (List Nat)×D)),x=.ref a/\M1 a=some (.oth (.dct kvs0))/\tk ρ M1 λy M2=>tx ρ M2 λz M3=>∃ (n:List (List Nat)) (kvs:List (List (List Nat)×D)),y=.tup (n.map .str)/\M3 a=some (.oth (.dct kvs))/\Q ((valD kvs n).getD z) M3
theorem Q8T{f:Expr}{tx:DTE}(hu:X.A.units+1<cLine)(hd:DE X o td)(hk:DE X k tk)(hf:DE X f tx)(m2:M2 X o "get" apos k f cpos):DE X (.Call (.Attribute o "get" apos) [k,f] [] cpos) (zbe td tk tx) :=
 (Q5e hu hd hk hf m2).imp λσ H Q ⟨ρ,M,R,s,m,h,k⟩=>⟨ρ,M,_,s,m,h,λx M1 xv H1 ⟨a,kvs0,e1,e2,h1⟩ x1 m1 dx=>by
  subst e1;cases dx;obtain⟨vs0,g1,_⟩:=m1.dct e2;refine⟨a,rfl,.inr ⟨vs0,.inl g1⟩,ρ,M1,_,s.ext x1,m1,h1,λy M2 yv H2 h2 x2 m2 dy=>⟨ρ,M2,_,(s.ext x1).ext x2,m2,h2,λz M3 zv H3 ⟨n,kvs,e3,e4,h3⟩ x3 m3 dz=>?_⟩⟩;subst e3;obtain⟨b,rfl,eb⟩:=Q0T (dy.ext x3);obtain⟨vs,g3,g4⟩:=m3.dct e4;refine⟨_,DGet.t g3 eb,?_⟩;have xx:=(x1.trans x2).trans x3;rcases g4.val n with ⟨q1,q2⟩ | ⟨d',v,q1,q2,q3⟩
  ·rw[q2];rw[q1]at h3;exact k _ M3 _ _ h3 xx m3 dz
  ·rw[q2];rw[q1]at h3;exact k _ M3 _ _ h3 xx m3 q3⟩
def zbd(td tk tx:DTE):DTE:=λρ M Q=>td ρ M λx M1=>∃ (a:Addr) (kvs0:List (List (List Nat)×D)),x=.ref a/\M1 a=some (.oth (.dct kvs0))/\tk ρ M1 λy M2=>tx ρ M2 λz M3=>∃ (n:List (List Nat)) (kvs:List (List (List Nat)×D)),y=.tup (n.map .str)/\M3 a=some (.oth (.dct kvs))/\kvs.length<sizeLine /\
 (∀ d,valD kvs n=some d->Q d M3)/\(valD kvs n=none->Q z (dupd M3 a (.oth (.dct (putD kvs n z)))))
theorem Q8U{f:Expr}{tx:DTE}(hu:X.A.units+1<cLine)(hd:DE X o td)(hk:DE X k tk)(hf:DE X f tx)(m2:M2 X o "setdefault" apos k f cpos):DE X (.Call (.Attribute o "setdefault" apos) [k,f] [] cpos) (zbd td tk tx) :=
 (Q8B hu hd hk hf m2).imp λσ H Q ⟨ρ,M,R,s,m,h,k⟩=>⟨ρ,M,_,s,m,h,λx M1 xv H1 ⟨a,kvs0,e1,e2,h1⟩ x1 m1 dx=>by
  subst e1;cases dx;obtain⟨vs0,g1,_⟩:=m1.dct e2;refine⟨a,rfl,.inr ⟨vs0,.inl g1⟩,ρ,M1,_,s.ext x1,m1,h1,λy M2 yv H2 h2 x2 m2 dy=>⟨ρ,M2,_,(s.ext x1).ext x2,m2,h2,λz M3 zv H3 ⟨n,kvs,e3,e4,e5,h3,h4⟩ x3 m3 dz=>?_⟩⟩;subst e3;obtain⟨b,rfl,eb⟩:=Q0T (dy.ext x3);obtain⟨vs,g3,g4⟩:=m3.dct e4;have xx:=(x1.trans x2).trans x3;refine⟨vs,nk n,b,g3,rfl,eb,by rw[<- g4.length];exact e5,λv hv=>?_,λhv=>?_⟩
  ·rcases g4.val n with ⟨q1,q2⟩ | ⟨d',v',q1,q2,q3⟩
   ·rw[q2]at hv;cases hv
   ·rw[q2]at hv;cases hv;exact k _ M3 _ _ (h3 d' q1) xx m3 q3
  ·rcases g4.val n with ⟨q1,q2⟩ | ⟨d',v',q1,q2,q3⟩
   ·have y:Ext H3 (upd H3 a (.dT (putK vs (nk n) zv))):=Ext.mut g3 (λ_ z=>nomatch z) (λ_ _ z=>nomatch z)
    exact k _ _ _ _ (h4 q1) (xx.trans y) (m3.put y ⟨_,Q0g,Paired.mapP (g4.put n dz) λp q z=>⟨z.1,Den.ext y z.2⟩⟩) (dz.ext y)
   ·rw[q2]at hv;cases hv⟩
def dDPut(td tk tv:DTE):DTS:=λDD ρ M=>tv ρ M λv M1=>td ρ M1 λx M2=>tk ρ M2 λy M3=>∃ (a:Addr) (n:List (List Nat)) (kvs:List (List (List Nat)×D)),x=.ref a/\y=.tup (n.map .str)/\M3 a=some (.oth (.dct kvs))/\kvs.length<sizeLine/\DD.nx ρ (dupd M3 a (.oth (.dct (putD kvs n v))))
theorem QaV(hu:X.A.units+1<cLine)(hd:DE X o td)(hk:DE X k tk)(hv:DE X value tv)(hs:swapsWith value (some (.Subscript o k pos')) pos.line X.env=pure false):DS X (.Assign [.Subscript o k pos'] value pos) (dDPut td tk tv) :=
 (Q6G hu hd hk hv hs).imp λD σ H ⟨ρ,M,DD,s,m,h,k⟩=>⟨ρ,M,_,s,m,h,λv M1 vv H1 h1 x1 m1 dv=>⟨ρ,M1,_,s.ext x1,m1,h1,λx M2 xv H2 h2 x2 m2 dx=>⟨ρ,M2,_,(s.ext x1).ext x2,m2,h2,λy M3 yv H3 ⟨a,n,kvs,e1,e2,e3,e4,h3⟩ x3 m3 dy=>by
  subst e1 e2;cases dx;obtain⟨b,rfl,eb⟩:=Q0T dy;obtain⟨vs,g1,g2⟩:=m3.dct e3;have y:Ext H3 (upd H3 a (.dT (putK vs (nk n) vv))):=Ext.mut g1 (λ_ z=>nomatch z) (λ_ _ z=>nomatch z)
  have xx:=(x1.trans x2).trans x3;exact⟨a,_,rfl,DPut.t g1 eb (by rw[<- g2.length];exact e4),k.nx ρ _ σ _ h3 (xx.trans y) ((s.ext xx).ext y) (m3.put y ⟨_,Q0g,Paired.mapP (g2.put n ((dv.ext x2).ext x3)) λp q z=>⟨z.1,Den.ext y z.2⟩⟩)⟩⟩⟩⟩
end
section
variable{X:Cx}
def rAddL:DR2:=λx y M Q=>∃ xs ys,zap M x=some xs/\zap M y=some ys/\xs.length+ys.length<=sizeLine/\∀ p,M p=none->Q (.ref p) (dupd M p (.lst (xs++ys)))
theorem QaW:OpD X (binaryOp .Add) rAddL:=by
 rintro pins s σ H x y v u Q I rx ry ⟨dx,dy,M,R,ex,ey,m,⟨xs,ys,e1,e2,hz,q⟩,k⟩;obtain⟨a,vs,rfl,sq,d1⟩:=Q3f m ex e1;obtain⟨b,ws,rfl,sq2,d2⟩:=Q3f m ey e2;cases rx;cases ry;obtain⟨its,r1,pl1,_⟩:=I.list sq;obtain⟨its2,r2,pl2,_⟩:=I.list sq2;have l1:=d1.length;have l2:=d2.length;have l3:=r1.length;have l4:=r2.length;obtain⟨⟨cls,dd,data,sl⟩,ho,hc,n,hd⟩:=pl1.isList;obtain⟨⟨cls2,dd2,data2,sl2⟩,ho2,hc2,n2,hd2⟩:=pl2.isList;simp only at hc hd hc2 hd2;subst hc hd hc2 hd2;have e:its.toArray++its2.toArray=(its++its2).toArray:=by simp
 refine concat_meets ⟨_,ho,rfl⟩ ⟨_,ho2,rfl⟩ noFill_list_add seq_list_add PySem.F.slot_list_add PySem.F.entry_list_add (PySem.F.args_list_add_2 _ _) (list_addW a b its.toArray its2.toArray n n2 dd dd2 sl sl2 (by erw[ZF];rw[<- l3,<- l4,<- l1,<- l2];exact hz)) ⟨ho,ho2,?_⟩
 rw[e];exact⟨.ref _,_,I.lnew (t':=s.toks) (r1.append r2) (by rw[Zl,<- l1,<- l2];exact hz),rfl,k _ _ _ _ (q _ (m.free I.fresh)) (Ext.new I.fresh) (m.newL I.fresh (d1.append d2)) (.ref _)⟩
theorem Q5l{K:Frag}{H:Hp}:∀ {ns:List Int} {vs:List V},Dens K H (ns.map D.int) vs->vs=ns.map V.int
 | [],_,h=>by cases h;rfl
 | n::r,_,h=>by
  cases h with
  | cons h1 h2=>cases h1;rw[Q5l h2];rfl
def rMin1:List D->DH->DK->Prop:=λds M Q=>match ds with
 | [d]=>∃ ns:List Int,zap M d=some (ns.map .int)/\0<ns.length/\∀ z:Int,z∈ns->(∀ a∈ns,z<=a)->Q (.int z) M
 | _=>False
theorem QaX(hc:X.calm=true):zbk X (.builtin "min") rMin1:=by
 rintro pins s σ H xs us Q I rv ⟨ds,M,R,dn,m,q,k⟩
 match ds,dn,q with
 | [d],.cons den .nil,⟨ns,e,h0,q⟩ =>
  obtain⟨p,vs,rfl,sq,dd⟩:=Q3f m den e;obtain⟨u,rfl,rx⟩:=vals1 rv;cases rx;obtain⟨its,r',pl,hz⟩:=I.list sq;cases Q5l dd;have hi:=Q5S r';obtain⟨ys,ey⟩:=hi.allInts.items;have hns:ns=ys.toList.map (·.1):=by rw[<- hi.numsOf,<- nums_intItems,<- ey]
  have hsz:0<ys.size:=by
   have h3:=h0;rw[hns,Zb,Yd]at h3;exact h3
  have hl:=pl.isList;rw[ey]at hl;refine min_intList (I.ok.hd hc) hl hsz λv h' tk hv hk=>?_;obtain⟨t,rfl⟩:=intItems_at hv;obtain⟨h1,h2⟩:=argBest_lt (numAt ys) (ys.size-1);refine⟨.int _,H,I.kept hk,⟨t,rfl⟩,k _ M _ H (q _ ?_ λa ha=>?_) (Ext.refl H) m (.int _)⟩
  ·rw[hns,numAt_eq];exact getD_mem (by rw[Zb,Yd];room)
  ·rw[hns]at ha;obtain⟨j,hj,rfl⟩:=mem_getD ha;rw[Zb,Yd]at hj;rw[<- numAt_eq];exact h2 j (by room)
end
section
variable{X:Cx}
def rInB:DR2:=λx y M Q=>∃ (b:Bool) (bs:List Bool),x=.bl b/\zap M y=some (bs.map .bl)/\Q (.bl (bs.any λc=>c==b)) M
theorem Q6Y{K:Frag}{H:Hp}:∀ {bs:List Bool} {vs:List V} {its:List Value},Dens K H (bs.map D.bl) vs->Vals vs its->its=bs.map Value.bool
 | [],_,_,.nil,.nil=>rfl
 | b::r,_,_,.cons (.bl _) t,.cons e u=>by
  cases e;rw[Q6Y t u];rfl
theorem QcE(hu:X.A.units+64<cLine):OpD X (compareOp .In) rInB:=by
 rintro pins s σ H x y v u Q I rx ry ⟨dx,dy,M,R,ex,ey,m,⟨b,bs,e1,e2,q⟩,k⟩;subst e1;cases ex;cases rx;obtain⟨p,vs,rfl,sq,dd⟩:=Q3f m ey e2;cases ry;obtain⟨its,r',pl,hz⟩:=I.list sq;cases Q6Y dd r';refine SeqAt.in_listAt (λy=>decide (y=Value.bool b)) pl.isList (λy hy=>?_) ⟨.bl (bs.any λc=>c==b),H,I,?_,k _ M _ H q (Ext.refl H) m (.bl _)⟩
 ·obtain⟨c,_,rfl⟩:=ZJ.mp (show y∈bs.map Value.bool from Array.mem_toList_iff.mpr hy);have h:=SeqAt.eqAt_reads (.bool c) (.bool b) X.A.in1 s (.bool c) (.bool b) _ _ (.bool c) (.bool b) rfl rfl (by
   have:X.A.in1.units<=X.A.units+1:=by simp[Around.in1]
   have h2:min (PyData.bool c).depth (PyData.bool b).depth<=11:=Zr (Nat.min_le_left _ _) (by simp[PyData.depth])
   room)
  have e:PyData.eqv (.bool c) (.bool b)=decide (Value.bool c=Value.bool b):=by cases c <;> cases b <;> rfl
  rw[e]at h;exact h
 ·show Value.bool _=Value.bool _;congr 1;rw[<- Array.any_toList];erw[any_map];congr 1
  funext c
  cases c <;> cases b <;> rfl
end
end DL
namespace L2
open PySem PySem.Spec PyProof.Rows
end L2
namespace DL
open PySem PySem.Spec L2
open PyProof.Rows hiding St
section
variable{X:Cx}
end
section
variable{X:Cx}
end
end DL
namespace L2
open PySem PySem.Spec PyProof.Rows
section
variable{X:Cx}{pins:List (Addr×Obj)}{σ:St}{H:Hp}{s:Shared}{C f e d:Addr}{x:Str}{m k:Nat}{fd:FuncData}
end
section
variable{X:Cx}{pins:List (Addr×Obj)}{σ:St}{H:Hp}{s:Shared}{C f e d a:Addr}{x:Str}{m k:Nat}{fd:FuncData}
end
section
variable{prog:Program}{w:World}{A:Around}{E:Value->Shared->Prop}{s:Shared}{K:Frag}{x D:Addr}{ox od:Obj}{v:Value}
end
section
variable{X:Cx}{a C d:Addr}{oe od:Obj}{ps:List (Addr×Obj)}{n:Int}{x:Str}{i:Nat}{np pos:Pos}
end
end L2
namespace DL
open PySem PySem.Spec L2
open PyProof.Rows hiding St
section
variable{X:Cx}{e:Expr}{es:List Expr}{pos p np cpos:Pos}{cn:CN}
def dXrow(i:Nat)(a:Addr)(n:Int):DTE:=λρ M Q=>ρ[i]? = some (some (.ref a))/\Q (.int n) M
end
end DL
namespace L2
open PySem PySem.Spec PyProof.Rows
section
variable{X:Cx}{C f:Addr}{x:Str}
end
end L2
namespace DL
open PySem PySem.Spec L2
open PyProof.Rows hiding St
section
variable{X:Cx}{e:Expr}{es:List Expr}{pos np cpos:Pos}
end
end DL
namespace L2
open PySem PySem.Spec PyProof.Rows
section
variable{P:Program}{w:World}{A:Around}{E:Value->Shared->Prop}{s:Shared}
end
section
variable{X:Cx}{pins:List (Addr×Obj)}{σ:St}{H:Hp}{s:Shared}{h':Heap}
theorem Inv.turnedL{t':Nat}{fp:List Addr}(I:Inv X pins σ H s)(k:∀ b o,b∉fp->s.heap.get? b=some o->h'.get? b=some o)(hf:∀ b∈fp,FpOk X pins H b):Inv X pins σ H { s with heap:=h',toks:=t' }:=by
 have nit:∀ b u,H b=some u->b∉fp:=λb u e z=>by rw[(hf b z).1]at e;cases e
 have hL:X.env.locals∉fp:=λz=>(hf _ z).2.1 rfl;refine I.step (g':=s.gens) (d':=s.drawn) (ch:=fp) (λb hb=>?_) (λb o _ _ hc e _=>k b o hc e) (λb o _ _ hc e _=>⟨o.slots,k b o hc e⟩) (λ_ _ _ _ n=>n)
  (λb o hc e=>⟨o,k b o hc e⟩) (λ_ _ e=>e) (λ_ _ _ e=>e) (λb ps e=>⟨#[],by rw[e];simp⟩) (λm hm=>?_) (λb u e=>?_) I.bare
 ·obtain⟨f0,f1,f2,f3,f4,f5⟩:=hf b hb;exact⟨f3,f1,f4,f5⟩
 ·obtain⟨o,es,ep,ho,r⟩:=hm;exact⟨o,es,ep,k _ o hL ho,r⟩
 ·refine (I.hok b u e).stay (λc v hc q=>k c v ?_ q) (λ_ q=>q) λ_ _ q=>q;rcases hc with z | z
  ·rw[z];exact nit b u e
  ·exact nit c _ z
end
end L2
namespace DL
open PySem PySem.Spec L2
open PyProof.Rows hiding St
section
variable{X:Cx}{K:Frag}{e:Expr}{te:DTE}
end
section
variable{α:Type}
noncomputable def valT(kvs:List (List Nat×D))(k:List Nat):Option D:=(kvs.find? λkv=>decide (kv.1=k)).map (·.2)
noncomputable def putT(kvs:List (List Nat×D))(k:List Nat)(v:D):List (List Nat×D) :=
 if (kvs.any λkv=>decide (kv.1=k))=true then kvs.map (λkv=>if kv.1=k then (kv.1,v) else kv) else kvs++[(k,v)]
theorem Q8V:valT [] k=none:=rfl
theorem Q0z(e:p.1=k):valT (p::r) k=some p.2:=by simp[valT,find?_cons,e]
theorem Q0A(e:¬ p.1=k):valT (p::r) k=valT r k:=by simp[valT,find?_cons,e]
theorem Q1y(k:List Nat):∀ kvs:List (List Nat×D),(kvs.any λkv=>decide (kv.1=k))=(valT kvs k).isSome
 | []=>rfl
 | p::r=>by
  rw[any_cons];by_cases e:p.1=k
  ·erw[Q0z e,Zm e,Bool.true_or,Option.isSome_some]
  ·rw[Q0A e,Z7 e,Bool.false_or];exact Q1y k r
theorem Q5m(k j:List Nat)(y:D):∀ kvs:List (List Nat×D),valT (kvs.map λkv=>if kv.1=k then (kv.1,y) else kv) j=(valT kvs j).map λx=>if j=k then y else x
 | []=>rfl
 | p::r=>by
  have ih:=Q5m k j y r;rw[ZC];by_cases h:p.1=k
  ·rw[Zg h];by_cases e:p.1=j
   ·rw[Q0z (p:=(p.1,y)) e,Q0z e,ZW,Zg (e.symm.trans h)]
   ·rw[Q0A (p:=(p.1,y)) e,Q0A e,ih]
  ·rw[Zd h];by_cases e:p.1=j
   ·rw[Q0z (p:=p) e,Q0z e,ZW,Zd (λz=>h (e.trans z))]
   ·rw[Q0A (p:=p) e,Q0A e,ih]
theorem Q4c(k j:List Nat)(y:D):∀ kvs:List (List Nat×D),valT kvs k=none->valT (kvs++[(k,y)]) j=if j=k then some y else valT kvs j
 | [],_=>by
  by_cases e:k=j
  ·rw[Zg e.symm];exact Q0z (p:=(k,y)) e
  ·rw[Zd (λz=>e z.symm)];exact Q0A (p:=(k,y)) e
 | p::r,hn=>by
  rw[cons_append];have hk:¬ p.1=k:=λz=>by rw[Q0z z]at hn;cases hn
  rw[Q0A hk]at hn;have ih:=Q4c k j y r hn;by_cases e:p.1=j
  ·rw[Q0z e,Q0z e,Zd (λz=>hk (e.trans z))]
  ·rw[Q0A e,Q0A e,ih]
theorem Q1Q(kvs:List (List Nat×D))(k j:List Nat)(y:D):valT (putT kvs k y) j=if j=k then some y else valT kvs j:=by
 unfold putT;by_cases a:(kvs.any λkv=>decide (kv.1=k))=true
 ·rw[Zg a,Q5m];rw[Q1y]at a;by_cases e:j=k
  ·obtain⟨x,hx⟩:=Z3.mp a;rw[Zg e,e,hx,ZW,Zg rfl]
  ·rw[Zd e];cases valT kvs j with
   | none=>rfl
   | some x=>rw[ZW,Zd e]
 ·rw[Zd a];refine Q4c k j y kvs ?_;rw[Q1y]at a;cases q:valT kvs k with
  | none=>rfl
  | some x=>rw[q]at a;exact (a rfl).elim
theorem Q4H(kvs:List (List Nat×D))(k:List Nat)(v:D):(putT kvs k v).length<=kvs.length+1:=by
 unfold putT;split
 ·rw[Zb];room
 ·rw[Zl,Zw,ZH];room
end
theorem Q6Z(e:tkk a=tkk b):a=b:=S_inj (Sum.inr.inj e)
section
variable{K:Frag}{H:Hp}
theorem KTs.val(r:KTs K H kvs vs)(k:List Nat) :
  (valT kvs k=none/\valV vs (tkk k)=none)\/∃ d v,valT kvs k=some d/\valV vs (tkk k)=some v/\Den K H d v:=by
 induction r with
 | nil=>exact .inl ⟨rfl,rfl⟩
 | @cons p q ps qs h t ih =>
  by_cases e:p.1=k
  ·exact .inr ⟨p.2,q.2,Q0z e,Q1O (by rw[h.1,e]),h.2⟩
  ·rw[Q0A e,Q1P (by rw[h.1];exact λz=>e (Q6Z z))];exact ih
theorem KTs.put(r:KTs K H kvs vs)(k:List Nat)(den:Den K H d v):KTs K H (putT kvs k d) (putK vs (tkk k) v):=by
 have an:(kvs.any λkv=>decide (kv.1=k))=vs.any λkv=>decide (kv.1=tkk k):=by
  rw[Q1y,Q2m];rcases r.val k with ⟨a,b⟩ | ⟨x,y,a,b,_⟩ <;> rw[a,b] <;> rfl
 unfold putT putK;rw[an];by_cases e:(vs.any λkv=>decide (kv.1=tkk k))=true
 ·rw[Zg e,Zg e];clear an e
  induction r with
  | nil=>exact .nil
  | @cons p q ps qs h t ih =>
   rw[ZC,ZC];refine .cons ?_ ih;by_cases e:p.1=k
   ·rw[Zg e,Zg (by rw[h.1,e])];exact⟨h.1,den⟩
   ·rw[Zd e,Zd (by rw[h.1];exact λz=>e (Q6Z z))];exact h
 ·rw[Zd e,Zd e];exact Paired.snoc r ⟨rfl,den⟩
theorem KTs.length(r:KTs K H kvs vs):kvs.length=vs.length:=ZT r
end
theorem SimM.dkt{K:Frag}{H:Hp}{M:DH}(h:SimM K M H){a:Addr}{kvs:List (List Nat×D)}(e:M a=some (.oth (.dkt kvs))):∃ vs,H a=some (.dK vs)/\KTs K H kvs vs:=h a _ e
section
variable{X:Cx}{e o value a b k:Expr}{es:List Expr}{pos pos' apos cpos p:Pos}{te tv tk td:DTE}{t:DTA}
def zbQ:DTE:=λ_ M Q=>∀ q,M q=none->Q (.ref q) (dupd M q (.oth (.dkt [])))
theorem QaY:DE X (.Dict [] [] pos) zbQ :=
 Q8y.imp λσ H Q ⟨ρ,M,R,s,m,h,k⟩ q hq=>k _ _ _ _ (h q (m.free hq)) (Ext.new hq) (m.put (u:=.oth (.dkt [])) (Ext.new hq) ⟨[],Q0g,.nil⟩) (.ref q)
def rInT(f:Bool->Bool):DR2:=λx y M Q=>∃ (n:List Nat) (a:Addr) (kvs:List (List Nat×D)),x=.str n/\y=.ref a/\M a=some (.oth (.dkt kvs))/\Q (.bl (f (valT kvs n).isSome)) M
theorem Q7a{K:Frag}{H:Hp}{kvs:List (List Nat×D)}{vs:List (Key×V)}(r:KTs K H kvs vs)(n:List Nat):(valV vs (tkk n)).isSome=(valT kvs n).isSome:=by
 rcases r.val n with ⟨q1,q2⟩ | ⟨d,v,q1,q2,_⟩ <;> rw[q1,q2] <;> rfl
theorem QaZ(hu:X.A.units+1<cLine):OpD X (compareOp .NotIn) (rInT not):=by
 rintro pins s σ H x y v u Q I rx ry ⟨dx,dy,M,R,ex,ey,m,⟨n,a,kvs,e1,e2,e3,q⟩,k⟩;subst e1 e2;cases ex;cases ey;obtain⟨vs,g1,g2⟩:=m.dkt e3;cases ry;refine Q6D hu I (DGet.k (k:=tkk n) g1) rx λs' I'=>⟨.bl (!(valV vs (tkk n)).isSome),H,I',rfl,?_⟩;rw[Q7a g2];exact k _ M _ H q (Ext.refl H) m (.bl _)
def rTIx:DR2:=λx y M Q=>∃ (n:List Nat) (a:Addr) (kvs:List (List Nat×D)) (d:D),y=.str n/\x=.ref a/\M a=some (.oth (.dkt kvs))/\valT kvs n=some d/\Q d M
theorem QcF(hu:X.A.units+1<cLine)(hd:DE X o td)(hk:DE X k tk)(hs:NoSl k):DE X (.Subscript o k pos) (dOp rTIx td tk) :=
 (Q6F hu hd hk hs).imp λσ H Q ⟨ρ,M,R,s,m,h,k⟩=>⟨ρ,M,_,s,m,h,λx M1 xv H1 h1 x1 m1 dx=>⟨ρ,M1,_,s.ext x1,m1,h1,λy M2 yv H2 ⟨n,a,kvs,d,e1,e2,e3,e4,h2⟩ x2 m2 dy=>by
  subst e1 e2;cases dy;cases dx;obtain⟨vs,g1,g2⟩:=m2.dkt e3;rcases g2.val n with ⟨q1,q2⟩ | ⟨d',v,q1,q2,q3⟩
  ·rw[q1]at e4;cases e4
  ·rw[q1]at e4;cases e4;refine⟨a,v,rfl,?_,k _ M2 _ _ h2 (x1.trans x2) m2 q3⟩;rw[<- q2];exact DGet.k (k:=tkk n) g1⟩⟩
def zbb(td tk tx:DTE):DTE:=λρ M Q=>td ρ M λx M1=>∃ (a:Addr) (kvs0:List (List Nat×D)),x=.ref a/\M1 a=some (.oth (.dkt kvs0))/\tk ρ M1 λy M2=>tx ρ M2 λz M3=>∃ (n:List Nat) (kvs:List (List Nat×D)),y=.str n/\M3 a=some (.oth (.dkt kvs))/\Q ((valT kvs n).getD z) M3
theorem Q8W(hu:X.A.units+1<cLine)(hd:DE X o td)(hk:DE X k tk)(hf:DE X f tx)(m2:M2 X o "get" apos k f cpos):DE X (.Call (.Attribute o "get" apos) [k,f] [] cpos) (zbb td tk tx) :=
 (Q5e hu hd hk hf m2).imp λσ H Q ⟨ρ,M,R,s,m,h,k⟩=>⟨ρ,M,_,s,m,h,λx M1 xv H1 ⟨a,kvs0,e1,e2,h1⟩ x1 m1 dx=>by
  subst e1;cases dx;obtain⟨vs0,g1,_⟩:=m1.dkt e2;refine⟨a,rfl,.inl ⟨vs0,.inl g1⟩,ρ,M1,_,s.ext x1,m1,h1,λy M2 yv H2 h2 x2 m2 dy=>⟨ρ,M2,_,(s.ext x1).ext x2,m2,h2,λz M3 zv H3 ⟨n,kvs,e3,e4,h3⟩ x3 m3 dz=>?_⟩⟩;subst e3;cases dy;obtain⟨vs,g3,g4⟩:=m3.dkt e4;refine⟨_,DGet.k (k:=tkk n) g3,?_⟩;have xx:=(x1.trans x2).trans x3;rcases g4.val n with ⟨q1,q2⟩ | ⟨d',v,q1,q2,q3⟩
  ·rw[q2];rw[q1]at h3;exact k _ M3 _ _ h3 xx m3 dz
  ·rw[q2];rw[q1]at h3;exact k _ M3 _ _ h3 xx m3 q3⟩
def dTPut(td tk tv:DTE):DTS:=λDD ρ M=>tv ρ M λv M1=>td ρ M1 λx M2=>tk ρ M2 λy M3=>∃ (a:Addr) (n:List Nat) (kvs:List (List Nat×D)),x=.ref a/\y=.str n/\M3 a=some (.oth (.dkt kvs))/\kvs.length<sizeLine/\DD.nx ρ (dupd M3 a (.oth (.dkt (putT kvs n v))))
theorem Qb0(hu:X.A.units+1<cLine)(hd:DE X o td)(hk:DE X k tk)(hv:DE X value tv)(hs:swapsWith value (some (.Subscript o k pos')) pos.line X.env=pure false):DS X (.Assign [.Subscript o k pos'] value pos) (dTPut td tk tv) :=
 (Q6G hu hd hk hv hs).imp λD σ H ⟨ρ,M,DD,s,m,h,k⟩=>⟨ρ,M,_,s,m,h,λv M1 vv H1 h1 x1 m1 dv=>⟨ρ,M1,_,s.ext x1,m1,h1,λx M2 xv H2 h2 x2 m2 dx=>⟨ρ,M2,_,(s.ext x1).ext x2,m2,h2,λy M3 yv H3 ⟨a,n,kvs,e1,e2,e3,e4,h3⟩ x3 m3 dy=>by
  subst e1 e2;cases dx;cases dy;obtain⟨vs,g1,g2⟩:=m3.dkt e3;have y:Ext H3 (upd H3 a (.dK (putK vs (tkk n) vv))):=Ext.mut g1 (λ_ z=>nomatch z) (λ_ _ z=>nomatch z)
  have xx:=(x1.trans x2).trans x3;exact⟨a,_,rfl,DPut.k (k:=tkk n) g1 (by rw[<- g2.length];exact e4),k.nx ρ _ σ _ h3 (xx.trans y) ((s.ext xx).ext y) (m3.put y ⟨_,Q0g,Paired.mapP (g2.put n ((dv.ext x2).ext x3)) λp q z=>⟨z.1,Den.ext y z.2⟩⟩)⟩⟩⟩⟩
end
end DL
namespace L2
open PySem PySem.Spec PyProof.Rows
theorem Q4d:typeLookup (.type "list") "keys" = pure none:=by rw[typeLookup_type,builtinLookup_eq_fast];kernel_rfl
section
variable{prog:Program}{w:World}{A:Around}{E:Value->Shared->Prop}{s:Shared}{a:Addr}
theorem Qb1{Q:Option Value->Shared->Prop}(hx:s.heap.get? a=some ⟨.type "list",none,.seq xs n,sl⟩)(hA:A.handled=none)
  (hq:∀ h' tk,(∀ b u,s.heap.get? b=some u->h'.get? b=some u)->Q none { s with heap:=h',toks:=tk }):wpAny (model prog w) A (getAttr? (.ref a) "keys") Q E s:=by
 obtain⟨hp,g,d,tk,os⟩:=s;have hT:∀ tk',(⟨hp,g,d,tk',os⟩:Shared).TypeIs (.ref a) "list":=λ_=>⟨_,hx,rfl⟩;have f1:=sub_AttributeError;have f3:=F.slot_list_getattribute.lookup;have f4:=F.slot_list_getattribute.bind (.ref a);have f5:=am_list_getattr_none;unfold getAttr? getAttrBy? getAttrBy
 repeat (any_goals (first | assumption | exact hT _ | ((with_reducible show wpAny _ _ (call (Value.builtin "list.__getattribute__") _ _) _ _ _);refine call_meets F.slot_list_getattribute (hT _) am_entry_list_getattribute (F.args_list_getattribute_2 _ _) (meets_getattribute_miss_list a xs n sl "keys" _ Q4d (by decide) (by size_fits)) ⟨hx,hA,λh' tk' e hx'=>?_⟩) | wp_step))
 obtain⟨t',u',he⟩:=hx'.there;show wpAny _ _ (getattributeRaised _ _ _ _ _ _ _) _ _ _;unfold getattributeRaised
 repeat (any_goals (first | assumption | wp_step))
 exact hq _ _ hx'.keeps
end
section
variable{X:Cx}{pins:List (Addr×Obj)}{σ:St}{H:Hp}{s:Shared}{A:Around}{E:Value->Shared->Prop}
theorem Q7b{Q:Unit->Shared->Prop}(hu:A.units<cLine)(I:Inv X pins σ H s)(e:H d=some (.dT kvs))(eb:H b=some (.tup (k.map kV)))(l:kvs.length<sizeLine)(rv:RelV v r)
  (h:∀ s',Inv X pins σ (upd H d (.dT (putK kvs k v))) s'->(∀ c o,c≠d->s.heap.get? c=some o->s'.heap.get? c=some o)->Q () s'):wpAny (model X.prog X.w) A (dictSet d (.ref b) r) Q E s:=by
 obtain⟨z,hd,xs,rel,dd⟩:=dt_of I.hok e;have hz:xs.length<=sizeLine:=by rw[<- ZT rel];exact z
 have hl:(putK kvs k v).length<=sizeLine:=by have:=Q0C kvs k v;room
 refine wpAny_dictSet_heap (hsz:=hz) (knd:=tupleKind (za6 X.prog X.w)) hu (Q1G I.hok eb) dd λh' dd' hs=>h _ ?_ λc o nc q=>(hs.2 c nc).trans q;obtain⟨q,es,ep,hq,h2,h3,h4,_,h5⟩:=dd';refine Q2c I (by rw[e];exact Yp) hs ⟨q,hq⟩ ⟨hl,hd,_,(rel.put k eb rv).keeps λc ys ec=>?_,q,es,ep,hq,h2,h3,h4,h5⟩
 rw[Q0d (ne_of ec e (λz=>nomatch z))]
 exact ec
end
theorem Q1R:entryFor table "dict.update.loop" = some Builtin.«dict.update.loop»:=entryFor_of_tree (by kernel_rfl)
theorem Q0K:plainId "dict.update.loop" = true:=by kd_p
theorem Q7c{K:Frag}{H:Hp}{l d:Addr}{xs:List V}{o:HO}(h:SqL K H l xs)(hd:H d=none):SqL K (upd H d o) l xs:=by
 rcases h with (h | ⟨ob,h⟩) | h
 ·exact .inl (.inl (by rw[Q0d (Q0k h hd)];exact h))
 ·exact .inl (.inr ⟨ob,by rw[Q0d (Q0k h hd)];exact h⟩)
 ·exact .inr h
theorem paired_at{α β:Type}{F:α->β->Prop}:∀ {xs:List α} {ys:List β} {i:Nat} {x:α} {y:β},Paired F xs ys->xs[i]? = some x->ys[i]? = some y->F x y
 | _,_,0,_,_,.cons r t,h1,h2=>by cases h1;cases h2;exact r
 | _,_,i+1,_,_,.cons r t,h1,h2=>paired_at t h1 h2
 | _,_,_,_,_,.nil,h1,_=>by cases h1
noncomputable abbrev zb6{κ:Type}(kr:Hp->κ->V->Prop)(H:Hp):List V->List (κ×V)->Prop:=Paired λx p=>∃ t y,x=.ref t/\H t=some (.tup [y,p.2])/\kr H p.1 y
noncomputable def zaL{κ:Type}[DecidableEq κ](kvs:List (κ×V))(ps:List (κ×V)):List (κ×V):=ps.foldl (λa p=>putK a p.1 p.2) kvs
noncomputable abbrev zbZ{κ:Type}[DecidableEq κ](X:Cx)(pins:List (Addr×Obj))(σ:St)(H:Hp)(mk:List (κ×V)->HO)(kr:Hp->κ->V->Prop)(d:Addr):Prop:=∀ (A:Around) (E:Value->Shared->Prop) (s:Shared) (kvs:List (κ×V)) (k:κ) (y v:V) (u r:Value) (Q:Unit->Shared->Prop),Inv X pins σ (upd H d (mk kvs)) s->kr H k y->RelV y u->RelV v r->kvs.length<sizeLine->A.units<cLine ->
 (∀ s',Inv X pins σ (upd H d (mk (putK kvs k v))) s'->(∀ c o,c≠d->s.heap.get? c=some o->s'.heap.get? c=some o)->Q () s')->wpAny (model X.prog X.w) A (dictSet d u r) Q E s
def krT(H:Hp)(k:List Key)(y:V):Prop:=∃ b,y=.ref b/\H b=some (.tup (k.map kV))
theorem setT(hd:H d=none):zbZ X pins σ H HO.dT krT d:=λA E s kvs k y v u r Q I e ry rv hl hu h=>by
 obtain⟨b,rfl,eb⟩:=e;obtain rfl:u=Value.ref b:=ry;refine Q7b hu I Q0g (by rw[Q0d (Q0k eb hd)];exact eb) hl rv λs' I' k'=>h s' ?_ k'
 rw[Q3k]at I';exact I'
section
variable{X:Cx}{pins:List (Addr×Obj)}{σ:St}{H:Hp}{A:Around}{R:Result->Shared->Prop}{d it l:Addr}{xs:List V}{κ:Type}[DecidableEq κ]{mk:List (κ×V)->HO}{kr:Hp->κ->V->Prop}{ps:List (κ×V)}
theorem Q7d(hh:A.in1.handled=none)(hu:A.in1.units<cLine)(hd:H d=none)(hit:FpOk X pins H it)(ne:it≠d)(hl:SqL X.K H l xs)(hp:zb6 kr H xs ps)(hS:zbZ X pins σ H mk kr d) :
  ∀ (n i:Nat) (s:Shared) (kvs:List (κ×V)),ps.length-i=n->i<=ps.length->kvs.length+n<=sizeLine->Inv X pins σ (upd H d (mk kvs)) s->s.heap.IsListIter it l i ->
   (∀ s',Inv X pins σ (upd H d (mk (zaL kvs (ps.drop i)))) s'->R (.ok (.ret .none)) s')->codeAny (model X.prog X.w) A (.builtin "dict.update.loop" ⟨[.ref d,.ref it,rawInt (i:Int),.none],[]⟩) R s:=by
 intro n
 induction n with
 | zero =>
  intro i s kvs hn hi hk I st hR;have hi2:i=ps.length:=by room
  have hl2:SqL X.K (upd H d (mk kvs)) l xs:=Q7c hl hd;obtain⟨its,rv,p,hz⟩:=I.list hl2;have hlen:=rv.length;have hpl:=ZT hp;refine codeAny_builtin Q1R ?_;rw[Around.under_plainId Q0K _];show wpAny _ A.in1 (pyNext (.ref it) >>= _) _ _ s;refine Za (wpAny_pyNext_list_end hh st p.isList (by simp;room) λh' eb=>?_)
  show wpAny _ A.in1 (Builtin.Dict.addKeywords d [] >>= _) _ _ _;refine Za (Zc (Zc ?_));have e0:zaL kvs (ps.drop i)=kvs:=by rw[hi2,List.drop_length];rfl
  rw[e0]at hR;exact hR _ (I.turnedL (t':=s.toks) (fp:=[it]) (λb o nb q=>eb b o (λz=>nb (by simp[z])) q) λb hb=>by
   rw[Zh.mp hb];exact⟨by rw[Q0d ne];exact hit.1,hit.2⟩)
 | succ n ih =>
  intro i s kvs hn hi hk I st hR;have hlt:i<ps.length:=by room
  have hl2:SqL X.K (upd H d (mk kvs)) l xs:=Q7c hl hd;obtain⟨its,rv,p,hz⟩:=I.list hl2;have hpl:=ZT hp;have hx:xs[i]? = some xs[i]:=Zi (by room)
  obtain⟨t,y,e1,e2,e3⟩:=paired_at hp hx (Zi hlt);obtain⟨u,hu2,ru⟩:=rv.get hx;rw[e1]at ru;obtain rfl:u=Value.ref t:=ru;have fp:∀ c∈[it],FpOk X pins (upd H d (mk kvs)) c:=λc hc=>by
   rw[Zh.mp hc];exact⟨by rw[Q0d ne];exact hit.1,hit.2⟩
  refine codeAny_builtin Q1R ?_;rw[Around.under_plainId Q0K _];show wpAny _ A.in1 (pyNext (.ref it) >>= _) _ _ s;refine Za (wpAny_pyNext_list_item st p.isList (x:=.ref t) (by simpa using hu2) λh' st' sb=>?_)
  have I1:Inv X pins σ (upd H d (mk kvs)) { s with heap:=h' }:=I.turnedL (t':=s.toks) (fp:=[it]) (λc o nc q=>(sb.2 c (λz=>nc (by simp[z]))).trans q) fp
  have et:upd H d (mk kvs) t=some (.tup [y,(ps[i]).2]):=by rw[Q0d (Q0k e2 hd)];exact e2
  obtain⟨it2,rv2,⟨ob,ho,hc,m2,hd2⟩,hz2⟩:=I1.tuple (.of et);cases rv2 with
  | cons r1 rv2 =>
  cases rv2 with
  | cons r2 rv2 =>
  cases rv2;rename_i u1 u2;refine Za (Yk (Za (wpAny_tryCatch ?_)));unfold Builtin.Dict.pairItems;refine Za (wpAny_typeOf (show Shared.TypeIs { s with heap:=h' } (.ref t) "tuple" from⟨ob,ho,hc⟩) ?_);rw[Zg (by decide)]
  refine Za (wpAny_seqItems ho hd2 (Zc ?_));show wpAny _ _ (holding [u1,u2] (dictSet d u1 u2)) _ _ _;refine Yk (hS _ _ _ _ _ _ _ _ _ _ I1 e3 r1 r2 (by room) hu λs2 I2 k2=>?_)
  have e9:zaL kvs (ps.drop i)=zaL (putK kvs (ps[i]).1 (ps[i]).2) (ps.drop (i+1)):=by rw[Y0 hlt];rfl
  rw[e9]at hR;have hlp:=Q0C kvs (ps[i]).1 (ps[i]).2;exact Zc ⟨plainId_quiet Q0K _,ih (i+1) s2 _ (by room) hlt (by room) I2 (st'.at λo q=>k2 it o ne q) hR⟩
end
section
variable{X:Cx}{pins:List (Addr×Obj)}{σ:St}{H:Hp}{s:Shared}{l:Addr}{xs:List V}{κ:Type}[DecidableEq κ]{mk:List (κ×V)->HO}{kr:Hp->κ->V->Prop}{ps:List (κ×V)}{Q:Value->Shared->Prop}
theorem Q5X(hc:X.calm=true)(hu:X.A.units+64<cLine)(I:Inv X pins σ H s)(hl:SqL X.K H l xs)(hp:zb6 kr H xs ps)(hn:ps.length<=sizeLine)(hS:∀ d,H d=none->zbZ X pins σ H mk kr d)(h0:∀ h:Heap,sysModules<h.objs.size->ObjOk X.prog X.w (upd H h.objs.size (mk [])) (h.push { cls:=.type "dict",data:=.dict #[] }) h.objs.size (mk []))
  (h:∀ d s',H d=none->Inv X pins σ (upd H d (mk (zaL [] ps))) s'->Q (.ref d) s'):wpAny (model X.prog X.w) X.A (call (.type "dict") [.ref l]) Q X.xe s:=by
 refine callType_codes (Q₁:=λobj s₁=>obj=.ref s.heap.objs.size/\s₁={ s with heap:=s.heap.push { cls:=.type "dict",data:=.dict #[] } }) F.kt_called_dict (F.kt_typeCall_dict_1 _) F.entry_dict_init (kt_code_dict_new _ ⟨rfl,rfl⟩) ?_;rintro obj s₁ ⟨rfl,rfl⟩;have hnew:(s.heap.push { cls:=.type "dict",data:=.dict #[] }).DictOf (za6 X.prog X.w) s.heap.objs.size []:=Heap.DictOf.new s.heap;have hd:H s.heap.objs.size=none:=I.hok.fresh (Zq _);have I1:=I.laid (a:=s.heap.objs.size) (o:=mk []) (h':=s.heap.push { cls:=.type "dict",data:=.dict #[] }) (t':=s.toks) (λ_ _ q=>Zj _ q) (Zq _) (h0 s.heap I.big);have hl1:SqL X.K (upd H s.heap.objs.size (mk [])) l xs:=Q7c hl hd;obtain⟨its,rv,p,hz⟩:=I1.list hl1;obtain⟨⟨cls,dd,data,sl⟩,n,ho,hcl,hdn,hdt⟩:=p;refine⟨hnew.typeIs,F.args_dict_init_2 _ _,?_⟩;unfold Builtin.«dict.__init__»;refine Za ?_;unfold Builtin.Dict.selfAndRest;refine Za (wpAny_notOrdered_dict hnew.typeIs ?_);show wpAny _ _ (pure (s.heap.objs.size,[Value.ref l])) _ _ _;refine Zc ?_;show wpAny _ _ (Builtin.Dict.updateFrom "dict.__init__" s.heap.objs.size (.ref l) [] .none) _ _ _;unfold Builtin.Dict.updateFrom;refine Za (wpAny_typeOf (show Shared.TypeIs _ (.ref l) "list" from⟨_,ho,hcl⟩) ?_);rw[Zg (by decide)]
 refine Za (Qb1 (s:={ s with heap:=s.heap.push { cls:=.type "dict",data:=.dict #[] } }) (xs:=its.toArray) (n:=n) (sl:=sl) ?_ ?_ λh2 tk2 k2=>?_)
 ·have e:(⟨cls,dd,data,sl⟩:Obj)=⟨.type "list",none,.seq its.toArray n,sl⟩:=by
   have hcl:cls=.type "list":=hcl;have hdn:dd=none:=hdn;have hdt:data=.seq its.toArray n:=hdt;rw[hcl,hdn,hdt]
  rw[<- e];exact ho
 ·exact I.ok.hd hc
 have I2:Inv X pins σ (upd H s.heap.objs.size (mk [])) { s with heap:=h2,toks:=tk2 }:=I1.kept k2;erw[Option.isNone_none,Yj];refine Za (wpAny_rule (Za ?_));obtain⟨its2,rv2,p2,hz2⟩:=I2.list hl1;refine wpAny_pyIter_list p2.isList ?_;refine Zc ⟨plainId_quiet Q0K _,?_⟩;have hdl:s.heap.objs.size<h2.objs.size:=Zt (k2 _ _ (Z0 s.heap rfl));have ne:h2.objs.size≠s.heap.objs.size:=ne_of_gt hdl;have hf:upd H s.heap.objs.size (mk []) h2.objs.size=none:=I2.hok.fresh (Zq _);rw[Q0d ne]at hf;have I3:Inv X pins σ (upd H s.heap.objs.size (mk [])) { s with heap:=h2.push { cls:=.type "list_iterator",data:=.fields #[.ref l,.int 0 0] },toks:=tk2 }:=I2.kept (t':=tk2) λb o q=>Zj _ q;exact Q7d (A:=X.A.in1) (it:=h2.objs.size) (I.ok.hd hc) (ZM (by first | exact units_in2 | (erw[Around.in1];room)) hu) hd (I2.fpOk (H':=H) (Zq _) hf) ne hl hp (hS _ hd) ps.length 0 _ [] (by room) (ZI _) (by simpa using hn) I3 ⟨_,Z0 _ rfl,rfl,rfl⟩ λs' I'=>⟨rfl,h _ s' hd I'⟩
end
theorem Q5Y{Q:Value->Shared->Prop}(hc:X.calm=true)(hu:X.A.units+64<cLine)(I:Inv X pins σ H s)(hl:SqL X.K H l xs)(hp:zb6 krT H xs ps)(hn:ps.length<=sizeLine)
  (h:∀ d s',H d=none->Inv X pins σ (upd H d (.dT (zaL [] ps))) s'->Q (.ref d) s'):wpAny (model X.prog X.w) X.A (call (.type "dict") [.ref l]) Q X.xe s :=
 Q5X hc hu I hl hp hn (λ_ hd=>setT hd) (λh hb=>Q3p h hb) h
end L2
namespace DL
open PySem PySem.Spec L2
open PyProof.Rows hiding St
section
variable{X:Cx}{K:Frag}{H:Hp}
noncomputable def pairD(p:List (List Nat)×D):D:=.tup [.tup (p.1.map .str),p.2]
noncomputable def zaD(kvs ps:List (List (List Nat)×D)):List (List (List Nat)×D):=ps.foldl (λa p=>putD a p.1 p.2) kvs
theorem Q5n:∀ {ps:List (List (List Nat)×D)} {vs:List V},Dens K H (ps.map pairD) vs->∃ qs,zb6 krT H vs qs/\KDs K H ps qs
 | [],_,.nil=>⟨[],.nil,.nil⟩
 | p::r,_,.cons h t=>by
  obtain⟨qs,a,b⟩:=Q5n t;cases h with
  | tup e d =>
   cases d with
   | cons d1 d2 =>
    cases d2 with
    | cons d3 d4 =>
     cases d4;obtain⟨c,rfl,ec⟩:=Q0T d1;exact⟨(nk p.1,_)::qs,.cons ⟨_,_,rfl,e,c,rfl,ec⟩ a,.cons ⟨rfl,d3⟩ b⟩
theorem Q4e:∀ {ps:List (List (List Nat)×D)} {qs:List (List Key×V)} {kvs:List (List (List Nat)×D)} {vs:List (List Key×V)},KDs K H ps qs->KDs K H kvs vs->KDs K H (zaD kvs ps) (zaL vs qs)
 | [],_,_,_,.nil,h=>h
 | p::r,q::qs,kvs,vs,.cons h t,g=>by
  have g2:=KDs.put g p.1 h.2;rw[<- h.1]at g2;exact Q4e (kvs:=putD kvs p.1 p.2) (vs:=putK vs q.1 q.2) t g2
def zbK:List D->DH->DK->Prop:=λds M Q=>match ds with
 | [d]=>∃ ps:List (List (List Nat)×D),zap M d=some (ps.map pairD)/\ps.length<=sizeLine/\∀ q,M q=none->Q (.ref q) (dupd M q (.oth (.dct (zaD [] ps))))
 | _=>False
theorem Qb2(hc:X.calm=true)(hu:X.A.units+64<cLine):zbk X (.type "dict") zbK:=by
 rintro pins s σ H xs us Q I rv ⟨ds,M,R,dn,m,q,k⟩
 match ds,dn,q with
 | [d],.cons den .nil,⟨ps,e,hz,q⟩ =>
  obtain⟨p,vs,rfl,sq,dd⟩:=Q3f m den e;obtain⟨u,rfl,rx⟩:=vals1 rv;cases rx;obtain⟨qs,h1,h2⟩:=Q5n dd;refine Q5Y hc hu I sq h1 (by rw[<- ZT h2];exact hz) λd s' hd I'=>?_
  have xx:Ext H (upd H d (.dT (zaL [] qs))):=Ext.new hd;exact⟨.ref d,_,I',rfl,k _ _ _ _ (q d (m.free hd)) xx (m.put (u:=.oth (.dct _)) xx ⟨_,Q0g,Paired.mapP (Q4e h2 .nil) λa b z=>⟨z.1,Den.ext xx z.2⟩⟩) (.ref d)⟩
end
section
variable{X:Cx}
end
section
variable{X:Cx}{e:Expr}{te:DTE}
end
end DL
namespace L2
open PySem PySem.Spec PyProof.Rows
section
variable{prog:Program}{w:World}{K:Type}[DecidableEq K]{knd:HeapKind prog w K}{A:Around}{E:Value->Shared->Prop}{s:Shared}
theorem Q8X{stored:List Value}{Q:Bool->Shared->Prop}(hst:∀ v∈stored,∃ k' b,v=.ref b/\knd.is s.heap k' b)(h:Q false s):wpAny (model prog w) A (tableMayTell .none stored) Q E s:=by
 unfold tableMayTell;split
 ·exact Zc h
 ·have eq0:eqIsQuiet 8 Value.none=pure true:=by first | rfl | simp[eqIsQuiet]
  rw[eq0];refine Za (Zc ?_);erw[Bool.not_true,ZN,ZU];refine Za ?_;refine wpAny_forIn_list _ (λrest r s'=>s'=s/\r=(none,())/\∀ v∈rest,∃ k' b,v=.ref b/\knd.is s.heap k' b) _ ?_ ?_ _ _ ⟨rfl,rfl,hst⟩
  ·rintro x rest r s' ⟨rfl,rfl,hr⟩;obtain⟨k',b,rfl,hb⟩:=hr x Zp;refine Za (knd.quiet hb ?_);erw[Bool.not_true,ZN,ZU];exact Zc ⟨rfl,rfl,λv hv=>hr v (Zo _ hv)⟩
  ·rintro r s' ⟨rfl,rfl,_⟩;exact Zc h
theorem Q5o{d:Addr}{o:Obj}{es:Array DictEntry}{ep:Nat}{xs:List (K×Addr×Value)}{hk:Int}{Q:Option Nat->Shared->Prop}(ho:s.heap.get? d=some o)(hd:o.data=.dict es ep)(he:es.toList=xs.map (entryOfKey knd))
  (his:∀ x∈xs,knd.is s.heap x.1 x.2.1) (heq:∀ x∈xs,SeqAt.EqAt A s (.ref x.2.1) .none false) (h:Q none s):wpAny (model prog w) A (dictFind d .none hk) Q E s:=by
 have hmem:∀ (i:Nat) (e:DictEntry),es[i]? = some e->∃ x∈xs,e=entryOfKey knd x:=λi e hi=>by
  have:e∈xs.map (entryOfKey knd):=he ▸ Array.mem_toList_iff.mpr (Array.mem_of_getElem? hi);obtain⟨x,hx,rfl⟩:=ZJ.mp this;exact⟨x,hx,rfl⟩
 have hst:∀ v∈(placesWithHash es.size (λi=>es[i]?.map (·.hash)) hk).filterMap (λi=>es[i]?.map (·.key)),∃ k' b,v=.ref b/\knd.is s.heap k' b:=λv hv=>by
  obtain⟨i,_,hi⟩:=mem_filterMap.mp hv;cases hei:es[i]? with
  | none=>rw[hei]at hi;cases hi
  | some e =>
   rw[hei]at hi;obtain rfl:e.key=v:=by simpa using hi
   obtain⟨x,hx,rfl⟩:=hmem i e hei;exact⟨x.1,x.2.1,rfl,his x hx⟩
 unfold dictFind
 try with_reducible refine Yk ?_
 refine Za (Yz ho hd ?_);dsimp only;by_cases hall:((Value.none::(placesWithHash es.size (λi=>es[i]?.map (·.hash)) hk).filterMap (λi=>es[i]?.map (·.key))).all carriedByValue)=true
 ·rw[Zg hall];have hnil:placesWithHash es.size (λi=>es[i]?.map (·.hash)) hk=[]:=by
   cases hp:placesWithHash es.size (λi=>es[i]?.map (·.hash)) hk with
   | nil=>rfl
   | cons i r =>
    exfalso
    have hi:i∈placesWithHash es.size (λi=>es[i]?.map (·.hash)) hk:=by rw[hp];exact Zp
    unfold placesWithHash at hi;have hlt:=mem_range.mp (ZX.mp hi).1;have hei:es[i]? = some es[i]:=Array.getElem?_eq_getElem hlt;have hin:(es[i]).key∈(placesWithHash es.size (λi=>es[i]?.map (·.hash)) hk).filterMap (λi=>es[i]?.map (·.key)):=mem_filterMap.mpr ⟨i,by rw[hp];exact Zp,by rw[hei];rfl⟩
    have hc:=ZR.mp hall _ (Zo _ hin);obtain⟨k',b,e,_⟩:=hst _ hin;rw[e]at hc;cases hc
  rw[hnil];unfold dictWalkPlain;erw[List.forIn_nil];exact Za (Zc (Zc h))
 ·rw[Zd hall];have hone:¬ (((placesWithHash es.size (λi=>es[i]?.map (·.hash)) hk).filterMap (λi=>es[i]?.map (·.key)))==[Value.none])=true:=λz=>by
   have z:=Z5.mp z;obtain⟨k',b,e,_⟩:=hst Value.none (by rw[z];exact Zh.mpr rfl)
   cases e
  rw[Zd hone];refine Za (Q8X hst ?_);rw[Zd (by simp)]
  refine Za ?_;refine wpAny_forIn_list _ (λrest b s'=>s'=s/\b=(none,none)) _ ?_ ?_ _ _ ⟨rfl,rfl⟩
  ·rintro i rest b s' ⟨rfl,rfl⟩;cases hei:es[i]? with
   | none=>exact Zc ⟨rfl,rfl⟩
   | some e =>
    obtain⟨x,hx,rfl⟩:=hmem i e hei;dsimp only;by_cases hh:((entryOfKey knd x).hash==hk)=true
    ·rw[Zg hh];refine Za (wpAny_dictEpoch ho hd (Za (heq x hx _ _ _ _ (Za (wpAny_dictEpoch ho hd ?_)))));rw[Zd (by simp)]
     erw[ZN,ZU];refine Za (wpAny_rule ?_)
     first | exact Zc ⟨rfl,rfl⟩ | (rw[Zd (by simp)];exact Zc ⟨rfl,rfl⟩) | (erw[Bool.false_and,ZN,ZU];first | exact Zc ⟨rfl,rfl⟩ | exact Za (Zc (Zc ⟨rfl,rfl⟩)))
    ·rw[Zd hh];exact Zc ⟨rfl,rfl⟩
  ·rintro b s' ⟨rfl,rfl⟩;exact Zc h
theorem QcG{d:Addr}{xs:List (K×Addr×Value)}{Q:Value->Shared->Prop}(hd:(d==sysModules)=false)(hm:s.heap.DictOfH knd d xs)(heq:∀ tk,∀ x∈xs,SeqAt.EqAt A.in1 { s with toks:=tk } (.ref x.2.1) .none false)
  (h:∀ tk,Q (.bool false) { s with toks:=tk }):wpAny (model prog w) A (compareOp .In .none (.ref d)) Q E s:=by
 show wpAny _ _ (do return .bool (<- contains (.ref d) .none)) Q E s
 refine Za ?_;unfold contains
 try with_reducible refine Yk ?_
 refine Za (wpAny_specialOf hm.typeIs slot_dict_contains.lookup ?_);show wpAny _ _ (if (some (Value.builtin "dict.__contains__")==some Value.none)=true then _ else _) _ E s
 rw[Zd (by rw[beq_builtin_none];exact Zv)]
 refine Za (wpAny_callSpecialUnlessNone?_slot (name:=Str.ofString "__contains__") hm.typeIs slot_dict_contains (Yu slot_dict_contains hm.typeIs entry_dict_contains ?_ (args_dict_contains _ _)));show wpAny _ _ (dictGet d .none >>= _) _ _ s;refine Za ?_;obtain⟨o,es,ep,ho,_,hdd,he,his,hn⟩:=hm;unfold dictGet
 try with_reducible refine Yk ?_
 refine Za ?_;refine (show wpAny _ _ (pyHash Value.none) _ _ s from pyHash_slot (T:="NoneType") rfl F.slot_NoneType_hash F.entry_NoneType_hash (F.args_NoneType_hash_1 _) (beq_builtin_none _) (.inl rfl) (Za (Zc (Za (wpAny_mkInt (Zc ⟨_,_,rfl,?_⟩))))));refine Za (Q5o (s:={ s with toks:=s.toks+1 }) ho hdd he his (heq _) (Zc ?_));show wpAny _ _ (Builtin.Dict.pendingKey? d .none >>= _) _ _ _;exact Za (wpAny_pendingKey_other hd (Zc ⟨_,rfl,Yn (Zc (h _))⟩))
theorem Q3v{d:Addr}(hd:(d==sysModules)=false):MeetsIn prog w (Builtin.«dict.get» ⟨[.ref d,.none],[]⟩) (λA R s=>∃ xs:List (K×Addr×Value),s.heap.DictOfH knd d xs/\(∀ A':Around,A'.units<=A.units+2->∀ tk,∀ x∈xs,SeqAt.EqAt A' { s with toks:=tk } (.ref x.2.1) .none false)/\∀ tk,R (.ok (.ret .none)) { s with toks:=tk }) :=
 .of_wp λA R s ⟨xs,hm,heq,h⟩=>by
  show wpAny _ _ (dictGet d .none >>= _) _ _ s;refine Za ?_;obtain⟨o,es,ep,ho,_,hdd,he,his,hn⟩:=hm;unfold dictGet
  try with_reducible refine Yk ?_
  refine Za ?_;refine (show wpAny _ _ (pyHash Value.none) _ _ s from pyHash_slot (T:="NoneType") rfl F.slot_NoneType_hash F.entry_NoneType_hash (F.args_NoneType_hash_1 _) (beq_builtin_none _) (.inl rfl) (Za (Zc (Za (wpAny_mkInt (Zc ⟨_,_,rfl,?_⟩))))));refine Za (Q5o (s:={ s with toks:=s.toks+1 }) ho hdd he his (heq _ (by simp[Around.in1]) _) (Zc ?_))
  show wpAny _ _ (Builtin.Dict.missed d .none >>= _) _ _ _;exact Za (wpAny_missed_other hd (Zc ⟨.none,rfl,h _⟩))
end
end L2
namespace DL
open PySem PySem.Spec L2
open PyProof.Rows hiding St
section
variable{X:Cx}
theorem Q9X(r:KT H vs xs)(hx:x∈xs):∃ p∈vs,H x.2.1=some (.tup (p.1.map kV)):=by
 induction r with
 | nil=>cases hx
 | cons h t ih =>
  rcases Z1.mp hx with rfl | hx
  ·exact⟨_,Zp,h.2.1⟩
  ·obtain⟨p,h1,h2⟩:=ih hx;exact⟨p,Zo _ h1,h2⟩
def rInO:DR2:=λx y M Q=>(∃ (n:List (List Nat)) (a:Addr) (kvs:List (List (List Nat)×D)),x=.tup (n.map .str)/\y=.ref a/\M a=some (.oth (.dct kvs))/\Q (.bl (valD kvs n).isSome) M)\/(∃ (a:Addr) (kvs:List (List (List Nat)×D)),x=.non/\y=.ref a/\M a=some (.oth (.dct kvs))/\Q (.bl false) M)
theorem QcH(hu:X.A.units+66<cLine):OpD X (compareOp .In) rInO:=by
 rintro pins s σ H x y v u Q I rx ry ⟨dx,dy,M,R,ex,ey,m,h,k⟩;rcases h with ⟨n,a,kvs,e1,e2,e3,q⟩ | ⟨a,kvs,e1,e2,e3,q⟩
 ·exact Q9W (by room) pins s σ H x y v u Q I rx ry ⟨dx,dy,M,R,ex,ey,m,⟨n,a,kvs,e1,e2,e3,q⟩,k⟩
 ·subst e1 e2;cases ex;cases ey;cases rx;cases ry;obtain⟨vs,g1,g2⟩:=m.dct e3;obtain⟨z,hd,xs,rel,dd⟩:=dt_of I.hok g1;refine QcG (knd:=tupleKind (za6 X.prog X.w)) hd dd (λtk x hx=>?_) λtk=>⟨.bl false,H,I.tok tk,rfl,k _ M _ H q (Ext.refl H) m (.bl _)⟩;obtain⟨p,hp,hk⟩:=Q9X rel hx;have I2:=I.tok tk;obtain⟨its,rv,hit,z9⟩:=I2.tuple (.of hk);exact SeqAt.EqAt.tuple_none hit (by
   have:X.A.in1.units<=X.A.units+1:=by simp[Around.in1]
   room)
def zbf(td tk:DTE):DTE:=λρ M Q=>td ρ M λx M1=>∃ (a:Addr) (kvs0:List (List (List Nat)×D)),x=.ref a/\M1 a=some (.oth (.dct kvs0))/\tk ρ M1 λy M2=>∃ kvs:List (List (List Nat)×D),M2 a=some (.oth (.dct kvs))/\((∃ n:List (List Nat),y=.tup (n.map .str)/\Q ((valD kvs n).getD .non) M2)\/(y=.non/\Q .non M2))
theorem Q8Y(hu:X.A.units+100<cLine)(hd:DE X o td)(hk:DE X k tk)(m1:M1 X o "get" apos k cpos):DE X (.Call (.Attribute o "get" apos) [k] [] cpos) (zbf td tk):=by
 rintro pins s σ H Q I ⟨ρ,M,R,sm,m,h,k⟩;refine wpAny_Call_method m1.base m1.few m1.line plainAttrs_dict slot_dict_get type_dict_get (thn (hd pins s σ H _ I ⟨ρ,M,_,sm,m,h,λx M1 xv H1 h1 x1 m1 dx=>(show ∃ M1' R1 x',(∃ a kvs0,x'=.ref a/\M1' a=some (.oth (.dct kvs0))/\tk ρ M1' R1)/\SimM X.K M1' H1/\Den X.K H1 x' xv/\Ext H H1/\∀ y M2 yv H2,R1 y M2->Ext H1 H2->SimM X.K M2 H2->Den X.K H2 y yv->∃ a kvs,x'=.ref a/\M2 a=some (.oth (.dct kvs))/\((∃ n:List (List Nat),y=.tup (n.map .str)/\R ((valD kvs n).getD .non) M2)\/(y=.non/\R .non M2)) from by
   obtain⟨a,kvs0,e1,e2,h1⟩:=h1;exact⟨M1,_,x,⟨a,kvs0,e1,e2,h1⟩,m1,dx,x1,λy M2 yv H2 ⟨kvs,q1,q2⟩ _ _ _=>⟨a,kvs,e1,q1,q2⟩⟩)⟩) λu s1 ⟨x,H1,I1,rx,M1',R1,x',⟨a,kvs0,e1,e2,h1⟩,mm,dx,x1,nxt⟩=>?_)
 subst e1;cases dx;obtain rfl:u=Value.ref a:=rx;obtain⟨vs0,g1,_⟩:=mm.dct e2;obtain⟨t1,t2,_⟩:=Q3S I1 (.inr ⟨vs0,.inl g1⟩);refine⟨t1,t2,?_⟩;rw[m1.trees];refine Ys rfl (Calls.evalArgs_plain (Yi (thn (hk pins s1 σ H1 _ I1 ⟨ρ,M1',R1,sm.ext x1,mm,h1,λy M2 yv H2 h2 x2 m2 dy=>(show ∃ M2' y',R1 y' M2'/\Ext H1 H2/\SimM X.K M2' H2/\Den X.K H2 y' yv from⟨M2,y,h2,x2,m2,dy⟩)⟩) λiv s2 ⟨yv,H2,I2,ry,M2',y',hy,x2,m2,dy⟩=>Calls.spliced_nil ?_)));obtain⟨a',kvs,e3,e4,h3⟩:=nxt y' M2' yv H2 hy x2 m2 dy;cases e3;obtain⟨vs,g3,g4⟩:=m2.dct e4;rcases h3 with ⟨n,rfl,h3⟩ | ⟨rfl,h3⟩
 ·obtain⟨b,rfl,eb⟩:=Q0T dy;refine Qc3 (ZM (Yq (by decide) _) hu) I2 (DGet.t g3 eb) ry λw' s3 I3 rw'=>⟨_,H2,I3,rw',?_⟩
  rcases g4.val n with ⟨q1,q2⟩ | ⟨d',v,q1,q2,q3⟩
  ·rw[q2];rw[q1]at h3;exact k _ M2' _ _ h3 (x1.trans x2) m2 .non
  ·rw[q2];rw[q1]at h3;exact k _ M2' _ _ h3 (x1.trans x2) m2 q3
 ·cases dy;cases ry;obtain⟨z,hd,xs,rel,dd⟩:=dt_of I2.hok g3;refine call_meetsIn slot_dict_get dd.typeIs entry_dict_get (args_dict_get_2 _ _) (Q3v (knd:=tupleKind (za6 X.prog X.w)) hd) ⟨xs,dd,λA' hA' tk x hx=>?_,λtk=>⟨.non,H2,I2.tok tk,rfl,k _ M2' _ H2 h3 (x1.trans x2) m2 .non⟩⟩;obtain⟨p,hp,hk⟩:=Q9X rel hx;obtain⟨its,rv,hit,z9⟩:=(I2.tok tk).tuple (.of hk);exact SeqAt.EqAt.tuple_none hit (by
   have:X.A.in1.units<=X.A.units+1:=by simp[Around.in1]
   room)
end
section
variable{X:Cx}
end
section
variable{X:Cx}{o k:Expr}{td tk:DTE}{pos:Pos}
end
end DL
namespace L2
open PySem PySem.Spec PyProof.Rows
theorem Q5Z(l:Addr)(items:Array Value)(n:Nat)(b:Addr)(items2:Array Value)(n2:Nat)(sl:Array (Option Value))(hc0:¬(!items.isEmpty&&Builtin.List.listTooLong (items.size+items2.size))=true)(hc1:items.size<=sizeLine)(hs2:items.size+items2.size<=sizeLine+1) :
  Meets (Builtin.«list.extend» ⟨[.ref l,.ref b],[]⟩) (λ_ R s=>s.heap.get? l=some { cls:=.type "list",dict:=none,data:=.seq items n,slots:=#[] }/\s.heap.get? b=some { cls:=.type "list",dict:=none,data:=.seq items2 n2,slots:=sl }/\R (.ok (.ret Value.none)) { s with heap:=s.heap.update l (Obj.mapSeq λx=>x++items2),toks:=s.toks }) :=
 .of_wp λprog w A R s ⟨hl,hb,h⟩=>by
  obtain⟨hp,g,d,tk,os⟩:=s;have f1:=sub_list_list;have hz:(items++items2).size<=sizeLine+1:=by rw[Array.size_append];exact hs2
  wp_walk using (wpAny_updateSeq hl rfl (hz:=hc1) (_hz':=hz)),wpAny_loadPart' hl,wpAny_loadPart' hb
  exact⟨_,rfl,h⟩
def rExtendF(K:Frag):V->List V->Hp->VK->Prop:=λx vs H Q=>∃ l b xs zs,x=.ref l/\vs=[.ref b]/\H l=some (.lst xs)/\SqL K H b zs/\xs.length+zs.length<=sizeLine/\Q .non (upd H l (.lst (xs++zs)))
theorem Q6a:MtM X "list.extend" (rExtendF X.K):=by
 rintro pins s σ H x vs v us Q I rx rv ⟨l,b,xs,zs,e1,e2,hH,hB,hz,q⟩;subst e1 e2;cases rx;obtain⟨u,rfl,ru⟩:=rv.one;cases ru;obtain⟨z,its,n,r,hl,e⟩:=I.lstM hH;obtain⟨its2,r2,⟨⟨oc,od,dd,sl⟩,n2,g1,g2,g3,g4⟩,z2⟩:=I.list hB;dsimp only at g2 g3 g4;subst g2 g3 g4;have y2:=r2.length;have sz:its.toArray.size+its2.toArray.size<=sizeLine:=by rw[ZF,ZF];room
 refine call_meets F.slot_list_extend ⟨_,e,rfl⟩ F.entry_list_extend (F.args_list_extend_2 _ _) (Q5Z l its.toArray n b its2.toArray n2 sl (by rw[notLongL sz,Bool.and_false];exact Zv) (by room) (by room)) ⟨e,g1,.non,_,I.lset (its':=its++its2) hH e (by simp) (r.append r2) (by rw[Zl];room),rfl,q⟩
end L2
namespace DL
open PySem PySem.Spec L2
open PyProof.Rows hiding St
section
variable{X:Cx}
def zbn:D->List D->DH->DK->Prop:=λd ds M Q=>∃ (a:Addr) (xs ys:List D),d=.ref a/\ds=[.lst ys]/\M a=some (.lst xs)/\xs.length+ys.length<=sizeLine/\Q .non (dupd M a (.lst (xs++ys)))
theorem Q4f:MtD X "list.extend" zbn:=by
 rintro pins s σ H x xs v us Q I rx rv ⟨d,ds,M,R,e,dn,m,⟨a,ws,ys,h1,h2,qa,hz,q⟩,k⟩;subst h1 h2;cases e;cases dn with
 | cons dl t =>
  cases t;cases dl with
  | lst fz dd =>
   obtain⟨vs,e2,d⟩:=m.get qa;exact Q6a pins s σ H _ _ v us Q I rx rv ⟨a,_,vs,_,rfl,rfl,e2,fz.sq,by rw[<- d.length,<- dd.length];exact hz,k _ _ _ _ q (Ext.lst e2) (m.write e2 (d.append dd)) .non⟩
end
end DL
namespace L2
open PySem PySem.Spec PyProof.Rows
section
variable{X:Cx}{pins:List (Addr×Obj)}{σ:St}{H:Hp}{s:Shared}{a:Addr}{v:V}{r u:Value}{A:Around}{E:Value->Shared->Prop}{kvs:List (Key×V)}{k:Key}
theorem Q7e{Q:Value->Shared->Prop}(I:Inv X pins σ H s)(e:H a=some (.dK kvs))(ry:RelV (kV k) u)(l:kvs.length<sizeLine)(rv:RelV v r)
  (h1:∀ y u s',valV kvs k=some y->RelV y u->Inv X pins σ H s'->Q u s') (h2:valV kvs k=none->∀ s',Inv X pins σ (upd H a (.dK (putK kvs k v))) s'->Q r s') :
  wpAny (model X.prog X.w) A (call (.builtin "dict.setdefault") [.ref a,u,r]) Q E s:=by
 obtain⟨z,hd,vs,rel,dd⟩:=dk_of I.hok e;have hz:vs.length<=sizeLine:=by rw[<- rel.length];exact z
 have hl:(putK kvs k v).length<=sizeLine:=by have:=Q0C kvs k v;room
 refine call_meetsIn slot_dict_setdefault dd.typeIs PySem.F.entry_dict_setdefault (PySem.F.args_dict_setdefault_3 _ _ _) (kt_meets_setdefault (za6 X.prog X.w) a (kV_is ry) hd r) ⟨vs,dd,hz,λp hp=>?_,λhn h' dd' hs=>?_⟩
 ·have q:=rel.val k;rw[hp]at q;cases ev:valV kvs k with
  | none=>rw[ev]at q;exact (show False from q).elim
  | some y =>
   rw[ev]at q;exact h1 y p _ ev q (I.tok _)
 ·have q:=rel.val k;rw[hn]at q;have ev:valV kvs k=none:=by
   cases ev:valV kvs k with
   | none=>rfl
   | some y=>rw[ev]at q;exact (show False from q).elim
  have he:∃ q,h'.get? a=some q:=let ⟨q,_,_,hq,_⟩:=dd';⟨q,hq⟩;exact h2 ev _ (Q2c I (by rw[e];exact Yp) hs he (Q9N hl hd (rel.put k rv) dd'))
end
def tKSetd(td ty tx:TE):TE:=λσ H Q=>td σ H λx H1=>∃ a,x=.ref a/\IsD H1 a/\ty σ H1 λy H2=>tx σ H2 λz H3=>∃ kvs k,H3 a=some (.dK kvs)/\y=kV k/\kvs.length<sizeLine /\
 (∀ v,valV kvs k=some v->Q v H3)/\(valV kvs k=none->Q z (upd H3 a (.dK (putK kvs k z))))
theorem Q8Z(ho:PE X o td)(he:PE X e ty)(hf:PE X f tx)(m:M2 X o "setdefault" apos e f cpos):PE X (.Call (.Attribute o "setdefault" apos) [e,f] [] cpos) (tKSetd td ty tx):=by
 intro pins s σ H Q I h;refine wpAny_Call_method m.base m.few m.line plainAttrs_dict slot_dict_setdefault PySem.F.type_dict_setdefault (thn (ho pins s σ H _ I h) λu s1 z1=>?_);obtain⟨x,H1,I1,rx,a,ex,d,q1⟩:=z1;subst ex;obtain rfl:u=Value.ref a:=rx;obtain⟨t1,t2,_⟩:=Q3S I1 d;refine⟨t1,t2,?_⟩;rw[m.trees];refine Ys rfl (Calls.evalArgs_plain (Yi (thn (he pins s1 σ H1 _ I1 q1) λiv s2 ⟨y,H2,I2,ry,q2⟩ =>
  Yi (thn (hf pins s2 σ H2 _ I2 q2) λfv s3 z3=>Calls.spliced_nil ?_))))
 obtain⟨z,H3,I3,rz,kvs,k,ea,ey,hl,q3,q4⟩:=z3;subst ey;exact Q7e I3 ea ry hl rz (λv u' s' ev rv I'=>⟨v,H3,I',rv,q3 v ev⟩) λev s' I'=>⟨z,_,I',rz,q4 ev⟩
section
variable{X:Cx}{pins:List (Addr×Obj)}{σ:St}{H:Hp}{s:Shared}{a b:Addr}{v:V}{r:Value}{A:Around}{E:Value->Shared->Prop}{kvs:List (List Key×V)}{k:List Key}
end
end L2
namespace DL
open PySem PySem.Spec L2
open PyProof.Rows hiding St
section
variable{X:Cx}{o k:Expr}{apos cpos:Pos}{td tk:DTE}
def zba(td tk tx:DTE):DTE:=λρ M Q=>td ρ M λx M1=>∃ (a:Addr) (kvs0:List (List Nat×D)),x=.ref a/\M1 a=some (.oth (.dkt kvs0))/\tk ρ M1 λy M2=>tx ρ M2 λz M3=>∃ (n:List Nat) (kvs:List (List Nat×D)),y=.str n/\M3 a=some (.oth (.dkt kvs))/\kvs.length<sizeLine /\
 (∀ d,valT kvs n=some d->Q d M3)/\(valT kvs n=none->Q z (dupd M3 a (.oth (.dkt (putT kvs n z)))))
theorem Q9a(hd:DE X o td)(hk:DE X k tk)(hf:DE X f tx)(m2:M2 X o "setdefault" apos k f cpos):DE X (.Call (.Attribute o "setdefault" apos) [k,f] [] cpos) (zba td tk tx) :=
 (Q8Z hd hk hf m2).imp λσ H Q ⟨ρ,M,R,s,m,h,k⟩=>⟨ρ,M,_,s,m,h,λx M1 xv H1 ⟨a,kvs0,e1,e2,h1⟩ x1 m1 dx=>by
  subst e1;cases dx;obtain⟨vs0,g1,_⟩:=m1.dkt e2;refine⟨a,rfl,.inl ⟨vs0,.inl g1⟩,ρ,M1,_,s.ext x1,m1,h1,λy M2 yv H2 h2 x2 m2 dy=>⟨ρ,M2,_,(s.ext x1).ext x2,m2,h2,λz M3 zv H3 ⟨n,kvs,e3,e4,e5,h3,h4⟩ x3 m3 dz=>?_⟩⟩;subst e3;cases dy;obtain⟨vs,g3,g4⟩:=m3.dkt e4;have xx:=(x1.trans x2).trans x3;refine⟨vs,tkk n,g3,rfl,by rw[<- g4.length];exact e5,λv hv=>?_,λhv=>?_⟩
  ·rcases g4.val n with ⟨q1,q2⟩ | ⟨d',v',q1,q2,q3⟩
   ·rw[q2]at hv;cases hv
   ·rw[q2]at hv;cases hv;exact k _ M3 _ _ (h3 d' q1) xx m3 q3
  ·rcases g4.val n with ⟨q1,q2⟩ | ⟨d',v',q1,q2,q3⟩
   ·have y:Ext H3 (upd H3 a (.dK (putK vs (tkk n) zv))):=Ext.mut g3 (λ_ z=>nomatch z) (λ_ _ z=>nomatch z)
    exact k _ _ _ _ (h4 q1) (xx.trans y) (m3.put y ⟨_,Q0g,Paired.mapP (g4.put n dz) λp q z=>⟨z.1,Den.ext y z.2⟩⟩) (dz.ext y)
   ·rw[q2]at hv;cases hv⟩
end
section
variable{X:Cx}{o value:Expr}{pos pos':Pos}{tv:DTE}
end
end DL
namespace L2
open PySem PySem.Spec PyProof.Rows
def IsDct(u:HO):Prop:=(∃ kvs,u=.dK kvs)\/∃ kvs,u=.dT kvs
noncomputable def zbI:HO->Nat
 | .dK kvs=>kvs.length
 | .dT kvs=>kvs.length
 | _=>0
def KeyAt(H:Hp)(i:Nat)(x:V):HO->Prop
 | .dK kvs=>∃ p,kvs[i]? = some p/\x=kV p.1
 | .dT kvs=>∃ p b,kvs[i]? = some p/\x=.ref b/\H b=some (.tup (p.1.map kV))
 | _=>False
noncomputable def ItF(a:Addr)(ob:Obj)(u:HO):It:=⟨λi H=>H a=some (.frz ob u)/\i<zbI u,λi H x H'=>H'=H/\KeyAt H i x u,λi H=>H a=some (.frz ob u)/\zbI u<=i⟩
theorem QcI(h:(za6 P w).is k v=true):RelV (kV k) v:=by
 rcases Q0o h with ⟨i,t,rfl,rfl⟩ | ⟨x,t,rfl,rfl⟩
 ·exact⟨t,rfl⟩
 ·exact⟨t,rfl⟩
theorem Q0Y{α β:Type}{F:α->β->Prop}:∀ {xs:List α} {ys:List β} {i:Nat} {y:β},Paired F xs ys->ys[i]? = some y->∃ x,xs[i]? = some x/\F x y
 | _,_,0,_,.cons r t,h2=>by cases h2;exact⟨_,rfl,r⟩
 | _,_,i+1,_,.cons r t,h2=>Q0Y (i:=i) t h2
 | _,_,_,_,.nil,h1=>by cases h1
theorem Q5p{prog:Program}{w:World}{K:Type}[DecidableEq K]{knd:KeyKind prog w K}:∀ {es:List DictEntry} {kvs:List (K×Value)},Pairs knd es kvs->∀ {i:Nat} {e:DictEntry},es[i]? = some e->∃ kv,kvs[i]? = some kv/\knd.is kv.1 e.key=true
 | _,_,.nil,_,_,h=>by cases h
 | _,_,.cons h1 h2 t,0,_,h=>by cases h;exact⟨_,rfl,h1⟩
 | _,_,.cons h1 h2 t,i+1,_,h=>Q5p t (i:=i) h
section
variable{P:Program}{w:World}{H:Hp}{h:Heap}{a:Addr}{ob:Obj}{u:HO}
theorem fz_at(hu:IsDct u)(ok:HOk P w H h)(e:H a=some (.frz ob u)):h.get? a=some ob/\(a==sysModules)=false/\ob.ExactDict/\∃ es ep,ob.data=.dict es ep/\es.size=zbI u/\zbI u<=sizeLine /\
  ∀ (i:Nat) (hi:i<es.size),∃ x,KeyAt H i x u/\RelV x es[i].key:=by
 rcases hu with ⟨kvs,rfl⟩ | ⟨kvs,rfl⟩
 ·obtain⟨e1,z,y,vs,r,o,es,ep,g1,g2,g3,g4,g5,g6⟩:=ok a _ e;rw[e1]at g1;cases g1;have sz:es.size=vs.length:=by rw[<- Yd];exact g5.length
  refine⟨e1,y,g2,es,ep,g3,sz.trans r.length.symm,z,λi hi=>?_⟩;have q:es.toList[i]? = some es[i]:=by simp[hi]
  obtain⟨kv,k1,k2⟩:=Q5p g5 q;obtain⟨p,p1,p2⟩:=Q0Y r k1;refine⟨kV p.1,⟨p,p1,rfl⟩,?_⟩;rw[p2.1];exact QcI k2
 ·obtain⟨e1,z,y,xs,r,o,es,ep,g1,g2,g3,g4,g5⟩:=ok a _ e;rw[e1]at g1;cases g1;have sz:es.size=xs.length:=by have:=congrArg List.length g4;rwa [Zb,Yd]at this
  refine⟨e1,y,g2,es,ep,g3,sz.trans (ZT r).symm,z,λi hi=>?_⟩;have hx:i<xs.length:=by rw[<- sz];exact hi
  have q:es.toList[i]? = some es[i]:=by simp[hi]
  rw[g4,Zx,Zi hx]at q;have q2:=ZE q;obtain⟨p,p1,p2,p3,p4⟩:=Q0Y r (Zi hx);refine⟨.ref xs[i].2.1,⟨p,xs[i].2.1,p1,rfl,p3⟩,?_⟩;rw[<- q2];rfl
end
theorem Q6b{P:Program}{w:World}{K:Frag}{tg:Expr}(a it:Addr)(ob:Obj){u:HO}(hu:IsDct u){es:Array DictEntry}{ep:Nat}(hob:ob.data=.dict es ep)(sz:es.size=zbI u) :
  Turn P w K tg (ItF a ob u) [it] it (λi h=>h.IsKeyIter it a i es.size ep) where
 mem:=by simp
 obj:=λi h st b hb=>by
  have e:b=it:=by simpa using hb
  subst e;obtain⟨o,e,c,d⟩:=st;exact⟨o,e,λv z=>by rw[d]at z;cases z⟩
 keep:=λi h h' st k=>st.at λo e=>k it (by simp) o e
 item:=by
  intro X hP hw hK hc i pins s σ H E I hf st hg;subst hP hw hK;obtain⟨e,lt⟩:=hg;obtain⟨h1,_,_,es',ep',h2,_,_,el⟩:=fz_at hu I.hok e;rw[hob]at h2;cases h2;obtain⟨f0,f1,f2,f3,f4,f5⟩:=hf it (by simp)
  obtain⟨x,q1,q2⟩:=el i (by room)
  refine Q6I st h1 hob (by room) λh' st' sb=>?_
  have I1:Inv X pins σ H { s with heap:=h' }:=I.turned (t':=s.toks) (λb o hb e=>(sb.2 b hb).trans e) f0 f1 f3 f4 f5;obtain⟨oi,w1,w2,w3⟩:=id st';exact⟨_,rfl,go_of (s:={ s with heap:=h' }) w1 w2 w3 (by decide) ⟨x,H,I1,q2,⟨rfl,q1⟩,st',λb hb=>(hf b hb).1⟩⟩
 done:=by
  intro X hP hw hK hc i pins s σ H E I hf st hg;subst hP hw hK;obtain⟨e,ge⟩:=hg;obtain⟨h1,_,_,es',ep',h2,_,_,el⟩:=fz_at hu I.hok e;obtain⟨f0,f1,f2,f3,f4,f5⟩:=hf it (by simp)
  exact Q8D (I.ok.hd hc) st h1 hob (by room) λh' eb=>⟨rfl,I.turned (t':=s.toks) (λb o hb e=>eb b o hb e) f0 f1 f3 f4 f5⟩
 self:=λ_ _ _ _ _ st h=>wpAny_pyIter_keyiter st h
theorem Inv.frozenD(hu:IsDct u)(I:Inv X pins σ H s)(h:H a=some u) :
  ∃ o,Inv X pins σ (upd H a (.frz o u)) s:=by
 have hx:=I.hok a _ h;have nt:∀ c ys,H c=some (.tup ys)->c≠a:=λc ys q w=>by
  rw[w,h]at q;rcases hu with ⟨kvs,rfl⟩ | ⟨kvs,rfl⟩ <;> cases q
 have nf:∀ c ob v,H c=some (.frz ob v)->c≠a:=λc ob v q w=>by
  rw[w,h]at q;rcases hu with ⟨kvs,rfl⟩ | ⟨kvs,rfl⟩ <;> cases q
 have nb:∀ c ps,H c=some (.tbl ps)->c≠a:=λc ob q w=>by
  rw[w,h]at q;rcases hu with ⟨kvs,rfl⟩ | ⟨kvs,rfl⟩ <;> cases q
 have no:∀ c y,H c=some (.own y)->c≠a:=λc ob q w=>by
  rw[w,h]at q;rcases hu with ⟨kvs,rfl⟩ | ⟨kvs,rfl⟩ <;> cases q
 have hg:∃ ob,s.heap.get? a=some ob:=by
  rcases hu with ⟨kvs,rfl⟩ | ⟨kvs,rfl⟩
  ·obtain⟨_,_,_,_,o,_,_,g,_⟩:=hx;exact⟨o,g⟩
  ·obtain⟨_,_,_,_,o,_,_,g,_⟩:=hx;exact⟨o,g⟩
 obtain⟨ob,hg⟩:=hg;refine⟨ob,I.un (h':=s.heap) (t':=s.toks) ⟨λb u q _ _ _=>q,λb u q _ _ _=>⟨u.slots,q⟩,λb u _ q _=>?_,λb u q _=>⟨u,q⟩,λb ys q=>?_,λb u ys q=>?_,λb ps q=>?_⟩ λb v q=>?_⟩
 ·rw[Q0d λw=>by rw[w,h]at q;cases q];exact q
 ·rw[Q0d (nt _ _ q)];exact q
 ·rw[Q0d (nf _ _ _ q)];exact q
 ·exact⟨#[],by rw[Q0d (nb _ _ q),q];simp⟩
 ·by_cases hb:b=a
  ·subst hb;rw[Q0g]at q;cases q;exact⟨hg,hx.stay (λ_ _ _ q=>q) (λc q=>by rw[Q0d (no _ _ q)];exact q) λc ys q=>by rw[Q0d (nt _ _ q)];exact q⟩
  ·rw[Q0d hb]at q;exact (I.hok b v q).stay (λ_ _ _ q=>q) (λc q=>by rw[Q0d (no _ _ q)];exact q) λc ys q=>by rw[Q0d (nt _ _ q)];exact q
section
variable{X:Cx}{tg:Expr}
def iKeysF(tl:TE):TI:=λσ H R=>tl σ H λx H1=>∃ a u,x=.ref a/\IsDct u/\H1 a=some u/\∀ ob,R (ItF a ob u) (upd H1 a (.frz ob u))
theorem Q9b{l:Expr}{tl:TE}(hl:PE X l tl):PI X tg l (iKeysF tl):=by
 intro pins s σ H R I h;refine thn (hl pins s σ H _ I h) λv s1 zz=>?_;obtain⟨x,H1,I1,r1,a,u,e,hu,hq,q⟩:=zz;subst e;cases r1;obtain⟨ob,I2⟩:=I1.frozenD hu hq;obtain⟨h1,hd,hx,es,ep,h2,sz,_,_⟩:=fz_at hu I2.hok Q0g;refine Q6H hd ⟨ob,h1,hx.1⟩ h1 h2 ?_;refine⟨s1.heap.objs.size,[s1.heap.objs.size],_,_,_,rfl,I2.kept (t':=s1.toks) λb o e=>Zj _ e,Q6b a _ ob hu h2 sz,⟨_,Z0 _ rfl,rfl,rfl⟩,λb hb=>?_,q ob⟩;have e:b=s1.heap.objs.size:=by simpa using hb
 subst e;exact I2.fpOk (Zq _) (I2.hok.fresh (Zq _))
end
section
variable{X:Cx}{pins:List (Addr×Obj)}{σ:St}{H:Hp}{s:Shared}{A:Around}{E:Value->Shared->Prop}
end
end L2
namespace DL
open PySem PySem.Spec L2
open PyProof.Rows hiding St
def gdT(x:List Nat):Prop:=(x.all λc=>decide (c<1114112))=true
section
variable{K:Frag}{H:Hp}{M:DH}{a:Addr}{ob:Obj}
theorem SimM.dcf(h:SimM K M H)(e:M a=some (.oth (.dcf ob kvs))):∃ vs,H a=some (.frz ob (.dT vs))/\KDs K H kvs vs:=h a _ e
theorem Q4I:∀ {n:List (List Nat)},(∀ w∈n,gdT w)->Dens K H (n.map .str) ((nk n).map kV)
 | [],_=>.nil
 | x::r,h=>.cons (.str x (h x Zp)) (Q4I λw hw=>h w (Zo _ hw))
theorem Yields.dkeys{Cd:DH->Prop}(h0:H a=some (.frz ob (.dT vs)))(r:KDs K H kvs vs)(hg:∀ p∈kvs,∀ w∈p.1,gdT w):Yields K (ItF a ob (.dT vs)) (kvs.map λp=>.tup (p.1.map .str)) Cd H where
 go:=λi H' M x m c hi=>⟨x.frz _ _ _ h0,by rw[Zb,ZT r]at hi;exact hi⟩
 yld:=λi H' M x H'' xx m c h hi=>by
  obtain⟨rfl,p,b,q1,rfl,q2⟩:=h;obtain⟨p',p1,p2,p3⟩:=Q0Y r q1;refine⟨Ext.refl _,m,.tup (p'.1.map .str),by rw[Zx,p1];rfl,?_⟩
  rw[p2]at q2;exact .tup q2 (Q4I (hg p' (Z6 p1)))
 stop:=λi H' M x m c hi=>⟨x.frz _ _ _ h0,by rw[Zb,ZT r]at hi;exact hi⟩
end
section
variable{X:Cx}{tg e o k:Expr}{te td tk:DTE}{pos:Pos}
def zb4(te:DTE):DTI:=λρ M R=>te ρ M λd M1=>∃ (a:Addr) (kvs:List (List (List Nat)×D)),d=.ref a/\M1 a=some (.oth (.dct kvs))/\(∀ p∈kvs,∀ w∈p.1,gdT w)/\∀ ob,R (kvs.map λp=>.tup (p.1.map .str)) (λ_=>True) (dupd M1 a (.oth (.dcf ob kvs)))
theorem Q9c(he:DE X e te):DI X tg e (zb4 te) :=
 (Q9b he).imp λσ H R ⟨ρ,M,RD,s,m,h,k⟩=>⟨ρ,M,_,s,m,h,λd M1 v H1 ⟨a,kvs,e1,e2,hg,h1⟩ x1 m1 den=>by
  subst e1;cases den;obtain⟨vs,g1,g2⟩:=m1.dct e2;refine⟨a,.dT vs,rfl,.inr ⟨_,rfl⟩,g1,λob=>?_⟩;have xx:Ext H1 (upd H1 a (.frz ob (.dT vs))):=Ext.mut g1 (λ_ z=>nomatch z) (λ_ _ z=>nomatch z)
  have g3:KDs X.K (upd H1 a (.frz ob (.dT vs))) kvs vs:=Paired.mapP g2 λp q z=>⟨z.1,Den.ext xx z.2⟩;exact k _ _ _ _ _ (h1 ob) (x1.trans xx) (m1.put (u:=.oth (.dcf ob kvs)) xx ⟨vs,Q0g,g3⟩) (Yields.dkeys Q0g g3 hg)⟩
def rInF:DR2:=λx y M Q=>∃ (n:List (List Nat)) (a:Addr) (ob:Obj) (kvs:List (List (List Nat)×D)),x=.tup (n.map .str)/\y=.ref a/\M a=some (.oth (.dcf ob kvs))/\Q (.bl (valD kvs n).isSome) M
theorem QcJ(hu:X.A.units+1<cLine):OpD X (compareOp .In) rInF:=by
 rintro pins s σ H x y v u Q I rx ry ⟨dx,dy,M,R,ex,ey,m,⟨n,a,ob,kvs,e1,e2,e3,q⟩,k⟩;subst e1 e2;obtain⟨b,rfl,eb⟩:=Q0T ex;cases ey;obtain⟨vs,g1,g2⟩:=m.dcf e3;cases ry;refine d_in hu I (.inr ⟨vs,nk n,b,.inr ⟨ob,g1⟩,rfl,eb,rfl⟩) rx λs' I'=>⟨.bl (valV vs (nk n)).isSome,H,I',rfl,?_⟩;rw[Q3u g2];exact k _ M _ H q (Ext.refl H) m (.bl _)
end
end DL
namespace DL
open PySem PySem.Spec PyProof.Rows L2
noncomputable abbrev tupS(z:List (List Nat)):D:=.tup (z.map .str)
section
variable{X:Cx}{pins:List (Addr×Obj)}{σ:L2.St}{H:Hp}{s:Shared}
theorem paired_at{K:Frag}:∀ {zs:List (List (List Nat))} {vs:List V} {its:List Value},Dens K H (zs.map tupS) vs->Vals vs its->∀ (i:Nat) (u:Value),its[i]? = some u->∃ z v,zs[i]? = some z/\Den K H (tupS z) v/\RelV v u
 | [],_,_,.nil,.nil,i,u,h=>by simp at h
 | z::zs,_,_,.cons d t,.cons r q,0,u,h=>by cases h;exact⟨z,_,rfl,d,r⟩
 | z::zs,_,_,.cons d t,.cons r q,i+1,u,h=>paired_at t q i u h
variable{e:Expr}{es:List Expr}{p p' pos pos':Pos}{t:DTA}
end
end DL
namespace L2
open PySem PySem.Spec PyProof.Rows
theorem Inv.thawD(I:Inv X pins σ H s)(h:H a=some (.frz ob (.dT kvs)))(n:∀ o u,X.H₀ a≠some (.frz o u)):Inv X pins σ (upd H a (.dT kvs)) s:=by
 have na:∀ c u,H c=some u->(∀ o v,u≠.frz o v)->c≠a:=λc u q z w=>by
  rw[w,h]at q;cases q;exact z _ _ rfl
 have nn:∀ c,H c=none->upd H a (.dT kvs) c=none:=λc q=>by
  rw[Q0d λw=>by rw[w,h]at q;cases q]
  exact q
 have no:∀ b c,H c=some (.own b)->upd H a (.dT kvs) c=some (.own b):=λb c q=>by rw[Q0d (na c _ q λ_ _ z=>nomatch z)];exact q
 have nt:∀ c ys,H c=some (.tup ys)->upd H a (.dT kvs) c=some (.tup ys):=λc ys q=>by rw[Q0d (na c _ q λ_ _ z=>nomatch z)];exact q
 exact { I with
  base:={ I.base with
   free:=λb o e1 e2 e3=>nn b (I.base.free b o e1 e2 e3)
   tups:=λb xs e=>nt b xs (I.base.tups b xs e)
   frzs:=λb o u e=>by rw[Q0d λw=>n o u (by rw[<- w];exact e)];exact I.base.frzs b o u e
   tbls:=λb ps e=>by
    obtain⟨more,q⟩:=I.base.tbls b ps e;exact⟨more,by rw[Q0d (na b _ q λ_ _ z=>nomatch z)];exact q⟩ }
  free:=nn _ I.free
  freeC:=λx c e=>nn _ (I.freeC x c e)
  pin:=λp hp=>by
   obtain⟨e1,e2,e3⟩:=I.pin p hp;exact⟨e1,nn _ e2,e3⟩
  hok:=λb u q=>by
   by_cases hb:b=a
   ·subst hb;rw[Q0g]at q;cases q;exact (I.hok b _ h).2.stay (λ_ _ _ q=>q) (no b) nt
   ·rw[Q0d hb]at q;exact (I.hok b u q).stay (λ_ _ _ q=>q) (no b) nt }
end L2
namespace DL
open PySem PySem.Spec L2
section
variable{K:Frag}{H:Hp}{a:Addr}{ob:Obj}{kvs:List (List Key×V)}
mutual
theorem Den.thaw(h:H a=some (.frz ob (.dT kvs))):∀ {d:D} {v:V},Den K H d v->Den K (upd H a (.dT kvs)) d v
 | _,_,.non=>.non
 | _,_,.bl b=>.bl b
 | _,_,.int i=>.int i
 | _,_,.str s z=>.str s z
 | _,_,.ref a=>.ref a
 | _,_,.tup e t=>.tup (by rw[Q0d λw=>by rw[w,h]at e;cases e];exact e) (Dens.thaw h t)
 | _,_,.lst e t=>.lst (by
   rcases e with ⟨o,e⟩ | e
   ·exact .inl ⟨o,by rw[Q0d λw=>by rw[w,h]at e;cases e];exact e⟩
   ·exact .inr e) (Dens.thaw h t)
theorem Dens.thaw(h:H a=some (.frz ob (.dT kvs))):∀ {ds:List D} {vs:List V},Dens K H ds vs->Dens K (upd H a (.dT kvs)) ds vs
 | _,_,.nil=>.nil
 | _,_,.cons e t=>.cons (Den.thaw h e) (Dens.thaw h t)
end
theorem MOk.thaw(h:H a=some (.frz ob (.dT kvs)))(n:b≠a)(m:MOk K H b o):MOk K (upd H a (.dT kvs)) b o:=by
 have e:upd H a (.dT kvs) b=H b:=Q0d n;cases o with
 | lst ds=>obtain⟨vs,e1,e2⟩:=m;exact⟨vs,e.trans e1,e2.thaw h⟩
 | oth o =>
  cases o with
  | dct kvs=>obtain⟨vs,e1,e2⟩:=m;exact⟨vs,e.trans e1,Paired.mapP e2 λp q z=>⟨z.1,z.2.thaw h⟩⟩
  | dkt kvs=>obtain⟨vs,e1,e2⟩:=m;exact⟨vs,e.trans e1,Paired.mapP e2 λp q z=>⟨z.1,z.2.thaw h⟩⟩
  | dkf ob kvs=>obtain⟨vs,e1,e2⟩:=m;exact⟨vs,e.trans e1,Paired.mapP e2 λp q z=>⟨z.1,z.2.thaw h⟩⟩
  | dcf ob kvs=>obtain⟨vs,e1,e2⟩:=m;exact⟨vs,e.trans e1,Paired.mapP e2 λp q z=>⟨z.1,z.2.thaw h⟩⟩
  | ins c fs=>obtain⟨C,dx,vs,e0,e1,e2⟩:=m;exact⟨C,dx,vs,e0,e.trans e1,Paired.mapP e2 λp q z=>⟨z.1,z.2.thaw h⟩⟩
end
section
variable{X:Cx}{e:Expr}{te:DTE}
def dThw(te:DTE):DTE:=λρ M Q=>∃ (a:Addr) (kvs:List (List (List Nat)×D)),M a=some (.oth (.dct kvs))/\te ρ M λd M1=>∃ (ob:Obj) (kvs:List (List (List Nat)×D)),M1 a=some (.oth (.dcf ob kvs))/\Q d (dupd M1 a (.oth (.dct kvs)))
theorem QcK(he:DE X e te):DE X e (dThw te):=by
 rintro pins s σ H Q I ⟨ρ,M,R,ss,m,⟨a,kv0,h0,h⟩,k⟩;obtain⟨vs0,g0,_⟩:=m.dct h0;have n0:∀ o u,X.H₀ a≠some (.frz o u):=λo u z=>by
  have:=I.base.frzs a o u z;rw[g0]at this;cases this
 refine thn (he pins s σ H (λv H'=>∃ d M1,(∃ (ob:Obj) (kvs:List (List (List Nat)×D)),M1 a=some (.oth (.dcf ob kvs))/\R d (dupd M1 a (.oth (.dct kvs))))/\Ext H H'/\SimM X.K M1 H'/\Den X.K H' d v) I ⟨ρ,M,_,ss,m,h,λd M1 v H1 h1 x1 m1 e1=>⟨d,M1,h1,x1,m1,e1⟩⟩) λu s' z=>?_;obtain⟨v,H',I',r,d,M1,⟨ob,kvs,ha,q⟩,x,m',den⟩:=z;obtain⟨vs,g1,g2⟩:=m'.dcf ha;refine⟨v,_,I'.thawD g1 n0,r,k _ _ _ _ q ⟨λb xs e=>?_,λb o u e=>?_⟩ (λb o e=>?_) (den.thaw g1)⟩
 ·rw[Q0d λw=>by rw[w,g0]at e;cases e];exact x.tup b xs e
 ·rw[Q0d λw=>by rw[w,g0]at e;cases e];exact x.frz b o u e
 ·by_cases hb:b=a
  ·subst hb;rw[Q0c]at e;cases e;exact⟨vs,Q0g,Paired.mapP g2 λp q z=>⟨z.1,z.2.thaw g1⟩⟩
  ·rw[Q0a hb]at e;exact (m' b o e).thaw g1 hb
end
end DL
namespace L2
open PySem PySem.Spec PySem.W PyProof.Rows
theorem Q4J(d:Addr)(hd:(d==sysModules)=false) :
  MeetsIn P w (Builtin.«dict.items» ⟨[.ref d],[]⟩) (λ_ R s=>s.TypeIs (.ref d) "dict" /\ R (.ok (.ret (.ref s.heap.objs.size))) { s with heap:=s.heap.push { cls:=.type "dict_items",data:=.fields #[.ref d] } }):=by
 refine .of_wp λA R s q=>?_;have nm:¬ ((d==sysModules)=true):=by rw[hd];exact Zv
 refine Za (m:=Builtin.Dict.noArgs "items" ⟨[.ref d],[]⟩) ?_;unfold Builtin.Dict.noArgs;refine Za (wpAny_notOrdered_dict q.1 (Zc (a:=d) ?_));show wpAny _ _ (Builtin.Dict.showsAll d >>= _) _ _ s;unfold Builtin.Dict.showsAll;rw[Zd nm];exact Za (Zc (Za (ZQ (Zc ⟨_,rfl,q.2⟩))))
theorem Q3g{α β:Type}{F:α->β->Prop}:∀ {xs:List α} {ys:List β} {i:Nat} {x:α},Paired F xs ys->xs[i]? = some x->∃ y,ys[i]? = some y/\F x y
 | _,_,0,_,.cons r t,h2=>by cases h2;exact⟨_,rfl,r⟩
 | _,_,i+1,_,.cons r t,h2=>Q3g (i:=i) t h2
 | _,_,_,_,.nil,h1=>by cases h1
section
variable{X:Cx}{o:Expr}{p pos apos cpos:Pos}{td:TE}
def tItems(td:TE):TE:=λσ H Q=>td σ H λx H1=>∃ a kvs,x=.ref a/\H1 a=some (.dT kvs) /\
 ∀ (as:List Addr) (l:Addr) (H2:Hp),as.length=kvs.length->(∀ b u,H1 b=some u->H2 b=some u)->(∀ (j:Nat) (b:Addr) (k:List Key) (v:V),as[j]? = some b->kvs[j]? = some (k,v)->∃ c,H1 c=some (.tup (k.map kV))/\H2 b=some (.tup [.ref c,v]))->H2 l=none->Q (.ref l) (upd H2 l (.lst (as.map .ref)))
theorem Q9d(hc:X.calm=true)(hg:Gl X "list")(hm:X.mg "list" = none)(ho:PE X o td)(hb:attributeBase o "items" X.env (eval o X.env)=eval o X.env)(hl:(apos.endLine==cpos.line)=true):PE X (.Call (.Name "list" p) [.Call (.Attribute o "items" apos) [] [] cpos] [] pos) (tItems td):=by
 intro pins s σ H Q I h;refine wpAny_Call_Name_kw (Q3a I hg hm (by rfl) ?_)
 refine PyProof.Rows.callWith_type1 (Yi ?_) rfl rfl;refine wpAny_Call_method0_late hb hl (thn (ho pins s σ H _ I h) λv s1 zz=>?_);obtain⟨x,H1,I1,r1,a,kvs,e,hq,q⟩:=zz;subst e;cases r1;obtain⟨t1,t2,hd⟩:=Q3S I1 (.inr ⟨kvs,.inl hq⟩);obtain⟨zz,_,xs,r,ob,es,ep,g1,g2,g3,g4,g5⟩:=I1.hok a _ hq;have sz:=size_of_entries g4;have ln:=r.length;refine⟨"dict","dict.items",plainAttrs_dict,PySem.F.slot_dict_items,PySem.F.type_dict_items,t1,t2,Ys rfl (PySem.evalArgs_none ?_)⟩;refine call_meetsIn PySem.F.slot_dict_items t1 PySem.F.entry_dict_items (PySem.F.args_dict_items_1 _) (Q4J a hd) ⟨t1,Calls.spliced_nil ?_⟩;refine Qax (I1.ok.hd hc) ⟨_,Z0 _ rfl,rfl,rfl⟩ (Zj _ g1) g3 (by room) λh' tk acc c as kp hS al hG hacc=>?_
 have kp1:∀ b u,s1.heap.get? b=some u->h'.get? b=some u:=λb u e=>kp b u (Zj _ e);have I2:=I1.kept (t':=tk) (h':=h') kp1;have hz:(s1.heap.push { cls:=.type "dict_items",data:=.fields #[.ref a] }).objs.size=s1.heap.objs.size+1:=Heap.size_push ..;have above:∀ b∈as,s1.heap.objs.size<=b/\b≠s1.heap.objs.size+1:=λb hb=>by
  have z:s1.heap.objs.size+1<b:=by
   have:=hG.above b hb
   rwa [hz]at this
  exact⟨le_of_lt (lt_trans (lt_succ_self _) z),ne_of_gt z⟩
 have ent:∀ (j:Nat) (b:Addr) (q:V×V),as[j]? = some b->(xs.zip (kvs.map (·.2)))[j]?.map (λz=>(V.ref z.1.2.1,z.2))=some q->∃ k v,RelV q.1 k/\RelV q.2 v/\h'.get? b=some (zaE k v):=λj b q h1 h2=>by
  obtain⟨hj,hp⟩:=hG.pairs j b h1;have e1:=entry_at g4 j;rw[Array.getElem?_eq_getElem hj]at e1;obtain⟨x,ex,ee⟩:=Zu.mp e1.symm;obtain⟨y,ey,r1,r2,r3⟩:=Q0Y r ex;have e3:(xs.zip (kvs.map (·.2)))[j]? = some (x,y.2):=by
   rw[List.getElem?_zip_eq_some];exact⟨ex,by rw[Zx,ey];rfl⟩
  rw[e3]at h2;cases h2;refine⟨_,_,?_,?_,hp⟩
  ·rw[<- ee];rfl
  ·rw[<- ee];exact r3
 have zl:as.length=((xs.zip (kvs.map (·.2))).map λz=>(V.ref z.1.2.1,z.2)).length:=by
  rw[Zb,List.length_zip,Zb,al];room
 obtain⟨H2,I3,e1,e2⟩:=Q2A as ((xs.zip (kvs.map (·.2))).map λz=>(V.ref z.1.2.1,z.2)) I2 zl (hG.rise.imp λz=>ZO z) (λb hb=>⟨I1.fpOk (above b hb).1 (I1.hok.fresh (above b hb).1),Zr I1.sz (above b hb).1⟩) λj b q h1 h2=>ent j b q h1 (by rw[<- Zx];exact h2)
 have nas:∀ b u,H1 b=some u->b∉as:=λb u e z=>by
  rw[I1.hok.fresh (above b z).1]at e;cases e
 have lf:H2 (s1.heap.objs.size+1)=none:=by
  rw[e1 _ λz=>(above _ z).2 rfl];exact I1.hok.fresh (le_succ _)
 rw[hz]at hS ⊢;have fp:FpOk X pins H2 (s1.heap.objs.size+1):=I1.fpOk (le_succ _) lf;have I4:=I3.adopt (o:=.lst (as.map V.ref)) fp (Zr I1.sz (le_succ _)) ⟨by rw[Zb];room,as.map Value.ref,c,Q3T as,by rw[<- hacc,Array.toArray_toList];exact hS⟩
 refine⟨.ref (s1.heap.objs.size+1),_,I4,rfl,q as _ H2 (by room) (λb u e=>by rw[e1 b (nas b u e)];exact e) (λj b k v h1 h2=>?_) lf⟩
 obtain⟨x,ex,r1,r2,r3⟩:=Q3g r h2;refine⟨x.2.1,r2,e2 j b (V.ref x.2.1,v) h1 ?_⟩;rw[Zx,show (xs.zip (kvs.map (·.2)))[j]? = some (x,v) from ?_]
 ·rfl
 ·rw[List.getElem?_zip_eq_some];exact⟨ex,by rw[Zx,h2];rfl⟩
end
end L2
namespace DL
open PySem PySem.Spec PyProof.Rows L2
section
variable{X:Cx}{o:Expr}{p pos apos cpos:Pos}{te:DTE}
noncomputable def itemD(q:List (List Nat)×D):D:=.tup [.tup (q.1.map .str),q.2]
def zbw(te:DTE):DTE:=λρ M Q=>te ρ M λd M1=>∃ (a:Addr) (kvs:List (List (List Nat)×D)),d=.ref a/\M1 a=some (.oth (.dct kvs))/\(∀ p∈kvs,∀ w∈p.1,gdT w)/\∀ l,M1 l=none->Q (.ref l) (dupd M1 l (.lst (kvs.map itemD)))
theorem Q9e(hc:X.calm=true)(hg:Gl X "list")(hm:X.mg "list" = none)(ho:DE X o te)(hb:attributeBase o "items" X.env (eval o X.env)=eval o X.env)(hl:(apos.endLine==cpos.line)=true):DE X (.Call (.Name "list" p) [.Call (.Attribute o "items" apos) [] [] cpos] [] pos) (zbw te):=by
 refine (Q9d hc hg hm ho hb hl).imp λσ H Q ⟨ρ,M,R,ss,m,h,k⟩=>⟨ρ,M,_,ss,m,h,λd M1 v H1 ⟨a,kvs,e1,e2,gk,h1⟩ x1 m1 den=>?_⟩;subst e1;cases den;obtain⟨vs,g1,g2⟩:=m1.dct e2;refine⟨a,vs,rfl,g1,λas l H2 al kp hp lf=>?_⟩;have xx:Ext H1 H2:=⟨λb xs e=>kp b _ e,λb o u e=>kp b _ e⟩;have m2:SimM X.K M1 H2:=λb u e=>by
  obtain⟨w,ew⟩:=(m1 b u e).there;exact (m1 b u e).keep xx (by rw[ew];exact kp b w ew)
 have ds:∀ (ks:List (List (List Nat)×D)) (ws:List (List Key×V)) (bs:List Addr),KDs X.K H1 ks ws->(∀ p∈ks,∀ w∈p.1,gdT w)->bs.length=ws.length->(∀ (j:Nat) (b:Addr) (k:List Key) (v:V),bs[j]? = some b->ws[j]? = some (k,v)->∃ c,H1 c=some (.tup (k.map kV))/\H2 b=some (.tup [.ref c,v]))->Dens X.K H2 (ks.map itemD) (bs.map V.ref):=λks=>by
  induction ks with
  | nil =>
   intro ws bs r _ hl _;cases r;rw[List.length_eq_zero_iff.mp hl];exact .nil
  | cons p ks ih =>
   intro ws bs r gk hl hp;cases r with
   | @cons _ q _ ws r t =>
    cases bs with
    | nil=>cases hl
    | cons b bs =>
     obtain⟨c,c1,c2⟩:=hp 0 b q.1 q.2 rfl rfl;rw[r.1]at c1;exact .cons (.tup c2 (.cons (.tup (kp c _ c1) (Q4I (gk p Zp))) (.cons (r.2.ext xx) .nil))) (ih ws bs t (λp hp=>gk p (Zo _ hp)) (Nat.succ.inj hl) λj b k v h1 h2=>hp (j+1) b k v h1 h2)
 exact k _ _ _ _ (h1 l (m2.free lf)) (x1.trans (xx.trans (Ext.new lf))) (m2.newL lf (ds kvs vs as g2 gk al hp)) (.ref l)
end
noncomputable abbrev prD(p:List (List Nat)×List Nat):D:=.tup [tupS p.1,.str p.2]
section
variable{X:Cx}{pins:List (Addr×Obj)}{σ:L2.St}{H:Hp}{s:Shared}
end
end DL
namespace DL
open PySem PySem.Spec L2
open PyProof.Rows hiding St
section
variable{X:Cx}
theorem Dens.dropLast{K:Frag}{H:Hp}:∀ {ds:List D} {vs:List V},Dens K H ds vs->Dens K H ds.dropLast vs.dropLast
 | [],_,h=>by cases h;exact .nil
 | [_],_,h=>by cases h with | cons _ t=>cases t;exact .nil
 | _::_::_,_,h=>by cases h with | cons h1 t=>cases t with | cons h2 t2=>exact .cons h1 (Dens.dropLast (.cons h2 t2))
def mPop:D->List D->DH->DK->Prop:=λd ds M Q=>∃ (a:Addr) (xs:List D) (y:D),d=.ref a/\ds=[]/\M a=some (.lst xs)/\xs[xs.length-1]? = some y/\Q y (dupd M a (.lst xs.dropLast))
theorem Q9Y:MtD X "list.pop" mPop:=by
 rintro pins s σ H x xs v us Q I rx rv ⟨d,ds,M,R,e,dn,m,⟨a,ys,y,h1,h2,qa,hy,q⟩,k⟩;subst h1 h2;cases e;cases dn;obtain⟨vs,e2,d⟩:=m.get qa;obtain⟨w,hw,den⟩:=d.get hy;exact Qc2 pins s σ H _ _ v us Q I rx rv ⟨a,vs,w,rfl,rfl,e2,by rw[<- d.length];exact hw,k _ _ _ _ q (Ext.lst e2) (m.write e2 d.dropLast) (den.ext (Ext.lst e2))⟩
end
end DL
namespace IR
open PySem PySem.Spec L2 DL
open PyProof.Rows hiding St
inductive Lit where
 | non | bl (b:Bool) | int (i:Int) | str (x:List Nat)
noncomputable def Lit.d:Lit->D
 | .non=>.non | .bl b=>.bl b | .int i=>.int i | .str x=>.str x
noncomputable def Lit.ck:Lit->Const->Bool
 | .non,.none=>true
 | .bl b,.bool c=>b==c
 | .int i,.int j=>i==j
 | .str x,.str y=>x==y.cps.toList&&(x.all λc=>decide (c<1114112))
 | _,_=>false
inductive Bn where
 | add | sub | mul | mod | pow | mulS | addL
 deriving DecidableEq
noncomputable def Bn.op:Bn->Operator
 | .add=>.Add
 | .sub=>.Sub
 | .mul=>.Mult
 | .mod=>.Mod
 | .pow=>.Pow
 | .mulS=>.Mult
 | .addL=>.Add
noncomputable def Bn.r:Bn->DR2
 | .add=>rAddD
 | .sub=>rI2 (λ_ _=>True) (λi j=>i-j)
 | .mul=>rI2 CMul (λi j=>i * j)
 | .mod=>rI2 (λ_ j=>0<j) (λi j=>i % j)
 | .pow=>rI2 CPow (λi j=>i ^ j.toNat)
 | .mulS=>rMulS
 | .addL=>rAddL
theorem Bn.ok:∀ b:Bn,OpD X (binaryOp b.op) b.r
 | .add=>Qcs
 | .sub=>Qco
 | .mul=>Qcp
 | .mod=>Qcq
 | .pow=>Qcr
 | .mulS=>QaP
 | .addL=>QaW
inductive Cp where
 | eq | ne | lt | gt | isN | notN | inn | nin | inD | ninD | inB | ninT | inO | inF
 deriving DecidableEq
noncomputable def Cp.op:Cp->CmpOp
 | .eq=>.Eq
 | .ne=>.NotEq
 | .lt=>.Lt
 | .gt=>.Gt
 | .isN=>.Is
 | .notN=>.IsNot
 | .inn=>.In
 | .nin=>.NotIn
 | .inD=>.In
 | .ninD=>.NotIn
 | .inB=>.In
 | .ninT=>.NotIn
 | .inO=>.In
 | .inF=>.In
noncomputable def Cp.r:Cp->DR2
 | .eq=>rEqN id
 | .ne=>rEqN not
 | .lt=>rLtD (λi j=>decide (i<j))
 | .gt=>rLtD (λi j=>decide (j<i))
 | .isN=>rIsN id
 | .notN=>rIsN not
 | .inn=>rIn1 id
 | .nin=>rIn1 not
 | .inD=>rInD id
 | .ninD=>rInD not
 | .inB=>rInB
 | .ninT=>rInT not
 | .inO=>rInO
 | .inF=>rInF
theorem l64(h:n+100<cLine):n+64<cLine:=ZM (Yq (by decide) _) h
theorem Cp.ok(hu':X.A.units+100<cLine):∀ b:Cp,OpD X (compareOp b.op) b.r
 | .eq=>od_eq (l64 hu')
 | .ne=>od_ne (l64 hu')
 | .lt=>od_lt
 | .gt=>od_gt
 | .isN=>Qcv
 | .notN=>QaK
 | .inn=>od_in (l64 hu')
 | .nin=>Q8N (l64 hu')
 | .inD=>Q9W (ZM (Yq (by decide) _) (l64 hu'))
 | .ninD=>QaU (ZM (Yq (by decide) _) (l64 hu'))
 | .inB=>QcE (l64 hu')
 | .ninT=>QaZ (ZM (Yq (by decide) _) (l64 hu'))
 | .inO=>QcH (ZM (Yq (by decide) _) hu')
 | .inF=>QcJ (ZM (Yq (by decide) _) (l64 hu'))
inductive Bl where
 | len | list | str | sorted | min1 | dict
 deriving DecidableEq
noncomputable def Bl.nm:Bl->Str
 | .len=>"len"
 | .list=>"list"
 | .str=>"str"
 | .sorted=>"sorted"
 | .min1=>"min"
 | .dict=>"dict"
def Bl.r:Bl->List D->DH->DK->Prop
 | .len=>rLen
 | .list=>rList
 | .str=>rStr
 | .sorted=>zbm
 | .min1=>rMin1
 | .dict=>zbK
inductive Ml where
 | append | pop | extend
 deriving DecidableEq
noncomputable def Ml.nm:Ml->Str
 | .append=>"append"
 | .pop=>"pop"
 | .extend=>"extend"
def Ml.r:Ml->D->List D->DH->DK->Prop
 | .append=>zaJ
 | .pop=>mPop
 | .extend=>zbn
set_option genSizeOf false in
set_option genInjectivity false in
inductive CE where
 | var (i:Nat)
 | con (l:Lit)
 | glob (i:Nat)
 | bin (op:Bn) (a b:CE)
 | cmp (op:Cp) (a b:CE)
 | chain (o p:Cp) (a b c:CE)
 | and (a b:CE) | or (a b:CE) | not (a:CE) | neg (a:CE)
 | ite (c a b:CE)
 | ix (a b:CE)
 | sl (a lo hi:CE)
 | tup (as:CE) | lst (as:CE) | lstz (as:CE) | frz (e:CE)
 | call (f:Nat) (as:CE)
 | blt (b:Bl) (as:CE)
 | isi (T:Ty) (e:CE)
 | ml (m:Ml) (o as:CE)
 | fld (c f:Str) (e:CE)
 | meth (f:Nat) (o as:CE)
 | make (f:Nat) (as:CE)
 | dnew
 | disp1 (k v:CE)
 | dix (d k:CE)
 | dget2 (d k e:CE)
 | dget1 (d k:CE)
 | dsetd (d k e:CE)
 | knew
 | kix (d k:CE)
 | thw (e:CE)
 | items (a:CE)
 | kget2 (d k e:CE)
 | ksetd (d k e:CE)
 | comp (two:Bool) (ix:List Nat) (it c e:CE)
 | compz (two:Bool) (ix:List Nat) (it c e:CE)
 | rng1 (a:CE) | rng2 (a b:CE) | dkeys (a:CE)
 | nil | cons (a as:CE)
noncomputable def CE.len:CE->Nat
 | .cons _ as=>as.len+1
 | _=>0
structure FI where
 nm:Str
 np:Nat
 dds:List D
 sp:DSp
structure KI where
 nm:Str
 ks:List Str
 g:List D->List D->List D
 sp:DSp
structure FX where
 nm:Str
 np:Nat
 dds:List D
 sp:DSpX
structure MI where
 cl:Str
 nm:Str
 np:Nat
 sp:DSp
structure TabC where
 fn:Nat->Option FI
 kfn:Nat->Option KI
 con:Nat->Option (Str×D)
 bl:List Str
 fx:Nat->Option FX:=λ_=>none
 cl:CN:=λ_=>none
 isx:Nat->Str->Option Bool:=λ_ _=>none
 lk:List Str:=[]
 mt:Nat->Option MI:=λ_=>none
 ini:Nat->Option MI:=λ_=>none
 fd:List (Str×Str):=[]
 rw:Nat->Bool:=λ_=>false
structure Tab extends TabC where
 xd:DX:=λ_ _=>False
structure Evs where
 e:DTE
 t:DTT
 a:DTA
 i:DTI
 o:DTO
def botE:DTE:=λ_ _ _=>False
def botT:DTT:=λ_ _ _=>False
def botA:DTA:=λ_ _ _=>False
def botI:DTI:=λ_ _ _=>False
def botO:DTO:=λ_ _ _=>False
noncomputable def mkE(t:DTE):Evs:=⟨t,dB t,botA,diAny t,zbO t⟩
noncomputable def zb7:Bool->D->Option (List D)
 | false=>λd=>some [d]
 | true=>zbt
noncomputable def ev(T:Tab):CE->Evs
 | .var i=>mkE (dVar i)
 | .con l=>mkE (dC l.d)
 | .glob i=>mkE (match T.con i with | some p=>dC p.2 | none=>botE)
 | .bin op a b=>mkE (dOp op.r (ev T a).e (ev T b).e)
 | .cmp op a b=>mkE (dOp op.r (ev T a).e (ev T b).e)
 | .chain o p a b c=>mkE (zaR o.r p.r (ev T a).e (ev T b).e (ev T c).e)
 | .and a b=>{ mkE (zbq (ev T a).e (ev T b).e) with t:=dAnd (ev T a).t (ev T b).t }
 | .or a b=>{ mkE (dOrV (ev T a).e (ev T b).e) with t:=dOr (ev T a).t (ev T b).t }
 | .not a=>{ mkE (dNotV (ev T a).e) with t:=dNot (ev T a).t }
 | .neg a=>mkE (dNeg (ev T a).e)
 | .ite c a b=>{ mkE (dIf (ev T c).t (ev T a).e (ev T b).e) with t:=botT }
 | .ix a b=>mkE (dOp rIxD (ev T a).e (ev T b).e)
 | .sl a lo hi=>mkE (dSl (ev T a).e (ev T lo).o (ev T hi).o)
 | .tup as=>mkE (dTup (ev T as).a)
 | .lst as=>mkE (dLst (ev T as).a)
 | .lstz as=>mkE (zbT (ev T as).a)
 | .frz e=>{ mkE (dFrz (ev T e).e) with t:=botT }
 | .call f as=>mkE (match T.fn f with | some fi=>zbV fi.sp (fi.dds.drop (fi.dds.length-(fi.np-as.len))) (ev T as).a | none=>botE)
 | .blt b as=>mkE (dCB b.r (ev T as).a)
 | .isi y e=>mkE (dIsI y (ev T e).e)
 | .ml m o as=>mkE (dML m.r (ev T o).e (ev T as).a)
 | .fld c f e=>mkE (dFld c f (ev T e).e)
 | .meth f o as=>mkE (match T.mt f with | some mi=>zbo mi.cl mi.nm mi.sp (ev T o).e (ev T as).a | none=>botE)
 | .make f as=>mkE (match T.ini f with | some mi=>zbS mi.cl mi.sp (ev T as).a | none=>botE)
 | .dnew=>mkE zbU
 | .disp1 k v=>mkE (zbc (ev T k).e (ev T v).e)
 | .dix d k=>mkE (dOp rDIx (ev T d).e (ev T k).e)
 | .dget2 d k e=>mkE (zbe (ev T d).e (ev T k).e (ev T e).e)
 | .dget1 d k=>mkE (zbf (ev T d).e (ev T k).e)
 | .dsetd d k e=>mkE (zbd (ev T d).e (ev T k).e (ev T e).e)
 | .knew=>mkE zbQ
 | .kix d k=>mkE (dOp rTIx (ev T d).e (ev T k).e)
 | .thw e=>{ mkE (dThw (ev T e).e) with t:=botT }
 | .items a=>{ mkE (zbw (ev T a).e) with t:=botT }
 | .kget2 d k e=>mkE (zbb (ev T d).e (ev T k).e (ev T e).e)
 | .ksetd d k e=>mkE (zba (ev T d).e (ev T k).e (ev T e).e)
 | .comp two ix it c e=>mkE (zbp (ev T it).i ix (zb7 two) (ev T c).t (ev T e).e)
 | .compz two ix it c e=>mkE (zb0 (ev T it).i ix (zb7 two) (ev T c).t (ev T e).e)
 | .rng1 a=>⟨botE,botT,botA,zb9 (zaG (ev T a).e dNil),botO⟩
 | .rng2 a b=>⟨botE,botT,botA,zbv (zaG (ev T a).e (zaG (ev T b).e dNil)),botO⟩
 | .dkeys a=>⟨botE,botT,botA,zb4 (ev T a).e,botO⟩
 | .nil=>⟨botE,zaQ,dNil,botI,zbu⟩
 | .cons a as=>⟨botE,botT,zaG (ev T a).e (ev T as).a,botI,botO⟩
theorem ev_var(T:Tab){i}:ev T (.var i)=(mkE (dVar i)):=rfl
theorem ev_con(T:Tab){l}:ev T (.con l)=(mkE (dC l.d)):=rfl
theorem ev_glob(T:Tab){i}:ev T (.glob i)=(mkE (match T.con i with | some p=>dC p.2 | none=>botE)):=rfl
theorem ev_bin(T:Tab){op}{a}{b}:ev T (.bin op a b)=(mkE (dOp op.r (ev T a).e (ev T b).e)):=rfl
theorem ev_cmp(T:Tab){op}{a}{b}:ev T (.cmp op a b)=(mkE (dOp op.r (ev T a).e (ev T b).e)):=rfl
theorem ev_chain(T:Tab){o}{p}{a}{b}{c}:ev T (.chain o p a b c)=(mkE (zaR o.r p.r (ev T a).e (ev T b).e (ev T c).e)):=rfl
theorem ev_and(T:Tab){a}{b}:ev T (.and a b)=({ mkE (zbq (ev T a).e (ev T b).e) with t:=dAnd (ev T a).t (ev T b).t }):=rfl
theorem ev_or(T:Tab){a}{b}:ev T (.or a b)=({ mkE (dOrV (ev T a).e (ev T b).e) with t:=dOr (ev T a).t (ev T b).t }):=rfl
theorem ev_not(T:Tab){a}:ev T (.not a)=({ mkE (dNotV (ev T a).e) with t:=dNot (ev T a).t }):=rfl
theorem ev_neg(T:Tab){a}:ev T (.neg a)=(mkE (dNeg (ev T a).e)):=rfl
theorem ev_ite(T:Tab){c}{a}{b}:ev T (.ite c a b)=({ mkE (dIf (ev T c).t (ev T a).e (ev T b).e) with t:=botT }):=rfl
theorem ev_ix(T:Tab){a}{b}:ev T (.ix a b)=(mkE (dOp rIxD (ev T a).e (ev T b).e)):=rfl
theorem ev_sl(T:Tab){a}{lo}{hi}:ev T (.sl a lo hi)=(mkE (dSl (ev T a).e (ev T lo).o (ev T hi).o)):=rfl
theorem ev_tup(T:Tab){as}:ev T (.tup as)=(mkE (dTup (ev T as).a)):=rfl
theorem ev_lst(T:Tab){as}:ev T (.lst as)=(mkE (dLst (ev T as).a)):=rfl
theorem ev_lstz(T:Tab){as}:ev T (.lstz as)=(mkE (zbT (ev T as).a)):=rfl
theorem ev_frz(T:Tab){e}:ev T (.frz e)=({ mkE (dFrz (ev T e).e) with t:=botT }):=rfl
theorem ev_call(T:Tab){f}{as}:ev T (.call f as)=(mkE (match T.fn f with | some fi=>zbV fi.sp (fi.dds.drop (fi.dds.length-(fi.np-as.len))) (ev T as).a | none=>botE)):=rfl
theorem ev_blt(T:Tab){b}{as}:ev T (.blt b as)=(mkE (dCB b.r (ev T as).a)):=rfl
theorem ev_isi(T:Tab){y}{e}:ev T (.isi y e)=(mkE (dIsI y (ev T e).e)):=rfl
theorem ev_ml(T:Tab){m}{o}{as}:ev T (.ml m o as)=(mkE (dML m.r (ev T o).e (ev T as).a)):=rfl
theorem ev_fld(T:Tab){c}{f}{e}:ev T (.fld c f e)=(mkE (dFld c f (ev T e).e)):=rfl
theorem ev_meth(T:Tab){f}{o}{as}:ev T (.meth f o as)=(mkE (match T.mt f with | some mi=>zbo mi.cl mi.nm mi.sp (ev T o).e (ev T as).a | none=>botE)):=rfl
theorem ev_make(T:Tab){f}{as}:ev T (.make f as)=(mkE (match T.ini f with | some mi=>zbS mi.cl mi.sp (ev T as).a | none=>botE)):=rfl
theorem ev_dnew(T:Tab):ev T (.dnew)=(mkE zbU):=rfl
theorem ev_disp1(T:Tab){k}{v}:ev T (.disp1 k v)=(mkE (zbc (ev T k).e (ev T v).e)):=rfl
theorem ev_dix(T:Tab){d}{k}:ev T (.dix d k)=(mkE (dOp rDIx (ev T d).e (ev T k).e)):=rfl
theorem ev_dget2(T:Tab){d}{k}{e}:ev T (.dget2 d k e)=(mkE (zbe (ev T d).e (ev T k).e (ev T e).e)):=rfl
theorem ev_dget1(T:Tab){d}{k}:ev T (.dget1 d k)=(mkE (zbf (ev T d).e (ev T k).e)):=rfl
theorem ev_dsetd(T:Tab){d}{k}{e}:ev T (.dsetd d k e)=(mkE (zbd (ev T d).e (ev T k).e (ev T e).e)):=rfl
theorem ev_knew(T:Tab):ev T (.knew)=(mkE zbQ):=rfl
theorem ev_kix(T:Tab){d}{k}:ev T (.kix d k)=(mkE (dOp rTIx (ev T d).e (ev T k).e)):=rfl
theorem ev_thw(T:Tab){e}:ev T (.thw e)=({ mkE (dThw (ev T e).e) with t:=botT }):=rfl
theorem ev_items(T:Tab){a}:ev T (.items a)=({ mkE (zbw (ev T a).e) with t:=botT }):=rfl
theorem ev_kget2(T:Tab){d}{k}{e}:ev T (.kget2 d k e)=(mkE (zbb (ev T d).e (ev T k).e (ev T e).e)):=rfl
theorem ev_ksetd(T:Tab){d}{k}{e}:ev T (.ksetd d k e)=(mkE (zba (ev T d).e (ev T k).e (ev T e).e)):=rfl
theorem ev_comp(T:Tab){two}{ix}{it}{c}{e}:ev T (.comp two ix it c e)=(mkE (zbp (ev T it).i ix (zb7 two) (ev T c).t (ev T e).e)):=rfl
theorem ev_compz(T:Tab){two}{ix}{it}{c}{e}:ev T (.compz two ix it c e)=(mkE (zb0 (ev T it).i ix (zb7 two) (ev T c).t (ev T e).e)):=rfl
theorem ev_rng1(T:Tab){a}:ev T (.rng1 a)=(⟨botE,botT,botA,zb9 (zaG (ev T a).e dNil),botO⟩):=rfl
theorem ev_rng2(T:Tab){a}{b}:ev T (.rng2 a b)=(⟨botE,botT,botA,zbv (zaG (ev T a).e (zaG (ev T b).e dNil)),botO⟩):=rfl
theorem ev_dkeys(T:Tab){a}:ev T (.dkeys a)=(⟨botE,botT,botA,zb4 (ev T a).e,botO⟩):=rfl
theorem ev_nil(T:Tab):ev T (.nil)=(⟨botE,zaQ,dNil,botI,zbu⟩):=rfl
theorem ev_cons(T:Tab){a}{as}:ev T (.cons a as)=(⟨botE,botT,zaG (ev T a).e (ev T as).a,botI,botO⟩):=rfl
structure GI where
 N:List Str
 names:List (Str×NameKind)
noncomputable def GI.kd(g:GI)(x:Str):Option NameKind:=g.names.lookup x
noncomputable def za8:Expr->Bool
 | .Starred _ _=>false
 | _=>true
noncomputable def zaO:Expr->Bool
 | .Set _ _ _=>false
 | _=>true
noncomputable def zaF:Expr->Bool
 | .Slice _ _ _ _=>false
 | _=>true
noncomputable def zau:Expr->Bool
 | .Call (.Name _ _) [] [] _=>false
 | _=>true
noncomputable def zaY(g:GI)(x:Str):Bool:=g.kd x==some .globalImplicit && !(x==("__debug__" : Str)) && !(x==("__name__" : Str))
noncomputable def isVis(g:GI)(x:Str):Bool:=(g.kd x==some .local||g.kd x==some .cell||g.kd x==some .free) && !(x==("__debug__" : Str)) && !(x==("__classdict__" : Str))
noncomputable def zb8(T:TabC)(g:GI)(x:Str):Bool:=zaY g x&&T.bl.contains x
noncomputable def zbx:(x:Expr)->Option { p:Str×Pos×Expr×List Expr×Pos // x=.Call (.Name p.1 p.2.1) (p.2.2.1::p.2.2.2.1) [] p.2.2.2.2 }
 | .Call (.Name f fp) (z::zs) [] p=>some ⟨(f,fp,z,zs,p),rfl⟩
 | _=>none
noncomputable def vNm:(x:Expr)->Option { p:Str×Pos // x=.Name p.1 p.2 }
 | .Name y p=>some ⟨(y,p),rfl⟩
 | _=>none
noncomputable def vCst:(x:Expr)->Option { p:Const×Nat×Pos // x=.Constant p.1 p.2.1 p.2.2 }
 | .Constant k n p=>some ⟨(k,n,p),rfl⟩
 | _=>none
noncomputable def vTup:(x:Expr)->Option { p:List Expr×Nat×Pos // x=.Tuple p.1 p.2.1 p.2.2 }
 | .Tuple es n p=>some ⟨(es,n,p),rfl⟩
 | _=>none
noncomputable def zbl:(x:Expr)->Option { p:Expr×Str×Pos×List Expr×Pos // x=.Call (.Attribute p.1 p.2.1 p.2.2.1) p.2.2.2.1 [] p.2.2.2.2 }
 | .Call (.Attribute z n ap) es [] cp=>some ⟨(z,n,ap,es,cp),rfl⟩
 | _=>none
noncomputable def vBin:(x:Expr)->Option { p:Expr×Operator×Expr×Pos // x=.BinOp p.1 p.2.1 p.2.2.1 p.2.2.2 }
 | .BinOp l o r p=>some ⟨(l,o,r,p),rfl⟩
 | _=>none
noncomputable def vCmp:(x:Expr)->Option { p:Expr×CmpOp×Expr×Pos // x=.Compare p.1 [p.2.1] [p.2.2.1] p.2.2.2 }
 | .Compare l [o] [r] p=>some ⟨(l,o,r,p),rfl⟩
 | _=>none
noncomputable def vIfE:(x:Expr)->Option { p:Expr×Expr×Expr×Pos // x=.IfExp p.1 p.2.1 p.2.2.1 p.2.2.2 }
 | .IfExp l o r p=>some ⟨(l,o,r,p),rfl⟩
 | _=>none
noncomputable def vSub:(x:Expr)->Option { p:Expr×Expr×Pos // x=.Subscript p.1 p.2.1 p.2.2 }
 | .Subscript y z p=>some ⟨(y,z,p),rfl⟩
 | _=>none
noncomputable def vSl:(x:Expr)->Option { p:Option Expr×Option Expr×Pos // x=.Slice p.1 p.2.1 none p.2.2 }
 | .Slice l u none p=>some ⟨(l,u,p),rfl⟩
 | _=>none
noncomputable def vNot:(x:Expr)->Option { p:UnaryOp×Expr×Pos // x=.UnaryOp p.1 p.2.1 p.2.2 }
 | .UnaryOp o y p=>some ⟨(o,y,p),rfl⟩
 | _=>none
noncomputable def vLst:(x:Expr)->Option { p:List Expr×Pos // x=.List p.1 p.2 }
 | .List es p=>some ⟨(es,p),rfl⟩
 | _=>none
noncomputable def vAtt:(x:Expr)->Option { p:Expr×Str×Pos // x=.Attribute p.1 p.2.1 p.2.2 }
 | .Attribute z n p=>some ⟨(z,n,p),rfl⟩
 | _=>none
noncomputable def vLc:(x:Expr)->Option { p:Expr×Expr×Expr×List Expr×Scope×Pos // x=.ListComp p.1 [⟨p.2.1,p.2.2.1,p.2.2.2.1,0⟩] p.2.2.2.2.1 p.2.2.2.2.2 }
 | .ListComp elt [⟨tg,iter,ifs,0⟩] scope p=>some ⟨(elt,tg,iter,ifs,scope,p),rfl⟩
 | _=>none
noncomputable def vBo:(x:Expr)->Option { p:PySem.BoolOp×List Expr×Pos // x=.BoolOp p.1 p.2.1 p.2.2 }
 | .BoolOp o vs p=>some ⟨(o,vs,p),rfl⟩
 | _=>none
noncomputable def vD0:(x:Expr)->Option { p:Pos // x=.Dict [] [] p }
 | .Dict [] [] p=>some ⟨p,rfl⟩
 | _=>none
noncomputable def vD1:(x:Expr)->Option { p:Expr×Expr×Pos // x=.Dict [some p.1] [p.2.1] p.2.2 }
 | .Dict [some y] [z] p=>some ⟨(y,z,p),rfl⟩
 | _=>none
noncomputable def v1{α:Type}:(xs:List α)->Option { p:α // xs=[p] }
 | [z]=>some ⟨z,rfl⟩
 | _=>none
noncomputable def v2{α:Type}:(xs:List α)->Option { p:α×α // xs=[p.1,p.2] }
 | [z,z']=>some ⟨(z,z'),rfl⟩
 | _=>none
noncomputable def onV{α:Type}{P:α->Prop}(o:Option { p:α // P p })(f:α->Bool):Bool:=match o with
 | some p=>f p.1
 | none=>false
theorem Q0i{α:Type}{P:α->Prop}{o:Option { p:α // P p }}{f:α->Bool}(h:onV o f=true):∃ p,P p/\f p=true:=by
 cases o with
 | none=>cases h
 | some p=>exact⟨p.1,p.2,h⟩
structure Chk where
 e:GI->Expr->Bool
 b:PySem.BoolOp->GI->List Expr->Bool
 a:GI->List Expr->Bool
 i:GI->Expr->Bool
 o:GI->Option Expr->Bool
 c:GI->List Expr->Bool
noncomputable def mkC(f:GI->Expr->Bool):Chk :=
 ⟨f,λ_ g vs=>match vs with | [x]=>f g x | _=>false,λ_ _=>false,f,λg o=>match o with | some x=>f g x | none=>false,λg vs=>match vs with | [x]=>f g x | _=>false⟩
noncomputable def zb1(op:PySem.BoolOp)(ca cb:Chk):GI->List Expr->Bool:=λg vs=>match vs with
 | x::y::r=>ca.e g x&&cb.b op g (y::r)
 | _=>false
noncomputable def zbW(op:PySem.BoolOp)(ca cb:Chk):GI->Expr->Bool:=λg x=>onV (vBo x) λc=>c.1==op&&zb1 op ca cb g c.2.1
noncomputable def zbE(op:PySem.BoolOp)(ca cb:Chk):PySem.BoolOp->GI->List Expr->Bool:=λo g vs=>if o=op then zb1 op ca cb g vs else match vs with
 | [x]=>zbW op ca cb g x
 | _=>false
noncomputable def zbG:Bool->Expr->Option (List Str)
 | false,e=>(vNm e).bind λp=>some [p.1.1]
 | true,e=>(vTup e).bind λt=>(v2 t.1.1).bind λp=>(vNm p.1.1).bind λa=>(vNm p.1.2).bind λb=>some [a.1.1,b.1.1]
noncomputable def zb5(g:GI)(scope:Scope)(N:List Str)(k:Nat)(fn:List Str):Bool :=
 scope.kind==.function&&scope.names.all (λy=>!(y.2==.cell))&&scope.names.all (λy=>!(y.2==.local)||scope.names.lookup y.1==some .local)
  && scope.names.all (λy=>!(y.2==.free)||(g.kd y.1==some .cell||g.kd y.1==some .free))&&decide N.Nodup&&decide (N.drop k=fn)&&decide (N.length=k+fn.length)
  && fn.all (λy=>(g.kd y==some .cell||g.kd y==some .free)&&scope.names.lookup y==some .free)
noncomputable def zbX(two:Bool)(ix:List Nat)(ci cc ce:Chk):GI->Expr->Bool:=λg x=>onV (vLc x) λc=>match zbG two c.2.1 with
 | some ts=>let fn:=ix.filterMap λi=>g.N[i]?
  zb5 g c.2.2.2.2.1 (ts++fn) ts.length fn&&decide (ix.map (λi=>g.N[i]?)=fn.map some)&&ts.all (λy=>c.2.2.2.2.1.names.lookup y==some .local)&&zaO c.2.2.1&&ci.i g c.2.2.1&&cc.c ⟨ts++fn,c.2.2.2.2.1.names⟩ c.2.2.2.1&&ce.e ⟨ts++fn,c.2.2.2.2.1.names⟩ c.1
 | none=>false
noncomputable def ckR1(T:TabC)(nm:Str)(f:GI->Expr->Bool)(g:GI)(x:Expr):Bool:=onV (zbx x) λc=>c.2.2.2.1.isEmpty&&zb8 T g c.1&&c.1==nm&&za8 c.2.2.1&&f g c.2.2.1
noncomputable def ckR2(T:TabC)(f f':GI->Expr->Bool)(g:GI)(x:Expr):Bool:=onV (zbx x) λc=>onV (v1 c.2.2.2.1) λd=>zb8 T g c.1&&c.1==("range" : Str)&&za8 c.2.2.1&&za8 d&&f g c.2.2.1&&f' g d
noncomputable def chkC(T:TabC):CE->Chk
 | .var i=>mkC λg x=>onV (vNm x) λc=>g.N[i]? == some c.1&&isVis g c.1
 | .con l=>mkC λ_ x=>onV (vCst x) λc=>l.ck c.1
 | .glob i=>mkC λg x=>onV (vNm x) λc=>zaY g c.1&&(match T.con i with | some p=>p.1==c.1 | none=>false)
 | .bin op a b=>mkC λg x=>onV (vBin x) λc=>c.2.1==op.op&&(chkC T a).e g c.1&&(chkC T b).e g c.2.2.1
 | .cmp op a b=>mkC λg x=>onV (vCmp x) λc=>c.2.1==op.op&&zaO c.2.2.1&&(chkC T a).e g c.1&&(chkC T b).e g c.2.2.1
 | .chain o p a b c=>mkC λg x=>match x with
  | .Compare l [q,q'] [r,r'] _=>q==o.op&&q'==p.op&&zaO r'&&(chkC T a).e g l&&(chkC T b).e g r&&(chkC T c).e g r'
  | _=>false
 | .and a b=>{ mkC (zbW .And (chkC T a) (chkC T b)) with b:=zbE .And (chkC T a) (chkC T b) }
 | .or a b=>{ mkC (zbW .Or (chkC T a) (chkC T b)) with b:=zbE .Or (chkC T a) (chkC T b) }
 | .not a=>mkC λg x=>onV (vNot x) λc=>c.1==.Not&&(chkC T a).e g c.2.1
 | .neg a=>mkC λg x=>onV (vNot x) λc=>c.1==.USub&&(chkC T a).e g c.2.1
 | .ite c a b=>mkC λg x=>onV (vIfE x) λt=>(chkC T c).e g t.1&&(chkC T a).e g t.2.1&&(chkC T b).e g t.2.2.1
 | .ix a b=>mkC λg x=>onV (vSub x) λc=>zaF c.2.1&&(chkC T a).e g c.1&&(chkC T b).e g c.2.1
 | .sl a lo hi=>mkC λg x=>onV (vSub x) λc=>onV (vSl c.2.1) λs=>(chkC T a).e g c.1&&(chkC T lo).o g s.1&&(chkC T hi).o g s.2.1
 | .tup as=>mkC λg x=>onV (vTup x) λc=>(chkC T as).a g c.1
 | .lst as=>mkC λg x=>onV (vLst x) λc=>(chkC T as).a g c.1
 | .lstz as=>mkC λg x=>onV (vLst x) λc=>(chkC T as).a g c.1
 | .frz e=>mkC λg x=>(chkC T e).e g x
 | .call f as=>mkC λg x=>onV (zbx x) λc=>match T.fn f with
  | some fi=>zaY g c.1&&c.1==fi.nm&&decide (as.len<=fi.np)&&decide (fi.np-as.len<=fi.dds.length)&&(chkC T as).a g (c.2.2.1::c.2.2.2.1)
  | none=>false
 | .blt b as=>mkC λg x=>onV (zbx x) λc=>zb8 T g c.1&&c.1==b.nm&&(chkC T as).a g (c.2.2.1::c.2.2.2.1)
 | .isi ty e=>mkC λg x=>onV (zbx x) λc=>onV (v1 c.2.2.2.1) λd=>onV (vNm d) λm=>zb8 T g c.1&&c.1==("isinstance" : Str)&&zb8 T g m.1&&(m.1==(Str.ofString ty.nm)) && !(ty==.non)&&za8 c.2.2.1&&(chkC T e).e g c.2.2.1
 | .ml m o as=>mkC λg x=>onV (zbl x) λc=>c.2.1==m.nm&&(c.2.2.1.endLine==c.2.2.2.2.line)&&zau c.1&&(chkC T o).e g c.1&&(chkC T as).a g c.2.2.2.1&&decide (c.2.2.2.1.length<30)
 | .fld c f e=>mkC λg x=>onV (vAtt x) λa=>a.2.1==f&&T.fd.contains (c,f)&&zau a.1&&(chkC T e).e g a.1
 | .meth f o as=>mkC λg x=>onV (zbl x) λc=>match T.mt f with
  | some mi=>c.2.1==mi.nm&&(c.2.2.1.endLine==c.2.2.2.2.line)&&zau c.1&&(chkC T o).e g c.1&&(chkC T as).a g c.2.2.2.1&&decide (c.2.2.2.1.length<30)
  | none=>false
 | .make f as=>mkC λg x=>onV (zbx x) λc=>match T.ini f with
  | some mi=>zaY g c.1&&c.1==mi.cl&&(chkC T as).a g (c.2.2.1::c.2.2.2.1)
  | none=>false
 | .dnew=>mkC λ_ x=>onV (vD0 x) λ_=>true
 | .disp1 k v=>mkC λg x=>onV (vD1 x) λc=>(chkC T k).e g c.1&&(chkC T v).e g c.2.1
 | .dix a b=>mkC λg x=>onV (vSub x) λc=>zaF c.2.1&&(chkC T a).e g c.1&&(chkC T b).e g c.2.1
 | .dget2 d k e=>mkC λg x=>onV (zbl x) λc=>onV (v2 c.2.2.2.1) λa=>c.2.1==("get" : Str)&&(c.2.2.1.endLine==c.2.2.2.2.line)&&zau c.1&&za8 a.1&&za8 a.2&&(chkC T d).e g c.1&&(chkC T k).e g a.1&&(chkC T e).e g a.2
 | .dsetd d k e=>mkC λg x=>onV (zbl x) λc=>onV (v2 c.2.2.2.1) λa=>c.2.1==("setdefault" : Str)&&(c.2.2.1.endLine==c.2.2.2.2.line)&&zau c.1&&za8 a.1&&za8 a.2&&(chkC T d).e g c.1&&(chkC T k).e g a.1&&(chkC T e).e g a.2
 | .ksetd d k e=>mkC λg x=>onV (zbl x) λc=>onV (v2 c.2.2.2.1) λa=>c.2.1==("setdefault" : Str)&&(c.2.2.1.endLine==c.2.2.2.2.line)&&zau c.1&&za8 a.1&&za8 a.2&&(chkC T d).e g c.1&&(chkC T k).e g a.1&&(chkC T e).e g a.2
 | .dget1 d k=>mkC λg x=>onV (zbl x) λc=>onV (v1 c.2.2.2.1) λa=>c.2.1==("get" : Str)&&(c.2.2.1.endLine==c.2.2.2.2.line)&&zau c.1&&za8 a&&(chkC T d).e g c.1&&(chkC T k).e g a
 | .knew=>mkC λ_ x=>onV (vD0 x) λ_=>true
 | .kix a b=>mkC λg x=>onV (vSub x) λc=>zaF c.2.1&&(chkC T a).e g c.1&&(chkC T b).e g c.2.1
 | .thw e=>mkC λg x=>(chkC T e).e g x
 | .items a=>mkC λg x=>match x with
  | .Call (.Name y _) [.Call (.Attribute o n ap) [] [] cp] [] _=>zb8 T g y&&y==("list" : Str)&&n==("items" : Str)&&(ap.endLine==cp.line)&&zau o&&(chkC T a).e g o
  | _=>false
 | .kget2 d k e=>mkC λg x=>onV (zbl x) λc=>onV (v2 c.2.2.2.1) λa=>c.2.1==("get" : Str)&&(c.2.2.1.endLine==c.2.2.2.2.line)&&zau c.1&&za8 a.1&&za8 a.2&&(chkC T d).e g c.1&&(chkC T k).e g a.1&&(chkC T e).e g a.2
 | .comp two ix it c e=>mkC (zbX two ix (chkC T it) (chkC T c) (chkC T e))
 | .compz two ix it c e=>mkC (zbX two ix (chkC T it) (chkC T c) (chkC T e))
 | .rng1 a=>{ (mkC λ_ _=>false) with
   i:=ckR1 T "range" (chkC T a).e }
 | .rng2 a b=>{ (mkC λ_ _=>false) with
   i:=ckR2 T (chkC T a).e (chkC T b).e }
 | .dkeys a=>{ (mkC λ_ _=>false) with
   i:=λg x=>(chkC T a).e g x }
 | .nil=>⟨λ_ _=>false,λ_ _ _=>false,λ_ es=>es.isEmpty,λ_ _=>false,λ_ o=>o.isNone,λ_ es=>es.isEmpty⟩
 | .cons a as=>⟨λ_ _=>false,λ_ _ _=>false,λg es=>match es with | x::r=>za8 x&&(chkC T a).e g x&&(chkC T as).a g r | []=>false,λ_ _=>false,λ_ _=>false,λ_ _=>false⟩
noncomputable abbrev chk(T:Tab)(c:CE):Chk:=chkC T.toTabC c
structure FRel(X:Cx)(fi:FI):Prop where
 ex:∃ (k:Nat) (f:Addr) (fd:FuncData) (ps:List Str),FnOk X.prog X.w X.K X.mg X.base CX0 k f fd ps (lSp X.K fi.sp)/\Room k X.A/\X.mg fi.nm=some (.ref f)/\keepIn X.K (.ref f)=true/\ps.length=fi.np /\
  ∀ j,j<=fi.dds.length->∃ (ds:List Value) (dvs:List V),Binds X.K fd ps ds/\Vals dvs ds/\∀ H,Dens X.K H (fi.dds.drop j) dvs
structure KRel(X:Cx)(ki:KI):Prop where
 ex:∃ (k:Nat) (f:Addr) (fd:FuncData) (ps:List Str) (gv:List Value->List Value->List Value) (gV:List V->List V->List V),FnOk X.prog X.w X.K X.mg X.base CX0 k f fd ps (lSp X.K ki.sp)/\Room k X.A/\X.mg ki.nm=some (.ref f)/\keepIn X.K (.ref f)=true /\
  zc0 X.K fd ps ki.ks gv gV/\∀ H ds vs zs ws,Dens X.K H ds vs->Dens X.K H zs ws->Dens X.K H (ki.g ds zs) (gV vs ws)
structure XFRel(X:Cx)(cn:CN)(fi:FX):Prop where
 ex:∃ (k:Nat) (f:Addr) (fd:FuncData) (ps:List Str),FnOk X.prog X.w X.K X.mg X.base (CX1 X.prog X.w) k f fd ps (lSpX X.K X.mg cn fi.sp)/\Room k X.A/\X.mg fi.nm=some (.ref f)/\keepIn X.K (.ref f)=true/\ps.length=fi.np /\
  ∀ j,j<=fi.dds.length->∃ (ds:List Value) (dvs:List V),Binds X.K fd ps ds/\Vals dvs ds/\∀ H,Dens X.K H (fi.dds.drop j) dvs
def IsxOk(K:Frag)(mg:Str->Option Value)(cl:CN)(c:Nat)(nm:Str)(b:Bool):Prop:=True
structure MRel(X:Cx)(mi:MI):Prop where
 ex:∃ (k:Nat) (C f:Addr) (fd:FuncData) (ps:List Str),nsIn X.K mainGlobals mi.cl=some (some (.ref C))/\Cls X.K C/\Meth X.K C mi.nm f/\FnOk X.prog X.w X.K X.mg X.base CX0 k f fd ps (lSp X.K mi.sp)/\Room (k+1) X.A/\Binds X.K fd ps []
structure MkRel(X:Cx)(mi:MI):Prop where
 ex:∃ (k:Nat) (C f:Addr) (fd:FuncData) (ps:List Str),nsIn X.K mainGlobals mi.cl=some (some (.ref C))/\X.mg mi.cl=some (.ref C)/\Mk X.K C f/\FnOk X.prog X.w X.K X.mg X.base CX0 k f fd ps (lSp X.K mi.sp)/\Room (k+1) X.A/\Binds X.K fd ps []
def FdOk(K:Frag)(c f:Str):Prop:=∃ C,nsIn K mainGlobals c=some (some (.ref C))/\Cls K C/\NoAttr K C f
def ClsOk(K:Frag)(mg:Str->Option Value)(T:TabC)(c:Nat)(x:Str)(C:Addr):Prop:=True
structure Rel(X:Cx)(T:Tab)(g:GI):Prop where
 N:X.N=g.N
 nd:g.N.Nodup
 calm:X.calm=true
 gl:∀ x,g.kd x=some .globalImplicit->X.env.scope.names.lookup x=some .globalImplicit
 lc:∀ x,g.kd x=some .local->X.env.scope.names.lookup x=some .local
 cf:∀ x,(g.kd x=some .cell\/g.kd x=some .free)->(X.env.scope.names.lookup x=some .cell\/X.env.scope.names.lookup x=some .free)
 fns:∀ f fi,T.fn f=some fi->FRel X fi
 kfs:∀ f ki,T.kfn f=some ki->KRel X ki
 fxs:∀ f fi,T.fx f=some fi->XFRel X T.cl fi
 cls:∀ c x,T.cl c=some x->∃ C,X.mg x=some (.ref C)/\ClsOk X.K X.mg T.toTabC c x C
 tk:zal X λcls _ H=>lX X.K X.mg T.cl T.xd cls H
 tp:Top X
 con:∀ i p,T.con i=some p->∃ u v,X.mg p.1=some u/\L2.RelV v u/\∀ H,Den X.K H p.2 v
 nob:∀ x∈T.bl,X.mg x=none
 isx:∀ c nm b,T.isx c nm=some b->IsxOk X.K X.mg T.cl c nm b
 lks:∀ x∈T.lk,∃ C,X.mg x=some (.ref C)/\XLook X.K C
 mts:∀ f mi,T.mt f=some mi->MRel X mi
 mks:∀ f mi,T.ini f=some mi->MkRel X mi
 fds:∀ p∈T.fd,FdOk X.K p.1 p.2
 un:X.A.units+100<cLine
 dpt:X.A.depth+5<recursionLimit
section
variable{X:Cx}{T:Tab}{g:GI}{e:Expr}{es:List Expr}{env:Env}
theorem Q0h(h:za8 e=true):starEach (e::es) env=(false,eval e env)::starEach es env:=by
 cases e <;> first | rfl | cases h
theorem Q0t:∀ {es:List Expr},es.all za8=true->(backTo pos (starEach es env)).any (·.1)=false
 | [],_=>rfl
 | e::r,h=>by
  rw[Ym,Zk]at h;rw[Q0h h.1];have ih:=Q0t (pos:=pos) h.2;unfold backTo at ih ⊢;erw[ZC,any_cons,ih,Bool.false_or]
theorem Q5q:∀ {es:List Expr},es.all za8=true->(backTo pos (starEach es env)).all (λx=>!x.1)=true
 | [],_=>rfl
 | e::r,h=>by
  rw[Ym,Zk]at h;rw[Q0h h.1];have ih:=Q5q (pos:=pos) h.2;unfold backTo at ih ⊢;erw[ZC,Ym,ih,Bool.not_false,Bool.true_and]
theorem Q0x(h:zau e=true):attributeBase e n env (eval e env)=eval e env:=by
 unfold attributeBase;split
 ·rename_i q;cases q;cases h
 ·rfl
theorem Q1S(h:zaO e=true):behindInMarks op e=false:=by
 cases e <;> first | rfl | cases h
theorem Q2o(h:zaO e=true)(x:Value):foldedSetIterable e env x=pure x:=by
 cases e <;> first | rfl | cases h
theorem Q4K(h:zaF e=true):zbr e:=by
 intro o i;cases e <;> first | rfl | cases h
theorem Rel.glob(R:Rel X T g)(h:zaY g x=true):Gl X x/\(x==("__debug__" : Str))=false/\x ≠ "__name__":=by
 unfold zaY at h;erw[Zk,Z5,not_eq_true']at h;refine⟨R.gl x h.1.1,h.1.2,λe=>?_⟩;have q:=h.2;rw[e]at q;simp at q
theorem Rel.blt(R:Rel X T g)(h:zb8 T.toTabC g x=true):Gl X x/\(x==("__debug__" : Str))=false/\x ≠ "__name__" /\ X.mg x=none:=by
 unfold zb8 at h;rw[Zk]at h;obtain⟨a,b,c⟩:=R.glob h.1;exact⟨a,b,c,R.nob x (by simpa using h.2)⟩
theorem Rel.vis(R:Rel X T g)(h:isVis g x=true):Vis X.env.scope x/\(x==("__debug__" : Str))=false/\(x==("__classdict__" : Str))=false:=by
 unfold isVis at h;erw[Zk,or_eq_true,Z5,not_eq_true']at h;refine⟨?_,h.1.2,h.2⟩;rcases h.1.1 with (h | h) | h
 ·exact .inl (R.lc x h)
 ·rcases R.cf x (.inl h) with q | q
  ·exact .inr (.inl q)
  ·exact .inr (.inr q)
 ·rcases R.cf x (.inr h) with q | q
  ·exact .inr (.inl q)
  ·exact .inr (.inr q)
theorem Q0E{env:Env}{k:NameKind}(hk:k≠.free):∀ {names:List (Str×NameKind)} {x:Str},names.lookup x=some k ->
  (names.map λ(n,k)=>if (k==NameKind.free&&env.scope.kind==.function&&env.kindOf n==some .cell) then (n,NameKind.cell) else (n,k)).lookup x=some k
 | [],_,h=>by simp at h
 | (n,j)::r,x,h=>by
  have ih:=@Q0E env k hk r x;rw[ZC];dsimp only;rw[ZP]at h;by_cases hx:x=n
  ·subst hx;erw[beq_self_eq_true]at h;cases h;have hc:¬ (k==NameKind.free&&env.scope.kind==.function&&env.kindOf x==some .cell)=true:=by
    intro q;erw[Zk,Z5]at q;exact hk q.1.1
   rw[Zd hc];simp[ZP]
  ·have hne:(x==n)=false:=by simpa using hx
   rw[hne]at h;have ih':=ih h;by_cases hc:(j==NameKind.free&&env.scope.kind==.function&&env.kindOf n==some .cell)=true
   ·rw[Zg hc];erw[ZP,hne];exact ih'
   ·rw[Zd hc];erw[ZP,hne];exact ih'
theorem Q4g(R:Rel X T g)(h:zb5 g scope N k fn=true):zaz X.env.scope scope N k fn:=by
 unfold zb5 at h;erw[Zk,Z5,ZR,not_eq_true',or_eq_true,Ze,Yr,ne_eq]at h;obtain⟨⟨⟨⟨⟨⟨⟨h1,h2⟩,h3⟩,h4⟩,h5⟩,h6⟩,h7⟩,h8⟩:=h;refine⟨h1,λy hy=>h2 y hy,λy hy e=>?_,λy hy e=>?_,h5,h6,h7,λy hy=>?_⟩
 ·rcases h3 y hy with q | q
  ·exact absurd e q
  ·exact q
 ·rcases h4 y hy with q | q
  ·exact absurd e q
  ·exact R.cf y.1 q
 ·exact⟨R.cf y (h8 y hy).1,(h8 y hy).2⟩
theorem Rel.comp(R:Rel X T g){scope:Scope}{N fn:List Str}{k:Nat}(h:zb5 g scope N k fn=true)(cl:List (Str×Addr))(C:Addr)(s₀:Shared)(H₀:Hp)(ex:List Addr)(E:Value->Shared->Prop)(hE:zal (za3 X scope N cl C s₀ H₀ ex E) λcls _ H=>lX X.K X.mg T.cl T.xd cls H):Rel (za3 X scope N cl C s₀ H₀ ex E) T ⟨N,scope.names⟩ where
 N:=rfl
 nd:=(Q4g R h).nd
 calm:=R.calm
 gl:=λx e=>Q0E (k:=.globalImplicit) (by decide) e
 lc:=λx e=>Q0E (k:=.local) (by decide) e
 cf:=λx e=>by
  rcases e with e | e
  ·exact .inl (Q0E (k:=.cell) (by decide) e)
  ·exact Q1q e
 fns:=λf fi e=>⟨(R.fns f fi e).ex⟩
 kfs:=λf ki e=>⟨(R.kfs f ki e).ex⟩
 fxs:=λf fi e=>⟨(R.fxs f fi e).ex⟩
 cls:=R.cls
 tk:=hE
 tp:=⟨R.tp.ex⟩
 con:=R.con
 nob:=R.nob
 isx:=R.isx
 lks:=R.lks
 mts:=λf mi e=>⟨(R.mts f mi e).ex⟩
 mks:=λf mi e=>⟨(R.mks f mi e).ex⟩
 fds:=R.fds
 un:=R.un
 dpt:=R.dpt
end
structure Snd(T:Tab)(c:CE):Prop where
 e:∀ {X:Cx} {g:GI},Rel X T g->∀ {x:Expr},(chk T c).e g x=true->DE X x (ev T c).e
 t:∀ {X:Cx} {g:GI},Rel X T g->∀ {x:Expr},(chk T c).e g x=true->DT X x (ev T c).t
 be:∀ {X:Cx} {g:GI},Rel X T g->∀ {op:PySem.BoolOp} {vs:List Expr} {pos:Pos},(chk T c).b op g vs=true->DE X (.BoolOp op vs pos) (ev T c).e
 bt:∀ {X:Cx} {g:GI},Rel X T g->∀ {op:PySem.BoolOp} {vs:List Expr} {pos:Pos},(chk T c).b op g vs=true->DW X (.BoolOp op vs pos) (ev T c).t
 a:∀ {X:Cx} {g:GI},Rel X T g->∀ {es:List Expr},(chk T c).a g es=true->DA X es (ev T c).a/\es.all za8=true/\es.length=c.len
 i:∀ {X:Cx} {g:GI},Rel X T g->∀ {x tg:Expr},(chk T c).i g x=true->DI X tg x (ev T c).i
 o:∀ {X:Cx} {g:GI},Rel X T g->∀ {x:Option Expr},(chk T c).o g x=true->DO X x (ev T c).o
 k:∀ {X:Cx} {g:GI},Rel X T g->∀ {kws:List Keyword},(chk T c).a g (kws.map (·.value))=true->DKw X kws (ev T c).a
 c:∀ {X:Cx} {g:GI},Rel X T g->∀ {xs:List Expr},(chk T c).c g xs=true->DIfs X xs (ev T c).t
section
variable{T:Tab}{c:CE}{f:GI->Expr->Bool}{t:DTE}{u:DTT}
theorem Q5r:DT X x botT:=λ_ _ _ _ _ _ ⟨_,_,_,_,_,h,_⟩=>h.elim
theorem Q7f(h:DT X x u):DW X (.BoolOp op [x] pos) u:=by
 cases op
 ·exact Qaz h
 ·exact Qcc h
theorem Snd.of(hc:chk T c=mkC f)(hv:ev T c={ mkE t with t:=u })(h:∀ {X:Cx} {g:GI},Rel X T g->∀ {x:Expr},f g x=true->DE X x t/\DT X x u):Snd T c where
 e:=λR x q=>by rw[hc]at q;rw[hv];exact (h R q).1
 t:=λR x q=>by rw[hc]at q;rw[hv];exact (h R q).2
 be:=fun{X g} R {op vs pos} q=>by
  rw[hc]at q;rw[hv]
  match vs,q with
  | [x],q=>exact Q6J (h R (show f g x=true from q)).1
 bt:=fun{X g} R {op vs pos} q=>by
  rw[hc]at q;rw[hv]
  match vs,q with
  | [x],q=>exact Q7f (h R (show f g x=true from q)).2
 a:=λR es q=>by rw[hc]at q;cases q
 k:=λR kws q=>by rw[hc]at q;cases q
 i:=fun{X g} R {x tg} q=>by
  rw[hc]at q;rw[hv];exact Q6S (h R (show f g x=true from q)).1
 o:=fun{X g} R {x} q=>by
  rw[hc]at q;rw[hv]
  match x,q with
  | some x,q=>exact Q4F (h R (show f g x=true from q)).1
 c:=fun{X g} R {xs} q=>by
  rw[hc]at q;rw[hv]
  match xs,q with
  | [x],q=>exact Q3s (h R (show f g x=true from q)).2
end
section
variable{T:Tab}{X:Cx}{g:GI}{x:Expr}
theorem dtv(h:DE X x t)(he:∀ whole,isTrue x X.env whole=(do let v <- whole;standAt x.pos;holding [v] (truthy v))):DE X x t/\DT X x (dB t):=⟨h,Qca h he⟩
theorem Qb3:Snd T (.var i):=by
 refine Snd.of (u:=dB (dVar i)) rfl rfl fun{X g} R {x} q=>?_;have qv:=Q0i q;clear q;obtain⟨⟨y,p⟩,rfl,q⟩:=qv;dsimp only at q ⊢;rw[Zk,Z5]at q;obtain⟨v1,v2,v3⟩:=R.vis q.2;exact dtv (dv i (by rw[R.N];exact q.1) v1 v2 v3) λ_=>rfl
theorem Qb4:Snd T (.con l):=by
 refine Snd.of (u:=dB (dC l.d)) rfl rfl fun{X g} R {x} q=>?_;have qv:=Q0i q;clear q;obtain⟨⟨c,k,p⟩,rfl,q⟩:=qv;dsimp only at q ⊢;refine dtv ?_ λ_=>rfl;cases l with
 | non=>cases c <;> first | exact Qc7 | cases q
 | bl b=>cases c <;> first | cases q | skip
         rename_i c';have q':b=c':=by simpa[Lit.ck]using q
         subst q';exact de_bl
 | int b=>cases c <;> first | cases q | skip
          rename_i c';have q':b=c':=by simpa[Lit.ck]using q
          subst q';exact Qc6
 | str b=>cases c <;> first | cases q | skip
          rename_i y;unfold Lit.ck at q;rw[Zk,Z5]at q;obtain⟨q1,q2⟩:=q;subst q1;exact Qc8 q2
theorem Q9f:Snd T (.glob i):=by
 refine Snd.of (u:=dB (match T.con i with | some p=>dC p.2 | none=>botE)) rfl rfl fun{X g} R {x} q=>?_
 have qv:=Q0i q;clear q;obtain⟨⟨y,p⟩,rfl,q⟩:=qv;dsimp only at q ⊢;rw[Zk]at q;obtain⟨q1,q2⟩:=q;refine dtv ?_ λ_=>rfl;cases e:T.con i with
 | none=>rw[e]at q2;cases q2
 | some p =>
  rw[e]at q2;have q3:p.1=y:=by simpa using q2
  subst q3;obtain⟨u,v,h1,h2,h3⟩:=R.con i p e;obtain⟨g1,g2,g3⟩:=R.glob q1;exact Qay g1 h1 h2 h3 g2
theorem Qb5(ha:Snd T a)(hb:Snd T b):Snd T (.bin op a b):=by
 refine Snd.of (u:=dB (dOp op.r (ev T a).e (ev T b).e)) rfl rfl fun{X g} R {x} q=>?_;have qv:=Q0i q;clear q;obtain⟨⟨l,o,r,p⟩,rfl,q⟩:=qv;dsimp only at q ⊢;erw[Zk,Z5]at q;obtain⟨⟨rfl,q1⟩,q2⟩:=q;exact dtv (de_op (Bn.ok op) (ha.e R q1) (hb.e R q2)) λ_=>rfl
theorem Qb6(ha:Snd T a)(hb:Snd T b):Snd T (.cmp op a b):=by
 refine Snd.of (u:=dB (dOp op.r (ev T a).e (ev T b).e)) rfl rfl fun{X g} R {x} q=>?_;have qv:=Q0i q;clear q;obtain⟨⟨l,o,r,p⟩,rfl,q⟩:=qv;dsimp only at q ⊢;erw[Zk,Z5]at q;obtain⟨⟨⟨rfl,q0⟩,q1⟩,q2⟩:=q;exact⟨Qc9 (Cp.ok R.un op) (ha.e R q1) (hb.e R q2) (Q1S q0),Qcb (Cp.ok R.un op) (ha.e R q1) (hb.e R q2) (Q1S q0)⟩
theorem Q7g(ha:Snd T a)(hb:Snd T b)(hc:Snd T c):Snd T (.chain o p a b c):=by
 refine Snd.of (u:=dB (zaR o.r p.r (ev T a).e (ev T b).e (ev T c).e)) rfl rfl fun{X g} R {x} q=>?_;split at q
 ·rename_i l q1 q1' r r' pp;erw[Zk,Z5]at q;obtain⟨⟨⟨⟨⟨rfl,rfl⟩,q0⟩,q1⟩,q2⟩,q3⟩:=q;exact⟨Q8J (Cp.ok R.un o) (Cp.ok R.un p) (ha.e R q1) (hb.e R q2) (hc.e R q3) (show behindInMarks _ _=false from Q1S q0),
   Q8K (Cp.ok R.un o) (Cp.ok R.un p) (ha.e R q1) (hb.e R q2) (hc.e R q3) (show behindInMarks _ _=false from Q1S q0)⟩
 ·cases q
theorem Q5s(ha:Snd T a)(hb:Snd T b)(R:Rel X T g)(q:zb1 .And (chk T a) (chk T b) g vs=true) :
  DE X (.BoolOp .And vs pos) (zbq (ev T a).e (ev T b).e)/\DW X (.BoolOp .And vs pos) (dAnd (ev T a).t (ev T b).t):=by
 unfold zb1 at q;split at q
 ·rw[Zk]at q;exact⟨Qcf (ha.e R q.1) (hb.be R q.2),Qcd (ha.t R q.1) (hb.bt R q.2)⟩
 ·cases q
theorem Q7h(ha:Snd T a)(hb:Snd T b)(R:Rel X T g)(q:zb1 .Or (chk T a) (chk T b) g vs=true) :
  DE X (.BoolOp .Or vs pos) (dOrV (ev T a).e (ev T b).e)/\DW X (.BoolOp .Or vs pos) (dOr (ev T a).t (ev T b).t):=by
 unfold zb1 at q;split at q
 ·rw[Zk]at q;exact⟨de_or (ha.e R q.1) (hb.be R q.2),dw_or (ha.t R q.1) (hb.bt R q.2)⟩
 ·cases q
theorem Qb7(ha:Snd T a)(hb:Snd T b):Snd T (.and a b):=by
 have base:∀ {X:Cx} {g:GI},Rel X T g->∀ {x:Expr},zbW .And (chk T a) (chk T b) g x=true->DE X x (zbq (ev T a).e (ev T b).e)/\DT X x (dAnd (ev T a).t (ev T b).t):=fun{X g} R {x} q=>by
  have qv:=Q0i q;clear q;obtain⟨⟨o,vs,p⟩,rfl,q⟩:=qv;dsimp only at q ⊢;rw[Zk,Z5]at q;obtain⟨rfl,q⟩:=q;obtain⟨h1,h2⟩:=Q5s ha hb R (pos:=_) q;exact⟨h1,h2.dt⟩
 have bs:∀ {X:Cx} {g:GI},Rel X T g->∀ {op:PySem.BoolOp} {vs:List Expr} {pos:Pos},zbE .And (chk T a) (chk T b) op g vs=true->DE X (.BoolOp op vs pos) (zbq (ev T a).e (ev T b).e)/\DW X (.BoolOp op vs pos) (dAnd (ev T a).t (ev T b).t):=fun{X g} R {op vs pos} q=>by
  unfold zbE at q;split at q
  ·rename_i e;subst e;exact Q5s ha hb R q
  ·split at q
   ·obtain⟨h1,h2⟩:=base R q;exact⟨Q6J h1,Q7f h2⟩
   ·cases q
 exact {
  e:=λR _ q=>(base R q).1
  t:=λR _ q=>(base R q).2
  be:=λR _ _ _ q=>(bs R q).1
  bt:=λR _ _ _ q=>(bs R q).2
  a:=λR _ q=>nomatch q
  k:=λR _ q=>nomatch q
  i:=λR _ _ q=>Q6S (base R q).1
  o:=fun{X g} R {x} q=>by match x,q with | some x,q=>exact Q4F (base R q).1
  c:=fun{X g} R {xs} q=>by match xs,q with | [x],q=>exact Q3s (base R q).2 }
theorem QcL(ha:Snd T a)(hb:Snd T b):Snd T (.or a b):=by
 have base:∀ {X:Cx} {g:GI},Rel X T g->∀ {x:Expr},zbW .Or (chk T a) (chk T b) g x=true->DE X x (dOrV (ev T a).e (ev T b).e)/\DT X x (dOr (ev T a).t (ev T b).t):=fun{X g} R {x} q=>by
  have qv:=Q0i q;clear q;obtain⟨⟨o,vs,p⟩,rfl,q⟩:=qv;dsimp only at q ⊢;rw[Zk,Z5]at q;obtain⟨rfl,q⟩:=q;obtain⟨h1,h2⟩:=Q7h ha hb R (pos:=_) q;exact⟨h1,h2.dt⟩
 have bs:∀ {X:Cx} {g:GI},Rel X T g->∀ {op:PySem.BoolOp} {vs:List Expr} {pos:Pos},zbE .Or (chk T a) (chk T b) op g vs=true->DE X (.BoolOp op vs pos) (dOrV (ev T a).e (ev T b).e)/\DW X (.BoolOp op vs pos) (dOr (ev T a).t (ev T b).t):=fun{X g} R {op vs pos} q=>by
  unfold zbE at q;split at q
  ·rename_i e;subst e;exact Q7h ha hb R q
  ·split at q
   ·obtain⟨h1,h2⟩:=base R q;exact⟨Q6J h1,Q7f h2⟩
   ·cases q
 exact {
  e:=λR _ q=>(base R q).1
  t:=λR _ q=>(base R q).2
  be:=λR _ _ _ q=>(bs R q).1
  bt:=λR _ _ _ q=>(bs R q).2
  a:=λR _ q=>nomatch q
  k:=λR _ q=>nomatch q
  i:=λR _ _ q=>Q6S (base R q).1
  o:=fun{X g} R {x} q=>by match x,q with | some x,q=>exact Q4F (base R q).1
  c:=fun{X g} R {xs} q=>by match xs,q with | [x],q=>exact Q3s (base R q).2 }
theorem Qb8(ha:Snd T a):Snd T (.not a):=by
 refine Snd.of (u:=dNot (ev T a).t) rfl rfl fun{X g} R {x} q=>?_;have qv:=Q0i q;clear q;obtain⟨⟨uo,y,p⟩,rfl,q⟩:=qv;dsimp only at q ⊢;rw[Zk]at q;obtain⟨q0,q⟩:=q;cases Z5.mp q0;exact⟨Qcg (ha.e R q),Qce (ha.t R q)⟩
theorem Qb9(ha:Snd T a):Snd T (.neg a):=by
 refine Snd.of (u:=dB (dNeg (ev T a).e)) rfl rfl fun{X g} R {x} q=>?_;have qv:=Q0i q;clear q;obtain⟨⟨uo,y,p⟩,rfl,q⟩:=qv;dsimp only at q ⊢;rw[Zk]at q;obtain⟨q0,q⟩:=q;cases Z5.mp q0;exact dtv (Qcy (ha.e R q)) λ_=>rfl
theorem Qba(hc:Snd T c)(ha:Snd T a)(hb:Snd T b):Snd T (.ite c a b):=by
 refine Snd.of (u:=botT) rfl rfl fun{X g} R {x} q=>?_;have qv:=Q0i q;clear q;obtain⟨⟨y,z,z2,p⟩,rfl,q⟩:=qv;dsimp only at q ⊢;erw[Zk]at q;exact⟨Q8E (hc.t R q.1.1) (ha.e R q.1.2) (hb.e R q.2),Q5r⟩
theorem QcM(ha:Snd T a)(hb:Snd T b):Snd T (.ix a b):=by
 refine Snd.of (u:=dB (dOp rIxD (ev T a).e (ev T b).e)) rfl rfl fun{X g} R {x} q=>?_;have qv:=Q0i q;clear q;obtain⟨⟨y,z,p⟩,rfl,q⟩:=qv;dsimp only at q ⊢;erw[Zk]at q;exact dtv (de_ix (ha.e R q.1.2) (hb.e R q.2) (Q4K q.1.1)) λ_=>rfl
theorem QcN{a lo hi:CE}(ha:Snd T a)(hl:Snd T lo)(hh:Snd T hi):Snd T (.sl a lo hi):=by
 refine Snd.of (u:=dB (dSl (ev T a).e (ev T lo).o (ev T hi).o)) rfl rfl fun{X g} R {x} q=>?_;have qv:=Q0i q;clear q;obtain⟨⟨y,z,p⟩,rfl,q⟩:=qv;have qv:=Q0i q;clear q;obtain⟨⟨sl,su,sp⟩,e,q⟩:=qv;dsimp only at e q ⊢;subst e;erw[Zk]at q;exact dtv (Q8I (ha.e R q.1.1) (hl.o R q.1.2) (hh.o R q.2)) λ_=>rfl
theorem Qbb(ha:Snd T as):Snd T (.tup as):=by
 refine Snd.of (u:=dB (dTup (ev T as).a)) rfl rfl fun{X g} R {x} q=>?_;have qv:=Q0i q;clear q;obtain⟨⟨es,k,p⟩,rfl,q⟩:=qv;dsimp only at q ⊢;exact dtv (Qch (ha.a R q).1) λ_=>rfl
theorem Qbc(ha:Snd T as):Snd T (.lst as):=by
 refine Snd.of (u:=dB (dLst (ev T as).a)) rfl rfl fun{X g} R {x} q=>?_;have qv:=Q0i q;clear q;obtain⟨⟨es,p⟩,rfl,q⟩:=qv;dsimp only at q ⊢;exact dtv (Qci (ha.a R q).1) λ_=>rfl
theorem Q9g(ha:Snd T as):Snd T (.lstz as):=by
 refine Snd.of (u:=dB (zbT (ev T as).a)) rfl rfl fun{X g} R {x} q=>?_;have qv:=Q0i q;clear q;obtain⟨⟨es,p⟩,rfl,q⟩:=qv;dsimp only at q ⊢;exact dtv (QaM (ha.a R q).1) λ_=>rfl
theorem Qbd(ha:Snd T a):Snd T (.frz a) :=
 Snd.of (u:=botT) rfl rfl fun{X g} R {x} q=>⟨Qcj (ha.e R q),Q5r⟩
theorem Qbe(ha:Snd T a):Snd T (.thw a) :=
 Snd.of (u:=botT) rfl rfl fun{X g} R {x} q=>⟨QcK (ha.e R q),Q5r⟩
theorem Q7i(ha:Snd T a):Snd T (.items a):=by
 refine Snd.of (u:=botT) rfl rfl fun{X g} R {x} q=>?_;split at q
 ·rename_i y p o n ap cp pos;erw[Zk,Z5]at q;obtain⟨⟨⟨⟨⟨q1,rfl⟩,rfl⟩,q3⟩,q4⟩,q5⟩:=q;obtain⟨g1,g2,g3,g4⟩:=R.blt q1;exact⟨Q9e R.calm g1 g4 (ha.e R q5) (Q0x q4) (Z5.mpr q3),Q5r⟩
 ·cases q
theorem Q9h(ha:Snd T as):Snd T (.call f as):=by
 refine Snd.of (u:=dB (match T.fn f with | some fi=>zbV fi.sp (fi.dds.drop (fi.dds.length-(fi.np-as.len))) (ev T as).a | none=>botE)) rfl rfl fun{X g} R {x} q=>?_
 have qv:=Q0i q;clear q;obtain⟨⟨y,p,z,zs,pp⟩,rfl,q⟩:=qv;dsimp only at q ⊢;cases e:T.fn f with
 | none=>rw[e]at q;cases q
 | some fi =>
  rw[e]at q;erw[Zk,Z5,Ze]at q;obtain⟨⟨⟨⟨q1,rfl⟩,q2⟩,q3⟩,q4⟩:=q;obtain⟨g1,g2,g3⟩:=R.glob q1;obtain⟨k,fa,fd,ps,F,hr,hm,hk,hl,hd⟩:=(R.fns f fi e).ex;obtain⟨ds,dvs,b1,b2,b3⟩:=hd (fi.dds.length-(fi.np-as.len)) (Nat.sub_le _ _);obtain⟨a1,a2,a3⟩:=ha.a R q4;rw[Ym,Zk]at a2;exact dtv (QaA F hr g1 hm hk b1 b2 b3 (E:=E0) pass0 a1 g2 (Q0h a2.1) (Q0t a2.2)) λ_=>rfl
theorem Qbf(ha:Snd T as):Snd T (.blt b as):=by
 refine Snd.of (u:=dB (dCB b.r (ev T as).a)) rfl rfl fun{X g} R {x} q=>?_;have qv:=Q0i q;clear q;obtain⟨⟨y,p,z,zs,pp⟩,rfl,q⟩:=qv;dsimp only at q ⊢;erw[Zk,Z5]at q;obtain⟨⟨q1,rfl⟩,q2⟩:=q;obtain⟨g1,g2,g3,g4⟩:=R.blt q1;obtain⟨a1,a2,a3⟩:=ha.a R q2;rw[Ym,Zk]at a2;refine dtv ?_ λ_=>rfl;cases b with
 | dict=>exact Q2B (Qb2 R.calm (ZM (Yq (by decide) _) R.un)) g1 g4 (by rfl) a1 g3 g2 (Q0h a2.1) (Q0t a2.2)
 | len=>exact Q3r Qcx g1 g4 (by rfl) a1 g3 g2 (Q0h a2.1) (Q0t a2.2)
 | list=>exact Q2B QaL g1 g4 (by rfl) a1 g3 g2 (Q0h a2.1) (Q0t a2.2)
 | str=>exact Q2B QcB g1 g4 (by rfl) a1 g3 g2 (Q0h a2.1) (Q0t a2.2)
 | sorted=>exact Q3r Q6W g1 g4 (by rfl) a1 g3 g2 (Q0h a2.1) (Q0t a2.2)
 | min1=>exact Q3r (QaX R.calm) g1 g4 (by rfl) a1 g3 g2 (Q0h a2.1) (Q0t a2.2)
theorem Qbg(y:Ty)(h:y≠.non):bootBuiltins (Str.ofString y.nm)=some (.type y.nm):=by
 cases y <;> first | exact absurd rfl h | rfl
theorem Qbh(ha:Snd T a):Snd T (.isi y a):=by
 refine Snd.of (u:=dB (dIsI y (ev T a).e)) rfl rfl fun{X g} R {x} q=>?_;have qv:=Q0i q;clear q;obtain⟨⟨n,p,z,zs,pos⟩,rfl,q⟩:=qv;have qv:=Q0i q;clear q;obtain⟨d,e,q⟩:=qv;dsimp only at e;subst e;have qv:=Q0i q;clear q;obtain⟨⟨n',p3⟩,rfl,q⟩:=qv;dsimp only at q ⊢;erw[Zk,Z5,not_eq_true',Yr,ne_eq]at q;obtain⟨⟨⟨⟨⟨⟨q1,rfl⟩,q2⟩,rfl⟩,q3⟩,q4⟩,q5⟩:=q;obtain⟨g1,g2,g3,g4⟩:=R.blt q1;obtain⟨k1,k2,k3,k4⟩:=R.blt q2;exact dtv (Qcw y q3 (Qbg y q3) (ha.e R q5) g1 g4 k1 k4 k3 k2 (Q0h q4) (Q0h rfl) (Q0t rfl)) λ_=>rfl
theorem Q2F(h:es.all za8=true)(hl:es.length<30):((backTo cp (starEach es env)).all (λx=>!x.1)&&(backToKw cp (keywordEach [] env)).all (λx=>x.1.isSome)
      && decide (es.length+([]:List Keyword).length+(if ([]:List Keyword).isEmpty then 0 else 1)<30))=true:=by
 rw[Q5q h];simp[keywordEach,backToKw,hl]
theorem Q9Z(h:(chk T as).a g []=true):as=.nil:=by
 cases as <;> first | rfl | exact Bool.noConfusion (show false=true from h)
theorem QcO(ho:Snd T o)(ha:Snd T as):Snd T (.ml m o as):=by
 refine Snd.of (u:=dB (dML m.r (ev T o).e (ev T as).a)) rfl rfl fun{X g} R {x} q=>?_;have qv:=Q0i q;clear q;obtain⟨⟨z,n,ap,es,cp⟩,rfl,q⟩:=qv;dsimp only at q ⊢;erw[Zk,Ze]at q;obtain⟨⟨⟨⟨⟨q0,q1⟩,q2⟩,q3⟩,q4⟩,q5⟩:=q;obtain rfl:n=m.nm:=by simpa using q0
 obtain⟨a1,a2,a3⟩:=ha.a R q4;refine dtv ?_ λ_=>rfl;cases es with
 | nil =>
  obtain rfl:=Q9Z q4;cases m with
  | append=>exact Q6R PySem.F.slot_list_append PySem.F.type_list_append Q3W (ho.e R q3) (Q0x q2) q1
  | extend=>exact Q6R PySem.F.slot_list_extend PySem.F.type_list_extend Q4f (ho.e R q3) (Q0x q2) q1
  | pop=>exact Q6R slot_list_pop type_list_pop Q9Y (ho.e R q3) (Q0x q2) q1
 | cons e es =>
  have a2':=a2;rw[Ym,Zk]at a2';cases m with
  | append=>exact de_ml PySem.F.slot_list_append PySem.F.type_list_append Q3W (ho.e R q3) a1 (Q0x q2) (Q2F a2 q5) q1 (Q0h a2'.1) (Q0t a2'.2)
  | extend=>exact de_ml PySem.F.slot_list_extend PySem.F.type_list_extend Q4f (ho.e R q3) a1 (Q0x q2) (Q2F a2 q5) q1 (Q0h a2'.1) (Q0t a2'.2)
  | pop=>exact de_ml slot_list_pop type_list_pop Q9Y (ho.e R q3) a1 (Q0x q2) (Q2F a2 q5) q1 (Q0h a2'.1) (Q0t a2'.2)
theorem hu1(R:Rel X T g):X.A.units+1<cLine:=ZM (Yq (by decide) _) R.un
theorem Qbi(ha:Snd T a):Snd T (.fld c f a):=by
 refine Snd.of (u:=dB (dFld c f (ev T a).e)) rfl rfl fun{X g} R {x} q=>?_;have qv:=Q0i q;clear q;obtain⟨⟨z,n,p⟩,rfl,q⟩:=qv;dsimp only at q ⊢;erw[Zk,Z5,List.contains_eq_mem,Ze]at q;obtain⟨⟨⟨rfl,q1⟩,q2⟩,q3⟩:=q;obtain⟨C,h1,h2,h3⟩:=R.fds _ q1;exact dtv (QcC h1 h2 h3 (ha.e R q3) (Q0x q2)) λ_=>rfl
theorem Q4h(hb:attributeBase o m env (eval o env)=eval o env)
  (hf:((backTo pos (starEach args env)).all (λx=>!x.1)&&(backToKw pos (keywordEach [] env)).all (λx=>x.1.isSome)&&decide (args.length+([]:List Keyword).length+(if ([]:List Keyword).isEmpty then 0 else 1)<30))=true)
  (hl:(apos.endLine==pos.line)=true):eval (.Call (.Attribute o m apos) args [] pos) env=(do
   let ov <- eval o env
   standAt apos.atName
   let (f,first) <- holding [ov] (getMethod ov m (do return (<- importBound o env).getD true))
   callWith pos f first (backTo pos (starEach args env)) (backToKw pos (keywordEach [] env))):=by
 have hform:methodCallForm (args.length+([]:List Keyword).length) (backTo pos (starEach args env)) (backToKw pos (keywordEach [] env))=true:=hf;have hpos:methodCallPos true o env apos pos=pure pos:=by unfold methodCallPos;simp[hl]
 rw[arm_eval_Call,hb];unfold methodCall;rw[hform];erw[hpos];rfl
theorem Q9i(ho:Snd T o)(ha:Snd T as):Snd T (.meth f o as):=by
 refine Snd.of (u:=dB (match T.mt f with | some mi=>zbo mi.cl mi.nm mi.sp (ev T o).e (ev T as).a | none=>botE)) rfl rfl fun{X g} R {x} q=>?_
 have qv:=Q0i q;clear q;obtain⟨⟨z,n,ap,es,cp⟩,rfl,q⟩:=qv;dsimp only at q ⊢;cases e:T.mt f with
 | none=>rw[e]at q;cases q
 | some mi =>
  rw[e]at q;erw[Zk,Z5,Ze]at q;obtain⟨⟨⟨⟨⟨rfl,q1⟩,q2⟩,q3⟩,q4⟩,q5⟩:=q;obtain⟨k,C,fa,fd,ps,h1,h2,h3,F,hr,hb⟩:=(R.mts f mi e).ex;obtain⟨a1,a2,a3⟩:=ha.a R q4;have q1:(ap.endLine==cp.line)=true:=by rw[q1];exact beq_self_eq_true _
  refine dtv ?_ λ_=>rfl;cases es with
  | nil =>
   obtain rfl:=Q9Z q4;exact Q8R h1 h2 h3 F (hr.mono (le_succ _)) hb (E:=E0) pass0 (ho.e R q3) (Q4h (Q0x q2) (Q2F a2 q5) q1)
  | cons y ys =>
   have a2':=a2;rw[Ym,Zk]at a2';exact QaR h1 h2 h3 F (hr.mono (le_succ _)) hb (E:=E0) pass0 (ho.e R q3) a1 (Q0h a2'.1) (Q0t a2'.2) (Q4h (Q0x q2) (Q2F a2 q5) q1)
theorem Q9j(ha:Snd T as):Snd T (.make f as):=by
 refine Snd.of (u:=dB (match T.ini f with | some mi=>zbS mi.cl mi.sp (ev T as).a | none=>botE)) rfl rfl fun{X g} R {x} q=>?_
 have qv:=Q0i q;clear q;obtain⟨⟨y,p,z,zs,pp⟩,rfl,q⟩:=qv;dsimp only at q ⊢;cases e:T.ini f with
 | none=>rw[e]at q;cases q
 | some mi =>
  rw[e]at q;erw[Zk,Z5]at q;obtain⟨⟨q1,rfl⟩,q4⟩:=q;obtain⟨g1,g2,g3⟩:=R.glob q1;obtain⟨k,C,fa,fd,ps,h1,h2,h3,F,hr,hb⟩:=(R.mks f mi e).ex;obtain⟨a1,a2,a3⟩:=ha.a R q4;rw[Ym,Zk]at a2;exact dtv (QaS h1 h3 F hr g1 h2 hb (E:=E0) pass0 a1 g2 (Q0h a2.1) (Q0t a2.2)) λ_=>rfl
theorem Q9k:Snd T .dnew:=by
 refine Snd.of (u:=dB zbU) rfl rfl fun{X g} R {x} q=>?_;have qv:=Q0i q;clear q;obtain⟨p,rfl,q⟩:=qv
 (try dsimp only at q ⊢)
 exact dtv QaT λ_=>rfl
theorem Q9l:Snd T .knew:=by
 refine Snd.of (u:=dB zbQ) rfl rfl fun{X g} R {x} q=>?_;have qv:=Q0i q;clear q;obtain⟨p,rfl,q⟩:=qv
 (try dsimp only at q ⊢)
 exact dtv QaY λ_=>rfl
theorem Q7j(hk:Snd T k)(hv:Snd T v):Snd T (.disp1 k v):=by
 refine Snd.of (u:=dB (zbc (ev T k).e (ev T v).e)) rfl rfl fun{X g} R {x} q=>?_;have qv:=Q0i q;clear q;obtain⟨⟨y,z,p⟩,rfl,q⟩:=qv;dsimp only at q ⊢;rw[Zk]at q;exact dtv (Q8S (hu1 R) (hk.e R q.1) (hv.e R q.2)) λ_=>rfl
theorem Q5t(h:zaF z=true):NoSl z:=by
 intro o i;cases z <;> first | rfl | cases h
theorem Qbj(ha:Snd T a)(hb:Snd T b):Snd T (.dix a b):=by
 refine Snd.of (u:=dB (dOp rDIx (ev T a).e (ev T b).e)) rfl rfl fun{X g} R {x} q=>?_;have qv:=Q0i q;clear q;obtain⟨⟨y,z,p⟩,rfl,q⟩:=qv;dsimp only at q ⊢;erw[Zk]at q;exact dtv (QcD (hu1 R) (ha.e R q.1.2) (hb.e R q.2) (Q5t q.1.1)) λ_=>rfl
theorem hu2(R:Rel X T g):X.A.units+2<cLine:=ZM (Yq (by decide) _) R.un
theorem m1_of(h1:zau z=true)(h2:(ap.endLine==cp.line)=true)(h3:za8 y=true):M1 X z m ap y cp :=
 ⟨Q0x h1,Q2F (by rw[Ym,h3];rfl) (by show 1<30;decide),h2,by
  have e:starEach [y] X.env=[(false,eval y X.env)]:=by rw[Q0h h3];rfl
  rw[e];rfl⟩
theorem Q7k(hd:Snd T d)(hk:Snd T k):Snd T (.dget1 d k):=by
 refine Snd.of (u:=dB (zbf (ev T d).e (ev T k).e)) rfl rfl fun{X g} R {x} q=>?_;have qv:=Q0i q;clear q;obtain⟨⟨z,n,ap,es,cp⟩,rfl,q⟩:=qv;have qv:=Q0i q;clear q;obtain⟨y,e,q⟩:=qv;dsimp only at e q ⊢;subst e;erw[Zk]at q;obtain⟨⟨⟨⟨⟨q0,q1⟩,q2⟩,q3⟩,q4⟩,q5⟩:=q;cases Z5.mp q0;exact dtv (Q8Y R.un (hd.e R q4) (hk.e R q5) (m1_of q2 q1 q3)) λ_=>rfl
theorem Qbk(ha:Snd T a)(hb:Snd T b):Snd T (.kix a b):=by
 refine Snd.of (u:=dB (dOp rTIx (ev T a).e (ev T b).e)) rfl rfl fun{X g} R {x} q=>?_;have qv:=Q0i q;clear q;obtain⟨⟨y,z,p⟩,rfl,q⟩:=qv;dsimp only at q ⊢;erw[Zk]at q;exact dtv (QcF (hu1 R) (ha.e R q.1.2) (hb.e R q.2) (Q5t q.1.1)) λ_=>rfl
theorem m2_of(h1:zau z=true)(h2:(ap.endLine==cp.line)=true)(h3:za8 y=true)(h4:za8 y'=true):M2 X z m ap y y' cp :=
 ⟨Q0x h1,Q2F (by rw[Ym,Ym,h3,h4];rfl) (by show 2<30;decide),h2,by
  have e:starEach [y,y'] X.env=[(false,eval y X.env),(false,eval y' X.env)]:=by rw[Q0h h3,Q0h h4];rfl
  rw[e];rfl⟩
theorem Q7l(hd:Snd T d)(hk:Snd T k)(he:Snd T e):Snd T (.dget2 d k e):=by
 refine Snd.of (u:=dB (zbe (ev T d).e (ev T k).e (ev T e).e)) rfl rfl fun{X g} R {x} q=>?_;have qv:=Q0i q;clear q;walk_at "q5";cases Z5.mp q0;exact dtv (Q8T (hu1 R) (hd.e R q5) (hk.e R q6) (he.e R q7) (m2_of q2 q1 q3 q4)) λ_=>rfl
theorem Q7m(hd:Snd T d)(hk:Snd T k)(he:Snd T e):Snd T (.kget2 d k e):=by
 refine Snd.of (u:=dB (zbb (ev T d).e (ev T k).e (ev T e).e)) rfl rfl fun{X g} R {x} q=>?_;have qv:=Q0i q;clear q;walk_at "q5";cases Z5.mp q0;exact dtv (Q8W (hu1 R) (hd.e R q5) (hk.e R q6) (he.e R q7) (m2_of q2 q1 q3 q4)) λ_=>rfl
theorem Q7n(hd:Snd T d)(hk:Snd T k)(he:Snd T e):Snd T (.dsetd d k e):=by
 refine Snd.of (u:=dB (zbd (ev T d).e (ev T k).e (ev T e).e)) rfl rfl fun{X g} R {x} q=>?_;have qv:=Q0i q;clear q;walk_at "q5";cases Z5.mp q0;exact dtv (Q8U (hu1 R) (hd.e R q5) (hk.e R q6) (he.e R q7) (m2_of q2 q1 q3 q4)) λ_=>rfl
theorem Q7o(hd:Snd T d)(hk:Snd T k)(he:Snd T e):Snd T (.ksetd d k e):=by
 refine Snd.of (u:=dB (zba (ev T d).e (ev T k).e (ev T e).e)) rfl rfl fun{X g} R {x} q=>?_;have qv:=Q0i q;clear q;walk_at "q5";cases Z5.mp q0;exact dtv (Q9a (hd.e R q5) (hk.e R q6) (he.e R q7) (m2_of q2 q1 q3 q4)) λ_=>rfl
theorem Q1z{two:Bool}{ix:List Nat}{it c e:CE}(hi:Snd T it)(hc:Snd T c)(he:Snd T e)(R:Rel X T g)(q:zbX two ix (chk T it) (chk T c) (chk T e) g x=true) :
  ∃ elt tg iter ifs scope pos ts fn gV,x=.ListComp elt [⟨tg,iter,ifs,0⟩] scope pos/\Unp X.K ts.length (zb7 two) gV/\zaz X.env.scope scope (ts++fn) ts.length fn/\ix.map (λi=>X.N[i]?)=fn.map some/\DI X tg iter (ev T it).i /\
   (∀ cl C s₀ H₀ ex E,PG (za3 X scope (ts++fn) cl C s₀ H₀ ex E) tg gV)/\(∀ cl C s₀ H₀ ex E,zal (za3 X scope (ts++fn) cl C s₀ H₀ ex E) (λcls _ H=>lX X.K X.mg T.cl T.xd cls H)->DIfs (za3 X scope (ts++fn) cl C s₀ H₀ ex E) ifs (ev T c).t)/\(∀ cl C s₀ H₀ ex E,zal (za3 X scope (ts++fn) cl C s₀ H₀ ex E) (λcls _ H=>lX X.K X.mg T.cl T.xd cls H)->DE (za3 X scope (ts++fn) cl C s₀ H₀ ex E) elt (ev T e).e) /\
   (∀ y,foldedSetIterable iter X.env y=pure y):=by
 have qv:=Q0i q;clear q;obtain⟨⟨elt,tg,iter,ifs,scope,pos⟩,rfl,q⟩:=qv;dsimp only at q ⊢
 ·cases et:zbG two tg with
  | none=>rw[et]at q;cases q
  | some ts =>
   rw[et]at q;dsimp only at q ⊢;erw[Zk,Ze]at q;obtain⟨⟨⟨⟨⟨⟨q1,q2⟩,q3⟩,q4⟩,q5⟩,q6⟩,q7⟩:=q;have ok:=Q4g R q1;have Rc:=λcl C s₀ H₀ ex E hE=>R.comp q1 cl C s₀ H₀ ex E hE;have loc:∀ cl C s₀ H₀ ex E,∀ (i:Nat) (y:Str) (p:Pos),ts[i]? = some y->PG (za3 X scope (ts++ix.filterMap λi=>g.N[i]?) cl C s₀ H₀ ex E) (.Name y p) (zaW i):=λcl C s₀ H₀ ex E i y p hy=>by
    have hm:y∈ts:=Z6 hy;have hl:scope.names.lookup y=some .local:=by simpa using (ZR.mp q3) y hm
    have hl2:(compEnvC scope cl C X.env).scope.names.lookup y=some .local:=Q0E (k:=.local) (by decide) hl
    exact Q6l ok.nd (by
     show (ts++_)[i]? = some y;rw[ZZ (Zf.mp hy).1];exact hy) (.inl hl2) (.inr hl2)
   cases two with
   | false =>
    obtain⟨⟨⟨y,p⟩,e0⟩,_,et⟩:=Zs.mp et;cases e0;cases et;exact⟨_,_,_,_,_,_,[y],_,zaW 0,rfl,unp1,ok,by rw[R.N];exact q2,hi.i R q5,λcl C s₀ H₀ ex E=>loc cl C s₀ H₀ ex E 0 y p rfl,λcl C s₀ H₀ ex E hE=>hc.c (Rc cl C s₀ H₀ ex E hE) q6,λcl C s₀ H₀ ex E hE=>he.e (Rc cl C s₀ H₀ ex E hE) q7,Q2o q4⟩
   | true =>
    obtain⟨⟨⟨es,k',pp⟩,e0⟩,_,et⟩:=Zs.mp et;obtain⟨⟨⟨a,b⟩,e1⟩,_,et⟩:=Zs.mp et;obtain⟨⟨⟨y,p⟩,e2⟩,_,et⟩:=Zs.mp et;obtain⟨⟨⟨y',p'⟩,e3⟩,_,et⟩:=Zs.mp et;dsimp only at e0 e1 e2 e3;subst e2 e3;subst e1;cases e0;cases et;exact⟨_,_,_,_,_,_,[y,y'],_,gTup X.K 2 (zbN (zaW 0) (zbN (zaW 1) gNil)),rfl,unp2,ok,by rw[R.N];exact q2,hi.i R q5,
     λcl C s₀ H₀ ex E=>Q9I R.calm (Q3l (loc cl C s₀ H₀ ex E 0 y p rfl) (Q3l (loc cl C s₀ H₀ ex E 1 y' p' rfl) Q6m)),λcl C s₀ H₀ ex E hE=>hc.c (Rc cl C s₀ H₀ ex E hE) q6,λcl C s₀ H₀ ex E hE=>he.e (Rc cl C s₀ H₀ ex E hE) q7,Q2o q4⟩
theorem Q9m{two:Bool}{ix:List Nat}{it c e:CE}(hi:Snd T it)(hc:Snd T c)(he:Snd T e):Snd T (.comp two ix it c e):=by
 refine Snd.of (u:=dB (zbp (ev T it).i ix (zb7 two) (ev T c).t (ev T e).e)) rfl rfl fun{X g} R {x} q=>?_;obtain⟨elt,tg,iter,ifs,scope,pos,ts,fn,gV,rfl,h1,h2,h3,h4,h5,h6,h7,h8⟩:=Q1z hi hc he R q;exact dtv (QaE R.tp R.tk h1 R.calm h2 h3 h4 h5 h6 h7 h8) λ_=>rfl
theorem Q7p{two:Bool}{ix:List Nat}{it c e:CE}(hi:Snd T it)(hc:Snd T c)(he:Snd T e):Snd T (.compz two ix it c e):=by
 refine Snd.of (u:=dB (zb0 (ev T it).i ix (zb7 two) (ev T c).t (ev T e).e)) rfl rfl fun{X g} R {x} q=>?_;obtain⟨elt,tg,iter,ifs,scope,pos,ts,fn,gV,rfl,h1,h2,h3,h4,h5,h6,h7,h8⟩:=Q1z hi hc he R q;exact dtv (Q8L R.tp R.tk h1 R.calm h2 h3 h4 h5 h6 h7 h8) λ_=>rfl
theorem Q9n(ha:Snd T a):Snd T (.rng1 a) where
 e:=λ_ _ q=>nomatch q
 t:=λ_ _ q=>nomatch q
 be:=fun{X g} R {op vs pos} q=>by match vs,q with | [x],q=>cases q
 bt:=fun{X g} R {op vs pos} q=>by match vs,q with | [x],q=>cases q
 a:=λ_ _ q=>nomatch q
 k:=λ_ _ q=>nomatch q
 o:=fun{X g} R {x} q=>by match x,q with | some x,q=>cases q
 c:=fun{X g} R {xs} q=>by match xs,q with | [x],q=>cases q
 i:=fun{X g} R {x tg} q=>by
  have qv:=Q0i (show (ckR1 T.toTabC "range" (chk T a).e g x)=true from q);clear q;obtain⟨⟨y,p,z,zs,pp⟩,rfl,q⟩:=qv;erw[Zk,Z5,isEmpty_iff]at q;obtain⟨⟨⟨⟨rfl,q1⟩,rfl⟩,q2⟩,q3⟩:=q;obtain⟨g1,g2,g3,g4⟩:=R.blt q1;exact Q6N g1 g4 (Q3q (ha.e R q3) Q6K (Q0h q2)) (Q0h q2)
theorem Q9o(ha:Snd T a)(hb:Snd T b):Snd T (.rng2 a b) where
 e:=λ_ _ q=>nomatch q
 t:=λ_ _ q=>nomatch q
 be:=fun{X g} R {op vs pos} q=>by match vs,q with | [x],q=>cases q
 bt:=fun{X g} R {op vs pos} q=>by match vs,q with | [x],q=>cases q
 a:=λ_ _ q=>nomatch q
 k:=λ_ _ q=>nomatch q
 o:=fun{X g} R {x} q=>by match x,q with | some x,q=>cases q
 c:=fun{X g} R {xs} q=>by match xs,q with | [x],q=>cases q
 i:=fun{X g} R {x tg} q=>by
  have qv:=Q0i (show (ckR2 T.toTabC (chk T a).e (chk T b).e g x)=true from q);clear q;obtain⟨⟨y,p,z,zs,pp⟩,rfl,q⟩:=qv;have qv:=Q0i q;clear q;obtain⟨z',e,q⟩:=qv;dsimp only at e q ⊢;subst e;erw[Zk,Z5]at q;obtain⟨⟨⟨⟨⟨q1,rfl⟩,q2⟩,q3⟩,q4⟩,q5⟩:=q;obtain⟨g1,g2,g3,g4⟩:=R.blt q1;exact Q6O g1 g4 (Q3q (ha.e R q4) (Q3q (hb.e R q5) Q6K (Q0h q3)) (Q0h q2)) (by rw[Q0h q2,Q0h q3];rfl) (Q0h q3)
theorem Q7q(ha:Snd T a):Snd T (.dkeys a) where
 e:=λ_ _ q=>nomatch q
 t:=λ_ _ q=>nomatch q
 be:=fun{X g} R {op vs pos} q=>by match vs,q with | [x],q=>cases q
 bt:=fun{X g} R {op vs pos} q=>by match vs,q with | [x],q=>cases q
 a:=λ_ _ q=>nomatch q
 k:=λ_ _ q=>nomatch q
 o:=fun{X g} R {x} q=>by match x,q with | some x,q=>cases q
 c:=fun{X g} R {xs} q=>by match xs,q with | [x],q=>cases q
 i:=fun{X g} R {x tg} q=>Q9c (ha.e R q)
theorem Qbl:Snd T .nil where
 e:=λ_ _ q=>nomatch q
 t:=λ_ _ q=>nomatch q
 be:=λ_ _ _ _ q=>nomatch q
 bt:=λ_ _ _ _ q=>nomatch q
 a:=fun{X g} R {es} q=>by
  have:es=[]:=isEmpty_iff.mp q;subst this;exact⟨Q6K,rfl,rfl⟩
 k:=fun{X g} R {kws} q=>by
  match kws,q with
  | [],_=>exact QaN
  | _::_,q=>cases q
 i:=λ_ _ _ q=>nomatch q
 o:=fun{X g} R {x} q=>by
  have:x=none:=Option.isNone_iff_eq_none.mp q;subst this;exact QaJ
 c:=fun{X g} R {es} q=>by
  have:es=[]:=isEmpty_iff.mp q;subst this;exact Q8G
theorem Q9p(ha:Snd T a)(hs:Snd T as):Snd T (.cons a as) where
 e:=λ_ _ q=>nomatch q
 t:=λ_ _ q=>nomatch q
 be:=λ_ _ _ _ q=>nomatch q
 bt:=λ_ _ _ _ q=>nomatch q
 a:=fun{X g} R {es} q=>by
  match es,q with
  | x::r,q =>
   have q':(za8 x&&(chk T a).e g x&&(chk T as).a g r)=true:=q;erw[Zk]at q';obtain⟨⟨q1,q2⟩,q3⟩:=q';obtain⟨a1,a2,a3⟩:=hs.a R q3;exact⟨Q3q (ha.e R q2) a1 (Q0h q1),by rw[Ym,q1,a2];rfl,by rw[Zw,a3];rfl⟩
 k:=fun{X g} R {kws} q=>by
  match kws,q with
  | [],q=>cases q
  | ⟨nm,x,kp⟩::r,q =>
   have q':(za8 x&&(chk T a).e g x&&(chk T as).a g (r.map (·.value)))=true:=q;erw[Zk]at q';obtain⟨⟨q1,q2⟩,q3⟩:=q';exact Q8O (ha.e R q2) (hs.k R q3)
 i:=λ_ _ _ q=>nomatch q
 o:=λ_ _ q=>nomatch q
 c:=λ_ _ q=>nomatch q
theorem snd:∀ c:CE,Snd T c
 | .var _=>Qb3
 | .con _=>Qb4
 | .glob _=>Q9f
 | .bin _ a b=>Qb5 (snd a) (snd b)
 | .cmp _ a b=>Qb6 (snd a) (snd b)
 | .chain _ _ a b c=>Q7g (snd a) (snd b) (snd c)
 | .and a b=>Qb7 (snd a) (snd b)
 | .or a b=>QcL (snd a) (snd b)
 | .not a=>Qb8 (snd a)
 | .neg a=>Qb9 (snd a)
 | .ite c a b=>Qba (snd c) (snd a) (snd b)
 | .ix a b=>QcM (snd a) (snd b)
 | .sl a lo hi=>QcN (snd a) (snd lo) (snd hi)
 | .tup as=>Qbb (snd as)
 | .lst as=>Qbc (snd as)
 | .lstz as=>Q9g (snd as)
 | .frz e=>Qbd (snd e)
 | .call _ as=>Q9h (snd as)
 | .blt _ as=>Qbf (snd as)
 | .isi _ e=>Qbh (snd e)
 | .ml _ o as=>QcO (snd o) (snd as)
 | .fld _ _ e=>Qbi (snd e)
 | .meth _ o as=>Q9i (snd o) (snd as)
 | .make _ as=>Q9j (snd as)
 | .dnew=>Q9k
 | .disp1 k v=>Q7j (snd k) (snd v)
 | .dix d k=>Qbj (snd d) (snd k)
 | .dget2 d k e=>Q7l (snd d) (snd k) (snd e)
 | .dsetd d k e=>Q7n (snd d) (snd k) (snd e)
 | .ksetd d k e=>Q7o (snd d) (snd k) (snd e)
 | .knew=>Q9l
 | .dget1 d k=>Q7k (snd d) (snd k)
 | .kix d k=>Qbk (snd d) (snd k)
 | .thw e=>Qbe (snd e)
 | .items a=>Q7i (snd a)
 | .kget2 d k e=>Q7m (snd d) (snd k) (snd e)
 | .comp _ _ it c e=>Q9m (snd it) (snd c) (snd e)
 | .compz _ _ it c e=>Q7p (snd it) (snd c) (snd e)
 | .rng1 a=>Q9n (snd a)
 | .rng2 a b=>Q9o (snd a) (snd b)
 | .dkeys a=>Q7q (snd a)
 | .nil=>Qbl
 | .cons a as=>Q9p (snd a) (snd as)
end
inductive HP where
 | isx (nm:Str) | lit (l:Lit) | row
set_option genSizeOf false in
set_option genInjectivity false in
inductive CS where
 | nil | seq (s r:CS)
 | set (i:Nat) (e:CE)
 | set2 (i j:Nat) (e:CE)
 | ret (e:CE)
 | ite (c:CE) (a b:CS)
 | for1 (i:Nat) (it:CE) (b:CS)
 | for2 (i j:Nat) (it:CE) (b:CS)
 | ex (e:CE)
 | whil (c:CE) (b:CS)
 | setf (c f:Str) (o v:CE)
 | dput (d k v:CE)
 | kput (d k v:CE)
noncomputable def hP(T:Tab)(c je:Nat)(a:Addr):HP->DTE
 | .isx nm=>match T.isx c nm with
  | some b=>dIsE je a b
  | none=>botE
 | .lit l=>dC l.d
 | .row=>match rowOf c,T.rw c with
  | some n,true=>dXrow je a n
  | _,_=>botE
noncomputable def hA(T:Tab)(c je:Nat)(a:Addr):List HP->DTA
 | []=>dNil
 | p::r=>zaG (hP T c je a p) (hA T c je a r)
noncomputable def hS(T:Tab)(c je:Nat)(a:Addr)(y:Nat):List (List HP)->DTS
 | []=>zbR
 | p::r=>dSeq (dSet y (dOp rAddD (dVar y) (dTup (hA T c je a p)))) (hS T c je a y r)
noncomputable def evS(T:Tab):CS->DTS
 | .nil=>zbR
 | .seq s r=>dSeq (evS T s) (evS T r)
 | .set i e=>dSet i (ev T e).e
 | .set2 i j e=>dAsg (ev T e).e (zbC 2 (zaA (zak i) (zaA (zak j) zbD)))
 | .ret e=>dRet (ev T e).e
 | .ite c a b=>dIfS (ev T c).t (evS T a) (evS T b)
 | .for1 i it b=>dFor (ev T it).i (zak i) (evS T b)
 | .for2 i j it b=>dFor (ev T it).i (zbC 2 (zaA (zak i) (zaA (zak j) zbD))) (evS T b)
 | .ex e=>dDrop (ev T e).e
 | .whil c b=>zaw (ev T c).t (evS T b)
 | .setf c f o v=>dSetF c f (ev T o).e (ev T v).e
 | .dput d k v=>dDPut (ev T d).e (ev T k).e (ev T v).e
 | .kput d k v=>dTPut (ev T d).e (ev T k).e (ev T v).e
theorem evS_nil(T:Tab):evS T (.nil)=(zbR):=rfl
theorem evS_seq(T:Tab){s}{r}:evS T (.seq s r)=(dSeq (evS T s) (evS T r)):=rfl
theorem evS_set(T:Tab){i}{e}:evS T (.set i e)=(dSet i (ev T e).e):=rfl
theorem evS_set2(T:Tab){i}{j}{e}:evS T (.set2 i j e)=(dAsg (ev T e).e (zbC 2 (zaA (zak i) (zaA (zak j) zbD)))):=rfl
theorem evS_ret(T:Tab){e}:evS T (.ret e)=(dRet (ev T e).e):=rfl
theorem evS_ite(T:Tab){c}{a}{b}:evS T (.ite c a b)=(dIfS (ev T c).t (evS T a) (evS T b)):=rfl
theorem evS_for1(T:Tab){i}{it}{b}:evS T (.for1 i it b)=(dFor (ev T it).i (zak i) (evS T b)):=rfl
theorem evS_for2(T:Tab){i}{j}{it}{b}:evS T (.for2 i j it b)=(dFor (ev T it).i (zbC 2 (zaA (zak i) (zaA (zak j) zbD))) (evS T b)):=rfl
theorem evS_ex(T:Tab){e}:evS T (.ex e)=(dDrop (ev T e).e):=rfl
theorem evS_whil(T:Tab){c}{b}:evS T (.whil c b)=(zaw (ev T c).t (evS T b)):=rfl
theorem evS_setf(T:Tab){c}{f}{o}{v}:evS T (.setf c f o v)=(dSetF c f (ev T o).e (ev T v).e):=rfl
theorem evS_dput(T:Tab){d}{k}{v}:evS T (.dput d k v)=(dDPut (ev T d).e (ev T k).e (ev T v).e):=rfl
theorem evS_kput(T:Tab){d}{k}{v}:evS T (.kput d k v)=(dTPut (ev T d).e (ev T k).e (ev T v).e):=rfl
noncomputable def zaI:Expr->Bool
 | .ListComp .. | .SetComp .. | .DictComp ..=>false
 | _=>true
noncomputable def notTup:Expr->Bool
 | .Tuple ..=>false
 | _=>true
noncomputable def swapB(g:GI)(y:Str)(p:Pos):Expr->Bool
 | .ListComp _ _ s q=>g.kd y==some .local&&p.line==q.line && !(s.names.any λ(n,k)=>n==y&&(k==.local||k==.cell))
 | _=>false
noncomputable def zb2(g:GI)(i:Nat)(y:Str):Bool:=g.N[i]? == some y&&(g.kd y==some .local||g.kd y==some .cell)
structure ChkS where
 s:GI->Stmt->Bool
 b:GI->List Stmt->Bool
noncomputable def mkS(f:GI->Stmt->Bool):ChkS:=⟨f,λ_ _=>false⟩
noncomputable def isComp:CE->Bool
 | .comp .. | .compz ..=>true
 | _=>false
noncomputable def zbg(T:TabC):CS->ChkS
 | .nil=>⟨λ_ _=>false,λ_ sts=>sts.isEmpty⟩
 | .seq s r=>⟨λ_ _=>false,λg sts=>match sts with | x::xs=>(zbg T s).s g x&&(zbg T r).b g xs | []=>false⟩
 | .set i e=>mkS λg x=>match x with
  | .Assign [.Name y p] v _=>zb2 g i y&&(chkC T e).e g v&&(zaI v||g.kd y==some .cell||(swapB g y p v&&isComp e))
  | _=>false
 | .set2 i j e=>mkS λg x=>match x with
  | .Assign [.Tuple [.Name y _,.Name z _] _ _] v _=>zb2 g i y&&zb2 g j z&&(chkC T e).e g v&&zaI v&&notTup v
  | _=>false
 | .ret e=>mkS λg x=>match x with
  | .Return (some v) _=>(chkC T e).e g v
  | _=>false
 | .ite c a b=>mkS λg x=>match x with
  | .If t y z _=>(chkC T c).e g t&&(zbg T a).b g y&&(zbg T b).b g z
  | _=>false
 | .for1 i it b=>mkS λg x=>match x with
  | .For (.Name y _) iter body [] _=>zb2 g i y&&zaO iter&&(chkC T it).i g iter&&(zbg T b).b g body
  | _=>false
 | .for2 i j it b=>mkS λg x=>match x with
  | .For (.Tuple [.Name y _,.Name z _] _ _) iter body [] _=>zb2 g i y&&zb2 g j z&&zaO iter&&(chkC T it).i g iter&&(zbg T b).b g body
  | _=>false
 | .ex e=>mkS λg x=>match x with
  | .Expr v _=>(chkC T e).e g v&&zaI v
  | _=>false
 | .whil c b=>mkS λg x=>match x with
  | .While t body [] _=>(chkC T c).e g t&&(zbg T b).b g body
  | _=>false
 | .setf c f o v=>mkS λg x=>match x with
  | .Assign [.Attribute z n _] w _=>n==f&&T.fd.contains (c,f)&&(chkC T o).e g z&&(chkC T v).e g w&&zaI w
  | _=>false
 | .dput d k v=>mkS λg x=>match x with
  | .Assign [.Subscript y z _] w _=>(chkC T d).e g y&&(chkC T k).e g z&&(chkC T v).e g w&&zaI w
  | _=>false
 | .kput d k v=>mkS λg x=>match x with
  | .Assign [.Subscript y z _] w _=>(chkC T d).e g y&&(chkC T k).e g z&&(chkC T v).e g w
  | _=>false
noncomputable abbrev chkS(T:Tab)(c:CS):ChkS:=zbg T.toTabC c
structure RelS(X:Cx)(T:Tab)(g:GI):Prop extends Rel X T g where
 kind:X.env.scope.kind=.function
 pass:PassesOwn (model X.prog X.w) X.A X.env X.xe
 own:∀ x,g.kd x=some .cell->X.env.scope.names.lookup x=some .cell
 fn:∀ x,X.fn x=true
section
variable{X:Cx}{T:Tab}{g:GI}
theorem Q1r(h:zaI v=true):swapsWith v t l env=pure false:=by
 cases v <;> first | rfl | cases h
theorem Q7r(h:env.scope.names.lookup y=some .cell):swapsWith v (some (.Name y p)) l env=pure false:=by
 have hk:(env.kindOf y==some .local)=false:=by rw[show env.kindOf y=some .cell from h];rfl
 cases v with
 | ListComp el gens sc pp =>
  show (pure (env.blockKind==.function&&env.kindOf y==some .local&&p.line==pp.line && !(sc.names.any λ(n,k)=>n==y&&(k==.local||k==.cell))):Sem Bool)=pure false;rw[hk,Bool.and_false,Bool.false_and,Bool.false_and]
 | SetComp el gens sc pp =>
  show (pure (env.blockKind==.function&&env.kindOf y==some .local&&p.line==pp.line && !(sc.names.any λ(n,k)=>n==y&&(k==.local||k==.cell))):Sem Bool)=pure false;rw[hk,Bool.and_false,Bool.false_and,Bool.false_and]
 | DictComp k el gens sc pp =>
  show (pure (env.blockKind==.function&&env.kindOf y==some .local&&p.line==pp.line && !(sc.names.any λ(n,k)=>n==y&&(k==.local||k==.cell))):Sem Bool)=pure false;rw[hk,Bool.and_false,Bool.false_and,Bool.false_and]
 | _=>rfl
theorem RelS.loc(R:RelS X T g)(h:zb2 g i y=true):X.N.Nodup/\X.N[i]? = some y/\Loc X.env.scope y/\(X.fn y=true\/X.env.scope.names.lookup y=some .local):=by
 unfold zb2 at h;erw[Zk,or_eq_true,Z5]at h;refine⟨by rw[R.N];exact R.nd,by rw[R.N];exact h.1,?_,.inl (R.fn y)⟩
 rcases h.2 with q | q
 ·exact .inl (R.lc y q)
 ·exact .inr (R.own y q)
theorem RelS.tg(R:RelS X T g)(h:zb2 g i y=true):DL.DG X (.Name y p) (zak i):=by
 obtain⟨a,b,c,d⟩:=R.loc h;exact QaD a b c d
structure SndS(T:Tab)(c:CS):Prop where
 s:∀ {X:Cx} {g:GI},RelS X T g->∀ {x:Stmt},(chkS T c).s g x=true->DL.DS X x (evS T c)
 b:∀ {X:Cx} {g:GI},RelS X T g->∀ {xs:List Stmt},(chkS T c).b g xs=true->DSs X xs (evS T c)
theorem SndS.of{f:GI->Stmt->Bool}(hc:chkS T c=mkS f)(h:∀ {X:Cx} {g:GI},RelS X T g->∀ {x:Stmt},f g x=true->DL.DS X x (evS T c)):SndS T c where
 s:=λR x q=>by rw[hc]at q;exact h R q
 b:=λR x q=>by rw[hc]at q;cases q
theorem Q9q:SndS T (.set i e):=by
 refine SndS.of rfl fun{X g} R {x} q=>?_;split at q
 ·rename_i y p v sp;erw[Zk,or_eq_true]at q;obtain⟨⟨q1,q2⟩,q3⟩:=q;obtain⟨l1,l2,l3,l4⟩:=R.loc q1;rcases q3 with (q3 | q3) | ⟨q3,q4⟩
  ·exact Q9Q l1 l2 l3 ((snd e).e R.toRel q2) (Q1r q3) l4
  ·exact Q9Q l1 l2 l3 ((snd e).e R.toRel q2) (Q7r (R.own y (Z5.mp q3))) l4
  ·unfold swapB at q3;split at q3
   ·rename_i el gens sc pp;erw[Zk,Z5,not_eq_true']at q3;obtain⟨⟨r1,r2⟩,r3⟩:=q3;have hl:=R.lc y r1;have hb:X.env.blockKind=.function:=by unfold Env.blockKind;rw[R.kind];rfl
    have hsw:swapsWith (.ListComp el gens sc pp) (some (.Name y p)) sp.line X.env=pure true:=by
     show (pure (X.env.blockKind==.function&&X.env.kindOf y==some .local&&p.line==pp.line && !(sc.names.any λ(n,k)=>n==y&&(k==.local||k==.cell))):Sem Bool)=pure true;have hk:X.env.kindOf y=some .local:=hl;rw[hb,hk,r2,r3];simp
    unfold isComp at q4;split at q4
    ·rename_i two ix it c el';obtain⟨elt,tg,iter,ifs,scope,pos,ts,fn,gV,e0,h1,h2,h3,h4,h5,h6,h7,h8⟩:=Q1z (snd it) (snd c) (snd el') R.toRel q2;cases e0;exact Q5U R.tp R.tk hsw l1 l2 hl h1 R.calm h2 h3 h4 h5 h6 h7 h8
    ·rename_i two ix it c el';obtain⟨elt,tg,iter,ifs,scope,pos,ts,fn,gV,e0,h1,h2,h3,h4,h5,h6,h7,h8⟩:=Q1z (snd it) (snd c) (snd el') R.toRel q2;cases e0;exact Q4G R.tp R.tk hsw l1 l2 hl h1 R.calm h2 h3 h4 h5 h6 h7 h8
    ·cases q4
   ·cases q3
 ·cases q
theorem Q7s:SndS T (.set2 i j e):=by
 refine SndS.of rfl fun{X g} R {x} q=>?_;split at q
 ·rename_i y p z p' k pp v sp;erw[Zk]at q;obtain⟨⟨⟨⟨q1,q2⟩,q3⟩,q4⟩,q5⟩:=q;exact Qcl ((snd e).e R.toRel q3) (Q9P R.calm (Q2n (R.tg q1) (Q2n (R.tg q2) Q6L))) (by unfold swapsWithSole;exact Q1r q4) (by cases v <;> first | rfl | cases q5)
 ·cases q
theorem Q9r:SndS T (.ret e):=by
 refine SndS.of rfl fun{X g} R {x} q=>?_;split at q
 ·exact Qck ((snd e).e R.toRel q)
 ·cases q
theorem Q9s(ha:SndS T a)(hb:SndS T b):SndS T (.ite c a b):=by
 refine SndS.of rfl fun{X g} R {x} q=>?_;split at q
 ·erw[Zk]at q;exact ds_if ((snd c).t R.toRel q.1.1) (ha.b R q.1.2) (hb.b R q.2)
 ·cases q
theorem Q7t(hb:SndS T b):SndS T (.for1 i it b):=by
 refine SndS.of rfl fun{X g} R {x} q=>?_;split at q
 ·erw[Zk]at q;obtain⟨⟨⟨q1,q2⟩,q3⟩,q4⟩:=q;exact Q9R R.pass R.calm ((snd it).i R.toRel q3) (R.tg q1) (hb.b R q4) (Q2o q2)
 ·cases q
theorem Q7u(hb:SndS T b):SndS T (.for2 i j it b):=by
 refine SndS.of rfl fun{X g} R {x} q=>?_;split at q
 ·erw[Zk]at q;obtain⟨⟨⟨⟨q1,q1'⟩,q2⟩,q3⟩,q4⟩:=q;exact Q9R R.pass R.calm ((snd it).i R.toRel q3) (Q9P R.calm (Q2n (R.tg q1) (Q2n (R.tg q1') Q6L))) (hb.b R q4) (Q2o q2)
 ·cases q
theorem Qbm:SndS T (.ex e):=by
 refine SndS.of rfl fun{X g} R {x} q=>?_;split at q
 ·erw[Zk]at q;exact QaC ((snd e).e R.toRel q.1) (Q1r q.2)
 ·cases q
theorem Q7v(hb:SndS T b):SndS T (.whil c b):=by
 refine SndS.of rfl fun{X g} R {x} q=>?_;split at q
 ·erw[Zk]at q;exact Q8P R.pass ((snd c).t R.toRel q.1) (hb.b R q.2)
 ·cases q
theorem Q7w:SndS T (.setf c f o v):=by
 refine SndS.of rfl fun{X g} R {x} q=>?_;split at q
 ·erw[Zk,Z5,List.contains_eq_mem,Ze]at q;obtain⟨⟨⟨⟨rfl,q1⟩,q2⟩,q3⟩,q4⟩:=q;obtain⟨C,h1,h2,h3⟩:=R.fds _ q1;exact QaQ h1 h2 h3 ((snd o).e R.toRel q2) ((snd v).e R.toRel q3) (Q1r q4)
 ·cases q
theorem Q7x:SndS T (.dput d k v):=by
 refine SndS.of rfl fun{X g} R {x} q=>?_;split at q
 ·erw[Zk]at q;obtain⟨⟨⟨q1,q2⟩,q3⟩,q4⟩:=q;exact QaV (hu1 R.toRel) ((snd d).e R.toRel q1) ((snd k).e R.toRel q2) ((snd v).e R.toRel q3) (Q1r q4)
 ·cases q
theorem Q9t:swapsWith v (some (.Subscript y z p)) l env=pure false:=by
 cases v <;> rfl
theorem Q7y:SndS T (.kput d k v):=by
 refine SndS.of rfl fun{X g} R {x} q=>?_;split at q
 ·erw[Zk]at q;obtain⟨⟨q1,q2⟩,q3⟩:=q;exact Qb0 (hu1 R.toRel) ((snd d).e R.toRel q1) ((snd k).e R.toRel q2) ((snd v).e R.toRel q3) Q9t
 ·cases q
theorem sndS:∀ c:CS,SndS T c
 | .nil=>⟨λ_ _ q=>(nomatch q),fun{X g} R {xs} q=>by
   have:xs=[]:=isEmpty_iff.mp q;subst this;exact QaB⟩
 | .seq s r=>⟨λ_ _ q=>(nomatch q),fun{X g} R {xs} q=>by
   match xs,q with
   | x::xs,q =>
    have q':((chkS T s).s g x&&(chkS T r).b g xs)=true:=q;rw[Zk]at q';exact Q8F ((sndS s).s R q'.1) ((sndS r).b R q'.2)⟩
 | .set _ _=>Q9q
 | .set2 _ _ _=>Q7s
 | .ret _=>Q9r
 | .ite _ a b=>Q9s (sndS a) (sndS b)
 | .for1 _ _ b=>Q7t (sndS b)
 | .for2 _ _ _ b=>Q7u (sndS b)
 | .ex _=>Qbm
 | .whil _ b=>Q7v (sndS b)
 | .setf _ _ _ _=>Q7w
 | .dput _ _ _=>Q7x
 | .kput _ _ _=>Q7y
end
structure FunV(K:Frag)(x qual:Str)(st:Stmt)(f:Addr)(fd:FuncData)(dV:Value):Prop where
 ex:∃ (oc:Value) (od:Option Addr) (kV doc pm:Value) (an:Option Addr) (cdv ct:Value) (osl:Array (Option Value)),
  fd=fnOf x qual (zaj st) (zae st) (za5 st) dV kV doc pm an cdv ct/\K.lookup f=some ⟨oc,od,.func fd,osl⟩/\codeIn K cdv qual=true
 kp:keepIn K (.ref f)=true
theorem FunV.ok{P:Program}{w:World}{K:Frag}{mg:Str->Option Value}{base:Heap}{x qual:Str}{st:Stmt}{f:Addr}{fd:FuncData}{dV:Value}{N ps:List Str}{k:Nat}{sp:DSp}(F:FunV K x qual st f fd dV)(S:zaT N ps (za5 st))(len:∀ ds M R,sp ds M R->ds.length=ps.length)
  (hb:∀ (cdv:Value) (A:Around) (outer:List Env) (s:Shared) (H:Hp) (E:XK),Room k (A.deeper (envOfC qual (za5 st) s.heap.objs.size f cdv)) ->
   ∃ td:DTS,DSs (cxOf CX0 P w K mg base N qual (za5 st) f cdv A outer s H E).nox (zae st) td/\∀ ds M R,sp ds M R->td (za0 R) (za2 N ds) M):FnOk P w K mg base CX0 (k+1) f fd ps (lSp K sp):=by
 obtain⟨oc,od,kV,doc,pm,an,cdv,ct,osl,rfl,lk,hcd⟩:=F.ex;refine fn_of lk hcd S (λvs H Q E ⟨ds,M,R,e,m,h,k⟩=>by rw[<- e.length];exact len ds M R h) λA outer s H vs Q E hr ⟨ds,M,R,e,m,h,k⟩=>?_
 obtain⟨td,ht,hq⟩:=hb cdv A outer s H E hr;refine⟨_,ht.nox,za2 N ds,M,za0 R,?_,m,hq ds M R h,⟨λρ' M' σ' H' ⟨M0,q0,q⟩ x' s' m'=>k .non M0 .non H' q x' (m'.sub q0) .non,λd M' v H' ⟨M0,q0,q⟩ x' m' e'=>k d M0 v H' q x' (m'.sub q0) e',λ_ _ _ _ q=>q.elim,λ_ _ _ _ q=>q.elim⟩⟩;unfold za2 L2.start;rw[<- e.length];exact (SimS.ofDens e).append (SimS.nones _)
structure TabOk(P:Program)(w:World)(K:Frag)(mg:Str->Option Value)(base:Heap)(T:Tab)(k:Nat):Prop where
 fns:∀ f fi,T.fn f=some fi->∃ (j:Nat) (fa:Addr) (fd:FuncData) (ps:List Str),j<=k/\FnOk P w K mg base CX0 j fa fd ps (lSp K fi.sp)/\mg fi.nm=some (.ref fa)/\keepIn K (.ref fa)=true/\ps.length=fi.np /\
  ∀ j,j<=fi.dds.length->∃ (ds:List Value) (dvs:List V),Binds K fd ps ds/\Vals dvs ds/\∀ H,Dens K H (fi.dds.drop j) dvs
 fxs:∀ f fi,T.fx f=some fi->∃ (j:Nat) (fa:Addr) (fd:FuncData) (ps:List Str),j<=k/\FnOk P w K mg base (CX1 P w) j fa fd ps (lSpX K mg T.cl fi.sp)/\mg fi.nm=some (.ref fa)/\keepIn K (.ref fa)=true/\ps.length=fi.np /\
  ∀ j,j<=fi.dds.length->∃ (ds:List Value) (dvs:List V),Binds K fd ps ds/\Vals dvs ds/\∀ H,Dens K H (fi.dds.drop j) dvs
 cls:∀ c x,T.cl c=some x->∃ C,mg x=some (.ref C)/\ClsOk K mg T.toTabC c x C
 kfs:∀ f ki,T.kfn f=some ki->∃ (j:Nat) (fa:Addr) (fd:FuncData) (ps:List Str) (gv:List Value->List Value->List Value) (gV:List V->List V->List V),j<=k/\FnOk P w K mg base CX0 j fa fd ps (lSp K ki.sp)/\mg ki.nm=some (.ref fa)/\keepIn K (.ref fa)=true /\
  zc0 K fd ps ki.ks gv gV/\∀ H ds vs zs ws,Dens K H ds vs->Dens K H zs ws->Dens K H (ki.g ds zs) (gV vs ws)
 con:∀ i p,T.con i=some p->∃ u v,mg p.1=some u/\L2.RelV v u/\∀ H,Den K H p.2 v
 nob:∀ x∈T.bl,mg x=none
 isx:∀ c nm b,T.isx c nm=some b->IsxOk K mg T.cl c nm b
 lks:∀ x∈T.lk,∃ C,mg x=some (.ref C)/\XLook K C
 mts:∀ f mi,T.mt f=some mi->∃ (j:Nat) (C fa:Addr) (fd:FuncData) (ps:List Str),j+1<=k/\nsIn K mainGlobals mi.cl=some (some (.ref C))/\Cls K C/\Meth K C mi.nm fa/\FnOk P w K mg base CX0 j fa fd ps (lSp K mi.sp)/\Binds K fd ps []
 mks:∀ f mi,T.ini f=some mi->∃ (j:Nat) (C fa:Addr) (fd:FuncData) (ps:List Str),j+1<=k/\nsIn K mainGlobals mi.cl=some (some (.ref C))/\mg mi.cl=some (.ref C)/\Mk K C fa/\FnOk P w K mg base CX0 j fa fd ps (lSp K mi.sp)/\Binds K fd ps []
 fds:∀ p∈T.fd,FdOk K p.1 p.2
theorem room100(r:Room k A):A.units+100<cLine:=by have:=r.un;room
theorem Q5u{P:Program}{w:World}{K:Frag}{mg:Str->Option Value}{base:Heap}{T:Tab}{k:Nat}{x qual:Str}{st:Stmt}{f:Addr}{fd:FuncData}{N ps:List Str}{sp:DSp}(body:CS)
  (O:TabOk P w K mg base T k) {dV:Value} (F:FunV K x qual st f fd dV) (S:zaT N ps (za5 st)) (hc:(chkS T body).b ⟨N,(za5 st).names⟩ (zae st)=true)
  (len:∀ ds M R,sp ds M R->ds.length=ps.length) (hb:∀ ds M R,sp ds M R->evS T body (za0 R) (za2 N ds) M) (hno:∀ c M,¬ T.xd c M:=by intro _ _ h;exact h):FnOk P w K mg base CX0 (k+1) f fd ps (lSp K sp):=by
 refine F.ok S len λcdv A outer s H E hr=>⟨evS T body,(sndS body).b (g:=⟨N,(za5 st).names⟩) ?_ hc,hb⟩;refine { N:=rfl,nd:=S.nd,calm:=rfl,gl:=λx e=>e,lc:=λx e=>e,cf:=λx e=>e,fns:=λf fi e=>?_,kfs:=λf ki e=>?_,fxs:=λf fi e=>?_,cls:=O.cls,tk:=λ_ _ _ _ _ _ _ ⟨c,_,M,_,_,_,_,h⟩=>(hno c M h).elim,tp:=⟨_,_,_,rfl,rfl,rfl⟩,con:=O.con,nob:=O.nob,isx:=O.isx,lks:=O.lks,mts:=λf mi e=>?_,mks:=λf mi e=>?_,fds:=O.fds,un:=room100 hr,kind:=S.kind,pass:=PassesOwn.never,own:=λx e=>e,fn:=λ_=>rfl,dpt:=ZM (Nat.add_le_add_right (Nat.le_add_right _ _) 5) hr.dp }
 ·obtain⟨j,fa,fd,ps,hj,F,h1,h2,h3,h4⟩:=O.fns f fi e;exact⟨⟨j,fa,fd,ps,F,hr.mono hj,h1,h2,h3,h4⟩⟩
 ·obtain⟨j,fa,fd,ps,gv,gV,hj,F,h1,h2,h3,h4⟩:=O.kfs f ki e;exact⟨⟨j,fa,fd,ps,gv,gV,F,hr.mono hj,h1,h2,h3,h4⟩⟩
 ·obtain⟨j,fa,fd,ps,hj,F,h1,h2,h3,h4⟩:=O.fxs f fi e;exact⟨⟨j,fa,fd,ps,F,hr.mono hj,h1,h2,h3,h4⟩⟩
 ·obtain⟨j,C,fa,fd,ps,hj,h1,h2,h3,F,h4⟩:=O.mts f mi e;exact⟨⟨j,C,fa,fd,ps,h1,h2,h3,F,hr.mono hj,h4⟩⟩
 ·obtain⟨j,C,fa,fd,ps,hj,h1,h2,h3,F,h4⟩:=O.mks f mi e;exact⟨⟨j,C,fa,fd,ps,h1,h2,h3,F,hr.mono hj,h4⟩⟩
theorem Q1s{K:Frag}{mg:Str->Option Value}{nm x:Str}{t:Tok}{codes:List Nat}(hm:mg nm=some (.str x t))(h:S codes=x)(hc:cpOk codes):∃ u v,mg nm=some u/\L2.RelV v u/\∀ H,Den K H (.str codes) v :=
 ⟨_,.str (S codes),hm,⟨t,by rw[h]⟩,λH=>.str _ hc⟩
noncomputable def Tab.only(T:Tab)(l:List Nat):Tab:={ T with fn:=λi=>if i∈l then T.fn i else none,kfn:=λi=>if i∈l then T.kfn i else none,fx:=λi=>if i∈l then T.fx i else none,mt:=λi=>if i∈l then T.mt i else none,ini:=λi=>if i∈l then T.ini i else none }
def KOk(P:Program)(w:World)(K:Frag)(mg:Str->Option Value)(base:Heap)(ki:KI)(k:Nat):Prop :=
 ∃ (j:Nat) (fa:Addr) (fd:FuncData) (ps:List Str) (gv:List Value->List Value->List Value) (gV:List V->List V->List V),j<=k/\FnOk P w K mg base CX0 j fa fd ps (lSp K ki.sp)/\mg ki.nm=some (.ref fa)/\keepIn K (.ref fa)=true /\
  zc0 K fd ps ki.ks gv gV/\∀ H ds vs zs ws,Dens K H ds vs->Dens K H zs ws->Dens K H (ki.g ds zs) (gV vs ws)
def FOk(P:Program)(w:World)(K:Frag)(mg:Str->Option Value)(base:Heap)(fi:FI)(k:Nat):Prop :=
 ∃ (j:Nat) (fa:Addr) (fd:FuncData) (ps:List Str),j<=k/\FnOk P w K mg base CX0 j fa fd ps (lSp K fi.sp)/\mg fi.nm=some (.ref fa)/\keepIn K (.ref fa)=true/\ps.length=fi.np /\
  ∀ j,j<=fi.dds.length->∃ (ds:List Value) (dvs:List V),Binds K fd ps ds/\Vals dvs ds/\∀ H,Dens K H (fi.dds.drop j) dvs
section
variable{P:Program}{w:World}{K:Frag}{mg:Str->Option Value}{base:Heap}{T:Tab}{k:Nat}{fi:FI}
theorem FOk.mono(h:FOk P w K mg base fi j)(hk:j<=k):FOk P w K mg base fi k:=by
 obtain⟨i,fa,fd,ps,h1,h2⟩:=h;exact⟨i,fa,fd,ps,Zr h1 hk,h2⟩
theorem TabOk.nil(hc:∀ i p,T.con i=some p->∃ u v,mg p.1=some u/\L2.RelV v u/\∀ H,Den K H p.2 v)(hb:∀ x∈T.bl,mg x=none)(hcl:∀ c x,T.cl c=some x->∃ C,mg x=some (.ref C)/\ClsOk K mg T.toTabC c x C)
  (hix:∀ c nm b,T.isx c nm=some b->IsxOk K mg T.cl c nm b:=by intro _ _ _ h;cases h) (hlk:∀ x∈T.lk,∃ C,mg x=some (.ref C)/\XLook K C:=by intro _ h;cases h) (hfd:∀ p∈T.fd,FdOk K p.1 p.2:=by intro _ h;cases h):TabOk P w K mg base (T.only []) k :=
 ⟨λf fi e=>by simp[Tab.only]at e,λf fi e=>by simp[Tab.only]at e,hcl,λf fi e=>by simp[Tab.only]at e,hc,hb,hix,hlk,λf fi e=>by simp[Tab.only]at e,λf fi e=>by simp[Tab.only]at e,hfd⟩
theorem Q2G{α:Type}{F:Nat->Option α}{f f':Nat}{l:List Nat}{y:α}(h:(if f'∈f::l then F f' else none)=some y):(f'=f/\F f=some y)\/(if f'∈l then F f' else none)=some y:=by
 by_cases hf:f'=f
 ·subst hf;rw[Zg Zp]at h;exact .inl ⟨rfl,h⟩
 ·right;by_cases hm:f'∈l
  ·rw[Zg (Zo _ hm)]at h;rw[Zg hm];exact h
  ·rw[Zd (by simp[hf,hm])]at h
   cases h
def XOk(P:Program)(w:World)(K:Frag)(mg:Str->Option Value)(base:Heap)(cn:CN)(fi:FX)(k:Nat):Prop :=
 ∃ (j:Nat) (fa:Addr) (fd:FuncData) (ps:List Str),j<=k/\FnOk P w K mg base (CX1 P w) j fa fd ps (lSpX K mg cn fi.sp)/\mg fi.nm=some (.ref fa)/\keepIn K (.ref fa)=true/\ps.length=fi.np /\
  ∀ j,j<=fi.dds.length->∃ (ds:List Value) (dvs:List V),Binds K fd ps ds/\Vals dvs ds/\∀ H,Dens K H (fi.dds.drop j) dvs
def MtOk(P:Program)(w:World)(K:Frag)(mg:Str->Option Value)(base:Heap)(mi:MI)(k:Nat):Prop :=
 ∃ (j:Nat) (C fa:Addr) (fd:FuncData) (ps:List Str),j+1<=k/\nsIn K mainGlobals mi.cl=some (some (.ref C))/\Cls K C/\Meth K C mi.nm fa/\FnOk P w K mg base CX0 j fa fd ps (lSp K mi.sp)/\Binds K fd ps []
def MkOk(P:Program)(w:World)(K:Frag)(mg:Str->Option Value)(base:Heap)(mi:MI)(k:Nat):Prop :=
 ∃ (j:Nat) (C fa:Addr) (fd:FuncData) (ps:List Str),j+1<=k/\nsIn K mainGlobals mi.cl=some (some (.ref C))/\mg mi.cl=some (.ref C)/\Mk K C fa/\FnOk P w K mg base CX0 j fa fd ps (lSp K mi.sp)/\Binds K fd ps []
theorem MtOk.mono(h:MtOk P w K mg base mi j)(hk:j<=k):MtOk P w K mg base mi k:=by
 obtain⟨i,C,fa,fd,ps,h1,h2⟩:=h;exact⟨i,C,fa,fd,ps,Zr h1 hk,h2⟩
theorem MkOk.mono(h:MkOk P w K mg base mi j)(hk:j<=k):MkOk P w K mg base mi k:=by
 obtain⟨i,C,fa,fd,ps,h1,h2⟩:=h;exact⟨i,C,fa,fd,ps,Zr h1 hk,h2⟩
theorem TabOk.add{f:Nat}{l:List Nat}(r:TabOk P w K mg base (T.only l) k)(h1:∀ fi,T.fn f=some fi->FOk P w K mg base fi k)(h2:∀ ki,T.kfn f=some ki->KOk P w K mg base ki k)(h3:∀ fi,T.fx f=some fi->XOk P w K mg base T.cl fi k)
  (h4:∀ mi,T.mt f=some mi->MtOk P w K mg base mi k) (h5:∀ mi,T.ini f=some mi->MkOk P w K mg base mi k):TabOk P w K mg base (T.only (f::l)) k :=
 {cls:=r.cls
  fxs:=λf' fi' e'=>by
   rcases Q2G e' with ⟨rfl,e'⟩ | e'
   ·exact h3 _ e'
   ·exact r.fxs f' fi' e'
  fns:=λf' fi' e'=>by
   rcases Q2G e' with ⟨rfl,e'⟩ | e'
   ·exact h1 _ e'
   ·exact r.fns f' fi' e'
  kfs:=λf' ki e'=>by
   rcases Q2G e' with ⟨rfl,e'⟩ | e'
   ·exact h2 _ e'
   ·exact r.kfs f' ki e'
  mts:=λf' mi e'=>by
   rcases Q2G e' with ⟨rfl,e'⟩ | e'
   ·exact h4 _ e'
   ·exact r.mts f' mi e'
  mks:=λf' mi e'=>by
   rcases Q2G e' with ⟨rfl,e'⟩ | e'
   ·exact h5 _ e'
   ·exact r.mks f' mi e'
  con:=r.con
  nob:=r.nob
  isx:=r.isx
  lks:=r.lks
  fds:=r.fds }
theorem no_of{α:Type}{o:Option α}{p:α->Prop}(h:o=none):∀ x,o=some x->p x:=λx e=>by rw[h]at e;cases e
theorem Q7z{α:Type}{o:Option α}{p:α->Prop}{y:α}(h:o=some y)(hp:p y):∀ x,o=some x->p x:=λx e=>by rw[h]at e;cases e;exact hp
theorem TabOk.cons{f:Nat}{l:List Nat}(e:T.fn f=some fi)(h:FOk P w K mg base fi k)(r:TabOk P w K mg base (T.only l) k)(en:T.kfn f=none)(ex:T.fx f=none)(em:T.mt f=none:=by rfl)(ei:T.ini f=none:=by rfl):TabOk P w K mg base (T.only (f::l)) k :=
 r.add (Q7z e h) (no_of en) (no_of ex) (no_of em) (no_of ei)
theorem TabOk.consM{f:Nat}{l:List Nat}{mi:MI}(e:T.mt f=some mi)(h:MtOk P w K mg base mi k)(r:TabOk P w K mg base (T.only l) k)(en:T.fn f=none)(ek:T.kfn f=none)(ex:T.fx f=none:=by rfl)(ei:T.ini f=none:=by rfl):TabOk P w K mg base (T.only (f::l)) k :=
 r.add (no_of en) (no_of ek) (no_of ex) (Q7z e h) (no_of ei)
theorem TabOk.consI{f:Nat}{l:List Nat}{mi:MI}(e:T.ini f=some mi)(h:MkOk P w K mg base mi k)(r:TabOk P w K mg base (T.only l) k)(en:T.fn f=none)(ek:T.kfn f=none)(ex:T.fx f=none:=by rfl)(em:T.mt f=none:=by rfl):TabOk P w K mg base (T.only (f::l)) k :=
 r.add (no_of en) (no_of ek) (no_of ex) (no_of em) (Q7z e h)
theorem Q3w{x qual:Str}{st:Stmt}{f:Addr}{oc:Value}{od an:Option Addr}{osl:Array (Option Value)}{dV kV doc pm cdv ct:Value}(l:K.lookup f=some ⟨oc,od,.func (fnOf x qual (zaj st) (zae st) (za5 st) dV kV doc pm an cdv ct),osl⟩)
  (c:codeIn K cdv qual=true) (kp:keepIn K (.ref f)=true):FunV K x qual st f (fnOf x qual (zaj st) (zae st) (za5 st) dV kV doc pm an cdv ct) dV:=⟨⟨oc,od,kV,doc,pm,an,cdv,ct,osl,rfl,l,c⟩,kp⟩
theorem fok(F:FnOk P w K mg base CX0 k fa fd ps (lSp K sp))(hm:mg nm=some (.ref fa))(hk:keepIn K (.ref fa)=true)(hl:ps.length=np)(hb:Binds K fd ps []) :
  FOk P w K mg base ⟨nm,np,[],sp⟩ k :=
 ⟨k,fa,fd,ps,Zq _,F,hm,hk,hl,λj _=>⟨[],[],hb,.nil,λH=>by simp;exact .nil⟩⟩
end
end IR
namespace My
open PySem PySem.Spec L2 DL IR
open PyProof.Rows hiding St
noncomputable abbrev W:=List Nat
noncomputable def dn(ws:List W):D:=.tup (ws.map D.str)
theorem sIx_none(n d:Nat):HT.sIx n d none=d:=rfl
theorem sIx_nat(n d k:Nat):HT.sIx n d (some (k:Int))=min k n:=by
 show (if ((k:Int)<0) then ((k:Int)+(n:Int)).toNat else min (k:Int).toNat n)=min k n
 rw[Zd (by room)]
 simp
theorem Q1T{α:Type}(xs:List α)(k:Nat):cut xs none (some (k:Int))=xs.take k:=by
 unfold cut;rw[sIx_none,sIx_nat,drop_zero,sub_zero];rcases le_total k xs.length with h | h
 ·rw[Ye h]
 ·rw[min_eq_right h,ZS (Zq _),ZS h]
theorem Q5v{α:Type}(xs:List α)(k:Nat):cut xs (some (k:Int)) none=xs.drop k:=by
 unfold cut;rw[sIx_none,sIx_nat];rcases le_total k xs.length with h | h
 ·rw[Ye h,ZS (by rw[length_drop];exact Zq _)]
 ·rw[min_eq_right h,Yo (Zq _),Yo h];simp
theorem Qbn{α:Type}(xs:List α)(i j:Nat):cut xs (some (i:Int)) (some (j:Int))=(xs.drop i).take (j-i):=by
 unfold cut;rw[sIx_nat,sIx_nat];rcases le_total i xs.length with h | h
 ·rw[Ye h];rcases le_total j xs.length with h' | h'
  ·rw[Ye h']
  ·rw[min_eq_right h',ZS (by rw[length_drop];exact Zq _),ZS (by rw[length_drop];room)]
 ·rw[min_eq_right h,Yo (Zq _),Yo h];simp
theorem atI_nat'{α:Type}(xs:List α)(k:Nat):atI xs (k:Int)=xs[k]?:=by
 unfold atI ixN;by_cases h:k<xs.length
 ·simp[h]
 ·simp[h]
theorem Q0b(h:∀ k:DSt->DH->Prop,k=evS T r DD->evS T s { DD with nx:=k } ρ M):evS T (.seq s r) DD ρ M:=h _ rfl
theorem Q1U(h:∀ k:DSt->DH->Prop,k=u DD->t { DD with nx:=k } ρ M):dSeq t u DD ρ M:=h _ rfl
theorem Q0u{Cd:DH->Prop}(I:Nat->DSt->DH->Prop)(h0:I 0 ρ M)(hC:∀ i ρ M,I i ρ M->Cd M)
  (hs:∀ (i:Nat) (d:D) (ρ:DSt) (M:DH) (k:DSt->DH->Prop),items[i]? = some d->I i ρ M->(∀ ρ' M',I (i+1) ρ' M'->k ρ' M')->g d ρ M λρ' M'=>tb { DD with nx:=k,ct:=k,bk:=DD.nx } ρ' M')
  (hd:∀ ρ M,I items.length ρ M->DD.nx ρ M):zaX g tb DD Cd items ρ M:=by
 have go:∀ (n i:Nat) (ρ:DSt) (M:DH),i+n=items.length->I i ρ M->zaX g tb DD Cd (items.drop i) ρ M:=by
  intro n
  induction n with
  | zero =>
   intro i ρ M e h;have e':i=items.length:=by room
   subst e';rw[Yo (Zq _)];exact⟨hC _ _ _ h,hd ρ M h⟩
  | succ n ih =>
   intro i ρ M e h;have hlt:i<items.length:=by room
   rw[Y0 hlt];exact⟨hC _ _ _ h,hs i items[i] ρ M _ (Zi hlt) h λρ' M' h'=>ih (i+1) ρ' M' (by room) h'⟩
 have:=go items.length 0 ρ M (by room) h0
 simpa using this
theorem Q5w(lo:Int)(n:Nat):(rngD lo n).length=n:=by simp[rngD]
theorem Q5x{lo:Int}{n i:Nat}{d:D}(h:(rngD lo n)[i]? = some d):i<n/\d=.int (lo+(i:Int)):=by
 unfold rngD at h;rw[Zx]at h;cases e:(List.range n)[i]? with
 | none=>rw[e]at h;cases h
 | some j =>
  rw[e]at h;obtain⟨h1,h2⟩:=Zf.mp e;rw[Yl]at h1;rw[List.getElem_range]at h2;subst h2;cases h;exact⟨h1,rfl⟩
theorem Q1g{g:DTG}{tb:DTS}{DD:zbs}{Cd:DH->Prop}{lo:Int}{n:Nat}{ρ:DSt}{M:DH}(I:Nat->DSt->DH->Prop)(h0:I 0 ρ M)(hC:∀ i ρ M,I i ρ M->Cd M)
  (hs:∀ (i:Nat) (ρ:DSt) (M:DH) (k:DSt->DH->Prop),i<n->I i ρ M->(∀ ρ' M',I (i+1) ρ' M'->k ρ' M')->g (.int (lo+(i:Int))) ρ M λρ' M'=>tb { DD with nx:=k,ct:=k,bk:=DD.nx } ρ' M')
  (hd:∀ ρ M,I n ρ M->DD.nx ρ M):zaX g tb DD Cd (rngD lo n) ρ M :=
 Q0u I h0 hC (λi d ρ M k e h hk=>by obtain⟨h1,rfl⟩:=Q5x e;exact hs i ρ M k h1 h hk) (by rw[Q5w];exact hd)
theorem Q0M{unp:D->Option (List D)}{Cd:DH->Prop}{Q:List D->DH->Prop}(I:Nat->List D->DH->Prop)(h0:I 0 ys M)(hC:∀ i ys M,I i ys M->Cd M)
  (hs:∀ (i:Nat) (d:D) (ys:List D) (M:DH) (k:List D->DH->Prop),items[i]? = some d->I i ys M->(∀ ys' M',I (i+1) ys' M'->k ys' M')->match unp d with
   | some us=>tc (us.map some++fr) M λb M3=>if b=true then te (us.map some++fr) M3 λz M4=>ys.length<sizeLine/\k (ys++[z]) M4 else k ys M3
   | none=>False)
  (hd:∀ ys M,I items.length ys M->Q ys M):zan fr unp tc te Cd Q items ys M:=by
 have go:∀ (n i:Nat) (ys:List D) (M:DH),i+n=items.length->I i ys M->zan fr unp tc te Cd Q (items.drop i) ys M:=by
  intro n
  induction n with
  | zero =>
   intro i ys M e h;have e':i=items.length:=by room
   subst e';rw[Yo (Zq _)];exact⟨hC _ _ _ h,hd ys M h⟩
  | succ n ih =>
   intro i ys M e h;have hlt:i<items.length:=by room
   rw[Y0 hlt];exact⟨hC _ _ _ h,hs i items[i] ys M _ (Zi hlt) h λys' M' h'=>ih (i+1) ys' M' (by room) h'⟩
 have:=go items.length 0 ys M (by room) h0
 simpa using this
theorem Q4i{Cd:DH->Prop}{Q:List D->DH->Prop}(f:D->D)(hC:Cd M)(hl:items.length<=1000)
  (hs:∀ (d:D) (k:D->DH->Prop),d∈items->k (f d) M->te (some d::fr) M k) (hd:Q (items.map f) M):zan fr (λd=>some [d]) zaQ te Cd Q items [] M:=by
 refine Q0M (λi ys M'=>M'=M/\ys=(items.take i).map f) ⟨rfl,by simp⟩ (λi ys M' h=>by rw[h.1];exact hC) ?_ ?_
 ·rintro i d ys M' k e ⟨rfl,rfl⟩ hk;have hi:=(Zf.mp e).1;erw[zaQ,Yj,ZC,map_nil,cons_append,nil_append];refine hs d _ (Z6 e) ⟨small1000 (by rw[Zb,Zz];room),hk _ _ ⟨rfl,?_⟩⟩
  rw[take_add_one,e,Z9];rfl
 ·rintro ys M' ⟨rfl,rfl⟩;rw[take_length];exact hd
theorem ix_str(h0:0<=i)(h1:i<z.length)(hz:z.length<=1000)(h:∀ c,z[i.toNat]? = some c->Q (.str [c]) M):rIxD (.str z) (.int i) M Q:=by
 obtain⟨k,rfl⟩:=Int.eq_ofNat_of_zero_le h0;show (match atI z (k:Int) with | some c=>z.length<=sizeLine/\Q (.str [c]) M | none=>False)
 rw[atI_nat',Zi (by room)]
 exact⟨le_of_lt (small1000 hz),h _ (Zi (by simpa using h1))⟩
theorem ix_tup(h0:0<=i)(h1:i<xs.length)(h:∀ d,xs[i.toNat]? = some d->Q d M):rIxD (.tup xs) (.int i) M Q:=by
 obtain⟨k,rfl⟩:=Int.eq_ofNat_of_zero_le h0;show (match atI xs (k:Int) with | some c=>Q c M | none=>False)
 rw[atI_nat',Zi (by room)]
 exact h _ (Zi (by simpa using h1))
theorem ix_t{xs:List D}{i:Int}{M:DH}{Q:DK}{d:D}(e:atI xs i=some d)(h:Q d M):rIxD (.tup xs) (.int i) M Q:=by
 show (match atI xs i with | some c=>Q c M | none=>False)
 rw[e];exact h
theorem atI_0{α:Type}{x:α}{xs:List α}:atI (x::xs) 0=some x:=atI_nat' (x::xs) 0
theorem ix_l{xs:List D}{i:Int}{M:DH}{Q:DK}{d:D}(e:atI xs i=some d)(h:Q d M):rIxD (.lst xs) (.int i) M Q:=by
 show (match atI xs i with | some c=>Q c M | none=>False)
 rw[e];exact h
theorem Q2H(h0:0<=i)(h1:i<xs.length)(h:∀ d,xs[i.toNat]? = some d->Q d M):rIxD (.lst xs) (.int i) M Q:=by
 obtain⟨k,rfl⟩:=Int.eq_ofNat_of_zero_le h0;show (match atI xs (k:Int) with | some c=>Q c M | none=>False)
 rw[atI_nat',Zi (by room)]
 exact h _ (Zi (by simpa using h1))
theorem Q7A(ha:M a=some (.lst xs))(h0:0<=i)(h1:i<xs.length)(h:∀ d,xs[i.toNat]? = some d->Q d M):rIxD (.ref a) (.int i) M Q:=by
 obtain⟨k,rfl⟩:=Int.eq_ofNat_of_zero_le h0;show (match M a with | some (.lst xs)=>(match atI xs (k:Int) with | some c=>Q c M | none=>False) | _=>False)
 rw[ha];show (match atI xs (k:Int) with | some c=>Q c M | none=>False)
 rw[atI_nat',Zi (by room)]
 exact h _ (Zi (by simpa using h1))
theorem Q0e(ws:List W):plain 12 (.tup (ws.map D.str))=true:=by
 show (ws.map D.str).all (plain 11)=true;rw[ZR];intro d hd;obtain⟨w,_,rfl⟩:=ZJ.mp hd;rfl
theorem Q2I:∀ {a b:List W},a.map D.str=b.map D.str->a=b
 | [],[],_=>rfl
 | [],_::_,h=>by cases h
 | _::_,[],h=>by cases h
 | x::a,y::b,h=>by
  rw[ZC,ZC,List.cons.injEq]at h;rw[D.str.inj h.1,Q2I h.2]
theorem Q0F(a b:List W):eqB (.tup (a.map D.str)) (.tup (b.map D.str))=decide (a=b):=by
 by_cases h:a=b
 ·rw[Zm h,(Q0q _ _).mpr (by rw[h])]
 ·rw[Z7 h,(Q0I _ _).mpr (λe=>h (Q2I (D.tup.inj e)))]
theorem Q0f{R:DK}{d:D}{M:DH}(h:R d M):∃ M0,Sub M0 M/\R d M0:=⟨M,Sub.refl M,h⟩
@[elab_as_elim] theorem len1{α:Type}{P:List α->Prop}(us:List α)(h:us.length=1)(k:∀ a,P [a]):P us:=by
 cases us with
 | nil=>cases h
 | cons a t=>cases t with
  | nil=>exact k a
  | cons b t=>cases h
@[elab_as_elim] theorem len2{α:Type}{P:List α->Prop}(us:List α)(h:us.length=2)(k:∀ a b,P [a,b]):P us:=by
 cases us with
 | nil=>cases h
 | cons a t=>exact len1 t (Nat.succ.inj h) (k a)
@[elab_as_elim] theorem len3{α:Type}{P:List α->Prop}(us:List α)(h:us.length=3)(k:∀ a b c,P [a,b,c]):P us:=by
 cases us with
 | nil=>cases h
 | cons a t=>exact len2 t (Nat.succ.inj h) (k a)
@[elab_as_elim] theorem len4{α:Type}{P:List α->Prop}(us:List α)(h:us.length=4)(k:∀ a b c d,P [a,b,c,d]):P us:=by
 cases us with
 | nil=>cases h
 | cons a t=>exact len3 t (Nat.succ.inj h) (k a)
@[elab_as_elim] theorem len5{α:Type}{P:List α->Prop}(us:List α)(h:us.length=5)(k:∀ a b c d e,P [a,b,c,d,e]):P us:=by
 cases us with
 | nil=>cases h
 | cons a t=>exact len4 t (Nat.succ.inj h) (k a)
@[elab_as_elim] theorem len6{α:Type}{P:List α->Prop}(us:List α)(h:us.length=6)(k:∀ a b c d e f,P [a,b,c,d,e,f]):P us:=by
 cases us with
 | nil=>cases h
 | cons a t=>exact len5 t (Nat.succ.inj h) (k a)
open Lean in
local macro_rules | `(tactic| w_up) => do
 let xs : Array (TSyntax `term):=("IR.evS_nil IR.evS_seq IR.evS_set IR.evS_set2 IR.evS_ret IR.evS_ite IR.evS_for1 IR.evS_for2 IR.evS_ex IR.evS_whil IR.evS_setf IR.evS_dput IR.evS_kput IR.ev_var IR.ev_con IR.ev_glob IR.ev_bin IR.ev_cmp IR.ev_chain IR.ev_and IR.ev_or IR.ev_not IR.ev_neg IR.ev_ite IR.ev_ix IR.ev_sl IR.ev_tup IR.ev_lst IR.ev_lstz IR.ev_frz IR.ev_call IR.ev_blt IR.ev_isi IR.ev_ml IR.ev_fld IR.ev_meth IR.ev_make IR.ev_dnew IR.ev_disp1 IR.ev_dix IR.ev_dget2 IR.ev_dget1 IR.ev_dsetd IR.ev_knew IR.ev_kix IR.ev_thw IR.ev_items IR.ev_kget2 IR.ev_ksetd IR.ev_comp IR.ev_compz IR.ev_rng1 IR.ev_rng2 IR.ev_dkeys IR.ev_nil IR.ev_cons mkE dSeq zbR dRet dSet dIfS dAsg dFor dDrop dOp dSl dVar dC za2 dCB zbV zaG dNil dTup dLst zbT zbp zb0 zbu zbO dB dAnd dOr dNot zbq dOrV dNotV dNeg dIf dIsI dML zaR diAny zb9 zbv dXrow hP hA hS dIsE rMulS zbm zap dFld zbo zbS zbU zbc rInD rInO botE zb4 dThw zbw rInF rInB rDIx zbe zbf zbb zba zbQ dTPut rTIx rInT zbd dSetF dDPut zak zbC zaA zbD zaQ zb7 Lit.d Bn.r Cp.r Bl.r Ml.r rLen zbJ rSlD rList zaV rAddD rI2 rLtD rEqN rIsN res rMin1 rAddL rStr rIn1 zaJ mPop zbn isNon za0 QaG Q2D CE.len sub_self List.drop_nil drop_zero append_nil map_cons map_nil cons_append nil_append List.getElem?_cons_zero List.getElem?_cons_succ List.getElem?_nil List.set_cons_zero List.set_cons_succ length_cons length_nil Nat.reduceAdd Nat.reduceSub List.replicate Option.getD if_true if_false false_eq_true Bool.not_true Bool.not_false id true_and and_true".splitOn " ").toArray.map λs=>⟨(mkIdent s.toName).raw⟩
 `(tactic| simp only [$[$xs:term],*])
open Lean in
local macro_rules|`(tactic|walk_at $s:str)=>do
 if !s.getString.startsWith "~" then Macro.throwUnsupported
 let tb:="a .nil 0 b .cons 2 c .seq 2 d .ix 2 e .cmp 3 f .set 2 g .call 2 h .ret 1 i .bin 3 j .ite 3 k .eq 0 l .tup 1 m .fld 3 n .add 0 o .con 1 p .meth 3 q false 0 r .lstz 1 s .blt 2 t .ex 1 u .bl 1 v .glob 1 w .compz 5 x .for1 3 y .len 0 z .sl 3 A .and 2 B .lst 1 C .ne 0 D .non 0 E .setf 4 F .mod 0 G .ml 3 H true 0 I .or 2 J .append 0 K .whil 2 L .frz 1 M .rng1 1 N .dput 3 O .dix 2 P .neg 1 Q .mul 0 R .inD 0 S .dnew 0 T .ninD 0 U .isN 0 V .lt 0 W .not 1 X .min1 0 Y .sorted 0 Z .make 2 !a .kget2 3 !b .sub 0 !c .disp1 2 !d .addL 0 !e .notN 0 !f .list 0 !g .knew 0 !h .pop 0 !i .gt 0 !j .rng2 2 !k .mulS 0 !l .comp 5 !m .dsetd 3 !n .dget2 3 !o .inO 0 !p .dget1 2 !q .dict 0 !r .ninT 0 !s .kput 3 !t .kix 2 !u .inF 0 !v .thw 1 !w .dkeys 1 !x .extend 0 !y .items 1 !z .str 1 !A .chain 5 !B .str 0 !C .pow 0 !D .ksetd 3 !E .inB 0 !F .nin 0 !G .set2 3 !H .inn 0 !I .isi 2 !J .for2 4".splitOn " "
 let l:=s.getString.toList.tail!.foldl (init:=[""]) λts c=>
  let w:=ts.head!
  let h:=w.toList.headD ' '
  if c==' ' then ""::ts
  else if w=="" || ['%','\'','['].contains h || (h=='!' && w.length<2) || ((h.isDigit || ['&','#'].contains h) && c.isDigit) then w.push c::ts.tail!
  else c.toString::ts
 let st<-(l.filter (·!="")).foldlM (init:=([]:List (TSyntax `term))) λst w=>do
  let r:=w.toList.tail
  let q:=String.ofList r
  let nl:=λ(l:List String)=>do
   let a:=(l.map λx=>(⟨Syntax.mkNumLit x⟩:TSyntax `term)).toArray
   `([$a,*])
  match w.toList.head! with
  | '#'=>return(←`(.con (.int $(⟨Syntax.mkNumLit q⟩))))::st
  | '&'=>return(←`(.var $(⟨Syntax.mkNumLit q⟩)))::st
  | '%'=>return Syntax.mkStrLit q::st
  | '\''=>return(←`(.con (.str $(←nl (r.map λc=>toString c.toNat)))))::st
  | '['=>return(←nl (if q=="" then [] else q.splitOn ","))::st
  | c=>
   if c.isDigit then return⟨Syntax.mkNumLit w⟩::st
   let i:=tb.idxOf w
   let m:=(tb[i+2]!).toNat!
   let h:=tb[i+1]!
   let f<-if h.startsWith "." then `(.$(mkIdent (h.drop 1).toString.toName):ident) else pure ⟨(mkIdent h.toName).raw⟩
   return Syntax.mkApp f (st.take m).toArray::st.drop m
 `(tactic|exact $(st.head!))
noncomputable def b_aK:CS:=by walk_at "~chekz&0asyb&1a&1a"
noncomputable def b_a1:CS:=by walk_at "~ch!lq[0 Minsyb&0a#1az&1a&0a"
noncomputable def signs:W:=[97,98,99,100,101,102,103,104,105,106,107,108,109,110,111,112,113,114,115,116,117,118,119,120,121,122,48,49,50,51,52,53,54,55,56,57,45]
structure Wd(w:W):Prop where
 lo:1<=w.length
 hi:w.length<=12
 al:∀ c∈w,c∈signs
def sp_aK:DSp:=λds M R=>∃ a b:List W,ds=[dn a,dn b]/\R (.bl (decide (a.take b.length=b))) M
noncomputable def zaf(a:List W):List D:=(List.range (a.length+1)).map λk=>dn (a.take k)
def sp_a1:DSp:=λds M R=>∃ a:List W,ds=[dn a]/\a.length<=900/\∀ p,M p=none->R (.ref p) (dupd M p (.lst (zaf a)))
abbrev OkF(T:Tab)(b:CS)(sp:DSp)(ns:List Str):Prop:=∀ ds M R,sp ds M R->evS T b (za0 R) (za2 ns ds) M
section
variable{T:Tab}
theorem ok_aK:OkF T b_aK sp_aK ["",""]:=by
 rintro ds M R ⟨a,b,rfl,h⟩;erw[b_aK,dn];w_up;rw[Q1T,Zb,<- map_take,Q0F];exact⟨Q0e _,Q0e _,Q0f h⟩
theorem ok_a1:OkF T b_a1 sp_a1 [""]:=by
 rintro ds M R ⟨a,rfl,hl,h⟩;erw[b_a1,dn];w_up;rw[Zb];refine⟨by room,by room,?_⟩
 have e:((a.length:Int)+1).toNat=a.length+1:=by room
 rw[e];refine Q4i (λd=>match d with | .int i=>dn (a.take i.toNat) | d=>d) trivial (by rw[Q5w];room) ?_ ?_
 ·intro d k hd hk;obtain⟨i,hi⟩:=Yb.mp hd;obtain⟨h1,rfl⟩:=Q5x hi;have e2:(0:Int)+(i:Int)=(i:Int):=by room
  rw[e2]at hk ⊢;w_up;rw[Q1T,<- map_take];have e4:(match D.int (i:Int) with | .int i=>dn (a.take i.toNat) | d=>d)=dn (a.take i):=by simp
  rw[e4]at hk;exact hk
 ·have e3:(rngD 0 (a.length+1)).map (λd=>match d with | .int i=>dn (a.take i.toNat) | d=>d)=zaf a:=by
   unfold rngD zaf;rw[map_map];refine map_congr_left λi _=>?_;simp
  rw[e3];refine⟨le_of_lt (small1000 (by unfold zaf;rw[Zb,Yl];room)),λp hp=>Q0f (h p hp)⟩
theorem mulOk{i j:Int}(h1:-1000000000000<=i)(h2:i<=1000000000000):CMul i j:=.inl ⟨by room,by room⟩
end
theorem atI_last{α:Type}{xs:List α}(h:xs≠[]):atI xs (-1)=xs[xs.length-1]?:=by
 have hl:0<xs.length:=List.length_pos_iff.mpr h;unfold atI ixN;rw[Zd (by room),Zg (by room)]
 show xs[((-1:Int)+(xs.length:Int)).toNat]? = _;congr 1;room
theorem Q4L{xs:List D}{M:DH}{Q:DK}{d:D}(e:xs[xs.length-1]? = some d)(h:Q d M):rIxD (.lst xs) (.int (-1)) M Q:=by
 show (match atI xs (-1) with | some c=>Q c M | none=>False)
 rw[atI_last (by intro z;subst z;cases e),e]
 exact h
noncomputable def b_aI:CS:=by walk_at "~cheR&1m%Page %standing &0a"
noncomputable def b_ak:CS:=by walk_at "~cx2zg2b&1ainsybm%Page %top &0a#1acjeR&2m%Page %downs &0ch&2aaachoDa"
noncomputable def b_at:CS:=by walk_at "~ctGJ!mm%Page %rows &0d&1#0Bab&1acjekd&1#2v13cNm%Page %downs &0d&1#0&1aacf2d&1#0cKeT&2m%Page %standing &0cNm%Page %standing &0&2ouHcf2z&2aP#1aa"
noncomputable def b_am:CS:=by walk_at "~cE%Page %top &0d&1#0cE%Page %life &0d&1#1cE%Page %rows &0ScE%Page %downs &0ScE%Page %standing &0!cd&1#0ouHcx2d&1#2ctp301&0b&2aaa"
structure Rw where
 n:List W
 l:Int
 k:W
 v:D
noncomputable def Rw.d(r:Rw):D:=.tup [dn r.n,.int r.l,.str r.k,r.v]
noncomputable def zD(top:List W)(life:Int)(rows:List Rw):D:=.tup [dn top,.int life,.lst (rows.map Rw.d)]
noncomputable def za7:W:=[100,111,119,110]
noncomputable def zaN(top:List W)(life:Int)(r d s:Addr):List (Str×D):=[("top",dn top),("life",.int life),("rows",.ref r),("downs",.ref d),("standing",.ref s)]
theorem Q1t{f:Str}{v:D}{fs:List (Str×D)}:List.lookup f ((f,v)::fs)=some v:=by rw[ZP,beq_self_eq_true]
theorem Q0j{f g:Str}{v:D}{fs:List (Str×D)}(h:(f==g)=false):List.lookup f ((g,v)::fs)=fs.lookup f:=by rw[ZP,h]
section
variable{top:List W}{life:Int}{r d s:Addr}
theorem Q4j:List.lookup ("top" : Str) (zaN top life r d s)=some (dn top):=Q1t
theorem Q3h:List.lookup ("life" : Str) (zaN top life r d s)=some (D.int life):=(Q0j (by kd_p)).trans Q1t
theorem Q2e:List.lookup ("rows" : Str) (zaN top life r d s)=some (D.ref r):=(Q0j (by kd_p)).trans ((Q0j (by kd_p)).trans Q1t)
theorem Q0N:List.lookup ("downs" : Str) (zaN top life r d s)=some (D.ref d):=(Q0j (by kd_p)).trans ((Q0j (by kd_p)).trans ((Q0j (by kd_p)).trans Q1t))
theorem Q0U:List.lookup ("standing" : Str) (zaN top life r d s)=some (D.ref s):=(Q0j (by kd_p)).trans ((Q0j (by kd_p)).trans ((Q0j (by kd_p)).trans ((Q0j (by kd_p)).trans Q1t)))
theorem Q0P{m:Str}(h1:(m == "top")=false:=by kd_p)(h2:(m == "life")=false:=by kd_p)(h3:(m == "rows")=false:=by kd_p)(h4:(m == "downs")=false:=by kd_p)(h5:(m == "standing")=false:=by kd_p):List.lookup m (zaN top life r d s)=none :=
 (Q0j h1).trans ((Q0j h2).trans ((Q0j h3).trans ((Q0j h4).trans ((Q0j h5).trans rfl))))
end
theorem Q0r:∀ {fs:List (Str×D)},f∉fs.map (·.1)->zaC f v fs=fs++[(f,v)]
 | [],_=>rfl
 | (g,x)::r,h=>by
  rw[ZC,Z1,not_or]at h;show (if g=f then (g,v)::r else (g,x)::zaC f v r)=_
  rw[Zd (λe=>h.1 e.symm),Q0r h.2];rfl
noncomputable def atN(rows:List Rw)(n:List W):List Rw:=rows.filter λx=>decide (x.n=n)
structure RowsAt(M0 M:DH)(r:Addr)(kr:List (List W×D))(rows:List Rw):Prop where
 m:M r=some (.oth (.dct kr))
 f:M0 r=none
 l:kr.length<=rows.length
 v:∀ n v,valD kr n=some v->∃ l,v=.ref l/\M l=some (.lst ((atN rows n).map Rw.d))/\M0 l=none
 i:∀ n n' l,valD kr n=some (.ref l)->valD kr n'=some (.ref l)->n=n'
 no:∀ n,valD kr n=none->atN rows n=[]
 yes:∀ n,atN rows n=[]->valD kr n=none
noncomputable def zam(rows:List Rw)(n:List W):Option D:=((rows.filter λx=>decide (x.k=za7/\x.n=n)).getLast?).map Rw.d
theorem Q4k(h:(kvs.map (·.1)).Nodup):((putD kvs k v).map (·.1)).Nodup:=by
 unfold putD;split
 ·rw[map_map,show ((·.1) ∘ λkv:List W×D=>if kv.1=k then (kv.1,v) else kv)=(·.1) from funext λkv=>by show (if kv.1=k then (kv.1,v) else kv).1=kv.1;split <;> rfl]
  exact h
 ·next e =>
  rw[Z9,nodup_append];refine⟨h,Yx _ _,λa ha b hb z=>e ?_⟩;obtain⟨q,hq,rfl⟩:=ZJ.mp ha;rw[any_eq_true];exact⟨q,hq,Zm (z.trans (Zh.mp hb))⟩
structure DownsAt(M0 M:DH)(d:Addr)(kd:List (List W×D))(rows:List Rw):Prop where
 m:M d=some (.oth (.dct kd))
 f:M0 d=none
 l:kd.length<=rows.length
 v:∀ n,valD kd n=zam rows n
 u:(kd.map (·.1)).Nodup
structure StandAt(M0 M:DH)(s:Addr)(ks:List (List W×D))(S:List W->Prop)(k:Nat):Prop where
 m:M s=some (.oth (.dct ks))
 f:M0 s=none
 l:ks.length<=k
 v:∀ n,(valD ks n).isSome=true <-> S n
def Std(top:List W)(rows:List Rw)(n:List W):Prop:=n=top\/(top.length<n.length/\∃ x∈rows,x.n.take n.length=n)
section
variable{M0 M:DH}{r d s q:Addr}{kr kd ks:List (List W×D)}{rows:List Rw}{o:MO}{S:List W->Prop}{k:Nat}
theorem RowsAt.upd(h:RowsAt M0 M r kr rows)(hq:q≠r)(hl:∀ n l,valD kr n=some (.ref l)->l≠q):RowsAt M0 (dupd M q o) r kr rows :=
 {h with
  m:=by rw[Q0a hq.symm];exact h.m
  v:=λn v e=>by
   obtain⟨l,rfl,h1,h2⟩:=h.v n v e;exact⟨l,rfl,by rw[Q0a (hl n l e)];exact h1,h2⟩ }
theorem RowsAt.new(h:RowsAt M0 M r kr rows)(hq:M q=none):RowsAt M0 (dupd M q o) r kr rows :=
 h.upd (dne h.m hq).symm λn l e=>by
  obtain⟨l',e',h1,_⟩:=h.v n _ e;cases e';exact dne h1 hq
theorem RowsAt.oth(h:RowsAt M0 M r kr rows)(hr:q≠r)(hq:M q=some (.oth u)):RowsAt M0 (dupd M q o) r kr rows :=
 h.upd hr λn l e z=>by
  obtain⟨l',e',h1,_⟩:=h.v n _ e;cases e';rw[z,hq]at h1;cases h1
theorem DownsAt.upd(h:DownsAt M0 M d kd rows)(hq:q≠d):DownsAt M0 (dupd M q o) d kd rows:={ h with m:=by rw[Q0a hq.symm];exact h.m }
theorem StandAt.upd(h:StandAt M0 M s ks S k)(hq:q≠s):StandAt M0 (dupd M q o) s ks S k:={ h with m:=by rw[Q0a hq.symm];exact h.m }
end
structure PG(M0 M:DH)(p r d s:Addr)(top:List W)(life:Int)(kr kd ks:List (List W×D))(rr rd:List Rw)(S:List W->Prop)(k:Nat):Prop where
 ob:M p=some (.oth (.ins "Page" (zaN top life r d s)))
 fp:M0 p=none
 sub:Sub M0 M
 ne1:r≠d
 ne2:r≠s
 ne3:d≠s
 hR:RowsAt M0 M r kr rr
 hD:DownsAt M0 M d kd rd
 hS:StandAt M0 M s ks S k
def Page(M0 M:DH)(p:Addr)(top:List W)(life:Int)(rows:List Rw):Prop:=∃ r d s kr kd ks,PG M0 M p r d s top life kr kd ks rows rows (Std top rows) (1+21 * rows.length)
section
variable{M0 M:DH}{p r d s q:Addr}{top:List W}{life:Int}{kr kd ks:List (List W×D)}{rr rd:List Rw}{o:MO}{S:List W->Prop}{k:Nat}
theorem PG.new(h:PG M0 M p r d s top life kr kd ks rr rd S k)(hq:M q=none):PG M0 (dupd M q o) p r d s top life kr kd ks rr rd S k :=
 {h with
  ob:=by rw[Q0a (dne h.ob hq)];exact h.ob
  sub:=h.sub.put (h.sub.none hq)
  hR:=h.hR.new hq
  hD:=h.hD.upd (dne h.hD.m hq).symm
  hS:=h.hS.upd (dne h.hS.m hq).symm }
theorem mne(h:M a=some u)(h':M b=some v)(e:u≠v):a≠b:=λz=>by
 subst z;rw[h]at h';exact e (ZE h')
end
theorem Q0Q:atN (rows++[x]) n=if x.n=n then atN rows n++[x] else atN rows n:=by
 unfold atN;rw[filter_append];by_cases e:x.n=n
 ·rw[Zg e,filter_cons,Zg (by simp[e])];rfl
 ·rw[Zd e,filter_cons,Zd (by simp[e])];simp
theorem Q3i:zam (rows++[x]) n=if x.k=za7/\x.n=n then some x.d else zam rows n:=by
 unfold zam;rw[filter_append];by_cases e:x.k=za7/\x.n=n
 ·rw[Zg e,filter_cons,Zg (by simp[e]),filter_nil,List.getLast?_append];rfl
 ·rw[Zd e,filter_cons,Zd (by erw[Ze];exact e)];simp
theorem Q9u{α:Type}(xs:List α):cut xs none (some (-1))=xs.take (xs.length-1):=by
 unfold cut;have e:HT.sIx xs.length xs.length (some (-1))=xs.length-1:=by
  show (if ((-1:Int)<0) then ((-1:Int)+(xs.length:Int)).toNat else min (-1:Int).toNat xs.length)=_
  rw[Zg (by decide)]
  room
 rw[sIx_none,e,drop_zero,sub_zero]
structure zbY(top:List W)(x:Rw):Prop where
 le:x.n.length<=20
 at_:x.n.take top.length=top
def sp_at:DSp:=λds M R=>∃ (p:Addr) (x:Rw) (M0:DH) (top:List W) (life:Int) (rows:List Rw),ds=[.ref p,x.d]/\Page M0 M p top life rows/\zbY top x/\rows.length<=1000/\∀ M',Page M0 M' p top life (rows++[x])->R .non M'
def sp_am:DSp:=λds M R=>∃ (p:Addr) (M0:DH) (top:List W) (life:Int) (rows:List Rw),ds=[.ref p,zD top life rows]/\M p=some (.oth (.ins "Page" []))/\M0 p=none/\Sub M0 M/\rows.length<=1000/\(∀ x∈rows,zbY top x)/\∀ M',Page M0 M' p top life rows->R .non M'
noncomputable def cutN(top:List W)(rows:List Rw)(n:List W):Option (List W):=(((List.range (n.length+1)).drop (top.length+1)).map λk=>n.take k).find? λm=>(zam rows m).isSome
noncomputable def cutD(top:List W)(rows:List Rw)(n:List W):D:=match cutN top rows n with
 | some m=>dn m
 | none=>.non
def sp_ak:DSp:=λds M R=>∃ (p:Addr) (n:List W) (M0:DH) (top:List W) (life:Int) (rows:List Rw),ds=[.ref p,dn n]/\Page M0 M p top life rows/\n.length<=900/\R (cutD top rows n) M
def sp_aI:DSp:=λds M R=>∃ (p:Addr) (n:List W) (M0:DH) (top:List W) (life:Int) (rows:List Rw),ds=[.ref p,dn n]/\Page M0 M p top life rows/\∀ b,(b=true <-> Std top rows n)->R (.bl b) M
section
variable{M0 M:DH}{p r d s:Addr}{top:List W}{life:Int}{kr kd ks:List (List W×D)}{rr rd:List Rw}{S:List W->Prop}{k:Nat}
theorem PG.grow(h:PG M0 M p r d s top life kr kd ks rr rd S k)(e:valD kr x.n=some (.ref l)):PG M0 (dupd M l (.lst ((atN rr x.n).map Rw.d++[x.d]))) p r d s top life kr kd ks (rr++[x]) rd S k:=by
 obtain⟨l',e',h1,h2⟩:=h.hR.v _ _ e;cases e';have np:p≠l:=mne h.ob h1 (λz=>nomatch z)
 have nr:r≠l:=mne h.hR.m h1 (λz=>nomatch z)
 have nd:d≠l:=mne h.hD.m h1 (λz=>nomatch z)
 have ns:s≠l:=mne h.hS.m h1 (λz=>nomatch z)
 exact { h with
  ob:=by rw[Q0a np];exact h.ob
  sub:=h.sub.put h2
  hD:=h.hD.upd nd.symm
  hS:=h.hS.upd ns.symm
  hR:={ m:=by rw[Q0a nr];exact h.hR.m
        f:=h.hR.f
        l:=by rw[Zl];exact Zr h.hR.l (Nat.le_add_right _ _)
        i:=h.hR.i
        v:=λn v ev=>by
         obtain⟨l',rfl,g1,g2⟩:=h.hR.v n v ev;by_cases hn:x.n=n
         ·subst hn;rw[e]at ev;cases ev;exact⟨l,rfl,by rw[Q0c,Q0Q,Zg rfl,Z9];rfl,h2⟩
         ·have hl:l'≠l:=λz=>hn (by subst z;exact h.hR.i _ _ _ e ev)
          exact⟨l',rfl,by rw[Q0a hl,Q0Q,Zd hn];exact g1,g2⟩
        no:=λn en=>by
         rw[Q0Q];by_cases hn:x.n=n
         ·subst hn;rw[e]at en;cases en
         ·rw[Zd hn];exact h.hR.no n en
        yes:=λn en=>by
         rw[Q0Q]at en;by_cases hn:x.n=n
         ·rw[Zg hn]at en;simp at en
         ·rw[Zd hn]at en;exact h.hR.yes n en } }
theorem PG.fresh(h:PG M0 M p r d s top life kr kd ks rr rd S k)(hq:M q=none)(e:valD kr x.n=none) :
  PG M0 (dupd (dupd (dupd M q (.lst [])) r (.oth (.dct (putD kr x.n (.ref q))))) q (.lst [x.d])) p r d s top life (putD kr x.n (.ref q)) kd ks (rr++[x]) rd S k:=by
 have np:p≠q:=dne h.ob hq;have nr:r≠q:=dne h.hR.m hq;have nd:d≠q:=dne h.hD.m hq;have ns:s≠q:=dne h.hS.m hq;have pr:p≠r:=mne h.ob h.hR.m (λz=>nomatch z)
 have fq:M0 q=none:=h.sub.none hq;exact { h with
  ob:=by rw[Q0a np,Q0a pr,Q0a np];exact h.ob
  sub:=((h.sub.put fq).put h.hR.f).put fq
  hD:=((h.hD.upd nd.symm).upd h.ne1).upd nd.symm
  hS:=((h.hS.upd ns.symm).upd h.ne2).upd ns.symm
  hR:={ m:=by rw[Q0a nr,Q0c]
        f:=h.hR.f
        l:=by
         have h1:=Q1J kr x.n (.ref q);have h2:=h.hR.l;rw[Zl];show _<=rr.length+1;room
        i:=λn n' l e1 e2=>by
         rw[Q0y]at e1 e2;have old:∀ n,valD kr n=some (.ref q)->False:=λn z=>by
          obtain⟨l',e',h1,_⟩:=h.hR.v n _ z;cases e';rw[hq]at h1;cases h1
         by_cases a:n=x.n <;> by_cases b:n'=x.n
         ·rw[a,b]
         ·rw[Zg a]at e1;rw[Zd b]at e2;cases e1;exact (old _ e2).elim
         ·rw[Zd a]at e1;rw[Zg b]at e2;cases e2;exact (old _ e1).elim
         ·rw[Zd a]at e1;rw[Zd b]at e2;exact h.hR.i _ _ _ e1 e2
        v:=λn v ev=>by
         rw[Q0y]at ev;by_cases a:n=x.n
         ·rw[Zg a]at ev;cases ev;exact⟨q,rfl,by rw[Q0c,a,Q0Q,Zg rfl,h.hR.no _ e];rfl,fq⟩
         ·rw[Zd a]at ev;obtain⟨l,rfl,g1,g2⟩:=h.hR.v n v ev;have lq:l≠q:=dne g1 hq;have lr:l≠r:=mne g1 h.hR.m (λz=>nomatch z)
          exact⟨l,rfl,by rw[Q0a lq,Q0a lr,Q0a lq,Q0Q,Zd (λz=>a z.symm)];exact g1,g2⟩
        no:=λn en=>by
         rw[Q0y]at en;by_cases a:n=x.n
         ·rw[Zg a]at en;cases en
         ·rw[Zd a]at en;rw[Q0Q,Zd (λz=>a z.symm)];exact h.hR.no n en
        yes:=λn en=>by
         rw[Q0Q]at en;by_cases a:n=x.n
         ·rw[Zg a.symm]at en;simp at en
         ·rw[Zd (λz=>a z.symm)]at en;rw[Q0y,Zd a];exact h.hR.yes n en } }
theorem PG.down(h:PG M0 M p r d s top life kr kd ks rr rd S k)(hx:x.k=za7):PG M0 (dupd M d (.oth (.dct (putD kd x.n x.d)))) p r d s top life kr (putD kd x.n x.d) ks rr (rd++[x]) S k:=by
 have pd:p≠d:=mne h.ob h.hD.m (λz=>nomatch z)
 exact { h with
  ob:=by rw[Q0a pd];exact h.ob
  sub:=h.sub.put h.hD.f
  hR:=h.hR.oth h.ne1.symm h.hD.m
  hS:=h.hS.upd h.ne3
  hD:={ m:=Q0c
        u:=Q4k h.hD.u
        f:=h.hD.f
        l:=by
         have h1:=Q1J kd x.n x.d;have h2:=h.hD.l;rw[Zl];show _<=rd.length+1;room
        v:=λn=>by
         rw[Q0y,Q3i,h.hD.v];by_cases a:n=x.n
         ·rw[Zg a,Zg ⟨hx,a.symm⟩]
         ·rw[Zd a,Zd (λz=>a z.2.symm)] } }
theorem PG.nodown(h:PG M0 M p r d s top life kr kd ks rr rd S k)(hx:¬ x.k=za7):PG M0 M p r d s top life kr kd ks rr (rd++[x]) S k :=
 {h with
  hD:={ h.hD with
        l:=by rw[Zl];exact Zr h.hD.l (Nat.le_add_right _ _)
        v:=λn=>by rw[Q3i,Zd (λz=>hx z.1)];exact h.hD.v n } }
theorem PG.stand(h:PG M0 M p r d s top life kr kd ks rr rd S k)(m:List W):PG M0 (dupd M s (.oth (.dct (putD ks m (.bl true))))) p r d s top life kr kd (putD ks m (.bl true)) rr rd (λn=>n=m\/S n) (k+1):=by
 have ps:p≠s:=mne h.ob h.hS.m (λz=>nomatch z)
 exact { h with
  ob:=by rw[Q0a ps];exact h.ob
  sub:=h.sub.put h.hS.f
  hR:=h.hR.oth h.ne2.symm h.hS.m
  hD:=h.hD.upd h.ne3.symm
  hS:={ m:=Q0c
        f:=h.hS.f
        l:=by
         have h1:=Q1J ks m (.bl true);have h2:=h.hS.l;room
        v:=λn=>by
         rw[Q0y];by_cases a:n=m
         ·rw[Zg a];simp[a]
         ·rw[Zd a,h.hS.v];simp[a] } }
theorem PG.same(h:PG M0 M p r d s top life kr kd ks rr rd S k){S':List W->Prop}(e:∀ n,S n <-> S' n)(hk:k<=k'):PG M0 M p r d s top life kr kd ks rr rd S' k' :=
 {h with hS:={ h.hS with l:=Zr h.hS.l hk,v:=λn=>(h.hS.v n).trans (e n) } }
end
theorem Q4l(w:W):plain 12 (.str w)=true:=rfl
theorem Q9v(hx:zbY top x)(hj:top.length<=j)(hjx:j<=x.n.length)(hs:Std top rows (x.n.take j))(n:List W) :
  (Std top rows n\/∃ i,j<i/\i<=x.n.length/\n=x.n.take i) <-> Std top (rows++[x]) n:=by
 constructor
 ·rintro (h | ⟨i,h1,h2,rfl⟩)
  ·rcases h with h | ⟨h1,y,hy,h2⟩
   ·exact .inl h
   ·exact .inr ⟨h1,y,ZV _ hy,h2⟩
  ·have e:(x.n.take i).length=i:=by rw[Zz];room
   exact .inr ⟨by rw[e];room,x,Zy _ (Zh.mpr rfl),by rw[e]⟩
 ·rintro (h | ⟨h1,y,hy,h2⟩)
  ·exact .inl (.inl h)
  ·rcases Z4.mp hy with hy | hy
   ·exact .inl (.inr ⟨h1,y,hy,h2⟩)
   ·rw[Zh.mp hy]at h2;have hl:n.length<=x.n.length:=by rw[<- h2,Zz];room
    by_cases hi:j<n.length
    ·exact .inr ⟨n.length,hi,hl,h2.symm⟩
    ·left;have e:(x.n.take j).take n.length=n:=by rw[take_take,show min n.length j=n.length by room];exact h2
     have ej:(x.n.take j).length=j:=by rw[Zz];room
     rcases hs with hs | ⟨g1,z,hz,g2⟩
     ·rw[hs]at ej;room
     ·refine .inr ⟨h1,z,hz,?_⟩;rw[ej]at g2;rw[<- g2,take_take,show min n.length j=n.length by room]at e
      exact e
theorem ok_at(T:Tab)(h13:T.con 13=some (("DOWN" : Str),D.str [100,111,119,110])):OkF T b_at sp_at ["","",""]:=by
 rintro ds M R ⟨p,x,M0,top,life,rows,rfl,⟨r,d,s,kr,kd,ks,G⟩,hx,hn,h⟩;erw[b_at,Rw.d];walk_at "q0";refine⟨p,_,_,rfl,G.ob,Q2e,r,kr,rfl,G.hR.m,?_⟩;refine ix_t rfl ?_;refine⟨by simp[ZY],λq hq=>?_⟩
 have nr:r≠q:=dne G.hR.m hq;have kl:kr.length<sizeLine:=by have:=G.hR.l;rw[ZY];room
 -- behind it
 have step2:∀ M1 kr1,PG M0 M1 p r d s top life kr1 kd ks (rows++[x]) rows (Std top rows) (1+21 * rows.length)->k1 [some (.ref p),some x.d,none] M1:=by
  intro M1 kr1 G1;rw[e1];clear e1;refine Q0b λk2 e2=>?_
  -- what follows the if
  have step3:∀ M2 kd2,PG M0 M2 p r d s top life kr1 kd2 ks (rows++[x]) (rows++[x]) (Std top rows) (1+21 * rows.length)->k2 [some (.ref p),some x.d,none] M2:=by
   intro M2 kd2 G2;rw[e2];clear e2;refine Q0b λk3 e3=>?_;walk_at "q3";rw[e3];clear e3;refine Q0b λk4 e4=>?_;show zaw _ _ _ _ _;refine⟨λj ρ M'=>∃ ks',top.length<=j/\j<=x.n.length/\ρ=[some (.ref p),some x.d,some (dn (x.n.take j))] /\
    PG M0 M' p r d s top life kr1 kd2 ks' (rows++[x]) (rows++[x]) (λn=>Std top rows n\/∃ i,j<i/\i<=x.n.length/\n=x.n.take i) (1+21 * rows.length+(x.n.length-j)),⟨x.n.length,ks,?_⟩,?_⟩
   ·have hl:top.length<=x.n.length:=by rw[<- hx.at_,Zz];room
    refine⟨hl,Zq _,by rw[take_length],G2.same (λn=>⟨λa=>.inl a,?_⟩) (by room)⟩
    rintro (a | ⟨i,h1,h2,_⟩)
    ·exact a
    ·room
   ·rintro j ρ M' ⟨ks',hj1,hj2,rfl,G3⟩;have ej:(x.n.take j).length=j:=by rw[Zz];room
    w_up;refine⟨p,_,_,rfl,G3.ob,Q0U,x.n.take j,s,ks',rfl,rfl,G3.hS.m,?_⟩;cases c:(valD ks' (x.n.take j)).isSome with
    | true =>
     refine iteF ?_;rw[e4];w_up;have st:Std top rows (x.n.take j):=by
      rcases (G3.hS.v _).mp c with a | ⟨i,h1,h2,h3⟩
      ·exact a
      ·have:=congrArg List.length h3;rw[ej,Zz]at this;room
     refine Q0f (h M' ⟨r,d,s,kr1,kd2,ks',G3.same (Q9v hx hj1 hj2 st) ?_⟩);have:=hx.le;rw[Zl];show _<=1+21 * (rows.length+1);room
    | false =>
     refine iteT ⟨_,λρ' M'' q=>q,?_⟩;have hjt:top.length<j:=by
      rcases lt_or_ge top.length j with a | a
      ·exact a
      ·have ej':j=top.length:=by room
       have:(valD ks' (x.n.take j)).isSome=true:=(G3.hS.v _).mpr (.inl (.inl (by rw[ej'];exact hx.at_)))
       rw[c]at this;cases this
     refine⟨p,_,_,rfl,G3.ob,Q0U,s,x.n.take j,ks',rfl,rfl,G3.hS.m,?_,?_⟩
     ·have:=G3.hS.l;have:=hx.le;rw[ZY];room
     ·erw[dn];rw[Q9u,Zb,ej,<- map_take,take_take,show min (j-1) j=j-1 by room]
      refine⟨j-1,by room,putD ks' (x.n.take j) (.bl true),by room,by room,rfl,(G3.stand (x.n.take j)).same (λn=>?_) (by room)⟩
      constructor
      ·rintro (a | a | ⟨i,g1,g2,g3⟩)
       ·exact .inr ⟨j,by room,hj2,a⟩
       ·exact .inl a
       ·exact .inr ⟨i,by room,g2,g3⟩
      ·rintro (a | ⟨i,g1,g2,g3⟩)
       ·exact .inr (.inl a)
       ·by_cases hi:i=j
        ·exact .inl (by rw[g3,hi])
        ·exact .inr (.inr ⟨i,by room,g2,g3⟩)
  walk_at "q3";erw[h13];w_up;refine⟨Q4l _,Q4l _,ite2 (λc=>?_) λc=>?_⟩
  ·rw[Ze]at c;refine⟨p,_,_,rfl,G1.ob,Q0N,?_⟩;refine ix_t rfl ?_;refine⟨d,x.n,kd,rfl,rfl,G1.hD.m,by have:=G1.hD.l;rw[ZY];room,?_⟩
   exact step3 _ _ (G1.down c)
  ·rw[Ze]at c;exact step3 _ _ (G1.nodown c)
 refine⟨x.n,kr,rfl,by rw[Q0a nr];exact G.hR.m,kl,λv hv=>?_,λhv=>?_⟩
 ·obtain⟨l,rfl,g1,g2⟩:=G.hR.v _ _ hv;have lq:l≠q:=dne g1 hq;have hM:dupd M q (.lst []) l=some (.lst ((atN rows x.n).map Rw.d)):=by rw[Q0a lq];exact g1
  erw[hM]
  try w_up
  try simp only[hM]
  refine⟨?_,step2 _ _ ((G.new hq).grow hv)⟩;rw[Zb];have:(atN rows x.n).length<=rows.length:=Yc _ _;rw[ZY];room
 ·have hM:dupd (dupd M q (.lst [])) r (.oth (.dct (putD kr x.n (.ref q)))) q=some (.lst []):=by rw[Q0a nr.symm,Q0c]
  erw[hM]
  try w_up
  try simp only[hM]
  exact⟨by simp[ZY],step2 _ _ (G.fresh hq hv)⟩
theorem ok_am(T:Tab)(h301:T.mt 301=some ⟨"Page","lay",1,sp_at⟩):OkF T b_am sp_am ["","",""]:=by
 rintro ds M R ⟨p,M0,top,life,rows,rfl,hp,fp,sub,hn,hr,h⟩;erw[b_am,zD];walk_at "q0";refine ix_t rfl ?_;refine⟨p,[],rfl,hp,by simp,?_⟩
 walk_at "q2";refine ix_t rfl ?_;refine⟨p,_,rfl,Q0c,by simp[zaC],?_⟩
 rw[Q0X,Q0r (fs:=[]) (by simp),Q0r (by show ("life" : Str)∉[("top" : Str)];decide +kernel)]
 walk_at "q2";intro r nr;have pr:p≠r:=dne Q0c nr;refine⟨p,_,rfl,by rw[Q0a pr,Q0c],by simp,?_⟩
 rw[Q0r (by show ("rows" : Str)∉[("top" : Str),"life"];decide +kernel)]
 walk_at "q2";intro d nd;have pd:p≠d:=dne Q0c nd;rw[Q0a pd.symm]at nd;have rd:r≠d:=dne Q0c nd;refine⟨p,_,rfl,by rw[Q0a pd,Q0c],by simp,?_⟩
 rw[Q0r (by show ("downs" : Str)∉[("top" : Str),"life","rows"];decide +kernel)]
 walk_at "q2";intro s ns;have ps:p≠s:=dne Q0c ns;rw[Q0a ps.symm]at ns;have ds:d≠s:=dne Q0c ns;rw[Q0a ds.symm,Q0a ps.symm]at ns;have rs:r≠s:=dne Q0c ns;rw[Q0a rs.symm,Q0a ps.symm]at ns;refine ix_t rfl ?_;refine⟨top,rfl,Q0c,p,_,rfl,by rw[Q0a ps,Q0a ps,Q0c],by simp,?_⟩
 rw[Q0r (by show ("standing" : Str)∉[("top" : Str),"life","rows","downs"];decide +kernel)]
 rw[e1];clear e1;rw[Q0a rd.symm,Q0a pd.symm]at nd;rw[Q0a pr.symm]at nr;have f1:M0 r=none:=sub.none nr;have f2:M0 d=none:=sub.none nd;have f3:M0 s=none:=sub.none ns
 -- what is made
 generalize hM1:dupd _ p _=M1;have G:PG M0 M1 p r d s top life [] [] [(top,.bl true)] [] [] (Std top []) (1+21 * ([]:List Rw).length):=by
  subst hM1;refine⟨Q0c,fp,?_,rd,rs,ds,⟨?_,f1,by simp,λn v e=>(nomatch e),λn n' l e=>(nomatch e),λn _=>rfl,λn _=>rfl⟩,⟨?_,f2,by simp,λn=>rfl,.nil⟩,⟨?_,f3,by simp,λn=>?_⟩⟩
  ·exact ((((((((sub.put fp).put f1).put fp).put f2).put fp).put f3).put f3).put fp)
  ·rw[Q0a pr.symm,Q0a rs,Q0a rs,Q0a pr.symm,Q0a rd,Q0a pr.symm,Q0c]
  ·rw[Q0a pd.symm,Q0a ds,Q0a ds,Q0a pd.symm,Q0c]
  ·rw[Q0a ps.symm,Q0c]
  ·unfold Std;by_cases e:top=n
   ·rw[Q0v e];simp[e]
   ·rw[Q0w e];constructor
    ·intro z;cases z
    ·rintro (z | ⟨_,x,hx,_⟩)
     ·exact absurd z.symm e
     ·cases hx
 clear hM1;walk_at "q0";refine ix_t rfl ?_;refine Q0u (λi ρ M'=>Page M0 M' p top life (rows.take i)/\∃ v,ρ=[some (.ref p),some (zD top life rows),v]) ⟨⟨r,d,s,[],[],_,G⟩,none,rfl⟩ (λ_ _ _ _=>trivial) ?_ ?_
 ·rintro i d0 ρ M' k hi ⟨Pg,v,rfl⟩ hk;rw[Zx]at hi;cases ei:rows[i]? with
  | none=>rw[ei]at hi;cases hi
  | some x =>
   rw[ei]at hi;cases hi;have hil:=(Zf.mp ei).1;w_up;erw[h301];w_up;obtain⟨r',d',s',kr',kd',ks',G'⟩:=id Pg;refine⟨p,_,rfl,G'.ob,Q0P,?_⟩;refine⟨p,x,M0,top,life,rows.take i,rfl,Pg,hr x (Z6 ei),by rw[Zz];room,λM'' Pg'=>hk _ _ ⟨?_,_,rfl⟩⟩
   rw[take_add_one,ei];exact Pg'
 ·rintro ρ M' ⟨Pg,v,rfl⟩;rw[Zb,take_length]at Pg;rw[e1];w_up;exact Q0f (h M' Pg)
theorem ok_aI:OkF T b_aI sp_aI ["",""]:=by
 rintro ds M R ⟨p,n,M0,top,life,rows,rfl,⟨r,d,s,kr,kd,ks,G⟩,h⟩;erw[b_aI];w_up;exact⟨p,_,_,rfl,G.ob,Q0U,n,s,ks,rfl,rfl,G.hS.m,Q0f (h _ (G.hS.v n))⟩
theorem ok_ak(T:Tab)(h2:T.fn 2=some ⟨"above",1,[],sp_a1⟩):OkF T b_ak sp_ak ["","",""]:=by
 rintro ds M R ⟨p,n,M0,top,life,rows,rfl,⟨r,d,s,kr,kd,ks,G⟩,hl,h⟩;erw[b_ak];walk_at "q0";erw[h2];w_up;refine⟨n,rfl,hl,λa ha=>?_⟩;have G1:=G.new (o:=.lst (zaf n)) ha;refine⟨p,_,_,rfl,G1.ob,Q4j,?_⟩;w_up;erw[Q0c];intro q hq;have qa:q≠a:=(dne Q0c hq).symm;have el:(((top.map D.str).length:Int)+1)=((top.length+1:Nat):Int):=by rw[Zb];room
 unfold dn;rw[el,Q5v];have G2:=G1.new (o:=.lst ((zaf n).drop (top.length+1))) hq
 try simp only[Q0c]
 have ea:(zaf n).drop (top.length+1)=(((List.range (n.length+1)).drop (top.length+1)).map λk=>n.take k).map dn:=by
  unfold zaf;rw[<- map_drop,map_map];rfl
 rw[ea];rw[ea]at G2;generalize hL:((List.range (n.length+1)).drop (top.length+1)).map (λk=>n.take k)=L at *;generalize hM2:dupd (dupd M a _) q _=M2 at *;have hcd:M2 q=some (.lst (L.map dn)):=by rw[<- hM2,Q0c]
 have hsub:Sub M M2:=by rw[<- hM2];exact (Sub.new ha).put (by rw[Q0a qa]at hq;exact hq)
 have hcut:∀ (i:Nat) (m:List W),L[i]? = some m->(∀ (j:Nat) (y:List W),j<i->L[j]? = some y->(zam rows y).isSome=false)->(zam rows m).isSome=true->cutN top rows n=some m:=by
  intro i m hi hb hm;unfold cutN;rw[hL];obtain⟨h1,h2⟩:=Zf.mp hi;exact Yh.mpr ⟨hm,i,h1,h2,λj hj=>by rw[hb j _ hj (Zi _)];rfl⟩
 refine Q0u (λi ρ M'=>M'=M2/\(∃ v,ρ=[some (.ref p),some (dn n),v])/\∀ (j:Nat) (y:List W),j<i->L[j]? = some y->(zam rows y).isSome=false) ⟨rfl,⟨none,rfl⟩,λj y hj=>absurd hj (Yt j)⟩ (λi ρ M' h=>by rw[h.1];exact hcd) ?_ ?_
 ·rintro i d0 ρ M' k hi ⟨rfl,⟨v,rfl⟩,hb⟩ hk;rw[Zx]at hi;cases ei:L[i]? with
  | none=>rw[ei]at hi;cases hi
  | some m =>
   rw[ei]at hi;cases hi;w_up;refine⟨p,_,_,rfl,G2.ob,Q0N,m,d,kd,rfl,rfl,G2.hD.m,?_⟩;rw[G2.hD.v];cases c:(zam rows m).isSome with
   | true =>
    refine iteT ⟨M,hsub,?_⟩;have:cutD top rows n=dn m:=by unfold cutD;rw[hcut i m ei hb c]
    rw[<- this];exact h
   | false =>
    refine iteF (hk _ _ ⟨rfl,⟨_,rfl⟩,λj y hj hy=>?_⟩);by_cases hji:j=i
    ·subst hji;rw[ei]at hy;cases hy;exact c
    ·exact hb j y (by room) hy
 ·rintro ρ M' ⟨rfl,⟨v,rfl⟩,hb⟩;rw[e1];w_up;refine⟨M,hsub,?_⟩;have:cutD top rows n=.non:=by
   have e:cutN top rows n=none:=by
    unfold cutN;rw[hL];refine find?_eq_none.mpr λy hy=>?_;obtain⟨j,hj⟩:=Yb.mp hy;rw[hb j y (by rw[Zb];exact (Zf.mp hj).1) hj]
    simp
   unfold cutD;rw[e]
  rw[<- this];exact h
noncomputable def b_aG:CS:=by walk_at "~chiFiFiQiFiQiniF&0#99991#17in#48271iQ#7919&1#65537in&1#3#8191&2a"
def sp_aG:DSp:=λds M R=>∃ (c k m:Int),ds=[.int c,.int k,.int m]/\0<=k/\k<=1000000/\0<m/\∀ v:Nat,(v:Int)<m->R (.int v) M
theorem szL(h:n<=1000):n<=sizeLine:=le_of_lt (small1000 h)
theorem Q9w(hk:0<k)(h:n<10 ^ k):(digs n).length<=k:=by
 unfold digs;rw[Zb];exact (Nat.length_toDigits_le_iff (by decide) hk).mpr h
theorem ok_aG:OkF T b_aG sp_aG ["","",""]:=by
 rintro ds M R ⟨c,k,m,rfl,h0,h1,hm,h⟩;erw[b_aG];w_up;refine⟨by decide,mulOk (by room) (by room),mulOk (by room) (by room),by decide,mulOk (by room) (by room),by decide,hm,Q0f ?_⟩
 generalize ((c % 99991+17) * (48271+7919 * k) % 65537 * (k+3)) % 8191=z;have e:=Int.emod_nonneg z (show m≠0 by room)
 have e2:=Int.emod_lt_of_pos z hm;obtain⟨v,hv⟩:=Int.eq_ofNat_of_zero_le e;rw[hv]at e2 ⊢;exact h v e2
def IsN(k:W):Prop:=k=[100,111,119,110]\/k=[101,108,115,101]
structure RowOk(top:List W)(x:Rw):Prop where
 in_:zbY top x
 pv:(IsN x.k/\∃ b:List W,x.v=dn b)\/(¬ IsN x.k/\∃ w:W,x.v=.str w)
theorem Q0l(k:Nat)(ws:List W):plain (k+2) (dn ws)=true:=by
 show (ws.map D.str).all (plain (k+1))=true;rw[ZR];intro d hd;obtain⟨w,_,rfl⟩:=ZJ.mp hd;rfl
theorem RowOk.v(h:RowOk top x)(k:Nat):plain (k+2) x.v=true:=by
 rcases h.pv with ⟨_,b,e⟩ | ⟨_,w,e⟩
 ·rw[e];exact Q0l k b
 ·rw[e];rfl
theorem RowOk.d(h:RowOk top x)(k:Nat):plain (k+3) x.d=true:=by
 show [dn x.n,.int x.l,.str x.k,x.v].all (plain (k+2))=true;erw[Ym,all_nil,Q0l,h.v,Bool.and_true,Bool.true_and];rfl
theorem Q1A{top:List W}{rows:List Rw}(h:∀ x∈rows,RowOk top x)(k:Nat):plain (k+4) (.lst (rows.map Rw.d))=true:=by
 show (rows.map Rw.d).all (plain (k+3))=true;rw[ZR];intro d hd;obtain⟨x,hx,rfl⟩:=ZJ.mp hd;exact (h x hx).d k
theorem Q4M(e:xs[xs.length-1]? = some d)(h:Q d M):rIxD (.tup xs) (.int (-1)) M Q:=by
 show (match atI xs (-1) with | some c=>Q c M | none=>False)
 rw[My.atI_last (by intro z;subst z;cases e),e]
 exact h
theorem QcP(hx:x<10 ^ 31):((x:Nat):Int).natAbs.log2<1920:=by
 rw[Int.natAbs_natCast];by_cases h0:x=0
 ·subst h0;decide
 ·exact (Nat.log2_lt h0).mpr (ZB hx (Zr (by decide:10 ^ 31<=2 ^ 128) (Nat.pow_le_pow_right (by decide) (by decide))))
theorem Q9x{α:Type}(xs:List α):cut xs (some (-1)) none=xs.drop (xs.length-1):=by
 unfold cut;have e:HT.sIx xs.length 0 (some (-1))=xs.length-1:=by
  show (if ((-1:Int)<0) then ((-1:Int)+(xs.length:Int)).toNat else min (-1:Int).toNat xs.length)=_
  rw[Zg (by decide)]
  room
 rw[sIx_none,e,ZS (by rw[length_drop];exact Zq _)]
noncomputable def b_ai:CS:=by walk_at "~chekz&0P#1albv11aa"
noncomputable def b_a9:CS:=by walk_at "~chsXbwq[ &0ad&0#1aa"
noncomputable def b_ae:CS:=by walk_at "~chLsYbwq[ &0ad&0#3aa"
noncomputable def b_ad:CS:=by walk_at "~chwq[2 !nm%Page %rows &0&1raekd&0#2&1&0a"
noncomputable def b_as:CS:=by walk_at "~cjAg5b&1aeT&1m%Page %rows &0chlbv17bm%Page %life &0aaacf3p309&0b&1bv12acjeC&3rachlbv12bdd&3#0#3bdd&3#0#1aaacf4p309&0b&1b&2acjeC&4rachlbv15bg23b&4abg24b&4aaaachlbv16bm%Page %life &0aa"
noncomputable def b_ao:CS:=by walk_at "~cf2dwq[0 g2b&1ap302&1b&0a&0P#1chjek&2&1&1in&2lbv11aa"
noncomputable def b_aN:CS:=by walk_at "~cf2Om%Page %downs &0&1cf3d&2#3cf4jg1b&3b&1ap309&0b&3bv14arachlbv13b&1b&3bg23b&4abg24bLi!drb&2a&4aaa"
noncomputable def b_aj:CS:=by walk_at "~cf3p303&0b&1acje!e&3oDchp306&0b&3aaachp308&0bp307&0b&1ab&2aa"
theorem Q7B{a b:List W}(h:a.Perm b)(ha:a.Pairwise (λx y=>x<=y))(hb:b.Pairwise (λx y=>x<=y)):a=b :=
 List.Perm.eq_of_pairwise (le:=λx y:W=>x<=y) (λx y _ _ h1 h2=>Std.le_antisymm h1 h2) ha hb h
noncomputable def zby(zs:List W):List W:=Classical.epsilon λzs'=>zs'.Perm zs/\zs'.Pairwise (λx y=>x<=y)
theorem Q3x(h:zs'.Perm zs)(hs:zs'.Pairwise (λx y=>x<=y)):zs'=zby zs:=by
 have:=Classical.epsilon_spec (p:=λzs':List W=>zs'.Perm zs/\zs'.Pairwise (λx y=>x<=y)) ⟨zs',h,hs⟩;exact Q7B (h.trans this.1.symm) hs this.2
noncomputable def minI(ns:List Int):Int:=Classical.epsilon λz=>z∈ns/\∀ a∈ns,z<=a
theorem Q4N(h:z∈ns)(hs:∀ a∈ns,z<=a):z=minI ns:=by
 have:=Classical.epsilon_spec (p:=λz:Int=>z∈ns/\∀ a∈ns,z<=a) ⟨z,h,hs⟩;have h1:=hs _ this.1;have h2:=this.2 _ h;show z=minI ns;unfold minI;room
noncomputable def za9:W:=[101,108,115,101]
noncomputable def za1:W:=[100,111,111,114]
noncomputable def zbA:W:=[114,111,119,115]
noncomputable def zbM:W:=[101,109,112,116,121]
noncomputable def kNone:W:=[110,111,110,101]
noncomputable def zad(rows:List Rw)(k:W):List Rw:=rows.filter λx=>decide (x.k=k)
noncomputable def zaU:D->W
 | .str w=>w
 | _=>[]
noncomputable def nmOf:D->List W
 | .tup xs=>xs.map zaU
 | _=>[]
theorem Q1K(a:List W):nmOf (dn a)=a:=by
 unfold nmOf dn;erw[map_map]
 induction a with
 | nil=>rfl
 | cons x r ih=>rw[ZC,ih];rfl
noncomputable def zbF(xs:List Rw):D:=.lst ((zby (xs.map λx=>zaU x.v)).map D.str)
noncomputable def zbL(xs:List Rw):D:=.int (minI (xs.map λx=>x.l))
noncomputable def zbh(rows:List Rw)(pl:List W)(k:W)(life:Int):D:=match zad (atN rows pl) za9 with
 | x::_=>.tup [.str za9,x.v,.int x.l]
 | []=>match zad (atN rows pl) k with
  | x::r=>.tup [.str zbA,zbF (x::r),zbL (x::r)]
  | []=>.tup [.str zbM,.int life]
noncomputable def zaB(rows:List Rw)(pl:List W)(k:W)(life:Int):D :=
 if pl.drop (pl.length-1)=[[42]]/\atN rows pl=[] then .tup [.str kNone,.int life] else zbh rows pl k life
open Classical in
noncomputable def zas(top:List W)(rows:List Rw)(n:List W):Nat:=(((List.range (n.length+1)).filter λj=>decide (Std top rows (n.take j))).getLast?).getD 0
noncomputable def zag(top:List W)(rows:List Rw)(n:List W):List W:=if zas top rows n=n.length then n else n.take (zas top rows n)++[[42]]
noncomputable def zac(rows:List Rw)(c:List W):Option Rw:=(rows.filter λx=>decide (x.k=za7/\x.n=c)).getLast?
theorem Q1u(rows:List Rw)(c:List W):zam rows c=(zac rows c).map Rw.d:=rfl
noncomputable def zav(rows:List Rw)(c h:List W):List Rw:=if h.take c.length=c then zad (atN rows h) za1 else []
noncomputable def zaS(rows:List Rw)(x:Rw):D:=.tup [.str za7,dn x.n,x.v,zbF (zav rows x.n (nmOf x.v)),zbL (x::zav rows x.n (nmOf x.v))]
noncomputable def zar(top:List W)(life:Int)(rows:List Rw)(n:List W)(k:W):D:=match cutN top rows n with
 | some c=>match zac rows c with
  | some x=>zaS rows x
  | none=>.non
 | none=>zaB rows (zag top rows n) k life
def Good(top:List W)(rows:List Rw):Prop:=rows.length<60/\∀ x∈rows,RowOk top x
def sp_ai:DSp:=λds M R=>∃ n:List W,ds=[dn n]/\R (.bl (decide (n.drop (n.length-1)=[[42]]))) M
def sp_a9:DSp:=λds M R=>∃ xs:List Rw,ds=[.lst (xs.map Rw.d)]/\0<xs.length/\xs.length<=900/\R (zbL xs) M
def sp_ae:DSp:=λds M R=>∃ xs:List Rw,ds=[.lst (xs.map Rw.d)]/\xs.length<64/\(∀ x∈xs,∃ w,x.v=.str w)/\R (zbF xs) M
def sp_ad:DSp:=λds M R=>∃ (p:Addr) (n:List W) (k:W) (M0:DH) (top:List W) (life:Int) (rows:List Rw),ds=[.ref p,dn n,.str k]/\Page M0 M p top life rows/\rows.length<=900/\R (.lst ((zad (atN rows n) k).map Rw.d)) M
def sp_ao:DSp:=λds M R=>∃ (p:Addr) (n:List W) (M0:DH) (top:List W) (life:Int) (rows:List Rw),ds=[.ref p,dn n]/\Page M0 M p top life rows/\n.length<=900/\n.take top.length=top/\R (dn (zag top rows n)) M
def sp_as:DSp:=λds M R=>∃ (p:Addr) (n:List W) (k:W) (M0:DH) (top:List W) (life:Int) (rows:List Rw),ds=[.ref p,dn n,.str k]/\Page M0 M p top life rows/\Good top rows/\¬ IsN k/\R (zaB rows n k life) M
def sp_aN:DSp:=λds M R=>∃ (p:Addr) (c:List W) (x:Rw) (M0:DH) (top:List W) (life:Int) (rows:List Rw),ds=[.ref p,dn c]/\Page M0 M p top life rows/\Good top rows/\zac rows c=some x/\R (zaS rows x) M
def sp_aj:DSp:=λds M R=>∃ (p:Addr) (n:List W) (k:W) (M0:DH) (top:List W) (life:Int) (rows:List Rw),ds=[.ref p,dn n,.str k]/\Page M0 M p top life rows/\Good top rows/\¬ IsN k/\n.length<=900/\n.take top.length=top/\R (zar top life rows n k) M
theorem Good.in(h:Good top rows):∀ x∈rows,zbY top x:=λx hx=>(h.2 x hx).in_
theorem Q0G(h:x∈zad rows k):x∈rows/\x.k=k:=by
 obtain⟨h1,h2⟩:=ZX.mp h;exact⟨h1,Z2 h2⟩
theorem Q1h(h:x∈atN rows n):x∈rows/\x.n=n:=by
 obtain⟨h1,h2⟩:=ZX.mp h;exact⟨h1,Z2 h2⟩
theorem Q1V(rows:List Rw)(n:List W)(k:W):(zad (atN rows n) k).length<=rows.length:=Zr (Yc _ _) (Yc _ _)
theorem Good.strs(h:Good top rows)(hk:¬ IsN k):∀ x∈zad (atN rows n) k,∃ w,x.v=.str w:=by
 intro x hx;obtain⟨h1,h2⟩:=Q0G hx;obtain⟨h3,h4⟩:=Q1h h1;rcases (h.2 x h3).pv with ⟨a,_⟩ | ⟨_,b⟩
 ·rw[h2]at a;exact absurd a hk
 ·exact b
theorem Good.plain(h:Good top rows)(n:List W)(k:W):DL.plain 12 (.lst ((zad (atN rows n) k).map Rw.d))=true :=
 Q1A (top:=top) (λx hx=>h.2 x (Q1h (Q0G hx).1).1) 8
theorem Q1W(h:M q=none):ddel (dupd M q o) q=M:=by
 funext b
 unfold ddel dupd;by_cases e:b=q
 ·rw[Zg e,e,h]
 ·rw[Zd e,Zd e]
theorem Q2p{κ:Type}{Cd:DH->Prop}{Q:List D->DH->Prop}(ks:List κ)(g f:κ->D)(hC:Cd M)(hl:ks.length<=1000)
  (hs:∀ (k:κ) (c:D->DH->Prop),k∈ks->c (f k) M->te (some (g k)::fr) M c) (hd:Q (ks.map f) M):zan fr (λd=>some [d]) zaQ te Cd Q (ks.map g) [] M:=by
 refine Q0M (λi ys M'=>M'=M/\ys=(ks.take i).map f) ⟨rfl,by simp⟩ (λi ys M' h=>by rw[h.1];exact hC) ?_ ?_
 ·rintro i d ys M' k e ⟨rfl,rfl⟩ hk;rw[Zx,Zu]at e;obtain⟨x,e,rfl⟩:=e;have hi:=(Zf.mp e).1;erw[zaQ,Yj,ZC,map_nil,cons_append,nil_append];refine hs x _ (Z6 e) ⟨small1000 (by rw[Zb,Zz];room),hk _ _ ⟨rfl,?_⟩⟩
  rw[take_add_one,e,Z9];rfl
 ·rintro ys M' ⟨rfl,rfl⟩;rw[Zb,take_length];exact hd
theorem Q0H{α:Type}{fr:DSt}{unp:D->Option (List D)}{tc:DTT}{te:DTE}{Cd:DH->Prop}{Q:List D->DH->Prop}{xs:List α}{f:α->D}{M:DH}(p:α->Bool)(hC:Cd M)(hl:xs.length<=900)
  (hs:∀ x∈xs,∀ (P:D->DH->Prop) (N:DH->Prop),(p x=true->P (f x) M)->(p x=false->N M)->match unp (f x) with
   | some us=>tc (us.map some++fr) M λb M3=>if b=true then te (us.map some++fr) M3 P else N M3
   | none=>False) (hq:Q ((xs.filter p).map f) M):zan fr unp tc te Cd Q (xs.map f) [] M:=by
 refine Q0M (λi ys M'=>M'=M/\ys=((xs.take i).filter p).map f) ⟨rfl,rfl⟩ (λi ys M' h=>by rw[h.1];exact hC) ?_ ?_
 ·rintro i d ys M' k hd ⟨rfl,rfl⟩ hk;rw[Zx]at hd;obtain⟨x,ex,rfl⟩:=Zu.mp hd;have e:((xs.take (i+1)).filter p).map f=((xs.take i).filter p).map f++if p x=true then [f x] else []:=by
   rw[take_add_one,ex,filter_append,Z9];cases z:p x <;> simp[z]
  refine hs x (Z6 ex) (λz M4=>_/\k (_++[z]) M4) (k _) (λz=>⟨small1000 ?_,hk _ _ ⟨rfl,by rw[e,Zg z]⟩⟩) λz=>hk _ _ ⟨rfl,by rw[e,Zd (by rw[z];decide),Y2]⟩
  rw[Zb];refine Zr (Yc _ _) ?_;rw[Zz];room
 ·rintro ys M' ⟨rfl,rfl⟩;rw[Zb,take_length];exact hq
theorem Q2f{fr:DSt}{Cd:DH->Prop}{Q:List D->DH->Prop}{zs:List Rw}{M:DH}(hC:Cd M)(hl:zs.length<=900)(hq:Q ((zs.map λx=>x.l).map D.int) M):zan fr (λd=>some [d]) zaQ (dOp rIxD (dVar 0) (dC (D.int 1))) Cd Q (zs.map Rw.d) [] M:=by
 refine Q2p zs Rw.d (λx=>.int x.l) hC (by room) (λx c _ hc=>?_) (by rw[map_map]at hq;exact hq)
 unfold Rw.d;walk_at "q3";exact hc
theorem Q2J{fr:DSt}{Cd:DH->Prop}{Q:List D->DH->Prop}{zs:List Rw}{M:DH}(hC:Cd M)(hl:zs.length<=900)(str:∀ x∈zs,∃ w,x.v=.str w)(hq:Q ((zs.map λx=>zaU x.v).map D.str) M):zan fr (λd=>some [d]) zaQ (dOp rIxD (dVar 0) (dC (D.int 3))) Cd Q (zs.map Rw.d) [] M:=by
 refine Q2p zs Rw.d (λx=>.str (zaU x.v)) hC (by room) (λx c hx hc=>?_) (by rw[map_map]at hq;exact hq)
 obtain⟨w,hw⟩:=str x hx;rw[hw]at hc;unfold Rw.d;rw[hw];walk_at "q3";exact hc
section
variable{T:Tab}
theorem ok_ai(T:Tab)(h11:T.con 11=some (("STAR" : Str),D.str [42])):OkF T b_ai sp_ai [""]:=by
 rintro ds M R ⟨n,rfl,h⟩;erw[b_ai,dn];w_up;erw[h11];w_up;have e:([D.str [42]]:List D)=([[42]]:List W).map D.str:=rfl;rw[e];simp only[Q9x,Zb,<- map_drop,Q0F];exact⟨szL (by decide),Q0e _,Q0e _,Q0f h⟩
theorem ok_a9:OkF T b_a9 sp_a9 [""]:=by
 rintro ds M R ⟨xs,rfl,h0,hl,h⟩;erw[b_a9];w_up;refine Q2f trivial (by room) ?_
 refine⟨szL (by rw[Zb,Zb];room),xs.map λx=>x.l,rfl,by rw[Zb];exact h0,λz hz hs=>Q0f ?_⟩
 rw[Q4N hz hs];exact h
theorem ok_ae:OkF T b_ae sp_ae [""]:=by
 rintro ds M R ⟨xs,rfl,h64,hv,h⟩;erw[b_ae];w_up;erw[dFrz];w_up;refine Q2J trivial (by room) hv ?_
 refine⟨szL (by rw[Zb,Zb];room),xs.map λx=>zaU x.v,rfl,by rw[Zb];exact h64,λzs hp hs q hq=>?_⟩
 erw[Q0c];rw[Q3x hp hs,Q1W hq];exact Q0f h
theorem ok_ad:OkF T b_ad sp_ad ["","",""]:=by
 rintro ds M R ⟨p,n,k,M0,top,life,rows,rfl,⟨r,d,s,kr,kd,ks,G⟩,hn,h⟩;erw[b_ad];w_up;refine⟨p,_,_,rfl,G.ob,Q2e,r,kr,rfl,G.hR.m,szL (by decide),n,kr,rfl,G.hR.m,?_⟩
 cases e:valD kr n with
 | none =>
  have en:=G.hR.no n e;rw[en]at h;exact⟨trivial,szL (by decide),Q0f h⟩
 | some v =>
  obtain⟨l,rfl,g1,g2⟩:=G.hR.v n v e;erw[g1];refine Q0H (λx:Rw=>decide (x.k=k)) (by exact g1) (Zr (Yc _ _) hn) (λx _ P N hP hN=>?_) ?_
  ·erw[Rw.d]at hP ⊢;walk_at "q3";w_up;exact⟨rfl,rfl,ite2 hP λq=>hN (eq_false_iff.mpr q)⟩
  ·refine⟨szL ?_,Q0f h⟩;rw[Zb];exact Zr (Q1V rows n k) (by room)
end
open Classical in
theorem Q2K(top:List W)(rows:List Rw)(n:List W)(ht:n.take top.length=top):zas top rows n<=n.length/\top.length<=zas top rows n/\Std top rows (n.take (zas top rows n))/\∀ j,zas top rows n<j->j<=n.length->¬ Std top rows (n.take j):=by
 unfold zas;have hl:top.length<=n.length:=by rw[<- ht,Zz];room
 generalize hF:(List.range (n.length+1)).filter (λj=>decide (Std top rows (n.take j)))=F;have mem:∀ j,j∈F <-> j<=n.length/\Std top rows (n.take j):=λj=>by
  rw[<- hF,ZX,mem_range,Ze];exact⟨λz=>⟨by room,z.2⟩,λz=>⟨by room,z.2⟩⟩
 have tm:top.length∈F:=(mem _).mpr ⟨hl,.inl ht⟩;have pw:F.Pairwise (· < ·):=by rw[<- hF];exact List.Pairwise.filter _ List.pairwise_lt_range
 have hne:F≠[]:=λz=>by rw[z]at tm;cases tm
 rw[List.getLast?_eq_some_getLast hne,Option.getD_some];have lastm:=(mem _).mp (List.getLast_mem hne);have big:∀ j∈F,j<=F.getLast hne:=by
  intro j hj;obtain⟨i,hi,rfl⟩:=List.mem_iff_getElem.mp hj;rw[List.getLast_eq_getElem];rcases lt_or_ge i (F.length-1) with z | z
  ·exact le_of_lt (List.pairwise_iff_getElem.mp pw i (F.length-1) hi (by room) z)
  ·have:i=F.length-1:=by room
   subst this;exact Zq _
 exact⟨lastm.1,big _ tm,lastm.2,λj hj hjn hs=>absurd (big j ((mem j).mpr ⟨hjn,hs⟩)) (by room)⟩
theorem ok_ao(T:Tab)(h302:T.mt 302=some ⟨"Page","has",1,sp_aI⟩)(h2:T.fn 2=some ⟨"above",1,[],sp_a1⟩)(h11:T.con 11=some (("STAR" : Str),D.str [42])):OkF T b_ao sp_ao ["","",""]:=by
 rintro ds M R ⟨p,n,M0,top,life,rows,rfl,Pg,hl,ht,h⟩;obtain⟨r,d,s,kr,kd,ks,G⟩:=id Pg;obtain⟨n1,n2,n3,n4⟩:=Q2K top rows n ht;erw[b_ao];walk_at "q0";erw[h2,h302];w_up;refine⟨n,rfl,hl,λa ha=>?_⟩;have G1:=G.new (o:=.lst (zaf n)) ha;have Pg1:Page M0 (dupd M a (.lst (zaf n))) p top life rows:=⟨_,_,_,_,_,_,G1⟩;have sM:Sub M (dupd M a (.lst (zaf n))):=Sub.new ha;erw[Q0c];have len:(zaf n).length=n.length+1:=by unfold zaf;rw[Zb,Yl]
 refine Q0M (λi ys M'=>M'=dupd M a (.lst (zaf n))/\ys.length<=i/\(zas top rows n<i->ys[ys.length-1]? = some (dn (n.take (zas top rows n))))) ⟨rfl,Zq _,λz=>absurd z (Yt _)⟩ (λi ys M' h=>by rw[h.1,Q0c]) ?_ ?_
 ·rintro i d0 ys M' k hd ⟨rfl,hyl,hy⟩ hk;have hi:i<n.length+1:=by rw[<- len];exact (Zf.mp hd).1
  unfold zaf at hd;rw[Zx,getElem?_range hi]at hd;cases hd;w_up;refine⟨p,_,rfl,G1.ob,Q0P,p,n.take i,M0,top,life,rows,rfl,Pg1,λb hb=>?_⟩;cases b with
  | true =>
   refine iteT ⟨small1000 (by room),hk _ _ ⟨rfl,by rw[Zl];show ys.length+1<=i+1;room,λz=>?_⟩⟩
   have hs:=hb.mp rfl;have:i=zas top rows n:=by
    rcases lt_or_ge (zas top rows n) i with q | q
    ·exact absurd hs (n4 i q (by room))
    ·room
   rw[Zl];show (ys++[dn (n.take i)])[ys.length+1-1]? = _;rw[Nat.add_sub_cancel,ZK (Zq _),sub_self,this];rfl
  | false =>
   refine iteF (hk _ _ ⟨rfl,by room,λz=>?_⟩)
   rcases lt_or_ge (zas top rows n) i with q | q
   ·exact hy q
   ·have:i=zas top rows n:=by room
    rw[this]at hb;exact absurd (hb.mpr n3) (by decide)
 ·rintro ys M' ⟨rfl,hyl,hy⟩;rw[len]at hyl hy;refine⟨szL (by room),?_⟩
  try w_up
  refine Q4L (hy (by room)) ?_
  rw[e1];clear e1;w_up;erw[h11];erw[dn];w_up;erw[Q0F];unfold zag at h;have lt:(n.take (zas top rows n)).length=zas top rows n:=by rw[Zz];room
  refine⟨Q0e _,Q0e _,ite2 (λq=>?_) λq=>?_⟩
  ·rw[Ze]at q;rw[Zg (by rw[<- lt,q])]at h
   exact⟨M,sM,h⟩
  ·rw[Ze]at q;rw[Zd (λz=>q (by rw[z,take_length]))]at h
   refine⟨szL (by decide),szL (by rw[Zb,lt];(try simp only[Zw,ZH]);room),M,sM,?_⟩
   unfold dn at h;rw[Z9]at h;exact h
theorem ok_as(T:Tab)(h24:T.fn 24=some ⟨"least_life",1,[],sp_a9⟩)(h23:T.fn 23=some ⟨"values_of",1,[],sp_ae⟩)(h309:T.mt 309=some ⟨"Page","rows_at",2,sp_ad⟩)(h5:T.fn 5=some ⟨"is_star_name",1,[],sp_ai⟩)
  (h16:T.con 16=some (("EMPTY" : Str),D.str [101,109,112,116,121])) (h15:T.con 15=some (("ROWS" : Str),D.str [114,111,119,115])) (h12:T.con 12=some (("ELSE" : Str),D.str [101,108,115,101])) (h17:T.con 17=some (("NONE" : Str),D.str [110,111,110,101])) :
  OkF T b_as sp_as ["","","","",""]:=by
 rintro ds M R ⟨p,n,k,M0,top,life,rows,rfl,Pg,hg,hk,h⟩;obtain⟨r,d,s,kr,kd,ks,G⟩:=id Pg;erw[b_as];refine Q0b λk1 e1=>?_;have nom:∀ {m:Str},(m == "top")=false->(m == "life")=false->(m == "rows")=false->(m == "downs")=false->(m == "standing")=false->List.lookup m (zaN top life r d s)=none:=λa b c d e=>Q0P a b c d e;have rest:(¬ (n.drop (n.length-1)=[[42]]/\atN rows n=[]))->k1 [some (.ref p),some (dn n),some (.str k),none,none] M:=by
  intro hne;unfold zaB at h;rw[Zd hne]at h;walk_at "q2";erw[h309,h12];w_up;refine⟨p,_,rfl,G.ob,nom (by kd_p) (by kd_p) (by kd_p) (by kd_p) (by kd_p),p,n,[101,108,115,101],M0,top,life,rows,rfl,Pg,by have:=hg.1;room,?_⟩
  walk_at "q4";unfold zbh at h;cases ee:zad (atN rows n) za9 with
  | cons x xs =>
   rw[ee]at h;have pl:=hg.plain n za9;rw[ee]at pl;have:zad (atN rows n) [101,108,115,101]=x::xs:=ee;rw[this];w_up;refine⟨szL (by decide),pl,rfl,?_⟩
   have ne:eqB (.lst ((x::xs).map Rw.d)) (.lst [])=false:=(Q0I _ _).mpr (λz=>by cases z)
   erw[ZC]at ne;erw[ZC,ne,Bool.not_false,Yj];erw[h12];w_up;refine ix_l atI_0 ?_;erw[Rw.d];refine ix_t rfl ?_;refine ix_l atI_0 ?_;refine ix_t rfl ?_;exact⟨szL (by decide),Q0f h⟩
  | nil =>
   rw[ee]at h;have:zad (atN rows n) [101,108,115,101]=[]:=ee;rw[this];w_up;refine⟨szL (by decide),rfl,rfl,?_⟩
   erw[Q0s,Bool.not_true,ZN,ZU];walk_at "q2";erw[h309];w_up;refine⟨p,_,rfl,G.ob,nom (by kd_p) (by kd_p) (by kd_p) (by kd_p) (by kd_p),p,n,k,M0,top,life,rows,rfl,Pg,by have:=hg.1;room,?_⟩
   walk_at "q4";have pl:=hg.plain n k;have str:=hg.strs (n:=n) hk;have kl:=Q1V rows n k;have rl:=hg.1;cases ek:zad (atN rows n) k with
   | cons x xs =>
    rw[ek]at h pl str kl;w_up;refine⟨szL (by decide),pl,rfl,?_⟩
    have ne:eqB (.lst ((x::xs).map Rw.d)) (.lst [])=false:=(Q0I _ _).mpr (λz=>by cases z)
    erw[ZC]at ne;erw[ZC,ne,Bool.not_false,Yj];erw[h15,h23,h24];w_up;exact⟨x::xs,rfl,by room,str,x::xs,rfl,succ_pos _,by room,szL (by decide),Q0f h⟩
   | nil =>
    rw[ek]at h;w_up;refine⟨szL (by decide),rfl,rfl,?_⟩
    erw[Q0s,Bool.not_true,ZN,ZU];rw[e1];clear e1;w_up;erw[h16];w_up;exact⟨p,_,_,rfl,G.ob,Q3h,szL (by decide),Q0f h⟩
 w_up;erw[h5];w_up;refine⟨n,rfl,ite2 (λq=>?_) λq=>?_⟩
 ·rw[Ze]at q;refine⟨p,_,_,rfl,G.ob,Q2e,n,r,kr,rfl,rfl,G.hR.m,?_⟩;cases c:valD kr n with
  | none =>
   refine iteT ?_;erw[h17];w_up;refine⟨p,_,_,rfl,G.ob,Q3h,szL (by decide),Q0f ?_⟩
   unfold zaB at h;rw[Zg ⟨q,G.hR.no n c⟩]at h;exact h
  | some v=>exact iteF (rest λz=>by rw[G.hR.yes n z.2]at c;cases c)
 ·rw[Ze]at q;exact rest λz=>q z.1
theorem Q0O(h:zac rows c=some x):x∈rows/\x.k=za7/\x.n=c:=by
 obtain⟨h1,h2⟩:=ZX.mp (mem_of_getLast? h);exact⟨h1,Z2 h2⟩
theorem ok_aN(T:Tab)(h24:T.fn 24=some ⟨"least_life",1,[],sp_a9⟩)(h23:T.fn 23=some ⟨"values_of",1,[],sp_ae⟩)(h1:T.fn 1=some ⟨"at_or_beneath",2,[],sp_aK⟩)(h309:T.mt 309=some ⟨"Page","rows_at",2,sp_ad⟩)
  (h13:T.con 13=some (("DOWN" : Str),D.str [100,111,119,110])) (h14:T.con 14=some (("DOOR" : Str),D.str [100,111,111,114])) :
  OkF T b_aN sp_aN ["","","","",""]:=by
 rintro ds M R ⟨p,c,x,M0,top,life,rows,rfl,Pg,hg,hx,h⟩;obtain⟨r,d,s,kr,kd,ks,G⟩:=id Pg;obtain⟨x1,x2,x3⟩:=Q0O hx;have xv:∃ b:List W,x.v=dn b:=by
  rcases (hg.2 x x1).pv with ⟨_,a⟩ | ⟨a,_⟩
  ·exact a
  ·exact absurd (.inl x2) a
 obtain⟨hs,hv⟩:=xv;erw[b_aN];walk_at "q0";refine⟨p,_,_,rfl,G.ob,Q0N,c,d,kd,x.d,rfl,rfl,G.hD.m,by rw[G.hD.v,Q1u,hx];rfl,?_⟩
 walk_at "q4";erw[Rw.d];walk_at "q3";walk_at "q4";have rl:=hg.1;unfold zaS at h;rw[hv,Q1K]at h;have fin:∀ xs:List Rw,xs=zav rows x.n hs->xs.length<60->(∀ y∈xs,∃ w,y.v=.str w)->k1 [some (.ref p),some (dn c),some x.d,some (dn hs),some (.lst (xs.map Rw.d))] M:=by
  intro xs hxs hxl hxv;rw[e1];clear e1;w_up;erw[h13,h23,h24];w_up;refine⟨xs,rfl,by room,hxv,szL (by show 1<=1000;decide),?_⟩
  erw[dFrz];w_up;refine⟨[x.d],xs.map Rw.d,rfl,rfl,szL (by rw[Zb];(try simp only[Zw,ZH]);room),λq hq=>?_⟩
  erw[Q0c];refine⟨x::xs,rfl,succ_pos _,by rw[Zw];room,szL (by decide),?_⟩
  have sM:Sub M (ddel (dupd M q (.lst ([x.d]++xs.map Rw.d))) q):=λc o e=>by
   unfold ddel dupd;have:c≠q:=dne e hq;rw[Zd this,Zd this];exact e
  rw[<- hxs,x3]at h;exact⟨M,sM,h⟩
 w_up;erw[h1];w_up;rw[hv];refine⟨hs,c,rfl,?_⟩;w_up;have fin':=fin;erw[Rw.d,hv]at fin';refine ite2 (λq=>?_) λq=>?_
 ·rw[Ze]at q;erw[h309,h14];w_up;refine⟨p,_,rfl,G.ob,Q0P,p,hs,[100,111,111,114],M0,top,life,rows,rfl,Pg,by room,?_⟩
  exact fin' (zad (atN rows hs) za1) (by unfold zav;rw[x3,Zg q]) (by have:=Q1V rows hs za1;room) (hg.strs (by unfold IsN za1;decide))
 ·rw[Ze]at q;refine⟨szL (by decide),?_⟩
  exact fin' [] (by unfold zav;rw[x3,Zd q]) (by decide) (λy hy=>nomatch hy)
theorem ok_aj(T:Tab)(h308:T.mt 308=some ⟨"Page","reply_at",2,sp_as⟩)(h307:T.mt 307=some ⟨"Page","place_of",1,sp_ao⟩)(h306:T.mt 306=some ⟨"Page","reply_down",1,sp_aN⟩)(h303:T.mt 303=some ⟨"Page","cut",1,sp_ak⟩) :
  OkF T b_aj sp_aj ["","","",""]:=by
 rintro ds M R ⟨p,n,k,M0,top,life,rows,rfl,Pg,hg,hk,hn,ht,h⟩;obtain⟨r,d,s,kr,kd,ks,G⟩:=id Pg;have nom:∀ {m:Str},(m == "top")=false->(m == "life")=false->(m == "rows")=false->(m == "downs")=false->(m == "standing")=false->List.lookup m (zaN top life r d s)=none:=λa b c d e=>Q0P a b c d e;erw[b_aj];walk_at "q0";erw[h303];w_up;refine⟨p,_,rfl,G.ob,nom (by kd_p) (by kd_p) (by kd_p) (by kd_p) (by kd_p),p,n,M0,top,life,rows,rfl,Pg,hn,?_⟩
 walk_at "q4";unfold zar at h;unfold cutD;cases ec:cutN top rows n with
 | some c =>
  rw[ec]at h;have hc:(zam rows c).isSome=true:=by
   unfold cutN at ec;exact find?_some (p:=λm=>(zam rows m).isSome) ec
  rw[Q1u,Yy]at hc;obtain⟨x,hx⟩:=Z3.mp hc;erw[hx]at h;erw[dn];w_up;erw[h306];w_up;exact⟨p,_,rfl,G.ob,nom (by kd_p) (by kd_p) (by kd_p) (by kd_p) (by kd_p),p,c,x,M0,top,life,rows,rfl,Pg,hg,hx,Q0f h⟩
 | none =>
  rw[ec]at h;w_up;rw[e1];clear e1;w_up;erw[h308,h307];w_up;exact⟨p,_,rfl,G.ob,nom (by kd_p) (by kd_p) (by kd_p) (by kd_p) (by kd_p),p,_,rfl,G.ob,nom (by kd_p) (by kd_p) (by kd_p) (by kd_p) (by kd_p),
   p,n,M0,top,life,rows,rfl,Pg,hn,ht,p,_,k,M0,top,life,rows,rfl,Pg,hg,hk,Q0f h⟩
noncomputable def b_ab:CS:=by walk_at "~cjAe!o&1m%House %zones &0eT&1m%House %pages &0cNm%House %pages &0&1Z300bOm%House %zones &0&1aaach!pm%House %pages &0&1a"
noncomputable def b_a5:CS:=by walk_at "~cf4p323&0b&1achjeU&4oDlbv18ap305&4b&2b&3aa"
noncomputable def b_ap:CS:=by walk_at "~cE%House %zones &0s!qbwq[ &1albd&0#0b&0aacE%House %pages &0ScE%House %turned &0Sa"
noncomputable def b_aQ:CS:=by walk_at "~chlbd&0#0bd&0#1bs!fbd&0#2aaa"
structure Zn where
 o:W
 t:List W
 l:Int
 r:List Rw
noncomputable def Zn.v(z:Zn):D:=zD z.t z.l z.r
noncomputable def Zn.kv(z:Zn):List W×D:=(z.t,z.v)
noncomputable def atT(zs:List Zn)(n:List W):Option Zn:=zs.find? λz=>decide (z.t=n)
theorem Q3j:∀ (zs:List Zn) (kvs:List (List W×D)) (n:List W),(zs.map (·.t)).Nodup->valD (zaD kvs (zs.map Zn.kv)) n=match atT zs n with | some z=>some z.v | none=>valD kvs n
 | [],kvs,n,_=>rfl
 | z::r,kvs,n,h=>by
  rw[ZC,Yw]at h;have ih:=Q3j r (putD kvs z.t z.v) n h.2;show valD (zaD (putD kvs z.t z.v) (r.map Zn.kv)) n=_;rw[ih];unfold atT;rw[find?_cons];by_cases e:z.t=n
  ·rw[Zm e];have hn:r.find? (λz=>decide (z.t=n))=none:=by
    rw[find?_eq_none];intro y hy;erw[Ze];exact λe2=>h.1 (ZJ.mpr ⟨y,hy,e2.trans e.symm⟩)
   rw[hn];show valD (putD kvs z.t z.v) n=some z.v;rw[Q0y,Zg e.symm]
  ·rw[Z7 e];cases r.find? (λz=>decide (z.t=n)) with
   | some y=>rfl
   | none=>show valD (putD kvs z.t z.v) n=valD kvs n;rw[Q0y,Zd (λe2=>e e2.symm)]
def sp_aQ:DSp:=λds M R=>∃ z:Zn,ds=[z.v]/\∀ q,M q=none->R (.tup [dn z.t,.int z.l,.ref q]) (dupd M q (.lst (z.r.map Rw.d)))
theorem ok_aQ:OkF T b_aQ sp_aQ [""]:=by
 rintro ds M R ⟨z,rfl,h⟩;erw[b_aQ,Zn.v,zD];w_up;refine ix_tup (by decide) (by erw[Zw,ZH];room) λd0 hd0=>?_
 cases hd0;refine ix_tup (by decide) (by erw[Zw,ZH];room) λd0 hd0=>?_
 cases hd0;refine ix_tup (by decide) (by erw[Zw,ZH];room) λd0 hd0=>?_
 cases hd0
 try w_up
 exact λq hq=>⟨szL (by first | decide | room),Q0f (h q hq)⟩
noncomputable def onm:Option (List W)->D
 | some a=>dn a
 | none=>.non
theorem atT_t(h:atT zs n=some z):z.t=n:=by
 have:=find?_some h;simpa using this
noncomputable def up(zs:List Zn)(a:List W):Nat->Option Zn
 | 0=>none
 | k+1=>match atT zs (a.take k) with
  | some z=>some z
  | none=>up zs a k
theorem Q1v(e:zap M d=some xs):d=.lst xs\/∃ a,d=.ref a/\M a=some (.lst xs):=by
 cases d with
 | lst ys=>cases e;exact .inl rfl
 | ref a =>
  erw[zap]at e;cases ea:M a with
  | none=>rw[ea]at e;cases e
  | some o =>
   rw[ea]at e;cases o with
   | lst ys=>cases e;exact .inr ⟨a,rfl,ea⟩
   | oth _=>cases e
 | _=>erw[zap]at e;cases e
theorem Q4m{Cd:DH->Prop}{Q:List D->DH->Prop}{zs:List Zn}{M:DH}(hC:Cd M)(hl:zs.length<=900)(hd:Q ((zs.map Zn.kv).map DL.pairD) M) :
  zan [] (λd=>some [d]) zaQ (dTup (zaG (dOp rIxD (dVar 0) (dC (D.int 0))) (zaG (dVar 0) dNil))) Cd Q (zs.map Zn.v) [] M:=by
 refine Q0M (λi ys M'=>M'=M/\ys=((zs.take i).map Zn.kv).map DL.pairD) ⟨rfl,by simp⟩ (λi ys M' h=>by rw[h.1];exact hC) ?_ ?_
 ·rintro i d ys M' k e ⟨rfl,rfl⟩ hk;have hi:=(Zf.mp e).1;rw[Zb]at hi;rw[Zx]at e;cases ez:zs[i]? with
  | none=>rw[ez]at e;cases e
  | some z =>
   rw[ez]at e;cases e;w_up;erw[Zn.v,zD];refine ix_tup (by decide) (by erw[Zw,ZH];room) λd0 hd0=>?_
   cases hd0;refine⟨szL (by decide),?_⟩
   refine⟨small1000 (by rw[Zb,Zb,Zz];room),hk _ _ ⟨rfl,?_⟩⟩
   rw[take_add_one,ez,Z9,Z9];rfl
 ·rintro ys M' ⟨rfl,rfl⟩;rw[Zb,take_length];exact hd
theorem houseF1:zaC ("pages" : Str) b (zaC ("zones" : Str) a [])=[(("zones" : Str),a),(("pages" : Str),b)]:=by
 rw[Q0r (fs:=[]) (by simp),Q0r (by show ("pages" : Str)∉[("zones" : Str)];decide +kernel)]
 rfl
theorem houseF2:zaC ("turned" : Str) c [(("zones" : Str),a),(("pages" : Str),b)]=[(("zones" : Str),a),(("pages" : Str),b),(("turned" : Str),c)]:=by
 rw[Q0r (by show ("turned" : Str)∉[("zones" : Str),"pages"];decide +kernel)]
 rfl
noncomputable def ofD(zs:List Zn)(w:W):List Zn:=zs.filter λz=>decide (z.o=w)
def HsOk(M:DH)(a:Addr)(zs:List Zn):Prop:=∃ kvs,M a=some (.oth (.dkt kvs))/\∀ w,(valT kvs w=none/\ofD zs w=[])\/∃ d,valT kvs w=some d/\zap M d=some ((ofD zs w).map Zn.v)
noncomputable def vlen:D->Nat
 | .tup xs=>xs.length
 | _=>0
structure ZnOk(z:Zn):Prop where
 r:∀ x∈z.r,RowOk z.t x
 t:z.t.length<=9
 l:z.r.length<60
 v:∀ x∈z.r,vlen x.v<=20
 s:∀ w∈z.t,w≠[42]
structure ZsOk(zs:List Zn):Prop where
 ok:∀ z∈zs,ZnOk z
 l:∀ w,(ofD zs w).length<=8
 nd:∀ w,((ofD zs w).map (·.t)).Nodup
theorem ZsOk.len(h:ZsOk zs)(w:W):(ofD zs w).length<=8:=h.l w
theorem ZnOk.good(h:ZnOk z):Good z.t z.r:=⟨h.l,h.r⟩
theorem Q0Z(h:z∈ofD zs w):z∈zs:=(ZX.mp h).1
noncomputable def hsF(zd pd td:Addr):List (Str×D):=[(("zones" : Str),.ref zd),(("pages" : Str),.ref pd),(("turned" : Str),.ref td)]
section
variable{zd pd td:Addr}
theorem hsF_z:List.lookup ("zones" : Str) (hsF zd pd td)=some (D.ref zd):=Q1t
theorem hsF_p:List.lookup ("pages" : Str) (hsF zd pd td)=some (D.ref pd):=(Q0j (by kd_p)).trans Q1t
theorem Q7C{m:Str}(h1:(m == "zones")=false:=by kd_p)(h2:(m == "pages")=false:=by kd_p)(h3:(m == "turned")=false:=by kd_p):List.lookup m (hsF zd pd td)=none:=(Q0j h1).trans ((Q0j h2).trans ((Q0j h3).trans rfl))
end
section
variable{M0 M:DH}{p r d s q:Addr}{top:List W}{life:Int}{kr kd ks:List (List W×D)}{rr rd:List Rw}{o:MO}{S:List W->Prop}{k:Nat}
theorem PG.mono(h:PG M0 M p r d s top life kr kd ks rr rd S k)(sb:Sub M M'):PG M0 M' p r d s top life kr kd ks rr rd S k :=
 {h with
  ob:=sb _ _ h.ob
  sub:=h.sub.trans sb
  hR:={ h.hR with
   m:=sb _ _ h.hR.m
   v:=λn v e=>by
    obtain⟨l,e1,h1,h2⟩:=h.hR.v n v e;exact⟨l,e1,sb _ _ h1,h2⟩ }
  hD:={ h.hD with m:=sb _ _ h.hD.m }
  hS:={ h.hS with m:=sb _ _ h.hS.m } }
theorem PG.base(h:PG M0 M p r d s top life kr kd ks rr rd S k)(sb:Sub Mb M0):PG Mb M p r d s top life kr kd ks rr rd S k :=
 {h with
  fp:=sb.none h.fp
  sub:=sb.trans h.sub
  hR:={ h.hR with
   f:=sb.none h.hR.f
   v:=λn v e=>by
    obtain⟨l,e1,h1,h2⟩:=h.hR.v n v e;exact⟨l,e1,h1,sb.none h2⟩ }
  hD:={ h.hD with f:=sb.none h.hD.f }
  hS:={ h.hS with f:=sb.none h.hS.f } }
theorem PG.apart(h:PG M0 M p r d s top life kr kd ks rr rd S k)(hM:∀ b,b≠q->M' b=M b)(n1:q≠p)(n2:q≠r)(n3:q≠d)(n4:q≠s)(n5:∀ n,valD kr n≠some (.ref q))(sb:Sub M0 M'):PG M0 M' p r d s top life kr kd ks rr rd S k :=
 {h with
  ob:=(hM _ n1.symm).trans h.ob
  sub:=sb
  hR:={ h.hR with
   m:=(hM _ n2.symm).trans h.hR.m
   v:=λn v e=>by
    obtain⟨l,rfl,h1,h2⟩:=h.hR.v n v e;exact⟨l,rfl,(hM _ λz=>n5 n (by rw[<- z];exact e)).trans h1,h2⟩ }
  hD:={ h.hD with m:=(hM _ n3.symm).trans h.hD.m }
  hS:={ h.hS with m:=(hM _ n4.symm).trans h.hS.m } }
end
def PageX(M0 M:DH)(fo:List Addr)(pg:Addr)(z:Zn):Prop:=∃ r d s kr kd ks,PG M0 M pg r d s z.t z.l kr kd ks z.r z.r (Std z.t z.r) (1+21 * z.r.length)/\∀ b∈fo,b≠pg/\b≠r/\b≠d/\b≠s/\∀ n,valD kr n≠some (.ref b)
theorem PageX.mono(h:PageX M0 M fo pg z)(sb:Sub M M'):PageX M0 M' fo pg z:=by
 obtain⟨r,d,s,kr,kd,ks,G,k⟩:=h;exact⟨r,d,s,kr,kd,ks,G.mono sb,k⟩
theorem PageX.less(h:PageX M0 M fo pg z)(sb:∀ b∈fo',b∈fo):PageX M0 M fo' pg z:=by
 obtain⟨r,d,s,kr,kd,ks,G,k⟩:=h;exact⟨r,d,s,kr,kd,ks,G,λb hb=>k b (sb b hb)⟩
theorem PageX.alter(h:PageX M0 M fo pg z)(hb:b∈fo)(hM:∀ c,c≠b->M' c=M c)(sb:Sub M0 M'):PageX M0 M' fo pg z:=by
 obtain⟨r,d,s,kr,kd,ks,G,k⟩:=h;obtain⟨n1,n2,n3,n4,n5⟩:=k b hb;exact⟨r,d,s,kr,kd,ks,G.apart hM n1 n2 n3 n4 n5 sb,k⟩
theorem PageX.apart(h:PageX M0 M fo pg z)(hb:b∈fo)(f:M0 b=none):PageX M0 (dupd M b o) fo pg z :=
 h.alter hb (λc hc=>Q0a hc) (by obtain⟨r,d,s,kr,kd,ks,G,k⟩:=h;exact G.sub.put f)
theorem PageX.add(h:PageX M0 M fo pg z)(hb:M b=none):PageX M0 M (b::fo) pg z:=by
 obtain⟨r,d,s,kr,kd,ks,G,k⟩:=h;refine⟨r,d,s,kr,kd,ks,G,λc hc=>?_⟩;rcases Z1.mp hc with rfl | hc
 ·refine⟨(dne G.ob hb).symm,(dne G.hR.m hb).symm,(dne G.hD.m hb).symm,(dne G.hS.m hb).symm,λn e=>?_⟩;obtain⟨l,e1,h1,_⟩:=G.hR.v n _ e;cases e1;rw[hb]at h1;cases h1
 ·exact k c hc
theorem PageX.made{M0 M1 M:DH}{fo:List Addr}{pg:Addr}{z:Zn}(h:Page M1 M pg z.t z.l z.r)(sb:Sub M0 M1)(hf:∀ b∈fo,∃ o,M1 b=some o):PageX M0 M fo pg z:=by
 obtain⟨r,d,s,kr,kd,ks,G⟩:=h;refine⟨r,d,s,kr,kd,ks,G.base sb,λb hb=>?_⟩;obtain⟨o,ho⟩:=hf b hb;refine⟨dne ho G.fp,dne ho G.hR.f,dne ho G.hD.f,dne ho G.hS.f,λn e=>?_⟩;obtain⟨l,e1,_,h2⟩:=G.hR.v n _ e;cases e1;rw[ho]at h2;cases h2
theorem PageX.page(h:PageX M0 M fo pg z):Page M0 M pg z.t z.l z.r:=by
 obtain⟨r,d,s,kr,kd,ks,G,_⟩:=h;exact⟨r,d,s,kr,kd,ks,G⟩
noncomputable def kAway:W:=[97,119,97,121]
def ElT(v:D):Prop:=∃ (a:D) (m:List W) (l:Int),v=.tup [a,.tup [.str za9,dn m,.int l]]
structure HX(M0 M:DH)(p zd pd td:Addr)(fo:List Addr)(zs:List Zn)(c:Nat):Prop where
 ob:M p=some (.oth (.ins "House" (hsF zd pd td)))
 n1:zd≠pd
 n2:zd≠td
 n3:pd≠td
 f1:M0 pd=none
 f2:M0 td=none
 f0:M0 zd=none
 sub:Sub M0 M
 fp:pd∈fo
 ft:td∈fo
 fi:∀ b∈fo,∃ o,M b=some o
 hz:∃ kz,M zd=some (.oth (.dct kz))/\∀ n,valD kz n=(atT zs n).map Zn.v
 zl:zs.length<=900
 hp:∃ kp,M pd=some (.oth (.dct kp))/\(kp.map (·.1)).Nodup/\∀ n v,valD kp n=some v->∃ z pg,atT zs n=some z/\v=.ref pg/\PageX M0 M fo pg z
 ht:∃ kt,M td=some (.oth (.dct kt))/\kt.length<=c/\∀ n v,valD kt n=some v->∃ z,up zs n (n.length+1)=some z/\(∀ k,¬ IsN k->v=.tup [dn z.t,zar z.t z.l z.r n k])/\ElT v
 nd:(zs.map (·.t)).Nodup
section
variable{M0 M M':DH}{p zd pd td:Addr}{fo:List Addr}{zs:List Zn}{c:Nat}
theorem HX.mono(h:HX M0 M p zd pd td fo zs c)(sb:Sub M M'):HX M0 M' p zd pd td fo zs c :=
 {h with
  ob:=sb _ _ h.ob
  sub:=h.sub.trans sb
  fi:=λb hb=>by obtain⟨o,e⟩:=h.fi b hb;exact⟨o,sb _ _ e⟩
  hz:=by obtain⟨kz,e1,e2⟩:=h.hz;exact⟨kz,sb _ _ e1,e2⟩
  hp:=by
   obtain⟨kp,e1,e2,e3⟩:=h.hp;refine⟨kp,sb _ _ e1,e2,λn v e=>?_⟩;obtain⟨z,pg,q1,q2,q3⟩:=e3 n v e;exact⟨z,pg,q1,q2,q3.mono sb⟩
  ht:=by obtain⟨kt,e1,e2,e3⟩:=h.ht;exact⟨kt,sb _ _ e1,e2,e3⟩ }
theorem HX.le(h:HX M0 M p zd pd td fo zs c)(hc:c<=c'):HX M0 M p zd pd td fo zs c' :=
 {h with
  ht:=by obtain⟨kt,e1,e2,e3⟩:=h.ht;exact⟨kt,e1,Zr e2 hc,e3⟩ }
theorem HX.less(h:HX M0 M p zd pd td fo zs c)(sb:∀ b∈fo',b∈fo)(h1:pd∈fo')(h2:td∈fo'):HX M0 M p zd pd td fo' zs c :=
 {h with
  fp:=h1
  ft:=h2
  fi:=λb hb=>h.fi b (sb b hb)
  hp:=by
   obtain⟨kp,e1,e2,e3⟩:=h.hp;refine⟨kp,e1,e2,λn v e=>?_⟩;obtain⟨z,pg,q1,q2,q3⟩:=e3 n v e;exact⟨z,pg,q1,q2,q3.less sb⟩ }
theorem HX.alter(h:HX M0 M p zd pd td fo zs c)(hb:b∈fo)(hM:∀ c,c≠b->M' c=M c)(sb:Sub M0 M')(n1:b≠p)(n2:b≠zd)(n3:b≠pd)(n4:b≠td)(hf:∀ c∈fo',c∈fo/\∃ o,M' c=some o)(h1:pd∈fo')(h2:td∈fo'):HX M0 M' p zd pd td fo' zs c :=
 {h with
  ob:=(hM _ n1.symm).trans h.ob
  sub:=sb
  fp:=h1
  ft:=h2
  fi:=λc hc=>(hf c hc).2
  hz:=by obtain⟨kz,e1,e2⟩:=h.hz;exact⟨kz,(hM _ n2.symm).trans e1,e2⟩
  hp:=by
   obtain⟨kp,e1,e2,e3⟩:=h.hp;refine⟨kp,(hM _ n3.symm).trans e1,e2,λn v e=>?_⟩;obtain⟨z,pg,q1,q2,q3⟩:=e3 n v e;exact⟨z,pg,q1,q2,(q3.alter hb hM sb).less λc hc=>(hf c hc).1⟩
  ht:=by obtain⟨kt,e1,e2,e3⟩:=h.ht;exact⟨kt,(hM _ n4.symm).trans e1,e2,e3⟩ }
theorem HX.write(h:HX M0 M p zd pd td fo zs c)(hb:b∈fo)(f:M0 b=none)(n1:b≠p)(n2:b≠zd)(n3:b≠pd)(n4:b≠td):HX M0 (dupd M b o) p zd pd td fo zs c :=
 h.alter hb (λc hc=>Q0a hc) (h.sub.put f) n1 n2 n3 n4 (λc hc=>⟨hc,by
  by_cases e:c=b
  ·rw[e];exact⟨o,Q0c⟩
  ·obtain⟨u,hu⟩:=h.fi c hc;exact⟨u,by rw[Q0a e];exact hu⟩⟩) h.fp h.ft
theorem HX.nep(h:HX M0 M p zd pd td fo zs c):pd≠p/\td≠p:=by
 obtain⟨kp,e1,_⟩:=h.hp;obtain⟨kt,e2,_⟩:=h.ht;exact⟨mne e1 h.ob (λz=>nomatch z),mne e2 h.ob (λz=>nomatch z)⟩
theorem HX.few(h:HX M0 M p zd pd td fo zs c)(e:M pd=some (.oth (.dct kp))):kp.length<=900:=by
 obtain⟨kp',e1,e2,e3⟩:=h.hp;rw[e]at e1;cases e1;have:=e2.length_le_of_subset (l₂:=zs.map (·.t)) λn hn=>by
  obtain⟨q,hq,rfl⟩:=ZJ.mp hn;have ev:(valD kp q.1).isSome=true:=by rw[<- Q1x,any_eq_true];exact⟨q,hq,Zm rfl⟩
  obtain⟨v,ev⟩:=Z3.mp ev;obtain⟨z,_,q1,_⟩:=e3 q.1 v ev;have hz:=find?_some (show _=some z from q1);rw[Ze]at hz;rw[<- hz];exact ZJ.mpr ⟨z,mem_of_find?_eq_some (show _=some z from q1),rfl⟩
 rw[Zb,Zb]at this;have:=h.zl;room
theorem HX.putP(h:HX M0 M p zd pd td fo zs c)(e:M pd=some (.oth (.dct kp)))(hn:atT zs n=some z)(hx:PageX M0 M fo pg z):HX M0 (dupd M pd (.oth (.dct (putD kp n (.ref pg))))) p zd pd td fo zs c :=
 {h with
  ob:=by rw[Q0a h.nep.1.symm];exact h.ob
  sub:=h.sub.put h.f1
  fi:=λc hc=>by
   by_cases e:c=pd
   ·rw[e];exact⟨_,Q0c⟩
   ·obtain⟨u,hu⟩:=h.fi c hc;exact⟨u,by rw[Q0a e];exact hu⟩
  hz:=by obtain⟨kz,e1,e2⟩:=h.hz;exact⟨kz,by rw[Q0a h.n1];exact e1,e2⟩
  hp:=by
   obtain⟨kp',e1,e2,e3⟩:=h.hp;rw[e]at e1;cases e1;refine⟨_,Q0c,Q4k e2,λm v ev=>?_⟩;rw[Q0y]at ev;by_cases em:m=n
   ·rw[Zg em]at ev;cases ev;exact⟨z,pg,by rw[em];exact hn,rfl,hx.apart h.fp h.f1⟩
   ·rw[Zd em]at ev;obtain⟨z,pg,q1,q2,q3⟩:=e3 m v ev;exact⟨z,pg,q1,q2,q3.apart h.fp h.f1⟩
  ht:=by obtain⟨kt,e1,e2,e3⟩:=h.ht;exact⟨kt,by rw[Q0a h.n3.symm];exact e1,e2,e3⟩ }
end
def HSub(pd td:Addr)(M M':DH):Prop:=∀ b o,b≠pd->b≠td->M b=some o->M' b=some o
theorem HSub.refl(pd td:Addr)(M:DH):HSub pd td M M:=λ_ _ _ _ e=>e
theorem HSub.of(s:Sub M M'):HSub pd td M M':=λb o _ _ e=>s b o e
theorem HSub.putP(a:HSub pd td M M'):HSub pd td M (dupd M' pd o):=λc u h1 h2 e=>by rw[Q0a h1];exact a c u h1 h2 e
theorem smallM(h:n<=16000000):n<sizeLine:=ZM h (by decide)
def sp_ap:DSp:=λds M R=>∃ (x:Addr) (d:D) (zs:List Zn),ds=[.ref x,d]/\M x=some (.oth (.ins "House" []))/\zap M d=some (zs.map Zn.v)/\zs.length<=900/\(zs.map (·.t)).Nodup /\
 ∀ M' zd pd td,M' pd=some (.oth (.dct []))->(∀ M0,Sub M0 M->M0 x=none->HX M0 M' x zd pd td [pd,td] zs 0)->R .non M'
theorem ok_ap{T:Tab}:OkF T b_ap sp_ap ["",""]:=by
 rintro ds M R ⟨x,d,zs,rfl,hx,hd,hl,hn,h⟩;erw[b_ap];refine Q0b λk1 e1=>?_;have rest:∀ q,M q=none->∃ a fs,D.ref x=D.ref a/\dupd M q (.oth (.dct (zaD [] (zs.map Zn.kv)))) a=some (.oth (.ins "House" fs))/\fs.length<1000/\k1 [some (.ref x),some d] (dupd (dupd M q (.oth (.dct (zaD [] (zs.map Zn.kv))))) a (.oth (.ins "House" (zaC "zones" (.ref q) fs)))):=by
  intro q hq;refine⟨x,[],rfl,Sub.new hq _ _ hx,by decide,?_⟩
  rw[e1];clear e1;w_up;intro q2 hq2;have n2:q2≠x:=λz=>by subst z;rw[Q0c]at hq2;cases hq2
  refine⟨x,_,rfl,by rw[Q0a n2.symm];exact Q0c,by simp[zaC],λq3 hq3=>?_⟩
  have n3:q3≠x:=λz=>by subst z;rw[Q0c]at hq3;cases hq3
  have n1:q≠x:=λz=>by subst z;rw[hx]at hq;cases hq
  rw[houseF1]at hq3 ⊢;refine⟨x,_,rfl,by rw[Q0a n3.symm];exact Q0c,(by erw[Zw,ZH];room),?_⟩
  rw[houseF2];have n32:q3≠q2:=λz=>by
   subst z;rw[Q0a n2,Q0c]at hq3;cases hq3
  have n12:q2≠q:=λz=>by
   subst z;rw[Q0a n1,Q0c]at hq2;cases hq2
  have n13:q3≠q:=λz=>by
   subst z;rw[Q0a n3,Q0a n12.symm,Q0a n3,Q0c]at hq3;cases hq3
  have hq2':M q2=none:=by rw[Q0a n2,Q0a n12]at hq2;exact hq2
  have hq3':M q3=none:=by rw[Q0a n3,Q0a n32,Q0a n3,Q0a n13]at hq3;exact hq3
  refine Q0f (h _ q q2 q3 ?_ λM0 sb hx0=>⟨Q0c,n12.symm,n13.symm,n32.symm,sb.none hq2',sb.none hq3',sb.none hq,?_,by simp,by simp,?_,⟨zaD [] (zs.map Zn.kv),?_,λn=>?_⟩,hl,⟨[],?_,nodup_nil,λn v e=>(nomatch e)⟩,⟨[],?_,ZI _,λn v e=>(nomatch e)⟩,hn⟩)
  ·rw[Q0a n2,Q0a n32.symm,Q0a n2,Q0c]
  ·intro b o hb;have hbM:=sb b o hb;have nb:b≠x:=dne hb hx0;rw[Q0a nb,Q0a (dne hbM hq3'),Q0a nb,Q0a (dne hbM hq2'),Q0a nb,Q0a (dne hbM hq)];exact hbM
  ·intro b hb;erw[Z1,ZA,Y1]at hb;rcases hb with rfl | rfl
   ·exact⟨_,by rw[Q0a n2,Q0a n32.symm,Q0a n2,Q0c]⟩
   ·exact⟨_,by rw[Q0a n3,Q0c]⟩
  ·rw[Q0a n1,Q0a n13.symm,Q0a n1,Q0a n12.symm,Q0a n1,Q0c]
  ·rw[Q3j zs [] n hn];cases atT zs n <;> rfl
  ·rw[Q0a n2,Q0a n32.symm,Q0a n2,Q0c]
  ·rw[Q0a n3,Q0c]
 rcases Q1v hd with rfl | ⟨a,rfl,ha⟩
 ·w_up;refine Q4m trivial hl ?_;refine⟨szL (by rw[Zb,Zb];room),zs.map Zn.kv,rfl,szL (by rw[Zb];room),rest⟩
 ·w_up;erw[ha];refine Q4m ha hl ?_;refine⟨szL (by rw[Zb,Zb];room),zs.map Zn.kv,rfl,szL (by rw[Zb];room),rest⟩
def sp_ab:DSp:=λds M R=>∃ (M0:DH) (p zd pd td:Addr) (fo:List Addr) (zs:List Zn) (c:Nat) (t:Option (List W)),ds=[.ref p,onm t]/\HX M0 M p zd pd td fo zs c/\(∀ z∈zs,ZnOk z)/\c<=15000000 /\
 (t.bind (atT zs)=none->R .non M)/\∀ z,t.bind (atT zs)=some z->∀ pg M',HX M0 M' p zd pd td fo zs c->HSub pd td M M'->PageX M0 M' fo pg z->R (.ref pg) M'
theorem Q1a(h:atT zs n=some z):z∈zs:=mem_of_find?_eq_some h
theorem ok_ab(T:Tab)(h300:T.ini 300=some ⟨"Page","__init__",1,sp_am⟩):OkF T b_ab sp_ab ["",""]:=by
 rintro ds M R ⟨M0,p,zd,pd,td,fo,zs,c,t,rfl,H,hok,hc,hno,hyes⟩;obtain⟨kz,z1,z2⟩:=H.hz;obtain⟨kp,p1,p2,p3⟩:=H.hp;erw[b_ab];walk_at "q0";refine⟨p,_,_,rfl,H.ob,hsF_z,?_⟩;have fin:∀ M',HX M0 M' p zd pd td fo zs c->HSub pd td M M'->∀ n z pg kp',t=some n->atT zs n=some z->M' pd=some (.oth (.dct kp'))->valD kp' n=some (.ref pg)->PageX M0 M' fo pg z->k1 [some (.ref p),some (onm t)] M':=by
  intro M' H' S' n z pg kp' ht hn hk hv hx;subst ht;rw[e1];w_up;refine⟨p,_,_,rfl,H'.ob,hsF_p,pd,kp',rfl,hk,kp',hk,.inl ⟨n,rfl,?_⟩⟩;rw[hv];exact Q0f (hyes z hn pg M' H' S' hx)
 cases t with
 | none =>
  refine .inr ⟨zd,kz,rfl,rfl,z1,?_⟩;rw[e1];w_up;exact⟨p,_,_,rfl,H.ob,hsF_p,pd,kp,rfl,p1,kp,p1,.inr ⟨rfl,Q0f (hno rfl)⟩⟩
 | some n =>
  refine .inl ⟨n,zd,kz,rfl,rfl,z1,?_⟩;rw[z2];cases en:atT zs n with
  | none =>
   refine iteF ?_;rw[e1];w_up;refine⟨p,_,_,rfl,H.ob,hsF_p,pd,kp,rfl,p1,kp,p1,.inl ⟨n,rfl,?_⟩⟩;cases ev:valD kp n with
   | none=>exact Q0f (hno en)
   | some v =>
    obtain⟨z,pg,q1,_⟩:=p3 n v ev;rw[en]at q1;cases q1
  | some z =>
   refine iteT ⟨p,_,_,rfl,H.ob,hsF_p,n,pd,kp,rfl,rfl,p1,?_⟩;cases ev:valD kp n with
   | some v =>
    obtain⟨z',pg,q1,q2,q3⟩:=p3 n v ev;rw[en]at q1;cases q1;subst q2;refine iteF ?_;exact fin M H (HSub.refl pd td M) n z pg kp rfl en p1 ev q3
   | none =>
    refine iteT ?_;erw[h300];w_up;refine⟨p,_,_,rfl,H.ob,hsF_z,n,zd,kz,z.v,rfl,rfl,z1,by rw[z2,en];rfl,λx hx=>?_⟩
    have zk:=hok z (Q1a en);refine⟨x,M,z.t,z.l,z.r,rfl,Q0c,hx,Sub.new hx,by have:=zk.l;room,zk.good.in,λM' hP=>⟨rfl,?_⟩⟩
    have sb:Sub M M':=by
     obtain⟨r,d,s,kr,kd,ks,G⟩:=hP;exact G.sub
    have H1:=H.mono sb;refine⟨p,_,_,rfl,H1.ob,hsF_p,pd,n,kp,rfl,rfl,sb _ _ p1,smallM (by have:=H.few p1;room),?_⟩
    have hx':=PageX.made hP H.sub H.fi;refine fin _ (H1.putP (sb _ _ p1) en hx') (HSub.of sb).putP n z x _ rfl en Q0c (by rw[Q0y,Zg rfl]) (hx'.apart H.fp H.f1)
theorem Q2L:IsN za9:=.inr rfl
theorem Q4O{z:Zn}{n c:List W}{k:W}{x:Rw}(ec:cutN z.t z.r n=some c)(ed:zac z.r c=some x):zar z.t z.l z.r n k=zaS z.r x:=by
 unfold zar;rw[ec];show (match zac z.r c with | some x=>zaS z.r x | none=>.non)=_
 rw[ed]
theorem Q7D{z:Zn}{n:List W}{k:W}(ec:cutN z.t z.r n=none):zar z.t z.l z.r n k=zaB z.r (zag z.t z.r n) k z.l:=by
 unfold zar;rw[ec]
noncomputable def repO(zs:List Zn)(t:Option (List W))(n:List W)(k:W):D:=match t.bind (atT zs) with
 | some z=>zar z.t z.l z.r n k
 | none=>.tup [.str kAway]
theorem Q2M(e:t.bind (atT zs)=some z):repO zs t n k=zar z.t z.l z.r n k:=by unfold repO;rw[e]
theorem Q2N(e:t.bind (atT zs)=none):repO zs t n k=.tup [.str kAway]:=by unfold repO;rw[e]
theorem QcQ(h:dn a=dn b):a=b:=by
 have:=congrArg nmOf h;rw[Q1K,Q1K]at this;exact this
def sp_a5:DSp:=λds M R=>∃ (M0:DH) (p zd pd td:Addr) (fo:List Addr) (zs:List Zn) (c:Nat) (t:Option (List W)) (n:List W) (k:W),ds=[.ref p,onm t,dn n,.str k]/\HX M0 M p zd pd td fo zs c/\(∀ z∈zs,ZnOk z)/\c<=15000000 /\
 ¬ IsN k/\n.length<=900/\(∀ a,t=some a->n.take a.length=a)/\∀ M',HX M0 M' p zd pd td fo zs c->HSub pd td M M'->R (repO zs t n k) M'
theorem ok_a5(T:Tab)(h305:T.mt 305=some ⟨"Page","reply",2,sp_aj⟩)(h323:T.mt 323=some ⟨"House","page",1,sp_ab⟩)(h18:T.con 18=some (("AWAY" : Str),D.str [97,119,97,121])):OkF T b_a5 sp_a5 ["","","","",""]:=by
 rintro ds M R ⟨M0,p,zd,pd,td,fo,zs,c,t,n,k,rfl,H,hok,hc,hk,hn,ht,h⟩;erw[b_a5];walk_at "q0";erw[h323];w_up;refine⟨p,_,rfl,H.ob,Q7C,M0,p,zd,pd,td,fo,zs,c,t,rfl,H,hok,hc,λen=>?_,λz ez pg M' H' S' hx=>?_⟩
 ·rw[e1];clear e1;w_up;erw[h18];w_up;refine⟨szL (by decide),Q0f ?_⟩
  have:=h M H (HSub.refl pd td M);rw[Q2N en]at this;exact this
 ·rw[e1];clear e1;w_up;erw[h305];w_up;obtain⟨r,d,s,kr,kd,ks,G,_⟩:=id hx;cases t with
  | none=>cases ez
  | some a =>
   have ea:=atT_t (show atT zs a=some z from ez);refine⟨pg,_,rfl,G.ob,Q0P,pg,n,k,M0,z.t,z.l,z.r,rfl,hx.page,(hok z (Q1a ez)).good,hk,hn,by rw[ea];exact ht a rfl,?_⟩
   have:=h M' H' S';rw[Q2M ez]at this;exact Q0f this
noncomputable def left(E sp:List (List W)):Nat:=(E.filter λm=>decide (m∉sp)).length
theorem Q1b(I:Nat->DSt->DH->Prop)(h0:∃ m,I m ρ M)(turn:∀ m ρ M,I m ρ M->∀ TB:DTS,TB=tb->c ρ M λb M1=>if b=true then ∃ N:DSt->DH->Prop,(∀ ρ' M',N ρ' M'->∃ m',m'<m/\I m' ρ' M')/\TB { DD with nx:=N,ct:=N,bk:=DD.nx } ρ M1 else DD.nx ρ M1):zaw c tb DD ρ M :=
 ⟨I,h0,λm ρ M h=>turn m ρ M h tb rfl⟩
theorem ZsOk.of(h:ZsOk zs)(w:W):∀ z∈ofD zs w,ZnOk z:=λz hz=>h.ok z (Q0Z hz)
structure Hr where
 p:Addr
 zd:Addr
 pd:Addr
 td:Addr
noncomputable def Hr.ad(h:Hr):List Addr:=[h.p,h.zd,h.pd,h.td]
noncomputable def stK(ks:List W)(rc:W->Hr):List (W×D):=ks.map λw=>(w,.ref (rc w).p)
theorem Q3y(rc:W->Hr)(o:W):∀ ks:List W,valT (stK ks rc) o=if o∈ks then some (.ref (rc o).p) else none
 | []=>rfl
 | w::ks=>by
  unfold stK;rw[ZC];by_cases e:w=o
  ·subst e;rw[Q0z rfl,Zg Zp]
  ·rw[Q0A e];have ih:=Q3y rc o ks;unfold stK at ih;rw[ih];by_cases h:o∈ks
   ·rw[Zg h,Zg (Zo _ h)]
   ·rw[Zd h,Zd λz=>(Z1.mp z).elim (λy=>e y.symm) h]
theorem ad_p(h:Hr):h.p∈h.ad:=by simp[Hr.ad]
theorem ad_z(h:Hr):h.zd∈h.ad:=by simp[Hr.ad]
theorem ad_g(h:Hr):h.pd∈h.ad:=by simp[Hr.ad]
theorem ad_t(h:Hr):h.td∈h.ad:=by simp[Hr.ad]
section
variable{M0 M:DH}{p r d s x y:Addr}{top:List W}{life:Int}{kr kd ks:List (List W×D)}{rr rd:List Rw}{S:List W->Prop}{k:Nat}
theorem PG.side(h:PG M0 M p r d s top life kr kd ks rr rd S k)(hM:HSub x y M M')(n1:x≠p/\x≠r/\x≠d/\x≠s/\∀ n,valD kr n≠some (.ref x))(n2:y≠p/\y≠r/\y≠d/\y≠s/\∀ n,valD kr n≠some (.ref y))(sb:Sub M0 M'):PG M0 M' p r d s top life kr kd ks rr rd S k :=
 {h with
  ob:=hM _ _ n1.1.symm n2.1.symm h.ob
  sub:=sb
  hR:={ h.hR with
   m:=hM _ _ n1.2.1.symm n2.2.1.symm h.hR.m
   v:=λn v e=>by
    obtain⟨l,rfl,h1,h2⟩:=h.hR.v n v e;exact⟨l,rfl,hM _ _ (λz=>n1.2.2.2.2 n (by rw[<- z];exact e)) (λz=>n2.2.2.2.2 n (by rw[<- z];exact e)) h1,h2⟩ }
  hD:={ h.hD with m:=hM _ _ n1.2.2.1.symm n2.2.2.1.symm h.hD.m }
  hS:={ h.hS with m:=hM _ _ n1.2.2.2.1.symm n2.2.2.2.1.symm h.hS.m } }
end
theorem PageX.side(h:PageX M0 M fo pg z)(hx:x∈fo)(hy:y∈fo)(hM:HSub x y M M')(sb:Sub M0 M'):PageX M0 M' fo pg z:=by
 obtain⟨r,d,s,kr,kd,ks,G,k⟩:=h;exact⟨r,d,s,kr,kd,ks,G.side hM (k x hx) (k y hy) sb,k⟩
theorem PageX.adds(h:PageX M0 M fo pg z):∀ {ex:List Addr},(∀ b∈ex,M b=none)->PageX M0 M (ex++fo) pg z
 | [],_=>h
 | b::ex,he=>(PageX.adds h (ex:=ex) λc hc=>he c (Zo _ hc)).add (he b Zp)
section
variable{M0 M M':DH}{p zd pd td x y:Addr}{fo ex:List Addr}{zs:List Zn}{c:Nat}
theorem HX.grows(h:HX M0 M p zd pd td fo zs c)(s:Sub M M')(he:∀ b∈ex,M b=none/\∃ o,M' b=some o):HX M0 M' p zd pd td (ex++fo) zs c:=by
 have h2:=h.mono s;exact { h2 with
  fp:=Zy _ h.fp
  ft:=Zy _ h.ft
  fi:=λc hc=>(Z4.mp hc).elim (λhc=>(he c hc).2) (h2.fi c)
  hp:=by
   obtain⟨kp,e1,e2,e3⟩:=h.hp;refine⟨kp,s _ _ e1,e2,λn v e=>?_⟩;obtain⟨z,pg,q1,q2,q3⟩:=e3 n v e;exact⟨z,pg,q1,q2,(q3.adds λb hb=>(he b hb).1).mono s⟩ }
theorem HX.side(h:HX M0 M p zd pd td fo zs c)(S:HSub x y M M')(sb:Sub M0 M')(hx:x∈fo)(hy:y∈fo)(n:∀ b∈[p,zd,pd,td],b≠x/\b≠y)(he:∀ b∈ex,M b=none/\∃ o,M' b=some o)(ox:∃ o,M' x=some o)(oy:∃ o,M' y=some o):HX M0 M' p zd pd td (ex++fo) zs c :=
 {h with
  ob:=S _ _ (n p (by simp)).1 (n p (by simp)).2 h.ob
  sub:=sb
  fp:=Zy _ h.fp
  ft:=Zy _ h.ft
  fi:=λc hc=>by
   rcases Z4.mp hc with hc | hc
   ·exact (he c hc).2
   ·by_cases e1:c=x
    ·rw[e1];exact ox
    by_cases e2:c=y
    ·rw[e2];exact oy
    obtain⟨o,ho⟩:=h.fi c hc;exact⟨o,S _ _ e1 e2 ho⟩
  hz:=by obtain⟨kz,e1,e2⟩:=h.hz;exact⟨kz,S _ _ (n zd (by simp)).1 (n zd (by simp)).2 e1,e2⟩
  hp:=by
   obtain⟨kp,e1,e2,e3⟩:=h.hp;refine⟨kp,S _ _ (n pd (by simp)).1 (n pd (by simp)).2 e1,e2,λn v e=>?_⟩
   obtain⟨z,pg,q1,q2,q3⟩:=e3 n v e;exact⟨z,pg,q1,q2,(q3.adds λb hb=>(he b hb).1).side (Zy _ hx) (Zy _ hy) S sb⟩
  ht:=by obtain⟨kt,e1,e2,e3⟩:=h.ht;exact⟨kt,S _ _ (n td (by simp)).1 (n td (by simp)).2 e1,e2,e3⟩ }
end
noncomputable def foW(ex:List Addr)(wp:Addr)(ks:List W)(rc:W->Hr):List Addr:=ex++wp::ks.flatMap λw=>[(rc w).pd,(rc w).td]
theorem HX.kinds{M0 M:DH}{h:Hr}{fo:List Addr}{zs:List Zn}{c:Nat}(hn:HX M0 M h.p h.zd h.pd h.td fo zs c){b:Addr}(hb:b∈h.ad):M b=some (.oth (.ins "House" (hsF h.zd h.pd h.td)))\/∃ kz,M b=some (.oth (.dct kz)):=by
 obtain⟨kz,a1,_⟩:=hn.hz;obtain⟨kp,b1,_⟩:=hn.hp;obtain⟨kt,c1,_⟩:=hn.ht;erw[Hr.ad,Z1,ZA,Y1]at hb;rcases hb with rfl | rfl | rfl | rfl
 ·exact .inl hn.ob
 ·exact .inr ⟨kz,a1⟩
 ·exact .inr ⟨_,b1⟩
 ·exact .inr ⟨_,c1⟩
theorem foW_p{rc:W->Hr}(h:w∈ks):(rc w).pd∈foW ex wp ks rc:=Zy _ (Zo _ (mem_flatMap.mpr ⟨w,h,by simp⟩))
theorem foW_t{rc:W->Hr}(h:w∈ks):(rc w).td∈foW ex wp ks rc:=Zy _ (Zo _ (mem_flatMap.mpr ⟨w,h,by simp⟩))
namespace Tz
section
variable{α:Type}
noncomputable def val(kvs:List (List W×α))(k:List W):Option α:=(kvs.find? λkv=>decide (kv.1=k)).map (·.2)
noncomputable def put(kvs:List (List W×α))(k:List W)(v:α):List (List W×α) :=
 if (kvs.any λkv=>decide (kv.1=k))=true then kvs.map (λkv=>if kv.1=k then (kv.1,v) else kv) else kvs++[(k,v)]
noncomputable abbrev mp(f:α->D)(kvs:List (List W×α)):List (List W×D):=kvs.map λp=>(p.1,f p.2)
theorem Q1m(f:α->D)(k:List W):∀ kvs:List (List W×α),valD (mp f kvs) k=(val kvs k).map f
 | []=>rfl
 | p::r=>by
  have ih:=Q1m f k r;unfold val at ih ⊢;by_cases e:p.1=k
  ·rw[List.find?_cons_of_pos (by simpa using e)]
   exact Q0v (p:=(p.1,f p.2)) e
  ·rw[find?_cons_of_neg (by simpa using e),<- ih]
   exact Q0w (p:=(p.1,f p.2)) e
theorem Q7E(f:α->D)(kvs:List (List W×α))(k:List W)(v:α):putD (mp f kvs) k (f v)=mp f (put kvs k v):=by
 have ea:((mp f kvs).any λkv=>decide (kv.1=k))=(kvs.any λkv=>decide (kv.1=k)):=by
  rw[any_map];rfl
 unfold putD put;rw[ea];split
 ·show _=(kvs.map _).map _;rw[map_map,map_map];refine map_congr_left λp _=>?_;show (if p.1=k then (p.1,f v) else (p.1,f p.2))=((if p.1=k then (p.1,v) else p).1,f (if p.1=k then (p.1,v) else p).2)
  split <;> rfl
 ·show _=(kvs++[(k,v)]).map _;rw[Z9];rfl
theorem Q4P(k:List W):∀ kvs:List (List W×α),(kvs.any λkv=>decide (kv.1=k))=(val kvs k).isSome
 | []=>rfl
 | p::r=>by
  have ih:=Q4P k r;unfold val at ih ⊢;rw[any_cons,ih];by_cases e:p.1=k
  ·rw[List.find?_cons_of_pos (by simpa using e),Zm e];rfl
  ·rw[find?_cons_of_neg (by simpa using e),Z7 e];rfl
theorem Q4Q(h:val kvs k=none):put kvs k v=kvs++[(k,v)]:=by
 unfold put;rw[Q4P,h];rfl
end
theorem Q7F{α:Type}{f:α->D}(hf:∀ a b,f a=f b->a=b)(kvs:List (List W×α))(k j:List W)(v:α):val (put kvs k v) j=if j=k then some v else val kvs j:=by
 have h:(val (put kvs k v) j).map f=(if j=k then some v else val kvs j).map f:=by
  rw[<- Q1m,<- Q7E,Q0y];split
  ·rfl
  ·exact Q1m f j kvs
 cases e1:val (put kvs k v) j <;> cases e2:(if j=k then some v else val kvs j) <;> rw[e1,e2]at h
 ·cases h
 ·cases h
 ·injection h with h;rw[hf _ _ h]
noncomputable def odD:Option W->D
 | none=>.non
 | some w=>.str w
theorem Qbo:∀ a b:W,D.str a=D.str b->a=b:=λa b h=>by injection h
theorem QcR:∀ a b:Option W,odD a=odD b->a=b
 | none,none,_=>rfl
 | none,some _,h=>by cases h
 | some _,none,h=>by cases h
 | some a,some b,h=>by injection h with h;rw[h]
noncomputable abbrev mD(kd:List (List W×W)):List (List W×D):=mp D.str kd
noncomputable abbrev mL(kl:List (List W×Option W)):List (List W×D):=mp odD kl
theorem Q2q(kd:List (List W×W))(k j:List W)(v:W):val (put kd k v) j=if j=k then some v else val kd j:=Q7F Qbo kd k j v
theorem Q0R(kl:List (List W×Option W))(k j:List W)(v:Option W):val (put kl k v) j=if j=k then some v else val kl j:=Q7F QcR kl k j v
inductive Rp
 | away
 | els (m:List W) (l:Int)
 | down (c h:List W) (ds:List W) (l:Int)
 | rows (ds:List W) (l:Int)
 | non (l:Int)
 | emp (l:Int)
noncomputable def Rp.d:Rp->D
 | .away=>.tup [.str kAway]
 | .els m l=>.tup [.str za9,dn m,.int l]
 | .down c h ds l=>.tup [.str za7,dn c,dn h,.lst (ds.map .str),.int l]
 | .rows ds l=>.tup [.str zbA,.lst (ds.map .str),.int l]
 | .non l=>.tup [.str kNone,.int l]
 | .emp l=>.tup [.str zbM,.int l]
noncomputable def valsW(xs:List Rw):List W:=zby (xs.map λx=>zaU x.v)
noncomputable def repZ(z:Zn)(n:List W)(k:W):Rp:=match cutN z.t z.r n with
 | some c=>match zac z.r c with
  | some x=>.down x.n (nmOf x.v) (valsW (zav z.r x.n (nmOf x.v))) (minI ((x::zav z.r x.n (nmOf x.v)).map λx=>x.l))
  | none=>.away
 | none =>
  if (zag z.t z.r n).drop ((zag z.t z.r n).length-1)=[[42]]/\atN z.r (zag z.t z.r n)=[] then .non z.l
  else match zad (atN z.r (zag z.t z.r n)) za9 with
   | x::_=>.els (nmOf x.v) x.l
   | []=>match zad (atN z.r (zag z.t z.r n)) k with
    | []=>.emp z.l
    | x::r=>.rows (valsW (x::r)) (minI ((x::r).map λx=>x.l))
theorem Q0S{z:Zn}{n c:List W}(e:cutN z.t z.r n=some c):∃ x,zac z.r c=some x:=by
 have hs:=find?_some (show _=some c from e);rw[Q1u]at hs;cases ed:zac z.r c with
 | none=>rw[ed]at hs;cases hs
 | some x=>exact⟨x,rfl⟩
theorem Q1i{z:Zn}{c:List W}{x:Rw}(e:zac z.r c=some x):x∈z.r/\x.k=za7/\x.n=c:=by
 have:=mem_of_getLast? e;obtain⟨h1,h2⟩:=ZX.mp this;have h3:=Z2 h2;exact⟨h1,h3.1,h3.2⟩
theorem nm_of(h:ZnOk z)(hx:x∈z.r)(hk:IsN x.k):x.v=dn (nmOf x.v):=by
 rcases (h.r x hx).pv with ⟨_,m,em⟩ | ⟨nk,_⟩
 ·rw[em,Q1K]
 ·exact absurd hk nk
theorem QcS(h:ZnOk z)(n:List W)(k:W):(repZ z n k).d=zar z.t z.l z.r n k:=by
 unfold repZ;cases ec:cutN z.t z.r n with
 | some c =>
  obtain⟨x,ed⟩:=Q0S ec;obtain⟨hx,hk,_⟩:=Q1i ed;rw[Q4O ec ed];erw[ed];show D.tup [.str za7,dn x.n,dn (nmOf x.v),_,_]=.tup [.str za7,dn x.n,x.v,_,_];rw[<- nm_of h hx (by rw[hk];exact .inl rfl)]
  rfl
 | none =>
  rw[Q7D ec];unfold zaB;simp only;split
  ·rfl
  ·unfold zbh;cases ee:zad (atN z.r (zag z.t z.r n)) za9 with
   | cons x r =>
    have hx:x∈zad (atN z.r (zag z.t z.r n)) za9:=by rw[ee];exact Zp
    obtain⟨h1,h2⟩:=Q0G hx;obtain⟨h3,_⟩:=Q1h h1;show D.tup [.str za9,dn (nmOf x.v),.int x.l]=.tup [.str za9,x.v,.int x.l];rw[<- nm_of h h3 (by rw[h2];exact Q2L)]
   | nil =>
    simp only;cases zad (atN z.r (zag z.t z.r n)) k with
    | nil=>rfl
    | cons x r=>rfl
noncomputable def repT(zs:List Zn)(o:W)(t n:List W)(k:W):Rp:=match atT (ofD zs o) t with
 | some z=>repZ z n k
 | none=>.away
theorem Q7G(h:∀ z∈zs,ZnOk z)(o:W)(t n:List W)(k:W):(repT zs o t n k).d=repO (ofD zs o) (some t) n k:=by
 unfold repT;cases e:atT (ofD zs o) t with
 | none=>rw[Q2N (show (some t).bind _=none from e)];rfl
 | some z=>rw[Q2M (show (some t).bind _=some z from e)];exact QcS (h z (Q0Z (Q1a e))) n k
theorem cut_len(e:cutN top rows n=some c):top.length<c.length/\n.take c.length=c:=by
 have:=mem_of_find?_eq_some (show _=some c from e);obtain⟨j,hj,rfl⟩:=ZJ.mp this;rw[List.range_eq_range',drop_range',List.mem_range'_1]at hj;rw[Zz];have e1:min j n.length=j:=by room
 rw[e1];exact⟨by room,rfl⟩
theorem Q9y{zs:List Zn}{o:W}{t n:List W}{k:W}{c h:List W}{ds:List W}{l:Int}(e:repT zs o t n k=.down c h ds l):t.length<c.length/\n.take c.length=c:=by
 unfold repT at e;cases ez:atT (ofD zs o) t with
 | none=>rw[ez]at e;cases e
 | some z =>
  rw[ez]at e;have et:=atT_t ez;unfold repZ at e;simp only at e;cases ec:cutN z.t z.r n with
  | some c' =>
   obtain⟨x,ed⟩:=Q0S ec;rw[ec]at e;erw[ed]at e;injection e with e1;obtain⟨_,_,hn⟩:=Q1i ed;rw[<- e1,hn,<- et];exact cut_len ec
  | none =>
   rw[ec]at e;simp only at e;split at e
   ·cases e
   ·split at e
    ·cases e
    ·split at e <;> cases e
noncomputable def topL(kd:List (List W×W))(n:List W):Nat:=(((List.range (n.length+1)).filter λj=>(val kd (n.take j)).isSome).getLast?).getD 0
noncomputable def topN(kd:List (List W×W))(n:List W):List W:=n.take (topL kd n)
noncomputable def zaa(kd:List (List W×W))(t:List W):W:=(val kd t).getD []
noncomputable def rsA(zs:List Zn)(n:List W)(k:W):Nat->List (List W×W)->List W->W->List (List W×W)×Rp
 | 0,kd,t,o=>(kd,repT zs o t n k)
 | f+1,kd,t,o=>match repT zs o t n k with
  | .down c _ (d::_) _=>rsA zs n k f (put kd c d) c d
  | r=>(kd,r)
noncomputable def rsf(zs:List Zn)(kd:List (List W×W))(n:List W)(k:W):List (List W×W)×Rp:=rsA zs n k n.length kd (topN kd n) (zaa kd (topN kd n))
def Goes(r:Rp)(c:List W)(d:W):Prop:=∃ h ds l,r=.down c h (d::ds) l
theorem Rp.three(r:Rp):(∃ w q,r.d=.tup (.str w::q)/\w≠za7/\(∀ c h ds l,r≠.down c h ds l))\/(∃ c h l,r=.down c h [] l)\/∃ c h d ds l,r=.down c h (d::ds) l:=by
 cases r with
 | down c h ds l =>
  cases ds with
  | nil=>exact .inr (.inl ⟨c,h,l,rfl⟩)
  | cons d ds=>exact .inr (.inr ⟨c,h,d,ds,l,rfl⟩)
 | away=>exact .inl ⟨_,_,rfl,by decide,λ_ _ _ _ z=>nomatch z⟩
 | els m l=>exact .inl ⟨_,_,rfl,by decide,λ_ _ _ _ z=>nomatch z⟩
 | rows ds l=>exact .inl ⟨_,_,rfl,by decide,λ_ _ _ _ z=>nomatch z⟩
 | non l=>exact .inl ⟨_,_,rfl,by decide,λ_ _ _ _ z=>nomatch z⟩
 | emp l=>exact .inl ⟨_,_,rfl,by decide,λ_ _ _ _ z=>nomatch z⟩
theorem Q1B(h:Goes (repT zs o t n k) c d):rsA zs n k (f+1) kd t o=rsA zs n k f (put kd c d) c d:=by
 obtain⟨hh,ds,l,e⟩:=h;show (match repT zs o t n k with | .down c _ (d::_) _=>rsA zs n k f (put kd c d) c d | r=>(kd,r))=_
 rw[e]
theorem Q1C(h:∀ c d,¬ Goes (repT zs o t n k) c d):rsA zs n k f kd t o=(kd,repT zs o t n k):=by
 cases f with
 | zero=>rfl
 | succ f =>
  show (match repT zs o t n k with | .down c _ (d::_) _=>rsA zs n k f (put kd c d) c d | r=>(kd,r))=_
  cases e:repT zs o t n k with
  | down c hh ds l =>
   cases ds with
   | nil=>rfl
   | cons d ds=>exact absurd ⟨hh,ds,l,e⟩ (h c d)
  | _=>rfl
theorem Q2r(h:(val kd []).isSome=true):topL kd n<=n.length/\∃ o,val kd (topN kd n)=some o:=by
 unfold topN topL;have h0:0∈(List.range (n.length+1)).filter λj=>(val kd (n.take j)).isSome:=ZX.mpr ⟨mem_range.mpr (succ_pos _),by rw[take_zero];exact h⟩
 cases e:((List.range (n.length+1)).filter λj=>(val kd (n.take j)).isSome).getLast? with
 | none=>rw[getLast?_eq_none_iff.mp e]at h0;cases h0
 | some j =>
  obtain⟨h1,h2⟩:=ZX.mp (mem_of_getLast? e);have:=mem_range.mp h1;exact⟨by show j<=_;room,Z3.mp h2⟩
theorem Q2O(kd:List (List W×W))(n:List W):n.take (topN kd n).length=topN kd n:=by
 unfold topN;rw[Zz,Nat.min_def];split
 ·rfl
 ·rw[take_length,ZS (by room)]
theorem Q5y{kd:List (List W×W)}{m c:List W}{d:W}(h:(val kd m).isSome=true):(val (put kd c d) m).isSome=true:=by
 rw[Q2q];split
 ·rfl
 ·exact h
end Tz
noncomputable def b_a2:CS:=by walk_at "~cje!r&1m%Tree %laid &0c!sm%Tree %laid &0&1Z320b!am%Tree %street &0&1raaaach!tm%Tree %laid &0&1a"
noncomputable def b_a8:CS:=by walk_at "~cf3dwq[0 g2b&1aeR&0m%Tree %doors &1&0P#1cf4p325p341&0bOm%Tree %doors &0&3ab&3b&1b&2acKAekd&4#0v13eCd&4#3racf3d&4#1cNm%Tree %doors &0&3dd&4#3#0cf4p325p341&0bOm%Tree %doors &0&3ab&3b&1b&2aach&4a"
noncomputable def b_aO:CS:=by walk_at "~cE%Tree %street &0&1cE%Tree %laid &0!gcE%Tree %doors &0!cla&2cE%Tree %leads &0Sa"
noncomputable def trF(a ld dd lv:Addr):List (Str×D):=[(("street" : Str),.ref a),(("laid" : Str),.ref ld),(("doors" : Str),.ref dd),(("leads" : Str),.ref lv)]
theorem Q5z(v:D)(h:(valT kvs k).isSome=false):putT kvs k v=kvs++[(k,v)]:=by
 unfold putT;rw[Q1y,h,Zd Zv]
section
variable{a ld dd lv:Addr}
theorem trF_s:List.lookup ("street" : Str) (trF a ld dd lv)=some (D.ref a):=Q1t
theorem trF_l:List.lookup ("laid" : Str) (trF a ld dd lv)=some (D.ref ld):=(Q0j (by kd_p)).trans Q1t
theorem trF_d:List.lookup ("doors" : Str) (trF a ld dd lv)=some (D.ref dd):=(Q0j (by kd_p)).trans ((Q0j (by kd_p)).trans Q1t)
theorem trF_v:List.lookup ("leads" : Str) (trF a ld dd lv)=some (D.ref lv):=(Q0j (by kd_p)).trans ((Q0j (by kd_p)).trans ((Q0j (by kd_p)).trans Q1t))
theorem Q4n{m:Str}(h1:(m == "street")=false)(h2:(m == "laid")=false)(h3:(m == "doors")=false)(h4:(m == "leads")=false):List.lookup m (trF a ld dd lv)=none:=(Q0j h1).trans ((Q0j h2).trans ((Q0j h3).trans ((Q0j h4).trans rfl)))
end
theorem HsOk.mono(h:HsOk M a zs)(s:Sub M M'):HsOk M' a zs:=by
 obtain⟨kvs,e1,e2⟩:=h;refine⟨kvs,s _ _ e1,λw=>?_⟩;rcases e2 w with q | ⟨d,q1,q2⟩
 ·exact .inl q
 ·refine .inr ⟨d,q1,?_⟩;rcases Q1v q2 with e | ⟨b,e,eb⟩
  ·rw[e];rfl
  ·rw[e];erw[zap,s _ _ eb]
theorem Q9z(e:xs.getLast? = some d)(h:Q d M):rIxD (.lst xs) (.int (-1)) M Q:=by
 show (match atI xs (-1) with | some c=>Q c M | none=>False)
 rw[My.atI_last (by intro z;subst z;cases e),<- List.getLast?_eq_getElem?,e]
 exact h
open Tz in
structure TG(M0 M:DH)(p:Addr)(zs:List Zn)(kd:List (List W×W))(kl:List (List W×Option W))(fo:List Addr)(c:Nat)(a ld dd lv:Addr)(ks:List W)(rc:W->Hr):Prop where
 ob:M p=some (.oth (.ins "Tree" (trF a ld dd lv)))
 hs:HsOk M0 a zs
 sub:Sub M0 M
 hd:M dd=some (.oth (.dct (mD kd)))
 hv:M lv=some (.oth (.dct (mL kl)))
 hl:M ld=some (.oth (.dkt (stK ks rc)))
 dl:kd.length<=c
 vl:kl.length<=c
 kn:ks.Nodup
 kv:∀ w∈ks,w∈kd.map (·.2)
 fp:M0 p=none
 fl:M0 ld=none
 fd:M0 dd=none
 fv:M0 lv=none
 nv:dd≠lv
 ff:∀ b∈fo,b≠p/\b≠ld/\b≠dd/\b≠lv/\M0 b=none/\∃ o,M b=some o
 hx:∀ w∈ks,HX M0 M (rc w).p (rc w).zd (rc w).pd (rc w).td (foW (ld::dd::lv::fo) p ks rc) (ofD zs w) 0
 ap:∀ w∈ks,∀ w'∈ks,∀ b,b∈(rc w).ad->b∈(rc w').ad->w=w'
 ne:∀ w∈ks,∀ b∈(rc w).ad,b∉p::ld::dd::lv::fo
def TX(M0 M:DH)(p:Addr)(zs:List Zn)(kd:List (List W×W))(kl:List (List W×Option W))(fo:List Addr)(c:Nat):Prop:=∃ a ld dd lv ks rc,TG M0 M p zs kd kl fo c a ld dd lv ks rc
section
open Tz
variable{M0 M M':DH}{p a ld dd lv:Addr}{zs:List Zn}{kd:List (List W×W)}{kl:List (List W×Option W)}{fo fo':List Addr}{c c':Nat}{ks:List W}{rc:W->Hr}
theorem TG.nes(t:TG M0 M p zs kd kl fo c a ld dd lv ks rc):ld≠p/\ld≠dd/\ld≠lv/\dd≠p/\lv≠p :=
 ⟨mne t.hl t.ob (λz=>nomatch z),mne t.hl t.hd (λz=>nomatch z),mne t.hl t.hv (λz=>nomatch z),mne t.hd t.ob (λz=>nomatch z),mne t.hv t.ob (λz=>nomatch z)⟩
theorem TG.all(t:TG M0 M p zs kd kl fo c a ld dd lv ks rc)(hb:b∈p::ld::dd::lv::fo):M0 b=none/\∃ o,M b=some o:=by
 erw[Z1]at hb;rcases hb with rfl | rfl | rfl | rfl | hb
 ·exact⟨t.fp,_,t.ob⟩
 ·exact⟨t.fl,_,t.hl⟩
 ·exact⟨t.fd,_,t.hd⟩
 ·exact⟨t.fv,_,t.hv⟩
 ·obtain⟨_,_,_,_,m5,m6⟩:=t.ff b hb;exact⟨m5,m6⟩
theorem fo_in(hb:b∈p::ld::dd::lv::fo):b∈foW (ld::dd::lv::fo) p ks rc:=by
 unfold foW;erw[Z1,cons_append,Z4]at hb ⊢;rcases hb with e | e | e | e | e
 ·simp[e]
 ·simp[e]
 ·simp[e]
 ·simp[e]
 ·simp[e]
theorem TG.mono(t:TG M0 M p zs kd kl fo c a ld dd lv ks rc)(s:Sub M M'):TG M0 M' p zs kd kl fo c a ld dd lv ks rc :=
 {t with
  ob:=s _ _ t.ob
  sub:=t.sub.trans s
  hd:=s _ _ t.hd
  hv:=s _ _ t.hv
  hl:=s _ _ t.hl
  ff:=λb hb=>by obtain⟨m1,m2,m3,m4,m5,u,m6⟩:=t.ff b hb;exact⟨m1,m2,m3,m4,m5,u,s _ _ m6⟩
  hx:=λw hw=>(t.hx w hw).mono s }
theorem TX.mono(t:TX M0 M p zs kd kl fo c)(s:Sub M M'):TX M0 M' p zs kd kl fo c:=by
 obtain⟨a,ld,dd,lv,ks,rc,t⟩:=t;exact⟨a,ld,dd,lv,ks,rc,t.mono s⟩
theorem TX.keep(t:TX M0 M p zs kd kl fo c)(s:Sub M M'):∀ b∈fo,M' b=M b:=λb hb=>by
 obtain⟨a,ld,dd,lv,ks,rc,t⟩:=t;obtain⟨_,_,_,_,_,u,m6⟩:=t.ff b hb;rw[m6];exact s _ _ m6
theorem TX.sub(t:TX M0 M p zs kd kl fo c):Sub M0 M:=by obtain⟨_,_,_,_,_,_,t⟩:=t;exact t.sub
theorem TX.le(t:TX M0 M p zs kd kl fo c)(h:c<=c'):TX M0 M p zs kd kl fo c':=by
 obtain⟨a,ld,dd,lv,ks,rc,t⟩:=t;exact⟨a,ld,dd,lv,ks,rc,{ t with dl:=Zr t.dl h,vl:=Zr t.vl h }⟩
theorem TX.less(t:TX M0 M p zs kd kl fo c)(s:∀ b∈fo',b∈fo):TX M0 M p zs kd kl fo' c:=by
 obtain⟨a,ld,dd,lv,ks,rc,t⟩:=t;refine⟨a,ld,dd,lv,ks,rc,{ t with ff:=λb hb=>t.ff b (s b hb),hx:=λw hw=>(t.hx w hw).less (λb hb=>?_) (foW_p hw) (foW_t hw),ne:=λw hw b hb z=>t.ne w hw b hb ?_ }⟩
 ·unfold foW at hb ⊢;erw[Z1,cons_append,Z4]at hb ⊢;rcases hb with e | e | e | e | e | e
  ·simp[e]
  ·simp[e]
  ·simp[e]
  ·simp[s b e]
  ·simp[e]
  ·exact .inr (.inr (.inr (.inr (.inr e))))
 ·erw[Z1]at z ⊢;rcases z with e | e | e | e | e
  ·simp[e]
  ·simp[e]
  ·simp[e]
  ·simp[e]
  ·simp[s b e]
theorem TX.add(t:TX M0 M p zs kd kl fo c)(hb:M b=none):TX M0 (dupd M b u) p zs kd kl (b::fo) c:=by
 obtain⟨a,ld,dd,lv,ks,rc,t⟩:=t;have s:=Sub.new (o:=u) hb;have t2:=t.mono s;refine⟨a,ld,dd,lv,ks,rc,{ t2 with ff:=λx hx=>?_,hx:=λw hw=>?_,ne:=λw hw x hx z=>?_ }⟩
 ·rcases Z1.mp hx with rfl | hx
  ·exact⟨(dne t.ob hb).symm,(dne t.hl hb).symm,(dne t.hd hb).symm,(dne t.hv hb).symm,t.sub.none hb,_,Q0c⟩
  ·exact t2.ff x hx
 ·refine ((t.hx w hw).grows (ex:=[b]) s λx hx=>?_).less (λx hx=>?_) (foW_p hw) (foW_t hw)
  ·rw[Zh.mp hx];exact⟨hb,_,Q0c⟩
  ·unfold foW at hx ⊢;erw[Z1,cons_append,Z4,nil_append]at hx ⊢;rcases hx with e | e | e | e | e | e | e
   ·simp[e]
   ·simp[e]
   ·simp[e]
   ·simp[e]
   ·simp[e]
   ·simp[e]
   ·exact .inr (.inr (.inr (.inr (.inr (.inr e)))))
 ·obtain⟨o,ho⟩:∃ o,M x=some o:=by
   rcases (t.hx w hw).kinds hx with e | ⟨_,e⟩
   ·exact⟨_,e⟩
   ·exact⟨_,e⟩
  erw[Z1]at z;rcases z with e | e | e | e | e | e
  ·exact t.ne w hw x hx (by simp[e])
  ·exact t.ne w hw x hx (by simp[e])
  ·exact t.ne w hw x hx (by simp[e])
  ·exact t.ne w hw x hx (by simp[e])
  ·exact dne ho hb e
  ·exact t.ne w hw x hx (by simp[e])
theorem TG.wr(t:TG M0 M p zs kd kl fo c a ld dd lv ks rc)(hb:b∈p::ld::dd::lv::fo):∀ w∈ks,HX M0 (dupd M b u) (rc w).p (rc w).zd (rc w).pd (rc w).td (foW (ld::dd::lv::fo) p ks rc) (ofD zs w) 0:=λw hw =>
 have ne:∀ x∈(rc w).ad,b≠x:=λx hx e=>t.ne w hw x hx (by rw[<- e];exact hb)
 (t.hx w hw).write (fo_in hb) (t.all hb).1 (ne _ (ad_p _)) (ne _ (ad_z _)) (ne _ (ad_g _)) (ne _ (ad_t _))
theorem TX.write(t:TX M0 M p zs kd kl fo c)(hb:b∈fo):TX M0 (dupd M b u) p zs kd kl fo c:=by
 obtain⟨a,ld,dd,lv,ks,rc,t⟩:=t;obtain⟨n1,n2,n3,n4,n5,_⟩:=t.ff b hb;exact⟨a,ld,dd,lv,ks,rc,{ t with
  ob:=by rw[Q0a n1.symm];exact t.ob
  sub:=t.sub.put n5
  hd:=by rw[Q0a n3.symm];exact t.hd
  hv:=by rw[Q0a n4.symm];exact t.hv
  hl:=by rw[Q0a n2.symm];exact t.hl
  ff:=λx hx=>by
   obtain⟨m1,m2,m3,m4,m5,u',m6⟩:=t.ff x hx;refine⟨m1,m2,m3,m4,m5,?_⟩;by_cases e:x=b
   ·rw[e];exact⟨_,Q0c⟩
   ·exact⟨u',by rw[Q0a e];exact m6⟩
  hx:=t.wr (by simp[hb]) }⟩
theorem TG.fo2(t:TG M0 M p zs kd kl fo c a ld dd lv ks rc)(hb:∀ x∈fo,x≠b):∀ x∈fo,x≠p/\x≠ld/\x≠dd/\x≠lv/\M0 x=none/\∃ o,dupd M b u x=some o:=λx hx=>by
 obtain⟨m1,m2,m3,m4,m5,u',m6⟩:=t.ff x hx;exact⟨m1,m2,m3,m4,m5,u',by rw[Q0a (hb x hx)];exact m6⟩
theorem TG.door(t:TG M0 M p zs kd kl fo c a ld dd lv ks rc)(hn:val kd n=none)(hl:(put kd n o).length<=c):TX M0 (dupd M dd (.oth (.dct (putD (mD kd) n (.str o))))) p zs (put kd n o) kl fo c/\∀ b∈fo,dupd M dd (.oth (.dct (putD (mD kd) n (.str o)))) b=M b:=by
 have ne:=t.nes;refine⟨⟨a,ld,dd,lv,ks,rc,{ t with
  ob:=by rw[Q0a ne.2.2.2.1.symm];exact t.ob
  sub:=t.sub.put t.fd
  hd:=by rw[Q0c,Q7E D.str]
  hv:=by rw[Q0a t.nv.symm];exact t.hv
  hl:=by rw[Q0a ne.2.1];exact t.hl
  dl:=hl
  kv:=λw hw=>by
   rw[Q4Q hn,Z9];exact ZV _ (t.kv w hw)
  ff:=t.fo2 λx hx=>(t.ff x hx).2.2.1
  hx:=λw hw=>t.wr (by simp) w hw }⟩,λb hb=>Q0a (t.ff b hb).2.2.1⟩
theorem TG.lead(t:TG M0 M p zs kd kl fo c a ld dd lv ks rc)(hl:(put kl n v).length<=c):TX M0 (dupd M lv (.oth (.dct (putD (mL kl) n (odD v))))) p zs kd (put kl n v) fo c/\∀ b∈fo,dupd M lv (.oth (.dct (putD (mL kl) n (odD v)))) b=M b:=by
 have ne:=t.nes;refine⟨⟨a,ld,dd,lv,ks,rc,{ t with
  ob:=by rw[Q0a ne.2.2.2.2.symm];exact t.ob
  sub:=t.sub.put t.fv
  hd:=by rw[Q0a t.nv];exact t.hd
  hv:=by rw[Q0c,Q7E odD]
  hl:=by rw[Q0a ne.2.2.1];exact t.hl
  vl:=hl
  ff:=t.fo2 λx hx=>(t.ff x hx).2.2.2.1
  hx:=λw hw=>t.wr (by simp) w hw }⟩,λb hb=>Q0a (t.ff b hb).2.2.2.1⟩
theorem TG.said(t:TG M0 M p zs kd kl fo c a ld dd lv ks rc)(ho:o∈ks)(H:HX M0 M' (rc o).p (rc o).zd (rc o).pd (rc o).td (foW (ld::dd::lv::fo) p ks rc) (ofD zs o) 0)(s:HSub (rc o).pd (rc o).td M M'):TG M0 M' p zs kd kl fo c a ld dd lv ks rc/\∀ b∈fo,M' b=M b:=by
 have kp:∀ b∈p::ld::dd::lv::fo,∀ u,M b=some u->M' b=some u:=λb hb u e=>s b u (λz=>t.ne o ho _ (ad_g _) (by rw[<- z];exact hb)) (λz=>t.ne o ho _ (ad_t _) (by rw[<- z];exact hb)) e
 obtain⟨kp2,p2,_⟩:=H.hp;obtain⟨kt2,t2,_⟩:=H.ht;refine⟨{ t with
  ob:=kp p (by simp) _ t.ob
  sub:=H.sub
  hd:=kp dd (by simp) _ t.hd
  hv:=kp lv (by simp) _ t.hv
  hl:=kp ld (by simp) _ t.hl
  ff:=λx hx=>by
   obtain⟨m1,m2,m3,m4,m5,u',m6⟩:=t.ff x hx;exact⟨m1,m2,m3,m4,m5,u',kp x (by simp[hx]) _ m6⟩
  hx:=λw hw=>?_ },λb hb=>?_⟩
 ·by_cases e:w=o
  ·rw[e];exact H
  ·exact (HX.side (ex:=[]) (t.hx w hw) s H.sub (foW_p ho) (foW_t ho) (λb hb=>⟨λz=>e (t.ap w hw o ho b hb (by rw[z];exact ad_g _)),λz=>e (t.ap w hw o ho b hb (by rw[z];exact ad_t _))⟩) (λb hb=>nomatch hb) ⟨_,p2⟩ ⟨_,t2⟩).le (Zq 0)
 ·obtain⟨_,_,_,_,_,u',m6⟩:=t.ff b hb;rw[kp b (by simp[hb]) _ m6,m6]
end
section
open Tz
theorem HX.wide(X:HX M0 M x zd pd td fo zs 0)(h0:M pd=some (.oth (.dct [])))(h1:pd∈fo')(h2:td∈fo')(hf:∀ b∈fo',∃ o,M b=some o):HX M0 M x zd pd td fo' zs 0 :=
 {X with
  fp:=h1
  ft:=h2
  fi:=hf
  hp:=by
   obtain⟨kp,e1,e2,e3⟩:=X.hp;rw[h0]at e1;cases e1;exact⟨[],h0,e2,λn v e=>nomatch e⟩ }
theorem TG.lay{M0 M M':DH}{p a ld dd lv:Addr}{zs:List Zn}{kd:List (List W×W)}{kl:List (List W×Option W)}{fo:List Addr}{c:Nat}{ks:List W}{rc:W->Hr}{o:W}{x zd pd td:Addr}(t:TG M0 M p zs kd kl fo c a ld dd lv ks rc)(ho:o∉ks)(hov:o∈kd.map (·.2))(hx:M x=none)(h0:M' pd=some (.oth (.dct [])))(X:∀ M0,Sub M0 (dupd M x (.oth (.ins "House" [])))->M0 x=none->HX M0 M' x zd pd td [pd,td] (ofD zs o) 0) :
  ∃ rc',(rc' o).p=x/\TG M0 (dupd M' ld (.oth (.dkt (stK (ks++[o]) rc')))) p zs kd kl fo c a ld dd lv (ks++[o]) rc'/\(∀ w∈ks,rc' w=rc w)/\(∀ b∈fo,dupd M' ld (.oth (.dkt (stK (ks++[o]) rc'))) b=M b)/\Sub M M':=by
 have X1:=X M (Sub.new hx) hx;have X0:=X M0 (t.sub.trans (Sub.new hx)) (t.sub.none hx);have sb:=X1.sub;have t1:=t.mono sb;have ne:=t.nes;have fx:∀ b∈(Hr.mk x zd pd td).ad,M b=none:=λb hb=>by
  erw[Hr.ad,Z1,ZA,Y1]at hb;rcases hb with rfl | rfl | rfl | rfl
  ·exact hx
  ·exact X1.f0
  ·exact X1.f1
  ·exact X1.f2
 have lx:∀ b∈(Hr.mk x zd pd td).ad,∃ u,M' b=some u:=λb hb=>by
  rcases X1.kinds (h:=⟨x,zd,pd,td⟩) hb with e | ⟨_,e⟩
  ·exact⟨_,e⟩
  ·exact⟨_,e⟩
 have rk:∀ w∈ks,(λw=>if w=o then Hr.mk x zd pd td else rc w) w=rc w:=λw hw=>Zd λz=>ho (by rw[<- z];exact hw)
 have ro:(λw=>if w=o then Hr.mk x zd pd td else rc w) o=Hr.mk x zd pd td:=Zg rfl
 generalize (λw=>if w=o then Hr.mk x zd pd td else rc w)=rc' at rk ro
 have fm:∀ b,b∈foW (ld::dd::lv::fo) p (ks++[o]) rc' <-> b∈[pd,td]++foW (ld::dd::lv::fo) p ks rc:=λb=>by
  unfold foW;have e1:(ks++[o]).flatMap (λw=>[(rc' w).pd,(rc' w).td])=ks.flatMap (λw=>[(rc w).pd,(rc w).td])++[pd,td]:=by
   rw[List.flatMap_append,List.flatMap_singleton,ro];congr 1;have:∀ l:List W,(∀ w∈l,rc' w=rc w)->l.flatMap (λw=>[(rc' w).pd,(rc' w).td])=l.flatMap (λw=>[(rc w).pd,(rc w).td]):=λl=>by
    induction l with
    | nil=>exact λ_=>rfl
    | cons w l ih =>
     intro h;rw[flatMap_cons,flatMap_cons,h w Zp,ih λw hw=>h w (Zo _ hw)]
   exact this ks rk
  rw[e1];erw[Z4,Z1,ZA,Y1];constructor
  ·rintro (h | h | h | h)
   ·exact .inr (.inl h)
   ·exact .inr (.inr (.inl h))
   ·exact .inr (.inr (.inr h))
   ·exact .inl h
  ·rintro (h | h | h | h)
   ·exact .inr (.inr (.inr h))
   ·exact .inl h
   ·exact .inr (.inl h)
   ·exact .inr (.inr (.inl h))
 have ms:∀ {w},w∈ks++[o]->w∈ks\/w=o:=λh=>(Z4.mp h).imp id Zh.mp;have old:∀ w∈ks,∀ b∈(rc w).ad,∃ u,M b=some u:=λw hw b hb=>by
  rcases (t.hx w hw).kinds hb with e | ⟨_,e⟩
  ·exact⟨_,e⟩
  ·exact⟨_,e⟩
 have nw:∀ b∈(Hr.mk x zd pd td).ad,b∉p::ld::dd::lv::fo:=λb hb z=>by
  obtain⟨_,u,e⟩:=t.all z;exact dne e (fx b hb) rfl
 have hxs:∀ w∈ks++[o],HX M0 M' (rc' w).p (rc' w).zd (rc' w).pd (rc' w).td (foW (ld::dd::lv::fo) p (ks++[o]) rc') (ofD zs w) 0:=λw hw=>by
  rcases ms hw with h | h
  ·rw[rk w h];have g:=(t.hx w h).grows (ex:=[pd,td]) sb λb hb=>?_
   ·exact g.less (λb hb=>(fm b).mp hb) ((fm _).mpr (Zy _ (foW_p h))) ((fm _).mpr (Zy _ (foW_t h)))
   ·have hb':b∈(Hr.mk x zd pd td).ad:=by
     erw[Z1,ZA,Y1]at hb;rcases hb with rfl | rfl
     ·exact ad_g _
     ·exact ad_t _
    exact⟨fx b hb',lx b hb'⟩
  ·rw[h,ro];refine X0.wide h0 ((fm _).mpr (by simp)) ((fm _).mpr (by simp)) λb hb=>?_
   rcases Z4.mp ((fm b).mp hb) with q | q
   ·erw[Z1,ZA,Y1]at q;rcases q with rfl | rfl
    ·exact lx _ (ad_g _)
    ·exact lx _ (ad_t _)
   ·unfold foW at q;rcases Z4.mp q with q | q
    ·obtain⟨_,u,e⟩:=t.all (b:=b) (Zo _ q);exact⟨u,sb _ _ e⟩
    ·rcases Z1.mp q with rfl | q
     ·exact⟨_,sb _ _ t.ob⟩
     ·obtain⟨w',hw',e⟩:=mem_flatMap.mp q;erw[Z1,ZA,Y1]at e;rcases e with rfl | rfl
      ·obtain⟨u,e⟩:=old w' hw' _ (ad_g _);exact⟨u,sb _ _ e⟩
      ·obtain⟨u,e⟩:=old w' hw' _ (ad_t _);exact⟨u,sb _ _ e⟩
 have nes:∀ w∈ks++[o],∀ b∈(rc' w).ad,b∉p::ld::dd::lv::fo:=λw hw=>by
  rcases ms hw with h | h
  ·rw[rk w h];exact t.ne w h
  ·rw[h,ro];exact nw
 have ap:∀ w∈ks++[o],∀ w'∈ks++[o],∀ b,b∈(rc' w).ad->b∈(rc' w').ad->w=w':=λw hw w' hw' b h1 h2=>by
  rcases ms hw with h | h <;> rcases ms hw' with h' | h'
  ·rw[rk w h]at h1;rw[rk w' h']at h2;exact t.ap w h w' h' b h1 h2
  ·rw[rk w h]at h1;rw[h',ro]at h2;obtain⟨u,e⟩:=old w h b h1;rw[fx b h2]at e;cases e
  ·rw[h,ro]at h1;rw[rk w' h']at h2;obtain⟨u,e⟩:=old w' h' b h2;rw[fx b h1]at e;cases e
  ·rw[h,h']
 refine⟨rc',by rw[ro],{ t with
  ob:=by rw[Q0a ne.1.symm];exact t1.ob
  sub:=t1.sub.put t.fl
  hd:=by rw[Q0a ne.2.1.symm];exact t1.hd
  hv:=by rw[Q0a ne.2.2.1.symm];exact t1.hv
  hl:=Q0c
  kn:=by
   rw[nodup_append];exact⟨t.kn,Yx _ _,λa ha b hb z=>ho (by rw[<- Zh.mp hb,<- z];exact ha)⟩
  kv:=λw hw=>by
   rcases ms hw with h | h
   ·exact t.kv w h
   ·rw[h];exact hov
  ff:=t1.fo2 λx hx=>(t.ff x hx).2.1
  hx:=λw hw=>?_
  ap:=ap
  ne:=nes },rk,λb hb=>?_,sb⟩
 ·have nn:∀ x∈(rc' w).ad,ld≠x:=λx hx e=>nes w hw x hx (by simp[<- e])
  exact ((hxs w hw).write (fo_in (by simp)) t.fl (nn _ (ad_p _)) (nn _ (ad_z _)) (nn _ (ad_g _)) (nn _ (ad_t _)))
 ·obtain⟨_,m2,_,_,_,u,m6⟩:=t.ff b hb;rw[Q0a m2,m6];exact sb _ _ m6
end
open Tz in
def sp_aO:DSp:=λds M R=>∃ (p a:Addr) (zs:List Zn) (o:W),ds=[.ref p,.ref a,.str o]/\M p=some (.oth (.ins "Tree" []))/\HsOk M a zs /\
 ∀ M',(∀ M0,Sub M0 M->M0 p=none->HsOk M0 a zs->TX M0 M' p zs [([],o)] [] [] 1)->R .non M'
theorem none_of{M M':DH}{p b:Addr}(k:∀ b u,b≠p->M b=some u->M' b=some u)(n:b≠p)(h:M' b=none):M b=none:=by
 cases e:M b with
 | none=>rfl
 | some u=>rw[k b u n e]at h;cases h
theorem ok_aO{T:Tab}:OkF T b_aO sp_aO ["","",""]:=by
 rintro ds M R ⟨p,a,zs,o,rfl,hp,hs,h⟩;erw[b_aO];walk_at "q0";refine⟨p,[],rfl,hp,by decide,?_⟩
 have g1:dupd M p (.oth (.ins "Tree" (zaC "street" (.ref a) []))) p=some (.oth (.ins "Tree" [(("street" : Str),.ref a)])):=Q0c;have k1_:∀ b u,b≠p->M b=some u->dupd M p (.oth (.ins "Tree" (zaC "street" (.ref a) []))) b=some u:=λb u n e=>by rw[Q0a n];exact e
 generalize dupd M p (.oth (.ins "Tree" (zaC "street" (.ref a) [])))=M1 at g1 k1_;walk_at "q2";intro ld hld;have n1:p≠ld:=dne g1 hld;have f1:M ld=none:=none_of k1_ n1.symm hld;refine⟨p,_,rfl,by rw[Q0a n1];exact g1,by simp,?_⟩
 rw[Q0r (by show ("laid" : Str)∉[("street" : Str)];decide +kernel)]
 obtain⟨M2,eM2⟩:∃ M2:DH,M2=dupd (dupd M1 ld (.oth (.dkt []))) p (.oth (.ins "Tree" ([(("street" : Str),.ref a)]++[(("laid" : Str),.ref ld)]))):=⟨_,rfl⟩;have g2:M2 p=some (.oth (.ins "Tree" [(("street" : Str),.ref a),(("laid" : Str),.ref ld)])):=by rw[eM2];exact Q0c
 have l2:M2 ld=some (.oth (.dkt [])):=by rw[eM2,Q0a n1.symm,Q0c]
 have k2_:∀ b u,b≠p->M b=some u->M2 b=some u:=λb u n e=>by rw[eM2,Q0a n,Q0a (dne e f1)];exact k1_ b u n e
 rw[<- eM2];clear eM2 g1 k1_ hld;walk_at "q2";intro dd hdd;have n2:p≠dd:=dne g2 hdd;have f2:M dd=none:=none_of k2_ n2.symm hdd;have n3:ld≠dd:=dne l2 hdd;refine⟨ZI _,[],rfl,Q0c,p,_,rfl,by rw[Q0a n2,Q0a n2];exact g2,by simp,?_⟩
 rw[Q0X,Q0r (by show ("doors" : Str)∉[("street" : Str),"laid"];decide +kernel)]
 obtain⟨M3,eM3⟩:∃ M3:DH,M3=dupd (dupd M2 dd (.oth (.dct [([],.str o)]))) p (.oth (.ins "Tree" ([(("street" : Str),.ref a),(("laid" : Str),.ref ld)]++[(("doors" : Str),.ref dd)]))):=⟨_,rfl⟩;have g3:M3 p=some (.oth (.ins "Tree" [(("street" : Str),.ref a),(("laid" : Str),.ref ld),(("doors" : Str),.ref dd)])):=by rw[eM3];exact Q0c
 have l3:M3 ld=some (.oth (.dkt [])):=by rw[eM3,Q0a n1.symm,Q0a n3];exact l2
 have d3:M3 dd=some (.oth (.dct [([],.str o)])):=by rw[eM3,Q0a n2.symm,Q0c]
 have k3_:∀ b u,b≠p->M b=some u->M3 b=some u:=λb u n e=>by rw[eM3,Q0a n,Q0a (dne e f2)];exact k2_ b u n e
 rw[<- eM3];clear eM3 g2 k2_ hdd l2;rw[e1];clear e1;w_up;intro lv hlv;have n4:p≠lv:=dne g3 hlv;have f3:M lv=none:=none_of k3_ n4.symm hlv;refine⟨p,_,rfl,by rw[Q0a n4];exact g3,by simp,?_⟩
 rw[Q0r (by show ("leads" : Str)∉[("street" : Str),"laid","doors"];decide +kernel)]
 refine Q0f (h _ λM0 s0 fp hs0=>⟨a,ld,dd,lv,[],λ_=>⟨p,p,p,p⟩,⟨Q0c,hs0,λb u hb=>?_,?_,?_,?_,Zq 1,ZI 1,nodup_nil,(λw hw=>nomatch hw),fp,s0.none f1,s0.none f2,s0.none f3,dne d3 hlv,(λb hb=>nomatch hb),(λw hw=>nomatch hw),(λw hw=>nomatch hw),(λw hw=>nomatch hw)⟩⟩)
 ·have e:=s0 b u hb;have np:b≠p:=dne hb fp;rw[Q0a np,Q0a (dne e f3)];exact k3_ b u np e
 ·rw[Q0a n2.symm,Q0a (dne d3 hlv)];exact d3
 ·rw[Q0a n4.symm,Q0c];rfl
 ·rw[Q0a n1.symm,Q0a (dne l3 hlv)];exact l3
open Tz in
def sp_a2:DSp:=λds M R=>∃ (M0:DH) (p:Addr) (zs:List Zn) (kd:List (List W×W)) (kl:List (List W×Option W)) (fo:List Addr) (c:Nat) (o:W),ds=[.ref p,.str o]/\TX M0 M p zs kd kl fo c/\ZsOk zs/\c<=15000000/\o∈kd.map (·.2) /\
 ∀ M' a ld dd lv ks rc,TG M0 M' p zs kd kl fo c a ld dd lv ks rc->o∈ks->(∀ b∈fo,M' b=M b)->R (.ref (rc o).p) M'
theorem ok_a2(T:Tab)(h320:T.ini 320=some ⟨"House","__init__",1,sp_ap⟩):OkF T b_a2 sp_a2 ["",""]:=by
 rintro ds M R ⟨M0,p,zs,kd,kl,fo,c,o,rfl,⟨a,ld,dd,lv,ks,rc,t⟩,hz,hc,hov,k⟩;erw[b_a2];refine Q0b λk1 e1=>?_;have fin:∀ M' ks rc,TG M0 M' p zs kd kl fo c a ld dd lv ks rc->o∈ks->(∀ b∈fo,M' b=M b)->k1 [some (.ref p),some (.str o)] M':=by
  intro M' ks rc t' ho fr;rw[e1];w_up;exact⟨p,_,_,rfl,t'.ob,trF_l,o,ld,_,.ref (rc o).p,rfl,rfl,t'.hl,by rw[Q3y,Zg ho],Q0f (k M' a ld dd lv ks rc t' ho fr)⟩
 w_up;refine⟨p,_,_,rfl,t.ob,trF_l,o,ld,_,rfl,rfl,t.hl,?_⟩;rw[Q3y];by_cases ho:o∈ks
 ·rw[Zg ho];exact iteF (fin M ks rc t ho λ_ _=>rfl)
 ·rw[Zd ho];refine iteT ?_;erw[h320];w_up;obtain⟨kvs,s1,s2⟩:=t.hs;have s1':=t.sub _ _ s1;refine⟨p,_,_,rfl,t.ob,trF_s,a,kvs,rfl,s1',ZI _,o,kvs,rfl,s1',λx hx=>?_⟩;have hdl:zap (dupd M x (.oth (.ins "House" []))) ((valT kvs o).getD (.lst []))=some ((ofD zs o).map Zn.v):=by
   rcases s2 o with ⟨q1,q2⟩ | ⟨d,q1,q2⟩
   ·rw[q1,q2];rfl
   ·rw[q1];show zap _ d=_;rcases Q1v q2 with e | ⟨b,e,eb⟩
    ·rw[e];rfl
    ·rw[e];erw[zap,Sub.new hx _ _ (t.sub _ _ eb)]
  refine⟨x,_,ofD zs o,rfl,Q0c,hdl,Zr (hz.len o) (by decide),hz.nd o,λM' zd pd td h0 hX=>⟨rfl,?_⟩⟩
  obtain⟨rc',hp,t2,hk,fr,sb⟩:=t.lay ho hov hx h0 hX;have en:putT (stK ks rc) o (.ref x)=stK (ks++[o]) rc':=by
   rw[Q5z _ (by rw[Q3y,Zd ho];rfl)]
   unfold stK;rw[Z9];congr 1
   ·exact map_congr_left λw hw=>by rw[hk w hw]
   ·show [(o,D.ref x)]=[(o,.ref (rc' o).p)];rw[hp]
  refine⟨p,_,_,rfl,sb _ _ t.ob,trF_l,ld,o,_,rfl,rfl,sb _ _ t.hl,smallM (by
   unfold stK;rw[Zb];have h1:=t.kn.length_le_of_subset (l₂:=kd.map (·.2)) λw hw=>t.kv w hw;rw[Zb]at h1;have:=t.dl;room),?_⟩
  rw[en];exact fin _ _ _ t2 (Zy _ (Zh.mpr rfl)) fr
open Tz in
def sp_a8:DSp:=λds M R=>∃ (M0:DH) (p:Addr) (zs:List Zn) (kd:List (List W×W)) (kl:List (List W×Option W)) (fo:List Addr) (c:Nat) (n:List W) (k:W),ds=[.ref p,dn n,.str k]/\TX M0 M p zs kd kl fo c/\ZsOk zs/\c<=15000000/\(rsf zs kd n k).1.length<=c/\¬ IsN k/\n.length<=30/\(val kd []).isSome=true /\
 ∀ M',TX M0 M' p zs (rsf zs kd n k).1 kl fo c->(∀ b∈fo,M' b=M b)->R (rsf zs kd n k).2.d M'
section
open Tz
theorem Q4R{kd:List (List W×W)}{n:List W}{o:W}(h:val kd n=some o):o∈kd.map (·.2):=by
 obtain⟨p,hp,e⟩:=Zu.mp h;exact ZJ.mpr ⟨p,mem_of_find?_eq_some hp,e⟩
theorem Q1X{α:Type}{kvs:List (List W×α)}{k:List W}{v:α}:kvs.length<=(put kvs k v).length:=by
 unfold put;split
 ·rw[Zb];exact Zq _
 ·rw[Zl];exact le_succ _
theorem Q2g{zs:List Zn}{n:List W}{k:W}:∀ {f:Nat} {kd:List (List W×W)} {t:List W} {o:W},kd.length<=(rsA zs n k f kd t o).1.length
 | 0,_,_,_=>Zq _
 | f+1,kd,t,o=>by
  by_cases g:∃ c d,Goes (repT zs o t n k) c d
  ·obtain⟨c,d,g⟩:=g;rw[Q1B g];exact Zr Q1X Q2g
  ·rw[Q1C λc d z=>g ⟨c,d,z⟩];exact Zq _
theorem Q7H(h:(val kd []).isSome=true):∀ j,j<=n.length->(topN kd n).length<j->val kd (n.take j)=none:=λj hj lt=>by
 have h0:0∈(List.range (n.length+1)).filter λj=>(val kd (n.take j)).isSome:=ZX.mpr ⟨mem_range.mpr (succ_pos _),by rw[take_zero];exact h⟩
 cases ev:val kd (n.take j) with
 | none=>rfl
 | some o =>
  exfalso
  have hl:(topN kd n).length=topL kd n:=by
   unfold topN;rw[Zz];have:=(Q2r (n:=n) h).1;room
  rw[hl]at lt;have mem:j∈(List.range (n.length+1)).filter λj=>(val kd (n.take j)).isSome:=ZX.mpr ⟨mem_range.mpr (by room),by rw[ev];rfl⟩
  unfold topL at lt;cases e:((List.range (n.length+1)).filter λj=>(val kd (n.take j)).isSome).getLast? with
  | none=>rw[getLast?_eq_none_iff.mp e]at h0;cases h0
  | some i =>
   rw[e]at lt;have srt:((List.range (n.length+1)).filter λj=>(val kd (n.take j)).isSome).Pairwise (· < ·):=List.Pairwise.sublist List.filter_sublist List.pairwise_lt_range;obtain⟨ys,ey⟩:=List.getLast?_eq_some_iff.mp e;rw[ey]at srt mem;have lt':i<j:=lt;rcases Z4.mp mem with m | m
   ·have:=(pairwise_append.mp srt).2.2 j m i (Zh.mpr rfl);room
   ·have e9:=Zh.mp m;room
theorem Q9A(h:(val kd []).isSome=true):(((List.range (n.length+1)).filter λj=>(val kd (n.take j)).isSome).map λj=>dn (n.take j)).getLast? = some (dn (topN kd n)):=by
 unfold topN topL;rw[List.getLast?_map];have h0:0∈(List.range (n.length+1)).filter λj=>(val kd (n.take j)).isSome:=ZX.mpr ⟨mem_range.mpr (succ_pos _),by rw[take_zero];exact h⟩
 cases e:((List.range (n.length+1)).filter λj=>(val kd (n.take j)).isSome).getLast? with
 | none=>rw[getLast?_eq_none_iff.mp e]at h0;cases h0
 | some j=>rfl
theorem Q5A{T:Tab}(h325:T.mt 325=some ⟨"House","reply",3,sp_a5⟩)(h341:T.mt 341=some ⟨"Tree","house",1,sp_a2⟩){M0 M:DH}{p:Addr}{zs:List Zn}{kd:List (List W×W)}{kl:List (List W×Option W)}{fo:List Addr}{c:Nat}{n t:List W}{k o:W}{Q:DK}(tx:TX M0 M p zs kd kl fo c)(hz:ZsOk zs)(hc:c<=15000000)(hov:o∈kd.map (·.2))(hk:¬ IsN k)(hn:n.length<=30)(ht:n.take t.length=t)
  (h:∀ M',TX M0 M' p zs kd kl fo c->(∀ b∈fo,M' b=M b)->Q (repT zs o t n k).d M'):sp_a2 [.ref p,.str o] M λd M1=>∃ a fs,d=.ref a/\M1 a=some (.oth (.ins "House" fs))/\List.lookup ("reply" : Str) fs=none/\sp_a5 [.ref a,dn t,dn n,.str k] M1 Q:=by
 refine⟨M0,p,zs,kd,kl,fo,c,o,rfl,tx,hz,hc,hov,λM2 a2 ld2 dd2 lv2 ks rc tg ho fr2=>?_⟩;have H:=tg.hx o ho;refine⟨(rc o).p,_,rfl,H.ob,Q7C,M0,(rc o).p,_,_,_,_,ofD zs o,0,some t,n,k,rfl,H,hz.of o,by room,hk,by room,λa ha=>by cases ha;exact ht,λM3 hx3 s3=>?_⟩
 obtain⟨t3,fr3⟩:=tg.said ho hx3 s3;rw[<- Q7G hz.ok];exact h M3 ⟨_,_,_,_,_,_,t3⟩ λb hb=>(fr3 b hb).trans (fr2 b hb)
end
open Tz in
theorem ok_a8(T:Tab)(h325:T.mt 325=some ⟨"House","reply",3,sp_a5⟩)(h341:T.mt 341=some ⟨"Tree","house",1,sp_a2⟩)(h2:T.fn 2=some ⟨"above",1,[],sp_a1⟩)(h13:T.con 13=some (("DOWN" : Str),D.str [100,111,119,110])) :
  OkF T b_a8 sp_a8 ["","","","",""]:=by
 rintro ds M R ⟨M0,p,zs,kd,kl,fo,c,n,k,rfl,t,hz,hc,hcl,hk,hn,d0,h⟩;erw[b_a8];walk_at "q0";erw[h2];w_up;refine⟨n,rfl,by room,λq hq=>?_⟩
 erw[Q0c];have sb:=Sub.new (o:=.lst (zaf n)) hq;have t1:=t.mono sb;have kp:=t.keep sb;obtain⟨a,ld,dd,lv,ks,rc,tp⟩:=id t1;refine Q0H (xs:=List.range (n.length+1)) (f:=λj=>dn (n.take j)) (λj=>(val kd (n.take j)).isSome) (by exact Q0c) (by rw[Yl];room) (λi _ P N hP hN=>?_) ?_
 ·w_up;refine⟨p,_,_,rfl,tp.ob,trF_d,n.take i,dd,_,rfl,rfl,tp.hd,?_⟩;rw[Q1m];cases ev:val kd (n.take i) with
  | none=>exact hN (by rw[ev];rfl)
  | some o=>exact hP (by rw[ev];rfl)
 obtain⟨ys,hy⟩:∃ ys,ys=((List.range (n.length+1)).filter λj=>(val kd (n.take j)).isSome).map λj=>dn (n.take j):=⟨_,rfl⟩;rw[<- hy];have yl:ys.length<=31:=by
  rw[hy,Zb];exact Zr (Yc ..) (by rw[Yl];room)
 refine⟨szL (by room),Q9z (d:=dn (topN kd n)) (by rw[hy];exact Q9A d0) ?_⟩
 generalize dupd M q (.lst (zaf n))=M1 at *;obtain⟨_,o,ho⟩:=Q2r (n:=n) d0;have ed:zaa kd (topN kd n)=o:=by unfold zaa;rw[ho];rfl
 walk_at "q2";erw[h341,h325];w_up;refine⟨p,_,rfl,tp.ob,Q4n (by kd_p) (by kd_p) (by kd_p) (by kd_p),p,_,_,rfl,tp.ob,trF_d,topN kd n,dd,_,.str o,rfl,rfl,tp.hd,by rw[Q1m,ho];rfl,?_⟩
 refine Q5A h325 h341 (k:=k) t1 hz hc (Q4R ho) hk hn (Q2O kd n) λM3 t3 fr3=>?_;clear tp hy yl;walk_at "q4";show zaw _ _ _ _ _;refine Q1b (λf ρ M'=>∃ (kd':List (List W×W)) (tt:List W) (oo:W),ρ=[some (.ref p),some (dn n),some (.str k),some (dn tt),some (repT zs oo tt n k).d]/\(∀ b∈fo,M' b=M b)/\TX M0 M' p zs kd' kl fo c/\n.take tt.length=tt/\n.length<=tt.length+f/\(∀ j,j<=n.length->tt.length<j->val kd' (n.take j)=none)/\rsA zs n k f kd' tt oo=rsf zs kd n k)
  ⟨n.length,kd,topN kd n,o,rfl,λb hb=>(fr3 b hb).trans (kp b hb),t3,Q2O kd n,by room,Q7H d0,by unfold rsf;rw[ed]⟩ ?_
 rintro f ρ M' ⟨kd',tt,oo,rfl,fr,t4,tk,fl,pa,er⟩ TB eTB
 -- the loop's end
 have fin:(∀ c d,¬ Goes (repT zs oo tt n k) c d)->k1 [some (.ref p),some (dn n),some (.str k),some (dn tt),some (repT zs oo tt n k).d] M':=λhs=>by
  rw[Q1C hs]at er;rw[<- er]at h;rw[e1];w_up;exact Q0f (h M' t4 fr)
 w_up;erw[h13];w_up;rcases Rp.three (repT zs oo tt n k) with ⟨w,q,e,hw,nd⟩ | ⟨cc1,hh,l,e⟩ | ⟨cc1,hh,d,ds,l,e⟩
 ·have f:=fin λc d ⟨h,ds,l,z⟩=>nd c h (d::ds) l z;rw[e]at f ⊢;refine ix_t atI_0 ?_
  try w_up
  exact⟨rfl,rfl,ite2 (λz=>absurd (Z2 z) hw) λ_=>f⟩
 ·have f:=fin λc d ⟨h,ds,l,z⟩=>by rw[e]at z;cases z
  rw[e]at f ⊢;erw[Rp.d]at f ⊢;refine ix_t rfl ?_
  try w_up
  refine⟨rfl,rfl,ite2 (λ_=>?_) λ_=>f⟩;refine ix_t rfl ?_
  try w_up
  refine⟨ZI _,rfl,rfl,ite2 (λz=>?_) λ_=>f⟩;have z':(!eqB (D.lst []) (.lst []))=true:=z;rw[Q0s]at z';cases z'
 ·clear fin;obtain⟨cl,ct⟩:=Q9y e;rw[e];erw[Rp.d];refine ix_t rfl ?_
  try w_up
  refine⟨rfl,rfl,ite2 (λ_=>?_) λz=>absurd rfl z⟩;refine ix_t rfl ?_
  try w_up
  have pv:plain 12 (.lst (.str d::ds.map D.str))=true:=by
   show ((D.str d::ds.map D.str).all (plain 11))=true;rw[Ym,ZR.mpr λx hx=>by obtain⟨w,_,rfl⟩:=ZJ.mp hx;rfl]
   rfl
  have ene:eqB (D.lst (.str d::ds.map D.str)) (.lst [])=false:=(Q0I _ _).mpr λz=>by injection z with z;cases z
  refine⟨ZI _,pv,rfl,ite2 (λ_=>?_) λz=>?_⟩;rotate_left
  ·have z':¬ (!eqB (D.lst (.str d::ds.map D.str)) (.lst []))=true:=z;rw[ene]at z';exact absurd rfl z'
  cases f with
  | zero =>
   exfalso
   have:=congrArg List.length ct;rw[Zz]at this;room
  | succ f =>
  rw[Q1B ⟨hh,ds,l,e⟩]at er;have lc:cc1.length<=n.length:=by have:=congrArg List.length ct;rw[Zz]at this;room
  have vn:val kd' cc1=none:=by have:=pa cc1.length lc cl;rwa [ct]at this
  have pl:(put kd' cc1 d).length<=c:=Zr (Zr Q2g (by rw[er];exact Zq _)) hcl
  refine⟨λρ' M''=>ρ'=[some (.ref p),some (dn n),some (.str k),some (dn cc1),some (repT zs d cc1 n k).d]/\(∀ b∈fo,M'' b=M b)/\TX M0 M'' p zs (put kd' cc1 d) kl fo c,λρ' M'' z=>⟨f,lt_succ_self f,put kd' cc1 d,cc1,d,z.1,z.2.1,z.2.2,ct,by room,λj hj lt=>by
   rw[Q2q,Zd λz=>by have:=congrArg List.length z;rw[Zz]at this;room]
   exact pa j hj (by room),er⟩,?_⟩
  rw[eTB];clear eTB e1;show evS T (.seq _ _) _ _ _;refine Q0b λk2 e2=>?_;walk_at "q3";rw[e2];clear e2;refine Q0b λk2 e2=>?_;obtain⟨a,ld,dd,lv,ks,rc,tp⟩:=id t4;walk_at "q3";refine ix_l atI_0 ?_;refine⟨p,_,_,rfl,tp.ob,trF_d,dd,cc1,_,rfl,rfl,tp.hd,smallM (by rw[Zb];have:=tp.dl;room),?_⟩
  obtain⟨t5,f5⟩:=tp.door (n:=cc1) (o:=d) vn pl;generalize dupd M' dd (.oth (.dct (putD (mD kd') cc1 (.str d))))=M5 at t5 f5;clear tp t4;rw[e2];clear e2;obtain⟨a,ld,dd,lv,ks,rc,tp⟩:=id t5;w_up;erw[h341,h325];w_up;refine⟨p,_,rfl,tp.ob,Q4n (by kd_p) (by kd_p) (by kd_p) (by kd_p),p,_,_,rfl,tp.ob,trF_d,cc1,dd,_,.str d,rfl,rfl,tp.hd,by rw[Q1m,Q2q,Zg rfl];rfl,?_⟩
  exact Q5A h325 h341 t5 hz hc (Q4R (n:=cc1) (by rw[Q2q,Zg rfl])) hk hn ct λM7 t7 f7=>⟨rfl,λb hb=>(f7 b hb).trans ((f5 b hb).trans (fr b hb)),t7⟩
noncomputable def b_ac:CS:=by walk_at "~cf3oDcKeU&3oDcf4G!h&1acNm%Tree %leads &0d&4#1&2cf3d&4#0acNm%Tree %doors &0&3&2a"
noncomputable def b_a4:CS:=by walk_at "~ctGJ&1blb&2b&3aacjeT&3m%Tree %leads &0cNm%Tree %leads &0&3oDchouHaacjeUOm%Tree %leads &0&3oDchouqaactp347&0b&1bOm%Tree %leads &0&3achouHa"
noncomputable def b_au:CS:=by walk_at "~cf2p343&0bdd&1P#1#1bv14acjekd&2#0v15ctp347&0b&1bdd&2#1#0achouHaacjekd&2#0v12chp346&0b&1boDbd&2#1aaacjekd&2#0v13chp346&0b&1bd&2#1bd&2#2aaachouqa"
noncomputable def b_aE:CS:=by walk_at "~cf3Bacf4p346&0b&3b&1b&2acKA&4eC&3racf4p345&0b&3aacheR&1m%Tree %doors &0a"
noncomputable def b_aB:CS:=by walk_at "~cf3p343&0b&1b&2acKAekd&3#0v13p344&0bd&3#1bd&3#2acf3p343&0b&1b&2aach&3a"
namespace Tz
noncomputable abbrev Ch:=List (Option (List W)×List W)
noncomputable def stD(s:Option (List W)×List W):D:=.tup [onm s.1,dn s.2]
noncomputable def chD(s:Ch):List D:=s.reverse.map stD
theorem Q3z(x:Option (List W)×List W)(s:Ch):chD (x::s)=chD s++[stD x]:=by unfold chD;rw[List.reverse_cons,Z9];rfl
theorem Q7I(s:Ch):(chD s).length=s.length:=by unfold chD;rw[Zb,length_reverse]
theorem Q7J(n:Option (List W)):plain 10 (onm n)=true:=by
 cases n with
 | none=>rfl
 | some k=>exact Q0l 8 _
theorem Q7K(s:Ch):plain 12 (.lst (chD s))=true:=by
 show (chD s).all (plain 11)=true;rw[ZR];intro d hd;obtain⟨x,_,rfl⟩:=ZJ.mp hd;show [onm x.1,dn x.2].all (plain 10)=true;erw[Ym,all_nil,Q7J,Q0l 8,Bool.and_true]
noncomputable abbrev Kd:=List (List W×W)
noncomputable abbrev Kl:=List (List W×Option W)
noncomputable def zaq:Ch->W->Kd->Kl->Option (Kd×Kl×Ch)
 | [],_,_,_=>none
 | (some c,n)::s,o,kd,kl=>if (val kd c).isSome=true then none else some (put kd c o,put kl n (some o),s)
 | (none,n)::s,o,kd,kl=>zaq s o kd (put kl n (some o))
noncomputable def zai(kd:Kd)(kl:Kl)(s:Ch)(c:Option (List W))(n:List W):Option (Bool×Kd×Kl×Ch):=match val kl n with
 | none=>some (true,kd,put kl n none,(c,n)::s)
 | some none=>some (false,kd,kl,(c,n)::s)
 | some (some o)=>(zaq ((c,n)::s) o kd kl).map λx=>(true,x)
noncomputable def zah(zs:List Zn)(kd:Kd)(kl:Kl):Ch->Option (Bool×Kd×Kl×Ch)
 | []=>none
 | (c,n)::s=>match (rsf zs kd n za1).2 with
  | .rows (d::_) _=>(zaq ((c,n)::s) d (rsf zs kd n za1).1 kl).map λx=>(true,x)
  | .rows [] _=>none
  | .els m _=>zai (rsf zs kd n za1).1 kl ((c,n)::s) none m
  | .down c' h _ _=>zai (rsf zs kd n za1).1 kl ((c,n)::s) (some c') h
  | _=>some (false,(rsf zs kd n za1).1,kl,(c,n)::s)
noncomputable def zaP(zs:List Zn):Nat->Bool->Kd->Kl->Ch->Option (Kd×Kl)
 | 0,_,_,_,_=>none
 | _+1,false,kd,kl,_=>some (kd,kl)
 | _+1,true,kd,kl,[]=>some (kd,kl)
 | f+1,true,kd,kl,x::s=>(zah zs kd kl (x::s)).bind λy=>zaP zs f y.1 y.2.1 y.2.2.1 y.2.2.2
noncomputable def zaZ(zs:List Zn)(f:Nat)(kd:Kd)(kl:Kl)(c h:List W):Option (Kd×Kl):=(zai kd kl [] (some c) h).bind λy=>zaP zs f y.1 y.2.1 y.2.2.1 y.2.2.2
noncomputable def zat(zs:List Zn)(n:List W)(k:W):Nat->Kd->Kl->Option (Kd×Kl×Rp)
 | 0,_,_=>none
 | f+1,kd,kl=>match (rsf zs kd n k).2 with
  | .down c h _ _=>(zaZ zs f (rsf zs kd n k).1 kl c h).bind λx=>if (val x.1 c).isSome=true then zat zs n k f x.1 x.2 else some (x.1,x.2,(rsf zs kd n k).2)
  | r=>some ((rsf zs kd n k).1,kl,r)
theorem Q1j(h:zaq ((some c,n)::s) o kd kl=some y):val kd c=none/\y=(put kd c o,put kl n (some o),s):=by
 unfold zaq at h;split at h
 ·cases h
 ·next e=>injection h with h;exact⟨Option.not_isSome_iff_eq_none.mp e,h.symm⟩
theorem Q1D:∀ {s:Ch} {kd:Kd} {kl:Kl} {y:Kd×Kl×Ch},zaq s o kd kl=some y->kd.length<=y.1.length/\kl.length<=y.2.1.length
 | [],_,_,_,h=>nomatch h
 | (some c,n)::s,kd,kl,y,h=>by rw[(Q1j h).2];exact⟨Q1X,Q1X⟩
 | (none,n)::s,kd,kl,y,h=>by
  have:=Q1D (s:=s) h;exact⟨this.1,Zr Q1X this.2⟩
theorem Q2h(h:zai kd kl s c n=some y):kd.length<=y.2.1.length/\kl.length<=y.2.2.1.length:=by
 unfold zai at h;split at h
 ·injection h with h;rw[<- h];exact⟨Zq _,Q1X⟩
 ·injection h with h;rw[<- h];exact⟨Zq _,Zq _⟩
 ·obtain⟨x,ex,rfl⟩:=Zu.mp h;exact Q1D ex
theorem Q5B:∀ (f:Nat) {kd:Kd} {t:List W} {o:W},(val kd m).isSome=true->(val (rsA zs n k f kd t o).1 m).isSome=true
 | 0,_,_,_,h=>h
 | f+1,kd,t,o,h=>by
  by_cases g:∃ c d,Goes (repT zs o t n k) c d
  ·obtain⟨c,d,g⟩:=g;rw[Q1B g];exact Q5B f (Q5y h)
  ·rw[Q1C λc d z=>g ⟨c,d,z⟩];exact h
theorem Q3A(h:(val kd m).isSome=true):(val (rsf zs kd n k).1 m).isSome=true:=Q5B _ h
theorem Q7L:∀ (f:Nat) (kd:Kd) (t:List W) (o:W),∃ o' t',(rsA zs n k f kd t o).2=repT zs o' t' n k
 | 0,_,t,o=>⟨o,t,rfl⟩
 | f+1,kd,t,o=>by
  by_cases g:∃ c d,Goes (repT zs o t n k) c d
  ·obtain⟨c,d,g⟩:=g;rw[Q1B g];exact Q7L f _ _ _
  ·rw[Q1C λc d z=>g ⟨c,d,z⟩];exact⟨o,t,rfl⟩
theorem Qbp(zs:List Zn)(kd:Kd)(n:List W)(k:W):∃ o t,(rsf zs kd n k).2=repT zs o t n k:=Q7L _ _ _ _
theorem Q9B(h:ZnOk z):(∀ m l,repZ z n k=.els m l->m.length<=20)/\∀ c hh ds l,repZ z n k=.down c hh ds l->hh.length<=20:=by
 have nl:∀ x∈z.r,(nmOf x.v).length<=20:=λx hx=>by
  have hv:=h.v x hx;rcases (h.r x hx).pv with ⟨_,m,em⟩ | ⟨_,w,em⟩
  ·rw[em]at hv ⊢;rw[Q1K];simpa[vlen,dn]using hv
  ·rw[em];exact ZI _
 unfold repZ;cases ec:cutN z.t z.r n with
 | some c =>
  obtain⟨x,ed⟩:=Q0S ec;erw[ed];exact⟨(λ_ _ z=>nomatch z),λc hh ds l z=>by injection z with _ z;rw[<- z];exact nl x (Q1i ed).1⟩
 | none =>
  simp only;split
  ·exact⟨(λ_ _ z=>nomatch z),(λ_ _ _ _ z=>nomatch z)⟩
  ·split
   ·next x r ee =>
    have hx:x∈zad (atN z.r (zag z.t z.r n)) za9:=by rw[ee];exact Zp
    exact⟨λm l z=>by injection z with z;rw[<- z];exact nl x (Q1h (Q0G hx).1).1,(λ_ _ _ _ z=>nomatch z)⟩
   ·split <;> exact⟨(λ_ _ z=>nomatch z),(λ_ _ _ _ z=>nomatch z)⟩
theorem Q4S(h:∀ z∈zs,ZnOk z):(∀ m l,(rsf zs kd n k).2=.els m l->m.length<=20)/\∀ c hh ds l,(rsf zs kd n k).2=.down c hh ds l->hh.length<=20:=by
 obtain⟨o,t,e⟩:=Qbp zs kd n k;rw[e];unfold repT;cases ez:atT (ofD zs o) t with
 | none=>exact⟨(λ_ _ z=>nomatch z),(λ_ _ _ _ z=>nomatch z)⟩
 | some z=>exact Q9B (h z (Q0Z (Q1a ez)))
end Tz
open Tz in
def sp_ac:DSp:=λds M R=>∃ (M0:DH) (p cl:Addr) (zs:List Zn) (kd:Kd) (kl:Kl) (fo:List Addr) (c:Nat) (s:Ch) (o:W) (y:Kd×Kl×Ch),ds=[.ref p,.ref cl,.str o]/\TX M0 M p zs kd kl fo c/\cl∈fo/\M cl=some (.lst (chD s))/\zaq s o kd kl=some y/\y.1.length<=c/\y.2.1.length<=c/\c<=15000000 /\
 ∀ M',TX M0 M' p zs y.1 y.2.1 fo c->M' cl=some (.lst (chD y.2.2))->(∀ b∈fo,b≠cl->M' b=M b)->R .non M'
open Tz in
theorem ok_ac:OkF T b_ac sp_ac ["","","","",""]:=by
 rintro ds M R ⟨M0,p,cl,zs,kd,kl,fo,c,s,o,y,rfl,t,hcl,hc,hp,y1,y2,c9,h⟩;erw[b_ac];walk_at "q0";walk_at "q4";show zaw _ _ _ _ _;refine Q1b (λj ρ M'=>∃ (s':Ch) (kl':Kl) (v4:Option D) (b:Option (List W)),ρ=[some (.ref p),some (.ref cl),some (.str o),some (onm b),v4]/\TX M0 M' p zs kd kl' fo c/\M' cl=some (.lst (chD s'))/\(∀ x∈fo,x≠cl->M' x=M x) /\
  (b=none->j=s'.length+1/\zaq s' o kd kl'=some y)/\(∀ k,b=some k->val kd k=none/\y=(put kd k o,kl',s')))
  ⟨s.length+1,s,kl,none,none,rfl,t,hc,λ_ _ _=>rfl,λ_=>⟨rfl,hp⟩,λ_ z=>nomatch z⟩ ?_
 rintro j ρ M' ⟨s',kl',v4,b,rfl,t',hc',fr,hb0,hb1⟩ TB eTB;cases b with
 | some k =>
  obtain⟨vn,ey⟩:=hb1 k rfl;rw[ey]at h y1;w_up;refine ite2 (λz=>?_) λ_=>?_
  ·exact absurd z (by show ¬ (false=true);decide)
  obtain⟨a,ld,dd,lv,ks,rc,tp⟩:=id t';rw[e1];clear e1;w_up;have dl:=tp.dl;obtain⟨t5,f5⟩:=tp.door (n:=k) (o:=o) vn y1;exact⟨p,_,_,rfl,tp.ob,trF_d,dd,k,_,rfl,rfl,tp.hd,smallM (by rw[Zb];room),Q0f (h _ t5 (by rw[f5 cl hcl];exact hc') λx hx ne=>by rw[f5 x hx];exact fr x hx ne)⟩
 | none =>
  obtain⟨rfl,hp'⟩:=hb0 rfl;w_up;cases s' with
  | nil=>cases hp'
  | cons x s'' =>
   obtain⟨a,ld,dd,lv,ks,rc,tp⟩:=id t';have pl:(put kl' x.2 (some o)).length<=c:=by
    obtain⟨xo,xa⟩:=x;cases xo with
    | some k'=>rw[(Q1j hp').2]at y2;exact y2
    | none=>exact Zr (Q1D (s:=s'') hp').2 y2
   refine⟨λρ' M''=>ρ'=[some (.ref p),some (.ref cl),some (.str o),some (onm x.1),some (stD x)]/\TX M0 M'' p zs kd (put kl' x.2 (some o)) fo c/\M'' cl=some (.lst (chD s''))/\∀ y∈fo,y≠cl->M'' y=M y,λρ' M'' z=>?_,?_⟩
   ·obtain⟨rfl,z1,z2,z3⟩:=z;obtain⟨xo,xa⟩:=x;cases xo with
    | some k'=>exact⟨0,by room,s'',_,_,some k',rfl,z1,z2,z3,(λz=>nomatch z),λk z=>by injection z with z;rw[<- z];exact Q1j hp'⟩
    | none=>exact⟨s''.length+1,by erw[Zw];room,s'',_,_,none,rfl,z1,z2,z3,λ_=>⟨rfl,hp'⟩,λk z=>nomatch z⟩
   rw[eTB];clear eTB e1;show evS T (.seq _ _) _ _ _;refine Q0b λk2 e2=>?_;w_up;erw[hc'];have ecd:=Q3z x s'';refine⟨cl,_,stD x,rfl,hc',by rw[ecd,Zl,ZL,Nat.add_sub_cancel,ZK (Zq _),sub_self];rfl,?_⟩
   rw[ecd,List.dropLast_concat];have t2:=t'.write (b:=cl) (u:=.lst (chD s'')) hcl;have c2:dupd M' cl (.lst (chD s'')) cl=some (.lst (chD s'')):=Q0c;have f2:∀ y∈fo,y≠cl->dupd M' cl (.lst (chD s'')) y=M y:=λy hy ne=>by rw[Q0a ne];exact fr y hy ne
   generalize dupd M' cl (.lst (chD s''))=M2 at t2 c2 f2;clear tp t' hc' fr;obtain⟨a,ld,dd,lv,ks,rc,tp⟩:=id t2;rw[e2];clear e2;refine Q0b λk2 e2=>?_;w_up;refine⟨p,_,_,rfl,tp.ob,trF_v,?_⟩;refine ix_t rfl ?_;have vl:=tp.vl;refine⟨lv,x.2,_,rfl,rfl,tp.hv,smallM (by rw[Zb];room),?_⟩
   obtain⟨t3,f3⟩:=tp.lead (n:=x.2) (v:=some o) pl;rw[e2];clear e2;walk_at "q3";exact⟨rfl,t3,(f3 cl hcl).trans c2,λy hy ne=>(f3 y hy).trans (f2 y hy ne)⟩
open Tz in
def sp_a4:DSp:=λds M R=>∃ (M0:DH) (p cl:Addr) (zs:List Zn) (kd:Kd) (kl:Kl) (fo:List Addr) (c:Nat) (s:Ch) (c0:Option (List W)) (n:List W) (y:Bool×Kd×Kl×Ch),ds=[.ref p,.ref cl,onm c0,dn n]/\TX M0 M p zs kd kl fo c/\cl∈fo/\M cl=some (.lst (chD s))/\zai kd kl s c0 n=some y/\s.length<=800/\y.2.1.length<=c/\y.2.2.1.length<=c/\c<=15000000 /\
 ∀ M',TX M0 M' p zs y.2.1 y.2.2.1 fo c->M' cl=some (.lst (chD y.2.2.2))->(∀ b∈fo,b≠cl->M' b=M b)->R (.bl y.1) M'
open Tz in
theorem ok_a4(T:Tab)(h347:T.mt 347=some ⟨"Tree","settle",2,sp_ac⟩):OkF T b_a4 sp_a4 ["","","",""]:=by
 rintro ds M R ⟨M0,p,cl,zs,kd,kl,fo,c,s,c0,n,y,rfl,t,hcl,hc,he,sl,y1,y2,c9,h⟩;erw[b_a4];walk_at "q0";erw[hc];refine⟨szL (by decide),small1000 (by rw[Q7I];room),?_⟩
 show k1 _ (dupd M cl (.lst (chD s++[stD (c0,n)])));rw[<- Q3z];have t2:=t.write (b:=cl) (u:=.lst (chD ((c0,n)::s))) hcl;have c2:dupd M cl (.lst (chD ((c0,n)::s))) cl=some (.lst (chD ((c0,n)::s))):=Q0c;have f2:∀ y∈fo,y≠cl->dupd M cl (.lst (chD ((c0,n)::s))) y=M y:=λy _ ne=>Q0a ne;generalize dupd M cl (.lst (chD ((c0,n)::s)))=M2 at t2 c2 f2;clear t hc;obtain⟨a,ld,dd,lv,ks,rc,tp⟩:=id t2;have vl:=tp.vl;walk_at "q2";refine⟨p,_,_,rfl,tp.ob,trF_v,n,lv,_,rfl,rfl,tp.hv,?_⟩;rw[Q1m];unfold zai at he;cases eL:val kl n with
 | none =>
  rw[eL]at he;injection he with he;rw[<- he]at h y2;refine iteT ⟨p,_,_,rfl,tp.ob,trF_v,lv,n,_,rfl,rfl,tp.hv,smallM (by rw[Zb];room),Q0f ?_⟩
  obtain⟨t3,f3⟩:=tp.lead (n:=n) (v:=none) y2;exact h _ t3 ((f3 cl hcl).trans c2) λy hy ne=>(f3 y hy).trans (f2 y hy ne)
 | some b =>
  rw[eL]at he;refine iteF ?_;walk_at "q2";refine⟨p,_,_,rfl,tp.ob,trF_v,n,lv,_,_,rfl,rfl,tp.hv,by rw[Q1m,eL];rfl,?_⟩
  cases b with
  | none =>
   injection he with he;rw[<- he]at h;show (if (true:Bool)=true then _ else _)
   exact iteT (Q0f (h M2 t2 c2 f2))
  | some o =>
   obtain⟨x,ex,rfl⟩:=Zu.mp he;show (if (false:Bool)=true then _ else _)
   refine iteF ?_;walk_at "q2";erw[h347];w_up;refine⟨p,_,rfl,tp.ob,Q4n (by kd_p) (by kd_p) (by kd_p) (by kd_p),p,_,_,rfl,tp.ob,trF_v,n,lv,_,_,rfl,rfl,tp.hv,by rw[Q1m,eL];rfl,?_⟩
   refine⟨M0,p,cl,zs,kd,kl,fo,c,_,o,x,rfl,t2,hcl,c2,ex,y1,y2,c9,λM3 t3 c3 f3=>?_⟩;rw[e1];clear e1;w_up;exact Q0f (h M3 t3 c3 λb hb ne=>(f3 b hb ne).trans (f2 b hb ne))
section
open Tz
theorem Q9C(hm:M a=some (.lst xs))(e:xs.getLast? = some d)(h:Q d M):rIxD (.ref a) (.int (-1)) M Q:=by
 show (match M a with | some (.lst xs)=>(match atI xs (-1) with | some c=>Q c M | none=>False) | _=>False)
 rw[hm];show (match atI xs (-1) with | some c=>Q c M | none=>False)
 rw[My.atI_last (by intro z;subst z;cases e),<- List.getLast?_eq_getElem?,e]
 exact h
theorem Q3B:¬ IsN za1:=by unfold IsN;decide
theorem Q2P(h:zah zs kd kl (x::s)=some y):(rsf zs kd x.2 za1).1.length<=y.2.1.length/\kl.length<=y.2.2.1.length:=by
 obtain⟨c,n⟩:=x;unfold zah at h;obtain⟨kd1,r,er⟩:∃ kd1 r,rsf zs kd n za1=(kd1,r):=⟨_,_,rfl⟩;erw[er]at h ⊢;cases r with
 | rows ds l =>
  cases ds with
  | nil=>cases h
  | cons d ds =>
   obtain⟨x,ex,rfl⟩:=Zu.mp h;exact Q1D ex
 | els m l=>exact Q2h h
 | down c1 hh ds l=>exact Q2h h
 | away=>injection h with h;rw[<- h];exact⟨Zq _,Zq _⟩
 | non l=>injection h with h;rw[<- h];exact⟨Zq _,Zq _⟩
 | emp l=>injection h with h;rw[<- h];exact⟨Zq _,Zq _⟩
theorem Q1c:∀ (f:Nat) {b:Bool} {s:Ch} {kd:Kd} {kl:Kl} {y:Kd×Kl},zaP zs f b kd kl s=some y->kd.length<=y.1.length/\kl.length<=y.2.length
 | 0,_,_,_,_,_,h=>nomatch h
 | f+1,false,s,kd,kl,y,h=>by injection h with h;rw[<- h];exact⟨Zq _,Zq _⟩
 | f+1,true,[],kd,kl,y,h=>by injection h with h;rw[<- h];exact⟨Zq _,Zq _⟩
 | f+1,true,x::s,kd,kl,y,h=>by
  obtain⟨y1,e1,e2⟩:=Zs.mp h;have a:=Q2P e1;have b:=Q1c f e2;exact⟨Zr Q2g (Zr a.1 b.1),Zr a.2 b.2⟩
theorem Q6c(e:zaZ zs f kd kl c h=some y):kd.length<=y.1.length/\kl.length<=y.2.length:=by
 obtain⟨y1,e1,e2⟩:=Zs.mp e;have a:=Q2h e1;have b:=Q1c f e2;exact⟨Zr a.1 b.1,Zr a.2 b.2⟩
theorem Q1E:∀ (f:Nat) {kd:Kd} {kl:Kl} {y:Kd×Kl×Rp},zat zs n k f kd kl=some y->(rsf zs kd n k).1.length<=y.1.length/\kl.length<=y.2.1.length
 | 0,_,_,_,h=>nomatch h
 | f+1,kd,kl,y,h=>by
  unfold zat at h;obtain⟨kd1,r,er⟩:∃ kd1 r,rsf zs kd n k=(kd1,r):=⟨_,_,rfl⟩;erw[er]at h ⊢;cases r with
  | down c hh ds l =>
   obtain⟨x,q1,q2⟩:=Zs.mp h;have a:=Q6c q1;split at q2
   ·have b:=Q1E f q2;exact⟨Zr a.1 (Zr Q2g b.1),Zr a.2 b.2⟩
   ·injection q2 with q2;rw[<- q2];exact a
  | _=>injection h with h;rw[<- h];exact⟨Zq _,Zq _⟩
theorem TX.tob(t:TX M0 M p zs kd kl fo c):∃ fs,M p=some (.oth (.ins "Tree" fs))/\∀ m:Str,(m == "street")=false->(m == "laid")=false->(m == "doors")=false->(m == "leads")=false->List.lookup m fs=none:=by
 obtain⟨a,ld,dd,lv,ks,rc,tp⟩:=t;exact⟨_,tp.ob,λm h1 h2 h3 h4=>Q4n h1 h2 h3 h4⟩
end
open Tz in
def sp_au:DSp:=λds M R=>∃ (M0:DH) (p cl:Addr) (zs:List Zn) (kd:Kd) (kl:Kl) (fo:List Addr) (c:Nat) (s:Ch) (y:Bool×Kd×Kl×Ch),ds=[.ref p,.ref cl]/\TX M0 M p zs kd kl fo c/\ZsOk zs/\(val kd []).isSome=true/\cl∈fo/\M cl=some (.lst (chD s))/\(∀ x∈s,x.2.length<=30)/\zah zs kd kl s=some y/\s.length<=700/\y.2.1.length<=c/\y.2.2.1.length<=c/\c<=15000000 /\
 ∀ M',TX M0 M' p zs y.2.1 y.2.2.1 fo c->M' cl=some (.lst (chD y.2.2.2))->(∀ b∈fo,b≠cl->M' b=M b)->R (.bl y.1) M'
open Tz in
set_option maxHeartbeats 2000000 in
theorem ok_au(T:Tab)(h346:T.mt 346=some ⟨"Tree","enters",3,sp_a4⟩)(h347:T.mt 347=some ⟨"Tree","settle",2,sp_ac⟩)(h343:T.mt 343=some ⟨"Tree","reply_so_far",2,sp_a8⟩)(h13:T.con 13=some (("DOWN" : Str),D.str [100,111,119,110]))(h12:T.con 12=some (("ELSE" : Str),D.str [101,108,115,101]))(h15:T.con 15=some (("ROWS" : Str),D.str [114,111,119,115]))(h14:T.con 14=some (("DOOR" : Str),D.str [100,111,111,114])) :
  OkF T b_au sp_au ["","",""]:=by
 rintro ds M R ⟨M0,p,cl,zs,kd,kl,fo,c,s,y,rfl,t,hz,d0,hcl,hc,hs,hf,sl,y1,y2,c9,h⟩;cases s with
 | nil=>cases hf
 | cons x s =>
 obtain⟨c0,n⟩:=x;have hn:=hs _ Zp;erw[Zw]at sl;have fl:=Q2P hf;obtain⟨fs,ob,no⟩:=t.tob;erw[b_au];walk_at "q0";erw[h343,h14];w_up;refine⟨p,fs,rfl,ob,no _ (by kd_p) (by kd_p) (by kd_p) (by kd_p),?_⟩
 refine Q9C hc (by rw[Q3z];exact List.getLast?_concat) ?_
 refine ix_t rfl ?_;refine⟨M0,p,zs,kd,kl,fo,c,n,za1,rfl,t,hz,c9,Zr fl.1 y1,Q3B,hn,d0,λM2 t2 f2=>?_⟩;have c2:=(f2 cl hcl).trans hc;obtain⟨fs,ob,no⟩:=t2.tob;clear t hc;unfold zah at hf;refine (show k1 [some (.ref p),some (.ref cl),some (rsf zs kd n za1).2.d] M2 from ?_);obtain⟨kd1,r,er⟩:∃ kd1 r,rsf zs kd n za1=(kd1,r):=⟨_,_,rfl⟩;erw[er]at hf t2 ⊢;walk_at "q2";erw[h15];w_up;have ent:∀ (c1:Option (List W)) (m:List W),zai kd1 kl ((c0,n)::s) c1 m=some y->sp_a4 [.ref p,.ref cl,onm c1,dn m] M2 (λd M'=>∃ M0,Sub M0 M'/\R d M0):=λc1 m e =>
  ⟨M0,p,cl,zs,kd1,kl,fo,c,_,c1,m,y,rfl,t2,hcl,c2,e,by rw[Zw];room,y1,y2,c9,λM3 t3 c3 f3=>Q0f (h M3 t3 c3 λb hb ne=>(f3 b hb ne).trans (f2 b hb))⟩
 cases r with
 | rows ds l =>
  cases ds with
  | nil=>cases hf
  | cons d ds =>
  obtain⟨x,ex,rfl⟩:=Zu.mp hf;erw[Rp.d];refine ix_t rfl ?_
  try w_up
  refine⟨rfl,rfl,ite2 (λ_=>?_) λz=>absurd (Zm rfl) z⟩;erw[h347];w_up;refine⟨p,fs,rfl,ob,no _ (by kd_p) (by kd_p) (by kd_p) (by kd_p),?_⟩
  refine ix_t rfl ?_;refine ix_l atI_0 ?_;exact⟨M0,p,cl,zs,kd1,kl,fo,c,_,d,x,rfl,t2,hcl,c2,ex,y1,y2,c9,λM3 t3 c3 f3=>Q0f (h M3 t3 c3 λb hb ne=>(f3 b hb ne).trans (f2 b hb))⟩
 | els m l =>
  erw[Rp.d];walk_at "q1";walk_at "q2";erw[h12];walk_at "q3"
  try w_up
  refine⟨rfl,rfl,ite2 (λ_=>?_) λz=>absurd (Zm rfl) z⟩;erw[h346];w_up;refine⟨p,fs,rfl,ob,no _ (by kd_p) (by kd_p) (by kd_p) (by kd_p),?_⟩
  refine ix_t rfl ?_;exact ent none m hf
 | down c1 hh ds l =>
  erw[Rp.d];walk_at "q1";walk_at "q2";erw[h12];w_up;walk_at "q1";walk_at "q2";erw[h13];walk_at "q3"
  try w_up
  refine⟨rfl,rfl,ite2 (λ_=>?_) λz=>absurd (Zm rfl) z⟩;erw[h346];w_up;refine⟨p,fs,rfl,ob,no _ (by kd_p) (by kd_p) (by kd_p) (by kd_p),?_⟩
  refine ix_t rfl ?_;refine ix_t rfl ?_;exact ent (some c1) hh hf
 | away =>
  erw[Rp.d];walk_at "q1";walk_at "q2";erw[h12];w_up;walk_at "q1";walk_at "q2";erw[h13];w_up;walk_at "q1";rw[e1];w_up;injection hf with hf;rw[<- hf]at h;exact Q0f (h M2 t2 c2 λb hb ne=>f2 b hb)
 | non l =>
  erw[Rp.d];walk_at "q1";walk_at "q2";erw[h12];w_up;walk_at "q1";walk_at "q2";erw[h13];w_up;walk_at "q1";rw[e1];w_up;injection hf with hf;rw[<- hf]at h;exact Q0f (h M2 t2 c2 λb hb ne=>f2 b hb)
 | emp l =>
  erw[Rp.d];walk_at "q1";walk_at "q2";erw[h12];w_up;walk_at "q1";walk_at "q2";erw[h13];w_up;walk_at "q1";rw[e1];w_up;injection hf with hf;rw[<- hf]at h;exact Q0f (h M2 t2 c2 λb hb ne=>f2 b hb)
open Tz in
def sp_aE:DSp:=λds M R=>∃ (M0:DH) (p:Addr) (zs:List Zn) (kd:Kd) (kl:Kl) (fo:List Addr) (c:Nat) (cut house:List W) (f:Nat) (y:Kd×Kl),ds=[.ref p,dn cut,dn house]/\TX M0 M p zs kd kl fo c/\ZsOk zs/\(val kd []).isSome=true/\house.length<=30/\zaZ zs f kd kl cut house=some y/\f<=600/\y.1.length<=c/\y.2.length<=c/\c<=15000000 /\
 ∀ M',TX M0 M' p zs y.1 y.2 fo c->(∀ b∈fo,M' b=M b)->R (.bl (val y.1 cut).isSome) M'
section
open Tz
theorem Q2i:∀ {s:Ch} {kd:Kd} {kl:Kl} {y:Kd×Kl×Ch},zaq s o kd kl=some y->(∀ x∈y.2.2,x∈s)/\y.2.2.length<=s.length/\((val kd []).isSome=true->(val y.1 []).isSome=true)
 | [],_,_,_,h=>nomatch h
 | (some c,n)::s,kd,kl,y,h=>by
  rw[(Q1j h).2];exact⟨λx hx=>Zo _ hx,le_succ _,Q5y⟩
 | (none,n)::s,kd,kl,y,h=>by
  obtain⟨h1,h2,h3⟩:=Q2i (s:=s) h;exact⟨λx hx=>Zo _ (h1 x hx),le_succ_of_le h2,h3⟩
theorem Q2j(h:zai kd kl s c n=some y):(∀ x∈y.2.2.2,x∈(c,n)::s)/\y.2.2.2.length<=s.length+1/\((val kd []).isSome=true->(val y.2.1 []).isSome=true):=by
 unfold zai at h;split at h
 ·injection h with h;rw[<- h];exact⟨λx hx=>hx,Zq _,id⟩
 ·injection h with h;rw[<- h];exact⟨λx hx=>hx,Zq _,id⟩
 ·obtain⟨x,ex,rfl⟩:=Zu.mp h;exact Q2i ex
theorem Q2Q(hz:∀ z∈zs,ZnOk z)(h:zah zs kd kl s=some y)(hs:∀ x∈s,x.2.length<=30):(∀ x∈y.2.2.2,x.2.length<=30)/\y.2.2.2.length<=s.length+1/\((val kd []).isSome=true->(val y.2.1 []).isSome=true):=by
 cases s with
 | nil=>cases h
 | cons x s =>
  obtain⟨c,n⟩:=x;obtain⟨l1,l2⟩:=Q4S hz (kd:=kd) (n:=n) (k:=za1);have rs:(val kd []).isSome=true->(val (rsf zs kd n za1).1 []).isSome=true:=Q3A;unfold zah at h;obtain⟨kd1,r,er⟩:∃ kd1 r,rsf zs kd n za1=(kd1,r):=⟨_,_,rfl⟩;erw[er]at h l1 l2 rs;have ent:∀ c1 m,m.length<=30->zai kd1 kl ((c,n)::s) c1 m=some y->(∀ x∈y.2.2.2,x.2.length<=30)/\y.2.2.2.length<=((c,n)::s).length+1/\((val kd []).isSome=true->(val y.2.1 []).isSome=true):=λc1 m hm e=>by
   obtain⟨e1,e2,e3⟩:=Q2j e;refine⟨λx hx=>?_,e2,λz=>e3 (rs z)⟩;rcases Z1.mp (e1 x hx) with z | z
   ·rw[z];exact hm
   ·exact hs x z
  cases r with
  | rows ds l =>
   cases ds with
   | nil=>cases h
   | cons d ds =>
    obtain⟨x,ex,rfl⟩:=Zu.mp h;obtain⟨e1,e2,e3⟩:=Q2i ex;exact⟨λx hx=>hs x (e1 x hx),le_succ_of_le e2,λz=>e3 (rs z)⟩
  | els m l=>exact ent none m (Zr (l1 m l rfl) (by decide)) h
  | down c1 hh ds l=>exact ent (some c1) hh (Zr (l2 c1 hh ds l rfl) (by decide)) h
  | away=>injection h with h;rw[<- h];exact⟨hs,le_succ _,rs⟩
  | non l=>injection h with h;rw[<- h];exact⟨hs,le_succ _,rs⟩
  | emp l=>injection h with h;rw[<- h];exact⟨hs,le_succ _,rs⟩
theorem Q2R(hz:∀ z∈zs,ZnOk z):∀ (f:Nat) {b:Bool} {s:Ch} {kd:Kd} {kl:Kl} {y:Kd×Kl},zaP zs f b kd kl s=some y->(∀ x∈s,x.2.length<=30)->(val kd []).isSome=true->(val y.1 []).isSome=true
 | 0,_,_,_,_,_,h,_,_=>nomatch h
 | f+1,false,s,kd,kl,y,h,_,h0=>by injection h with h;rw[<- h];exact h0
 | f+1,true,[],kd,kl,y,h,_,h0=>by injection h with h;rw[<- h];exact h0
 | f+1,true,x::s,kd,kl,y,h,hs,h0=>by
  obtain⟨y1,e1,e2⟩:=Zs.mp h;obtain⟨g1,_,g3⟩:=Q2Q hz e1 hs;exact Q2R hz f e2 g1 (g3 h0)
theorem Q2S(hz:∀ z∈zs,ZnOk z)(hh:h.length<=30)(e:zaZ zs f kd kl c h=some y)(h0:(val kd []).isSome=true):(val y.1 []).isSome=true:=by
 obtain⟨y1,e1,e2⟩:=Zs.mp e;obtain⟨g1,_,g3⟩:=Q2j e1;exact Q2R hz f e2 (λx hx=>by rw[Zh.mp (g1 x hx)];exact hh) (g3 h0)
end
open Tz in
theorem ok_aE(T:Tab)(h345:T.mt 345=some ⟨"Tree","follows",1,sp_au⟩)(h346:T.mt 346=some ⟨"Tree","enters",3,sp_a4⟩):OkF T b_aE sp_aE ["","","","",""]:=by
 rintro ds M R ⟨M0,p,zs,kd,kl,fo,c,cut,house,f,y,rfl,t,hz,d0,hl,hf,f6,y1,y2,c9,h⟩;obtain⟨y0,hy0,hf⟩:=Zs.mp hf;erw[b_aE];walk_at "q0";refine⟨szL (by decide),λcl hq=>?_⟩
 have t1:=t.add (u:=.lst []) hq;have kp:∀ b∈fo,dupd M cl (.lst []) b=M b:=t.keep (Sub.new hq);have ncl:cl∉fo:=λz=>by
  obtain⟨a,ld,dd,lv,ks,rc,tp⟩:=t;obtain⟨_,_,_,_,_,u,e⟩:=tp.ff cl z;rw[hq]at e;cases e
 have hc:dupd M cl (.lst []) cl=some (.lst (chD [])):=Q0c;generalize dupd M cl (.lst [])=M1 at t1 kp hc;rw[e1];clear e1 t;refine Q0b λk1 e1=>?_;obtain⟨fs,ob,no⟩:=t1.tob;w_up;erw[h346];w_up;refine⟨p,fs,rfl,ob,no _ (by kd_p) (by kd_p) (by kd_p) (by kd_p),M0,p,cl,zs,kd,kl,cl::fo,c,[],some cut,house,y0,rfl,t1,Zp,hc,hy0,ZI _,Zr (Q1c f hf).1 y1,Zr (Q1c f hf).2 y2,c9,λM2 t2 c2 f2=>?_⟩
 obtain⟨g1,g2,g3⟩:=Q2j hy0;walk_at "q4";show zaw _ _ _ _ _;refine Q1b (λj ρ M'=>∃ (b:Bool) (kd':Kd) (kl':Kl) (s':Ch),ρ=[some (.ref p),some (dn cut),some (dn house),some (.ref cl),some (.bl b)]/\TX M0 M' p zs kd' kl' (cl::fo) c/\M' cl=some (.lst (chD s'))/\(∀ x∈fo,M' x=M x)/\s'.length+j<=1+f/\(∀ x∈s',x.2.length<=30)/\(val kd' []).isSome=true/\zaP zs j b kd' kl' s'=some y)
  ⟨f,y0.1,y0.2.1,y0.2.2.1,y0.2.2.2,rfl,t2,c2,λx hx=>(f2 x (Zo _ hx) λz=>ncl (by rw[<- z];exact hx)).trans (kp x hx),by rw[ZH]at g2;room,λx hx=>by rw[Zh.mp (g1 x hx)];exact hl,g3 d0,hf⟩ ?_
 rintro j ρ M' ⟨b,kd',kl',s',rfl,t',hc',fr,hsl,hs,h0,hf'⟩ TB eTB;clear t1 t2 c2 f2 hc kp;have fin:y=(kd',kl')->k1 [some (.ref p),some (dn cut),some (dn house),some (.ref cl),some (.bl b)] M':=λey=>by
  rw[ey]at h;obtain⟨a,ld,dd,lv,ks,rc,tp⟩:=id t';rw[e1];w_up;refine⟨p,_,_,rfl,tp.ob,trF_d,cut,dd,_,rfl,rfl,tp.hd,?_⟩;rw[Q1m,Yy];exact Q0f (h M' (t'.less λx hx=>Zo _ hx) fr)
 cases j with
 | zero=>cases hf'
 | succ j =>
 w_up;cases b with
 | false =>
  injection hf' with hf';exact ite2 (λz=>nomatch z) λ_=>fin hf'.symm
 | true =>
  refine ite2 (λ_=>?_) λz=>absurd rfl z;erw[hc'];cases s' with
  | nil =>
   injection hf' with hf';have f:=fin hf'.symm;refine⟨ZI _,rfl,rfl,ite2 (λz=>?_) λ_=>f⟩;have z':(!eqB (D.lst []) (.lst []))=true:=z;rw[Q0s]at z';cases z'
  | cons x s' =>
   have ene:eqB (.lst (chD (x::s'))) (.lst [])=false:=(Q0I _ _).mpr λz=>by
    injection z with z;have:=congrArg List.length z;rw[Q7I]at this;cases this
   refine⟨ZI _,Q7K _,rfl,ite2 (λ_=>?_) λz=>?_⟩;rotate_left
   ·have z':¬ (!eqB (.lst (chD (x::s'))) (.lst []))=true:=z;rw[ene]at z';exact absurd rfl z'
   obtain⟨z1,q1,q2⟩:=Zs.mp hf';have fl:=Q1c j q2;obtain⟨g1,g2,g3⟩:=Q2Q hz.ok q1 hs;erw[Zw]at hsl g2;refine⟨λρ' M''=>ρ'=[some (.ref p),some (dn cut),some (dn house),some (.ref cl),some (.bl z1.1)]/\TX M0 M'' p zs z1.2.1 z1.2.2.1 (cl::fo) c/\M'' cl=some (.lst (chD z1.2.2.2))/\∀ x∈fo,M'' x=M x,λρ' M'' z=>⟨j,lt_succ_self j,z1.1,z1.2.1,z1.2.2.1,z1.2.2.2,z.1,z.2.1,z.2.2.1,z.2.2.2,by room,g1,g3 h0,q2⟩,?_⟩
   obtain⟨fs,ob,no⟩:=t'.tob;rw[eTB];show evS T (.seq _ _) _ _ _;w_up;erw[h345];w_up;exact⟨p,fs,rfl,ob,no _ (by kd_p) (by kd_p) (by kd_p) (by kd_p),M0,p,cl,zs,kd',kl',cl::fo,c,x::s',z1,rfl,t',hz,h0,Zp,hc',hs,q1,by erw[Zw];room,Zr fl.1 y1,Zr fl.2 y2,c9,λM3 t3 c3 f3=>⟨rfl,t3,c3,λx hx=>(f3 x (Zo _ hx) λz=>ncl (by rw[<- z];exact hx)).trans (fr x hx)⟩⟩
open Tz in
def sp_aB:DSp:=λds M R=>∃ (M0:DH) (p:Addr) (zs:List Zn) (kd:Kd) (kl:Kl) (fo:List Addr) (c:Nat) (n:List W) (k:W) (f:Nat) (y:Kd×Kl×Rp),ds=[.ref p,dn n,.str k]/\TX M0 M p zs kd kl fo c/\ZsOk zs/\¬ IsN k/\n.length<=30/\(val kd []).isSome=true/\zat zs n k f kd kl=some y/\f<=600/\y.1.length<=c/\y.2.1.length<=c/\c<=15000000 /\
 ∀ M',TX M0 M' p zs y.1 y.2.1 fo c->(∀ b∈fo,M' b=M b)->R y.2.2.d M'
open Tz in
theorem ok_aB(T:Tab)(h344:T.mt 344=some ⟨"Tree","finds_door",2,sp_aE⟩)(h343:T.mt 343=some ⟨"Tree","reply_so_far",2,sp_a8⟩)(h13:T.con 13=some (("DOWN" : Str),D.str [100,111,119,110])):OkF T b_aB sp_aB ["","","",""]:=by
 rintro ds M R ⟨M0,p,zs,kd,kl,fo,c,n,k,f,y,rfl,t,hz,hk,hn,d0,hf,f1,y1,y2,c9,h⟩;erw[b_aB];refine Q0b λk1 e1=>?_;obtain⟨fs,ob,no⟩:=t.tob;w_up;erw[h343];w_up;refine⟨p,fs,rfl,ob,no _ (by kd_p) (by kd_p) (by kd_p) (by kd_p),M0,p,zs,kd,kl,fo,c,n,k,rfl,t,hz,c9,Zr (Q1E f hf).1 y1,hk,hn,d0,λM2 t2 f2=>?_⟩
 walk_at "q4";show zaw _ _ _ _ _;refine Q1b (λj ρ M'=>∃ (kd':Kd) (kl':Kl),ρ=[some (.ref p),some (dn n),some (.str k),some (rsf zs kd' n k).2.d]/\TX M0 M' p zs (rsf zs kd' n k).1 kl' fo c/\(∀ x∈fo,M' x=M x)/\j<=f/\(val kd' []).isSome=true/\zat zs n k j kd' kl'=some y)
  ⟨f,kd,kl,rfl,t2,f2,Zq f,d0,hf⟩ ?_
 rintro j ρ M' ⟨kd',kl',rfl,t',fr,jf,h0,hf'⟩ TB eTB;cases j with
 | zero=>cases hf'
 | succ j =>
 have l2:=(Q4S hz.ok (kd:=kd') (n:=n) (k:=k)).2;unfold zat at hf';have s0:(val (rsf zs kd' n k).1 []).isSome=true:=Q3A h0;obtain⟨kd1,r,er⟩:∃ kd1 r,rsf zs kd' n k=(kd1,r):=⟨_,_,rfl⟩;erw[er]at hf' l2 t' s0 ⊢;w_up;erw[h13];w_up;have fin:∀ kd2 kl2 M5,y=(kd2,kl2,r)->TX M0 M5 p zs kd2 kl2 fo c->(∀ x∈fo,M5 x=M x)->k1 [some (.ref p),some (dn n),some (.str k),some r.d] M5:=λkd2 kl2 M5 ey t5 f5=>by
  rw[ey]at h;rw[e1];w_up;exact Q0f (h M5 t5 f5)
 rcases Rp.three r with ⟨w,q,e,hw,nd⟩ | hd
 ·have ey:y=(kd1,kl',r):=by
   cases r with
   | down c1 hh ds l=>exact absurd rfl (nd c1 hh ds l)
   | _=>injection hf' with hf';exact hf'.symm
  have f:=fin kd1 kl' M' ey t' fr;rw[e]at f ⊢;refine ix_t atI_0 ?_
  try w_up
  exact⟨rfl,rfl,ite2 (λz=>absurd (Z2 z) hw) λ_=>f⟩
 ·obtain⟨c1,hh,ds,l,rfl⟩:∃ c1 hh ds l,r=.down c1 hh ds l:=by
   rcases hd with ⟨c1,hh,l,e⟩ | ⟨c1,hh,d,ds,l,e⟩
   ·exact⟨_,_,_,_,e⟩
   ·exact⟨_,_,_,_,e⟩
  obtain⟨x,q1,q2⟩:=Zs.mp hf';have hl:=l2 c1 hh ds l rfl;have s1:=Q2S hz.ok (by room) q1 s0
  erw[Rp.d]at fin ⊢;refine ix_t rfl ?_
  try w_up
  refine⟨rfl,rfl,ite2 (λ_=>?_) λz=>absurd (Zm rfl) z⟩;obtain⟨fs,ob,no⟩:=t'.tob;erw[h344];w_up;refine⟨p,fs,rfl,ob,no _ (by kd_p) (by kd_p) (by kd_p) (by kd_p),?_⟩
  refine ix_t rfl ?_;refine ix_t rfl ?_;have xl:x.1.length<=c/\x.2.length<=c/\((val x.1 c1).isSome=true->(rsf zs x.1 n k).1.length<=c):=by
   split at q2
   ·have b:=Q1E j q2;exact⟨Zr Q2g (Zr b.1 y1),Zr b.2 y2,λ_=>Zr b.1 y1⟩
   ·next ne =>
    injection q2 with q2;rw[<- q2]at y1 y2;exact⟨y1,y2,λz=>absurd z ne⟩
  refine⟨M0,p,zs,kd1,kl',fo,c,c1,hh,j,x,rfl,t',hz,s0,by room,q1,by room,xl.1,xl.2.1,c9,λM3 t3 f3=>?_⟩
  have fr3:∀ y∈fo,M3 y=M y:=λy hy=>(f3 y hy).trans (fr y hy);cases ev:(val x.1 c1).isSome with
  | false =>
   rw[ev,Zd Zv]at q2;injection q2 with q2;exact iteF (fin x.1 x.2 M3 q2.symm t3 fr3)
  | true =>
   rw[ev,Zg rfl]at q2;refine iteT ⟨λρ' M''=>ρ'=[some (.ref p),some (dn n),some (.str k),some (rsf zs x.1 n k).2.d]/\TX M0 M'' p zs (rsf zs x.1 n k).1 x.2 fo c/\∀ x∈fo,M'' x=M x,λρ' M'' z=>⟨j,lt_succ_self j,x.1,x.2,z.1,z.2.1,z.2.2,by room,s1,q2⟩,?_⟩
   obtain⟨fs,ob,no⟩:=t3.tob;rw[eTB];show evS T (.seq _ _) _ _ _;w_up;erw[h343];w_up;exact⟨p,fs,rfl,ob,no _ (by kd_p) (by kd_p) (by kd_p) (by kd_p),M0,p,zs,x.1,x.2,fo,_,n,k,rfl,t3,hz,c9,xl.2.2 ev,hk,hn,s1,λM5 t5 f5=>⟨rfl,t5,λy hy=>(f5 y hy).trans (fr3 y hy)⟩⟩
noncomputable def b_ar:CS:=by walk_at "~ctp342&0b&1bv14acheR&1m%Tree %doors &0a"
noncomputable def b_aq:CS:=by walk_at "~cx2zg2b&1ainsybm%Page %top &0a#1acje!u&2m%Page %downs &0ch&2aaachoDa"
noncomputable def b_av:CS:=by walk_at "~ch!vwq[0 !wm%Page %downs &0ekp311&1b&0a&0&0a"
noncomputable def b_aC:CS:=by walk_at "~cf2p323p341&0bOm%Tree %doors &0&1ab&1achjeU&2oDrap304&2aa"
noncomputable def b_aF:CS:=by walk_at "~cf2Z340b&0b&1acf3BblaacKeC&3racf4p348&2bG!h&3aactG!x&3bwq[2 &4p349&1b&0a&0aach!ym%Tree %doors &2a"
def sp_aq:DSp:=λds M R=>∃ (p:Addr) (n:List W) (top:List W) (life:Int) (rows:List Rw) (r d s:Addr) (ob:Obj) (kd:List (List W×D)),ds=[.ref p,dn n]/\M p=some (.oth (.ins "Page" (zaN top life r d s)))/\M d=some (.oth (.dcf ob kd))/\(∀ n,valD kd n=zam rows n)/\n.length<=900/\R (cutD top rows n) M
theorem ok_aq(T:Tab)(h2:T.fn 2=some ⟨"above",1,[],sp_a1⟩):OkF T b_aq sp_aq ["","",""]:=by
 rintro ds M R ⟨p,n,top,life,rows,r,d,s,ob,kd,rfl,ho,hd,hv,hl,h⟩;erw[b_aq];walk_at "q0";erw[h2];w_up;refine⟨n,rfl,hl,λa ha=>?_⟩;have s1:=Sub.new (o:=.lst (zaf n)) ha;refine⟨p,_,_,rfl,s1 _ _ ho,Q4j,?_⟩;w_up;erw[Q0c];intro q hq;have qa:q≠a:=(dne Q0c hq).symm;have el:(((top.map D.str).length:Int)+1)=((top.length+1:Nat):Int):=by rw[Zb];room
 unfold dn;rw[el,Q5v]
 try simp only[Q0c]
 have ea:(zaf n).drop (top.length+1)=(((List.range (n.length+1)).drop (top.length+1)).map λk=>n.take k).map dn:=by
  unfold zaf;rw[<- map_drop,map_map];rfl
 rw[ea];generalize hL:((List.range (n.length+1)).drop (top.length+1)).map (λk=>n.take k)=L at *;generalize hM2:dupd (dupd M a _) q _=M2 at *;have hcd:M2 q=some (.lst (L.map dn)):=by rw[<- hM2,Q0c]
 have hsub:Sub M M2:=by rw[<- hM2];exact (Sub.new ha).put (by rw[Q0a qa]at hq;exact hq)
 have hcut:∀ (i:Nat) (m:List W),L[i]? = some m->(∀ (j:Nat) (y:List W),j<i->L[j]? = some y->(zam rows y).isSome=false)->(zam rows m).isSome=true->cutN top rows n=some m:=by
  intro i m hi hb hm;unfold cutN;rw[hL];obtain⟨h1,h2⟩:=Zf.mp hi;exact Yh.mpr ⟨hm,i,h1,h2,λj hj=>by rw[hb j _ hj (Zi _)];rfl⟩
 refine Q0u (λi ρ M'=>M'=M2/\(∃ v,ρ=[some (.ref p),some (dn n),v])/\∀ (j:Nat) (y:List W),j<i->L[j]? = some y->(zam rows y).isSome=false) ⟨rfl,⟨none,rfl⟩,λj y hj=>absurd hj (Yt j)⟩ (λi ρ M' h=>by rw[h.1];exact hcd) ?_ ?_
 ·rintro i d0 ρ M' k hi ⟨rfl,⟨v,rfl⟩,hb⟩ hk;rw[Zx]at hi;cases ei:L[i]? with
  | none=>rw[ei]at hi;cases hi
  | some m =>
   rw[ei]at hi;cases hi;w_up;refine⟨p,_,_,rfl,hsub _ _ ho,Q0N,m,d,ob,kd,rfl,rfl,hsub _ _ hd,?_⟩;rw[hv];cases c:(zam rows m).isSome with
   | true =>
    refine iteT ⟨M,hsub,?_⟩;have:cutD top rows n=dn m:=by unfold cutD;rw[hcut i m ei hb c]
    rw[<- this];exact h
   | false =>
    refine iteF (hk _ _ ⟨rfl,⟨_,rfl⟩,λj y hj hy=>?_⟩);by_cases hji:j=i
    ·subst hji;rw[ei]at hy;cases hy;exact c
    ·exact hb j y (by room) hy
 ·rintro ρ M' ⟨rfl,⟨v,rfl⟩,hb⟩;rw[e1];w_up;refine⟨M,hsub,?_⟩;have:cutD top rows n=.non:=by
   have e:cutN top rows n=none:=by
    unfold cutN;rw[hL];refine find?_eq_none.mpr λy hy=>?_;obtain⟨j,hj⟩:=Yb.mp hy;rw[hb j y (by rw[Zb];exact (Zf.mp hj).1) hj]
    simp
   unfold cutD;rw[e]
  rw[<- this];exact h
def GdR(rows:List Rw):Prop:=∀ x∈rows,x.k=za7->(∀ w∈x.n,gdT w)/\x.n.length<=20
def sp_av:DSp:=λds M R=>∃ (p:Addr) (M0:DH) (z:Zn),ds=[.ref p]/\Page M0 M p z.t z.l z.r/\z.r.length<=900/\GdR z.r/\∀ L:List (List W),L.Nodup->(∀ n,n∈L <-> cutN z.t z.r n=some n)->R (.lst (L.map dn)) M
theorem Qbq(e:M a=some o):dupd M a o=M:=funext λb=>by
 by_cases h:b=a
 ·rw[h,Q0c,e]
 ·exact Q0a h
theorem ok_av(T:Tab)(h311:T.mt 311=some ⟨"Page","cut",1,sp_aq⟩):OkF T b_av sp_av [""]:=by
 rintro ds M R ⟨p,M0,z,rfl,⟨r,d,s,kr,kd,ks,G⟩,hl,hg,h⟩;have key:∀ n,n∈kd.map (·.1) <-> (zam z.r n).isSome=true:=λn=>by
  rw[<- G.hD.v n,<- Q1x,any_eq_true,ZJ];constructor
  ·rintro⟨q,hq,rfl⟩;exact⟨q,hq,Zm rfl⟩
  ·rintro⟨q,hq,e⟩;exact⟨q,hq,Z2 e⟩
 have gd:∀ n,n∈kd.map (·.1)->(∀ w∈n,gdT w)/\n.length<=20:=λn hn=>by
  have h1:=(key n).mp hn;unfold zam at h1;rw[Yy]at h1;obtain⟨x,ex⟩:=Z3.mp h1;obtain⟨h2,h3⟩:=ZX.mp (mem_of_getLast? ex);have h4:=Z2 h3;rw[<- h4.2];exact hg x h2 h4.1
 erw[b_av];w_up;refine⟨d,kd,G.hD.m,p,_,_,rfl,G.ob,Q0N,d,kd,rfl,G.hD.m,λq hq=>(gd q.1 (ZJ.mpr ⟨q,hq,rfl⟩)).1,λob=>?_⟩;have pd:p≠d:=mne G.ob G.hD.m (λz=>nomatch z)
 have hp2:dupd M d (.oth (.dcf ob kd)) p=some (.oth (.ins "Page" (zaN z.t z.l r d s))):=by rw[Q0a pd];exact G.ob
 have hL:∀ n,n∈(kd.map (·.1)).filter (λn=>decide (cutN z.t z.r n=some n)) <-> cutN z.t z.r n=some n:=λn=>by
  rw[ZX,Ze];refine⟨λe=>e.2,λe=>⟨(key n).mpr ?_,e⟩⟩;have hs:=find?_some (show _=some n from e);exact hs
 have fin:R (.lst (((kd.map (·.1)).filter λn=>decide (cutN z.t z.r n=some n)).map dn)) M:=h _ (G.hD.u.filter _) hL;refine Q0M (λi ys M'=>M'=dupd M d (.oth (.dcf ob kd))/\ys=(((kd.map (·.1)).take i).filter λn=>decide (cutN z.t z.r n=some n)).map dn) ⟨rfl,rfl⟩ (λ_ _ _ _=>trivial) ?_ ?_
 ·rintro i y ys M' k2 hi ⟨rfl,hy⟩ hk2;rw[Zx]at hi;obtain⟨q,hq,rfl⟩:=Zu.mp hi;have hm:(kd.map (·.1))[i]? = some q.1:=by rw[Zx,hq];rfl
  have hin:q.1∈kd.map (·.1):=Z6 hm;have ql:=(gd q.1 hin).2;have yl:ys.length<sizeLine:=by
   rw[hy,Zb];refine ZM (Zr (Yc ..) (List.length_take_le' ..)) ?_;rw[Zb,ZY];have:=G.hD.l;room
  have stp:(((kd.map (·.1)).take (i+1)).filter λn=>decide (cutN z.t z.r n=some n)).map dn=ys++if cutN z.t z.r q.1=some q.1 then [dn q.1] else []:=by
   rw[List.take_succ,hm,filter_append,Z9,<- hy];congr 1;show ([q.1].filter _).map dn=_;rw[filter_cons];by_cases e:cutN z.t z.r q.1=some q.1
   ·rw[Zg (Zm e),Zg e];rfl
   ·rw[Zd (λz=>e (Z2 z)),Zd e];rfl
  erw[h311];w_up;refine⟨p,_,rfl,hp2,Q0P,p,q.1,z.t,z.l,z.r,r,d,s,ob,kd,rfl,hp2,Q0c,G.hD.v,by room,?_⟩
  have pq:plain 12 (dn q.1)=true:=Q0l 10 _;unfold cutD;cases ec:cutN z.t z.r q.1 with
  | none =>
   refine⟨rfl,pq,ite2 (λe=>?_) λ_=>hk2 _ _ ⟨rfl,?_⟩⟩
   ·have e':eqB D.non (dn q.1)=true:=e;have:=(Q0q _ _).mp e';cases this
   ·rw[stp,Zd (λe=>by rw[ec]at e;cases e),Y2]
  | some c =>
   refine⟨Q0l 10 _,pq,ite2 (λe=>⟨yl,hk2 _ _ ⟨rfl,?_⟩⟩) λe=>hk2 _ _ ⟨rfl,?_⟩⟩
   ·have e':eqB (dn c) (dn q.1)=true:=e;have e2:=QcQ ((Q0q _ _).mp e');rw[stp,Zg (by rw[ec,e2])]
    rfl
   ·have e':¬ eqB (dn c) (dn q.1)=true:=e;rw[stp,Zd (λz=>e' (by rw[ec]at z;injection z with z;rw[z];exact Q0s _)),Y2]
 ·rintro ys M' ⟨rfl,hy⟩;rw[Zb,ZS (by rw[Zb];exact Zq _)]at hy
  rw[hy];refine⟨?_,ob,kd,Q0c,M,?_,fin⟩
  ·rw[Zb];refine Zr (Yc ..) ?_;rw[Zb,ZY];have:=G.hD.l;room
  ·rw[Q0X,Qbq G.hD.m];exact λb o e=>e
open Tz in
def sp_aC:DSp:=λds M R=>∃ (M0:DH) (p:Addr) (zs:List Zn) (kd:Kd) (kl:Kl) (fo:List Addr) (c:Nat) (n:List W) (o:W),ds=[.ref p,dn n]/\TX M0 M p zs kd kl fo c/\ZsOk zs/\c<=15000000/\(∀ z∈zs,GdR z.r)/\val kd n=some o /\
 ∀ M' (L:List (List W)),TX M0 M' p zs kd kl fo c->(∀ b∈fo,M' b=M b)->L.Nodup->(∀ m,m∈L <-> ∃ z,atT (ofD zs o) n=some z/\cutN z.t z.r m=some m)->R (.lst (L.map dn)) M'
open Tz in
theorem ok_aC(T:Tab)(h304:T.mt 304=some ⟨"Page","own_cuts",0,sp_av⟩)(h323:T.mt 323=some ⟨"House","page",1,sp_ab⟩)(h341:T.mt 341=some ⟨"Tree","house",1,sp_a2⟩):OkF T b_aC sp_aC ["","",""]:=by
 rintro ds M R ⟨M0,p,zs,kd,kl,fo,c,n,o,rfl,t,hz,hc,hg,ho,h⟩;obtain⟨a,ld,dd,lv,ks,rc,tp⟩:=id t;erw[b_aC];walk_at "q0";erw[h341,h323];w_up;refine⟨p,_,rfl,tp.ob,Q4n (by kd_p) (by kd_p) (by kd_p) (by kd_p),p,_,_,rfl,tp.ob,trF_d,n,dd,_,.str o,rfl,rfl,tp.hd,by rw[Q1m,ho];rfl,?_⟩
 refine⟨M0,p,zs,kd,kl,fo,c,o,rfl,t,hz,hc,Q4R ho,λM2 a2 ld2 dd2 lv2 ks2 rc2 tg hok fr2=>?_⟩;have H:=tg.hx o hok;refine⟨(rc2 o).p,_,rfl,H.ob,Q7C,M0,(rc2 o).p,_,_,_,_,ofD zs o,0,some n,rfl,H,hz.of o,by room,λen=>?_,λz ez pg M' H' S' hx=>?_⟩
 ·rw[e1];clear e1;w_up;refine⟨ZI _,Q0f (h M2 [] ⟨_,_,_,_,_,_,tg⟩ fr2 .nil λm=>⟨λe=>(nomatch e),λ⟨z,e1,_⟩=>?_⟩)⟩
  rw[show atT (ofD zs o) n=none from en]at e1;cases e1
 ·rw[e1];clear e1;obtain⟨t3,fr3⟩:=tg.said hok H' S';obtain⟨r,d,s,kr,kd',ks',G,_⟩:=id hx;have zo:=hz.ok z (Q0Z (Q1a ez));w_up;erw[h304];w_up;refine⟨pg,_,rfl,G.ob,Q0P,pg,M0,z,rfl,hx.page,by have:=zo.l;room,hg z (Q0Z (Q1a ez)),λL nd hL=>Q0f (h M' L ⟨_,_,_,_,_,_,t3⟩ (λb hb=>(fr3 b hb).trans (fr2 b hb)) nd λm=>?_)⟩
  rw[hL];exact⟨λe=>⟨z,ez,e⟩,λ⟨z',e1,e2⟩=>by rw[show atT (ofD zs o) n=some z from ez]at e1;cases e1;exact e2⟩
open Tz in
def sp_ar:DSp:=λds M R=>∃ (M0:DH) (p:Addr) (zs:List Zn) (kd:Kd) (kl:Kl) (fo:List Addr) (c:Nat) (n:List W) (f:Nat) (y:Kd×Kl×Rp),ds=[.ref p,dn n]/\TX M0 M p zs kd kl fo c/\ZsOk zs/\n.length<=30/\(val kd []).isSome=true/\zat zs n za1 f kd kl=some y/\f<=600/\y.1.length<=c/\y.2.1.length<=c/\c<=15000000 /\
 ∀ M',TX M0 M' p zs y.1 y.2.1 fo c->(∀ b∈fo,M' b=M b)->R (.bl (val y.1 n).isSome) M'
open Tz in
theorem ok_ar(T:Tab)(h342:T.mt 342=some ⟨"Tree","reply",2,sp_aB⟩)(h14:T.con 14=some (("DOOR" : Str),D.str [100,111,111,114])):OkF T b_ar sp_ar ["",""]:=by
 rintro ds M R ⟨M0,p,zs,kd,kl,fo,c,n,f,y,rfl,t,hz,hn,d0,hf,f1,y1,y2,c9,h⟩;obtain⟨fs,ob,no⟩:=t.tob;erw[b_ar];walk_at "q0";erw[h342,h14];w_up;refine⟨p,fs,rfl,ob,no _ (by kd_p) (by kd_p) (by kd_p) (by kd_p),M0,p,zs,kd,kl,fo,c,n,za1,f,y,rfl,t,hz,Q3B,hn,d0,hf,f1,y1,y2,c9,λM2 t2 f2=>?_⟩
 obtain⟨a,ld,dd,lv,ks,rc,tp⟩:=id t2;rw[e1];clear e1;w_up;refine⟨p,_,_,rfl,tp.ob,trF_d,n,dd,_,rfl,rfl,tp.hd,?_⟩;rw[Q1m,Yy];exact Q0f (h M2 t2 f2)
namespace Tz
noncomputable def hasL(zs:List Zn)(g:Nat):List (List W)->Kd->Kl->Option (Kd×Kl×List (List W))
 | [],kd,kl=>some (kd,kl,[])
 | c::cs,kd,kl=>(zat zs c za1 g kd kl).bind λy=>(hasL zs g cs y.1 y.2.1).map λz=>(z.1,z.2.1,if (val y.1 c).isSome=true then c::z.2.2 else z.2.2)
def ChG(zs:List Zn)(g b c:Nat)(Q:Kd->Prop):Nat->Kd->Kl->List (List W)->Prop
 | 0,_,_,_=>False
 | _+1,kd,_,[]=>Q kd
 | f+1,kd,kl,n::s=>∃ o,val kd n=some o/\∀ L:List (List W),L.Nodup->(∀ m,m∈L <-> ∃ z,atT (ofD zs o) n=some z/\cutN z.t z.r m=some m)->L.length<=b/\∃ y,hasL zs g L kd kl=some y/\(val y.1 []).isSome=true/\y.1.length<=c/\y.2.1.length<=c/\ChG zs g b c Q f y.1 y.2.1 (y.2.2.reverse++s)
theorem Q5C:∀ {L:List (List W)} {kd:Kd} {kl:Kl} {y:Kd×Kl×List (List W)},hasL zs g L kd kl=some y->kd.length<=y.1.length/\kl.length<=y.2.1.length
 | [],_,_,_,h=>by injection h with h;rw[<- h];exact⟨Zq _,Zq _⟩
 | c::cs,kd,kl,y,h=>by
  obtain⟨y1,h1,h⟩:=Zs.mp h;obtain⟨z,hz,rfl⟩:=Zu.mp h;have a:=Q1E g h1;have b:=Q5C hz;exact⟨Zr Q2g (Zr a.1 b.1),Zr a.2 b.2⟩
theorem Q2T(hz:∀ z∈zs,ZnOk z):∀ (f:Nat) {kd:Kd} {kl:Kl} {y:Kd×Kl×Rp},zat zs n k f kd kl=some y->(val kd []).isSome=true->(val y.1 []).isSome=true
 | 0,_,_,_,h,_=>nomatch h
 | f+1,kd,kl,y,h,h0=>by
  have s0:(val (rsf zs kd n k).1 []).isSome=true:=Q3A h0;have l2:=(Q4S hz (kd:=kd) (n:=n) (k:=k)).2;unfold zat at h;obtain⟨kd1,r,er⟩:∃ kd1 r,rsf zs kd n k=(kd1,r):=⟨_,_,rfl⟩;erw[er]at h l2 s0;cases r with
  | down c hh ds l =>
   obtain⟨x,q1,q2⟩:=Zs.mp h;have s1:=Q2S hz (Zr (l2 c hh ds l rfl) (by decide)) q1 s0
   split at q2
   ·exact Q2T hz f q2 s1
   ·injection q2 with q2;rw[<- q2];exact s1
  | _=>injection h with h;rw[<- h];exact s0
end Tz
open Tz in
def sp_aF:DSp:=λds M R=>∃ (a:Addr) (zs:List Zn) (o:W) (f g b c:Nat) (Q:Kd->Prop),ds=[.ref a,.str o]/\HsOk M a zs/\ZsOk zs/\(∀ z∈zs,GdR z.r)/\ChG zs g b c Q f [([],o)] [] [[]]/\(∀ kd,Q kd->∀ p∈kd,∀ w∈p.1,gdT w)/\g<=600/\1<=c/\c<=15000000/\f<=100/\b<=60 /\
 ∀ M' l kd,Q kd->Sub M M'->M l=none->M' l=some (.lst (kd.map prD))->R (.ref l) M'
section
open Tz
theorem Q7M(hg:∀ z∈zs,GdR z.r)(h:∃ z,atT (ofD zs o) n=some z/\cutN z.t z.r m=some m):m.length<=20:=by
 obtain⟨z,e1,e2⟩:=h;obtain⟨x,ed⟩:=Q0S e2;obtain⟨h1,h2,h3⟩:=Q1i ed;rw[<- h3];exact (hg z (Q0Z (Q1a e1)) x h1 h2).2
theorem Q9D(s:List (List W)):plain 12 (.lst (s.map dn))=true:=by
 show (s.map dn).all (plain 11)=true;rw[ZR];intro d hd;obtain⟨x,_,rfl⟩:=ZJ.mp hd;exact Q0l 9 x
end
open Tz in
theorem ok_aF(T:Tab)(h349:T.mt 349=some ⟨"Tree","has_door",1,sp_ar⟩)(h348:T.mt 348=some ⟨"Tree","cuts_at",1,sp_aC⟩)(h340:T.ini 340=some ⟨"Tree","__init__",2,sp_aO⟩):OkF T b_aF sp_aF ["","","","",""]:=by
 rintro ds M R ⟨a,zs,o,f,g,b,c,Q,rfl,hs,hz,hg,hC,hQ,g1,c1,c9,f1,b6,h⟩;erw[b_aF];walk_at "q0";erw[h340];w_up;intro p hp;refine⟨p,a,zs,o,rfl,Q0c,hs.mono (Sub.new hp),λM1 ht=>⟨rfl,?_⟩⟩;have t1:=ht M (Sub.new hp) hp hs;clear ht;walk_at "q2";refine⟨szL (by decide),szL (by decide),λnl hnl=>?_⟩
 have t2:=t1.add (u:=.lst [dn []]) hnl;have n2:dupd M1 nl (.lst [dn []]) nl=some (.lst ((([[]]:List (List W)).reverse).map dn)):=Q0c;show k1 _ (dupd M1 nl (.lst [dn []]));generalize dupd M1 nl (.lst [dn []])=M2 at t2 n2;clear t1 hnl;walk_at "q4";show zaw _ _ _ _ _;refine Q1b (λj ρ M'=>∃ (kd:Kd) (kl:Kl) (s:List (List W)) (v4:Option D),ρ=[some (.ref a),some (.str o),some (.ref p),some (.ref nl),v4]/\TX M M' p zs kd kl [nl] c/\M' nl=some (.lst (s.reverse.map dn))/\s.length+b * j<=1+b * f/\(val kd []).isSome=true/\ChG zs g b c Q j kd kl s)
  ⟨f,_,_,[[]],none,rfl,t2.le c1,n2,by show 1+_<=_;room,rfl,hC⟩ ?_
 rintro j ρ M' ⟨kd,kl,s,v4,rfl,t,hn,hsl,h0,hch⟩ TB eTB;clear t2 n2;have bf:b * f<=60 * 100:=Nat.mul_le_mul b6 f1;cases j with
 | zero=>exact hch.elim
 | succ j =>
 rw[Nat.mul_succ]at hsl;w_up;erw[hn];cases s with
 | nil =>
  refine⟨ZI _,rfl,rfl,ite2 (λz=>?_) λ_=>?_⟩
  ·have z':(!eqB (D.lst []) (.lst []))=true:=z;rw[Q0s]at z';cases z'
  obtain⟨a',ld,dd,lv,ks,rc,tp⟩:=id t;rw[e1];clear e1;w_up;refine⟨p,_,_,rfl,tp.ob,trF_d,dd,_,rfl,tp.hd,λq hq w hw=>?_,λl hl=>?_⟩
  ·obtain⟨x,hx,rfl⟩:=ZJ.mp hq;exact hQ kd hch x hx w hw
  ·refine Q0f (h _ l kd hch (t.sub.trans (Sub.new hl)) (t.sub.none hl) ?_);rw[Q0c,map_map];rfl
 | cons n s =>
  obtain⟨on,hon,hL⟩:=hch;have ecd:(n::s).reverse.map dn=s.reverse.map dn++[dn n]:=by rw[List.reverse_cons,Z9];rfl
  have ene:eqB (.lst ((n::s).reverse.map dn)) (.lst [])=false:=(Q0I _ _).mpr λz=>by
   injection z with z;rw[ecd]at z;have:=congrArg List.length z;rw[Zl]at this;cases this
  refine⟨ZI _,Q9D _,rfl,ite2 (λ_=>?_) λz=>?_⟩;rotate_left
  ·have z':¬ (!eqB (.lst ((n::s).reverse.map dn)) (.lst []))=true:=z;rw[ene]at z';exact absurd rfl z'
  erw[Zw]at hsl;refine⟨λρ' M''=>∃ (kd:Kd) (kl:Kl) (s:List (List W)) (v4:Option D),ρ'=[some (.ref a),some (.str o),some (.ref p),some (.ref nl),v4]/\TX M M'' p zs kd kl [nl] c/\M'' nl=some (.lst (s.reverse.map dn))/\s.length+b * j<=1+b * f/\(val kd []).isSome=true/\ChG zs g b c Q j kd kl s,λρ' M'' z=>⟨j,lt_succ_self j,z⟩,?_⟩;rw[eTB];clear eTB e1;show evS T (.seq _ _) _ _ _;refine Q0b λk2 e2=>?_;obtain⟨fs,ob,no⟩:=t.tob;w_up;erw[h348];w_up;refine⟨p,fs,rfl,ob,no _ (by kd_p) (by kd_p) (by kd_p) (by kd_p),?_⟩
  erw[hn];refine⟨nl,_,dn n,rfl,hn,by rw[ecd,Zl,ZL,Nat.add_sub_cancel,ZK (Zq _),sub_self];rfl,?_⟩
  rw[ecd,List.dropLast_concat];have t2:=t.write (b:=nl) (u:=.lst (s.reverse.map dn)) Zp;have n2:dupd M' nl (.lst (s.reverse.map dn)) nl=some (.lst (s.reverse.map dn)):=Q0c;generalize dupd M' nl (.lst (s.reverse.map dn))=M2 at t2 n2;clear t hn;refine⟨M,p,zs,kd,kl,[nl],c,n,on,rfl,t2,hz,c9,hg,hon,λM3 L t3 f3 nd hm=>?_⟩;have n3:=(f3 nl Zp).trans n2;obtain⟨Lb,y,hy,y0,yl1,yl2,hch⟩:=hL L nd hm;have Ls:∀ m∈L,m.length<=20:=λm hm'=>Q7M hg ((hm m).mp hm');clear t2 n2 f3;rw[e2];clear e2;w_up;erw[n3];refine Q0M (λi ys M'=>∃ (kdi:Kd) (kli:Kl) (kept rest:List (List W)),TX M M' p zs kdi kli [nl] c/\M' nl=some (.lst (s.reverse.map dn))/\ys=kept.map dn/\hasL zs g (L.drop i) kdi kli=some (y.1,y.2.1,rest)/\kept++rest=y.2.2/\(val kdi []).isSome=true/\kept.length<=i)
   ⟨kd,kl,[],y.2.2,t3,n3,rfl,hy,rfl,h0,Zq _⟩ (λ_ _ _ _=>trivial) ?_ ?_
  ·rintro i d ys M4 k3 hi ⟨kdi,kli,kept,rest,t4,n4,rfl,hr,hk,hd,kl4⟩ hk3;rw[Zx]at hi;obtain⟨m,em,rfl⟩:=Zu.mp hi;have il:=(Zf.mp em).1;have ed:L.drop i=m::L.drop (i+1):=by
    rw[Y0 il];congr 1;exact (Zf.mp em).2
   rw[ed]at hr;obtain⟨y1,q1,hr⟩:=Zs.mp hr;obtain⟨z,q2,q3⟩:=Zu.mp hr;have zl:=Q5C q2;obtain⟨fs,ob,no⟩:=t4.tob;erw[h349];w_up;refine⟨p,fs,rfl,ob,no _ (by kd_p) (by kd_p) (by kd_p) (by kd_p),M,p,zs,kdi,kli,[nl],c,m,g,y1,rfl,t4,hz,Zr (Ls m (Z6 em)) (by decide),hd,q1,g1,Zr zl.1 (by injection q3 with q3 _;rw[q3];exact yl1),Zr zl.2 (by injection q3 with _ q4;injection q4 with q4 _;rw[q4];exact yl2),c9,λM5 t5 f5=>?_⟩
   have n5:=(f5 nl Zp).trans n4;have s1:=Q2T hz.ok g q1 hd;injection q3 with q3 q4;injection q4 with q4 q5;have hz2:hasL zs g (L.drop (i+1)) y1.1 y1.2.1=some (y.1,y.2.1,z.2.2):=by rw[q2,<- q3,<- q4]
   cases ev:(val y1.1 m).isSome with
   | true =>
    rw[ev,Zg rfl]at q5;refine iteT ⟨small1000 (by rw[Zb];room),hk3 _ _ ⟨y1.1,y1.2.1,kept++[m],z.2.2,t5,n5,by rw[Z9];rfl,hz2,by rw[<- hk,<- q5,List.append_assoc];rfl,s1,by rw[Zl];exact Nat.succ_le_succ kl4⟩⟩
   | false =>
    rw[ev,Zd Zv]at q5;exact iteF (hk3 _ _ ⟨y1.1,y1.2.1,kept,z.2.2,t5,n5,rfl,hz2,by rw[<- hk,<- q5],s1,by room⟩)
  ·rintro ys M4 ⟨kdi,kli,kept,rest,t4,n4,rfl,hr,hk,hd,kl4⟩;rw[Zb]at hr kl4;rw[List.drop_length]at hr;injection hr with hr;injection hr with r1 hr;injection hr with r2 r3;subst r3;rw[Y2]at hk;have sz:(s.reverse.map dn).length+(kept.map dn).length<=sizeLine:=by
    rw[Zb,Zb,length_reverse,ZY];room
   refine⟨by rw[Zb,ZY];room,nl,_,_,rfl,rfl,n4,sz,kdi,kli,kept.reverse++s,_,rfl,t4.write Zp,?_,?_,hd,?_⟩
   ·rw[Q0c,List.reverse_append,List.reverse_reverse,Z9]
   ·rw[Zl,length_reverse];room
   ·rw[r1,r2,hk];exact hch
namespace Tz
theorem Q7N(h1:top.length<i)(h2:i<=n.length)(h3:(zam rows (n.take i)).isSome=true)(h4:∀ j,top.length<j->j<i->(zam rows (n.take j)).isSome=false):cutN top rows n=some (n.take i):=by
 unfold cutN;rw[List.range_eq_range',drop_range'];refine Yh.mpr ⟨h3,i-(top.length+1),?_,?_,λj hj=>?_⟩
 ·rw[Zb,List.length_range'];room
 ·rw[getElem_map,getElem_range'];congr 1;room
 ·rw[getElem_map,getElem_range',h4 _ (by room) (by room)]
  rfl
theorem Q4T(h:cutN top rows n=some c):∃ i,top.length<i/\i<=n.length/\c=n.take i/\(zam rows c).isSome=true/\∀ j,top.length<j->j<i->(zam rows (n.take j)).isSome=false:=by
 unfold cutN at h;rw[List.range_eq_range',drop_range']at h;obtain⟨hs,i,hi,e,hb⟩:=Yh.mp h;rw[Zb,List.length_range']at hi;rw[getElem_map,getElem_range']at e;have ei:0+(top.length+1) * 1+1 * i=top.length+1+i:=by room
 rw[ei]at e;refine⟨top.length+1+i,by room,by room,e.symm,hs,λj g1 g2=>?_⟩
 have:=hb (j-(top.length+1)) (by room)
 rw[getElem_map,getElem_range',show 0+(top.length+1) * 1+1 * (j-(top.length+1))=j from by room]at this
 simpa using this
theorem Q7O(h:cutN top rows (n.take j)=some c):cutN top rows n=some c:=by
 obtain⟨i,h1,h2,rfl,h3,h4⟩:=Q4T h;rw[Zz]at h2;have et:∀ y,y<=i->(n.take j).take y=n.take y:=λy hy=>by rw[take_take,Ye (by room)]
 rw[et i (Zq _)]at h3 ⊢;exact Q7N h1 (by room) h3 λy y1 y2=>by have:=h4 y y1 y2;rwa [et y (by room)]at this
theorem Q7P(h:cutN top rows n=some c)(hj:c.length<=j):cutN top rows (n.take j)=some c:=by
 obtain⟨i,h1,h2,rfl,h3,h4⟩:=Q4T h;have li:(n.take i).length=i:=by rw[Zz];room
 rw[li]at hj;have et:∀ y,y<=i->(n.take j).take y=n.take y:=λy hy=>by rw[take_take,Ye (by room)]
 rw[<- et i (Zq _)]at h3 ⊢;refine Q7N h1 (by rw[Zz];room) h3 λy y1 y2=>?_
 rw[et y (by room)]
 exact h4 y y1 y2
noncomputable def cutT(zs:List Zn)(o:W)(t n:List W):Option (List W):=(atT (ofD zs o) t).bind λz=>cutN z.t z.r n
section
variable{zs:List Zn}{o:W}{t n c:List W}
theorem Q1d(h:cutT zs o t (n.take j)=some c):cutT zs o t n=some c:=by
 obtain⟨z,e,h⟩:=Zs.mp h;exact Zs.mpr ⟨z,e,Q7O h⟩
theorem Q4o(h:cutT zs o t n=some c)(hj:c.length<=j):cutT zs o t (n.take j)=some c:=by
 obtain⟨z,e,h⟩:=Zs.mp h;exact Zs.mpr ⟨z,e,Q7P h hj⟩
theorem Q0L(h:cutT zs o t n=some c):t.length<c.length/\c.length<=n.length/\n.take c.length=c:=by
 obtain⟨z,e,h⟩:=Zs.mp h;obtain⟨i,h1,h2,rfl,_⟩:=Q4T h;rw[atT_t e]at h1;have li:(n.take i).length=i:=by rw[Zz];room
 rw[li];exact⟨h1,h2,rfl⟩
noncomputable def dwT(zs:List Zn)(o:W)(t c:List W):Rp:=match atT (ofD zs o) t with
 | some z=>match zac z.r c with
  | some x=>.down x.n (nmOf x.v) (valsW (zav z.r x.n (nmOf x.v))) (minI ((x::zav z.r x.n (nmOf x.v)).map λx=>x.l))
  | none=>.away
 | none=>.away
theorem Q2U(h:cutT zs o t n=some c)(k:W):repT zs o t n k=dwT zs o t c/\∃ hh ds l,dwT zs o t c=.down c hh ds l:=by
 obtain⟨z,e,h⟩:=Zs.mp h;obtain⟨x,ed⟩:=Q0S h;unfold repT dwT;rw[e];simp only;unfold repZ;rw[h];erw[ed];exact⟨trivial,_,_,_,by rw[(Q1i ed).2.2]⟩
theorem Qbr(h:cutT zs o t n=none)(k:W):∀ c hh ds l,repT zs o t n k≠.down c hh ds l:=λc hh ds l z=>by
 unfold repT at z;cases e:atT (ofD zs o) t with
 | none=>rw[e]at z;cases z
 | some y =>
  rw[e]at z;have h2:cutN y.t y.r n=none:=by
   unfold cutT at h;rw[e]at h;exact h
  simp only at z;unfold repZ at z;rw[h2]at z;simp only at z;split at z
  ·cases z
  ·split at z
   ·cases z
   ·split at z <;> cases z
theorem Q1k(h:repT zs o t n k=.down c hh ds l):cutT zs o t n=some c/\dwT zs o t c=.down c hh ds l:=by
 cases e:cutT zs o t n with
 | none=>exact absurd h (Qbr e k _ _ _ _)
 | some c' =>
  obtain⟨h1,h2,h3,h4,h5⟩:=Q2U e k;rw[h1,h5]at h;injection h with e1 e2 e3 e4;subst e1 e2 e3 e4;exact⟨rfl,h5⟩
end
noncomputable abbrev hasN(kd:Kd)(n:List W):Prop:=(val kd n).isSome=true
theorem Q0B(h:hasN kd []):n.take (topN kd n).length=topN kd n/\hasN kd (topN kd n)/\∀ j,j<=n.length->(topN kd n).length<j->¬ hasN kd (n.take j):=by
 have h0:0∈(List.range (n.length+1)).filter λj=>(val kd (n.take j)).isSome:=ZX.mpr ⟨mem_range.mpr (succ_pos _),by rw[take_zero];exact h⟩
 refine⟨Q2O kd n,?_,λj hj lt hj2=>?_⟩
 ·obtain⟨_,o,e⟩:=Q2r (n:=n) h;exact Z3.mpr ⟨o,e⟩
 ·have hl:(topN kd n).length=topL kd n:=by
   unfold topN;rw[Zz];have:=(Q2r (n:=n) h).1;room
  rw[hl]at lt;have mem:j∈(List.range (n.length+1)).filter λj=>(val kd (n.take j)).isSome:=ZX.mpr ⟨mem_range.mpr (by room),hj2⟩
  unfold topL at lt;cases e:((List.range (n.length+1)).filter λj=>(val kd (n.take j)).isSome).getLast? with
  | none=>rw[getLast?_eq_none_iff.mp e]at h0;cases h0
  | some i =>
   rw[e]at lt;have srt:((List.range (n.length+1)).filter λj=>(val kd (n.take j)).isSome).Pairwise (· < ·):=List.Pairwise.sublist List.filter_sublist List.pairwise_lt_range;obtain⟨ys,ey⟩:=List.getLast?_eq_some_iff.mp e;rw[ey]at srt mem;rcases Z4.mp mem with m | m
   ·have:=(pairwise_append.mp srt).2.2 j m i (Zh.mpr rfl);have lt':i<j:=lt;room
   ·have e9:=Zh.mp m;have lt':i<j:=lt;room
theorem Q2k(h:hasN kd [])(h1:n.take t.length=t)(h2:hasN kd t)(h3:∀ j,j<=n.length->t.length<j->¬ hasN kd (n.take j)):topN kd n=t:=by
 obtain⟨g1,g2,g3⟩:=Q0B (n:=n) h;have l1:t.length<=n.length:=by have:=congrArg List.length h1;rw[Zz]at this;room
 have l2:(topN kd n).length<=n.length:=by have:=congrArg List.length g1;rw[Zz]at this;room
 rcases Nat.lt_trichotomy (topN kd n).length t.length with c | c | c
 ·exact absurd (by rw[h1];exact h2) (g3 _ l1 c)
 ·rw[<- g1,<- h1,c]
 ·exact absurd (by rw[g1];exact g2) (h3 _ l2 c)
noncomputable def rpA(zs:List Zn)(kd:Kd)(n:List W)(k:W):Rp:=repT zs (zaa kd (topN kd n)) (topN kd n) n k
noncomputable def cutA(zs:List Zn)(kd:Kd)(n:List W):Option (List W):=cutT zs (zaa kd (topN kd n)) (topN kd n) n
inductive Lead(zs:List Zn)(kd:Kd):List W->W->Prop
 | rows {n:List W} {d:W} {ds:List W} {l:Int} (h:rpA zs kd n za1=.rows (d::ds) l):Lead zs kd n d
 | els {n m:List W} {d:W} {l:Int} (h:rpA zs kd n za1=.els m l) (g:Lead zs kd m d):Lead zs kd n d
structure Stp(zs:List Zn)(kd:Kd)(c:List W)(d:W):Prop where
 new:¬ hasN kd c
 is:∃ h ds l,rpA zs kd c za1=.down c h ds l/\(∀ d' r,ds=d'::r->d=d')/\(ds=[]->Lead zs kd h d)
inductive Gd(zs:List Zn)(root:W):Kd->Prop
 | one:Gd zs root [([],root)]
 | step {kd:Kd} {c:List W} {d:W} (g:Gd zs root kd) (s:Stp zs kd c d):Gd zs root (kd++[(c,d)])
inductive Ups(zs:List Zn):Kd->Kd->Prop
 | refl {kd:Kd}:Ups zs kd kd
 | step {kd kd':Kd} {c:List W} {d:W} (g:Ups zs kd kd') (s:Stp zs kd' c d):Ups zs kd (kd'++[(c,d)])
theorem Ups.trans(h:Ups zs a b)(g:Ups zs b c):Ups zs a c:=by
 induction g with
 | refl=>exact h
 | step _ s ih=>exact .step ih s
theorem Gd.ups(h:Gd zs root a)(g:Ups zs a b):Gd zs root b:=by
 induction g with
 | refl=>exact h
 | step _ s ih=>exact .step ih s
theorem Q1l(kd:Kd)(c n:List W)(d:W):val (kd++[(c,d)]) n=(val kd n).or (if c=n then some d else none):=by
 unfold val;rw[List.find?_append];cases e:kd.find? λkv=>decide (kv.1=n) with
 | some p=>rfl
 | none =>
  by_cases z:c=n
  ·rw[List.find?_cons_of_pos (by exact Zm z),Zg z];rfl
  ·rw[find?_cons_of_neg (by rw[Ze];exact z),Zd z];rfl
theorem Q2l{kd:Kd}{c n:List W}{d o:W}(h:val kd n=some o):val (kd++[(c,d)]) n=some o:=by rw[Q1l,h];rfl
theorem Q0n:hasN (kd++[(c,d)]) n <-> hasN kd n\/c=n:=by
 unfold hasN;rw[Q1l];cases val kd n with
 | some o=>exact⟨λ_=>.inl rfl,λ_=>rfl⟩
 | none =>
  by_cases z:c=n
  ·rw[Zg z];exact⟨λ_=>.inr z,λ_=>rfl⟩
  ·rw[Zd z];exact⟨λy=>absurd y (by decide),λy=>y.elim (λy=>absurd y (by decide)) λy=>absurd y z⟩
theorem Gd.root{zs:List Zn}{root:W}{kd:Kd}(h:Gd zs root kd):val kd []=some root:=by
 induction h with
 | one=>rfl
 | step _ _ ih=>exact Q2l ih
theorem Gd.has0{zs:List Zn}{root:W}{kd:Kd}(h:Gd zs root kd):hasN kd []:=by unfold hasN;rw[h.root];rfl
theorem Ups.val(g:Ups zs a b)(h:val a n=some o):val b n=some o:=by
 induction g with
 | refl=>exact h
 | step _ _ ih=>exact Q2l ih
theorem Ups.has(g:Ups zs a b)(h:hasN a n):hasN b n:=by
 obtain⟨o,e⟩:=Z3.mp h;unfold hasN;rw[g.val e];rfl
section
variable{zs:List Zn}{kd:Kd}{c n:List W}{d:W}
theorem Stp.cut(s:Stp zs kd c d)(h0:hasN kd [])(hc:n.take c.length=c)(hl:(topN kd n).length<c.length):topN kd c=topN kd n/\cutT zs (zaa kd (topN kd n)) (topN kd n) c=some c:=by
 obtain⟨g1,g2,g3⟩:=Q0B (n:=n) h0;have lc:c.length<=n.length:=by have:=congrArg List.length hc;rw[Zz]at this;room
 have et:topN kd c=topN kd n:=by
  refine Q2k h0 ?_ g2 λj hj lt=>?_
  ·rw[<- hc,take_take,Ye (le_of_lt hl)];exact g1
  ·rw[<- hc,take_take,Ye hj];exact g3 j (Zr hj lc) lt
 obtain⟨h,ds,l,e,_⟩:=s.is;refine⟨et,?_⟩;have:=(Q1k e).1;rw[et]at this;exact this
theorem Q5D(h0:hasN kd [])(h:¬ (n.take c.length=c/\(topN kd n).length<c.length)):topN (kd++[(c,d)]) n=topN kd n:=by
 obtain⟨g1,g2,g3⟩:=Q0B (n:=n) h0;refine Q2k (Q0n.mpr (.inl h0)) g1 (Q0n.mpr (.inl g2)) λj hj lt z=>?_;rcases Q0n.mp z with z | z
 ·exact g3 j hj lt z
 ·have lj:c.length=j:=by rw[z,Zz];room
  exact h ⟨by rw[lj];exact z.symm,by room⟩
theorem Q7Q(h0:hasN kd [])(h:topN (kd++[(c,d)]) n=topN kd n):zaa (kd++[(c,d)]) (topN (kd++[(c,d)]) n)=zaa kd (topN kd n):=by
 rw[h];obtain⟨o,e⟩:=Z3.mp (Q0B (n:=n) h0).2.1;unfold zaa;rw[Q2l e,e]
theorem Stp.same(s:Stp zs kd c d)(h0:hasN kd [])(h:cutA zs kd n=none):topN (kd++[(c,d)]) n=topN kd n:=by
 refine Q5D h0 λz=>?_;have:=(s.cut h0 z.1 z.2).2;have lc:c=n.take c.length:=z.1.symm;rw[lc]at this;have h2:=Q1d this;unfold cutA at h;rw[h]at h2;cases h2
theorem Stp.same2(s:Stp zs kd c d)(h0:hasN kd [])(h:cutA zs kd n=some c0)(ne:c≠c0):topN (kd++[(c,d)]) n=topN kd n:=by
 refine Q5D h0 λz=>?_;have:=(s.cut h0 z.1 z.2).2;rw[show cutT zs (zaa kd (topN kd n)) (topN kd n) c=cutT zs (zaa kd (topN kd n)) (topN kd n) (n.take c.length) by rw[z.1]]at this
 have h2:=Q1d this;unfold cutA at h;rw[h]at h2;injection h2 with h2;exact ne h2.symm
theorem Q2s(h0:hasN kd [])(h:topN (kd++[(c,d)]) n=topN kd n)(k:W):rpA zs (kd++[(c,d)]) n k=rpA zs kd n k/\cutA zs (kd++[(c,d)]) n=cutA zs kd n:=by
 unfold rpA cutA;rw[Q7Q h0 h,h];exact⟨rfl,rfl⟩
theorem Q1Y(h:∀ c hh ds l,rpA zs kd n k≠.down c hh ds l):cutA zs kd n=none:=by
 cases e:cutA zs kd n with
 | none=>rfl
 | some c =>
  obtain⟨h1,hh,ds,l,h2⟩:=Q2U e k;exact absurd (h1.trans h2) (h c hh ds l)
end
section
variable{zs:List Zn}{kd kd':Kd}{n:List W}
theorem Ups.same(g:Ups zs kd kd')(h0:hasN kd [])(h:cutA zs kd n=none):topN kd' n=topN kd n/\(∀ k,rpA zs kd' n k=rpA zs kd n k)/\cutA zs kd' n=none:=by
 induction g with
 | refl=>exact⟨rfl,λ_=>rfl,h⟩
 | step g s ih =>
  obtain⟨i1,i2,i3⟩:=ih;have e:=s.same (g.has h0) i3;exact⟨e.trans i1,λk=>(Q2s (g.has h0) e k).1.trans (i2 k),(Q2s (g.has h0) e za1).2.trans i3⟩
theorem Ups.same2(g:Ups zs kd kd')(h0:hasN kd [])(h:cutA zs kd n=some c0)(ne:¬ hasN kd' c0):topN kd' n=topN kd n/\(∀ k,rpA zs kd' n k=rpA zs kd n k)/\cutA zs kd' n=some c0:=by
 induction g with
 | refl=>exact⟨rfl,λ_=>rfl,h⟩
 | step g s ih =>
  obtain⟨i1,i2,i3⟩:=ih λz=>ne (Q0n.mpr (.inl z));have e:=s.same2 (g.has h0) i3 λz=>ne (Q0n.mpr (.inr z));exact⟨e.trans i1,λk=>(Q2s (g.has h0) e k).1.trans (i2 k),(Q2s (g.has h0) e za1).2.trans i3⟩
theorem Lead.ups(g:Ups zs kd kd')(h0:hasN kd [])(h:Lead zs kd n d):Lead zs kd' n d:=by
 induction h with
 | rows h=>exact .rows (((g.same h0 (Q1Y (k:=za1) (by rw[h];exact λ_ _ _ _ z=>nomatch z))).2.1 za1).trans h)
 | els h _ ih=>exact .els (((g.same h0 (Q1Y (k:=za1) (by rw[h];exact λ_ _ _ _ z=>nomatch z))).2.1 za1).trans h) ih
end
theorem Q6d(xs:List W):(zby xs).Perm xs/\(zby xs).Pairwise (λx y=>x<=y) :=
 Classical.epsilon_spec (p:=λzs':List W=>zs'.Perm xs/\zs'.Pairwise (λx y=>x<=y)) ⟨xs.mergeSort λa b=>decide (a<=b),List.mergeSort_perm _ _,(List.pairwise_mergeSort (λa b c h g=>by
  rw[Ze]at h g ⊢;exact Std.le_trans h g) (λa b=>by
  rw[or_eq_true,Ze,Ze];exact Std.le_total) xs).imp λh=>by rwa [Ze]at h⟩
theorem Q7R:repT zs o t n k≠.rows [] l:=λz=>by
 unfold repT at z;split at z
 ·unfold repZ at z;split at z
  ·split at z <;> cases z
  ·split at z
   ·cases z
   ·split at z
    ·cases z
    ·split at z
     ·cases z
     ·next x r _ =>
      injection z with z;have:=(Q6d ((x::r).map λx=>zaU x.v)).1.length_eq;have z2:zby ((x::r).map λx=>zaU x.v)=[]:=z;rw[z2]at this;simp at this
 ·cases z
section
variable{zs:List Zn}{root:W}{kd:Kd}{n c:List W}
theorem Q0J(h0:hasN kd [])(e:rpA zs kd n k=.down c h ds l):¬ hasN kd c/\(∀ k',rpA zs kd c k'=.down c h ds l)/\cutA zs kd n=some c/\cutA zs kd c=some c/\n.take c.length=c/\(topN kd n).length<c.length/\c.length<=n.length/\topN kd c=topN kd n:=by
 obtain⟨e1,e2⟩:=Q1k e;obtain⟨l1,l2,l3⟩:=Q0L e1;obtain⟨g1,g2,g3⟩:=Q0B (n:=n) h0;have et:topN kd c=topN kd n:=by
  refine Q2k h0 ?_ g2 λj hj lt=>?_
  ·rw[<- l3,take_take,Ye (le_of_lt l1)];exact g1
  ·rw[<- l3,take_take,Ye hj];exact g3 j (Zr hj l2) lt
 have ec:cutA zs kd c=some c:=by
  unfold cutA;rw[et];have:=Q4o e1 (Zq _);rw[l3]at this;exact this
 refine⟨λz=>g3 _ l2 l1 (by rw[l3];exact z),λk'=>?_,e1,ec,l3,l1,l2,et⟩
 have:=(Q2U (k:=k') ec).1;unfold rpA;rw[this,et,e2]
theorem Q4p(h0:hasN kd [])(g:Goes (rpA zs kd n k) c d):Stp zs kd c d/\put kd c d=kd++[(c,d)]/\topN (kd++[(c,d)]) n=c/\zaa (kd++[(c,d)]) c=d/\(topN kd n).length<c.length/\c.length<=n.length:=by
 obtain⟨h,ds,l,e⟩:=g;obtain⟨a1,a2,a3,a4,a5,a6,a7,a8⟩:=Q0J h0 e;have vn:val kd c=none:=Option.not_isSome_iff_eq_none.mp a1;refine⟨⟨a1,h,d::ds,l,a2 za1,λd' r z=>by injection z,(λz=>nomatch z)⟩,Q4Q vn,?_,?_,a6,a7⟩
 ·refine Q2k (Q0n.mpr (.inl h0)) a5 (Q0n.mpr (.inr rfl)) λj hj lt z=>?_;rcases Q0n.mp z with z | z
  ·exact (Q0B (n:=n) h0).2.2 j hj (by room) z
  ·have:=congrArg List.length z;rw[Zz]at this;room
 ·unfold zaa;rw[Q1l,vn,Zg rfl];rfl
theorem Qa0:∀ (f:Nat) {kd:Kd},hasN kd []->n.length<=f+(topN kd n).length->∃ kd' r,rsA zs n k f kd (topN kd n) (zaa kd (topN kd n))=(kd',r)/\Ups zs kd kd'/\r=rpA zs kd' n k/\∀ c d,¬ Goes r c d
 | f,kd,h0,hf=>by
  by_cases g:∃ c d,Goes (rpA zs kd n k) c d
  ·obtain⟨c,d,g⟩:=g;obtain⟨s,e1,e2,e3,l1,l2⟩:=Q4p h0 g;obtain⟨f,rfl⟩:∃ j,f=j+1:=⟨f-1,by room⟩
   obtain⟨kd',r,q1,q2,q3,q4⟩:=Qa0 f (kd:=kd++[(c,d)]) (Q0n.mpr (.inl h0)) (by rw[e2];room)
   refine⟨kd',r,?_,(Ups.step .refl s).trans q2,q3,q4⟩;rw[Q1B g,e1];rw[e2,e3]at q1;exact q1
  ·refine⟨kd,rpA zs kd n k,Q1C λc d z=>g ⟨c,d,z⟩,.refl,rfl,λc d z=>g ⟨c,d,z⟩⟩
theorem QcT(h0:hasN kd []):∃ kd' r,rsf zs kd n k=(kd',r)/\Ups zs kd kd'/\r=rpA zs kd' n k/\∀ c d,¬ Goes r c d:=Qa0 n.length h0 (by room)
end
theorem Q3C:∀ {f:Nat} {kd kd':Kd} {t:List W} {o:W} {r:Rp},hasN kd []->rpA zs kd c za1=.down c h [] l->rsA zs n k f kd t o=(kd',r)->t=topN kd n->o=zaa kd (topN kd n)->¬ hasN kd' c
 | 0,kd,kd',t,o,r,h0,ec,e,et,eo=>by cases e;exact (Q0J h0 ec).1
 | f+1,kd,kd',t,o,r,h0,ec,e,et,eo=>by
  subst et eo;obtain⟨nc,_,_,cc,_⟩:=Q0J h0 ec;by_cases g:∃ c d,Goes (rpA zs kd n k) c d
  ·obtain⟨c',d,g⟩:=g;obtain⟨st,e1,e2,e3,l1,l2⟩:=Q4p h0 g;rw[Q1B g,e1]at e;have n1:¬ hasN (kd++[(c',d)]) c:=λz=>by
    rcases Q0n.mp z with z | z
    ·exact nc z
    ·subst z;obtain⟨g1,ds',l2',g2⟩:=g;have:=(Q0J h0 g2).2.1 za1;rw[ec]at this;injection this with _ _ this;cases this
   exact Q3C (Q0n.mpr (.inl h0)) ((((Ups.step .refl st).same2 h0 cc n1).2.1 za1).trans ec) e e2.symm (by rw[e2];exact e3.symm)
  ·rw[show rsA zs n k (f+1) kd (topN kd n) (zaa kd (topN kd n))=(kd,rpA zs kd n k) from Q1C λc d z=>g ⟨c,d,z⟩]at e;cases e;exact nc
def ChI(zs:List Zn)(kd:Kd):Ch->Prop
 | []=>True
 | (some c,h)::s=>(∃ l,rpA zs kd c za1=.down c h [] l/\∀ c1 n1 s',s=(c1,n1)::s'->rpA zs kd n1 za1=.down c h [] l)/\ChI zs kd s
 | (none,m)::s=>(∃ c1 n1 s' l,s=(c1,n1)::s'/\rpA zs kd n1 za1=.els m l)/\ChI zs kd s
theorem Q9E(h0:hasN kd [])(g:Ups zs kd kd')(h:rpA zs kd n za1=.els m l):rpA zs kd' n za1=.els m l :=
 ((g.same h0 (Q1Y (k:=za1) (by rw[h];exact λ_ _ _ _ z=>nomatch z))).2.1 za1).trans h
theorem Q2V(h0:hasN kd [])(g:Ups zs kd kd')(nc:¬ hasN kd' c)(e:rpA zs kd n za1=.down c h ds l):rpA zs kd' n za1=.down c h ds l :=
 ((g.same2 h0 (Q0J h0 e).2.2.1 nc).2.1 za1).trans e
theorem ChI.ups(h0:hasN kd [])(g:Ups zs kd kd'):∀ {s:Ch},(∀ c h,(some c,h)∈s->¬ hasN kd' c)->ChI zs kd s->ChI zs kd' s
 | [],_,_=>trivial
 | (some c,h)::s,hn,⟨⟨l,a2,a4⟩,a3⟩=>by
  have nc:=hn c h Zp;exact⟨⟨l,Q2V h0 g nc a2,λc1 n1 s' e=>Q2V h0 g nc (a4 c1 n1 s' e)⟩,a3.ups h0 g λc' h' hm=>hn c' h' (Zo _ hm)⟩
 | (none,m)::s,hn,⟨⟨c1,n1,s',l,e,a2⟩,a3⟩=>⟨⟨c1,n1,s',l,e,Q9E h0 g a2⟩,a3.ups h0 g λc' h' hm=>hn c' h' (Zo _ hm)⟩
theorem ChI.mem:∀ {s:Ch},ChI zs kd s->∀ {c h},(some c,h)∈s->∃ l,rpA zs kd c za1=.down c h [] l
 | (some c,h)::s,⟨⟨l,a,_⟩,b⟩,c',h',hm=>by
  rcases Z1.mp hm with e | hm
  ·cases e;exact⟨l,a⟩
  ·exact b.mem hm
 | (none,m)::s,⟨_,b⟩,c',h',hm=>by
  rcases Z1.mp hm with e | hm
  ·cases e
  ·exact b.mem hm
def Fd(kl:Kl)(s:Ch)(n:List W):Prop:=val kl n=some none/\n∉s.map (·.2)
def Dead(zs:List Zn)(kd:Kd)(F:List W->Prop)(n:List W):Prop:=match rpA zs kd n za1 with
 | .els m _=>F m
 | .down _ h ds _=>ds=[]/\F h
 | .rows _ _=>False
 | _=>True
theorem Dead.imp{F G:List W->Prop}(h:Dead zs kd F n)(g:∀ n,F n->G n):Dead zs kd G n:=by
 unfold Dead at h ⊢;cases e:rpA zs kd n za1 <;> rw[e]at h
 case els m _=>exact g m h
 case down c m ds _=>exact⟨h.1,g m h.2⟩
 case rows=>exact h.elim
 all_goals trivial
theorem Dead.ups{F:List W->Prop}(h0:hasN kd [])(g:Ups zs kd kd')(h:Dead zs kd F n)(hn:∀ c m l,rpA zs kd c za1=.down c m [] l->F m->¬ hasN kd' c):Dead zs kd' F n:=by
 have e:rpA zs kd' n za1=rpA zs kd n za1:=by
  cases e:rpA zs kd n za1 with
  | down c m ds l =>
   unfold Dead at h;rw[e]at h;obtain⟨rfl,hm⟩:=(show ds=[]/\F m from h);exact Q2V h0 g (hn c m l ((Q0J h0 e).2.1 za1) hm) e
  | _=>exact ((g.same h0 (Q1Y (k:=za1) (by rw[e];exact λ_ _ _ _ z=>nomatch z))).2.1 za1).trans e
 unfold Dead;rw[e];exact h
theorem Dead.no{F:List W->Prop}(h:∀ n,F n->Dead zs kd F n)(g:Lead zs kd n d):¬ F n:=by
 induction g with
 | rows e =>
  intro z;have:=h _ z;unfold Dead at this;rw[e]at this;exact this
 | els e _ ih =>
  intro z;have:=h _ z;unfold Dead at this;rw[e]at this;exact ih this
theorem Qa1{kl:Kl}{s:Ch}{c:Option (List W)}{m:List W}{o:W}:Fd (put kl m (some o)) s=Fd kl ((c,m)::s):=funext λn=>propext (by
 unfold Fd;rw[Q0R,ZC,Z1,not_or];by_cases e:n=m
 ·rw[Zg e];exact⟨(λz=>nomatch z.1),λz=>absurd e z.2.1⟩
 ·rw[Zd e];exact⟨λz=>⟨z.1,e,z.2⟩,λz=>⟨z.1,z.2.2⟩⟩)
theorem Q7S{kl:Kl}{s:Ch}{c:Option (List W)}{n:List W}{o:W}(e:val kl n=some (some o)):Fd kl ((c,n)::s)=Fd kl s:=funext λx=>propext (by
 unfold Fd;rw[ZC,Z1,not_or];exact⟨λz=>⟨z.1,z.2.2⟩,λz=>⟨z.1,(λy=>by have z1:=z.1;rw[y,show val kl (c,n).2=_ from e]at z1;cases z1),z.2⟩⟩)
theorem QcU{kl:Kl}{s:Ch}{c:Option (List W)}{n:List W}(e:val kl n=none):Fd (put kl n none) ((c,n)::s)=Fd kl s:=funext λx=>propext (by
 unfold Fd;rw[Q0R,ZC,Z1,not_or];by_cases z:x=n
 ·rw[Zg z,z,e];exact⟨λy=>absurd rfl y.2.1,(λy=>nomatch y.1)⟩
 ·rw[Zd z];exact⟨λy=>⟨y.1,y.2.2⟩,λy=>⟨y.1,z,y.2⟩⟩)
theorem ChI.dead:∀ {s:Ch} {c:Option (List W)} {n:List W},ChI zs kd ((c,n)::s)->val kl n=some none->(∀ y∈s,val kl y.2=some none)->∀ x∈s.map (·.2),Dead zs kd (Fd kl []) x
 | [],_,_,_,_,_,x,hx=>nomatch hx
 | (c1,n1)::s,c,n,hc,hn,hs,x,hx=>by
  have h2:ChI zs kd ((c1,n1)::s):=by cases c <;> exact hc.2
  rcases Z1.mp hx with ex | hx
  ·rw[ex];have fn:Fd kl [] n:=⟨hn,ZA⟩;unfold Dead;cases c with
   | none =>
    obtain⟨⟨c1',n1',s',l,e,a⟩,_⟩:=hc;cases e;rw[show rpA zs kd (c1,n1).2 za1=_ from a];exact fn
   | some cc =>
    obtain⟨⟨l,_,a⟩,_⟩:=hc;rw[show rpA zs kd (c1,n1).2 za1=_ from a c1 n1 s rfl];exact⟨rfl,fn⟩
  ·exact h2.dead (hs _ Zp) (λy hy=>hs y (Zo _ hy)) x hx
noncomputable def NV(zs:List Zn):List (List W):=zs.flatMap λz=>z.r.map λx=>nmOf x.v
noncomputable def DN(zs:List Zn):List (List W):=zs.flatMap λz=>z.r.map λx=>x.n
theorem nv_in(hz:z∈zs)(hx:x∈z.r):nmOf x.v∈NV zs/\x.n∈DN zs :=
 ⟨mem_flatMap.mpr ⟨z,hz,ZJ.mpr ⟨x,hx,rfl⟩⟩,mem_flatMap.mpr ⟨z,hz,ZJ.mpr ⟨x,hx,rfl⟩⟩⟩
theorem Q4q:(∀ m l,repT zs o t n k=.els m l->m∈NV zs)/\∀ c h ds l,repT zs o t n k=.down c h ds l->h∈NV zs/\c∈DN zs:=by
 unfold repT;cases ez:atT (ofD zs o) t with
 | none=>exact⟨(λ_ _ z=>nomatch z),(λ_ _ _ _ z=>nomatch z)⟩
 | some z =>
  have hz:z∈zs:=Q0Z (Q1a ez);simp only;unfold repZ;cases ec:cutN z.t z.r n with
  | some c =>
   obtain⟨x,ed⟩:=Q0S ec;erw[ed];refine⟨(λ_ _ z=>nomatch z),λc hh ds l z=>?_⟩
   injection z with z1 z2;have:=nv_in hz (Q1i ed).1;rw[<- z1,<- z2];exact this
  | none =>
   simp only;split
   ·exact⟨(λ_ _ z=>nomatch z),(λ_ _ _ _ z=>nomatch z)⟩
   ·split
    ·next x r ee =>
     have hx:x∈zad (atN z.r (zag z.t z.r n)) za9:=by rw[ee];exact Zp
     exact⟨λm l z=>by injection z with z;rw[<- z];exact (nv_in hz (Q1h (Q0G hx).1).1).1,(λ_ _ _ _ z=>nomatch z)⟩
    ·split <;> exact⟨(λ_ _ z=>nomatch z),(λ_ _ _ _ z=>nomatch z)⟩
theorem Gd.names{zs:List Zn}{root:W}{kd:Kd}(h:Gd zs root kd):(kd.map (·.1)).Nodup/\(∀ p∈kd,p.1∈[]::DN zs)/\∀ n,n∈kd.map (·.1) <-> hasN kd n:=by
 induction h with
 | one=>exact⟨Yw.mpr ⟨ZA,nodup_nil⟩,λp hp=>by rw[Zh.mp hp];exact Zp,λn=>⟨λz=>by rw[Zh.mp z];rfl,λz=>by
   by_cases e:([]:List W)=n
   ·rw[<- e];exact Zp
   ·unfold hasN val at z;rw[find?_cons_of_neg (by rw[Ze];exact e)]at z
    cases z⟩⟩
 | @step kd c d g s ih =>
  obtain⟨i1,i2,i3⟩:=ih;refine⟨?_,λp hp=>?_,λn=>?_⟩
  ·rw[Z9,nodup_append];refine⟨i1,Yx _ _,λa ha b hb z=>s.new ?_⟩;have e:=Zh.mp hb;have e2:a=c:=z.trans e;rw[<- e2];exact (i3 a).mp ha
  ·rcases Z4.mp hp with hp | hp
   ·exact i2 p hp
   ·rw[Zh.mp hp];obtain⟨h,ds,l,e,_⟩:=s.is;exact Zo _ (Q4q.2 _ _ _ _ e).2
  ·rw[Q0n,<- i3 n,Z9,Z4];exact⟨λz=>z.imp id λy=>(Zh.mp y).symm,λz=>z.imp id λy=>Zh.mpr y.symm⟩
theorem Gd.len{zs:List Zn}{root:W}{kd:Kd}(h:Gd zs root kd):kd.length<=(DN zs).length+1:=by
 obtain⟨h1,h2,_⟩:=h.names;have:=h1.length_le_of_subset (l₂:=[]::DN zs) λn hn=>by
  obtain⟨p,hp,rfl⟩:=ZJ.mp hn;exact h2 p hp
 rwa [Zb]at this
theorem Ups.len(g:Ups zs a b):a.length<=b.length:=by
 induction g with
 | refl=>exact Zq _
 | step _ _ ih=>rw[Zl];exact Nat.le_add_right_of_le ih
theorem Ups.lt(g:Ups zs a b)(h:¬ hasN a c)(h2:hasN b c):a.length<b.length:=by
 cases g with
 | refl=>exact absurd h2 h
 | step g _=>rw[Zl];exact Nat.lt_succ_of_le g.len
theorem Q4U{α:Type}{kvs:List (List W×α)}{k:List W}{v:α}:kvs.length<=(put kvs k v).length/\(val kvs k=none->(put kvs k v).length=kvs.length+1):=by
 unfold put;split
 ·next e =>
  rw[Zb];refine⟨Zq _,λz=>?_⟩;rw[Q4P,z]at e;cases e
 ·rw[Zl];exact⟨le_succ _,λ_=>rfl⟩
theorem Q1F{α:Type}{kvs:List (List W×α)}{k:List W}{v:α}(h:(kvs.map (·.1)).Nodup):((put kvs k v).map (·.1)).Nodup/\∀ p∈put kvs k v,p.1=k\/∃ q∈kvs,q.1=p.1:=by
 unfold put;split
 ·rw[map_map,show ((·.1) ∘ λkv:List W×α=>if kv.1=k then (kv.1,v) else kv)=(·.1) from funext λkv=>by show (if kv.1=k then (kv.1,v) else kv).1=kv.1;split <;> rfl]
  refine⟨h,λp hp=>?_⟩;obtain⟨q,hq,rfl⟩:=ZJ.mp hp;refine .inr ⟨q,hq,?_⟩;split <;> rfl
 ·next e =>
  refine⟨?_,λp hp=>(Z4.mp hp).elim (λy=>.inr ⟨p,y,rfl⟩) λy=>.inl (by rw[Zh.mp y])⟩
  rw[Z9,nodup_append];refine⟨h,Yx _ _,λa ha b hb z=>e ?_⟩;obtain⟨q,hq,rfl⟩:=ZJ.mp ha;rw[any_eq_true];exact⟨q,hq,Zm (z.trans (Zh.mp hb))⟩
structure SI(zs:List Zn)(root:W)(kd:Kd)(kl:Kl)(s:Ch):Prop where
 g:Gd zs root kd
 v:∀ n o,val kl n=some (some o)->Lead zs kd n o
 c:ChI zs kd s
 p:∀ x∈s,val kl x.2=some none
 d:(s.map (·.2)).Nodup
 kn:(kl.map (·.1)).Nodup
 ks:∀ p∈kl,p.1∈NV zs
 f:∀ n,Fd kl s n->Dead zs kd (Fd kl s) n
theorem SI.fail(h:SI zs root kd kl ((c0,n0)::s))(hd:Dead zs kd (Fd kl []) n0):SI zs root kd kl []:=by
 refine { h with c:=trivial,p:=(λ_ z=>nomatch z),d:=nodup_nil,f:=λn z=>?_ }
 by_cases e:n=n0
 ·rw[e];exact hd
 ·by_cases hm:n∈s.map (·.2)
  ·exact h.c.dead (h.p _ Zp) (λy hy=>h.p y (Zo _ hy)) n hm
  ·exact (h.f n ⟨z.1,λy=>(Z1.mp y).elim e hm⟩).imp λm y=>⟨y.1,ZA⟩
theorem SI.len(h:SI zs root kd kl s):kl.length<=(NV zs).length:=by
 have:=h.kn.length_le_of_subset (l₂:=NV zs) λn hn=>by
  obtain⟨p,hp,rfl⟩:=ZJ.mp hn;exact h.ks p hp
 rwa [Zb]at this
theorem SI.told(h:SI zs root kd kl s)(e:rsf zs kd n k=(kd',r)):SI zs root kd' kl s/\Ups zs kd kd'/\r=rpA zs kd' n k/\∀ c d,¬ Goes r c d:=by
 have h0:=h.g.has0;obtain⟨kd1,r1,q1,q2,q3,q4⟩:=QcT (zs:=zs) (n:=n) (k:=k) h0;rw[e]at q1;injection q1 with q5 q6;subst q5 q6;refine⟨{ h with g:=h.g.ups q2,v:=λn o z=>(h.v n o z).ups q2 h0,c:=ChI.ups h0 q2 (λc m hm=>?_) h.c,f:=λn z=>(h.f n z).ups h0 q2 λc m l e9 _=>Q3C h0 e9 e rfl rfl },q2,q3,q4⟩;obtain⟨l,e9⟩:=h.c.mem hm;exact Q3C h0 e9 e rfl rfl
section
variable{zs:List Zn}{root:W}
theorem Q2W{o:W}:∀ {s:Ch} {kd:Kd} {kl:Kl},Gd zs root kd->(∀ n o,val kl n=some (some o)->Lead zs kd n o)->ChI zs kd s->(s.map (·.2)).Nodup->(kl.map (·.1)).Nodup->(∀ p∈kl,p.1∈NV zs)->(∀ x∈s,x.2∈NV zs)->(∀ n,Fd kl s n->Dead zs kd (Fd kl s) n) ->
  ∀ x s',s=x::s'->(∀ y∈s',val kl y.2=some none)->Lead zs kd x.2 o->∃ y,zaq s o kd kl=some y/\SI zs root y.1 y.2.1 y.2.2/\Ups zs kd y.1/\y.1.length=kd.length+1/\y.2.2.length<s.length/\kl.length<=y.2.1.length/\Fd y.2.1 y.2.2=Fd kl s/\∀ c h,(some c,h)∈s->hasN y.1 c\/(some c,h)∈y.2.2
 | [],_,_,_,_,_,_,_,_,_,_,x,s',e,_,_=>nomatch e
 | (some c,h)::s,kd,kl,g,v,⟨⟨l,ec,_⟩,cs⟩,d,kn,ks,sn,hf,x,s',e,pe,ld=>by
  cases e;have h0:=g.has0;have nc:=(Q0J h0 ec).1;have st:Stp zs kd c o:=⟨nc,h,[],l,ec,(λ_ _ z=>nomatch z),λ_=>ld⟩
  have ep:put kd c o=kd++[(c,o)]:=Q4Q (Option.not_isSome_iff_eq_none.mp nc);have up:Ups zs kd (kd++[(c,o)]):=.step .refl st;have ef:Fd (put kl h (some o)) s=Fd kl ((some c,h)::s):=Qa1;have other:∀ c' h' l',rpA zs kd c' za1=.down c' h' [] l'->h'≠h->¬ hasN (kd++[(c,o)]) c':=λc' h' l' b2 ne z=>by
   rcases Q0n.mp z with z | z
   ·exact (Q0J h0 b2).1 z
   ·subst z;rw[ec]at b2;injection b2 with _ b2;exact ne b2.symm
  rw[ZC,Yw]at d;refine⟨(put kd c o,put kl h (some o),s),Zd nc,?_,by rw[ep];exact up,by rw[ep,Zl];rfl,lt_succ_self _,Q4U.1,ef,λc' h' hm=>?_⟩
  rotate_left
  ·rcases Z1.mp hm with e | hm
   ·cases e;left;rw[ep];exact Q0n.mpr (.inr rfl)
   ·exact .inr hm
  rw[ep];refine⟨.step g st,λn o' z=>?_,ChI.ups h0 up (λc' h' hm=>?_) cs,λy hy=>?_,d.2,(Q1F kn).1,λp hp=>?_,λn z=>?_⟩
  ·rw[Q0R]at z;by_cases en:n=h
   ·rw[Zg en]at z;injection z with z;injection z with z;rw[en,<- z];exact ld.ups up h0
   ·rw[Zd en]at z;exact (v n o' z).ups up h0
  ·obtain⟨l',b2⟩:=cs.mem hm;exact other c' h' l' b2 λz=>d.1 (ZJ.mpr ⟨_,hm,z⟩)
  ·rw[Q0R,Zd λz=>d.1 (ZJ.mpr ⟨y,hy,z⟩)];exact pe y hy
  ·rcases (Q1F kn).2 p hp with z | ⟨q,hq,z⟩
   ·rw[z];exact sn _ Zp
   ·rw[<- z];exact ks q hq
  ·have z':Fd kl ((some c,h)::s) n:=by rw[<- ef];exact z
   have:Dead zs (kd++[(c,o)]) (Fd kl ((some c,h)::s)) n:=(hf n z').ups h0 up λc' m l' b2 fm=>other c' m l' b2 λy=>fm.2 (by rw[y];exact Zp)
   rw[<- ef]at this;exact this
 | (none,m)::s,kd,kl,g,v,⟨⟨c1,n1,s2,l,es,er⟩,cs⟩,d,kn,ks,sn,hf,x,s',e,pe,ld=>by
  cases e;have ef:Fd (put kl m (some o)) s=Fd kl ((none,m)::s):=Qa1;rw[ZC,Yw]at d;obtain⟨y,q1,q2,q3,q4,q5,q6,q7,q8⟩:=Q2W (o:=o) (s:=s) (kd:=kd) (kl:=put kl m (some o)) g (λn o' z=>by
   rw[Q0R]at z;by_cases en:n=m
   ·rw[Zg en]at z;injection z with z;injection z with z;rw[en,<- z];exact ld
   ·rw[Zd en]at z;exact v n o' z) cs d.2 (Q1F kn).1 (λp hp=>by
   rcases (Q1F kn).2 p hp with z | ⟨q,hq,z⟩
   ·rw[z];exact sn _ Zp
   ·rw[<- z];exact ks q hq) (λx hx=>sn x (Zo _ hx)) (by rw[ef];exact hf) (c1,n1) s2 es (λy hy=>by
   have hy':y∈s:=by rw[es];exact Zo _ hy
   rw[Q0R,Zd λz=>d.1 (ZJ.mpr ⟨y,hy',z⟩)];exact pe y hy') (.els er ld)
  refine⟨y,q1,q2,q3,q4,Nat.lt_succ_of_lt q5,Zr Q4U.1 q6,q7.trans ef,λc' h' hm=>?_⟩;rcases Z1.mp hm with e | hm
  ·cases e
  ·exact q8 c' h' hm
theorem SI.names(h:SI zs root kd kl s):∀ x∈s,x.2∈NV zs:=λx hx=>by
 have:=h.p x hx;obtain⟨p,hp,_⟩:=Zu.mp this;have e:=find?_some hp;rw[Ze]at e;rw[<- e];exact h.ks p (mem_of_find?_eq_some hp)
noncomputable def wgt(kd:Kd)(kl:Kl):Nat:=2 * kl.length+2 * kd.length
structure Nx(zs:List Zn)(root:W)(kd:Kd)(kl:Kl)(s:Ch)(w:Nat)(y:Bool×Kd×Kl×Ch):Prop where
 u:Ups zs kd y.2.1
 t:y.1=true->SI zs root y.2.1 y.2.2.1 y.2.2.2/\wgt kd kl+y.2.2.2.length+1<=wgt y.2.1 y.2.2.1+w/\Fd y.2.2.1 y.2.2.2=Fd kl s
 e:y.1=false->SI zs root y.2.1 y.2.2.1 []/\y.2.2.1=kl
theorem Q4r{kd:Kd}{kl:Kl}{s:Ch}{c:Option (List W)}{n:List W}(h:SI zs root kd kl s)(hc:ChI zs kd ((c,n)::s))(hn:n∈NV zs):∃ y,zai kd kl s c n=some y/\Nx zs root kd kl s s.length y/\∀ c' h',(some c',h')∈(c,n)::s->(y.1=true->hasN y.2.1 c'\/(some c',h')∈y.2.2.2)/\(y.1=false->val y.2.2.1 h'=some none):=by
 unfold zai;cases e:val kl n with
 | none =>
  have nin:n∉s.map (·.2):=λz=>by
   obtain⟨x,hx,ex⟩:=ZJ.mp z;have:=h.p x hx;rw[ex,e]at this;cases this
  have ef:Fd (put kl n none) ((c,n)::s)=Fd kl s:=QcU e;have I:SI zs root kd (put kl n none) ((c,n)::s):=by
   refine⟨h.g,λm o z=>?_,hc,λx hx=>?_,Yw.mpr ⟨nin,h.d⟩,(Q1F h.kn).1,λp hp=>?_,by rw[ef];exact h.f⟩
   ·rw[Q0R]at z;by_cases em:m=n
    ·rw[Zg em]at z;cases z
    ·rw[Zd em]at z;exact h.v m o z
   ·rw[Q0R];rcases Z1.mp hx with rfl | hx
    ·rw[Zg rfl]
    ·rw[Zd λz=>nin (ZJ.mpr ⟨x,hx,z⟩)];exact h.p x hx
   ·rcases (Q1F h.kn).2 p hp with z | ⟨q,hq,z⟩
    ·rw[z];exact hn
    ·rw[<- z];exact h.ks q hq
  refine⟨_,rfl,⟨.refl,λ_=>⟨I,?_,ef⟩,(λz=>nomatch z)⟩,λc' h' hm=>⟨λ_=>.inr hm,(λz=>nomatch z)⟩⟩
  have:=(Q4U (v:=(none:Option W))).2 e;unfold wgt;show 2 * kl.length+2 * kd.length+(s.length+1)+1<=2 * (put kl n none).length+2 * kd.length+s.length;room
 | some b =>
  cases b with
  | none =>
   refine⟨_,rfl,⟨.refl,(λz=>nomatch z),λ_=>⟨?_,rfl⟩⟩,λc' h' hm=>⟨(λz=>nomatch z),λ_=>?_⟩⟩
   ·cases s with
    | nil=>exact h
    | cons x s=>exact h.fail (hc.dead e h.p x.2 Zp)
   ·rcases Z1.mp hm with z | hm
    ·cases z;exact e
    ·exact h.p _ hm
  | some o =>
   have nin:n∉s.map (·.2):=λz=>by
    obtain⟨x,hx,ex⟩:=ZJ.mp z;have:=h.p x hx;rw[ex,e]at this;cases this
   obtain⟨y,q1,q2,q3,q4,q5,q6,q7,q8⟩:=Q2W (o:=o) h.g h.v hc (Yw.mpr ⟨nin,h.d⟩) h.kn h.ks (λx hx=>(Z1.mp hx).elim (λz=>by rw[z];exact hn) (h.names x)) (by rw[Q7S e];exact h.f) (c,n) s rfl h.p (h.v n o e)
   refine⟨(true,y),by erw[q1,ZW],⟨q3,λ_=>⟨q2,?_,q7.trans (Q7S e)⟩,(λz=>nomatch z)⟩,λc' h' hm=>⟨λ_=>q8 c' h' hm,(λz=>nomatch z)⟩⟩
   have q5':y.2.2.length<s.length+1:=q5;unfold wgt;show 2 * kl.length+2 * kd.length+y.2.2.length+1<=2 * y.2.1.length+2 * y.1.length+s.length;room
end
section
variable{zs:List Zn}{root:W}
theorem Q6e(h:SI zs root kd kl (x::s)):∃ y,zah zs kd kl (x::s)=some y/\Nx zs root kd kl (x::s) (x::s).length y/\∀ c' h',(some c',h')∈x::s->(y.1=true->hasN y.2.1 c'\/(some c',h')∈y.2.2.2)/\(y.1=false->val y.2.2.1 h'=some none):=by
 obtain⟨c0,n⟩:=x;obtain⟨kd1,r,er⟩:∃ kd1 r,rsf zs kd n za1=(kd1,r):=⟨_,_,rfl⟩;obtain⟨I1,u1,e1,ng⟩:=h.told er;have l1:=u1.len;have ent:∀ (c:Option (List W)) (m:List W),ChI zs kd1 ((c,m)::(c0,n)::s)->m∈NV zs->∃ y,zai kd1 kl ((c0,n)::s) c m=some y/\Nx zs root kd kl ((c0,n)::s) ((c0,n)::s).length y/\∀ c' h',(some c',h')∈(c0,n)::s->(y.1=true->hasN y.2.1 c'\/(some c',h')∈y.2.2.2)/\(y.1=false->val y.2.2.1 h'=some none):=λc m hc hm=>by
  obtain⟨y,q1,⟨q3,q4,q5⟩,q6⟩:=Q4r I1 hc hm;refine⟨y,q1,⟨u1.trans q3,λz=>?_,q5⟩,λc' h' hm=>q6 c' h' (Zo _ hm)⟩;obtain⟨q5,q6,q7⟩:=q4 z;refine⟨q5,?_,q7⟩;unfold wgt at q6 ⊢;room
 have dead:∀ kk:Rp->Prop,Dead zs kd1 (Fd kl []) n->∃ y,some (false,kd1,kl,(c0,n)::s)=some y/\Nx zs root kd kl ((c0,n)::s) ((c0,n)::s).length y/\∀ c' h',(some c',h')∈(c0,n)::s->(y.1=true->hasN y.2.1 c'\/(some c',h')∈y.2.2.2)/\(y.1=false->val y.2.2.1 h'=some none):=λ_ z =>
  ⟨_,rfl,⟨u1,(λz=>nomatch z),λ_=>⟨I1.fail z,rfl⟩⟩,λc' h' hm=>⟨(λz=>nomatch z),λ_=>I1.p _ hm⟩⟩
 unfold zah;erw[er];unfold Dead at dead;rw[<- e1]at dead;cases r with
 | rows ds l =>
  cases ds with
  | nil=>exact absurd e1.symm Q7R
  | cons d ds =>
   obtain⟨y,q1,q2,q3,q4,q5,q6,q7,q8⟩:=Q2W (o:=d) I1.g I1.v I1.c I1.d I1.kn I1.ks I1.names I1.f (c0,n) s rfl (λy hy=>I1.p y (Zo _ hy)) (.rows e1.symm);refine⟨(true,y),by erw[q1,ZW],⟨u1.trans q3,λ_=>⟨q2,?_,q7⟩,(λz=>nomatch z)⟩,λc' h' hm=>⟨λ_=>q8 c' h' hm,(λz=>nomatch z)⟩⟩
   unfold wgt;show 2 * kl.length+2 * kd.length+y.2.2.length+1<=2 * y.2.1.length+2 * y.1.length+((c0,n)::s).length;room
 | els m l=>exact ent none m ⟨⟨c0,n,s,l,rfl,e1.symm⟩,I1.c⟩ (Q4q.1 m l e1.symm)
 | down c hh ds l =>
  cases ds with
  | cons d ds=>exact absurd ⟨hh,ds,l,rfl⟩ (ng c d)
  | nil =>
   obtain⟨a1,a2,_⟩:=Q0J I1.g.has0 e1.symm;exact ent (some c) hh ⟨⟨l,a2 za1,λc1 n1 s' z=>by cases z;exact e1.symm⟩,I1.c⟩ (Q4q.2 c hh [] l e1.symm).1
 | away=>exact dead (λ_=>True) trivial
 | non l=>exact dead (λ_=>True) trivial
 | emp l=>exact dead (λ_=>True) trivial
noncomputable def most(zs:List Zn):Nat:=2 * (NV zs).length+2 * ((DN zs).length+1)
theorem SI.wgt(h:SI zs root kd kl s):Tz.wgt kd kl<=most zs:=by
 have:=h.len;have:=h.g.len;unfold Tz.wgt most;room
theorem Q4s:∀ (f:Nat) {kd:Kd} {kl:Kl} {s:Ch},SI zs root kd kl s->most zs+s.length+1<=f+wgt kd kl->∃ y,zaP zs f true kd kl s=some y/\SI zs root y.1 y.2 []/\Ups zs kd y.1/\(∀ n,Fd kl s n->val y.2 n=some none)/\∀ c h,(some c,h)∈s->hasN y.1 c\/val y.2 h=some none
 | 0,kd,kl,s,h,hf=>by have:=h.wgt;room
 | f+1,kd,kl,[],h,hf=>⟨(kd,kl),rfl,h,.refl,λn z=>z.1,(λ_ _ z=>nomatch z)⟩
 | f+1,kd,kl,x::s,h,hf=>by
  obtain⟨⟨b,kd1,kl1,s1⟩,q1,⟨q3,q4,q2⟩,q5⟩:=Q6e h;cases b with
  | true =>
   obtain⟨I,w,ef⟩:=q4 rfl;obtain⟨y,r1,r2,r3,r4,r5⟩:=Q4s f I (by have w':wgt kd kl+s1.length+1<=wgt kd1 kl1+(x::s).length:=w;room)
   refine⟨y,?_,r2,q3.trans r3,by rw[<- ef];exact r4,λc h hm=>?_⟩
   ·show (zah zs kd kl (x::s)).bind _=_;rw[q1];exact r1
   ·exact ((q5 c h hm).1 rfl).elim (λz=>.inl (r3.has z)) (r5 c h)
  | false =>
   have hw:=h.wgt;obtain⟨f,rfl⟩:∃ j,f=j+1:=⟨f-1,by erw[Zw]at hf;room⟩
   obtain⟨I,ek⟩:=q2 rfl;refine⟨(kd1,kl1),?_,I,q3,λn z=>by rw[show kl1=kl from ek];exact z.1,λc h hm=>.inr ((q5 c h hm).2 rfl)⟩
   show (zah zs kd kl (x::s)).bind _=_;rw[q1];rfl
theorem Q7T(h:SI zs root kd kl [])(e:rpA zs kd n k=.down c hh [] l)(hf:most zs+2<=f):∃ y,zaZ zs f kd kl c hh=some y/\SI zs root y.1 y.2 []/\Ups zs kd y.1/\(∀ n,val kl n=some none->val y.2 n=some none)/\(hasN y.1 c\/val y.2 hh=some none):=by
 obtain⟨a1,a2,_⟩:=Q0J h.g.has0 e;obtain⟨⟨b,kd1,kl1,s1⟩,q1,⟨q3,q4,q2⟩,q5⟩:=Q4r h (c:=some c) (n:=hh) ⟨⟨l,a2 za1,(λ_ _ _ z=>nomatch z)⟩,trivial⟩ (Q4q.2 c hh [] l e).1
 unfold zaZ;rw[q1];show ∃ y,zaP zs f b kd1 kl1 s1=some y/\_;cases b with
 | true =>
  obtain⟨I,w,ef⟩:=q4 rfl;have w':wgt kd kl+s1.length+1<=wgt kd1 kl1+0:=w;obtain⟨y,r1,r2,r3,r4,r5⟩:=Q4s f I (by show most zs+s1.length+1<=f+wgt kd1 kl1;room)
  rw[show Fd kl1 s1=Fd kl [] from ef]at r4;exact⟨y,r1,r2,q3.trans r3,λn z=>r4 n ⟨z,ZA⟩,((q5 c hh Zp).1 rfl).elim (λz=>.inl (r3.has z)) (r5 c hh)⟩
 | false =>
  obtain⟨f,rfl⟩:∃ j,f=j+1:=⟨f-1,by room⟩
  obtain⟨I,ek⟩:=q2 rfl;exact⟨_,rfl,I,q3,λn z=>by rw[show kl1=kl from ek];exact z,.inr ((q5 c hh Zp).2 rfl)⟩
theorem Q4t:∀ (f:Nat) {kd:Kd} {kl:Kl},SI zs root kd kl []->most zs+(DN zs).length+4<=f+kd.length->∃ y,zat zs n k f kd kl=some y/\SI zs root y.1 y.2.1 []/\Ups zs kd y.1/\y.2.2=rpA zs y.1 n k/\(∀ n,val kl n=some none->val y.2.1 n=some none)/\∀ c hh ds l,y.2.2=.down c hh ds l->ds=[]/\¬ hasN y.1 c/\val y.2.1 hh=some none
 | 0,kd,kl,h,hf=>by have:=h.g.len;unfold most at hf;room
 | f+1,kd,kl,h,hf=>by
  obtain⟨kd1,r,er⟩:∃ kd1 r,rsf zs kd n k=(kd1,r):=⟨_,_,rfl⟩;obtain⟨I1,u1,e1,ng⟩:=h.told er;have l0:=h.g.len;have l1:=u1.len;unfold zat;erw[er];cases r with
  | down c hh ds l =>
   cases ds with
   | cons d ds=>exact absurd ⟨hh,ds,l,rfl⟩ (ng c d)
   | nil =>
    obtain⟨a1,a2,a3,_⟩:=Q0J I1.g.has0 e1.symm;obtain⟨y,q1,q2,q3,q4,q5⟩:=Q7T (f:=f) I1 e1.symm (by room)
    erw[q1,Option.bind_some];by_cases hc:hasN y.1 c
    ·rw[Zg hc];have lt:=q3.lt a1 hc;obtain⟨z,r1,r2,r3,r4,r5,r6⟩:=Q4t f q2 (by room)
     exact⟨z,r1,r2,(u1.trans q3).trans r3,r4,λn y=>r5 n (q4 n y),r6⟩
    ·rw[Zd hc];refine⟨_,rfl,q2,u1.trans q3,?_,q4,λc' hh' ds' l' z=>?_⟩
     ·show Rp.down c hh [] l=rpA zs y.1 n k;rw[(q3.same2 I1.g.has0 a3 hc).2.1 k];exact e1
     ·cases z;exact⟨rfl,hc,q5.resolve_left hc⟩
  | rows ds l=>exact⟨_,rfl,I1,u1,e1,λ_ z=>z,(λ_ _ _ _ z=>nomatch z)⟩
  | els m l=>exact⟨_,rfl,I1,u1,e1,λ_ z=>z,(λ_ _ _ _ z=>nomatch z)⟩
  | away=>exact⟨_,rfl,I1,u1,e1,λ_ z=>z,(λ_ _ _ _ z=>nomatch z)⟩
  | non l=>exact⟨_,rfl,I1,u1,e1,λ_ z=>z,(λ_ _ _ _ z=>nomatch z)⟩
  | emp l=>exact⟨_,rfl,I1,u1,e1,λ_ z=>z,(λ_ _ _ _ z=>nomatch z)⟩
theorem QcV{a b c:List W}(h:a.take b.length=b)(g:b.take c.length=c):a.take c.length=c:=by
 have l:=congrArg List.length g;rw[Zz]at l;have:(a.take b.length).take c.length=c:=by rw[h];exact g
 rwa [take_take,Ye (by room)]at this
theorem Gd.above(h:Gd zs root kd):∀ n o x,val kd n=some o->hasN kd x->x.take n.length=n->n≠x->∃ y,hasN kd y/\cutT zs o n x=some y:=by
 induction h with
 | one =>
  intro n o x hn hx hp ne;have e0:∀ m,hasN [([],root)] m->m=[]:=λm z=>by
   by_cases e:([]:List W)=m
   ·exact e.symm
   ·unfold hasN val at z;rw[find?_cons_of_neg (by rw[Ze];exact e)]at z
    cases z
  have n0:=e0 n (by unfold hasN;rw[hn];rfl)
  exact absurd (n0.trans (e0 x hx).symm) ne
 | @step kd c d g s ih =>
  intro n o x hn hx hp ne;have h0:=g.has0;obtain⟨hh,ds,l,er,_⟩:=s.is;obtain⟨_,_,_,a4,_⟩:=Q0J h0 er;obtain⟨t1,t2,t3⟩:=Q0B (n:=c) h0;obtain⟨ot,eot⟩:=Z3.mp t2;have edo:zaa kd (topN kd c)=ot:=by unfold zaa;rw[eot];rfl
  have ecut:cutT zs ot (topN kd c) c=some c:=by
   unfold cutA at a4;rw[edo]at a4;exact a4
  have lnx:n.length<=x.length:=by have:=congrArg List.length hp;rw[Zz]at this;room
  rcases Q0n.mp hx with hx1 | hx1
  ·by_cases nc:n=c
   ·-- the new name is above an old one: it would have been handed down
    subst nc
    exfalso
    have tl:=(Q0L ecut).1;obtain⟨y,hy,ey⟩:=ih (topN kd n) ot x eot hx1 (QcV hp t1) (λz=>by rw[z]at tl;room)
    have:=Q1d (n:=x) (j:=n.length) (by rw[hp];exact ecut)
    rw[ey]at this;injection this with this;rw[this]at hy;exact s.new hy
   ·have hn':val kd n=some o:=by
     rw[Q1l]at hn;cases e:val kd n with
     | some o'=>rw[e]at hn;exact hn
     | none=>rw[e,Zd λz=>nc z.symm]at hn;cases hn
    obtain⟨y,hy,ey⟩:=ih n o x hn' hx1 hp ne;exact⟨y,Q0n.mpr (.inl hy),ey⟩
  ·subst hx1;have hn':val kd n=some o:=by
    rw[Q1l]at hn;cases e:val kd n with
    | some o'=>rw[e]at hn;exact hn
    | none=>rw[e,Zd λz=>ne z.symm]at hn;cases hn
   have ltc:n.length<c.length:=by
    rcases lt_or_ge n.length c.length with z | z
    ·exact z
    ·exact absurd (by rw[<- hp,ZS z]) ne
   by_cases nt:n=topN kd c
   ·rw[nt]at hn';rw[eot]at hn';injection hn' with hn';exact⟨c,Q0n.mpr (.inr rfl),by rw[nt,<- hn'];exact ecut⟩
   ·have lt:n.length<=(topN kd c).length:=le_of_not_lt λz=>t3 n.length (by room) z (by rw[hp];unfold hasN;rw[hn'];rfl)
    have lp:(topN kd c).take n.length=n:=by rw[<- t1,take_take,Ye lt];exact hp
    obtain⟨y,hy,ey⟩:=ih n o (topN kd c) hn' t2 lp nt;refine⟨y,Q0n.mpr (.inl hy),?_⟩;rw[<- t1]at ey;exact Q1d ey
end
section
variable{zs:List Zn}{root:W}
theorem Q7U(g:Gd zs root kd)(hn:val kd n=some o)(hn':val kd n'=some o')(h:cutT zs o n c=some c)(h':cutT zs o' n' c=some c)(p:c.take n.length=n)(p':c.take n'.length=n'):n=n':=by
 have go:∀ {n n':List W} {o:W},val kd n=some o->hasN kd n'->cutT zs o n c=some c->c.take n.length=n->c.take n'.length=n'->n'.length<c.length->¬ n.length<n'.length:=fun{n n' o} hn hn' h p p' l' lt=>by
  have pn:n'.take n.length=n:=by rw[<- p',take_take,Ye (le_of_lt lt)];exact p
  obtain⟨y,_,ey⟩:=g.above n o n' hn hn' pn λz=>by rw[z]at lt;room
  have l:=(Q0L ey).2.1;have:=Q1d (n:=c) (j:=n'.length) (by rw[p'];exact ey)
  rw[h]at this;injection this with this;rw[<- this]at l;room
 have a:=go hn (by unfold hasN;rw[hn'];rfl) h p p' (Q0L h').1
 have b:=go hn' (by unfold hasN;rw[hn];rfl) h' p' p (Q0L h).1
 rw[<- p,<- p'];congr 1;room
theorem Gd.own(g:Gd zs root kd):∀ {c:List W} {d:W},val kd c=some d->c≠[]->∃ t o h ds l,val kd t=some o/\cutT zs o t c=some c/\c.take t.length=t/\dwT zs o t c=.down c h ds l/\(∀ d' r,ds=d'::r->d=d')/\(ds=[]->Lead zs kd h d):=by
 induction g with
 | one =>
  intro c d e ne;unfold val at e;rw[find?_cons_of_neg (by rw[Ze];exact λz=>ne z.symm)]at e
  cases e
 | @step kd c0 d0 g s ih =>
  intro c d e ne;have h0:=g.has0;have up:Ups zs kd (kd++[(c0,d0)]):=.step .refl s;rw[Q1l]at e;cases ev:val kd c with
  | some d' =>
   rw[ev]at e;obtain⟨t,o,h,ds,l,q1,q2,q3,q4,q5,q6⟩:=ih (ev.trans e) ne;exact⟨t,o,h,ds,l,Q2l q1,q2,q3,q4,q5,λz=>(q6 z).ups up h0⟩
  | none =>
   rw[ev]at e;by_cases z:c0=c
   ·rw[Zg z]at e;cases e;subst z;obtain⟨h,ds,l,er,e1,e2⟩:=s.is;obtain⟨t1,t2,t3⟩:=Q0B (n:=c0) h0;obtain⟨o,eo⟩:=Z3.mp t2;have ed:zaa kd (topN kd c0)=o:=by unfold zaa;rw[eo];rfl
    obtain⟨k1,k2⟩:=Q1k er;rw[ed]at k1 k2;exact⟨topN kd c0,o,h,ds,l,Q2l eo,k1,t1,k2,e1,λz=>(e2 z).ups up h0⟩
   ·rw[Zd z]at e;cases e
theorem Gd.ask(g:Gd zs root kd)(hn:val kd n=some o)(h:cutT zs o n c=some c)(p:c.take n.length=n)(nc:¬ hasN kd c)(k:W):topN kd c=n/\rpA zs kd c k=dwT zs o n c:=by
 have et:topN kd c=n:=by
  refine Q2k g.has0 p (by unfold hasN;rw[hn];rfl) λj hj lt z=>?_
  have lj:(c.take j).length=j:=by rw[Zz];room
  obtain⟨y,_,ey⟩:=g.above n o (c.take j) hn z (by rw[take_take,Ye (le_of_lt lt)];exact p) λq=>by rw[q,lj]at lt;room
  have l:=(Q0L ey).2.1;have:=Q1d ey;rw[h]at this;injection this with this;rw[<- this,lj]at l;have:j=c.length:=by room
  rw[this,take_length]at z;exact nc z
 refine⟨et,?_⟩;have ed:zaa kd n=o:=by unfold zaa;rw[hn];rfl
 unfold rpA;rw[et,ed];exact (Q2U h k).1
def Stuck(zs:List Zn)(kl:Kl)(o:W)(n c:List W):Prop:=∃ h l,dwT zs o n c=.down c h [] l/\val kl h=some none
theorem SI.stuck{kd:Kd}{kl:Kl}(I:SI zs root kd kl []){n c:List W}{o:W}(hn:val kd n=some o)(hc:cutT zs o n c=some c)(p:c.take n.length=n)(h:Stuck zs kl o n c):¬ hasN kd c:=λz=>by
 obtain⟨h,l,e,hv⟩:=h;obtain⟨d,ed⟩:=Z3.mp z;obtain⟨t,o',h',ds,l',q1,q2,q3,q4,_,q6⟩:=I.g.own ed λy=>by
  rw[y]at hc;exact absurd (Q0L hc).1 (Yt _)
 have et:=Q7U I.g hn q1 hc q2 p q3;subst et;rw[hn]at q1;cases q1;rw[e]at q4;injection q4 with _ e2 e3;refine Dead.no I.f (q6 e3.symm) ?_;rw[<- e2];exact⟨hv,ZA⟩
theorem Q7V(hg:most zs+(DN zs).length+4<=g):∀ {L:List (List W)} {kd:Kd} {kl:Kl},SI zs root kd kl []->val kd n=some o->(∀ c∈L,cutT zs o n c=some c/\c.take n.length=n)->∃ y,hasL zs g L kd kl=some y/\SI zs root y.1 y.2.1 []/\Ups zs kd y.1/\y.2.2.Sublist L/\(∀ c∈y.2.2,hasN y.1 c)/\(∀ n,val kl n=some none->val y.2.1 n=some none)/\∀ c∈L,c∈y.2.2\/Stuck zs y.2.1 o n c
 | [],kd,kl,h,_,_=>⟨_,rfl,h,.refl,List.Sublist.slnil,(λ_ z=>nomatch z),λ_ z=>z,(λ_ z=>nomatch z)⟩
 | c::cs,kd,kl,h,hn,hL=>by
  obtain⟨y,q1,q2,q3,q4,q5,q6⟩:=Q4t (n:=c) (k:=za1) g h (by room)
  obtain⟨z,r1,r2,r3,r4,r5,r6,r7⟩:=Q7V hg (L:=cs) q2 (q3.val hn) λc hc=>hL c (Zo _ hc);refine⟨(z.1,z.2.1,if (val y.1 c).isSome=true then c::z.2.2 else z.2.2),?_,r2,q3.trans r3,?_,?_,λn hn=>r6 n (q5 n hn),?_⟩
  ·unfold hasL;rw[q1];erw[Option.bind_some,r1,ZW]
  ·show (if (val y.1 c).isSome=true then c::z.2.2 else z.2.2).Sublist (c::cs)
   split
   ·exact r4.cons₂ c
   ·exact r4.cons c
  ·intro m hm;have hm':m∈(if (val y.1 c).isSome=true then c::z.2.2 else z.2.2):=hm
   split at hm'
   ·next e =>
    rcases Z1.mp hm' with rfl | hm'
    ·exact r3.has e
    ·exact r5 m hm'
   ·exact r5 m hm'
  ·intro m hm;show m∈(if (val y.1 c).isSome=true then c::z.2.2 else z.2.2)\/_
   by_cases e:(val y.1 c).isSome=true
   ·rw[Zg e];rcases Z1.mp hm with rfl | hm
    ·exact .inl Zp
    ·exact (r7 m hm).imp (Zo _) id
   ·rw[Zd e];rcases Z1.mp hm with rfl | hm
    ·obtain⟨h1,h2⟩:=hL m Zp;obtain⟨_,hh,ds,l,e2⟩:=Q2U h1 za1;have e3:=(q2.g.ask (q3.val hn) h1 h2 e za1).2;rw[e2]at e3;obtain⟨rfl,_,hv⟩:=q6 m hh ds l (q4.trans e3);exact .inr ⟨hh,l,e2,r6 hh hv⟩
    ·exact r7 m hm
structure IW(zs:List Zn)(root:W)(kd:Kd)(kl:Kl)(st P:List (List W)):Prop where
 i:SI zs root kd kl []
 nd:P.Nodup
 h:∀ n∈P,hasN kd n
 s:∀ n∈st,n∈P
 sd:st.Nodup
 by_:∀ c∈P,c=[]\/∃ n o,n∈P/\n∉st/\val kd n=some o/\cutT zs o n c=some c/\c.take n.length=n
 z:[]∈P
 dn:∀ n∈P,n∉st->∀ o,val kd n=some o->∀ c,cutT zs o n c=some c->c∈P\/Stuck zs kl o n c
def Full(zs:List Zn)(kd:Kd):Prop:=∀ n o c,val kd n=some o->cutT zs o n c=some c->hasN kd c\/∃ h l,dwT zs o n c=.down c h [] l/\∀ d,¬ Lead zs kd h d
theorem Q2X(hz:∀ z∈zs,ZnOk z)(h:cutT zs o n m=some c):c.take n.length=n/\∃ z∈zs,atT (ofD zs o) n=some z/\c∈z.r.map λx=>x.n:=by
 obtain⟨z,e,h⟩:=Zs.mp h;obtain⟨x,ed⟩:=Q0S h;have hzz:z∈zs:=Q0Z (Q1a e);obtain⟨hx,_,hn⟩:=Q1i ed;have:=((hz z hzz).r x hx).in_.at_;rw[hn,atT_t e]at this;exact⟨this,z,hzz,e,ZJ.mpr ⟨x,hx,hn⟩⟩
theorem IW.full(hz:∀ z∈zs,ZnOk z){kd:Kd}{kl:Kl}{P:List (List W)}(w:IW zs root kd kl [] P):Full zs kd:=by
 have all:∀ n,hasN kd n->n∈P:=λn hn=>by
  refine Classical.byContradiction λnP=>?_;have go:∀ j,j<=n.length->∃ t∈P,n.take t.length=t/\j<=t.length:=λj=>by
   induction j with
   | zero=>exact λ_=>⟨[],w.z,rfl,ZI _⟩
   | succ j ih =>
    intro hj;obtain⟨t,tP,tp,tl⟩:=ih (by room)
    by_cases e:j+1<=t.length
    ·exact⟨t,tP,tp,e⟩
    obtain⟨o,eo⟩:=Z3.mp (w.h t tP);obtain⟨y,hy,ey⟩:=w.i.g.above t o n eo hn tp λz=>nP (by rw[<- z];exact tP)
    obtain⟨l1,l2,l3⟩:=Q0L ey;have own:cutT zs o t y=some y:=by
     have:=Q4o ey (Zq _)
     rwa [l3]at this
    rcases w.dn t tP ZA o eo y own with yP | sk
    ·exact⟨y,yP,l3,by room⟩
    ·exact absurd hy (w.i.stuck eo own (Q2X hz own).1 sk)
  obtain⟨t,tP,tp,tl⟩:=go n.length (Zq _);rw[ZS tl]at tp;exact nP (by rw[tp];exact tP)
 intro n o c hn hc;rcases w.dn n (all n (by unfold hasN;rw[hn];rfl)) ZA o hn c hc with h | ⟨h,l,e,hv⟩
 ·exact .inl (w.h c h)
 ·exact .inr ⟨h,l,e,λd z=>Dead.no w.i.f z ⟨hv,ZA⟩⟩
theorem Qa2(hz:∀ z∈zs,ZnOk z)(hg:most zs+(DN zs).length+4<=g){Q:Kd->Prop}(hQ:∀ kd,Gd zs root kd->Full zs kd->Q kd)(hc:(NV zs).length+(DN zs).length+1<=c):∀ (f:Nat) {kd:Kd} {kl:Kl} {st P:List (List W)},IW zs root kd kl st P->st.length+(DN zs).length+2<=f+P.length->ChG zs g 60 c Q f kd kl st
 | 0,kd,kl,st,P,w,hf=>by
  have:=w.nd.length_le_of_subset (l₂:=kd.map (·.1)) λn hn=>(w.i.g.names.2.2 n).mpr (w.h n hn);rw[Zb]at this;have:=w.i.g.len;room
 | f+1,kd,kl,[],P,w,hf=>hQ kd w.i.g (w.full hz)
 | f+1,kd,kl,n::st,P,w,hf=>by
  have sd:=Yw.mp w.sd;have nP:=w.s n Zp;obtain⟨o,eo⟩:=Z3.mp (w.h n nP);refine⟨o,eo,λL nd hL=>?_⟩;have hL2:∀ m,m∈L <-> cutT zs o n m=some m:=λm=>by rw[hL m];exact (Zs).symm
  refine⟨?_,?_⟩
  ·cases e:atT (ofD zs o) n with
   | none =>
    have:L=[]:=List.eq_nil_iff_forall_not_mem.mpr λm hm=>by
     obtain⟨z,h1,_⟩:=(hL m).mp hm;rw[e]at h1;cases h1
    rw[this];exact ZI _
   | some z =>
    have hzz:z∈zs:=Q0Z (Q1a e);have:=nd.length_le_of_subset (l₂:=z.r.map λx=>x.n) λm hm=>by
     obtain⟨_,z',_,e',h'⟩:=Q2X hz ((hL2 m).mp hm);rw[e]at e';injection e' with e';rw[e'];exact h'
    rw[Zb]at this;have:=(hz z hzz).l;room
  ·obtain⟨y,q1,q2,q3,q4,q5,q6,q7⟩:=Q7V hg (L:=L) w.i eo λc hc=>⟨(hL2 c).mp hc,(Q2X hz ((hL2 c).mp hc)).1⟩;refine⟨y,q1,q2.g.has0,by have:=q2.g.len;room,by have:=q2.len;room,?_⟩
   have ynd:=nd.sublist q4;have new:∀ c∈y.2.2,c∉P:=λc hc hP=>by
    have own:=(hL2 c).mp (q4.subset hc);rcases w.by_ c hP with e | ⟨n',o',h1,h2,h3,h4,h5⟩
    ·rw[e]at own;have:=(Q0L own).1;exact absurd this (Yt _)
    ·exact h2 (by rw[<- Q7U w.i.g eo h3 own h4 (Q2X hz own).1 h5];exact Zp)
   refine Qa2 hz hg hQ hc f (P:=P++y.2.2) ⟨q2,?_,?_,?_,?_,?_,ZV _ w.z,?_⟩ ?_
   ·rw[nodup_append];exact⟨w.nd,ynd,λa ha b hb z=>new b hb (by rw[<- z];exact ha)⟩
   ·intro m hm;rcases Z4.mp hm with hm | hm
    ·exact q3.has (w.h m hm)
    ·exact q5 m hm
   ·intro m hm;rcases Z4.mp hm with hm | hm
    ·exact Zy _ (mem_reverse.mp hm)
    ·exact ZV _ (w.s m (Zo _ hm))
   ·rw[nodup_append];exact⟨List.pairwise_reverse.mpr (ynd.imp λh=>h.symm),sd.2,λa ha b hb z=>new a (mem_reverse.mp ha) (by rw[z];exact w.s b (Zo _ hb))⟩
   ·intro c hc;rcases Z4.mp hc with hc | hc
    ·rcases w.by_ c hc with e | ⟨n',o',h1,h2,h3,h4,h5⟩
     ·exact .inl e
     ·refine .inr ⟨n',o',ZV _ h1,λz=>?_,q3.val h3,h4,h5⟩;rcases Z4.mp z with z | z
      ·exact new n' (mem_reverse.mp z) h1
      ·exact h2 (Zo _ z)
    ·have own:=(hL2 c).mp (q4.subset hc);refine .inr ⟨n,o,ZV _ nP,λz=>?_,q3.val eo,own,(Q2X hz own).1⟩;rcases Z4.mp z with z | z
     ·exact new n (mem_reverse.mp z) nP
     ·exact sd.1 z
   ·intro m hm nst o' eo' c hc;rcases Z4.mp hm with hm | hm
    ·by_cases e:m=n
     ·subst e;rw[q3.val eo]at eo';cases eo';exact (q7 c ((hL2 c).mpr hc)).imp (Zy _) id
     ·have e0:val kd m=some o':=by
       obtain⟨o2,e2⟩:=Z3.mp (w.h m hm);rw[q3.val e2]at eo';rw[e2,eo']
      refine (w.dn m hm (λz=>?_) o' e0 c hc).imp (ZV _) λ⟨h,l,a,b⟩=>⟨h,l,a,q6 h b⟩;rcases Z1.mp z with z | z
      ·exact e z
      ·exact nst (Zy _ z)
    ·exact absurd (ZV _ (mem_reverse.mpr hm)) nst
   ·rw[Zl,length_reverse,Zl];rw[Zw]at hf;room
theorem chG_start(hz:∀ z∈zs,ZnOk z)(hg:most zs+(DN zs).length+4<=g)(hf:(DN zs).length+2<=f){Q:Kd->Prop}(hQ:∀ kd,Gd zs root kd->Full zs kd->Q kd)(hc:(NV zs).length+(DN zs).length+1<=c):ChG zs g 60 c Q f [([],root)] [] [[]] :=
 Qa2 hz hg hQ hc f (P:=[[]]) ⟨⟨.one,(λ_ _ z=>nomatch z),trivial,(λ_ z=>nomatch z),nodup_nil,nodup_nil,(λ_ z=>nomatch z),(λ_ z=>nomatch z.1)⟩,Yw.mpr ⟨ZA,nodup_nil⟩,λn hn=>by rw[Zh.mp hn];rfl,λn hn=>hn,Yw.mpr ⟨ZA,nodup_nil⟩,λc hc=>.inl (Zh.mp hc),Zp,λn hn nst=>absurd hn nst⟩ (by erw[Zw,ZH];room)
end
end Tz
noncomputable def b_a0:CS:=by walk_at "~chiFiFiQiFiQiniF&0#99991#17in#48271iQ#7919&1#65537in&1#3#8191&2a"
noncomputable def b_aw:CS:=by walk_at "~cf3'abcdefghijklmnopqrstuvwxyz0123456789- cf4g101b&1b#1b&2acf5Bacx6M#4cf7o!z[ cx8M&2cf9g101b&0bin&8#2b#37acjek&8&4cf9in&9&6aacf7in&7d&3iF&9#37actGJ&5b&7aachL&5a"
noncomputable def b_al:CS:=by walk_at "~cf4lacx5M&3cf4in&4lbd&0g101b&1bin&2&5b#4aaach&4a"
noncomputable def b_a3:CS:=by walk_at "~chdrbiF&0#1000000000bg101b&0b#40b#5aag101b&0b#41b#2aa"
noncomputable def b_aD:CS:=by walk_at "~chrblablbd&0#0ablbd&0#1ablbd&0#0bd&0#1ablbd&0#1bd&0#2aaa"
noncomputable def b_aH:CS:=by walk_at "~cjIeCzd&1#0asyb&2a&2Aekd&1#2'down Iekd&1#0&2ekdd&1#0P#1'* chouqaacx3&0cjekd&3#0d&1#0cjIekd&3#2'else ekd&1#2'else chouqaacjAekd&3#2d&1#2Iekd&1#2'down ekd&3#3d&1#3chouqaaaaachouHa"
noncomputable def b_a6:CS:=by walk_at "~cjg106bd&0&2b&3bd&1&2actGJd&0&2b&3aaaa"
noncomputable def b_aA:CS:=by walk_at "~cf6drb#0b#0b#0b&4b#1b#2b#3b#4ag101b&5b#0b#8acf7ind&1&6lbd&2#3acf8drb#0b#0b#0b#1b#2a&4ctg107b&0b&1b&8blbd&1&4bg104b&5ab'down b&7aacjekg101b&5b#1b#2a#1ctg107b&0b&1b&8blb&7bg104bin&5#1ab'door bd&3&6aaaacje!ig101b&5b#2b#6a#2ctg107b&0b&1b&6blb&7bg104bin&5#2ab'door bd&3&6aaaacj!AVV#0g101b&5b#2b#6a#3ctg107b&0b&1b&6blb&7bg104bin&5#2ab'else bind&1g101b&5b#3b#5albd&2#3aaaaachd&3&6a"
noncomputable def b_aL:CS:=by walk_at "~cf6ind&1&4g103b&2b&5b#5bg101b&5b#8b#3aacjekg101b&5b#9b#6a#1cf6in&6lb'* aaacf7drb'else b'mark b'mark b'door b'down b'else b'door ag101b&5b#10b#7acf8drb'red b're bin'v s!BbiF&5i!C#10#30aag101b&5b#11b#3acjek&7'door cf8d&3g101b&5b#12b#5acf6drb&6bind&1&4lbd&2#3aag101b&5b#18b#2aaacjek&7'else cf8ind&1g101b&5b#13b#5ag103b&2b&5b#14bg101b&5b#17b#3aaaacjek&7'down cf8ind&1g101b&5b#13b#5albd&2#3aaactg107b&0b&1b&4blb&6bg104b&5ab&7b&8aaa"
noncomputable def za4(c k m:Int):Nat:=((c % 99991+17) * (48271+7919 * k) % 65537 * (k+3) % 8191 % m).toNat
theorem Q0m(hm:0<m):(za4 c k m:Int)<m:=by
 have e:=Int.emod_nonneg ((c % 99991+17) * (48271+7919 * k) % 65537 * (k+3) % 8191) (show m≠0 by room)
 unfold za4;rw[Int.toNat_of_nonneg e];exact Int.emod_lt_of_pos _ hm
def sp_a0:DSp:=λds M R=>∃ (c k m:Int),ds=[.int c,.int k,.int m]/\0<=k/\k<=1000000/\0<m/\R (.int (za4 c k m)) M
theorem ok_a0:OkF T b_a0 sp_a0 ["","",""]:=by
 rintro ds M R ⟨c,k,m,rfl,h0,h1,hm,h⟩;erw[b_a0];w_up;refine⟨by decide,mulOk (by room) (by room),mulOk (by room) (by room),by decide,mulOk (by room) (by room),by decide,hm,Q0f ?_⟩
 have e:=Int.emod_nonneg ((c % 99991+17) * (48271+7919 * k) % 65537 * (k+3) % 8191) (show m≠0 by room)
 unfold za4 at h;rw[Int.toNat_of_nonneg e]at h;exact h
def Fit(a b:Rw):Prop:=a.n=b.n->(a.k≠za9/\b.k≠za9)/\¬ (a.k=za7/\b.k=za7)
def Valid(rows:List Rw):Prop:=rows.Pairwise Fit
theorem wd_ns(h:Wd w):w≠[42]:=by
 rintro rfl;exact absurd (h.al 42 (Zh.mpr rfl)) (by decide)
theorem Q2Y(a:List W)(w:W):D.tup (a.map D.str++[.str w])=dn (a++[w]):=by unfold dn;rw[Z9];rfl
theorem Q7W:∀ x<37,∀ y<37,signs.getD x 0=signs.getD y 0->x=y:=by kd_p
def WInj(ws:List W):Prop:=∀ i<4,∀ j<4,ws.getD i []=ws.getD j []->i=j
def sp_aw:DSp:=λds M R=>∃ (a b:Int) (v:Nat),ds=[.int a,.int b,.int ((v+1:Nat):Int)]/\v<12/\∀ ws:List W,ws.length=4->(∀ w∈ws,Wd w)->WInj ws->R (.lst (ws.map D.str)) M
theorem ok_aw(T:Tab)(h1:T.fn 101=some ⟨"_law_part",3,[],sp_a0⟩):OkF T b_aw sp_aw ["","","","","","","","","",""]:=by
 rintro ds M R ⟨a,b,v,rfl,hv,h⟩;erw[b_aw];walk_at "q0";walk_at "q2";erw[h1];w_up;refine⟨b,1,_,rfl,by decide,by decide,by room,?_⟩
 have hu:=Q0m (c:=b) (k:=1) (m:=((v+1:Nat):Int)) (by room)
 generalize za4 b 1 ((v+1:Nat):Int)=u at hu ⊢;walk_at "q2";refine⟨szL (by decide),λp hp=>?_⟩
 walk_at "q2";refine⟨by decide,by decide,?_⟩
 refine Q1g (λi ρ M'=>∃ (ws:List W) (v6 v7 v8 v9:Option D),M'=dupd M p (.lst (ws.map D.str))/\ρ=[some (.int a),some (.int b),some (.int ((v+1:Nat):Int)),some (.str signs),some (.int u),some (.ref p),v6,v7,v8,v9]/\ws.length=i/\(∀ w∈ws,Wd w)/\∀ k<i,(ws.getD k [])[u]? = signs[(za4 a ((u:Int)+2) 37+k) % 37]?)
  ⟨[],none,none,none,none,rfl,rfl,rfl,(λw h=>nomatch h),λk h=>absurd h (Yt k)⟩ (λ_ _ _ _=>trivial) ?_ ?_
 ·rintro i ρ M' k hi ⟨ws,v6,v7,v8,v9,rfl,rfl,hw,ha,hs⟩ hk;show dSeq _ _ _ _ _;refine Q1U λk2 e2=>?_;w_up;rw[e2];clear e2;refine Q1U λk2 e2=>?_;w_up;refine⟨by room,by room,?_⟩
  rw[ZD];refine Q1g (λj ρ M'=>∃ (w:W) (v8 v9:Option D),M'=dupd M p (.lst (ws.map D.str))/\ρ=[some (.int a),some (.int b),some (.int ((v+1:Nat):Int)),some (.str signs),some (.int u),some (.ref p),some (.int (0+(i:Int))),some (.str w),v8,v9]/\w.length=j/\(∀ x∈w,x∈signs)/\(u<j->w[u]? = signs[(za4 a ((u:Int)+2) 37+i) % 37]?))
   ⟨[],v8,v9,rfl,rfl,rfl,(λx h=>nomatch h),λh=>absurd h (Yt u)⟩ (λ_ _ _ _=>trivial) ?_ ?_
  ·rintro j ρ M' k3 hj ⟨w,v8,v9,rfl,rfl,hwl,hwa,hwu⟩ hk3;show dSeq _ _ _ _ _;refine Q1U λk4 e4=>?_;w_up;erw[h1];w_up;refine⟨a,_,37,rfl,by room,by room,by decide,?_⟩
   rw[e4];clear e4;refine Q1U λk4 e4=>?_;have last:∀ z:Nat,(u=j->z=za4 a ((u:Int)+2) 37+i)->k4 [some (.int a),some (.int b),some (.int ((v+1:Nat):Int)),some (.str signs),some (.int u),some (.ref p),some (.int (0+(i:Int))),some (.str w),some (.int (0+(j:Int))),some (.int z)] (dupd M p (.lst (ws.map D.str))):=by
    intro z hz;rw[e4];clear e4;w_up;refine⟨by decide,ix_str (by room) (by show _<(37:Int);room) (by decide) λx hx=>?_⟩
    w_up;refine⟨szL (by rw[hwl];room),hk3 _ _ ⟨w++[x],_,_,rfl,rfl,by rw[Zl,hwl];rfl,λy hy=>?_,λhuj=>?_⟩⟩
    ·rcases Z4.mp hy with hy | hy
     ·exact hwa y hy
     ·rw[Zh.mp hy];exact Z6 hx
    ·by_cases e:u<j
     ·rw[ZZ (by room)];exact hwu e
     ·have e':u=j:=by room
      have e3:((z:Int) % 37).toNat=(za4 a ((u:Int)+2) 37+i) % 37:=by rw[hz e'];room
      rw[e3]at hx;rw[ZK (by room),e',hwl,sub_self,<- e',hx]
      rfl
   w_up;have ej:(0+(j:Int))+2=(j:Int)+2:=by room
   rw[ej];refine⟨rfl,rfl,ite2 (λq=>?_) λq=>last _ λe=>absurd (show decide ((0+(j:Int))=(u:Int))=true from Zm (by room)) q⟩
   have en:(za4 a ((j:Int)+2) 37:Int)+(0+(i:Int))=((za4 a ((j:Int)+2) 37+i:Nat):Int):=by room
   rw[en];exact last _ λe=>by rw[e]
  ·rintro ρ M' ⟨w,v8,v9,rfl,rfl,hwl,hwa,hwu⟩;rw[e2];clear e2;w_up;erw[Q0c]
   try w_up
   try simp only[Q0c]
   refine⟨small1000 (by rw[Zb];room),?_⟩
   rw[Q0X];refine hk _ _ ⟨ws++[w],_,_,_,_,by rw[Z9];rfl,rfl,by rw[Zl,hw];rfl,λy hy=>?_,λk hk=>?_⟩
   ·rcases Z4.mp hy with hy | hy
    ·exact ha y hy
    ·rw[Zh.mp hy];exact⟨by room,by room,hwa⟩
   ·rw[Z8];by_cases e:k<i
    ·rw[ZZ (by room),<- Z8];exact hs k e
    ·have e':k=i:=by room
     rw[ZK (by room),e',hw,sub_self]
     exact hwu (by room)
 ·rintro ρ M' ⟨ws,v6,v7,v8,v9,rfl,rfl,hw,ha,hs⟩;rw[e1];clear e1;w_up;erw[dFrz];w_up;erw[Q0c];refine⟨M,λc o e=>?_,h ws hw ha λi hi j hj e=>?_⟩;rotate_left
  ·have h1:=hs i (by simpa using hi)
   rw[e,hs j (by simpa using hj)]at h1
   have l1:(za4 a ((u:Int)+2) 37+j) % 37<37:=Nat.mod_lt _ (by decide)
   have l2:(za4 a ((u:Int)+2) 37+i) % 37<37:=Nat.mod_lt _ (by decide)
   have:=Q7W _ l1 _ l2 (by rw[Z8,Z8,h1])
   room
  unfold ddel dupd;have:c≠p:=dne e hp;rw[Zd this,Zd this];exact e
structure T5(tops:List (List W)):Prop where
 l:tops.length=5
 ok:∀ t∈tops,t.length<=2/\∀ w∈t,Wd w
noncomputable def zab(ws:List W):List (List W):=[[],[ws.getD 0 []],[ws.getD 1 []],[ws.getD 0 [],ws.getD 1 []],[ws.getD 1 [],ws.getD 2 []]]
theorem Q1L{ws:List W}{i:Nat}(h:i<ws.length):ws.getD i []∈ws:=by
 rw[Z8,Zi h];exact List.getElem_mem h
theorem Q5E{ws:List W}(hl:ws.length=4)(hw:∀ w∈ws,Wd w):T5 (zab ws):=by
 have g:∀ i<4,Wd (ws.getD i []):=λi hi=>hw _ (Q1L (by room))
 refine⟨rfl,λt ht=>?_⟩;unfold zab at ht;erw[Z1,ZA,Y1]at ht;rcases ht with rfl | rfl | rfl | rfl | rfl
 ·exact⟨by simp,λw hw=>nomatch hw⟩
 ·exact⟨by simp,λw hw=>by rw[Zh.mp hw];exact g 0 (by decide)⟩
 ·exact⟨by simp,λw hw=>by rw[Zh.mp hw];exact g 1 (by decide)⟩
 ·refine⟨by simp,λw hw=>?_⟩
  erw[Z1,ZA,Y1]at hw;rcases hw with rfl | rfl
  ·exact g 0 (by decide)
  ·exact g 1 (by decide)
 ·refine⟨by simp,λw hw=>?_⟩
  erw[Z1,ZA,Y1]at hw;rcases hw with rfl | rfl
  ·exact g 1 (by decide)
  ·exact g 2 (by decide)
theorem Q0p{ws:List W}{i:Nat}{M:DH}{Q:DK}(h:i<ws.length)(hq:Q (.str (ws.getD i [])) M):rIxD (.lst (ws.map D.str)) (.int (i:Int)) M Q :=
 Q2H (by room) (by rw[Zb];room) λd hd=>by
  rw[ZD,Zx,Zi h]at hd;cases hd;rw[Z8,Zi h]at hq;exact hq
theorem Q0V{ns:List (List W)}{i:Nat}{M:DH}{Q:DK}(h:i<ns.length)(hq:Q (dn (ns.getD i [])) M):rIxD (.lst (ns.map dn)) (.int (i:Int)) M Q :=
 Q2H (by room) (by rw[Zb];room) λd hd=>by
  rw[ZD,Zx,Zi h]at hd;cases hd;rw[Z8,Zi h]at hq;exact hq
def sp_aD:DSp:=λds M R=>∃ ws:List W,ds=[.lst (ws.map D.str)]/\ws.length=4/\R (.lst ((zab ws).map dn)) M
theorem ok_aD{T:Tab}:OkF T b_aD sp_aD [""]:=by
 rintro ds M R ⟨ws,rfl,hl,h⟩;erw[b_aD];w_up;refine⟨szL (by decide),Q0p (i:=0) (by room) ⟨szL (by decide),Q0p (i:=1) (by room) ⟨szL (by decide),Q0p (i:=0) (by room) (Q0p (i:=1) (by room) ⟨szL (by decide),Q0p (i:=1) (by room) (Q0p (i:=2) (by room) ⟨szL (by decide),szL (by decide),Q0f h⟩)⟩)⟩⟩⟩
theorem eqI:eqB (.int a) (.int b)=true <-> a=b:=(Q0q _ _).trans ⟨λe=>by injection e,λe=>by rw[e]⟩
noncomputable def zao(ws:List W)(c k:Int)(m:Nat):List W:=(List.range m).map λ(j:Nat)=>ws.getD (za4 c (k+(j:Int)) 4) []
theorem Q4u{ws:List W}(hl:ws.length=4){c k:Int}{m:Nat}:∀ w∈zao ws c k m,w∈ws:=λw hw=>by
 obtain⟨j,_,rfl⟩:=ZJ.mp hw;have:=Q0m (c:=c) (k:=k+(j:Int)) (m:=4) (by decide)
 exact Q1L (by room)
theorem Q0D(ws:List W)(c k:Int)(m:Nat):(zao ws c k m).length=m:=by unfold zao;rw[Zb,Yl]
def sp_al:DSp:=λds M R=>∃ (ws:List W) (c k:Int) (m:Nat),ds=[.lst (ws.map D.str),.int c,.int k,.int m]/\ws.length=4/\0<=k/\k<=1000/\m<=100/\R (dn (zao ws c k m)) M
theorem ok_al(T:Tab)(h1:T.fn 101=some ⟨"_law_part",3,[],sp_a0⟩):OkF T b_al sp_al ["","","","","",""]:=by
 rintro ds M R ⟨ws,c,k,m,rfl,hl,h0,h2,hm,h⟩;erw[b_al];walk_at "q0";refine⟨szL (by decide),?_⟩
 walk_at "q2";refine⟨by room,by room,?_⟩
 rw[ZD];refine Q1g (λi ρ M'=>∃ (v:Option D),M'=M/\ρ=[some (.lst (ws.map D.str)),some (.int c),some (.int k),some (.int m),some (dn (zao ws c k i)),v])
  ⟨none,rfl,rfl⟩ (λ_ _ _ _=>trivial) ?_ ?_
 ·rintro i ρ M' k3 hi ⟨v,rfl,rfl⟩ hk;unfold dn;w_up;erw[h1];w_up;have hp:=Q0m (c:=c) (k:=k+(0+(i:Int))) (m:=4) (by decide)
  refine⟨c,_,4,rfl,by room,by room,by decide,Q0p (by room) ⟨szL (by decide),szL (by rw[Zb,Q0D];room),?_⟩⟩
  have e:dn (zao ws c k (i+1))=D.tup ((zao ws c k i).map D.str++[.str (ws.getD (za4 c (k+(0+(i:Int))) 4) [])]):=by
   unfold zao dn;rw[range_succ,Z9,Z9,Int.zero_add];rfl
  exact hk _ _ ⟨some (.int (0+(i:Int))),rfl,by rw[e]⟩
 ·rintro ρ M' ⟨v,rfl,rfl⟩;rw[e1];clear e1;w_up;exact Q0f h
noncomputable def zaK(c:Int):Int:=if za4 c 41 2=0 then c % 1000000000 else (za4 c 40 5:Int)
def sp_a3:DSp:=λds M R=>∃ c:Int,ds=[.int c]/\R (.int (zaK c)) M
theorem ok_a3(T:Tab)(h101:T.fn 101=some ⟨"_law_part",3,[],sp_a0⟩):OkF T b_a3 sp_a3 [""]:=by
 rintro ds M R ⟨c,rfl,h⟩;erw[b_a3];w_up;erw[h101];w_up;have hp:=Q0m (c:=c) (k:=41) (m:=2) (by decide)
 refine⟨by decide,c,40,5,rfl,by decide,by decide,by decide,szL (by decide),c,41,2,rfl,by decide,by decide,by decide,Q2H (by room) hp λd hd=>?_⟩
 rw[ZD]at hd;unfold zaK at h;generalize za4 c 41 2=v at hp hd h;have:v=0\/v=1:=by room
 rcases this with rfl | rfl
 ·cases hd;rw[Zg rfl]at h;exact Q0f h
 ·cases hd;rw[Zd (by decide)]at h
  exact Q0f h
def Pre5(x:Rw):Prop:=x.n.length<=9/\((IsN x.k/\∃ b:List W,x.v=dn b/\b.length<=9/\∀ w∈b,w≠[42])\/(¬ IsN x.k/\∃ w:W,x.v=.str w))
def FitE(y x:Rw):Prop:=y.n=x.n->(y.k≠za9/\x.k≠za9)/\¬ (y.k=x.k/\(x.k=za7\/y.v=x.v))
def FitP(top:List W)(rows:List Rw)(x:Rw):Prop:=x.n.take top.length=top/\¬ (x.k=za7/\(x.n=top\/x.n[x.n.length-1]? = some [42]))/\∀ y∈rows,FitE y x
theorem FitE.fit(h:FitE y x):Fit y x:=λe=>⟨(h e).1,λz=>(h e).2 ⟨z.1.trans z.2.symm,.inl z.2⟩⟩
def sp_aH:DSp:=λds M R=>∃ (a:Addr) (rows:List Rw) (x:Rw) (top:List W),ds=[.ref a,x.d,dn top]/\M a=some (.lst (rows.map Rw.d))/\Pre5 x/\(∀ y∈rows,Pre5 y)/\(FitP top rows x->R (.bl true) M)/\(¬ FitP top rows x->R (.bl false) M)
theorem ok_aH:OkF T b_aH sp_aH ["","","",""]:=by
 rintro ds M R ⟨a,rows,x,top,rfl,ha,hx,hr,hT,hF⟩;have no:¬ FitP top rows x->∃ M0,Sub M0 M/\R (.bl false) M0:=λz=>⟨M,Sub.refl M,hF z⟩;erw[b_aH,Rw.d];refine Q0b λk1 e1=>?_;have rest:x.n.take top.length=top->¬ (x.k=za7/\(x.n=top\/x.n[x.n.length-1]? = some [42]))->k1 [some (.ref a),some x.d,some (dn top),none] M:=by
  intro htop hdn;walk_at "q2";erw[ha];refine Q0u (λi ρ M'=>M'=M/\(∃ v,ρ=[some (.ref a),some x.d,some (dn top),v])/\∀ (j:Nat) (y:Rw),j<i->rows[j]? = some y->FitE y x) ⟨rfl,⟨none,rfl⟩,λj y hj=>absurd hj (Yt j)⟩ (λi ρ M' h=>by rw[h.1];exact ha) ?_ ?_
  ·rintro i d0 ρ M' k hi ⟨rfl,⟨v,rfl⟩,hb⟩ hk;rw[Zx]at hi;cases ei:rows[i]? with
   | none=>rw[ei]at hi;cases hi
   | some y =>
    rw[ei]at hi;cases hi;have hy:=hr y (Z6 ei);have hym:=Z6 ei;have nofit:¬ FitE y x->∃ M0,Sub M0 M'/\R (.bl false) M0:=λz=>no λq=>z (q.2.2 y hym);have next:FitE y x->k [some (.ref a),some x.d,some (dn top),some y.d] M':=λq=>hk _ _ ⟨rfl,⟨_,rfl⟩,λj z hj hz=>by
     by_cases hji:j=i
     ·subst hji;rw[ei]at hz;cases hz;exact q
     ·exact hb j z (by room) hz⟩
    erw[Rw.d]at next ⊢;walk_at "q3";refine ix_t rfl ?_;erw[dn]at next ⊢
    try w_up
    erw[Q0F];refine⟨Q0e _,Q0e _,ite2 (λq1=>?_) λq1=>next λz=>absurd (Zm z) q1⟩;refine ix_t rfl ?_
    try w_up
    rw[Ze]at q1;refine⟨rfl,rfl,ite2 (λz=>nofit λq=>(q q1).1.1 (Z2 z)) λq2=>?_⟩;refine ix_t rfl ?_
    try w_up
    refine⟨rfl,rfl,ite2 (λz=>nofit λq=>(q q1).1.2 (Z2 z)) λq3=>?_⟩;rw[Ze]at q2 q3;refine ix_t rfl ?_;refine ix_t rfl ?_
    try w_up
    refine⟨rfl,rfl,ite2 (λq4=>?_) λq4=>next λ_=>⟨⟨q2,q3⟩,λz=>q4 (Zm z.1)⟩⟩;rw[Ze]at q4;refine ix_t rfl ?_
    try w_up
    refine⟨rfl,rfl,ite2 (λz=>nofit λq=>(q q1).2 ⟨q4,.inl (Z2 z)⟩) λq5=>?_⟩;rw[Ze]at q5
    replace next:y.v≠x.v->_:=λne=>next λ_=>⟨⟨q2,q3⟩,λz=>z.2.elim q5 ne⟩
    replace nofit:y.v=x.v->_:=λe=>nofit λq=>(q q1).2 ⟨q4,.inr e⟩
    refine ix_t rfl ?_;refine ix_t rfl ?_;have pv:∀ z:W,DL.plain 12 (.str z)=true:=λ_=>rfl;rcases hy.2 with ⟨_,b1,ey,_⟩ | ⟨_,b1,ey⟩ <;> rcases hx.2 with ⟨_,b2,ex,_⟩ | ⟨_,b2,ex⟩ <;> rw[ey,ex]at next nofit ⊢ <;> simp only[dn]at next nofit ⊢
    ·exact⟨Q0l 10 _,Q0l 10 _,ite2 (λz=>nofit ((Q0q _ _).mp z)) λz=>next λe=>z ((Q0q _ _).mpr e)⟩
    ·exact⟨Q0l 10 _,pv _,ite2 (λz=>nofit ((Q0q _ _).mp z)) λz=>next λe=>z ((Q0q _ _).mpr e)⟩
    ·exact⟨pv _,Q0l 10 _,ite2 (λz=>nofit ((Q0q _ _).mp z)) λz=>next λe=>z ((Q0q _ _).mpr e)⟩
    ·exact⟨pv _,pv _,ite2 (λz=>nofit ((Q0q _ _).mp z)) λz=>next λe=>z ((Q0q _ _).mpr e)⟩
  ·rintro ρ M' ⟨rfl,⟨v,rfl⟩,hb⟩;rw[e1];clear e1;w_up;refine Q0f (hT ⟨htop,hdn,λy hy=>?_⟩);obtain⟨j,hj⟩:=Yb.mp hy;exact hb j y (by rw[Zb];exact (Zf.mp hj).1) hj
 walk_at "q3";unfold dn;w_up;rw[Zb,Q1T,<- map_take];refine⟨Q0e _,Q0e _,?_⟩;rw[Q0F];refine ite2 (λz=>no λq=>?_) λq0=>?_
 ·rw[Zm q.1]at z;cases z
 have htop:x.n.take top.length=top:=by
  cases e:decide (x.n.take top.length=top) with
  | true=>exact Z2 e
  | false=>rw[e]at q0;exact absurd rfl q0
 have rest:=rest htop;refine ix_t rfl ?_;refine⟨rfl,rfl,ite2 (λqd=>?_) λqd=>rest λz=>qd ((Q0q _ _).mpr (by rw[z.1];rfl))⟩
 replace qd:x.k=za7:=by
  have q:=(Q0q (.str x.k) (.str [100,111,119,110])).mp qd;injection q
 refine ix_t rfl ?_
 try w_up
 refine⟨Q0e _,Q0e _,?_⟩;rw[Q0F];refine ite2 (λz=>no λq=>q.2.1 ⟨qd,.inl (Z2 z)⟩) λhne=>?_;rw[Ze]at hne;have hn:0<x.n.length:=by
  rcases Nat.eq_zero_or_pos x.n.length with z | z
  ·refine absurd ?_ hne;have z0:=List.length_eq_zero_iff.mp z;rw[z0]at htop ⊢;rw[<- htop,List.take_nil]
  ·exact z
 refine ix_t rfl ?_;refine Q4M (d:=.str x.n[x.n.length-1]) (by rw[Zb,Zx,Zi (by room)];rfl) ?_
 try w_up
 exact⟨rfl,rfl,ite2 (λz=>no λq=>q.2.1 ⟨qd,.inr (by rw[Zi (by room)];exact congrArg some (Z2 z))⟩) λz=>rest λq=>q.2.elim hne λe=>z (Zm (by rw[Zi (by room)]at e;exact ZE e))⟩
structure RT5(M:DH)(ad:Nat->Addr)(tops:List (List W))(rw:Nat->List Rw)(n:Nat):Prop where
 l:∀ i<5,M (ad i)=some (.lst ((rw i).map Rw.d))
 nd:∀ i j,i<5->j<5->ad i=ad j->i=j
 pre:∀ i<5,∀ x∈rw i,Pre5 x/\x.n.take (tops.getD i []).length=tops.getD i []
 val:∀ i<5,Valid (rw i)
 sz:∀ i<5,(rw i).length<=n
noncomputable def zsD(ad:Nat->Addr):D:=.lst ((List.range 5).map λi=>.ref (ad i))
theorem ix_zs{ad:Nat->Addr}{i:Nat}{M:DH}{Q:DK}(h:i<5)(hq:Q (.ref (ad i)) M):rIxD (zsD ad) (.int (i:Int)) M Q :=
 Q2H (by room) (by rw[Zb,Yl];room) λd hd=>by
  rw[ZD,Zx,getElem?_range h]at hd;cases hd;exact hq
theorem RT5.le{ad:Nat->Addr}{rw:Nat->List Rw}(h:RT5 M ad tops rw n)(hm:n<=m):RT5 M ad tops rw m:=⟨h.l,h.nd,h.pre,h.val,λi hi=>Zr (h.sz i hi) hm⟩
theorem RT5.put{ad:Nat->Addr}{rw:Nat->List Rw}(h:RT5 M ad tops rw n)(hi:i<5)(hx:Pre5 x)(ht:x.n.take (tops.getD i []).length=tops.getD i [])(hf:∀ y∈rw i,Fit y x) :
  RT5 (dupd M (ad i) (.lst ((rw i).map Rw.d++[x.d]))) ad tops (λj=>if j=i then rw j++[x] else rw j) (n+1):=by
 refine⟨λj hj=>?_,h.nd,λj hj y hy=>?_,λj hj=>?_,λj hj=>?_⟩
 ·by_cases e:j=i
  ·subst e;erw[Yj];rw[Q0c,Z9];rfl
  ·erw[Zd e];rw[Q0a λz=>e (h.nd j i hj hi z)];exact h.l j hj
 ·by_cases e:j=i
  ·subst e;erw[Yj]at hy;rcases Z4.mp hy with hy | hy
   ·exact h.pre j hj y hy
   ·rw[Zh.mp hy];exact⟨hx,ht⟩
  ·erw[Zd e]at hy;exact h.pre j hj y hy
 ·by_cases e:j=i
  ·subst e;erw[Yj];refine pairwise_append.mpr ⟨h.val j hj,Yx _ _,λy hy z hz=>?_⟩;rw[Zh.mp hz];exact hf y hy
  ·erw[Zd e];exact h.val j hj
 ·by_cases e:j=i
  ·subst e;erw[Yj];rw[Zl,ZL];exact Nat.succ_le_succ (h.sz j hj)
  ·erw[Zd e];exact le_succ_of_le (h.sz j hj)
def Fr5(ad:Nat->Addr)(M M':DH):Prop:=∀ b,(∀ i<5,b≠ad i)->M' b=M b
theorem Fr5.refl(ad:Nat->Addr)(M:DH):Fr5 ad M M:=λ_ _=>rfl
theorem Fr5.trans{ad:Nat->Addr}{M M1 M2:DH}(h1:Fr5 ad M M1)(h2:Fr5 ad M1 M2):Fr5 ad M M2:=λb hb=>(h2 b hb).trans (h1 b hb)
open Classical in
noncomputable def putF(tops:List (List W))(rw:Nat->List Rw)(i:Nat)(x:Rw):Nat->List Rw:=if FitP (tops.getD i []) (rw i) x then (λj=>if j=i then rw j++[x] else rw j) else rw
def sp_a6:DSp:=λds M R=>∃ (ad:Nat->Addr) (tops:List (List W)) (rw:Nat->List Rw) (n i:Nat) (x:Rw),ds=[zsD ad,.lst (tops.map dn),.int (i:Int),x.d]/\T5 tops/\i<5/\Pre5 x/\RT5 M ad tops rw n/\n<=900 /\
 ∀ M',RT5 M' ad tops (putF tops rw i x) (n+1)->Fr5 ad M M'->R .non M'
theorem ok_a6(T:Tab)(h106:T.fn 106=some ⟨"_law_fits",3,[],sp_aH⟩):OkF T b_a6 sp_a6 ["","","",""]:=by
 rintro ds M R ⟨ad,tops,rw,n,i,x,rfl,ht,hi,hx,rt,hn,h⟩;unfold putF at h;erw[b_a6];w_up;erw[h106];w_up;refine ix_zs hi (Q0V (by rw[ht.l];exact hi) ⟨ad i,rw i,x,tops.getD i [],rfl,rt.l i hi,hx,λy hy=>(rt.pre i hi y hy).1,λq=>?_,λq=>?_⟩)
 ·rw[Zg q]at h;refine iteT (ix_zs hi ?_);show (match M (ad i) with | some (MO.lst ds)=>_ | x=>False)
  erw[rt.l i hi];have:=rt.sz i hi;exact⟨small1000 (by rw[Zb];room),Q0f (h _ (rt.put hi hx q.1 λy hy=>(q.2.2 y hy).fit) λb hb=>Q0a (hb i hi))⟩
 ·rw[Zd q]at h;exact iteF (Q0f (h M (rt.le (le_succ _)) (Fr5.refl ad M)))
theorem T5.at_(h:T5 tops)(hi:i<5):(tops.getD i []).length<=2/\∀ w∈tops.getD i [],w≠[42]:=by
 have hm:tops.getD i []∈tops:=by
  rw[Z8,Zi (by rw[h.l];exact hi)]
  exact List.getElem_mem _
 exact⟨(h.ok _ hm).1,λw hw=>wd_ns ((h.ok _ hm).2 w hw)⟩
theorem Q5F:IsN za7:=.inl rfl
theorem Q5G:IsN za9:=Q2L
theorem Q9F:¬ IsN za1:=by unfold IsN;decide
theorem Q3D(ht:∀ w∈t,w≠[42])(hw:w≠[42]):∀ x∈t++[w],x≠[42]:=λx hx=>by
 rcases Z4.mp hx with hx | hx
 ·exact ht x hx
 ·rw[Zh.mp hx];exact hw
noncomputable def jF(k:Nat)(c:Int):Nat:=[0,0,0,k,1,2,3,4].getD (za4 c 0 8) 0
noncomputable def atF(k:Nat):Nat:=[0,0,0,1,2].getD k 0
theorem jF_lt(hk:k<5):jF k c<5:=by
 unfold jF;rw[Z8];cases e:([0,0,0,k,1,2,3,4]:List Nat)[za4 c 0 8]? with
 | none=>exact (by decide:0<5)
 | some j =>
  have:=Z6 e;erw[Z1,ZA,Y1]at this;show j<5;room
theorem QcW(k:Nat):atF k<5:=by
 unfold atF;rw[Z8];cases e:([0,0,0,1,2]:List Nat)[k]? with
 | none=>exact (by decide:0<5)
 | some j =>
  have:=Z6 e;erw[Z1,ZA,Y1]at this;show j<5;room
theorem Qa3{l:List Nat}{v:Nat}{M:DH}{Q:DK}(h:v<l.length)(hq:Q (.int ((l.getD v 0:Nat):Int)) M):rIxD (.lst (l.map λi:Nat=>D.int (i:Int))) (.int (v:Int)) M Q :=
 Q2H (by room) (by rw[Zb];room) λd hd=>by
  rw[ZD,Zx,Zi h]at hd;cases hd;rw[Z8,Zi h]at hq;exact hq
section
variable(tops:List (List W))(ws hm:List W)(k:Nat)(c:Int)(rw:Nat->List Rw)
noncomputable def hsF9:List W:=tops.getD (jF k c) []++[ws.getD 3 []]
noncomputable def zbB:W:=hm.getD (jF k c) []
noncomputable def h1F:Nat->List Rw:=putF tops rw (atF k) ⟨tops.getD k [],zaK c,za7,dn (hsF9 tops ws k c)⟩
noncomputable def h2F:Nat->List Rw:=if za4 c 1 2=1 then putF tops (h1F tops ws k c rw) (atF k) ⟨hsF9 tops ws k c,zaK (c+1),za1,.str (zbB hm k c)⟩ else h1F tops ws k c rw
noncomputable def h3F:Nat->List Rw:=if 2<za4 c 2 6 then putF tops (h2F tops ws hm k c rw) (jF k c) ⟨hsF9 tops ws k c,zaK (c+2),za1,.str (zbB hm k c)⟩ else h2F tops ws hm k c rw
noncomputable def h4F:Nat->List Rw:=if 0<za4 c 2 6/\za4 c 2 6<3 then putF tops (h3F tops ws hm k c rw) (jF k c) ⟨hsF9 tops ws k c,zaK (c+2),za9,dn (tops.getD (za4 c 3 5) []++[ws.getD 3 []])⟩ else h3F tops ws hm k c rw
end
def sp_aA:DSp:=λds M R=>∃ (ad:Nat->Addr) (tops:List (List W)) (ws hm:List W) (rw:Nat->List Rw) (n k:Nat) (c:Int),ds=[zsD ad,.lst (tops.map dn),.lst (ws.map D.str),.lst (hm.map D.str),.int (k:Int),.int c]/\T5 tops/\ws.length=4/\(∀ w∈ws,Wd w)/\hm.length=5/\k<5/\RT5 M ad tops rw n/\n<=800 /\
 ∀ M',RT5 M' ad tops (h4F tops ws hm k c rw) (n+4)->Fr5 ad M M'->R (.str (zbB hm k c)) M'
theorem ok_aA(T:Tab)(h107:T.fn 107=some ⟨"_law_put",4,[],sp_a6⟩)(h104:T.fn 104=some ⟨"_law_life",1,[],sp_a3⟩)(h101:T.fn 101=some ⟨"_law_part",3,[],sp_a0⟩):OkF T b_aA sp_aA ["","","","","","","","",""]:=by
 rintro ds M R ⟨ad,tops,ws,hm,rw,n,k,c,rfl,ht,hwl,hw,hml,hk,rt,hn,h⟩;erw[b_aA];walk_at "q0";erw[h101];w_up;have p8:=Q0m (c:=c) (k:=0) (m:=8) (by decide)
 have p6:=Q0m (c:=c) (k:=2) (m:=6) (by decide)
 have p5:=Q0m (c:=c) (k:=3) (m:=5) (by decide)
 refine⟨szL (by decide),c,0,8,rfl,by decide,by decide,by decide,Qa3 (l:=[0,0,0,k,1,2,3,4]) (by erw[Zw,ZH];room) ?_⟩
 have hj:=jF_lt (c:=c) hk;rw[show ([0,0,0,k,1,2,3,4]:List Nat).getD (za4 c 0 8) 0=jF k c from rfl];walk_at "q2";have tj:=ht.at_ hj;have w3:ws.getD 3 []≠[42]:=wd_ns (hw _ (Q1L (by room)))
 refine Q0V (by rw[ht.l];exact hj) (Q0p (i:=3) (by room) ⟨szL (by decide),?_⟩)
 rw[show dn (tops.getD (jF k c) [])=.tup ((tops.getD (jF k c) []).map D.str) from rfl];w_up;refine⟨szL (by rw[Zb];(try simp only[Zw,ZH]);room),?_⟩
 rw[Q2Y,show tops.getD (jF k c) []++[ws.getD 3 []]=hsF9 tops ws k c from rfl];have hsl:(hsF9 tops ws k c).length<=3:=by unfold hsF9;rw[Zl,ZL];room
 have hss:∀ w∈hsF9 tops ws k c,w≠[42]:=Q3D tj.2 w3;clear tj;walk_at "q2";refine⟨szL (by decide),Qa3 (l:=[0,0,0,1,2]) hk ?_⟩
 rw[show ([0,0,0,1,2]:List Nat).getD k 0=atF k from rfl];have ha:=QcW k;walk_at "q2";erw[h107,h104];w_up;have tk:=ht.at_ hk;have pdoor:∀ (z:Int) (o:W),Pre5 ⟨hsF9 tops ws k c,z,za1,.str o⟩:=λz o=>⟨by show (hsF9 tops ws k c).length<=9;room,.inr ⟨Q9F,o,rfl⟩⟩
 refine Q0V (by rw[ht.l];exact hk) ⟨c,rfl,szL (by decide),ad,tops,rw,n,atF k,⟨tops.getD k [],zaK c,za7,dn (hsF9 tops ws k c)⟩,rfl,ht,ha,⟨by show (tops.getD k []).length<=9;room,.inl ⟨Q5F,hsF9 tops ws k c,rfl,by room,hss⟩⟩,rt,by room,λM1 rt1 f1=>?_⟩
 have rt1:RT5 M1 ad tops (h1F tops ws k c rw) (n+1):=rt1;walk_at "q4";have s2:∀ M2,RT5 M2 ad tops (h2F tops ws hm k c rw) (n+2)->Fr5 ad M M2->k1 [some (zsD ad),some (.lst (tops.map dn)),some (.lst (ws.map D.str)),some (.lst (hm.map D.str)),some (.int (k:Int)),some (.int c),some (.int (jF k c:Int)),some (dn (hsF9 tops ws k c)),some (.int (atF k:Int))] M2:=by
  intro M2 rt2 f2;walk_at "q4";have s3:∀ M3,RT5 M3 ad tops (h3F tops ws hm k c rw) (n+3)->Fr5 ad M M3->k1 [some (zsD ad),some (.lst (tops.map dn)),some (.lst (ws.map D.str)),some (.lst (hm.map D.str)),some (.int (k:Int)),some (.int c),some (.int (jF k c:Int)),some (dn (hsF9 tops ws k c)),some (.int (atF k:Int))] M3:=by
   intro M3 rt3 f3;walk_at "q4";have s4:∀ M4,RT5 M4 ad tops (h4F tops ws hm k c rw) (n+4)->Fr5 ad M M4->k1 [some (zsD ad),some (.lst (tops.map dn)),some (.lst (ws.map D.str)),some (.lst (hm.map D.str)),some (.int (k:Int)),some (.int c),some (.int (jF k c:Int)),some (dn (hsF9 tops ws k c)),some (.int (atF k:Int))] M4:=by
    intro M4 rt4 f4;rw[e1];clear e1;w_up;exact Q0p (by room) (Q0f (h M4 rt4 f4))
   w_up;erw[h101,h107,h104];w_up;have no:¬ (0<za4 c 2 6/\za4 c 2 6<3)->_:=λz=>s4 M3 (by unfold h4F;rw[Zd z];exact rt3.le (by room)) f3
   refine⟨c,2,6,rfl,by decide,by decide,by decide,ite2 (λq1=>ite2 (λq2=>?_) λq=>no λz=>q (Zm (by room))) λq=>no λz=>q (Zm (by room))⟩
   rw[Ze]at q1 q2;refine⟨_,rfl,c,3,5,rfl,by decide,by decide,by decide,Q0V (by rw[ht.l];room) (Q0p (i:=3) (by room) ⟨szL (by decide),?_⟩)⟩
   have tu:=ht.at_ (i:=za4 c 3 5) (by room)
   rw[show dn (tops.getD (za4 c 3 5) [])=.tup ((tops.getD (za4 c 3 5) []).map D.str) from rfl];w_up;refine⟨szL (by rw[Zb];(try simp only[Zw,ZH]);room),szL (by decide),?_⟩
   rw[Q2Y];refine⟨ad,tops,h3F tops ws hm k c rw,n+3,jF k c,⟨hsF9 tops ws k c,zaK (c+2),za9,dn (tops.getD (za4 c 3 5) []++[ws.getD 3 []])⟩,rfl,ht,hj,⟨by show (hsF9 tops ws k c).length<=9;room,.inl ⟨Q5G,_,rfl,by rw[Zl,ZL];room,Q3D tu.2 w3⟩⟩,rt3,by room,λM4 rt4 f4=>s4 M4 ?_ (f3.trans f4)⟩
   unfold h4F;rw[Zg ⟨by room,by room⟩]
   exact rt4
  w_up;erw[h101,h107,h104];w_up;refine⟨c,2,6,rfl,by decide,by decide,by decide,ite2 (λq=>?_) λq=>s3 M2 (by unfold h3F;rw[Zd λz=>q (Zm (by room))];exact rt2.le (by room)) f2⟩
  rw[Ze]at q;refine⟨_,rfl,Q0p (by room) ⟨szL (by decide),ad,tops,h2F tops ws hm k c rw,n+2,jF k c,⟨hsF9 tops ws k c,zaK (c+2),za1,.str (zbB hm k c)⟩,rfl,ht,hj,pdoor _ _,rt2,by room,λM3 rt3 f3=>s3 M3 ?_ (f2.trans f3)⟩⟩
  unfold h3F;rw[Zg (by room)]
  exact rt3
 w_up;erw[h101,h107,h104];w_up;refine⟨c,1,2,rfl,by decide,by decide,by decide,rfl,rfl,ite2 (λq=>?_) λq=>s2 M1 (by unfold h2F;rw[Zd λz=>q (eqI.mpr (by room))];exact rt1.le (by room)) f1⟩
 have q':za4 c 1 2=1:=by have:((za4 c 1 2:Nat):Int)=1:=eqI.mp q;room
 refine⟨_,rfl,Q0p (by room) ⟨szL (by decide),ad,tops,h1F tops ws k c rw,n+1,atF k,⟨hsF9 tops ws k c,zaK (c+1),za1,.str (zbB hm k c)⟩,rfl,ht,ha,pdoor _ _,rt1,by room,λM2 rt2 f2=>s2 M2 ?_ (f1.trans f2)⟩⟩
 unfold h2F;rw[Zg q'];exact rt2
noncomputable def kMk:W:=[109,97,114,107]
theorem Qa4(a b:List W):D.tup (a.map D.str++b.map D.str)=dn (a++b):=by unfold dn;rw[Z9]
section
variable(tops:List (List W))(ws hm:List W)(i:Nat)(c:Int)
noncomputable def nm0F:List W:=tops.getD i []++zao ws c 5 (za4 c 8 3)
noncomputable def nm1F:List W:=if za4 c 9 6=1 then nm0F tops ws i c++[[42]] else nm0F tops ws i c
noncomputable def kdF:W:=[za9,kMk,kMk,za1,za7,za9,za1].getD (za4 c 10 7) []
noncomputable def vwF:W:=[[114,101,100],[114,101],118::digs (c % 1000000000000000000000000000000).toNat].getD (za4 c 11 3) []
noncomputable def nm2F:List W:=if kdF c=za1 then (if za4 c 18 2=0 then nm1F tops ws i c else tops.getD i []++[ws.getD 3 []]) else nm1F tops ws i c
noncomputable def v1F:D:=if kdF c=za1 then .str (hm.getD (za4 c 12 5) []) else .str (vwF c)
noncomputable def v2F:D:=if kdF c=za9 then dn (tops.getD (za4 c 13 5) []++zao ws c 14 (za4 c 17 3)) else v1F hm c
noncomputable def v3F:D:=if kdF c=za7 then dn (tops.getD (za4 c 13 5) []++[ws.getD 3 []]) else v2F tops ws hm c
noncomputable def rowF:Rw:=⟨nm2F tops ws i c,zaK c,kdF c,v3F tops ws hm c⟩
end
theorem Q5H(ht:T5 tops)(hi:i<5):(nm1F tops ws i c).length<=5:=by
 have ti:=(ht.at_ hi).1;have p3:=Q0m (c:=c) (k:=8) (m:=3) (by decide)
 unfold nm1F nm0F;split
 ·rw[Zl,Zl,Q0D,ZL];room
 ·rw[Zl,Q0D];room
theorem Q9G{tops:List (List W)}{ws hm:List W}{i:Nat}{c:Int}(ht:T5 tops)(hi:i<5)(hwl:ws.length=4)(hw:∀ w∈ws,Wd w):Pre5 (rowF tops ws hm i c):=by
 have n1:=Q5H (ws:=ws) (c:=c) ht hi;have ti:=(ht.at_ hi).1;have w3:ws.getD 3 []≠[42]:=wd_ns (hw _ (Q1L (by room)))
 have p5:=Q0m (c:=c) (k:=13) (m:=5) (by decide)
 have p3:=Q0m (c:=c) (k:=17) (m:=3) (by decide)
 have tu:=ht.at_ (i:=za4 c 13 5) (by room)
 refine⟨?_,?_⟩
 ·show (nm2F tops ws i c).length<=9;unfold nm2F;split
  ·split
   ·room
   ·rw[Zl,ZL];room
  ·room
 ·show (IsN (kdF c)/\∃ b:List W,v3F tops ws hm c=dn b/\b.length<=9/\∀ w∈b,w≠[42])\/(¬ IsN (kdF c)/\∃ w:W,v3F tops ws hm c=.str w);unfold v3F;by_cases d:kdF c=za7
  ·rw[Zg d,d];exact .inl ⟨Q5F,_,rfl,by rw[Zl,ZL];room,Q3D tu.2 w3⟩
  ·rw[Zd d];unfold v2F;by_cases e:kdF c=za9
   ·rw[Zg e,e];refine .inl ⟨Q5G,_,rfl,by rw[Zl,Q0D];room,λw hw'=>?_⟩
    rcases Z4.mp hw' with y | y
    ·exact tu.2 w y
    ·exact wd_ns (hw w (Q4u hwl w y))
   ·rw[Zd e];refine .inr ⟨λz=>z.elim d e,?_⟩;unfold v1F;split
    ·exact⟨_,rfl⟩
    ·exact⟨_,rfl⟩
def sp_aL:DSp:=λds M R=>∃ (ad:Nat->Addr) (tops:List (List W)) (ws hm:List W) (rw:Nat->List Rw) (n i:Nat) (c:Int),ds=[zsD ad,.lst (tops.map dn),.lst (ws.map D.str),.lst (hm.map D.str),.int (i:Int),.int c]/\T5 tops/\ws.length=4/\(∀ w∈ws,Wd w)/\hm.length=5/\i<5/\RT5 M ad tops rw n/\n<=800 /\
 ∀ M',RT5 M' ad tops (putF tops rw i (rowF tops ws hm i c)) (n+1)->Fr5 ad M M'->R .non M'
theorem Q7X{l:List W}{v:Nat}{M:DH}{Q:DK}(h:v<l.length)(hq:Q (.str (l.getD v [])) M):rIxD (.lst (l.map D.str)) (.int (v:Int)) M Q:=Q0p h hq
theorem ok_aL(T:Tab)(h107:T.fn 107=some ⟨"_law_put",4,[],sp_a6⟩)(h104:T.fn 104=some ⟨"_law_life",1,[],sp_a3⟩)(h101:T.fn 101=some ⟨"_law_part",3,[],sp_a0⟩)(h103:T.fn 103=some ⟨"_law_below",4,[],sp_al⟩):OkF T b_aL sp_aL ["","","","","","","","",""]:=by
 rintro ds M R ⟨ad,tops,ws,hm,rw,n,i,c,rfl,ht,hwl,hw,hml,hi,rt,hn,h⟩;have ti:=ht.at_ hi;have n1:=Q5H (ws:=ws) (c:=c) ht hi;have q8:=Q0m (c:=c) (k:=8) (m:=3) (by decide)
 have q9:=Q0m (c:=c) (k:=10) (m:=7) (by decide)
 have q11:=Q0m (c:=c) (k:=11) (m:=3) (by decide)
 have q12:=Q0m (c:=c) (k:=12) (m:=5) (by decide)
 have q13:=Q0m (c:=c) (k:=13) (m:=5) (by decide)
 have q17:=Q0m (c:=c) (k:=17) (m:=3) (by decide)
 have q18:=Q0m (c:=c) (k:=18) (m:=2) (by decide)
 have tu:=ht.at_ (i:=za4 c 13 5) (by room)
 erw[b_aL];walk_at "q0";erw[h101,h103];w_up;refine Q0V (by rw[ht.l];exact hi) ⟨c,8,3,rfl,by decide,by decide,by decide,ws,c,5,_,rfl,hwl,by decide,by decide,by room,?_⟩
 rw[show dn (tops.getD i [])=.tup ((tops.getD i []).map D.str) from rfl,show dn (zao ws c 5 (za4 c 8 3))=.tup ((zao ws c 5 (za4 c 8 3)).map D.str) from rfl];w_up;refine⟨szL (by rw[Zb,Zb,Q0D];room),?_⟩
 rw[Qa4,show tops.getD i []++zao ws c 5 (za4 c 8 3)=nm0F tops ws i c from rfl,e1];clear e1;refine Q0b λk1 e1=>?_;have go:k1 [some (zsD ad),some (.lst (tops.map dn)),some (.lst (ws.map D.str)),some (.lst (hm.map D.str)),some (.int (i:Int)),some (.int c),some (dn (nm1F tops ws i c)),none,none] M:=by
  walk_at "q2";erw[h101];w_up;refine⟨szL (by decide),c,10,7,rfl,by decide,by decide,by decide,Q7X (l:=[za9,kMk,kMk,za1,za7,za9,za1]) (by erw[Zw,ZH];room) ?_⟩
  rw[show ([za9,kMk,kMk,za1,za7,za9,za1]:List W).getD (za4 c 10 7) []=kdF c from rfl];walk_at "q2";erw[h101];w_up;have ep:(10:Int) ^ (30:Int).toNat=1000000000000000000000000000000:=by decide
  rw[ep];have l9:=Q9w (n:=(c % 1000000000000000000000000000000).toNat) (k:=30) (by decide) (by room)
  refine⟨⟨by decide,by decide,by decide⟩,by decide,by room,by rw[<- Int.toNat_of_nonneg (show 0<=c % 1000000000000000000000000000000 by room)];exact QcP (by room),szL (by (try simp only[Zw,ZH]);room),szL (by decide),c,11,3,rfl,by decide,by decide,by decide,?_⟩
  refine Q7X (l:=[[114,101,100],[114,101],118::digs (c % 1000000000000000000000000000000).toNat]) (by erw[Zw,ZH];room) ?_
  rw[show ([[114,101,100],[114,101],118::digs (c % 1000000000000000000000000000000).toNat]:List W).getD (za4 c 11 3) []=vwF c from rfl];clear l9 ep;walk_at "q4";have s1:k1 [some (zsD ad),some (.lst (tops.map dn)),some (.lst (ws.map D.str)),some (.lst (hm.map D.str)),some (.int (i:Int)),some (.int c),some (dn (nm2F tops ws i c)),some (.str (kdF c)),some (v1F hm c)] M:=by
   walk_at "q4";have s2:k1 [some (zsD ad),some (.lst (tops.map dn)),some (.lst (ws.map D.str)),some (.lst (hm.map D.str)),some (.int (i:Int)),some (.int c),some (dn (nm2F tops ws i c)),some (.str (kdF c)),some (v2F tops ws hm c)] M:=by
    walk_at "q4";have s3:k1 [some (zsD ad),some (.lst (tops.map dn)),some (.lst (ws.map D.str)),some (.lst (hm.map D.str)),some (.int (i:Int)),some (.int c),some (dn (nm2F tops ws i c)),some (.str (kdF c)),some (v3F tops ws hm c)] M:=by
     rw[e1];clear e1;w_up;erw[h107,h104];w_up;exact⟨c,rfl,szL (by decide),ad,tops,rw,n,i,rowF tops ws hm i c,rfl,ht,hi,Q9G ht hi hwl hw,rt,by room,λM' rt' f'=>Q0f (h M' rt' f')⟩
    w_up;erw[h101];w_up;unfold v3F at s3;refine⟨rfl,rfl,ite2 (λq=>?_) λq=>?_⟩
    ·rw[Zg (show kdF c=za7 from Z2 q)]at s3;refine⟨c,13,5,rfl,by decide,by decide,by decide,Q0V (by rw[ht.l];room) (Q0p (i:=3) (by room) ⟨szL (by decide),?_⟩)⟩
     rw[show dn (tops.getD (za4 c 13 5) [])=.tup ((tops.getD (za4 c 13 5) []).map D.str) from rfl];w_up;refine⟨szL (by rw[Zb];(try simp only[Zw,ZH]);room),?_⟩
     rw[Q2Y];exact s3
    ·rw[Zd (show ¬ kdF c=za7 from λz=>q (Zm z))]at s3;exact s3
   w_up;erw[h101,h103];w_up;unfold v2F at s2;refine⟨rfl,rfl,ite2 (λq=>?_) λq=>?_⟩
   ·rw[Zg (show kdF c=za9 from Z2 q)]at s2;refine⟨c,13,5,rfl,by decide,by decide,by decide,Q0V (by rw[ht.l];room) ⟨c,17,3,rfl,by decide,by decide,by decide,ws,c,14,_,rfl,hwl,by decide,by decide,by room,?_⟩⟩
    rw[show dn (tops.getD (za4 c 13 5) [])=.tup ((tops.getD (za4 c 13 5) []).map D.str) from rfl,show dn (zao ws c 14 (za4 c 17 3))=.tup ((zao ws c 14 (za4 c 17 3)).map D.str) from rfl];w_up;refine⟨szL (by rw[Zb,Zb,Q0D];room),?_⟩
    rw[Qa4];exact s2
   ·rw[Zd (show ¬ kdF c=za9 from λz=>q (Zm z))]at s2;exact s2
  w_up;erw[h101];w_up;unfold nm2F v1F at s1;refine⟨rfl,rfl,ite2 (λq=>?_) λq=>?_⟩
  ·rw[Zg (show kdF c=za1 from Z2 q),Zg (show kdF c=za1 from Z2 q)]at s1;refine⟨c,12,5,rfl,by decide,by decide,by decide,Q0p (by room) (Q0V (by rw[ht.l];exact hi) (Q0p (i:=3) (by room) ⟨szL (by decide),?_⟩))⟩
   rw[show dn (tops.getD i [])=.tup ((tops.getD i []).map D.str) from rfl];w_up;refine⟨szL (by rw[Zb];(try simp only[Zw,ZH]);room),szL (by decide),?_⟩
   rw[Q2Y];refine⟨c,18,2,rfl,by decide,by decide,by decide,Q2H (by room) q18 λd hd=>?_⟩
   rw[ZD]at hd;generalize za4 c 18 2=v at q18 hd s1;have:v=0\/v=1:=by room
   rcases this with rfl | rfl
   ·cases hd;rw[Zg rfl]at s1;exact s1
   ·cases hd;rw[Zd (by decide)]at s1
    exact s1
  ·rw[Zd (show ¬ kdF c=za1 from λz=>q (Zm z)),Zd (show ¬ kdF c=za1 from λz=>q (Zm z))]at s1;exact s1
 w_up;erw[h101];w_up;unfold nm1F at go;refine⟨c,9,6,rfl,by decide,by decide,by decide,rfl,rfl,ite2 (λq=>⟨szL (by decide),?_⟩) λq=>?_⟩
 ·rw[Zg (by have:((za4 c 9 6:Nat):Int)=1:=eqI.mp q;room)]at go
  rw[show dn (nm0F tops ws i c)=.tup ((nm0F tops ws i c).map D.str) from rfl];w_up;refine⟨szL (by unfold nm0F;rw[Zb,Zl,Q0D];(try simp only[Zw,ZH]);room),?_⟩
  rw[Q2Y];exact go
 ·rw[Zd λz=>q (eqI.mpr (by room))]at go
  exact go
noncomputable def b_ax:CS:=by walk_at "~cf3g105b&1acf4rbBabBabBabBabBaacf5wq[2,0 M#5ad&1g101bg100b&2b#3ab&0b#4acf6Bbd&2#0acx7!j#1#5ctGJ&6bg108b&4b&3b&1b&5b&7bg100b&0bin#3&7aaaacx8z&0#9#25ctg109b&4b&3b&1b&5bg101b&8b#4b#5ab&8aacf9!gcx7M#5cjeCg101bg100b&0b#8ab&7b#12a#1ctGJ!D&9d&6&7Bablbd&3&7bg104bg100b&0bin#3&7aabLd&4&7aaaaach&9a"
def sp_aa:DSp:=λds M R=>∃ (ns:List Int) (k:Nat),ds=[.lst (ns.map D.int),.int k]/\R (.int (ns.getD k 0)) M
theorem RT5.frame{ad:Nat->Addr}{rw:Nat->List Rw}(h:RT5 M ad tops rw n)(e:∀ i<5,M' (ad i)=M (ad i)):RT5 M' ad tops rw n:=⟨λi hi=>(e i hi).trans (h.l i hi),h.nd,h.pre,h.val,h.sz⟩
theorem five(f0:M p0=none)(f1:dupd M p0 (.lst []) p1=none)(f2:dupd (dupd M p0 (.lst [])) p1 (.lst []) p2=none)(f3:dupd (dupd (dupd M p0 (.lst [])) p1 (.lst [])) p2 (.lst []) p3=none)(f4:dupd (dupd (dupd (dupd M p0 (.lst [])) p1 (.lst [])) p2 (.lst [])) p3 (.lst []) p4=none) :
  ∃ (ad:Nat->Addr) (M1:DH),RT5 M1 ad tops (λ_=>[]) 0/\Sub M M1/\(∀ i<5,M (ad i)=none)/\dupd (dupd (dupd (dupd (dupd M p0 (.lst [])) p1 (.lst [])) p2 (.lst [])) p3 (.lst [])) p4 (.lst [])=M1/\D.lst [.ref p0,.ref p1,.ref p2,.ref p3,.ref p4]=zsD ad:=by
 have no:∀ {X:DH} {a b:Addr},dupd X a (.lst []) b=none->b≠a/\X b=none:=fun{X a b} h=>by
  by_cases e:b=a
  ·rw[e,Q0c]at h;cases h
  ·rw[Q0a e]at h;exact⟨e,h⟩
 obtain⟨n10,g1⟩:=no f1;obtain⟨n21,g2⟩:=no f2;obtain⟨n20,g2⟩:=no g2;obtain⟨n32,g3⟩:=no f3;obtain⟨n31,g3⟩:=no g3;obtain⟨n30,g3⟩:=no g3;obtain⟨n43,g4⟩:=no f4;obtain⟨n42,g4⟩:=no g4;obtain⟨n41,g4⟩:=no g4;obtain⟨n40,g4⟩:=no g4;have i5:∀ {P:Nat->Prop},P 0->P 1->P 2->P 3->P 4->∀ i<5,P i:=fun{P} a b c d e i hi=>by
  match i,hi with
  | 0,_=>exact a
  | 1,_=>exact b
  | 2,_=>exact c
  | 3,_=>exact d
  | 4,_=>exact e
 refine⟨λi=>match i with | 0=>p0 | 1=>p1 | 2=>p2 | 3=>p3 | _=>p4,_,⟨?_,?_,(λi _ x hx=>nomatch hx),λi _=>List.Pairwise.nil,λi _=>Zq _⟩,(Sub.new f0).trans ((Sub.new f1).trans ((Sub.new f2).trans ((Sub.new f3).trans (Sub.new f4)))),?_,rfl,rfl⟩
 ·refine i5 ?_ ?_ ?_ ?_ ?_
  ·show dupd _ p4 _ p0=_;rw[Q0a n40.symm,Q0a n30.symm,Q0a n20.symm,Q0a n10.symm,Q0c];rfl
  ·show dupd _ p4 _ p1=_;rw[Q0a n41.symm,Q0a n31.symm,Q0a n21.symm,Q0c];rfl
  ·show dupd _ p4 _ p2=_;rw[Q0a n42.symm,Q0a n32.symm,Q0c];rfl
  ·show dupd _ p4 _ p3=_;rw[Q0a n43.symm,Q0c];rfl
  ·show dupd _ p4 _ p4=_;rw[Q0c];rfl
 ·intro i j hi hj
  revert i
  refine i5 ?_ ?_ ?_ ?_ ?_ <;> revert j <;> refine i5 ?_ ?_ ?_ ?_ ?_ <;> intro e <;> first | rfl | exact absurd e (by assumption) | exact absurd e.symm (by assumption)
 ·exact i5 f0 g1 g2 g3 g4
noncomputable def zn5(o:W)(ws:List W)(lv:List Int)(rw:Nat->List Rw)(i:Nat):Zn:=⟨o,(zab ws).getD i [],lv.getD i 0,rw i⟩
theorem QcX{ad:Nat->Addr}{rw:Nat->List Rw}(rt:RT5 M ad (zab ws) rw 40)(ht:T5 (zab ws))(o:W)(lv:List Int)(hi:i<5):ZnOk (zn5 o ws lv rw i):=by
 have ti:=ht.at_ hi;refine⟨λx hx=>?_,Zr ti.1 (by decide),ZM (rt.sz i hi) (by decide),λx hx=>?_,ti.2⟩
 ·obtain⟨⟨p1,p2⟩,p3⟩:=rt.pre i hi x hx;refine⟨⟨Zr p1 (by decide),p3⟩,?_⟩
  rcases p2 with ⟨q,b,e,_⟩ | q
  ·exact .inl ⟨q,b,e⟩
  ·exact .inr q
 ·obtain⟨⟨p1,p2⟩,p3⟩:=rt.pre i hi x hx;rcases p2 with ⟨q,b,e,bl,_⟩ | ⟨q,w,e⟩
  ·rw[e];show (b.map D.str).length<=20;rw[Zb];room
  ·rw[e];exact ZI _
theorem Q4v(kvs:List (W×D))(k:W):(valT kvs k).isSome=true <-> k∈kvs.map (·.1):=by
 rw[<- Q1y,any_eq_true,ZJ];exact⟨λ⟨p,h1,h2⟩=>⟨p,h1,Z2 h2⟩,λ⟨p,h1,h2⟩=>⟨p,h1,Zm h2⟩⟩
noncomputable def zs5(ws:List W)(lv:List Int)(rw:Nat->List Rw)(ats:List (Option W))(n:Nat):List Zn:=(List.range n).filterMap λi=>(ats.getD i none).map λo=>zn5 o ws lv rw i
theorem Q1Z(ws:List W)(lv:List Int)(rw:Nat->List Rw)(ats:List (Option W))(n:Nat):zs5 ws lv rw ats (n+1)=zs5 ws lv rw ats n++((ats.getD n none).map λo=>zn5 o ws lv rw n).toList:=by
 unfold zs5;rw[range_succ,List.filterMap_append];rw[filterMap_cons,List.filterMap_nil];cases h:ats.getD n none with
 | none=>rfl
 | some o=>rfl
theorem Q1M(a b:List Zn)(w:W):ofD (a++b) w=ofD a w++ofD b w:=filter_append ..
theorem Q1N(z:Zn)(w:W):ofD [z] w=if z.o=w then [z] else []:=by
 unfold ofD;by_cases e:z.o=w
 ·rw[Zg e,filter_cons,Zg (Zm e),filter_nil]
 ·rw[Zd e,filter_cons,Zd (by simp[e]),filter_nil]
noncomputable def zbP(ks:List W)(w:W):List W:=if w∈ks then ks else ks++[w]
noncomputable def k5(ats:List (Option W)):Nat->List W
 | 0=>[]
 | i+1=>match ats.getD i none with
  | none=>k5 ats i
  | some o=>zbP (k5 ats i) o
structure Hs5(M M':DH)(hd:Addr)(kvs:List (W×D))(zs:List Zn):Prop where
 d:M' hd=some (.oth (.dkt kvs))
 f:M hd=none
 v:∀ w,(valT kvs w=none/\ofD zs w=[])\/∃ q,valT kvs w=some (.ref q)/\M' q=some (.lst ((ofD zs w).map Zn.v))/\M q=none/\q≠hd
 i:∀ w w' q,valT kvs w=some (.ref q)->valT kvs w'=some (.ref q)->w=w'
 s:Sub M M'
theorem Hs5.old(h:Hs5 M M' hd kvs zs)(e:valT kvs z.o=some (.ref q))(fp:M' p=none):Hs5 M (dupd (dupd M' p (.lst [])) q (.lst ((ofD zs z.o).map Zn.v++[z.v]))) hd kvs (zs++[z]):=by
 obtain⟨q0,e0,m0,f0,n0⟩:=(h.v z.o).resolve_left λy=>by rw[y.1]at e;cases e
 rw[e]at e0;cases e0;have pq:q≠p:=λy=>by rw[y,fp]at m0;cases m0
 have ph:hd≠p:=λy=>by rw[<- y,h.d]at fp;cases fp
 refine⟨by rw[Q0a n0.symm,Q0a ph];exact h.d,h.f,λw=>?_,h.i,(h.s.put (h.s.none fp)).put f0⟩
 by_cases ew:z.o=w
 ·right;refine⟨q,by rw[<- ew];exact e,?_,f0,n0⟩
  rw[Q0c,Q1M,Q1N,Zg ew,Z9,<- ew];rfl
 ·rcases h.v w with ⟨a,b⟩ | ⟨q',a,b,c,d⟩
  ·exact .inl ⟨a,by rw[Q1M,Q1N,Zd ew,b];rfl⟩
  ·right;have qq:q'≠q:=λy=>ew (h.i z.o w q e (by rw[<- y];exact a))
   have qp:q'≠p:=λy=>by rw[y,fp]at b;cases b
   refine⟨q',a,?_,c,d⟩;rw[Q0a qq,Q0a qp,Q1M,Q1N,Zd ew,Y2];exact b
theorem Hs5.new(h:Hs5 M M' hd kvs zs)(e:valT kvs z.o=none)(fp:M' p=none):Hs5 M (dupd (dupd (dupd M' p (.lst [])) hd (.oth (.dkt (putT kvs z.o (.ref p))))) p (.lst [z.v])) hd (putT kvs z.o (.ref p)) (zs++[z]):=by
 have ph:hd≠p:=λy=>by rw[<- y,h.d]at fp;cases fp
 have z0:ofD zs z.o=[]:=by
  rcases h.v z.o with y | ⟨q,y,_⟩
  ·exact y.2
  ·rw[e]at y;cases y
 have fresh:∀ w q,valT kvs w=some (.ref q)->q≠p:=λw q a y=>by
  rcases h.v w with x | ⟨q',a',b,_⟩
  ·rw[x.1]at a;cases a
  ·rw[a]at a';cases a';rw[y,fp]at b;cases b
 refine⟨by rw[Q0a ph,Q0c],h.f,λw=>?_,λw w' q a b=>?_,((h.s.put (h.s.none fp)).put h.f).put (h.s.none fp)⟩
 ·by_cases ew:w=z.o
  ·right;refine⟨p,by rw[Q1Q,Zg ew],?_,h.s.none fp,ph.symm⟩
   rw[Q0c,Q1M,Q1N,ew,Zg rfl,z0];rfl
  ·rw[Q1Q,Zd ew];rcases h.v w with ⟨a,b⟩ | ⟨q',a,b,c,d⟩
   ·exact .inl ⟨a,by rw[Q1M,Q1N,Zd (λy=>ew y.symm),b];rfl⟩
   ·right;refine⟨q',a,?_,c,d⟩;rw[Q0a (fresh w q' a),Q0a d,Q0a (fresh w q' a),Q1M,Q1N,Zd (λy=>ew y.symm),Y2];exact b
 ·rw[Q1Q]at a b;by_cases e1:w=z.o
  ·by_cases e2:w'=z.o
   ·rw[e1,e2]
   ·rw[Zg e1]at a;rw[Zd e2]at b;cases a;exact absurd rfl (fresh w' _ b)
  ·rw[Zd e1]at a;by_cases e2:w'=z.o
   ·rw[Zg e2]at b;cases b;exact absurd rfl (fresh w _ a)
   ·rw[Zd e2]at b;exact h.i w w' q a b
section
variable(ns:List Int)(ws drs:List W)
noncomputable def hmF:List W:=(List.range 5).map λ(j:Nat)=>drs.getD (za4 (ns.getD 3 0) (j:Int) 4) []
noncomputable def rwK:Nat->Nat->List Rw
 | 0=>λ_=>[]
 | i+1=>h4F (zab ws) ws (hmF ns drs) (i+1) (ns.getD (4+i) 0) (rwK i)
noncomputable def asF(n:Nat):List W:=drs.getD 0 []::(List.range n).map λ(i:Nat)=>zbB (hmF ns drs) (i+1) (ns.getD (4+i) 0)
noncomputable def csF:List Int:=(ns.drop 9).take 16
noncomputable def rwM:Nat->Nat->List Rw
 | 0=>rwK ns ws drs 4
 | i+1=>putF (zab ws) (rwM i) (za4 ((csF ns).getD i 0) 4 5) (rowF (zab ws) ws (hmF ns drs) (za4 ((csF ns).getD i 0) 4 5) ((csF ns).getD i 0))
noncomputable def rwZ:Nat->List Rw:=rwM ns ws drs (csF ns).length
noncomputable def atZ:List (Option W):=(List.range 5).map λ(k:Nat)=>if za4 (ns.getD 8 0) (k:Int) 12=1 then none else some ((asF ns drs 4).getD k [])
noncomputable def lvZ:List Int:=(List.range 5).map λ(k:Nat)=>zaK (ns.getD (3+k) 0)
noncomputable def zsZ:List Zn:=zs5 ws (lvZ ns) (rwZ ns ws drs) (atZ ns drs) 5
end
theorem Hs5.del(h:Hs5 M X hd kvs zs)(fa:M a=none)(na:hd≠a)(nq:∀ w q,valT kvs w=some (.ref q)->q≠a):Hs5 M (ddel X a) hd kvs zs:=by
 have e:∀ b,b≠a->ddel X a b=X b:=λb n=>Zd n;refine⟨by rw[e hd na];exact h.d,h.f,λw=>?_,h.i,λb o hb=>?_⟩
 ·rcases h.v w with y | ⟨q,y1,y2,y3,y4⟩
  ·exact .inl y
  ·exact .inr ⟨q,y1,by rw[e q (nq w q y1)];exact y2,y3,y4⟩
 ·rw[e b λz=>by rw[z,fa]at hb;cases hb]
  exact h.s b o hb
theorem Q4w(n:q≠a):dupd (ddel X a) q v=ddel (dupd X q v) a:=by
 funext b
 unfold ddel;by_cases e:b=q
 ·rw[e,Q0c,Zd n,Q0c]
 ·rw[Q0a e];by_cases e2:b=a
  ·rw[Zg e2,Zg e2]
  ·rw[Zd e2,Zd e2,Q0a e]
def sp_ax:DSp:=λds M R=>∃ (ns:List Int) (ws drs:List W),ds=[.lst (ns.map D.int),.lst (ws.map D.str),.lst (drs.map D.str)]/\ws.length=4/\(∀ w∈ws,Wd w)/\drs.length=4 /\
 ∀ M' a kvs,(∃ X ad,RT5 X ad (zab ws) (rwZ ns ws drs) 40)->Hs5 M M' a kvs (zsZ ns ws drs)->kvs.map (·.1)=k5 (atZ ns drs) 5->R (.ref a) M'
theorem Q3E{α:Type}{f:Nat->α}{n i:Nat}{d:α}(h:i<n):((List.range n).map f).getD i d=f i:=by
 rw[Z8,Zx,getElem?_range h];rfl
set_option maxHeartbeats 4000000 in
theorem ok_ax(T:Tab)(h109:T.fn 109=some ⟨"_law_more",6,[],sp_aL⟩)(h101:T.fn 101=some ⟨"_law_part",3,[],sp_a0⟩)(h108:T.fn 108=some ⟨"_law_handed",6,[],sp_aA⟩)(h104:T.fn 104=some ⟨"_law_life",1,[],sp_a3⟩)(h100:T.fn 100=some ⟨"_law_cell_at",2,[],sp_aa⟩)(h105:T.fn 105=some ⟨"_law_tops",1,[],sp_aD⟩) :
  OkF T b_ax sp_ax ["","","","","","","","","",""]:=by
 rintro ds M R ⟨ns,ws,drs,rfl,hwl,hw,hdl,h⟩;erw[b_ax];walk_at "q0";erw[h105];w_up;refine⟨ws,rfl,hwl,?_⟩;have ht:=Q5E hwl hw;walk_at "q2";refine⟨ZI _,λp0 f0=>⟨ZI _,λp1 f1=>⟨ZI _,λp2 f2=>⟨ZI _,λp3 f3=>⟨ZI _,λp4 f4=>⟨szL (by decide),?_⟩⟩⟩⟩⟩⟩
 obtain⟨ad,M1,rt0,s1,fr1,eM,ez⟩:∃ (ad:Nat->Addr) (M1:DH),RT5 M1 ad (zab ws) (λ_=>[]) 0/\Sub M M1/\(∀ i<5,M (ad i)=none)/\dupd (dupd (dupd (dupd (dupd M p0 (.lst [])) p1 (.lst [])) p2 (.lst [])) p3 (.lst [])) p4 (.lst [])=M1/\D.lst [.ref p0,.ref p1,.ref p2,.ref p3,.ref p4]=zsD ad:=five f0 f1 f2 f3 f4;rw[eM,ez];clear eM ez f0 f1 f2 f3 f4;walk_at "q2";refine⟨by decide,by decide,?_⟩
 refine Q2p (List.range 5) (λi:Nat=>D.int (0+(i:Int))) (λj:Nat=>D.str (drs.getD (za4 (ns.getD 3 0) (j:Int) 4) [])) trivial (by decide) (λi kk hi hkk=>?_) ⟨szL (by rw[Zb,Yl];decide),?_⟩
 ·have hi5:i<5:=mem_range.mp hi;have:=Q0m (c:=ns.getD 3 0) (k:=(i:Int)) (m:=4) (by decide)
  erw[h100,h101];w_up;rw[Int.zero_add];exact⟨ns,3,rfl,ns.getD 3 0,(i:Int),4,rfl,by room,by room,by decide,Q0p (by room) hkk⟩
 have ehm:D.lst ((List.range 5).map λj:Nat=>D.str (drs.getD (za4 (ns.getD 3 0) (j:Int) 4) []))=.lst ((hmF ns drs).map D.str):=by
  unfold hmF;rw[map_map];rfl
 rw[ehm];have hml:(hmF ns drs).length=5:=by unfold hmF;rw[Zb,Yl]
 clear ehm;walk_at "q2";refine Q0p (i:=0) (by room) ⟨szL (by decide),λla fla=>?_⟩
 have lad:∀ i<5,la≠ad i:=λi hi z=>by rw[z,rt0.l i hi]at fla;cases fla
 have hlaM:M la=none:=s1.none fla;walk_at "q2";refine⟨⟨by decide,by decide,by decide,by decide⟩,?_⟩
 have fr5:∀ {X X':DH},Fr5 ad X X'->X' la=X la:=λf=>f la lad;have sb5:∀ {X X':DH},Sub M X->Fr5 ad X X'->Sub M X':=fun{X X'} s f b o e=>(f b λi hi z=>by rw[z,fr1 i hi]at e;cases e).trans (s b o e)
 refine Q1g (λi ρ M'=>∃ (v7:Option D),ρ=[some (.lst (ns.map D.int)),some (.lst (ws.map D.str)),some (.lst (drs.map D.str)),some (.lst ((zab ws).map dn)),some (zsD ad),some (.lst ((hmF ns drs).map D.str)),some (.ref la),v7,none,none]/\RT5 M' ad (zab ws) (rwK ns ws drs i) (4 * i)/\M' la=some (.lst ((asF ns drs i).map D.str))/\Sub M M')
  ⟨none,rfl,rt0.frame λi hi=>Q0a (lad i hi).symm,Q0c,s1.put hlaM⟩ (λ_ _ _ _=>trivial) ?_ ?_
 ·clear e1;rintro i ρ M' k hi ⟨v7,rfl,rt,ma,sM⟩ hk;have hi4:i<4:=hi;w_up;erw[h100,h108,ma];w_up;have ei:(1:Int)+(i:Int)=((i+1:Nat):Int):=by room
  have ej:(3:Int)+(1+(i:Int))=((4+i:Nat):Int):=by room
  refine⟨ns,4+i,by rw[ej],ad,zab ws,ws,hmF ns drs,rwK ns ws drs i,4 * i,i+1,ns.getD (4+i) 0,by rw[ei],ht,hwl,hw,hml,by room,rt,by room,λM2 rt2 f2=>?_⟩
  have ma2:M2 la=some (.lst ((asF ns drs i).map D.str)):=(fr5 f2).trans ma;erw[ma2];have al:(asF ns drs i).length=i+1:=by unfold asF;rw[Zw,Zb,Yl]
  refine⟨small1000 (by rw[Zb];room),hk _ _ ⟨_,rfl,(rt2.frame λi hi=>Q0a (lad i hi).symm).le (by room),?_,(sb5 sM f2).put hlaM⟩⟩
  rw[Q0c];unfold asF;rw[range_succ,Z9,ZC,ZC,Z9];rfl
 rintro ρ M2 ⟨v7,rfl,rt,ma,sM⟩;have rt:RT5 M2 ad (zab ws) (rwK ns ws drs 4) 16:=rt;have ma:M2 la=some (.lst ((asF ns drs 4).map D.str)):=ma;walk_at "q2";have ec:cut (ns.map D.int) (some 9) (some 25)=(csF ns).map D.int:=by
  unfold csF;rw[map_take,map_drop];exact Qbn _ 9 25
 have c16:(csF ns).length<=16:=by unfold csF;rw[Zz];room
 rw[ec];intro p hp;erw[Q0c];have pad:∀ i<5,p≠ad i:=λi hi z=>by rw[z,rt.l i hi]at hp;cases hp
 have pla:p≠la:=λz=>by rw[z,ma]at hp;cases hp
 have hpM:M p=none:=sM.none hp;refine Q0u (λi ρ M'=>∃ (v8:Option D),ρ=[some (.lst (ns.map D.int)),some (.lst (ws.map D.str)),some (.lst (drs.map D.str)),some (.lst ((zab ws).map dn)),some (zsD ad),some (.lst ((hmF ns drs).map D.str)),some (.ref la),v7,v8,none]/\RT5 M' ad (zab ws) (rwM ns ws drs i) (16+i)/\M' la=some (.lst ((asF ns drs 4).map D.str))/\M' p=some (.lst ((csF ns).map D.int))/\Sub M M')
  ⟨none,rfl,rt.frame λi hi=>Q0a (pad i hi).symm,by rw[Q0a pla.symm];exact ma,Q0c,sM.put hpM⟩ (λi ρ M' h=>by obtain⟨_,_,_,_,e,_⟩:=h;exact e) ?_ ?_
 ·clear e1;rintro i d ρ M' k hi ⟨v8,rfl,rt,ma,mp,sM⟩ hk;have hil:=(Zf.mp hi).1;rw[Zb]at hil;obtain⟨c,ec2,rfl⟩:∃ c,(csF ns).getD i 0=c/\d=.int c:=by
   rw[Zx,Zi hil]at hi;cases hi;exact⟨_,by rw[Z8,Zi hil];rfl,rfl⟩
  have p5:=Q0m (c:=c) (k:=4) (m:=5) (by decide)
  w_up;erw[h101,h109];w_up;refine⟨c,4,5,rfl,by decide,by decide,by decide,ad,zab ws,ws,hmF ns drs,rwM ns ws drs i,16+i,za4 c 4 5,c,rfl,ht,hwl,hw,hml,by room,rt,by room,λM3 rt3 f3=>hk _ _ ⟨_,rfl,?_,(fr5 f3).trans ma,(f3 p pad).trans mp,sb5 sM f3⟩⟩
  unfold rwM;rw[ec2];exact rt3
 rintro ρ M3 ⟨v8,rfl,rt,ma,mp,sM⟩;rw[Zb]at rt;have rt:=rt.le (m:=40) (by room)
 have rt:RT5 M3 ad (zab ws) (rwZ ns ws drs) 40:=rt;clear mp;walk_at "q2";intro hd hhd;have hla:hd≠la:=λz=>by rw[z,ma]at hhd;cases hhd
 have had:∀ j<5,hd≠ad j:=λj hj z=>by rw[z,rt.l j hj]at hhd;cases hhd
 have hfM:M hd=none:=sM.none hhd;have rows:∀ j<5,M3 (ad j)=some (.lst ((rwZ ns ws drs j).map Rw.d)):=rt.l;have hat:(atZ ns drs).length=5:=by unfold atZ;rw[Zb,Yl]
 walk_at "q2";refine⟨by decide,by decide,?_⟩
 refine Q1g (λi ρ M'=>∃ (kvs:List (W×D)) (v7:Option D),ρ=[some (.lst (ns.map D.int)),some (.lst (ws.map D.str)),some (.lst (drs.map D.str)),some (.lst ((zab ws).map dn)),some (zsD ad),some (.lst ((hmF ns drs).map D.str)),some (.ref la),v7,v8,some (.ref hd)]/\Hs5 M M' hd kvs (zs5 ws (lvZ ns) (rwZ ns ws drs) (atZ ns drs) i)/\kvs.length<=i/\kvs.map (·.1)=k5 (atZ ns drs) i/\(∀ w,(ofD (zs5 ws (lvZ ns) (rwZ ns ws drs) (atZ ns drs) i) w).length<=i)/\(∀ j,i<=j->j<5->M' (ad j)=some (.lst ((rwZ ns ws drs j).map Rw.d)))/\M' la=some (.lst ((asF ns drs 4).map D.str))/\∀ w q,valT kvs w=some (.ref q)->q≠la/\∀ j,i<=j->j<5->q≠ad j)
  ⟨[],_,rfl,⟨Q0c,hfM,λw=>.inl ⟨Q8V,rfl⟩,(λw w' q a=>nomatch a),sM.put hfM⟩,Zq _,rfl,λw=>Zq _,λj _ hj=>by rw[Q0a (had j hj).symm];exact rows j hj,by rw[Q0a hla.symm];exact ma,(λw q a=>nomatch a)⟩ (λ_ _ _ _=>trivial) ?_ ?_
 ·clear e1;rintro i ρ M' k hi ⟨kvs,v7',rfl,hs,kl,kk,ol,mr,ml,nq⟩ hk;have hi5:i<5:=hi;rw[Int.zero_add];have al:(asF ns drs 4).length=5:=rfl;w_up;erw[h100,h101];w_up;refine⟨ns,8,rfl,ns.getD 8 0,(i:Int),12,rfl,by room,by room,by decide,rfl,rfl,ite2 (λq=>?_) λq=>?_⟩
  ·have q':¬ za4 (ns.getD 8 0) (i:Int) 12=1:=λz=>by
    have:eqB (.int ((za4 (ns.getD 8 0) (i:Int) 12:Nat):Int)) (.int 1)=true:=eqI.mpr (by room)
    have q2:(!eqB (.int ((za4 (ns.getD 8 0) (i:Int) 12:Nat):Int)) (.int 1))=true:=q;rw[this]at q2;cases q2
   have eg:(atZ ns drs).getD i none=some ((asF ns drs 4).getD i []):=by unfold atZ;rw[Q3E hi5,Zd q']
   obtain⟨o,eo⟩:∃ o,(asF ns drs 4).getD i []=o:=⟨_,rfl⟩;rw[eo]at eg;have es:zs5 ws (lvZ ns) (rwZ ns ws drs) (atZ ns drs) (i+1)=zs5 ws (lvZ ns) (rwZ ns ws drs) (atZ ns drs) i++[zn5 o ws (lvZ ns) (rwZ ns ws drs) i]:=by rw[Q1Z,eg];rfl
   have ol':∀ w,(ofD (zs5 ws (lvZ ns) (rwZ ns ws drs) (atZ ns drs) (i+1)) w).length<=i+1:=λw=>by
    rw[es,Q1M,Q1N,Zl];have:=ol w;split <;> simp <;> room
   have ezv:D.tup [dn ((zab ws).getD i []),.int (zaK (ns.getD (3+i) 0)),.lst ((rwZ ns ws drs i).map Rw.d)]=(zn5 o ws (lvZ ns) (rwZ ns ws drs) i).v:=by
    show _=D.tup [dn ((zab ws).getD i []),.int ((lvZ ns).getD i 0),.lst ((rwZ ns ws drs i).map Rw.d)];unfold lvZ;rw[Q3E hi5]
   have faM:M (ad i)=none:=fr1 i hi5;have adn:∀ j,j<5->j≠i->ad j≠ad i:=λj hj ne z=>ne (rt.nd j i hj hi5 z);erw[h104,dFrz];w_up;refine⟨hd,kvs,rfl,hs.d,Q7A ml (by room) (by rw[Zb,al];room) λd0 hd0=>?_⟩
   rw[ZD,Zx]at hd0;have ea:(asF ns drs 4)[i]? = some o:=by
    rw[<- eo,Z8,Zi (by room)]
    rfl
   rw[ea]at hd0;cases hd0;refine⟨ZI _,λp hp=>?_⟩;have ph:hd≠p:=λy=>by rw[<- y,hs.d]at hp;cases hp
   have pl:la≠p:=λy=>by rw[<- y,ml]at hp;cases hp
   have pa:∀ j,i<=j->j<5->ad j≠p:=λj h1 h2 y=>by rw[<- y,mr j h1 h2]at hp;cases hp
   have e3:(3:Int)+(i:Int)=((3+i:Nat):Int):=by room
   refine⟨o,kvs,rfl,by rw[Q0a ph];exact hs.d,small1000 (by room),λd hv=>?_,λhv=>?_⟩
   ·rcases hs.v o with y | ⟨q,y1,y2,_⟩
    ·rw[y.1]at hv;cases hv
    ·rw[hv]at y1;cases y1;have qp:q≠p:=λy=>by rw[y,hp]at y2;cases y2
     have mq:dupd M' p (.lst []) q=some (.lst ((ofD (zs5 ws (lvZ ns) (rwZ ns ws drs) (atZ ns drs) i) o).map Zn.v)):=by rw[Q0a qp];exact y2
     have qa:=(nq o q hv).2 i (Zq _) hi5;have mi:dupd M' p (.lst []) (ad i)=some (.lst ((rwZ ns ws drs i).map Rw.d)):=by rw[Q0a (pa i (Zq _) hi5)];exact mr i (Zq _) hi5
     erw[mq];rw[e3];refine Q0V (by rw[ht.l];exact hi5) ⟨ns,3+i,rfl,_,rfl,ix_zs hi5 ?_⟩
     erw[mi];have mq2:ddel (dupd M' p (.lst [])) (ad i) q=some (.lst ((ofD (zs5 ws (lvZ ns) (rwZ ns ws drs) (atZ ns drs) i) o).map Zn.v)):=(Zd qa).trans mq;erw[mq2];have:=ol o;rw[ezv,Q4w qa];refine⟨szL (by decide),small1000 (by rw[Zb];room),hk _ _ ⟨kvs,_,rfl,?_,by room,?_,ol',λj h1 h2=>?_,?_,λw q2 a=>⟨(nq w q2 a).1,λj h1 h2=>(nq w q2 a).2 j (by room) h2⟩⟩⟩
     ·rw[es];exact (hs.old (z:=zn5 o ws (lvZ ns) (rwZ ns ws drs) i) hv hp).del faM (had i hi5) λw q2 a=>(nq w q2 a).2 i (Zq _) hi5
     ·have hm:o∈k5 (atZ ns drs) i:=by rw[<- kk];exact (Q4v kvs o).mp (by rw[hv];rfl)
      rw[kk,k5,eg];show _=zbP _ _;unfold zbP;rw[Zg hm]
     ·rw[show ddel (dupd (dupd M' p (.lst [])) q (.lst ((ofD (zs5 ws (lvZ ns) (rwZ ns ws drs) (atZ ns drs) i) o).map Zn.v++[(zn5 o ws (lvZ ns) (rwZ ns ws drs) i).v]))) (ad i) (ad j)=dupd (dupd M' p (.lst [])) q (.lst ((ofD (zs5 ws (lvZ ns) (rwZ ns ws drs) (atZ ns drs) i) o).map Zn.v++[(zn5 o ws (lvZ ns) (rwZ ns ws drs) i).v])) (ad j) from Zd (adn j h2 (by room)),Q0a ((nq o q hv).2 j (by room) h2).symm,Q0a (pa j (by room) h2)]
      exact mr j (by room) h2
     ·rw[show ddel (dupd (dupd M' p (.lst [])) q (.lst ((ofD (zs5 ws (lvZ ns) (rwZ ns ws drs) (atZ ns drs) i) o).map Zn.v++[(zn5 o ws (lvZ ns) (rwZ ns ws drs) i).v]))) (ad i) la=dupd (dupd M' p (.lst [])) q (.lst ((ofD (zs5 ws (lvZ ns) (rwZ ns ws drs) (atZ ns drs) i) o).map Zn.v++[(zn5 o ws (lvZ ns) (rwZ ns ws drs) i).v])) la from Zd (lad i hi5),Q0a (nq o q hv).1.symm,Q0a pl];exact ml
   ·have pai:=(pa i (Zq _) hi5).symm;have mp:dupd (dupd M' p (.lst [])) hd (.oth (.dkt (putT kvs o (.ref p)))) p=some (.lst []):=by rw[Q0a ph.symm,Q0c]
    have mi:dupd (dupd M' p (.lst [])) hd (.oth (.dkt (putT kvs o (.ref p)))) (ad i)=some (.lst ((rwZ ns ws drs i).map Rw.d)):=by rw[Q0a (had i hi5).symm,Q0a pai.symm];exact mr i (Zq _) hi5
    erw[mp];rw[e3];refine Q0V (by rw[ht.l];exact hi5) ⟨ns,3+i,rfl,_,rfl,ix_zs hi5 ?_⟩
    erw[mi];have mp2:ddel (dupd (dupd M' p (.lst [])) hd (.oth (.dkt (putT kvs o (.ref p))))) (ad i) p=some (.lst []):=(Zd pai).trans mp;erw[mp2];rw[ezv,Q4w pai];refine⟨szL (by decide),small1000 (by simp),hk _ _ ⟨putT kvs o (.ref p),_,rfl,?_,by have:=Q4H kvs o (.ref p);room,?_,ol',λj h1 h2=>?_,?_,λw q2 a=>?_⟩⟩
    ·rw[es];refine (hs.new (z:=zn5 o ws (lvZ ns) (rwZ ns ws drs) i) hv hp).del faM (had i hi5) λw q2 a=>?_;rw[Q1Q]at a;split at a
     ·cases a;exact pai
     ·exact (nq w q2 a).2 i (Zq _) hi5
    ·have hm:o∉k5 (atZ ns drs) i:=λz=>by rw[<- kk,<- Q4v,hv]at z;cases z
     rw[Q5z _ (by rw[hv];rfl),Z9,kk,k5,eg]
     show _=zbP _ _;unfold zbP;rw[Zd hm];rfl
    ·refine (Zd (adn j h2 (by room))).trans ?_
     rw[Q0a (pa j (by room) h2),Q0a (had j h2).symm,Q0a (pa j (by room) h2)]
     exact mr j (by room) h2
    ·refine (Zd (lad i hi5)).trans ?_;rw[Q0a pl,Q0a hla.symm,Q0a pl];exact ml
    ·rw[Q1Q]at a;split at a
     ·cases a;exact⟨pl.symm,λj h1 h2=>(pa j (by room) h2).symm⟩
     ·exact⟨(nq w q2 a).1,λj h1 h2=>(nq w q2 a).2 j (by room) h2⟩
  ·have q':za4 (ns.getD 8 0) (i:Int) 12=1:=by
    have q2:¬ (!eqB (.int ((za4 (ns.getD 8 0) (i:Int) 12:Nat):Int)) (.int 1))=true:=q;have:eqB (.int ((za4 (ns.getD 8 0) (i:Int) 12:Nat):Int)) (.int 1)=true:=by
     cases e:eqB (.int ((za4 (ns.getD 8 0) (i:Int) 12:Nat):Int)) (.int 1) with
     | true=>rfl
     | false=>rw[e]at q2;exact absurd rfl q2
    have:=eqI.mp this;room
   have eg:(atZ ns drs).getD i none=none:=by unfold atZ;rw[Q3E hi5,Zg q']
   refine hk _ _ ⟨kvs,_,rfl,?_,by room,by rw[kk,k5,eg],λw=>?_,λj h1 h2=>mr j (by room) h2,ml,λw q a=>⟨(nq w q a).1,λj h1 h2=>(nq w q a).2 j (by room) h2⟩⟩
   ·rw[Q1Z,eg];show Hs5 M M' hd kvs (zs5 ws (lvZ ns) (rwZ ns ws drs) (atZ ns drs) i++[]);rw[Y2];exact hs
   ·rw[Q1Z,eg];show (ofD (zs5 ws (lvZ ns) (rwZ ns ws drs) (atZ ns drs) i++[]) w).length<=_;rw[Y2];exact le_succ_of_le (ol w)
 ·rintro ρ M' ⟨kvs,v7',rfl,hs,kl,kk,ol,mr,ml,nq⟩;rw[e1];clear e1;w_up;exact⟨M',Sub.refl _,h M' hd kvs ⟨M3,ad,rt⟩ hs kk⟩
noncomputable def b_ay:CS:=by walk_at "~cf1in#1g170b&0b#30b#8acf2g170b&0b#31b&1acf3Bacx4M#4ctGJ&3binini!k'# &2d'0123456789 iFing170b&0b#32b#10a&4#10i!k'# i!bi!b&1#1&2aachL&3a"
noncomputable def b_ag:CS:=by walk_at "~cx2!jinsybd&0#0a#1insyb&1a#1cx3d&0#2cjAekd&3#2'down ekd&3#0z&1a&2ch&3aaaachoDa"
noncomputable def b_aM:CS:=by walk_at "~chIek&1d&0#0e!EouHwq[1 d&0#2aekzd&0#0asyb&1a&1a"
noncomputable def b_aP:CS:=by walk_at "~cf2racjekzd&1#3asybd&1#0ad&1#0cf2wq[1 d&0#2Aekd&0#0d&1#3ekd&0#2'door &0aacf3sXbLi!drbd&1#1awq[ &2ad&0#1achlb'down bd&1#0bd&1#3bLsYbwq[ &2ad&0#3ab&3aa"
noncomputable def b_an:CS:=by walk_at "~cf3g112b&0b&1acje!e&3oDchg114b&0b&3aaacf4syb&1acKWg113b&0bz&1a&4acf4i!b&4#1acf5&1cjeV&4syb&1acf5inz&1a&4lb'* aaacf6wq[5 d&0#2ekd&0#0&1&0cjAek&6raeC&5&1chlb'none bd&0#1aaacjAeC&6raekdd&6#0#2'else chlb'else bdd&6#0#3bdd&6#0#1aaacf7wq[2 &6ekd&0#2&1&0cjek&7rachlb'empty bd&0#1aaachlb'rows bLsYbwq[ &7ad&0#3absXbwq[ &7ad&0#1aaa"
noncomputable def b_a7:CS:=by walk_at "~cx5!a&0&1racjekd&5#0&2chg115b&5b&3b&4aaaachlb'away aa"
def sp_ay:DSp:=λds M R=>∃ c:Int,ds=[.int c]/\∀ drs:List W,drs.length=4->(∀ w∈drs,w.length<=20/\∀ c∈w,c<=57)->R (.lst (drs.map D.str)) M
theorem ok_ay(T:Tab)(h101:T.fn 170=some ⟨"_law_part",3,[],sp_aG⟩):OkF T b_ay sp_ay ["","","","",""]:=by
 rintro ds M R ⟨c,rfl,h⟩;erw[b_ay];walk_at "q0";erw[h101];w_up;refine⟨c,30,8,rfl,by decide,by decide,by decide,λv hv=>?_⟩
 have es:(1:Int)+(v:Int)=((v+1:Nat):Int):=by room
 w_up;rw[es,e1];clear e1;walk_at "q0";erw[h101];w_up;refine⟨c,31,_,rfl,by decide,by decide,by room,λu hu=>?_⟩
 walk_at "q2";refine⟨ZI _,λp hp=>?_⟩;walk_at "q2";refine⟨by decide,by decide,?_⟩
 refine Q1g (λi ρ M'=>∃ (drs:List W) (v4:Option D),M'=dupd M p (.lst (drs.map D.str))/\ρ=[some (.int c),some (.int ((v+1:Nat):Int)),some (.int (u:Int)),some (.ref p),v4]/\drs.length=i/\∀ w∈drs,w.length<=20/\∀ c∈w,c<=57) ⟨[],none,rfl,rfl,rfl,λw h=>nomatch h⟩ (λ_ _ _ _=>trivial) ?_ ?_
 ·clear e1;rintro i ρ M' k hi ⟨drs,v4,rfl,rfl,dl,dw⟩ hk;have hi4:i<4:=hi;w_up;erw[h101,Q0c];w_up;have fl:∀ n:Nat,(List.replicate n ([35]:W)).flatten.length=n:=λn=>by simp
  refine⟨by room,by room,by decide,c,32,10,rfl,by decide,by decide,by decide,λx hx=>⟨by decide,ix_str (by room) (by show _<(10:Int);room) (by decide) λy hy=>?_⟩⟩
  have y57:y<=57:=by
   have hm:=Z6 hy;erw[Z1,ZA,Y1]at hm;room
  w_up;erw[Q0c];refine⟨szL (by rw[fl];(try simp only[Zw,ZH]);room),by room,by room,by decide,szL (by rw[Zl,fl,fl];(try simp only[Zw,ZH]);room),small1000 (by rw[Zb];room),?_⟩
  rw[Q0X];refine hk _ _ ⟨drs++[(List.replicate (u:Int).toNat [35]).flatten++[y]++(List.replicate (((v+1:Nat):Int)-1-(u:Int)).toNat [35]).flatten],_,by rw[Z9];rfl,rfl,by rw[Zl,dl];rfl,λw hw=>?_⟩
  rcases Z4.mp hw with hw | hw
  ·exact dw w hw
  ·rw[Zh.mp hw];have f5:∀ (n:Nat) (c:Nat),c∈(List.replicate n ([35]:W)).flatten->c<=57:=λn c hc=>by
    obtain⟨l,hl,hc⟩:=List.mem_flatten.mp hc;rw[(List.mem_replicate.mp hl).2]at hc;rw[Zh.mp hc];decide
   refine⟨?_,λc hc=>?_⟩
   ·rw[Zl,Zl,fl,fl];erw[Zw,ZH];room
   ·rcases Z4.mp hc with hc | hc
    ·rcases Z4.mp hc with hc | hc
     ·exact f5 _ c hc
     ·rw[Zh.mp hc];exact y57
    ·exact f5 _ c hc
 ·rintro ρ M' ⟨drs,v4,rfl,rfl,dl,dw⟩;rw[e1];clear e1;w_up;erw[dFrz];w_up;erw[Q0c,Q1W hp];exact Q0f (h drs dl dw)
noncomputable def zbi(top:List W)(rows:List Rw)(m:List W):Bool:=decide (m=top)||rows.any λx=>decide (x.n.take m.length=m)
theorem Q4x(ht:m.take top.length=top):zbi top rows m=true <-> Std top rows m:=by
 unfold zbi Std;rw[or_eq_true,Ze,any_eq_true];have hl:top.length<=m.length:=by rw[<- ht,Zz];room
 constructor
 ·rintro (h | ⟨x,hx,h⟩)
  ·exact .inl h
  ·by_cases e:m=top
   ·exact .inl e
   ·refine .inr ⟨?_,x,hx,Z2 h⟩;rcases lt_or_ge top.length m.length with z | z
    ·exact z
    ·rw[ZS z]at ht;exact absurd ht e
 ·rintro (h | ⟨_,x,hx,h⟩)
  ·exact .inl h
  ·exact .inr ⟨x,hx,Zm h⟩
theorem Q7Y(ht:n.take top.length=top)(hj:j<=n.length)(h1:Std top rows (n.take j))(h2:∀ i,j<i->i<=n.length->¬ Std top rows (n.take i)):zas top rows n=j:=by
 obtain⟨a1,a2,a3,a4⟩:=Q2K top rows n ht;rcases Nat.lt_trichotomy (zas top rows n) j with z | z | z
 ·exact absurd h1 (a4 j z hj)
 ·exact z
 ·exact absurd a3 (h2 _ z a1)
theorem Q7Z(hv:Valid rows)(hx:x∈rows)(hy:y∈rows)(h1:x.k=za7)(h2:y.k=za7)(hn:x.n=y.n):x=y:=by
 apply Classical.byContradiction;intro hne;obtain⟨i,hi⟩:=Yb.mp hx;obtain⟨j,hj⟩:=Yb.mp hy;obtain⟨i1,i2⟩:=Zf.mp hi;obtain⟨j1,j2⟩:=Zf.mp hj;rcases Nat.lt_trichotomy i j with z | z | z
 ·have:=List.pairwise_iff_getElem.mp hv i j i1 j1 z;rw[i2,j2]at this;exact (this hn).2 ⟨h1,h2⟩
 ·subst z;rw[i2]at j2;exact hne j2
 ·have:=List.pairwise_iff_getElem.mp hv j i j1 i1 z;rw[i2,j2]at this;exact (this hn.symm).2 ⟨h2,h1⟩
theorem Q4V(hv:Valid rows):zac rows c=some x <-> x∈rows/\x.k=za7/\x.n=c:=by
 refine⟨Q0O,λ⟨h1,h2,h3⟩=>?_⟩;cases e:zac rows c with
 | none =>
  unfold zac at e;rw[getLast?_eq_none_iff,List.filter_eq_nil_iff]at e;exact absurd (Zm ⟨h2,h3⟩) (e x h1)
 | some y =>
  obtain⟨g1,g2,g3⟩:=Q0O e;rw[Q7Z hv g1 h1 g2 h2 (g3.trans h3.symm)]
theorem Valid.alone(h:Valid rows):rows.Pairwise λa b=>a.n=b.n->a.k≠za9/\b.k≠za9:=List.Pairwise.imp (fun{a b} q e=>(q e).1) h
noncomputable def byK(xs:List Rw)(k:W)(life:Int):D:=match zad xs k with
 | x::r=>.tup [.str zbA,zbF (x::r),zbL (x::r)]
 | []=>.tup [.str zbM,.int life]
def sp_aM:DSp:=λds M R=>∃ (top m:List W) (life:Int) (rows:List Rw),ds=[zD top life rows,dn m]/\rows.length<=900/\R (.bl (zbi top rows m)) M
theorem ok_aM:OkF T b_aM sp_aM ["",""]:=by
 rintro ds M R ⟨top,m,life,rows,rfl,hl,h⟩;erw[b_aM,zD,dn];walk_at "q3";erw[Q0F];refine⟨Q0e _,Q0e _,?_⟩;unfold zbi at h;by_cases e:m=top
 ·rw[Zm e,Bool.true_or]at h;erw[Zm e];exact Q0f h
 ·rw[Z7 e,Bool.false_or]at h;erw[Z7 e];refine iteF ?_;refine ix_t rfl ?_;refine Q4i (λd=>match d with | .tup [.tup n,_,_,_]=>.bl (eqB (.tup (n.take m.length)) (.tup (m.map D.str))) | d=>d) trivial (by rw[Zb];room) ?_ ?_
  ·intro d k hd hk;obtain⟨x,_,rfl⟩:=ZJ.mp hd;erw[Rw.d,dn]at hk ⊢;walk_at "q3"
   try w_up
   rw[Zb,Q1T];refine⟨?_,Q0e _,hk⟩;rw[<- map_take];exact Q0e _
  ·have e2:(rows.map Rw.d).map (λd=>match d with | .tup [.tup n,_,_,_]=>.bl (eqB (.tup (n.take m.length)) (.tup (m.map D.str))) | d=>d)=(rows.map λx=>decide (x.n.take m.length=m)).map D.bl:=by
    rw[map_map,map_map];refine map_congr_left λx _=>?_;show D.bl (eqB (.tup ((x.n.map D.str).take m.length)) (.tup (m.map D.str)))=_;rw[<- map_take,Q0F];rfl
   rw[e2];refine⟨szL (by rw[Zb,Zb];room),true,rows.map λx=>decide (x.n.take m.length=m),rfl,rfl,Q0f ?_⟩
   rw[any_map];have e3:((λc:Bool=>c==true) ∘ λx:Rw=>decide (x.n.take m.length=m))=λx=>decide (x.n.take m.length=m):=by
    funext x
    simp[Function.comp]
   rw[e3];exact h
def sp_ag:DSp:=λds M R=>∃ (top n:List W) (life:Int) (rows:List Rw),ds=[zD top life rows,dn n]/\rows.length<=900/\n.length<=100/\top.length<=100/\Valid rows /\
 (cutN top rows n=none->R .non M)/\(∀ c x,cutN top rows n=some c->zac rows c=some x->R x.d M)
theorem ok_ag:OkF T b_ag sp_ag ["","","",""]:=by
 rintro ds M R ⟨top,n,life,rows,rfl,hl,hn,ht,hv,h1,h2⟩;erw[b_ag];refine Q0b λk1 e1=>?_;erw[zD,dn];walk_at "q3";w_up;rw[Zb,Zb];refine⟨⟨by room,by room,by room,by room⟩,?_⟩
 have en:(((n.length:Int)+1)-((top.length:Int)+1)).toNat=n.length-top.length:=by room
 rw[en];generalize hL:((List.range (n.length+1)).drop (top.length+1)).map (λk=>n.take k)=L;have hLl:L.length=n.length-top.length:=by rw[<- hL,Zb,length_drop,Yl];room
 have hLi:∀ i:Nat,i<n.length-top.length->L[i]? = some (n.take (top.length+1+i)):=by
  intro i hi;rw[<- hL,Zx,getElem?_drop,getElem?_range (by room)]
  rfl
 refine Q1g (λi ρ M'=>M'=M/\(∃ v v',ρ=[some (zD top life rows),some (dn n),v,v'])/\∀ (j:Nat) (y:List W),j<i->L[j]? = some y->(zam rows y).isSome=false) ⟨rfl,⟨none,none,rfl⟩,λj y hj=>absurd hj (Yt j)⟩ (λ_ _ _ _=>trivial) ?_ ?_
 ·rintro i ρ M' k hi ⟨rfl,⟨v,v',rfl⟩,hb⟩ hk;have ei:((top.length:Int)+1)+(i:Int)=((top.length+1+i:Nat):Int):=by room
  rw[ei];erw[zD,dn];walk_at "q3";refine Q0u (λi2 ρ M''=>M''=M'/\(∃ v',ρ=[some (zD top life rows),some (dn n),some (.int (top.length+1+i:Nat)),v'])/\∀ (j:Nat) (y:Rw),j<i2->rows[j]? = some y->¬ (y.k=za7/\y.n=n.take (top.length+1+i))) ⟨rfl,⟨v',rfl⟩,λj y hj=>absurd hj (Yt j)⟩ (λ_ _ _ _=>trivial) ?_ ?_
  ·rintro i2 d0 ρ M'' kk hi2 ⟨rfl,⟨v',rfl⟩,hb2⟩ hkk;rw[Zx]at hi2;cases ex:rows[i2]? with
   | none=>rw[ex]at hi2;cases hi2
   | some x =>
    rw[ex]at hi2;cases hi2;have next:¬ (x.k=za7/\x.n=n.take (top.length+1+i))->kk [some (zD top life rows),some (dn n),some (.int (top.length+1+i:Nat)),some x.d] M'':=λq=>hkk _ _ ⟨rfl,⟨_,rfl⟩,λj z hj hz=>by
     by_cases hji:j=i2
     ·subst hji;rw[ex]at hz;cases hz;exact q
     ·exact hb2 j z (by room) hz⟩
    erw[Rw.d,zD,dn]at next ⊢;walk_at "q3"
    try w_up
    refine⟨rfl,rfl,ite2 (λq=>?_) λq=>next λz=>q (Zm z.1)⟩;rw[Ze]at q;refine ix_t rfl ?_
    try w_up
    rw[Q1T,<- map_take];erw[Q0F];refine⟨Q0e _,Q0e _,ite2 (λq2=>?_) λq2=>next λz=>q2 (Zm z.2)⟩;rw[Ze]at q2;have dr:zac rows (n.take (top.length+1+i))=some x:=(Q4V hv).mpr ⟨Z6 ex,q,q2⟩;have ec:cutN top rows n=some (n.take (top.length+1+i)):=by
     unfold cutN;rw[hL];obtain⟨g1,g2⟩:=Zf.mp (hLi i hi);exact Yh.mpr ⟨by rw[Q1u,dr];rfl,i,g1,g2,λj hj=>by rw[hb j _ hj (Zi _)];rfl⟩
    have:=h2 _ x ec dr;erw[Rw.d,dn]at this;exact Q0f this
  ·rintro ρ M'' ⟨rfl,⟨v',rfl⟩,hb2⟩;refine hk _ _ ⟨rfl,⟨_,_,rfl⟩,λj y hj hy=>?_⟩;by_cases hji:j=i
   ·subst hji;rw[hLi j hi]at hy;cases hy;rw[Q1u,Yy];cases ed:zac rows (n.take (top.length+1+j)) with
    | none=>rfl
    | some x =>
     obtain⟨g1,g2,g3⟩:=Q0O ed;obtain⟨q,hq⟩:=Yb.mp g1;exact absurd ⟨g2,g3⟩ (hb2 q x (by rw[Zb];exact (Zf.mp hq).1) hq)
   ·exact hb j y (by room) hy
 ·rintro ρ M' ⟨rfl,⟨v,v',rfl⟩,hb⟩;rw[e1];clear e1;w_up;refine Q0f (h1 ?_);unfold cutN;rw[hL];refine find?_eq_none.mpr λy hy=>?_;obtain⟨j,hj⟩:=Yb.mp hy;rw[hb j y (by rw[<- hLl];exact (Zf.mp hj).1) hj]
  simp
def Alone(rows:List Rw):Prop:=rows.Pairwise λa b=>a.n=b.n->a.k≠za9/\b.k≠za9
noncomputable def byD(xs:List Rw)(k:W)(life:Int):D:=match xs with
 | x::r=>if x.k=za9 then .tup [.str za9,x.v,.int x.l] else byK (x::r) k life
 | []=>byK [] k life
theorem by_eq(ha:Alone rows)(pl:List W)(k:W)(life:Int):zbh rows pl k life=byD (atN rows pl) k life:=by
 have hp:(atN rows pl).Pairwise λa b=>a.k≠za9/\b.k≠za9:=by
  have:=List.Pairwise.filter (λx:Rw=>decide (x.n=pl)) ha;refine List.Pairwise.imp_of_mem (fun{a b} h1 h2 h3=>h3 ?_) this;rw[(Q1h h1).2,(Q1h h2).2]
 unfold zbh byD;cases e:atN rows pl with
 | nil=>rfl
 | cons x r =>
  rw[e]at hp;by_cases hx:x.k=za9
  ·have e1:zad (x::r) za9=x::zad r za9:=by unfold zad;rw[filter_cons,Zg (Zm hx)]
   erw[e1,Zg hx]
  ·have e1:zad (x::r) za9=[]:=by
    unfold zad;rw[List.filter_eq_nil_iff];intro y hy;rw[Ze];rcases Z1.mp hy with rfl | hy
    ·exact hx
    ·exact ((List.pairwise_cons.mp hp).1 y hy).2
   erw[e1,Zd hx];rfl
def sp_aP:DSp:=λds M R=>∃ (rows:List Rw) (x:Rw) (top:List W) (life:Int),ds=[zD top life rows,x.d]/\Good top rows/\x∈rows/\x.k=za7/\R (zaS rows x) M
theorem ok_aP:OkF T b_aP sp_aP ["","","",""]:=by
 rintro ds M R ⟨rows,x,top,life,rfl,hg,hx,hxk,h⟩;have rl:=hg.1;obtain⟨hs,hv⟩:∃ b:List W,x.v=dn b:=by
  rcases (hg.2 x hx).pv with ⟨_,a⟩ | ⟨a,_⟩
  ·exact a
  ·exact absurd (.inl hxk) a
 unfold zaS at h;rw[hv,Q1K]at h;erw[b_aP,Rw.d];rw[hv];walk_at "q0";refine⟨szL (by decide),?_⟩
 walk_at "q4";have rest:∀ zs:List Rw,zs=zav rows x.n hs->zs.length<60->(∀ y∈zs,∃ w,y.v=.str w)->k1 [some (zD top life rows),some (.tup [dn x.n,.int x.l,.str x.k,dn hs]),some (.lst (zs.map Rw.d)),none] M:=by
  intro zs hzs kl str;rw[<- hzs]at h;walk_at "q2";erw[dFrz];walk_at "q3";refine⟨szL (by show 1<=1000;decide),?_⟩
  refine Q2f trivial (by room) ?_
  refine⟨szL (by rw[Zb,Zb];room),_,_,rfl,rfl,szL (by rw[Zb,Zb];(try simp only[Zw,ZH]);room),λq hq=>?_⟩
  erw[Q0c];refine⟨x.l::zs.map λx=>x.l,rfl,succ_pos _,λz hz hsz=>?_⟩;rw[Q1W hq,Q4N hz hsz,e1];clear e1;walk_at "q3";refine ix_t rfl ?_;erw[dFrz]
  try w_up
  refine Q2J trivial (by room) str ?_
  refine⟨szL (by rw[Zb,Zb];room),zs.map λx=>zaU x.v,rfl,by rw[Zb];room,λys hp hs2 q2 hq2=>?_⟩
  erw[Q0c];rw[Q3x hp hs2,Q1W hq2];exact⟨szL (by decide),Q0f h⟩
 erw[zD,dn]at rest ⊢;walk_at "q3";refine ix_t rfl ?_
 try w_up
 refine ix_t rfl ?_
 try w_up
 rw[Zb,Q1T,<- map_take];erw[Q0F];refine⟨Q0e _,Q0e _,ite2 (λq=>?_) λq=>?_⟩
 ·rw[Ze]at q;refine ix_t rfl ?_;refine Q0H (λy:Rw=>decide (y.n=hs)&&decide (y.k=za1)) trivial (by room) (λy _ P N hP hN=>?_) ?_
  ·erw[Rw.d,dn]at hP ⊢;walk_at "q3";refine ix_t rfl ?_
   try w_up
   erw[Q0F];refine⟨Q0e _,Q0e _,ite2 (λq1=>?_) λq1=>hN (by rw[eq_false_iff.mpr q1];rfl)⟩
   refine ix_t rfl ?_
   try w_up
   exact⟨rfl,rfl,ite2 (λq2=>hP (by rw[q1];exact q2)) λq2=>hN (by rw[show decide (y.k=za1)=false from eq_false_iff.mpr q2,Bool.and_false])⟩
  ·rw[show rows.filter (λy=>decide (y.n=hs)&&decide (y.k=za1))=zad (atN rows hs) za1 by unfold zad atN;rw[List.filter_filter];congr 1;funext y;rw[Bool.and_comm]]
   have kl:=Q1V rows hs za1;exact⟨szL (by rw[Zb];room),rest (zad (atN rows hs) za1) (by unfold zav;rw[Zg q]) (by room) (hg.strs (by unfold IsN za1;decide))⟩
 ·rw[Ze]at q;exact rest [] (by unfold zav;rw[Zd q]) (by decide) (λy hy=>nomatch hy)
def sp_an:DSp:=λds M R=>∃ (top n:List W) (rows:List Rw) (k:W) (life:Int),ds=[zD top life rows,dn n,.str k]/\Good top rows/\Valid rows/\¬ IsN k/\n.take top.length=top/\n.length<=100/\(∀ w∈n,w≠[42])/\R (zar top life rows n k) M
set_option maxHeartbeats 4000000 in
theorem ok_an(T:Tab)(h116:T.fn 113=some ⟨"_law_begun",2,[],sp_aM⟩)(h117:T.fn 114=some ⟨"_law_told_down",2,[],sp_aP⟩)(h115:T.fn 112=some ⟨"_law_down",2,[],sp_ag⟩):OkF T b_an sp_an ["","","","","","","",""]:=by
 rintro ds M R ⟨top,n,rows,k,life,rfl,hg,hval,hk,ht,hn,hns,h⟩;have rl:=hg.1;have hal:Alone rows:=hval.alone;obtain⟨a1,a2,a3,a4⟩:=Q2K top rows n ht;have hnl:top.length<=n.length:=by rw[<- ht,Zz];room
 erw[b_an];walk_at "q0";erw[h115];w_up;refine⟨top,n,life,rows,rfl,by room,hn,by room,hval,λec=>?_,λc x ec ed=>?_⟩
 rotate_left
 ·walk_at "q4";obtain⟨g1,g2,g3⟩:=Q0O ed;unfold zar at h;erw[ec,ed]at h;w_up;erw[Rw.d]
  try w_up
  erw[h117];w_up;exact⟨rows,x,top,life,rfl,hg,g1,g2,Q0f h⟩
 unfold zar at h;erw[ec]at h;walk_at "q2";walk_at "q4";erw[dn];w_up;rw[Zb,e1];clear e1;refine Q0b λk1 e1=>?_;show zaw _ _ _ _ _;refine⟨λj ρ M''=>M''=M/\ρ=[some (zD top life rows),some (dn n),some (.str k),some .non,some (.int (j:Nat)),none,none,none]/\top.length<=j/\j<=n.length/\∀ i,j<i->i<=n.length->¬ Std top rows (n.take i),⟨n.length,rfl,rfl,hnl,Zq _,λi h1 h2=>absurd h1 (by room)⟩,?_⟩
 rintro j ρ M'' ⟨rfl,rfl,j1,j2,j3⟩;erw[dn];w_up;erw[h116];w_up;rw[Q1T,<- map_take];have htj:(n.take j).take top.length=top:=by rw[take_take,Ye j1];exact ht
 refine⟨top,n.take j,life,rows,rfl,by room,?_⟩
 try w_up
 cases c2:zbi top rows (n.take j) with
 | false =>
  refine iteT ⟨_,λρ' M3 q=>q,?_⟩;have ns2:¬ Std top rows (n.take j):=λz=>by rw[(Q4x htj).mpr z]at c2;cases c2
  have jt:top.length<j:=by
   rcases lt_or_ge top.length j with z | z
   ·exact z
   ·have:j=top.length:=by room
    rw[this,ht]at ns2;exact absurd (.inl rfl) ns2
  have ej:(j:Int)-1=((j-1:Nat):Int):=by room
  rw[ej];refine⟨j-1,by room,rfl,rfl,by room,by room,λi h1 h2=>?_⟩
  by_cases hij:i=j
  ·rw[hij];exact ns2
  ·exact j3 i (by room) h2
 | true =>
  have hs:=(Q4x htj).mp c2;have hnear:=Q7Y ht j2 hs j3;refine iteF ?_;walk_at "q2";walk_at "q4";have rest:∀ look:List W,look=zag top rows n->k1 [some (zD top life rows),some (dn n),some (.str k),some .non,some (.int (j:Nat)),some (dn look),none,none] M'':=by
   intro look hlook;rw[<- hlook]at h;walk_at "q4";erw[zD];walk_at "q3";refine Q0H (λx:Rw=>decide (x.n=look)) trivial (by room) (λx _ P N hP hN=>?_) ?_
   ·erw[Rw.d,dn]at hP ⊢;walk_at "q3";erw[dn]
    try w_up
    erw[Q0F];exact⟨Q0e _,Q0e _,ite2 hP λq=>hN (eq_false_iff.mpr q)⟩
   ·show _/\_;rw[show rows.filter (λx=>decide (x.n=look))=atN rows look from rfl];have kl:(atN rows look).length<=rows.length:=Yc _ _;refine⟨szL (by rw[Zb];room),?_⟩
    rw[e1];clear e1;have hga:Good top (atN rows look):=⟨by room,λx hx=>hg.2 x (Q1h hx).1⟩
    have pk:DL.plain 12 (.lst ((atN rows look).map Rw.d))=true:=Q1A hga.2 8;unfold zaB at h;rw[by_eq hal]at h;refine Q0b λk1 e1=>?_;have star:look.drop (look.length-1)=[[42]] <-> ¬ look=n:=by
     rw[hlook];unfold zag;by_cases z:zas top rows n=n.length
     ·rw[Zg z];refine⟨λq=>?_,λq=>absurd rfl q⟩;have:([42]:W)∈n:=List.mem_of_mem_drop (by rw[q];exact Zh.mpr rfl)
      exact absurd rfl (hns _ this)
     ·rw[Zd z];refine⟨λ_ q=>?_,λ_=>?_⟩
      ·have:([42]:W)∈n:=by rw[<- q];exact Zy _ (Zh.mpr rfl)
       exact hns _ this rfl
      ·rw[Zl,show (n.take (zas top rows n)).length+[[42]].length-1=(n.take (zas top rows n)).length from rfl,List.drop_left]
    -- by what stands there
    have last:∀ xs:List Rw,Good top xs->R (byD xs k life) M''->k1 [some (zD top life rows),some (dn n),some (.str k),some .non,some (.int (j:Nat)),some (dn look),some (.lst (xs.map Rw.d)),none] M'':=by
     clear pk h;intro xs hgx h;have pl:DL.plain 12 (.lst (xs.map Rw.d))=true:=Q1A hgx.2 8;have rl:=hgx.1;walk_at "q4";have rest2:R (byK xs k life) M''->k1 [some (zD top life rows),some (dn n),some (.str k),some .non,some (.int (j:Nat)),some (dn look),some (.lst (xs.map Rw.d)),none] M'':=by
      intro h;walk_at "q2";refine Q0H (λx:Rw=>decide (x.k=k)) trivial (by room) (λx _ P N hP hN=>?_) ?_
      ·erw[Rw.d]at hP ⊢;walk_at "q3"
       try w_up
       exact⟨rfl,rfl,ite2 hP λq=>hN (eq_false_iff.mpr q)⟩
      ·show _/\_;rw[show xs.filter (λx=>decide (x.k=k))=zad xs k from rfl];have kl:(zad xs k).length<=xs.length:=Yc _ _;refine⟨szL (by rw[Zb];room),?_⟩
       walk_at "q4";have pk:DL.plain 12 (.lst ((zad xs k).map Rw.d))=true:=Q1A (λx hx=>hgx.2 x (Q0G hx).1) 8;have str:∀ x∈zad xs k,∃ w,x.v=.str w:=by
        intro x hx;obtain⟨h1,h2⟩:=Q0G hx;rcases (hgx.2 x h1).pv with ⟨a,_⟩ | ⟨_,b⟩
        ·rw[h2]at a;exact absurd a hk
        ·exact b
       unfold byK at h;generalize zad xs k=zs at h kl pk str;w_up;cases zs with
       | nil =>
        refine⟨szL (by decide),rfl,rfl,?_⟩
        erw[map_nil,Q0s,Yj];refine ix_t rfl ?_;exact⟨szL (by decide),Q0f h⟩
       | cons x r =>
        refine⟨szL (by decide),pk,rfl,?_⟩
        have ne:eqB (.lst ((x::r).map Rw.d)) (.lst [])=false:=(Q0I _ _).mpr (λz=>by cases z)
        erw[ne,ZN,ZU];rw[e1];clear e1
        replace h:R (.tup [.str zbA,zbF (x::r),zbL (x::r)]) M'':=h
        have z0:0<(x::r).length:=succ_pos _;generalize x::r=zs at h kl str z0;w_up;erw[dFrz];w_up;refine Q2J trivial (by room) str ?_
        refine⟨szL (by rw[Zb,Zb];room),zs.map λx=>zaU x.v,rfl,by rw[Zb];room,λys hp hs q hq=>?_⟩
        erw[Q0c];rw[Q3x hp hs,Q1W hq];refine Q2f trivial (by room) ?_
        refine⟨szL (by rw[Zb,Zb];room),zs.map λx=>x.l,rfl,by rw[Zb];room,λz hz hs=>⟨szL (by decide),Q0f ?_⟩⟩
        rw[Q4N hz hs];exact h
     w_up;unfold byD at h;cases xs with
     | nil =>
      refine⟨szL (by decide),rfl,rfl,?_⟩
      erw[map_nil,Q0s,Bool.not_true,ZN,ZU];exact rest2 h
     | cons x r =>
      refine⟨szL (by decide),pl,rfl,?_⟩
      have ne:eqB (.lst ((x::r).map Rw.d)) (.lst [])=false:=(Q0I _ _).mpr (λz=>by cases z)
      erw[ne,Bool.not_false,Yj];refine ix_l atI_0 ?_;erw[Rw.d];refine ix_t rfl ?_
      try w_up
      refine⟨rfl,rfl,ite2 (λq=>?_) λq=>?_⟩
      ·rw[Ze]at q;erw[Zg (show x.k=za9 from q)]at h;refine ix_l atI_0 ?_;refine ix_t rfl ?_;refine ix_l atI_0 ?_;refine ix_t rfl ?_;exact⟨szL (by decide),Q0f h⟩
      ·rw[Ze]at q;erw[Zd (show ¬ x.k=za9 from q)]at h;exact rest2 h
    erw[zD,dn]at last ⊢;w_up;cases ea:atN rows look with
    | nil =>
     rw[ea]at h hga;refine⟨szL (by decide),rfl,rfl,?_⟩
     erw[map_nil,Q0s,Yj];erw[Q0F];refine⟨Q0e _,Q0e _,?_⟩;by_cases z:look=n
     ·rw[Zd (λq=>(star.mp q.1) z)]at h;erw[Zm z,Bool.not_true,ZN,ZU];exact last [] hga h
     ·rw[Zg ⟨star.mpr z,rfl⟩]at h;erw[Z7 z,Bool.not_false,Yj];refine ix_t rfl ?_;exact⟨szL (by decide),Q0f h⟩
    | cons x r =>
     rw[ea]at h pk hga;rw[Zd (λq=>nomatch q.2)]at h
     refine⟨szL (by decide),pk,rfl,?_⟩
     have ne:eqB (.lst ((x::r).map Rw.d)) (.lst [])=false:=(Q0I _ _).mpr (λz=>by cases z)
     erw[ne,ZN,ZU];exact last (x::r) hga h
  try simp only[dn]
  w_up;rw[Zb];refine ite2 (λq=>?_) λq=>?_
  ·rw[Ze]at q;rw[Q1T,<- map_take];refine⟨szL (by decide),szL (by rw[Zb,Zz];(try simp only[Zw,ZH]);room),?_⟩
   have:=rest (n.take j++[[42]]) (by unfold zag;rw[hnear,Zd (by room)])
   unfold dn at this;rw[Z9]at this;exact this
  ·rw[Ze]at q;exact rest n (by unfold zag;rw[hnear,Zg (by room)])
def sp_a7:DSp:=λds M R=>∃ (a:Addr) (zs:List Zn) (o:W) (top n:List W) (k:W),ds=[.ref a,.str o,dn top,dn n,.str k]/\HsOk M a zs/\(∀ z∈zs,ZnOk z/\Valid z.r)/\zs.length<=900/\¬ IsN k/\n.take top.length=top/\n.length<=100/\(∀ w∈n,w≠[42])/\R (repO (ofD zs o) (some top) n k) M
theorem ok_a7(T:Tab)(h118:T.fn 115=some ⟨"_law_reply",3,[],sp_an⟩):OkF T b_a7 sp_a7 ["","","","","",""]:=by
 rintro ds M R ⟨a,zs,o,top,n,k,rfl,⟨kvs,ha,hs⟩,hz,hzl,hk,ht,hn,hns,h⟩;erw[b_a7];refine Q0b λk1 e1=>?_;have body:∀ (Cd:DH->Prop) (xs:List D),Cd M->xs=(ofD zs o).map Zn.v->zaX (zak 5) (evS T (.seq (.ite (.cmp .eq (.ix (.var 5) (.con (.int 0))) (.var 2)) (.seq (.ret (.call 115 (.cons (.var 5) (.cons (.var 3) (.cons (.var 4) .nil))))) .nil) .nil) .nil)) { nx:=k1,rt:=(za0 R).rt,bk:=(za0 R).bk,ct:=(za0 R).ct } Cd xs [some (.ref a),some (.str o),some (dn top),some (dn n),some (.str k),none] M:=by
  intro Cd xs hC exs;subst exs;refine Q0u (λi ρ M'=>M'=M/\(∃ v5,ρ=[some (.ref a),some (.str o),some (dn top),some (dn n),some (.str k),v5])/\∀ (j:Nat) (z:Zn),j<i->(ofD zs o)[j]? = some z->z.t≠top) ⟨rfl,⟨none,rfl⟩,λj z hj=>absurd hj (Yt j)⟩ (λi ρ M' h=>by rw[h.1];exact hC) ?_ ?_
  ·rintro i d ρ M' kk hi ⟨rfl,⟨v5,rfl⟩,hb⟩ hk2;rw[Zx]at hi;cases ei:(ofD zs o)[i]? with
   | none=>rw[ei]at hi;cases hi
   | some z =>
    rw[ei]at hi;cases hi;obtain⟨zok,zv⟩:=hz z (Q0Z (Z6 ei));have next:z.t≠top->kk [some (.ref a),some (.str o),some (dn top),some (dn n),some (.str k),some z.v] M':=λq=>hk2 _ _ ⟨rfl,⟨_,rfl⟩,λj y hj hy=>by
     by_cases hji:j=i
     ·subst hji;rw[ei]at hy;cases hy;exact q
     ·exact hb j y (by room) hy⟩
    erw[Zn.v,zD,dn]at next ⊢;walk_at "q3";erw[Q0F];refine⟨Q0e _,Q0e _,ite2 (λq=>?_) λq=>next λe=>q (Zm e)⟩;have q':z.t=top:=Z2 q;erw[h118];w_up;refine⟨z.t,n,z.r,k,z.l,rfl,zok.good,zv,hk,by rw[q'];exact ht,hn,hns,Q0f ?_⟩
    have ea:atT (ofD zs o) top=some z:=by
     obtain⟨g1,g2⟩:=Zf.mp ei;exact Yh.mpr ⟨Zm q',i,g1,g2,λj hj=>by simpa using hb j _ hj (Zi _)⟩
    rw[Q2M (z:=z) (t:=some top) ea]at h;exact h
  ·rintro ρ M' ⟨rfl,⟨v5,rfl⟩,hb⟩;rw[e1];clear e1;w_up;refine⟨szL (by decide),Q0f ?_⟩
   have ea:atT (ofD zs o) top=none:=find?_eq_none.mpr λz hz=>by
    obtain⟨j,hj⟩:=Yb.mp hz;simpa using hb j z (by rw[Zb];exact (Zf.mp hj).1) hj
   rw[Q2N (t:=some top) ea]at h;exact h
 w_up;refine⟨a,kvs,rfl,ha,ZI _,o,kvs,rfl,ha,?_⟩;rcases hs o with ⟨e,e2⟩ | ⟨d,e,e2⟩
 ·rw[e];exact body (λ_=>True) [] trivial (by rw[e2];rfl)
 ·rw[e];rcases Q1v e2 with e3 | ⟨q,e3,e4⟩
  ·rw[e3];exact body (λ_=>True) _ trivial rfl
  ·rw[e3];erw[e4];exact body (λX=>X q=some (.lst ((ofD zs o).map Zn.v))) _ e4 rfl
theorem Q8a(h:WInj ws):∀ i<5,∀ j<5,(zab ws).getD i []=(zab ws).getD j []->i=j:=by
 have h01:ws.getD 0 []≠ws.getD 1 []:=λe=>absurd (h 0 (by decide) 1 (by decide) e) (by decide)
 have s1:∀ {a b:W},([a]:List W)=[b]->a=b:=λe=>by injection e
 have s2:∀ {a b c d:W},([a,b]:List W)=[c,d]->a=c:=λe=>by injection e
 intro i hi j hj e;have ci:i=0\/i=1\/i=2\/i=3\/i=4:=by room
 have cj:j=0\/j=1\/j=2\/j=3\/j=4:=by room
 rcases ci with rfl | rfl | rfl | rfl | rfl <;> rcases cj with rfl | rfl | rfl | rfl | rfl <;> first | rfl | (have:=congrArg List.length e;simp[zab]at this;done) | exact absurd (s1 e) h01 | exact absurd (s1 e).symm h01 | exact absurd (s2 e) h01 | exact absurd (s2 e).symm h01
theorem Q4W{rw:Nat->List Rw}(h:y∈zs5 ws lv rw ats n):∃ j<n,∃ o,ats.getD j none=some o/\y=zn5 o ws lv rw j:=by
 unfold zs5 at h;obtain⟨j,hj,e⟩:=mem_filterMap.mp h;obtain⟨o,e1,e2⟩:=Zu.mp e;exact⟨j,mem_range.mp hj,o,e1,e2.symm⟩
theorem Q8b(ws:List W)(lv:List Int)(rw:Nat->List Rw)(ats:List (Option W))(n:Nat):(zs5 ws lv rw ats n).length<=n:=by
 unfold zs5;exact Zr (List.length_filterMap_le ..) (by rw[Yl];exact Zq _)
theorem QcY{ad:Nat->Addr}{rw:Nat->List Rw}(rt:RT5 M ad (zab ws) rw 40)(ht:T5 (zab ws))(hw:WInj ws)(lv:List Int)(ats:List (Option W)):ZsOk (zs5 ws lv rw ats 5):=by
 refine⟨λz hz=>?_,λw=>Zr (Yc ..) (Zr (Q8b ..) (by decide)),λw=>?_⟩
 ·obtain⟨j,hj,o,_,rfl⟩:=Q4W hz;exact QcX rt ht o lv hj
 ·have sb:((ofD (zs5 ws lv rw ats 5) w).map (·.t)).Sublist ((zs5 ws lv rw ats 5).map (·.t)):=List.Sublist.map _ List.filter_sublist;refine sb.nodup ?_;have key:∀ n ≤ 5,((zs5 ws lv rw ats n).map (·.t)).Nodup:=by
   intro n
   induction n with
   | zero=>intro _;exact nodup_nil
   | succ n ih =>
    intro hn;rw[Q1Z,Z9,nodup_append];refine⟨ih (by room),?_,λa h1 b h2 e=>?_⟩
    ·cases ats.getD n none <;> simp
    ·obtain⟨y,hy,rfl⟩:=ZJ.mp h1;obtain⟨j,hj,o,_,rfl⟩:=Q4W hy;cases eo:ats.getD n none with
     | none=>rw[eo]at h2;cases h2
     | some o' =>
      rw[eo]at h2;have h2':b=(zn5 o' ws lv rw n).t:=by simpa using h2
      rw[h2']at e;exact absurd (Q8a hw j (by room) n (by room) e) (by room)
  exact key 5 (Zq _)
def RwW(ws:List W)(x:Rw):Prop:=(∀ w∈x.n,w∈ws)\/(x.k≠za7/\∀ w∈x.n,w∈ws\/w=[42])
def AllW(ws:List W)(rw:Nat->List Rw):Prop:=∀ i,∀ x∈rw i,RwW ws x
def MayW(ws:List W)(x:Rw):Prop:=(∀ w∈x.n,w∈ws)\/((∃ m,x.n=m++[[42]])/\∀ w∈x.n,w∈ws\/w=[42])
theorem Q2a{rw:Nat->List Rw}(h:AllW ws rw)(hx:MayW ws x):AllW ws (putF tops rw i x):=by
 unfold putF;split
 ·next f =>
  intro j y hy;have hy':y∈(if j=i then rw j++[x] else rw j):=hy
  split at hy'
  ·rcases Z4.mp hy' with hy' | hy'
   ·exact h j y hy'
   ·rw[Zh.mp hy'];rcases hx with hx | ⟨⟨m,em⟩,hx⟩
    ·exact .inl hx
    ·refine .inr ⟨λz=>f.2.1 ⟨z,.inr ?_⟩,hx⟩;rw[em,Zl,ZL,Nat.add_sub_cancel,ZK (Zq _),sub_self];rfl
  ·exact h j y hy'
 ·exact h
theorem Q3F(hl:ws.length=4)(i:Nat):∀ w∈(zab ws).getD i [],w∈ws:=λw hw=>by
 have g:∀ j<4,ws.getD j []∈ws:=λj hj=>Q1L (by room)
 by_cases hi:i<5
 ·have ci:i=0\/i=1\/i=2\/i=3\/i=4:=by room
  rcases ci with rfl | rfl | rfl | rfl | rfl
  ·cases hw
  ·rw[Zh.mp hw];exact g 0 (by decide)
  ·rw[Zh.mp hw];exact g 1 (by decide)
  ·have hw':w∈[ws.getD 0 [],ws.getD 1 []]:=hw;erw[Z1,ZA,Y1]at hw';rcases hw' with rfl | rfl
   ·exact g 0 (by decide)
   ·exact g 1 (by decide)
  ·have hw':w∈[ws.getD 1 [],ws.getD 2 []]:=hw;erw[Z1,ZA,Y1]at hw';rcases hw' with rfl | rfl
   ·exact g 1 (by decide)
   ·exact g 2 (by decide)
 ·rw[Z8,List.getElem?_eq_none (by show 5<=i;room)]at hw
  cases hw
theorem hs_in(hl:ws.length=4)(k:Nat)(c:Int):∀ w∈hsF9 (zab ws) ws k c,w∈ws:=λw hw=>by
 rcases Z4.mp hw with hw | hw
 ·exact Q3F hl _ w hw
 ·rw[Zh.mp hw];exact Q1L (by room)
theorem QcZ(hl:ws.length=4){rw:Nat->List Rw}(h:AllW ws rw):AllW ws (h4F (zab ws) ws hm k c rw):=by
 have a1:AllW ws (h1F (zab ws) ws k c rw):=Q2a h (.inl (Q3F hl k));have a2:AllW ws (h2F (zab ws) ws hm k c rw):=by
  unfold h2F;split
  ·exact Q2a a1 (.inl (hs_in hl k c))
  ·exact a1
 have a3:AllW ws (h3F (zab ws) ws hm k c rw):=by
  unfold h3F;split
  ·exact Q2a a2 (.inl (hs_in hl k c))
  ·exact a2
 unfold h4F;split
 ·exact Q2a a3 (.inl (hs_in hl k c))
 ·exact a3
theorem Qbs(hl:ws.length=4):MayW ws (rowF (zab ws) ws hm i c):=by
 have n0:∀ w∈nm0F (zab ws) ws i c,w∈ws:=λw hw=>(Z4.mp hw).elim (Q3F hl i w) (Q4u hl w);have n1:MayW ws ⟨nm1F (zab ws) ws i c,0,[],.non⟩:=by
  unfold nm1F;split
  ·exact .inr ⟨⟨_,rfl⟩,λw hw=>(Z4.mp hw).elim (λz=>.inl (n0 w z)) λz=>.inr (Zh.mp z)⟩
  ·exact .inl n0
 show MayW ws ⟨nm2F (zab ws) ws i c,_,_,_⟩;unfold nm2F;split
 ·split
  ·exact n1
  ·refine .inl λw hw=>?_;rcases Z4.mp hw with hw | hw
   ·exact Q3F hl _ w hw
   ·rw[Zh.mp hw];exact Q1L (by room)
 ·exact n1
theorem Qbt(ns:List Int)(drs:List W)(hl:ws.length=4):AllW ws (rwZ ns ws drs):=by
 have a:∀ i,AllW ws (rwK ns ws drs i):=λi=>by
  induction i with
  | zero=>exact λ_ _ hx=>nomatch hx
  | succ i ih=>exact QcZ hl ih
 have b:∀ i,AllW ws (rwM ns ws drs i):=λi=>by
  induction i with
  | zero=>exact a 4
  | succ i ih=>exact Q2a ih (Qbs hl)
 exact b _
noncomputable def totR(rw:Nat->List Rw):Nat->Nat
 | 0=>0
 | i+1=>totR rw i+(rw i).length
theorem Q2b{rw:Nat->List Rw}(n:Nat):totR (putF tops rw i x) n<=totR rw n+1/\(n<=i->totR (putF tops rw i x) n=totR rw n):=by
 unfold putF;split
 ·induction n with
  | zero=>exact⟨ZI _,λ_=>rfl⟩
  | succ n ih =>
   erw[totR];by_cases e:n=i
   ·have:=ih.2 (le_of_eq e);rw[Zg e,Zl,ZL];room
   ·rw[Zd e];room
 ·exact⟨le_succ _,λ_=>rfl⟩
theorem Qd0{rw:Nat->List Rw}(n:Nat):totR (h4F tops ws hm k c rw) n<=totR rw n+4:=by
 have a1:totR (h1F tops ws k c rw) n<=totR rw n+1:=(Q2b n).1;have a2:totR (h2F tops ws hm k c rw) n<=totR rw n+2:=by
  unfold h2F;split
  ·exact Zr (Q2b n).1 (by room)
  ·room
 have a3:totR (h3F tops ws hm k c rw) n<=totR rw n+3:=by
  unfold h3F;split
  ·exact Zr (Q2b n).1 (by room)
  ·room
 unfold h4F;split
 ·exact Zr (Q2b n).1 (by room)
 ·room
theorem Q8c(ns:List Int)(ws drs:List W)(n:Nat):totR (rwZ ns ws drs) n<=32:=by
 have a:∀ i,totR (rwK ns ws drs i) n<=4 * i:=λi=>by
  induction i with
  | zero =>
   have:∀ m,totR (λ_=>[]) m=0:=λm=>by
    induction m with
    | zero=>rfl
    | succ m ih=>erw[totR,ih,ZH]
   exact le_of_eq (this n)
  | succ i ih=>exact Zr (Qd0 n) (by room)
 have b:∀ i,totR (rwM ns ws drs i) n<=16+i:=λi=>by
  induction i with
  | zero=>exact a 4
  | succ i ih=>exact Zr (Q2b n).1 (by room)
 have:=b (csF ns).length;have c16:(csF ns).length<=16:=by unfold csF;rw[Zz];room
 unfold rwZ;room
theorem Q8d{rw:Nat->List Rw}(f:Rw->List W)(n:Nat):((zs5 ws lv rw ats n).flatMap λz=>z.r.map f).length<=totR rw n:=by
 induction n with
 | zero=>exact Zq _
 | succ n ih =>
  rw[Q1Z,List.flatMap_append,Zl];erw[totR];have:((((ats.getD n none).map λo=>zn5 o ws lv rw n).toList).flatMap λz=>z.r.map f).length<=(rw n).length:=by
   cases ats.getD n none with
   | none=>exact ZI _
   | some o =>
    show ((([zn5 o ws lv rw n]:List Zn)).flatMap λz=>z.r.map f).length<=_;rw[flatMap_cons,List.flatMap_nil,Y2,Zb];exact Zq _
  room
theorem Qa5(h:Wd w):gdT w:=by
 unfold gdT;rw[ZR];intro c hc;have:=h.al c hc;have key:∀ c∈signs,c<1114112:=by decide
 exact Zm (key c this)
structure ZG(zs:List Zn)(ws:List W):Prop where
 ok:ZsOk zs
 val:∀ z∈zs,Valid z.r
 gd:∀ z∈zs,GdR z.r
 l:zs.length<=5
 w:∀ w∈ws,Wd w
 dn:∀ z∈zs,∀ x∈z.r,x.k=za7->∀ w∈x.n,w∈ws
 vn:∀ z∈zs,∀ x∈z.r,IsN x.k->(nmOf x.v).length<=9/\∀ w∈nmOf x.v,w≠[42]
 nl:∀ z∈zs,∀ x∈z.r,x.n.length<=9
 many:(Tz.NV zs).length<=32/\(Tz.DN zs).length<=32
theorem zsZ_g{ad:Nat->Addr}(hl:ws.length=4)(hw:∀ w∈ws,Wd w)(hi:WInj ws)(rt:RT5 X ad (zab ws) (rwZ ns ws drs) 40):ZG (zsZ ns ws drs) ws:=by
 have ht:=Q5E hl hw;have all:=Qbt ns drs hl;have mem:∀ z∈zsZ ns ws drs,∃ j,j<5/\z.r=rwZ ns ws drs j:=λz hz=>by
  obtain⟨j,hj,o,_,rfl⟩:=Q4W hz;exact⟨j,hj,rfl⟩
 have dn:∀ z∈zsZ ns ws drs,∀ x∈z.r,x.k=za7->∀ w∈x.n,w∈ws:=λz hz x hx hk=>by
  obtain⟨j,hj,e⟩:=mem z hz;rw[e]at hx;exact (all j x hx).resolve_right λy=>y.1 hk
 have nl:∀ z∈zsZ ns ws drs,∀ x∈z.r,x.n.length<=9:=λz hz x hx=>by
  obtain⟨j,hj,e⟩:=mem z hz;rw[e]at hx;exact (rt.pre j hj x hx).1.1
 refine⟨QcY rt ht hi _ _,λz hz=>?_,λz hz x hx hk=>⟨λw h=>Qa5 (hw w (dn z hz x hx hk w h)),Zr (nl z hz x hx) (by decide)⟩,Q8b ..,hw,dn,λz hz x hx hk=>?_,nl,Zr (Q8d _ 5) (Q8c ..),Zr (Q8d _ 5) (Q8c ..)⟩
 ·obtain⟨j,hj,e⟩:=mem z hz;rw[e];exact rt.val j hj
 ·obtain⟨j,hj,e⟩:=mem z hz;rw[e]at hx;rcases (rt.pre j hj x hx).1.2 with ⟨_,b,eb,bl,bs⟩ | ⟨nk,_⟩
  ·rw[eb,Q1K];exact⟨bl,bs⟩
  ·exact absurd hk nk
noncomputable def b_az:CS:=by walk_at "~cf2d&0#0cx3&0cjAekz&1asybd&3#0ad&3#0e!isybd&3#0asybd&2#0acf2&3aaach&2a"
noncomputable def b_af:CS:=by walk_at "~cf3BacKe!F&2&3ctGJ&3b&2ac!G4 5g117b&1b&2acf6g116b&0b&5b&4b&2b'door acjekd&6#0'rows chouHaacjeCd&6#0'else chouqaacf2d&6#1achouqa"
noncomputable def b_aJ:CS:=by walk_at "~cf5wq[ &1ad&0#0cf6g116b&0b&3b&2bd&4#0b'door acjIeCd&6#0'down IeCd&6#1d&4#0e!Hd&4#0&5chouHaachAekd&6#3raWg118b&0b&1bd&4#3aa"
noncomputable def b_ah:CS:=by walk_at "~cx3!a&0&1racjekd&3#0&2ch&3aaachlb&2b#0braaa"
namespace Tz
theorem Gd.at_{zs:List Zn}{root:W}{kd:Kd}(h:Gd zs root kd):kd[0]? = some ([],root)/\∀ k,0<k->k<kd.length->∃ c d,kd[k]? = some (c,d)/\Gd zs root (kd.take k)/\Stp zs (kd.take k) c d:=by
 induction h with
 | one=>exact⟨rfl,λk h1 h2=>by erw[Zw,ZH]at h2;room⟩
 | @step kd c d g s ih =>
  have l0:0<kd.length:=by
   cases e:kd with
   | nil=>rw[e]at ih;cases ih.1
   | cons _ _=>exact succ_pos _
  refine⟨by rw[ZZ l0];exact ih.1,λk h1 h2=>?_⟩
  rw[Zl,ZL]at h2;by_cases lt:k<kd.length
  ·obtain⟨c',d',e,g',s'⟩:=ih.2 k h1 lt;refine⟨c',d',by rw[ZZ lt];exact e,?_⟩
   rw[List.take_append_of_le_length (le_of_lt lt)];exact⟨g',s'⟩
  ·have ek:k=kd.length:=by room
   subst ek;refine⟨c,d,by rw[ZK (Zq _),sub_self];rfl,?_⟩
   rw[List.take_left' rfl];exact⟨g,s⟩
theorem Gd.of_mem{zs:List Zn}{root:W}{kd:Kd}(h:Gd zs root kd){p:List W×W}(hp:p∈kd):val kd p.1=some p.2:=by
 induction h with
 | one=>rw[Zh.mp hp];rfl
 | @step kd c d g s ih =>
  rcases Z4.mp hp with hp | hp
  ·exact Q2l (ih hp)
  ·rw[Zh.mp hp,Q1l,Option.not_isSome_iff_eq_none.mp s.new];exact Zg rfl
theorem Q8e(h:hasN kd n):∃ p∈kd,p.1=n:=by
 obtain⟨o,e⟩:=Z3.mp h;obtain⟨p,hp,_⟩:=Zu.mp e;have e:=find?_some hp;rw[Ze]at e;exact⟨p,mem_of_find?_eq_some hp,e⟩
theorem Q5I:(∀ m l,repT zs o t n k=.els m l->∃ z∈zs,∃ x∈z.r,IsN x.k/\nmOf x.v=m)/\∀ c h ds l,repT zs o t n k=.down c h ds l->∃ z∈zs,∃ x∈z.r,x.k=za7/\x.n=c/\nmOf x.v=h:=by
 unfold repT;cases ez:atT (ofD zs o) t with
 | none=>exact⟨(λ_ _ z=>nomatch z),(λ_ _ _ _ z=>nomatch z)⟩
 | some z =>
  have hz:z∈zs:=Q0Z (Q1a ez);simp only;unfold repZ;cases ec:cutN z.t z.r n with
  | some c =>
   obtain⟨x,ed⟩:=Q0S ec;erw[ed];refine⟨(λ_ _ z=>nomatch z),λc hh ds l y=>?_⟩
   injection y with y1 y2;obtain⟨d1,d2,d3⟩:=Q1i ed;exact⟨z,hz,x,d1,d2,y1,y2⟩
  | none =>
   simp only;split
   ·exact⟨(λ_ _ z=>nomatch z),(λ_ _ _ _ z=>nomatch z)⟩
   ·split
    ·next x r ee =>
     have hx:x∈zad (atN z.r (zag z.t z.r n)) za9:=by rw[ee];exact Zp
     obtain⟨h1,h2⟩:=Q0G hx;exact⟨λm l y=>by injection y with y;exact⟨z,hz,x,(Q1h h1).1,by rw[h2];exact Q2L,y⟩,(λ_ _ _ _ z=>nomatch z)⟩
    ·split <;> exact⟨(λ_ _ z=>nomatch z),(λ_ _ _ _ z=>nomatch z)⟩
theorem Gd.cuts{zs:List Zn}{root:W}{kd:Kd}(h:Gd zs root kd):∀ p∈kd,p.1=[]\/∃ z∈zs,∃ x∈z.r,x.k=za7/\x.n=p.1:=by
 induction h with
 | one=>intro p hp;rw[Zh.mp hp];exact .inl rfl
 | @step kd c d g s ih =>
  intro p hp;rcases Z4.mp hp with hp | hp
  ·exact ih p hp
  ·rw[Zh.mp hp];obtain⟨h,ds,l,e,_⟩:=s.is;obtain⟨z,hz,x,hx,h1,h2,_⟩:=Q5I.2 c h ds l e;exact .inr ⟨z,hz,x,hx,h1,h2⟩
end Tz
open Tz in
def sp_az:DSp:=λds M R=>∃ (b:Addr) (zs:List Zn) (root:W) (kd:Kd) (n:List W),ds=[.ref b,dn n]/\M b=some (.lst (kd.map prD))/\Gd zs root kd/\n.length<=100/\R (prD (topN kd n,zaa kd (topN kd n))) M
open Tz in
theorem ok_az{T:Tab}:OkF T b_az sp_az ["","","",""]:=by
 rintro ds M R ⟨b,zs,root,kd,n,rfl,hb,g,hn,h⟩;erw[b_az];refine Q0b λk1 e1=>?_;have z0:=g.at_.1;have l0:0<kd.length:=(Zf.mp z0).1;w_up;refine Q7A hb (by decide) (by rw[Zb];room) λd0 hd0=>?_
 rw[Zx,show (0:Int).toNat=0 from rfl,z0]at hd0;cases hd0;walk_at "q2";erw[hb];refine Q0u (λi ρ M'=>M'=M/\∃ (q:List W×W) (v:Option D),ρ=[some (.ref b),some (dn n),some (prD q),v]/\q∈kd/\n.take q.1.length=q.1/\∀ (j:Nat) (p:List W×W),j<i->kd[j]? = some p->n.take p.1.length=p.1->p.1.length<=q.1.length)
  ⟨rfl,([],root),none,rfl,Z6 z0,rfl,λj p hj=>absurd hj (Yt j)⟩ (λi ρ M' h=>by rw[h.1];exact hb) ?_ ?_
 ·rintro i d0 ρ M' k hi ⟨rfl,q,v,rfl,hq,hqn,hm⟩ hk;rw[Zx]at hi;obtain⟨p,ep,rfl⟩:=Zu.mp hi;have keep:(n.take p.1.length=p.1->p.1.length<=q.1.length)->k [some (.ref b),some (dn n),some (prD q),some (prD p)] M':=λz=>hk _ _ ⟨rfl,q,_,rfl,hq,hqn,λj p' hj e=>by
   by_cases ej:j=i
   ·subst ej;rw[ep]at e;cases e;exact z
   ·exact hm j p' (by room) e⟩
  unfold prD tupS at keep ⊢;unfold dn at keep ⊢;walk_at "q3";refine ix_t rfl ?_;rw[Zb,Q1T,<- map_take];show DL.plain 12 (dn (n.take p.1.length))=true/\DL.plain 12 (dn p.1)=true/\(if eqB (dn (n.take p.1.length)) (dn p.1)=true then _ else _)
  rw[show eqB (dn (n.take p.1.length)) (dn p.1)=decide (n.take p.1.length=p.1) from Q0F _ _];refine⟨Q0l 10 _,Q0l 10 _,ite2 (λq1=>?_) λq1=>keep λz=>absurd (Zm z) q1⟩;rw[Ze]at q1;refine ix_t rfl ?_;refine ix_t rfl ?_
  try w_up
  erw[Zb];refine ite2 (λq2=>?_) λq2=>keep λ_=>?_
  ·rw[Ze]at q2;refine hk _ _ ⟨rfl,p,_,rfl,Z6 ep,q1,λj p' hj e hp'=>?_⟩;by_cases ej:j=i
   ·subst ej;rw[ep]at e;cases e;exact Zq _
   ·have:=hm j p' (by room) e hp'
    room
  ·rw[Ze]at q2;room
 ·rintro ρ M' ⟨rfl,q,v,rfl,hq,hqn,hm⟩;rw[e1];clear e1;w_up;have et:topN kd n=q.1:=Q2k g.has0 hqn (by unfold hasN;rw[g.of_mem hq];rfl) λj hj lt z=>by
   obtain⟨p,hp,e⟩:=Q8e z;obtain⟨i,ei⟩:=Yb.mp hp;have lp:p.1.length=j:=by rw[e,Zz];room
   have:=hm i p (by rw[Zb];exact (Zf.mp ei).1) ei (by rw[lp];exact e.symm)
   room
  have ed:zaa kd (topN kd n)=q.2:=by unfold zaa;rw[et,g.of_mem hq];rfl
  rw[et]at ed h;rw[ed]at h;exact Q0f h
theorem d_is(a:D):¬ ¬ eqB a a=true:=λz=>z (Q0s _)
theorem d_nn(a:D):¬ (!eqB a a)=true:=λz=>by
 rw[Q0s]at z;cases z
theorem Qd1(a:W):¬ (!eqB (.str a) (.str a))=true:=λz=>by
 rw[Q0s]at z;cases z
theorem Q4X(gs:List (List W)):plain 12 (.lst (gs.map dn))=true:=by
 show (gs.map dn).all (plain 11)=true;rw[ZR];intro d hd;obtain⟨m,_,rfl⟩:=ZJ.mp hd;exact Q0l 9 m
open Tz in
def sp_af:DSp:=λds M R=>∃ (a b:Addr) (zs:List Zn) (ws:List W) (root:W) (kd:Kd) (n:List W),ds=[.ref a,.ref b,dn n]/\HsOk M a zs/\ZG zs ws/\M b=some (.lst (kd.map prD))/\Gd zs root kd/\n.length<=9/\(∀ w∈n,w≠[42])/\(∀ d,¬ Lead zs kd n d)/\R (.bl false) M
set_option maxHeartbeats 2000000 in
open Tz in
theorem ok_af(T:Tab)(h116:T.fn 116=some ⟨"_law_house_reply",5,[],sp_a7⟩)(h117:T.fn 117=some ⟨"_law_charge",2,[],sp_az⟩):OkF T b_af sp_af ["","","","","","",""]:=by
 rintro ds M R ⟨a,b,zs,ws,root,kd,n,rfl,hs,zg,hb,g,hn,hns,ld,h⟩;erw[b_af];walk_at "q0";refine⟨ZI _,λgl hgl=>?_⟩;have gb:gl≠b:=λz=>by rw[z,hb]at hgl;cases hgl
 walk_at "q4";show zaw _ _ _ _ _;refine Q1b (λj ρ M'=>∃ (m:List W) (gs:List (List W)) (v4 v5 v6:Option D),ρ=[some (.ref a),some (.ref b),some (dn m),some (.ref gl),v4,v5,v6]/\M'=dupd M gl (.lst (gs.map dn))/\gs.length+j=40/\(∀ d,¬ Lead zs kd m d)/\m.length<=9/\(∀ w∈m,w≠[42])/\gs.Nodup/\m∈n::NV zs/\∀ x∈gs,x∈n::NV zs)
  ⟨40,n,[],none,none,none,rfl,rfl,rfl,ld,hn,hns,nodup_nil,Zp,(λ_ z=>nomatch z)⟩ ?_
 rintro j ρ M' ⟨m,gs,v4,v5,v6,rfl,rfl,hj,lm,ml,ms,gnd,mN,gN⟩ TB eTB;have gl9:gs.length<=33:=by
  have h1:=gnd.length_le_of_subset (l₂:=n::NV zs) λx hx=>gN x hx;have h2:=zg.many.1;rw[Zw]at h1;room
 obtain⟨t1,t2,t3⟩:=Q0B (n:=m) g.has0;w_up;erw[Q0c];have pall:(gs.map dn).all (plain 11)=true:=Q4X gs;refine⟨_,rfl,Q0l 9 m,pall,ite2 (λnew=>?_) λz=>?_⟩;rotate_left
 ·rw[e1];w_up;exact⟨M,Sub.new hgl,h⟩
 have new:m∉gs:=λz=>by
  have q:(!(gs.map dn).any λd=>eqB d (dn m))=true:=new;rw[not_eq_true',List.any_eq_false]at q;exact q (dn m) (ZJ.mpr ⟨m,z,rfl⟩) (Q0s _)
 refine⟨λρ' M'=>∃ m2 l v4 v5 v6,ρ'=[some (.ref a),some (.ref b),some (dn m2),some (.ref gl),v4,v5,v6]/\M'=dupd M gl (.lst ((gs++[m]).map dn))/\rpA zs kd m za1=.els m2 l,?_,?_⟩
 ·rintro ρ' M' ⟨m2,l,v4,v5,v6,rfl,rfl,er⟩;obtain⟨z,hz,x,hx,hk,hv⟩:=Q5I.1 m2 l er;obtain⟨v1,v2⟩:=zg.vn z hz x hx hk;rw[hv]at v1 v2;refine⟨j-1,by room,m2,gs++[m],v4,v5,v6,rfl,rfl,by rw[Zl,ZL];room,λd z=>lm d (.els er z),v1,v2,nodup_append.mpr ⟨gnd,Yx _ _,λx hx y hy=>by rw[Zh.mp hy];exact λz=>new (z ▸ hx)⟩,Zo _ (Q4q.1 m2 l er),λx hx=>?_⟩
  rcases Z4.mp hx with hx | hx
  ·exact gN x hx
  ·rw[Zh.mp hx];exact mN
 rw[eTB];clear eTB e1;show evS T (.seq _ _) _ _ _;refine Q0b λk2 e2=>?_;w_up;erw[Q0c];refine⟨small1000 (by rw[Zb];room),?_⟩
 rw[Q0X,show gs.map dn++[dn m]=(gs++[m]).map dn by rw[Z9];rfl]
 have hb2:dupd M gl (.lst ((gs++[m]).map dn)) b=some (.lst (kd.map prD)):=by rw[Q0a gb.symm];exact hb
 have hs2:HsOk (dupd M gl (.lst ((gs++[m]).map dn))) a zs:=hs.mono (Sub.new hgl);have sb2:Sub M (dupd M gl (.lst ((gs++[m]).map dn))):=Sub.new hgl;generalize dupd M gl (.lst ((gs++[m]).map dn))=M2 at hb2 hs2 sb2 e2 ⊢;rw[e2];clear e2;refine Q0b λk2 e2=>?_;w_up;erw[h117];w_up;refine⟨b,zs,root,kd,m,rfl,hb2,g,by room,rfl,?_⟩
 show k2 _ _;rw[e2];clear e2;refine Q0b λk2 e2=>?_;w_up;erw[h116];w_up;refine⟨a,zs,zaa kd (topN kd m),topN kd m,m,za1,rfl,hs2,λz hz=>⟨zg.ok.1 z hz,zg.val z hz⟩,by have:=zg.l;room,Q3B,t1,by room,ms,?_⟩
 rw[<- Q7G (λz hz=>zg.ok.1 z hz),show repT zs (zaa kd (topN kd m)) (topN kd m) m za1=rpA zs kd m za1 from rfl];rw[e2];clear e2;obtain⟨rep,er⟩:∃ r,rpA zs kd m za1=r:=⟨_,rfl⟩;rw[er];obtain⟨w,q,ew⟩:∃ w q,rep.d=.tup (.str w::q):=by cases rep <;> exact⟨_,_,rfl⟩
 have nr:w≠zbA:=λz=>by
  subst z;cases rep with
  | rows ds l =>
   cases ds with
   | nil=>exact Q7R er
   | cons d ds=>exact lm d (.rows er)
  | _=>exact absurd ew (by unfold Rp.d;intro z;injection z with z;injection z with z;injection z with z;revert z;decide)
 refine Q0b λk2 e2=>?_;w_up;rw[ew];refine ix_t atI_0 ?_;refine⟨rfl,rfl,ite2 (λz=>absurd z ?_) λ_=>?_⟩
 ·show ¬ eqB (.str w) (.str zbA)=true;rw[Q2D,Ze];exact nr
 rw[e2];clear e2;refine Q0b λk2 e2=>?_;w_up;refine ix_t atI_0 ?_;refine⟨rfl,rfl,ite2 (λ_=>⟨M,sb2,h⟩) λz=>?_⟩;have ee:w=za9:=Classical.byContradiction λy=>z (by
  show (!eqB (.str w) (.str za9))=true;rw[Q2D,Z7 y];rfl)
 subst ee;cases rep with
 | els m2 l =>
  rw[e2];clear e2;unfold Rp.d at ew;cases ew;walk_at "q3";exact⟨m2,l,_,_,_,rfl,rfl,rfl⟩
 | _=>exact absurd ew (by unfold Rp.d;intro z;injection z with z;injection z with z;injection z with z;revert z;decide)
noncomputable def keptD(zs:List Zn)(o:W)(t:List W):D:=match atT (ofD zs o) t with
 | some z=>z.v
 | none=>.tup [dn t,.int 0,.lst []]
def sp_ah:DSp:=λds M R=>∃ (a:Addr) (zs:List Zn) (o:W) (top:List W),ds=[.ref a,.str o,dn top]/\HsOk M a zs/\zs.length<=900/\R (keptD zs o top) M
theorem ok_ah:OkF T b_ah sp_ah ["","","",""]:=by
 rintro ds M R ⟨a,zs,o,top,rfl,⟨kvs,ha,hs⟩,hzl,h⟩;unfold keptD at h;erw[b_ah];refine Q0b λk1 e1=>?_;have body:∀ (Cd:DH->Prop) (xs:List D),Cd M->xs=(ofD zs o).map Zn.v->zaX (zak 3) (evS T (.seq (.ite (.cmp .eq (.ix (.var 3) (.con (.int 0))) (.var 2)) (.seq (.ret (.var 3)) .nil) .nil) .nil)) { nx:=k1,rt:=(za0 R).rt,bk:=(za0 R).bk,ct:=(za0 R).ct } Cd xs [some (.ref a),some (.str o),some (dn top),none] M:=by
  intro Cd xs hC exs;subst exs;refine Q0u (λi ρ M'=>M'=M/\(∃ v3,ρ=[some (.ref a),some (.str o),some (dn top),v3])/\∀ (j:Nat) (z:Zn),j<i->(ofD zs o)[j]? = some z->z.t≠top) ⟨rfl,⟨none,rfl⟩,λj z hj=>absurd hj (Yt j)⟩ (λi ρ M' h=>by rw[h.1];exact hC) ?_ ?_
  ·rintro i d ρ M' kk hi ⟨rfl,⟨v3,rfl⟩,hb⟩ hk2;rw[Zx]at hi;cases ei:(ofD zs o)[i]? with
   | none=>rw[ei]at hi;cases hi
   | some z =>
    rw[ei]at hi;cases hi;have next:z.t≠top->kk [some (.ref a),some (.str o),some (dn top),some z.v] M':=λq=>hk2 _ _ ⟨rfl,⟨_,rfl⟩,λj y hj hy=>by
     by_cases hji:j=i
     ·subst hji;rw[ei]at hy;cases hy;exact q
     ·exact hb j y (by room) hy⟩
    have fin:z.t=top->R z.v M':=λq'=>by
     have ea:atT (ofD zs o) top=some z:=by
      obtain⟨g1,g2⟩:=Zf.mp ei;exact Yh.mpr ⟨Zm q',i,g1,g2,λj hj=>by simpa using hb j _ hj (Zi _)⟩
     rw[ea]at h;exact h
    erw[Zn.v,zD,dn]at next fin ⊢;walk_at "q3";erw[Q0F];exact⟨Q0e _,Q0e _,ite2 (λq=>Q0f (fin (Z2 q))) λq=>next λe=>q (Zm e)⟩
  ·rintro ρ M' ⟨rfl,⟨v3,rfl⟩,hb⟩;rw[e1];clear e1;w_up;have ea:atT (ofD zs o) top=none:=find?_eq_none.mpr λz hz=>by
    obtain⟨j,hj⟩:=Yb.mp hz;simpa using hb j z (by rw[Zb];exact (Zf.mp hj).1) hj
   rw[ea]at h;exact⟨ZI _,szL (by decide),Q0f h⟩
 w_up;refine⟨a,kvs,rfl,ha,ZI _,o,kvs,rfl,ha,?_⟩;rcases hs o with ⟨e,e2⟩ | ⟨d,e,e2⟩
 ·rw[e];exact body (λ_=>True) [] trivial (by rw[e2];rfl)
 ·rw[e];rcases Q1v e2 with e3 | ⟨q,e3,e4⟩
  ·rw[e3];exact body (λ_=>True) _ trivial rfl
  ·rw[e3];erw[e4];exact body (λX=>X q=some (.lst ((ofD zs o).map Zn.v))) _ e4 rfl
theorem Qbu(h:Valid rows)(hx:x∈rows)(hy:y∈rows)(kx:x.k=za7)(ky:y.k=za7)(e:x.n=y.n):x=y:=by
 induction h with
 | nil=>cases hx
 | @cons a l ha hp ih =>
  rcases Z1.mp hx with h1 | h1 <;> rcases Z1.mp hy with h2 | h2
  ·rw[h1,h2]
  ·exact absurd ⟨h1 ▸ kx,ky⟩ (ha y h2 (h1 ▸ e)).2
  ·exact absurd ⟨h2 ▸ ky,kx⟩ (ha x h1 (h2 ▸ e.symm)).2
  ·exact ih h1 h2
open Tz in
theorem Qbv(e:dwT zs o t c=.down c h ds l):∃ z,atT (ofD zs o) t=some z/\∃ y∈z.r,y.k=za7/\y.n=c/\nmOf y.v=h:=by
 unfold dwT at e;cases ez:atT (ofD zs o) t with
 | none=>rw[ez]at e;cases e
 | some z =>
  rw[ez]at e;simp only at e;cases ed:zac z.r c with
  | none=>rw[ed]at e;cases e
  | some y =>
   rw[ed]at e;injection e with _ e2;obtain⟨d1,d2,d3⟩:=Q1i ed;exact⟨z,rfl,y,d1,d2,d3,e2⟩
theorem Q4y(kd:List (List W×W)):(kd.map λp=>dn p.1).all (plain 11)=true:=by
 rw[ZR];intro d hd;obtain⟨m,_,rfl⟩:=ZJ.mp hd;exact Q0l 9 m.1
open Tz in
def sp_aJ:DSp:=λds M R=>∃ (a b:Addr) (zs:List Zn) (ws:List W) (root:W) (kd:Kd) (t:List W) (o:W) (z:Zn) (x:Rw),ds=[.ref a,.ref b,dn t,.str o,x.d]/\HsOk M a zs/\ZG zs ws/\M b=some (.lst (kd.map prD))/\Gd zs root kd/\Full zs kd/\val kd t=some o/\atT (ofD zs o) t=some z/\x∈z.r/\x.k=za7/\R (.bl true) M
set_option maxHeartbeats 2000000 in
open Tz in
theorem ok_aJ(T:Tab)(h116:T.fn 116=some ⟨"_law_house_reply",5,[],sp_a7⟩)(h118:T.fn 118=some ⟨"_law_leads",3,[],sp_af⟩):OkF T b_aJ sp_aJ ["","","","","","",""]:=by
 rintro ds M R ⟨a,b,zs,ws,root,kd,t,o,z,x,rfl,hs,zg,hb,g,fu,vt,ez,hx,hk,h⟩;have hz:z∈zs:=Q0Z (Q1a ez);have xl:=zg.nl z hz x hx;have xs:∀ w∈x.n,w≠[42]:=λw hw=>wd_ns (zg.w w (zg.dn z hz x hx hk w hw));have xt:x.n.take t.length=t:=by have:=((zg.ok.1 z hz).r x hx).in_.at_;rwa [atT_t ez]at this
 obtain⟨v1,v2⟩:=zg.vn z hz x hx (by rw[hk];exact .inl rfl)
 have ev9:x.v=dn (nmOf x.v):=nm_of (zg.ok.1 z hz) hx (by rw[hk];exact .inl rfl)
 erw[b_aJ,Rw.d];walk_at "q0";erw[hb];have kl:=g.len;have kl2:=zg.many.2;refine Q2p kd prD (λp=>dn p.1) (by exact hb) (by room) (λp c hp hc=>?_) ?_
 ·unfold prD;walk_at "q3";exact hc
 rw[e1];clear e1;refine⟨szL (by rw[Zb];room),?_⟩
 walk_at "q0";erw[h116];walk_at "q3";refine⟨a,zs,o,t,x.n,za1,rfl,hs,λz hz=>⟨zg.ok.1 z hz,zg.val z hz⟩,by have:=zg.l;room,Q3B,xt,by room,xs,?_⟩
 rw[<- Q7G (λz hz=>zg.ok.1 z hz),e1];clear e1;have done:∃ M0,DL.Sub M0 M/\R (.bl true) M0:=⟨M,Sub.refl _,h⟩;obtain⟨rep,er⟩:∃ r,repT zs o t x.n za1=r:=⟨_,rfl⟩;rw[er];obtain⟨w,q,ew⟩:∃ w q,rep.d=.tup (.str w::q):=by cases rep <;> exact⟨_,_,rfl⟩
 refine Q0b λk1 e1=>?_;by_cases hw:w=za7;rotate_left
 ·rw[ew];w_up;refine ix_t atI_0 ?_;refine⟨rfl,rfl,ite2 (λ_=>done) λz=>absurd ?_ z⟩;show (!eqB (.str w) (.str za7))=true;rw[Q2D,Z7 hw];rfl
 subst hw;cases rep with
 | down c hh ds l =>
  obtain⟨ec,ed⟩:=Q1k er;unfold Rp.d;walk_at "q3";refine⟨rfl,rfl,ite2 (λz=>(Qd1 za7 z).elim) λ_=>?_⟩;refine ix_t rfl ?_;refine ix_t rfl ?_;refine⟨Q0l 10 c,Q0l 10 x.n,ite2 (λ_=>done) λz7=>?_⟩;have e9:c=x.n:=Classical.byContradiction λy=>z7 (by
   show (!eqB (dn c) (dn x.n))=true;rw[show eqB (dn c) (dn x.n)=decide (c=x.n) from Q0F _ _,Z7 y];rfl)
  subst e9;refine ix_t rfl ?_;refine⟨_,rfl,Q0l 9 x.n,Q4y kd,ite2 (λ_=>done) λz7=>?_⟩;have z8:¬ ((kd.map λp=>dn p.1).any λd=>eqB d (dn x.n))=true:=z7;have nh:¬ hasN kd x.n:=λy=>by
   obtain⟨p,hp,e⟩:=Q8e y;exact z8 (any_eq_true.mpr ⟨dn p.1,ZJ.mpr ⟨p,hp,rfl⟩,by rw[e];exact Q0s _⟩)
  obtain⟨h',l',e3,nl⟩:=(fu t o x.n vt ec).resolve_left nh;rw[ed]at e3;injection e3 with _ e4 e5 _;subst e4 e5;have eh:nmOf x.v=hh:=by
   obtain⟨z',hz',y,hy,yk,yn,yv⟩:=Qbv ed;rw[ez]at hz';cases hz';rw[<- yv,Qbu (zg.val z hz) hx hy hk yk yn.symm]
  rw[e1];clear e1;walk_at "q3";refine⟨ZI _,rfl,rfl,ite2 (λ_=>?_) λz=>(d_is (.lst []) z).elim⟩;erw[h118];walk_at "q3";refine⟨a,b,zs,ws,root,kd,nmOf x.v,by rw[<- ev9],hs,zg,hb,g,v1,v2,by rw[eh];exact nl,?_⟩
  exact done
 | _=>exact absurd ew (by unfold Rp.d;intro z;injection z with z;injection z with z;injection z with z;revert z;decide)
noncomputable def b_aa:CS:=by walk_at "~cjeV&1syb&0achd&0&1aach#0a"
noncomputable def b_law:CS:=by walk_at "~cf1in#1g101bg100b&0b#0ab#0b#12acf2g102bg100b&0b#0abg100b&0b#1ab&1acf3g111bg100b&0b#2aacf4g110b&0b&2b&3acf5g73bg110b&0b&2b&3abd&3#0acjIW!I!f&5Iek&5raeCd&5#0lblabd&3#0achouqaac!J6 7&5cx8dg120b&4b&7b&6a#2cjAekd&8#2'down Wg119b&4b&5b&6b&7b&8achouqaaaachouHa"
theorem ok_aa:OkF T b_aa sp_aa ["",""]:=by
 rintro ds M R ⟨ns,k,rfl,h⟩;erw[b_aa,dn];w_up;refine ite2 (λq=>?_) λq=>Q0f ?_
 ·rw[Ze,Zb]at q;refine Q2H (by room) (by rw[Zb];exact q) λd hd=>?_
  rw[Zx,ZD]at hd;rw[Z8]at h;cases e:ns[k]? with
  | none=>rw[e]at hd;cases hd
  | some n=>rw[e]at hd h;cases hd;exact Q0f h
 ·rw[Ze,Zb]at q;rw[Z8,List.getElem?_eq_none (by room)]at h
  exact h
theorem Q2Z(k:Nat)(p:List W×W):plain (k+3) (prD p)=true:=by
 obtain⟨n,o⟩:=p;show [dn n,D.str o].all (plain (k+2))=true;rw[Ym,Q0l];rfl
theorem Q8f(kd:List (List W×W)):plain 12 (.lst (kd.map prD))=true:=by
 show (kd.map prD).all (plain 11)=true;rw[ZR];intro d hd;obtain⟨m,_,rfl⟩:=ZJ.mp hd;exact Q2Z 8 m
def sp_law:DSp:=dLaw 63
set_option maxHeartbeats 4000000 in
theorem ok_law(T:Tab)(h100:T.fn 100=some ⟨"_law_cell_at",2,[],sp_aa⟩)(h101:T.fn 101=some ⟨"_law_part",3,[],sp_a0⟩)(h102:T.fn 102=some ⟨"_law_words",3,[],sp_aw⟩)(h111:T.fn 111=some ⟨"_law_doors",1,[],sp_ay⟩)(h110:T.fn 110=some ⟨"_law_houses",3,[],sp_ax⟩)(h73:T.fn 73=some ⟨"charges",2,[],sp_aF⟩)(h119:T.fn 119=some ⟨"_law_closed",5,[],sp_aJ⟩)(h120:T.fn 120=some ⟨"_law_kept",3,[],sp_ah⟩) :
  OkF T b_law sp_law ["","","","","","","","",""]:=by
 intro ds M R h;unfold sp_law dLaw at h;split at h;rotate_left
 ·exact h.elim
 rename_i ds0;obtain⟨ns,rfl,hl,h⟩:=h;have fin:∀ M',Sub M M'->∃ M0,Sub M0 M'/\R (.bl true) M0:=λM' s=>⟨M,s,h⟩;erw[b_law];walk_at "q0";erw[h100,h101];w_up;refine⟨ns,0,rfl,ns.getD 0 0,0,12,rfl,by decide,by decide,by decide,?_⟩
 w_up;have hv:=Q0m (c:=ns.getD 0 0) (k:=0) (m:=12) (by decide)
 generalize za4 (ns.getD 0 0) 0 12=v at hv;have es:(1:Int)+(v:Int)=((v+1:Nat):Int):=by room
 rw[es,e1];clear e1;walk_at "q0";erw[h100,h102];w_up;refine⟨ns,0,rfl,ns,1,rfl,ns.getD 0 0,ns.getD 1 0,v,rfl,by room,λws hwl hw winj=>?_⟩
 rw[e1];clear e1;generalize ((v+1:Nat):Int)=sz;walk_at "q0";erw[h100,h111];w_up;refine⟨ns,2,rfl,ns.getD 2 0,rfl,λdrs dl dg=>?_⟩;walk_at "q2";erw[h110];w_up;refine⟨ns,ws,drs,rfl,hwl,hw,dl,λM1 a1 kv1 ⟨X,ad,rt⟩ hs1 hk1=>?_⟩;have zg:ZG (zsZ ns ws drs) ws:=zsZ_g hwl hw winj rt;clear rt;walk_at "q2";erw[h73,h110];w_up;refine⟨ns,ws,drs,rfl,hwl,hw,dl,λM2 a2 kv2 _ hs2 hk2=>?_⟩;have hsA:HsOk M2 a1 (zsZ ns ws drs):=⟨kv1,hs2.s _ _ hs1.d,λw=>(hs1.v w).imp id λ⟨q,q1,q2,_⟩=>⟨_,q1,by erw[zap,hs2.s _ _ q2]⟩⟩
 have hsB:HsOk M2 a2 (zsZ ns ws drs):=⟨kv2,hs2.d,λw=>(hs2.v w).imp id λ⟨q,q1,q2,_⟩=>⟨_,q1,by erw[zap,q2]⟩⟩
 have sM:Sub M M2:=λb o hb=>hs2.s _ _ (hs1.s _ _ hb);clear hs1 hs2 hk1 hk2;generalize zsZ ns ws drs=zs at zg hsA hsB;refine Q0p (i:=0) (by room) ?_
 obtain⟨m1,m2⟩:=zg.many;refine⟨a2,zs,drs.getD 0 [],100,600,60,1000,λkd=>Tz.Gd zs (drs.getD 0 []) kd/\Tz.Full zs kd,rfl,hsB,zg.ok,zg.gd,Tz.chG_start zg.ok.1 (by unfold Tz.most;room) (by room) (λkd g f=>⟨g,f⟩) (by room),λkd ⟨g,_⟩ p hp w hw'=>?_,by decide,by decide,by decide,by decide,by decide,λM3 l kd ⟨g,fu⟩ s3 hl3 hl4=>?_⟩
 ·rcases g.cuts p hp with e | ⟨z,hz,x,hx,hk,e⟩
  ·rw[e]at hw';cases hw'
  ·rw[<- e]at hw';exact Qa5 (hw w (zg.dn z hz x hx hk w hw'))
 walk_at "q2";erw[hl4];have z0:=g.at_.1;have l0:0<kd.length:=(Zf.mp z0).1;refine ite2 (λz=>absurd z (by decide)) λ_=>⟨ZI _,Q8f kd,rfl,ite2 (λz=>?_) λ_=>?_⟩
 ·have z':eqB (.lst (kd.map prD)) (.lst [])=true:=z;rw[Q0q]at z';injection z' with z';rw[List.map_eq_nil_iff.mp z']at l0;exact absurd l0 (by decide)
 refine Q7A hl4 (by decide) (by rw[Zb];room) λd0 hd0=>?_
 rw[Zx,show (0:Int).toNat=0 from rfl,z0]at hd0;cases hd0;refine⟨ZI _,Q0p (i:=0) (by room) ⟨by decide,Q2Z 9 _,Q2Z 9 ([],drs.getD 0 []),ite2 (λz=>(d_nn (prD ([],drs.getD 0 [])) z).elim) λ_=>?_⟩⟩
 have sM3:Sub M M3:=λb o hb=>s3 _ _ (sM _ _ hb);have hsC:HsOk M3 a1 zs:=hsA.mono s3;clear sM s3 hsA hsB hl3;walk_at "q2";erw[hl4];refine Q0u (λi ρ M'=>M'=M3/\∃ v6 v7 v8,ρ=[some (.lst (ns.map D.int)),some (.int sz),some (.lst (ws.map D.str)),some (.lst (drs.map D.str)),some (.ref a1),some (.ref l),v6,v7,v8])
  ⟨rfl,none,none,none,rfl⟩ (λi ρ M' h=>by rw[h.1];exact hl4) ?_ ?_
 ·rintro i d0 ρ M' kk hi ⟨rfl,v6,v7,v8,rfl⟩ hk;rw[Zx]at hi;obtain⟨p,ep,rfl⟩:=Zu.mp hi;have vp:=g.of_mem (Z6 ep);obtain⟨t,o⟩:=p;unfold prD;w_up;erw[h120];w_up;refine⟨a1,zs,o,t,rfl,hsC,by have:=zg.l;room,?_⟩
  unfold keptD;cases ez:atT (ofD zs o) t with
  | none =>
   simp only;refine ix_t rfl ?_;refine Q0u (λi ρ N=>N=M'/\∃ v8,ρ=[some (.lst (ns.map D.int)),some (.int sz),some (.lst (ws.map D.str)),some (.lst (drs.map D.str)),some (.ref a1),some (.ref l),some (dn t),some (.str o),v8]) ⟨rfl,_,rfl⟩ (λ_ _ _ _=>trivial) (λi d0 ρ M' kk hi=>nomatch hi) ?_
   rintro ρ M' ⟨rfl,v8,rfl⟩;exact hk _ _ ⟨rfl,_,_,_,rfl⟩
  | some z =>
   have hz:z∈zs:=Q0Z (Q1a ez);erw[Zn.v,zD];refine ix_t rfl ?_;refine Q0u (λi ρ N=>N=M'/\∃ v8,ρ=[some (.lst (ns.map D.int)),some (.int sz),some (.lst (ws.map D.str)),some (.lst (drs.map D.str)),some (.ref a1),some (.ref l),some (dn t),some (.str o),v8]) ⟨rfl,_,rfl⟩ (λ_ _ _ _=>trivial) ?_ ?_
   ·rintro j d0 ρ M' kk2 hj ⟨rfl,v8,rfl⟩ hk2;rw[Zx]at hj;obtain⟨x,ex,rfl⟩:=Zu.mp hj;have hx:=Z6 ex;have next:kk2 [some (.lst (ns.map D.int)),some (.int sz),some (.lst (ws.map D.str)),some (.lst (drs.map D.str)),some (.ref a1),some (.ref l),some (dn t),some (.str o),some x.d] M':=hk2 _ _ ⟨rfl,_,rfl⟩;show zak 8 _ _ _ _;w_up;unfold Rw.d at next ⊢;refine ix_t rfl ?_;refine⟨rfl,rfl,ite2 (λq=>?_) λ_=>next⟩;have xk:x.k=za7:=by
     have q':eqB (.str x.k) (.str za7)=true:=q
     rwa [Q2D,Ze]at q'
    erw[h119];w_up;refine⟨a1,l,zs,ws,drs.getD 0 [],kd,t,o,z,x,rfl,hsC,zg,hl4,g,fu,vp,ez,hx,xk,?_⟩;exact ite2 (λz=>absurd z (by decide)) λ_=>next
   ·rintro ρ M' ⟨rfl,v8,rfl⟩;exact hk _ _ ⟨rfl,_,_,_,rfl⟩
 ·rintro ρ M' ⟨rfl,v6,v7,v8,rfl⟩;rw[e1];clear e1;w_up;exact fin _ sM3
noncomputable def top(i:Nat):Stmt:=PySem.Challenge.pw_namewell_k42_no_door_lacks.main.body.getD i (.Pass ⟨0,0,0,0⟩)
noncomputable def bls:List Str:=["len","range","sorted","min","list","dict","str","isinstance"]
noncomputable def cons:Nat->Option (Str×D)
 | 11=>some ("STAR",D.str [42])
 | 12=>some ("ELSE",D.str [101,108,115,101])
 | 13=>some ("DOWN",D.str [100,111,119,110])
 | 14=>some ("DOOR",D.str [100,111,111,114])
 | 15=>some ("ROWS",D.str [114,111,119,115])
 | 16=>some ("EMPTY",D.str [101,109,112,116,121])
 | 17=>some ("NONE",D.str [110,111,110,101])
 | 18=>some ("AWAY",D.str [97,119,97,121])
 | _=>none
noncomputable def fns:Nat->Option FI
 | 1=>some ⟨"at_or_beneath",2,[],sp_aK⟩
 | 2=>some ⟨"above",1,[],sp_a1⟩
 | 5=>some ⟨"is_star_name",1,[],sp_ai⟩
 | 23=>some ⟨"values_of",1,[],sp_ae⟩
 | 24=>some ⟨"least_life",1,[],sp_a9⟩
 | 63=>some ⟨"copied_zone",1,[],sp_aQ⟩
 | 73=>some ⟨"charges",2,[],sp_aF⟩
 | 100=>some ⟨"_law_cell_at",2,[],sp_aa⟩
 | 101=>some ⟨"_law_part",3,[],sp_a0⟩
 | 102=>some ⟨"_law_words",3,[],sp_aw⟩
 | 103=>some ⟨"_law_below",4,[],sp_al⟩
 | 104=>some ⟨"_law_life",1,[],sp_a3⟩
 | 105=>some ⟨"_law_tops",1,[],sp_aD⟩
 | 106=>some ⟨"_law_fits",3,[],sp_aH⟩
 | 107=>some ⟨"_law_put",4,[],sp_a6⟩
 | 108=>some ⟨"_law_handed",6,[],sp_aA⟩
 | 109=>some ⟨"_law_more",6,[],sp_aL⟩
 | 110=>some ⟨"_law_houses",3,[],sp_ax⟩
 | 170=>some ⟨"_law_part",3,[],sp_aG⟩
 | 111=>some ⟨"_law_doors",1,[],sp_ay⟩
 | 112=>some ⟨"_law_down",2,[],sp_ag⟩
 | 113=>some ⟨"_law_begun",2,[],sp_aM⟩
 | 114=>some ⟨"_law_told_down",2,[],sp_aP⟩
 | 115=>some ⟨"_law_reply",3,[],sp_an⟩
 | 116=>some ⟨"_law_house_reply",5,[],sp_a7⟩
 | 117=>some ⟨"_law_charge",2,[],sp_az⟩
 | 118=>some ⟨"_law_leads",3,[],sp_af⟩
 | 119=>some ⟨"_law_closed",5,[],sp_aJ⟩
 | 120=>some ⟨"_law_kept",3,[],sp_ah⟩
 | _=>none
noncomputable def mts:Nat->Option MI
 | 347=>some ⟨"Tree","settle",2,sp_ac⟩
 | 346=>some ⟨"Tree","enters",3,sp_a4⟩
 | 309=>some ⟨"Page","rows_at",2,sp_ad⟩
 | 308=>some ⟨"Page","reply_at",2,sp_as⟩
 | 302=>some ⟨"Page","has",1,sp_aI⟩
 | 307=>some ⟨"Page","place_of",1,sp_ao⟩
 | 306=>some ⟨"Page","reply_down",1,sp_aN⟩
 | 303=>some ⟨"Page","cut",1,sp_ak⟩
 | 305=>some ⟨"Page","reply",2,sp_aj⟩
 | 301=>some ⟨"Page","lay",1,sp_at⟩
 | 323=>some ⟨"House","page",1,sp_ab⟩
 | 325=>some ⟨"House","reply",3,sp_a5⟩
 | 341=>some ⟨"Tree","house",1,sp_a2⟩
 | 343=>some ⟨"Tree","reply_so_far",2,sp_a8⟩
 | 345=>some ⟨"Tree","follows",1,sp_au⟩
 | 344=>some ⟨"Tree","finds_door",2,sp_aE⟩
 | 342=>some ⟨"Tree","reply",2,sp_aB⟩
 | 349=>some ⟨"Tree","has_door",1,sp_ar⟩
 | 311=>some ⟨"Page","cut",1,sp_aq⟩
 | 304=>some ⟨"Page","own_cuts",0,sp_av⟩
 | 348=>some ⟨"Tree","cuts_at",1,sp_aC⟩
 | _=>none
noncomputable def mks:Nat->Option MI
 | 300=>some ⟨"Page","__init__",1,sp_am⟩
 | 320=>some ⟨"House","__init__",1,sp_ap⟩
 | 340=>some ⟨"Tree","__init__",2,sp_aO⟩
 | _=>none
noncomputable def fds:List (Str×Str):=[("Page","standing"),("Page","downs"),("Page","rows"),("Page","life"),("Page","top"),("House","turned"),("House","pages"),("House","zones"),("Tree","leads"),("Tree","doors"),("Tree","laid"),("Tree","street")]
noncomputable def tab:Tab:={ fn:=fns,kfn:=λ_=>none,con:=cons,bl:=bls,fx:=λ_=>none,cl:=λ_=>none,mt:=mts,ini:=mks,fd:=fds }
noncomputable abbrev sT(i:Nat):Stmt:=top i
noncomputable abbrev sM(i j:Nat):Stmt:=inClass (top i) j
noncomputable abbrev FnI(K:Frag)(nm:Str)(st:Stmt):Prop:=∃ f oc od sl kV dc pm an cd ct,nsIn K mainGlobals nm=some (some (.ref f))/\K.lookup f=some ⟨oc,od,.func (fnOf nm nm (zaj st) (zae st) (za5 st) .none kV dc pm an cd ct),sl⟩/\codeIn K cd nm=true/\keepIn K (.ref f)=true
noncomputable abbrev MtI(K:Frag)(C:Addr)(nm qn:Str)(st:Stmt):Prop:=∃ f oc od sl kV dc pm an cd ct,findIn K (.ref C) nm=some (some (.ref f))/\isFn K (.ref f)=true/\K.lookup f=some ⟨oc,od,.func (fnOf nm qn (zaj st) (zae st) (za5 st) .none kV dc pm an cd ct),sl⟩/\codeIn K cd qn=true/\keepIn K (.ref f)=true
theorem fnI{K:Frag}{nm:Str}{st:Stmt}{f:Addr}{oc:Value}{od:Option Addr}{sl:Array (Option Value)}{kV dc pm:Value}{an:Option Addr}{cd ct:Value}(q1:nsIn K mainGlobals nm=some (some (.ref f)))(q2:K.lookup f=some ⟨oc,od,.func (fnOf nm nm (zaj st) (zae st) (za5 st) .none kV dc pm an cd ct),sl⟩)(q3:codeIn K cd nm=true)(q4:keepIn K (.ref f)=true):FnI K nm st:=⟨f,oc,od,sl,kV,dc,pm,an,cd,ct,q1,q2,q3,q4⟩
theorem mtI{K:Frag}{C:Addr}{nm qn:Str}{st:Stmt}{f:Addr}{oc:Value}{od:Option Addr}{sl:Array (Option Value)}{kV dc pm:Value}{an:Option Addr}{cd ct:Value}(q1:findIn K (.ref C) nm=some (some (.ref f)))(q0:isFn K (.ref f)=true)(q2:K.lookup f=some ⟨oc,od,.func (fnOf nm qn (zaj st) (zae st) (za5 st) .none kV dc pm an cd ct),sl⟩)(q3:codeIn K cd qn=true)(q4:keepIn K (.ref f)=true):MtI K C nm qn st:=⟨f,oc,od,sl,kV,dc,pm,an,cd,ct,q1,q0,q2,q3,q4⟩
noncomputable abbrev ObI(K:Frag)(C:Addr):Prop:=plainGet K C Str.empty=true/\hasDictIn K C=true/\plainOver K C=true/\findIn K (.ref C) "__setattr__" = some (some (.builtin "object.__setattr__"))/\makesIn K C=true/\keepIn K (.ref C)=true
theorem ObI.cls{K:Frag}{C:Addr}(h:ObI K C):Cls K C:=⟨h.1,h.2.1,h.2.2.1,h.2.2.2.1⟩
structure BoI(T:Tab)(b:CS)(N ps:List Str)(nm qn:Str)(st:Stmt)(sp:DSp):Prop where
 sc:zaT N ps (za5 st)
 ck:(chkS T b).b ⟨N,(za5 st).names⟩ (zae st)=true
 ln:∀ ds M R,sp ds M R->ds.length=ps.length
 ok:∀ ds M R,sp ds M R->evS T b (za0 R) (za2 N ds) M
 bd:∀ (kV doc pm:Value) (an:Option Addr) (cdv ct:Value) (us:List Value),us.length=ps.length->bindArgs (fnOf nm qn (zaj st) (zae st) (za5 st) .none kV doc pm an cdv ct) ⟨us,[]⟩=pure (ps.zip us)
 no:∀ c M,¬ T.xd c M
section
variable{P:Program}{w:World}{K:Frag}{h:Heap}{mg:Str->Option Value}{base:Heap}{T:Tab}{k:Nat}{b:CS}{N ps:List Str}{nm qn cl:Str}{st:Stmt}{sp:DSp}{C:Addr}{np:Nat}
theorem mkF(X:K.In h)(G:h.Ns mainGlobals mg)(H:FnI K nm st)(O:TabOk P w K mg base T k)(B:BoI T b N ps nm nm st sp)(e:ps.length=np):FOk P w K mg base ⟨nm,np,[],sp⟩ (k+1):=by
 obtain⟨f,oc,od,sl,kV,dc,pm,an,cd,ct,q1,q2,q3,q4⟩:=H;exact fok (Q5u b O (Q3w (st:=st) q2 q3 q4) B.sc B.ck B.ln B.ok B.no) (mg_of X G q1) q4 e ((Q6z (st:=st) q2 q3 q4).binds B.bd)
theorem mkM(oa:nsIn K mainGlobals cl=some (some (.ref C)))(ob:ObI K C)(H:MtI K C nm qn st)(O:TabOk P w K mg base T k)(B:BoI T b N ps nm qn st sp):MtOk P w K mg base ⟨cl,nm,np,sp⟩ (k+2):=by
 obtain⟨f,oc,od,sl,kV,dc,pm,an,cd,ct,q1,q0,q2,q3,q4⟩:=H;exact⟨k+1,C,f,_,_,Zq _,oa,ob.cls,⟨q1,q0,q4⟩,Q5u b O (Q3w (st:=st) q2 q3 q4) B.sc B.ck B.ln B.ok B.no,(Q6z (st:=st) q2 q3 q4).binds B.bd⟩
theorem mkI(X:K.In h)(G:h.Ns mainGlobals mg)(oa:nsIn K mainGlobals cl=some (some (.ref C)))(ob:ObI K C)(H:MtI K C "__init__" qn st)(O:TabOk P w K mg base T k)(B:BoI T b N ps "__init__" qn st sp):MkOk P w K mg base ⟨cl,"__init__",np,sp⟩ (k+2):=by
 obtain⟨f,oc,od,sl,kV,dc,pm,an,cd,ct,q1,q0,q2,q3,q4⟩:=H;exact⟨k+1,C,f,_,_,Zq _,oa,mg_of X G oa,⟨ob.2.2.2.2.1,q1,q0,ob.2.2.2.2.2⟩,Q5u b O (Q3w (st:=st) q2 q3 q4) B.sc B.ck B.ln B.ok B.no,(Q6z (st:=st) q2 q3 q4).binds B.bd⟩
end
theorem Qbw:∀ ds M R,sp_law ds M R->ds.length=1:=by
 intro ds M R h;unfold sp_law dLaw at h;split at h
 ·rfl
 ·exact h.elim
open Lean in def mkN (p x:String):Ident:=mkIdent (Name.mkSimple (p++x))
open Lean in def mkS (xs : List String) : Array (TSyntax `term):=(xs.map λs=>⟨(Syntax.mkStrLit s).raw⟩).toArray
set_option hygiene false
local macro_rules | `(tactic| walk_at "ln")=>`(tactic| (intro _ _ _ h; repeat (first | exact congrArg List.length h.1 | (refine Exists.elim h ?_; clear h; intro _ h))))
open Lean in
local macro_rules | `(tactic| walk_at $s:str) => do
 let a:=((s.getString.replace "~" "_law_").splitOn " ").toArray
 let wd:=a[0]!
 if !["dF","dM","dI","dL"].contains wd then Macro.throwUnsupported
 let q:=a[1]!
 let g:=λ(p:String)=>mkN p q
 let h:=λ(p:String)=>mkN p a[2]!
 do
  let x:=(a[3]!.drop 3).toString
  let pl:=a[4]!.splitOn "."
  let st : TSyntax `term <- match pl with
   | [i, j] => `(sM $(Syntax.mkNumLit i) $(Syntax.mkNumLit j))
   | _ => `(sT $(Syntax.mkNumLit a[4]!))
  let np:=a[5]!.toNat!
  let lv:=Syntax.mkNumLit a[6]!
  let calls:=(a[7]!.splitOn ",").filter (λe=>e != "" && e != "-")
  let ns:=mkS (a[8]!.splitOn ",")
  let ps:=ns.extract 0 np
  let nr:=a[9]!.toNat!
  let mut acc : TSyntax `term <- `(TN)
  for e in calls.reverse do
   let c:=(e.toList.filter (λc=>!c.isDigit)).head!
   let ab:=e.splitOn c.toString
   let n:=Syntax.mkNumLit ab[0]!
   let r:=mkN "R" ab[1]!
   acc <- match c with
    | 'M' => `(TabOk.consM (T := tab) (f := $n) rfl (MtOk.mono $r (by decide)) $acc rfl rfl)
    | 'I' => `(TabOk.consI (T := tab) (f := $n) rfl (MkOk.mono $r (by decide)) $acc rfl rfl)
    | _ => `(TabOk.cons (T := tab) (f := $n) rfl (FOk.mono $r (by decide)) $acc rfl rfl)
  let cs : Array (TSyntax `term):=(calls.map λe=>⟨(Syntax.mkNumLit (String.ofList (e.toList.takeWhile Char.isDigit))).raw⟩).toArray
  let mut ok : TSyntax `term:=mkN "ok_" x
  if nr != 0 then
   ok <- `($ok _)
   for _ in [0:nr] do ok <- `($ok rfl)
  let ln : TSyntax `term <- if x == "law" then `(Qbw) else `(by walk_at "ln")
  let mut t : TSyntax `term <- `(rfl)
  for _ in [0:np] do t <- `(λ_ => $t)
  let le:=(#[mkIdent `len1,mkIdent `len2,mkIdent `len3,mkIdent `len4,mkIdent `len5,mkIdent `len6])[np - 1]!
  let sc <- `(⟨rfl,rfl,rfl,by kd_p,rfl,by kd_p,by kd_p⟩)
  let w':=λ(p:String)=>mkN p (a[10]?.getD "")
  let nm:=Syntax.mkStrLit (a[11]?.getD "")
  let cl:=Syntax.mkStrLit (a[12]?.getD "")
  let nq:=Syntax.mkNumLit (toString (if wd == "dF" then np else np-1))
  let ac2 <- `((show TabOk l.prog w K mg base (tab.only [$cs,*]) ($lv - 1) from $acc))
  let bo <- `((BoI.mk (T := tab.only [$cs,*]) (b := $(mkN "b_" x)) (N := [$ns,*]) (ps := [$ps,*]) (st := $st) (sp := $(mkN "sp_" x)) $sc (by kd_p) $ln $ok (λ_ _ _ _ _ _ us hl => $le us hl $t) (λ_ _ h => h)))
  match wd with
  | "dL" => `(tactic| have $(g "Q") := Q5u (sp := $(mkN "sp_" x)) (N := [$ns,*]) (ps := [$ps,*]) $(mkN "b_" x) $ac2 (Q3w (st := $st) $(h "l") $(h "c") $(h "k")) $sc (by kd_p) $ln $ok)
  | "dF" => `(tactic| have $(g "R") : FOk l.prog w K mg base ⟨$nm, $nq, [], $(mkN "sp_" x)⟩ $lv := mkF X G $(h "h") $ac2 $bo rfl)
  | "dM" => `(tactic| have $(g "R") : MtOk l.prog w K mg base ⟨$cl, $nm, $nq, $(mkN "sp_" x)⟩ ($lv + 1) := mkM $(w' "oa") $(w' "ob") $(h "h") $ac2 $bo)
  | _ => `(tactic| have $(g "R") : MkOk l.prog w K mg base ⟨$cl, $nm, $nq, $(mkN "sp_" x)⟩ ($lv + 1) := mkI X G $(w' "oa") $(w' "ob") $(h "h") $ac2 $bo)
set_option hygiene true
set_option maxHeartbeats 4000000 in
theorem all_mk{l:OpenLaw}{w:World}{K:Frag}{h:Heap}{mg:Str->Option Value}{fa:Addr}(X:K.In h)(G:h.Ns mainGlobals mg)(hfa:mg "law" = some (.ref fa))
  {Ob0:Addr} (oa0:nsIn K mainGlobals "Tree" = some (some (.ref Ob0))) (ob0:ObI K Ob0)
  (nf8:findIn K (.ref Ob0) "leads" = some none)
  (nf9:findIn K (.ref Ob0) "doors" = some none)
  (nf10:findIn K (.ref Ob0) "laid" = some none)
  (nf11:findIn K (.ref Ob0) "street" = some none)
  {Ob1:Addr} (oa1:nsIn K mainGlobals "Page" = some (some (.ref Ob1))) (ob1:ObI K Ob1)
  (nf0:findIn K (.ref Ob1) "standing" = some none)
  (nf1:findIn K (.ref Ob1) "downs" = some none)
  (nf2:findIn K (.ref Ob1) "rows" = some none)
  (nf3:findIn K (.ref Ob1) "life" = some none)
  (nf4:findIn K (.ref Ob1) "top" = some none)
  {Ob2:Addr} (oa2:nsIn K mainGlobals "House" = some (some (.ref Ob2))) (ob2:ObI K Ob2)
  (nf5:findIn K (.ref Ob2) "turned" = some none)
  (nf6:findIn K (.ref Ob2) "pages" = some none)
  (nf7:findIn K (.ref Ob2) "zones" = some none)
  (h0:FnI K "at_or_beneath" (sT 3))
  (h1:FnI K "above" (sT 4))
  (h2:FnI K "is_star_name" (sT 5))
  (h3:FnI K "values_of" (sT 14))
  (h4:FnI K "least_life" (sT 15))
  (h5:FnI K "copied_zone" (sT 18))
  (h6:MtI K Ob0 "settle" "Tree.settle" (sM 22 9))
  (h7:MtI K Ob0 "enters" "Tree.enters" (sM 22 8))
  (h8:MtI K Ob1 "rows_at" "Page.rows_at" (sM 13 9))
  (h9:MtI K Ob1 "reply_at" "Page.reply_at" (sM 13 8))
  (h10:MtI K Ob1 "has" "Page.has" (sM 13 2))
  (h11:MtI K Ob1 "place_of" "Page.place_of" (sM 13 7))
  (h12:MtI K Ob1 "reply_down" "Page.reply_down" (sM 13 6))
  (h13:MtI K Ob1 "cut" "Page.cut" (sM 13 3))
  (h14:MtI K Ob1 "reply" "Page.reply" (sM 13 5))
  (h15:MtI K Ob1 "lay" "Page.lay" (sM 13 1))
  (h16:MtI K Ob1 "__init__" "Page.__init__" (sM 13 0))
  (h17:MtI K Ob2 "page" "House.page" (sM 19 6))
  (h18:MtI K Ob2 "reply" "House.reply" (sM 19 8))
  (h19:MtI K Ob2 "__init__" "House.__init__" (sM 19 0))
  (h20:MtI K Ob0 "house" "Tree.house" (sM 22 1))
  (h21:MtI K Ob0 "reply_so_far" "Tree.reply_so_far" (sM 22 5))
  (h22:MtI K Ob0 "follows" "Tree.follows" (sM 22 7))
  (h23:MtI K Ob0 "finds_door" "Tree.finds_door" (sM 22 6))
  (h24:MtI K Ob0 "reply" "Tree.reply" (sM 22 4))
  (h25:MtI K Ob0 "has_door" "Tree.has_door" (sM 22 3))
  (h27:MtI K Ob1 "own_cuts" "Page.own_cuts" (sM 13 4))
  (h28:MtI K Ob0 "cuts_at" "Tree.cuts_at" (sM 22 2))
  (h29:MtI K Ob0 "__init__" "Tree.__init__" (sM 22 0))
  (h30:FnI K "charges" (sT 21))
  (h31:FnI K "_law_cell_at" (sT 24))
  (h32:FnI K "_law_part" (sT 25))
  (h33:FnI K "_law_words" (sT 26))
  (h34:FnI K "_law_below" (sT 27))
  (h35:FnI K "_law_life" (sT 28))
  (h36:FnI K "_law_tops" (sT 29))
  (h37:FnI K "_law_fits" (sT 30))
  (h38:FnI K "_law_put" (sT 31))
  (h39:FnI K "_law_handed" (sT 32))
  (h40:FnI K "_law_more" (sT 33))
  (h41:FnI K "_law_houses" (sT 34))
  (h43:FnI K "_law_doors" (sT 35))
  (h44:FnI K "_law_down" (sT 36))
  (h45:FnI K "_law_begun" (sT 37))
  (h46:FnI K "_law_told_down" (sT 38))
  (h47:FnI K "_law_reply" (sT 39))
  (h48:FnI K "_law_house_reply" (sT 40))
  (h49:FnI K "_law_charge" (sT 41))
  (h50:FnI K "_law_leads" (sT 42))
  (h51:FnI K "_law_closed" (sT 43))
  (h52:FnI K "_law_kept" (sT 44))
  (h53:FnI K "law" (sT 45))
  (z0:nsIn K mainGlobals "len" = some none)
  (z1:nsIn K mainGlobals "range" = some none)
  (z2:nsIn K mainGlobals "sorted" = some none)
  (z3:nsIn K mainGlobals "min" = some none)
  (z4:nsIn K mainGlobals "list" = some none)
  (z5:nsIn K mainGlobals "dict" = some none)
  (z6:nsIn K mainGlobals "str" = some none)
  (z7:nsIn K mainGlobals "isinstance" = some none)
  {y0:Tok} (g0:nsIn K mainGlobals "STAR" = some (some (.str "*" y0)))
  {y1:Tok} (g1:nsIn K mainGlobals "ELSE" = some (some (.str "else" y1)))
  {y2:Tok} (g2:nsIn K mainGlobals "DOWN" = some (some (.str "down" y2)))
  {y3:Tok} (g3:nsIn K mainGlobals "DOOR" = some (some (.str "door" y3)))
  {y4:Tok} (g4:nsIn K mainGlobals "ROWS" = some (some (.str "rows" y4)))
  {y5:Tok} (g5:nsIn K mainGlobals "EMPTY" = some (some (.str "empty" y5)))
  {y6:Tok} (g6:nsIn K mainGlobals "NONE" = some (some (.str "none" y6)))
  {y7:Tok} (g7:nsIn K mainGlobals "AWAY" = some (some (.str "away" y7)))
  : ∃ fd:FuncData,(∀ (s:Shared) (v:Value),BindsTo s fd ⟨[v],[]⟩ [("_law_script",v)])/\∀ base:Heap,K.In base->base.Ns mainGlobals mg->FnOk l.prog w K mg base CX0 20 fa fd ["_law_script"] (lSp K sp_law):=by
 obtain⟨f53,oc53,od53,sl53,kV53,dc53,pm53,an53,cd53,ct53,a53,l53,c53,k53⟩:=h53;have e:=hfa.symm.trans (mg_of X G a53);cases e;have nb:∀ x∈bls,mg x=none:=by
  intro x hx;erw[bls,Z1,ZA,Y1]at hx;rcases hx with rfl | rfl | rfl | rfl | rfl | rfl | rfl | rfl
  ·exact mg_none_of X G z0
  ·exact mg_none_of X G z1
  ·exact mg_none_of X G z2
  ·exact mg_none_of X G z3
  ·exact mg_none_of X G z4
  ·exact mg_none_of X G z5
  ·exact mg_none_of X G z6
  ·exact mg_none_of X G z7
 have hcon:∀ i p,cons i=some p->∃ u v,mg p.1=some u/\L2.RelV v u/\∀ H,Den K H p.2 v:=by
  intro i p hp;unfold cons at hp;split at hp
  ·cases hp;exact Q1s (mg_of X G g0) (by kd_p) (by kd_p)
  ·cases hp;exact Q1s (mg_of X G g1) (by kd_p) (by kd_p)
  ·cases hp;exact Q1s (mg_of X G g2) (by kd_p) (by kd_p)
  ·cases hp;exact Q1s (mg_of X G g3) (by kd_p) (by kd_p)
  ·cases hp;exact Q1s (mg_of X G g4) (by kd_p) (by kd_p)
  ·cases hp;exact Q1s (mg_of X G g5) (by kd_p) (by kd_p)
  ·cases hp;exact Q1s (mg_of X G g6) (by kd_p) (by kd_p)
  ·cases hp;exact Q1s (mg_of X G g7) (by kd_p) (by kd_p)
  ·cases hp
 have hcl:∀ c x,tab.cl c=some x->∃ C,mg x=some (.ref C)/\ClsOk K mg tab.toTabC c x C:=λc x h=>nomatch h
 have hfd:∀ p∈tab.fd,FdOk K p.1 p.2:=by
  intro p hp;erw[tab,fds,Z1,ZA,Y1]at hp;rcases hp with rfl | rfl | rfl | rfl | rfl | rfl | rfl | rfl | rfl | rfl | rfl | rfl
  ·exact⟨Ob1,oa1,ob1.cls,nf0⟩
  ·exact⟨Ob1,oa1,ob1.cls,nf1⟩
  ·exact⟨Ob1,oa1,ob1.cls,nf2⟩
  ·exact⟨Ob1,oa1,ob1.cls,nf3⟩
  ·exact⟨Ob1,oa1,ob1.cls,nf4⟩
  ·exact⟨Ob2,oa2,ob2.cls,nf5⟩
  ·exact⟨Ob2,oa2,ob2.cls,nf6⟩
  ·exact⟨Ob2,oa2,ob2.cls,nf7⟩
  ·exact⟨Ob0,oa0,ob0.cls,nf8⟩
  ·exact⟨Ob0,oa0,ob0.cls,nf9⟩
  ·exact⟨Ob0,oa0,ob0.cls,nf10⟩
  ·exact⟨Ob0,oa0,ob0.cls,nf11⟩
 refine⟨fnOf "law" "law" (zaj (sT 45)) (zae (sT 45)) (za5 (sT 45)) .none kV53 dc53 pm53 an53 cd53 ct53,λs v=>.of_eq rfl,λbase kb nbase=>?_⟩;have TN:∀ {k:Nat},TabOk l.prog w K mg base (tab.only []) k:=TabOk.nil hcon nb hcl (hfd:=hfd);walk_at "dF 0 0 ok_aK 3 2 1 - name,top 0 - at_or_beneath";walk_at "dF 1 1 ok_a1 4 1 1 - name 0 - above";walk_at "dF 2 2 ok_ai 5 1 1 - name 1 - is_star_name";walk_at "dF 3 3 ok_ae 14 1 1 - rows 0 - values_of";walk_at "dF 4 4 ok_a9 15 1 1 - rows 0 - least_life";walk_at "dF 5 5 ok_aQ 18 1 1 - zone 0 - copied_zone";walk_at "dM 6 6 ok_ac 22.9 3 1 - self,chain,door,cut,step 0 0 settle Tree";walk_at "dM 7 7 ok_a4 22.8 4 3 347M6 self,chain,cut,name 1 0 enters Tree";walk_at "dM 8 8 ok_ad 13.9 3 1 - self,place,kind 0 1 rows_at Page";walk_at "dM 9 9 ok_as 13.8 3 3 24F4,23F3,309M8,5F2 self,place,kind,others,rows 8 1 reply_at Page";walk_at "dM 10 10 ok_aI 13.2 2 1 - self,name 0 1 has Page";walk_at "dM 11 11 ok_ao 13.7 2 3 302M10,2F1 self,name,nearest 3 1 place_of Page";walk_at "dM 12 12 ok_aN 13.6 2 3 24F4,23F3,1F0,309M8 self,cut,down,house,doors 6 1 reply_down Page";walk_at "dM 13 13 ok_ak 13.3 2 2 2F1 self,name,wider 1 1 cut Page";walk_at "dM 14 14 ok_aj 13.5 3 5 308M9,307M11,306M12,303M13 self,name,kind,cut 4 1 reply Page";walk_at "dM 15 15 ok_at 13.1 2 1 - self,row,name 1 1 lay Page";walk_at "dI 16 16 ok_am 13.0 2 3 301M15 self,zone,row 1 1 __init__ Page";walk_at "dM 17 17 ok_ab 19.6 2 5 300I16 self,top 1 2 page House";walk_at "dM 18 18 ok_a5 19.8 4 7 305M14,323M17 self,top,name,kind,page 3 2 reply House";walk_at "dI 19 19 ok_ap 19.0 2 1 - self,zones 0 2 __init__ House";walk_at "dM 20 20 ok_a2 22.1 2 3 320I19 self,door 1 0 house Tree";walk_at "dM 21 21 ok_a8 22.5 3 9 325M18,341M20,2F1 self,name,kind,top,reply 4 0 reply_so_far Tree";walk_at "dM 22 22 ok_au 22.7 2 11 346M7,347M6,343M21 self,chain,reply 7 0 follows Tree";walk_at "dM 23 23 ok_aE 22.6 3 13 345M22,346M7 self,cut,house,chain,leads_on 2 0 finds_door Tree";walk_at "dM 24 24 ok_aB 22.4 3 15 344M23,343M21 self,name,kind,reply 3 0 reply Tree";walk_at "dM 25 25 ok_ar 22.3 2 17 342M24 self,cut 2 0 has_door Tree";walk_at "dM 26 13 ok_aq 13.3 2 2 2F1 self,name,wider 1 1 cut Page";walk_at "dM 27 27 ok_av 13.4 1 4 311M26 self 1 1 own_cuts Page";walk_at "dM 28 28 ok_aC 22.2 2 7 304M27,323M17,341M20 self,name,page 3 0 cuts_at Tree";walk_at "dI 29 29 ok_aO 22.0 3 1 - self,houses,root 0 0 __init__ Tree";walk_at "dF 30 30 ok_aF 21 2 19 349M25,348M28,340I29 houses,root,tree,names,cuts 3 - charges";walk_at "dF 31 31 ok_aa 24 2 1 - ~script,~k 0 - ~cell_at";walk_at "dF 32 32 ok_a0 25 3 1 - ~cell,~k,~many 0 - ~part";walk_at "dF 33 33 ok_aw 26 3 2 101F32 ~one,~other,~size,~signs,~at,~words_here,~k,~word,~j,~number 1 - ~words";walk_at "dF 34 34 ok_al 27 4 2 101F32 ~words_here,~cell,~k,~many,~name,~j 1 - ~below";walk_at "dF 35 35 ok_a3 28 1 2 101F32 ~cell 1 - ~life";walk_at "dF 36 36 ok_aD 29 1 1 - ~words_here 0 - ~tops";walk_at "dF 37 37 ok_aH 30 3 1 - ~rows,~row,~top,~one 0 - ~fits";walk_at "dF 38 38 ok_a6 31 4 2 106F37 ~zones,~tops_here,~at,~row 1 - ~put";walk_at "dF 39 39 ok_aA 32 6 3 101F32,107F38,104F35 ~zones,~tops_here,~words_here,~homes,~k,~cell,~j,~house,~at 3 - ~handed";walk_at "dF 40 40 ok_aL 33 6 3 107F38,104F35,101F32,103F34 ~zones,~tops_here,~words_here,~homes,~at,~cell,~name,~kind,~value 4 - ~more";walk_at "dF 41 41 ok_ax 34 3 4 101F32,100F31,104F35,109F40,108F39,105F36 ~script,~words_here,~doors_here,~tops_here,~zones,~homes,~at,~k,~cell,~houses_here 6 - ~houses";walk_at "dF 42 32 ok_aG 25 3 1 - ~cell,~k,~many 0 - ~part";walk_at "dF 43 43 ok_ay 35 1 2 170F42 ~cell,~size,~at,~doors_here,~k 1 - ~doors";walk_at "dF 44 44 ok_ag 36 2 1 - ~zone,~name,~size,~row 0 - ~down";walk_at "dF 45 45 ok_aM 37 2 1 - ~zone,~name 0 - ~begun";walk_at "dF 46 46 ok_aP 38 2 1 - ~zone,~down_here,~some,~life_here 0 - ~told_down";walk_at "dF 47 47 ok_an 39 3 2 113F45,114F46,112F44 ~zone,~name,~kind,~down_here,~size,~look,~some,~right 3 - ~reply";walk_at "dF 48 48 ok_a7 40 5 3 115F47 ~houses_here,~door,~top,~name,~kind,~zone 1 - ~house_reply";walk_at "dF 49 49 ok_az 41 2 1 - ~found,~name,~best,~one 0 - ~charge";walk_at "dF 50 50 ok_af 42 3 4 116F48,117F49 ~houses_here,~found,~name,~gone,~top,~door,~reply_here 2 - ~leads";walk_at "dF 51 51 ok_aJ 43 5 5 118F50,116F48 ~houses_here,~found,~top,~door,~row,~names,~reply_here 2 - ~closed";walk_at "dF 52 52 ok_ah 44 3 1 - ~houses_here,~door,~top,~zone 0 - ~kept";walk_at "dL 53 53 ok_law 45 1 20 120F52,119F51,73F30,110F41,111F43,100F31,102F33,101F32 ~script,~size,~words_here,~doors_here,~houses_here,~found,~top,~door,~row 8";exact Q53
theorem walk{l:OpenLaw}{q:Program}{loose:List Str}{XP:(Str->Option Value)->Heap->Prop}{YP:World->Heap->Prop}{d:DefRec}{K:Params->Frag}(hn:l.most=some 63)(hdf:d.params.defaults=[])
  (hY:∀ (w:World) (h:Heap),YP w h->(K w.params).In h)
  (F:∀ (w:World) (mg:Str->Option Value) (fa:Addr) (h:Heap),(K w.params).In h->h.Ns mainGlobals mg->mg d.name=some (.ref fa) ->
   ∃ fd:FuncData,(∀ (s:Shared) (u:Value),BindsTo s fd ⟨[u],[]⟩ [("_law_script",u)])/\∀ base:Heap,(K w.params).In base->base.Ns mainGlobals mg->FnOk l.prog w (K w.params) mg base CX0 20 fa fd ["_law_script"] (lSp (K w.params) sp_law)) :
  PySem.W.WalkO q loose XP YP l.row.toRowW d [] (λf vs=>PySem.call f vs) :=
 L2.walk_of (n:=63) (k:=20) (x:="_law_script") (CX:=λ_=>CX0) (sp:=λw=>lSp (K w.params) sp_law) hn (by decide) hdf ⟨rfl,by decide,by decide⟩ hY F (λ_ _ a ns hl hO hS=>Qcm hl hO hS) λ_ _ _ _ _ z=>z
end My
open PySem PySem.W PyProof.Rows
set_option hygiene false
open Lean in
local macro_rules | `(tactic| walk_at $s:str) => do
 let a:=s.getString.splitOn " "
 if a.head! != "dK" then Macro.throwUnsupported
 let mut ts : Array (TSyntax `tactic):=#[]
 for e in a.tail! do
  let x:=My.mkN "" e
  let t <- match e.toList.head! with
   | 'f' => `(tactic| case $x:ident => (refine' My.fnI ?q1 ?q2 ?q3 ?q4; (case q1 => k_is); (case q2 => k_is); (case q3 => k_is); (case q4 => k_is)))
   | 'm' => `(tactic| case $x:ident => (refine' My.mtI ?q1 ?q2 ?q3 ?q4 ?q5; (case q1 => k_is); (case q2 => k_is); (case q3 => k_is); (case q4 => k_is); (case q5 => k_is)))
   | 'o' => `(tactic| case $x:ident => (refine ⟨?_, ?_, ?_, ?_, ?_, ?_⟩ <;> k_is))
   | _ => `(tactic| case $x:ident => k_is)
  ts:=ts.push t
 `(tactic| ($[$ts]*))
set_option hygiene true
set_option maxRecDepth 100000 in
set_option maxHeartbeats 0 in
theorem PySem.Challenge.cw_namewell_k42_no_door_lacks_holds : PySem.Challenge.rw_namewell_k42_no_door_lacks.Holds := by
 refine TH.pack.2 ?_
 delta TH.pack;dsimp only
 k_fill
 refine My.walk (l:=PySem.Challenge.rw_namewell_k42_no_door_lacks) rfl rfl (λw h Y=>PySem.W.kIn_of Y) ?F
 case F =>
  intro w mg fa h KX G hmg;refine' My.all_mk KX G hmg ?zo0 ?ob0 ?nf8 ?nf9 ?nf10 ?nf11 ?zo1 ?ob1 ?nf0 ?nf1 ?nf2 ?nf3 ?nf4 ?zo2 ?ob2 ?nf5 ?nf6 ?nf7 ?f0 ?f1 ?f2 ?f3 ?f4 ?f5 ?m6 ?m7 ?m8 ?m9 ?m10 ?m11 ?m12 ?m13 ?m14 ?m15 ?m16 ?m17 ?m18 ?m19 ?m20 ?m21 ?m22 ?m23 ?m24 ?m25 ?m27 ?m28 ?m29 ?f30 ?f31 ?f32 ?f33 ?f34 ?f35 ?f36 ?f37 ?f38 ?f39 ?f40 ?f41 ?f43 ?f44 ?f45 ?f46 ?f47 ?f48 ?f49 ?f50 ?f51 ?f52 ?f53 ?z0 ?z1 ?z2 ?z3 ?z4 ?z5 ?z6 ?z7 ?g0 ?g1 ?g2 ?g3 ?g4 ?g5 ?g6 ?g7;walk_at "dK zo0 ob0 nf8 nf9 nf10 nf11 zo1 ob1 nf0 nf1 nf2 nf3 nf4 zo2 ob2 nf5 nf6 nf7 f0 f1 f2 f3 f4 f5 m6 m7 m8 m9 m10 m11 m12 m13 m14 m15 m16 m17 m18 m19 m20 m21 m22 m23 m24 m25 m27 m28 m29 f30 f31 f32 f33 f34 f35 f36 f37 f38 f39 f40 f41 f43 f44 f45 f46 f47 f48 f49 f50 f51 f52 f53 z0 z1 z2 z3 z4 z5 z6 z7 g0 g1 g2 g3 g4 g5 g6 g7"
