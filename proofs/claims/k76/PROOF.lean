import PyProof.Rows.All
import Wide.All
import OpenK.AllK
import Wide.FinOn
import Lean
import PyProof.EqAt
import PyProof.EqKinds
import PyProof.TupleCall
import PyProof.EnumMake
import PyProof.AttrMissHeap
import KE.KDictOf
import KE.KEqDict
import KE.KSortTup
import KE.KDictSum
import PySem.Challenge.RW_namewell_k76_one_house_two_zones
import PyProof.ExcClass3
import PyProof.InstStoreFacts
import PyProof.ExcBaseAll.ValueError
open List(all_cons all_eq_true all_map all_nil any_cons any_eq_true any_map append_nil cons_append drop_eq_getElem_cons drop_eq_nil_of_le drop_zero filterMap_cons filter_append filter_cons filter_cons_of_neg filter_cons_of_pos filter_nil filter_sublist find?_cons find?_eq_none find?_some findSome?_cons foldl_cons foldl_nil getElem?_eq_getElem getElem?_map isEmpty_iff length_append length_cons length_drop length_filter_le length_map length_nil length_range length_replicate length_reverse length_singleton length_take lookup_cons map_append map_congr_left map_cons map_id map_map map_nil map_reverse map_take mem_append mem_append_left mem_append_right mem_cons mem_cons_of_mem mem_cons_self mem_filter mem_filterMap mem_flatMap mem_map mem_of_getElem? mem_of_getLast? mem_range mem_reverse mem_singleton nil_append nodup_append nodup_cons nodup_nil not_mem_nil of_mem_zip pairwise_cons pairwise_map size_toArray take_add_one take_length take_of_length_le take_take)
open Nat(add_le_add_left le_of_eq le_of_lt le_of_not_lt le_refl le_succ le_succ_of_le le_trans lt_irrefl lt_of_le_of_lt lt_of_lt_of_le lt_or_ge lt_succ_self min_eq_left ne_of_gt ne_of_lt sub_zero zero_le)
open Bool(and_eq_true false_eq_true not_eq_true' or_eq_true)
open PySem.W(Frag OpenLaw callWith_K callWith_K0 codeIn findIn fnOf hasDictIn instObj isFn keepIn kia_one kitOne kitx_dict kitx_list kitx_tuple makesIn methodCall_KW methodObj mg_none_of mg_of nsIn plainGet plainGet_of plainOver pyHash_slot)
open PySem.F(args_dict_get_2 args_tuple_add_2 entry_dict_get entry_tuple_add plainAttrs_dict slot_dict_get slot_dict_keyiterator_next slot_dict_pop slot_dict_setdefault slot_list_pop slot_tuple_add type_dict_get type_list_pop)
local macro_rules|`(tactic|room)=>`(tactic|first|lia|omega)
local macro_rules|`(tactic|kd_p)=>`(tactic|decide +kernel)
open Lean in
local macro_rules|`(tactic|erw[$rs,*]$[$l]?)=>do
 let xs:Array (TSyntax `term):=rs.getElems.map λr=>⟨r.raw[1]⟩
 `(tactic|simp only[$[$xs:term],*]$[$l]?)
section
open PySem PySem.Spec PyProof.Rows
theorem Za:type_of%(@wpAny_bind):=@wpAny_bind
theorem Zb:type_of%(@wpAny_pure):=@wpAny_pure
theorem Zc:type_of%(@mem_cons_of_mem):=@mem_cons_of_mem
theorem Zd:type_of%(@if_neg):=@if_neg
theorem Ze:type_of%(@length_map):=@length_map
theorem Zf:type_of%(@mem_cons):=@mem_cons
theorem Zg:type_of%(@if_pos):=@if_pos
theorem Zh:type_of%(@mem_singleton):=@mem_singleton
theorem Zi:type_of%(@Heap.get?_push_of_some):=@Heap.get?_push_of_some
theorem Zj:type_of%(@and_eq_true):=@and_eq_true
theorem Zk:type_of%(@mem_cons_self):=@mem_cons_self
theorem Zl:type_of%(@mem_append_right):=@mem_append_right
theorem Zm:type_of%(@not_mem_nil):=@not_mem_nil
theorem Zo:type_of%(@decide_eq_true_eq):=@decide_eq_true_eq
theorem Zp:type_of%(@length_append):=@length_append
theorem Zq:type_of%(@List.getElem?_eq_some_iff):=@List.getElem?_eq_some_iff
theorem Zr:type_of%(@Heap.lt_size):=@Heap.lt_size
theorem Zs:type_of%(@length_cons):=@length_cons
theorem Zt:type_of%(@decide_eq_false):=@decide_eq_false
theorem Zu:type_of%(@map_cons):=@map_cons
theorem Zv:type_of%(@or_false):=@or_false
theorem Zw:type_of%(@Heap.get?_push_size):=@Heap.get?_push_size
theorem Zx:type_of%(@getElem?_eq_getElem):=@getElem?_eq_getElem
theorem Zy:type_of%(@le_refl):=@le_refl
theorem Zz:type_of%(@beq_iff_eq):=@beq_iff_eq
theorem Z0:type_of%(@Bool.false_ne_true):=@Bool.false_ne_true
theorem Z1:type_of%(@mem_append):=@mem_append
theorem Z2:type_of%(@size_toArray):=@size_toArray
theorem Z3:type_of%(@Option.some.inj):=@Option.some.inj
theorem Z4:type_of%(@Option.map_eq_some_iff):=@Option.map_eq_some_iff
theorem Z5:type_of%(@mem_append_left):=@mem_append_left
theorem Z6:type_of%(@lt_of_lt_of_le):=@lt_of_lt_of_le
theorem Z7:type_of%(@decide_eq_true):=@decide_eq_true
theorem Z8:type_of%(@zero_le):=@zero_le
theorem Z9:type_of%(@false_eq_true):=@false_eq_true
theorem ZA:type_of%(@map_append):=@map_append
theorem ZB:type_of%(@getElem?_map):=@getElem?_map
theorem ZC:type_of%(@all_cons):=@all_cons
theorem ZD:type_of%(@length_take):=@length_take
theorem ZE:type_of%(@Array.length_toList):=@Array.length_toList
theorem ZF:type_of%(@le_trans):=@le_trans
theorem ZG:type_of%(@lt_of_le_of_lt):=@lt_of_le_of_lt
theorem ZH:type_of%(@True.intro):=@True.intro
theorem ZI:type_of%(@mem_of_getElem?):=@mem_of_getElem?
theorem ZJ:type_of%(@lookup_cons):=@lookup_cons
theorem ZK:type_of%(@Heap.SameBut.update):=@Heap.SameBut.update
theorem ZL:type_of%(@ne_of_lt):=@ne_of_lt
theorem ZM:type_of%(@Calls.spliced_cons):=@Calls.spliced_cons
theorem ZN:type_of%(@length_nil):=@length_nil
theorem ZO:type_of%(@all_eq_true):=@all_eq_true
theorem ZP:type_of%(@wpAny_holding):=@wpAny_holding
theorem ZQ:type_of%(@Paired.length):=@Paired.length
theorem ZR:type_of%(@Bool.and_true):=@Bool.and_true
theorem ZS:type_of%(@length_filter_le):=@length_filter_le
theorem ZT:type_of%(@if_false):=@if_false
theorem ZU:type_of%(@find?_cons):=@find?_cons
theorem ZV:type_of%(@Option.map_some):=@Option.map_some
theorem ZW:type_of%(@nodup_cons):=@nodup_cons
theorem ZX:type_of%(@sizeLine_eq):=@sizeLine_eq
theorem ZY:type_of%(@mem_map):=@mem_map
theorem ZZ:type_of%(@beq_eq_false_iff_ne):=@beq_eq_false_iff_ne
theorem Yb:type_of%(@add_le_add_left):=@add_le_add_left
theorem Yc:type_of%(@PyProof.Rows.slot_tuple_getitem):=@PyProof.Rows.slot_tuple_getitem
theorem Yd:type_of%(@wpAny_mono):=@wpAny_mono
theorem Ye:type_of%(@tupleKind_room_in1):=@tupleKind_room_in1
theorem Yg:type_of%(@not_eq_true'):=@not_eq_true'
theorem Yh:type_of%(@take_length):=@take_length
theorem Yi:type_of%(@Option.bind_eq_some_iff):=@Option.bind_eq_some_iff
theorem Yj:type_of%(@Calls.callWith_builtin):=@Calls.callWith_builtin
theorem Yk:type_of%(@map_map):=@map_map
theorem Yl:type_of%(@length_range):=@length_range
theorem Ym:type_of%(@map_congr_left):=@map_congr_left
theorem Yn:type_of%(@wpAny_newObj_type):=@wpAny_newObj_type
theorem Yo:type_of%(@wpAny_dictEntries):=@wpAny_dictEntries
theorem Yp:type_of%(@drop_eq_getElem_cons):=@drop_eq_getElem_cons
theorem Yq:type_of%(@mem_filter):=@mem_filter
theorem Yr:type_of%(@Bool.true_and):=@Bool.true_and
end
set_option hygiene false in
local macro_rules | `(tactic| walk_at "q0") => `(tactic| (
 refine Q0c λk1 e1=>?_;w_up))
set_option hygiene false in
local macro_rules | `(tactic| walk_at "q1") => `(tactic| (
 rw[e1];clear e1;walk_at "q0"))
set_option hygiene false in
local macro_rules | `(tactic| walk_at "q2") => `(tactic| (
 obtain⟨⟨z,n,ap,es,cp⟩,rfl,q⟩:=qv;have qv:=Q0j q;clear q;obtain⟨⟨y,y'⟩,e,q⟩:=qv;dsimp only at e q ⊢;subst e;erw[Zj]at q;obtain⟨⟨⟨⟨⟨⟨⟨q0,q1⟩,q2⟩,q3⟩,q4⟩,q5⟩,q6⟩,q7⟩:=q))
set_option hygiene false in
local macro_rules | `(tactic| walk_at "q3") => `(tactic| (
 refine ix_tup (by decide) (by simp) λd0 hd0=>?_
 cases hd0))
set_option maxHeartbeats 4000000
set_option Elab.async false
set_option linter.all false
set_option compiler.extract_closed false
set_option maxRecDepth 100000
namespace TH
open PySem PySem.W
noncomputable def jX(p:Program)(w:World)(m:Nat)(ann:Option Value):Nat->SharedT->Thread->Option SharedT
 |0,_,_=>none
 |n+1,s,t=>
  match through t with
  |true=>some s
  |false=>
   match stepOk m ann t with
   |false=>none
   |true=>
    match stepT (denote treeTable) p w s t with
    |none=>none
    |some (s',t')=>jX p w m ann n s' t'
theorem Q5T{p:Program}{w:World}{m:Nat}{ann:Option Value}:∀{n:Nat}{s r:SharedT}{t:Thread},
  jX p w m ann n s t=some r->topRun treeTable p w m ann n s.abs t=some r.abs
 |0,_,_,_,h=>by cases h
 |n+1,s,r,t,h=>by
  unfold jX at h;unfold topRun;cases ht:through t with
  |true=>rw[ht]at h;cases h;rfl
  |false=>
   rw[ht]at h;cases hk:stepOk m ann t with
   |false=>rw[hk]at h;cases h
   |true=>
    rw[hk]at h;cases hs:stepT (denote treeTable) p w s t with
    |none=>rw[hs]at h;cases h
    |some x=>
     obtain⟨s₂,t₂⟩:=x;rw[hs]at h;rw[stepT_spec hs];exact Q5T h
noncomputable def i5(l:List Obj):Nat->Nat->Nat->BT
 |0,_,_=>.nil
 |f+1,a,b=>
  match l[b]? with
  |some o=>.node o (i5 l f (2 * a) (a+b)) (i5 l f (2 * a) (2 * a+b))
  |none=>.nil
noncomputable def jv(P:Params):BT:=i5 (boot_heap P).objs.toList 5 1 0
theorem Q5U(P:Params):absHeap (jv P) 11 (boot_heap P).life=boot_heap P:=by kernel_rfl
theorem Q5V(P:Params):((boot_heap P).isNs mainGlobals,(boot_heap P).objs.size,(boot_heap P).nsMap mainGlobals "__annotations__")=(true,11,some (.ref 6)):=by kernel_rfl
noncomputable def jw(w:World)(os:OsState):SharedT:=⟨jv w.params,11,(boot_heap w.params).life,Array.mk [],boot_drawn,boot_toks,os⟩
noncomputable def e8(p:Program)(N:Nat)(w:World)(os:OsState):Option SharedT:=jX p w 11 (some (.ref 6)) N (jw w os) (topStub p)
theorem Q9W{p q:Program}{loose:List Str}{Xt:Shared->Bool}{α:Type}{Yf:Shared->α}{Ya:World->α}{N:Nat}{g0:Bool}
  (e:opening p=plainProg p.main.scope.names) (hN:Nat.ble 600 N=true) (f:∀s,fenceModules? p s=some s)
  (c1:∀(w:World) (os:OsState),(e8 p N w os).map (λs=>staticsOk (importedModules p.main.body) (boot_heap w.params) s.abs.heap&&namesBound p s.abs.heap&&gensDone s.abs&&laidKept (boot_heap w.params) s.abs.heap)=some true)
  (c2:∀(w:World) (os:OsState),(e8 p N w os).map (λs=>openSeen q loose (importedModules p.main.body) Xt g0 s.abs)=some (openGood q loose))
  (c3:∀(w:World) (os:OsState),(e8 p N w os).map (λs=>Yf s.abs)=some (Ya w)):LeftO p q loose Xt Yf Ya N g0:=λw=>by
 obtain⟨⟨h,gs,d,k,os⟩,e1,e2⟩:=Z4.mp (boot_open e hN f w);obtain⟨rfl,rfl,rfl,rfl⟩:h=boot_heap w.params/\gs=Array.mk []/\d=boot_drawn/\k=boot_toks:=by simpa using e2
 obtain⟨r,r1,l1⟩:=Z4.mp (c1 w os);have l2:=c2 w os;have l3:=c3 w os;rw[r1]at l2 l3
 replace l2:=Z3 l2
 replace l3:=Z3 l3
 obtain⟨z1,z2,z3⟩:_/\_/\_:=by simpa only [Prod.mk.injEq]using Q5V w.params
 have t0:=Q5T r1;have ab:(jw w os).abs=⟨boot_heap w.params,Array.mk [],boot_drawn,boot_toks,os⟩:=by
  show Shared.mk (absHeap (jv w.params) 11 (boot_heap w.params).life) _ _ _ _=_;rw[Q5U];rfl
 rw[ab]at t0;have t:topFrom treeTable p w N ⟨boot_heap w.params,Array.mk [],boot_drawn,boot_toks,os⟩=some r.abs:=by
  unfold topFrom;dsimp only;rw[z1,z2,z3,t0];show (match staticsOk (importedModules p.main.body) (boot_heap w.params) r.abs.heap&&namesBound p r.abs.heap&&gensDone r.abs&&laidKept (boot_heap w.params) r.abs.heap with|true=>_|false=>_)=_
  rw[l1]
 unfold openEnds;rw[e1];show Option.map _ (topFrom treeTable p w N _)=_;rw[t];refine congrArg some ?_;exact Prod.ext l2 l3
end TH
namespace TH
open PySem PySem.W PyProof.Rows
noncomputable abbrev pp:Program:=PySem.Challenge.pw_namewell_k76_one_house_two_zones
noncomputable def qq:Program:=view pp ((List.range 42).filter λi=>!([1,8,16,20,31,34,36].contains i))
noncomputable abbrev ll:List Str:=[]
noncomputable def xt(s:Shared):Bool:=xlAt qq [] s&&recOk (RowW.records (OpenRow.toRowW (OpenLaw.row PySem.Challenge.rw_namewell_k76_one_house_two_zones))) s
theorem p9{A1 A2 A3 A4 A5 A6 A7 A8 A9:Type}{a a':A1}{b b':A2}{c c':A3}{d d':A4}{e e':A5}{f f':A6}{g g':A7}{h h':A8}{i i':A9}(q1:a=a')(q2:(b,c)=(b',c'))(q3:(d,e,f)=(d',e',f'))(q4:(g,h,i)=(g',h',i')):(a,b,c,d,e,f,g,h,i)=(a',b',c',d',e',f',g',h',i'):=by cases q1;cases q2;cases q3;cases q4;rfl
theorem l2a(w:World)(os:OsState):(e8 pp 7474 w os).map (λs=>seen ((recsOf qq).map (·.name)) (ownsOf qq) [] {s.abs with gens:=#[]})=some (expectedOf qq):=by kernel_rfl
theorem l2b(w:World)(os:OsState):(e8 pp 7474 w os).map (λs=>(s.abs.heap.bltView,(s.abs.heap.keysOk (looseW qq ll) ((recsOf qq).map (·.name)) ((litsOf qq).map (·.1)) ((clssOf qq (looseW qq ll)).map (·.name))&&s.abs.heap.accountedOkI (importedModules pp.main.body)&&s.abs.heap.isNs mainGlobals&&s.abs.heap.isNs builtinsNs&&tablesOk qq s.abs.heap&&xt s.abs&&(if true then s.abs.gens.size==0 else !leftWithCleanup s.abs.gens))))=some (bltViewBooted,true):=by kernel_rfl
theorem l2c(w:World)(os:OsState):(e8 pp 7474 w os).map (λs=>(tabsOk qq s.abs,pinSeenD qq (drecsOf qq) s.abs,plainSeenE qq (looseW qq ll) s.abs))=some (true,pinGoodD (drecsOf qq),plainGoodE qq (looseW qq ll)):=by kernel_rfl
theorem l2d(w:World)(os:OsState):(e8 pp 7474 w os).map (λs=>(plainSeenD qq ll s.abs,wideSeen qq s.abs,clsSeenW qq ll s.abs))=some (plainGoodD qq ll,wideGood qq,clsGoodW qq ll):=by kernel_rfl
theorem left2(w:World)(os:OsState):(e8 pp 7474 w os).map (λs=>openSeen qq ll (importedModules pp.main.body) xt true s.abs)=some (openGood qq ll):=by
 have a:=l2a w os;have b:=l2b w os;have c:=l2c w os;have d:=l2d w os
 revert a b c d
 generalize e8 pp 7474 w os=r;intro a b c d;cases r with
 |none=>cases a
 |some r=>exact congrArg some (p9 (Z3 a) (Z3 b) (Z3 c) (Z3 d))
theorem left1(w:World)(os:OsState):(e8 pp 7474 w os).map (λs=>staticsOk (importedModules pp.main.body) (boot_heap w.params) s.abs.heap&&namesBound pp s.abs.heap&&gensDone s.abs&&laidKept (boot_heap w.params) s.abs.heap)=some true:=by kernel_rfl
local macro_rules | `(tactic| o_head $H) => `(tactic| (
 refine holds_open (r:=OpenLaw.row PySem.Challenge.rw_namewell_k76_one_house_two_zones) (q:=qq) (loose:=ll) (N:=7474) (Xt:=xt) (XP:=XL qq [])
  (Ya := Hook.val $H) (Yf := Hook.obs $H) (YP := Hook.says $H) ?hl (Hook.of $H) (Hook.keeps $H)
  (λs e=>xl_of s (Bool.and_eq_true_iff.mp e).1) XL.keeps (by rfl) (by rfl) (by rfl) (λs e=>recFacts_of (Bool.and_eq_true_iff.mp e).2)
  (by rfl) (by assumption) (by kd_p) ⟨rfl,rfl,rfl,rfl,rfl,by kd_p⟩ ?hw ?hc
 (case hl=>exact Q9W (by kernel_rfl) (by rfl) (λs=>by kernel_rfl) left1 left2 (λw os=>by kernel_rfl))))
set_option maxHeartbeats 0 in
theorem said0:OpenLaw.wellSaid PySem.Challenge.rw_namewell_k76_one_house_two_zones=true:=by kernel_rfl
set_option maxHeartbeats 0 in
noncomputable def pack:{ A:Prop // A->PySem.Challenge.rw_namewell_k76_one_house_two_zones.Holds}:=by
 refine⟨?_,?_⟩;rotate_left
 ·intro hA;w_on;refine holds_law said0 λsaid=>?_;k_head;(case hw=>w_witness2);exact hA
end TH
namespace NK
open PySem PySem.Spec
section
variable{K:Type}[DecidableEq K]{prog:Program}{w:World}
noncomputable abbrev aX(K:Type):=K×List K×List K
def k8(kd:KeyKind prog w K)(h:Heap):K ⊕ List K->Value->Prop
 |.inl k,v=>kd.is k v=true
 |.inr ks,v=>∃b,v=.ref b/\IsTupleKey kd h ks b
inductive aR(kd:KeyKind prog w K)(h:Heap):List (K ⊕ List K)->List Value->Prop
 |nil:aR kd h [] []
 |cons {p:K ⊕ List K}{v:Value}{ps:List (K ⊕ List K)}{vs:List Value}:k8 kd h p v->aR kd h ps vs->aR kd h (p::ps) (v::vs)
def iI(kd:KeyKind prog w K)(h:Heap)(ps:List (K ⊕ List K))(a:Addr):Prop:=
 ∃o xs n,h.get? a=some o/\o.cls=.type "tuple" /\ o.data=.seq xs n/\aR kd h ps xs.toList
inductive gQ:List (K ⊕ List K)->List (K ⊕ List K)->Prop
 |m8 {q}:gQ [] q
 |nilR {p}:gQ p []
 |l {a b:K} {p q}:gQ p q->gQ (.inl a::p) (.inl b::q)
 |r {a b:List K} {p q}:gQ p q->gQ (.inr a::p) (.inr b::q)
noncomputable def o6(kd:KeyKind prog w K):K ⊕ List K->Int
 |.inl k=>kd.hash k
 |.inr ks=>tupleKeyHash kd ks
noncomputable def zbG:K ⊕ List K->Nat
 |.inl _=>1
 |.inr ks=>ks.length+1
noncomputable def eG(ps:List (K ⊕ List K)):Nat:=(ps.map zbG).foldr (· + ·) 0
variable{kd:KeyKind prog w K}
theorem Q5W(ps:List (K ⊕ List K))(p:K ⊕ List K):eG (ps++[p])=eG ps+zbG p:=by
 induction ps with
 |nil=>simp[eG]
 |cons q r ih=>erw[eG,cons_append,Zu,List.foldr_cons]at ih ⊢;room
theorem Q7J(x:k8 kd h p v)(y:k8 kd h q v):p=q:=by
 cases p with
 |inl a=>
  cases q with
  |inl b=>exact congrArg Sum.inl (kd.inj _ _ _ x y)
  |inr b=>
   obtain⟨c,rfl,_⟩:=y;have:=kd.byValue _ _ x;simp[carriedByValue]at this
 |inr a=>
  obtain⟨c,rfl,z⟩:=x;cases q with
  |inl b=>
   have:=kd.byValue _ _ y;simp[carriedByValue]at this
  |inr b=>
   obtain⟨c',e,z'⟩:=y;cases e;exact congrArg Sum.inr (z.inj z')
theorem Q5X(x:aR kd h p vs)(y:aR kd h q vs):p=q:=by
 induction x generalizing q with
 |nil=>cases y;rfl
 |cons a _ ih=>
  cases y with
  |cons b c=>rw[Q7J a b,ih c]
theorem Q4v(x:iI kd h p a)(y:iI kd h q a):p=q:=by
 obtain⟨o,xs,n,h1,_,h2,h3⟩:=x;obtain⟨o',xs',n',g1,_,g2,g3⟩:=y;have e:o=o':=Z3 (h1.symm.trans g1);subst e;rw[h2]at g2;injection g2 with e1 _;subst e1;exact Q5X h3 g3
theorem Q5n{es ep}(ho:h.get? d=some o)(hd:o.data=.dict es ep)(hs:Heap.SameBut d h h')(x:k8 kd h p v):k8 kd h' p v:=by
 cases p with
 |inl a=>exact x
 |inr a=>obtain⟨c,rfl,z⟩:=x;exact⟨c,rfl,z.keeps ho hd hs⟩
theorem Q3Y{es ep}(ho:h.get? d=some o)(hd:o.data=.dict es ep)(hs:Heap.SameBut d h h')(x:aR kd h p vs):aR kd h' p vs:=by
 induction x with
 |nil=>exact .nil
 |cons a _ ih=>exact .cons (Q5n ho hd hs a) ih
theorem Q5o{es ep}(ho:h.get? d=some o)(hd:o.data=.dict es ep)(hs:Heap.SameBut d h h')(x:iI kd h p a):iI kd h' p a:=by
 obtain⟨o',xs,n,h1,hc,h2,h3⟩:=x;have ne:a≠d:=by
  rintro rfl;have e:o'=o:=Z3 (h1.symm.trans ho);subst e;rw[hd]at h2;exact nomatch h2
 exact⟨o',xs,n,(hs.2 a ne).trans h1,hc,h2,Q3Y ho hd hs h3⟩
theorem Q1p{s:Shared}{p:List (K ⊕ List K)}{a:Addr}(x:iI kd s.heap p a):s.TypeIs (.ref a) "tuple":=let ⟨o,_,_,h1,hc,_⟩:=x;⟨o,h1,hc⟩
variable{A:Around}{E:Value->Shared->Prop}
noncomputable def jj(kd:KeyKind prog w K)(ps:List (K ⊕ List K)):Int:=reduceHash (Builtin.Tuple.tupleHashOf (ps.map (o6 kd)))
section walks
variable{s:Shared}{a:Addr}{ob:Obj}{xs:Array Value}{n:Nat}
theorem Q1N{Q:Bool->Shared->Prop}(ho:s.heap.get? a=some ob)(hc:ob.cls=.type "tuple")(hd:ob.data=.seq xs n)
  (each:∀v∈xs.toList,∀Z:Bool->Shared->Prop,Z true s->wpAny (model prog w) A (eqIsQuiet m v) Z E s) (h:Q true s):wpAny (model prog w) A (eqIsQuiet (m+1) (.ref a)) Q E s:=by
 have ty:s.TypeIs (.ref a) "tuple":=⟨ob,ho,hc⟩;unfold eqIsQuiet;refine Za (wpAny_specialOf ty F.slot_tuple_eq.lookup (Za (wpAny_isInstance ty isSubtype_tuple_tuple (Za (wpAny_seqItems ho hd (Za ?_))))));show wpAny _ _ (forIn xs _ _) _ _ s;rw[<- Array.forIn_toList];refine wpAny_forIn_list _ (λrest r s'=>r.1=none/\s'=s/\rest ⊆ xs.toList) _ (λv rest r s'=>?_) (λr s'=>?_) _ _ ⟨rfl,rfl,List.Subset.refl _⟩
 ·rintro⟨_,rfl,sub⟩;exact Za (each v (sub Zk) _ (Zb ⟨rfl,rfl,λu hu=>sub (Zc _ hu)⟩))
 ·obtain⟨r1,r2⟩:=r;rintro⟨hr,rfl,_⟩;cases hr;exact Zb h
theorem Q5p{Q:Int->Shared->Prop}(h:Q (reduceHash z) s):wpAny (model prog w) A (pyHashByItsType.reduced z) Q E s:=by
 unfold pyHashByItsType.reduced;unfold reduceHash at h;split
 ·rename_i c;rw[Zg c]at h;exact Zb h
 ·rename_i c;rw[Zd c]at h;refine Za (wpAny_rule ?_);exact Zb h
theorem Q5q{Q:Int->Shared->Prop}(hu:A.units+1<cLine)(ho:s.heap.get? a=some ob)(hc:ob.cls=.type "tuple")(hd:ob.data=.seq xs n)(hl:aR kd s.heap ps xs.toList)
  (each:∀(p:K ⊕ List K) (v:Value) (A':Around) (E':Value->Shared->Prop) (k:Nat) (Z:Int->Shared->Prop),A'.units<=A.units+1->k8 kd s.heap p v->Z (o6 kd p) {s with toks:=s.toks+k+zbG p} ->
   wpAny (model prog w) A' (pyHash v) Z E' {s with toks:=s.toks+k})
  (h:Q (jj kd ps) {s with toks:=s.toks+(eG ps+1)}):wpAny (model prog w) A (pyHash (.ref a)) Q E s:=by
 have ty:s.TypeIs (.ref a) "tuple":=⟨ob,ho,hc⟩;unfold pyHash pyHashByItsType;refine Za (wpAny_cRoomFor_or (.inr (by room)) (Za (wpAny_specialOf ty F.slot_tuple_hash.lookup ?_)))
 refine Eq.mpr (congrArg (λx=>wpAny (model prog w) A x Q E s) (Zd (by rw[beq_builtin_none];decide))) ?_
 refine Za (wpAny_specialOf ty F.slot_tuple_hash.lookup (Za (wpAny_callSpecialIfBoundUnlessNone?_slot ty F.slot_tuple_hash (wpAny_call_entry F.slot_tuple_hash ty F.entry_tuple_hash ?tree (F.args_tuple_hash_1 _)))));refine (show wpAny (model prog w) A.in1 (Builtin.Tuple.tupleItemsOf (.ref a) >>= _) _ _ s from Za (wpAny_tupleItemsOf ho hd (Za ?_)));rw[<- Array.forIn_toList];refine wpAny_forIn_list _ (λrest (b:Array Int) s'=>∃pre post,ps=pre++post/\aR kd s.heap post rest/\b.toList=pre.map (o6 kd)/\s'={s with toks:=s.toks+eG pre}) _ (λv rest b s' z=>?_) (λb s' z=>?_) _ _ ⟨[],ps,rfl,hl,rfl,rfl⟩
 ·obtain⟨pre,post,rfl,hp,hb,rfl⟩:=z;cases hp with
  | @cons p _ ps' _ g1 g2=>
   refine Za (each p v _ _ (eG pre) _ (Zy _) g1 ?_);have nxt:∃pre' post',pre++p::ps'=pre'++post'/\aR kd s.heap post' rest/\(b.push (o6 kd p)).toList=pre'.map (o6 kd)/\({s with toks:=s.toks+eG pre+zbG p}:Shared)={s with toks:=s.toks+eG pre'}:=
    ⟨pre++[p],ps',by simp,g2,by simp[hb],by rw[Q5W,Nat.add_assoc]⟩
   first
    |exact Zb nxt
    |exact Za (Zb (Zb nxt))
 ·obtain⟨pre,post,rfl,hp,hb,rfl⟩:=z;cases hp;rw[append_nil]at h;dsimp only;rw[hb];exact wpAny_ret_mkInt (Q5p (by rw[Nat.add_assoc];exact h))
end walks
theorem Q5Y{Q:Int->Shared->Prop}(hu:A.units+1<cLine)(hk:iI kd s.heap ps a)(h:Q (jj kd ps) {s with toks:=s.toks+(eG ps+1)}):wpAny (model prog w) A (pyHash (.ref a)) Q E s:=by
 obtain⟨o,xs,n,ho,hc,hd,hi⟩:=hk;refine Q5q hu ho hc hd hi (λp v A' E' k Z hA hp hz=>?_) h;cases p with
 |inl b=>exact kd.pyHash hp hz
 |inr b=>obtain⟨c,rfl,z⟩:=hp;exact wpAny_pyHash_tuple (by room) z hz
theorem Q5r{Q:Bool->Shared->Prop}(hk:iI kd s.heap ps a)(h:Q true s):wpAny (model prog w) A (eqIsQuiet (m+2) (.ref a)) Q E s:=by
 obtain⟨o,xs,n,ho,hc,hd,hi⟩:=hk;have val:∀(j:Nat) (v:Value) (Z:Bool->Shared->Prop),carriedByValue v=true->Z true s->wpAny (model prog w) A (eqIsQuiet j v) Z E s:=λj v Z hv hz=>by rw[eqIsQuiet_byValue _ hv];exact Zb hz
 refine Q1N ho hc hd (λv hv Z hz=>?_) h;clear ho hd h;generalize xs.toList=l at hi hv
 induction hi with
 |nil=>cases hv
 | @cons p u _ _ g1 g2 ih=>
  rcases Zf.mp hv with e|e
  ·subst e;cases p with
   |inl b=>exact val _ _ _ (kd.byValue _ _ g1) hz
   |inr b=>
    obtain⟨c,rfl,o',ys,n',h1,h2,h3,h4⟩:=g1;exact Q1N h1 h2 h3 (λx hx Y hy=>val _ _ _ (h4.byValue x hx) hy) hz
  ·exact ih e
theorem Q9X{Q:Bool->Shared->Prop}(hu:A.units<cLine)(hp:k8 kd s.heap p u)(hq:k8 kd s.heap q v)(al:gQ [p] [q])(h:Q (decide (p=q)) s):wpAny (model prog w) A (eqBool u v) Q E s:=by
 cases al with
 |l _=>exact kd.eqBool hp hq (by simpa using h)
 |r _=>
  obtain⟨b,rfl,z⟩:=hp;obtain⟨c,rfl,z'⟩:=hq;exact wpAny_eqBool_tuple hu z z' (by simpa using h)
theorem Q3b(x:aR kd h ps vs):ps.length=vs.length:=by
 induction x with
 |nil=>rfl
 |cons _ _ hi=>erw[Zs,hi]
theorem Q9Y{s:Shared}{x y:List (K ⊕ List K)}{a b:Addr}{P:Fin->Shared->Prop}(hu:A.units<cLine)(al:gQ x y)(hx:iI kd s.heap x a)(hy:iI kd s.heap y b)(h:P (.done (.ret (.bool (decide (x=y))))) s) :
  wpAny (model prog w) A (Builtin.«tuple.__eq__» { pos:=[.ref a,.ref b],kw:=[]}) P E s:=by
 have tb:=Q1p hy;obtain⟨o1,xs,n1,g1,-,g2,px⟩:=hx;obtain⟨o2,ys,n2,k1,-,k2,py⟩:=hy;refine (show wpAny (model prog w) A (isInstance (Value.ref b) (Value.type "tuple") >>= _) P E s from Za (wpAny_isInstance tb isSubtype_tuple_tuple (Za (wpAny_tupleItemsOf g1 g2 (Za (wpAny_tupleItemsOf k1 k2 (Za ?_)))))));have lx:=Q3b px;have ly:=Q3b py;refine wpAny_forIn_list _ (λrest r s'=>r.1=none/\s'=s/\∃c x2 y2 us vs,x=c++x2/\y=c++y2/\gQ x2 y2/\aR kd s.heap x2 us/\aR kd s.heap y2 vs/\rest=List.zip us vs) _ (λuv rest r s' z=>?_) (λr s' z=>?_) _ _
  ⟨rfl,rfl,[],x,y,_,_,rfl,rfl,al,px,py,rfl⟩
 ·obtain⟨_,rfl,c,x2,y2,us,vs,ex,ey,al2,p2,q2,ez⟩:=z;cases p2 with
  |nil=>cases ez
  | @cons p u x3 us' h1 p3=>
   cases q2 with
   |nil=>cases ez
   | @cons q v y3 vs' h2 q3=>
    rw[List.zip_cons_cons]at ez;injection ez with e1 e2;subst e1 e2;have both:gQ [p] [q]/\gQ x3 y3:=by
     cases al2 with
     |l z=>exact⟨.l .m8,z⟩
     |r z=>exact⟨.r .m8,z⟩
    refine Za (Q9X hu h1 h2 both.1 ?_);by_cases e:p=q
    ·subst e;rw[Z7 rfl];exact Zb ⟨rfl,rfl,c++[p],x3,y3,us',vs',by rw[ex];simp,by rw[ey];simp,both.2,p3,q3,rfl⟩
    ·rw[Zt e];have ne:¬ x=y:=by
      rw[ex,ey];intro z;have:=List.append_cancel_left z;injection this with z1 _;exact e z1
     rw[Zt ne]at h;refine Za (Zb ?_);refine Zb (Zb h)
 ·obtain⟨rn,rfl,c,x2,y2,us,vs,ex,ey,-,p2,q2,ez⟩:=z;obtain⟨r1,r2⟩:=r;cases rn;have sz:(xs.size==ys.size)=decide (x=y):=by
   have a1:xs.size=c.length+x2.length:=by rw[<- ZE,<- lx,ex,Zp]
   have a2:ys.size=c.length+y2.length:=by rw[<- ZE,<- ly,ey,Zp]
   cases p2 with
   |nil=>
    cases q2 with
    |nil=>rw[ex,ey,a1,a2];simp
    |cons _ _=>
     rw[a1,a2,ex,ey];simp
   |cons _ _=>
    cases q2 with
    |nil=>
     rw[a1,a2,ex,ey];simp
    |cons _ _=>cases ez
  refine Zb ?_;have fin:P (Fin.done (Flow.ret (Value.bool (xs.size==ys.size)))) s':=by rw[sz];exact h
  exact fin
theorem Q9Z{s:Shared}{x y:List (K ⊕ List K)}{a b:Addr}{Q:Bool->Shared->Prop}(hu:A.units+1<cLine)(al:gQ x y)(hx:iI kd s.heap x a)(hy:iI kd s.heap y b)(h:Q (decide (x=y)) s):wpAny (model prog w) A (eqBool (.ref a) (.ref b)) Q E s:=by
 unfold eqBool
 try with_reducible refine ZP ?_
 dsimp only;split
 ·rename_i c;have e:a=b:=Value.ref.inj (eq_of_beq c);subst e;have e2:=Q4v hx hy;subst e2;rw[Z7 rfl]at h;refine Za (wpAny_rule ?_);exact Zb h
 ·have tree:=λP hP=>Q9Y (P:=P) (E:=E) (A:=A.in1) (s:=s) hu al hx hy hP;refine Za ?_;refine wpAny_richCompare_same_room (op:=.Eq) (Q1p hx) (Q1p hy) F.slot_tuple_eq (wpAny_call_entry F.slot_tuple_eq (Q1p hx) F.entry_tuple_eq ?_ (F.args_tuple_eq_2 _ _)) (by room)
  exact tree _ ⟨_,rfl,(λe=>nomatch e),wpAny_truthy_bool h⟩
noncomputable def iU(fl:Bool)(k:aX K):List (K ⊕ List K):=if fl=true then .inr k.2.1::.inl k.1::k.2.2.map .inl else .inl k.1::.inr k.2.1::k.2.2.map .inl
theorem Q3Z:∀{a b:List K},a.map (Sum.inl (β:=List K))=b.map Sum.inl->a=b
 |[],[],_=>rfl
 |[],_::_,e=>nomatch e
 |_::_,[],e=>nomatch e
 |x::a,y::b,e=>by
  erw[Zu,List.cons.injEq,Sum.inl.injEq]at e;rw[e.1,Q3Z e.2]
theorem Q2n{fl:Bool}{a b:aX K}(e:iU fl a=iU fl b):a=b:=by
 obtain⟨a1,a2,a3⟩:=a;obtain⟨b1,b2,b3⟩:=b;cases fl with
 |true=>
  obtain⟨e1,e2,e⟩:a2=b2/\a1=b1/\a3.map (Sum.inl (β:=List K))=b3.map Sum.inl:=by simpa[iU]using e
  rw[e1,e2,Q3Z e]
 |false=>
  obtain⟨e1,e2,e⟩:a1=b1/\a2=b2/\a3.map (Sum.inl (β:=List K))=b3.map Sum.inl:=by simpa[iU]using e
  rw[e1,e2,Q3Z e]
theorem Q1O:∀(a b:List K),gQ (a.map (Sum.inl (β:=List K))) (b.map Sum.inl)
 |[],_=>.m8
 |_::_,[]=>.nilR
 |_::a,_::b=>.l (Q1O a b)
theorem nJ(fl:Bool)(a b:aX K):gQ (iU fl a) (iU fl b):=by
 cases fl with
 |true=>exact .r (.l (Q1O _ _))
 |false=>exact .l (.r (Q1O _ _))
end
noncomputable def aW(fl:Bool){prog:Program}{w:World}{K:Type}[DecidableEq K](kd:KeyKind prog w K):HeapKind prog w (aX K) where
 is:=λh k a=>iI kd h (iU fl k) a
 hash:=λk=>jj kd (iU fl k)
 draws:=λk=>eG (iU fl k)+1
 room:=λA=>A.units+1<cLine
 inj:=λhx hy=>Q2n (Q4v hx hy)
 keeps:=λx ho hd hs=>Q5o ho hd hs x
 pyHash:=λhu hk h=>Q5Y hu hk h
 eqBool:=fun{A E s x y a b Q} hu hx hy h=>Q9Z hu (nJ fl x y) hx hy (by
  have e:decide (iU fl x=iU fl y)=decide (x=y):=by
   by_cases q:x=y
   ·subst q;simp
   ·rw[Zt q,Zt (λz=>q (Q2n z))]
  rw[e];exact h)
 quiet:=λhk h=>Q5r hk h
end NK
namespace L2
open PySem PySem.Spec PyProof.Rows
noncomputable abbrev Key:=Sum Int Str
noncomputable def oh:Key->Value->Bool
 |.inl k,v=>Value.isInt k v
 |.inr x,v=>Value.isStrOf x v
noncomputable def keyH(w:World):Key->Int
 |.inl k=>hashInt k
 |.inr x=>hashStr w x
theorem kJ:∀{k:Key}{v:Value},oh k v=true->(∃i t,k=Sum.inl i/\v=Value.int i t)\/(∃x t,k=Sum.inr x/\v=Value.str x t)
 |.inl i,v,h=>by
  obtain⟨t,e⟩:=Value.isInt_shape (k:=i) (v:=v) h;exact .inl ⟨i,t,rfl,e⟩
 |.inr x,v,h=>by
  obtain⟨t,e⟩:=Value.isStrOf_shape (x:=x) (v:=v) h;exact .inr ⟨x,t,rfl,e⟩
theorem Q5Z(i:Int)(t:Tok):oh (.inl i) (.int i t)=true:=by simp[oh,Value.isInt]
theorem Q6a(x:Str)(t:Tok):oh (.inr x) (.str x t)=true:=by simp[oh,Value.isStrOf]
theorem QbJ(a b:Int):decide ((Sum.inl a:Key)=Sum.inl b)=(a==b):=by
 by_cases e:a=b
 ·subst e;simp
 ·have h:¬ (Sum.inl a:Key)=Sum.inl b:=λq=>e (Sum.inl.inj q);rw[Zt h];exact (ZZ.mpr e).symm
theorem QbK(a b:Str):decide ((Sum.inr a:Key)=Sum.inr b)=decide (a=b):=by
 by_cases e:a=b
 ·subst e;simp
 ·have h:¬ (Sum.inr a:Key)=Sum.inr b:=λq=>e (Sum.inr.inj q);rw[Zt h,Zt e]
theorem QbL(a:Int)(b:Str):decide ((Sum.inl a:Key)=Sum.inr b)=false:=Zt (λq=>nomatch q)
theorem QbM(a:Str)(b:Int):decide ((Sum.inr a:Key)=Sum.inl b)=false:=Zt (λq=>nomatch q)
noncomputable def bZ(prog:Program)(w:World):PySem.KeyKind prog w Key where
 is:=oh
 hash:=keyH w
 inj:=λv a b ha hb=>by
  rcases kJ ha with ⟨i,t,rfl,rfl⟩|⟨x,t,rfl,rfl⟩
  ·rcases kJ hb with ⟨j,u,rfl,e⟩|⟨y,u,rfl,e⟩
   ·injection e with e1 _;rw[e1]
   ·exact nomatch e
  ·rcases kJ hb with ⟨j,u,rfl,e⟩|⟨y,u,rfl,e⟩
   ·exact nomatch e
   ·injection e with e1 _;rw[e1]
 byValue:=λk v h=>by
  rcases kJ h with ⟨i,t,rfl,rfl⟩|⟨x,t,rfl,rfl⟩<;>rfl
 pyHash:=λhv h=>by
  rcases kJ hv with ⟨i,t,rfl,rfl⟩|⟨x,t,rfl,rfl⟩
  ·exact wpAny_pyHash_int h
  ·exact wpAny_pyHash_str h
 eqBool:=λhu hv h=>by
  rcases kJ hu with ⟨i,t,rfl,rfl⟩|⟨x,t,rfl,rfl⟩
  ·rcases kJ hv with ⟨j,u,rfl,rfl⟩|⟨y,u,rfl,rfl⟩
   ·rw[QbJ]at h;exact wpAny_eqBool_int h
   ·rw[QbL]at h;exact SeqAt.EqAt.int_str i t y u _ _ _ _ h
  ·rcases kJ hv with ⟨j,u,rfl,rfl⟩|⟨y,u,rfl,rfl⟩
   ·rw[QbM]at h;exact SeqAt.EqAt.str_int x t j u _ _ _ _ h
   ·rw[QbK]at h;exact wpAny_eqBool_str h
 «strs»:=λk x t v h=>by
  rcases kJ h with ⟨i,u,rfl,e⟩|⟨y,u,rfl,e⟩
  ·exact nomatch e
  ·injection e with e1 _;subst e1;cases v<;>rfl
theorem Q4a(prog:Program)(w:World)(i:Int)(t:Tok):(bZ prog w).is (.inl i) (.int i t)=true:=Q5Z i t
theorem Q4b(prog:Program)(w:World)(x:Str)(t:Tok):(bZ prog w).is (.inr x) (.str x t)=true:=Q6a x t
inductive V where
 |non|bl (b:Bool)|int (i:Int)|str (x:Str)|byt (b:Array UInt8)|nD (b:UInt64)|ref (a:Addr)|ty (n:String)
 deriving DecidableEq
def RelV:V->Value->Prop
 |.non,u=>u=Value.none
 |.bl b,u=>u=Value.bool b
 |.int i,u=>∃t,u=Value.int i t
 |.str x,u=>∃t,u=Value.str x t
 |.byt b,u=>∃t,u=Value.bytes b t
 |.nD b,u=>∃t,u=Value.float b t
 |.ref a,u=>u=Value.ref a
 |.ty n,u=>u=Value.type n
noncomputable abbrev Vals:List V->List Value->Prop:=Paired RelV
theorem Vals.length(r:Vals xs us):xs.length=us.length:=ZQ r
theorem Vals.get:∀{xs:List V}{us:List Value}{i:Nat}{x:V},Vals xs us->xs[i]?=some x->∃u,us[i]?=some u/\RelV x u
 |_,_,_,_,.nil,e=>by simp at e
 |_,_,0,_,.cons r _,e=>by simp at e;subst e;exact⟨_,rfl,r⟩
 |_,_,i+1,x,.cons _ t,e=>by
  obtain⟨u,h1,h2⟩:=Vals.get (i:=i) (x:=x) t (by simpa using e)
  exact⟨u,by simpa using h1,h2⟩
theorem Vals.append:∀{xs ys:List V}{us ws:List Value},Vals xs us->Vals ys ws->Vals (xs++ys) (us++ws)
 |_,_,_,_,.nil,s=>s
 |_,_,_,_,.cons r t,s=>.cons r (Vals.append t s)
theorem Vals.take:∀{xs:List V}{us:List Value}(n:Nat),Vals xs us->Vals (xs.take n) (us.take n)
 |_,_,0,_=>.nil
 |_,_,_+1,.nil=>.nil
 |_,_,n+1,.cons r t=>.cons r (Vals.take n t)
theorem Vals.drop:∀{xs:List V}{us:List Value}(n:Nat),Vals xs us->Vals (xs.drop n) (us.drop n)
 |_,_,0,r=>r
 |_,_,_+1,.nil=>.nil
 |_,_,n+1,.cons _ t=>Vals.drop n t
def bO:Option V->Option Value->Prop
 |some v,some u=>RelV v u
 |none,none=>True
 |_,_=>False
def KV{κ:Type}:List (κ×V)->List (κ×Value)->Prop:=Paired λ(p:κ×V) (q:κ×Value)=>p.1=q.1/\RelV p.2 q.2
noncomputable def kV:Key->V
 |.inl i=>.int i
 |.inr x=>.str x
inductive HO where
 |lst (xs:List V)
 |tup (xs:List V)
 |dK (kvs:List (Key×V))|dT (kvs:List (List Key×V))
 |dN (fl:Bool) (ep:Nat) (kvs:List (NK.aX Key×V)) --N
 |set (S:Int->Bool) (n:Nat)
 |ins (C dx:Addr) (fs:List (Str×V))
 |own (x:Addr)
 |xd (fs:List (Str×V))
 |met (f x:Addr)
 |pU (lo hi:Int)
 |frz (o:Obj) (u:HO)
 |mJ (ps:Array Value)
 |ext (φ:Heap->Prop)
noncomputable abbrev Hp:=Addr->Option HO
noncomputable def k3V(fl:Bool)(k:NK.aX Key)(n:Addr):List V:=if fl=true then .ref n::kV k.1::k.2.2.map kV else kV k.1::.ref n::k.2.2.map kV --N
def bK(fl:Bool)(H:Hp)(k:NK.aX Key)(b:Addr):Prop:=∃n,H b=some (.tup (k3V fl k n))/\H n=some (.tup (k.2.1.map kV)) --N
noncomputable def upd(H:Hp)(a:Addr)(o:HO):Hp:=λb=>if b=a then some o else H b
theorem b9:upd H a o a=some o:=by unfold upd;rw[Zg rfl]
theorem aY(h:b≠a):upd H a o b=H b:=by unfold upd;rw[Zd h]
theorem Q2E:upd (upd H a o) a u=upd H a u:=by
 funext b;unfold upd;split<;>rfl
theorem eI{H:Hp}{a b:Addr}{o u:HO}(h:H a=some o)(h':H b=some u)(d:o≠u):a≠b:=by
 intro e;subst e;rw[h]at h';exact d (Z3 h')
theorem gM{H:Hp}{a b:Addr}{o:HO}(h:H a=some o)(h':H b=none):a≠b:=by
 intro e;subst e;rw[h]at h';cases h'
section
variable(P:Program)(w:World)
def aG(H:Hp)(h:Heap)(a:Addr):HO->Prop
 |.lst xs=>xs.length<=sizeLine/\∃(its:List Value) (n:Nat),Vals xs its/\h.get? a=some { cls:=.type "list",data:=.seq its.toArray n}
 |.tup xs=>xs.length<=sizeLine/\∃its:List Value,Vals xs its/\IsTup h a its.toArray
 |.dK kvs=>kvs.length<=sizeLine/\(a==sysModules)=false/\∃vs,KV kvs vs/\h.DictOf (bZ P w) a vs
 | .dT kvs=>kvs.length<=sizeLine/\(a==sysModules)=false/\∃xs:List (List Key×Addr×Value),
   Paired (λ(p:List Key×V) (q:List Key×Addr×Value)=>p.1=q.1/\H q.2.1=some (.tup (p.1.map kV))/\RelV p.2 q.2.2) kvs xs /\
   ∃o es ep,h.get? a=some o/\o.ExactDict/\o.data=.dict es ep/\es.toList=xs.map (entryOfKey (tupleKind (bZ P w)))/\(xs.map (·.1)).Nodup
 |.dN fl ep kvs=>kvs.length<=sizeLine/\(a==sysModules)=false/\∃xs:List (NK.aX Key×Addr×Value),Paired (λ(p:NK.aX Key×V) (q:NK.aX Key×Addr×Value)=>p.1=q.1/\bK fl H p.1 q.2.1/\RelV p.2 q.2.2) kvs xs/\∃o es,h.get? a=some o/\o.ExactDict/\o.data=.dict es ep/\es.toList=xs.map (entryOfKey (NK.aW fl (bZ P w)))/\(xs.map (·.1)).Nodup --N
 |.set S n=>h.SetOf (intKind P w) a S n
 | .ins C dx fs=>H dx=some (.own a)/\fs.length<=1000/\dx≠a/\h.get? a=some (instObj C dx) /\
   ∃mA,h.Ns1 dx mA/\(∀f,bO (fs.lookup f) (mA f))/\PySem.Within mA (fs.map (·.1))
 |.own _=>∃o,h.get? a=some o
 |.xd fs=>∃mA,h.Ns1 a mA/\∀f,bO (fs.lookup f) (mA f)
 |.pU lo hi=>∃t u v,h.get? a=some { cls:=.type "range",data:=.fields #[.int lo t,.int hi u,.int 1 v]}
 |.frz o u=>h.get? a=some o/\aG H h a u
 |.mJ ps=>h.get? a=some { cls:=.none,data:=.fields ps}
 |.met f x=>h.get? a=some (methodObj (.ref f) (.ref x))
 |.ext φ=>φ h/\(∃o,h.get? a=some o)/\∀h1 h2:Heap,φ h1->(∀o,h1.get? a=some o->h2.get? a=some o)->φ h2
def cM(H:Hp)(h:Heap):Prop:=∀a o,H a=some o->aG P w H h a o
end
section
variable{P:Program}{w:World}{H H':Hp}{h h':Heap}{a:Addr}{o:HO}
theorem aG.lt(x:aG P w H h a o):a<h.objs.size:=by
 cases o with
 |lst xs=>obtain⟨_,_,_,_,e⟩:=x;exact Zr e
 |tup xs=>obtain⟨_,_,_,p⟩:=x;exact p.lt
 |dK kvs=>obtain⟨_,_,_,_,o,_,_,e,_⟩:=x;exact Zr e
 |dT kvs=>obtain⟨_,_,_,_,o,_,_,e,_⟩:=x;exact Zr e
 |dN fl ep kvs=>obtain⟨_,_,_,_,o,_,e,_⟩:=x;exact Zr e --N
 |set S n=>obtain⟨o,_,_,_,e,_⟩:=x;exact Zr e
 |ins C dx fs=>obtain⟨_,_,_,e,_⟩:=x;exact Zr e
 |own y=>obtain⟨_,e⟩:=x;exact Zr e
 |xd fs=>obtain⟨_,⟨_,_,_,e,_⟩,_⟩:=x;exact Zr e
 |pU lo hi=>obtain⟨_,_,_,e⟩:=x;exact Zr e
 |frz ob u=>obtain⟨e,_⟩:=x;exact Zr e
 |mJ ps=>exact Zr (show h.get? a=some _ from x)
 |met f y=>exact Zr (show h.get? a=some _ from x)
 |ext φ=>obtain⟨_,⟨_,e⟩,_⟩:=x;exact Zr e
theorem Paired.b6{α β:Type}{F G:α->β->Prop}:∀{l₁:List α}{l₂:List β},Paired F l₁ l₂->(∀a b,F a b->G a b)->Paired G l₁ l₂
 |_,_,.nil,_=>.nil
 |_,_,.cons r t,f=>.cons (f _ _ r) (Paired.b6 t f)
theorem aG.cV(x:aG P w H h a o)(k:∀b u,(b=a\/H b=some (.own a))->h.get? b=some u->h'.get? b=some u)
  (ho:∀b,H b=some (.own a)->H' b=some (.own a)) (ht:∀b xs,H b=some (.tup xs)->H' b=some (.tup xs)):aG P w H' h' a o:=by
 induction o with
 |lst xs=>obtain⟨z,its,n,r,e⟩:=x;exact⟨z,its,n,r,k _ _ (.inl rfl) e⟩
 |tup xs=>obtain⟨z,its,r,ob,e,c⟩:=x;exact⟨z,its,r,ob,k _ _ (.inl rfl) e,c⟩
 |dK kvs=>obtain⟨z,y,vs,r,ob,es,ep,e,c⟩:=x;exact⟨z,y,vs,r,ob,es,ep,k _ _ (.inl rfl) e,c⟩
 |dT kvs=>
  obtain⟨z,y,xs,r,ob,es,ep,e,c⟩:=x;exact⟨z,y,xs,Paired.b6 r λp q z=>⟨z.1,ht _ _ z.2.1,z.2.2⟩,ob,es,ep,k _ _ (.inl rfl) e,c⟩
 |dN fl ep kvs=>obtain⟨z,y,xs,r,ob,es,e,c⟩:=x;exact⟨z,y,xs,Paired.b6 r λp q z=>⟨z.1,(let ⟨n,e1,e2⟩:=z.2.1;⟨n,ht _ _ e1,ht _ _ e2⟩),z.2.2⟩,ob,es,k _ _ (.inl rfl) e,c⟩ --N
 |set S n=>obtain⟨ob,es,ep,t,e,c⟩:=x;exact⟨ob,es,ep,t,k _ _ (.inl rfl) e,c⟩
 |ins C dx fs=>
  obtain⟨d,z,ne,e,mA,⟨od,es,ep,e2,c⟩,r⟩:=x;exact⟨ho _ d,z,ne,k _ _ (.inl rfl) e,mA,⟨od,es,ep,k _ _ (.inr d) e2,c⟩,r⟩
 |own y=>obtain⟨ob,e⟩:=x;exact⟨ob,k _ _ (.inl rfl) e⟩
 |xd fs=>obtain⟨mA,⟨od,es,ep,e,c⟩,r⟩:=x;exact⟨mA,⟨od,es,ep,k _ _ (.inl rfl) e,c⟩,r⟩
 |pU lo hi=>obtain⟨t,u,v,e⟩:=x;exact⟨t,u,v,k _ _ (.inl rfl) e⟩
 |frz ob u ih=>obtain⟨e,q⟩:=x;exact⟨k _ _ (.inl rfl) e,ih q⟩
 |mJ ps=>
  have e:h.get? a=some { cls:=.none,data:=.fields ps}:=x;show h'.get? a=some { cls:=.none,data:=.fields ps};exact k a _ (.inl rfl) e
 |met f y=>
  have e:h.get? a=some (methodObj (.ref f) (.ref y)):=x;show h'.get? a=some (methodObj (.ref f) (.ref y));exact k a _ (.inl rfl) e
 |ext φ=>obtain⟨p,⟨o,e⟩,st⟩:=x;exact⟨st _ _ p λo q=>k _ _ (.inl rfl) q,⟨o,k _ _ (.inl rfl) e⟩,st⟩
theorem cM.lt(x:cM P w H h)(e:H a=some o):a<h.objs.size:=(x a o e).lt
theorem cM.fresh(x:cM P w H h)(e:h.objs.size<=a):H a=none:=by
 cases q:H a with
 |none=>rfl
 |some u=>exact absurd (Z6 (x.lt q) e) (lt_irrefl _)
theorem cM.kept(x:cM P w H h)(k:∀b u,h.get? b=some u->h'.get? b=some u):cM P w H h':=λa o e=>
 (x a o e).cV (λb u _ q=>k b u q) (λ_ q=>q) λ_ _ q=>q
theorem cM.laid(x:cM P w H h)(k:∀b u,h.get? b=some u->h'.get? b=some u)(hp:h.objs.size<=a)(new:aG P w (upd H a o) h' a o):cM P w (upd H a o) h':=λb u e=>by
 have hn:=x.fresh hp;by_cases hb:b=a
 ·subst hb;rw[b9]at e;cases e;exact new
 ·rw[aY hb]at e;exact (x b u e).cV (λc v _ q=>k c v q) (λc q=>by rw[aY (gM q hn)];exact q) λc xs q=>by rw[aY (gM q hn)];exact q
end
def Rd(H:Hp)(a:Addr)(u:HO):Prop:=H a=some u\/∃o,H a=some (.frz o u)
theorem Rd.ok(r:Rd H a u)(x:cM P w H h):aG P w H h a u:=by
 rcases r with r|⟨o,r⟩
 ·exact x a u r
 ·obtain⟨_,q⟩:=x a _ r;exact q
def se:Option HO->Prop
 |some (.lst _)=>True
 |some (.dK _)=>True
 |some (.dT _)=>True
 |some (.dN _ _ _)=>True --N
 |some (.set _ _)=>True
 |some (.ins _ _ _)=>True
 |some (.ext _)=>True
 |_=>False
section
variable{P:Program}{w:World}{H:Hp}{h h':Heap}{x e:Addr}{o':HO}
theorem cM.write(ok:cM P w H h)(mu:se (H x))(he:e=x\/H e=some (.own x))(k:∀b u,b≠e->h.get? b=some u->h'.get? b=some u)(heo:∃u,h'.get? e=some u)
  (new:aG P w (upd H x o') h' x o'):cM P w (upd H x o') h':=λb u q=>by
 have nown:∀c y,H c=some (.own y)->c≠x:=λc y r z=>by subst z;rw[r]at mu;exact mu
 have ntup:∀c xs,H c=some (.tup xs)->c≠x:=λc xs r z=>by subst z;rw[r]at mu;exact mu
 by_cases hb:b=x
 ·subst hb;rw[b9]at q;cases q;exact new
 ·rw[aY hb]at q;by_cases hbe:b=e
  ·have q':H b=some (.own x):=by
    rcases he with z|z
    ·exact absurd (hbe.trans z) hb
    ·rw[hbe];exact z
   rw[q]at q';cases q';obtain⟨v,hv⟩:=heo;exact⟨v,by rw[hbe];exact hv⟩
  ·refine (ok b u q).cV (λc v hc r=>k c v ?_ r) (λc r=>by rw[aY (nown c b r)];exact r) λc xs r=>by rw[aY (ntup c xs r)];exact r
   rcases hc with rfl|hc
   ·exact hbe
   ·rintro rfl;rcases he with z|z
    ·exact nown c b hc z
    ·rw[hc]at z;cases z;exact hb rfl
end
structure Un(fs ex:List Addr)(H H':Hp)(h h':Heap):Prop where
 keep:∀b o,h.get? b=some o->H b=none->b∉fs->b∉ex->h'.get? b=some o
 slot:∀b o,h.get? b=some o->H b=none->b∈fs->b∉ex->∃sl,h'.get? b=some {o with slots:=sl}
 free:∀b o,h.get? b=some o->H b=none->b∉ex->H' b=none
 there:∀b o,h.get? b=some o->b∉ex->∃o',h'.get? b=some o'
 eZ:∀b xs,H b=some (.tup xs)->H' b=some (.tup xs)
 eN:∀b o u,H b=some (.frz o u)->H' b=some (.frz o u)
 e7:∀b ps,H b=some (.mJ ps)->∃more,H' b=some (.mJ (ps++more))
section
variable{fs fs' ex ex':List Addr}{H H1 H2:Hp}{h h1 h2 h':Heap}{a x e:Addr}{o:HO}
theorem Un.any(u:Un fs ex H H1 h h1)(q:h.get? b=some ob)(n:H b=none)(hx:b∉ex):∃sl,h1.get? b=some {ob with slots:=sl}:=by
 by_cases hb:b∈fs
 ·exact u.slot b ob q n hb hx
 ·exact⟨ob.slots,u.keep b ob q n hb hx⟩
theorem Un.kept(k:∀b u,h.get? b=some u->h'.get? b=some u):Un fs ex H H h h':=
 ⟨λb ob q _ _ _=>k b ob q,λb ob q _ _ _=>⟨ob.slots,k b ob q⟩,λ_ _ _ n _=>n,λb ob q _=>⟨ob,k b ob q⟩,λ_ _ q=>q,λ_ _ _ q=>q,λ_ ps q=>⟨#[],by rw[q];simp⟩⟩
theorem Un.refl:Un fs ex H H h h:=Un.kept λ_ _ q=>q
theorem Un.laid(k:∀b u,h.get? b=some u->h'.get? b=some u)(hp:h.objs.size<=a)(hn:H a=none):Un fs ex H (upd H a o) h h' where
 keep:=λb u q _ _ _=>k b u q
 slot:=λb u q _ _ _=>⟨u.slots,k b u q⟩
 free:=λb u q n _=>by rw[aY (ZL (Z6 (Zr q) hp))];exact n
 there:=λb u q _=>⟨u,k b u q⟩
 eZ:=λb xs q=>by rw[aY (gM q hn)];exact q
 eN:=λb u xs q=>by rw[aY (gM q hn)];exact q
 e7:=λb ps q=>⟨#[],by rw[aY (gM q hn),q];simp⟩
theorem Un.write(mu:se (H x))(he:e=x\/H e=some (.own x))(k:∀b u,b≠e->h.get? b=some u->h'.get? b=some u)(heo:∃u,h'.get? e=some u):Un fs ex H (upd H x o) h h':=by
 have hx:∀b,H b=none->b≠x:=λb n z=>by subst z;rw[n]at mu;exact mu
 have hb:∀b,H b=none->b≠e:=λb n z=>by
  subst z;rcases he with r|r
  ·exact hx b n r
  ·rw[n]at r;cases r
 have hm:∀b u,H b=some u->¬ se (some u)->b≠x:=λb u q nm z=>by subst z;rw[q]at mu;exact nm mu
 refine⟨λb u q n _ _=>k b u (hb b n) q,λb u q n _ _=>⟨u.slots,k b u (hb b n) q⟩,λb u q n _=>by rw[aY (hx b n)];exact n,λb u q _=>?_,
  λb xs q=>by rw[aY (hm b _ q λz=>z)];exact q,λb u xs q=>by rw[aY (hm b _ q λz=>z)];exact q,λb ps q=>⟨#[],by rw[aY (hm b _ q λz=>z),q];simp⟩⟩
 by_cases hbe:b=e
 ·subst hbe;exact heo
 ·exact⟨u,k b u hbe q⟩
end
noncomputable def trk(h:Heap)(H:Hp):List Addr:=(List.range h.objs.size).filter λa=>(H a).isSome
noncomputable def fG(h:Heap)(H:Hp):Heap:=PySem.W.hideAll h (trk h H)
theorem Q6b(h:Heap)(H:Hp):(fG h H).objs.size=h.objs.size:=PySem.W.hideAll_size _ _
theorem Q7K(e:h.get? b=some o)(n:H b=none):(fG h H).get? b=some o:=
 PySem.W.hideAll_get _ e λhm=>by
  have q:(H b).isSome=true:=(Yq.mp hm).2;rw[n]at q;simp at q
theorem Qa0(e:(fG h H).get? b=some o):h.get? b=some o/\H b=none:=by
 have e':h.get? b=some o:=PySem.W.of_hideAll (trk h H) e;refine⟨e',?_⟩;cases q:H b with
 |none=>rfl
 |some x=>
  have hm:b∈trk h H:=Yq.mpr ⟨mem_range.mpr (Zr e'),by simp[q]⟩
  have z:(fG h H).get? b=none:=PySem.W.hideAll_none (trk h H) hm;rw[z]at e;cases e
noncomputable def kD(g h:Heap)(L:Addr):List (Addr×Obj):=(List.range h.objs.size).filterMap λa=>if a=L\/(g.get? a).isSome=true then none else (h.get? a).map λo=>(a,o)
noncomputable def rest(g h:Heap)(L d:Addr):List (Addr×Obj):=(kD g h L).filter λp=>decide (p.1≠d)
structure Mod(K:Frag)(mg:Str->Option Value)(base:Heap):Prop where
 qL:K.In base
 glob:base.Ns mainGlobals mg
 blt:∃mb,base.Ns builtinsNs mb/\∀x:Str,x ≠ "__name__" -> mb x=bootBuiltins x
 nolimit:base.NoLimit
structure Cx where
 prog:Program
 w:World
 K:Frag
 mg:Str->Option Value
 base:Heap
 A:Around
 N:List Str
 s₀:Shared
 H₀:Hp
 env:Env
 outer:List Env
 stack:List Env
 ex:List Addr
 fn:Str->Bool
 calm:Bool
 pn:List (Addr×Obj)
 xe:Value->Shared->Prop
noncomputable def iK(l:List Env):List Addr:=l.filterMap (·.frame)
noncomputable abbrev Cx.fs(X:Cx):List Addr:=iK X.outer
def rA(sc:Scope)(x:Str):Prop:=sc.names.lookup x=some .local\/sc.names.lookup x=some .cell\/sc.names.lookup x=some .free
def Loc(sc:Scope)(x:Str):Prop:=sc.names.lookup x=some .local\/sc.names.lookup x=some .cell
def Look(env:Env)(h:Heap)(m:Str->Option Value)(x:Str)(u:Value):Prop:=
 (env.kindOf x=some .local/\m x=some u)\/((env.kindOf x=some .cell\/env.kindOf x=some .free)/\∃c,env.cells.lookup x=some c/\h.IsCell c (some u))
structure Cx.Ok(X:Cx):Prop where
 mod:Mod X.K X.mg X.base
 kind:X.env.scope.kind=.function
 glob:X.env.globals=mainGlobals
 blt:X.env.builtins=builtinsNs
 above:X.s₀.heap.objs.size<=X.env.locals
 inj:∀x y c,X.env.cells.lookup x=some c->X.env.cells.lookup y=some c->x=y
 has:∀x,(X.env.kindOf x=some .cell\/X.env.kindOf x=some .free)->∃c,X.env.cells.lookup x=some c
 rg:∀x c,X.fn x=true->X.env.cells.lookup x=some c->X.s₀.heap.objs.size<=c
 hd:X.calm=true->X.A.handled=none
 frames:X.A.frames=some X.stack
 stk:X.stack=X.outer\/(X.stack=X.env::X.outer/\X.env.frame=some X.env.locals)
 oB:∀b∈X.ex,b≠X.env.locals/\∀x c,X.env.cells.lookup x=some c->c≠b
 bs:∀b o,X.base.get? b=some o->X.s₀.heap.get? b=some o/\X.H₀ b=none
 jI:X.base.objs.size<=X.s₀.heap.objs.size
 ji:∀b o,X.base.get? b=some o->b∉X.ex
 iu:∀b∈X.ex,b∉X.fs
 dj:X.s₀.heap.FunFrames X.base X.outer
 lY:∀b∈X.fs,X.H₀ b=none
structure Inv(X:Cx)(pins:List (Addr×Obj))(σ:List (Option V))(H:Hp)(s:Shared):Prop where
 ok:X.Ok
 os:s.os=X.s₀.os
 bare:AllBare s.gens
 base:Un X.fs X.ex X.H₀ H X.s₀.heap s.heap
 loc:∃m,s.heap.Ns X.env.locals m/\∀(i:Nat) (x:Str) (v:V),X.N[i]?=some x->σ[i]?=some (some v)->rA X.env.scope x->∃u,RelV v u/\Look X.env s.heap m x u
 cell:∀x c,X.env.cells.lookup x=some c->∃v,s.heap.IsCell c v
 free:H X.env.locals=none
 bW:∀x c,X.env.cells.lookup x=some c->H c=none
 pin:∀p∈X.pn++pins,s.heap.get? p.1=some p.2/\H p.1=none/\p.1≠X.env.locals/\p.1∉X.fs/\∀v,p.2.data≠.cell v
 av:cM X.prog X.w H s.heap
 len:σ.length=X.N.length
section
variable{X:Cx}{pins:List (Addr×Obj)}{σ:List (Option V)}{H H':Hp}{s:Shared}{h':Heap}
theorem Cx.Ok.nofr(ok:X.Ok)(e:X.base.get? b=some o):b∉X.fs:=λhb=>by
 have:=(ok.dj.mem hb).1;rw[e]at this;cases this
theorem Inv.bs(I:Inv X pins σ H s):∀b o,X.base.get? b=some o->s.heap.get? b=some o/\H b=none:=λb o e=>
 ⟨I.base.keep b o (I.ok.bs b o e).1 (I.ok.bs b o e).2 (I.ok.nofr e) (I.ok.ji b o e),I.base.free b o (I.ok.bs b o e).1 (I.ok.bs b o e).2 (I.ok.ji b o e)⟩
theorem Inv.bk(I:Inv X pins σ H s):∀b o,X.base.get? b=some o->s.heap.get? b=some o:=λb o e=>(I.bs b o e).1
theorem Inv.mod(I:Inv X pins σ H s):Mod X.K X.mg X.base:=I.ok.mod
theorem Inv.cX(I:Inv X pins σ H s):X.K.In s.heap:=I.ok.mod.qL.keeps I.bk
theorem Inv.lt(I:Inv X pins σ H s):X.env.locals<s.heap.objs.size:=let ⟨_,hn,_⟩:=I.loc;hn.lt
theorem Inv.sz(I:Inv X pins σ H s):X.s₀.heap.objs.size<=s.heap.objs.size:=ZF I.ok.above (le_of_lt I.lt)
theorem Inv.m5(I:Inv X pins σ H s)(h:s.heap.objs.size<=a):a∉X.fs:=λhb=>by
 obtain⟨_,o,ho,_⟩:=I.ok.dj.mem hb;exact absurd (Z6 (Zr ho) (ZF I.sz h)) (lt_irrefl _)
theorem Inv.nH(I:Inv X pins σ H s):∀x c,X.env.cells.lookup x=some c->c≠X.env.locals:=λx c e z=>by
 obtain⟨v,o,ho,hd⟩:=I.cell x c e;obtain⟨m,⟨o',es,ep,ho',hd',_⟩,_⟩:=I.loc;rw[z,ho']at ho;cases ho;rw[hd']at hd;cases hd
theorem Inv.dj(I:Inv X pins σ H s):s.heap.FunFrames X.base X.outer:=by
 have all:∀(l:List Env),(∀b∈iK l,b∈X.fs)->X.s₀.heap.FunFrames X.base l->s.heap.FunFrames X.base l:=by
  intro l
  induction l with
  |nil=>intro _ _;trivial
  |cons env r ih=>
   intro hs hl;obtain⟨hk,⟨L,o,hf,hn,ho,hd⟩,hr⟩:=hl;have hL:L∈X.fs:=hs L (by unfold iK;rw[filterMap_cons,hf];exact Zk)
   obtain⟨sl,e⟩:=I.base.slot L o ho (I.ok.lY L hL) hL λz=>I.ok.iu L z hL;exact⟨hk,⟨L,_,hf,hn,e,hd⟩,ih (λb hb=>hs b (by unfold iK;rw[filterMap_cons,hf];exact Zc _ hb)) hr⟩
 exact all X.outer (λ_ hb=>hb) I.ok.dj
theorem Inv.stack(I:Inv X pins σ H s):s.heap.FunFrames X.base X.stack:=by
 rcases I.ok.stk with e|⟨e,hf⟩
 ·rw[e];exact I.dj
 ·rw[e];obtain⟨m,hn,_⟩:=I.loc;refine .cons (by rw[I.ok.kind];decide) hf hn ?_ I.dj
  exact Heap.get?_none_of_le (ZF I.ok.jI I.ok.above)
theorem Inv.fy(I:Inv X pins σ H s):∀b∈iK X.stack,b∈X.env.locals::X.fs:=λb hb=>by
 rcases I.ok.stk with e|⟨e,hf⟩
 ·rw[e]at hb;exact Zc _ hb
 ·rw[e]at hb;unfold iK at hb;rw[filterMap_cons,hf]at hb;exact hb
theorem Inv.gU(I:Inv X pins σ H s):∀b∈iK X.stack,H b=none:=λb hb=>by
 rcases Zf.mp (I.fy b hb) with e|hb
 ·rw[e];exact I.free
 ·obtain⟨_,o,ho,_⟩:=I.ok.dj.mem hb;exact I.base.free b o ho (I.ok.lY b hb) λz=>I.ok.iu b z hb
theorem Inv.step{g':Array GenState}{t':Nat}{d':Drawn}{ch:List Addr}(I:Inv X pins σ H s)
  (hch:∀b∈ch,(b∈X.ex\/X.s₀.heap.objs.size<=b)/\b≠X.env.locals/\(∀x c,X.env.cells.lookup x=some c->c≠b)/\∀p∈X.pn++pins,p.1≠b)
  (keep:∀b o,b≠X.env.locals->b∉X.fs->b∉ch->s.heap.get? b=some o->H b=none->h'.get? b=some o)
  (slot:∀b o,b≠X.env.locals->b∈X.fs->b∉ch->s.heap.get? b=some o->H b=none->∃sl,h'.get? b=some {o with slots:=sl}) (free:∀b o,b∉ch->s.heap.get? b=some o->H b=none->H' b=none)
  (there:∀b o,b∉ch->s.heap.get? b=some o->∃o',h'.get? b=some o')
  (eZ:∀b xs,H b=some (.tup xs)->H' b=some (.tup xs)) (eN:∀b o u,H b=some (.frz o u)->H' b=some (.frz o u)) (e7:∀b ps,H b=some (.mJ ps)->∃more,H' b=some (.mJ (ps++more)))
  (ns:∀m,s.heap.Ns X.env.locals m->h'.Ns X.env.locals m) (av:cM X.prog X.w H' h') (hg:AllBare g') :
  Inv X pins σ H' {s with heap:=h',gens:=g',drawn:=d',toks:=t'}:=by
 have neL:∀b o,X.s₀.heap.get? b=some o->b≠X.env.locals:=λb o e=>ZL (Z6 (Zr e) I.ok.above);have neC:∀b o,X.s₀.heap.get? b=some o->b∉X.ex->b∉ch:=λb o e hx hb=>by
  rcases (hch b hb).1 with z|z
  ·exact hx z
  ·exact absurd (Z6 (Zr e) z) (lt_irrefl _)
 have cellK:∀x c,X.env.cells.lookup x=some c->∀v,s.heap.IsCell c v->h'.IsCell c v:=λx c e v ⟨o,ho,hd⟩=>by
  have nch:c∉ch:=λz=>(hch c z).2.2.1 x c e rfl;by_cases hc:c∈X.fs
  ·obtain⟨sl,q⟩:=slot c o (I.nH x c e) hc nch ho (I.bW x c e);exact⟨_,q,hd⟩
  ·exact⟨o,keep c o (I.nH x c e) hc nch ho (I.bW x c e),hd⟩
 refine⟨I.ok,I.os,hg,⟨λb o e n hb hx=>?_,λb o e n hb hx=>?_,λb o e n hx=>?_,λb o e hx=>?_,λb xs e=>eZ b xs (I.base.eZ b xs e),λb o xs e=>eN b o xs (I.base.eN b o xs e),λb ps e=>?_⟩,?_,λx c e=>?_,?_,λx c e=>?_,λp hp=>?_,av,I.len⟩
 ·exact keep b o (neL b o e) hb (neC b o e hx) (I.base.keep b o e n hb hx) (I.base.free b o e n hx)
 ·obtain⟨sl,e1⟩:=I.base.slot b o e n hb hx;obtain⟨sl',e2⟩:=slot b _ (neL b o e) hb (neC b o e hx) e1 (I.base.free b o e n hx);exact⟨sl',e2⟩
 ·obtain⟨o',e1⟩:=I.base.there b o e hx;exact free b o' (neC b o e hx) e1 (I.base.free b o e n hx)
 ·obtain⟨o',e1⟩:=I.base.there b o e hx;exact there b o' (neC b o e hx) e1
 ·obtain⟨m1,e1⟩:=I.base.e7 b ps e;obtain⟨m2,e2⟩:=e7 b _ e1;exact⟨m1++m2,by rw[e2,Array.append_assoc]⟩
 ·obtain⟨m,hn,hl⟩:=I.loc;refine⟨m,ns m hn,λi x v e1 e2 e3=>?_⟩;obtain⟨u,r,l⟩:=hl i x v e1 e2 e3;refine⟨u,r,?_⟩;rcases l with l|⟨k,c,e,z⟩
  ·exact .inl l
  ·exact .inr ⟨k,c,e,cellK x c e _ z⟩
 ·obtain⟨v,z⟩:=I.cell x c e;exact⟨v,cellK x c e v z⟩
 ·obtain⟨m,⟨o,_,_,ho,_⟩,_⟩:=I.loc;exact free _ o (λz=>(hch _ z).2.1 rfl) ho I.free
 ·obtain⟨v,o,ho,hd⟩:=I.cell x c e;exact free c o (λz=>(hch c z).2.2.1 x c e rfl) ho (I.bW x c e)
 ·obtain⟨e,n,ne,nf,d⟩:=I.pin p hp;have nch:p.1∉ch:=λz=>(hch p.1 z).2.2.2 p hp rfl;exact⟨keep p.1 p.2 ne nf nch e n,free p.1 p.2 nch e n,ne,nf,d⟩
theorem Inv.un{t':Nat}(I:Inv X pins σ H s)(u:Un X.fs [] H H' s.heap h')(av:cM X.prog X.w H' h'):Inv X pins σ H' {s with heap:=h',toks:=t'}:=by
 obtain⟨m,⟨o,es,ep,ho,r⟩,_⟩:=id I.loc;obtain⟨sl,hL⟩:=u.any ho I.free (by simp)
 exact I.step (g':=s.gens) (d':=s.drawn) (ch:=[]) (λ_ z=>nomatch z) (λb o _ hb _ e n=>u.keep b o e n hb (by simp)) (λb o _ hb _ e n=>u.slot b o e n hb (by simp)) (λb o _ e n=>u.free b o e n (by simp)) (λb o _ e=>u.there b o e (by simp)) u.eZ u.eN u.e7 (λm' hm=>by
  obtain⟨o',es',ep',ho',r'⟩:=hm;rw[ho]at ho';cases ho';exact⟨_,es',ep',hL,r'⟩) av I.bare
theorem Inv.call{g':Array GenState}{t':Nat}{d':Drawn}{ch:List Addr}(I:Inv X pins σ H s)(u:Un (iK X.stack) ch H H' s.heap h')(av:cM X.prog X.w H' h')(hg:AllBare g')
  (hch:∀b∈ch,(b∈X.ex\/X.s₀.heap.objs.size<=b)/\b≠X.env.locals/\(∀x c,X.env.cells.lookup x=some c->c≠b)/\∀p∈X.pn++pins,p.1≠b) :
  Inv X pins σ H' {s with heap:=h',gens:=g',drawn:=d',toks:=t'}:=by
 obtain⟨m,⟨o,es,ep,ho,r⟩,_⟩:=id I.loc;obtain⟨sl,hL⟩:=u.any ho I.free λz=>(hch _ z).2.1 rfl;exact I.step (ch:=ch) hch (λb o hL hb hc e n=>u.keep b o e n (λz=>(Zf.mp (I.fy b z)).elim hL hb) hc) (λb o _ _ hc e n=>u.any e n hc) (λb o hc e n=>u.free b o e n hc) (λb o hc e=>u.there b o e hc) u.eZ u.eN u.e7 (λm' hm=>by
  obtain⟨o',es',ep',ho',r'⟩:=hm;rw[ho]at ho';cases ho';exact⟨_,es',ep',hL,r'⟩) av hg
theorem Inv.turned{t':Nat}{it:Addr}(I:Inv X pins σ H s)(k:∀b o,b≠it->s.heap.get? b=some o->h'.get? b=some o)(hn:H it=none)(hL:it≠X.env.locals)
  (h1:it∈X.ex\/X.s₀.heap.objs.size<=it) (h2:∀x c,X.env.cells.lookup x=some c->c≠it) (h3:∀p∈X.pn++pins,p.1≠it):Inv X pins σ H {s with heap:=h',toks:=t'}:=by
 have nit:∀b u,H b=some u->b≠it:=λb u e z=>by rw[z,hn]at e;cases e
 refine I.step (g':=s.gens) (d':=s.drawn) (ch:=[it]) (λb hb=>?_) (λb o _ _ hc e _=>k b o (λz=>hc (by simp[z])) e) (λb o _ _ hc e _=>⟨o.slots,k b o (λz=>hc (by simp[z])) e⟩) (λ_ _ _ _ n=>n)
  (λb o hc e=>⟨o,k b o (λz=>hc (by simp[z])) e⟩) (λ_ _ e=>e) (λ_ _ _ e=>e) (λb ps e=>⟨#[],by rw[e];simp⟩) (λm hm=>?_) (λb u e=>?_) I.bare
 ·have e:b=it:=by simpa using hb
  subst e;exact⟨h1,hL,h2,h3⟩
 ·obtain⟨o,es,ep,ho,r⟩:=hm;exact⟨o,es,ep,k _ o (Ne.symm hL) ho,r⟩
 ·refine (I.av b u e).cV (λc v hc q=>k c v ?_ q) (λ_ q=>q) λ_ _ q=>q;rcases hc with z|z
  ·rw[z];exact nit b u e
  ·exact nit c _ z
theorem Inv.tok(I:Inv X pins σ H s)(t:Nat):Inv X pins σ H {s with toks:=t}:=I.un (h':=s.heap) (t':=t) Un.refl I.av
theorem Inv.kept(I:Inv X pins σ H s)(k:∀b u,s.heap.get? b=some u->h'.get? b=some u):Inv X pins σ H {s with heap:=h',toks:=t'}:=I.un (Un.kept k) (I.av.kept k)
theorem Inv.laid(I:Inv X pins σ H s)(k:∀b u,s.heap.get? b=some u->h'.get? b=some u)(hp:s.heap.objs.size<=a)(new:aG X.prog X.w (upd H a o) h' a o) :
  Inv X pins σ (upd H a o) {s with heap:=h',toks:=t'}:=I.un (Un.laid k hp (I.av.fresh hp)) (I.av.laid k hp new)
theorem Inv.write(I:Inv X pins σ H s)(mu:se (H x))(he:e=x\/H e=some (.own x))(k:∀b u,b≠e->s.heap.get? b=some u->h'.get? b=some u)(heo:∃u,h'.get? e=some u)
  (new:aG X.prog X.w (upd H x o) h' x o):Inv X pins σ (upd H x o) {s with heap:=h',toks:=t'}:=I.un (Un.write mu he k heo) (I.av.write mu he k heo new)
theorem Inv.weak(I:Inv X pins σ H s)(hl:σ'.length=σ.length)(w:∀(i:Nat) v,σ'[i]?=some (some v)->σ[i]?=some (some v)):Inv X pins σ' H s:=
 ⟨I.ok,I.os,I.bare,I.base,let ⟨m,hn,hl'⟩:=I.loc;⟨m,hn,λi x v e1 e2 e3=>hl' i x v e1 (w i v e2) e3⟩,I.cell,I.free,I.bW,I.pin,I.av,hl.trans I.len⟩
theorem Inv.bw(I:Inv X pins σ H s)(h:∀p∈pins',s.heap.get? p.1=some p.2/\H p.1=none/\p.1≠X.env.locals/\p.1∉X.fs/\∀v,p.2.data≠.cell v):Inv X pins' σ H s:=
 ⟨I.ok,I.os,I.bare,I.base,I.loc,I.cell,I.free,I.bW,λp hp=>(Z1.mp hp).elim (λz=>I.pin p (Z5 _ z)) (h p),I.av,I.len⟩
theorem Q4w{N:List Str}(hN:N.Nodup){i j:Nat}{x:Str}(a:N[i]?=some x)(b:N[j]?=some x):i=j:=by
 obtain⟨h1,e1⟩:=Zq.mp a;obtain⟨h2,e2⟩:=Zq.mp b;exact (List.getElem_inj hN).mp (e1.trans e2.symm)
theorem Q3c{M:Model}{A:Around}{E:Value->Shared->Prop}{i:Nat}{x:Str}{v:V}{u:Value}{Q:Unit->Shared->Prop}(I:Inv X pins σ H s)(hN:X.N.Nodup)(hi:X.N[i]?=some x)(hx:Loc X.env.scope x)(r:RelV v u)
  (h:∀s',Inv X pins (σ.set i (some v)) H s'->(∃a,Heap.SameBut a s.heap s'.heap/\(a=X.env.locals\/X.env.cells.lookup x=some a))->Q () s') (hf:X.fn x=true\/X.env.scope.names.lookup x=some .local:=by first|exact .inl rfl|exact .inr rfl|assumption):wpAny M A (storeName X.env x u) Q E s:=by
 obtain⟨m,hn,hl⟩:=id I.loc;have hcls:(X.env.scope.kind==.class||(X.env.scope.kind==.module&&X.env.locals != X.env.globals))=false:=by rw[I.ok.kind];rfl
 have hiσ:i<σ.length:=by rw[I.len];exact (Zq.mp hi).1
 have nH:=I.nH;have tracked:∀{a:Addr}{h':Heap},(∃o,s.heap.get? a=some o/\H a=none)->Heap.SameBut a s.heap h'->cM X.prog X.w H h':=fun{a h'} ha hs b ob e=>by
  obtain⟨_,_,hfree⟩:=ha;refine (I.av b ob e).cV (λc w' hc q=>(hs.2 c ?_).trans q) (λ_ q=>q) λ_ _ q=>q;rintro rfl;rcases hc with rfl|hc
  ·rw[hfree]at e;cases e
  ·rw[hfree]at hc;cases hc
 rcases hx with hk|hk
 ·refine wpAny_storeName_local hk hn (λh' hn' hs=>?_) hcls;obtain⟨oL,_,_,hoL,_⟩:=id hn;refine h _ ⟨I.ok,I.os,I.bare,⟨λb o e n hb hx=>?_,λb o e n hb hx=>?_,I.base.free,λb o e hx=>?_,I.base.eZ,I.base.eN,I.base.e7⟩,⟨_,hn',λj y v' e1 e2 e3=>?_⟩,λy c e=>?_,I.free,I.bW,λp hp=>?_,tracked ⟨oL,hoL,I.free⟩ hs,by simpa using I.len⟩ ⟨_,hs,.inl rfl⟩
  ·exact (hs.2 b (ZL (Z6 (Zr e) I.ok.above))).trans (I.base.keep b o e n hb hx)
  ·obtain⟨sl,e1⟩:=I.base.slot b o e n hb hx;exact⟨sl,(hs.2 b (ZL (Z6 (Zr e) I.ok.above))).trans e1⟩
  ·obtain⟨o',e1⟩:=I.base.there b o e hx;exact⟨o',(hs.2 b (ZL (Z6 (Zr e) I.ok.above))).trans e1⟩
  ·by_cases hj:j=i
   ·subst hj;rw[hi]at e1;cases e1;rw[List.getElem?_set_self hiσ]at e2;cases e2;exact⟨u,r,.inl ⟨hk,by simp⟩⟩
   ·rw[List.getElem?_set_ne (Ne.symm hj)]at e2;obtain⟨u',r',q⟩:=hl j y v' e1 e2 e3;refine⟨u',r',?_⟩;rcases q with ⟨k,e⟩|⟨k,c,e,z⟩
    ·refine .inl ⟨k,?_⟩;have:y≠x:=λe=>hj (Q4w hN e1 (e ▸ hi));simp[this,e]
    ·exact .inr ⟨k,c,e,z.sameBut hs (nH y c e)⟩
  ·obtain⟨w',z⟩:=I.cell y c e;exact⟨w',z.sameBut hs (nH y c e)⟩
  ·obtain⟨e,n,ne,nf,d⟩:=I.pin p hp;exact⟨(hs.2 p.1 ne).trans e,n,ne,nf,d⟩
 ·have hfn:X.fn x=true:=by
   rcases hf with z|z
   ·exact z
   ·rw[z]at hk;cases hk
  obtain⟨c,hc⟩:=I.ok.has x (.inl hk);obtain⟨w',z⟩:=I.cell x c hc;refine wpAny_storeName_cell I.ok.kind hk hc z (λh' hc' hs=>?_);obtain⟨oc,hoc,hocd⟩:=id z;refine h {s with heap:=h'} ⟨I.ok,I.os,I.bare,⟨λb o e n hb hx=>?_,λb o e n hb hx=>?_,I.base.free,λb o e hx=>?_,I.base.eZ,I.base.eN,I.base.e7⟩,⟨m,hn.sameBut hs (Ne.symm (nH x c hc)),λj y v' e1 e2 e3=>?_⟩,λy c' e=>?_,I.free,I.bW,λp hp=>?_,tracked ⟨oc,hoc,I.bW x c hc⟩ hs,by simpa using I.len⟩ ⟨c,hs,.inr hc⟩
  ·exact (hs.2 b (ZL (Z6 (Zr e) (I.ok.rg x c hfn hc)))).trans (I.base.keep b o e n hb hx)
  ·obtain⟨sl,e1⟩:=I.base.slot b o e n hb hx;exact⟨sl,(hs.2 b (ZL (Z6 (Zr e) (I.ok.rg x c hfn hc)))).trans e1⟩
  ·obtain⟨o',e1⟩:=I.base.there b o e hx;exact⟨o',(hs.2 b (ZL (Z6 (Zr e) (I.ok.rg x c hfn hc)))).trans e1⟩
  ·by_cases hj:j=i
   ·subst hj;rw[hi]at e1;cases e1;rw[List.getElem?_set_self hiσ]at e2;cases e2;exact⟨u,r,.inr ⟨.inl hk,c,hc,hc'⟩⟩
   ·rw[List.getElem?_set_ne (Ne.symm hj)]at e2;obtain⟨u',r',q⟩:=hl j y v' e1 e2 e3;refine⟨u',r',?_⟩;rcases q with q|⟨k,c',e,z'⟩
    ·exact .inl q
    ·refine .inr ⟨k,c',e,z'.sameBut hs ?_⟩;rintro rfl;exact hj (Q4w hN e1 (I.ok.inj _ _ _ e hc ▸ hi))
  ·by_cases hcc:c'=c
   ·subst hcc;exact⟨_,hc'⟩
   ·obtain⟨w2,z2⟩:=I.cell y c' e;exact⟨w2,z2.sameBut hs hcc⟩
  ·obtain⟨e,n,ne,nf,d⟩:=I.pin p hp;refine⟨(hs.2 p.1 ?_).trans e,n,ne,nf,d⟩;intro q;rw[q,hoc]at e;have q':oc=p.2:=Z3 e;exact d w' (by rw[<- q'];exact hocd)
theorem Q4x{E:Value->Shared->Prop}{Q:Unit->Shared->Prop}(I:Inv X pins σ H s)(hN:X.N.Nodup)(hi:X.N[i]?=some x)(hx:Loc X.env.scope x)(r:RelV v u)
  (h:∀s',Inv X pins (σ.set i (some v)) H s'->Q () s') (hf:X.fn x=true\/X.env.scope.names.lookup x=some .local:=by first|exact .inl rfl|exact .inr rfl|assumption):wpAny M A (storeName X.env x u) Q E s:=
 Q3c I hN hi hx r (λs' I' _=>h s' I') hf
theorem Inv.q8(I:Inv X pins σ H s)(ho:s'.os=s.os)(u:Un (iK X.stack) ch H H' s.heap s'.heap)(av:cM X.prog X.w H' s'.heap)(hg:AllBare s'.gens)
  (hch:∀b∈ch,(b∈X.ex\/X.s₀.heap.objs.size<=b)/\b≠X.env.locals/\(∀x c,X.env.cells.lookup x=some c->c≠b)/\∀p∈X.pn++pins,p.1≠b):Inv X pins σ H' s':=by
 obtain⟨h',g',d',t',o'⟩:=s';have e:o'=s.os:=ho;subst e;exact I.call (g':=g') (t':=t') (d':=d') u av hg hch
end
noncomputable abbrev XK:=Value->Option (Int×Addr)->Hp->Prop
noncomputable abbrev St:=List (Option V)
noncomputable abbrev VK:=V->Hp->Prop
noncomputable abbrev TE:=St->Hp->VK->Prop
noncomputable abbrev TT:=St->Hp->(Bool->Hp->Prop)->Prop
noncomputable abbrev TA:=St->Hp->(List V->Hp->Prop)->Prop
structure Ends where
 nx:St->Hp->Prop
 rt:VK
 bk:St->Hp->Prop:=λ_ _=>False
 ct:St->Hp->Prop:=λ_ _=>False
noncomputable abbrev TS:=Ends->St->Hp->Prop
inductive EP(X:Cx)(pins:List (Addr×Obj))(σ:St)(Q:VK)(u:Value)(s':Shared):Prop
 |mk (v:V) (H':Hp) (I:Inv X pins σ H' s') (r:RelV v u) (q:Q v H')
def TP(X:Cx)(pins:List (Addr×Obj))(σ:St)(Q:Bool->Hp->Prop)(b:Bool)(s':Shared):Prop:=∃H',Inv X pins σ H' s'/\Q b H'
inductive AP(X:Cx)(pins:List (Addr×Obj))(σ:St)(Q:List V->Hp->Prop)(us:List Value)(s':Shared):Prop
 |mk (vs:List V) (H':Hp) (I:Inv X pins σ H' s') (r:Vals vs us) (q:Q vs H')
def SP(X:Cx)(pins:List (Addr×Obj))(D:Ends)(f:Flow)(s':Shared):Prop:=
 match f with
 |.next=>∃σ' H',Inv X pins σ' H' s'/\D.nx σ' H'
 |.brk=>∃σ' H',Inv X pins σ' H' s'/\D.bk σ' H'
 |.cont=>∃σ' H',Inv X pins σ' H' s'/\D.ct σ' H'
 |.ret u=>∃v σ' H',Inv X pins σ' H' s'/\RelV v u/\D.rt v H'
def PE(X:Cx)(e:Expr)(t:TE):Prop:=
 ∀(pins:List (Addr×Obj)) (s:Shared) (σ:St) (H:Hp) (Q:VK),Inv X pins σ H s->t σ H Q->wpAny (model X.prog X.w) X.A (eval e X.env) (EP X pins σ Q) X.xe s
def PT(X:Cx)(e:Expr)(t:TT):Prop:=
 ∀(pins:List (Addr×Obj)) (s:Shared) (σ:St) (H:Hp) (Q:Bool->Hp->Prop),Inv X pins σ H s->t σ H Q->wpAny (model X.prog X.w) X.A (isTrue e X.env (eval e X.env)) (TP X pins σ Q) X.xe s
def PW(X:Cx)(e:Expr)(t:TT):Prop:=
 ∀(whole:Sem Value) (pins:List (Addr×Obj)) (s:Shared) (σ:St) (H:Hp) (Q:Bool->Hp->Prop),Inv X pins σ H s->t σ H Q->wpAny (model X.prog X.w) X.A (isTrue e X.env whole) (TP X pins σ Q) X.xe s
theorem PW.pt(h:PW X e t):PT X e t:=h _
def PA(X:Cx)(es:List Expr)(t:TA):Prop:=
 ∀(pos:Pos) (pins:List (Addr×Obj)) (s:Shared) (σ:St) (H:Hp) (Q:List V->Hp->Prop),Inv X pins σ H s->t σ H Q->wpAny (model X.prog X.w) X.A (spliced (backTo pos (starEach es X.env))) (AP X pins σ Q) X.xe s
def PS(X:Cx)(st:Stmt)(t:TS):Prop:=
 ∀(pins:List (Addr×Obj)) (s:Shared) (σ:St) (H:Hp) (D:Ends),Inv X pins σ H s->t D σ H->wpAny (model X.prog X.w) X.A (exec st X.env) (SP X pins D) X.xe s
def gN(X:Cx)(st:List Stmt)(t:TS):Prop:=
 ∀(pins:List (Addr×Obj)) (s:Shared) (σ:St) (H:Hp) (D:Ends),Inv X pins σ H s->t D σ H->wpAny (model X.prog X.w) X.A (execs st X.env) (SP X pins D) X.xe s
theorem aE{α:Type}{t:Sem α}{Q Q':α->Shared->Prop}{M:Model}{A:Around}{E:Value->Shared->Prop}{s:Shared}(h:wpAny M A t Q E s)(hQ:∀a s,Q a s->Q' a s):wpAny M A t Q' E s:=Yd h hQ λ_ _ x=>x
section
variable{X:Cx}
theorem bin{a b:Expr}{ta tb:TE}(ha:PE X a ta)(hb:PE X b tb){pins:List (Addr×Obj)}{s:Shared}{σ:St}{H:Hp}{R:V->V->Hp->Prop}(I:Inv X pins σ H s)(h:ta σ H λx H1=>tb σ H1 λy H2=>R x y H2)
  {α:Type}{Q:α->Shared->Prop}{f:Value->Value->Sem α}
  (hf:∀v u s2 x y H2,Inv X pins σ H2 s2->RelV x v->RelV y u->R x y H2->wpAny (model X.prog X.w) X.A (f v u) Q X.xe s2) :
  wpAny (model X.prog X.w) X.A (eval a X.env) (λv s₁=>wpAny (model X.prog X.w) X.A (eval b X.env) (λu s₂=>wpAny (model X.prog X.w) X.A (f v u) Q X.xe s₂) X.xe s₁) X.xe s:=by
 refine aE (ha pins s σ H _ I h) λv s1 ⟨x,H1,I1,r1,q1⟩=>?_;refine aE (hb pins s1 σ H1 _ I1 q1) λu s2 ⟨y,H2,I2,r2,q2⟩=>?_;exact hf v u s2 x y H2 I2 r1 r2 q2
def pC(i:Nat):TE:=λσ H Q=>∃v,σ[i]?=some (some v)/\Q v H
def tC(v:V):TE:=λ_ H Q=>Q v H
theorem Q9y(hN:X.N[i]?=some x)(hv:rA X.env.scope x)(hd:(x==("__debug__":Str))=false:=by decide)(hcd:(x==("__classdict__":Str))=false:=by decide):PE X (.Name x pos) (pC i):=by
 intro pins s σ H Q I h;obtain⟨v,e,h⟩:=h;obtain⟨m,hn,hl⟩:=I.loc;obtain⟨u,r,l⟩:=hl i x v hN e hv;have fin:EP X pins σ Q u s:=⟨v,H,I,r,h⟩;rcases l with ⟨hk,hm⟩|⟨hk,c,hc,hcell⟩
 ·exact wpAny_Name (wpAny_loadName_local I.ok.kind hk hn hm fin) hd
 ·rcases hk with hk|hk
  ·exact wpAny_Name (wpAny_loadName_cell I.ok.kind hk hc hcell fin) hd
  ·exact wpAny_Name (wpAny_loadName_free I.ok.kind hk hc hcell fin hcd) hd
theorem QbN{i j pos}:PE X (.Constant (.int i) j pos) (tC (.int i)):=λ_ _ _ H _ I h=>wpAny_Constant_int ⟨.int i,H,I.tok _,⟨_,rfl⟩,h⟩
theorem qp{b j pos}:PE X (.Constant (.bool b) j pos) (tC (.bl b)):=λ_ _ _ H _ I h=>Constant_bool ⟨.bl b,H,I,rfl,h⟩
theorem QbO{j pos}:PE X (.Constant .none j pos) (tC .non):=λ_ _ _ H _ I h=>Constant_none ⟨.non,H,I,rfl,h⟩
theorem QbP{x j pos}:PE X (.Constant (.str x) j pos) (tC (.str x)):=λ_ _ _ H _ I h=>Calls.Constant_str ⟨.str x,H,I.tok _,⟨_,rfl⟩,h⟩
def Gl(X:Cx)(x:Str):Prop:=X.env.kindOf x=some .globalImplicit
theorem Q2F{E:Value->Shared->Prop}{Q:Value->Shared->Prop}(I:Inv X pins σ H s)(hg:Gl X x)(hm:X.mg x=some u)(h:Q u s)
  (hd:(x==("__debug__":Str))=false:=by decide):wpAny (model X.prog X.w) X.A (eval (.Name x pos) X.env) Q E s:=
 Calls.Name_function_global I.ok.kind hg (Calls.loadGlobal_global (by rw[I.ok.glob];exact I.mod.glob.keeps I.bk) hm h) hd
theorem oG{E:Value->Shared->Prop}{Q:Value->Shared->Prop}(I:Inv X pins σ H s)(hg:Gl X x)(hm:X.mg x=none)(hv:bootBuiltins x=some u)(h:Q u s)
  (hn:x ≠ "__name__":=by decide) (hd:(x==("__debug__":Str))=false:=by decide):wpAny (model X.prog X.w) X.A (eval (.Name x pos) X.env) Q E s:=by
 obtain⟨mb,h1,h2⟩:=I.mod.blt;exact Calls.Name_function_global I.ok.kind hg (Calls.loadGlobal_builtin (by rw[I.ok.glob];exact I.mod.glob.keeps I.bk) hm (by rw[I.ok.blt];exact h1.keeps I.bk) ((h2 x hn).trans hv) h) hd
theorem Qa1(hg:Gl X x)(hm:X.mg x=some u)(r:RelV v u)(hd:(x==("__debug__":Str))=false:=by decide):PE X (.Name x pos) (tC v):=
 λ_ _ _ H _ I h=>Q2F I hg hm ⟨v,H,I,r,h⟩ hd
theorem Qa2(hg:Gl X x)(hm:X.mg x=none)(hv:bootBuiltins x=some u)(r:RelV v u)(hn:x ≠ "__name__":=by decide)(hd:(x==("__debug__":Str))=false:=by decide):PE X (.Name x pos) (tC v):=
 λ_ _ _ H _ I h=>oG I hg hm hv ⟨v,H,I,r,h⟩ hn hd
variable{a b:Expr}{ta tb:TE}{pos:Pos}
def tB(t:TE):TT:=λσ H Q=>t σ H λx H1=>∃c,x=.bl c/\Q c H1
theorem QbQ{e:Expr}{t:TE}(h:PE X e t)(he:∀whole,isTrue e X.env whole=(do let v <- whole;standAt e.pos;holding [v] (truthy v)):=by intro _;rfl):PT X e (tB t):=by
 intro pins s σ H Q I hw;refine isTrue_plain (aE (h pins s σ H _ I hw) λv s1 ⟨x,H1,I1,r1,q1⟩=>?_) (he _);obtain⟨d,rfl,q⟩:=q1;cases r1;exact wpAny_truthy_bool ⟨H1,I1,q⟩
variable{tA tB':TT}{rest:List Expr}
def tAnd(t u:TT):TT:=λσ H Q=>t σ H λc H1=>if c=true then u σ H1 Q else Q false H1
def tOr(t u:TT):TT:=λσ H Q=>t σ H λc H1=>if c=true then Q true H1 else u σ H1 Q
def tNot(t:TT):TT:=λσ H Q=>t σ H λc H1=>Q (!c) H1
theorem Qa3(ha:PT X a tA):PW X (.BoolOp .And [a] pos) tA:=by
 intro wh pins s σ H Q I h;refine isTrue_and (aE (ha pins s σ H Q I h) λc s1 e=>?_);cases c with
 |true=>exact isTrue_and_nil e
 |false=>exact e
theorem QbR(ha:PT X a tA):PW X (.BoolOp .Or [a] pos) tA:=by
 intro wh pins s σ H Q I h;refine isTrue_or (aE (ha pins s σ H Q I h) λc s1 e=>?_);cases c with
 |false=>exact isTrue_or_nil e
 |true=>exact e
theorem QbS(ha:PT X a tA)(hb:PW X (.BoolOp .And (b::rest) pos) tB'):PW X (.BoolOp .And (a::b::rest) pos) (tAnd tA tB'):=by
 intro wh pins s σ H Q I h;refine isTrue_and (aE (ha pins s σ H _ I h) λc s1 ⟨H1,I1,q1⟩=>?_);cases c with
 |true=>exact hb wh pins s1 σ H1 Q I1 q1
 |false=>exact⟨H1,I1,q1⟩
theorem p6(ha:PT X a tA)(hb:PW X (.BoolOp .Or (b::rest) pos) tB'):PW X (.BoolOp .Or (a::b::rest) pos) (tOr tA tB'):=by
 intro wh pins s σ H Q I h;refine isTrue_or (aE (ha pins s σ H _ I h) λc s1 ⟨H1,I1,q1⟩=>?_);cases c with
 |true=>exact⟨H1,I1,q1⟩
 |false=>exact hb wh pins s1 σ H1 Q I1 q1
theorem QbT(ha:PT X a tA):PT X (.UnaryOp .Not a pos) (tNot tA):=by
 intro pins s σ H Q I h;exact isTrue_not (ha pins s σ H (λc H1=>Q (!c) H1) I h)
def pP(ta tb:TE):TE:=λσ H Q=>ta σ H λx H1=>∃c,x=.bl c/\if c=true then tb σ H1 Q else Q (.bl false) H1
def tOrV(ta tb:TE):TE:=λσ H Q=>ta σ H λx H1=>∃c,x=.bl c/\if c=true then Q (.bl true) H1 else tb σ H1 Q
def pH(ta:TE):TE:=λσ H Q=>ta σ H λx H1=>∃c,x=.bl c/\Q (.bl (!c)) H1
theorem QbU{op}(h:PE X a t):PE X (.BoolOp op [a] pos) t:=λpins s σ H Q I hw=>BoolOp_one (h pins s σ H Q I hw)
theorem QbV(ha:PE X a ta)(hb:PE X (.BoolOp .And (b::rest) pos) tb):PE X (.BoolOp .And (a::b::rest) pos) (pP ta tb):=by
 intro pins s σ H Q I h;refine BoolOp_and (aE (ha pins s σ H _ I h) λv s1 ⟨x,H1,I1,r1,q1⟩=>?_);obtain⟨c,rfl,q1⟩:=q1;cases r1;refine wpAny_truthy_bool ?_;cases c with
 |true=>exact hb pins s1 σ H1 Q I1 q1
 |false=>exact⟨.bl false,H1,I1,rfl,q1⟩
theorem qi(ha:PE X a ta)(hb:PE X (.BoolOp .Or (b::rest) pos) tb):PE X (.BoolOp .Or (a::b::rest) pos) (tOrV ta tb):=by
 intro pins s σ H Q I h;refine BoolOp_or (aE (ha pins s σ H _ I h) λv s1 ⟨x,H1,I1,r1,q1⟩=>?_);obtain⟨c,rfl,q1⟩:=q1;cases r1;refine wpAny_truthy_bool ?_;cases c with
 |false=>exact hb pins s1 σ H1 Q I1 q1
 |true=>exact⟨.bl true,H1,I1,rfl,q1⟩
theorem QbW(ha:PE X a ta):PE X (.UnaryOp .Not a pos) (pH ta):=by
 intro pins s σ H Q I h;refine UnaryOp_ (aE (ha pins s σ H _ I h) λv s1 ⟨x,H1,I1,r1,q1⟩=>?_);obtain⟨c,rfl,q1⟩:=q1;cases r1;exact not_of (wpAny_truthy_bool ⟨.bl (!c),H1,I1,rfl,q1⟩)
def tIf(t:TT)(ta tb:TE):TE:=λσ H Q=>t σ H λc H1=>if c=true then ta σ H1 Q else tb σ H1 Q
theorem Q7L{c:Expr}(hc:PT X c tA)(ha:PE X a ta)(hb:PE X b tb):PE X (.IfExp c a b pos) (tIf tA ta tb):=by
 intro pins s σ H Q I h;refine wpAny_IfExp (aE (hc pins s σ H _ I h) λd s1 ⟨H1,I1,q1⟩=>?_);cases d with
 |true=>exact ha pins s1 σ H1 Q I1 q1
 |false=>exact hb pins s1 σ H1 Q I1 q1
end
def cB(K:Frag)(H:Hp)(a:Addr)(xs:List V):Prop:=
 Rd H a (.lst xs) \/
  ∃(o:Obj) (its:Array Value) (n:Nat),K.lookup a=some o/\o.cls=.type "list" /\ o.dict=none/\o.data=.seq its n/\its.size<=sizeLine/\Vals xs its.toList
def eQ(K:Frag)(H:Hp)(a:Addr)(xs:List V):Prop:=
 Rd H a (.tup xs) \/
  ∃(o:Obj) (its:Array Value) (n:Nat),K.lookup a=some o/\o.cls=.type "tuple" /\ o.data=.seq its n/\its.size<=sizeLine/\Vals xs its.toList
noncomputable def absV:Value->Option V
 |.none=>some .non
 |.bool b=>some (.bl b)
 |.int i _=>some (.int i)
 |.str x _=>some (.str x)
 |.bytes b _=>some (.byt b)
 |.float b _=>some (.nD b)
 |.ref a=>some (.ref a)
 |.type n=>some (.ty n)
 |_=>none
theorem RelV.abs(r:RelV x u):absV u=some x:=by
 cases x with
 |non=>cases r;rfl
 |bl _=>cases r;rfl
 |int _=>obtain⟨t,rfl⟩:=r;rfl
 |str _=>obtain⟨t,rfl⟩:=r;rfl
 |byt _=>obtain⟨t,rfl⟩:=r;rfl
 |nD _=>obtain⟨t,rfl⟩:=r;rfl
 |ref _=>cases r;rfl
 |ty _=>cases r;rfl
theorem RelV.inj(r:RelV x u)(q:RelV y u):x=y:=Z3 (r.abs.symm.trans q.abs)
theorem Vals.inj:∀{xs ys:List V}{us:List Value},Vals xs us->Vals ys us->xs=ys
 |_,_,_,.nil,.nil=>rfl
 |_,_,_,.cons r t,.cons r' t'=>by rw[r.inj r',Vals.inj t t']
section
variable{X:Cx}{pins:List (Addr×Obj)}{σ:St}{H:Hp}{s:Shared}{a:Addr}{xs ys:List V}
theorem cB.of{K:Frag}(h:H a=some (.lst xs)):cB K H a xs:=.inl (.inl h)
theorem eQ.of{K:Frag}(h:H a=some (.tup xs)):eQ K H a xs:=.inl (.inl h)
theorem Inv.list(I:Inv X pins σ H s)(h:cB X.K H a xs):∃its:List Value,Vals xs its/\PlainL s.heap a its.toArray/\xs.length<=sizeLine:=by
 rcases h with h|⟨o,its,n,hk,hc,hd,hs,hz,r⟩
 ·obtain⟨z,its,n,r,e⟩:=h.ok I.av;exact⟨its,r,⟨_,n,e,rfl,rfl,rfl⟩,z⟩
 ·refine⟨its.toList,r,⟨o,n,I.cX a o hk,hc,hd,by simpa using hs⟩,?_⟩
  have e:=r.length;erw[ZE]at e;room
theorem Inv.tuple(I:Inv X pins σ H s)(h:eQ X.K H a xs):∃its:List Value,Vals xs its/\IsTup s.heap a its.toArray/\xs.length<=sizeLine:=by
 rcases h with h|⟨o,its,n,hk,hc,hs,hz,r⟩
 ·obtain⟨z,its,r,p⟩:=h.ok I.av;exact⟨its,r,p,z⟩
 ·refine⟨its.toList,r,⟨o,I.cX a o hk,hc,n,by simpa using hs⟩,?_⟩
  have e:=r.length;erw[ZE]at e;room
theorem Inv.fQ(I:Inv X pins σ H s)(h:cB X.K H a xs)(h':cB X.K H a ys):xs=ys:=by
 obtain⟨its,r,⟨o,n,e,_,_,d⟩,_⟩:=I.list h;obtain⟨its',r',⟨o',n',e',_,_,d'⟩,_⟩:=I.list h';rw[e]at e';cases e';rw[d]at d';injection d' with d1 _;have:its=its':=by simpa using congrArg Array.toList d1
 subst this;exact r.inj r'
theorem Inv.ij(I:Inv X pins σ H s)(h:eQ X.K H a xs)(h':eQ X.K H a ys):xs=ys:=by
 obtain⟨its,r,⟨o,e,_,n,d⟩,_⟩:=I.tuple h;obtain⟨its',r',⟨o',e',_,n',d'⟩,_⟩:=I.tuple h';rw[e]at e';cases e';rw[d]at d';injection d' with d1 _;have:its=its':=by simpa using congrArg Array.toList d1
 subst this;exact r.inj r'
end
noncomputable abbrev Cx.dU(X:Cx)(E:Value->Shared->Prop):Cx:={X with xe:=E}
noncomputable abbrev Cx.nox(X:Cx):Cx:=X.dU λ_ _=>False
theorem Cx.Ok.dU{X:Cx}(ok:X.Ok)(E:Value->Shared->Prop):(X.dU E).Ok:=
 ⟨ok.mod,ok.kind,ok.glob,ok.blt,ok.above,ok.inj,ok.has,ok.rg,ok.hd,ok.frames,ok.stk,ok.oB,ok.bs,ok.jI,ok.ji,ok.iu,ok.dj,ok.lY⟩
theorem Cx.Ok.bP{X:Cx}{E:Value->Shared->Prop}(ok:(X.dU E).Ok):X.Ok:=
 ⟨ok.mod,ok.kind,ok.glob,ok.blt,ok.above,ok.inj,ok.has,ok.rg,ok.hd,ok.frames,ok.stk,ok.oB,ok.bs,ok.jI,ok.ji,ok.iu,ok.dj,ok.lY⟩
section
variable{X:Cx}{pins:List (Addr×Obj)}{σ:St}{H:Hp}{s:Shared}{E:Value->Shared->Prop}
theorem Inv.dU(I:Inv X pins σ H s)(E:Value->Shared->Prop):Inv (X.dU E) pins σ H s:=⟨I.ok.dU E,I.os,I.bare,I.base,I.loc,I.cell,I.free,I.bW,I.pin,I.av,I.len⟩
theorem Inv.bP(I:Inv (X.dU E) pins σ H s):Inv X pins σ H s:=⟨I.ok.bP,I.os,I.bare,I.base,I.loc,I.cell,I.free,I.bW,I.pin,I.av,I.len⟩
theorem SP.bP(h:SP (X.dU E) pins D f s'):SP X pins D f s':=by
 cases f with
 |next=>obtain⟨σ',H',I,q⟩:=h;exact⟨σ',H',I.bP,q⟩
 |brk=>obtain⟨σ',H',I,q⟩:=h;exact⟨σ',H',I.bP,q⟩
 |cont=>obtain⟨σ',H',I,q⟩:=h;exact⟨σ',H',I.bP,q⟩
 |ret u=>obtain⟨v,σ',H',I,r,q⟩:=h;exact⟨v,σ',H',I.bP,r,q⟩
theorem gN.nox{st:List Stmt}{t:TS}(h:gN X.nox st t):gN X st t:=λpins s σ H D I hw=>
 Yd (h pins s σ H D (I.dU _) hw) (λ_ _ q=>q.bP) λ_ _ z=>False.elim z
end
section
variable{X:Cx}{st:Stmt}{rest:List Stmt}{t u:TS}{e:Expr}{te:TE}{pos:Pos}
def pI:TS:=λD σ H=>D.nx σ H
def tSeq(t u:TS):TS:=λD σ H=>t {D with nx:=u D} σ H
theorem Qa4:gN X [] pI:=λ_ _ σ H _ I h=>wpAny_execs_nil ⟨σ,H,I,h⟩
theorem Q7M(h1:PS X st t)(h2:gN X rest u):gN X (st::rest) (tSeq t u):=by
 intro pins s σ H D I h;refine wpAny_execs_cons (aE (h1 pins s σ H {D with nx:=u D} I h) λf s1 q=>?_);cases f with
 |next=>
  obtain⟨σ',H',I',q⟩:=q;exact h2 pins s1 σ' H' D I' q
 |ret v=>exact q
 |brk=>exact q
 |cont=>exact q
theorem Inv.quiet(I:Inv X pins σ H s):interactive X.env=false:=by simp[interactive,I.ok.kind]
def pM(te:TE):TS:=λD σ H=>te σ H λ_ H1=>D.nx σ H1
theorem Qa5(he:PE X e te)(hs:swapsWith e none pos.line X.env=pure false:=by rfl):PS X (.Expr e pos) (pM te):=by
 intro pins s σ H D I h;exact wpAny_Expr_any (aE (he pins s σ H _ I h) λv s1 ⟨x,H1,I1,r1,q1⟩=>⟨σ,H1,I1,q1⟩) I.quiet hs
def tRet(te:TE):TS:=λD σ H=>te σ H D.rt
theorem QbX(he:PE X e te):PS X (.Return (some e) pos) (tRet te):=by
 intro pins s σ H D I h;exact wpAny_Return_some (aE (he pins s σ H _ I h) λv s1 ⟨x,H1,I1,r1,q1⟩=>⟨x,σ,H1,I1,r1,q1⟩)
def pE:TS:=λD _ H=>D.rt .non H
theorem Qa6:PS X (.Return none pos) pE:=λ_ _ σ H _ I h=>wpAny_Return_none ⟨.non,σ,H,I,rfl,h⟩
def tIfS(c:TT)(t u:TS):TS:=λD σ H=>c σ H λb H1=>if b=true then t D σ H1 else u D σ H1
theorem qd{c:Expr}{a b:List Stmt}{tc:TT}(hc:PT X c tc)(ha:gN X a t)(hb:gN X b u):PS X (.If c a b pos) (tIfS tc t u):=by
 intro pins s σ H D I h;refine wpAny_If (aE (hc pins s σ H _ I h) λd s1 ⟨H1,I1,q1⟩=>?_);cases d with
 |true=>exact ha pins s1 σ H1 D I1 q1
 |false=>exact hb pins s1 σ H1 D I1 q1
end
noncomputable abbrev TG:=V->St->Hp->(St->Hp->Prop)->Prop
noncomputable abbrev oE:=List V->St->Hp->(St->Hp->Prop)->Prop
def PG(X:Cx)(target:Expr)(t:TG):Prop:=
 ∀(pins:List (Addr×Obj)) (s:Shared) (σ:St) (H:Hp) (v:V) (u:Value) (Q:St->Hp->Prop),Inv X pins σ H s->RelV v u->t v σ H Q ->
  wpAny (model X.prog X.w) X.A (assign target X.env u) (λ_ s'=>∃σ' H',Inv X pins σ' H' s'/\Q σ' H') X.xe s
def PGs(X:Cx)(ts:List Expr)(t:oE):Prop:=
 ∀(pins:List (Addr×Obj)) (s:Shared) (σ:St) (H:Hp) (vs:List V) (us:List Value) (Q:St->Hp->Prop),Inv X pins σ H s->Vals vs us->t vs σ H Q ->
  wpAny (model X.prog X.w) X.A (assignInOrder ((assignEach ts X.env).map (·.2)) us) (λ_ s'=>∃σ' H',Inv X pins σ' H' s'/\Q σ' H') X.xe s
section
variable{X:Cx}{pos:Pos}
def jG(i:Nat):TG:=λv σ H Q=>Q (σ.set i (some v)) H
theorem Q6c(hN:X.N.Nodup)(hi:X.N[i]?=some x)(hx:Loc X.env.scope x)(hf:X.fn x=true\/X.env.scope.names.lookup x=some .local:=by first|exact .inl rfl|exact .inr rfl|assumption):PG X (.Name x pos) (jG i):=by
 intro pins s σ H v u Q I r h;exact wpAny_assign_Name (Q4x I hN hi hx r (λs' I'=>⟨_,H,I',h⟩) hf)
def nB:oE:=λvs σ H Q=>vs=[]/\Q σ H
def oX(t:TG)(u:oE):oE:=λvs σ H Q=>∃v r,vs=v::r/\t v σ H λσ' H'=>u r σ' H' Q
theorem Qa7:PGs X [] nB:=by
 intro pins s σ H vs us Q I r h;obtain⟨e,h⟩:=h;subst e;cases r;exact assignInOrder_nil ⟨σ,H,I,h⟩
theorem Q4y{e:Expr}{es:List Expr}{t:TG}{u:oE}(h1:PG X e t)(h2:PGs X es u)
  (hs:(assignEach (e::es) X.env).map (·.2)=assign e X.env::(assignEach es X.env).map (·.2):=by rfl):PGs X (e::es) (oX t u):=by
 intro pins s σ H vs us Q I r h;obtain⟨v,vr,e1,h⟩:=h;subst e1;cases r with
 |cons r rr=>
  rw[hs];refine assignInOrder_cons (aE (h1 pins s σ H _ _ _ I r h) λ_ s1 ⟨σ1,H1,I1,q1⟩=>?_);exact h2 pins s1 σ1 H1 _ _ Q I1 rr q1
def nA(K:Frag)(n:Nat)(t:oE):TG:=λv σ H Q=>∃a xs,v=.ref a/\eQ K H a xs/\xs.length=n/\t xs σ H Q
theorem QbY(hc:X.calm=true)(h:PGs X es t)
  (hn:(assignEach es X.env).length=n:=by rfl) (hst:(assignEach es X.env).findIdx? (·.1)=none:=by rfl):PG X (.Tuple es k pos) (nA X.K n t):=by
 intro pins s σ H v u Q I r hw;obtain⟨a,xs,e1,hq,hl,hw⟩:=hw;subst e1;cases r;obtain⟨its,rv,ht,hz⟩:=I.tuple hq;refine assign_Tuple_tuple (I.ok.hd hc) ht (by simp[hn,<- hl,rv.length]) hst λh' hx=>?_
 have I1:Inv X pins σ H {s with heap:=h'}:=I.kept (t':=s.toks) λb o e=>hx b o (ZL (Zr e)) e;exact h pins _ σ H xs _ Q I1 (by simpa using rv) hw
def j0(te:TE)(g:TG):TS:=λD σ H=>te σ H λx H1=>g x σ H1 D.nx
theorem QbZ{i:Nat}{x:Str}{e:Expr}{te:TE}{pos':Pos}(hN:X.N.Nodup)(hi:X.N[i]?=some x)(hx:Loc X.env.scope x)(he:PE X e te)(hs:swapsWith e (some (.Name x pos')) pos.line X.env=pure false:=by rfl)(hf:X.fn x=true\/X.env.scope.names.lookup x=some .local:=by first|exact .inl rfl|exact .inr rfl|assumption) :
  PS X (.Assign [.Name x pos'] e pos) (j0 te (jG i)):=by
 intro pins s σ H D I h;refine wpAny_Assign_Name (aE (he pins s σ H _ I h) λv s1 ⟨y,H1,I1,r1,q1⟩=>?_) hs;exact Q4x I1 hN hi hx r1 (λs2 I2=>⟨_,H1,I2,q1⟩) hf
end
section
variable{X:Cx}{pos:Pos}
def mL(c:TT)(tb:TS):TS:=λD σ H=>∃W:Nat->St->Hp->Prop,(∃m,W m σ H)/\∀m σ H,W m σ H ->
 c σ H λb H1=>if b=true then ∃N:St->Hp->Prop,(∀σ' H',N σ' H'->∃m',m'<m/\W m' σ' H')/\tb {D with nx:=N,ct:=N,bk:=D.nx} σ H1 else D.nx σ H1
theorem Q7N{c:Expr}{body:List Stmt}{tc:TT}{tb:TS}(hp:PassesOwn (model X.prog X.w) X.A X.env X.xe)(hc:PT X c tc)(hb:gN X body tb):PS X (.While c body [] pos) (mL tc tb):=by
 intro pins s σ H D I h;obtain⟨W,⟨m0,w0⟩,turn⟩:=h;refine wpAny_While (codeAny_whileLoop (λn s'=>∃σ' H',Inv X pins σ' H' s'/\W n σ' H') ?_ m0 ⟨σ,H,I,w0⟩);rintro n s1 ⟨σ1,H1,I1,w1⟩;refine wpAny_passesOwn hp (aE (hc pins s1 σ1 H1 _ I1 (turn n σ1 H1 w1)) λb s2 ⟨H2,I2,q2⟩=>?_);cases b with
 |true=>
  obtain⟨N,hN,q2⟩:=q2;rw[Zg rfl];refine wpAny_passesOwn hp (aE (hb pins s2 σ1 H2 _ I2 q2) λf s3 q3=>?_);cases f with
  |next=>
   obtain⟨σ3,H3,I3,n3⟩:=q3;obtain⟨m',hm,w3⟩:=hN σ3 H3 n3;exact⟨m',hm,σ3,H3,I3,w3⟩
  |cont=>
   obtain⟨σ3,H3,I3,n3⟩:=q3;obtain⟨m',hm,w3⟩:=hN σ3 H3 n3;exact⟨m',hm,σ3,H3,I3,w3⟩
  |brk=>exact q3
  |ret v=>exact q3
 |false=>
  rw[Zd Z0];exact wpAny_execs_nil ⟨σ1,H2,I2,q2⟩
end
structure It where
 go:Nat->Hp->Prop
 gi:Nat->Hp->V->Hp->Prop
 stop:Nat->Hp->Prop
def bC(X:Cx)(pins:List (Addr×Obj))(H:Hp)(b:Addr):Prop:=
 H b=none/\b≠X.env.locals/\b∉X.fs/\(b∈X.ex\/X.s₀.heap.objs.size<=b)/\(∀x c,X.env.cells.lookup x=some c->c≠b)/\∀p∈X.pn++pins,p.1≠b
theorem Inv.fH(I:Inv X pins σ H s)(hb:s.heap.objs.size<=b)(hn:H' b=none):bC X pins H' b:=by
 refine⟨hn,ne_of_gt (Z6 I.lt hb),I.m5 hb,.inr (ZF I.sz hb),λx c e z=>?_,λp hp z=>?_⟩
 ·obtain⟨v,q⟩:=I.cell x c e;exact absurd (Z6 q.lt (by rw[z];exact hb)) (lt_irrefl _)
 ·exact absurd (Z6 (Zr (I.pin p hp).1) (by rw[z];exact hb)) (lt_irrefl _)
structure Turn(P:Program)(w:World)(K:Frag)(tg:Expr)(J:It)(fp:List Addr)(it:Addr)(tn:Nat->Heap->Prop):Prop where
 mem:it∈fp
 obj:∀i h,tn i h->∀b∈fp,∃o,h.get? b=some o/\∀v,o.data≠.cell v
 keep:∀i h h',tn i h->(∀b∈fp,∀o,h.get? b=some o->h'.get? b=some o)->tn i h'
 item:∀(X:Cx),X.prog=P->X.w=w->X.K=K->X.calm=true->∀(i:Nat) (pins:List (Addr×Obj)) (s:Shared) (σ:St) (H:Hp) (E:Value->Shared->Prop),Inv X pins σ H s->(∀b∈fp,bC X pins H b)->tn i s.heap->J.go i H ->
  wpAny (model P w) X.A (pyNext (.ref it)) (λr s1=>∃u,r=some u /\
   wpAny (model P w) X.A (letOwnedTupleGo tg (.ref it) u) (λ_ s2=>∃x H',Inv X pins σ H' s2/\RelV x u/\J.gi i H x H'/\tn (i+1) s2.heap/\∀b∈fp,H' b=none) E s1) E s
 done:∀(X:Cx),X.prog=P->X.w=w->X.K=K->X.calm=true->∀(i:Nat) (pins:List (Addr×Obj)) (s:Shared) (σ:St) (H:Hp) (E:Value->Shared->Prop),Inv X pins σ H s->(∀b∈fp,bC X pins H b)->tn i s.heap->J.stop i H ->
  wpAny (model P w) X.A (pyNext (.ref it)) (λr s1=>r=none/\Inv X pins σ H s1) E s
 self:∀(A:Around) (i:Nat) (s:Shared) (Q:Value->Shared->Prop) (E:Value->Shared->Prop),tn i s.heap->Q (.ref it) s->wpAny (model P w) A (pyIter (.ref it)) Q E s
noncomputable abbrev TI:=St->Hp->(It->Hp->Prop)->Prop
def PIE(X:Cx)(pins:List (Addr×Obj))(σ:St)(tg:Expr)(R:It->Hp->Prop)(itv:Value)(s2:Shared):Prop:=
 ∃(it:Addr) (fp:List Addr) (tn:Nat->Heap->Prop) (J:It) (H':Hp),itv=.ref it/\Inv X pins σ H' s2/\Turn X.prog X.w X.K tg J fp it tn/\tn 0 s2.heap/\(∀b∈fp,bC X pins H' b)/\R J H'
def PI(X:Cx)(tg iter:Expr)(wi:TI):Prop:=
 ∀(pins:List (Addr×Obj)) (s:Shared) (σ:St) (H:Hp) (R:It->Hp->Prop),Inv X pins σ H s->wi σ H R ->
  wpAny (model X.prog X.w) X.A (eval iter X.env) (λv s1=>wpAny (model X.prog X.w) X.A (pyIter v) (PIE X pins σ tg R) X.xe s1) X.xe s
theorem fS{E:Value->Shared->Prop}{Q:Unit->Shared->Prop}(ho:s.heap.get? it=some o)(hc:o.cls=.type n)(hd:o.data=.fields vs)
  (hn:["enumerate","zip","dict_itemiterator","dict_reverseitemiterator","odict_iterator","itertools.zip_longest","itertools.pairwise"].contains n=false) (hQ:Q () s):wpAny M A (letOwnedTupleGo tg (.ref it) u) Q E s:=by
 unfold letOwnedTupleGo;cases tg<;>first
  |exact Zb hQ
  | (cases u<;>first
    |exact Zb hQ
    | (refine Za (wpAny_load ho ?_)
       rw[hc,hd];show wpAny M A (if (["enumerate","zip","dict_itemiterator","dict_reverseitemiterator","odict_iterator","itertools.zip_longest","itertools.pairwise"].contains n&&vs[0]? == some (rawInt _))=true then _ else _) Q E s
       rw[Zd (by intro h;rw[hn,Bool.false_and]at h;cases h)]
       exact Zb hQ))
noncomputable def Itl(K:Frag)(a:Addr):It:=
 ⟨λi H=>∃xs x,cB K H a xs/\xs[i]?=some x,λi H x H'=>H'=H/\∀xs,cB K H a xs->xs[i]?=some x,λi H=>∃xs,cB K H a xs/\xs.length<=i⟩
noncomputable def Itt(K:Frag)(a:Addr):It:=
 ⟨λi H=>∃xs x,eQ K H a xs/\xs[i]?=some x,λi H x H'=>H'=H/\∀xs,eQ K H a xs->xs[i]?=some x,λi H=>∃xs,eQ K H a xs/\xs.length<=i⟩
noncomputable def Itr(lo:Int)(n:Nat):It:=⟨λi _=>i<n,λi H x H'=>H'=H/\x=.int (lo+i),λi _=>n<=i⟩
theorem Q6d{P:Program}{w:World}{K:Frag}{tg:Expr}(a it:Addr):Turn P w K tg (Itl K a) [it] it (λi h=>h.IsListIter it a i) where
 mem:=by simp
 obj:=λi h st b hb=>by
  have e:b=it:=by simpa using hb
  subst e;obtain⟨o,e,c,d⟩:=st;exact⟨o,e,λv z=>by rw[d]at z;cases z⟩
 keep:=λi h h' st k=>st.at λo e=>k it (by simp) o e
 item:=by
  intro X hP hw hK hc i pins s σ H E I hf st hg;subst hP hw hK;obtain⟨xs,x,hq,hx⟩:=hg;obtain⟨its,rv,p,hz⟩:=I.list hq;obtain⟨u,hu,ru⟩:=rv.get hx;obtain⟨f0,f1,f2,f3,f4,f5⟩:=hf it (by simp)
  refine wpAny_pyNext_list_item st p.isList (x:=u) (by simpa using hu) λh' st' sb=>?_
  have I1:Inv X pins σ H {s with heap:=h'}:=I.turned (t':=s.toks) (λb o hb e=>(sb.2 b hb).trans e) f0 f1 f3 f4 f5;obtain⟨o,e,c,d⟩:=id st';exact⟨u,rfl,fS (s:={s with heap:=h'}) e c d (by decide) ⟨x,H,I1,ru,⟨rfl,λys hy=>by rw[I.fQ hy hq];exact hx⟩,st',λb hb=>(hf b hb).1⟩⟩
 done:=by
  intro X hP hw hK hc i pins s σ H E I hf st hg;subst hP hw hK;obtain⟨xs,hq,hx⟩:=hg;obtain⟨its,rv,p,hz⟩:=I.list hq;obtain⟨f0,f1,f2,f3,f4,f5⟩:=hf it (by simp)
  have hl:=rv.length;exact wpAny_pyNext_list_end (I.ok.hd hc) st p.isList (by simp;room) λh' eb=>⟨rfl,I.turned (t':=s.toks) (λb o hb e=>eb b o hb e) f0 f1 f3 f4 f5⟩
 self:=λ_ _ _ _ _ st h=>wpAny_pyIter_listiter st h
theorem Q5s{P:Program}{w:World}{K:Frag}{tg:Expr}(a it:Addr):Turn P w K tg (Itt K a) [it] it (λi h=>h.IsTupleIter it a i) where
 mem:=by simp
 obj:=λi h st b hb=>by
  have e:b=it:=by simpa using hb
  subst e;obtain⟨o,e,c,d⟩:=st;exact⟨o,e,λv z=>by rw[d]at z;cases z⟩
 keep:=λi h h' st k=>st.at λo e=>k it (by simp) o e
 item:=by
  intro X hP hw hK hc i pins s σ H E I hf st hg;subst hP hw hK;obtain⟨xs,x,hq,hx⟩:=hg;obtain⟨its,rv,p,hz⟩:=I.tuple hq;obtain⟨u,hu,ru⟩:=rv.get hx;obtain⟨f0,f1,f2,f3,f4,f5⟩:=hf it (by simp)
  refine wpAny_pyNext_tuple_item st (show s.heap.IsTuple a its.toArray from p) (x:=u) (by simpa using hu) λh' st' sb=>?_
  have I1:Inv X pins σ H {s with heap:=h'}:=I.turned (t':=s.toks) (λb o hb e=>(sb.2 b hb).trans e) f0 f1 f3 f4 f5;obtain⟨o,e,c,d⟩:=id st';exact⟨u,rfl,fS (s:={s with heap:=h'}) e c d (by decide) ⟨x,H,I1,ru,⟨rfl,λys hy=>by rw[I.ij hy hq];exact hx⟩,st',λb hb=>(hf b hb).1⟩⟩
 done:=by
  intro X hP hw hK hc i pins s σ H E I hf st hg;subst hP hw hK;obtain⟨xs,hq,hx⟩:=hg;obtain⟨its,rv,p,hz⟩:=I.tuple hq;obtain⟨f0,f1,f2,f3,f4,f5⟩:=hf it (by simp)
  have hl:=rv.length;exact wpAny_pyNext_tuple_end (I.ok.hd hc) st (show s.heap.IsTuple a its.toArray from p) (by simp;room) λh' eb=>⟨rfl,I.turned (t':=s.toks) (λb o hb e=>eb b o hb e) f0 f1 f3 f4 f5⟩
 self:=λ_ _ _ _ _ st h=>wpAny_pyIter_tupleiter st h
theorem Q5t{P:Program}{w:World}{K:Frag}{tg:Expr}(it:Addr)(lo:Int)(n:Nat):Turn P w K tg (Itr lo n) [it] it (λi h=>IsRangeIter h it (lo+(i:Nat) * 1) ((n:Int)-(i:Nat)) 1) where
 mem:=by simp
 obj:=λi h st b hb=>by
  have e:b=it:=by simpa using hb
  subst e;exact⟨_,st,λv z=>by
   have z':Data.fields _=Data.cell v:=z;cases z'⟩
 keep:=λi h h' st k=>k it (by simp) _ st
 item:=by
  intro X hP hw hK hc i pins s σ H E I hf st hg;subst hP hw hK;obtain⟨f0,f1,f2,f3,f4,f5⟩:=hf it (by simp)
  have W:=Walks.range (prog:=X.prog) (w:=X.w) (I.ok.hd hc) it lo 1 n;refine W.item i s _ _ hg st λv h' tk hv st' kk=>?_;obtain⟨t,rfl⟩:=hv;have I1:Inv X pins σ H {s with heap:=h',toks:=tk}:=I.turned (λb o hb e=>kk b o (by simpa using hb) e) f0 f1 f3 f4 f5
  refine⟨_,rfl,fS (s:={s with heap:=h',toks:=tk}) (n:="range_iterator") st' rfl rfl (by decide) ⟨.int (lo+i),H,I1,⟨t,?_⟩,⟨rfl,rfl⟩,st',λb hb=>(hf b hb).1⟩⟩
  rw[Int.mul_one]
 done:=by
  intro X hP hw hK hc i pins s σ H E I hf st hg;subst hP hw hK;obtain⟨f0,f1,f2,f3,f4,f5⟩:=hf it (by simp)
  exact wpAny_pyNext_range_end (I.ok.hd hc) st (by have:n<=i:=hg;room) λh' eb=>⟨rfl,I.turned (t':=s.toks) (λb o hb e=>eb b o hb e) f0 f1 f3 f4 f5⟩
 self:=λ_ _ _ _ _ st h=>wpAny_pyIter_rangeiter st h
section
variable{X:Cx}{tg:Expr}
theorem Q7O{pins:List (Addr×Obj)}{σ:St}{H:Hp}{s:Shared}{R:It->Hp->Prop}{E:Value->Shared->Prop}{lo hi:Int}{t u v:Tok}{tk:Nat}(I:Inv X pins σ H s)(h1:-(2 ^ 62)<=lo)(h2:lo<2 ^ 62)(h3:-(2 ^ 62)<=hi)(h4:hi<2 ^ 62)
  (q:R (Itr lo (hi-lo).toNat) H):wpAny (model X.prog X.w) X.A (pyIter (.ref s.heap.objs.size)) (PIE X pins σ tg R) E {s with heap:=s.heap.push { cls:=.type "range",data:=.fields #[.int lo t,.int hi u,.int 1 v]},toks:=tk}:=by
 refine wpAny_pyIter_range (IsRange.new ..) (small_one h1 h2 h3 h4) ?_;have I1:Inv X pins σ H {s with heap:=s.heap.push { cls:=.type "range",data:=.fields #[.int lo t,.int hi u,.int 1 v]},toks:=tk}:=I.kept λb o e=>Zi _ e;refine⟨(s.heap.push { cls:=.type "range",data:=.fields #[.int lo t,.int hi u,.int 1 v]}).objs.size,[(s.heap.push { cls:=.type "range",data:=.fields #[.int lo t,.int hi u,.int 1 v]}).objs.size],_,_,H,rfl,
  I1.kept (t':=tk) λb o e=>Zi _ e,Q5t _ lo (hi-lo).toNat,?_,λb hb=>?_,q⟩
 ·have e1:lo+((0:Nat):Int) * 1=lo:=by simp
  have e2:(((hi-lo).toNat:Nat):Int)-((0:Nat):Int)=Builtin.Range.rangeSize lo hi 1:=by rw[rangeSize_one];split<;>room
  show IsRangeIter _ _ (lo+((0:Nat):Int) * 1) ((((hi-lo).toNat:Nat):Int)-((0:Nat):Int)) 1;rw[e1,e2];exact Zw _ rfl
 ·have e:b=(s.heap.push { cls:=.type "range",data:=.fields #[.int lo t,.int hi u,.int 1 v]}).objs.size:=by simpa using hb
  subst e;exact I1.fH (Zy _) (I1.av.fresh (Zy _))
def qN(ta:TA):TI:=λσ H R=>ta σ H λvs H1=>∃j:Int,vs=[.int j] /\ -(2 ^ 62)<=j/\j<2 ^ 62/\R (Itr 0 j.toNat) H1
theorem Q6e{a:Expr}{ta:TA}{p pos:Pos}(hg:Gl X "range")(hm:X.mg "range" = none)(ha:PA X [a] ta)(hs:starEach [a] X.env=[(false,eval a X.env)]:=by rfl):PI X tg (.Call (.Name "range" p) [a] [] pos) (qN ta):=by
 intro pins s σ H R I h;refine Call_ (oG I hg hm boot_range (PyProof.Rows.callWith_type1 (aE (ha pos pins s σ H _ I h) λus s1 ⟨vs,H1,I1,r1,q1⟩=>?_) hs rfl));obtain⟨j,e,q1,q2,q⟩:=q1;subst e;cases r1 with
 |cons r rr=>
  cases rr;obtain⟨t,rfl⟩:=r;exact call_range_1 (Q7O I1 (by room) (by room) q1 q2 (by simpa using q))
def tFor(wi:TI)(g:TG)(tb:TS):TS:=λD σ H=>wi σ H λJ H1=>∃W:Nat->Nat->St->Hp->Prop,(∃m,W 0 m σ H1)/\∀i m σ H,W i m σ H ->
 (J.stop i H/\D.nx σ H)\/(J.go i H/\∃N:St->Hp->Prop,(∀σ' H',N σ' H'->∃m',m'<m/\W (i+1) m' σ' H')/\∀x H',J.gi i H x H'->g x σ H' λσ2 H2=>tb {D with nx:=N,ct:=N,bk:=D.nx} σ2 H2)
noncomputable def iV(fp:List Addr)(h:Heap):List (Addr×Obj):=fp.filterMap λb=>(h.get? b).map λo=>(b,o)
theorem r6(hb:b∈fp)(e:h.get? b=some o):(b,o)∈iV fp h:=mem_filterMap.mpr ⟨b,hb,by rw[e];rfl⟩
theorem Q3d(hp:p∈iV fp h):p.1∈fp/\h.get? p.1=some p.2:=by
 obtain⟨b,hb,e⟩:=mem_filterMap.mp hp;cases q:h.get? b with
 |none=>rw[q]at e;cases e
 |some o=>
  rw[q]at e;have e':(b,o)=p:=Z3 e;subst e';exact⟨hb,q⟩
theorem Inv.pinned(I:Inv X pins σ H s)(hf:∀b∈fp,bC X pins H b)(ho:∀b∈fp,∃o,s.heap.get? b=some o/\∀v,o.data≠.cell v):Inv X (pins++iV fp s.heap) σ H s:=
 I.bw λp hp=>(Z1.mp hp).elim (λz=>I.pin p (Zl _ z)) λz=>by
  obtain⟨hb,e⟩:=Q3d z;obtain⟨f0,f1,f2,_⟩:=hf p.1 hb;obtain⟨o,e',d⟩:=ho p.1 hb;rw[e]at e';cases e';exact⟨e,f0,f1,f2,d⟩
theorem Inv.eD(I:Inv X (pins++pl) σ H s):Inv X pins σ H s:=I.bw λp hp=>I.pin p (Zl _ (Z5 _ hp))
theorem Qc0(hp:PassesOwn (model X.prog X.w) X.A X.env X.xe)(hc:X.calm=true)(hi:PI X tg iter wi)(hg:PG X tg g)(hb:gN X body tb)
  (hs:∀x,foldedSetIterable iter X.env x=pure x:=by intro _;rfl):PS X (.For tg iter body [] pos) (tFor wi g tb):=by
 intro pins s σ H D I h;refine wpAny_For (aE (hi pins s σ H _ I h) λv s1 h1=>aE h1 λitv s2 h2=>?_) hs;obtain⟨it,fp,tn,J,H2,e,I2,T,st2,f2,W,⟨m0,w0⟩,turn⟩:=h2;subst e
 -- what stays true of the iterator's objects through the loop
 have stat:∀{H':Hp},(∀b∈fp,H' b=none)->∀b∈fp,bC X pins H' b:=λhn b hb=>⟨hn b hb,(f2 b hb).2⟩;refine codeAny_forLoop_any (λn s'=>∃i σ' H',Inv X pins σ' H' s'/\tn i s'.heap/\(∀b∈fp,H' b=none)/\W i n σ' H') ?_ m0 ⟨0,σ,H2,I2,st2,λb hb=>(f2 b hb).1,w0⟩;rintro n s3 ⟨i,σ3,H3,I3,st3,fr3,w3⟩;rcases turn i n σ3 H3 w3 with ⟨stop,qn⟩|⟨go,N,hN,step⟩
 ·refine wpAny_passesOwn hp (aE (T.done X rfl rfl rfl hc i pins s3 σ3 H3 X.xe I3 (stat fr3) st3 stop) λr s4 ⟨hr,I4⟩=>?_);subst hr;exact wpAny_execs_nil ⟨σ3,H3,I4,qn⟩
 ·refine wpAny_passesOwn hp (aE (T.item X rfl rfl rfl hc i pins s3 σ3 H3 X.xe I3 (stat fr3) st3 go) λr s4 ⟨u,hr,h4⟩=>?_);subst hr;refine wpAny_passesOwn hp (aE h4 λ_ s5 ⟨x,H5,I5,r5,y5,st5,fr5⟩=>?_);have I5':=I5.pinned (stat fr5) (T.obj _ _ st5);refine wpAny_passesOwn hp (aE (hg _ s5 σ3 H5 x u _ I5' r5 (step x H5 y5)) λ_ s6 ⟨σ6,H6,I6,q6⟩=>?_);refine wpAny_passesOwn hp (aE (hb _ s6 σ6 H6 _ I6 q6) λf s7 q7=>?_);have again:∀{σ7:St}{H7:Hp},Inv X (pins++iV fp s5.heap) σ7 H7 s7->N σ7 H7->∃m,m<n/\∃i σ' H',Inv X pins σ' H' s7/\tn i s7.heap/\(∀b∈fp,H' b=none)/\W i m σ' H':=fun{σ7 H7} I7 n7=>by
   obtain⟨m',hm,w7⟩:=hN σ7 H7 n7;refine⟨m',hm,i+1,σ7,H7,I7.eD,T.keep _ _ _ st5 λb hb o e=>(I7.pin (b,o) (Zl _ (Zl _ (r6 hb e)))).1,λb hb=>?_,w7⟩;obtain⟨o,e,d⟩:=T.obj _ _ st5 b hb;exact (I7.pin (b,o) (Zl _ (Zl _ (r6 hb e)))).2.1
  cases f with
  |next=>obtain⟨σ7,H7,I7,n7⟩:=q7;exact again I7 n7
  |cont=>obtain⟨σ7,H7,I7,n7⟩:=q7;exact again I7 n7
  |brk=>obtain⟨σ7,H7,I7,q7⟩:=q7;exact⟨σ7,H7,I7.eD,q7⟩
  |ret v=>obtain⟨x7,σ7,H7,I7,r7,q7⟩:=q7;exact⟨x7,σ7,H7,I7.eD,r7,q7⟩
end
noncomputable abbrev R2:=V->V->Hp->VK->Prop
def fK(X:Cx)(f:Value->Value->Sem Value)(r:R2):Prop:=
 ∀(pins:List (Addr×Obj)) (s:Shared) (σ:St) (H:Hp) (x y:V) (v u:Value) (Q:VK),Inv X pins σ H s->RelV x v->RelV y u->r x y H Q ->
  wpAny (model X.prog X.w) X.A (f v u) (EP X pins σ Q) X.xe s
def UnR(X:Cx)(f:Value->Sem Value)(r:V->Hp->VK->Prop):Prop:=
 ∀(pins:List (Addr×Obj)) (s:Shared) (σ:St) (H:Hp) (x:V) (v:Value) (Q:VK),Inv X pins σ H s->RelV x v->r x H Q ->
  wpAny (model X.prog X.w) X.A (f v) (EP X pins σ Q) X.xe s
def jL(X:Cx)(f:Value)(r:List V->Hp->VK->Prop):Prop:=
 ∀(pins:List (Addr×Obj)) (s:Shared) (σ:St) (H:Hp) (xs:List V) (us:List Value) (Q:VK),Inv X pins σ H s->Vals xs us->r xs H Q ->
  wpAny (model X.prog X.w) X.A (call f us) (EP X pins σ Q) X.xe s
def pG(r:R2)(ta tb:TE):TE:=λσ H Q=>ta σ H λx H1=>tb σ H1 λy H2=>r x y H2 Q
def tUn(r:V->Hp->VK->Prop)(ta:TE):TE:=λσ H Q=>ta σ H λx H1=>r x H1 Q
def rI(C:Int->Int->Prop)(g:Int->Int->V):R2:=λx y H Q=>∃i j,x=.int i/\y=.int j/\C i j/\Q (g i j) H
def ow(g:Int->Int->V):R2:=λx y H Q=>∃i j,x=.int i/\y=.int j/\Q (g i j) H
def rU(g:Int->V):V->Hp->VK->Prop:=λx H Q=>∃i,x=.int i/\Q (g i) H
section
variable{X:Cx}{a b c:Expr}{ta tb tc:TE}{pos:Pos}
theorem nI(ha:PE X a ta)(hb:PE X b tb){R:V->V->Hp->Prop}(I:Inv X pins σ H s)
  (h:ta σ H λx H1=>tb σ H1 λy H2=>R x y H2){Q:Value->Shared->Prop}{f:Value->Value->Sem Value}
  (hf:∀v u s2 x y H2,Inv X pins σ H2 s2->RelV x v->RelV y u->R x y H2->wpAny (model X.prog X.w) X.A (f v u) Q X.xe s2) :
  wpAny (model X.prog X.w) X.A (eval a X.env) (λv s₁=>wpAny (model X.prog X.w) X.A (eval b X.env) (λu s₂=>wpAny (model X.prog X.w) X.A (f v u) Q X.xe s₂) X.xe s₁) X.xe s:=by
 refine aE (ha pins s σ H _ I h) λv s1 ⟨x,H1,I1,r1,q1⟩=>?_;refine aE (hb pins s1 σ H1 _ I1 q1) λu s2 ⟨y,H2,I2,r2,q2⟩=>?_;exact hf v u s2 x y H2 I2 r1 r2 q2
theorem qj(ho:fK X (binaryOp op) r)(ha:PE X a ta)(hb:PE X b tb):PE X (.BinOp a op b pos) (pG r ta tb):=by
 intro pins s σ H Q I h;exact wpAny_BinOp (nI ha hb I h λv u s2 x y H2 I2 rx ry q=>ho pins s2 σ H2 x y v u Q I2 rx ry q)
theorem qh{r:V->Hp->VK->Prop}(ho:UnR X (unaryOp op) r)(ha:PE X a ta):PE X (.UnaryOp op a pos) (tUn r ta):=by
 intro pins s σ H Q I h;exact UnaryOp_ (aE (ha pins s σ H _ I h) λv s1 ⟨x,H1,I1,r1,q1⟩=>ho pins s1 σ H1 x v Q I1 r1 q1)
theorem opI{f:Value->Value->Sem Value}{C:Int->Int->Prop}{g:Int->Int->Int}
  (rule:∀(i j:Int) (t u:Tok) (s:Shared) (Q:Value->Shared->Prop) (E:Value->Shared->Prop),C i j->Q (.int (g i j) s.toks) {s with toks:=s.toks+1}->wpAny (model X.prog X.w) X.A (f (.int i t) (.int j u)) Q E s) :
  fK X f (rI C λi j=>.int (g i j)):=by
 intro pins s σ H x y v u Q I rx ry h;obtain⟨i,j,rfl,rfl,hc,q⟩:=h;obtain⟨t,rfl⟩:=rx;obtain⟨t',rfl⟩:=ry;exact rule i j t t' s _ _ hc ⟨.int (g i j),H,I.tok _,⟨_,rfl⟩,q⟩
theorem opI0{f:Value->Value->Sem Value}{g:Int->Int->Int}
  (rule:∀(i j:Int) (t u:Tok) (s:Shared) (Q:Value->Shared->Prop) (E:Value->Shared->Prop),Q (.int (g i j) s.toks) {s with toks:=s.toks+1}->wpAny (model X.prog X.w) X.A (f (.int i t) (.int j u)) Q E s) :
  fK X f (ow λi j=>.int (g i j)):=by
 intro pins s σ H x y v u Q I rx ry h;obtain⟨i,j,rfl,rfl,q⟩:=h;obtain⟨t,rfl⟩:=rx;obtain⟨t',rfl⟩:=ry;exact rule i j t t' s _ _ ⟨.int (g i j),H,I.tok _,⟨_,rfl⟩,q⟩
theorem qz{f:Value->Value->Sem Value}{g:Int->Int->Bool}
  (rule:∀(i j:Int) (t u:Tok) (s:Shared) (Q:Value->Shared->Prop) (E:Value->Shared->Prop),Q (.bool (g i j)) s->wpAny (model X.prog X.w) X.A (f (.int i t) (.int j u)) Q E s) :
  fK X f (ow λi j=>.bl (g i j)):=by
 intro pins s σ H x y v u Q I rx ry h;obtain⟨i,j,rfl,rfl,q⟩:=h;obtain⟨t,rfl⟩:=rx;obtain⟨t',rfl⟩:=ry;exact rule i j t t' s _ _ ⟨.bl (g i j),H,I,rfl,q⟩
def n9(i j:Int):Prop:=0<j/\j<1073741824
def iH(i j:Int):Prop:=(-(2 ^ 64)<i/\i<2 ^ 64)\/(-(2 ^ 64)<j/\j<2 ^ 64)
theorem iH.ok(h:iH i j):IntMulOk i j:=by
 rcases h with ⟨h1,h2⟩|⟨h1,h2⟩
 ·exact .of_left (intBits_le_64 h1 h2)
 ·exact .of_right (intBits_le_64 h1 h2)
theorem Qc1:fK X (binaryOp .Add) (ow λi j=>.int (i+j)):=opI0 λ_ _ _ _ _ _ _ q=>add_int q
theorem Qc2:fK X (binaryOp .Mult) (rI iH λi j=>.int (i * j)):=opI λ_ _ _ _ _ _ _ hc q=>mul_int q hc.ok
theorem Qa8:fK X (binaryOp .FloorDiv) (rI n9 λi j=>.int (i / j)):=opI λi j _ _ _ _ _ hc q=>by
 have h1:(0:Int)<j:=hc.1;have h2:j<1073741824:=hc.2;exact floordiv_int (by room) (by rw[Int.fdiv_eq_ediv_of_nonneg i (by room)];exact q) (.inl (PyProof.noPylong_small (by room)))
theorem Qc3:fK X (binaryOp .Mod) (rI (λ_ j=>0<j) λi j=>.int (i % j)):=opI λi j _ _ _ _ _ hc q=>by
 have h1:(0:Int)<j:=hc;exact mod_int' (by room) (by rw[Int.fmod_eq_emod_of_nonneg i (by room)];exact q)
theorem unI{f:Value->Sem Value}{g:Int->Int}
  (rule:∀(i:Int) (t:Tok) (s:Shared) (Q:Value->Shared->Prop) (E:Value->Shared->Prop),Q (.int (g i) s.toks) {s with toks:=s.toks+1}->wpAny (model X.prog X.w) X.A (f (.int i t)) Q E s) :
  UnR X f (rU λi=>.int (g i)):=by
 intro pins s σ H x v Q I rx h;obtain⟨i,rfl,q⟩:=h;obtain⟨t,rfl⟩:=rx;exact rule i t s _ _ ⟨.int (g i),H,I.tok _,⟨_,rfl⟩,q⟩
theorem Qc4:UnR X (unaryOp .USub) (rU λi=>.int (-i)):=unI λ_ _ _ _ _ q=>neg_int q
end
section
variable{X:Cx}{a b c:Expr}{ta tb tc:TE}{pos:Pos}
theorem Q9z(I:Inv X pins σ H s)(q:Q (.bl k) H)(e:k=k'):EP X pins σ Q (.bool k') s:=by
 subst e;exact⟨.bl k,H,I,rfl,q⟩
theorem qr:fK X (compareOp .Lt) (ow λi j=>.bl (decide (i<j))):=qz λ_ _ _ _ _ _ _ q=>lt_int q
theorem qt:fK X (compareOp .LtE) (ow λi j=>.bl (decide (i<=j))):=qz λ_ _ _ _ _ _ _ q=>le_int q
theorem Qc5:fK X (compareOp .Is) (λx y H Q=>y=.non/\Q (.bl (decide (x=.non))) H):=by
 intro pins s σ H x y v u Q I rx ry h;obtain⟨rfl,q⟩:=h;cases ry;refine is_none_gen (Q9z I q ?_);cases x<;>first
  |(cases rx;rfl)
  |(obtain⟨t,rfl⟩:=rx;rfl)
theorem Qa9:fK X (compareOp .IsNot) (λx y H Q=>y=.non/\Q (.bl (!decide (x=.non))) H):=by
 intro pins s σ H x y v u Q I rx ry h;obtain⟨rfl,q⟩:=h;cases ry;refine isnot_none_gen (Q9z I q ?_);cases x<;>first
  |(cases rx;rfl)
  |(obtain⟨t,rfl⟩:=rx;rfl)
theorem Qaa(ho:fK X (compareOp op) r)(ha:PE X a ta)(hb:PE X b tb)(hm:behindInMarks op b=false):PE X (.Compare a [op] [b] pos) (pG r ta tb):=by
 intro pins s σ H Q I h;exact wpAny_Compare1 (nI ha hb I h λv u s2 x y H2 I2 rx ry q=>ho pins s2 σ H2 x y v u Q I2 rx ry q) hm
def pD(t:TE):TT:=λσ H Q=>t σ H λx H'=>∃k,x=.bl k/\Q k H'
theorem Qab(ho:fK X (compareOp op) r)(ha:PE X a ta)(hb:PE X b tb)(hm:behindInMarks op b=false):PT X (.Compare a [op] [b] pos) (pD (pG r ta tb)):=by
 intro pins s σ H Q I h;refine wpAny_isTrue_Compare1 (aE (ha pins s σ H _ I h) λv s1 ⟨x,H1,I1,r1,q1⟩=>aE (hb pins s1 σ H1 _ I1 q1) λu s2 ⟨y,H2,I2,r2,q2⟩=>
  aE (ho pins s2 σ H2 x y v u _ I2 r1 r2 q2) λc s3 ⟨z,H3,I3,r3,k,e,q3⟩=>?_) hm
 subst e;cases r3;exact wpAny_truthy_bool ⟨H3,I3,q3⟩
theorem eL:(sizeLine:Nat)<2 ^ 63:=by rw[ZX];decide
theorem Q5u:fK X (binaryOp .Add) (λx y H Q=>∃i j,x=.str i/\y=.str j/\i.length+j.length<=sizeLine/\Q (.str (i++j)) H):=by
 intro pins s σ H x y v u Q I rx ry h;obtain⟨i,j,rfl,rfl,hz,q⟩:=h;obtain⟨t,rfl⟩:=rx;obtain⟨t',rfl⟩:=ry;exact add_str (λt' tk=>⟨.str (i++j),H,I.tok _,⟨_,rfl⟩,q⟩) hz
theorem vals1(r:Vals [x] us):∃u,us=[u]/\RelV x u:=by
 cases r with
 |cons r1 r2=>cases r2;exact⟨_,rfl,r1⟩
theorem vals2(r:Vals [x,y] us):∃u w',us=[u,w']/\RelV x u/\RelV y w':=by
 cases r with
 |cons r1 r2=>
  cases r2 with
  |cons r3 r4=>cases r4;exact⟨_,_,rfl,r1,r3⟩
theorem Q6f(hc:X.calm=true):jL X (.builtin "min") (λxs H Q=>∃i j,xs=[.int i,.int j]/\Q (.int (if j<i then j else i)) H):=by
 intro pins s σ H xs us Q I r h;obtain⟨i,j,rfl,q⟩:=h;obtain⟨u,w',rfl,⟨t,rfl⟩,⟨t',rfl⟩⟩:=vals2 r;refine min_two_ints (I.ok.hd hc) λh' tk k=>⟨_,H,I.kept k,?_,q⟩;by_cases hj:j<i
 ·rw[Zg hj,Zg hj];exact⟨_,rfl⟩
 ·rw[Zd hj,Zd hj];exact⟨_,rfl⟩
end
structure gO(h:Heap)(x dx C:Addr)(mA:Str->Option Value):Prop where
 obj:h.get? x=some (instObj C dx)
 ns:h.Ns1 dx mA
 ne:dx≠x
theorem Q6g{h:Heap}{dx:Addr}{mA:Str->Option Value}(n:h.Ns1 dx mA):∃od,h.get? dx=some od/\∀name,PySem.W.lookIn name od=some (mA name):=by
 obtain⟨o,es,ep,ho,hd,hk,_,hm⟩:=n;refine⟨o,ho,λname=>?_⟩;have e:=hm name;unfold nsFind findBy at e;rw[<- Array.find?_toList]at e;unfold PySem.W.lookIn;rw[hd];dsimp only;split
 ·rename_i y q;rw[q]at e;exact congrArg some e
 ·rename_i q;rw[q]at e;have a:es.toList.any (·.refKey)=false:=by
   rw[List.any_eq_false];intro y hy;obtain⟨z,t,hkey⟩:=hk y (Array.mem_toList_iff.mp hy);simp[DictEntry.refKey,hkey]
  have a':¬ es.toList.any (·.refKey)=true:=by rw[a];exact Z0
  rw[Zd a'];exact congrArg some e
theorem gO.look{mA:Str->Option Value}(I:gO h x dx C mA):∃od,PySem.W.InstAt h x (instObj C dx) C (some od)/\∀name,PySem.W.lookIn name od=some (mA name):=
 let ⟨od,ho,hl⟩:=Q6g I.ns
 ⟨od,⟨I.obj,rfl,rfl,ho⟩,hl⟩
section
variable{prog:Program}{w:World}{A:Around}{E:Value->Shared->Prop}{s:Shared}{K:Frag}{x dx C f:Addr}{mA:Str->Option Value}{name:Str}{v:Value}
theorem Qac{Q:Value->Shared->Prop}(X:K.In s.heap)(I:gO s.heap x dx C mA)(hg:plainGet K C name=true)(hh:hasDictIn K C=true)
  (ha:findIn K (.ref C) name=some none) (hv:mA name=some v) (hv':PySem.W.handedIn v=true) (h:Q v {s with toks:=s.toks+1}) :
  wpAny (model prog w) A (getAttr (.ref x) name expr) Q E s:=by
 obtain⟨od,J,hl⟩:=I.look;exact PySem.W.get_value X J (plainGet_of hg).1 (PySem.W.findObj_own hh ha rfl (by rw[hl,hv])) hv' h
theorem Q7P{Q:Value×List Value->Shared->Prop}(X:K.In s.heap)(I:gO s.heap x dx C mA)(hg:plainGet K C name=true)
  (hf:findIn K (.ref C) name=some (some (.ref f))) (ht:isFn K (.ref f)=true) (hv:mA name=none) (h:Q (.ref f,[.ref x]) s) :
  wpAny (model prog w) A (getMethod (.ref x) name pl) Q E s:=by
 obtain⟨od,J,hl⟩:=I.look;exact PySem.W.method_fn X J (plainGet_of hg).1 (plainGet_of hg).2 hf (Zz.mp ht) (by show (PySem.W.lookIn name od).map (·.isSome)=some false;rw[hl,hv];rfl) h
theorem Qad{Q:Unit->Shared->Prop}(X:K.In s.heap)(I:gO s.heap x dx C mA)
  (hs:findIn K (.ref C) "__setattr__" = some (some (.builtin "object.__setattr__"))) (hp:plainOver K C=true) (ht:PySem.W.takerIn K C name=some none) (hh:hasDictIn K C=true)
  (hw:PySem.Within mA ns) (hsz:ns.length<=sizeLine)
  (h:∀h',gO h' x dx C (λy=>if y=name then some v else mA y)->Heap.SameBut dx s.heap h'->Q () {s with heap:=h',toks:=s.toks+2}) :
  wpAny (model prog w) A (setAttr (.ref x) name v) Q E s:=by
 obtain⟨od,J,hl⟩:=I.look;refine PySem.W.set_plain X J hs (PySem.W.osa_open (s:={s with toks:=s.toks+1}) (r:=none) X J hp ht λb=>?_);obtain⟨cd,hc,hd'⟩:=PySem.W.any_some hh;have hx:s.heap.get? x=some ⟨.ref C,some dx,.plain,#[]⟩:=I.obj;refine Za (Zb (Za (Za (wpAny_loadPart hx (Za (PySem.W.Looks.here (s:={s with toks:=s.toks+1}) (PySem.W.looks_clsIn X hc) ?_))))));rw[hd'];refine Zb (a:=some dx) (Za (Zb (Za ?_)));refine wpAny_nsSet1 (s:={s with toks:=s.toks+1}) I.ns λh' hn2 hs2=>?_;obtain⟨oD,esD,epD,hoD,hdD,hcD⟩:=hn2.count (PySem.Within.cons name v hw);refine Za (wpAny_lookBehind hoD (by rw[hdD];exact pastItsLine_dict (ZF hcD (by rw[Zs];room))) ?_)
 exact Zb (h _ ⟨(hs2.2 _ (Ne.symm I.ne)).trans I.obj,hn2,I.ne⟩ hs2)
theorem Q7Q{R:Result->Shared->Prop}(X:K.In s.heap)(hm:makesIn K C=true)
  (hi:findIn K (.ref C) "__init__" = some (some (.ref f))) (hf:PySem.W.typeIn K (.ref f)=some (.type "function"))
  (h:codeAny (model prog w) (A.under (.builtin "type.__call__" ⟨.ref C::vs,kw⟩)) (.call (.ref f) ⟨.ref (s.heap.objs.size+1)::vs,kw⟩) (PySem.W.InitBack (s.heap.objs.size+1) R)
   {s with heap:=(s.heap.push PySem.W.emptyDict).push (instObj C s.heap.objs.size)}) :
  codeAny (model prog w) A (.call (.ref C) ⟨vs,kw⟩) R s:=by
 obtain⟨hh,g,d,t,os⟩:=s;exact PySem.W.make_core (PySem.W.makes_of X hm) (PySem.W.looks_findIn X hi) (λself=>PySem.W.bind_fn X self hf) (.inl rfl) h
end
noncomputable def bQ(f:Str)(v:V):List (Str×V)->List (Str×V)
 |[]=>[(f,v)]
 |(g,x)::r=>if g=f then (g,v)::r else (g,x)::bQ f v r
theorem Q1P(f g:Str)(v:V):∀fs:List (Str×V),(bQ f v fs).lookup g=if g=f then some v else fs.lookup g
 |[]=>by
  show List.lookup g [(f,v)]=_;by_cases h:g=f
  ·have hb:(g==f)=true:=Zz.mpr h;erw[List.lookup,hb,Zg h]
  ·have hb:(g==f)=false:=ZZ.mpr h;erw[List.lookup,hb,Zd h]
 |(k,x)::r=>by
  have ih:=Q1P f g v r;rw[show bQ f v ((k,x)::r)=(if k=f then (k,v)::r else (k,x)::bQ f v r) from rfl]
  by_cases hk:k=f
  ·rw[Zg hk];by_cases h:g=k
   ·have hb:(g==k)=true:=Zz.mpr h;erw[List.lookup,hb,Zg (h.trans hk)]
   ·have hb:(g==k)=false:=ZZ.mpr h;erw[List.lookup,hb,Zd (λe:g=f=>h (e.trans hk.symm))]
  ·rw[Zd hk];by_cases h:g=k
   ·have hb:(g==k)=true:=Zz.mpr h;erw[List.lookup,hb,Zd (λe:g=f=>hk (h.symm.trans e))]
   ·have hb:(g==k)=false:=ZZ.mpr h;erw[List.lookup,hb];exact ih
theorem Q1Q(f:Str)(v:V):∀fs:List (Str×V),f∈(bQ f v fs).map (·.1)/\∀g,g∈fs.map (·.1)->g∈(bQ f v fs).map (·.1)
 |[]=>⟨by simp[bQ],λg h=>by simp at h⟩
 |(k,x)::r=>by
  obtain⟨i1,i2⟩:=Q1Q f v r;rw[show bQ f v ((k,x)::r)=(if k=f then (k,v)::r else (k,x)::bQ f v r) from rfl]
  by_cases hk:k=f
  ·rw[Zg hk];subst hk;exact⟨by simp,λg h=>by simpa using h⟩
  ·rw[Zd hk];refine⟨?_,λg h=>?_⟩
   ·rw[Zu];exact Zc _ i1
   ·rw[Zu]at h ⊢;rcases Zf.mp h with e|e
    ·exact Zf.mpr (.inl e)
    ·exact Zc _ (i2 g e)
theorem Q1R(f:Str)(v:V):∀fs:List (Str×V),(bQ f v fs).length<=fs.length+1
 |[]=>by simp[bQ]
 |(k,x)::r=>by
  have ih:=Q1R f v r;rw[show bQ f v ((k,x)::r)=(if k=f then (k,v)::r else (k,x)::bQ f v r) from rfl]
  by_cases hk:k=f
  ·rw[Zg hk,Zs,Zs];room
  ·rw[Zd hk,Zs,Zs];room
theorem bO.some_of(r:bO (some v) o):∃u,o=some u/\RelV v u:=by
 cases o with
 |none=>exact (show False from r).elim
 |some u=>exact⟨u,rfl,r⟩
theorem bO.none_of(r:bO none o):o=none:=by
 cases o with
 |none=>rfl
 |some u=>exact (show False from r).elim
theorem Q6h(r:RelV v u):PySem.W.handedIn u=true:=by
 cases v with
 |non=>cases (show u=Value.none from r);rfl
 |bl b=>cases (show u=Value.bool b from r);rfl
 |int i=>obtain⟨t,e⟩:=(show ∃t,u=Value.int i t from r);cases e;rfl
 |str x=>obtain⟨t,e⟩:=(show ∃t,u=Value.str x t from r);cases e;rfl
 |byt b=>obtain⟨t,e⟩:=(show ∃t,u=Value.bytes b t from r);cases e;rfl
 |nD b=>obtain⟨t,e⟩:=(show ∃t,u=Value.float b t from r);cases e;rfl
 |ref a=>cases (show u=Value.ref a from r);rfl
 |ty n=>cases (show u=Value.type n from r);rfl
section
variable{P:Program}{w:World}{H H':Hp}{h h':Heap}{a C dx:Addr}{fs fs':List (Str×V)}
theorem rY(av:cM P w H h)(e:H a=some (.ins C dx fs)):∃mA,gO h a dx C mA/\(∀f,bO (fs.lookup f) (mA f))/\PySem.Within mA (fs.map (·.1))/\fs.length<=1000/\H dx=some (.own a):=by
 obtain⟨d,z,ne,ob,mA,n,r,q⟩:=(show aG P w H h a (.ins C dx fs) from av a _ e);exact⟨mA,⟨ob,n,ne⟩,r,q,z,d⟩
end
structure Cls(K:Frag)(C:Addr):Prop where
 pg:plainGet K C Str.empty=true
 hd:hasDictIn K C=true
 po:plainOver K C=true
 sa:findIn K (.ref C) "__setattr__" = some (some (.builtin "object.__setattr__"))
theorem Cls.get{K:Frag}{C:Addr}(c:Cls K C)(f:Str):plainGet K C f=true:=c.pg
def bI(K:Frag)(C:Addr)(f:Str):Prop:=findIn K (.ref C) f=some none
theorem bI.pA{K:Frag}{C:Addr}{f:Str}(n:bI K C f):PySem.W.takerIn K C f=some none:=by
 unfold PySem.W.takerIn;rw[show findIn K (.ref C) f=some none from n];rfl
structure Meth(K:Frag)(C:Addr)(m:Str)(f:Addr):Prop where
 at_:findIn K (.ref C) m=some (some (.ref f))
 fn:isFn K (.ref f)=true
 kp:keepIn K (.ref f)=true
section
variable{X:Cx}{pins:List (Addr×Obj)}{σ:St}{H:Hp}{s:Shared}{a C dx:Addr}{fs:List (Str×V)}{f:Str}{v:V}{A:Around}{E:Value->Shared->Prop}
theorem Q2p{Q:Value->Shared->Prop}(I:Inv X pins σ H s)(e:H a=some (.ins C dx fs))(c:Cls X.K C)(n:bI X.K C f)(l:fs.lookup f=some v)
  (h:∀u s',Inv X pins σ H s'->RelV v u->Q u s'):wpAny (model X.prog X.w) A (getAttr (.ref a) f b) Q E s:=by
 obtain⟨mA,O,r,_,_,_⟩:=rY I.av e;obtain⟨u,hu,ru⟩:=bO.some_of (v:=v) (o:=mA f) (by rw[<- l];exact r f)
 exact Qac I.cX O (c.get f) c.hd n hu (Q6h ru) (h u _ (I.tok _) ru)
theorem Q2q{Q:Value×List Value->Shared->Prop}(I:Inv X pins σ H s)(e:H a=some (.ins C dx fs))(c:Cls X.K C)(k:Meth X.K C m g)(l:fs.lookup m=none)
  (h:Q (.ref g,[.ref a]) s):wpAny (model X.prog X.w) A (getMethod (.ref a) m pl) Q E s:=by
 obtain⟨mA,O,r,_,_,_⟩:=rY I.av e;have hn:mA m=none:=bO.none_of (by rw[<- l];exact r m)
 exact Q7P I.cX O (c.get m) k.at_ k.fn hn h
theorem Q2r{Q:Unit->Shared->Prop}(I:Inv X pins σ H s)(e:H a=some (.ins C dx fs))(c:Cls X.K C)(n:bI X.K C f)(hl:fs.length<1000)(ry:RelV y u)
  (h:∀s',Inv X pins σ (upd H a (.ins C dx (bQ f y fs))) s'->Q () s'):wpAny (model X.prog X.w) A (setAttr (.ref a) f u) Q E s:=by
 obtain⟨mA,O,r,wi,_,ho⟩:=rY I.av e;have hz:(fs.map (·.1)).length<=sizeLine:=by rw[Ze,ZX];room
 refine Qad I.cX O c.sa c.po n.pA c.hd wi hz λh' O' sb=>h _ ?_;have hd:∃o,h'.get? dx=some o:=let ⟨o,_,_,e',_⟩:=O'.ns;⟨o,e'⟩;refine I.write (x:=a) (e:=dx) (by rw[e];exact ZH) (.inr ho) (λb q hb z=>(sb.2 b hb).trans z) hd ?_
 refine⟨by rw[aY O.ne];exact ho,?_,O.ne,O'.obj,_,O'.ns,λg=>?_,λg hg=>?_⟩
 ·have:=Q1R f y fs;room
 ·show bO ((bQ f y fs).lookup g) (if g=f then some u else mA g)
  rw[Q1P];by_cases q:g=f
  ·rw[Zg q,Zg q];exact ry
  ·rw[Zd q,Zd q];exact r g
 ·by_cases q:g=f
  ·rw[q];exact (Q1Q f y fs).1
  ·refine (Q1Q f y fs).2 g (wi g λz=>hg ?_);show (if g=f then some u else mA g)=none
   rw[Zd q];exact z
theorem Inv.made(I:Inv X pins σ H s):Inv X pins σ (upd (upd H s.heap.objs.size (.own (s.heap.objs.size+1))) (s.heap.objs.size+1) (.ins C s.heap.objs.size []))
  {s with heap:=(s.heap.push PySem.W.emptyDict).push (instObj C s.heap.objs.size)}:=by
 have e1:(s.heap.push PySem.W.emptyDict).get? s.heap.objs.size=some PySem.W.emptyDict:=Zw s.heap rfl;have e2:((s.heap.push PySem.W.emptyDict).push (instObj C s.heap.objs.size)).get? (s.heap.objs.size+1)=some (instObj C s.heap.objs.size):=by
  have:=Zw (s.heap.push PySem.W.emptyDict) (o:=instObj C s.heap.objs.size) rfl
  rwa [Heap.size_push]at this
 have e3:(s.heap.push PySem.W.emptyDict).Ns s.heap.objs.size (λ_=>none):=⟨PySem.W.emptyDict,#[],_,e1,rfl,(λe he=>absurd he (by simp)),λ_=>rfl⟩
 have I1:=I.laid (a:=s.heap.objs.size) (o:=.own (s.heap.objs.size+1)) (h':=s.heap.push PySem.W.emptyDict) (t':=s.toks) (λb u q=>Zi _ q) (Zy _) ⟨_,e1⟩;refine I1.laid (a:=s.heap.objs.size+1) (o:=.ins C s.heap.objs.size []) (t':=s.toks) (λb u q=>Zi _ q) (le_of_eq (Heap.size_push _ _)) ?_;have ne:s.heap.objs.size≠s.heap.objs.size+1:=ZL (lt_succ_self _);refine⟨by rw[aY ne,b9],Z8 _,ne,e2,λ_=>none,(Heap.Ns1.of_empty e3).at λo q=>Zi _ q,λ_=>ZH,λy hy=>absurd rfl hy⟩
theorem Q6i{Q:Value->Shared->Prop}(hb:attributeBase e f env (eval e env)=eval e env)
  (h:wpAny (model prog w) A (eval e env) (λo s₁=>wpAny (model prog w) A (getAttr o f true) Q E s₁) E s):wpAny (model prog w) A (eval (.Attribute e f pos) env) Q E s:=
 Attribute_any_ h (by rw[arm_eval_Attribute,hb])
end
def tFld(K:Frag)(ta:TE)(f:Str):TE:=λσ H Q=>ta σ H λx H1=>∃a C dx fs v,x=.ref a/\H1 a=some (.ins C dx fs)/\Cls K C/\bI K C f/\fs.lookup f=some v/\Q v H1
def sFld(K:Frag)(ta tv:TE)(f:Str):TS:=λD σ H=>tv σ H λy H1=>ta σ H1 λx H2=>∃a C dx fs,x=.ref a/\H2 a=some (.ins C dx fs)/\Cls K C/\bI K C f/\fs.length<1000 /\
 D.nx σ (upd H2 a (.ins C dx (bQ f y fs)))
def sr(X:Cx)(op:Operator)(rd:V->V->Hp->VK->Prop):Prop:=
 ∀(pins:List (Addr×Obj)) (s:Shared) (σ:St) (H:Hp) (x y:V) (u v:Value) (Q:VK),Inv X pins σ H s->RelV x u->RelV y v->rd x y H Q->wpAny (model X.prog X.w) X.A (inplaceOp op u v) (EP X pins σ Q) X.xe s
def j4(K:Frag)(ta tv:TE)(rd:V->V->Hp->VK->Prop)(f:Str):TS:=λD σ H=>ta σ H λx H1=>∃a C dx fs v,x=.ref a/\H1 a=some (.ins C dx fs)/\Cls K C/\bI K C f/\fs.lookup f=some v /\
 tv σ H1 λy H2=>rd v y H2 λz H3=>∃dx' fs',H3 a=some (.ins C dx' fs')/\fs'.length<1000/\D.nx σ (upd H3 a (.ins C dx' (bQ f z fs')))
section
variable{X:Cx}{o e value:Expr}{f:Str}{pos pos' tpos:Pos}{ta tv:TE}
theorem Qc6(he:PE X e ta)(hb:attributeBase e f X.env (eval e X.env)=eval e X.env):PE X (.Attribute e f pos) (tFld X.K ta f):=by
 intro pins s σ H Q I h;refine Q6i hb (aE (he pins s σ H _ I h) λu s1 zz=>?_);obtain⟨x,H1,I1,rx,a,C,dx,fs,v,ex,ea,c,n,l,q⟩:=zz;subst ex;obtain rfl:u=Value.ref a:=rx;exact Q2p I1 ea c n l λu' s2 I2 ru=>⟨v,H1,I2,ru,q⟩
theorem Qc7(ha:PE X o ta)(hv:PE X value tv)(hs:swapsWith value (some (.Attribute o f pos')) pos.line X.env=pure false):PS X (.Assign [.Attribute o f pos'] value pos) (sFld X.K ta tv f):=by
 intro pins s σ H D I h;refine plainObj_wpAny_Assign_Attribute (aE (hv pins s σ H _ I h) λu s1 ⟨y,H1,I1,ry,q⟩=>aE (ha pins s1 σ H1 _ I1 q) λov s2 zz=>?_) hs;obtain⟨x,H2,I2,rx,a,C,dx,fs,ex,ea,c,n,l,q2⟩:=zz;subst ex;obtain rfl:ov=Value.ref a:=rx;exact Q2r I2 ea c n l ry λs3 I3=>⟨σ,_,I3,q2⟩
theorem Q6j{rd:V->V->Hp->VK->Prop}(ha:PE X o ta)(hv:PE X value tv)(hop:sr X op rd):PS X (.AugAssign (.Attribute o f tpos) op value pos) (j4 X.K ta tv rd f):=by
 intro pins s σ H D I h;refine wpAny_AugAssign_AttributeAny (aE (ha pins s σ H _ I h) λov s1 zz=>?_);obtain⟨x,H1,I1,rx,a,C,dx,fs,v,ex,ea,c,n,l,q⟩:=zz;subst ex;obtain rfl:ov=Value.ref a:=rx;refine Q2p I1 ea c n l λu s2 I2 ru=>aE (hv pins s2 σ H1 _ I2 q) λw3 s3 ⟨y,H2,I3,ry,q3⟩=>aE (hop pins s3 σ H2 v y u w3 _ I3 ru ry q3) λw4 s4 zz=>?_;obtain⟨z,H3,I4,rz,dx',fs',ea',l',q4⟩:=zz;exact Q2r I4 ea' c n l' rz λs5 I5=>⟨σ,_,I5,q4⟩
def rAdd:V->V->Hp->VK->Prop:=λx y H Q=>∃i j,x=.int i/\y=.int j/\Q (.int (i+j)) H
theorem Qc8:sr X .Add rAdd:=by
 rintro pins s σ H x y u v Q I rx ry ⟨i,j,rfl,rfl,q⟩;obtain⟨t,rfl⟩:=(show ∃t,u=Value.int i t from rx);obtain⟨t',rfl⟩:=(show ∃t',v=Value.int j t' from ry);exact PyProof.Rows.iadd_int ⟨.int (i+j),H,I.tok _,⟨_,rfl⟩,q⟩
end
section
variable{X:Cx}{pins:List (Addr×Obj)}{σ:St}{H:Hp}{s:Shared}{A:Around}{E:Value->Shared->Prop}{Q:Value->Shared->Prop}{c:Value}{b:Bool}
inductive d5(K:Frag)(H:Hp):V->Value->Prop where
 |non:d5 K H .non (.type "NoneType")
 |bl (x:Bool):d5 K H (.bl x) (.type "bool")
 |int (i:Int):d5 K H (.int i) (.type "int")
 |str (x:Str):d5 K H (.str x) (.type "str")
 |nD (x:UInt64):d5 K H (.nD x) (.type "float")
 |lst {a:Addr}{xs:List V}(e:H a=some (.lst xs)):d5 K H (.ref a) (.type "list")
 |frz {a:Addr}{o:Obj}{xs:List V}(e:H a=some (.frz o (.lst xs))):d5 K H (.ref a) (.type "list")
 |tup {a:Addr}{xs:List V}(e:H a=some (.tup xs)):d5 K H (.ref a) (.type "tuple")
 |dK {a:Addr}{kvs:List (Key×V)}(e:H a=some (.dK kvs)):d5 K H (.ref a) (.type "dict")
 |dT {a:Addr}{kvs:List (List Key×V)}(e:H a=some (.dT kvs)):d5 K H (.ref a) (.type "dict")
 | ins {a C dx:Addr}{fs:List (Str×V)}(e:H a=some (.ins C dx fs)) (cl:Cls K C) (ha:findIn K (.ref C) "__class__" = some (some (.builtin "object.__class__")))
   (hn:PySem.W.specialIn K (.builtin "object.__class__") "__get__" = some (some (.builtin "getset_descriptor.__get__"))) (htk:PySem.W.takesIn K (.builtin "object.__class__")=some true)
   (hm:PySem.W.mroIn K C (.type "object")=some true):d5 K H (.ref a) (.ref C)
theorem r0(I:Inv X pins σ H s)(rx:RelV x u)(ty:d5 X.K H x t)(e:kitOne X.K t c=some b)(h:∀tk,Q (.bool b) {s with toks:=tk}) :
  wpAny (model X.prog X.w) A (call (.builtin "isinstance") [u,c]) Q E s:=by
 cases ty with
 |non=>cases (show u=Value.none from rx);exact kia_one PySem.W.kitx_none I.cX ZH e (λz=>nomatch z) h
 |bl y=>cases (show u=Value.bool y from rx);exact kia_one PySem.W.kitx_bool I.cX ZH e (λz=>nomatch z) h
 |int i=>obtain⟨t,q⟩:=(show ∃t,u=Value.int i t from rx);cases q;exact kia_one PySem.W.kitx_int I.cX ZH e (λz=>nomatch z) h
 |str y=>obtain⟨t,q⟩:=(show ∃t,u=Value.str y t from rx);cases q;exact kia_one PySem.W.kitx_str I.cX ZH e (λz=>nomatch z) h
 |nD y=>obtain⟨t,q⟩:=(show ∃t,u=Value.float y t from rx);cases q;exact kia_one PySem.W.kitx_float I.cX ZH e (λz=>nomatch z) h
 | @lst a xs ea=>
  cases (show u=Value.ref a from rx);obtain⟨_,_,n,_,h1⟩:=(show aG X.prog X.w H s.heap a (.lst xs) from I.av a _ ea);exact kia_one kitx_list I.cX ⟨_,h1,rfl⟩ e (λz=>nomatch z) h
 | @frz a ob xs ea=>
  cases (show u=Value.ref a from rx);obtain⟨_,_,_,n,_,h1⟩:=(show aG X.prog X.w H s.heap a (.frz ob (.lst xs)) from I.av a _ ea);exact kia_one kitx_list I.cX ⟨_,h1,rfl⟩ e (λz=>nomatch z) h
 | @tup a xs ea=>
  cases (show u=Value.ref a from rx);obtain⟨_,_,_,p⟩:=(show aG X.prog X.w H s.heap a (.tup xs) from I.av a _ ea);obtain⟨o,h1,h2,_⟩:=p;exact kia_one kitx_tuple I.cX ⟨o,h1,h2⟩ e (λz=>nomatch z) h
 | @dK a kvs ea=>
  cases (show u=Value.ref a from rx);obtain⟨_,_,vs,_,p⟩:=(show aG X.prog X.w H s.heap a (.dK kvs) from I.av a _ ea);obtain⟨o,es,ep,h1,h2,_⟩:=p;exact kia_one kitx_dict I.cX ⟨o,h1,h2.1⟩ e (λz=>nomatch z) h
 | @dT a kvs ea=>
  cases (show u=Value.ref a from rx);obtain⟨_,_,xs,_,o,es,ep,h1,h2,_⟩:=(show aG X.prog X.w H s.heap a (.dT kvs) from I.av a _ ea);exact kia_one kitx_dict I.cX ⟨o,h1,h2.1⟩ e (λz=>nomatch z) h
 | @ins a C dx fs ea cl ha hn htk hm=>
  cases (show u=Value.ref a from rx);obtain⟨mA,O,_⟩:=rY I.av ea;obtain⟨od,J,_⟩:=O.look;exact kia_one (PySem.W.kitx_own (cl.get _) cl.hd ha hn htk hm) I.cX J e (λz=>nomatch z) h
end
structure aQ(k:Nat)(A:Around):Prop where
 hd:A.handled=none
 dp:A.depth+3 * k+5<recursionLimit
 un:A.units+16 * k+200<cLine
theorem aQ.mono(r:aQ k A)(h:j<=k):aQ j A:=⟨r.hd,by have:=r.dp;room,by have:=r.un;room⟩
theorem aQ.deeper(r:aQ (k+1) A)(env:Env):aQ k (A.deeper env):=
 ⟨r.hd,by have:=r.dp;show A.depth+1+3 * k+5<_;room,by have:=r.un;show A.units+3+16 * k+200<_;room⟩
theorem Q5v{A:Around}{C:Addr}{us:List Value}{kw:List (Str×Value)}:(A.under (.builtin "type.__call__" ⟨.ref C::us,kw⟩)).depth=A.depth+1:=by
 first|rfl|simp[Around.under,Code.weight,Code.isCreation,Code.isGuard,Code.isCaller,Code.frames,Code.isFrame,guardIds]
theorem Q5w{A:Around}{C:Addr}{us:List Value}{kw:List (Str×Value)}:(A.under (.builtin "type.__call__" ⟨.ref C::us,kw⟩)).units=A.units+1:=by
 first|rfl|simp[Around.under,Code.cUnits,Code.frames,Code.isFrame]
theorem aQ.make(r:aQ (k+1) A)(C:Addr)(us:List Value)(kw:List (Str×Value)):aQ k (A.under (.builtin "type.__call__" ⟨.ref C::us,kw⟩)):=
 ⟨r.hd,by have:=r.dp;rw[Q5v];room,by have:=r.un;rw[Q5w];room⟩
theorem aQ.depth(r:aQ k A):A.depth<recursionLimit:=by have:=r.dp;room
def jZ:TA:=λ_ H Q=>Q [] H
def lu(ta:TE)(tr:TA):TA:=λσ H Q=>ta σ H λx H1=>tr σ H1 λxs H2=>Q (x::xs) H2
section
variable{X:Cx}{e:Expr}{es:List Expr}{te:TE}{t:TA}{pos:Pos}
theorem Q9A:PA X [] jZ:=λ_ _ _ _ H Q I h=>Calls.spliced_nil ⟨[],H,I,.nil,h⟩
theorem Q4c(ha:PE X e te)(hr:PA X es t)(hs:starEach (e::es) X.env=(false,eval e X.env)::starEach es X.env:=by rfl):PA X (e::es) (lu te t):=by
 intro pos pins s σ H Q I h;rw[hs];show wpAny _ _ (spliced ((false,eval e X.env)::backTo pos (starEach es X.env))) _ _ s;refine ZM (aE (ha pins s σ H _ I h) λu s1 ⟨x,H1,I1,r1,q1⟩=>?_);exact aE (hr pos pins s1 σ H1 _ I1 q1) λus s2 ⟨xs,H2,I2,r2,q2⟩=>⟨x::xs,H2,I2,.cons r1 r2,q2⟩
def tTup(t:TA):TE:=λσ H Q=>t σ H λxs H1=>xs.length<=sizeLine/\∀p,H1 p=none->Q (.ref p) (upd H1 p (.tup xs))
def tLst(t:TA):TE:=λσ H Q=>t σ H λxs H1=>xs.length<=sizeLine/\∀p,H1 p=none->Q (.ref p) (upd H1 p (.lst xs))
theorem Qc9{x1}(h:PA X es t):PE X (.Tuple es x1 pos) (tTup t):=by
 intro pins s σ H Q I hq;refine wpAny_Tuple_spliced (aE (h pos pins s σ H _ I hq) λus s1 ⟨xs,H1,I1,r,z,q⟩=>⟨by rw[<- r.length];exact z,?_⟩)
 have hf:H1 s1.heap.objs.size=none:=I1.av.fresh (Zy _);refine⟨.ref s1.heap.objs.size,upd H1 s1.heap.objs.size (.tup xs),I1.laid (t':=s1.toks) (λb u e=>Zi _ e) (Zy _) ?_,rfl,q _ hf⟩;exact⟨z,us,r,⟨_,Zw _ rfl,rfl,_,rfl⟩⟩
theorem Q9B(h:PA X es t):PE X (.List es pos) (tLst t):=by
 intro pins s σ H Q I hq;refine wpAny_List_spliced (aE (h pos pins s σ H _ I hq) λus s1 ⟨xs,H1,I1,r,z,q⟩=>⟨by rw[<- r.length];exact z,?_⟩)
 have hf:H1 s1.heap.objs.size=none:=I1.av.fresh (Zy _);refine⟨.ref s1.heap.objs.size,upd H1 s1.heap.objs.size (.lst xs),I1.laid (t':=s1.toks) (λb u e=>Zi _ e) (Zy _) ?_,rfl,q _ hf⟩;exact⟨z,us,0,r,Zw _ rfl⟩
end
noncomputable abbrev Sp:=List V->Hp->VK->XK->Prop
noncomputable abbrev iQ:=List Env->Hp->Shared->XK->Value->Shared->Prop
structure eS(P:Program)(w:World)(K:Frag)(mg:Str->Option Value)(base:Heap)(A:Around)(outer:List Env)(s:Shared)(H:Hp):Prop where
 frames:A.frames=some outer
 mod:Mod K mg base
 bs:∀b o,base.get? b=some o->s.heap.get? b=some o/\H b=none
 jI:base.objs.size<=s.heap.objs.size
 dj:s.heap.FunFrames base outer
 lY:∀b∈iK outer,H b=none
 av:cM P w H s.heap
 bare:AllBare s.gens
def CE(outer:List Env)(P:Program)(w:World)(H:Hp)(s:Shared)(Q:VK)(u:Value)(s':Shared):Prop:=
 ∃v H',s'.os=s.os/\AllBare s'.gens/\Un (iK outer) [] H H' s.heap s'.heap/\cM P w H' s'.heap/\RelV v u/\Q v H'
def CR(CX:iQ)(outer:List Env)(P:Program)(w:World)(H:Hp)(s:Shared)(Q:VK)(E:XK)(r:Result)(s':Shared):Prop:=
 match r with
 |.ok (.ret u)=>CE outer P w H s Q u s'
 |.ok _=>False
 |.error e=>CX outer H s E e s'
structure aS(P:Program)(w:World)(K:Frag)(mg:Str->Option Value)(base:Heap)(CX:iQ)(k:Nat)(f:Addr)(fd:FuncData)(ps:List Str)(sp:Sp):Prop where
 len:∀vs H Q E,sp vs H Q E->vs.length=ps.length
 run:∀(A:Around) (outer:List Env) (s:Shared) (H:Hp) (args:Args) (us:List Value) (vs:List V) (Q:VK) (E:XK),aQ k A->eS P w K mg base A outer s H->BindsTo s fd args (ps.zip us)->Vals vs us->sp vs H Q E ->
  codeAny (model P w) A (.call (.ref f) args) (CR CX outer P w H s Q E) s
theorem eS.make{P:Program}{w:World}{K:Frag}{mg:Str->Option Value}{base:Heap}{A:Around}{outer:List Env}{s:Shared}{H:Hp}(e:eS P w K mg base A outer s H)(C:Addr)(us:List Value)(kw:List (Str×Value)) :
  eS P w K mg base (A.under (.builtin "type.__call__" ⟨.ref C::us,kw⟩)) outer s H:=⟨by first|exact e.frames|(simpa[Around.under,Code.envs,Code.isFrame,pushEnvs]using e.frames),e.mod,e.bs,e.jI,e.dj,e.lY,e.av,e.bare⟩
theorem eS.in1{P:Program}{w:World}{K:Frag}{mg:Str->Option Value}{base:Heap}{A:Around}{outer:List Env}{s:Shared}{H:Hp}(e:eS P w K mg base A outer s H) :
  eS P w K mg base A.in1 outer s H:=⟨e.frames,e.mod,e.bs,e.jI,e.dj,e.lY,e.av,e.bare⟩
section
variable{X:Cx}{pins:List (Addr×Obj)}{σ:St}{H:Hp}{s s':Shared}
theorem Inv.nF(I:Inv X pins σ H s):eS X.prog X.w X.K X.mg X.base X.A X.stack s H:=
 ⟨I.ok.frames,I.ok.mod,I.bs,ZF I.ok.jI I.sz,I.stack,I.gU,I.av,I.bare⟩
theorem Inv.after(I:Inv X pins σ H s)(h:CE X.stack X.prog X.w H s Q u s'):EP X pins σ Q u s':=by
 obtain⟨v,H',os,bare,un,av,r,q⟩:=h;obtain⟨hh,g,d,t,os'⟩:=s';obtain rfl:os'=s.os:=os;exact⟨v,H',I.call (h':=hh) (g':=g) (d':=d) (t':=t) (ch:=[]) un av bare (λb z=>absurd z (by simp)),r,q⟩
end
def pO(sp:Sp)(dvs:List V)(E:XK)(t:TA):TE:=λσ H Q=>t σ H λvs H1=>sp (vs++dvs) H1 Q E
def i6(C:Addr)(m:Str)(sp:Sp)(dvs:List V)(E:XK)(ta:TE)(t:TA):TE:=λσ H Q=>ta σ H λx H1=>∃a dx fs,x=.ref a/\H1 a=some (.ins C dx fs)/\fs.lookup m=none /\
 t σ H1 λvs H2=>sp (x::(vs++dvs)) H2 Q E
def lp(C:Addr)(sp:Sp)(dvs:List V)(E:XK)(t:TA):TE:=λσ H Q=>t σ H λvs H1=>∀x dx,H1 x=none->H1 dx=none->dx≠x ->
 sp (.ref x::(vs++dvs)) (upd (upd H1 dx (.own x)) x (.ins C dx [])) (λv H2=>v=.non/\Q (.ref x) H2) E
def Binds(K:Frag)(fd:FuncData)(ps:List Str)(ds:List Value):Prop:=
 ∀(s:Shared) (us:List Value),K.In s.heap->(us++ds).length=ps.length->BindsTo s fd ⟨us,[]⟩ (ps.zip (us++ds))
theorem Binds.all{K:Frag}{fd:FuncData}{ps:List Str}(h:∀us:List Value,us.length=ps.length->bindArgs fd ⟨us,[]⟩=pure (ps.zip us)):Binds K fd ps []:=λs us _ hl=>by
 rw[append_nil]at hl ⊢;exact .of_eq (h us hl)
def gP(CX:iQ)(X:Cx)(E:XK):Prop:=∀(pins:List (Addr×Obj)) (σ:St) (H:Hp) (s:Shared) (e:Value) (s':Shared),Inv X pins σ H s->CX X.stack H s E e s'->X.xe e s'
section
variable{X:Cx}{CX:iQ}{k:Nat}{f C:Addr}{fd:FuncData}{ps:List Str}{sp:Sp}{dvs:List V}{ds:List Value}{E:XK}{x m:Str}{p pos apos:Pos}{e o:Expr}{es:List Expr}{ta:TE}{t:TA}
theorem Q6k(F:aS X.prog X.w X.K X.mg X.base CX k f fd ps sp)(hr:aQ k X.A)(hb:Binds X.K fd ps ds)(hd:Vals dvs ds)(hx:gP CX X E)
  (I:Inv X pins σ H s) (r:Vals vs us) (h:sp (vs++dvs) H Q E):wpAny (model X.prog X.w) X.A (call (.ref f) us) (EP X pins σ Q) X.xe s:=by
 have r2:Vals (vs++dvs) (us++ds):=r.append hd;have hl:(us++ds).length=ps.length:=by rw[<- r2.length];exact F.len _ _ _ _ h
 refine wpAny_call (codeAny_mono (F.run X.A X.stack s H ⟨us,[]⟩ (us++ds) (vs++dvs) Q E hr I.nF (hb s us I.cX hl) r2 h) λr s' hq=>?_);cases r with
 |error e=>exact hx pins σ H s e s' I hq
 |ok fl=>
  cases fl with
  |ret u=>exact I.after hq
  |next=>exact False.elim hq
  |brk=>exact False.elim hq
  |cont=>exact False.elim hq
theorem Qae(F:aS X.prog X.w X.K X.mg X.base CX k f fd ps sp)(hr:aQ k X.A)(hg:Gl X x)(hm:X.mg x=some (.ref f))(hk:keepIn X.K (.ref f)=true)(hb:Binds X.K fd ps ds)(hd:Vals dvs ds)(hx:gP CX X E)
  (ha:PA X (e::es) t) (hdb:(x==("__debug__":Str))=false:=by decide) (he:starEach (e::es) X.env=(false,eval e X.env)::starEach es X.env:=by rfl) (hpl:(backTo pos (starEach es X.env)).any (·.1)=false:=by rfl) :
  PE X (.Call (.Name x p) (e::es) [] pos) (pO sp dvs E t):=by
 intro pins s σ H Q I h;refine wpAny_Call_Name_kw (Q2F I hg hm ?_ hdb);refine callWith_K (h₀:=X.base) I.ok.mod.qL hk (aE (ha pos pins s σ H _ I h) λus s1 ⟨vs,H1,I1,r,q⟩=>⟨I1.cX,?_⟩) he hpl;exact Q6k F hr hb hd hx I1 r q
theorem Qaf{pl:Sem Bool}(he:PE X o ta)(c:Cls X.K C)(hm:Meth X.K C m f)(F:aS X.prog X.w X.K X.mg X.base CX k f fd ps sp)(hr:aQ k X.A)(hb:Binds X.K fd ps ds)(hd:Vals dvs ds)(hx:gP CX X E)(ha:PA X (e::es) t)
  (hst:starEach (e::es) X.env=(false,eval e X.env)::starEach es X.env:=by rfl) (hpl:(backTo pos (starEach es X.env)).any (·.1)=false:=by rfl)
  (ht:eval (.Call (.Attribute o m apos) (e::es) [] pos) X.env=(do
   let ov <- eval o X.env
   standAt apos.atName
   let (f,first) <- holding [ov] (getMethod ov m pl)
   callWith pos f first (backTo pos (starEach (e::es) X.env)) (backToKw pos (keywordEach [] X.env))):=by rfl) :
  PE X (.Call (.Attribute o m apos) (e::es) [] pos) (i6 C m sp dvs E ta t):=by
 intro pins s σ H Q I h;refine methodCall_KW (pl:=pl) (aE (he pins s σ H _ I h) λu s1 zz=>?_) ht;obtain⟨x,H1,I1,rx,a,dx,fs,ex,ea,l,q⟩:=zz;subst ex;obtain rfl:u=Value.ref a:=rx;refine Q2q I1 ea c hm l ?_;refine callWith_K (first:=[.ref a]) (h₀:=X.base) I.ok.mod.qL hm.kp (aE (ha pos pins s1 σ H1 _ I1 q) λus s2 ⟨vs,H2,I2,r,q2⟩=>⟨I2.cX,?_⟩) hst hpl
 exact Q6k (us:=.ref a::us) (vs:=.ref a::vs) F hr hb hd hx I2 (.cons rfl r) q2
theorem Q7R(he:PE X o ta)(c:Cls X.K C)(hm:Meth X.K C m f)(F:aS X.prog X.w X.K X.mg X.base CX k f fd ps sp)(hr:aQ k X.A)(hb:Binds X.K fd ps ds)(hd:Vals dvs ds)(hx:gP CX X E)
  (ht:eval (.Call (.Attribute o m apos) [] [] pos) X.env=(do
   let ov <- eval o X.env
   standAt apos.atName
   let (f,first) <- holding [ov] (getMethod ov m pl)
   callWith pos f first (backTo pos (starEach [] X.env)) (backToKw pos (keywordEach [] X.env))):=by rfl) :
  PE X (.Call (.Attribute o m apos) [] [] pos) (i6 C m sp dvs E ta jZ):=by
 intro pins s σ H Q I h;refine methodCall_KW (pl:=pl) (aE (he pins s σ H _ I h) λu s1 zz=>?_) ht;obtain⟨x,H1,I1,rx,a,dx,fs,ex,ea,l,q⟩:=zz;subst ex;obtain rfl:u=Value.ref a:=rx;refine Q2q I1 ea c hm l ?_;exact callWith_K0 (first:=[.ref a]) I1.cX hm.kp (Q6k (us:=[.ref a]) (vs:=[.ref a]) F hr hb hd hx I1 (.cons rfl .nil) q)
structure Mk(K:Frag)(C f:Addr):Prop where
 makes:makesIn K C=true
 init:findIn K (.ref C) "__init__" = some (some (.ref f))
 fn:isFn K (.ref f)=true
 kp:keepIn K (.ref C)=true
theorem Q4z(M:Mk X.K C f)(F:aS X.prog X.w X.K X.mg X.base CX k f fd ps sp)(hr:aQ (k+1) X.A)(hb:Binds X.K fd ps ds)(hd:Vals dvs ds)
  (hx:gP CX X E) (I:Inv X pins σ H s) (r:Vals vs us)
  (h:∀x dx,H x=none->H dx=none->dx≠x->sp (.ref x::(vs++dvs)) (upd (upd H dx (.own x)) x (.ins C dx [])) (λv H2=>v=.non/\Q (.ref x) H2) E) :
  wpAny (model X.prog X.w) X.A (call (.ref C) us) (EP X pins σ Q) X.xe s:=by
 have hq:=h (s.heap.objs.size+1) s.heap.objs.size (I.av.fresh (le_succ _)) (I.av.fresh (Zy _)) (ZL (lt_succ_self _));have I2:=Inv.made (C:=C) I;have r2:Vals (V.ref (s.heap.objs.size+1)::(vs++dvs)) (Value.ref (s.heap.objs.size+1)::(us++ds)):=.cons rfl (r.append hd);have hl:(Value.ref (s.heap.objs.size+1)::us++ds).length=ps.length:=by
  have e:=r2.length;rw[F.len _ _ _ _ hq]at e;exact e.symm
 refine wpAny_call (Q7Q (f:=f) I.cX M.makes M.init (Zz.mp M.fn) (codeAny_mono (F.run _ X.stack _ _ ⟨Value.ref (s.heap.objs.size+1)::us,[]⟩ (Value.ref (s.heap.objs.size+1)::(us++ds)) _ _ E (hr.make C us [])
  (I2.nF.make C us []) (hb _ (Value.ref (s.heap.objs.size+1)::us) I2.cX hl) r2 hq) λr s' hq'=>?_))
 cases r with
 |error e=>exact hx pins σ _ _ e s' I2 hq'
 |ok fl=>
  cases fl with
  |ret u=>
   obtain⟨v,H',I3,rv,ev,q3⟩:=I2.after hq';subst ev;exact⟨rv,⟨V.ref (s.heap.objs.size+1),H',I3,rfl,q3⟩⟩
  |next=>exact False.elim hq'
  |brk=>exact False.elim hq'
  |cont=>exact False.elim hq'
theorem Q6l(M:Mk X.K C f)(F:aS X.prog X.w X.K X.mg X.base CX k f fd ps sp)(hr:aQ (k+1) X.A)(hg:Gl X x)(hm:X.mg x=some (.ref C))(hb:Binds X.K fd ps ds)(hd:Vals dvs ds)(hx:gP CX X E)
  (ha:PA X (e::es) t) (hdb:(x==("__debug__":Str))=false:=by decide) (he:starEach (e::es) X.env=(false,eval e X.env)::starEach es X.env:=by rfl) (hpl:(backTo pos (starEach es X.env)).any (·.1)=false:=by rfl) :
  PE X (.Call (.Name x p) (e::es) [] pos) (lp C sp dvs E t):=by
 intro pins s σ H Q I h;refine wpAny_Call_Name_kw (Q2F I hg hm ?_ hdb);refine callWith_K (h₀:=X.base) I.ok.mod.qL M.kp (aE (ha pos pins s σ H _ I h) λus s1 ⟨vs,H1,I1,r,q⟩=>⟨I1.cX,?_⟩) he hpl;exact Q4z M F hr hb hd hx I1 r q
theorem Q7S(M:Mk X.K C f)(F:aS X.prog X.w X.K X.mg X.base CX k f fd ps sp)(hr:aQ (k+1) X.A)(hg:Gl X x)(hm:X.mg x=some (.ref C))(hb:Binds X.K fd ps ds)(hd:Vals dvs ds)(hx:gP CX X E)
  (hdb:(x==("__debug__":Str))=false:=by decide):PE X (.Call (.Name x p) [] [] pos) (lp C sp dvs E jZ):=by
 intro pins s σ H Q I h;refine wpAny_Call_Name_kw (Q2F I hg hm ?_ hdb);exact callWith_K0 I.cX M.kp (Q4z (us:=[]) M F hr hb hd hx I .nil h)
end
def PK(X:Cx)(kws:List Keyword)(t:TA):Prop:=
 ∀(pos:Pos) (pins:List (Addr×Obj)) (s:Shared) (σ:St) (H:Hp) (Q:List V->Hp->Prop),Inv X pins σ H s->t σ H Q->wpAny (model X.prog X.w) X.A (evalAll ((backToKw pos (keywordEach kws X.env)).map (·.2))) (AP X pins σ Q) X.xe s
section
variable{X:Cx}{CX:iQ}{k:Nat}{f C:Addr}{fd:FuncData}{ps ks:List Str}{sp:Sp}{E:XK}{x m:Str}{p pos apos kpos:Pos}{e o:Expr}{es:List Expr}{kws:List Keyword}{te ta:TE}{t tk:TA}{nm:Option Str}
theorem Qca:PK X [] jZ:=λ_ _ _ _ H Q I h=>wpAny_evalAll_nil ⟨[],H,I,.nil,h⟩
theorem Qag(ha:PE X e te)(hr:PK X kws t):PK X (⟨nm,e,kpos⟩::kws) (lu te t):=by
 intro pos pins s σ H Q I h;show wpAny _ _ (evalAll ((do let v <- eval e X.env;standAt pos;pure v)::(backToKw pos (keywordEach kws X.env)).map (·.2))) _ _ s
 refine wpAny_evalAll_cons (Za (aE (ha pins s σ H _ I h) λu s1 ⟨x,H1,I1,r1,q1⟩=>Za (wpAny_standAt (Zb ?_))));exact aE (hr pos pins s1 σ H1 _ I1 q1) λus s2 ⟨xs,H2,I2,r2,q2⟩=>⟨x::xs,H2,I2,.cons r1 r2,q2⟩
structure zc6(K:Frag)(fd:FuncData)(ps ks:List Str)(g:List Value->List Value->List Value)(gV:List V->List V->List V):Prop where
 to:∀(s:Shared) (us ws:List Value),K.In s.heap->(g us ws).length=ps.length->BindsTo s fd ⟨us,ks.zip ws⟩ (ps.zip (g us ws))
 rel:∀{vs:List V}{us:List Value}{zs:List V}{ws:List Value},Vals vs us->Vals zs ws->Vals (gV vs zs) (g us ws)
variable{g:List Value->List Value->List Value}{gV:List V->List V->List V}
end
structure ot(N P:List Str)(sc:Scope):Prop where
 kind:sc.kind=.function
 co:sc.isCoroutine=false
 gen:sc.isGenerator=false
 nd:N.Nodup
 pre:N.take P.length=P
 par:∀x∈P,sc.names.lookup x=some .local\/sc.names.lookup x=some .cell
 m6:∀y∈sc.names,y.2≠.free
theorem Q3e{kindOf:Str->Option NameKind}:∀{binds:List (Str×Value)}{m:Str->Option Value},(∀v,(x,v)∉binds)->bindL kindOf binds m x=m x
 |[],_,_=>rfl
 |(n,v)::r,m,h=>by
  unfold bindL;rw[Q3e λw hw=>h w (Zc _ hw)];split
  ·have:x≠n:=by rintro rfl;exact h v Zk
   simp[this]
  ·rfl
theorem Q3f{kindOf:Str->Option NameKind}:∀{binds:List (Str×Value)}{m:Str->Option Value},(∀v,(x,v)∉binds)->bindC kindOf binds m x=m x
 |[],_,_=>rfl
 |(n,v)::r,m,h=>by
  unfold bindC;rw[Q3f λw hw=>h w (Zc _ hw)];split
  ·rfl
  ·have:x≠n:=by rintro rfl;exact h v Zk
   simp[this]
theorem Q3g{kindOf:Str->Option NameKind}:∀{P:List Str}{vs:List Value}{i:Nat}{m:Str->Option Value},P.Nodup->P[i]?=some x->vs[i]?=some v->kindOf x=some .local ->
  bindL kindOf (P.zip vs) m x=some v
 |[],_,_,_,_,h,_,_=>by simp at h
 |_::_,[],_,_,_,_,h,_=>by simp at h
 |p::P,w::vs,0,m,nd,h1,h2,hk=>by
  simp at h1 h2;subst h1;subst h2;show bindL kindOf ((p,w)::P.zip vs) m p=_;unfold bindL;rw[Q3e λv hv=>(ZW.mp nd).1 (of_mem_zip hv).1,Zg hk];simp
 |p::P,w::vs,i+1,m,nd,h1,h2,hk=>by
  show bindL kindOf ((p,w)::P.zip vs) m x=_;unfold bindL;exact Q3g (i:=i) (ZW.mp nd).2 (by simpa using h1) (by simpa using h2) hk
theorem Q3h{kindOf:Str->Option NameKind}:∀{P:List Str}{vs:List Value}{i:Nat}{m:Str->Option Value},P.Nodup->P[i]?=some x->vs[i]?=some v->kindOf x≠some .local ->
  bindC kindOf (P.zip vs) m x=some v
 |[],_,_,_,_,h,_,_=>by simp at h
 |_::_,[],_,_,_,_,h,_=>by simp at h
 |p::P,w::vs,0,m,nd,h1,h2,hk=>by
  simp at h1 h2;subst h1;subst h2;show bindC kindOf ((p,w)::P.zip vs) m p=_;unfold bindC;rw[Q3f λv hv=>(ZW.mp nd).1 (of_mem_zip hv).1,Zd hk];simp
 |p::P,w::vs,i+1,m,nd,h1,h2,hk=>by
  show bindC kindOf ((p,w)::P.zip vs) m x=_;unfold bindC;exact Q3h (i:=i) (ZW.mp nd).2 (by simpa using h1) (by simpa using h2) hk
noncomputable def start(N:List Str)(vs:List V):St:=vs.map some++List.replicate (N.length-vs.length) none
noncomputable def iw(CX:iQ)(P:Program)(w:World)(K:Frag)(mg:Str->Option Value)(base:Heap)(N:List Str)(qual:Str)(scope:Scope)(f:Addr)(cd:Value)(A:Around)(outer:List Env)(s:Shared)(H:Hp)(E:XK):Cx where
 prog:=P
 w:=w
 K:=K
 mg:=mg
 base:=base
 A:=A.deeper (envOfC qual scope s.heap.objs.size f cd)
 N:=N
 s₀:=s
 H₀:=H
 env:=envOfC qual scope s.heap.objs.size f cd
 outer:=outer
 stack:=envOfC qual scope s.heap.objs.size f cd::outer
 ex:=[]
 calm:=true
 fn:=λ_=>true
 pn:=[]
 xe:=λe s'=>wpAny (model P w) (A.deeper (envOfC qual scope s.heap.objs.size f cd)) (leaving (envOfC qual scope s.heap.objs.size f cd) e) (λ_ s''=>CX outer H s E e s'') (λe' s''=>CX outer H s E e' s'') s'
theorem Q4A{sc:Scope}{n:Nat}{x:Str}(h:sc.names.lookup x=some .cell):∃c,(cellsFrom n sc.names []).lookup x=some c:=by
 have q:=PySem.W.cellsFrom_some sc.names n [] (.inl h);exact Option.isSome_iff_exists.mp q
theorem Q6m{CX:iQ}{P:Program}{w:World}{K:Frag}{mg:Str->Option Value}{base:Heap}{N ps:List Str}{qual:Str}{scope:Scope}{f:Addr}{cd:Value}{A:Around}{outer:List Env}{s s1:Shared}{H:Hp}{E:XK}{us:List Value}{vs:List V}
  (S:ot N ps scope) (hd:A.handled=none) (e0:eS P w K mg base A outer s H) (hl:vs.length=ps.length) (r:Vals vs us)
  (x:InCallC s s.heap.objs.size (bindL (envOfC qual scope s.heap.objs.size f cd).kindOf (ps.zip us) λ_=>none) (cellsFrom (s.heap.objs.size+1) scope.names []) (bindC (envOfC qual scope s.heap.objs.size f cd).kindOf (ps.zip us) λ_=>none) s1) :
  Inv (iw CX P w K mg base N qual scope f cd A outer s H E) [] (start N vs) H s1:=by
 have hpl:ps.length<=N.length:=by have:=congrArg List.length S.pre;rw[ZD]at this;room
 obtain⟨h1,tk,rfl,hk⟩:=x.done;have noA:∀b:Addr,b∉(iw CX P w K mg base N qual scope f cd A outer s H E).ex:=λb z=>absurd (show b∈([]:List Addr) from z) (by simp)
 refine⟨⟨e0.mod,S.kind,rfl,rfl,Zy _,λy z c h1 h2=>?_,λy hy=>?_,λy c _ h=>?_,λ_=>hd,Around.frames_deeper e0.frames,.inr ⟨rfl,rfl⟩,λb z=>absurd z (noA b),e0.bs,e0.jI,λb _ _=>noA b,λb z=>absurd z (noA b),e0.dj,e0.lY⟩,
  rfl,e0.bare,Un.kept hk,⟨_,x.toInCall.ns,λi y v h1 h2 h3=>?_⟩,λy c h=>⟨_,x.cell y c h⟩,e0.av.fresh (Zy _),λy c h=>?_,λp hp=>absurd (show p∈([]:List (Addr×Obj)) from hp) (by simp),e0.av.kept hk,?_⟩
 ·exact name_of_addr x.apart (PySem.mem_of_lookup h1) (PySem.mem_of_lookup h2)
 ·have hy:scope.names.lookup y=some .cell\/scope.names.lookup y=some .free:=hy;rcases hy with hy|hy
  ·exact Q4A hy
  ·exact absurd rfl (S.m6 _ (PySem.mem_of_lookup hy))
 ·exact le_of_lt (x.above y c (PySem.mem_of_lookup h))
 ·have hi:i<vs.length:=by
   unfold start at h2;by_cases hi:i<vs.length
   ·exact hi
   ·rw[List.getElem?_append_right (by simpa using hi)]at h2
    rw[List.getElem?_replicate]at h2;split at h2<;>cases h2
  have ha:vs[i]?=some v:=by
   unfold start at h2;rw[List.getElem?_append_left (by simpa using hi),ZB]at h2
   cases e:vs[i]? with
   |none=>rw[e]at h2;cases h2
   |some a=>rw[e]at h2;cases h2;rfl
  obtain⟨u,hu,rv⟩:=r.get ha;have hp:ps[i]?=some y:=by
   rw[<- S.pre,List.getElem?_take_of_lt (by room)];exact h1
  have ndP:ps.Nodup:=by rw[<- S.pre];exact S.nd.sublist (List.take_sublist _ _)
  refine⟨u,rv,?_⟩;rcases S.par y (ZI hp) with k|k
  ·exact .inl ⟨k,Q3g ndP hp hu k⟩
  ·obtain⟨c,e⟩:=Q4A (n:=s.heap.objs.size+1) k;refine .inr ⟨.inl k,c,e,?_⟩;have q:=x.cell y c e;rw[Q3h ndP hp hu (by show scope.names.lookup y≠_;rw[k];decide)]at q
   exact q
 ·exact e0.av.fresh (le_of_lt (x.above y c (PySem.mem_of_lookup h)))
 ·unfold start;show _=N.length;rw[Zp,Ze,length_replicate];room
theorem qQ{CX:iQ}{P:Program}{w:World}{K:Frag}{mg:Str->Option Value}{base:Heap}{k:Nat}{f:Addr}{name qual:Str}{params:Arguments}{body:List Stmt}{scope:Scope}{dV kV doc pm cdv ct oc:Value}{an od:Option Addr}
  {osl:Array (Option Value)}{N ps:List Str}{sp:Sp}(lk:K.lookup f=some ⟨oc,od,.func (fnOf name qual params body scope dV kV doc pm an cdv ct),osl⟩) (hcd:codeIn K cdv qual=true) (S:ot N ps scope)
  (len:∀vs H Q E,sp vs H Q E->vs.length=ps.length)
  (hbody:∀(A:Around) (outer:List Env) (s:Shared) (H:Hp) (vs:List V) (Q:VK) (E:XK),aQ k (A.deeper (envOfC qual scope s.heap.objs.size f cdv))->sp vs H Q E ->
   ∃t,gN (iw CX P w K mg base N qual scope f cdv A outer s H E) body t/\t { nx:=λ_ H'=>Q .non H',rt:=Q} (start N vs) H) :
  aS P w K mg base CX (k+1) f (fnOf name qual params body scope dV kV doc pm an cdv ct) ps sp:=by
 refine⟨len,λA outer s H args us vs Q E hr e0 hb r hsp=>?_⟩;have hl:=len _ _ _ _ hsp;have KX:K.In s.heap:=e0.mod.qL.keeps λb o e=>(e0.bs b o e).1;have lim:s.heap.NoLimit:=e0.mod.nolimit.keeps λb o e=>(e0.bs b o e).1;have hkind:∀y∈ps.zip us,scope.names.lookup y.1=some .local\/(scope.names.lookup y.1=some .cell/\((cellsFrom (s.heap.objs.size+1) scope.names []).lookup y.1).isSome=true):=λ⟨n,v⟩ hy=>by
  rcases S.par n (of_mem_zip hy).1 with q|q
  ·exact .inl q
  ·exact .inr ⟨q,PySem.W.cellsFrom_some _ _ _ (.inl q)⟩
 refine codeAny_call_function hr.depth (KX _ _ lk) rfl S.co S.gen rfl (PySem.W.codeRec_of KX hcd) (hb _ _ _ _ ?_);refine wpAny_newFunctionEnv_cells S.kind hkind λenv he s1 x=>?_;subst he;refine⟨lim.keeps x.toInCall.keep,codeAny_func ?_⟩;obtain⟨t,ht,hq⟩:=hbody A outer s H vs Q E (hr.deeper _) hsp;have I:Inv (iw CX P w K mg base N qual scope f cdv A outer s H E) [] (start N vs) H s1:=Q6m S hr.hd e0 hl r x;refine Yd (ht [] s1 (start N vs) H _ I hq) (λfl s' hs=>?_) λe s' hs=>hs;have fin:∀{σ':St}{H':Hp}{v:V}{u:Value},Inv (iw CX P w K mg base N qual scope f cdv A outer s H E) [] σ' H' s'->RelV v u->Q v H'->CE outer P w H s Q u s':=
  fun{σ' H' v u} J rv q=>⟨v,H',J.os,J.bare,J.base,J.av,rv,q⟩
 cases fl with
 |ret u=>
  obtain⟨v,σ',H',J,rv,q⟩:=hs;exact fin J rv q
 |next=>
  obtain⟨σ',H',J,q⟩:=hs;exact fin (v:=V.non) (u:=Value.none) J rfl q
 |brk=>
  obtain⟨_,_,_,q⟩:=hs;exact False.elim q
 |cont=>
  obtain⟨_,_,_,q⟩:=hs;exact False.elim q
section
variable{X:Cx}{x:Str}{p pos:Pos}{e:Expr}{es:List Expr}{t:TA}{id T:String}{r:List V->Hp->VK->Prop}
def tCB(r:List V->Hp->VK->Prop)(t:TA):TE:=λσ H Q=>t σ H λvs H1=>r vs H1 Q
theorem Q4B(hc:jL X (.builtin id) r)(hg:Gl X x)(hm:X.mg x=none)(hv:bootBuiltins x=some (.builtin id))(ha:PA X (e::es) t)(hn:x ≠ "__name__":=by decide)(hdb:(x==("__debug__":Str))=false:=by decide)
  (he:starEach (e::es) X.env=(false,eval e X.env)::starEach es X.env:=by rfl) (hpl:(backTo pos (starEach es X.env)).any (·.1)=false:=by rfl):PE X (.Call (.Name x p) (e::es) [] pos) (tCB r t):=by
 intro pins s σ H Q I h;refine wpAny_Call_Name_kw (oG I hg hm hv ?_ hn hdb);exact PyProof.Rows.callWith_builtin1 (aE (ha pos pins s σ H _ I h) λus s1 ⟨vs,H1,I1,r1,q1⟩=>hc pins s1 σ H1 vs us Q I1 r1 q1) he hpl
theorem Q6n(hc:jL X (.type T) r)(hg:Gl X x)(hm:X.mg x=none)(hv:bootBuiltins x=some (.type T))(ha:PA X (e::es) t)(hn:x ≠ "__name__":=by decide)(hdb:(x==("__debug__":Str))=false:=by decide)
  (he:starEach (e::es) X.env=(false,eval e X.env)::starEach es X.env:=by rfl) (hpl:(backTo pos (starEach es X.env)).any (·.1)=false:=by rfl):PE X (.Call (.Name x p) (e::es) [] pos) (tCB r t):=by
 intro pins s σ H Q I h;refine wpAny_Call_Name_kw (oG I hg hm hv ?_ hn hdb);exact PyProof.Rows.callWith_type1 (aE (ha pos pins s σ H _ I h) λus s1 ⟨vs,H1,I1,r1,q1⟩=>hc pins s1 σ H1 vs us Q I1 r1 q1) he hpl
end
end L2
namespace HT
open PySem PyProof.Rows
section
open PySem.SeqAt
open PySem.AutoSeq1 (wpAny_loadPart')
open PySem.MeetsSeq PySem.MeetsSeq2 PySem.MeetsSeq3
end
section
variable{prog:Program}{w:World}{A:Around}{E:Value->Shared->Prop}{s:Shared}
noncomputable def aT(n d:Nat):Option Int->Nat
 |none=>d
 |some v=>if v<0 then (v+(n:Int)).toNat else min v.toNat n
theorem cC(n d:Nat):aT n d none=d:=rfl
theorem fB(n d k:Nat):aT n d (some (k:Int))=min k n:=by
 show (if (k:Int)<0 then ((k:Int)+(n:Int)).toNat else min (k:Int).toNat n)=min k n
 rw[Zd (by room),Int.toNat_natCast]
theorem gA(n d:Nat)(hd:d<=n)(o:Option Int):aT n d o<=n:=by
 cases o with
 |none=>exact hd
 |some v=>
  show (if v<0 then (v+(n:Int)).toNat else min v.toNat n)<=n
  by_cases hv:v<0
  ·rw[Zg hv];room
  ·rw[Zd hv];exact Nat.min_le_right _ _
theorem Q6o(v:Int)(n d:Nat):(if v<0 then max (v+(n:Int)) 0 else min v (n:Int))=((aT n d (some v):Nat):Int):=by
 show (if v<0 then max (v+(n:Int)) 0 else min v (n:Int))=(((if v<0 then (v+(n:Int)).toNat else min v.toNat n):Nat):Int)
 by_cases hv:v<0
 ·erw[Zg hv];room
 ·erw[Zd hv];room
theorem Q5x(lo hi:Option Int)(n:Nat):Builtin.Slice.sliceAdjust lo hi 1 (n:Int)=(((aT n 0 lo:Nat):Int),((aT n n hi:Nat):Int)):=by
 have h1:¬ ((1:Int)<0):=by room
 unfold Builtin.Slice.sliceAdjust;erw[h1,ZT];refine Prod.ext ?_ ?_
 ·cases lo with
  |none=>rfl
  |some v=>exact Q6o v n 0
 ·cases hi with
  |none=>rfl
  |some v=>exact Q6o v n n
theorem Q5y(i j:Nat):Builtin.Slice.slicePlaces (i:Int) (j:Int) 1=j-i:=by
 unfold Builtin.Slice.slicePlaces;have h1:(1:Int) > 0:=by room
 erw[h1,if_true,Int.ediv_one];split<;>room
theorem Q2s{Q:Option Int->Shared->Prop}(p:IsPart v o)(h:Q o s):wpAny (model prog w) A (Builtin.Slice.slicePartIndex v) Q E s:=by
 cases p with
 |none=>exact slicePart_none h
 |int i t=>exact slicePart_int h
theorem bV{sl:Addr}{vl vu:Value}{lo hi:Option Int}{n:Nat}{Q:Int×Int×Nat->Shared->Prop}(hs:s.heap.IsSliceOf sl vl vu .none)(pl:IsPart vl lo)(pu:IsPart vu hi)
  (h:Q (((aT n 0 lo:Nat):Int),1,aT n n hi-aT n 0 lo) s):wpAny (model prog w) A (Builtin.Slice.sliceApplied (.ref sl) (pure (n:Int))) Q E s:=by
 obtain⟨os,hos,hcs,hds⟩:=id hs;unfold Builtin.Slice.sliceApplied Builtin.Slice.sliceFields;refine Za (Za (wpAny_field hos hds (x:=vl) rfl (Za (wpAny_field hos hds (x:=vu) rfl (Za (wpAny_field hos hds (x:=.none) rfl (Zb ?_)))))));refine Za (slicePart_none ?_);show wpAny _ _ (if ((1:Int)==0)=true then _ else _) _ _ s
 rw[Zd (by decide)]
 refine Za (Q2s pl (Za (Q2s pu (Za (Zb ?_)))));show wpAny _ _ (match Builtin.Slice.sliceAdjust lo hi 1 (n:Int) with|(lo,hi)=>pure (lo,(1:Int),Builtin.Slice.slicePlaces lo hi 1)) _ _ s
 rw[Q5x lo hi n];show wpAny _ _ (pure (((aT n 0 lo:Nat):Int),(1:Int),Builtin.Slice.slicePlaces ((aT n 0 lo:Nat):Int) ((aT n n hi:Nat):Int) 1)) _ _ s;rw[Q5y];exact Zb h
theorem Q7T(xs:Array Value)(i k:Nat):((List.range k).filterMap λ(m:Nat)=>xs[((i:Int)+(m:Int) * 1).toNat]?).toArray=((xs.toList.drop i).take k).toArray:=by
 have e:(λ(m:Nat)=>xs[((i:Int)+(m:Int) * 1).toNat]?)=λm=>xs[i+m]?:=by
  funext m
  have:((i:Int)+(m:Int) * 1).toNat=i+m:=by room
  rw[this]
 rw[e];have:=pick_run xs i k;rw[List.filterMap_map]at this;have e2:((λx=>xs[x]?) ∘ λx=>i+x)=λm=>xs[i+m]?:=rfl;rw[e2]at this;rw[this]
theorem c6{t sl:Addr}{items:Array Value}{vl vu:Value}{lo hi:Option Int}{Q:Value->Shared->Prop}(ht:IsTup s.heap t items)(hs:s.heap.IsSliceOf sl vl vu .none)(pl:IsPart vl lo)(pu:IsPart vu hi)
  (hw:¬ (aT items.size 0 lo=0/\aT items.size items.size hi=items.size))
  (h:Q (.ref s.heap.objs.size) {s with heap:=s.heap.push { cls:=.type "tuple",data:=.seq ((items.toList.drop (aT items.size 0 lo)).take (aT items.size items.size hi-aT items.size 0 lo)).toArray}})
  (hsz:items.size<=sizeLine):wpAny (model prog w) A (getItem (.ref t) (.ref sl)) Q E s:=by
 have htake:sizeOk (.seq ((items.toList.drop (aT items.size 0 lo)).take (aT items.size items.size hi-aT items.size 0 lo)).toArray):=by
  show ((items.toList.drop (aT items.size 0 lo)).take (aT items.size items.size hi-aT items.size 0 lo)).toArray.size<=sizeLine;rw[Z2,ZD,length_drop,ZE];room
 have hj:aT items.size items.size hi<=items.size:=gA _ _ (Zy _) hi;obtain⟨os,hos,hcs,hds⟩:=id hs;have hTs:s.TypeIs (.ref sl) "slice":=⟨os,hos,hcs⟩;unfold getItem
 try with_reducible refine ZP ?_
 first|refine Za (Zb ?_)|skip
 refine Za (wpAny_sequenceKey ht.typeIs (by decide) ?_)
 refine Za (wpAny_callSpecial?_slot (name:=Str.ofString "__getitem__") ht.typeIs Yc
  (wpAny_call_entry Yc ht.typeIs entry_tuple_getitem ?_ (args_tuple_getitem _ _)))
 show wpAny _ _ (Builtin.Tuple.tupleItemsOf (.ref t) >>= _) _ _ s;refine Za (tupleItemsOf_ ht ?_);refine Za (wpAny_typeOf hTs ?_);rw[Zg (by decide)]
 refine Za (bV hs pl pu ?_);have hno:¬ ((((aT items.size 0 lo:Nat):Int)==0&&(1:Int)==1&&(aT items.size items.size hi-aT items.size 0 lo)==items.size)=true):=by
  intro q;rw[Zj,Zj]at q;have q1:((aT items.size 0 lo:Nat):Int)=0:=eq_of_beq q.1.1;have q2:aT items.size items.size hi-aT items.size 0 lo=items.size:=eq_of_beq q.2;exact hw ⟨by room,by room⟩
 show wpAny _ _ (if (((aT items.size 0 lo:Nat):Int)==0&&(1:Int)==1&&(aT items.size items.size hi-aT items.size 0 lo)==items.size)=true then _ else _) _ _ s
 rw[Zd hno,Q7T]
 first
  |exact Za (m:=Builtin.Tuple.tupleExact _) (Yn (Zb ⟨_,rfl,Zb h⟩) htake)
  |exact Za (m:=Builtin.Tuple.tupleExact _) (Yn (Za (Zb (Zb ⟨_,rfl,Zb h⟩))) htake)
  |exact Za (Za (m:=Builtin.Tuple.tupleExact _) (Yn (Zb (Zb ⟨_,rfl,Zb h⟩)) htake))
  |exact Za (Za (m:=Builtin.Tuple.tupleExact _) (Yn (Zb ⟨_,rfl,Zb h⟩) htake))
end
end HT
namespace L2
open PySem PySem.Spec PyProof.Rows
noncomputable abbrev TO:=St->Hp->(Option Int->Hp->Prop)->Prop
def PO(X:Cx)(e:Option Expr)(t:TO):Prop:=
 ∀(pins:List (Addr×Obj)) (s:Shared) (σ:St) (H:Hp) (Q:Option Int->Hp->Prop),Inv X pins σ H s->t σ H Q ->
  wpAny (model X.prog X.w) X.A (evalPart e X.env) (λu s'=>∃o H',Inv X pins σ H' s'/\IsPart u o/\Q o H') X.xe s
def jY:TO:=λ_ H Q=>Q none H
def pF(t:TE):TO:=λσ H Q=>t σ H λx H1=>∃i,x=.int i/\Q (some i) H1
theorem Q5z:∀{us:List Value},Vals (ns.map V.int) us->IntsAre us ns:=by
 induction ns with
 |nil=>intro us r;rw[map_nil]at r;cases r;exact .nil
 |cons n ns ih=>
  intro us r;rw[Zu]at r;cases r with
  |cons r1 r2=>
   obtain⟨t,e⟩:=r1;subst e;exact .cons n t (ih r2)
section
variable{X:Cx}{e:Expr}{te:TE}{lo hi:Option Expr}{tl th:TO}{pos p2:Pos}
theorem Qah:PO X none jY:=by
 intro pins s σ H Q I h;rw[evalPart_none];exact Zb ⟨none,H,I,.none,h⟩
theorem Qai(h:PE X e te):PO X (some e) (pF te):=by
 intro pins s σ H Q I hw;rw[evalPart_some];refine aE (h pins s σ H _ I hw) λu s1 ⟨x,H1,I1,r1,q1⟩=>?_;obtain⟨i,rfl,q⟩:=q1;obtain⟨t,rfl⟩:=r1;exact⟨some i,H1,I1,.int i t,q⟩
def SlR(X:Cx)(r:V->Option Int->Option Int->Hp->VK->Prop):Prop:=
 ∀(pins:List (Addr×Obj)) (s:Shared) (σ:St) (H:Hp) (x:V) (v vl vu:Value) (lo hi:Option Int) (sl:Addr) (Q:VK),Inv X pins σ H s->RelV x v->s.heap.IsSliceOf sl vl vu .none->IsPart vl lo->IsPart vu hi->r x lo hi H Q ->
  ∃T id,typeLookup (.type T) "__getitem__" = pure (some (.builtin id))/\s.TypeIs v T/\wpAny (model X.prog X.w) X.A (getItem v (.ref sl)) (EP X pins σ Q) X.xe s
def tSl(r:V->Option Int->Option Int->Hp->VK->Prop)(te:TE)(tl th:TO):TE:=λσ H Q=>te σ H λx H1=>tl σ H1 λl H2=>th σ H2 λu H3=>r x l u H3 Q
theorem Q7U{r:V->Option Int->Option Int->Hp->VK->Prop}(hr:SlR X r)(he:PE X e te)(hl:PO X lo tl)(hu:PO X hi th):PE X (.Subscript e (.Slice lo hi none p2) pos) (tSl r te tl th):=by
 intro pins s σ H Q I h;refine Subscript_ (aE (he pins s σ H _ I h) λv s1 ⟨x,H1,I1,r1,q1⟩=>?_);refine wpAny_Slice (aE (hl pins s1 σ H1 _ I1 q1) λvl s2 ⟨l,H2,I2,pl,q2⟩=>aE (hu pins s2 σ H2 _ I2 q2) λvu s3 ⟨u,H3,I3,pu,q3⟩=>?_);rw[evalPart_none];refine Zb ?_;have I4:Inv X pins σ H3 {s3 with heap:=s3.heap.push { cls:=.type "slice",data:=.fields #[vl,vu,.none]}}:=I3.kept (t':=s3.toks) λb ob q=>Zi _ q;obtain⟨T,id,hT,ht,hg⟩:=hr pins {s3 with heap:=s3.heap.push { cls:=.type "slice",data:=.fields #[vl,vu,.none]}} σ H3 x v vl vu l u s3.heap.objs.size Q I4 r1 (Heap.IsSliceOf.new ..) pl pu q3;show wpAny (model X.prog X.w) X.A (subscriptTail e (.Slice lo hi none p2) v (.ref s3.heap.objs.size)) (EP X pins σ Q) X.xe {s3 with heap:=s3.heap.push { cls:=.type "slice",data:=.fields #[vl,vu,.none]}};exact tail_any (ops:=[.ref s3.heap.objs.size,v]) ht hT hg (by with_unfolding_all rfl)
noncomputable def fU(xs:List V)(lo hi:Option Int):List V:=(xs.drop (HT.aT xs.length 0 lo)).take (HT.aT xs.length xs.length hi-HT.aT xs.length 0 lo)
theorem Q1T(xs:List V)(lo hi:Option Int):(fU xs lo hi).length<=xs.length:=by
 unfold fU;rw[ZD,length_drop];room
def rSlT(K:Frag):V->Option Int->Option Int->Hp->VK->Prop:=λx lo hi H Q=>∃a xs,x=.ref a/\eQ K H a xs /\
 ¬ (HT.aT xs.length 0 lo=0/\HT.aT xs.length xs.length hi=xs.length)/\∀p,H p=none->Q (.ref p) (upd H p (.tup (fU xs lo hi)))
theorem Qcb:SlR X (rSlT X.K):=by
 intro pins s σ H x v vl vu lo hi sl Q I rx hs pl pu h;obtain⟨a,xs,rfl,hx,hw,q⟩:=h;cases rx;obtain⟨its,r,ht,hz⟩:=I.tuple hx;have hlen:its.toArray.size=xs.length:=by rw[Z2];exact r.length.symm
 refine⟨"tuple",_,Yc.lookup,ht.typeIs,?_⟩;refine HT.c6 ht hs pl pu (by rw[hlen];exact hw) ?_ (by rw[hlen];exact hz)
 rw[hlen];refine⟨.ref s.heap.objs.size,_,I.laid (t':=s.toks) (o:=.tup (fU xs lo hi)) (λb ob q=>Zi _ q) (Zy _) ?_,rfl,q _ (I.av.fresh (Zy _))⟩;exact⟨ZF (Q1T xs lo hi) hz,_,(r.drop (HT.aT xs.length 0 lo)).take (HT.aT xs.length xs.length hi-HT.aT xs.length 0 lo),IsTup.new _ _⟩
end
noncomputable def kh(n:Nat)(i:Int):Option Nat:=if 0<=i then (if i<n then some i.toNat else none) else if -(n:Int)<=i then some (i+n).toNat else none
noncomputable def b8{α:Type}(xs:List α)(i:Int):Option α:=(kh xs.length i).bind λj=>xs[j]?
theorem Qaj(h:kh n i=some j):seqIndex? i n=some j/\j<n /\ -(n:Int)<=i/\i<n:=by
 unfold kh at h;by_cases h0:0<=i
 ·rw[Zg h0]at h;by_cases h1:i<n
  ·rw[Zg h1]at h;have e:i.toNat=j:=Z3 h;exact⟨by rw[seqIndex_of h0 h1,e],by room,by room,h1⟩
  ·rw[Zd h1]at h;cases h
 ·rw[Zd h0]at h;by_cases h1:-(n:Int)<=i
  ·rw[Zg h1]at h;have e:(i+n).toNat=j:=Z3 h;exact⟨by rw[seqIndex_neg (by room) h1,e],by room,h1,by room⟩
  ·rw[Zd h1]at h;cases h
theorem Q2G{α:Type}{xs:List α}{i:Int}{v:α}(h:b8 xs i=some v):∃j,seqIndex? i xs.length=some j/\xs[j]?=some v/\j<xs.length /\ -(xs.length:Int)<=i/\i<xs.length:=by
 unfold b8 at h;cases e:kh xs.length i with
 |none=>rw[e]at h;cases h
 |some j=>
  rw[e]at h;obtain⟨h1,h2,h3,h4⟩:=Qaj e;exact⟨j,h1,h,h2,h3,h4⟩
theorem cL{α:Type}(xs:List α)(v:α):b8 (xs++[v]) (-1)=some v:=by
 have hl:(xs++[v]).length=xs.length+1:=by simp
 have e:kh (xs++[v]).length (-1)=some xs.length:=by
  unfold kh;rw[hl,Zd (by decide),Zg (by room)]
  congr 1;room
 unfold b8;rw[e];show (xs++[v])[xs.length]?=some v;simp
def zbD(b:Expr):Prop:=∀o i,subscripted b false o i=operate [o,i] (getItem o i)
def si(X:Cx)(r:R2):Prop:=
 ∀(value slice:Expr) (pins:List (Addr×Obj)) (s:Shared) (σ:St) (H:Hp) (x y:V) (v u:Value) (Q:VK),Inv X pins σ H s->RelV x v->RelV y u->r x y H Q ->
  subscripted slice false v u=operate [v,u] (getItem v u)->wpAny (model X.prog X.w) X.A (subscriptTail value slice v u) (EP X pins σ Q) X.xe s
def MtR(X:Cx)(id:String)(r:V->List V->Hp->VK->Prop):Prop:=
 ∀(pins:List (Addr×Obj)) (s:Shared) (σ:St) (H:Hp) (x:V) (xs:List V) (v:Value) (us:List Value) (Q:VK),Inv X pins σ H s->RelV x v->Vals xs us->r x xs H Q ->
  wpAny (model X.prog X.w) X.A (call (.builtin id) (v::us)) (EP X pins σ Q) X.xe s
section
variable{X:Cx}{a b:Expr}{ta tb:TE}{pos:Pos}
theorem qk(hr:si X r)(ha:PE X a ta)(hb:PE X b tb)(hs:zbD b):PE X (.Subscript a b pos) (pG r ta tb):=by
 intro pins s σ H Q I h;exact Subscript_ (nI ha hb I h λv u s2 x y H2 I2 rx ry q=>hr a b pins s2 σ H2 x y v u Q I2 rx ry q (hs _ _))
def rIxL(K:Frag):R2:=λx y H Q=>∃p xs i v,x=.ref p/\y=.int i/\cB K H p xs/\b8 xs i=some v/\Q v H
def rIxT(K:Frag):R2:=λx y H Q=>∃p xs i v,x=.ref p/\y=.int i/\eQ K H p xs/\b8 xs i=some v/\Q v H
def rIxS:R2:=λx y H Q=>∃z i c,x=.str z/\y=.int i/\z.length<=sizeLine/\b8 z.cps.toList i=some c/\Q (.str ⟨#[c]⟩) H
theorem Qak:si X (rIxL X.K):=by
 intro value slice pins s σ H x y v u Q I rx ry h hs;obtain⟨p,xs,i,z,rfl,rfl,hq,he,q⟩:=h;cases rx;obtain⟨t,rfl⟩:=ry;obtain⟨its,r,pl,hz⟩:=I.list hq;obtain⟨j,h1,h2,h3,h4,h5⟩:=Q2G he;obtain⟨w,ew,rw'⟩:=r.get h2;have hl:=r.length;have hn:=eL;have fin:EP X pins σ Q w s:=⟨z,H,I,rw',q⟩;by_cases h0:0<=i
 ·have hj:i.toNat=j:=by
   rw[seqIndex_of h0 h5]at h1;exact Z3 h1
  exact item_listR pl.isList h0 (by room) (by rw[hj];simpa using ew) fin hs
 ·have hj:(i+(its.toArray.size:Int)).toNat=j:=by
   rw[seqIndex_neg (by room) h4]at h1
   rw[Z2,<- hl];exact Z3 h1
  exact subscriptTail_builtinR (x:=w) pl.isList.typeIs slot_list_getitem.lookup
   (wpAny_getItem_list_neg (Q:=λr s'=>r=w/\EP X pins σ Q r s') pl.isList (by room) (by rw[Z2]<;>room) (by room) (by rw[hj];simpa using ew) ⟨rfl,fin⟩) hs
theorem ix_tup:si X (rIxT X.K):=by
 intro value slice pins s σ H x y v u Q I rx ry h hs;obtain⟨p,xs,i,z,rfl,rfl,hq,he,q⟩:=h;cases rx;obtain⟨t,rfl⟩:=ry;obtain⟨its,r,pl,hz⟩:=I.tuple hq;obtain⟨j,h1,h2,h3,h4,h5⟩:=Q2G he;obtain⟨w,ew,rw'⟩:=r.get h2;have hl:=r.length;have hn:=eL;have fin:EP X pins σ Q w s:=⟨z,H,I,rw',q⟩;exact subscriptTail_builtinR (x:=w) pl.typeIs slot_tuple_getitem.lookup
  (getItem_tuple (j:=j) (Q:=λr s'=>r=w/\EP X pins σ Q r s') pl (by room) (by room) (by rw[Z2,<- hl];exact h1) (by simpa using ew) ⟨rfl,fin⟩) hs
theorem gD:si X rIxS:=by
 intro value slice pins s σ H x y v u Q I rx ry h hs;obtain⟨z,i,c,rfl,rfl,hz,he,q⟩:=h;obtain⟨t,rfl⟩:=rx;obtain⟨t',rfl⟩:=ry;obtain⟨j,h1,h2,h3,h4,h5⟩:=Q2G he;have hl:z.cps.toList.length=z.length:=by simp[Str.length]
 rw[hl]at h1 h4 h5;have hn:=eL;exact tail_any (typeIs_str s z t) slot_str_getitem.lookup (getItem_str (c:=c) (by
  have e1:decide (i < -(2 ^ 63:Int))=false:=Zt (by room)
  have e2:decide (i >= 2 ^ 63)=false:=Zt (by room)
  rw[e1,e2,Bool.or_false]) (by rw[h1];simpa using h2) ⟨.str ⟨#[c]⟩,H,I.tok _,⟨_,rfl⟩,q⟩) hs
theorem Q3i(lo hi:Option Int)(n:Nat):(sliceBounds lo hi none n).1=((HT.aT n 0 lo:Nat):Int)/\(sliceBounds lo hi none n).2.1=((HT.aT n n hi:Nat):Int)/\(sliceBounds lo hi none n).2.2=1:=by
 refine⟨?_,?_,rfl⟩
 ·cases lo with
  |none=>simp[sliceBounds,HT.aT]
  |some i=>
   erw[sliceBounds,HT.aT,Option.getD_none,show (1:Int) > 0 by decide,if_true]
   by_cases h:i<0
   ·erw[h,if_true]<;>room
   ·erw[h,ZT]<;>room
 ·cases hi with
  |none=>simp[sliceBounds,HT.aT]
  |some i=>
   erw[sliceBounds,HT.aT,Option.getD_none,show (1:Int) > 0 by decide,if_true]
   by_cases h:i<0
   ·erw[h,if_true]<;>room
   ·erw[h,ZT]<;>room
theorem Q2H(its:List Value)(lo hi:Option Int):slicePick its.toArray lo hi none=((its.drop (HT.aT its.length 0 lo)).take (HT.aT its.length its.length hi-HT.aT its.length 0 lo)).toArray:=by
 obtain⟨h1,h2,h3⟩:=Q3i lo hi its.toArray.size;unfold slicePick;rw[h1,h2,h3];erw[sliceRange_one,pick_run,Z2]<;>rfl
def rSlL(K:Frag):V->Option Int->Option Int->Hp->VK->Prop:=λx lo hi H Q=>∃a xs,x=.ref a/\cB K H a xs/\∀p,H p=none->Q (.ref p) (upd H p (.lst (fU xs lo hi)))
theorem Qal:SlR X (rSlL X.K):=by
 intro pins s σ H x v vl vu lo hi sl Q I rx hs pl pu h;obtain⟨a,xs,rfl,hx,q⟩:=h;cases rx;obtain⟨its,r,ht,hz⟩:=I.list hx;have hlen:=r.length;refine⟨"list",_,slot_list_getitem.lookup,ht.isList.typeIs,?_⟩;refine wpAny_getItem_list_slice ht.isList hs pl pu .none (by simp) ?_ (by rw[Z2]<;>room)
 rw[Q2H,<- hlen];refine⟨.ref s.heap.objs.size,_,I.laid (t':=s.toks) (o:=.lst (fU xs lo hi)) (λb ob q=>Zi _ q) (Zy _) ?_,rfl,q _ (I.av.fresh (Zy _))⟩;exact⟨ZF (Q1T xs lo hi) hz,_,0,(r.drop (HT.aT xs.length 0 lo)).take (HT.aT xs.length xs.length hi-HT.aT xs.length 0 lo),Zw _ rfl⟩
theorem Q0Y:jL X (.builtin "len") (λxs H Q=>∃p ys,xs=[.ref p]/\(cB X.K H p ys\/eQ X.K H p ys)/\Q (.int ys.length) H):=by
 intro pins s σ H xs us Q I r h;obtain⟨p,ys,rfl,hq,q⟩:=h;obtain⟨u,rfl,rx⟩:=vals1 r;cases rx;have hn:=eL;rcases hq with hq|hq
 ·obtain⟨its,r',pl,hz⟩:=I.list hq;have hlen:=r'.length;exact Calls.call_len_list pl.isList (by erw[Z2]<;>room) ⟨.int ys.length,H,I.tok _,⟨s.toks+1,by rw[Z2,hlen]⟩,q⟩
 ·obtain⟨its,r',pl,hz⟩:=I.tuple hq;have hlen:=r'.length;exact len_tuple pl (by erw[Z2]<;>room) ⟨.int ys.length,H,I.tok _,⟨s.toks+1,by rw[Z2,hlen]⟩,q⟩
theorem Q3j:jL X (.builtin "len") (λxs H Q=>∃z,xs=[.str z]/\z.length<=sizeLine/\Q (.int z.length) H):=by
 intro pins s σ H xs us Q I r h;obtain⟨z,rfl,hz,q⟩:=h;obtain⟨u,rfl,t,rfl⟩:=vals1 r;have hn:=eL;exact len_str (by room) ⟨.int z.length,H,I.tok _,⟨_,rfl⟩,q⟩
theorem Q3k:jL X (.type "list") (λxs H Q=>∃p ys,xs=[.ref p]/\(cB X.K H p ys\/eQ X.K H p ys)/\∀l,H l=none->Q (.ref l) (upd H l (.lst ys))):=by
 intro pins s σ H xs us Q I r h;obtain⟨p,ys,rfl,hq,q⟩:=h;obtain⟨u,rfl,rx⟩:=vals1 r;cases rx;have fin:∀(its:List Value),Vals ys its->ys.length<=sizeLine->∀(h':Heap) (c':Nat),(∀b o',s.heap.get? b=some o'->h'.get? b=some o') ->
   h'.get? s.heap.objs.size=some { cls:=.type "list",dict:=none,data:=.seq its.toArray c',slots:=#[]}->EP X pins σ Q (.ref s.heap.objs.size) {s with heap:=h'}:=λits r' hz h' c' kp e=>
  ⟨.ref s.heap.objs.size,_,I.laid (t':=s.toks) kp (Zy _) (show aG X.prog X.w _ h' _ (.lst ys) from⟨hz,its,c',r',e⟩),rfl,q _ (I.av.fresh (Zy _))⟩
 rcases hq with hq|hq
 ·obtain⟨its,r',pl,hz⟩:=I.list hq;have hlen:=r'.length;obtain⟨o,ho,hc,n,hd⟩:=pl.isList;exact call_list_seq p (.inl rfl) ho hc hd (λh' c' kp e=>fin its r' hz h' c' kp e) (by erw[Z2]<;>room)
 ·obtain⟨its,r',pl,hz⟩:=I.tuple hq;have hlen:=r'.length;obtain⟨o,ho,hc,n,hd⟩:=pl;exact call_list_seq p (.inr rfl) ho hc hd (λh' c' kp e=>fin its r' hz h' c' kp e) (by erw[Z2]<;>room)
theorem Q2I:jL X (.type "tuple") (λxs H Q=>∃p ys,xs=[.ref p]/\((cB X.K H p ys/\∀l,H l=none->Q (.ref l) (upd H l (.tup ys)))\/(eQ X.K H p ys/\Q (.ref p) H))):=by
 intro pins s σ H xs us Q I r h;obtain⟨p,ys,rfl,h⟩:=h;obtain⟨u,rfl,rx⟩:=vals1 r;cases rx;rcases h with ⟨hq,q⟩|⟨hq,q⟩
 ·obtain⟨its,r',pl,hz⟩:=I.list hq;have hlen:=r'.length;refine call_tuple_list pl.isList (λh' kp=>?_) (by erw[Z2]<;>room)
  have I1:Inv X pins σ H {s with heap:=h'}:=I.kept (t':=s.toks) kp;have I2:Inv X pins σ (upd H h'.objs.size (.tup ys)) {s with heap:=h'.push { cls:=.type "tuple",data:=.seq its.toArray}}:=
   I1.laid (t':=s.toks) (λb o e=>Zi _ e) (Zy _) (show aG X.prog X.w _ _ _ (.tup ys) from⟨hz,its,r',IsTup.new _ _⟩)
  exact⟨.ref h'.objs.size,_,I2,rfl,q _ (I1.av.fresh (Zy _))⟩
 ·obtain⟨its,r',pl,hz⟩:=I.tuple hq;exact call_tuple_same pl ⟨.ref p,H,I,rfl,q⟩
def tyV(K:Frag)(T:String)(x:V)(H:Hp):Prop:=match x with
 |.str _=>T = "str"
 |.int _=>T = "int"
 | .ref p=>(T = "list" /\ ∃xs,cB K H p xs)\/(T = "tuple" /\ ∃o,K.lookup p=some o/\o.cls=.type "tuple" /\ o.dict=none) \/
   (T = "dict" /\ ((∃kvs,H p=some (.dK kvs))\/∃kvs,H p=some (.dT kvs)))\/(T = "set" /\ ∃S n,H p=some (.set S n))
 |_=>False
theorem Q9C(I:Inv X pins σ H s)(r:RelV x v)(ty:tyV X.K T x H) :
  s.TypeIs v T/\∀a,v=.ref a->∃ob,s.heap.get? a=some ob/\ob.dict=none:=by
 cases x with
 |str z=>
  obtain⟨t,rfl⟩:=r;cases (show T = "str" from ty);exact⟨typeIs_str s z t,λ_ e=>nomatch e⟩
 |int i=>
  obtain⟨t,rfl⟩:=r;cases (show T = "int" from ty);exact⟨typeIs_int s i t,λ_ e=>nomatch e⟩
 |ref p=>
  cases r;rcases ty with ⟨rfl,xs,hq⟩|⟨rfl,o,hk,hc,hd⟩|⟨rfl,hk⟩|⟨rfl,S,n,hk⟩
  ·obtain⟨its,_,pl,_⟩:=I.list hq;refine⟨pl.isList.typeIs,λa e=>?_⟩;cases e;obtain⟨o,n,e,c,hd,_⟩:=pl;exact⟨o,e,hd⟩
  ·refine⟨⟨o,I.cX p o hk,hc⟩,λa e=>?_⟩;cases e;exact⟨o,I.cX _ o hk,hd⟩
  ·have z:∃o,s.heap.get? p=some o/\o.ExactDict:=by
    rcases hk with ⟨kvs,hk⟩|⟨kvs,hk⟩
    ·obtain⟨_,_,_,_,o,_,_,e,ex,_⟩:=I.av p _ hk;exact⟨o,e,ex⟩
    ·obtain⟨_,_,_,_,o,_,_,e,ex,_⟩:=I.av p _ hk;exact⟨o,e,ex⟩
   obtain⟨o,e,ex⟩:=z;refine⟨⟨o,e,ex.1⟩,λa e2=>?_⟩;cases e2;exact⟨o,e,ex.2.1⟩
  ·obtain⟨o,_,_,_,e,ex,_⟩:=I.av p _ hk;refine⟨⟨o,e,ex.1⟩,λa e2=>?_⟩;cases e2;exact⟨o,e,ex.2.1⟩
 |_=>exact False.elim ty
def tBM0(K:Frag)(T:String)(r:V->List V->Hp->VK->Prop)(to:TE):TE:=λσ H Q=>to σ H λx H1=>tyV K T x H1/\r x [] H1 Q
def tBM(K:Frag)(T:String)(r:V->List V->Hp->VK->Prop)(to:TE)(t:TA):TE:=λσ H Q=>to σ H λx H1=>tyV K T x H1/\t σ H1 λxs H2=>r x xs H2 Q
variable{o e:Expr}{es:List Expr}{to:TE}{t:TA}{name:Str}{apos cpos:Pos}{T id:String}{r:V->List V->Hp->VK->Prop}
theorem Qcc(pa:PlainAttrs T)(slot:Slot T name id)(hty:typeOf (.builtin id)=pure (.type "method_descriptor"))(hm:MtR X id r)(ho:PE X o to)
  (hbase:attributeBase o name X.env (eval o X.env)=eval o X.env:=by rfl) (hline:(apos.endLine==cpos.line)=true:=by rfl):PE X (.Call (.Attribute o name apos) [] [] cpos) (tBM0 X.K T r to):=by
 intro pins s σ H Q I h;refine wpAny_Call_method0_late hbase hline (aE (ho pins s σ H _ I h) λv s1 ⟨x,H1,I1,r1,ty,q1⟩=>?_);obtain⟨h1,h2⟩:=Q9C I1 r1 ty;exact⟨T,id,pa,slot,hty,h1,h2,Yj rfl (PySem.evalArgs_none (hm pins s1 σ H1 x [] v [] Q I1 r1 .nil q1))⟩
theorem qm(pa:PlainAttrs T)(slot:Slot T name id)(hty:typeOf (.builtin id)=pure (.type "method_descriptor"))(hm:MtR X id r)(ho:PE X o to)(ha:PA X (e::es) t)
  (hbase:attributeBase o name X.env (eval o X.env)=eval o X.env:=by rfl)
  (hfew:((backTo cpos (starEach (e::es) X.env)).all (λx=>!x.1)&&(backToKw cpos (keywordEach [] X.env)).all (λx=>x.1.isSome)
   && decide ((e::es).length+([]:List Keyword).length+(if ([]:List Keyword).isEmpty then 0 else 1)<30))=true:=by rfl)
  (hline:(apos.endLine==cpos.line)=true:=by rfl) (hs:starEach (e::es) X.env=(false,eval e X.env)::starEach es X.env:=by rfl) (hplain:(backTo cpos (starEach es X.env)).any (·.1)=false:=by rfl) :
  PE X (.Call (.Attribute o name apos) (e::es) [] cpos) (tBM X.K T r to t):=by
 intro pins s σ H Q I h;refine wpAny_Call_method_late hbase hfew hline rfl (aE (ho pins s σ H _ I h) λv s1 ⟨x,H1,I1,r1,ty,q1⟩=>?_);obtain⟨h1,h2⟩:=Q9C I1 r1 ty;refine⟨T,id,pa,slot,hty,h1,h2,?_⟩;have hA:=ha cpos pins s1 σ H1 _ I1 q1;rw[hs]at hA ⊢;refine Yj (by show (false||(backTo cpos (starEach es X.env)).any (·.1))=false;rw[hplain]<;>rfl) (Calls.evalArgs_plain ?_)
 exact aE hA λus s2 ⟨vs,H2,I2,r2,q2⟩=>hm pins s2 σ H2 x vs v us Q I2 r1 r2 q2
end
def MtM(X:Cx)(id:String)(r:V->List V->Hp->VK->Prop):Prop:=
 ∀(pins:List (Addr×Obj)) (s:Shared) (σ:St) (H:Hp) (x:V) (xs:List V) (v:Value) (us:List Value) (Q:VK),Inv X pins σ H s->RelV x v->Vals xs us->r x xs H Q ->
  wpAny (model X.prog X.w) X.A (call (.builtin id) (v::us)) (EP X pins σ Q) X.xe s
theorem Vals.one(h:Vals [x] us):∃u,us=[u]/\RelV x u:=by
 cases h with|cons r t=>cases t;exact⟨_,rfl,r⟩
theorem Vals.zero:∀{us:List Value},Vals [] us->us=[]
 |_,.nil=>rfl
theorem Vals.dropLast(h:Vals xs us):Vals xs.dropLast us.dropLast:=by
 induction h with
 |nil=>exact .nil
 |cons r t ih=>
  cases t with
  |nil=>exact .nil
  |cons q t'=>exact .cons r ih
theorem Q5A{α:Type}(l:List α):l.eraseIdx (l.length-1)=l.dropLast:=by
 induction l with
 |nil=>rfl
 |cons a r ih=>
  cases r with
  |nil=>rfl
  |cons b r=>
   have e:(a::b::r).length-1=((b::r).length-1)+1:=by
    have h1:(a::b::r).length=r.length+2:=rfl;have h2:(b::r).length=r.length+1:=rfl;room
   rw[e,List.eraseIdx_cons_succ,ih]
   all_goals rfl
section
variable{X:Cx}{pins:List (Addr×Obj)}{σ:St}{H:Hp}{s:Shared}{l b:Addr}{xs ys zs:List V}
theorem Inv.nh{its its':List Value}{n:Nat}{f:Array Value->Array Value}{t':Nat}(I:Inv X pins σ H s)(hH:H l=some (.lst xs))
  (e:s.heap.get? l=some { cls:=.type "list",data:=.seq its.toArray n}) (hf:f its.toArray=its'.toArray) (hv:Vals ys its') (hz:ys.length<=sizeLine) :
  Inv X pins σ (upd H l (.lst ys)) {s with heap:=s.heap.update l (Obj.mapSeq f),toks:=t'}:=by
 have q:=PySem.IsL.update e f;rw[hf]at q;refine I.write (x:=l) (e:=l) (by rw[hH];exact trivial) (.inl rfl) (λb' u hb hu=>(Heap.get?_update_other s.heap (Obj.mapSeq f) (Ne.symm hb)).trans hu) ⟨_,q⟩ ?_
 exact⟨hz,its',_,hv,q⟩
theorem Inv.lnew(I:Inv X pins σ H s)(hv:Vals ys its)(hz:ys.length<=sizeLine) :
  Inv X pins σ (upd H s.heap.objs.size (.lst ys)) {s with heap:=s.heap.push { cls:=.type "list",data:=.seq its.toArray},toks:=t'}:=
 I.laid (λ_ _ q=>Zi _ q) (Zy _) ⟨hz,its,0,hv,Zw _ rfl⟩
theorem Inv.fresh(I:Inv X pins σ H s):H s.heap.objs.size=none:=I.av.fresh (Zy _)
theorem Inv.m9(I:Inv X pins σ H s)(hH:H l=some (.lst xs)):xs.length<=sizeLine/\∃(its:List Value) (n:Nat),Vals xs its/\xs.length=its.length/\s.heap.get? l=some { cls:=.type "list",data:=.seq its.toArray n}:=by
 obtain⟨z,its,n,r,e⟩:=I.av l _ hH;exact⟨z,its,n,r,r.length,e⟩
theorem jh(h:n<=sizeLine):Builtin.List.listTooLong n=false:=by
 unfold Builtin.List.listTooLong;exact Zt (by room)
end
section
variable{X:Cx}
def j6:V->List V->Hp->VK->Prop:=λx vs H Q=>∃l xs y,x=.ref l/\vs=[y]/\H l=some (.lst xs)/\xs.length<sizeLine/\Q .non (upd H l (.lst (xs++[y])))
theorem Q6p:MtM X "list.append" j6:=by
 intro pins s σ H x vs v us Q I rx rv h;obtain⟨l,xs,y,rfl,rfl,hH,hz,q⟩:=h;cases rx;obtain⟨u,rfl,ru⟩:=rv.one;obtain⟨z,its,n,r,hl,e⟩:=I.m9 hH;refine call_meets F.slot_list_append ⟨_,e,rfl⟩ F.entry_list_append (F.args_list_append_2 _ _) (PySem.list_append l its.toArray n u (by rw[Z2];room)) ⟨e,?_⟩
 refine⟨.non,_,I.nh (its':=its++[u]) hH e (by simp) (r.append (.cons ru .nil)) ?_,rfl,q⟩
 rw[Zp,length_singleton];room
def rPop:V->List V->Hp->VK->Prop:=λx vs H Q=>∃l xs y,x=.ref l/\vs=[]/\H l=some (.lst xs)/\xs[xs.length-1]?=some y/\Q y (upd H l (.lst xs.dropLast))
theorem Qcd:MtM X "list.pop" rPop:=by
 intro pins s σ H x vs v us Q I rx rv h;obtain⟨l,xs,y,rfl,rfl,hH,hy,q⟩:=h;cases rx;have hus:=rv.zero;subst hus;obtain⟨z,its,n,r,hl,e⟩:=I.m9 hH;obtain⟨u,hu,ru⟩:=r.get hy;have hy':its.toArray[its.toArray.size-1]?=some u:=by
  show its.toArray[its.length-1]?=some u;rw[<- Array.getElem?_toList,<- hl];exact hu
 refine call_meets F.slot_list_pop ⟨_,e,rfl⟩ F.entry_list_pop (F.args_list_pop_1 _) (MeetsSeq.list_pop_last l its.toArray n u hy' (by rw[Z2];room)) ⟨e,?_⟩
 refine⟨y,_,I.nh (its':=its.dropLast) hH e ?_ r.dropLast ?_,ru,q⟩
 ·show its.toArray.eraseIdxIfInBounds (its.toArray.size-1)=its.dropLast.toArray;rw[Z2,List.eraseIdxIfInBounds_toArray,Q5A]
 ·rw[List.length_dropLast];room
end
section
variable{prog:Program}{w:World}{A:Around}{E:Value->Shared->Prop}{s:Shared}
end
section
variable{X:Cx}
end
end L2
namespace Att
open PySem PySem.W PySem.Calls PyProof.Rows
theorem Q1U:∀(ns:List Int) (vs:List Value),WellAll P h vs (ns.map WData.int)->IntsAre vs ns:=by
 intro ns
 induction ns with
 |nil=>
  intro vs w;rw[map_nil]at w;cases w;exact .nil
 |cons n ns ih=>
  intro vs w;rw[Zu]at w;cases w with
  |cons a b=>
   cases a;exact .cons _ _ (ih _ b)
theorem Q6q{l:OpenLaw}{n:Nat}(hn:l.most=some n){P:Params}{h:Heap}{args:List WData}{vals:List Value}
  (hpre:l.row.toRowW.claim.pre args=true) (hwl:WellAll P h vals args) :
  ∃a vs ns,vals=[Value.ref a]/\args=[WData.list (ns.map WData.int)]/\h.get? a=some { cls:=.type "list",data:=.seq vs.toArray}/\IntsAre vs ns/\ns.length<=n:=by
 have hsh:WShape.hasAll [] args [.list .int]=true:=(pre_splitW hpre).1;have hc:l.pre.holds [] { args:=args}=true:=(pre_splitW hpre).2;obtain⟨d,r,rfl,h1,h2⟩:=hasAllW_cons hsh;obtain rfl:=hasAllW_nil h2;obtain⟨xs,rfl,h3⟩:=hasW_list h1;obtain⟨ns,rfl⟩:=items_int h3;have hlen:ns.length<=n:=by
  unfold OpenLaw.pre at hc;have h4:(WTm.not (.lt (.lit (.int (n:Int))) (.len (.arg 0)))).holds [] { args:=[.list (ns.map .int)]}=true:=by
   have h4:=(holds_andW hc).1;rw[hn]at h4;exact h4
  have h5:=condW_of h4 (w_not (w_lt w_lit (w_len_list (w_arg rfl))));rw[Ze]at h5;refine le_of_not_lt λq=>?_;have q':(n:Int)<((ns.length:Nat):Int):=by room
  first
   |(rw[Z7 q']at h5;exact absurd h5 (by decide))
   |(simp at h5;room)
 cases hwl with
 |cons w1 w2=>
  cases w2;cases w1 with
  |list ho hall=>exact⟨_,_,ns,rfl,rfl,ho,Q1U ns _ hall,hlen⟩
theorem Q6r(l:OpenLaw)(args:List WData):l.row.toRowW.claim.post args (.bool true) args=true:=
 postW_of (r:=l.row.toRowW) (X:=(true==true))
  (show WShape.has [] (.bool true) .bool=true by first|rfl|decide|simp[WShape.has,WShape.arms,WShape.armsAll])
  (show (WTm.eq .res (.lit (.bool true))).value [] { args:=args,res:=some (.bool true),after:=args}=some (.bool (true==true)) from w_eq_bool (w_res rfl) w_lit) rfl
theorem fW{l:OpenLaw}{n:Nat}{q:Program}{loose:List Str}{XP:(Str->Option Value)->Heap->Prop}{YP:World->Heap->Prop}{d:DefRec}
  (hn:l.most=some n) (hdf:d.params.defaults=[])
  (call:∀(w:World) (s₀ s₁:Shared) (mg mb:Str->Option Value) (fa:Addr) (o:Obj) (pm cd doc:Value) (a:Addr) (vs:List Value) (ns:List Int),
   Ground q loose [] XP w s₀ mg mb s₁.heap->YP w s₁.heap ->
   s₁.heap.get? fa=some o->o.data=.func (docDef d.name d.params d.body d.scope pm cd doc)->s₁.heap.CodeRec cd d.name->mg d.name=some (.ref fa) ->
   s₁.heap.get? a=some { cls:=.type "list",data:=.seq vs.toArray}->IntsAre vs ns->ns.length<=n->s₁.gens = #[] ->
   codeAny (model l.prog w) callerA (.call (.ref fa) ⟨[.ref a],[]⟩) (λr s'=>r=.ok (.ret (.bool true))/\OldK s₁.heap s'.heap/\s'.os=s₁.os/\AllBare s'.gens) s₁) :
  WalkO q loose XP YP l.row.toRowW d [] (λf vs=>PySem.call f vs):=by
 intro w s₀ s₁ mg mb G Y fa o pm cd doc dV kV ho hd hcd hD hmg hg args vals as hpre hlay hrd hwl hlo;obtain rfl:dV=.none:=Dflts.none hD hdf;obtain rfl:kV=.none:=Dflts.noKw hD;obtain⟨a,vs,ns,rfl,rfl,hobj,hints,hlen⟩:=Q6q hn hpre hwl;refine enter_call (codeAny_mono (call w s₀ s₁ mg mb fa o pm cd doc a vs ns G Y ho (fd_plain hd) hcd hmg hobj hints hlen hg) λr s' hq=>?_);obtain⟨rfl,h2,h3,h4⟩:=hq;exact⟨.inl ⟨.bool true,.bool true,[],rfl,λ_=>rfl,.bool true,Q6r l _,λ_=>⟨List.Pairwise.nil,λ_ hm=>(nomatch hm)⟩⟩,h2,h3,h4⟩
section
variable{prog:Program}{w:World}{A:Around}{E:Value->Shared->Prop}{s:Shared}{K:Frag}
end
end Att
namespace L2
open PySem PySem.Spec PyProof.Rows
theorem Q3l:∀{vs:List Value}{ns:List Int},IntsAre vs ns->Vals (ns.map V.int) vs
 |_,_,.nil=>.nil
 |_,_,.cons n t h=>.cons ⟨t,rfl⟩ (Q3l h)
def kO(H:Hp):Prop:=∀b,H b=none\/∃o xs,H b=some (.frz o (.lst xs))
theorem Q7V{P:Program}{w:World}{K:Frag}{mg mb:Str->Option Value}{CX:iQ}{k:Nat}{fa a:Addr}{fd:FuncData}{x:Str}{sp:Sp}{s₁:Shared}{vs:List Value}{ns:List Int}
  (KX:K.In s₁.heap) (hns:s₁.heap.Ns mainGlobals mg) (hb:s₁.heap.Ns builtinsNs mb) (hbb:∀x:Str,x ≠ "__name__" -> mb x=bootBuiltins x) (hlim:s₁.heap.NoLimit) (hg:s₁.gens = #[])
  (ha:s₁.heap.get? a=some { cls:=.type "list",data:=.seq vs.toArray}) (hi:IntsAre vs ns) (hl:ns.length<=sizeLine) (hr:aQ k callerA)
  (F:∀base:Heap,K.In base->base.Ns mainGlobals mg->aS P w K mg base CX k fa fd [x] sp) (hbind:∀(s:Shared) (u:Value),BindsTo s fd ⟨[u],[]⟩ [(x,u)])
  (hsp:∀H:Hp,kO H->cB K H a (ns.map V.int)->sp [.ref a] H (λv _=>v=.bl true) λ_ _ _=>False)
  (hCX:∀H e s',CX [] H s₁ (λ_ _ _=>False) e s'->False) :
  codeAny (model P w) callerA (.call (.ref fa) ⟨[.ref a],[]⟩) (λr s'=>r=.ok (.ret (.bool true))/\OldK s₁.heap s'.heap/\s'.os=s₁.os/\AllBare s'.gens) s₁:=by
 have rv:=Q3l hi;have lenV:=hi.length
 -- from an abstract heap in which nothing but the script may be tracked
 have core:∀H:Hp,kO H->cB K H a (ns.map V.int)->cM P w H s₁.heap->(∀b,H b≠none->b=a)->(H a≠none->K.lookup a=none) ->
   codeAny (model P w) callerA (.call (.ref fa) ⟨[.ref a],[]⟩) (λr s'=>r=.ok (.ret (.bool true))/\OldK s₁.heap s'.heap/\s'.os=s₁.os/\AllBare s'.gens) s₁:=by
  intro H hO hS av hA hK;have base_of:∀{b:Addr}{o:Obj},s₁.heap.get? b=some o->H b=none->(fG s₁.heap H).get? b=some o:=λe n=>Q7K e n;have noA:∀{b:Addr}{o:Obj}{es:Array DictEntry}{ep:Nat},s₁.heap.get? b=some o->o.data=.dict es ep->H b=none:=fun{b o es ep} e d=>by
   cases q:H b with
   |none=>rfl
   |some u=>
    have e':b=a:=hA b (by rw[q];simp)
    subst e';rw[ha]at e;cases e;have d':Data.seq vs.toArray _=Data.dict es ep:=d;cases d'
  have nsK:∀{b:Addr}{m:Str->Option Value},s₁.heap.Ns b m->(fG s₁.heap H).Ns b m:=fun{b m} ⟨o,es,ep,e,d,r⟩=>⟨o,es,ep,base_of e (noA e d),d,r⟩;have hKb:K.In (fG s₁.heap H):=λb o e=>base_of (KX b o e) (by
   cases q:H b with
   |none=>rfl
   |some u=>
    have e':b=a:=hA b (by rw[q];simp)
    subst e';rw[hK (by rw[q];simp)]at e;cases e)
  have hM:Mod K mg (fG s₁.heap H):=⟨hKb,nsK hns,⟨mb,nsK hb,hbb⟩,let ⟨mc,h1,h2⟩:=hlim;⟨mc,nsK h1,h2⟩⟩;have e0:eS P w K mg (fG s₁.heap H) callerA [] s₁ H:=⟨rfl,hM,λb o e=>Qa0 e,le_of_eq (Q6b _ _),trivial,λb hb=>absurd (show b∈([]:List Addr) from hb) (by simp),av,.of_eq hg⟩
  refine codeAny_mono ((F _ hKb (nsK hns)).run callerA [] s₁ H ⟨[.ref a],[]⟩ [.ref a] [.ref a] _ _ hr e0 (hbind s₁ (.ref a)) (.cons rfl .nil) (hsp H hO hS)) λr s' h=>?_;cases r with
  |error e=>exact (hCX H e s' h).elim
  |ok fl=>
   cases fl with
   |next=>exact False.elim h
   |brk=>exact False.elim h
   |cont=>exact False.elim h
   |ret u=>
    obtain⟨v,H',os,bare,un,hok',r',q⟩:=h;have q':v=.bl true:=q;subst q';obtain rfl:u=Value.bool true:=r';refine⟨rfl,OldK.of_keep λb o e=>?_,os,bare⟩;cases q:H b with
    |none=>exact un.keep b o e q (by intro z;exact absurd (show b∈([]:List Addr) from z) (by simp)) (by simp)
    |some u=>
     rcases hO b with z|⟨ob,xs,z⟩
     ·rw[q]at z;cases z
     ·have z2:=un.eN b ob _ z;obtain⟨e1,_⟩:=av b _ z;obtain⟨e2,_⟩:=hok' b _ z2;rw[e]at e1;cases e1;exact e2
 cases hk:K.lookup a with
 |some o=>
  -- the script is one of the module's own objects
  have e:=KX a o hk;rw[ha]at e;cases e;refine core (λ_=>none) (λ_=>.inl rfl) (.inr ⟨_,vs.toArray,_,hk,rfl,rfl,rfl,by rw[Z2,lenV];exact hl,by simpa using rv⟩) (λb u z=>by have z':(none:Option HO)=some u:=z;cases z') (λb z=>absurd rfl z) λz=>absurd rfl z
 |none=>
  refine core (λb=>if b=a then some (.frz { cls:=.type "list",data:=.seq vs.toArray} (.lst (ns.map V.int))) else none) (λb=>?_) (.inl (.inr ⟨{ cls:=.type "list",data:=.seq vs.toArray},Zg rfl⟩)) (λb u z=>?_) (λb z=>?_) λ_=>hk
  ·by_cases hb:b=a
   ·exact .inr ⟨_,_,Zg hb⟩
   ·exact .inl (Zd hb)
  ·by_cases hb:b=a
   ·have z':=(Zg hb).symm.trans z;cases z';subst hb;exact⟨ha,by rw[Ze];exact hl,vs,_,rv,ha⟩
   ·have z':=(Zd hb).symm.trans z;cases z'
  ·by_cases hb:b=a
   ·exact hb
   ·exact absurd (Zd hb) z
theorem walk_of{l:OpenLaw}{n k:Nat}{q:Program}{loose:List Str}{XP:(Str->Option Value)->Heap->Prop}{YP:World->Heap->Prop}{d:DefRec}{K:Params->Frag}{CX:World->iQ}{sp:World->Sp}{x:Str}
  (hn:l.most=some n) (hn2:n<=sizeLine) (hdf:d.params.defaults=[]) (hr:aQ k callerA)
  (hY:∀(w:World) (h:Heap),YP w h->(K w.params).In h)
  (F:∀(w:World) (mg:Str->Option Value) (fa:Addr) (h:Heap),(K w.params).In h->h.Ns mainGlobals mg->mg d.name=some (.ref fa) ->
   ∃fd:FuncData,(∀(s:Shared) (u:Value),BindsTo s fd ⟨[u],[]⟩ [(x,u)]) /\
    ∀base:Heap,(K w.params).In base->base.Ns mainGlobals mg->aS l.prog w (K w.params) mg base (CX w) k fa fd [x] (sp w))
  (hsp:∀(w:World) (H:Hp) (a:Addr) (ns:List Int),ns.length<=n->kO H->cB (K w.params) H a (ns.map V.int)->sp w [.ref a] H (λv _=>v=.bl true) λ_ _ _=>False)
  (hCX:∀(w:World) (H:Hp) (s:Shared) (e:Value) (s':Shared),CX w [] H s (λ_ _ _=>False) e s'->False) :
  PySem.W.WalkO q loose XP YP l.row.toRowW d [] (λf vs=>PySem.call f vs):=by
 refine Att.fW hn hdf λw s₀ s₁ mg mb fa o pm cd doc a vs ns G Y ho hd hcd hmg hobj hints hlen hg=>?_;have KX:=hY w _ Y;obtain⟨fd,hb,hF⟩:=F w mg fa _ KX G.T.g hmg;exact Q7V KX G.T.g G.T.b G.T.builtins G.T.nolimit hg hobj hints (ZF hlen hn2) hr hF hb (λH hO hS=>hsp w H a ns hlen hO hS) λH e s'=>hCX w H s₁ e s'
noncomputable def inClass(s:Stmt)(j:Nat):Stmt:=match s with
 |.ClassDef _ _ _ body _ _ _ _ _ _ _=>body.getD j (.Pass ⟨0,0,0,0⟩)
 |_=>.Pass ⟨0,0,0,0⟩
noncomputable def gf(s:Stmt):Arguments:=match s with
 |.FunctionDef _ a _ _ _ _ _ _ _ _=>a
 |_=>{ posonlyargs:=[],args:=[],vararg:=none,kwonlyargs:=[],kw_defaults:=[],kwarg:=none,defaults:=[]}
noncomputable def fe(s:Stmt):List Stmt:=match s with
 |.FunctionDef _ _ b _ _ _ _ _ _ _=>b
 |_=>[]
noncomputable def dE(s:Stmt):Scope:=match s with
 |.FunctionDef _ _ _ _ _ _ sc _ _ _=>sc
 |_=>{ kind:=.function,names:=[],isGenerator:=false,isCoroutine:=false}
noncomputable abbrev eT:iQ:=λ_ _ _ _ _ _=>False
noncomputable abbrev E0:XK:=λ_ _ _=>False
theorem fh:gP eT X E0:=λ_ _ _ _ _ _ _ h=>h.elim
structure Fun(K:Frag)(x qual:Str)(st:Stmt)(f:Addr)(fd:FuncData):Prop where
 ex:∃(oc:Value) (od:Option Addr) (kV doc pm:Value) (an:Option Addr) (cdv ct:Value) (osl:Array (Option Value)),
  fd=fnOf x qual (gf st) (fe st) (dE st) .none kV doc pm an cdv ct/\K.lookup f=some ⟨oc,od,.func fd,osl⟩/\codeIn K cdv qual=true
 kp:keepIn K (.ref f)=true
section
variable{P:Program}{w:World}{K:Frag}{mg:Str->Option Value}{base:Heap}
theorem Fun.binds{x qual:Str}{st:Stmt}{f:Addr}{fd:FuncData}{ps:List Str}(F:Fun K x qual st f fd)
  (h:∀(kV doc pm:Value) (an:Option Addr) (cdv ct:Value) (us:List Value),us.length=ps.length->bindArgs (fnOf x qual (gf st) (fe st) (dE st) .none kV doc pm an cdv ct) ⟨us,[]⟩=pure (ps.zip us)):Binds K fd ps []:=by
 obtain⟨oc,od,kV,doc,pm,an,cdv,ct,osl,rfl,lk,hcd⟩:=F.ex;exact .all (h kV doc pm an cdv ct)
theorem Q6s{x qual:Str}{st:Stmt}{f:Addr}{oc:Value}{od an:Option Addr}{osl:Array (Option Value)}{kV doc pm cdv ct:Value}(l:K.lookup f=some ⟨oc,od,.func (fnOf x qual (gf st) (fe st) (dE st) .none kV doc pm an cdv ct),osl⟩)
  (c:codeIn K cdv qual=true) (k:keepIn K (.ref f)=true):Fun K x qual st f (fnOf x qual (gf st) (fe st) (dE st) .none kV doc pm an cdv ct):=⟨⟨oc,od,kV,doc,pm,an,cdv,ct,osl,rfl,l,c⟩,k⟩
end
theorem aL(h:n<=1000):n<sizeLine:=ZG h (by decide)
section
variable{X:Cx}
theorem pv(i:Nat)(hN:X.N[i]?=some x:=by rfl)(hv:rA X.env.scope x:=by first|exact Or.inl rfl|exact Or.inr (Or.inl rfl)|exact Or.inr (Or.inr rfl))(hd:(x==("__debug__":Str))=false:=by decide)
  (hcd:(x==("__classdict__":Str))=false:=by decide):PE X (.Name x pos) (pC i):=Q9y hN hv hd hcd
end
theorem br{A B:Prop}(h:B):if false=true then A else B:=by
 rw[Zd Z0];exact h
theorem bj{A B:Prop}(h:A):if true=true then A else B:=by
 rw[Zg rfl];exact h
theorem aI{c A B:Prop}[Decidable c](h1:c->A)(h2:¬ c->B):if c then A else B:=by
 by_cases h:c
 ·rw[Zg h];exact h1 h
 ·rw[Zd h];exact h2 h
section
variable{X:Cx}{pos:Pos}
end
theorem PE.imp(h:PE X e T)(i:∀σ H Q,T' σ H Q->T σ H Q):PE X e T':=λpins s σ H Q I q=>h pins s σ H Q I (i σ H Q q)
theorem PT.imp(h:PT X e T)(i:∀σ H Q,T' σ H Q->T σ H Q):PT X e T':=λpins s σ H Q I q=>h pins s σ H Q I (i σ H Q q)
theorem PW.imp(h:PW X e T)(i:∀σ H Q,T' σ H Q->T σ H Q):PW X e T':=λwh pins s σ H Q I q=>h wh pins s σ H Q I (i σ H Q q)
theorem PA.imp(h:PA X e T)(i:∀σ H Q,T' σ H Q->T σ H Q):PA X e T':=λpos pins s σ H Q I q=>h pos pins s σ H Q I (i σ H Q q)
theorem PS.imp{X:Cx}{st:Stmt}{T T':TS}(h:PS X st T)(i:∀D σ H,T' D σ H->T D σ H):PS X st T':=λpins s σ H D I q=>h pins s σ H D I (i D σ H q)
theorem gN.imp{X:Cx}{st:List Stmt}{T T':TS}(h:gN X st T)(i:∀D σ H,T' D σ H->T D σ H):gN X st T':=λpins s σ H D I q=>h pins s σ H D I (i D σ H q)
theorem PI.imp(h:PI X tg it T)(i:∀σ H R,T' σ H R->T σ H R):PI X tg it T':=λpins s σ H R I q=>h pins s σ H R I (i σ H R q)
theorem PG.imp(h:PG X tg T)(i:∀v σ H R,T' v σ H R->T v σ H R):PG X tg T':=λpins s σ H v u R I r q=>h pins s σ H v u R I r (i v σ H R q)
theorem Inv.frozen(I:Inv X pins σ H s)(h:H a=some (.lst xs)) :
  ∃o,Inv X pins σ (upd H a (.frz o (.lst xs))) s:=by
 obtain⟨z,its,n,r,e⟩:=I.av a _ h;refine⟨{ cls:=.type "list",data:=.seq its.toArray n},I.un (h':=s.heap) (t':=s.toks) ⟨λb u q _ _ _=>q,λb u q _ _ _=>⟨u.slots,q⟩,λb u _ q _=>?_,λb u q _=>⟨u,q⟩,λb ys q=>?_,λb u ys q=>?_,λb ps q=>?_⟩ λb u q=>?_⟩
 ·rw[aY λw=>by rw[w,h]at q;cases q];exact q
 ·rw[aY λw=>by rw[w,h]at q;cases q];exact q
 ·rw[aY λw=>by rw[w,h]at q;cases q];exact q
 ·exact⟨#[],by rw[aY (λw=>by rw[w,h]at q;cases q),q];simp⟩
 ·by_cases hb:b=a
  ·subst hb;rw[b9]at q;cases q;exact⟨e,z,its,n,r,e⟩
  ·rw[aY hb]at q;exact (I.av b u q).cV (λ_ _ _ q=>q) (λc q=>by rw[aY λw=>by rw[w,h]at q;cases q];exact q) λc ys q=>by rw[aY λw=>by rw[w,h]at q;cases q];exact q
def tFrz(T:TE):TE:=λσ H Q=>T σ H λv H'=>∃a xs,v=.ref a/\H' a=some (.lst xs)/\∀o,Q v (upd H' a (.frz o (.lst xs)))
theorem Q6t(h:PE X e T):PE X e (tFrz T):=by
 intro pins s σ H Q I q;refine aE (h pins s σ H _ I q) λu s' zz=>?_;obtain⟨v,H',I',r,a,xs,ev,ha,k⟩:=zz;obtain⟨o,I2⟩:=I'.frozen ha;exact⟨v,_,I2,r,k o⟩
theorem Q4d(env:Env):∀(names:List (Str×NameKind)) (cs:List (Str×Addr)),(∀y∈names,y.2=.free->∃c,env.cells.lookup y.1=some c)->(∀y c,cs.lookup y=some c->env.cells.lookup y=some c) ->
  ∃cl:List (Str×Addr),(forIn names cs (λx r=>match x with|(name,kind)=>if (kind==.free)=true then (cellOf env name >>= λc=>pure (ForInStep.yield ((name,c)::r)):Sem _) else pure (ForInStep.yield r)))=(pure cl:Sem _) /\
   (∀y c,cl.lookup y=some c->env.cells.lookup y=some c)/\(∀y∈names,y.2=.free->∃c,cl.lookup y.1=some c)/\(∀y c,cs.lookup y=some c->∃c',cl.lookup y=some c')
 |[],cs,_,h2=>⟨cs,rfl,h2,(λ_ h=>absurd h Zm),λy c h=>⟨c,h⟩⟩
 |(n,k)::r,cs,h1,h2=>by
  have h1':∀y∈r,y.2=.free->∃c,env.cells.lookup y.1=some c:=λy hy=>h1 y (Zc _ hy);by_cases hk:k=.free
  ·subst hk;obtain⟨c,hc⟩:=h1 (n,.free) Zk rfl;have h2':∀y d,((n,c)::cs).lookup y=some d->env.cells.lookup y=some d:=λy d e=>by
    rw[ZJ]at e;cases hy:y==n with
    |true=>
     rw[hy]at e;have:y=n:=by simpa using hy
     subst this;cases e;exact hc
    |false=>rw[hy]at e;exact h2 y d e
   obtain⟨cl,e,p1,p2,p3⟩:=Q4d env r ((n,c)::cs) h1' h2';refine⟨cl,?_,p1,λy hy hf=>?_,λy d hd=>?_⟩
   ·rw[List.forIn_cons];have ec:cellOf env n=pure c:=by unfold cellOf;rw[hc]
    erw[beq_self_eq_true,if_true,ec,pure_bind];exact e
   ·rcases Zf.mp hy with q|q
    ·subst q;exact p3 n c (by simp[ZJ])
    ·exact p2 y q hf
   ·by_cases hy:y=n
    ·subst hy;exact p3 y c (by simp[ZJ])
    ·exact p3 y d (by rw[ZJ,show (y==n)=false by simpa using hy];exact hd)
  ·obtain⟨cl,e,p1,p2,p3⟩:=Q4d env r cs h1' h2;refine⟨cl,?_,p1,λy hy hf=>?_,p3⟩
   ·rw[List.forIn_cons];have ek:(k==NameKind.free)=false:=by simpa using hk
    erw[ek,Z9,ZT,pure_bind];exact e
   ·rcases Zf.mp hy with q|q
    ·subst q;exact absurd hf hk
    ·exact p2 y q hf
theorem Qam(h:∀y∈scope.names,y.2=.free->∃c,env.cells.lookup y.1=some c) :
  ∃cl,closureFor scope env=pure cl/\(∀y c,cl.lookup y=some c->env.cells.lookup y=some c)/\(∀y∈scope.names,y.2=.free->∃c,cl.lookup y.1=some c):=by
 obtain⟨cl,e,p1,p2,_⟩:=Q4d env scope.names [] h (λy c q=>by simp at q)
 refine⟨cl,?_,p1,p2⟩;unfold closureFor;erw[bind_pure_comp,map_pure]at e ⊢
 first
  |exact e
  |(rw[e];rfl)
  |(erw[e];rfl)
theorem Q7W{R:Result->Shared->Prop}(I:Nat->Shared->Prop){EE:Value->Shared->Prop}
  (hE:∀e s',EE e s'->notedBy (model prog w) A env (λe s'=>R (.error e) s') e s')
  (turn:∀n s,I n s->wpAny (model prog w) A (pyNext it) (λr s₁=>match r with
   |none=>R (.ok .next) s₁
   | some v=>wpAny (model prog w) A (letOwnedTupleGo target it v) (λ_ s₂=>wpAny (model prog w) A (assign target env v) (λ_ s₂=>
     wpAny (model prog w) A (forIn ifs true λc r=>if r=true then do let ok <- isTrue c env (eval c env);pure (ForInStep.yield ok) else pure (ForInStep.yield r)) (λok s₃=>
      if ok=true then wpAny (model prog w) A (eval elt env) (λx s₄=>
       wpAny (model prog w) A (call (.builtin "list.append") [acc,x]) (λ_ s₅=>∃m,m<n/\I m s₅) EE s₄) EE s₃
      else ∃m,m<n/\I m s₃) EE s₂) EE s₂) EE s₁) EE s)
  (n:Nat) (h:I n s) :
  codeAny (model prog w) A (.compLoop (.ListComp elt [⟨target,iter,ifs,0⟩] scope pos) 0 it acc env) R s:=by
 refine codeAny_loop rfl I (λn s hI=>?_) n h;show wpAny _ A ((compTurn (.ListComp elt [⟨target,iter,ifs,0⟩] scope pos) 0 it acc env).onRaise (λx=>do noteFrame x env;theTreesLotGoes x)) _ _ s
 refine wpAny_noted (Yd (E:=EE) ?_ (λ_ _ q=>q) λe s' q=>hE e s' q);rw[compTurn_list];refine Za (wpAny_standAt (Za (Yd (turn n s hI) (λr s₁ h₁=>?_) λ_ _ h'=>h')));cases r with
 |none=>exact Zb h₁
 |some v=>
  refine Za (Yd h₁ (λ_ s₂ h₂=>Za (Yd h₂ (λ_ s₃ h₃=>Za (Yd h₃ (λok s₄ h₄=>?_) λ_ _ h'=>h')) λ_ _ h'=>h')) λ_ _ h'=>h');cases ok with
  |false=>exact Zb ⟨rfl,h₄⟩
  |true=>
   exact Za (Za (Yd h₄ (λx s₅ h₅=>Za (Yd h₅ (λ_ s₆ h₆=>Zb (Zb ⟨rfl,h₆⟩)) λ_ _ h'=>h')) λ_ _ h'=>h'))
noncomputable def bg(X:Cx)(scope:Scope)(N:List Str)(cl:List (Str×Addr))(C:Addr)(s₀:Shared)(H₀:Hp)(ex:List Addr)(E:Value->Shared->Prop):Cx:=
 {X with N:=N,s₀:=s₀,H₀:=H₀,env:=compEnvC scope cl C X.env,outer:=X.stack,ex:=ex,fn:=λ_=>false,pn:=[],xe:=E}
def iC(X:Cx)(ifs:List Expr)(t:TT):Prop:=
 ∀(pins:List (Addr×Obj)) (s:Shared) (σ:St) (H:Hp) (Q:Bool->Hp->Prop),Inv X pins σ H s->t σ H Q ->
  wpAny (model X.prog X.w) X.A (forIn ifs true λc r=>if r=true then do let ok <- isTrue c X.env (eval c X.env);pure (ForInStep.yield ok) else pure (ForInStep.yield r)) (TP X pins σ Q) X.xe s
theorem Q7X:iC X [] (λ_ H Q=>Q true H):=λ_ _ _ H _ I q=>wpAny_tests_nil ⟨H,I,q⟩
theorem Q7Y(h:PT X c t):iC X [c] t:=λpins s σ H Q I q=>wpAny_tests_one (h pins s σ H Q I q)
structure iS(sc:Scope)(scope:Scope)(N:List Str)(k:Nat)(fn:List Str):Prop where
 kind:scope.kind=.function
 cell:∀y∈scope.names,y.2≠.cell
 names:∀y∈scope.names,y.2=.local->scope.names.lookup y.1=some .local
 free:∀y∈scope.names,y.2=.free->sc.names.lookup y.1=some .cell\/sc.names.lookup y.1=some .free
 nd:N.Nodup
 tail:N.drop k=fn
 len:N.length=k+fn.length
 fnk:∀y∈fn,(sc.names.lookup y=some .cell\/sc.names.lookup y=some .free)/\scope.names.lookup y=some .free
theorem Q0Z{env:Env}:∀{names:List (Str×NameKind)}{x:Str}{k:NameKind},
  (names.map λ(n,k)=>if (k==NameKind.free&&env.scope.kind==.function&&env.kindOf n==some .cell) then (n,NameKind.cell) else (n,k)).lookup x=some k->k=.cell\/k=.free->(∀y∈names,y.2≠.cell)->(x,NameKind.free)∈names
 |[],_,_,h,_,_=>by simp at h
 |(n,k)::r,x,k',h,hk,hc=>by
  have ih:=@Q0Z env r x k';rw[Zu,ZJ]at h;by_cases hx:x=n
  ·subst hx;by_cases hcnd:(k==NameKind.free&&env.scope.kind==.function&&env.kindOf x==some .cell)=true
   ·have:k=.free:=by
     erw[Zj,Zz]at hcnd;exact hcnd.1.1
    subst this;exact Zk
   ·have e:(if (k==NameKind.free&&env.scope.kind==.function&&env.kindOf x==some .cell)=true then (x,NameKind.cell) else (x,k))=(x,k):=Zd hcnd
    rw[e]at h;simp at h;subst h;rcases hk with rfl|rfl
    ·exact absurd rfl (hc _ Zk)
    ·exact Zk
  ·have hne:(x==n)=false:=by simpa using hx
   refine Zc _ (ih ?_ hk λy hy=>hc y (Zc _ hy));split at h
   ·rename_i w;split at w<;>simp_all
   ·exact h
theorem Q1a{env:Env}:∀{names:List (Str×NameKind)}{x:Str},names.lookup x=some .free ->
  (names.map λ(n,k)=>if (k==NameKind.free&&env.scope.kind==.function&&env.kindOf n==some .cell) then (n,NameKind.cell) else (n,k)).lookup x=some .cell \/
  (names.map λ(n,k)=>if (k==NameKind.free&&env.scope.kind==.function&&env.kindOf n==some .cell) then (n,NameKind.cell) else (n,k)).lookup x=some .free
 |[],_,h=>by simp at h
 |(n,k)::r,x,h=>by
  have ih:=@Q1a env r x;rw[Zu];dsimp only;rw[ZJ]at h;by_cases hx:x=n
  ·subst hx;erw[beq_self_eq_true]at h;cases h;by_cases hc:(NameKind.free==NameKind.free&&env.scope.kind==.function&&env.kindOf x==some .cell)=true
   ·rw[Zg hc];left;simp[ZJ]
   ·rw[Zd hc];right;simp[ZJ]
  ·have hne:(x==n)=false:=by simpa using hx
   rw[hne]at h;have ih':=ih h;by_cases hc:(k==NameKind.free&&env.scope.kind==.function&&env.kindOf n==some .cell)=true
   ·rw[Zg hc];erw[ZJ,hne];exact ih'
   ·rw[Zd hc];erw[ZJ,hne];exact ih'
theorem Q2t:∀{names:List (Str×NameKind)},names.lookup x=some k->(x,k)∈names
 |[],h=>by simp at h
 |(n,j)::r,h=>by
  rw[ZJ]at h;by_cases hx:x=n
  ·subst hx;erw[beq_self_eq_true]at h;cases h;exact Zk
  ·have hne:(x==n)=false:=by simpa using hx
   rw[hne]at h;exact Zc _ (Q2t h)
section
variable{X:Cx}{pins:List (Addr×Obj)}{σ:St}{H H':Hp}{s s':Shared}{scope:Scope}{N fn:List Str}{k:Nat}{cl:List (Str×Addr)}{C acc:Addr}{fp:List Addr}{E:Value->Shared->Prop}{h₁:Heap}{tk:Nat}
noncomputable def jN(X:Cx)(σ:St)(ix:List Nat):St:=ix.map λi=>(σ[i]?).getD none
theorem Inv.comp(I:Inv X pins σ H s)(ok:iS X.env.scope scope N k fn){ix:List Nat}(hix:ix.map (λi=>X.N[i]?)=fn.map some)
  (p1:∀y c,cl.lookup y=some c->X.env.cells.lookup y=some c) (p2:∀y∈scope.names,y.2=.free->∃c,cl.lookup y.1=some c)
  (hC:s.heap.objs.size<=C) (hns:h₁.Ns C λ_=>none) (old:∀b o,s.heap.get? b=some o->h₁.get? b=some o)
  (hfp:∀b∈fp,bC X pins H b) (hlt:∀b∈fp,b<s.heap.objs.size) :
  Inv (bg X scope N cl C s H fp E) [] (List.replicate k none++jN X σ ix) H {s with heap:=h₁,toks:=tk}:=by
 have hlen:ix.length=fn.length:=by
  have:=congrArg List.length hix;simpa using this
 refine⟨⟨I.ok.mod,ok.kind,I.ok.glob,I.ok.blt,hC,λx y c h1 h2=>I.ok.inj x y c (p1 x c h1) (p1 y c h2),λx hx=>?_,λx c h=>(nomatch h),I.ok.hd,I.ok.frames,.inl rfl,λb hb=>⟨ZL (Z6 (hlt b hb) hC),λx c h=>(hfp b hb).2.2.2.2.1 x c (p1 x c h)⟩,I.bs,ZF I.ok.jI I.sz,λb o e hb=>?_,λb hb hs=>?_,I.stack,I.gU⟩,
  rfl,I.bare,Un.kept old,⟨_,hns,λi x v h1 h2 h3=>?_⟩,λx c h=>?_,I.av.fresh hC,λx c h=>I.bW x c (p1 x c h),λp hp=>absurd hp Zm,I.av.kept old,?_⟩
 ·have hm:(x,NameKind.free)∈scope.names:=by
   rcases hx with h|h
   ·exact Q0Z h (.inl rfl) ok.cell
   ·exact Q0Z h (.inr rfl) ok.cell
  exact p2 _ hm rfl
 ·rcases (hfp b hb).2.2.2.1 with z|z
  ·exact I.ok.ji b o e z
  ·have h1:b<X.base.objs.size:=Zr e;have h2:=I.ok.jI;exact absurd (Z6 h1 (ZF h2 z)) (lt_irrefl _)
 ·rcases Zf.mp (I.fy b hs) with z|z
  ·exact (hfp b hb).2.1 z
  ·exact (hfp b hb).2.2.1 z
 ·-- the names from around
  have hi:k<=i:=by
   refine le_of_not_lt λq=>?_;rw[List.getElem?_append_left (by simpa using q),List.getElem?_replicate_of_lt q]at h2
   cases h2
  rw[List.getElem?_append_right (by simpa using hi),length_replicate]at h2
  unfold jN at h2;rw[ZB]at h2;cases hj:ix[i-k]? with
  |none=>rw[hj]at h2;cases h2
  |some j=>
   rw[hj]at h2;have h2':(σ[j]?).getD none=some v:=by simpa using h2
   have hσ:σ[j]?=some (some v):=by
    cases q:σ[j]? with
    |none=>rw[q]at h2';cases h2'
    |some o=>rw[q]at h2';simpa using h2'
   have hNi:fn[i-k]?=some x:=by
    have e:(N.drop k)[i-k]?=N[i]?:=by rw[List.getElem?_drop];congr 1;room
    rw[ok.tail]at e;exact e.trans h1
   have hNj:X.N[j]?=some x:=by
    have e:=congrArg (λl=>l[i-k]?) hix;erw[ZB,hj,hNi,ZV]at e;simpa using e
   obtain⟨hk1,hk2⟩:=ok.fnk x (ZI hNi);obtain⟨m,hm,hl⟩:=I.loc;obtain⟨u,r,l⟩:=hl j x v hNj hσ (by rcases hk1 with z|z;exact .inr (.inl z);exact .inr (.inr z))
   refine⟨u,r,.inr ⟨Q1a hk2,?_⟩⟩;rcases l with ⟨z,_⟩|⟨_,c,hc,hcell⟩
   ·have z':X.env.scope.names.lookup x=some .local:=z;rcases hk1 with q|q<;>(rw[q]at z';cases z')
   ·obtain⟨c',hc'⟩:=p2 (x,.free) (Q2t hk2) rfl;have e:=p1 x c' hc';rw[hc]at e;cases e;obtain⟨o,ho,hd⟩:=hcell;exact⟨c,hc',o,old c o ho,hd⟩
 ·obtain⟨v,o,ho,hd⟩:=I.cell x c (p1 x c h);exact⟨v,o,old c o ho,hd⟩
 ·rw[Zp,length_replicate];show k+(jN X σ ix).length=N.length;unfold jN;rw[Ze,ok.len,hlen]
theorem Inv.fw(I:Inv X pins σ H s)(I':Inv (bg X scope N cl C s H fp E) pins' σ' H' s')(hfp:∀b∈fp,bC X pins H b)
  (ha:s.heap.objs.size<=acc) (hn:H' acc=none) (hl:s'.heap.PlainList acc its.toArray) (hv:Vals ys its) (hz:ys.length<=sizeLine):Inv X pins σ (upd H' acc (.lst ys)) s':=by
 have b0:Un (iK X.stack) fp H H' s.heap s'.heap:=I'.base;have ne:∀{b:Addr}{o:Obj},s.heap.get? b=some o->b≠acc:=λe=>ZL (Z6 (Zr e) ha);have neH:∀{b:Addr}{o:HO},H b=some o->b≠acc:=λe=>ZL (Z6 (I.av.lt e) ha);obtain⟨n,hget⟩:=hl;refine I.q8 I'.os ⟨b0.keep,b0.slot,λb o e n hb=>?_,b0.there,λb xs e=>?_,λb o xs e=>?_,λb ps e=>?_⟩ (λb u e=>?_) I'.bare λb hb=>⟨(hfp b hb).2.2.2.1,(hfp b hb).2.1,(hfp b hb).2.2.2.2.1,(hfp b hb).2.2.2.2.2⟩
 ·rw[aY (ne e)];exact b0.free b o e n hb
 ·rw[aY (neH e)];exact b0.eZ b xs e
 ·rw[aY (neH e)];exact b0.eN b o xs e
 ·rw[aY (neH e)];exact b0.e7 b ps e
 ·by_cases hb:b=acc
  ·subst hb;rw[b9]at e;cases e;exact⟨hz,its,n,hv,hget⟩
  ·rw[aY hb]at e;exact (I'.av b u e).cV (λ_ _ _ q=>q) (λc q=>by rw[aY (gM q hn)];exact q) λc xs q=>by rw[aY (gM q hn)];exact q
end
noncomputable abbrev XF:Value->Shared->Prop:=λ_ _=>False
def gT(wi:TI)(k:Nat)(ix:List Nat)(g:TG)(tc:TT)(te:TE):TE:=λσ H Q=>wi σ H λJ H1=>∃W:Nat->Nat->List V->Hp->Prop,(∃m,W 0 m [] H1)/\∀i m ys H,W i m ys H ->
 (J.stop i H/\ys.length<=sizeLine/\∀a,H a=none->Q (.ref a) (upd H a (.lst ys))) \/
 (J.go i H/\∀y H',J.gi i H y H'->g y (List.replicate k none++ix.map (λi=>(σ[i]?).getD none)) H' λσ2 H2=>σ2.drop k=ix.map (λi=>(σ[i]?).getD none)/\σ2.length=k+ix.length/\tc σ2 H2 λb H3=>
  if b=true then te σ2 H3 λz H4=>ys.length<sizeLine/\∃m',m'<m/\W (i+1) m' (ys++[z]) H4 else ∃m',m'<m/\W (i+1) m' ys H3)
section
variable{X:Cx}{pins:List (Addr×Obj)}{σ:St}{H:Hp}{s:Shared}{scope:Scope}{N fn:List Str}{k:Nat}{ix:List Nat}{elt tg iter:Expr}{ifs:List Expr}{pos:Pos}{g:TG}{tc:TT}{te:TE}
theorem Q6u(I:Inv X pins σ H s)(ok:iS X.env.scope scope N k fn) :
  ∃cl,closureFor scope X.env=pure cl/\(∀y c,cl.lookup y=some c->X.env.cells.lookup y=some c)/\(∀y∈scope.names,y.2=.free->∃c,cl.lookup y.1=some c):=
 Qam λy hy hf=>I.ok.has y.1 (ok.free y hy hf)
end
noncomputable abbrev XC:=Value×Option (Int×Addr)
section
variable{M:Model}{A:Around}{E:Value->Shared->Prop}{s:Shared}
end
def CX1(P:Program)(w:World):iQ:=λ_ _ _ _ _ _=>False
structure XS(X:Cx)(pins:List (Addr×Obj))(σ:St)(H:Hp)(s:Shared)(a:Addr)(cls:XC):Prop where
 no:False
section
variable{X:Cx}{pins:List (Addr×Obj)}{σ:St}{H H':Hp}{s s':Shared}{a:Addr}{cls:XC}{E:XK}
structure Top(X:Cx):Prop where
 ex:∃e0 r L,X.stack=e0::r/\e0.frame=some L/\X.env.frame=some L
end
section
variable{X:Cx}{pins:List (Addr×Obj)}{σ:St}{H:Hp}{s:Shared}{a C f:Addr}{cls:XC}{x:Str}{e:Expr}{es:List Expr}{t:TA}{np cpos pos p:Pos}{k:Nat}{fd:FuncData}{ps:List Str}{sp:Sp}{dvs:List V}{ds:List Value}
noncomputable abbrev XR:=XC->St->Hp->Prop
def dR(X:Cx)(R:XR):Prop:=∀pins σ H s a cls,XS X pins σ H s a cls->R cls σ H->X.xe (.ref a) s
def iX(X:Cx)(R:XR):Value->Shared->Prop:=λe s=>∃pins σ H a cls,e=.ref a/\XS X pins σ H s a cls/\R cls σ H
theorem XS.bP{E:Value->Shared->Prop}(x:XS (X.dU E) pins σ H s a cls):XS X pins σ H s a cls:=⟨x.no⟩
theorem Q7Z(R:XR):dR (X.dU (iX X R)) R:=λpins σ H s a cls x r=>⟨pins,σ,H,a,cls,rfl,x.bP,r⟩
end
section
variable{X:Cx}{pins:List (Addr×Obj)}{σ:St}{H:Hp}{s:Shared}{scope:Scope}{N fn:List Str}{k:Nat}{ix:List Nat}{elt tg iter:Expr}{ifs:List Expr}{pos:Pos}{g:TG}{tc:TT}{te:TE}
theorem Q1V{EX:List (Str×Addr)->Addr->Shared->Hp->List Addr->Value->Shared->Prop}{tn:Nat->Heap->Prop}{RR:Value->Addr->Result->Shared->Prop}{E:Value->Shared->Prop}{R:List V->Hp->Prop}
  (hc:X.calm=true) (ok:iS X.env.scope scope N k fn) (hix:ix.map (λi=>X.N[i]?)=fn.map some)
  (hg:∀cl C s₀ H₀ ex,PG (bg X scope N cl C s₀ H₀ ex (EX cl C s₀ H₀ ex)) tg g) (ht:∀cl C s₀ H₀ ex,iC (bg X scope N cl C s₀ H₀ ex (EX cl C s₀ H₀ ex)) ifs tc) (he:∀cl C s₀ H₀ ex,PE (bg X scope N cl C s₀ H₀ ex (EX cl C s₀ H₀ ex)) elt te)
  (p1:∀y c,cl.lookup y=some c->X.env.cells.lookup y=some c) (p2:∀y∈scope.names,y.2=.free->∃c,cl.lookup y.1=some c)
  (I2:Inv X pins σ H s) (T:Turn X.prog X.w X.K tg J fp it tn) (st2:tn 0 s.heap) (f2:∀b∈fp,bC X pins H b)
  (W:Nat->Nat->List V->Hp->Prop) (w0:∃m,W 0 m [] H)
  (turn:∀i m ys H,W i m ys H ->
   (J.stop i H/\ys.length<=sizeLine/\R ys H) \/
   (J.go i H/\∀y H',J.gi i H y H'->g y (List.replicate k none++ix.map (λi=>(σ[i]?).getD none)) H' λσ2 H2=>σ2.drop k=ix.map (λi=>(σ[i]?).getD none)/\σ2.length=k+ix.length/\tc σ2 H2 λb H3=>
    if b=true then te σ2 H3 λz H4=>ys.length<sizeLine/\∃m',m'<m/\W (i+1) m' (ys++[z]) H4 else ∃m',m'<m/\W (i+1) m' ys H3))
  (hE:∀acc C e s',EX cl C s H fp e s'->notedBy (model X.prog X.w) X.A (compEnvC scope cl C X.env) (λe s'=>RR (.ref acc) C (.error e) s') e s')
  (fin:∀ys a C H' s' m,H' a=none->R ys H'->Inv X pins σ (upd H' a (.lst ys)) s'->bC X pins (upd H' a (.lst ys)) C->s'.heap.Ns C m->RR (.ref a) C (.ok .next) s') :
  wpAny (model X.prog X.w) X.A (newList []) (λacc s₃=>wpAny (model X.prog X.w) X.A (newFunctionEnv scope X.env.globals cl [] X.env.qual none .none (some X.env)) (λcenv s₄=>
   codeAny (model X.prog X.w) X.A (.compStart (.ListComp elt [⟨tg,iter,ifs,0⟩] scope pos) 0 (.ref it) acc {cenv with scope:=relabel scope X.env}) (RR acc cenv.locals) s₄) E s₃) E s:=by
 refine Yn (wpAny_newFunctionEnv ok.cell (by intro y hy;simp at hy) (λh₁ hns₁ hsb₁=>?_) ok.kind)
 dsimp only at hns₁ hsb₁ ⊢;generalize hH2:s.heap.push { cls:=.type "list",dict:=none,data:=.seq ([]:List Value).toArray}=Hp2 at hns₁ hsb₁ ⊢;have hC:Hp2.objs.size=s.heap.objs.size+1:=by rw[<- hH2,Heap.size_push]
 have hDC:s.heap.objs.size≠Hp2.objs.size:=by rw[hC];exact ZL (lt_succ_self _)
 have hCle:s.heap.objs.size<=Hp2.objs.size:=by rw[hC];exact le_succ _
 have old:∀b o,s.heap.get? b=some o->h₁.get? b=some o:=λb o e=>hsb₁.extBut b o (by have:=Zr e;rw[hC];exact ZL (Nat.lt_succ_of_lt this)) (Zi _ (hH2 ▸ Zi _ e))
 have hacc:h₁.PlainList s.heap.objs.size #[]:=⟨_,hsb₁.extBut _ _ hDC (Zi _ (hH2 ▸ Zw _ rfl))⟩;have hlt:∀b∈fp,b<s.heap.objs.size:=λb hb=>by
  obtain⟨o,e,_⟩:=T.obj _ _ st2 b hb;exact Zr e
 have hns0:h₁.Ns Hp2.objs.size λ_=>none:=by simpa using hns₁
 have I4:Inv (bg X scope N cl Hp2.objs.size s H fp (EX cl Hp2.objs.size s H fp)) [] (List.replicate k none++jN X σ ix) H {s with heap:=h₁,toks:=s.toks+([]:List (Str×Value)).length}:=
  I2.comp ok hix p1 p2 hCle hns0 old f2 hlt
 generalize hCC:Hp2.objs.size=C at *;generalize hAA:s.heap.objs.size=acc at *;have hix2:ix.length=fn.length:=by have:=congrArg List.length hix;simpa using this
 -- what stays true of the iterator's objects and of the list
 have fpX:∀{pins':List (Addr×Obj)}{H':Hp}{b:Addr},b∈fp->H' b=none->bC (bg X scope N cl C s H fp (EX cl C s H fp)) [] H' b:=fun{pins' H' b} hb hn=>
  ⟨hn,(I4.ok.oB b hb).1,I4.ok.iu b hb,.inl hb,(I4.ok.oB b hb).2,λp hp=>absurd hp Zm⟩
 have accX:∀{H':Hp},H' acc=none->bC (bg X scope N cl C s H fp (EX cl C s H fp)) [] H' acc:=fun{H'} hn=>
  ⟨hn,hDC,λz=>by
   have h1:=I2.fy acc z;rcases Zf.mp h1 with q|q
   ·exact absurd I2.lt (by rw[hAA,q];exact lt_irrefl _)
   ·exact I2.m5 (le_of_eq hAA) q,.inr (le_of_eq hAA),λx c e=>by
   obtain⟨v,o,ho,_⟩:=I2.cell x c (p1 x c e);have:=Zr ho;rw[hAA]at this;exact ZL this,λp hp=>absurd hp Zm⟩
 have loop:∀s₃:Shared,s₃={s with heap:=h₁,toks:=s.toks+([]:List (Str×Value)).length} ->
   codeAny (model X.prog X.w) X.A (.compLoop (.ListComp elt [⟨tg,iter,ifs,0⟩] scope pos) 0 (.ref it) (.ref acc) (compEnvC scope cl C X.env)) (RR (.ref acc) C) s₃:=by
  rintro s₃ rfl;obtain⟨m0,w0⟩:=w0;refine Q7W (EE:=EX cl C s H fp) (λn s'=>∃i ys its H',Inv (bg X scope N cl C s H fp (EX cl C s H fp)) [] (List.replicate k none++jN X σ ix) H' s'/\tn i s'.heap/\(∀b∈fp,H' b=none)/\H' acc=none/\s'.heap.PlainList acc its.toArray/\Vals ys its/\W i n ys H')
   (λe s' q=>hE acc C e s' q) ?_ m0 ⟨0,[],[],H,I4,T.keep _ _ _ st2 λb _ o e=>old b o e,λb hb=>(f2 b hb).1,I2.av.fresh (le_of_eq hAA),hacc,.nil,w0⟩
  rintro n s3 ⟨i,ys,its,H3,I3,st3,fr3,an3,pl3,rv3,w3⟩;obtain⟨nl,pe3⟩:=id pl3;have neA:∀b∈fp,acc≠b:=λb hb=>by have:=hlt b hb;exact Ne.symm (ZL this)
  have mA:(acc,({ cls:=.type "list",data:=.seq its.toArray nl}:Obj))∈iV [acc] s3.heap:=r6 Zk pe3;have ofA:∀p∈iV [acc] s3.heap,p.1=acc:=λp hp=>Zh.mp (Q3d hp).1;have I3p:Inv (bg X scope N cl C s H fp (EX cl C s H fp)) (iV [acc] s3.heap) (List.replicate k none++jN X σ ix) H3 s3:=
   I3.pinned (fp:=[acc]) (λb hb=>by rw[Zh.mp hb];exact accX an3) (λb hb=>by
    rw[Zh.mp hb];exact⟨_,pe3,λv z=>nomatch z⟩)
  have fpP:∀{H':Hp}{b:Addr},b∈fp->H' b=none->bC (bg X scope N cl C s H fp (EX cl C s H fp)) (iV [acc] s3.heap) H' b:=fun{H' b} hb hn=>
   ⟨hn,(I4.ok.oB b hb).1,I4.ok.iu b hb,.inl hb,(I4.ok.oB b hb).2,λp hp=>by
    have hp':p∈([]:List (Addr×Obj))++iV [acc] s3.heap:=hp;rw[ofA p (by simpa using hp')];exact neA b hb⟩
  rcases turn i n ys H3 w3 with ⟨stop,hz,q⟩|⟨go,step⟩
  ·refine aE (T.done (bg X scope N cl C s H fp (EX cl C s H fp)) rfl rfl rfl hc i _ s3 _ H3 (EX cl C s H fp) I3p (λb hb=>fpP hb (fr3 b hb)) st3 stop) λr s4 ⟨hr,I4'⟩=>?_;subst hr;have pl4:s4.heap.PlainList acc its.toArray:=⟨nl,(I4'.pin _ (Zl _ mA)).1⟩;have Ix:=I2.fw (acc:=acc) I4' f2 (le_of_eq hAA) an3 pl4 rv3 hz;obtain⟨m,hm,_⟩:=I4'.loc;refine fin ys acc C H3 s4 m an3 q Ix ⟨?_,?_,?_,?_,?_,?_⟩ hm
   ·rw[aY (Ne.symm hDC)];exact I4'.free
   ·exact Ne.symm (ZL (Z6 I2.lt (by rw[hAA];exact hCle)))
   ·exact I2.m5 (by rw[hAA];exact hCle)
   ·exact .inr (ZF I2.sz (by rw[hAA];exact hCle))
   ·intro x c e;obtain⟨v,o,ho,_⟩:=I2.cell x c e;have:=Zr ho;rw[hAA]at this;exact ZL (Z6 this hCle)
   ·intro p hp;have:=Zr (I2.pin p hp).1;rw[hAA]at this;exact ZL (Z6 this hCle)
  ·refine aE (T.item (bg X scope N cl C s H fp (EX cl C s H fp)) rfl rfl rfl hc i _ s3 _ H3 (EX cl C s H fp) I3p (λb hb=>fpP hb (fr3 b hb)) st3 go) λr s4 ⟨u,hr,h4⟩=>?_;subst hr;refine aE h4 λ_ s5 ⟨x,H5,I5,r5,y5,st5,fr5⟩=>?_;have I5':=I5.pinned (λb hb=>fpP hb (fr5 b hb)) (T.obj _ _ st5);refine aE (hg _ _ _ _ _ _ s5 _ H5 x u _ I5' r5 (step x H5 y5)) λ_ s6 ⟨σ6,H6,I6,hσ6,hl6,q6⟩=>?_;have back:∀{s7:Shared}{H7:Hp},Inv (bg X scope N cl C s H fp (EX cl C s H fp)) (iV [acc] s3.heap++iV fp s5.heap) σ6 H7 s7 ->
     Inv (bg X scope N cl C s H fp (EX cl C s H fp)) [] (List.replicate k none++jN X σ ix) H7 s7/\tn (i+1) s7.heap/\(∀b∈fp,H7 b=none)/\H7 acc=none/\s7.heap.PlainList acc its.toArray:=fun{s7 H7} I7=>by
    refine⟨(I7.bw (pins':=[]) (λp hp=>absurd hp Zm)).weak ?_ ?_,T.keep _ _ _ st5 λb hb o e=>(I7.pin (b,o) (Zl _ (Zl _ (r6 hb e)))).1,λb hb=>?_,?_,?_⟩
    ·unfold jN;rw[Zp,length_replicate,Ze,hl6]
    ·intro j v hj;by_cases hjk:j<k
     ·rw[List.getElem?_append_left (by simpa using hjk),List.getElem?_replicate_of_lt hjk]at hj
      cases hj
     ·have hjk':k<=j:=le_of_not_lt hjk;rw[List.getElem?_append_right (by simpa using hjk'),length_replicate]at hj
      have e:(σ6.drop k)[j-k]?=σ6[j]?:=by rw[List.getElem?_drop];congr 1;room
      rw[<- e,hσ6];exact hj
    ·obtain⟨o,e,d⟩:=T.obj _ _ st5 b hb;exact (I7.pin (b,o) (Zl _ (Zl _ (r6 hb e)))).2.1
    ·exact (I7.pin _ (Zl _ (Z5 _ mA))).2.1
    ·exact⟨nl,(I7.pin _ (Zl _ (Z5 _ mA))).1⟩
   refine aE (ht _ _ _ _ _ _ s6 σ6 H6 _ I6 q6) λok s7 ⟨H7,I7,q7⟩=>?_;cases ok with
   |false=>
    have q7':∃m',m'<n/\W (i+1) m' ys H7:=by simpa using q7
    obtain⟨m',hm',w7⟩:=q7';obtain⟨J7,t7,f7,a7,p7⟩:=back I7;exact (Zd Z0).mpr ⟨m',hm',i+1,ys,its,H7,J7,t7,f7,a7,p7,rv3,w7⟩
   |true=>
    refine (Zg rfl).mpr ?_;have q7':te σ6 H7 λz H4=>ys.length<sizeLine/\∃m',m'<n/\W (i+1) m' (ys++[z]) H4:=by simpa using q7
    refine aE (he _ _ _ _ _ _ s7 σ6 H7 _ I7 q7') λuz s8 zz=>?_;obtain⟨z,H8,I8,r8,hz8,m',hm',w8⟩:=zz;obtain⟨J8,t8,f8,a8,p8⟩:=back I8;have hlen:=rv3.length;refine wpAny_list_append_plain (hsz:=by rw[Z2,<- hlen];exact le_of_lt hz8) p8 λh9 pl9 sb9=>?_
    obtain⟨x0,x1,x2,x3,x4,x5⟩:=accX a8;refine⟨m',hm',i+1,ys++[z],its++[uz],H8,J8.turned (t':=s8.toks) (λb o hb e=>(sb9.2 b hb).trans e) x0 x1 x3 x4 x5,T.keep _ _ _ t8 λb hb o e=>(sb9.2 b (Ne.symm (neA b hb))).trans e,f8,a8,?_,rv3.append (.cons r8 .nil),w8⟩;simpa using pl9
 exact codeAny_compStart_list (loop _ rfl) (T.self _ _ _ _ _ (T.keep _ _ _ st2 λb _ o e=>old b o e) (loop _ rfl))
theorem XS.fw{Rp:XR}{cl:List (Str×Addr)}{C:Addr}{fp:List Addr}{use:Option (Value->Sem Unit)}{Q:Value->Shared->Prop}{acc e:Value}{s':Shared}(hx:dR X Rp)(tp:Top X)(I2:Inv X pins σ H s)(f2:∀b∈fp,bC X pins H b)
  (q:iX (bg X scope N cl C s H fp XF) (λcls _ H'=>Rp cls σ H') e s') :
  notedBy (model X.prog X.w) X.A (compEnvC scope cl C X.env) (λe s'=>compPost (model X.prog X.w) X.A X.xe use Q acc C (.error e) s') e s':=by
 obtain⟨_,_,_,_,_,_,x,_⟩:=q;exact x.no.elim
theorem Q1f(R:XR):dR (bg X scope N cl C s₀ H₀ ex (iX (bg X scope N cl C s₀ H₀ ex XF) R)) R:=
 Q7Z (X:=bg X scope N cl C s₀ H₀ ex XF) R
section
variable{R0:XC->Hp->Prop}{wi:TI}
theorem Q4C(tp:Top X)(hx:dR X λcls _ H=>R0 cls H)(hc:X.calm=true)(ok:iS X.env.scope scope N k fn)(hix:ix.map (λi=>X.N[i]?)=fn.map some)(hi:PI X tg iter wi)
  (hg:∀cl C s₀ H₀ ex E,PG (bg X scope N cl C s₀ H₀ ex E) tg g) (ht:∀cl C s₀ H₀ ex E,dR (bg X scope N cl C s₀ H₀ ex E) (λcls _ H=>R0 cls H)->iC (bg X scope N cl C s₀ H₀ ex E) ifs tc) (he:∀cl C s₀ H₀ ex E,dR (bg X scope N cl C s₀ H₀ ex E) (λcls _ H=>R0 cls H)->PE (bg X scope N cl C s₀ H₀ ex E) elt te)
  (hs:∀x,foldedSetIterable iter X.env x=pure x:=by intro _;rfl):PE X (.ListComp elt [⟨tg,iter,ifs,0⟩] scope pos) (gT wi k ix g tc te):=by
 intro pins s σ H Q I h;obtain⟨cl,hcl,p1,p2⟩:=Q6u I ok;rw[eval_ListComp];refine wpAny_comprehension_free (use:=none) rfl hs hcl ok.kind ok.names (aE (hi pins s σ H _ I h) λv s1 h1=>aE h1 λitv s2 h2=>?_);obtain⟨it,fp,tn,J,H2,e,I2,T,st2,f2,W,w0,turn⟩:=h2;subst e;refine Q1V (EX:=λcl C s₀ H₀ ex=>iX (bg X scope N cl C s₀ H₀ ex XF) λcls _ H'=>R0 cls H') (RR:=λacc C=>compPost (model X.prog X.w) X.A X.xe none (EP X pins σ Q) acc C) (R:=λys H=>∀a,H a=none->Q (.ref a) (upd H a (.lst ys))) hc ok hix
  (λcl C s₀ H₀ ex=>hg cl C s₀ H₀ ex _) (λcl C s₀ H₀ ex=>ht cl C s₀ H₀ ex _ (Q1f _)) (λcl C s₀ H₀ ex=>he cl C s₀ H₀ ex _ (Q1f _)) p1 p2 I2 T st2 f2 W w0 turn (λacc C e s' q=>XS.fw (Rp:=λcls _ H=>R0 cls H) hx tp I2 f2 q) ?_
 intro ys a C H' s' m ha q I' fC hm;refine⟨m,hm,λh' sb=>⟨.ref a,_,?_,rfl,q a ha⟩⟩;obtain⟨x0,x1,x2,x3,x4,x5⟩:=fC;exact I'.turned (t':=s'.toks) (λb o hb e=>(sb.2 b hb).trans e) x0 x1 x3 x4 x5
theorem Q1W(tp:Top X)(hx0:dR X λcls _ H=>R0 cls H)(hsw:swapsWith (.ListComp elt [⟨tg,iter,ifs,0⟩] scope pos) (some (.Name x pos')) spos.line X.env=pure true)
  (hN:X.N.Nodup) (hiN:X.N[i]?=some x) (hx:X.env.scope.names.lookup x=some .local) (hc:X.calm=true) (ok:iS X.env.scope scope N k fn) (hix:ix.map (λi=>X.N[i]?)=fn.map some) (hi:PI X tg iter wi)
  (hg:∀cl C s₀ H₀ ex E,PG (bg X scope N cl C s₀ H₀ ex E) tg g) (ht:∀cl C s₀ H₀ ex E,dR (bg X scope N cl C s₀ H₀ ex E) (λcls _ H=>R0 cls H)->iC (bg X scope N cl C s₀ H₀ ex E) ifs tc) (he:∀cl C s₀ H₀ ex E,dR (bg X scope N cl C s₀ H₀ ex E) (λcls _ H=>R0 cls H)->PE (bg X scope N cl C s₀ H₀ ex E) elt te)
  (hs:∀x,foldedSetIterable iter X.env x=pure x:=by intro _;rfl):PS X (.Assign [.Name x pos'] (.ListComp elt [⟨tg,iter,ifs,0⟩] scope pos) spos) (j0 (gT wi k ix g tc te) (jG i)):=by
 intro pins s σ H D I h;obtain⟨cl,hcl,p1,p2⟩:=Q6u I ok;rw[exec_Assign_Name_used _ _ _ _ hsw];refine Za (wpAny_standAt (Za ?_));show wpAny _ X.A (do let _ <- comprehension (.ListComp elt [⟨tg,iter,ifs,0⟩] scope pos) scope X.env _ (newList []) false (eval iter X.env) (some (assign (.Name x pos') X.env))) _ _ s
 refine Za (Yd (wpAny_comprehension_free (use:=some (assign (.Name x pos') X.env)) (Q:=λ_ s'=>SP X pins D .next s') rfl hs hcl ok.kind ok.names
  (aE (hi pins s σ H _ I h) λv s1 h1=>aE h1 λitv s2 h2=>?_)) (λ_ s' hq=>Zb (Zb hq)) λ_ _ e=>e)
 obtain⟨it,fp,tn,J,H2,e,I2,T,st2,f2,W,w0,turn⟩:=h2;subst e;refine Q1V (EX:=λcl C s₀ H₀ ex=>iX (bg X scope N cl C s₀ H₀ ex XF) λcls _ H'=>R0 cls H') (RR:=λacc C=>compPost (model X.prog X.w) X.A X.xe (some (assign (.Name x pos') X.env)) (λ_ s'=>SP X pins D .next s') acc C) (R:=λys H=>∀a,H a=none->D.nx (σ.set i (some (.ref a))) (upd H a (.lst ys))) hc ok hix
  (λcl C s₀ H₀ ex=>hg cl C s₀ H₀ ex _) (λcl C s₀ H₀ ex=>ht cl C s₀ H₀ ex _ (Q1f _)) (λcl C s₀ H₀ ex=>he cl C s₀ H₀ ex _ (Q1f _)) p1 p2 I2 T st2 f2 W w0 turn (λacc C e s' q=>XS.fw (Rp:=λcls _ H=>R0 cls H) hx0 tp I2 f2 q) ?_
 intro ys a C H' s' m ha q I' fC hm;obtain⟨x0,x1,x2,x3,x4,x5⟩:=fC;show wpAny _ X.A (assign (.Name x pos') X.env (.ref a)) _ _ s';refine wpAny_assign_Name (Q3c I' hN hiN (.inl hx) (v:=.ref a) rfl (λs'' I'' ⟨b,sb,hb⟩=>?_) (.inr hx));have hCb:C≠b:=by
  rcases hb with z|z
  ·rw[z];exact x1
  ·exact λw=>x4 _ _ z w.symm
 refine⟨m,hm.sameBut sb hCb,λh' sb2=>⟨_,_,I''.turned (t':=s''.toks) (λb o hb e=>(sb2.2 b hb).trans e) x0 x1 x3 x4 x5,q a ha⟩⟩
end
end
def jx(_:Frag)(_:Addr):Prop:=True
section
variable{prog:Program}{w:World}{A:Around}{E:Value->Shared->Prop}{s:Shared}{K:Frag}{x D:Addr}
end
section
variable{X:Cx}{pins:List (Addr×Obj)}{σ:St}{H:Hp}{s:Shared}{a C f:Addr}{cls:XC}{x:Str}{np cpos pos p:Pos}
end
section
variable{A:Around}{E:Value->Shared->Prop}{s:Shared}{K:Frag}{D:Addr}
end
section
variable{X:Cx}{pins:List (Addr×Obj)}{σ:St}{H:Hp}{s:Shared}{a C:Addr}{pos:Pos}
end
section
variable{prog:Program}{w:World}{A:Around}{h:Heap}{g:Array GenState}{d:Drawn}{t:Nat}{os:OsState}
variable{nm q:Str}{C N:Addr}{bs bm bmB:List Value}{hdct:Bool}{sn:List Str}{sub:List Value}{ab:Bool}{col:Option Bool}{dd:Option Addr}{k0 k1 k2 k3 k5:Option Value}{B newId initId:String}
end
end L2
namespace L2
open PySem PySem.Spec PyProof.Rows Builtin Builtin.ObjectAttr
section
variable{prog:Program}{w:World}{A:Around}{E:Value->Shared->Prop}{s:Shared}{K:Frag}{C f x:Addr}{ox:Obj}{v:Value}{vs:Array Value}
end
section
variable{P:Program}{w:World}{H H':Hp}{h h':Heap}{fs:List Addr}{e d C t:Addr}{φ:Heap->Prop}{o:Obj}
end
section
variable{X:Cx}{pins:List (Addr×Obj)}{σ:St}{H:Hp}{s:Shared}{C f W e:Addr}{x n:Str}{np ap cpos pos p:Pos}{a1:Expr}{es:List Expr}{t:TA}
end
end L2
namespace L2
open PySem PySem.Spec PyProof.Rows
section
variable{κ:Type}[DecidableEq κ]
noncomputable def aH(kvs:List (κ×V))(k:κ):Option V:=(kvs.find? λkv=>decide (kv.1=k)).map (·.2)
noncomputable def putK(kvs:List (κ×V))(k:κ)(v:V):List (κ×V):=
 if (kvs.any λkv=>decide (kv.1=k))=true then kvs.map (λkv=>if kv.1=k then (kv.1,v) else kv) else kvs++[(k,v)]
theorem nU{p:κ×V}{r:List (κ×V)}{k:κ}(e:p.1=k):aH (p::r) k=some p.2:=by simp[aH,ZU,e]
theorem nT{p:κ×V}{r:List (κ×V)}{k:κ}(e:¬ p.1=k):aH (p::r) k=aH r k:=by simp[aH,ZU,e]
theorem oM(k:κ):∀kvs:List (κ×V),(kvs.any λkv=>decide (kv.1=k))=(aH kvs k).isSome
 |[]=>rfl
 |p::r=>by
  rw[any_cons];by_cases e:p.1=k
  ·erw[nU e,Z7 e,Bool.true_or,Option.isSome_some]
  ·rw[nT e,Zt e,Bool.false_or];exact oM k r
theorem nQ(kvs:List (κ×V))(k:κ)(v:V):(putK kvs k v).length<=kvs.length+1:=by
 unfold putK;split
 ·rw[Ze];room
 ·rw[Zp,Zs,ZN];room
theorem bO.a0(r:bO o u):o.isSome=u.isSome:=by
 cases o with
 |none=>cases u with
  |none=>rfl
  |some _=>exact (show False from r).elim
 |some _=>cases u with
  |none=>exact (show False from r).elim
  |some _=>rfl
theorem bO.getD(r:bO o u)(rd:RelV d d'):RelV (o.getD d) (u.getD d'):=by
 cases o with
 |none=>cases u with
  |none=>exact rd
  |some _=>exact (show False from r).elim
 |some _=>cases u with
  |none=>exact (show False from r).elim
  |some _=>exact r
theorem KV.val{kvs:List (κ×V)}{vs:List (κ×Value)}(r:KV kvs vs)(k:κ):bO (aH kvs k) (valueAt vs k):=by
 unfold KV at r
 induction r with
 |nil=>exact ZH
 | @cons p q ps qs h t ih=>
  obtain⟨h1,h2⟩:=h;by_cases e:p.1=k
  ·have e':q.1=k:=h1.symm.trans e;have b:valueAt (q::qs) k=some q.2:=by simp[valueAt,ZU,e']
   rw[nU e,b];exact h2
  ·have e':¬ q.1=k:=λz=>e (h1.trans z);have b:valueAt (q::qs) k=valueAt qs k:=by simp[valueAt,ZU,e']
   rw[nT e,b];exact ih
theorem KV.any(r:KV kvs vs)(k:κ):(kvs.any λkv=>decide (kv.1=k))=vs.any λkv=>decide (kv.1=k):=by
 unfold KV at r
 induction r with
 |nil=>rfl
 |cons h t ih=>rw[any_cons,any_cons,ih,h.1]
theorem KV.mW(r:KV kvs vs)(k:κ)(ry:RelV y u) :
  KV (kvs.map λkv=>if kv.1=k then (kv.1,y) else kv) (vs.map λkv=>if kv.1=k then (kv.1,u) else kv):=by
 unfold KV at r ⊢
 induction r with
 |nil=>exact .nil
 | @cons p q ps qs h t ih=>
  rw[Zu,Zu];refine .cons ?_ ih;obtain⟨h1,h2⟩:=h;by_cases e:p.1=k
  ·rw[Zg e,Zg (h1.symm.trans e)];exact⟨h1,ry⟩
  ·rw[Zd e,Zd (λz=>e (h1.trans z))];exact⟨h1,h2⟩
theorem KV.put(r:KV kvs vs)(k:κ)(ry:RelV y u):KV (putK kvs k y) (stored vs k u):=by
 unfold putK stored;rw[r.any k];by_cases e:(vs.any λkv=>decide (kv.1=k))=true
 ·rw[Zg e,Zg e];exact r.mW k ry
 ·rw[Zd e,Zd e];exact Paired.snoc r ⟨rfl,ry⟩
theorem KV.length(r:KV kvs vs):kvs.length=vs.length:=ZQ r
end
theorem cH(r:RelV (kV k) u):(bZ P w).is k u=true:=by
 cases k with
 |inl i=>obtain⟨t,e⟩:=(show ∃t,u=Value.int i t from r);subst e;exact Q4a P w i t
 |inr x=>obtain⟨t,e⟩:=(show ∃t,u=Value.str x t from r);subst e;exact Q4b P w x t
theorem Q3m:∀{ks:List Key}{us:List Value},Vals (ks.map kV) us->ItemsAre (bZ P w) ks us
 |[],_,r=>by rw[map_nil]at r;cases r;exact .nil
 |k::ks,_,r=>by
  rw[Zu]at r;cases r with
  |cons h t=>exact .cons (cH h) (Q3m t)
noncomputable abbrev KT(H:Hp):List (List Key×V)->List (List Key×Addr×Value)->Prop:=Paired λp q=>p.1=q.1/\H q.2.1=some (.tup (p.1.map kV))/\RelV p.2 q.2.2
theorem KT.val{H:Hp}{kvs:List (List Key×V)}{xs:List (List Key×Addr×Value)}(r:KT H kvs xs)(k:List Key):bO (aH kvs k) ((atKey xs k).map (·.2)):=by
 induction r with
 |nil=>exact ZH
 | @cons p q ps qs h t ih=>
  obtain⟨h1,_,h2⟩:=h;by_cases e:p.1=k
  ·have e':q.1=k:=h1.symm.trans e;have b:atKey (q::qs) k=some q.2:=by simp[atKey,ZU,e']
   rw[nU e,b];exact h2
  ·have e':¬ q.1=k:=λz=>e (h1.trans z);have b:atKey (q::qs) k=atKey qs k:=by simp[atKey,ZU,e']
   rw[nT e,b];exact ih
theorem KT.mW(r:KT H kvs xs)(k:List Key)(ry:RelV y u) :
  KT H (kvs.map λkv=>if kv.1=k then (kv.1,y) else kv) (xs.map (putAt k u)):=by
 induction r with
 |nil=>exact .nil
 | @cons p q ps qs h t ih=>
  rw[Zu,Zu];refine .cons ?_ ih;obtain⟨h1,h2,h3⟩:=h;unfold putAt;by_cases e:p.1=k
  ·rw[Zg e,Zg (h1.symm.trans e)];exact⟨h1,h2,ry⟩
  ·rw[Zd e,Zd (λz=>e (h1.trans z))];exact⟨h1,h2,h3⟩
theorem KT.put(r:KT H kvs xs)(k:List Key)(hb:H b=some (.tup (k.map kV)))(ry:RelV y u) :
  KT H (putK kvs k y) (storedH xs k b u):=by
 have e:(kvs.any λkv=>decide (kv.1=k))=(atKey xs k).isSome:=by
  rw[oM,(r.val k).a0,Option.isSome_map]
 unfold putK storedH;rw[e];by_cases q:(atKey xs k).isSome=true
 ·rw[Zg q,Zg q];exact r.mW k ry
 ·rw[Zd q,Zd q];exact Paired.snoc r ⟨rfl,hb,ry⟩
theorem KT.keeps(r:KT H kvs xs)(ht:∀b ys,H b=some (.tup ys)->H' b=some (.tup ys)):KT H' kvs xs:=
 Paired.b6 r λ_ _ z=>⟨z.1,ht _ _ z.2.1,z.2.2⟩
section
variable{P:Program}{w:World}{H:Hp}{h:Heap}{a:Addr}
theorem lJ(ok:cM P w H h)(e:Rd H a u):aG P w H h a u:=e.ok ok
theorem dQ(ok:cM P w H h)(e:Rd H a (.dK kvs)):kvs.length<=sizeLine/\(a==sysModules)=false/\∃vs,KV kvs vs/\h.DictOf (bZ P w) a vs:=
 show aG P w H h a (.dK kvs) from lJ ok e
theorem l5(ok:cM P w H h)(e:H a=some (.dK kvs)):kvs.length<=sizeLine/\(a==sysModules)=false/\∃vs,KV kvs vs/\h.DictOf (bZ P w) a vs:=dQ ok (.inl e)
theorem key_of(ok:cM P w H h)(e:H a=some (.tup (ks.map kV))):(tupleKind (bZ P w)).is h ks a:=by
 obtain⟨_,its,r,o,h1,h2,n,h3⟩:=(show aG P w H h a (.tup (ks.map kV)) from ok a _ e);exact⟨o,its.toArray,n,h1,h2,h3,by simpa using Q3m r⟩
theorem dJ(ok:cM P w H h)(e:Rd H a (.dT kvs)):kvs.length<=sizeLine/\(a==sysModules)=false /\
  ∃xs,KT H kvs xs/\h.DictOfH (tupleKind (bZ P w)) a xs:=by
 obtain⟨z,y,xs,r,o,es,ep,h1,h2,h3,h4,h5⟩:=(show aG P w H h a (.dT kvs) from lJ ok e);refine⟨z,y,xs,r,o,es,ep,h1,h2,h3,h4,λx hx=>?_,h5⟩;have all:∀{l:List (List Key×V)}{m:List (List Key×Addr×Value)},KT H l m->∀x∈m,(tupleKind (bZ P w)).is h x.1 x.2.1:=by
  intro l m q
  induction q with
  |nil=>intro x hx;exact nomatch hx
  | @cons p q ps qs hq t ih=>
   intro x hx;rcases Zf.mp hx with e|hx
   ·subst e;exact key_of ok (by rw[<- hq.1];exact hq.2.1)
   ·exact ih x hx
 exact all r x hx
theorem dO(ok:cM P w H h)(e:H a=some (.dT kvs)):kvs.length<=sizeLine/\(a==sysModules)=false /\
  ∃xs,KT H kvs xs/\h.DictOfH (tupleKind (bZ P w)) a xs:=dJ ok (.inl e)
end
def cA(H:Hp)(a:Addr)(y:V)(r:Option V):Prop:=
 (∃kvs k,Rd H a (.dK kvs)/\y=kV k/\r=aH kvs k)\/∃kvs k b,Rd H a (.dT kvs)/\y=.ref b/\H b=some (.tup (k.map kV))/\r=aH kvs k
def jE(H:Hp)(a:Addr)(y v:V)(H':Hp):Prop:=
 (∃kvs k,H a=some (.dK kvs)/\y=kV k/\kvs.length<sizeLine/\H'=upd H a (.dK (putK kvs k v))) \/
 ∃kvs k b,H a=some (.dT kvs)/\y=.ref b/\H b=some (.tup (k.map kV))/\kvs.length<sizeLine/\H'=upd H a (.dT (putK kvs k v))
theorem cA.k{H:Hp}{a:Addr}{kvs:List (Key×V)}{k:Key}(e:H a=some (.dK kvs)):cA H a (kV k) (aH kvs k):=.inl ⟨kvs,k,.inl e,rfl,rfl⟩
theorem cA.t{H:Hp}{a b:Addr}{kvs:List (List Key×V)}{k:List Key}(e:H a=some (.dT kvs))(eb:H b=some (.tup (k.map kV))):cA H a (.ref b) (aH kvs k):=.inr ⟨kvs,k,b,.inl e,rfl,eb,rfl⟩
theorem jE.t{H:Hp}{a b:Addr}{kvs:List (List Key×V)}{k:List Key}{v:V}(e:H a=some (.dT kvs))(eb:H b=some (.tup (k.map kV)))(hl:kvs.length<sizeLine) :
  jE H a (.ref b) v (upd H a (.dT (putK kvs k v))):=.inr ⟨kvs,k,b,e,rfl,eb,hl,rfl⟩
section
variable{X:Cx}{pins:List (Addr×Obj)}{σ:St}{H:Hp}{s:Shared}{a:Addr}{y v:V}{u r:Value}{o:Option V}{A:Around}{E:Value->Shared->Prop}
theorem Inv.big(I:Inv X pins σ H s):sysModules<s.heap.objs.size:=by
 have h:mainGlobals<s.heap.objs.size:=(I.mod.glob.keeps I.bk).lt;exact Nat.lt_trans (by decide) h
theorem Q6v{Q:Value->Shared->Prop}(hu:A.units+1<cLine)(I:Inv X pins σ H s)(g:cA H a y (some v))(ry:RelV y u)(h:∀w' s',Inv X pins σ H s'->RelV v w'->Q w' s') :
  wpAny (model X.prog X.w) A (getItem (.ref a) u) Q E s:=by
 rcases g with ⟨kvs,k,e,ey,l⟩|⟨kvs,k,b,e,ey,eb,l⟩
 ·subst ey;obtain⟨z,hd,vs,rel,dd⟩:=dQ I.av e;obtain⟨w',hw,rw'⟩:=bO.some_of (v:=v) (o:=valueAt vs k) (by rw[l];exact rel.val k)
  exact wpAny_getItem_of (cH ry) dd.mapOf hw (h w' _ (I.tok _) rw')
 ·subst ey;cases (show u=Value.ref b from ry);obtain⟨z,hd,xs,rel,dd⟩:=dJ I.av e;obtain⟨w',hw,rw'⟩:=bO.some_of (v:=v) (o:=(atKey xs k).map (·.2)) (by rw[l];exact rel.val k)
  obtain⟨p,hp,hp2⟩:=Z4.mp hw;refine wpAny_getItem_heap (Ye hu) (key_of I.av eb) dd hp ?_;rw[hp2];exact h w' _ (I.tok _) rw'
theorem d_in{Q:Value->Shared->Prop}(hu:A.units+1<cLine)(I:Inv X pins σ H s)(g:cA H a y o)(ry:RelV y u)(h:∀s',Inv X pins σ H s'->Q (.bool o.isSome) s') :
  wpAny (model X.prog X.w) A (compareOp .In u (.ref a)) Q E s:=by
 rcases g with ⟨kvs,k,e,ey,l⟩|⟨kvs,k,b,e,ey,eb,l⟩
 ·subst ey;obtain⟨z,hd,vs,rel,dd⟩:=dQ I.av e;refine wpAny_in_of (cH ry) hd dd.mapOf ?_;rw[<- (rel.val k).a0,<- l];exact h _ (I.tok _)
 ·subst ey;cases (show u=Value.ref b from ry);obtain⟨z,hd,xs,rel,dd⟩:=dJ I.av e;refine wpAny_in_heap (Ye hu) (key_of I.av eb) hd dd ?_;have q:=(rel.val k).a0;rw[Option.isSome_map]at q;rw[<- q,<- l];exact h _ (I.tok _)
theorem Qan{Q:Value->Shared->Prop}(hu:A.units+1<cLine)(I:Inv X pins σ H s)(g:cA H a y o)(ry:RelV y u)(h:∀s',Inv X pins σ H s'->Q (.bool (!o.isSome)) s') :
  wpAny (model X.prog X.w) A (compareOp .NotIn u (.ref a)) Q E s:=by
 rcases g with ⟨kvs,k,e,ey,l⟩|⟨kvs,k,b,e,ey,eb,l⟩
 ·subst ey;obtain⟨z,hd,vs,rel,dd⟩:=dQ I.av e;refine wpAny_notIn_of (cH ry) hd dd.mapOf ?_;rw[<- (rel.val k).a0,<- l];exact h _ (I.tok _)
 ·subst ey;cases (show u=Value.ref b from ry);obtain⟨z,hd,xs,rel,dd⟩:=dJ I.av e;refine wpAny_notIn_heap (Ye hu) (key_of I.av eb) hd dd ?_;have q:=(rel.val k).a0;rw[Option.isSome_map]at q;rw[<- q,<- l];exact h _ (I.tok _)
theorem kL(I:Inv X pins σ H s)(mu:se (H a))(hs:Heap.SameBut a s.heap h')(he:∃q,h'.get? a=some q)(new:aG X.prog X.w (upd H a ob) h' a ob) :
  Inv X pins σ (upd H a ob) {s with heap:=h',toks:=t'}:=
 I.write (x:=a) (e:=a) mu (.inl rfl) (λb q hb z=>(hs.2 b hb).trans z) he new
theorem Q9D(z:kvs.length<=sizeLine)(hd:(a==sysModules)=false)(rel:KV kvs vs)(dd:h'.DictOf (bZ P w) a vs) :
  aG P w H' h' a (.dK kvs):=⟨z,hd,vs,rel,dd⟩
theorem Q6w{Q:Unit->Shared->Prop}(hu:A.units+1<cLine)(I:Inv X pins σ H s)(g:jE H a y v H')(ry:RelV y u)(rv:RelV v r)(h:∀s',Inv X pins σ H' s'->Q () s') :
  wpAny (model X.prog X.w) A (setItem (.ref a) u r) Q E s:=by
 rcases g with ⟨kvs,k,e,ey,l,eH⟩|⟨kvs,k,b,e,ey,eb,l,eH⟩
 ·subst ey eH;obtain⟨z,hd,vs,rel,dd⟩:=l5 I.av e;have hz:vs.length<=sizeLine:=by rw[<- rel.length];exact z
  have hl:(putK kvs k v).length<=sizeLine:=by have:=nQ kvs k v;room
  refine wpAny_setItem_pairs (hsz:=hz) (cH ry) dd λh' dd' hs=>h _ ?_;have he:∃q,h'.get? a=some q:=let ⟨q,_,_,hq,_⟩:=dd';⟨q,hq⟩;exact kL I (by rw[e];exact ZH) hs he (Q9D hl hd (rel.put k rv) dd')
 ·subst ey eH;cases (show u=Value.ref b from ry);obtain⟨z,hd,xs,rel,dd⟩:=dO I.av e;have hz:xs.length<=sizeLine:=by rw[<- ZQ rel];exact z
  have hl:(putK kvs k v).length<=sizeLine:=by have:=nQ kvs k v;room
  refine wpAny_setItem_heap (hsz:=hz) (Ye hu) (key_of I.av eb) dd λh' dd' hs=>h _ ?_;obtain⟨q,es,ep,hq,h2,h3,h4,_,h5⟩:=dd';refine kL I (by rw[e];exact ZH) hs ⟨q,hq⟩ ⟨hl,hd,_,(rel.put k eb rv).keeps λc ys ec=>?_,q,es,ep,hq,h2,h3,h4,h5⟩
  rw[aY (eI ec e (λz=>nomatch z))]
  exact ec
end
section
variable{X:Cx}{pins:List (Addr×Obj)}{σ:St}{H:Hp}{s:Shared}{a:Addr}{kvs:List (Key×V)}{k:Key}{u:Value}{A:Around}{E:Value->Shared->Prop}
end
def iD(i:Expr):Prop:=∀ov iv,subscripted i false ov iv=operate [ov,iv] (getItem ov iv)
theorem Q6x{prog:Program}{w:World}{A:Around}{E:Value->Shared->Prop}{s:Shared}{env:Env}{value slice:Expr}{pos:Pos}{T id:String}{Q:Value->Shared->Prop}
  (hl:typeLookup (.type T) "__getitem__" = pure (some (.builtin id))) (hs:iD slice)
  (h:wpAny (model prog w) A (eval value env) (λo s₁=>wpAny (model prog w) A (eval slice env) (λi s₂=>s₂.TypeIs o T/\wpAny (model prog w) A (getItem o i) Q E s₂) E s₁) E s) :
  wpAny (model prog w) A (eval (.Subscript value slice pos) env) Q E s:=by
 refine Subscript_ (Yd h (λo s₁ h₁=>Yd h₁ (λi s₂ h₂=>?_) λ_ _ x=>x) λ_ _ x=>x);obtain⟨hT,h₂⟩:=h₂;unfold subscriptTail;refine Za ?_;rw[getitemInPython_of_ne hT.not_modules];refine Za (wpAny_specialOf hT hl ?_);have fin:wpAny (model prog w) A (subscripted slice false o i) (λr s₃=>wpAny (model prog w) A (letTemporaryGo value o r >>= λ_=>pure r) Q E s₃) E s₂:=by
  rw[hs o i];exact wpAny_operating (Yd h₂ (λr s₃ h₃=>Za (wpAny_letTemporaryGo (Zb h₃))) λ_ _ x=>x)
 first
  |exact Zb (Za fin)
  |exact Za (Zb (Za fin))
  |exact Za fin
theorem Q4e(I:Inv X pins σ H s)(g:cA H a y o):s.TypeIs (.ref a) "dict":=by
 rcases g with ⟨kvs,k,e,_,_⟩|⟨kvs,k,b,e,_,_,_⟩
 ·obtain⟨_,_,vs,_,dd⟩:=dQ I.av e;exact dd.typeIs
 ·obtain⟨_,_,xs,_,dd⟩:=dJ I.av e;exact dd.typeIs
def pN(td ty:TE):TE:=λσ H Q=>td σ H λx H1=>ty σ H1 λy H2=>∃a v,x=.ref a/\cA H2 a y (some v)/\Q v H2
def pS(td ty tv:TE):TS:=λD σ H=>tv σ H λv H1=>td σ H1 λx H2=>ty σ H2 λy H3=>∃a H4,x=.ref a/\jE H3 a y v H4/\D.nx σ H4
section
variable{X:Cx}{o i e value:Expr}{pos pos' tpos:Pos}{td ty tv:TE}
theorem Qao(hu:X.A.units+1<cLine)(ho:PE X o td)(hi:PE X i ty)(hs:iD i):PE X (.Subscript o i pos) (pN td ty):=by
 intro pins s σ H Q I h;refine Q6x PySem.F.slot_dict_getitem.lookup hs (aE (ho pins s σ H _ I h) λu s1 ⟨x,H1,I1,rx,q1⟩=>aE (hi pins s1 σ H1 _ I1 q1) λiv s2 zz=>?_);obtain⟨y,H2,I2,ry,a,v,ex,g,q2⟩:=zz;subst ex;obtain rfl:u=Value.ref a:=rx;exact⟨Q4e I2 g,Q6v hu I2 g ry λw' s3 I3 rw'=>⟨v,H2,I3,rw',q2⟩⟩
theorem Qap(hu:X.A.units+1<cLine)(ho:PE X o td)(hi:PE X i ty)(hv:PE X value tv)(hs:swapsWith value (some (.Subscript o i pos')) pos.line X.env=pure false) :
  PS X (.Assign [.Subscript o i pos'] value pos) (pS td ty tv):=by
 intro pins s σ H D I h;refine wpAny_Assign_Subscript (aE (hv pins s σ H _ I h) λr s1 ⟨v,H1,I1,rv,q1⟩=>aE (ho pins s1 σ H1 _ I1 q1) λu s2 ⟨x,H2,I2,rx,q2⟩=>aE (hi pins s2 σ H2 _ I2 q2) λiv s3 zz=>?_) hs;obtain⟨y,H3,I3,ry,a,H4,ex,g,q3⟩:=zz;subst ex;obtain rfl:u=Value.ref a:=rx;exact Q6w hu I3 g ry rv λs4 I4=>⟨σ,H4,I4,q3⟩
end
theorem Q8a(h:Heap)(hb:sysModules<h.objs.size):aG P w H (h.push { cls:=.type "dict",data:=.dict #[]}) h.objs.size (.dK []):=
 ⟨Z8 _,ZZ.mpr (Ne.symm (ZL hb)),[],.nil,Heap.DictOf.new h⟩
theorem Q2J(h:Heap)(hb:sysModules<h.objs.size):aG P w H (h.push { cls:=.type "dict",data:=.dict #[]}) h.objs.size (.dT []):=
 ⟨Z8 _,ZZ.mpr (Ne.symm (ZL hb)),[],.nil,_,#[],0,Zw _ rfl,⟨rfl,rfl,rfl⟩,rfl,rfl,nodup_nil⟩
def mT:TE:=λ_ H Q=>∀p,H p=none->Q (.ref p) (upd H p (.dK []))
def mS:TE:=λ_ H Q=>∀p,H p=none->Q (.ref p) (upd H p (.dT []))
section
variable{X:Cx}{pos:Pos}
theorem Q8b:PE X (.Dict [] [] pos) mT:=λpins s σ H Q I h=>
 wpAny_Dict_empty ⟨.ref s.heap.objs.size,_,I.laid (a:=s.heap.objs.size) (o:=.dK []) (t':=s.toks) (λ_ _ q=>Zi _ q) (Zy _) (Q8a s.heap I.big),rfl,h _ (I.av.fresh (Zy _))⟩
theorem Q8c:PE X (.Dict [] [] pos) mS:=λpins s σ H Q I h=>
 wpAny_Dict_empty ⟨.ref s.heap.objs.size,_,I.laid (a:=s.heap.objs.size) (o:=.dT []) (t':=s.toks) (λ_ _ q=>Zi _ q) (Zy _) (Q2J s.heap I.big),rfl,h _ (I.av.fresh (Zy _))⟩
end
structure M1(X:Cx)(o:Expr)(m:Str)(apos:Pos)(e:Expr)(cpos:Pos):Prop where
 base:attributeBase o m X.env (eval o X.env)=eval o X.env
 ir:((backTo cpos (starEach [e] X.env)).all (λx=>!x.1)&&(backToKw cpos (keywordEach [] X.env)).all (λx=>x.1.isSome)
  && decide (([e]:List Expr).length+([]:List Keyword).length+(if ([]:List Keyword).isEmpty then 0 else 1)<30))=true
 line:(apos.endLine==cpos.line)=true
 trees:backTo cpos (starEach [e] X.env)=[(false,eval e X.env)]
structure M2(X:Cx)(o:Expr)(m:Str)(apos:Pos)(e f:Expr)(cpos:Pos):Prop where
 base:attributeBase o m X.env (eval o X.env)=eval o X.env
 ir:((backTo cpos (starEach [e,f] X.env)).all (λx=>!x.1)&&(backToKw cpos (keywordEach [] X.env)).all (λx=>x.1.isSome)
  && decide (([e,f]:List Expr).length+([]:List Keyword).length+(if ([]:List Keyword).isEmpty then 0 else 1)<30))=true
 line:(apos.endLine==cpos.line)=true
 trees:backTo cpos (starEach [e,f] X.env)=[(false,eval e X.env),(false,eval f X.env)]
def sk(H:Hp)(a:Addr):Prop:=(∃kvs,Rd H a (.dK kvs))\/∃kvs,Rd H a (.dT kvs)
theorem rH(I:Inv X pins σ H s)(d:sk H a) :
  s.TypeIs (.ref a) "dict" /\ (∀b,Value.ref a=.ref b->∃ob,s.heap.get? b=some ob/\ob.dict=none)/\(a==sysModules)=false:=by
 rcases d with ⟨kvs,e⟩|⟨kvs,e⟩
 ·obtain⟨_,hd,vs,_,dd⟩:=dQ I.av e;refine⟨dd.typeIs,λb q=>?_,hd⟩;cases q;obtain⟨ob,_,_,h1,h2,_⟩:=dd;exact⟨ob,h1,h2.2.1⟩
 ·obtain⟨_,hd,xs,_,dd⟩:=dJ I.av e;refine⟨dd.typeIs,λb q=>?_,hd⟩;cases q;obtain⟨ob,_,_,h1,h2,_⟩:=dd;exact⟨ob,h1,h2.2.1⟩
section
variable{X:Cx}{pins:List (Addr×Obj)}{σ:St}{H:Hp}{s:Shared}{a:Addr}{y d:V}{u r:Value}{o:Option V}{A:Around}{E:Value->Shared->Prop}
theorem Qce{Q:Value->Shared->Prop}(hu:A.units+1<cLine)(I:Inv X pins σ H s)(g:cA H a y o)(ry:RelV y u)(h:∀w' s',Inv X pins σ H s'->RelV (o.getD .non) w'->Q w' s') :
  wpAny (model X.prog X.w) A (call (.builtin "dict.get") [.ref a,u]) Q E s:=by
 rcases g with ⟨kvs,k,e,ey,l⟩|⟨kvs,k,b,e,ey,eb,l⟩
 ·subst ey;obtain⟨z,hd,vs,rel,dd⟩:=dQ I.av e;refine call_meetsIn slot_dict_get dd.typeIs entry_dict_get (args_dict_get_2 _ _) (meets_dict_get (bZ X.prog X.w) a (cH ry) hd) ⟨_,dd.mapOf,h _ _ (I.tok _) ?_⟩;rw[l];exact (rel.val k).getD rfl
 ·subst ey;cases (show u=Value.ref b from ry);obtain⟨z,hd,xs,rel,dd⟩:=dJ I.av e;refine call_meetsIn slot_dict_get dd.typeIs entry_dict_get (args_dict_get_2 _ _) (meetsH_dict_get (tupleKind (bZ X.prog X.w)) a b hd) ⟨Ye hu,k,xs,key_of I.av eb,dd,h _ _ (I.tok _) ?_⟩;rw[l];exact (rel.val k).getD rfl
theorem Qcf{Q:Value->Shared->Prop}(hu:A.units+1<cLine)(I:Inv X pins σ H s)(g:cA H a y o)(ry:RelV y u)(rd:RelV d r)(h:∀w' s',Inv X pins σ H s'->RelV (o.getD d) w'->Q w' s') :
  wpAny (model X.prog X.w) A (call (.builtin "dict.get") [.ref a,u,r]) Q E s:=by
 rcases g with ⟨kvs,k,e,ey,l⟩|⟨kvs,k,b,e,ey,eb,l⟩
 ·subst ey;obtain⟨z,hd,vs,rel,dd⟩:=dQ I.av e;refine call_meetsIn slot_dict_get dd.typeIs entry_dict_get (PySem.F.args_dict_get_3 _ _ _) (meets_dict_get_default (bZ X.prog X.w) a (cH ry) hd r) ⟨_,dd.mapOf,h _ _ (I.tok _) ?_⟩;rw[l];exact (rel.val k).getD rd
 ·subst ey;cases (show u=Value.ref b from ry);obtain⟨z,hd,xs,rel,dd⟩:=dJ I.av e;refine call_meetsIn slot_dict_get dd.typeIs entry_dict_get (PySem.F.args_dict_get_3 _ _ _) (meetsH_dict_get_default (tupleKind (bZ X.prog X.w)) a b hd r) ⟨Ye hu,k,xs,key_of I.av eb,dd,h _ _ (I.tok _) ?_⟩;rw[l];exact (rel.val k).getD rd
end
def mU(td ty tx:TE):TE:=λσ H Q=>td σ H λx H1=>∃a,x=.ref a/\sk H1 a/\ty σ H1 λy H2=>tx σ H2 λz H3=>∃o,cA H3 a y o/\Q (o.getD z) H3
section
variable{X:Cx}{o e f:Expr}{apos cpos:Pos}{td ty tx:TE}
theorem Q4D(hu:X.A.units+1<cLine)(ho:PE X o td)(he:PE X e ty)(hf:PE X f tx)(m:M2 X o "get" apos e f cpos):PE X (.Call (.Attribute o "get" apos) [e,f] [] cpos) (mU td ty tx):=by
 intro pins s σ H Q I h;refine wpAny_Call_method m.base m.ir m.line plainAttrs_dict slot_dict_get type_dict_get (aE (ho pins s σ H _ I h) λu s1 zz=>?_);obtain⟨x,H1,I1,rx,a,ex,d,q1⟩:=zz;subst ex;obtain rfl:u=Value.ref a:=rx;obtain⟨t1,t2,_⟩:=rH I1 d;refine⟨t1,t2,?_⟩;rw[m.trees];refine Yj rfl (Calls.evalArgs_plain (ZM (aE (he pins s1 σ H1 _ I1 q1) λiv s2 ⟨y,H2,I2,ry,q2⟩=>
  ZM (aE (hf pins s2 σ H2 _ I2 q2) λfv s3 ⟨z,H3,I3,rz,ov,g,q3⟩=>Calls.spliced_nil ?_))))
 exact Qcf hu I3 g ry rz λw' s4 I4 rw'=>⟨_,H3,I4,rw',q3⟩
end
section
variable{X:Cx}{pins:List (Addr×Obj)}{σ:St}{H:Hp}{s:Shared}{a:Addr}{kvs:List (Key×V)}{A:Around}{E:Value->Shared->Prop}
end
section
variable{X:Cx}{pins:List (Addr×Obj)}{σ:St}{H:Hp}{s:Shared}{a:Addr}{y:V}{u:Value}{A:Around}{E:Value->Shared->Prop}
end
section
variable{prog:Program}{w:World}{K:Type}[DecidableEq K]{knd:HeapKind prog w K}{A:Around}{E:Value->Shared->Prop}{s:Shared}
theorem Q1k{Q:Value->Shared->Prop}(hu:knd.room A)(hkey:knd.is s.heap k a)(hm:s.heap.DictOfH knd d xs)
  (h1:∀p,atKey xs k=some p->Q p.2 {s with toks:=s.toks+knd.draws k})
  (h2:atKey xs k=none->∀h',h'.DictOfH knd d (storedH xs k a v)->Heap.SameBut d s.heap h'->Q v {s with heap:=h',toks:=s.toks+knd.draws k})
  (hsz:xs.length<=sizeLine):wpAny (model prog w) A (dictSetDefault d (.ref a) v) Q E s:=by
 obtain⟨o,es,ep,ho,hc,hd,he,his,hn⟩:=hm;unfold dictSetDefault
 try with_reducible refine ZP ?_
 refine Za (knd.pyHash hu hkey (Za (wpAny_dictFind_heap (s:={s with toks:=s.toks+knd.draws k}) hu hkey ho hd he his hn ?_ ?_)))
 ·intro hno;have hnot:k∉xs.map (·.1):=not_mem_keys_of_get hno;have hk:atKey xs k=none:=atKey_none_of_get hno;refine Za (wpAny_rule (Za (wpAny_updateDictKeys (hz:=by have e:=size_of_entries he;room) (s:={s with toks:=s.toks+knd.draws k}) ho hd (Zb (h2 hk _ ⟨_,_,ep+1,Heap.get?_update_self _ ho (Obj.isFreed_of_dict (Obj.data_mapDictKeys hd _)),
   hc.mapDictKeys _,Obj.data_mapDictKeys hd _,?_,?_,?_⟩ (ZK ..))))))
  ·rw[storedH_new hk];simp[he,entryOfKey]
  ·rw[storedH_new hk];intro x hx;rcases Z1.mp hx with hx|hx
   ·exact knd.keeps (his x hx) ho hd (ZK ..)
   ·erw[Zh]at hx;subst hx;exact knd.keeps hkey ho hd (ZK ..)
  ·rw[storedH_new hk];rw[ZA,nodup_append];refine⟨hn,by simp,?_⟩
   intro x hx y hy;erw[Zu,map_nil,Zh]at hy;subst hy;exact λe=>hnot (e ▸ hx)
 ·intro j p hj;refine Za (Yo (s:={s with toks:=s.toks+knd.draws k}) ho hd ?_);rw[entry_at he j,hj];exact Za (wpAny_rule (Zb (h1 p (atKey_of_get hn hj))))
end
theorem Q1C{prog:Program}{w:World}{K:Type}[DecidableEq K](knd:HeapKind prog w K)(d a:Addr)(hd:(d==sysModules)=false)(dflt:Value) :
  MeetsIn prog w (Builtin.«dict.setdefault» ⟨[.ref d,.ref a,dflt],[]⟩) (λA R s=>knd.room A.in1/\∃k xs,knd.is s.heap k a/\s.heap.DictOfH knd d xs/\xs.length<=sizeLine /\
   (∀p,atKey xs k=some p->R (.ok (.ret p.2)) {s with toks:=s.toks+knd.draws k}) /\
   (atKey xs k=none->∀h',h'.DictOfH knd d (storedH xs k a dflt)->Heap.SameBut d s.heap h'->R (.ok (.ret dflt)) {s with heap:=h',toks:=s.toks+knd.draws k})):=
 .of_wp λA R s ⟨hu,k,xs,hkey,hm,hz,h1,h2⟩=>by
  unfold Builtin.«dict.setdefault»;refine Za ?_;unfold Builtin.Dict.keyAndDefault;refine Za (wpAny_notOrdered_dict hm.typeIs ?_);show wpAny _ _ (pure (d,Value.ref a,some dflt)) _ _ s;refine Zb ?_;show wpAny _ _ (if (d==sysModules)=true then _ else (dictSetDefault d (.ref a) dflt >>= _)) _ _ s
  rw[Zd (by rw[hd];exact Z0)]
  exact Za (Q1k (hsz:=hz) hu hkey hm (λp hp=>Zb ⟨p.2,rfl,h1 p hp⟩) λhn h' hm' hs'=>Zb ⟨dflt,rfl,h2 hn h' hm' hs'⟩)
section
variable{X:Cx}{pins:List (Addr×Obj)}{σ:St}{H:Hp}{s:Shared}{a b:Addr}{v:V}{r:Value}{A:Around}{E:Value->Shared->Prop}{kvs:List (List Key×V)}{k:List Key}
theorem Q8d {Q:Value->Shared->Prop}(hu:A.units+1<cLine)(I:Inv X pins σ H s)(e:H a=some (.dT kvs))(eb:H b=some (.tup (k.map kV)))(l:kvs.length<sizeLine)(rv:RelV v r)
  (h1:∀y u s',aH kvs k=some y->RelV y u->Inv X pins σ H s'->Q u s') (h2:aH kvs k=none->∀s',Inv X pins σ (upd H a (.dT (putK kvs k v))) s'->Q r s') :
  wpAny (model X.prog X.w) A (call (.builtin "dict.setdefault") [.ref a,.ref b,r]) Q E s:=by
 obtain⟨z,hd,xs,rel,dd⟩:=dO I.av e;have hz:xs.length<=sizeLine:=by rw[<- ZQ rel];exact z
 have hl:(putK kvs k v).length<=sizeLine:=by have:=nQ kvs k v;room
 refine call_meetsIn slot_dict_setdefault dd.typeIs PySem.F.entry_dict_setdefault (PySem.F.args_dict_setdefault_3 _ _ _) (Q1C (tupleKind (bZ X.prog X.w)) a b hd r)
  ⟨Ye hu,k,xs,key_of I.av eb,dd,hz,λp hp=>?_,λhn h' dd' hs=>?_⟩
 ·have q:=rel.val k;rw[hp]at q;cases ev:aH kvs k with
  |none=>rw[ev]at q;exact (show False from q).elim
  |some y=>
   rw[ev]at q;exact h1 y p.2 _ ev q (I.tok _)
 ·have q:=rel.val k;rw[hn]at q;have ev:aH kvs k=none:=by
   cases ev:aH kvs k with
   |none=>rfl
   |some y=>rw[ev]at q;exact (show False from q).elim
  refine h2 ev _ ?_;obtain⟨q,es,ep,hq,g2,g3,g4,_,g5⟩:=dd';refine kL I (by rw[e];exact ZH) hs ⟨q,hq⟩ ⟨hl,hd,_,(rel.put k eb rv).keeps λc ys ec=>?_,q,es,ep,hq,g2,g3,g4,g5⟩
  rw[aY (eI ec e (λz=>nomatch z))]
  exact ec
end
def mR(td ty tx:TE):TE:=λσ H Q=>td σ H λx H1=>∃a,x=.ref a/\sk H1 a/\ty σ H1 λy H2=>tx σ H2 λz H3=>∃kvs k b,H3 a=some (.dT kvs)/\y=.ref b/\H3 b=some (.tup (k.map kV))/\kvs.length<sizeLine /\
 (∀v,aH kvs k=some v->Q v H3)/\(aH kvs k=none->Q z (upd H3 a (.dT (putK kvs k z))))
theorem Q8e(hu:X.A.units+1<cLine)(ho:PE X o td)(he:PE X e ty)(hf:PE X f tx)(m:M2 X o "setdefault" apos e f cpos):PE X (.Call (.Attribute o "setdefault" apos) [e,f] [] cpos) (mR td ty tx):=by
 intro pins s σ H Q I h;refine wpAny_Call_method m.base m.ir m.line plainAttrs_dict slot_dict_setdefault PySem.F.type_dict_setdefault (aE (ho pins s σ H _ I h) λu s1 zz=>?_);obtain⟨x,H1,I1,rx,a,ex,d,q1⟩:=zz;subst ex;obtain rfl:u=Value.ref a:=rx;obtain⟨t1,t2,_⟩:=rH I1 d;refine⟨t1,t2,?_⟩;rw[m.trees];refine Yj rfl (Calls.evalArgs_plain (ZM (aE (he pins s1 σ H1 _ I1 q1) λiv s2 ⟨y,H2,I2,ry,q2⟩=>
  ZM (aE (hf pins s2 σ H2 _ I2 q2) λfv s3 ⟨z,H3,I3,rz,kvs,k,b,ea,ey,eb,hl,q3,q4⟩=>Calls.spliced_nil ?_))))
 subst ey;obtain rfl:iv=Value.ref b:=ry;exact Q8d hu I3 ea eb hl rz (λv u' s' ev rv I'=>⟨v,H3,I',rv,q3 v ev⟩) λev s' I'=>⟨z,_,I',rz,q4 ev⟩
def mQ(tk tv:TE):TE:=λσ H Q=>∀p,H p=none->tk σ (upd H p (.dT [])) λx H1=>tv σ H1 λy H2=>∃k b,x=.ref b/\H2 b=some (.tup (k.map kV))/\H2 p=some (.dT [])/\Q (.ref p) (upd H2 p (.dT [(k,y)]))
theorem Q8f(hu:X.A.units+1<cLine)(hk:PE X k tk)(hv:PE X v tv):PE X (.Dict [some k] [v] pos) (mQ tk tv):=by
 intro pins s σ H Q I q;have hn:=I.av.fresh (Zy s.heap.objs.size);have I1:=I.laid (a:=s.heap.objs.size) (o:=.dT []) (h':=s.heap.push { cls:=.type "dict",data:=.dict #[]}) (t':=s.toks) (λ_ _ q=>Zi _ q) (Zy _) (Q2J s.heap I.big);refine wpAny_Dict_any rfl rfl (by simp) (by show 1<=15;decide) ?_
 refine pairTrees_cons_walk (aE (hk pins _ σ _ _ I1 (q _ hn)) λkv s1 ⟨x,H1,J1,rx,q1⟩=>aE (hv pins s1 σ H1 _ J1 q1) λvv s2 ⟨y,H2,J2,ry,ks,b,ex,eb,ep,q2⟩=>pairTrees_nil_walk ?_);subst ex;obtain rfl:kv=Value.ref b:=rx;obtain⟨z,hd,xs,rel,dd⟩:=dO J2.av ep;cases rel;have hu':(tupleKind (bZ X.prog X.w)).room X.A:=Nat.lt_of_succ_lt hu;unfold storeAll;refine wpAny_forIn_list _ (λrest r s'=>(rest=[(Value.ref b,vv)]/\s'=s2)\/(rest=[]/\∃s3,s'=s3/\Inv X pins σ (upd H2 s.heap.objs.size (.dT [(ks,y)])) s3)) _ ?_ ?_ _ _ (.inl ⟨rfl,rfl⟩)
 ·rintro p rest r s' (⟨e1,rfl⟩|⟨e1,_⟩)
  ·cases e1;refine Za (wpAny_dictSet_heap (hsz:=by simp) (knd:=tupleKind (bZ X.prog X.w)) hu' (key_of J2.av eb) dd λh' dd' hs=>Zb ?_)
   refine .inr ⟨rfl,_,rfl,?_⟩;obtain⟨qo,es,eo,hq,g2,g3,g4,_,g5⟩:=dd';refine kL J2 (by rw[ep];exact ZH) hs ⟨qo,hq⟩ ⟨by simp[ZX],hd,_,?_,qo,es,eo,hq,g2,g3,g4,g5⟩
   refine Paired.cons ⟨rfl,?_,ry⟩ .nil;show upd H2 _ _ b=_;rw[aY (eI eb ep (λz=>nomatch z))]
   exact eb
  ·cases e1
 ·rintro r s' (⟨e1,_⟩|⟨_,s3,rfl,I3⟩)
  ·cases e1
  ·exact⟨.ref s.heap.objs.size,_,I3,rfl,q2⟩
section
variable{X:Cx}{o i value:Expr}{td ty tv:TE}{pos pos':Pos}
end
section
variable{P:Program}{w:World}{A:Around}{E:Value->Shared->Prop}{s:Shared}{d it:Addr}{o:Obj}{es:Array DictEntry}{ep i:Nat}
theorem Q6y{Q:Value->Shared->Prop}(hd:(d==sysModules)=false)(ty:s.TypeIs (.ref d) "dict")(h1:s.heap.get? d=some o)(h2:o.data=.dict es ep)
  (h:Q (.ref s.heap.objs.size) {s with heap:=s.heap.push { cls:=.type "dict_keyiterator",data:=.fields #[.ref d,.int 0 0,.int es.size 0,.int ep 0]}}):wpAny (model P w) A (pyIter (.ref d)) Q E s:=by
 have nm:¬ ((d==sysModules)=true):=by rw[hd];exact Z0
 refine wpAny_pyIter_slot ty PySem.F.slot_dict_iter (wpAny_call_entry PySem.F.slot_dict_iter ty PySem.F.entry_dict_iter ?_ (PySem.F.args_dict_iter_1 _));unfold Builtin.«dict.__iter__» Builtin.Dict.dictSlotNone;refine Za (Za (wpAny_notOrdered_dict ty (Zb (a:=Value.ref d) ?_)));show wpAny _ _ (Builtin.Dict.showsAll d >>= _) _ _ s;unfold Builtin.Dict.showsAll;rw[Zd nm];refine Za (Zb (Za (Yo h1 h2 (Za (wpAny_dictEpoch h1 h2 (Za (Yn (Zb ⟨_,rfl,"dict_keyiterator",_,⟨_,Zw _ rfl,rfl⟩,slot_dict_keyiterator_next.lookup,?_⟩))))))));simpa[rawInt]using h
theorem Q6z{Q:Option Value->Shared->Prop}(st:s.heap.IsKeyIter it d i es.size ep)(h1:s.heap.get? d=some o)(h2:o.data=.dict es ep)(lt:i<es.size)
  (h:∀h',h'.IsKeyIter it d (i+1) es.size ep->Heap.SameBut it s.heap h'->Q (some es[i].key) {s with heap:=h'}):wpAny (model P w) A (pyNext (.ref it)) Q E s:=by
 obtain⟨oi,q1,q2,q3⟩:=id st;have own:Builtin.Dict_items.ownsTuple "dict_keyiterator" = false:=by decide
 have st':(s.heap.update it (Obj.mapFields (·.setIfInBounds 1 (rawInt ((i:Int)+1))))).IsKeyIter it d (i+1) es.size ep:=
  ⟨_,Heap.get?_update_self _ q1 (Obj.isFreed_of_fields (Obj.data_mapFields q3 _)),(Obj.cls_mapFields ..).trans q2,by rw[Obj.data_mapFields q3];simp[rawInt]⟩
 unfold pyNext;refine Za (wpAny_attempt (wpAny_callSpecial?_slot (name:=Str.ofString "__next__") st.typeIs slot_dict_keyiterator_next (wpAny_call_entry slot_dict_keyiterator_next st.typeIs PySem.F.entry_dict_keyiterator_next ?_ (PySem.F.args_dict_keyiterator_next_1 _))));refine Za (Zb (Za (Za ?_)));refine Za (wpAny_typeNameOfWhole_keyiter st.typeIs (Zb (Za (wpAny_fieldsOf q1 q3 ?_))));erw[own,Z9,ZT];show wpAny _ _ (if (Value.ref d==Value.none)=true then _ else _) _ _ s
 have dn:¬ ((Value.ref d==Value.none)=true):=λz=>Z0 z;rw[Zd dn];refine Za (Zb (Za (Yo h1 h2 ?_)));rw[Zd (by simp)]
 refine Za (Zb (Za (wpAny_dictEpoch h1 h2 ?_)));rw[Zd (by simp)]
 refine Zb ?_;have ni:¬ ((i:Int)<0):=by room
 erw[ni,ZT,Int.toNat_natCast,Array.getElem?_eq_getElem lt];refine Za (Za (wpAny_typeNameOfWhole_keyiter st.typeIs (Zb (Za (wpAny_isOneOf_keyiter st.typeIs ?_)))));show wpAny _ _ (setField (.ref it) 1 (rawInt ((i:Int)+1)) >>= _) _ _ s;refine Za (wpAny_setField q1 q3 (by simp) (Za (ZP ?_)))
 refine Za (wpAny_isOneOf_keyiter (s:={s with heap:=s.heap.update it (Obj.mapFields (·.setIfInBounds 1 (rawInt ((i:Int)+1))))}) st'.typeIs ?_);show wpAny _ _ (pure es[i].key) _ _ _;exact Zb (Zb ⟨_,rfl,Zb (h _ st' (ZK ..))⟩)
theorem Q8g{Q:Option Value->Shared->Prop}(hh:A.handled=none)(st:s.heap.IsKeyIter it d i es.size ep)(h1:s.heap.get? d=some o)(h2:o.data=.dict es ep)(ge:es.size<=i)
  (h:∀h',Heap.ExtBut it s.heap h'->Q none {s with heap:=h'}):wpAny (model P w) A (pyNext (.ref it)) Q E s:=by
 obtain⟨oi,q1,q2,q3⟩:=id st;have own:Builtin.Dict_items.ownsTuple "dict_keyiterator" = false:=by decide
 unfold pyNext;refine Za (wpAny_attempt (wpAny_callSpecial?_slot (name:=Str.ofString "__next__") st.typeIs slot_dict_keyiterator_next (wpAny_call_entry slot_dict_keyiterator_next st.typeIs PySem.F.entry_dict_keyiterator_next ?_ (PySem.F.args_dict_keyiterator_next_1 _))));refine Za (Zb (Za (Za ?_)));refine Za (wpAny_typeNameOfWhole_keyiter st.typeIs (Zb (Za (wpAny_fieldsOf q1 q3 ?_))));erw[own,Z9,ZT];show wpAny _ _ (if (Value.ref d==Value.none)=true then _ else _) _ _ s
 have dn:¬ ((Value.ref d==Value.none)=true):=λz=>Z0 z;rw[Zd dn];refine Za (Zb (Za (Yo h1 h2 ?_)));rw[Zd (by simp)]
 refine Za (Zb (Za (wpAny_dictEpoch h1 h2 ?_)));rw[Zd (by simp)]
 refine Zb ?_;have ni:¬ ((i:Int)<0):=by room
 erw[ni,ZT,Int.toNat_natCast,Array.getElem?_eq_none ge];refine Za (Za (wpAny_typeNameOfWhole_keyiter st.typeIs (Zb ?_)));show wpAny _ _ (setField (.ref it) 0 .none >>= _) _ _ s;refine Za (wpAny_setField q1 q3 (by simp) ?_)
 show wpAny _ _ (newExc (.type "StopIteration") [] >>= _) _ _ _;erw[newExc,newTuple];refine Za (Za (Yn (Za (m:=firstArgMember _ _) (wpAny_of_eq (a:=Value.none) (by first|rfl|(erw[firstArgMember];rfl)) (Yn ?_ (by size_fits)))) (by size_fits)))
 erw[raiseNew];refine Za (wpAny_handled ?_);rw[show A.in1.handled=none from hh];refine Za (Zb (wpAny_throw (Za ?_)));exact wpAny_isInstance (T:="StopIteration") (b:=true) ⟨_,Zw _ rfl,rfl⟩ isSubtype_stop (Zb (h _ (((ZK ..).extBut.push _).push _)))
end
noncomputable abbrev NT(fl:Bool)(H:Hp):List (NK.aX Key×V)->List (NK.aX Key×Addr×Value)->Prop:=Paired λp q=>p.1=q.1/\bK fl H p.1 q.2.1/\RelV p.2 q.2.2
theorem NT.val(r:NT fl H kvs xs)(k:NK.aX Key):bO (aH kvs k) ((atKey xs k).map (·.2)):=by
 induction r with
 |nil=>exact ZH
 | @cons p q ps qs h t ih=>
  by_cases e:p.1=k
  ·have b:atKey (q::qs) k=some q.2:=by simp[atKey,ZU,h.1.symm.trans e]
   rw[nU e,b];exact h.2.2
  ·have e':¬ q.1=k:=λz=>e (h.1.trans z);have b:atKey (q::qs) k=atKey qs k:=by simp[atKey,ZU,e']
   rw[nT e,b];exact ih
theorem NT.put(r:NT fl H kvs xs)(k:NK.aX Key)(hb:bK fl H k b)(ry:RelV y u):NT fl H (putK kvs k y) (storedH xs k b u):=by
 have e:(kvs.any λkv=>decide (kv.1=k))=(atKey xs k).isSome:=by
  rw[oM,(r.val k).a0,Option.isSome_map]
 unfold putK storedH;rw[e];by_cases q:(atKey xs k).isSome=true
 ·rw[Zg q,Zg q];clear q e
  induction r with
  |nil=>exact .nil
  | @cons p q ps qs h t ih=>
   rw[Zu,Zu];refine .cons ?_ ih;unfold putAt;by_cases e:p.1=k
   ·rw[Zg e,Zg (h.1.symm.trans e)];exact⟨h.1,h.2.1,ry⟩
   ·rw[Zd e,Zd (λz=>e (h.1.trans z))];exact h
 ·rw[Zd q,Zd q];exact Paired.snoc r ⟨rfl,hb,ry⟩
theorem bK.keeps(x:bK fl H k b)(ht:∀b ys,H b=some (.tup ys)->H' b=some (.tup ys)):bK fl H' k b:=
 let ⟨n,e1,e2⟩:=x;⟨n,ht _ _ e1,ht _ _ e2⟩
section
variable{P:Program}{w:World}{H:Hp}{h:Heap}{a:Addr}
theorem Q2K:∀{ks:List Key}{us:List Value},Vals (ks.map kV) us->NK.aR (bZ P w) h (ks.map Sum.inl) us
 |[],[],_=>.nil
 |[],_::_,r=>by cases r
 |_::_,[],r=>by cases r
 |k::ks,u::us,r=>by
  cases r with
  |cons h t=>exact .cons (cH h) (Q2K t)
theorem oO(ok:cM P w H h)(e:bK fl H k a):(NK.aW fl (bZ P w)).is h k a:=by
 obtain⟨n,e1,e2⟩:=e;obtain⟨_,its,r,o,h1,h2,m,h3⟩:=(show aG P w H h a (.tup (k3V fl k n)) from ok a _ e1);refine⟨o,its.toArray,m,h1,h2,h3,?_⟩;cases fl with
 |true=>
  cases r with
  |cons r1 r=>
   cases r with
   |cons r2 r=>
    cases (show _=Value.ref n from r1);exact .cons ⟨n,rfl,key_of ok e2⟩ (.cons (cH r2) (Q2K r))
 |false=>
  cases r with
  |cons r1 r=>
   cases r with
   |cons r2 r=>
    cases (show _=Value.ref n from r2);exact .cons (cH r1) (.cons ⟨n,rfl,key_of ok e2⟩ (Q2K r))
theorem hG(ok:cM P w H h)(e:H a=some (.dN fl ep kvs)):kvs.length<=sizeLine/\(a==sysModules)=false/\∃xs,NT fl H kvs xs/\∃o es,h.get? a=some o/\o.ExactDict/\o.data=.dict es ep/\es.toList=xs.map (entryOfKey (NK.aW fl (bZ P w)))/\(∀x∈xs,(NK.aW fl (bZ P w)).is h x.1 x.2.1)/\(xs.map (·.1)).Nodup:=by
 obtain⟨z,y,xs,r,o,es,h1,h2,h3,h4,h5⟩:=(show aG P w H h a (.dN fl ep kvs) from ok a _ e);refine⟨z,y,xs,r,o,es,h1,h2,h3,h4,λx hx=>?_,h5⟩;have all:∀{l:List (NK.aX Key×V)}{m:List (NK.aX Key×Addr×Value)},NT fl H l m->∀x∈m,(NK.aW fl (bZ P w)).is h x.1 x.2.1:=by
  intro l m q
  induction q with
  |nil=>intro x hx;exact nomatch hx
  | @cons p q ps qs hq t ih=>
   intro x hx;rcases Zf.mp hx with e|hx
   ·subst e;exact oO ok (by rw[<- hq.1];exact hq.2.1)
   ·exact ih x hx
 exact all r x hx
theorem fk(ok:cM P w H h)(e:H a=some (.dN fl ep kvs)):kvs.length<=sizeLine/\(a==sysModules)=false/\∃xs,NT fl H kvs xs/\h.DictOfH (NK.aW fl (bZ P w)) a xs:=by
 obtain⟨z,y,xs,r,o,es,q⟩:=hG ok e;exact⟨z,y,xs,r,o,es,ep,q⟩
theorem Q4E(h:Heap)(hb:sysModules<h.objs.size):aG P w H (h.push { cls:=.type "dict",data:=.dict #[]}) h.objs.size (.dN fl 0 []):=
 ⟨Z8 _,ZZ.mpr (Ne.symm (ZL hb)),[],.nil,_,#[],Zw _ rfl,⟨rfl,rfl,rfl⟩,rfl,rfl,nodup_nil⟩
end
section
variable{X:Cx}{pins:List (Addr×Obj)}{σ:St}{H:Hp}{s:Shared}{a b:Addr}{v:V}{r:Value}{ep:Nat}{kvs:List (NK.aX Key×V)}{k:NK.aX Key}{A:Around}{E:Value->Shared->Prop}
theorem gW(hu:A.units+2<cLine)(P:Program)(w:World):(NK.aW fl (bZ P w)).room A.in1:=hu
theorem Q6A{Q:Value->Shared->Prop}(hu:A.units+2<cLine)(I:Inv X pins σ H s)(e:H a=some (.dN fl ep kvs))(eb:bK fl H k b)(l:aH kvs k=some v)(h:∀w' s',Inv X pins σ H s'->RelV v w'->Q w' s') :
  wpAny (model X.prog X.w) A (getItem (.ref a) (.ref b)) Q E s:=by
 obtain⟨z,hd,xs,rel,dd⟩:=fk I.av e;obtain⟨w',hw,rw'⟩:=bO.some_of (v:=v) (o:=(atKey xs k).map (·.2)) (by rw[<- l];exact rel.val k)
 obtain⟨p,hp,hp2⟩:=Z4.mp hw;refine wpAny_getItem_heap (gW hu _ _) (oO I.av eb) dd hp ?_;rw[hp2];exact h w' _ (I.tok _) rw'
theorem n_in{Q:Value->Shared->Prop}(hu:A.units+2<cLine)(I:Inv X pins σ H s)(e:H a=some (.dN fl ep kvs))(eb:bK fl H k b)(h:∀s',Inv X pins σ H s'->Q (.bool (aH kvs k).isSome) s') :
  wpAny (model X.prog X.w) A (compareOp .In (.ref b) (.ref a)) Q E s:=by
 obtain⟨z,hd,xs,rel,dd⟩:=fk I.av e;refine wpAny_in_heap (gW hu _ _) (oO I.av eb) hd dd ?_;have q:=(rel.val k).a0;rw[Option.isSome_map]at q;rw[<- q];exact h _ (I.tok _)
theorem Qaq{Q:Value->Shared->Prop}(hu:A.units+2<cLine)(I:Inv X pins σ H s)(e:H a=some (.dN fl ep kvs))(eb:bK fl H k b)(h:∀s',Inv X pins σ H s'->Q (.bool (!(aH kvs k).isSome)) s') :
  wpAny (model X.prog X.w) A (compareOp .NotIn (.ref b) (.ref a)) Q E s:=by
 obtain⟨z,hd,xs,rel,dd⟩:=fk I.av e;refine wpAny_notIn_heap (gW hu _ _) (oO I.av eb) hd dd ?_;have q:=(rel.val k).a0;rw[Option.isSome_map]at q;rw[<- q];exact h _ (I.tok _)
theorem Q6B{Q:Unit->Shared->Prop}(hu:A.units+2<cLine)(I:Inv X pins σ H s)(e:H a=some (.dN fl ep kvs))(eb:bK fl H k b)(l:kvs.length<sizeLine)(rv:RelV v r)(h:∀ep' s',Inv X pins σ (upd H a (.dN fl ep' (putK kvs k v))) s'->Q () s') :
  wpAny (model X.prog X.w) A (setItem (.ref a) (.ref b) r) Q E s:=by
 obtain⟨z,hd,xs,rel,dd⟩:=fk I.av e;have hz:xs.length<=sizeLine:=by rw[<- ZQ rel];exact z
 have hl:(putK kvs k v).length<=sizeLine:=by have:=nQ kvs k v;room
 refine wpAny_setItem_heap (hsz:=hz) (gW hu _ _) (oO I.av eb) dd λh' dd' hs=>?_;obtain⟨q,es,ep',hq,h2,h3,h4,_,h5⟩:=dd';refine h ep' _ ?_;have kp:∀c ys,H c=some (.tup ys)->upd H a (.dN fl ep' (putK kvs k v)) c=some (.tup ys):=λc ys ec=>by
  rw[aY (eI ec e (λz=>nomatch z))];exact ec
 exact kL I (by rw[e];exact ZH) hs ⟨q,hq⟩ ⟨hl,hd,_,Paired.b6 (rel.put k eb rv) λp q z=>⟨z.1,z.2.1.keeps kp,z.2.2⟩,q,es,hq,h2,h3,h4,h5⟩
theorem Qar(I:Inv X pins σ H s)(e:H a=some (.dN fl ep kvs)):s.TypeIs (.ref a) "dict":=by
 obtain⟨_,_,xs,_,dd⟩:=fk I.av e;exact dd.typeIs
end
def pJ(fl:Bool):TE:=λ_ H Q=>∀p,H p=none->Q (.ref p) (upd H p (.dN fl 0 []))
def pK(fl:Bool)(td ty:TE):TE:=λσ H Q=>td σ H λx H1=>ty σ H1 λy H2=>∃a b kvs k v,x=.ref a/\y=.ref b/\(∃ep,H2 a=some (.dN fl ep kvs))/\bK fl H2 k b/\aH kvs k=some v/\Q v H2
def pR(fl:Bool)(td ty tv:TE):TS:=λD σ H=>tv σ H λv H1=>td σ H1 λx H2=>ty σ H2 λy H3=>∃a b kvs k,x=.ref a/\y=.ref b/\(∃ep,H3 a=some (.dN fl ep kvs))/\bK fl H3 k b/\kvs.length<sizeLine/\∀ep',D.nx σ (upd H3 a (.dN fl ep' (putK kvs k v)))
section
variable{X:Cx}{o i e value:Expr}{pos pos' tpos:Pos}{td ty tv:TE}
theorem Qas:PE X (.Dict [] [] pos) (pJ fl):=λpins s σ H Q I h=>
 wpAny_Dict_empty ⟨.ref s.heap.objs.size,_,I.laid (a:=s.heap.objs.size) (o:=.dN fl 0 []) (t':=s.toks) (λ_ _ q=>Zi _ q) (Zy _) (Q4E s.heap I.big),rfl,h _ (I.av.fresh (Zy _))⟩
def mP(fl:Bool)(tk tv:TE):TE:=λσ H Q=>∀p,H p=none->tk σ (upd H p (.dN fl 0 [])) λx H1=>tv σ H1 λy H2=>∃k b,x=.ref b/\bK fl H2 k b/\(∃ep,H2 p=some (.dN fl ep []))/\∀ep',Q (.ref p) (upd H2 p (.dN fl ep' [(k,y)]))
theorem Q8h(hu:X.A.units+2<cLine)(hk:PE X k tk)(hv:PE X v tv):PE X (.Dict [some k] [v] pos) (mP fl tk tv):=by
 intro pins s σ H Q I q;have hn:=I.av.fresh (Zy s.heap.objs.size);have I1:=I.laid (a:=s.heap.objs.size) (o:=.dN fl 0 []) (t':=s.toks) (λ_ _ q=>Zi _ q) (Zy _) (Q4E s.heap I.big);refine wpAny_Dict_any rfl rfl (by simp) (by show 1<=15;decide) ?_
 refine pairTrees_cons_walk (aE (hk pins _ σ _ _ I1 (q _ hn)) λkv s1 ⟨x,H1,J1,rx,q1⟩=>aE (hv pins s1 σ H1 _ J1 q1) λvv s2 ⟨y,H2,J2,ry,ks,b,ex,eb,⟨ep,ee⟩,q2⟩=>pairTrees_nil_walk ?_);subst ex;obtain rfl:kv=Value.ref b:=rx;obtain⟨z,hd,xs,rel,dd⟩:=fk J2.av ee;cases rel;have hr:(NK.aW fl (bZ X.prog X.w)).room X.A:=Nat.lt_of_succ_lt hu;unfold storeAll;refine wpAny_forIn_list _ (λrest r s'=>(rest=[(Value.ref b,vv)]/\s'=s2)\/(rest=[]/\∃ep',Inv X pins σ (upd H2 s.heap.objs.size (.dN fl ep' [(ks,y)])) s')) _ ?_ ?_ _ _ (.inl ⟨rfl,rfl⟩)
 ·rintro p rest r s' (⟨e1,rfl⟩|⟨e1,_⟩)
  ·cases e1;refine Za (wpAny_dictSet_heap (hsz:=by simp) (knd:=NK.aW fl (bZ X.prog X.w)) hr (oO J2.av eb) dd λh' dd' hs=>Zb (.inr ⟨rfl,?_⟩))
   obtain⟨qo,es,eo,hq,g2,g3,g4,_,g5⟩:=dd';have kp:∀c ys,H2 c=some (.tup ys)->upd H2 s.heap.objs.size (.dN fl eo [(ks,y)]) c=some (.tup ys):=λc ys ec=>by
    rw[aY (eI ec ee (λz=>nomatch z))];exact ec
   exact⟨eo,kL J2 (by rw[ee];exact ZH) hs ⟨qo,hq⟩ ⟨by simp[ZX],hd,_,Paired.cons ⟨rfl,eb.keeps kp,ry⟩ .nil,qo,es,hq,g2,g3,g4,g5⟩⟩
  ·cases e1
 ·rintro r s' (⟨e1,_⟩|⟨_,ep',I3⟩)
  ·cases e1
  ·exact⟨.ref s.heap.objs.size,_,I3,rfl,q2 ep'⟩
theorem Qat(hu:X.A.units+2<cLine)(ho:PE X o td)(hi:PE X i ty)(hs:iD i):PE X (.Subscript o i pos) (pK fl td ty):=by
 intro pins s σ H Q I h;refine Q6x PySem.F.slot_dict_getitem.lookup hs (aE (ho pins s σ H _ I h) λu s1 ⟨x,H1,I1,rx,q1⟩=>aE (hi pins s1 σ H1 _ I1 q1) λiv s2 zz=>?_);obtain⟨y,H2,I2,ry,a,b,kvs,k,v,ex,ey,⟨ep,e1⟩,e2,l,q2⟩:=zz;subst ex ey;obtain rfl:u=Value.ref a:=rx;obtain rfl:iv=Value.ref b:=ry;exact⟨Qar I2 e1,Q6A hu I2 e1 e2 l λw' s3 I3 rw'=>⟨v,H2,I3,rw',q2⟩⟩
theorem Qau(hu:X.A.units+2<cLine)(ho:PE X o td)(hi:PE X i ty)(hv:PE X value tv)(hs:swapsWith value (some (.Subscript o i pos')) pos.line X.env=pure false) :
  PS X (.Assign [.Subscript o i pos'] value pos) (pR fl td ty tv):=by
 intro pins s σ H D I h;refine wpAny_Assign_Subscript (aE (hv pins s σ H _ I h) λr s1 ⟨v,H1,I1,rv,q1⟩=>aE (ho pins s1 σ H1 _ I1 q1) λu s2 ⟨x,H2,I2,rx,q2⟩=>aE (hi pins s2 σ H2 _ I2 q2) λiv s3 zz=>?_) hs;obtain⟨y,H3,I3,ry,a,b,kvs,k,ex,ey,⟨ep,e1⟩,e2,l,q3⟩:=zz;subst ex ey;obtain rfl:u=Value.ref a:=rx;obtain rfl:iv=Value.ref b:=ry;exact Q6B hu I3 e1 e2 l rv λep' s4 I4=>⟨σ,_,I4,q3 ep'⟩
end
section
variable{P:Program}{w:World}{A:Around}{E:Value->Shared->Prop}{s:Shared}{d it:Addr}{o:Obj}{es:Array DictEntry}{ep i:Nat}
end
theorem NT.at(r:NT fl H kvs xs):∀{i:Nat}{q:NK.aX Key×Addr×Value},xs[i]?=some q->∃p,kvs[i]?=some p/\p.1=q.1/\bK fl H p.1 q.2.1/\RelV p.2 q.2.2:=by
 induction r with
 |nil=>intro i q h;cases h
 |cons h t ih=>
  intro i q hq;cases i with
  |zero=>cases hq;exact⟨_,rfl,h⟩
  |succ j=>exact ih (i:=j) hq
section
variable{P:Program}{w:World}{H:Hp}{h:Heap}{a:Addr}{ep:Nat}{kvs:List (NK.aX Key×V)}
theorem Qav(ok:cM P w H h)(e:H a=some (.dN fl ep kvs)):∃o es,h.get? a=some o/\o.data=.dict es ep/\es.size=kvs.length/\∀(i:Nat) (hi:i<es.size),∃(k:NK.aX Key) (v:V) (b:Addr),kvs[i]?=some (k,v)/\es[i].key=.ref b/\bK fl H k b/\RelV v es[i].val:=by
 obtain⟨_,_,xs,r,o,es,h1,_,h2,h3,_⟩:=hG ok e;have sz:es.size=xs.length:=by have:=congrArg List.length h3;rwa [Ze]at this
 refine⟨o,es,h1,h2,sz.trans (ZQ r).symm,λi hi=>?_⟩;have hx:i<xs.length:=by rw[<- sz];exact hi
 have q:es.toList[i]?=some (entryOfKey (NK.aW fl (bZ P w)) xs[i]):=by rw[h3,ZB,Zx hx];rfl
 have q2:es[i]=entryOfKey (NK.aW fl (bZ P w)) xs[i]:=by
  have:es.toList[i]?=some es[i]:=by simp[hi]
  rw[this]at q;exact Z3 q
 obtain⟨⟨k,v⟩,p1,p2,p3,p4⟩:=NT.at r (Zx hx);exact⟨k,v,xs[i].2.1,p1,by rw[q2];rfl,p3,by rw[q2];exact p4⟩
end
section
variable{X:Cx}{tg:Expr}
end
noncomputable def gq{α κ:Type}[DecidableEq κ](xs:List (κ×α))(k:κ):List (κ×α):=xs.filter λx=>!decide (x.1=k)
theorem Q4F{α κ:Type}[DecidableEq κ]{k:κ}{p:α}:∀{xs:List (κ×α)}{j:Nat},(xs.map (·.1)).Nodup->xs[j]?=some (k,p)->xs.eraseIdx j=gq xs k
 |[],_,_,h=>nomatch h
 |x::xs,0,hn,h=>by
  cases h;rw[Zu,ZW]at hn;unfold gq;rw[List.eraseIdx_cons_zero,filter_cons_of_neg (by simp)]
  refine (List.filter_eq_self.mpr λy hy=>?_).symm;have:y.1≠k:=λz=>hn.1 (ZY.mpr ⟨y,hy,z⟩);simp[this]
 |x::xs,j+1,hn,h=>by
  rw[Zu,ZW]at hn;have hx:x.1≠k:=λz=>hn.1 (ZY.mpr ⟨(k,p),ZI (i:=j) h,z.symm⟩);unfold gq;rw[List.eraseIdx_cons_succ,filter_cons_of_pos (by simp[hx]),Q4F hn.2 h]
  rfl
theorem Q3o{α β:Type}(f:α->β):∀(xs:List α) (j:Nat),(xs.eraseIdx j).map f=(xs.map f).eraseIdx j
 |[],_=>rfl
 |_::_,0=>rfl
 |x::xs,j+1=>by rw[List.eraseIdx_cons_succ,Zu,Zu,List.eraseIdx_cons_succ,Q3o f xs j]
theorem Q8i{α κ:Type}[DecidableEq κ]{xs:List (κ×α)}(k:κ)(hn:(xs.map (·.1)).Nodup):((gq xs k).map (·.1)).Nodup:=hn.sublist (List.Sublist.map _ filter_sublist)
section
variable{P:Program}{w:World}{κ:Type}[DecidableEq κ]{knd:HeapKind P w κ}{A:Around}{E:Value->Shared->Prop}{s:Shared}{d a:Addr}{xs:List (κ×Addr×Value)}{k:κ}
theorem Q5B{Q:Option DictEntry->Shared->Prop}(hu:knd.room A)(hk:knd.is s.heap k a)(hm:s.heap.DictOfH knd d xs)(hv:atKey xs k=some (b,v))(hz:xs.length<=sizeLine)
  (h:∀e h',e.val=v->h'.DictOfH knd d (gq xs k)->Heap.SameBut d s.heap h'->Q (some e) {s with heap:=h',toks:=s.toks+knd.draws k}):wpAny (model P w) A (Builtin.Dict.takeOut d (.ref a)) Q E s:=by
 obtain⟨o,es,ep,q1,q2,q3,q4,q5,q6⟩:=hm;unfold Builtin.Dict.takeOut
 try with_reducible refine ZP ?_
 refine Za (knd.pyHash hu hk (Za (wpAny_dictFind_heap (s:={s with toks:=s.toks+knd.draws k}) hu hk q1 q3 q4 q5 q6 (λno=>?_) λj p hj=>?_)))
 ·exact absurd hv (by rw[atKey_none_of_get no];exact λz=>nomatch z)
 have ep1:p=(b,v):=by
  have:=atKey_of_get q6 hj;rw[hv]at this;exact (Z3 this).symm
 have ej:es[j]?=some (entryOfKey knd (k,p)):=by rw[entry_at q4 j,hj];rfl
 have sz:=size_of_entries q4;refine Za (Yo (s:={s with toks:=s.toks+knd.draws k}) q1 q3 ?_);rw[ej];refine Za (wpAny_updateDictKeys (hz:=by room) (s:={s with toks:=s.toks+knd.draws k}) q1 q3 (Zb (h _ _ (by rw[ep1];rfl) ⟨_,_,ep+1,Heap.get?_update_self _ q1 (Obj.isFreed_of_dict (Obj.data_mapDictKeys q3 _)),q2.mapDictKeys _,Obj.data_mapDictKeys q3 _,?_,?_,Q8i k q6⟩ (ZK ..))))
 ·rw[<- Q4F q6 hj,Q3o,<- q4];obtain⟨l⟩:=es;simp
 ·intro x hx;exact knd.keeps (q5 x (Yq.mp hx).1) q1 q3 (ZK ..)
end
section
variable{X:Cx}{pins:List (Addr×Obj)}{σ:St}{H:Hp}{s:Shared}{a b:Addr}{v:V}{ep:Nat}{kvs:List (NK.aX Key×V)}{k:NK.aX Key}{A:Around}{E:Value->Shared->Prop}
end
section
variable{X:Cx}{tg o e:Expr}{apos cpos:Pos}{td ty:TE}
end
section
variable{P:Program}{w:World}{A:Around}{E:Value->Shared->Prop}{s:Shared}
end
section
variable{P:Program}{w:World}{A:Around}{R:Result->Shared->Prop}{I:Addr}{fp wr:List Addr}{n:Nat}{p:Nat->Value->Prop}{St:Nat->Heap->Prop}
end
section
variable{P:Program}{w:World}{A:Around}{E:Value->Shared->Prop}{s:Shared}
end
section
variable{P:Program}{w:World}{d:Addr}{ob:Obj}{es:Array DictEntry}{ep:Nat}
theorem Q8j(lo:(d==sysModules)=false)(hc:ob.cls=.type "dict")(hd:ob.data=.dict es ep):PySem.W.KdlSrc P w "dict" d d es.size (λi v=>(es[i]?).map (·.key)=some v) (λh=>h.get? d=some ob) where
 type:=λ_ h=>⟨ob,h,hc⟩
 there:=λ_ h=>⟨Zr h,Zr h⟩
 keep:=λ_ _ h k=>k d (.inl rfl) ob h
 notList:=by decide
 notTuple:=by decide
 hint:=λ_ _ _ _ h q=>PySem.W.kdl_hint_dict ⟨ob,h,hc⟩ q
 iter:=λA s hh h=>by
  have nd:d≠s.heap.objs.size:=ZL (Zr h);refine⟨_,λi h'=>h'.IsKeyIter s.heap.objs.size d i es.size ep/\h'.get? d=some ob,λE Q q=>Q6y lo ⟨ob,h,hc⟩ h hd q,?_,⟨_,Zw _ rfl,rfl,rfl⟩,Zi _ h⟩;exact {
   sub:=λb hb=>by
    rw[Zh.mp hb];exact Zk
   frame:=λi h1 h2 st k=>⟨st.1.at λo e=>k _ Zk o e,k d (Zc _ (Zh.mpr rfl)) ob st.2⟩
   item:=λi t Q E hi st k=>Q6z st.1 st.2 hd hi λh' st' sb=>k _ h' t.toks (by rw[Array.getElem?_eq_getElem hi];rfl) ⟨st',(sb.2 d nd).trans st.2⟩ λb o hb e=>(sb.2 b λz=>hb (by rw[z];exact Zh.mpr rfl)).trans e
   done:=λt Q E st k=>Q8g hh st.1 st.2 hd (Zy _) λh' eb=>k h' t.toks λb o hb e=>eb b o (λz=>hb (by rw[z];exact Zh.mpr rfl)) e
   self:=λ_ _ _ _ st q=>wpAny_pyIter_keyiter st.1 q}
end
section
variable{X:Cx}{pins:List (Addr×Obj)}{σ:St}{H:Hp}{s:Shared}{a:Addr}
theorem Inv.adopt(I:Inv X pins σ H s)(f:bC X pins H a)(hs:X.s₀.heap.objs.size<=a)(new:aG X.prog X.w (upd H a o) s.heap a o):Inv X pins σ (upd H a o) s:=by
 obtain⟨f0,f1,f2,f3,f4,f5⟩:=f;have ne:∀{b:Addr}{u:HO},H b=some u->b≠a:=λe=>gM e f0;refine {I with base:=⟨I.base.keep,I.base.slot,λb u e n x=>?_,I.base.there,λb xs e=>?_,λb u v e=>?_,λb ps e=>?_⟩,free:=?_,bW:=λx c e=>?_,pin:=λp hp=>?_,av:=λb u e=>?_}
 ·rw[aY (ZL (Z6 (Zr e) hs))];exact I.base.free b u e n x
 ·have q:=I.base.eZ b xs e;rw[aY (ne q)];exact q
 ·have q:=I.base.eN b u v e;rw[aY (ne q)];exact q
 ·obtain⟨more,q⟩:=I.base.e7 b ps e;exact⟨more,by rw[aY (ne q)];exact q⟩
 ·rw[aY f1.symm];exact I.free
 ·rw[aY (f4 x c e)];exact I.bW x c e
 ·obtain⟨p1,p2,p3⟩:=I.pin p hp;exact⟨p1,by rw[aY (f5 p hp)];exact p2,p3⟩
 ·by_cases hb:b=a
  ·subst hb;rw[b9]at e;cases e;exact new
  ·rw[aY hb]at e;exact (I.av b u e).cV (λ_ _ _ q=>q) (λc q=>by rw[aY (ne q)];exact q) λc xs q=>by rw[aY (ne q)];exact q
theorem Inv.jd(I:Inv X ((b,o)::pins) σ H s)(f:bC X pins H b)(sb:Heap.SameBut b s.heap h')(hb:h'.get? b=some o')(hc:∀v,o'.data≠.cell v):Inv X ((b,o')::pins) σ H {s with heap:=h',toks:=t}:=by
 obtain⟨f0,f1,f2,f3,f4,f5⟩:=f;have I0:Inv X pins σ H s:=I.bw λp hp=>I.pin p (Zl _ (Zc _ hp));have I1:Inv X pins σ H {s with heap:=h',toks:=t}:=I0.turned (it:=b) (λc u hc e=>(sb.2 c hc).trans e) f0 f1 f3 f4 f5;refine I1.bw λp hp=>?_;rcases Zf.mp hp with rfl|hp
 ·exact⟨hb,f0,f1,f2,hc⟩
 ·exact I1.pin p (Zl _ hp)
theorem rQ(v:Option Value):(seqObj "list" xs n).data≠.cell v:=λz=>nomatch z
variable{A:Around}{E:Value->Shared->Prop}{G:PySem.Fin->Shared->Prop}{ls ks:Addr}{its:List Value}{ns:List Int}{kk:Array Value}{e0 e1:Nat}
noncomputable abbrev two(ls ks:Addr)(kk:Array Value)(e0 e1:Nat)(pins:List (Addr×Obj)):List (Addr×Obj):=(ks,seqObj "list" kk e0)::(ls,seqObj "list" #[] e1)::pins
structure kT(X:Cx)(pins:List (Addr×Obj))(H:Hp)(ls ks:Addr):Prop where
 l:bC X pins H ls
 k:bC X pins H ks
 ne:ks≠ls
theorem kT.k2(f:kT X pins H ls ks):bC X ((ls,o)::pins) H ks:=by
 obtain⟨f0,f1,f2,f3,f4,f5⟩:=f.k;refine⟨f0,f1,f2,f3,f4,λp hp=>?_⟩;rcases Z1.mp hp with z|z
 ·exact f5 p (Z5 _ z)
 ·rcases Zf.mp z with rfl|z
  ·exact f.ne.symm
  ·exact f5 p (Zl _ z)
theorem kT.at_(f:kT X pins H ls ks)(h1:H' ls=none)(h2:H' ks=none):kT X pins H' ls ks:=by
 obtain⟨_,f1,f2,f3,f4,f5⟩:=f.l;obtain⟨_,g1,g2,g3,g4,g5⟩:=f.k;exact⟨⟨h1,f1,f2,f3,f4,f5⟩,⟨h2,g1,g2,g3,g4,g5⟩,f.ne⟩
theorem Q6C(I:Inv X (two ls ks kk e0 e1 pins) σ H s):(s.heap.get? ks=some (seqObj "list" kk e0)/\H ks=none)/\s.heap.get? ls=some (seqObj "list" #[] e1)/\H ls=none:=by
 have p1:=I.pin (ks,seqObj "list" kk e0) (Zl _ Zk);have p2:=I.pin (ls,seqObj "list" #[] e1) (Zl _ (Zc _ Zk));exact⟨⟨p1.1,p1.2.1⟩,p2.1,p2.2.1⟩
theorem low(h:n<64)(e:m=n):m<=sizeLine:=by rw[e,ZX];room
theorem Q2u{st:SortSt}(I:Inv X (two ls ks kk e0 e1 pins) σ H s)(f:kT X pins H ls ks)(hi:IntsAre kk.toList ns)(hl:ns.length=its.length)(h64:its.length<64)(hp:(arrOf st).Perm (kk.zip its.toArray))(hs:SortedTo (arrOf st) (arrOf st).size)(hf:failedOf st=none)
  (h:∀s' out c,Inv X pins σ H s'->s'.heap.get? ls=some (seqObj "list" out c)->KskOut false ns its out.toList->G (.done (.ret .none)) s'):wpAny (model X.prog X.w) A (ksk_tail ls false e1 (.ref ks) st) G E s:=by
 obtain⟨⟨q1,_⟩,q2,_⟩:=Q6C I;have z1:kk.size=its.length:=by
  have:=hi.length;rw[ZE]at this;room
 have z2:((arrOf st).map (·.2)).size=its.length:=by rw[Array.size_map,hp.size_eq,Array.size_zip,z1,Z2,Nat.min_self]
 have b1:=ZK s.heap ks (Obj.mapSeq λ_=>(#[]:Array Value));have q3:=(b1.2 ls f.ne.symm).trans q2;have I1:Inv X (two ls ks #[] _ e1 pins) σ H {s with heap:=s.heap.update ks (Obj.mapSeq λ_=>(#[]:Array Value)),toks:=s.toks}:=I.jd f.k2 b1 (get?_update_seq q1 λ_=>#[]) rQ;have I2:=I1.bw (pins':=(ls,seqObj "list" #[] e1)::pins) λp m=>I1.pin p (Zl _ (Zc _ m));unfold ksk_tail;dsimp only;refine Za (listUpdate_at q1 rfl (Za (wpAny_letGo (Za (seqEpoch_at q3 rfl (Za (listUpdate_at q3 rfl ?_ (Z8 _) (le_succ_of_le (low h64 (by simpa using z2)))))))))  (low h64 z1) (Z8 _))
 have b2:=ZK (s.heap.update ks (Obj.mapSeq λ_=>(#[]:Array Value))) ls (Obj.mapSeq λ_=>if false=true then ((arrOf st).map (·.2)).reverse else (arrOf st).map (·.2))
 have I3:=I2.jd (t:=s.toks) f.l b2 (get?_update_seq q3 _) rQ;rw[hf];erw[bne_self_eq_false,Z9,ZT];refine Zb (h _ _ _ (I3.bw λp m=>I3.pin p (Zl _ (Zc _ m))) (get?_update_seq q3 _) ?_);exact ksk_out (b:=false) hi hp hs
theorem Q6D(I:Inv X (two ls ks kk e0 e1 pins) σ H s)(f:kT X pins H ls ks)(hi:IntsAre kk.toList ns)(hl:ns.length=its.length)(h64:its.length<64)
  (h:∀s' out c,Inv X pins σ H s'->s'.heap.get? ls=some (seqObj "list" out c)->KskOut false ns its out.toList->G (.done (.ret .none)) s'):wpAny (model X.prog X.w) A (ksk_end ls false its.toArray e1 (.ref ks) kk) G E s:=by
 have z1:kk.size=its.length:=by
  have:=hi.length;rw[ZE]at this;room
 have z2:(kk.zip its.toArray).size=its.length:=by rw[Array.size_zip,z1,Z2,Nat.min_self]
 unfold ksk_end;erw[Z9,ZT];rcases lt_or_ge its.length 2 with lt|ge
 ·have c:its.toArray.size<2:=by rw[Z2];exact lt
  rw[Zg c,Zg c];refine Za (Zb ?_);rw[StateT.run_pure];refine Za (Zb (Q2u (st:=SortSt.mk' general' (kk.zip its.toArray) #[] 7 none) I f hi hl h64 (Array.Perm.refl _) (λi j h1 h2=>?_) rfl h));have h3:j<(kk.zip its.toArray).size:=h2;have:i=j:=by room
  rw[this];exact Int.le_refl _
 ·have c:¬ its.toArray.size<2:=by rw[Z2];room
  rw[Zd c,Zd c,ksk_kind hi (by room)]
  refine Za (Zb (Za (aE (wpS_sortRuns (a₀:=kk.zip its.toArray) (Q:=λ_ st=>(arrOf st).Perm (kk.zip its.toArray)/\failedOf st=none/\SortedTo (arrOf st) (kk.zip its.toArray).size) (ksk_intKeys hi) ⟨Array.Perm.refl _,rfl,rfl,rfl⟩ (by room) (by room) λst x y z=>⟨x,y,z⟩) ?_)))
  rintro⟨⟨⟩,st⟩ t ⟨rfl,x,y,z⟩;exact Q2u I f hi hl h64 x (by rw[x.size_eq];exact z) y h
theorem Q5C{J:Hp->Prop}(I:Inv X (two ls ks #[] 0 e1 pins) σ H s)(hJ:J H)(f:kT X pins H ls ks)(hl:ns.length=its.length)(h64:its.length<64)
  (turn:∀(i:Nat) (v:Value) (k:Int),its[i]?=some v->ns[i]?=some k->∀kk e s' H',Inv X (two ls ks kk e e1 pins) σ H' s'->J H'->wpAny (model X.prog X.w) A (call fn [v]) (λu s2=>∃H2 t,Inv X (two ls ks kk e e1 pins) σ H2 s2/\J H2/\u=.int k t) (λ_ _=>False) s')
  (h:∀H' s' out c,J H'->kT X pins H' ls ks->Inv X pins σ H' s'->s'.heap.get? ls=some (seqObj "list" out c)->KskOut false ns its out.toList->G (.done (.ret .none)) s') :
  wpAny (model X.prog X.w) A (ksk_rest ls fn false its.toArray e1 (.ref ks)) G E s:=by
 unfold ksk_rest;refine Za (wpAny_rule ?_);rw[List.forIn_toArray];refine Za (ksk_fold (λi s'=>∃H' kk e,Inv X (two ls ks kk e e1 pins) σ H' s'/\J H'/\IntsAre kk.toList (ns.take i)) its 0 s ⟨H,#[],0,I,hJ,by rw[List.take_zero];exact .nil⟩ (λj x s1 hx z=>?_) λs1 z=>?_)
 ·obtain⟨H1,kk,e,I1,j1,i1⟩:=z;have hj:=(Zq.mp hx).1;rw[Nat.zero_add]at i1 ⊢;have hk:ns[j]?=some ns[j]:=Zx (by room)
  have zk:kk.size<=its.length:=by
   have:=i1.length;rw[ZE,ZD]at this;room
  refine Za (wpAny_attempt (Yd (turn j x _ hx hk kk e s1 H1 I1 j1) (λu s2 z=>?_) λ_ _ z=>z.elim));obtain⟨H2,t,I2,j2,rfl⟩:=z;obtain⟨⟨q1,n1⟩,q2,n2⟩:=Q6C I2;dsimp only;refine Za (listUpdate_at q1 rfl ?_ (by rw[ZX];room) (by rw[Array.size_push,ZX];room))
  have I3:=I2.jd (t:=s2.toks) (f.at_ n2 n1).k2 (ZK s2.heap ks (Obj.mapSeq λy=>y.push (.int ns[j] t))) (get?_update_seq q1 λy=>y.push (.int ns[j] t)) rQ;refine Zb ⟨rfl,H2,_,_,I3,j2,?_⟩;rw[take_add_one,hk,Array.toList_push];exact ksk_snoc i1
 ·obtain⟨H1,kk,e,I1,j1,i1⟩:=z;obtain⟨⟨q1,n1⟩,q2,n2⟩:=Q6C I1;rw[Nat.zero_add,<- hl,Yh]at i1;refine Za (listItems_at q1 rfl (Q6D I1 (f.at_ n2 n1) i1 hl h64 λs2 out c I2 g k=>h H1 s2 out c j1 (f.at_ n2 n1) I2 g k))
theorem Q5D{J:Hp->Prop}(I:Inv X pins σ H s)(hJ:J H)(f:bC X pins H ls)(ho:s.heap.get? ls=some (seqObj "list" its.toArray n))(hl:ns.length=its.length)(h64:its.length<64)
  (turn:∀(i:Nat) (v:Value) (k:Int),its[i]?=some v->ns[i]?=some k->∀ks kk e e1 s' H',Inv X (two ls ks kk e e1 pins) σ H' s'->J H'->wpAny (model X.prog X.w) A (call fn [v]) (λu s2=>∃H2 t,Inv X (two ls ks kk e e1 pins) σ H2 s2/\J H2/\u=.int k t) (λ_ _=>False) s')
  (h:∀H' s' out c,J H'->bC X pins H' ls->Inv X pins σ H' s'->s'.heap.get? ls=some (seqObj "list" out c)->KskOut false ns its out.toList->G (.done (.ret .none)) s') :
  wpAny (model X.prog X.w) A (ksk_tree ls fn false) G E s:=by
 obtain⟨f0,f1,f2,f3,f4,f5⟩:=f;have z:its.toArray.size<=sizeLine:=by rw[Z2,ZX];room
 have b1:=ZK s.heap ls (Obj.mapSeq λ_=>(#[]:Array Value));have q1:=get?_update_seq ho λ_=>(#[]:Array Value);have I1:Inv X pins σ H {s with heap:=s.heap.update ls (Obj.mapSeq λ_=>(#[]:Array Value)),toks:=s.toks}:=I.turned (it:=ls) (λc u hc e=>(b1.2 c hc).trans e) f0 f1 f3 f4 f5;unfold ksk_tree;refine Za (listItems_at ho rfl (Za (listUpdate_at ho rfl (Za (seqEpoch_at q1 rfl (Za (wpAny_newTuple (Za (wpAny_newList (ZP ?_) (Z8 _))) (by simpa using z))))) z (Z8 _))))
 have I2:=I1.kept (t':=s.toks) (h':=(s.heap.update ls (Obj.mapSeq λ_=>(#[]:Array Value))).push (seqObj "tuple" its.toArray 0)) λ_ _ e=>Zi _ e;have q2:((s.heap.update ls (Obj.mapSeq λ_=>(#[]:Array Value))).push (seqObj "tuple" its.toArray 0)).get? ls=_:=Zi _ q1;have I3:=I2.kept (t':=s.toks) (h':=((s.heap.update ls (Obj.mapSeq λ_=>(#[]:Array Value))).push (seqObj "tuple" its.toArray 0)).push (seqObj "list" #[] 0)) λ_ _ e=>Zi _ e;have g2:bC X pins H ((s.heap.update ls (Obj.mapSeq λ_=>(#[]:Array Value))).push (seqObj "tuple" its.toArray 0)).objs.size:=I2.fH (Zy _) I2.fresh;have ne:((s.heap.update ls (Obj.mapSeq λ_=>(#[]:Array Value))).push (seqObj "tuple" its.toArray 0)).objs.size≠ls:=ne_of_gt (Zr q2);refine Q5C (J:=J) (I3.bw λp hp=>?_) hJ ⟨⟨f0,f1,f2,f3,f4,f5⟩,g2,ne⟩ hl h64 (λi v k a b kk e s' H' I' j'=>turn i v k a b _ kk e _ s' H' I' j') λH' s' out c j' g' I' q k=>h H' s' out c j' g'.l I' q k;rcases Zf.mp hp with rfl|hp
 ·exact⟨Zw _ rfl,g2.1,g2.2.1,g2.2.2.1,rQ⟩
 ·rcases Zf.mp hp with rfl|hp
  ·exact⟨Zi _ q2,f0,f1,f2,rQ⟩
  ·exact I3.pin p (Zl _ hp)
end
theorem Qaw{K:Frag}{f:Addr}(h:isFn K (.ref f)=true):PySem.W.specialIn K (.ref f) "__get__" = some (some (.builtin "function.__get__"))/\PySem.W.takesIn K (.ref f)=some false:=by
 have t:PySem.W.typeIn K (.ref f)=some (.type "function"):=Zz.mp h;have look:∀n:Str,PySem.W.specialIn K (.ref f) n=fastLookup "function" n:=λn=>by unfold PySem.W.specialIn;rw[t];rfl
 refine⟨(look _).trans (by kernel_rfl),?_⟩
 unfold PySem.W.takesIn;rw[look,look,show fastLookup "function" "__set__" = some none by kernel_rfl,show fastLookup "function" "__delete__" = some none by kernel_rfl]
 rfl
section
variable{X:Cx}{pins:List (Addr×Obj)}{σ:St}{H:Hp}{s:Shared}{C f x dx:Addr}{m:Str}{fs:List (Str×V)}{A:Around}{E:Value->Shared->Prop}
theorem Q8k(v:Option Value):(methodObj (.ref f) (.ref x)).data≠.cell v:=λz=>nomatch z
theorem Q6E{Q:Value->Shared->Prop}{b:Bool}(I:Inv X pins σ H s)(e:H x=some (.ins C dx fs))(c:Cls X.K C)(k:Meth X.K C m f)(hc:PySem.W.copiedNames.contains m=false)(l:fs.lookup m=none)
  (h:∀q s',Inv X ((q,methodObj (.ref f) (.ref x))::pins) σ H s'->Q (.ref q) s'):wpAny (model X.prog X.w) A (getAttr (.ref x) m b) Q E s:=by
 obtain⟨mA,O,r,_,_,_⟩:=rY I.av e;have hn:mA m=none:=bO.none_of (by rw[<- l];exact r m)
 obtain⟨od,J,hl⟩:=O.look;obtain⟨g1,g2⟩:=Qaw k.fn;refine PySem.W.get_bind I.cX J (plainGet_of (c.get m)).1 (PySem.W.findObj_fn c.hd k.at_ g1 g2 hc ((hl m).trans (congrArg some hn))) (plainGet_of (c.get m)).2 (wpAny_call (PySem.W.fn_get (s:={s with toks:=s.toks+1}) I.cX (Zz.mp k.fn) (PySem.W.handed_on rfl (h s.heap.objs.size _ ?_))));have I2:=I.kept (t':=s.toks+1) (h':=s.heap.push (methodObj (.ref f) (.ref x))) λ_ _ z=>Zi _ z;have g:=I.fH (Zy _) I.fresh;refine I2.bw λp hp=>?_;rcases Zf.mp hp with rfl|hp
 ·exact⟨Zw _ rfl,g.1,g.2.1,g.2.2.1,Q8k⟩
 ·exact I2.pin p (Zl _ hp)
theorem Q5E(F:aS X.prog X.w X.K X.mg X.base eT k f fd ps sp)(hr:aQ k A)(hv:eS X.prog X.w X.K X.mg X.base A X.stack s H)(hb:Binds X.K fd ps [])(I:Inv X pins σ H s)
  (hq:s.heap.get? q=some (methodObj (.ref f) (.ref x))) (r:Vals vs us) (h:sp (.ref x::vs) H Q E0):wpAny (model X.prog X.w) A (call (.ref q) us) (EP X pins σ Q) (λ_ _=>False) s:=by
 have r2:Vals (V.ref x::vs) (Value.ref x::us):=.cons rfl r;have hl:(Value.ref x::us).length=ps.length:=by rw[<- r2.length];exact F.len _ _ _ _ h
 have b:=hb s (.ref x::us) I.cX (by rw[append_nil];exact hl)
 rw[append_nil]at b;refine wpAny_call (PySem.W.method_call hq (codeAny_mono (F.run A X.stack s H ⟨.ref x::us,[]⟩ (.ref x::us) (.ref x::vs) Q E0 hr hv b r2 h) λr s' z=>?_));cases r with
 |error e=>exact z.elim
 |ok fl=>
  cases fl with
  |ret u=>exact I.after z
  |next=>exact False.elim z
  |brk=>exact False.elim z
  |cont=>exact False.elim z
end
theorem Q8l{H:Hp}{kvs:List (NK.aX Key×V)}{es:Array DictEntry}{acc:Array Value}(g3:es.size=kvs.length)(g4:∀(i:Nat) (hi:i<es.size),∃(k:NK.aX Key) (v:V) (b:Addr),kvs[i]?=some (k,v)/\es[i].key=.ref b/\bK fl H k b/\RelV v es[i].val)
  (ac:ItemsOf (λi v=>(es[i]?).map (·.key)=some v) acc es.size):∃bs:List Addr,acc.toList=bs.map Value.ref/\bs.length=kvs.length/\∀(i:Nat) (k:NK.aX Key) (v:V) (b:Addr),kvs[i]?=some (k,v)->bs[i]?=some b->bK fl H k b:=by
 have hv:∀(i:Nat) (v:Value),acc.toList[i]?=some v->∃(k:NK.aX Key) (w:V) (b:Addr),v=.ref b/\kvs[i]?=some (k,w)/\bK fl H k b:=λi v hi=>by
  have hi:acc[i]?=some v:=by rw[<- hi,Array.getElem?_toList]
  have:=ac.2 i v hi;obtain⟨d,hd',rfl⟩:=Z4.mp this;obtain⟨lt,rfl⟩:=Array.getElem?_eq_some_iff.mp hd';obtain⟨k,w,b,w1,w2,w3,_⟩:=g4 i lt;exact⟨k,w,b,w2,w1,w3⟩
 have e0:acc.toList=(acc.toList.map λv=>match v with|.ref b=>b|_=>(0:Addr)).map Value.ref:=by
  rw[Yk];refine (map_id _).symm.trans (Ym λv hv'=>?_);obtain⟨i,hi⟩:=List.mem_iff_getElem?.mp hv';obtain⟨_,_,b,rfl,_⟩:=hv i v hi;rfl
 refine⟨_,e0,?_,λi k w b hk hb'=>?_⟩
 ·rw[Ze,ZE,ac.1,g3]
 ·have hb2:acc.toList[i]?=some (.ref b):=by rw[e0,ZB,hb'];rfl
  obtain⟨k',w',b',eb,ek,r⟩:=hv i _ hb2;rw[hk]at ek;cases ek;cases eb;exact r
def mN(fl:Bool)(C:Addr)(m:Str)(sp:Sp)(td:TA)(to:TE):TE:=λσ H Q=>td σ H λxs H1=>to σ H1 λy H2=>∃(a o dx:Addr) (fs:List (Str×V)) (ep:Nat) (kvs:List (NK.aX Key×V)) (ns:List Int) (J:Hp->Prop),xs=[.ref a]/\y=.ref o/\H2 o=some (.ins C dx fs)/\fs.lookup m=none /\
 H2 a=some (.dN fl ep kvs)/\kvs.length<64/\ns.length=kvs.length/\J H2 /\
 (∀(i:Nat) (k:NK.aX Key) (v:V) (b:Addr) (n:Int),kvs[i]?=some (k,v)->ns[i]?=some n->bK fl H2 k b->∀H',J H'->sp [.ref o,.ref b] H' (λr H3=>r=.int n/\J H3) E0) /\
 ∀(bs:List Addr) (ps:List (Int×Addr)) (l:Addr) (H':Hp),bs.length=kvs.length->(∀(i:Nat) (k:NK.aX Key) (v:V) (b:Addr),kvs[i]?=some (k,v)->bs[i]?=some b->bK fl H2 k b)->ps.Perm (ns.zip bs)->ps.Pairwise (λp q=>p.1<=q.1)->J H'->H' l=none->Q (.ref l) (upd H' l (.lst (ps.map λp=>.ref p.2)))
theorem fv{M:Model}{A:Around}{α:Type}{a b:Sem α}{Q:α->Shared->Prop}{E:Value->Shared->Prop}{s:Shared}(h:a=b)(hb:wpAny M A b Q E s):wpAny M A a Q E s:=by rw[h];exact hb
theorem Q3p:∀bs:List Addr,Vals (bs.map V.ref) (bs.map Value.ref)
 |[]=>.nil
 |_::r=>.cons rfl (Q3p r)
theorem ph{ns:List Int}{bs:List Addr}{ps:List (Int×Value)}(h:ps.Perm (ns.zip (bs.map Value.ref))):∃qs:List (Int×Addr),ps=qs.map (λp=>(p.1,Value.ref p.2))/\qs.Perm (ns.zip bs):=by
 have e:ns.zip (bs.map Value.ref)=(ns.zip bs).map λp=>(p.1,Value.ref p.2):=by
  rw[List.zip_map_right];rfl
 have hr:∀p∈ps,∃b,p.2=Value.ref b:=λp hp=>by
  have:=h.mem_iff.mp hp;rw[e]at this;obtain⟨z,_,rfl⟩:=ZY.mp this;exact⟨_,rfl⟩
 have e2:ps=(ps.map λp=>(p.1,match p.2 with|.ref b=>b|_=>0)).map λp=>(p.1,Value.ref p.2):=by
  rw[Yk];refine (map_id ps).symm.trans (Ym λp hp=>?_);obtain⟨b,hb⟩:=hr p hp;obtain⟨n,v⟩:=p;cases hb;rfl
 refine⟨_,e2,?_⟩;have:=h.map λp:Int×Value=>(p.1,match p.2 with|.ref b=>b|_=>(0:Addr))
 rw[e,Yk]at this;refine this.trans (List.Perm.of_eq ?_);exact (Ym λp _=>rfl).trans (map_id _)
section
variable{X:Cx}{C f:Addr}{m:Str}{k:Nat}{fd:FuncData}{ps:List Str}{sp:Sp}{e o:Expr}{p pos apos kpos:Pos}{td:TA}{to:TE}
theorem Q8m(hc:X.calm=true)(hg:Gl X "sorted")(hm:X.mg "sorted" = none)(hd:PA X [e] td)(ho:PE X o to)(hb:attributeBase o m X.env (eval o X.env)=eval o X.env)(c:Cls X.K C)(mt:Meth X.K C m f)(hn:PySem.W.copiedNames.contains m=false)
  (F:aS X.prog X.w X.K X.mg X.base eT k f fd ps sp) (hr:aQ (k+1) X.A) (hB:Binds X.K fd ps [])
  (h1:backTo pos (starEach [e] X.env)=(false,eval e X.env)::backTo pos (starEach [] X.env)) (h2:(backTo pos (starEach [e] X.env)).any (·.1)=false) :
  PE X (.Call (.Name "sorted" p) [e] [⟨some "key",.Attribute o m apos,kpos⟩] pos) (mN fl C m sp td to):=by
 intro pins s σ H Q I h;refine wpAny_Call_Name_kw (oG I hg hm (by rfl) ?_)
 refine callWith_kw (aE (hd pos pins s σ H _ I h) λus s1 ⟨vs,H1,I1,r1,q1⟩=>?_) h1 h2 rfl rfl;show wpAny _ _ (evalAll [do let v <- eval (.Attribute o m apos) X.env;standAt pos;pure v]) _ _ s1
 refine wpAny_evalAll_cons (Za (Q6i hb (aE (ho pins s1 σ H1 _ I1 q1) λu s2 zz=>?_)));obtain⟨y,H2,I2,ry,a,x,dx,fs,ep,kvs,ns,J,ex,ey,eo,l,ea,z64,zl,j2,turn,q2⟩:=zz;subst ex ey;obtain rfl:u=Value.ref x:=ry;obtain⟨ua,rfl,ra⟩:=vals1 r1;obtain rfl:ua=Value.ref a:=ra;refine Q6E I2 eo c mt hn l λq s3 I3=>Za (wpAny_standAt (Zb (wpAny_evalAll_nil ?_)));show wpAny _ _ (call (.builtin "sorted") [.ref a] [("key",.ref q)]) _ _ s3;obtain⟨_,lo,_⟩:=hG I3.av ea;obtain⟨ob,es,g1,g2,g3,g4⟩:=Qav I3.av ea;have gc:ob.cls=.type "dict":=by
  obtain⟨_,_,xs,r,o',es',w1,w2,w3,_⟩:=hG I3.av ea;rw[g1]at w1;cases w1;exact w2.1
 have zs:es.size<=sizeLine:=by rw[g3,ZX];room
 refine call_function_entry_kw kind_sorted plain_sorted entry_sorted (ksk_s1 _ _) ?_;unfold Builtin.«sorted»;refine Za (m:=checkCount "sorted" 1 1 _) (Zb ?_);refine Za (PySem.W.kdu_collect (Q8j lo gc g2) (I3.ok.hd hc) g1 zs λh' tk acc kp ac=>?_);have I4:=I3.kept (t':=tk) (h':=h') kp;refine Za (wpAny_newList ?_ (by rw[ZE,ac.1];exact zs))
 have I5:=I4.kept (t':=tk) (h':=h'.push (seqObj "list" acc.toList.toArray 0)) λ_ _ z=>Zi _ z;have fp:=I4.fH (Zy _) I4.fresh;have hz:h'.objs.size=({s3 with heap:=h',toks:=tk}:Shared).heap.objs.size:=rfl;have gL:(h'.push (seqObj "list" acc.toList.toArray 0)).get? h'.objs.size=some (seqObj "list" acc.toList.toArray 0):=Zw _ rfl;obtain⟨bs,e1,e2,e3⟩:=Q8l g3 g4 ac;have hl':acc.toList.length=bs.length:=by rw[e1,Ze]
 refine Za (ZP (wpAny_call_entry_kw slot_list_sort ⟨_,gL,rfl⟩ entry_list_sort ?_ (ksk_l1 _ _)));show wpAny (model X.prog X.w) X.A.in1.in1 (Builtin.«list.sort» ⟨[.ref h'.objs.size],[("key",.ref q)]⟩) _ _ _;refine fv (ksk_t1 q h'.objs.size) ?_;refine Q5D (its:=acc.toList) (ns:=ns) (J:=J) I5 j2 fp gL (by room) (by room) (λi v n hi hn ks kk e e1' s' H' I' j'=>?_) λH' s' out c j' f' I' go ⟨qs,k1,k2,k3⟩=>⟨_,rfl,Zb ⟨_,rfl,?_⟩⟩
 ·rw[e1,ZB]at hi;obtain⟨b,hb',rfl⟩:=Z4.mp hi;have hik:i<kvs.length:=by rw[<- e2];exact (Zq.mp hb').1
  have hk:kvs[i]?=some (kvs[i].1,kvs[i].2):=Zx hik;have rm:aQ k X.A.in1.in1:=⟨hr.hd,by have:=hr.dp;show X.A.depth+_+_<_;room,by have:=hr.un;show X.A.units+1+1+_+_<_;room⟩
  refine Yd (Q5E (vs:=[V.ref b]) F rm I'.nF.in1.in1 hB I' (I'.pin (q,methodObj (.ref f) (.ref x)) (Zl _ (Zc _ (Zc _ Zk)))).1 (.cons rfl .nil) (turn i _ _ b n hk hn (e3 i _ _ b hk hb') H' j')) (λu s'' z=>?_) λ_ _ z=>z;obtain⟨v,H'',I'',rv,rfl,j''⟩:=z;obtain⟨t,rfl⟩:=rv;exact⟨H'',t,I'',j'',rfl⟩
 ·rw[e1]at k1;obtain⟨rs,rfl,k4⟩:=ph k1;have hs:X.s₀.heap.objs.size<=h'.objs.size:=I4.sz;have zr:rs.length<=sizeLine:=by
   rw[k4.length_eq,List.length_zip,ZX];room
  have hv:Vals (rs.map λp=>V.ref p.2) out.toList:=by
   rw[k2,Yk];have:=Q3p (rs.map (·.2));rw[Yk,Yk]at this;exact this
  have I6:=I'.adopt (o:=.lst (rs.map λp=>V.ref p.2)) f' hs ⟨by rw[Ze];exact zr,out.toList,c,hv,go⟩
  refine⟨.ref h'.objs.size,_,I6.bw λp hp=>I6.pin p (Zl _ (Zc _ hp)),rfl,q2 bs rs _ H' e2 e3 k4 ?_ j' f'.1⟩;rw[pairwise_map]at k3;exact k3.imp λz=>by simpa using z
end
section
variable{X:Cx}{o:Expr}{apos cpos:Pos}{td:TE}
end
end L2
namespace DL
open PySem PySem.Spec L2
open PyProof.Rows hiding St
noncomputable def S(x:List Nat):Str:=⟨x.toArray⟩
inductive D where
 |non|bl (b:Bool)|int (i:Int)|str (x:List Nat)|tup (xs:List D)|lst (xs:List D)|ref (a:Addr)
def ia(K:Frag)(H:Hp)(a:Addr)(xs:List V):Prop:=
 (∃o,H a=some (.frz o (.lst xs))) \/
  ∃(o:Obj) (its:Array Value) (n:Nat),K.lookup a=some o/\o.cls=.type "list" /\ o.dict=none/\o.data=.seq its n/\its.size<=sizeLine/\Vals xs its.toList
theorem ia.sq{K:Frag}{H:Hp}{a:Addr}{xs:List V}(h:ia K H a xs):cB K H a xs:=by
 rcases h with ⟨o,h⟩|h
 ·exact .inl (.inr ⟨o,h⟩)
 ·exact .inr h
mutual
inductive Den(K:Frag)(H:Hp):D->V->Prop
 |non:Den K H .non .non
 |bl (b:Bool):Den K H (.bl b) (.bl b)
 |int (i:Int):Den K H (.int i) (.int i)
 |str (x:List Nat) (h:(x.all λc=>decide (c<1114112))=true):Den K H (.str x) (.str (S x))
 |ref (a:Addr):Den K H (.ref a) (.ref a)
 |tup {a:Addr}{ds:List D}{vs:List V}:H a=some (.tup vs)->ai K H ds vs->Den K H (.tup ds) (.ref a)
 |lst {a:Addr}{ds:List D}{vs:List V}:ia K H a vs->ai K H ds vs->Den K H (.lst ds) (.ref a)
inductive ai(K:Frag)(H:Hp):List D->List V->Prop
 |nil:ai K H [] []
 |cons {d:D}{v:V}{ds:List D}{vs:List V}:Den K H d v->ai K H ds vs->ai K H (d::ds) (v::vs)
end
structure Ext(H H':Hp):Prop where
 tup:∀b xs,H b=some (.tup xs)->H' b=some (.tup xs)
 frz:∀b o u,H b=some (.frz o u)->H' b=some (.frz o u)
theorem Ext.refl(H:Hp):Ext H H:=⟨λ_ _ e=>e,λ_ _ _ e=>e⟩
theorem Ext.trans(a:Ext H H1)(b:Ext H1 H2):Ext H H2:=⟨λc xs e=>b.tup c xs (a.tup c xs e),λc o u e=>b.frz c o u (a.frz c o u e)⟩
theorem Ext.new(h:H p=none):Ext H (upd H p o):=
 ⟨λb xs e=>by rw[aY (gM e h)];exact e,λb o u e=>by rw[aY (gM e h)];exact e⟩
theorem Ext.mut(h:H p=some u)(h1:∀xs,u≠.tup xs)(h2:∀ob v,u≠.frz ob v):Ext H (upd H p o):=
 ⟨λb ys e=>by rw[aY λw=>by rw[w,h]at e;cases e;exact h1 _ rfl];exact e,λb ob y e=>by rw[aY λw=>by rw[w,h]at e;cases e;exact h2 _ _ rfl];exact e⟩
theorem Ext.lst(h:H p=some (.lst xs)):Ext H (upd H p o):=
 ⟨λb ys e=>by rw[aY λw=>by rw[w,h]at e;cases e];exact e,λb u y e=>by rw[aY λw=>by rw[w,h]at e;cases e];exact e⟩
section
variable{K:Frag}{H H':Hp}
theorem eQ.ext(x:Ext H H')(h:eQ K H a xs):eQ K H' a xs:=by
 rcases h with (h|⟨o,h⟩)|h
 ·exact .inl (.inl (x.tup _ _ h))
 ·exact .inl (.inr ⟨o,x.frz _ _ _ h⟩)
 ·exact .inr h
theorem ia.ext(x:Ext H H')(h:ia K H a xs):ia K H' a xs:=by
 rcases h with ⟨o,h⟩|h
 ·exact .inl ⟨o,x.frz _ _ _ h⟩
 ·exact .inr h
mutual
theorem Den.ext(x:Ext H H'):∀{d:D}{v:V},Den K H d v->Den K H' d v
 |_,_,.non=>.non
 |_,_,.bl b=>.bl b
 |_,_,.int i=>.int i
 |_,_,.str s h=>.str s h
 |_,_,.ref a=>.ref a
 |_,_,.tup h t=>.tup (x.tup _ _ h) (ai.ext x t)
 |_,_,.lst h t=>.lst (ia.ext x h) (ai.ext x t)
theorem ai.ext(x:Ext H H'):∀{ds:List D}{vs:List V},ai K H ds vs->ai K H' ds vs
 |_,_,.nil=>.nil
 |_,_,.cons h t=>.cons (Den.ext x h) (ai.ext x t)
end
theorem ai.length:∀{ds:List D}{vs:List V},ai K H ds vs->ds.length=vs.length
 |_,_,.nil=>rfl
 |_,_,.cons _ t=>by rw[Zs,Zs,ai.length t]
theorem ai.get:∀{ds:List D}{vs:List V}{i:Nat}{d:D},ai K H ds vs->ds[i]?=some d->∃v,vs[i]?=some v/\Den K H d v
 |_,_,_,_,.nil,e=>by simp at e
 |_,_,0,_,.cons r _,e=>by simp at e;subst e;exact⟨_,rfl,r⟩
 |_,_,i+1,d,.cons _ t,e=>by
  obtain⟨u,h1,h2⟩:=ai.get (i:=i) (d:=d) t (by simpa using e)
  exact⟨u,by simpa using h1,h2⟩
theorem ai.get':∀{ds:List D}{vs:List V}{i:Nat}{v:V},ai K H ds vs->vs[i]?=some v->∃d,ds[i]?=some d/\Den K H d v
 |_,_,_,_,.nil,e=>by simp at e
 |_,_,0,_,.cons r _,e=>by simp at e;subst e;exact⟨_,rfl,r⟩
 |_,_,i+1,d,.cons _ t,e=>by
  obtain⟨u,h1,h2⟩:=ai.get' (i:=i) (v:=d) t (by simpa using e)
  exact⟨u,by simpa using h1,h2⟩
theorem ai.append:∀{ds es:List D}{vs ws:List V},ai K H ds vs->ai K H es ws->ai K H (ds++es) (vs++ws)
 |_,_,_,_,.nil,s=>s
 |_,_,_,_,.cons r t,s=>.cons r (ai.append t s)
theorem ai.take:∀{ds:List D}{vs:List V}(n:Nat),ai K H ds vs->ai K H (ds.take n) (vs.take n)
 |_,_,0,_=>.nil
 |_,_,_+1,.nil=>.nil
 |_,_,n+1,.cons r t=>.cons r (ai.take n t)
theorem ai.drop:∀{ds:List D}{vs:List V}(n:Nat),ai K H ds vs->ai K H (ds.drop n) (vs.drop n)
 |_,_,0,r=>r
 |_,_,_+1,.nil=>.nil
 |_,_,n+1,.cons _ t=>ai.drop n t
end
noncomputable abbrev bL:=List (Option D)
inductive kQ where
 |aK (kvs:List (List (List Nat)×D))
 |d8 (kvs:List (List Nat×D))
 |dkf (ob:Obj) (kvs:List (List Nat×D))
 |dcf (ob:Obj) (kvs:List (List (List Nat)×D))
 |dP (fl:Bool) (ep:Nat) (kvs:List ((List Nat×List (List Nat)×List (List Nat))×D)) --N
 |ins (c:Str) (fs:List (Str×D))
inductive MO where
 |lst (ds:List D)
 |ah (o:kQ)
noncomputable abbrev DH:=Addr->Option MO
noncomputable def ae(M:DH)(a:Addr)(o:MO):DH:=λb=>if b=a then some o else M b
theorem aq:ae M a o a=some o:=Zg rfl
theorem ag(h:b≠a):ae M a o b=M b:=Zd h
theorem aZ{M:DH}{a b:Addr}{o:MO}(h:M a=some o)(h':M b=none):a≠b:=by
 intro e;subst e;rw[h]at h';cases h'
theorem kI:ae (ae M a o) a u=ae M a u:=by
 funext b
 unfold ae;by_cases h:b=a
 ·rw[Zg h,Zg h]
 ·rw[Zd h,Zd h,Zd h]
def jD(K:Frag)(H:Hp):Option D->Option V->Prop
 |none,none=>True
 |some d,some v=>Den K H d v
 |_,_=>False
inductive aC(K:Frag)(H:Hp):bL->St->Prop
 |nil:aC K H [] []
 |cons {d:Option D}{v:Option V}{ds:bL}{vs:St}:jD K H d v->aC K H ds vs->aC K H (d::ds) (v::vs)
noncomputable def nk(n:List (List Nat)):List Key:=n.map λx=>Sum.inr (S x)
noncomputable abbrev fI(K:Frag)(H:Hp):List (List (List Nat)×D)->List (List Key×V)->Prop:=Paired λp q=>q.1=nk p.1/\Den K H p.2 q.2
noncomputable def iJ(x:List Nat):Key:=Sum.inr (S x)
noncomputable abbrev jJ(K:Frag)(H:Hp):List (List Nat×D)->List (Key×V)->Prop:=Paired λp q=>q.1=iJ p.1/\Den K H p.2 q.2
noncomputable def eV(k:List Nat×List (List Nat)×List (List Nat)):NK.aX Key:=(iJ k.1,nk k.2.1,nk k.2.2) --N
def oZ(k:List Nat×List (List Nat)×List (List Nat)):Prop:=∀w∈k.1::(k.2.1++k.2.2),(w.all λc=>decide (c<1114112))=true --N
noncomputable abbrev iE(K:Frag)(H:Hp):List ((List Nat×List (List Nat)×List (List Nat))×D)->List (NK.aX Key×V)->Prop:=Paired λp q=>q.1=eV p.1/\Den K H p.2 q.2/\oZ p.1 --N
noncomputable abbrev iF(K:Frag)(H:Hp):List (Str×D)->List (Str×V)->Prop:=Paired λp q=>p.1=q.1/\Den K H p.2 q.2
def MOk2(K:Frag)(H:Hp)(a:Addr):kQ->Prop
 |.aK kvs=>∃vs,H a=some (.dT vs)/\fI K H kvs vs
 |.d8 kvs=>∃vs,H a=some (.dK vs)/\jJ K H kvs vs
 |.dkf ob kvs=>∃vs,H a=some (.frz ob (.dK vs))/\jJ K H kvs vs
 |.dcf ob kvs=>∃vs,H a=some (.frz ob (.dT vs))/\fI K H kvs vs
 |.dP fl ep kvs=>∃vs,H a=some (.dN fl ep vs)/\iE K H kvs vs --N
 |.ins c fs=>∃C dx vs,nsIn K mainGlobals c=some (some (.ref C))/\H a=some (.ins C dx vs)/\iF K H fs vs
def nW(K:Frag)(H:Hp)(a:Addr):MO->Prop
 |.lst ds=>∃vs,H a=some (.lst vs)/\ai K H ds vs
 |.ah o=>MOk2 K H a o
def ar(K:Frag)(M:DH)(H:Hp):Prop:=∀a o,M a=some o->nW K H a o
section
variable{K:Frag}{H H':Hp}{M:DH}
theorem jD.ext(x:Ext H H'):∀{d:Option D}{v:Option V},jD K H d v->jD K H' d v
 |none,none,_=>trivial
 |some _,some _,h=>Den.ext x h
 |none,some _,h=>h.elim
 |some _,none,h=>h.elim
theorem aC.ext(x:Ext H H'):∀{ds:bL}{vs:St},aC K H ds vs->aC K H' ds vs
 |_,_,.nil=>.nil
 |_,_,.cons h t=>.cons (h.ext x) (aC.ext x t)
theorem aC.get:∀{ds:bL}{vs:St}{i:Nat}{d:D},aC K H ds vs->ds[i]?=some (some d)->∃v,vs[i]?=some (some v)/\Den K H d v
 |_,_,_,_,.nil,e=>by simp at e
 |_,some v::_,0,d,.cons (d:=some d') r _,e=>by simp at e;subst e;exact⟨v,rfl,r⟩
 |_,none::_,0,d,.cons (d:=some d') r _,e=>r.elim
 |_,_,0,d,.cons (d:=none) r _,e=>by simp at e
 |_,_,i+1,d,.cons _ t,e=>by
  obtain⟨u,h1,h2⟩:=aC.get (i:=i) (d:=d) t (by simpa using e)
  exact⟨u,by simpa using h1,h2⟩
theorem aC.getD:∀{ds:bL}{vs:St}(i:Nat),aC K H ds vs->jD K H ((ds[i]?).getD none) ((vs[i]?).getD none)
 |_,_,_,.nil=>by simp;exact trivial
 |_,_,0,.cons r _=>by simpa using r
 |_,_,i+1,.cons _ t=>by simpa using aC.getD i t
theorem aC.set(r:Den K H d v):∀{ds:bL}{vs:St}(i:Nat),aC K H ds vs->aC K H (ds.set i (some d)) (vs.set i (some v))
 |_,_,_,.nil=>.nil
 |_,_,0,.cons _ t=>.cons r t
 |_,_,i+1,.cons q t=>.cons q (aC.set r i t)
theorem aC.append:∀{ds es:bL}{vs ws:St},aC K H ds vs->aC K H es ws->aC K H (ds++es) (vs++ws)
 |_,_,_,_,.nil,s=>s
 |_,_,_,_,.cons r t,s=>.cons r (aC.append t s)
theorem aC.lN:∀k:Nat,aC K H (List.replicate k none) (List.replicate k none)
 |0=>.nil
 |k+1=>.cons trivial (aC.lN k)
theorem aC.fD:∀{ds:List D}{vs:List V},ai K H ds vs->aC K H (ds.map some) (vs.map some)
 |_,_,.nil=>.nil
 |_,_,.cons r t=>.cons r (aC.fD t)
theorem aC.pick(h:aC K H ds vs):∀ix:List Nat,aC K H (ix.map λi=>(ds[i]?).getD none) (ix.map λi=>(vs[i]?).getD none)
 |[]=>.nil
 |i::r=>.cons (h.getD i) (aC.pick h r)
theorem nW.keep(h:nW K H a o)(x:Ext H H')(e:H' a=H a):nW K H' a o:=by
 cases o with
 |lst ds=>obtain⟨vs,e1,e2⟩:=h;exact⟨vs,e.trans e1,e2.ext x⟩
 |ah o=>
  cases o with
  |aK kvs=>obtain⟨vs,e1,e2⟩:=h;exact⟨vs,e.trans e1,Paired.b6 e2 λp q z=>⟨z.1,Den.ext x z.2⟩⟩
  |d8 kvs=>obtain⟨vs,e1,e2⟩:=h;exact⟨vs,e.trans e1,Paired.b6 e2 λp q z=>⟨z.1,Den.ext x z.2⟩⟩
  |dkf ob kvs=>obtain⟨vs,e1,e2⟩:=h;exact⟨vs,e.trans e1,Paired.b6 e2 λp q z=>⟨z.1,Den.ext x z.2⟩⟩
  |dcf ob kvs=>obtain⟨vs,e1,e2⟩:=h;exact⟨vs,e.trans e1,Paired.b6 e2 λp q z=>⟨z.1,Den.ext x z.2⟩⟩
  |dP fl ep kvs=>obtain⟨vs,e1,e2⟩:=h;exact⟨vs,e.trans e1,Paired.b6 e2 λp q z=>⟨z.1,Den.ext x z.2.1,z.2.2⟩⟩ --N
  |ins c fs=>obtain⟨C,dx,vs,e0,e1,e2⟩:=h;exact⟨C,dx,vs,e0,e.trans e1,Paired.b6 e2 λp q z=>⟨z.1,Den.ext x z.2⟩⟩
theorem nW.there(h:nW K H a o):∃u,H a=some u:=by
 cases o with
 |lst ds=>obtain⟨vs,e1,e2⟩:=h;exact⟨_,e1⟩
 |ah o=>
  cases o with
  |aK kvs=>obtain⟨vs,e1,e2⟩:=h;exact⟨_,e1⟩
  |d8 kvs=>obtain⟨vs,e1,e2⟩:=h;exact⟨_,e1⟩
  |dkf ob kvs=>obtain⟨vs,e1,e2⟩:=h;exact⟨_,e1⟩
  |dcf ob kvs=>obtain⟨vs,e1,e2⟩:=h;exact⟨_,e1⟩
  |dP fl ep kvs=>obtain⟨vs,e1,e2⟩:=h;exact⟨_,e1⟩ --N
  |ins c fs=>obtain⟨C,dx,vs,e0,e1,e2⟩:=h;exact⟨_,e1⟩
theorem ar.free(h:ar K M H)(e:H p=none):M p=none:=by
 cases q:M p with
 |none=>rfl
 |some o=>obtain⟨u,e'⟩:=(h p _ q).there;rw[e]at e';cases e'
theorem ar.get(h:ar K M H)(e:M a=some (.lst ds)):∃vs,H a=some (.lst vs)/\ai K H ds vs:=h a _ e
theorem ar.new(h:ar K M H)(e:H p=none):ar K M (upd H p o):=λa u q=>by
 obtain⟨u',e1⟩:=(h a _ q).there;exact (h a _ q).keep (Ext.new e) (aY (gM e1 e))
theorem ar.gC(h:ar K M H)(e:H p=none)(r:ai K H ds vs):ar K (ae M p (.lst ds)) (upd H p (.lst vs)):=λa u q=>by
 by_cases ha:a=p
 ·subst ha;rw[aq]at q;cases q;exact⟨vs,b9,ai.ext (Ext.new e) r⟩
 ·rw[ag ha]at q;exact (h.new e) a u q
theorem ar.write(h:ar K M H)(e:H p=some (.lst ws))(r:ai K H ds vs):ar K (ae M p (.lst ds)) (upd H p (.lst vs)):=λa u q=>by
 by_cases ha:a=p
 ·subst ha;rw[aq]at q;cases q;exact⟨vs,b9,ai.ext (Ext.lst e) r⟩
 ·rw[ag ha]at q;exact (h a _ q).keep (Ext.lst e) (aY ha)
theorem ar.put(h:ar K M H)(x:Ext H (upd H p o))(n:nW K (upd H p o) p u):ar K (ae M p u) (upd H p o):=λa v q=>by
 by_cases ha:a=p
 ·subst ha;rw[aq]at q;cases q;exact n
 ·rw[ag ha]at q;exact (h a _ q).keep x (aY ha)
noncomputable def aA(M:DH)(a:Addr):DH:=λb=>if b=a then none else M b
theorem ar.frz(h:ar K M H)(e:H p=some (.lst ws)):ar K (aA M p) (upd H p o):=λa u q=>by
 unfold aA at q;by_cases ha:a=p
 ·rw[Zg ha]at q;cases q
 ·rw[Zd ha]at q;exact (h a _ q).keep (Ext.lst e) (aY ha)
end
noncomputable abbrev DK:=D->DH->Prop
noncomputable abbrev aB:=bL->DH->DK->Prop
noncomputable abbrev cO:=bL->DH->(Bool->DH->Prop)->Prop
noncomputable abbrev d7:=bL->DH->(List D->DH->Prop)->Prop
structure jF where
 nx:bL->DH->Prop
 rt:DK
 bk:bL->DH->Prop
 ct:bL->DH->Prop
noncomputable abbrev cU:=jF->bL->DH->Prop
def iR(K:Frag)(H:Hp)(R:DK)(Q:VK):Prop:=∀d M' v H',R d M'->Ext H H'->ar K M' H'->Den K H' d v->Q v H'
inductive lE(K:Frag)(t:aB)(σ:St)(H:Hp)(Q:VK):Prop
 |mk (ρ:bL) (M:DH) (R:DK) (s:aC K H ρ σ) (m:ar K M H) (h:t ρ M R) (k:iR K H R Q)
inductive lT(K:Frag)(t:cO)(σ:St)(H:Hp)(Q:Bool->Hp->Prop):Prop
 |mk (ρ:bL) (M:DH) (R:Bool->DH->Prop) (s:aC K H ρ σ) (m:ar K M H) (h:t ρ M R) (k:∀b M' H',R b M'->Ext H H'->ar K M' H'->Q b H')
inductive lA(K:Frag)(t:d7)(σ:St)(H:Hp)(Q:List V->Hp->Prop):Prop
 |mk (ρ:bL) (M:DH) (R:List D->DH->Prop) (s:aC K H ρ σ) (m:ar K M H) (h:t ρ M R) (k:∀ds M' vs H',R ds M'->Ext H H'->ar K M' H'->ai K H' ds vs->Q vs H')
structure Fin(K:Frag)(H:Hp)(DD:jF)(D:Ends):Prop where
 nx:∀ρ' M' σ' H',DD.nx ρ' M'->Ext H H'->aC K H' ρ' σ'->ar K M' H'->D.nx σ' H'
 rt:iR K H DD.rt D.rt
 bk:∀ρ' M' σ' H',DD.bk ρ' M'->Ext H H'->aC K H' ρ' σ'->ar K M' H'->D.bk σ' H'
 ct:∀ρ' M' σ' H',DD.ct ρ' M'->Ext H H'->aC K H' ρ' σ'->ar K M' H'->D.ct σ' H'
inductive lS(K:Frag)(t:cU)(D:Ends)(σ:St)(H:Hp):Prop
 |mk (ρ:bL) (M:DH) (DD:jF) (s:aC K H ρ σ) (m:ar K M H) (h:t DD ρ M) (k:Fin K H DD D)
theorem iR.ext{K:Frag}{H H':Hp}{R:DK}{Q:VK}(a:iR K H R Q)(x:Ext H H'):iR K H' R Q:=λd M v H'' r y=>a d M v H'' r (x.trans y)
theorem Fin.ext{K:Frag}{H H':Hp}{DD:jF}{D:Ends}(a:Fin K H DD D)(x:Ext H H'):Fin K H' DD D:=
 ⟨λr M s H2 q y=>a.nx r M s H2 q (x.trans y),a.rt.ext x,λr M s H2 q y=>a.bk r M s H2 q (x.trans y),λr M s H2 q y=>a.ct r M s H2 q (x.trans y)⟩
noncomputable abbrev DE(X:Cx)(e:Expr)(t:aB):Prop:=PE X e (lE X.K t)
noncomputable abbrev DT(X:Cx)(e:Expr)(t:cO):Prop:=PT X e (lT X.K t)
noncomputable abbrev DW(X:Cx)(e:Expr)(t:cO):Prop:=PW X e (lT X.K t)
noncomputable abbrev DA(X:Cx)(es:List Expr)(t:d7):Prop:=PA X es (lA X.K t)
noncomputable abbrev DS(X:Cx)(st:Stmt)(t:cU):Prop:=PS X st (lS X.K t)
noncomputable abbrev kX(X:Cx)(st:List Stmt)(t:cU):Prop:=gN X st (lS X.K t)
section
variable{X:Cx}{a b c e:Expr}{es:List Expr}{ta tb te:aB}{tt tu:cO}{pos:Pos}{K:Frag}
def dVar(i:Nat):aB:=λρ M Q=>match ρ[i]? with
 |some (some d)=>Q d M
 |_=>False
theorem dv(i:Nat)(hN:X.N[i]?=some x:=by rfl)(hv:rA X.env.scope x:=by first|exact Or.inl rfl|exact Or.inr (Or.inl rfl)|exact Or.inr (Or.inr rfl))(hd:(x==("__debug__":Str))=false:=by decide)
  (hcd:(x==("__classdict__":Str))=false:=by decide):DE X (.Name x pos) (dVar i):=(Q9y hN hv hd hcd).imp λσ H Q ⟨ρ,M,R,s,m,h,k⟩=>by
 unfold dVar at h;cases e:ρ[i]? with
 |none=>rw[e]at h;exact h.elim
 |some o=>
  rw[e]at h;cases o with
  |none=>exact h.elim
  |some d=>
   obtain⟨v,e1,e2⟩:=s.get e;exact⟨v,e1,k d M v H h (Ext.refl H) m e2⟩
def dC(d:D):aB:=λ_ M Q=>Q d M
theorem fT(h:PE X e (tC v))(hd:∀H,Den X.K H d v):DE X e (dC d):=h.imp λσ H Q ⟨ρ,M,R,s,m,h,k⟩=>k d M v H h (Ext.refl H) m (hd H)
theorem Qcg{i j pos}:DE X (.Constant (.int i) j pos) (dC (.int i)):=fT QbN λ_=>.int i
theorem qY{i j pos}:DE X (.Constant (.bool i) j pos) (dC (.bl i)):=fT qp λ_=>.bl i
theorem Qch{j pos}:DE X (.Constant .none j pos) (dC .non):=fT QbO λ_=>.non
theorem rB(x:Str):S x.cps.toList=x:=by unfold S;cases x;simp
theorem Qci{j pos}(h:(i.cps.toList.all λc=>decide (c<1114112))=true:=by decide):DE X (.Constant (.str i) j pos) (dC (.str i.cps.toList)):=fT QbP λH=>by
 have q:=Den.str (K:=X.K) (H:=H) i.cps.toList h;rw[rB]at q;exact q
theorem Qax(hg:Gl X x)(hm:X.mg x=some u)(r:RelV v u)(hd:∀H,Den X.K H d v)(hdb:(x==("__debug__":Str))=false:=by decide):DE X (.Name x pos) (dC d):=fT (Qa1 hg hm r hdb) hd
noncomputable abbrev fL:=D->D->DH->DK->Prop
inductive lR2(K:Frag)(r:fL)(x y:V)(H:Hp)(Q:VK):Prop
 |mk (dx dy:D) (M:DH) (R:DK) (ex:Den K H dx x) (ey:Den K H dy y) (m:ar K M H) (h:r dx dy M R) (k:iR K H R Q)
noncomputable abbrev dA(X:Cx)(f:Value->Value->Sem Value)(r:fL):Prop:=fK X f (lR2 X.K r)
def dOp(r:fL)(ta tb:aB):aB:=λρ M Q=>ta ρ M λx M1=>tb ρ M1 λy M2=>r x y M2 Q
theorem Q4G(hr:∀x y H Q,lR2 K r x y H Q->rV x y H Q)(h:lE K (dOp r ta tb) σ H Q):pG rV (lE K ta) (lE K tb) σ H Q:=by
 obtain⟨ρ,M,R,s,m,h,k⟩:=h;refine⟨ρ,M,_,s,m,h,λd1 M1 v1 H1 h1 x1 m1 e1=>⟨ρ,M1,_,s.ext x1,m1,h1,λd2 M2 v2 H2 h2 x2 m2 e2=>hr _ _ _ _ ⟨d1,d2,M2,R,e1.ext x2,e2,m2,h2,k.ext (x1.trans x2)⟩⟩⟩
theorem qW(ho:dA X (binaryOp op) r)(ha:DE X a ta)(hb:DE X b tb):DE X (.BinOp a op b pos) (dOp r ta tb):=
 (qj ho ha hb).imp λσ H Q h=>Q4G (λ_ _ _ _ q=>q) h
theorem Qcj(ho:dA X (compareOp op) r)(ha:DE X a ta)(hb:DE X b tb)(hm:behindInMarks op b=false:=by first|exact nobehind _ (by decide) (by decide)|rfl):DE X (.Compare a [op] [b] pos) (dOp r ta tb):=
 (Qaa ho ha hb hm).imp λσ H Q h=>Q4G (λ_ _ _ _ q=>q) h
def dB(t:aB):cO:=λρ M Q=>t ρ M λx M1=>match x with
 |.bl c=>Q c M1
 |_=>False
theorem Qck(h:DE X e te)(he:∀whole,isTrue e X.env whole=(do let v <- whole;standAt e.pos;holding [v] (truthy v)):=by intro _;rfl):DT X e (dB te):=
 (QbQ h he).imp λσ H Q ⟨ρ,M,R,s,m,h,k⟩=>⟨ρ,M,_,s,m,h,λd M1 v H1 h1 x1 m1 e1=>by
  cases d with
  |bl c=>cases e1;exact⟨c,rfl,k c M1 H1 h1 x1 m1⟩
  |_=>exact h1.elim⟩
theorem Qcl(ho:dA X (compareOp op) r)(ha:DE X a ta)(hb:DE X b tb)(hm:behindInMarks op b=false:=by first|exact nobehind _ (by decide) (by decide)|rfl):DT X (.Compare a [op] [b] pos) (dB (dOp r ta tb)):=
 (Qab ho ha hb hm).imp λσ H Q ⟨ρ,M,R,s,m,h,k⟩=>Q4G (r:=r) (λ_ _ _ _ q=>q) ⟨ρ,M,_,s,m,h,λd M1 v H1 h1 x1 m1 e1=>by
  cases d with
  |bl c=>cases e1;exact⟨c,rfl,k c M1 H1 h1 x1 m1⟩
  |_=>exact h1.elim⟩
def dAnd(t u:cO):cO:=λρ M Q=>t ρ M λc M1=>if c=true then u ρ M1 Q else Q false M1
def dOr(t u:cO):cO:=λρ M Q=>t ρ M λc M1=>if c=true then Q true M1 else u ρ M1 Q
def dNot(t:cO):cO:=λρ M Q=>t ρ M λc M1=>Q (!c) M1
variable{rest:List Expr}
theorem Qay(ha:DT X a tt):DW X (.BoolOp .And [a] pos) tt:=Qa3 ha
theorem Qcm(ha:DT X a tt):DW X (.BoolOp .Or [a] pos) tt:=QbR ha
theorem Qcn(ha:DT X a tt)(hb:DW X (.BoolOp .And (b::rest) pos) tu):DW X (.BoolOp .And (a::b::rest) pos) (dAnd tt tu):=
 (QbS ha hb).imp λσ H Q ⟨ρ,M,R,s,m,h,k⟩=>⟨ρ,M,_,s,m,h,λc M1 H1 h1 x1 m1=>by
  cases c with
  |true=>exact bj ⟨ρ,M1,_,s.ext x1,m1,(Zg rfl).mp h1,λb M2 H2 h2 x2 m2=>k b M2 H2 h2 (x1.trans x2) m2⟩
  |false=>exact br (k false M1 H1 ((Zd Z0).mp h1) x1 m1)⟩
theorem qS(ha:DT X a tt)(hb:DW X (.BoolOp .Or (b::rest) pos) tu):DW X (.BoolOp .Or (a::b::rest) pos) (dOr tt tu):=
 (p6 ha hb).imp λσ H Q ⟨ρ,M,R,s,m,h,k⟩=>⟨ρ,M,_,s,m,h,λc M1 H1 h1 x1 m1=>by
  cases c with
  |true=>exact bj (k true M1 H1 ((Zg rfl).mp h1) x1 m1)
  |false=>exact br ⟨ρ,M1,_,s.ext x1,m1,(Zd Z0).mp h1,λb M2 H2 h2 x2 m2=>k b M2 H2 h2 (x1.trans x2) m2⟩⟩
theorem Qco(ha:DT X a tt):DT X (.UnaryOp .Not a pos) (dNot tt):=
 (QbT ha).imp λσ H Q ⟨ρ,M,R,s,m,h,k⟩=>⟨ρ,M,_,s,m,h,λc M1 H1 h1 x1 m1=>k (!c) M1 H1 h1 x1 m1⟩
theorem DW.dt(h:DW X e tt):DT X e tt:=PW.pt h
def zbB(ta tb:aB):aB:=λρ M Q=>ta ρ M λx M1=>match x with
 |.bl c=>if c=true then tb ρ M1 Q else Q (.bl false) M1
 |_=>False
def dOrV(ta tb:aB):aB:=λρ M Q=>ta ρ M λx M1=>match x with
 |.bl c=>if c=true then Q (.bl true) M1 else tb ρ M1 Q
 |_=>False
def dNotV(ta:aB):aB:=λρ M Q=>ta ρ M λx M1=>match x with
 |.bl c=>Q (.bl (!c)) M1
 |_=>False
theorem Q6F{op}(h:DE X a ta):DE X (.BoolOp op [a] pos) ta:=QbU h
theorem Qcp(ha:DE X a ta)(hb:DE X (.BoolOp .And (b::rest) pos) tb):DE X (.BoolOp .And (a::b::rest) pos) (zbB ta tb):=
 (QbV ha hb).imp λσ H Q ⟨ρ,M,R,s,m,h,k⟩=>⟨ρ,M,_,s,m,h,λd M1 v H1 h1 x1 m1 e1=>by
  cases d with
  |bl c=>
   cases e1;refine⟨c,rfl,?_⟩;cases c with
   |true=>exact bj ⟨ρ,M1,_,s.ext x1,m1,(Zg rfl).mp h1,k.ext x1⟩
   |false=>exact br (k _ M1 _ H1 ((Zd Z0).mp h1) x1 m1 (.bl _))
  |_=>exact h1.elim⟩
theorem qV(ha:DE X a ta)(hb:DE X (.BoolOp .Or (b::rest) pos) tb):DE X (.BoolOp .Or (a::b::rest) pos) (dOrV ta tb):=
 (qi ha hb).imp λσ H Q ⟨ρ,M,R,s,m,h,k⟩=>⟨ρ,M,_,s,m,h,λd M1 v H1 h1 x1 m1 e1=>by
  cases d with
  |bl c=>
   cases e1;refine⟨c,rfl,?_⟩;cases c with
   |true=>exact bj (k _ M1 _ H1 ((Zg rfl).mp h1) x1 m1 (.bl _))
   |false=>exact br ⟨ρ,M1,_,s.ext x1,m1,(Zd Z0).mp h1,k.ext x1⟩
  |_=>exact h1.elim⟩
theorem Qcq(ha:DE X a ta):DE X (.UnaryOp .Not a pos) (dNotV ta):=
 (QbW ha).imp λσ H Q ⟨ρ,M,R,s,m,h,k⟩=>⟨ρ,M,_,s,m,h,λd M1 v H1 h1 x1 m1 e1=>by
  cases d with
  |bl c=>cases e1;exact⟨c,rfl,k _ M1 _ H1 h1 x1 m1 (.bl _)⟩
  |_=>exact h1.elim⟩
def dIf(t:cO)(ta tb:aB):aB:=λρ M Q=>t ρ M λc M1=>if c=true then ta ρ M1 Q else tb ρ M1 Q
theorem Q8n(hc:DT X c tt)(ha:DE X a ta)(hb:DE X b tb):DE X (.IfExp c a b pos) (dIf tt ta tb):=
 (Q7L hc ha hb).imp λσ H Q ⟨ρ,M,R,s,m,h,k⟩=>⟨ρ,M,_,s,m,h,λc M1 H1 h1 x1 m1=>by
  cases c with
  |true=>exact bj ⟨ρ,M1,_,s.ext x1,m1,(Zg rfl).mp h1,k.ext x1⟩
  |false=>exact br ⟨ρ,M1,_,s.ext x1,m1,(Zd Z0).mp h1,k.ext x1⟩⟩
def dNil:d7:=λ_ M Q=>Q [] M
def zaX(ta:aB)(tr:d7):d7:=λρ M Q=>ta ρ M λx M1=>tr ρ M1 λxs M2=>Q (x::xs) M2
variable{tr:d7}
theorem Q6G:DA X [] dNil:=Q9A.imp λσ H Q ⟨ρ,M,R,s,m,h,k⟩=>k [] M [] H h (Ext.refl H) m .nil
theorem Q4f(ha:DE X e te)(hr:DA X es tr)(hs:starEach (e::es) X.env=(false,eval e X.env)::starEach es X.env:=by rfl):DA X (e::es) (zaX te tr):=
 (Q4c ha hr hs).imp λσ H Q ⟨ρ,M,R,s,m,h,k⟩=>⟨ρ,M,_,s,m,h,λd1 M1 v1 H1 h1 x1 m1 e1=>⟨ρ,M1,_,s.ext x1,m1,h1,λds M2 vs H2 h2 x2 m2 e2=>k _ M2 _ H2 h2 (x1.trans x2) m2 (.cons (e1.ext x2) e2)⟩⟩
def dTup(t:d7):aB:=λρ M Q=>t ρ M λxs M1=>xs.length<=sizeLine/\Q (.tup xs) M1
theorem Qcr{x1}(h:DA X es tr):DE X (.Tuple es x1 pos) (dTup tr):=
 (Qc9 h).imp λσ H Q ⟨ρ,M,R,s,m,h,k⟩=>⟨ρ,M,_,s,m,h,λds M1 vs H1 ⟨hl,h1⟩ x1 m1 e1=>⟨by rw[<- e1.length];exact hl,λp hp=>k _ M1 _ _ h1 (x1.trans (Ext.new hp)) (m1.new hp) (.tup b9 (e1.ext (Ext.new hp)))⟩⟩
def dLst(t:d7):aB:=λρ M Q=>t ρ M λxs M1=>xs.length<=sizeLine/\∀p,M1 p=none->Q (.ref p) (ae M1 p (.lst xs))
theorem Qcs(h:DA X es tr):DE X (.List es pos) (dLst tr):=
 (Q9B h).imp λσ H Q ⟨ρ,M,R,s,m,h,k⟩=>⟨ρ,M,_,s,m,h,λds M1 vs H1 ⟨hl,h1⟩ x1 m1 e1=>⟨by rw[<- e1.length];exact hl,λp hp=>k _ _ _ _ (h1 p (m1.free hp)) (x1.trans (Ext.new hp)) (m1.gC hp e1) (.ref p)⟩⟩
def cK(t:aB):aB:=λρ M Q=>t ρ M λd M1=>match d with
 |.ref a=>match M1 a with
  |some (.lst ds)=>Q (.lst ds) (aA M1 a)
  |_=>False
 |_=>False
theorem Qct(h:DE X e te):DE X e (cK te):=
 (Q6t h).imp λσ H Q ⟨ρ,M,R,s,m,h,k⟩=>⟨ρ,M,_,s,m,h,λd M1 v H1 h1 x1 m1 e1=>by
  cases d with
  |ref a=>
   cases e1;cases q:M1 a with
   |none=>erw[q]at h1
   |some o=>
    cases o with
    |ah _=>erw[q]at h1
    |lst ds=>
     erw[q]at h1;obtain⟨vs,e2,e3⟩:=m1.get q;exact⟨a,vs,rfl,e2,λo=>k _ _ _ _ h1 (x1.trans (Ext.lst e2)) (m1.frz e2) (.lst (.inl ⟨o,b9⟩) (e3.ext (Ext.lst e2)))⟩
  |_=>exact h1.elim⟩
inductive lC(K:Frag)(r:List D->DH->DK->Prop)(vs:List V)(H:Hp)(Q:VK):Prop
 |mk (ds:List D) (M:DH) (R:DK) (dn:ai K H ds vs) (m:ar K M H) (h:r ds M R) (k:iR K H R Q)
noncomputable abbrev jK(X:Cx)(f:Value)(r:List D->DH->DK->Prop):Prop:=jL X f (lC X.K r)
def dCB(r:List D->DH->DK->Prop)(t:d7):aB:=λρ M Q=>t ρ M λds M1=>r ds M1 Q
theorem Q9E{r:List D->DH->DK->Prop}(h:lE K (dCB r t) σ H Q):tCB (lC K r) (lA K t) σ H Q:=by
 obtain⟨ρ,M,R,s,m,h,k⟩:=h;exact⟨ρ,M,_,s,m,h,λds M1 vs H1 h1 x1 m1 e1=>⟨ds,M1,R,e1,m1,h1,k.ext x1⟩⟩
theorem Q1J{x:Str}{id:String}{p:Pos}{r:List D->DH->DK->Prop}{t:d7}(hc:jK X (.builtin id) r)(hg:Gl X x)(hm:X.mg x=none)(hv:bootBuiltins x=some (.builtin id))(ha:DA X (e::es) t)(hn:x ≠ "__name__":=by decide)(hdb:(x==("__debug__":Str))=false:=by decide)
  (he:starEach (e::es) X.env=(false,eval e X.env)::starEach es X.env:=by rfl) (hpl:(backTo pos (starEach es X.env)).any (·.1)=false:=by rfl):DE X (.Call (.Name x p) (e::es) [] pos) (dCB r t):=
 (Q4B hc hg hm hv ha hn hdb he hpl).imp λ_ _ _ h=>Q9E h
theorem Q1X{r:List D->DH->DK->Prop}(hc:jK X (.type T) r)(hg:Gl X x)(hm:X.mg x=none)(hv:bootBuiltins x=some (.type T))(ha:DA X (e::es) t)(hn:x ≠ "__name__":=by decide)(hdb:(x==("__debug__":Str))=false:=by decide)
  (he:starEach (e::es) X.env=(false,eval e X.env)::starEach es X.env:=by rfl) (hpl:(backTo pos (starEach es X.env)).any (·.1)=false:=by rfl):DE X (.Call (.Name x p) (e::es) [] pos) (dCB r t):=
 (Q6n hc hg hm hv ha hn hdb he hpl).imp λ_ _ _ h=>Q9E h
noncomputable abbrev aU:=List D->DH->DK->Prop
inductive di(K:Frag)(sp:aU)(vs:List V)(H:Hp)(Q:VK)(_E:XK):Prop
 |mk (ds:List D) (M:DH) (R:DK) (dn:ai K H ds vs) (m:ar K M H) (h:sp ds M R) (k:iR K H R Q)
def zc1(sp:aU)(dY:List D)(t:d7):aB:=λρ M Q=>t ρ M λds M1=>sp (ds++dY) M1 Q
theorem Qaz{p:Pos}(F:aS X.prog X.w X.K X.mg X.base CX k f fd ps (di X.K sp))(hr:aQ k X.A)(hg:Gl X x)(hm:X.mg x=some (.ref f))(hk:keepIn X.K (.ref f)=true)(hb:Binds X.K fd ps ds)(hd:Vals dvs ds)(hdd:∀H,ai X.K H dY dvs)(hx:gP CX X E)
  (ha:DA X (e::es) t) (hdb:(x==("__debug__":Str))=false:=by decide) (he:starEach (e::es) X.env=(false,eval e X.env)::starEach es X.env:=by rfl) (hpl:(backTo pos (starEach es X.env)).any (·.1)=false:=by rfl) :
  DE X (.Call (.Name x p) (e::es) [] pos) (zc1 sp dY t):=
 (Qae F hr hg hm hk hb hd hx ha hdb he hpl).imp λσ H Q ⟨ρ,M,R,s,m,h,k⟩=>⟨ρ,M,_,s,m,h,λds M1 vs H1 h1 x1 m1 e1=>⟨_,M1,R,e1.append (hdd _),m1,h1,k.ext x1⟩⟩
end
section
variable{X:Cx}{a b c e tg iter:Expr}{es:List Expr}{st:Stmt}{sts body:List Stmt}{ta tb te:aB}{tt tu:cO}{t u:cU}{pos:Pos}{K:Frag}
def zbW:cU:=λD ρ M=>D.nx ρ M
def dSeq(t u:cU):cU:=λD ρ M=>t {D with nx:=u D} ρ M
theorem QaA:kX X [] zbW:=Qa4.imp λD σ H ⟨ρ,M,DD,s,m,h,k⟩=>k.nx ρ M σ H h (Ext.refl H) s m
theorem Q8o(h1:DS X st t)(h2:kX X sts u):kX X (st::sts) (dSeq t u):=
 (Q7M h1 h2).imp λD σ H ⟨ρ,M,DD,s,m,h,k⟩=>⟨ρ,M,_,s,m,h,⟨λρ1 M1 σ1 H1 q x s1 m1=>⟨ρ1,M1,DD,s1,m1,q,k.ext x⟩,k.rt,k.bk,k.ct⟩⟩
def dDrop(te:aB):cU:=λD ρ M=>te ρ M λ_ M1=>D.nx ρ M1
theorem QaB(he:DE X e te)(hs:swapsWith e none pos.line X.env=pure false:=by rfl):DS X (.Expr e pos) (dDrop te):=
 (Qa5 he hs).imp λD σ H ⟨ρ,M,DD,s,m,h,k⟩=>⟨ρ,M,_,s,m,h,λd M1 v H1 h1 x1 m1 e1=>k.nx ρ M1 σ H1 h1 x1 (s.ext x1) m1⟩
def dRet(te:aB):cU:=λD ρ M=>te ρ M D.rt
theorem Qcu(he:DE X e te):DS X (.Return (some e) pos) (dRet te):=
 (QbX he).imp λD σ H ⟨ρ,M,DD,s,m,h,k⟩=>⟨ρ,M,_,s,m,h,k.rt⟩
def dRetN:cU:=λD _ M=>D.rt .non M
theorem QaC:DS X (.Return none pos) dRetN:=Qa6.imp λD σ H ⟨ρ,M,DD,s,m,h,k⟩=>k.rt .non M .non H h (Ext.refl H) m .non
def dIfS(c:cO)(t u:cU):cU:=λD ρ M=>c ρ M λb M1=>if b=true then t D ρ M1 else u D ρ M1
theorem qU{a b:List Stmt}(hc:DT X c tt)(ha:kX X a t)(hb:kX X b u):DS X (.If c a b pos) (dIfS tt t u):=
 (qd hc ha hb).imp λD σ H ⟨ρ,M,DD,s,m,h,k⟩=>⟨ρ,M,_,s,m,h,λc M1 H1 h1 x1 m1=>by
  cases c with
  |true=>exact bj ⟨ρ,M1,DD,s.ext x1,m1,(Zg rfl).mp h1,k.ext x1⟩
  |false=>exact br ⟨ρ,M1,DD,s.ext x1,m1,(Zd Z0).mp h1,k.ext x1⟩⟩
noncomputable abbrev kW:=D->bL->DH->(bL->DH->Prop)->Prop
inductive lG(K:Frag)(g:kW)(v:V)(σ:St)(H:Hp)(Q:St->Hp->Prop):Prop
 |mk (d:D) (ρ:bL) (M:DH) (R:bL->DH->Prop) (dn:Den K H d v) (s:aC K H ρ σ) (m:ar K M H) (h:g d ρ M R) (k:∀ρ' M' σ' H',R ρ' M'->Ext H H'->aC K H' ρ' σ'->ar K M' H'->Q σ' H')
noncomputable abbrev DG(X:Cx)(tg:Expr)(g:kW):Prop:=PG X tg (lG X.K g)
def zb1(i:Nat):kW:=λd ρ M Q=>Q (ρ.set i (some d)) M
theorem QaD(hN:X.N.Nodup)(hi:X.N[i]?=some x)(hx:Loc X.env.scope x)(hf:X.fn x=true\/X.env.scope.names.lookup x=some .local:=by first|exact .inl rfl|exact .inr rfl|assumption):DG X (.Name x pos) (zb1 i):=
 (Q6c hN hi hx hf).imp λv σ H Q ⟨d,ρ,M,R,e,s,m,h,k⟩=>k _ M _ H h (Ext.refl H) (s.set e i) m
def dAsg(te:aB)(g:kW):cU:=λD ρ M=>te ρ M λx M1=>g x ρ M1 D.nx
theorem QaE{g:kW}{gV:TG}{teV:TE}{D:Ends}{σ:St}{H:Hp}(h1:∀σ H Q,lE K te σ H Q->teV σ H Q)(h2:∀v σ H Q,lG K g v σ H Q->gV v σ H Q)(h:lS K (dAsg te g) D σ H):j0 teV gV D σ H:=by
 obtain⟨ρ,M,DD,s,m,h,k⟩:=h;exact h1 _ _ _ ⟨ρ,M,_,s,m,h,λd M1 v H1 q x m1 e1=>h2 _ _ _ _ ⟨d,ρ,M1,_,e1,s.ext x,m1,q,λρ2 M2 σ2 H2 q2 x2 s2 m2=>k.nx ρ2 M2 σ2 H2 q2 (x.trans x2) s2 m2⟩⟩
def dSet(i:Nat)(te:aB):cU:=λD ρ M=>te ρ M λx M1=>D.nx (ρ.set i (some x)) M1
theorem Q9F(hN:X.N.Nodup)(hi:X.N[i]?=some x)(hx:Loc X.env.scope x)(he:DE X e te)(hs:swapsWith e (some (.Name x pos')) pos.line X.env=pure false:=by rfl)(hf:X.fn x=true\/X.env.scope.names.lookup x=some .local:=by first|exact .inl rfl|exact .inr rfl|assumption) :
  DS X (.Assign [.Name x pos'] e pos) (dSet i te):=
 (QbZ hN hi hx he hs hf).imp λD σ H h=>by
  obtain⟨ρ,M,DD,s,m,h,k⟩:=h;exact⟨ρ,M,_,s,m,h,λd M1 v H1 q x m1 e1=>k.nx _ M1 _ H1 q x ((s.ext x).set e1 i) m1⟩
structure aM(K:Frag)(J:It)(items:List D)(Cd:DH->Prop)(H:Hp):Prop where
 go:∀i H' M,Ext H H'->ar K M H'->Cd M->i<items.length->J.go i H'
 gi:∀i H' M x H'',Ext H H'->ar K M H'->Cd M->J.gi i H' x H''->i<items.length->Ext H' H''/\ar K M H''/\∃d,items[i]?=some d/\Den K H'' d x
 stop:∀i H' M,Ext H H'->ar K M H'->Cd M->items.length<=i->J.stop i H'
noncomputable abbrev iG:=bL->DH->(List D->(DH->Prop)->DH->Prop)->Prop
inductive lI(K:Frag)(wi:iG)(σ:St)(H:Hp)(R:It->Hp->Prop):Prop
 |mk (ρ:bL) (M:DH) (RD:List D->(DH->Prop)->DH->Prop) (s:aC K H ρ σ) (m:ar K M H) (h:wi ρ M RD) (k:∀items Cd M' H' J,RD items Cd M'->Ext H H'->ar K M' H'->aM K J items Cd H'->R J H')
noncomputable abbrev DI(X:Cx)(tg iter:Expr)(wi:iG):Prop:=PI X tg iter (lI X.K wi)
def kY(g:kW)(tb:cU)(DD:jF)(Cd:DH->Prop):List D->bL->DH->Prop
 |[],ρ,M=>Cd M/\DD.nx ρ M
 |d::ds,ρ,M=>Cd M/\g d ρ M λρ' M'=>tb {DD with nx:=kY g tb DD Cd ds,ct:=kY g tb DD Cd ds,bk:=DD.nx} ρ' M'
def dFor(wi:iG)(g:kW)(tb:cU):cU:=λDD ρ M=>wi ρ M λitems Cd M1=>kY g tb DD Cd items ρ M1
theorem Qcv{wi:iG}{g:kW}{tb:cU}(hp:PassesOwn (model X.prog X.w) X.A X.env X.xe)(hc:X.calm=true)(hi:DI X tg iter wi)(hg:DG X tg g)(hb:kX X body tb)
  (hs:∀x,foldedSetIterable iter X.env x=pure x:=by intro _;rfl):DS X (.For tg iter body [] pos) (dFor wi g tb):=
 (Qc0 hp hc hi hg hb hs).imp λD σ H ⟨ρ,M,DD,s,m,h,k⟩=>⟨ρ,M,_,s,m,h,λitems Cd M1 H1 J h1 x1 m1 Y=>by
  refine⟨λi mm σ' H'=>mm=items.length-i/\i<=items.length/\∃ρ' M',Ext H1 H'/\aC X.K H' ρ' σ'/\ar X.K M' H'/\kY g tb DD Cd (items.drop i) ρ' M',⟨_,rfl,Z8 _,ρ,M1,Ext.refl _,s.ext x1,m1,h1⟩,?_⟩;rintro i mm σ' H' ⟨rfl,hi,ρ',M',x',s',m',h'⟩;by_cases hlt:i<items.length
  ·right;have hd:items.drop i=items[i]::items.drop (i+1):=Yp hlt;rw[hd]at h';obtain⟨cd,h'⟩:=h';refine⟨Y.go i H' M' x' m' cd hlt,λσ2 H2=>∃ρ2 M2,Ext H1 H2/\aC X.K H2 ρ2 σ2/\ar X.K M2 H2/\kY g tb DD Cd (items.drop (i+1)) ρ2 M2,λσ2 H2 ⟨ρ2,M2,x2,s2,m2,h2⟩=>⟨_,(show items.length-(i+1)<items.length-i by room),rfl,hlt,ρ2,M2,x2,s2,m2,h2⟩,λx Hy yl=>?_⟩
   obtain⟨xy,my,d,ed,den⟩:=Y.gi i H' M' x Hy x' m' cd yl hlt;have:items[i]=d:=by
    rw[Zx hlt]at ed;exact Z3 ed
   rw[this]at h';have xx:=x'.trans xy;refine⟨d,ρ',M',_,den,s'.ext xy,my,h',λρ3 M3 σ3 H3 q3 x3 s3 m3=>⟨ρ3,M3,_,s3,m3,q3,?_⟩⟩;have xz:=xx.trans x3;exact⟨λρ4 M4 σ4 H4 q4 x4 s4 m4=>⟨ρ4,M4,xz.trans x4,s4,m4,q4⟩,(k.ext (x1.trans xz)).rt,λρ4 M4 σ4 H4 q4 x4 s4 m4=>(k.ext (x1.trans xz)).nx ρ4 M4 σ4 H4 q4 x4 s4 m4,λρ4 M4 σ4 H4 q4 x4 s4 m4=>⟨ρ4,M4,xz.trans x4,s4,m4,q4⟩⟩
  ·left;have hd:items.drop i=[]:=drop_eq_nil_of_le (le_of_not_lt hlt);rw[hd]at h';exact⟨Y.stop i H' M' x' m' h'.1 (le_of_not_lt hlt),(k.ext (x1.trans x')).nx ρ' M' σ' H' h'.2 (Ext.refl _) s' m'⟩⟩
def gd(fr:bL)(unp:D->Option (List D))(tc:cO)(te:aB)(Cd:DH->Prop)(Q:List D->DH->Prop):List D->List D->DH->Prop
 |[],ys,M=>Cd M/\Q ys M
 |d::ds,ys,M=>Cd M/\match unp d with
  |some us=>tc (us.map some++fr) M λb M3=>
   if b=true then te (us.map some++fr) M3 λz M4=>ys.length<sizeLine/\gd fr unp tc te Cd Q ds (ys++[z]) M4 else gd fr unp tc te Cd Q ds ys M3
  |none=>False
def zbA(wi:iG)(ix:List Nat)(unp:D->Option (List D))(tc:cO)(te:aB):aB:=λρ M Q=>wi ρ M λitems Cd M1=>
 gd (ix.map λi=>(ρ[i]?).getD none) unp tc te Cd (λys M2=>ys.length<=sizeLine/\∀a,M2 a=none->Q (.ref a) (ae M2 a (.lst ys))) items [] M1
structure kG(K:Frag)(k:Nat)(unp:D->Option (List D))(gV:TG):Prop where
 len:∀d us,unp d=some us->us.length=k
 to:∀d v us frV H Q,Den K H d v->unp d=some us->(∀ws,ai K H us ws->Q (ws.map some++frV) H)->gV v (List.replicate k none++frV) H Q
theorem unp1:kG K 1 (λd=>some [d]) (jG 0) where
 len:=λd us e=>by cases e;rfl
 to:=λd v us frV H Q den e h=>by cases e;exact h [v] (.cons den .nil)
noncomputable def zbE:D->Option (List D)
 |.tup [a,b]=>some [a,b]
 |_=>none
theorem unp2:kG K 2 zbE (nA K 2 (oX (jG 0) (oX (jG 1) nB))) where
 len:=λd us e=>by
  unfold zbE at e;split at e
  ·cases e;rfl
  ·cases e
 to:=λd v us frV H Q den e h=>by
  unfold zbE at e;split at e
  ·cases e;cases den with
   |tup q r=>
    cases r with
    |cons r1 r=>
     cases r with
     |cons r2 r=>
      cases r;exact⟨_,_,rfl,.of q,rfl,_,_,rfl,_,_,rfl,rfl,h _ (.cons r1 (.cons r2 .nil))⟩
  ·cases e
theorem Q4H{unp:D->Option (List D)}(hu:kG K k unp gV)
  (h:lE K (zbA wi ix unp tc te) σ H Q):gT (lI K wi) k ix gV (lT K tc) (lE K te) σ H Q:=by
 obtain⟨ρ,M,R,s,m,h,kk⟩:=h;refine⟨ρ,M,_,s,m,h,λitems Cd M1 H1 J h1 x1 m1 Y=>?_⟩;refine⟨λi mm ys H'=>mm=items.length-i/\i<=items.length/\∃M' zs,Ext H1 H'/\ar K M' H'/\ai K H' zs ys/\gd (ix.map λi=>(ρ[i]?).getD none) unp tc te Cd (λys M2=>ys.length<=sizeLine/\∀a,M2 a=none->R (.ref a) (ae M2 a (.lst ys))) (items.drop i) zs M',⟨_,rfl,Z8 _,M1,[],Ext.refl _,m1,.nil,h1⟩,?_⟩;rintro i mm ys H' ⟨rfl,hi,M',zs,x',m',dz,h'⟩;by_cases hlt:i<items.length
 ·right;have hd:items.drop i=items[i]::items.drop (i+1):=Yp hlt;rw[hd]at h';obtain⟨cd,h'⟩:=h';refine⟨Y.go i H' M' x' m' cd hlt,λy Hy yl=>?_⟩;obtain⟨xy,my,d,ed,den⟩:=Y.gi i H' M' y Hy x' m' cd yl hlt;have:items[i]=d:=by
   rw[Zx hlt]at ed;exact Z3 ed
  rw[this]at h';cases eu:unp d with
  |none=>rw[eu]at h';exact h'.elim
  |some us=>
   rw[eu]at h';refine hu.to d y us _ Hy _ den eu λws dw=>?_;have hk:ws.length=k:=by rw[<- dw.length];exact hu.len d us eu
   refine⟨?_,?_,?_⟩
   ·rw[List.drop_left' (by rw[Ze];exact hk)]
   ·rw[Zp,Ze,Ze,hk]
   ·have xx:=x'.trans xy;have sρ:aC K Hy (us.map some++ix.map λi=>(ρ[i]?).getD none) (ws.map some++ix.map λi=>(σ[i]?).getD none):=(aC.fD dw).append ((s.ext (x1.trans xx)).pick ix);refine⟨_,M',_,sρ,my,h',λb M3 H3 h3 x3 m3=>?_⟩;cases b with
    |true=>
     refine bj ⟨_,M3,_,sρ.ext x3,m3,(Zg rfl).mp h3,λz M4 v H4 ⟨hz,h4⟩ x4 m4 e4=>⟨by rw[<- dz.length];exact hz,_,(show items.length-(i+1)<items.length-i by room),rfl,hlt,M4,_,(xx.trans x3).trans x4,m4,(dz.ext (xy.trans (x3.trans x4))).append (.cons e4 .nil),h4⟩⟩
    |false=>exact br ⟨_,(show items.length-(i+1)<items.length-i by room),rfl,hlt,M3,zs,xx.trans x3,m3,dz.ext (xy.trans x3),(Zd Z0).mp h3⟩
 ·left;have hd:items.drop i=[]:=drop_eq_nil_of_le (le_of_not_lt hlt);rw[hd]at h';obtain⟨cd,hz,q⟩:=h';exact⟨Y.stop i H' M' x' m' cd (le_of_not_lt hlt),by rw[<- dz.length];exact hz,λa ha=>kk _ _ _ _ (q a (m'.free ha)) ((x1.trans x').trans (Ext.new ha)) (m'.gC ha dz) (.ref a)⟩
section
variable{scope:Scope}{N fn:List Str}{k:Nat}{ix:List Nat}{elt:Expr}{ifs:List Expr}{wi:iG}{unp:D->Option (List D)}{gV:TG}{tc:cO}
noncomputable abbrev fY(X:Cx)(ifs:List Expr)(t:cO):Prop:=iC X ifs (lT X.K t)
def zaW:cO:=λ_ M Q=>Q true M
theorem Q8p:fY X [] zaW:=λpins s σ H Q I ⟨ρ,M,R,sm,m,h,k⟩=>Q7X pins s σ H Q I (k true M H h (Ext.refl H) m)
theorem Q2L(h:DT X c tc):fY X [c] tc:=Q7Y h
theorem QaF(tp:Top X){R0:XC->Hp->Prop}(hx0:dR X λcls _ H=>R0 cls H)(hu:kG X.K k unp gV)(hc:X.calm=true)(ok:iS X.env.scope scope N k fn)(hix:ix.map (λi=>X.N[i]?)=fn.map some)(hi:DI X tg iter wi)
  (hg:∀cl C s₀ H₀ ex E,PG (bg X scope N cl C s₀ H₀ ex E) tg gV) (ht:∀cl C s₀ H₀ ex E,dR (bg X scope N cl C s₀ H₀ ex E) (λcls _ H=>R0 cls H)->fY (bg X scope N cl C s₀ H₀ ex E) ifs tc) (he:∀cl C s₀ H₀ ex E,dR (bg X scope N cl C s₀ H₀ ex E) (λcls _ H=>R0 cls H)->DE (bg X scope N cl C s₀ H₀ ex E) elt te)
  (hs:∀x,foldedSetIterable iter X.env x=pure x:=by intro _;rfl):DE X (.ListComp elt [⟨tg,iter,ifs,0⟩] scope pos) (zbA wi ix unp tc te):=
 (Q4C tp hx0 hc ok hix hi hg ht he hs).imp λ_ _ _ h=>Q4H hu h
theorem Q5F(tp:Top X){R0:XC->Hp->Prop}(hx0:dR X λcls _ H=>R0 cls H)(hsw:swapsWith (.ListComp elt [⟨tg,iter,ifs,0⟩] scope pos) (some (.Name x pos')) spos.line X.env=pure true)
  (hN:X.N.Nodup) (hiN:X.N[i]?=some x) (hx:X.env.scope.names.lookup x=some .local) (hu:kG X.K k unp gV) (hc:X.calm=true) (ok:iS X.env.scope scope N k fn) (hix:ix.map (λi=>X.N[i]?)=fn.map some) (hi:DI X tg iter wi)
  (hg:∀cl C s₀ H₀ ex E,PG (bg X scope N cl C s₀ H₀ ex E) tg gV) (ht:∀cl C s₀ H₀ ex E,dR (bg X scope N cl C s₀ H₀ ex E) (λcls _ H=>R0 cls H)->fY (bg X scope N cl C s₀ H₀ ex E) ifs tc) (he:∀cl C s₀ H₀ ex E,dR (bg X scope N cl C s₀ H₀ ex E) (λcls _ H=>R0 cls H)->DE (bg X scope N cl C s₀ H₀ ex E) elt te)
  (hs:∀x,foldedSetIterable iter X.env x=pure x:=by intro _;rfl):DS X (.Assign [.Name x pos'] (.ListComp elt [⟨tg,iter,ifs,0⟩] scope pos) spos) (dAsg (zbA wi ix unp tc te) (zb1 i)):=
 (Q1W tp hx0 hsw hN hiN hx hc ok hix hi hg ht he hs).imp λD σ H h=>QaE (λ_ _ _ q=>Q4H hu q) (λv σ H Q ⟨d,ρ,M,R,e,s,m,h,k⟩=>k _ M _ H h (Ext.refl H) (s.set e i) m) h
end
theorem aM.tup{a:Addr}{ds:List D}{vs:List V}{H:Hp}{Cd:DH->Prop}(q:eQ K H a vs)(r:ai K H ds vs):aM K (Itt K a) ds Cd H where
 go:=λi H' M x m c hi=>by
  have hi':i<vs.length:=by rw[<- r.length];exact hi
  exact⟨vs,vs[i],eQ.ext x q,Zx hi'⟩
 gi:=λi H' M y H'' x m c ⟨e,h⟩ hi=>by
  subst e;obtain⟨d,e1,e2⟩:=r.get' (h vs (eQ.ext x q));exact⟨Ext.refl _,m,d,e1,e2.ext x⟩
 stop:=λi H' M x m c hi=>⟨vs,eQ.ext x q,by rw[<- r.length];exact hi⟩
theorem aM.fz{a:Addr}{ds:List D}{vs:List V}{H:Hp}{Cd:DH->Prop}(q:ia K H a vs)(r:ai K H ds vs):aM K (Itl K a) ds Cd H where
 go:=λi H' M x m c hi=>by
  have hi':i<vs.length:=by rw[<- r.length];exact hi
  exact⟨vs,vs[i],(ia.ext x q).sq,Zx hi'⟩
 gi:=λi H' M y H'' x m c ⟨e,h⟩ hi=>by
  subst e;obtain⟨d,e1,e2⟩:=r.get' (h vs (ia.ext x q).sq);exact⟨Ext.refl _,m,d,e1,e2.ext x⟩
 stop:=λi H' M x m c hi=>⟨vs,(ia.ext x q).sq,by rw[<- r.length];exact hi⟩
theorem aM.mut{a:Addr}{ds:List D}{H:Hp}:aM K (Itl K a) ds (λM=>M a=some (.lst ds)) H where
 go:=λi H' M x m c hi=>by
  obtain⟨vs,e,r⟩:=m.get c;have hi':i<vs.length:=by rw[<- r.length];exact hi
  exact⟨vs,vs[i],.of e,Zx hi'⟩
 gi:=λi H' M y H'' x m c ⟨e,h⟩ hi=>by
  subst e;obtain⟨vs,e,r⟩:=m.get c;obtain⟨d,e1,e2⟩:=r.get' (h vs (.of e));exact⟨Ext.refl _,m,d,e1,e2⟩
 stop:=λi H' M x m c hi=>by
  obtain⟨vs,e,r⟩:=m.get c;exact⟨vs,.of e,by rw[<- r.length];exact hi⟩
noncomputable def c5(lo:Int)(n:Nat):List D:=(List.range n).map λ(i:Nat)=>D.int (lo+(i:Int))
theorem aM.pU{lo:Int}{n:Nat}{H:Hp}{Cd:DH->Prop}:aM K (Itr lo n) (c5 lo n) Cd H where
 go:=λi H' M x m c hi=>by
  show i<n;simpa[c5]using hi
 gi:=λi H' M y H'' x m c ⟨e,h⟩ hi=>by
  subst e h;have hi':i<n:=by simpa[c5]using hi
  exact⟨Ext.refl _,m,.int (lo+i),by simp[c5,hi'],.int _⟩
 stop:=λi H' M x m c hi=>by
  have:(c5 lo n).length=n:=by simp[c5]
  rw[this]at hi;exact hi
def zbh(ta:d7):iG:=λρ M R=>ta ρ M λds M1=>match ds with
 |[.int j]=>-(2 ^ 62)<=j/\j<2 ^ 62/\R (c5 0 j.toNat) (λ_=>True) M1
 |_=>False
theorem Q6H(hg:Gl X "range")(hm:X.mg "range" = none)(ha:DA X [a] tr)(hs:starEach [a] X.env=[(false,eval a X.env)]:=by rfl):DI X tg (.Call (.Name "range" p) [a] [] pos) (zbh tr):=
 (Q6e hg hm ha hs).imp λσ H R ⟨ρ,M,RD,s,m,h,k⟩=>⟨ρ,M,_,s,m,h,λds M1 vs H1 h1 x1 m1 e1=>by
  unfold zbh at h;cases e1 with
  |nil=>exact h1.elim
  |cons d1 e2=>
   cases e2 with
   |cons d2 e3=>cases d1<;>exact h1.elim
   |nil=>
    cases d1 with
    |int j=>exact⟨j,rfl,h1.1,h1.2.1,k _ _ M1 H1 _ h1.2.2 x1 m1 aM.pU⟩
    |_=>exact h1.elim⟩
end
noncomputable def za2(N:List Str)(ds:List D):bL:=ds.map some++List.replicate (N.length-ds.length) none
def kn(n:Nat):aU:=λds M R=>match ds with
 |[.lst ds]=>∃ns:List Int,ds=ns.map D.int/\ns.length<=n/\R (.bl true) M
 |_=>False
theorem Q3q{K:Frag}{H:Hp}:∀ns:List Int,ai K H (ns.map D.int) (ns.map V.int)
 |[]=>.nil
 |n::r=>.cons (.int n) (Q3q r)
theorem Qcw{K:Frag}{H:Hp}{a:Addr}{ns:List Int}{n:Nat}(hl:ns.length<=n)(hO:kO H)(hS:cB K H a (ns.map V.int)):di K (kn n) [.ref a] H (λv _=>v=.bl true) λ_ _ _=>False:=by
 refine⟨[.lst (ns.map D.int)],λ_=>none,λd _=>d=.bl true,.cons (.lst ?_ (Q3q ns)) .nil,(λb o e=>nomatch e),⟨ns,rfl,hl,rfl⟩,λd M v H' q _ _ e=>?_⟩
 ·rcases hS with (h|⟨o,h⟩)|h
  ·rcases hO a with z|⟨o,xs,z⟩
   ·rw[h]at z;cases z
   ·rw[h]at z;cases z
  ·exact .inl ⟨o,h⟩
  ·exact .inr h
 ·have q':d=.bl true:=q;subst q';cases e;rfl
section
variable{X:Cx}{a b c e:Expr}{es:List Expr}{ta tb te:aB}{tt tu:cO}{pos:Pos}{K:Frag}
noncomputable abbrev dk(x:List Nat):Prop:=(x.all λc=>decide (c<1114112))=true
theorem dk.app(h:dk x)(h':dk y):dk (x++y):=by
 show ((x++y).all _)=true;rw[List.all_append,h,h'];rfl
theorem dk.sub(h:dk x)(hs:∀c∈y,c∈x):dk y:=ZO.mpr λc hc=>(ZO.mp h) c (hs c hc)
theorem Q8q(x y:List Nat):S x++S y=S (x++y):=by
 show Str.append (S x) (S y)=S (x++y);unfold Str.append S;simp
theorem nS(x:List Nat):(S x).length=x.length:=by unfold S Str.length;simp
theorem jy(h:S x=S y):x=y:=by
 unfold S at h;have:=congrArg (λz:Str=>z.cps.toList) h;simpa using this
theorem Q2M(x:List Nat):(S x).cps.toList=x:=by unfold S;simp
def rI2(C:Int->Int->Prop)(g:Int->Int->Int):fL:=λx y M Q=>match x,y with
 |.int i,.int j=>C i j/\Q (.int (g i j)) M
 |_,_=>False
theorem mY{f:Value->Value->Sem Value}{C:Int->Int->Prop}{g:Int->Int->Int}(h:fK X f (rI C λi j=>.int (g i j))):dA X f (rI2 C g):=by
 rintro pins s σ H x y v u Q I rx ry ⟨dx,dy,M,R,ex,ey,m,q,k⟩;cases ex<;>cases ey<;>first|exact False.elim q|skip
 exact h pins s σ H _ _ v u Q I rx ry ⟨_,_,rfl,rfl,q.1,k _ M _ H q.2 (Ext.refl H) m (.int _)⟩
theorem Qcx:dA X (binaryOp .Mult) (rI2 iH λi j=>i * j):=mY Qc2
theorem QaG:dA X (binaryOp .FloorDiv) (rI2 n9 λi j=>i / j):=mY Qa8
theorem Qcy:dA X (binaryOp .Mod) (rI2 (λ_ j=>0<j) λi j=>i % j):=mY Qc3
def rAddD:fL:=λx y M Q=>match x,y with
 |.int i,.int j=>Q (.int (i+j)) M
 |.str a,.str b=>a.length+b.length<=sizeLine/\Q (.str (a++b)) M
 |.tup xs,.tup ys=>xs.length+ys.length<=sizeLine/\Q (.tup (xs++ys)) M
 |_,_=>False
theorem QaH{s:Shared}{A:Around}{prog:Program}{w:World}{E:Value->Shared->Prop}{t b:Addr}{vs ws:List Value}{Q:Value->Shared->Prop}(ht:IsTup s.heap t vs.toArray)(hb:IsTup s.heap b ws.toArray)
  (h0:vs=[]->Q (.ref b) s) (h1:ws=[]->Q (.ref t) s) (h2:Q (.ref s.heap.objs.size) {s with heap:=s.heap.push { cls:=.type "tuple",data:=.seq (vs++ws).toArray}})
  (hsz:vs.length+ws.length<=sizeLine):wpAny (model prog w) A (binaryOp .Add (.ref t) (.ref b)) Q E s:=by
 obtain⟨⟨cls,dd,data,sl⟩,ho,hc,n,hd⟩:=id ht;obtain⟨⟨cls2,dd2,data2,sl2⟩,ho2,hc2,n2,hd2⟩:=id hb;simp only at hc hd hc2 hd2;subst hc hd hc2 hd2;have e:vs.toArray++ws.toArray=(vs++ws).toArray:=by simp
 by_cases hv:vs=[]
 ·exact concat_meets ⟨_,ho,rfl⟩ ⟨_,ho2,rfl⟩ noFill_tuple_add seq_tuple_add slot_tuple_add entry_tuple_add (args_tuple_add_2 _ _)
   (tuple_addW0 t b vs.toArray ws.toArray n n2 dd dd2 sl sl2 (by simp[hv])) ⟨ho,ho2,h0 hv⟩
 ·by_cases hw:ws=[]
  ·exact concat_meets ⟨_,ho,rfl⟩ ⟨_,ho2,rfl⟩ noFill_tuple_add seq_tuple_add slot_tuple_add entry_tuple_add (args_tuple_add_2 _ _)
    (tuple_addW1 t b vs.toArray ws.toArray n n2 dd dd2 sl sl2 (by simpa using hv) (by simp[hw])) ⟨ho,ho2,h1 hw⟩
  ·refine concat_meets ⟨_,ho,rfl⟩ ⟨_,ho2,rfl⟩ noFill_tuple_add seq_tuple_add slot_tuple_add entry_tuple_add (args_tuple_add_2 _ _)
    (tuple_addW2 t b vs.toArray ws.toArray n n2 dd dd2 sl sl2 (by simpa using hv) (by simpa using hw) (by rw[Z2,Z2];exact hsz)) ⟨ho,ho2,?_⟩
   rw[e];exact h2
theorem Qcz:dA X (binaryOp .Add) rAddD:=by
 rintro pins s σ H x y v u Q I rx ry ⟨dx,dy,M,R,ex,ey,m,q,k⟩;cases ex with
 | int i=>cases ey<;>first|exact False.elim q|skip
          exact Qc1 pins s σ H _ _ v u Q I rx ry ⟨_,_,rfl,rfl,k _ M _ H q (Ext.refl H) m (.int _)⟩
 | str i hi=>cases ey<;>first|exact False.elim q|skip
             rename_i j hj;exact Q5u pins s σ H _ _ v u Q I rx ry ⟨_,_,rfl,rfl,by rw[nS,nS];exact q.1,k _ M _ H q.2 (Ext.refl H) m (by rw[Q8q];exact .str _ (dk.app hi hj))⟩
 | tup qx dx=>cases ey<;>first|exact False.elim q|skip
              rename_i ds vs b es ws qy dy;cases rx;cases ry;obtain⟨its,r1,p1,z1⟩:=I.tuple (.of qx);obtain⟨jts,r2,p2,z2⟩:=I.tuple (.of qy);have l1:=dx.length;have l2:=dy.length;have l3:=r1.length;have l4:=r2.length;refine QaH p1 p2 (λe=>?_) (λe=>?_) ?_ (by rw[<- l3,<- l4,<- l1,<- l2];exact q.1)
              ·subst e;cases r1;cases dx;exact⟨.ref b,H,I,rfl,k _ M _ H q.2 (Ext.refl H) m (.tup qy dy)⟩
              ·subst e;cases r2;cases dy;refine⟨.ref _,H,I,rfl,k _ M _ H q.2 (Ext.refl H) m ?_⟩;rw[append_nil];exact .tup qx dx
              ·have hn:=I.fresh;refine⟨.ref s.heap.objs.size,_,I.laid (t':=s.toks) (o:=.tup (vs++ws)) (λb ob q=>Zi _ q) (Zy _) ⟨?_,_,r1.append r2,IsTup.new _ _⟩,rfl,k _ M _ _ q.2 (Ext.new hn) (m.new hn) (.tup b9 ((dx.append dy).ext (Ext.new hn)))⟩;rw[Zp,<- l1,<- l2];exact q.1
 |_=>exact False.elim q
mutual
noncomputable def toPy:D->PyData
 |.non=>.none
 |.bl b=>.bool b
 |.int i=>.int i
 |.str x=>.str (S x)
 |.tup xs=>.tuple (ig xs)
 |.lst xs=>.list (ig xs)
 |.ref _=>.none
noncomputable def ig:List D->List PyData
 |[]=>[]
 |x::r=>toPy x::ig r
end
noncomputable def plain:Nat->D->Bool
 |_,.non=>true
 |_,.int _=>true
 |_,.str _=>true
 |n+1,.tup xs=>xs.all (plain n)
 |n+1,.lst xs=>xs.all (plain n)
 |_,_=>false
theorem Q1Y:∀(n:Nat) (d:D) (v:V),plain n d=true->Den K H d v->(toPy d).canLay0=true/\(toPy d).depth<=n:=by
 have all:∀(n:Nat),(∀d v,plain n d=true->Den K H d v->(toPy d).canLay0=true/\(toPy d).depth<=n)->∀(ds:List D) (vs:List V),ds.all (plain n)=true->ai K H ds vs->PyData.canLayAll0 (ig ds)=true/\PyData.depthAll (ig ds)<=n:=by
  intro n ih ds
  induction ds with
  |nil=>intro vs _ _;simp[ig,PyData.canLayAll0,PyData.depthAll]
  |cons d ds hi=>
   intro vs h r;cases r with
   |cons r1 r2=>
    rw[ZC,Zj]at h;have h1:=ih d _ h.1 r1;have h2:=hi _ h.2 r2;erw[ig,PyData.canLayAll0,PyData.depthAll,h1.1,h2.1,Bool.and_self,true_and];have a1:=h1.2;have a2:=h2.2;room
 intro n
 induction n with
 |zero=>
  intro d v h r;cases r with
  |str x hx=>simp[toPy,PyData.canLay0,PyData.depth,PyData.strOk,S];simpa using hx
  |_=>simp_all [plain,toPy,PyData.canLay0,PyData.depth]
 |succ n ih=>
  intro d v h r;cases r with
  |str x hx=>simp[toPy,PyData.canLay0,PyData.depth,PyData.strOk,S];simpa using hx
  |tup q r=>
   have q:=all n ih _ _ (by simpa[plain]using h) r
   have q2:=q.2;erw[toPy,PyData.canLay0,PyData.depth,q.1,true_and];room
  |lst q r=>
   have q:=all n ih _ _ (by simpa[plain]using h) r
   have q2:=q.2;erw[toPy,PyData.canLay0,PyData.depth,q.1,true_and];room
  |_=>simp_all [plain,toPy,PyData.canLay0,PyData.depth]
theorem Q6I:∀(n:Nat) (d e:D) (k:Nat),plain n d=true->plain k e=true->(PyData.eqv (toPy d) (toPy e)=true <-> d=e):=by
 have all:∀(n:Nat),(∀d e k,plain n d=true->plain k e=true->(PyData.eqv (toPy d) (toPy e)=true <-> d=e))->∀(k:Nat) (ds es:List D),ds.all (plain n)=true->es.all (plain k)=true ->
   (PyData.eqvAll (ig ds) (ig es)=true <-> ds=es):=by
  intro n ih k ds
  induction ds with
  |nil=>intro es _ _;cases es<;>simp[ig,PyData.eqvAll]
  |cons d ds hi=>
   intro es h1 h2;cases es with
   |nil=>simp[ig,PyData.eqvAll]
   |cons e es=>
    rw[ZC,Zj]at h1 h2;have q1:=ih d e k h1.1 h2.1;have q2:=hi es h1.2 h2.2;erw[ig,PyData.eqvAll,Zj,q1,q2,List.cons.injEq]
 have st:∀x y:List Nat,(S x==S y)=true <-> x=y:=λx y=>⟨λh=>jy (by simpa using h),λh=>by simp[h]⟩
 intro n
 induction n with
 |zero=>
  intro d e k h1 h2;cases d<;>cases e<;>cases k<;>simp_all [plain,toPy,PyData.eqv]
 |succ n ih=>
  intro d e k h1 h2;cases d with
  |tup ds=>
   cases e with
   |tup es=>
    cases k with
    |zero=>simp[plain]at h2
    |succ k=>
     erw[toPy,PyData.eqv,D.tup.injEq];exact all n ih k ds es (by simpa[plain]using h1) (by simpa[plain]using h2)
   |_=>clear ih all;cases k<;>simp_all [plain,toPy,PyData.eqv]
  |lst ds=>
   cases e with
   |lst es=>
    cases k with
    |zero=>simp[plain]at h2
    |succ k=>
     erw[toPy,PyData.eqv,D.lst.injEq];exact all n ih k ds es (by simpa[plain]using h1) (by simpa[plain]using h2)
   |_=>clear ih all;cases k<;>simp_all [plain,toPy,PyData.eqv]
  |non=>clear ih all;cases e<;>cases k<;>simp_all [plain,toPy,PyData.eqv]
  |bl b=>simp[plain]at h1
  |int i=>clear ih all;cases e<;>cases k<;>simp_all [plain,toPy,PyData.eqv]
  |str x=>clear ih all;cases e<;>cases k<;>simp_all [plain,toPy,PyData.eqv]
  |ref a=>simp[plain]at h1
theorem Q0U(I:Inv X pins σ H s):∀(n:Nat) (d:D) (v:V) (u:Value),plain n d=true->Den X.K H d v->L2.RelV v u->∃as,Reads s.heap u (toPy d) as:=by
 have all:∀(n:Nat),(∀d v u,plain n d=true->Den X.K H d v->L2.RelV v u->∃as,Reads s.heap u (toPy d) as)->∀(ds:List D) (vs:List V) (us:List Value),ds.all (plain n)=true->ai X.K H ds vs->Vals vs us->∃as,ReadsAll s.heap us (ig ds) as:=by
  intro n ih ds
  induction ds with
  |nil=>intro vs us _ r q;cases r;cases q;exact⟨_,.nil⟩
  |cons d ds hi=>
   intro vs us h r q;rw[ZC,Zj]at h;cases r with
   |cons r1 r2=>
    cases q with
    |cons q1 q2=>
     obtain⟨as,h1⟩:=ih d _ _ h.1 r1 q1;obtain⟨bs,h2⟩:=hi _ _ h.2 r2 q2;exact⟨_,.cons h1 h2⟩
 have base:∀n d v u,plain n d=true->Den X.K H d v->L2.RelV v u->(∀ds,d≠.tup ds)->(∀ds,d≠.lst ds)->∃as,Reads s.heap u (toPy d) as:=by
  intro n d v u h r q n1 n2;cases r with
  |non=>cases q;exact⟨_,.none⟩
  |bl b=>cases q;exact⟨_,.bool b⟩
  |int i=>obtain⟨t,rfl⟩:=q;exact⟨_,.int i t⟩
  |str x hx=>obtain⟨t,rfl⟩:=q;exact⟨_,.str _ t⟩
  |tup _ _=>exact absurd rfl (n1 _)
  |lst _ _=>exact absurd rfl (n2 _)
  |ref a=>cases n<;>simp[plain]at h
 intro n
 induction n with
 |zero=>
  intro d v u h r q;exact base 0 d v u h r q (λds e=>by subst e;simp[plain]at h) (λds e=>by subst e;simp[plain]at h)
 |succ n ih=>
  intro d v u h r q;cases r with
  |tup sq r=>
   obtain⟨its,rv,⟨o,ho,hc,k,hd⟩,z⟩:=I.tuple (.of sq);cases q;obtain⟨as,ra⟩:=all n ih _ _ _ (by simpa[plain]using h) r rv
   exact⟨_,.tuple ho hc hd (by simpa using ra)⟩
  |lst sq r=>
   obtain⟨its,rv,⟨o,k,ho,hc,hdd,hd⟩,z⟩:=I.list sq.sq;cases q;obtain⟨as,ra⟩:=all n ih _ _ _ (by simpa[plain]using h) r rv
   exact⟨_,.list ho hc hd (by simpa using ra)⟩
  |non=>exact base _ _ _ _ h .non q (λds e=>nomatch e) (λds e=>nomatch e)
  |bl b=>exact base _ _ _ _ h (.bl b) q (λds e=>nomatch e) (λds e=>nomatch e)
  |int i=>exact base _ _ _ _ h (.int i) q (λds e=>nomatch e) (λds e=>nomatch e)
  |str x hx=>exact base _ _ _ _ h (.str x hx) q (λds e=>nomatch e) (λds e=>nomatch e)
  |ref a=>simp[plain]at h
noncomputable def res(M:DH):D->D
 |.ref a=>match M a with
  |some (.lst ds)=>.lst ds
  |_=>.ref a
 |d=>d
open Classical in
noncomputable def eqB(x y:D):Bool:=decide (x=y)
open Classical in
theorem gI(x y:D):eqB x y=true <-> x=y:=by unfold eqB;exact decide_eq_true_iff
open Classical in
theorem nP(x y:D):eqB x y=false <-> ¬ x=y:=by unfold eqB;exact decide_eq_false_iff_not
theorem Q6J(x y:List Nat):eqB (.str x) (.str y)=decide (x=y):=by
 by_cases h:x=y
 ·rw[Z7 h,(gI _ _).mpr (by rw[h])]
 ·rw[Zt h,(nP _ _).mpr (λe=>h (D.str.inj e))]
theorem hX(x:D):eqB x x=true:=(gI x x).mpr rfl
def rEqN(f:Bool->Bool):fL:=λx y M Q=>match x,y with
 |.bl a,.bl b=>Q (.bl (f (a==b))) M
 |x,y=>plain 12 (res M x)=true/\plain 12 (res M y)=true/\Q (.bl (f (eqB (res M x) (res M y)))) M
theorem Q1Z(I:Inv X pins σ H s)(m:ar X.K M H)(h:plain n (res M d)=true)(e:Den X.K H d v)(r:L2.RelV v u) :
  (∃as,Reads s.heap u (toPy (res M d)) as)/\(toPy (res M d)).canLay0=true/\(toPy (res M d)).depth<=n:=by
 by_cases hr:∃a,d=.ref a
 ·obtain⟨a,rfl⟩:=hr;cases e;cases q:M a with
  |none=>erw[res,q]at h;cases n<;>simp[plain]at h
  |some o=>
   cases o with
   |ah _=>erw[res,q]at h;cases n<;>simp[plain]at h
   |lst ds=>
    erw[res,q]at h ⊢;cases n with
    |zero=>simp[plain]at h
    |succ n=>
     obtain⟨vs,e1,e2⟩:=m.get q
     -- as if it were finished
     obtain⟨o,I2⟩:=I.frozen e1;have x:=Ext.lst (o:=.frz o (.lst vs)) e1;have den:Den X.K (upd H a (.frz o (.lst vs))) (.lst ds) (.ref a):=.lst (.inl ⟨o,b9⟩) (e2.ext x);exact⟨Q0U I2 _ _ _ _ h den r,Q1Y _ _ _ h den⟩
 ·have e2:res M d=d:=by cases d<;>first|rfl|exact absurd ⟨_,rfl⟩ hr
  rw[e2]at h ⊢;exact⟨Q0U I _ _ _ _ h e r,Q1Y _ _ _ h e⟩
theorem bEq(x y:D)(n k:Nat)(h1:plain n x=true)(h2:plain k y=true):PyData.eqv (toPy x) (toPy y)=eqB x y:=by
 have h:=Q6I n x y k h1 h2;cases q:eqB x y with
 |true=>exact h.mpr ((gI x y).mp q)
 |false=>
  cases q2:PyData.eqv (toPy x) (toPy y) with
  |false=>rfl
  |true=>exact absurd (h.mp q2) ((nP x y).mp q)
theorem Q9G{f:Bool->Bool}(hu:X.A.units+64<cLine)
  (r1:∀{a b:Value}{da db:PyData}{as bs:List Addr}{Q:Value->Shared->Prop}{s:Shared}(ra:Reads s.heap a da as) (rb:Reads s.heap b db bs) (ha:SeqAt.shaped da=true) (hb:SeqAt.shaped db=true),Q (.bool (f (PyData.eqv da db))) s->wpAny (model X.prog X.w) X.A (compareOp op a b) Q X.xe s):dA X (compareOp op) (rEqN f):=by
 rintro pins s σ H x y v u Q I rx ry ⟨dx,dy,M,R,ex,ey,m,q,k⟩;by_cases hb:(∃a,dx=.bl a)/\∃b,dy=.bl b
 ·obtain⟨⟨a,rfl⟩,⟨b,rfl⟩⟩:=hb;cases ex;cases ey;cases rx;cases ry;refine r1 (Reads.bool a) (Reads.bool b) rfl rfl ⟨.bl (f (a==b)),H,I,?_,k _ M _ H q (Ext.refl H) m (.bl _)⟩;simp[PyData.eqv,L2.RelV]
 ·have q':plain 12 (res M dx)=true/\plain 12 (res M dy)=true/\R (.bl (f (eqB (res M dx) (res M dy)))) M:=by
   unfold rEqN at q;split at q
   ·exact absurd ⟨⟨_,rfl⟩,⟨_,rfl⟩⟩ hb
   ·exact q
  obtain⟨h1,h2,q⟩:=q';obtain⟨⟨as,ra⟩,c1,d1⟩:=Q1Z I m h1 ex rx;obtain⟨⟨bs,rb⟩,c2,d2⟩:=Q1Z I m h2 ey ry;have sh:∀d:PyData,d.canLay0=true->d.depth<=12->SeqAt.shaped d=true:=λd h1 h2=>by
   unfold SeqAt.shaped;rw[h1,Yr];exact Z7 (by room)
  refine r1 ra rb (sh _ c1 d1) (sh _ c2 d2) ?_;rw[bEq _ _ _ _ h1 h2];exact⟨.bl _,H,I,rfl,k _ M _ H q (Ext.refl H) m (.bl _)⟩
theorem qE(hu:X.A.units+64<cLine):dA X (compareOp .Eq) (rEqN id):=Q9G hu λra rb ha hb h=>SeqAt.compareEq_shaped ra rb ha hb hu h
theorem qA(hu:X.A.units+64<cLine):dA X (compareOp .NotEq) (rEqN not):=Q9G hu λra rb ha hb h=>SeqAt.compareNe_shaped ra rb ha hb hu h
end
noncomputable def cut{α:Type}(xs:List α)(lo hi:Option Int):List α:=(xs.drop (HT.aT xs.length 0 lo)).take (HT.aT xs.length xs.length hi-HT.aT xs.length 0 lo)
theorem QaI{α:Type}{xs:List α}{lo hi:Option Int}{c:α}(h:c∈cut xs lo hi):c∈xs:=List.mem_of_mem_drop (List.mem_of_mem_take h)
theorem QaJ{α:Type}(xs:List α)(lo hi:Option Int):(cut xs lo hi).length<=xs.length:=by
 unfold cut;rw[ZD,length_drop];room
theorem Q5G{α:Type}(xs:List α)(i:Nat):∀k:Nat,((List.range k).map λm=>i+m).filterMap (λj=>xs[j]?)=(xs.drop i).take k:=by
 intro k
 induction k with
 |zero=>simp
 |succ k ih=>
  rw[List.range_succ,ZA,List.filterMap_append,ih];erw[Zu,map_nil,filterMap_cons,List.filterMap_nil];rw[List.take_succ,List.getElem?_drop];cases xs[i+k]?<;>simp
theorem i9(lo hi:Option Int)(n:Nat):Builtin.Str.strSliceIndices lo hi 1 n=(List.range (HT.aT n n hi-HT.aT n 0 lo)).map λm=>HT.aT n 0 lo+m:=by
 have h1:(1:Int) > 0:=by decide
 have cl:∀(v:Int) (d:Nat),max 0 (min (if v<0 then v+(n:Int) else v) (n:Int))=((HT.aT n d (some v):Nat):Int):=λv d=>by
  show _=((if v<0 then (v+(n:Int)).toNat else min v.toNat n:Nat):Int)
  split<;>room
 have key:∀I J:Nat,sliceRange (I:Int) (J:Int) 1=(List.range (J-I)).map λm=>I+m:=λI J=>by
  unfold sliceRange;have hc:(if (1:Int) > 0 then (if (I:Int)<(J:Int) then ((J:Int)-(I:Int)+1-1) / 1 else 0) else (if (I:Int) > (J:Int) then ((I:Int)-(J:Int)-1-1) / (-1) else 0))=((J-I:Nat):Int):=by
   rw[Zg h1];split<;>room
  erw[hc,Int.toNat_natCast];refine Ym λk _=>?_;room
 unfold Builtin.Str.strSliceIndices;erw[h1,if_true];cases lo with
 |none=>
  cases hi with
  |none=>exact key 0 n
  |some j=>exact (congrArg (λz=>sliceRange 0 z 1) (cl j n)).trans (key 0 _)
 |some i=>
  cases hi with
  |none=>exact (congrArg (λz=>sliceRange z n 1) (cl i 0)).trans (key _ n)
  |some j=>exact (congr (congrArg (λz y=>sliceRange z y 1) (cl i 0)) (cl j n)).trans (key _ _)
theorem QaK(x:List Nat)(lo hi:Option Int):Txt.slice (S x) lo hi=S (cut x lo hi):=by
 unfold Txt.slice;rw[nS,i9];split
 ·rename_i h;have h':HT.aT x.length x.length hi-HT.aT x.length 0 lo=x.length:=by simpa using h
  have h2:HT.aT x.length x.length hi<=x.length:=HT.gA _ _ (Zy _) hi;unfold cut;have h3:HT.aT x.length 0 lo=0:=by
   by_cases hx:x.length=0
   ·have:=HT.gA x.length 0 (Z8 _) lo;room
   ·room
  rw[h',h3,drop_zero,Yh]
 ·unfold cut S;rw[<- Q5G];simp
section
variable{X:Cx}{a b c e:Expr}{es:List Expr}{ta tb te:aB}{tt tu:cO}{pos p2:Pos}{K:Frag}
noncomputable abbrev mw:=bL->DH->(Option Int->DH->Prop)->Prop
def lO(K:Frag)(t:mw):TO:=λσ H Q=>∃ρ M R,aC K H ρ σ/\ar K M H/\t ρ M R/\∀o M' H',R o M'->Ext H H'->ar K M' H'->Q o H'
noncomputable abbrev DO(X:Cx)(e:Option Expr)(t:mw):Prop:=PO X e (lO X.K t)
theorem PO.imp{e:Option Expr}{T T':TO}(h:PO X e T)(i:∀σ H Q,T' σ H Q->T σ H Q):PO X e T':=λpins s σ H Q I q=>h pins s σ H Q I (i σ H Q q)
def zbH:mw:=λ_ M Q=>Q none M
def zbU(t:aB):mw:=λρ M Q=>t ρ M λx M1=>match x with
 |.int i=>Q (some i) M1
 |_=>False
theorem QaL:DO X none zbH:=PO.imp Qah λσ H Q ⟨ρ,M,R,s,m,h,k⟩=>k none M H h (Ext.refl H) m
theorem Q4g(h:DE X e te):DO X (some e) (zbU te):=PO.imp (Qai h) λσ H Q ⟨ρ,M,R,s,m,h,k⟩=>⟨ρ,M,_,s,m,h,λd M1 v H1 h1 x1 m1 e1=>by
 cases e1<;>first|exact False.elim h1|exact⟨_,rfl,k _ M1 H1 h1 x1 m1⟩⟩
def rSlD:D->Option Int->Option Int->DH->DK->Prop:=λx lo hi M Q=>match x with
 |.str z=>z.length<=sizeLine/\Q (.str (cut z lo hi)) M
 |.tup xs=>Q (.tup (cut xs lo hi)) M
 |.lst xs=>∀p,M p=none->Q (.ref p) (ae M p (.lst (cut xs lo hi)))
 |.ref a=>match M a with
  |some (.lst xs)=>∀p,M p=none->Q (.ref p) (ae M p (.lst (cut xs lo hi)))
  |_=>False
 |_=>False
def lSl(K:Frag)(r:D->Option Int->Option Int->DH->DK->Prop):V->Option Int->Option Int->Hp->VK->Prop:=λx lo hi H Q=>∃d M R,Den K H d x/\ar K M H/\r d lo hi M R/\iR K H R Q
theorem ai.cut(h:ai K H ds vs)(lo hi:Option Int):ai K H (DL.cut ds lo hi) (fU vs lo hi):=by
 unfold DL.cut fU;rw[h.length];exact (h.drop _).take _
theorem Q6K{prog:Program}{w:World}{A:Around}{E:Value->Shared->Prop}{s:Shared}{t sl:Addr}{items:Array Value}{vl vu:Value}{lo hi:Option Int}{Q:Value->Shared->Prop}(ht:IsTup s.heap t items)(hs:s.heap.IsSliceOf sl vl vu .none)(pl:IsPart vl lo)(pu:IsPart vu hi)
  (hw:HT.aT items.size 0 lo=0/\HT.aT items.size items.size hi=items.size) (h:Q (.ref t) s):wpAny (model prog w) A (getItem (.ref t) (.ref sl)) Q E s:=by
 obtain⟨os,hos,hcs,hds⟩:=id hs;have hTs:s.TypeIs (.ref sl) "slice":=⟨os,hos,hcs⟩;unfold getItem
 try with_reducible refine ZP ?_
 first|refine Za (Zb ?_)|skip
 refine Za (wpAny_sequenceKey ht.typeIs (by decide) ?_)
 refine Za (wpAny_callSpecial?_slot (name:=Str.ofString "__getitem__") ht.typeIs Yc
  (wpAny_call_entry Yc ht.typeIs entry_tuple_getitem ?_ (args_tuple_getitem _ _)))
 show wpAny _ _ (Builtin.Tuple.tupleItemsOf (.ref t) >>= _) _ _ s;refine Za (tupleItemsOf_ ht ?_);refine Za (wpAny_typeOf hTs ?_);rw[Zg (by decide)]
 refine Za (HT.bV hs pl pu ?_);have hyes:((((HT.aT items.size 0 lo:Nat):Int)==0&&(1:Int)==1&&(HT.aT items.size items.size hi-HT.aT items.size 0 lo)==items.size)=true):=by
  rw[hw.1,hw.2];simp
 show wpAny _ _ (if (((HT.aT items.size 0 lo:Nat):Int)==0&&(1:Int)==1&&(HT.aT items.size items.size hi-HT.aT items.size 0 lo)==items.size)=true then _ else _) _ _ s
 rw[Zg hyes];unfold Builtin.Tuple.tupleIsExact;refine Za (Za (wpAny_typeOf ht.typeIs (Zb ?_)));rw[Zg (by decide)]
 exact Za (wpAny_rule (Zb ⟨_,rfl,Zb h⟩))
theorem QcA:SlR X (lSl X.K rSlD):=by
 rintro pins s σ H x v vl vu lo hi sl Q I rx hs pl pu ⟨d,M,R,e,m,q,k⟩;have viaL:∀{p:Addr}{ds:List D}{vs:List V},x=.ref p->cB X.K H p vs->ai X.K H ds vs->(∀p,M p=none->R (.ref p) (ae M p (.lst (DL.cut ds lo hi))))->∃T id,typeLookup (.type T) "__getitem__" = pure (some (.builtin id))/\s.TypeIs v T/\wpAny (model X.prog X.w) X.A (getItem v (.ref sl)) (EP X pins σ Q) X.xe s:=by
  intro p ds vs ex sq dn q;subst ex;exact Qal pins s σ H _ v vl vu lo hi sl Q I rx hs pl pu ⟨p,vs,rfl,sq,λp hp=>k _ _ _ _ (q p (m.free hp)) (Ext.new hp) (m.gC hp (ai.cut dn lo hi)) (.ref p)⟩
 cases e with
 |str z hz=>
  obtain⟨t,rfl⟩:=rx;refine⟨"str",_,F.slot_str_getitem.lookup,typeIs_str s _ t,?_⟩;have go:∀(l u:Option (Int×Tok)),l.map (·.1)=lo->u.map (·.1)=hi->s.heap.IsSlice sl l u none->wpAny (model X.prog X.w) X.A (getItem (.str (S z) t) (.ref sl)) (EP X pins σ Q) X.xe s:=by
   intro l u e1 e2 hsl;have es:Txt.slice (S z) lo hi=S (DL.cut z lo hi):=QaK z lo hi;have fin:∀(t':Tok) (tk:Nat),EP X pins σ Q (.str (S (DL.cut z lo hi)) t') {s with toks:=tk}:=λt' tk=>⟨.str (S (DL.cut z lo hi)),H,I.tok tk,⟨t',rfl⟩,k _ M _ H q.2 (Ext.refl H) m (.str _ (dk.sub hz λc hc=>QaI hc))⟩;refine wpAny_getItem_str_slice (l:=l) (u:=u) (st:=none) hsl rfl ?_;unfold sliceMade;unfold Txt.slice at es;unfold slicePicked;rw[e1,e2];erw[Option.map_none,Option.getD_none];by_cases hc:((1:Int)==1&&(Builtin.Str.strSliceIndices lo hi 1 (S z).length).length==(S z).length)=true
   ·rw[Zg hc]at es ⊢;have:=fin t s.toks;rw[<- es]at this;exact this
   ·rw[Zd hc]at es ⊢;rw[es];refine⟨?_,fin _ _⟩;show (S (DL.cut z lo hi)).length<=sizeLine;rw[nS];exact ZF (QaJ z lo hi) q.1
  obtain⟨os,hos,hcs,hds⟩:=hs;cases pl with
  |none=>
   cases pu with
   |none=>exact go none none rfl rfl ⟨os,hos,hcs,hds⟩
   |int j u=>exact go none (some (j,u)) rfl rfl ⟨os,hos,hcs,hds⟩
  |int i t=>
   cases pu with
   |none=>exact go (some (i,t)) none rfl rfl ⟨os,hos,hcs,hds⟩
   |int j u=>exact go (some (i,t)) (some (j,u)) rfl rfl ⟨os,hos,hcs,hds⟩
 |tup sq dn=>
  rename_i p ds vs;cases rx;have hl:=dn.length;by_cases hw:HT.aT vs.length 0 lo=0/\HT.aT vs.length vs.length hi=vs.length
  ·obtain⟨its,r,ht,hz⟩:=I.tuple (.of sq);have hlen:its.toArray.size=vs.length:=by rw[Z2];exact r.length.symm
   refine⟨"tuple",_,Yc.lookup,ht.typeIs,Q6K ht hs pl pu (by rw[hlen];exact hw) ⟨.ref p,H,I,rfl,k _ M _ H q (Ext.refl H) m ?_⟩⟩
   have:DL.cut ds lo hi=ds:=by
    unfold DL.cut;rw[hl,hw.1,hw.2,drop_zero,<- hl,sub_zero,Yh]
   rw[this];exact .tup sq dn
  ·exact Qcb pins s σ H (.ref p) _ vl vu lo hi sl Q I rfl hs pl pu ⟨p,vs,rfl,.of sq,hw,λp hp=>k _ M _ _ q (Ext.new hp) (m.new hp) (.tup b9 ((ai.cut dn lo hi).ext (Ext.new hp)))⟩
 |lst sq dn=>exact viaL rfl sq.sq dn q
 |ref p=>
  cases qa:M p with
  |none=>erw[rSlD,qa]at q
  |some o=>
   cases o with
   |ah _=>erw[rSlD,qa]at q
   |lst ds=>
    erw[rSlD,qa]at q;obtain⟨vs,e2,dn⟩:=m.get qa;exact viaL rfl (.of e2) dn q
 |_=>exact False.elim q
def dSl(te:aB)(tl th:mw):aB:=λρ M Q=>te ρ M λx M1=>tl ρ M1 λl M2=>th ρ M2 λu M3=>rSlD x l u M3 Q
theorem Q8r{lo hi:Option Expr}{tl th:mw}(he:DE X e te)(hl:DO X lo tl)(hh:DO X hi th):DE X (.Subscript e (.Slice lo hi none p2) pos) (dSl te tl th):=
 (Q7U QcA he hl hh).imp λσ H Q ⟨ρ,M,R,s,m,h,k⟩=>⟨ρ,M,_,s,m,h,λd1 M1 v1 H1 h1 x1 m1 e1=>⟨ρ,M1,_,s.ext x1,m1,h1,λl M2 H2 h2 x2 m2=>⟨ρ,M2,_,s.ext (x1.trans x2),m2,h2,λu M3 H3 h3 x3 m3=>
  ⟨d1,M3,R,e1.ext (x2.trans x3),m3,h3,k.ext (x1.trans (x2.trans x3))⟩⟩⟩⟩
def bD:fL:=λx y M Q=>match x,y with
 |.str z,.int i=>match b8 z i with
  |some c=>z.length<=sizeLine/\Q (.str [c]) M
  |none=>False
 |.tup xs,.int i=>match b8 xs i with
  |some d=>Q d M
  |none=>False
 |.lst xs,.int i=>match b8 xs i with
  |some d=>Q d M
  |none=>False
 |.ref a,.int i=>match M a with
  |some (.lst xs)=>match b8 xs i with
   |some d=>Q d M
   |none=>False
  |_=>False
 |_,_=>False
theorem ai.b8(h:ai K H ds vs)(e:L2.b8 ds i=some d):∃v,L2.b8 vs i=some v/\Den K H d v:=by
 unfold L2.b8 at e ⊢;rw[h.length]at e;cases q:kh vs.length i with
 |none=>rw[q]at e;cases e
 |some j=>
  rw[q]at e;obtain⟨v,e1,e2⟩:=h.get (i:=j) (d:=d) e;exact⟨v,e1,e2⟩
theorem QcB:si X (lR2 X.K bD):=by
 rintro value slice pins s σ H x y v u Q I rx ry ⟨dx,dy,M,R,ex,ey,m,q,k⟩ hsub;have viaL:∀{p:Addr}{ds:List D}{vs:List V}{i:Int},x=.ref p->y=.int i->cB X.K H p vs->ai X.K H ds vs->(match b8 ds i with|some d=>R d M|none=>False)->wpAny (model X.prog X.w) X.A (subscriptTail value slice v u) (EP X pins σ Q) X.xe s:=by
  intro p ds vs i e1 e2 sq dn q;subst e1 e2;cases ei:b8 ds i with
  |none=>rw[ei]at q;exact q.elim
  |some d=>
   rw[ei]at q;obtain⟨w,e3,e4⟩:=ai.b8 dn ei;exact Qak value slice pins s σ H _ _ v u Q I rx ry ⟨p,vs,i,w,rfl,rfl,sq,e3,k _ M _ H q (Ext.refl H) m e4⟩ hsub
 cases ex with
 |str z hz=>
  cases ey<;>first|exact False.elim q|skip
  rename_i i;have q:(match b8 z i with|some c=>z.length<=sizeLine/\R (.str [c]) M|none=>False):=q
  cases ei:b8 z i with
  |none=>rw[ei]at q;exact q.elim
  |some c=>
   rw[ei]at q;obtain⟨j,_,ej,_⟩:=Q2G ei;exact gD value slice pins s σ H _ _ v u Q I rx ry ⟨S z,i,c,rfl,rfl,by rw[nS];exact q.1,by rw[Q2M];exact ei,k _ M _ H q.2 (Ext.refl H) m (.str [c] (dk.sub hz λc' hc=>by rw[Zh.mp hc];exact ZI ej))⟩ hsub
 |tup sq dn=>
  cases ey<;>first|exact False.elim q|skip
  rename_i p ds vs i;have q:(match b8 ds i with|some d=>R d M|none=>False):=q
  cases ei:b8 ds i with
  |none=>rw[ei]at q;exact q.elim
  |some d=>
   rw[ei]at q;obtain⟨w,e3,e4⟩:=ai.b8 dn ei;exact ix_tup value slice pins s σ H _ _ v u Q I rx ry ⟨p,vs,i,w,rfl,rfl,.of sq,e3,k _ M _ H q (Ext.refl H) m e4⟩ hsub
 |lst sq dn=>
  cases ey<;>first|exact False.elim q|skip
  exact viaL rfl rfl sq.sq dn q
 |ref p=>
  cases ey<;>first|exact False.elim q|skip
  cases qa:M p with
  |none=>erw[bD,qa]at q
  |some o=>
   cases o with
   |ah _=>erw[bD,qa]at q
   |lst ds=>
    erw[bD,qa]at q;obtain⟨vs,e2,dn⟩:=m.get qa;exact viaL rfl rfl (.of e2) dn q
 |_=>exact False.elim q
theorem qX(ha:DE X a ta)(hb:DE X b tb)(hs:zbD b:=by intro _ _;rfl):DE X (.Subscript a b pos) (dOp bD ta tb):=
 (qk QcB ha hb hs).imp λσ H Q h=>Q4G (λ_ _ _ _ q=>q) h
def rLtD(f:Int->Int->Bool):fL:=λx y M Q=>match x,y with
 |.int i,.int j=>Q (.bl (f i j)) M
 |_,_=>False
theorem qw{f:Int->Int->Bool}(h:fK X (compareOp op) (ow λi j=>.bl (f i j))):dA X (compareOp op) (rLtD f):=by
 rintro pins s σ H x y v u Q I rx ry ⟨dx,dy,M,R,ex,ey,m,q,k⟩;cases ex<;>cases ey<;>first|exact False.elim q|skip
 exact h pins s σ H _ _ v u Q I rx ry ⟨_,_,rfl,rfl,k _ M _ H q (Ext.refl H) m (.bl _)⟩
theorem qB:dA X (compareOp .Lt) (rLtD λi j=>decide (i<j)):=qw qr
theorem qC:dA X (compareOp .LtE) (rLtD λi j=>decide (i<=j)):=qw qt
noncomputable def isNon:D->Bool
 |.non=>true
 |_=>false
def rIsN(f:Bool->Bool):fL:=λx y M Q=>match y with
 |.non=>Q (.bl (f (isNon x))) M
 |_=>False
theorem QcC:dA X (compareOp .Is) (rIsN id):=by
 rintro pins s σ H x y v u Q I rx ry ⟨dx,dy,M,R,ex,ey,m,q,k⟩;cases ey<;>first|exact False.elim q|skip
 refine Qc5 pins s σ H _ _ v u Q I rx ry ⟨rfl,?_⟩;have:decide (x=V.non)=isNon dx:=by cases ex<;>rfl
 rw[this];exact k _ M _ H q (Ext.refl H) m (.bl _)
theorem QaM:dA X (compareOp .IsNot) (rIsN not):=by
 rintro pins s σ H x y v u Q I rx ry ⟨dx,dy,M,R,ex,ey,m,q,k⟩;cases ey<;>first|exact False.elim q|skip
 refine Qa9 pins s σ H _ _ v u Q I rx ry ⟨rfl,?_⟩;have:decide (x=V.non)=isNon dx:=by cases ex<;>rfl
 rw[this];exact k _ M _ H q (Ext.refl H) m (.bl _)
end
section
variable{X:Cx}{a b c e:Expr}{es:List Expr}{ta tb te:aB}{tt tu:cO}{pos p2:Pos}{K:Frag}
inductive Ty where
 |non|bool|int|str|tuple|list
 deriving DecidableEq
noncomputable def Ty.nm:Ty->String
 |.non=>"NoneType" |.bool=>"bool" |.int=>"int" |.str=>"str" |.tuple=>"tuple" |.list=>"list"
noncomputable def Ty.sub:Ty->Ty->Bool
 |.bool,.int=>true
 |a,b=>decide (a=b)
noncomputable def tyD:D->Ty
 |.non=>.non|.bl _=>.bool|.int _=>.int|.str _=>.str|.tup _=>.tuple|.lst _=>.list|.ref _=>.list
theorem nO(K:Frag)(a b:Ty)(hb:b≠.non):kitOne K (.type a.nm) (.type b.nm)=some (a.sub b):=by
 cases a<;>cases b<;>first|exact absurd rfl hb|with_unfolding_all rfl
def dIsI(T:Ty)(te:aB):aB:=λρ M Q=>te ρ M λd M1=>match d with
 |.ref a=>match M1 a with
  |some (.lst _)=>Q (.bl (Ty.sub .list T)) M1
  |_=>False
 |d=>Q (.bl ((tyD d).sub T)) M1
theorem QcD(T:Ty)(hT:T≠.non){p:Pos}(hx:bootBuiltins x=some (.type T.nm))(he:DE X e te)(hg:Gl X "isinstance")(hm:X.mg "isinstance" = none)(hg2:Gl X x)(hm2:X.mg x=none)(hn:x ≠ "__name__":=by decide)(hdb:(x==("__debug__":Str))=false:=by decide)
  (hs:starEach [e,.Name x p3] X.env=(false,eval e X.env)::starEach [.Name x p3] X.env:=by rfl) (hs2:starEach [.Name x p3] X.env=(false,eval (.Name x p3) X.env)::starEach [] X.env:=by rfl) (hpl:(backTo pos (starEach [.Name x p3] X.env)).any (·.1)=false:=by rfl) :
  DE X (.Call (.Name "isinstance" p) [e,.Name x p3] [] pos) (dIsI T te):=by
 have hc:jL X (.builtin "isinstance") (λxs H Q=>∃d M R v,xs=[v,.ty T.nm]/\Den X.K H d v/\ar X.K M H/\iR X.K H R Q/\(match d with
  |.ref a=>match M a with
   |some (.lst _)=>R (.bl (Ty.sub .list T)) M
   |_=>False
  |d=>R (.bl ((tyD d).sub T)) M)):=by
  rintro pins s σ H xs us Q I rv ⟨d,M,R,v,e,den,m,k,q⟩;subst e;cases rv with
  |cons r1 rv=>
   cases rv with
   |cons r2 rv=>
    cases rv;cases r2;have fin:∀b,R (.bl b) M->∀tk,EP X pins σ Q (.bool b) {s with toks:=tk}:=λb hb tk=>⟨.bl b,H,I.tok tk,rfl,k _ M _ H hb (Ext.refl H) m (.bl b)⟩;cases den with
    |non=>exact r0 I r1 .non (nO X.K .non T hT) (fin _ q)
    |bl b=>exact r0 I r1 (.bl b) (nO X.K .bool T hT) (fin _ q)
    |int i=>exact r0 I r1 (.int i) (nO X.K .int T hT) (fin _ q)
    |str z hz=>exact r0 I r1 (.str _) (nO X.K .str T hT) (fin _ q)
    |tup sq dn=>
     cases r1;obtain⟨its,r,⟨o,h1,h2,_⟩,hz⟩:=I.tuple (.of sq);exact kia_one kitx_tuple I.cX ⟨o,h1,h2⟩ (nO X.K .tuple T hT) (λz=>nomatch z) (fin _ q)
    |lst sq dn=>
     cases r1;obtain⟨its,r,⟨o,n,h1,h2,_⟩,hz⟩:=I.list sq.sq;exact kia_one kitx_list I.cX ⟨o,h1,h2⟩ (nO X.K .list T hT) (λz=>nomatch z) (fin _ q)
    |ref p=>
     cases qa:M p with
     |none=>erw[qa]at q
     |some o=>
      cases o with
      |ah _=>erw[qa]at q
      |lst ds=>
       erw[qa]at q;cases r1;obtain⟨vs,e2,dn⟩:=m.get qa;exact r0 (x:=.ref p) I rfl (.lst e2) (nO X.K .list T hT) (fin _ q)
 refine (Q4B hc hg hm (by rfl) (Q4c he (Q4c (Qa2 hg2 hm2 hx (v:=.ty T.nm) rfl hn hdb) Q9A hs2) hs) (by decide) (by decide) hs hpl).imp λσ H Q ⟨ρ,M,R,s,m,h,k⟩=>?_
 exact⟨ρ,M,_,s,m,h,λd M1 v H1 h1 x1 m1 e1=>⟨d,M1,R,v,rfl,e1,m1,k.ext x1,by
  cases d<;>exact h1⟩⟩
def zbO:D->DH->DK->Prop:=λd M Q=>match d with
 |.str z=>z.length<=sizeLine/\Q (.int z.length) M
 |.tup xs=>Q (.int xs.length) M
 |.lst xs=>Q (.int xs.length) M
 |.ref a=>match M a with
  |some (.lst xs)=>Q (.int xs.length) M
  |_=>False
 |_=>False
def rLen:List D->DH->DK->Prop:=λds M Q=>match ds with
 |[d]=>zbO d M Q
 |_=>False
theorem QcE:jK X (.builtin "len") rLen:=by
 rintro pins s σ H xs us Q I rv ⟨ds,M,R,dn,m,q,k⟩
 match ds,dn,q with
 |[d],.cons den .nil,q=>
  cases den with
  |str z hz=>exact Q3j pins s σ H _ us Q I rv ⟨_,rfl,by rw[nS];exact q.1,k _ M _ H q.2 (Ext.refl H) m (by rw[nS];exact .int _)⟩
  |tup sq d=>exact Q0Y pins s σ H _ us Q I rv ⟨_,_,rfl,.inr (.of sq),k _ M _ H q (Ext.refl H) m (by rw[d.length];exact .int _)⟩
  |lst sq d=>exact Q0Y pins s σ H _ us Q I rv ⟨_,_,rfl,.inl sq.sq,k _ M _ H q (Ext.refl H) m (by rw[d.length];exact .int _)⟩
  |ref p=>
   cases qa:M p with
   |none=>erw[rLen,zbO,qa]at q
   |some o=>
    cases o with
    |ah _=>erw[rLen,zbO,qa]at q
    |lst ds=>
     erw[rLen,zbO,qa]at q;obtain⟨vs,e2,d⟩:=m.get qa;exact Q0Y pins s σ H _ us Q I rv ⟨_,_,rfl,.inl (.of e2),k _ M _ H q (Ext.refl H) m (by rw[d.length];exact .int _)⟩
  |_=>exact False.elim q
noncomputable def zaT(M:DH):D->Option (List D)
 |.tup xs=>some xs
 |.lst xs=>some xs
 |.ref a=>match M a with
  |some (.lst xs)=>some xs
  |_=>none
 |_=>none
def zbF:List D->DH->DK->Prop:=λds M Q=>match ds with
 |[d]=>match zaT M d with
  |some xs=>Q (.tup xs) M
  |none=>False
 |_=>False
def rList:List D->DH->DK->Prop:=λds M Q=>match ds with
 |[d]=>match zaT M d with
  |some xs=>∀p,M p=none->Q (.ref p) (ae M p (.lst xs))
  |none=>False
 |_=>False
theorem Q6L(m:ar K M H)(den:Den K H d v)(e:zaT M d=some xs):∃p vs,v=.ref p/\(cB K H p vs\/eQ K H p vs)/\ai K H xs vs/\(cB K H p vs\/H p=some (.tup vs)):=by
 cases den with
 |tup sq d=>cases e;exact⟨_,_,rfl,.inr (.of sq),d,.inr sq⟩
 |lst sq d=>cases e;exact⟨_,_,rfl,.inl sq.sq,d,.inl sq.sq⟩
 |ref p=>
  cases qa:M p with
  |none=>simp[zaT,qa]at e
  |some o=>
   cases o with
   |ah _=>simp[zaT,qa]at e
   |lst ds=>
    simp[zaT,qa]at e;subst e;obtain⟨vs,e2,d⟩:=m.get qa;exact⟨_,_,rfl,.inl (.of e2),d,.inl (.of e2)⟩
 |_=>simp[zaT]at e
theorem QaN:jK X (.type "list") rList:=by
 rintro pins s σ H xs us Q I rv ⟨ds,M,R,dn,m,q,k⟩
 match ds,dn,q with
 |[d],.cons den .nil,q=>
  unfold rList at q;cases e:zaT M d with
  |none=>erw[e]at q
  |some ys=>
   erw[e]at q;obtain⟨p,vs,rfl,sq,d,_⟩:=Q6L m den e;exact Q3k pins s σ H _ us Q I rv ⟨p,vs,rfl,sq,λl hl=>k _ _ _ _ (q l (m.free hl)) (Ext.new hl) (m.gC hl d) (.ref l)⟩
theorem Q8s:jK X (.type "tuple") zbF:=by
 rintro pins s σ H xs us Q I rv ⟨ds,M,R,dn,m,q,k⟩
 match ds,dn,q with
 |[d],.cons den .nil,q=>
  unfold zbF at q;cases e:zaT M d with
  |none=>erw[e]at q
  |some ys=>
   erw[e]at q;obtain⟨p,vs,rfl,_,d,sq⟩:=Q6L m den e;refine Q2I pins s σ H _ us Q I rv ⟨p,vs,rfl,?_⟩;rcases sq with sq|sq
   ·exact .inl ⟨sq,λl hl=>k _ M _ _ q (Ext.new hl) (m.new hl) (.tup b9 (d.ext (Ext.new hl)))⟩
   ·exact .inr ⟨.of sq,k _ M _ H q (Ext.refl H) m (.tup sq d)⟩
def rMin:List D->DH->DK->Prop:=λds M Q=>match ds with
 |[.int i,.int j]=>Q (.int (if j<i then j else i)) M
 |_=>False
theorem QcF(hc:X.calm=true):jK X (.builtin "min") rMin:=by
 rintro pins s σ H xs us Q I rv ⟨ds,M,R,dn,m,q,k⟩;cases dn with
 |nil=>exact q.elim
 |cons d1 e2=>
  cases e2 with
  |nil=>cases d1<;>exact q.elim
  |cons d2 e3=>
   cases e3 with
   |cons d3 e4=>cases d1<;>cases d2<;>exact q.elim
   |nil=>
    cases d1 with
    |int i=>
     cases d2 with
     |int j=>exact Q6f hc pins s σ H _ us Q I rv ⟨i,j,rfl,k _ M _ H q (Ext.refl H) m (.int _)⟩
     |_=>exact q.elim
    |_=>cases d2<;>exact q.elim
inductive lM(K:Frag)(r:D->List D->DH->DK->Prop)(x:V)(vs:List V)(H:Hp)(Q:VK):Prop
 |mk (d:D) (ds:List D) (M:DH) (R:DK) (e:Den K H d x) (dn:ai K H ds vs) (m:ar K M H) (h:r d ds M R) (k:iR K H R Q)
noncomputable abbrev kP(X:Cx)(id:String)(r:D->List D->DH->DK->Prop):Prop:=MtR X id (lM X.K r)
def dML(r:D->List D->DH->DK->Prop)(to:aB)(t:d7):aB:=λρ M Q=>to ρ M λd M1=>match d with
 |.ref a=>match M1 a with
  |some (.lst _)=>t ρ M1 λds M2=>r (.ref a) ds M2 Q
  |_=>False
 |.lst xs=>t ρ M1 λds M2=>r (.lst xs) ds M2 Q
 |_=>False
theorem js{o:Expr}{to:aB}{tr:d7}{name:Str}{apos cpos:Pos}{id:String}{r:D->List D->DH->DK->Prop}(slot:Slot "list" name id)(hty:typeOf (.builtin id)=pure (.type "method_descriptor"))(hm:kP X id r)(ho:DE X o to)(ha:DA X (e::es) tr)
  (hbase:attributeBase o name X.env (eval o X.env)=eval o X.env:=by rfl)
  (hfew:((backTo cpos (starEach (e::es) X.env)).all (λx=>!x.1)&&(backToKw cpos (keywordEach [] X.env)).all (λx=>x.1.isSome)
   && decide ((e::es).length+([]:List Keyword).length+(if ([]:List Keyword).isEmpty then 0 else 1)<30))=true:=by rfl)
  (hline:(apos.endLine==cpos.line)=true:=by rfl) (hs:starEach (e::es) X.env=(false,eval e X.env)::starEach es X.env:=by rfl) (hplain:(backTo cpos (starEach es X.env)).any (·.1)=false:=by rfl) :
  DE X (.Call (.Attribute o name apos) (e::es) [] cpos) (dML r to tr):=
 (qm PySem.F.plainAttrs_list slot hty hm ho ha hbase hfew hline hs hplain).imp λσ H Q ⟨ρ,M,R,s,m,h,k⟩=>⟨ρ,M,_,s,m,h,λd M1 v H1 h1 x1 m1 e1=>by
  cases e1 with
  |ref a=>
   cases qa:M1 a with
   |none=>erw[qa]at h1
   |some o=>
    cases o with
    |ah _=>erw[qa]at h1
    |lst xs=>
     erw[qa]at h1;obtain⟨vs,e2,d⟩:=m1.get qa;exact⟨.inl ⟨rfl,vs,.of e2⟩,ρ,M1,_,s.ext x1,m1,h1,λds M2 vs H2 h2 x2 m2 e2=>⟨.ref a,ds,M2,R,.ref a,e2,m2,h2,k.ext (x1.trans x2)⟩⟩
  |lst fz dd=>exact⟨.inl ⟨rfl,_,fz.sq⟩,ρ,M1,_,s.ext x1,m1,h1,λds M2 vs H2 h2 x2 m2 e2=>⟨_,ds,M2,R,Den.ext x2 (.lst fz dd),e2,m2,h2,k.ext (x1.trans x2)⟩⟩
  |_=>exact False.elim h1⟩
theorem Q6M{o:Expr}{to:aB}{name:Str}{apos cpos:Pos}{id:String}{r:D->List D->DH->DK->Prop}(slot:Slot "list" name id)(hty:typeOf (.builtin id)=pure (.type "method_descriptor"))(hm:kP X id r)(ho:DE X o to)
  (hbase:attributeBase o name X.env (eval o X.env)=eval o X.env:=by rfl) (hline:(apos.endLine==cpos.line)=true:=by rfl):DE X (.Call (.Attribute o name apos) [] [] cpos) (dML r to dNil):=
 (Qcc PySem.F.plainAttrs_list slot hty hm ho hbase hline).imp λσ H Q ⟨ρ,M,R,s,m,h,k⟩=>⟨ρ,M,_,s,m,h,λd M1 v H1 h1 x1 m1 e1=>by
  cases e1 with
  |ref a=>
   cases qa:M1 a with
   |none=>erw[qa]at h1
   |some o=>
    cases o with
    |ah _=>erw[qa]at h1
    |lst xs=>
     erw[qa]at h1;obtain⟨vs,e2,d⟩:=m1.get qa;exact⟨.inl ⟨rfl,vs,.of e2⟩,.ref a,[],M1,R,.ref a,.nil,m1,h1,k.ext x1⟩
  |lst fz dd=>exact⟨.inl ⟨rfl,_,fz.sq⟩,_,[],M1,R,.lst fz dd,.nil,m1,h1,k.ext x1⟩
  |_=>exact False.elim h1⟩
def zaN:D->List D->DH->DK->Prop:=λd ds M Q=>match d,ds with
 |.ref a,[y]=>match M a with
  |some (.lst xs)=>xs.length<sizeLine/\Q .non (ae M a (.lst (xs++[y])))
  |_=>False
 |_,_=>False
theorem Q3r:kP X "list.append" zaN:=by
 rintro pins s σ H x xs v us Q I rx rv ⟨d,ds,M,R,e,dn,m,q,k⟩;cases e<;>first|exact False.elim q|skip
 rename_i a
 match ds,dn,q with
 |[y],.cons dy .nil,q=>
  cases qa:M a with
  |none=>erw[zaN,qa]at q
  |some o=>
   cases o with
   |ah _=>erw[zaN,qa]at q
   |lst ys=>
    erw[zaN,qa]at q;obtain⟨vs,e2,d⟩:=m.get qa;exact Q6p pins s σ H _ _ v us Q I rx rv ⟨a,vs,_,rfl,rfl,e2,by rw[<- d.length];exact q.1,k _ _ _ _ q.2 (Ext.lst e2) (m.write e2 (d.append (.cons dy .nil))) .non⟩
end
section
variable{X:Cx}{a b c e:Expr}{es:List Expr}{ta tb te:aB}{tt tu:cO}{pos p2:Pos}{K:Frag}
def pL(T:TS):TS:=λD σ H=>T {D with nx:=λσ' H'=>∃a xs,H' a=some (.lst xs)/\∀o,D.nx σ' (upd H' a (.frz o (.lst xs)))} σ H
theorem qg{st:Stmt}{T:TS}(h:PS X st T):PS X st (pL T):=by
 intro pins s σ H D I q;refine aE (h pins s σ H _ I q) λf s' q'=>?_;cases f with
 |next=>
  obtain⟨σ',H',I',a,xs,ha,k⟩:=q';obtain⟨o,I2⟩:=I'.frozen ha;exact⟨σ',_,I2,k o⟩
 |brk=>exact q'
 |cont=>exact q'
 |ret v=>exact q'
end
def Sub(M M':DH):Prop:=∀a o,M a=some o->M' a=some o
theorem Sub.refl(M:DH):Sub M M:=λ_ _ e=>e
theorem Sub.trans{M M1 M2:DH}(a:Sub M M1)(b:Sub M1 M2):Sub M M2:=λc o e=>b c o (a c o e)
theorem Sub.new(h:M p=none):Sub M (ae M p o):=λa u e=>by rw[ag (aZ e h)];exact e
theorem Sub.put(s:Sub M M')(h:M p=none):Sub M (ae M' p o):=λa u e=>by rw[ag (aZ e h)];exact s a u e
theorem Sub.none(s:Sub M M')(h:M' p=Option.none):M p=Option.none:=by
 cases e:M p with
 |none=>rfl
 |some o=>rw[s p o e]at h;cases h
theorem ar.sub{K:Frag}{H:Hp}{M M':DH}(h:ar K M' H)(s:Sub M M'):ar K M H:=λa o e=>h a o (s a o e)
section
variable{X:Cx}{a b c e tg iter:Expr}{es:List Expr}{st:Stmt}{sts body:List Stmt}{ta tb te:aB}{tt tu:cO}{t u:cU}{pos:Pos}{K:Frag}
def zb2(wi:iG)(ix:List Nat)(unp:D->Option (List D))(tc:cO)(te:aB):aB:=λρ M Q=>wi ρ M λitems Cd M1=>
 gd (ix.map λi=>(ρ[i]?).getD none) unp tc te Cd (λys M2=>ys.length<=sizeLine/\Q (.lst ys) M2) items [] M1
theorem Q3s{unp:D->Option (List D)}{F:List D->DH->Prop}(hu:kG K k unp gV)(s:aC K H ρ σ)(m:ar K M H)
  (h:wi ρ M λitems Cd M1=>gd (ix.map λi=>(ρ[i]?).getD none) unp tc te Cd (λys M2=>ys.length<=sizeLine/\F ys M2) items [] M1)
  (kk:∀zs M' ys H' a,F zs M'->Ext H H'->ar K M' H'->ai K H' zs ys->H' a=none->Q (.ref a) (upd H' a (.lst ys))):gT (lI K wi) k ix gV (lT K tc) (lE K te) σ H Q:=by
 refine⟨ρ,M,_,s,m,h,λitems Cd M1 H1 J h1 x1 m1 Y=>?_⟩;refine⟨λi mm ys H'=>mm=items.length-i/\i<=items.length/\∃M' zs,Ext H1 H'/\ar K M' H'/\ai K H' zs ys/\gd (ix.map λi=>(ρ[i]?).getD none) unp tc te Cd (λys M2=>ys.length<=sizeLine/\F ys M2) (items.drop i) zs M',⟨_,rfl,Z8 _,M1,[],Ext.refl _,m1,.nil,h1⟩,?_⟩;rintro i mm ys H' ⟨rfl,hi,M',zs,x',m',dz,h'⟩;by_cases hlt:i<items.length
 ·right;have hd:items.drop i=items[i]::items.drop (i+1):=Yp hlt;rw[hd]at h';obtain⟨cd,h'⟩:=h';refine⟨Y.go i H' M' x' m' cd hlt,λy Hy yl=>?_⟩;obtain⟨xy,my,d,ed,den⟩:=Y.gi i H' M' y Hy x' m' cd yl hlt;have:items[i]=d:=by
   rw[Zx hlt]at ed;exact Z3 ed
  rw[this]at h';cases eu:unp d with
  |none=>rw[eu]at h';exact h'.elim
  |some us=>
   rw[eu]at h';refine hu.to d y us _ Hy _ den eu λws dw=>?_;have hk:ws.length=k:=by rw[<- dw.length];exact hu.len d us eu
   refine⟨?_,?_,?_⟩
   ·rw[List.drop_left' (by rw[Ze];exact hk)]
   ·rw[Zp,Ze,Ze,hk]
   ·have xx:=x'.trans xy;have sρ:aC K Hy (us.map some++ix.map λi=>(ρ[i]?).getD none) (ws.map some++ix.map λi=>(σ[i]?).getD none):=(aC.fD dw).append ((s.ext (x1.trans xx)).pick ix);refine⟨_,M',_,sρ,my,h',λb M3 H3 h3 x3 m3=>?_⟩;cases b with
    |true=>
     refine bj ⟨_,M3,_,sρ.ext x3,m3,(Zg rfl).mp h3,λz M4 v H4 ⟨hz,h4⟩ x4 m4 e4=>⟨by rw[<- dz.length];exact hz,_,(show items.length-(i+1)<items.length-i by room),rfl,hlt,M4,_,(xx.trans x3).trans x4,m4,(dz.ext (xy.trans (x3.trans x4))).append (.cons e4 .nil),h4⟩⟩
    |false=>exact br ⟨_,(show items.length-(i+1)<items.length-i by room),rfl,hlt,M3,zs,xx.trans x3,m3,dz.ext (xy.trans x3),(Zd Z0).mp h3⟩
 ·left;have hd:items.drop i=[]:=drop_eq_nil_of_le (le_of_not_lt hlt);rw[hd]at h';obtain⟨cd,hz,q⟩:=h';exact⟨Y.stop i H' M' x' m' cd (le_of_not_lt hlt),by rw[<- dz.length];exact hz,λa ha=>kk _ _ _ _ a q (x1.trans x') m' dz ha⟩
section
variable{scope:Scope}{N fn:List Str}{k:Nat}{ix:List Nat}{elt:Expr}{ifs:List Expr}{wi:iG}{unp:D->Option (List D)}{gV:TG}{tc:cO}
theorem Q8t(tp:Top X){R0:XC->Hp->Prop}(hx0:dR X λcls _ H=>R0 cls H)(hu:kG X.K k unp gV)(hc:X.calm=true)(ok:iS X.env.scope scope N k fn)(hix:ix.map (λi=>X.N[i]?)=fn.map some)(hi:DI X tg iter wi)
  (hg:∀cl C s₀ H₀ ex E,PG (bg X scope N cl C s₀ H₀ ex E) tg gV) (ht:∀cl C s₀ H₀ ex E,dR (bg X scope N cl C s₀ H₀ ex E) (λcls _ H=>R0 cls H)->fY (bg X scope N cl C s₀ H₀ ex E) ifs tc) (he:∀cl C s₀ H₀ ex E,dR (bg X scope N cl C s₀ H₀ ex E) (λcls _ H=>R0 cls H)->DE (bg X scope N cl C s₀ H₀ ex E) elt te)
  (hs:∀x,foldedSetIterable iter X.env x=pure x:=by intro _;rfl):DE X (.ListComp elt [⟨tg,iter,ifs,0⟩] scope pos) (zb2 wi ix unp tc te):=
 (Q6t (Q4C tp hx0 hc ok hix hi hg ht he hs)).imp λσ H Q ⟨ρ,M,R,s,m,h,kk⟩=>Q3s hu s m h λzs M' ys H' a q x' m' dz ha=>
  ⟨a,ys,rfl,b9,λo=>by
   rw[Q2E];exact kk _ M' _ _ q (x'.trans (Ext.new ha)) (m'.new ha) (.lst (.inl ⟨o,b9⟩) (dz.ext (Ext.new ha)))⟩
theorem Q4h(tp:Top X){R0:XC->Hp->Prop}(hx0:dR X λcls _ H=>R0 cls H)(hsw:swapsWith (.ListComp elt [⟨tg,iter,ifs,0⟩] scope pos) (some (.Name x pos')) spos.line X.env=pure true)
  (hN:X.N.Nodup) (hiN:X.N[i]?=some x) (hx:X.env.scope.names.lookup x=some .local) (hu:kG X.K k unp gV) (hc:X.calm=true) (ok:iS X.env.scope scope N k fn) (hix:ix.map (λi=>X.N[i]?)=fn.map some) (hi:DI X tg iter wi)
  (hg:∀cl C s₀ H₀ ex E,PG (bg X scope N cl C s₀ H₀ ex E) tg gV) (ht:∀cl C s₀ H₀ ex E,dR (bg X scope N cl C s₀ H₀ ex E) (λcls _ H=>R0 cls H)->fY (bg X scope N cl C s₀ H₀ ex E) ifs tc) (he:∀cl C s₀ H₀ ex E,dR (bg X scope N cl C s₀ H₀ ex E) (λcls _ H=>R0 cls H)->DE (bg X scope N cl C s₀ H₀ ex E) elt te)
  (hs:∀x,foldedSetIterable iter X.env x=pure x:=by intro _;rfl):DS X (.Assign [.Name x pos'] (.ListComp elt [⟨tg,iter,ifs,0⟩] scope pos) spos) (dSet i (zb2 wi ix unp tc te)):=
 by
 have h0:=Q1W (tc:=lT X.K tc) (te:=lE X.K te) tp hx0 hsw hN hiN hx hc ok hix hi hg ht he hs;refine (qg h0).imp λD σ H ⟨ρ,M,DD,s,m,h,kk⟩=>?_;unfold pL j0;refine Q3s hu s m h λzs M' ys H' a q x' m' dz ha=>?_;refine⟨a,ys,b9,λo=>?_⟩;rw[Q2E];have xa:Ext H (upd H' a (.frz o (.lst ys))):=x'.trans (Ext.new ha);exact kk.nx _ M' _ _ q xa ((s.ext xa).set (d:=.lst zs) (v:=.ref a) (.lst (.inl ⟨o,b9⟩) (dz.ext (Ext.new ha))) i) (m'.new ha)
end
def dNeg(te:aB):aB:=λρ M Q=>te ρ M λx M1=>match x with
 |.int i=>Q (.int (-i)) M1
 |_=>False
theorem QcG(h:DE X e te):DE X (.UnaryOp .USub e pos) (dNeg te):=
 (qh Qc4 h).imp λσ H Q ⟨ρ,M,R,s,m,h,k⟩=>⟨ρ,M,_,s,m,h,λd M1 v H1 h1 x1 m1 e1=>by
  cases e1<;>first|exact False.elim h1|exact⟨_,rfl,k _ M1 _ H1 h1 x1 m1 (.int _)⟩⟩
def zbY(t:d7):aB:=λρ M Q=>t ρ M λxs M1=>xs.length<=sizeLine/\Q (.lst xs) M1
theorem QaO(h:DA X es tr):DE X (.List es pos) (zbY tr):=
 (Q6t (Q9B h)).imp λσ H Q ⟨ρ,M,R,s,m,h,k⟩=>⟨ρ,M,_,s,m,h,λds M1 vs H1 ⟨hl,h1⟩ x1 m1 e1=>⟨by rw[<- e1.length];exact hl,λp hp=>⟨p,vs,rfl,b9,λo=>by
  rw[Q2E];exact k _ M1 _ _ h1 (x1.trans (Ext.new hp)) (m1.new hp) (.lst (.inl ⟨o,b9⟩) (e1.ext (Ext.new hp)))⟩⟩⟩
noncomputable def za3(R:DK):jF:={ nx:=λ_ M'=>∃M0,Sub M0 M'/\R .non M0,rt:=λd M'=>∃M0,Sub M0 M'/\R d M0,bk:=λ_ _=>False,ct:=λ_ _=>False}
end
section
variable{X:Cx}{a b c e tg:Expr}{es:List Expr}{ta tb te:aB}{tt tu:cO}{pos p2:Pos}{K:Frag}
noncomputable def sj(z:List Nat):It:=⟨λi _=>i<z.length,λi H x H'=>H'=H/\∃c,z[i]?=some c/\x=.str (S [c]),λi _=>z.length<=i⟩
theorem QcH(z:List Nat):(S z).cps.size=z.length:=by unfold S;simp
theorem l9(z:List Nat)(i:Nat):(S z).cps[i]?=z[i]?:=by unfold S;simp
theorem Q8u(hty:ty = "str_ascii_iterator" \/ ty = "str_iterator"):Turn P w K tg (sj z) [it] it (λi h=>h.IsStrIter it ty (S z) t i) where
 mem:=by simp
 obj:=λi h st b hb=>by
  have e:b=it:=by simpa using hb
  subst e;obtain⟨o,e,c,d⟩:=st;exact⟨o,e,λv q=>by rw[d]at q;cases q⟩
 keep:=λi h h' st k=>by
  obtain⟨o,e,r⟩:=st;exact⟨o,k it (by simp) o e,r⟩
 item:=by
  intro X hP hw hK hc i pins s σ H E I hf st hg;subst hP hw;obtain⟨f0,f1,f2,f3,f4,f5⟩:=hf it (by simp)
  have hlt:i<(S z).cps.size:=by rw[QcH];exact hg
  have fin:∀v h' tk,SignAt (S z) i v->h'.IsStrIter it ty (S z) t (i+1)->(∀b o,b∉[it]->s.heap.get? b=some o->h'.get? b=some o)->∃u,some v=some u /\
    wpAny (model X.prog X.w) X.A (letOwnedTupleGo tg (.ref it) u) (λ_ s2=>∃x H',Inv X pins σ H' s2/\L2.RelV x u/\(sj z).gi i H x H'/\s2.heap.IsStrIter it ty (S z) t (i+1)/\∀b∈[it],H' b=none) E {s with heap:=h',toks:=tk}:=by
   rintro v h' tk ⟨c,u,hcu,rfl⟩ st' kk;have I1:Inv X pins σ H {s with heap:=h',toks:=tk}:=I.turned (λb o hb e=>kk b o (by simpa using hb) e) f0 f1 f3 f4 f5
   obtain⟨o,e,cl,d⟩:=id st';refine⟨_,rfl,fS (s:={s with heap:=h',toks:=tk}) (n:=ty) e cl d (by rcases hty with rfl|rfl<;>decide) ⟨.str (S [c]),H,I1,⟨u,rfl⟩,⟨rfl,c,by rw[<- l9];exact hcu,rfl⟩,st',λb hb=>(hf b hb).1⟩⟩
  rcases hty with rfl|rfl
  ·exact (Walks.strAscii (prog:=X.prog) (w:=X.w) (I.ok.hd hc) it (S z) t).item i s _ _ hlt st λv h' tk hv st' kk=>fin v h' tk hv st' kk
  ·exact (Walks.strWide (prog:=X.prog) (w:=X.w) (I.ok.hd hc) it (S z) t).item i s _ _ hlt st λv h' tk hv st' kk=>fin v h' tk hv st' kk
 done:=by
  intro X hP hw hK hc i pins s σ H E I hf st hg;subst hP hw;obtain⟨f0,f1,f2,f3,f4,f5⟩:=hf it (by simp)
  have hx:(S z).cps[i]?=none:=by rw[l9];exact List.getElem?_eq_none_iff.mpr hg
  rcases hty with rfl|rfl
  ·exact wpAny_pyNext_ascii_end (I.ok.hd hc) st hx λh' eb=>⟨rfl,I.turned (t':=s.toks) (λb o hb e=>eb b o hb e) f0 f1 f3 f4 f5⟩
  ·exact wpAny_pyNext_wide_end (I.ok.hd hc) st hx λh' eb=>⟨rfl,I.turned (t':=s.toks) (λb o hb e=>eb b o hb e) f0 f1 f3 f4 f5⟩
 self:=λ_ _ _ _ _ st h=>by
  rcases hty with rfl|rfl
  ·exact wpAny_pyIter_striter_ascii st h
  ·exact wpAny_pyIter_striter_wide st h
theorem aM.str{Cd:DH->Prop}(hz:dk z):aM K (sj z) (z.map λc=>D.str [c]) Cd H where
 go:=λi H' M x m c hi=>by simpa[sj]using hi
 gi:=λi H' M y H'' x m c ⟨e,ch,h1,h2⟩ hi=>by
  subst e h2;refine⟨Ext.refl _,m,.str [ch],by rw[ZB,h1];rfl,.str [ch] (dk.sub hz λc' hc=>?_)⟩
  rw[Zh.mp hc];exact ZI h1
 stop:=λi H' M x m c hi=>by simpa[sj]using hi
def diAny(tl:aB):iG:=λρ M R=>tl ρ M λd M1=>match d with
 |.tup ds=>R ds (λ_=>True) M1
 |.lst ds=>R ds (λ_=>True) M1
 |.str z=>R (z.map λc=>D.str [c]) (λ_=>True) M1
 |.ref a=>match M1 a with
  |some (.lst ds)=>R ds (λM=>M a=some (.lst ds)) M1
  |_=>False
 |_=>False
theorem Q6N(hl:DE X l tl):DI X tg l (diAny tl):=by
 rintro pins s σ H R I ⟨ρ,M,RD,sm,m,h,k⟩;have q0:tl ρ M (λd M1=>match d with
  |.tup ds=>RD ds (λ_=>True) M1
  |.lst ds=>RD ds (λ_=>True) M1
  |.str z=>RD (z.map λc=>D.str [c]) (λ_=>True) M1
  |.ref a=>match M1 a with
   |some (.lst ds)=>RD ds (λM=>M a=some (.lst ds)) M1
   |_=>False
  |_=>False):=h
 refine aE (hl pins s σ H (λv H1=>∃d M1,Ext H H1/\ar X.K M1 H1/\Den X.K H1 d v/\(match d with
  |.tup ds=>RD ds (λ_=>True) M1
  |.lst ds=>RD ds (λ_=>True) M1
  |.str z=>RD (z.map λc=>D.str [c]) (λ_=>True) M1
  |.ref a=>match M1 a with
   |some (.lst ds)=>RD ds (λM=>M a=some (.lst ds)) M1
   |_=>False
  |_=>False)) I ⟨ρ,M,_,sm,m,q0,λd M1 v H1 h1 x1 m1 e1=>⟨d,M1,x1,m1,e1,h1⟩⟩) λu s1 ⟨v,H1,I1,r1,d,M1,x1,m1,e1,h1⟩=>?_
 have viaL:∀{a:Addr}{vs:List V}(_:v=.ref a) (_:cB X.K H1 a vs){items:List D}{Cd:DH->Prop},RD items Cd M1->aM X.K (Itl X.K a) items Cd H1 ->
   wpAny (model X.prog X.w) X.A (pyIter u) (PIE X pins σ tg R) X.xe s1:=fun{a vs} ev hq {items Cd} q Y=>by
  subst ev;cases r1;obtain⟨its,rv,p,hz⟩:=I1.list hq;refine wpAny_pyIter_list p.isList ?_;refine⟨s1.heap.objs.size,[s1.heap.objs.size],_,_,H1,rfl,I1.kept (t':=s1.toks) λb o e=>Zi _ e,Q6d a _,⟨_,Zw _ rfl,rfl,rfl⟩,λb hb=>?_,k items Cd M1 H1 _ q x1 m1 Y⟩;have e:b=s1.heap.objs.size:=by simpa using hb
  subst e;exact I1.fH (Zy _) (I1.av.fresh (Zy _))
 cases e1 with
 |tup q0 r=>
  have q:=eQ.of (K:=X.K) q0;cases r1;obtain⟨its,rv,p,hz⟩:=I1.tuple q;refine wpAny_pyIter_tuple (show s1.heap.IsTuple _ its.toArray from p) ?_;refine⟨s1.heap.objs.size,[s1.heap.objs.size],_,_,H1,rfl,I1.kept (t':=s1.toks) λb o e=>Zi _ e,Q5s _ _,⟨_,Zw _ rfl,rfl,rfl⟩,λb hb=>?_,k _ _ M1 H1 _ h1 x1 m1 (aM.tup q r)⟩;have e:b=s1.heap.objs.size:=by simpa using hb
  subst e;exact I1.fH (Zy _) (I1.av.fresh (Zy _))
 |lst q r=>exact viaL rfl q.sq h1 (aM.fz q r)
 |str z hz=>
  obtain⟨t,rfl⟩:=r1;have go:∀(ty:String),ty = "str_ascii_iterator" \/ ty = "str_iterator" -> PIE X pins σ tg R (.ref s1.heap.objs.size) {s1 with heap:=s1.heap.push { cls:=.type ty,data:=.fields #[.str (S z) t,.int 0 0]}}:=λty hty=>by
   refine⟨s1.heap.objs.size,[s1.heap.objs.size],_,_,H1,rfl,I1.kept (t':=s1.toks) λb o e=>Zi _ e,Q8u (z:=z) (t:=t) hty,⟨_,Zw _ rfl,rfl,rfl⟩,λb hb=>?_,k _ _ M1 H1 _ h1 x1 m1 (aM.str hz)⟩;have e:b=s1.heap.objs.size:=by simpa using hb
   subst e;exact I1.fH (Zy _) (I1.av.fresh (Zy _))
  cases ha:(S z).cps.all (· < 128)
  ·exact wpAny_pyIter_wide ha (go _ (.inr rfl))
  ·exact wpAny_pyIter_ascii ha (go _ (.inl rfl))
 |ref a=>
  cases qa:M1 a with
  |none=>erw[qa]at h1
  |some o=>
   cases o with
   |ah _=>erw[qa]at h1
   |lst ds=>
    erw[qa]at h1;obtain⟨vs,e2,_⟩:=m1.get qa;exact viaL rfl (.of e2) h1 aM.mut
 |_=>exact h1.elim
end
section
variable{X:Cx}{a b c e tg:Expr}{es:List Expr}{ta tb te:aB}{tt tu:cO}{pos p2:Pos}{K:Frag}
def rIn1(f:Bool->Bool):fL:=λx y M Q=>match y with
 |.str z=>match x with
  |.str w=>match w with
   |[c]=>Q (.bl (f (decide (c∈z)))) M
   |_=>False
  |_=>False
 |y=>∃xs,zaT M y=some xs/\plain 11 (res M x)=true/\xs.all (plain 11)=true/\Q (.bl (f (xs.any λd=>eqB d (res M x)))) M
open Classical in
theorem Q9H(I:Inv X pins σ H s)(m:ar X.K M H)(hu:X.A.units+64<cLine)(hx:plain 11 (res M x)=true)(ex:Den X.K H x vx)(rx:L2.RelV vx ux)
  {xs:List D}{vs:List V}{its:List Value}(hp:xs.all (plain 11)=true) (dn:ai X.K H xs vs) (rv:Vals vs its) :
  ∃e:Value->Bool,(∀y∈its,SeqAt.EqAt X.A.in1 s y ux (e y))/\its.map e=xs.map λd=>eqB d (res M x):=by
 obtain⟨⟨as,ra⟩,c1,d1⟩:=Q1Z I m hx ex rx;refine⟨λy=>decide (∃da bs,Reads s.heap y da bs/\PyData.eqv da (toPy (res M x))=true),?_,?_⟩
 ·intro y hy;have:∃d v,d∈xs/\Den X.K H d v/\L2.RelV v y:=by
   clear hp
   induction xs generalizing vs its with
   |nil=>cases dn;cases rv;cases hy
   |cons d0 xs ih=>
    cases dn with
    |cons a t=>
     cases rv with
     |cons r1 r2=>
      rcases Zf.mp hy with rfl|hy
      ·exact⟨_,_,Zk,a,r1⟩
      ·obtain⟨d,v,h1,h2⟩:=ih t r2 hy;exact⟨d,v,Zc _ h1,h2⟩
  obtain⟨d,v,hd,den,rr⟩:=this;have pd:plain 11 d=true:=(ZO.mp hp) d hd;obtain⟨bs,rb⟩:=Q0U I 11 d v y pd den rr;obtain⟨c2,d2⟩:=Q1Y 11 d v pd den;have h:=SeqAt.eqAt_reads (toPy d) (toPy (res M x)) X.A.in1 s y ux bs as rb ra c2 c1 (by
   have:X.A.in1.units<=X.A.units+1:=by simp[Around.in1]
   have h2:min (toPy d).depth (toPy (res M x)).depth<=11:=ZF (Nat.min_le_left _ _) d2;room)
  have e:decide (∃da bs,Reads s.heap y da bs/\PyData.eqv da (toPy (res M x))=true)=PyData.eqv (toPy d) (toPy (res M x)):=by
   cases hq:PyData.eqv (toPy d) (toPy (res M x)) with
   |true=>exact Z7 ⟨_,_,rb,hq⟩
   |false=>
    refine Zt ?_;rintro⟨da,cs,r,he⟩;have:=(Reads.unique rb _ _ r).1;rw[<- this,hq]at he;cases he
  show SeqAt.EqAt X.A.in1 s y ux (decide (∃da bs,Reads s.heap y da bs/\PyData.eqv da (toPy (res M x))=true));rw[e];exact h
 ·induction xs generalizing vs its with
  |nil=>cases dn;cases rv;rfl
  |cons d xs ih=>
   cases dn with
   |cons a t=>
    cases rv with
    |cons r1 r2=>
     rw[ZC,Zj]at hp;rw[Zu,Zu,ih hp.2 t r2];congr 1;obtain⟨bs,rb⟩:=Q0U I 11 _ _ _ hp.1 a r1;have be:=bEq _ (res M x) 11 11 hp.1 hx;rw[<- be];cases hq:PyData.eqv (toPy d) (toPy (res M x)) with
     |true=>exact Z7 ⟨_,_,rb,hq⟩
     |false=>
      refine Zt ?_;rintro⟨da,cs,r,he⟩;have:=(Reads.unique rb _ _ r).1;rw[<- this,hq]at he;cases he
theorem Q2v{α β:Type}{f:α->Bool}{g:β->Bool}{xs:List α}{ys:List β}(h:xs.map f=ys.map g):xs.any f=ys.any g:=by
 have e:=congrArg (List.any · id) h;simpa[any_map]using e
theorem Q9I{op:CmpOp}{f:Bool->Bool}(hu:X.A.units+64<cLine)
  (hS:∀{z:List Nat}{c:Nat}{t u:Tok}{s:Shared}{Q:Value->Shared->Prop},Q (.bool (f (decide (c∈z)))) s->wpAny (model X.prog X.w) X.A (compareOp op (.str (S [c]) t) (.str (S z) u)) Q X.xe s)
  (hL:∀{l:Addr}{items:Array Value}{x:Value}{s:Shared}{Q:Value->Shared->Prop}(e:Value->Bool),s.heap.IsList l items->(∀y,y∈items->SeqAt.EqAt X.A.in1 s y x (e y))->Q (.bool (f (items.any e))) s->wpAny (model X.prog X.w) X.A (compareOp op x (.ref l)) Q X.xe s)
  (hT:∀{l:Addr}{items:Array Value}{x:Value}{s:Shared}{Q:Value->Shared->Prop}(e:Value->Bool),s.heap.IsTuple l items->(∀y,y∈items->SeqAt.EqAt X.A.in1 s y x (e y))->Q (.bool (f (items.any e))) s->wpAny (model X.prog X.w) X.A (compareOp op x (.ref l)) Q X.xe s):dA X (compareOp op) (rIn1 f):=by
 rintro pins s σ H x y v u Q I rx ry ⟨dx,dy,M,R,ex,ey,m,q,k⟩;by_cases hz:∃z,dy=.str z
 ·obtain⟨z,rfl⟩:=hz;cases ey;cases ex<;>first|exact False.elim q|skip
  rename_i hz w hw
  match w,hw,q,rx with
  |[c],hw,q,rx=>
   obtain⟨t,rfl⟩:=rx;obtain⟨t',rfl⟩:=ry;exact hS ⟨.bl _,H,I,rfl,k _ M _ H q (Ext.refl H) m (.bl _)⟩
 ·have q':∃xs,zaT M dy=some xs/\plain 11 (res M dx)=true/\xs.all (plain 11)=true/\R (.bl (f (xs.any λd=>eqB d (res M dx)))) M:=by
   unfold rIn1 at q;split at q
   ·exact absurd ⟨_,rfl⟩ hz
   ·exact q
  obtain⟨xs,e1,h1,h2,q⟩:=q';obtain⟨p,vs,rfl,sq,d,_⟩:=Q6L m ey e1;cases ry;rcases sq with sq|sq
  ·obtain⟨its,rv,pl,hzz⟩:=I.list sq;obtain⟨e,h3,h4⟩:=Q9H I m hu h1 ex rx h2 d rv;refine hL e pl.isList (λy hy=>h3 y (by simpa using hy)) ⟨.bl _,H,I,rfl,k _ M _ H ?_ (Ext.refl H) m (.bl _)⟩
   rw[show its.toArray.any e=its.any e by simp,Q2v h4]
   exact q
  ·obtain⟨its,rv,pl,hzz⟩:=I.tuple sq;obtain⟨e,h3,h4⟩:=Q9H I m hu h1 ex rx h2 d rv;refine hT e pl (λy hy=>h3 y (by simpa using hy)) ⟨.bl _,H,I,rfl,k _ M _ H ?_ (Ext.refl H) m (.bl _)⟩
   rw[show its.toArray.any e=its.any e by simp,Q2v h4]
   exact q
theorem qD(hu:X.A.units+64<cLine):dA X (compareOp .In) (rIn1 id):=by
 refine Q9I hu (fun{z c t u s Q} h=>?_) (λe h1 h2 h3=>SeqAt.in_listAt e h1 h2 h3) (λe h1 h2 h3=>SeqAt.in_tupleAt e h1 h2 h3);refine in_str ?_;have:=StrLaws.found_one (S z) c;rw[Q2M]at this;have e:S [c]=⟨#[c]⟩:=rfl;rw[e,this];exact h
theorem Q8v(hu:X.A.units+64<cLine):dA X (compareOp .NotIn) (rIn1 not):=by
 refine Q9I hu (fun{z c t u s Q} h=>?_) (λe h1 h2 h3=>SeqAt.notIn_listAt e h1 h2 h3) (λe h1 h2 h3=>SeqAt.notIn_tupleAt e h1 h2 h3);refine notIn_str ?_;have:=StrLaws.found_one (S z) c;rw[Q2M]at this;have e:S [c]=⟨#[c]⟩:=rfl;rw[e,this];exact h
end
end DL
namespace DL
open PySem PySem.Spec L2
open PyProof.Rows hiding St
open AutoSeq1 (wpAny_loadPart')
section
variable{prog:Program}{w:World}{A:Around}{E:Value->Shared->Prop}{s:Shared}
end
end DL
namespace DL
open PySem PySem.Spec L2
open PyProof.Rows hiding St
section
variable{prog:Program}{w:World}{A:Around}{E:Value->Shared->Prop}{s:Shared}
end
section
variable{prog:Program}{w:World}{A:Around}{E:Value->Shared->Prop}{s:Shared}
end
section
variable{X:Cx}{a b c e o tg:Expr}{es:List Expr}{ta tb te to:aB}{pos p2 p apos cpos:Pos}{K:Frag}
end
section
variable{X:Cx}{a b c e tg:Expr}{es:List Expr}{ta tb te:aB}{tt tu:cO}{pos p2 p:Pos}{K:Frag}
noncomputable def Itv(K:Frag)(a:Addr)(n:Nat):It:=
 ⟨λi H=>∃xs x,cB K H a xs/\xs.length=n/\i<n/\xs[n-1-i]?=some x,λi H x H'=>H'=H/\∀xs,cB K H a xs->xs[n-1-i]?=some x,λi _=>n<=i⟩
theorem Q8w(a it:Addr)(n:Nat):Turn P w K tg (Itv K a n) [it] it (λi h=>i<=n/\h.IsRevIter it a ((n:Int)-1-(i:Int))) where
 mem:=by simp
 obj:=λi h st b hb=>by
  have e:b=it:=by simpa using hb
  subst e;obtain⟨_,o,e,c,d⟩:=st;exact⟨o,e,λv z=>by rw[d]at z;cases z⟩
 keep:=λi h h' st k=>⟨st.1,st.2.at λo e=>k it (by simp) o e⟩
 item:=by
  intro X hP hw hK hc i pins s σ H E I hf st hg;subst hP hw hK;obtain⟨xs,x,hq,hn,hi,hx⟩:=hg;obtain⟨its,rv,p,hz⟩:=I.list hq;obtain⟨u,hu,ru⟩:=rv.get hx;obtain⟨f0,f1,f2,f3,f4,f5⟩:=hf it (by simp)
  have e:(n:Int)-1-(i:Int)=((n-1-i:Nat):Int):=by room
  have hit:=st.2;rw[e]at hit;refine wpAny_pyNext_rev_item hit p.isList (x:=u) (by simpa using hu) λh' st' sb=>?_
  have e2:((n-1-i:Nat):Int)-1=(n:Int)-1-((i+1:Nat):Int):=by room
  rw[e2]at st';have I1:Inv X pins σ H {s with heap:=h'}:=I.turned (t':=s.toks) (λb o hb e=>(sb.2 b hb).trans e) f0 f1 f3 f4 f5;obtain⟨o,e,c,d⟩:=id st';exact⟨u,rfl,fS (s:={s with heap:=h'}) e c d (by decide) ⟨x,H,I1,ru,⟨rfl,λys hy=>by rw[I.fQ hy hq];exact hx⟩,⟨hi,st'⟩,λb hb=>(hf b hb).1⟩⟩
 done:=by
  intro X hP hw hK hc i pins s σ H E I hf st hg;subst hP hw hK;obtain⟨f0,f1,f2,f3,f4,f5⟩:=hf it (by simp)
  have hn:n<=i:=hg;have e:(n:Int)-1-(i:Int) = -1:=by have:=st.1;room
  have hit:=st.2;rw[e]at hit;exact wpAny_pyNext_rev_end (I.ok.hd hc) hit λh' eb=>⟨rfl,I.turned (t':=s.toks) (λb o hb e=>eb b o hb e) f0 f1 f3 f4 f5⟩
 self:=λ_ _ _ _ _ st h=>wpAny_pyIter_revIter st.2 h
theorem aM.rev{a:Addr}{ds:List D}{vs:List V}{H:Hp}{Cd:DH->Prop}(q:ia K H a vs)(r:ai K H ds vs):aM K (Itv K a vs.length) ds.reverse Cd H where
 go:=λi H' M x m c hi=>by
  have hi':i<vs.length:=by rw[<- r.length,<- length_reverse];exact hi
  exact⟨vs,vs[vs.length-1-i],(ia.ext x q).sq,rfl,hi',Zx (by room)⟩
 gi:=λi H' M y H'' x m c ⟨e,h⟩ hi=>by
  subst e;have hi':i<ds.length:=by rw[<- length_reverse];exact hi
  obtain⟨d,e1,e2⟩:=r.get' (h vs (ia.ext x q).sq);refine⟨Ext.refl _,m,d,?_,e2.ext x⟩;rw[List.getElem?_reverse hi',r.length];exact e1
 stop:=λi H' M x m c hi=>by
  rw[<- r.length,<- length_reverse];exact hi
def diRev(te:aB):iG:=λρ M R=>te ρ M λd M1=>match d with
 |.lst ds=>R ds.reverse (λ_=>True) M1
 |_=>False
theorem QcI(he:DE X e te)(hg:Gl X "reversed")(hm:X.mg "reversed" = none)(hs:starEach [e] X.env=[(false,eval e X.env)]):DI X tg (.Call (.Name "reversed" p) [e] [] pos) (diRev te):=by
 rintro pins s σ H R I ⟨ρ,M,RD,sm,m,h,k⟩;refine wpAny_Call_Name_kw (oG I hg hm (by rfl) ?_ (by decide) (by decide))
 refine PyProof.Rows.callWith_type1 ?_ hs rfl;rw[hs];show wpAny _ _ (spliced ((false,eval e X.env)::[])) _ _ s;refine ZM (aE (he pins s σ H (λv H2=>∃d M2,Ext H H2/\ar X.K M2 H2/\Den X.K H2 d v/\(match d with
  |.lst ds=>RD ds.reverse (λ_=>True) M2
  |_=>False)) I ⟨ρ,M,_,sm,m,h,λd M2 v H2 h2 x2 m2 e2=>⟨d,M2,x2,m2,e2,h2⟩⟩) λu s2 ⟨x,H2,I2,r2,d,M2,x2,m2,e2,q2⟩=>?_)
 refine Calls.spliced_nil ?_;cases e2<;>first|exact False.elim q2|skip
 rename_i t ds vs sq dn;cases r2;obtain⟨its,rv,p,hzz⟩:=I2.list sq.sq;refine call_reversed_list p.isList ?_;refine wpAny_pyIter_revIter ⟨_,Zw _ rfl,rfl,rfl⟩ ?_;have hlen:its.length=vs.length:=rv.length.symm;have e0:((its.toArray.size:Nat):Int)-1=(vs.length:Int)-1-((0:Nat):Int):=by simp[hlen]
 refine⟨s2.heap.objs.size,[s2.heap.objs.size],_,_,H2,rfl,I2.kept (t':=s2.toks) λb o e=>Zi _ e,Q8w t _ vs.length,⟨Z8 _,⟨_,Zw _ rfl,rfl,by rw[<- e0];rfl⟩⟩,λb hb=>?_,k _ _ M2 H2 _ q2 x2 m2 (aM.rev sq dn)⟩
 have e:b=s2.heap.objs.size:=by simpa using hb
 subst e;exact I2.fH (Zy _) (I2.av.fresh (Zy _))
theorem _root_.L2.PK.imp'(h:PK X kws t)(i:∀σ H Q,t' σ H Q->t σ H Q):PK X kws t':=λpos pins s σ H Q I q=>h pos pins s σ H Q I (i σ H Q q)
noncomputable abbrev DKw(X:Cx)(kws:List Keyword)(t:d7):Prop:=PK X kws (lA X.K t)
theorem QaP:DKw X [] dNil:=Qca.imp' λσ H Q ⟨ρ,M,R,s,m,h,k⟩=>k [] M [] H h (Ext.refl H) m .nil
theorem Q8x(ha:DE X e te)(hr:DKw X kws tr):DKw X (⟨nm,e,kpos⟩::kws) (zaX te tr):=
 (Qag ha hr).imp' λσ H Q ⟨ρ,M,R,s,m,h,k⟩=>⟨ρ,M,_,s,m,h,λd M1 v H1 h1 x1 m1 e1=>⟨ρ,M1,_,s.ext x1,m1,h1,λds M2 vs H2 h2 x2 m2 e2=>k _ M2 _ H2 h2 (x1.trans x2) m2 (.cons (e1.ext x2) e2)⟩⟩
def dBot:cU:=λ_ _ _=>False
theorem Q8y{st:Stmt}:DS X st dBot:=by
 rintro pins s σ H D I ⟨ρ,M,DD,sm,m,h,k⟩;exact h.elim
end
noncomputable abbrev DX:=Nat->DH->Prop
noncomputable abbrev sv:=List D->DH->DK->DX->Prop
noncomputable abbrev CN:=Nat->Option Str
noncomputable def rowOf(c:Nat):Option Int:=if c<64 then none else some ((c / 64-1:Nat):Int)
def md(c:Nat)(r:Option (Int×Addr))(H:Hp):Prop:=r.map (·.1)=rowOf c/\∀n d,r=some (n,d)->H d=none
def AftX(K:Frag)(mg:Str->Option Value)(cn:CN)(H:Hp)(RX:DX)(R0:XC->Hp->Prop):Prop:=∀c x u r M' H',RX c M'->cn c=some x->mg x=some u->md c r H'->Ext H H'->ar K M' H'->R0 (u,r) H'
def lX(K:Frag)(mg:Str->Option Value)(cn:CN)(RX:DX):XC->Hp->Prop:=λu H=>∃c x M,cn c=some x/\mg x=some u.1/\md c u.2 H/\ar K M H/\RX c M
def nu(K:Frag)(mg:Str->Option Value)(cn:CN)(sp:sv):Sp:=λvs H Q E=>∃ds M R RX,ai K H ds vs/\ar K M H/\sp ds M R RX/\iR K H R Q/\AftX K mg cn H RX λu H'=>E u.1 u.2 H'
section
variable{X:Cx}{a b c e:Expr}{es:List Expr}{te:aB}{pos p2 p np cpos:Pos}{K:Frag}{cn:CN}
end
section
variable{X:Cx}{pos:Pos}
def jR(c:cO)(tb:cU):cU:=λDD ρ M=>∃W:Nat->bL->DH->Prop,(∃m,W m ρ M)/\∀m ρ M,W m ρ M ->
 c ρ M λb M1=>if b=true then ∃N:bL->DH->Prop,(∀ρ' M',N ρ' M'->∃m',m'<m/\W m' ρ' M')/\tb {DD with nx:=N,ct:=N,bk:=DD.nx} ρ M1 else DD.nx ρ M1
theorem Q8z(hp:PassesOwn (model X.prog X.w) X.A X.env X.xe)(hc:DT X c tc)(hb:kX X body tb):DS X (.While c body [] pos) (jR tc tb):=
 (Q7N hp hc hb).imp λD σ H ⟨ρ,M,DD,s,m,⟨W,⟨m0,w0⟩,turn⟩,k⟩=>
  ⟨λn σ' H'=>∃ρ' M',Ext H H'/\aC X.K H' ρ' σ'/\ar X.K M' H'/\W n ρ' M',⟨m0,ρ,M,Ext.refl H,s,m,w0⟩,by
   rintro n σ' H' ⟨ρ',M',x',s',m',w'⟩;refine⟨ρ',M',_,s',m',turn n ρ' M' w',λb M1 H1 h1 x1 m1=>?_⟩;cases b with
   |true=>
    obtain⟨N,hN,h2⟩:=(Zg rfl).mp h1;refine bj ⟨λσ2 H2=>∃ρ2 M2,Ext H H2/\aC X.K H2 ρ2 σ2/\ar X.K M2 H2/\N ρ2 M2,?_,?_⟩
    ·rintro σ2 H2 ⟨ρ2,M2,x2,s2,m2,n2⟩;obtain⟨m',hm,w2⟩:=hN ρ2 M2 n2;exact⟨m',hm,ρ2,M2,x2,s2,m2,w2⟩
    ·have xx:=x'.trans x1;exact⟨ρ',M1,_,s'.ext x1,m1,h2,⟨λρ4 M4 σ4 H4 q4 x4 s4 m4=>⟨ρ4,M4,xx.trans x4,s4,m4,q4⟩,(k.ext xx).rt,λρ4 M4 σ4 H4 q4 x4 s4 m4=>(k.ext xx).nx ρ4 M4 σ4 H4 q4 x4 s4 m4,λρ4 M4 σ4 H4 q4 x4 s4 m4=>⟨ρ4,M4,xx.trans x4,s4,m4,q4⟩⟩⟩
   |false=>exact br (k.nx ρ' M1 σ' H1 ((Zd Z0).mp h1) (x'.trans x1) (s'.ext x1) m1)⟩
end
section
variable{X:Cx}{K:Frag}{H:Hp}
noncomputable def zaH(M:DH):D->Option (List D)
 |.lst xs=>some xs
 |.ref a=>match M a with
  |some (.lst xs)=>some xs
  |_=>none
 |_=>none
theorem rG(m:ar K M H)(den:Den K H d v)(e:zaH M d=some xs):∃p vs,v=.ref p/\cB K H p vs/\ai K H xs vs:=by
 cases den with
 |lst sq d=>cases e;exact⟨_,_,rfl,sq.sq,d⟩
 |ref p=>
  cases qa:M p with
  |none=>simp[zaH,qa]at e
  |some o=>
   cases o with
   |ah _=>erw[zaH,qa]at e;cases e
   |lst ds=>
    erw[zaH,qa]at e;cases e;obtain⟨vs,e2,dn⟩:=m.get qa;exact⟨_,_,rfl,.inl (.inl e2),dn⟩
 |_=>cases e
def zbu:List D->DH->DK->Prop:=λds M Q=>match ds with
 |[d]=>∃zs:List (List Nat),zaH M d=some (zs.map .str)/\zs.length<64/\∀zs':List (List Nat),zs'.Perm zs->zs'.Pairwise (λa b=>a<=b)->∀p,M p=none->Q (.ref p) (ae M p (.lst (zs'.map .str)))
 |_=>False
theorem Q4I:∀{zs:List (List Nat)}{vs:List V}{its:List Value},ai K H (zs.map .str) vs->Vals vs its->StrsAre its (zs.map S)
 |[],_,_,.nil,.nil=>.nil
 |z::r,_,_,.cons (.str _ _) t,.cons ⟨tk,e⟩ u=>by
  subst e;exact .cons (S z) tk (Q4I t u)
theorem Q3u:∀{its:List Value}{ss:List Str},StrsAre its ss->Vals (ss.map .str) its
 |_,_,.nil=>.nil
 |_,_,.cons x t r=>.cons ⟨t,rfl⟩ (Q3u r)
theorem Q6O:∀{zs:List (List Nat)}{vs:List V},ai K H (zs.map .str) vs->∀z∈zs,(z.all λc=>decide (c<1114112))=true
 |[],_,_,_,h=>nomatch h
 |z::r,_,.cons (.str _ h) t,y,hy=>by
  rcases Zf.mp hy with e|e
  ·rw[e];exact h
  ·exact Q6O t y e
theorem Q4J:∀{zs:List (List Nat)},(∀z∈zs,(z.all λc=>decide (c<1114112))=true)->ai K H (zs.map .str) ((zs.map S).map .str)
 |[],_=>.nil
 |z::r,h=>.cons (.str z (h z (Zk ..))) (Q4J λy hy=>h y (Zc _ hy))
theorem rD(x:Str):S x.cps.toList=x:=by
 cases x;rfl
theorem Q3v:∀(p:Str) (l:List Str),risingS p l=true->(p::l).Pairwise (λa b=>a.cps.toList<=b.cps.toList)
 |p,[],_=>List.pairwise_singleton ..
 |p,x::r,h=>by
  have h':(!ltCps x.cps.toList p.cps.toList&&risingS x r)=true:=h;rw[Zj,Yg,ltCps_eq,decide_eq_false_iff_not]at h';have ih:=Q3v x r h'.2;refine pairwise_cons.mpr ⟨λy hy=>?_,ih⟩;have h1:p.cps.toList<=x.cps.toList:=h'.1;rcases Zf.mp hy with e|e
  ·rw[e];exact h1
  ·exact List.le_trans h1 ((pairwise_cons.mp ih).1 y e)
theorem Q6P:∀(l:List Str),sortedS l=true->l.Pairwise (λa b=>a.cps.toList<=b.cps.toList)
 |[],_=>.nil
 |x::r,h=>Q3v x r h
theorem Q6Q:jK X (.builtin "sorted") zbu:=by
 rintro pins s σ H xs us Q I rv ⟨ds,M,R,dn,m,q,k⟩
 match ds,dn,q with
 |[d],.cons den .nil,⟨zs,e,h64,q⟩=>
  obtain⟨p,vs,rfl,sq,dd⟩:=rG m den e;obtain⟨u,rfl,rx⟩:=vals1 rv;cases rx;obtain⟨its,r',pl,hz⟩:=I.list sq;have hS:=Q4I dd r';have hlen:its.length=zs.length:=by rw[<- r'.length,<- dd.length,Ze]
  refine sorted_strs pl.isList hS (by rw[hlen];exact h64) λout ss' a1 a2 a3=>?_
  obtain⟨n,hn⟩:=sortedAll_at s.heap its out;have ez:(ss'.map λx=>x.cps.toList).map S=ss':=by
   rw[Yk]
   conv=>rhs;rw[<- map_id ss']
   exact Ym λx _=>rD x
  have pz:(ss'.map λx=>x.cps.toList).Perm zs:=by
   have:=a2.map λx:Str=>x.cps.toList;rw[Yk]at this;have e0:zs.map ((λx:Str=>x.cps.toList) ∘ S)=zs:=by
    conv=>rhs;rw[<- map_id zs]
    exact Ym λx _=>by simp[S]
   rwa [e0]at this
  have fr:H (s.heap.objs.size+1)=none:=I.av.fresh (le_succ _);have al:∀z∈(ss'.map λx=>x.cps.toList),(z.all λc=>decide (c<1114112))=true:=λz hz=>Q6O dd z (pz.mem_iff.mp hz);have dn':ai X.K H ((ss'.map λx=>x.cps.toList).map .str) (ss'.map .str):=by
   have:=Q4J (K:=X.K) (H:=H) al
   rwa [ez]at this
  have hl':(ss'.map V.str).length<=sizeLine:=by
   have:=a2.length_eq;rw[Ze]at this ⊢;rw[this,<- hlen,<- r'.length];exact hz
  exact⟨.ref _,_,I.laid (t':=s.toks) (λb o e=>sortedAll_old e) (le_succ _) (show aG X.prog X.w _ _ _ (.lst (ss'.map V.str)) from⟨hl',out.toList,n,Q3u a1,hn⟩),rfl,
   k _ _ _ _ (q _ pz (pairwise_map.mpr (Q6P ss' a3)) _ (m.free fr)) (Ext.new fr) (m.gC fr dn') (.ref _)⟩
end
section
variable{X:Cx}
end
section
variable{l:Addr}{dd:Option Addr}{xs:Array Value}{n:Nat}{sl:Array (Option Value)}
end
section
variable{X:Cx}
end
section
variable{X:Cx}{pos p p2 p3 cpos np:Pos}{cn:CN}{e:Expr}{es:List Expr}
noncomputable def gone(D:jF)(i:Nat):jF:=⟨λρ M=>D.nx (ρ.set i none) M,D.rt,λρ M=>D.bk (ρ.set i none) M,λρ M=>D.ct (ρ.set i none) M⟩
def dIsE(je:Nat)(a:Addr)(b:Bool):aB:=λρ M Q=>dVar je ρ M λd M1=>d=.ref a/\Q (.bl b) M1
end
section
variable{X:Cx}
end
section
variable{X:Cx}{e:Expr}{es:List Expr}{pos p np cpos:Pos}{cn:CN}
end
section
variable{α:Type}
noncomputable def aw(kvs:List (List (List Nat)×D))(k:List (List Nat)):Option D:=(kvs.find? λkv=>decide (kv.1=k)).map (·.2)
noncomputable def putD(kvs:List (List (List Nat)×D))(k:List (List Nat))(v:D):List (List (List Nat)×D):=
 if (kvs.any λkv=>decide (kv.1=k))=true then kvs.map (λkv=>if kv.1=k then (kv.1,v) else kv) else kvs++[(k,v)]
theorem Q8A:aw [] k=none:=rfl
theorem gK(e:p.1=k):aw (p::r) k=some p.2:=by simp[aw,ZU,e]
theorem gJ(e:¬ p.1=k):aw (p::r) k=aw r k:=by simp[aw,ZU,e]
theorem rP(k:List (List Nat)):∀kvs:List (List (List Nat)×D),(kvs.any λkv=>decide (kv.1=k))=(aw kvs k).isSome
 |[]=>rfl
 |p::r=>by
  rw[any_cons];by_cases e:p.1=k
  ·erw[gK e,Z7 e,Bool.true_or,Option.isSome_some]
  ·rw[gJ e,Zt e,Bool.false_or];exact rP k r
theorem Q4K(k j:List (List Nat))(y:D):∀kvs:List (List (List Nat)×D),aw (kvs.map λkv=>if kv.1=k then (kv.1,y) else kv) j=(aw kvs j).map λx=>if j=k then y else x
 |[]=>rfl
 |p::r=>by
  have ih:=Q4K k j y r;rw[Zu];by_cases h:p.1=k
  ·rw[Zg h];by_cases e:p.1=j
   ·rw[gK (p:=(p.1,y)) e,gK e,ZV,Zg (e.symm.trans h)]
   ·rw[gJ (p:=(p.1,y)) e,gJ e,ih]
  ·rw[Zd h];by_cases e:p.1=j
   ·rw[gK (p:=p) e,gK e,ZV,Zd (λz=>h (e.trans z))]
   ·rw[gJ (p:=p) e,gJ e,ih]
theorem Q3w(k j:List (List Nat))(y:D):∀kvs:List (List (List Nat)×D),aw kvs k=none->aw (kvs++[(k,y)]) j=if j=k then some y else aw kvs j
 |[],_=>by
  by_cases e:k=j
  ·rw[Zg e.symm];exact gK (p:=(k,y)) e
  ·rw[Zd (λz=>e z.symm)];exact gJ (p:=(k,y)) e
 |p::r,hn=>by
  rw[cons_append];have hk:¬ p.1=k:=λz=>by rw[gK z]at hn;cases hn
  rw[gJ hk]at hn;have ih:=Q3w k j y r hn;by_cases e:p.1=j
  ·rw[gK e,gK e,Zd (λz=>hk (e.trans z))]
  ·rw[gJ e,gJ e,ih]
theorem iA(kvs:List (List (List Nat)×D))(k j:List (List Nat))(y:D):aw (putD kvs k y) j=if j=k then some y else aw kvs j:=by
 unfold putD;by_cases a:(kvs.any λkv=>decide (kv.1=k))=true
 ·rw[Zg a,Q4K];rw[rP]at a;by_cases e:j=k
  ·obtain⟨x,hx⟩:=Option.isSome_iff_exists.mp a;rw[Zg e,e,hx,ZV,Zg rfl]
  ·rw[Zd e];cases aw kvs j with
   |none=>rfl
   |some x=>rw[ZV,Zd e]
 ·rw[Zd a];refine Q3w k j y kvs ?_;rw[rP]at a;cases q:aw kvs k with
  |none=>rfl
  |some x=>rw[q]at a;exact (a rfl).elim
theorem oR(kvs:List (List (List Nat)×D))(k:List (List Nat))(v:D):(putD kvs k v).length<=kvs.length+1:=by
 unfold putD;split
 ·rw[Ze];room
 ·rw[Zp,Zs,ZN];room
end
theorem oF:∀{a b:List (List Nat)},nk a=nk b->a=b
 |[],[],_=>rfl
 |[],_::_,e=>by simp[nk]at e
 |_::_,[],e=>by simp[nk]at e
 |x::xs,y::ys,e=>by
  have e':(Sum.inr (S x):Key)::nk xs=Sum.inr (S y)::nk ys:=e;injection e' with e1 e2;injection e1 with e1;rw[jy e1,oF e2]
section
variable{K:Frag}{H:Hp}
theorem Q1s:∀{n:List (List Nat)}{vs:List V},ai K H (n.map .str) vs->vs=(nk n).map kV
 |[],_,h=>by cases h;rfl
 |x::r,_,h=>by
  cases h with
  |cons h1 h2=>
   cases h1;rw[Q1s h2];rfl
theorem fI.val(r:fI K H kvs vs)(k:List (List Nat)) :
  (aw kvs k=none/\aH vs (nk k)=none)\/∃d v,aw kvs k=some d/\aH vs (nk k)=some v/\Den K H d v:=by
 induction r with
 |nil=>exact .inl ⟨rfl,rfl⟩
 | @cons p q ps qs h t ih=>
  by_cases e:p.1=k
  ·exact .inr ⟨p.2,q.2,gK e,nU (by rw[h.1,e]),h.2⟩
  ·rw[gJ e,nT (by rw[h.1];exact λz=>e (oF z))];exact ih
theorem fI.put(r:fI K H kvs vs)(k:List (List Nat))(den:Den K H d v):fI K H (putD kvs k d) (putK vs (nk k) v):=by
 have an:(kvs.any λkv=>decide (kv.1=k))=vs.any λkv=>decide (kv.1=nk k):=by
  rw[rP,oM];rcases r.val k with ⟨a,b⟩|⟨x,y,a,b,_⟩<;>rw[a,b]<;>rfl
 unfold putD putK;rw[an];by_cases e:(vs.any λkv=>decide (kv.1=nk k))=true
 ·rw[Zg e,Zg e];clear an e
  induction r with
  |nil=>exact .nil
  | @cons p q ps qs h t ih=>
   rw[Zu,Zu];refine .cons ?_ ih;by_cases e:p.1=k
   ·rw[Zg e,Zg (by rw[h.1,e])];exact⟨h.1,den⟩
   ·rw[Zd e,Zd (by rw[h.1];exact λz=>e (oF z))];exact h
 ·rw[Zd e,Zd e];exact Paired.snoc r ⟨rfl,den⟩
theorem fI.length(r:fI K H kvs vs):kvs.length=vs.length:=ZQ r
noncomputable def bq(f:Str)(v:D):List (Str×D)->List (Str×D)
 |[]=>[(f,v)]
 |(g,x)::r=>if g=f then (g,v)::r else (g,x)::bq f v r
theorem iF.lookup(r:iF K H fs vs)(e:fs.lookup f=some d):∃v,vs.lookup f=some v/\Den K H d v:=by
 induction r with
 |nil=>cases e
 | @cons p q ps qs h t ih=>
  obtain⟨p1,p2⟩:=p;obtain⟨q1,q2⟩:=q;obtain⟨h1,h2⟩:=h;cases h1;rw[ZJ]at e ⊢;cases c:f==p1 with
  |true=>rw[c]at e;cases e;exact⟨q2,rfl,h2⟩
  |false=>rw[c]at e;exact ih e
theorem iF.no(r:iF K H fs vs)(e:fs.lookup f=none):vs.lookup f=none:=by
 induction r with
 |nil=>rfl
 | @cons p q ps qs h t ih=>
  obtain⟨p1,p2⟩:=p;obtain⟨q1,q2⟩:=q;obtain⟨h1,h2⟩:=h;cases h1;rw[ZJ]at e ⊢;cases c:f==p1 with
  |true=>rw[c]at e;cases e
  |false=>rw[c]at e;exact ih e
theorem iF.put(r:iF K H fs vs)(f:Str)(den:Den K H d v):iF K H (bq f d fs) (bQ f v vs):=by
 induction r with
 |nil=>exact .cons ⟨rfl,den⟩ .nil
 | @cons p q ps qs h t ih=>
  obtain⟨p1,p2⟩:=p;obtain⟨q1,q2⟩:=q;obtain⟨h1,h2⟩:=h;cases h1;show iF K H (if p1=f then (p1,d)::ps else (p1,p2)::bq f d ps) (if p1=f then (p1,v)::qs else (p1,q2)::bQ f v qs)
  by_cases e:p1=f
  ·rw[Zg e,Zg e];exact .cons ⟨rfl,den⟩ t
  ·rw[Zd e,Zd e];exact .cons ⟨rfl,h2⟩ ih
theorem iF.length(r:iF K H fs vs):fs.length=vs.length:=ZQ r
end
theorem ar.aK{K:Frag}{H:Hp}{M:DH}(h:ar K M H){a:Addr}{kvs:List (List (List Nat)×D)}(e:M a=some (.ah (.aK kvs))):∃vs,H a=some (.dT vs)/\fI K H kvs vs:=h a _ e
theorem ar.ins{K:Frag}{H:Hp}{M:DH}(h:ar K M H){a:Addr}{c:Str}{fs:List (Str×D)}(e:M a=some (.ah (.ins c fs))):∃C dx vs,nsIn K mainGlobals c=some (some (.ref C))/\H a=some (.ins C dx vs)/\iF K H fs vs:=h a _ e
theorem iO{K:Frag}{H:Hp}{n:List (List Nat)}{v:V}(h:Den K H (.tup (n.map .str)) v):∃b,v=.ref b/\H b=some (.tup ((nk n).map kV)):=by
 cases h with
 |tup q r=>exact⟨_,rfl,by rw[<- Q1s r];exact q⟩
section
variable{X:Cx}{e o value a b k:Expr}{es:List Expr}{pos pos' apos cpos p:Pos}{te tv tk td:aB}{t:d7}
def dFld(c f:Str)(te:aB):aB:=λρ M Q=>te ρ M λx M1=>∃a fs d,x=.ref a/\M1 a=some (.ah (.ins c fs))/\fs.lookup f=some d/\Q d M1
theorem QcJ(hC:nsIn X.K mainGlobals c=some (some (.ref C)))(hc:Cls X.K C)(hn:bI X.K C f)(he:DE X e te)(hb:attributeBase e f X.env (eval e X.env)=eval e X.env):DE X (.Attribute e f pos) (dFld c f te):=
 (Qc6 he hb).imp λσ H Q ⟨ρ,M,R,s,m,h,k⟩=>⟨ρ,M,_,s,m,h,λd M1 v H1 ⟨a,fs,d',e1,e2,e3,h1⟩ x1 m1 den=>by
  subst e1;cases den;obtain⟨C',dx,vs,g1,g2,g3⟩:=m1.ins e2;rw[hC]at g1;cases g1;obtain⟨v,l1,l2⟩:=iF.lookup g3 e3;exact⟨a,C,dx,vs,v,rfl,g2,hc,hn,l1,k _ M1 _ _ h1 x1 m1 l2⟩⟩
def dSetF(c f:Str)(to tv:aB):cU:=λDD ρ M=>tv ρ M λy M1=>to ρ M1 λx M2=>∃a fs,x=.ref a/\M2 a=some (.ah (.ins c fs))/\fs.length<1000/\DD.nx ρ (ae M2 a (.ah (.ins c (bq f y fs))))
theorem QaQ(hC:nsIn X.K mainGlobals c=some (some (.ref C)))(hc:Cls X.K C)(hn:bI X.K C f)(ho:DE X o to)(hv:DE X value tv)
  (hs:swapsWith value (some (.Attribute o f pos')) pos.line X.env=pure false):DS X (.Assign [.Attribute o f pos'] value pos) (dSetF c f to tv):=
 (Qc7 ho hv hs).imp λD σ H ⟨ρ,M,DD,s,m,h,k⟩=>⟨ρ,M,_,s,m,h,λy M1 yv H1 h1 x1 m1 dy=>⟨ρ,M1,_,s.ext x1,m1,h1,λx M2 xv H2 ⟨a,fs,e1,e2,e3,h2⟩ x2 m2 dx'=>by
  subst e1;cases dx';obtain⟨C',dx,vs,g1,g2,g3⟩:=m2.ins e2;rw[hC]at g1;cases g1;have xx:Ext H2 (upd H2 a (.ins C dx (bQ f yv vs))):=Ext.mut g2 (λ_ z=>nomatch z) (λ_ _ z=>nomatch z)
  exact⟨a,C,dx,vs,rfl,g2,hc,hn,by rw[<- g3.length];exact e3,k.nx ρ _ σ _ h2 ((x1.trans x2).trans xx) ((s.ext (x1.trans x2)).ext xx)
   (m2.put xx ⟨C,dx,_,hC,b9,Paired.b6 (g3.put f (dy.ext x2)) λp q z=>⟨z.1,Den.ext xx z.2⟩⟩)⟩⟩⟩
def zbz(c m:Str)(sp:aU)(to:aB)(t:d7):aB:=λρ M Q=>to ρ M λx M1=>∃a fs,x=.ref a/\M1 a=some (.ah (.ins c fs))/\fs.lookup m=none/\t ρ M1 λds M2=>sp (.ref a::ds) M2 Q
theorem Q8B{c m:Str}{C:Addr}{sp:aU}{to:aB}{E:XK}{K:Frag}(hC:nsIn K mainGlobals c=some (some (.ref C))){σ:St}{H:Hp}{Q:VK}(h:lE K (zbz c m sp to t) σ H Q) :
  i6 C m (di K sp) [] E (lE K to) (lA K t) σ H Q:=by
 obtain⟨ρ,M,R,s,mm,h,k⟩:=h;refine⟨ρ,M,_,s,mm,h,λx M1 xv H1 ⟨a,fs,e1,e2,e3,h1⟩ x1 m1 den=>?_⟩;subst e1;cases den;obtain⟨C',dx,vs,g1,g2,g3⟩:=m1.ins e2;rw[hC]at g1;cases g1;refine⟨a,dx,vs,rfl,g2,g3.no e3,ρ,M1,_,s.ext x1,m1,h1,λds M2 ws H2 h2 x2 m2 dn=>?_⟩;refine⟨.ref a::ds,M2,R,?_,m2,h2,k.ext (x1.trans x2)⟩;rw[append_nil];exact .cons (.ref a) dn
theorem QaR(hC:nsIn X.K mainGlobals c=some (some (.ref C)))(hc:Cls X.K C)(hm:Meth X.K C m f)
  (F:aS X.prog X.w X.K X.mg X.base CX kk f fd ps (di X.K sp)) (hr:aQ kk X.A) (hb:Binds X.K fd ps []) (hx:gP CX X E) (ho:DE X o to) (ha:DA X (e::es) t)
  (hst:starEach (e::es) X.env=(false,eval e X.env)::starEach es X.env) (hpl:(backTo pos (starEach es X.env)).any (·.1)=false)
  (ht:eval (.Call (.Attribute o m apos) (e::es) [] pos) X.env=(do
   let ov <- eval o X.env
   standAt apos.atName
   let (f,first) <- holding [ov] (getMethod ov m pl)
   callWith pos f first (backTo pos (starEach (e::es) X.env)) (backToKw pos (keywordEach [] X.env)))):DE X (.Call (.Attribute o m apos) (e::es) [] pos) (zbz c m sp to t):=
 (Qaf ho hc hm F hr hb .nil hx ha hst hpl ht).imp λσ H Q h=>Q8B hC h
theorem Q8C(hC:nsIn X.K mainGlobals c=some (some (.ref C)))(hc:Cls X.K C)(hm:Meth X.K C m f)
  (F:aS X.prog X.w X.K X.mg X.base CX kk f fd ps (di X.K sp)) (hr:aQ kk X.A) (hb:Binds X.K fd ps []) (hx:gP CX X E) (ho:DE X o to)
  (ht:eval (.Call (.Attribute o m apos) [] [] pos) X.env=(do
   let ov <- eval o X.env
   standAt apos.atName
   let (f,first) <- holding [ov] (getMethod ov m pl)
   callWith pos f first (backTo pos (starEach [] X.env)) (backToKw pos (keywordEach [] X.env)))):DE X (.Call (.Attribute o m apos) [] [] pos) (zbz c m sp to dNil):=
 (Q7R ho hc hm F hr hb .nil hx ht).imp λσ H Q h=>by
  obtain⟨ρ,M,R,s,mm,h,k⟩:=h;refine⟨ρ,M,_,s,mm,h,λx M1 xv H1 ⟨a,fs,e1,e2,e3,h1⟩ x1 m1 den=>?_⟩;subst e1;cases den;obtain⟨C',dx,vs,g1,g2,g3⟩:=m1.ins e2;rw[hC]at g1;cases g1;exact⟨a,dx,vs,rfl,g2,g3.no e3,.ref a::[],M1,R,.cons (.ref a) .nil,m1,h1,k.ext x1⟩
def zb7(c:Str)(sp:aU)(t:d7):aB:=λρ M Q=>t ρ M λds M1=>∀x,M1 x=none->sp (.ref x::ds) (ae M1 x (.ah (.ins c []))) λd M2=>d=.non/\Q (.ref x) M2
theorem QaS(hC:nsIn X.K mainGlobals c=some (some (.ref C)))(MK:Mk X.K C f)
  (F:aS X.prog X.w X.K X.mg X.base CX kk f fd ps (di X.K sp)) (hr:aQ (kk+1) X.A) (hg:Gl X c) (hm:X.mg c=some (.ref C)) (hb:Binds X.K fd ps []) (hx:gP CX X E) (ha:DA X (e::es) t) (hdb:(c==("__debug__":Str))=false)
  (he:starEach (e::es) X.env=(false,eval e X.env)::starEach es X.env) (hpl:(backTo pos (starEach es X.env)).any (·.1)=false):DE X (.Call (.Name c p) (e::es) [] pos) (zb7 c sp t):=
 (Q6l MK F hr hg hm hb .nil hx ha hdb he hpl).imp λσ H Q ⟨ρ,M,R,s,m,h,k⟩=>⟨ρ,M,_,s,m,h,λds M1 vs H1 h1 x1 m1 dn x dx hx hd hne=>by
  have n1:upd H1 dx (.own x) x=none:=by rw[aY hne.symm];exact hx
  have y1:Ext H1 (upd H1 dx (.own x)):=Ext.new hd;have y2:Ext (upd H1 dx (.own x)) (upd (upd H1 dx (.own x)) x (.ins C dx [])):=Ext.new n1;refine⟨.ref x::ds,ae M1 x (.ah (.ins c [])),_,?_,(m1.new hd).put y2 ⟨C,dx,[],hC,b9,.nil⟩,h1 x (m1.free hx),λd M2 v H2 ⟨e2,h2⟩ x2 m2 den=>?_⟩
  ·rw[append_nil];exact .cons (.ref x) ((dn.ext y1).ext y2)
  ·subst e2;cases den;exact⟨rfl,k _ M2 _ _ h2 (((x1.trans y1).trans y2).trans x2) m2 (.ref x)⟩⟩
def zc0:aB:=λ_ M Q=>∀q,M q=none->Q (.ref q) (ae M q (.ah (.aK [])))
theorem QaT:DE X (.Dict [] [] pos) zc0:=
 Q8c.imp λσ H Q ⟨ρ,M,R,s,m,h,k⟩ q hq=>k _ _ _ _ (h q (m.free hq)) (Ext.new hq) (m.put (u:=.ah (.aK [])) (Ext.new hq) ⟨[],b9,.nil⟩) (.ref q)
def zbo(tk tv:aB):aB:=λρ M Q=>∀q,M q=none->tk ρ (ae M q (.ah (.aK []))) λx M1=>tv ρ M1 λy M2=>∃n:List (List Nat),x=.tup (n.map .str)/\M2 q=some (.ah (.aK []))/\Q (.ref q) (ae M2 q (.ah (.aK [(n,y)])))
theorem Q8D(hu:X.A.units+1<cLine)(hk:DE X k tk)(hv:DE X value tv):DE X (.Dict [some k] [value] pos) (zbo tk tv):=
 (Q8f hu hk hv).imp λσ H Q ⟨ρ,M,R,s,m,h,k⟩ q hq=>⟨ρ,_,_,s.ext (Ext.new hq),m.put (u:=.ah (.aK [])) (Ext.new hq) ⟨[],b9,.nil⟩,h q (m.free hq),λx M1 xv H1 h1 x1 m1 dx=>⟨ρ,M1,_,(s.ext (Ext.new hq)).ext x1,m1,h1,λy M2 yv H2 ⟨n,e1,e2,h2⟩ x2 m2 dy=>by
  subst e1;obtain⟨b,rfl,eb⟩:=iO (dx.ext x2);obtain⟨vs,g1,g2⟩:=m2.aK e2;cases g2;have xx:Ext H2 (upd H2 q (.dT [(nk n,yv)])):=Ext.mut g1 (λ_ z=>nomatch z) (λ_ _ z=>nomatch z)
  exact⟨nk n,b,rfl,eb,g1,k _ _ _ _ h2 ((((Ext.new hq).trans x1).trans x2).trans xx) (m2.put xx ⟨_,b9,.cons ⟨rfl,dy.ext xx⟩ .nil⟩) (.ref q)⟩⟩⟩
def rInD(f:Bool->Bool):fL:=λx y M Q=>∃(n:List (List Nat)) (a:Addr) (kvs:List (List (List Nat)×D)),x=.tup (n.map .str)/\y=.ref a/\M a=some (.ah (.aK kvs))/\Q (.bl (f (aw kvs n).isSome)) M
theorem Q4L{K:Frag}{H:Hp}{kvs:List (List (List Nat)×D)}{vs:List (List Key×V)}(r:fI K H kvs vs)(n:List (List Nat)):(aH vs (nk n)).isSome=(aw kvs n).isSome:=by
 rcases r.val n with ⟨q1,q2⟩|⟨d,v,q1,q2,_⟩<;>rw[q1,q2]<;>rfl
theorem Q9J(hu:X.A.units+1<cLine):dA X (compareOp .In) (rInD id):=by
 rintro pins s σ H x y v u Q I rx ry ⟨dx,dy,M,R,ex,ey,m,⟨n,a,kvs,e1,e2,e3,q⟩,k⟩;subst e1 e2;obtain⟨b,rfl,eb⟩:=iO ex;cases ey;obtain⟨vs,g1,g2⟩:=m.aK e3;cases ry;refine d_in hu I (cA.t g1 eb) rx λs' I'=>⟨.bl (aH vs (nk n)).isSome,H,I',rfl,?_⟩;rw[Q4L g2];exact k _ M _ H q (Ext.refl H) m (.bl _)
theorem QaU(hu:X.A.units+1<cLine):dA X (compareOp .NotIn) (rInD not):=by
 rintro pins s σ H x y v u Q I rx ry ⟨dx,dy,M,R,ex,ey,m,⟨n,a,kvs,e1,e2,e3,q⟩,k⟩;subst e1 e2;obtain⟨b,rfl,eb⟩:=iO ex;cases ey;obtain⟨vs,g1,g2⟩:=m.aK e3;cases ry;refine Qan hu I (cA.t g1 eb) rx λs' I'=>⟨.bl (!(aH vs (nk n)).isSome),H,I',rfl,?_⟩;rw[Q4L g2];exact k _ M _ H q (Ext.refl H) m (.bl _)
def rDIx:fL:=λx y M Q=>∃(n:List (List Nat)) (a:Addr) (kvs:List (List (List Nat)×D)) (d:D),y=.tup (n.map .str)/\x=.ref a/\M a=some (.ah (.aK kvs))/\aw kvs n=some d/\Q d M
theorem QcK(hu:X.A.units+1<cLine)(hd:DE X o td)(hk:DE X k tk)(hs:iD k):DE X (.Subscript o k pos) (dOp rDIx td tk):=
 (Qao hu hd hk hs).imp λσ H Q ⟨ρ,M,R,s,m,h,k⟩=>⟨ρ,M,_,s,m,h,λx M1 xv H1 h1 x1 m1 dx=>⟨ρ,M1,_,s.ext x1,m1,h1,λy M2 yv H2 ⟨n,a,kvs,d,e1,e2,e3,e4,h2⟩ x2 m2 dy=>by
  subst e1 e2;obtain⟨b,rfl,eb⟩:=iO dy;cases dx;obtain⟨vs,g1,g2⟩:=m2.aK e3;rcases g2.val n with ⟨q1,q2⟩|⟨d',v,q1,q2,q3⟩
  ·rw[q1]at e4;cases e4
  ·rw[q1]at e4;cases e4;refine⟨a,v,rfl,?_,k _ M2 _ _ h2 (x1.trans x2) m2 q3⟩;rw[<- q2];exact cA.t g1 eb⟩⟩
def zbq(td tk tx:aB):aB:=λρ M Q=>td ρ M λx M1=>∃(a:Addr) (kvs0:List (List (List Nat)×D)),x=.ref a/\M1 a=some (.ah (.aK kvs0))/\tk ρ M1 λy M2=>tx ρ M2 λz M3=>∃(n:List (List Nat)) (kvs:List (List (List Nat)×D)),y=.tup (n.map .str)/\M3 a=some (.ah (.aK kvs))/\Q ((aw kvs n).getD z) M3
theorem Q8E{f:Expr}{tx:aB}(hu:X.A.units+1<cLine)(hd:DE X o td)(hk:DE X k tk)(hf:DE X f tx)(m2:M2 X o "get" apos k f cpos):DE X (.Call (.Attribute o "get" apos) [k,f] [] cpos) (zbq td tk tx):=
 (Q4D hu hd hk hf m2).imp λσ H Q ⟨ρ,M,R,s,m,h,k⟩=>⟨ρ,M,_,s,m,h,λx M1 xv H1 ⟨a,kvs0,e1,e2,h1⟩ x1 m1 dx=>by
  subst e1;cases dx;obtain⟨vs0,g1,_⟩:=m1.aK e2;refine⟨a,rfl,.inr ⟨vs0,.inl g1⟩,ρ,M1,_,s.ext x1,m1,h1,λy M2 yv H2 h2 x2 m2 dy=>⟨ρ,M2,_,(s.ext x1).ext x2,m2,h2,λz M3 zv H3 ⟨n,kvs,e3,e4,h3⟩ x3 m3 dz=>?_⟩⟩;subst e3;obtain⟨b,rfl,eb⟩:=iO (dy.ext x3);obtain⟨vs,g3,g4⟩:=m3.aK e4;refine⟨_,cA.t g3 eb,?_⟩;have xx:=(x1.trans x2).trans x3;rcases g4.val n with ⟨q1,q2⟩|⟨d',v,q1,q2,q3⟩
  ·rw[q2];rw[q1]at h3;exact k _ M3 _ _ h3 xx m3 dz
  ·rw[q2];rw[q1]at h3;exact k _ M3 _ _ h3 xx m3 q3⟩
def zbp(td tk tx:aB):aB:=λρ M Q=>td ρ M λx M1=>∃(a:Addr) (kvs0:List (List (List Nat)×D)),x=.ref a/\M1 a=some (.ah (.aK kvs0))/\tk ρ M1 λy M2=>tx ρ M2 λz M3=>∃(n:List (List Nat)) (kvs:List (List (List Nat)×D)),y=.tup (n.map .str)/\M3 a=some (.ah (.aK kvs))/\kvs.length<sizeLine /\
 (∀d,aw kvs n=some d->Q d M3)/\(aw kvs n=none->Q z (ae M3 a (.ah (.aK (putD kvs n z)))))
theorem Q8F{f:Expr}{tx:aB}(hu:X.A.units+1<cLine)(hd:DE X o td)(hk:DE X k tk)(hf:DE X f tx)(m2:M2 X o "setdefault" apos k f cpos):DE X (.Call (.Attribute o "setdefault" apos) [k,f] [] cpos) (zbp td tk tx):=
 (Q8e hu hd hk hf m2).imp λσ H Q ⟨ρ,M,R,s,m,h,k⟩=>⟨ρ,M,_,s,m,h,λx M1 xv H1 ⟨a,kvs0,e1,e2,h1⟩ x1 m1 dx=>by
  subst e1;cases dx;obtain⟨vs0,g1,_⟩:=m1.aK e2;refine⟨a,rfl,.inr ⟨vs0,.inl g1⟩,ρ,M1,_,s.ext x1,m1,h1,λy M2 yv H2 h2 x2 m2 dy=>⟨ρ,M2,_,(s.ext x1).ext x2,m2,h2,λz M3 zv H3 ⟨n,kvs,e3,e4,e5,h3,h4⟩ x3 m3 dz=>?_⟩⟩;subst e3;obtain⟨b,rfl,eb⟩:=iO (dy.ext x3);obtain⟨vs,g3,g4⟩:=m3.aK e4;have xx:=(x1.trans x2).trans x3;refine⟨vs,nk n,b,g3,rfl,eb,by rw[<- g4.length];exact e5,λv hv=>?_,λhv=>?_⟩
  ·rcases g4.val n with ⟨q1,q2⟩|⟨d',v',q1,q2,q3⟩
   ·rw[q2]at hv;cases hv
   ·rw[q2]at hv;cases hv;exact k _ M3 _ _ (h3 d' q1) xx m3 q3
  ·rcases g4.val n with ⟨q1,q2⟩|⟨d',v',q1,q2,q3⟩
   ·have y:Ext H3 (upd H3 a (.dT (putK vs (nk n) zv))):=Ext.mut g3 (λ_ z=>nomatch z) (λ_ _ z=>nomatch z)
    exact k _ _ _ _ (h4 q1) (xx.trans y) (m3.put y ⟨_,b9,Paired.b6 (g4.put n dz) λp q z=>⟨z.1,Den.ext y z.2⟩⟩) (dz.ext y)
   ·rw[q2]at hv;cases hv⟩
def dDPut(td tk tv:aB):cU:=λDD ρ M=>tv ρ M λv M1=>td ρ M1 λx M2=>tk ρ M2 λy M3=>∃(a:Addr) (n:List (List Nat)) (kvs:List (List (List Nat)×D)),x=.ref a/\y=.tup (n.map .str)/\M3 a=some (.ah (.aK kvs))/\kvs.length<sizeLine/\DD.nx ρ (ae M3 a (.ah (.aK (putD kvs n v))))
theorem QaV(hu:X.A.units+1<cLine)(hd:DE X o td)(hk:DE X k tk)(hv:DE X value tv)(hs:swapsWith value (some (.Subscript o k pos')) pos.line X.env=pure false):DS X (.Assign [.Subscript o k pos'] value pos) (dDPut td tk tv):=
 (Qap hu hd hk hv hs).imp λD σ H ⟨ρ,M,DD,s,m,h,k⟩=>⟨ρ,M,_,s,m,h,λv M1 vv H1 h1 x1 m1 dv=>⟨ρ,M1,_,s.ext x1,m1,h1,λx M2 xv H2 h2 x2 m2 dx=>⟨ρ,M2,_,(s.ext x1).ext x2,m2,h2,λy M3 yv H3 ⟨a,n,kvs,e1,e2,e3,e4,h3⟩ x3 m3 dy=>by
  subst e1 e2;cases dx;obtain⟨b,rfl,eb⟩:=iO dy;obtain⟨vs,g1,g2⟩:=m3.aK e3;have y:Ext H3 (upd H3 a (.dT (putK vs (nk n) vv))):=Ext.mut g1 (λ_ z=>nomatch z) (λ_ _ z=>nomatch z)
  have xx:=(x1.trans x2).trans x3;exact⟨a,_,rfl,jE.t g1 eb (by rw[<- g2.length];exact e4),k.nx ρ _ σ _ h3 (xx.trans y) ((s.ext xx).ext y) (m3.put y ⟨_,b9,Paired.b6 (g2.put n ((dv.ext x2).ext x3)) λp q z=>⟨z.1,Den.ext y z.2⟩⟩)⟩⟩⟩⟩
end
section
variable{X:Cx}
def rAddL:fL:=λx y M Q=>∃xs ys,zaH M x=some xs/\zaH M y=some ys/\xs.length+ys.length<=sizeLine/\∀p,M p=none->Q (.ref p) (ae M p (.lst (xs++ys)))
theorem QaW:dA X (binaryOp .Add) rAddL:=by
 rintro pins s σ H x y v u Q I rx ry ⟨dx,dy,M,R,ex,ey,m,⟨xs,ys,e1,e2,hz,q⟩,k⟩;obtain⟨a,vs,rfl,sq,d1⟩:=rG m ex e1;obtain⟨b,ws,rfl,sq2,d2⟩:=rG m ey e2;cases rx;cases ry;obtain⟨its,r1,pl1,_⟩:=I.list sq;obtain⟨its2,r2,pl2,_⟩:=I.list sq2;have l1:=d1.length;have l2:=d2.length;have l3:=r1.length;have l4:=r2.length;obtain⟨⟨cls,dd,data,sl⟩,ho,hc,n,hd⟩:=pl1.isList;obtain⟨⟨cls2,dd2,data2,sl2⟩,ho2,hc2,n2,hd2⟩:=pl2.isList;simp only at hc hd hc2 hd2;subst hc hd hc2 hd2;have e:its.toArray++its2.toArray=(its++its2).toArray:=by simp
 refine concat_meets ⟨_,ho,rfl⟩ ⟨_,ho2,rfl⟩ noFill_list_add seq_list_add PySem.F.slot_list_add PySem.F.entry_list_add (PySem.F.args_list_add_2 _ _) (list_addW a b its.toArray its2.toArray n n2 dd dd2 sl sl2 (by erw[Z2];rw[<- l3,<- l4,<- l1,<- l2];exact hz)) ⟨ho,ho2,?_⟩
 rw[e];exact⟨.ref _,_,I.lnew (t':=s.toks) (r1.append r2) (by rw[Zp,<- l1,<- l2];exact hz),rfl,k _ _ _ _ (q _ (m.free I.fresh)) (Ext.new I.fresh) (m.gC I.fresh (d1.append d2)) (.ref _)⟩
theorem Q4M{K:Frag}{H:Hp}:∀{ns:List Int}{vs:List V},ai K H (ns.map D.int) vs->vs=ns.map V.int
 |[],_,h=>by cases h;rfl
 |n::r,_,h=>by
  cases h with
  |cons h1 h2=>cases h1;rw[Q4M h2];rfl
def rMin1:List D->DH->DK->Prop:=λds M Q=>match ds with
 |[d]=>∃ns:List Int,zaH M d=some (ns.map .int)/\0<ns.length/\∀z:Int,z∈ns->(∀a∈ns,z<=a)->Q (.int z) M
 |_=>False
theorem QaX(hc:X.calm=true):jK X (.builtin "min") rMin1:=by
 rintro pins s σ H xs us Q I rv ⟨ds,M,R,dn,m,q,k⟩
 match ds,dn,q with
 |[d],.cons den .nil,⟨ns,e,h0,q⟩=>
  obtain⟨p,vs,rfl,sq,dd⟩:=rG m den e;obtain⟨u,rfl,rx⟩:=vals1 rv;cases rx;obtain⟨its,r',pl,hz⟩:=I.list sq;cases Q4M dd;have hi:=Q5z r';obtain⟨ys,ey⟩:=hi.allInts.items;have hns:ns=ys.toList.map (·.1):=by rw[<- hi.numsOf,<- nums_intItems,<- ey]
  have hsz:0<ys.size:=by
   have h3:=h0;rw[hns,Ze,ZE]at h3;exact h3
  have hl:=pl.isList;rw[ey]at hl;refine min_intList (I.ok.hd hc) hl hsz λv h' tk hv hk=>?_;obtain⟨t,rfl⟩:=intItems_at hv;obtain⟨h1,h2⟩:=argBest_lt (numAt ys) (ys.size-1);refine⟨.int _,H,I.kept hk,⟨t,rfl⟩,k _ M _ H (q _ ?_ λa ha=>?_) (Ext.refl H) m (.int _)⟩
  ·rw[hns,numAt_eq];exact getD_mem (by rw[Ze,ZE];room)
  ·rw[hns]at ha;obtain⟨j,hj,rfl⟩:=mem_getD ha;rw[Ze,ZE]at hj;rw[<- numAt_eq];exact h2 j (by room)
end
section
variable{X:Cx}
end
end DL
namespace L2
open PySem PySem.Spec PyProof.Rows
end L2
namespace DL
open PySem PySem.Spec L2
open PyProof.Rows hiding St
section
variable{X:Cx}
end
section
variable{X:Cx}
end
end DL
namespace L2
open PySem PySem.Spec PyProof.Rows
section
variable{X:Cx}{pins:List (Addr×Obj)}{σ:St}{H:Hp}{s:Shared}{C f e d:Addr}{x:Str}{m k:Nat}{fd:FuncData}
end
section
variable{X:Cx}{pins:List (Addr×Obj)}{σ:St}{H:Hp}{s:Shared}{C f e d a:Addr}{x:Str}{m k:Nat}{fd:FuncData}
end
section
variable{prog:Program}{w:World}{A:Around}{E:Value->Shared->Prop}{s:Shared}{K:Frag}{x D:Addr}{ox od:Obj}{v:Value}
end
section
variable{X:Cx}{a C d:Addr}{oe od:Obj}{ps:List (Addr×Obj)}{n:Int}{x:Str}{i:Nat}{np pos:Pos}
end
end L2
namespace DL
open PySem PySem.Spec L2
open PyProof.Rows hiding St
section
variable{X:Cx}{e:Expr}{es:List Expr}{pos p np cpos:Pos}{cn:CN}
def dXrow(i:Nat)(a:Addr)(n:Int):aB:=λρ M Q=>ρ[i]?=some (some (.ref a))/\Q (.int n) M
end
end DL
namespace L2
open PySem PySem.Spec PyProof.Rows
section
variable{X:Cx}{C f:Addr}{x:Str}
end
end L2
namespace DL
open PySem PySem.Spec L2
open PyProof.Rows hiding St
section
variable{X:Cx}{e:Expr}{es:List Expr}{pos np cpos:Pos}
end
end DL
namespace L2
open PySem PySem.Spec PyProof.Rows
section
variable{P:Program}{w:World}{A:Around}{E:Value->Shared->Prop}{s:Shared}
end
section
variable{X:Cx}{pins:List (Addr×Obj)}{σ:St}{H:Hp}{s:Shared}{h':Heap}
theorem Inv.gS{t':Nat}{fp:List Addr}(I:Inv X pins σ H s)(k:∀b o,b∉fp->s.heap.get? b=some o->h'.get? b=some o)(hf:∀b∈fp,bC X pins H b):Inv X pins σ H {s with heap:=h',toks:=t'}:=by
 have nit:∀b u,H b=some u->b∉fp:=λb u e z=>by rw[(hf b z).1]at e;cases e
 have hL:X.env.locals∉fp:=λz=>(hf _ z).2.1 rfl;refine I.step (g':=s.gens) (d':=s.drawn) (ch:=fp) (λb hb=>?_) (λb o _ _ hc e _=>k b o hc e) (λb o _ _ hc e _=>⟨o.slots,k b o hc e⟩) (λ_ _ _ _ n=>n)
  (λb o hc e=>⟨o,k b o hc e⟩) (λ_ _ e=>e) (λ_ _ _ e=>e) (λb ps e=>⟨#[],by rw[e];simp⟩) (λm hm=>?_) (λb u e=>?_) I.bare
 ·obtain⟨f0,f1,f2,f3,f4,f5⟩:=hf b hb;exact⟨f3,f1,f4,f5⟩
 ·obtain⟨o,es,ep,ho,r⟩:=hm;exact⟨o,es,ep,k _ o hL ho,r⟩
 ·refine (I.av b u e).cV (λc v hc q=>k c v ?_ q) (λ_ q=>q) λ_ _ q=>q;rcases hc with z|z
  ·rw[z];exact nit b u e
  ·exact nit c _ z
end
end L2
namespace DL
open PySem PySem.Spec L2
open PyProof.Rows hiding St
section
variable{X:Cx}{K:Frag}{e:Expr}{te:aB}
end
section
variable{α:Type}
noncomputable def dh(kvs:List (List Nat×D))(k:List Nat):Option D:=(kvs.find? λkv=>decide (kv.1=k)).map (·.2)
noncomputable def eF(kvs:List (List Nat×D))(k:List Nat)(v:D):List (List Nat×D):=
 if (kvs.any λkv=>decide (kv.1=k))=true then kvs.map (λkv=>if kv.1=k then (kv.1,v) else kv) else kvs++[(k,v)]
theorem Q2N(e:p.1=k):dh (p::r) k=some p.2:=by simp[dh,ZU,e]
theorem Q2O(e:¬ p.1=k):dh (p::r) k=dh r k:=by simp[dh,ZU,e]
theorem Q2P(k:List Nat):∀kvs:List (List Nat×D),(kvs.any λkv=>decide (kv.1=k))=(dh kvs k).isSome
 |[]=>rfl
 |p::r=>by
  rw[any_cons];by_cases e:p.1=k
  ·erw[Q2N e,Z7 e,Bool.true_or,Option.isSome_some]
  ·rw[Q2O e,Zt e,Bool.false_or];exact Q2P k r
end
theorem Q4i(e:iJ a=iJ b):a=b:=jy (Sum.inr.inj e)
section
variable{K:Frag}{H:Hp}
theorem jJ.val(r:jJ K H kvs vs)(k:List Nat) :
  (dh kvs k=none/\aH vs (iJ k)=none)\/∃d v,dh kvs k=some d/\aH vs (iJ k)=some v/\Den K H d v:=by
 induction r with
 |nil=>exact .inl ⟨rfl,rfl⟩
 | @cons p q ps qs h t ih=>
  by_cases e:p.1=k
  ·exact .inr ⟨p.2,q.2,Q2N e,nU (by rw[h.1,e]),h.2⟩
  ·rw[Q2O e,nT (by rw[h.1];exact λz=>e (Q4i z))];exact ih
theorem jJ.put(r:jJ K H kvs vs)(k:List Nat)(den:Den K H d v):jJ K H (eF kvs k d) (putK vs (iJ k) v):=by
 have an:(kvs.any λkv=>decide (kv.1=k))=vs.any λkv=>decide (kv.1=iJ k):=by
  rw[Q2P,oM];rcases r.val k with ⟨a,b⟩|⟨x,y,a,b,_⟩<;>rw[a,b]<;>rfl
 unfold eF putK;rw[an];by_cases e:(vs.any λkv=>decide (kv.1=iJ k))=true
 ·rw[Zg e,Zg e];clear an e
  induction r with
  |nil=>exact .nil
  | @cons p q ps qs h t ih=>
   rw[Zu,Zu];refine .cons ?_ ih;by_cases e:p.1=k
   ·rw[Zg e,Zg (by rw[h.1,e])];exact⟨h.1,den⟩
   ·rw[Zd e,Zd (by rw[h.1];exact λz=>e (Q4i z))];exact h
 ·rw[Zd e,Zd e];exact Paired.snoc r ⟨rfl,den⟩
theorem jJ.length(r:jJ K H kvs vs):kvs.length=vs.length:=ZQ r
end
theorem ar.d8{K:Frag}{H:Hp}{M:DH}(h:ar K M H){a:Addr}{kvs:List (List Nat×D)}(e:M a=some (.ah (.d8 kvs))):∃vs,H a=some (.dK vs)/\jJ K H kvs vs:=h a _ e
section
variable{X:Cx}{e o value a b k:Expr}{es:List Expr}{pos pos' apos cpos p:Pos}{te tv tk td:aB}{t:d7}
def zbV:aB:=λ_ M Q=>∀q,M q=none->Q (.ref q) (ae M q (.ah (.d8 [])))
theorem QaY:DE X (.Dict [] [] pos) zbV:=
 Q8b.imp λσ H Q ⟨ρ,M,R,s,m,h,k⟩ q hq=>k _ _ _ _ (h q (m.free hq)) (Ext.new hq) (m.put (u:=.ah (.d8 [])) (Ext.new hq) ⟨[],b9,.nil⟩) (.ref q)
def zbj(td tk tx:aB):aB:=λρ M Q=>td ρ M λx M1=>∃(a:Addr) (kvs0:List (List Nat×D)),x=.ref a/\M1 a=some (.ah (.d8 kvs0))/\tk ρ M1 λy M2=>tx ρ M2 λz M3=>∃(n:List Nat) (kvs:List (List Nat×D)),y=.str n/\M3 a=some (.ah (.d8 kvs))/\Q ((dh kvs n).getD z) M3
theorem Q8G(hu:X.A.units+1<cLine)(hd:DE X o td)(hk:DE X k tk)(hf:DE X f tx)(m2:M2 X o "get" apos k f cpos):DE X (.Call (.Attribute o "get" apos) [k,f] [] cpos) (zbj td tk tx):=
 (Q4D hu hd hk hf m2).imp λσ H Q ⟨ρ,M,R,s,m,h,k⟩=>⟨ρ,M,_,s,m,h,λx M1 xv H1 ⟨a,kvs0,e1,e2,h1⟩ x1 m1 dx=>by
  subst e1;cases dx;obtain⟨vs0,g1,_⟩:=m1.d8 e2;refine⟨a,rfl,.inl ⟨vs0,.inl g1⟩,ρ,M1,_,s.ext x1,m1,h1,λy M2 yv H2 h2 x2 m2 dy=>⟨ρ,M2,_,(s.ext x1).ext x2,m2,h2,λz M3 zv H3 ⟨n,kvs,e3,e4,h3⟩ x3 m3 dz=>?_⟩⟩;subst e3;cases dy;obtain⟨vs,g3,g4⟩:=m3.d8 e4;refine⟨_,cA.k (k:=iJ n) g3,?_⟩;have xx:=(x1.trans x2).trans x3;rcases g4.val n with ⟨q1,q2⟩|⟨d',v,q1,q2,q3⟩
  ·rw[q2];rw[q1]at h3;exact k _ M3 _ _ h3 xx m3 dz
  ·rw[q2];rw[q1]at h3;exact k _ M3 _ _ h3 xx m3 q3⟩
end
end DL
namespace L2
open PySem PySem.Spec PyProof.Rows
theorem Q3x:typeLookup (.type "list") "keys" = pure none:=by rw[typeLookup_type,builtinLookup_eq_fast];kernel_rfl
section
variable{prog:Program}{w:World}{A:Around}{E:Value->Shared->Prop}{s:Shared}{a:Addr}
theorem QaZ{Q:Option Value->Shared->Prop}(hx:s.heap.get? a=some ⟨.type "list",none,.seq xs n,sl⟩)(hA:A.handled=none)
  (hq:∀h' tk,(∀b u,s.heap.get? b=some u->h'.get? b=some u)->Q none {s with heap:=h',toks:=tk}):wpAny (model prog w) A (getAttr? (.ref a) "keys") Q E s:=by
 obtain⟨hp,g,d,tk,os⟩:=s;have hT:∀tk',(⟨hp,g,d,tk',os⟩:Shared).TypeIs (.ref a) "list":=λ_=>⟨_,hx,rfl⟩;have f1:=sub_AttributeError;have f3:=F.slot_list_getattribute.lookup;have f4:=F.slot_list_getattribute.bind (.ref a);have f5:=am_list_getattr_none;unfold getAttr? getAttrBy? getAttrBy
 repeat (any_goals (first|assumption|exact hT _|((with_reducible show wpAny _ _ (call (Value.builtin "list.__getattribute__") _ _) _ _ _);refine call_meets F.slot_list_getattribute (hT _) am_entry_list_getattribute (F.args_list_getattribute_2 _ _) (meets_getattribute_miss_list a xs n sl "keys" _ Q3x (by decide) (by size_fits)) ⟨hx,hA,λh' tk' e hx'=>?_⟩)|wp_step))
 obtain⟨t',u',he⟩:=hx'.there;show wpAny _ _ (getattributeRaised _ _ _ _ _ _ _) _ _ _;unfold getattributeRaised
 repeat (any_goals (first|assumption|wp_step))
 exact hq _ _ hx'.keeps
end
section
variable{X:Cx}{pins:List (Addr×Obj)}{σ:St}{H:Hp}{s:Shared}{A:Around}{E:Value->Shared->Prop}
theorem Q6R{Q:Unit->Shared->Prop}(hu:A.units<cLine)(I:Inv X pins σ H s)(e:H d=some (.dT kvs))(eb:H b=some (.tup (k.map kV)))(l:kvs.length<sizeLine)(rv:RelV v r)
  (h:∀s',Inv X pins σ (upd H d (.dT (putK kvs k v))) s'->(∀c o,c≠d->s.heap.get? c=some o->s'.heap.get? c=some o)->Q () s'):wpAny (model X.prog X.w) A (dictSet d (.ref b) r) Q E s:=by
 obtain⟨z,hd,xs,rel,dd⟩:=dO I.av e;have hz:xs.length<=sizeLine:=by rw[<- ZQ rel];exact z
 have hl:(putK kvs k v).length<=sizeLine:=by have:=nQ kvs k v;room
 refine wpAny_dictSet_heap (hsz:=hz) (knd:=tupleKind (bZ X.prog X.w)) hu (key_of I.av eb) dd λh' dd' hs=>h _ ?_ λc o nc q=>(hs.2 c nc).trans q;obtain⟨q,es,ep,hq,h2,h3,h4,_,h5⟩:=dd';refine kL I (by rw[e];exact ZH) hs ⟨q,hq⟩ ⟨hl,hd,_,(rel.put k eb rv).keeps λc ys ec=>?_,q,es,ep,hq,h2,h3,h4,h5⟩
 rw[aY (eI ec e (λz=>nomatch z))]
 exact ec
end
theorem Q1t:entryFor table "dict.update.loop" = some Builtin.«dict.update.loop»:=entryFor_of_tree (by kernel_rfl)
theorem Q0G:plainId "dict.update.loop" = true:=by kd_p
theorem Q6S{K:Frag}{H:Hp}{l d:Addr}{xs:List V}{o:HO}(h:cB K H l xs)(hd:H d=none):cB K (upd H d o) l xs:=by
 rcases h with (h|⟨ob,h⟩)|h
 ·exact .inl (.inl (by rw[aY (gM h hd)];exact h))
 ·exact .inl (.inr ⟨ob,by rw[aY (gM h hd)];exact h⟩)
 ·exact .inr h
theorem Q3y{α β:Type}{F:α->β->Prop}:∀{xs:List α}{ys:List β}{i:Nat}{x:α}{y:β},Paired F xs ys->xs[i]?=some x->ys[i]?=some y->F x y
 |_,_,0,_,_,.cons r t,h1,h2=>by cases h1;cases h2;exact r
 |_,_,i+1,_,_,.cons r t,h1,h2=>Q3y t h1 h2
 |_,_,_,_,_,.nil,h1,_=>by cases h1
noncomputable abbrev zba{κ:Type}(kr:Hp->κ->V->Prop)(H:Hp):List V->List (κ×V)->Prop:=Paired λx p=>∃t y,x=.ref t/\H t=some (.tup [y,p.2])/\kr H p.1 y
noncomputable def k9{κ:Type}[DecidableEq κ](kvs:List (κ×V))(ps:List (κ×V)):List (κ×V):=ps.foldl (λa p=>putK a p.1 p.2) kvs
noncomputable abbrev zc5{κ:Type}[DecidableEq κ](X:Cx)(pins:List (Addr×Obj))(σ:St)(H:Hp)(mk:List (κ×V)->HO)(kr:Hp->κ->V->Prop)(d:Addr):Prop:=∀(A:Around) (E:Value->Shared->Prop) (s:Shared) (kvs:List (κ×V)) (k:κ) (y v:V) (u r:Value) (Q:Unit->Shared->Prop),Inv X pins σ (upd H d (mk kvs)) s->kr H k y->RelV y u->RelV v r->kvs.length<sizeLine->A.units<cLine ->
 (∀s',Inv X pins σ (upd H d (mk (putK kvs k v))) s'->(∀c o,c≠d->s.heap.get? c=some o->s'.heap.get? c=some o)->Q () s')->wpAny (model X.prog X.w) A (dictSet d u r) Q E s
def krT(H:Hp)(k:List Key)(y:V):Prop:=∃b,y=.ref b/\H b=some (.tup (k.map kV))
theorem setT(hd:H d=none):zc5 X pins σ H HO.dT krT d:=λA E s kvs k y v u r Q I e ry rv hl hu h=>by
 obtain⟨b,rfl,eb⟩:=e;obtain rfl:u=Value.ref b:=ry;refine Q6R hu I b9 (by rw[aY (gM eb hd)];exact eb) hl rv λs' I' k'=>h s' ?_ k'
 rw[Q2E]at I';exact I'
section
variable{X:Cx}{pins:List (Addr×Obj)}{σ:St}{H:Hp}{A:Around}{R:Result->Shared->Prop}{d it l:Addr}{xs:List V}{κ:Type}[DecidableEq κ]{mk:List (κ×V)->HO}{kr:Hp->κ->V->Prop}{ps:List (κ×V)}
theorem Q6T(hh:A.in1.handled=none)(hu:A.in1.units<cLine)(hd:H d=none)(hit:bC X pins H it)(ne:it≠d)(hl:cB X.K H l xs)(hp:zba kr H xs ps)(hS:zc5 X pins σ H mk kr d) :
  ∀(n i:Nat) (s:Shared) (kvs:List (κ×V)),ps.length-i=n->i<=ps.length->kvs.length+n<=sizeLine->Inv X pins σ (upd H d (mk kvs)) s->s.heap.IsListIter it l i ->
   (∀s',Inv X pins σ (upd H d (mk (k9 kvs (ps.drop i)))) s'->R (.ok (.ret .none)) s')->codeAny (model X.prog X.w) A (.builtin "dict.update.loop" ⟨[.ref d,.ref it,rawInt (i:Int),.none],[]⟩) R s:=by
 intro n
 induction n with
 |zero=>
  intro i s kvs hn hi hk I st hR;have hi2:i=ps.length:=by room
  have hl2:cB X.K (upd H d (mk kvs)) l xs:=Q6S hl hd;obtain⟨its,rv,p,hz⟩:=I.list hl2;have hlen:=rv.length;have hpl:=ZQ hp;refine codeAny_builtin Q1t ?_;rw[Around.under_plainId Q0G _];show wpAny _ A.in1 (pyNext (.ref it) >>= _) _ _ s;refine Za (wpAny_pyNext_list_end hh st p.isList (by simp;room) λh' eb=>?_)
  show wpAny _ A.in1 (Builtin.Dict.addKeywords d [] >>= _) _ _ _;refine Za (Zb (Zb ?_));have e0:k9 kvs (ps.drop i)=kvs:=by rw[hi2,List.drop_length];rfl
  rw[e0]at hR;exact hR _ (I.gS (t':=s.toks) (fp:=[it]) (λb o nb q=>eb b o (λz=>nb (by simp[z])) q) λb hb=>by
   rw[Zh.mp hb];exact⟨by rw[aY ne];exact hit.1,hit.2⟩)
 |succ n ih=>
  intro i s kvs hn hi hk I st hR;have hlt:i<ps.length:=by room
  have hl2:cB X.K (upd H d (mk kvs)) l xs:=Q6S hl hd;obtain⟨its,rv,p,hz⟩:=I.list hl2;have hpl:=ZQ hp;have hx:xs[i]?=some xs[i]:=Zx (by room)
  obtain⟨t,y,e1,e2,e3⟩:=Q3y hp hx (Zx hlt);obtain⟨u,qO,ru⟩:=rv.get hx;rw[e1]at ru;obtain rfl:u=Value.ref t:=ru;have fp:∀c∈[it],bC X pins (upd H d (mk kvs)) c:=λc hc=>by
   rw[Zh.mp hc];exact⟨by rw[aY ne];exact hit.1,hit.2⟩
  refine codeAny_builtin Q1t ?_;rw[Around.under_plainId Q0G _];show wpAny _ A.in1 (pyNext (.ref it) >>= _) _ _ s;refine Za (wpAny_pyNext_list_item st p.isList (x:=.ref t) (by simpa using qO) λh' st' sb=>?_)
  have I1:Inv X pins σ (upd H d (mk kvs)) {s with heap:=h'}:=I.gS (t':=s.toks) (fp:=[it]) (λc o nc q=>(sb.2 c (λz=>nc (by simp[z]))).trans q) fp
  have et:upd H d (mk kvs) t=some (.tup [y,(ps[i]).2]):=by rw[aY (gM e2 hd)];exact e2
  obtain⟨it2,rv2,⟨ob,ho,hc,m2,hd2⟩,hz2⟩:=I1.tuple (.of et);cases rv2 with
  |cons r1 rv2=>
  cases rv2 with
  |cons r2 rv2=>
  cases rv2;rename_i u1 u2;refine Za (ZP (Za (wpAny_tryCatch ?_)));unfold Builtin.Dict.pairItems;refine Za (wpAny_typeOf (show Shared.TypeIs {s with heap:=h'} (.ref t) "tuple" from⟨ob,ho,hc⟩) ?_);rw[Zg (by decide)]
  refine Za (wpAny_seqItems ho hd2 (Zb ?_));show wpAny _ _ (holding [u1,u2] (dictSet d u1 u2)) _ _ _;refine ZP (hS _ _ _ _ _ _ _ _ _ _ I1 e3 r1 r2 (by room) hu λs2 I2 k2=>?_)
  have e9:k9 kvs (ps.drop i)=k9 (putK kvs (ps[i]).1 (ps[i]).2) (ps.drop (i+1)):=by rw[Yp hlt];rfl
  rw[e9]at hR;have hlp:=nQ kvs (ps[i]).1 (ps[i]).2;exact Zb ⟨plainId_quiet Q0G _,ih (i+1) s2 _ (by room) hlt (by room) I2 (st'.at λo q=>k2 it o ne q) hR⟩
end
section
variable{X:Cx}{pins:List (Addr×Obj)}{σ:St}{H:Hp}{s:Shared}{l:Addr}{xs:List V}{κ:Type}[DecidableEq κ]{mk:List (κ×V)->HO}{kr:Hp->κ->V->Prop}{ps:List (κ×V)}{Q:Value->Shared->Prop}
theorem Q5H(hc:X.calm=true)(hu:X.A.units+64<cLine)(I:Inv X pins σ H s)(hl:cB X.K H l xs)(hp:zba kr H xs ps)(hn:ps.length<=sizeLine)(hS:∀d,H d=none->zc5 X pins σ H mk kr d)(h0:∀h:Heap,sysModules<h.objs.size->aG X.prog X.w (upd H h.objs.size (mk [])) (h.push { cls:=.type "dict",data:=.dict #[]}) h.objs.size (mk []))
  (h:∀d s',H d=none->Inv X pins σ (upd H d (mk (k9 [] ps))) s'->Q (.ref d) s'):wpAny (model X.prog X.w) X.A (call (.type "dict") [.ref l]) Q X.xe s:=by
 refine callType_codes (Q₁:=λobj s₁=>obj=.ref s.heap.objs.size/\s₁={s with heap:=s.heap.push { cls:=.type "dict",data:=.dict #[]}}) F.kt_called_dict (F.kt_typeCall_dict_1 _) F.entry_dict_init (kt_code_dict_new _ ⟨rfl,rfl⟩) ?_;rintro obj s₁ ⟨rfl,rfl⟩;have hnew:(s.heap.push { cls:=.type "dict",data:=.dict #[]}).DictOf (bZ X.prog X.w) s.heap.objs.size []:=Heap.DictOf.new s.heap;have hd:H s.heap.objs.size=none:=I.av.fresh (Zy _);have I1:=I.laid (a:=s.heap.objs.size) (o:=mk []) (h':=s.heap.push { cls:=.type "dict",data:=.dict #[]}) (t':=s.toks) (λ_ _ q=>Zi _ q) (Zy _) (h0 s.heap I.big);have hl1:cB X.K (upd H s.heap.objs.size (mk [])) l xs:=Q6S hl hd;obtain⟨its,rv,p,hz⟩:=I1.list hl1;obtain⟨⟨cls,dd,data,sl⟩,n,ho,hcl,hdn,hdt⟩:=p;refine⟨hnew.typeIs,F.args_dict_init_2 _ _,?_⟩;unfold Builtin.«dict.__init__»;refine Za ?_;unfold Builtin.Dict.selfAndRest;refine Za (wpAny_notOrdered_dict hnew.typeIs ?_);show wpAny _ _ (pure (s.heap.objs.size,[Value.ref l])) _ _ _;refine Zb ?_;show wpAny _ _ (Builtin.Dict.updateFrom "dict.__init__" s.heap.objs.size (.ref l) [] .none) _ _ _;unfold Builtin.Dict.updateFrom;refine Za (wpAny_typeOf (show Shared.TypeIs _ (.ref l) "list" from⟨_,ho,hcl⟩) ?_);rw[Zg (by decide)]
 refine Za (QaZ (s:={s with heap:=s.heap.push { cls:=.type "dict",data:=.dict #[]}}) (xs:=its.toArray) (n:=n) (sl:=sl) ?_ ?_ λh2 tk2 k2=>?_)
 ·have e:(⟨cls,dd,data,sl⟩:Obj)=⟨.type "list",none,.seq its.toArray n,sl⟩:=by
   have hcl:cls=.type "list":=hcl;have hdn:dd=none:=hdn;have hdt:data=.seq its.toArray n:=hdt;rw[hcl,hdn,hdt]
  rw[<- e];exact ho
 ·exact I.ok.hd hc
 have I2:Inv X pins σ (upd H s.heap.objs.size (mk [])) {s with heap:=h2,toks:=tk2}:=I1.kept k2;erw[Option.isNone_none,if_true];refine Za (wpAny_rule (Za ?_));obtain⟨its2,rv2,p2,hz2⟩:=I2.list hl1;refine wpAny_pyIter_list p2.isList ?_;refine Zb ⟨plainId_quiet Q0G _,?_⟩;have hdl:s.heap.objs.size<h2.objs.size:=Zr (k2 _ _ (Zw s.heap rfl));have ne:h2.objs.size≠s.heap.objs.size:=ne_of_gt hdl;have hf:upd H s.heap.objs.size (mk []) h2.objs.size=none:=I2.av.fresh (Zy _);rw[aY ne]at hf;have I3:Inv X pins σ (upd H s.heap.objs.size (mk [])) {s with heap:=h2.push { cls:=.type "list_iterator",data:=.fields #[.ref l,.int 0 0]},toks:=tk2}:=I2.kept (t':=tk2) λb o q=>Zi _ q;exact Q6T (A:=X.A.in1) (it:=h2.objs.size) (I.ok.hd hc) (ZG (by first|exact units_in2|(erw[Around.in1];room)) hu) hd (I2.fH (H':=H) (Zy _) hf) ne hl hp (hS _ hd) ps.length 0 _ [] (by room) (Z8 _) (by simpa using hn) I3 ⟨_,Zw _ rfl,rfl,rfl⟩ λs' I'=>⟨rfl,h _ s' hd I'⟩
end
theorem Q5I{Q:Value->Shared->Prop}(hc:X.calm=true)(hu:X.A.units+64<cLine)(I:Inv X pins σ H s)(hl:cB X.K H l xs)(hp:zba krT H xs ps)(hn:ps.length<=sizeLine)
  (h:∀d s',H d=none->Inv X pins σ (upd H d (.dT (k9 [] ps))) s'->Q (.ref d) s'):wpAny (model X.prog X.w) X.A (call (.type "dict") [.ref l]) Q X.xe s:=
 Q5H hc hu I hl hp hn (λ_ hd=>setT hd) (λh hb=>Q2J h hb) h
end L2
namespace DL
open PySem PySem.Spec L2
open PyProof.Rows hiding St
section
variable{X:Cx}{K:Frag}{H:Hp}
noncomputable def pairD(p:List (List Nat)×D):D:=.tup [.tup (p.1.map .str),p.2]
noncomputable def mG(kvs ps:List (List (List Nat)×D)):List (List (List Nat)×D):=ps.foldl (λa p=>putD a p.1 p.2) kvs
theorem Q4N:∀{ps:List (List (List Nat)×D)}{vs:List V},ai K H (ps.map pairD) vs->∃qs,zba krT H vs qs/\fI K H ps qs
 |[],_,.nil=>⟨[],.nil,.nil⟩
 |p::r,_,.cons h t=>by
  obtain⟨qs,a,b⟩:=Q4N t;cases h with
  |tup e d=>
   cases d with
   |cons d1 d2=>
    cases d2 with
    |cons d3 d4=>
     cases d4;obtain⟨c,rfl,ec⟩:=iO d1;exact⟨(nk p.1,_)::qs,.cons ⟨_,_,rfl,e,c,rfl,ec⟩ a,.cons ⟨rfl,d3⟩ b⟩
theorem Q3z:∀{ps:List (List (List Nat)×D)}{qs:List (List Key×V)}{kvs:List (List (List Nat)×D)}{vs:List (List Key×V)},fI K H ps qs->fI K H kvs vs->fI K H (mG kvs ps) (k9 vs qs)
 |[],_,_,_,.nil,h=>h
 |p::r,q::qs,kvs,vs,.cons h t,g=>by
  have g2:=fI.put g p.1 h.2;rw[<- h.1]at g2;exact Q3z (kvs:=putD kvs p.1 p.2) (vs:=putK vs q.1 q.2) t g2
def zbP:List D->DH->DK->Prop:=λds M Q=>match ds with
 |[d]=>∃ps:List (List (List Nat)×D),zaH M d=some (ps.map pairD)/\ps.length<=sizeLine/\∀q,M q=none->Q (.ref q) (ae M q (.ah (.aK (mG [] ps))))
 |_=>False
theorem Qb0(hc:X.calm=true)(hu:X.A.units+64<cLine):jK X (.type "dict") zbP:=by
 rintro pins s σ H xs us Q I rv ⟨ds,M,R,dn,m,q,k⟩
 match ds,dn,q with
 |[d],.cons den .nil,⟨ps,e,hz,q⟩=>
  obtain⟨p,vs,rfl,sq,dd⟩:=rG m den e;obtain⟨u,rfl,rx⟩:=vals1 rv;cases rx;obtain⟨qs,h1,h2⟩:=Q4N dd;refine Q5I hc hu I sq h1 (by rw[<- ZQ h2];exact hz) λd s' hd I'=>?_
  have xx:Ext H (upd H d (.dT (k9 [] qs))):=Ext.new hd;exact⟨.ref d,_,I',rfl,k _ _ _ _ (q d (m.free hd)) xx (m.put (u:=.ah (.aK _)) xx ⟨_,b9,Paired.b6 (Q3z h2 .nil) λa b z=>⟨z.1,Den.ext xx z.2⟩⟩) (.ref d)⟩
end
section
variable{X:Cx}
end
section
variable{X:Cx}{e:Expr}{te:aB}
end
end DL
namespace L2
open PySem PySem.Spec PyProof.Rows
section
variable{prog:Program}{w:World}{K:Type}[DecidableEq K]{knd:HeapKind prog w K}{A:Around}{E:Value->Shared->Prop}{s:Shared}
theorem Q8H{stored:List Value}{Q:Bool->Shared->Prop}(hst:∀v∈stored,∃k' b,v=.ref b/\knd.is s.heap k' b)(h:Q false s):wpAny (model prog w) A (tableMayTell .none stored) Q E s:=by
 unfold tableMayTell;split
 ·exact Zb h
 ·have eq0:eqIsQuiet 8 Value.none=pure true:=by first|rfl|simp[eqIsQuiet]
  rw[eq0];refine Za (Zb ?_);erw[Bool.not_true,Z9,ZT];refine Za ?_;refine wpAny_forIn_list _ (λrest r s'=>s'=s/\r=(none,())/\∀v∈rest,∃k' b,v=.ref b/\knd.is s.heap k' b) _ ?_ ?_ _ _ ⟨rfl,rfl,hst⟩
  ·rintro x rest r s' ⟨rfl,rfl,hr⟩;obtain⟨k',b,rfl,hb⟩:=hr x Zk;refine Za (knd.quiet hb ?_);erw[Bool.not_true,Z9,ZT];exact Zb ⟨rfl,rfl,λv hv=>hr v (Zc _ hv)⟩
  ·rintro r s' ⟨rfl,rfl,_⟩;exact Zb h
theorem Q4O{d:Addr}{o:Obj}{es:Array DictEntry}{ep:Nat}{xs:List (K×Addr×Value)}{hk:Int}{Q:Option Nat->Shared->Prop}(ho:s.heap.get? d=some o)(hd:o.data=.dict es ep)(he:es.toList=xs.map (entryOfKey knd))
  (his:∀x∈xs,knd.is s.heap x.1 x.2.1) (heq:∀x∈xs,SeqAt.EqAt A s (.ref x.2.1) .none false) (h:Q none s):wpAny (model prog w) A (dictFind d .none hk) Q E s:=by
 have hmem:∀(i:Nat) (e:DictEntry),es[i]?=some e->∃x∈xs,e=entryOfKey knd x:=λi e hi=>by
  have:e∈xs.map (entryOfKey knd):=he ▸ Array.mem_toList_iff.mpr (Array.mem_of_getElem? hi);obtain⟨x,hx,rfl⟩:=ZY.mp this;exact⟨x,hx,rfl⟩
 have hst:∀v∈(placesWithHash es.size (λi=>es[i]?.map (·.hash)) hk).filterMap (λi=>es[i]?.map (·.key)),∃k' b,v=.ref b/\knd.is s.heap k' b:=λv hv=>by
  obtain⟨i,_,hi⟩:=mem_filterMap.mp hv;cases hei:es[i]? with
  |none=>rw[hei]at hi;cases hi
  |some e=>
   rw[hei]at hi;obtain rfl:e.key=v:=by simpa using hi
   obtain⟨x,hx,rfl⟩:=hmem i e hei;exact⟨x.1,x.2.1,rfl,his x hx⟩
 unfold dictFind
 try with_reducible refine ZP ?_
 refine Za (Yo ho hd ?_);dsimp only;by_cases hall:((Value.none::(placesWithHash es.size (λi=>es[i]?.map (·.hash)) hk).filterMap (λi=>es[i]?.map (·.key))).all carriedByValue)=true
 ·rw[Zg hall];have hnil:placesWithHash es.size (λi=>es[i]?.map (·.hash)) hk=[]:=by
   cases hp:placesWithHash es.size (λi=>es[i]?.map (·.hash)) hk with
   |nil=>rfl
   |cons i r=>
    exfalso
    have hi:i∈placesWithHash es.size (λi=>es[i]?.map (·.hash)) hk:=by rw[hp];exact Zk
    unfold placesWithHash at hi;have hlt:=mem_range.mp (Yq.mp hi).1;have hei:es[i]?=some es[i]:=Array.getElem?_eq_getElem hlt;have hin:(es[i]).key∈(placesWithHash es.size (λi=>es[i]?.map (·.hash)) hk).filterMap (λi=>es[i]?.map (·.key)):=mem_filterMap.mpr ⟨i,by rw[hp];exact Zk,by rw[hei];rfl⟩
    have hc:=ZO.mp hall _ (Zc _ hin);obtain⟨k',b,e,_⟩:=hst _ hin;rw[e]at hc;cases hc
  rw[hnil];unfold dictWalkPlain;erw[List.forIn_nil];exact Za (Zb (Zb h))
 ·rw[Zd hall];have hone:¬ (((placesWithHash es.size (λi=>es[i]?.map (·.hash)) hk).filterMap (λi=>es[i]?.map (·.key)))==[Value.none])=true:=λz=>by
   have z:=Zz.mp z;obtain⟨k',b,e,_⟩:=hst Value.none (by rw[z];exact Zh.mpr rfl)
   cases e
  rw[Zd hone];refine Za (Q8H hst ?_);rw[Zd (by simp)]
  refine Za ?_;refine wpAny_forIn_list _ (λrest b s'=>s'=s/\b=(none,none)) _ ?_ ?_ _ _ ⟨rfl,rfl⟩
  ·rintro i rest b s' ⟨rfl,rfl⟩;cases hei:es[i]? with
   |none=>exact Zb ⟨rfl,rfl⟩
   |some e=>
    obtain⟨x,hx,rfl⟩:=hmem i e hei;dsimp only;by_cases hh:((entryOfKey knd x).hash==hk)=true
    ·rw[Zg hh];refine Za (wpAny_dictEpoch ho hd (Za (heq x hx _ _ _ _ (Za (wpAny_dictEpoch ho hd ?_)))));rw[Zd (by simp)]
     erw[Z9,ZT];refine Za (wpAny_rule ?_)
     first|exact Zb ⟨rfl,rfl⟩|(rw[Zd (by simp)];exact Zb ⟨rfl,rfl⟩)|(erw[Bool.false_and,Z9,ZT];first|exact Zb ⟨rfl,rfl⟩|exact Za (Zb (Zb ⟨rfl,rfl⟩)))
    ·rw[Zd hh];exact Zb ⟨rfl,rfl⟩
  ·rintro b s' ⟨rfl,rfl⟩;exact Zb h
theorem QcL{d:Addr}{xs:List (K×Addr×Value)}{Q:Value->Shared->Prop}(hd:(d==sysModules)=false)(hm:s.heap.DictOfH knd d xs)(heq:∀tk,∀x∈xs,SeqAt.EqAt A.in1 {s with toks:=tk} (.ref x.2.1) .none false)
  (h:∀tk,Q (.bool false) {s with toks:=tk}):wpAny (model prog w) A (compareOp .In .none (.ref d)) Q E s:=by
 show wpAny _ _ (do return .bool (<- contains (.ref d) .none)) Q E s
 refine Za ?_;unfold contains
 try with_reducible refine ZP ?_
 refine Za (wpAny_specialOf hm.typeIs slot_dict_contains.lookup ?_);show wpAny _ _ (if (some (Value.builtin "dict.__contains__")==some Value.none)=true then _ else _) _ E s
 rw[Zd (by rw[beq_builtin_none];exact Z0)]
 refine Za (wpAny_callSpecialUnlessNone?_slot (name:=Str.ofString "__contains__") hm.typeIs slot_dict_contains (wpAny_call_entry slot_dict_contains hm.typeIs entry_dict_contains ?_ (args_dict_contains _ _)));show wpAny _ _ (dictGet d .none >>= _) _ _ s;refine Za ?_;obtain⟨o,es,ep,ho,_,hdd,he,his,hn⟩:=hm;unfold dictGet
 try with_reducible refine ZP ?_
 refine Za ?_;refine (show wpAny _ _ (pyHash Value.none) _ _ s from pyHash_slot (T:="NoneType") rfl F.slot_NoneType_hash F.entry_NoneType_hash (F.args_NoneType_hash_1 _) (beq_builtin_none _) (.inl rfl) (Za (Zb (Za (wpAny_mkInt (Zb ⟨_,_,rfl,?_⟩))))));refine Za (Q4O (s:={s with toks:=s.toks+1}) ho hdd he his (heq _) (Zb ?_));show wpAny _ _ (Builtin.Dict.pendingKey? d .none >>= _) _ _ _;exact Za (wpAny_pendingKey_other hd (Zb ⟨_,rfl,wpAny_truthy_bool (Zb (h _))⟩))
theorem Q2Q{d:Addr}(hd:(d==sysModules)=false):MeetsIn prog w (Builtin.«dict.get» ⟨[.ref d,.none],[]⟩) (λA R s=>∃xs:List (K×Addr×Value),s.heap.DictOfH knd d xs/\(∀A':Around,A'.units<=A.units+2->∀tk,∀x∈xs,SeqAt.EqAt A' {s with toks:=tk} (.ref x.2.1) .none false)/\∀tk,R (.ok (.ret .none)) {s with toks:=tk}):=
 .of_wp λA R s ⟨xs,hm,heq,h⟩=>by
  show wpAny _ _ (dictGet d .none >>= _) _ _ s;refine Za ?_;obtain⟨o,es,ep,ho,_,hdd,he,his,hn⟩:=hm;unfold dictGet
  try with_reducible refine ZP ?_
  refine Za ?_;refine (show wpAny _ _ (pyHash Value.none) _ _ s from pyHash_slot (T:="NoneType") rfl F.slot_NoneType_hash F.entry_NoneType_hash (F.args_NoneType_hash_1 _) (beq_builtin_none _) (.inl rfl) (Za (Zb (Za (wpAny_mkInt (Zb ⟨_,_,rfl,?_⟩))))));refine Za (Q4O (s:={s with toks:=s.toks+1}) ho hdd he his (heq _ (by simp[Around.in1]) _) (Zb ?_))
  show wpAny _ _ (Builtin.Dict.missed d .none >>= _) _ _ _;exact Za (wpAny_missed_other hd (Zb ⟨.none,rfl,h _⟩))
end
end L2
namespace DL
open PySem PySem.Spec L2
open PyProof.Rows hiding St
section
variable{X:Cx}
theorem Q9K(r:KT H vs xs)(hx:x∈xs):∃p∈vs,H x.2.1=some (.tup (p.1.map kV)):=by
 induction r with
 |nil=>cases hx
 |cons h t ih=>
  rcases Zf.mp hx with rfl|hx
  ·exact⟨_,Zk,h.2.1⟩
  ·obtain⟨p,h1,h2⟩:=ih hx;exact⟨p,Zc _ h1,h2⟩
def rInO:fL:=λx y M Q=>(∃(n:List (List Nat)) (a:Addr) (kvs:List (List (List Nat)×D)),x=.tup (n.map .str)/\y=.ref a/\M a=some (.ah (.aK kvs))/\Q (.bl (aw kvs n).isSome) M)\/(∃(a:Addr) (kvs:List (List (List Nat)×D)),x=.non/\y=.ref a/\M a=some (.ah (.aK kvs))/\Q (.bl false) M)
theorem QcM(hu:X.A.units+66<cLine):dA X (compareOp .In) rInO:=by
 rintro pins s σ H x y v u Q I rx ry ⟨dx,dy,M,R,ex,ey,m,h,k⟩;rcases h with ⟨n,a,kvs,e1,e2,e3,q⟩|⟨a,kvs,e1,e2,e3,q⟩
 ·exact Q9J (by room) pins s σ H x y v u Q I rx ry ⟨dx,dy,M,R,ex,ey,m,⟨n,a,kvs,e1,e2,e3,q⟩,k⟩
 ·subst e1 e2;cases ex;cases ey;cases rx;cases ry;obtain⟨vs,g1,g2⟩:=m.aK e3;obtain⟨z,hd,xs,rel,dd⟩:=dO I.av g1;refine QcL (knd:=tupleKind (bZ X.prog X.w)) hd dd (λtk x hx=>?_) λtk=>⟨.bl false,H,I.tok tk,rfl,k _ M _ H q (Ext.refl H) m (.bl _)⟩;obtain⟨p,hp,hk⟩:=Q9K rel hx;have I2:=I.tok tk;obtain⟨its,rv,hit,z9⟩:=I2.tuple (.of hk);exact SeqAt.EqAt.tuple_none hit (by
   have:X.A.in1.units<=X.A.units+1:=by simp[Around.in1]
   room)
def zbr(td tk:aB):aB:=λρ M Q=>td ρ M λx M1=>∃(a:Addr) (kvs0:List (List (List Nat)×D)),x=.ref a/\M1 a=some (.ah (.aK kvs0))/\tk ρ M1 λy M2=>∃kvs:List (List (List Nat)×D),M2 a=some (.ah (.aK kvs))/\((∃n:List (List Nat),y=.tup (n.map .str)/\Q ((aw kvs n).getD .non) M2)\/(y=.non/\Q .non M2))
theorem Q8I(hu:X.A.units+100<cLine)(hd:DE X o td)(hk:DE X k tk)(m1:M1 X o "get" apos k cpos):DE X (.Call (.Attribute o "get" apos) [k] [] cpos) (zbr td tk):=by
 rintro pins s σ H Q I ⟨ρ,M,R,sm,m,h,k⟩;refine wpAny_Call_method m1.base m1.ir m1.line plainAttrs_dict slot_dict_get type_dict_get (aE (hd pins s σ H _ I ⟨ρ,M,_,sm,m,h,λx M1 xv H1 h1 x1 m1 dx=>(show ∃M1' R1 x',(∃a kvs0,x'=.ref a/\M1' a=some (.ah (.aK kvs0))/\tk ρ M1' R1)/\ar X.K M1' H1/\Den X.K H1 x' xv/\Ext H H1/\∀y M2 yv H2,R1 y M2->Ext H1 H2->ar X.K M2 H2->Den X.K H2 y yv->∃a kvs,x'=.ref a/\M2 a=some (.ah (.aK kvs))/\((∃n:List (List Nat),y=.tup (n.map .str)/\R ((aw kvs n).getD .non) M2)\/(y=.non/\R .non M2)) from by
   obtain⟨a,kvs0,e1,e2,h1⟩:=h1;exact⟨M1,_,x,⟨a,kvs0,e1,e2,h1⟩,m1,dx,x1,λy M2 yv H2 ⟨kvs,q1,q2⟩ _ _ _=>⟨a,kvs,e1,q1,q2⟩⟩)⟩) λu s1 ⟨x,H1,I1,rx,M1',R1,x',⟨a,kvs0,e1,e2,h1⟩,mm,dx,x1,nxt⟩=>?_)
 subst e1;cases dx;obtain rfl:u=Value.ref a:=rx;obtain⟨vs0,g1,_⟩:=mm.aK e2;obtain⟨t1,t2,_⟩:=rH I1 (.inr ⟨vs0,.inl g1⟩);refine⟨t1,t2,?_⟩;rw[m1.trees];refine Yj rfl (Calls.evalArgs_plain (ZM (aE (hk pins s1 σ H1 _ I1 ⟨ρ,M1',R1,sm.ext x1,mm,h1,λy M2 yv H2 h2 x2 m2 dy=>(show ∃M2' y',R1 y' M2'/\Ext H1 H2/\ar X.K M2' H2/\Den X.K H2 y' yv from⟨M2,y,h2,x2,m2,dy⟩)⟩) λiv s2 ⟨yv,H2,I2,ry,M2',y',hy,x2,m2,dy⟩=>Calls.spliced_nil ?_)));obtain⟨a',kvs,e3,e4,h3⟩:=nxt y' M2' yv H2 hy x2 m2 dy;cases e3;obtain⟨vs,g3,g4⟩:=m2.aK e4;rcases h3 with ⟨n,rfl,h3⟩|⟨rfl,h3⟩
 ·obtain⟨b,rfl,eb⟩:=iO dy;refine Qce (ZG (Yb (by decide) _) hu) I2 (cA.t g3 eb) ry λw' s3 I3 rw'=>⟨_,H2,I3,rw',?_⟩
  rcases g4.val n with ⟨q1,q2⟩|⟨d',v,q1,q2,q3⟩
  ·rw[q2];rw[q1]at h3;exact k _ M2' _ _ h3 (x1.trans x2) m2 .non
  ·rw[q2];rw[q1]at h3;exact k _ M2' _ _ h3 (x1.trans x2) m2 q3
 ·cases dy;cases ry;obtain⟨z,hd,xs,rel,dd⟩:=dO I2.av g3;refine call_meetsIn slot_dict_get dd.typeIs entry_dict_get (args_dict_get_2 _ _) (Q2Q (knd:=tupleKind (bZ X.prog X.w)) hd) ⟨xs,dd,λA' hA' tk x hx=>?_,λtk=>⟨.non,H2,I2.tok tk,rfl,k _ M2' _ H2 h3 (x1.trans x2) m2 .non⟩⟩;obtain⟨p,hp,hk⟩:=Q9K rel hx;obtain⟨its,rv,hit,z9⟩:=(I2.tok tk).tuple (.of hk);exact SeqAt.EqAt.tuple_none hit (by
   have:X.A.in1.units<=X.A.units+1:=by simp[Around.in1]
   room)
end
section
variable{X:Cx}
end
section
variable{X:Cx}{o k:Expr}{td tk:aB}{pos:Pos}
end
end DL
namespace L2
open PySem PySem.Spec PyProof.Rows
theorem Q5J(l:Addr)(items:Array Value)(n:Nat)(b:Addr)(items2:Array Value)(n2:Nat)(sl:Array (Option Value))(hc0:¬(!items.isEmpty&&Builtin.List.listTooLong (items.size+items2.size))=true)(hc1:items.size<=sizeLine)(hs2:items.size+items2.size<=sizeLine+1) :
  Meets (Builtin.«list.extend» ⟨[.ref l,.ref b],[]⟩) (λ_ R s=>s.heap.get? l=some { cls:=.type "list",dict:=none,data:=.seq items n,slots:=#[]}/\s.heap.get? b=some { cls:=.type "list",dict:=none,data:=.seq items2 n2,slots:=sl}/\R (.ok (.ret Value.none)) {s with heap:=s.heap.update l (Obj.mapSeq λx=>x++items2),toks:=s.toks}):=
 .of_wp λprog w A R s ⟨hl,hb,h⟩=>by
  obtain⟨hp,g,d,tk,os⟩:=s;have f1:=sub_list_list;have hz:(items++items2).size<=sizeLine+1:=by rw[Array.size_append];exact hs2
  wp_walk using (wpAny_updateSeq hl rfl (hz:=hc1) (_hz':=hz)),wpAny_loadPart' hl,wpAny_loadPart' hb
  exact⟨_,rfl,h⟩
def jf(K:Frag):V->List V->Hp->VK->Prop:=λx vs H Q=>∃l b xs zs,x=.ref l/\vs=[.ref b]/\H l=some (.lst xs)/\cB K H b zs/\xs.length+zs.length<=sizeLine/\Q .non (upd H l (.lst (xs++zs)))
theorem Q5K:MtM X "list.extend" (jf X.K):=by
 rintro pins s σ H x vs v us Q I rx rv ⟨l,b,xs,zs,e1,e2,hH,hB,hz,q⟩;subst e1 e2;cases rx;obtain⟨u,rfl,ru⟩:=rv.one;cases ru;obtain⟨z,its,n,r,hl,e⟩:=I.m9 hH;obtain⟨its2,r2,⟨⟨oc,od,dd,sl⟩,n2,g1,g2,g3,g4⟩,z2⟩:=I.list hB;dsimp only at g2 g3 g4;subst g2 g3 g4;have y2:=r2.length;have sz:its.toArray.size+its2.toArray.size<=sizeLine:=by rw[Z2,Z2];room
 refine call_meets F.slot_list_extend ⟨_,e,rfl⟩ F.entry_list_extend (F.args_list_extend_2 _ _) (Q5J l its.toArray n b its2.toArray n2 sl (by rw[jh sz,Bool.and_false];exact Z0) (by room) (by room)) ⟨e,g1,.non,_,I.nh (its':=its++its2) hH e (by simp) (r.append r2) (by rw[Zp];room),rfl,q⟩
end L2
namespace DL
open PySem PySem.Spec L2
open PyProof.Rows hiding St
section
variable{X:Cx}
def zbw:D->List D->DH->DK->Prop:=λd ds M Q=>∃(a:Addr) (xs ys:List D),d=.ref a/\ds=[.lst ys]/\M a=some (.lst xs)/\xs.length+ys.length<=sizeLine/\Q .non (ae M a (.lst (xs++ys)))
theorem Q3A:kP X "list.extend" zbw:=by
 rintro pins s σ H x xs v us Q I rx rv ⟨d,ds,M,R,e,dn,m,⟨a,ws,ys,h1,h2,qa,hz,q⟩,k⟩;subst h1 h2;cases e;cases dn with
 |cons dl t=>
  cases t;cases dl with
  |lst fz dd=>
   obtain⟨vs,e2,d⟩:=m.get qa;exact Q5K pins s σ H _ _ v us Q I rx rv ⟨a,_,vs,_,rfl,rfl,e2,fz.sq,by rw[<- d.length,<- dd.length];exact hz,k _ _ _ _ q (Ext.lst e2) (m.write e2 (d.append dd)) .non⟩
end
end DL
namespace L2
open PySem PySem.Spec PyProof.Rows
section
variable{X:Cx}{pins:List (Addr×Obj)}{σ:St}{H:Hp}{s:Shared}{a:Addr}{v:V}{r u:Value}{A:Around}{E:Value->Shared->Prop}{kvs:List (Key×V)}{k:Key}
theorem Q6U{Q:Value->Shared->Prop}(I:Inv X pins σ H s)(e:H a=some (.dK kvs))(ry:RelV (kV k) u)(l:kvs.length<sizeLine)(rv:RelV v r)
  (h1:∀y u s',aH kvs k=some y->RelV y u->Inv X pins σ H s'->Q u s') (h2:aH kvs k=none->∀s',Inv X pins σ (upd H a (.dK (putK kvs k v))) s'->Q r s') :
  wpAny (model X.prog X.w) A (call (.builtin "dict.setdefault") [.ref a,u,r]) Q E s:=by
 obtain⟨z,hd,vs,rel,dd⟩:=l5 I.av e;have hz:vs.length<=sizeLine:=by rw[<- rel.length];exact z
 have hl:(putK kvs k v).length<=sizeLine:=by have:=nQ kvs k v;room
 refine call_meetsIn slot_dict_setdefault dd.typeIs PySem.F.entry_dict_setdefault (PySem.F.args_dict_setdefault_3 _ _ _) (kt_meets_setdefault (bZ X.prog X.w) a (cH ry) hd r) ⟨vs,dd,hz,λp hp=>?_,λhn h' dd' hs=>?_⟩
 ·have q:=rel.val k;rw[hp]at q;cases ev:aH kvs k with
  |none=>rw[ev]at q;exact (show False from q).elim
  |some y=>
   rw[ev]at q;exact h1 y p _ ev q (I.tok _)
 ·have q:=rel.val k;rw[hn]at q;have ev:aH kvs k=none:=by
   cases ev:aH kvs k with
   |none=>rfl
   |some y=>rw[ev]at q;exact (show False from q).elim
  have he:∃q,h'.get? a=some q:=let ⟨q,_,_,hq,_⟩:=dd';⟨q,hq⟩;exact h2 ev _ (kL I (by rw[e];exact ZH) hs he (Q9D hl hd (rel.put k rv) dd'))
end
def mO(td ty tx:TE):TE:=λσ H Q=>td σ H λx H1=>∃a,x=.ref a/\sk H1 a/\ty σ H1 λy H2=>tx σ H2 λz H3=>∃kvs k,H3 a=some (.dK kvs)/\y=kV k/\kvs.length<sizeLine /\
 (∀v,aH kvs k=some v->Q v H3)/\(aH kvs k=none->Q z (upd H3 a (.dK (putK kvs k z))))
theorem Q8J(ho:PE X o td)(he:PE X e ty)(hf:PE X f tx)(m:M2 X o "setdefault" apos e f cpos):PE X (.Call (.Attribute o "setdefault" apos) [e,f] [] cpos) (mO td ty tx):=by
 intro pins s σ H Q I h;refine wpAny_Call_method m.base m.ir m.line plainAttrs_dict slot_dict_setdefault PySem.F.type_dict_setdefault (aE (ho pins s σ H _ I h) λu s1 z1=>?_);obtain⟨x,H1,I1,rx,a,ex,d,q1⟩:=z1;subst ex;obtain rfl:u=Value.ref a:=rx;obtain⟨t1,t2,_⟩:=rH I1 d;refine⟨t1,t2,?_⟩;rw[m.trees];refine Yj rfl (Calls.evalArgs_plain (ZM (aE (he pins s1 σ H1 _ I1 q1) λiv s2 ⟨y,H2,I2,ry,q2⟩=>
  ZM (aE (hf pins s2 σ H2 _ I2 q2) λfv s3 z3=>Calls.spliced_nil ?_))))
 obtain⟨z,H3,I3,rz,kvs,k,ea,ey,hl,q3,q4⟩:=z3;subst ey;exact Q6U I3 ea ry hl rz (λv u' s' ev rv I'=>⟨v,H3,I',rv,q3 v ev⟩) λev s' I'=>⟨z,_,I',rz,q4 ev⟩
theorem Q4j{P:Program}{w:World}{κ:Type}[DecidableEq κ](knd:HeapKind P w κ)(d a:Addr)(hd:(d==sysModules)=false)(dflt:Value) :
  MeetsIn P w (Builtin.«dict.pop» ⟨[.ref d,.ref a,dflt],[]⟩) (λA R s=>knd.room A.in1/\∃k xs,knd.is s.heap k a/\s.heap.DictOfH knd d xs/\atKey xs k=none/\∀t,R (.ok (.ret dflt)) {s with toks:=t}):=by
 refine .of_wp λA R s q=>?_;obtain⟨hu,k,xs,h1,h2,h3,h5⟩:=q;obtain⟨o,es,ep,q1,q2,q3,q4,q5,q6⟩:=id h2;unfold Builtin.«dict.pop» Builtin.Dict.keyAndDefault;refine Za (Za (wpAny_notOrdered_dict h2.typeIs (Zb (a:=(d,Value.ref a,(some dflt:Option Value))) ?_)));have kp:(keyPart (Value.ref a)).isSome=false:=rfl;erw[kp,Z9,ZT];refine Za (Yo q1 q3 (Za (Zb ?_)));cases em:es.isEmpty with
 |true=>
  erw[if_true];refine Za (wpAny_rule (Za (Zb ?_)));erw[Option.isNone_none,if_true];refine Za (wpAny_missedRemoval_other hd ?_);exact Za (wpAny_rule (Zb ⟨dflt,rfl,h5 s.toks⟩))
 |false=>
  erw[Z9,ZT];refine Za ?_;unfold Builtin.Dict.takeOut
  try with_reducible refine ZP ?_
  refine Za (knd.pyHash hu h1 (Za (wpAny_dictFind_heap (s:={s with toks:=s.toks+knd.draws k}) hu h1 q1 q3 q4 q5 q6 (λno=>?_) λj p hj=>?_)))
  ·refine Zb ?_;erw[Option.isNone_none,if_true];refine Za (wpAny_missedRemoval_other hd ?_);exact Za (wpAny_rule (Zb ⟨dflt,rfl,h5 _⟩))
  ·exact absurd (atKey_of_get q6 hj) (by rw[h3];exact λz=>nomatch z)
section
variable{X:Cx}{pins:List (Addr×Obj)}{σ:St}{H:Hp}{s:Shared}{a b:Addr}{v:V}{r:Value}{A:Around}{E:Value->Shared->Prop}{kvs:List (List Key×V)}{k:List Key}
theorem QcN{Q:Value->Shared->Prop}(hu:A.units+1<cLine)(I:Inv X pins σ H s)(e:H a=some (.dT kvs))(eb:H b=some (.tup (k.map kV)))(l:aH kvs k=none)(h:∀s',Inv X pins σ H s'->Q r s') :
  wpAny (model X.prog X.w) A (call (.builtin "dict.pop") [.ref a,.ref b,r]) Q E s:=by
 obtain⟨z,hd,xs,rel,dd⟩:=dO I.av e;have q:=rel.val k;rw[l]at q;have hn:atKey xs k=none:=by
  cases ev:atKey xs k with
  |none=>rfl
  |some y=>rw[ev]at q;exact (show False from q).elim
 exact call_meetsIn slot_dict_pop dd.typeIs PySem.F.entry_dict_pop (PySem.F.args_dict_pop_3 _ _ _) (Q4j (tupleKind (bZ X.prog X.w)) a b hd r) ⟨Ye hu,k,xs,key_of I.av eb,dd,hn,λt=>h _ (I.tok _)⟩
end
end L2
namespace DL
open PySem PySem.Spec L2
open PyProof.Rows hiding St
section
variable{X:Cx}{o k:Expr}{apos cpos:Pos}{td tk:aB}
def zbi(td tk tx:aB):aB:=λρ M Q=>td ρ M λx M1=>∃(a:Addr) (kvs0:List (List Nat×D)),x=.ref a/\M1 a=some (.ah (.d8 kvs0))/\tk ρ M1 λy M2=>tx ρ M2 λz M3=>∃(n:List Nat) (kvs:List (List Nat×D)),y=.str n/\M3 a=some (.ah (.d8 kvs))/\kvs.length<sizeLine /\
 (∀d,dh kvs n=some d->Q d M3)/\(dh kvs n=none->Q z (ae M3 a (.ah (.d8 (eF kvs n z)))))
theorem Q8K(hd:DE X o td)(hk:DE X k tk)(hf:DE X f tx)(m2:M2 X o "setdefault" apos k f cpos):DE X (.Call (.Attribute o "setdefault" apos) [k,f] [] cpos) (zbi td tk tx):=
 (Q8J hd hk hf m2).imp λσ H Q ⟨ρ,M,R,s,m,h,k⟩=>⟨ρ,M,_,s,m,h,λx M1 xv H1 ⟨a,kvs0,e1,e2,h1⟩ x1 m1 dx=>by
  subst e1;cases dx;obtain⟨vs0,g1,_⟩:=m1.d8 e2;refine⟨a,rfl,.inl ⟨vs0,.inl g1⟩,ρ,M1,_,s.ext x1,m1,h1,λy M2 yv H2 h2 x2 m2 dy=>⟨ρ,M2,_,(s.ext x1).ext x2,m2,h2,λz M3 zv H3 ⟨n,kvs,e3,e4,e5,h3,h4⟩ x3 m3 dz=>?_⟩⟩;subst e3;cases dy;obtain⟨vs,g3,g4⟩:=m3.d8 e4;have xx:=(x1.trans x2).trans x3;refine⟨vs,iJ n,g3,rfl,by rw[<- g4.length];exact e5,λv hv=>?_,λhv=>?_⟩
  ·rcases g4.val n with ⟨q1,q2⟩|⟨d',v',q1,q2,q3⟩
   ·rw[q2]at hv;cases hv
   ·rw[q2]at hv;cases hv;exact k _ M3 _ _ (h3 d' q1) xx m3 q3
  ·rcases g4.val n with ⟨q1,q2⟩|⟨d',v',q1,q2,q3⟩
   ·have y:Ext H3 (upd H3 a (.dK (putK vs (iJ n) zv))):=Ext.mut g3 (λ_ z=>nomatch z) (λ_ _ z=>nomatch z)
    exact k _ _ _ _ (h4 q1) (xx.trans y) (m3.put y ⟨_,b9,Paired.b6 (g4.put n dz) λp q z=>⟨z.1,Den.ext y z.2⟩⟩) (dz.ext y)
   ·rw[q2]at hv;cases hv⟩
end
section
variable{X:Cx}{o value:Expr}{pos pos':Pos}{tv:aB}
def dFAug(c f:Str)(to tv:aB):cU:=λDD ρ M=>to ρ M λx M1=>∃a fs i,x=.ref a/\M1 a=some (.ah (.ins c fs))/\fs.lookup f=some (.int i) /\
 tv ρ M1 λy M2=>∃j fs',y=.int j/\M2 a=some (.ah (.ins c fs'))/\fs'.length<1000/\DD.nx ρ (ae M2 a (.ah (.ins c (bq f (.int (i+j)) fs'))))
theorem Qb1(hC:nsIn X.K mainGlobals c=some (some (.ref C)))(hc:Cls X.K C)(hn:bI X.K C f)(ho:DE X o to)(hv:DE X value tv) :
  DS X (.AugAssign (.Attribute o f pos') .Add value pos) (dFAug c f to tv):=
 (Q6j ho hv Qc8).imp λD σ H ⟨ρ,M,DD,s,m,h,k⟩=>⟨ρ,M,_,s,m,h,λx M1 xv H1 ⟨a,fs,i,e1,e2,e3,h1⟩ x1 m1 dx=>by
  subst e1;cases dx;obtain⟨C',dx,vs,g1,g2,g3⟩:=m1.ins e2;rw[hC]at g1;cases g1;obtain⟨v,q1,q2⟩:=g3.lookup e3;cases q2;refine⟨a,C,dx,vs,.int i,rfl,g2,hc,hn,q1,ρ,M1,_,s.ext x1,m1,h1,λy M2 yv H2 ⟨j,fs',e4,e5,e6,h2⟩ x2 m2 dy=>?_⟩;subst e4;cases dy;obtain⟨C',dx',vs',g1,g4,g5⟩:=m2.ins e5;rw[hC]at g1;cases g1;have xx:Ext H2 (upd H2 a (.ins C dx' (bQ f (.int (i+j)) vs'))):=Ext.mut g4 (λ_ z=>nomatch z) (λ_ _ z=>nomatch z)
  exact⟨i,j,rfl,rfl,dx',vs',g4,by rw[<- g5.length];exact e6,k.nx ρ _ σ _ h2 ((x1.trans x2).trans xx) ((s.ext (x1.trans x2)).ext xx)
   (m2.put xx ⟨C,dx',_,hC,b9,Paired.b6 (g5.put f (.int (i+j))) λp q z=>⟨z.1,Den.ext xx z.2⟩⟩)⟩⟩
end
end DL
namespace L2
open PySem PySem.Spec PyProof.Rows
section
variable{P:Program}{w:World}{H:Hp}{h:Heap}{a:Addr}{ob:Obj}{u:HO}
end
section
variable{X:Cx}{tg:Expr}
end
section
variable{X:Cx}{pins:List (Addr×Obj)}{σ:St}{H:Hp}{s:Shared}{A:Around}{E:Value->Shared->Prop}
end
end L2
namespace DL
open PySem PySem.Spec L2
open PyProof.Rows hiding St
section
variable{K:Frag}{H:Hp}{M:DH}{a:Addr}{ob:Obj}
end
section
variable{X:Cx}{tg e o k:Expr}{te td tk:aB}{pos:Pos}
end
noncomputable abbrev ND:=List Nat×List (List Nat)×List (List Nat)
noncomputable def gk:Bool->ND->D
 |false,k=>.tup (.str k.1::.tup (k.2.1.map .str)::k.2.2.map .str)
 |true,k=>.tup (.tup (k.2.1.map .str)::.str k.1::k.2.2.map .str)
noncomputable abbrev bu:ND->D:=gk false
section
noncomputable def valN(kvs:List (ND×D))(k:ND):Option D:=(kvs.find? λkv=>decide (kv.1=k)).map (·.2)
noncomputable def putN(kvs:List (ND×D))(k:ND)(v:D):List (ND×D):=
 if (kvs.any λkv=>decide (kv.1=k))=true then kvs.map (λkv=>if kv.1=k then (kv.1,v) else kv) else kvs++[(k,v)]
theorem Q8L:valN [] k=none:=rfl
theorem jz(e:p.1=k):valN (p::r) k=some p.2:=by simp[valN,ZU,e]
theorem iM(e:¬ p.1=k):valN (p::r) k=valN r k:=by simp[valN,ZU,e]
theorem nR(k:ND):∀kvs:List (ND×D),(kvs.any λkv=>decide (kv.1=k))=(valN kvs k).isSome
 |[]=>rfl
 |p::r=>by
  rw[any_cons];by_cases e:p.1=k
  ·erw[jz e,Z7 e,Bool.true_or,Option.isSome_some]
  ·rw[iM e,Zt e,Bool.false_or];exact nR k r
theorem Q4P(k j:ND)(y:D):∀kvs:List (ND×D),valN (kvs.map λkv=>if kv.1=k then (kv.1,y) else kv) j=(valN kvs j).map λx=>if j=k then y else x
 |[]=>rfl
 |p::r=>by
  have ih:=Q4P k j y r;rw[Zu];by_cases h:p.1=k
  ·rw[Zg h];by_cases e:p.1=j
   ·rw[jz (p:=(p.1,y)) e,jz e,ZV,Zg (e.symm.trans h)]
   ·rw[iM (p:=(p.1,y)) e,iM e,ih]
  ·rw[Zd h];by_cases e:p.1=j
   ·rw[jz (p:=p) e,jz e,ZV,Zd (λz=>h (e.trans z))]
   ·rw[iM (p:=p) e,iM e,ih]
theorem Q3B(k j:ND)(y:D):∀kvs:List (ND×D),valN kvs k=none->valN (kvs++[(k,y)]) j=if j=k then some y else valN kvs j
 |[],_=>by
  by_cases e:k=j
  ·rw[Zg e.symm];exact jz (p:=(k,y)) e
  ·rw[Zd (λz=>e z.symm)];exact iM (p:=(k,y)) e
 |p::r,hn=>by
  rw[cons_append];have hk:¬ p.1=k:=λz=>by rw[jz z]at hn;cases hn
  rw[iM hk]at hn;have ih:=Q3B k j y r hn;by_cases e:p.1=j
  ·rw[jz e,jz e,Zd (λz=>hk (e.trans z))]
  ·rw[iM e,iM e,ih]
theorem Q4Q(kvs:List (ND×D))(k j:ND)(y:D):valN (putN kvs k y) j=if j=k then some y else valN kvs j:=by
 unfold putN;by_cases a:(kvs.any λkv=>decide (kv.1=k))=true
 ·rw[Zg a,Q4P];rw[nR]at a;by_cases e:j=k
  ·obtain⟨x,hx⟩:=Option.isSome_iff_exists.mp a;rw[Zg e,e,hx,ZV,Zg rfl]
  ·rw[Zd e];cases valN kvs j with
   |none=>rfl
   |some x=>rw[ZV,Zd e]
 ·rw[Zd a];refine Q3B k j y kvs ?_;rw[nR]at a;cases q:valN kvs k with
  |none=>rfl
  |some x=>rw[q]at a;exact (a rfl).elim
theorem Q2a(kvs:List (ND×D))(k:ND)(v:D):(putN kvs k v).length<=kvs.length+1:=by
 unfold putN;split
 ·rw[Ze];room
 ·rw[Zp,Zs,ZN];room
end
theorem Q6V(e:eV a=eV b):a=b:=by
 obtain⟨a1,a2,a3⟩:=a;obtain⟨b1,b2,b3⟩:=b;erw[eV,Prod.mk.injEq]at e;rw[Q4i e.1,oF e.2.1,oF e.2.2]
section
variable{K:Frag}{H:Hp}
theorem iE.val(r:iE K H kvs vs)(k:ND) :
  (valN kvs k=none/\aH vs (eV k)=none)\/∃d v,valN kvs k=some d/\aH vs (eV k)=some v/\Den K H d v:=by
 induction r with
 |nil=>exact .inl ⟨rfl,rfl⟩
 | @cons p q ps qs h t ih=>
  by_cases e:p.1=k
  ·exact .inr ⟨p.2,q.2,jz e,nU (by rw[h.1,e]),h.2.1⟩
  ·rw[iM e,nT (by rw[h.1];exact λz=>e (Q6V z))];exact ih
theorem iE.put(r:iE K H kvs vs)(k:ND)(den:Den K H d v)(kg:oZ k):iE K H (putN kvs k d) (putK vs (eV k) v):=by
 have an:(kvs.any λkv=>decide (kv.1=k))=vs.any λkv=>decide (kv.1=eV k):=by
  rw[nR,oM];rcases r.val k with ⟨a,b⟩|⟨x,y,a,b,_⟩<;>rw[a,b]<;>rfl
 unfold putN putK;rw[an];by_cases e:(vs.any λkv=>decide (kv.1=eV k))=true
 ·rw[Zg e,Zg e];clear an e
  induction r with
  |nil=>exact .nil
  | @cons p q ps qs h t ih=>
   rw[Zu,Zu];refine .cons ?_ ih;by_cases e:p.1=k
   ·rw[Zg e,Zg (by rw[h.1,e])];exact⟨h.1,den,h.2.2⟩
   ·rw[Zd e,Zd (by rw[h.1];exact λz=>e (Q6V z))];exact h
 ·rw[Zd e,Zd e];exact Paired.snoc r ⟨rfl,den,kg⟩
theorem iE.length(r:iE K H kvs vs):kvs.length=vs.length:=ZQ r
def gG(fl:Bool)(M:DH)(a:Addr)(kvs:List (ND×D)):Prop:=∃ep,M a=some (.ah (.dP fl ep kvs))
noncomputable abbrev TbN(M:DH)(a:Addr)(kvs:List (ND×D)):Prop:=gG false M a kvs
theorem gG.put(h:gG fl M a kvs)(n:a≠q):gG fl (ae M q o) a kvs:=h.imp λ_ e=>by rw[ag n];exact e
theorem gG.dn(h:gG fl M a kvs)(e:M q=none):a≠q:=λz=>by
 obtain⟨_,h⟩:=h;rw[z,e]at h;cases h
theorem ar.dP(h:ar K M H)(e:gG fl M a kvs):∃vs,(∃ep,H a=some (.dN fl ep vs))/\iE K H kvs vs:=by
 obtain⟨ep,e⟩:=e;obtain⟨vs,q1,q2⟩:=h a _ e;exact⟨vs,⟨ep,q1⟩,q2⟩
theorem rX:∀{n:List (List Nat)}{vs:List V},ai K H (n.map .str) vs->∀w∈n,(w.all λc=>decide (c<1114112))=true
 |[],_,_=>λ_ z=>nomatch z
 |x::r,_,h=>by
  cases h with
  |cons h1 h2=>
   cases h1 with
   |str _ hx=>
    intro w hw;rcases Zf.mp hw with rfl|hw
    ·exact hx
    ·exact rX h2 w hw
theorem Q4R(h:Den K H (gk fl k) v):oZ k:=by
 cases fl with
 |false=>
  cases h with
  |tup q r=>
   cases r with
   |cons r1 r=>
    cases r with
    |cons r2 r3=>
     cases r1 with
     |str _ hx=>
      cases r2 with
      |tup _ r4=>
       intro w hw;rcases Zf.mp hw with rfl|hw
       ·exact hx
       ·rcases Z1.mp hw with hw|hw
        ·exact rX r4 w hw
        ·exact rX r3 w hw
 |true=>
  cases h with
  |tup q r=>
   cases r with
   |cons r1 r=>
    cases r with
    |cons r2 r3=>
     cases r2 with
     |str _ hx=>
      cases r1 with
      |tup _ r4=>
       intro w hw;rcases Zf.mp hw with rfl|hw
       ·exact hx
       ·rcases Z1.mp hw with hw|hw
        ·exact rX r4 w hw
        ·exact rX r3 w hw
theorem Q2R:∀{n:List (List Nat)},(∀w∈n,(w.all λc=>decide (c<1114112))=true)->ai K H (n.map .str) ((nk n).map kV)
 |[],_=>.nil
 |x::r,h=>.cons (.str x (h x Zk)) (Q2R λw hw=>h w (Zc _ hw))
theorem Q4S(g:oZ k)(h:bK fl H (eV k) b):Den K H (gk fl k) (.ref b):=by
 obtain⟨n,e1,e2⟩:=h;have d1:Den K H (.str k.1) (kV (eV k).1):=.str _ (g _ Zk);have d2:Den K H (.tup (k.2.1.map .str)) (.ref n):=.tup e2 (Q2R λw hw=>g w (Zc _ (Z5 _ hw)));have d3:ai K H (k.2.2.map .str) ((eV k).2.2.map kV):=Q2R λw hw=>g w (Zc _ (Zl _ hw));cases fl with
 |false=>exact .tup e1 (.cons d1 (.cons d2 d3))
 |true=>exact .tup e1 (.cons d2 (.cons d1 d3))
theorem rO(h:Den K H (gk fl k) v):∃b,v=.ref b/\bK fl H (eV k) b:=by
 cases fl with
 |false=>
  cases h with
  |tup q r=>
   cases r with
   |cons r1 r=>
    cases r with
    |cons r2 r3=>
     cases r1;obtain⟨n,rfl,e⟩:=iO r2;refine⟨_,rfl,n,?_,e⟩;rw[Q1s r3]at q;exact q
 |true=>
  cases h with
  |tup q r=>
   cases r with
   |cons r1 r=>
    cases r with
    |cons r2 r3=>
     cases r2;obtain⟨n,rfl,e⟩:=iO r1;refine⟨_,rfl,n,?_,e⟩;rw[Q1s r3]at q;exact q
end
section
variable{X:Cx}{o k value:Expr}{pos pos':Pos}{td tk tv:aB}
def zbX(fl:Bool):aB:=λ_ M Q=>∀q,M q=none->Q (.ref q) (ae M q (.ah (.dP fl 0 [])))
theorem Qb2:DE X (.Dict [] [] pos) (zbX fl):=
 Qas.imp λσ H Q ⟨ρ,M,R,s,m,h,k⟩ q hq=>k _ _ _ _ (h q (m.free hq)) (Ext.new hq) (m.put (u:=.ah (.dP fl 0 [])) (Ext.new hq) ⟨[],b9,.nil⟩) (.ref q)
def zbn(fl:Bool)(tk tv:aB):aB:=λρ M Q=>∀q,M q=none->tk ρ (ae M q (.ah (.dP fl 0 []))) λx M1=>tv ρ M1 λy M2=>∃n:ND,x=gk fl n/\gG fl M2 q []/\∀ep,Q (.ref q) (ae M2 q (.ah (.dP fl ep [(n,y)])))
theorem Q8M(hu:X.A.units+2<cLine)(hk:DE X k tk)(hv:DE X value tv):DE X (.Dict [some k] [value] pos) (zbn fl tk tv):=
 (Q8h hu hk hv).imp λσ H Q ⟨ρ,M,R,s,m,h,k⟩ q hq=>⟨ρ,_,_,s.ext (Ext.new hq),m.put (u:=.ah (.dP fl 0 [])) (Ext.new hq) ⟨[],b9,.nil⟩,h q (m.free hq),λx M1 xv H1 h1 x1 m1 dx=>⟨ρ,M1,_,(s.ext (Ext.new hq)).ext x1,m1,h1,λy M2 yv H2 ⟨n,e1,e2,h2⟩ x2 m2 dy=>by
  subst e1;have kg:=Q4R dx;obtain⟨b,rfl,eb⟩:=rO (dx.ext x2);obtain⟨vs,⟨ep,g1⟩,g2⟩:=m2.dP e2;cases g2;have xx:∀ep',Ext H2 (upd H2 q (.dN fl ep' [(eV n,yv)])):=λ_=>Ext.mut g1 (λ_ z=>nomatch z) (λ_ _ z=>nomatch z)
  exact⟨eV n,b,rfl,eb,⟨ep,g1⟩,λep'=>k _ _ _ _ (h2 ep') ((((Ext.new hq).trans x1).trans x2).trans (xx ep')) (m2.put (xx ep') ⟨_,b9,.cons ⟨rfl,dy.ext (xx ep'),kg⟩ .nil⟩) (.ref q)⟩⟩⟩
def rInN(fl:Bool)(f:Bool->Bool):fL:=λx y M Q=>∃(n:ND) (a:Addr) (kvs:List (ND×D)),x=gk fl n/\y=.ref a/\gG fl M a kvs/\Q (.bl (f (valN kvs n).isSome)) M
theorem Q3C{K:Frag}{H:Hp}{kvs:List (ND×D)}{vs:List (NK.aX Key×V)}(r:iE K H kvs vs)(n:ND):(aH vs (eV n)).isSome=(valN kvs n).isSome:=by
 rcases r.val n with ⟨q1,q2⟩|⟨d,v,q1,q2,_⟩<;>rw[q1,q2]<;>rfl
theorem Q9L(hu:X.A.units+2<cLine):dA X (compareOp .In) (rInN fl id):=by
 rintro pins s σ H x y v u Q I rx ry ⟨dx,dy,M,R,ex,ey,m,⟨n,a,kvs,e1,e2,e3,q⟩,k⟩;subst e1 e2;obtain⟨b,rfl,eb⟩:=rO ex;cases ey;obtain⟨vs,⟨ep,g1⟩,g2⟩:=m.dP e3;cases ry;cases rx;refine n_in hu I g1 eb λs' I'=>⟨.bl (aH vs (eV n)).isSome,H,I',rfl,?_⟩;rw[Q3C g2];exact k _ M _ H q (Ext.refl H) m (.bl _)
theorem Qb3(hu:X.A.units+2<cLine):dA X (compareOp .NotIn) (rInN fl not):=by
 rintro pins s σ H x y v u Q I rx ry ⟨dx,dy,M,R,ex,ey,m,⟨n,a,kvs,e1,e2,e3,q⟩,k⟩;subst e1 e2;obtain⟨b,rfl,eb⟩:=rO ex;cases ey;obtain⟨vs,⟨ep,g1⟩,g2⟩:=m.dP e3;cases ry;cases rx;refine Qaq hu I g1 eb λs' I'=>⟨.bl (!(aH vs (eV n)).isSome),H,I',rfl,?_⟩;rw[Q3C g2];exact k _ M _ H q (Ext.refl H) m (.bl _)
def rNIx(fl:Bool):fL:=λx y M Q=>∃(n:ND) (a:Addr) (kvs:List (ND×D)) (d:D),y=gk fl n/\x=.ref a/\gG fl M a kvs/\valN kvs n=some d/\Q d M
theorem QcO(hu:X.A.units+2<cLine)(hd:DE X o td)(hk:DE X k tk)(hs:iD k):DE X (.Subscript o k pos) (dOp (rNIx fl) td tk):=
 (Qat hu hd hk hs).imp λσ H Q ⟨ρ,M,R,s,m,h,k⟩=>⟨ρ,M,_,s,m,h,λx M1 xv H1 h1 x1 m1 dx=>⟨ρ,M1,_,s.ext x1,m1,h1,λy M2 yv H2 ⟨n,a,kvs,d,e1,e2,e3,e4,h2⟩ x2 m2 dy=>by
  subst e1 e2;obtain⟨b,rfl,eb⟩:=rO dy;cases dx;obtain⟨vs,g1,g2⟩:=m2.dP e3;rcases g2.val n with ⟨q1,q2⟩|⟨d',v,q1,q2,q3⟩
  ·rw[q1]at e4;cases e4
  ·rw[q1]at e4;cases e4;exact⟨a,b,vs,eV n,v,rfl,rfl,g1,eb,q2,k _ M2 _ _ h2 (x1.trans x2) m2 q3⟩⟩⟩
def dNPut(fl:Bool)(td tk tv:aB):cU:=λDD ρ M=>tv ρ M λv M1=>td ρ M1 λx M2=>tk ρ M2 λy M3=>∃(a:Addr) (n:ND) (kvs:List (ND×D)),x=.ref a/\y=gk fl n/\gG fl M3 a kvs/\kvs.length<sizeLine/\∀ep',DD.nx ρ (ae M3 a (.ah (.dP fl ep' (putN kvs n v))))
theorem Qb4(hu:X.A.units+2<cLine)(hd:DE X o td)(hk:DE X k tk)(hv:DE X value tv)(hs:swapsWith value (some (.Subscript o k pos')) pos.line X.env=pure false):DS X (.Assign [.Subscript o k pos'] value pos) (dNPut fl td tk tv):=
 (Qau hu hd hk hv hs).imp λD σ H ⟨ρ,M,DD,s,m,h,k⟩=>⟨ρ,M,_,s,m,h,λv M1 vv H1 h1 x1 m1 dv=>⟨ρ,M1,_,s.ext x1,m1,h1,λx M2 xv H2 h2 x2 m2 dx=>⟨ρ,M2,_,(s.ext x1).ext x2,m2,h2,λy M3 yv H3 ⟨a,n,kvs,e1,e2,e3,e4,h3⟩ x3 m3 dy=>by
  subst e1 e2;cases dx;have kg:=Q4R dy;obtain⟨b,rfl,eb⟩:=rO dy;obtain⟨vs,⟨ep,g1⟩,g2⟩:=m3.dP e3;have y:∀ep',Ext H3 (upd H3 a (.dN fl ep' (putK vs (eV n) vv))):=λ_=>Ext.mut g1 (λ_ z=>nomatch z) (λ_ _ z=>nomatch z)
  have xx:=(x1.trans x2).trans x3;exact⟨a,b,vs,eV n,rfl,rfl,⟨ep,g1⟩,eb,by rw[<- g2.length];exact e4,λep'=>k.nx ρ _ σ _ (h3 ep') (xx.trans (y ep')) ((s.ext xx).ext (y ep')) (m3.put (y ep') ⟨_,b9,Paired.b6 (g2.put n ((dv.ext x2).ext x3) kg) λp q z=>⟨z.1,Den.ext (y ep') z.2.1,z.2.2⟩⟩)⟩⟩⟩⟩
theorem Q8N(hC:nsIn X.K mainGlobals c=some (some (.ref C)))(MK:Mk X.K C f)
  (F:aS X.prog X.w X.K X.mg X.base CX kk f fd ps (di X.K sp)) (hr:aQ (kk+1) X.A) (hg:Gl X c) (hm:X.mg c=some (.ref C)) (hb:Binds X.K fd ps []) (hx:gP CX X E) (hdb:(c==("__debug__":Str))=false) :
  DE X (.Call (.Name c p) [] [] pos) (zb7 c sp dNil):=
 (Q7S MK F hr hg hm hb .nil hx hdb).imp λσ H Q ⟨ρ,M,R,s,m,h,k⟩ x dx hx hd hne=>by
  have n1:upd H dx (.own x) x=none:=by rw[aY hne.symm];exact hx
  have y1:Ext H (upd H dx (.own x)):=Ext.new hd;have y2:Ext (upd H dx (.own x)) (upd (upd H dx (.own x)) x (.ins C dx [])):=Ext.new n1;refine⟨.ref x::[],ae M x (.ah (.ins c [])),_,.cons (.ref x) .nil,(m.new hd).put y2 ⟨C,dx,[],hC,b9,.nil⟩,h x (m.free hx),λd M2 v H2 ⟨e2,h2⟩ x2 m2 den=>?_⟩;subst e2;cases den;exact⟨rfl,k _ M2 _ _ h2 ((y1.trans y2).trans x2) m2 (.ref x)⟩
end
section
variable{K:Frag}{H:Hp}
theorem iE.at(r:iE K H kvs vs):∀{i:Nat}{q:NK.aX Key×V},vs[i]?=some q->∃p,kvs[i]?=some p/\q.1=eV p.1/\Den K H p.2 q.2/\oZ p.1:=by
 induction r with
 |nil=>intro i q h;cases h
 |cons h t ih=>
  intro i q hq;cases i with
  |zero=>cases hq;exact⟨_,rfl,h⟩
  |succ j=>exact ih (i:=j) hq
def CdN(fl:Bool)(a:Addr)(ep:Nat)(kvs:List (ND×D))(M:DH):Prop:=M a=some (.ah (.dP fl ep kvs))
theorem CdN.hp(c:CdN fl a ep kvs M)(m:ar K M H):∃vs,H a=some (.dN fl ep vs)/\iE K H kvs vs:=m a _ c
end
section
variable{X:Cx}{tg e f o k:Expr}{te td tk:aB}{p pos kpos apos cpos:Pos}
theorem ai.dropLast{K:Frag}{H:Hp}:∀{ds:List D}{vs:List V},ai K H ds vs->ai K H ds.dropLast vs.dropLast
 |[],_,h=>by cases h;exact .nil
 |[_],_,h=>by cases h with|cons _ t=>cases t;exact .nil
 |_::_::_,_,h=>by cases h with|cons h1 t=>cases t with|cons h2 t2=>exact .cons h1 (ai.dropLast (.cons h2 t2))
def mPop:D->List D->DH->DK->Prop:=λd ds M Q=>∃(a:Addr) (xs:List D) (y:D),d=.ref a/\ds=[]/\M a=some (.lst xs)/\xs[xs.length-1]?=some y/\Q y (ae M a (.lst xs.dropLast))
theorem Q9M:kP X "list.pop" mPop:=by
 rintro pins s σ H x xs v us Q I rx rv ⟨d,ds,M,R,e,dn,m,⟨a,ys,y,h1,h2,qa,hy,q⟩,k⟩;subst h1 h2;cases e;cases dn;obtain⟨vs,e2,d⟩:=m.get qa;obtain⟨w,hw,den⟩:=d.get hy;exact Qcd pins s σ H _ _ v us Q I rx rv ⟨a,vs,w,rfl,rfl,e2,by rw[<- d.length];exact hw,k _ _ _ _ q (Ext.lst e2) (m.write e2 d.dropLast) (den.ext (Ext.lst e2))⟩
theorem Q4k{α β:Type}{R:α->β->Prop}{l l':List β}(h:l.Perm l'):∀{xs:List α},Paired R xs l->∃ys,ys.Perm xs/\Paired R ys l':=by
 induction h with
 |nil=>intro xs r;exact⟨xs,.refl _,r⟩
 |cons x _ ih=>
  intro xs r;cases r with
  |cons a t=>
   obtain⟨ys,p,q⟩:=ih t;exact⟨_::ys,p.cons _,.cons a q⟩
 |swap x y l=>
  intro xs r;cases r with
  |cons a t=>
   cases t with
   |cons b t=>exact⟨_,List.Perm.swap ..,.cons b (.cons a t)⟩
 |trans _ _ ih1 ih2=>
  intro xs r;obtain⟨ys,p,q⟩:=ih1 r;obtain⟨zs,p',q'⟩:=ih2 q;exact⟨zs,p'.trans p,q'⟩
theorem Q2x{α β:Type}{R:α->β->Prop}:∀(ns:List Int) (xs:List α) (ys:List β),xs.length=ys.length->(∀(i:Nat) (x:α) (y:β),xs[i]?=some x->ys[i]?=some y->R x y)->Paired (λ(p:Int×α) (q:Int×β)=>p.1=q.1/\R p.2 q.2) (ns.zip xs) (ns.zip ys)
 |[],_,_,_,_=>.nil
 |_::_,[],[],_,_=>.nil
 |_::_,[],_::_,h,_=>by cases h
 |_::_,_::_,[],h,_=>by cases h
 |n::ns,x::xs,y::ys,h,r=>.cons ⟨rfl,r 0 x y rfl rfl⟩ (Q2x ns xs ys (Nat.succ.inj h) λi a b ha hb=>r (i+1) a b ha hb)
theorem Q2S{α β:Type}{R:α->β->Prop}{xs:List (Int×α)}{ys:List (Int×β)}(h:Paired (λp q=>p.1=q.1/\R p.2 q.2) xs ys):ys.Pairwise (λp q=>p.1<=q.1)->xs.Pairwise (λp q=>p.1<=q.1):=by
 induction h with
 |nil=>intro _;exact .nil
 | @cons x y xs ys a t ih=>
  intro w;rw[pairwise_cons]at w ⊢;refine⟨λp hp=>?_,ih w.2⟩;have:∀{us:List (Int×α)}{vs:List (Int×β)},Paired (λp q=>p.1=q.1/\R p.2 q.2) us vs->p∈us->∃q∈vs,p.1=q.1:=by
   intro us vs r
   induction r with
   |nil=>intro hp;cases hp
   |cons b _ ih'=>
    intro hp;rcases Zf.mp hp with rfl|hp
    ·exact⟨_,Zk,b.1⟩
    ·obtain⟨q,z1,z2⟩:=ih' hp;exact⟨q,Zc _ z1,z2⟩
  obtain⟨q,z1,z2⟩:=this t hp;rw[a.1,z2];exact w.1 q z1
noncomputable def zbt(fl:Bool)(c m:Str)(sp:aU)(x:D)(Q:DK):DK:=λy M2=>∃(a o:Addr) (fs:List (Str×D)) (kvs:List (ND×D)) (ns:List Int),x=.ref a/\y=.ref o/\M2 o=some (.ah (.ins c fs))/\fs.lookup m=none/\gG fl M2 a kvs/\kvs.length<64/\ns.length=kvs.length /\
 (∀(i:Nat) (p:ND×D) (n:Int),kvs[i]?=some p->ns[i]?=some n->sp [.ref o,gk fl p.1] M2 (λd M'=>d=.int n/\M'=M2)) /\
 ∀(qs:List (Int×ND)) (l:Addr),qs.Perm (ns.zip (kvs.map (·.1)))->qs.Pairwise (λp q=>p.1<=q.1)->M2 l=none->Q (.ref l) (ae M2 l (.lst (qs.map λp=>gk fl p.2)))
def zbk(fl:Bool)(c m:Str)(sp:aU)(td to:aB):aB:=λρ M Q=>td ρ M λx M1=>to ρ M1 (zbt fl c m sp x Q)
theorem Q2b{K:Frag}{H:Hp}{R:ND->Addr->Prop}(hR:∀n b,R n b->Den K H (gk fl n) (.ref b)):∀{xs:List (Int×ND)}{ys:List (Int×Addr)},Paired (λp q=>p.1=q.1/\R p.2 q.2) xs ys->ai K H (xs.map λp=>gk fl p.2) (ys.map λp=>.ref p.2)
 |_,_,.nil=>.nil
 |_,_,.cons a t=>.cons (hR _ _ a.2) (Q2b hR t)
theorem Q8O{c m:Str}{C fa:Addr}{kk:Nat}{fd:FuncData}{ps:List Str}{sp:aU}{to:aB}(hc:X.calm=true)(hg:Gl X "sorted")(hm:X.mg "sorted" = none)(hd:DA X [e] (zaX td dNil))(ho:DE X o to)(hb:attributeBase o m X.env (eval o X.env)=eval o X.env)
  (hC:nsIn X.K mainGlobals c=some (some (.ref C))) (cl:Cls X.K C) (mt:Meth X.K C m fa) (hn:PySem.W.copiedNames.contains m=false)
  (F:aS X.prog X.w X.K X.mg X.base eT kk fa fd ps (di X.K sp)) (hr:aQ (kk+1) X.A) (hB:Binds X.K fd ps [])
  (h1:backTo pos (starEach [e] X.env)=(false,eval e X.env)::backTo pos (starEach [] X.env)) (h2:(backTo pos (starEach [e] X.env)).any (·.1)=false) :
  DE X (.Call (.Name "sorted" p) [e] [⟨some "key",.Attribute o m apos,kpos⟩] pos) (zbk fl c m sp td to):=
 (Q8m hc hg hm hd ho hb cl mt hn F hr hB h1 h2).imp λσ H Q ⟨ρ,M,R,s,m',h,k⟩=>⟨ρ,M,λds M1=>match ds with
  |[x]=>to ρ M1 (zbt fl c m sp x R)
  |_=>False,s,m',h,λds M1 vs H1 h1 x1 m1 e1=>by
  match ds,vs,e1,h1 with
  |[x],_,.cons den .nil,h1=>
   refine⟨ρ,M1,_,s.ext x1,m1,h1,λy M2 v H2 zz x2 m2 dy=>?_⟩;obtain⟨a,ob,fs,kvs,ns,e2,e3,e4,e5,⟨ep,e6⟩,z64,zl,turn,q⟩:=zz;subst e2 e3;cases den;cases dy;obtain⟨C',dx,ws,g1,g2,g3⟩:=m2.ins e4;rw[hC]at g1;cases g1;obtain⟨kw,g4,g5⟩:=CdN.hp (ep:=ep) e6 m2;refine⟨a,ob,dx,ws,ep,kw,ns,λH'=>Ext H2 H'/\ar X.K M2 H',rfl,rfl,g2,g3.no e5,g4,by rw[<- g5.length];exact z64,by rw[<- g5.length];exact zl,⟨Ext.refl _,m2⟩,λi kx v b n hk hn hb H' ⟨x3,m3⟩=>?_,λbs rs l H' hl hk hp hw ⟨x3,m3⟩ hl'=>?_⟩
   ·obtain⟨p,p1,p2,p3,p4⟩:=g5.at hk;refine⟨[.ref ob,gk fl p.1],M2,_,.cons (.ref ob) (.cons ((Q4S p4 (by rw[<- p2];exact hb)).ext x3) .nil),m3,turn i p n p1 hn,λd M' v' H'' ⟨z1,z2⟩ x4 m4 dn=>?_⟩
    subst z1 z2;cases dn;exact⟨rfl,x3.trans x4,m4⟩
   ·have pz:=Q2x (R:=λ(n:ND) (b:Addr)=>Den X.K H2 (gk fl n) (.ref b)) ns (kvs.map (·.1)) bs (by rw[Ze,hl,g5.length]) λi n b hn hb=>by
     rw[ZB]at hn;obtain⟨p,hp',rfl⟩:=Z4.mp hn;have hi:i<kw.length:=by rw[<- g5.length];exact (Zq.mp hp').1
     have hk':kw[i]?=some (kw[i].1,kw[i].2):=Zx hi;obtain⟨p',p1,p2,p3,p4⟩:=g5.at hk';rw[hp']at p1;cases p1;exact Q4S p4 (by rw[<- p2];exact hk i _ _ b hk' hb)
    obtain⟨qs,q1,q2⟩:=Q4k hp.symm pz;have fr:=m3.free hl';exact k _ _ _ _ (q qs l q1 (Q2S (R:=λ(n:ND) (b:Addr)=>Den X.K H2 (gk fl n) (.ref b)) q2 hw) fr) (x1.trans (x2.trans (x3.trans (Ext.new hl')))) (m3.gC hl' (Q2b (R:=λ(n:ND) (b:Addr)=>Den X.K H2 (gk fl n) (.ref b)) (λn b z=>Den.ext x3 z) q2)) (.ref l)⟩
end
end DL
namespace L2
open PySem PySem.Spec PyProof.Rows
theorem Q4l{P:Program}{w:World}{κ:Type}[DecidableEq κ](knd:HeapKind P w κ)(d a:Addr)(dflt:Value) :
  MeetsIn P w (Builtin.«dict.pop» ⟨[.ref d,.ref a,dflt],[]⟩) (λA R s=>knd.room A.in1/\∃k xs b v,knd.is s.heap k a/\s.heap.DictOfH knd d xs/\atKey xs k=some (b,v)/\xs.length<=sizeLine /\
   ∀h',h'.DictOfH knd d (gq xs k)->Heap.SameBut d s.heap h'->R (.ok (.ret v)) {s with heap:=h',toks:=s.toks+knd.draws k}):=by
 refine .of_wp λA R s q=>?_;obtain⟨hu,k,xs,b,v,h1,h2,h3,h4,h5⟩:=q;obtain⟨o,es,ep,q1,q2,q3,q4,q5,q6⟩:=id h2;have sz:=size_of_entries q4;have ne:es.isEmpty=false:=by
  cases xs with
  |nil=>exact absurd h3 (λz=>nomatch z)
  |cons x xs=>
   rw[Array.isEmpty_eq_false_iff];intro z;rw[z]at sz;simp at sz
 unfold Builtin.«dict.pop» Builtin.Dict.keyAndDefault;refine Za (Za (wpAny_notOrdered_dict h2.typeIs (Zb (a:=(d,Value.ref a,(some dflt:Option Value))) ?_)));have kp:(keyPart (Value.ref a)).isSome=false:=rfl;erw[kp,Z9,ZT];refine Za (Yo q1 q3 (Za (Zb ?_)));erw[ne,Z9,ZT];refine Za (Q5B hu h1 h2 h3 h4 λe h' ev dd hs=>?_);erw[Option.isNone_some,Z9,ZT];exact Za (wpAny_letGo (Zb ⟨e.val,rfl,by rw[ev];exact h5 h' dd hs⟩))
theorem KT.drop(r:KT H kvs xs)(k:List Key):KT H (gq kvs k) (gq xs k):=by
 unfold gq
 induction r with
 |nil=>exact .nil
 | @cons p q ps qs h t ih=>
  by_cases e:p.1=k
  ·rw[filter_cons_of_neg (by simp[e]),filter_cons_of_neg (by simp[<- h.1,e])];exact ih
  ·rw[filter_cons_of_pos (by simp[e]),filter_cons_of_pos (by simp[<- h.1,e])];exact .cons h ih
section
variable{X:Cx}{pins:List (Addr×Obj)}{σ:St}{H:Hp}{s:Shared}{a b:Addr}{v:V}{r:Value}{A:Around}{E:Value->Shared->Prop}{kvs:List (List Key×V)}{k:List Key}
theorem QcP{Q:Value->Shared->Prop}(hu:A.units+1<cLine)(I:Inv X pins σ H s)(e:H a=some (.dT kvs))(eb:H b=some (.tup (k.map kV)))(l:aH kvs k=some v)(h:∀w' s',Inv X pins σ (upd H a (.dT (gq kvs k))) s'->RelV v w'->Q w' s') :
  wpAny (model X.prog X.w) A (call (.builtin "dict.pop") [.ref a,.ref b,r]) Q E s:=by
 obtain⟨z,hd,xs,rel,dd⟩:=dO I.av e;obtain⟨w',hw,rw'⟩:=bO.some_of (v:=v) (o:=(atKey xs k).map (·.2)) (by rw[<- l];exact rel.val k)
 obtain⟨⟨c,w2⟩,hp,hp2⟩:=Z4.mp hw;cases hp2;refine call_meetsIn slot_dict_pop dd.typeIs PySem.F.entry_dict_pop (PySem.F.args_dict_pop_3 _ _ _) (Q4l (tupleKind (bZ X.prog X.w)) a b r)
  ⟨Ye hu,k,xs,c,w2,key_of I.av eb,dd,hp,by rw[<- ZQ rel];exact z,λh' dd' hs=>?_⟩
 obtain⟨q,es,ep',hq,h2,h3,h4,_,h5⟩:=dd';refine h _ _ ?_ rw';have kp:∀c ys,H c=some (.tup ys)->upd H a (.dT (gq kvs k)) c=some (.tup ys):=λc ys ec=>by
  rw[aY (eI ec e (λz=>nomatch z))];exact ec
 exact kL I (by rw[e];exact ZH) hs ⟨q,hq⟩ ⟨ZF (ZS _ _) z,hd,_,(rel.drop k).keeps kp,q,es,ep',hq,h2,h3,h4,h5⟩
end
def mM(td ty tx:TE):TE:=λσ H Q=>td σ H λx H1=>∃a,x=.ref a/\sk H1 a/\ty σ H1 λy H2=>tx σ H2 λz H3=>∃kvs k b,H3 a=some (.dT kvs)/\y=.ref b/\H3 b=some (.tup (k.map kV))/\(aH kvs k=none->Q z H3)/\∀v,aH kvs k=some v->Q v (upd H3 a (.dT (gq kvs k)))
theorem Q8P(hu:X.A.units+1<cLine)(ho:PE X o td)(he:PE X e ty)(hf:PE X f tx)(m:M2 X o "pop" apos e f cpos):PE X (.Call (.Attribute o "pop" apos) [e,f] [] cpos) (mM td ty tx):=by
 intro pins s σ H Q I h;refine wpAny_Call_method m.base m.ir m.line plainAttrs_dict slot_dict_pop PySem.F.type_dict_pop (aE (ho pins s σ H _ I h) λu s1 z1=>?_);obtain⟨x,H1,I1,rx,a,ex,d,q1⟩:=z1;subst ex;obtain rfl:u=Value.ref a:=rx;obtain⟨t1,t2,_⟩:=rH I1 d;refine⟨t1,t2,?_⟩;rw[m.trees];refine Yj rfl (Calls.evalArgs_plain (ZM (aE (he pins s1 σ H1 _ I1 q1) λiv s2 ⟨y,H2,I2,ry,q2⟩=>
  ZM (aE (hf pins s2 σ H2 _ I2 q2) λfv s3 z3=>Calls.spliced_nil ?_))))
 obtain⟨z,H3,I3,rz,kvs,k,b,ea,ey,eb,q3,q4⟩:=z3;subst ey;obtain rfl:iv=Value.ref b:=ry;cases l:aH kvs k with
 |none=>exact QcN hu I3 ea eb l λs' I'=>⟨z,H3,I',rz,q3 l⟩
 |some v=>exact QcP hu I3 ea eb l λw' s' I' rw'=>⟨v,_,I',rw',q4 v l⟩
end L2
namespace DL
open PySem PySem.Spec L2
open PyProof.Rows hiding St
noncomputable def delD(kvs:List (List (List Nat)×D))(k:List (List Nat)):List (List (List Nat)×D):=kvs.filter λkv=>!decide (kv.1=k)
theorem fI.drop{K:Frag}{H:Hp}{kvs:List (List (List Nat)×D)}{vs:List (List Key×V)}(r:fI K H kvs vs)(k:List (List Nat)):fI K H (delD kvs k) (gq vs (nk k)):=by
 unfold delD gq
 induction r with
 |nil=>exact .nil
 | @cons p q ps qs h t ih=>
  by_cases e:p.1=k
  ·rw[filter_cons_of_neg (by simp[e]),filter_cons_of_neg (by simp[h.1,e])];exact ih
  ·rw[filter_cons_of_pos (by simp[e]),filter_cons_of_pos (by simp[h.1];exact λz=>e (oF z))];exact .cons h ih
theorem Q4T(k j:List (List Nat)):∀kvs:List (List (List Nat)×D),aw (delD kvs k) j=if j=k then none else aw kvs j
 |[]=>by unfold delD aw;simp
 |p::r=>by
  have ih:=Q4T k j r;by_cases e:p.1=k
  ·have:delD (p::r) k=delD r k:=by unfold delD;rw[filter_cons_of_neg (by simp[e])]
   rw[this,ih];by_cases z:j=k
   ·rw[Zg z,Zg z]
   ·rw[Zd z,Zd z,gJ (λy=>z (y.symm.trans e))]
  ·have:delD (p::r) k=p::delD r k:=by unfold delD;rw[filter_cons_of_pos (by simp[e])]
   rw[this];by_cases q:p.1=j
   ·rw[gK q,gK q,Zd (λz=>e (q.trans z))]
   ·rw[gJ q,ih,gJ q]
section
variable{X:Cx}{o k:Expr}{apos cpos:Pos}{td tk:aB}
def zbZ(td tk tx:aB):aB:=λρ M Q=>td ρ M λx M1=>∃(a:Addr) (kvs0:List (List (List Nat)×D)),x=.ref a/\M1 a=some (.ah (.aK kvs0))/\tk ρ M1 λy M2=>tx ρ M2 λz M3=>∃(n:List (List Nat)) (kvs:List (List (List Nat)×D)),y=.tup (n.map .str)/\M3 a=some (.ah (.aK kvs))/\(aw kvs n=none->Q z M3)/\∀d,aw kvs n=some d->Q d (ae M3 a (.ah (.aK (delD kvs n))))
theorem Qb5{f:Expr}{tx:aB}(hu:X.A.units+1<cLine)(hd:DE X o td)(hk:DE X k tk)(hf:DE X f tx)(m2:M2 X o "pop" apos k f cpos):DE X (.Call (.Attribute o "pop" apos) [k,f] [] cpos) (zbZ td tk tx):=
 (Q8P hu hd hk hf m2).imp λσ H Q ⟨ρ,M,R,s,m,h,k⟩=>⟨ρ,M,_,s,m,h,λx M1 xv H1 ⟨a,kvs0,e1,e2,h1⟩ x1 m1 dx=>by
  subst e1;cases dx;obtain⟨vs0,g1,_⟩:=m1.aK e2;refine⟨a,rfl,.inr ⟨vs0,.inl g1⟩,ρ,M1,_,s.ext x1,m1,h1,λy M2 yv H2 h2 x2 m2 dy=>⟨ρ,M2,_,(s.ext x1).ext x2,m2,h2,λz M3 zv H3 ⟨n,kvs,e3,e4,e5,h3⟩ x3 m3 dz=>?_⟩⟩;subst e3;obtain⟨b,rfl,eb⟩:=iO (dy.ext x3);obtain⟨vs,g3,g4⟩:=m3.aK e4;have xx:=(x1.trans x2).trans x3;refine⟨vs,nk n,b,g3,rfl,eb,λl=>?_,λv l=>?_⟩
  ·rcases g4.val n with ⟨q1,q2⟩|⟨d',v',q1,q2,q3⟩
   ·exact k _ M3 _ _ (e5 q1) xx m3 dz
   ·rw[q2]at l;cases l
  ·rcases g4.val n with ⟨q1,q2⟩|⟨d',v',q1,q2,q3⟩
   ·rw[q2]at l;cases l
   ·rw[q2]at l;cases l;have y:Ext H3 (upd H3 a (.dT (gq vs (nk n)))):=Ext.mut g3 (λ_ z=>nomatch z) (λ_ _ z=>nomatch z)
    exact k _ _ _ _ (h3 d' q1) (xx.trans y) (m3.put y ⟨_,b9,Paired.b6 (g4.drop n) λp q z=>⟨z.1,Den.ext y z.2⟩⟩) (q3.ext y)⟩
end
noncomputable def l6(n:Nat):List Value:=if n<1000 then [] else [.bool true]
section
variable{X:Cx}{e:Expr}{es:List Expr}{p pos:Pos}{t:d7}
def zbl(c:Str)(sp:aU)(t:d7):aB:=λρ M Q=>t ρ M λds M1=>∀x,M1 x=none->sp (.ref x::(ds++[.bl true])) (ae M1 x (.ah (.ins c []))) λd M2=>d=.non/\Q (.ref x) M2
theorem Q8Q(hC:nsIn X.K mainGlobals c=some (some (.ref C)))(MK:Mk X.K C f)
  (F:aS X.prog X.w X.K X.mg X.base CX kk f fd ps (di X.K sp)) (hr:aQ (kk+1) X.A) (hg:Gl X c) (hm:X.mg c=some (.ref C)) (hb:Binds X.K fd ps [.bool true]) (hx:gP CX X E) (ha:DA X (e::es) t) (hdb:(c==("__debug__":Str))=false)
  (he:starEach (e::es) X.env=(false,eval e X.env)::starEach es X.env) (hpl:(backTo pos (starEach es X.env)).any (·.1)=false):DE X (.Call (.Name c p) (e::es) [] pos) (zbl c sp t):=
 (Q6l (dvs:=[.bl true]) MK F hr hg hm hb (.cons rfl .nil) hx ha hdb he hpl).imp λσ H Q ⟨ρ,M,R,s,m,h,k⟩=>⟨ρ,M,_,s,m,h,λds M1 vs H1 h1 x1 m1 dn x dx hx hd hne=>by
  have n1:upd H1 dx (.own x) x=none:=by rw[aY hne.symm];exact hx
  have y1:Ext H1 (upd H1 dx (.own x)):=Ext.new hd;have y2:Ext (upd H1 dx (.own x)) (upd (upd H1 dx (.own x)) x (.ins C dx [])):=Ext.new n1;refine⟨.ref x::(ds++[.bl true]),ae M1 x (.ah (.ins c [])),_,?_,(m1.new hd).put y2 ⟨C,dx,[],hC,b9,.nil⟩,h1 x (m1.free hx),λd M2 v H2 ⟨e2,h2⟩ x2 m2 den=>?_⟩
  ·exact .cons (.ref x) (ai.append ((dn.ext y1).ext y2) (.cons (.bl _) .nil))
  ·subst e2;cases den;exact⟨rfl,k _ M2 _ _ h2 (((x1.trans y1).trans y2).trans x2) m2 (.ref x)⟩⟩
end
end DL
namespace IR
open PySem PySem.Spec L2 DL
open PyProof.Rows hiding St
inductive Lit where
 |non|bl (b:Bool)|int (i:Int)|str (x:List Nat)
noncomputable def Lit.d:Lit->D
 |.non=>.non|.bl b=>.bl b|.int i=>.int i|.str x=>.str x
noncomputable def Lit.ck:Lit->Const->Bool
 |.non,.none=>true
 |.bl b,.bool c=>b==c
 |.int i,.int j=>i==j
 |.str x,.str y=>x==y.cps.toList&&(x.all λc=>decide (c<1114112))
 |_,_=>false
inductive Bn where
 |add|mul|fdiv|mod|addL
 deriving DecidableEq
noncomputable def Bn.op:Bn->Operator
 |.add=>.Add
 |.mul=>.Mult
 |.fdiv=>.FloorDiv
 |.mod=>.Mod
 |.addL=>.Add
noncomputable def Bn.r:Bn->fL
 |.add=>rAddD
 |.mul=>rI2 iH (λi j=>i * j)
 |.fdiv=>rI2 n9 (λi j=>i / j)
 |.mod=>rI2 (λ_ j=>0<j) (λi j=>i % j)
 |.addL=>rAddL
theorem Bn.ok:∀b:Bn,dA X (binaryOp b.op) b.r
 |.add=>Qcz
 |.mul=>Qcx
 |.fdiv=>QaG
 |.mod=>Qcy
 |.addL=>QaW
inductive Cp where
 |eq|ne|lt|le|isN|notN|inn|nin|inD|ninD|inO|inN|ninN|inP
 deriving DecidableEq
noncomputable def Cp.op:Cp->CmpOp
 |.eq=>.Eq
 |.ne=>.NotEq
 |.lt=>.Lt
 |.le=>.LtE
 |.isN=>.Is
 |.notN=>.IsNot
 |.inn=>.In
 |.nin=>.NotIn
 |.inD=>.In
 |.ninD=>.NotIn
 |.inO=>.In
 |.inN=>.In
 |.inP=>.In
 |.ninN=>.NotIn
noncomputable def Cp.r:Cp->fL
 |.eq=>rEqN id
 |.ne=>rEqN not
 |.lt=>rLtD (λi j=>decide (i<j))
 |.le=>rLtD (λi j=>decide (i<=j))
 |.isN=>rIsN id
 |.notN=>rIsN not
 |.inn=>rIn1 id
 |.nin=>rIn1 not
 |.inD=>rInD id
 |.ninD=>rInD not
 |.inO=>rInO
 |.inN=>rInN false id
 |.inP=>rInN true id
 |.ninN=>rInN false not
theorem oz(h:n+100<cLine):n+64<cLine:=ZG (Yb (by decide) _) h
theorem Cp.ok(hu':X.A.units+100<cLine):∀b:Cp,dA X (compareOp b.op) b.r
 |.eq=>qE (oz hu')
 |.ne=>qA (oz hu')
 |.lt=>qB
 |.le=>qC
 |.isN=>QcC
 |.notN=>QaM
 |.inn=>qD (oz hu')
 |.nin=>Q8v (oz hu')
 |.inD=>Q9J (ZG (Yb (by decide) _) (oz hu'))
 |.ninD=>QaU (ZG (Yb (by decide) _) (oz hu'))
 |.inO=>QcM (ZG (Yb (by decide) _) hu')
 |.inN=>Q9L (ZG (Yb (by decide) _) hu')
 |.inP=>Q9L (ZG (Yb (by decide) _) hu')
 |.ninN=>Qb3 (ZG (Yb (by decide) _) hu')
inductive Bl where
 |len|tuple|list|min|sorted|min1|dict
 deriving DecidableEq
noncomputable def Bl.nm:Bl->Str
 |.len=>"len"
 |.tuple=>"tuple"
 |.list=>"list"
 |.min=>"min"
 |.sorted=>"sorted"
 |.min1=>"min"
 |.dict=>"dict"
def Bl.r:Bl->List D->DH->DK->Prop
 |.len=>rLen
 |.tuple=>zbF
 |.list=>rList
 |.min=>rMin
 |.sorted=>zbu
 |.min1=>rMin1
 |.dict=>zbP
inductive Ms where
 |index|strip|rstrip|startswith|endswith|find|join|split|lower|upper
 deriving DecidableEq
inductive Ml where
 |append|pop|extend
 deriving DecidableEq
noncomputable def Ml.nm:Ml->Str
 |.append=>"append"
 |.pop=>"pop"
 |.extend=>"extend"
def Ml.r:Ml->D->List D->DH->DK->Prop
 |.append=>zaN
 |.pop=>mPop
 |.extend=>zbw
set_option genSizeOf false in
set_option genInjectivity false in
inductive CE where
 |var (i:Nat)
 |con (l:Lit)
 |glob (i:Nat)
 |bin (op:Bn) (a b:CE)
 |cmp (op:Cp) (a b:CE)
 |and (a b:CE)|or (a b:CE)|not (a:CE)|neg (a:CE)
 |ite (c a b:CE)
 |ix (a b:CE)
 |sl (a lo hi:CE)
 |tup (as:CE)|lst (as:CE)|lstz (as:CE)|frz (e:CE)
 |call (f:Nat) (as:CE)
 |blt (b:Bl) (as:CE)
 |isi (T:Ty) (e:CE)
 |ml (m:Ml) (o as:CE)
 |fld (c f:Str) (e:CE)
 |meth (f:Nat) (o as:CE)
 |make (f:Nat) (as:CE)
 |dnew
 |disp1 (k v:CE)
 |dix (d k:CE)
 |dget2 (d k e:CE)
 |dget1 (d k:CE)
 |dsetd (d k e:CE)
 |knew
 |nnew (fl:Bool)
 |dispN (fl:Bool) (k v:CE)
 |bot
 |make0 (f:Nat)
 |nix (fl:Bool) (d k:CE)
 |sortK (f:Nat) (d o:CE)
 |kget2 (d k e:CE)
 |ksetd (d k e:CE)
 |dpop (d k e:CE)
 |maket (f:Nat) (as:CE)
 |comp (two:Bool) (ix:List Nat) (it c e:CE)
 |compz (two:Bool) (ix:List Nat) (it c e:CE)
 |rng1 (a:CE)|rev (a:CE)
 |nil|cons (a as:CE)
noncomputable def CE.len:CE->Nat
 |.cons _ as=>as.len+1
 |_=>0
structure FI where
 nm:Str
 np:Nat
 dY:List D
 sp:aU
structure KI where
 nm:Str
 ks:List Str
 g:List D->List D->List D
 sp:aU
structure FX where
 nm:Str
 np:Nat
 dY:List D
 sp:sv
structure MI where
 cl:Str
 nm:Str
 np:Nat
 sp:aU
structure iz where
 fn:Nat->Option FI
 kf:Nat->Option KI
 con:Nat->Option (Str×D)
 bl:List Str
 fx:Nat->Option FX:=λ_=>none
 cl:CN:=λ_=>none
 gY:Nat->Str->Option Bool:=λ_ _=>none
 lk:List Str:=[]
 mt:Nat->Option MI:=λ_=>none
 cQ:Nat->Option MI:=λ_=>none
 fd:List (Str×Str):=[]
 rw:Nat->Bool:=λ_=>false
structure Tab extends iz where
 xd:DX:=λ_ _=>False
structure Evs where
 e:aB
 t:cO
 a:d7
 i:iG
 o:mw
def botE:aB:=λ_ _ _=>False
def dm:cO:=λ_ _ _=>False
def ju:d7:=λ_ _ _=>False
def kq:iG:=λ_ _ _=>False
def iy:mw:=λ_ _ _=>False
noncomputable def mkE(t:aB):Evs:=⟨t,dB t,ju,diAny t,zbU t⟩
noncomputable def zbe:Bool->D->Option (List D)
 |false=>λd=>some [d]
 |true=>zbE
noncomputable def ev(T:Tab):CE->Evs
 |.var i=>mkE (dVar i)
 |.con l=>mkE (dC l.d)
 |.glob i=>mkE (match T.con i with|some p=>dC p.2|none=>botE)
 |.bin op a b=>mkE (dOp op.r (ev T a).e (ev T b).e)
 |.cmp op a b=>mkE (dOp op.r (ev T a).e (ev T b).e)
 |.and a b=>{ mkE (zbB (ev T a).e (ev T b).e) with t:=dAnd (ev T a).t (ev T b).t}
 |.or a b=>{ mkE (dOrV (ev T a).e (ev T b).e) with t:=dOr (ev T a).t (ev T b).t}
 |.not a=>{ mkE (dNotV (ev T a).e) with t:=dNot (ev T a).t}
 |.neg a=>mkE (dNeg (ev T a).e)
 |.ite c a b=>{ mkE (dIf (ev T c).t (ev T a).e (ev T b).e) with t:=dm}
 |.ix a b=>mkE (dOp bD (ev T a).e (ev T b).e)
 |.sl a lo hi=>mkE (dSl (ev T a).e (ev T lo).o (ev T hi).o)
 |.tup as=>mkE (dTup (ev T as).a)
 |.lst as=>mkE (dLst (ev T as).a)
 |.lstz as=>mkE (zbY (ev T as).a)
 |.frz e=>{ mkE (cK (ev T e).e) with t:=dm}
 |.call f as=>mkE (match T.fn f with|some fi=>zc1 fi.sp (fi.dY.drop (fi.dY.length-(fi.np-as.len))) (ev T as).a|none=>botE)
 |.blt b as=>mkE (dCB b.r (ev T as).a)
 |.isi y e=>mkE (dIsI y (ev T e).e)
 |.ml m o as=>mkE (dML m.r (ev T o).e (ev T as).a)
 |.fld c f e=>mkE (dFld c f (ev T e).e)
 |.meth f o as=>mkE (match T.mt f with|some mi=>zbz mi.cl mi.nm mi.sp (ev T o).e (ev T as).a|none=>botE)
 |.make f as=>mkE (match T.cQ f with|some mi=>zb7 mi.cl mi.sp (ev T as).a|none=>botE)
 |.dnew=>mkE zc0
 |.disp1 k v=>mkE (zbo (ev T k).e (ev T v).e)
 |.dix d k=>mkE (dOp rDIx (ev T d).e (ev T k).e)
 |.dget2 d k e=>mkE (zbq (ev T d).e (ev T k).e (ev T e).e)
 |.dget1 d k=>mkE (zbr (ev T d).e (ev T k).e)
 |.dsetd d k e=>mkE (zbp (ev T d).e (ev T k).e (ev T e).e)
 |.knew=>mkE zbV
 |.nnew fl=>mkE (zbX fl)
 |.dispN fl k v=>mkE (zbn fl (ev T k).e (ev T v).e)
 |.bot=>mkE botE
 |.make0 f=>mkE (match T.cQ f with|some mi=>zb7 mi.cl mi.sp dNil|none=>botE)
 |.nix fl d k=>mkE (dOp (rNIx fl) (ev T d).e (ev T k).e)
 |.sortK f d o=>mkE (match T.mt f with|some mi=>zbk false mi.cl mi.nm mi.sp (ev T d).e (ev T o).e|none=>botE)
 |.kget2 d k e=>mkE (zbj (ev T d).e (ev T k).e (ev T e).e)
 |.ksetd d k e=>mkE (zbi (ev T d).e (ev T k).e (ev T e).e)
 |.dpop d k e=>mkE (zbZ (ev T d).e (ev T k).e (ev T e).e)
 |.maket f as=>mkE (match T.cQ f with|some mi=>zbl mi.cl mi.sp (ev T as).a|none=>botE)
 |.comp two ix it c e=>mkE (zbA (ev T it).i ix (zbe two) (ev T c).t (ev T e).e)
 |.compz two ix it c e=>mkE (zb2 (ev T it).i ix (zbe two) (ev T c).t (ev T e).e)
 |.rng1 a=>⟨botE,dm,ju,zbh (zaX (ev T a).e dNil),iy⟩
 |.rev a=>⟨botE,dm,ju,diRev (ev T a).e,iy⟩
 |.nil=>⟨botE,zaW,dNil,kq,zbH⟩
 |.cons a as=>⟨botE,dm,zaX (ev T a).e (ev T as).a,kq,iy⟩
theorem ev_var(T:Tab){i}:ev T (.var i)=(mkE (dVar i)):=rfl
theorem ev_con(T:Tab){l}:ev T (.con l)=(mkE (dC l.d)):=rfl
theorem ev_glob(T:Tab){i}:ev T (.glob i)=(mkE (match T.con i with|some p=>dC p.2|none=>botE)):=rfl
theorem ev_bin(T:Tab){op}{a}{b}:ev T (.bin op a b)=(mkE (dOp op.r (ev T a).e (ev T b).e)):=rfl
theorem ev_cmp(T:Tab){op}{a}{b}:ev T (.cmp op a b)=(mkE (dOp op.r (ev T a).e (ev T b).e)):=rfl
theorem ev_and(T:Tab){a}{b}:ev T (.and a b)=({ mkE (zbB (ev T a).e (ev T b).e) with t:=dAnd (ev T a).t (ev T b).t}):=rfl
theorem ev_or(T:Tab){a}{b}:ev T (.or a b)=({ mkE (dOrV (ev T a).e (ev T b).e) with t:=dOr (ev T a).t (ev T b).t}):=rfl
theorem ev_not(T:Tab){a}:ev T (.not a)=({ mkE (dNotV (ev T a).e) with t:=dNot (ev T a).t}):=rfl
theorem ev_neg(T:Tab){a}:ev T (.neg a)=(mkE (dNeg (ev T a).e)):=rfl
theorem ev_ite(T:Tab){c}{a}{b}:ev T (.ite c a b)=({ mkE (dIf (ev T c).t (ev T a).e (ev T b).e) with t:=dm}):=rfl
theorem ev_ix(T:Tab){a}{b}:ev T (.ix a b)=(mkE (dOp bD (ev T a).e (ev T b).e)):=rfl
theorem ev_sl(T:Tab){a}{lo}{hi}:ev T (.sl a lo hi)=(mkE (dSl (ev T a).e (ev T lo).o (ev T hi).o)):=rfl
theorem ev_tup(T:Tab){as}:ev T (.tup as)=(mkE (dTup (ev T as).a)):=rfl
theorem ev_lst(T:Tab){as}:ev T (.lst as)=(mkE (dLst (ev T as).a)):=rfl
theorem ev_lstz(T:Tab){as}:ev T (.lstz as)=(mkE (zbY (ev T as).a)):=rfl
theorem ev_frz(T:Tab){e}:ev T (.frz e)=({ mkE (cK (ev T e).e) with t:=dm}):=rfl
theorem ev_call(T:Tab){f}{as}:ev T (.call f as)=(mkE (match T.fn f with|some fi=>zc1 fi.sp (fi.dY.drop (fi.dY.length-(fi.np-as.len))) (ev T as).a|none=>botE)):=rfl
theorem ev_blt(T:Tab){b}{as}:ev T (.blt b as)=(mkE (dCB b.r (ev T as).a)):=rfl
theorem ev_isi(T:Tab){y}{e}:ev T (.isi y e)=(mkE (dIsI y (ev T e).e)):=rfl
theorem ev_ml(T:Tab){m}{o}{as}:ev T (.ml m o as)=(mkE (dML m.r (ev T o).e (ev T as).a)):=rfl
theorem ev_fld(T:Tab){c}{f}{e}:ev T (.fld c f e)=(mkE (dFld c f (ev T e).e)):=rfl
theorem ev_meth(T:Tab){f}{o}{as}:ev T (.meth f o as)=(mkE (match T.mt f with|some mi=>zbz mi.cl mi.nm mi.sp (ev T o).e (ev T as).a|none=>botE)):=rfl
theorem ev_make(T:Tab){f}{as}:ev T (.make f as)=(mkE (match T.cQ f with|some mi=>zb7 mi.cl mi.sp (ev T as).a|none=>botE)):=rfl
theorem ev_dnew(T:Tab):ev T (.dnew)=(mkE zc0):=rfl
theorem ev_disp1(T:Tab){k}{v}:ev T (.disp1 k v)=(mkE (zbo (ev T k).e (ev T v).e)):=rfl
theorem ev_dix(T:Tab){d}{k}:ev T (.dix d k)=(mkE (dOp rDIx (ev T d).e (ev T k).e)):=rfl
theorem ev_dget2(T:Tab){d}{k}{e}:ev T (.dget2 d k e)=(mkE (zbq (ev T d).e (ev T k).e (ev T e).e)):=rfl
theorem ev_dget1(T:Tab){d}{k}:ev T (.dget1 d k)=(mkE (zbr (ev T d).e (ev T k).e)):=rfl
theorem ev_dsetd(T:Tab){d}{k}{e}:ev T (.dsetd d k e)=(mkE (zbp (ev T d).e (ev T k).e (ev T e).e)):=rfl
theorem ev_knew(T:Tab):ev T (.knew)=(mkE zbV):=rfl
theorem ev_nnew(T:Tab){fl}:ev T (.nnew fl)=(mkE (zbX fl)):=rfl
theorem ev_dispN(T:Tab){fl}{k}{v}:ev T (.dispN fl k v)=(mkE (zbn fl (ev T k).e (ev T v).e)):=rfl
theorem ev_bot(T:Tab):ev T (.bot)=(mkE botE):=rfl
theorem ev_make0(T:Tab){f}:ev T (.make0 f)=(mkE (match T.cQ f with|some mi=>zb7 mi.cl mi.sp dNil|none=>botE)):=rfl
theorem ev_nix(T:Tab){fl}{d}{k}:ev T (.nix fl d k)=(mkE (dOp (rNIx fl) (ev T d).e (ev T k).e)):=rfl
theorem ev_sortK(T:Tab){f}{d}{o}:ev T (.sortK f d o)=(mkE (match T.mt f with|some mi=>zbk false mi.cl mi.nm mi.sp (ev T d).e (ev T o).e|none=>botE)):=rfl
theorem ev_kget2(T:Tab){d}{k}{e}:ev T (.kget2 d k e)=(mkE (zbj (ev T d).e (ev T k).e (ev T e).e)):=rfl
theorem ev_ksetd(T:Tab){d}{k}{e}:ev T (.ksetd d k e)=(mkE (zbi (ev T d).e (ev T k).e (ev T e).e)):=rfl
theorem ev_dpop(T:Tab){d}{k}{e}:ev T (.dpop d k e)=(mkE (zbZ (ev T d).e (ev T k).e (ev T e).e)):=rfl
theorem ev_maket(T:Tab){f}{as}:ev T (.maket f as)=(mkE (match T.cQ f with|some mi=>zbl mi.cl mi.sp (ev T as).a|none=>botE)):=rfl
theorem ev_comp(T:Tab){two}{ix}{it}{c}{e}:ev T (.comp two ix it c e)=(mkE (zbA (ev T it).i ix (zbe two) (ev T c).t (ev T e).e)):=rfl
theorem ev_compz(T:Tab){two}{ix}{it}{c}{e}:ev T (.compz two ix it c e)=(mkE (zb2 (ev T it).i ix (zbe two) (ev T c).t (ev T e).e)):=rfl
theorem ev_rng1(T:Tab){a}:ev T (.rng1 a)=(⟨botE,dm,ju,zbh (zaX (ev T a).e dNil),iy⟩):=rfl
theorem ev_rev(T:Tab){a}:ev T (.rev a)=(⟨botE,dm,ju,diRev (ev T a).e,iy⟩):=rfl
theorem ev_nil(T:Tab):ev T (.nil)=(⟨botE,zaW,dNil,kq,zbH⟩):=rfl
theorem ev_cons(T:Tab){a}{as}:ev T (.cons a as)=(⟨botE,dm,zaX (ev T a).e (ev T as).a,kq,iy⟩):=rfl
structure GI where
 N:List Str
 names:List (Str×NameKind)
noncomputable def GI.kd(g:GI)(x:Str):Option NameKind:=g.names.lookup x
noncomputable def dS:Expr->Bool
 |.Starred _ _=>false
 |_=>true
noncomputable def oW:Expr->Bool
 |.Set _ _ _=>false
 |_=>true
noncomputable def o8:Expr->Bool
 |.Slice _ _ _ _=>false
 |_=>true
noncomputable def ic:Expr->Bool
 |.Call (.Name _ _) [] [] _=>false
 |_=>true
noncomputable def k7(g:GI)(x:Str):Bool:=g.kd x==some .globalImplicit && !(x==("__debug__":Str)) && !(x==("__name__":Str))
noncomputable def jm(g:GI)(x:Str):Bool:=(g.kd x==some .local||g.kd x==some .cell||g.kd x==some .free) && !(x==("__debug__":Str)) && !(x==("__classdict__":Str))
noncomputable def mz(T:iz)(g:GI)(x:Str):Bool:=k7 g x&&T.bl.contains x
noncomputable def oo:(x:Expr)->Option { p:Str×Pos×Expr×List Expr×Pos // x=.Call (.Name p.1 p.2.1) (p.2.2.1::p.2.2.2.1) [] p.2.2.2.2}
 |.Call (.Name f fp) (z::zs) [] p=>some ⟨(f,fp,z,zs,p),rfl⟩
 |_=>none
noncomputable def ou:(x:Expr)->Option { p:Str×Pos // x=.Name p.1 p.2}
 |.Name y p=>some ⟨(y,p),rfl⟩
 |_=>none
noncomputable def vCst:(x:Expr)->Option { p:Const×Nat×Pos // x=.Constant p.1 p.2.1 p.2.2}
 |.Constant k n p=>some ⟨(k,n,p),rfl⟩
 |_=>none
noncomputable def o9:(x:Expr)->Option { p:List Expr×Nat×Pos // x=.Tuple p.1 p.2.1 p.2.2}
 |.Tuple es n p=>some ⟨(es,n,p),rfl⟩
 |_=>none
noncomputable def k6:(x:Expr)->Option { p:Expr×Str×Pos×List Expr×Pos // x=.Call (.Attribute p.1 p.2.1 p.2.2.1) p.2.2.2.1 [] p.2.2.2.2}
 |.Call (.Attribute z n ap) es [] cp=>some ⟨(z,n,ap,es,cp),rfl⟩
 |_=>none
noncomputable def mI:(x:Expr)->Option { p:Str×Pos×Pos // x=.Call (.Name p.1 p.2.1) [] [] p.2.2}
 |.Call (.Name f fp) [] [] p=>some ⟨(f,fp,p),rfl⟩
 |_=>none
noncomputable def vBin:(x:Expr)->Option { p:Expr×Operator×Expr×Pos // x=.BinOp p.1 p.2.1 p.2.2.1 p.2.2.2}
 |.BinOp l o r p=>some ⟨(l,o,r,p),rfl⟩
 |_=>none
noncomputable def vCmp:(x:Expr)->Option { p:Expr×CmpOp×Expr×Pos // x=.Compare p.1 [p.2.1] [p.2.2.1] p.2.2.2}
 |.Compare l [o] [r] p=>some ⟨(l,o,r,p),rfl⟩
 |_=>none
noncomputable def vIfE:(x:Expr)->Option { p:Expr×Expr×Expr×Pos // x=.IfExp p.1 p.2.1 p.2.2.1 p.2.2.2}
 |.IfExp l o r p=>some ⟨(l,o,r,p),rfl⟩
 |_=>none
noncomputable def jW:(x:Expr)->Option { p:Expr×Expr×Pos // x=.Subscript p.1 p.2.1 p.2.2}
 |.Subscript y z p=>some ⟨(y,z,p),rfl⟩
 |_=>none
noncomputable def vSl:(x:Expr)->Option { p:Option Expr×Option Expr×Pos // x=.Slice p.1 p.2.1 none p.2.2}
 |.Slice l u none p=>some ⟨(l,u,p),rfl⟩
 |_=>none
noncomputable def pb:(x:Expr)->Option { p:UnaryOp×Expr×Pos // x=.UnaryOp p.1 p.2.1 p.2.2}
 |.UnaryOp o y p=>some ⟨(o,y,p),rfl⟩
 |_=>none
noncomputable def pe:(x:Expr)->Option { p:List Expr×Pos // x=.List p.1 p.2}
 |.List es p=>some ⟨(es,p),rfl⟩
 |_=>none
noncomputable def vAtt:(x:Expr)->Option { p:Expr×Str×Pos // x=.Attribute p.1 p.2.1 p.2.2}
 |.Attribute z n p=>some ⟨(z,n,p),rfl⟩
 |_=>none
noncomputable def vLc:(x:Expr)->Option { p:Expr×Expr×Expr×List Expr×Scope×Pos // x=.ListComp p.1 [⟨p.2.1,p.2.2.1,p.2.2.2.1,0⟩] p.2.2.2.2.1 p.2.2.2.2.2}
 |.ListComp elt [⟨tg,iter,ifs,0⟩] scope p=>some ⟨(elt,tg,iter,ifs,scope,p),rfl⟩
 |_=>none
noncomputable def vBo:(x:Expr)->Option { p:PySem.BoolOp×List Expr×Pos // x=.BoolOp p.1 p.2.1 p.2.2}
 |.BoolOp o vs p=>some ⟨(o,vs,p),rfl⟩
 |_=>none
noncomputable def vD0:(x:Expr)->Option { p:Pos // x=.Dict [] [] p}
 |.Dict [] [] p=>some ⟨p,rfl⟩
 |_=>none
noncomputable def vD1:(x:Expr)->Option { p:Expr×Expr×Pos // x=.Dict [some p.1] [p.2.1] p.2.2}
 |.Dict [some y] [z] p=>some ⟨(y,z,p),rfl⟩
 |_=>none
noncomputable def v1{α:Type}:(xs:List α)->Option { p:α // xs=[p]}
 |[z]=>some ⟨z,rfl⟩
 |_=>none
noncomputable def v2{α:Type}:(xs:List α)->Option { p:α×α // xs=[p.1,p.2]}
 |[z,z']=>some ⟨(z,z'),rfl⟩
 |_=>none
noncomputable def bF{α:Type}{P:α->Prop}(o:Option { p:α // P p})(f:α->Bool):Bool:=match o with
 |some p=>f p.1
 |none=>false
theorem Q0j{α:Type}{P:α->Prop}{o:Option { p:α // P p}}{f:α->Bool}(h:bF o f=true):∃p,P p/\f p=true:=by
 cases o with
 |none=>cases h
 |some p=>exact⟨p.1,p.2,h⟩
structure n8 where
 e:GI->Expr->Bool
 b:PySem.BoolOp->GI->List Expr->Bool
 a:GI->List Expr->Bool
 i:GI->Expr->Bool
 o:GI->Option Expr->Bool
 c:GI->List Expr->Bool
noncomputable def bM(f:GI->Expr->Bool):n8:=
 ⟨f,λ_ g vs=>match vs with|[x]=>f g x|_=>false,λ_ _=>false,f,λg o=>match o with|some x=>f g x|none=>false,λg vs=>match vs with|[x]=>f g x|_=>false⟩
noncomputable def oq(op:PySem.BoolOp)(ca cb:n8):GI->List Expr->Bool:=λg vs=>match vs with
 |x::y::r=>ca.e g x&&cb.b op g (y::r)
 |_=>false
noncomputable def oU(op:PySem.BoolOp)(ca cb:n8):GI->Expr->Bool:=λg x=>bF (vBo x) λc=>c.1==op&&oq op ca cb g c.2.1
noncomputable def og(op:PySem.BoolOp)(ca cb:n8):PySem.BoolOp->GI->List Expr->Bool:=λo g vs=>if o=op then oq op ca cb g vs else match vs with
 |[x]=>oU op ca cb g x
 |_=>false
noncomputable def zbN:Bool->Expr->Option (List Str)
 |false,e=>(ou e).bind λp=>some [p.1.1]
 |true,e=>(o9 e).bind λt=>(v2 t.1.1).bind λp=>(ou p.1.1).bind λa=>(ou p.1.2).bind λb=>some [a.1.1,b.1.1]
noncomputable def zb8(g:GI)(scope:Scope)(N:List Str)(k:Nat)(fn:List Str):Bool:=
 scope.kind==.function&&scope.names.all (λy=>!(y.2==.cell))&&scope.names.all (λy=>!(y.2==.local)||scope.names.lookup y.1==some .local)
  && scope.names.all (λy=>!(y.2==.free)||(g.kd y.1==some .cell||g.kd y.1==some .free))&&decide N.Nodup&&decide (N.drop k=fn)&&decide (N.length=k+fn.length)
  && fn.all (λy=>(g.kd y==some .cell||g.kd y==some .free)&&scope.names.lookup y==some .free)
noncomputable def zc3(two:Bool)(ix:List Nat)(ci cc ce:n8):GI->Expr->Bool:=λg x=>bF (vLc x) λc=>match zbN two c.2.1 with
 |some ts=>let fn:=ix.filterMap λi=>g.N[i]?
  zb8 g c.2.2.2.2.1 (ts++fn) ts.length fn&&decide (ix.map (λi=>g.N[i]?)=fn.map some)&&ts.all (λy=>c.2.2.2.2.1.names.lookup y==some .local)&&oW c.2.2.1&&ci.i g c.2.2.1&&cc.c ⟨ts++fn,c.2.2.2.2.1.names⟩ c.2.2.2.1&&ce.e ⟨ts++fn,c.2.2.2.2.1.names⟩ c.1
 |none=>false
noncomputable def ko(T:iz)(nm:Str)(f:GI->Expr->Bool)(g:GI)(x:Expr):Bool:=bF (oo x) λc=>c.2.2.2.1.isEmpty&&mz T g c.1&&c.1==nm&&dS c.2.2.1&&f g c.2.2.1
noncomputable def ak(T:iz):CE->n8
 |.var i=>bM λg x=>bF (ou x) λc=>g.N[i]? == some c.1&&jm g c.1
 |.con l=>bM λ_ x=>bF (vCst x) λc=>l.ck c.1
 |.glob i=>bM λg x=>bF (ou x) λc=>k7 g c.1&&(match T.con i with|some p=>p.1==c.1|none=>false)
 |.bin op a b=>bM λg x=>bF (vBin x) λc=>c.2.1==op.op&&(ak T a).e g c.1&&(ak T b).e g c.2.2.1
 |.cmp op a b=>bM λg x=>bF (vCmp x) λc=>c.2.1==op.op&&oW c.2.2.1&&(ak T a).e g c.1&&(ak T b).e g c.2.2.1
 |.and a b=>{ bM (oU .And (ak T a) (ak T b)) with b:=og .And (ak T a) (ak T b)}
 |.or a b=>{ bM (oU .Or (ak T a) (ak T b)) with b:=og .Or (ak T a) (ak T b)}
 |.not a=>bM λg x=>bF (pb x) λc=>c.1==.Not&&(ak T a).e g c.2.1
 |.neg a=>bM λg x=>bF (pb x) λc=>c.1==.USub&&(ak T a).e g c.2.1
 |.ite c a b=>bM λg x=>bF (vIfE x) λt=>(ak T c).e g t.1&&(ak T a).e g t.2.1&&(ak T b).e g t.2.2.1
 |.ix a b=>bM λg x=>bF (jW x) λc=>o8 c.2.1&&(ak T a).e g c.1&&(ak T b).e g c.2.1
 |.sl a lo hi=>bM λg x=>bF (jW x) λc=>bF (vSl c.2.1) λs=>(ak T a).e g c.1&&(ak T lo).o g s.1&&(ak T hi).o g s.2.1
 |.tup as=>bM λg x=>bF (o9 x) λc=>(ak T as).a g c.1
 |.lst as=>bM λg x=>bF (pe x) λc=>(ak T as).a g c.1
 |.lstz as=>bM λg x=>bF (pe x) λc=>(ak T as).a g c.1
 |.frz e=>bM λg x=>(ak T e).e g x
 |.call f as=>bM λg x=>bF (oo x) λc=>match T.fn f with
  |some fi=>k7 g c.1&&c.1==fi.nm&&decide (as.len<=fi.np)&&decide (fi.np-as.len<=fi.dY.length)&&(ak T as).a g (c.2.2.1::c.2.2.2.1)
  |none=>false
 |.blt b as=>bM λg x=>bF (oo x) λc=>mz T g c.1&&c.1==b.nm&&(ak T as).a g (c.2.2.1::c.2.2.2.1)
 |.isi ty e=>bM λg x=>bF (oo x) λc=>bF (v1 c.2.2.2.1) λd=>bF (ou d) λm=>mz T g c.1&&c.1==("isinstance":Str)&&mz T g m.1&&(m.1==(Str.ofString ty.nm)) && !(ty==.non)&&dS c.2.2.1&&(ak T e).e g c.2.2.1
 |.ml m o as=>bM λg x=>bF (k6 x) λc=>c.2.1==m.nm&&(c.2.2.1.endLine==c.2.2.2.2.line)&&ic c.1&&(ak T o).e g c.1&&(ak T as).a g c.2.2.2.1&&decide (c.2.2.2.1.length<30)
 |.fld c f e=>bM λg x=>bF (vAtt x) λa=>a.2.1==f&&T.fd.contains (c,f)&&ic a.1&&(ak T e).e g a.1
 |.meth f o as=>bM λg x=>bF (k6 x) λc=>match T.mt f with
  |some mi=>c.2.1==mi.nm&&(c.2.2.1.endLine==c.2.2.2.2.line)&&ic c.1&&(ak T o).e g c.1&&(ak T as).a g c.2.2.2.1&&decide (c.2.2.2.1.length<30)
  |none=>false
 |.make f as=>bM λg x=>bF (oo x) λc=>match T.cQ f with
  |some mi=>decide (mi.np<1000)&&k7 g c.1&&c.1==mi.cl&&(ak T as).a g (c.2.2.1::c.2.2.2.1)
  |none=>false
 |.maket f as=>bM λg x=>bF (oo x) λc=>match T.cQ f with
  |some mi=>!decide (mi.np<1000)&&k7 g c.1&&c.1==mi.cl&&(ak T as).a g (c.2.2.1::c.2.2.2.1)
  |none=>false
 |.dnew=>bM λ_ x=>bF (vD0 x) λ_=>true
 |.disp1 k v=>bM λg x=>bF (vD1 x) λc=>(ak T k).e g c.1&&(ak T v).e g c.2.1
 |.dix a b=>bM λg x=>bF (jW x) λc=>o8 c.2.1&&(ak T a).e g c.1&&(ak T b).e g c.2.1
 |.dget2 d k e=>bM λg x=>bF (k6 x) λc=>bF (v2 c.2.2.2.1) λa=>c.2.1==("get":Str)&&(c.2.2.1.endLine==c.2.2.2.2.line)&&ic c.1&&dS a.1&&dS a.2&&(ak T d).e g c.1&&(ak T k).e g a.1&&(ak T e).e g a.2
 |.dsetd d k e=>bM λg x=>bF (k6 x) λc=>bF (v2 c.2.2.2.1) λa=>c.2.1==("setdefault":Str)&&(c.2.2.1.endLine==c.2.2.2.2.line)&&ic c.1&&dS a.1&&dS a.2&&(ak T d).e g c.1&&(ak T k).e g a.1&&(ak T e).e g a.2
 |.dpop d k e=>bM λg x=>bF (k6 x) λc=>bF (v2 c.2.2.2.1) λa=>c.2.1==("pop":Str)&&(c.2.2.1.endLine==c.2.2.2.2.line)&&ic c.1&&dS a.1&&dS a.2&&(ak T d).e g c.1&&(ak T k).e g a.1&&(ak T e).e g a.2
 |.ksetd d k e=>bM λg x=>bF (k6 x) λc=>bF (v2 c.2.2.2.1) λa=>c.2.1==("setdefault":Str)&&(c.2.2.1.endLine==c.2.2.2.2.line)&&ic c.1&&dS a.1&&dS a.2&&(ak T d).e g c.1&&(ak T k).e g a.1&&(ak T e).e g a.2
 |.dget1 d k=>bM λg x=>bF (k6 x) λc=>bF (v1 c.2.2.2.1) λa=>c.2.1==("get":Str)&&(c.2.2.1.endLine==c.2.2.2.2.line)&&ic c.1&&dS a&&(ak T d).e g c.1&&(ak T k).e g a
 |.knew=>bM λ_ x=>bF (vD0 x) λ_=>true
 |.nnew _=>bM λ_ x=>bF (vD0 x) λ_=>true
 |.dispN _ k v=>bM λg x=>bF (vD1 x) λc=>(ak T k).e g c.1&&(ak T v).e g c.2.1
 |.bot=>bM λ_ _=>true
 |.make0 f=>bM λg x=>bF (mI x) λc=>match T.cQ f with
  |some mi=>decide (mi.np<1000)&&k7 g c.1&&c.1==mi.cl
  |none=>false
 |.nix _ a b=>bM λg x=>bF (jW x) λc=>o8 c.2.1&&(ak T a).e g c.1&&(ak T b).e g c.2.1
 |.sortK f d o=>bM λg x=>match x with
  |.Call (.Name y _) [z] [⟨some n,.Attribute w m _,_⟩] _=>(match T.mt f with
   |some mi=>mz T g y&&y==("sorted":Str)&&n==("key":Str)&&m==mi.nm && !(PySem.W.copiedNames.contains m)&&dS z&&ic w&&(ak T d).e g z&&(ak T o).e g w
   |none=>false)
  |_=>false
 |.kget2 d k e=>bM λg x=>bF (k6 x) λc=>bF (v2 c.2.2.2.1) λa=>c.2.1==("get":Str)&&(c.2.2.1.endLine==c.2.2.2.2.line)&&ic c.1&&dS a.1&&dS a.2&&(ak T d).e g c.1&&(ak T k).e g a.1&&(ak T e).e g a.2
 |.comp two ix it c e=>bM (zc3 two ix (ak T it) (ak T c) (ak T e))
 |.compz two ix it c e=>bM (zc3 two ix (ak T it) (ak T c) (ak T e))
 | .rng1 a=>{ (bM λ_ _=>false) with
   i:=ko T "range" (ak T a).e}
 | .rev a=>{ (bM λ_ _=>false) with
   i:=ko T "reversed" (ak T a).e}
 |.nil=>⟨λ_ _=>false,λ_ _ _=>false,λ_ es=>es.isEmpty,λ_ _=>false,λ_ o=>o.isNone,λ_ es=>es.isEmpty⟩
 |.cons a as=>⟨λ_ _=>false,λ_ _ _=>false,λg es=>match es with|x::r=>dS x&&(ak T a).e g x&&(ak T as).a g r|[]=>false,λ_ _=>false,λ_ _=>false,λ_ _=>false⟩
noncomputable abbrev cR(T:Tab)(c:CE):n8:=ak T.toiz c
structure FRel(X:Cx)(fi:FI):Prop where
 ex:∃(k:Nat) (f:Addr) (fd:FuncData) (ps:List Str),aS X.prog X.w X.K X.mg X.base eT k f fd ps (di X.K fi.sp)/\aQ k X.A/\X.mg fi.nm=some (.ref f)/\keepIn X.K (.ref f)=true/\ps.length=fi.np /\
  ∀j,j<=fi.dY.length->∃(ds:List Value) (dvs:List V),Binds X.K fd ps ds/\Vals dvs ds/\∀H,ai X.K H (fi.dY.drop j) dvs
structure KRel(X:Cx)(ki:KI):Prop where
 ex:∃(k:Nat) (f:Addr) (fd:FuncData) (ps:List Str) (gv:List Value->List Value->List Value) (gV:List V->List V->List V),aS X.prog X.w X.K X.mg X.base eT k f fd ps (di X.K ki.sp)/\aQ k X.A/\X.mg ki.nm=some (.ref f)/\keepIn X.K (.ref f)=true /\
  zc6 X.K fd ps ki.ks gv gV/\∀H ds vs zs ws,ai X.K H ds vs->ai X.K H zs ws->ai X.K H (ki.g ds zs) (gV vs ws)
structure rq(X:Cx)(cn:CN)(fi:FX):Prop where
 ex:∃(k:Nat) (f:Addr) (fd:FuncData) (ps:List Str),aS X.prog X.w X.K X.mg X.base (CX1 X.prog X.w) k f fd ps (nu X.K X.mg cn fi.sp)/\aQ k X.A/\X.mg fi.nm=some (.ref f)/\keepIn X.K (.ref f)=true/\ps.length=fi.np /\
  ∀j,j<=fi.dY.length->∃(ds:List Value) (dvs:List V),Binds X.K fd ps ds/\Vals dvs ds/\∀H,ai X.K H (fi.dY.drop j) dvs
def jC(K:Frag)(mg:Str->Option Value)(cl:CN)(c:Nat)(nm:Str)(b:Bool):Prop:=True
structure MRel(X:Cx)(mi:MI):Prop where
 ex:∃(k:Nat) (C f:Addr) (fd:FuncData) (ps:List Str),nsIn X.K mainGlobals mi.cl=some (some (.ref C))/\Cls X.K C/\Meth X.K C mi.nm f/\aS X.prog X.w X.K X.mg X.base eT k f fd ps (di X.K mi.sp)/\aQ (k+1) X.A/\Binds X.K fd ps []
structure sg(X:Cx)(mi:MI):Prop where
 ex:∃(k:Nat) (C f:Addr) (fd:FuncData) (ps:List Str),nsIn X.K mainGlobals mi.cl=some (some (.ref C))/\X.mg mi.cl=some (.ref C)/\Mk X.K C f/\aS X.prog X.w X.K X.mg X.base eT k f fd ps (di X.K mi.sp)/\aQ (k+1) X.A/\Binds X.K fd ps (l6 mi.np)
def kU(K:Frag)(c f:Str):Prop:=∃C,nsIn K mainGlobals c=some (some (.ref C))/\Cls K C/\bI K C f
def ib(K:Frag)(mg:Str->Option Value)(T:iz)(c:Nat)(x:Str)(C:Addr):Prop:=True
structure Rel(X:Cx)(T:Tab)(g:GI):Prop where
 N:X.N=g.N
 nd:g.N.Nodup
 calm:X.calm=true
 gl:∀x,g.kd x=some .globalImplicit->X.env.scope.names.lookup x=some .globalImplicit
 lc:∀x,g.kd x=some .local->X.env.scope.names.lookup x=some .local
 cf:∀x,(g.kd x=some .cell\/g.kd x=some .free)->(X.env.scope.names.lookup x=some .cell\/X.env.scope.names.lookup x=some .free)
 fns:∀f fi,T.fn f=some fi->FRel X fi
 ny:∀f ki,T.kf f=some ki->KRel X ki
 nC:∀f fi,T.fx f=some fi->rq X T.cl fi
 cls:∀c x,T.cl c=some x->∃C,X.mg x=some (.ref C)/\ib X.K X.mg T.toiz c x C
 tk:dR X λcls _ H=>lX X.K X.mg T.cl T.xd cls H
 tp:Top X
 con:∀i p,T.con i=some p->∃u v,X.mg p.1=some u/\L2.RelV v u/\∀H,Den X.K H p.2 v
 lP:∀x∈T.bl,X.mg x=none
 gY:∀c nm b,T.gY c nm=some b->jC X.K X.mg T.cl c nm b
 nj:∀x∈T.lk,∃C,X.mg x=some (.ref C)/\jx X.K C
 mts:∀f mi,T.mt f=some mi->MRel X mi
 mks:∀f mi,T.cQ f=some mi->sg X mi
 fds:∀p∈T.fd,kU X.K p.1 p.2
 un:X.A.units+100<cLine
 dpt:X.A.depth+5<recursionLimit
section
variable{X:Cx}{T:Tab}{g:GI}{e:Expr}{es:List Expr}{env:Env}
theorem dg(h:dS e=true):starEach (e::es) env=(false,eval e env)::starEach es env:=by
 cases e<;>first|rfl|cases h
theorem gm:∀{es:List Expr},es.all dS=true->(backTo pos (starEach es env)).any (·.1)=false
 |[],_=>rfl
 |e::r,h=>by
  rw[ZC,Zj]at h;rw[dg h.1];have ih:=gm (pos:=pos) h.2;unfold backTo at ih ⊢;erw[Zu,any_cons,ih,Bool.false_or]
theorem Q4U:∀{es:List Expr},es.all dS=true->(backTo pos (starEach es env)).all (λx=>!x.1)=true
 |[],_=>rfl
 |e::r,h=>by
  rw[ZC,Zj]at h;rw[dg h.1];have ih:=Q4U (pos:=pos) h.2;unfold backTo at ih ⊢;erw[Zu,ZC,ih,Bool.not_false,Yr]
theorem iL(h:ic e=true):attributeBase e n env (eval e env)=eval e env:=by
 unfold attributeBase;split
 ·rename_i q;cases q;cases h
 ·rfl
theorem Q3D(h:oW e=true):behindInMarks op e=false:=by
 cases e<;>first|rfl|cases h
theorem Q2T(h:oW e=true)(x:Value):foldedSetIterable e env x=pure x:=by
 cases e<;>first|rfl|cases h
theorem Q4m(h:o8 e=true):zbD e:=by
 intro o i;cases e<;>first|rfl|cases h
theorem Rel.glob(R:Rel X T g)(h:k7 g x=true):Gl X x/\(x==("__debug__":Str))=false/\x ≠ "__name__":=by
 unfold k7 at h;erw[Zj,Zz,Yg]at h;refine⟨R.gl x h.1.1,h.1.2,λe=>?_⟩;have q:=h.2;rw[e]at q;simp at q
theorem Rel.blt(R:Rel X T g)(h:mz T.toiz g x=true):Gl X x/\(x==("__debug__":Str))=false/\x ≠ "__name__" /\ X.mg x=none:=by
 unfold mz at h;rw[Zj]at h;obtain⟨a,b,c⟩:=R.glob h.1;exact⟨a,b,c,R.lP x (by simpa using h.2)⟩
theorem Rel.vis(R:Rel X T g)(h:jm g x=true):rA X.env.scope x/\(x==("__debug__":Str))=false/\(x==("__classdict__":Str))=false:=by
 unfold jm at h;erw[Zj,or_eq_true,Zz,Yg]at h;refine⟨?_,h.1.2,h.2⟩;rcases h.1.1 with (h|h)|h
 ·exact .inl (R.lc x h)
 ·rcases R.cf x (.inl h) with q|q
  ·exact .inr (.inl q)
  ·exact .inr (.inr q)
 ·rcases R.cf x (.inr h) with q|q
  ·exact .inr (.inl q)
  ·exact .inr (.inr q)
theorem r9{env:Env}{k:NameKind}(hk:k≠.free):∀{names:List (Str×NameKind)}{x:Str},names.lookup x=some k ->
  (names.map λ(n,k)=>if (k==NameKind.free&&env.scope.kind==.function&&env.kindOf n==some .cell) then (n,NameKind.cell) else (n,k)).lookup x=some k
 |[],_,h=>by simp at h
 |(n,j)::r,x,h=>by
  have ih:=@r9 env k hk r x;rw[Zu];dsimp only;rw[ZJ]at h;by_cases hx:x=n
  ·subst hx;erw[beq_self_eq_true]at h;cases h;have hc:¬ (k==NameKind.free&&env.scope.kind==.function&&env.kindOf x==some .cell)=true:=by
    intro q;erw[Zj,Zz]at q;exact hk q.1.1
   rw[Zd hc];simp[ZJ]
  ·have hne:(x==n)=false:=by simpa using hx
   rw[hne]at h;have ih':=ih h;by_cases hc:(j==NameKind.free&&env.scope.kind==.function&&env.kindOf n==some .cell)=true
   ·rw[Zg hc];erw[ZJ,hne];exact ih'
   ·rw[Zd hc];erw[ZJ,hne];exact ih'
theorem Q3E(R:Rel X T g)(h:zb8 g scope N k fn=true):iS X.env.scope scope N k fn:=by
 unfold zb8 at h;erw[Zj,Zz,ZO,Yg,or_eq_true,Zo,ZZ,ne_eq]at h;obtain⟨⟨⟨⟨⟨⟨⟨h1,h2⟩,h3⟩,h4⟩,h5⟩,h6⟩,h7⟩,h8⟩:=h;refine⟨h1,λy hy=>h2 y hy,λy hy e=>?_,λy hy e=>?_,h5,h6,h7,λy hy=>?_⟩
 ·rcases h3 y hy with q|q
  ·exact absurd e q
  ·exact q
 ·rcases h4 y hy with q|q
  ·exact absurd e q
  ·exact R.cf y.1 q
 ·exact⟨R.cf y (h8 y hy).1,(h8 y hy).2⟩
theorem Rel.comp(R:Rel X T g){scope:Scope}{N fn:List Str}{k:Nat}(h:zb8 g scope N k fn=true)(cl:List (Str×Addr))(C:Addr)(s₀:Shared)(H₀:Hp)(ex:List Addr)(E:Value->Shared->Prop)(hE:dR (bg X scope N cl C s₀ H₀ ex E) λcls _ H=>lX X.K X.mg T.cl T.xd cls H):Rel (bg X scope N cl C s₀ H₀ ex E) T ⟨N,scope.names⟩ where
 N:=rfl
 nd:=(Q3E R h).nd
 calm:=R.calm
 gl:=λx e=>r9 (k:=.globalImplicit) (by decide) e
 lc:=λx e=>r9 (k:=.local) (by decide) e
 cf:=λx e=>by
  rcases e with e|e
  ·exact .inl (r9 (k:=.cell) (by decide) e)
  ·exact Q1a e
 fns:=λf fi e=>⟨(R.fns f fi e).ex⟩
 ny:=λf ki e=>⟨(R.ny f ki e).ex⟩
 nC:=λf fi e=>⟨(R.nC f fi e).ex⟩
 cls:=R.cls
 tk:=hE
 tp:=⟨R.tp.ex⟩
 con:=R.con
 lP:=R.lP
 gY:=R.gY
 nj:=R.nj
 mts:=λf mi e=>⟨(R.mts f mi e).ex⟩
 mks:=λf mi e=>⟨(R.mks f mi e).ex⟩
 fds:=R.fds
 un:=R.un
 dpt:=R.dpt
end
structure ao(T:Tab)(c:CE):Prop where
 e:∀{X:Cx}{g:GI},Rel X T g->∀{x:Expr},(cR T c).e g x=true->DE X x (ev T c).e
 t:∀{X:Cx}{g:GI},Rel X T g->∀{x:Expr},(cR T c).e g x=true->DT X x (ev T c).t
 be:∀{X:Cx}{g:GI},Rel X T g->∀{op:PySem.BoolOp}{vs:List Expr}{pos:Pos},(cR T c).b op g vs=true->DE X (.BoolOp op vs pos) (ev T c).e
 bt:∀{X:Cx}{g:GI},Rel X T g->∀{op:PySem.BoolOp}{vs:List Expr}{pos:Pos},(cR T c).b op g vs=true->DW X (.BoolOp op vs pos) (ev T c).t
 a:∀{X:Cx}{g:GI},Rel X T g->∀{es:List Expr},(cR T c).a g es=true->DA X es (ev T c).a/\es.all dS=true/\es.length=c.len
 i:∀{X:Cx}{g:GI},Rel X T g->∀{x tg:Expr},(cR T c).i g x=true->DI X tg x (ev T c).i
 o:∀{X:Cx}{g:GI},Rel X T g->∀{x:Option Expr},(cR T c).o g x=true->DO X x (ev T c).o
 k:∀{X:Cx}{g:GI},Rel X T g->∀{kws:List Keyword},(cR T c).a g (kws.map (·.value))=true->DKw X kws (ev T c).a
 c:∀{X:Cx}{g:GI},Rel X T g->∀{xs:List Expr},(cR T c).c g xs=true->fY X xs (ev T c).t
section
variable{T:Tab}{c:CE}{f:GI->Expr->Bool}{t:aB}{u:cO}
theorem Q9N:DT X x dm:=λ_ _ _ _ _ _ ⟨_,_,_,_,_,h,_⟩=>h.elim
theorem Q6W(h:DT X x u):DW X (.BoolOp op [x] pos) u:=by
 cases op
 ·exact Qay h
 ·exact Qcm h
theorem ao.of(hc:cR T c=bM f)(hv:ev T c={ mkE t with t:=u})(h:∀{X:Cx}{g:GI},Rel X T g->∀{x:Expr},f g x=true->DE X x t/\DT X x u):ao T c where
 e:=λR x q=>by rw[hc]at q;rw[hv];exact (h R q).1
 t:=λR x q=>by rw[hc]at q;rw[hv];exact (h R q).2
 be:=fun{X g} R {op vs pos} q=>by
  rw[hc]at q;rw[hv]
  match vs,q with
  |[x],q=>exact Q6F (h R (show f g x=true from q)).1
 bt:=fun{X g} R {op vs pos} q=>by
  rw[hc]at q;rw[hv]
  match vs,q with
  |[x],q=>exact Q6W (h R (show f g x=true from q)).2
 a:=λR es q=>by rw[hc]at q;cases q
 k:=λR kws q=>by rw[hc]at q;cases q
 i:=fun{X g} R {x tg} q=>by
  rw[hc]at q;rw[hv];exact Q6N (h R (show f g x=true from q)).1
 o:=fun{X g} R {x} q=>by
  rw[hc]at q;rw[hv]
  match x,q with
  |some x,q=>exact Q4g (h R (show f g x=true from q)).1
 c:=fun{X g} R {xs} q=>by
  rw[hc]at q;rw[hv]
  match xs,q with
  |[x],q=>exact Q2L (h R (show f g x=true from q)).2
end
section
variable{T:Tab}{X:Cx}{g:GI}{x:Expr}
theorem cI(h:DE X x t)(he:∀whole,isTrue x X.env whole=(do let v <- whole;standAt x.pos;holding [v] (truthy v))):DE X x t/\DT X x (dB t):=⟨h,Qck h he⟩
theorem Qb6:ao T (.var i):=by
 refine ao.of (u:=dB (dVar i)) rfl rfl fun{X g} R {x} q=>?_;have qv:=Q0j q;clear q;obtain⟨⟨y,p⟩,rfl,q⟩:=qv;dsimp only at q ⊢;rw[Zj,Zz]at q;obtain⟨v1,v2,v3⟩:=R.vis q.2;exact cI (dv i (by rw[R.N];exact q.1) v1 v2 v3) λ_=>rfl
theorem Qb7:ao T (.con l):=by
 refine ao.of (u:=dB (dC l.d)) rfl rfl fun{X g} R {x} q=>?_;have qv:=Q0j q;clear q;obtain⟨⟨c,k,p⟩,rfl,q⟩:=qv;dsimp only at q ⊢;refine cI ?_ λ_=>rfl;cases l with
 |non=>cases c<;>first|exact Qch|cases q
 | bl b=>cases c<;>first|cases q|skip
         rename_i c';have q':b=c':=by simpa[Lit.ck]using q
         subst q';exact qY
 | int b=>cases c<;>first|cases q|skip
          rename_i c';have q':b=c':=by simpa[Lit.ck]using q
          subst q';exact Qcg
 | str b=>cases c<;>first|cases q|skip
          rename_i y;unfold Lit.ck at q;rw[Zj,Zz]at q;obtain⟨q1,q2⟩:=q;subst q1;exact Qci q2
theorem Q8R:ao T (.glob i):=by
 refine ao.of (u:=dB (match T.con i with|some p=>dC p.2|none=>botE)) rfl rfl fun{X g} R {x} q=>?_
 have qv:=Q0j q;clear q;obtain⟨⟨y,p⟩,rfl,q⟩:=qv;dsimp only at q ⊢;rw[Zj]at q;obtain⟨q1,q2⟩:=q;refine cI ?_ λ_=>rfl;cases e:T.con i with
 |none=>rw[e]at q2;cases q2
 |some p=>
  rw[e]at q2;have q3:p.1=y:=by simpa using q2
  subst q3;obtain⟨u,v,h1,h2,h3⟩:=R.con i p e;obtain⟨g1,g2,g3⟩:=R.glob q1;exact Qax g1 h1 h2 h3 g2
theorem Qb8(ha:ao T a)(hb:ao T b):ao T (.bin op a b):=by
 refine ao.of (u:=dB (dOp op.r (ev T a).e (ev T b).e)) rfl rfl fun{X g} R {x} q=>?_;have qv:=Q0j q;clear q;obtain⟨⟨l,o,r,p⟩,rfl,q⟩:=qv;dsimp only at q ⊢;erw[Zj,Zz]at q;obtain⟨⟨rfl,q1⟩,q2⟩:=q;exact cI (qW (Bn.ok op) (ha.e R q1) (hb.e R q2)) λ_=>rfl
theorem Qb9(ha:ao T a)(hb:ao T b):ao T (.cmp op a b):=by
 refine ao.of (u:=dB (dOp op.r (ev T a).e (ev T b).e)) rfl rfl fun{X g} R {x} q=>?_;have qv:=Q0j q;clear q;obtain⟨⟨l,o,r,p⟩,rfl,q⟩:=qv;dsimp only at q ⊢;erw[Zj,Zz]at q;obtain⟨⟨⟨rfl,q0⟩,q1⟩,q2⟩:=q;exact⟨Qcj (Cp.ok R.un op) (ha.e R q1) (hb.e R q2) (Q3D q0),Qcl (Cp.ok R.un op) (ha.e R q1) (hb.e R q2) (Q3D q0)⟩
theorem Q4V(ha:ao T a)(hb:ao T b)(R:Rel X T g)(q:oq .And (cR T a) (cR T b) g vs=true) :
  DE X (.BoolOp .And vs pos) (zbB (ev T a).e (ev T b).e)/\DW X (.BoolOp .And vs pos) (dAnd (ev T a).t (ev T b).t):=by
 unfold oq at q;split at q
 ·rw[Zj]at q;exact⟨Qcp (ha.e R q.1) (hb.be R q.2),Qcn (ha.t R q.1) (hb.bt R q.2)⟩
 ·cases q
theorem Q6X(ha:ao T a)(hb:ao T b)(R:Rel X T g)(q:oq .Or (cR T a) (cR T b) g vs=true) :
  DE X (.BoolOp .Or vs pos) (dOrV (ev T a).e (ev T b).e)/\DW X (.BoolOp .Or vs pos) (dOr (ev T a).t (ev T b).t):=by
 unfold oq at q;split at q
 ·rw[Zj]at q;exact⟨qV (ha.e R q.1) (hb.be R q.2),qS (ha.t R q.1) (hb.bt R q.2)⟩
 ·cases q
theorem Qba(ha:ao T a)(hb:ao T b):ao T (.and a b):=by
 have base:∀{X:Cx}{g:GI},Rel X T g->∀{x:Expr},oU .And (cR T a) (cR T b) g x=true->DE X x (zbB (ev T a).e (ev T b).e)/\DT X x (dAnd (ev T a).t (ev T b).t):=fun{X g} R {x} q=>by
  have qv:=Q0j q;clear q;obtain⟨⟨o,vs,p⟩,rfl,q⟩:=qv;dsimp only at q ⊢;rw[Zj,Zz]at q;obtain⟨rfl,q⟩:=q;obtain⟨h1,h2⟩:=Q4V ha hb R (pos:=_) q;exact⟨h1,h2.dt⟩
 have bs:∀{X:Cx}{g:GI},Rel X T g->∀{op:PySem.BoolOp}{vs:List Expr}{pos:Pos},og .And (cR T a) (cR T b) op g vs=true->DE X (.BoolOp op vs pos) (zbB (ev T a).e (ev T b).e)/\DW X (.BoolOp op vs pos) (dAnd (ev T a).t (ev T b).t):=fun{X g} R {op vs pos} q=>by
  unfold og at q;split at q
  ·rename_i e;subst e;exact Q4V ha hb R q
  ·split at q
   ·obtain⟨h1,h2⟩:=base R q;exact⟨Q6F h1,Q6W h2⟩
   ·cases q
 exact {
  e:=λR _ q=>(base R q).1
  t:=λR _ q=>(base R q).2
  be:=λR _ _ _ q=>(bs R q).1
  bt:=λR _ _ _ q=>(bs R q).2
  a:=λR _ q=>nomatch q
  k:=λR _ q=>nomatch q
  i:=λR _ _ q=>Q6N (base R q).1
  o:=fun{X g} R {x} q=>by match x,q with|some x,q=>exact Q4g (base R q).1
  c:=fun{X g} R {xs} q=>by match xs,q with|[x],q=>exact Q2L (base R q).2}
theorem QcQ(ha:ao T a)(hb:ao T b):ao T (.or a b):=by
 have base:∀{X:Cx}{g:GI},Rel X T g->∀{x:Expr},oU .Or (cR T a) (cR T b) g x=true->DE X x (dOrV (ev T a).e (ev T b).e)/\DT X x (dOr (ev T a).t (ev T b).t):=fun{X g} R {x} q=>by
  have qv:=Q0j q;clear q;obtain⟨⟨o,vs,p⟩,rfl,q⟩:=qv;dsimp only at q ⊢;rw[Zj,Zz]at q;obtain⟨rfl,q⟩:=q;obtain⟨h1,h2⟩:=Q6X ha hb R (pos:=_) q;exact⟨h1,h2.dt⟩
 have bs:∀{X:Cx}{g:GI},Rel X T g->∀{op:PySem.BoolOp}{vs:List Expr}{pos:Pos},og .Or (cR T a) (cR T b) op g vs=true->DE X (.BoolOp op vs pos) (dOrV (ev T a).e (ev T b).e)/\DW X (.BoolOp op vs pos) (dOr (ev T a).t (ev T b).t):=fun{X g} R {op vs pos} q=>by
  unfold og at q;split at q
  ·rename_i e;subst e;exact Q6X ha hb R q
  ·split at q
   ·obtain⟨h1,h2⟩:=base R q;exact⟨Q6F h1,Q6W h2⟩
   ·cases q
 exact {
  e:=λR _ q=>(base R q).1
  t:=λR _ q=>(base R q).2
  be:=λR _ _ _ q=>(bs R q).1
  bt:=λR _ _ _ q=>(bs R q).2
  a:=λR _ q=>nomatch q
  k:=λR _ q=>nomatch q
  i:=λR _ _ q=>Q6N (base R q).1
  o:=fun{X g} R {x} q=>by match x,q with|some x,q=>exact Q4g (base R q).1
  c:=fun{X g} R {xs} q=>by match xs,q with|[x],q=>exact Q2L (base R q).2}
theorem Qbb(ha:ao T a):ao T (.not a):=by
 refine ao.of (u:=dNot (ev T a).t) rfl rfl fun{X g} R {x} q=>?_;have qv:=Q0j q;clear q;obtain⟨⟨uo,y,p⟩,rfl,q⟩:=qv;dsimp only at q ⊢;rw[Zj]at q;obtain⟨q0,q⟩:=q;cases Zz.mp q0;exact⟨Qcq (ha.e R q),Qco (ha.t R q)⟩
theorem Qbc(ha:ao T a):ao T (.neg a):=by
 refine ao.of (u:=dB (dNeg (ev T a).e)) rfl rfl fun{X g} R {x} q=>?_;have qv:=Q0j q;clear q;obtain⟨⟨uo,y,p⟩,rfl,q⟩:=qv;dsimp only at q ⊢;rw[Zj]at q;obtain⟨q0,q⟩:=q;cases Zz.mp q0;exact cI (QcG (ha.e R q)) λ_=>rfl
theorem Qbd(hc:ao T c)(ha:ao T a)(hb:ao T b):ao T (.ite c a b):=by
 refine ao.of (u:=dm) rfl rfl fun{X g} R {x} q=>?_;have qv:=Q0j q;clear q;obtain⟨⟨y,z,z2,p⟩,rfl,q⟩:=qv;dsimp only at q ⊢;erw[Zj]at q;exact⟨Q8n (hc.t R q.1.1) (ha.e R q.1.2) (hb.e R q.2),Q9N⟩
theorem QcR(ha:ao T a)(hb:ao T b):ao T (.ix a b):=by
 refine ao.of (u:=dB (dOp bD (ev T a).e (ev T b).e)) rfl rfl fun{X g} R {x} q=>?_;have qv:=Q0j q;clear q;obtain⟨⟨y,z,p⟩,rfl,q⟩:=qv;dsimp only at q ⊢;erw[Zj]at q;exact cI (qX (ha.e R q.1.2) (hb.e R q.2) (Q4m q.1.1)) λ_=>rfl
theorem QcS{a lo hi:CE}(ha:ao T a)(hl:ao T lo)(hh:ao T hi):ao T (.sl a lo hi):=by
 refine ao.of (u:=dB (dSl (ev T a).e (ev T lo).o (ev T hi).o)) rfl rfl fun{X g} R {x} q=>?_;have qv:=Q0j q;clear q;obtain⟨⟨y,z,p⟩,rfl,q⟩:=qv;have qv:=Q0j q;clear q;obtain⟨⟨sl,su,sp⟩,e,q⟩:=qv;dsimp only at e q ⊢;subst e;erw[Zj]at q;exact cI (Q8r (ha.e R q.1.1) (hl.o R q.1.2) (hh.o R q.2)) λ_=>rfl
theorem Qbe(ha:ao T as):ao T (.tup as):=by
 refine ao.of (u:=dB (dTup (ev T as).a)) rfl rfl fun{X g} R {x} q=>?_;have qv:=Q0j q;clear q;obtain⟨⟨es,k,p⟩,rfl,q⟩:=qv;dsimp only at q ⊢;exact cI (Qcr (ha.a R q).1) λ_=>rfl
theorem Qbf(ha:ao T as):ao T (.lst as):=by
 refine ao.of (u:=dB (dLst (ev T as).a)) rfl rfl fun{X g} R {x} q=>?_;have qv:=Q0j q;clear q;obtain⟨⟨es,p⟩,rfl,q⟩:=qv;dsimp only at q ⊢;exact cI (Qcs (ha.a R q).1) λ_=>rfl
theorem Q8S(ha:ao T as):ao T (.lstz as):=by
 refine ao.of (u:=dB (zbY (ev T as).a)) rfl rfl fun{X g} R {x} q=>?_;have qv:=Q0j q;clear q;obtain⟨⟨es,p⟩,rfl,q⟩:=qv;dsimp only at q ⊢;exact cI (QaO (ha.a R q).1) λ_=>rfl
theorem Qbg(ha:ao T a):ao T (.frz a):=
 ao.of (u:=dm) rfl rfl fun{X g} R {x} q=>⟨Qct (ha.e R q),Q9N⟩
theorem Q8T(ha:ao T as):ao T (.call f as):=by
 refine ao.of (u:=dB (match T.fn f with|some fi=>zc1 fi.sp (fi.dY.drop (fi.dY.length-(fi.np-as.len))) (ev T as).a|none=>botE)) rfl rfl fun{X g} R {x} q=>?_
 have qv:=Q0j q;clear q;obtain⟨⟨y,p,z,zs,pp⟩,rfl,q⟩:=qv;dsimp only at q ⊢;cases e:T.fn f with
 |none=>rw[e]at q;cases q
 |some fi=>
  rw[e]at q;erw[Zj,Zz,Zo]at q;obtain⟨⟨⟨⟨q1,rfl⟩,q2⟩,q3⟩,q4⟩:=q;obtain⟨g1,g2,g3⟩:=R.glob q1;obtain⟨k,fa,fd,ps,F,hr,hm,hk,hl,hd⟩:=(R.fns f fi e).ex;obtain⟨ds,dvs,b1,b2,b3⟩:=hd (fi.dY.length-(fi.np-as.len)) (Nat.sub_le _ _);obtain⟨a1,a2,a3⟩:=ha.a R q4;rw[ZC,Zj]at a2;exact cI (Qaz F hr g1 hm hk b1 b2 b3 (E:=E0) fh a1 g2 (dg a2.1) (gm a2.2)) λ_=>rfl
theorem Qbh(ha:ao T as):ao T (.blt b as):=by
 refine ao.of (u:=dB (dCB b.r (ev T as).a)) rfl rfl fun{X g} R {x} q=>?_;have qv:=Q0j q;clear q;obtain⟨⟨y,p,z,zs,pp⟩,rfl,q⟩:=qv;dsimp only at q ⊢;erw[Zj,Zz]at q;obtain⟨⟨q1,rfl⟩,q2⟩:=q;obtain⟨g1,g2,g3,g4⟩:=R.blt q1;obtain⟨a1,a2,a3⟩:=ha.a R q2;rw[ZC,Zj]at a2;refine cI ?_ λ_=>rfl;cases b with
 |dict=>exact Q1X (Qb0 R.calm (ZG (Yb (by decide) _) R.un)) g1 g4 (by rfl) a1 g3 g2 (dg a2.1) (gm a2.2)
 |len=>exact Q1J QcE g1 g4 (by rfl) a1 g3 g2 (dg a2.1) (gm a2.2)
 |tuple=>exact Q1X Q8s g1 g4 (by rfl) a1 g3 g2 (dg a2.1) (gm a2.2)
 |list=>exact Q1X QaN g1 g4 (by rfl) a1 g3 g2 (dg a2.1) (gm a2.2)
 |min=>exact Q1J (QcF R.calm) g1 g4 (by rfl) a1 g3 g2 (dg a2.1) (gm a2.2)
 |sorted=>exact Q1J Q6Q g1 g4 (by rfl) a1 g3 g2 (dg a2.1) (gm a2.2)
 |min1=>exact Q1J (QaX R.calm) g1 g4 (by rfl) a1 g3 g2 (dg a2.1) (gm a2.2)
theorem Qbi(y:Ty)(h:y≠.non):bootBuiltins (Str.ofString y.nm)=some (.type y.nm):=by
 cases y<;>first|exact absurd rfl h|rfl
theorem Qbj(ha:ao T a):ao T (.isi y a):=by
 refine ao.of (u:=dB (dIsI y (ev T a).e)) rfl rfl fun{X g} R {x} q=>?_;have qv:=Q0j q;clear q;obtain⟨⟨n,p,z,zs,pos⟩,rfl,q⟩:=qv;have qv:=Q0j q;clear q;obtain⟨d,e,q⟩:=qv;dsimp only at e;subst e;have qv:=Q0j q;clear q;obtain⟨⟨n',p3⟩,rfl,q⟩:=qv;dsimp only at q ⊢;erw[Zj,Zz,Yg,ZZ,ne_eq]at q;obtain⟨⟨⟨⟨⟨⟨q1,rfl⟩,q2⟩,rfl⟩,q3⟩,q4⟩,q5⟩:=q;obtain⟨g1,g2,g3,g4⟩:=R.blt q1;obtain⟨k1,k2,k3,k4⟩:=R.blt q2;exact cI (QcD y q3 (Qbi y q3) (ha.e R q5) g1 g4 k1 k4 k3 k2 (dg q4) (dg rfl) (gm rfl)) λ_=>rfl
theorem nN(h:es.all dS=true)(hl:es.length<30):((backTo cp (starEach es env)).all (λx=>!x.1)&&(backToKw cp (keywordEach [] env)).all (λx=>x.1.isSome)
      && decide (es.length+([]:List Keyword).length+(if ([]:List Keyword).isEmpty then 0 else 1)<30))=true:=by
 rw[Q4U h];simp[keywordEach,backToKw,hl]
theorem Q9O(h:(cR T as).a g []=true):as=.nil:=by
 cases as<;>first|rfl|exact Bool.noConfusion (show false=true from h)
theorem QcT(ho:ao T o)(ha:ao T as):ao T (.ml m o as):=by
 refine ao.of (u:=dB (dML m.r (ev T o).e (ev T as).a)) rfl rfl fun{X g} R {x} q=>?_;have qv:=Q0j q;clear q;obtain⟨⟨z,n,ap,es,cp⟩,rfl,q⟩:=qv;dsimp only at q ⊢;erw[Zj,Zo]at q;obtain⟨⟨⟨⟨⟨q0,q1⟩,q2⟩,q3⟩,q4⟩,q5⟩:=q;obtain rfl:n=m.nm:=by simpa using q0
 obtain⟨a1,a2,a3⟩:=ha.a R q4;refine cI ?_ λ_=>rfl;cases es with
 |nil=>
  obtain rfl:=Q9O q4;cases m with
  |append=>exact Q6M PySem.F.slot_list_append PySem.F.type_list_append Q3r (ho.e R q3) (iL q2) q1
  |extend=>exact Q6M PySem.F.slot_list_extend PySem.F.type_list_extend Q3A (ho.e R q3) (iL q2) q1
  |pop=>exact Q6M slot_list_pop type_list_pop Q9M (ho.e R q3) (iL q2) q1
 |cons e es=>
  have a2':=a2;rw[ZC,Zj]at a2';cases m with
  |append=>exact js PySem.F.slot_list_append PySem.F.type_list_append Q3r (ho.e R q3) a1 (iL q2) (nN a2 q5) q1 (dg a2'.1) (gm a2'.2)
  |extend=>exact js PySem.F.slot_list_extend PySem.F.type_list_extend Q3A (ho.e R q3) a1 (iL q2) (nN a2 q5) q1 (dg a2'.1) (gm a2'.2)
  |pop=>exact js slot_list_pop type_list_pop Q9M (ho.e R q3) a1 (iL q2) (nN a2 q5) q1 (dg a2'.1) (gm a2'.2)
theorem nz(R:Rel X T g):X.A.units+1<cLine:=ZG (Yb (by decide) _) R.un
theorem Qbk(ha:ao T a):ao T (.fld c f a):=by
 refine ao.of (u:=dB (dFld c f (ev T a).e)) rfl rfl fun{X g} R {x} q=>?_;have qv:=Q0j q;clear q;obtain⟨⟨z,n,p⟩,rfl,q⟩:=qv;dsimp only at q ⊢;erw[Zj,Zz,List.contains_eq_mem,Zo]at q;obtain⟨⟨⟨rfl,q1⟩,q2⟩,q3⟩:=q;obtain⟨C,h1,h2,h3⟩:=R.fds _ q1;exact cI (QcJ h1 h2 h3 (ha.e R q3) (iL q2)) λ_=>rfl
theorem Q3F(hb:attributeBase o m env (eval o env)=eval o env)
  (hf:((backTo pos (starEach args env)).all (λx=>!x.1)&&(backToKw pos (keywordEach [] env)).all (λx=>x.1.isSome)&&decide (args.length+([]:List Keyword).length+(if ([]:List Keyword).isEmpty then 0 else 1)<30))=true)
  (hl:(apos.endLine==pos.line)=true):eval (.Call (.Attribute o m apos) args [] pos) env=(do
   let ov <- eval o env
   standAt apos.atName
   let (f,first) <- holding [ov] (getMethod ov m (do return (<- importBound o env).getD true))
   callWith pos f first (backTo pos (starEach args env)) (backToKw pos (keywordEach [] env))):=by
 have hform:methodCallForm (args.length+([]:List Keyword).length) (backTo pos (starEach args env)) (backToKw pos (keywordEach [] env))=true:=hf;have hpos:methodCallPos true o env apos pos=pure pos:=by unfold methodCallPos;simp[hl]
 rw[arm_eval_Call,hb];unfold methodCall;rw[hform];erw[hpos];rfl
theorem Q8U(ho:ao T o)(ha:ao T as):ao T (.meth f o as):=by
 refine ao.of (u:=dB (match T.mt f with|some mi=>zbz mi.cl mi.nm mi.sp (ev T o).e (ev T as).a|none=>botE)) rfl rfl fun{X g} R {x} q=>?_
 have qv:=Q0j q;clear q;obtain⟨⟨z,n,ap,es,cp⟩,rfl,q⟩:=qv;dsimp only at q ⊢;cases e:T.mt f with
 |none=>rw[e]at q;cases q
 |some mi=>
  rw[e]at q;erw[Zj,Zz,Zo]at q;obtain⟨⟨⟨⟨⟨rfl,q1⟩,q2⟩,q3⟩,q4⟩,q5⟩:=q;obtain⟨k,C,fa,fd,ps,h1,h2,h3,F,hr,hb⟩:=(R.mts f mi e).ex;obtain⟨a1,a2,a3⟩:=ha.a R q4;have q1:(ap.endLine==cp.line)=true:=by rw[q1];exact beq_self_eq_true _
  refine cI ?_ λ_=>rfl;cases es with
  |nil=>
   obtain rfl:=Q9O q4;exact Q8C h1 h2 h3 F (hr.mono (le_succ _)) hb (E:=E0) fh (ho.e R q3) (Q3F (iL q2) (nN a2 q5) q1)
  |cons y ys=>
   have a2':=a2;rw[ZC,Zj]at a2';exact QaR h1 h2 h3 F (hr.mono (le_succ _)) hb (E:=E0) fh (ho.e R q3) a1 (dg a2'.1) (gm a2'.2) (Q3F (iL q2) (nN a2 q5) q1)
theorem Q8V(ha:ao T as):ao T (.make f as):=by
 refine ao.of (u:=dB (match T.cQ f with|some mi=>zb7 mi.cl mi.sp (ev T as).a|none=>botE)) rfl rfl fun{X g} R {x} q=>?_
 have qv:=Q0j q;clear q;obtain⟨⟨y,p,z,zs,pp⟩,rfl,q⟩:=qv;dsimp only at q ⊢;cases e:T.cQ f with
 |none=>rw[e]at q;cases q
 |some mi=>
  rw[e]at q;erw[Zj,Zz,Zo]at q;obtain⟨⟨⟨q0,q1⟩,rfl⟩,q4⟩:=q;obtain⟨g1,g2,g3⟩:=R.glob q1;obtain⟨k,C,fa,fd,ps,h1,h2,h3,F,hr,hb⟩:=(R.mks f mi e).ex;unfold l6 at hb;rw[Zg q0]at hb;obtain⟨a1,a2,a3⟩:=ha.a R q4;rw[ZC,Zj]at a2;exact cI (QaS h1 h3 F hr g1 h2 hb (E:=E0) fh a1 g2 (dg a2.1) (gm a2.2)) λ_=>rfl
theorem Q6Y(ha:ao T as):ao T (.maket f as):=by
 refine ao.of (u:=dB (match T.cQ f with|some mi=>zbl mi.cl mi.sp (ev T as).a|none=>botE)) rfl rfl fun{X g} R {x} q=>?_
 have qv:=Q0j q;clear q;obtain⟨⟨y,p,z,zs,pp⟩,rfl,q⟩:=qv;dsimp only at q ⊢;cases e:T.cQ f with
 |none=>rw[e]at q;cases q
 |some mi=>
  rw[e]at q;erw[Zj,Zz,Yg,decide_eq_false_iff_not]at q;obtain⟨⟨⟨q0,q1⟩,rfl⟩,q4⟩:=q;obtain⟨g1,g2,g3⟩:=R.glob q1;obtain⟨k,C,fa,fd,ps,h1,h2,h3,F,hr,hb⟩:=(R.mks f mi e).ex;unfold l6 at hb;rw[Zd q0]at hb;obtain⟨a1,a2,a3⟩:=ha.a R q4;rw[ZC,Zj]at a2;exact cI (Q8Q h1 h3 F hr g1 h2 hb (E:=E0) fh a1 g2 (dg a2.1) (gm a2.2)) λ_=>rfl
theorem Q6Z:ao T (.make0 f):=by
 refine ao.of (u:=dB (match T.cQ f with|some mi=>zb7 mi.cl mi.sp dNil|none=>botE)) rfl rfl fun{X g} R {x} q=>?_
 have qv:=Q0j q;clear q;obtain⟨⟨y,p,pp⟩,rfl,q⟩:=qv;dsimp only at q ⊢;cases e:T.cQ f with
 |none=>rw[e]at q;cases q
 |some mi=>
  rw[e]at q;erw[Zj,Zz,Zo]at q;obtain⟨⟨q0,q1⟩,rfl⟩:=q;obtain⟨g1,g2,g3⟩:=R.glob q1;obtain⟨k,C,fa,fd,ps,h1,h2,h3,F,hr,hb⟩:=(R.mks f mi e).ex;unfold l6 at hb;rw[Zg q0]at hb;exact cI (Q8N h1 h3 F hr g1 h2 hb (E:=E0) fh g2) λ_=>rfl
theorem Q8W:ao T .dnew:=by
 refine ao.of (u:=dB zc0) rfl rfl fun{X g} R {x} q=>?_;have qv:=Q0j q;clear q;obtain⟨p,rfl,q⟩:=qv
 (try dsimp only at q ⊢)
 exact cI QaT λ_=>rfl
theorem Q8X:ao T (.nnew fl):=by
 refine ao.of (u:=dB (zbX fl)) rfl rfl fun{X g} R {x} q=>?_;have qv:=Q0j q;clear q;obtain⟨p,rfl,q⟩:=qv
 (try dsimp only at q ⊢)
 exact cI Qb2 λ_=>rfl
theorem Q8Y:ao T .knew:=by
 refine ao.of (u:=dB zbV) rfl rfl fun{X g} R {x} q=>?_;have qv:=Q0j q;clear q;obtain⟨p,rfl,q⟩:=qv
 (try dsimp only at q ⊢)
 exact cI QaY λ_=>rfl
theorem Q7a(hk:ao T k)(hv:ao T v):ao T (.disp1 k v):=by
 refine ao.of (u:=dB (zbo (ev T k).e (ev T v).e)) rfl rfl fun{X g} R {x} q=>?_;have qv:=Q0j q;clear q;obtain⟨⟨y,z,p⟩,rfl,q⟩:=qv;dsimp only at q ⊢;rw[Zj]at q;exact cI (Q8D (nz R) (hk.e R q.1) (hv.e R q.2)) λ_=>rfl
theorem Qbl:ao T .bot:=ao.of (u:=dB botE) rfl rfl fun{X g} R {x} q=>⟨λ_ _ _ _ _ _ ⟨_,_,_,_,_,h,_⟩=>h.elim,λ_ _ _ _ _ _ ⟨_,_,_,_,_,h,_⟩=>h.elim⟩
theorem Q4W(h:o8 z=true):iD z:=by
 intro o i;cases z<;>first|rfl|cases h
theorem Qbm(ha:ao T a)(hb:ao T b):ao T (.dix a b):=by
 refine ao.of (u:=dB (dOp rDIx (ev T a).e (ev T b).e)) rfl rfl fun{X g} R {x} q=>?_;have qv:=Q0j q;clear q;obtain⟨⟨y,z,p⟩,rfl,q⟩:=qv;dsimp only at q ⊢;erw[Zj]at q;exact cI (QcK (nz R) (ha.e R q.1.2) (hb.e R q.2) (Q4W q.1.1)) λ_=>rfl
theorem qO(R:Rel X T g):X.A.units+2<cLine:=ZG (Yb (by decide) _) R.un
theorem Q7b(hk:ao T k)(hv:ao T v):ao T (.dispN fl k v):=by
 refine ao.of (u:=dB (zbn fl (ev T k).e (ev T v).e)) rfl rfl fun{X g} R {x} q=>?_;have qv:=Q0j q;clear q;obtain⟨⟨y,z,p⟩,rfl,q⟩:=qv;dsimp only at q ⊢;rw[Zj]at q;exact cI (Q8M (qO R) (hk.e R q.1) (hv.e R q.2)) λ_=>rfl
theorem Qbn(ha:ao T a)(hb:ao T b):ao T (.nix fl a b):=by
 refine ao.of (u:=dB (dOp (rNIx fl) (ev T a).e (ev T b).e)) rfl rfl fun{X g} R {x} q=>?_;have qv:=Q0j q;clear q;obtain⟨⟨y,z,p⟩,rfl,q⟩:=qv;dsimp only at q ⊢;erw[Zj]at q;exact cI (QcO (qO R) (ha.e R q.1.2) (hb.e R q.2) (Q4W q.1.1)) λ_=>rfl
theorem qH(h1:ic z=true)(h2:(ap.endLine==cp.line)=true)(h3:dS y=true):M1 X z m ap y cp:=
 ⟨iL h1,nN (by rw[ZC,h3];rfl) (by show 1<30;decide),h2,by
  have e:starEach [y] X.env=[(false,eval y X.env)]:=by rw[dg h3];rfl
  rw[e];rfl⟩
theorem Q7c(hd:ao T d)(hk:ao T k):ao T (.dget1 d k):=by
 refine ao.of (u:=dB (zbr (ev T d).e (ev T k).e)) rfl rfl fun{X g} R {x} q=>?_;have qv:=Q0j q;clear q;obtain⟨⟨z,n,ap,es,cp⟩,rfl,q⟩:=qv;have qv:=Q0j q;clear q;obtain⟨y,e,q⟩:=qv;dsimp only at e q ⊢;subst e;erw[Zj]at q;obtain⟨⟨⟨⟨⟨q0,q1⟩,q2⟩,q3⟩,q4⟩,q5⟩:=q;cases Zz.mp q0;exact cI (Q8I R.un (hd.e R q4) (hk.e R q5) (qH q2 q1 q3)) λ_=>rfl
theorem Q7d(hd:ao T d)(ho:ao T o):ao T (.sortK f d o):=by
 refine ao.of (u:=dB (match T.mt f with|some mi=>zbk false mi.cl mi.nm mi.sp (ev T d).e (ev T o).e|none=>botE)) rfl rfl fun{X g} R {x} q=>?_
 split at q
 ·rename_i y p z n w m ap kp pp;cases e:T.mt f with
  |none=>rw[e]at q;cases q
  |some mi=>
   rw[e]at q;erw[Zj,Zz,Yg]at q;obtain⟨⟨⟨⟨⟨⟨⟨⟨q1,rfl⟩,rfl⟩,rfl⟩,q2⟩,q3⟩,q4⟩,q5⟩,q6⟩:=q;obtain⟨g1,g2,g3,g4⟩:=R.blt q1;obtain⟨k,C,fa,fd,ps,h1,h2,h3,F,hr,hb⟩:=(R.mts f mi e).ex;exact cI (Q8O R.calm g1 g4 (Q4f (hd.e R q5) Q6G (dg q3)) (ho.e R q6) (iL q4) h1 h2 h3 q2 F hr hb (by rw[dg q3];rfl) (by rw[dg q3];rfl)) λ_=>rfl
 ·cases q
theorem fP(h1:ic z=true)(h2:(ap.endLine==cp.line)=true)(h3:dS y=true)(h4:dS y'=true):M2 X z m ap y y' cp:=
 ⟨iL h1,nN (by rw[ZC,ZC,h3,h4];rfl) (by show 2<30;decide),h2,by
  have e:starEach [y,y'] X.env=[(false,eval y X.env),(false,eval y' X.env)]:=by rw[dg h3,dg h4];rfl
  rw[e];rfl⟩
theorem Q7e(hd:ao T d)(hk:ao T k)(he:ao T e):ao T (.dget2 d k e):=by
 refine ao.of (u:=dB (zbq (ev T d).e (ev T k).e (ev T e).e)) rfl rfl fun{X g} R {x} q=>?_;have qv:=Q0j q;clear q;walk_at "q2";cases Zz.mp q0;exact cI (Q8E (nz R) (hd.e R q5) (hk.e R q6) (he.e R q7) (fP q2 q1 q3 q4)) λ_=>rfl
theorem Q7f(hd:ao T d)(hk:ao T k)(he:ao T e):ao T (.kget2 d k e):=by
 refine ao.of (u:=dB (zbj (ev T d).e (ev T k).e (ev T e).e)) rfl rfl fun{X g} R {x} q=>?_;have qv:=Q0j q;clear q;walk_at "q2";cases Zz.mp q0;exact cI (Q8G (nz R) (hd.e R q5) (hk.e R q6) (he.e R q7) (fP q2 q1 q3 q4)) λ_=>rfl
theorem Q7g(hd:ao T d)(hk:ao T k)(he:ao T e):ao T (.dsetd d k e):=by
 refine ao.of (u:=dB (zbp (ev T d).e (ev T k).e (ev T e).e)) rfl rfl fun{X g} R {x} q=>?_;have qv:=Q0j q;clear q;walk_at "q2";cases Zz.mp q0;exact cI (Q8F (nz R) (hd.e R q5) (hk.e R q6) (he.e R q7) (fP q2 q1 q3 q4)) λ_=>rfl
theorem Q8Z(hd:ao T d)(hk:ao T k)(he:ao T e):ao T (.dpop d k e):=by
 refine ao.of (u:=dB (zbZ (ev T d).e (ev T k).e (ev T e).e)) rfl rfl fun{X g} R {x} q=>?_;have qv:=Q0j q;clear q;walk_at "q2";cases Zz.mp q0;exact cI (Qb5 (nz R) (hd.e R q5) (hk.e R q6) (he.e R q7) (fP q2 q1 q3 q4)) λ_=>rfl
theorem Q7h(hd:ao T d)(hk:ao T k)(he:ao T e):ao T (.ksetd d k e):=by
 refine ao.of (u:=dB (zbi (ev T d).e (ev T k).e (ev T e).e)) rfl rfl fun{X g} R {x} q=>?_;have qv:=Q0j q;clear q;walk_at "q2";cases Zz.mp q0;exact cI (Q8K (hd.e R q5) (hk.e R q6) (he.e R q7) (fP q2 q1 q3 q4)) λ_=>rfl
theorem Q1h{two:Bool}{ix:List Nat}{it c e:CE}(hi:ao T it)(hc:ao T c)(he:ao T e)(R:Rel X T g)(q:zc3 two ix (cR T it) (cR T c) (cR T e) g x=true) :
  ∃elt tg iter ifs scope pos ts fn gV,x=.ListComp elt [⟨tg,iter,ifs,0⟩] scope pos/\kG X.K ts.length (zbe two) gV/\iS X.env.scope scope (ts++fn) ts.length fn/\ix.map (λi=>X.N[i]?)=fn.map some/\DI X tg iter (ev T it).i /\
   (∀cl C s₀ H₀ ex E,PG (bg X scope (ts++fn) cl C s₀ H₀ ex E) tg gV)/\(∀cl C s₀ H₀ ex E,dR (bg X scope (ts++fn) cl C s₀ H₀ ex E) (λcls _ H=>lX X.K X.mg T.cl T.xd cls H)->fY (bg X scope (ts++fn) cl C s₀ H₀ ex E) ifs (ev T c).t)/\(∀cl C s₀ H₀ ex E,dR (bg X scope (ts++fn) cl C s₀ H₀ ex E) (λcls _ H=>lX X.K X.mg T.cl T.xd cls H)->DE (bg X scope (ts++fn) cl C s₀ H₀ ex E) elt (ev T e).e) /\
   (∀y,foldedSetIterable iter X.env y=pure y):=by
 have qv:=Q0j q;clear q;obtain⟨⟨elt,tg,iter,ifs,scope,pos⟩,rfl,q⟩:=qv;dsimp only at q ⊢
 ·cases et:zbN two tg with
  |none=>rw[et]at q;cases q
  |some ts=>
   rw[et]at q;dsimp only at q ⊢;erw[Zj,Zo]at q;obtain⟨⟨⟨⟨⟨⟨q1,q2⟩,q3⟩,q4⟩,q5⟩,q6⟩,q7⟩:=q;have ok:=Q3E R q1;have Rc:=λcl C s₀ H₀ ex E hE=>R.comp q1 cl C s₀ H₀ ex E hE;have loc:∀cl C s₀ H₀ ex E,∀(i:Nat) (y:Str) (p:Pos),ts[i]?=some y->PG (bg X scope (ts++ix.filterMap λi=>g.N[i]?) cl C s₀ H₀ ex E) (.Name y p) (jG i):=λcl C s₀ H₀ ex E i y p hy=>by
    have hm:y∈ts:=ZI hy;have hl:scope.names.lookup y=some .local:=by simpa using (ZO.mp q3) y hm
    have hl2:(compEnvC scope cl C X.env).scope.names.lookup y=some .local:=r9 (k:=.local) (by decide) hl
    exact Q6c ok.nd (by
     show (ts++_)[i]?=some y;rw[List.getElem?_append_left (Zq.mp hy).1];exact hy) (.inl hl2) (.inr hl2)
   cases two with
   |false=>
    obtain⟨⟨⟨y,p⟩,e0⟩,_,et⟩:=Yi.mp et;cases e0;cases et;exact⟨_,_,_,_,_,_,[y],_,jG 0,rfl,unp1,ok,by rw[R.N];exact q2,hi.i R q5,λcl C s₀ H₀ ex E=>loc cl C s₀ H₀ ex E 0 y p rfl,λcl C s₀ H₀ ex E hE=>hc.c (Rc cl C s₀ H₀ ex E hE) q6,λcl C s₀ H₀ ex E hE=>he.e (Rc cl C s₀ H₀ ex E hE) q7,Q2T q4⟩
   |true=>
    obtain⟨⟨⟨es,k',pp⟩,e0⟩,_,et⟩:=Yi.mp et;obtain⟨⟨⟨a,b⟩,e1⟩,_,et⟩:=Yi.mp et;obtain⟨⟨⟨y,p⟩,e2⟩,_,et⟩:=Yi.mp et;obtain⟨⟨⟨y',p'⟩,e3⟩,_,et⟩:=Yi.mp et;dsimp only at e0 e1 e2 e3;subst e2 e3;subst e1;cases e0;cases et;exact⟨_,_,_,_,_,_,[y,y'],_,nA X.K 2 (oX (jG 0) (oX (jG 1) nB)),rfl,unp2,ok,by rw[R.N];exact q2,hi.i R q5,
     λcl C s₀ H₀ ex E=>QbY R.calm (Q4y (loc cl C s₀ H₀ ex E 0 y p rfl) (Q4y (loc cl C s₀ H₀ ex E 1 y' p' rfl) Qa7)),λcl C s₀ H₀ ex E hE=>hc.c (Rc cl C s₀ H₀ ex E hE) q6,λcl C s₀ H₀ ex E hE=>he.e (Rc cl C s₀ H₀ ex E hE) q7,Q2T q4⟩
theorem Q9a{two:Bool}{ix:List Nat}{it c e:CE}(hi:ao T it)(hc:ao T c)(he:ao T e):ao T (.comp two ix it c e):=by
 refine ao.of (u:=dB (zbA (ev T it).i ix (zbe two) (ev T c).t (ev T e).e)) rfl rfl fun{X g} R {x} q=>?_;obtain⟨elt,tg,iter,ifs,scope,pos,ts,fn,gV,rfl,h1,h2,h3,h4,h5,h6,h7,h8⟩:=Q1h hi hc he R q;exact cI (QaF R.tp R.tk h1 R.calm h2 h3 h4 h5 h6 h7 h8) λ_=>rfl
theorem Q7i{two:Bool}{ix:List Nat}{it c e:CE}(hi:ao T it)(hc:ao T c)(he:ao T e):ao T (.compz two ix it c e):=by
 refine ao.of (u:=dB (zb2 (ev T it).i ix (zbe two) (ev T c).t (ev T e).e)) rfl rfl fun{X g} R {x} q=>?_;obtain⟨elt,tg,iter,ifs,scope,pos,ts,fn,gV,rfl,h1,h2,h3,h4,h5,h6,h7,h8⟩:=Q1h hi hc he R q;exact cI (Q8t R.tp R.tk h1 R.calm h2 h3 h4 h5 h6 h7 h8) λ_=>rfl
theorem Q9b(ha:ao T a):ao T (.rng1 a) where
 e:=λ_ _ q=>nomatch q
 t:=λ_ _ q=>nomatch q
 be:=fun{X g} R {op vs pos} q=>by match vs,q with|[x],q=>cases q
 bt:=fun{X g} R {op vs pos} q=>by match vs,q with|[x],q=>cases q
 a:=λ_ _ q=>nomatch q
 k:=λ_ _ q=>nomatch q
 o:=fun{X g} R {x} q=>by match x,q with|some x,q=>cases q
 c:=fun{X g} R {xs} q=>by match xs,q with|[x],q=>cases q
 i:=fun{X g} R {x tg} q=>by
  have qv:=Q0j (show (ko T.toiz "range" (cR T a).e g x)=true from q);clear q;obtain⟨⟨y,p,z,zs,pp⟩,rfl,q⟩:=qv;erw[Zj,Zz,isEmpty_iff]at q;obtain⟨⟨⟨⟨rfl,q1⟩,rfl⟩,q2⟩,q3⟩:=q;obtain⟨g1,g2,g3,g4⟩:=R.blt q1;exact Q6H g1 g4 (Q4f (ha.e R q3) Q6G (dg q2)) (dg q2)
theorem Qbo(ha:ao T a):ao T (.rev a) where
 e:=λ_ _ q=>nomatch q
 t:=λ_ _ q=>nomatch q
 be:=fun{X g} R {op vs pos} q=>by match vs,q with|[x],q=>cases q
 bt:=fun{X g} R {op vs pos} q=>by match vs,q with|[x],q=>cases q
 a:=λ_ _ q=>nomatch q
 k:=λ_ _ q=>nomatch q
 o:=fun{X g} R {x} q=>by match x,q with|some x,q=>cases q
 c:=fun{X g} R {xs} q=>by match xs,q with|[x],q=>cases q
 i:=fun{X g} R {x tg} q=>by
  have qv:=Q0j (show (ko T.toiz "reversed" (cR T a).e g x)=true from q);clear q;obtain⟨⟨y,p,z,zs,pp⟩,rfl,q⟩:=qv;erw[Zj,Zz,isEmpty_iff]at q;obtain⟨⟨⟨⟨rfl,q1⟩,rfl⟩,q2⟩,q3⟩:=q;obtain⟨g1,g2,g3,g4⟩:=R.blt q1;exact QcI (ha.e R q3) g1 g4 (dg q2)
theorem Qbp:ao T .nil where
 e:=λ_ _ q=>nomatch q
 t:=λ_ _ q=>nomatch q
 be:=λ_ _ _ _ q=>nomatch q
 bt:=λ_ _ _ _ q=>nomatch q
 a:=fun{X g} R {es} q=>by
  have:es=[]:=isEmpty_iff.mp q;subst this;exact⟨Q6G,rfl,rfl⟩
 k:=fun{X g} R {kws} q=>by
  match kws,q with
  |[],_=>exact QaP
  |_::_,q=>cases q
 i:=λ_ _ _ q=>nomatch q
 o:=fun{X g} R {x} q=>by
  have:x=none:=Option.isNone_iff_eq_none.mp q;subst this;exact QaL
 c:=fun{X g} R {es} q=>by
  have:es=[]:=isEmpty_iff.mp q;subst this;exact Q8p
theorem Q9c(ha:ao T a)(hs:ao T as):ao T (.cons a as) where
 e:=λ_ _ q=>nomatch q
 t:=λ_ _ q=>nomatch q
 be:=λ_ _ _ _ q=>nomatch q
 bt:=λ_ _ _ _ q=>nomatch q
 a:=fun{X g} R {es} q=>by
  match es,q with
  |x::r,q=>
   have q':(dS x&&(cR T a).e g x&&(cR T as).a g r)=true:=q;erw[Zj]at q';obtain⟨⟨q1,q2⟩,q3⟩:=q';obtain⟨a1,a2,a3⟩:=hs.a R q3;exact⟨Q4f (ha.e R q2) a1 (dg q1),by rw[ZC,q1,a2];rfl,by rw[Zs,a3];rfl⟩
 k:=fun{X g} R {kws} q=>by
  match kws,q with
  |[],q=>cases q
  |⟨nm,x,kp⟩::r,q=>
   have q':(dS x&&(cR T a).e g x&&(cR T as).a g (r.map (·.value)))=true:=q;erw[Zj]at q';obtain⟨⟨q1,q2⟩,q3⟩:=q';exact Q8x (ha.e R q2) (hs.k R q3)
 i:=λ_ _ _ q=>nomatch q
 o:=λ_ _ q=>nomatch q
 c:=λ_ _ q=>nomatch q
theorem snd:∀c:CE,ao T c
 |.var _=>Qb6
 |.con _=>Qb7
 |.glob _=>Q8R
 |.bin _ a b=>Qb8 (snd a) (snd b)
 |.cmp _ a b=>Qb9 (snd a) (snd b)
 |.and a b=>Qba (snd a) (snd b)
 |.or a b=>QcQ (snd a) (snd b)
 |.not a=>Qbb (snd a)
 |.neg a=>Qbc (snd a)
 |.ite c a b=>Qbd (snd c) (snd a) (snd b)
 |.ix a b=>QcR (snd a) (snd b)
 |.sl a lo hi=>QcS (snd a) (snd lo) (snd hi)
 |.tup as=>Qbe (snd as)
 |.lst as=>Qbf (snd as)
 |.lstz as=>Q8S (snd as)
 |.frz e=>Qbg (snd e)
 |.call _ as=>Q8T (snd as)
 |.blt _ as=>Qbh (snd as)
 |.isi _ e=>Qbj (snd e)
 |.ml _ o as=>QcT (snd o) (snd as)
 |.fld _ _ e=>Qbk (snd e)
 |.meth _ o as=>Q8U (snd o) (snd as)
 |.make _ as=>Q8V (snd as)
 |.maket _ as=>Q6Y (snd as)
 |.dnew=>Q8W
 |.disp1 k v=>Q7a (snd k) (snd v)
 |.dix d k=>Qbm (snd d) (snd k)
 |.dget2 d k e=>Q7e (snd d) (snd k) (snd e)
 |.dsetd d k e=>Q7g (snd d) (snd k) (snd e)
 |.ksetd d k e=>Q7h (snd d) (snd k) (snd e)
 |.dpop d k e=>Q8Z (snd d) (snd k) (snd e)
 |.knew=>Q8Y
 |.nnew _=>Q8X
 |.dispN _ k v=>Q7b (snd k) (snd v)
 |.bot=>Qbl
 |.make0 _=>Q6Z
 |.nix _ d k=>Qbn (snd d) (snd k)
 |.dget1 d k=>Q7c (snd d) (snd k)
 |.sortK _ d o=>Q7d (snd d) (snd o)
 |.kget2 d k e=>Q7f (snd d) (snd k) (snd e)
 |.comp _ _ it c e=>Q9a (snd it) (snd c) (snd e)
 |.compz _ _ it c e=>Q7i (snd it) (snd c) (snd e)
 |.rng1 a=>Q9b (snd a)
 |.rev a=>Qbo (snd a)
 |.nil=>Qbp
 |.cons a as=>Q9c (snd a) (snd as)
end
inductive HP where
 |gY (nm:Str)|lit (l:Lit)|row
set_option genSizeOf false in
set_option genInjectivity false in
inductive CS where
 |nil|seq (s r:CS)
 |set (i:Nat) (e:CE)
 |ret (e:CE)|retn
 |ite (c:CE) (a b:CS)
 |for1 (i:Nat) (it:CE) (b:CS)
 |ex (e:CE)
 |bot
 |whil (c:CE) (b:CS)
 |setf (c f:Str) (o v:CE)
 |dput (d k v:CE)
 |nput (fl:Bool) (d k v:CE)
 |faug (c f:Str) (o v:CE)
noncomputable def hP(T:Tab)(c je:Nat)(a:Addr):HP->aB
 |.gY nm=>match T.gY c nm with
  |some b=>dIsE je a b
  |none=>botE
 |.lit l=>dC l.d
 |.row=>match rowOf c,T.rw c with
  |some n,true=>dXrow je a n
  |_,_=>botE
noncomputable def hA(T:Tab)(c je:Nat)(a:Addr):List HP->d7
 |[]=>dNil
 |p::r=>zaX (hP T c je a p) (hA T c je a r)
noncomputable def hS(T:Tab)(c je:Nat)(a:Addr)(y:Nat):List (List HP)->cU
 |[]=>zbW
 |p::r=>dSeq (dSet y (dOp rAddD (dVar y) (dTup (hA T c je a p)))) (hS T c je a y r)
noncomputable def b7(T:Tab):CS->cU
 |.nil=>zbW
 |.seq s r=>dSeq (b7 T s) (b7 T r)
 |.set i e=>dSet i (ev T e).e
 |.ret e=>dRet (ev T e).e
 |.retn=>dRetN
 |.ite c a b=>dIfS (ev T c).t (b7 T a) (b7 T b)
 |.for1 i it b=>dFor (ev T it).i (zb1 i) (b7 T b)
 |.ex e=>dDrop (ev T e).e
 |.bot=>dBot
 |.whil c b=>jR (ev T c).t (b7 T b)
 |.setf c f o v=>dSetF c f (ev T o).e (ev T v).e
 |.dput d k v=>dDPut (ev T d).e (ev T k).e (ev T v).e
 |.nput fl d k v=>dNPut fl (ev T d).e (ev T k).e (ev T v).e
 |.faug c f o v=>dFAug c f (ev T o).e (ev T v).e
theorem evS_nil(T:Tab):b7 T (.nil)=(zbW):=rfl
theorem evS_seq(T:Tab){s}{r}:b7 T (.seq s r)=(dSeq (b7 T s) (b7 T r)):=rfl
theorem evS_set(T:Tab){i}{e}:b7 T (.set i e)=(dSet i (ev T e).e):=rfl
theorem evS_ret(T:Tab){e}:b7 T (.ret e)=(dRet (ev T e).e):=rfl
theorem evS_retn(T:Tab):b7 T (.retn)=(dRetN):=rfl
theorem evS_ite(T:Tab){c}{a}{b}:b7 T (.ite c a b)=(dIfS (ev T c).t (b7 T a) (b7 T b)):=rfl
theorem evS_for1(T:Tab){i}{it}{b}:b7 T (.for1 i it b)=(dFor (ev T it).i (zb1 i) (b7 T b)):=rfl
theorem evS_ex(T:Tab){e}:b7 T (.ex e)=(dDrop (ev T e).e):=rfl
theorem evS_bot(T:Tab):b7 T (.bot)=(dBot):=rfl
theorem evS_whil(T:Tab){c}{b}:b7 T (.whil c b)=(jR (ev T c).t (b7 T b)):=rfl
theorem evS_setf(T:Tab){c}{f}{o}{v}:b7 T (.setf c f o v)=(dSetF c f (ev T o).e (ev T v).e):=rfl
theorem evS_dput(T:Tab){d}{k}{v}:b7 T (.dput d k v)=(dDPut (ev T d).e (ev T k).e (ev T v).e):=rfl
theorem evS_nput(T:Tab){fl}{d}{k}{v}:b7 T (.nput fl d k v)=(dNPut fl (ev T d).e (ev T k).e (ev T v).e):=rfl
theorem evS_faug(T:Tab){c}{f}{o}{v}:b7 T (.faug c f o v)=(dFAug c f (ev T o).e (ev T v).e):=rfl
noncomputable def o7:Expr->Bool
 |.ListComp ..|.SetComp ..|.DictComp ..=>false
 |_=>true
noncomputable def lB(g:GI)(y:Str)(p:Pos):Expr->Bool
 |.ListComp _ _ s q=>g.kd y==some .local&&p.line==q.line && !(s.names.any λ(n,k)=>n==y&&(k==.local||k==.cell))
 |_=>false
noncomputable def oY(g:GI)(i:Nat)(y:Str):Bool:=g.N[i]? == some y&&(g.kd y==some .local||g.kd y==some .cell)
structure n6 where
 s:GI->Stmt->Bool
 b:GI->List Stmt->Bool
noncomputable def mkS(f:GI->Stmt->Bool):n6:=⟨f,λ_ _=>false⟩
noncomputable def jn:CE->Bool
 |.comp ..|.compz ..=>true
 |_=>false
noncomputable def mD(T:iz):CS->n6
 |.nil=>⟨λ_ _=>false,λ_ sts=>sts.isEmpty⟩
 |.seq s r=>⟨λ_ _=>false,λg sts=>match sts with|x::xs=>(mD T s).s g x&&(mD T r).b g xs|[]=>false⟩
 |.set i e=>mkS λg x=>match x with
  |.Assign [.Name y p] v _=>oY g i y&&(ak T e).e g v&&(o7 v||g.kd y==some .cell||(lB g y p v&&jn e))
  |_=>false
 |.ret e=>mkS λg x=>match x with
  |.Return (some v) _=>(ak T e).e g v
  |_=>false
 |.retn=>mkS λ_ x=>match x with
  |.Return none _=>true
  |_=>false
 |.ite c a b=>mkS λg x=>match x with
  |.If t y z _=>(ak T c).e g t&&(mD T a).b g y&&(mD T b).b g z
  |_=>false
 |.for1 i it b=>mkS λg x=>match x with
  |.For (.Name y _) iter body [] _=>oY g i y&&oW iter&&(ak T it).i g iter&&(mD T b).b g body
  |_=>false
 |.ex e=>mkS λg x=>match x with
  |.Expr v _=>(ak T e).e g v&&o7 v
  |_=>false
 |.bot=>mkS λ_ _=>true
 |.whil c b=>mkS λg x=>match x with
  |.While t body [] _=>(ak T c).e g t&&(mD T b).b g body
  |_=>false
 |.setf c f o v=>mkS λg x=>match x with
  |.Assign [.Attribute z n _] w _=>n==f&&T.fd.contains (c,f)&&(ak T o).e g z&&(ak T v).e g w&&o7 w
  |_=>false
 |.dput d k v=>mkS λg x=>match x with
  |.Assign [.Subscript y z _] w _=>(ak T d).e g y&&(ak T k).e g z&&(ak T v).e g w&&o7 w
  |_=>false
 |.faug c f o v=>mkS λg x=>match x with
  |.AugAssign (.Attribute z n _) .Add w _=>n==f&&T.fd.contains (c,f)&&(ak T o).e g z&&(ak T v).e g w
  |_=>false
 |.nput _ d k v=>mkS λg x=>match x with
  |.Assign [.Subscript y z _] w _=>(ak T d).e g y&&(ak T k).e g z&&(ak T v).e g w
  |_=>false
noncomputable abbrev fV(T:Tab)(c:CS):n6:=mD T.toiz c
structure gH(X:Cx)(T:Tab)(g:GI):Prop extends Rel X T g where
 kind:X.env.scope.kind=.function
 pass:PassesOwn (model X.prog X.w) X.A X.env X.xe
 own:∀x,g.kd x=some .cell->X.env.scope.names.lookup x=some .cell
 fn:∀x,X.fn x=true
section
variable{X:Cx}{T:Tab}{g:GI}
theorem Q1v(h:o7 v=true):swapsWith v t l env=pure false:=by
 cases v<;>first|rfl|cases h
theorem Q7j(h:env.scope.names.lookup y=some .cell):swapsWith v (some (.Name y p)) l env=pure false:=by
 have hk:(env.kindOf y==some .local)=false:=by rw[show env.kindOf y=some .cell from h];rfl
 cases v with
 |ListComp el gens sc pp=>
  show (pure (env.blockKind==.function&&env.kindOf y==some .local&&p.line==pp.line && !(sc.names.any λ(n,k)=>n==y&&(k==.local||k==.cell))):Sem Bool)=pure false;rw[hk,Bool.and_false,Bool.false_and,Bool.false_and]
 |SetComp el gens sc pp=>
  show (pure (env.blockKind==.function&&env.kindOf y==some .local&&p.line==pp.line && !(sc.names.any λ(n,k)=>n==y&&(k==.local||k==.cell))):Sem Bool)=pure false;rw[hk,Bool.and_false,Bool.false_and,Bool.false_and]
 |DictComp k el gens sc pp=>
  show (pure (env.blockKind==.function&&env.kindOf y==some .local&&p.line==pp.line && !(sc.names.any λ(n,k)=>n==y&&(k==.local||k==.cell))):Sem Bool)=pure false;rw[hk,Bool.and_false,Bool.false_and,Bool.false_and]
 |_=>rfl
theorem gH.loc(R:gH X T g)(h:oY g i y=true):X.N.Nodup/\X.N[i]?=some y/\Loc X.env.scope y/\(X.fn y=true\/X.env.scope.names.lookup y=some .local):=by
 unfold oY at h;erw[Zj,or_eq_true,Zz]at h;refine⟨by rw[R.N];exact R.nd,by rw[R.N];exact h.1,?_,.inl (R.fn y)⟩
 rcases h.2 with q|q
 ·exact .inl (R.lc y q)
 ·exact .inr (R.own y q)
theorem gH.tg(R:gH X T g)(h:oY g i y=true):DL.DG X (.Name y p) (zb1 i):=by
 obtain⟨a,b,c,d⟩:=R.loc h;exact QaD a b c d
structure a9(T:Tab)(c:CS):Prop where
 s:∀{X:Cx}{g:GI},gH X T g->∀{x:Stmt},(fV T c).s g x=true->DL.DS X x (b7 T c)
 b:∀{X:Cx}{g:GI},gH X T g->∀{xs:List Stmt},(fV T c).b g xs=true->kX X xs (b7 T c)
theorem a9.of{f:GI->Stmt->Bool}(hc:fV T c=mkS f)(h:∀{X:Cx}{g:GI},gH X T g->∀{x:Stmt},f g x=true->DL.DS X x (b7 T c)):a9 T c where
 s:=λR x q=>by rw[hc]at q;exact h R q
 b:=λR x q=>by rw[hc]at q;cases q
theorem Q9d:a9 T (.set i e):=by
 refine a9.of rfl fun{X g} R {x} q=>?_;split at q
 ·rename_i y p v sp;erw[Zj,or_eq_true]at q;obtain⟨⟨q1,q2⟩,q3⟩:=q;obtain⟨l1,l2,l3,l4⟩:=R.loc q1;rcases q3 with (q3|q3)|⟨q3,q4⟩
  ·exact Q9F l1 l2 l3 ((snd e).e R.toRel q2) (Q1v q3) l4
  ·exact Q9F l1 l2 l3 ((snd e).e R.toRel q2) (Q7j (R.own y (Zz.mp q3))) l4
  ·unfold lB at q3;split at q3
   ·rename_i el gens sc pp;erw[Zj,Zz,Yg]at q3;obtain⟨⟨r1,r2⟩,r3⟩:=q3;have hl:=R.lc y r1;have hb:X.env.blockKind=.function:=by unfold Env.blockKind;rw[R.kind];rfl
    have hsw:swapsWith (.ListComp el gens sc pp) (some (.Name y p)) sp.line X.env=pure true:=by
     show (pure (X.env.blockKind==.function&&X.env.kindOf y==some .local&&p.line==pp.line && !(sc.names.any λ(n,k)=>n==y&&(k==.local||k==.cell))):Sem Bool)=pure true;have hk:X.env.kindOf y=some .local:=hl;rw[hb,hk,r2,r3];simp
    unfold jn at q4;split at q4
    ·rename_i two ix it c el';obtain⟨elt,tg,iter,ifs,scope,pos,ts,fn,gV,e0,h1,h2,h3,h4,h5,h6,h7,h8⟩:=Q1h (snd it) (snd c) (snd el') R.toRel q2;cases e0;exact Q5F R.tp R.tk hsw l1 l2 hl h1 R.calm h2 h3 h4 h5 h6 h7 h8
    ·rename_i two ix it c el';obtain⟨elt,tg,iter,ifs,scope,pos,ts,fn,gV,e0,h1,h2,h3,h4,h5,h6,h7,h8⟩:=Q1h (snd it) (snd c) (snd el') R.toRel q2;cases e0;exact Q4h R.tp R.tk hsw l1 l2 hl h1 R.calm h2 h3 h4 h5 h6 h7 h8
    ·cases q4
   ·cases q3
 ·cases q
theorem Q9e:a9 T (.ret e):=by
 refine a9.of rfl fun{X g} R {x} q=>?_;split at q
 ·exact Qcu ((snd e).e R.toRel q)
 ·cases q
theorem Q7k:a9 T .retn:=by
 refine a9.of rfl fun{X g} R {x} q=>?_;split at q
 ·exact QaC
 ·cases q
theorem Q9f(ha:a9 T a)(hb:a9 T b):a9 T (.ite c a b):=by
 refine a9.of rfl fun{X g} R {x} q=>?_;split at q
 ·erw[Zj]at q;exact qU ((snd c).t R.toRel q.1.1) (ha.b R q.1.2) (hb.b R q.2)
 ·cases q
theorem Q7l(hb:a9 T b):a9 T (.for1 i it b):=by
 refine a9.of rfl fun{X g} R {x} q=>?_;split at q
 ·erw[Zj]at q;obtain⟨⟨⟨q1,q2⟩,q3⟩,q4⟩:=q;exact Qcv R.pass R.calm ((snd it).i R.toRel q3) (R.tg q1) (hb.b R q4) (Q2T q2)
 ·cases q
theorem Qbq:a9 T (.ex e):=by
 refine a9.of rfl fun{X g} R {x} q=>?_;split at q
 ·erw[Zj]at q;exact QaB ((snd e).e R.toRel q.1) (Q1v q.2)
 ·cases q
theorem Q7m(hb:a9 T b):a9 T (.whil c b):=by
 refine a9.of rfl fun{X g} R {x} q=>?_;split at q
 ·erw[Zj]at q;exact Q8z R.pass ((snd c).t R.toRel q.1) (hb.b R q.2)
 ·cases q
theorem Q7n:a9 T (.setf c f o v):=by
 refine a9.of rfl fun{X g} R {x} q=>?_;split at q
 ·erw[Zj,Zz,List.contains_eq_mem,Zo]at q;obtain⟨⟨⟨⟨rfl,q1⟩,q2⟩,q3⟩,q4⟩:=q;obtain⟨C,h1,h2,h3⟩:=R.fds _ q1;exact QaQ h1 h2 h3 ((snd o).e R.toRel q2) ((snd v).e R.toRel q3) (Q1v q4)
 ·cases q
theorem Q7o:a9 T (.dput d k v):=by
 refine a9.of rfl fun{X g} R {x} q=>?_;split at q
 ·erw[Zj]at q;obtain⟨⟨⟨q1,q2⟩,q3⟩,q4⟩:=q;exact QaV (nz R.toRel) ((snd d).e R.toRel q1) ((snd k).e R.toRel q2) ((snd v).e R.toRel q3) (Q1v q4)
 ·cases q
theorem Q9g:swapsWith v (some (.Subscript y z p)) l env=pure false:=by
 cases v<;>rfl
theorem Q7p:a9 T (.nput fl d k v):=by
 refine a9.of rfl fun{X g} R {x} q=>?_;split at q
 ·erw[Zj]at q;obtain⟨⟨q1,q2⟩,q3⟩:=q;exact Qb4 (qO R.toRel) ((snd d).e R.toRel q1) ((snd k).e R.toRel q2) ((snd v).e R.toRel q3) Q9g
 ·cases q
theorem Q7q:a9 T (.faug c f o v):=by
 refine a9.of rfl fun{X g} R {x} q=>?_;split at q
 ·erw[Zj,Zz,List.contains_eq_mem,Zo]at q;obtain⟨⟨⟨rfl,q1⟩,q2⟩,q3⟩:=q;obtain⟨C,h1,h2,h3⟩:=R.fds _ q1;exact Qb1 h1 h2 h3 ((snd o).e R.toRel q2) ((snd v).e R.toRel q3)
 ·cases q
theorem gy:∀c:CS,a9 T c
 | .nil=>⟨λ_ _ q=>(nomatch q),fun{X g} R {xs} q=>by
   have:xs=[]:=isEmpty_iff.mp q;subst this;exact QaA⟩
 | .seq s r=>⟨λ_ _ q=>(nomatch q),fun{X g} R {xs} q=>by
   match xs,q with
   |x::xs,q=>
    have q':((fV T s).s g x&&(fV T r).b g xs)=true:=q;rw[Zj]at q';exact Q8o ((gy s).s R q'.1) ((gy r).b R q'.2)⟩
 |.set _ _=>Q9d
 |.ret _=>Q9e
 |.retn=>Q7k
 |.ite _ a b=>Q9f (gy a) (gy b)
 |.for1 _ _ b=>Q7l (gy b)
 |.ex _=>Qbq
 |.whil _ b=>Q7m (gy b)
 |.setf _ _ _ _=>Q7n
 |.dput _ _ _=>Q7o
 |.nput _ _ _ _=>Q7p
 |.faug _ _ _ _=>Q7q
 |.bot=>a9.of rfl fun{X g} R {x} q=>Q8y
end
structure kS(K:Frag)(x qual:Str)(st:Stmt)(f:Addr)(fd:FuncData)(dV:Value):Prop where
 ex:∃(oc:Value) (od:Option Addr) (kV doc pm:Value) (an:Option Addr) (cdv ct:Value) (osl:Array (Option Value)),
  fd=fnOf x qual (gf st) (fe st) (dE st) dV kV doc pm an cdv ct/\K.lookup f=some ⟨oc,od,.func fd,osl⟩/\codeIn K cdv qual=true
 kp:keepIn K (.ref f)=true
theorem kS.ok{P:Program}{w:World}{K:Frag}{mg:Str->Option Value}{base:Heap}{x qual:Str}{st:Stmt}{f:Addr}{fd:FuncData}{dV:Value}{N ps:List Str}{k:Nat}{sp:aU}(F:kS K x qual st f fd dV)(S:ot N ps (dE st))(len:∀ds M R,sp ds M R->ds.length=ps.length)
  (hb:∀(cdv:Value) (A:Around) (outer:List Env) (s:Shared) (H:Hp) (E:XK),aQ k (A.deeper (envOfC qual (dE st) s.heap.objs.size f cdv)) ->
   ∃td:cU,kX (iw eT P w K mg base N qual (dE st) f cdv A outer s H E).nox (fe st) td/\∀ds M R,sp ds M R->td (za3 R) (za2 N ds) M):aS P w K mg base eT (k+1) f fd ps (di K sp):=by
 obtain⟨oc,od,kV,doc,pm,an,cdv,ct,osl,rfl,lk,hcd⟩:=F.ex;refine qQ lk hcd S (λvs H Q E ⟨ds,M,R,e,m,h,k⟩=>by rw[<- e.length];exact len ds M R h) λA outer s H vs Q E hr ⟨ds,M,R,e,m,h,k⟩=>?_
 obtain⟨td,ht,hq⟩:=hb cdv A outer s H E hr;refine⟨_,ht.nox,za2 N ds,M,za3 R,?_,m,hq ds M R h,⟨λρ' M' σ' H' ⟨M0,q0,q⟩ x' s' m'=>k .non M0 .non H' q x' (m'.sub q0) .non,λd M' v H' ⟨M0,q0,q⟩ x' m' e'=>k d M0 v H' q x' (m'.sub q0) e',λ_ _ _ _ q=>q.elim,λ_ _ _ _ q=>q.elim⟩⟩;unfold za2 L2.start;rw[<- e.length];exact (aC.fD e).append (aC.lN _)
structure TabOk(P:Program)(w:World)(K:Frag)(mg:Str->Option Value)(base:Heap)(T:Tab)(k:Nat):Prop where
 fns:∀f fi,T.fn f=some fi->∃(j:Nat) (fa:Addr) (fd:FuncData) (ps:List Str),j<=k/\aS P w K mg base eT j fa fd ps (di K fi.sp)/\mg fi.nm=some (.ref fa)/\keepIn K (.ref fa)=true/\ps.length=fi.np /\
  ∀j,j<=fi.dY.length->∃(ds:List Value) (dvs:List V),Binds K fd ps ds/\Vals dvs ds/\∀H,ai K H (fi.dY.drop j) dvs
 nC:∀f fi,T.fx f=some fi->∃(j:Nat) (fa:Addr) (fd:FuncData) (ps:List Str),j<=k/\aS P w K mg base (CX1 P w) j fa fd ps (nu K mg T.cl fi.sp)/\mg fi.nm=some (.ref fa)/\keepIn K (.ref fa)=true/\ps.length=fi.np /\
  ∀j,j<=fi.dY.length->∃(ds:List Value) (dvs:List V),Binds K fd ps ds/\Vals dvs ds/\∀H,ai K H (fi.dY.drop j) dvs
 cls:∀c x,T.cl c=some x->∃C,mg x=some (.ref C)/\ib K mg T.toiz c x C
 ny:∀f ki,T.kf f=some ki->∃(j:Nat) (fa:Addr) (fd:FuncData) (ps:List Str) (gv:List Value->List Value->List Value) (gV:List V->List V->List V),j<=k/\aS P w K mg base eT j fa fd ps (di K ki.sp)/\mg ki.nm=some (.ref fa)/\keepIn K (.ref fa)=true /\
  zc6 K fd ps ki.ks gv gV/\∀H ds vs zs ws,ai K H ds vs->ai K H zs ws->ai K H (ki.g ds zs) (gV vs ws)
 con:∀i p,T.con i=some p->∃u v,mg p.1=some u/\L2.RelV v u/\∀H,Den K H p.2 v
 lP:∀x∈T.bl,mg x=none
 gY:∀c nm b,T.gY c nm=some b->jC K mg T.cl c nm b
 nj:∀x∈T.lk,∃C,mg x=some (.ref C)/\jx K C
 mts:∀f mi,T.mt f=some mi->∃(j:Nat) (C fa:Addr) (fd:FuncData) (ps:List Str),j+1<=k/\nsIn K mainGlobals mi.cl=some (some (.ref C))/\Cls K C/\Meth K C mi.nm fa/\aS P w K mg base eT j fa fd ps (di K mi.sp)/\Binds K fd ps []
 mks:∀f mi,T.cQ f=some mi->∃(j:Nat) (C fa:Addr) (fd:FuncData) (ps:List Str),j+1<=k/\nsIn K mainGlobals mi.cl=some (some (.ref C))/\mg mi.cl=some (.ref C)/\Mk K C fa/\aS P w K mg base eT j fa fd ps (di K mi.sp)/\Binds K fd ps (l6 mi.np)
 fds:∀p∈T.fd,kU K p.1 p.2
theorem j5(r:aQ k A):A.units+100<cLine:=by have:=r.un;room
theorem Q3G{P:Program}{w:World}{K:Frag}{mg:Str->Option Value}{base:Heap}{T:Tab}{k:Nat}{x qual:Str}{st:Stmt}{f:Addr}{fd:FuncData}{N ps:List Str}{sp:aU}(body:CS)
  (O:TabOk P w K mg base T k){dV:Value}(F:kS K x qual st f fd dV) (S:ot N ps (dE st)) (hc:(fV T body).b ⟨N,(dE st).names⟩ (fe st)=true)
  (len:∀ds M R,sp ds M R->ds.length=ps.length) (hb:∀ds M R,sp ds M R->b7 T body (za3 R) (za2 N ds) M) (hno:∀c M,¬ T.xd c M:=by intro _ _ h;exact h):aS P w K mg base eT (k+1) f fd ps (di K sp):=by
 refine F.ok S len λcdv A outer s H E hr=>⟨b7 T body,(gy body).b (g:=⟨N,(dE st).names⟩) ?_ hc,hb⟩;refine { N:=rfl,nd:=S.nd,calm:=rfl,gl:=λx e=>e,lc:=λx e=>e,cf:=λx e=>e,fns:=λf fi e=>?_,ny:=λf ki e=>?_,nC:=λf fi e=>?_,cls:=O.cls,tk:=λ_ _ _ _ _ _ _ ⟨c,_,M,_,_,_,_,h⟩=>(hno c M h).elim,tp:=⟨_,_,_,rfl,rfl,rfl⟩,con:=O.con,lP:=O.lP,gY:=O.gY,nj:=O.nj,mts:=λf mi e=>?_,mks:=λf mi e=>?_,fds:=O.fds,un:=j5 hr,kind:=S.kind,pass:=PassesOwn.never,own:=λx e=>e,fn:=λ_=>rfl,dpt:=ZG (Nat.add_le_add_right (Nat.le_add_right _ _) 5) hr.dp}
 ·obtain⟨j,fa,fd,ps,hj,F,h1,h2,h3,h4⟩:=O.fns f fi e;exact⟨⟨j,fa,fd,ps,F,hr.mono hj,h1,h2,h3,h4⟩⟩
 ·obtain⟨j,fa,fd,ps,gv,gV,hj,F,h1,h2,h3,h4⟩:=O.ny f ki e;exact⟨⟨j,fa,fd,ps,gv,gV,F,hr.mono hj,h1,h2,h3,h4⟩⟩
 ·obtain⟨j,fa,fd,ps,hj,F,h1,h2,h3,h4⟩:=O.nC f fi e;exact⟨⟨j,fa,fd,ps,F,hr.mono hj,h1,h2,h3,h4⟩⟩
 ·obtain⟨j,C,fa,fd,ps,hj,h1,h2,h3,F,h4⟩:=O.mts f mi e;exact⟨⟨j,C,fa,fd,ps,h1,h2,h3,F,hr.mono hj,h4⟩⟩
 ·obtain⟨j,C,fa,fd,ps,hj,h1,h2,h3,F,h4⟩:=O.mks f mi e;exact⟨⟨j,C,fa,fd,ps,h1,h2,h3,F,hr.mono hj,h4⟩⟩
theorem hZ{K:Frag}{mg:Str->Option Value}{nm x:Str}{t:Tok}{codes:List Nat}(hm:mg nm=some (.str x t))(h:S codes=x)(hc:dk codes):∃u v,mg nm=some u/\L2.RelV v u/\∀H,Den K H (.str codes) v:=
 ⟨_,.str (S codes),hm,⟨t,by rw[h]⟩,λH=>.str _ hc⟩
noncomputable def Tab.only(T:Tab)(l:List Nat):Tab:={T with fn:=λi=>if i∈l then T.fn i else none,kf:=λi=>if i∈l then T.kf i else none,fx:=λi=>if i∈l then T.fx i else none,mt:=λi=>if i∈l then T.mt i else none,cQ:=λi=>if i∈l then T.cQ i else none}
def KOk(P:Program)(w:World)(K:Frag)(mg:Str->Option Value)(base:Heap)(ki:KI)(k:Nat):Prop:=
 ∃(j:Nat) (fa:Addr) (fd:FuncData) (ps:List Str) (gv:List Value->List Value->List Value) (gV:List V->List V->List V),j<=k/\aS P w K mg base eT j fa fd ps (di K ki.sp)/\mg ki.nm=some (.ref fa)/\keepIn K (.ref fa)=true /\
  zc6 K fd ps ki.ks gv gV/\∀H ds vs zs ws,ai K H ds vs->ai K H zs ws->ai K H (ki.g ds zs) (gV vs ws)
def FOk(P:Program)(w:World)(K:Frag)(mg:Str->Option Value)(base:Heap)(fi:FI)(k:Nat):Prop:=
 ∃(j:Nat) (fa:Addr) (fd:FuncData) (ps:List Str),j<=k/\aS P w K mg base eT j fa fd ps (di K fi.sp)/\mg fi.nm=some (.ref fa)/\keepIn K (.ref fa)=true/\ps.length=fi.np /\
  ∀j,j<=fi.dY.length->∃(ds:List Value) (dvs:List V),Binds K fd ps ds/\Vals dvs ds/\∀H,ai K H (fi.dY.drop j) dvs
section
variable{P:Program}{w:World}{K:Frag}{mg:Str->Option Value}{base:Heap}{T:Tab}{k:Nat}{fi:FI}
theorem FOk.mono(h:FOk P w K mg base fi j)(hk:j<=k):FOk P w K mg base fi k:=by
 obtain⟨i,fa,fd,ps,h1,h2⟩:=h;exact⟨i,fa,fd,ps,ZF h1 hk,h2⟩
theorem TabOk.nil(hc:∀i p,T.con i=some p->∃u v,mg p.1=some u/\L2.RelV v u/\∀H,Den K H p.2 v)(hb:∀x∈T.bl,mg x=none)(hcl:∀c x,T.cl c=some x->∃C,mg x=some (.ref C)/\ib K mg T.toiz c x C)
  (hix:∀c nm b,T.gY c nm=some b->jC K mg T.cl c nm b:=by intro _ _ _ h;cases h) (hlk:∀x∈T.lk,∃C,mg x=some (.ref C)/\jx K C:=by intro _ h;cases h) (hfd:∀p∈T.fd,kU K p.1 p.2:=by intro _ h;cases h):TabOk P w K mg base (T.only []) k:=
 ⟨λf fi e=>by simp[Tab.only]at e,λf fi e=>by simp[Tab.only]at e,hcl,λf fi e=>by simp[Tab.only]at e,hc,hb,hix,hlk,λf fi e=>by simp[Tab.only]at e,λf fi e=>by simp[Tab.only]at e,hfd⟩
theorem rM{α:Type}{F:Nat->Option α}{f f':Nat}{l:List Nat}{y:α}(h:(if f'∈f::l then F f' else none)=some y):(f'=f/\F f=some y)\/(if f'∈l then F f' else none)=some y:=by
 by_cases hf:f'=f
 ·subst hf;rw[Zg Zk]at h;exact .inl ⟨rfl,h⟩
 ·right;by_cases hm:f'∈l
  ·rw[Zg (Zc _ hm)]at h;rw[Zg hm];exact h
  ·rw[Zd (by simp[hf,hm])]at h
   cases h
def XOk(P:Program)(w:World)(K:Frag)(mg:Str->Option Value)(base:Heap)(cn:CN)(fi:FX)(k:Nat):Prop:=
 ∃(j:Nat) (fa:Addr) (fd:FuncData) (ps:List Str),j<=k/\aS P w K mg base (CX1 P w) j fa fd ps (nu K mg cn fi.sp)/\mg fi.nm=some (.ref fa)/\keepIn K (.ref fa)=true/\ps.length=fi.np /\
  ∀j,j<=fi.dY.length->∃(ds:List Value) (dvs:List V),Binds K fd ps ds/\Vals dvs ds/\∀H,ai K H (fi.dY.drop j) dvs
def MtOk(P:Program)(w:World)(K:Frag)(mg:Str->Option Value)(base:Heap)(mi:MI)(k:Nat):Prop:=
 ∃(j:Nat) (C fa:Addr) (fd:FuncData) (ps:List Str),j+1<=k/\nsIn K mainGlobals mi.cl=some (some (.ref C))/\Cls K C/\Meth K C mi.nm fa/\aS P w K mg base eT j fa fd ps (di K mi.sp)/\Binds K fd ps []
def MkOk(P:Program)(w:World)(K:Frag)(mg:Str->Option Value)(base:Heap)(mi:MI)(k:Nat):Prop:=
 ∃(j:Nat) (C fa:Addr) (fd:FuncData) (ps:List Str),j+1<=k/\nsIn K mainGlobals mi.cl=some (some (.ref C))/\mg mi.cl=some (.ref C)/\Mk K C fa/\aS P w K mg base eT j fa fd ps (di K mi.sp)/\Binds K fd ps (l6 mi.np)
theorem MtOk.mono(h:MtOk P w K mg base mi j)(hk:j<=k):MtOk P w K mg base mi k:=by
 obtain⟨i,C,fa,fd,ps,h1,h2⟩:=h;exact⟨i,C,fa,fd,ps,ZF h1 hk,h2⟩
theorem MkOk.mono(h:MkOk P w K mg base mi j)(hk:j<=k):MkOk P w K mg base mi k:=by
 obtain⟨i,C,fa,fd,ps,h1,h2⟩:=h;exact⟨i,C,fa,fd,ps,ZF h1 hk,h2⟩
theorem TabOk.add{f:Nat}{l:List Nat}(r:TabOk P w K mg base (T.only l) k)(h1:∀fi,T.fn f=some fi->FOk P w K mg base fi k)(h2:∀ki,T.kf f=some ki->KOk P w K mg base ki k)(h3:∀fi,T.fx f=some fi->XOk P w K mg base T.cl fi k)
  (h4:∀mi,T.mt f=some mi->MtOk P w K mg base mi k) (h5:∀mi,T.cQ f=some mi->MkOk P w K mg base mi k):TabOk P w K mg base (T.only (f::l)) k:=
 {cls:=r.cls
  nC:=λf' fi' e'=>by
   rcases rM e' with ⟨rfl,e'⟩|e'
   ·exact h3 _ e'
   ·exact r.nC f' fi' e'
  fns:=λf' fi' e'=>by
   rcases rM e' with ⟨rfl,e'⟩|e'
   ·exact h1 _ e'
   ·exact r.fns f' fi' e'
  ny:=λf' ki e'=>by
   rcases rM e' with ⟨rfl,e'⟩|e'
   ·exact h2 _ e'
   ·exact r.ny f' ki e'
  mts:=λf' mi e'=>by
   rcases rM e' with ⟨rfl,e'⟩|e'
   ·exact h4 _ e'
   ·exact r.mts f' mi e'
  mks:=λf' mi e'=>by
   rcases rM e' with ⟨rfl,e'⟩|e'
   ·exact h5 _ e'
   ·exact r.mks f' mi e'
  con:=r.con
  lP:=r.lP
  gY:=r.gY
  nj:=r.nj
  fds:=r.fds}
theorem cg{α:Type}{o:Option α}{p:α->Prop}(h:o=none):∀x,o=some x->p x:=λx e=>by rw[h]at e;cases e
theorem Q7r{α:Type}{o:Option α}{p:α->Prop}{y:α}(h:o=some y)(hp:p y):∀x,o=some x->p x:=λx e=>by rw[h]at e;cases e;exact hp
theorem TabOk.cons{f:Nat}{l:List Nat}(e:T.fn f=some fi)(h:FOk P w K mg base fi k)(r:TabOk P w K mg base (T.only l) k)(en:T.kf f=none)(ex:T.fx f=none)(em:T.mt f=none:=by rfl)(ei:T.cQ f=none:=by rfl):TabOk P w K mg base (T.only (f::l)) k:=
 r.add (Q7r e h) (cg en) (cg ex) (cg em) (cg ei)
theorem TabOk.consM{f:Nat}{l:List Nat}{mi:MI}(e:T.mt f=some mi)(h:MtOk P w K mg base mi k)(r:TabOk P w K mg base (T.only l) k)(en:T.fn f=none)(ek:T.kf f=none)(ex:T.fx f=none:=by rfl)(ei:T.cQ f=none:=by rfl):TabOk P w K mg base (T.only (f::l)) k:=
 r.add (cg en) (cg ek) (cg ex) (Q7r e h) (cg ei)
theorem TabOk.consI{f:Nat}{l:List Nat}{mi:MI}(e:T.cQ f=some mi)(h:MkOk P w K mg base mi k)(r:TabOk P w K mg base (T.only l) k)(en:T.fn f=none)(ek:T.kf f=none)(ex:T.fx f=none:=by rfl)(em:T.mt f=none:=by rfl):TabOk P w K mg base (T.only (f::l)) k:=
 r.add (cg en) (cg ek) (cg ex) (cg em) (Q7r e h)
theorem Q2e{x qual:Str}{st:Stmt}{f:Addr}{oc:Value}{od an:Option Addr}{osl:Array (Option Value)}{dV kV doc pm cdv ct:Value}(l:K.lookup f=some ⟨oc,od,.func (fnOf x qual (gf st) (fe st) (dE st) dV kV doc pm an cdv ct),osl⟩)
  (c:codeIn K cdv qual=true) (kp:keepIn K (.ref f)=true):kS K x qual st f (fnOf x qual (gf st) (fe st) (dE st) dV kV doc pm an cdv ct) dV:=⟨⟨oc,od,kV,doc,pm,an,cdv,ct,osl,rfl,l,c⟩,kp⟩
theorem fok(F:aS P w K mg base eT k fa fd ps (di K sp))(hm:mg nm=some (.ref fa))(hk:keepIn K (.ref fa)=true)(hl:ps.length=np)(hb:Binds K fd ps []) :
  FOk P w K mg base ⟨nm,np,[],sp⟩ k:=
 ⟨k,fa,fd,ps,Zy _,F,hm,hk,hl,λj _=>⟨[],[],hb,.nil,λH=>by simp;exact .nil⟩⟩
end
end IR
namespace My
open PySem PySem.Spec L2 DL IR
open PyProof.Rows hiding St
noncomputable abbrev W:=List Nat
noncomputable def dn(ws:List W):D:=.tup (ws.map D.str)
theorem cC(n d:Nat):HT.aT n d none=d:=rfl
theorem fB(n d k:Nat):HT.aT n d (some (k:Int))=min k n:=by
 show (if ((k:Int)<0) then ((k:Int)+(n:Int)).toNat else min (k:Int).toNat n)=min k n
 rw[Zd (by room)]
 simp
theorem Q9P{α:Type}(xs:List α)(k:Nat):cut xs none (some (k:Int))=xs.take k:=by
 unfold cut;rw[cC,fB,drop_zero,sub_zero];rcases Nat.le_total k xs.length with h|h
 ·rw[min_eq_left h]
 ·rw[Nat.min_eq_right h,take_of_length_le (Zy _),take_of_length_le h]
theorem Q4X{α:Type}(xs:List α)(k:Nat):cut xs (some (k:Int)) none=xs.drop k:=by
 unfold cut;rw[cC,fB];rcases Nat.le_total k xs.length with h|h
 ·rw[min_eq_left h,take_of_length_le (by rw[length_drop];exact Zy _)]
 ·rw[Nat.min_eq_right h,drop_eq_nil_of_le (Zy _),drop_eq_nil_of_le h];simp
theorem c7{α:Type}(xs:List α)(k:Nat):b8 xs (k:Int)=xs[k]?:=by
 unfold b8 kh;by_cases h:k<xs.length
 ·simp[h]
 ·simp[h]
theorem Q0c(h:∀k:bL->DH->Prop,k=b7 T r DD->b7 T s {DD with nx:=k} ρ M):b7 T (.seq s r) DD ρ M:=h _ rfl
theorem Q3H(h:∀k:bL->DH->Prop,k=u DD->t {DD with nx:=k} ρ M):dSeq t u DD ρ M:=h _ rfl
theorem rN{Cd:DH->Prop}(I:Nat->bL->DH->Prop)(h0:I 0 ρ M)(hC:∀i ρ M,I i ρ M->Cd M)
  (hs:∀(i:Nat) (d:D) (ρ:bL) (M:DH) (k:bL->DH->Prop),items[i]?=some d->I i ρ M->(∀ρ' M',I (i+1) ρ' M'->k ρ' M')->g d ρ M λρ' M'=>tb {DD with nx:=k,ct:=k,bk:=DD.nx} ρ' M')
  (hd:∀ρ M,I items.length ρ M->DD.nx ρ M):kY g tb DD Cd items ρ M:=by
 have go:∀(n i:Nat) (ρ:bL) (M:DH),i+n=items.length->I i ρ M->kY g tb DD Cd (items.drop i) ρ M:=by
  intro n
  induction n with
  |zero=>
   intro i ρ M e h;have e':i=items.length:=by room
   subst e';rw[drop_eq_nil_of_le (Zy _)];exact⟨hC _ _ _ h,hd ρ M h⟩
  |succ n ih=>
   intro i ρ M e h;have hlt:i<items.length:=by room
   rw[Yp hlt];exact⟨hC _ _ _ h,hs i items[i] ρ M _ (Zx hlt) h λρ' M' h'=>ih (i+1) ρ' M' (by room) h'⟩
 have:=go items.length 0 ρ M (by room) h0
 simpa using this
theorem Q4Y(lo:Int)(n:Nat):(c5 lo n).length=n:=by simp[c5]
theorem Q4Z{lo:Int}{n i:Nat}{d:D}(h:(c5 lo n)[i]?=some d):i<n/\d=.int (lo+(i:Int)):=by
 unfold c5 at h;rw[ZB]at h;cases e:(List.range n)[i]? with
 |none=>rw[e]at h;cases h
 |some j=>
  rw[e]at h;obtain⟨h1,h2⟩:=Zq.mp e;rw[Yl]at h1;rw[List.getElem_range]at h2;subst h2;cases h;exact⟨h1,rfl⟩
theorem Q9h{g:kW}{tb:cU}{DD:jF}{Cd:DH->Prop}{lo:Int}{n:Nat}{ρ:bL}{M:DH}(I:Nat->bL->DH->Prop)(h0:I 0 ρ M)(hC:∀i ρ M,I i ρ M->Cd M)
  (hs:∀(i:Nat) (ρ:bL) (M:DH) (k:bL->DH->Prop),i<n->I i ρ M->(∀ρ' M',I (i+1) ρ' M'->k ρ' M')->g (.int (lo+(i:Int))) ρ M λρ' M'=>tb {DD with nx:=k,ct:=k,bk:=DD.nx} ρ' M')
  (hd:∀ρ M,I n ρ M->DD.nx ρ M):kY g tb DD Cd (c5 lo n) ρ M:=
 rN I h0 hC (λi d ρ M k e h hk=>by obtain⟨h1,rfl⟩:=Q4Z e;exact hs i ρ M k h1 h hk) (by rw[Q4Y];exact hd)
theorem nV{unp:D->Option (List D)}{Cd:DH->Prop}{Q:List D->DH->Prop}(I:Nat->List D->DH->Prop)(h0:I 0 ys M)(hC:∀i ys M,I i ys M->Cd M)
  (hs:∀(i:Nat) (d:D) (ys:List D) (M:DH) (k:List D->DH->Prop),items[i]?=some d->I i ys M->(∀ys' M',I (i+1) ys' M'->k ys' M')->match unp d with
   |some us=>tc (us.map some++fr) M λb M3=>if b=true then te (us.map some++fr) M3 λz M4=>ys.length<sizeLine/\k (ys++[z]) M4 else k ys M3
   |none=>False)
  (hd:∀ys M,I items.length ys M->Q ys M):gd fr unp tc te Cd Q items ys M:=by
 have go:∀(n i:Nat) (ys:List D) (M:DH),i+n=items.length->I i ys M->gd fr unp tc te Cd Q (items.drop i) ys M:=by
  intro n
  induction n with
  |zero=>
   intro i ys M e h;have e':i=items.length:=by room
   subst e';rw[drop_eq_nil_of_le (Zy _)];exact⟨hC _ _ _ h,hd ys M h⟩
  |succ n ih=>
   intro i ys M e h;have hlt:i<items.length:=by room
   rw[Yp hlt];exact⟨hC _ _ _ h,hs i items[i] ys M _ (Zx hlt) h λys' M' h'=>ih (i+1) ys' M' (by room) h'⟩
 have:=go items.length 0 ys M (by room) h0
 simpa using this
theorem Q3I{Cd:DH->Prop}{Q:List D->DH->Prop}(f:D->D)(hC:Cd M)(hl:items.length<=1000)
  (hs:∀(d:D) (k:D->DH->Prop),d∈items->k (f d) M->te (some d::fr) M k) (hd:Q (items.map f) M):gd fr (λd=>some [d]) zaW te Cd Q items [] M:=by
 refine nV (λi ys M'=>M'=M/\ys=(items.take i).map f) ⟨rfl,by simp⟩ (λi ys M' h=>by rw[h.1];exact hC) ?_ ?_
 ·rintro i d ys M' k e ⟨rfl,rfl⟩ hk;have hi:=(Zq.mp e).1;erw[zaW,if_true,Zu,map_nil,cons_append,nil_append];refine hs d _ (ZI e) ⟨aL (by rw[Ze,ZD];room),hk _ _ ⟨rfl,?_⟩⟩
  rw[take_add_one,e,ZA];rfl
 ·rintro ys M' ⟨rfl,rfl⟩;rw[Yh];exact hd
theorem gD(h0:0<=i)(h1:i<z.length)(hz:z.length<=1000)(h:∀c,z[i.toNat]?=some c->Q (.str [c]) M):bD (.str z) (.int i) M Q:=by
 obtain⟨k,rfl⟩:=Int.eq_ofNat_of_zero_le h0;show (match b8 z (k:Int) with|some c=>z.length<=sizeLine/\Q (.str [c]) M|none=>False)
 rw[c7,Zx (by room)]
 exact⟨le_of_lt (aL hz),h _ (Zx (by simpa using h1))⟩
theorem ix_tup(h0:0<=i)(h1:i<xs.length)(h:∀d,xs[i.toNat]?=some d->Q d M):bD (.tup xs) (.int i) M Q:=by
 obtain⟨k,rfl⟩:=Int.eq_ofNat_of_zero_le h0;show (match b8 xs (k:Int) with|some c=>Q c M|none=>False)
 rw[c7,Zx (by room)]
 exact h _ (Zx (by simpa using h1))
theorem au{xs:List D}{i:Int}{M:DH}{Q:DK}{d:D}(e:b8 xs i=some d)(h:Q d M):bD (.tup xs) (.int i) M Q:=by
 show (match b8 xs i with|some c=>Q c M|none=>False)
 rw[e];exact h
theorem cS{α:Type}{x:α}{xs:List α}:b8 (x::xs) 0=some x:=c7 (x::xs) 0
theorem il{xs:List D}{i:Int}{M:DH}{Q:DK}{d:D}(e:b8 xs i=some d)(h:Q d M):bD (.lst xs) (.int i) M Q:=by
 show (match b8 xs i with|some c=>Q c M|none=>False)
 rw[e];exact h
theorem Q9Q(h0:0<=i)(h1:i<xs.length)(h:∀d,xs[i.toNat]?=some d->Q d M):bD (.lst xs) (.int i) M Q:=by
 obtain⟨k,rfl⟩:=Int.eq_ofNat_of_zero_le h0;show (match b8 xs (k:Int) with|some c=>Q c M|none=>False)
 rw[c7,Zx (by room)]
 exact h _ (Zx (by simpa using h1))
theorem oQ(ws:List W):plain 12 (.tup (ws.map D.str))=true:=by
 show (ws.map D.str).all (plain 11)=true;rw[ZO];intro d hd;obtain⟨w,_,rfl⟩:=ZY.mp hd;rfl
theorem Q2f:∀{a b:List W},a.map D.str=b.map D.str->a=b
 |[],[],_=>rfl
 |[],_::_,h=>by cases h
 |_::_,[],h=>by cases h
 |x::a,y::b,h=>by
  rw[Zu,Zu,List.cons.injEq]at h;rw[D.str.inj h.1,Q2f h.2]
theorem Q5a(a b:List W):eqB (.tup (a.map D.str)) (.tup (b.map D.str))=decide (a=b):=by
 by_cases h:a=b
 ·rw[Z7 h,(gI _ _).mpr (by rw[h])]
 ·rw[Zt h,(nP _ _).mpr (λe=>h (Q2f (D.tup.inj e)))]
theorem aV{R:DK}{d:D}{M:DH}(h:R d M):∃M0,Sub M0 M/\R d M0:=⟨M,Sub.refl M,h⟩
@[elab_as_elim] theorem len1{α:Type}{P:List α->Prop}(us:List α)(h:us.length=1)(k:∀a,P [a]):P us:=by
 cases us with
 |nil=>cases h
 |cons a t=>cases t with
  |nil=>exact k a
  |cons b t=>cases h
@[elab_as_elim] theorem len2{α:Type}{P:List α->Prop}(us:List α)(h:us.length=2)(k:∀a b,P [a,b]):P us:=by
 cases us with
 |nil=>cases h
 |cons a t=>exact len1 t (Nat.succ.inj h) (k a)
@[elab_as_elim] theorem len3{α:Type}{P:List α->Prop}(us:List α)(h:us.length=3)(k:∀a b c,P [a,b,c]):P us:=by
 cases us with
 |nil=>cases h
 |cons a t=>exact len2 t (Nat.succ.inj h) (k a)
@[elab_as_elim] theorem len4{α:Type}{P:List α->Prop}(us:List α)(h:us.length=4)(k:∀a b c d,P [a,b,c,d]):P us:=by
 cases us with
 |nil=>cases h
 |cons a t=>exact len3 t (Nat.succ.inj h) (k a)
@[elab_as_elim] theorem len5{α:Type}{P:List α->Prop}(us:List α)(h:us.length=5)(k:∀a b c d e,P [a,b,c,d,e]):P us:=by
 cases us with
 |nil=>cases h
 |cons a t=>exact len4 t (Nat.succ.inj h) (k a)
open Lean in
local macro_rules | `(tactic| w_up) => do
 let xs : Array (TSyntax `term):=("IR.evS_nil IR.evS_seq IR.evS_set IR.evS_ret IR.evS_retn IR.evS_ite IR.evS_for1 IR.evS_ex IR.evS_bot IR.evS_whil IR.evS_setf IR.evS_dput IR.evS_nput IR.evS_faug IR.ev_var IR.ev_con IR.ev_glob IR.ev_bin IR.ev_cmp IR.ev_and IR.ev_or IR.ev_not IR.ev_neg IR.ev_ite IR.ev_ix IR.ev_sl IR.ev_tup IR.ev_lst IR.ev_lstz IR.ev_frz IR.ev_call IR.ev_blt IR.ev_isi IR.ev_ml IR.ev_fld IR.ev_meth IR.ev_make IR.ev_dnew IR.ev_disp1 IR.ev_dix IR.ev_dget2 IR.ev_dget1 IR.ev_dsetd IR.ev_knew IR.ev_nnew IR.ev_dispN IR.ev_bot IR.ev_make0 IR.ev_nix IR.ev_sortK IR.ev_kget2 IR.ev_ksetd IR.ev_dpop IR.ev_maket IR.ev_comp IR.ev_compz IR.ev_rng1 IR.ev_rev IR.ev_nil IR.ev_cons mkE dSeq zbW dRet dRetN dSet dIfS dAsg dFor dDrop dOp dSl dVar dC za2 dCB zc1 zaX dNil dTup dLst zbY zbA zb2 zbH zbU dB dAnd dOr dNot zbB dOrV dNotV dNeg dIf dIsI dML diAny zbh diRev dBot dXrow gone hP hA hS dIsE zbu zaH dFld zbz zb7 zc0 zbo rInD rInO rInN zbX zbn botE zbk zbt rNIx dNPut dFAug rDIx zbq zbr zbj zbi zbZ zbl zbV zbp dSetF dDPut zb1 zaW zbe Lit.d Bn.r Cp.r Bl.r Ml.r rLen zbO rSlD zbF rList zaT rAddD rI2 rLtD rEqN rIsN res rMin rMin1 rAddL rIn1 zaN mPop zbw isNon za3 Q6J CE.len Nat.sub_self List.drop_nil drop_zero append_nil map_cons map_nil cons_append nil_append List.getElem?_cons_zero List.getElem?_cons_succ List.getElem?_nil List.set_cons_zero List.set_cons_succ length_cons length_nil Nat.reduceAdd Nat.reduceSub List.replicate Option.getD if_true if_false false_eq_true Bool.not_true Bool.not_false id true_and and_true".splitOn " ").toArray.map λs=>⟨(mkIdent s.toName).raw⟩
 `(tactic| simp only [$[$xs:term],*])
open Lean in
local macro_rules|`(tactic|walk_at $s:str)=>do
 if !s.getString.startsWith "~" then Macro.throwUnsupported
 let tb:="a .cons 2 b .nil 0 c .seq 2 d .ix 2 e .tup 1 f .fld 3 g .set 2 h .ret 1 i .cmp 3 j .meth 3 k .ite 3 l .con 1 m false 0 n .lstz 1 o .call 2 p .glob 1 q .bin 3 r .setf 4 s .non 0 t .eq 0 u .ex 1 v .add 0 w .bl 1 x .blt 2 y .compz 5 z .frz 1 A .neg 1 B .bot 0 C .ne 0 D true 0 E .sl 3 F .ml 3 G .isN 0 H .nix 3 I .lst 1 J .dput 3 K .make 2 L .or 2 M .for1 3 N .append 0 O .whil 2 P .dnew 0 Q .and 2 R .notN 0 S .list 0 T .mod 0 U .len 0 V .inD 0 W .ninD 0 X .addL 0 Y .nput 4 Z .dix 2 !a .faug 4 !b .ninN 0 !c .maket 2 !d .not 1 !e .rng1 1 !f .disp1 2 !g .min1 0 !h .lt 0 !i .nnew 1 !j .rev 1 !k .pop 0 !l .extend 0 !m .mul 0 !n .comp 5 !o .dsetd 3 !p .sorted 0 !q .dget2 3 !r .inO 0 !s .dget1 2 !t .dict 0 !u .dpop 3 !v .kget2 3 !w .knew 0 !x .ksetd 3 !y .isi 2 !z .tuple 0 !A .inN 0 !B .sortK 3 !C .inn 0 !D .retn 0 !E .min 0 !F .le 0 !G .inP 0 !H .dispN 3 !I .make0 1 !J .str 1 !K .fdiv 0 !L .nin 0".splitOn " "
 let l:=s.getString.toList.tail!.foldl (init:=[""]) λts c=>
  let w:=ts.head!
  let h:=w.toList.headD ' '
  if c==' ' then ""::ts
  else if w=="" || ['%','\'','['].contains h || (h=='!' && w.length<2) || ((h.isDigit || ['&','#'].contains h) && c.isDigit) then w.push c::ts.tail!
  else c.toString::ts
 let st<-(l.filter (·!="")).foldlM (init:=([]:List (TSyntax `term))) λst w=>do
  let r:=w.toList.tail
  let q:=String.ofList r
  let nl:=λ(l:List String)=>do
   let a:=(l.map λx=>(⟨Syntax.mkNumLit x⟩:TSyntax `term)).toArray
   `([$a,*])
  match w.toList.head! with
  | '#'=>return(←`(.con (.int $(⟨Syntax.mkNumLit q⟩))))::st
  | '&'=>return(←`(.var $(⟨Syntax.mkNumLit q⟩)))::st
  | '%'=>return Syntax.mkStrLit q::st
  | '\''=>return(←`(.con (.str $(←nl (r.map λc=>toString c.toNat)))))::st
  | '['=>return(←nl (if q=="" then [] else q.splitOn ","))::st
  | c=>
   if c.isDigit then return⟨Syntax.mkNumLit w⟩::st
   let i:=tb.idxOf w
   let m:=(tb[i+2]!).toNat!
   let h:=tb[i+1]!
   let f<-if h.startsWith "." then `(.$(mkIdent (h.drop 1).toString.toName):ident) else pure ⟨(mkIdent h.toName).raw⟩
   return Syntax.mkApp f (st.take m).toArray::st.drop m
 `(tactic|exact $(st.head!))
noncomputable def b_aM:CS:=by walk_at "~chitE&0bxUa&1b&1b"
noncomputable def b_a4:CS:=by walk_at "~ch!nm[0 !eqvxUa&0b#1bE&1b&0b"
def sp_aM:aU:=λds M R=>∃a b:List W,ds=[dn a,dn b]/\R (.bl (decide (a.take b.length=b))) M
noncomputable def cZ(a:List W):List D:=(List.range (a.length+1)).map λk=>dn (a.take k)
def sp_a4:aU:=λds M R=>∃a:List W,ds=[dn a]/\a.length<=900/\∀p,M p=none->R (.ref p) (ae M p (.lst (cZ a)))
abbrev bp(T:Tab)(b:CS)(sp:aU)(ns:List Str):Prop:=∀ds M R,sp ds M R->b7 T b (za3 R) (za2 ns ds) M
section
variable{T:Tab}
theorem ok_aM:bp T b_aM sp_aM ["",""]:=by
 rintro ds M R ⟨a,b,rfl,h⟩;erw[b_aM,dn];w_up;rw[Q9P,Ze,<- map_take,Q5a];exact⟨oQ _,oQ _,aV h⟩
theorem ok_a4:bp T b_a4 sp_a4 [""]:=by
 rintro ds M R ⟨a,rfl,hl,h⟩;erw[b_a4,dn];w_up;rw[Ze];refine⟨by room,by room,?_⟩
 have e:((a.length:Int)+1).toNat=a.length+1:=by room
 rw[e];refine Q3I (λd=>match d with|.int i=>dn (a.take i.toNat)|d=>d) trivial (by rw[Q4Y];room) ?_ ?_
 ·intro d k hd hk;obtain⟨i,hi⟩:=List.mem_iff_getElem?.mp hd;obtain⟨h1,rfl⟩:=Q4Z hi;have e2:(0:Int)+(i:Int)=(i:Int):=by room
  rw[e2]at hk ⊢;w_up;rw[Q9P,<- map_take];have e4:(match D.int (i:Int) with|.int i=>dn (a.take i.toNat)|d=>d)=dn (a.take i):=by simp
  rw[e4]at hk;exact hk
 ·have e3:(c5 0 (a.length+1)).map (λd=>match d with|.int i=>dn (a.take i.toNat)|d=>d)=cZ a:=by
   unfold c5 cZ;rw[Yk];refine Ym λi _=>?_;simp
  rw[e3];refine⟨le_of_lt (aL (by unfold cZ;rw[Ze,Yl];room)),λp hp=>aV (h p hp)⟩
theorem lR{i j:Int}(h1:-1000000000000<=i)(h2:i<=1000000000000):iH i j:=.inl ⟨by room,by room⟩
end
theorem cL{α:Type}{xs:List α}(h:xs≠[]):b8 xs (-1)=xs[xs.length-1]?:=by
 have hl:0<xs.length:=List.length_pos_iff.mpr h;unfold b8 kh;rw[Zd (by room),Zg (by room)]
 show xs[((-1:Int)+(xs.length:Int)).toNat]?=_;congr 1;room
theorem Q2g{xs:List D}{M:DH}{Q:DK}{d:D}(e:xs[xs.length-1]?=some d)(h:Q d M):bD (.lst xs) (.int (-1)) M Q:=by
 show (match b8 xs (-1) with|some c=>Q c M|none=>False)
 rw[cL (by intro z;subst z;cases e),e]
 exact h
noncomputable def b_aQ:CS:=by walk_at "~chiV&1f%Page %standing &0b"
noncomputable def b_aI:CS:=by walk_at "~cM2Eo2a&1bqvxUaf%Page %top &0b#1bckiV&2f%Page %downs &0ch&2bbbchlsb"
noncomputable def b_ax:CS:=by walk_at "~cuFN!of%Page %rows &0d&1#0Iba&1bckitd&1#2p13cJf%Page %downs &0d&1#0&1bbcg2d&1#0cOiW&2f%Page %standing &0cJf%Page %standing &0&2lwDcg2E&2bA#1bb"
noncomputable def b_ao:CS:=by walk_at "~cr%Page %top &0d&1#0cr%Page %life &0d&1#1cr%Page %rows &0Pcr%Page %downs &0Pcr%Page %standing &0!fd&1#0lwDcM2d&1#2cuj301&0a&2bbb"
structure Rw where
 n:List W
 l:Int
 k:W
 v:D
noncomputable def Rw.d(r:Rw):D:=.tup [dn r.n,.int r.l,.str r.k,r.v]
noncomputable def zD(top:List W)(life:Int)(rows:List Rw):D:=.tup [dn top,.int life,.lst (rows.map Rw.d)]
noncomputable def df:W:=[100,111,119,110]
noncomputable def jO(top:List W)(life:Int)(r d s:Addr):List (Str×D):=[("top",dn top),("life",.int life),("rows",.ref r),("downs",.ref d),("standing",.ref s)]
theorem du{f:Str}{v:D}{fs:List (Str×D)}:List.lookup f ((f,v)::fs)=some v:=by rw[ZJ,beq_self_eq_true]
theorem aO{f g:Str}{v:D}{fs:List (Str×D)}(h:(f==g)=false):List.lookup f ((g,v)::fs)=fs.lookup f:=by rw[ZJ,h]
section
variable{top:List W}{life:Int}{r d s:Addr}
theorem Q7s:List.lookup ("top":Str) (jO top life r d s)=some (dn top):=du
theorem Q2y:List.lookup ("life":Str) (jO top life r d s)=some (D.int life):=(aO (by kd_p)).trans du
theorem Q1E:List.lookup ("rows":Str) (jO top life r d s)=some (D.ref r):=(aO (by kd_p)).trans ((aO (by kd_p)).trans du)
theorem Q1n:List.lookup ("downs":Str) (jO top life r d s)=some (D.ref d):=(aO (by kd_p)).trans ((aO (by kd_p)).trans ((aO (by kd_p)).trans du))
theorem Q0M:List.lookup ("standing":Str) (jO top life r d s)=some (D.ref s):=(aO (by kd_p)).trans ((aO (by kd_p)).trans ((aO (by kd_p)).trans ((aO (by kd_p)).trans du)))
theorem oK{m:Str}(h1:(m == "top")=false:=by kd_p)(h2:(m == "life")=false:=by kd_p)(h3:(m == "rows")=false:=by kd_p)(h4:(m == "downs")=false:=by kd_p)(h5:(m == "standing")=false:=by kd_p):List.lookup m (jO top life r d s)=none:=
 (aO h1).trans ((aO h2).trans ((aO h3).trans ((aO h4).trans ((aO h5).trans rfl))))
end
theorem iN:∀{fs:List (Str×D)},f∉fs.map (·.1)->bq f v fs=fs++[(f,v)]
 |[],_=>rfl
 |(g,x)::r,h=>by
  rw[Zu,Zf,not_or]at h;show (if g=f then (g,v)::r else (g,x)::bq f v r)=_
  rw[Zd (λe=>h.1 e.symm),iN h.2];rfl
noncomputable def bG(rows:List Rw)(n:List W):List Rw:=rows.filter λx=>decide (x.n=n)
structure bS(M0 M:DH)(r:Addr)(kr:List (List W×D))(rows:List Rw):Prop where
 m:M r=some (.ah (.aK kr))
 f:M0 r=none
 l:kr.length<=rows.length
 v:∀n v,aw kr n=some v->∃l,v=.ref l/\M l=some (.lst ((bG rows n).map Rw.d))/\M0 l=none
 i:∀n n' l,aw kr n=some (.ref l)->aw kr n'=some (.ref l)->n=n'
 no:∀n,aw kr n=none->bG rows n=[]
 yes:∀n,bG rows n=[]->aw kr n=none
noncomputable def fM(rows:List Rw)(n:List W):Option D:=((rows.filter λx=>decide (x.k=df/\x.n=n)).getLast?).map Rw.d
theorem Q3J(h:(kvs.map (·.1)).Nodup):((putD kvs k v).map (·.1)).Nodup:=by
 unfold putD;split
 ·rw[Yk,show ((·.1) ∘ λkv:List W×D=>if kv.1=k then (kv.1,v) else kv)=(·.1) from funext λkv=>by show (if kv.1=k then (kv.1,v) else kv).1=kv.1;split<;>rfl]
  exact h
 ·next e=>
  rw[ZA,nodup_append];refine⟨h,List.pairwise_singleton _ _,λa ha b hb z=>e ?_⟩;obtain⟨q,hq,rfl⟩:=ZY.mp ha;rw[any_eq_true];exact⟨q,hq,Z7 (z.trans (Zh.mp hb))⟩
structure eA(M0 M:DH)(d:Addr)(kd:List (List W×D))(rows:List Rw):Prop where
 m:M d=some (.ah (.aK kd))
 f:M0 d=none
 l:kd.length<=rows.length
 v:∀n,aw kd n=fM rows n
 u:(kd.map (·.1)).Nodup
structure d9(M0 M:DH)(s:Addr)(ks:List (List W×D))(S:List W->Prop)(k:Nat):Prop where
 m:M s=some (.ah (.aK ks))
 f:M0 s=none
 l:ks.length<=k
 v:∀n,(aw ks n).isSome=true <-> S n
def Std(top:List W)(rows:List Rw)(n:List W):Prop:=n=top\/(top.length<n.length/\∃x∈rows,x.n.take n.length=n)
section
variable{M0 M:DH}{r d s q:Addr}{kr kd ks:List (List W×D)}{rows:List Rw}{o:MO}{S:List W->Prop}{k:Nat}
theorem bS.upd(h:bS M0 M r kr rows)(hq:q≠r)(hl:∀n l,aw kr n=some (.ref l)->l≠q):bS M0 (ae M q o) r kr rows:=
 {h with
  m:=by rw[ag hq.symm];exact h.m
  v:=λn v e=>by
   obtain⟨l,rfl,h1,h2⟩:=h.v n v e;exact⟨l,rfl,by rw[ag (hl n l e)];exact h1,h2⟩}
theorem bS.new(h:bS M0 M r kr rows)(hq:M q=none):bS M0 (ae M q o) r kr rows:=
 h.upd (aZ h.m hq).symm λn l e=>by
  obtain⟨l',e',h1,_⟩:=h.v n _ e;cases e';exact aZ h1 hq
theorem bS.ah(h:bS M0 M r kr rows)(hr:q≠r)(hq:M q=some (.ah u)):bS M0 (ae M q o) r kr rows:=
 h.upd hr λn l e z=>by
  obtain⟨l',e',h1,_⟩:=h.v n _ e;cases e';rw[z,hq]at h1;cases h1
theorem eA.upd(h:eA M0 M d kd rows)(hq:q≠d):eA M0 (ae M q o) d kd rows:={h with m:=by rw[ag hq.symm];exact h.m}
theorem d9.upd(h:d9 M0 M s ks S k)(hq:q≠s):d9 M0 (ae M q o) s ks S k:={h with m:=by rw[ag hq.symm];exact h.m}
end
structure PG(M0 M:DH)(p r d s:Addr)(top:List W)(life:Int)(kr kd ks:List (List W×D))(rr rd:List Rw)(S:List W->Prop)(k:Nat):Prop where
 ob:M p=some (.ah (.ins "Page" (jO top life r d s)))
 fp:M0 p=none
 sub:Sub M0 M
 ne1:r≠d
 ne2:r≠s
 ne3:d≠s
 hR:bS M0 M r kr rr
 hD:eA M0 M d kd rd
 hS:d9 M0 M s ks S k
def Page(M0 M:DH)(p:Addr)(top:List W)(life:Int)(rows:List Rw):Prop:=∃r d s kr kd ks,PG M0 M p r d s top life kr kd ks rows rows (Std top rows) (1+21 * rows.length)
section
variable{M0 M:DH}{p r d s q:Addr}{top:List W}{life:Int}{kr kd ks:List (List W×D)}{rr rd:List Rw}{o:MO}{S:List W->Prop}{k:Nat}
theorem PG.new(h:PG M0 M p r d s top life kr kd ks rr rd S k)(hq:M q=none):PG M0 (ae M q o) p r d s top life kr kd ks rr rd S k:=
 {h with
  ob:=by rw[ag (aZ h.ob hq)];exact h.ob
  sub:=h.sub.put (h.sub.none hq)
  hR:=h.hR.new hq
  hD:=h.hD.upd (aZ h.hD.m hq).symm
  hS:=h.hS.upd (aZ h.hS.m hq).symm}
theorem gX(h:M a=some u)(h':M b=some v)(e:u≠v):a≠b:=λz=>by
 subst z;rw[h]at h';exact e (Z3 h')
end
theorem mr:bG (rows++[x]) n=if x.n=n then bG rows n++[x] else bG rows n:=by
 unfold bG;rw[filter_append];by_cases e:x.n=n
 ·rw[Zg e,filter_cons,Zg (by simp[e])];rfl
 ·rw[Zd e,filter_cons,Zd (by simp[e])];simp
theorem Q2z:fM (rows++[x]) n=if x.k=df/\x.n=n then some x.d else fM rows n:=by
 unfold fM;rw[filter_append];by_cases e:x.k=df/\x.n=n
 ·rw[Zg e,filter_cons,Zg (by simp[e]),filter_nil,List.getLast?_append];rfl
 ·rw[Zd e,filter_cons,Zd (by erw[Zo];exact e)];simp
theorem Q5b{α:Type}(xs:List α):cut xs none (some (-1))=xs.take (xs.length-1):=by
 unfold cut;have e:HT.aT xs.length xs.length (some (-1))=xs.length-1:=by
  show (if ((-1:Int)<0) then ((-1:Int)+(xs.length:Int)).toNat else min (-1:Int).toNat xs.length)=_
  rw[Zg (by decide)]
  room
 rw[cC,e,drop_zero,sub_zero]
structure oT(top:List W)(x:Rw):Prop where
 le:x.n.length<=20
 at_:x.n.take top.length=top
def sp_ax:aU:=λds M R=>∃(p:Addr) (x:Rw) (M0:DH) (top:List W) (life:Int) (rows:List Rw),ds=[.ref p,x.d]/\Page M0 M p top life rows/\oT top x/\rows.length<=1000/\∀M',Page M0 M' p top life (rows++[x])->R .non M'
def sp_ao:aU:=λds M R=>∃(p:Addr) (M0:DH) (top:List W) (life:Int) (rows:List Rw),ds=[.ref p,zD top life rows]/\M p=some (.ah (.ins "Page" []))/\M0 p=none/\Sub M0 M/\rows.length<=1000/\(∀x∈rows,oT top x)/\∀M',Page M0 M' p top life rows->R .non M'
noncomputable def bR(top:List W)(rows:List Rw)(n:List W):Option (List W):=(((List.range (n.length+1)).drop (top.length+1)).map λk=>n.take k).find? λm=>(fM rows m).isSome
noncomputable def cutD(top:List W)(rows:List Rw)(n:List W):D:=match bR top rows n with
 |some m=>dn m
 |none=>.non
def sp_aI:aU:=λds M R=>∃(p:Addr) (n:List W) (M0:DH) (top:List W) (life:Int) (rows:List Rw),ds=[.ref p,dn n]/\Page M0 M p top life rows/\n.length<=900/\R (cutD top rows n) M
def sp_aQ:aU:=λds M R=>∃(p:Addr) (n:List W) (M0:DH) (top:List W) (life:Int) (rows:List Rw),ds=[.ref p,dn n]/\Page M0 M p top life rows/\∀b,(b=true <-> Std top rows n)->R (.bl b) M
section
variable{M0 M:DH}{p r d s:Addr}{top:List W}{life:Int}{kr kd ks:List (List W×D)}{rr rd:List Rw}{S:List W->Prop}{k:Nat}
theorem PG.grow(h:PG M0 M p r d s top life kr kd ks rr rd S k)(e:aw kr x.n=some (.ref l)):PG M0 (ae M l (.lst ((bG rr x.n).map Rw.d++[x.d]))) p r d s top life kr kd ks (rr++[x]) rd S k:=by
 obtain⟨l',e',h1,h2⟩:=h.hR.v _ _ e;cases e';have np:p≠l:=gX h.ob h1 (λz=>nomatch z)
 have nr:r≠l:=gX h.hR.m h1 (λz=>nomatch z)
 have nd:d≠l:=gX h.hD.m h1 (λz=>nomatch z)
 have ns:s≠l:=gX h.hS.m h1 (λz=>nomatch z)
 exact {h with
  ob:=by rw[ag np];exact h.ob
  sub:=h.sub.put h2
  hD:=h.hD.upd nd.symm
  hS:=h.hS.upd ns.symm
  hR:={ m:=by rw[ag nr];exact h.hR.m
        f:=h.hR.f
        l:=by rw[Zp];exact ZF h.hR.l (Nat.le_add_right _ _)
        i:=h.hR.i
        v:=λn v ev=>by
         obtain⟨l',rfl,g1,g2⟩:=h.hR.v n v ev;by_cases hn:x.n=n
         ·subst hn;rw[e]at ev;cases ev;exact⟨l,rfl,by rw[aq,mr,Zg rfl,ZA];rfl,h2⟩
         ·have hl:l'≠l:=λz=>hn (by subst z;exact h.hR.i _ _ _ e ev)
          exact⟨l',rfl,by rw[ag hl,mr,Zd hn];exact g1,g2⟩
        no:=λn en=>by
         rw[mr];by_cases hn:x.n=n
         ·subst hn;rw[e]at en;cases en
         ·rw[Zd hn];exact h.hR.no n en
        yes:=λn en=>by
         rw[mr]at en;by_cases hn:x.n=n
         ·rw[Zg hn]at en;simp at en
         ·rw[Zd hn]at en;exact h.hR.yes n en}}
theorem PG.fresh(h:PG M0 M p r d s top life kr kd ks rr rd S k)(hq:M q=none)(e:aw kr x.n=none) :
  PG M0 (ae (ae (ae M q (.lst [])) r (.ah (.aK (putD kr x.n (.ref q))))) q (.lst [x.d])) p r d s top life (putD kr x.n (.ref q)) kd ks (rr++[x]) rd S k:=by
 have np:p≠q:=aZ h.ob hq;have nr:r≠q:=aZ h.hR.m hq;have nd:d≠q:=aZ h.hD.m hq;have ns:s≠q:=aZ h.hS.m hq;have pr:p≠r:=gX h.ob h.hR.m (λz=>nomatch z)
 have fq:M0 q=none:=h.sub.none hq;exact {h with
  ob:=by rw[ag np,ag pr,ag np];exact h.ob
  sub:=((h.sub.put fq).put h.hR.f).put fq
  hD:=((h.hD.upd nd.symm).upd h.ne1).upd nd.symm
  hS:=((h.hS.upd ns.symm).upd h.ne2).upd ns.symm
  hR:={ m:=by rw[ag nr,aq]
        f:=h.hR.f
        l:=by
         have h1:=oR kr x.n (.ref q);have h2:=h.hR.l;rw[Zp];show _<=rr.length+1;room
        i:=λn n' l e1 e2=>by
         rw[iA]at e1 e2;have old:∀n,aw kr n=some (.ref q)->False:=λn z=>by
          obtain⟨l',e',h1,_⟩:=h.hR.v n _ z;cases e';rw[hq]at h1;cases h1
         by_cases a:n=x.n<;>by_cases b:n'=x.n
         ·rw[a,b]
         ·rw[Zg a]at e1;rw[Zd b]at e2;cases e1;exact (old _ e2).elim
         ·rw[Zd a]at e1;rw[Zg b]at e2;cases e2;exact (old _ e1).elim
         ·rw[Zd a]at e1;rw[Zd b]at e2;exact h.hR.i _ _ _ e1 e2
        v:=λn v ev=>by
         rw[iA]at ev;by_cases a:n=x.n
         ·rw[Zg a]at ev;cases ev;exact⟨q,rfl,by rw[aq,a,mr,Zg rfl,h.hR.no _ e];rfl,fq⟩
         ·rw[Zd a]at ev;obtain⟨l,rfl,g1,g2⟩:=h.hR.v n v ev;have lq:l≠q:=aZ g1 hq;have lr:l≠r:=gX g1 h.hR.m (λz=>nomatch z)
          exact⟨l,rfl,by rw[ag lq,ag lr,ag lq,mr,Zd (λz=>a z.symm)];exact g1,g2⟩
        no:=λn en=>by
         rw[iA]at en;by_cases a:n=x.n
         ·rw[Zg a]at en;cases en
         ·rw[Zd a]at en;rw[mr,Zd (λz=>a z.symm)];exact h.hR.no n en
        yes:=λn en=>by
         rw[mr]at en;by_cases a:n=x.n
         ·rw[Zg a.symm]at en;simp at en
         ·rw[Zd (λz=>a z.symm)]at en;rw[iA,Zd a];exact h.hR.yes n en}}
theorem PG.down(h:PG M0 M p r d s top life kr kd ks rr rd S k)(hx:x.k=df):PG M0 (ae M d (.ah (.aK (putD kd x.n x.d)))) p r d s top life kr (putD kd x.n x.d) ks rr (rd++[x]) S k:=by
 have pd:p≠d:=gX h.ob h.hD.m (λz=>nomatch z)
 exact {h with
  ob:=by rw[ag pd];exact h.ob
  sub:=h.sub.put h.hD.f
  hR:=h.hR.ah h.ne1.symm h.hD.m
  hS:=h.hS.upd h.ne3
  hD:={ m:=aq
        u:=Q3J h.hD.u
        f:=h.hD.f
        l:=by
         have h1:=oR kd x.n x.d;have h2:=h.hD.l;rw[Zp];show _<=rd.length+1;room
        v:=λn=>by
         rw[iA,Q2z,h.hD.v];by_cases a:n=x.n
         ·rw[Zg a,Zg ⟨hx,a.symm⟩]
         ·rw[Zd a,Zd (λz=>a z.2.symm)]}}
theorem PG.m7(h:PG M0 M p r d s top life kr kd ks rr rd S k)(hx:¬ x.k=df):PG M0 M p r d s top life kr kd ks rr (rd++[x]) S k:=
 {h with
  hD:={ h.hD with
        l:=by rw[Zp];exact ZF h.hD.l (Nat.le_add_right _ _)
        v:=λn=>by rw[Q2z,Zd (λz=>hx z.1)];exact h.hD.v n}}
theorem PG.pQ(h:PG M0 M p r d s top life kr kd ks rr rd S k)(m:List W):PG M0 (ae M s (.ah (.aK (putD ks m (.bl true))))) p r d s top life kr kd (putD ks m (.bl true)) rr rd (λn=>n=m\/S n) (k+1):=by
 have ps:p≠s:=gX h.ob h.hS.m (λz=>nomatch z)
 exact {h with
  ob:=by rw[ag ps];exact h.ob
  sub:=h.sub.put h.hS.f
  hR:=h.hR.ah h.ne2.symm h.hS.m
  hD:=h.hD.upd h.ne3.symm
  hS:={ m:=aq
        f:=h.hS.f
        l:=by
         have h1:=oR ks m (.bl true);have h2:=h.hS.l;room
        v:=λn=>by
         rw[iA];by_cases a:n=m
         ·rw[Zg a];simp[a]
         ·rw[Zd a,h.hS.v];simp[a]}}
theorem PG.same(h:PG M0 M p r d s top life kr kd ks rr rd S k){S':List W->Prop}(e:∀n,S n <-> S' n)(hk:k<=k'):PG M0 M p r d s top life kr kd ks rr rd S' k':=
 {h with hS:={h.hS with l:=ZF h.hS.l hk,v:=λn=>(h.hS.v n).trans (e n)}}
end
theorem Q3K(w:W):plain 12 (.str w)=true:=rfl
theorem Q9i(hx:oT top x)(hj:top.length<=j)(hjx:j<=x.n.length)(hs:Std top rows (x.n.take j))(n:List W) :
  (Std top rows n\/∃i,j<i/\i<=x.n.length/\n=x.n.take i) <-> Std top (rows++[x]) n:=by
 constructor
 ·rintro (h|⟨i,h1,h2,rfl⟩)
  ·rcases h with h|⟨h1,y,hy,h2⟩
   ·exact .inl h
   ·exact .inr ⟨h1,y,Z5 _ hy,h2⟩
  ·have e:(x.n.take i).length=i:=by rw[ZD];room
   exact .inr ⟨by rw[e];room,x,Zl _ (Zh.mpr rfl),by rw[e]⟩
 ·rintro (h|⟨h1,y,hy,h2⟩)
  ·exact .inl (.inl h)
  ·rcases Z1.mp hy with hy|hy
   ·exact .inl (.inr ⟨h1,y,hy,h2⟩)
   ·rw[Zh.mp hy]at h2;have hl:n.length<=x.n.length:=by rw[<- h2,ZD];room
    by_cases hi:j<n.length
    ·exact .inr ⟨n.length,hi,hl,h2.symm⟩
    ·left;have e:(x.n.take j).take n.length=n:=by rw[take_take,show min n.length j=n.length by room];exact h2
     have ej:(x.n.take j).length=j:=by rw[ZD];room
     rcases hs with hs|⟨g1,z,hz,g2⟩
     ·rw[hs]at ej;room
     ·refine .inr ⟨h1,z,hz,?_⟩;rw[ej]at g2;rw[<- g2,take_take,show min n.length j=n.length by room]at e
      exact e
theorem ok_ax(T:Tab)(h13:T.con 13=some (("DOWN":Str),D.str [100,111,119,110])):bp T b_ax sp_ax ["","",""]:=by
 rintro ds M R ⟨p,x,M0,top,life,rows,rfl,⟨r,d,s,kr,kd,ks,G⟩,hx,hn,h⟩;erw[b_ax,Rw.d];walk_at "q0";refine⟨p,_,_,rfl,G.ob,Q1E,r,kr,rfl,G.hR.m,?_⟩;refine au rfl ?_;refine⟨by simp[ZX],λq hq=>?_⟩
 have nr:r≠q:=aZ G.hR.m hq;have kl:kr.length<sizeLine:=by have:=G.hR.l;rw[ZX];room
 -- behind it
 have step2:∀M1 kr1,PG M0 M1 p r d s top life kr1 kd ks (rows++[x]) rows (Std top rows) (1+21 * rows.length)->k1 [some (.ref p),some x.d,none] M1:=by
  intro M1 kr1 G1;rw[e1];clear e1;refine Q0c λk2 e2=>?_
  -- what follows the if
  have step3:∀M2 kd2,PG M0 M2 p r d s top life kr1 kd2 ks (rows++[x]) (rows++[x]) (Std top rows) (1+21 * rows.length)->k2 [some (.ref p),some x.d,none] M2:=by
   intro M2 kd2 G2;rw[e2];clear e2;refine Q0c λk3 e3=>?_;w_up;refine au rfl ?_;rw[e3];clear e3;refine Q0c λk4 e4=>?_;show jR _ _ _ _ _;refine⟨λj ρ M'=>∃ks',top.length<=j/\j<=x.n.length/\ρ=[some (.ref p),some x.d,some (dn (x.n.take j))] /\
    PG M0 M' p r d s top life kr1 kd2 ks' (rows++[x]) (rows++[x]) (λn=>Std top rows n\/∃i,j<i/\i<=x.n.length/\n=x.n.take i) (1+21 * rows.length+(x.n.length-j)),⟨x.n.length,ks,?_⟩,?_⟩
   ·have hl:top.length<=x.n.length:=by rw[<- hx.at_,ZD];room
    refine⟨hl,Zy _,by rw[Yh],G2.same (λn=>⟨λa=>.inl a,?_⟩) (by room)⟩
    rintro (a|⟨i,h1,h2,_⟩)
    ·exact a
    ·room
   ·rintro j ρ M' ⟨ks',hj1,hj2,rfl,G3⟩;have ej:(x.n.take j).length=j:=by rw[ZD];room
    w_up;refine⟨p,_,_,rfl,G3.ob,Q0M,x.n.take j,s,ks',rfl,rfl,G3.hS.m,?_⟩;cases c:(aw ks' (x.n.take j)).isSome with
    |true=>
     refine br ?_;rw[e4];w_up;have st:Std top rows (x.n.take j):=by
      rcases (G3.hS.v _).mp c with a|⟨i,h1,h2,h3⟩
      ·exact a
      ·have:=congrArg List.length h3;rw[ej,ZD]at this;room
     refine aV (h M' ⟨r,d,s,kr1,kd2,ks',G3.same (Q9i hx hj1 hj2 st) ?_⟩);have:=hx.le;rw[Zp];show _<=1+21 * (rows.length+1);room
    |false=>
     refine bj ⟨_,λρ' M'' q=>q,?_⟩;have hjt:top.length<j:=by
      rcases lt_or_ge top.length j with a|a
      ·exact a
      ·have ej':j=top.length:=by room
       have:(aw ks' (x.n.take j)).isSome=true:=(G3.hS.v _).mpr (.inl (.inl (by rw[ej'];exact hx.at_)))
       rw[c]at this;cases this
     refine⟨p,_,_,rfl,G3.ob,Q0M,s,x.n.take j,ks',rfl,rfl,G3.hS.m,?_,?_⟩
     ·have:=G3.hS.l;have:=hx.le;rw[ZX];room
     ·erw[dn];rw[Q5b,Ze,ej,<- map_take,take_take,show min (j-1) j=j-1 by room]
      refine⟨j-1,by room,putD ks' (x.n.take j) (.bl true),by room,by room,rfl,(G3.pQ (x.n.take j)).same (λn=>?_) (by room)⟩
      constructor
      ·rintro (a|a|⟨i,g1,g2,g3⟩)
       ·exact .inr ⟨j,by room,hj2,a⟩
       ·exact .inl a
       ·exact .inr ⟨i,by room,g2,g3⟩
      ·rintro (a|⟨i,g1,g2,g3⟩)
       ·exact .inr (.inl a)
       ·by_cases hi:i=j
        ·exact .inl (by rw[g3,hi])
        ·exact .inr (.inr ⟨i,by room,g2,g3⟩)
  w_up;refine au rfl ?_;erw[h13];w_up;refine⟨Q3K _,Q3K _,aI (λc=>?_) λc=>?_⟩
  ·rw[Zo]at c;refine⟨p,_,_,rfl,G1.ob,Q1n,?_⟩;refine au rfl ?_;refine⟨d,x.n,kd,rfl,rfl,G1.hD.m,by have:=G1.hD.l;rw[ZX];room,?_⟩
   exact step3 _ _ (G1.down c)
  ·rw[Zo]at c;exact step3 _ _ (G1.m7 c)
 refine⟨x.n,kr,rfl,by rw[ag nr];exact G.hR.m,kl,λv hv=>?_,λhv=>?_⟩
 ·obtain⟨l,rfl,g1,g2⟩:=G.hR.v _ _ hv;have lq:l≠q:=aZ g1 hq;have hM:ae M q (.lst []) l=some (.lst ((bG rows x.n).map Rw.d)):=by rw[ag lq];exact g1
  erw[hM]
  try w_up
  try simp only[hM]
  refine⟨?_,step2 _ _ ((G.new hq).grow hv)⟩;rw[Ze];have:(bG rows x.n).length<=rows.length:=ZS _ _;rw[ZX];room
 ·have hM:ae (ae M q (.lst [])) r (.ah (.aK (putD kr x.n (.ref q)))) q=some (.lst []):=by rw[ag nr.symm,aq]
  erw[hM]
  try w_up
  try simp only[hM]
  exact⟨by simp[ZX],step2 _ _ (G.fresh hq hv)⟩
theorem ok_ao(T:Tab)(h301:T.mt 301=some ⟨"Page","lay",1,sp_ax⟩):bp T b_ao sp_ao ["","",""]:=by
 rintro ds M R ⟨p,M0,top,life,rows,rfl,hp,fp,sub,hn,hr,h⟩;erw[b_ao,zD];walk_at "q0";refine au rfl ?_;refine⟨p,[],rfl,hp,by simp,?_⟩
 walk_at "q1";refine au rfl ?_;refine⟨p,_,rfl,aq,by simp[bq],?_⟩
 rw[kI,iN (fs:=[]) (by simp),iN (by show ("life":Str)∉[("top":Str)];decide +kernel)]
 walk_at "q1";intro r nr;have pr:p≠r:=aZ aq nr;refine⟨p,_,rfl,by rw[ag pr,aq],by simp,?_⟩
 rw[iN (by show ("rows":Str)∉[("top":Str),"life"];decide +kernel)]
 walk_at "q1";intro d nd;have pd:p≠d:=aZ aq nd;rw[ag pd.symm]at nd;have rd:r≠d:=aZ aq nd;refine⟨p,_,rfl,by rw[ag pd,aq],by simp,?_⟩
 rw[iN (by show ("downs":Str)∉[("top":Str),"life","rows"];decide +kernel)]
 walk_at "q1";intro s ns;have ps:p≠s:=aZ aq ns;rw[ag ps.symm]at ns;have ds:d≠s:=aZ aq ns;rw[ag ds.symm,ag ps.symm]at ns;have rs:r≠s:=aZ aq ns;rw[ag rs.symm,ag ps.symm]at ns;refine au rfl ?_;refine⟨top,rfl,aq,p,_,rfl,by rw[ag ps,ag ps,aq],by simp,?_⟩
 rw[iN (by show ("standing":Str)∉[("top":Str),"life","rows","downs"];decide +kernel)]
 rw[e1];clear e1;rw[ag rd.symm,ag pd.symm]at nd;rw[ag pr.symm]at nr;have f1:M0 r=none:=sub.none nr;have f2:M0 d=none:=sub.none nd;have f3:M0 s=none:=sub.none ns
 -- what is made
 generalize hM1:ae _ p _=M1;have G:PG M0 M1 p r d s top life [] [] [(top,.bl true)] [] [] (Std top []) (1+21 * ([]:List Rw).length):=by
  subst hM1;refine⟨aq,fp,?_,rd,rs,ds,⟨?_,f1,by simp,λn v e=>(nomatch e),λn n' l e=>(nomatch e),λn _=>rfl,λn _=>rfl⟩,⟨?_,f2,by simp,λn=>rfl,.nil⟩,⟨?_,f3,by simp,λn=>?_⟩⟩
  ·exact ((((((((sub.put fp).put f1).put fp).put f2).put fp).put f3).put f3).put fp)
  ·rw[ag pr.symm,ag rs,ag rs,ag pr.symm,ag rd,ag pr.symm,aq]
  ·rw[ag pd.symm,ag ds,ag ds,ag pd.symm,aq]
  ·rw[ag ps.symm,aq]
  ·unfold Std;by_cases e:top=n
   ·rw[gK e];simp[e]
   ·rw[gJ e];constructor
    ·intro z;cases z
    ·rintro (z|⟨_,x,hx,_⟩)
     ·exact absurd z.symm e
     ·cases hx
 clear hM1;walk_at "q0";refine au rfl ?_;refine rN (λi ρ M'=>Page M0 M' p top life (rows.take i)/\∃v,ρ=[some (.ref p),some (zD top life rows),v]) ⟨⟨r,d,s,[],[],_,G⟩,none,rfl⟩ (λ_ _ _ _=>trivial) ?_ ?_
 ·rintro i d0 ρ M' k hi ⟨Pg,v,rfl⟩ hk;rw[ZB]at hi;cases ei:rows[i]? with
  |none=>rw[ei]at hi;cases hi
  |some x=>
   rw[ei]at hi;cases hi;have hil:=(Zq.mp ei).1;w_up;erw[h301];w_up;obtain⟨r',d',s',kr',kd',ks',G'⟩:=id Pg;refine⟨p,_,rfl,G'.ob,oK,?_⟩;refine⟨p,x,M0,top,life,rows.take i,rfl,Pg,hr x (ZI ei),by rw[ZD];room,λM'' Pg'=>hk _ _ ⟨?_,_,rfl⟩⟩
   rw[take_add_one,ei];exact Pg'
 ·rintro ρ M' ⟨Pg,v,rfl⟩;rw[Ze,Yh]at Pg;rw[e1];w_up;exact aV (h M' Pg)
theorem ok_aQ:bp T b_aQ sp_aQ ["",""]:=by
 rintro ds M R ⟨p,n,M0,top,life,rows,rfl,⟨r,d,s,kr,kd,ks,G⟩,h⟩;erw[b_aQ];w_up;exact⟨p,_,_,rfl,G.ob,Q0M,n,s,ks,rfl,rfl,G.hS.m,aV (h _ (G.hS.v n))⟩
theorem ok_aI(T:Tab)(h2:T.fn 2=some ⟨"above",1,[],sp_a4⟩):bp T b_aI sp_aI ["","",""]:=by
 rintro ds M R ⟨p,n,M0,top,life,rows,rfl,⟨r,d,s,kr,kd,ks,G⟩,hl,h⟩;erw[b_aI];walk_at "q0";erw[h2];w_up;refine⟨n,rfl,hl,λa ha=>?_⟩;have G1:=G.new (o:=.lst (cZ n)) ha;refine⟨p,_,_,rfl,G1.ob,Q7s,?_⟩;w_up;erw[aq];intro q hq;have qa:q≠a:=(aZ aq hq).symm;have el:(((top.map D.str).length:Int)+1)=((top.length+1:Nat):Int):=by rw[Ze];room
 unfold dn;rw[el,Q4X];have G2:=G1.new (o:=.lst ((cZ n).drop (top.length+1))) hq
 try simp only[aq]
 have ea:(cZ n).drop (top.length+1)=(((List.range (n.length+1)).drop (top.length+1)).map λk=>n.take k).map dn:=by
  unfold cZ;rw[<- List.map_drop,Yk];rfl
 rw[ea];rw[ea]at G2;generalize hL:((List.range (n.length+1)).drop (top.length+1)).map (λk=>n.take k)=L at *;generalize hM2:ae (ae M a _) q _=M2 at *;have hcd:M2 q=some (.lst (L.map dn)):=by rw[<- hM2,aq]
 have hsub:Sub M M2:=by rw[<- hM2];exact (Sub.new ha).put (by rw[ag qa]at hq;exact hq)
 have hcut:∀(i:Nat) (m:List W),L[i]?=some m->(∀(j:Nat) (y:List W),j<i->L[j]?=some y->(fM rows y).isSome=false)->(fM rows m).isSome=true->bR top rows n=some m:=by
  intro i m hi hb hm;unfold bR;rw[hL];obtain⟨h1,h2⟩:=Zq.mp hi;exact List.find?_eq_some_iff_getElem.mpr ⟨hm,i,h1,h2,λj hj=>by rw[hb j _ hj (Zx _)];rfl⟩
 refine rN (λi ρ M'=>M'=M2/\(∃v,ρ=[some (.ref p),some (dn n),v])/\∀(j:Nat) (y:List W),j<i->L[j]?=some y->(fM rows y).isSome=false) ⟨rfl,⟨none,rfl⟩,λj y hj=>absurd hj (Nat.not_lt_zero j)⟩ (λi ρ M' h=>by rw[h.1];exact hcd) ?_ ?_
 ·rintro i d0 ρ M' k hi ⟨rfl,⟨v,rfl⟩,hb⟩ hk;rw[ZB]at hi;cases ei:L[i]? with
  |none=>rw[ei]at hi;cases hi
  |some m=>
   rw[ei]at hi;cases hi;w_up;refine⟨p,_,_,rfl,G2.ob,Q1n,m,d,kd,rfl,rfl,G2.hD.m,?_⟩;rw[G2.hD.v];cases c:(fM rows m).isSome with
   |true=>
    refine bj ⟨M,hsub,?_⟩;have:cutD top rows n=dn m:=by unfold cutD;rw[hcut i m ei hb c]
    rw[<- this];exact h
   |false=>
    refine br (hk _ _ ⟨rfl,⟨_,rfl⟩,λj y hj hy=>?_⟩);by_cases hji:j=i
    ·subst hji;rw[ei]at hy;cases hy;exact c
    ·exact hb j y (by room) hy
 ·rintro ρ M' ⟨rfl,⟨v,rfl⟩,hb⟩;rw[e1];w_up;refine⟨M,hsub,?_⟩;have:cutD top rows n=.non:=by
   have e:bR top rows n=none:=by
    unfold bR;rw[hL];refine find?_eq_none.mpr λy hy=>?_;obtain⟨j,hj⟩:=List.mem_iff_getElem?.mp hy;rw[hb j y (by rw[Ze];exact (Zq.mp hj).1) hj]
    simp
   unfold cutD;rw[e]
  rw[<- this];exact h
theorem az(h:n<=1000):n<=sizeLine:=le_of_lt (aL h)
def eR(k:W):Prop:=k=[100,111,119,110]\/k=[101,108,115,101]
structure de(top:List W)(x:Rw):Prop where
 in_:oT top x
 pv:(eR x.k/\∃b:List W,x.v=dn b)\/(¬ eR x.k/\∃w:W,x.v=.str w)
theorem hW(k:Nat)(ws:List W):plain (k+2) (dn ws)=true:=by
 show (ws.map D.str).all (plain (k+1))=true;rw[ZO];intro d hd;obtain⟨w,_,rfl⟩:=ZY.mp hd;rfl
theorem de.v(h:de top x)(k:Nat):plain (k+2) x.v=true:=by
 rcases h.pv with ⟨_,b,e⟩|⟨_,w,e⟩
 ·rw[e];exact hW k b
 ·rw[e];rfl
theorem de.d(h:de top x)(k:Nat):plain (k+3) x.d=true:=by
 show [dn x.n,.int x.l,.str x.k,x.v].all (plain (k+2))=true;erw[ZC,all_nil,hW,h.v,ZR,Yr];rfl
theorem Q5L{top:List W}{rows:List Rw}(h:∀x∈rows,de top x)(k:Nat):plain (k+4) (.lst (rows.map Rw.d))=true:=by
 show (rows.map Rw.d).all (plain (k+3))=true;rw[ZO];intro d hd;obtain⟨x,hx,rfl⟩:=ZY.mp hd;exact (h x hx).d k
theorem Q4n(e:xs[xs.length-1]?=some d)(h:Q d M):bD (.tup xs) (.int (-1)) M Q:=by
 show (match b8 xs (-1) with|some c=>Q c M|none=>False)
 rw[My.cL (by intro z;subst z;cases e),e]
 exact h
theorem Q9j{α:Type}(xs:List α):cut xs (some (-1)) none=xs.drop (xs.length-1):=by
 unfold cut;have e:HT.aT xs.length 0 (some (-1))=xs.length-1:=by
  show (if ((-1:Int)<0) then ((-1:Int)+(xs.length:Int)).toNat else min (-1:Int).toNat xs.length)=_
  rw[Zg (by decide)]
  room
 rw[cC,e,take_of_length_le (by rw[length_drop];exact Zy _)]
noncomputable def b_aV:CS:=by walk_at "~chitE&0A#1beap11bb"
noncomputable def b_ae:CS:=by walk_at "~chx!gaym[ &0bd&0#1bb"
noncomputable def b_ak:CS:=by walk_at "~chzx!paym[ &0bd&0#3bb"
noncomputable def b_am:CS:=by walk_at "~chym[2 !qf%Page %rows &0&1nbitd&0#2&1&0b"
noncomputable def b_aJ:CS:=by walk_at "~ckQo5a&1biW&1f%Page %rows &0cheap17af%Page %life &0bbbcg3j309&0a&1ap12bckiC&3nbcheap12add&3#0#3add&3#0#1bbbcg4j309&0a&1a&2bckiC&4nbcheap15ao23a&4bao24a&4bbbbcheap16af%Page %life &0bb"
noncomputable def b_aH:CS:=by walk_at "~cg2dym[0 o2a&1bj302&1a&0b&0A#1chkit&2&1&1qv&2eap11bb"
noncomputable def b_aR:CS:=by walk_at "~cg2Zf%Page %downs &0&1cg3d&2#3cg4ko1a&3a&1bj309&0a&3ap14bnbcheap13a&1a&3ao23a&4bao24azqXna&2b&4bbb"
noncomputable def b_aB:CS:=by walk_at "~cg3j303&0a&1bckiR&3lschj306&0a&3bbbchj308&0aj307&0a&1ba&2bb"
theorem Q7t{a b:List W}(h:a.Perm b)(ha:a.Pairwise (λx y=>x<=y))(hb:b.Pairwise (λx y=>x<=y)):a=b:=
 List.Perm.eq_of_pairwise (le:=λx y:W=>x<=y) (λx y _ _ h1 h2=>Std.le_antisymm h1 h2) ha hb h
noncomputable def oj(zs:List W):List W:=Classical.epsilon λzs'=>zs'.Perm zs/\zs'.Pairwise (λx y=>x<=y)
theorem Q5c(h:zs'.Perm zs)(hs:zs'.Pairwise (λx y=>x<=y)):zs'=oj zs:=by
 have:=Classical.epsilon_spec (p:=λzs':List W=>zs'.Perm zs/\zs'.Pairwise (λx y=>x<=y)) ⟨zs',h,hs⟩;exact Q7t (h.trans this.1.symm) hs this.2
noncomputable def fF(ns:List Int):Int:=Classical.epsilon λz=>z∈ns/\∀a∈ns,z<=a
theorem Q4o(h:z∈ns)(hs:∀a∈ns,z<=a):z=fF ns:=by
 have:=Classical.epsilon_spec (p:=λz:Int=>z∈ns/\∀a∈ns,z<=a) ⟨z,h,hs⟩;have h1:=hs _ this.1;have h2:=this.2 _ h;show z=fF ns;unfold fF;room
noncomputable def aP:W:=[101,108,115,101]
noncomputable def ay:W:=[100,111,111,114]
noncomputable def eB:W:=[114,111,119,115]
noncomputable def mF:W:=[101,109,112,116,121]
noncomputable def jl:W:=[110,111,110,101]
noncomputable def eC(rows:List Rw)(k:W):List Rw:=rows.filter λx=>decide (x.k=k)
noncomputable def om:D->W
 |.str w=>w
 |_=>[]
noncomputable def cv:D->List W
 |.tup xs=>xs.map om
 |_=>[]
theorem kK(a:List W):cv (dn a)=a:=by
 unfold cv dn;erw[Yk]
 induction a with
 |nil=>rfl
 |cons x r ih=>rw[Zu,ih];rfl
noncomputable def iZ(xs:List Rw):D:=.lst ((oj (xs.map λx=>om x.v)).map D.str)
noncomputable def jk(xs:List Rw):D:=.int (fF (xs.map λx=>x.l))
noncomputable def mE(rows:List Rw)(pl:List W)(k:W)(life:Int):D:=match eC (bG rows pl) aP with
 |x::_=>.tup [.str aP,x.v,.int x.l]
 |[]=>match eC (bG rows pl) k with
  |x::r=>.tup [.str eB,iZ (x::r),jk (x::r)]
  |[]=>.tup [.str mF,.int life]
noncomputable def jQ(rows:List Rw)(pl:List W)(k:W)(life:Int):D:=
 if pl.drop (pl.length-1)=[[42]]/\bG rows pl=[] then .tup [.str jl,.int life] else mE rows pl k life
open Classical in
noncomputable def fm(top:List W)(rows:List Rw)(n:List W):Nat:=(((List.range (n.length+1)).filter λj=>decide (Std top rows (n.take j))).getLast?).getD 0
noncomputable def eX(top:List W)(rows:List Rw)(n:List W):List W:=if fm top rows n=n.length then n else n.take (fm top rows n)++[[42]]
noncomputable def ie(rows:List Rw)(c:List W):Option Rw:=(rows.filter λx=>decide (x.k=df/\x.n=c)).getLast?
theorem rW(rows:List Rw)(c:List W):fM rows c=(ie rows c).map Rw.d:=rfl
noncomputable def jS(rows:List Rw)(c h:List W):List Rw:=if h.take c.length=c then eC (bG rows h) ay else []
noncomputable def oV(rows:List Rw)(x:Rw):D:=.tup [.str df,dn x.n,x.v,iZ (jS rows x.n (cv x.v)),jk (x::jS rows x.n (cv x.v))]
noncomputable def eU(top:List W)(life:Int)(rows:List Rw)(n:List W)(k:W):D:=match bR top rows n with
 |some c=>match ie rows c with
  |some x=>oV rows x
  |none=>.non
 |none=>jQ rows (eX top rows n) k life
def Good(top:List W)(rows:List Rw):Prop:=rows.length<60/\∀x∈rows,de top x
def sp_aV:aU:=λds M R=>∃n:List W,ds=[dn n]/\R (.bl (decide (n.drop (n.length-1)=[[42]]))) M
def sp_ae:aU:=λds M R=>∃xs:List Rw,ds=[.lst (xs.map Rw.d)]/\0<xs.length/\xs.length<=900/\R (jk xs) M
def sp_ak:aU:=λds M R=>∃xs:List Rw,ds=[.lst (xs.map Rw.d)]/\xs.length<64/\(∀x∈xs,∃w,x.v=.str w)/\R (iZ xs) M
def sp_am:aU:=λds M R=>∃(p:Addr) (n:List W) (k:W) (M0:DH) (top:List W) (life:Int) (rows:List Rw),ds=[.ref p,dn n,.str k]/\Page M0 M p top life rows/\rows.length<=900/\R (.lst ((eC (bG rows n) k).map Rw.d)) M
def sp_aH:aU:=λds M R=>∃(p:Addr) (n:List W) (M0:DH) (top:List W) (life:Int) (rows:List Rw),ds=[.ref p,dn n]/\Page M0 M p top life rows/\n.length<=900/\n.take top.length=top/\R (dn (eX top rows n)) M
def sp_aJ:aU:=λds M R=>∃(p:Addr) (n:List W) (k:W) (M0:DH) (top:List W) (life:Int) (rows:List Rw),ds=[.ref p,dn n,.str k]/\Page M0 M p top life rows/\Good top rows/\¬ eR k/\R (jQ rows n k life) M
def sp_aR:aU:=λds M R=>∃(p:Addr) (c:List W) (x:Rw) (M0:DH) (top:List W) (life:Int) (rows:List Rw),ds=[.ref p,dn c]/\Page M0 M p top life rows/\Good top rows/\ie rows c=some x/\R (oV rows x) M
def sp_aB:aU:=λds M R=>∃(p:Addr) (n:List W) (k:W) (M0:DH) (top:List W) (life:Int) (rows:List Rw),ds=[.ref p,dn n,.str k]/\Page M0 M p top life rows/\Good top rows/\¬ eR k/\n.length<=900/\n.take top.length=top/\R (eU top life rows n k) M
theorem Good.in(h:Good top rows):∀x∈rows,oT top x:=λx hx=>(h.2 x hx).in_
theorem Q1x(h:x∈eC rows k):x∈rows/\x.k=k:=by
 obtain⟨h1,h2⟩:=Yq.mp h;exact⟨h1,of_decide_eq_true h2⟩
theorem Q2U(h:x∈bG rows n):x∈rows/\x.n=n:=by
 obtain⟨h1,h2⟩:=Yq.mp h;exact⟨h1,of_decide_eq_true h2⟩
theorem Q2h(rows:List Rw)(n:List W)(k:W):(eC (bG rows n) k).length<=rows.length:=ZF (ZS _ _) (ZS _ _)
theorem Good.strs(h:Good top rows)(hk:¬ eR k):∀x∈eC (bG rows n) k,∃w,x.v=.str w:=by
 intro x hx;obtain⟨h1,h2⟩:=Q1x hx;obtain⟨h3,h4⟩:=Q2U h1;rcases (h.2 x h3).pv with ⟨a,_⟩|⟨_,b⟩
 ·rw[h2]at a;exact absurd a hk
 ·exact b
theorem Good.plain(h:Good top rows)(n:List W)(k:W):DL.plain 12 (.lst ((eC (bG rows n) k).map Rw.d))=true:=
 Q5L (top:=top) (λx hx=>h.2 x (Q2U (Q1x hx).1).1) 8
theorem jA(h:M q=none):aA (ae M q o) q=M:=by
 funext b
 unfold aA ae;by_cases e:b=q
 ·rw[Zg e,e,h]
 ·rw[Zd e,Zd e]
theorem mj{κ:Type}{Cd:DH->Prop}{Q:List D->DH->Prop}(ks:List κ)(g f:κ->D)(hC:Cd M)(hl:ks.length<=1000)
  (hs:∀(k:κ) (c:D->DH->Prop),k∈ks->c (f k) M->te (some (g k)::fr) M c) (hd:Q (ks.map f) M):gd fr (λd=>some [d]) zaW te Cd Q (ks.map g) [] M:=by
 refine nV (λi ys M'=>M'=M/\ys=(ks.take i).map f) ⟨rfl,by simp⟩ (λi ys M' h=>by rw[h.1];exact hC) ?_ ?_
 ·rintro i d ys M' k e ⟨rfl,rfl⟩ hk;rw[ZB,Z4]at e;obtain⟨x,e,rfl⟩:=e;have hi:=(Zq.mp e).1;erw[zaW,if_true,Zu,map_nil,cons_append,nil_append];refine hs x _ (ZI e) ⟨aL (by rw[Ze,ZD];room),hk _ _ ⟨rfl,?_⟩⟩
  rw[take_add_one,e,ZA];rfl
 ·rintro ys M' ⟨rfl,rfl⟩;rw[Ze,Yh];exact hd
theorem Q3L{α:Type}{fr:bL}{unp:D->Option (List D)}{tc:cO}{te:aB}{Cd:DH->Prop}{Q:List D->DH->Prop}{xs:List α}{f:α->D}{M:DH}(p:α->Bool)(hC:Cd M)(hl:xs.length<=900)
  (hs:∀x∈xs,∀(P:D->DH->Prop) (N:DH->Prop),(p x=true->P (f x) M)->(p x=false->N M)->match unp (f x) with
   |some us=>tc (us.map some++fr) M λb M3=>if b=true then te (us.map some++fr) M3 P else N M3
   |none=>False) (hq:Q ((xs.filter p).map f) M):gd fr unp tc te Cd Q (xs.map f) [] M:=by
 refine nV (λi ys M'=>M'=M/\ys=((xs.take i).filter p).map f) ⟨rfl,rfl⟩ (λi ys M' h=>by rw[h.1];exact hC) ?_ ?_
 ·rintro i d ys M' k hd ⟨rfl,rfl⟩ hk;rw[ZB]at hd;obtain⟨x,ex,rfl⟩:=Z4.mp hd;have e:((xs.take (i+1)).filter p).map f=((xs.take i).filter p).map f++if p x=true then [f x] else []:=by
   rw[take_add_one,ex,filter_append,ZA];cases z:p x<;>simp[z]
  refine hs x (ZI ex) (λz M4=>_/\k (_++[z]) M4) (k _) (λz=>⟨aL ?_,hk _ _ ⟨rfl,by rw[e,Zg z]⟩⟩) λz=>hk _ _ ⟨rfl,by rw[e,Zd (by rw[z];decide),append_nil]⟩
  rw[Ze];refine ZF (ZS _ _) ?_;rw[ZD];room
 ·rintro ys M' ⟨rfl,rfl⟩;rw[Ze,Yh];exact hq
theorem Q5M{fr:bL}{Cd:DH->Prop}{Q:List D->DH->Prop}{zs:List Rw}{M:DH}(hC:Cd M)(hl:zs.length<=900)(hq:Q ((zs.map λx=>x.l).map D.int) M):gd fr (λd=>some [d]) zaW (dOp bD (dVar 0) (dC (D.int 1))) Cd Q (zs.map Rw.d) [] M:=by
 refine mj zs Rw.d (λx=>.int x.l) hC (by room) (λx c _ hc=>?_) (by rw[Yk]at hq;exact hq)
 unfold Rw.d;w_up;refine au rfl ?_;exact hc
theorem Q7u{fr:bL}{Cd:DH->Prop}{Q:List D->DH->Prop}{zs:List Rw}{M:DH}(hC:Cd M)(hl:zs.length<=900)(str:∀x∈zs,∃w,x.v=.str w)(hq:Q ((zs.map λx=>om x.v).map D.str) M):gd fr (λd=>some [d]) zaW (dOp bD (dVar 0) (dC (D.int 3))) Cd Q (zs.map Rw.d) [] M:=by
 refine mj zs Rw.d (λx=>.str (om x.v)) hC (by room) (λx c hx hc=>?_) (by rw[Yk]at hq;exact hq)
 obtain⟨w,hw⟩:=str x hx;rw[hw]at hc;unfold Rw.d;rw[hw];w_up;refine au rfl ?_;exact hc
section
variable{T:Tab}
theorem ok_aV(T:Tab)(h11:T.con 11=some (("STAR":Str),D.str [42])):bp T b_aV sp_aV [""]:=by
 rintro ds M R ⟨n,rfl,h⟩;erw[b_aV,dn];w_up;erw[h11];w_up;have e:([D.str [42]]:List D)=([[42]]:List W).map D.str:=rfl;rw[e];simp only[Q9j,Ze,<- List.map_drop,Q5a];exact⟨az (by decide),oQ _,oQ _,aV h⟩
theorem ok_ae:bp T b_ae sp_ae [""]:=by
 rintro ds M R ⟨xs,rfl,h0,hl,h⟩;erw[b_ae];w_up;refine Q5M trivial (by room) ?_
 refine⟨az (by rw[Ze,Ze];room),xs.map λx=>x.l,rfl,by rw[Ze];exact h0,λz hz hs=>aV ?_⟩
 rw[Q4o hz hs];exact h
theorem ok_ak:bp T b_ak sp_ak [""]:=by
 rintro ds M R ⟨xs,rfl,h64,hv,h⟩;erw[b_ak];w_up;erw[cK];w_up;refine Q7u trivial (by room) hv ?_
 refine⟨az (by rw[Ze,Ze];room),xs.map λx=>om x.v,rfl,by rw[Ze];exact h64,λzs hp hs q hq=>?_⟩
 erw[aq];rw[Q5c hp hs,jA hq];exact aV h
theorem ok_am:bp T b_am sp_am ["","",""]:=by
 rintro ds M R ⟨p,n,k,M0,top,life,rows,rfl,⟨r,d,s,kr,kd,ks,G⟩,hn,h⟩;erw[b_am];w_up;refine⟨p,_,_,rfl,G.ob,Q1E,r,kr,rfl,G.hR.m,az (by decide),n,kr,rfl,G.hR.m,?_⟩
 cases e:aw kr n with
 |none=>
  have en:=G.hR.no n e;rw[en]at h;exact⟨trivial,az (by decide),aV h⟩
 |some v=>
  obtain⟨l,rfl,g1,g2⟩:=G.hR.v n v e;erw[g1];refine Q3L (λx:Rw=>decide (x.k=k)) (by exact g1) (ZF (ZS _ _) hn) (λx _ P N hP hN=>?_) ?_
  ·erw[Rw.d]at hP ⊢;w_up;refine au rfl ?_;w_up;exact⟨rfl,rfl,aI hP λq=>hN (Bool.eq_false_iff.mpr q)⟩
  ·refine⟨az ?_,aV h⟩;rw[Ze];exact ZF (Q2h rows n k) (by room)
end
open Classical in
theorem Q7v(top:List W)(rows:List Rw)(n:List W)(ht:n.take top.length=top):fm top rows n<=n.length/\top.length<=fm top rows n/\Std top rows (n.take (fm top rows n))/\∀j,fm top rows n<j->j<=n.length->¬ Std top rows (n.take j):=by
 unfold fm;have hl:top.length<=n.length:=by rw[<- ht,ZD];room
 generalize hF:(List.range (n.length+1)).filter (λj=>decide (Std top rows (n.take j)))=F;have mem:∀j,j∈F <-> j<=n.length/\Std top rows (n.take j):=λj=>by
  rw[<- hF,Yq,mem_range,Zo];exact⟨λz=>⟨by room,z.2⟩,λz=>⟨by room,z.2⟩⟩
 have tm:top.length∈F:=(mem _).mpr ⟨hl,.inl ht⟩;have pw:F.Pairwise (· < ·):=by rw[<- hF];exact List.Pairwise.filter _ List.pairwise_lt_range
 have hne:F≠[]:=λz=>by rw[z]at tm;cases tm
 rw[List.getLast?_eq_some_getLast hne,Option.getD_some];have lastm:=(mem _).mp (List.getLast_mem hne);have big:∀j∈F,j<=F.getLast hne:=by
  intro j hj;obtain⟨i,hi,rfl⟩:=List.mem_iff_getElem.mp hj;rw[List.getLast_eq_getElem];rcases lt_or_ge i (F.length-1) with z|z
  ·exact le_of_lt (List.pairwise_iff_getElem.mp pw i (F.length-1) hi (by room) z)
  ·have:i=F.length-1:=by room
   subst this;exact Zy _
 exact⟨lastm.1,big _ tm,lastm.2,λj hj hjn hs=>absurd (big j ((mem j).mpr ⟨hjn,hs⟩)) (by room)⟩
theorem ok_aH(T:Tab)(h302:T.mt 302=some ⟨"Page","has",1,sp_aQ⟩)(h2:T.fn 2=some ⟨"above",1,[],sp_a4⟩)(h11:T.con 11=some (("STAR":Str),D.str [42])):bp T b_aH sp_aH ["","",""]:=by
 rintro ds M R ⟨p,n,M0,top,life,rows,rfl,Pg,hl,ht,h⟩;obtain⟨r,d,s,kr,kd,ks,G⟩:=id Pg;obtain⟨n1,n2,n3,n4⟩:=Q7v top rows n ht;erw[b_aH];walk_at "q0";erw[h2,h302];w_up;refine⟨n,rfl,hl,λa ha=>?_⟩;have G1:=G.new (o:=.lst (cZ n)) ha;have Pg1:Page M0 (ae M a (.lst (cZ n))) p top life rows:=⟨_,_,_,_,_,_,G1⟩;have sM:Sub M (ae M a (.lst (cZ n))):=Sub.new ha;erw[aq];have len:(cZ n).length=n.length+1:=by unfold cZ;rw[Ze,Yl]
 refine nV (λi ys M'=>M'=ae M a (.lst (cZ n))/\ys.length<=i/\(fm top rows n<i->ys[ys.length-1]?=some (dn (n.take (fm top rows n))))) ⟨rfl,Zy _,λz=>absurd z (Nat.not_lt_zero _)⟩ (λi ys M' h=>by rw[h.1,aq]) ?_ ?_
 ·rintro i d0 ys M' k hd ⟨rfl,hyl,hy⟩ hk;have hi:i<n.length+1:=by rw[<- len];exact (Zq.mp hd).1
  unfold cZ at hd;rw[ZB,List.getElem?_range hi]at hd;cases hd;w_up;refine⟨p,_,rfl,G1.ob,oK,p,n.take i,M0,top,life,rows,rfl,Pg1,λb hb=>?_⟩;cases b with
  |true=>
   refine bj ⟨aL (by room),hk _ _ ⟨rfl,by rw[Zp];show ys.length+1<=i+1;room,λz=>?_⟩⟩
   have hs:=hb.mp rfl;have:i=fm top rows n:=by
    rcases lt_or_ge (fm top rows n) i with q|q
    ·exact absurd hs (n4 i q (by room))
    ·room
   rw[Zp];show (ys++[dn (n.take i)])[ys.length+1-1]?=_;rw[Nat.add_sub_cancel,List.getElem?_append_right (Zy _),Nat.sub_self,this];rfl
  |false=>
   refine br (hk _ _ ⟨rfl,by room,λz=>?_⟩)
   rcases lt_or_ge (fm top rows n) i with q|q
   ·exact hy q
   ·have:i=fm top rows n:=by room
    rw[this]at hb;exact absurd (hb.mpr n3) (by decide)
 ·rintro ys M' ⟨rfl,hyl,hy⟩;rw[len]at hyl hy;refine⟨az (by room),?_⟩
  try w_up
  refine Q2g (hy (by room)) ?_
  rw[e1];clear e1;w_up;erw[h11];erw[dn];w_up;erw[Q5a];unfold eX at h;have lt:(n.take (fm top rows n)).length=fm top rows n:=by rw[ZD];room
  refine⟨oQ _,oQ _,aI (λq=>?_) λq=>?_⟩
  ·rw[Zo]at q;rw[Zg (by rw[<- lt,q])]at h
   exact⟨M,sM,h⟩
  ·rw[Zo]at q;rw[Zd (λz=>q (by rw[z,Yh]))]at h
   refine⟨az (by decide),az (by rw[Ze,lt];(try simp only[Zs,ZN]);room),M,sM,?_⟩
   unfold dn at h;rw[ZA]at h;exact h
theorem ok_aJ(T:Tab)(h24:T.fn 24=some ⟨"least_life",1,[],sp_ae⟩)(h23:T.fn 23=some ⟨"values_of",1,[],sp_ak⟩)(h309:T.mt 309=some ⟨"Page","rows_at",2,sp_am⟩)(h5:T.fn 5=some ⟨"is_star_name",1,[],sp_aV⟩)
  (h16:T.con 16=some (("EMPTY":Str),D.str [101,109,112,116,121])) (h15:T.con 15=some (("ROWS":Str),D.str [114,111,119,115])) (h12:T.con 12=some (("ELSE":Str),D.str [101,108,115,101])) (h17:T.con 17=some (("NONE":Str),D.str [110,111,110,101])) :
  bp T b_aJ sp_aJ ["","","","",""]:=by
 rintro ds M R ⟨p,n,k,M0,top,life,rows,rfl,Pg,hg,hk,h⟩;obtain⟨r,d,s,kr,kd,ks,G⟩:=id Pg;erw[b_aJ];refine Q0c λk1 e1=>?_;have nom:∀{m:Str},(m == "top")=false->(m == "life")=false->(m == "rows")=false->(m == "downs")=false->(m == "standing")=false->List.lookup m (jO top life r d s)=none:=λa b c d e=>oK a b c d e;have rest:(¬ (n.drop (n.length-1)=[[42]]/\bG rows n=[]))->k1 [some (.ref p),some (dn n),some (.str k),none,none] M:=by
  intro hne;unfold jQ at h;rw[Zd hne]at h;walk_at "q1";erw[h309,h12];w_up;refine⟨p,_,rfl,G.ob,nom (by kd_p) (by kd_p) (by kd_p) (by kd_p) (by kd_p),p,n,[101,108,115,101],M0,top,life,rows,rfl,Pg,by have:=hg.1;room,?_⟩
  rw[e1];clear e1;refine Q0c λk1 e1=>?_;unfold mE at h;cases ee:eC (bG rows n) aP with
  |cons x xs=>
   rw[ee]at h;have pl:=hg.plain n aP;rw[ee]at pl;have:eC (bG rows n) [101,108,115,101]=x::xs:=ee;rw[this];w_up;refine⟨az (by decide),pl,rfl,?_⟩
   have ne:eqB (.lst ((x::xs).map Rw.d)) (.lst [])=false:=(nP _ _).mpr (λz=>by cases z)
   erw[Zu]at ne;erw[Zu,ne,Bool.not_false,if_true];erw[h12];w_up;refine il cS ?_;erw[Rw.d];refine au rfl ?_;refine il cS ?_;refine au rfl ?_;exact⟨az (by decide),aV h⟩
  |nil=>
   rw[ee]at h;have:eC (bG rows n) [101,108,115,101]=[]:=ee;rw[this];w_up;refine⟨az (by decide),rfl,rfl,?_⟩
   erw[hX,Bool.not_true,Z9,ZT];walk_at "q1";erw[h309];w_up;refine⟨p,_,rfl,G.ob,nom (by kd_p) (by kd_p) (by kd_p) (by kd_p) (by kd_p),p,n,k,M0,top,life,rows,rfl,Pg,by have:=hg.1;room,?_⟩
   rw[e1];clear e1;refine Q0c λk1 e1=>?_;have pl:=hg.plain n k;have str:=hg.strs (n:=n) hk;have kl:=Q2h rows n k;have rl:=hg.1;cases ek:eC (bG rows n) k with
   |cons x xs=>
    rw[ek]at h pl str kl;w_up;refine⟨az (by decide),pl,rfl,?_⟩
    have ne:eqB (.lst ((x::xs).map Rw.d)) (.lst [])=false:=(nP _ _).mpr (λz=>by cases z)
    erw[Zu]at ne;erw[Zu,ne,Bool.not_false,if_true];erw[h15,h23,h24];w_up;exact⟨x::xs,rfl,by room,str,x::xs,rfl,Nat.succ_pos _,by room,az (by decide),aV h⟩
   |nil=>
    rw[ek]at h;w_up;refine⟨az (by decide),rfl,rfl,?_⟩
    erw[hX,Bool.not_true,Z9,ZT];rw[e1];clear e1;w_up;erw[h16];w_up;exact⟨p,_,_,rfl,G.ob,Q2y,az (by decide),aV h⟩
 w_up;erw[h5];w_up;refine⟨n,rfl,aI (λq=>?_) λq=>?_⟩
 ·rw[Zo]at q;refine⟨p,_,_,rfl,G.ob,Q1E,n,r,kr,rfl,rfl,G.hR.m,?_⟩;cases c:aw kr n with
  |none=>
   refine bj ?_;erw[h17];w_up;refine⟨p,_,_,rfl,G.ob,Q2y,az (by decide),aV ?_⟩
   unfold jQ at h;rw[Zg ⟨q,G.hR.no n c⟩]at h;exact h
  |some v=>exact br (rest λz=>by rw[G.hR.yes n z.2]at c;cases c)
 ·rw[Zo]at q;exact rest λz=>q z.1
theorem Q4p(h:ie rows c=some x):x∈rows/\x.k=df/\x.n=c:=by
 obtain⟨h1,h2⟩:=Yq.mp (mem_of_getLast? h);exact⟨h1,of_decide_eq_true h2⟩
theorem ok_aR(T:Tab)(h24:T.fn 24=some ⟨"least_life",1,[],sp_ae⟩)(h23:T.fn 23=some ⟨"values_of",1,[],sp_ak⟩)(h1:T.fn 1=some ⟨"at_or_beneath",2,[],sp_aM⟩)(h309:T.mt 309=some ⟨"Page","rows_at",2,sp_am⟩)
  (h13:T.con 13=some (("DOWN":Str),D.str [100,111,119,110])) (h14:T.con 14=some (("DOOR":Str),D.str [100,111,111,114])) :
  bp T b_aR sp_aR ["","","","",""]:=by
 rintro ds M R ⟨p,c,x,M0,top,life,rows,rfl,Pg,hg,hx,h⟩;obtain⟨r,d,s,kr,kd,ks,G⟩:=id Pg;obtain⟨x1,x2,x3⟩:=Q4p hx;have xv:∃b:List W,x.v=dn b:=by
  rcases (hg.2 x x1).pv with ⟨_,a⟩|⟨a,_⟩
  ·exact a
  ·exact absurd (.inl x2) a
 obtain⟨hs,hv⟩:=xv;erw[b_aR];walk_at "q0";refine⟨p,_,_,rfl,G.ob,Q1n,c,d,kd,x.d,rfl,rfl,G.hD.m,by rw[G.hD.v,rW,hx];rfl,?_⟩
 rw[e1];clear e1;refine Q0c λk1 e1=>?_;erw[Rw.d];w_up;refine au rfl ?_;rw[e1];clear e1;refine Q0c λk1 e1=>?_;have rl:=hg.1;unfold oV at h;rw[hv,kK]at h;have fin:∀xs:List Rw,xs=jS rows x.n hs->xs.length<60->(∀y∈xs,∃w,y.v=.str w)->k1 [some (.ref p),some (dn c),some x.d,some (dn hs),some (.lst (xs.map Rw.d))] M:=by
  intro xs hxs hxl hxv;rw[e1];clear e1;w_up;erw[h13,h23,h24];w_up;refine⟨xs,rfl,by room,hxv,az (by show 1<=1000;decide),?_⟩
  erw[cK];w_up;refine⟨[x.d],xs.map Rw.d,rfl,rfl,az (by rw[Ze];(try simp only[Zs,ZN]);room),λq hq=>?_⟩
  erw[aq];refine⟨x::xs,rfl,Nat.succ_pos _,by rw[Zs];room,az (by decide),?_⟩
  have sM:Sub M (aA (ae M q (.lst ([x.d]++xs.map Rw.d))) q):=λc o e=>by
   unfold aA ae;have:c≠q:=aZ e hq;rw[Zd this,Zd this];exact e
  rw[<- hxs,x3]at h;exact⟨M,sM,h⟩
 w_up;erw[h1];w_up;rw[hv];refine⟨hs,c,rfl,?_⟩;w_up;have fin':=fin;erw[Rw.d,hv]at fin';refine aI (λq=>?_) λq=>?_
 ·rw[Zo]at q;erw[h309,h14];w_up;refine⟨p,_,rfl,G.ob,oK,p,hs,[100,111,111,114],M0,top,life,rows,rfl,Pg,by room,?_⟩
  exact fin' (eC (bG rows hs) ay) (by unfold jS;rw[x3,Zg q]) (by have:=Q2h rows hs ay;room) (hg.strs (by unfold eR ay;decide))
 ·rw[Zo]at q;refine⟨az (by decide),?_⟩
  exact fin' [] (by unfold jS;rw[x3,Zd q]) (by decide) (λy hy=>nomatch hy)
theorem ok_aB(T:Tab)(h308:T.mt 308=some ⟨"Page","reply_at",2,sp_aJ⟩)(h307:T.mt 307=some ⟨"Page","place_of",1,sp_aH⟩)(h306:T.mt 306=some ⟨"Page","reply_down",1,sp_aR⟩)(h303:T.mt 303=some ⟨"Page","cut",1,sp_aI⟩) :
  bp T b_aB sp_aB ["","","",""]:=by
 rintro ds M R ⟨p,n,k,M0,top,life,rows,rfl,Pg,hg,hk,hn,ht,h⟩;obtain⟨r,d,s,kr,kd,ks,G⟩:=id Pg;have nom:∀{m:Str},(m == "top")=false->(m == "life")=false->(m == "rows")=false->(m == "downs")=false->(m == "standing")=false->List.lookup m (jO top life r d s)=none:=λa b c d e=>oK a b c d e;erw[b_aB];walk_at "q0";erw[h303];w_up;refine⟨p,_,rfl,G.ob,nom (by kd_p) (by kd_p) (by kd_p) (by kd_p) (by kd_p),p,n,M0,top,life,rows,rfl,Pg,hn,?_⟩
 rw[e1];clear e1;refine Q0c λk1 e1=>?_;unfold eU at h;unfold cutD;cases ec:bR top rows n with
 |some c=>
  rw[ec]at h;have hc:(fM rows c).isSome=true:=by
   unfold bR at ec;exact find?_some (p:=λm=>(fM rows m).isSome) ec
  rw[rW,Option.isSome_map]at hc;obtain⟨x,hx⟩:=Option.isSome_iff_exists.mp hc;erw[hx]at h;erw[dn];w_up;erw[h306];w_up;exact⟨p,_,rfl,G.ob,nom (by kd_p) (by kd_p) (by kd_p) (by kd_p) (by kd_p),p,c,x,M0,top,life,rows,rfl,Pg,hg,hx,aV h⟩
 |none=>
  rw[ec]at h;w_up;rw[e1];clear e1;w_up;erw[h308,h307];w_up;exact⟨p,_,rfl,G.ob,nom (by kd_p) (by kd_p) (by kd_p) (by kd_p) (by kd_p),p,_,rfl,G.ob,nom (by kd_p) (by kd_p) (by kd_p) (by kd_p) (by kd_p),
   p,n,M0,top,life,rows,rfl,Pg,hn,ht,p,_,k,M0,top,life,rows,rfl,Pg,hg,hk,aV h⟩
noncomputable def b_ay:CS:=by walk_at "~ckQi!r&1f%House %zones &0iW&1f%House %pages &0cJf%House %pages &0&1K300aZf%House %zones &0&1bbbch!sf%House %pages &0&1b"
noncomputable def b_ac:CS:=by walk_at "~cg4j323&0a&1bchkiG&4lseap18bj305&4a&2a&3bb"
noncomputable def b_aE:CS:=by walk_at "~cg2ym[0 o2a&1biV&0f%House %zones &1&0chkiC&2nbd&2A#1lsb"
noncomputable def b_at:CS:=by walk_at "~cg3j322&0a&1bcg4ea&3aj325&0a&3a&1a&2bbckitdd&4#1#0p12cJf%House %turned &0&1&4bbch&4b"
noncomputable def b_aC:CS:=by walk_at "~cg4Ibcg5!f&2lwDcOQitd&1#0p12iWd&1#1&5cg6d&1#1cJ&5&6lwDcg7kiV&6f%House %turned &0Zf%House %turned &0&6j327&0a&6a&3bcg1d&7#1ckiCd&1#0p18cuFN&4aead&7#0a&6a&3a&1bbbbbchz&4b"
noncomputable def b_aL:CS:=by walk_at "~cg4j325&0a&1a&2a&3bchea&4aj326&0a&4a&2a&3bbb"
noncomputable def b_ad:CS:=by walk_at "~cr%House %zones &0x!taym[ &1bead&0#0a&0bbcr%House %pages &0Pcr%House %turned &0Pb"
structure Zn where
 o:W
 t:List W
 l:Int
 r:List Rw
noncomputable def Zn.v(z:Zn):D:=zD z.t z.l z.r
noncomputable def Zn.kv(z:Zn):List W×D:=(z.t,z.v)
noncomputable def atT(zs:List Zn)(n:List W):Option Zn:=zs.find? λz=>decide (z.t=n)
theorem Q2A:∀(zs:List Zn) (kvs:List (List W×D)) (n:List W),(zs.map (·.t)).Nodup->aw (mG kvs (zs.map Zn.kv)) n=match atT zs n with|some z=>some z.v|none=>aw kvs n
 |[],kvs,n,_=>rfl
 |z::r,kvs,n,h=>by
  rw[Zu,ZW]at h;have ih:=Q2A r (putD kvs z.t z.v) n h.2;show aw (mG (putD kvs z.t z.v) (r.map Zn.kv)) n=_;rw[ih];unfold atT;rw[ZU];by_cases e:z.t=n
  ·rw[Z7 e];have hn:r.find? (λz=>decide (z.t=n))=none:=by
    rw[find?_eq_none];intro y hy;erw[Zo];exact λe2=>h.1 (ZY.mpr ⟨y,hy,e2.trans e.symm⟩)
   rw[hn];show aw (putD kvs z.t z.v) n=some z.v;rw[iA,Zg e.symm]
  ·rw[Zt e];cases r.find? (λz=>decide (z.t=n)) with
   |some y=>rfl
   |none=>show aw (putD kvs z.t z.v) n=aw kvs n;rw[iA,Zd (λe2=>e e2.symm)]
structure zc7(M:DH)(p:Addr)(zs:List Zn):Prop where
 ex:∃d fs kvs,M p=some (.ah (.ins "House" fs))/\fs.lookup ("zones":Str)=some (.ref d)/\fs.lookup ("zone":Str)=none/\fs.lookup ("nearest_top":Str)=none/\M d=some (.ah (.aK kvs))/\∀n,aw kvs n=(atT zs n).map Zn.v
 nd:(zs.map (·.t)).Nodup
noncomputable def jH:Option (List W)->D
 |some a=>dn a
 |none=>.non
theorem hV(h:atT zs n=some z):z.t=n:=by
 have:=find?_some h;simpa using this
noncomputable def up(zs:List Zn)(a:List W):Nat->Option Zn
 |0=>none
 |k+1=>match atT zs (a.take k) with
  |some z=>some z
  |none=>up zs a k
theorem i4:∀{k:Nat},up zs a k=some z->atT zs z.t=some z
 |0,h=>nomatch h
 |k+1,h=>by
  unfold up at h;cases e:atT zs (a.take k) with
  |none=>rw[e]at h;exact i4 h
  |some y=>
   rw[e]at h;cases h;rw[hV e];exact e
noncomputable def eY(zs:List Zn)(a:List W):Option (List W):=(up zs a (a.length+1)).map (·.t)
def sp_aE:aU:=λds M R=>∃(p:Addr) (zs:List Zn) (a:List W),ds=[.ref p,dn a]/\zc7 M p zs/\a.length<=900/\R (jH (eY zs a)) M
theorem ok_aE(T:Tab)(h2:T.fn 2=some ⟨"above",1,[],sp_a4⟩):bp T b_aE sp_aE ["","",""]:=by
 rintro ds M R ⟨p,zs,a,rfl,hp,hl,h⟩;obtain⟨d,fs,kvs,e1,e2,e3,e4,e5,e6⟩:=hp.ex;erw[b_aE];refine Q0c λk1 e0=>?_;w_up;erw[h2];w_up;refine⟨a,rfl,hl,λq hq=>?_⟩;erw[aq];refine nV (λi ys M'=>M'=ae M q (.lst (cZ a))/\ys.length<=i/\ys.getLast?=(up zs a i).map (λz=>dn z.t)/\∀y∈ys,∃n:List W,y=dn n) ⟨rfl,Zy _,rfl,λy h=>nomatch h⟩ (λi ys M' h=>by rw[h.1];exact aq) ?_ ?_
 ·rintro i y ys M' k hi ⟨rfl,hy,hlast,hall⟩ hk;have hi1:i<a.length+1:=by
   have:=(Zq.mp hi).1;unfold cZ at this;rw[Ze,Yl]at this;exact this
  have hy':y=dn (a.take i):=by
   unfold cZ at hi;rw[ZB,List.getElem?_range hi1]at hi;cases hi;rfl
  subst hy';w_up;have sb:=Sub.new (o:=.lst (cZ a)) hq;refine⟨p,fs,_,rfl,sb _ _ e1,e2,a.take i,d,kvs,rfl,rfl,sb _ _ e5,?_⟩;rw[e6];cases ez:atT zs (a.take i) with
  |none=>
   refine hk _ _ ⟨rfl,by room,?_,hall⟩
   rw[hlast];show _=((match atT zs (a.take i) with|some z=>some z|none=>up zs a i)).map _
   rw[ez]
  |some z=>
   show _/\_;refine⟨aL (by room),hk _ _ ⟨rfl,by rw[Zp];show ys.length+1<=i+1;room,?_,λy hy=>?_⟩⟩
   ·rw[List.getLast?_append];show some _=((match atT zs (a.take i) with|some z=>some z|none=>up zs a i)).map _
    rw[ez];show some (dn (a.take i))=some (dn z.t);rw[hV ez]
   ·rcases Z1.mp hy with hy|hy
    ·exact hall y hy
    ·rw[Zh.mp hy];exact⟨_,rfl⟩
 ·rintro ys M' ⟨rfl,hy,hlast,hall⟩;have hal:(cZ a).length=a.length+1:=by unfold cZ;rw[Ze,Yl]
  rw[hal]at hy hlast;refine⟨az (by room),?_⟩
  rw[e0];clear e0;w_up;have pl:plain 12 (.lst ys)=true:=by
   show ys.all (plain 11)=true;rw[ZO];intro y hy;obtain⟨n,rfl⟩:=hall y hy;exact hW 9 n
  refine⟨az (by decide),pl,rfl,?_⟩
  have fin:∀x,x=jH (eY zs a)->∃M0,Sub M0 (ae M q (.lst (cZ a)))/\R x M0:=λx e=>⟨M,Sub.new hq,by rw[e];exact h⟩
  refine aI (λq9=>?_) λq9=>?_
  ·have hne:ys≠[]:=λz=>by
    subst z;rw[show eqB (D.lst []) (D.lst [])=true from hX _]at q9;cases q9
   have hn:ys[ys.length-1]?=ys.getLast?:=by rw[List.getLast?_eq_getElem?]
   cases eu:up zs a (a.length+1) with
   |none=>
    rw[eu]at hlast;exact absurd (List.getLast?_eq_none_iff.mp hlast) hne
   |some z=>
    rw[eu]at hlast;refine Q2g (by rw[hn,hlast];rfl) (fin _ ?_)
    unfold eY;rw[eu];rfl
  ·have hne:ys=[]:=by
    cases ys with
    |nil=>rfl
    |cons y r=>
     refine absurd ?_ q9;rw[(nP (D.lst (y::r)) (D.lst [])).mpr (λz=>by cases z)]
     rfl
   subst hne;refine fin _ ?_;have:(up zs a (a.length+1))=none:=by
    cases e:up zs a (a.length+1) with
    |none=>rfl
    |some z=>rw[e]at hlast;cases hlast
   unfold eY;rw[this];rfl
theorem Q7w(e:zaH M d=some xs):d=.lst xs\/∃a,d=.ref a/\M a=some (.lst xs):=by
 cases d with
 |lst ys=>cases e;exact .inl rfl
 |ref a=>
  erw[zaH]at e;cases ea:M a with
  |none=>rw[ea]at e;cases e
  |some o=>
   rw[ea]at e;cases o with
   |lst ys=>cases e;exact .inr ⟨a,rfl,ea⟩
   |ah _=>cases e
 |_=>erw[zaH]at e;cases e
theorem Q3M{Cd:DH->Prop}{Q:List D->DH->Prop}{zs:List Zn}{M:DH}(hC:Cd M)(hl:zs.length<=900)(hd:Q ((zs.map Zn.kv).map DL.pairD) M) :
  gd [] (λd=>some [d]) zaW (dTup (zaX (dOp bD (dVar 0) (dC (D.int 0))) (zaX (dVar 0) dNil))) Cd Q (zs.map Zn.v) [] M:=by
 refine nV (λi ys M'=>M'=M/\ys=((zs.take i).map Zn.kv).map DL.pairD) ⟨rfl,by simp⟩ (λi ys M' h=>by rw[h.1];exact hC) ?_ ?_
 ·rintro i d ys M' k e ⟨rfl,rfl⟩ hk;have hi:=(Zq.mp e).1;rw[Ze]at hi;rw[ZB]at e;cases ez:zs[i]? with
  |none=>rw[ez]at e;cases e
  |some z=>
   rw[ez]at e;cases e;w_up;erw[Zn.v,zD];refine ix_tup (by decide) (by erw[Zs,ZN];room) λd0 hd0=>?_
   cases hd0;refine⟨az (by decide),?_⟩
   refine⟨aL (by rw[Ze,Ze,ZD];room),hk _ _ ⟨rfl,?_⟩⟩
   rw[take_add_one,ez,ZA,ZA];rfl
 ·rintro ys M' ⟨rfl,rfl⟩;rw[Ze,Yh];exact hd
theorem km:bq ("pages":Str) b (bq ("zones":Str) a [])=[(("zones":Str),a),(("pages":Str),b)]:=by
 rw[iN (fs:=[]) (by simp),iN (by show ("pages":Str)∉[("zones":Str)];decide +kernel)]
 rfl
theorem kj:bq ("turned":Str) c [(("zones":Str),a),(("pages":Str),b)]=[(("zones":Str),a),(("pages":Str),b),(("turned":Str),c)]:=by
 rw[iN (by show ("turned":Str)∉[("zones":Str),"pages"];decide +kernel)]
 rfl
noncomputable def ofD(zs:List Zn)(w:W):List Zn:=zs.filter λz=>decide (z.o=w)
theorem Q2V(zs:List Zn)(n:List W):(eY zs n).bind (atT zs)=up zs n (n.length+1):=by
 unfold eY;cases e:up zs n (n.length+1) with
 |none=>rfl
 |some z=>exact i4 e
noncomputable def jV:D->Nat
 |.tup xs=>xs.length
 |_=>0
structure bx(z:Zn):Prop where
 r:∀x∈z.r,de z.t x
 t:z.t.length<=9
 l:z.r.length<60
 v:∀x∈z.r,jV x.v<=20
 s:∀w∈z.t,w≠[42]
structure c9(zs:List Zn):Prop where
 ok:∀z∈zs,bx z
 l:∀w,(ofD zs w).length<=8
 nd:∀w,((ofD zs w).map (·.t)).Nodup
theorem c9.len(h:c9 zs)(w:W):(ofD zs w).length<=8:=h.l w
theorem bx.good(h:bx z):Good z.t z.r:=⟨h.l,h.r⟩
theorem QcU(h:z∈ofD zs w):z∈zs:=(Yq.mp h).1
noncomputable def ip(zd pd td:Addr):List (Str×D):=[(("zones":Str),.ref zd),(("pages":Str),.ref pd),(("turned":Str),.ref td)]
section
variable{zd pd td:Addr}
theorem gZ:List.lookup ("zones":Str) (ip zd pd td)=some (D.ref zd):=du
theorem fj:List.lookup ("pages":Str) (ip zd pd td)=some (D.ref pd):=(aO (by kd_p)).trans du
theorem jo:List.lookup ("turned":Str) (ip zd pd td)=some (D.ref td):=(aO (by kd_p)).trans ((aO (by kd_p)).trans du)
theorem iB{m:Str}(h1:(m == "zones")=false:=by kd_p)(h2:(m == "pages")=false:=by kd_p)(h3:(m == "turned")=false:=by kd_p):List.lookup m (ip zd pd td)=none:=(aO h1).trans ((aO h2).trans ((aO h3).trans rfl))
end
section
variable{M0 M:DH}{p r d s q:Addr}{top:List W}{life:Int}{kr kd ks:List (List W×D)}{rr rd:List Rw}{o:MO}{S:List W->Prop}{k:Nat}
theorem PG.mono(h:PG M0 M p r d s top life kr kd ks rr rd S k)(sb:Sub M M'):PG M0 M' p r d s top life kr kd ks rr rd S k:=
 {h with
  ob:=sb _ _ h.ob
  sub:=h.sub.trans sb
  hR:={h.hR with
   m:=sb _ _ h.hR.m
   v:=λn v e=>by
    obtain⟨l,e1,h1,h2⟩:=h.hR.v n v e;exact⟨l,e1,sb _ _ h1,h2⟩}
  hD:={h.hD with m:=sb _ _ h.hD.m}
  hS:={h.hS with m:=sb _ _ h.hS.m}}
theorem PG.base(h:PG M0 M p r d s top life kr kd ks rr rd S k)(sb:Sub Mb M0):PG Mb M p r d s top life kr kd ks rr rd S k:=
 {h with
  fp:=sb.none h.fp
  sub:=sb.trans h.sub
  hR:={h.hR with
   f:=sb.none h.hR.f
   v:=λn v e=>by
    obtain⟨l,e1,h1,h2⟩:=h.hR.v n v e;exact⟨l,e1,h1,sb.none h2⟩}
  hD:={h.hD with f:=sb.none h.hD.f}
  hS:={h.hS with f:=sb.none h.hS.f}}
theorem PG.apart(h:PG M0 M p r d s top life kr kd ks rr rd S k)(hM:∀b,b≠q->M' b=M b)(n1:q≠p)(n2:q≠r)(n3:q≠d)(n4:q≠s)(n5:∀n,aw kr n≠some (.ref q))(sb:Sub M0 M'):PG M0 M' p r d s top life kr kd ks rr rd S k:=
 {h with
  ob:=(hM _ n1.symm).trans h.ob
  sub:=sb
  hR:={h.hR with
   m:=(hM _ n2.symm).trans h.hR.m
   v:=λn v e=>by
    obtain⟨l,rfl,h1,h2⟩:=h.hR.v n v e;exact⟨l,rfl,(hM _ λz=>n5 n (by rw[<- z];exact e)).trans h1,h2⟩}
  hD:={h.hD with m:=(hM _ n3.symm).trans h.hD.m}
  hS:={h.hS with m:=(hM _ n4.symm).trans h.hS.m}}
end
def aJ(M0 M:DH)(fo:List Addr)(pg:Addr)(z:Zn):Prop:=∃r d s kr kd ks,PG M0 M pg r d s z.t z.l kr kd ks z.r z.r (Std z.t z.r) (1+21 * z.r.length)/\∀b∈fo,b≠pg/\b≠r/\b≠d/\b≠s/\∀n,aw kr n≠some (.ref b)
theorem aJ.mono(h:aJ M0 M fo pg z)(sb:Sub M M'):aJ M0 M' fo pg z:=by
 obtain⟨r,d,s,kr,kd,ks,G,k⟩:=h;exact⟨r,d,s,kr,kd,ks,G.mono sb,k⟩
theorem aJ.less(h:aJ M0 M fo pg z)(sb:∀b∈fo',b∈fo):aJ M0 M fo' pg z:=by
 obtain⟨r,d,s,kr,kd,ks,G,k⟩:=h;exact⟨r,d,s,kr,kd,ks,G,λb hb=>k b (sb b hb)⟩
theorem aJ.alter(h:aJ M0 M fo pg z)(hb:b∈fo)(hM:∀c,c≠b->M' c=M c)(sb:Sub M0 M'):aJ M0 M' fo pg z:=by
 obtain⟨r,d,s,kr,kd,ks,G,k⟩:=h;obtain⟨n1,n2,n3,n4,n5⟩:=k b hb;exact⟨r,d,s,kr,kd,ks,G.apart hM n1 n2 n3 n4 n5 sb,k⟩
theorem aJ.apart(h:aJ M0 M fo pg z)(hb:b∈fo)(f:M0 b=none):aJ M0 (ae M b o) fo pg z:=
 h.alter hb (λc hc=>ag hc) (by obtain⟨r,d,s,kr,kd,ks,G,k⟩:=h;exact G.sub.put f)
theorem aJ.add(h:aJ M0 M fo pg z)(hb:M b=none):aJ M0 M (b::fo) pg z:=by
 obtain⟨r,d,s,kr,kd,ks,G,k⟩:=h;refine⟨r,d,s,kr,kd,ks,G,λc hc=>?_⟩;rcases Zf.mp hc with rfl|hc
 ·refine⟨(aZ G.ob hb).symm,(aZ G.hR.m hb).symm,(aZ G.hD.m hb).symm,(aZ G.hS.m hb).symm,λn e=>?_⟩;obtain⟨l,e1,h1,_⟩:=G.hR.v n _ e;cases e1;rw[hb]at h1;cases h1
 ·exact k c hc
theorem aJ.made{M0 M1 M:DH}{fo:List Addr}{pg:Addr}{z:Zn}(h:Page M1 M pg z.t z.l z.r)(sb:Sub M0 M1)(hf:∀b∈fo,∃o,M1 b=some o):aJ M0 M fo pg z:=by
 obtain⟨r,d,s,kr,kd,ks,G⟩:=h;refine⟨r,d,s,kr,kd,ks,G.base sb,λb hb=>?_⟩;obtain⟨o,ho⟩:=hf b hb;refine⟨aZ ho G.fp,aZ ho G.hR.f,aZ ho G.hD.f,aZ ho G.hS.f,λn e=>?_⟩;obtain⟨l,e1,_,h2⟩:=G.hR.v n _ e;cases e1;rw[ho]at h2;cases h2
theorem aJ.page(h:aJ M0 M fo pg z):Page M0 M pg z.t z.l z.r:=by
 obtain⟨r,d,s,kr,kd,ks,G,_⟩:=h;exact⟨r,d,s,kr,kd,ks,G⟩
noncomputable def gg:W:=[97,119,97,121]
def ElT(v:D):Prop:=∃(a:D) (m:List W) (l:Int),v=.tup [a,.tup [.str aP,dn m,.int l]]
structure HX(M0 M:DH)(p zd pd td:Addr)(fo:List Addr)(zs:List Zn)(c:Nat):Prop where
 ob:M p=some (.ah (.ins "House" (ip zd pd td)))
 n1:zd≠pd
 n2:zd≠td
 n3:pd≠td
 f1:M0 pd=none
 f2:M0 td=none
 f0:M0 zd=none
 sub:Sub M0 M
 fp:pd∈fo
 ft:td∈fo
 fi:∀b∈fo,∃o,M b=some o
 hz:∃kz,M zd=some (.ah (.aK kz))/\∀n,aw kz n=(atT zs n).map Zn.v
 zl:zs.length<=900
 hp:∃kp,M pd=some (.ah (.aK kp))/\(kp.map (·.1)).Nodup/\∀n v,aw kp n=some v->∃z pg,atT zs n=some z/\v=.ref pg/\aJ M0 M fo pg z
 ht:∃kt,M td=some (.ah (.aK kt))/\kt.length<=c/\∀n v,aw kt n=some v->∃z,up zs n (n.length+1)=some z/\(∀k,¬ eR k->v=.tup [dn z.t,eU z.t z.l z.r n k])/\ElT v
 nd:(zs.map (·.t)).Nodup
section
variable{M0 M M':DH}{p zd pd td:Addr}{fo:List Addr}{zs:List Zn}{c:Nat}
theorem HX.house(h:HX M0 M p zd pd td fo zs c):zc7 M p zs:=by
 obtain⟨kz,e1,e2⟩:=h.hz;exact⟨⟨zd,_,kz,h.ob,gZ,iB,iB,e1,e2⟩,h.nd⟩
theorem HX.mono(h:HX M0 M p zd pd td fo zs c)(sb:Sub M M'):HX M0 M' p zd pd td fo zs c:=
 {h with
  ob:=sb _ _ h.ob
  sub:=h.sub.trans sb
  fi:=λb hb=>by obtain⟨o,e⟩:=h.fi b hb;exact⟨o,sb _ _ e⟩
  hz:=by obtain⟨kz,e1,e2⟩:=h.hz;exact⟨kz,sb _ _ e1,e2⟩
  hp:=by
   obtain⟨kp,e1,e2,e3⟩:=h.hp;refine⟨kp,sb _ _ e1,e2,λn v e=>?_⟩;obtain⟨z,pg,q1,q2,q3⟩:=e3 n v e;exact⟨z,pg,q1,q2,q3.mono sb⟩
  ht:=by obtain⟨kt,e1,e2,e3⟩:=h.ht;exact⟨kt,sb _ _ e1,e2,e3⟩}
theorem HX.le(h:HX M0 M p zd pd td fo zs c)(hc:c<=c'):HX M0 M p zd pd td fo zs c':=
 {h with
  ht:=by obtain⟨kt,e1,e2,e3⟩:=h.ht;exact⟨kt,e1,ZF e2 hc,e3⟩}
theorem HX.less(h:HX M0 M p zd pd td fo zs c)(sb:∀b∈fo',b∈fo)(h1:pd∈fo')(h2:td∈fo'):HX M0 M p zd pd td fo' zs c:=
 {h with
  fp:=h1
  ft:=h2
  fi:=λb hb=>h.fi b (sb b hb)
  hp:=by
   obtain⟨kp,e1,e2,e3⟩:=h.hp;refine⟨kp,e1,e2,λn v e=>?_⟩;obtain⟨z,pg,q1,q2,q3⟩:=e3 n v e;exact⟨z,pg,q1,q2,q3.less sb⟩}
theorem HX.add(h:HX M0 M p zd pd td fo zs c)(hb:M b=none):HX M0 (ae M b o) p zd pd td (b::fo) zs c:=by
 have h2:=h.mono (Sub.new (o:=o) hb);exact {h2 with
  fp:=Zc _ h.fp
  ft:=Zc _ h.ft
  fi:=λc hc=>by
   rcases Zf.mp hc with rfl|hc
   ·exact⟨o,aq⟩
   ·exact h2.fi c hc
  hp:=by
   obtain⟨kp,e1,e2,e3⟩:=h.hp;refine⟨kp,Sub.new hb _ _ e1,e2,λn v e=>?_⟩;obtain⟨z,pg,q1,q2,q3⟩:=e3 n v e;exact⟨z,pg,q1,q2,(q3.add hb).mono (Sub.new hb)⟩}
theorem HX.alter(h:HX M0 M p zd pd td fo zs c)(hb:b∈fo)(hM:∀c,c≠b->M' c=M c)(sb:Sub M0 M')(n1:b≠p)(n2:b≠zd)(n3:b≠pd)(n4:b≠td)(hf:∀c∈fo',c∈fo/\∃o,M' c=some o)(h1:pd∈fo')(h2:td∈fo'):HX M0 M' p zd pd td fo' zs c:=
 {h with
  ob:=(hM _ n1.symm).trans h.ob
  sub:=sb
  fp:=h1
  ft:=h2
  fi:=λc hc=>(hf c hc).2
  hz:=by obtain⟨kz,e1,e2⟩:=h.hz;exact⟨kz,(hM _ n2.symm).trans e1,e2⟩
  hp:=by
   obtain⟨kp,e1,e2,e3⟩:=h.hp;refine⟨kp,(hM _ n3.symm).trans e1,e2,λn v e=>?_⟩;obtain⟨z,pg,q1,q2,q3⟩:=e3 n v e;exact⟨z,pg,q1,q2,(q3.alter hb hM sb).less λc hc=>(hf c hc).1⟩
  ht:=by obtain⟨kt,e1,e2,e3⟩:=h.ht;exact⟨kt,(hM _ n4.symm).trans e1,e2,e3⟩}
theorem HX.write(h:HX M0 M p zd pd td fo zs c)(hb:b∈fo)(f:M0 b=none)(n1:b≠p)(n2:b≠zd)(n3:b≠pd)(n4:b≠td):HX M0 (ae M b o) p zd pd td fo zs c:=
 h.alter hb (λc hc=>ag hc) (h.sub.put f) n1 n2 n3 n4 (λc hc=>⟨hc,by
  by_cases e:c=b
  ·rw[e];exact⟨o,aq⟩
  ·obtain⟨u,hu⟩:=h.fi c hc;exact⟨u,by rw[ag e];exact hu⟩⟩) h.fp h.ft
theorem HX.del(h:HX M0 M p zd pd td fo zs c)(hb:b∈fo)(f:M0 b=none)(n1:b≠p)(n2:b≠zd)(n3:b≠pd)(n4:b≠td)(hf:∀c∈fo',c∈fo/\c≠b)(h1:pd∈fo')(h2:td∈fo'):HX M0 (aA M b) p zd pd td fo' zs c:=
 h.alter hb (λc hc=>Zd hc) (λc o e=>by
  unfold aA;rw[Zd (aZ e f)];exact h.sub c o e) n1 n2 n3 n4 (λc hc=>⟨(hf c hc).1,by
  obtain⟨u,hu⟩:=h.fi c (hf c hc).1;exact⟨u,by unfold aA;rw[Zd (hf c hc).2];exact hu⟩⟩) h1 h2
theorem HX.nep(h:HX M0 M p zd pd td fo zs c):pd≠p/\td≠p:=by
 obtain⟨kp,e1,_⟩:=h.hp;obtain⟨kt,e2,_⟩:=h.ht;exact⟨gX e1 h.ob (λz=>nomatch z),gX e2 h.ob (λz=>nomatch z)⟩
theorem HX.ir(h:HX M0 M p zd pd td fo zs c)(e:M pd=some (.ah (.aK kp))):kp.length<=900:=by
 obtain⟨kp',e1,e2,e3⟩:=h.hp;rw[e]at e1;cases e1;have:=e2.length_le_of_subset (l₂:=zs.map (·.t)) λn hn=>by
  obtain⟨q,hq,rfl⟩:=ZY.mp hn;have ev:(aw kp q.1).isSome=true:=by rw[<- rP,any_eq_true];exact⟨q,hq,Z7 rfl⟩
  obtain⟨v,ev⟩:=Option.isSome_iff_exists.mp ev;obtain⟨z,_,q1,_⟩:=e3 q.1 v ev;have hz:=find?_some (show _=some z from q1);rw[Zo]at hz;rw[<- hz];exact ZY.mpr ⟨z,List.mem_of_find?_eq_some (show _=some z from q1),rfl⟩
 rw[Ze,Ze]at this;have:=h.zl;room
theorem HX.mX(h:HX M0 M p zd pd td fo zs c)(e:M pd=some (.ah (.aK kp)))(hn:atT zs n=some z)(hx:aJ M0 M fo pg z):HX M0 (ae M pd (.ah (.aK (putD kp n (.ref pg))))) p zd pd td fo zs c:=
 {h with
  ob:=by rw[ag h.nep.1.symm];exact h.ob
  sub:=h.sub.put h.f1
  fi:=λc hc=>by
   by_cases e:c=pd
   ·rw[e];exact⟨_,aq⟩
   ·obtain⟨u,hu⟩:=h.fi c hc;exact⟨u,by rw[ag e];exact hu⟩
  hz:=by obtain⟨kz,e1,e2⟩:=h.hz;exact⟨kz,by rw[ag h.n1];exact e1,e2⟩
  hp:=by
   obtain⟨kp',e1,e2,e3⟩:=h.hp;rw[e]at e1;cases e1;refine⟨_,aq,Q3J e2,λm v ev=>?_⟩;rw[iA]at ev;by_cases em:m=n
   ·rw[Zg em]at ev;cases ev;exact⟨z,pg,by rw[em];exact hn,rfl,hx.apart h.fp h.f1⟩
   ·rw[Zd em]at ev;obtain⟨z,pg,q1,q2,q3⟩:=e3 m v ev;exact⟨z,pg,q1,q2,q3.apart h.fp h.f1⟩
  ht:=by obtain⟨kt,e1,e2,e3⟩:=h.ht;exact⟨kt,by rw[ag h.n3.symm];exact e1,e2,e3⟩}
theorem HX.eF(h:HX M0 M p zd pd td fo zs c)(e:M td=some (.ah (.aK kt)))(hl:kt.length<=c)(hn:up zs n (n.length+1)=some z)(hv:∀k,¬ eR k->v=.tup [dn z.t,eU z.t z.l z.r n k])(he:ElT v):HX M0 (ae M td (.ah (.aK (putD kt n v)))) p zd pd td fo zs (c+1):=
 {h with
  ob:=by rw[ag h.nep.2.symm];exact h.ob
  sub:=h.sub.put h.f2
  fi:=λc hc=>by
   by_cases e:c=td
   ·rw[e];exact⟨_,aq⟩
   ·obtain⟨u,hu⟩:=h.fi c hc;exact⟨u,by rw[ag e];exact hu⟩
  hz:=by obtain⟨kz,e1,e2⟩:=h.hz;exact⟨kz,by rw[ag h.n2];exact e1,e2⟩
  hp:=by
   obtain⟨kp,e1,e2,e3⟩:=h.hp;refine⟨kp,by rw[ag h.n3];exact e1,e2,λm v ev=>?_⟩
   obtain⟨z,pg,q1,q2,q3⟩:=e3 m v ev;exact⟨z,pg,q1,q2,q3.apart h.ft h.f2⟩
  ht:=by
   obtain⟨kt',e1,e2,e3⟩:=h.ht;rw[e]at e1;cases e1;refine⟨_,aq,ZF (oR ..) (Nat.succ_le_succ hl),λm w ev=>?_⟩;rw[iA]at ev;by_cases em:m=n
   ·rw[Zg em]at ev;cases ev;rw[em];exact⟨z,hn,hv,he⟩
   ·rw[Zd em]at ev;exact e3 m w ev}
end
def HSub(pd td:Addr)(M M':DH):Prop:=∀b o,b≠pd->b≠td->M b=some o->M' b=some o
theorem HSub.refl(pd td:Addr)(M:DH):HSub pd td M M:=λ_ _ _ _ e=>e
theorem HSub.of(s:Sub M M'):HSub pd td M M':=λb o _ _ e=>s b o e
theorem HSub.trans{pd td:Addr}{M M1 M2:DH}(a:HSub pd td M M1)(b:HSub pd td M1 M2):HSub pd td M M2:=λc o h1 h2 e=>b c o h1 h2 (a c o h1 h2 e)
theorem HSub.mX(a:HSub pd td M M'):HSub pd td M (ae M' pd o):=λc u h1 h2 e=>by rw[ag h1];exact a c u h1 h2 e
theorem HSub.eF(a:HSub pd td M M'):HSub pd td M (ae M' td o):=λc u h1 h2 e=>by rw[ag h2];exact a c u h1 h2 e
theorem HSub.put(a:HSub pd td M M')(hq:M q=none):HSub pd td M (ae M' q o):=λc u h1 h2 e=>by rw[ag (aZ e hq)];exact a c u h1 h2 e
theorem fA(h:n<=16000000):n<sizeLine:=ZG h (by decide)
def sp_ad:aU:=λds M R=>∃(x:Addr) (d:D) (zs:List Zn),ds=[.ref x,d]/\M x=some (.ah (.ins "House" []))/\zaH M d=some (zs.map Zn.v)/\zs.length<=900/\(zs.map (·.t)).Nodup /\
 ∀M' zd pd td,M' pd=some (.ah (.aK []))->(∀M0,Sub M0 M->M0 x=none->HX M0 M' x zd pd td [pd,td] zs 0)->R .non M'
theorem ok_ad{T:Tab}:bp T b_ad sp_ad ["",""]:=by
 rintro ds M R ⟨x,d,zs,rfl,hx,hd,hl,hn,h⟩;erw[b_ad];refine Q0c λk1 e1=>?_;have rest:∀q,M q=none->∃a fs,D.ref x=D.ref a/\ae M q (.ah (.aK (mG [] (zs.map Zn.kv)))) a=some (.ah (.ins "House" fs))/\fs.length<1000/\k1 [some (.ref x),some d] (ae (ae M q (.ah (.aK (mG [] (zs.map Zn.kv))))) a (.ah (.ins "House" (bq "zones" (.ref q) fs)))):=by
  intro q hq;refine⟨x,[],rfl,Sub.new hq _ _ hx,by decide,?_⟩
  rw[e1];clear e1;w_up;intro q2 hq2;have n2:q2≠x:=λz=>by subst z;rw[aq]at hq2;cases hq2
  refine⟨x,_,rfl,by rw[ag n2.symm];exact aq,by simp[bq],λq3 hq3=>?_⟩
  have n3:q3≠x:=λz=>by subst z;rw[aq]at hq3;cases hq3
  have n1:q≠x:=λz=>by subst z;rw[hx]at hq;cases hq
  rw[km]at hq3 ⊢;refine⟨x,_,rfl,by rw[ag n3.symm];exact aq,(by erw[Zs,ZN];room),?_⟩
  rw[kj];have n32:q3≠q2:=λz=>by
   subst z;rw[ag n2,aq]at hq3;cases hq3
  have n12:q2≠q:=λz=>by
   subst z;rw[ag n1,aq]at hq2;cases hq2
  have n13:q3≠q:=λz=>by
   subst z;rw[ag n3,ag n12.symm,ag n3,aq]at hq3;cases hq3
  have hq2':M q2=none:=by rw[ag n2,ag n12]at hq2;exact hq2
  have hq3':M q3=none:=by rw[ag n3,ag n32,ag n3,ag n13]at hq3;exact hq3
  refine aV (h _ q q2 q3 ?_ λM0 sb hx0=>⟨aq,n12.symm,n13.symm,n32.symm,sb.none hq2',sb.none hq3',sb.none hq,?_,by simp,by simp,?_,⟨mG [] (zs.map Zn.kv),?_,λn=>?_⟩,hl,⟨[],?_,nodup_nil,λn v e=>(nomatch e)⟩,⟨[],?_,Z8 _,λn v e=>(nomatch e)⟩,hn⟩)
  ·rw[ag n2,ag n32.symm,ag n2,aq]
  ·intro b o hb;have hbM:=sb b o hb;have nb:b≠x:=aZ hb hx0;rw[ag nb,ag (aZ hbM hq3'),ag nb,ag (aZ hbM hq2'),ag nb,ag (aZ hbM hq)];exact hbM
  ·intro b hb;erw[Zf,Zm,Zv]at hb;rcases hb with rfl|rfl
   ·exact⟨_,by rw[ag n2,ag n32.symm,ag n2,aq]⟩
   ·exact⟨_,by rw[ag n3,aq]⟩
  ·rw[ag n1,ag n13.symm,ag n1,ag n12.symm,ag n1,aq]
  ·rw[Q2A zs [] n hn];cases atT zs n<;>rfl
  ·rw[ag n2,ag n32.symm,ag n2,aq]
  ·rw[ag n3,aq]
 rcases Q7w hd with rfl|⟨a,rfl,ha⟩
 ·w_up;refine Q3M trivial hl ?_;refine⟨az (by rw[Ze,Ze];room),zs.map Zn.kv,rfl,az (by rw[Ze];room),rest⟩
 ·w_up;erw[ha];refine Q3M ha hl ?_;refine⟨az (by rw[Ze,Ze];room),zs.map Zn.kv,rfl,az (by rw[Ze];room),rest⟩
def sp_ay:aU:=λds M R=>∃(M0:DH) (p zd pd td:Addr) (fo:List Addr) (zs:List Zn) (c:Nat) (t:Option (List W)),ds=[.ref p,jH t]/\HX M0 M p zd pd td fo zs c/\(∀z∈zs,bx z)/\c<=15000000 /\
 (t.bind (atT zs)=none->R .non M)/\∀z,t.bind (atT zs)=some z->∀pg M',HX M0 M' p zd pd td fo zs c->HSub pd td M M'->aJ M0 M' fo pg z->R (.ref pg) M'
theorem rK(h:atT zs n=some z):z∈zs:=List.mem_of_find?_eq_some h
theorem ok_ay(T:Tab)(h300:T.cQ 300=some ⟨"Page","__init__",1,sp_ao⟩):bp T b_ay sp_ay ["",""]:=by
 rintro ds M R ⟨M0,p,zd,pd,td,fo,zs,c,t,rfl,H,av,hc,hno,hyes⟩;obtain⟨kz,z1,z2⟩:=H.hz;obtain⟨kp,p1,p2,p3⟩:=H.hp;erw[b_ay];walk_at "q0";refine⟨p,_,_,rfl,H.ob,gZ,?_⟩;have fin:∀M',HX M0 M' p zd pd td fo zs c->HSub pd td M M'->∀n z pg kp',t=some n->atT zs n=some z->M' pd=some (.ah (.aK kp'))->aw kp' n=some (.ref pg)->aJ M0 M' fo pg z->k1 [some (.ref p),some (jH t)] M':=by
  intro M' H' S' n z pg kp' ht hn hk hv hx;subst ht;rw[e1];w_up;refine⟨p,_,_,rfl,H'.ob,fj,pd,kp',rfl,hk,kp',hk,.inl ⟨n,rfl,?_⟩⟩;rw[hv];exact aV (hyes z hn pg M' H' S' hx)
 cases t with
 |none=>
  refine .inr ⟨zd,kz,rfl,rfl,z1,?_⟩;rw[e1];w_up;exact⟨p,_,_,rfl,H.ob,fj,pd,kp,rfl,p1,kp,p1,.inr ⟨rfl,aV (hno rfl)⟩⟩
 |some n=>
  refine .inl ⟨n,zd,kz,rfl,rfl,z1,?_⟩;rw[z2];cases en:atT zs n with
  |none=>
   refine br ?_;rw[e1];w_up;refine⟨p,_,_,rfl,H.ob,fj,pd,kp,rfl,p1,kp,p1,.inl ⟨n,rfl,?_⟩⟩;cases ev:aw kp n with
   |none=>exact aV (hno en)
   |some v=>
    obtain⟨z,pg,q1,_⟩:=p3 n v ev;rw[en]at q1;cases q1
  |some z=>
   refine bj ⟨p,_,_,rfl,H.ob,fj,n,pd,kp,rfl,rfl,p1,?_⟩;cases ev:aw kp n with
   |some v=>
    obtain⟨z',pg,q1,q2,q3⟩:=p3 n v ev;rw[en]at q1;cases q1;subst q2;refine br ?_;exact fin M H (HSub.refl pd td M) n z pg kp rfl en p1 ev q3
   |none=>
    refine bj ?_;erw[h300];w_up;refine⟨p,_,_,rfl,H.ob,gZ,n,zd,kz,z.v,rfl,rfl,z1,by rw[z2,en];rfl,λx hx=>?_⟩
    have zk:=av z (rK en);refine⟨x,M,z.t,z.l,z.r,rfl,aq,hx,Sub.new hx,by have:=zk.l;room,zk.good.in,λM' hP=>⟨rfl,?_⟩⟩
    have sb:Sub M M':=by
     obtain⟨r,d,s,kr,kd,ks,G⟩:=hP;exact G.sub
    have H1:=H.mono sb;refine⟨p,_,_,rfl,H1.ob,fj,pd,n,kp,rfl,rfl,sb _ _ p1,fA (by have:=H.ir p1;room),?_⟩
    have hx':=aJ.made hP H.sub H.fi;refine fin _ (H1.mX (sb _ _ p1) en hx') (HSub.of sb).mX n z x _ rfl en aq (by rw[iA,Zg rfl]) (hx'.apart H.fp H.f1)
def rF(d:D):Prop:=∃(w:W) (r:List D),d=.tup (.str w::r)/\(w=aP->∃(m:List W) (l:Int),r=[dn m,.int l]/\m.length<=20)
noncomputable def iT(zs:List Zn):List (List W):=zs.flatMap λz=>z.r.map λx=>cv x.v
theorem Q5N(hz:z∈zs)(hx:x∈z.r)(e:x.v=dn m):m∈iT zs:=by
 unfold iT;rw[mem_flatMap];refine⟨z,hz,ZY.mpr ⟨x,hx,?_⟩⟩;show cv x.v=m;rw[e,kK]
theorem Q5O(h:∀z∈zs,bx z):(iT zs).length<=60 * zs.length:=by
 induction zs with
 |nil=>exact Zy _
 |cons z r ih=>
  have h1:=(h z Zk).l;have h2:=ih λy hy=>h y (Zc _ hy);unfold iT at h2 ⊢;rw[List.flatMap_cons,Zp,Ze,Zs];room
theorem Q4q(e:eC (bG rows pl) aP=x::r):mE rows pl k life=.tup [.str aP,x.v,.int x.l]:=by
 unfold mE;rw[e]
theorem Q5P(e:eC (bG rows pl) aP=[]):∃(w:W) (r:List D),mE rows pl k life=.tup (.str w::r)/\w≠aP/\w≠gg:=by
 unfold mE;rw[e];cases eC (bG rows pl) k with
 |nil=>exact⟨_,_,rfl,by decide,by decide⟩
 |cons x r=>exact⟨_,_,rfl,by decide,by decide⟩
theorem Q3O:eR aP:=.inr rfl
theorem Q2i{z:Zn}{n c:List W}{k:W}{x:Rw}(ec:bR z.t z.r n=some c)(ed:ie z.r c=some x):eU z.t z.l z.r n k=oV z.r x:=by
 unfold eU;rw[ec];show (match ie z.r c with|some x=>oV z.r x|none=>.non)=_
 rw[ed]
theorem Q1y{z:Zn}{n:List W}{k:W}(ec:bR z.t z.r n=none):eU z.t z.l z.r n k=jQ z.r (eX z.t z.r n) k z.l:=by
 unfold eU;rw[ec]
theorem Q1F{z:Zn}(h:bx z)(n:List W):(∃(m:List W) (l:Int),(∀k,eU z.t z.l z.r n k=.tup [.str aP,dn m,.int l])/\m.length<=20/\∃x∈z.r,x.v=dn m)\/∀k,∃(w:W) (r:List D),eU z.t z.l z.r n k=.tup (.str w::r)/\w≠aP/\w≠gg:=by
 cases ec:bR z.t z.r n with
 |some c=>
  right;intro k;have hs:=find?_some (show _=some c from ec);rw[rW]at hs;cases ed:ie z.r c with
  |none=>rw[ed]at hs;cases hs
  |some x=>exact⟨df,_,(Q2i ec ed).trans rfl,by decide,by decide⟩
 |none=>
  by_cases hn:(eX z.t z.r n).drop ((eX z.t z.r n).length-1)=[[42]]/\bG z.r (eX z.t z.r n)=[]
  ·right;intro k;refine⟨jl,[.int z.l],?_,by decide,by decide⟩
   rw[Q1y ec,jQ,Zg hn]
  ·cases ee:eC (bG z.r (eX z.t z.r n)) aP with
   |nil=>
    right;intro k;rw[Q1y ec,jQ,Zd hn];exact Q5P ee
   |cons x r=>
    left;have hx:x∈eC (bG z.r (eX z.t z.r n)) aP:=by rw[ee];exact Zk
    obtain⟨h1,h2⟩:=Q1x hx;obtain⟨h3,_⟩:=Q2U h1;rcases (h.r x h3).pv with ⟨_,m,em⟩|⟨nk,_⟩
    ·refine⟨m,x.l,λk=>?_,?_,x,h3,em⟩
     ·rw[Q1y ec,jQ,Zd hn,Q4q ee,em]
     ·have:=h.v x h3;rw[em]at this;simpa[jV,dn]using this
    ·exact absurd Q3O (by rw[<- h2];exact nk)
noncomputable def cq(zs:List Zn)(t:Option (List W))(n:List W)(k:W):D:=match t.bind (atT zs) with
 |some z=>eU z.t z.l z.r n k
 |none=>.tup [.str gg]
theorem rT(e:t.bind (atT zs)=some z):cq zs t n k=eU z.t z.l z.r n k:=by unfold cq;rw[e]
theorem Q1z(e:t.bind (atT zs)=none):cq zs t n k=.tup [.str gg]:=by unfold cq;rw[e]
structure cT(E:List (List W))(d:D):Prop where
 f:rF d
 i:∀m l,d=.tup [.str aP,dn m,.int l]->m∈E
theorem oI(h:dn a=dn b):a=b:=by
 have:=congrArg cv h;rw[kK,kK]at this;exact this
theorem Q3P(hz:z∈zs)(h:bx z)(n:List W)(k:W):cT (iT zs) (eU z.t z.l z.r n k):=by
 rcases Q1F h n with ⟨m,l,e,hm,x,hx,ex⟩|e
 ·rw[e k];refine⟨⟨_,_,rfl,λ_=>⟨m,l,rfl,hm⟩⟩,λm' l' e'=>?_⟩;injection e' with e';injection e' with _ e';injection e' with e' _;rw[<- oI e'];exact Q5N hz hx ex
 ·obtain⟨w,r,e1,e2,_⟩:=e k;rw[e1];refine⟨⟨w,r,rfl,λz=>absurd z e2⟩,λm' l' e'=>?_⟩;injection e' with e';injection e' with e' _;injection e' with e';exact absurd e' e2
theorem Q7x(E:List (List W)):cT E (.tup [.str gg]):=⟨⟨_,_,rfl,λz=>absurd z (by decide)⟩,λm l e=>by
 injection e with e;injection e with _ e;cases e⟩
theorem Q7y(h:∀z∈zs,bx z)(t:Option (List W))(n:List W)(k:W):cT (iT zs) (cq zs t n k):=by
 cases e:t.bind (atT zs) with
 |none=>rw[Q1z e];exact Q7x _
 |some z=>
  rw[rT e];cases t with
  |none=>cases e
  |some a=>exact Q3P (rK e) (h z (rK e)) n k
def sp_ac:aU:=λds M R=>∃(M0:DH) (p zd pd td:Addr) (fo:List Addr) (zs:List Zn) (c:Nat) (t:Option (List W)) (n:List W) (k:W),ds=[.ref p,jH t,dn n,.str k]/\HX M0 M p zd pd td fo zs c/\(∀z∈zs,bx z)/\c<=15000000 /\
 ¬ eR k/\n.length<=900/\(∀a,t=some a->n.take a.length=a)/\∀M',HX M0 M' p zd pd td fo zs c->HSub pd td M M'->R (cq zs t n k) M'
theorem ok_ac(T:Tab)(h305:T.mt 305=some ⟨"Page","reply",2,sp_aB⟩)(h323:T.mt 323=some ⟨"House","page",1,sp_ay⟩)(h18:T.con 18=some (("AWAY":Str),D.str [97,119,97,121])):bp T b_ac sp_ac ["","","","",""]:=by
 rintro ds M R ⟨M0,p,zd,pd,td,fo,zs,c,t,n,k,rfl,H,av,hc,hk,hn,ht,h⟩;erw[b_ac];walk_at "q0";erw[h323];w_up;refine⟨p,_,rfl,H.ob,iB,M0,p,zd,pd,td,fo,zs,c,t,rfl,H,av,hc,λen=>?_,λz ez pg M' H' S' hx=>?_⟩
 ·rw[e1];clear e1;w_up;erw[h18];w_up;refine⟨az (by decide),aV ?_⟩
  have:=h M H (HSub.refl pd td M);rw[Q1z en]at this;exact this
 ·rw[e1];clear e1;w_up;erw[h305];w_up;obtain⟨r,d,s,kr,kd,ks,G,_⟩:=id hx;cases t with
  |none=>cases ez
  |some a=>
   have ea:=hV (show atT zs a=some z from ez);refine⟨pg,_,rfl,G.ob,oK,pg,n,k,M0,z.t,z.l,z.r,rfl,hx.page,(av z (rK ez)).good,hk,hn,by rw[ea];exact ht a rfl,?_⟩
   have:=h M' H' S';rw[rT ez]at this;exact aV this
theorem Q7z:∀{k:Nat},k<=a.length+1->up zs a k=some z->a.take z.t.length=z.t
 |0,_,h=>nomatch h
 |k+1,hk,h=>by
  unfold up at h;cases e:atT zs (a.take k) with
  |none=>rw[e]at h;exact Q7z (by room) h
  |some y=>
   rw[e]at h;cases h;rw[hV e,ZD,min_eq_left (by room)]
theorem Q9k(h:eY zs n=some a):n.take a.length=a:=by
 unfold eY at h;cases e:up zs n (n.length+1) with
 |none=>rw[e]at h;cases h
 |some z=>
  rw[e]at h;cases h;exact Q7z (Zy _) e
noncomputable def kZ(zs:List Zn)(n:List W)(k:W):D:=.tup [jH (eY zs n),cq zs (eY zs n) n k]
theorem Q2C(e:up zs n (n.length+1)=some z):kZ zs n k=.tup [dn z.t,eU z.t z.l z.r n k]:=by
 unfold kZ;rw[rT (by rw[Q2V];exact e)]
 unfold eY;rw[e];rfl
theorem i0(h:up zs n k=some z):z∈zs:=rK (i4 h)
def sp_at:aU:=λds M R=>∃(M0:DH) (p zd pd td:Addr) (fo:List Addr) (zs:List Zn) (c:Nat) (n:List W) (k:W),ds=[.ref p,dn n,.str k]/\HX M0 M p zd pd td fo zs c/\(∀z∈zs,bx z)/\c<=15000000 /\
 ¬ eR k/\n.length<=900/\∀M',HX M0 M' p zd pd td fo zs (c+2)->HSub pd td M M'->R (kZ zs n k) M'
theorem ok_at(T:Tab)(h325:T.mt 325=some ⟨"House","reply",3,sp_ac⟩)(h322:T.mt 322=some ⟨"House","nearest_top",1,sp_aE⟩)(h12:T.con 12=some (("ELSE":Str),D.str [101,108,115,101])):bp T b_at sp_at ["","","","",""]:=by
 rintro ds M R ⟨M0,p,zd,pd,td,fo,zs,c,n,k,rfl,H,av,hc,hk,hn,h⟩;erw[b_at];walk_at "q0";erw[h322];w_up;refine⟨p,_,rfl,H.ob,iB,p,zs,n,rfl,H.house,hn,?_⟩;walk_at "q1";erw[h325];w_up;refine⟨p,_,rfl,H.ob,iB,M0,p,zd,pd,td,fo,zs,c,eY zs n,n,k,rfl,H,av,hc,hk,hn,λa ea=>Q9k ea,λM' H' S'=>⟨az (by decide),?_⟩⟩
 have hr:rF (cq zs (eY zs n) n k):=(Q7y av (eY zs n) n k).f;obtain⟨w,r,er,hw⟩:=hr;rw[e1];clear e1;refine Q0c λk1 e1=>?_;have fin:∀M2,HX M0 M2 p zd pd td fo zs (c+2)->HSub pd td M M2->k1 [some (.ref p),some (dn n),some (.str k),some (jH (eY zs n)),some (.tup [jH (eY zs n),cq zs (eY zs n) n k])] M2:=by
  intro M2 H2 S2;rw[e1];w_up;exact aV (h M2 H2 S2)
 w_up;erw[h12];w_up;refine au rfl ?_;rw[er];refine au cS ?_
 try w_up
 refine⟨rfl,rfl,aI (λq=>?_) λq=>?_⟩
 ·rw[Zo]at q;obtain⟨kt,t1,t2,t3⟩:=H'.ht;rw[<- er];refine⟨p,_,_,rfl,H'.ob,jo,td,n,kt,rfl,rfl,t1,fA (by room),?_⟩
  cases eu:up zs n (n.length+1) with
  |none=>
   have e9:=Q1z (zs:=zs) (t:=eY zs n) (n:=n) (k:=k) (by rw[Q2V];exact eu)
   rw[er]at e9;injection e9 with e9;injection e9 with e9 _;injection e9 with e9;rw[e9]at q;exact absurd q (by decide)
  |some z=>
   have es:=Q2C (k:=k) eu;obtain⟨me,le,ee,_⟩:=hw q;refine fin _ (HX.le (H'.eF t1 t2 eu (λk' hk'=>?_) ⟨_,me,le,by rw[er,ee,q];rfl⟩) (by room)) S'.eF
   show kZ zs n k=_;rw[es];rcases Q1F (av z (i0 eu)) n with ⟨m,l,e,_⟩|e
   ·rw[e k,e k']
   ·obtain⟨w',r',e',e2,_⟩:=e k;unfold kZ at es;injection es with es;injection es with _ es;injection es with es _;rw[er,e']at es;injection es with es;injection es with es _;injection es with es;exact absurd (es.symm.trans q) e2
 ·rw[<- er];exact fin M' (H'.le (by room)) S'
inductive eW(zs:List Zn)(k:W):List (List W)->D->List D->Prop
 |stop {sp:List (List W)}{d:D}:(∀m l,d=.tup [.str aP,dn m,.int l]->m∈sp)->eW zs k sp d []
 |off {sp:List (List W)}{m:List W}{l:Int}:m∉sp->up zs m (m.length+1)=none->eW zs k sp (.tup [.str aP,dn m,.int l]) []
 | step {sp:List (List W)}{m:List W}{l:Int}{z:Zn}{out:List D}:m∉sp->up zs m (m.length+1)=some z->eW zs k (m::sp) (eU z.t z.l z.r m k) out ->
   eW zs k sp (.tup [.str aP,dn m,.int l]) (.tup [dn z.t,dn m,.str k,eU z.t z.l z.r m k]::out)
theorem Q3Q(h:eW zs k sp d out)(hd:∀m l,d≠.tup [.str aP,dn m,.int l]):out=[]:=by
 cases h with
 |stop _=>rfl
 |off _ _=>rfl
 |step _ _ _=>exact absurd rfl (hd _ _)
noncomputable def left(E sp:List (List W)):Nat:=(E.filter λm=>decide (m∉sp)).length
theorem Qbr(E sp:List (List W)):left E sp<=E.length:=ZS ..
theorem Q7A(hn:m∉sp):∀{E:List (List W)},m∈E->left E (m::sp)+1<=left E sp:=by
 have low:∀E:List (List W),left E (m::sp)<=left E sp:=λE=>by
  induction E with
  |nil=>exact Zy _
  |cons a r ih=>
   unfold left at ih ⊢;rw[filter_cons,filter_cons];by_cases h1:a∈sp
   ·have h2:a∈m::sp:=Zc _ h1;erw[h1,h2,not_true,decide_false,Z9,ZT];exact ih
   ·by_cases h2:a∈m::sp
    ·erw[h1,h2,not_true,not_false_iff,decide_false,decide_true,Z9,ZT,if_true,Zs];room
    ·erw[h1,h2,not_false_iff,decide_true,if_true,Zs];room
 intro E hm
 induction E with
 |nil=>cases hm
 |cons a r ih=>
  have hl:=low r;unfold left at ih hl ⊢;rw[filter_cons,filter_cons];by_cases ea:a=m
  ·subst ea;have h2:a∈a::sp:=Zk;erw[hn,h2,not_true,not_false_iff,decide_false,decide_true,Z9,ZT,if_true,Zs];room
  ·have hr:m∈r:=by
    rcases Zf.mp hm with e|e
    ·exact absurd e.symm ea
    ·exact e
   have:=ih hr;by_cases h1:a∈sp
   ·have h2:a∈m::sp:=Zc _ h1;erw[h1,h2,not_true,decide_false,Z9,ZT];exact this
   ·have h2:a∉m::sp:=λz=>by
     rcases Zf.mp z with e|e
     ·exact ea e
     ·exact h1 e
    erw[h1,h2,not_false_iff,decide_true,if_true,Zs];room
theorem cT.mono(h:cT E d)(s:∀m∈E,m∈E'):cT E' d:=⟨h.f,λm l e=>s m (h.i m l e)⟩
theorem Q3R(I:Nat->bL->DH->Prop)(h0:∃m,I m ρ M)(turn:∀m ρ M,I m ρ M->∀TB:cU,TB=tb->c ρ M λb M1=>if b=true then ∃N:bL->DH->Prop,(∀ρ' M',N ρ' M'->∃m',m'<m/\I m' ρ' M')/\TB {DD with nx:=N,ct:=N,bk:=DD.nx} ρ M1 else DD.nx ρ M1):jR c tb DD ρ M:=
 ⟨I,h0,λm ρ M h=>turn m ρ M h tb rfl⟩
def sp_aC:aU:=λds M R=>∃(M0:DH) (p zd pd td:Addr) (fo:List Addr) (zs:List Zn) (c:Nat) (rep:D) (n:List W) (k:W) (E:List (List W)),ds=[.ref p,rep,dn n,.str k]/\HX M0 M p zd pd td fo zs c/\(∀z∈zs,bx z)/\c+2 * E.length<=15000000 /\
 ¬ eR k/\cT E rep/\(∀m∈iT zs,m∈E)/\∀M' out,HX M0 M' p zd pd td fo zs (c+2 * E.length)->HSub pd td M M'->eW zs k [n] rep out->R (.lst out) M'
theorem ok_aC(T:Tab)(h327:T.mt 327=some ⟨"House","nearby",2,sp_at⟩)(h12:T.con 12=some (("ELSE":Str),D.str [101,108,115,101]))(h18:T.con 18=some (("AWAY":Str),D.str [97,119,97,121])) :
  bp T b_aC sp_aC ["","","","","","","",""]:=by
 rintro ds M R ⟨M0,p,zd,pd,td,fo,zs,c,rep,n,k,E,rfl,H,av,hc,hk,hrep,hE,h⟩;erw[b_aC];walk_at "q0";refine⟨az (by decide),λq hq=>?_⟩
 walk_at "q1";intro sd hsd;refine⟨n,rfl,aq,?_⟩;rw[e1];clear e1;rw[kI];have hsd':M sd=none:=by
  cases e:M sd with
  |none=>rfl
  |some o=>rw[Sub.new hq _ _ e]at hsd;cases hsd
 have hqs:q≠sd:=λz=>by subst z;rw[aq]at hsd;cases hsd
 have H1:=(H.add (o:=.lst []) hq).add (o:=.ah (.aK [(n,.bl true)])) hsd;have f1:=H.sub.none hq;have f2:=H.sub.none hsd';obtain⟨kz,z1,_⟩:=H.hz;obtain⟨kp,p1,_⟩:=H.hp;obtain⟨kt,t1,_⟩:=H.ht;have q1:q≠p:=(aZ H.ob hq).symm;have q2:q≠zd:=(aZ z1 hq).symm;have q3:q≠pd:=(aZ p1 hq).symm;have q4:q≠td:=(aZ t1 hq).symm;have s1:sd≠p:=(aZ H.ob hsd').symm;have s2:sd≠zd:=(aZ z1 hsd').symm;have s3:sd≠pd:=(aZ p1 hsd').symm;have s4:sd≠td:=(aZ t1 hsd').symm;have S1:HSub pd td M (ae (ae M q (.lst [])) sd (.ah (.aK [(n,.bl true)]))):=((HSub.refl pd td M).put hq).put hsd';refine Q0c λk1 e1=>?_;show jR _ _ _ _ _;refine Q3R (λj ρ M'=>∃(sp:List (List W)) (ks:List (List W×D)) (rp:D) (out:List D) (v6 v7:Option D) (c':Nat),ρ=[some (.ref p),some rp,some (dn n),some (.str k),some (.ref q),some (.ref sd),v6,v7] /\
  HX M0 M' p zd pd td (sd::q::fo) zs c'/\HSub pd td M M'/\M' q=some (.lst out)/\M' sd=some (.ah (.aK ks))/\(∀a,(aw ks a).isSome=true <-> a∈sp)/\cT E rp/\left E sp<=j/\c'+2 * j<=c+2 * E.length/\ks.length+j<=1+E.length/\out.length+j<=E.length /\
  ∀rest,eW zs k sp rp rest->eW zs k [n] rep (out++rest)) ⟨E.length,[n],_,rep,[],none,none,c,rfl,H1,S1,by rw[ag hqs];exact aq,aq,λa=>?_,hrep,Qbr E [n],Zy _,Zy _,by simp,λrest z=>z⟩ ?_
 ·by_cases e:n=a
  ·rw[gK (p:=(n,D.bl true)) e];simp[e]
  ·rw[gJ (p:=(n,D.bl true)) e,Q8A];erw[Option.isSome_none,Z9,Zh,false_iff];exact λz=>e z.symm
 rintro j ρ M' ⟨sp,ks,rp,out,v6,v7,c',rfl,H',S',hq',hs',hks,hrp,hj,hj1,hj2,hj3,hch⟩ TB eTB;obtain⟨w,r,er,hw⟩:=hrp.f
 -- the loop's end
 have fin:eW zs k sp rp []->k1 [some (.ref p),some rp,some (dn n),some (.str k),some (.ref q),some (.ref sd),v6,v7] M':=by
  intro hz;rw[e1];w_up;erw[cK];w_up;erw[hq'];refine aV (h _ _ ((H'.del (b:=q) (fo':=fo) (by simp) f1 q1 q2 q3 q4 (λc hc=>⟨Zc _ (Zc _ hc),λz=>?_⟩) H.fp H.ft).le (by room)) (λb o n1 n2 hb=>?_) ?_)
  ·obtain⟨o,ho⟩:=H.fi c hc;rw[z,hq]at ho;cases ho
  ·unfold aA;rw[Zd (aZ hb hq)];exact S' b o n1 n2 hb
  ·have:=hch [] hz;rw[append_nil]at this;exact this
 subst er;w_up;erw[h12];w_up;refine au cS ?_
 try w_up
 refine⟨rfl,rfl,aI (λqe=>?_) λqe=>?_⟩
 ·rw[Zo]at qe;obtain⟨m,l,rfl,hm⟩:=hw qe;subst qe;refine au rfl ?_;refine⟨m,sd,ks,rfl,rfl,hs',?_⟩;cases ev:(aw ks m).isSome with
  |true=>
   refine br (fin (.stop λm' l' e'=>?_));injection e' with e';injection e' with _ e';injection e' with e' _;rw[<- oI e'];exact (hks m).mp ev
  |false=>
   have hms:m∉sp:=λz=>by rw[(hks m).mpr z]at ev;cases ev
   have hmE:m∈E:=hrp.i m l rfl;have hlc:=Q7A hms hmE;have hj0:1<=j:=by room
   have eks:=oR ks m (.bl true);refine bj ⟨λρ' M''=>∃(rp:D) (out:List D) (v6 v7:Option D),ρ'=[some (.ref p),some rp,some (dn n),some (.str k),some (.ref q),some (.ref sd),v6,v7] /\
    HX M0 M'' p zd pd td (sd::q::fo) zs (c'+2)/\HSub pd td M M''/\M'' q=some (.lst out)/\M'' sd=some (.ah (.aK (putD ks m (.bl true))))/\cT E rp/\out.length+(j-1)<=E.length/\∀rest,eW zs k (m::sp) rp rest->eW zs k [n] rep (out++rest),
    λρ' M'' ⟨rp,out,v6,v7,e,a1,a2,a3,a4,a5,a6,a7⟩=>⟨j-1,by room,m::sp,_,rp,out,v6,v7,c'+2,e,a1,a2,a3,a4,λa=>?_,a5,by room,by room,by room,a6,a7⟩,?_⟩
   ·rw[iA];by_cases e:a=m
    ·rw[Zg e,e];simp
    ·rw[Zd e,hks a,Zf];exact⟨.inr,λz=>z.resolve_left e⟩
   rw[eTB];clear eTB;refine Q0c λk2 e2=>?_;w_up;refine au rfl ?_;rw[e2];clear e2;refine Q0c λk2 e2=>?_;w_up;refine⟨sd,m,ks,rfl,rfl,hs',fA (by room),?_⟩
   have H2:=H'.write (o:=.ah (.aK (putD ks m (.bl true)))) (by simp) f2 s1 s2 s3 s4
   have S2:=S'.put (o:=.ah (.aK (putD ks m (.bl true)))) hsd';have hq2:ae M' sd (.ah (.aK (putD ks m (.bl true)))) q=some (.lst out):=by rw[ag hqs];exact hq'
   have hs2:ae M' sd (.ah (.aK (putD ks m (.bl true)))) sd=some (.ah (.aK (putD ks m (.bl true)))):=aq;generalize ae M' sd (.ah (.aK (putD ks m (.bl true))))=M2 at H2 S2 hq2 hs2;rw[e2];clear e2;refine Q0c λk2 e2=>?_
   -- behind what was told
   have told:∀M3,HX M0 M3 p zd pd td (sd::q::fo) zs (c'+2)->HSub pd td M2 M3->k2 [some (.ref p),some (.tup [.str aP,dn m,.int l]),some (dn n),some (.str k),some (.ref q),some (.ref sd),some (dn m),some (kZ zs m k)] M3:=by
    intro M3 H3 S3;have hq3:=S3 q _ q3 q4 hq2;have hs3:=S3 sd _ s3 s4 hs2;rw[e2];clear e2;refine Q0c λk2 e2=>?_;unfold kZ;w_up;refine au rfl ?_;rw[e2];clear e2;w_up;erw[h18];w_up;cases eu:up zs m (m.length+1) with
    |none=>
     rw[Q1z (by rw[Q2V];exact eu)]
     refine au rfl ?_
     try w_up
     refine⟨rfl,rfl,?_⟩;have et:(!decide (gg=[97,119,97,121]))=false:=by decide
     rw[et];refine br ⟨_,out,_,_,rfl,H3,S2.trans S3,hq3,hs3,Q7x E,by room,λrest hr=>?_⟩
     have er:=Q3Q hr λm l e=>by injection e with e;injection e with _ e;cases e
     subst er;exact hch [] (.off hms eu)
    |some z=>
     have zk:=av z (i0 eu);have er:cq zs (eY zs m) m k=eU z.t z.l z.r m k:=rT (by rw[Q2V];exact eu)
     have eo:jH (eY zs m)=dn z.t:=by unfold eY;rw[eu];rfl
     rw[er,eo];have hin:=(Q3P (i0 eu) zk m k).mono hE;have hw2:∃(w:W) (r:List D),eU z.t z.l z.r m k=.tup (.str w::r)/\w≠gg:=by
      rcases Q1F zk m with ⟨m',l',e,_⟩|e
      ·exact⟨_,_,e k,by decide⟩
      ·obtain⟨w,r,a1,_,a3⟩:=e k;exact⟨w,r,a1,a3⟩
     obtain⟨w,r,ew,hw3⟩:=hw2;have go:∀d,d=eU z.t z.l z.r m k->M3 q=some (.lst out)->(∃(rp:D) (out':List D) (v6 v7:Option D),[some (D.ref p),some d,some (dn n),some (.str k),some (.ref q),some (.ref sd),some (dn m),some (.tup [dn z.t,d])]=[some (.ref p),some rp,some (dn n),some (.str k),some (.ref q),some (.ref sd),v6,v7] /\
       HX M0 (ae M3 q (.lst (out++[.tup [dn z.t,dn m,.str k,d]]))) p zd pd td (sd::q::fo) zs (c'+2)/\HSub pd td M (ae M3 q (.lst (out++[.tup [dn z.t,dn m,.str k,d]])))/\ae M3 q (.lst (out++[.tup [dn z.t,dn m,.str k,d]])) q=some (.lst out')/\ae M3 q (.lst (out++[.tup [dn z.t,dn m,.str k,d]])) sd=some (.ah (.aK (putD ks m (.bl true))))/\cT E rp/\out'.length+(j-1)<=E.length/\∀rest,eW zs k (m::sp) rp rest->eW zs k [n] rep (out'++rest)):=by
      intro d ed _;refine⟨d,_,_,_,rfl,H3.write (by simp) f1 q1 q2 q3 q4,(S2.trans S3).put hq,aq,by rw[ag hqs.symm];exact hs3,by rw[ed];exact hin,by rw[Zp];show out.length+1+(j-1)<=_;room,λrest hr=>?_⟩
      rw[List.append_assoc];subst ed;exact hch _ (.step hms eu hr)
     have g2:=go _ rfl hq3;clear go;generalize eU z.t z.l z.r m k=d at ew g2;subst ew;refine au cS ?_
     try w_up
     refine⟨rfl,rfl,?_⟩;have et:(!decide (w=[97,119,97,121]))=true:=by
      rw[Zt (show ¬ w=[97,119,97,121] from hw3)];rfl
     rw[et];refine bj ?_;erw[hq3];refine au rfl ?_;refine⟨az (by decide),?_⟩
     erw[hq3];exact⟨fA (by room),g2⟩
   w_up;obtain⟨kt,t1,t2,t3⟩:=H2.ht;refine⟨p,_,_,rfl,H2.ob,jo,m,td,kt,rfl,rfl,t1,?_⟩;cases et:aw kt m with
   |some v=>
    obtain⟨z,a1,a2,_⟩:=t3 m v et;refine bj ⟨p,_,_,rfl,H2.ob,jo,m,td,kt,v,rfl,rfl,t1,et,?_⟩;have ev:v=kZ zs m k:=by rw[Q2C a1];exact a2 k hk
    rw[ev];exact told M2 (H2.le (by room)) (HSub.refl pd td M2)
   |none=>
    refine br ?_;erw[h327];w_up;exact⟨p,_,rfl,H2.ob,iB,M0,p,zd,pd,td,_,zs,c',m,k,rfl,H2,av,by room,hk,by room,λM3 H3 S3=>told M3 H3 S3⟩
 ·refine fin (.stop λm' l' e'=>?_);injection e' with e';injection e' with e' _;injection e' with e';exact absurd e' (by rw[Zo]at qe;exact qe)
def sp_aL:aU:=λds M R=>∃(M0:DH) (p zd pd td:Addr) (fo:List Addr) (zs:List Zn) (c:Nat) (t:Option (List W)) (n:List W) (k:W),ds=[.ref p,jH t,dn n,.str k]/\HX M0 M p zd pd td fo zs c/\(∀z∈zs,bx z)/\c+2 * (iT zs).length+1<=15000000/\zs.length<=8 /\
 ¬ eR k/\n.length<=900/\(∀a,t=some a->n.take a.length=a)/\∀M' out,HX M0 M' p zd pd td fo zs (c+1+2 * (iT zs).length)->HSub pd td M M'->eW zs k [n] (cq zs t n k) out->R (.tup [cq zs t n k,.lst out]) M'
theorem ok_aL(T:Tab)(h326:T.mt 326=some ⟨"House","beside",3,sp_aC⟩)(h325:T.mt 325=some ⟨"House","reply",3,sp_ac⟩):bp T b_aL sp_aL ["","","","",""]:=by
 rintro ds M R ⟨M0,p,zd,pd,td,fo,zs,c,t,n,k,rfl,H,av,hc,h8,hk,hn,ht,h⟩;erw[b_aL];walk_at "q0";erw[h325];w_up;refine⟨p,_,rfl,H.ob,iB,M0,p,zd,pd,td,fo,zs,c,t,n,k,rfl,H,av,by room,hk,hn,ht,λM' H' S'=>?_⟩
 rw[e1];clear e1;w_up;erw[h326];w_up;refine⟨p,_,rfl,H'.ob,iB,M0,p,zd,pd,td,fo,zs,c+1,cq zs t n k,n,k,iT zs,rfl,H'.le (le_succ c),av,by room,hk,Q7y av t n k,λm hm=>hm,λM2 out H2 S2 hch=>⟨az (by decide),aV (h M2 out H2 (S'.trans S2) hch)⟩⟩
theorem c9.of(h:c9 zs)(w:W):∀z∈ofD zs w,bx z:=λz hz=>h.ok z (QcU hz)
theorem c9.ir(h:c9 zs)(w:W):(iT (ofD zs w)).length<=480:=by
 have h1:=Q5O (h.of w);have h2:=h.len w;room
structure Hr where
 p:Addr
 zd:Addr
 pd:Addr
 td:Addr
noncomputable def Hr.ad(h:Hr):List Addr:=[h.p,h.zd,h.pd,h.td]
noncomputable def stK(ks:List W)(rc:W->Hr):List (W×D):=ks.map λw=>(w,.ref (rc w).p)
theorem rL(rc:W->Hr)(o:W):∀ks:List W,dh (stK ks rc) o=if o∈ks then some (.ref (rc o).p) else none
 |[]=>rfl
 |w::ks=>by
  unfold stK;rw[Zu];by_cases e:w=o
  ·subst e;rw[Q2N rfl,Zg Zk]
  ·rw[Q2O e];have ih:=rL rc o ks;unfold stK at ih;rw[ih];by_cases h:o∈ks
   ·rw[Zg h,Zg (Zc _ h)]
   ·rw[Zd h,Zd λz=>(Zf.mp z).elim (λy=>e y.symm) h]
section
variable{M0 M:DH}{p r d s x y:Addr}{top:List W}{life:Int}{kr kd ks:List (List W×D)}{rr rd:List Rw}{S:List W->Prop}{k:Nat}
theorem PG.side(h:PG M0 M p r d s top life kr kd ks rr rd S k)(hM:HSub x y M M')(n1:x≠p/\x≠r/\x≠d/\x≠s/\∀n,aw kr n≠some (.ref x))(n2:y≠p/\y≠r/\y≠d/\y≠s/\∀n,aw kr n≠some (.ref y))(sb:Sub M0 M'):PG M0 M' p r d s top life kr kd ks rr rd S k:=
 {h with
  ob:=hM _ _ n1.1.symm n2.1.symm h.ob
  sub:=sb
  hR:={h.hR with
   m:=hM _ _ n1.2.1.symm n2.2.1.symm h.hR.m
   v:=λn v e=>by
    obtain⟨l,rfl,h1,h2⟩:=h.hR.v n v e;exact⟨l,rfl,hM _ _ (λz=>n1.2.2.2.2 n (by rw[<- z];exact e)) (λz=>n2.2.2.2.2 n (by rw[<- z];exact e)) h1,h2⟩}
  hD:={h.hD with m:=hM _ _ n1.2.2.1.symm n2.2.2.1.symm h.hD.m}
  hS:={h.hS with m:=hM _ _ n1.2.2.2.1.symm n2.2.2.2.1.symm h.hS.m}}
end
theorem aJ.side(h:aJ M0 M fo pg z)(hx:x∈fo)(hy:y∈fo)(hM:HSub x y M M')(sb:Sub M0 M'):aJ M0 M' fo pg z:=by
 obtain⟨r,d,s,kr,kd,ks,G,k⟩:=h;exact⟨r,d,s,kr,kd,ks,G.side hM (k x hx) (k y hy) sb,k⟩
theorem aJ.adds(h:aJ M0 M fo pg z):∀{ex:List Addr},(∀b∈ex,M b=none)->aJ M0 M (ex++fo) pg z
 |[],_=>h
 |b::ex,he=>(aJ.adds h (ex:=ex) λc hc=>he c (Zc _ hc)).add (he b Zk)
section
variable{M0 M M':DH}{p zd pd td x y:Addr}{fo ex:List Addr}{zs:List Zn}{c:Nat}
theorem HX.grows(h:HX M0 M p zd pd td fo zs c)(s:Sub M M')(he:∀b∈ex,M b=none/\∃o,M' b=some o):HX M0 M' p zd pd td (ex++fo) zs c:=by
 have h2:=h.mono s;exact {h2 with
  fp:=Zl _ h.fp
  ft:=Zl _ h.ft
  fi:=λc hc=>(Z1.mp hc).elim (λhc=>(he c hc).2) (h2.fi c)
  hp:=by
   obtain⟨kp,e1,e2,e3⟩:=h.hp;refine⟨kp,s _ _ e1,e2,λn v e=>?_⟩;obtain⟨z,pg,q1,q2,q3⟩:=e3 n v e;exact⟨z,pg,q1,q2,(q3.adds λb hb=>(he b hb).1).mono s⟩}
theorem HX.side(h:HX M0 M p zd pd td fo zs c)(S:HSub x y M M')(sb:Sub M0 M')(hx:x∈fo)(hy:y∈fo)(n:∀b∈[p,zd,pd,td],b≠x/\b≠y)(he:∀b∈ex,M b=none/\∃o,M' b=some o)(ox:∃o,M' x=some o)(oy:∃o,M' y=some o):HX M0 M' p zd pd td (ex++fo) zs c:=
 {h with
  ob:=S _ _ (n p (by simp)).1 (n p (by simp)).2 h.ob
  sub:=sb
  fp:=Zl _ h.fp
  ft:=Zl _ h.ft
  fi:=λc hc=>by
   rcases Z1.mp hc with hc|hc
   ·exact (he c hc).2
   ·by_cases e1:c=x
    ·rw[e1];exact ox
    by_cases e2:c=y
    ·rw[e2];exact oy
    obtain⟨o,ho⟩:=h.fi c hc;exact⟨o,S _ _ e1 e2 ho⟩
  hz:=by obtain⟨kz,e1,e2⟩:=h.hz;exact⟨kz,S _ _ (n zd (by simp)).1 (n zd (by simp)).2 e1,e2⟩
  hp:=by
   obtain⟨kp,e1,e2,e3⟩:=h.hp;refine⟨kp,S _ _ (n pd (by simp)).1 (n pd (by simp)).2 e1,e2,λn v e=>?_⟩
   obtain⟨z,pg,q1,q2,q3⟩:=e3 n v e;exact⟨z,pg,q1,q2,(q3.adds λb hb=>(he b hb).1).side (Zl _ hx) (Zl _ hy) S sb⟩
  ht:=by obtain⟨kt,e1,e2,e3⟩:=h.ht;exact⟨kt,S _ _ (n td (by simp)).1 (n td (by simp)).2 e1,e2,e3⟩}
end
theorem HX.kinds{M0 M:DH}{h:Hr}{fo:List Addr}{zs:List Zn}{c:Nat}(hn:HX M0 M h.p h.zd h.pd h.td fo zs c){b:Addr}(hb:b∈h.ad):M b=some (.ah (.ins "House" (ip h.zd h.pd h.td)))\/∃kz,M b=some (.ah (.aK kz)):=by
 obtain⟨kz,a1,_⟩:=hn.hz;obtain⟨kp,b1,_⟩:=hn.hp;obtain⟨kt,c1,_⟩:=hn.ht;erw[Hr.ad,Zf,Zm,Zv]at hb;rcases hb with rfl|rfl|rfl|rfl
 ·exact .inl hn.ob
 ·exact .inr ⟨kz,a1⟩
 ·exact .inr ⟨_,b1⟩
 ·exact .inr ⟨_,c1⟩
noncomputable def b_aS:CS:=by walk_at "~cu!uf%House %pages &0&1lscr%House %turned &0Pb"
noncomputable def b_aU:CS:=by walk_at "~cJf%House %zones &0d&1#0&1cuj334&0ad&1#0bb"
theorem Qbs(e:M a=some o):ae M a o=M:=funext λb=>by
 by_cases h:b=a
 ·rw[h,aq,e]
 ·exact ag h
def iP(M:DH)(a:Addr)(l:Nat):Prop:=∃kz,M a=some (.ah (.aK kz))/\kz.length<=l
noncomputable def eE(zs:List Zn)(z:Zn):List Zn:=zs.filter (λy=>!decide (y.t=z.t))++[z]
theorem Q5d(zs:List Zn)(z:Zn)(n:List W):atT (eE zs z) n=if n=z.t then some z else atT zs n:=by
 unfold atT eE;rw[List.find?_append];by_cases e:n=z.t
 ·rw[Zg e];have:(zs.filter λy=>!decide (y.t=z.t)).find? (λy=>decide (y.t=n))=none:=by
   rw[find?_eq_none];intro y hy q;have h1:=(Yq.mp hy).2;rw[Zo]at q;rw[q,e]at h1;simp at h1
  rw[this,List.find?_cons_of_pos (by simp[e])]
  rfl
 ·rw[Zd e,List.find?_filter,List.find?_cons_of_neg (by simp;exact λq=>e q.symm),List.find?_nil,Option.or_none]
  congr 1
  funext y
  by_cases q:y.t=n
  ·rw[q];simp[e]
  ·simp[q]
theorem Qbt(h:(zs.map (·.t)).Nodup):((eE zs z).map (·.t)).Nodup:=by
 unfold eE;rw[ZA,nodup_append];refine⟨h.sublist (List.Sublist.map _ filter_sublist),by simp,λa ha b hb e=>?_⟩
 obtain⟨y,hy,rfl⟩:=ZY.mp ha;have h1:=(Yq.mp hy).2;have h2:=Zh.mp hb;rw[e,h2]at h1;simp at h1
theorem Q9l(zs:List Zn)(z:Zn):(eE zs z).length<=zs.length+1:=by
 unfold eE;rw[Zp,length_singleton];exact Nat.succ_le_succ (ZS _ _)
theorem Qbu(h:(kvs.map (·.1)).Nodup)(k:List W):((delD kvs k).map (·.1)).Nodup:=h.sublist (List.Sublist.map _ filter_sublist)
def sp_aS:aU:=λds M R=>∃(p zd pd td:Addr) (kp:List (List W×D)) (t:List W),ds=[.ref p,dn t]/\M p=some (.ah (.ins "House" (ip zd pd td)))/\M pd=some (.ah (.aK kp))/\(kp.map (·.1)).Nodup /\
 ∀kp' td',(∀n,aw kp' n=if n=t then none else aw kp n)->(kp'.map (·.1)).Nodup->M td'=none->R .non (ae (ae (ae M pd (.ah (.aK kp'))) td' (.ah (.aK []))) p (.ah (.ins "House" (ip zd pd td'))))
theorem ok_aS:bp T b_aS sp_aS ["",""]:=by
 rintro ds M R ⟨p,zd,pd,td,kp,t,rfl,ob,hp,nd,h⟩;have npd:p≠pd:=gX ob hp (λz=>nomatch z)
 erw[b_aS];refine Q0c λk1 e1=>?_;have rest:∀kp',(∀n,aw kp' n=if n=t then none else aw kp n)->(kp'.map (·.1)).Nodup->k1 [some (.ref p),some (dn t)] (ae M pd (.ah (.aK kp'))):=λkp' hv hn=>by
  rw[e1];clear e1;w_up;intro q hq;have pq:p≠q:=λz=>by rw[<- z,ag npd,ob]at hq;cases hq
  have dq:pd≠q:=λz=>by rw[<- z,aq]at hq;cases hq
  rw[ag dq.symm]at hq;have ef:bq ("turned":Str) (.ref q) (ip zd pd td)=ip zd pd q:=by rfl
  refine⟨p,_,rfl,by rw[ag pq,ag npd];exact ob,by show (3:Nat)<1000;decide,?_⟩
  rw[ef];exact aV (h kp' q hv hn hq)
 w_up;refine⟨p,_,_,rfl,ob,fj,pd,kp,rfl,hp,t,kp,rfl,hp,λhv=>?_,λd hv=>?_⟩
 ·have:=rest kp (λn=>by
   by_cases e:n=t
   ·rw[Zg e,e];exact hv
   ·rw[Zd e]) nd
  rw[Qbs hp]at this;exact this
 ·exact rest (delD kp t) (λn=>Q4T t n kp) (Qbu nd t)
def sp_aU:aU:=λds M R=>∃(M0:DH) (p zd pd td:Addr) (fo:List Addr) (zs:List Zn) (c l:Nat) (z:Zn),ds=[.ref p,z.v]/\HX M0 M p zd pd td fo zs c/\p∈fo/\zd∈fo/\M0 p=none/\zs.length<=800/\iP M zd l/\l<=900 /\
 ∀M' td',HX M0 M' p zd pd td' (td'::fo) (eE zs z) 0->iP M' zd (l+1)->M td'=none->(∀b,b≠p->b≠zd->b≠pd->b≠td'->M' b=M b)->R .non M'
theorem ok_aU(T:Tab)(h334:T.mt 334=some ⟨"House","let_go",1,sp_aS⟩):bp T b_aU sp_aU ["",""]:=by
 rintro ds M R ⟨M0,p,zd,pd,td,fo,zs,c,l,z,rfl,hx,pf,zf,p0,hl,⟨kz,z1,z3⟩,hl2,h⟩;obtain⟨kz9,z9,z2⟩:=hx.hz;rw[z1]at z9;cases z9;obtain⟨kp,p1,p2,p3⟩:=hx.hp;have npz:p≠zd:=gX hx.ob z1 (λz=>nomatch z)
 have npd:p≠pd:=gX hx.ob p1 (λz=>nomatch z)
 erw[b_aU];refine Q0c λk1 e1=>?_;erw[Zn.v,zD];w_up;refine⟨p,_,_,rfl,hx.ob,gZ,?_⟩;refine au rfl ?_;refine⟨zd,z.t,kz,rfl,rfl,z1,aL (by room),?_⟩
 show k1 _ (ae M zd (.ah (.aK (putD kz z.t z.v))));rw[e1];clear e1;w_up;erw[h334];w_up;refine⟨p,_,rfl,by rw[ag npz];exact hx.ob,iB,?_⟩
 refine au rfl ?_;refine⟨p,zd,pd,td,kp,z.t,rfl,by rw[ag npz];exact hx.ob,by rw[ag hx.n1.symm];exact p1,p2,λkp' td' hv hn ft=>?_⟩
 have tz:td'≠zd:=λy=>by rw[y,aq]at ft;cases ft
 rw[ag tz]at ft;have tp:td'≠p:=λy=>by rw[y,hx.ob]at ft;cases ft
 have tpd:td'≠pd:=λy=>by rw[y,p1]at ft;cases ft
 have t0:M0 td'=none:=hx.sub.none ft;refine aV (h _ td' ⟨aq,hx.n1,tz.symm,tpd.symm,hx.f1,t0,hx.f0,?_,Zc _ hx.fp,Zk,λb hb=>?_,⟨putD kz z.t z.v,?_,λn=>?_⟩,?_,⟨kp',?_,hn,λn v e=>?_⟩,⟨[],?_,Zy _,λn v e=>(nomatch e)⟩,Qbt hx.nd⟩ ⟨putD kz z.t z.v,?_,?_⟩ ft λb b1 b2 b3 b4=>by rw[ag b1,ag b4,ag b3,ag b2])
 ·exact (((hx.sub.put hx.f0).put hx.f1).put t0).put p0
 ·by_cases q1:b=p
  ·rw[q1];exact⟨_,aq⟩
  rw[ag q1];by_cases q2:b=td'
  ·rw[q2];exact⟨_,aq⟩
  rw[ag q2];by_cases q3:b=pd
  ·rw[q3];exact⟨_,aq⟩
  rw[ag q3];by_cases q4:b=zd
  ·rw[q4];exact⟨_,aq⟩
  rw[ag q4];exact hx.fi b ((Zf.mp hb).resolve_left q2)
 ·rw[ag npz.symm,ag tz.symm,ag hx.n1];exact aq
 ·rw[iA,Q5d];by_cases e:n=z.t
  ·rw[Zg e,Zg e];rfl
  ·rw[Zd e,Zd e];exact z2 n
 ·have:=Q9l zs z;room
 ·rw[ag npd.symm,ag tpd.symm];exact aq
 ·rw[hv n]at e;by_cases q:n=z.t
  ·rw[Zg q]at e;cases e
  rw[Zd q]at e;obtain⟨y,pg,y1,y2,y3⟩:=p3 n v e;refine⟨y,pg,by rw[Q5d,Zd q];exact y1,y2,?_⟩
  have a1:=y3.apart (o:=.ah (.aK (putD kz z.t z.v))) zf hx.f0;have a2:=a1.apart (o:=.ah (.aK kp')) hx.fp hx.f1;have a3:=(a2.add (b:=td') (by rw[ag tpd,ag tz];exact ft)).apart (o:=.ah (.aK [])) Zk t0
  exact a3.apart (Zc _ pf) p0
 ·rw[ag tp];exact aq
 ·rw[ag npz.symm,ag tz.symm,ag hx.n1];exact aq
 ·have:=oR kz z.t z.v;room
noncomputable def b_av:CS:=by walk_at "~c!a%World %times_asked &0#1chj324!vf%World %street &0&1K320anbba&2a&3a&4bb"
noncomputable def b_aq:CS:=by walk_at "~chf%World %root_door &0b"
noncomputable def b_al:CS:=by walk_at "~chf%World %now &0b"
noncomputable def b_ag:CS:=by walk_at "~cr%World %root_door &0&1cr%World %now &0#0cr%World %times_asked &0#0cr%World %street &0!wb"
noncomputable def wF(root:W)(now asks:Int)(sd:Addr):List (Str×D):=[(("root_door":Str),.str root),(("now":Str),.int now),(("times_asked":Str),.int asks),(("street":Str),.ref sd)]
def sp_ag:aU:=λds M R=>∃(p:Addr) (root:W),ds=[.ref p,.str root]/\M p=some (.ah (.ins "World" []))/\∀sd,M sd=none->R .non (ae (ae M sd (.ah (.d8 []))) p (.ah (.ins "World" (wF root 0 0 sd))))
theorem ok_ag:bp T b_ag sp_ag ["",""]:=by
 rintro ds M R ⟨p,root,rfl,hp,h⟩;erw[b_ag];w_up;refine⟨p,_,rfl,hp,by decide,p,_,rfl,aq,by show (1:Nat)<1000;decide,p,_,rfl,aq,by show (2:Nat)<1000;decide,λsd hsd=>?_⟩
 erw[kI]at hsd ⊢;have ps:sd≠p:=λz=>by rw[z,aq]at hsd;cases hsd
 rw[ag ps]at hsd;refine⟨p,_,rfl,by rw[ag ps.symm];exact aq,by show (3:Nat)<1000;decide,?_⟩
 have ef:bq ("street":Str) (.ref sd) (bq ("times_asked":Str) (.int 0) (bq ("now":Str) (.int 0) (bq ("root_door":Str) (.str root) [])))=wF root 0 0 sd:=by rfl
 have eM:∀X Y Z:MO,ae (ae (ae M p X) sd Y) p Z=ae (ae M sd Y) p Z:=λX Y Z=>by
  funext b
  by_cases e1:b=p
  ·rw[e1,aq,aq]
  ·rw[ag e1,ag e1];by_cases e2:b=sd
   ·rw[e2,aq,aq]
   ·rw[ag e2,ag e2,ag e1]
 rw[eM];refine aV ?_;have:=h sd hsd;rw[<- ef]at this;exact this
def sp_al:aU:=λds M R=>∃(p sd:Addr) (root:W) (now asks:Int),ds=[.ref p]/\M p=some (.ah (.ins "World" (wF root now asks sd)))/\R (.int now) M
theorem ok_al:bp T b_al sp_al [""]:=by
 rintro ds M R ⟨p,sd,root,now,asks,rfl,hp,h⟩;erw[b_al];w_up;exact⟨p,_,_,rfl,hp,(aO (by kd_p)).trans du,aV h⟩
noncomputable def fJ(ex:List Addr)(wp sd:Addr)(ks:List W)(rc:W->Hr):List Addr:=ex++wp::sd::ks.flatMap λw=>(rc w).ad
structure WX(M0 M:DH)(wp sd:Addr)(root:W)(now asks:Int)(ks:List W)(rc:W->Hr)(zs:List Zn)(ex:List Addr)(c l:Nat):Prop where
 ob:M wp=some (.ah (.ins "World" (wF root now asks sd)))
 st:M sd=some (.ah (.d8 (stK ks rc)))
 f1:M0 wp=none
 f2:M0 sd=none
 sub:Sub M0 M
 hx:∀w∈ks,HX M0 M (rc w).p (rc w).zd (rc w).pd (rc w).td (fJ ex wp sd ks rc) (ofD zs w) c
 fr:∀w∈ks,M0 (rc w).p=none
 ap:∀w∈ks,∀w'∈ks,∀b,b∈(rc w).ad->b∈(rc w').ad->w=w'
 no:∀w,w∉ks->ofD zs w=[]
 zl:∀w∈ks,iP M (rc w).zd l
 ee:∀b∈ex,∃o,M b=some o
 nx:∀b∈ex,M0 b=none/\b≠wp/\b≠sd/\∀w∈ks,b∉(rc w).ad
theorem aN{h:Hr}{b:Addr}:b∈h.ad <-> b=h.p\/b=h.zd\/b=h.pd\/b=h.td:=by simp[Hr.ad]
theorem bX{rc:W->Hr}(h:w∈ks)(hb:b∈(rc w).ad):b∈fJ ex wp sd ks rc:=Zl _ (Zc _ (Zc _ (mem_flatMap.mpr ⟨w,h,hb⟩)))
theorem eO{rc:W->Hr}:wp∈fJ ex wp sd ks rc/\sd∈fJ ex wp sd ks rc:=⟨Zl _ Zk,Zl _ (Zc _ Zk)⟩
theorem iP.mono(h:iP M a l)(s:Sub M M'):iP M' a l:=let ⟨k,e,q⟩:=h;⟨k,s _ _ e,q⟩
theorem HX.kd{M0 M:DH}{h:Hr}{fo:List Addr}{zs:List Zn}{c:Nat}(hn:HX M0 M h.p h.zd h.pd h.td fo zs c){b:Addr}(hb:b∈h.ad){u:MO}(e:M b=some u):u=.ah (.ins "House" (ip h.zd h.pd h.td))\/∃kz,u=.ah (.aK kz):=by
 rcases hn.kinds hb with q|⟨kz,q⟩<;>rw[e]at q<;>cases q
 ·exact .inl rfl
 ·exact .inr ⟨kz,rfl⟩
section
variable{M0 M M1:DH}{wp sd:Addr}{root:W}{now asks:Int}{ks:List W}{rc:W->Hr}{zs:List Zn}{ex:List Addr}{c l:Nat}
theorem WX.mono(h:WX M0 M wp sd root now asks ks rc zs ex c l)(s:Sub M M1):WX M0 M1 wp sd root now asks ks rc zs ex c l:=
 {h with ob:=s _ _ h.ob,st:=s _ _ h.st,sub:=h.sub.trans s,hx:=λw hw=>(h.hx w hw).mono s,zl:=λw hw=>(h.zl w hw).mono s,ee:=λb hb=>let ⟨o,e⟩:=h.ee b hb;⟨o,s _ _ e⟩}
theorem WX.le(h:WX M0 M wp sd root now asks ks rc zs ex c l)(hc:c<=c'):WX M0 M wp sd root now asks ks rc zs ex c' l:={h with hx:=λw hw=>(h.hx w hw).le hc}
theorem WX.own(h:WX M0 M wp sd root now asks ks rc zs ex c l){w:W}(hw:w∈ks){b:Addr}(hb:b∈(rc w).ad):b≠wp/\b≠sd/\∃u,M b=some u:=by
 have hx:=h.hx w hw;obtain⟨u,hu⟩:=hx.fi b (bX hw hb);refine⟨λe=>?_,λe=>?_,u,hu⟩
 ·rw[e,h.ob]at hu;injection hu with hu;rcases hx.kd hb (e ▸ h.ob) with q|⟨_,q⟩
  ·injection q with q;injection q with q;exact absurd q (by kd_p)
  ·cases q
 ·rcases hx.kd hb (e ▸ h.st) with q|⟨_,q⟩<;>cases q
theorem WX.nws(h:WX M0 M wp sd root now asks ks rc zs ex c l):wp≠sd:=gX h.ob h.st (λz=>nomatch z)
theorem WX.add(h:WX M0 M wp sd root now asks ks rc zs ex c l)(hb:M b=none):WX M0 (ae M b o) wp sd root now asks ks rc zs (b::ex) c l:=by
 have h2:=h.mono (Sub.new (o:=o) hb);refine {h2 with hx:=λw hw=>(h.hx w hw).add hb,ee:=λa ha=>?_,nx:=λa ha=>?_}
 ·rcases Zf.mp ha with e|ha
  ·rw[e];exact⟨o,aq⟩
  ·exact h2.ee a ha
 ·rcases Zf.mp ha with e|ha
  ·rw[e];refine⟨h.sub.none hb,(λz=>by rw[z,h.ob]at hb;cases hb),(λz=>by rw[z,h.st]at hb;cases hb),λw hw z=>?_⟩
   obtain⟨u,hu⟩:=(h.own hw z).2.2;rw[hb]at hu;cases hu
  ·exact h.nx a ha
theorem iP.off(h:iP M a l)(n:a≠b):iP (ae M b o) a l:=let ⟨k,e,q⟩:=h;⟨k,by rw[ag n];exact e,q⟩
theorem WX.write{b:Addr}{o:MO}(h:WX M0 M wp sd root now asks ks rc zs ex c l)(hb:b∈ex):WX M0 (ae M b o) wp sd root now asks ks rc zs ex c l:=by
 obtain⟨b0,b1,b2,b3⟩:=h.nx b hb;have ne:∀w∈ks,∀a∈(rc w).ad,b≠a:=λw hw a ha e=>b3 w hw (e ▸ ha);exact {h with
  ob:=by rw[ag b1.symm];exact h.ob
  st:=by rw[ag b2.symm];exact h.st
  sub:=h.sub.put b0
  hx:=λw hw=>(h.hx w hw).write (Z5 _ hb) b0 (ne w hw _ (aN.mpr (.inl rfl))) (ne w hw _ (aN.mpr (.inr (.inl rfl)))) (ne w hw _ (aN.mpr (.inr (.inr (.inl rfl))))) (ne w hw _ (aN.mpr (.inr (.inr (.inr rfl)))))
  zl:=λw hw=>(h.zl w hw).off (ne w hw _ (aN.mpr (.inr (.inl rfl)))).symm
  ee:=λa ha=>by
   by_cases e:a=b
   ·rw[e];exact⟨o,aq⟩
   ·rw[ag e];exact h.ee a ha}
theorem WX.tick(h:WX M0 M wp sd root now asks ks rc zs ex c l)(now' asks':Int):WX M0 (ae M wp (.ah (.ins "World" (wF root now' asks' sd)))) wp sd root now' asks' ks rc zs ex c l:=by
 have ne:∀w∈ks,∀a∈(rc w).ad,wp≠a:=λw hw a ha e=>(h.own hw ha).1 e.symm;exact {h with
  ob:=aq
  st:=by rw[ag h.nws.symm];exact h.st
  sub:=h.sub.put h.f1
  hx:=λw hw=>(h.hx w hw).write eO.1 h.f1 (ne w hw _ (aN.mpr (.inl rfl))) (ne w hw _ (aN.mpr (.inr (.inl rfl)))) (ne w hw _ (aN.mpr (.inr (.inr (.inl rfl))))) (ne w hw _ (aN.mpr (.inr (.inr (.inr rfl)))))
  zl:=λw hw=>(h.zl w hw).off (ne w hw _ (aN.mpr (.inr (.inl rfl)))).symm
  ee:=λa ha=>by rw[ag (h.nx a ha).2.1];exact h.ee a ha}
end
def l8(wp:Addr)(ks:List W)(rc:W->Hr)(M M':DH):Prop:=∀b u,b≠wp->(∀w∈ks,b∉(rc w).ad)->M b=some u->M' b=some u
theorem c4{root:W}{now asks:Int}{sd:Addr}{m:Str}(a:(m == "root_door")=false:=by kd_p)(b:(m == "now")=false:=by kd_p)(c:(m == "times_asked")=false:=by kd_p)(d:(m == "street")=false:=by kd_p):List.lookup m (wF root now asks sd)=none:=(aO a).trans ((aO b).trans ((aO c).trans ((aO d).trans rfl)))
theorem Q3S:List.lookup ("street":Str) (wF root now asks sd)=some (.ref sd):=(aO (by kd_p)).trans ((aO (by kd_p)).trans ((aO (by kd_p)).trans du))
theorem QcV:List.lookup ("now":Str) (wF root now asks sd)=some (.int now):=(aO (by kd_p)).trans du
theorem Qbv:List.lookup ("times_asked":Str) (wF root now asks sd)=some (.int asks):=(aO (by kd_p)).trans ((aO (by kd_p)).trans du)
def sp_aq:aU:=λds M R=>∃(p sd:Addr) (root:W) (now asks:Int),ds=[.ref p]/\M p=some (.ah (.ins "World" (wF root now asks sd)))/\R (.str root) M
theorem ok_aq:bp T b_aq sp_aq [""]:=by
 rintro ds M R ⟨p,sd,root,now,asks,rfl,hp,h⟩;erw[b_aq];w_up;exact⟨p,_,_,rfl,hp,du,aV h⟩
def sp_av:aU:=λds M R=>∃(M0:DH) (wp sd:Addr) (root:W) (now asks:Int) (ks:List W) (rc:W->Hr) (zs:List Zn) (ex:List Addr) (c l:Nat) (o:W) (t n:List W) (k:W),ds=[.ref wp,.str o,dn t,dn n,.str k]/\WX M0 M wp sd root now asks ks rc zs ex c l/\c9 zs/\c<=10000000/\¬ eR k/\n.length<=900/\n.take t.length=t /\
 ∀M' out,WX M0 M' wp sd root now (asks+1) ks rc zs ex (c+1000) l->l8 wp ks rc M M'->eW (ofD zs o) k [n] (cq (ofD zs o) (some t) n k) out->R (.tup [cq (ofD zs o) (some t) n k,.lst out]) M'
theorem ok_av(T:Tab)(h324:T.mt 324=some ⟨"House","speak",3,sp_aL⟩)(h320:T.cQ 320=some ⟨"House","__init__",1,sp_ad⟩):bp T b_av sp_av ["","","","",""]:=by
 rintro ds M R ⟨M0,wp,sd,root,now,asks,ks,rc,zs,ex,c,l,o,t,n,k,rfl,wi,hz,hc,hk,hn,ht,h⟩;erw[b_av];walk_at "q0";refine⟨wp,_,asks,rfl,wi.ob,Qbv,1,_,rfl,wi.ob,by show (4:Nat)<1000;decide,?_⟩
 have ef:bq ("times_asked":Str) (.int (asks+1)) (wF root now asks sd)=wF root now (asks+1) sd:=by rfl
 rw[ef];have wa:=wi.tick now (asks+1);have st0:l8 wp ks rc M (ae M wp (.ah (.ins "World" (wF root now (asks+1) sd)))):=λb u b1 _ e=>by rw[ag b1];exact e
 generalize ae M wp (.ah (.ins "World" (wF root now (asks+1) sd)))=Ma at wa st0;clear wi;rw[e1];clear e1;w_up;erw[h324,h320];w_up;refine⟨wp,_,_,rfl,wa.ob,Q3S,sd,_,rfl,wa.st,az (by decide),λx hx=>⟨x,_,[],rfl,aq,rfl,Z8 _,nodup_nil,λMb zd pd td pz kk=>⟨rfl,?_⟩⟩⟩
 have H:=kk Ma (Sub.new hx) hx;have wb:=wa.mono H.sub;have ir:=hz.ir o;refine⟨o,stK ks rc,rfl,wb.st,?_⟩;rw[rL];by_cases ho:o∈ks
 ·rw[Zg ho];have Ho:=wb.hx o ho;refine⟨(rc o).p,_,rfl,Ho.ob,iB,M0,(rc o).p,(rc o).zd,(rc o).pd,(rc o).td,_,ofD zs o,c,some t,n,k,rfl,Ho,hz.of o,by room,hz.l o,hk,hn,(λa ea=>by cases ea;exact ht),λM' out H2 S2 hch=>?_⟩
  obtain⟨kp2,q2,_⟩:=H2.hp;obtain⟨kt2,t2,_⟩:=H2.ht;have cV:∀b u,b≠(rc o).pd->b≠(rc o).td->Mb b=some u->M' b=some u:=λb u b1 b2 e=>S2 b u b1 b2 e;have off:∀b,b=wp\/b=sd\/b∈ex->b≠(rc o).pd/\b≠(rc o).td:=λb hb=>by
   have g1:=wb.own ho (b:=(rc o).pd) (aN.mpr (.inr (.inr (.inl rfl))));have g2:=wb.own ho (b:=(rc o).td) (aN.mpr (.inr (.inr (.inr rfl))));rcases hb with e|e|e
   ·rw[e];exact⟨g1.1.symm,g2.1.symm⟩
   ·rw[e];exact⟨g1.2.1.symm,g2.2.1.symm⟩
   ·have:=(wb.nx b e).2.2.2 o ho;exact⟨λz=>this (aN.mpr (.inr (.inr (.inl z)))),λz=>this (aN.mpr (.inr (.inr (.inr z))))⟩
  refine aV (h M' out ?_ (λb u b1 b2 e=>cV b u (λz=>b2 o ho (aN.mpr (.inr (.inr (.inl z))))) (λz=>b2 o ho (aN.mpr (.inr (.inr (.inr z))))) (H.sub _ _ (st0 b u b1 b2 e))) hch);refine {wb with
   ob:=cV _ _ (off wp (.inl rfl)).1 (off wp (.inl rfl)).2 wb.ob
   st:=cV _ _ (off sd (.inr (.inl rfl))).1 (off sd (.inr (.inl rfl))).2 wb.st
   sub:=H2.sub
   hx:=λw hw=>?_
   zl:=λw hw=>?_
   ee:=λb hb=>let ⟨u,e⟩:=wb.ee b hb;⟨u,cV _ _ (off b (.inr (.inr hb))).1 (off b (.inr (.inr hb))).2 e⟩}
  ·by_cases e:w=o
   ·rw[e];exact H2.le (by room)
   ·have n4:∀b∈[(rc w).p,(rc w).zd,(rc w).pd,(rc w).td],b≠(rc o).pd/\b≠(rc o).td:=λb hb=>⟨λz=>e (wb.ap w hw o ho b hb (by rw[z];exact aN.mpr (.inr (.inr (.inl rfl))))),λz=>e (wb.ap w hw o ho b hb (by rw[z];exact aN.mpr (.inr (.inr (.inr rfl)))))⟩
    exact ((wb.hx w hw).side (ex:=[]) S2 H2.sub (bX ho (aN.mpr (.inr (.inr (.inl rfl))))) (bX ho (aN.mpr (.inr (.inr (.inr rfl))))) n4 (λb hb=>nomatch hb) ⟨_,q2⟩ ⟨_,t2⟩).le (by room)
  ·obtain⟨kz,y1,y2⟩:=wb.zl w hw;refine⟨kz,cV _ _ (λz=>?_) (λz=>?_) y1,y2⟩
   ·have e:=wb.ap w hw o ho _ (aN.mpr (.inr (.inl rfl))) (by rw[z];exact aN.mpr (.inr (.inr (.inl rfl))))
    rw[e]at z;exact Ho.n1 z
   ·have e:=wb.ap w hw o ho _ (aN.mpr (.inr (.inl rfl))) (by rw[z];exact aN.mpr (.inr (.inr (.inr rfl))))
    rw[e]at z;exact Ho.n2 z
 ·rw[Zd ho];have e0:=wb.no o ho;refine⟨x,_,rfl,H.ob,iB,Ma,x,zd,pd,td,_,[],0,some t,n,k,rfl,H,(λz hz=>nomatch hz),by decide,by decide,hk,hn,(λa ea=>by cases ea;exact ht),λM' out H2 S2 hch=>?_⟩
  rw[<- e0]at hch ⊢;exact aV (h M' out ((wa.mono H2.sub).le (by room)) (λb u b1 b2 e=>H2.sub _ _ (st0 b u b1 b2 e)) hch)
noncomputable def b_aw:CS:=by walk_at "~chead&0#0ad&0#1azxSad&0#2bbb"
noncomputable def b_ai:CS:=by walk_at "~cuj333!xf%World %street &0&1K320anbbao63a&2bbc!a%World %now &0#1b"
def sp_aw:aU:=λds M R=>∃z:Zn,ds=[z.v]/\R z.v M
theorem ok_aw:bp T b_aw sp_aw [""]:=by
 rintro ds M R ⟨z,rfl,h⟩;erw[b_aw,Zn.v,zD];w_up;have ix:∀(n:Nat) (d:D) (Q:DK) (M:DH),n<3->([dn z.t,.int z.l,.lst (z.r.map Rw.d)]:List D)[n]?=some d->Q d M->bD (.tup [dn z.t,.int z.l,.lst (z.r.map Rw.d)]) (.int (n:Int)) M Q:=λn d Q M hn hd hq=>ix_tup (by room) (by erw[Zs,ZN];room) λd0 hd0=>by
  rw[Int.toNat_natCast,hd]at hd0;cases hd0;exact hq
 refine ix 0 _ _ _ (by decide) rfl (ix 1 _ _ _ (by decide) rfl ?_)
 erw[cK];w_up;refine ix 2 _ _ _ (by decide) rfl ?_
 w_up;intro p hp;erw[aq,jA hp];exact⟨az (by decide),aV h⟩
noncomputable def hU(ks:List W)(w:W):List W:=if w∈ks then ks else ks++[w]
theorem Q9m(v:D)(h:(dh kvs k).isSome=false):eF kvs k v=kvs++[(k,v)]:=by
 unfold eF;rw[Q2P,h,Zd Z0]
noncomputable def dW(zs:List Zn)(z:Zn):List Zn:=zs.filter (λy=>!(decide (y.o=z.o)&&decide (y.t=z.t)))++[z]
theorem rZ(zs:List Zn)(z:Zn)(w:W):ofD (dW zs z) w=if w=z.o then eE (ofD zs w) z else ofD zs w:=by
 unfold dW eE ofD;rw[filter_append,List.filter_filter];by_cases e:w=z.o
 ·rw[Zg e,List.filter_filter,filter_cons_of_pos (by simp[e]),filter_nil]
  congr 1;refine List.filter_congr λy _=>?_;by_cases q:y.o=w
  ·simp[q,e]
  ·simp[q]
 ·rw[Zd e,filter_cons_of_neg (by simp;exact λq=>e q.symm),filter_nil,append_nil]
  refine List.filter_congr λy _=>?_;by_cases q:y.o=w
  ·have:¬ y.o=z.o:=λr=>e (q.symm.trans r);simp[q,e]
  ·simp[q]
theorem Q9n(z:Zn):eE [] z=[z]:=rfl
theorem HX.any(h:HX M0 M p zd pd td fo [] c)(h1:pd∈fo')(h2:td∈fo')(hf:∀b∈fo',∃o,M b=some o):HX M0 M p zd pd td fo' [] c:=by
 refine {h with fp:=h1,ft:=h2,fi:=hf,hp:=?_};obtain⟨kp,e1,e2,e3⟩:=h.hp;exact⟨kp,e1,e2,λn v e=>by obtain⟨z,_,q,_⟩:=e3 n v e;cases q⟩
section
variable{M0 M M1:DH}{wp sd:Addr}{root:W}{now asks:Int}{ks:List W}{rc:W->Hr}{zs:List Zn}{ex:List Addr}{c l:Nat}{z:Zn}
theorem WX.upd(h:WX M0 M wp sd root now asks ks rc zs ex c l)(ho:z.o∈ks)(hn:HX M0 M1 (rc z.o).p (rc z.o).zd (rc z.o).pd td' (td'::fJ ex wp sd ks rc) (eE (ofD zs z.o) z) 0)(hz:iP M1 (rc z.o).zd (l+1))(ft:M td'=none)
  (fr:∀b,b≠(rc z.o).p->b≠(rc z.o).zd->b≠(rc z.o).pd->b≠td'->M1 b=M b):WX M0 M1 wp sd root now asks ks (λw=>if w=z.o then { rc z.o with td:=td'} else rc w) (dW zs z) ex c (l+1):=by
 have o1:=h.own ho (b:=(rc z.o).p) (aN.mpr (.inl rfl));have o2:=h.own ho (b:=(rc z.o).zd) (aN.mpr (.inr (.inl rfl)));have o3:=h.own ho (b:=(rc z.o).pd) (aN.mpr (.inr (.inr (.inl rfl))));have nt:∀b u,M b=some u->b≠td':=λb u e=>aZ e ft;have keep:∀b u,M b=some u->b∉(rc z.o).ad->M1 b=M b:=λb u e n=>fr b (λq=>n (aN.mpr (.inl q))) (λq=>n (aN.mpr (.inr (.inl q)))) (λq=>n (aN.mpr (.inr (.inr (.inl q))))) (nt b u e);have t0:M0 td'=none:=h.sub.none ft;have ntd:∀w∈ks,td'∉(rc w).ad:=λw hw y=>by
  obtain⟨u,hu⟩:=(h.own hw y).2.2;rw[ft]at hu;cases hu
 have key:∀w∈ks,∀b,b∈((λw=>if w=z.o then { rc z.o with td:=td'} else rc w) w:Hr).ad->b∈(rc w).ad\/(w=z.o/\b=td'):=λw _ b hb=>by
  by_cases e:w=z.o
  ·erw[Zg e]at hb;rw[aN]at hb;rw[e];rcases hb with q|q|q|q
   ·exact .inl (aN.mpr (.inl q))
   ·exact .inl (aN.mpr (.inr (.inl q)))
   ·exact .inl (aN.mpr (.inr (.inr (.inl q))))
   ·exact .inr ⟨rfl,q⟩
  ·erw[Zd e]at hb;exact .inl hb
 have fo2:∀b∈fJ ex wp sd ks (λw=>if w=z.o then { rc z.o with td:=td'} else rc w),b∈td'::fJ ex wp sd ks rc:=λb hb=>by
  rcases Z1.mp hb with hb|hb
  ·exact Zc _ (Z5 _ hb)
  rcases Zf.mp hb with e|hb
  ·rw[e];exact Zc _ eO.1
  rcases Zf.mp hb with e|hb
  ·rw[e];exact Zc _ eO.2
  obtain⟨w,hw,hb⟩:=mem_flatMap.mp hb;rcases key w hw b hb with q|⟨_,q⟩
  ·exact Zc _ (bX hw q)
  ·rw[q];exact Zk
 have now1:M1 wp=M wp:=keep _ _ h.ob λq=>(h.own ho q).1 rfl;have now2:M1 sd=M sd:=keep _ _ h.st λq=>(h.own ho q).2.1 rfl;obtain⟨kz,z1,_⟩:=hz;obtain⟨kp,p1,_⟩:=hn.hp;obtain⟨kt,t1,_⟩:=hn.ht;have eM:M1=ae (ae (ae (ae M (rc z.o).p (.ah (.ins "House" (ip (rc z.o).zd (rc z.o).pd td')))) (rc z.o).zd (.ah (.aK kz))) (rc z.o).pd (.ah (.aK kp))) td' (.ah (.aK kt)):=by
  funext b
  by_cases q4:b=td'
  ·rw[q4,aq];exact t1
  rw[ag q4];by_cases q3:b=(rc z.o).pd
  ·rw[q3,aq];exact p1
  rw[ag q3];by_cases q2:b=(rc z.o).zd
  ·rw[q2,aq];exact z1
  rw[ag q2];by_cases q1:b=(rc z.o).p
  ·rw[q1,aq];exact hn.ob
  rw[ag q1];exact fr b q1 q2 q3 q4
 have old:=h.hx z.o ho;refine⟨now1.trans h.ob,now2.trans ?_,h.f1,h.f2,hn.sub,λw hw=>?_,λw hw=>?_,λw hw w' hw' b hb hb'=>?_,λw hw=>?_,λw hw=>?_,λb hb=>?_,λb hb=>?_⟩
 ·rw[h.st];have:stK ks (λw=>if w=z.o then { rc z.o with td:=td'} else rc w)=stK ks rc:=by
   unfold stK;refine Ym λw _=>?_;by_cases e:w=z.o
   ·erw[Zg e];rw[e]
   ·erw[Zd e]
  rw[this]
 ·by_cases e:w=z.o
  ·have m:∀b∈({ rc z.o with td:=td'}:Hr).ad,b∈fJ ex wp sd ks (λw=>if w=z.o then { rc z.o with td:=td'} else rc w):=λb hb=>bX hw (by erw[Zg e];exact hb)
   erw[Zg e];rw[e,rZ,Zg rfl];exact (hn.less fo2 (m _ (aN.mpr (.inr (.inr (.inl rfl))))) (m _ (aN.mpr (.inr (.inr (.inr rfl)))))).le (Z8 _)
  ·have m:∀b∈(rc w).ad,b∈fJ ex wp sd ks (λw=>if w=z.o then { rc z.o with td:=td'} else rc w):=λb hb=>bX hw (by erw[Zd e];exact hb)
   erw[Zd e];rw[rZ,Zd e];have ne:∀a∈(rc z.o).ad,∀b∈(rc w).ad,a≠b:=λa ha b hb q=>e (h.ap w hw z.o ho b hb (q ▸ ha));have wr:∀{X:DH}{a:Addr}{o:MO},a∈(rc z.o).ad->M0 a=none->HX M0 X (rc w).p (rc w).zd (rc w).pd (rc w).td (fJ ex wp sd ks rc) (ofD zs w) c->HX M0 (ae X a o) (rc w).p (rc w).zd (rc w).pd (rc w).td (fJ ex wp sd ks rc) (ofD zs w) c:=λha h0 q=>q.write (bX ho ha) h0 (ne _ ha _ (aN.mpr (.inl rfl))) (ne _ ha _ (aN.mpr (.inr (.inl rfl)))) (ne _ ha _ (aN.mpr (.inr (.inr (.inl rfl))))) (ne _ ha _ (aN.mpr (.inr (.inr (.inr rfl)))));have q1:=wr (o:=.ah (.ins "House" (ip (rc z.o).zd (rc z.o).pd td'))) (aN.mpr (.inl rfl)) (h.fr z.o ho) (h.hx w hw);have q2:=wr (o:=.ah (.aK kz)) (aN.mpr (.inr (.inl rfl))) old.f0 q1;have q3:=wr (o:=.ah (.aK kp)) (aN.mpr (.inr (.inr (.inl rfl)))) old.f1 q2;have nn:∀a,(∃u,M a=some u)->td'≠a:=λa ⟨u,hu⟩ q=>nt a u hu q.symm;have q4:=q3.add (b:=td') (o:=.ah (.aK kt)) (by rw[ag (nn _ o3.2.2),ag (nn _ o2.2.2),ag (nn _ o1.2.2)];exact ft)
   rw[<- eM]at q4;exact q4.less fo2 (m _ (aN.mpr (.inr (.inr (.inl rfl))))) (m _ (aN.mpr (.inr (.inr (.inr rfl)))))
 ·by_cases e:w=z.o
  ·erw[Zg e];exact h.fr z.o ho
  ·erw[Zd e];exact h.fr w hw
 ·rcases key w hw b hb with h1|⟨h1,h2⟩
  ·rcases key w' hw' b hb' with h3|⟨h3,h4⟩
   ·exact h.ap w hw w' hw' b h1 h3
   ·rw[h4]at h1;exact absurd h1 (ntd w hw)
  ·rcases key w' hw' b hb' with h3|⟨h3,h4⟩
   ·rw[h2]at h3;exact absurd h3 (ntd w' hw')
   ·rw[h1,h3]
 ·rw[rZ,Zd λq=>hw (by rw[q];exact ho)]
  exact h.no w hw
 ·by_cases e:w=z.o
  ·erw[Zg e];exact⟨kz,z1,by assumption⟩
  ·erw[Zd e];obtain⟨k2,y1,y2⟩:=h.zl w hw;refine⟨k2,(keep _ _ y1 λq=>e (h.ap w hw z.o ho _ (aN.mpr (.inr (.inl rfl))) q)).trans y1,le_succ_of_le y2⟩
 ·obtain⟨u,e⟩:=h.ee b hb;exact⟨u,(keep b u e ((h.nx b hb).2.2.2 z.o ho)).trans e⟩
 ·obtain⟨n1,n2,n3,n4⟩:=h.nx b hb;refine⟨n1,n2,n3,λw hw q=>?_⟩;rcases key w hw b q with q|⟨_,q⟩
  ·exact n4 w hw q
  ·obtain⟨u,e⟩:=h.ee b hb;exact nt b u e q
theorem WX.new(h:WX M0 M wp sd root now asks ks rc zs ex c l)(ho:z.o∉ks)(hn:HX M0 M1 h'.p h'.zd h'.pd h'.td fo' [z] 0)(hf:∀b,b∈h'.ad\/b∈fJ ex wp sd ks rc->b∈fo')(hz:iP M1 h'.zd (l+1))(ft:∀b∈h'.ad,M b=none)(hs:M1 sd=some (.ah (.d8 (stK ks rc++[(z.o,.ref h'.p)]))))(fr:∀b o,M b=some o->b≠sd->M1 b=M b) :
  WX M0 M1 wp sd root now asks (ks++[z.o]) (λw=>if w=z.o then h' else rc w) (dW zs z) ex c (l+1):=by
 have ne:∀w∈ks,w≠z.o:=λw hw e=>ho (e ▸ hw);have nt:∀w∈ks,∀b∈h'.ad,b∉(rc w).ad:=λw hw b hb y=>by
  obtain⟨u,hu⟩:=(h.own hw y).2.2;rw[ft b hb]at hu;cases hu
 have key:∀w∈ks++[z.o],∀b,b∈((λw=>if w=z.o then h' else rc w) w:Hr).ad->(w∈ks/\b∈(rc w).ad)\/(w=z.o/\b∈h'.ad):=λw hw b hb=>by
  rcases Z1.mp hw with hw|hw
  ·erw[Zd (ne w hw)]at hb;exact .inl ⟨hw,hb⟩
  ·have e:=Zh.mp hw;erw[Zg e]at hb;exact .inr ⟨e,hb⟩
 have fo2:∀b∈fJ ex wp sd (ks++[z.o]) (λw=>if w=z.o then h' else rc w),b∈h'.ad\/b∈fJ ex wp sd ks rc:=λb hb=>by
  rcases Z1.mp hb with hb|hb
  ·exact .inr (Z5 _ hb)
  rcases Zf.mp hb with e|hb
  ·rw[e];exact .inr eO.1
  rcases Zf.mp hb with e|hb
  ·rw[e];exact .inr eO.2
  obtain⟨w,hw,hb⟩:=mem_flatMap.mp hb;rcases key w hw b hb with ⟨q1,q2⟩|⟨_,q⟩
  ·exact .inr (bX q1 q2)
  ·exact .inl q
 have kz2:Sub (ae M sd (.ah (.d8 (stK ks rc++[(z.o,.ref h'.p)])))) M1:=λb u e=>by
  by_cases q:b=sd
  ·rw[q,aq]at e;rw[q,hs];exact e
  ·rw[ag q]at e;rw[fr b u e q];exact e
 refine⟨(fr _ _ h.ob h.nws).trans h.ob,?_,h.f1,h.f2,hn.sub,λw hw=>?_,λw hw=>?_,λw hw w' hw' b hb hb'=>?_,λw hw=>?_,λw hw=>?_,λb hb=>?_,λb hb=>?_⟩
 ·rw[hs];have:stK (ks++[z.o]) (λw=>if w=z.o then h' else rc w)=stK ks rc++[(z.o,.ref h'.p)]:=by
   unfold stK;rw[ZA];congr 1
   ·exact Ym λw hw=>by erw[Zd (ne w hw)]
   ·simp
  rw[this]
 ·have m:∀b∈((λw=>if w=z.o then h' else rc w) w:Hr).ad,b∈fJ ex wp sd (ks++[z.o]) (λw=>if w=z.o then h' else rc w):=λb hb=>bX hw hb
  rw[rZ];rcases Z1.mp hw with hw|hw
  ·erw[Zd (ne w hw)]at m ⊢;have n4:∀a∈(rc w).ad,sd≠a:=λa ha q=>(h.own hw ha).2.1 q.symm;have q1:=(h.hx w hw).write (o:=.ah (.d8 (stK ks rc++[(z.o,.ref h'.p)]))) eO.2 h.f2 (n4 _ (aN.mpr (.inl rfl))) (n4 _ (aN.mpr (.inr (.inl rfl)))) (n4 _ (aN.mpr (.inr (.inr (.inl rfl))))) (n4 _ (aN.mpr (.inr (.inr (.inr rfl)))));have q2:=q1.grows (ex:=h'.ad) kz2 λb hb=>⟨by rw[ag (show b≠sd from λq=>by have e:=h.st;rw[<- q,ft b hb]at e;cases e)];exact ft b hb,hn.fi b (hf b (.inl hb))⟩
   exact q2.less (λb hb=>Z1.mpr (fo2 b hb)) (m _ (aN.mpr (.inr (.inr (.inl rfl))))) (m _ (aN.mpr (.inr (.inr (.inr rfl)))))
  ·have e:=Zh.mp hw;erw[Zg e]at m ⊢;rw[e,h.no _ ho,Q9n];exact (hn.less (λb hb=>hf b (fo2 b hb)) (m _ (aN.mpr (.inr (.inr (.inl rfl))))) (m _ (aN.mpr (.inr (.inr (.inr rfl)))))).le (Z8 _)
 ·rcases Z1.mp hw with hw|hw
  ·erw[Zd (ne w hw)];exact h.fr w hw
  ·erw[Zg (Zh.mp hw)];exact h.sub.none (ft _ (aN.mpr (.inl rfl)))
 ·rcases key w hw b hb with ⟨a1,a2⟩|⟨a1,a2⟩<;>rcases key w' hw' b hb' with ⟨b1,b2⟩|⟨b1,b2⟩
  ·exact h.ap w a1 w' b1 b a2 b2
  ·exact absurd a2 (nt w a1 b b2)
  ·exact absurd b2 (nt w' b1 b a2)
  ·rw[a1,b1]
 ·rw[rZ,Zd λq=>hw (Zl _ (Zh.mpr q))];exact h.no w λy=>hw (Z5 _ y)
 ·rcases Z1.mp hw with hw|hw
  ·erw[Zd (ne w hw)];obtain⟨k2,y1,y2⟩:=h.zl w hw;exact⟨k2,(fr _ _ y1 (h.own hw (aN.mpr (.inr (.inl rfl)))).2.1).trans y1,le_succ_of_le y2⟩
  ·erw[Zg (Zh.mp hw)];exact hz
 ·obtain⟨u,e⟩:=h.ee b hb;exact⟨u,(fr b u e (h.nx b hb).2.2.1).trans e⟩
 ·obtain⟨n1,n2,n3,n4⟩:=h.nx b hb;refine⟨n1,n2,n3,λw hw q=>?_⟩;rcases key w hw b q with ⟨a1,a2⟩|⟨a1,a2⟩
  ·exact n4 w a1 a2
  ·obtain⟨u,e⟩:=h.ee b hb;rw[ft b a2]at e;cases e
end
def sp_ai:aU:=λds M R=>∃(M0:DH) (wp sd:Addr) (root:W) (now asks:Int) (ks:List W) (rc:W->Hr) (zs:List Zn) (ex:List Addr) (c l:Nat) (z:Zn),ds=[.ref wp,.str z.o,z.v]/\WX M0 M wp sd root now asks ks rc zs ex c l/\zs.length<=100/\ks.length<=100/\l<=800 /\
 ∀M' rc',WX M0 M' wp sd root (now+1) asks (hU ks z.o) rc' (dW zs z) ex c (l+1)->(∀b u,b≠wp->b≠sd->(∀w∈ks,b∉(rc w).ad)->M b=some u->M' b=some u)->R .non M'
theorem ok_ai(T:Tab)(h333:T.mt 333=some ⟨"House","take",1,sp_aU⟩)(h320:T.cQ 320=some ⟨"House","__init__",1,sp_ad⟩)(h63:T.fn 63=some ⟨"copied_zone",1,[],sp_aw⟩):bp T b_ai sp_ai ["","",""]:=by
 rintro ds M R ⟨M0,wp,sd,root,now,asks,ks,rc,zs,ex,c,l,z,rfl,wb,zl,kl,hl,h⟩;erw[b_ai];refine Q0c λk1 e1=>?_;have fin:∀M2 rc2,WX M0 M2 wp sd root now asks (hU ks z.o) rc2 (dW zs z) ex c (l+1)->(∀b u,b≠wp->b≠sd->(∀w∈ks,b∉(rc w).ad)->M b=some u->M2 b=some u)->k1 [some (.ref wp),some (.str z.o),some z.v] M2:=λM2 rc2 w2 st=>by
  rw[e1];w_up;refine⟨wp,_,now,rfl,w2.ob,QcV,1,_,rfl,w2.ob,by show (4:Nat)<1000;decide,?_⟩
  have ef:bq ("now":Str) (.int (now+1)) (wF root now asks sd)=wF root (now+1) asks sd:=by rfl
  rw[ef];exact aV (h _ rc2 (w2.tick (now+1) asks) λb u b1 b2 b3 e=>by rw[ag b1];exact st b u b1 b2 b3 e)
 clear e1;have hol:(ofD zs z.o).length<=100:=ZF (ZS ..) zl;w_up;erw[h333,h320,h63];w_up;refine⟨wp,_,_,rfl,wb.ob,Q3S,sd,_,rfl,wb.st,az (by decide),λx hx=>⟨x,_,[],rfl,aq,rfl,Z8 _,nodup_nil,λM1 zd pd td pz k=>⟨rfl,?_⟩⟩⟩
 have H:=k M (Sub.new hx) hx;have w1:=wb.mono H.sub;refine⟨z.o,stK ks rc,rfl,w1.st,aL (by unfold stK;rw[Ze];room),λd hd=>?_,λhd=>?_⟩
 ·rw[rL]at hd;by_cases ho:z.o∈ks
  ·rw[Zg ho]at hd;cases hd;have hn:=w1.hx z.o ho;refine⟨(rc z.o).p,_,rfl,hn.ob,iB,z,rfl,M0,(rc z.o).p,(rc z.o).zd,(rc z.o).pd,(rc z.o).td,_,ofD zs z.o,c,l,z,rfl,hn,bX ho (aN.mpr (.inl rfl)),bX ho (aN.mpr (.inr (.inl rfl))),w1.fr z.o ho,by room,w1.zl z.o ho,by room,λM2 td' hn2 hz2 ft fr=>fin M2 (λw=>if w=z.o then { rc z.o with td:=td'} else rc w) ?_ λb u b1 b2 b3 e=>?_⟩
   ·unfold hU;rw[Zg ho];exact w1.upd ho hn2 hz2 ft fr
   ·have e1:=H.sub _ _ e;rw[fr b (λq=>b3 z.o ho (aN.mpr (.inl q))) (λq=>b3 z.o ho (aN.mpr (.inr (.inl q)))) (λq=>b3 z.o ho (aN.mpr (.inr (.inr (.inl q))))) (aZ e1 ft)];exact e1
  ·rw[Zd ho]at hd;cases hd
 ·rw[rL]at hd;by_cases ho:z.o∈ks
  ·rw[Zg ho]at hd;cases hd
  ·have H0:=k M0 (wb.sub.trans (Sub.new hx)) (wb.sub.none hx);have nsd:∀b,M b=none->sd≠b:=λb e q=>by have:=wb.st;rw[q,e]at this;cases this
   have ad:∀b∈(⟨x,zd,pd,td⟩:Hr).ad,M b=none/\∃o,M1 b=some o:=λb hb=>by
    obtain⟨kz,q1,_⟩:=H.hz;rcases aN.mp hb with e|e|e|e
    ·rw[e];exact⟨hx,_,H.ob⟩
    ·rw[e];exact⟨H.f0,_,q1⟩
    ·rw[e];exact⟨H.f1,H.fi pd H.fp⟩
    ·rw[e];exact⟨H.f2,H.fi td H.ft⟩
   have mem:∀b,b∈(⟨x,zd,pd,td⟩:Hr).ad\/b∈fJ ex wp sd ks rc->b∈(⟨x,zd,pd,td⟩:Hr).ad++fJ ex wp sd ks rc:=λb hb=>Z1.mpr hb;have H1:=H0.any (fo':=(⟨x,zd,pd,td⟩:Hr).ad++fJ ex wp sd ks rc) (mem _ (.inl (aN.mpr (.inr (.inr (.inl rfl)))))) (mem _ (.inl (aN.mpr (.inr (.inr (.inr rfl)))))) λb hb=>by
    rcases Z1.mp hb with hb|hb
    ·exact (ad b hb).2
    ·have e:∃o,M b=some o:=by
      rcases Z1.mp hb with hb|hb
      ·exact wb.ee b hb
      rcases Zf.mp hb with e|hb
      ·rw[e];exact⟨_,wb.ob⟩
      rcases Zf.mp hb with e|hb
      ·rw[e];exact⟨_,wb.st⟩
      obtain⟨w,hw,hb⟩:=mem_flatMap.mp hb;exact (wb.own hw hb).2.2
     obtain⟨o,e⟩:=e;exact⟨o,H.sub _ _ e⟩
   have a1:=ad x (aN.mpr (.inl rfl));have a2:=ad zd (aN.mpr (.inr (.inl rfl)));have a3:=ad pd (aN.mpr (.inr (.inr (.inl rfl))));have a4:=ad td (aN.mpr (.inr (.inr (.inr rfl))));have H2:=H1.write (b:=sd) (o:=.ah (.d8 (eF (stK ks rc) z.o (.ref x)))) (mem _ (.inr eO.2)) wb.f2 (nsd _ a1.1) (nsd _ a2.1) (nsd _ a3.1) (nsd _ a4.1);have lz:iP (ae M1 sd (.ah (.d8 (eF (stK ks rc) z.o (.ref x))))) zd l:=by
    obtain⟨kz,q1,q2⟩:=H2.hz;refine⟨kz,q1,?_⟩;cases kz with
    |nil=>exact Z8 _
    |cons y r=>
     have:=q2 y.1;rw[gK rfl]at this;cases this
   refine⟨x,_,rfl,H2.ob,iB,z,rfl,M0,x,zd,pd,td,_,[],0,l,z,rfl,H2,mem _ (.inl (aN.mpr (.inl rfl))),mem _ (.inl (aN.mpr (.inr (.inl rfl)))),wb.sub.none hx,Z8 _,lz,by room,λM2 td' hn2 hz2 ft fr=>?_⟩
   have ft1:M td'=none:=by
    cases e:M td' with
    |none=>rfl
    |some o=>
     by_cases y:td'=sd
     ·rw[y,aq]at ft;cases ft
     ·rw[ag y,H.sub _ _ e]at ft;cases ft
   have ft2:∀b∈(⟨x,zd,pd,td'⟩:Hr).ad,M b=none:=λb hb=>by
    rcases aN.mp hb with e|e|e|e
    ·rw[e];exact a1.1
    ·rw[e];exact a2.1
    ·rw[e];exact a3.1
    ·rw[e];exact ft1
   have fr2:∀b o,M b=some o->b≠sd->M2 b=M b:=λb o e n=>by
    rw[fr b (aZ e a1.1) (aZ e a2.1) (aZ e a3.1) (aZ e ft1),ag n,H.sub _ _ e,e]
   refine fin M2 (λw=>if w=z.o then ⟨x,zd,pd,td'⟩ else rc w) ?_ λb u b1 b2 b3 e=>(fr2 b u e b2).trans e
   unfold hU;rw[Zd ho];refine wb.new (h':=⟨x,zd,pd,td'⟩) ho hn2 (λb hb=>?_) hz2 ft2 ?_ fr2
   ·rcases hb with hb|hb
    ·rcases aN.mp hb with e|e|e|e
     ·rw[e];exact Zc _ (mem _ (.inl (aN.mpr (.inl rfl))))
     ·rw[e];exact Zc _ (mem _ (.inl (aN.mpr (.inr (.inl rfl)))))
     ·rw[e];exact Zc _ (mem _ (.inl (aN.mpr (.inr (.inr (.inl rfl))))))
     ·rw[e];exact Zk
    ·exact Zc _ (mem _ (.inr hb))
   ·rw[fr sd (nsd _ a1.1) (nsd _ a2.1) (nsd _ a3.1) (nsd _ ft1),aq,Q9m _ (by rw[rL,Zd ho];rfl)]
noncomputable def b_a3:CS:=by walk_at "~cg1d&0#5ckitd&1#0p13cheap21ad&1#1bbbckLitd&1#0p12itd&1#0p17cheap20ad&0#3bbbcheap19ad&0#3ad&0#4bb"
noncomputable def b_a9:CS:=by walk_at "~cg1ym[ d&0#5bk!yS&0zxSa&0b&0chqvE&0b#5eax!za&1bbb"
noncomputable def b_ah:CS:=by walk_at "~ckLi!b&1f%Memory %entries &0i!hdHmf%Memory %entries &0&1#2&2chlsbbchdHmf%Memory %entries &0&1#2b"
noncomputable def b_aN:CS:=by walk_at "~cr%Memory %entries &0!imcr%Memory %numbered &0#0cr%Memory %soonest &0lsb"
noncomputable abbrev cD:W:=[100,111,119,110]
noncomputable abbrev cE:W:=[101,108,115,101]
noncomputable abbrev cN:W:=[110,111,110,101]
noncomputable abbrev kA:W:=[97,115,107,101,100]
noncomputable abbrev kN:W:=[110,97,109,101]
noncomputable abbrev kC:W:=[99,117,116]
noncomputable def cw(word:W)(cut name:List W)(kind:W):ND:=if word=cD then (kC,cut,[]) else if word=cE\/word=cN then (kN,name,[]) else (kA,name,[kind])
def noRef:D->Prop
 |.ref _=>False
 |_=>True
structure nX(gs:List D)(t:Int)(name:List W)(kind word:W)(cut:List W)(life:Int)(rs:List D):Prop where
 gs:∃a b,gs=[.int t,a,b,dn name,.str kind,.tup rs]
 wd:∃r,rs=.str word::r
 ct:word=cD->∃r,rs=.str word::dn cut::r
 lf:rs.getLast?=some (.int life)
 nr:∀r∈rs,noRef r
 sz:rs.length<=9
theorem QcW(h:noRef d):res M d=d:=by
 cases d with
 |ref _=>exact h.elim
 |_=>rfl
theorem Q4r(h:res M x=y)(hn:noRef y)(hl:∀xs,y≠.lst xs):x=y:=by
 cases x with
 |ref a=>
  erw[res]at h;split at h
  ·exact absurd h.symm (hl _)
  ·rw[<- h]at hn;exact hn.elim
 |_=>exact h
structure d6(M:DH)(gs gs0:List D)(t:Int)(name:List W)(kind word:W)(cut:List W)(life:Int)(rs rs0:List D):Prop where
 gs:∃a b,gs=[.int t,a,b,dn name,.str kind,.tup rs]/\gs0=[.int t,a,b,dn name,.str kind,.tup rs0]
 mp:rs.map (res M)=rs0
 g0:nX gs0 t name kind word cut life rs0
theorem nX.r{M:DH}{gs:List D}{t:Int}{name:List W}{kind word:W}{cut:List W}{life:Int}{rs:List D}(G:nX gs t name kind word cut life rs):d6 M gs gs t name kind word cut life rs rs:=by
 refine⟨?_,?_,G⟩
 ·obtain⟨a,b,e⟩:=G.gs;exact⟨a,b,e,e⟩
 ·have h:rs.map (res M)=rs.map id:=Ym λr hr=>QcW (G.nr r hr);rw[h,map_id]
section
variable{M:DH}{gs gs0:List D}{t:Int}{name:List W}{kind word:W}{cut:List W}{life:Int}{rs rs0:List D}
theorem d6.rf(G:d6 M gs gs0 t name kind word cut life rs rs0)(h:D.ref p∈rs):∃xs,M p=some (.lst xs):=by
 have hm:res M (.ref p)∈rs0:=by rw[<- G.mp];exact ZY.mpr ⟨_,h,rfl⟩
 have nr:=G.g0.nr _ hm;erw[res]at nr;split at nr
 ·rename_i xs e;exact⟨xs,e⟩
 ·exact nr.elim
theorem d6.wd(G:d6 M gs gs0 t name kind word cut life rs rs0):∃r,rs=.str word::r:=by
 obtain⟨r,e⟩:=G.g0.wd;have mp:=G.mp;rw[e]at mp;cases rs with
 |nil=>cases mp
 |cons x r'=>
  rw[Zu]at mp;injection mp with h1 h2;exact⟨r',by rw[Q4r h1 trivial (λ_ z=>nomatch z)]⟩
theorem d6.ct(G:d6 M gs gs0 t name kind word cut life rs rs0)(hw:word=cD):∃r,rs=.str word::dn cut::r:=by
 obtain⟨r,e⟩:=G.g0.ct hw;have mp:=G.mp;rw[e]at mp;cases rs with
 |nil=>cases mp
 |cons x r'=>
  rw[Zu]at mp;injection mp with h1 h2;cases r' with
  |nil=>cases h2
  |cons y r''=>
   rw[Zu]at h2;injection h2 with h3 h4;exact⟨r'',by rw[Q4r h1 trivial (λ_ z=>nomatch z),Q4r h3 trivial (λ_ z=>nomatch z)]⟩
theorem d6.sz(G:d6 M gs gs0 t name kind word cut life rs rs0):rs.length<=9:=by
 have e:=G.g0.sz
 rwa [<- G.mp,Ze]at e
end
def sp_a3:aU:=λds M R=>∃(gs gs0 rs rs0:List D) (t:Int) (name:List W) (kind word:W) (cut:List W) (life:Int),ds=[.tup gs]/\d6 M gs gs0 t name kind word cut life rs rs0/\R (bu (cw word cut name kind)) M
def sp_a9:aU:=λds M R=>∃(gs gs0 rs rs0:List D) (t:Int) (name:List W) (kind word:W) (cut:List W) (life:Int),ds=[.tup gs]/\d6 M gs gs0 t name kind word cut life rs rs0/\R (.tup gs0) M
noncomputable def bB(d:Addr)(n:Int)(so:D):List (Str×D):=[("entries",.ref d),("numbered",.int n),("soonest",so)]
structure Mem(M:DH)(a d:Addr)(es:List (ND×D)):Prop where
 ob:∃n so,M a=some (.ah (.ins "Memory" (bB d n so)))/\(so=.non\/∃i:Int,so=.int i)
 tb:TbN M d es
 ad:a≠d
 vs:∀k v,valN es k=some v->∃x y l n,v=.tup [x,y,.int l,.int n]
 sz:es.length<=900
noncomputable def qJ:D->Option Int
 |.tup [_,_,.int l,.int _]=>some l
 |_=>none
noncomputable def bY(es:List (ND×D))(k:ND)(t:Int):Option Int:=((valN es k).bind qJ).bind λl=>if l<t then none else some l
noncomputable def fO:Option Int->D
 |none=>.non
 |some l=>.int l
def sp_ah:aU:=λds M R=>∃(a d:Addr) (es:List (ND×D)) (k:ND) (t:Int),ds=[.ref a,bu k,.int t]/\Mem M a d es/\R (fO (bY es k t)) M
def sp_aN:aU:=λds M R=>∃(a:Addr),ds=[.ref a]/\M a=some (.ah (.ins "Memory" []))/\∀d M1,M d=none->Mem M1 a d []->M1 a=some (.ah (.ins "Memory" (bB d 0 .non)))->(∀b,b≠a->b≠d->M1 b=M b)->R .non M1
theorem ok_a3(T:Tab)(c18:T.con 19=some (("ASKED_KEY":Str),.str kA))(c12:T.con 12=some (("ELSE":Str),.str cE))(c17:T.con 17=some (("NONE":Str),.str cN))(c19:T.con 20=some (("NAME_KEY":Str),.str kN))
  (c13:T.con 13=some (("DOWN":Str),.str cD)) (c20:T.con 21=some (("CUT_KEY":Str),.str kC)):bp T b_a3 sp_a3 ["",""]:=by
 rintro ds M R ⟨gs,gs0,rs,rs0,t,name,kind,word,cut,life,rfl,G,h⟩;have hc:=G.ct;obtain⟨r,rfl⟩:=G.wd;obtain⟨a,b,rfl,-⟩:=G.gs;clear G;erw[b_a3];walk_at "q0";walk_at "q3";walk_at "q1";erw[c13,c20];refine ix_tup (by decide) (by erw[Zs];room) λd0 hd0=>?_
 cases hd0;w_up;refine⟨rfl,rfl,aI (λq=>?_) λq=>?_⟩
 ·have q':word=cD:=by simpa using q
  obtain⟨r',hr⟩:=hc q';cases hr;refine ix_tup (by decide) (by erw[Zs];room) λd0 hd0=>?_
  cases hd0;refine⟨by kd_p,aV ?_⟩
  unfold cw at h;rw[Zg q']at h;exact h
 ·have q':¬ word=cD:=by simpa using q
  rw[e1];clear e1;unfold cw at h;rw[Zd q']at h;walk_at "q0";erw[c12,c17,c19];refine ix_tup (by decide) (by erw[Zs];room) λd0 hd0=>?_
  cases hd0;w_up;have nm:∀{Q:DK},Q (bu (kN,name,[])) M->bD (D.tup [D.int t,a,b,dn name,D.str kind,D.tup (D.str word::r)]) (D.int 3) M λx M1=>2<=sizeLine/\∃M0,DL.Sub M0 M1/\Q (D.tup [D.str kN,x]) M0:=fun{Q} hq=>by
   walk_at "q3";exact⟨by kd_p,aV hq⟩
  refine⟨rfl,rfl,aI (λq=>?_) λq=>?_⟩
  ·have q2:word=cE:=by simpa using q
   rw[Zg (.inl q2)]at h;exact nm h
  ·have q2:¬ word=cE:=by simpa using q
   refine ix_tup (by decide) (by erw[Zs];room) λd0 hd0=>?_
   cases hd0;w_up;refine⟨rfl,rfl,aI (λq=>?_) λq=>?_⟩
   ·have q3:word=cN:=by simpa using q
    rw[Zg (.inr q3)]at h;exact nm h
   ·have q3:¬ word=cN:=by simpa using q
    rw[Zd (λz=>z.elim q2 q3)]at h;rw[e1];clear e1;w_up;erw[c18,dC];walk_at "q3";walk_at "q3";exact⟨by kd_p,aV h⟩
theorem ok_a9:bp T b_a9 sp_a9 ["",""]:=by
 rintro ds M R ⟨gs,gs0,rs,rs0,t,name,kind,word,cut,life,rfl,G,h⟩;have sz:=G.sz;have mp:=G.mp;have rf:∀p,D.ref p∈rs->∃xs,M p=some (.lst xs):=λp hp=>G.rf hp;obtain⟨a,b,rfl,rfl⟩:=G.gs;clear G;erw[b_a9];walk_at "q0";walk_at "q3";w_up;refine Q3I (res M) trivial (by room) (λd k hd hk=>?_) ?_
 ·w_up;cases d with
  |ref p=>
   obtain⟨xs,e⟩:=rf p hd;erw[res,e]at hk;erw[e];refine bj ?_;erw[cK];w_up;erw[e];intro p hp;erw[aq,jA hp];exact hk
  |lst xs=>
   refine bj ?_;intro p hp;erw[cK,aq,jA hp];exact hk
  |_=>exact hk
 ·rw[mp];refine⟨by rw[<- mp];erw[Ze];exact az (by room),?_⟩
  rw[e1];clear e1;w_up;have ec:DL.cut [D.int t,a,b,dn name,D.str kind,D.tup rs] none (some 5)=[D.int t,a,b,dn name,D.str kind]:=rfl;rw[ec];exact⟨by kd_p,az (by simp),aV h⟩
theorem fb:List.lookup ("entries":Str) (bB d n so)=some (.ref d):=du
theorem qI:List.lookup ("numbered":Str) (bB d n so)=some (.int n):=(aO (by kd_p)).trans du
theorem ke:List.lookup ("soonest":Str) (bB d n so)=some so:=(aO (by kd_p)).trans ((aO (by kd_p)).trans du)
theorem ok_ah:bp T b_ah sp_ah ["","",""]:=by
 rintro ds M R ⟨a,d,es,k,t,rfl,⟨⟨n,so,ob,hso⟩,tb,ad,vs,sz⟩,h⟩;erw[b_ah];walk_at "q0";refine⟨a,_,_,rfl,ob,fb,k,d,es,rfl,rfl,tb,?_⟩;cases hv:valN es k with
 |none=>
  refine bj (aV ?_);unfold bY at h;rw[hv]at h;exact h
 |some v=>
  obtain⟨x,y,l,m,rfl⟩:=vs k v hv;refine br ⟨a,_,_,rfl,ob,fb,k,d,es,_,rfl,rfl,tb,hv,?_⟩;walk_at "q3";w_up;have hu:bY es k t=if l<t then none else some l:=by unfold bY;rw[hv];rfl
  rw[hu]at h;refine aI (λq=>aV ?_) λq=>?_
  ·rw[Zg (by simpa using q)]at h;exact h
  ·rw[Zd (by simpa using q)]at h
   rw[e1];clear e1;w_up;refine⟨a,_,_,rfl,ob,fb,k,d,es,_,rfl,rfl,tb,hv,?_⟩;walk_at "q3";exact aV h
theorem ok_aN:bp T b_aN sp_aN [""]:=by
 rintro ds M R ⟨a,rfl,ha,h⟩;erw[b_aN];walk_at "q0";intro d hd;have ad:a≠d:=aZ ha hd;refine⟨a,[],rfl,by rw[ag ad,ha],by simp,?_⟩
 rw[iN (fs:=[]) (by simp)]
 walk_at "q1";refine⟨a,_,rfl,aq,by simp,?_⟩
 rw[kI,iN (by show ("numbered":Str)∉[("entries":Str)];decide +kernel)]
 rw[e1];clear e1;w_up;refine⟨a,_,rfl,aq,by simp,?_⟩
 rw[kI,iN (by show ("soonest":Str)∉[("entries":Str),"numbered"];decide +kernel)]
 refine aV (h d _ hd ⟨⟨0,.non,aq,.inl rfl⟩,⟨0,by rw[ag ad.symm,aq]⟩,ad,(λk v e=>nomatch e),by simp⟩ aq λb h1 h2=>by rw[ag h1,ag h2])
theorem bh{m:Str}{d:Addr}{n:Int}{so:D}(h1:(m == "entries")=false)(h2:(m == "numbered")=false)(h3:(m == "soonest")=false):List.lookup m (bB d n so)=none:=by
 unfold bB;rw[aO h1,aO h2,aO h3];rfl
theorem qb:bq "numbered" (.int m) (bB d n so)=bB d m so:=by
 unfold bB;rfl
theorem lK:bq "soonest" so' (bB d n so)=bB d n so':=by
 unfold bB;rfl
noncomputable def cP(x:Int)(ls:List Int):Int:=ls.foldl min x
theorem Qbw(h:some (MO.ah (kQ.ins (Str.ofString "Memory") (bB d n so)))=some (.ah (.ins "Memory" (bB d n0 so0)))):so=so0:=by
 injection h with h;injection h with h;injection h with _ h;unfold bB at h;erw[List.cons.injEq,Prod.mk.injEq]at h;exact h.2.2.1.2
noncomputable def i8:D->Int->D
 |.int i,l=>.int (if l<i then l else i)
 |_,l=>.int l
theorem gx(h:n<1000):n<sizeLine:=Z6 h (by kd_p)
theorem Q5e:∀(ls:List Int) (x:Int),cP x ls∈x::ls
 |[],x=>Zk
 |l::ls,x=>by
  have h:=Q5e ls (min x l);show cP (min x l) ls∈_;rcases Zf.mp h with e|e
  ·rw[e];by_cases q:x<=l
   ·rw[Int.min_eq_left q];exact Zk
   ·rw[Int.min_eq_right (by room)];exact Zc _ Zk
  ·exact Zc _ (Zc _ e)
theorem Q4s:∀(ls:List Int) (x a:Int),a∈x::ls->cP x ls<=a
 |[],x,a,h=>by
  have:a=x:=by simpa using h
  subst this;exact Int.le_refl _
 |l::ls,x,a,h=>by
  show cP (min x l) ls<=a;have h0:=Q4s ls (min x l) (min x l) Zk;rcases Zf.mp h with rfl|h
  ·room
  ·rcases Zf.mp h with rfl|h
   ·room
   ·exact Q4s ls (min x l) a (Zc _ h)
theorem Qbx(h1:z∈x::ls)(h2:∀a∈x::ls,z<=a):z=cP x ls:=by
 have:=Q4s ls x z h1;have:=h2 _ (Q5e ls x);room
noncomputable def b_aj:CS:=by walk_at "~cM3&1ckiRj402&0a&3a&2blscho81adHmf%Memory %entries &0&3#0bbbbchlsb"
noncomputable def b_as:CS:=by walk_at "~chQi!A&1f%Memory %entries &0itdddHmf%Memory %entries &0&1#0#5#0p17b"
noncomputable def b_aa:CS:=by walk_at "~cg4j406&0anaeap19a&1a&2baeap20a&1bba&3bckiR&4lsch&4bbcg5ym[ !jzEo2a&1bbA#1beap20a&0bchj406&0aym[0 &5j404&1a&0b&0a&3bb"
noncomputable def b_af:CS:=by walk_at "~chj406&0aym[ !jzo2a&1bbeap21a&0ba&2bb"
def oS(es:List (ND×D)):Prop:=∀k v,valN es k=some v->∃(gs rs:List D) (t:Int) (name:List W) (kind word:W) (cut:List W) (life:Int) (y:D) (l n:Int),v=.tup [.tup gs,y,.int l,.int n]/\nX gs t name kind word cut life rs/\k=cw word cut name kind
noncomputable def recV:D->Option (List D)
 |.tup [.tup gs,_,_,_]=>some gs
 |_=>none
noncomputable def bz(es:List (ND×D))(k:ND)(t:Int):Option (List D):=match bY es k t with
 |some _=>(valN es k).bind recV
 |none=>none
noncomputable def gB:Option (List D)->D
 |none=>.non
 |some gs=>.tup gs
def sp_aj:aU:=λds M R=>∃(a d:Addr) (es:List (ND×D)) (ks:List ND) (t:Int),ds=[.ref a,.lst (ks.map bu),.int t]/\Mem M a d es/\oS es/\R (gB (ks.findSome? λk=>bz es k t)) M
theorem ok_aj(T:Tab)(h342:T.mt 402=some ⟨"Memory","until",2,sp_ah⟩)(h71:T.fn 81=some ⟨"copied",1,[],sp_a9⟩):bp T b_aj sp_aj ["","","",""]:=by
 rintro ds M R ⟨a,d,es,ks,t,rfl,me,ge,h⟩;have me':=me;obtain⟨⟨n,so,ob,hso⟩,tb,ad,vs,sz⟩:=me';erw[b_aj];walk_at "q0";refine rN (λi ρ M'=>∃v,M'=M/\(ks.take i).findSome? (λk=>bz es k t)=none/\ρ=[some (.ref a),some (.lst (ks.map bu)),some (.int t),v]) ⟨none,rfl,by simp,rfl⟩ (λ_ _ _ _=>trivial) ?_ ?_
 ·rintro i dd ρ M' k e ⟨v,rfl,hn,rfl⟩ hk;rw[ZB,Z4]at e;obtain⟨r,e,rfl⟩:=e;have split:ks=ks.take i++r::ks.drop (i+1):=by
   obtain⟨hi,rfl⟩:=Zq.mp e;rw[<- Yp hi,List.take_append_drop]
  w_up;erw[h342];w_up;refine⟨a,_,rfl,ob,bh (by kd_p) (by kd_p) (by kd_p),a,d,es,r,t,rfl,me,?_⟩
  cases hu:bY es r t with
  |none=>
   refine br (hk _ _ ⟨_,rfl,?_,rfl⟩);rw[take_add_one,e,List.findSome?_append,hn];show (List.findSome? (λk=>bz es k t) [r])=none;simp[bz,hu]
  |some l=>
   refine bj ?_;erw[h71];w_up;cases hv:valN es r with
   |none=>unfold bY at hu;rw[hv]at hu;cases hu
   |some v0=>
    obtain⟨gs,rs,tg,name,kind,word,cut,life,y,l0,n0,rfl,G,ek⟩:=ge r v0 hv;refine⟨a,_,_,rfl,ob,fb,r,d,es,_,rfl,rfl,tb,hv,?_⟩;walk_at "q3";refine⟨gs,gs,rs,rs,tg,name,kind,word,cut,life,rfl,G.r,aV ?_⟩;rw[split,List.findSome?_append,hn]at h;have er:bz es r t=some gs:=by unfold bz;rw[hu,hv];rfl
    erw[Option.none_or,findSome?_cons,er]at h;exact h
 ·rintro ρ M' ⟨v,rfl,hn,rfl⟩;show k1 _ _;rw[Ze,Yh]at hn;rw[hn]at h;rw[e1];clear e1;w_up;exact aV h
noncomputable def iY:D->Option W
 |.tup [.tup [_,_,_,_,_,.tup (.str w::_)],_,_,_]=>some w
 |_=>none
def sp_as:aU:=λds M R=>∃(a d:Addr) (es:List (ND×D)) (k:ND),ds=[.ref a,bu k]/\Mem M a d es/\oS es/\R (.bl (decide ((valN es k).bind iY=some cN))) M
theorem ok_as(T:Tab)(c17:T.con 17=some (("NONE":Str),.str cN)):bp T b_as sp_as ["",""]:=by
 rintro ds M R ⟨a,d,es,k,rfl,me,ge,h⟩;obtain⟨⟨n,so,ob,hso⟩,tb,ad,vs,sz⟩:=me;erw[b_as];w_up;erw[c17];refine⟨a,_,_,rfl,ob,fb,k,d,es,rfl,rfl,tb,?_⟩;cases hv:valN es k with
 |none=>
  rw[hv]at h;exact br (aV h)
 |some v=>
  obtain⟨gs,rs,tg,name,kind,word,cut,life,y,l0,n0,rfl,G,ek⟩:=ge k v hv;obtain⟨⟨ga,gb,rfl⟩,⟨r,rfl⟩,-,-,-,-⟩:=G;rw[hv]at h;refine bj ⟨a,_,_,rfl,ob,fb,k,d,es,_,rfl,rfl,tb,hv,?_⟩;walk_at "q3";walk_at "q3";refine ix_tup (by decide) (by erw[Zs];room) λd0 hd0=>?_
  cases hd0;refine⟨rfl,rfl,aV ?_⟩;have e:eqB (D.str word) (D.str cN)=decide ((some (D.tup [D.tup [D.int tg,ga,gb,dn name,D.str kind,D.tup (D.str word::r)],y,D.int l0,D.int n0])).bind iY=some cN):=by
   rw[Q6J];show decide (word=cN)=decide (some word=some cN);by_cases q:word=cN
   ·rw[q];rfl
   ·rw[Zt q,Zt (λz=>q (Z3 z))]
  show R (D.bl (eqB (D.str word) (D.str cN))) M;rw[e];exact h
theorem Mem.new(m:Mem M a d es)(h:M p=none):Mem (ae M p o) a d es:=by
 obtain⟨⟨n,so,ob,hso⟩,tb,ad,vs,sz⟩:=m;exact⟨⟨n,so,by rw[ag (aZ ob h)];exact ob,hso⟩,tb.put (gG.dn tb h),ad,vs,sz⟩
noncomputable def la(w:W)(N:List W):List ND:=((List.range (N.length+1)).map λk=>((w,N.take k,[]):ND)).reverse
def sp_af:aU:=λds M R=>∃(a d:Addr) (es:List (ND×D)) (N:List W) (t:Int),ds=[.ref a,dn N,.int t]/\N.length<=900/\Mem M a d es/\oS es/\R (gB ((la kC N).findSome? λk=>bz es k t)) M
theorem ok_af(T:Tab)(h346:T.mt 406=some ⟨"Memory","first_of",2,sp_aj⟩)(h2:T.fn 2=some ⟨"above",1,[],sp_a4⟩)(c20:T.con 21=some (("CUT_KEY":Str),.str kC)) :
  bp T b_af sp_af ["","",""]:=by
 rintro ds M R ⟨a,d,es,N,t,rfl,nl,me,ge,h⟩;obtain⟨n,so,ob,hso⟩:=me.ob;erw[b_af];w_up;erw[h346,h2];w_up;erw[cK];refine⟨a,_,rfl,ob,bh (by kd_p) (by kd_p) (by kd_p),N,rfl,nl,λp hp=>?_⟩
 erw[aq,jA hp];have ek:(cZ N).reverse=((List.range (N.length+1)).reverse).map λk=>dn (N.take k):=by unfold cZ;rw[map_reverse]
 rw[ek];refine mj (List.range (N.length+1)).reverse (λk=>dn (N.take k)) (λk=>bu (kC,N.take k,[])) trivial (by rw[length_reverse,Yl];room) (λk c _ hc=>?_) ?_
 ·erw[c20];w_up;exact⟨az (by decide),hc⟩
 ·refine⟨az (by rw[Ze,length_reverse,Yl];room),a,d,es,la kC N,t,?_,me,ge,aV h⟩
  unfold la;rw[<- map_reverse,Yk];rfl
theorem Q7B{κ:Type}{Cd:DH->Prop}{Q:List D->DH->Prop}(ks:List κ)(g:κ->D)(f:κ->Bool)(hC:Cd M)(hl:ks.length<=1000)
  (hs:∀(k:κ) (c:Bool->DH->Prop),k∈ks->c (f k) M->tc (some (g k)::fr) M c) (hd:Q ((ks.filter f).map g) M):gd fr (λd=>some [d]) tc (dVar 0) Cd Q (ks.map g) [] M:=by
 refine nV (λi ys M'=>M'=M/\ys=((ks.take i).filter f).map g) ⟨rfl,by simp⟩ (λi ys M' h=>by rw[h.1];exact hC) ?_ ?_
 ·rintro i d ys M' k e ⟨rfl,rfl⟩ hk;rw[ZB,Z4]at e;obtain⟨x,e,rfl⟩:=e;have nx:(ks.take (i+1)).filter f=(ks.take i).filter f++[x].filter f:=by rw[take_add_one,e,filter_append];rfl
  erw[Zu,map_nil,cons_append,nil_append];refine hs x _ (ZI e) (aI (λq=>?_) λq=>hk _ _ ⟨rfl,?_⟩)
  ·refine⟨gx ?_,hk _ _ ⟨rfl,?_⟩⟩
   ·have a1:=ZS f (ks.take i);have a2:=(Zq.mp e).1;rw[ZD]at a1;rw[Ze];room
   ·rw[nx,ZA];simp[q]
  ·rw[nx,ZA];simp[q]
 ·rintro ys M' ⟨rfl,rfl⟩;rw[Ze,Yh];exact hd
noncomputable def jP(N:List W):List ND:=((List.range N.length).map λk=>((kN,N.take k,[]):ND)).reverse
noncomputable def ja(es:List (ND×D))(k:ND):Bool:=decide ((valN es k).bind iY=some cN)
noncomputable def fu(es:List (ND×D))(N:List W)(K:W)(t:Int):Option (List D):=match [((kA,N,[K]):ND),(kN,N,[])].findSome? (λk=>bz es k t) with
 |some g=>some g
 |none=>((jP N).filter (ja es)).findSome? λk=>bz es k t
def sp_aa:aU:=λds M R=>∃(a d:Addr) (es:List (ND×D)) (N:List W) (K:W) (t:Int),ds=[.ref a,dn N,.str K,.int t]/\N.length<=900/\Mem M a d es/\oS es/\R (gB (fu es N K t)) M
theorem ok_aa(T:Tab)(h346:T.mt 406=some ⟨"Memory","first_of",2,sp_aj⟩)(h344:T.mt 404=some ⟨"Memory","says_none",1,sp_as⟩)(h2:T.fn 2=some ⟨"above",1,[],sp_a4⟩)
  (c19:T.con 20=some (("NAME_KEY":Str),.str kN)) (c18:T.con 19=some (("ASKED_KEY":Str),.str kA)):bp T b_aa sp_aa ["","","","","",""]:=by
 rintro ds M R ⟨a,d,es,N,K,t,rfl,nl,me,ge,h⟩;obtain⟨n,so,ob,hso⟩:=me.ob;erw[b_aa];walk_at "q0";erw[h346,c18,c19];w_up;refine⟨a,_,rfl,ob,bh (by kd_p) (by kd_p) (by kd_p),az (by decide),az (by decide),az (by decide),a,d,es,[(kA,N,[K]),(kN,N,[])],t,rfl,me,ge,?_⟩
 walk_at "q1";unfold fu at h;cases hf:[((kA,N,[K]):ND),(kN,N,[])].findSome? (λk=>bz es k t) with
 |some g=>
  rw[hf]at h;exact bj (aV h)
 |none=>
  rw[hf]at h;refine br ?_;walk_at "q1";erw[h2,cK];w_up;refine⟨N,rfl,nl,λp hp=>?_⟩;erw[aq];intro p2 hp2;erw[aq,jA hp2];have me2:=me.new (o:=.lst (cZ N)) hp;have ob2:ae M p (.lst (cZ N)) a=some (.ah (.ins "Memory" (bB d n so))):=by rw[ag (aZ ob hp)];exact ob
  have s2:Sub M (ae M p (.lst (cZ N))):=Sub.new hp;have ek:(cut (cZ N) none (some (-1))).reverse=((List.range N.length).reverse).map λk=>dn (N.take k):=by
   rw[Q5b];unfold cZ;rw[Ze,Yl,<- map_take,List.take_range,map_reverse,show min (N.length+1-1) (N.length+1)=N.length by room]
  rw[ek];generalize ae M p (.lst (cZ N))=M2 at me2 ob2 s2;refine mj (List.range N.length).reverse (λk=>dn (N.take k)) (λk=>bu (kN,N.take k,[])) trivial (by rw[length_reverse,Yl];room) (λk c _ hc=>?_) ?_
  ·erw[c19];w_up;exact⟨az (by decide),hc⟩
  refine⟨az (by rw[Ze,length_reverse,Yl];room),?_⟩
  have ew:(List.range N.length).reverse.map (λk=>bu (kN,N.take k,[]))=(jP N).map bu:=by
   unfold jP;rw[<- map_reverse,Yk];rfl
  rw[ew];rw[e1];clear e1;w_up;erw[h346,h344];w_up;refine⟨a,_,rfl,ob2,bh (by kd_p) (by kd_p) (by kd_p),?_⟩
  refine Q7B (jP N) bu (ja es) trivial (by unfold jP;rw[length_reverse,Ze,Yl];room) (λk c _ hc=>?_) ?_
  ·w_up;exact⟨a,_,rfl,ob2,bh (by kd_p) (by kd_p) (by kd_p),a,d,es,k,rfl,me2,ge,hc⟩
  ·refine⟨az ?_,a,d,es,_,t,rfl,me2,ge,M,s2,h⟩;rw[Ze];have:=ZS (ja es) (jP N);have e2:(jP N).length=N.length:=by unfold jP;rw[length_reverse,Ze,Yl]
   room
noncomputable def b_az:CS:=by walk_at "~chdHmf%Memory %entries &0&1#3b"
noncomputable def b_aA:CS:=by walk_at "~cg2!imcg3xSa&1bcOiC&3nbcg4F!k&3bcki!b&4&2cYm&2&4lwDcuF!l&3adHmf%Memory %entries &0&4#1bbbbchym[0 z!B411&2&0bo81adHmf%Memory %entries &1&0#0bb"
theorem Mem.eqs(h:Mem M a d es)(s:Sub M M'):Mem M' a d es:=by
 obtain⟨⟨n0,so,ob,hso⟩,⟨ep,tb⟩,ad,vs,sz⟩:=h;exact⟨⟨n0,so,s _ _ ob,hso⟩,⟨ep,s _ _ tb⟩,ad,vs,sz⟩
noncomputable def fc(gs:List D)(ks:List ND)(l n:Int):D:=.tup [.tup gs,.lst (ks.map bu),.int l,.int n]
def sp_az:aU:=λds M R=>∃(a d:Addr) (es:List (ND×D)) (k:ND) (gs:List D) (rk:List ND) (l n:Int),ds=[.ref a,bu k]/\Mem M a d es/\valN es k=some (fc gs rk l n)/\R (.int n) M
theorem ok_az:bp T b_az sp_az ["",""]:=by
 rintro ds M R ⟨a,d,es,k,gs,rk,l,n,rfl,⟨⟨n',so,ob,hso⟩,tb,ad,vs,sz⟩,hv,h⟩;erw[b_az];w_up;refine⟨a,_,_,rfl,ob,fb,k,d,es,_,rfl,rfl,tb,hv,?_⟩;walk_at "q3";exact aV h
structure nL(es:List (ND×D))(U:List ND)(G:ND->List D)(RK:ND->List ND)(NO:ND->Int):Prop where
 lt:U.length<64
 en:∀k∈U,∃l,valN es k=some (fc (G k) (RK k) l (NO k))
 cl:∀k∈U,∀r∈RK k,r∈U
 ir:∀k∈U,(RK k).length<=4
 gr:∀k∈U,∃(rs:List D) (t:Int) (name:List W) (kind word:W) (cut:List W) (life:Int),nX (G k) t name kind word cut life rs
structure mx(RK:ND->List ND)(ks qs:List ND):Prop where
 nd:qs.Nodup
 st:∀k∈ks,k∈qs
 cl:∀k∈qs,∀r∈RK k,r∈qs
 mn:∀P:ND->Prop,(∀k∈ks,P k)->(∀k,P k->∀r∈RK k,P r)->∀k∈qs,P k
noncomputable def bU(rd:List ND):List (ND×D):=rd.map λk=>(k,D.bl true)
theorem Q2W(k:ND):∀rd:List ND,(valN (bU rd) k).isSome=decide (k∈rd)
 |[]=>by simp[bU,Q8L]
 |r::rd=>by
  have ih:=Q2W k rd;by_cases e:r=k
  ·subst e;show (valN ((r,D.bl true)::bU rd) r).isSome=_;rw[jz (p:=(r,D.bl true)) rfl];simp
  ·show (valN ((r,D.bl true)::bU rd) k).isSome=_;rw[iM (p:=(r,D.bl true)) e,ih];have:k≠r:=λz=>e z.symm;simp[this]
theorem Q9o(h:k∉rd):putN (bU rd) k (.bl true)=bU (rd++[k]):=by
 unfold putN;rw[nR,Q2W,Zt h,Zd Z0];unfold bU;rw[ZA];rfl
theorem Q1K{α:Type}[DecidableEq α]:∀(xs ys:List α),xs.Nodup->(∀x∈xs,x∈ys)->xs.length<=ys.length
 |[],_,_,_=>Z8 _
 |x::xs,ys,nd,h=>by
  have hx:=h x Zk;have ih:=Q1K xs (ys.erase x) (ZW.mp nd).2 λy hy=>by
   have ne:y≠x:=λz=>(ZW.mp nd).1 (z ▸ hy);exact (List.mem_erase_of_ne ne).mpr (h y (Zc _ hy))
  rw[List.length_erase_of_mem hx]at ih;have:=List.length_pos_of_mem hx;rw[Zs];room
theorem Q9p(k:ND):plain (n+2) (bu k)=true:=by
 have pm:∀(j:Nat) (ws:List W),(ws.map D.str).all (plain j)=true:=λj ws=>by
  rw[all_map,ZO];intro w _;cases j<;>rfl
 show ((D.str k.1::D.tup (k.2.1.map D.str)::k.2.2.map D.str).all (plain (n+1)))=true;rw[ZC,ZC,pm];show (true&&((k.2.1.map D.str).all (plain n)&&true))=true;rw[pm];rfl
theorem Q9q(ks:List ND):plain 12 (.lst (ks.map bu))=true:=by
 show ((ks.map bu).all (plain 11))=true;rw[all_map,ZO];intro k _;exact Q9p k
theorem Q5Q(I:Nat->bL->DH->Prop)(h0:∃m,I m ρ M)(turn:∀m ρ M,I m ρ M->∀TB:cU,TB=tb->c ρ M λb M1=>if b=true then ∃N:bL->DH->Prop,(∀ρ' M',N ρ' M'->∃m',m'<m/\I m' ρ' M')/\TB {DD with nx:=N,ct:=N,bk:=DD.nx} ρ M1 else DD.nx ρ M1):jR c tb DD ρ M:=
 ⟨I,h0,λm ρ M h=>turn m ρ M h tb rfl⟩
structure Way(U:List ND)(RK:ND->List ND)(ks rd st:List ND):Prop where
 nd:rd.Nodup
 u1:∀k∈rd,k∈U
 u2:∀k∈st,k∈U
 fr:∀k∈ks,k∈rd\/k∈st
 cl:∀k∈rd,∀r∈RK k,r∈rd\/r∈st
 mn:∀P:ND->Prop,(∀k∈ks,P k)->(∀k,P k->∀r∈RK k,P r)->∀k,k∈rd\/k∈st->P k
noncomputable def b_gw:CS:=by walk_at "~OiC&3nbcg4F!k&3bcki!b&4&2cYm&2&4lwDcuF!l&3adHmf%Memory %entries &0&4#1bbbb"
theorem qP{T:Tab}{DD:jF}{M M1:DH}{a d p q:Addr}{es:List (ND×D)}{U ks:List ND}{G:ND->List D}{RK:ND->List ND}{NO:ND->Int}{x1:Option D}(me:Mem M a d es)(un:nL es U G RK NO)(hk:∀k∈ks,k∈U)(kl:ks.length<=100)
  (hp:M p=none) (hq:M q=none) (pq:p≠q) (h1:M1 q=some (.ah (.dP false 0 []))) (h2:M1 p=some (.lst (ks.map bu))) (h3:∀b,b≠p->b≠q->M1 b=M b)
  (h:∀rd v M2,Way U RK ks rd []->TbN M2 q (bU rd)->Sub M M2->DD.nx [some (.ref a),x1,some (.ref q),some (.ref p),v] M2) :
  b7 T b_gw DD [some (.ref a),x1,some (.ref q),some (.ref p),none] M1:=by
 have sb:∀M2:DH,(∀b,b≠p->b≠q->M2 b=M b)->Sub M M2:=λM2 e c o hc=>by rw[e c (aZ hc hp) (aZ hc hq)];exact hc
 show jR _ _ _ _ _;refine Q5Q (λm ρ M'=>∃(rd st:List ND) (v:Option D) (ep:Nat),ρ=[some (.ref a),x1,some (.ref q),some (.ref p),v]/\M' q=some (.ah (.dP false ep (bU rd)))/\M' p=some (.lst (st.map bu))/\(∀b,b≠p->b≠q->M' b=M b)/\Way U RK ks rd st/\5 * (64-rd.length)+st.length<=m/\m<=500)
  ⟨420,[],ks,none,0,rfl,h1,h2,h3,⟨nodup_nil,(λ_ z=>nomatch z),hk,λk z=>.inr z,(λ_ z=>nomatch z),λP z _ k hk=>hk.elim (λz=>nomatch z) (z k)⟩,by erw[ZN];room,by decide⟩ ?_
 rintro m ρ M' ⟨rd,st,v,ep,rfl,g1,g2,g3,w,hm,h5⟩ TB eTB;w_up;erw[res,g2];refine⟨Z8 _,Q9q st,by rfl,?_⟩
 rcases List.eq_nil_or_concat st with rfl|⟨st',k,rfl⟩
 ·have e0:eqB (D.lst (List.map bu [])) (D.lst [])=true:=(gI _ _).mpr rfl;exact aI (λz=>by rw[e0]at z;cases z) λ_=>h rd v M' w ⟨ep,g1⟩ (sb M' g3)
 ·rw[List.concat_eq_append]at *;have e0:eqB (D.lst (List.map bu (st'++[k]))) (D.lst [])=false:=by
   cases z:eqB (D.lst (List.map bu (st'++[k]))) (D.lst []) with
   |false=>rfl
   |true=>
    have:=(gI _ _).mp z;rw[D.lst.injEq,ZA]at this;simp at this
  refine aI (λ_=>⟨λρ' M''=>∃m',m'<m/\∃(rd st:List ND) (v:Option D) (ep:Nat),ρ'=[some (.ref a),x1,some (.ref q),some (.ref p),v]/\M'' q=some (.ah (.dP false ep (bU rd)))/\M'' p=some (.lst (st.map bu))/\(∀b,b≠p->b≠q->M'' b=M b)/\Way U RK ks rd st/\5 * (64-rd.length)+st.length<=m'/\m'<=500,λρ' M'' z=>z,?_⟩) λz=>absurd (by rw[e0];rfl) z
  subst eTB;have ku:k∈U:=w.u2 k (by simp)
  have me':=me.eqs (sb M' g3);obtain⟨⟨n,so,ob,hso⟩,tb,ad,vs,sz⟩:=me';have lst:st'.length+1<=m:=by rw[Zp,length_singleton]at hm;room
  refine Q3H λk2 e2=>?_;w_up;erw[g2];refine⟨p,_,bu k,rfl,g2,?_,?_⟩
  ·rw[Ze,Zp,length_singleton,Nat.add_sub_cancel,ZB];simp
  have ed:((st'++[k]).map bu).dropLast=st'.map bu:=by rw[ZA];simp
  rw[ed,e2];clear e2;w_up;refine⟨k,q,bU rd,rfl,rfl,⟨ep,by rw[ag pq.symm];exact g1⟩,?_⟩
  rw[Q2W];by_cases kr:k∈rd
  ·refine aI (λz=>by simp[kr]at z) λ_=>?_
   refine⟨m-1,by room,rd,st',some (bu k),ep,rfl,by rw[ag pq.symm];exact g1,aq,λb b1 b2=>by rw[ag b1];exact g3 b b1 b2,⟨w.nd,w.u1,λx hx=>w.u2 x (Z5 _ hx),λx hx=>?_,λx hx r hr=>?_,λP z1 z2 x hx=>w.mn P z1 z2 x (hx.imp id (Z5 _))⟩,?_,by room⟩
   ·rcases w.fr x hx with z|z
    ·exact .inl z
    ·rcases Z1.mp z with z|z
     ·exact .inr z
     ·rw[Zh.mp z];exact .inl kr
   ·rcases w.cl x hx r hr with z|z
    ·exact .inl z
    ·rcases Z1.mp z with z|z
     ·exact .inr z
     ·rw[Zh.mp z];exact .inl kr
   ·rw[Zp,length_singleton]at hm;room
  ·refine aI (λ_=>?_) λz=>by simp[kr]at z
   have rl:rd.length<64:=ZG (Q1K rd U w.nd w.u1) un.lt;have rl2:rd.length+1<64:=by
    have:=Q1K (k::rd) U (ZW.mpr ⟨kr,w.nd⟩) λx hx=>by
     rcases Zf.mp hx with rfl|hx
     ·exact ku
     ·exact w.u1 x hx
    rw[Zs]at this;have:=un.lt;room
   obtain⟨l,hv⟩:=un.en k ku;have f4:=un.ir k ku;refine⟨q,k,bU rd,rfl,rfl,⟨ep,by rw[ag pq.symm];exact g1⟩,gx (by unfold bU;rw[Ze];room),λep'=>?_⟩
   rw[Q9o kr];obtain⟨_,_,z0,_⟩:=me.ob;have na:a≠p:=aZ z0 hp;have nq:a≠q:=aZ z0 hq;have nd1:d≠p:=me.tb.dn hp;have nd2:d≠q:=me.tb.dn hq;erw[ag pq,aq];refine⟨a,_,_,rfl,by rw[ag nq,ag na];exact ob,fb,k,d,es,_,rfl,rfl,(tb.put nd1).put nd2,hv,?_⟩
   walk_at "q3";refine⟨p,_,_,rfl,rfl,by rw[ag pq];exact aq,az (by rw[Ze,Ze];room),?_⟩
   have nd':(rd++[k]).Nodup:=by
    rw[nodup_append];exact⟨w.nd,by simp,λx hx y hy z=>kr (by rw[<- Zh.mp hy,<- z];exact hx)⟩
   refine⟨m-1,by room,rd++[k],st'++RK k,some (bu k),ep',rfl,by rw[ag pq.symm];exact aq,by rw[aq,ZA],λb b1 b2=>by rw[ag b1,ag b2,ag b1];exact g3 b b1 b2,⟨nd',λx hx=>?_,λx hx=>?_,λx hx=>?_,λx hx r hr=>?_,λP z1 z2 x hx=>?_⟩,?_,by room⟩
   ·rcases Z1.mp hx with z|z
    ·exact w.u1 x z
    ·rw[Zh.mp z];exact ku
   ·rcases Z1.mp hx with z|z
    ·exact w.u2 x (Z5 _ z)
    ·exact un.cl k ku x z
   ·rcases w.fr x hx with z|z
    ·exact .inl (Z5 _ z)
    ·rcases Z1.mp z with z|z
     ·exact .inr (Z5 _ z)
     ·exact .inl (Zl _ z)
   ·rcases Z1.mp hx with z|z
    ·rcases w.cl x z r hr with z|z
     ·exact .inl (Z5 _ z)
     ·rcases Z1.mp z with z|z
      ·exact .inr (Z5 _ z)
      ·exact .inl (Zl _ z)
    ·rw[Zh.mp z]at hr;exact .inr (Zl _ hr)
   ·have pk:P k:=w.mn P z1 z2 k (.inr (Zl _ Zk));rcases hx with z|z
    ·rcases Z1.mp z with z|z
     ·exact w.mn P z1 z2 x (.inl z)
     ·rw[Zh.mp z];exact pk
    ·rcases Z1.mp z with z|z
     ·exact w.mn P z1 z2 x (.inr (Z5 _ z))
     ·exact z2 k pk x z
   ·rw[Zp,length_singleton]at hm;rw[Zp,length_singleton,Zp];room
theorem Way.clo{RK:ND->List ND}(w:Way U RK ks rd [])(p:qs.Perm rd):mx RK ks qs:=
 ⟨p.nodup_iff.mpr w.nd,λk hk=>p.mem_iff.mpr ((w.fr k hk).elim id λz=>nomatch z),λk hk r hr=>p.mem_iff.mpr ((w.cl k (p.mem_iff.mp hk) r hr).elim id λz=>nomatch z),λP z1 z2 k hk=>w.mn P z1 z2 k (.inl (p.mem_iff.mp hk))⟩
theorem srt5{rd:List ND}{NO:ND->Int}{qs:List (Int×ND)}(hp:qs.Perm ((rd.map NO).zip ((bU rd).map (·.1))))(hw:qs.Pairwise (λp q=>p.1<=q.1)):(qs.map (·.2)).Perm rd/\(qs.map (·.2)).Pairwise (λx y=>NO x<=NO y):=by
 have e1:(bU rd).map (·.1)=rd:=by
  unfold bU;rw[Yk];exact map_id rd
 have e2:(rd.map NO).zip rd=rd.map λk=>(NO k,k):=by
  clear hp hw e1
  induction rd with
  |nil=>rfl
  |cons k r ih=>rw[Zu,List.zip_cons_cons,ih];rfl
 rw[e1,e2]at hp;constructor
 ·refine (hp.map (·.2)).trans (List.Perm.of_eq ?_);rw[Yk];exact map_id rd
 ·rw[pairwise_map];have hn:∀p∈qs,p.1=NO p.2:=λp h=>by
   obtain⟨k,_,rfl⟩:=ZY.mp (hp.mem_iff.mp h);rfl
  exact hw.imp_of_mem fun{x y} hx hy z=>by rw[<- hn x hx,<- hn y hy];exact z
def sp_aA:aU:=λds M R=>∃(a d:Addr) (es:List (ND×D)) (ks U:List ND) (G:ND->List D) (RK:ND->List ND) (NO:ND->Int),ds=[.ref a,.lst (ks.map bu)]/\Mem M a d es/\nL es U G RK NO/\(∀k∈ks,k∈U)/\ks.length<=100 /\
 ∀qs,mx RK ks qs->(∀k∈qs,k∈U)->qs.Pairwise (λx y=>NO x<=NO y)->R (.lst (qs.map λk=>.tup (G k))) M
theorem ok_aA(T:Tab)(h351:T.mt 411=some ⟨"Memory","number_of",1,sp_az⟩)(h71:T.fn 81=some ⟨"copied",1,[],sp_a9⟩) :
  bp T b_aA sp_aA ["","","","",""]:=by
 rintro ds M R ⟨a,d,es,ks,U,G,RK,NO,rfl,me,un,hk,kl,h⟩;erw[b_aA];walk_at "q0";intro q hq;walk_at "q1";intro p hp;rw[e1];clear e1;refine Q0c λk1 e1=>?_;have hp':M p=none:=(Sub.new hq).none hp;have pq:p≠q:=λz=>by subst z;rw[aq]at hp;cases hp
 refine qP me un hk kl hp' hq pq (by rw[ag pq.symm];exact aq) aq (λb b1 b2=>by rw[ag b1,ag b2]) λrd v M2 w tb sb=>?_
 show k1 _ _;rw[e1];clear e1;have me2:=me.eqs sb;have me3:=me2;obtain⟨⟨n,so,ob,hso⟩,tb2,ad,vs,sz⟩:=me3;w_up;erw[h351,h71,cK];w_up;have rl:rd.length<64:=ZG (Q1K rd U w.nd w.u1) un.lt;refine⟨q,a,_,bU rd,rd.map NO,rfl,rfl,ob,bh (by kd_p) (by kd_p) (by kd_p),tb,by unfold bU;rw[Ze];exact rl,by unfold bU;rw[Ze,Ze],λi x m hx hm=>?_,λqs l hp1 hw hl=>?_⟩
 ·unfold bU at hx;rw[ZB,Z4]at hx hm;obtain⟨k,hx,rfl⟩:=hx;obtain⟨k',hm,rfl⟩:=hm;rw[hx]at hm;cases hm;obtain⟨l,hv⟩:=un.en k (w.u1 k (ZI hx));exact⟨a,d,es,k,_,_,l,NO k,rfl,me2,hv,rfl,rfl⟩
 ·obtain⟨p1,p2⟩:=srt5 hp1 hw;erw[aq,jA hl];have em:(qs.map λp=>bu p.2)=(qs.map (·.2)).map bu:=by rw[Yk];rfl
  rw[em];have ql:(qs.map (·.2)).length<64:=by rw[p1.length_eq];exact rl
  have qu:∀k∈qs.map (·.2),k∈U:=λk hk=>w.u1 k (p1.mem_iff.mp hk);generalize qs.map (·.2)=ys at *;refine mj ys bu (λk=>.tup (G k)) trivial (by room) (λk c hk hc=>?_) ?_
  ·w_up;obtain⟨l,hv⟩:=un.en k (qu k hk);obtain⟨rs,t,name,kind,word,cut,life,gr⟩:=un.gr k (qu k hk);refine⟨a,_,_,rfl,ob,fb,k,d,es,_,rfl,rfl,tb2,hv,?_⟩;walk_at "q3";exact⟨_,_,_,_,t,name,kind,word,cut,life,rfl,gr.r,hc⟩
  ·exact⟨az (by rw[Ze];room),M,sb,h ys (w.clo p1) qu p2⟩
noncomputable def b_an:CS:=by walk_at "~cg3d&1#0cg4o80a&1bcg5ym[3,0 &2bj402&2a&0a&1bckLi!Cls&5iRj402&0a&4a&3blsc!Dbbcg6x!gazqXnaqv&3dd&1#5A#1b&5bc!a%Memory %numbered &0#1cYmf%Memory %entries &0&4eao81a&1bazxSa&2ba&6af%Memory %numbered &0bcr%Memory %soonest &0kiGf%Memory %soonest &0ls&6x!Eaf%Memory %soonest &0a&6bb"
noncomputable def b_aT:CS:=by walk_at "~ckLiGf%Memory %soonest &0lsi!F&1f%Memory %soonest &0ch#0bbcBcBcBcBb"
def mV(so:D):Prop:=so=.non\/∃i:Int,so=.int i/\2<=i
theorem QcX(h:mV so)(hl:2<=l):mV (i8 so l):=by
 rcases h with rfl|⟨i,rfl,hi⟩
 ·exact .inr ⟨l,rfl,hl⟩
 ·exact .inr ⟨_,rfl,by split<;>room⟩
structure dD(M:DH)(a d:Addr)(es:List (ND×D))(n:Int):Prop where
 me:Mem M a d es
 so:∃so,M a=some (.ah (.ins "Memory" (bB d n so)))/\mV so
def sp_an:aU:=λds M R=>∃(a d:Addr) (es:List (ND×D)) (n:Int) (gs rs:List D) (t:Int) (name:List W) (kind word:W) (cut:List W) (life:Int) (ks:List ND),
 ds=[.ref a,.tup gs,.lst (ks.map bu)]/\nX gs t name kind word cut life rs/\dD M a d es n/\ks.length<=100/\es.length<900/\(∀ls:List Int,ks.map (λk=>bY es k t)=ls.map some->2<=cP (t+life) ls) /\
 ((∃k∈ks,bY es k t=none)->R .non M)/\(∀l,bY es (cw word cut name kind) t=some l->R .non M) /\
 (bY es (cw word cut name kind) t=none->∀ls:List Int,ks.map (λk=>bY es k t)=ls.map some->∀M1,dD M1 a d (putN es (cw word cut name kind) (fc gs ks (cP (t+life) ls) (n+1))) (n+1)->(∀b,b≠a->b≠d->M1 b=M b)->R .non M1)
theorem ok_an(T:Tab)(h71:T.fn 81=some ⟨"copied",1,[],sp_a9⟩)(h342:T.mt 402=some ⟨"Memory","until",2,sp_ah⟩)(h70:T.fn 80=some ⟨"key_of",1,[],sp_a3⟩) :
  bp T b_an sp_an ["","","","","","",""]:=by
 rintro ds M R ⟨a,d,es,n,gs,rs,t,name,kind,word,cut,life,ks,rfl,G,⟨me,⟨so,ob,so0⟩⟩,kl,el,h5,h1,h3,h2⟩;have me':=me;obtain⟨⟨n',so',ob',hso⟩,tb,ad,vs,sz⟩:=me';obtain rfl:=Qbw (ob'.symm.trans ob);clear ob';have GR:d6 M gs gs t name kind word cut life rs rs:=G.r;have lf:=G.lf;obtain⟨ga,gb,rfl⟩:=G.gs;erw[b_an];walk_at "q0";walk_at "q3";walk_at "q1";erw[h70];refine⟨_,_,_,_,t,name,kind,word,cut,life,rfl,GR,?_⟩;walk_at "q1";refine mj ks bu (λk=>fO (bY es k t)) trivial (by room) (λk c _ hc=>?_) ?_
 ·erw[h342];w_up;exact⟨a,_,rfl,ob,bh (by kd_p) (by kd_p) (by kd_p),a,d,es,k,t,rfl,me,hc⟩
 refine⟨by rw[Ze];exact az (by room),?_⟩
 walk_at "q1";erw[h342];refine⟨_,rfl,rfl,?_,aI (λq=>?_) λq=>?_⟩
 ·rw[all_map,ZO];intro k _;show DL.plain 11 (fO (bY es k t))=true;cases bY es k t<;>rfl
 ·refine aV (h1 ?_);rw[any_map,any_eq_true]at q;obtain⟨k,hk1,hk2⟩:=q;refine⟨k,hk1,?_⟩;have:fO (bY es k t)=.non:=(gI _ _).mp hk2;cases hu:bY es k t with
  |none=>rfl
  |some l=>rw[hu]at this;cases this
 have all:∀k∈ks,∃l,bY es k t=some l:=λk hk1=>by
  cases hu:bY es k t with
  |some l=>exact⟨l,rfl⟩
  |none=>
   have hm:D.non∈ks.map (λk=>fO (bY es k t)):=ZY.mpr ⟨k,hk1,by rw[hu];rfl⟩
   exact absurd (any_eq_true.mpr ⟨.non,hm,(gI .non .non).mpr rfl⟩:(List.any _ λd=>eqB d D.non)=true) q
 have hls:∃ls:List Int,ks.map (λk=>bY es k t)=ls.map some:=by
  clear kl h1 h2 h3 h5 q e1
  induction ks with
  |nil=>exact⟨[],rfl⟩
  |cons k ks ih=>
   obtain⟨l,hl⟩:=all k Zk;obtain⟨ls,hs⟩:=ih λk hk=>all k (Zc _ hk);exact⟨l::ls,by rw[Zu,Zu,hl,hs]⟩
 obtain⟨ls,hls⟩:=hls;have bN:ks.map (λk=>fO (bY es k t))=ls.map D.int:=by
  have e:ks.map (λk=>fO (bY es k t))=(ks.map (λk=>bY es k t)).map fO:=by rw[Yk];rfl
  rw[e,hls,Yk];rfl
 have nl:ls.length=ks.length:=by have:=congrArg List.length hls;simpa using this.symm
 rw[bN];w_up;refine⟨a,_,rfl,ob,bh (by kd_p) (by kd_p) (by kd_p),a,d,es,_,t,rfl,me,?_⟩
 cases un:bY es (cw word cut name kind) t with
 |some l=>exact bj (aV (h3 l un))
 |none=>?_
 replace h2:=h2 un
 refine br ?_;walk_at "q1";erw[cK];w_up;walk_at "q3";refine Q4n (by rw[<- List.getLast?_eq_getElem?];exact lf) ?_
 w_up;refine⟨by kd_p,_,_,rfl,rfl,az (by erw[Zs,ZN,Ze];room),λq0 hq0=>?_⟩
 erw[aq,jA hq0];refine⟨(t+life)::ls,rfl,by simp,λz z1 z2=>?_⟩
 have ez:=Qbx z1 z2;subst ez;walk_at "q1";refine⟨a,_,n,rfl,ob,qI,1,_,rfl,ob,by simp[bB],?_⟩
 rw[qb,e1];clear e1;walk_at "q0";erw[h71,cK];w_up;refine⟨_,_,_,_,t,name,kind,word,cut,life,rfl,G.r,?_⟩;intro q1 hq1;erw[aq,jA hq1];refine⟨a,_,_,rfl,aq,qI,by kd_p,a,_,_,rfl,aq,fb,d,_,es,rfl,rfl,tb.put ad.symm,gx (by room),λep'=>?_⟩
 rw[e1];clear e1;w_up;have oa:ae (ae M a (MO.ah (kQ.ins (Str.ofString "Memory") (bB d (n+1) so')))) d
   (MO.ah (kQ.dP false ep' (putN es (cw word cut name kind) (D.tup [D.tup [D.int t,ga,gb,dn name,D.str kind,D.tup rs],D.lst (List.map bu ks),D.int (cP (t+life) ls),D.int (n+1)])))) a =
   some (MO.ah (kQ.ins (Str.ofString "Memory") (bB d (n+1) so'))):=by rw[ag ad,aq]
 have fin:∀so2:D,(so2=.non\/∃i:Int,so2=.int i)->so2=i8 so' (cP (t+life) ls)->∃M0,DL.Sub M0 (ae (ae (ae M a (MO.ah (kQ.ins (Str.ofString "Memory") (bB d (n+1) so')))) d
   (MO.ah (kQ.dP false ep' (putN es (cw word cut name kind) (D.tup [D.tup [D.int t,ga,gb,dn name,D.str kind,D.tup rs],D.lst (List.map bu ks),D.int (cP (t+life) ls),D.int (n+1)]))))) a
   (MO.ah (kQ.ins (Str.ofString "Memory") (bB d (n+1) so2))))/\R .non M0:=λso2 hs hn2=>by
  refine aV (h2 ls hls _ ⟨⟨⟨n+1,so2,aq,hs⟩,⟨ep',by rw[ag ad.symm,aq];rfl⟩,ad,λk v e=>?_,?_⟩,⟨so2,aq,by rw[hn2];exact QcX so0 (h5 ls hls)⟩⟩ λb b1 b2=>by rw[ag b1,ag b2,ag b1])
  ·rw[Q4Q]at e;by_cases q:k=cw word cut name kind
   ·rw[Zg q]at e;cases e;exact⟨_,_,_,_,rfl⟩
   ·rw[Zd q]at e;exact vs k v e
  ·have:=Q2a es (cw word cut name kind) (fc [D.int t,ga,gb,dn name,D.str kind,D.tup rs] ks (cP (t+life) ls) (n+1));room
 refine⟨a,_,_,rfl,oa,ke,?_⟩;rcases hso with rfl|⟨i,rfl⟩
 ·refine bj ⟨a,_,rfl,oa,by simp[bB],?_⟩
  rw[lK];exact fin _ (.inr ⟨_,rfl⟩) rfl
 ·refine br ⟨a,_,_,rfl,oa,ke,a,_,rfl,oa,by simp[bB],?_⟩
  rw[lK];exact fin _ (.inr ⟨_,rfl⟩) rfl
def sp_aT:aU:=λds M R=>∃(a d:Addr) (es:List (ND×D)) (n t:Int),ds=[.ref a,.int t]/\dD M a d es n/\t=2/\R (.int 0) M
theorem ok_aT:bp T b_aT sp_aT ["","","",""]:=by
 rintro ds M R ⟨a,d,es,n,t,rfl,⟨me,⟨so,ob,so0⟩⟩,rfl,h⟩;erw[b_aT];walk_at "q0";refine⟨a,_,_,rfl,ob,ke,?_⟩;rcases so0 with rfl|⟨i,rfl,hi⟩
 ·exact bj (aV h)
 ·exact br ⟨a,_,_,rfl,ob,ke,aI (λ_=>aV h) λz=>(z (Z7 hi)).elim⟩
namespace Tz
section
variable{α:Type}
noncomputable def val(kvs:List (List W×α))(k:List W):Option α:=(kvs.find? λkv=>decide (kv.1=k)).map (·.2)
noncomputable def put(kvs:List (List W×α))(k:List W)(v:α):List (List W×α):=
 if (kvs.any λkv=>decide (kv.1=k))=true then kvs.map (λkv=>if kv.1=k then (kv.1,v) else kv) else kvs++[(k,v)]
noncomputable abbrev mp(f:α->D)(kvs:List (List W×α)):List (List W×D):=kvs.map λp=>(p.1,f p.2)
end
inductive Rp
 |away
 |bN (m:List W) (l:Int)
 |down (c h:List W) (ds:List W) (l:Int)
 |rows (ds:List W) (l:Int)
 |non (l:Int)
 |emp (l:Int)
noncomputable def Rp.d:Rp->D
 |.away=>.tup [.str gg]
 |.bN m l=>.tup [.str aP,dn m,.int l]
 |.down c h ds l=>.tup [.str df,dn c,dn h,.lst (ds.map .str),.int l]
 |.rows ds l=>.tup [.str eB,.lst (ds.map .str),.int l]
 |.non l=>.tup [.str jl,.int l]
 |.emp l=>.tup [.str mF,.int l]
noncomputable def lg(xs:List Rw):List W:=oj (xs.map λx=>om x.v)
noncomputable def cF(z:Zn)(n:List W)(k:W):Rp:=match bR z.t z.r n with
 |some c=>match ie z.r c with
  |some x=>.down x.n (cv x.v) (lg (jS z.r x.n (cv x.v))) (fF ((x::jS z.r x.n (cv x.v)).map λx=>x.l))
  |none=>.away
 |none=>
  if (eX z.t z.r n).drop ((eX z.t z.r n).length-1)=[[42]]/\bG z.r (eX z.t z.r n)=[] then .non z.l
  else match eC (bG z.r (eX z.t z.r n)) aP with
   |x::_=>.bN (cv x.v) x.l
   |[]=>match eC (bG z.r (eX z.t z.r n)) k with
    |[]=>.emp z.l
    |x::r=>.rows (lg (x::r)) (fF ((x::r).map λx=>x.l))
theorem Q9r{z:Zn}{n c:List W}(e:bR z.t z.r n=some c):∃x,ie z.r c=some x:=by
 have hs:=find?_some (show _=some c from e);rw[rW]at hs;cases ed:ie z.r c with
 |none=>rw[ed]at hs;cases hs
 |some x=>exact⟨x,rfl⟩
theorem Qby{z:Zn}{c:List W}{x:Rw}(e:ie z.r c=some x):x∈z.r/\x.k=df/\x.n=c:=by
 have:=mem_of_getLast? e;obtain⟨h1,h2⟩:=Yq.mp this;have h3:=of_decide_eq_true h2;exact⟨h1,h3.1,h3.2⟩
theorem lQ(h:bx z)(hx:x∈z.r)(hk:eR x.k):x.v=dn (cv x.v):=by
 rcases (h.r x hx).pv with ⟨_,m,em⟩|⟨nk,_⟩
 ·rw[em,kK]
 ·exact absurd hk nk
theorem Q9R(h:bx z)(n:List W)(k:W):(cF z n k).d=eU z.t z.l z.r n k:=by
 unfold cF;cases ec:bR z.t z.r n with
 |some c=>
  obtain⟨x,ed⟩:=Q9r ec;obtain⟨hx,hk,_⟩:=Qby ed;rw[Q2i ec ed];erw[ed];show D.tup [.str df,dn x.n,dn (cv x.v),_,_]=.tup [.str df,dn x.n,x.v,_,_];rw[<- lQ h hx (by rw[hk];exact .inl rfl)]
  rfl
 |none=>
  rw[Q1y ec];unfold jQ;simp only;split
  ·rfl
  ·unfold mE;cases ee:eC (bG z.r (eX z.t z.r n)) aP with
   |cons x r=>
    have hx:x∈eC (bG z.r (eX z.t z.r n)) aP:=by rw[ee];exact Zk
    obtain⟨h1,h2⟩:=Q1x hx;obtain⟨h3,_⟩:=Q2U h1;show D.tup [.str aP,dn (cv x.v),.int x.l]=.tup [.str aP,x.v,.int x.l];rw[<- lQ h h3 (by rw[h2];exact Q3O)]
   |nil=>
    simp only;cases eC (bG z.r (eX z.t z.r n)) k with
    |nil=>rfl
    |cons x r=>rfl
end Tz
noncomputable def b_a6:CS:=by walk_at "~cg1d&0#5chkitd&1#0p13d&1#3d&1#1b"
noncomputable def b_aK:CS:=by walk_at "~cg3j405&0a&1a&2bchkiG&3lsebdd&3#5#1b"
open Tz
structure Gr where
 t:Int
 o:W
 top:List W
 n:List W
 k:W
 r:Rp
noncomputable def Gr.ds(g:Gr):List D:=[.int g.t,.str g.o,dn g.top,dn g.n,.str g.k,g.r.d]
noncomputable def fZ:Rp->W
 |.away=>gg
 |.bN _ _=>cE
 |.down _ _ _ _=>cD
 |.rows _ _=>eB
 |.non _=>cN
 |.emp _=>mF
noncomputable def fN:Rp->List W
 |.down c _ _ _=>c
 |_=>[]
noncomputable def mC:Rp->Int
 |.away=>0
 |.bN _ l=>l
 |.down _ _ _ l=>l
 |.rows _ l=>l
 |.non l=>l
 |.emp l=>l
noncomputable def Gr.key(g:Gr):ND:=cw (fZ g.r) (fN g.r) g.n g.k
theorem nD1:¬ cE=cD:=by decide
theorem nD2:¬ eB=cD:=by decide
theorem nD3:¬ cN=cD:=by decide
theorem nD4:¬ mF=cD:=by decide
theorem Gr.oA(g:Gr)(h:g.r≠.away):∃rs,g.r.d=.tup rs/\nX g.ds g.t g.n g.k (fZ g.r) (fN g.r) (mC g.r) rs:=by
 obtain⟨t,o,top,n,k,r⟩:=g;cases r with
 |away=>exact absurd rfl h
 |bN m l=>exact⟨_,rfl,⟨_,_,rfl⟩,⟨_,rfl⟩,(λe=>absurd e nD1),rfl,by intro x hx;erw[Zf,Zm,Zv]at hx;rcases hx with rfl|rfl|rfl<;>exact ZH,by erw[Zs,ZN];room⟩
 |down c hh ds l=>exact⟨_,rfl,⟨_,_,rfl⟩,⟨_,rfl⟩,(λ_=>⟨_,rfl⟩),rfl,by intro x hx;erw[Zf,Zm,Zv]at hx;rcases hx with rfl|rfl|rfl|rfl|rfl<;>exact ZH,by erw[Zs,ZN];room⟩
 |rows ds l=>exact⟨_,rfl,⟨_,_,rfl⟩,⟨_,rfl⟩,(λe=>absurd e nD2),rfl,by intro x hx;erw[Zf,Zm,Zv]at hx;rcases hx with rfl|rfl|rfl<;>exact ZH,by erw[Zs,ZN];room⟩
 |non l=>exact⟨_,rfl,⟨_,_,rfl⟩,⟨_,rfl⟩,(λe=>absurd e nD3),rfl,by intro x hx;erw[Zf,Zm,Zv]at hx;rcases hx with rfl|rfl<;>exact ZH,by erw[Zs,ZN];room⟩
 |emp l=>exact⟨_,rfl,⟨_,_,rfl⟩,⟨_,rfl⟩,(λe=>absurd e nD4),rfl,by intro x hx;erw[Zf,Zm,Zv]at hx;rcases hx with rfl|rfl<;>exact ZH,by erw[Zs,ZN];room⟩
def cm(es:List (ND×D)):Prop:=∀k v,valN es k=some v->∃(g:Gr) (ks:List ND) (l n:Int),v=fc g.ds ks l n/\g.r≠.away/\k=g.key/\g.n.length<=20/\(∀m l,g.r=.bN m l->m.length<=20)/\∀c h ds l,g.r=.down c h ds l->h.length<=20/\c.length<=20
theorem cm.good(h:cm es):oS es:=λk v e=>by
 obtain⟨g,ks,l,n,rfl,hr,rfl,_⟩:=h k v e;obtain⟨rs,_,G⟩:=g.oA hr;exact⟨g.ds,rs,g.t,g.n,g.k,fZ g.r,fN g.r,mC g.r,_,l,n,rfl,G,rfl⟩
theorem QcY(h:cm es)(e:bz es k t=some gs):∃g:Gr,gs=g.ds/\g.key=k/\g.r≠.away/\g.n.length<=20/\(∀m l,g.r=.bN m l->m.length<=20)/\∀c h ds l,g.r=.down c h ds l->h.length<=20/\c.length<=20:=by
 unfold bz at e;split at e
 ·obtain⟨v,e1,e2⟩:=Yi.mp e;obtain⟨g,ks,l,n,rfl,hr,rfl,h1,h2,h3⟩:=h k v e1;injection e2 with e2;exact⟨g,e2.symm,rfl,hr,h1,h2,h3⟩
 ·cases e
noncomputable def gu(es:List (ND×D))(N:List W)(t:Int):Option (List D):=(la kC N).findSome? λk=>bz es k t
theorem Qbz(h:cm es)(e:gu es N t=some gs):∃(g:Gr) (c hh:List W) (ds:List W) (l:Int),gs=g.ds/\g.r=.down c hh ds l/\N.take c.length=c/\hh.length<=20/\bz es (kC,c,[]) t=some gs:=by
 obtain⟨k,hk,e⟩:=List.exists_of_findSome?_eq_some e;obtain⟨g,rfl,hkk,hr,_,_,h3⟩:=QcY h e;unfold la at hk;rw[mem_reverse,ZY]at hk;obtain⟨j,hj,rfl⟩:=hk;rw[mem_range]at hj;obtain⟨t0,o,top,n,kd,r⟩:=g;cases r with
 |down c hh ds l=>
  have hkk:((kC,c,[]):ND)=(kC,N.take j,[]):=hkk;injection hkk with _ hkk;injection hkk with hc _;refine⟨_,c,hh,ds,l,rfl,rfl,?_,(h3 c hh ds l rfl).1,?_⟩
  ·rw[hc,ZD,List.take_eq_take_iff];room
  ·rw[<- hc]at e;exact e
 |away=>exact absurd rfl hr
 |bN m l=>exact absurd (show kN=kC from congrArg (·.1) hkk) (by decide)
 |rows ds l=>exact absurd (show kA=kC from congrArg (·.1) hkk) (by decide)
 |non l=>exact absurd (show kN=kC from congrArg (·.1) hkk) (by decide)
 |emp l=>exact absurd (show kA=kC from congrArg (·.1) hkk) (by decide)
def sp_a6:aU:=λds M R=>∃g:Gr,ds=[.tup g.ds]/\((∃c h dd l,g.r=.down c h dd l/\R (.lst (dd.map .str)) M)\/∃dd l,g.r=.rows dd l/\R (.lst (dd.map .str)) M)
theorem ok_a6(T:Tab)(h13:T.con 13=some (("DOWN":Str),D.str [100,111,119,110])):bp T b_a6 sp_a6 ["",""]:=by
 rintro ds M R ⟨⟨t,o,top,n,k,r⟩,rfl,h⟩;erw[b_a6,Gr.ds];rcases h with ⟨c,hh,dd,l,e,h⟩|⟨dd,l,e,h⟩
 ·cases e;walk_at "q0";refine au rfl ?_;rw[e1];clear e1;unfold Rp.d;w_up;erw[h13];w_up;refine au rfl ?_;refine⟨rfl,rfl,aI (λ_=>?_) λz=>(z (hX _)).elim⟩;refine au rfl ?_;exact aV h
 ·cases e;walk_at "q0";refine au rfl ?_;rw[e1];clear e1;unfold Rp.d;w_up;erw[h13];w_up;refine au rfl ?_;refine⟨rfl,rfl,aI (λz=>?_) λ_=>?_⟩
  ·exact absurd (show (eB:W)=[100,111,119,110] from D.str.inj ((gI _ _).mp z)) (by decide)
  refine au rfl ?_;exact aV h
def pj(es:List (ND×D))(N:List W)(t:Int):D->Prop:=λd=>(gu es N t=none/\d=dn [])\/∃(g:Gr) (c hh:List W) (ds:List W) (l:Int),gu es N t=some g.ds/\g.r=.down c hh ds l/\d=dn c
def sp_aK:aU:=λds M R=>∃(a d:Addr) (es:List (ND×D)) (N:List W) (t:Int),ds=[.ref a,dn N,.int t]/\N.length<=900/\Mem M a d es/\cm es/\∀x,pj es N t x->R x M
theorem ok_aK(T:Tab)(h405:T.mt 405=some ⟨"Memory","handed",2,sp_af⟩):bp T b_aK sp_aK ["","","",""]:=by
 rintro ds M R ⟨a,d,es,N,t,rfl,hN,me,gp,h⟩;obtain⟨⟨n0,so,ob,hso⟩,_⟩:=id me;erw[b_aK];walk_at "q0";erw[h405];w_up;refine⟨a,_,rfl,ob,bh (by kd_p) (by kd_p) (by kd_p),a,d,es,N,t,rfl,hN,me,gp.good,?_⟩
 rw[show (la kC N).findSome? (λk=>bz es k t)=gu es N t from rfl,e1];clear e1;cases eh:gu es N t with
 |none=>
  w_up;refine aI (λ_=>⟨Z8 _,?_⟩) λz=>(z rfl).elim;exact aV (h _ (.inl ⟨eh,rfl⟩))
 |some gs=>
  obtain⟨g,c,hh,dd,l,rfl,er,_⟩:=Qbz gp eh;obtain⟨t0,o,top,n,kd,r⟩:=g;cases er;unfold gB Gr.ds;w_up;refine au rfl ?_;unfold Rp.d;refine au rfl ?_;exact aV (h _ (.inr ⟨_,c,hh,dd,l,eh,rfl,rfl⟩))
noncomputable def b_aD:CS:=by walk_at "~ckiCo85a&1bnbchna&1bbbcBcBb"
theorem Q2X(k:Nat)(ws:List W):DL.plain (k+2) (.lst (ws.map D.str))=true:=by
 unfold DL.plain;rw[all_map,ZO];intro w _;rfl
theorem Q9s(g:Gr):DL.plain 11 (.tup g.ds)=true:=by
 obtain⟨t,o,top,n,k,r⟩:=g;have e:DL.plain 10 r.d=true:=by
  cases r with
  |away=>rfl
  |bN m l=>unfold Rp.d DL.plain;erw[ZC,all_nil,hW,ZR,Yr];rfl
  |down c hh ds l=>unfold Rp.d DL.plain;erw[ZC,all_nil,hW,Q2X,ZR,Yr];rfl
  |rows ds l=>unfold Rp.d DL.plain;erw[ZC,all_nil,Q2X,ZR,Yr];rfl
  |non l=>rfl
  |emp l=>rfl
 unfold Gr.ds DL.plain;erw[ZC,all_nil,hW,e,ZR,Yr];rfl
def sp_aD:aU:=λds M R=>∃(a:Addr) (g:Gr) (c hh dd:List W) (o:W) (l t:Int),ds=[.ref a,.tup g.ds,.int t]/\g.r=.down c hh (o::dd) l/\R (.lst [.tup g.ds]) M
theorem ok_aD(T:Tab)(h85:T.fn 85=some ⟨"doors_in",1,[],sp_a6⟩):bp T b_aD sp_aD ["","","",""]:=by
 rintro ds M R ⟨a,⟨t0,o',top,n,kd,r⟩,c,hh,dd,o,l,t,rfl,er,h⟩;cases er;erw[b_aD];walk_at "q0";erw[h85];w_up;refine⟨_,rfl,.inl ⟨c,hh,o::dd,l,rfl,Z8 _,Q2X 10 (o::dd),rfl,aI (λ_=>⟨by decide,aV h⟩) λz=>?_⟩⟩
 refine absurd ?_ z;rw[(nP _ _).mpr (λy=>by injection y with y;cases y)]
 rfl
noncomputable def b_a1:CS:=by walk_at "~cg3j403f%Walk %memory &0addf%Walk %waits &0A#1#1addf%Walk %waits &0A#1#2af%Walk %now &0bcg4kiG&3lsnbnao80a&3bbchea&1a&2azf%Walk %waits &0aj410f%Walk %memory &0azqXf%Walk %led_by &0&4bazf%Walk %askings &0bb"
noncomputable def b_a7:CS:=by walk_at "~ckit&1p14cBbbcuFNf%Walk %waits &0aea&1a&2a&3bbcuFNf%Walk %led_by &0ao80a&4bbcki!Gea&2a&3bf%Walk %met &0cBbbcYDf%Walk %met &0ea&2a&3blwDchlsb"
noncomputable def b_aO:CS:=by walk_at "~ckiRj403f%Walk %memory &0ad&1#1ad&1#2af%Walk %now &0blschlwmbbchitj420f%Walk %memory &0ad&1#1af%Walk %now &0bd&1#0b"
noncomputable abbrev Wt:=W×List W×W
noncomputable def wD(w:Wt):D:=.tup [.str w.1,dn w.2.1,.str w.2.2]
noncomputable def jU(w:Wt):ND:=(w.2.2,w.2.1,[])
noncomputable abbrev Ak:=W×List W×List W×W
noncomputable def aD(x:Ak):D:=.tup [.str x.1,dn x.2.1,dn x.2.2.1,.str x.2.2.2]
structure Bs where
 top:List W
 n:List W
 k:W
 r:Rp
noncomputable def Bs.d(x:Bs):D:=.tup [dn x.top,dn x.n,.str x.k,x.r.d]
structure AA where
 wk:Addr
 wl:Addr
 mt:Addr
 lb:Addr
 dp:Addr
 al:Addr
 ma:Addr
 d:Addr
noncomputable def AA.all(A:AA):List Addr:=[A.wk,A.wl,A.mt,A.lb,A.dp,A.al,A.ma,A.d]
structure WS where
 es:List (ND×D)
 n:Int
 waits:List Wt
 led:List ND
 dps:List Nat
 asks:List Ak
noncomputable def kF(wp:Addr)(now:Int)(A:AA):List (Str×D):=[(("world":Str),.ref wp),(("memory":Str),.ref A.ma),(("now":Str),.int now),(("waits":Str),.ref A.wl),(("met":Str),.ref A.mt),(("led_by":Str),.ref A.lb),(("door_places":Str),.ref A.dp),(("askings":Str),.ref A.al)]
noncomputable def eK(ws:List Wt):List (ND×D):=ws.map λw=>(jU w,.bl true)
structure KX(M:DH)(A:AA)(wp:Addr)(now:Int)(s:WS):Prop where
 ob:M A.wk=some (.ah (.ins "Walk" (kF wp now A)))
 wl:M A.wl=some (.lst (s.waits.map wD))
 mt:gG true M A.mt (eK s.waits)
 lb:M A.lb=some (.lst (s.led.map bu))
 dp:M A.dp=some (.lst [])
 tw:now=2
 al:M A.al=some (.lst (s.asks.map aD))
 me:dD M A.ma A.d s.es s.n
 gp:cm s.es
 nd:A.all.Nodup
 kd:(s.waits.map jU).Nodup
 le:s.led.length+1=s.waits.length
 z1:s.waits.length<=90
 z3:s.asks.length<=90
 nl:∀w∈s.waits,w.2.1.length<=900
theorem Q5f:List.lookup ("world":Str) (kF wp now A)=some (.ref wp):=by rfl
theorem kM:List.lookup ("memory":Str) (kF wp now A)=some (.ref A.ma):=(aO (by kd_p)).trans du
theorem mf:List.lookup ("now":Str) (kF wp now A)=some (.int now):=(aO (by kd_p)).trans ((aO (by kd_p)).trans du)
theorem mh:List.lookup ("waits":Str) (kF wp now A)=some (.ref A.wl):=(aO (by kd_p)).trans ((aO (by kd_p)).trans ((aO (by kd_p)).trans du))
theorem Q9S:List.lookup ("met":Str) (kF wp now A)=some (.ref A.mt):=(aO (by kd_p)).trans ((aO (by kd_p)).trans ((aO (by kd_p)).trans ((aO (by kd_p)).trans du)))
theorem Q9T:List.lookup ("led_by":Str) (kF wp now A)=some (.ref A.lb):=(aO (by kd_p)).trans ((aO (by kd_p)).trans ((aO (by kd_p)).trans ((aO (by kd_p)).trans ((aO (by kd_p)).trans du))))
theorem qM:List.lookup ("door_places":Str) (kF wp now A)=some (.ref A.dp):=(aO (by kd_p)).trans ((aO (by kd_p)).trans ((aO (by kd_p)).trans ((aO (by kd_p)).trans ((aO (by kd_p)).trans ((aO (by kd_p)).trans du)))))
theorem lU:List.lookup ("askings":Str) (kF wp now A)=some (.ref A.al):=(aO (by kd_p)).trans ((aO (by kd_p)).trans ((aO (by kd_p)).trans ((aO (by kd_p)).trans ((aO (by kd_p)).trans ((aO (by kd_p)).trans ((aO (by kd_p)).trans du))))))
theorem dH{wp:Addr}{now:Int}{A:AA}{m:Str}(a:(m == "world")=false:=by kd_p)(b:(m == "memory")=false:=by kd_p)(c:(m == "now")=false:=by kd_p)(d:(m == "waits")=false:=by kd_p)(e:(m == "met")=false:=by kd_p)(f:(m == "led_by")=false:=by kd_p)(g:(m == "door_places")=false:=by kd_p)(h:(m == "askings")=false:=by kd_p):List.lookup m (kF wp now A)=none:=
 (aO a).trans ((aO b).trans ((aO c).trans ((aO d).trans ((aO e).trans ((aO f).trans ((aO g).trans ((aO h).trans rfl)))))))
theorem dD.at2(h:dD M a d es n)(ha:∀u,M a=some u->M' a=some u)(hd:∀u,M d=some u->M' d=some u):dD M' a d es n:=by
 obtain⟨⟨⟨n0,so0,ob0,hso⟩,⟨ep,tb⟩,ad,vs,sz⟩,so,ob,ok⟩:=h;exact⟨⟨⟨n0,so0,ha _ ob0,hso⟩,⟨ep,hd _ tb⟩,ad,vs,sz⟩,so,ha _ ob,ok⟩
theorem KX.at8(h:KX M A wp now s)(e:∀b∈A.all,∀u,M b=some u->M' b=some u):KX M' A wp now s:=
 {h with
  ob:=e _ (by simp[AA.all]) _ h.ob
  wl:=e _ (by simp[AA.all]) _ h.wl
  mt:=h.mt.imp λ_ z=>e _ (by simp[AA.all]) _ z
  lb:=e _ (by simp[AA.all]) _ h.lb
  dp:=e _ (by simp[AA.all]) _ h.dp
  al:=e _ (by simp[AA.all]) _ h.al
  me:=h.me.at2 (e _ (by simp[AA.all])) (e _ (by simp[AA.all]))}
noncomputable def ik(es:List (ND×D))(N:List W)(t:Int):List W:=match gu es N t with
 |some [_,_,_,_,_,.tup (_::c::_)]=>cv c
 |_=>[]
theorem QbA(h:pj es N t x):x=dn (ik es N t):=by
 rcases h with ⟨e,rfl⟩|⟨⟨t0,o,top,n,kd,r⟩,c,hh,ds,l,e,er,rfl⟩
 ·unfold ik;rw[e]
 ·cases er;unfold ik;rw[e];unfold Gr.ds Rp.d;show dn c=dn (cv (dn c));rw[kK]
noncomputable def jT(es:List (ND×D))(now:Int)(x:Bs):Bool:=(fu es x.n x.k now).isNone&&decide (ik es x.n now=x.top)
def sp_aO:aU:=λds M R=>∃(A:AA) (wp:Addr) (now:Int) (s:WS) (x:Bs),ds=[.ref A.wk,x.d]/\KX M A wp now s/\x.n.length<=900/\R (.bl (jT s.es now x)) M
theorem ok_aO(T:Tab)(h403:T.mt 403=some ⟨"Memory","known",3,sp_aa⟩)(h420:T.mt 420=some ⟨"Memory","top_for",2,sp_aK⟩):bp T b_aO sp_aO ["",""]:=by
 rintro ds M R ⟨A,wp,now,s,⟨top,n,k,r⟩,rfl,K,hl,h⟩;obtain⟨so,ob,_⟩:=K.me.so;erw[b_aO];refine Q0c λk1 e1=>?_;unfold Bs.d;w_up;erw[h403,h420];w_up;refine⟨_,_,_,rfl,K.ob,kM,A.ma,_,rfl,ob,bh (by kd_p) (by kd_p) (by kd_p),?_⟩
 refine au rfl ?_;refine au rfl ?_;refine⟨_,_,_,rfl,K.ob,mf,A.ma,A.d,s.es,n,k,now,rfl,hl,K.me.me,K.gp.good,?_⟩;cases ek:fu s.es n k now with
 |some gs=>
  refine aI (λ_=>?_) λz=>(z rfl).elim;have ew:jT s.es now ⟨top,n,k,r⟩=false:=by unfold jT;erw[ek];rfl
  rw[ew]at h;exact aV h
 |none=>
  refine aI (λz=>by cases z) λ_=>?_
  rw[e1];clear e1;w_up;erw[h420];w_up;refine⟨_,_,_,rfl,K.ob,kM,A.ma,_,rfl,ob,bh (by kd_p) (by kd_p) (by kd_p),?_⟩
  refine au rfl ?_;refine⟨_,_,_,rfl,K.ob,mf,A.ma,A.d,s.es,n,now,rfl,hl,K.me.me,K.gp,λx hx=>?_⟩;rw[QbA hx];refine au rfl ?_;refine⟨hW 10 _,hW 10 _,?_⟩;have ew:jT s.es now ⟨top,n,k,r⟩=eqB (dn (ik s.es n now)) (dn top):=by unfold jT;erw[ek];exact (Q5a _ _).symm
  rw[ew]at h;exact aV h
theorem AA.nes{A:AA}(h:A.all.Nodup):(A.wk≠A.wl/\A.wk≠A.mt/\A.wk≠A.lb/\A.wk≠A.dp/\A.wk≠A.al/\A.wk≠A.ma/\A.wk≠A.d)/\(A.wl≠A.mt/\A.wl≠A.lb/\A.wl≠A.dp/\A.wl≠A.al/\A.wl≠A.ma/\A.wl≠A.d)/\(A.mt≠A.lb/\A.mt≠A.dp/\A.mt≠A.al/\A.mt≠A.ma/\A.mt≠A.d)/\(A.lb≠A.dp/\A.lb≠A.al/\A.lb≠A.ma/\A.lb≠A.d)/\(A.dp≠A.al/\A.dp≠A.ma/\A.dp≠A.d)/\(A.al≠A.ma/\A.al≠A.d)/\A.ma≠A.d:=by
 erw[AA.all,ZW,Zf,Zm,not_or,Zv,not_false_eq_true,nodup_nil,and_true]at h;exact h
theorem Q5g(h:∀w∈ws,¬ (w.2.1=n/\w.2.2=k)):valN (eK ws) (k,n,[])=none:=by
 induction ws with
 |nil=>rfl
 |cons w ws ih=>
  unfold eK;rw[Zu,iM (p:=(jU w,D.bl true)) (λe=>h w (Zk ..) ?_)]
  ·exact ih λx hx=>h x (Zc _ hx)
  ·injection e with e1 e2;injection e2 with e2 _;exact⟨e2,e1⟩
theorem Q9t(h:∀w∈ws,¬ (w.2.1=n/\w.2.2=k)):putN (eK ws) (k,n,[]) (.bl true)=eK (ws++[(why,n,k)]):=by
 unfold putN;rw[nR,Q5g h];unfold eK;rw[ZA];rfl
noncomputable def j3(s:WS)(why:W)(n:List W)(k:W)(g:Gr):WS:={s with waits:=s.waits++[(why,n,k)],led:=s.led++[g.key]}
def sp_a7:aU:=λds M R=>∃(A:AA) (wp:Addr) (now:Int) (s:WS) (why:W) (n:List W) (k:W) (g:Gr),ds=[.ref A.wk,.str why,dn n,.str k,.tup g.ds]/\KX M A wp now s/\why≠ay/\g.r≠.away/\n.length<=900/\s.waits.length<90/\(∀w∈s.waits,¬ (w.2.1=n/\w.2.2=k)) /\
 ∀M',KX M' A wp now (j3 s why n k g)->(∀b,b∉A.all->M' b=M b)->R .non M'
theorem ok_a7(T:Tab)(h14:T.con 14=some (("DOOR":Str),D.str ay))(h80:T.fn 80=some ⟨"key_of",1,[],sp_a3⟩):bp T b_a7 sp_a7 ["","","","",""]:=by
 rintro ds M R ⟨A,wp,now,s,why,n,k,g,rfl,K,nw,hg,hl,w1,hm,h⟩;obtain⟨⟨n12,n13,n14,n15,n16,n17,n18⟩,⟨n23,n24,n25,n26,n27,n28⟩,⟨n34,n35,n36,n37,n38⟩,⟨n45,n46,n47,n48⟩,⟨n56,n57,n58⟩,⟨n67,n68⟩,n78⟩:=AA.nes K.nd;erw[b_a7];walk_at "q0";erw[h14];w_up;refine⟨rfl,rfl,aI (λz=>(nw (of_decide_eq_true z)).elim) λ_=>?_⟩;rw[e1];clear e1;refine Q0c λk2 e2=>?_;w_up;refine⟨_,_,_,rfl,K.ob,mh,?_⟩;erw[K.wl];refine⟨by decide,gx (by rw[Ze];room),?_⟩
 rw[e2];clear e2;refine Q0c λk2 e2=>?_;w_up;erw[h80];w_up;refine⟨_,_,_,rfl,by rw[ag n12];exact K.ob,Q9T,?_⟩
 have o2:∀b,b≠A.wl->ae M A.wl (.lst (s.waits.map wD++[.tup [.str why,dn n,.str k]])) b=M b:=λb b2=>ag b2;have l2:ae M A.wl (.lst (s.waits.map wD++[.tup [.str why,dn n,.str k]])) A.wl=_:=aq;generalize ae M A.wl (.lst (s.waits.map wD++[.tup [.str why,dn n,.str k]]))=M2 at o2 l2;erw[(o2 _ n24.symm).trans K.lb];obtain⟨rs,_,G⟩:=g.oA hg;refine⟨_,_,_,_,_,_,_,_,_,_,rfl,G.r,?_⟩;erw[(o2 _ n24.symm).trans K.lb];have hle:=K.le;refine⟨gx (by rw[Ze];room),?_⟩
 rw[e2];clear e2;have o3:∀b,b≠A.wl->b≠A.lb->ae M2 A.lb (.lst (s.led.map bu++[bu (cw (fZ g.r) (fN g.r) g.n g.k)])) b=M b:=λb b2 b3=>by rw[ag b3];exact o2 b b2
 have l3:ae M2 A.lb (.lst (s.led.map bu++[bu (cw (fZ g.r) (fN g.r) g.n g.k)])) A.wl=_:=(ag n24).trans l2;have b3:ae M2 A.lb (.lst (s.led.map bu++[bu (cw (fZ g.r) (fN g.r) g.n g.k)])) A.lb=_:=aq;generalize ae M2 A.lb (.lst (s.led.map bu++[bu (cw (fZ g.r) (fN g.r) g.n g.k)]))=M3 at o3 l3 b3;clear o2 l2;have ob3:M3 A.wk=_:=(o3 _ n12 n14).trans K.ob;obtain⟨ep,mt⟩:=K.mt;have mt3:M3 A.mt=_:=(o3 _ n23.symm n34).trans mt;refine Q0c λk2 e2=>?_;w_up;refine⟨by decide,_,_,_,rfl,ob3,Q9S,(k,n,[]),A.mt,_,rfl,rfl,⟨ep,mt3⟩,?_⟩
 rw[Q5g hm];refine aI (λz=>by cases z) λ_=>?_
 rw[e2];clear e2;refine Q0c λk2 e2=>?_;w_up;refine⟨_,_,_,rfl,ob3,Q9S,by decide,A.mt,(k,n,[]),_,rfl,rfl,⟨ep,mt3⟩,gx (by unfold eK;rw[Ze];room),λep'=>?_⟩
 rw[Q9t (why:=why) hm,e2];clear e2;w_up;refine aV (h _ ?_ λb hb=>?_)
 ·exact {
   ob:=(ag n13).trans ob3
   wl:=by rw[ag n23,l3];unfold j3;rw[ZA];rfl
   mt:=⟨ep',aq⟩
   lb:=by rw[ag n34.symm,b3];unfold j3;rw[ZA];rfl
   dp:=(ag n35.symm).trans ((o3 _ n25.symm n45.symm).trans K.dp)
   tw:=K.tw
   al:=(ag n36.symm).trans ((o3 _ n26.symm n46.symm).trans K.al)
   me:=K.me.at2 (λu e=>(ag n37.symm).trans ((o3 _ n27.symm n47.symm).trans e)) λu e=>(ag n38.symm).trans ((o3 _ n28.symm n48.symm).trans e)
   gp:=K.gp
   nd:=K.nd
   kd:=by
    show ((s.waits++[(why,n,k)]).map jU).Nodup;rw[ZA,nodup_append];refine⟨K.kd,by simp,λa ha b hb=>?_⟩
    obtain⟨w,hw,rfl⟩:=ZY.mp ha;rw[Zu,map_nil,Zh]at hb;rintro rfl;injection hb with e1 e2;injection e2 with e2 _;exact hm w hw ⟨e2,e1⟩
   le:=by show (s.led++[g.key]).length+1=(s.waits++[(why,n,k)]).length;rw[Zp,Zp];erw[Zs,ZN];room
   z1:=by show (s.waits++[(why,n,k)]).length<=90;rw[Zp];erw[Zs,ZN];room
   z3:=K.z3
   nl:=λw hw=>by
    rcases Z1.mp hw with hw|hw
    ·exact K.nl w hw
    ·rw[Zh]at hw;rw[hw];exact hl}
 ·erw[AA.all,Zf,Zm,not_or,Zv]at hb;rw[ag hb.2.2.1];exact o3 b hb.2.1 hb.2.2.2.1
theorem oJ{ws:List Wt}{w:Wt}{a:Addr}{M:DH}{Q:DK}(ha:M a=some (.lst (ws.map wD)))(hw:ws.getLast?=some w)(h:Q (wD w) M):bD (.ref a) (.int (-1)) M Q:=by
 obtain⟨xs,rfl⟩:∃xs,ws=xs++[w]:=List.getLast?_eq_some_iff.mp hw;show (match M a with|some (.lst xs)=>(match b8 xs (-1) with|some c=>Q c M|none=>False)|_=>False)
 rw[ha];show (match b8 ((xs++[w]).map wD) (-1) with|some c=>Q c M|none=>False)
 rw[ZA,Zu,map_nil,L2.cL];exact h
def sp_a1:aU:=λds M R=>∃(A:AA) (wp:Addr) (now:Int) (s:WS) (word:W) (vs:List W) (w:Wt) (g:Gr) (U:List ND) (G:ND->List D) (RK:ND->List ND) (NO:ND->Int),
 ds=[.ref A.wk,.str word,.lst (vs.map .str)]/\KX M A wp now s/\s.waits.getLast?=some w/\fu s.es w.2.1 w.2.2 now=some g.ds/\g.r≠.away/\nL s.es U G RK NO/\(∀k∈s.led++[g.key],k∈U) /\
 ∀qs,mx RK (s.led++[g.key]) qs->(∀k∈qs,k∈U)->qs.Pairwise (λx y=>NO x<=NO y)->R (.tup [.str word,.lst (vs.map .str),.lst (s.waits.map wD),.lst (qs.map λk=>.tup (G k)),.lst (s.asks.map aD)]) (aA (aA M A.wl) A.al)
theorem ok_a1(T:Tab)(h403:T.mt 403=some ⟨"Memory","known",3,sp_aa⟩)(h410:T.mt 410=some ⟨"Memory","grounds",1,sp_aA⟩)(h80:T.fn 80=some ⟨"key_of",1,[],sp_a3⟩):bp T b_a1 sp_a1 ["","","","",""]:=by
 rintro ds M R ⟨A,wp,now,s,word,vs,w,g,U,G,RK,NO,rfl,K,hw,ek,hg,un,hu,h⟩;obtain⟨⟨n12,n13,n14,n15,n16,n17,n18⟩,⟨n23,n24,n25,n26,n27,n28⟩,⟨n34,n35,n36,n37,n38⟩,⟨n45,n46,n47,n48⟩,⟨n56,n57,n58⟩,⟨n67,n68⟩,n78⟩:=AA.nes K.nd;obtain⟨so,ob,_⟩:=K.me.so;erw[b_a1];walk_at "q0";erw[h403];w_up;refine⟨_,_,_,rfl,K.ob,kM,A.ma,_,rfl,ob,bh (by kd_p) (by kd_p) (by kd_p),?_⟩
 refine⟨_,_,_,rfl,K.ob,mh,oJ K.wl hw (au rfl ?_)⟩;refine⟨_,_,_,rfl,K.ob,mh,oJ K.wl hw (au rfl ?_)⟩;refine⟨_,_,_,rfl,K.ob,mf,A.ma,A.d,s.es,w.2.1,w.2.2,now,rfl,K.nl w (mem_of_getLast? hw),K.me.me,K.gp.good,?_⟩;rw[ek,e1];clear e1;refine Q0c λk1 e1=>?_;unfold gB;w_up;erw[h80];w_up;obtain⟨rs,_,gr⟩:=g.oA hg;refine⟨_,_,_,_,_,_,_,_,_,_,rfl,gr.r,by decide,?_⟩
 rw[show cw (fZ g.r) (fN g.r) g.n g.k=g.key from rfl,e1];clear e1;w_up;erw[h410,cK];w_up;refine⟨_,_,_,rfl,K.ob,mh,?_⟩;erw[K.wl];have o1:∀b,b≠A.wl->aA M A.wl b=M b:=λb hb=>by unfold aA;rw[Zd hb]
 generalize aA M A.wl=M1 at o1 h;have ob1:M1 A.wk=_:=(o1 _ n12).trans K.ob;have lb1:M1 A.lb=_:=(o1 _ n24.symm).trans K.lb;have al1:M1 A.al=_:=(o1 _ n26.symm).trans K.al;have me1:dD M1 A.ma A.d s.es s.n:=K.me.at2 (λu e=>(o1 _ n27.symm).trans e) λu e=>(o1 _ n28.symm).trans e;refine⟨_,_,_,rfl,ob1,kM,A.ma,_,rfl,(o1 _ n27.symm).trans ob,bh (by kd_p) (by kd_p) (by kd_p),?_⟩
 erw[cK];w_up;have hle:=K.le;have hz1:=K.z1;refine⟨_,_,_,rfl,ob1,Q9T,s.led.map bu,[bu g.key],?_,rfl,az (by rw[Ze];erw[Zs,ZN];room),λq hq=>?_⟩
 ·show (match M1 A.lb with|some (.lst xs)=>some xs|_=>none)=some (s.led.map bu)
  rw[lb1]
 erw[aq,jA hq];refine⟨A.ma,A.d,s.es,s.led++[g.key],U,G,RK,NO,by rw[ZA];rfl,me1.me,un,hu,by rw[Zp];erw[Zs,ZN];room,λqs q1 q2 q3=>?_⟩
 refine⟨_,_,_,rfl,ob1,lU,?_⟩;erw[al1];exact⟨by decide,aV (h qs q1 q2 q3)⟩
noncomputable def b_a0:CS:=by walk_at "~cg4ddf%Walk %waits &0A#1#1cg5ddf%Walk %waits &0A#1#2cg6j369f%Walk %world &0a&1a&2a&4a&5bcuFNf%Walk %askings &0aea&1a&2a&4a&5bbcg7d&6#0cg8eaf%Walk %now &0a&1a&2a&4a&5a&7bckitd&7#0p18cBbbcuj401f%Walk %memory &0a&8a&3bcM9d&6#1ckQitd&9#0&2j446&0a&9bcuj401f%Walk %memory &0aqveaf%Walk %now &0a&1b&9a&3bbbbchlsb"
noncomputable def b_a5:CS:=by walk_at "~cg2j405f%Walk %memory &0a&1af%Walk %now &0bckiG&2lschj445&0aj361f%Walk %world &0baebanbbbbcg3j421f%Walk %memory &0a&2af%Walk %now &0bckit&3nbcBbbchj445&0ado85ad&3A#1b#0add&2#5#1aym[ &3bo80a&0bbb"
noncomputable def b_a2:CS:=by walk_at "~cg1ddf%Walk %waits &0A#1#1cg2ddf%Walk %waits &0A#1#2cg3j403f%Walk %memory &0a&1a&2af%Walk %now &0bckiG&3lschj444&0a&1bbbcg4d&3#5ckitd&4#0p12chj442&0ap12ad&4#1a&2a&3bbbckitf%Walk %door_places &0nbchj447&0ad&4#0akitd&4#0p15d&4#1nbbbbcBcBchlsb"
def GrO(g:Gr):Prop:=g.r≠.away/\g.n.length<=20/\(∀m l,g.r=.bN m l->m.length<=20)/\∀c h ds l,g.r=.down c h ds l->h.length<=20/\c.length<=20
def cY(g:Gr):Prop:=GrO g/\0<=mC g.r
noncomputable abbrev Me:=List (ND×D)×Int
noncomputable def mB(m:Me)(g:Gr)(rests:List ND):Bool:=(rests.all λk=>(bY m.1 k g.t).isSome)&&(bY m.1 g.key g.t).isNone
noncomputable def gh(m:Me)(g:Gr)(rests:List ND):Me:=
 if mB m g rests=true then (putN m.1 g.key (fc g.ds rests (cP (g.t+mC g.r) (rests.filterMap λk=>bY m.1 k g.t)) (m.2+1)),m.2+1) else m
theorem QbB(hx:a<=x)(h:∀l∈ls,a<=l):a<=cP x ls:=by
 induction ls generalizing x with
 |nil=>exact hx
 |cons y ls ih=>exact ih (Int.le_min.mpr ⟨hx,h y (Zk ..)⟩) λl hl=>h l (Zc _ hl)
theorem Q9u(h:bY es k t=some l):t<=l:=by
 unfold bY at h;obtain⟨y,_,e⟩:=Yi.mp h;split at e
 ·cases e
 ·injection e with e;room
theorem Q3T(m:Me)(g:Gr)(rests:List ND):(gh m g rests).1.length<=m.1.length+1:=by
 unfold gh;split
 ·exact Q2a _ _ _
 ·room
theorem Q9v(h:cm es)(hg:cY g)(rests:List ND)(l n:Int):cm (putN es g.key (fc g.ds rests l n)):=λk v e=>by
 rw[Q4Q]at e;split at e
 ·cases e;exact⟨g,rests,l,n,rfl,hg.1.1,by assumption,hg.1.2⟩
 ·exact h k v e
theorem QbC{α β:Type}{f:α->Option β}{xs:List α}{ys:List β}(h:xs.map f=ys.map some):xs.filterMap f=ys:=by
 induction xs generalizing ys with
 |nil=>cases ys with
  |nil=>rfl
  |cons=>cases h
 |cons x xs ih=>cases ys with
  |nil=>cases h
  |cons y ys=>
   rw[Zu,Zu]at h;injection h with h1 h2;rw[filterMap_cons,h1,ih h2]
theorem KX.mem(K:KX M A wp now s)(o:∀b,b≠A.ma->b≠A.d->M' b=M b)(me:dD M' A.ma A.d es n)(gp:cm es):KX M' A wp now {s with es:=es,n:=n}:=by
 obtain⟨⟨n12,n13,n14,n15,n16,n17,n18⟩,⟨n23,n24,n25,n26,n27,n28⟩,⟨n34,n35,n36,n37,n38⟩,⟨n45,n46,n47,n48⟩,⟨n56,n57,n58⟩,⟨n67,n68⟩,n78⟩:=AA.nes K.nd;exact {K with
  ob:=(o _ n17 n18).trans K.ob
  wl:=(o _ n27 n28).trans K.wl
  mt:=K.mt.imp λ_ e=>(o _ n37 n38).trans e
  lb:=(o _ n47 n48).trans K.lb
  dp:=(o _ n57 n58).trans K.dp
  al:=(o _ n67 n68).trans K.al
  me:=me
  gp:=gp}
theorem WX.mH{M0 M M1:DH}{wp sd:Addr}{root:W}{now asks:Int}{ks:List W}{rc:W->Hr}{zs:List Zn}{ex:List Addr}{c l:Nat}{x y:Addr}{u v:MO}(h:WX M0 M wp sd root now asks ks rc zs ex c l)(hx:x∈ex)(hy:y∈ex)(o:∀b,b≠x->b≠y->M1 b=M b)(qR:M1 x=some u)(ey:M1 y=some v):WX M0 M1 wp sd root now asks ks rc zs ex c l:=by
 have e:M1=ae (ae M x u) y v:=by
  funext b
  by_cases h1:b=y
  ·rw[h1,aq,ey]
  ·rw[ag h1];by_cases h2:b=x
   ·rw[h2,aq,qR]
   ·rw[ag h2];exact o b h2 h1
 rw[e];exact (h.write hx).write hy
theorem Q3U{M M0:DH}{R:DK}{A:AA}{wp sd:Addr}{root:W}{now asks:Int}{s:WS}{ks:List W}{rc:W->Hr}{zs:List Zn}{ex:List Addr}{c l:Nat}{g:Gr}{rests:List ND}(K:KX M A wp now s)(X:WX M0 M wp sd root now asks ks rc zs ex c l)(he:∀b∈A.all,b∈ex)(hg:cY g)(ht:2<=g.t)(hr:rests.length<=100)(hz:s.es.length<900)
  (h:∀M',KX M' A wp now {s with es:=(gh (s.es,s.n) g rests).1,n:=(gh (s.es,s.n) g rests).2}->WX M0 M' wp sd root now asks ks rc zs ex c l->(∀b,b∉A.all->M' b=M b)->R .non M'):sp_an [.ref A.ma,.tup g.ds,.lst (rests.map bu)] M R:=by
 obtain⟨rs,_,gr⟩:=g.oA hg.1.1;have no:mB (s.es,s.n) g rests=false->R .non M:=λe=>by
  have:=h M;unfold gh at this;rw[Zd (by rw[e];decide)]at this
  exact this K X λ_ _=>rfl
 refine⟨A.ma,A.d,s.es,s.n,g.ds,rs,g.t,g.n,g.k,_,_,_,rests,rfl,gr,K.me,hr,hz,λls e=>?_,λ⟨k,hk,e⟩=>no ?_,λl e=>no ?_,λe1 ls e2 M1 me o=>?_⟩
 ·have hl:=hg.2;refine QbB (by room) λx hx=>?_
  have hm:some x∈ls.map some:=ZY.mpr ⟨x,hx,rfl⟩;rw[<- e]at hm;obtain⟨k,_,hk⟩:=ZY.mp hm;have:=Q9u hk;room
 ·unfold mB;rw[Bool.and_eq_false_iff];left;rw[List.all_eq_false];exact⟨k,hk,by rw[e];decide⟩
 ·unfold mB;rw[Bool.and_eq_false_iff];right;rw[show bY s.es g.key g.t=some l from e];rfl
 ·have ok:mB (s.es,s.n) g rests=true:=by
   unfold mB;rw[Zj];refine⟨?_,by rw[show bY s.es g.key g.t=none from e1];rfl⟩
   rw[ZO];intro k hk;have:bY s.es k g.t∈rests.map λk=>bY s.es k g.t:=ZY.mpr ⟨k,hk,rfl⟩;rw[e2]at this;obtain⟨y,_,hy⟩:=ZY.mp this;rw[<- hy];rfl
  have:=h M1;unfold gh at this;rw[Zg ok,QbC e2]at this;obtain⟨so,ob,_⟩:=me.so;obtain⟨ep,tb⟩:=me.me.tb;refine this (K.mem o me (Q9v K.gp hg _ _ _)) (X.mH (he _ (by simp[AA.all])) (he _ (by simp[AA.all])) o ob tb) λb hb=>o b (λz=>hb (by rw[z];simp[AA.all])) λz=>hb (by rw[z];simp[AA.all])
noncomputable def gw(now:Int)(door:W)(top:List W)(rests:List ND)(m:Me)(x:Bs):Me:=if x.top=top/\jT m.1 now x=true then gh m ⟨now,door,x.top,x.n,x.k,x.r⟩ rests else m
theorem Q7C(now:Int)(door:W)(top:List W)(rests:List ND)(m:Me)(x:Bs):(gw now door top rests m x).1.length<=m.1.length+1:=by
 unfold gw;split
 ·exact Q3T _ _ _
 ·room
noncomputable def dr(m:Me)(now:Int)(door:W)(top:List W)(rests:List ND)(w:Wt)(rep:Rp)(outs:List Bs):Me:=outs.foldl (gw now door top rests) (gh m ⟨now,door,top,w.2.1,w.2.2,rep⟩ rests)
noncomputable def gF(s:WS)(now:Int)(door:W)(top:List W)(rests:List ND)(w:Wt)(rep:Rp)(outs:List Bs):WS:={s with es:=(dr (s.es,s.n) now door top rests w rep outs).1,n:=(dr (s.es,s.n) now door top rests w rep outs).2,asks:=s.asks++[(door,top,w.2.1,w.2.2)]}
def sp_a0:aU:=λds M R=>∃(M0:DH) (A:AA) (wp sd:Addr) (root:W) (now asks:Int) (ks:List W) (rc:W->Hr) (zs:List Zn) (ex:List Addr) (c l:Nat) (s:WS) (w:Wt) (door:W) (top:List W) (rests:List ND) (rep:Rp) (outs:List Bs),
 ds=[.ref A.wk,.str door,dn top,.lst (rests.map bu)]/\KX M A wp now s/\WX M0 M wp sd root now asks ks rc zs ex c l/\(∀b∈A.all,b∈ex)/\c9 zs/\c<=10000000/\s.waits.getLast?=some w/\¬ eR w.2.2/\w.2.1.take top.length=top/\rests.length<=100/\s.asks.length<90 /\
 cq (ofD zs door) (some top) w.2.1 w.2.2=rep.d/\cY ⟨now,door,top,w.2.1,w.2.2,rep⟩/\(∀out,eW (ofD zs door) w.2.2 [w.2.1] rep.d out->out=outs.map Bs.d)/\(∀x∈outs,cY ⟨now,door,x.top,x.n,x.k,x.r⟩)/\s.es.length+outs.length<899 /\
 ∀M',KX M' A wp now (gF s now door top rests w rep outs)->WX M0 M' wp sd root now (asks+1) ks rc zs ex (c+1000) l->(∀b u,b∉A.all->b≠wp->(∀w∈ks,b∉(rc w).ad)->M b=some u->M' b=some u)->R .non M'
theorem ok_a0(T:Tab)(h369:T.mt 369=some ⟨"World","ask",4,sp_av⟩)(h401:T.mt 401=some ⟨"Memory","keep",2,sp_an⟩)(h446:T.mt 446=some ⟨"Walk","would_ask",1,sp_aO⟩)(h18:T.con 18=some (("AWAY":Str),D.str gg)):bp T b_a0 sp_a0 ["","","","","","","","","",""]:=by
 rintro ds M R ⟨M0,A,wp,sd,root,now,asks,ks,rc,zs,ex,c,l,s,w,door,top,rests,rep,outs,rfl,K,X,he,hz,hc,hw,hk,ht,hr,ha,er,hg,hch,ho,hs,h⟩;obtain⟨⟨n12,n13,n14,n15,n16,n17,n18⟩,⟨n23,n24,n25,n26,n27,n28⟩,⟨n34,n35,n36,n37,n38⟩,⟨n45,n46,n47,n48⟩,⟨n56,n57,n58⟩,⟨n67,n68⟩,n78⟩:=AA.nes K.nd;erw[b_a0];walk_at "q0";refine⟨_,_,_,rfl,K.ob,mh,oJ K.wl hw (au rfl ?_)⟩;walk_at "q1";refine⟨_,_,_,rfl,K.ob,mh,oJ K.wl hw (au rfl ?_)⟩;walk_at "q1";erw[h369];w_up;refine⟨_,_,_,rfl,K.ob,Q5f,wp,_,rfl,X.ob,c4,M0,wp,sd,root,now,asks,ks,rc,zs,ex,c,l,door,top,w.2.1,w.2.2,rfl,X,hz,hc,hk,K.nl w (mem_of_getLast? hw),ht,λM1 out X1 st1 ch=>?_⟩;rw[er]at ch ⊢;have eo:=hch out ch;subst eo;have K1:KX M1 A wp now s:=K.at8 λb hb u e=>st1 b u (X.nx b (he b hb)).2.1 (X.nx b (he b hb)).2.2.2 e;walk_at "q1";refine⟨_,_,_,rfl,K1.ob,lU,?_⟩;erw[K1.al];refine⟨by decide,gx (by rw[Ze];room),?_⟩
 rw[e1];clear e1;have K2:KX (ae M1 A.al (.lst (s.asks.map aD++[.tup [.str door,dn top,dn w.2.1,.str w.2.2]]))) A wp now {s with asks:=s.asks++[(door,top,w.2.1,w.2.2)]}:=
  {K1 with
   ob:=(ag n16).trans K1.ob
   wl:=(ag n26).trans K1.wl
   mt:=K1.mt.put n36
   lb:=(ag n46).trans K1.lb
   dp:=(ag n56).trans K1.dp
   al:=by rw[aq,ZA];rfl
   me:=K1.me.at2 (λu e=>(ag n67.symm).trans e) λu e=>(ag n68.symm).trans e
   z3:=by show (s.asks++[(door,top,w.2.1,w.2.2)]).length<=90;rw[Zp];erw[Zs,ZN];room}
 have X2:=X1.write (b:=A.al) (o:=.lst (s.asks.map aD++[.tup [.str door,dn top,dn w.2.1,.str w.2.2]])) (he _ (by simp[AA.all]))
 have o2:∀b,b∉A.all->ae M1 A.al (.lst (s.asks.map aD++[.tup [.str door,dn top,dn w.2.1,.str w.2.2]])) b=M1 b:=λb hb=>ag λz=>hb (by rw[z];simp[AA.all])
 generalize ae M1 A.al (.lst (s.asks.map aD++[.tup [.str door,dn top,dn w.2.1,.str w.2.2]]))=M2 at K2 X2 o2;walk_at "q0";refine au rfl ?_;walk_at "q1";refine⟨_,_,_,rfl,K2.ob,mf,by decide,?_⟩
 walk_at "q1";erw[h18];w_up;have na:∃rs,rep.d=.tup (.str (fZ rep)::rs)/\fZ rep≠gg:=by
  have:=hg.1.1;cases rep with
  |away=>exact absurd rfl this
  |bN m l=>exact⟨_,rfl,show cE≠gg by decide⟩
  |down c hh ds l=>exact⟨_,rfl,show cD≠gg by decide⟩
  |rows ds l=>exact⟨_,rfl,show eB≠gg by decide⟩
  |non l=>exact⟨_,rfl,show cN≠gg by decide⟩
  |emp l=>exact⟨_,rfl,show mF≠gg by decide⟩
 obtain⟨rs,ed,nw⟩:=na;rw[ed];refine au cS ?_;refine⟨rfl,rfl,aI (λz=>absurd (D.str.inj ((gI _ _).mp z)) nw) λ_=>?_⟩;rw[<- ed,e1];clear e1;walk_at "q0";erw[h401];w_up;obtain⟨so2,ob2,_⟩:=K2.me.so;refine⟨_,_,_,rfl,K2.ob,kM,A.ma,_,rfl,ob2,bh (by kd_p) (by kd_p) (by kd_p),?_⟩
 refine Q3U K2 X2 he hg (by show 2<=now;rw[K.tw];decide) hr (by show s.es.length<900;room) λM3 K3 X3 o3=>?_
 rw[e1];clear e1;refine Q0c λk1 e1=>?_;show dFor _ _ _ _ _ _;w_up;refine au rfl ?_;have hf:∀i,((outs.take i).foldl (gw now door top rests) (gh (s.es,s.n) ⟨now,door,top,w.2.1,w.2.2,rep⟩ rests)).1.length<=s.es.length+1+i:=by
  intro i
  induction i with
  |zero=>exact Q3T _ _ _
  |succ i ih=>
   rw[take_add_one,List.foldl_append];cases outs[i]? with
   |none=>exact le_succ_of_le ih
   |some x=>exact ZF (Q7C now door top rests _ x) (Nat.succ_le_succ ih)
 refine rN (λi ρ M'=>∃v:Option D,ρ=[some (.ref A.wk),some (.str door),some (dn top),some (.lst (rests.map bu)),some (dn w.2.1),some (.str w.2.2),some (.tup [rep.d,.lst (outs.map Bs.d)]),some rep.d,some (.tup [.int now,.str door,dn top,dn w.2.1,.str w.2.2,rep.d]),v] /\
  KX M' A wp now {s with es:=((outs.take i).foldl (gw now door top rests) (gh (s.es,s.n) ⟨now,door,top,w.2.1,w.2.2,rep⟩ rests)).1,n:=((outs.take i).foldl (gw now door top rests) (gh (s.es,s.n) ⟨now,door,top,w.2.1,w.2.2,rep⟩ rests)).2,asks:=s.asks++[(door,top,w.2.1,w.2.2)]} /\
  WX M0 M' wp sd root now (asks+1) ks rc zs ex (c+1000) l/\∀b,b∉A.all->M' b=M3 b) ⟨none,rfl,K3,X3,λ_ _=>rfl⟩ (λ_ _ _ _=>trivial) ?_ ?_
 ·rintro i d ρ M4 k2 hi ⟨v,rfl,K4,X4,o4⟩ hk2;rw[ZB,Z4]at hi;obtain⟨x,hx,rfl⟩:=hi;have hxm:x∈outs:=ZI hx;have hf4:=hf i;have hil:i<outs.length:=(Zq.mp hx).1;have et:∀m0,(outs.take (i+1)).foldl (gw now door top rests) m0=gw now door top rests ((outs.take i).foldl (gw now door top rests) m0) x:=λm0=>by rw[take_add_one,hx,List.foldl_append];rfl
  rw[et]at hk2;generalize (outs.take i).foldl (gw now door top rests) (gh (s.es,s.n) ⟨now,door,top,w.2.1,w.2.2,rep⟩ rests)=m4 at K4 hf4 hk2;w_up;refine au rfl ?_;erw[h446,h401];w_up;have no:¬ (x.top=top/\jT m4.1 now x=true)->k2 [some (.ref A.wk),some (.str door),some (dn top),some (.lst (rests.map bu)),some (dn w.2.1),some (.str w.2.2),some (.tup [rep.d,.lst (outs.map Bs.d)]),some rep.d,some (.tup [.int now,.str door,dn top,dn w.2.1,.str w.2.2,rep.d]),some x.d] M4:=λz=>hk2 _ _ ⟨_,rfl,by unfold gw;rw[Zd z];exact K4,X4,o4⟩
  refine⟨hW 10 _,hW 10 _,aI (λz=>?_) λz=>no λy=>z (by rw[y.1];exact hX _)⟩
  have z1:x.top=top:=oI ((gI _ _).mp z);refine⟨_,_,rfl,K4.ob,dH,A,wp,now,_,x,rfl,K4,?_,aI (λz2=>?_) λz2=>no λy=>z2 y.2⟩
  ·have:=(ho x hxm).1.2.1;show x.n.length<=900;have:x.n.length<=20:=this;room
  ·obtain⟨so4,ob4,_⟩:=K4.me.so;refine⟨_,_,_,rfl,K4.ob,kM,A.ma,_,rfl,ob4,bh (by kd_p) (by kd_p) (by kd_p),_,_,_,rfl,K4.ob,mf,by decide,(show 6<=sizeLine by decide),?_⟩
   refine Q3U (g:=⟨now,door,x.top,x.n,x.k,x.r⟩) K4 X4 he (ho x hxm) (by show 2<=now;rw[K.tw];decide) hr (by show m4.1.length<900;room) λM5 K5 X5 o5=>?_
   refine hk2 _ _ ⟨_,rfl,?_,X5,λb hb=>(o5 b hb).trans (o4 b hb)⟩;unfold gw;rw[Zg ⟨z1,z2⟩];exact K5
 ·rintro ρ M4 ⟨v,rfl,K4,X4,o4⟩;rw[Ze,Yh]at K4;show k1 _ _;rw[e1];clear e1;w_up;refine aV (h _ K4 X4 λb u b1 b2 b3 e=>?_);rw[o4 b b1,o3 b b1,o2 b b1];exact st1 b u b2 b3 e
theorem Q1L(i:∀d M',R d M'->R' d M')(h:sp_a0 ds M R):sp_a0 ds M R':=by
 obtain⟨M0,A,wp,sd,root,now,asks,ks,rc,zs,ex,c,l,s,w,door,top,rests,rep,outs,h1,h2,h3,h4,h5,h6,h7,h8,h9,h10,h11,h12,h13,h14,h15,h16,h17⟩:=h;exact⟨M0,A,wp,sd,root,now,asks,ks,rc,zs,ex,c,l,s,w,door,top,rests,rep,outs,h1,h2,h3,h4,h5,h6,h7,h8,h9,h10,h11,h12,h13,h14,h15,h16,λM' a b d=>i _ _ (h17 M' a b d)⟩
theorem Q3V(i:∀d M',R d M'->R' d M')(h:sp_a7 ds M R):sp_a7 ds M R':=by
 obtain⟨A,wp,now,s,why,n,k,g,h1,h2,h3,h4,h5,h6,h7,h8⟩:=h;exact⟨A,wp,now,s,why,n,k,g,h1,h2,h3,h4,h5,h6,h7,λM' a b=>i _ _ (h8 M' a b)⟩
theorem Q2k(i:∀d M',R d M'->R' d M')(h:sp_a1 ds M R):sp_a1 ds M R':=by
 obtain⟨A,wp,now,s,word,vs,w,g,U,G,RK,NO,h1,h2,h3,h4,h5,h6,h7,h8⟩:=h;exact⟨A,wp,now,s,word,vs,w,g,U,G,RK,NO,h1,h2,h3,h4,h5,h6,h7,λqs a b c=>i _ _ (h8 qs a b c)⟩
theorem jb{R:DK}:∀d M',R d M'->∃M0,DL.Sub M0 M'/\R d M0:=λ_ _ z=>aV z
theorem Q9w{T:Tab}{A:AA}{M:DH}{R:DK}{N:List W}{g:Gr}{gl:List Gr}{gz:Gr}{c hh dd os:List W}{o:W}{l:Int}{wp:Addr}{now:Int}{s:WS}(h445:T.mt 445=some ⟨"Walk","ask_house",3,sp_a0⟩)(h85:T.fn 85=some ⟨"doors_in",1,[],sp_a6⟩)(h80:T.fn 80=some ⟨"key_of",1,[],sp_a3⟩)(K:KX M A wp now s)(er:g.r=.down c hh dd l)(ng:∀x∈gl,x.r≠.away)(hl:gl.length<=2)(hz:gl.getLast?=some gz)(hd:∀R':DK,R' (.lst ((o::os).map .str)) M->sp_a6 [.tup gz.ds] M R')(h:sp_a0 [.ref A.wk,.str o,dn c,.lst ((gl.map Gr.key).map bu)] M R) :
  b7 T (.seq (.ret (.meth 445 (.var 0) (.cons (.ix (.call 85 (.cons (.ix (.var 3) (.neg (.con (.int 1)))) .nil)) (.con (.int 0))) (.cons (.ix (.ix (.var 2) (.con (.int 5))) (.con (.int 1))) (.cons (.compz false [] (.var 3) .nil (.call 80 (.cons (.var 0) .nil))) .nil))))) .nil) (za3 R) [some (.ref A.wk),some (dn N),some (.tup g.ds),some (.lst (gl.map λx=>.tup x.ds))] M:=by
 have g5:g.ds=[.int g.t,.str g.o,dn g.top,dn g.n,.str g.k,.tup [.str df,dn c,dn hh,.lst (dd.map .str),.int l]]:=by unfold Gr.ds;rw[er];rfl
 w_up;erw[h445,h85,h80];w_up;refine⟨_,_,rfl,K.ob,dH,?_⟩;obtain⟨xs,rfl⟩:=List.getLast?_eq_some_iff.mp hz;refine il (by rw[ZA,Zu,map_nil,L2.cL]) ?_
 refine hd _ (il (d:=.str o) cS ?_);rw[g5];refine au rfl (au rfl ?_);refine mj (xs++[gz]) (λx=>.tup x.ds) (λx=>bu x.key) trivial (by room) (λx cc hx hc=>?_) ?_
 ·w_up;obtain⟨rs,_,gr⟩:=x.oA (ng x hx);exact⟨_,_,_,_,_,_,_,_,_,_,rfl,gr.r,hc⟩
 ·rw[Yk]at h;exact⟨az (by rw[Ze];room),Q1L jb h⟩
def sp_a5:aU:=λds M R=>∃(A:AA) (wp:Addr) (now:Int) (s:WS) (N:List W),ds=[.ref A.wk,dn N]/\KX M A wp now s/\N.length<=900 /\
 ((gu s.es N now=none/\∃(sd:Addr) (root:W) (asks:Int),M wp=some (.ah (.ins "World" (wF root now asks sd)))/\sp_a0 [.ref A.wk,.str root,dn [],.lst []] M R) \/
  ∃(g:Gr) (c hh os:List W) (o:W) (l:Int),gu s.es N now=some g.ds/\g.r=.down c hh (o::os) l/\sp_a0 [.ref A.wk,.str o,dn c,.lst ([g.key].map bu)] M R)
theorem ok_a5(T:Tab)(h405:T.mt 405=some ⟨"Memory","handed",2,sp_af⟩)(h445:T.mt 445=some ⟨"Walk","ask_house",3,sp_a0⟩)(h361:T.mt 361=some ⟨"World","root",0,sp_aq⟩)(h421:T.mt 421=some ⟨"Memory","entrance",2,sp_aD⟩)(h85:T.fn 85=some ⟨"doors_in",1,[],sp_a6⟩)(h80:T.fn 80=some ⟨"key_of",1,[],sp_a3⟩):bp T b_a5 sp_a5 ["","","",""]:=by
 rintro ds M R ⟨A,wp,now,s,N,rfl,K,hN,h⟩;obtain⟨so,ob,_⟩:=K.me.so;erw[b_a5];walk_at "q0";erw[h405];w_up;refine⟨_,_,_,rfl,K.ob,kM,A.ma,_,rfl,ob,bh (by kd_p) (by kd_p) (by kd_p),_,_,_,rfl,K.ob,mf,A.ma,A.d,s.es,N,now,rfl,hN,K.me.me,K.gp.good,?_⟩
 rw[show (la kC N).findSome? (λk=>bz s.es k now)=gu s.es N now from rfl,e1];clear e1;refine Q0c λk1 e1=>?_;rcases h with ⟨eh,sd,root,asks,hw,h⟩|⟨g,c,hh,os,o,l,eh,er,h⟩
 ·rw[eh];w_up;refine aI (λ_=>?_) λz=>(z rfl).elim;erw[h445,h361];w_up;refine⟨_,_,rfl,K.ob,dH,_,_,_,rfl,K.ob,Q5f,wp,_,rfl,hw,c4,wp,sd,root,now,asks,rfl,hw,?_⟩;exact⟨Z8 _,Z8 _,Q1L jb h⟩
 ·rw[eh];w_up;refine aI (λz=>by cases z) λ_=>?_
  rw[e1];clear e1;unfold gB;walk_at "q0";erw[h421];w_up;refine⟨_,_,_,rfl,K.ob,kM,A.ma,_,rfl,ob,bh (by kd_p) (by kd_p) (by kd_p),_,_,_,rfl,K.ob,mf,A.ma,g,c,hh,os,o,l,now,rfl,er,?_⟩
  have ng:g.r≠.away:=by rw[er];intro z;cases z
  walk_at "q1";refine⟨Z8 _,?_,rfl,aI (λz=>?_) λ_=>?_⟩
  ·show ([D.tup g.ds].all (DL.plain 11))=true;erw[ZC,all_nil,ZR];exact Q9s g
  ·have:=(gI _ _).mp z;injection this with this;cases this
  rw[e1];clear e1;exact Q9w (gl:=[g]) (gz:=g) (os:=os) h445 h85 h80 K er (by simp[ng]) (by simp) rfl (λR' z=>⟨g,rfl,.inl ⟨c,hh,_,l,er,z⟩⟩) h
theorem pT{r:Rp}:∃rs,r.d=.tup (.str (fZ r)::rs):=by cases r<;>exact⟨_,rfl⟩
def sp_a2:aU:=λds M R=>∃(A:AA) (wp:Addr) (now:Int) (s:WS) (w:Wt),ds=[.ref A.wk]/\KX M A wp now s/\s.waits.getLast?=some w /\
 ((fu s.es w.2.1 w.2.2 now=none/\sp_a5 [.ref A.wk,dn w.2.1] M R) \/
  ∃g:Gr,fu s.es w.2.1 w.2.2 now=some g.ds/\g.r≠.away /\
   ((∃m l,g.r=.bN m l/\sp_a7 [.ref A.wk,.str aP,dn m,.str w.2.2,.tup g.ds] M R) \/
    ((∀m l,g.r≠.bN m l)/\sp_a1 [.ref A.wk,.str (fZ g.r),.lst ((match g.r with|.rows dd _=>dd|_=>[]).map .str)] M R)))
theorem Q3W(i:∀d M',R d M'->R' d M')(h:sp_a5 ds M R):sp_a5 ds M R':=by
 obtain⟨A,wp,now,s,N,h1,h2,h3,h⟩:=h;refine⟨A,wp,now,s,N,h1,h2,h3,?_⟩;rcases h with ⟨e,sd,root,asks,hw,h⟩|⟨g,c,hh,os,o,l,e1,e2,h⟩
 ·exact .inl ⟨e,sd,root,asks,hw,Q1L i h⟩
 ·exact .inr ⟨g,c,hh,os,o,l,e1,e2,Q1L i h⟩
theorem ok_a2(T:Tab)(h403:T.mt 403=some ⟨"Memory","known",3,sp_aa⟩)(h444:T.mt 444=some ⟨"Walk","look_for_house",1,sp_a5⟩)(h442:T.mt 442=some ⟨"Walk","wait_for",4,sp_a7⟩)(h447:T.mt 447=some ⟨"Walk","answer",2,sp_a1⟩)(h12:T.con 12=some (("ELSE":Str),D.str aP))(h15:T.con 15=some (("ROWS":Str),D.str eB)):bp T b_a2 sp_a2 ["","","","",""]:=by
 rintro ds M R ⟨A,wp,now,s,w,rfl,K,hw,h⟩;obtain⟨so,ob,_⟩:=K.me.so;erw[b_a2];walk_at "q0";refine⟨_,_,_,rfl,K.ob,mh,oJ K.wl hw (au rfl ?_)⟩;walk_at "q1";refine⟨_,_,_,rfl,K.ob,mh,oJ K.wl hw (au rfl ?_)⟩;walk_at "q1";erw[h403];w_up;refine⟨_,_,_,rfl,K.ob,kM,A.ma,_,rfl,ob,bh (by kd_p) (by kd_p) (by kd_p),_,_,_,rfl,K.ob,mf,A.ma,A.d,s.es,w.2.1,w.2.2,now,rfl,K.nl w (mem_of_getLast? hw),K.me.me,K.gp.good,?_⟩
 rw[e1];clear e1;refine Q0c λk1 e1=>?_;rcases h with ⟨ek,h⟩|⟨g,ek,ng,h⟩
 ·rw[ek];w_up;refine aI (λ_=>?_) λz=>(z rfl).elim;erw[h444];w_up;exact⟨_,_,rfl,K.ob,dH,Q3W jb h⟩
 ·rw[ek];w_up;refine aI (λz=>by cases z) λ_=>?_
  rw[e1];clear e1;unfold gB;walk_at "q0";refine au rfl ?_;walk_at "q1";erw[h12,h442];obtain⟨rs,hd⟩:=pT (r:=g.r);rcases h with ⟨m,l,er,h⟩|⟨ne,h⟩
  ·rw[er];unfold Rp.d;refine au rfl ?_;refine⟨rfl,rfl,aI (λ_=>?_) λz=>(z (hX _)).elim⟩;w_up;exact⟨_,_,rfl,K.ob,dH,au rfl (Q3V jb h)⟩
  ·rw[hd];refine au cS ?_;have nE:fZ g.r≠aP:=by
    cases eg:g.r with
    |bN m l=>exact absurd eg (ne m l)
    |away=>exact absurd eg ng
    |down c hh ds l=>show cD≠aP;decide
    |rows ds l=>show eB≠aP;decide
    |non l=>show cN≠aP;decide
    |emp l=>show mF≠aP;decide
   refine⟨rfl,rfl,aI (λz=>absurd (D.str.inj ((gI _ _).mp z)) nE) λ_=>?_⟩;rw[<- hd,e1];clear e1;walk_at "q0";refine⟨_,_,_,rfl,K.ob,qM,?_⟩;erw[K.dp];erw[h447,h15];refine⟨Z8 _,rfl,rfl,aI (λ_=>?_) λz=>(z (hX _)).elim⟩;w_up;refine⟨_,_,rfl,K.ob,dH,?_⟩;have h:=Q2k jb h;have ah:fZ g.r≠eB->(match g.r with|.rows dd _=>dd|_=>[])=[]->bD g.r.d (.int 0) M λx M1=>bD g.r.d (.int 0) M1 λx_1 M1=>rEqN id x_1 (.str eB) M1 λb M1=>match b with|.bl b=>(if b=true then bD g.r.d (.int 1) M1 λy M2=>sp_a1 [.ref A.wk,x,y] M2 λd M'=>∃M0,DL.Sub M0 M'/\R d M0 else 0<=sizeLine/\sp_a1 [.ref A.wk,x,.lst []] M1 λd M'=>∃M0,DL.Sub M0 M'/\R d M0)|_=>False:=λnr em=>by
    rw[hd];refine au cS (au cS ?_);refine⟨rfl,rfl,aI (λz=>absurd (D.str.inj ((gI _ _).mp z)) nr) λ_=>⟨Z8 _,?_⟩⟩;rw[em]at h;exact h
   cases eg:g.r with
   |bN m l=>exact absurd eg (ne m l)
   |away=>exact absurd eg ng
   |down c hh ds l=>have:=ah (by rw[eg];show cD≠eB;decide) (by rw[eg]);rw[eg]at this;exact this
   |rows ds l=>
    rw[eg]at h;unfold Rp.d;refine au rfl (au rfl ?_);refine⟨rfl,rfl,aI (λ_=>?_) λz=>(z (hX _)).elim⟩;exact au rfl h
   |non l=>have:=ah (by rw[eg];show cN≠eB;decide) (by rw[eg]);rw[eg]at this;exact this
   |emp l=>have:=ah (by rw[eg];show mF≠eB;decide) (by rw[eg]);rw[eg]at this;exact this
noncomputable def b_ap:CS:=by walk_at "~cr%Walk %world &0&1cr%Walk %memory &0&2cr%Walk %now &0j362&1bcr%Walk %waits &0Iaeap24a&3a&4bbcr%Walk %met &0!HDea&3a&4blwDcr%Walk %led_by &0Ibcr%Walk %door_places &0Ibcr%Walk %askings &0Ibb"
theorem WX.news{rc:W->Hr}(h:WX M0 M wp sd root now asks ks rc zs ex c l):∀(ns:List Addr) (M':DH),ns.Nodup->(∀b∈ns,M b=none)->(∀b∈ns,∃u,M' b=some u)->(∀b,b∉ns->M' b=M b)->WX M0 M' wp sd root now asks ks rc zs (ns++ex) c l
 |[],M',_,_,_,e=>by
  have:M'=M:=funext λb=>e b (by simp)
  rw[this];exact h
 |b::ns,M',nd,hn,hs,e=>by
  rw[ZW]at nd;obtain⟨u,hu⟩:=hs b (Zk ..);have hb:=hn b (Zk ..);have dl:∀a,a≠b->aA M' b a=M' a:=λa ha=>by unfold aA;rw[Zd ha]
  have db:aA M' b b=none:=by unfold aA;rw[Zg rfl]
  have:=WX.news h ns (aA M' b) nd.2 (λa ha=>hn a (Zc _ ha)) (λa ha=>by
   rw[dl a λz=>nd.1 (z ▸ ha)];exact hs a (Zc _ ha)) λa ha=>by
   by_cases q:a=b
   ·rw[q,db,hb]
   ·rw[dl a q];exact e a λz=>(Zf.mp z).elim q ha
  have e2:ae (aA M' b) b u=M':=by
   funext a
   by_cases q:a=b
   ·rw[q,aq,hu]
   ·rw[ag q,dl a q]
  have:=this.add (o:=u) db;rw[e2]at this;exact this
def sp_ap:aU:=λds M R=>∃(wk wp ma:Addr) (N:List W) (K:W) (sd:Addr) (root:W) (now asks:Int),ds=[.ref wk,.ref wp,.ref ma,dn N,.str K]/\M wk=some (.ah (.ins "Walk" []))/\wk≠wp/\M wp=some (.ah (.ins "World" (wF root now asks sd))) /\
 ∀M' wl mt lb dp al d,[wk,wl,mt,lb,dp,al].Nodup->(∀b∈[wl,mt,lb,dp,al],M b=none)->M' wk=some (.ah (.ins "Walk" (kF wp now ⟨wk,wl,mt,lb,dp,al,ma,d⟩)))->M' wl=some (.lst [wD (kA,N,K)])->gG true M' mt (eK [(kA,N,K)])->M' lb=some (.lst [])->M' dp=some (.lst [])->M' al=some (.lst [])->(∀b,b∉[wk,wl,mt,lb,dp,al]->M' b=M b)->R .non M'
theorem ok_ap(T:Tab)(h362:T.mt 362=some ⟨"World","turn",0,sp_al⟩)(h24:T.con 24=some (("ASKED":Str),D.str kA)):bp T b_ap sp_ap ["","","","",""]:=by
 rintro ds M R ⟨wk,wp,ma,N,K,sd,root,now,asks,rfl,hk,nkw,hw,h⟩;erw[b_ap];walk_at "q0";refine⟨wk,_,rfl,hk,by decide,?_⟩
 walk_at "q1";refine⟨wk,_,rfl,aq,by show (1:Nat)<1000;decide,?_⟩
 rw[e1,kI];clear e1;walk_at "q0";erw[h362];w_up;refine⟨wp,_,rfl,by rw[ag nkw.symm];exact hw,c4,wp,sd,root,now,asks,rfl,by rw[ag nkw.symm];exact hw,wk,_,rfl,aq,by show (2:Nat)<1000;decide,?_⟩
 rw[e1,kI];clear e1;have o1:∀b,b≠wk->ae M wk (.ah (.ins "Walk" (bq ("now":Str) (.int now) (bq ("memory":Str) (.ref ma) (bq ("world":Str) (.ref wp) []))))) b=M b:=λb hb=>ag hb;have ob1:ae M wk (.ah (.ins "Walk" (bq ("now":Str) (.int now) (bq ("memory":Str) (.ref ma) (bq ("world":Str) (.ref wp) []))))) wk=some (.ah (.ins "Walk" (bq ("now":Str) (.int now) (bq ("memory":Str) (.ref ma) (bq ("world":Str) (.ref wp) []))))):=aq;generalize ae M wk (.ah (.ins "Walk" (bq ("now":Str) (.int now) (bq ("memory":Str) (.ref ma) (bq ("world":Str) (.ref wp) [])))))=M1 at o1 ob1;generalize ef1:bq ("now":Str) (.int now) (bq ("memory":Str) (.ref ma) (bq ("world":Str) (.ref wp) []))=f1 at ob1;have fl1:f1.length=3:=by rw[<- ef1];rfl
 walk_at "q0";erw[h24];w_up;refine⟨by decide,by decide,λwl hwl=>?_⟩
 have k2:wk≠wl:=λz=>by rw[<- z,ob1]at hwl;cases hwl
 refine⟨wk,f1,rfl,by rw[ag k2];exact ob1,by room,?_⟩
 rw[e1];clear e1;obtain⟨M2,eM2⟩:∃M2,M2=ae (ae M1 wl (.lst [.tup [.str kA,dn N,.str K]])) wk (.ah (.ins "Walk" (bq ("waits":Str) (.ref wl) f1))):=⟨_,rfl⟩;rw[<- eM2];have o2:∀b,b≠wk->b≠wl->M2 b=M b:=λb b1 b2=>by rw[eM2,ag b1,ag b2];exact o1 b b1
 have ob2:M2 wk=some (.ah (.ins "Walk" (bq ("waits":Str) (.ref wl) f1))):=by rw[eM2];exact aq
 have w2:M2 wl=some (.lst [wD (kA,N,K)]):=by rw[eM2,ag k2.symm];exact aq
 clear eM2;have nwl:M wl=none:=(o1 _ k2.symm).symm.trans hwl;walk_at "q0";intro mt hmt;have m1:wk≠mt:=λz=>by rw[<- z,ob2]at hmt;cases hmt
 have m2:wl≠mt:=λz=>by rw[<- z,w2]at hmt;cases hmt
 refine⟨by decide,(K,N,[]),rfl,⟨0,aq⟩,λep=>⟨wk,_,rfl,by rw[ag m1,ag m1];exact ob2,by rw[<- ef1];show (4:Nat)<1000;decide,?_⟩⟩
 rw[e1,kI];clear e1;obtain⟨M3,eM3⟩:∃M3,M3=ae (ae M2 mt (.ah (.dP true ep [((K,N,[]),.bl true)]))) wk (.ah (.ins "Walk" (bq ("met":Str) (.ref mt) (bq ("waits":Str) (.ref wl) f1)))):=⟨_,rfl⟩;rw[<- eM3];have o3:∀b,b≠wk->b≠wl->b≠mt->M3 b=M b:=λb b1 b2 b3=>by rw[eM3,ag b1,ag b3];exact o2 b b1 b2
 have ob3:M3 wk=some (.ah (.ins "Walk" (bq ("met":Str) (.ref mt) (bq ("waits":Str) (.ref wl) f1)))):=by rw[eM3];exact aq
 have w3:M3 wl=some (.lst [wD (kA,N,K)]):=by rw[eM3,ag k2.symm,ag m2];exact w2
 have t3:M3 mt=some (.ah (.dP true ep (eK [(kA,N,K)]))):=by rw[eM3,ag m1.symm];exact aq
 clear eM3;have nmt:M mt=none:=(o2 _ m1.symm m2.symm).symm.trans hmt;walk_at "q0";refine⟨Z8 _,λlb hlb=>?_⟩;have l1:wk≠lb:=λz=>by rw[<- z,ob3]at hlb;cases hlb
 have l2:wl≠lb:=λz=>by rw[<- z,w3]at hlb;cases hlb
 have l3:mt≠lb:=λz=>by rw[<- z,t3]at hlb;cases hlb
 refine⟨wk,_,rfl,by rw[ag l1];exact ob3,by rw[<- ef1];show (5:Nat)<1000;decide,?_⟩
 rw[e1];clear e1;obtain⟨M4,eM4⟩:∃M4,M4=ae (ae M3 lb (.lst [])) wk (.ah (.ins "Walk" (bq ("led_by":Str) (.ref lb) (bq ("met":Str) (.ref mt) (bq ("waits":Str) (.ref wl) f1))))):=⟨_,rfl⟩;rw[<- eM4];have o4:∀b,b≠wk->b≠wl->b≠mt->b≠lb->M4 b=M b:=λb b1 b2 b3 b4=>by rw[eM4,ag b1,ag b4];exact o3 b b1 b2 b3
 have ob4:M4 wk=some (.ah (.ins "Walk" (bq ("led_by":Str) (.ref lb) (bq ("met":Str) (.ref mt) (bq ("waits":Str) (.ref wl) f1))))):=by rw[eM4];exact aq
 have w4:M4 wl=some (.lst [wD (kA,N,K)]):=by rw[eM4,ag k2.symm,ag l2];exact w3
 have t4:M4 mt=some (.ah (.dP true ep (eK [(kA,N,K)]))):=by rw[eM4,ag m1.symm,ag l3];exact t3
 have b4:M4 lb=some (.lst []):=by rw[eM4,ag l1.symm];exact aq
 clear eM4;have nlb:M lb=none:=(o3 _ l1.symm l2.symm l3.symm).symm.trans hlb;walk_at "q0";refine⟨Z8 _,λdp hdp=>?_⟩;have d1:wk≠dp:=λz=>by rw[<- z,ob4]at hdp;cases hdp
 have d2:wl≠dp:=λz=>by rw[<- z,w4]at hdp;cases hdp
 have d3:mt≠dp:=λz=>by rw[<- z,t4]at hdp;cases hdp
 have d4:lb≠dp:=λz=>by rw[<- z,b4]at hdp;cases hdp
 refine⟨wk,_,rfl,by rw[ag d1];exact ob4,by rw[<- ef1];show (6:Nat)<1000;decide,?_⟩
 rw[e1];clear e1;obtain⟨M5,eM5⟩:∃M5,M5=ae (ae M4 dp (.lst [])) wk (.ah (.ins "Walk" (bq ("door_places":Str) (.ref dp) (bq ("led_by":Str) (.ref lb) (bq ("met":Str) (.ref mt) (bq ("waits":Str) (.ref wl) f1)))))):=⟨_,rfl⟩;rw[<- eM5];have o5:∀b,b≠wk->b≠wl->b≠mt->b≠lb->b≠dp->M5 b=M b:=λb b1 b2 b3 b4 b5=>by rw[eM5,ag b1,ag b5];exact o4 b b1 b2 b3 b4
 have ob5:M5 wk=some (.ah (.ins "Walk" (bq ("door_places":Str) (.ref dp) (bq ("led_by":Str) (.ref lb) (bq ("met":Str) (.ref mt) (bq ("waits":Str) (.ref wl) f1)))))):=by rw[eM5];exact aq
 have w5:M5 wl=some (.lst [wD (kA,N,K)]):=by rw[eM5,ag k2.symm,ag d2];exact w4
 have t5:M5 mt=some (.ah (.dP true ep (eK [(kA,N,K)]))):=by rw[eM5,ag m1.symm,ag d3];exact t4
 have b5:M5 lb=some (.lst []):=by rw[eM5,ag l1.symm,ag d4];exact b4
 have p5:M5 dp=some (.lst []):=by rw[eM5,ag d1.symm];exact aq
 clear eM5;have ndp:M dp=none:=(o4 _ d1.symm d2.symm d3.symm d4.symm).symm.trans hdp;w_up;refine⟨Z8 _,λal hal=>?_⟩;have a1:wk≠al:=λz=>by rw[<- z,ob5]at hal;cases hal
 have a2:wl≠al:=λz=>by rw[<- z,w5]at hal;cases hal
 have a3:mt≠al:=λz=>by rw[<- z,t5]at hal;cases hal
 have a4:lb≠al:=λz=>by rw[<- z,b5]at hal;cases hal
 have a5:dp≠al:=λz=>by rw[<- z,p5]at hal;cases hal
 refine⟨wk,_,rfl,by rw[ag a1];exact ob5,by rw[<- ef1];show (7:Nat)<1000;decide,?_⟩
 have nal:M al=none:=(o5 _ a1.symm a2.symm a3.symm a4.symm a5.symm).symm.trans hal;refine aV (h _ wl mt lb dp al wk ?_ ?_ ?_ ?_ ⟨ep,?_⟩ ?_ ?_ ?_ λb hb=>?_)
 ·erw[ZW,Zf,Zm,not_or,Zv,not_false_eq_true,nodup_nil,and_true];exact⟨⟨k2,m1,l1,d1,a1⟩,⟨m2,l2,d2,a2⟩,⟨l3,d3,a3⟩,⟨d4,a4⟩,a5⟩
 ·intro b hb;erw[Zf,Zm,Zv]at hb;rcases hb with rfl|rfl|rfl|rfl|rfl
  ·exact nwl
  ·exact nmt
  ·exact nlb
  ·exact ndp
  ·exact nal
 ·rw[aq,<- ef1];rfl
 ·rw[ag k2.symm,ag a2];exact w5
 ·rw[ag m1.symm,ag a3];exact t5
 ·rw[ag l1.symm,ag a4];exact b5
 ·rw[ag d1.symm,ag a5];exact p5
 ·rw[ag a1.symm];exact aq
 ·erw[Zf,Zm,not_or,Zv]at hb;rw[ag hb.1,ag hb.2.2.2.2.2];exact o5 b hb.1 hb.2.1 hb.2.2.1 hb.2.2.2.1 hb.2.2.2.2.1
noncomputable def b_a8:CS:=by walk_at "~ckf%Asker %remembers &0cuj408f%Asker %memory &0aj362f%Asker %world &0bbbcBbcg3K440af%Asker %world &0af%Asker %memory &0a&1a&2bcg4j441&3bcOiG&4lscg4j441&3bbch&4b"
noncomputable def b_ab:CS:=by walk_at "~cr%Asker %world &0&1cr%Asker %remembers &0&2cr%Asker %memory &0!I400b"
noncomputable def aF(wp ma:Addr):List (Str×D):=[(("world":Str),.ref wp),(("remembers":Str),.bl true),(("memory":Str),.ref ma)]
theorem Q5h:List.lookup ("world":Str) (aF wp ma)=some (.ref wp):=du
theorem QcZ:List.lookup ("remembers":Str) (aF wp ma)=some (.bl true):=(aO (by kd_p)).trans du
theorem Q9U:List.lookup ("memory":Str) (aF wp ma)=some (.ref ma):=(aO (by kd_p)).trans ((aO (by kd_p)).trans du)
def sp_ab:aU:=λds M R=>∃(aa wp:Addr),ds=[.ref aa,.ref wp,.bl true]/\M aa=some (.ah (.ins "Asker" [])) /\
 ∀M' ma d,M ma=none->M d=none->dD M' ma d [] 0->M' aa=some (.ah (.ins "Asker" (aF wp ma)))->(∀b,b≠aa->b≠ma->b≠d->M' b=M b)->R .non M'
theorem ok_ab(T:Tab)(h400:T.cQ 400=some ⟨"Memory","__init__",0,sp_aN⟩):bp T b_ab sp_ab ["","",""]:=by
 rintro ds M R ⟨aa,wp,rfl,ha,h⟩;erw[b_ab];walk_at "q0";refine⟨aa,_,rfl,ha,by decide,?_⟩
 walk_at "q1";refine⟨aa,_,rfl,aq,by show (1:Nat)<1000;decide,?_⟩
 rw[e1,kI];clear e1;w_up;erw[h400];w_up;intro ma hma;have m1:aa≠ma:=λz=>by rw[<- z,aq]at hma;cases hma
 rw[ag m1.symm]at hma;refine⟨ma,rfl,aq,λd M1 hd me ob o=>⟨rfl,?_⟩⟩;have d1:aa≠d:=λz=>by rw[<- z,ag m1,aq]at hd;cases hd
 have d2:ma≠d:=λz=>by rw[<- z,aq]at hd;cases hd
 rw[ag d2.symm,ag d1.symm]at hd;have ea:M1 aa=_:=(o aa m1 d1).trans ((ag m1).trans aq);refine⟨aa,_,rfl,ea,by show (2:Nat)<1000;decide,?_⟩
 have mg:dD M1 ma d [] 0:=⟨me,.non,ob,.inl rfl⟩;refine aV (h _ ma d hma hd (mg.at2 (λu e=>(ag m1.symm).trans e) λu e=>(ag d1.symm).trans e) (by rw[aq];rfl) λb b1 b2 b3=>?_)
 rw[ag b1,o b b2 b3,ag b2,ag b1]
def Runs(wk:Addr)(R:DK):Nat->DH->Prop
 |0,_=>False
 |n+1,M=>sp_a2 [.ref wk] M λd M'=>(d=.non/\Runs wk R n M')\/(d≠.non/\R d M')
theorem Q7D(i:∀d M',R d M'->R' d M')(h:sp_a2 ds M R):sp_a2 ds M R':=by
 obtain⟨A,wp,now,s,w,h1,h2,h3,h⟩:=h;refine⟨A,wp,now,s,w,h1,h2,h3,?_⟩;rcases h with ⟨e,h⟩|⟨g,e,ng,h⟩
 ·exact .inl ⟨e,Q3W i h⟩
 ·refine .inr ⟨g,e,ng,?_⟩;rcases h with ⟨m,l,er,h⟩|⟨ne,h⟩
  ·exact .inl ⟨m,l,er,Q3V i h⟩
  ·exact .inr ⟨ne,Q2k i h⟩
theorem lW(h:sp_a2 [.ref wk] M R):∃wp now A,M wk=some (.ah (.ins "Walk" (kF wp now A))):=by
 obtain⟨A,wp,now,s,w,h1,K,_⟩:=h;cases h1;exact⟨wp,now,A,K.ob⟩
noncomputable def dZ(es:List (ND×D))(n:Int)(N:List W)(K:W):WS:=⟨es,n,[(kA,N,K)],[],[],[]⟩
def sp_a8:aU:=λds M R=>∃(M0:DH) (aa wp ma d sd:Addr) (root:W) (now asks:Int) (ks:List W) (rc:W->Hr) (zs:List Zn) (ex:List Addr) (c l:Nat) (es:List (ND×D)) (n:Int) (N:List W) (K:W),
 ds=[.ref aa,dn N,.str K]/\M aa=some (.ah (.ins "Asker" (aF wp ma)))/\WX M0 M wp sd root now asks ks rc zs ex c l/\dD M ma d es n/\cm es/\now=2/\aa∈ex/\ma∈ex/\d∈ex/\ma≠aa/\d≠aa/\N.length<=900 /\
 ∀M' A ex',A.ma=ma->A.d=d->KX M' A wp now (dZ es n N K)->WX M0 M' wp sd root now asks ks rc zs ex' c l->(∀b∈A.all,b∈ex')->(∀b∈ex,b∈ex')->aa∉A.all->(∀b∈A.all,b≠ma->b≠d->M b=none)->(∀b u,b≠ma->b≠d->M b=some u->M' b=some u)->∃f,Runs A.wk R f M'
theorem ok_a8(T:Tab)(h408:T.mt 408=some ⟨"Memory","forget",1,sp_aT⟩)(h362:T.mt 362=some ⟨"World","turn",0,sp_al⟩)(h440:T.cQ 440=some ⟨"Walk","__init__",4,sp_ap⟩)(h441:T.mt 441=some ⟨"Walk","go_on",0,sp_a2⟩):bp T b_a8 sp_a8 ["","","","",""]:=by
 rintro ds M R ⟨M0,aa,wp,ma,d,sd,root,now,asks,ks,rc,zs,ex,c,l,es,n,N,K,rfl,ha,X,mg,gp,tw,i1,i2,i3,j1,j2,hN,h⟩;erw[b_a8];walk_at "q0";erw[h408,h362];w_up;obtain⟨so,mo,_⟩:=mg.so;refine⟨_,_,_,rfl,ha,QcZ,bj ⟨_,_,_,rfl,ha,Q9U,ma,_,rfl,mo,bh (by kd_p) (by kd_p) (by kd_p),_,_,_,rfl,ha,Q5h,wp,_,rfl,X.ob,c4,wp,sd,root,now,asks,rfl,X.ob,ma,d,es,n,now,rfl,mg,tw,?_⟩⟩
 rw[e1];clear e1;obtain⟨ep1,tb1⟩:=mg.me.tb;walk_at "q0";erw[h440];w_up;refine⟨_,_,_,rfl,ha,Q5h,_,_,_,rfl,ha,Q9U,λwk hwk=>?_⟩;have kw:wk≠wp:=(aZ X.ob hwk).symm;refine⟨wk,wp,ma,N,K,sd,root,now,asks,rfl,aq,kw,by rw[ag kw.symm];exact X.ob,λM2 wl mt lb dp al _ nd fr q1 q2 q3 q4 q5 q6 o2=>⟨rfl,?_⟩⟩
 rw[e1];clear e1;have fr1:∀b∈[wk,wl,mt,lb,dp,al],M b=none:=λb hb=>by
  rcases Zf.mp hb with e|hb'
  ·rw[e];exact hwk
  ·have:=fr b hb';rw[ag]at this
   ·exact this
   ·rintro rfl;exact (ZW.mp nd).1 hb'
 have o3:∀b,b∉[wk,wl,mt,lb,dp,al]->M2 b=M b:=λb hb=>(o2 b hb).trans (ag λz=>hb (by rw[z];exact Zk ..))
 have no:∀b u,M b=some u->b∉[wk,wl,mt,lb,dp,al]:=λb u e hb=>by rw[fr1 b hb]at e;cases e
 obtain⟨ep3,q3⟩:=q3;have X2:=X.news [wk,wl,mt,lb,dp,al] M2 nd fr1 (λb hb=>by
  erw[Zf,Zm,Zv]at hb;rcases hb with rfl|rfl|rfl|rfl|rfl|rfl
  ·exact⟨_,q1⟩
  ·exact⟨_,q2⟩
  ·exact⟨_,q3⟩
  ·exact⟨_,q4⟩
  ·exact⟨_,q5⟩
  ·exact⟨_,q6⟩) o3
 have K2:KX M2 ⟨wk,wl,mt,lb,dp,al,ma,d⟩ wp now (dZ es n N K):={
  ob:=q1
  wl:=q2
  mt:=⟨ep3,q3⟩
  lb:=q4
  dp:=q5
  al:=q6
  me:=mg.at2 (λu e=>(o3 _ (no _ _ e)).trans e) λu e=>(o3 _ (no _ _ e)).trans e
  gp:=gp
  tw:=tw
  nd:=by
   have n1:=no _ _ mo;have n2:=no _ _ tb1;have:=mg.me.ad;show ([wk,wl,mt,lb,dp,al]++[ma,d]).Nodup;rw[nodup_append];refine⟨nd,by simp[this],λx hx y hy z=>?_⟩
   subst z;erw[Zf,Zm,Zv]at hy;rcases hy with rfl|rfl
   ·exact n1 hx
   ·exact n2 hx
  kd:=by simp[dZ]
  le:=rfl
  z1:=by simp[dZ]
  z3:=by simp[dZ]
  nl:=λw hw=>by erw[dZ,Zh]at hw;rw[hw];exact hN}
 obtain⟨f,hf⟩:=h M2 ⟨wk,wl,mt,lb,dp,al,ma,d⟩ _ rfl rfl K2 X2 (λb hb=>by
  have hb:b∈[wk,wl,mt,lb,dp,al]++[ma,d]:=hb;rcases Z1.mp hb with hb|hb
  ·exact Z5 _ hb
  ·refine Zl _ ?_;erw[Zf,Zm,Zv]at hb;rcases hb with rfl|rfl
   ·exact i2
   ·exact i3) (λb hb=>Zl _ hb) (λhb=>by
  have hb:aa∈[wk,wl,mt,lb,dp,al]++[ma,d]:=hb;rcases Z1.mp hb with hb|hb
  ·exact no _ _ ha hb
  ·erw[Zf,Zm,Zv]at hb;rcases hb with e|e
   ·exact j1 e.symm
   ·exact j2 e.symm) (λb hb b1 b2=>by
  have hb:b∈[wk,wl,mt,lb,dp,al]++[ma,d]:=hb;rcases Z1.mp hb with hb|hb
  ·exact fr1 b hb
  ·erw[Zf,Zm,Zv]at hb;exact absurd hb (λz=>z.elim b1 b2)) λb u _ _ e=>(o3 _ (no _ _ e)).trans e
 cases f with
 |zero=>exact hf.elim
 |succ f=>
 walk_at "q0";erw[h441];w_up;obtain⟨wp',now',A',ob'⟩:=lW hf;refine⟨wk,_,rfl,ob',dH,Q7D (λv M3 hv=>?_) hf⟩;rw[e1];clear e1;refine Q0c λk1 e1=>?_;show jR _ _ _ _ _;refine Q3R (λj ρ M'=>∃v,ρ=[some (.ref aa),some (dn N),some (.str K),some (.ref wk),some v]/\((v=.non/\Runs wk R j M')\/(v≠.non/\R v M'))) ⟨f,v,rfl,hv⟩ ?_;rintro j ρ M4 ⟨v4,rfl,h4⟩ TB eTB;w_up;rcases h4 with ⟨rfl,h4⟩|⟨nv,h4⟩
 ·refine bj ?_;cases j with
  |zero=>exact h4.elim
  |succ j=>
   refine⟨λρ' M'=>∃v,ρ'=[some (.ref aa),some (dn N),some (.str K),some (.ref wk),some v]/\((v=.non/\Runs wk R j M')\/(v≠.non/\R v M')),λρ' M' z=>⟨j,lt_succ_self j,z⟩,?_⟩;rw[eTB];clear eTB;w_up;erw[h441];w_up;obtain⟨wp',now',A',ob'⟩:=lW h4;exact⟨wk,_,rfl,ob',dH,Q7D (λv M3 hv=>⟨v,rfl,hv⟩) h4⟩
 ·refine aI (λz=>?_) λ_=>?_
  ·cases v4<;>first|exact absurd rfl nv|cases z
  ·rw[e1];w_up;exact aV h4
theorem Q2Y{f:Nat->Bool}(h:f n=true):(((List.range (n+1)).filter f).getLast?)=some n:=by
 rw[List.range_succ,filter_append,filter_cons,Zg h];simp
open Classical in
theorem Q5R(h:Std top rows n):fm top rows n=n.length:=by
 unfold fm;rw[Q2Y (by rw[Yh];exact Z7 h)]
 rfl
theorem Q2l(h:Std top rows n):eX top rows n=n:=by unfold eX;rw[Q5R h,Zg rfl]
theorem i7(a:W):oj [a]=[a]:=(Q5c (List.Perm.refl _) (by simp)).symm
theorem qG(a:Int):fF [a]=a:=(Q4o (by simp) (by simp)).symm
noncomputable def aj:W:=[109,97,114,107]
theorem nG(h:∀m,n.take m.length=m->top.length<m.length->fM rows m=none):bR top rows n=none:=by
 unfold bR;rw[find?_eq_none];intro m hm;obtain⟨j,hj,rfl⟩:=ZY.mp hm;rw[List.range_eq_range',List.drop_range',List.mem_range'_1]at hj;rw[h]
 ·decide
 ·rw[ZD,min_eq_left (by room)]
 ·rw[ZD];room
theorem Q9x(h:n=[a])(e:n.take m.length=m)(hl:0<m.length):m=[a]:=by
 subst h;cases m with
 |nil=>exact absurd hl (by simp)
 |cons b m=>
  erw[Zs,List.take_succ_cons,List.take_nil]at e;exact e.symm
theorem Q7E(h:∀x∈rows,x.k≠df)(m:List W):fM rows m=none:=by
 unfold fM;rw[Option.map_eq_none_iff,List.getLast?_eq_none_iff,List.filter_eq_nil_iff];intro x hx;erw[Zo,not_and];exact λe=>absurd e (h x hx)
theorem cG:¬ eR aj:=by unfold eR;decide
theorem qF:¬ eR ay:=by unfold eR;decide
structure bT(Ms M0 M:DH)(A:AA)(wp sd:Addr)(root:W)(now asks:Int)(ks:List W)(rc:W->Hr)(zs:List Zn)(ex:List Addr)(c l:Nat)(s:WS):Prop where
 K:KX M A wp now s
 X:WX M0 M wp sd root now asks ks rc zs ex c l
 he:∀b∈A.all,b∈ex
 fr:∀b u,b∉A.all->b≠wp->(∀w∈ks,b∉(rc w).ad)->Ms b=some u->M b=some u
section
variable{Ms M0 M:DH}{A:AA}{wp sd:Addr}{root:W}{now asks:Int}{ks:List W}{rc:W->Hr}{zs:List Zn}{ex:List Addr}{c l:Nat}{s:WS}{R:DK}{f:Nat}{w:Wt}
structure jM(zs:List Zn)(door:W)(top:List W)(now:Int)(w:Wt)(rep:Rp)(outs:List Bs):Prop where
 rp:cq (ofD zs door) (some top) w.2.1 w.2.2=rep.d
 g:cY ⟨now,door,top,w.2.1,w.2.2,rep⟩
 ch:∀out,eW (ofD zs door) w.2.2 [w.2.1] rep.d out->out=outs.map Bs.d
 ok:∀x∈outs,cY ⟨now,door,x.top,x.n,x.k,x.r⟩
theorem bT.ask(h:bT Ms M0 M A wp sd root now asks ks rc zs ex c l s)(hz:c9 zs)(hc:c<=10000000)(hw:s.waits.getLast?=some w)(hk:¬ eR w.2.2)(ht:w.2.1.take top.length=top)(hr:rests.length<=100)(ha:s.asks.length<90)(T:jM zs door top now w rep outs)(hs:s.es.length+outs.length<899)
  (k:∀M',bT Ms M0 M' A wp sd root now (asks+1) ks rc zs ex (c+1000) l (gF s now door top rests w rep outs)->Q .non M'):sp_a0 [.ref A.wk,.str door,dn top,.lst (rests.map bu)] M Q:=
 ⟨M0,A,wp,sd,root,now,asks,ks,rc,zs,ex,c,l,s,w,door,top,rests,rep,outs,rfl,h.K,h.X,h.he,hz,hc,hw,hk,ht,hr,ha,T.rp,T.g,T.ch,T.ok,hs,λM' K X fr=>k M' ⟨K,X,h.he,λb u b1 b2 b3 e=>fr b u b1 b2 b3 (h.fr b u b1 b2 b3 e)⟩⟩
theorem WX.own8(X:WX M0 M wp sd root now asks ks rc zs ex c l):∀(bs:List Addr),(∀b∈bs,b∈ex)->(∀b,b∉bs->M' b=M b)->(∀b∈bs,∃u,M' b=some u)->WX M0 M' wp sd root now asks ks rc zs ex c l:=by
 intro bs
 induction bs generalizing M with
 |nil=>intro _ e _;rw[funext λb=>e b (by simp)];exact X
 |cons b bs ih=>
  intro hb e hs;obtain⟨u,hu⟩:=hs b (Zk ..);refine ih (M:=ae M b u) (X.write (hb b (Zk ..))) (λa ha=>hb a (Zc _ ha)) (λa ha=>?_) λa ha=>hs a (Zc _ ha);by_cases q:a=b
  ·rw[q,aq,hu]
  ·rw[ag q];exact e a λz=>(Zf.mp z).elim q ha
theorem KX.all(K:KX M A wp now s):∀b∈A.all,∃u,M b=some u:=λb hb=>by
 erw[AA.all,Zf,Zm,Zv]at hb;obtain⟨so,ob,_⟩:=K.me.so;obtain⟨ep,tb⟩:=K.me.me.tb;obtain⟨ep',mt⟩:=K.mt;rcases hb with rfl|rfl|rfl|rfl|rfl|rfl|rfl|rfl
 ·exact⟨_,K.ob⟩
 ·exact⟨_,K.wl⟩
 ·exact⟨_,mt⟩
 ·exact⟨_,K.lb⟩
 ·exact⟨_,K.dp⟩
 ·exact⟨_,K.al⟩
 ·exact⟨_,ob⟩
 ·exact⟨_,tb⟩
theorem bT.own(h:bT Ms M0 M A wp sd root now asks ks rc zs ex c l s)(K:KX M' A wp now s')(o:∀b,b∉A.all->M' b=M b):bT Ms M0 M' A wp sd root now asks ks rc zs ex c l s':=
 ⟨K,h.X.own8 A.all h.he o K.all,h.he,λb u b1 b2 b3 e=>by rw[o b b1];exact h.fr b u b1 b2 b3 e⟩
theorem oP(h:bT Ms M0 M A wp sd root now asks ks rc zs ex c l s)(hz:c9 zs)(hc:c<=10000000)(hw:s.waits.getLast?=some w)(hk:¬ eR w.2.2)(ek:fu s.es w.2.1 w.2.2 now=none)(eh:gu s.es w.2.1 now=none)(ha:s.asks.length<90)(T:jM zs root [] now w rep outs)(hs:s.es.length+outs.length<899)
  (k:∀M',bT Ms M0 M' A wp sd root now (asks+1) ks rc zs ex (c+1000) l (gF s now root [] [] w rep outs)->Runs A.wk R f M'):Runs A.wk R (f+1) M:=
 ⟨A,wp,now,s,w,rfl,h.K,hw,.inl ⟨ek,A,wp,now,s,w.2.1,rfl,h.K,h.K.nl w (mem_of_getLast? hw),.inl ⟨eh,sd,root,asks,h.X.ob,h.ask (rests:=[]) hz hc hw hk rfl (by simp) ha T hs λM' q=>.inl ⟨rfl,k M' q⟩⟩⟩⟩
theorem rS(h:bT Ms M0 M A wp sd root now asks ks rc zs ex c l s)(hw:s.waits.getLast?=some w)(ek:fu s.es w.2.1 w.2.2 now=some g.ds)(er:g.r=.bN m ll)(hl:m.length<=900)(h1:s.waits.length<90)(hm:∀v∈s.waits,¬ (v.2.1=m/\v.2.2=w.2.2))
  (k:∀M',bT Ms M0 M' A wp sd root now asks ks rc zs ex c l (j3 s aP m w.2.2 g)->Runs A.wk R f M'):Runs A.wk R (f+1) M:=
 ⟨A,wp,now,s,w,rfl,h.K,hw,.inr ⟨g,ek,(by rw[er];exact λz=>(nomatch z)),.inl ⟨m,ll,er,A,wp,now,s,aP,m,w.2.2,g,rfl,h.K,(by decide),(by rw[er];exact λz=>(nomatch z)),hl,h1,hm,λM' K o=>.inl ⟨rfl,k M' (h.own K o)⟩⟩⟩⟩
end
structure En where
 g:Gr
 ks:List ND
 l:Int
 n:Int
noncomputable def En.e(r:En):ND×D:=(r.g.key,fc r.g.ds r.ks r.l r.n)
noncomputable abbrev ax(rs:List En):List (ND×D):=rs.map En.e
noncomputable def atK(rs:List En)(k:ND):Option En:=rs.find? λr=>decide (r.g.key=k)
theorem rJ(rs:List En)(k:ND):valN (ax rs) k=(atK rs k).map λr=>fc r.g.ds r.ks r.l r.n:=by
 unfold valN atK ax;rw[List.find?_map,Option.map_map];rfl
theorem Q2Z(rs:List En)(k:ND)(t:Int):bY (ax rs) k t=(atK rs k).bind λr=>if r.l<t then none else some r.l:=by
 unfold bY;rw[rJ];cases atK rs k<;>rfl
theorem kH(rs:List En)(k:ND)(t:Int):bz (ax rs) k t=((atK rs k).bind λr=>if r.l<t then none else some r.g).map Gr.ds:=by
 unfold bz;rw[Q2Z,rJ];cases atK rs k with
 |none=>rfl
 |some r=>
  show (match (if r.l<t then none else some r.l) with|some _=>_|none=>none)=Option.map Gr.ds (if r.l<t then none else some r.g)
  by_cases h:r.l<t
  ·rw[Zg h,Zg h];rfl
  ·rw[Zd h,Zd h];rfl
theorem QbD(rs:List En)(r:En)(h:atK rs r.g.key=none):putN (ax rs) r.g.key (fc r.g.ds r.ks r.l r.n)=ax (rs++[r]):=by
 unfold putN;rw[nR,rJ,h];unfold ax;rw[ZA];rfl
noncomputable def keepR(rs:List En)(n:Int)(g:Gr)(ks:List ND):List En:=rs++[⟨g,ks,cP (g.t+mC g.r) (ks.filterMap λk=>bY (ax rs) k g.t),n+1⟩]
theorem QbE(h1:∀k∈ks,∃l,bY (ax rs) k g.t=some l)(h2:atK rs g.key=none):gh (ax rs,n) g ks=(ax (keepR rs n g ks),n+1):=by
 unfold gh;rw[Zg]
 ·show (putN (ax rs) _ _,_)=_;rw[QbD rs ⟨g,ks,_,n+1⟩ h2];rfl
 ·unfold mB;rw[Zj];refine⟨?_,?_⟩
  ·rw[ZO];intro k hk;obtain⟨l,e⟩:=h1 k hk;rw[e];rfl
  ·rw[Q2Z,h2];rfl
theorem Q4t{rs:List En}{N:List W}{K:W}{t:Int}{r:En}(h:atK rs (kA,N,[K])=some r)(hl:t<=r.l):fu (ax rs) N K t=some r.g.ds:=by
 unfold fu;have e:bz (ax rs) (kA,N,[K]) t=some r.g.ds:=by
  rw[kH,h];show Option.map Gr.ds (if r.l<t then none else some r.g)=_
  rw[Zd (by room)];rfl
 rw[findSome?_cons,e]
theorem oN{rs:List En}{N:List W}{K:W}{t:Int}{r:En}(h0:atK rs (kA,N,[K])=none)(h:atK rs (kN,N,[])=some r)(hl:t<=r.l):fu (ax rs) N K t=some r.g.ds:=by
 unfold fu;have e:bz (ax rs) (kN,N,[]) t=some r.g.ds:=by
  rw[kH,h];show Option.map Gr.ds (if r.l<t then none else some r.g)=_
  rw[Zd (by room)];rfl
 have e0:bz (ax rs) (kA,N,[K]) t=none:=by rw[kH,h0];rfl
 rw[findSome?_cons,e0,findSome?_cons,e]
theorem Q7F{rs:List En}{N:List W}{K:W}{t:Int}(h0:atK rs (kA,N,[K])=none)(h1:atK rs (kN,N,[])=none)(h2:∀j,j<N.length->atK rs (kN,N.take j,[])=none):fu (ax rs) N K t=none:=by
 unfold fu;have e0:bz (ax rs) (kA,N,[K]) t=none:=by rw[kH,h0];rfl
 have e1:bz (ax rs) (kN,N,[]) t=none:=by rw[kH,h1];rfl
 rw[findSome?_cons,e0,findSome?_cons,e1,List.findSome?_nil];show List.findSome? _ _=none;rw[List.findSome?_eq_none_iff];intro k hk;have hk:=(Yq.mp hk).1;unfold jP at hk;rw[mem_reverse,ZY]at hk;obtain⟨j,hj,rfl⟩:=hk;rw[kH,h2 j (mem_range.mp hj)];rfl
theorem Q5i(h:∀j,j<=N.length->atK rs (kC,N.take j,[])=none):gu (ax rs) N t=none:=by
 unfold gu;rw[List.findSome?_eq_none_iff];intro k hk;unfold la at hk;rw[mem_reverse,ZY]at hk;obtain⟨j,hj,rfl⟩:=hk;rw[kH,h j (by have:=mem_range.mp hj;room)]
 rfl
theorem Qd0(h0:atK rs (kC,[c,m],[])=none)(h:atK rs (kC,[c],[])=some r)(hl:t<=r.l):gu (ax rs) [c,m] t=some r.g.ds:=by
 show List.findSome? _ [((kC,[c,m],[]):ND),(kC,[c],[]),(kC,[],[])]=_;have e0:bz (ax rs) (kC,[c,m],[]) t=none:=by rw[kH,h0];rfl
 have e:bz (ax rs) (kC,[c],[]) t=some r.g.ds:=by
  rw[kH,h];show Option.map Gr.ds (if r.l<t then none else some r.g)=_
  rw[Zd (by room)];rfl
 rw[findSome?_cons,e0,findSome?_cons,e]
theorem iq(g:Gr)(h0:g.r≠.away)(h1:g.n.length<=20)(h2:∀m l,g.r=.bN m l->m.length<=20)(h3:∀c h ds l,g.r=.down c h ds l->h.length<=20/\c.length<=20)(h4:0<=mC g.r):cY g:=⟨⟨h0,h1,h2,h3⟩,h4⟩
theorem lV(h:∀r∈rs,cY r.g):cm (ax rs):=λk v e=>by
 rw[rJ,Z4]at e;obtain⟨r,hr,rfl⟩:=e;have hm:=List.mem_of_find?_eq_some (show _=some r from hr);have hk:decide (r.g.key=k)=true:=find?_some (p:=λr:En=>decide (r.g.key=k)) hr;have hk:=of_decide_eq_true hk;exact⟨r.g,r.ks,r.l,r.n,rfl,(h r hm).1.1,hk.symm,(h r hm).1.2⟩
theorem eJ:kA≠kN:=by decide
theorem dX:kN≠kC:=by decide
theorem gj:kA≠kC:=by decide
theorem rh(h:r.g.key≠k):atK (r::rs) k=atK rs k:=by unfold atK;rw[ZU,Zt h]
theorem ri(h:r.g.key=k):atK (r::rs) k=some r:=by unfold atK;rw[ZU,Z7 h]
theorem c8(k:ND):atK [] k=none:=rfl
theorem Q5S(h:atK rs k=some r)(hl:t<=r.l):bY (ax rs) k t=some r.l:=by
 rw[Q2Z,h];show (if r.l<t then none else some r.l)=_
 rw[Zd (by room)]
theorem Qd1(h:atK rs k=none)(e:r.g.key=k):atK (rs++[r]) k=some r:=by
 unfold atK at h ⊢;rw[List.find?_append,h,ZU,Z7 e];rfl
theorem WX.less{rc:W->Hr}(h:WX M0 M wp sd root now asks ks rc zs ex c l)(hb:b∈ex)(hs:∀a∈ex',a∈ex/\a≠b):WX M0 (aA M b) wp sd root now asks ks rc zs ex' c l:=by
 obtain⟨b0,b1,b2,b3⟩:=h.nx b hb;have ne:∀w∈ks,∀a∈(rc w).ad,b≠a:=λw hw a ha e=>b3 w hw (e ▸ ha);have dl:∀a,a≠b->aA M b a=M a:=λa ha=>by unfold aA;rw[Zd ha]
 exact {h with
  ob:=by rw[dl _ b1.symm];exact h.ob
  st:=by rw[dl _ b2.symm];exact h.st
  sub:=λa u e=>by rw[dl _ (aZ e b0)];exact h.sub a u e
  hx:=λw hw=>(h.hx w hw).del (Z5 _ hb) b0 (ne w hw _ (aN.mpr (.inl rfl))) (ne w hw _ (aN.mpr (.inr (.inl rfl)))) (ne w hw _ (aN.mpr (.inr (.inr (.inl rfl))))) (ne w hw _ (aN.mpr (.inr (.inr (.inr rfl))))) (λa ha=>by
   rcases Z1.mp ha with ha|ha
   ·exact⟨Z5 _ (hs a ha).1,(hs a ha).2⟩
   ·refine⟨Zl _ ha,?_⟩;rcases Zf.mp ha with rfl|ha
    ·exact b1.symm
    rcases Zf.mp ha with rfl|ha
    ·exact b2.symm
    obtain⟨w',hw',ha⟩:=mem_flatMap.mp ha;exact λz=>b3 w' hw' (z ▸ ha)) (bX hw (aN.mpr (.inr (.inr (.inl rfl))))) (bX hw (aN.mpr (.inr (.inr (.inr rfl)))))
  zl:=λw hw=>by
   obtain⟨kz,e,q⟩:=h.zl w hw;exact⟨kz,by rw[dl _ (ne w hw _ (aN.mpr (.inr (.inl rfl)))).symm];exact e,q⟩
  ee:=λa ha=>by rw[dl a (hs a ha).2];exact h.ee a (hs a ha).1
  nx:=λa ha=>h.nx a (hs a ha).1}
structure Sx(M0 M:DH)(wp sd:Addr)(root:W)(now asks:Int)(ks:List W)(rc:W->Hr)(zs:List Zn)(ex:List Addr)(c l:Nat)(aa ma d:Addr)(es:List (ND×D))(n:Int):Prop where
 X:WX M0 M wp sd root now asks ks rc zs ex c l
 oa:M aa=some (.ah (.ins "Asker" (aF wp ma)))
 mg:dD M ma d es n
 i1:aa∈ex
 i2:ma∈ex
 i3:d∈ex
 j1:ma≠aa
 j2:d≠aa
theorem fX:List.lookup ("ask":Str) (aF wp ma)=none:=(aO (by kd_p)).trans ((aO (by kd_p)).trans ((aO (by kd_p)).trans rfl))
section
variable{M0 M:DH}{wp sd:Addr}{root:W}{now asks:Int}{ks:List W}{rc:W->Hr}{zs:List Zn}{ex:List Addr}{c l:Nat}{aa ma d:Addr}{es:List (ND×D)}{n:Int}{R:DK}
theorem Q1H(X:WX M0 M wp sd root now asks ks rc zs ex c l){Q:DH->Prop}(hx:M x=none)(k:∀M' ma d,Sx M0 M' wp sd root now asks ks rc zs ([x,ma,d]++ex) c l x ma d [] 0->(∀b u,M b=some u->M' b=some u)->(∀b∈[x,ma,d],M b=none)->Q M'):sp_ab [.ref x,.ref wp,.bl true] (ae M x (.ah (.ins "Asker" []))) λv M2=>v=.non/\Q M2:=by
 refine⟨x,wp,rfl,aq,λM' ma d h1 h2 mg oa o=>⟨rfl,?_⟩⟩;have m1:ma≠x:=λz=>by rw[z,aq]at h1;cases h1
 have m2:d≠x:=λz=>by rw[z,aq]at h2;cases h2
 rw[ag m1]at h1;rw[ag m2]at h2;have o':∀b,b∉[x,ma,d]->M' b=M b:=λb hb=>by
  erw[Zf,Zm,Zv,not_or]at hb;rw[o b hb.1 hb.2.1 hb.2.2,ag hb.1]
 have fr:∀b∈[x,ma,d],M b=none:=λb hb=>by
  erw[Zf,Zm,Zv]at hb;rcases hb with rfl|rfl|rfl
  ·exact hx
  ·exact h1
  ·exact h2
 obtain⟨so,ob,_⟩:=mg.so;obtain⟨ep,tb⟩:=mg.me.tb;refine k M' ma d ⟨X.news [x,ma,d] M' ?_ fr (λb hb=>?_) o',oa,mg,by simp,by simp,by simp,m1,m2⟩ (λb u e=>?_) fr
 ·have:=mg.me.ad;simp[m1.symm,m2.symm,this]
 ·erw[Zf,Zm,Zv]at hb;rcases hb with rfl|rfl|rfl
  ·exact⟨_,oa⟩
  ·exact⟨_,ob⟩
  ·exact⟨_,tb⟩
 ·rw[o' b λhb=>by rw[fr b hb]at e;cases e]
  exact e
theorem Sx.ask(s:Sx M0 M wp sd root now asks ks rc zs ex c l aa ma d es n){N:List W}{K:W}(gp:cm es)(tw:now=2)(hN:N.length<=900)
  (h:∀M' A ex',bT M' M0 M' A wp sd root now asks ks rc zs ex' c l (dZ es n N K)->(∀M2 asks' c' s',bT M' M0 M2 A wp sd root now asks' ks rc zs ex' c' l s'->Sx M0 (aA (aA M2 A.wl) A.al) wp sd root now asks' ks rc zs ex c' l aa ma d s'.es s'.n/\∀b∈ex,b≠ma->b≠d->∀u,M b=some u->aA (aA M2 A.wl) A.al b=some u)->∃f,Runs A.wk R f M'):sp_a8 [.ref aa,dn N,.str K] M R:=by
 refine⟨M0,aa,wp,ma,d,sd,root,now,asks,ks,rc,zs,ex,c,l,es,n,N,K,rfl,s.oa,s.X,s.mg,gp,tw,s.i1,s.i2,s.i3,s.j1,s.j2,hN,λM' A ex' e1 e2 K1 X1 he hex na fr keep=>h M' A ex' ⟨K1,X1,he,λb u _ _ _ e=>e⟩ λM2 asks' c' s' w=>?_⟩;subst e1 e2;have nd:=K1.nd;have out:∀b∈ex,b≠A.ma->b≠A.d->b∉A.all:=λb hb b1 b2 z=>by
  obtain⟨u,e⟩:=s.X.ee b hb;rw[fr b z b1 b2]at e;cases e
 have nwl:∀b∈ex,b≠A.wl/\b≠A.al:=λb hb=>by
  have nd:[A.wk,A.wl,A.mt,A.lb,A.dp,A.al,A.ma,A.d].Nodup:=nd;by_cases q1:b=A.ma
  ·rw[q1];erw[ZW,Zf,Zm,Zv,not_or]at nd;exact⟨λz=>nd.2.1.2.2.2.2.1 z.symm,λz=>nd.2.2.2.2.2.1.1 z.symm⟩
  by_cases q2:b=A.d
  ·rw[q2];erw[ZW,Zf,Zm,Zv,not_or]at nd;exact⟨λz=>nd.2.1.2.2.2.2.2 z.symm,λz=>nd.2.2.2.2.2.1.2 z.symm⟩
  exact⟨λz=>out b hb q1 q2 (z ▸ by simp[AA.all]),λz=>out b hb q1 q2 (z ▸ by simp[AA.all])⟩
 have dl:∀b∈ex,aA (aA M2 A.wl) A.al b=M2 b:=λb hb=>by
  unfold aA;rw[Zd (nwl b hb).2,Zd (nwl b hb).1]
 have st:∀b∈ex,b≠A.ma->b≠A.d->∀u,M b=some u->aA (aA M2 A.wl) A.al b=some u:=λb hb b1 b2 u e=>by
  rw[dl b hb];obtain⟨_,q1,_,q2⟩:=X1.nx b (hex b hb);exact w.fr b u (out b hb b1 b2) q1 q2 (keep b u b1 b2 e)
 refine⟨⟨?_,st _ s.i1 s.j1.symm s.j2.symm _ s.oa,w.K.me.at2 (λu e=>by rw[dl _ s.i2];exact e) (λu e=>by rw[dl _ s.i3];exact e),s.i1,s.i2,s.i3,s.j1,s.j2⟩,st⟩
 have nw:A.al≠A.wl:=by
  have nd:[A.wk,A.wl,A.mt,A.lb,A.dp,A.al,A.ma,A.d].Nodup:=nd;erw[ZW,Zf,Zm,Zv,not_or]at nd;exact λz=>nd.2.1.2.2.2.1 z.symm
 exact (w.X.less (b:=A.wl) (ex':=A.al::ex) (he _ (by simp[AA.all])) λa ha=>by
  rcases Zf.mp ha with rfl|ha
  ·exact⟨he _ (by simp[AA.all]),nw⟩
  ·exact⟨hex a ha,(nwl a ha).1⟩).less (b:=A.al) (Zk ..) λa ha=>⟨Zc _ ha,(nwl a ha).2⟩
end
theorem WX.made(hp:M p=none)(hs:ae M p o sd=none):WX M (ae (ae (ae M p o) sd (.ah (.d8 []))) p (.ah (.ins "World" (wF root 0 0 sd)))) p sd root 0 0 [] (λ_=>⟨p,p,p,p⟩) [] [] 0 0:=
 have ne:sd≠p:=λz=>by rw[z,aq]at hs;cases hs
 have hs':M sd=none:=by rw[ag ne]at hs;exact hs
 {ob:=aq
  st:=by rw[ag ne];exact aq
  f1:=hp
  f2:=hs'
  sub:=λb u e=>by rw[ag (aZ e hp),ag (aZ e hs'),ag (aZ e hp)];exact e
  hx:=λw hw=>nomatch hw
  fr:=λw hw=>nomatch hw
  ap:=λw hw=>nomatch hw
  no:=λw _=>rfl
  zl:=λw hw=>nomatch hw
  ee:=λb hb=>nomatch hb
  nx:=λb hb=>nomatch hb}
noncomputable def b_au:CS:=by walk_at "~cg1'abcdefghijklmnopqrstuvwxyz- cg2l!J[ cM3!eqv#1qT&0#12cg4qTq!mq!mqvqTq!K&0#12#99991#7qv&3#3#48271#65537cg2qv&2d&1qT&4#27bch&2b"
noncomputable def lets:W:=[97,98,99,100,101,102,103,104,105,106,107,108,109,110,111,112,113,114,115,116,117,118,119,120,121,122,45]
def Wl(w:W):Prop:=w.length<=12/\∀c∈w,c≠42/\c≠49
theorem QbF:∀c∈lets,c≠42/\c≠49:=by decide
def sp_au:aU:=λds M R=>∃(a:Int),ds=[.int a]/\∀w,Wl w->R (.str w) M
theorem ok_au:bp T b_au sp_au ["","","","",""]:=by
 rintro ds M R ⟨a,rfl,h⟩;erw[b_au];walk_at "q0";walk_at "q1";walk_at "q1";refine⟨by decide,by room,by room,?_⟩
 refine Q9h (λi ρ M'=>∃(w:W) (v3 v4:Option D),M'=M/\w.length=i/\(∀c∈w,c≠42/\c≠49)/\ρ=[some (.int a),some (.str lets),some (.str w),v3,v4]) ⟨[],_,_,rfl,rfl,(λ_ z=>nomatch z),rfl⟩ (λ_ _ _ _=>trivial) ?_ ?_
 ·clear e1;rintro i ρ M' k hi ⟨w,v3,v4,rfl,hw,hc,rfl⟩ hk;refine Q3H λk2 e2=>?_;w_up;have i12:i<12:=by room
  have m1:((a / 12 % 99991+7) * (0+(i:Int)+3))<=1000000000000 /\ -1000000000000<=((a / 12 % 99991+7) * (0+(i:Int)+3)):=by
   have u1:0<=a / 12 % 99991:=by room
   have u2:a / 12 % 99991<99991:=by room
   generalize a / 12 % 99991=y at u1 u2;have e1:(y+7) * (0+(i:Int)+3)<=(y+7) * 20:=Int.mul_le_mul_of_nonneg_left (by room) (by room)
   have e2:0<=(y+7) * (0+(i:Int)+3):=Int.mul_nonneg (by room) (by room)
   room
  refine⟨⟨by decide,by decide⟩,by decide,lR (by room) (by room),lR m1.2 m1.1,by decide,?_⟩
  generalize (a / 12 % 99991+7) * (0+(i:Int)+3) * 48271 % 65537=z;rw[e2];clear e2;w_up;refine⟨by decide,gD (by room) (by show _<(27:Int);room) (by decide) λx hx=>?_⟩
  w_up;refine⟨az (by room),hk _ _ ⟨w++[x],_,_,rfl,by rw[Zp,hw];rfl,λc hc2=>?_,rfl⟩⟩
  rcases Z1.mp hc2 with hc2|hc2
  ·exact hc c hc2
  ·rw[Zh.mp hc2];exact QbF x (ZI hx)
 ·rintro ρ M' ⟨w,v3,v4,rfl,hw,hc,rfl⟩;rw[e1];clear e1;w_up;exact aV (h w ⟨by room,hc⟩)
noncomputable def gR:W:=[104,101,114,101]
noncomputable def cW:W:=[114,101,100]
theorem Q4u(hc:bR z.t z.r n=none)(st:Std z.t z.r n)(ea:bG z.r n=[⟨n,l,aP,dn m⟩]):cF z n k=.bN m l:=by
 unfold cF;rw[hc];erw[Q2l st];rw[ea,Zd (λz=>by cases z.2)]
 show Rp.bN (cv (dn m)) l=_;rw[kK]
theorem Q5j(hc:bR z.t z.r n=none)(st:Std z.t z.r n)(ea:bG z.r n=[⟨n,l,aj,.str v⟩]):cF z n aj=.rows [v] l:=by
 unfold cF;rw[hc];erw[Q2l st];rw[ea,Zd (λz=>by cases z.2)]
 show Rp.rows (oj [v]) (fF [l])=_;rw[i7,qG]
structure Q76 where
 c:W
 m:W
 x:W
 l:Int
structure Q76.Ok(q:Q76):Prop where
 cx:q.c≠q.x
 cy:q.c≠[121]
 cz:q.c≠[122]
 xy:q.x≠[121]
 xz:q.x≠[122]
 c0:q.c≠[42]
 m0:q.m≠[42]
 m1:q.m≠[49]
 l0:0<=q.l
section
variable{q:Q76}
noncomputable def Q76.mk'(q:Q76):List W:=[q.c,q.m]
noncomputable abbrev Q76.hs(q:Q76):List W:=[q.c,[48]]
noncomputable abbrev Q76.be(q:Q76):List W:=[q.c,[49]]
noncomputable abbrev Q76.am(q:Q76):List W:=[q.c,[50]]
noncomputable abbrev nY:List W:=[[121]]
noncomputable abbrev nZ:List W:=[[122]]
noncomputable def Q76.rw(q:Q76):List Rw:=[⟨[q.c],q.l,df,dn q.hs⟩,⟨q.hs,q.l,ay,.str ay⟩,⟨[q.x],q.l,aP,dn q.mk'⟩]
noncomputable def Q76.mo(q:Q76):List Rw:=[⟨nY,q.l,aP,dn q.am⟩,⟨nZ,q.l,aj,.str cW⟩]
noncomputable def Q76.zX(q:Q76)(e:List Rw):Zn:=⟨ay,[],q.l,q.rw++e⟩
noncomputable def Q76.zC(q:Q76):Zn:=⟨ay,[q.c],q.l,[⟨q.mk',q.l,aj,.str gR⟩]⟩
noncomputable def Q76.zD(q:Q76):Zn:=⟨ay,[q.c],q.l,[⟨q.am,q.l,aP,dn nZ⟩]⟩
structure mv(e:List Rw):Prop where
 k:∀x∈e,x.k≠df
 n:∀x∈e,x.n.length=1
theorem ex0:mv []:=⟨(λ_ h=>nomatch h),λ_ h=>nomatch h⟩
theorem qR:mv q.mo:=by
 refine⟨λx hx=>?_,λx hx=>?_⟩<;>simp only[Q76.mo,Zf,Zm,Zv]at hx<;>rcases hx with rfl|rfl
 ·show aP≠df;decide
 ·show aj≠df;decide
 ·rfl
 ·rfl
theorem lZ(h:mv e)(m:List W):(q.zX e).r.filter (λx=>decide (x.k=df/\x.n=m))=if [q.c]=m then [⟨[q.c],q.l,df,dn q.hs⟩] else []:=by
 have he:e.filter (λx=>decide (x.k=df/\x.n=m))=[]:=List.filter_eq_nil_iff.mpr λx hx=>by erw[Zo,not_and];exact λz=>absurd z (h.k x hx)
 show (q.rw++e).filter _=_;rw[filter_append,he,append_nil];have d1:decide (ay=df/\q.hs=m)=false:=Zt λz=>absurd z.1 (by decide)
 have d2:decide (aP=df/\[q.x]=m)=false:=Zt λz=>absurd z.1 (by decide)
 unfold Q76.rw;erw[filter_cons,d1,d2,filter_nil];by_cases hm:[q.c]=m
 ·simp[hm]
 ·simp[hm]
theorem Qd2(h:mv e)(hm:[q.c]≠m):fM (q.zX e).r m=none:=by
 unfold fM;rw[lZ h,Zd hm];rfl
theorem lD(h:mv e):ie (q.zX e).r [q.c]=some ⟨[q.c],q.l,df,dn q.hs⟩:=by
 unfold ie;rw[lZ h,Zg rfl];rfl
theorem Qd3(h:mv e)(w k:W):cF (q.zX e) [q.c,w] k=.down [q.c] q.hs [ay] q.l:=by
 have ec:bR (q.zX e).t (q.zX e).r [q.c,w]=some [q.c]:=by
  show List.find? _ [[q.c],[q.c,w]]=_;rw[ZU,rW,lD h];rfl
 unfold cF;erw[ec,lD h];have ha:bG (q.zX e).r q.hs=[⟨q.hs,q.l,ay,.str ay⟩]:=by
  have he:e.filter (λx=>decide (x.n=q.hs))=[]:=List.filter_eq_nil_iff.mpr λx hx=>by
   have:=h.n x hx;erw[Zo];intro z;rw[z]at this;cases this
  show (q.rw++e).filter _=_;rw[filter_append,he,append_nil];unfold Q76.rw;simp
 have ed:jS (q.zX e).r [q.c] (cv (dn q.hs))=[⟨q.hs,q.l,ay,.str ay⟩]:=by
  unfold jS;rw[kK,Zg (show q.hs.take [q.c].length=[q.c] from rfl),ha];rfl
 rw[ed,kK];show Rp.down [q.c] q.hs (oj [ay]) (fF [q.l,q.l])=_;rw[i7,<- Q4o (ns:=[q.l,q.l]) (z:=q.l) (by simp) (by simp)]
theorem jt(h:mv e)(ha:q.c≠a):bR (q.zX e).t (q.zX e).r [a]=none:=nG λm em hl=>Qd2 h (by rw[Q9x rfl em hl];intro z;injection z with z;exact ha z)
theorem pX(o:q.Ok):cF (q.zX []) [q.x] aj=.bN q.mk' q.l:=by
 refine Q4u (jt ex0 o.cx) (.inr ⟨Nat.zero_lt_one,⟨[q.x],q.l,aP,dn q.mk'⟩,by simp[Q76.zX,Q76.rw],rfl⟩) ?_
 unfold bG Q76.zX Q76.rw;simp[o.cx]
theorem pW(o:q.Ok):cF (q.zX q.mo) nY aj=.bN q.am q.l:=by
 refine Q4u (jt qR o.cy) (.inr ⟨Nat.zero_lt_one,⟨nY,q.l,aP,dn q.am⟩,by simp[Q76.zX,Q76.mo],rfl⟩) ?_
 unfold bG Q76.zX Q76.rw Q76.mo;simp[o.cy,o.xy]
theorem pV(o:q.Ok):cF (q.zX q.mo) nZ aj=.rows [cW] q.l:=by
 refine Q5j (jt qR o.cz) (.inr ⟨Nat.zero_lt_one,⟨nZ,q.l,aj,.str cW⟩,by simp[Q76.zX,Q76.mo],rfl⟩) ?_
 unfold bG Q76.zX Q76.rw Q76.mo;simp[o.cz,o.xz]
theorem l7(n:List W):bR q.zC.t q.zC.r n=none:=nG λm _ _=>Q7E (λx hx=>by erw[Q76.zC,Zh]at hx;rw[hx];show aj≠df;decide) m
theorem lF:cF q.zC q.mk' aj=.rows [gR] q.l:=
 Q5j (l7 _) (.inr ⟨by show 1<2;decide,_,Zh.mpr rfl,rfl⟩) (by unfold bG Q76.zC;simp)
theorem lH:cF q.zD q.am aj=.bN nZ q.l:=
 Q4u (nG λm _ _=>Q7E (λx hx=>by erw[Q76.zD,Zh]at hx;rw[hx];show aP≠df;decide) m) (.inr ⟨by show 1<2;decide,_,Zh.mpr rfl,rfl⟩) (by unfold bG Q76.zD;simp)
open Classical in
theorem pY(o:q.Ok):cF q.zC q.be aj=.non q.l:=by
 have s1:Std q.zC.t q.zC.r [q.c]:=.inl rfl;have s0:¬ Std q.zC.t q.zC.r []:=λz=>by
  rcases z with z|z
  ·cases z
  ·exact absurd z.1 (Nat.not_lt_zero _)
 have s2:¬ Std q.zC.t q.zC.r q.be:=λz=>by
  rcases z with z|⟨_,x,hx,z⟩
  ·cases z
  ·erw[Q76.zC,Zh]at hx;subst hx;injection z with _ z;injection z with z _;exact o.m1 z
 have en:fm q.zC.t q.zC.r q.be=1:=by
  unfold fm;have er:List.range (q.be.length+1)=[0,1,2]:=rfl;rw[er];have f0:decide (Std q.zC.t q.zC.r (q.be.take 0))=false:=Zt s0;have f1:decide (Std q.zC.t q.zC.r (q.be.take 1))=true:=Z7 s1;have f2:decide (Std q.zC.t q.zC.r (q.be.take 2))=false:=Zt s2;erw[filter_cons,f0,f1,f2,filter_nil];rfl
 have ep:eX q.zC.t q.zC.r q.be=[q.c,[42]]:=by
  unfold eX;rw[en];rfl
 unfold cF;rw[l7];erw[ep];have ea:bG q.zC.r [q.c,[42]]=[]:=by
  unfold bG Q76.zC Q76.mk';simp[o.m0]
 rw[Zg ⟨rfl,ea⟩];rfl
end
section
variable{zs:List Zn}{k:W}{sp:List (List W)}{out:List D}
theorem QbG{r:Rp}{m':List W}{l':Int}(ne:∀m l,r≠.bN m l):r.d≠.tup [.str aP,dn m',.int l']:=λe=>by
 cases r with
 |bN m l=>exact ne m l rfl
 |_=>unfold Rp.d at e;injection e with e;injection e with e1 e2;first|exact absurd (D.str.inj e1) (by decide)|cases e2
theorem eP{r:Rp}(ne:∀m l,r≠.bN m l)(h:eW zs k sp r.d out):out=[]:=Q3Q h λ_ _=>QbG ne
theorem gE(hm:m∉sp)(hu:up zs m (m.length+1)=some z)(er:cF z m k=r)(hz:bx z)(hr:∀out',eW zs k (m::sp) r.d out'->out'=outs.map Bs.d)(h:eW zs k sp (Rp.bN m l).d out):out=((⟨z.t,m,k,r⟩:Bs)::outs).map Bs.d:=by
 have rd:eU z.t z.l z.r m k=r.d:=by rw[<- Q9R hz,er]
 generalize ed:(Rp.bN m l).d=d at h;have key:∀m' l',d=.tup [.str aP,dn m',.int l']->m'=m:=λm' l' e=>by
  rw[<- ed]at e;unfold Rp.d at e;injection e with e;injection e with _ e;injection e with e _;exact (oI e).symm
 cases h with
 |stop z=>exact absurd (z m l ed.symm) hm
 |off z1 z2=>
  have:=key _ _ rfl;subst this;rw[hu]at z2;cases z2
 |step z1 z2 z3=>
  have:=key _ _ rfl;subst this;rw[hu]at z2;injection z2 with z2;subst z2;rw[rd]at z3;rw[rd,hr _ z3];rfl
end
section
variable{q:Q76}
noncomputable def Q76.z1(q:Q76):List Zn:=[q.zX [],q.zC]
noncomputable def Q76.z2(q:Q76):List Zn:=[q.zX q.mo,q.zD]
theorem putC:dW [q.zX []] q.zC=q.z1:=rfl
theorem qc:dW [q.zX q.mo] q.zD=q.z2:=rfl
theorem fE(hy:y.o=ay):ofD [q.zX e,y] ay=[q.zX e,y]:=by
 unfold ofD;simp[hy,Q76.zX]
theorem kB:atT [q.zX e,y] []=some (q.zX e):=by unfold atT;simp[Q76.zX]
theorem ky(hy:y.t=[q.c]):atT [q.zX e,y] [q.c]=some y:=by unfold atT;simp[Q76.zX,hy]
theorem lh(hy:y.t=[q.c])(w:W):up [q.zX e,y] [q.c,w] ([q.c,w].length+1)=some y:=by
 have h2:atT [q.zX e,y] ([q.c,w].take 2)=none:=by unfold atT;simp[Q76.zX,hy]
 show up [q.zX e,y] [q.c,w] 3=_;unfold up;rw[h2];show up [q.zX e,y] [q.c,w] 2=_;unfold up;rw[show atT [q.zX e,y] ([q.c,w].take 1)=some y from ky hy]
theorem Qd4(hy:y.t=[q.c])(ha:q.c≠a):up [q.zX e,y] [a] ([a].length+1)=some (q.zX e):=by
 have h2:atT [q.zX e,y] ([a].take 1)=none:=by unfold atT;simp[Q76.zX,hy,ha]
 show up [q.zX e,y] [a] 2=_;unfold up;rw[h2];show up [q.zX e,y] [a] 1=_;unfold up;rw[show atT [q.zX e,y] ([a].take 0)=some (q.zX e) from kB]
theorem okX(he:∀x∈e,de [] x/\jV x.v<=20)(hl:e.length<=2):bx (q.zX e) where
 r x hx:=by
  rcases Z1.mp (show x∈q.rw++e from hx) with hx|hx
  ·erw[Q76.rw,Zf,Zm,Zv]at hx;rcases hx with rfl|rfl|rfl
   ·exact⟨⟨by simp,by simp[Q76.zX]⟩,.inl ⟨.inl rfl,_,rfl⟩⟩
   ·exact⟨⟨by simp,by simp[Q76.zX]⟩,.inr ⟨qF,_,rfl⟩⟩
   ·exact⟨⟨by simp,by simp[Q76.zX]⟩,.inl ⟨.inr rfl,_,rfl⟩⟩
  ·exact (he x hx).1
 t:=by simp[Q76.zX]
 l:=by show (q.rw++e).length<60;rw[Zp];simp[Q76.rw];room
 v x hx:=by
  rcases Z1.mp (show x∈q.rw++e from hx) with hx|hx
  ·erw[Q76.rw,Zf,Zm,Zv]at hx;rcases hx with rfl|rfl|rfl
   ·show 2<=20;decide
   ·exact Z8 _
   ·show 2<=20;decide
  ·exact (he x hx).2
 s w hw:=nomatch hw
theorem j9:bx (q.zX []):=okX (λ_ h=>nomatch h) (Z8 _)
theorem j8:bx (q.zX q.mo):=okX (λx hx=>by
 erw[Q76.mo,Zf,Zm,Zv]at hx;rcases hx with rfl|rfl
 ·exact⟨⟨⟨by simp,by simp⟩,.inl ⟨.inr rfl,_,rfl⟩⟩,by show 2<=20;decide⟩
 ·exact⟨⟨⟨by simp,by simp⟩,.inr ⟨cG,_,rfl⟩⟩,Z8 _⟩) (by simp[Q76.mo])
theorem lL(hc:c≠[42])(hx:de [c] x)(hv:jV x.v<=20):bx ⟨ay,[c],l,[x]⟩ where
 r y hy:=by rw[Zh.mp hy];exact hx
 t:=by simp
 l:=by simp
 v y hy:=by rw[Zh.mp hy];exact hv
 s w hw:=by rw[Zh.mp hw];exact hc
theorem ka(o:q.Ok):bx q.zC:=lL o.c0 ⟨⟨by simp[Q76.mk'],by simp[Q76.mk']⟩,.inr ⟨cG,_,rfl⟩⟩ (Z8 _)
theorem mZ(o:q.Ok):bx q.zD:=lL o.c0 ⟨⟨by simp,by simp⟩,.inl ⟨.inr rfl,_,rfl⟩⟩ (by show 1<=20;decide)
theorem Q9V(hy:y.t=[q.c])(h1:bx (q.zX e))(h2:bx y):c9 [q.zX e,y] where
 ok z hz:=by
  erw[Zf,Zm,Zv]at hz;rcases hz with rfl|rfl
  ·exact h1
  ·exact h2
 l w:=ZF (ZS ..) (by show 2<=_;decide)
 nd w:=by
  unfold ofD;refine List.Nodup.sublist (List.Sublist.map _ filter_sublist) ?_;simp[Q76.zX,hy]
theorem oH(o:q.Ok):c9 q.z1:=Q9V rfl j9 (ka o)
theorem Q7G(o:q.Ok):c9 q.z2:=Q9V rfl j8 (mZ o)
theorem fg(hz:bx z)(ha:atT zs top=some z)(er:cF z n k=r):cq zs (some top) n k=r.d:=by
 rw[<- er,Q9R hz];exact rT ha
variable{t:Int}{a:W}
theorem pB(o:q.Ok):jM q.z1 ay [] t (a,[q.x],aj) (.bN q.mk' q.l) [⟨[q.c],q.mk',aj,.rows [gR] q.l⟩] where
 rp:=by rw[show ofD q.z1 ay=_ from fE rfl];exact fg j9 kB (pX o)
 g:=iq _ (λz=>nomatch z) (by simp) (λm l e=>by cases e;simp[Q76.mk']) (λc h ds l e=>by cases e) o.l0
 ch out h:=by
  rw[show ofD q.z1 ay=_ from fE rfl]at h;exact gE (by simp[Q76.mk']) (lh rfl _) lF (ka o) (λout' h'=>eP (λm l z=>by cases z) h') h
 ok x hx:=by rw[Zh]at hx;subst hx;exact iq _ (λz=>nomatch z) (by simp[Q76.mk']) (λm l e=>by cases e) (λc h ds l e=>by cases e) o.l0
theorem mK{e:List Rw}{y:Zn}(o:q.Ok)(he:mv e)(hz:bx (q.zX e))(hy:y.o=ay)(w:W):jM [q.zX e,y] ay [] t (a,[q.c,w],aj) (.down [q.c] q.hs [ay] q.l) [] where
 rp:=by rw[fE hy];exact fg hz kB (Qd3 he w _)
 g:=iq _ (λz=>nomatch z) (by simp) (λm l e=>by cases e) (λc h ds l e=>by cases e;simp) o.l0
 ch out h:=eP (r:=(.down [q.c] q.hs [ay] q.l)) (λm l z=>by cases z) h
 ok x hx:=nomatch hx
theorem tC_m(o:q.Ok):jM q.z1 ay [q.c] t (a,q.mk',aj) (.rows [gR] q.l) [] where
 rp:=by rw[show ofD q.z1 ay=_ from fE rfl];exact fg (ka o) (ky rfl) lF
 g:=iq _ (λz=>nomatch z) (by simp[Q76.mk']) (λm l e=>by cases e) (λc h ds l e=>by cases e) o.l0
 ch out h:=eP (r:=(.rows [gR] q.l)) (λm l z=>by cases z) h
 ok x hx:=nomatch hx
theorem tC_b(o:q.Ok):jM q.z1 ay [q.c] t (a,q.be,aj) (.non q.l) [] where
 rp:=by rw[show ofD q.z1 ay=_ from fE rfl];exact fg (ka o) (ky rfl) (pY o)
 g:=iq _ (λz=>nomatch z) (by simp) (λm l e=>by cases e) (λc h ds l e=>by cases e) o.l0
 ch out h:=eP (r:=(.non q.l)) (λm l z=>by cases z) h
 ok x hx:=nomatch hx
theorem qZ(o:q.Ok){sp:List (List W)}(hs:nZ∉sp){out:List D}(h:eW [q.zX q.mo,q.zD] aj sp (Rp.bN nZ q.l).d out):out=[(⟨[],nZ,aj,.rows [cW] q.l⟩:Bs)].map Bs.d:=
 gE hs (Qd4 rfl o.cz) (pV o) j8 (λout' h'=>eP (λm l z=>by cases z) h') h
theorem jq(o:q.Ok):cY ⟨t,ay,[],nZ,aj,.rows [cW] q.l⟩:=iq _ (λz=>nomatch z) (by simp) (λm l e=>by cases e) (λc h ds l e=>by cases e) o.l0
theorem jr(o:q.Ok):cY ⟨t,ay,top,q.am,aj,.bN nZ q.l⟩:=iq _ (λz=>nomatch z) (by simp) (λm l e=>by cases e;simp) (λc h ds l e=>by cases e) o.l0
theorem tX_y(o:q.Ok):jM q.z2 ay [] t (a,nY,aj) (.bN q.am q.l) [⟨[q.c],q.am,aj,.bN nZ q.l⟩,⟨[],nZ,aj,.rows [cW] q.l⟩] where
 rp:=by rw[show ofD q.z2 ay=_ from fE rfl];exact fg j8 kB (pW o)
 g:=iq _ (λz=>nomatch z) (by simp) (λm l e=>by cases e;simp) (λc h ds l e=>by cases e) o.l0
 ch out h:=by
  rw[show ofD q.z2 ay=_ from fE rfl]at h;exact gE (by simp) (lh rfl _) lH (mZ o) (λout' h'=>qZ o (by simp) h') h
 ok x hx:=by
  erw[Zf,Zm,Zv]at hx;rcases hx with rfl|rfl
  ·exact jr o
  ·exact jq o
theorem tD_a(o:q.Ok):jM q.z2 ay [q.c] t (a,q.am,aj) (.bN nZ q.l) [⟨[],nZ,aj,.rows [cW] q.l⟩] where
 rp:=by rw[show ofD q.z2 ay=_ from fE rfl];exact fg (mZ o) (ky rfl) lH
 g:=jr o
 ch out h:=by
  rw[show ofD q.z2 ay=_ from fE rfl]at h;exact qZ o (by simp) h
 ok x hx:=by rw[Zh]at hx;subst hx;exact jq o
end
section
variable{Ms M0 M:DH}{A:AA}{wp sd:Addr}{root:W}{now asks:Int}{ks:List W}{rc:W->Hr}{zs:List Zn}{ex:List Addr}{c l:Nat}{s:WS}{R:DK}{f:Nat}{w:Wt}
theorem Q1o(h:bT Ms M0 M A wp sd root now asks ks rc zs ex c l s)(hz:c9 zs)(hc:c<=10000000)(hw:s.waits.getLast?=some w)(hk:¬ eR w.2.2)(ek:fu s.es w.2.1 w.2.2 now=none){g:Gr}{cc hh os:List W}{o:W}{ll:Int}(eh:gu s.es w.2.1 now=some g.ds)(er:g.r=.down cc hh (o::os) ll)(ht:w.2.1.take cc.length=cc)(ha:s.asks.length<90){rep:Rp}{outs:List Bs}(T:jM zs o cc now w rep outs)(hs:s.es.length+outs.length<899)
  (k:∀M',bT Ms M0 M' A wp sd root now (asks+1) ks rc zs ex (c+1000) l (gF s now o cc [g.key] w rep outs)->Runs A.wk R f M'):Runs A.wk R (f+1) M:=
 ⟨A,wp,now,s,w,rfl,h.K,hw,.inl ⟨ek,A,wp,now,s,w.2.1,rfl,h.K,h.K.nl w (mem_of_getLast? hw),.inr ⟨g,cc,hh,os,o,ll,eh,er,h.ask (rests:=[g.key]) hz hc hw hk ht (by simp) ha T hs λM' q=>.inl ⟨rfl,k M' q⟩⟩⟩⟩
theorem Q1M(h:bT Ms M0 M A wp sd root now asks ks rc zs ex c l s)(hw:s.waits.getLast?=some w){g:Gr}(ek:fu s.es w.2.1 w.2.2 now=some g.ds)(ne:∀m l,g.r≠.bN m l)(na:g.r≠.away){U:List ND}{G:ND->List D}{RK:ND->List ND}{NO:ND->Int}(un:nL s.es U G RK NO)(hu:∀k∈s.led++[g.key],k∈U)
  (k:∀qs:List ND,mx RK (s.led++[g.key]) qs->qs.Pairwise (λx y=>NO x<=NO y)->R (.tup [.str (fZ g.r),.lst ((match g.r with|.rows dd _=>dd|_=>[]).map .str),.lst (s.waits.map wD),.lst (qs.map λk=>.tup (G k)),.lst (s.asks.map aD)]) (aA (aA M A.wl) A.al)):Runs A.wk R (f+1) M:=
 ⟨A,wp,now,s,w,rfl,h.K,hw,.inr ⟨g,ek,na,.inr ⟨ne,A,wp,now,s,fZ g.r,_,w,g,U,G,RK,NO,rfl,h.K,hw,ek,na,un,hu,λqs c1 _ c3=>.inr ⟨(λz=>(nomatch z)),k qs c1 c3⟩⟩⟩⟩
end
noncomputable def uG(rs:List En)(k:ND):List D:=((atK rs k).map λr=>r.g.ds).getD []
noncomputable def uR(rs:List En)(k:ND):List ND:=((atK rs k).map λr=>r.ks).getD []
noncomputable def uN(rs:List En)(k:ND):Int:=((atK rs k).map λr=>r.n).getD 0
theorem Q5k(hl:rs.length<64)(hg:∀r∈rs,cY r.g)(hk:∀r∈rs,∀k∈r.ks,k∈rs.map λr=>r.g.key)(h4:∀r∈rs,r.ks.length<=4):nL (ax rs) (rs.map λr=>r.g.key) (uG rs) (uR rs) (uN rs):=by
 have hat:∀k∈rs.map (λr=>r.g.key),∃r∈rs,atK rs k=some r:=λk hk=>by
  obtain⟨r,hr,e⟩:=ZY.mp hk;cases ea:atK rs k with
  |none=>exact absurd (find?_eq_none.mp ea r hr) (by simp[e])
  |some r'=>exact⟨r',List.mem_of_find?_eq_some (show _=some r' from ea),rfl⟩
 unfold uG uR uN;refine⟨by rw[Ze];exact hl,λk h=>?_,λk h r hr=>?_,λk h=>?_,λk h=>?_⟩
 ·obtain⟨r,_,e⟩:=hat k h;exact⟨r.l,by rw[rJ,e];rfl⟩
 ·obtain⟨r',hr',e⟩:=hat k h;erw[e,ZV,Option.getD_some]at hr;exact hk r' hr' r hr
 ·obtain⟨r',hr',e⟩:=hat k h;erw[e,ZV,Option.getD_some];exact h4 r' hr'
 ·obtain⟨r',hr',e⟩:=hat k h;obtain⟨rs',_,gr⟩:=r'.g.oA (hg r' hr').1.1;erw[e,ZV,Option.getD_some];exact⟨_,_,_,_,_,_,_,gr⟩
theorem Q7H{NO:ND->Int}:∀{xs ys:List ND},xs.Pairwise (λx y=>NO x<NO y)->ys.Nodup->ys.Pairwise (λx y=>NO x<=NO y)->(∀k,k∈xs <-> k∈ys)->ys=xs
 |[],[],_,_,_,_=>rfl
 |[],y::ys,_,_,_,h=>absurd ((h y).mpr (Zk ..)) (by simp)
 |x::xs,[],_,_,_,h=>absurd ((h x).mp (Zk ..)) (by simp)
 |x::xs,y::ys,h1,h2,h3,h=>by
  rw[pairwise_cons]at h1 h3;rw[ZW]at h2;have e:y=x:=by
   rcases Zf.mp ((h y).mpr (Zk ..)) with e|e
   ·exact e
   ·rcases Zf.mp ((h x).mp (Zk ..)) with e'|e'
    ·exact e'.symm
    ·have:=h1.1 y e;have:=h3.1 x e';room
  subst e;have nx:y∉xs:=λz=>by have:=h1.1 y z;room
  rw[Q7H h1.2 h2.2 h3.2 λk=>⟨λhk=>?_,λhk=>?_⟩]
  ·rcases Zf.mp ((h k).mp (Zc _ hk)) with e|e
   ·exact absurd (e ▸ hk) nx
   ·exact e
  ·rcases Zf.mp ((h k).mpr (Zc _ hk)) with e|e
   ·exact absurd (e ▸ hk) h2.1
   ·exact e
theorem Qd5{NO:ND->Int}{RK:ND->List ND}(c:mx RK ks qs)(p:qs.Pairwise (λx y=>NO x<=NO y))(ht:ts.Pairwise (λx y=>NO x<NO y))(h1:∀k∈ks,k∈ts)(h2:∀k∈ts,∀r∈RK k,r∈ts)(h3:∀k∈ts,k∈ks\/∃k'∈ks,k∈RK k'):qs=ts:=
 Q7H ht c.nd p λk=>⟨λhk=>(h3 k hk).elim (c.st k) λ⟨k',a,b⟩=>c.cl k' (c.st k' a) k b,c.mn (· ∈ ts) h1 (λk hk r hr=>h2 k hk r hr) k⟩
theorem bH:atK (r::rs) k=if r.g.key=k then some r else atK rs k:=by
 by_cases h:r.g.key=k
 ·rw[Zg h,ri h]
 ·rw[Zd h,rh h]
theorem Q5l:∀{xs:List Int},(∀x∈xs,x=a)->cP a xs=a
 |[],_=>rfl
 |x::xs,h=>by
  show cP (min a x) xs=a;rw[h x (Zk ..),Int.min_self];exact Q5l λy hy=>h y (Zc _ hy)
theorem nM(l0:0<=l)(hl:mC g.r=l)(h1:∀k∈ks,∃r,atK rs k=some r/\r.l=g.t+l)(h2:atK rs g.key=none):gh (ax rs,n) g ks=(ax (rs++[⟨g,ks,g.t+l,n+1⟩]),n+1):=by
 have hu:∀k∈ks,bY (ax rs) k g.t=some (g.t+l):=λk hk=>by
  obtain⟨r,e,el⟩:=h1 k hk;rw[Q5S e (by room),el]
 rw[QbE (λk hk=>⟨_,hu k hk⟩) h2];unfold keepR;rw[hl,Q5l λx hx=>by
  obtain⟨k,hk,e⟩:=mem_filterMap.mp hx;rw[hu k hk]at e;injection e with e;exact e.symm]
theorem Q3a(h:b.top≠top):gw t door top ks m b=m:=by
 unfold gw;rw[Zd λz=>h z.1]
section
variable{q:Q76}
noncomputable abbrev Q76.kc(q:Q76):ND:=(kC,[q.c],[])
noncomputable def Q76.E(q:Q76)(t n:Int):En:=⟨⟨t,ay,[],[q.x],aj,.bN q.mk' q.l⟩,[],t+q.l,n⟩
noncomputable def Q76.C(q:Q76)(t:Int)(w:W)(n:Int):En:=⟨⟨t,ay,[],[q.c,w],aj,.down [q.c] q.hs [ay] q.l⟩,[],t+q.l,n⟩
noncomputable def Q76.R(q:Q76)(t n:Int):En:=⟨⟨t,ay,[q.c],q.mk',aj,.rows [gR] q.l⟩,[q.kc],t+q.l,n⟩
noncomputable def Q76.N(q:Q76)(t n:Int):En:=⟨⟨t,ay,[q.c],q.be,aj,.non q.l⟩,[q.kc],t+q.l,n⟩
noncomputable def Q76.Y(q:Q76)(t n:Int):En:=⟨⟨t,ay,[],nY,aj,.bN q.am q.l⟩,[],t+q.l,n⟩
noncomputable def Q76.Z(q:Q76)(t n:Int):En:=⟨⟨t,ay,[],nZ,aj,.rows [cW] q.l⟩,[],t+q.l,n⟩
noncomputable def Q76.A(q:Q76)(t n:Int):En:=⟨⟨t,ay,[q.c],q.am,aj,.bN nZ q.l⟩,[q.kc],t+q.l,n⟩
variable{t n:Int}{w:W}
theorem yE:(q.E t n).g.key=(kN,[q.x],[]):=rfl
theorem yC:(q.C t w n).g.key=(kC,[q.c],[]):=rfl
theorem yR:(q.R t n).g.key=(kA,[q.c,q.m],[aj]):=rfl
theorem yN:(q.N t n).g.key=(kN,[q.c,[49]],[]):=rfl
theorem yY:(q.Y t n).g.key=(kN,[[121]],[]):=rfl
theorem yZ:(q.Z t n).g.key=(kA,[[122]],[aj]):=rfl
theorem yA:(q.A t n).g.key=(kN,[q.c,[50]],[]):=rfl
theorem fR(h:∀k:ND,k∈[((kA,[q.c,m],[aj]):ND),(kN,[q.c,m],[]),(kN,[q.c],[]),(kN,[],[])]->atK rs k=none):fu (ax rs) [q.c,m] aj t=none:=by
 erw[Zf,Zm,Zv]at h;exact Q7F (h _ (.inl rfl)) (h _ (.inr (.inl rfl))) λj hj=>match j,hj with
  |0,_=>h _ (.inr (.inr (.inr rfl)))
  |1,_=>h _ (.inr (.inr (.inl rfl)))
theorem qK(h:∀k:ND,k∈[((kA,[a],[aj]):ND),(kN,[a],[]),(kN,[],[])]->atK rs k=none):fu (ax rs) [a] aj t=none:=by
 erw[Zf,Zm,Zv]at h;exact Q7F (h _ (.inl rfl)) (h _ (.inr (.inl rfl))) λj hj=>match j,hj with
  |0,_=>h _ (.inr (.inr rfl))
end
section
variable{q:Q76}{t n:Int}{a w:W}{rs:List En}
theorem QbH{s:WS}{now:Int}{door:W}{top:List W}{rests:List ND}{w:Wt}{rep:Rp}{outs:List Bs}{es':List (ND×D)}{n':Int}(e:dr (s.es,s.n) now door top rests w rep outs=(es',n')):gF s now door top rests w rep outs=⟨es',n',s.waits,s.led,s.dps,s.asks++[(door,top,w.2.1,w.2.2)]⟩:=by
 unfold gF;rw[e]
theorem bT.asked{Ms M0 M:DH}{A:AA}{wp sd:Addr}{root:W}{now asks:Int}{ks:List W}{rc:W->Hr}{zs:List Zn}{ex:List Addr}{c l:Nat}{s:WS}{t:Int}{door:W}{top:List W}{rests:List ND}{w:Wt}{rep:Rp}{outs:List Bs}{es':List (ND×D)}{n':Int}(h:bT Ms M0 M A wp sd root now asks ks rc zs ex c l (gF s t door top rests w rep outs))(e:dr (s.es,s.n) t door top rests w rep outs=(es',n')):bT Ms M0 M A wp sd root now asks ks rc zs ex c l ⟨es',n',s.waits,s.led,s.dps,s.asks++[(door,top,w.2.1,w.2.2)]⟩:=by
 rw[QbH e]at h;exact h
theorem ro(o:q.Ok)(h:atK rs (kN,[q.x],[])=none):dr (ax rs,n) t ay [] [] (a,[q.x],aj) (.bN q.mk' q.l) [⟨[q.c],q.mk',aj,.rows [gR] q.l⟩]=(ax (rs++[q.E t (n+1)]),n+1):=by
 unfold dr;rw[foldl_cons,foldl_nil];rw[Q3a (by simp)]
 exact nM (g:=(q.E t n).g) o.l0 rfl (λk hk=>nomatch hk) h
theorem nK(o:q.Ok)(h:atK rs q.kc=none):dr (ax rs,n) t ay [] [] (a,[q.c,w],aj) (.down [q.c] q.hs [ay] q.l) []=(ax (rs++[q.C t w (n+1)]),n+1):=
 nM (g:=(q.C t w n).g) o.l0 rfl (λk hk=>nomatch hk) h
theorem jc(h1:atK rs q.kc=some r)(h2:r.l=t+l):∀k∈[q.kc],∃r,atK rs k=some r/\r.l=t+l:=λk hk=>by
 rw[Zh.mp hk];exact⟨r,h1,h2⟩
theorem aC_m(o:q.Ok)(h1:atK rs q.kc=some r)(h2:r.l=t+q.l)(h:atK rs (kA,[q.c,q.m],[aj])=none):dr (ax rs,n) t ay [q.c] [q.kc] (a,q.mk',aj) (.rows [gR] q.l) []=(ax (rs++[q.R t (n+1)]),n+1):=
 nM (g:=(q.R t n).g) o.l0 rfl (jc h1 h2) h
theorem aC_b(o:q.Ok)(h1:atK rs q.kc=some r)(h2:r.l=t+q.l)(h:atK rs (kN,[q.c,[49]],[])=none):dr (ax rs,n) t ay [q.c] [q.kc] (a,q.be,aj) (.non q.l) []=(ax (rs++[q.N t (n+1)]),n+1):=
 nM (g:=(q.N t n).g) o.l0 rfl (jc h1 h2) h
theorem aD_a(o:q.Ok)(h1:atK rs q.kc=some r)(h2:r.l=t+q.l)(h:atK rs (kN,[q.c,[50]],[])=none):dr (ax rs,n) t ay [q.c] [q.kc] (a,q.am,aj) (.bN nZ q.l) [⟨[],nZ,aj,.rows [cW] q.l⟩]=(ax (rs++[q.A t (n+1)]),n+1):=by
 unfold dr;rw[foldl_cons,foldl_nil];rw[Q3a (by simp)]
 exact nM (g:=(q.A t n).g) o.l0 rfl (jc h1 h2) h
theorem aX_y(o:q.Ok):dr ([],n) t ay [] [] (a,nY,aj) (.bN q.am q.l) [⟨[q.c],q.am,aj,.bN nZ q.l⟩,⟨[],nZ,aj,.rows [cW] q.l⟩]=(ax [q.Y t (n+1),q.Z t (n+1+1)],n+1+1):=by
 unfold dr;rw[foldl_cons,foldl_cons,foldl_nil,Q3a (b:=⟨[q.c],q.am,aj,.bN nZ q.l⟩) (by simp)]
 rw[show gh ([],n) ⟨t,ay,[],(a,nY,aj).2.1,(a,nY,aj).2.2,.bN q.am q.l⟩ []=(ax [q.Y t (n+1)],n+1) from nM (rs:=[]) (g:=(q.Y t n).g) o.l0 rfl (λk hk=>nomatch hk) rfl]
 have wo:jT (ax [q.Y t (n+1)]) t ⟨[],nZ,aj,.rows [cW] q.l⟩=true:=by
  unfold jT ik;simp only;rw[qK (t:=t) (rs:=[q.Y t (n+1)]) (a:=[122]) (λk hk=>by
   erw[Zf,Zm,Zv]at hk;rcases hk with rfl|rfl|rfl<;>simp[bH,yY,c8,eJ.symm]),Q5i λj _=>by simp[bH,yY,c8,dX]]
  simp
 unfold gw;rw[Zg ⟨rfl,wo⟩];exact nM (rs:=[q.Y t (n+1)]) (g:=(q.Z t n).g) o.l0 rfl (λk hk=>nomatch hk) (by simp[bH,yY,c8,show (q.Z t n).g.key=_ from yZ,eJ.symm])
variable{Ms M0 M:DH}{A:AA}{wp sd:Addr}{now asks:Int}{ks:List W}{rc:W->Hr}{ex:List Addr}{c l:Nat}{R:DK}
theorem hC1(h0:atK rs (kC,[q.c,m],[])=none)(h:atK rs q.kc=some r)(hl:now<=r.l):gu (ax rs) [q.c,m] now=some r.g.ds:=Qd0 h0 h hl
theorem lj(o:q.Ok){as:List Ak}{led:List ND}{r:En}{ww:W}(h:bT Ms M0 M A wp sd ay now asks ks rc q.z1 ex c l ⟨ax rs,n,[(kA,[q.x],aj),(aP,q.mk',aj)],[(kN,[q.x],[])],[],as⟩)(hc:c<=10000000)(ha:as.length<90)(len:rs.length<=50)
  (hr:atK rs q.kc=some r) (er:r=q.C now ww r.n) (h0:atK rs (kC,[q.c,q.m],[])=none) (h1:∀k:ND,k∈[((kA,[q.c,q.m],[aj]):ND),(kN,[q.c,q.m],[]),(kN,[q.c],[]),(kN,[],[])]->atK rs k=none)
  (un:nL (ax (rs++[q.R now (n+1)])) ((rs++[q.R now (n+1)]).map λr=>r.g.key) (uG (rs++[q.R now (n+1)])) (uR (rs++[q.R now (n+1)])) (uN (rs++[q.R now (n+1)]))) (hx:(kN,[q.x],[])∈(rs++[q.R now (n+1)]).map λr=>r.g.key)
  (k:∀M' s qs,s.es=ax (rs++[q.R now (n+1)])->s.n=n+1->bT Ms M0 M' A wp sd ay now (asks+1) ks rc q.z1 ex (c+1000) l s->mx (uR (rs++[q.R now (n+1)])) [(kN,[q.x],[]),(kA,[q.c,q.m],[aj])] qs->qs.Pairwise (λx y=>uN (rs++[q.R now (n+1)]) x<=uN (rs++[q.R now (n+1)]) y)->R (.tup [.str eB,.lst [.str gR],.lst [wD (kA,[q.x],aj),wD (aP,q.mk',aj)],.lst (qs.map λk=>.tup (uG (rs++[q.R now (n+1)]) k)),.lst ((as++[(ay,[q.c],q.mk',aj)]).map aD)]) (aA (aA M' A.wl) A.al)):Runs A.wk R 2 M:=by
 have rl:r.l=now+q.l:=by rw[er];rfl
 have l0:=o.l0;refine Q1o (w:=(aP,q.mk',aj)) (g:=r.g) (os:=[]) h (oH o) hc rfl cG (fR h1) (hC1 h0 hr (by room)) (by rw[er];rfl) rfl ha (tC_m o) (by show (ax rs).length+0<899;unfold ax;rw[Ze];room) λM1 h'=>?_
 rw[show r.g.key=q.kc by rw[er];rfl]at h'
 have h':=h'.asked (aC_m o hr rl (h1 _ (Zk ..)));refine Q1M (w:=(aP,q.mk',aj)) (g:=(q.R now (n+1)).g) h' rfl (Q4t (Qd1 (h1 _ (Zk ..)) rfl) (by show now<=now+q.l;room)) (λm l z=>by cases z) (λz=>nomatch z) un (λk hk=>?_) λqs c1 c2=>k M1 _ qs rfl rfl h' c1 c2
 have hk:k∈[((kN,[q.x],[]):ND),(kA,[q.c,q.m],[aj])]:=hk;erw[Zf,Zm,Zv]at hk;rcases hk with rfl|rfl
 ·exact hx
 ·rw[ZA];exact Zl _ (Zh.mpr rfl)
end
section
variable{q:Q76}{Ms M0 M:DH}{A:AA}{wp sd:Addr}{now asks n:Int}{ks:List W}{rc:W->Hr}{ex:List Addr}{c l:Nat}{R:DK}
noncomputable def Q76.an(q:Q76)(gs:List Gr)(as:List Ak):D:=.tup [.str eB,.lst [.str gR],.lst [wD (kA,[q.x],aj),wD (aP,q.mk',aj)],.lst (gs.map λg=>.tup g.ds),.lst (as.map aD)]
theorem kOk(o:q.Ok):cY (q.E t n).g:=iq _ (λz=>nomatch z) (by simp[Q76.E]) (λm l e=>by cases e;simp[Q76.mk']) (λc h ds l e=>by cases e) o.l0
theorem oC(o:q.Ok):cY (q.C t w n).g:=iq _ (λz=>nomatch z) (by simp[Q76.C]) (λm l e=>by cases e) (λc h ds l e=>by cases e;simp) o.l0
theorem rOk(o:q.Ok):cY (q.R t n).g:=iq _ (λz=>nomatch z) (by simp[Q76.R,Q76.mk']) (λm l e=>by cases e) (λc h ds l e=>by cases e) o.l0
theorem nOk(o:q.Ok):cY (q.N t n).g:=iq _ (λz=>nomatch z) (by simp[Q76.N]) (λm l e=>by cases e) (λc h ds l e=>by cases e) o.l0
theorem unA(o:q.Ok):nL (ax [q.E t a,q.C t w b,q.R t d]) ([q.E t a,q.C t w b,q.R t d].map λr=>r.g.key) (uG [q.E t a,q.C t w b,q.R t d]) (uR [q.E t a,q.C t w b,q.R t d]) (uN [q.E t a,q.C t w b,q.R t d]):=by
 refine Q5k (by simp) (λr hr=>?_) (λr hr k hk=>?_) (λr hr=>?_)<;>simp only[Zf,Zm,Zv]at hr<;>rcases hr with rfl|rfl|rfl
 ·exact kOk o
 ·exact oC o
 ·exact rOk o
 ·exact nomatch hk
 ·exact nomatch hk
 ·rw[Zh.mp hk];simp[yC]
 ·exact Z8 _
 ·exact Z8 _
 ·show 1<=4;decide
theorem gs3(a1:atK rs kE=some rE)(a2:atK rs q.kc=some rC)(a3:atK rs kR=some rR)(s1:rE.ks=[])(s2:rC.ks=[])(s3:rR.ks=[q.kc])(c1:mx (uR rs) [kE,kR] qs)(c2:qs.Pairwise (λx y=>uN rs x<=uN rs y))(hp:ts.Pairwise (λx y=>uN rs x<uN rs y))(hm:∀k,k∈ts <-> k=kE\/k=q.kc\/k=kR):qs=ts:=by
 have r1:uR rs kE=[]:=by unfold uR;rw[a1];exact s1
 have r2:uR rs q.kc=[]:=by unfold uR;rw[a2];exact s2
 have r3:uR rs kR=[q.kc]:=by unfold uR;rw[a3];exact s3
 refine Qd5 c1 c2 hp (λk hk=>?_) (λk hk r hr=>?_) λk hk=>?_
 ·erw[Zf,Zm,Zv]at hk;exact (hm k).mpr (hk.imp_right .inr)
 ·rcases (hm k).mp hk with rfl|rfl|rfl
  ·rw[r1]at hr;exact nomatch hr
  ·rw[r2]at hr;exact nomatch hr
  ·rw[r3]at hr;exact (hm r).mpr (.inr (.inl (Zh.mp hr)))
 ·rcases (hm k).mp hk with rfl|rfl|rfl
  ·exact .inl (Zk ..)
  ·exact .inr ⟨kR,Zc _ (Zh.mpr rfl),by rw[r3];exact Zh.mpr rfl⟩
  ·exact .inl (Zc _ (Zh.mpr rfl))
theorem up3{NO:ND->Int}(h1:NO x<NO y)(h2:NO y<NO z):[x,y,z].Pairwise λx y=>NO x<NO y:=by
 erw[pairwise_cons,Zf,Zm,Zv];refine⟨λk hk=>?_,λk hk=>?_,(λk hk=>hk.elim),.nil⟩
 ·rcases hk with rfl|rfl
  ·exact h1
  ·exact Int.lt_trans h1 h2
 ·rw[hk];exact h2
theorem dG(h:atK rs k=some r):uN rs k=r.n:=by unfold uN;rw[h];rfl
theorem ff(h:atK rs k=some r):uG rs k=r.g.ds:=by unfold uG;rw[h];rfl
theorem gsA(h1:a<b)(h2:b<d)(c1:mx (uR [q.E t a,q.C t w b,q.R t d]) [(kN,[q.x],[]),(kA,[q.c,q.m],[aj])] qs)(c2:qs.Pairwise (λx y=>uN [q.E t a,q.C t w b,q.R t d] x<=uN [q.E t a,q.C t w b,q.R t d] y)):(qs.map λk=>D.tup (uG [q.E t a,q.C t w b,q.R t d] k))=[(q.E t a).g,(q.C t w b).g,(q.R t d).g].map λg=>.tup g.ds:=by
 have a1:atK [q.E t a,q.C t w b,q.R t d] (kN,[q.x],[])=some (q.E t a):=by simp[bH,yE]
 have a2:atK [q.E t a,q.C t w b,q.R t d] q.kc=some (q.C t w b):=by simp[bH,yE,yC,dX]
 have a3:atK [q.E t a,q.C t w b,q.R t d] (kA,[q.c,q.m],[aj])=some (q.R t d):=by simp[bH,yE,yC,yR,eJ.symm,gj.symm]
 rw[gs3 (ts:=[(kN,[q.x],[]),q.kc,(kA,[q.c,q.m],[aj])]) a1 a2 a3 rfl rfl rfl c1 c2 (up3 (by rw[dG a1,dG a2];exact h1) (by rw[dG a2,dG a3];exact h2)) (λk=>by simp)]
 erw[Zu,map_nil,ff a1,ff a2,ff a3]
theorem wA(o:q.Ok)(h:bT Ms M0 M A wp sd ay now asks ks rc q.z1 ex c l (dZ [] n [q.x] aj))(hc:c<=9000000)
  (k:∀M' s,s.es=ax [q.E now (n+1),q.C now q.m (n+1+1),q.R now (n+1+1+1)]->s.n=n+1+1+1->bT Ms M0 M' A wp sd ay now (asks+1+1+1) ks rc q.z1 ex (c+1000+1000+1000) l s->R (q.an [(q.E now (n+1)).g,(q.C now q.m (n+1+1)).g,(q.R now (n+1+1+1)).g] [(ay,[],[q.x],aj),(ay,[],q.mk',aj),(ay,[q.c],q.mk',aj)]) (aA (aA M' A.wl) A.al)):Runs A.wk R 5 M:=by
 have l0:=o.l0;have h:bT Ms M0 M A wp sd ay now asks ks rc q.z1 ex c l ⟨ax [],n,[(kA,[q.x],aj)],[],[],[]⟩:=h;refine oP (w:=(kA,[q.x],aj)) h (oH o) (by room) rfl cG rfl rfl (by simp) (pB o) (by show 0+1<899;decide) λM1 h1=>?_
 have h1:=h1.asked (ro (rs:=[]) o rfl);refine rS (w:=(kA,[q.x],aj)) (g:=(q.E now (n+1)).g) h1 rfl (oN (rs:=[q.E now (n+1)]) (r:=q.E now (n+1)) (by simp[bH,yE,c8,eJ.symm]) (by simp[bH,yE]) (by show now<=now+q.l;room)) rfl (by simp[Q76.mk']) (by simp) (λv hv e=>by
  rw[Zh]at hv;subst hv;exact absurd (congrArg List.length e.1) (by simp[Q76.mk'])) λM2 h2=>?_
 have h2:bT Ms M0 M2 A wp sd ay now (asks+1) ks rc q.z1 ex (c+1000) l ⟨ax [q.E now (n+1)],n+1,[(kA,[q.x],aj),(aP,q.mk',aj)],[(kN,[q.x],[])],[],[(ay,[],[q.x],aj)]⟩:=h2;refine oP (w:=(aP,q.mk',aj)) h2 (oH o) (by room) rfl cG (fR (rs:=[q.E now (n+1)]) λk hk=>by
  erw[Zf,Zm,Zv]at hk;rcases hk with rfl|rfl|rfl|rfl<;>simp[bH,yE,c8,eJ.symm,o.cx.symm]) (Q5i (rs:=[q.E now (n+1)]) λj _=>by simp[bH,yE,c8,dX]) (by simp) (mK o ex0 j9 rfl q.m) (by show 1+0<899;decide) λM3 h3=>?_
 have e3:=nK (rs:=[q.E now (n+1)]) (t:=now) (n:=n+1) (a:=aP) (w:=q.m) o (by simp[bH,yE,c8,dX])
 have h3:=h3.asked e3;refine lj (led:=[]) (ww:=q.m) (rs:=[q.E now (n+1),q.C now q.m (n+1+1)]) (r:=q.C now q.m (n+1+1)) (as:=[(ay,[],[q.x],aj),(ay,[],q.mk',aj)]) o h3 (by room) (by simp) (by simp) (by simp[bH,yE,yC,dX]) rfl (by simp[bH,yE,yC,c8,dX]) (λk hk=>by
  erw[Zf,Zm,Zv]at hk;rcases hk with rfl|rfl|rfl|rfl<;>simp[bH,yE,yC,c8,eJ.symm,gj.symm,dX.symm,o.cx.symm]) (unA o) (by simp[yE]) λM4 s4 qs es en w4 c1 c2=>?_
 have:=k M4 s4 es en w4;rw[show [q.E now (n+1),q.C now q.m (n+1+1)]++[q.R now (n+1+1+1)]=[q.E now (n+1),q.C now q.m (n+1+1),q.R now (n+1+1+1)] from rfl]at c1 c2 ⊢;rw[gsA (by room) (by room) c1 c2]
 exact this
end
section
variable{q:Q76}{Ms M0 M:DH}{A:AA}{wp sd:Addr}{now asks n:Int}{ks:List W}{rc:W->Hr}{ex:List Addr}{c l:Nat}{R:DK}
theorem wB(o:q.Ok)(h12:a<b)(h23:b<d)(h:bT Ms M0 M A wp sd ay now asks ks rc q.z1 ex c l (dZ (ax [q.E now a,q.C now q.m b,q.R now d]) n [q.x] aj))
  (k:∀M' s,s.es=ax [q.E now a,q.C now q.m b,q.R now d]->bT Ms M0 M' A wp sd ay now asks ks rc q.z1 ex c l s->R (q.an [(q.E now a).g,(q.C now q.m b).g,(q.R now d).g] []) (aA (aA M' A.wl) A.al)):Runs A.wk R 2 M:=by
 have l0:=o.l0;have h:bT Ms M0 M A wp sd ay now asks ks rc q.z1 ex c l ⟨ax [q.E now a,q.C now q.m b,q.R now d],n,[(kA,[q.x],aj)],[],[],[]⟩:=h;refine rS (w:=(kA,[q.x],aj)) (g:=(q.E now a).g) h rfl (oN (rs:=[q.E now a,q.C now q.m b,q.R now d]) (r:=q.E now a) (by simp[bH,yE,yC,yR,c8,eJ.symm,gj.symm]) (by simp[bH,yE]) (by show now<=now+q.l;room)) rfl (by simp[Q76.mk']) (by simp) (λv hv e=>by
  rw[Zh]at hv;subst hv;exact absurd (congrArg List.length e.1) (by simp[Q76.mk'])) λM2 h2=>?_
 have h2:bT Ms M0 M2 A wp sd ay now asks ks rc q.z1 ex c l ⟨ax [q.E now a,q.C now q.m b,q.R now d],n,[(kA,[q.x],aj),(aP,q.mk',aj)],[(kN,[q.x],[])],[],[]⟩:=h2;refine Q1M (w:=(aP,q.mk',aj)) (g:=(q.R now d).g) h2 rfl (Q4t (rs:=[q.E now a,q.C now q.m b,q.R now d]) (r:=q.R now d) (by simp[bH,yE,yC,yR,eJ.symm,gj.symm,Q76.mk']) (by show now<=now+q.l;room)) (λm l z=>by cases z) (λz=>nomatch z) (unA o) (λk hk=>?_) λqs c1 c2=>?_
 ·have hk:k∈[((kN,[q.x],[]):ND),(kA,[q.c,q.m],[aj])]:=hk;erw[Zf,Zm,Zv]at hk;rcases hk with rfl|rfl<;>simp[yE,yR]
 ·rw[gsA h12 h23 c1 c2];exact k M2 _ rfl h2
theorem wC(o:q.Ok)(h:bT Ms M0 M A wp sd ay now asks ks rc q.z1 ex c l (dZ [] n q.be aj))(hc:c<=9000000)
  (k:∀M' s gl,s.es=ax [q.C now [49] (n+1),q.N now (n+1+1)]->s.n=n+1+1->bT Ms M0 M' A wp sd ay now (asks+1+1) ks rc q.z1 ex (c+1000+1000) l s->R (.tup [.str cN,.lst [],.lst [wD (kA,q.be,aj)],.lst gl,.lst ([(ay,[],q.be,aj),(ay,[q.c],q.be,aj)].map aD)]) (aA (aA M' A.wl) A.al)):Runs A.wk R 3 M:=by
 have l0:=o.l0;have h:bT Ms M0 M A wp sd ay now asks ks rc q.z1 ex c l ⟨ax [],n,[(kA,q.be,aj)],[],[],[]⟩:=h;refine oP (w:=(kA,q.be,aj)) h (oH o) (by room) rfl cG rfl rfl (by simp) (mK o ex0 j9 rfl [49]) (by show 0+0<899;decide) λM1 h1=>?_
 have e1:=nK (rs:=[]) (t:=now) (n:=n) (a:=kA) (w:=[49]) o rfl;have h1:=h1.asked e1;have h1:bT Ms M0 M1 A wp sd ay now (asks+1) ks rc q.z1 ex (c+1000) l ⟨ax [q.C now [49] (n+1)],n+1,[(kA,q.be,aj)],[],[],[(ay,[],q.be,aj)]⟩:=h1;have hr:atK [q.C now [49] (n+1)] q.kc=some (q.C now [49] (n+1)):=by simp[bH,yC]
 refine Q1o (w:=(kA,q.be,aj)) (g:=(q.C now [49] (n+1)).g) (os:=[]) h1 (oH o) (by room) rfl cG (fR (rs:=[q.C now [49] (n+1)]) λk hk=>by
  erw[Zf,Zm,Zv]at hk;rcases hk with rfl|rfl|rfl|rfl<;>simp[bH,yC,c8,gj.symm,dX.symm]) (hC1 (rs:=[q.C now [49] (n+1)]) (by simp[bH,yC,c8]) hr (by show now<=now+q.l;room)) rfl rfl (by simp) (tC_b o) (by show 1+0<899;decide) λM2 h2=>?_
 have h2:=h2.asked (aC_b o hr rfl (by simp[bH,yC,c8,dX.symm]))
 have un:=Q5k (rs:=[q.C now [49] (n+1),q.N now (n+1+1)]) (by simp) (λr hr=>by
  erw[Zf,Zm,Zv]at hr;rcases hr with rfl|rfl
  ·exact oC o
  ·exact nOk o) (λr hr k hk=>by
  erw[Zf,Zm,Zv]at hr;rcases hr with rfl|rfl
  ·exact nomatch hk
  ·rw[Zh.mp hk];simp[yC]) (λr hr=>by
  erw[Zf,Zm,Zv]at hr;rcases hr with rfl|rfl
  ·exact Z8 _
  ·show 1<=4;decide)
 refine Q1M (w:=(kA,q.be,aj)) (g:=(q.N now (n+1+1)).g) h2 rfl (oN (rs:=[q.C now [49] (n+1),q.N now (n+1+1)]) (r:=q.N now (n+1+1)) (by simp[bH,yC,yN,c8,gj.symm,eJ.symm]) (by simp[bH,yC,yN,dX.symm]) (by show now<=now+q.l;room)) (λm l z=>by cases z) (λz=>nomatch z) un (λk hk=>?_) λqs c1 c2=>k M2 _ _ rfl rfl h2
 have hk:k∈[((kN,[q.c,[49]],[]):ND)]:=hk;rw[Zh.mp hk];simp[yC,yN]
theorem wD'(o:q.Ok)(hab:a<b)(hbn:b<=n)(h:bT Ms M0 M A wp sd ay now asks ks rc q.z1 ex c l (dZ (ax [q.C now [49] a,q.N now b]) n [q.x] aj))(hc:c<=9000000)
  (k:∀M' s,bT Ms M0 M' A wp sd ay now (asks+1+1) ks rc q.z1 ex (c+1000+1000) l s->R (q.an [(q.C now [49] a).g,(q.E now (n+1)).g,(q.R now (n+1+1)).g] [(ay,[],[q.x],aj),(ay,[q.c],q.mk',aj)]) (aA (aA M' A.wl) A.al)):Runs A.wk R 4 M:=by
 have l0:=o.l0;have h:bT Ms M0 M A wp sd ay now asks ks rc q.z1 ex c l ⟨ax [q.C now [49] a,q.N now b],n,[(kA,[q.x],aj)],[],[],[]⟩:=h;refine oP (w:=(kA,[q.x],aj)) h (oH o) (by room) rfl cG (qK (rs:=[q.C now [49] a,q.N now b]) λk hk=>by
  erw[Zf,Zm,Zv]at hk;rcases hk with rfl|rfl|rfl<;>simp[bH,yC,yN,c8,gj.symm,eJ.symm,dX.symm]) (Q5i (rs:=[q.C now [49] a,q.N now b]) λj hj=>by
  match j,hj with
  |0,_=>simp[bH,yC,yN,c8,dX]
  |1,_=>simp[bH,yC,yN,c8,dX,o.cx]) (by simp) (pB o) (by show 2+1<899;decide) λM1 h1=>?_
 have h1:=h1.asked (ro (rs:=[q.C now [49] a,q.N now b]) o (by simp[bH,yC,yN,c8,dX.symm]))
 refine rS (w:=(kA,[q.x],aj)) (g:=(q.E now (n+1)).g) h1 rfl (oN (rs:=[q.C now [49] a,q.N now b,q.E now (n+1)]) (r:=q.E now (n+1)) (by simp[bH,yC,yN,yE,c8,gj.symm,eJ.symm]) (by simp[bH,yC,yN,yE,dX.symm]) (by show now<=now+q.l;room)) rfl (by simp[Q76.mk']) (by simp) (λv hv e=>by
  rw[Zh]at hv;subst hv;exact absurd (congrArg List.length e.1) (by simp[Q76.mk'])) λM2 h2=>?_
 have h2:bT Ms M0 M2 A wp sd ay now (asks+1) ks rc q.z1 ex (c+1000) l ⟨ax [q.C now [49] a,q.N now b,q.E now (n+1)],n+1,[(kA,[q.x],aj),(aP,q.mk',aj)],[(kN,[q.x],[])],[],[(ay,[],[q.x],aj)]⟩:=h2;have un:=Q5k (rs:=[q.C now [49] a,q.N now b,q.E now (n+1),q.R now (n+1+1)]) (by simp) (λr hr=>by
  erw[Zf,Zm,Zv]at hr;rcases hr with rfl|rfl|rfl|rfl
  ·exact oC o
  ·exact nOk o
  ·exact kOk o
  ·exact rOk o) (λr hr k hk=>by
  erw[Zf,Zm,Zv]at hr;rcases hr with rfl|rfl|rfl|rfl
  ·exact nomatch hk
  ·rw[Zh.mp hk];simp[yC]
  ·exact nomatch hk
  ·rw[Zh.mp hk];simp[yC]) (λr hr=>by
  erw[Zf,Zm,Zv]at hr;rcases hr with rfl|rfl|rfl|rfl
  ·exact Z8 _
  ·show 1<=4;decide
  ·exact Z8 _
  ·show 1<=4;decide)
 refine lj (led:=[]) (ww:=[49]) (rs:=[q.C now [49] a,q.N now b,q.E now (n+1)]) (r:=q.C now [49] a) (as:=[(ay,[],[q.x],aj)]) o h2 (by room) (by simp) (by simp) (by simp[bH,yC]) rfl (by simp[bH,yC,yN,yE,c8,dX]) (λk hk=>by
  erw[Zf,Zm,Zv]at hk;rcases hk with rfl|rfl|rfl|rfl<;>simp[bH,yC,yN,yE,c8,gj.symm,eJ.symm,dX.symm,o.cx.symm,o.m1.symm]) un (by simp[yE]) λM4 s4 qs es en w4 c1 c2=>?_
 have:=k M4 s4 w4;rw[show [q.C now [49] a,q.N now b,q.E now (n+1)]++[q.R now (n+1+1)]=[q.C now [49] a,q.N now b,q.E now (n+1),q.R now (n+1+1)] from rfl]at c1 c2 ⊢;have a1:atK [q.C now [49] a,q.N now b,q.E now (n+1),q.R now (n+1+1)] (kN,[q.x],[])=some (q.E now (n+1)):=by simp[bH,yC,yN,yE,dX.symm]
 have a2:atK [q.C now [49] a,q.N now b,q.E now (n+1),q.R now (n+1+1)] q.kc=some (q.C now [49] a):=by simp[bH,yC]
 have a3:atK [q.C now [49] a,q.N now b,q.E now (n+1),q.R now (n+1+1)] (kA,[q.c,q.m],[aj])=some (q.R now (n+1+1)):=by simp[bH,yC,yN,yE,yR,gj.symm,eJ.symm]
 rw[gs3 (ts:=[q.kc,(kN,[q.x],[]),(kA,[q.c,q.m],[aj])]) a1 a2 a3 rfl rfl rfl c1 c2 (up3 (by rw[dG a1,dG a2];show a<n+1;room) (by rw[dG a1,dG a3];show n+1<n+1+1;room)) (λk=>by erw[Zf,Zm,Zv];exact or_left_comm)]
 erw[Zu,map_nil,ff a1,ff a2,ff a3];exact this
theorem wE(o:q.Ok)(h:bT Ms M0 M A wp sd ay now asks ks rc q.z2 ex c l (dZ [] n nY aj))(hc:c<=9000000)
  (k:∀M' s gl,bT Ms M0 M' A wp sd ay now (asks+1+1+1) ks rc q.z2 ex (c+1000+1000+1000) l s->R (.tup [.str eB,.lst [.str cW],.lst [wD (kA,nY,aj),wD (aP,q.am,aj),wD (aP,nZ,aj)],.lst gl,.lst ([(ay,[],nY,aj),(ay,[],q.am,aj),(ay,[q.c],q.am,aj)].map aD)]) (aA (aA M' A.wl) A.al)):Runs A.wk R 6 M:=by
 have l0:=o.l0;have h:bT Ms M0 M A wp sd ay now asks ks rc q.z2 ex c l ⟨[],n,[(kA,nY,aj)],[],[],[]⟩:=h;refine oP (w:=(kA,nY,aj)) h (Q7G o) (by room) rfl cG rfl rfl (by simp) (tX_y o) (by show 0+2<899;decide) λM1 h1=>?_
 have h1:=h1.asked (aX_y o);refine rS (w:=(kA,nY,aj)) (g:=(q.Y now (n+1)).g) h1 rfl (oN (rs:=[q.Y now (n+1),q.Z now (n+1+1)]) (r:=q.Y now (n+1)) (by simp[bH,yY,yZ,c8,eJ.symm]) (by simp[bH,yY]) (by show now<=now+q.l;room)) rfl (by simp) (by simp) (λv hv e=>by
  rw[Zh]at hv;subst hv;exact absurd (congrArg List.length e.1) (by simp)) λM2 h2=>?_
 have h2:bT Ms M0 M2 A wp sd ay now (asks+1) ks rc q.z2 ex (c+1000) l ⟨ax [q.Y now (n+1),q.Z now (n+1+1)],n+1+1,[(kA,nY,aj),(aP,q.am,aj)],[(kN,nY,[])],[],[(ay,[],nY,aj)]⟩:=h2;refine oP (w:=(aP,q.am,aj)) h2 (Q7G o) (by room) rfl cG (fR (rs:=[q.Y now (n+1),q.Z now (n+1+1)]) λk hk=>by
  erw[Zf,Zm,Zv]at hk;rcases hk with rfl|rfl|rfl|rfl<;>simp[bH,yY,yZ,c8,eJ,eJ.symm,o.cy.symm]) (Q5i (rs:=[q.Y now (n+1),q.Z now (n+1+1)]) λj _=>by simp[bH,yY,yZ,c8,dX,gj]) (by simp) (mK o qR j8 rfl [50]) (by show 2+0<899;decide) λM3 h3=>?_
 have h3:=h3.asked (nK (rs:=[q.Y now (n+1),q.Z now (n+1+1)]) o (by simp[bH,yY,yZ,c8,dX,gj]))
 have h3:bT Ms M0 M3 A wp sd ay now (asks+1+1) ks rc q.z2 ex (c+1000+1000) l ⟨ax [q.Y now (n+1),q.Z now (n+1+1),q.C now [50] (n+1+1+1)],n+1+1+1,[(kA,nY,aj),(aP,q.am,aj)],[(kN,nY,[])],[],[(ay,[],nY,aj),(ay,[],q.am,aj)]⟩:=h3;have hr:atK [q.Y now (n+1),q.Z now (n+1+1),q.C now [50] (n+1+1+1)] q.kc=some (q.C now [50] (n+1+1+1)):=by simp[bH,yY,yZ,yC,dX,gj]
 refine Q1o (w:=(aP,q.am,aj)) (g:=(q.C now [50] (n+1+1+1)).g) (os:=[]) h3 (Q7G o) (by room) rfl cG (fR (rs:=[q.Y now (n+1),q.Z now (n+1+1),q.C now [50] (n+1+1+1)]) λk hk=>by
  erw[Zf,Zm,Zv]at hk;rcases hk with rfl|rfl|rfl|rfl<;>simp[bH,yY,yZ,yC,c8,eJ,eJ.symm,gj.symm,dX.symm,o.cy.symm]) (hC1 (rs:=[q.Y now (n+1),q.Z now (n+1+1),q.C now [50] (n+1+1+1)]) (by simp[bH,yY,yZ,yC,c8,dX,gj]) hr (by show now<=now+q.l;room)) rfl rfl (by simp) (tD_a o) (by show 3+1<899;decide) λM4 h4=>?_
 have h4:=h4.asked (aD_a o hr rfl (by simp[bH,yY,yZ,yC,c8,eJ,dX.symm]))
 have h4:bT Ms M0 M4 A wp sd ay now (asks+1+1+1) ks rc q.z2 ex (c+1000+1000+1000) l ⟨ax [q.Y now (n+1),q.Z now (n+1+1),q.C now [50] (n+1+1+1),q.A now (n+1+1+1+1)],n+1+1+1+1,[(kA,nY,aj),(aP,q.am,aj)],[(kN,nY,[])],[],[(ay,[],nY,aj),(ay,[],q.am,aj),(ay,[q.c],q.am,aj)]⟩:=h4;refine rS (w:=(aP,q.am,aj)) (g:=(q.A now (n+1+1+1+1)).g) h4 rfl (oN (rs:=[q.Y now (n+1),q.Z now (n+1+1),q.C now [50] (n+1+1+1),q.A now (n+1+1+1+1)]) (r:=q.A now (n+1+1+1+1)) (by simp[bH,yY,yZ,yC,yA,c8,eJ,eJ.symm,gj.symm]) (by simp[bH,yY,yZ,yC,yA,eJ,dX.symm]) (by show now<=now+q.l;room)) rfl (by simp) (by simp) (λv hv e=>by
  erw[Zf,Zm,Zv]at hv;rcases hv with rfl|rfl
  ·exact absurd e.1 (by decide)
  ·exact absurd (congrArg List.length e.1) (by simp)) λM5 h5=>?_
 have un:=Q5k (rs:=[q.Y now (n+1),q.Z now (n+1+1),q.C now [50] (n+1+1+1),q.A now (n+1+1+1+1)]) (by simp) (λr hr=>by
  erw[Zf,Zm,Zv]at hr;rcases hr with rfl|rfl|rfl|rfl
  ·exact iq _ (λz=>nomatch z) (by simp[Q76.Y]) (λm l e=>by cases e;simp) (λc h ds l e=>by cases e) o.l0
  ·exact jq o
  ·exact oC o
  ·exact jr o) (λr hr k hk=>by
  erw[Zf,Zm,Zv]at hr;rcases hr with rfl|rfl|rfl|rfl
  ·exact nomatch hk
  ·exact nomatch hk
  ·exact nomatch hk
  ·rw[Zh.mp hk];simp[yC]) (λr hr=>by
  erw[Zf,Zm,Zv]at hr;rcases hr with rfl|rfl|rfl|rfl
  ·exact Z8 _
  ·exact Z8 _
  ·exact Z8 _
  ·show 1<=4;decide)
 refine Q1M (w:=(aP,nZ,aj)) (g:=(q.Z now (n+1+1)).g) h5 rfl (Q4t (rs:=[q.Y now (n+1),q.Z now (n+1+1),q.C now [50] (n+1+1+1),q.A now (n+1+1+1+1)]) (r:=q.Z now (n+1+1)) (by simp[bH,yY,yZ,eJ.symm]) (by show now<=now+q.l;room)) (λm l z=>by cases z) (λz=>nomatch z) un (λk hk=>?_) λqs c1 c2=>k M5 _ _ h5
 have hk:k∈[((kN,nY,[]):ND),(kN,[q.c,[50]],[]),(kA,nZ,[aj])]:=hk;erw[Zf,Zm,Zv]at hk;rcases hk with rfl|rfl|rfl<;>simp[yY,yZ,yC,yA]
end
noncomputable def b_aF:CS:=by walk_at "~cg4naea'asked a&1a'mark baea'else a&2a'mark bbckiCead&0#0ad&0#1ad&0#2ad&0#4bea'rows ana'here ba&4a&3bchlwmbbcg5ym[ d&0#3bead&0#2ad&0#3bchLi!Leaeba&2b&5itdddd&0#3#1#5#0'down b"
noncomputable def b_aG:CS:=by walk_at "~chf%World %times_asked &0b"
noncomputable def b_aP:CS:=by walk_at "~cg3qv&0ea'2 bcg4K360a'door bcg5naeaea'y ba&1a'else a&3baeaea'z ba&1a'mark a'red bbcuj366&4a'door aeaeba&1azqX&2&5bbcuj366&4a'door aea&0a&1anaea&3a&1a'else aea'z bbbbbcg6j431!c430a&4baea'y ba'mark bcg7naea'asked aea'y ba'mark baea'else a&3a'mark baea'else aea'z ba'mark bbcg8naea'door aebaea'y ba'mark baea'door aeba&3a'mark baea'door a&0a&3a'mark bbckiCead&6#0ad&6#1ad&6#2ad&6#4bea'rows ana'red ba&7a&8bchlwmbbchitj363&4b#3b"
def sp_aG:aU:=λds M R=>∃(p sd:Addr) (root:W) (now asks:Int),ds=[.ref p]/\M p=some (.ah (.ins "World" (wF root now asks sd)))/\R (.int asks) M
theorem ok_aG:bp T b_aG sp_aG [""]:=by
 rintro ds M R ⟨p,sd,root,now,asks,rfl,hp,h⟩;erw[b_aG];w_up;exact⟨p,_,_,rfl,hp,(aO (by kd_p)).trans ((aO (by kd_p)).trans du),aV h⟩
theorem Q7I(w:Wt):DL.plain 10 (wD w)=true:=by
 unfold wD DL.plain;erw[ZC,all_nil,hW,ZR,Yr];rfl
theorem j7(x:Ak):DL.plain 10 (aD x)=true:=by
 unfold aD DL.plain;erw[ZC,all_nil,hW,ZR,Yr];rfl
noncomputable def rj(n1 n2:List W)(gs:List Gr)(as:List Ak):D:=.tup [.str eB,.lst [.str gR],.lst [wD (kA,n1,aj),wD (aP,n2,aj)],.lst (gs.map λg=>.tup g.ds),.lst (as.map aD)]
def sp_aF:aU:=λds M R=>∃(n1 n2:List W) (gs:List Gr) (as:List Ak),ds=[rj n1 n2 gs as,dn n1,dn n2,.lst (as.map aD)]/\gs.length<=60/\((∀g∈gs,¬ (g.top=[]/\g.n=n2))\/∃g0 g1 r c hh dd l,gs=g0::g1::r/\g1.r=.down c hh dd l)/\R (.bl true) M
theorem Q5m(as:List Ak):(as.map aD).all (DL.plain 10)=true:=by
 rw[ZO];intro d hd;obtain⟨x,_,rfl⟩:=ZY.mp hd;exact j7 x
theorem ok_aF:bp T b_aF sp_aF ["","","","","",""]:=by
 rintro ds M R ⟨n1,n2,gs,as,rfl,hl,hg,h⟩;erw[b_aF,rj];walk_at "q0";refine⟨az (by decide),az (by decide),az (by decide),?_⟩
 walk_at "q1";refine au rfl (au rfl (au rfl (au rfl ?_)));have p4:DL.plain 12 (.tup [.str eB,.lst [.str gR],.lst [wD (kA,n1,aj),wD (aP,n2,aj)],.lst (as.map aD)])=true:=by
  show ([D.str eB,.lst [.str gR],.lst [wD (kA,n1,aj),wD (aP,n2,aj)],.lst (as.map aD)].all (DL.plain 11))=true;erw[ZC,all_nil,ZR,Zj];refine⟨rfl,rfl,?_,Q5m as⟩;show ([wD (kA,n1,aj),wD (aP,n2,aj)].all (DL.plain 10))=true;erw[ZC,all_nil,Q7I,ZR]
 refine⟨az (by decide),az (by decide),az (by decide),p4,p4,?_⟩
 have es:=hX (.tup [.str eB,.lst [.str gR],.lst [wD (kA,n1,aj),wD (aP,n2,aj)],.lst (as.map aD)]);refine aI (λz=>Bool.noConfusion (es.symm.trans ((Yg _).mp z))) λ_=>?_;walk_at "q1";refine au rfl ?_;refine mj gs (λg=>D.tup g.ds) (λg=>D.tup [dn g.top,dn g.n]) trivial (by room) (λg kk _ hkk=>?_) ?_
 ·w_up;exact au rfl (au rfl ⟨az (by decide),hkk⟩)
 refine⟨az (by rw[Ze];room),?_⟩
 rw[e1];clear e1;w_up;have pn:∀a b:List W,DL.plain 11 (.tup [dn a,dn b])=true:=λa b=>by
  show ([dn a,dn b].all (DL.plain 10))=true;erw[ZC,all_nil,hW,ZR]
 refine⟨az (by decide),az (by decide),_,rfl,pn [] n2,?_,aI (λ_=>aV h) λz=>?_⟩
 ·rw[all_map,ZO];exact λg _=>pn g.top g.n
 rcases hg with hg|⟨g0,g1,r,c,hh,dd,l,rfl,er⟩
 ·refine absurd ?_ z;rw[Yg,any_map,List.any_eq_false];intro g hm he;have he:=(gI _ _).mp he;injection he with he;injection he with h1 he;injection he with h2 _;exact hg g hm ⟨oI (b:=[]) h1,oI h2⟩
 ·refine au rfl (Q9Q (by room) (by erw[Ze,Zs];room) λd hd=>?_)
  cases hd;unfold Gr.ds;refine au rfl ?_;rw[er];unfold Rp.d;rw[<- hX (.str df)]at h;exact au rfl ⟨rfl,rfl,aV h⟩
def sp_aP:aU:=λds M R=>∃(q:Q76),ds=[dn [q.c],.int q.l,.lst (q.rw.map Rw.d)]/\q.Ok/\∀M',Sub M M'->R (.bl true) M'
theorem ok_aP(T:Tab)(h363:T.mt 363=some ⟨"World","asks",0,sp_aG⟩)(h431:T.mt 431=some ⟨"Asker","ask",2,sp_a8⟩)(h430:T.cQ 430=some ⟨"Asker","__init__",1002,sp_ab⟩)(h366:T.mt 366=some ⟨"World","put",2,sp_ai⟩)(h360:T.cQ 360=some ⟨"World","__init__",1,sp_ag⟩) :
  bp T b_aP sp_aP ["","","","","","","","",""]:=by
 rintro ds M R ⟨q,rfl,o,h⟩;erw[b_aP];walk_at "q0";refine⟨az (by decide),az (by show 1+1<=1000;decide),?_⟩
 walk_at "q1";erw[h360];w_up;intro wp hwp;refine⟨wp,ay,rfl,aq,λsd hsd=>⟨rfl,?_⟩⟩;have X1:=WX.made (root:=ay) hwp hsd;generalize ae (ae (ae M wp _) sd _) wp _=M1 at X1;clear hwp hsd;walk_at "q1";refine⟨az (by decide),az (by decide),az (by decide),az (by decide),az (by decide),?_⟩
 walk_at "q1";erw[h366];w_up;refine⟨wp,_,rfl,X1.ob,c4,az (by decide),?_⟩
 unfold cK;w_up;refine⟨_,_,rfl,rfl,az (by show 3+2<=1000;decide),λp hp=>?_⟩
 rw[aq,jA hp];refine⟨az (by decide),M,wp,sd,ay,0,0,[],_,[],[],0,0,q.zX q.mo,rfl,X1,by decide,by decide,by decide,λM2 rc2 X2 _=>?_⟩
 clear X1 hp;walk_at "q1";erw[h366];w_up;refine⟨wp,_,rfl,X2.ob,c4,az (by decide),az (by decide),az (by decide),az (by decide),M,wp,sd,ay,_,_,_,_,_,[],_,_,q.zD,rfl,X2,by show 1<=100;decide,by show 1<=100;decide,by decide,λM3 rc3 X3 _=>?_⟩
 clear X2;rw[show dW (dW [] (q.zX q.mo)) q.zD=q.z2 from qc]at X3;walk_at "q1";erw[h430,h431];w_up;intro aa haa;refine Q1H X3 haa λM4 ma d S4 _ _=>?_;clear X3 haa;refine⟨aa,_,rfl,S4.oa,fX,az (by decide),S4.ask (N:=nY) (K:=aj) (λk v e=>nomatch e) rfl (by simp) λM' A ex' w fi=>⟨6,wE o w (by decide) λM5 s5 gl w5=>?_⟩⟩
 obtain⟨S5,_⟩:=fi _ _ _ _ w5;clear S4 fi w w5;generalize aA (aA M5 A.wl) A.al=M6 at S5;walk_at "q1";refine⟨az (by decide),az (by decide),az (by decide),az (by decide),az (by decide),az (by decide),?_⟩
 walk_at "q1";refine⟨az (by decide),az (by decide),az (by decide),az (by decide),az (by decide),az (by decide),az (by decide),?_⟩
 walk_at "q1";refine au rfl (au rfl (au rfl (au rfl ?_)));have p4:DL.plain 12 (.tup [.str eB,.lst [.str cW],.lst [wD (kA,nY,aj),wD (aP,q.am,aj),wD (aP,nZ,aj)],.lst ([(ay,[],nY,aj),(ay,[],q.am,aj),(ay,[q.c],q.am,aj)].map aD)])=true:=by
  show ([D.str eB,.lst [.str cW],.lst [wD (kA,nY,aj),wD (aP,q.am,aj),wD (aP,nZ,aj)],.lst ([(ay,[],nY,aj),(ay,[],q.am,aj),(ay,[q.c],q.am,aj)].map aD)].all (DL.plain 11))=true;erw[ZC,all_nil,ZR,Zj];refine⟨rfl,rfl,?_,Q5m _⟩;show ([wD (kA,nY,aj),wD (aP,q.am,aj),wD (aP,nZ,aj)].all (DL.plain 10))=true;erw[ZC,all_nil,Q7I,ZR]
 have es:=hX (.tup [.str eB,.lst [.str cW],.lst [wD (kA,nY,aj),wD (aP,q.am,aj),wD (aP,nZ,aj)],.lst ([(ay,[],nY,aj),(ay,[],q.am,aj),(ay,[q.c],q.am,aj)].map aD)]);refine⟨az (by decide),az (by decide),az (by decide),p4,p4,aI (λz=>Bool.noConfusion (es.symm.trans ((Yg _).mp z))) λ_=>?_⟩
 rw[e1];clear e1;w_up;erw[h363];w_up;refine⟨wp,_,rfl,S5.X.ob,c4,wp,sd,ay,_,_,rfl,S5.X.ob,?_⟩;have hh:=h M6 S5.X.sub;rw[<- hX (.int 3)]at hh;exact⟨rfl,rfl,aV hh⟩
noncomputable def b_ar:CS:=by walk_at "~cki!h&1xUa&0bchd&0&1bbch#0b"
noncomputable def b_law:CS:=by walk_at "~cg1eaqv'c Eo101ao100a&0a#0bb#1bbcg2qv&1eao101ao100a&0a#1bbbcg3eaqv'x Eo101ao100a&0a#2bb#1bbcg4qTo100a&0a#3b#1000000000cg5qv&1ea'0 bcg6naea&1a&4a'down a&5baea&5a&4a'door a'door baea&3a&4a'else a&2bbcg7K360a'door bcuj366&7a'door aeaeba&4a&6bbcuj366&7a'door aea&1a&4anaea&2a&4a'mark a'here bbbbck!do103a&1a&4a&6bchlwmbbcg8!c430a&7bcg9naea'door aeba&3a'mark baea'door aeba&2a'mark baea'door a&1a&2a'mark bbck!do102aj431&8a&3a'mark ba&3a&2a&9bchlwmbbck!do102aj431&8a&3a'mark ba&3a&2anbbchlwmbbcg10!c430a&7bcg11qv&1ea'1 bcg12j431&10a&11a'mark bckLiCd&12#0'none iCd&12#4naea'door aeba&11a'mark baea'door a&1a&11a'mark bbchlwmbbcho102aj431&10a&3a'mark ba&3a&2anad&9#0ad&9#2bbb"
def sp_ar:aU:=λds M R=>∃(ns:List Int) (k:Nat),ds=[.lst (ns.map D.int),.int k]/\R (.int (ns.getD k 0)) M
theorem ok_ar:bp T b_ar sp_ar ["",""]:=by
 rintro ds M R ⟨ns,k,rfl,h⟩;erw[b_ar,dn];w_up;refine aI (λq=>?_) λq=>aV ?_
 ·rw[Zo,Ze]at q;refine Q9Q (by room) (by rw[Ze];exact q) λd hd=>?_
  rw[ZB,Int.toNat_natCast]at hd;rw[List.getD_eq_getElem?_getD]at h;cases e:ns[k]? with
  |none=>rw[e]at hd;cases hd
  |some n=>rw[e]at hd h;cases hd;exact aV h
 ·rw[Zo,Ze]at q;rw[List.getD_eq_getElem?_getD,List.getElem?_eq_none (by room)]at h
  exact h
theorem pZ(hm:∀a∈m,a≠42)(h1:∀a∈m,a≠49)(h0:0<=l):(⟨99::c,m,120::x,l⟩:Q76).Ok:=
 ⟨λz=>(by injection z with z;room),λz=>(by injection z with z;room),λz=>(by injection z with z;room),λz=>(by injection z with z;room),λz=>(by injection z with z;room),λz=>(by injection z with z;room),λz=>hm 42 (by rw[show m=[42] from z];simp) rfl,λz=>h1 49 (by rw[show m=[49] from z];simp) rfl,h0⟩
theorem jg(x:Ak):DL.plain 11 (aD x)=true:=by
 unfold aD DL.plain;erw[ZC,all_nil,hW,ZR,Yr];rfl
def sp_law:aU:=kn 63
theorem ok_law(T:Tab)(h102:T.fn 102=some ⟨"_law_right",4,[],sp_aF⟩)(h431:T.mt 431=some ⟨"Asker","ask",2,sp_a8⟩)(h430:T.cQ 430=some ⟨"Asker","__init__",1002,sp_ab⟩)(h103:T.fn 103=some ⟨"_law_passed_over",3,[],sp_aP⟩)(h366:T.mt 366=some ⟨"World","put",2,sp_ai⟩)(h360:T.cQ 360=some ⟨"World","__init__",1,sp_ag⟩)(h100:T.fn 100=some ⟨"_law_cell_at",2,[],sp_ar⟩)(h101:T.fn 101=some ⟨"_law_word",1,[],sp_au⟩) :
  bp T b_law sp_law ["","","","","","","","","","","","",""]:=by
 intro ds M R h;unfold sp_law kn at h;split at h
 ·rename_i ds0;obtain⟨ns,rfl,hl,h⟩:=h;have fin:∀M',Sub M M'->∃M0,Sub M0 M'/\R (.bl true) M0:=λM' s=>⟨M,s,h⟩;clear h;erw[b_law];walk_at "q0";erw[h100,h101];w_up;refine⟨ns,0,rfl,_,rfl,λw0 hw0=>⟨az (ZF hw0.1 (by decide)),?_⟩⟩
  have ec:∀w:W,cut w (some 1) none=w.drop 1:=λw=>Q4X w 1;rw[ec];refine⟨az (by rw[length_drop];have:=hw0.1;room),az (by decide),?_⟩
  walk_at "q1";erw[h100,h101];w_up;refine⟨ns,1,rfl,_,rfl,λw1 hw1=>⟨az (by decide),az (by decide),?_⟩⟩
  walk_at "q1";erw[h100,h101];w_up;refine⟨ns,2,rfl,_,rfl,λw2 hw2=>⟨az (ZF hw2.1 (by decide)),?_⟩⟩
  rw[ec];refine⟨az (by rw[length_drop];have:=hw2.1;room),az (by decide),?_⟩
  walk_at "q1";erw[h100];w_up;refine⟨ns,3,rfl,by decide,?_⟩
  have hlf:0<=ns.getD 3 0 % 1000000000:=by room
  generalize ns.getD 3 0 % 1000000000=lf at hlf;have o:(⟨99::w0.drop 1,w1,120::w2.drop 1,lf⟩:Q76).Ok:=pZ (λa ha=>(hw1.2 a ha).1) (λa ha=>(hw1.2 a ha).2) hlf;obtain⟨q,eq⟩:∃q:Q76,q=⟨99::w0.drop 1,w1,120::w2.drop 1,lf⟩:=⟨_,rfl⟩;rw[<- eq]at o;rw[show 99::List.drop 1 w0=q.c by rw[eq],show w1=q.m by rw[eq],show 120::List.drop 1 w2=q.x by rw[eq],show lf=q.l by rw[eq]]
  clear eq hw0 hw1 hw2;have l0:=o.l0;walk_at "q1";refine⟨az (by decide),az (by decide),?_⟩
  walk_at "q1";refine⟨az (by decide),az (by decide),az (by decide),az (by decide),?_⟩
  walk_at "q1";erw[h360];w_up;intro wp hwp;refine⟨wp,ay,rfl,aq,λsd hsd=>⟨rfl,?_⟩⟩;have X1:=WX.made (root:=ay) hwp hsd;generalize ae (ae (ae M wp _) sd _) wp _=M1 at X1;clear hwp hsd;walk_at "q1";erw[h366];w_up;refine⟨wp,_,rfl,X1.ob,c4,az (by decide),az (by decide),M,wp,sd,ay,0,0,[],_,[],[],0,0,q.zX [],rfl,X1,by decide,by decide,by decide,λM2 rc2 X2 _=>?_⟩
  clear X1;walk_at "q1";erw[h366];w_up;refine⟨wp,_,rfl,X2.ob,c4,az (by decide),az (by decide),az (by decide),M,wp,sd,ay,_,_,_,_,_,[],_,_,q.zC,rfl,X2,by show 1<=100;decide,by show 1<=100;decide,by decide,λM3 rc3 X3 _=>?_⟩
  clear X2;rw[show dW (dW [] (q.zX [])) q.zC=q.z1 from putC]at X3;walk_at "q1";erw[h103];w_up;refine⟨q,rfl,o,λM4 s4=>br ?_⟩;have X4:=X3.mono s4;clear X3 s4;walk_at "q1";erw[h430];w_up;intro aa haa;refine Q1H X4 haa λM5 ma d S5 _ _=>?_;clear X4 haa;walk_at "q1";refine⟨az (by decide),az (by decide),az (by decide),az (by decide),az (by decide),az (by decide),?_⟩
  walk_at "q1";erw[h431,h102];w_up;refine⟨aa,_,rfl,S5.oa,fX,S5.ask (N:=[q.x]) (K:=aj) (λk v e=>nomatch e) rfl (by simp) λM' A ex' w fi=>⟨5,wA o w (by decide) λM6 s6 es6 en6 w6=>?_⟩⟩
  obtain⟨S6,_⟩:=fi _ _ _ _ w6;clear S5 fi w w6;rw[es6,en6]at S6;clear es6 en6;generalize aA (aA M6 A.wl) A.al=M7 at S6;refine⟨[q.x],q.mk',_,_,rfl,by show 3<=60;decide,.inr ⟨_,_,_,_,_,_,_,rfl,rfl⟩,br ?_⟩
  walk_at "q1";erw[h431,h102];w_up;refine⟨aa,_,rfl,S6.oa,fX,S6.ask (N:=[q.x]) (K:=aj) (by
   refine lV λr hr=>?_;erw[Zf,Zm,Zv]at hr;rcases hr with rfl|rfl|rfl
   ·exact kOk o
   ·exact oC o
   ·exact rOk o) rfl (by simp) λM' A ex' w fi=>⟨2,?_⟩⟩
  refine wB o (by room) (by room) w λM8 s8 _ w8=>?_
  obtain⟨S8,_⟩:=fi _ _ _ _ w8;clear S6 fi w w8;have X8:=S8.X;clear S8;generalize aA (aA M8 A.wl) A.al=M9 at X8;refine⟨az (by decide),[q.x],q.mk',_,[],rfl,by show 3<=60;decide,.inr ⟨_,_,_,_,_,_,_,rfl,rfl⟩,br ?_⟩
  walk_at "q1";erw[h430];w_up;intro ab hab;refine Q1H X8 hab λM10 mb db S10 _ _=>?_;clear X8 hab;walk_at "q1";refine⟨az (by decide),az (by decide),?_⟩
  walk_at "q1";erw[h431];w_up;refine⟨ab,_,rfl,S10.oa,fX,S10.ask (N:=q.be) (K:=aj) (λk v e=>nomatch e) rfl (by simp) λM' A ex' w fi=>⟨3,wC o w (by decide) λM11 s11 gl es11 en11 w11=>?_⟩⟩
  obtain⟨S11,_⟩:=fi _ _ _ _ w11;clear S10 fi w w11;rw[es11,en11]at S11;clear es11 en11;generalize aA (aA M11 A.wl) A.al=M12 at S11;walk_at "q1";have pl:DL.plain 12 (.lst ([(ay,[],q.be,aj),(ay,[q.c],q.be,aj)].map aD))=true:=by
   show (([(ay,[],q.be,aj),(ay,[q.c],q.be,aj)]:List Ak).map aD).all (DL.plain 11)=true;erw[Zu,map_nil,ZC,all_nil,jg,ZR]
  refine au rfl ⟨rfl,rfl,aI (λz=>Bool.noConfusion ((hX (.str cN)).symm.trans ((Yg _).mp z))) λ_=>au rfl ⟨az (by decide),az (by decide),az (by decide),az (by decide),pl,pl,aI (λz=>Bool.noConfusion ((hX (.lst ([(ay,[],q.be,aj),(ay,[q.c],q.be,aj)].map aD))).symm.trans ((Yg _).mp z))) λ_=>?_⟩⟩
  clear pl;rw[e1];clear e1;w_up;erw[h431,h102];w_up;refine⟨ab,_,rfl,S11.oa,fX,S11.ask (N:=[q.x]) (K:=aj) (by
   refine lV λr hr=>?_;erw[Zf,Zm,Zv]at hr;rcases hr with rfl|rfl
   ·exact oC o
   ·exact nOk o) rfl (by simp) λM' A ex' w fi=>⟨4,?_⟩⟩
  refine wD' o (by room) (by room) w (by decide) λM13 s13 w13=>?_
  obtain⟨S13,_⟩:=fi _ _ _ _ w13;refine il rfl (il rfl ⟨az (by decide),[q.x],q.mk',_,[(ay,[],[q.x],aj),(ay,[q.c],q.mk',aj)],rfl,by show 3<=60;decide,.inl λg hg=>?_,fin _ S13.X.sub⟩)
  erw[Zf,Zm,Zv]at hg;rintro⟨g1,g2⟩;rcases hg with rfl|rfl|rfl
  ·injection g2 with _ g2;injection g2 with g2 _;exact o.m1 g2.symm
  ·exact absurd (congrArg List.length g2) (by simp[Q76.E,Q76.mk'])
  ·cases g1
 ·exact h.elim
noncomputable def top(i:Nat):Stmt:=PySem.Challenge.pw_namewell_k76_one_house_two_zones.main.body.getD i (.Pass ⟨0,0,0,0⟩)
noncomputable def bls:List Str:=["len","range","sorted","min","list","tuple","isinstance","reversed","dict"]
noncomputable def cons:Nat->Option (Str×D)
 |11=>some ("STAR",D.str [42])
 |12=>some ("ELSE",D.str [101,108,115,101])
 |13=>some ("DOWN",D.str [100,111,119,110])
 |14=>some ("DOOR",D.str [100,111,111,114])
 |15=>some ("ROWS",D.str [114,111,119,115])
 |16=>some ("EMPTY",D.str [101,109,112,116,121])
 |17=>some ("NONE",D.str [110,111,110,101])
 |18=>some ("AWAY",D.str [97,119,97,121])
 |19=>some ("ASKED_KEY",D.str [97,115,107,101,100])
 |20=>some ("NAME_KEY",D.str [110,97,109,101])
 |21=>some ("CUT_KEY",D.str [99,117,116])
 |22=>some ("LOST",D.str [108,111,115,116])
 |23=>some ("RING",D.str [114,105,110,103])
 |24=>some ("ASKED",D.str [97,115,107,101,100])
 |_=>none
noncomputable def fns:Nat->Option FI
 |1=>some ⟨"at_or_beneath",2,[],sp_aM⟩
 |2=>some ⟨"above",1,[],sp_a4⟩
 |5=>some ⟨"is_star_name",1,[],sp_aV⟩
 |23=>some ⟨"values_of",1,[],sp_ak⟩
 |24=>some ⟨"least_life",1,[],sp_ae⟩
 |63=>some ⟨"copied_zone",1,[],sp_aw⟩
 |80=>some ⟨"key_of",1,[],sp_a3⟩
 |81=>some ⟨"copied",1,[],sp_a9⟩
 |85=>some ⟨"doors_in",1,[],sp_a6⟩
 |100=>some ⟨"_law_cell_at",2,[],sp_ar⟩
 |101=>some ⟨"_law_word",1,[],sp_au⟩
 |102=>some ⟨"_law_right",4,[],sp_aF⟩
 |103=>some ⟨"_law_passed_over",3,[],sp_aP⟩
 |_=>none
noncomputable def mts:Nat->Option MI
 |363=>some ⟨"World","asks",0,sp_aG⟩
 |411=>some ⟨"Memory","number_of",1,sp_az⟩
 |410=>some ⟨"Memory","grounds",1,sp_aA⟩
 |402=>some ⟨"Memory","until",2,sp_ah⟩
 |406=>some ⟨"Memory","first_of",2,sp_aj⟩
 |404=>some ⟨"Memory","says_none",1,sp_as⟩
 |403=>some ⟨"Memory","known",3,sp_aa⟩
 |447=>some ⟨"Walk","answer",2,sp_a1⟩
 |442=>some ⟨"Walk","wait_for",4,sp_a7⟩
 |405=>some ⟨"Memory","handed",2,sp_af⟩
 |420=>some ⟨"Memory","top_for",2,sp_aK⟩
 |446=>some ⟨"Walk","would_ask",1,sp_aO⟩
 |401=>some ⟨"Memory","keep",2,sp_an⟩
 |309=>some ⟨"Page","rows_at",2,sp_am⟩
 |308=>some ⟨"Page","reply_at",2,sp_aJ⟩
 |302=>some ⟨"Page","has",1,sp_aQ⟩
 |307=>some ⟨"Page","place_of",1,sp_aH⟩
 |306=>some ⟨"Page","reply_down",1,sp_aR⟩
 |303=>some ⟨"Page","cut",1,sp_aI⟩
 |305=>some ⟨"Page","reply",2,sp_aB⟩
 |301=>some ⟨"Page","lay",1,sp_ax⟩
 |323=>some ⟨"House","page",1,sp_ay⟩
 |325=>some ⟨"House","reply",3,sp_ac⟩
 |322=>some ⟨"House","nearest_top",1,sp_aE⟩
 |327=>some ⟨"House","nearby",2,sp_at⟩
 |326=>some ⟨"House","beside",3,sp_aC⟩
 |324=>some ⟨"House","speak",3,sp_aL⟩
 |369=>some ⟨"World","ask",4,sp_av⟩
 |445=>some ⟨"Walk","ask_house",3,sp_a0⟩
 |421=>some ⟨"Memory","entrance",2,sp_aD⟩
 |361=>some ⟨"World","root",0,sp_aq⟩
 |444=>some ⟨"Walk","look_for_house",1,sp_a5⟩
 |441=>some ⟨"Walk","go_on",0,sp_a2⟩
 |362=>some ⟨"World","turn",0,sp_al⟩
 |408=>some ⟨"Memory","forget",1,sp_aT⟩
 |431=>some ⟨"Asker","ask",2,sp_a8⟩
 |334=>some ⟨"House","let_go",1,sp_aS⟩
 |333=>some ⟨"House","take",1,sp_aU⟩
 |366=>some ⟨"World","put",2,sp_ai⟩
 |_=>none
noncomputable def mks:Nat->Option MI
 |300=>some ⟨"Page","__init__",1,sp_ao⟩
 |320=>some ⟨"House","__init__",1,sp_ad⟩
 |440=>some ⟨"Walk","__init__",4,sp_ap⟩
 |400=>some ⟨"Memory","__init__",0,sp_aN⟩
 |430=>some ⟨"Asker","__init__",1002,sp_ab⟩
 |360=>some ⟨"World","__init__",1,sp_ag⟩
 |_=>none
noncomputable def fds:List (Str×Str):=[("Page","standing"),("Page","downs"),("Page","rows"),("Page","life"),("Page","top"),("House","turned"),("House","pages"),("House","zones"),("Memory","soonest"),("Memory","numbered"),("Memory","entries"),("Asker","memory"),("Asker","remembers"),("Asker","world"),("Walk","askings"),("Walk","door_places"),("Walk","led_by"),("Walk","met"),("Walk","waits"),("Walk","now"),("Walk","memory"),("Walk","world"),("World","street"),("World","times_asked"),("World","now"),("World","root_door")]
noncomputable def tab:Tab:={ fn:=fns,kf:=λ_=>none,con:=cons,bl:=bls,fx:=λ_=>none,cl:=λ_=>none,mt:=mts,cQ:=mks,fd:=fds}
noncomputable abbrev sT(i:Nat):Stmt:=top i
noncomputable abbrev sM(i j:Nat):Stmt:=inClass (top i) j
noncomputable abbrev gn(K:Frag)(nm:Str)(st:Stmt):Prop:=∃f oc od sl kV dc pm an cd ct,nsIn K mainGlobals nm=some (some (.ref f))/\K.lookup f=some ⟨oc,od,.func (fnOf nm nm (gf st) (fe st) (dE st) .none kV dc pm an cd ct),sl⟩/\codeIn K cd nm=true/\keepIn K (.ref f)=true
noncomputable abbrev bJ(K:Frag)(C:Addr)(nm qn:Str)(st:Stmt):Prop:=∃f oc od sl kV dc pm an cd ct,findIn K (.ref C) nm=some (some (.ref f))/\isFn K (.ref f)=true/\K.lookup f=some ⟨oc,od,.func (fnOf nm qn (gf st) (fe st) (dE st) .none kV dc pm an cd ct),sl⟩/\codeIn K cd qn=true/\keepIn K (.ref f)=true
theorem fnI{K:Frag}{nm:Str}{st:Stmt}{f:Addr}{oc:Value}{od:Option Addr}{sl:Array (Option Value)}{kV dc pm:Value}{an:Option Addr}{cd ct:Value}(q1:nsIn K mainGlobals nm=some (some (.ref f)))(q2:K.lookup f=some ⟨oc,od,.func (fnOf nm nm (gf st) (fe st) (dE st) .none kV dc pm an cd ct),sl⟩)(q3:codeIn K cd nm=true)(q4:keepIn K (.ref f)=true):gn K nm st:=⟨f,oc,od,sl,kV,dc,pm,an,cd,ct,q1,q2,q3,q4⟩
theorem mtI{K:Frag}{C:Addr}{nm qn:Str}{st:Stmt}{f:Addr}{oc:Value}{od:Option Addr}{sl:Array (Option Value)}{kV dc pm:Value}{an:Option Addr}{cd ct:Value}(q1:findIn K (.ref C) nm=some (some (.ref f)))(q0:isFn K (.ref f)=true)(q2:K.lookup f=some ⟨oc,od,.func (fnOf nm qn (gf st) (fe st) (dE st) .none kV dc pm an cd ct),sl⟩)(q3:codeIn K cd qn=true)(q4:keepIn K (.ref f)=true):bJ K C nm qn st:=⟨f,oc,od,sl,kV,dc,pm,an,cd,ct,q1,q0,q2,q3,q4⟩
noncomputable abbrev jB(K:Frag)(C:Addr):Prop:=plainGet K C Str.empty=true/\hasDictIn K C=true/\plainOver K C=true/\findIn K (.ref C) "__setattr__" = some (some (.builtin "object.__setattr__"))/\makesIn K C=true/\keepIn K (.ref C)=true
theorem jB.cls{K:Frag}{C:Addr}(h:jB K C):Cls K C:=⟨h.1,h.2.1,h.2.2.1,h.2.2.2.1⟩
structure BoI(T:Tab)(b:CS)(N ps:List Str)(nm qn:Str)(st:Stmt)(sp:aU):Prop where
 sc:ot N ps (dE st)
 ck:(fV T b).b ⟨N,(dE st).names⟩ (fe st)=true
 ln:∀ds M R,sp ds M R->ds.length=ps.length
 ok:∀ds M R,sp ds M R->b7 T b (za3 R) (za2 N ds) M
 bd:∀(kV doc pm:Value) (an:Option Addr) (cdv ct:Value) (us:List Value),us.length=ps.length->bindArgs (fnOf nm qn (gf st) (fe st) (dE st) .none kV doc pm an cdv ct) ⟨us,[]⟩=pure (ps.zip us)
 no:∀c M,¬ T.xd c M
section
variable{P:Program}{w:World}{K:Frag}{h:Heap}{mg:Str->Option Value}{base:Heap}{T:Tab}{k:Nat}{b:CS}{N ps:List Str}{nm qn cl:Str}{st:Stmt}{sp:aU}{C:Addr}{np:Nat}
theorem mkF(X:K.In h)(G:h.Ns mainGlobals mg)(H:gn K nm st)(O:TabOk P w K mg base T k)(B:BoI T b N ps nm nm st sp)(e:ps.length=np):FOk P w K mg base ⟨nm,np,[],sp⟩ (k+1):=by
 obtain⟨f,oc,od,sl,kV,dc,pm,an,cd,ct,q1,q2,q3,q4⟩:=H;exact fok (Q3G b O (Q2e (st:=st) q2 q3 q4) B.sc B.ck B.ln B.ok B.no) (mg_of X G q1) q4 e ((Q6s (st:=st) q2 q3 q4).binds B.bd)
theorem mkM(oa:nsIn K mainGlobals cl=some (some (.ref C)))(ob:jB K C)(H:bJ K C nm qn st)(O:TabOk P w K mg base T k)(B:BoI T b N ps nm qn st sp):MtOk P w K mg base ⟨cl,nm,np,sp⟩ (k+2):=by
 obtain⟨f,oc,od,sl,kV,dc,pm,an,cd,ct,q1,q0,q2,q3,q4⟩:=H;exact⟨k+1,C,f,_,_,Zy _,oa,ob.cls,⟨q1,q0,q4⟩,Q3G b O (Q2e (st:=st) q2 q3 q4) B.sc B.ck B.ln B.ok B.no,(Q6s (st:=st) q2 q3 q4).binds B.bd⟩
theorem mkI(X:K.In h)(G:h.Ns mainGlobals mg)(oa:nsIn K mainGlobals cl=some (some (.ref C)))(ob:jB K C)(H:bJ K C "__init__" qn st)(O:TabOk P w K mg base T k)(B:BoI T b N ps "__init__" qn st sp)(e:l6 np=[]):MkOk P w K mg base ⟨cl,"__init__",np,sp⟩ (k+2):=by
 obtain⟨f,oc,od,sl,kV,dc,pm,an,cd,ct,q1,q0,q2,q3,q4⟩:=H;exact⟨k+1,C,f,_,_,Zy _,oa,mg_of X G oa,⟨ob.2.2.2.2.1,q1,q0,ob.2.2.2.2.2⟩,Q3G b O (Q2e (st:=st) q2 q3 q4) B.sc B.ck B.ln B.ok B.no,e ▸ (Q6s (st:=st) q2 q3 q4).binds B.bd⟩
noncomputable abbrev kP(K:Frag)(C:Addr)(nm qn:Str)(st:Stmt):Prop:=∃f oc od sl kV dc pm an cd ct,∃T tc td tn ts,findIn K (.ref C) nm=some (some (.ref f))/\isFn K (.ref f)=true/\K.lookup f=some ⟨oc,od,.func (fnOf nm qn (gf st) (fe st) (dE st) (.ref T) kV dc pm an cd ct),sl⟩/\codeIn K cd qn=true/\keepIn K (.ref f)=true/\K.lookup T=some ⟨tc,td,.seq #[.bool true] tn,ts⟩
theorem mtD{f T:Addr}{oc tc:Value}{od td:Option Addr}{sl ts:Array (Option Value)}{kV dc pm:Value}{an:Option Addr}{cd ct:Value}{tn:Nat}(q1:findIn K (.ref C) nm=some (some (.ref f)))(q0:isFn K (.ref f)=true)(q2:K.lookup f=some ⟨oc,od,.func (fnOf nm qn (gf st) (fe st) (dE st) (.ref T) kV dc pm an cd ct),sl⟩)(q3:codeIn K cd qn=true)(q4:keepIn K (.ref f)=true)(q5:K.lookup T=some ⟨tc,td,.seq #[.bool true] tn,ts⟩):kP K C nm qn st:=⟨f,oc,od,sl,kV,dc,pm,an,cd,ct,T,tc,td,tn,ts,q1,q0,q2,q3,q4,q5⟩
theorem mkT(X:K.In h)(G:h.Ns mainGlobals mg)(oa:nsIn K mainGlobals cl=some (some (.ref C)))(ob:jB K C)(H:kP K C "__init__" qn st)(O:TabOk P w K mg base T k)(sc:ot N ps (dE st))(ck:(fV T b).b ⟨N,(dE st).names⟩ (fe st)=true)(ln:∀ds M R,sp ds M R->ds.length=ps.length)(ok:∀ds M R,sp ds M R->b7 T b (za3 R) (za2 N ds) M)(no:∀c M,¬ T.xd c M)
  (bd:∀{T:Addr}{tc:Value}{td:Option Addr}{ts:Array (Option Value)}{tn:Nat}(kV dc pm:Value) (an:Option Addr) (cd ct:Value),K.lookup T=some ⟨tc,td,.seq #[.bool true] tn,ts⟩->Binds K (fnOf "__init__" qn (gf st) (fe st) (dE st) (.ref T) kV dc pm an cd ct) ps [.bool true]) (e:l6 np=[.bool true]):MkOk P w K mg base ⟨cl,"__init__",np,sp⟩ (k+2):=by
 obtain⟨f,oc,od,sl,kV,dc,pm,an,cd,ct,T,tc,td,tn,ts,q1,q0,q2,q3,q4,q5⟩:=H;exact⟨k+1,C,f,_,_,Zy _,oa,mg_of X G oa,⟨ob.2.2.2.2.1,q1,q0,ob.2.2.2.2.2⟩,Q3G b O (Q2e (st:=st) q2 q3 q4) sc ck ln ok no,e ▸ bd kV dc pm an cd ct q5⟩
end
theorem QbI:∀ds M R,sp_law ds M R->ds.length=1:=by
 intro ds M R h;unfold sp_law kn at h;split at h
 ·rfl
 ·exact h.elim
open Lean in def mkN (p x:String):Ident:=mkIdent (Name.mkSimple (p++x))
open Lean in def mkS (xs : List String) : Array (TSyntax `term):=(xs.map λs=>⟨(Syntax.mkStrLit s).raw⟩).toArray
set_option hygiene false
local macro_rules | `(tactic| walk_at "ln")=>`(tactic| (intro _ _ _ h; repeat (first | exact congrArg List.length h.1 | (refine Exists.elim h ?_; clear h; intro _ h))))
open Lean in
local macro_rules | `(tactic| walk_at $s:str) => do
 let a:=((s.getString.replace "~" "_law_").splitOn " ").toArray
 let wd:=a[0]!
 if !["dF","dM","dI","dT","dL"].contains wd then Macro.throwUnsupported
 let q:=a[1]!
 let g:=λ(p:String)=>mkN p q
 let h:=λ(p:String)=>mkN p a[2]!
 do
  let x:=(a[3]!.drop 3).toString
  let pl:=a[4]!.splitOn "."
  let st : TSyntax `term <- match pl with
   | [i, j] => `(sM $(Syntax.mkNumLit i) $(Syntax.mkNumLit j))
   | _ => `(sT $(Syntax.mkNumLit a[4]!))
  let np:=a[5]!.toNat!
  let lv:=Syntax.mkNumLit a[6]!
  let calls:=(a[7]!.splitOn ",").filter (λe=>e != "" && e != "-")
  let ns:=mkS (a[8]!.splitOn ",")
  let ps:=ns.extract 0 np
  let nr:=a[9]!.toNat!
  let mut acc : TSyntax `term <- `(TN)
  for e in calls.reverse do
   let c:=(e.toList.filter (λc=>!c.isDigit)).head!
   let ab:=e.splitOn c.toString
   let n:=Syntax.mkNumLit ab[0]!
   let r:=mkN "R" ab[1]!
   acc <- match c with
    | 'M' => `(TabOk.consM (T := tab) (f := $n) rfl (MtOk.mono $r (by decide)) $acc rfl rfl)
    | 'I' => `(TabOk.consI (T := tab) (f := $n) rfl (MkOk.mono $r (by decide)) $acc rfl rfl)
    | _ => `(TabOk.cons (T := tab) (f := $n) rfl (FOk.mono $r (by decide)) $acc rfl rfl)
  let cs : Array (TSyntax `term):=(calls.map λe=>⟨(Syntax.mkNumLit (String.ofList (e.toList.takeWhile Char.isDigit))).raw⟩).toArray
  let mut ok : TSyntax `term:=mkN "ok_" x
  if nr != 0 then
   ok <- `($ok _)
   for _ in [0:nr] do ok <- `($ok rfl)
  let ln : TSyntax `term <- if x == "law" then `(QbI) else `(by walk_at "ln")
  let mut t : TSyntax `term <- `(rfl)
  for _ in [0:np] do t <- `(λ_ => $t)
  let le:=(#[mkIdent `len1,mkIdent `len2,mkIdent `len3,mkIdent `len4,mkIdent `len5])[np - 1]!
  let sc <- `(⟨rfl,rfl,rfl,by kd_p,rfl,by kd_p,by kd_p⟩)
  let w':=λ(p:String)=>mkN p (a[10]?.getD "")
  let nm:=Syntax.mkStrLit (a[11]?.getD "")
  let cl:=Syntax.mkStrLit (a[12]?.getD "")
  let nq:=Syntax.mkNumLit (toString (if wd == "dF" then np else np-1))
  let ac2 <- `((show TabOk l.prog w K mg base (tab.only [$cs,*]) ($lv - 1) from $acc))
  let bo <- `((BoI.mk (T := tab.only [$cs,*]) (b := $(mkN "b_" x)) (N := [$ns,*]) (ps := [$ps,*]) (st := $st) (sp := $(mkN "sp_" x)) $sc (by kd_p) $ln $ok (λ_ _ _ _ _ _ us hl => $le us hl $t) (λ_ _ h => h)))
  match wd with
  | "dL" => `(tactic| have $(g "Q") := Q3G (sp := $(mkN "sp_" x)) (N := [$ns,*]) (ps := [$ps,*]) $(mkN "b_" x) $ac2 (Q2e (st := $st) $(h "l") $(h "c") $(h "k")) $sc (by kd_p) $ln $ok)
  | "dF" => `(tactic| have $(g "R") : FOk l.prog w K mg base ⟨$nm, $nq, [], $(mkN "sp_" x)⟩ $lv := mkF X G $(h "h") $ac2 $bo rfl)
  | "dM" => `(tactic| have $(g "R") : MtOk l.prog w K mg base ⟨$cl, $nm, $nq, $(mkN "sp_" x)⟩ ($lv + 1) := mkM $(w' "oa") $(w' "ob") $(h "h") $ac2 $bo)
  | "dT" => `(tactic| have $(g "R") : MkOk l.prog w K mg base ⟨$cl, $nm, $nq + 1000, $(mkN "sp_" x)⟩ ($lv + 1) := mkT X G $(w' "oa") $(w' "ob") $(h "h") $ac2 (N := [$ns,*]) (ps := [$ps,*]) (st := $st) $sc (by kd_p) $ln $ok (λ_ _ h => h) (λ_ _ _ _ _ _ t _ us X hl => len2 us (Nat.add_right_cancel ((Zp (as := us)).symm.trans hl)) λ_ _ => PySem.W.binds_K X rfl t rfl rfl rfl) rfl)
  | _ => `(tactic| have $(g "R") : MkOk l.prog w K mg base ⟨$cl, $nm, $nq, $(mkN "sp_" x)⟩ ($lv + 1) := mkI X G $(w' "oa") $(w' "ob") $(h "h") $ac2 $bo rfl)
set_option hygiene true
set_option maxHeartbeats 4000000 in
theorem all_mk{l:OpenLaw}{w:World}{K:Frag}{h:Heap}{mg:Str->Option Value}{fa:Addr}(X:K.In h)(G:h.Ns mainGlobals mg)(hfa:mg "law" = some (.ref fa))
  {Ob0:Addr}(oa0:nsIn K mainGlobals "World" = some (some (.ref Ob0))) (ob0:jB K Ob0)
  (nf22:findIn K (.ref Ob0) "street" = some none)
  (nf23:findIn K (.ref Ob0) "times_asked" = some none)
  (nf24:findIn K (.ref Ob0) "now" = some none)
  (nf25:findIn K (.ref Ob0) "root_door" = some none)
  {Ob1:Addr}(oa1:nsIn K mainGlobals "Memory" = some (some (.ref Ob1))) (ob1:jB K Ob1)
  (nf8:findIn K (.ref Ob1) "soonest" = some none)
  (nf9:findIn K (.ref Ob1) "numbered" = some none)
  (nf10:findIn K (.ref Ob1) "entries" = some none)
  {Ob2:Addr}(oa2:nsIn K mainGlobals "Walk" = some (some (.ref Ob2))) (ob2:jB K Ob2)
  (nf14:findIn K (.ref Ob2) "askings" = some none)
  (nf15:findIn K (.ref Ob2) "door_places" = some none)
  (nf16:findIn K (.ref Ob2) "led_by" = some none)
  (nf17:findIn K (.ref Ob2) "met" = some none)
  (nf18:findIn K (.ref Ob2) "waits" = some none)
  (nf19:findIn K (.ref Ob2) "now" = some none)
  (nf20:findIn K (.ref Ob2) "memory" = some none)
  (nf21:findIn K (.ref Ob2) "world" = some none)
  {Ob3:Addr}(oa3:nsIn K mainGlobals "Page" = some (some (.ref Ob3))) (ob3:jB K Ob3)
  (nf0:findIn K (.ref Ob3) "standing" = some none)
  (nf1:findIn K (.ref Ob3) "downs" = some none)
  (nf2:findIn K (.ref Ob3) "rows" = some none)
  (nf3:findIn K (.ref Ob3) "life" = some none)
  (nf4:findIn K (.ref Ob3) "top" = some none)
  {Ob4:Addr}(oa4:nsIn K mainGlobals "House" = some (some (.ref Ob4))) (ob4:jB K Ob4)
  (nf5:findIn K (.ref Ob4) "turned" = some none)
  (nf6:findIn K (.ref Ob4) "pages" = some none)
  (nf7:findIn K (.ref Ob4) "zones" = some none)
  {Ob5:Addr}(oa5:nsIn K mainGlobals "Asker" = some (some (.ref Ob5))) (ob5:jB K Ob5)
  (nf11:findIn K (.ref Ob5) "memory" = some none)
  (nf12:findIn K (.ref Ob5) "remembers" = some none)
  (nf13:findIn K (.ref Ob5) "world" = some none)
  (h0:gn K "at_or_beneath" (sT 3))
  (h1:gn K "above" (sT 4))
  (h2:gn K "is_star_name" (sT 5))
  (h3:gn K "values_of" (sT 14))
  (h4:gn K "least_life" (sT 15))
  (h5:gn K "copied_zone" (sT 18))
  (h6:gn K "key_of" (sT 24))
  (h7:gn K "copied" (sT 25))
  (h8:gn K "doors_in" (sT 26))
  (h9:gn K "_law_cell_at" (sT 37))
  (h10:gn K "_law_word" (sT 38))
  (h11:gn K "_law_right" (sT 39))
  (h12:bJ K Ob0 "asks" "World.asks" (sM 35 3))
  (h13:bJ K Ob1 "number_of" "Memory.number_of" (sM 27 14))
  (h14:bJ K Ob1 "grounds" "Memory.grounds" (sM 27 13))
  (h15:bJ K Ob1 "until" "Memory.until" (sM 27 2))
  (h16:bJ K Ob1 "first_of" "Memory.first_of" (sM 27 9))
  (h17:bJ K Ob1 "says_none" "Memory.says_none" (sM 27 4))
  (h18:bJ K Ob1 "known" "Memory.known" (sM 27 3))
  (h19:bJ K Ob2 "answer" "Walk.answer" (sM 33 7))
  (h20:bJ K Ob2 "wait_for" "Walk.wait_for" (sM 33 2))
  (h21:bJ K Ob1 "handed" "Memory.handed" (sM 27 5))
  (h22:bJ K Ob1 "top_for" "Memory.top_for" (sM 27 6))
  (h23:bJ K Ob2 "would_ask" "Walk.would_ask" (sM 33 6))
  (h24:bJ K Ob1 "keep" "Memory.keep" (sM 27 1))
  (h25:bJ K Ob3 "rows_at" "Page.rows_at" (sM 13 9))
  (h26:bJ K Ob3 "reply_at" "Page.reply_at" (sM 13 8))
  (h27:bJ K Ob3 "has" "Page.has" (sM 13 2))
  (h28:bJ K Ob3 "place_of" "Page.place_of" (sM 13 7))
  (h29:bJ K Ob3 "reply_down" "Page.reply_down" (sM 13 6))
  (h30:bJ K Ob3 "cut" "Page.cut" (sM 13 3))
  (h31:bJ K Ob3 "reply" "Page.reply" (sM 13 5))
  (h32:bJ K Ob3 "lay" "Page.lay" (sM 13 1))
  (h33:bJ K Ob3 "__init__" "Page.__init__" (sM 13 0))
  (h34:bJ K Ob4 "page" "House.page" (sM 19 6))
  (h35:bJ K Ob4 "reply" "House.reply" (sM 19 8))
  (h36:bJ K Ob4 "nearest_top" "House.nearest_top" (sM 19 5))
  (h37:bJ K Ob4 "nearby" "House.nearby" (sM 19 10))
  (h38:bJ K Ob4 "beside" "House.beside" (sM 19 9))
  (h39:bJ K Ob4 "speak" "House.speak" (sM 19 7))
  (h40:bJ K Ob4 "__init__" "House.__init__" (sM 19 0))
  (h41:bJ K Ob0 "ask" "World.ask" (sM 35 9))
  (h42:bJ K Ob2 "ask_house" "Walk.ask_house" (sM 33 5))
  (h43:bJ K Ob1 "entrance" "Memory.entrance" (sM 27 7))
  (h44:bJ K Ob0 "root" "World.root" (sM 35 1))
  (h45:bJ K Ob2 "look_for_house" "Walk.look_for_house" (sM 33 4))
  (h46:bJ K Ob2 "go_on" "Walk.go_on" (sM 33 1))
  (h47:bJ K Ob0 "turn" "World.turn" (sM 35 2))
  (h48:bJ K Ob2 "__init__" "Walk.__init__" (sM 33 0))
  (h49:bJ K Ob1 "forget" "Memory.forget" (sM 27 10))
  (h50:bJ K Ob5 "ask" "Asker.ask" (sM 32 1))
  (h51:bJ K Ob1 "__init__" "Memory.__init__" (sM 27 0))
  (h52:kP K Ob5 "__init__" "Asker.__init__" (sM 32 0))
  (h53:bJ K Ob4 "let_go" "House.let_go" (sM 19 3))
  (h54:bJ K Ob4 "take" "House.take" (sM 19 1))
  (h55:bJ K Ob0 "put" "World.put" (sM 35 6))
  (h56:bJ K Ob0 "__init__" "World.__init__" (sM 35 0))
  (h57:gn K "_law_passed_over" (sT 40))
  (h58:gn K "law" (sT 41))
  (z0:nsIn K mainGlobals "len" = some none)
  (z1:nsIn K mainGlobals "range" = some none)
  (z2:nsIn K mainGlobals "sorted" = some none)
  (z3:nsIn K mainGlobals "min" = some none)
  (z4:nsIn K mainGlobals "list" = some none)
  (z5:nsIn K mainGlobals "tuple" = some none)
  (z6:nsIn K mainGlobals "isinstance" = some none)
  (z7:nsIn K mainGlobals "reversed" = some none)
  (z8:nsIn K mainGlobals "dict" = some none)
  {y0:Tok}(g0:nsIn K mainGlobals "STAR" = some (some (.str "*" y0)))
  {y1:Tok}(g1:nsIn K mainGlobals "ELSE" = some (some (.str "else" y1)))
  {y2:Tok}(g2:nsIn K mainGlobals "DOWN" = some (some (.str "down" y2)))
  {y3:Tok}(g3:nsIn K mainGlobals "DOOR" = some (some (.str "door" y3)))
  {y4:Tok}(g4:nsIn K mainGlobals "ROWS" = some (some (.str "rows" y4)))
  {y5:Tok}(g5:nsIn K mainGlobals "EMPTY" = some (some (.str "empty" y5)))
  {y6:Tok}(g6:nsIn K mainGlobals "NONE" = some (some (.str "none" y6)))
  {y7:Tok}(g7:nsIn K mainGlobals "AWAY" = some (some (.str "away" y7)))
  {y8:Tok}(g8:nsIn K mainGlobals "ASKED_KEY" = some (some (.str "asked" y8)))
  {y9:Tok}(g9:nsIn K mainGlobals "NAME_KEY" = some (some (.str "name" y9)))
  {y10:Tok}(g10:nsIn K mainGlobals "CUT_KEY" = some (some (.str "cut" y10)))
  {y11:Tok}(g11:nsIn K mainGlobals "LOST" = some (some (.str "lost" y11)))
  {y12:Tok}(g12:nsIn K mainGlobals "RING" = some (some (.str "ring" y12)))
  {y13:Tok}(g13:nsIn K mainGlobals "ASKED" = some (some (.str "asked" y13)))
  : ∃fd:FuncData,(∀(s:Shared) (v:Value),BindsTo s fd ⟨[v],[]⟩ [("_law_script",v)])/\∀base:Heap,K.In base->base.Ns mainGlobals mg->aS l.prog w K mg base eT 26 fa fd ["_law_script"] (di K sp_law):=by
 obtain⟨f58,oc58,od58,sl58,kV58,dc58,pm58,an58,cd58,ct58,a58,l58,c58,k58⟩:=h58;have e:=hfa.symm.trans (mg_of X G a58);cases e;have nb:∀x∈bls,mg x=none:=by
  intro x hx;erw[bls,Zf,Zm,Zv]at hx;rcases hx with rfl|rfl|rfl|rfl|rfl|rfl|rfl|rfl|rfl
  ·exact mg_none_of X G z0
  ·exact mg_none_of X G z1
  ·exact mg_none_of X G z2
  ·exact mg_none_of X G z3
  ·exact mg_none_of X G z4
  ·exact mg_none_of X G z5
  ·exact mg_none_of X G z6
  ·exact mg_none_of X G z7
  ·exact mg_none_of X G z8
 have hcon:∀i p,cons i=some p->∃u v,mg p.1=some u/\L2.RelV v u/\∀H,Den K H p.2 v:=by
  intro i p hp;unfold cons at hp;split at hp
  ·cases hp;exact hZ (mg_of X G g0) (by kd_p) (by kd_p)
  ·cases hp;exact hZ (mg_of X G g1) (by kd_p) (by kd_p)
  ·cases hp;exact hZ (mg_of X G g2) (by kd_p) (by kd_p)
  ·cases hp;exact hZ (mg_of X G g3) (by kd_p) (by kd_p)
  ·cases hp;exact hZ (mg_of X G g4) (by kd_p) (by kd_p)
  ·cases hp;exact hZ (mg_of X G g5) (by kd_p) (by kd_p)
  ·cases hp;exact hZ (mg_of X G g6) (by kd_p) (by kd_p)
  ·cases hp;exact hZ (mg_of X G g7) (by kd_p) (by kd_p)
  ·cases hp;exact hZ (mg_of X G g8) (by kd_p) (by kd_p)
  ·cases hp;exact hZ (mg_of X G g9) (by kd_p) (by kd_p)
  ·cases hp;exact hZ (mg_of X G g10) (by kd_p) (by kd_p)
  ·cases hp;exact hZ (mg_of X G g11) (by kd_p) (by kd_p)
  ·cases hp;exact hZ (mg_of X G g12) (by kd_p) (by kd_p)
  ·cases hp;exact hZ (mg_of X G g13) (by kd_p) (by kd_p)
  ·cases hp
 have hcl:∀c x,tab.cl c=some x->∃C,mg x=some (.ref C)/\ib K mg tab.toiz c x C:=λc x h=>nomatch h
 have hfd:∀p∈tab.fd,kU K p.1 p.2:=by
  intro p hp;erw[tab,fds,Zf,Zm,Zv]at hp;rcases hp with rfl|rfl|rfl|rfl|rfl|rfl|rfl|rfl|rfl|rfl|rfl|rfl|rfl|rfl|rfl|rfl|rfl|rfl|rfl|rfl|rfl|rfl|rfl|rfl|rfl|rfl
  ·exact⟨Ob3,oa3,ob3.cls,nf0⟩
  ·exact⟨Ob3,oa3,ob3.cls,nf1⟩
  ·exact⟨Ob3,oa3,ob3.cls,nf2⟩
  ·exact⟨Ob3,oa3,ob3.cls,nf3⟩
  ·exact⟨Ob3,oa3,ob3.cls,nf4⟩
  ·exact⟨Ob4,oa4,ob4.cls,nf5⟩
  ·exact⟨Ob4,oa4,ob4.cls,nf6⟩
  ·exact⟨Ob4,oa4,ob4.cls,nf7⟩
  ·exact⟨Ob1,oa1,ob1.cls,nf8⟩
  ·exact⟨Ob1,oa1,ob1.cls,nf9⟩
  ·exact⟨Ob1,oa1,ob1.cls,nf10⟩
  ·exact⟨Ob5,oa5,ob5.cls,nf11⟩
  ·exact⟨Ob5,oa5,ob5.cls,nf12⟩
  ·exact⟨Ob5,oa5,ob5.cls,nf13⟩
  ·exact⟨Ob2,oa2,ob2.cls,nf14⟩
  ·exact⟨Ob2,oa2,ob2.cls,nf15⟩
  ·exact⟨Ob2,oa2,ob2.cls,nf16⟩
  ·exact⟨Ob2,oa2,ob2.cls,nf17⟩
  ·exact⟨Ob2,oa2,ob2.cls,nf18⟩
  ·exact⟨Ob2,oa2,ob2.cls,nf19⟩
  ·exact⟨Ob2,oa2,ob2.cls,nf20⟩
  ·exact⟨Ob2,oa2,ob2.cls,nf21⟩
  ·exact⟨Ob0,oa0,ob0.cls,nf22⟩
  ·exact⟨Ob0,oa0,ob0.cls,nf23⟩
  ·exact⟨Ob0,oa0,ob0.cls,nf24⟩
  ·exact⟨Ob0,oa0,ob0.cls,nf25⟩
 refine⟨fnOf "law" "law" (gf (sT 41)) (fe (sT 41)) (dE (sT 41)) .none kV58 dc58 pm58 an58 cd58 ct58,λs v=>.of_eq rfl,λbase kb nbase=>?_⟩;have TN:∀{k:Nat},TabOk l.prog w K mg base (tab.only []) k:=TabOk.nil hcon nb hcl (hfd:=hfd);walk_at "dF 0 0 ok_aM 3 2 1 - name,top 0 - at_or_beneath";walk_at "dF 1 1 ok_a4 4 1 1 - name 0 - above";walk_at "dF 2 2 ok_aV 5 1 1 - name 1 - is_star_name";walk_at "dF 3 3 ok_ak 14 1 1 - rows 0 - values_of";walk_at "dF 4 4 ok_ae 15 1 1 - rows 0 - least_life";walk_at "dF 5 5 ok_aw 18 1 1 - zone 0 - copied_zone";walk_at "dF 6 6 ok_a3 24 1 1 - ground,reply 6 - key_of";walk_at "dF 7 7 ok_a9 25 1 1 - ground,reply 0 - copied";walk_at "dF 8 8 ok_a6 26 1 1 - ground,reply 1 - doors_in";walk_at "dF 9 9 ok_ar 37 2 1 - ~script,~k 0 - ~cell_at";walk_at "dF 10 10 ok_au 38 1 1 - ~cell,~letters,~word_here,~k,~number 0 - ~word";walk_at "dF 11 11 ok_aF 39 4 1 - ~answer,~other,~mark,~asks,~waits,~tops 0 - ~right";walk_at "dM 12 12 ok_aG 35.3 1 1 - self 0 0 asks World";walk_at "dM 13 13 ok_az 27.14 2 1 - self,key 0 1 number_of Memory";walk_at "dM 14 14 ok_aA 27.13 2 3 411M13,81F7 self,keys,reached,ahead,key 2 1 grounds Memory";walk_at "dM 15 15 ok_ah 27.2 3 1 - self,key,turn 0 1 until Memory";walk_at "dM 16 16 ok_aj 27.9 3 3 402M15,81F7 self,keys,turn,key 2 1 first_of Memory";walk_at "dM 17 17 ok_as 27.4 2 1 - self,key 1 1 says_none Memory";walk_at "dM 18 18 ok_aa 27.3 4 5 406M16,404M17,2F1 self,N,K,turn,found,wider 5 1 known Memory";walk_at "dM 19 19 ok_a1 33.7 3 7 410M14,80F6,403M18 self,word,values,known,last 3 2 answer Walk";walk_at "dM 20 20 ok_a7 33.2 5 2 80F6 self,why,name,kind,ground 2 2 wait_for Walk";walk_at "dM 21 21 ok_af 27.5 3 5 406M16,2F1 self,N,turn 3 1 handed Memory";walk_at "dM 22 22 ok_aK 27.6 3 7 405M21 self,name,turn,handed 1 1 top_for Memory";walk_at "dM 23 23 ok_aO 33.6 2 9 420M22,403M18 self,other 2 2 would_ask Walk";walk_at "dM 24 24 ok_an 27.1 3 3 81F7,402M15,80F6 self,ground,rests,turn,key,lasts,last 3 1 keep Memory";walk_at "dM 25 25 ok_am 13.9 3 1 - self,place,kind 0 3 rows_at Page";walk_at "dM 26 26 ok_aJ 13.8 3 3 24F4,23F3,309M25,5F2 self,place,kind,others,rows 8 3 reply_at Page";walk_at "dM 27 27 ok_aQ 13.2 2 1 - self,name 0 3 has Page";walk_at "dM 28 28 ok_aH 13.7 2 3 302M27,2F1 self,name,nearest 3 3 place_of Page";walk_at "dM 29 29 ok_aR 13.6 2 3 24F4,23F3,1F0,309M25 self,cut,down,house,doors 6 3 reply_down Page";walk_at "dM 30 30 ok_aI 13.3 2 2 2F1 self,name,wider 1 3 cut Page";walk_at "dM 31 31 ok_aB 13.5 3 5 308M26,307M28,306M29,303M30 self,name,kind,cut 4 3 reply Page";walk_at "dM 32 32 ok_ax 13.1 2 1 - self,row,name 1 3 lay Page";walk_at "dI 33 33 ok_ao 13.0 2 3 301M32 self,zone,row 1 3 __init__ Page";walk_at "dM 34 34 ok_ay 19.6 2 5 300I33 self,top 1 4 page House";walk_at "dM 35 35 ok_ac 19.8 4 7 305M31,323M34 self,top,name,kind,page 3 4 reply House";walk_at "dM 36 36 ok_aE 19.5 2 2 2F1 self,name,tops 1 4 nearest_top House";walk_at "dM 37 37 ok_at 19.10 3 9 325M35,322M36 self,name,kind,top,told 3 4 nearby House";walk_at "dM 38 38 ok_aC 19.9 4 11 327M37 self,reply,name,kind,others,spoken_of,other,told 3 4 beside House";walk_at "dM 39 39 ok_aL 19.7 4 13 326M38,325M35 self,top,name,kind,reply 2 4 speak House";walk_at "dI 40 40 ok_ad 19.0 2 1 - self,zones 0 4 __init__ House";walk_at "dM 41 41 ok_av 35.9 5 15 324M39,320I40 self,door,T,N,K 2 0 ask World";walk_at "dM 42 42 ok_a0 33.5 4 17 446M23,401M24,369M41 self,door,top,rests,name,kind,told,reply,ground,other 4 2 ask_house Walk";walk_at "dM 43 43 ok_aD 27.7 3 2 85F8 self,down,turn,way 1 1 entrance Memory";walk_at "dM 44 44 ok_aq 35.1 1 1 - self 0 0 root World";walk_at "dM 45 45 ok_a5 33.4 2 19 445M42,80F6,85F8,421M43,361M44,405M21 self,name,handed,found 6 2 look_for_house Walk";walk_at "dM 46 46 ok_a2 33.1 1 21 447M19,442M20,444M45,403M18 self,name,kind,known,reply 6 2 go_on Walk";walk_at "dM 47 47 ok_al 35.2 1 1 - self 0 0 turn World";walk_at "dI 48 48 ok_ap 33.0 5 3 362M47 self,world,memory,name,kind 2 2 __init__ Walk";walk_at "dM 49 49 ok_aT 27.10 2 1 - self,turn,gone,key 0 1 forget Memory";walk_at "dM 50 50 ok_a8 32.1 3 23 441M46,440I48,408M49,362M47 self,N,K,walk,answer 4 5 ask Asker";walk_at "dI 51 51 ok_aN 27.0 1 1 - self 0 1 __init__ Memory";walk_at "dT 52 52 ok_ab 32.0 3 3 400I51 self,world,remembers 1 5 __init__ Asker";walk_at "dM 53 53 ok_aS 19.3 2 1 - self,top 0 4 let_go House";walk_at "dM 54 54 ok_aU 19.1 2 3 334M53 self,zone 1 4 take House";walk_at "dM 55 55 ok_ai 35.6 3 5 333M54,320I40,63F5 self,door,zone 3 0 put World";walk_at "dI 56 56 ok_ag 35.0 2 1 - self,root 0 0 __init__ World";walk_at "dF 57 57 ok_aP 40 3 25 363M12,431M50,430I52,366M55,360I56 ~cut,~life,~rows,~amid,~world,~more,~answer,~waits,~asks 5 - ~passed_over";walk_at "dL 58 58 ok_law 41 1 26 102F11,431M50,430I52,103F57,366M55,360I56,100F9,101F10 ~script,~cut,~mark,~other,~life,~house,~rows,~world,~first,~due,~second,~beneath,~found 8";exact Q58
theorem walk{l:OpenLaw}{q:Program}{loose:List Str}{XP:(Str->Option Value)->Heap->Prop}{YP:World->Heap->Prop}{d:DefRec}{K:Params->Frag}(hn:l.most=some 63)(hdf:d.params.defaults=[])
  (hY:∀(w:World) (h:Heap),YP w h->(K w.params).In h)
  (F:∀(w:World) (mg:Str->Option Value) (fa:Addr) (h:Heap),(K w.params).In h->h.Ns mainGlobals mg->mg d.name=some (.ref fa) ->
   ∃fd:FuncData,(∀(s:Shared) (u:Value),BindsTo s fd ⟨[u],[]⟩ [("_law_script",u)])/\∀base:Heap,(K w.params).In base->base.Ns mainGlobals mg->aS l.prog w (K w.params) mg base eT 26 fa fd ["_law_script"] (di (K w.params) sp_law)) :
  PySem.W.WalkO q loose XP YP l.row.toRowW d [] (λf vs=>PySem.call f vs):=
 L2.walk_of (n:=63) (k:=26) (x:="_law_script") (CX:=λ_=>eT) (sp:=λw=>di (K w.params) sp_law) hn (by decide) hdf ⟨rfl,by decide,by decide⟩ hY F (λ_ _ a ns hl hO hS=>Qcw hl hO hS) λ_ _ _ _ _ z=>z
end My
open PySem PySem.W PyProof.Rows
set_option hygiene false
open Lean in
local macro_rules | `(tactic| walk_at $s:str) => do
 let a:=s.getString.splitOn " "
 if a.head! != "dK" then Macro.throwUnsupported
 let mut ts : Array (TSyntax `tactic):=#[]
 for e in a.tail! do
  let x:=My.mkN "" e
  let t <- match e.toList.head! with
   | 'f' => `(tactic| case $x:ident => (refine' My.fnI ?q1 ?q2 ?q3 ?q4; (case q1 => k_is); (case q2 => k_is); (case q3 => k_is); (case q4 => k_is)))
   | 'm' => `(tactic| case $x:ident => (refine' My.mtI ?q1 ?q2 ?q3 ?q4 ?q5; (case q1 => k_is); (case q2 => k_is); (case q3 => k_is); (case q4 => k_is); (case q5 => k_is)))
   | 'd' => `(tactic| case $x:ident => (refine' My.mtD ?q1 ?q2 ?q3 ?q4 ?q5 ?q6; (case q1 => k_is); (case q2 => k_is); (case q3 => k_is); (case q4 => k_is); (case q5 => k_is); (case q6 => k_is)))
   | 'o' => `(tactic| case $x:ident => (refine ⟨?_, ?_, ?_, ?_, ?_, ?_⟩ <;> k_is))
   | _ => `(tactic| case $x:ident => k_is)
  ts:=ts.push t
 `(tactic| ($[$ts]*))
set_option hygiene true
set_option maxRecDepth 100000 in
set_option maxHeartbeats 0 in
theorem PySem.Challenge.cw_namewell_k76_one_house_two_zones_holds : PySem.Challenge.rw_namewell_k76_one_house_two_zones.Holds := by
 refine TH.pack.2 ?_
 delta TH.pack;dsimp only
 k_fill
 refine My.walk (l:=PySem.Challenge.rw_namewell_k76_one_house_two_zones) rfl rfl (λw h Y=>PySem.W.kIn_of Y) ?F
 case F=>
  intro w mg fa h KX G hmg;refine' My.all_mk KX G hmg ?zo0 ?ob0 ?nf22 ?nf23 ?nf24 ?nf25 ?zo1 ?ob1 ?nf8 ?nf9 ?nf10 ?zo2 ?ob2 ?nf14 ?nf15 ?nf16 ?nf17 ?nf18 ?nf19 ?nf20 ?nf21 ?zo3 ?ob3 ?nf0 ?nf1 ?nf2 ?nf3 ?nf4 ?zo4 ?ob4 ?nf5 ?nf6 ?nf7 ?zo5 ?ob5 ?nf11 ?nf12 ?nf13 ?f0 ?f1 ?f2 ?f3 ?f4 ?f5 ?f6 ?f7 ?f8 ?f9 ?f10 ?f11 ?m12 ?m13 ?m14 ?m15 ?m16 ?m17 ?m18 ?m19 ?m20 ?m21 ?m22 ?m23 ?m24 ?m25 ?m26 ?m27 ?m28 ?m29 ?m30 ?m31 ?m32 ?m33 ?m34 ?m35 ?m36 ?m37 ?m38 ?m39 ?m40 ?m41 ?m42 ?m43 ?m44 ?m45 ?m46 ?m47 ?m48 ?m49 ?m50 ?m51 ?d52 ?m53 ?m54 ?m55 ?m56 ?f57 ?f58 ?z0 ?z1 ?z2 ?z3 ?z4 ?z5 ?z6 ?z7 ?z8 ?g0 ?g1 ?g2 ?g3 ?g4 ?g5 ?g6 ?g7 ?g8 ?g9 ?g10 ?g11 ?g12 ?g13;walk_at "dK zo0 ob0 nf22 nf23 nf24 nf25 zo1 ob1 nf8 nf9 nf10 zo2 ob2 nf14 nf15 nf16 nf17 nf18 nf19 nf20 nf21 zo3 ob3 nf0 nf1 nf2 nf3 nf4 zo4 ob4 nf5 nf6 nf7 zo5 ob5 nf11 nf12 nf13 f0 f1 f2 f3 f4 f5 f6 f7 f8 f9 f10 f11 m12 m13 m14 m15 m16 m17 m18 m19 m20 m21 m22 m23 m24 m25 m26 m27 m28 m29 m30 m31 m32 m33 m34 m35 m36 m37 m38 m39 m40 m41 m42 m43 m44 m45 m46 m47 m48 m49 m50 m51 d52 m53 m54 m55 m56 f57 f58 z0 z1 z2 z3 z4 z5 z6 z7 z8 g0 g1 g2 g3 g4 g5 g6 g7 g8 g9 g10 g11 g12 g13"
