import PyProof.Rows.All
import Wide.All
import OpenK.AllK
import Wide.FinOn
import Lean
import PyProof.EqAt
import PyProof.EqKinds
import PyProof.TupleCall
import PyProof.EnumMake
import PyProof.AttrMissHeap
import KE.KDictOf
import KE.KEqDict
import KE.KSortTup
import PySem.SetOps
import PyProof.SetKind
import PyProof.TupleKey
import PyProof.SetNew
import PyProof.Rows.SetFrom
import KE.KDictSum
import PySem.Challenge.RW_namewell_k47_deep_trees
import PyProof.ExcClass3
import PyProof.InstStoreFacts
import PyProof.ExcBaseAll.ValueError
open List(all_cons all_eq_true all_nil any_cons any_eq_true any_map append_assoc append_nil cons_append drop_eq_getElem_cons drop_eq_nil_of_le drop_left' drop_range' drop_zero filterMap_cons filter_append filter_cons filter_eq_nil_iff filter_map filter_nil find?_cons find?_cons_of_neg find?_cons_of_pos find?_eq_none find?_some getD_eq_getElem?_getD getElem?_append_left getElem?_append_right getElem?_eq_getElem getElem?_map getElem?_range isEmpty_iff length_append length_cons length_drop length_filter_le length_map length_nil length_range length_replicate length_singleton length_take lookup_cons map_append map_congr_left map_cons map_drop map_id map_map map_nil map_take mem_append mem_append_left mem_append_right mem_cons mem_cons_of_mem mem_cons_self mem_filter mem_filterMap mem_flatMap mem_iff_getElem? mem_map mem_of_getElem? mem_of_getLast? mem_of_mem_take mem_range mem_singleton nil_append nodup_append nodup_cons nodup_nil not_mem_nil of_mem_zip range_succ size_toArray take_add_one take_left' take_length take_of_length_le take_take take_zero)
open Nat(add_le_add_left le_of_eq le_of_lt le_of_not_lt le_refl le_succ le_succ_of_le le_total le_trans lt_irrefl lt_of_le_of_lt lt_of_lt_of_le lt_or_ge lt_succ_self lt_trans min_eq_left min_eq_right min_self ne_of_gt ne_of_lt not_lt_zero sub_self sub_zero succ_mul succ_pos zero_le)
open Bool(and_eq_true false_eq_true not_eq_true' or_eq_true)
open PySem.W(Frag OpenLaw callWith_K codeIn findIn fnOf hasDictIn instObj isFn keepIn kia_one kitOne kitx_dict kitx_list kitx_tuple makesIn methodCall_KW methodObj mg_none_of mg_of nsIn plainGet plainGet_of plainOver pyHash_slot)
open PySem.F(args_dict_get_2 args_tuple_add_2 entry_dict_get entry_tuple_add plainAttrs_dict plain_extend_loop slot_dict_get slot_dict_itemiterator_next slot_dict_keyiterator_next slot_list_pop slot_tuple_add type_dict_get type_list_pop)
section
open PySem PySem.Spec PyProof.Rows
theorem Za:type_of%(@wpAny_bind):=@wpAny_bind
theorem Zb:type_of%(@wpAny_pure):=@wpAny_pure
theorem Zc:type_of%(@if_neg):=@if_neg
theorem Zd:type_of%(@length_map):=@length_map
theorem Ze:type_of%(@if_pos):=@if_pos
theorem Zf:type_of%(@Heap.get?_push_of_some):=@Heap.get?_push_of_some
theorem Zg:type_of%(@decide_eq_true_eq):=@decide_eq_true_eq
theorem Zh:type_of%(@and_eq_true):=@and_eq_true
theorem Zi:type_of%(@length_append):=@length_append
theorem Zj:type_of%(@length_cons):=@length_cons
theorem Zk:type_of%(@List.getElem?_eq_some_iff):=@List.getElem?_eq_some_iff
theorem Zl:type_of%(@mem_cons_self):=@mem_cons_self
theorem Zm:type_of%(@decide_eq_true):=@decide_eq_true
theorem Zo:type_of%(@le_refl):=@le_refl
theorem Zp:type_of%(@Heap.lt_size):=@Heap.lt_size
theorem Zq:type_of%(@mem_cons_of_mem):=@mem_cons_of_mem
theorem Zr:type_of%(@decide_eq_false):=@decide_eq_false
theorem Zs:type_of%(@Bool.false_ne_true):=@Bool.false_ne_true
theorem Zt:type_of%(@getElem?_eq_getElem):=@getElem?_eq_getElem
theorem Zu:type_of%(@Heap.get?_push_size):=@Heap.get?_push_size
theorem Zv:type_of%(@of_decide_eq_true):=@of_decide_eq_true
theorem Zw:type_of%(@mem_append_right):=@mem_append_right
theorem Zx:type_of%(@Int.toNat_natCast):=@Int.toNat_natCast
theorem Zy:type_of%(@map_cons):=@map_cons
theorem Zz:type_of%(@mem_singleton):=@mem_singleton
theorem Z0:type_of%(@beq_iff_eq):=@beq_iff_eq
theorem Z1:type_of%(@length_take):=@length_take
theorem Z2:type_of%(@size_toArray):=@size_toArray
theorem Z3:type_of%(@mem_cons):=@mem_cons
theorem Z4:type_of%(@le_trans):=@le_trans
theorem Z5:type_of%(@getElem?_map):=@getElem?_map
theorem Z6:type_of%(@Option.some.inj):=@Option.some.inj
theorem Z7:type_of%(@map_append):=@map_append
theorem Z8:type_of%(@lt_of_lt_of_le):=@lt_of_lt_of_le
theorem Z9:type_of%(@Option.bind_eq_some_iff):=@Option.bind_eq_some_iff
theorem ZA:type_of%(@Option.map_eq_some_iff):=@Option.map_eq_some_iff
theorem ZB:type_of%(@zero_le):=@zero_le
theorem ZC:type_of%(@lt_of_le_of_lt):=@lt_of_le_of_lt
theorem ZD:type_of%(@length_range):=@length_range
theorem ZE:type_of%(@Array.length_toList):=@Array.length_toList
theorem ZF:type_of%(@le_succ_of_le):=@le_succ_of_le
theorem ZG:type_of%(@mem_of_getElem?):=@mem_of_getElem?
theorem ZH:type_of%(@length_singleton):=@length_singleton
theorem ZI:type_of%(@mem_map):=@mem_map
theorem ZJ:type_of%(@ne_of_lt):=@ne_of_lt
theorem ZK:type_of%(@false_eq_true):=@false_eq_true
theorem ZL:type_of%(@sizeLine_eq):=@sizeLine_eq
theorem ZM:type_of%(@all_eq_true):=@all_eq_true
theorem ZN:type_of%(@mem_filter):=@mem_filter
theorem ZO:type_of%(@mem_append):=@mem_append
theorem ZP:type_of%(@wpAny_call_entry):=@wpAny_call_entry
theorem ZQ:type_of%(@Paired.length):=@Paired.length
theorem ZR:type_of%(@not_mem_nil):=@not_mem_nil
theorem ZS:type_of%(@lookup_cons):=@lookup_cons
theorem ZT:type_of%(@filter_cons):=@filter_cons
theorem ZU:type_of%(@length_nil):=@length_nil
theorem ZV:type_of%(@wpAny_newObj_type):=@wpAny_newObj_type
theorem ZW:type_of%(@wpAny_holding):=@wpAny_holding
theorem ZX:type_of%(@Option.map_some):=@Option.map_some
theorem ZY:type_of%(@filter_append):=@filter_append
theorem ZZ:type_of%(@mem_range):=@mem_range
theorem Yb:type_of%(@Option.isSome_map):=@Option.isSome_map
theorem Yc:type_of%(@take_length):=@take_length
theorem Yd:type_of%(@if_false):=@if_false
theorem Ye:type_of%(@all_cons):=@all_cons
theorem Yg:type_of%(@add_le_add_left):=@add_le_add_left
theorem Yh:type_of%(@append_nil):=@append_nil
theorem Yi:type_of%(@wpAny_truthy_bool):=@wpAny_truthy_bool
theorem Yj:type_of%(@True.intro):=@True.intro
theorem Yk:type_of%(@beq_eq_false_iff_ne):=@beq_eq_false_iff_ne
theorem Yl:type_of%(@PyProof.Rows.slot_tuple_getitem):=@PyProof.Rows.slot_tuple_getitem
theorem Ym:type_of%(@getElem?_append_right):=@getElem?_append_right
theorem Yn:type_of%(@length_filter_le):=@length_filter_le
theorem Yo:type_of%(@lt_succ_self):=@lt_succ_self
theorem Yp:type_of%(@Option.isSome_iff_exists):=@Option.isSome_iff_exists
theorem Yq:type_of%(@le_succ):=@le_succ
theorem Yr:type_of%(@drop_eq_nil_of_le):=@drop_eq_nil_of_le
theorem Ys:type_of%(@take_of_length_le):=@take_of_length_le
theorem Yt:type_of%(@wpAny_mono):=@wpAny_mono
theorem Yu:type_of%(@find?_cons):=@find?_cons
theorem Yv:type_of%(@Heap.SameBut.update):=@Heap.SameBut.update
theorem Yw:type_of%(@if_true):=@if_true
theorem Yx:type_of%(@wpAny_dictEntries):=@wpAny_dictEntries
theorem Yy:type_of%(@drop_eq_getElem_cons):=@drop_eq_getElem_cons
end
set_option hygiene false in
local macro_rules | `(tactic| walk_at "q0") => `(tactic| (
 refine ix_tup (by decide) (by simp only[Zj,ZU];omega) fun d0 hd0=>?_
 cases hd0))
set_option Elab.async false
set_option linter.all false
set_option compiler.extract_closed false
set_option maxRecDepth 100000
namespace TH
open PySem PySem.W
noncomputable def topT(p:Program)(w:World)(m:Nat)(ann:Option Value):Nat->SharedT->Thread->Option SharedT
 | 0,_,_=>none
 | n+1,s,t =>
  match through t with
  | true=>some s
  | false =>
   match stepOk m ann t with
   | false=>none
   | true =>
    match stepT (denote treeTable) p w s t with
    | none=>none
    | some (s',t')=>topT p w m ann n s' t'
theorem Q6e{p:Program}{w:World}{m:Nat}{ann:Option Value}:∀ {n:Nat} {s r:SharedT} {t:Thread},
  topT p w m ann n s t=some r->topRun treeTable p w m ann n s.abs t=some r.abs
 | 0,_,_,_,h=>by cases h
 | n+1,s,r,t,h=>by
  unfold topT at h;unfold topRun;cases ht:through t with
  | true=>rw[ht]at h;cases h;rfl
  | false =>
   rw[ht]at h;cases hk:stepOk m ann t with
   | false=>rw[hk]at h;cases h
   | true =>
    rw[hk]at h;cases hs:stepT (denote treeTable) p w s t with
    | none=>rw[hs]at h;cases h
    | some x =>
     obtain⟨s₂,t₂⟩:=x;rw[hs]at h;rw[stepT_spec hs];exact Q6e h
noncomputable def treeL(l:List Obj):Nat->Nat->Nat->BT
 | 0,_,_=>.nil
 | f+1,a,b =>
  match l[b]? with
  | some o=>.node o (treeL l f (2 * a) (a+b)) (treeL l f (2 * a) (2 * a+b))
  | none=>.nil
noncomputable def bootT(P:Params):BT:=treeL (boot_heap P).objs.toList 5 1 0
theorem Q6f(P:Params):absHeap (bootT P) 11 (boot_heap P).life=boot_heap P:=by kernel_rfl
theorem Q6g(P:Params):((boot_heap P).isNs mainGlobals,(boot_heap P).objs.size,(boot_heap P).nsMap mainGlobals "__annotations__")=(true,11,some (.ref 6)):=by kernel_rfl
noncomputable def beginT(w:World)(os:OsState):SharedT:=⟨bootT w.params,11,(boot_heap w.params).life,Array.mk [],boot_drawn,boot_toks,os⟩
noncomputable def runT(p:Program)(N:Nat)(w:World)(os:OsState):Option SharedT:=topT p w 11 (some (.ref 6)) N (beginT w os) (topStub p)
theorem Qa0{p q:Program}{loose:List Str}{Xt:Shared->Bool}{α:Type}{Yf:Shared->α}{Ya:World->α}{N:Nat}{g0:Bool}
  (e:opening p=plainProg p.main.scope.names) (hN:Nat.ble 600 N=true) (f:∀ s,fenceModules? p s=some s)
  (c1:∀ (w:World) (os:OsState),(runT p N w os).map (fun s=>staticsOk (importedModules p.main.body) (boot_heap w.params) s.abs.heap&&namesBound p s.abs.heap&&gensDone s.abs&&laidKept (boot_heap w.params) s.abs.heap)=some true)
  (c2:∀ (w:World) (os:OsState),(runT p N w os).map (fun s=>openSeen q loose (importedModules p.main.body) Xt g0 s.abs)=some (openGood q loose))
  (c3:∀ (w:World) (os:OsState),(runT p N w os).map (fun s=>Yf s.abs)=some (Ya w)):LeftO p q loose Xt Yf Ya N g0:=fun w=>by
 obtain⟨⟨h,gs,d,k,os⟩,e1,e2⟩:=ZA.mp (boot_open e hN f w);obtain⟨rfl,rfl,rfl,rfl⟩:h=boot_heap w.params/\gs=Array.mk []/\d=boot_drawn/\k=boot_toks:=by simpa using e2
 obtain⟨r,r1,l1⟩:=ZA.mp (c1 w os);have l2:=c2 w os;have l3:=c3 w os;rw[r1]at l2 l3
 replace l2:=Z6 l2
 replace l3:=Z6 l3
 obtain⟨z1,z2,z3⟩:_/\_/\_:=by simpa only [Prod.mk.injEq]using Q6g w.params
 have t0:=Q6e r1;have ab:(beginT w os).abs=⟨boot_heap w.params,Array.mk [],boot_drawn,boot_toks,os⟩:=by
  show Shared.mk (absHeap (bootT w.params) 11 (boot_heap w.params).life) _ _ _ _=_;rw[Q6f];rfl
 rw[ab]at t0;have t:topFrom treeTable p w N ⟨boot_heap w.params,Array.mk [],boot_drawn,boot_toks,os⟩=some r.abs:=by
  unfold topFrom;dsimp only;rw[z1,z2,z3,t0];show (match staticsOk (importedModules p.main.body) (boot_heap w.params) r.abs.heap&&namesBound p r.abs.heap&&gensDone r.abs&&laidKept (boot_heap w.params) r.abs.heap with | true=>_ | false=>_)=_
  rw[l1]
 unfold openEnds;rw[e1];show Option.map _ (topFrom treeTable p w N _)=_;rw[t];refine congrArg some ?_;exact Prod.ext l2 l3
end TH
namespace TH
open PySem PySem.W PyProof.Rows
noncomputable abbrev pp:Program:=PySem.Challenge.pw_namewell_k47_deep_trees
noncomputable def qq:Program:=view pp ((List.range 37).filter fun i=>!([1,8,16,20,29].contains i))
noncomputable abbrev ll:List Str:=[]
noncomputable def xt(s:Shared):Bool:=xlAt qq [] s&&recOk (RowW.records (OpenRow.toRowW (OpenLaw.row PySem.Challenge.rw_namewell_k47_deep_trees))) s
theorem p9{A1 A2 A3 A4 A5 A6 A7 A8 A9:Type}{a a':A1}{b b':A2}{c c':A3}{d d':A4}{e e':A5}{f f':A6}{g g':A7}{h h':A8}{i i':A9}(q1:a=a')(q2:(b,c)=(b',c'))(q3:(d,e,f)=(d',e',f'))(q4:(g,h,i)=(g',h',i')):(a,b,c,d,e,f,g,h,i)=(a',b',c',d',e',f',g',h',i'):=by cases q1;cases q2;cases q3;cases q4;rfl
theorem l2a(w:World)(os:OsState):(runT pp 4616 w os).map (fun s=>seen ((recsOf qq).map (·.name)) (ownsOf qq) [] { s.abs with gens:=#[] })=some (expectedOf qq):=by kernel_rfl
theorem l2b(w:World)(os:OsState):(runT pp 4616 w os).map (fun s=>(s.abs.heap.bltView,(s.abs.heap.keysOk (looseW qq ll) ((recsOf qq).map (·.name)) ((litsOf qq).map (·.1)) ((clssOf qq (looseW qq ll)).map (·.name))&&s.abs.heap.accountedOkI (importedModules pp.main.body)&&s.abs.heap.isNs mainGlobals&&s.abs.heap.isNs builtinsNs&&tablesOk qq s.abs.heap&&xt s.abs&&(if true then s.abs.gens.size==0 else !leftWithCleanup s.abs.gens))))=some (bltViewBooted,true):=by kernel_rfl
theorem l2c(w:World)(os:OsState):(runT pp 4616 w os).map (fun s=>(tabsOk qq s.abs,pinSeenD qq (drecsOf qq) s.abs,plainSeenE qq (looseW qq ll) s.abs))=some (true,pinGoodD (drecsOf qq),plainGoodE qq (looseW qq ll)):=by kernel_rfl
theorem l2d(w:World)(os:OsState):(runT pp 4616 w os).map (fun s=>(plainSeenD qq ll s.abs,wideSeen qq s.abs,clsSeenW qq ll s.abs))=some (plainGoodD qq ll,wideGood qq,clsGoodW qq ll):=by kernel_rfl
theorem left2(w:World)(os:OsState):(runT pp 4616 w os).map (fun s=>openSeen qq ll (importedModules pp.main.body) xt true s.abs)=some (openGood qq ll):=by
 have a:=l2a w os;have b:=l2b w os;have c:=l2c w os;have d:=l2d w os
 revert a b c d
 generalize runT pp 4616 w os=r;intro a b c d;cases r with
 | none=>cases a
 | some r=>exact congrArg some (p9 (Z6 a) (Z6 b) (Z6 c) (Z6 d))
theorem left1(w:World)(os:OsState):(runT pp 4616 w os).map (fun s=>staticsOk (importedModules pp.main.body) (boot_heap w.params) s.abs.heap&&namesBound pp s.abs.heap&&gensDone s.abs&&laidKept (boot_heap w.params) s.abs.heap)=some true:=by kernel_rfl
local macro_rules | `(tactic| o_head $H) => `(tactic| (
 refine holds_open (r:=OpenLaw.row PySem.Challenge.rw_namewell_k47_deep_trees) (q:=qq) (loose:=ll) (N:=4616) (Xt:=xt) (XP:=XL qq [])
  (Ya := Hook.val $H) (Yf := Hook.obs $H) (YP := Hook.says $H) ?hl (Hook.of $H) (Hook.keeps $H)
  (fun s e=>xl_of s (Bool.and_eq_true_iff.mp e).1) XL.keeps (by rfl) (by rfl) (by rfl) (fun s e=>recFacts_of (Bool.and_eq_true_iff.mp e).2)
  (by rfl) (by assumption) (by decide +kernel) ⟨rfl,rfl,rfl,rfl,rfl,by decide +kernel⟩ ?hw ?hc
 (case hl=>exact Qa0 (by kernel_rfl) (by rfl) (fun s=>by kernel_rfl) left1 left2 (fun w os=>by kernel_rfl))))
set_option maxHeartbeats 0 in
theorem said0:OpenLaw.wellSaid PySem.Challenge.rw_namewell_k47_deep_trees=true:=by kernel_rfl
set_option maxHeartbeats 0 in
noncomputable def pack:{ A:Prop // A->PySem.Challenge.rw_namewell_k47_deep_trees.Holds }:=by
 refine⟨?_,?_⟩;rotate_left
 ·intro hA;w_on;refine holds_law said0 fun said=>?_;k_head;(case hw=>w_witness2);exact hA
end TH
namespace NK
open PySem PySem.Spec
section
variable{K:Type}[DecidableEq K]{prog:Program}{w:World}
noncomputable abbrev Key3(K:Type):=K×List K×List K
noncomputable def zaL(kd:KeyKind prog w K)(h:Heap):K ⊕ List K->Value->Prop
 | .inl k,v=>kd.is k v=true
 | .inr ks,v=>∃ b,v=.ref b/\IsTupleKey kd h ks b
inductive PartsOk(kd:KeyKind prog w K)(h:Heap):List (K ⊕ List K)->List Value->Prop
 | nil:PartsOk kd h [] []
 | cons {p:K ⊕ List K} {v:Value} {ps:List (K ⊕ List K)} {vs:List Value}:zaL kd h p v->PartsOk kd h ps vs->PartsOk kd h (p::ps) (v::vs)
noncomputable def zap(kd:KeyKind prog w K)(h:Heap)(ps:List (K ⊕ List K))(a:Addr):Prop :=
 ∃ o xs n,h.get? a=some o/\o.cls=.type "tuple" /\ o.data=.seq xs n/\PartsOk kd h ps xs.toList
inductive zaF:List (K ⊕ List K)->List (K ⊕ List K)->Prop
 | nilL {q}:zaF [] q
 | nilR {p}:zaF p []
 | l {a b:K} {p q}:zaF p q->zaF (.inl a::p) (.inl b::q)
 | r {a b:List K} {p q}:zaF p q->zaF (.inr a::p) (.inr b::q)
noncomputable def zbQ(kd:KeyKind prog w K):K ⊕ List K->Int
 | .inl k=>kd.hash k
 | .inr ks=>tupleKeyHash kd ks
noncomputable def zbz:K ⊕ List K->Nat
 | .inl _=>1
 | .inr ks=>ks.length+1
noncomputable def pSum(ps:List (K ⊕ List K)):Nat:=(ps.map zbz).foldr (· + ·) 0
variable{kd:KeyKind prog w K}
theorem Q6h(ps:List (K ⊕ List K))(p:K ⊕ List K):pSum (ps++[p])=pSum ps+zbz p:=by
 induction ps with
 | nil=>simp[pSum]
 | cons q r ih=>simp only[pSum,cons_append,Zy,List.foldr_cons]at ih ⊢;omega
theorem Q7Y(x:zaL kd h p v)(y:zaL kd h q v):p=q:=by
 cases p with
 | inl a =>
  cases q with
  | inl b=>exact congrArg Sum.inl (kd.inj _ _ _ x y)
  | inr b =>
   obtain⟨c,rfl,_⟩:=y;have:=kd.byValue _ _ x;simp[carriedByValue]at this
 | inr a =>
  obtain⟨c,rfl,z⟩:=x;cases q with
  | inl b =>
   have:=kd.byValue _ _ y;simp[carriedByValue]at this
  | inr b =>
   obtain⟨c',e,z'⟩:=y;cases e;exact congrArg Sum.inr (z.inj z')
theorem Q6i(x:PartsOk kd h p vs)(y:PartsOk kd h q vs):p=q:=by
 induction x generalizing q with
 | nil=>cases y;rfl
 | cons a _ ih =>
  cases y with
  | cons b c=>rw[Q7Y a b,ih c]
theorem Q4H(x:zap kd h p a)(y:zap kd h q a):p=q:=by
 obtain⟨o,xs,n,h1,_,h2,h3⟩:=x;obtain⟨o',xs',n',g1,_,g2,g3⟩:=y;have e:o=o':=Z6 (h1.symm.trans g1);subst e;rw[h2]at g2;injection g2 with e1 _;subst e1;exact Q6i h3 g3
theorem Q5D{es ep}(ho:h.get? d=some o)(hd:o.data=.dict es ep)(hs:Heap.SameBut d h h')(x:zaL kd h p v):zaL kd h' p v:=by
 cases p with
 | inl a=>exact x
 | inr a=>obtain⟨c,rfl,z⟩:=x;exact⟨c,rfl,z.keeps ho hd hs⟩
theorem Q4i{es ep}(ho:h.get? d=some o)(hd:o.data=.dict es ep)(hs:Heap.SameBut d h h')(x:PartsOk kd h p vs):PartsOk kd h' p vs:=by
 induction x with
 | nil=>exact .nil
 | cons a _ ih=>exact .cons (Q5D ho hd hs a) ih
theorem Q5E{es ep}(ho:h.get? d=some o)(hd:o.data=.dict es ep)(hs:Heap.SameBut d h h')(x:zap kd h p a):zap kd h' p a:=by
 obtain⟨o',xs,n,h1,hc,h2,h3⟩:=x;have ne:a≠d:=by
  rintro rfl;have e:o'=o:=Z6 (h1.symm.trans ho);subst e;rw[hd]at h2;exact nomatch h2
 exact⟨o',xs,n,(hs.2 a ne).trans h1,hc,h2,Q4i ho hd hs h3⟩
theorem Q1u{s:Shared}{p:List (K ⊕ List K)}{a:Addr}(x:zap kd s.heap p a):s.TypeIs (.ref a) "tuple":=let ⟨o,_,_,h1,hc,_⟩:=x;⟨o,h1,hc⟩
variable{A:Around}{E:Value->Shared->Prop}
noncomputable def nHash(kd:KeyKind prog w K)(ps:List (K ⊕ List K)):Int:=reduceHash (Builtin.Tuple.tupleHashOf (ps.map (zbQ kd)))
section walks
variable{s:Shared}{a:Addr}{ob:Obj}{xs:Array Value}{n:Nat}
theorem Q1W{Q:Bool->Shared->Prop}(ho:s.heap.get? a=some ob)(hc:ob.cls=.type "tuple")(hd:ob.data=.seq xs n)
  (each:∀ v∈xs.toList,∀ Z:Bool->Shared->Prop,Z true s->wpAny (model prog w) A (eqIsQuiet m v) Z E s) (h:Q true s):wpAny (model prog w) A (eqIsQuiet (m+1) (.ref a)) Q E s:=by
 have ty:s.TypeIs (.ref a) "tuple":=⟨ob,ho,hc⟩;unfold eqIsQuiet;refine Za (wpAny_specialOf ty F.slot_tuple_eq.lookup (Za (wpAny_isInstance ty isSubtype_tuple_tuple (Za (wpAny_seqItems ho hd (Za ?_))))));show wpAny _ _ (forIn xs _ _) _ _ s;rw[<- Array.forIn_toList];refine wpAny_forIn_list _ (fun rest r s'=>r.1=none/\s'=s/\rest ⊆ xs.toList) _ (fun v rest r s'=>?_) (fun r s'=>?_) _ _ ⟨rfl,rfl,List.Subset.refl _⟩
 ·rintro⟨_,rfl,sub⟩;exact Za (each v (sub Zl) _ (Zb ⟨rfl,rfl,fun u hu=>sub (Zq _ hu)⟩))
 ·obtain⟨r1,r2⟩:=r;rintro⟨hr,rfl,_⟩;cases hr;exact Zb h
theorem Q5F{Q:Int->Shared->Prop}(h:Q (reduceHash z) s):wpAny (model prog w) A (pyHashByItsType.reduced z) Q E s:=by
 unfold pyHashByItsType.reduced;unfold reduceHash at h;split
 ·rename_i c;rw[Ze c]at h;exact Zb h
 ·rename_i c;rw[Zc c]at h;refine Za (wpAny_rule ?_);exact Zb h
theorem Q5G{Q:Int->Shared->Prop}(hu:A.units+1<cLine)(ho:s.heap.get? a=some ob)(hc:ob.cls=.type "tuple")(hd:ob.data=.seq xs n)(hl:PartsOk kd s.heap ps xs.toList)
  (each:∀ (p:K ⊕ List K) (v:Value) (A':Around) (E':Value->Shared->Prop) (k:Nat) (Z:Int->Shared->Prop),A'.units<=A.units+1->zaL kd s.heap p v->Z (zbQ kd p) { s with toks:=s.toks+k+zbz p } ->
   wpAny (model prog w) A' (pyHash v) Z E' { s with toks:=s.toks+k })
  (h:Q (nHash kd ps) { s with toks:=s.toks+(pSum ps+1) }):wpAny (model prog w) A (pyHash (.ref a)) Q E s:=by
 have ty:s.TypeIs (.ref a) "tuple":=⟨ob,ho,hc⟩;unfold pyHash pyHashByItsType;refine Za (wpAny_cRoomFor_or (.inr (by omega)) (Za (wpAny_specialOf ty F.slot_tuple_hash.lookup ?_)))
 refine Eq.mpr (congrArg (fun x=>wpAny (model prog w) A x Q E s) (Zc (by rw[beq_builtin_none];decide))) ?_
 refine Za (wpAny_specialOf ty F.slot_tuple_hash.lookup (Za (wpAny_callSpecialIfBoundUnlessNone?_slot ty F.slot_tuple_hash (ZP F.slot_tuple_hash ty F.entry_tuple_hash ?tree (F.args_tuple_hash_1 _)))));refine (show wpAny (model prog w) A.in1 (Builtin.Tuple.tupleItemsOf (.ref a) >>= _) _ _ s from Za (wpAny_tupleItemsOf ho hd (Za ?_)));rw[<- Array.forIn_toList];refine wpAny_forIn_list _ (fun rest (b:Array Int) s'=>∃ pre post,ps=pre++post/\PartsOk kd s.heap post rest/\b.toList=pre.map (zbQ kd)/\s'={ s with toks:=s.toks+pSum pre }) _ (fun v rest b s' z=>?_) (fun b s' z=>?_) _ _ ⟨[],ps,rfl,hl,rfl,rfl⟩
 ·obtain⟨pre,post,rfl,hp,hb,rfl⟩:=z;cases hp with
  | @cons p _ ps' _ g1 g2 =>
   refine Za (each p v _ _ (pSum pre) _ (Zo _) g1 ?_);have nxt:∃ pre' post',pre++p::ps'=pre'++post'/\PartsOk kd s.heap post' rest/\(b.push (zbQ kd p)).toList=pre'.map (zbQ kd)/\({ s with toks:=s.toks+pSum pre+zbz p }:Shared)={ s with toks:=s.toks+pSum pre' } :=
    ⟨pre++[p],ps',by simp,g2,by simp[hb],by rw[Q6h,Nat.add_assoc]⟩
   first
    | exact Zb nxt
    | exact Za (Zb (Zb nxt))
 ·obtain⟨pre,post,rfl,hp,hb,rfl⟩:=z;cases hp;rw[Yh]at h;dsimp only;rw[hb];exact wpAny_ret_mkInt (Q5F (by rw[Nat.add_assoc];exact h))
end walks
theorem Q6j{Q:Int->Shared->Prop}(hu:A.units+1<cLine)(hk:zap kd s.heap ps a)(h:Q (nHash kd ps) { s with toks:=s.toks+(pSum ps+1) }):wpAny (model prog w) A (pyHash (.ref a)) Q E s:=by
 obtain⟨o,xs,n,ho,hc,hd,hi⟩:=hk;refine Q5G hu ho hc hd hi (fun p v A' E' k Z hA hp hz=>?_) h;cases p with
 | inl b=>exact kd.pyHash hp hz
 | inr b=>obtain⟨c,rfl,z⟩:=hp;exact wpAny_pyHash_tuple (by omega) z hz
theorem Q5H{Q:Bool->Shared->Prop}(hk:zap kd s.heap ps a)(h:Q true s):wpAny (model prog w) A (eqIsQuiet (m+2) (.ref a)) Q E s:=by
 obtain⟨o,xs,n,ho,hc,hd,hi⟩:=hk;have val:∀ (j:Nat) (v:Value) (Z:Bool->Shared->Prop),carriedByValue v=true->Z true s->wpAny (model prog w) A (eqIsQuiet j v) Z E s:=fun j v Z hv hz=>by rw[eqIsQuiet_byValue _ hv];exact Zb hz
 refine Q1W ho hc hd (fun v hv Z hz=>?_) h;clear ho hd h;generalize xs.toList=l at hi hv
 induction hi with
 | nil=>cases hv
 | @cons p u _ _ g1 g2 ih =>
  rcases Z3.mp hv with e | e
  ·subst e;cases p with
   | inl b=>exact val _ _ _ (kd.byValue _ _ g1) hz
   | inr b =>
    obtain⟨c,rfl,o',ys,n',h1,h2,h3,h4⟩:=g1;exact Q1W h1 h2 h3 (fun x hx Y hy=>val _ _ _ (h4.byValue x hx) hy) hz
  ·exact ih e
theorem Qa1{Q:Bool->Shared->Prop}(hu:A.units<cLine)(hp:zaL kd s.heap p u)(hq:zaL kd s.heap q v)(al:zaF [p] [q])(h:Q (decide (p=q)) s):wpAny (model prog w) A (eqBool u v) Q E s:=by
 cases al with
 | l _=>exact kd.eqBool hp hq (by simpa using h)
 | r _ =>
  obtain⟨b,rfl,z⟩:=hp;obtain⟨c,rfl,z'⟩:=hq;exact wpAny_eqBool_tuple hu z z' (by simpa using h)
theorem Q3o(x:PartsOk kd h ps vs):ps.length=vs.length:=by
 induction x with
 | nil=>rfl
 | cons _ _ hi=>simp only[Zj,hi]
theorem Qa2{s:Shared}{x y:List (K ⊕ List K)}{a b:Addr}{P:Fin->Shared->Prop}(hu:A.units<cLine)(al:zaF x y)(hx:zap kd s.heap x a)(hy:zap kd s.heap y b)(h:P (.done (.ret (.bool (decide (x=y))))) s) :
  wpAny (model prog w) A (Builtin.«tuple.__eq__» { pos:=[.ref a,.ref b],kw:=[] }) P E s:=by
 have tb:=Q1u hy;obtain⟨o1,xs,n1,g1,-,g2,px⟩:=hx;obtain⟨o2,ys,n2,k1,-,k2,py⟩:=hy;refine (show wpAny (model prog w) A (isInstance (Value.ref b) (Value.type "tuple") >>= _) P E s from Za (wpAny_isInstance tb isSubtype_tuple_tuple (Za (wpAny_tupleItemsOf g1 g2 (Za (wpAny_tupleItemsOf k1 k2 (Za ?_)))))));have lx:=Q3o px;have ly:=Q3o py;refine wpAny_forIn_list _ (fun rest r s'=>r.1=none/\s'=s/\∃ c x2 y2 us vs,x=c++x2/\y=c++y2/\zaF x2 y2/\PartsOk kd s.heap x2 us/\PartsOk kd s.heap y2 vs/\rest=List.zip us vs) _ (fun uv rest r s' z=>?_) (fun r s' z=>?_) _ _
  ⟨rfl,rfl,[],x,y,_,_,rfl,rfl,al,px,py,rfl⟩
 ·obtain⟨_,rfl,c,x2,y2,us,vs,ex,ey,al2,p2,q2,ez⟩:=z;cases p2 with
  | nil=>cases ez
  | @cons p u x3 us' h1 p3 =>
   cases q2 with
   | nil=>cases ez
   | @cons q v y3 vs' h2 q3 =>
    rw[List.zip_cons_cons]at ez;injection ez with e1 e2;subst e1 e2;have both:zaF [p] [q]/\zaF x3 y3:=by
     cases al2 with
     | l z=>exact⟨.l .nilL,z⟩
     | r z=>exact⟨.r .nilL,z⟩
    refine Za (Qa1 hu h1 h2 both.1 ?_);by_cases e:p=q
    ·subst e;rw[Zm rfl];exact Zb ⟨rfl,rfl,c++[p],x3,y3,us',vs',by rw[ex];simp,by rw[ey];simp,both.2,p3,q3,rfl⟩
    ·rw[Zr e];have ne:¬ x=y:=by
      rw[ex,ey];intro z;have:=List.append_cancel_left z;injection this with z1 _;exact e z1
     rw[Zr ne]at h;refine Za (Zb ?_);refine Zb (Zb h)
 ·obtain⟨rn,rfl,c,x2,y2,us,vs,ex,ey,-,p2,q2,ez⟩:=z;obtain⟨r1,r2⟩:=r;cases rn;have sz:(xs.size==ys.size)=decide (x=y):=by
   have a1:xs.size=c.length+x2.length:=by rw[<- ZE,<- lx,ex,Zi]
   have a2:ys.size=c.length+y2.length:=by rw[<- ZE,<- ly,ey,Zi]
   cases p2 with
   | nil =>
    cases q2 with
    | nil=>rw[ex,ey,a1,a2];simp
    | cons _ _ =>
     rw[a1,a2,ex,ey];simp
   | cons _ _ =>
    cases q2 with
    | nil =>
     rw[a1,a2,ex,ey];simp
    | cons _ _=>cases ez
  refine Zb ?_;have fin:P (Fin.done (Flow.ret (Value.bool (xs.size==ys.size)))) s':=by rw[sz];exact h
  exact fin
theorem Qa3{s:Shared}{x y:List (K ⊕ List K)}{a b:Addr}{Q:Bool->Shared->Prop}(hu:A.units+1<cLine)(al:zaF x y)(hx:zap kd s.heap x a)(hy:zap kd s.heap y b)(h:Q (decide (x=y)) s):wpAny (model prog w) A (eqBool (.ref a) (.ref b)) Q E s:=by
 unfold eqBool
 try with_reducible refine ZW ?_
 dsimp only;split
 ·rename_i c;have e:a=b:=Value.ref.inj (eq_of_beq c);subst e;have e2:=Q4H hx hy;subst e2;rw[Zm rfl]at h;refine Za (wpAny_rule ?_);exact Zb h
 ·have tree:=fun P hP=>Qa2 (P:=P) (E:=E) (A:=A.in1) (s:=s) hu al hx hy hP;refine Za ?_;refine wpAny_richCompare_same_room (op:=.Eq) (Q1u hx) (Q1u hy) F.slot_tuple_eq (ZP F.slot_tuple_eq (Q1u hx) F.entry_tuple_eq ?_ (F.args_tuple_eq_2 _ _)) (by omega)
  exact tree _ ⟨_,rfl,(fun e=>nomatch e),Yi h⟩
noncomputable def zay(k:Key3 K):List (K ⊕ List K):=.inr k.2.1::.inl k.1::k.2.2.map .inl
theorem Q6k:∀ {a b:List K},a.map (Sum.inl (β:=List K))=b.map Sum.inl->a=b
 | [],[],_=>rfl
 | [],_::_,e=>nomatch e
 | _::_,[],e=>nomatch e
 | x::a,y::b,e=>by
  simp only[Zy,List.cons.injEq,Sum.inl.injEq]at e;rw[e.1,Q6k e.2]
theorem Q2v{a b:Key3 K}(e:zay a=zay b):a=b:=by
 obtain⟨a1,a2,a3⟩:=a;obtain⟨b1,b2,b3⟩:=b;simp only[zay,List.cons.injEq,Sum.inl.injEq,Sum.inr.injEq]at e;obtain⟨rfl,rfl,e⟩:=e;rw[Q6k e]
theorem Q3p:∀ (a b:List K),zaF (a.map (Sum.inl (β:=List K))) (b.map Sum.inl)
 | [],_=>.nilL
 | _::_,[]=>.nilR
 | _::a,_::b=>.l (Q3p a b)
theorem alike3(a b:Key3 K):zaF (zay a) (zay b):=.r (.l (Q3p _ _))
end
noncomputable def nestKind{prog:Program}{w:World}{K:Type}[DecidableEq K](kd:KeyKind prog w K):HeapKind prog w (Key3 K) where
 is:=fun h k a=>zap kd h (zay k) a
 hash:=fun k=>nHash kd (zay k)
 draws:=fun k=>pSum (zay k)+1
 room:=fun A=>A.units+1<cLine
 inj:=fun hx hy=>Q2v (Q4H hx hy)
 keeps:=fun x ho hd hs=>Q5E ho hd hs x
 pyHash:=fun hu hk h=>Q6j hu hk h
 eqBool:=fun{A E s x y a b Q} hu hx hy h=>Qa3 hu (alike3 x y) hx hy (by
  have e:decide (zay x=zay y)=decide (x=y):=by
   by_cases q:x=y
   ·subst q;simp
   ·rw[Zr q,Zr (fun z=>q (Q2v z))]
  rw[e];exact h)
 quiet:=fun hk h=>Q5H hk h
end NK
namespace L2
open PySem PySem.Spec PyProof.Rows
noncomputable abbrev Key:=Sum Int Str
noncomputable def zbD:Key->Value->Bool
 | .inl k,v=>Value.isInt k v
 | .inr x,v=>Value.isStrOf x v
noncomputable def keyH(w:World):Key->Int
 | .inl k=>hashInt k
 | .inr x=>hashStr w x
theorem Q0l:∀ {k:Key} {v:Value},zbD k v=true->(∃ i t,k=Sum.inl i/\v=Value.int i t)\/(∃ x t,k=Sum.inr x/\v=Value.str x t)
 | .inl i,v,h=>by
  obtain⟨t,e⟩:=Value.isInt_shape (k:=i) (v:=v) h;exact .inl ⟨i,t,rfl,e⟩
 | .inr x,v,h=>by
  obtain⟨t,e⟩:=Value.isStrOf_shape (x:=x) (v:=v) h;exact .inr ⟨x,t,rfl,e⟩
theorem Q6l(i:Int)(t:Tok):zbD (.inl i) (.int i t)=true:=by simp[zbD,Value.isInt]
theorem Q6m(x:Str)(t:Tok):zbD (.inr x) (.str x t)=true:=by simp[zbD,Value.isStrOf]
theorem QbB(a b:Int):decide ((Sum.inl a:Key)=Sum.inl b)=(a==b):=by
 by_cases e:a=b
 ·subst e;simp
 ·have h:¬ (Sum.inl a:Key)=Sum.inl b:=fun q=>e (Sum.inl.inj q);rw[Zr h];exact (Yk.mpr e).symm
theorem QbC(a b:Str):decide ((Sum.inr a:Key)=Sum.inr b)=decide (a=b):=by
 by_cases e:a=b
 ·subst e;simp
 ·have h:¬ (Sum.inr a:Key)=Sum.inr b:=fun q=>e (Sum.inr.inj q);rw[Zr h,Zr e]
theorem QbD(a:Int)(b:Str):decide ((Sum.inl a:Key)=Sum.inr b)=false:=Zr (fun q=>nomatch q)
theorem QbE(a:Str)(b:Int):decide ((Sum.inr a:Key)=Sum.inl b)=false:=Zr (fun q=>nomatch q)
noncomputable def za2(prog:Program)(w:World):PySem.KeyKind prog w Key where
 is:=zbD
 hash:=keyH w
 inj:=fun v a b ha hb=>by
  rcases Q0l ha with ⟨i,t,rfl,rfl⟩ | ⟨x,t,rfl,rfl⟩
  ·rcases Q0l hb with ⟨j,u,rfl,e⟩ | ⟨y,u,rfl,e⟩
   ·injection e with e1 _;rw[e1]
   ·exact nomatch e
  ·rcases Q0l hb with ⟨j,u,rfl,e⟩ | ⟨y,u,rfl,e⟩
   ·exact nomatch e
   ·injection e with e1 _;rw[e1]
 byValue:=fun k v h=>by
  rcases Q0l h with ⟨i,t,rfl,rfl⟩ | ⟨x,t,rfl,rfl⟩ <;> rfl
 pyHash:=fun hv h=>by
  rcases Q0l hv with ⟨i,t,rfl,rfl⟩ | ⟨x,t,rfl,rfl⟩
  ·exact wpAny_pyHash_int h
  ·exact wpAny_pyHash_str h
 eqBool:=fun hu hv h=>by
  rcases Q0l hu with ⟨i,t,rfl,rfl⟩ | ⟨x,t,rfl,rfl⟩
  ·rcases Q0l hv with ⟨j,u,rfl,rfl⟩ | ⟨y,u,rfl,rfl⟩
   ·rw[QbB]at h;exact wpAny_eqBool_int h
   ·rw[QbD]at h;exact SeqAt.EqAt.int_str i t y u _ _ _ _ h
  ·rcases Q0l hv with ⟨j,u,rfl,rfl⟩ | ⟨y,u,rfl,rfl⟩
   ·rw[QbE]at h;exact SeqAt.EqAt.str_int x t j u _ _ _ _ h
   ·rw[QbC]at h;exact wpAny_eqBool_str h
 «strs»:=fun k x t v h=>by
  rcases Q0l h with ⟨i,u,rfl,e⟩ | ⟨y,u,rfl,e⟩
  ·exact nomatch e
  ·injection e with e1 _;subst e1;cases v <;> rfl
theorem Q4j(prog:Program)(w:World)(i:Int)(t:Tok):(za2 prog w).is (.inl i) (.int i t)=true:=Q6l i t
theorem Q4k(prog:Program)(w:World)(x:Str)(t:Tok):(za2 prog w).is (.inr x) (.str x t)=true:=Q6m x t
inductive V where
 | non | bl (b:Bool) | int (i:Int) | str (x:Str) | byt (b:Array UInt8) | flt (b:UInt64) | ref (a:Addr) | ty (n:String)
 deriving DecidableEq
noncomputable def RelV:V->Value->Prop
 | .non,u=>u=Value.none
 | .bl b,u=>u=Value.bool b
 | .int i,u=>∃ t,u=Value.int i t
 | .str x,u=>∃ t,u=Value.str x t
 | .byt b,u=>∃ t,u=Value.bytes b t
 | .flt b,u=>∃ t,u=Value.float b t
 | .ref a,u=>u=Value.ref a
 | .ty n,u=>u=Value.type n
noncomputable abbrev Vals:List V->List Value->Prop:=Paired RelV
theorem Vals.length(r:Vals xs us):xs.length=us.length:=ZQ r
theorem Vals.get:∀ {xs:List V} {us:List Value} {i:Nat} {x:V},Vals xs us->xs[i]? = some x->∃ u,us[i]? = some u/\RelV x u
 | _,_,_,_,.nil,e=>by simp at e
 | _,_,0,_,.cons r _,e=>by simp at e;subst e;exact⟨_,rfl,r⟩
 | _,_,i+1,x,.cons _ t,e=>by
  obtain⟨u,h1,h2⟩:=Vals.get (i:=i) (x:=x) t (by simpa using e)
  exact⟨u,by simpa using h1,h2⟩
theorem Vals.append:∀ {xs ys:List V} {us ws:List Value},Vals xs us->Vals ys ws->Vals (xs++ys) (us++ws)
 | _,_,_,_,.nil,s=>s
 | _,_,_,_,.cons r t,s=>.cons r (Vals.append t s)
theorem Vals.take:∀ {xs:List V} {us:List Value} (n:Nat),Vals xs us->Vals (xs.take n) (us.take n)
 | _,_,0,_=>.nil
 | _,_,_+1,.nil=>.nil
 | _,_,n+1,.cons r t=>.cons r (Vals.take n t)
theorem Vals.drop:∀ {xs:List V} {us:List Value} (n:Nat),Vals xs us->Vals (xs.drop n) (us.drop n)
 | _,_,0,r=>r
 | _,_,_+1,.nil=>.nil
 | _,_,n+1,.cons _ t=>Vals.drop n t
noncomputable def RelO:Option V->Option Value->Prop
 | some v,some u=>RelV v u
 | none,none=>True
 | _,_=>False
noncomputable def KV{κ:Type}:List (κ×V)->List (κ×Value)->Prop:=Paired fun(p:κ×V) (q:κ×Value)=>p.1=q.1/\RelV p.2 q.2
noncomputable def kV:Key->V
 | .inl i=>.int i
 | .inr x=>.str x
inductive HO where
 | lst (xs:List V)
 | tup (xs:List V)
 | dK (kvs:List (Key×V)) | dT (kvs:List (List Key×V))
 | dN (ep:Nat) (kvs:List (NK.Key3 Key×V)) --N
 | set (S:Int->Bool) (n:Nat)
 | ins (C dx:Addr) (fs:List (Str×V))
 | own (x:Addr)
 | xd (fs:List (Str×V))
 | met (f x:Addr)
 | rng (lo hi:Int)
 | frz (o:Obj) (u:HO)
 | tbl (ps:Array Value)
 | ext (φ:Heap->Prop)
noncomputable abbrev Hp:=Addr->Option HO
noncomputable def K3At(H:Hp)(k:NK.Key3 Key)(b:Addr):Prop:=∃ n,H b=some (.tup (.ref n::kV k.1::k.2.2.map kV))/\H n=some (.tup (k.2.1.map kV)) --N
noncomputable def upd(H:Hp)(a:Addr)(o:HO):Hp:=fun b=>if b=a then some o else H b
theorem Q0e:upd H a o a=some o:=by unfold upd;rw[Ze rfl]
theorem Q0d(h:b≠a):upd H a o b=H b:=by unfold upd;rw[Zc h]
theorem Q2K:upd (upd H a o) a u=upd H a u:=by
 funext b;unfold upd;split <;> rfl
theorem ne_of{H:Hp}{a b:Addr}{o u:HO}(h:H a=some o)(h':H b=some u)(d:o≠u):a≠b:=by
 intro e;subst e;rw[h]at h';exact d (Z6 h')
theorem Q0j{H:Hp}{a b:Addr}{o:HO}(h:H a=some o)(h':H b=none):a≠b:=by
 intro e;subst e;rw[h]at h';cases h'
section
variable(P:Program)(w:World)
noncomputable def ObjOk(H:Hp)(h:Heap)(a:Addr):HO->Prop
 | .lst xs=>xs.length<=sizeLine/\∃ (its:List Value) (n:Nat),Vals xs its/\h.get? a=some { cls:=.type "list",data:=.seq its.toArray n }
 | .tup xs=>xs.length<=sizeLine/\∃ its:List Value,Vals xs its/\IsTup h a its.toArray
 | .dK kvs=>kvs.length<=sizeLine/\(a==sysModules)=false/\∃ vs,KV kvs vs/\h.DictOf (za2 P w) a vs
 | .dT kvs=>kvs.length<=sizeLine/\(a==sysModules)=false/\∃ xs:List (List Key×Addr×Value),
   Paired (fun(p:List Key×V) (q:List Key×Addr×Value)=>p.1=q.1/\H q.2.1=some (.tup (p.1.map kV))/\RelV p.2 q.2.2) kvs xs /\
   ∃ o es ep,h.get? a=some o/\o.ExactDict/\o.data=.dict es ep/\es.toList=xs.map (entryOfKey (tupleKind (za2 P w)))/\(xs.map (·.1)).Nodup
 | .dN ep kvs=>kvs.length<=sizeLine/\(a==sysModules)=false/\∃ xs:List (NK.Key3 Key×Addr×Value),Paired (fun(p:NK.Key3 Key×V) (q:NK.Key3 Key×Addr×Value)=>p.1=q.1/\K3At H p.1 q.2.1/\RelV p.2 q.2.2) kvs xs/\∃ o es,h.get? a=some o/\o.ExactDict/\o.data=.dict es ep/\es.toList=xs.map (entryOfKey (NK.nestKind (za2 P w)))/\(xs.map (·.1)).Nodup --N
 | .set S n=>h.SetOf (intKind P w) a S n
 | .ins C dx fs=>H dx=some (.own a)/\fs.length<=1000/\dx≠a/\h.get? a=some (instObj C dx) /\
   ∃ mA,h.Ns1 dx mA/\(∀ f,RelO (fs.lookup f) (mA f))/\PySem.Within mA (fs.map (·.1))
 | .own _=>∃ o,h.get? a=some o
 | .xd fs=>∃ mA,h.Ns1 a mA/\∀ f,RelO (fs.lookup f) (mA f)
 | .rng lo hi=>∃ t u v,h.get? a=some { cls:=.type "range",data:=.fields #[.int lo t,.int hi u,.int 1 v] }
 | .frz o u=>h.get? a=some o/\ObjOk H h a u
 | .tbl ps=>h.get? a=some { cls:=.none,data:=.fields ps }
 | .met f x=>h.get? a=some (methodObj (.ref f) (.ref x))
 | .ext φ=>φ h/\(∃ o,h.get? a=some o)/\∀ h1 h2:Heap,φ h1->(∀ o,h1.get? a=some o->h2.get? a=some o)->φ h2
noncomputable def HOk(H:Hp)(h:Heap):Prop:=∀ a o,H a=some o->ObjOk P w H h a o
end
section
variable{P:Program}{w:World}{H H':Hp}{h h':Heap}{a:Addr}{o:HO}
theorem ObjOk.lt(x:ObjOk P w H h a o):a<h.objs.size:=by
 cases o with
 | lst xs=>obtain⟨_,_,_,_,e⟩:=x;exact Zp e
 | tup xs=>obtain⟨_,_,_,p⟩:=x;exact p.lt
 | dK kvs=>obtain⟨_,_,_,_,o,_,_,e,_⟩:=x;exact Zp e
 | dT kvs=>obtain⟨_,_,_,_,o,_,_,e,_⟩:=x;exact Zp e
 | dN ep kvs=>obtain⟨_,_,_,_,o,_,e,_⟩:=x;exact Zp e --N
 | set S n=>obtain⟨o,_,_,_,e,_⟩:=x;exact Zp e
 | ins C dx fs=>obtain⟨_,_,_,e,_⟩:=x;exact Zp e
 | own y=>obtain⟨_,e⟩:=x;exact Zp e
 | xd fs=>obtain⟨_,⟨_,_,_,e,_⟩,_⟩:=x;exact Zp e
 | rng lo hi=>obtain⟨_,_,_,e⟩:=x;exact Zp e
 | frz ob u=>obtain⟨e,_⟩:=x;exact Zp e
 | tbl ps=>exact Zp (show h.get? a=some _ from x)
 | met f y=>exact Zp (show h.get? a=some _ from x)
 | ext φ=>obtain⟨_,⟨_,e⟩,_⟩:=x;exact Zp e
theorem Paired.mapP{α β:Type}{F G:α->β->Prop}:∀ {l₁:List α} {l₂:List β},Paired F l₁ l₂->(∀ a b,F a b->G a b)->Paired G l₁ l₂
 | _,_,.nil,_=>.nil
 | _,_,.cons r t,f=>.cons (f _ _ r) (Paired.mapP t f)
theorem ObjOk.stay(x:ObjOk P w H h a o)(k:∀ b u,(b=a\/H b=some (.own a))->h.get? b=some u->h'.get? b=some u)
  (ho:∀ b,H b=some (.own a)->H' b=some (.own a)) (ht:∀ b xs,H b=some (.tup xs)->H' b=some (.tup xs)):ObjOk P w H' h' a o:=by
 induction o with
 | lst xs=>obtain⟨z,its,n,r,e⟩:=x;exact⟨z,its,n,r,k _ _ (.inl rfl) e⟩
 | tup xs=>obtain⟨z,its,r,ob,e,c⟩:=x;exact⟨z,its,r,ob,k _ _ (.inl rfl) e,c⟩
 | dK kvs=>obtain⟨z,y,vs,r,ob,es,ep,e,c⟩:=x;exact⟨z,y,vs,r,ob,es,ep,k _ _ (.inl rfl) e,c⟩
 | dT kvs =>
  obtain⟨z,y,xs,r,ob,es,ep,e,c⟩:=x;exact⟨z,y,xs,Paired.mapP r fun p q z=>⟨z.1,ht _ _ z.2.1,z.2.2⟩,ob,es,ep,k _ _ (.inl rfl) e,c⟩
 | dN ep kvs=>obtain⟨z,y,xs,r,ob,es,e,c⟩:=x;exact⟨z,y,xs,Paired.mapP r fun p q z=>⟨z.1,(let ⟨n,e1,e2⟩:=z.2.1;⟨n,ht _ _ e1,ht _ _ e2⟩),z.2.2⟩,ob,es,k _ _ (.inl rfl) e,c⟩ --N
 | set S n=>obtain⟨ob,es,ep,t,e,c⟩:=x;exact⟨ob,es,ep,t,k _ _ (.inl rfl) e,c⟩
 | ins C dx fs =>
  obtain⟨d,z,ne,e,mA,⟨od,es,ep,e2,c⟩,r⟩:=x;exact⟨ho _ d,z,ne,k _ _ (.inl rfl) e,mA,⟨od,es,ep,k _ _ (.inr d) e2,c⟩,r⟩
 | own y=>obtain⟨ob,e⟩:=x;exact⟨ob,k _ _ (.inl rfl) e⟩
 | xd fs=>obtain⟨mA,⟨od,es,ep,e,c⟩,r⟩:=x;exact⟨mA,⟨od,es,ep,k _ _ (.inl rfl) e,c⟩,r⟩
 | rng lo hi=>obtain⟨t,u,v,e⟩:=x;exact⟨t,u,v,k _ _ (.inl rfl) e⟩
 | frz ob u ih=>obtain⟨e,q⟩:=x;exact⟨k _ _ (.inl rfl) e,ih q⟩
 | tbl ps =>
  have e:h.get? a=some { cls:=.none,data:=.fields ps }:=x;show h'.get? a=some { cls:=.none,data:=.fields ps };exact k a _ (.inl rfl) e
 | met f y =>
  have e:h.get? a=some (methodObj (.ref f) (.ref y)):=x;show h'.get? a=some (methodObj (.ref f) (.ref y));exact k a _ (.inl rfl) e
 | ext φ=>obtain⟨p,⟨o,e⟩,st⟩:=x;exact⟨st _ _ p fun o q=>k _ _ (.inl rfl) q,⟨o,k _ _ (.inl rfl) e⟩,st⟩
theorem HOk.lt(x:HOk P w H h)(e:H a=some o):a<h.objs.size:=(x a o e).lt
theorem HOk.fresh(x:HOk P w H h)(e:h.objs.size<=a):H a=none:=by
 cases q:H a with
 | none=>rfl
 | some u=>exact absurd (Z8 (x.lt q) e) (lt_irrefl _)
theorem HOk.kept(x:HOk P w H h)(k:∀ b u,h.get? b=some u->h'.get? b=some u):HOk P w H h':=fun a o e =>
 (x a o e).stay (fun b u _ q=>k b u q) (fun _ q=>q) fun _ _ q=>q
theorem HOk.laid(x:HOk P w H h)(k:∀ b u,h.get? b=some u->h'.get? b=some u)(hp:h.objs.size<=a)(new:ObjOk P w (upd H a o) h' a o):HOk P w (upd H a o) h':=fun b u e=>by
 have hn:=x.fresh hp;by_cases hb:b=a
 ·subst hb;rw[Q0e]at e;cases e;exact new
 ·rw[Q0d hb]at e;exact (x b u e).stay (fun c v _ q=>k c v q) (fun c q=>by rw[Q0d (Q0j q hn)];exact q) fun c xs q=>by rw[Q0d (Q0j q hn)];exact q
end
noncomputable def Rd(H:Hp)(a:Addr)(u:HO):Prop:=H a=some u\/∃ o,H a=some (.frz o u)
theorem Rd.ok(r:Rd H a u)(x:HOk P w H h):ObjOk P w H h a u:=by
 rcases r with r | ⟨o,r⟩
 ·exact x a u r
 ·obtain⟨_,q⟩:=x a _ r;exact q
noncomputable def Mut:Option HO->Prop
 | some (.lst _)=>True
 | some (.dK _)=>True
 | some (.dT _)=>True
 | some (.dN _ _)=>True --N
 | some (.set _ _)=>True
 | some (.ins _ _ _)=>True
 | some (.ext _)=>True
 | _=>False
section
variable{P:Program}{w:World}{H:Hp}{h h':Heap}{x e:Addr}{o':HO}
theorem HOk.write(ok:HOk P w H h)(mu:Mut (H x))(he:e=x\/H e=some (.own x))(k:∀ b u,b≠e->h.get? b=some u->h'.get? b=some u)(heo:∃ u,h'.get? e=some u)
  (new:ObjOk P w (upd H x o') h' x o'):HOk P w (upd H x o') h':=fun b u q=>by
 have nown:∀ c y,H c=some (.own y)->c≠x:=fun c y r z=>by subst z;rw[r]at mu;exact mu
 have ntup:∀ c xs,H c=some (.tup xs)->c≠x:=fun c xs r z=>by subst z;rw[r]at mu;exact mu
 by_cases hb:b=x
 ·subst hb;rw[Q0e]at q;cases q;exact new
 ·rw[Q0d hb]at q;by_cases hbe:b=e
  ·have q':H b=some (.own x):=by
    rcases he with z | z
    ·exact absurd (hbe.trans z) hb
    ·rw[hbe];exact z
   rw[q]at q';cases q';obtain⟨v,hv⟩:=heo;exact⟨v,by rw[hbe];exact hv⟩
  ·refine (ok b u q).stay (fun c v hc r=>k c v ?_ r) (fun c r=>by rw[Q0d (nown c b r)];exact r) fun c xs r=>by rw[Q0d (ntup c xs r)];exact r
   rcases hc with rfl | hc
   ·exact hbe
   ·rintro rfl;rcases he with z | z
    ·exact nown c b hc z
    ·rw[hc]at z;cases z;exact hb rfl
end
structure Un(fs ex:List Addr)(H H':Hp)(h h':Heap):Prop where
 keep:∀ b o,h.get? b=some o->H b=none->b∉fs->b∉ex->h'.get? b=some o
 slot:∀ b o,h.get? b=some o->H b=none->b∈fs->b∉ex->∃ sl,h'.get? b=some { o with slots:=sl }
 free:∀ b o,h.get? b=some o->H b=none->b∉ex->H' b=none
 there:∀ b o,h.get? b=some o->b∉ex->∃ o',h'.get? b=some o'
 tups:∀ b xs,H b=some (.tup xs)->H' b=some (.tup xs)
 frzs:∀ b o u,H b=some (.frz o u)->H' b=some (.frz o u)
 tbls:∀ b ps,H b=some (.tbl ps)->∃ more,H' b=some (.tbl (ps++more))
section
variable{fs fs' ex ex':List Addr}{H H1 H2:Hp}{h h1 h2 h':Heap}{a x e:Addr}{o:HO}
theorem Un.any(u:Un fs ex H H1 h h1)(q:h.get? b=some ob)(n:H b=none)(hx:b∉ex):∃ sl,h1.get? b=some { ob with slots:=sl }:=by
 by_cases hb:b∈fs
 ·exact u.slot b ob q n hb hx
 ·exact⟨ob.slots,u.keep b ob q n hb hx⟩
theorem Un.kept(k:∀ b u,h.get? b=some u->h'.get? b=some u):Un fs ex H H h h' :=
 ⟨fun b ob q _ _ _=>k b ob q,fun b ob q _ _ _=>⟨ob.slots,k b ob q⟩,fun _ _ _ n _=>n,fun b ob q _=>⟨ob,k b ob q⟩,fun _ _ q=>q,fun _ _ _ q=>q,fun _ ps q=>⟨#[],by rw[q];simp⟩⟩
theorem Un.refl:Un fs ex H H h h:=Un.kept fun _ _ q=>q
theorem Un.laid(k:∀ b u,h.get? b=some u->h'.get? b=some u)(hp:h.objs.size<=a)(hn:H a=none):Un fs ex H (upd H a o) h h' where
 keep:=fun b u q _ _ _=>k b u q
 slot:=fun b u q _ _ _=>⟨u.slots,k b u q⟩
 free:=fun b u q n _=>by rw[Q0d (ZJ (Z8 (Zp q) hp))];exact n
 there:=fun b u q _=>⟨u,k b u q⟩
 tups:=fun b xs q=>by rw[Q0d (Q0j q hn)];exact q
 frzs:=fun b u xs q=>by rw[Q0d (Q0j q hn)];exact q
 tbls:=fun b ps q=>⟨#[],by rw[Q0d (Q0j q hn),q];simp⟩
theorem Un.write(mu:Mut (H x))(he:e=x\/H e=some (.own x))(k:∀ b u,b≠e->h.get? b=some u->h'.get? b=some u)(heo:∃ u,h'.get? e=some u):Un fs ex H (upd H x o) h h':=by
 have hx:∀ b,H b=none->b≠x:=fun b n z=>by subst z;rw[n]at mu;exact mu
 have hb:∀ b,H b=none->b≠e:=fun b n z=>by
  subst z;rcases he with r | r
  ·exact hx b n r
  ·rw[n]at r;cases r
 have hm:∀ b u,H b=some u->¬ Mut (some u)->b≠x:=fun b u q nm z=>by subst z;rw[q]at mu;exact nm mu
 refine⟨fun b u q n _ _=>k b u (hb b n) q,fun b u q n _ _=>⟨u.slots,k b u (hb b n) q⟩,fun b u q n _=>by rw[Q0d (hx b n)];exact n,fun b u q _=>?_,
  fun b xs q=>by rw[Q0d (hm b _ q fun z=>z)];exact q,fun b u xs q=>by rw[Q0d (hm b _ q fun z=>z)];exact q,fun b ps q=>⟨#[],by rw[Q0d (hm b _ q fun z=>z),q];simp⟩⟩
 by_cases hbe:b=e
 ·subst hbe;exact heo
 ·exact⟨u,k b u hbe q⟩
end
noncomputable def trk(h:Heap)(H:Hp):List Addr:=(List.range h.objs.size).filter fun a=>(H a).isSome
noncomputable def hidT(h:Heap)(H:Hp):Heap:=PySem.W.hideAll h (trk h H)
theorem Q6n(h:Heap)(H:Hp):(hidT h H).objs.size=h.objs.size:=PySem.W.hideAll_size _ _
theorem Q7Z(e:h.get? b=some o)(n:H b=none):(hidT h H).get? b=some o :=
 PySem.W.hideAll_get _ e fun hm=>by
  have q:(H b).isSome=true:=(ZN.mp hm).2;rw[n]at q;simp at q
theorem Qa4(e:(hidT h H).get? b=some o):h.get? b=some o/\H b=none:=by
 have e':h.get? b=some o:=PySem.W.of_hideAll (trk h H) e;refine⟨e',?_⟩;cases q:H b with
 | none=>rfl
 | some x =>
  have hm:b∈trk h H:=ZN.mpr ⟨ZZ.mpr (Zp e'),by simp[q]⟩
  have z:(hidT h H).get? b=none:=PySem.W.hideAll_none (trk h H) hm;rw[z]at e;cases e
noncomputable def allNews(g h:Heap)(L:Addr):List (Addr×Obj):=(List.range h.objs.size).filterMap fun a=>if a=L\/(g.get? a).isSome=true then none else (h.get? a).map fun o=>(a,o)
noncomputable def rest(g h:Heap)(L d:Addr):List (Addr×Obj):=(allNews g h L).filter fun p=>decide (p.1≠d)
structure Mod(K:Frag)(mg:Str->Option Value)(base:Heap):Prop where
 kin:K.In base
 glob:base.Ns mainGlobals mg
 blt:∃ mb,base.Ns builtinsNs mb/\∀ x:Str,x ≠ "__name__" -> mb x=bootBuiltins x
 nolimit:base.NoLimit
structure Cx where
 prog:Program
 w:World
 K:Frag
 mg:Str->Option Value
 base:Heap
 A:Around
 N:List Str
 s₀:Shared
 H₀:Hp
 env:Env
 outer:List Env
 stack:List Env
 ex:List Addr
 fn:Str->Bool
 calm:Bool
 pn:List (Addr×Obj)
 xe:Value->Shared->Prop
noncomputable def frs(l:List Env):List Addr:=l.filterMap (·.frame)
noncomputable abbrev Cx.fs(X:Cx):List Addr:=frs X.outer
noncomputable def Vis(sc:Scope)(x:Str):Prop:=sc.names.lookup x=some .local\/sc.names.lookup x=some .cell\/sc.names.lookup x=some .free
noncomputable def Loc(sc:Scope)(x:Str):Prop:=sc.names.lookup x=some .local\/sc.names.lookup x=some .cell
noncomputable def Look(env:Env)(h:Heap)(m:Str->Option Value)(x:Str)(u:Value):Prop :=
 (env.kindOf x=some .local/\m x=some u)\/((env.kindOf x=some .cell\/env.kindOf x=some .free)/\∃ c,env.cells.lookup x=some c/\h.IsCell c (some u))
structure Cx.Ok(X:Cx):Prop where
 mod:Mod X.K X.mg X.base
 kind:X.env.scope.kind=.function
 glob:X.env.globals=mainGlobals
 blt:X.env.builtins=builtinsNs
 above:X.s₀.heap.objs.size<=X.env.locals
 inj:∀ x y c,X.env.cells.lookup x=some c->X.env.cells.lookup y=some c->x=y
 has:∀ x,(X.env.kindOf x=some .cell\/X.env.kindOf x=some .free)->∃ c,X.env.cells.lookup x=some c
 cab:∀ x c,X.fn x=true->X.env.cells.lookup x=some c->X.s₀.heap.objs.size<=c
 hd:X.calm=true->X.A.handled=none
 frames:X.A.frames=some X.stack
 stk:X.stack=X.outer\/(X.stack=X.env::X.outer/\X.env.frame=some X.env.locals)
 exf:∀ b∈X.ex,b≠X.env.locals/\∀ x c,X.env.cells.lookup x=some c->c≠b
 bs:∀ b o,X.base.get? b=some o->X.s₀.heap.get? b=some o/\X.H₀ b=none
 bsz:X.base.objs.size<=X.s₀.heap.objs.size
 noex:∀ b o,X.base.get? b=some o->b∉X.ex
 exfs:∀ b∈X.ex,b∉X.fs
 funs:X.s₀.heap.FunFrames X.base X.outer
 frf:∀ b∈X.fs,X.H₀ b=none
structure Inv(X:Cx)(pins:List (Addr×Obj))(σ:List (Option V))(H:Hp)(s:Shared):Prop where
 ok:X.Ok
 os:s.os=X.s₀.os
 bare:AllBare s.gens
 base:Un X.fs X.ex X.H₀ H X.s₀.heap s.heap
 loc:∃ m,s.heap.Ns X.env.locals m/\∀ (i:Nat) (x:Str) (v:V),X.N[i]? = some x->σ[i]? = some (some v)->Vis X.env.scope x->∃ u,RelV v u/\Look X.env s.heap m x u
 cell:∀ x c,X.env.cells.lookup x=some c->∃ v,s.heap.IsCell c v
 free:H X.env.locals=none
 freeC:∀ x c,X.env.cells.lookup x=some c->H c=none
 pin:∀ p∈X.pn++pins,s.heap.get? p.1=some p.2/\H p.1=none/\p.1≠X.env.locals/\p.1∉X.fs/\∀ v,p.2.data≠.cell v
 hok:HOk X.prog X.w H s.heap
 len:σ.length=X.N.length
section
variable{X:Cx}{pins:List (Addr×Obj)}{σ:List (Option V)}{H H':Hp}{s:Shared}{h':Heap}
theorem Cx.Ok.nofr(ok:X.Ok)(e:X.base.get? b=some o):b∉X.fs:=fun hb=>by
 have:=(ok.funs.mem hb).1;rw[e]at this;cases this
theorem Inv.bs(I:Inv X pins σ H s):∀ b o,X.base.get? b=some o->s.heap.get? b=some o/\H b=none:=fun b o e =>
 ⟨I.base.keep b o (I.ok.bs b o e).1 (I.ok.bs b o e).2 (I.ok.nofr e) (I.ok.noex b o e),I.base.free b o (I.ok.bs b o e).1 (I.ok.bs b o e).2 (I.ok.noex b o e)⟩
theorem Inv.bk(I:Inv X pins σ H s):∀ b o,X.base.get? b=some o->s.heap.get? b=some o:=fun b o e=>(I.bs b o e).1
theorem Inv.mod(I:Inv X pins σ H s):Mod X.K X.mg X.base:=I.ok.mod
theorem Inv.kIn(I:Inv X pins σ H s):X.K.In s.heap:=I.ok.mod.kin.keeps I.bk
theorem Inv.lt(I:Inv X pins σ H s):X.env.locals<s.heap.objs.size:=let ⟨_,hn,_⟩:=I.loc;hn.lt
theorem Inv.sz(I:Inv X pins σ H s):X.s₀.heap.objs.size<=s.heap.objs.size:=Z4 I.ok.above (le_of_lt I.lt)
theorem Inv.nofs(I:Inv X pins σ H s)(h:s.heap.objs.size<=a):a∉X.fs:=fun hb=>by
 obtain⟨_,o,ho,_⟩:=I.ok.funs.mem hb;exact absurd (Z8 (Zp ho) (Z4 I.sz h)) (lt_irrefl _)
theorem Inv.cne(I:Inv X pins σ H s):∀ x c,X.env.cells.lookup x=some c->c≠X.env.locals:=fun x c e z=>by
 obtain⟨v,o,ho,hd⟩:=I.cell x c e;obtain⟨m,⟨o',es,ep,ho',hd',_⟩,_⟩:=I.loc;rw[z,ho']at ho;cases ho;rw[hd']at hd;cases hd
theorem Inv.funs(I:Inv X pins σ H s):s.heap.FunFrames X.base X.outer:=by
 have all:∀ (l:List Env),(∀ b∈frs l,b∈X.fs)->X.s₀.heap.FunFrames X.base l->s.heap.FunFrames X.base l:=by
  intro l
  induction l with
  | nil=>intro _ _;trivial
  | cons env r ih =>
   intro hs hl;obtain⟨hk,⟨L,o,hf,hn,ho,hd⟩,hr⟩:=hl;have hL:L∈X.fs:=hs L (by unfold frs;rw[filterMap_cons,hf];exact Zl)
   obtain⟨sl,e⟩:=I.base.slot L o ho (I.ok.frf L hL) hL fun z=>I.ok.exfs L z hL;exact⟨hk,⟨L,_,hf,hn,e,hd⟩,ih (fun b hb=>hs b (by unfold frs;rw[filterMap_cons,hf];exact Zq _ hb)) hr⟩
 exact all X.outer (fun _ hb=>hb) I.ok.funs
theorem Inv.stack(I:Inv X pins σ H s):s.heap.FunFrames X.base X.stack:=by
 rcases I.ok.stk with e | ⟨e,hf⟩
 ·rw[e];exact I.funs
 ·rw[e];obtain⟨m,hn,_⟩:=I.loc;refine .cons (by rw[I.ok.kind];decide) hf hn ?_ I.funs
  exact Heap.get?_none_of_le (Z4 I.ok.bsz I.ok.above)
theorem Inv.stkSub(I:Inv X pins σ H s):∀ b∈frs X.stack,b∈X.env.locals::X.fs:=fun b hb=>by
 rcases I.ok.stk with e | ⟨e,hf⟩
 ·rw[e]at hb;exact Zq _ hb
 ·rw[e]at hb;unfold frs at hb;rw[filterMap_cons,hf]at hb;exact hb
theorem Inv.stkFree(I:Inv X pins σ H s):∀ b∈frs X.stack,H b=none:=fun b hb=>by
 rcases Z3.mp (I.stkSub b hb) with e | hb
 ·rw[e];exact I.free
 ·obtain⟨_,o,ho,_⟩:=I.ok.funs.mem hb;exact I.base.free b o ho (I.ok.frf b hb) fun z=>I.ok.exfs b z hb
theorem Inv.step{g':Array GenState}{t':Nat}{d':Drawn}{ch:List Addr}(I:Inv X pins σ H s)
  (hch:∀ b∈ch,(b∈X.ex\/X.s₀.heap.objs.size<=b)/\b≠X.env.locals/\(∀ x c,X.env.cells.lookup x=some c->c≠b)/\∀ p∈X.pn++pins,p.1≠b)
  (keep:∀ b o,b≠X.env.locals->b∉X.fs->b∉ch->s.heap.get? b=some o->H b=none->h'.get? b=some o)
  (slot:∀ b o,b≠X.env.locals->b∈X.fs->b∉ch->s.heap.get? b=some o->H b=none->∃ sl,h'.get? b=some { o with slots:=sl }) (free:∀ b o,b∉ch->s.heap.get? b=some o->H b=none->H' b=none)
  (there:∀ b o,b∉ch->s.heap.get? b=some o->∃ o',h'.get? b=some o')
  (tups:∀ b xs,H b=some (.tup xs)->H' b=some (.tup xs)) (frzs:∀ b o u,H b=some (.frz o u)->H' b=some (.frz o u)) (tbls:∀ b ps,H b=some (.tbl ps)->∃ more,H' b=some (.tbl (ps++more)))
  (ns:∀ m,s.heap.Ns X.env.locals m->h'.Ns X.env.locals m) (hok:HOk X.prog X.w H' h') (hg:AllBare g') :
  Inv X pins σ H' { s with heap:=h',gens:=g',drawn:=d',toks:=t' }:=by
 have neL:∀ b o,X.s₀.heap.get? b=some o->b≠X.env.locals:=fun b o e=>ZJ (Z8 (Zp e) I.ok.above);have neC:∀ b o,X.s₀.heap.get? b=some o->b∉X.ex->b∉ch:=fun b o e hx hb=>by
  rcases (hch b hb).1 with z | z
  ·exact hx z
  ·exact absurd (Z8 (Zp e) z) (lt_irrefl _)
 have cellK:∀ x c,X.env.cells.lookup x=some c->∀ v,s.heap.IsCell c v->h'.IsCell c v:=fun x c e v ⟨o,ho,hd⟩=>by
  have nch:c∉ch:=fun z=>(hch c z).2.2.1 x c e rfl;by_cases hc:c∈X.fs
  ·obtain⟨sl,q⟩:=slot c o (I.cne x c e) hc nch ho (I.freeC x c e);exact⟨_,q,hd⟩
  ·exact⟨o,keep c o (I.cne x c e) hc nch ho (I.freeC x c e),hd⟩
 refine⟨I.ok,I.os,hg,⟨fun b o e n hb hx=>?_,fun b o e n hb hx=>?_,fun b o e n hx=>?_,fun b o e hx=>?_,fun b xs e=>tups b xs (I.base.tups b xs e),fun b o xs e=>frzs b o xs (I.base.frzs b o xs e),fun b ps e=>?_⟩,?_,fun x c e=>?_,?_,fun x c e=>?_,fun p hp=>?_,hok,I.len⟩
 ·exact keep b o (neL b o e) hb (neC b o e hx) (I.base.keep b o e n hb hx) (I.base.free b o e n hx)
 ·obtain⟨sl,e1⟩:=I.base.slot b o e n hb hx;obtain⟨sl',e2⟩:=slot b _ (neL b o e) hb (neC b o e hx) e1 (I.base.free b o e n hx);exact⟨sl',e2⟩
 ·obtain⟨o',e1⟩:=I.base.there b o e hx;exact free b o' (neC b o e hx) e1 (I.base.free b o e n hx)
 ·obtain⟨o',e1⟩:=I.base.there b o e hx;exact there b o' (neC b o e hx) e1
 ·obtain⟨m1,e1⟩:=I.base.tbls b ps e;obtain⟨m2,e2⟩:=tbls b _ e1;exact⟨m1++m2,by rw[e2,Array.append_assoc]⟩
 ·obtain⟨m,hn,hl⟩:=I.loc;refine⟨m,ns m hn,fun i x v e1 e2 e3=>?_⟩;obtain⟨u,r,l⟩:=hl i x v e1 e2 e3;refine⟨u,r,?_⟩;rcases l with l | ⟨k,c,e,z⟩
  ·exact .inl l
  ·exact .inr ⟨k,c,e,cellK x c e _ z⟩
 ·obtain⟨v,z⟩:=I.cell x c e;exact⟨v,cellK x c e v z⟩
 ·obtain⟨m,⟨o,_,_,ho,_⟩,_⟩:=I.loc;exact free _ o (fun z=>(hch _ z).2.1 rfl) ho I.free
 ·obtain⟨v,o,ho,hd⟩:=I.cell x c e;exact free c o (fun z=>(hch c z).2.2.1 x c e rfl) ho (I.freeC x c e)
 ·obtain⟨e,n,ne,nf,d⟩:=I.pin p hp;have nch:p.1∉ch:=fun z=>(hch p.1 z).2.2.2 p hp rfl;exact⟨keep p.1 p.2 ne nf nch e n,free p.1 p.2 nch e n,ne,nf,d⟩
theorem Inv.un{t':Nat}(I:Inv X pins σ H s)(u:Un X.fs [] H H' s.heap h')(hok:HOk X.prog X.w H' h'):Inv X pins σ H' { s with heap:=h',toks:=t' }:=by
 obtain⟨m,⟨o,es,ep,ho,r⟩,_⟩:=id I.loc;obtain⟨sl,hL⟩:=u.any ho I.free (by simp)
 exact I.step (g':=s.gens) (d':=s.drawn) (ch:=[]) (fun _ z=>nomatch z) (fun b o _ hb _ e n=>u.keep b o e n hb (by simp)) (fun b o _ hb _ e n=>u.slot b o e n hb (by simp)) (fun b o _ e n=>u.free b o e n (by simp)) (fun b o _ e=>u.there b o e (by simp)) u.tups u.frzs u.tbls (fun m' hm=>by
  obtain⟨o',es',ep',ho',r'⟩:=hm;rw[ho]at ho';cases ho';exact⟨_,es',ep',hL,r'⟩) hok I.bare
theorem Inv.call{g':Array GenState}{t':Nat}{d':Drawn}{ch:List Addr}(I:Inv X pins σ H s)(u:Un (frs X.stack) ch H H' s.heap h')(hok:HOk X.prog X.w H' h')(hg:AllBare g')
  (hch:∀ b∈ch,(b∈X.ex\/X.s₀.heap.objs.size<=b)/\b≠X.env.locals/\(∀ x c,X.env.cells.lookup x=some c->c≠b)/\∀ p∈X.pn++pins,p.1≠b) :
  Inv X pins σ H' { s with heap:=h',gens:=g',drawn:=d',toks:=t' }:=by
 obtain⟨m,⟨o,es,ep,ho,r⟩,_⟩:=id I.loc;obtain⟨sl,hL⟩:=u.any ho I.free fun z=>(hch _ z).2.1 rfl;exact I.step (ch:=ch) hch (fun b o hL hb hc e n=>u.keep b o e n (fun z=>(Z3.mp (I.stkSub b z)).elim hL hb) hc) (fun b o _ _ hc e n=>u.any e n hc) (fun b o hc e n=>u.free b o e n hc) (fun b o hc e=>u.there b o e hc) u.tups u.frzs u.tbls (fun m' hm=>by
  obtain⟨o',es',ep',ho',r'⟩:=hm;rw[ho]at ho';cases ho';exact⟨_,es',ep',hL,r'⟩) hok hg
theorem Inv.turned{t':Nat}{it:Addr}(I:Inv X pins σ H s)(k:∀ b o,b≠it->s.heap.get? b=some o->h'.get? b=some o)(hn:H it=none)(hL:it≠X.env.locals)
  (h1:it∈X.ex\/X.s₀.heap.objs.size<=it) (h2:∀ x c,X.env.cells.lookup x=some c->c≠it) (h3:∀ p∈X.pn++pins,p.1≠it):Inv X pins σ H { s with heap:=h',toks:=t' }:=by
 have nit:∀ b u,H b=some u->b≠it:=fun b u e z=>by rw[z,hn]at e;cases e
 refine I.step (g':=s.gens) (d':=s.drawn) (ch:=[it]) (fun b hb=>?_) (fun b o _ _ hc e _=>k b o (fun z=>hc (by simp[z])) e) (fun b o _ _ hc e _=>⟨o.slots,k b o (fun z=>hc (by simp[z])) e⟩) (fun _ _ _ _ n=>n)
  (fun b o hc e=>⟨o,k b o (fun z=>hc (by simp[z])) e⟩) (fun _ _ e=>e) (fun _ _ _ e=>e) (fun b ps e=>⟨#[],by rw[e];simp⟩) (fun m hm=>?_) (fun b u e=>?_) I.bare
 ·have e:b=it:=by simpa using hb
  subst e;exact⟨h1,hL,h2,h3⟩
 ·obtain⟨o,es,ep,ho,r⟩:=hm;exact⟨o,es,ep,k _ o (Ne.symm hL) ho,r⟩
 ·refine (I.hok b u e).stay (fun c v hc q=>k c v ?_ q) (fun _ q=>q) fun _ _ q=>q;rcases hc with z | z
  ·rw[z];exact nit b u e
  ·exact nit c _ z
theorem Inv.tok(I:Inv X pins σ H s)(t:Nat):Inv X pins σ H { s with toks:=t }:=I.un (h':=s.heap) (t':=t) Un.refl I.hok
theorem Inv.kept(I:Inv X pins σ H s)(k:∀ b u,s.heap.get? b=some u->h'.get? b=some u):Inv X pins σ H { s with heap:=h',toks:=t' }:=I.un (Un.kept k) (I.hok.kept k)
theorem Inv.laid(I:Inv X pins σ H s)(k:∀ b u,s.heap.get? b=some u->h'.get? b=some u)(hp:s.heap.objs.size<=a)(new:ObjOk X.prog X.w (upd H a o) h' a o) :
  Inv X pins σ (upd H a o) { s with heap:=h',toks:=t' }:=I.un (Un.laid k hp (I.hok.fresh hp)) (I.hok.laid k hp new)
theorem Inv.write(I:Inv X pins σ H s)(mu:Mut (H x))(he:e=x\/H e=some (.own x))(k:∀ b u,b≠e->s.heap.get? b=some u->h'.get? b=some u)(heo:∃ u,h'.get? e=some u)
  (new:ObjOk X.prog X.w (upd H x o) h' x o):Inv X pins σ (upd H x o) { s with heap:=h',toks:=t' }:=I.un (Un.write mu he k heo) (I.hok.write mu he k heo new)
theorem Inv.weak(I:Inv X pins σ H s)(hl:σ'.length=σ.length)(w:∀ (i:Nat) v,σ'[i]? = some (some v)->σ[i]? = some (some v)):Inv X pins σ' H s :=
 ⟨I.ok,I.os,I.bare,I.base,let ⟨m,hn,hl'⟩:=I.loc;⟨m,hn,fun i x v e1 e2 e3=>hl' i x v e1 (w i v e2) e3⟩,I.cell,I.free,I.freeC,I.pin,I.hok,hl.trans I.len⟩
theorem Inv.pins_of(I:Inv X pins σ H s)(h:∀ p∈pins',s.heap.get? p.1=some p.2/\H p.1=none/\p.1≠X.env.locals/\p.1∉X.fs/\∀ v,p.2.data≠.cell v):Inv X pins' σ H s :=
 ⟨I.ok,I.os,I.bare,I.base,I.loc,I.cell,I.free,I.freeC,fun p hp=>(ZO.mp hp).elim (fun z=>I.pin p (mem_append_left _ z)) (h p),I.hok,I.len⟩
theorem Q4I{N:List Str}(hN:N.Nodup){i j:Nat}{x:Str}(a:N[i]? = some x)(b:N[j]? = some x):i=j:=by
 obtain⟨h1,e1⟩:=Zk.mp a;obtain⟨h2,e2⟩:=Zk.mp b;exact (List.getElem_inj hN).mp (e1.trans e2.symm)
theorem Q3q{M:Model}{A:Around}{E:Value->Shared->Prop}{i:Nat}{x:Str}{v:V}{u:Value}{Q:Unit->Shared->Prop}(I:Inv X pins σ H s)(hN:X.N.Nodup)(hi:X.N[i]? = some x)(hx:Loc X.env.scope x)(r:RelV v u)
  (h:∀ s',Inv X pins (σ.set i (some v)) H s'->(∃ a,Heap.SameBut a s.heap s'.heap/\(a=X.env.locals\/X.env.cells.lookup x=some a))->Q () s') (hf:X.fn x=true\/X.env.scope.names.lookup x=some .local:=by first | exact .inl rfl | exact .inr rfl | assumption):wpAny M A (storeName X.env x u) Q E s:=by
 obtain⟨m,hn,hl⟩:=id I.loc;have hcls:(X.env.scope.kind==.class||(X.env.scope.kind==.module&&X.env.locals != X.env.globals))=false:=by rw[I.ok.kind];rfl
 have hiσ:i<σ.length:=by rw[I.len];exact (Zk.mp hi).1
 have cne:=I.cne;have tracked:∀ {a:Addr} {h':Heap},(∃ o,s.heap.get? a=some o/\H a=none)->Heap.SameBut a s.heap h'->HOk X.prog X.w H h':=fun{a h'} ha hs b ob e=>by
  obtain⟨_,_,hfree⟩:=ha;refine (I.hok b ob e).stay (fun c w' hc q=>(hs.2 c ?_).trans q) (fun _ q=>q) fun _ _ q=>q;rintro rfl;rcases hc with rfl | hc
  ·rw[hfree]at e;cases e
  ·rw[hfree]at hc;cases hc
 rcases hx with hk | hk
 ·refine wpAny_storeName_local hk hn (fun h' hn' hs=>?_) hcls;obtain⟨oL,_,_,hoL,_⟩:=id hn;refine h _ ⟨I.ok,I.os,I.bare,⟨fun b o e n hb hx=>?_,fun b o e n hb hx=>?_,I.base.free,fun b o e hx=>?_,I.base.tups,I.base.frzs,I.base.tbls⟩,⟨_,hn',fun j y v' e1 e2 e3=>?_⟩,fun y c e=>?_,I.free,I.freeC,fun p hp=>?_,tracked ⟨oL,hoL,I.free⟩ hs,by simpa using I.len⟩ ⟨_,hs,.inl rfl⟩
  ·exact (hs.2 b (ZJ (Z8 (Zp e) I.ok.above))).trans (I.base.keep b o e n hb hx)
  ·obtain⟨sl,e1⟩:=I.base.slot b o e n hb hx;exact⟨sl,(hs.2 b (ZJ (Z8 (Zp e) I.ok.above))).trans e1⟩
  ·obtain⟨o',e1⟩:=I.base.there b o e hx;exact⟨o',(hs.2 b (ZJ (Z8 (Zp e) I.ok.above))).trans e1⟩
  ·by_cases hj:j=i
   ·subst hj;rw[hi]at e1;cases e1;rw[List.getElem?_set_self hiσ]at e2;cases e2;exact⟨u,r,.inl ⟨hk,by simp⟩⟩
   ·rw[List.getElem?_set_ne (Ne.symm hj)]at e2;obtain⟨u',r',q⟩:=hl j y v' e1 e2 e3;refine⟨u',r',?_⟩;rcases q with ⟨k,e⟩ | ⟨k,c,e,z⟩
    ·refine .inl ⟨k,?_⟩;have:y≠x:=fun e=>hj (Q4I hN e1 (e ▸ hi));simp[this,e]
    ·exact .inr ⟨k,c,e,z.sameBut hs (cne y c e)⟩
  ·obtain⟨w',z⟩:=I.cell y c e;exact⟨w',z.sameBut hs (cne y c e)⟩
  ·obtain⟨e,n,ne,nf,d⟩:=I.pin p hp;exact⟨(hs.2 p.1 ne).trans e,n,ne,nf,d⟩
 ·have hfn:X.fn x=true:=by
   rcases hf with z | z
   ·exact z
   ·rw[z]at hk;cases hk
  obtain⟨c,hc⟩:=I.ok.has x (.inl hk);obtain⟨w',z⟩:=I.cell x c hc;refine wpAny_storeName_cell I.ok.kind hk hc z (fun h' hc' hs=>?_);obtain⟨oc,hoc,hocd⟩:=id z;refine h { s with heap:=h' } ⟨I.ok,I.os,I.bare,⟨fun b o e n hb hx=>?_,fun b o e n hb hx=>?_,I.base.free,fun b o e hx=>?_,I.base.tups,I.base.frzs,I.base.tbls⟩,⟨m,hn.sameBut hs (Ne.symm (cne x c hc)),fun j y v' e1 e2 e3=>?_⟩,fun y c' e=>?_,I.free,I.freeC,fun p hp=>?_,tracked ⟨oc,hoc,I.freeC x c hc⟩ hs,by simpa using I.len⟩ ⟨c,hs,.inr hc⟩
  ·exact (hs.2 b (ZJ (Z8 (Zp e) (I.ok.cab x c hfn hc)))).trans (I.base.keep b o e n hb hx)
  ·obtain⟨sl,e1⟩:=I.base.slot b o e n hb hx;exact⟨sl,(hs.2 b (ZJ (Z8 (Zp e) (I.ok.cab x c hfn hc)))).trans e1⟩
  ·obtain⟨o',e1⟩:=I.base.there b o e hx;exact⟨o',(hs.2 b (ZJ (Z8 (Zp e) (I.ok.cab x c hfn hc)))).trans e1⟩
  ·by_cases hj:j=i
   ·subst hj;rw[hi]at e1;cases e1;rw[List.getElem?_set_self hiσ]at e2;cases e2;exact⟨u,r,.inr ⟨.inl hk,c,hc,hc'⟩⟩
   ·rw[List.getElem?_set_ne (Ne.symm hj)]at e2;obtain⟨u',r',q⟩:=hl j y v' e1 e2 e3;refine⟨u',r',?_⟩;rcases q with q | ⟨k,c',e,z'⟩
    ·exact .inl q
    ·refine .inr ⟨k,c',e,z'.sameBut hs ?_⟩;rintro rfl;exact hj (Q4I hN e1 (I.ok.inj _ _ _ e hc ▸ hi))
  ·by_cases hcc:c'=c
   ·subst hcc;exact⟨_,hc'⟩
   ·obtain⟨w2,z2⟩:=I.cell y c' e;exact⟨w2,z2.sameBut hs hcc⟩
  ·obtain⟨e,n,ne,nf,d⟩:=I.pin p hp;refine⟨(hs.2 p.1 ?_).trans e,n,ne,nf,d⟩;intro q;rw[q,hoc]at e;have q':oc=p.2:=Z6 e;exact d w' (by rw[<- q'];exact hocd)
theorem Q4J{E:Value->Shared->Prop}{Q:Unit->Shared->Prop}(I:Inv X pins σ H s)(hN:X.N.Nodup)(hi:X.N[i]? = some x)(hx:Loc X.env.scope x)(r:RelV v u)
  (h:∀ s',Inv X pins (σ.set i (some v)) H s'->Q () s') (hf:X.fn x=true\/X.env.scope.names.lookup x=some .local:=by first | exact .inl rfl | exact .inr rfl | assumption):wpAny M A (storeName X.env x u) Q E s :=
 Q3q I hN hi hx r (fun s' I' _=>h s' I') hf
theorem Inv.call'(I:Inv X pins σ H s)(ho:s'.os=s.os)(u:Un (frs X.stack) ch H H' s.heap s'.heap)(hok:HOk X.prog X.w H' s'.heap)(hg:AllBare s'.gens)
  (hch:∀ b∈ch,(b∈X.ex\/X.s₀.heap.objs.size<=b)/\b≠X.env.locals/\(∀ x c,X.env.cells.lookup x=some c->c≠b)/\∀ p∈X.pn++pins,p.1≠b):Inv X pins σ H' s':=by
 obtain⟨h',g',d',t',o'⟩:=s';have e:o'=s.os:=ho;subst e;exact I.call (g':=g') (t':=t') (d':=d') u hok hg hch
end
noncomputable abbrev XK:=Value->Option (Int×Addr)->Hp->Prop
noncomputable abbrev St:=List (Option V)
noncomputable abbrev VK:=V->Hp->Prop
noncomputable abbrev TE:=St->Hp->VK->Prop
noncomputable abbrev TT:=St->Hp->(Bool->Hp->Prop)->Prop
noncomputable abbrev TA:=St->Hp->(List V->Hp->Prop)->Prop
structure Ends where
 nx:St->Hp->Prop
 rt:VK
 bk:St->Hp->Prop:=fun _ _=>False
 ct:St->Hp->Prop:=fun _ _=>False
noncomputable abbrev TS:=Ends->St->Hp->Prop
inductive EP(X:Cx)(pins:List (Addr×Obj))(σ:St)(Q:VK)(u:Value)(s':Shared):Prop
 | mk (v:V) (H':Hp) (I:Inv X pins σ H' s') (r:RelV v u) (q:Q v H')
noncomputable def TP(X:Cx)(pins:List (Addr×Obj))(σ:St)(Q:Bool->Hp->Prop)(b:Bool)(s':Shared):Prop:=∃ H',Inv X pins σ H' s'/\Q b H'
inductive AP(X:Cx)(pins:List (Addr×Obj))(σ:St)(Q:List V->Hp->Prop)(us:List Value)(s':Shared):Prop
 | mk (vs:List V) (H':Hp) (I:Inv X pins σ H' s') (r:Vals vs us) (q:Q vs H')
noncomputable def SP(X:Cx)(pins:List (Addr×Obj))(D:Ends)(f:Flow)(s':Shared):Prop :=
 match f with
 | .next=>∃ σ' H',Inv X pins σ' H' s'/\D.nx σ' H'
 | .brk=>∃ σ' H',Inv X pins σ' H' s'/\D.bk σ' H'
 | .cont=>∃ σ' H',Inv X pins σ' H' s'/\D.ct σ' H'
 | .ret u=>∃ v σ' H',Inv X pins σ' H' s'/\RelV v u/\D.rt v H'
noncomputable def PE(X:Cx)(e:Expr)(t:TE):Prop :=
 ∀ (pins:List (Addr×Obj)) (s:Shared) (σ:St) (H:Hp) (Q:VK),Inv X pins σ H s->t σ H Q->wpAny (model X.prog X.w) X.A (eval e X.env) (EP X pins σ Q) X.xe s
noncomputable def PT(X:Cx)(e:Expr)(t:TT):Prop :=
 ∀ (pins:List (Addr×Obj)) (s:Shared) (σ:St) (H:Hp) (Q:Bool->Hp->Prop),Inv X pins σ H s->t σ H Q->wpAny (model X.prog X.w) X.A (isTrue e X.env (eval e X.env)) (TP X pins σ Q) X.xe s
noncomputable def PW(X:Cx)(e:Expr)(t:TT):Prop :=
 ∀ (whole:Sem Value) (pins:List (Addr×Obj)) (s:Shared) (σ:St) (H:Hp) (Q:Bool->Hp->Prop),Inv X pins σ H s->t σ H Q->wpAny (model X.prog X.w) X.A (isTrue e X.env whole) (TP X pins σ Q) X.xe s
theorem PW.pt(h:PW X e t):PT X e t:=h _
noncomputable def PA(X:Cx)(es:List Expr)(t:TA):Prop :=
 ∀ (pos:Pos) (pins:List (Addr×Obj)) (s:Shared) (σ:St) (H:Hp) (Q:List V->Hp->Prop),Inv X pins σ H s->t σ H Q->wpAny (model X.prog X.w) X.A (spliced (backTo pos (starEach es X.env))) (AP X pins σ Q) X.xe s
noncomputable def PS(X:Cx)(st:Stmt)(t:TS):Prop :=
 ∀ (pins:List (Addr×Obj)) (s:Shared) (σ:St) (H:Hp) (D:Ends),Inv X pins σ H s->t D σ H->wpAny (model X.prog X.w) X.A (exec st X.env) (SP X pins D) X.xe s
noncomputable def PSs(X:Cx)(st:List Stmt)(t:TS):Prop :=
 ∀ (pins:List (Addr×Obj)) (s:Shared) (σ:St) (H:Hp) (D:Ends),Inv X pins σ H s->t D σ H->wpAny (model X.prog X.w) X.A (execs st X.env) (SP X pins D) X.xe s
theorem thn{α:Type}{t:Sem α}{Q Q':α->Shared->Prop}{M:Model}{A:Around}{E:Value->Shared->Prop}{s:Shared}(h:wpAny M A t Q E s)(hQ:∀ a s,Q a s->Q' a s):wpAny M A t Q' E s:=Yt h hQ fun _ _ x=>x
section
variable{X:Cx}
theorem bin{a b:Expr}{ta tb:TE}(ha:PE X a ta)(hb:PE X b tb){pins:List (Addr×Obj)}{s:Shared}{σ:St}{H:Hp}{R:V->V->Hp->Prop}(I:Inv X pins σ H s)(h:ta σ H fun x H1=>tb σ H1 fun y H2=>R x y H2)
  {α:Type} {Q:α->Shared->Prop} {f:Value->Value->Sem α}
  (hf:∀ v u s2 x y H2,Inv X pins σ H2 s2->RelV x v->RelV y u->R x y H2->wpAny (model X.prog X.w) X.A (f v u) Q X.xe s2) :
  wpAny (model X.prog X.w) X.A (eval a X.env) (fun v s₁=>wpAny (model X.prog X.w) X.A (eval b X.env) (fun u s₂=>wpAny (model X.prog X.w) X.A (f v u) Q X.xe s₂) X.xe s₁) X.xe s:=by
 refine thn (ha pins s σ H _ I h) fun v s1 ⟨x,H1,I1,r1,q1⟩=>?_;refine thn (hb pins s1 σ H1 _ I1 q1) fun u s2 ⟨y,H2,I2,r2,q2⟩=>?_;exact hf v u s2 x y H2 I2 r1 r2 q2
noncomputable def tVar(i:Nat):TE:=fun σ H Q=>∃ v,σ[i]? = some (some v)/\Q v H
noncomputable def tC(v:V):TE:=fun _ H Q=>Q v H
theorem Q9E(hN:X.N[i]? = some x)(hv:Vis X.env.scope x)(hd:(x==("__debug__" : Str))=false:=by decide)(hcd:(x==("__classdict__" : Str))=false:=by decide):PE X (.Name x pos) (tVar i):=by
 intro pins s σ H Q I h;obtain⟨v,e,h⟩:=h;obtain⟨m,hn,hl⟩:=I.loc;obtain⟨u,r,l⟩:=hl i x v hN e hv;have fin:EP X pins σ Q u s:=⟨v,H,I,r,h⟩;rcases l with ⟨hk,hm⟩ | ⟨hk,c,hc,hcell⟩
 ·exact wpAny_Name (wpAny_loadName_local I.ok.kind hk hn hm fin) hd
 ·rcases hk with hk | hk
  ·exact wpAny_Name (wpAny_loadName_cell I.ok.kind hk hc hcell fin) hd
  ·exact wpAny_Name (wpAny_loadName_free I.ok.kind hk hc hcell fin hcd) hd
theorem QbF{i j pos}:PE X (.Constant (.int i) j pos) (tC (.int i)):=fun _ _ _ H _ I h=>wpAny_Constant_int ⟨.int i,H,I.tok _,⟨_,rfl⟩,h⟩
theorem pe_bl{b j pos}:PE X (.Constant (.bool b) j pos) (tC (.bl b)):=fun _ _ _ H _ I h=>Constant_bool ⟨.bl b,H,I,rfl,h⟩
theorem QbG{j pos}:PE X (.Constant .none j pos) (tC .non):=fun _ _ _ H _ I h=>Constant_none ⟨.non,H,I,rfl,h⟩
theorem QbH{x j pos}:PE X (.Constant (.str x) j pos) (tC (.str x)):=fun _ _ _ H _ I h=>Calls.Constant_str ⟨.str x,H,I.tok _,⟨_,rfl⟩,h⟩
noncomputable def Gl(X:Cx)(x:Str):Prop:=X.env.kindOf x=some .globalImplicit
theorem Q4l{E:Value->Shared->Prop}{Q:Value->Shared->Prop}(I:Inv X pins σ H s)(hg:Gl X x)(hm:X.mg x=some u)(h:Q u s)
  (hd:(x==("__debug__" : Str))=false:=by decide):wpAny (model X.prog X.w) X.A (eval (.Name x pos) X.env) Q E s :=
 Calls.Name_function_global I.ok.kind hg (Calls.loadGlobal_global (by rw[I.ok.glob];exact I.mod.glob.keeps I.bk) hm h) hd
theorem Q3r{E:Value->Shared->Prop}{Q:Value->Shared->Prop}(I:Inv X pins σ H s)(hg:Gl X x)(hm:X.mg x=none)(hv:bootBuiltins x=some u)(h:Q u s)
  (hn:x ≠ "__name__":=by decide) (hd:(x==("__debug__" : Str))=false:=by decide):wpAny (model X.prog X.w) X.A (eval (.Name x pos) X.env) Q E s:=by
 obtain⟨mb,h1,h2⟩:=I.mod.blt;exact Calls.Name_function_global I.ok.kind hg (Calls.loadGlobal_builtin (by rw[I.ok.glob];exact I.mod.glob.keeps I.bk) hm (by rw[I.ok.blt];exact h1.keeps I.bk) ((h2 x hn).trans hv) h) hd
theorem Qa5(hg:Gl X x)(hm:X.mg x=some u)(r:RelV v u)(hd:(x==("__debug__" : Str))=false:=by decide):PE X (.Name x pos) (tC v) :=
 fun _ _ _ H _ I h=>Q4l I hg hm ⟨v,H,I,r,h⟩ hd
theorem Qa6(hg:Gl X x)(hm:X.mg x=none)(hv:bootBuiltins x=some u)(r:RelV v u)(hn:x ≠ "__name__":=by decide)(hd:(x==("__debug__" : Str))=false:=by decide):PE X (.Name x pos) (tC v) :=
 fun _ _ _ H _ I h=>Q3r I hg hm hv ⟨v,H,I,r,h⟩ hn hd
variable{a b:Expr}{ta tb:TE}{pos:Pos}
noncomputable def tB(t:TE):TT:=fun σ H Q=>t σ H fun x H1=>∃ c,x=.bl c/\Q c H1
theorem QbI{e:Expr}{t:TE}(h:PE X e t)(he:∀ whole,isTrue e X.env whole=(do let v <- whole;standAt e.pos;holding [v] (truthy v)):=by intro _;rfl):PT X e (tB t):=by
 intro pins s σ H Q I hw;refine isTrue_plain (thn (h pins s σ H _ I hw) fun v s1 ⟨x,H1,I1,r1,q1⟩=>?_) (he _);obtain⟨d,rfl,q⟩:=q1;cases r1;exact Yi ⟨H1,I1,q⟩
variable{tA tB':TT}{rest:List Expr}
noncomputable def tAnd(t u:TT):TT:=fun σ H Q=>t σ H fun c H1=>if c=true then u σ H1 Q else Q false H1
noncomputable def tOr(t u:TT):TT:=fun σ H Q=>t σ H fun c H1=>if c=true then Q true H1 else u σ H1 Q
noncomputable def tNot(t:TT):TT:=fun σ H Q=>t σ H fun c H1=>Q (!c) H1
theorem Qa7(ha:PT X a tA):PW X (.BoolOp .And [a] pos) tA:=by
 intro wh pins s σ H Q I h;refine isTrue_and (thn (ha pins s σ H Q I h) fun c s1 e=>?_);cases c with
 | true=>exact isTrue_and_nil e
 | false=>exact e
theorem QbJ(ha:PT X a tA):PW X (.BoolOp .Or [a] pos) tA:=by
 intro wh pins s σ H Q I h;refine isTrue_or (thn (ha pins s σ H Q I h) fun c s1 e=>?_);cases c with
 | false=>exact isTrue_or_nil e
 | true=>exact e
theorem QbK(ha:PT X a tA)(hb:PW X (.BoolOp .And (b::rest) pos) tB'):PW X (.BoolOp .And (a::b::rest) pos) (tAnd tA tB'):=by
 intro wh pins s σ H Q I h;refine isTrue_and (thn (ha pins s σ H _ I h) fun c s1 ⟨H1,I1,q1⟩=>?_);cases c with
 | true=>exact hb wh pins s1 σ H1 Q I1 q1
 | false=>exact⟨H1,I1,q1⟩
theorem pw_or(ha:PT X a tA)(hb:PW X (.BoolOp .Or (b::rest) pos) tB'):PW X (.BoolOp .Or (a::b::rest) pos) (tOr tA tB'):=by
 intro wh pins s σ H Q I h;refine isTrue_or (thn (ha pins s σ H _ I h) fun c s1 ⟨H1,I1,q1⟩=>?_);cases c with
 | true=>exact⟨H1,I1,q1⟩
 | false=>exact hb wh pins s1 σ H1 Q I1 q1
theorem QbL(ha:PT X a tA):PT X (.UnaryOp .Not a pos) (tNot tA):=by
 intro pins s σ H Q I h;exact isTrue_not (ha pins s σ H (fun c H1=>Q (!c) H1) I h)
noncomputable def tAndV(ta tb:TE):TE:=fun σ H Q=>ta σ H fun x H1=>∃ c,x=.bl c/\if c=true then tb σ H1 Q else Q (.bl false) H1
noncomputable def tOrV(ta tb:TE):TE:=fun σ H Q=>ta σ H fun x H1=>∃ c,x=.bl c/\if c=true then Q (.bl true) H1 else tb σ H1 Q
noncomputable def tNotV(ta:TE):TE:=fun σ H Q=>ta σ H fun x H1=>∃ c,x=.bl c/\Q (.bl (!c)) H1
theorem QbM{op}(h:PE X a t):PE X (.BoolOp op [a] pos) t:=fun pins s σ H Q I hw=>BoolOp_one (h pins s σ H Q I hw)
theorem QbN(ha:PE X a ta)(hb:PE X (.BoolOp .And (b::rest) pos) tb):PE X (.BoolOp .And (a::b::rest) pos) (tAndV ta tb):=by
 intro pins s σ H Q I h;refine BoolOp_and (thn (ha pins s σ H _ I h) fun v s1 ⟨x,H1,I1,r1,q1⟩=>?_);obtain⟨c,rfl,q1⟩:=q1;cases r1;refine Yi ?_;cases c with
 | true=>exact hb pins s1 σ H1 Q I1 q1
 | false=>exact⟨.bl false,H1,I1,rfl,q1⟩
theorem pe_or(ha:PE X a ta)(hb:PE X (.BoolOp .Or (b::rest) pos) tb):PE X (.BoolOp .Or (a::b::rest) pos) (tOrV ta tb):=by
 intro pins s σ H Q I h;refine BoolOp_or (thn (ha pins s σ H _ I h) fun v s1 ⟨x,H1,I1,r1,q1⟩=>?_);obtain⟨c,rfl,q1⟩:=q1;cases r1;refine Yi ?_;cases c with
 | false=>exact hb pins s1 σ H1 Q I1 q1
 | true=>exact⟨.bl true,H1,I1,rfl,q1⟩
theorem QbO(ha:PE X a ta):PE X (.UnaryOp .Not a pos) (tNotV ta):=by
 intro pins s σ H Q I h;refine UnaryOp_ (thn (ha pins s σ H _ I h) fun v s1 ⟨x,H1,I1,r1,q1⟩=>?_);obtain⟨c,rfl,q1⟩:=q1;cases r1;exact not_of (Yi ⟨.bl (!c),H1,I1,rfl,q1⟩)
noncomputable def tIf(t:TT)(ta tb:TE):TE:=fun σ H Q=>t σ H fun c H1=>if c=true then ta σ H1 Q else tb σ H1 Q
theorem Q8a{c:Expr}(hc:PT X c tA)(ha:PE X a ta)(hb:PE X b tb):PE X (.IfExp c a b pos) (tIf tA ta tb):=by
 intro pins s σ H Q I h;refine wpAny_IfExp (thn (hc pins s σ H _ I h) fun d s1 ⟨H1,I1,q1⟩=>?_);cases d with
 | true=>exact ha pins s1 σ H1 Q I1 q1
 | false=>exact hb pins s1 σ H1 Q I1 q1
end
noncomputable def SqL(K:Frag)(H:Hp)(a:Addr)(xs:List V):Prop :=
 Rd H a (.lst xs) \/
  ∃ (o:Obj) (its:Array Value) (n:Nat),K.lookup a=some o/\o.cls=.type "list" /\ o.dict=none/\o.data=.seq its n/\its.size<=sizeLine/\Vals xs its.toList
noncomputable def SqT(K:Frag)(H:Hp)(a:Addr)(xs:List V):Prop :=
 Rd H a (.tup xs) \/
  ∃ (o:Obj) (its:Array Value) (n:Nat),K.lookup a=some o/\o.cls=.type "tuple" /\ o.data=.seq its n/\its.size<=sizeLine/\Vals xs its.toList
noncomputable def absV:Value->Option V
 | .none=>some .non
 | .bool b=>some (.bl b)
 | .int i _=>some (.int i)
 | .str x _=>some (.str x)
 | .bytes b _=>some (.byt b)
 | .float b _=>some (.flt b)
 | .ref a=>some (.ref a)
 | .type n=>some (.ty n)
 | _=>none
theorem RelV.abs(r:RelV x u):absV u=some x:=by
 cases x with
 | non=>cases r;rfl
 | bl _=>cases r;rfl
 | int _=>obtain⟨t,rfl⟩:=r;rfl
 | str _=>obtain⟨t,rfl⟩:=r;rfl
 | byt _=>obtain⟨t,rfl⟩:=r;rfl
 | flt _=>obtain⟨t,rfl⟩:=r;rfl
 | ref _=>cases r;rfl
 | ty _=>cases r;rfl
theorem RelV.inj(r:RelV x u)(q:RelV y u):x=y:=Z6 (r.abs.symm.trans q.abs)
theorem Vals.inj:∀ {xs ys:List V} {us:List Value},Vals xs us->Vals ys us->xs=ys
 | _,_,_,.nil,.nil=>rfl
 | _,_,_,.cons r t,.cons r' t'=>by rw[r.inj r',Vals.inj t t']
section
variable{X:Cx}{pins:List (Addr×Obj)}{σ:St}{H:Hp}{s:Shared}{a:Addr}{xs ys:List V}
theorem SqL.of{K:Frag}(h:H a=some (.lst xs)):SqL K H a xs:=.inl (.inl h)
theorem SqT.of{K:Frag}(h:H a=some (.tup xs)):SqT K H a xs:=.inl (.inl h)
theorem Inv.list(I:Inv X pins σ H s)(h:SqL X.K H a xs):∃ its:List Value,Vals xs its/\PlainL s.heap a its.toArray/\xs.length<=sizeLine:=by
 rcases h with h | ⟨o,its,n,hk,hc,hd,hs,hz,r⟩
 ·obtain⟨z,its,n,r,e⟩:=h.ok I.hok;exact⟨its,r,⟨_,n,e,rfl,rfl,rfl⟩,z⟩
 ·refine⟨its.toList,r,⟨o,n,I.kIn a o hk,hc,hd,by simpa using hs⟩,?_⟩
  have e:=r.length;simp only[ZE]at e;omega
theorem Inv.tuple(I:Inv X pins σ H s)(h:SqT X.K H a xs):∃ its:List Value,Vals xs its/\IsTup s.heap a its.toArray/\xs.length<=sizeLine:=by
 rcases h with h | ⟨o,its,n,hk,hc,hs,hz,r⟩
 ·obtain⟨z,its,r,p⟩:=h.ok I.hok;exact⟨its,r,p,z⟩
 ·refine⟨its.toList,r,⟨o,I.kIn a o hk,hc,n,by simpa using hs⟩,?_⟩
  have e:=r.length;simp only[ZE]at e;omega
theorem Inv.list_inj(I:Inv X pins σ H s)(h:SqL X.K H a xs)(h':SqL X.K H a ys):xs=ys:=by
 obtain⟨its,r,⟨o,n,e,_,_,d⟩,_⟩:=I.list h;obtain⟨its',r',⟨o',n',e',_,_,d'⟩,_⟩:=I.list h';rw[e]at e';cases e';rw[d]at d';injection d' with d1 _;have:its=its':=by simpa using congrArg Array.toList d1
 subst this;exact r.inj r'
theorem Inv.tuple_inj(I:Inv X pins σ H s)(h:SqT X.K H a xs)(h':SqT X.K H a ys):xs=ys:=by
 obtain⟨its,r,⟨o,e,_,n,d⟩,_⟩:=I.tuple h;obtain⟨its',r',⟨o',e',_,n',d'⟩,_⟩:=I.tuple h';rw[e]at e';cases e';rw[d]at d';injection d' with d1 _;have:its=its':=by simpa using congrArg Array.toList d1
 subst this;exact r.inj r'
end
noncomputable abbrev Cx.wish(X:Cx)(E:Value->Shared->Prop):Cx:={ X with xe:=E }
noncomputable abbrev Cx.nox(X:Cx):Cx:=X.wish fun _ _=>False
theorem Cx.Ok.wish{X:Cx}(ok:X.Ok)(E:Value->Shared->Prop):(X.wish E).Ok :=
 ⟨ok.mod,ok.kind,ok.glob,ok.blt,ok.above,ok.inj,ok.has,ok.cab,ok.hd,ok.frames,ok.stk,ok.exf,ok.bs,ok.bsz,ok.noex,ok.exfs,ok.funs,ok.frf⟩
theorem Cx.Ok.unwish{X:Cx}{E:Value->Shared->Prop}(ok:(X.wish E).Ok):X.Ok :=
 ⟨ok.mod,ok.kind,ok.glob,ok.blt,ok.above,ok.inj,ok.has,ok.cab,ok.hd,ok.frames,ok.stk,ok.exf,ok.bs,ok.bsz,ok.noex,ok.exfs,ok.funs,ok.frf⟩
section
variable{X:Cx}{pins:List (Addr×Obj)}{σ:St}{H:Hp}{s:Shared}{E:Value->Shared->Prop}
theorem Inv.wish(I:Inv X pins σ H s)(E:Value->Shared->Prop):Inv (X.wish E) pins σ H s:=⟨I.ok.wish E,I.os,I.bare,I.base,I.loc,I.cell,I.free,I.freeC,I.pin,I.hok,I.len⟩
theorem Inv.unwish(I:Inv (X.wish E) pins σ H s):Inv X pins σ H s:=⟨I.ok.unwish,I.os,I.bare,I.base,I.loc,I.cell,I.free,I.freeC,I.pin,I.hok,I.len⟩
theorem SP.unwish(h:SP (X.wish E) pins D f s'):SP X pins D f s':=by
 cases f with
 | next=>obtain⟨σ',H',I,q⟩:=h;exact⟨σ',H',I.unwish,q⟩
 | brk=>obtain⟨σ',H',I,q⟩:=h;exact⟨σ',H',I.unwish,q⟩
 | cont=>obtain⟨σ',H',I,q⟩:=h;exact⟨σ',H',I.unwish,q⟩
 | ret u=>obtain⟨v,σ',H',I,r,q⟩:=h;exact⟨v,σ',H',I.unwish,r,q⟩
theorem PSs.nox{st:List Stmt}{t:TS}(h:PSs X.nox st t):PSs X st t:=fun pins s σ H D I hw =>
 Yt (h pins s σ H D (I.wish _) hw) (fun _ _ q=>q.unwish) fun _ _ z=>False.elim z
end
section
variable{X:Cx}{st:Stmt}{rest:List Stmt}{t u:TS}{e:Expr}{te:TE}{pos:Pos}
noncomputable def tNext:TS:=fun D σ H=>D.nx σ H
noncomputable def tSeq(t u:TS):TS:=fun D σ H=>t { D with nx:=u D } σ H
theorem Qa8:PSs X [] tNext:=fun _ _ σ H _ I h=>wpAny_execs_nil ⟨σ,H,I,h⟩
theorem Q8b(h1:PS X st t)(h2:PSs X rest u):PSs X (st::rest) (tSeq t u):=by
 intro pins s σ H D I h;refine wpAny_execs_cons (thn (h1 pins s σ H { D with nx:=u D } I h) fun f s1 q=>?_);cases f with
 | next =>
  obtain⟨σ',H',I',q⟩:=q;exact h2 pins s1 σ' H' D I' q
 | ret v=>exact q
 | brk=>exact q
 | cont=>exact q
theorem Inv.quiet(I:Inv X pins σ H s):interactive X.env=false:=by simp[interactive,I.ok.kind]
noncomputable def tDrop(te:TE):TS:=fun D σ H=>te σ H fun _ H1=>D.nx σ H1
theorem Qa9(he:PE X e te)(hs:swapsWith e none pos.line X.env=pure false:=by rfl):PS X (.Expr e pos) (tDrop te):=by
 intro pins s σ H D I h;exact wpAny_Expr_any (thn (he pins s σ H _ I h) fun v s1 ⟨x,H1,I1,r1,q1⟩=>⟨σ,H1,I1,q1⟩) I.quiet hs
noncomputable def tRet(te:TE):TS:=fun D σ H=>te σ H D.rt
theorem QbP(he:PE X e te):PS X (.Return (some e) pos) (tRet te):=by
 intro pins s σ H D I h;exact wpAny_Return_some (thn (he pins s σ H _ I h) fun v s1 ⟨x,H1,I1,r1,q1⟩=>⟨x,σ,H1,I1,r1,q1⟩)
noncomputable def tIfS(c:TT)(t u:TS):TS:=fun D σ H=>c σ H fun b H1=>if b=true then t D σ H1 else u D σ H1
theorem ps_if{c:Expr}{a b:List Stmt}{tc:TT}(hc:PT X c tc)(ha:PSs X a t)(hb:PSs X b u):PS X (.If c a b pos) (tIfS tc t u):=by
 intro pins s σ H D I h;refine wpAny_If (thn (hc pins s σ H _ I h) fun d s1 ⟨H1,I1,q1⟩=>?_);cases d with
 | true=>exact ha pins s1 σ H1 D I1 q1
 | false=>exact hb pins s1 σ H1 D I1 q1
end
noncomputable abbrev TG:=V->St->Hp->(St->Hp->Prop)->Prop
noncomputable abbrev TGs:=List V->St->Hp->(St->Hp->Prop)->Prop
noncomputable def PG(X:Cx)(target:Expr)(t:TG):Prop :=
 ∀ (pins:List (Addr×Obj)) (s:Shared) (σ:St) (H:Hp) (v:V) (u:Value) (Q:St->Hp->Prop),Inv X pins σ H s->RelV v u->t v σ H Q ->
  wpAny (model X.prog X.w) X.A (assign target X.env u) (fun _ s'=>∃ σ' H',Inv X pins σ' H' s'/\Q σ' H') X.xe s
noncomputable def PGs(X:Cx)(ts:List Expr)(t:TGs):Prop :=
 ∀ (pins:List (Addr×Obj)) (s:Shared) (σ:St) (H:Hp) (vs:List V) (us:List Value) (Q:St->Hp->Prop),Inv X pins σ H s->Vals vs us->t vs σ H Q ->
  wpAny (model X.prog X.w) X.A (assignInOrder ((assignEach ts X.env).map (·.2)) us) (fun _ s'=>∃ σ' H',Inv X pins σ' H' s'/\Q σ' H') X.xe s
section
variable{X:Cx}{pos:Pos}
noncomputable def zaW(i:Nat):TG:=fun v σ H Q=>Q (σ.set i (some v)) H
theorem Q6o(hN:X.N.Nodup)(hi:X.N[i]? = some x)(hx:Loc X.env.scope x)(hf:X.fn x=true\/X.env.scope.names.lookup x=some .local:=by first | exact .inl rfl | exact .inr rfl | assumption):PG X (.Name x pos) (zaW i):=by
 intro pins s σ H v u Q I r h;exact wpAny_assign_Name (Q4J I hN hi hx r (fun s' I'=>⟨_,H,I',h⟩) hf)
noncomputable def gNil:TGs:=fun vs σ H Q=>vs=[]/\Q σ H
noncomputable def zbT(t:TG)(u:TGs):TGs:=fun vs σ H Q=>∃ v r,vs=v::r/\t v σ H fun σ' H'=>u r σ' H' Q
theorem Qaa:PGs X [] gNil:=by
 intro pins s σ H vs us Q I r h;obtain⟨e,h⟩:=h;subst e;cases r;exact assignInOrder_nil ⟨σ,H,I,h⟩
theorem Q4K{e:Expr}{es:List Expr}{t:TG}{u:TGs}(h1:PG X e t)(h2:PGs X es u)
  (hs:(assignEach (e::es) X.env).map (·.2)=assign e X.env::(assignEach es X.env).map (·.2):=by rfl):PGs X (e::es) (zbT t u):=by
 intro pins s σ H vs us Q I r h;obtain⟨v,vr,e1,h⟩:=h;subst e1;cases r with
 | cons r rr =>
  rw[hs];refine assignInOrder_cons (thn (h1 pins s σ H _ _ _ I r h) fun _ s1 ⟨σ1,H1,I1,q1⟩=>?_);exact h2 pins s1 σ1 H1 _ _ Q I1 rr q1
noncomputable def gTup(K:Frag)(n:Nat)(t:TGs):TG:=fun v σ H Q=>∃ a xs,v=.ref a/\SqT K H a xs/\xs.length=n/\t xs σ H Q
theorem QbQ(hc:X.calm=true)(h:PGs X es t)
  (hn:(assignEach es X.env).length=n:=by rfl) (hst:(assignEach es X.env).findIdx? (·.1)=none:=by rfl):PG X (.Tuple es k pos) (gTup X.K n t):=by
 intro pins s σ H v u Q I r hw;obtain⟨a,xs,e1,hq,hl,hw⟩:=hw;subst e1;cases r;obtain⟨its,rv,ht,hz⟩:=I.tuple hq;refine assign_Tuple_tuple (I.ok.hd hc) ht (by simp[hn,<- hl,rv.length]) hst fun h' hx=>?_
 have I1:Inv X pins σ H { s with heap:=h' }:=I.kept (t':=s.toks) fun b o e=>hx b o (ZJ (Zp e)) e;exact h pins _ σ H xs _ Q I1 (by simpa using rv) hw
noncomputable def tAsg(te:TE)(g:TG):TS:=fun D σ H=>te σ H fun x H1=>g x σ H1 D.nx
theorem QbR{i:Nat}{x:Str}{e:Expr}{te:TE}{pos':Pos}(hN:X.N.Nodup)(hi:X.N[i]? = some x)(hx:Loc X.env.scope x)(he:PE X e te)(hs:swapsWith e (some (.Name x pos')) pos.line X.env=pure false:=by rfl)(hf:X.fn x=true\/X.env.scope.names.lookup x=some .local:=by first | exact .inl rfl | exact .inr rfl | assumption) :
  PS X (.Assign [.Name x pos'] e pos) (tAsg te (zaW i)):=by
 intro pins s σ H D I h;refine wpAny_Assign_Name (thn (he pins s σ H _ I h) fun v s1 ⟨y,H1,I1,r1,q1⟩=>?_) hs;exact Q4J I1 hN hi hx r1 (fun s2 I2=>⟨_,H1,I2,q1⟩) hf
end
section
variable{X:Cx}{pos:Pos}
noncomputable def tWhile(c:TT)(tb:TS):TS:=fun D σ H=>∃ W:Nat->St->Hp->Prop,(∃ m,W m σ H)/\∀ m σ H,W m σ H ->
 c σ H fun b H1=>if b=true then ∃ N:St->Hp->Prop,(∀ σ' H',N σ' H'->∃ m',m'<m/\W m' σ' H')/\tb { D with nx:=N,ct:=N,bk:=D.nx } σ H1 else D.nx σ H1
theorem Q8c{c:Expr}{body:List Stmt}{tc:TT}{tb:TS}(hp:PassesOwn (model X.prog X.w) X.A X.env X.xe)(hc:PT X c tc)(hb:PSs X body tb):PS X (.While c body [] pos) (tWhile tc tb):=by
 intro pins s σ H D I h;obtain⟨W,⟨m0,w0⟩,turn⟩:=h;refine wpAny_While (codeAny_whileLoop (fun n s'=>∃ σ' H',Inv X pins σ' H' s'/\W n σ' H') ?_ m0 ⟨σ,H,I,w0⟩);rintro n s1 ⟨σ1,H1,I1,w1⟩;refine wpAny_passesOwn hp (thn (hc pins s1 σ1 H1 _ I1 (turn n σ1 H1 w1)) fun b s2 ⟨H2,I2,q2⟩=>?_);cases b with
 | true =>
  obtain⟨N,hN,q2⟩:=q2;rw[Ze rfl];refine wpAny_passesOwn hp (thn (hb pins s2 σ1 H2 _ I2 q2) fun f s3 q3=>?_);cases f with
  | next =>
   obtain⟨σ3,H3,I3,n3⟩:=q3;obtain⟨m',hm,w3⟩:=hN σ3 H3 n3;exact⟨m',hm,σ3,H3,I3,w3⟩
  | cont =>
   obtain⟨σ3,H3,I3,n3⟩:=q3;obtain⟨m',hm,w3⟩:=hN σ3 H3 n3;exact⟨m',hm,σ3,H3,I3,w3⟩
  | brk=>exact q3
  | ret v=>exact q3
 | false =>
  rw[Zc Zs];exact wpAny_execs_nil ⟨σ1,H2,I2,q2⟩
end
structure It where
 go:Nat->Hp->Prop
 yld:Nat->Hp->V->Hp->Prop
 stop:Nat->Hp->Prop
noncomputable def FpOk(X:Cx)(pins:List (Addr×Obj))(H:Hp)(b:Addr):Prop :=
 H b=none/\b≠X.env.locals/\b∉X.fs/\(b∈X.ex\/X.s₀.heap.objs.size<=b)/\(∀ x c,X.env.cells.lookup x=some c->c≠b)/\∀ p∈X.pn++pins,p.1≠b
theorem Inv.fpOk(I:Inv X pins σ H s)(hb:s.heap.objs.size<=b)(hn:H' b=none):FpOk X pins H' b:=by
 refine⟨hn,ne_of_gt (Z8 I.lt hb),I.nofs hb,.inr (Z4 I.sz hb),fun x c e z=>?_,fun p hp z=>?_⟩
 ·obtain⟨v,q⟩:=I.cell x c e;exact absurd (Z8 q.lt (by rw[z];exact hb)) (lt_irrefl _)
 ·exact absurd (Z8 (Zp (I.pin p hp).1) (by rw[z];exact hb)) (lt_irrefl _)
structure Turn(P:Program)(w:World)(K:Frag)(tg:Expr)(J:It)(fp:List Addr)(it:Addr)(tn:Nat->Heap->Prop):Prop where
 mem:it∈fp
 obj:∀ i h,tn i h->∀ b∈fp,∃ o,h.get? b=some o/\∀ v,o.data≠.cell v
 keep:∀ i h h',tn i h->(∀ b∈fp,∀ o,h.get? b=some o->h'.get? b=some o)->tn i h'
 item:∀ (X:Cx),X.prog=P->X.w=w->X.K=K->X.calm=true->∀ (i:Nat) (pins:List (Addr×Obj)) (s:Shared) (σ:St) (H:Hp) (E:Value->Shared->Prop),Inv X pins σ H s->(∀ b∈fp,FpOk X pins H b)->tn i s.heap->J.go i H ->
  wpAny (model P w) X.A (pyNext (.ref it)) (fun r s1=>∃ u,r=some u /\
   wpAny (model P w) X.A (letOwnedTupleGo tg (.ref it) u) (fun _ s2=>∃ x H',Inv X pins σ H' s2/\RelV x u/\J.yld i H x H'/\tn (i+1) s2.heap/\∀ b∈fp,H' b=none) E s1) E s
 done:∀ (X:Cx),X.prog=P->X.w=w->X.K=K->X.calm=true->∀ (i:Nat) (pins:List (Addr×Obj)) (s:Shared) (σ:St) (H:Hp) (E:Value->Shared->Prop),Inv X pins σ H s->(∀ b∈fp,FpOk X pins H b)->tn i s.heap->J.stop i H ->
  wpAny (model P w) X.A (pyNext (.ref it)) (fun r s1=>r=none/\Inv X pins σ H s1) E s
 self:∀ (A:Around) (i:Nat) (s:Shared) (Q:Value->Shared->Prop) (E:Value->Shared->Prop),tn i s.heap->Q (.ref it) s->wpAny (model P w) A (pyIter (.ref it)) Q E s
noncomputable abbrev TI:=St->Hp->(It->Hp->Prop)->Prop
noncomputable def PIE(X:Cx)(pins:List (Addr×Obj))(σ:St)(tg:Expr)(R:It->Hp->Prop)(itv:Value)(s2:Shared):Prop :=
 ∃ (it:Addr) (fp:List Addr) (tn:Nat->Heap->Prop) (J:It) (H':Hp),itv=.ref it/\Inv X pins σ H' s2/\Turn X.prog X.w X.K tg J fp it tn/\tn 0 s2.heap/\(∀ b∈fp,FpOk X pins H' b)/\R J H'
noncomputable def PI(X:Cx)(tg iter:Expr)(wi:TI):Prop :=
 ∀ (pins:List (Addr×Obj)) (s:Shared) (σ:St) (H:Hp) (R:It->Hp->Prop),Inv X pins σ H s->wi σ H R ->
  wpAny (model X.prog X.w) X.A (eval iter X.env) (fun v s1=>wpAny (model X.prog X.w) X.A (pyIter v) (PIE X pins σ tg R) X.xe s1) X.xe s
theorem go_of{E:Value->Shared->Prop}{Q:Unit->Shared->Prop}(ho:s.heap.get? it=some o)(hc:o.cls=.type n)(hd:o.data=.fields vs)
  (hn:["enumerate","zip","dict_itemiterator","dict_reverseitemiterator","odict_iterator","itertools.zip_longest","itertools.pairwise"].contains n=false) (hQ:Q () s):wpAny M A (letOwnedTupleGo tg (.ref it) u) Q E s:=by
 unfold letOwnedTupleGo;cases tg <;> first
  | exact Zb hQ
  | (cases u <;> first
    | exact Zb hQ
    | (refine Za (wpAny_load ho ?_)
       rw[hc,hd];show wpAny M A (if (["enumerate","zip","dict_itemiterator","dict_reverseitemiterator","odict_iterator","itertools.zip_longest","itertools.pairwise"].contains n&&vs[0]? == some (rawInt _))=true then _ else _) Q E s
       rw[Zc (by intro h;rw[hn,Bool.false_and]at h;cases h)]
       exact Zb hQ))
noncomputable def Itl(K:Frag)(a:Addr):It :=
 ⟨fun i H=>∃ xs x,SqL K H a xs/\xs[i]? = some x,fun i H x H'=>H'=H/\∀ xs,SqL K H a xs->xs[i]? = some x,fun i H=>∃ xs,SqL K H a xs/\xs.length<=i⟩
noncomputable def Itt(K:Frag)(a:Addr):It :=
 ⟨fun i H=>∃ xs x,SqT K H a xs/\xs[i]? = some x,fun i H x H'=>H'=H/\∀ xs,SqT K H a xs->xs[i]? = some x,fun i H=>∃ xs,SqT K H a xs/\xs.length<=i⟩
noncomputable def Itr(lo:Int)(n:Nat):It:=⟨fun i _=>i<n,fun i H x H'=>H'=H/\x=.int (lo+i),fun i _=>n<=i⟩
theorem Q6p{P:Program}{w:World}{K:Frag}{tg:Expr}(a it:Addr):Turn P w K tg (Itl K a) [it] it (fun i h=>h.IsListIter it a i) where
 mem:=by simp
 obj:=fun i h st b hb=>by
  have e:b=it:=by simpa using hb
  subst e;obtain⟨o,e,c,d⟩:=st;exact⟨o,e,fun v z=>by rw[d]at z;cases z⟩
 keep:=fun i h h' st k=>st.at fun o e=>k it (by simp) o e
 item:=by
  intro X hP hw hK hc i pins s σ H E I hf st hg;subst hP hw hK;obtain⟨xs,x,hq,hx⟩:=hg;obtain⟨its,rv,p,hz⟩:=I.list hq;obtain⟨u,hu,ru⟩:=rv.get hx;obtain⟨f0,f1,f2,f3,f4,f5⟩:=hf it (by simp)
  refine wpAny_pyNext_list_item st p.isList (x:=u) (by simpa using hu) fun h' st' sb=>?_
  have I1:Inv X pins σ H { s with heap:=h' }:=I.turned (t':=s.toks) (fun b o hb e=>(sb.2 b hb).trans e) f0 f1 f3 f4 f5;obtain⟨o,e,c,d⟩:=id st';exact⟨u,rfl,go_of (s:={ s with heap:=h' }) e c d (by decide) ⟨x,H,I1,ru,⟨rfl,fun ys hy=>by rw[I.list_inj hy hq];exact hx⟩,st',fun b hb=>(hf b hb).1⟩⟩
 done:=by
  intro X hP hw hK hc i pins s σ H E I hf st hg;subst hP hw hK;obtain⟨xs,hq,hx⟩:=hg;obtain⟨its,rv,p,hz⟩:=I.list hq;obtain⟨f0,f1,f2,f3,f4,f5⟩:=hf it (by simp)
  have hl:=rv.length;exact wpAny_pyNext_list_end (I.ok.hd hc) st p.isList (by simp;omega) fun h' eb=>⟨rfl,I.turned (t':=s.toks) (fun b o hb e=>eb b o hb e) f0 f1 f3 f4 f5⟩
 self:=fun _ _ _ _ _ st h=>wpAny_pyIter_listiter st h
theorem Q5I{P:Program}{w:World}{K:Frag}{tg:Expr}(a it:Addr):Turn P w K tg (Itt K a) [it] it (fun i h=>h.IsTupleIter it a i) where
 mem:=by simp
 obj:=fun i h st b hb=>by
  have e:b=it:=by simpa using hb
  subst e;obtain⟨o,e,c,d⟩:=st;exact⟨o,e,fun v z=>by rw[d]at z;cases z⟩
 keep:=fun i h h' st k=>st.at fun o e=>k it (by simp) o e
 item:=by
  intro X hP hw hK hc i pins s σ H E I hf st hg;subst hP hw hK;obtain⟨xs,x,hq,hx⟩:=hg;obtain⟨its,rv,p,hz⟩:=I.tuple hq;obtain⟨u,hu,ru⟩:=rv.get hx;obtain⟨f0,f1,f2,f3,f4,f5⟩:=hf it (by simp)
  refine wpAny_pyNext_tuple_item st (show s.heap.IsTuple a its.toArray from p) (x:=u) (by simpa using hu) fun h' st' sb=>?_
  have I1:Inv X pins σ H { s with heap:=h' }:=I.turned (t':=s.toks) (fun b o hb e=>(sb.2 b hb).trans e) f0 f1 f3 f4 f5;obtain⟨o,e,c,d⟩:=id st';exact⟨u,rfl,go_of (s:={ s with heap:=h' }) e c d (by decide) ⟨x,H,I1,ru,⟨rfl,fun ys hy=>by rw[I.tuple_inj hy hq];exact hx⟩,st',fun b hb=>(hf b hb).1⟩⟩
 done:=by
  intro X hP hw hK hc i pins s σ H E I hf st hg;subst hP hw hK;obtain⟨xs,hq,hx⟩:=hg;obtain⟨its,rv,p,hz⟩:=I.tuple hq;obtain⟨f0,f1,f2,f3,f4,f5⟩:=hf it (by simp)
  have hl:=rv.length;exact wpAny_pyNext_tuple_end (I.ok.hd hc) st (show s.heap.IsTuple a its.toArray from p) (by simp;omega) fun h' eb=>⟨rfl,I.turned (t':=s.toks) (fun b o hb e=>eb b o hb e) f0 f1 f3 f4 f5⟩
 self:=fun _ _ _ _ _ st h=>wpAny_pyIter_tupleiter st h
theorem Q5J{P:Program}{w:World}{K:Frag}{tg:Expr}(it:Addr)(lo:Int)(n:Nat):Turn P w K tg (Itr lo n) [it] it (fun i h=>IsRangeIter h it (lo+(i:Nat) * 1) ((n:Int)-(i:Nat)) 1) where
 mem:=by simp
 obj:=fun i h st b hb=>by
  have e:b=it:=by simpa using hb
  subst e;exact⟨_,st,fun v z=>by
   have z':Data.fields _=Data.cell v:=z;cases z'⟩
 keep:=fun i h h' st k=>k it (by simp) _ st
 item:=by
  intro X hP hw hK hc i pins s σ H E I hf st hg;subst hP hw hK;obtain⟨f0,f1,f2,f3,f4,f5⟩:=hf it (by simp)
  have W:=Walks.range (prog:=X.prog) (w:=X.w) (I.ok.hd hc) it lo 1 n;refine W.item i s _ _ hg st fun v h' tk hv st' kk=>?_;obtain⟨t,rfl⟩:=hv;have I1:Inv X pins σ H { s with heap:=h',toks:=tk }:=I.turned (fun b o hb e=>kk b o (by simpa using hb) e) f0 f1 f3 f4 f5
  refine⟨_,rfl,go_of (s:={ s with heap:=h',toks:=tk }) (n:="range_iterator") st' rfl rfl (by decide) ⟨.int (lo+i),H,I1,⟨t,?_⟩,⟨rfl,rfl⟩,st',fun b hb=>(hf b hb).1⟩⟩
  rw[Int.mul_one]
 done:=by
  intro X hP hw hK hc i pins s σ H E I hf st hg;subst hP hw hK;obtain⟨f0,f1,f2,f3,f4,f5⟩:=hf it (by simp)
  exact wpAny_pyNext_range_end (I.ok.hd hc) st (by have:n<=i:=hg;omega) fun h' eb=>⟨rfl,I.turned (t':=s.toks) (fun b o hb e=>eb b o hb e) f0 f1 f3 f4 f5⟩
 self:=fun _ _ _ _ _ st h=>wpAny_pyIter_rangeiter st h
section
variable{X:Cx}{tg:Expr}
theorem Q8d{pins:List (Addr×Obj)}{σ:St}{H:Hp}{s:Shared}{R:It->Hp->Prop}{E:Value->Shared->Prop}{lo hi:Int}{t u v:Tok}{tk:Nat}(I:Inv X pins σ H s)(h1:-(2 ^ 62)<=lo)(h2:lo<2 ^ 62)(h3:-(2 ^ 62)<=hi)(h4:hi<2 ^ 62)
  (q:R (Itr lo (hi-lo).toNat) H):wpAny (model X.prog X.w) X.A (pyIter (.ref s.heap.objs.size)) (PIE X pins σ tg R) E { s with heap:=s.heap.push { cls:=.type "range",data:=.fields #[.int lo t,.int hi u,.int 1 v] },toks:=tk }:=by
 refine wpAny_pyIter_range (IsRange.new ..) (small_one h1 h2 h3 h4) ?_;have I1:Inv X pins σ H { s with heap:=s.heap.push { cls:=.type "range",data:=.fields #[.int lo t,.int hi u,.int 1 v] },toks:=tk }:=I.kept fun b o e=>Zf _ e;refine⟨(s.heap.push { cls:=.type "range",data:=.fields #[.int lo t,.int hi u,.int 1 v] }).objs.size,[(s.heap.push { cls:=.type "range",data:=.fields #[.int lo t,.int hi u,.int 1 v] }).objs.size],_,_,H,rfl,
  I1.kept (t':=tk) fun b o e=>Zf _ e,Q5J _ lo (hi-lo).toNat,?_,fun b hb=>?_,q⟩
 ·have e1:lo+((0:Nat):Int) * 1=lo:=by simp
  have e2:(((hi-lo).toNat:Nat):Int)-((0:Nat):Int)=Builtin.Range.rangeSize lo hi 1:=by rw[rangeSize_one];split <;> omega
  show IsRangeIter _ _ (lo+((0:Nat):Int) * 1) ((((hi-lo).toNat:Nat):Int)-((0:Nat):Int)) 1;rw[e1,e2];exact Zu _ rfl
 ·have e:b=(s.heap.push { cls:=.type "range",data:=.fields #[.int lo t,.int hi u,.int 1 v] }).objs.size:=by simpa using hb
  subst e;exact I1.fpOk (Zo _) (I1.hok.fresh (Zo _))
noncomputable def iRng1(ta:TA):TI:=fun σ H R=>ta σ H fun vs H1=>∃ j:Int,vs=[.int j] /\ -(2 ^ 62)<=j/\j<2 ^ 62/\R (Itr 0 j.toNat) H1
theorem Q6q{a:Expr}{ta:TA}{p pos:Pos}(hg:Gl X "range")(hm:X.mg "range" = none)(ha:PA X [a] ta)(hs:starEach [a] X.env=[(false,eval a X.env)]:=by rfl):PI X tg (.Call (.Name "range" p) [a] [] pos) (iRng1 ta):=by
 intro pins s σ H R I h;refine Call_ (Q3r I hg hm boot_range (PyProof.Rows.callWith_type1 (thn (ha pos pins s σ H _ I h) fun us s1 ⟨vs,H1,I1,r1,q1⟩=>?_) hs rfl));obtain⟨j,e,q1,q2,q⟩:=q1;subst e;cases r1 with
 | cons r rr =>
  cases rr;obtain⟨t,rfl⟩:=r;exact call_range_1 (Q8d I1 (by omega) (by omega) q1 q2 (by simpa using q))
noncomputable def tFor(wi:TI)(g:TG)(tb:TS):TS:=fun D σ H=>wi σ H fun J H1=>∃ W:Nat->Nat->St->Hp->Prop,(∃ m,W 0 m σ H1)/\∀ i m σ H,W i m σ H ->
 (J.stop i H/\D.nx σ H)\/(J.go i H/\∃ N:St->Hp->Prop,(∀ σ' H',N σ' H'->∃ m',m'<m/\W (i+1) m' σ' H')/\∀ x H',J.yld i H x H'->g x σ H' fun σ2 H2=>tb { D with nx:=N,ct:=N,bk:=D.nx } σ2 H2)
noncomputable def zaq(fp:List Addr)(h:Heap):List (Addr×Obj):=fp.filterMap fun b=>(h.get? b).map fun o=>(b,o)
theorem Q0O(hb:b∈fp)(e:h.get? b=some o):(b,o)∈zaq fp h:=mem_filterMap.mpr ⟨b,hb,by rw[e];rfl⟩
theorem Q3s(hp:p∈zaq fp h):p.1∈fp/\h.get? p.1=some p.2:=by
 obtain⟨b,hb,e⟩:=mem_filterMap.mp hp;cases q:h.get? b with
 | none=>rw[q]at e;cases e
 | some o =>
  rw[q]at e;have e':(b,o)=p:=Z6 e;subst e';exact⟨hb,q⟩
theorem Inv.pinned(I:Inv X pins σ H s)(hf:∀ b∈fp,FpOk X pins H b)(ho:∀ b∈fp,∃ o,s.heap.get? b=some o/\∀ v,o.data≠.cell v):Inv X (pins++zaq fp s.heap) σ H s :=
 I.pins_of fun p hp=>(ZO.mp hp).elim (fun z=>I.pin p (Zw _ z)) fun z=>by
  obtain⟨hb,e⟩:=Q3s z;obtain⟨f0,f1,f2,_⟩:=hf p.1 hb;obtain⟨o,e',d⟩:=ho p.1 hb;rw[e]at e';cases e';exact⟨e,f0,f1,f2,d⟩
theorem Inv.unpinned(I:Inv X (pins++pl) σ H s):Inv X pins σ H s:=I.pins_of fun p hp=>I.pin p (Zw _ (mem_append_left _ hp))
theorem QbS(hp:PassesOwn (model X.prog X.w) X.A X.env X.xe)(hc:X.calm=true)(hi:PI X tg iter wi)(hg:PG X tg g)(hb:PSs X body tb)
  (hs:∀ x,foldedSetIterable iter X.env x=pure x:=by intro _;rfl):PS X (.For tg iter body [] pos) (tFor wi g tb):=by
 intro pins s σ H D I h;refine wpAny_For (thn (hi pins s σ H _ I h) fun v s1 h1=>thn h1 fun itv s2 h2=>?_) hs;obtain⟨it,fp,tn,J,H2,e,I2,T,st2,f2,W,⟨m0,w0⟩,turn⟩:=h2;subst e
 -- what stays true of the iterator's objects through the loop
 have stat:∀ {H':Hp},(∀ b∈fp,H' b=none)->∀ b∈fp,FpOk X pins H' b:=fun hn b hb=>⟨hn b hb,(f2 b hb).2⟩;refine codeAny_forLoop_any (fun n s'=>∃ i σ' H',Inv X pins σ' H' s'/\tn i s'.heap/\(∀ b∈fp,H' b=none)/\W i n σ' H') ?_ m0 ⟨0,σ,H2,I2,st2,fun b hb=>(f2 b hb).1,w0⟩;rintro n s3 ⟨i,σ3,H3,I3,st3,fr3,w3⟩;rcases turn i n σ3 H3 w3 with ⟨stop,qn⟩ | ⟨go,N,hN,step⟩
 ·refine wpAny_passesOwn hp (thn (T.done X rfl rfl rfl hc i pins s3 σ3 H3 X.xe I3 (stat fr3) st3 stop) fun r s4 ⟨hr,I4⟩=>?_);subst hr;exact wpAny_execs_nil ⟨σ3,H3,I4,qn⟩
 ·refine wpAny_passesOwn hp (thn (T.item X rfl rfl rfl hc i pins s3 σ3 H3 X.xe I3 (stat fr3) st3 go) fun r s4 ⟨u,hr,h4⟩=>?_);subst hr;refine wpAny_passesOwn hp (thn h4 fun _ s5 ⟨x,H5,I5,r5,y5,st5,fr5⟩=>?_);have I5':=I5.pinned (stat fr5) (T.obj _ _ st5);refine wpAny_passesOwn hp (thn (hg _ s5 σ3 H5 x u _ I5' r5 (step x H5 y5)) fun _ s6 ⟨σ6,H6,I6,q6⟩=>?_);refine wpAny_passesOwn hp (thn (hb _ s6 σ6 H6 _ I6 q6) fun f s7 q7=>?_);have again:∀ {σ7:St} {H7:Hp},Inv X (pins++zaq fp s5.heap) σ7 H7 s7->N σ7 H7->∃ m,m<n/\∃ i σ' H',Inv X pins σ' H' s7/\tn i s7.heap/\(∀ b∈fp,H' b=none)/\W i m σ' H':=fun{σ7 H7} I7 n7=>by
   obtain⟨m',hm,w7⟩:=hN σ7 H7 n7;refine⟨m',hm,i+1,σ7,H7,I7.unpinned,T.keep _ _ _ st5 fun b hb o e=>(I7.pin (b,o) (Zw _ (Zw _ (Q0O hb e)))).1,fun b hb=>?_,w7⟩;obtain⟨o,e,d⟩:=T.obj _ _ st5 b hb;exact (I7.pin (b,o) (Zw _ (Zw _ (Q0O hb e)))).2.1
  cases f with
  | next=>obtain⟨σ7,H7,I7,n7⟩:=q7;exact again I7 n7
  | cont=>obtain⟨σ7,H7,I7,n7⟩:=q7;exact again I7 n7
  | brk=>obtain⟨σ7,H7,I7,q7⟩:=q7;exact⟨σ7,H7,I7.unpinned,q7⟩
  | ret v=>obtain⟨x7,σ7,H7,I7,r7,q7⟩:=q7;exact⟨x7,σ7,H7,I7.unpinned,r7,q7⟩
end
noncomputable abbrev R2:=V->V->Hp->VK->Prop
noncomputable def OpR(X:Cx)(f:Value->Value->Sem Value)(r:R2):Prop :=
 ∀ (pins:List (Addr×Obj)) (s:Shared) (σ:St) (H:Hp) (x y:V) (v u:Value) (Q:VK),Inv X pins σ H s->RelV x v->RelV y u->r x y H Q ->
  wpAny (model X.prog X.w) X.A (f v u) (EP X pins σ Q) X.xe s
noncomputable def UnR(X:Cx)(f:Value->Sem Value)(r:V->Hp->VK->Prop):Prop :=
 ∀ (pins:List (Addr×Obj)) (s:Shared) (σ:St) (H:Hp) (x:V) (v:Value) (Q:VK),Inv X pins σ H s->RelV x v->r x H Q ->
  wpAny (model X.prog X.w) X.A (f v) (EP X pins σ Q) X.xe s
noncomputable def zaY(X:Cx)(f:Value)(r:List V->Hp->VK->Prop):Prop :=
 ∀ (pins:List (Addr×Obj)) (s:Shared) (σ:St) (H:Hp) (xs:List V) (us:List Value) (Q:VK),Inv X pins σ H s->Vals xs us->r xs H Q ->
  wpAny (model X.prog X.w) X.A (call f us) (EP X pins σ Q) X.xe s
noncomputable def tOp(r:R2)(ta tb:TE):TE:=fun σ H Q=>ta σ H fun x H1=>tb σ H1 fun y H2=>r x y H2 Q
noncomputable def tUn(r:V->Hp->VK->Prop)(ta:TE):TE:=fun σ H Q=>ta σ H fun x H1=>r x H1 Q
noncomputable def rI(C:Int->Int->Prop)(g:Int->Int->V):R2:=fun x y H Q=>∃ i j,x=.int i/\y=.int j/\C i j/\Q (g i j) H
noncomputable def rI0(g:Int->Int->V):R2:=fun x y H Q=>∃ i j,x=.int i/\y=.int j/\Q (g i j) H
noncomputable def rU(g:Int->V):V->Hp->VK->Prop:=fun x H Q=>∃ i,x=.int i/\Q (g i) H
section
variable{X:Cx}{a b c:Expr}{ta tb tc:TE}{pos:Pos}
theorem binT(ha:PE X a ta)(hb:PE X b tb){R:V->V->Hp->Prop}(I:Inv X pins σ H s)
  (h:ta σ H fun x H1=>tb σ H1 fun y H2=>R x y H2) {Q:Value->Shared->Prop} {f:Value->Value->Sem Value}
  (hf:∀ v u s2 x y H2,Inv X pins σ H2 s2->RelV x v->RelV y u->R x y H2->wpAny (model X.prog X.w) X.A (f v u) Q X.xe s2) :
  wpAny (model X.prog X.w) X.A (eval a X.env) (fun v s₁=>wpAny (model X.prog X.w) X.A (eval b X.env) (fun u s₂=>wpAny (model X.prog X.w) X.A (f v u) Q X.xe s₂) X.xe s₁) X.xe s:=by
 refine thn (ha pins s σ H _ I h) fun v s1 ⟨x,H1,I1,r1,q1⟩=>?_;refine thn (hb pins s1 σ H1 _ I1 q1) fun u s2 ⟨y,H2,I2,r2,q2⟩=>?_;exact hf v u s2 x y H2 I2 r1 r2 q2
theorem pe_op(ho:OpR X (binaryOp op) r)(ha:PE X a ta)(hb:PE X b tb):PE X (.BinOp a op b pos) (tOp r ta tb):=by
 intro pins s σ H Q I h;exact wpAny_BinOp (binT ha hb I h fun v u s2 x y H2 I2 rx ry q=>ho pins s2 σ H2 x y v u Q I2 rx ry q)
theorem pe_un{r:V->Hp->VK->Prop}(ho:UnR X (unaryOp op) r)(ha:PE X a ta):PE X (.UnaryOp op a pos) (tUn r ta):=by
 intro pins s σ H Q I h;exact UnaryOp_ (thn (ha pins s σ H _ I h) fun v s1 ⟨x,H1,I1,r1,q1⟩=>ho pins s1 σ H1 x v Q I1 r1 q1)
theorem opI{f:Value->Value->Sem Value}{C:Int->Int->Prop}{g:Int->Int->Int}
  (rule:∀ (i j:Int) (t u:Tok) (s:Shared) (Q:Value->Shared->Prop) (E:Value->Shared->Prop),C i j->Q (.int (g i j) s.toks) { s with toks:=s.toks+1 }->wpAny (model X.prog X.w) X.A (f (.int i t) (.int j u)) Q E s) :
  OpR X f (rI C fun i j=>.int (g i j)):=by
 intro pins s σ H x y v u Q I rx ry h;obtain⟨i,j,rfl,rfl,hc,q⟩:=h;obtain⟨t,rfl⟩:=rx;obtain⟨t',rfl⟩:=ry;exact rule i j t t' s _ _ hc ⟨.int (g i j),H,I.tok _,⟨_,rfl⟩,q⟩
theorem opI0{f:Value->Value->Sem Value}{g:Int->Int->Int}
  (rule:∀ (i j:Int) (t u:Tok) (s:Shared) (Q:Value->Shared->Prop) (E:Value->Shared->Prop),Q (.int (g i j) s.toks) { s with toks:=s.toks+1 }->wpAny (model X.prog X.w) X.A (f (.int i t) (.int j u)) Q E s) :
  OpR X f (rI0 fun i j=>.int (g i j)):=by
 intro pins s σ H x y v u Q I rx ry h;obtain⟨i,j,rfl,rfl,q⟩:=h;obtain⟨t,rfl⟩:=rx;obtain⟨t',rfl⟩:=ry;exact rule i j t t' s _ _ ⟨.int (g i j),H,I.tok _,⟨_,rfl⟩,q⟩
theorem opB0{f:Value->Value->Sem Value}{g:Int->Int->Bool}
  (rule:∀ (i j:Int) (t u:Tok) (s:Shared) (Q:Value->Shared->Prop) (E:Value->Shared->Prop),Q (.bool (g i j)) s->wpAny (model X.prog X.w) X.A (f (.int i t) (.int j u)) Q E s) :
  OpR X f (rI0 fun i j=>.bl (g i j)):=by
 intro pins s σ H x y v u Q I rx ry h;obtain⟨i,j,rfl,rfl,q⟩:=h;obtain⟨t,rfl⟩:=rx;obtain⟨t',rfl⟩:=ry;exact rule i j t t' s _ _ ⟨.bl (g i j),H,I,rfl,q⟩
noncomputable def CDiv(i j:Int):Prop:=0<j/\j<1073741824
noncomputable def CMul(i j:Int):Prop:=(-(2 ^ 64)<i/\i<2 ^ 64)\/(-(2 ^ 64)<j/\j<2 ^ 64)
theorem CMul.ok(h:CMul i j):IntMulOk i j:=by
 rcases h with ⟨h1,h2⟩ | ⟨h1,h2⟩
 ·exact .of_left (intBits_le_64 h1 h2)
 ·exact .of_right (intBits_le_64 h1 h2)
theorem QbT:OpR X (binaryOp .Add) (rI0 fun i j=>.int (i+j)):=opI0 fun _ _ _ _ _ _ _ q=>add_int q
theorem QbU:OpR X (binaryOp .Sub) (rI0 fun i j=>.int (i-j)):=opI0 fun _ _ _ _ _ _ _ q=>sub_int q
theorem QbV:OpR X (binaryOp .Mult) (rI CMul fun i j=>.int (i * j)):=opI fun _ _ _ _ _ _ _ hc q=>mul_int q hc.ok
theorem Qab:OpR X (binaryOp .FloorDiv) (rI CDiv fun i j=>.int (i / j)):=opI fun i j _ _ _ _ _ hc q=>by
 have h1:(0:Int)<j:=hc.1;have h2:j<1073741824:=hc.2;exact floordiv_int (by omega) (by rw[Int.fdiv_eq_ediv_of_nonneg i (by omega)];exact q) (.inl (PyProof.noPylong_small (by omega)))
theorem QbW:OpR X (binaryOp .Mod) (rI (fun _ j=>0<j) fun i j=>.int (i % j)):=opI fun i j _ _ _ _ _ hc q=>by
 have h1:(0:Int)<j:=hc;exact mod_int' (by omega) (by rw[Int.fmod_eq_emod_of_nonneg i (by omega)];exact q)
theorem unI{f:Value->Sem Value}{g:Int->Int}
  (rule:∀ (i:Int) (t:Tok) (s:Shared) (Q:Value->Shared->Prop) (E:Value->Shared->Prop),Q (.int (g i) s.toks) { s with toks:=s.toks+1 }->wpAny (model X.prog X.w) X.A (f (.int i t)) Q E s) :
  UnR X f (rU fun i=>.int (g i)):=by
 intro pins s σ H x v Q I rx h;obtain⟨i,rfl,q⟩:=h;obtain⟨t,rfl⟩:=rx;exact rule i t s _ _ ⟨.int (g i),H,I.tok _,⟨_,rfl⟩,q⟩
theorem QbX:UnR X (unaryOp .USub) (rU fun i=>.int (-i)):=unI fun _ _ _ _ _ q=>neg_int q
end
section
variable{X:Cx}{a b c:Expr}{ta tb tc:TE}{pos:Pos}
theorem Q9F(I:Inv X pins σ H s)(q:Q (.bl k) H)(e:k=k'):EP X pins σ Q (.bool k') s:=by
 subst e;exact⟨.bl k,H,I,rfl,q⟩
theorem op_lt:OpR X (compareOp .Lt) (rI0 fun i j=>.bl (decide (i<j))):=opB0 fun _ _ _ _ _ _ _ q=>lt_int q
theorem op_le:OpR X (compareOp .LtE) (rI0 fun i j=>.bl (decide (i<=j))):=opB0 fun _ _ _ _ _ _ _ q=>le_int q
theorem QbY:OpR X (compareOp .Is) (fun x y H Q=>y=.non/\Q (.bl (decide (x=.non))) H):=by
 intro pins s σ H x y v u Q I rx ry h;obtain⟨rfl,q⟩:=h;cases ry;refine is_none_gen (Q9F I q ?_);cases x <;> first
  | (cases rx;rfl)
  | (obtain⟨t,rfl⟩:=rx;rfl)
theorem Qac:OpR X (compareOp .IsNot) (fun x y H Q=>y=.non/\Q (.bl (!decide (x=.non))) H):=by
 intro pins s σ H x y v u Q I rx ry h;obtain⟨rfl,q⟩:=h;cases ry;refine isnot_none_gen (Q9F I q ?_);cases x <;> first
  | (cases rx;rfl)
  | (obtain⟨t,rfl⟩:=rx;rfl)
theorem Qad(ho:OpR X (compareOp op) r)(ha:PE X a ta)(hb:PE X b tb)(hm:behindInMarks op b=false):PE X (.Compare a [op] [b] pos) (tOp r ta tb):=by
 intro pins s σ H Q I h;exact wpAny_Compare1 (binT ha hb I h fun v u s2 x y H2 I2 rx ry q=>ho pins s2 σ H2 x y v u Q I2 rx ry q) hm
noncomputable def tTest(t:TE):TT:=fun σ H Q=>t σ H fun x H'=>∃ k,x=.bl k/\Q k H'
theorem Qae(ho:OpR X (compareOp op) r)(ha:PE X a ta)(hb:PE X b tb)(hm:behindInMarks op b=false):PT X (.Compare a [op] [b] pos) (tTest (tOp r ta tb)):=by
 intro pins s σ H Q I h;refine wpAny_isTrue_Compare1 (thn (ha pins s σ H _ I h) fun v s1 ⟨x,H1,I1,r1,q1⟩=>thn (hb pins s1 σ H1 _ I1 q1) fun u s2 ⟨y,H2,I2,r2,q2⟩ =>
  thn (ho pins s2 σ H2 x y v u _ I2 r1 r2 q2) fun c s3 ⟨z,H3,I3,r3,k,e,q3⟩=>?_) hm
 subst e;cases r3;exact Yi ⟨H3,I3,q3⟩
noncomputable def zbJ(r r':R2)(ta tb tc:TE):TE:=fun σ H Q=>ta σ H fun x H1=>tb σ H1 fun y H2=>r x y H2 fun z H3=>∃ k,z=.bl k /\
 (if k=true then tc σ H3 fun w' H4=>r' y w' H4 Q else Q (.bl false) H3)
theorem Q8e(ho:OpR X (compareOp op) r)(ho':OpR X (compareOp op') r')(ha:PE X a ta)(hb:PE X b tb)(hc:PE X c tc)
  (hm:lastMarks [op,op'] [b,c]=false:=by with_unfolding_all rfl):PE X (.Compare a [op,op'] [b,c] pos) (zbJ r r' ta tb tc):=by
 intro pins s σ H Q I h;refine Compare_chain (thn (ha pins s σ H _ I h) fun v s1 ⟨x,H1,I1,r1,q1⟩=>chain_link (thn (hb pins s1 σ H1 _ I1 q1) fun u s2 ⟨y,H2,I2,r2,q2⟩ =>
  thn (ho pins s2 σ H2 x y v u _ I2 r1 r2 q2) fun d s3 ⟨z,H3,I3,r3,k,e,q3⟩=>?_)) hm
 subst e;cases r3;refine Yi ?_;cases k with
 | false=>exact ite_ff ⟨.bl false,H3,I3,rfl,q3⟩
 | true=>exact ite_tt (chain_last (thn (hc pins s3 σ H3 _ I3 q3) fun w' s4 ⟨z',H4,I4,r4,q4⟩=>ho' pins s4 σ H4 y z' u w' Q I4 r2 r4 q4))
theorem Q8f(ho:OpR X (compareOp op) r)(ho':OpR X (compareOp op') r')(ha:PE X a ta)(hb:PE X b tb)(hc:PE X c tc)
  (hm:lastMarks [op,op'] [b,c]=false:=by with_unfolding_all rfl):PT X (.Compare a [op,op'] [b,c] pos) (tTest (zbJ r r' ta tb tc)):=by
 intro pins s σ H Q I h;refine isTrue_chain (thn (ha pins s σ H _ I h) fun v s1 ⟨x,H1,I1,r1,q1⟩=>test_link (thn (hb pins s1 σ H1 _ I1 q1) fun u s2 ⟨y,H2,I2,r2,q2⟩ =>
  thn (ho pins s2 σ H2 x y v u _ I2 r1 r2 q2) fun d s3 ⟨z,H3,I3,r3,k,e,q3⟩=>?_)) hm
 subst e;cases r3;refine Yi ?_;cases k with
 | false =>
  obtain⟨k',e',q'⟩:=q3;cases e';exact ite_ff ⟨H3,I3,q'⟩
 | true =>
  refine ite_tt (test_last (thn (hc pins s3 σ H3 _ I3 q3) fun w' s4 ⟨z',H4,I4,r4,q4⟩=>thn (ho' pins s4 σ H4 y z' u w' _ I4 r2 r4 q4) fun d' s5 ⟨z2,H5,I5,r5,k2,e2,q5⟩=>?_));subst e2;cases r5;exact Yi ⟨H5,I5,q5⟩
theorem line63:(sizeLine:Nat)<2 ^ 63:=by rw[ZL];decide
theorem Q5K:OpR X (binaryOp .Add) (fun x y H Q=>∃ i j,x=.str i/\y=.str j/\i.length+j.length<=sizeLine/\Q (.str (i++j)) H):=by
 intro pins s σ H x y v u Q I rx ry h;obtain⟨i,j,rfl,rfl,hz,q⟩:=h;obtain⟨t,rfl⟩:=rx;obtain⟨t',rfl⟩:=ry;exact add_str (fun t' tk=>⟨.str (i++j),H,I.tok _,⟨_,rfl⟩,q⟩) hz
theorem vals1(r:Vals [x] us):∃ u,us=[u]/\RelV x u:=by
 cases r with
 | cons r1 r2=>cases r2;exact⟨_,rfl,r1⟩
theorem Q3t:zaY X (.type "int") (fun xs H Q=>(∃ i,xs=[.int i]/\Q (.int i) H)\/∃ k,xs=[.bl k]/\Q (.int (if k then 1 else 0)) H):=by
 intro pins s σ H xs us Q I r h;rcases h with ⟨i,rfl,q⟩ | ⟨k,rfl,q⟩
 ·obtain⟨u,rfl,t,rfl⟩:=vals1 r;exact call_int_int ⟨.int i,H,I,⟨_,rfl⟩,q⟩
 ·obtain⟨u,rfl,r1⟩:=vals1 r;cases r1;exact call_int_bool ⟨.int (if k then 1 else 0),H,I.tok _,⟨_,rfl⟩,q⟩
theorem Q3u:zaY X (.type "str") (fun xs H Q=>∃ i,xs=[.int i]/\i.natAbs.log2<1920/\Q (.str (toString i)) H):=by
 intro pins s σ H xs us Q I r h;obtain⟨i,rfl,hz,q⟩:=h;obtain⟨u,rfl,t,rfl⟩:=vals1 r;exact PySem.P.str_of_int hz ⟨.str _,H,I.tok _,⟨_,rfl⟩,q⟩
end
structure ObjM(h:Heap)(x dx C:Addr)(mA:Str->Option Value):Prop where
 obj:h.get? x=some (instObj C dx)
 ns:h.Ns1 dx mA
 ne:dx≠x
theorem Q6r{h:Heap}{dx:Addr}{mA:Str->Option Value}(n:h.Ns1 dx mA):∃ od,h.get? dx=some od/\∀ name,PySem.W.lookIn name od=some (mA name):=by
 obtain⟨o,es,ep,ho,hd,hk,_,hm⟩:=n;refine⟨o,ho,fun name=>?_⟩;have e:=hm name;unfold nsFind findBy at e;rw[<- Array.find?_toList]at e;unfold PySem.W.lookIn;rw[hd];dsimp only;split
 ·rename_i y q;rw[q]at e;exact congrArg some e
 ·rename_i q;rw[q]at e;have a:es.toList.any (·.refKey)=false:=by
   rw[List.any_eq_false];intro y hy;obtain⟨z,t,hkey⟩:=hk y (Array.mem_toList_iff.mp hy);simp[DictEntry.refKey,hkey]
  have a':¬ es.toList.any (·.refKey)=true:=by rw[a];exact Zs
  rw[Zc a'];exact congrArg some e
theorem ObjM.look{mA:Str->Option Value}(I:ObjM h x dx C mA):∃ od,PySem.W.InstAt h x (instObj C dx) C (some od)/\∀ name,PySem.W.lookIn name od=some (mA name) :=
 let ⟨od,ho,hl⟩:=Q6r I.ns
 ⟨od,⟨I.obj,rfl,rfl,ho⟩,hl⟩
section
variable{prog:Program}{w:World}{A:Around}{E:Value->Shared->Prop}{s:Shared}{K:Frag}{x dx C f:Addr}{mA:Str->Option Value}{name:Str}{v:Value}
theorem Qaf{Q:Value->Shared->Prop}(X:K.In s.heap)(I:ObjM s.heap x dx C mA)(hg:plainGet K C name=true)(hh:hasDictIn K C=true)
  (ha:findIn K (.ref C) name=some none) (hv:mA name=some v) (hv':PySem.W.handedIn v=true) (h:Q v { s with toks:=s.toks+1 }) :
  wpAny (model prog w) A (getAttr (.ref x) name expr) Q E s:=by
 obtain⟨od,J,hl⟩:=I.look;exact PySem.W.get_value X J (plainGet_of hg).1 (PySem.W.findObj_own hh ha rfl (by rw[hl,hv])) hv' h
theorem Q8g{Q:Value×List Value->Shared->Prop}(X:K.In s.heap)(I:ObjM s.heap x dx C mA)(hg:plainGet K C name=true)
  (hf:findIn K (.ref C) name=some (some (.ref f))) (ht:isFn K (.ref f)=true) (hv:mA name=none) (h:Q (.ref f,[.ref x]) s) :
  wpAny (model prog w) A (getMethod (.ref x) name pl) Q E s:=by
 obtain⟨od,J,hl⟩:=I.look;exact PySem.W.method_fn X J (plainGet_of hg).1 (plainGet_of hg).2 hf (Z0.mp ht) (by show (PySem.W.lookIn name od).map (·.isSome)=some false;rw[hl,hv];rfl) h
theorem Qag{Q:Unit->Shared->Prop}(X:K.In s.heap)(I:ObjM s.heap x dx C mA)
  (hs:findIn K (.ref C) "__setattr__" = some (some (.builtin "object.__setattr__"))) (hp:plainOver K C=true) (ht:PySem.W.takerIn K C name=some none) (hh:hasDictIn K C=true)
  (hw:PySem.Within mA ns) (hsz:ns.length<=sizeLine)
  (h:∀ h',ObjM h' x dx C (fun y=>if y=name then some v else mA y)->Heap.SameBut dx s.heap h'->Q () { s with heap:=h',toks:=s.toks+2 }) :
  wpAny (model prog w) A (setAttr (.ref x) name v) Q E s:=by
 obtain⟨od,J,hl⟩:=I.look;refine PySem.W.set_plain X J hs (PySem.W.osa_open (s:={ s with toks:=s.toks+1 }) (r:=none) X J hp ht fun b=>?_);obtain⟨cd,hc,hd'⟩:=PySem.W.any_some hh;have hx:s.heap.get? x=some ⟨.ref C,some dx,.plain,#[]⟩:=I.obj;refine Za (Zb (Za (Za (wpAny_loadPart hx (Za (PySem.W.Looks.here (s:={ s with toks:=s.toks+1 }) (PySem.W.looks_clsIn X hc) ?_))))));rw[hd'];refine Zb (a:=some dx) (Za (Zb (Za ?_)));refine wpAny_nsSet1 (s:={ s with toks:=s.toks+1 }) I.ns fun h' hn2 hs2=>?_;obtain⟨oD,esD,epD,hoD,hdD,hcD⟩:=hn2.count (PySem.Within.cons name v hw);refine Za (wpAny_lookBehind hoD (by rw[hdD];exact pastItsLine_dict (Z4 hcD (by rw[Zj];omega))) ?_)
 exact Zb (h _ ⟨(hs2.2 _ (Ne.symm I.ne)).trans I.obj,hn2,I.ne⟩ hs2)
theorem Q8h{R:Result->Shared->Prop}(X:K.In s.heap)(hm:makesIn K C=true)
  (hi:findIn K (.ref C) "__init__" = some (some (.ref f))) (hf:PySem.W.typeIn K (.ref f)=some (.type "function"))
  (h:codeAny (model prog w) (A.under (.builtin "type.__call__" ⟨.ref C::vs,kw⟩)) (.call (.ref f) ⟨.ref (s.heap.objs.size+1)::vs,kw⟩) (PySem.W.InitBack (s.heap.objs.size+1) R)
   {s with heap:=(s.heap.push PySem.W.emptyDict).push (instObj C s.heap.objs.size) }) :
  codeAny (model prog w) A (.call (.ref C) ⟨vs,kw⟩) R s:=by
 obtain⟨hh,g,d,t,os⟩:=s;exact PySem.W.make_core (PySem.W.makes_of X hm) (PySem.W.looks_findIn X hi) (fun self=>PySem.W.bind_fn X self hf) (.inl rfl) h
end
noncomputable def putF(f:Str)(v:V):List (Str×V)->List (Str×V)
 | []=>[(f,v)]
 | (g,x)::r=>if g=f then (g,v)::r else (g,x)::putF f v r
theorem Q1X(f g:Str)(v:V):∀ fs:List (Str×V),(putF f v fs).lookup g=if g=f then some v else fs.lookup g
 | []=>by
  show List.lookup g [(f,v)]=_;by_cases h:g=f
  ·have hb:(g==f)=true:=Z0.mpr h;simp only[List.lookup,hb,Ze h]
  ·have hb:(g==f)=false:=Yk.mpr h;simp only[List.lookup,hb,Zc h]
 | (k,x)::r=>by
  have ih:=Q1X f g v r;rw[show putF f v ((k,x)::r)=(if k=f then (k,v)::r else (k,x)::putF f v r) from rfl]
  by_cases hk:k=f
  ·rw[Ze hk];by_cases h:g=k
   ·have hb:(g==k)=true:=Z0.mpr h;simp only[List.lookup,hb,Ze (h.trans hk)]
   ·have hb:(g==k)=false:=Yk.mpr h;simp only[List.lookup,hb,Zc (fun e:g=f=>h (e.trans hk.symm))]
  ·rw[Zc hk];by_cases h:g=k
   ·have hb:(g==k)=true:=Z0.mpr h;simp only[List.lookup,hb,Zc (fun e:g=f=>hk (h.symm.trans e))]
   ·have hb:(g==k)=false:=Yk.mpr h;simp only[List.lookup,hb];exact ih
theorem Q1Y(f:Str)(v:V):∀ fs:List (Str×V),f∈(putF f v fs).map (·.1)/\∀ g,g∈fs.map (·.1)->g∈(putF f v fs).map (·.1)
 | []=>⟨by simp[putF],fun g h=>by simp at h⟩
 | (k,x)::r=>by
  obtain⟨i1,i2⟩:=Q1Y f v r;rw[show putF f v ((k,x)::r)=(if k=f then (k,v)::r else (k,x)::putF f v r) from rfl]
  by_cases hk:k=f
  ·rw[Ze hk];subst hk;exact⟨by simp,fun g h=>by simpa using h⟩
  ·rw[Zc hk];refine⟨?_,fun g h=>?_⟩
   ·rw[Zy];exact Zq _ i1
   ·rw[Zy]at h ⊢;rcases Z3.mp h with e | e
    ·exact Z3.mpr (.inl e)
    ·exact Zq _ (i2 g e)
theorem Q1Z(f:Str)(v:V):∀ fs:List (Str×V),(putF f v fs).length<=fs.length+1
 | []=>by simp[putF]
 | (k,x)::r=>by
  have ih:=Q1Z f v r;rw[show putF f v ((k,x)::r)=(if k=f then (k,v)::r else (k,x)::putF f v r) from rfl]
  by_cases hk:k=f
  ·rw[Ze hk,Zj,Zj];omega
  ·rw[Zc hk,Zj,Zj];omega
theorem RelO.some_of(r:RelO (some v) o):∃ u,o=some u/\RelV v u:=by
 cases o with
 | none=>exact (show False from r).elim
 | some u=>exact⟨u,rfl,r⟩
theorem RelO.none_of(r:RelO none o):o=none:=by
 cases o with
 | none=>rfl
 | some u=>exact (show False from r).elim
theorem Q6s(r:RelV v u):PySem.W.handedIn u=true:=by
 cases v with
 | non=>cases (show u=Value.none from r);rfl
 | bl b=>cases (show u=Value.bool b from r);rfl
 | int i=>obtain⟨t,e⟩:=(show ∃ t,u=Value.int i t from r);cases e;rfl
 | str x=>obtain⟨t,e⟩:=(show ∃ t,u=Value.str x t from r);cases e;rfl
 | byt b=>obtain⟨t,e⟩:=(show ∃ t,u=Value.bytes b t from r);cases e;rfl
 | flt b=>obtain⟨t,e⟩:=(show ∃ t,u=Value.float b t from r);cases e;rfl
 | ref a=>cases (show u=Value.ref a from r);rfl
 | ty n=>cases (show u=Value.type n from r);rfl
section
variable{P:Program}{w:World}{H H':Hp}{h h':Heap}{a C dx:Addr}{fs fs':List (Str×V)}
theorem Q2L(hok:HOk P w H h)(e:H a=some (.ins C dx fs)):∃ mA,ObjM h a dx C mA/\(∀ f,RelO (fs.lookup f) (mA f))/\PySem.Within mA (fs.map (·.1))/\fs.length<=1000/\H dx=some (.own a):=by
 obtain⟨d,z,ne,ob,mA,n,r,q⟩:=(show ObjOk P w H h a (.ins C dx fs) from hok a _ e);exact⟨mA,⟨ob,n,ne⟩,r,q,z,d⟩
end
structure Cls(K:Frag)(C:Addr):Prop where
 pg:plainGet K C Str.empty=true
 hd:hasDictIn K C=true
 po:plainOver K C=true
 sa:findIn K (.ref C) "__setattr__" = some (some (.builtin "object.__setattr__"))
theorem Cls.get{K:Frag}{C:Addr}(c:Cls K C)(f:Str):plainGet K C f=true:=c.pg
noncomputable def NoAttr(K:Frag)(C:Addr)(f:Str):Prop:=findIn K (.ref C) f=some none
theorem NoAttr.taker{K:Frag}{C:Addr}{f:Str}(n:NoAttr K C f):PySem.W.takerIn K C f=some none:=by
 unfold PySem.W.takerIn;rw[show findIn K (.ref C) f=some none from n];rfl
structure Meth(K:Frag)(C:Addr)(m:Str)(f:Addr):Prop where
 at_:findIn K (.ref C) m=some (some (.ref f))
 fn:isFn K (.ref f)=true
 kp:keepIn K (.ref f)=true
section
variable{X:Cx}{pins:List (Addr×Obj)}{σ:St}{H:Hp}{s:Shared}{a C dx:Addr}{fs:List (Str×V)}{f:Str}{v:V}{A:Around}{E:Value->Shared->Prop}
theorem Q5L{Q:Value->Shared->Prop}(I:Inv X pins σ H s)(e:H a=some (.ins C dx fs))(c:Cls X.K C)(n:NoAttr X.K C f)(l:fs.lookup f=some v)
  (h:∀ u s',Inv X pins σ H s'->RelV v u->Q u s'):wpAny (model X.prog X.w) A (getAttr (.ref a) f b) Q E s:=by
 obtain⟨mA,O,r,_,_,_⟩:=Q2L I.hok e;obtain⟨u,hu,ru⟩:=RelO.some_of (v:=v) (o:=mA f) (by rw[<- l];exact r f)
 exact Qaf I.kIn O (c.get f) c.hd n hu (Q6s ru) (h u _ (I.tok _) ru)
theorem Q2w{Q:Value×List Value->Shared->Prop}(I:Inv X pins σ H s)(e:H a=some (.ins C dx fs))(c:Cls X.K C)(k:Meth X.K C m g)(l:fs.lookup m=none)
  (h:Q (.ref g,[.ref a]) s):wpAny (model X.prog X.w) A (getMethod (.ref a) m pl) Q E s:=by
 obtain⟨mA,O,r,_,_,_⟩:=Q2L I.hok e;have hn:mA m=none:=RelO.none_of (by rw[<- l];exact r m)
 exact Q8g I.kIn O (c.get m) k.at_ k.fn hn h
theorem Q5M{Q:Unit->Shared->Prop}(I:Inv X pins σ H s)(e:H a=some (.ins C dx fs))(c:Cls X.K C)(n:NoAttr X.K C f)(hl:fs.length<1000)(ry:RelV y u)
  (h:∀ s',Inv X pins σ (upd H a (.ins C dx (putF f y fs))) s'->Q () s'):wpAny (model X.prog X.w) A (setAttr (.ref a) f u) Q E s:=by
 obtain⟨mA,O,r,wi,_,ho⟩:=Q2L I.hok e;have hz:(fs.map (·.1)).length<=sizeLine:=by rw[Zd,ZL];omega
 refine Qag I.kIn O c.sa c.po n.taker c.hd wi hz fun h' O' sb=>h _ ?_;have hd:∃ o,h'.get? dx=some o:=let ⟨o,_,_,e',_⟩:=O'.ns;⟨o,e'⟩;refine I.write (x:=a) (e:=dx) (by rw[e];exact Yj) (.inr ho) (fun b q hb z=>(sb.2 b hb).trans z) hd ?_
 refine⟨by rw[Q0d O.ne];exact ho,?_,O.ne,O'.obj,_,O'.ns,fun g=>?_,fun g hg=>?_⟩
 ·have:=Q1Z f y fs;omega
 ·show RelO ((putF f y fs).lookup g) (if g=f then some u else mA g)
  rw[Q1X];by_cases q:g=f
  ·rw[Ze q,Ze q];exact ry
  ·rw[Zc q,Zc q];exact r g
 ·by_cases q:g=f
  ·rw[q];exact (Q1Y f y fs).1
  ·refine (Q1Y f y fs).2 g (wi g fun z=>hg ?_);show (if g=f then some u else mA g)=none
   rw[Zc q];exact z
theorem Inv.made(I:Inv X pins σ H s):Inv X pins σ (upd (upd H s.heap.objs.size (.own (s.heap.objs.size+1))) (s.heap.objs.size+1) (.ins C s.heap.objs.size []))
  {s with heap:=(s.heap.push PySem.W.emptyDict).push (instObj C s.heap.objs.size) }:=by
 have e1:(s.heap.push PySem.W.emptyDict).get? s.heap.objs.size=some PySem.W.emptyDict:=Zu s.heap rfl;have e2:((s.heap.push PySem.W.emptyDict).push (instObj C s.heap.objs.size)).get? (s.heap.objs.size+1)=some (instObj C s.heap.objs.size):=by
  have:=Zu (s.heap.push PySem.W.emptyDict) (o:=instObj C s.heap.objs.size) rfl
  rwa [Heap.size_push]at this
 have e3:(s.heap.push PySem.W.emptyDict).Ns s.heap.objs.size (fun _=>none):=⟨PySem.W.emptyDict,#[],_,e1,rfl,(fun e he=>absurd he (by simp)),fun _=>rfl⟩
 have I1:=I.laid (a:=s.heap.objs.size) (o:=.own (s.heap.objs.size+1)) (h':=s.heap.push PySem.W.emptyDict) (t':=s.toks) (fun b u q=>Zf _ q) (Zo _) ⟨_,e1⟩;refine I1.laid (a:=s.heap.objs.size+1) (o:=.ins C s.heap.objs.size []) (t':=s.toks) (fun b u q=>Zf _ q) (le_of_eq (Heap.size_push _ _)) ?_;have ne:s.heap.objs.size≠s.heap.objs.size+1:=ZJ (Yo _);refine⟨by rw[Q0d ne,Q0e],ZB _,ne,e2,fun _=>none,(Heap.Ns1.of_empty e3).at fun o q=>Zf _ q,fun _=>Yj,fun y hy=>absurd rfl hy⟩
theorem Qah{Q:Value->Shared->Prop}(hb:attributeBase e f env (eval e env)=eval e env)
  (h:wpAny (model prog w) A (eval e env) (fun o s₁=>wpAny (model prog w) A (getAttr o f true) Q E s₁) E s):wpAny (model prog w) A (eval (.Attribute e f pos) env) Q E s :=
 Attribute_any_ h (by rw[arm_eval_Attribute,hb])
end
noncomputable def tFld(K:Frag)(ta:TE)(f:Str):TE:=fun σ H Q=>ta σ H fun x H1=>∃ a C dx fs v,x=.ref a/\H1 a=some (.ins C dx fs)/\Cls K C/\NoAttr K C f/\fs.lookup f=some v/\Q v H1
noncomputable def sFld(K:Frag)(ta tv:TE)(f:Str):TS:=fun D σ H=>tv σ H fun y H1=>ta σ H1 fun x H2=>∃ a C dx fs,x=.ref a/\H2 a=some (.ins C dx fs)/\Cls K C/\NoAttr K C f/\fs.length<1000 /\
 D.nx σ (upd H2 a (.ins C dx (putF f y fs)))
section
variable{X:Cx}{o e value:Expr}{f:Str}{pos pos' tpos:Pos}{ta tv:TE}
theorem QbZ(he:PE X e ta)(hb:attributeBase e f X.env (eval e X.env)=eval e X.env):PE X (.Attribute e f pos) (tFld X.K ta f):=by
 intro pins s σ H Q I h;refine Qah hb (thn (he pins s σ H _ I h) fun u s1 zz=>?_);obtain⟨x,H1,I1,rx,a,C,dx,fs,v,ex,ea,c,n,l,q⟩:=zz;subst ex;obtain rfl:u=Value.ref a:=rx;exact Q5L I1 ea c n l fun u' s2 I2 ru=>⟨v,H1,I2,ru,q⟩
theorem Qc0(ha:PE X o ta)(hv:PE X value tv)(hs:swapsWith value (some (.Attribute o f pos')) pos.line X.env=pure false):PS X (.Assign [.Attribute o f pos'] value pos) (sFld X.K ta tv f):=by
 intro pins s σ H D I h;refine plainObj_wpAny_Assign_Attribute (thn (hv pins s σ H _ I h) fun u s1 ⟨y,H1,I1,ry,q⟩=>thn (ha pins s1 σ H1 _ I1 q) fun ov s2 zz=>?_) hs;obtain⟨x,H2,I2,rx,a,C,dx,fs,ex,ea,c,n,l,q2⟩:=zz;subst ex;obtain rfl:ov=Value.ref a:=rx;exact Q5M I2 ea c n l ry fun s3 I3=>⟨σ,_,I3,q2⟩
end
section
variable{X:Cx}{pins:List (Addr×Obj)}{σ:St}{H:Hp}{s:Shared}{A:Around}{E:Value->Shared->Prop}{Q:Value->Shared->Prop}{c:Value}{b:Bool}
inductive TyOf(K:Frag)(H:Hp):V->Value->Prop where
 | non:TyOf K H .non (.type "NoneType")
 | bl (x:Bool):TyOf K H (.bl x) (.type "bool")
 | int (i:Int):TyOf K H (.int i) (.type "int")
 | str (x:Str):TyOf K H (.str x) (.type "str")
 | flt (x:UInt64):TyOf K H (.flt x) (.type "float")
 | lst {a:Addr} {xs:List V} (e:H a=some (.lst xs)):TyOf K H (.ref a) (.type "list")
 | frz {a:Addr} {o:Obj} {xs:List V} (e:H a=some (.frz o (.lst xs))):TyOf K H (.ref a) (.type "list")
 | tup {a:Addr} {xs:List V} (e:H a=some (.tup xs)):TyOf K H (.ref a) (.type "tuple")
 | dK {a:Addr} {kvs:List (Key×V)} (e:H a=some (.dK kvs)):TyOf K H (.ref a) (.type "dict")
 | dT {a:Addr} {kvs:List (List Key×V)} (e:H a=some (.dT kvs)):TyOf K H (.ref a) (.type "dict")
 | ins {a C dx:Addr} {fs:List (Str×V)} (e:H a=some (.ins C dx fs)) (cl:Cls K C) (ha:findIn K (.ref C) "__class__" = some (some (.builtin "object.__class__")))
   (hn:PySem.W.specialIn K (.builtin "object.__class__") "__get__" = some (some (.builtin "getset_descriptor.__get__"))) (htk:PySem.W.takesIn K (.builtin "object.__class__")=some true)
   (hm:PySem.W.mroIn K C (.type "object")=some true):TyOf K H (.ref a) (.ref C)
theorem Q0X(I:Inv X pins σ H s)(rx:RelV x u)(ty:TyOf X.K H x t)(e:kitOne X.K t c=some b)(h:∀ tk,Q (.bool b) { s with toks:=tk }) :
  wpAny (model X.prog X.w) A (call (.builtin "isinstance") [u,c]) Q E s:=by
 cases ty with
 | non=>cases (show u=Value.none from rx);exact kia_one PySem.W.kitx_none I.kIn Yj e (fun z=>nomatch z) h
 | bl y=>cases (show u=Value.bool y from rx);exact kia_one PySem.W.kitx_bool I.kIn Yj e (fun z=>nomatch z) h
 | int i=>obtain⟨t,q⟩:=(show ∃ t,u=Value.int i t from rx);cases q;exact kia_one PySem.W.kitx_int I.kIn Yj e (fun z=>nomatch z) h
 | str y=>obtain⟨t,q⟩:=(show ∃ t,u=Value.str y t from rx);cases q;exact kia_one PySem.W.kitx_str I.kIn Yj e (fun z=>nomatch z) h
 | flt y=>obtain⟨t,q⟩:=(show ∃ t,u=Value.float y t from rx);cases q;exact kia_one PySem.W.kitx_float I.kIn Yj e (fun z=>nomatch z) h
 | @lst a xs ea =>
  cases (show u=Value.ref a from rx);obtain⟨_,_,n,_,h1⟩:=(show ObjOk X.prog X.w H s.heap a (.lst xs) from I.hok a _ ea);exact kia_one kitx_list I.kIn ⟨_,h1,rfl⟩ e (fun z=>nomatch z) h
 | @frz a ob xs ea =>
  cases (show u=Value.ref a from rx);obtain⟨_,_,_,n,_,h1⟩:=(show ObjOk X.prog X.w H s.heap a (.frz ob (.lst xs)) from I.hok a _ ea);exact kia_one kitx_list I.kIn ⟨_,h1,rfl⟩ e (fun z=>nomatch z) h
 | @tup a xs ea =>
  cases (show u=Value.ref a from rx);obtain⟨_,_,_,p⟩:=(show ObjOk X.prog X.w H s.heap a (.tup xs) from I.hok a _ ea);obtain⟨o,h1,h2,_⟩:=p;exact kia_one kitx_tuple I.kIn ⟨o,h1,h2⟩ e (fun z=>nomatch z) h
 | @dK a kvs ea =>
  cases (show u=Value.ref a from rx);obtain⟨_,_,vs,_,p⟩:=(show ObjOk X.prog X.w H s.heap a (.dK kvs) from I.hok a _ ea);obtain⟨o,es,ep,h1,h2,_⟩:=p;exact kia_one kitx_dict I.kIn ⟨o,h1,h2.1⟩ e (fun z=>nomatch z) h
 | @dT a kvs ea =>
  cases (show u=Value.ref a from rx);obtain⟨_,_,xs,_,o,es,ep,h1,h2,_⟩:=(show ObjOk X.prog X.w H s.heap a (.dT kvs) from I.hok a _ ea);exact kia_one kitx_dict I.kIn ⟨o,h1,h2.1⟩ e (fun z=>nomatch z) h
 | @ins a C dx fs ea cl ha hn htk hm =>
  cases (show u=Value.ref a from rx);obtain⟨mA,O,_⟩:=Q2L I.hok ea;obtain⟨od,J,_⟩:=O.look;exact kia_one (PySem.W.kitx_own (cl.get _) cl.hd ha hn htk hm) I.kIn J e (fun z=>nomatch z) h
end
structure Room(k:Nat)(A:Around):Prop where
 hd:A.handled=none
 dp:A.depth+3 * k+5<recursionLimit
 un:A.units+16 * k+200<cLine
theorem Room.mono(r:Room k A)(h:j<=k):Room j A:=⟨r.hd,by have:=r.dp;omega,by have:=r.un;omega⟩
theorem Room.deeper(r:Room (k+1) A)(env:Env):Room k (A.deeper env) :=
 ⟨r.hd,by have:=r.dp;show A.depth+1+3 * k+5<_;omega,by have:=r.un;show A.units+3+16 * k+200<_;omega⟩
theorem Q5N{A:Around}{C:Addr}{us:List Value}{kw:List (Str×Value)}:(A.under (.builtin "type.__call__" ⟨.ref C::us,kw⟩)).depth=A.depth+1:=by
 first | rfl | simp[Around.under,Code.weight,Code.isCreation,Code.isGuard,Code.isCaller,Code.frames,Code.isFrame,guardIds]
theorem Q5O{A:Around}{C:Addr}{us:List Value}{kw:List (Str×Value)}:(A.under (.builtin "type.__call__" ⟨.ref C::us,kw⟩)).units=A.units+1:=by
 first | rfl | simp[Around.under,Code.cUnits,Code.frames,Code.isFrame]
theorem Room.make(r:Room (k+1) A)(C:Addr)(us:List Value)(kw:List (Str×Value)):Room k (A.under (.builtin "type.__call__" ⟨.ref C::us,kw⟩)) :=
 ⟨r.hd,by have:=r.dp;rw[Q5N];omega,by have:=r.un;rw[Q5O];omega⟩
theorem Room.depth(r:Room k A):A.depth<recursionLimit:=by have:=r.dp;omega
noncomputable def tNil:TA:=fun _ H Q=>Q [] H
noncomputable def tCons(ta:TE)(tr:TA):TA:=fun σ H Q=>ta σ H fun x H1=>tr σ H1 fun xs H2=>Q (x::xs) H2
section
variable{X:Cx}{e:Expr}{es:List Expr}{te:TE}{t:TA}{pos:Pos}
theorem Q9G:PA X [] tNil:=fun _ _ _ _ H Q I h=>Calls.spliced_nil ⟨[],H,I,.nil,h⟩
theorem Q4m(ha:PE X e te)(hr:PA X es t)(hs:starEach (e::es) X.env=(false,eval e X.env)::starEach es X.env:=by rfl):PA X (e::es) (tCons te t):=by
 intro pos pins s σ H Q I h;rw[hs];show wpAny _ _ (spliced ((false,eval e X.env)::backTo pos (starEach es X.env))) _ _ s;refine Calls.spliced_cons (thn (ha pins s σ H _ I h) fun u s1 ⟨x,H1,I1,r1,q1⟩=>?_);exact thn (hr pos pins s1 σ H1 _ I1 q1) fun us s2 ⟨xs,H2,I2,r2,q2⟩=>⟨x::xs,H2,I2,.cons r1 r2,q2⟩
noncomputable def tTup(t:TA):TE:=fun σ H Q=>t σ H fun xs H1=>xs.length<=sizeLine/\∀ p,H1 p=none->Q (.ref p) (upd H1 p (.tup xs))
noncomputable def tLst(t:TA):TE:=fun σ H Q=>t σ H fun xs H1=>xs.length<=sizeLine/\∀ p,H1 p=none->Q (.ref p) (upd H1 p (.lst xs))
theorem Qc1{x1}(h:PA X es t):PE X (.Tuple es x1 pos) (tTup t):=by
 intro pins s σ H Q I hq;refine wpAny_Tuple_spliced (thn (h pos pins s σ H _ I hq) fun us s1 ⟨xs,H1,I1,r,z,q⟩=>⟨by rw[<- r.length];exact z,?_⟩)
 have hf:H1 s1.heap.objs.size=none:=I1.hok.fresh (Zo _);refine⟨.ref s1.heap.objs.size,upd H1 s1.heap.objs.size (.tup xs),I1.laid (t':=s1.toks) (fun b u e=>Zf _ e) (Zo _) ?_,rfl,q _ hf⟩;exact⟨z,us,r,⟨_,Zu _ rfl,rfl,_,rfl⟩⟩
theorem Q9H(h:PA X es t):PE X (.List es pos) (tLst t):=by
 intro pins s σ H Q I hq;refine wpAny_List_spliced (thn (h pos pins s σ H _ I hq) fun us s1 ⟨xs,H1,I1,r,z,q⟩=>⟨by rw[<- r.length];exact z,?_⟩)
 have hf:H1 s1.heap.objs.size=none:=I1.hok.fresh (Zo _);refine⟨.ref s1.heap.objs.size,upd H1 s1.heap.objs.size (.lst xs),I1.laid (t':=s1.toks) (fun b u e=>Zf _ e) (Zo _) ?_,rfl,q _ hf⟩;exact⟨z,us,0,r,Zu _ rfl⟩
end
noncomputable abbrev Sp:=List V->Hp->VK->XK->Prop
noncomputable abbrev CXT:=List Env->Hp->Shared->XK->Value->Shared->Prop
structure Env0(P:Program)(w:World)(K:Frag)(mg:Str->Option Value)(base:Heap)(A:Around)(outer:List Env)(s:Shared)(H:Hp):Prop where
 frames:A.frames=some outer
 mod:Mod K mg base
 bs:∀ b o,base.get? b=some o->s.heap.get? b=some o/\H b=none
 bsz:base.objs.size<=s.heap.objs.size
 funs:s.heap.FunFrames base outer
 frf:∀ b∈frs outer,H b=none
 hok:HOk P w H s.heap
 bare:AllBare s.gens
noncomputable def CE(outer:List Env)(P:Program)(w:World)(H:Hp)(s:Shared)(Q:VK)(u:Value)(s':Shared):Prop :=
 ∃ v H',s'.os=s.os/\AllBare s'.gens/\Un (frs outer) [] H H' s.heap s'.heap/\HOk P w H' s'.heap/\RelV v u/\Q v H'
noncomputable def CR(CX:CXT)(outer:List Env)(P:Program)(w:World)(H:Hp)(s:Shared)(Q:VK)(E:XK)(r:Result)(s':Shared):Prop :=
 match r with
 | .ok (.ret u)=>CE outer P w H s Q u s'
 | .ok _=>False
 | .error e=>CX outer H s E e s'
structure FnOk(P:Program)(w:World)(K:Frag)(mg:Str->Option Value)(base:Heap)(CX:CXT)(k:Nat)(f:Addr)(fd:FuncData)(ps:List Str)(sp:Sp):Prop where
 len:∀ vs H Q E,sp vs H Q E->vs.length=ps.length
 run:∀ (A:Around) (outer:List Env) (s:Shared) (H:Hp) (args:Args) (us:List Value) (vs:List V) (Q:VK) (E:XK),Room k A->Env0 P w K mg base A outer s H->BindsTo s fd args (ps.zip us)->Vals vs us->sp vs H Q E ->
  codeAny (model P w) A (.call (.ref f) args) (CR CX outer P w H s Q E) s
theorem Env0.make{P:Program}{w:World}{K:Frag}{mg:Str->Option Value}{base:Heap}{A:Around}{outer:List Env}{s:Shared}{H:Hp}(e:Env0 P w K mg base A outer s H)(C:Addr)(us:List Value)(kw:List (Str×Value)) :
  Env0 P w K mg base (A.under (.builtin "type.__call__" ⟨.ref C::us,kw⟩)) outer s H:=⟨by first | exact e.frames | (simpa[Around.under,Code.envs,Code.isFrame,pushEnvs]using e.frames),e.mod,e.bs,e.bsz,e.funs,e.frf,e.hok,e.bare⟩
section
variable{X:Cx}{pins:List (Addr×Obj)}{σ:St}{H:Hp}{s s':Shared}
theorem Inv.env0(I:Inv X pins σ H s):Env0 X.prog X.w X.K X.mg X.base X.A X.stack s H :=
 ⟨I.ok.frames,I.ok.mod,I.bs,Z4 I.ok.bsz I.sz,I.stack,I.stkFree,I.hok,I.bare⟩
theorem Inv.after(I:Inv X pins σ H s)(h:CE X.stack X.prog X.w H s Q u s'):EP X pins σ Q u s':=by
 obtain⟨v,H',os,bare,un,hok,r,q⟩:=h;obtain⟨hh,g,d,t,os'⟩:=s';obtain rfl:os'=s.os:=os;exact⟨v,H',I.call (h':=hh) (g':=g) (d':=d) (t':=t) (ch:=[]) un hok bare (fun b z=>absurd z (by simp)),r,q⟩
end
noncomputable def tCall(sp:Sp)(dvs:List V)(E:XK)(t:TA):TE:=fun σ H Q=>t σ H fun vs H1=>sp (vs++dvs) H1 Q E
noncomputable def tMeth(C:Addr)(m:Str)(sp:Sp)(dvs:List V)(E:XK)(ta:TE)(t:TA):TE:=fun σ H Q=>ta σ H fun x H1=>∃ a dx fs,x=.ref a/\H1 a=some (.ins C dx fs)/\fs.lookup m=none /\
 t σ H1 fun vs H2=>sp (x::(vs++dvs)) H2 Q E
noncomputable def tMake(C:Addr)(sp:Sp)(dvs:List V)(E:XK)(t:TA):TE:=fun σ H Q=>t σ H fun vs H1=>∀ x dx,H1 x=none->H1 dx=none->dx≠x ->
 sp (.ref x::(vs++dvs)) (upd (upd H1 dx (.own x)) x (.ins C dx [])) (fun v H2=>v=.non/\Q (.ref x) H2) E
noncomputable def Binds(K:Frag)(fd:FuncData)(ps:List Str)(ds:List Value):Prop :=
 ∀ (s:Shared) (us:List Value),K.In s.heap->(us++ds).length=ps.length->BindsTo s fd ⟨us,[]⟩ (ps.zip (us++ds))
theorem Binds.all{K:Frag}{fd:FuncData}{ps:List Str}(h:∀ us:List Value,us.length=ps.length->bindArgs fd ⟨us,[]⟩=pure (ps.zip us)):Binds K fd ps []:=fun s us _ hl=>by
 rw[Yh]at hl ⊢;exact .of_eq (h us hl)
noncomputable def zav(CX:CXT)(X:Cx)(E:XK):Prop:=∀ (pins:List (Addr×Obj)) (σ:St) (H:Hp) (s:Shared) (e:Value) (s':Shared),Inv X pins σ H s->CX X.stack H s E e s'->X.xe e s'
section
variable{X:Cx}{CX:CXT}{k:Nat}{f C:Addr}{fd:FuncData}{ps:List Str}{sp:Sp}{dvs:List V}{ds:List Value}{E:XK}{x m:Str}{p pos apos:Pos}{e o:Expr}{es:List Expr}{ta:TE}{t:TA}
theorem Q6t(F:FnOk X.prog X.w X.K X.mg X.base CX k f fd ps sp)(hr:Room k X.A)(hb:Binds X.K fd ps ds)(hd:Vals dvs ds)(hx:zav CX X E)
  (I:Inv X pins σ H s) (r:Vals vs us) (h:sp (vs++dvs) H Q E):wpAny (model X.prog X.w) X.A (call (.ref f) us) (EP X pins σ Q) X.xe s:=by
 have r2:Vals (vs++dvs) (us++ds):=r.append hd;have hl:(us++ds).length=ps.length:=by rw[<- r2.length];exact F.len _ _ _ _ h
 refine wpAny_call (codeAny_mono (F.run X.A X.stack s H ⟨us,[]⟩ (us++ds) (vs++dvs) Q E hr I.env0 (hb s us I.kIn hl) r2 h) fun r s' hq=>?_);cases r with
 | error e=>exact hx pins σ H s e s' I hq
 | ok fl =>
  cases fl with
  | ret u=>exact I.after hq
  | next=>exact False.elim hq
  | brk=>exact False.elim hq
  | cont=>exact False.elim hq
theorem Qai(F:FnOk X.prog X.w X.K X.mg X.base CX k f fd ps sp)(hr:Room k X.A)(hg:Gl X x)(hm:X.mg x=some (.ref f))(hk:keepIn X.K (.ref f)=true)(hb:Binds X.K fd ps ds)(hd:Vals dvs ds)(hx:zav CX X E)
  (ha:PA X (e::es) t) (hdb:(x==("__debug__" : Str))=false:=by decide) (he:starEach (e::es) X.env=(false,eval e X.env)::starEach es X.env:=by rfl) (hpl:(backTo pos (starEach es X.env)).any (·.1)=false:=by rfl) :
  PE X (.Call (.Name x p) (e::es) [] pos) (tCall sp dvs E t):=by
 intro pins s σ H Q I h;refine wpAny_Call_Name_kw (Q4l I hg hm ?_ hdb);refine callWith_K (h₀:=X.base) I.ok.mod.kin hk (thn (ha pos pins s σ H _ I h) fun us s1 ⟨vs,H1,I1,r,q⟩=>⟨I1.kIn,?_⟩) he hpl;exact Q6t F hr hb hd hx I1 r q
theorem Qaj{pl:Sem Bool}(he:PE X o ta)(c:Cls X.K C)(hm:Meth X.K C m f)(F:FnOk X.prog X.w X.K X.mg X.base CX k f fd ps sp)(hr:Room k X.A)(hb:Binds X.K fd ps ds)(hd:Vals dvs ds)(hx:zav CX X E)(ha:PA X (e::es) t)
  (hst:starEach (e::es) X.env=(false,eval e X.env)::starEach es X.env:=by rfl) (hpl:(backTo pos (starEach es X.env)).any (·.1)=false:=by rfl)
  (ht:eval (.Call (.Attribute o m apos) (e::es) [] pos) X.env=(do
   let ov <- eval o X.env
   standAt apos.atName
   let (f,first) <- holding [ov] (getMethod ov m pl)
   callWith pos f first (backTo pos (starEach (e::es) X.env)) (backToKw pos (keywordEach [] X.env))):=by rfl) :
  PE X (.Call (.Attribute o m apos) (e::es) [] pos) (tMeth C m sp dvs E ta t):=by
 intro pins s σ H Q I h;refine methodCall_KW (pl:=pl) (thn (he pins s σ H _ I h) fun u s1 zz=>?_) ht;obtain⟨x,H1,I1,rx,a,dx,fs,ex,ea,l,q⟩:=zz;subst ex;obtain rfl:u=Value.ref a:=rx;refine Q2w I1 ea c hm l ?_;refine callWith_K (first:=[.ref a]) (h₀:=X.base) I.ok.mod.kin hm.kp (thn (ha pos pins s1 σ H1 _ I1 q) fun us s2 ⟨vs,H2,I2,r,q2⟩=>⟨I2.kIn,?_⟩) hst hpl
 exact Q6t (us:=.ref a::us) (vs:=.ref a::vs) F hr hb hd hx I2 (.cons rfl r) q2
theorem Q8i(he:PE X o ta)(c:Cls X.K C)(hm:Meth X.K C m f)(F:FnOk X.prog X.w X.K X.mg X.base CX k f fd ps sp)(hr:Room k X.A)(hb:Binds X.K fd ps ds)(hd:Vals dvs ds)(hx:zav CX X E)
  (ht:eval (.Call (.Attribute o m apos) [] [] pos) X.env=(do
   let ov <- eval o X.env
   standAt apos.atName
   let (f,first) <- holding [ov] (getMethod ov m pl)
   callWith pos f first (backTo pos (starEach [] X.env)) (backToKw pos (keywordEach [] X.env))):=by rfl) :
  PE X (.Call (.Attribute o m apos) [] [] pos) (tMeth C m sp dvs E ta tNil):=by
 intro pins s σ H Q I h;refine methodCall_KW (pl:=pl) (thn (he pins s σ H _ I h) fun u s1 zz=>?_) ht;obtain⟨x,H1,I1,rx,a,dx,fs,ex,ea,l,q⟩:=zz;subst ex;obtain rfl:u=Value.ref a:=rx;refine Q2w I1 ea c hm l ?_;exact PySem.W.callWith_K0 (first:=[.ref a]) I1.kIn hm.kp (Q6t (us:=[.ref a]) (vs:=[.ref a]) F hr hb hd hx I1 (.cons rfl .nil) q)
structure Mk(K:Frag)(C f:Addr):Prop where
 makes:makesIn K C=true
 init:findIn K (.ref C) "__init__" = some (some (.ref f))
 fn:isFn K (.ref f)=true
 kp:keepIn K (.ref C)=true
theorem Q8j(M:Mk X.K C f)(F:FnOk X.prog X.w X.K X.mg X.base CX k f fd ps sp)(hr:Room (k+1) X.A)(hb:Binds X.K fd ps ds)(hd:Vals dvs ds)
  (hx:zav CX X E) (I:Inv X pins σ H s) (r:Vals vs us)
  (h:∀ x dx,H x=none->H dx=none->dx≠x->sp (.ref x::(vs++dvs)) (upd (upd H dx (.own x)) x (.ins C dx [])) (fun v H2=>v=.non/\Q (.ref x) H2) E) :
  wpAny (model X.prog X.w) X.A (call (.ref C) us) (EP X pins σ Q) X.xe s:=by
 have hq:=h (s.heap.objs.size+1) s.heap.objs.size (I.hok.fresh (Yq _)) (I.hok.fresh (Zo _)) (ZJ (Yo _));have I2:=Inv.made (C:=C) I;have r2:Vals (V.ref (s.heap.objs.size+1)::(vs++dvs)) (Value.ref (s.heap.objs.size+1)::(us++ds)):=.cons rfl (r.append hd);have hl:(Value.ref (s.heap.objs.size+1)::us++ds).length=ps.length:=by
  have e:=r2.length;rw[F.len _ _ _ _ hq]at e;exact e.symm
 refine wpAny_call (Q8h (f:=f) I.kIn M.makes M.init (Z0.mp M.fn) (codeAny_mono (F.run _ X.stack _ _ ⟨Value.ref (s.heap.objs.size+1)::us,[]⟩ (Value.ref (s.heap.objs.size+1)::(us++ds)) _ _ E (hr.make C us [])
  (I2.env0.make C us []) (hb _ (Value.ref (s.heap.objs.size+1)::us) I2.kIn hl) r2 hq) fun r s' hq'=>?_))
 cases r with
 | error e=>exact hx pins σ _ _ e s' I2 hq'
 | ok fl =>
  cases fl with
  | ret u =>
   obtain⟨v,H',I3,rv,ev,q3⟩:=I2.after hq';subst ev;exact⟨rv,⟨V.ref (s.heap.objs.size+1),H',I3,rfl,q3⟩⟩
  | next=>exact False.elim hq'
  | brk=>exact False.elim hq'
  | cont=>exact False.elim hq'
theorem Qak(M:Mk X.K C f)(F:FnOk X.prog X.w X.K X.mg X.base CX k f fd ps sp)(hr:Room (k+1) X.A)(hg:Gl X x)(hm:X.mg x=some (.ref C))(hb:Binds X.K fd ps ds)(hd:Vals dvs ds)(hx:zav CX X E)
  (ha:PA X (e::es) t) (hdb:(x==("__debug__" : Str))=false:=by decide) (he:starEach (e::es) X.env=(false,eval e X.env)::starEach es X.env:=by rfl) (hpl:(backTo pos (starEach es X.env)).any (·.1)=false:=by rfl) :
  PE X (.Call (.Name x p) (e::es) [] pos) (tMake C sp dvs E t):=by
 intro pins s σ H Q I h;refine wpAny_Call_Name_kw (Q4l I hg hm ?_ hdb);refine callWith_K (h₀:=X.base) I.ok.mod.kin M.kp (thn (ha pos pins s σ H _ I h) fun us s1 ⟨vs,H1,I1,r,q⟩=>⟨I1.kIn,?_⟩) he hpl;exact Q8j M F hr hb hd hx I1 r q
end
noncomputable def PK(X:Cx)(kws:List Keyword)(t:TA):Prop :=
 ∀ (pos:Pos) (pins:List (Addr×Obj)) (s:Shared) (σ:St) (H:Hp) (Q:List V->Hp->Prop),Inv X pins σ H s->t σ H Q->wpAny (model X.prog X.w) X.A (evalAll ((backToKw pos (keywordEach kws X.env)).map (·.2))) (AP X pins σ Q) X.xe s
section
variable{X:Cx}{CX:CXT}{k:Nat}{f C:Addr}{fd:FuncData}{ps ks:List Str}{sp:Sp}{E:XK}{x m:Str}{p pos apos kpos:Pos}{e o:Expr}{es:List Expr}{kws:List Keyword}{te ta:TE}{t tk:TA}{nm:Option Str}
theorem Qc2:PK X [] tNil:=fun _ _ _ _ H Q I h=>wpAny_evalAll_nil ⟨[],H,I,.nil,h⟩
theorem Qal(ha:PE X e te)(hr:PK X kws t):PK X (⟨nm,e,kpos⟩::kws) (tCons te t):=by
 intro pos pins s σ H Q I h;show wpAny _ _ (evalAll ((do let v <- eval e X.env;standAt pos;pure v)::(backToKw pos (keywordEach kws X.env)).map (·.2))) _ _ s
 refine wpAny_evalAll_cons (Za (thn (ha pins s σ H _ I h) fun u s1 ⟨x,H1,I1,r1,q1⟩=>Za (wpAny_standAt (Zb ?_))));exact thn (hr pos pins s1 σ H1 _ I1 q1) fun us s2 ⟨xs,H2,I2,r2,q2⟩=>⟨x::xs,H2,I2,.cons r1 r2,q2⟩
structure zc6(K:Frag)(fd:FuncData)(ps ks:List Str)(g:List Value->List Value->List Value)(gV:List V->List V->List V):Prop where
 to:∀ (s:Shared) (us ws:List Value),K.In s.heap->(g us ws).length=ps.length->BindsTo s fd ⟨us,ks.zip ws⟩ (ps.zip (g us ws))
 rel:∀ {vs:List V} {us:List Value} {zs:List V} {ws:List Value},Vals vs us->Vals zs ws->Vals (gV vs zs) (g us ws)
variable{g:List Value->List Value->List Value}{gV:List V->List V->List V}
end
structure zaU(N P:List Str)(sc:Scope):Prop where
 kind:sc.kind=.function
 co:sc.isCoroutine=false
 gen:sc.isGenerator=false
 nd:N.Nodup
 pre:N.take P.length=P
 par:∀ x∈P,sc.names.lookup x=some .local\/sc.names.lookup x=some .cell
 nofree:∀ y∈sc.names,y.2≠.free
theorem Q3v{kindOf:Str->Option NameKind}:∀ {binds:List (Str×Value)} {m:Str->Option Value},(∀ v,(x,v)∉binds)->bindL kindOf binds m x=m x
 | [],_,_=>rfl
 | (n,v)::r,m,h=>by
  unfold bindL;rw[Q3v fun w hw=>h w (Zq _ hw)];split
  ·have:x≠n:=by rintro rfl;exact h v Zl
   simp[this]
  ·rfl
theorem Q3w{kindOf:Str->Option NameKind}:∀ {binds:List (Str×Value)} {m:Str->Option Value},(∀ v,(x,v)∉binds)->bindC kindOf binds m x=m x
 | [],_,_=>rfl
 | (n,v)::r,m,h=>by
  unfold bindC;rw[Q3w fun w hw=>h w (Zq _ hw)];split
  ·rfl
  ·have:x≠n:=by rintro rfl;exact h v Zl
   simp[this]
theorem Q3x{kindOf:Str->Option NameKind}:∀ {P:List Str} {vs:List Value} {i:Nat} {m:Str->Option Value},P.Nodup->P[i]? = some x->vs[i]? = some v->kindOf x=some .local ->
  bindL kindOf (P.zip vs) m x=some v
 | [],_,_,_,_,h,_,_=>by simp at h
 | _::_,[],_,_,_,_,h,_=>by simp at h
 | p::P,w::vs,0,m,nd,h1,h2,hk=>by
  simp at h1 h2;subst h1;subst h2;show bindL kindOf ((p,w)::P.zip vs) m p=_;unfold bindL;rw[Q3v fun v hv=>(nodup_cons.mp nd).1 (of_mem_zip hv).1,Ze hk];simp
 | p::P,w::vs,i+1,m,nd,h1,h2,hk=>by
  show bindL kindOf ((p,w)::P.zip vs) m x=_;unfold bindL;exact Q3x (i:=i) (nodup_cons.mp nd).2 (by simpa using h1) (by simpa using h2) hk
theorem Q3y{kindOf:Str->Option NameKind}:∀ {P:List Str} {vs:List Value} {i:Nat} {m:Str->Option Value},P.Nodup->P[i]? = some x->vs[i]? = some v->kindOf x≠some .local ->
  bindC kindOf (P.zip vs) m x=some v
 | [],_,_,_,_,h,_,_=>by simp at h
 | _::_,[],_,_,_,_,h,_=>by simp at h
 | p::P,w::vs,0,m,nd,h1,h2,hk=>by
  simp at h1 h2;subst h1;subst h2;show bindC kindOf ((p,w)::P.zip vs) m p=_;unfold bindC;rw[Q3w fun v hv=>(nodup_cons.mp nd).1 (of_mem_zip hv).1,Zc hk];simp
 | p::P,w::vs,i+1,m,nd,h1,h2,hk=>by
  show bindC kindOf ((p,w)::P.zip vs) m x=_;unfold bindC;exact Q3y (i:=i) (nodup_cons.mp nd).2 (by simpa using h1) (by simpa using h2) hk
noncomputable def start(N:List Str)(vs:List V):St:=vs.map some++List.replicate (N.length-vs.length) none
noncomputable def cxOf(CX:CXT)(P:Program)(w:World)(K:Frag)(mg:Str->Option Value)(base:Heap)(N:List Str)(qual:Str)(scope:Scope)(f:Addr)(cd:Value)(A:Around)(outer:List Env)(s:Shared)(H:Hp)(E:XK):Cx where
 prog:=P
 w:=w
 K:=K
 mg:=mg
 base:=base
 A:=A.deeper (envOfC qual scope s.heap.objs.size f cd)
 N:=N
 s₀:=s
 H₀:=H
 env:=envOfC qual scope s.heap.objs.size f cd
 outer:=outer
 stack:=envOfC qual scope s.heap.objs.size f cd::outer
 ex:=[]
 calm:=true
 fn:=fun _=>true
 pn:=[]
 xe:=fun e s'=>wpAny (model P w) (A.deeper (envOfC qual scope s.heap.objs.size f cd)) (leaving (envOfC qual scope s.heap.objs.size f cd) e) (fun _ s''=>CX outer H s E e s'') (fun e' s''=>CX outer H s E e' s'') s'
theorem Q4L{sc:Scope}{n:Nat}{x:Str}(h:sc.names.lookup x=some .cell):∃ c,(cellsFrom n sc.names []).lookup x=some c:=by
 have q:=PySem.W.cellsFrom_some sc.names n [] (.inl h);exact Yp.mp q
theorem Q6u{CX:CXT}{P:Program}{w:World}{K:Frag}{mg:Str->Option Value}{base:Heap}{N ps:List Str}{qual:Str}{scope:Scope}{f:Addr}{cd:Value}{A:Around}{outer:List Env}{s s1:Shared}{H:Hp}{E:XK}{us:List Value}{vs:List V}
  (S:zaU N ps scope) (hd:A.handled=none) (e0:Env0 P w K mg base A outer s H) (hl:vs.length=ps.length) (r:Vals vs us)
  (x:InCallC s s.heap.objs.size (bindL (envOfC qual scope s.heap.objs.size f cd).kindOf (ps.zip us) fun _=>none) (cellsFrom (s.heap.objs.size+1) scope.names []) (bindC (envOfC qual scope s.heap.objs.size f cd).kindOf (ps.zip us) fun _=>none) s1) :
  Inv (cxOf CX P w K mg base N qual scope f cd A outer s H E) [] (start N vs) H s1:=by
 have hpl:ps.length<=N.length:=by have:=congrArg List.length S.pre;rw[Z1]at this;omega
 obtain⟨h1,tk,rfl,hk⟩:=x.done;have noA:∀ b:Addr,b∉(cxOf CX P w K mg base N qual scope f cd A outer s H E).ex:=fun b z=>absurd (show b∈([]:List Addr) from z) (by simp)
 refine⟨⟨e0.mod,S.kind,rfl,rfl,Zo _,fun y z c h1 h2=>?_,fun y hy=>?_,fun y c _ h=>?_,fun _=>hd,Around.frames_deeper e0.frames,.inr ⟨rfl,rfl⟩,fun b z=>absurd z (noA b),e0.bs,e0.bsz,fun b _ _=>noA b,fun b z=>absurd z (noA b),e0.funs,e0.frf⟩,
  rfl,e0.bare,Un.kept hk,⟨_,x.toInCall.ns,fun i y v h1 h2 h3=>?_⟩,fun y c h=>⟨_,x.cell y c h⟩,e0.hok.fresh (Zo _),fun y c h=>?_,fun p hp=>absurd (show p∈([]:List (Addr×Obj)) from hp) (by simp),e0.hok.kept hk,?_⟩
 ·exact name_of_addr x.apart (PySem.mem_of_lookup h1) (PySem.mem_of_lookup h2)
 ·have hy:scope.names.lookup y=some .cell\/scope.names.lookup y=some .free:=hy;rcases hy with hy | hy
  ·exact Q4L hy
  ·exact absurd rfl (S.nofree _ (PySem.mem_of_lookup hy))
 ·exact le_of_lt (x.above y c (PySem.mem_of_lookup h))
 ·have hi:i<vs.length:=by
   unfold start at h2;by_cases hi:i<vs.length
   ·exact hi
   ·rw[Ym (by simpa using hi)]at h2
    rw[List.getElem?_replicate]at h2;split at h2 <;> cases h2
  have ha:vs[i]? = some v:=by
   unfold start at h2;rw[getElem?_append_left (by simpa using hi),Z5]at h2
   cases e:vs[i]? with
   | none=>rw[e]at h2;cases h2
   | some a=>rw[e]at h2;cases h2;rfl
  obtain⟨u,hu,rv⟩:=r.get ha;have hp:ps[i]? = some y:=by
   rw[<- S.pre,List.getElem?_take_of_lt (by omega)];exact h1
  have ndP:ps.Nodup:=by rw[<- S.pre];exact S.nd.sublist (List.take_sublist _ _)
  refine⟨u,rv,?_⟩;rcases S.par y (ZG hp) with k | k
  ·exact .inl ⟨k,Q3x ndP hp hu k⟩
  ·obtain⟨c,e⟩:=Q4L (n:=s.heap.objs.size+1) k;refine .inr ⟨.inl k,c,e,?_⟩;have q:=x.cell y c e;rw[Q3y ndP hp hu (by show scope.names.lookup y≠_;rw[k];decide)]at q
   exact q
 ·exact e0.hok.fresh (le_of_lt (x.above y c (PySem.mem_of_lookup h)))
 ·unfold start;show _=N.length;rw[Zi,Zd,length_replicate];omega
theorem fn_of{CX:CXT}{P:Program}{w:World}{K:Frag}{mg:Str->Option Value}{base:Heap}{k:Nat}{f:Addr}{name qual:Str}{params:Arguments}{body:List Stmt}{scope:Scope}{dV kV doc pm cdv ct oc:Value}{an od:Option Addr}
  {osl:Array (Option Value)} {N ps:List Str} {sp:Sp} (lk:K.lookup f=some ⟨oc,od,.func (fnOf name qual params body scope dV kV doc pm an cdv ct),osl⟩) (hcd:codeIn K cdv qual=true) (S:zaU N ps scope)
  (len:∀ vs H Q E,sp vs H Q E->vs.length=ps.length)
  (hbody:∀ (A:Around) (outer:List Env) (s:Shared) (H:Hp) (vs:List V) (Q:VK) (E:XK),Room k (A.deeper (envOfC qual scope s.heap.objs.size f cdv))->sp vs H Q E ->
   ∃ t,PSs (cxOf CX P w K mg base N qual scope f cdv A outer s H E) body t/\t { nx:=fun _ H'=>Q .non H',rt:=Q } (start N vs) H) :
  FnOk P w K mg base CX (k+1) f (fnOf name qual params body scope dV kV doc pm an cdv ct) ps sp:=by
 refine⟨len,fun A outer s H args us vs Q E hr e0 hb r hsp=>?_⟩;have hl:=len _ _ _ _ hsp;have KX:K.In s.heap:=e0.mod.kin.keeps fun b o e=>(e0.bs b o e).1;have lim:s.heap.NoLimit:=e0.mod.nolimit.keeps fun b o e=>(e0.bs b o e).1;have hkind:∀ y∈ps.zip us,scope.names.lookup y.1=some .local\/(scope.names.lookup y.1=some .cell/\((cellsFrom (s.heap.objs.size+1) scope.names []).lookup y.1).isSome=true):=fun⟨n,v⟩ hy=>by
  rcases S.par n (of_mem_zip hy).1 with q | q
  ·exact .inl q
  ·exact .inr ⟨q,PySem.W.cellsFrom_some _ _ _ (.inl q)⟩
 refine codeAny_call_function hr.depth (KX _ _ lk) rfl S.co S.gen rfl (PySem.W.codeRec_of KX hcd) (hb _ _ _ _ ?_);refine wpAny_newFunctionEnv_cells S.kind hkind fun env he s1 x=>?_;subst he;refine⟨lim.keeps x.toInCall.keep,codeAny_func ?_⟩;obtain⟨t,ht,hq⟩:=hbody A outer s H vs Q E (hr.deeper _) hsp;have I:Inv (cxOf CX P w K mg base N qual scope f cdv A outer s H E) [] (start N vs) H s1:=Q6u S hr.hd e0 hl r x;refine Yt (ht [] s1 (start N vs) H _ I hq) (fun fl s' hs=>?_) fun e s' hs=>hs;have fin:∀ {σ':St} {H':Hp} {v:V} {u:Value},Inv (cxOf CX P w K mg base N qual scope f cdv A outer s H E) [] σ' H' s'->RelV v u->Q v H'->CE outer P w H s Q u s' :=
  fun{σ' H' v u} J rv q=>⟨v,H',J.os,J.bare,J.base,J.hok,rv,q⟩
 cases fl with
 | ret u =>
  obtain⟨v,σ',H',J,rv,q⟩:=hs;exact fin J rv q
 | next =>
  obtain⟨σ',H',J,q⟩:=hs;exact fin (v:=V.non) (u:=Value.none) J rfl q
 | brk =>
  obtain⟨_,_,_,q⟩:=hs;exact False.elim q
 | cont =>
  obtain⟨_,_,_,q⟩:=hs;exact False.elim q
section
variable{X:Cx}{x:Str}{p pos:Pos}{e:Expr}{es:List Expr}{t:TA}{id T:String}{r:List V->Hp->VK->Prop}
noncomputable def tCB(r:List V->Hp->VK->Prop)(t:TA):TE:=fun σ H Q=>t σ H fun vs H1=>r vs H1 Q
theorem Q4M(hc:zaY X (.builtin id) r)(hg:Gl X x)(hm:X.mg x=none)(hv:bootBuiltins x=some (.builtin id))(ha:PA X (e::es) t)(hn:x ≠ "__name__":=by decide)(hdb:(x==("__debug__" : Str))=false:=by decide)
  (he:starEach (e::es) X.env=(false,eval e X.env)::starEach es X.env:=by rfl) (hpl:(backTo pos (starEach es X.env)).any (·.1)=false:=by rfl):PE X (.Call (.Name x p) (e::es) [] pos) (tCB r t):=by
 intro pins s σ H Q I h;refine wpAny_Call_Name_kw (Q3r I hg hm hv ?_ hn hdb);exact PyProof.Rows.callWith_builtin1 (thn (ha pos pins s σ H _ I h) fun us s1 ⟨vs,H1,I1,r1,q1⟩=>hc pins s1 σ H1 vs us Q I1 r1 q1) he hpl
theorem Q6v(hc:zaY X (.type T) r)(hg:Gl X x)(hm:X.mg x=none)(hv:bootBuiltins x=some (.type T))(ha:PA X (e::es) t)(hn:x ≠ "__name__":=by decide)(hdb:(x==("__debug__" : Str))=false:=by decide)
  (he:starEach (e::es) X.env=(false,eval e X.env)::starEach es X.env:=by rfl) (hpl:(backTo pos (starEach es X.env)).any (·.1)=false:=by rfl):PE X (.Call (.Name x p) (e::es) [] pos) (tCB r t):=by
 intro pins s σ H Q I h;refine wpAny_Call_Name_kw (Q3r I hg hm hv ?_ hn hdb);exact PyProof.Rows.callWith_type1 (thn (ha pos pins s σ H _ I h) fun us s1 ⟨vs,H1,I1,r1,q1⟩=>hc pins s1 σ H1 vs us Q I1 r1 q1) he hpl
end
end L2
namespace HT
open PySem PyProof.Rows
section
open PySem.SeqAt
open PySem.AutoSeq1 (wpAny_loadPart')
open PySem.MeetsSeq PySem.MeetsSeq2 PySem.MeetsSeq3
end
section
variable{prog:Program}{w:World}{A:Around}{E:Value->Shared->Prop}{s:Shared}
noncomputable def sIx(n d:Nat):Option Int->Nat
 | none=>d
 | some v=>if v<0 then (v+(n:Int)).toNat else min v.toNat n
theorem sIx_none(n d:Nat):sIx n d none=d:=rfl
theorem sIx_nat(n d k:Nat):sIx n d (some (k:Int))=min k n:=by
 show (if (k:Int)<0 then ((k:Int)+(n:Int)).toNat else min (k:Int).toNat n)=min k n
 rw[Zc (by omega),Zx]
theorem sIx_le(n d:Nat)(hd:d<=n)(o:Option Int):sIx n d o<=n:=by
 cases o with
 | none=>exact hd
 | some v =>
  show (if v<0 then (v+(n:Int)).toNat else min v.toNat n)<=n
  by_cases hv:v<0
  ·rw[Ze hv];omega
  ·rw[Zc hv];exact Nat.min_le_right _ _
theorem Q6w(v:Int)(n d:Nat):(if v<0 then max (v+(n:Int)) 0 else min v (n:Int))=((sIx n d (some v):Nat):Int):=by
 show (if v<0 then max (v+(n:Int)) 0 else min v (n:Int))=(((if v<0 then (v+(n:Int)).toNat else min v.toNat n):Nat):Int)
 by_cases hv:v<0
 ·simp only[Ze hv];omega
 ·simp only[Zc hv];omega
theorem Q5P(lo hi:Option Int)(n:Nat):Builtin.Slice.sliceAdjust lo hi 1 (n:Int)=(((sIx n 0 lo:Nat):Int),((sIx n n hi:Nat):Int)):=by
 have h1:¬ ((1:Int)<0):=by omega
 unfold Builtin.Slice.sliceAdjust;simp only[h1,Yd];refine Prod.ext ?_ ?_
 ·cases lo with
  | none=>rfl
  | some v=>exact Q6w v n 0
 ·cases hi with
  | none=>rfl
  | some v=>exact Q6w v n n
theorem Q5Q(i j:Nat):Builtin.Slice.slicePlaces (i:Int) (j:Int) 1=j-i:=by
 unfold Builtin.Slice.slicePlaces;have h1:(1:Int) > 0:=by omega
 simp only[h1,Yw,Int.ediv_one];split <;> omega
theorem Q2x{Q:Option Int->Shared->Prop}(p:IsPart v o)(h:Q o s):wpAny (model prog w) A (Builtin.Slice.slicePartIndex v) Q E s:=by
 cases p with
 | none=>exact slicePart_none h
 | int i t=>exact slicePart_int h
theorem sliceApplied_gen{sl:Addr}{vl vu:Value}{lo hi:Option Int}{n:Nat}{Q:Int×Int×Nat->Shared->Prop}(hs:s.heap.IsSliceOf sl vl vu .none)(pl:IsPart vl lo)(pu:IsPart vu hi)
  (h:Q (((sIx n 0 lo:Nat):Int),1,sIx n n hi-sIx n 0 lo) s):wpAny (model prog w) A (Builtin.Slice.sliceApplied (.ref sl) (pure (n:Int))) Q E s:=by
 obtain⟨os,hos,hcs,hds⟩:=id hs;unfold Builtin.Slice.sliceApplied Builtin.Slice.sliceFields;refine Za (Za (wpAny_field hos hds (x:=vl) rfl (Za (wpAny_field hos hds (x:=vu) rfl (Za (wpAny_field hos hds (x:=.none) rfl (Zb ?_)))))));refine Za (slicePart_none ?_);show wpAny _ _ (if ((1:Int)==0)=true then _ else _) _ _ s
 rw[Zc (by decide)]
 refine Za (Q2x pl (Za (Q2x pu (Za (Zb ?_)))));show wpAny _ _ (match Builtin.Slice.sliceAdjust lo hi 1 (n:Int) with | (lo,hi)=>pure (lo,(1:Int),Builtin.Slice.slicePlaces lo hi 1)) _ _ s
 rw[Q5P lo hi n];show wpAny _ _ (pure (((sIx n 0 lo:Nat):Int),(1:Int),Builtin.Slice.slicePlaces ((sIx n 0 lo:Nat):Int) ((sIx n n hi:Nat):Int) 1)) _ _ s;rw[Q5Q];exact Zb h
theorem Q8k(xs:Array Value)(i k:Nat):((List.range k).filterMap fun(m:Nat)=>xs[((i:Int)+(m:Int) * 1).toNat]?).toArray=((xs.toList.drop i).take k).toArray:=by
 have e:(fun(m:Nat)=>xs[((i:Int)+(m:Int) * 1).toNat]?)=fun m=>xs[i+m]?:=by
  funext m
  have:((i:Int)+(m:Int) * 1).toNat=i+m:=by omega
  rw[this]
 rw[e];have:=pick_run xs i k;rw[List.filterMap_map]at this;have e2:((fun x=>xs[x]?) ∘ fun x=>i+x)=fun m=>xs[i+m]?:=rfl;rw[e2]at this;rw[this]
theorem getItem_tuple_cut{t sl:Addr}{items:Array Value}{vl vu:Value}{lo hi:Option Int}{Q:Value->Shared->Prop}(ht:IsTup s.heap t items)(hs:s.heap.IsSliceOf sl vl vu .none)(pl:IsPart vl lo)(pu:IsPart vu hi)
  (hw:¬ (sIx items.size 0 lo=0/\sIx items.size items.size hi=items.size))
  (h:Q (.ref s.heap.objs.size) { s with heap:=s.heap.push { cls:=.type "tuple",data:=.seq ((items.toList.drop (sIx items.size 0 lo)).take (sIx items.size items.size hi-sIx items.size 0 lo)).toArray } })
  (hsz:items.size<=sizeLine):wpAny (model prog w) A (getItem (.ref t) (.ref sl)) Q E s:=by
 have htake:sizeOk (.seq ((items.toList.drop (sIx items.size 0 lo)).take (sIx items.size items.size hi-sIx items.size 0 lo)).toArray):=by
  show ((items.toList.drop (sIx items.size 0 lo)).take (sIx items.size items.size hi-sIx items.size 0 lo)).toArray.size<=sizeLine;rw[Z2,Z1,length_drop,ZE];omega
 have hj:sIx items.size items.size hi<=items.size:=sIx_le _ _ (Zo _) hi;obtain⟨os,hos,hcs,hds⟩:=id hs;have hTs:s.TypeIs (.ref sl) "slice":=⟨os,hos,hcs⟩;unfold getItem
 try with_reducible refine ZW ?_
 first | refine Za (Zb ?_) | skip
 refine Za (wpAny_sequenceKey ht.typeIs (by decide) ?_)
 refine Za (wpAny_callSpecial?_slot (name:=Str.ofString "__getitem__") ht.typeIs Yl
  (ZP Yl ht.typeIs entry_tuple_getitem ?_ (args_tuple_getitem _ _)))
 show wpAny _ _ (Builtin.Tuple.tupleItemsOf (.ref t) >>= _) _ _ s;refine Za (tupleItemsOf_ ht ?_);refine Za (wpAny_typeOf hTs ?_);rw[Ze (by decide)]
 refine Za (sliceApplied_gen hs pl pu ?_);have hno:¬ ((((sIx items.size 0 lo:Nat):Int)==0&&(1:Int)==1&&(sIx items.size items.size hi-sIx items.size 0 lo)==items.size)=true):=by
  intro q;rw[Zh,Zh]at q;have q1:((sIx items.size 0 lo:Nat):Int)=0:=eq_of_beq q.1.1;have q2:sIx items.size items.size hi-sIx items.size 0 lo=items.size:=eq_of_beq q.2;exact hw ⟨by omega,by omega⟩
 show wpAny _ _ (if (((sIx items.size 0 lo:Nat):Int)==0&&(1:Int)==1&&(sIx items.size items.size hi-sIx items.size 0 lo)==items.size)=true then _ else _) _ _ s
 rw[Zc hno,Q8k]
 first
  | exact Za (m:=Builtin.Tuple.tupleExact _) (ZV (Zb ⟨_,rfl,Zb h⟩) htake)
  | exact Za (m:=Builtin.Tuple.tupleExact _) (ZV (Za (Zb (Zb ⟨_,rfl,Zb h⟩))) htake)
  | exact Za (Za (m:=Builtin.Tuple.tupleExact _) (ZV (Zb (Zb ⟨_,rfl,Zb h⟩)) htake))
  | exact Za (Za (m:=Builtin.Tuple.tupleExact _) (ZV (Zb ⟨_,rfl,Zb h⟩) htake))
end
end HT
namespace L2
open PySem PySem.Spec PyProof.Rows
noncomputable abbrev TO:=St->Hp->(Option Int->Hp->Prop)->Prop
noncomputable def PO(X:Cx)(e:Option Expr)(t:TO):Prop :=
 ∀ (pins:List (Addr×Obj)) (s:Shared) (σ:St) (H:Hp) (Q:Option Int->Hp->Prop),Inv X pins σ H s->t σ H Q ->
  wpAny (model X.prog X.w) X.A (evalPart e X.env) (fun u s'=>∃ o H',Inv X pins σ H' s'/\IsPart u o/\Q o H') X.xe s
noncomputable def tNoPart:TO:=fun _ H Q=>Q none H
noncomputable def tPart(t:TE):TO:=fun σ H Q=>t σ H fun x H1=>∃ i,x=.int i/\Q (some i) H1
theorem Q5R:∀ {us:List Value},Vals (ns.map V.int) us->IntsAre us ns:=by
 induction ns with
 | nil=>intro us r;rw[map_nil]at r;cases r;exact .nil
 | cons n ns ih =>
  intro us r;rw[Zy]at r;cases r with
  | cons r1 r2 =>
   obtain⟨t,e⟩:=r1;subst e;exact .cons n t (ih r2)
section
variable{X:Cx}{e:Expr}{te:TE}{lo hi:Option Expr}{tl th:TO}{pos p2:Pos}
theorem Qam:PO X none tNoPart:=by
 intro pins s σ H Q I h;rw[evalPart_none];exact Zb ⟨none,H,I,.none,h⟩
theorem Qan(h:PE X e te):PO X (some e) (tPart te):=by
 intro pins s σ H Q I hw;rw[evalPart_some];refine thn (h pins s σ H _ I hw) fun u s1 ⟨x,H1,I1,r1,q1⟩=>?_;obtain⟨i,rfl,q⟩:=q1;obtain⟨t,rfl⟩:=r1;exact⟨some i,H1,I1,.int i t,q⟩
noncomputable def SlR(X:Cx)(r:V->Option Int->Option Int->Hp->VK->Prop):Prop :=
 ∀ (pins:List (Addr×Obj)) (s:Shared) (σ:St) (H:Hp) (x:V) (v vl vu:Value) (lo hi:Option Int) (sl:Addr) (Q:VK),Inv X pins σ H s->RelV x v->s.heap.IsSliceOf sl vl vu .none->IsPart vl lo->IsPart vu hi->r x lo hi H Q ->
  ∃ T id,typeLookup (.type T) "__getitem__" = pure (some (.builtin id))/\s.TypeIs v T/\wpAny (model X.prog X.w) X.A (getItem v (.ref sl)) (EP X pins σ Q) X.xe s
noncomputable def tSl(r:V->Option Int->Option Int->Hp->VK->Prop)(te:TE)(tl th:TO):TE:=fun σ H Q=>te σ H fun x H1=>tl σ H1 fun l H2=>th σ H2 fun u H3=>r x l u H3 Q
theorem Q8l{r:V->Option Int->Option Int->Hp->VK->Prop}(hr:SlR X r)(he:PE X e te)(hl:PO X lo tl)(hu:PO X hi th):PE X (.Subscript e (.Slice lo hi none p2) pos) (tSl r te tl th):=by
 intro pins s σ H Q I h;refine Subscript_ (thn (he pins s σ H _ I h) fun v s1 ⟨x,H1,I1,r1,q1⟩=>?_);refine wpAny_Slice (thn (hl pins s1 σ H1 _ I1 q1) fun vl s2 ⟨l,H2,I2,pl,q2⟩=>thn (hu pins s2 σ H2 _ I2 q2) fun vu s3 ⟨u,H3,I3,pu,q3⟩=>?_);rw[evalPart_none];refine Zb ?_;have I4:Inv X pins σ H3 { s3 with heap:=s3.heap.push { cls:=.type "slice",data:=.fields #[vl,vu,.none] } }:=I3.kept (t':=s3.toks) fun b ob q=>Zf _ q;obtain⟨T,id,hT,ht,hg⟩:=hr pins { s3 with heap:=s3.heap.push { cls:=.type "slice",data:=.fields #[vl,vu,.none] } } σ H3 x v vl vu l u s3.heap.objs.size Q I4 r1 (Heap.IsSliceOf.new ..) pl pu q3;show wpAny (model X.prog X.w) X.A (subscriptTail e (.Slice lo hi none p2) v (.ref s3.heap.objs.size)) (EP X pins σ Q) X.xe { s3 with heap:=s3.heap.push { cls:=.type "slice",data:=.fields #[vl,vu,.none] } };exact tail_any (ops:=[.ref s3.heap.objs.size,v]) ht hT hg (by with_unfolding_all rfl)
noncomputable def cutV(xs:List V)(lo hi:Option Int):List V:=(xs.drop (HT.sIx xs.length 0 lo)).take (HT.sIx xs.length xs.length hi-HT.sIx xs.length 0 lo)
theorem Q2a(xs:List V)(lo hi:Option Int):(cutV xs lo hi).length<=xs.length:=by
 unfold cutV;rw[Z1,length_drop];omega
noncomputable def rSlT(K:Frag):V->Option Int->Option Int->Hp->VK->Prop:=fun x lo hi H Q=>∃ a xs,x=.ref a/\SqT K H a xs /\
 ¬ (HT.sIx xs.length 0 lo=0/\HT.sIx xs.length xs.length hi=xs.length)/\∀ p,H p=none->Q (.ref p) (upd H p (.tup (cutV xs lo hi)))
theorem Qc3:SlR X (rSlT X.K):=by
 intro pins s σ H x v vl vu lo hi sl Q I rx hs pl pu h;obtain⟨a,xs,rfl,hx,hw,q⟩:=h;cases rx;obtain⟨its,r,ht,hz⟩:=I.tuple hx;have hlen:its.toArray.size=xs.length:=by rw[Z2];exact r.length.symm
 refine⟨"tuple",_,Yl.lookup,ht.typeIs,?_⟩;refine HT.getItem_tuple_cut ht hs pl pu (by rw[hlen];exact hw) ?_ (by rw[hlen];exact hz)
 rw[hlen];refine⟨.ref s.heap.objs.size,_,I.laid (t':=s.toks) (o:=.tup (cutV xs lo hi)) (fun b ob q=>Zf _ q) (Zo _) ?_,rfl,q _ (I.hok.fresh (Zo _))⟩;exact⟨Z4 (Q2a xs lo hi) hz,_,(r.drop (HT.sIx xs.length 0 lo)).take (HT.sIx xs.length xs.length hi-HT.sIx xs.length 0 lo),IsTup.new _ _⟩
end
noncomputable def ixN(n:Nat)(i:Int):Option Nat:=if 0<=i then (if i<n then some i.toNat else none) else if -(n:Int)<=i then some (i+n).toNat else none
noncomputable def atI{α:Type}(xs:List α)(i:Int):Option α:=(ixN xs.length i).bind fun j=>xs[j]?
theorem Qao(h:ixN n i=some j):seqIndex? i n=some j/\j<n /\ -(n:Int)<=i/\i<n:=by
 unfold ixN at h;by_cases h0:0<=i
 ·rw[Ze h0]at h;by_cases h1:i<n
  ·rw[Ze h1]at h;have e:i.toNat=j:=Z6 h;exact⟨by rw[seqIndex_of h0 h1,e],by omega,by omega,h1⟩
  ·rw[Zc h1]at h;cases h
 ·rw[Zc h0]at h;by_cases h1:-(n:Int)<=i
  ·rw[Ze h1]at h;have e:(i+n).toNat=j:=Z6 h;exact⟨by rw[seqIndex_neg (by omega) h1,e],by omega,h1,by omega⟩
  ·rw[Zc h1]at h;cases h
theorem Q2M{α:Type}{xs:List α}{i:Int}{v:α}(h:atI xs i=some v):∃ j,seqIndex? i xs.length=some j/\xs[j]? = some v/\j<xs.length /\ -(xs.length:Int)<=i/\i<xs.length:=by
 unfold atI at h;cases e:ixN xs.length i with
 | none=>rw[e]at h;cases h
 | some j =>
  rw[e]at h;obtain⟨h1,h2,h3,h4⟩:=Qao e;exact⟨j,h1,h,h2,h3,h4⟩
theorem atI_last{α:Type}(xs:List α)(v:α):atI (xs++[v]) (-1)=some v:=by
 have hl:(xs++[v]).length=xs.length+1:=by simp
 have e:ixN (xs++[v]).length (-1)=some xs.length:=by
  unfold ixN;rw[hl,Zc (by decide),Ze (by omega)]
  congr 1;omega
 unfold atI;rw[e];show (xs++[v])[xs.length]? = some v;simp
noncomputable def zbv(b:Expr):Prop:=∀ o i,subscripted b false o i=operate [o,i] (getItem o i)
noncomputable def IxR(X:Cx)(r:R2):Prop :=
 ∀ (value slice:Expr) (pins:List (Addr×Obj)) (s:Shared) (σ:St) (H:Hp) (x y:V) (v u:Value) (Q:VK),Inv X pins σ H s->RelV x v->RelV y u->r x y H Q ->
  subscripted slice false v u=operate [v,u] (getItem v u)->wpAny (model X.prog X.w) X.A (subscriptTail value slice v u) (EP X pins σ Q) X.xe s
noncomputable def MtR(X:Cx)(id:String)(r:V->List V->Hp->VK->Prop):Prop :=
 ∀ (pins:List (Addr×Obj)) (s:Shared) (σ:St) (H:Hp) (x:V) (xs:List V) (v:Value) (us:List Value) (Q:VK),Inv X pins σ H s->RelV x v->Vals xs us->r x xs H Q ->
  wpAny (model X.prog X.w) X.A (call (.builtin id) (v::us)) (EP X pins σ Q) X.xe s
section
variable{X:Cx}{a b:Expr}{ta tb:TE}{pos:Pos}
theorem pe_ix(hr:IxR X r)(ha:PE X a ta)(hb:PE X b tb)(hs:zbv b):PE X (.Subscript a b pos) (tOp r ta tb):=by
 intro pins s σ H Q I h;exact Subscript_ (binT ha hb I h fun v u s2 x y H2 I2 rx ry q=>hr a b pins s2 σ H2 x y v u Q I2 rx ry q (hs _ _))
noncomputable def rIxL(K:Frag):R2:=fun x y H Q=>∃ p xs i v,x=.ref p/\y=.int i/\SqL K H p xs/\atI xs i=some v/\Q v H
noncomputable def rIxT(K:Frag):R2:=fun x y H Q=>∃ p xs i v,x=.ref p/\y=.int i/\SqT K H p xs/\atI xs i=some v/\Q v H
noncomputable def rIxS:R2:=fun x y H Q=>∃ z i c,x=.str z/\y=.int i/\z.length<=sizeLine/\atI z.cps.toList i=some c/\Q (.str ⟨#[c]⟩) H
theorem Qap:IxR X (rIxL X.K):=by
 intro value slice pins s σ H x y v u Q I rx ry h hs;obtain⟨p,xs,i,z,rfl,rfl,hq,he,q⟩:=h;cases rx;obtain⟨t,rfl⟩:=ry;obtain⟨its,r,pl,hz⟩:=I.list hq;obtain⟨j,h1,h2,h3,h4,h5⟩:=Q2M he;obtain⟨w,ew,rw'⟩:=r.get h2;have hl:=r.length;have hn:=line63;have fin:EP X pins σ Q w s:=⟨z,H,I,rw',q⟩;by_cases h0:0<=i
 ·have hj:i.toNat=j:=by
   rw[seqIndex_of h0 h5]at h1;exact Z6 h1
  exact item_listR pl.isList h0 (by omega) (by rw[hj];simpa using ew) fin hs
 ·have hj:(i+(its.toArray.size:Int)).toNat=j:=by
   rw[seqIndex_neg (by omega) h4]at h1
   rw[Z2,<- hl];exact Z6 h1
  exact subscriptTail_builtinR (x:=w) pl.isList.typeIs slot_list_getitem.lookup
   (wpAny_getItem_list_neg (Q:=fun r s'=>r=w/\EP X pins σ Q r s') pl.isList (by omega) (by rw[Z2] <;> omega) (by omega) (by rw[hj];simpa using ew) ⟨rfl,fin⟩) hs
theorem ix_tup:IxR X (rIxT X.K):=by
 intro value slice pins s σ H x y v u Q I rx ry h hs;obtain⟨p,xs,i,z,rfl,rfl,hq,he,q⟩:=h;cases rx;obtain⟨t,rfl⟩:=ry;obtain⟨its,r,pl,hz⟩:=I.tuple hq;obtain⟨j,h1,h2,h3,h4,h5⟩:=Q2M he;obtain⟨w,ew,rw'⟩:=r.get h2;have hl:=r.length;have hn:=line63;have fin:EP X pins σ Q w s:=⟨z,H,I,rw',q⟩;exact subscriptTail_builtinR (x:=w) pl.typeIs slot_tuple_getitem.lookup
  (getItem_tuple (j:=j) (Q:=fun r s'=>r=w/\EP X pins σ Q r s') pl (by omega) (by omega) (by rw[Z2,<- hl];exact h1) (by simpa using ew) ⟨rfl,fin⟩) hs
theorem ix_str:IxR X rIxS:=by
 intro value slice pins s σ H x y v u Q I rx ry h hs;obtain⟨z,i,c,rfl,rfl,hz,he,q⟩:=h;obtain⟨t,rfl⟩:=rx;obtain⟨t',rfl⟩:=ry;obtain⟨j,h1,h2,h3,h4,h5⟩:=Q2M he;have hl:z.cps.toList.length=z.length:=by simp[Str.length]
 rw[hl]at h1 h4 h5;have hn:=line63;exact tail_any (typeIs_str s z t) slot_str_getitem.lookup (getItem_str (c:=c) (by
  have e1:decide (i < -(2 ^ 63:Int))=false:=Zr (by omega)
  have e2:decide (i >= 2 ^ 63)=false:=Zr (by omega)
  rw[e1,e2,Bool.or_false]) (by rw[h1];simpa using h2) ⟨.str ⟨#[c]⟩,H,I.tok _,⟨_,rfl⟩,q⟩) hs
theorem Q3z(lo hi:Option Int)(n:Nat):(sliceBounds lo hi none n).1=((HT.sIx n 0 lo:Nat):Int)/\(sliceBounds lo hi none n).2.1=((HT.sIx n n hi:Nat):Int)/\(sliceBounds lo hi none n).2.2=1:=by
 refine⟨?_,?_,rfl⟩
 ·cases lo with
  | none=>simp[sliceBounds,HT.sIx]
  | some i =>
   simp only[sliceBounds,HT.sIx,Option.getD_none,show (1:Int) > 0 by decide,Yw]
   by_cases h:i<0
   ·simp only[h,Yw] <;> omega
   ·simp only[h,Yd] <;> omega
 ·cases hi with
  | none=>simp[sliceBounds,HT.sIx]
  | some i =>
   simp only[sliceBounds,HT.sIx,Option.getD_none,show (1:Int) > 0 by decide,Yw]
   by_cases h:i<0
   ·simp only[h,Yw] <;> omega
   ·simp only[h,Yd] <;> omega
theorem Q2N(its:List Value)(lo hi:Option Int):slicePick its.toArray lo hi none=((its.drop (HT.sIx its.length 0 lo)).take (HT.sIx its.length its.length hi-HT.sIx its.length 0 lo)).toArray:=by
 obtain⟨h1,h2,h3⟩:=Q3z lo hi its.toArray.size;unfold slicePick;rw[h1,h2,h3];simp only[sliceRange_one,pick_run,Z2] <;> rfl
noncomputable def rSlL(K:Frag):V->Option Int->Option Int->Hp->VK->Prop:=fun x lo hi H Q=>∃ a xs,x=.ref a/\SqL K H a xs/\∀ p,H p=none->Q (.ref p) (upd H p (.lst (cutV xs lo hi)))
theorem Qaq:SlR X (rSlL X.K):=by
 intro pins s σ H x v vl vu lo hi sl Q I rx hs pl pu h;obtain⟨a,xs,rfl,hx,q⟩:=h;cases rx;obtain⟨its,r,ht,hz⟩:=I.list hx;have hlen:=r.length;refine⟨"list",_,slot_list_getitem.lookup,ht.isList.typeIs,?_⟩;refine wpAny_getItem_list_slice ht.isList hs pl pu .none (by simp) ?_ (by rw[Z2] <;> omega)
 rw[Q2N,<- hlen];refine⟨.ref s.heap.objs.size,_,I.laid (t':=s.toks) (o:=.lst (cutV xs lo hi)) (fun b ob q=>Zf _ q) (Zo _) ?_,rfl,q _ (I.hok.fresh (Zo _))⟩;exact⟨Z4 (Q2a xs lo hi) hz,_,0,(r.drop (HT.sIx xs.length 0 lo)).take (HT.sIx xs.length xs.length hi-HT.sIx xs.length 0 lo),Zu _ rfl⟩
theorem Q0Y:zaY X (.builtin "len") (fun xs H Q=>∃ p ys,xs=[.ref p]/\(SqL X.K H p ys\/SqT X.K H p ys)/\Q (.int ys.length) H):=by
 intro pins s σ H xs us Q I r h;obtain⟨p,ys,rfl,hq,q⟩:=h;obtain⟨u,rfl,rx⟩:=vals1 r;cases rx;have hn:=line63;rcases hq with hq | hq
 ·obtain⟨its,r',pl,hz⟩:=I.list hq;have hlen:=r'.length;exact Calls.call_len_list pl.isList (by simp only[Z2] <;> omega) ⟨.int ys.length,H,I.tok _,⟨s.toks+1,by rw[Z2,hlen]⟩,q⟩
 ·obtain⟨its,r',pl,hz⟩:=I.tuple hq;have hlen:=r'.length;exact len_tuple pl (by simp only[Z2] <;> omega) ⟨.int ys.length,H,I.tok _,⟨s.toks+1,by rw[Z2,hlen]⟩,q⟩
theorem Q3A:zaY X (.builtin "len") (fun xs H Q=>∃ z,xs=[.str z]/\z.length<=sizeLine/\Q (.int z.length) H):=by
 intro pins s σ H xs us Q I r h;obtain⟨z,rfl,hz,q⟩:=h;obtain⟨u,rfl,t,rfl⟩:=vals1 r;have hn:=line63;exact len_str (by omega) ⟨.int z.length,H,I.tok _,⟨_,rfl⟩,q⟩
theorem Q3B:zaY X (.type "list") (fun xs H Q=>∃ p ys,xs=[.ref p]/\(SqL X.K H p ys\/SqT X.K H p ys)/\∀ l,H l=none->Q (.ref l) (upd H l (.lst ys))):=by
 intro pins s σ H xs us Q I r h;obtain⟨p,ys,rfl,hq,q⟩:=h;obtain⟨u,rfl,rx⟩:=vals1 r;cases rx;have fin:∀ (its:List Value),Vals ys its->ys.length<=sizeLine->∀ (h':Heap) (c':Nat),(∀ b o',s.heap.get? b=some o'->h'.get? b=some o') ->
   h'.get? s.heap.objs.size=some { cls:=.type "list",dict:=none,data:=.seq its.toArray c',slots:=#[] }->EP X pins σ Q (.ref s.heap.objs.size) { s with heap:=h' }:=fun its r' hz h' c' kp e =>
  ⟨.ref s.heap.objs.size,_,I.laid (t':=s.toks) kp (Zo _) (show ObjOk X.prog X.w _ h' _ (.lst ys) from⟨hz,its,c',r',e⟩),rfl,q _ (I.hok.fresh (Zo _))⟩
 rcases hq with hq | hq
 ·obtain⟨its,r',pl,hz⟩:=I.list hq;have hlen:=r'.length;obtain⟨o,ho,hc,n,hd⟩:=pl.isList;exact call_list_seq p (.inl rfl) ho hc hd (fun h' c' kp e=>fin its r' hz h' c' kp e) (by simp only[Z2] <;> omega)
 ·obtain⟨its,r',pl,hz⟩:=I.tuple hq;have hlen:=r'.length;obtain⟨o,ho,hc,n,hd⟩:=pl;exact call_list_seq p (.inr rfl) ho hc hd (fun h' c' kp e=>fin its r' hz h' c' kp e) (by simp only[Z2] <;> omega)
theorem Q2O:zaY X (.type "tuple") (fun xs H Q=>∃ p ys,xs=[.ref p]/\((SqL X.K H p ys/\∀ l,H l=none->Q (.ref l) (upd H l (.tup ys)))\/(SqT X.K H p ys/\Q (.ref p) H))):=by
 intro pins s σ H xs us Q I r h;obtain⟨p,ys,rfl,h⟩:=h;obtain⟨u,rfl,rx⟩:=vals1 r;cases rx;rcases h with ⟨hq,q⟩ | ⟨hq,q⟩
 ·obtain⟨its,r',pl,hz⟩:=I.list hq;have hlen:=r'.length;refine call_tuple_list pl.isList (fun h' kp=>?_) (by simp only[Z2] <;> omega)
  have I1:Inv X pins σ H { s with heap:=h' }:=I.kept (t':=s.toks) kp;have I2:Inv X pins σ (upd H h'.objs.size (.tup ys)) { s with heap:=h'.push { cls:=.type "tuple",data:=.seq its.toArray } } :=
   I1.laid (t':=s.toks) (fun b o e=>Zf _ e) (Zo _) (show ObjOk X.prog X.w _ _ _ (.tup ys) from⟨hz,its,r',IsTup.new _ _⟩)
  exact⟨.ref h'.objs.size,_,I2,rfl,q _ (I1.hok.fresh (Zo _))⟩
 ·obtain⟨its,r',pl,hz⟩:=I.tuple hq;exact call_tuple_same pl ⟨.ref p,H,I,rfl,q⟩
noncomputable def tyV(K:Frag)(T:String)(x:V)(H:Hp):Prop:=match x with
 | .str _=>T = "str"
 | .int _=>T = "int"
 | .ref p=>(T = "list" /\ ∃ xs,SqL K H p xs)\/(T = "tuple" /\ ∃ o,K.lookup p=some o/\o.cls=.type "tuple" /\ o.dict=none) \/
   (T = "dict" /\ ((∃ kvs,H p=some (.dK kvs))\/∃ kvs,H p=some (.dT kvs)))\/(T = "set" /\ ∃ S n,H p=some (.set S n))
 | _=>False
theorem Q9I(I:Inv X pins σ H s)(r:RelV x v)(ty:tyV X.K T x H) :
  s.TypeIs v T/\∀ a,v=.ref a->∃ ob,s.heap.get? a=some ob/\ob.dict=none:=by
 cases x with
 | str z =>
  obtain⟨t,rfl⟩:=r;cases (show T = "str" from ty);exact⟨typeIs_str s z t,fun _ e=>nomatch e⟩
 | int i =>
  obtain⟨t,rfl⟩:=r;cases (show T = "int" from ty);exact⟨typeIs_int s i t,fun _ e=>nomatch e⟩
 | ref p =>
  cases r;rcases ty with ⟨rfl,xs,hq⟩ | ⟨rfl,o,hk,hc,hd⟩ | ⟨rfl,hk⟩ | ⟨rfl,S,n,hk⟩
  ·obtain⟨its,_,pl,_⟩:=I.list hq;refine⟨pl.isList.typeIs,fun a e=>?_⟩;cases e;obtain⟨o,n,e,c,hd,_⟩:=pl;exact⟨o,e,hd⟩
  ·refine⟨⟨o,I.kIn p o hk,hc⟩,fun a e=>?_⟩;cases e;exact⟨o,I.kIn _ o hk,hd⟩
  ·have z:∃ o,s.heap.get? p=some o/\o.ExactDict:=by
    rcases hk with ⟨kvs,hk⟩ | ⟨kvs,hk⟩
    ·obtain⟨_,_,_,_,o,_,_,e,ex,_⟩:=I.hok p _ hk;exact⟨o,e,ex⟩
    ·obtain⟨_,_,_,_,o,_,_,e,ex,_⟩:=I.hok p _ hk;exact⟨o,e,ex⟩
   obtain⟨o,e,ex⟩:=z;refine⟨⟨o,e,ex.1⟩,fun a e2=>?_⟩;cases e2;exact⟨o,e,ex.2.1⟩
  ·obtain⟨o,_,_,_,e,ex,_⟩:=I.hok p _ hk;refine⟨⟨o,e,ex.1⟩,fun a e2=>?_⟩;cases e2;exact⟨o,e,ex.2.1⟩
 | _=>exact False.elim ty
noncomputable def tBM0(K:Frag)(T:String)(r:V->List V->Hp->VK->Prop)(to:TE):TE:=fun σ H Q=>to σ H fun x H1=>tyV K T x H1/\r x [] H1 Q
noncomputable def tBM(K:Frag)(T:String)(r:V->List V->Hp->VK->Prop)(to:TE)(t:TA):TE:=fun σ H Q=>to σ H fun x H1=>tyV K T x H1/\t σ H1 fun xs H2=>r x xs H2 Q
variable{o e:Expr}{es:List Expr}{to:TE}{t:TA}{name:Str}{apos cpos:Pos}{T id:String}{r:V->List V->Hp->VK->Prop}
theorem Qc4(pa:PlainAttrs T)(slot:Slot T name id)(hty:typeOf (.builtin id)=pure (.type "method_descriptor"))(hm:MtR X id r)(ho:PE X o to)
  (hbase:attributeBase o name X.env (eval o X.env)=eval o X.env:=by rfl) (hline:(apos.endLine==cpos.line)=true:=by rfl):PE X (.Call (.Attribute o name apos) [] [] cpos) (tBM0 X.K T r to):=by
 intro pins s σ H Q I h;refine wpAny_Call_method0_late hbase hline (thn (ho pins s σ H _ I h) fun v s1 ⟨x,H1,I1,r1,ty,q1⟩=>?_);obtain⟨h1,h2⟩:=Q9I I1 r1 ty;exact⟨T,id,pa,slot,hty,h1,h2,Calls.callWith_builtin rfl (PySem.evalArgs_none (hm pins s1 σ H1 x [] v [] Q I1 r1 .nil q1))⟩
theorem pe_bm(pa:PlainAttrs T)(slot:Slot T name id)(hty:typeOf (.builtin id)=pure (.type "method_descriptor"))(hm:MtR X id r)(ho:PE X o to)(ha:PA X (e::es) t)
  (hbase:attributeBase o name X.env (eval o X.env)=eval o X.env:=by rfl)
  (hfew:((backTo cpos (starEach (e::es) X.env)).all (fun x=>!x.1)&&(backToKw cpos (keywordEach [] X.env)).all (fun x=>x.1.isSome)
   && decide ((e::es).length+([]:List Keyword).length+(if ([]:List Keyword).isEmpty then 0 else 1)<30))=true:=by rfl)
  (hline:(apos.endLine==cpos.line)=true:=by rfl) (hs:starEach (e::es) X.env=(false,eval e X.env)::starEach es X.env:=by rfl) (hplain:(backTo cpos (starEach es X.env)).any (·.1)=false:=by rfl) :
  PE X (.Call (.Attribute o name apos) (e::es) [] cpos) (tBM X.K T r to t):=by
 intro pins s σ H Q I h;refine wpAny_Call_method_late hbase hfew hline rfl (thn (ho pins s σ H _ I h) fun v s1 ⟨x,H1,I1,r1,ty,q1⟩=>?_);obtain⟨h1,h2⟩:=Q9I I1 r1 ty;refine⟨T,id,pa,slot,hty,h1,h2,?_⟩;have hA:=ha cpos pins s1 σ H1 _ I1 q1;rw[hs]at hA ⊢;refine Calls.callWith_builtin (by show (false||(backTo cpos (starEach es X.env)).any (·.1))=false;rw[hplain] <;> rfl) (Calls.evalArgs_plain ?_)
 exact thn hA fun us s2 ⟨vs,H2,I2,r2,q2⟩=>hm pins s2 σ H2 x vs v us Q I2 r1 r2 q2
end
noncomputable def MtM(X:Cx)(id:String)(r:V->List V->Hp->VK->Prop):Prop :=
 ∀ (pins:List (Addr×Obj)) (s:Shared) (σ:St) (H:Hp) (x:V) (xs:List V) (v:Value) (us:List Value) (Q:VK),Inv X pins σ H s->RelV x v->Vals xs us->r x xs H Q ->
  wpAny (model X.prog X.w) X.A (call (.builtin id) (v::us)) (EP X pins σ Q) X.xe s
theorem Vals.one(h:Vals [x] us):∃ u,us=[u]/\RelV x u:=by
 cases h with | cons r t=>cases t;exact⟨_,rfl,r⟩
theorem Vals.zero:∀ {us:List Value},Vals [] us->us=[]
 | _,.nil=>rfl
theorem Vals.dropLast(h:Vals xs us):Vals xs.dropLast us.dropLast:=by
 induction h with
 | nil=>exact .nil
 | cons r t ih =>
  cases t with
  | nil=>exact .nil
  | cons q t'=>exact .cons r ih
theorem Q5S{α:Type}(l:List α):l.eraseIdx (l.length-1)=l.dropLast:=by
 induction l with
 | nil=>rfl
 | cons a r ih =>
  cases r with
  | nil=>rfl
  | cons b r =>
   have e:(a::b::r).length-1=((b::r).length-1)+1:=by
    have h1:(a::b::r).length=r.length+2:=rfl;have h2:(b::r).length=r.length+1:=rfl;omega
   rw[e,List.eraseIdx_cons_succ,ih]
   all_goals rfl
section
variable{X:Cx}{pins:List (Addr×Obj)}{σ:St}{H:Hp}{s:Shared}{l b:Addr}{xs ys zs:List V}
theorem Inv.lset{its its':List Value}{n:Nat}{f:Array Value->Array Value}{t':Nat}(I:Inv X pins σ H s)(hH:H l=some (.lst xs))
  (e:s.heap.get? l=some { cls:=.type "list",data:=.seq its.toArray n }) (hf:f its.toArray=its'.toArray) (hv:Vals ys its') (hz:ys.length<=sizeLine) :
  Inv X pins σ (upd H l (.lst ys)) { s with heap:=s.heap.update l (Obj.mapSeq f),toks:=t' }:=by
 have q:=PySem.IsL.update e f;rw[hf]at q;refine I.write (x:=l) (e:=l) (by rw[hH];exact trivial) (.inl rfl) (fun b' u hb hu=>(Heap.get?_update_other s.heap (Obj.mapSeq f) (Ne.symm hb)).trans hu) ⟨_,q⟩ ?_
 exact⟨hz,its',_,hv,q⟩
theorem Inv.lnew(I:Inv X pins σ H s)(hv:Vals ys its)(hz:ys.length<=sizeLine) :
  Inv X pins σ (upd H s.heap.objs.size (.lst ys)) { s with heap:=s.heap.push { cls:=.type "list",data:=.seq its.toArray },toks:=t' } :=
 I.laid (fun _ _ q=>Zf _ q) (Zo _) ⟨hz,its,0,hv,Zu _ rfl⟩
theorem Inv.fresh(I:Inv X pins σ H s):H s.heap.objs.size=none:=I.hok.fresh (Zo _)
theorem Inv.lstM(I:Inv X pins σ H s)(hH:H l=some (.lst xs)):xs.length<=sizeLine/\∃ (its:List Value) (n:Nat),Vals xs its/\xs.length=its.length/\s.heap.get? l=some { cls:=.type "list",data:=.seq its.toArray n }:=by
 obtain⟨z,its,n,r,e⟩:=I.hok l _ hH;exact⟨z,its,n,r,r.length,e⟩
theorem notLongL(h:n<=sizeLine):Builtin.List.listTooLong n=false:=by
 unfold Builtin.List.listTooLong;exact Zr (by omega)
end
section
variable{X:Cx}
noncomputable def rAppend:V->List V->Hp->VK->Prop:=fun x vs H Q=>∃ l xs y,x=.ref l/\vs=[y]/\H l=some (.lst xs)/\xs.length<sizeLine/\Q .non (upd H l (.lst (xs++[y])))
theorem Q6x:MtM X "list.append" rAppend:=by
 intro pins s σ H x vs v us Q I rx rv h;obtain⟨l,xs,y,rfl,rfl,hH,hz,q⟩:=h;cases rx;obtain⟨u,rfl,ru⟩:=rv.one;obtain⟨z,its,n,r,hl,e⟩:=I.lstM hH;refine call_meets F.slot_list_append ⟨_,e,rfl⟩ F.entry_list_append (F.args_list_append_2 _ _) (PySem.list_append l its.toArray n u (by rw[Z2];omega)) ⟨e,?_⟩
 refine⟨.non,_,I.lset (its':=its++[u]) hH e (by simp) (r.append (.cons ru .nil)) ?_,rfl,q⟩
 rw[Zi,ZH];omega
noncomputable def rPop:V->List V->Hp->VK->Prop:=fun x vs H Q=>∃ l xs y,x=.ref l/\vs=[]/\H l=some (.lst xs)/\xs[xs.length-1]? = some y/\Q y (upd H l (.lst xs.dropLast))
theorem Qc5:MtM X "list.pop" rPop:=by
 intro pins s σ H x vs v us Q I rx rv h;obtain⟨l,xs,y,rfl,rfl,hH,hy,q⟩:=h;cases rx;have hus:=rv.zero;subst hus;obtain⟨z,its,n,r,hl,e⟩:=I.lstM hH;obtain⟨u,hu,ru⟩:=r.get hy;have hy':its.toArray[its.toArray.size-1]? = some u:=by
  show its.toArray[its.length-1]? = some u;rw[<- Array.getElem?_toList,<- hl];exact hu
 refine call_meets F.slot_list_pop ⟨_,e,rfl⟩ F.entry_list_pop (F.args_list_pop_1 _) (MeetsSeq.list_pop_last l its.toArray n u hy' (by rw[Z2];omega)) ⟨e,?_⟩
 refine⟨y,_,I.lset (its':=its.dropLast) hH e ?_ r.dropLast ?_,ru,q⟩
 ·show its.toArray.eraseIdxIfInBounds (its.toArray.size-1)=its.dropLast.toArray;rw[Z2,List.eraseIdxIfInBounds_toArray,Q5S]
 ·rw[List.length_dropLast];omega
end
section
variable{prog:Program}{w:World}{A:Around}{E:Value->Shared->Prop}{s:Shared}
end
section
variable{X:Cx}
end
end L2
namespace Att
open PySem PySem.W PySem.Calls PyProof.Rows
theorem Q2b:∀ (ns:List Int) (vs:List Value),WellAll P h vs (ns.map WData.int)->IntsAre vs ns:=by
 intro ns
 induction ns with
 | nil =>
  intro vs w;rw[map_nil]at w;cases w;exact .nil
 | cons n ns ih =>
  intro vs w;rw[Zy]at w;cases w with
  | cons a b =>
   cases a;exact .cons _ _ (ih _ b)
theorem Q6y{l:OpenLaw}{n:Nat}(hn:l.most=some n){P:Params}{h:Heap}{args:List WData}{vals:List Value}
  (hpre:l.row.toRowW.claim.pre args=true) (hwl:WellAll P h vals args) :
  ∃ a vs ns,vals=[Value.ref a]/\args=[WData.list (ns.map WData.int)]/\h.get? a=some { cls:=.type "list",data:=.seq vs.toArray }/\IntsAre vs ns/\ns.length<=n:=by
 have hsh:WShape.hasAll [] args [.list .int]=true:=(pre_splitW hpre).1;have hc:l.pre.holds [] { args:=args }=true:=(pre_splitW hpre).2;obtain⟨d,r,rfl,h1,h2⟩:=hasAllW_cons hsh;obtain rfl:=hasAllW_nil h2;obtain⟨xs,rfl,h3⟩:=hasW_list h1;obtain⟨ns,rfl⟩:=items_int h3;have hlen:ns.length<=n:=by
  unfold OpenLaw.pre at hc;have h4:(WTm.not (.lt (.lit (.int (n:Int))) (.len (.arg 0)))).holds [] { args:=[.list (ns.map .int)] }=true:=by
   have h4:=(holds_andW hc).1;rw[hn]at h4;exact h4
  have h5:=condW_of h4 (w_not (w_lt w_lit (w_len_list (w_arg rfl))));rw[Zd]at h5;refine le_of_not_lt fun q=>?_;have q':(n:Int)<((ns.length:Nat):Int):=by omega
  first
   | (rw[Zm q']at h5;exact absurd h5 (by decide))
   | (simp at h5;omega)
 cases hwl with
 | cons w1 w2 =>
  cases w2;cases w1 with
  | list ho hall=>exact⟨_,_,ns,rfl,rfl,ho,Q2b ns _ hall,hlen⟩
theorem Q6z(l:OpenLaw)(args:List WData):l.row.toRowW.claim.post args (.bool true) args=true :=
 postW_of (r:=l.row.toRowW) (X:=(true==true))
  (show WShape.has [] (.bool true) .bool=true by first | rfl | decide | simp[WShape.has,WShape.arms,WShape.armsAll])
  (show (WTm.eq .res (.lit (.bool true))).value [] { args:=args,res:=some (.bool true),after:=args }=some (.bool (true==true)) from w_eq_bool (w_res rfl) w_lit) rfl
theorem attach_call{l:OpenLaw}{n:Nat}{q:Program}{loose:List Str}{XP:(Str->Option Value)->Heap->Prop}{YP:World->Heap->Prop}{d:DefRec}
  (hn:l.most=some n) (hdf:d.params.defaults=[])
  (call:∀ (w:World) (s₀ s₁:Shared) (mg mb:Str->Option Value) (fa:Addr) (o:Obj) (pm cd doc:Value) (a:Addr) (vs:List Value) (ns:List Int),
   Ground q loose [] XP w s₀ mg mb s₁.heap->YP w s₁.heap ->
   s₁.heap.get? fa=some o->o.data=.func (docDef d.name d.params d.body d.scope pm cd doc)->s₁.heap.CodeRec cd d.name->mg d.name=some (.ref fa) ->
   s₁.heap.get? a=some { cls:=.type "list",data:=.seq vs.toArray }->IntsAre vs ns->ns.length<=n->s₁.gens = #[] ->
   codeAny (model l.prog w) callerA (.call (.ref fa) ⟨[.ref a],[]⟩) (fun r s'=>r=.ok (.ret (.bool true))/\OldK s₁.heap s'.heap/\s'.os=s₁.os/\AllBare s'.gens) s₁) :
  WalkO q loose XP YP l.row.toRowW d [] (fun f vs=>PySem.call f vs):=by
 intro w s₀ s₁ mg mb G Y fa o pm cd doc dV kV ho hd hcd hD hmg hg args vals as hpre hlay hrd hwl hlo;obtain rfl:dV=.none:=Dflts.none hD hdf;obtain rfl:kV=.none:=Dflts.noKw hD;obtain⟨a,vs,ns,rfl,rfl,hobj,hints,hlen⟩:=Q6y hn hpre hwl;refine enter_call (codeAny_mono (call w s₀ s₁ mg mb fa o pm cd doc a vs ns G Y ho (fd_plain hd) hcd hmg hobj hints hlen hg) fun r s' hq=>?_);obtain⟨rfl,h2,h3,h4⟩:=hq;exact⟨.inl ⟨.bool true,.bool true,[],rfl,fun _=>rfl,.bool true,Q6z l _,fun _=>⟨List.Pairwise.nil,fun _ hm=>(nomatch hm)⟩⟩,h2,h3,h4⟩
section
variable{prog:Program}{w:World}{A:Around}{E:Value->Shared->Prop}{s:Shared}{K:Frag}
end
end Att
namespace L2
open PySem PySem.Spec PyProof.Rows
theorem Q3C:∀ {vs:List Value} {ns:List Int},IntsAre vs ns->Vals (ns.map V.int) vs
 | _,_,.nil=>.nil
 | _,_,.cons n t h=>.cons ⟨t,rfl⟩ (Q3C h)
noncomputable def Only(H:Hp):Prop:=∀ b,H b=none\/∃ o xs,H b=some (.frz o (.lst xs))
theorem Q8m{P:Program}{w:World}{K:Frag}{mg mb:Str->Option Value}{CX:CXT}{k:Nat}{fa a:Addr}{fd:FuncData}{x:Str}{sp:Sp}{s₁:Shared}{vs:List Value}{ns:List Int}
  (KX:K.In s₁.heap) (hns:s₁.heap.Ns mainGlobals mg) (hb:s₁.heap.Ns builtinsNs mb) (hbb:∀ x:Str,x ≠ "__name__" -> mb x=bootBuiltins x) (hlim:s₁.heap.NoLimit) (hg:s₁.gens = #[])
  (ha:s₁.heap.get? a=some { cls:=.type "list",data:=.seq vs.toArray }) (hi:IntsAre vs ns) (hl:ns.length<=sizeLine) (hr:Room k callerA)
  (F:∀ base:Heap,K.In base->base.Ns mainGlobals mg->FnOk P w K mg base CX k fa fd [x] sp) (hbind:∀ (s:Shared) (u:Value),BindsTo s fd ⟨[u],[]⟩ [(x,u)])
  (hsp:∀ H:Hp,Only H->SqL K H a (ns.map V.int)->sp [.ref a] H (fun v _=>v=.bl true) fun _ _ _=>False)
  (hCX:∀ H e s',CX [] H s₁ (fun _ _ _=>False) e s'->False) :
  codeAny (model P w) callerA (.call (.ref fa) ⟨[.ref a],[]⟩) (fun r s'=>r=.ok (.ret (.bool true))/\OldK s₁.heap s'.heap/\s'.os=s₁.os/\AllBare s'.gens) s₁:=by
 have rv:=Q3C hi;have lenV:=hi.length
 -- from an abstract heap in which nothing but the script may be tracked
 have core:∀ H:Hp,Only H->SqL K H a (ns.map V.int)->HOk P w H s₁.heap->(∀ b,H b≠none->b=a)->(H a≠none->K.lookup a=none) ->
   codeAny (model P w) callerA (.call (.ref fa) ⟨[.ref a],[]⟩) (fun r s'=>r=.ok (.ret (.bool true))/\OldK s₁.heap s'.heap/\s'.os=s₁.os/\AllBare s'.gens) s₁:=by
  intro H hO hS hok hA hK;have base_of:∀ {b:Addr} {o:Obj},s₁.heap.get? b=some o->H b=none->(hidT s₁.heap H).get? b=some o:=fun e n=>Q7Z e n;have noA:∀ {b:Addr} {o:Obj} {es:Array DictEntry} {ep:Nat},s₁.heap.get? b=some o->o.data=.dict es ep->H b=none:=fun{b o es ep} e d=>by
   cases q:H b with
   | none=>rfl
   | some u =>
    have e':b=a:=hA b (by rw[q];simp)
    subst e';rw[ha]at e;cases e;have d':Data.seq vs.toArray _=Data.dict es ep:=d;cases d'
  have nsK:∀ {b:Addr} {m:Str->Option Value},s₁.heap.Ns b m->(hidT s₁.heap H).Ns b m:=fun{b m} ⟨o,es,ep,e,d,r⟩=>⟨o,es,ep,base_of e (noA e d),d,r⟩;have hKb:K.In (hidT s₁.heap H):=fun b o e=>base_of (KX b o e) (by
   cases q:H b with
   | none=>rfl
   | some u =>
    have e':b=a:=hA b (by rw[q];simp)
    subst e';rw[hK (by rw[q];simp)]at e;cases e)
  have hM:Mod K mg (hidT s₁.heap H):=⟨hKb,nsK hns,⟨mb,nsK hb,hbb⟩,let ⟨mc,h1,h2⟩:=hlim;⟨mc,nsK h1,h2⟩⟩;have e0:Env0 P w K mg (hidT s₁.heap H) callerA [] s₁ H:=⟨rfl,hM,fun b o e=>Qa4 e,le_of_eq (Q6n _ _),trivial,fun b hb=>absurd (show b∈([]:List Addr) from hb) (by simp),hok,.of_eq hg⟩
  refine codeAny_mono ((F _ hKb (nsK hns)).run callerA [] s₁ H ⟨[.ref a],[]⟩ [.ref a] [.ref a] _ _ hr e0 (hbind s₁ (.ref a)) (.cons rfl .nil) (hsp H hO hS)) fun r s' h=>?_;cases r with
  | error e=>exact (hCX H e s' h).elim
  | ok fl =>
   cases fl with
   | next=>exact False.elim h
   | brk=>exact False.elim h
   | cont=>exact False.elim h
   | ret u =>
    obtain⟨v,H',os,bare,un,hok',r',q⟩:=h;have q':v=.bl true:=q;subst q';obtain rfl:u=Value.bool true:=r';refine⟨rfl,OldK.of_keep fun b o e=>?_,os,bare⟩;cases q:H b with
    | none=>exact un.keep b o e q (by intro z;exact absurd (show b∈([]:List Addr) from z) (by simp)) (by simp)
    | some u =>
     rcases hO b with z | ⟨ob,xs,z⟩
     ·rw[q]at z;cases z
     ·have z2:=un.frzs b ob _ z;obtain⟨e1,_⟩:=hok b _ z;obtain⟨e2,_⟩:=hok' b _ z2;rw[e]at e1;cases e1;exact e2
 cases hk:K.lookup a with
 | some o =>
  -- the script is one of the module's own objects
  have e:=KX a o hk;rw[ha]at e;cases e;refine core (fun _=>none) (fun _=>.inl rfl) (.inr ⟨_,vs.toArray,_,hk,rfl,rfl,rfl,by rw[Z2,lenV];exact hl,by simpa using rv⟩) (fun b u z=>by have z':(none:Option HO)=some u:=z;cases z') (fun b z=>absurd rfl z) fun z=>absurd rfl z
 | none =>
  refine core (fun b=>if b=a then some (.frz { cls:=.type "list",data:=.seq vs.toArray } (.lst (ns.map V.int))) else none) (fun b=>?_) (.inl (.inr ⟨{ cls:=.type "list",data:=.seq vs.toArray },Ze rfl⟩)) (fun b u z=>?_) (fun b z=>?_) fun _=>hk
  ·by_cases hb:b=a
   ·exact .inr ⟨_,_,Ze hb⟩
   ·exact .inl (Zc hb)
  ·by_cases hb:b=a
   ·have z':=(Ze hb).symm.trans z;cases z';subst hb;exact⟨ha,by rw[Zd];exact hl,vs,_,rv,ha⟩
   ·have z':=(Zc hb).symm.trans z;cases z'
  ·by_cases hb:b=a
   ·exact hb
   ·exact absurd (Zc hb) z
theorem walk_of{l:OpenLaw}{n k:Nat}{q:Program}{loose:List Str}{XP:(Str->Option Value)->Heap->Prop}{YP:World->Heap->Prop}{d:DefRec}{K:Params->Frag}{CX:World->CXT}{sp:World->Sp}{x:Str}
  (hn:l.most=some n) (hn2:n<=sizeLine) (hdf:d.params.defaults=[]) (hr:Room k callerA)
  (hY:∀ (w:World) (h:Heap),YP w h->(K w.params).In h)
  (F:∀ (w:World) (mg:Str->Option Value) (fa:Addr) (h:Heap),(K w.params).In h->h.Ns mainGlobals mg->mg d.name=some (.ref fa) ->
   ∃ fd:FuncData,(∀ (s:Shared) (u:Value),BindsTo s fd ⟨[u],[]⟩ [(x,u)]) /\
    ∀ base:Heap,(K w.params).In base->base.Ns mainGlobals mg->FnOk l.prog w (K w.params) mg base (CX w) k fa fd [x] (sp w))
  (hsp:∀ (w:World) (H:Hp) (a:Addr) (ns:List Int),ns.length<=n->Only H->SqL (K w.params) H a (ns.map V.int)->sp w [.ref a] H (fun v _=>v=.bl true) fun _ _ _=>False)
  (hCX:∀ (w:World) (H:Hp) (s:Shared) (e:Value) (s':Shared),CX w [] H s (fun _ _ _=>False) e s'->False) :
  PySem.W.WalkO q loose XP YP l.row.toRowW d [] (fun f vs=>PySem.call f vs):=by
 refine Att.attach_call hn hdf fun w s₀ s₁ mg mb fa o pm cd doc a vs ns G Y ho hd hcd hmg hobj hints hlen hg=>?_;have KX:=hY w _ Y;obtain⟨fd,hb,hF⟩:=F w mg fa _ KX G.T.g hmg;exact Q8m KX G.T.g G.T.b G.T.builtins G.T.nolimit hg hobj hints (Z4 hlen hn2) hr hF hb (fun H hO hS=>hsp w H a ns hlen hO hS) fun H e s'=>hCX w H s₁ e s'
noncomputable def inClass(s:Stmt)(j:Nat):Stmt:=match s with
 | .ClassDef _ _ _ body _ _ _ _ _ _ _=>body.getD j (.Pass ⟨0,0,0,0⟩)
 | _=>.Pass ⟨0,0,0,0⟩
noncomputable def zah(s:Stmt):Arguments:=match s with
 | .FunctionDef _ a _ _ _ _ _ _ _ _=>a
 | _=>{ posonlyargs:=[],args:=[],vararg:=none,kwonlyargs:=[],kw_defaults:=[],kwarg:=none,defaults:=[] }
noncomputable def zac(s:Stmt):List Stmt:=match s with
 | .FunctionDef _ _ b _ _ _ _ _ _ _=>b
 | _=>[]
noncomputable def za5(s:Stmt):Scope:=match s with
 | .FunctionDef _ _ _ _ _ _ sc _ _ _=>sc
 | _=>{ kind:=.function,names:=[],isGenerator:=false,isCoroutine:=false }
noncomputable abbrev CX0:CXT:=fun _ _ _ _ _ _=>False
noncomputable abbrev E0:XK:=fun _ _ _=>False
theorem pass0:zav CX0 X E0:=fun _ _ _ _ _ _ _ h=>h.elim
structure Fun(K:Frag)(x qual:Str)(st:Stmt)(f:Addr)(fd:FuncData):Prop where
 ex:∃ (oc:Value) (od:Option Addr) (kV doc pm:Value) (an:Option Addr) (cdv ct:Value) (osl:Array (Option Value)),
  fd=fnOf x qual (zah st) (zac st) (za5 st) .none kV doc pm an cdv ct/\K.lookup f=some ⟨oc,od,.func fd,osl⟩/\codeIn K cdv qual=true
 kp:keepIn K (.ref f)=true
section
variable{P:Program}{w:World}{K:Frag}{mg:Str->Option Value}{base:Heap}
theorem Fun.binds{x qual:Str}{st:Stmt}{f:Addr}{fd:FuncData}{ps:List Str}(F:Fun K x qual st f fd)
  (h:∀ (kV doc pm:Value) (an:Option Addr) (cdv ct:Value) (us:List Value),us.length=ps.length->bindArgs (fnOf x qual (zah st) (zac st) (za5 st) .none kV doc pm an cdv ct) ⟨us,[]⟩=pure (ps.zip us)):Binds K fd ps []:=by
 obtain⟨oc,od,kV,doc,pm,an,cdv,ct,osl,rfl,lk,hcd⟩:=F.ex;exact .all (h kV doc pm an cdv ct)
theorem Q6A{x qual:Str}{st:Stmt}{f:Addr}{oc:Value}{od an:Option Addr}{osl:Array (Option Value)}{kV doc pm cdv ct:Value}(l:K.lookup f=some ⟨oc,od,.func (fnOf x qual (zah st) (zac st) (za5 st) .none kV doc pm an cdv ct),osl⟩)
  (c:codeIn K cdv qual=true) (k:keepIn K (.ref f)=true):Fun K x qual st f (fnOf x qual (zah st) (zac st) (za5 st) .none kV doc pm an cdv ct):=⟨⟨oc,od,kV,doc,pm,an,cdv,ct,osl,rfl,l,c⟩,k⟩
end
theorem small1000(h:n<=1000):n<sizeLine:=ZC h (by decide)
section
variable{X:Cx}
theorem pv(i:Nat)(hN:X.N[i]? = some x:=by rfl)(hv:Vis X.env.scope x:=by first | exact Or.inl rfl | exact Or.inr (Or.inl rfl) | exact Or.inr (Or.inr rfl))(hd:(x==("__debug__" : Str))=false:=by decide)
  (hcd:(x==("__classdict__" : Str))=false:=by decide):PE X (.Name x pos) (tVar i):=Q9E hN hv hd hcd
end
theorem iteF{A B:Prop}(h:B):if false=true then A else B:=by
 rw[Zc Zs];exact h
theorem iteT{A B:Prop}(h:A):if true=true then A else B:=by
 rw[Ze rfl];exact h
theorem ite2{c A B:Prop}[Decidable c](h1:c->A)(h2:¬ c->B):if c then A else B:=by
 by_cases h:c
 ·rw[Ze h];exact h1 h
 ·rw[Zc h];exact h2 h
section
variable{X:Cx}{pos:Pos}
end
theorem PE.imp(h:PE X e T)(i:∀ σ H Q,T' σ H Q->T σ H Q):PE X e T':=fun pins s σ H Q I q=>h pins s σ H Q I (i σ H Q q)
theorem PT.imp(h:PT X e T)(i:∀ σ H Q,T' σ H Q->T σ H Q):PT X e T':=fun pins s σ H Q I q=>h pins s σ H Q I (i σ H Q q)
theorem PW.imp(h:PW X e T)(i:∀ σ H Q,T' σ H Q->T σ H Q):PW X e T':=fun wh pins s σ H Q I q=>h wh pins s σ H Q I (i σ H Q q)
theorem PA.imp(h:PA X e T)(i:∀ σ H Q,T' σ H Q->T σ H Q):PA X e T':=fun pos pins s σ H Q I q=>h pos pins s σ H Q I (i σ H Q q)
theorem PS.imp{X:Cx}{st:Stmt}{T T':TS}(h:PS X st T)(i:∀ D σ H,T' D σ H->T D σ H):PS X st T':=fun pins s σ H D I q=>h pins s σ H D I (i D σ H q)
theorem PSs.imp{X:Cx}{st:List Stmt}{T T':TS}(h:PSs X st T)(i:∀ D σ H,T' D σ H->T D σ H):PSs X st T':=fun pins s σ H D I q=>h pins s σ H D I (i D σ H q)
theorem PI.imp(h:PI X tg it T)(i:∀ σ H R,T' σ H R->T σ H R):PI X tg it T':=fun pins s σ H R I q=>h pins s σ H R I (i σ H R q)
theorem PG.imp(h:PG X tg T)(i:∀ v σ H R,T' v σ H R->T v σ H R):PG X tg T':=fun pins s σ H v u R I r q=>h pins s σ H v u R I r (i v σ H R q)
theorem OpR.imp{f:Value->Value->Sem Value}(h:OpR X f T)(i:∀ x y H Q,T' x y H Q->T x y H Q):OpR X f T':=fun pins s σ H x y v u Q I a b q=>h pins s σ H x y v u Q I a b (i x y H Q q)
theorem Inv.frozen(I:Inv X pins σ H s)(h:H a=some (.lst xs)) :
  ∃ o,Inv X pins σ (upd H a (.frz o (.lst xs))) s:=by
 obtain⟨z,its,n,r,e⟩:=I.hok a _ h;refine⟨{ cls:=.type "list",data:=.seq its.toArray n },I.un (h':=s.heap) (t':=s.toks) ⟨fun b u q _ _ _=>q,fun b u q _ _ _=>⟨u.slots,q⟩,fun b u _ q _=>?_,fun b u q _=>⟨u,q⟩,fun b ys q=>?_,fun b u ys q=>?_,fun b ps q=>?_⟩ fun b u q=>?_⟩
 ·rw[Q0d fun w=>by rw[w,h]at q;cases q];exact q
 ·rw[Q0d fun w=>by rw[w,h]at q;cases q];exact q
 ·rw[Q0d fun w=>by rw[w,h]at q;cases q];exact q
 ·exact⟨#[],by rw[Q0d (fun w=>by rw[w,h]at q;cases q),q];simp⟩
 ·by_cases hb:b=a
  ·subst hb;rw[Q0e]at q;cases q;exact⟨e,z,its,n,r,e⟩
  ·rw[Q0d hb]at q;exact (I.hok b u q).stay (fun _ _ _ q=>q) (fun c q=>by rw[Q0d fun w=>by rw[w,h]at q;cases q];exact q) fun c ys q=>by rw[Q0d fun w=>by rw[w,h]at q;cases q];exact q
noncomputable def tFrz(T:TE):TE:=fun σ H Q=>T σ H fun v H'=>∃ a xs,v=.ref a/\H' a=some (.lst xs)/\∀ o,Q v (upd H' a (.frz o (.lst xs)))
theorem Q6B(h:PE X e T):PE X e (tFrz T):=by
 intro pins s σ H Q I q;refine thn (h pins s σ H _ I q) fun u s' zz=>?_;obtain⟨v,H',I',r,a,xs,ev,ha,k⟩:=zz;obtain⟨o,I2⟩:=I'.frozen ha;exact⟨v,_,I2,r,k o⟩
theorem Q4n(env:Env):∀ (names:List (Str×NameKind)) (cs:List (Str×Addr)),(∀ y∈names,y.2=.free->∃ c,env.cells.lookup y.1=some c)->(∀ y c,cs.lookup y=some c->env.cells.lookup y=some c) ->
  ∃ cl:List (Str×Addr),(forIn names cs (fun x r=>match x with | (name,kind)=>if (kind==.free)=true then (cellOf env name >>= fun c=>pure (ForInStep.yield ((name,c)::r)):Sem _) else pure (ForInStep.yield r)))=(pure cl:Sem _) /\
   (∀ y c,cl.lookup y=some c->env.cells.lookup y=some c)/\(∀ y∈names,y.2=.free->∃ c,cl.lookup y.1=some c)/\(∀ y c,cs.lookup y=some c->∃ c',cl.lookup y=some c')
 | [],cs,_,h2=>⟨cs,rfl,h2,(fun _ h=>absurd h ZR),fun y c h=>⟨c,h⟩⟩
 | (n,k)::r,cs,h1,h2=>by
  have h1':∀ y∈r,y.2=.free->∃ c,env.cells.lookup y.1=some c:=fun y hy=>h1 y (Zq _ hy);by_cases hk:k=.free
  ·subst hk;obtain⟨c,hc⟩:=h1 (n,.free) Zl rfl;have h2':∀ y d,((n,c)::cs).lookup y=some d->env.cells.lookup y=some d:=fun y d e=>by
    rw[ZS]at e;cases hy:y==n with
    | true =>
     rw[hy]at e;have:y=n:=by simpa using hy
     subst this;cases e;exact hc
    | false=>rw[hy]at e;exact h2 y d e
   obtain⟨cl,e,p1,p2,p3⟩:=Q4n env r ((n,c)::cs) h1' h2';refine⟨cl,?_,p1,fun y hy hf=>?_,fun y d hd=>?_⟩
   ·rw[List.forIn_cons];have ec:cellOf env n=pure c:=by unfold cellOf;rw[hc]
    simp only[beq_self_eq_true,Yw,ec,pure_bind];exact e
   ·rcases Z3.mp hy with q | q
    ·subst q;exact p3 n c (by simp[ZS])
    ·exact p2 y q hf
   ·by_cases hy:y=n
    ·subst hy;exact p3 y c (by simp[ZS])
    ·exact p3 y d (by rw[ZS,show (y==n)=false by simpa using hy];exact hd)
  ·obtain⟨cl,e,p1,p2,p3⟩:=Q4n env r cs h1' h2;refine⟨cl,?_,p1,fun y hy hf=>?_,p3⟩
   ·rw[List.forIn_cons];have ek:(k==NameKind.free)=false:=by simpa using hk
    simp only[ek,ZK,Yd,pure_bind];exact e
   ·rcases Z3.mp hy with q | q
    ·subst q;exact absurd hf hk
    ·exact p2 y q hf
theorem Qar(h:∀ y∈scope.names,y.2=.free->∃ c,env.cells.lookup y.1=some c) :
  ∃ cl,closureFor scope env=pure cl/\(∀ y c,cl.lookup y=some c->env.cells.lookup y=some c)/\(∀ y∈scope.names,y.2=.free->∃ c,cl.lookup y.1=some c):=by
 obtain⟨cl,e,p1,p2,_⟩:=Q4n env scope.names [] h (fun y c q=>by simp at q)
 refine⟨cl,?_,p1,p2⟩;unfold closureFor;simp only[bind_pure_comp,map_pure]at e ⊢
 first
  | exact e
  | (rw[e];rfl)
  | (simp only[e];rfl)
theorem Q8n{R:Result->Shared->Prop}(I:Nat->Shared->Prop){EE:Value->Shared->Prop}
  (hE:∀ e s',EE e s'->notedBy (model prog w) A env (fun e s'=>R (.error e) s') e s')
  (turn:∀ n s,I n s->wpAny (model prog w) A (pyNext it) (fun r s₁=>match r with
   | none=>R (.ok .next) s₁
   | some v=>wpAny (model prog w) A (letOwnedTupleGo target it v) (fun _ s₂=>wpAny (model prog w) A (assign target env v) (fun _ s₂ =>
     wpAny (model prog w) A (forIn ifs true fun c r=>if r=true then do let ok <- isTrue c env (eval c env);pure (ForInStep.yield ok) else pure (ForInStep.yield r)) (fun ok s₃ =>
      if ok=true then wpAny (model prog w) A (eval elt env) (fun x s₄ =>
       wpAny (model prog w) A (call (.builtin "list.append") [acc,x]) (fun _ s₅=>∃ m,m<n/\I m s₅) EE s₄) EE s₃
      else ∃ m,m<n/\I m s₃) EE s₂) EE s₂) EE s₁) EE s)
  (n:Nat) (h:I n s) :
  codeAny (model prog w) A (.compLoop (.ListComp elt [⟨target,iter,ifs,0⟩] scope pos) 0 it acc env) R s:=by
 refine codeAny_loop rfl I (fun n s hI=>?_) n h;show wpAny _ A ((compTurn (.ListComp elt [⟨target,iter,ifs,0⟩] scope pos) 0 it acc env).onRaise (fun x=>do noteFrame x env;theTreesLotGoes x)) _ _ s
 refine wpAny_noted (Yt (E:=EE) ?_ (fun _ _ q=>q) fun e s' q=>hE e s' q);rw[compTurn_list];refine Za (wpAny_standAt (Za (Yt (turn n s hI) (fun r s₁ h₁=>?_) fun _ _ h'=>h')));cases r with
 | none=>exact Zb h₁
 | some v =>
  refine Za (Yt h₁ (fun _ s₂ h₂=>Za (Yt h₂ (fun _ s₃ h₃=>Za (Yt h₃ (fun ok s₄ h₄=>?_) fun _ _ h'=>h')) fun _ _ h'=>h')) fun _ _ h'=>h');cases ok with
  | false=>exact Zb ⟨rfl,h₄⟩
  | true =>
   exact Za (Za (Yt h₄ (fun x s₅ h₅=>Za (Yt h₅ (fun _ s₆ h₆=>Zb (Zb ⟨rfl,h₆⟩)) fun _ _ h'=>h')) fun _ _ h'=>h'))
noncomputable def za0(X:Cx)(scope:Scope)(N:List Str)(cl:List (Str×Addr))(C:Addr)(s₀:Shared)(H₀:Hp)(ex:List Addr)(E:Value->Shared->Prop):Cx :=
 {X with N:=N,s₀:=s₀,H₀:=H₀,env:=compEnvC scope cl C X.env,outer:=X.stack,ex:=ex,fn:=fun _=>false,pn:=[],xe:=E }
noncomputable def PIfs(X:Cx)(ifs:List Expr)(t:TT):Prop :=
 ∀ (pins:List (Addr×Obj)) (s:Shared) (σ:St) (H:Hp) (Q:Bool->Hp->Prop),Inv X pins σ H s->t σ H Q ->
  wpAny (model X.prog X.w) X.A (forIn ifs true fun c r=>if r=true then do let ok <- isTrue c X.env (eval c X.env);pure (ForInStep.yield ok) else pure (ForInStep.yield r)) (TP X pins σ Q) X.xe s
theorem Q8o:PIfs X [] (fun _ H Q=>Q true H):=fun _ _ _ H _ I q=>wpAny_tests_nil ⟨H,I,q⟩
theorem Q8p(h:PT X c t):PIfs X [c] t:=fun pins s σ H Q I q=>wpAny_tests_one (h pins s σ H Q I q)
structure zaw(sc:Scope)(scope:Scope)(N:List Str)(k:Nat)(fn:List Str):Prop where
 kind:scope.kind=.function
 cell:∀ y∈scope.names,y.2≠.cell
 names:∀ y∈scope.names,y.2=.local->scope.names.lookup y.1=some .local
 free:∀ y∈scope.names,y.2=.free->sc.names.lookup y.1=some .cell\/sc.names.lookup y.1=some .free
 nd:N.Nodup
 tail:N.drop k=fn
 len:N.length=k+fn.length
 fnk:∀ y∈fn,(sc.names.lookup y=some .cell\/sc.names.lookup y=some .free)/\scope.names.lookup y=some .free
theorem Q0Z{env:Env}:∀ {names:List (Str×NameKind)} {x:Str} {k:NameKind},
  (names.map fun(n,k)=>if (k==NameKind.free&&env.scope.kind==.function&&env.kindOf n==some .cell) then (n,NameKind.cell) else (n,k)).lookup x=some k->k=.cell\/k=.free->(∀ y∈names,y.2≠.cell)->(x,NameKind.free)∈names
 | [],_,_,h,_,_=>by simp at h
 | (n,k)::r,x,k',h,hk,hc=>by
  have ih:=@Q0Z env r x k';rw[Zy,ZS]at h;by_cases hx:x=n
  ·subst hx;by_cases hcnd:(k==NameKind.free&&env.scope.kind==.function&&env.kindOf x==some .cell)=true
   ·have:k=.free:=by
     simp only[Zh,Z0]at hcnd;exact hcnd.1.1
    subst this;exact Zl
   ·have e:(if (k==NameKind.free&&env.scope.kind==.function&&env.kindOf x==some .cell)=true then (x,NameKind.cell) else (x,k))=(x,k):=Zc hcnd
    rw[e]at h;simp at h;subst h;rcases hk with rfl | rfl
    ·exact absurd rfl (hc _ Zl)
    ·exact Zl
  ·have hne:(x==n)=false:=by simpa using hx
   refine Zq _ (ih ?_ hk fun y hy=>hc y (Zq _ hy));split at h
   ·rename_i w;split at w <;> simp_all
   ·exact h
theorem Q1a{env:Env}:∀ {names:List (Str×NameKind)} {x:Str},names.lookup x=some .free ->
  (names.map fun(n,k)=>if (k==NameKind.free&&env.scope.kind==.function&&env.kindOf n==some .cell) then (n,NameKind.cell) else (n,k)).lookup x=some .cell \/
  (names.map fun(n,k)=>if (k==NameKind.free&&env.scope.kind==.function&&env.kindOf n==some .cell) then (n,NameKind.cell) else (n,k)).lookup x=some .free
 | [],_,h=>by simp at h
 | (n,k)::r,x,h=>by
  have ih:=@Q1a env r x;rw[Zy];dsimp only;rw[ZS]at h;by_cases hx:x=n
  ·subst hx;simp only[beq_self_eq_true]at h;cases h;by_cases hc:(NameKind.free==NameKind.free&&env.scope.kind==.function&&env.kindOf x==some .cell)=true
   ·rw[Ze hc];left;simp[ZS]
   ·rw[Zc hc];right;simp[ZS]
  ·have hne:(x==n)=false:=by simpa using hx
   rw[hne]at h;have ih':=ih h;by_cases hc:(k==NameKind.free&&env.scope.kind==.function&&env.kindOf n==some .cell)=true
   ·rw[Ze hc];simp only[ZS,hne];exact ih'
   ·rw[Zc hc];simp only[ZS,hne];exact ih'
theorem Q2y:∀ {names:List (Str×NameKind)},names.lookup x=some k->(x,k)∈names
 | [],h=>by simp at h
 | (n,j)::r,h=>by
  rw[ZS]at h;by_cases hx:x=n
  ·subst hx;simp only[beq_self_eq_true]at h;cases h;exact Zl
  ·have hne:(x==n)=false:=by simpa using hx
   rw[hne]at h;exact Zq _ (Q2y h)
section
variable{X:Cx}{pins:List (Addr×Obj)}{σ:St}{H H':Hp}{s s':Shared}{scope:Scope}{N fn:List Str}{k:Nat}{cl:List (Str×Addr)}{C acc:Addr}{fp:List Addr}{E:Value->Shared->Prop}{h₁:Heap}{tk:Nat}
noncomputable def zb8(X:Cx)(σ:St)(ix:List Nat):St:=ix.map fun i=>(σ[i]?).getD none
theorem Inv.comp(I:Inv X pins σ H s)(ok:zaw X.env.scope scope N k fn){ix:List Nat}(hix:ix.map (fun i=>X.N[i]?)=fn.map some)
  (p1:∀ y c,cl.lookup y=some c->X.env.cells.lookup y=some c) (p2:∀ y∈scope.names,y.2=.free->∃ c,cl.lookup y.1=some c)
  (hC:s.heap.objs.size<=C) (hns:h₁.Ns C fun _=>none) (old:∀ b o,s.heap.get? b=some o->h₁.get? b=some o)
  (hfp:∀ b∈fp,FpOk X pins H b) (hlt:∀ b∈fp,b<s.heap.objs.size) :
  Inv (za0 X scope N cl C s H fp E) [] (List.replicate k none++zb8 X σ ix) H { s with heap:=h₁,toks:=tk }:=by
 have hlen:ix.length=fn.length:=by
  have:=congrArg List.length hix;simpa using this
 refine⟨⟨I.ok.mod,ok.kind,I.ok.glob,I.ok.blt,hC,fun x y c h1 h2=>I.ok.inj x y c (p1 x c h1) (p1 y c h2),fun x hx=>?_,fun x c h=>(nomatch h),I.ok.hd,I.ok.frames,.inl rfl,fun b hb=>⟨ZJ (Z8 (hlt b hb) hC),fun x c h=>(hfp b hb).2.2.2.2.1 x c (p1 x c h)⟩,I.bs,Z4 I.ok.bsz I.sz,fun b o e hb=>?_,fun b hb hs=>?_,I.stack,I.stkFree⟩,
  rfl,I.bare,Un.kept old,⟨_,hns,fun i x v h1 h2 h3=>?_⟩,fun x c h=>?_,I.hok.fresh hC,fun x c h=>I.freeC x c (p1 x c h),fun p hp=>absurd hp ZR,I.hok.kept old,?_⟩
 ·have hm:(x,NameKind.free)∈scope.names:=by
   rcases hx with h | h
   ·exact Q0Z h (.inl rfl) ok.cell
   ·exact Q0Z h (.inr rfl) ok.cell
  exact p2 _ hm rfl
 ·rcases (hfp b hb).2.2.2.1 with z | z
  ·exact I.ok.noex b o e z
  ·have h1:b<X.base.objs.size:=Zp e;have h2:=I.ok.bsz;exact absurd (Z8 h1 (Z4 h2 z)) (lt_irrefl _)
 ·rcases Z3.mp (I.stkSub b hs) with z | z
  ·exact (hfp b hb).2.1 z
  ·exact (hfp b hb).2.2.1 z
 ·-- the names from around
  have hi:k<=i:=by
   refine le_of_not_lt fun q=>?_;rw[getElem?_append_left (by simpa using q),List.getElem?_replicate_of_lt q]at h2
   cases h2
  rw[Ym (by simpa using hi),length_replicate]at h2
  unfold zb8 at h2;rw[Z5]at h2;cases hj:ix[i-k]? with
  | none=>rw[hj]at h2;cases h2
  | some j =>
   rw[hj]at h2;have h2':(σ[j]?).getD none=some v:=by simpa using h2
   have hσ:σ[j]? = some (some v):=by
    cases q:σ[j]? with
    | none=>rw[q]at h2';cases h2'
    | some o=>rw[q]at h2';simpa using h2'
   have hNi:fn[i-k]? = some x:=by
    have e:(N.drop k)[i-k]? = N[i]?:=by rw[List.getElem?_drop];congr 1;omega
    rw[ok.tail]at e;exact e.trans h1
   have hNj:X.N[j]? = some x:=by
    have e:=congrArg (fun l=>l[i-k]?) hix;simp only[Z5,hj,hNi,ZX]at e;simpa using e
   obtain⟨hk1,hk2⟩:=ok.fnk x (ZG hNi);obtain⟨m,hm,hl⟩:=I.loc;obtain⟨u,r,l⟩:=hl j x v hNj hσ (by rcases hk1 with z | z;exact .inr (.inl z);exact .inr (.inr z))
   refine⟨u,r,.inr ⟨Q1a hk2,?_⟩⟩;rcases l with ⟨z,_⟩ | ⟨_,c,hc,hcell⟩
   ·have z':X.env.scope.names.lookup x=some .local:=z;rcases hk1 with q | q <;> (rw[q]at z';cases z')
   ·obtain⟨c',hc'⟩:=p2 (x,.free) (Q2y hk2) rfl;have e:=p1 x c' hc';rw[hc]at e;cases e;obtain⟨o,ho,hd⟩:=hcell;exact⟨c,hc',o,old c o ho,hd⟩
 ·obtain⟨v,o,ho,hd⟩:=I.cell x c (p1 x c h);exact⟨v,o,old c o ho,hd⟩
 ·rw[Zi,length_replicate];show k+(zb8 X σ ix).length=N.length;unfold zb8;rw[Zd,ok.len,hlen]
theorem Inv.uncomp(I:Inv X pins σ H s)(I':Inv (za0 X scope N cl C s H fp E) pins' σ' H' s')(hfp:∀ b∈fp,FpOk X pins H b)
  (ha:s.heap.objs.size<=acc) (hn:H' acc=none) (hl:s'.heap.PlainList acc its.toArray) (hv:Vals ys its) (hz:ys.length<=sizeLine):Inv X pins σ (upd H' acc (.lst ys)) s':=by
 have b0:Un (frs X.stack) fp H H' s.heap s'.heap:=I'.base;have ne:∀ {b:Addr} {o:Obj},s.heap.get? b=some o->b≠acc:=fun e=>ZJ (Z8 (Zp e) ha);have neH:∀ {b:Addr} {o:HO},H b=some o->b≠acc:=fun e=>ZJ (Z8 (I.hok.lt e) ha);obtain⟨n,hget⟩:=hl;refine I.call' I'.os ⟨b0.keep,b0.slot,fun b o e n hb=>?_,b0.there,fun b xs e=>?_,fun b o xs e=>?_,fun b ps e=>?_⟩ (fun b u e=>?_) I'.bare fun b hb=>⟨(hfp b hb).2.2.2.1,(hfp b hb).2.1,(hfp b hb).2.2.2.2.1,(hfp b hb).2.2.2.2.2⟩
 ·rw[Q0d (ne e)];exact b0.free b o e n hb
 ·rw[Q0d (neH e)];exact b0.tups b xs e
 ·rw[Q0d (neH e)];exact b0.frzs b o xs e
 ·rw[Q0d (neH e)];exact b0.tbls b ps e
 ·by_cases hb:b=acc
  ·subst hb;rw[Q0e]at e;cases e;exact⟨hz,its,n,hv,hget⟩
  ·rw[Q0d hb]at e;exact (I'.hok b u e).stay (fun _ _ _ q=>q) (fun c q=>by rw[Q0d (Q0j q hn)];exact q) fun c xs q=>by rw[Q0d (Q0j q hn)];exact q
end
noncomputable abbrev XF:Value->Shared->Prop:=fun _ _=>False
noncomputable def tComp(wi:TI)(k:Nat)(ix:List Nat)(g:TG)(tc:TT)(te:TE):TE:=fun σ H Q=>wi σ H fun J H1=>∃ W:Nat->Nat->List V->Hp->Prop,(∃ m,W 0 m [] H1)/\∀ i m ys H,W i m ys H ->
 (J.stop i H/\ys.length<=sizeLine/\∀ a,H a=none->Q (.ref a) (upd H a (.lst ys))) \/
 (J.go i H/\∀ y H',J.yld i H y H'->g y (List.replicate k none++ix.map (fun i=>(σ[i]?).getD none)) H' fun σ2 H2=>σ2.drop k=ix.map (fun i=>(σ[i]?).getD none)/\σ2.length=k+ix.length/\tc σ2 H2 fun b H3 =>
  if b=true then te σ2 H3 fun z H4=>ys.length<sizeLine/\∃ m',m'<m/\W (i+1) m' (ys++[z]) H4 else ∃ m',m'<m/\W (i+1) m' ys H3)
section
variable{X:Cx}{pins:List (Addr×Obj)}{σ:St}{H:Hp}{s:Shared}{scope:Scope}{N fn:List Str}{k:Nat}{ix:List Nat}{elt tg iter:Expr}{ifs:List Expr}{pos:Pos}{g:TG}{tc:TT}{te:TE}
theorem Q6C(I:Inv X pins σ H s)(ok:zaw X.env.scope scope N k fn) :
  ∃ cl,closureFor scope X.env=pure cl/\(∀ y c,cl.lookup y=some c->X.env.cells.lookup y=some c)/\(∀ y∈scope.names,y.2=.free->∃ c,cl.lookup y.1=some c) :=
 Qar fun y hy hf=>I.ok.has y.1 (ok.free y hy hf)
end
noncomputable abbrev XC:=Value×Option (Int×Addr)
section
variable{M:Model}{A:Around}{E:Value->Shared->Prop}{s:Shared}
end
noncomputable def CX1(P:Program)(w:World):CXT:=fun _ _ _ _ _ _=>False
structure XS(X:Cx)(pins:List (Addr×Obj))(σ:St)(H:Hp)(s:Shared)(a:Addr)(cls:XC):Prop where
 no:False
section
variable{X:Cx}{pins:List (Addr×Obj)}{σ:St}{H H':Hp}{s s':Shared}{a:Addr}{cls:XC}{E:XK}
structure Top(X:Cx):Prop where
 ex:∃ e0 r L,X.stack=e0::r/\e0.frame=some L/\X.env.frame=some L
end
section
variable{X:Cx}{pins:List (Addr×Obj)}{σ:St}{H:Hp}{s:Shared}{a C f:Addr}{cls:XC}{x:Str}{e:Expr}{es:List Expr}{t:TA}{np cpos pos p:Pos}{k:Nat}{fd:FuncData}{ps:List Str}{sp:Sp}{dvs:List V}{ds:List Value}
noncomputable abbrev XR:=XC->St->Hp->Prop
noncomputable def zaj(X:Cx)(R:XR):Prop:=∀ pins σ H s a cls,XS X pins σ H s a cls->R cls σ H->X.xe (.ref a) s
noncomputable def xeOf(X:Cx)(R:XR):Value->Shared->Prop:=fun e s=>∃ pins σ H a cls,e=.ref a/\XS X pins σ H s a cls/\R cls σ H
theorem XS.unwish{E:Value->Shared->Prop}(x:XS (X.wish E) pins σ H s a cls):XS X pins σ H s a cls:=⟨x.no⟩
theorem Q8q(R:XR):zaj (X.wish (xeOf X R)) R:=fun pins σ H s a cls x r=>⟨pins,σ,H,a,cls,rfl,x.unwish,r⟩
end
section
variable{X:Cx}{pins:List (Addr×Obj)}{σ:St}{H:Hp}{s:Shared}{scope:Scope}{N fn:List Str}{k:Nat}{ix:List Nat}{elt tg iter:Expr}{ifs:List Expr}{pos:Pos}{g:TG}{tc:TT}{te:TE}
theorem Q2c{EX:List (Str×Addr)->Addr->Shared->Hp->List Addr->Value->Shared->Prop}{tn:Nat->Heap->Prop}{RR:Value->Addr->Result->Shared->Prop}{E:Value->Shared->Prop}{R:List V->Hp->Prop}
  (hc:X.calm=true) (ok:zaw X.env.scope scope N k fn) (hix:ix.map (fun i=>X.N[i]?)=fn.map some)
  (hg:∀ cl C s₀ H₀ ex,PG (za0 X scope N cl C s₀ H₀ ex (EX cl C s₀ H₀ ex)) tg g) (ht:∀ cl C s₀ H₀ ex,PIfs (za0 X scope N cl C s₀ H₀ ex (EX cl C s₀ H₀ ex)) ifs tc) (he:∀ cl C s₀ H₀ ex,PE (za0 X scope N cl C s₀ H₀ ex (EX cl C s₀ H₀ ex)) elt te)
  (p1:∀ y c,cl.lookup y=some c->X.env.cells.lookup y=some c) (p2:∀ y∈scope.names,y.2=.free->∃ c,cl.lookup y.1=some c)
  (I2:Inv X pins σ H s) (T:Turn X.prog X.w X.K tg J fp it tn) (st2:tn 0 s.heap) (f2:∀ b∈fp,FpOk X pins H b)
  (W:Nat->Nat->List V->Hp->Prop) (w0:∃ m,W 0 m [] H)
  (turn:∀ i m ys H,W i m ys H ->
   (J.stop i H/\ys.length<=sizeLine/\R ys H) \/
   (J.go i H/\∀ y H',J.yld i H y H'->g y (List.replicate k none++ix.map (fun i=>(σ[i]?).getD none)) H' fun σ2 H2=>σ2.drop k=ix.map (fun i=>(σ[i]?).getD none)/\σ2.length=k+ix.length/\tc σ2 H2 fun b H3 =>
    if b=true then te σ2 H3 fun z H4=>ys.length<sizeLine/\∃ m',m'<m/\W (i+1) m' (ys++[z]) H4 else ∃ m',m'<m/\W (i+1) m' ys H3))
  (hE:∀ acc C e s',EX cl C s H fp e s'->notedBy (model X.prog X.w) X.A (compEnvC scope cl C X.env) (fun e s'=>RR (.ref acc) C (.error e) s') e s')
  (fin:∀ ys a C H' s' m,H' a=none->R ys H'->Inv X pins σ (upd H' a (.lst ys)) s'->FpOk X pins (upd H' a (.lst ys)) C->s'.heap.Ns C m->RR (.ref a) C (.ok .next) s') :
  wpAny (model X.prog X.w) X.A (newList []) (fun acc s₃=>wpAny (model X.prog X.w) X.A (newFunctionEnv scope X.env.globals cl [] X.env.qual none .none (some X.env)) (fun cenv s₄ =>
   codeAny (model X.prog X.w) X.A (.compStart (.ListComp elt [⟨tg,iter,ifs,0⟩] scope pos) 0 (.ref it) acc { cenv with scope:=relabel scope X.env }) (RR acc cenv.locals) s₄) E s₃) E s:=by
 refine ZV (wpAny_newFunctionEnv ok.cell (by intro y hy;simp at hy) (fun h₁ hns₁ hsb₁=>?_) ok.kind)
 dsimp only at hns₁ hsb₁ ⊢;generalize hH2:s.heap.push { cls:=.type "list",dict:=none,data:=.seq ([]:List Value).toArray }=Hp2 at hns₁ hsb₁ ⊢;have hC:Hp2.objs.size=s.heap.objs.size+1:=by rw[<- hH2,Heap.size_push]
 have hDC:s.heap.objs.size≠Hp2.objs.size:=by rw[hC];exact ZJ (Yo _)
 have hCle:s.heap.objs.size<=Hp2.objs.size:=by rw[hC];exact Yq _
 have old:∀ b o,s.heap.get? b=some o->h₁.get? b=some o:=fun b o e=>hsb₁.extBut b o (by have:=Zp e;rw[hC];exact ZJ (Nat.lt_succ_of_lt this)) (Zf _ (hH2 ▸ Zf _ e))
 have hacc:h₁.PlainList s.heap.objs.size #[]:=⟨_,hsb₁.extBut _ _ hDC (Zf _ (hH2 ▸ Zu _ rfl))⟩;have hlt:∀ b∈fp,b<s.heap.objs.size:=fun b hb=>by
  obtain⟨o,e,_⟩:=T.obj _ _ st2 b hb;exact Zp e
 have hns0:h₁.Ns Hp2.objs.size fun _=>none:=by simpa using hns₁
 have I4:Inv (za0 X scope N cl Hp2.objs.size s H fp (EX cl Hp2.objs.size s H fp)) [] (List.replicate k none++zb8 X σ ix) H { s with heap:=h₁,toks:=s.toks+([]:List (Str×Value)).length } :=
  I2.comp ok hix p1 p2 hCle hns0 old f2 hlt
 generalize hCC:Hp2.objs.size=C at *;generalize hAA:s.heap.objs.size=acc at *;have hix2:ix.length=fn.length:=by have:=congrArg List.length hix;simpa using this
 -- what stays true of the iterator's objects and of the list
 have fpX:∀ {pins':List (Addr×Obj)} {H':Hp} {b:Addr},b∈fp->H' b=none->FpOk (za0 X scope N cl C s H fp (EX cl C s H fp)) [] H' b:=fun{pins' H' b} hb hn =>
  ⟨hn,(I4.ok.exf b hb).1,I4.ok.exfs b hb,.inl hb,(I4.ok.exf b hb).2,fun p hp=>absurd hp ZR⟩
 have accX:∀ {H':Hp},H' acc=none->FpOk (za0 X scope N cl C s H fp (EX cl C s H fp)) [] H' acc:=fun{H'} hn =>
  ⟨hn,hDC,fun z=>by
   have h1:=I2.stkSub acc z;rcases Z3.mp h1 with q | q
   ·exact absurd I2.lt (by rw[hAA,q];exact lt_irrefl _)
   ·exact I2.nofs (le_of_eq hAA) q,.inr (le_of_eq hAA),fun x c e=>by
   obtain⟨v,o,ho,_⟩:=I2.cell x c (p1 x c e);have:=Zp ho;rw[hAA]at this;exact ZJ this,fun p hp=>absurd hp ZR⟩
 have loop:∀ s₃:Shared,s₃={ s with heap:=h₁,toks:=s.toks+([]:List (Str×Value)).length } ->
   codeAny (model X.prog X.w) X.A (.compLoop (.ListComp elt [⟨tg,iter,ifs,0⟩] scope pos) 0 (.ref it) (.ref acc) (compEnvC scope cl C X.env)) (RR (.ref acc) C) s₃:=by
  rintro s₃ rfl;obtain⟨m0,w0⟩:=w0;refine Q8n (EE:=EX cl C s H fp) (fun n s'=>∃ i ys its H',Inv (za0 X scope N cl C s H fp (EX cl C s H fp)) [] (List.replicate k none++zb8 X σ ix) H' s'/\tn i s'.heap/\(∀ b∈fp,H' b=none)/\H' acc=none/\s'.heap.PlainList acc its.toArray/\Vals ys its/\W i n ys H')
   (fun e s' q=>hE acc C e s' q) ?_ m0 ⟨0,[],[],H,I4,T.keep _ _ _ st2 fun b _ o e=>old b o e,fun b hb=>(f2 b hb).1,I2.hok.fresh (le_of_eq hAA),hacc,.nil,w0⟩
  rintro n s3 ⟨i,ys,its,H3,I3,st3,fr3,an3,pl3,rv3,w3⟩;obtain⟨nl,pe3⟩:=id pl3;have neA:∀ b∈fp,acc≠b:=fun b hb=>by have:=hlt b hb;exact Ne.symm (ZJ this)
  have mA:(acc,({ cls:=.type "list",data:=.seq its.toArray nl }:Obj))∈zaq [acc] s3.heap:=Q0O Zl pe3;have ofA:∀ p∈zaq [acc] s3.heap,p.1=acc:=fun p hp=>Zz.mp (Q3s hp).1;have I3p:Inv (za0 X scope N cl C s H fp (EX cl C s H fp)) (zaq [acc] s3.heap) (List.replicate k none++zb8 X σ ix) H3 s3 :=
   I3.pinned (fp:=[acc]) (fun b hb=>by rw[Zz.mp hb];exact accX an3) (fun b hb=>by
    rw[Zz.mp hb];exact⟨_,pe3,fun v z=>nomatch z⟩)
  have fpP:∀ {H':Hp} {b:Addr},b∈fp->H' b=none->FpOk (za0 X scope N cl C s H fp (EX cl C s H fp)) (zaq [acc] s3.heap) H' b:=fun{H' b} hb hn =>
   ⟨hn,(I4.ok.exf b hb).1,I4.ok.exfs b hb,.inl hb,(I4.ok.exf b hb).2,fun p hp=>by
    have hp':p∈([]:List (Addr×Obj))++zaq [acc] s3.heap:=hp;rw[ofA p (by simpa using hp')];exact neA b hb⟩
  rcases turn i n ys H3 w3 with ⟨stop,hz,q⟩ | ⟨go,step⟩
  ·refine thn (T.done (za0 X scope N cl C s H fp (EX cl C s H fp)) rfl rfl rfl hc i _ s3 _ H3 (EX cl C s H fp) I3p (fun b hb=>fpP hb (fr3 b hb)) st3 stop) fun r s4 ⟨hr,I4'⟩=>?_;subst hr;have pl4:s4.heap.PlainList acc its.toArray:=⟨nl,(I4'.pin _ (Zw _ mA)).1⟩;have Ix:=I2.uncomp (acc:=acc) I4' f2 (le_of_eq hAA) an3 pl4 rv3 hz;obtain⟨m,hm,_⟩:=I4'.loc;refine fin ys acc C H3 s4 m an3 q Ix ⟨?_,?_,?_,?_,?_,?_⟩ hm
   ·rw[Q0d (Ne.symm hDC)];exact I4'.free
   ·exact Ne.symm (ZJ (Z8 I2.lt (by rw[hAA];exact hCle)))
   ·exact I2.nofs (by rw[hAA];exact hCle)
   ·exact .inr (Z4 I2.sz (by rw[hAA];exact hCle))
   ·intro x c e;obtain⟨v,o,ho,_⟩:=I2.cell x c e;have:=Zp ho;rw[hAA]at this;exact ZJ (Z8 this hCle)
   ·intro p hp;have:=Zp (I2.pin p hp).1;rw[hAA]at this;exact ZJ (Z8 this hCle)
  ·refine thn (T.item (za0 X scope N cl C s H fp (EX cl C s H fp)) rfl rfl rfl hc i _ s3 _ H3 (EX cl C s H fp) I3p (fun b hb=>fpP hb (fr3 b hb)) st3 go) fun r s4 ⟨u,hr,h4⟩=>?_;subst hr;refine thn h4 fun _ s5 ⟨x,H5,I5,r5,y5,st5,fr5⟩=>?_;have I5':=I5.pinned (fun b hb=>fpP hb (fr5 b hb)) (T.obj _ _ st5);refine thn (hg _ _ _ _ _ _ s5 _ H5 x u _ I5' r5 (step x H5 y5)) fun _ s6 ⟨σ6,H6,I6,hσ6,hl6,q6⟩=>?_;have back:∀ {s7:Shared} {H7:Hp},Inv (za0 X scope N cl C s H fp (EX cl C s H fp)) (zaq [acc] s3.heap++zaq fp s5.heap) σ6 H7 s7 ->
     Inv (za0 X scope N cl C s H fp (EX cl C s H fp)) [] (List.replicate k none++zb8 X σ ix) H7 s7/\tn (i+1) s7.heap/\(∀ b∈fp,H7 b=none)/\H7 acc=none/\s7.heap.PlainList acc its.toArray:=fun{s7 H7} I7=>by
    refine⟨(I7.pins_of (pins':=[]) (fun p hp=>absurd hp ZR)).weak ?_ ?_,T.keep _ _ _ st5 fun b hb o e=>(I7.pin (b,o) (Zw _ (Zw _ (Q0O hb e)))).1,fun b hb=>?_,?_,?_⟩
    ·unfold zb8;rw[Zi,length_replicate,Zd,hl6]
    ·intro j v hj;by_cases hjk:j<k
     ·rw[getElem?_append_left (by simpa using hjk),List.getElem?_replicate_of_lt hjk]at hj
      cases hj
     ·have hjk':k<=j:=le_of_not_lt hjk;rw[Ym (by simpa using hjk'),length_replicate]at hj
      have e:(σ6.drop k)[j-k]? = σ6[j]?:=by rw[List.getElem?_drop];congr 1;omega
      rw[<- e,hσ6];exact hj
    ·obtain⟨o,e,d⟩:=T.obj _ _ st5 b hb;exact (I7.pin (b,o) (Zw _ (Zw _ (Q0O hb e)))).2.1
    ·exact (I7.pin _ (Zw _ (mem_append_left _ mA))).2.1
    ·exact⟨nl,(I7.pin _ (Zw _ (mem_append_left _ mA))).1⟩
   refine thn (ht _ _ _ _ _ _ s6 σ6 H6 _ I6 q6) fun ok s7 ⟨H7,I7,q7⟩=>?_;cases ok with
   | false =>
    have q7':∃ m',m'<n/\W (i+1) m' ys H7:=by simpa using q7
    obtain⟨m',hm',w7⟩:=q7';obtain⟨J7,t7,f7,a7,p7⟩:=back I7;exact (Zc Zs).mpr ⟨m',hm',i+1,ys,its,H7,J7,t7,f7,a7,p7,rv3,w7⟩
   | true =>
    refine (Ze rfl).mpr ?_;have q7':te σ6 H7 fun z H4=>ys.length<sizeLine/\∃ m',m'<n/\W (i+1) m' (ys++[z]) H4:=by simpa using q7
    refine thn (he _ _ _ _ _ _ s7 σ6 H7 _ I7 q7') fun uz s8 zz=>?_;obtain⟨z,H8,I8,r8,hz8,m',hm',w8⟩:=zz;obtain⟨J8,t8,f8,a8,p8⟩:=back I8;have hlen:=rv3.length;refine wpAny_list_append_plain (hsz:=by rw[Z2,<- hlen];exact le_of_lt hz8) p8 fun h9 pl9 sb9=>?_
    obtain⟨x0,x1,x2,x3,x4,x5⟩:=accX a8;refine⟨m',hm',i+1,ys++[z],its++[uz],H8,J8.turned (t':=s8.toks) (fun b o hb e=>(sb9.2 b hb).trans e) x0 x1 x3 x4 x5,T.keep _ _ _ t8 fun b hb o e=>(sb9.2 b (Ne.symm (neA b hb))).trans e,f8,a8,?_,rv3.append (.cons r8 .nil),w8⟩;simpa using pl9
 exact codeAny_compStart_list (loop _ rfl) (T.self _ _ _ _ _ (T.keep _ _ _ st2 fun b _ o e=>old b o e) (loop _ rfl))
theorem XS.uncomp{Rp:XR}{cl:List (Str×Addr)}{C:Addr}{fp:List Addr}{use:Option (Value->Sem Unit)}{Q:Value->Shared->Prop}{acc e:Value}{s':Shared}(hx:zaj X Rp)(tp:Top X)(I2:Inv X pins σ H s)(f2:∀ b∈fp,FpOk X pins H b)
  (q:xeOf (za0 X scope N cl C s H fp XF) (fun cls _ H'=>Rp cls σ H') e s') :
  notedBy (model X.prog X.w) X.A (compEnvC scope cl C X.env) (fun e s'=>compPost (model X.prog X.w) X.A X.xe use Q acc C (.error e) s') e s':=by
 obtain⟨_,_,_,_,_,_,x,_⟩:=q;exact x.no.elim
theorem Q1i(R:XR):zaj (za0 X scope N cl C s₀ H₀ ex (xeOf (za0 X scope N cl C s₀ H₀ ex XF) R)) R :=
 Q8q (X:=za0 X scope N cl C s₀ H₀ ex XF) R
section
variable{R0:XC->Hp->Prop}{wi:TI}
theorem Q4N(tp:Top X)(hx:zaj X fun cls _ H=>R0 cls H)(hc:X.calm=true)(ok:zaw X.env.scope scope N k fn)(hix:ix.map (fun i=>X.N[i]?)=fn.map some)(hi:PI X tg iter wi)
  (hg:∀ cl C s₀ H₀ ex E,PG (za0 X scope N cl C s₀ H₀ ex E) tg g) (ht:∀ cl C s₀ H₀ ex E,zaj (za0 X scope N cl C s₀ H₀ ex E) (fun cls _ H=>R0 cls H)->PIfs (za0 X scope N cl C s₀ H₀ ex E) ifs tc) (he:∀ cl C s₀ H₀ ex E,zaj (za0 X scope N cl C s₀ H₀ ex E) (fun cls _ H=>R0 cls H)->PE (za0 X scope N cl C s₀ H₀ ex E) elt te)
  (hs:∀ x,foldedSetIterable iter X.env x=pure x:=by intro _;rfl):PE X (.ListComp elt [⟨tg,iter,ifs,0⟩] scope pos) (tComp wi k ix g tc te):=by
 intro pins s σ H Q I h;obtain⟨cl,hcl,p1,p2⟩:=Q6C I ok;rw[eval_ListComp];refine wpAny_comprehension_free (use:=none) rfl hs hcl ok.kind ok.names (thn (hi pins s σ H _ I h) fun v s1 h1=>thn h1 fun itv s2 h2=>?_);obtain⟨it,fp,tn,J,H2,e,I2,T,st2,f2,W,w0,turn⟩:=h2;subst e;refine Q2c (EX:=fun cl C s₀ H₀ ex=>xeOf (za0 X scope N cl C s₀ H₀ ex XF) fun cls _ H'=>R0 cls H') (RR:=fun acc C=>compPost (model X.prog X.w) X.A X.xe none (EP X pins σ Q) acc C) (R:=fun ys H=>∀ a,H a=none->Q (.ref a) (upd H a (.lst ys))) hc ok hix
  (fun cl C s₀ H₀ ex=>hg cl C s₀ H₀ ex _) (fun cl C s₀ H₀ ex=>ht cl C s₀ H₀ ex _ (Q1i _)) (fun cl C s₀ H₀ ex=>he cl C s₀ H₀ ex _ (Q1i _)) p1 p2 I2 T st2 f2 W w0 turn (fun acc C e s' q=>XS.uncomp (Rp:=fun cls _ H=>R0 cls H) hx tp I2 f2 q) ?_
 intro ys a C H' s' m ha q I' fC hm;refine⟨m,hm,fun h' sb=>⟨.ref a,_,?_,rfl,q a ha⟩⟩;obtain⟨x0,x1,x2,x3,x4,x5⟩:=fC;exact I'.turned (t':=s'.toks) (fun b o hb e=>(sb.2 b hb).trans e) x0 x1 x3 x4 x5
theorem Q2d(tp:Top X)(hx0:zaj X fun cls _ H=>R0 cls H)(hsw:swapsWith (.ListComp elt [⟨tg,iter,ifs,0⟩] scope pos) (some (.Name x pos')) spos.line X.env=pure true)
  (hN:X.N.Nodup) (hiN:X.N[i]? = some x) (hx:X.env.scope.names.lookup x=some .local) (hc:X.calm=true) (ok:zaw X.env.scope scope N k fn) (hix:ix.map (fun i=>X.N[i]?)=fn.map some) (hi:PI X tg iter wi)
  (hg:∀ cl C s₀ H₀ ex E,PG (za0 X scope N cl C s₀ H₀ ex E) tg g) (ht:∀ cl C s₀ H₀ ex E,zaj (za0 X scope N cl C s₀ H₀ ex E) (fun cls _ H=>R0 cls H)->PIfs (za0 X scope N cl C s₀ H₀ ex E) ifs tc) (he:∀ cl C s₀ H₀ ex E,zaj (za0 X scope N cl C s₀ H₀ ex E) (fun cls _ H=>R0 cls H)->PE (za0 X scope N cl C s₀ H₀ ex E) elt te)
  (hs:∀ x,foldedSetIterable iter X.env x=pure x:=by intro _;rfl):PS X (.Assign [.Name x pos'] (.ListComp elt [⟨tg,iter,ifs,0⟩] scope pos) spos) (tAsg (tComp wi k ix g tc te) (zaW i)):=by
 intro pins s σ H D I h;obtain⟨cl,hcl,p1,p2⟩:=Q6C I ok;rw[exec_Assign_Name_used _ _ _ _ hsw];refine Za (wpAny_standAt (Za ?_));show wpAny _ X.A (do let _ <- comprehension (.ListComp elt [⟨tg,iter,ifs,0⟩] scope pos) scope X.env _ (newList []) false (eval iter X.env) (some (assign (.Name x pos') X.env))) _ _ s
 refine Za (Yt (wpAny_comprehension_free (use:=some (assign (.Name x pos') X.env)) (Q:=fun _ s'=>SP X pins D .next s') rfl hs hcl ok.kind ok.names
  (thn (hi pins s σ H _ I h) fun v s1 h1=>thn h1 fun itv s2 h2=>?_)) (fun _ s' hq=>Zb (Zb hq)) fun _ _ e=>e)
 obtain⟨it,fp,tn,J,H2,e,I2,T,st2,f2,W,w0,turn⟩:=h2;subst e;refine Q2c (EX:=fun cl C s₀ H₀ ex=>xeOf (za0 X scope N cl C s₀ H₀ ex XF) fun cls _ H'=>R0 cls H') (RR:=fun acc C=>compPost (model X.prog X.w) X.A X.xe (some (assign (.Name x pos') X.env)) (fun _ s'=>SP X pins D .next s') acc C) (R:=fun ys H=>∀ a,H a=none->D.nx (σ.set i (some (.ref a))) (upd H a (.lst ys))) hc ok hix
  (fun cl C s₀ H₀ ex=>hg cl C s₀ H₀ ex _) (fun cl C s₀ H₀ ex=>ht cl C s₀ H₀ ex _ (Q1i _)) (fun cl C s₀ H₀ ex=>he cl C s₀ H₀ ex _ (Q1i _)) p1 p2 I2 T st2 f2 W w0 turn (fun acc C e s' q=>XS.uncomp (Rp:=fun cls _ H=>R0 cls H) hx0 tp I2 f2 q) ?_
 intro ys a C H' s' m ha q I' fC hm;obtain⟨x0,x1,x2,x3,x4,x5⟩:=fC;show wpAny _ X.A (assign (.Name x pos') X.env (.ref a)) _ _ s';refine wpAny_assign_Name (Q3q I' hN hiN (.inl hx) (v:=.ref a) rfl (fun s'' I'' ⟨b,sb,hb⟩=>?_) (.inr hx));have hCb:C≠b:=by
  rcases hb with z | z
  ·rw[z];exact x1
  ·exact fun w=>x4 _ _ z w.symm
 refine⟨m,hm.sameBut sb hCb,fun h' sb2=>⟨_,_,I''.turned (t':=s''.toks) (fun b o hb e=>(sb2.2 b hb).trans e) x0 x1 x3 x4 x5,q a ha⟩⟩
end
end
def XLook(_:Frag)(_:Addr):Prop:=True
section
variable{prog:Program}{w:World}{A:Around}{E:Value->Shared->Prop}{s:Shared}{K:Frag}{x D:Addr}
end
section
variable{X:Cx}{pins:List (Addr×Obj)}{σ:St}{H:Hp}{s:Shared}{a C f:Addr}{cls:XC}{x:Str}{np cpos pos p:Pos}
end
section
variable{A:Around}{E:Value->Shared->Prop}{s:Shared}{K:Frag}{D:Addr}
end
section
variable{X:Cx}{pins:List (Addr×Obj)}{σ:St}{H:Hp}{s:Shared}{a C:Addr}{pos:Pos}
end
section
variable{prog:Program}{w:World}{A:Around}{h:Heap}{g:Array GenState}{d:Drawn}{t:Nat}{os:OsState}
variable{nm q:Str}{C N:Addr}{bs bm bmB:List Value}{hdct:Bool}{sn:List Str}{sub:List Value}{ab:Bool}{col:Option Bool}{dd:Option Addr}{k0 k1 k2 k3 k5:Option Value}{B newId initId:String}
end
end L2
namespace L2
open PySem PySem.Spec PyProof.Rows Builtin Builtin.ObjectAttr
section
variable{prog:Program}{w:World}{A:Around}{E:Value->Shared->Prop}{s:Shared}{K:Frag}{C f x:Addr}{ox:Obj}{v:Value}{vs:Array Value}
end
section
variable{P:Program}{w:World}{H H':Hp}{h h':Heap}{fs:List Addr}{e d C t:Addr}{φ:Heap->Prop}{o:Obj}
end
section
variable{X:Cx}{pins:List (Addr×Obj)}{σ:St}{H:Hp}{s:Shared}{C f W e:Addr}{x n:Str}{np ap cpos pos p:Pos}{a1:Expr}{es:List Expr}{t:TA}
end
end L2
namespace L2
open PySem PySem.Spec PyProof.Rows
section
variable{κ:Type}[DecidableEq κ]
noncomputable def valV(kvs:List (κ×V))(k:κ):Option V:=(kvs.find? fun kv=>decide (kv.1=k)).map (·.2)
noncomputable def putK(kvs:List (κ×V))(k:κ)(v:V):List (κ×V) :=
 if (kvs.any fun kv=>decide (kv.1=k))=true then kvs.map (fun kv=>if kv.1=k then (kv.1,v) else kv) else kvs++[(k,v)]
theorem Q0R{p:κ×V}{r:List (κ×V)}{k:κ}(e:p.1=k):valV (p::r) k=some p.2:=by simp[valV,Yu,e]
theorem Q0S{p:κ×V}{r:List (κ×V)}{k:κ}(e:¬ p.1=k):valV (p::r) k=valV r k:=by simp[valV,Yu,e]
theorem Q1j(k:κ):∀ kvs:List (κ×V),(kvs.any fun kv=>decide (kv.1=k))=(valV kvs k).isSome
 | []=>rfl
 | p::r=>by
  rw[any_cons];by_cases e:p.1=k
  ·simp only[Q0R e,Zm e,Bool.true_or,Option.isSome_some]
  ·rw[Q0S e,Zr e,Bool.false_or];exact Q1j k r
theorem Q0w(kvs:List (κ×V))(k:κ)(v:V):(putK kvs k v).length<=kvs.length+1:=by
 unfold putK;split
 ·rw[Zd];omega
 ·rw[Zi,Zj,ZU];omega
theorem RelO.isSome_eq(r:RelO o u):o.isSome=u.isSome:=by
 cases o with
 | none=>cases u with
  | none=>rfl
  | some _=>exact (show False from r).elim
 | some _=>cases u with
  | none=>exact (show False from r).elim
  | some _=>rfl
theorem RelO.getD(r:RelO o u)(rd:RelV d d'):RelV (o.getD d) (u.getD d'):=by
 cases o with
 | none=>cases u with
  | none=>exact rd
  | some _=>exact (show False from r).elim
 | some _=>cases u with
  | none=>exact (show False from r).elim
  | some _=>exact r
theorem KV.val{kvs:List (κ×V)}{vs:List (κ×Value)}(r:KV kvs vs)(k:κ):RelO (valV kvs k) (valueAt vs k):=by
 unfold KV at r
 induction r with
 | nil=>exact Yj
 | @cons p q ps qs h t ih =>
  obtain⟨h1,h2⟩:=h;by_cases e:p.1=k
  ·have e':q.1=k:=h1.symm.trans e;have b:valueAt (q::qs) k=some q.2:=by simp[valueAt,Yu,e']
   rw[Q0R e,b];exact h2
  ·have e':¬ q.1=k:=fun z=>e (h1.trans z);have b:valueAt (q::qs) k=valueAt qs k:=by simp[valueAt,Yu,e']
   rw[Q0S e,b];exact ih
theorem KV.any(r:KV kvs vs)(k:κ):(kvs.any fun kv=>decide (kv.1=k))=vs.any fun kv=>decide (kv.1=k):=by
 unfold KV at r
 induction r with
 | nil=>rfl
 | cons h t ih=>rw[any_cons,any_cons,ih,h.1]
theorem KV.repl(r:KV kvs vs)(k:κ)(ry:RelV y u) :
  KV (kvs.map fun kv=>if kv.1=k then (kv.1,y) else kv) (vs.map fun kv=>if kv.1=k then (kv.1,u) else kv):=by
 unfold KV at r ⊢
 induction r with
 | nil=>exact .nil
 | @cons p q ps qs h t ih =>
  rw[Zy,Zy];refine .cons ?_ ih;obtain⟨h1,h2⟩:=h;by_cases e:p.1=k
  ·rw[Ze e,Ze (h1.symm.trans e)];exact⟨h1,ry⟩
  ·rw[Zc e,Zc (fun z=>e (h1.trans z))];exact⟨h1,h2⟩
theorem KV.put(r:KV kvs vs)(k:κ)(ry:RelV y u):KV (putK kvs k y) (stored vs k u):=by
 unfold putK stored;rw[r.any k];by_cases e:(vs.any fun kv=>decide (kv.1=k))=true
 ·rw[Ze e,Ze e];exact r.repl k ry
 ·rw[Zc e,Zc e];exact Paired.snoc r ⟨rfl,ry⟩
theorem KV.length(r:KV kvs vs):kvs.length=vs.length:=ZQ r
end
theorem kV_is(r:RelV (kV k) u):(za2 P w).is k u=true:=by
 cases k with
 | inl i=>obtain⟨t,e⟩:=(show ∃ t,u=Value.int i t from r);subst e;exact Q4j P w i t
 | inr x=>obtain⟨t,e⟩:=(show ∃ t,u=Value.str x t from r);subst e;exact Q4k P w x t
theorem Q3D:∀ {ks:List Key} {us:List Value},Vals (ks.map kV) us->ItemsAre (za2 P w) ks us
 | [],_,r=>by rw[map_nil]at r;cases r;exact .nil
 | k::ks,_,r=>by
  rw[Zy]at r;cases r with
  | cons h t=>exact .cons (kV_is h) (Q3D t)
noncomputable abbrev KT(H:Hp):List (List Key×V)->List (List Key×Addr×Value)->Prop:=Paired fun p q=>p.1=q.1/\H q.2.1=some (.tup (p.1.map kV))/\RelV p.2 q.2.2
theorem KT.val{H:Hp}{kvs:List (List Key×V)}{xs:List (List Key×Addr×Value)}(r:KT H kvs xs)(k:List Key):RelO (valV kvs k) ((atKey xs k).map (·.2)):=by
 induction r with
 | nil=>exact Yj
 | @cons p q ps qs h t ih =>
  obtain⟨h1,_,h2⟩:=h;by_cases e:p.1=k
  ·have e':q.1=k:=h1.symm.trans e;have b:atKey (q::qs) k=some q.2:=by simp[atKey,Yu,e']
   rw[Q0R e,b];exact h2
  ·have e':¬ q.1=k:=fun z=>e (h1.trans z);have b:atKey (q::qs) k=atKey qs k:=by simp[atKey,Yu,e']
   rw[Q0S e,b];exact ih
theorem KT.repl(r:KT H kvs xs)(k:List Key)(ry:RelV y u) :
  KT H (kvs.map fun kv=>if kv.1=k then (kv.1,y) else kv) (xs.map (putAt k u)):=by
 induction r with
 | nil=>exact .nil
 | @cons p q ps qs h t ih =>
  rw[Zy,Zy];refine .cons ?_ ih;obtain⟨h1,h2,h3⟩:=h;unfold putAt;by_cases e:p.1=k
  ·rw[Ze e,Ze (h1.symm.trans e)];exact⟨h1,h2,ry⟩
  ·rw[Zc e,Zc (fun z=>e (h1.trans z))];exact⟨h1,h2,h3⟩
theorem KT.put(r:KT H kvs xs)(k:List Key)(hb:H b=some (.tup (k.map kV)))(ry:RelV y u) :
  KT H (putK kvs k y) (storedH xs k b u):=by
 have e:(kvs.any fun kv=>decide (kv.1=k))=(atKey xs k).isSome:=by
  rw[Q1j,(r.val k).isSome_eq,Yb]
 unfold putK storedH;rw[e];by_cases q:(atKey xs k).isSome=true
 ·rw[Ze q,Ze q];exact r.repl k ry
 ·rw[Zc q,Zc q];exact Paired.snoc r ⟨rfl,hb,ry⟩
theorem KT.keeps(r:KT H kvs xs)(ht:∀ b ys,H b=some (.tup ys)->H' b=some (.tup ys)):KT H' kvs xs :=
 Paired.mapP r fun _ _ z=>⟨z.1,ht _ _ z.2.1,z.2.2⟩
section
variable{P:Program}{w:World}{H:Hp}{h:Heap}{a:Addr}
theorem rd_of(ok:HOk P w H h)(e:Rd H a u):ObjOk P w H h a u:=e.ok ok
theorem dk_rd(ok:HOk P w H h)(e:Rd H a (.dK kvs)):kvs.length<=sizeLine/\(a==sysModules)=false/\∃ vs,KV kvs vs/\h.DictOf (za2 P w) a vs :=
 show ObjOk P w H h a (.dK kvs) from rd_of ok e
theorem dk_of(ok:HOk P w H h)(e:H a=some (.dK kvs)):kvs.length<=sizeLine/\(a==sysModules)=false/\∃ vs,KV kvs vs/\h.DictOf (za2 P w) a vs:=dk_rd ok (.inl e)
theorem Q1b(ok:HOk P w H h)(e:H a=some (.tup (ks.map kV))):(tupleKind (za2 P w)).is h ks a:=by
 obtain⟨_,its,r,o,h1,h2,n,h3⟩:=(show ObjOk P w H h a (.tup (ks.map kV)) from ok a _ e);exact⟨o,its.toArray,n,h1,h2,h3,by simpa using Q3D r⟩
theorem dt_rd(ok:HOk P w H h)(e:Rd H a (.dT kvs)):kvs.length<=sizeLine/\(a==sysModules)=false /\
  ∃ xs,KT H kvs xs/\h.DictOfH (tupleKind (za2 P w)) a xs:=by
 obtain⟨z,y,xs,r,o,es,ep,h1,h2,h3,h4,h5⟩:=(show ObjOk P w H h a (.dT kvs) from rd_of ok e);refine⟨z,y,xs,r,o,es,ep,h1,h2,h3,h4,fun x hx=>?_,h5⟩;have all:∀ {l:List (List Key×V)} {m:List (List Key×Addr×Value)},KT H l m->∀ x∈m,(tupleKind (za2 P w)).is h x.1 x.2.1:=by
  intro l m q
  induction q with
  | nil=>intro x hx;exact nomatch hx
  | @cons p q ps qs hq t ih =>
   intro x hx;rcases Z3.mp hx with e | hx
   ·subst e;exact Q1b ok (by rw[<- hq.1];exact hq.2.1)
   ·exact ih x hx
 exact all r x hx
theorem dt_of(ok:HOk P w H h)(e:H a=some (.dT kvs)):kvs.length<=sizeLine/\(a==sysModules)=false /\
  ∃ xs,KT H kvs xs/\h.DictOfH (tupleKind (za2 P w)) a xs:=dt_rd ok (.inl e)
end
noncomputable def DGet(H:Hp)(a:Addr)(y:V)(r:Option V):Prop :=
 (∃ kvs k,Rd H a (.dK kvs)/\y=kV k/\r=valV kvs k)\/∃ kvs k b,Rd H a (.dT kvs)/\y=.ref b/\H b=some (.tup (k.map kV))/\r=valV kvs k
noncomputable def DPut(H:Hp)(a:Addr)(y v:V)(H':Hp):Prop :=
 (∃ kvs k,H a=some (.dK kvs)/\y=kV k/\kvs.length<sizeLine/\H'=upd H a (.dK (putK kvs k v))) \/
 ∃ kvs k b,H a=some (.dT kvs)/\y=.ref b/\H b=some (.tup (k.map kV))/\kvs.length<sizeLine/\H'=upd H a (.dT (putK kvs k v))
theorem DGet.k{H:Hp}{a:Addr}{kvs:List (Key×V)}{k:Key}(e:H a=some (.dK kvs)):DGet H a (kV k) (valV kvs k):=.inl ⟨kvs,k,.inl e,rfl,rfl⟩
theorem DGet.t{H:Hp}{a b:Addr}{kvs:List (List Key×V)}{k:List Key}(e:H a=some (.dT kvs))(eb:H b=some (.tup (k.map kV))):DGet H a (.ref b) (valV kvs k):=.inr ⟨kvs,k,b,.inl e,rfl,eb,rfl⟩
theorem DPut.k{H:Hp}{a:Addr}{kvs:List (Key×V)}{k:Key}{v:V}(e:H a=some (.dK kvs))(hl:kvs.length<sizeLine):DPut H a (kV k) v (upd H a (.dK (putK kvs k v))):=.inl ⟨kvs,k,e,rfl,hl,rfl⟩
theorem DPut.t{H:Hp}{a b:Addr}{kvs:List (List Key×V)}{k:List Key}{v:V}(e:H a=some (.dT kvs))(eb:H b=some (.tup (k.map kV)))(hl:kvs.length<sizeLine) :
  DPut H a (.ref b) v (upd H a (.dT (putK kvs k v))):=.inr ⟨kvs,k,b,e,rfl,eb,hl,rfl⟩
section
variable{X:Cx}{pins:List (Addr×Obj)}{σ:St}{H:Hp}{s:Shared}{a:Addr}{y v:V}{u r:Value}{o:Option V}{A:Around}{E:Value->Shared->Prop}
theorem Inv.big(I:Inv X pins σ H s):sysModules<s.heap.objs.size:=by
 have h:mainGlobals<s.heap.objs.size:=(I.mod.glob.keeps I.bk).lt;exact lt_trans (by decide) h
theorem Q6D{Q:Value->Shared->Prop}(hu:A.units+1<cLine)(I:Inv X pins σ H s)(g:DGet H a y (some v))(ry:RelV y u)(h:∀ w' s',Inv X pins σ H s'->RelV v w'->Q w' s') :
  wpAny (model X.prog X.w) A (getItem (.ref a) u) Q E s:=by
 rcases g with ⟨kvs,k,e,ey,l⟩ | ⟨kvs,k,b,e,ey,eb,l⟩
 ·subst ey;obtain⟨z,hd,vs,rel,dd⟩:=dk_rd I.hok e;obtain⟨w',hw,rw'⟩:=RelO.some_of (v:=v) (o:=valueAt vs k) (by rw[l];exact rel.val k)
  exact wpAny_getItem_of (kV_is ry) dd.mapOf hw (h w' _ (I.tok _) rw')
 ·subst ey;cases (show u=Value.ref b from ry);obtain⟨z,hd,xs,rel,dd⟩:=dt_rd I.hok e;obtain⟨w',hw,rw'⟩:=RelO.some_of (v:=v) (o:=(atKey xs k).map (·.2)) (by rw[l];exact rel.val k)
  obtain⟨p,hp,hp2⟩:=ZA.mp hw;refine wpAny_getItem_heap (tupleKind_room_in1 hu) (Q1b I.hok eb) dd hp ?_;rw[hp2];exact h w' _ (I.tok _) rw'
theorem d_in{Q:Value->Shared->Prop}(hu:A.units+1<cLine)(I:Inv X pins σ H s)(g:DGet H a y o)(ry:RelV y u)(h:∀ s',Inv X pins σ H s'->Q (.bool o.isSome) s') :
  wpAny (model X.prog X.w) A (compareOp .In u (.ref a)) Q E s:=by
 rcases g with ⟨kvs,k,e,ey,l⟩ | ⟨kvs,k,b,e,ey,eb,l⟩
 ·subst ey;obtain⟨z,hd,vs,rel,dd⟩:=dk_rd I.hok e;refine wpAny_in_of (kV_is ry) hd dd.mapOf ?_;rw[<- (rel.val k).isSome_eq,<- l];exact h _ (I.tok _)
 ·subst ey;cases (show u=Value.ref b from ry);obtain⟨z,hd,xs,rel,dd⟩:=dt_rd I.hok e;refine wpAny_in_heap (tupleKind_room_in1 hu) (Q1b I.hok eb) hd dd ?_;have q:=(rel.val k).isSome_eq;rw[Yb]at q;rw[<- q,<- l];exact h _ (I.tok _)
theorem Q6E{Q:Value->Shared->Prop}(hu:A.units+1<cLine)(I:Inv X pins σ H s)(g:DGet H a y o)(ry:RelV y u)(h:∀ s',Inv X pins σ H s'->Q (.bool (!o.isSome)) s') :
  wpAny (model X.prog X.w) A (compareOp .NotIn u (.ref a)) Q E s:=by
 rcases g with ⟨kvs,k,e,ey,l⟩ | ⟨kvs,k,b,e,ey,eb,l⟩
 ·subst ey;obtain⟨z,hd,vs,rel,dd⟩:=dk_rd I.hok e;refine wpAny_notIn_of (kV_is ry) hd dd.mapOf ?_;rw[<- (rel.val k).isSome_eq,<- l];exact h _ (I.tok _)
 ·subst ey;cases (show u=Value.ref b from ry);obtain⟨z,hd,xs,rel,dd⟩:=dt_rd I.hok e;refine wpAny_notIn_heap (tupleKind_room_in1 hu) (Q1b I.hok eb) hd dd ?_;have q:=(rel.val k).isSome_eq;rw[Yb]at q;rw[<- q,<- l];exact h _ (I.tok _)
theorem Q1o(I:Inv X pins σ H s)(mu:Mut (H a))(hs:Heap.SameBut a s.heap h')(he:∃ q,h'.get? a=some q)(new:ObjOk X.prog X.w (upd H a ob) h' a ob) :
  Inv X pins σ (upd H a ob) { s with heap:=h',toks:=t' } :=
 I.write (x:=a) (e:=a) mu (.inl rfl) (fun b q hb z=>(hs.2 b hb).trans z) he new
theorem Qc6(z:kvs.length<=sizeLine)(hd:(a==sysModules)=false)(rel:KV kvs vs)(dd:h'.DictOf (za2 P w) a vs) :
  ObjOk P w H' h' a (.dK kvs):=⟨z,hd,vs,rel,dd⟩
theorem Q6F{Q:Unit->Shared->Prop}(hu:A.units+1<cLine)(I:Inv X pins σ H s)(g:DPut H a y v H')(ry:RelV y u)(rv:RelV v r)(h:∀ s',Inv X pins σ H' s'->Q () s') :
  wpAny (model X.prog X.w) A (setItem (.ref a) u r) Q E s:=by
 rcases g with ⟨kvs,k,e,ey,l,eH⟩ | ⟨kvs,k,b,e,ey,eb,l,eH⟩
 ·subst ey eH;obtain⟨z,hd,vs,rel,dd⟩:=dk_of I.hok e;have hz:vs.length<=sizeLine:=by rw[<- rel.length];exact z
  have hl:(putK kvs k v).length<=sizeLine:=by have:=Q0w kvs k v;omega
  refine wpAny_setItem_pairs (hsz:=hz) (kV_is ry) dd fun h' dd' hs=>h _ ?_;have he:∃ q,h'.get? a=some q:=let ⟨q,_,_,hq,_⟩:=dd';⟨q,hq⟩;exact Q1o I (by rw[e];exact Yj) hs he (Qc6 hl hd (rel.put k rv) dd')
 ·subst ey eH;cases (show u=Value.ref b from ry);obtain⟨z,hd,xs,rel,dd⟩:=dt_of I.hok e;have hz:xs.length<=sizeLine:=by rw[<- ZQ rel];exact z
  have hl:(putK kvs k v).length<=sizeLine:=by have:=Q0w kvs k v;omega
  refine wpAny_setItem_heap (hsz:=hz) (tupleKind_room_in1 hu) (Q1b I.hok eb) dd fun h' dd' hs=>h _ ?_;obtain⟨q,es,ep,hq,h2,h3,h4,_,h5⟩:=dd';refine Q1o I (by rw[e];exact Yj) hs ⟨q,hq⟩ ⟨hl,hd,_,(rel.put k eb rv).keeps fun c ys ec=>?_,q,es,ep,hq,h2,h3,h4,h5⟩
  rw[Q0d (ne_of ec e (fun z=>nomatch z))]
  exact ec
end
section
variable{X:Cx}{pins:List (Addr×Obj)}{σ:St}{H:Hp}{s:Shared}{a:Addr}{kvs:List (Key×V)}{k:Key}{u:Value}{A:Around}{E:Value->Shared->Prop}
end
noncomputable def NoSl(i:Expr):Prop:=∀ ov iv,subscripted i false ov iv=operate [ov,iv] (getItem ov iv)
theorem Qas{prog:Program}{w:World}{A:Around}{E:Value->Shared->Prop}{s:Shared}{env:Env}{value slice:Expr}{pos:Pos}{T id:String}{Q:Value->Shared->Prop}
  (hl:typeLookup (.type T) "__getitem__" = pure (some (.builtin id))) (hs:NoSl slice)
  (h:wpAny (model prog w) A (eval value env) (fun o s₁=>wpAny (model prog w) A (eval slice env) (fun i s₂=>s₂.TypeIs o T/\wpAny (model prog w) A (getItem o i) Q E s₂) E s₁) E s) :
  wpAny (model prog w) A (eval (.Subscript value slice pos) env) Q E s:=by
 refine Subscript_ (Yt h (fun o s₁ h₁=>Yt h₁ (fun i s₂ h₂=>?_) fun _ _ x=>x) fun _ _ x=>x);obtain⟨hT,h₂⟩:=h₂;unfold subscriptTail;refine Za ?_;rw[getitemInPython_of_ne hT.not_modules];refine Za (wpAny_specialOf hT hl ?_);have fin:wpAny (model prog w) A (subscripted slice false o i) (fun r s₃=>wpAny (model prog w) A (letTemporaryGo value o r >>= fun _=>pure r) Q E s₃) E s₂:=by
  rw[hs o i];exact wpAny_operating (Yt h₂ (fun r s₃ h₃=>Za (wpAny_letTemporaryGo (Zb h₃))) fun _ _ x=>x)
 first
  | exact Zb (Za fin)
  | exact Za (Zb (Za fin))
  | exact Za fin
theorem Q4o(I:Inv X pins σ H s)(g:DGet H a y o):s.TypeIs (.ref a) "dict":=by
 rcases g with ⟨kvs,k,e,_,_⟩ | ⟨kvs,k,b,e,_,_,_⟩
 ·obtain⟨_,_,vs,_,dd⟩:=dk_rd I.hok e;exact dd.typeIs
 ·obtain⟨_,_,xs,_,dd⟩:=dt_rd I.hok e;exact dd.typeIs
noncomputable def tDGet(td ty:TE):TE:=fun σ H Q=>td σ H fun x H1=>ty σ H1 fun y H2=>∃ a v,x=.ref a/\DGet H2 a y (some v)/\Q v H2
noncomputable def sDPut(td ty tv:TE):TS:=fun D σ H=>tv σ H fun v H1=>td σ H1 fun x H2=>ty σ H2 fun y H3=>∃ a H4,x=.ref a/\DPut H3 a y v H4/\D.nx σ H4
section
variable{X:Cx}{o i e value:Expr}{pos pos' tpos:Pos}{td ty tv:TE}
theorem Q6G(hu:X.A.units+1<cLine)(ho:PE X o td)(hi:PE X i ty)(hs:NoSl i):PE X (.Subscript o i pos) (tDGet td ty):=by
 intro pins s σ H Q I h;refine Qas PySem.F.slot_dict_getitem.lookup hs (thn (ho pins s σ H _ I h) fun u s1 ⟨x,H1,I1,rx,q1⟩=>thn (hi pins s1 σ H1 _ I1 q1) fun iv s2 zz=>?_);obtain⟨y,H2,I2,ry,a,v,ex,g,q2⟩:=zz;subst ex;obtain rfl:u=Value.ref a:=rx;exact⟨Q4o I2 g,Q6D hu I2 g ry fun w' s3 I3 rw'=>⟨v,H2,I3,rw',q2⟩⟩
theorem Q6H(hu:X.A.units+1<cLine)(ho:PE X o td)(hi:PE X i ty)(hv:PE X value tv)(hs:swapsWith value (some (.Subscript o i pos')) pos.line X.env=pure false) :
  PS X (.Assign [.Subscript o i pos'] value pos) (sDPut td ty tv):=by
 intro pins s σ H D I h;refine wpAny_Assign_Subscript (thn (hv pins s σ H _ I h) fun r s1 ⟨v,H1,I1,rv,q1⟩=>thn (ho pins s1 σ H1 _ I1 q1) fun u s2 ⟨x,H2,I2,rx,q2⟩=>thn (hi pins s2 σ H2 _ I2 q2) fun iv s3 zz=>?_) hs;obtain⟨y,H3,I3,ry,a,H4,ex,g,q3⟩:=zz;subst ex;obtain rfl:u=Value.ref a:=rx;exact Q6F hu I3 g ry rv fun s4 I4=>⟨σ,H4,I4,q3⟩
end
theorem Q8r(h:Heap)(hb:sysModules<h.objs.size):ObjOk P w H (h.push { cls:=.type "dict",data:=.dict #[] }) h.objs.size (.dK []) :=
 ⟨ZB _,Yk.mpr (Ne.symm (ZJ hb)),[],.nil,Heap.DictOf.new h⟩
theorem Q2P(h:Heap)(hb:sysModules<h.objs.size):ObjOk P w H (h.push { cls:=.type "dict",data:=.dict #[] }) h.objs.size (.dT []) :=
 ⟨ZB _,Yk.mpr (Ne.symm (ZJ hb)),[],.nil,_,#[],0,Zu _ rfl,⟨rfl,rfl,rfl⟩,rfl,rfl,nodup_nil⟩
noncomputable def tDNewK:TE:=fun _ H Q=>∀ p,H p=none->Q (.ref p) (upd H p (.dK []))
noncomputable def tDNewT:TE:=fun _ H Q=>∀ p,H p=none->Q (.ref p) (upd H p (.dT []))
section
variable{X:Cx}{pos:Pos}
theorem Q8s:PE X (.Dict [] [] pos) tDNewK:=fun pins s σ H Q I h =>
 wpAny_Dict_empty ⟨.ref s.heap.objs.size,_,I.laid (a:=s.heap.objs.size) (o:=.dK []) (t':=s.toks) (fun _ _ q=>Zf _ q) (Zo _) (Q8r s.heap I.big),rfl,h _ (I.hok.fresh (Zo _))⟩
theorem Q8t:PE X (.Dict [] [] pos) tDNewT:=fun pins s σ H Q I h =>
 wpAny_Dict_empty ⟨.ref s.heap.objs.size,_,I.laid (a:=s.heap.objs.size) (o:=.dT []) (t':=s.toks) (fun _ _ q=>Zf _ q) (Zo _) (Q2P s.heap I.big),rfl,h _ (I.hok.fresh (Zo _))⟩
end
structure M1(X:Cx)(o:Expr)(m:Str)(apos:Pos)(e:Expr)(cpos:Pos):Prop where
 base:attributeBase o m X.env (eval o X.env)=eval o X.env
 few:((backTo cpos (starEach [e] X.env)).all (fun x=>!x.1)&&(backToKw cpos (keywordEach [] X.env)).all (fun x=>x.1.isSome)
  && decide (([e]:List Expr).length+([]:List Keyword).length+(if ([]:List Keyword).isEmpty then 0 else 1)<30))=true
 line:(apos.endLine==cpos.line)=true
 trees:backTo cpos (starEach [e] X.env)=[(false,eval e X.env)]
structure M2(X:Cx)(o:Expr)(m:Str)(apos:Pos)(e f:Expr)(cpos:Pos):Prop where
 base:attributeBase o m X.env (eval o X.env)=eval o X.env
 few:((backTo cpos (starEach [e,f] X.env)).all (fun x=>!x.1)&&(backToKw cpos (keywordEach [] X.env)).all (fun x=>x.1.isSome)
  && decide (([e,f]:List Expr).length+([]:List Keyword).length+(if ([]:List Keyword).isEmpty then 0 else 1)<30))=true
 line:(apos.endLine==cpos.line)=true
 trees:backTo cpos (starEach [e,f] X.env)=[(false,eval e X.env),(false,eval f X.env)]
noncomputable def IsD(H:Hp)(a:Addr):Prop:=(∃ kvs,Rd H a (.dK kvs))\/∃ kvs,Rd H a (.dT kvs)
theorem Q4O(I:Inv X pins σ H s)(d:IsD H a) :
  s.TypeIs (.ref a) "dict" /\ (∀ b,Value.ref a=.ref b->∃ ob,s.heap.get? b=some ob/\ob.dict=none)/\(a==sysModules)=false:=by
 rcases d with ⟨kvs,e⟩ | ⟨kvs,e⟩
 ·obtain⟨_,hd,vs,_,dd⟩:=dk_rd I.hok e;refine⟨dd.typeIs,fun b q=>?_,hd⟩;cases q;obtain⟨ob,_,_,h1,h2,_⟩:=dd;exact⟨ob,h1,h2.2.1⟩
 ·obtain⟨_,hd,xs,_,dd⟩:=dt_rd I.hok e;refine⟨dd.typeIs,fun b q=>?_,hd⟩;cases q;obtain⟨ob,_,_,h1,h2,_⟩:=dd;exact⟨ob,h1,h2.2.1⟩
section
variable{X:Cx}{pins:List (Addr×Obj)}{σ:St}{H:Hp}{s:Shared}{a:Addr}{y d:V}{u r:Value}{o:Option V}{A:Around}{E:Value->Shared->Prop}
theorem Qc7{Q:Value->Shared->Prop}(hu:A.units+1<cLine)(I:Inv X pins σ H s)(g:DGet H a y o)(ry:RelV y u)(h:∀ w' s',Inv X pins σ H s'->RelV (o.getD .non) w'->Q w' s') :
  wpAny (model X.prog X.w) A (call (.builtin "dict.get") [.ref a,u]) Q E s:=by
 rcases g with ⟨kvs,k,e,ey,l⟩ | ⟨kvs,k,b,e,ey,eb,l⟩
 ·subst ey;obtain⟨z,hd,vs,rel,dd⟩:=dk_rd I.hok e;refine call_meetsIn slot_dict_get dd.typeIs entry_dict_get (args_dict_get_2 _ _) (meets_dict_get (za2 X.prog X.w) a (kV_is ry) hd) ⟨_,dd.mapOf,h _ _ (I.tok _) ?_⟩;rw[l];exact (rel.val k).getD rfl
 ·subst ey;cases (show u=Value.ref b from ry);obtain⟨z,hd,xs,rel,dd⟩:=dt_rd I.hok e;refine call_meetsIn slot_dict_get dd.typeIs entry_dict_get (args_dict_get_2 _ _) (meetsH_dict_get (tupleKind (za2 X.prog X.w)) a b hd) ⟨tupleKind_room_in1 hu,k,xs,Q1b I.hok eb,dd,h _ _ (I.tok _) ?_⟩;rw[l];exact (rel.val k).getD rfl
theorem Qc8{Q:Value->Shared->Prop}(hu:A.units+1<cLine)(I:Inv X pins σ H s)(g:DGet H a y o)(ry:RelV y u)(rd:RelV d r)(h:∀ w' s',Inv X pins σ H s'->RelV (o.getD d) w'->Q w' s') :
  wpAny (model X.prog X.w) A (call (.builtin "dict.get") [.ref a,u,r]) Q E s:=by
 rcases g with ⟨kvs,k,e,ey,l⟩ | ⟨kvs,k,b,e,ey,eb,l⟩
 ·subst ey;obtain⟨z,hd,vs,rel,dd⟩:=dk_rd I.hok e;refine call_meetsIn slot_dict_get dd.typeIs entry_dict_get (PySem.F.args_dict_get_3 _ _ _) (meets_dict_get_default (za2 X.prog X.w) a (kV_is ry) hd r) ⟨_,dd.mapOf,h _ _ (I.tok _) ?_⟩;rw[l];exact (rel.val k).getD rd
 ·subst ey;cases (show u=Value.ref b from ry);obtain⟨z,hd,xs,rel,dd⟩:=dt_rd I.hok e;refine call_meetsIn slot_dict_get dd.typeIs entry_dict_get (PySem.F.args_dict_get_3 _ _ _) (meetsH_dict_get_default (tupleKind (za2 X.prog X.w)) a b hd r) ⟨tupleKind_room_in1 hu,k,xs,Q1b I.hok eb,dd,h _ _ (I.tok _) ?_⟩;rw[l];exact (rel.val k).getD rd
end
noncomputable def tDGet2(td ty tx:TE):TE:=fun σ H Q=>td σ H fun x H1=>∃ a,x=.ref a/\IsD H1 a/\ty σ H1 fun y H2=>tx σ H2 fun z H3=>∃ o,DGet H3 a y o/\Q (o.getD z) H3
section
variable{X:Cx}{o e f:Expr}{apos cpos:Pos}{td ty tx:TE}
theorem Q4P(hu:X.A.units+1<cLine)(ho:PE X o td)(he:PE X e ty)(hf:PE X f tx)(m:M2 X o "get" apos e f cpos):PE X (.Call (.Attribute o "get" apos) [e,f] [] cpos) (tDGet2 td ty tx):=by
 intro pins s σ H Q I h;refine wpAny_Call_method m.base m.few m.line plainAttrs_dict slot_dict_get type_dict_get (thn (ho pins s σ H _ I h) fun u s1 zz=>?_);obtain⟨x,H1,I1,rx,a,ex,d,q1⟩:=zz;subst ex;obtain rfl:u=Value.ref a:=rx;obtain⟨t1,t2,_⟩:=Q4O I1 d;refine⟨t1,t2,?_⟩;rw[m.trees];refine Calls.callWith_builtin rfl (Calls.evalArgs_plain (Calls.spliced_cons (thn (he pins s1 σ H1 _ I1 q1) fun iv s2 ⟨y,H2,I2,ry,q2⟩ =>
  Calls.spliced_cons (thn (hf pins s2 σ H2 _ I2 q2) fun fv s3 ⟨z,H3,I3,rz,ov,g,q3⟩=>Calls.spliced_nil ?_))))
 exact Qc8 hu I3 g ry rz fun w' s4 I4 rw'=>⟨_,H3,I4,rw',q3⟩
end
section
variable{X:Cx}{pins:List (Addr×Obj)}{σ:St}{H:Hp}{s:Shared}{a:Addr}{kvs:List (Key×V)}{A:Around}{E:Value->Shared->Prop}
end
section
variable{X:Cx}{pins:List (Addr×Obj)}{σ:St}{H:Hp}{s:Shared}{a:Addr}{y:V}{u:Value}{A:Around}{E:Value->Shared->Prop}
end
section
variable{prog:Program}{w:World}{K:Type}[DecidableEq K]{knd:HeapKind prog w K}{A:Around}{E:Value->Shared->Prop}{s:Shared}
theorem Q1p{Q:Value->Shared->Prop}(hu:knd.room A)(hkey:knd.is s.heap k a)(hm:s.heap.DictOfH knd d xs)
  (h1:∀ p,atKey xs k=some p->Q p.2 { s with toks:=s.toks+knd.draws k })
  (h2:atKey xs k=none->∀ h',h'.DictOfH knd d (storedH xs k a v)->Heap.SameBut d s.heap h'->Q v { s with heap:=h',toks:=s.toks+knd.draws k })
  (hsz:xs.length<=sizeLine):wpAny (model prog w) A (dictSetDefault d (.ref a) v) Q E s:=by
 obtain⟨o,es,ep,ho,hc,hd,he,his,hn⟩:=hm;unfold dictSetDefault
 try with_reducible refine ZW ?_
 refine Za (knd.pyHash hu hkey (Za (wpAny_dictFind_heap (s:={ s with toks:=s.toks+knd.draws k }) hu hkey ho hd he his hn ?_ ?_)))
 ·intro hno;have hnot:k∉xs.map (·.1):=not_mem_keys_of_get hno;have hk:atKey xs k=none:=atKey_none_of_get hno;refine Za (wpAny_rule (Za (wpAny_updateDictKeys (hz:=by have e:=size_of_entries he;omega) (s:={ s with toks:=s.toks+knd.draws k }) ho hd (Zb (h2 hk _ ⟨_,_,ep+1,Heap.get?_update_self _ ho (Obj.isFreed_of_dict (Obj.data_mapDictKeys hd _)),
   hc.mapDictKeys _,Obj.data_mapDictKeys hd _,?_,?_,?_⟩ (Yv ..))))))
  ·rw[storedH_new hk];simp[he,entryOfKey]
  ·rw[storedH_new hk];intro x hx;rcases ZO.mp hx with hx | hx
   ·exact knd.keeps (his x hx) ho hd (Yv ..)
   ·simp only[Zz]at hx;subst hx;exact knd.keeps hkey ho hd (Yv ..)
  ·rw[storedH_new hk];rw[Z7,nodup_append];refine⟨hn,by simp,?_⟩
   intro x hx y hy;simp only[Zy,map_nil,Zz]at hy;subst hy;exact fun e=>hnot (e ▸ hx)
 ·intro j p hj;refine Za (Yx (s:={ s with toks:=s.toks+knd.draws k }) ho hd ?_);rw[entry_at he j,hj];exact Za (wpAny_rule (Zb (h1 p (atKey_of_get hn hj))))
end
theorem Q1E{prog:Program}{w:World}{K:Type}[DecidableEq K](knd:HeapKind prog w K)(d a:Addr)(hd:(d==sysModules)=false)(dflt:Value) :
  MeetsIn prog w (Builtin.«dict.setdefault» ⟨[.ref d,.ref a,dflt],[]⟩) (fun A R s=>knd.room A.in1/\∃ k xs,knd.is s.heap k a/\s.heap.DictOfH knd d xs/\xs.length<=sizeLine /\
   (∀ p,atKey xs k=some p->R (.ok (.ret p.2)) { s with toks:=s.toks+knd.draws k }) /\
   (atKey xs k=none->∀ h',h'.DictOfH knd d (storedH xs k a dflt)->Heap.SameBut d s.heap h'->R (.ok (.ret dflt)) { s with heap:=h',toks:=s.toks+knd.draws k })) :=
 .of_wp fun A R s ⟨hu,k,xs,hkey,hm,hz,h1,h2⟩=>by
  unfold Builtin.«dict.setdefault»;refine Za ?_;unfold Builtin.Dict.keyAndDefault;refine Za (wpAny_notOrdered_dict hm.typeIs ?_);show wpAny _ _ (pure (d,Value.ref a,some dflt)) _ _ s;refine Zb ?_;show wpAny _ _ (if (d==sysModules)=true then _ else (dictSetDefault d (.ref a) dflt >>= _)) _ _ s
  rw[Zc (by rw[hd];exact Zs)]
  exact Za (Q1p (hsz:=hz) hu hkey hm (fun p hp=>Zb ⟨p.2,rfl,h1 p hp⟩) fun hn h' hm' hs'=>Zb ⟨dflt,rfl,h2 hn h' hm' hs'⟩)
section
variable{X:Cx}{pins:List (Addr×Obj)}{σ:St}{H:Hp}{s:Shared}{a b:Addr}{v:V}{r:Value}{A:Around}{E:Value->Shared->Prop}{kvs:List (List Key×V)}{k:List Key}
theorem Q8u {Q:Value->Shared->Prop}(hu:A.units+1<cLine)(I:Inv X pins σ H s)(e:H a=some (.dT kvs))(eb:H b=some (.tup (k.map kV)))(l:kvs.length<sizeLine)(rv:RelV v r)
  (h1:∀ y u s',valV kvs k=some y->RelV y u->Inv X pins σ H s'->Q u s') (h2:valV kvs k=none->∀ s',Inv X pins σ (upd H a (.dT (putK kvs k v))) s'->Q r s') :
  wpAny (model X.prog X.w) A (call (.builtin "dict.setdefault") [.ref a,.ref b,r]) Q E s:=by
 obtain⟨z,hd,xs,rel,dd⟩:=dt_of I.hok e;have hz:xs.length<=sizeLine:=by rw[<- ZQ rel];exact z
 have hl:(putK kvs k v).length<=sizeLine:=by have:=Q0w kvs k v;omega
 refine call_meetsIn PySem.F.slot_dict_setdefault dd.typeIs PySem.F.entry_dict_setdefault (PySem.F.args_dict_setdefault_3 _ _ _) (Q1E (tupleKind (za2 X.prog X.w)) a b hd r)
  ⟨tupleKind_room_in1 hu,k,xs,Q1b I.hok eb,dd,hz,fun p hp=>?_,fun hn h' dd' hs=>?_⟩
 ·have q:=rel.val k;rw[hp]at q;cases ev:valV kvs k with
  | none=>rw[ev]at q;exact (show False from q).elim
  | some y =>
   rw[ev]at q;exact h1 y p.2 _ ev q (I.tok _)
 ·have q:=rel.val k;rw[hn]at q;have ev:valV kvs k=none:=by
   cases ev:valV kvs k with
   | none=>rfl
   | some y=>rw[ev]at q;exact (show False from q).elim
  refine h2 ev _ ?_;obtain⟨q,es,ep,hq,g2,g3,g4,_,g5⟩:=dd';refine Q1o I (by rw[e];exact Yj) hs ⟨q,hq⟩ ⟨hl,hd,_,(rel.put k eb rv).keeps fun c ys ec=>?_,q,es,ep,hq,g2,g3,g4,g5⟩
  rw[Q0d (ne_of ec e (fun z=>nomatch z))]
  exact ec
end
noncomputable def tDSetd(td ty tx:TE):TE:=fun σ H Q=>td σ H fun x H1=>∃ a,x=.ref a/\IsD H1 a/\ty σ H1 fun y H2=>tx σ H2 fun z H3=>∃ kvs k b,H3 a=some (.dT kvs)/\y=.ref b/\H3 b=some (.tup (k.map kV))/\kvs.length<sizeLine /\
 (∀ v,valV kvs k=some v->Q v H3)/\(valV kvs k=none->Q z (upd H3 a (.dT (putK kvs k z))))
theorem Q8v(hu:X.A.units+1<cLine)(ho:PE X o td)(he:PE X e ty)(hf:PE X f tx)(m:M2 X o "setdefault" apos e f cpos):PE X (.Call (.Attribute o "setdefault" apos) [e,f] [] cpos) (tDSetd td ty tx):=by
 intro pins s σ H Q I h;refine wpAny_Call_method m.base m.few m.line plainAttrs_dict PySem.F.slot_dict_setdefault PySem.F.type_dict_setdefault (thn (ho pins s σ H _ I h) fun u s1 zz=>?_);obtain⟨x,H1,I1,rx,a,ex,d,q1⟩:=zz;subst ex;obtain rfl:u=Value.ref a:=rx;obtain⟨t1,t2,_⟩:=Q4O I1 d;refine⟨t1,t2,?_⟩;rw[m.trees];refine Calls.callWith_builtin rfl (Calls.evalArgs_plain (Calls.spliced_cons (thn (he pins s1 σ H1 _ I1 q1) fun iv s2 ⟨y,H2,I2,ry,q2⟩ =>
  Calls.spliced_cons (thn (hf pins s2 σ H2 _ I2 q2) fun fv s3 ⟨z,H3,I3,rz,kvs,k,b,ea,ey,eb,hl,q3,q4⟩=>Calls.spliced_nil ?_))))
 subst ey;obtain rfl:iv=Value.ref b:=ry;exact Q8u hu I3 ea eb hl rz (fun v u' s' ev rv I'=>⟨v,H3,I',rv,q3 v ev⟩) fun ev s' I'=>⟨z,_,I',rz,q4 ev⟩
noncomputable def tDisp1(tk tv:TE):TE:=fun σ H Q=>∀ p,H p=none->tk σ (upd H p (.dT [])) fun x H1=>tv σ H1 fun y H2=>∃ k b,x=.ref b/\H2 b=some (.tup (k.map kV))/\H2 p=some (.dT [])/\Q (.ref p) (upd H2 p (.dT [(k,y)]))
theorem Q8w(hu:X.A.units+1<cLine)(hk:PE X k tk)(hv:PE X v tv):PE X (.Dict [some k] [v] pos) (tDisp1 tk tv):=by
 intro pins s σ H Q I q;have hn:=I.hok.fresh (Zo s.heap.objs.size);have I1:=I.laid (a:=s.heap.objs.size) (o:=.dT []) (h':=s.heap.push { cls:=.type "dict",data:=.dict #[] }) (t':=s.toks) (fun _ _ q=>Zf _ q) (Zo _) (Q2P s.heap I.big);refine wpAny_Dict_any rfl rfl (by simp) (by show 1<=15;decide) ?_
 refine pairTrees_cons_walk (thn (hk pins _ σ _ _ I1 (q _ hn)) fun kv s1 ⟨x,H1,J1,rx,q1⟩=>thn (hv pins s1 σ H1 _ J1 q1) fun vv s2 ⟨y,H2,J2,ry,ks,b,ex,eb,ep,q2⟩=>pairTrees_nil_walk ?_);subst ex;obtain rfl:kv=Value.ref b:=rx;obtain⟨z,hd,xs,rel,dd⟩:=dt_of J2.hok ep;cases rel;have hu':(tupleKind (za2 X.prog X.w)).room X.A:=Nat.lt_of_succ_lt hu;unfold storeAll;refine wpAny_forIn_list _ (fun rest r s'=>(rest=[(Value.ref b,vv)]/\s'=s2)\/(rest=[]/\∃ s3,s'=s3/\Inv X pins σ (upd H2 s.heap.objs.size (.dT [(ks,y)])) s3)) _ ?_ ?_ _ _ (.inl ⟨rfl,rfl⟩)
 ·rintro p rest r s' (⟨e1,rfl⟩ | ⟨e1,_⟩)
  ·cases e1;refine Za (wpAny_dictSet_heap (hsz:=by simp) (knd:=tupleKind (za2 X.prog X.w)) hu' (Q1b J2.hok eb) dd fun h' dd' hs=>Zb ?_)
   refine .inr ⟨rfl,_,rfl,?_⟩;obtain⟨qo,es,eo,hq,g2,g3,g4,_,g5⟩:=dd';refine Q1o J2 (by rw[ep];exact Yj) hs ⟨qo,hq⟩ ⟨by simp[ZL],hd,_,?_,qo,es,eo,hq,g2,g3,g4,g5⟩
   refine Paired.cons ⟨rfl,?_,ry⟩ .nil;show upd H2 _ _ b=_;rw[Q0d (ne_of eb ep (fun z=>nomatch z))]
   exact eb
  ·cases e1
 ·rintro r s' (⟨e1,_⟩ | ⟨_,s3,rfl,I3⟩)
  ·cases e1
  ·exact⟨.ref s.heap.objs.size,_,I3,rfl,q2⟩
section
variable{X:Cx}{o i value:Expr}{td ty tv:TE}{pos pos':Pos}
end
section
variable{P:Program}{w:World}{A:Around}{E:Value->Shared->Prop}{s:Shared}{d it:Addr}{o:Obj}{es:Array DictEntry}{ep i:Nat}
theorem Q6I{Q:Value->Shared->Prop}(hd:(d==sysModules)=false)(ty:s.TypeIs (.ref d) "dict")(h1:s.heap.get? d=some o)(h2:o.data=.dict es ep)
  (h:Q (.ref s.heap.objs.size) { s with heap:=s.heap.push { cls:=.type "dict_keyiterator",data:=.fields #[.ref d,.int 0 0,.int es.size 0,.int ep 0] } }):wpAny (model P w) A (pyIter (.ref d)) Q E s:=by
 have nm:¬ ((d==sysModules)=true):=by rw[hd];exact Zs
 refine wpAny_pyIter_slot ty PySem.F.slot_dict_iter (ZP PySem.F.slot_dict_iter ty PySem.F.entry_dict_iter ?_ (PySem.F.args_dict_iter_1 _));unfold Builtin.«dict.__iter__» Builtin.Dict.dictSlotNone;refine Za (Za (wpAny_notOrdered_dict ty (Zb (a:=Value.ref d) ?_)));show wpAny _ _ (Builtin.Dict.showsAll d >>= _) _ _ s;unfold Builtin.Dict.showsAll;rw[Zc nm];refine Za (Zb (Za (Yx h1 h2 (Za (wpAny_dictEpoch h1 h2 (Za (ZV (Zb ⟨_,rfl,"dict_keyiterator",_,⟨_,Zu _ rfl,rfl⟩,slot_dict_keyiterator_next.lookup,?_⟩))))))));simpa[rawInt]using h
theorem Q6J{Q:Option Value->Shared->Prop}(st:s.heap.IsKeyIter it d i es.size ep)(h1:s.heap.get? d=some o)(h2:o.data=.dict es ep)(lt:i<es.size)
  (h:∀ h',h'.IsKeyIter it d (i+1) es.size ep->Heap.SameBut it s.heap h'->Q (some es[i].key) { s with heap:=h' }):wpAny (model P w) A (pyNext (.ref it)) Q E s:=by
 obtain⟨oi,q1,q2,q3⟩:=id st;have own:Builtin.Dict_items.ownsTuple "dict_keyiterator" = false:=by decide
 have st':(s.heap.update it (Obj.mapFields (·.setIfInBounds 1 (rawInt ((i:Int)+1))))).IsKeyIter it d (i+1) es.size ep :=
  ⟨_,Heap.get?_update_self _ q1 (Obj.isFreed_of_fields (Obj.data_mapFields q3 _)),(Obj.cls_mapFields ..).trans q2,by rw[Obj.data_mapFields q3];simp[rawInt]⟩
 unfold pyNext;refine Za (wpAny_attempt (wpAny_callSpecial?_slot (name:=Str.ofString "__next__") st.typeIs slot_dict_keyiterator_next (ZP slot_dict_keyiterator_next st.typeIs PySem.F.entry_dict_keyiterator_next ?_ (PySem.F.args_dict_keyiterator_next_1 _))));refine Za (Zb (Za (Za ?_)));refine Za (wpAny_typeNameOfWhole_keyiter st.typeIs (Zb (Za (wpAny_fieldsOf q1 q3 ?_))));simp only[own,ZK,Yd];show wpAny _ _ (if (Value.ref d==Value.none)=true then _ else _) _ _ s
 have dn:¬ ((Value.ref d==Value.none)=true):=fun z=>Zs z;rw[Zc dn];refine Za (Zb (Za (Yx h1 h2 ?_)));rw[Zc (by simp)]
 refine Za (Zb (Za (wpAny_dictEpoch h1 h2 ?_)));rw[Zc (by simp)]
 refine Zb ?_;have ni:¬ ((i:Int)<0):=by omega
 simp only[ni,Yd,Zx,Array.getElem?_eq_getElem lt];refine Za (Za (wpAny_typeNameOfWhole_keyiter st.typeIs (Zb (Za (wpAny_isOneOf_keyiter st.typeIs ?_)))));show wpAny _ _ (setField (.ref it) 1 (rawInt ((i:Int)+1)) >>= _) _ _ s;refine Za (wpAny_setField q1 q3 (by simp) (Za (ZW ?_)))
 refine Za (wpAny_isOneOf_keyiter (s:={ s with heap:=s.heap.update it (Obj.mapFields (·.setIfInBounds 1 (rawInt ((i:Int)+1)))) }) st'.typeIs ?_);show wpAny _ _ (pure es[i].key) _ _ _;exact Zb (Zb ⟨_,rfl,Zb (h _ st' (Yv ..))⟩)
theorem Q8x{Q:Option Value->Shared->Prop}(hh:A.handled=none)(st:s.heap.IsKeyIter it d i es.size ep)(h1:s.heap.get? d=some o)(h2:o.data=.dict es ep)(ge:es.size<=i)
  (h:∀ h',Heap.ExtBut it s.heap h'->Q none { s with heap:=h' }):wpAny (model P w) A (pyNext (.ref it)) Q E s:=by
 obtain⟨oi,q1,q2,q3⟩:=id st;have own:Builtin.Dict_items.ownsTuple "dict_keyiterator" = false:=by decide
 unfold pyNext;refine Za (wpAny_attempt (wpAny_callSpecial?_slot (name:=Str.ofString "__next__") st.typeIs slot_dict_keyiterator_next (ZP slot_dict_keyiterator_next st.typeIs PySem.F.entry_dict_keyiterator_next ?_ (PySem.F.args_dict_keyiterator_next_1 _))));refine Za (Zb (Za (Za ?_)));refine Za (wpAny_typeNameOfWhole_keyiter st.typeIs (Zb (Za (wpAny_fieldsOf q1 q3 ?_))));simp only[own,ZK,Yd];show wpAny _ _ (if (Value.ref d==Value.none)=true then _ else _) _ _ s
 have dn:¬ ((Value.ref d==Value.none)=true):=fun z=>Zs z;rw[Zc dn];refine Za (Zb (Za (Yx h1 h2 ?_)));rw[Zc (by simp)]
 refine Za (Zb (Za (wpAny_dictEpoch h1 h2 ?_)));rw[Zc (by simp)]
 refine Zb ?_;have ni:¬ ((i:Int)<0):=by omega
 simp only[ni,Yd,Zx,Array.getElem?_eq_none ge];refine Za (Za (wpAny_typeNameOfWhole_keyiter st.typeIs (Zb ?_)));show wpAny _ _ (setField (.ref it) 0 .none >>= _) _ _ s;refine Za (wpAny_setField q1 q3 (by simp) ?_)
 show wpAny _ _ (newExc (.type "StopIteration") [] >>= _) _ _ _;simp only[newExc,newTuple];refine Za (Za (ZV (Za (m:=firstArgMember _ _) (wpAny_of_eq (a:=Value.none) (by first | rfl | (simp only[firstArgMember];rfl)) (ZV ?_ (by size_fits)))) (by size_fits)))
 simp only[raiseNew];refine Za (wpAny_handled ?_);rw[show A.in1.handled=none from hh];refine Za (Zb (wpAny_throw (Za ?_)));exact wpAny_isInstance (T:="StopIteration") (b:=true) ⟨_,Zu _ rfl,rfl⟩ isSubtype_stop (Zb (h _ (((Yv ..).extBut.push _).push _)))
end
noncomputable abbrev NT(H:Hp):List (NK.Key3 Key×V)->List (NK.Key3 Key×Addr×Value)->Prop:=Paired fun p q=>p.1=q.1/\K3At H p.1 q.2.1/\RelV p.2 q.2.2
theorem NT.val(r:NT H kvs xs)(k:NK.Key3 Key):RelO (valV kvs k) ((atKey xs k).map (·.2)):=by
 induction r with
 | nil=>exact Yj
 | @cons p q ps qs h t ih =>
  by_cases e:p.1=k
  ·have b:atKey (q::qs) k=some q.2:=by simp[atKey,Yu,h.1.symm.trans e]
   rw[Q0R e,b];exact h.2.2
  ·have e':¬ q.1=k:=fun z=>e (h.1.trans z);have b:atKey (q::qs) k=atKey qs k:=by simp[atKey,Yu,e']
   rw[Q0S e,b];exact ih
theorem NT.put(r:NT H kvs xs)(k:NK.Key3 Key)(hb:K3At H k b)(ry:RelV y u):NT H (putK kvs k y) (storedH xs k b u):=by
 have e:(kvs.any fun kv=>decide (kv.1=k))=(atKey xs k).isSome:=by
  rw[Q1j,(r.val k).isSome_eq,Yb]
 unfold putK storedH;rw[e];by_cases q:(atKey xs k).isSome=true
 ·rw[Ze q,Ze q];clear q e
  induction r with
  | nil=>exact .nil
  | @cons p q ps qs h t ih =>
   rw[Zy,Zy];refine .cons ?_ ih;unfold putAt;by_cases e:p.1=k
   ·rw[Ze e,Ze (h.1.symm.trans e)];exact⟨h.1,h.2.1,ry⟩
   ·rw[Zc e,Zc (fun z=>e (h.1.trans z))];exact h
 ·rw[Zc q,Zc q];exact Paired.snoc r ⟨rfl,hb,ry⟩
theorem K3At.keeps(x:K3At H k b)(ht:∀ b ys,H b=some (.tup ys)->H' b=some (.tup ys)):K3At H' k b :=
 let ⟨n,e1,e2⟩:=x;⟨n,ht _ _ e1,ht _ _ e2⟩
section
variable{P:Program}{w:World}{H:Hp}{h:Heap}{a:Addr}
theorem Q4Q:∀ {ks:List Key} {us:List Value},Vals (ks.map kV) us->NK.PartsOk (za2 P w) h (ks.map Sum.inl) us
 | [],[],_=>.nil
 | [],_::_,r=>by cases r
 | _::_,[],r=>by cases r
 | k::ks,u::us,r=>by
  cases r with
  | cons h t=>exact .cons (kV_is h) (Q4Q t)
theorem Q2Q(ok:HOk P w H h)(e:K3At H k a):(NK.nestKind (za2 P w)).is h k a:=by
 obtain⟨n,e1,e2⟩:=e;obtain⟨_,its,r,o,h1,h2,m,h3⟩:=(show ObjOk P w H h a (.tup (.ref n::kV k.1::k.2.2.map kV)) from ok a _ e1);refine⟨o,its.toArray,m,h1,h2,h3,?_⟩;cases r with
 | cons r1 r =>
  cases r with
  | cons r2 r =>
   cases (show _=Value.ref n from r1);exact .cons ⟨n,rfl,Q1b ok e2⟩ (.cons (kV_is r2) (Q4Q r))
theorem dn_at(ok:HOk P w H h)(e:H a=some (.dN ep kvs)):kvs.length<=sizeLine/\(a==sysModules)=false/\∃ xs,NT H kvs xs/\∃ o es,h.get? a=some o/\o.ExactDict/\o.data=.dict es ep/\es.toList=xs.map (entryOfKey (NK.nestKind (za2 P w)))/\(∀ x∈xs,(NK.nestKind (za2 P w)).is h x.1 x.2.1)/\(xs.map (·.1)).Nodup:=by
 obtain⟨z,y,xs,r,o,es,h1,h2,h3,h4,h5⟩:=(show ObjOk P w H h a (.dN ep kvs) from ok a _ e);refine⟨z,y,xs,r,o,es,h1,h2,h3,h4,fun x hx=>?_,h5⟩;have all:∀ {l:List (NK.Key3 Key×V)} {m:List (NK.Key3 Key×Addr×Value)},NT H l m->∀ x∈m,(NK.nestKind (za2 P w)).is h x.1 x.2.1:=by
  intro l m q
  induction q with
  | nil=>intro x hx;exact nomatch hx
  | @cons p q ps qs hq t ih =>
   intro x hx;rcases Z3.mp hx with e | hx
   ·subst e;exact Q2Q ok (by rw[<- hq.1];exact hq.2.1)
   ·exact ih x hx
 exact all r x hx
theorem dn_of(ok:HOk P w H h)(e:H a=some (.dN ep kvs)):kvs.length<=sizeLine/\(a==sysModules)=false/\∃ xs,NT H kvs xs/\h.DictOfH (NK.nestKind (za2 P w)) a xs:=by
 obtain⟨z,y,xs,r,o,es,q⟩:=dn_at ok e;exact⟨z,y,xs,r,o,es,ep,q⟩
theorem Q8y(h:Heap)(hb:sysModules<h.objs.size):ObjOk P w H (h.push { cls:=.type "dict",data:=.dict #[] }) h.objs.size (.dN 0 []) :=
 ⟨ZB _,Yk.mpr (Ne.symm (ZJ hb)),[],.nil,_,#[],Zu _ rfl,⟨rfl,rfl,rfl⟩,rfl,rfl,nodup_nil⟩
end
section
variable{X:Cx}{pins:List (Addr×Obj)}{σ:St}{H:Hp}{s:Shared}{a b:Addr}{v:V}{r:Value}{ep:Nat}{kvs:List (NK.Key3 Key×V)}{k:NK.Key3 Key}{A:Around}{E:Value->Shared->Prop}
theorem room3(hu:A.units+2<cLine)(P:Program)(w:World):(NK.nestKind (za2 P w)).room A.in1:=hu
theorem n_in{Q:Value->Shared->Prop}(hu:A.units+2<cLine)(I:Inv X pins σ H s)(e:H a=some (.dN ep kvs))(eb:K3At H k b)(h:∀ s',Inv X pins σ H s'->Q (.bool (valV kvs k).isSome) s') :
  wpAny (model X.prog X.w) A (compareOp .In (.ref b) (.ref a)) Q E s:=by
 obtain⟨z,hd,xs,rel,dd⟩:=dn_of I.hok e;refine wpAny_in_heap (room3 hu _ _) (Q2Q I.hok eb) hd dd ?_;have q:=(rel.val k).isSome_eq;rw[Yb]at q;rw[<- q];exact h _ (I.tok _)
theorem Q6K{Q:Unit->Shared->Prop}(hu:A.units+2<cLine)(I:Inv X pins σ H s)(e:H a=some (.dN ep kvs))(eb:K3At H k b)(l:kvs.length<sizeLine)(rv:RelV v r)(h:∀ ep' s',Inv X pins σ (upd H a (.dN ep' (putK kvs k v))) s'->Q () s') :
  wpAny (model X.prog X.w) A (setItem (.ref a) (.ref b) r) Q E s:=by
 obtain⟨z,hd,xs,rel,dd⟩:=dn_of I.hok e;have hz:xs.length<=sizeLine:=by rw[<- ZQ rel];exact z
 have hl:(putK kvs k v).length<=sizeLine:=by have:=Q0w kvs k v;omega
 refine wpAny_setItem_heap (hsz:=hz) (room3 hu _ _) (Q2Q I.hok eb) dd fun h' dd' hs=>?_;obtain⟨q,es,ep',hq,h2,h3,h4,_,h5⟩:=dd';refine h ep' _ ?_;have kp:∀ c ys,H c=some (.tup ys)->upd H a (.dN ep' (putK kvs k v)) c=some (.tup ys):=fun c ys ec=>by
  rw[Q0d (ne_of ec e (fun z=>nomatch z))];exact ec
 exact Q1o I (by rw[e];exact Yj) hs ⟨q,hq⟩ ⟨hl,hd,_,Paired.mapP (rel.put k eb rv) fun p q z=>⟨z.1,z.2.1.keeps kp,z.2.2⟩,q,es,hq,h2,h3,h4,h5⟩
end
noncomputable def sNPut(td ty tv:TE):TS:=fun D σ H=>tv σ H fun v H1=>td σ H1 fun x H2=>ty σ H2 fun y H3=>∃ a b kvs k,x=.ref a/\y=.ref b/\(∃ ep,H3 a=some (.dN ep kvs))/\K3At H3 k b/\kvs.length<sizeLine/\∀ ep',D.nx σ (upd H3 a (.dN ep' (putK kvs k v)))
section
variable{X:Cx}{o i e value:Expr}{pos pos' tpos:Pos}{td ty tv:TE}
noncomputable def tDispN(tk tv:TE):TE:=fun σ H Q=>∀ p,H p=none->tk σ (upd H p (.dN 0 [])) fun x H1=>tv σ H1 fun y H2=>∃ k b,x=.ref b/\K3At H2 k b/\(∃ ep,H2 p=some (.dN ep []))/\∀ ep',Q (.ref p) (upd H2 p (.dN ep' [(k,y)]))
theorem Q8z(hu:X.A.units+2<cLine)(hk:PE X k tk)(hv:PE X v tv):PE X (.Dict [some k] [v] pos) (tDispN tk tv):=by
 intro pins s σ H Q I q;have hn:=I.hok.fresh (Zo s.heap.objs.size);have I1:=I.laid (a:=s.heap.objs.size) (o:=.dN 0 []) (t':=s.toks) (fun _ _ q=>Zf _ q) (Zo _) (Q8y s.heap I.big);refine wpAny_Dict_any rfl rfl (by simp) (by show 1<=15;decide) ?_
 refine pairTrees_cons_walk (thn (hk pins _ σ _ _ I1 (q _ hn)) fun kv s1 ⟨x,H1,J1,rx,q1⟩=>thn (hv pins s1 σ H1 _ J1 q1) fun vv s2 ⟨y,H2,J2,ry,ks,b,ex,eb,⟨ep,ee⟩,q2⟩=>pairTrees_nil_walk ?_);subst ex;obtain rfl:kv=Value.ref b:=rx;obtain⟨z,hd,xs,rel,dd⟩:=dn_of J2.hok ee;cases rel;have hr:(NK.nestKind (za2 X.prog X.w)).room X.A:=Nat.lt_of_succ_lt hu;unfold storeAll;refine wpAny_forIn_list _ (fun rest r s'=>(rest=[(Value.ref b,vv)]/\s'=s2)\/(rest=[]/\∃ ep',Inv X pins σ (upd H2 s.heap.objs.size (.dN ep' [(ks,y)])) s')) _ ?_ ?_ _ _ (.inl ⟨rfl,rfl⟩)
 ·rintro p rest r s' (⟨e1,rfl⟩ | ⟨e1,_⟩)
  ·cases e1;refine Za (wpAny_dictSet_heap (hsz:=by simp) (knd:=NK.nestKind (za2 X.prog X.w)) hr (Q2Q J2.hok eb) dd fun h' dd' hs=>Zb (.inr ⟨rfl,?_⟩))
   obtain⟨qo,es,eo,hq,g2,g3,g4,_,g5⟩:=dd';have kp:∀ c ys,H2 c=some (.tup ys)->upd H2 s.heap.objs.size (.dN eo [(ks,y)]) c=some (.tup ys):=fun c ys ec=>by
    rw[Q0d (ne_of ec ee (fun z=>nomatch z))];exact ec
   exact⟨eo,Q1o J2 (by rw[ee];exact Yj) hs ⟨qo,hq⟩ ⟨by simp[ZL],hd,_,Paired.cons ⟨rfl,eb.keeps kp,ry⟩ .nil,qo,es,hq,g2,g3,g4,g5⟩⟩
  ·cases e1
 ·rintro r s' (⟨e1,_⟩ | ⟨_,ep',I3⟩)
  ·cases e1
  ·exact⟨.ref s.heap.objs.size,_,I3,rfl,q2 ep'⟩
theorem Qat(hu:X.A.units+2<cLine)(ho:PE X o td)(hi:PE X i ty)(hv:PE X value tv)(hs:swapsWith value (some (.Subscript o i pos')) pos.line X.env=pure false) :
  PS X (.Assign [.Subscript o i pos'] value pos) (sNPut td ty tv):=by
 intro pins s σ H D I h;refine wpAny_Assign_Subscript (thn (hv pins s σ H _ I h) fun r s1 ⟨v,H1,I1,rv,q1⟩=>thn (ho pins s1 σ H1 _ I1 q1) fun u s2 ⟨x,H2,I2,rx,q2⟩=>thn (hi pins s2 σ H2 _ I2 q2) fun iv s3 zz=>?_) hs;obtain⟨y,H3,I3,ry,a,b,kvs,k,ex,ey,⟨ep,e1⟩,e2,l,q3⟩:=zz;subst ex ey;obtain rfl:u=Value.ref a:=rx;obtain rfl:iv=Value.ref b:=ry;exact Q6K hu I3 e1 e2 l rv fun ep' s4 I4=>⟨σ,_,I4,q3 ep'⟩
end
section
variable{P:Program}{w:World}{A:Around}{E:Value->Shared->Prop}{s:Shared}{d it:Addr}{o:Obj}{es:Array DictEntry}{ep i:Nat}
end
section
variable{P:Program}{w:World}{H:Hp}{h:Heap}{a:Addr}{ep:Nat}{kvs:List (NK.Key3 Key×V)}
end
section
variable{X:Cx}{tg:Expr}
end
section
variable{P:Program}{w:World}{κ:Type}[DecidableEq κ]{knd:HeapKind P w κ}{A:Around}{E:Value->Shared->Prop}{s:Shared}{d a:Addr}{xs:List (κ×Addr×Value)}{k:κ}
end
section
variable{X:Cx}{pins:List (Addr×Obj)}{σ:St}{H:Hp}{s:Shared}{a b:Addr}{v:V}{ep:Nat}{kvs:List (NK.Key3 Key×V)}{k:NK.Key3 Key}{A:Around}{E:Value->Shared->Prop}
end
section
variable{X:Cx}{tg o e:Expr}{apos cpos:Pos}{td ty:TE}
end
section
variable{P:Program}{w:World}{A:Around}{E:Value->Shared->Prop}{s:Shared}
end
section
variable{P:Program}{w:World}{A:Around}{R:Result->Shared->Prop}{I:Addr}{fp wr:List Addr}{n:Nat}{p:Nat->Value->Prop}{St:Nat->Heap->Prop}
end
section
variable{P:Program}{w:World}{A:Around}{E:Value->Shared->Prop}{s:Shared}
end
section
variable{P:Program}{w:World}{d:Addr}{ob:Obj}{es:Array DictEntry}{ep:Nat}
end
section
variable{X:Cx}{pins:List (Addr×Obj)}{σ:St}{H:Hp}{s:Shared}{a:Addr}
theorem Inv.adopt(I:Inv X pins σ H s)(f:FpOk X pins H a)(hs:X.s₀.heap.objs.size<=a)(new:ObjOk X.prog X.w (upd H a o) s.heap a o):Inv X pins σ (upd H a o) s:=by
 obtain⟨f0,f1,f2,f3,f4,f5⟩:=f;have ne:∀ {b:Addr} {u:HO},H b=some u->b≠a:=fun e=>Q0j e f0;refine { I with base:=⟨I.base.keep,I.base.slot,fun b u e n x=>?_,I.base.there,fun b xs e=>?_,fun b u v e=>?_,fun b ps e=>?_⟩,free:=?_,freeC:=fun x c e=>?_,pin:=fun p hp=>?_,hok:=fun b u e=>?_ }
 ·rw[Q0d (ZJ (Z8 (Zp e) hs))];exact I.base.free b u e n x
 ·have q:=I.base.tups b xs e;rw[Q0d (ne q)];exact q
 ·have q:=I.base.frzs b u v e;rw[Q0d (ne q)];exact q
 ·obtain⟨more,q⟩:=I.base.tbls b ps e;exact⟨more,by rw[Q0d (ne q)];exact q⟩
 ·rw[Q0d f1.symm];exact I.free
 ·rw[Q0d (f4 x c e)];exact I.freeC x c e
 ·obtain⟨p1,p2,p3⟩:=I.pin p hp;exact⟨p1,by rw[Q0d (f5 p hp)];exact p2,p3⟩
 ·by_cases hb:b=a
  ·subst hb;rw[Q0e]at e;cases e;exact new
  ·rw[Q0d hb]at e;exact (I.hok b u e).stay (fun _ _ _ q=>q) (fun c q=>by rw[Q0d (ne q)];exact q) fun c xs q=>by rw[Q0d (ne q)];exact q
variable{A:Around}{E:Value->Shared->Prop}{G:PySem.Fin->Shared->Prop}{ls ks:Addr}{its:List Value}{ns:List Int}{kk:Array Value}{e0 e1:Nat}
noncomputable abbrev two(ls ks:Addr)(kk:Array Value)(e0 e1:Nat)(pins:List (Addr×Obj)):List (Addr×Obj):=(ks,seqObj "list" kk e0)::(ls,seqObj "list" #[] e1)::pins
end
section
variable{X:Cx}{pins:List (Addr×Obj)}{σ:St}{H:Hp}{s:Shared}{C f x dx:Addr}{m:Str}{fs:List (Str×V)}{A:Around}{E:Value->Shared->Prop}
end
theorem Q3E:∀ bs:List Addr,Vals (bs.map V.ref) (bs.map Value.ref)
 | []=>.nil
 | _::r=>.cons rfl (Q3E r)
section
variable{X:Cx}{C f:Addr}{m:Str}{k:Nat}{fd:FuncData}{ps:List Str}{sp:Sp}{e o:Expr}{p pos apos kpos:Pos}{td:TA}{to:TE}
end
section
variable{X:Cx}{o:Expr}{apos cpos:Pos}{td:TE}
end
end L2
namespace STb
open PySem PySem.SetTable
end STb
namespace STb
open PySem PySem.W PyProof.Rows
section
variable{n:Nat}{rk:Nat->Nat}{cmp:Ask}{s:Shared}{p:Array Nat}
end
end STb
namespace STb
open PySem PySem.Spec PySem.SetTable
section
variable{prog:Program}{w:World}{A:Around}{E:Value->Shared->Prop}{s:Shared}{h₀:Heap}{a:Addr}
noncomputable abbrev kd(prog:Program)(w:World):=strKind prog w
noncomputable def Nm(prog:Program)(w:World)(h:Heap)(v:Value)(k:List Str):Prop:=∃ b,v=.ref b/\IsTupleKey (kd prog w) h k b
end
end STb
namespace STb
open PySem PySem.Spec PySem.SetTable PyProof.Rows
section
variable{prog:Program}{w:World}{A:Around}{E:Value->Shared->Prop}{s:Shared}{h₀:Heap}{a:Addr}
end
section
variable{prog:Program}{w:World}{A:Around}{E:Value->Shared->Prop}{s:Shared}{h₀:Heap}{a:Addr}
variable{es:Ents}{ep:Nat}{t:SetTable}{it:Addr}{i:Nat}{first:Value}
end
section
variable{prog:Program}{w:World}{A:Around}{E:Value->Shared->Prop}{s:Shared}{h₀:Heap}{a it:Addr}{es:Ents}{ep i:Nat}{t:SetTable}{first:Value}
end
end STb
namespace STb
open PySem PySem.Spec PySem.W PyProof.Rows
noncomputable def ltN:List Str->List Str->Bool
 | [],[]=>false
 | [],_::_=>true
 | _::_,[]=>false
 | x::r,y::q=>if x=y then ltN r q else decide (x.cps.toList<y.cps.toList)
theorem ltN_cons(x y:Str)(r q:List Str):ltN (x::r) (y::q)=if x=y then ltN r q else decide (x.cps.toList<y.cps.toList):=rfl
section
variable{prog:Program}{w:World}{A:Around}{E:Value->Shared->Prop}{s:Shared}
theorem Q9J(h:(kd prog w).is k v=true):∃ t,v=.str k t:=by
 cases v with
 | str x t=>exact⟨t,by rw[(kd prog w).inj (.str x t) k x h (strKind_is _ _ _ _)]⟩
 | _=>exact nomatch (show false=true from h)
theorem Qc9{Q:Value->Shared->Prop}(hx:IsTupleKey (kd prog w) s.heap x a)(hy:IsTupleKey (kd prog w) s.heap y b)(h:Q (.bool (ltN x y)) s):wpAny (model prog w) A (call (.builtin "tuple.__lt__") [.ref a,.ref b]) Q E s:=by
 have tx:=hx.typeIs;have ty:=hy.typeIs;obtain⟨oa,xs,na,hoa,_,hda,hia⟩:=hx;obtain⟨ob,ys,nb,hob,_,hdb,hib⟩:=hy;refine ZP F.slot_tuple_lt tx F.entry_tuple_lt ?_ (F.args_tuple_lt_2 _ _);refine (show wpAny _ _ (isInstance (.ref b) (.type "tuple") >>= _) _ _ s from Za (wpAny_isInstance ty isSubtype_tuple_tuple ?_));simp only[Bool.not_true,ZK,Yd];refine Za (wpAny_tupleItemsOf hoa hda (Za (wpAny_tupleItemsOf hob hdb (Za ?_))));have len:xs.size=x.length/\ys.size=y.length:=⟨by rw[hia.length,ZE],by rw[hib.length,ZE]⟩
 refine wpAny_forIn_list _ (fun rest r s'=>r.1=none/\s'=s/\∃ x' y' xs' ys',rest=List.zip xs' ys'/\ItemsAre (kd prog w) x' xs'/\ItemsAre (kd prog w) y' ys'/\ltN x' y'=ltN x y/\(x'.length<y'.length <-> x.length<y.length)) _ ?_ ?_ _ _ ⟨rfl,rfl,x,y,xs.toList,ys.toList,rfl,hia,hib,rfl,Iff.rfl⟩
 ·rintro⟨u,v⟩ rest r s' ⟨hr,rfl,x',y',xs',ys',hz,g1,g2,hl,hq⟩;cases g1 with
  | nil=>simp at hz
  | @cons k1 u' x'' xs'' h1 g1' =>
   cases g2 with
   | nil=>simp at hz
   | @cons k2 v' y'' ys'' h2 g2' =>
    simp only[List.zip_cons_cons,List.cons.injEq,Prod.mk.injEq]at hz;obtain⟨⟨rfl,rfl⟩,rfl⟩:=hz;refine Za ((kd prog w).eqBool (a:=k1) (b:=k2) h1 h2 ?_);rw[ltN_cons]at hl;by_cases e:k1=k2
    ·rw[Ze e]at hl;rw[Zm e];simp only[Bool.not_true,ZK,Yd];exact Zb ⟨rfl,rfl,x'',y'',xs'',ys'',rfl,g1',g2',hl,by rw[<- hq,Zj,Zj];exact Nat.succ_lt_succ_iff.symm⟩
    ·rw[Zc e]at hl;rw[Zr e];simp only[Bool.not_false,Yw];obtain⟨t,rfl⟩:=Q9J h1;obtain⟨t',rfl⟩:=Q9J h2;rw[<- hl]at h;exact Za (wpAny_rule (Za (PyProof.Rows.lt_str (Za (Zb (Zb (Zb ⟨_,rfl,h⟩)))))))
 ·rintro⟨r1,r2⟩ s' ⟨hr,rfl,x',y',xs',ys',hz,g1,g2,hl,hq⟩;simp only at hr;subst hr;refine Zb ⟨_,rfl,?_⟩;have fin:decide (xs.size<ys.size)=ltN x y:=by
   rw[<- hl,len.1,len.2];rw[show decide (x.length<y.length)=decide (x'.length<y'.length) from decide_eq_decide.mpr hq.symm];cases g1 with
   | nil =>
    cases g2 with
    | nil=>rfl
    | cons _ _=>rfl
   | cons _ _ =>
    cases g2 with
    | nil=>rfl
    | cons _ _=>simp at hz
  show Q (.bool (decide (xs.size<ys.size))) s';rw[fin];exact h
end
section
variable{prog:Program}{w:World}{A:Around}{E:Value->Shared->Prop}{s:Shared}
end
end STb
namespace L2
open PySem PySem.Spec PySem.W PyProof.Rows
noncomputable def zaO(o0 o1:Value)(d:Addr)(i n ep:Nat)(ok ov:Value):Obj:={ cls:=.type "dict_itemiterator",dict:=none,data:=.fields #[o0,o1,.ref d,.int i 0,.int n 0,.int ep 0,ok,ov],slots:=#[] }
noncomputable def ImAt(h:Heap)(it d S:Addr)(i n ep:Nat):Prop:=∃ o0 f ok ov,h.get? it=some (zaO o0 (.bool f) d i n ep ok ov)/\(o0=.none\/∃ a oa,o0=rawInt (a:Addr)/\a≠it/\a≠S/\h.get? a=some oa)
noncomputable def zaB(k v:Value):Obj:={ cls:=.type "tuple",data:=.seq #[k,v] }
section
variable{prog:Program}{w:World}{A:Around}{E:Value->Shared->Prop}{s:Shared}{es:Array DictEntry}{ep:Nat}{od:Obj}{it d S:Addr}{i:Nat}
theorem ImAt.keep(x:ImAt h it d S i n ep)(hk:∀ b o,b≠S->h.get? b=some o->h'.get? b=some o)(hI:it≠S):ImAt h' it d S i n ep:=by
 obtain⟨o0,f,ok,ov,e,z⟩:=x;refine⟨o0,f,ok,ov,hk _ _ hI e,?_⟩;rcases z with z | ⟨a,oa,z1,z2,z3,z4⟩
 ·exact .inl z
 ·exact .inr ⟨a,oa,z1,z2,z3,hk _ _ z3 z4⟩
theorem Qau{Q:Option Value->Shared->Prop}(hit:ImAt s.heap it d S i es.size ep)(ho:s.heap.get? d=some od)(hd:od.data=.dict es ep)(hS:S<s.heap.objs.size)(lt:i<es.size)
  (hQ:∀ h',ImAt h' it d S (i+1) es.size ep->h'.get? s.heap.objs.size=some (zaB es[i].key es[i].val)->h'.objs.size=s.heap.objs.size+1->(∀ b o,b≠it->s.heap.get? b=some o->h'.get? b=some o)->Q (some (.ref s.heap.objs.size)) { s with heap:=h' }) :
  wpAny (model prog w) A (pyNext (.ref it)) Q E s:=by
 obtain⟨o0,f,ok,ov,hit,own⟩:=hit;obtain⟨hp,g,dr,tk,os⟩:=s;have hT:Shared.TypeIs ⟨hp,g,dr,tk,os⟩ (.ref it) "dict_itemiterator":=⟨_,hit,rfl⟩;unfold pyNext;refine Za (wpAny_attempt (wpAny_callSpecial?_slot (name:=Str.ofString "__next__") hT slot_dict_itemiterator_next (ZP slot_dict_itemiterator_next hT PySem.F.entry_dict_itemiterator_next ?_ (PySem.F.args_dict_itemiterator_next_1 _))));refine Za (Zb (Za (Za ?_)))
 first | refine Za (wpAny_typeNameOfWhole_itemiter hT (Zb ?_)) | refine Za (wpAny_typeNameOf_itemiter hT (Zb ?_))
 refine Za (wpAny_fieldsOf hit rfl ?_);simp only[show Builtin.Dict_items.ownsTuple "dict_itemiterator" = true by decide,Yw]
 show wpAny _ _ (if (Value.ref d==Value.none)=true then _ else _) _ _ _
 rw[Zc (show ¬ ((Value.ref d==Value.none)=true) from Zs)];refine Za (Zb (Za (Yx ho hd ?_)));rw[Zc (by simp)]
 refine Za (Zb (Za (wpAny_dictEpoch ho hd ?_)));rw[Zc (by simp)]
 refine Zb ?_;simp only[show ¬ ((i:Int)<0) from by omega,Yd,Zx,Array.getElem?_eq_getElem lt]
 refine Za ?_
 first | refine Za (wpAny_typeNameOfWhole_itemiter hT (Zb ?_)) | refine Za (wpAny_typeNameOf_itemiter hT (Zb ?_))
 refine Za (wpAny_isOneOf_itemiter hT ?_);show wpAny _ _ (setField (.ref it) 3 (rawInt ((i:Int)+1)) >>= _) _ _ ⟨hp,g,dr,tk,os⟩;refine Za (wpAny_setField_rec hit (by simp) fun h1 e1 s1=>?_)
 replace s1:Heap.SameBut it hp h1:=s1
 replace e1:h1.get? it=some (zaO o0 (.bool f) d (i+1) es.size ep ok ov):=by
  have e:((i+1:Nat):Int)=(i:Int)+1:=by omega
  unfold zaO;rw[e];simpa[rawInt]using e1
 have hT1:Shared.TypeIs ⟨h1,g,dr,tk,os⟩ (.ref it) "dict_itemiterator":=⟨_,e1,rfl⟩;refine Za (ZW (Za (wpAny_isOneOf_itemiter hT1 (Za (wpAny_isOneOf_itemiter hT1 ?_)))));show wpAny _ _ (Builtin.Dict_items.pairFromOwner (.ref it) 6 es[i].key es[i].val) _ _ ⟨h1,g,dr,tk,os⟩;unfold Builtin.Dict_items.pairFromOwner;refine Za (wpAny_newTuple ?_);obtain⟨h2,eh2⟩:∃ h2,h2=h1.push (zaB es[i].key es[i].val):=⟨_,rfl⟩;have e2:h2.get? it=some (zaO o0 (.bool f) d (i+1) es.size ep ok ov):=by rw[eh2];exact Zf _ e1
 have z1:h1.objs.size=hp.objs.size:=s1.1;have t2:h2.get? hp.objs.size=some (zaB es[i].key es[i].val):=by rw[eh2,<- z1];exact Zu _ rfl
 have z2:h2.objs.size=hp.objs.size+1:=by rw[eh2,Heap.size_push,z1]
 have k2:∀ b o,b≠it->hp.get? b=some o->h2.get? b=some o:=fun b o hb e=>by rw[eh2];exact Zf _ (s1.extBut b o hb e)
 show wpAny _ _ (Builtin.Dict_items.ownedTupleIsFree (.ref it) >>= _) _ _ ⟨h1.push (zaB es[i].key es[i].val),g,dr,tk,os⟩;rw[<- eh2,z1];clear eh2 e1 s1 hT1 z1 h1;have il:it<hp.objs.size:=Zp hit;have fin:∀ (h3:Heap) (o0:Value) (f:Bool) (ok ov:Value),h3.get? it=some (zaO o0 (.bool f) d (i+1) es.size ep ok ov)->Heap.SameBut it h2 h3->(o0=.none\/∃ a oa,o0=rawInt (a:Addr)/\a≠it/\a≠S/\h2.get? a=some oa)->Q (some (.ref hp.objs.size)) ⟨h3,g,dr,tk,os⟩:=fun h3 o0 f ok ov e3 s3 ow =>
  hQ h3 ⟨o0,f,ok,ov,e3,ow.imp id fun⟨a,oa,q1,q2,q3,q4⟩=>⟨a,oa,q1,q2,q3,s3.extBut _ _ q2 q4⟩⟩ (s3.extBut _ _ (ne_of_gt il) t2) (by show h3.objs.size=_;rw[s3.1,z2]) fun b o hb e=>s3.extBut b o hb (k2 b o hb e)
 refine Za ?_;unfold Builtin.Dict_items.ownedTupleIsFree;rcases own with rfl | ⟨a,oa,rfl,a1,a2,a3⟩
 ·refine Za (wpAny_field e2 rfl (x:=.none) rfl (Zb ?_));simp only[Yw];refine Za (wpAny_field e2 rfl (x:=ok) rfl (Za (wpAny_field e2 rfl (x:=ov) rfl ?_)));refine Za (wpAny_setField_rec e2 (by simp) fun h3 e3 s3=>?_)
  replace s3:Heap.SameBut it h2 h3:=s3
  replace e3:h3.get? it=some (zaO .none (.bool f) d (i+1) es.size ep es[i].key ov):=e3
  refine Za (wpAny_setField_rec e3 (by simp) fun h4 e4 s4=>?_)
  replace s4:Heap.SameBut it h3 h4:=s4
  replace e4:h4.get? it=some (zaO .none (.bool f) d (i+1) es.size ep es[i].key es[i].val):=e4
  refine Za (wpAny_setField_rec e4 (by simp) fun h5 e5 s5=>?_)
  replace s5:Heap.SameBut it h4 h5:=s5
  replace e5:h5.get? it=some (zaO (rawInt hp.objs.size) (.bool f) d (i+1) es.size ep es[i].key es[i].val):=e5
  refine Za (wpAny_setField_rec e5 (by simp) fun h6 e6 s6=>?_)
  replace s6:Heap.SameBut it h5 h6:=s6
  refine Za (wpAny_letGo (Zb (Zb ⟨_,rfl,Zb ?_⟩)));refine fin h6 (rawInt hp.objs.size) false _ _ e6 (s3.trans (s4.trans (s5.trans s6))) (.inr ⟨hp.objs.size,_,rfl,ne_of_gt il,ne_of_gt hS,t2⟩)
 ·refine Za (wpAny_field e2 rfl (x:=rawInt a) rfl ?_);show wpAny _ _ (loadIfAlive ((a:Int).toNat) >>= _) _ _ _;rw[Zx];refine Za (kdx_alive (k2 a oa a1 a3) ?_);simp only[Option.isNone_some,ZK,Yd];refine Za (wpAny_field e2 rfl (x:=.bool f) rfl ?_);have ow:rawInt a=Value.none\/∃ a' oa,rawInt a=rawInt (a':Addr)/\a'≠it/\a'≠S/\h2.get? a'=some oa:=.inr ⟨a,oa,rfl,a1,a2,k2 a oa a1 a3⟩;cases f with
  | true =>
   rw[Zc (show ¬ ((Value.bool true != Value.bool true)=true) from Zs)];refine Zb ?_;simp only[ZK,Yd];exact Zb (Zb ⟨_,rfl,Zb (fin h2 _ true _ _ e2 (Heap.SameBut.refl _ _) ow)⟩)
  | false =>
   rw[Ze (show (Value.bool false != Value.bool true)=true from rfl)];refine Za (wpAny_setField_rec e2 (by simp) fun h3 e3 s3=>?_)
   refine Zb ?_;simp only[ZK,Yd];exact Zb (Zb ⟨_,rfl,Zb (fin h3 _ true _ _ e3 s3 ow)⟩)
theorem Qca{Q:Option Value->Shared->Prop}(hh:A.handled=none)(hit:ImAt s.heap it d S es.size es.size ep)(ho:s.heap.get? d=some od)(hd:od.data=.dict es ep)(hQ:∀ h',Heap.ExtBut it s.heap h'->Q none { s with heap:=h' }):wpAny (model prog w) A (pyNext (.ref it)) Q E s:=by
 obtain⟨o0,f,ok,ov,hit,own⟩:=hit;have hT:s.TypeIs (.ref it) "dict_itemiterator":=⟨_,hit,rfl⟩;unfold pyNext;refine Za (wpAny_attempt (wpAny_callSpecial?_slot (name:=Str.ofString "__next__") hT slot_dict_itemiterator_next (ZP slot_dict_itemiterator_next hT PySem.F.entry_dict_itemiterator_next ?_ (PySem.F.args_dict_itemiterator_next_1 _))));refine Za (Zb (Za (Za ?_)))
 first | refine Za (wpAny_typeNameOfWhole_itemiter hT (Zb ?_)) | refine Za (wpAny_typeNameOf_itemiter hT (Zb ?_))
 refine Za (wpAny_fieldsOf hit rfl ?_);simp only[show Builtin.Dict_items.ownsTuple "dict_itemiterator" = true by decide,Yw]
 show wpAny _ _ (if (Value.ref d==Value.none)=true then _ else _) _ _ s
 rw[Zc (show ¬ ((Value.ref d==Value.none)=true) from Zs)];refine Za (Zb (Za (Yx ho hd ?_)));rw[Zc (by simp)]
 refine Za (Zb (Za (wpAny_dictEpoch ho hd ?_)));rw[Zc (by simp)]
 refine Zb ?_;simp only[show ¬ ((es.size:Int)<0) from by omega,Yd,Zx,Array.getElem?_eq_none (Zo es.size)]
 refine Za ?_
 first | refine Za (wpAny_typeNameOfWhole_itemiter hT (Zb ?_)) | refine Za (wpAny_typeNameOf_itemiter hT (Zb ?_))
 show wpAny _ _ (setField (.ref it) 2 .none >>= _) _ _ s;refine Za (wpAny_setField hit rfl (by simp) ?_)
 show wpAny _ _ (newExc (.type "StopIteration") [] >>= _) _ _ _;refine Za ?_;simp only[newExc,newTuple];refine Za (ZV ?_ (by size_fits))
 refine Za (m:=firstArgMember _ _) (wpAny_of_eq (a:=Value.none) (by first | rfl | (simp only[firstArgMember];rfl)) ?_)
 refine ZV ?_ (by size_fits)
 simp only[raiseNew];refine Za (wpAny_handled ?_);rw[show A.in1.handled=none from hh];refine Za (Zb (wpAny_throw ?_));refine Za (wpAny_isInstance (T:="StopIteration") (b:=true) ⟨_,Zu _ rfl,rfl⟩ isSubtype_stop ?_);exact Zb (hQ _ (((Yv ..).extBut.push _).push _))
structure ImG(es:Array DictEntry)(lo:Addr)(h:Heap)(as:List Addr):Prop where
 rise:as.Pairwise (· < ·)
 above:∀ a∈as,lo<a
 pairs:∀ (j:Nat) (a:Addr),as[j]? = some a->∃ hj:j<es.size,h.get? a=some (zaB es[j].key es[j].val)
theorem ImG.keep{h h':Heap}{lo:Addr}{as:List Addr}(g:ImG es lo h as)(k:∀ b o,lo<b->h.get? b=some o->h'.get? b=some o):ImG es lo h' as :=
 ⟨g.rise,g.above,fun j a hj=>let ⟨e1,e2⟩:=g.pairs j a hj;⟨e1,k a _ (g.above a (ZG hj)) e2⟩⟩
theorem Qav{R:Result->Shared->Prop}(hh:A.handled=none)(hSI:S<it)(hSd:d≠S)(hId:d≠it)(hn:es.size<=sizeLine)(hd:od.data=.dict es ep)(res:Value){h1:Heap}
  (hR:∀ h' tk acc c as,(∀ b o,b≠S->b≠it->h1.get? b=some o->h'.get? b=some o)->h'.get? S=some { cls:=.type "list",dict:=none,data:=.seq acc c,slots:=#[] }->as.length=es.size->ImG es it h' as->acc.toList=as.map Value.ref->R (.ok (.ret res)) { s with heap:=h',toks:=tk }) :
  ∀ (k i:Nat) (h:Heap) (tk c:Nat) (acc:Array Value) (as:List Addr),es.size-i=k->i<=es.size->ImAt h it d S i es.size ep->h.get? d=some od->(∀ b o,b≠S->b≠it->h1.get? b=some o->h.get? b=some o) ->
   h.get? S=some { cls:=.type "list",dict:=none,data:=.seq acc c,slots:=#[] }->acc.toList=as.map Value.ref->as.length=i->ImG es it h as->it<h.objs.size->(∀ a∈as,a<h.objs.size) ->
   codeAny (model prog w) A (.builtin "list.extend.loop" ⟨[.ref S,.ref it,res],[]⟩) R { s with heap:=h,toks:=tk }:=by
 have hne:S≠it:=ZJ hSI;intro k
 induction k with
 | zero =>
  intro i h tk c acc as hk hi hst ho hkeep hS hacc hal hG hIs _;have hin:i=es.size:=by omega
  subst hin;refine codeAny_builtin PySem.F.entry_extend_loop ?_;rw[Around.under_plainId plain_extend_loop _];show wpAny _ A.in1 (pyNext (.ref it) >>= _) _ _ _;refine Za (Qca (s:={ s with heap:=h,toks:=tk }) (A:=A.in1) hh hst ho hd fun h' he=>Zb ?_);exact hR h' tk acc c as (fun b o h1 h2 e=>he b o h2 (hkeep b o h1 h2 e)) (he S _ hne hS) hal (hG.keep fun b o lt e=>he b o (ne_of_gt lt) e) hacc
 | succ k ih =>
  intro i h tk c acc as hk hi hst ho hkeep hS hacc hal hG hIs hlt;have lt:i<es.size:=by omega
  have hsz:acc.size=i:=by rw[<- ZE,hacc,Zd,hal]
  have hSl:S<h.objs.size:=Zp hS;refine codeAny_builtin PySem.F.entry_extend_loop ?_;rw[Around.under_plainId plain_extend_loop _];show wpAny _ A.in1 (pyNext (.ref it) >>= _) _ _ _;refine Za (Qau (s:={ s with heap:=h,toks:=tk }) hst ho hd hSl lt fun h' hst' ht hz hkp=>?_);dsimp only at ht hz hkp ⊢;have hS':=hkp S _ hne hS;have up:∀ b o,b≠S->h'.get? b=some o->(h'.update S (Obj.mapSeq (·.push (Value.ref h.objs.size)))).get? b=some o:=fun b o hb e=>(Heap.get?_update_other _ _ (Ne.symm hb)).trans e;show wpAny _ A.in1 (updateSeq S (·.push (Value.ref h.objs.size)) >>= _) _ _ _;refine Za ?_;refine wpAny_updateSeq hS' rfl (Zb ⟨plainId_quiet plain_extend_loop _,ih (i+1) _ tk _ (acc.push (Value.ref h.objs.size)) (as++[h.objs.size]) (by omega) lt (hst'.keep up (Ne.symm hne)) (up d _ hSd (hkp d _ hId ho))
   (fun b o h1 h2 e=>up b o h1 (hkp b o h2 (hkeep b o h1 h2 e))) (Heap.get?_update_self _ hS' rfl) (by rw[Array.toList_push,hacc,Z7];rfl) (by rw[Zi,hal];rfl) ⟨?_,?_,?_⟩ ?_ ?_⟩) (by rw[hsz];omega) (by show (acc.push (Value.ref h.objs.size)).size<=sizeLine+1;rw[Array.size_push,hsz];omega)
  ·exact List.pairwise_append.mpr ⟨hG.rise,List.pairwise_singleton _ _,fun a ha b hb=>by rw[Zz.mp hb];exact hlt a ha⟩
  ·intro a ha;rcases ZO.mp ha with ha | ha
   ·exact hG.above a ha
   ·rw[Zz.mp ha];exact hIs
  ·intro j b hj;rcases lt_or_ge j as.length with q | q
   ·rw[getElem?_append_left q]at hj;obtain⟨e1,e2⟩:=hG.pairs j b hj;have hb:=hG.above b (ZG hj);exact⟨e1,up b _ (ne_of_gt (lt_trans hSI hb)) (hkp b _ (ne_of_gt hb) e2)⟩
   ·rw[Ym q]at hj;have ej:j=i:=by
     have:=(Zk.mp hj).1;rw[ZH]at this;omega
    subst ej;rw[hal,sub_self]at hj;injection hj with hj;rw[<- hj];exact⟨lt,up _ _ (ne_of_gt hSl) ht⟩
  ·have e:(h'.update S (Obj.mapSeq (·.push (Value.ref h.objs.size)))).get? h.objs.size=_:=up _ _ (ne_of_gt hSl) ht;exact lt_trans hIs (Zp e)
  ·have e:(h'.update S (Obj.mapSeq (·.push (Value.ref h.objs.size)))).get? h.objs.size=_:=up _ _ (ne_of_gt hSl) ht;intro a ha;rcases ZO.mp ha with ha | ha
   ·exact lt_trans (hlt a ha) (Zp e)
   ·rw[Zz.mp ha];exact Zp e
theorem Qaw{Q:Value->Shared->Prop}(hv:s.heap.IsItemsView v d)(ho:s.heap.get? d=some od)(hd:od.data=.dict es ep)(h:Q (.ref s.heap.objs.size) { s with heap:=s.heap.push (zaO .none (.bool false) d 0 es.size ep .none .none) }):wpAny (model prog w) A (pyIter (.ref v)) Q E s:=by
 obtain⟨ov,hov,hcv,hdv⟩:=id hv;refine wpAny_pyIter_slot hv.typeIs PySem.F.slot_dict_items_iter (ZP PySem.F.slot_dict_items_iter hv.typeIs PySem.F.entry_dict_items_iter ?_ (PySem.F.args_dict_items_iter_1 _));unfold Builtin.«dict_items.__iter__» Builtin.Dict_items.dictOf Builtin.Dict_items.newIterator;refine Za (Zb ?_);refine Za (Za (wpAny_field hov hdv (x:=.ref d) rfl (Zb ?_)));refine Za (Za (Yx ho hd ?_));refine Za (wpAny_dictEpoch ho hd ?_);simp only[show Builtin.Dict_items.ownsTuple "dict_itemiterator" = true by decide,Yw]
 refine ZV (Zb ⟨_,rfl,"dict_itemiterator",_,⟨_,Zu _ rfl,rfl⟩,slot_dict_itemiterator_next.lookup,?_⟩) (by simp only[sizeOk,Builtin.Dict_items.ownedTupleFields,Z2,Zi,Zj,ZU,ZL];omega)
 simpa[zaO,rawInt,Builtin.Dict_items.ownedTupleFields]using h
theorem Qax{r:Addr}{Q:Value->Shared->Prop}(hh:A.handled=none)(hv:s.heap.IsItemsView r d)(ho:s.heap.get? d=some od)(hd:od.data=.dict es ep)(hn:es.size<=sizeLine)
  (hQ:∀ h' tk acc c as,(∀ b o,s.heap.get? b=some o->h'.get? b=some o)->h'.get? s.heap.objs.size=some { cls:=.type "list",dict:=none,data:=.seq acc c,slots:=#[] }->as.length=es.size->ImG es s.heap.objs.size h' as->acc.toList=as.map Value.ref->Q (.ref s.heap.objs.size) { s with heap:=h',toks:=tk }) :
  wpAny (model prog w) A (call (.type "list") [.ref r]) Q E s:=by
 refine callType_codes (Q₁:=fun obj s₁=>obj=.ref s.heap.objs.size/\s₁={ s with heap:=s.heap.push { cls:=.type "list",data:=.seq #[] } }) PySem.F.called_list (PySem.F.typeCall_list_1 _) PySem.F.entry_list_init (code_list_new _ ⟨rfl,rfl⟩) fun obj s₁ h₁=>?_;obtain⟨rfl,rfl⟩:=h₁;have hr:r<s.heap.objs.size:=let ⟨_,ho,_⟩:=hv;Zp ho;have hds:d<s.heap.objs.size:=Zp ho;generalize eS:s.heap.objs.size=S at *;have hS:(s.heap.push { cls:=.type "list",data:=.seq #[] }).get? S=some { cls:=.type "list",data:=.seq #[] }:=by rw[<- eS];exact Zu _ rfl
 have k0:∀ b o,s.heap.get? b=some o->(s.heap.push { cls:=.type "list",data:=.seq #[] }).get? b=some o:=fun b o e=>Zf _ e;have ns:∀ b o,s.heap.get? b=some o->b≠S:=fun b o e=>by rw[<- eS];exact ZJ (Zp e)
 generalize s.heap.push { cls:=.type "list",data:=.seq #[] }=h1 at hS k0;refine⟨⟨_,hS,rfl⟩,PySem.F.args_list_init_2 _ _,?_⟩;show wpAny _ _ (do let old <- Builtin.List.listItems (.ref S);Builtin.List.listUpdate (.ref S) (fun _=>#[]);letGo old.toList.reverse;Builtin.List.listExtendWith (.ref S) (.ref r) .none) _ _ _
 refine Za ?_;unfold Builtin.List.listItems;refine Za (wpAny_seqItems hS rfl (Zb ?_));show wpAny _ _ (updateSeq S (fun _=>#[]) >>= fun _=>letGo (#[]:Array Value).toList.reverse >>= fun _=>Builtin.List.listExtendWith (.ref S) (.ref r) .none) _ _ _;refine Za (wpAny_updateSeq hS rfl ?_);have hS2:=Heap.get?_update_self (Obj.mapSeq (fun _=>(#[]:Array Value))) hS rfl;have k2:∀ b o,s.heap.get? b=some o->(h1.update S (Obj.mapSeq (fun _=>(#[]:Array Value)))).get? b=some o:=fun b o e=>(Heap.get?_update_other _ _ (ns b o e).symm).trans (k0 b o e);generalize h1.update S (Obj.mapSeq (fun _=>(#[]:Array Value)))=h2 at hS2 k2;refine Za (wpAny_letGo ?_);unfold Builtin.List.listExtendWith;have hv2:h2.IsItemsView r d:=let ⟨o,e,x⟩:=hv;⟨o,k2 _ _ e,x⟩;refine Za (wpAny_typeOf (T:="dict_items") hv2.typeIs ?_);have n1:Builtin.List.listSameRef (.ref S) (.ref r)=false:=by simp[Builtin.List.listSameRef,ne_of_gt hr]
 simp only[n1,show (Value.type "dict_items" == Value.type "list")=false by decide,show (Value.type "dict_items" == Value.type "tuple")=false by decide,Bool.or_false,ZK,Yd]
 refine Za (Qaw (s:={ s with heap:=h2,toks:=_ }) hv2 (k2 _ _ ho) hd ?_);have lS2:S<h2.objs.size:=Zp hS2;have hS3:=Zf (zaO .none (.bool false) d 0 es.size ep .none .none) hS2;have key:∀ (h:Heap) (c₁ tk:Nat),(∀ b o,b≠S->(h2.push (zaO .none (.bool false) d 0 es.size ep .none .none)).get? b=some o->h.get? b=some o)->h.get? S=some { cls:=.type "list",data:=.seq #[] c₁ }->codeAny (model prog w) A.in1 (.builtin "list.extend.loop" ⟨[.ref S,.ref h2.objs.size,.none],[]⟩) (wants (fun r s₂=>r=Value.none/\Q (Value.ref S) s₂) E) { s with heap:=h,toks:=tk }:=by
  intro h c₁ tk hk hS₁;have hI:=hk h2.objs.size _ (ne_of_gt lS2) (Zu _ rfl);refine Qav (od:=od) (es:=es) (ep:=ep) (s:=s) (h1:=s.heap) (A:=A.in1) hh lS2 (ns d _ ho) (ZJ (Zp (k2 _ _ ho))) hn hd .none ?_ es.size 0 h tk c₁ #[] [] (sub_zero _) (ZB _) ⟨.none,false,.none,.none,hI,.inl rfl⟩ (hk d _ (ns d _ ho) (Zf _ (k2 _ _ ho))) (fun b o hb _ e=>hk b o hb (Zf _ (k2 b o e))) hS₁ rfl rfl
   ⟨List.Pairwise.nil,(fun _ ha=>nomatch ha),(fun j a hj=>by simp at hj)⟩ (Zp hI) (fun _ ha=>nomatch ha)
  intro h' tk' acc c as hk' hS' hl hG hacc;refine⟨rfl,hQ h' tk' acc c as (fun b o e=>hk' b o (ns b o e) (ZJ (Zp (k2 b o e))) e) hS' hl ⟨hG.rise,fun a ha=>lt_trans lS2 (hG.above a ha),hG.pairs⟩ hacc⟩
 refine Za (ZW (kdx_hint (let ⟨o,ho,hc,_⟩:=hv2;⟨o,Zf _ ho,hc⟩) ?_));refine wpAny_ite_split (fun _=>?_) (fun _=>Zb ⟨plainId_quiet plain_extend_loop _,key _ _ _ (fun b o _ e=>e) hS3⟩);refine Za (wpAny_rule (Za ?_));show wpAny _ _ (updateSeq S (·.push .none) >>= fun _=>updateSeq S (·.pop)) _ _ _;refine Za (wpAny_updateSeq hS3 rfl ?_);have hS4:=Heap.get?_update_self (Obj.mapSeq (·.push Value.none)) hS3 rfl;refine wpAny_updateSeq (hz:=by seq_fits) hS4 rfl ?_
 have hS5:=Heap.get?_update_self (Obj.mapSeq (·.pop)) hS4 rfl;exact Zb ⟨plainId_quiet plain_extend_loop _,key _ _ _ (fun b o hb e=>(Heap.get?_update_other _ _ (Ne.symm hb)).trans ((Heap.get?_update_other _ _ (Ne.symm hb)).trans e)) hS5⟩
end
section
variable{X:Cx}{pins:List (Addr×Obj)}{σ:St}{s:Shared}
theorem FpOk.upd(f:FpOk X pins H a)(n:a≠b):FpOk X pins (upd H b o) a:=⟨by rw[Q0d n];exact f.1,f.2⟩
theorem Q2e:∀ (as:List Addr) (ps:List (V×V)) {H:Hp},Inv X pins σ H s->as.length=ps.length->as.Nodup->(∀ a∈as,FpOk X pins H a/\X.s₀.heap.objs.size<=a)->(∀ (j:Nat) (a:Addr) (p:V×V),as[j]? = some a->ps[j]? = some p->∃ k v,RelV p.1 k/\RelV p.2 v/\s.heap.get? a=some (zaB k v)) ->
  ∃ H',Inv X pins σ H' s/\(∀ b,b∉as->H' b=H b)/\∀ (j:Nat) (a:Addr) (p:V×V),as[j]? = some a->ps[j]? = some p->H' a=some (.tup [p.1,p.2])
 | [],_,H,I,_,_,_,_=>⟨H,I,fun _ _=>rfl,fun j a p h=>by simp at h⟩
 | a::as,[],H,I,h,_,_,_=>by cases h
 | a::as,p::ps,H,I,hl,nd,f,hp=>by
  obtain⟨k,v,r1,r2,ha⟩:=hp 0 a p rfl rfl;have I1:=I.adopt (o:=.tup [p.1,p.2]) (f a Zl).1 (f a Zl).2 ⟨by show (2:Nat)<=sizeLine;rw[ZL];omega,[k,v],.cons r1 (.cons r2 .nil),_,ha,rfl,0,rfl⟩
  obtain⟨na,nd'⟩:=nodup_cons.mp nd;obtain⟨H',I',e1,e2⟩:=Q2e as ps I1 (Nat.succ.inj hl) nd' (fun b hb=>⟨(f b (Zq _ hb)).1.upd fun z=>na (by rw[<- z];exact hb),(f b (Zq _ hb)).2⟩) fun j b q h1 h2=>hp (j+1) b q h1 h2
  refine⟨H',I',fun b hb=>?_,fun j b q h1 h2=>?_⟩
  ·rw[e1 b fun z=>hb (Zq _ z),Q0d fun z=>hb (by rw[z];exact Zl)]
  ·cases j with
   | zero =>
    cases h1;cases h2;rw[e1 _ na,Q0e]
   | succ j=>exact e2 j b q h1 h2
end
end L2
namespace STb
open PySem PySem.Spec PySem.W PyProof.Rows
section
variable{prog:Program}{w:World}{A:Around}{E:Value->Shared->Prop}{s:Shared}
noncomputable def Np(prog:Program)(w:World)(h:Heap)(v:Value)(k:List Str):Prop:=∃ b o u x n,v=.ref b/\h.get? b=some o/\o.cls=.type "tuple" /\ o.data=.seq #[u,x] n/\Nm prog w h u k/\∃ q t,x=.str q t
structure Nps(prog:Program)(w:World)(h:Heap)(vs:List Value)(zs:List (List Str)):Prop where
 len:vs.length=zs.length
 at':∀ i,i<vs.length->Np prog w h (vs.getD i .none) (zs.getD i [])
theorem Np.keep(x:Np prog w h v k)(kp:∀ b o,o.cls=.type "tuple" -> h.get? b=some o->h'.get? b=some o):Np prog w h' v k:=by
 obtain⟨b,o,u,y,n,e,e1,e2,e3,⟨c,ec,o',it,m,g1,g2,g3⟩,q⟩:=x;exact⟨b,o,u,y,n,e,kp b o e2 e1,e2,e3,⟨c,ec,o',it,m,kp c o' g2 g1,g2,g3⟩,q⟩
theorem Q6L{κ:SortKind}(hκ:κ=tuples' false)(hu:A.units<cLine){Q:Bool->Shared->Prop}(hx:Np prog w s.heap u x)(hy:Np prog w s.heap v y)(ne:x≠y)(h:Q (ltN x y) s):wpAny (model prog w) A (keyLt' κ u v) Q E s:=by
 obtain⟨a,oa,ua,xa,na,rfl,a1,a2,a3,⟨c,rfl,kc⟩,qa,ta,rfl⟩:=hx;obtain⟨b,ob,ub,xb,nb,rfl,b1,b2,b3,⟨d,rfl,kd'⟩,qb,tb,rfl⟩:=hy;subst hκ;refine kat_lt a1 a3 b1 b3 ?_;show KatLex prog w A false _ Q [(Value.ref c,Value.ref d),(.str qa ta,.str qb tb)] 0 s;refine kat_cons (wpAny_eqBool_tuple hu kc kd' ?_);rw[Zr ne];refine kat_no ?_;show wpAny _ _ (oneLt' false (.ref c) (.ref d)) _ _ _;exact kat_one _ _ (show wpAny _ _ (richCompare .Lt (.ref c) (.ref d)) _ _ s from wpAny_richCompare_same_room kc.typeIs kd'.typeIs F.slot_tuple_lt (Qc9 kc kd' ⟨fun z=>(nomatch z),h⟩) hu)
noncomputable def Rise(zs:List (List Str))(n:Nat):Prop:=∀ i,0<i->i<n->zs.getD i []≠zs.getD (i-1) []/\ltN (zs.getD i []) (zs.getD (i-1) [])=false
theorem Q9K{cmp:Nat->Nat->(Bool->Shared->Prop)->Shared->Prop}(ask:∀ i C,0<i->i<n->C false s->cmp i (i-1) C s)(hp:∀ i,i<n->p.getD i 0=i):∀ (f k:Nat) {Q:Nat->Shared->Prop},1<=k->k+f=n->Q n s->(kas_asc p f k).kasWp cmp Q s
 | 0,k,Q,_,e,h=>by
  have:k=n:=e;subst this;exact h
 | f+1,k,Q,h1,e,h=>by
  show cmp (p.getD k 0) (p.getD (k-1) 0) _ s;rw[hp k (by omega),hp (k-1) (by omega)]
  refine ask k _ h1 (by omega) ?_
  dsimp only;rw[Zc Zs];exact Q9K ask hp f (k+1) (by omega) (by omega) h
theorem Qay{cmp:Nat->Nat->(Bool->Shared->Prop)->Shared->Prop}(ask:∀ i C,0<i->i<n->C false s->cmp i (i-1) C s)(h1:1<=n){G:Array Nat->Shared->Prop}(h:G (List.range n).toArray s):(kas_sort n).kasWp cmp G s:=by
 unfold kas_sort;rw[KasT.kasWp_bind];unfold kas_count;rw[KasT.kasWp_bind];refine Q9K ask (fun i hi=>by simp[hi]) (n-1) 1 (Zo _) (by omega) ?_
 rw[Ze (Z0.mpr rfl)];show KasT.kasWp cmp (if n<n then _ else _) G s
 rw[Zc (lt_irrefl _)];exact h
theorem Q1J:∀ (vs:List Value) {Q:List (Option Value)->Shared->Prop},(∀ v∈vs,∃ k,Np prog w s.heap v k)->(∀ rs:List (Option Value),rs.length=vs.length->(∀ r∈rs,∃ x k,r=some x/\Nm prog w s.heap x k)->Q rs s)->wpAny (model prog w) A (vs.mapM firstOfTuple') Q E s
 | [],Q,_,h=>by rw[List.mapM_nil];exact Zb (h [] rfl fun _ z=>nomatch z)
 | v::vs,Q,hv,h=>by
  rw[List.mapM_cons];obtain⟨k,b,o,u,x,n,rfl,h1,h2,h3,h4,_⟩:=hv v Zl;refine Za ?_;rw[kas_first_eq];refine Za (Looks.here (show Looks _ s.heap (typeOf (.ref b)) o.cls from (Looks.ld h1).andThen .now) ?_);rw[h2,Zc (by first | decide | simp)]
  refine Za (listItems_at h1 h3 (Zb ?_));refine Za (Q1J vs (fun u hu=>hv u (Zq _ hu)) fun rs l a=>Zb (h _ (by rw[Zj,l,Zj]) fun y hy=>?_))
  rcases Z3.mp hy with e | e
  ·exact⟨u,k,by rw[e];rfl,h4⟩
  ·exact a y e
theorem Q5T{vs:List Value}{Q:SortKind->Shared->Prop}(h1:0<vs.length)(hv:∀ v∈vs,∃ k,Np prog w s.heap v k)(h:∀ κ,κ=tuples' false->Q κ s):wpAny (model prog w) A (keyKind' vs.toArray) Q E s:=by
 rw[kat_kind_eq,List.mapM_toArray,map_eq_pure_bind];refine Za (Za (Q1J vs hv fun rs rl ra=>Zb ?_));have c:(rs.toArray.all fun x=>x.isSome)=true:=by
  rw[List.all_toArray,ZM];intro r hr;obtain⟨x,k,e,_⟩:=ra r hr;rw[e];rfl
 rw[Ze c];refine Za (wpAny_rule ?_);have fm:(rs.toArray.filterMap id)=(rs.filterMap id).toArray:=by simp
 rw[fm,oneTypeOnly'_eq,List.mapM_toArray,map_eq_pure_bind];refine Za (Za (Za (kas_mapM (r:=Value.type "tuple") _ (fun v hv' Q' hq=>?_) (Zb ?_))))
 ·obtain⟨r,hr,e⟩:=mem_filterMap.mp hv';obtain⟨x,k,e2,b,rfl,kk⟩:=ra r hr;rw[e2]at e;cases e;exact wpAny_typeOf kk.typeIs hq
 ·have ne:rs.filterMap id≠[]:=fun z=>by
   cases rs with
   | nil=>rw[ZU]at rl;omega
   | cons r rs =>
    obtain⟨x,k,e,_⟩:=ra r Zl;rw[e]at z;cases z
  generalize rs.filterMap id=l at ne;cases l with
  | nil=>exact absurd rfl ne
  | cons y l =>
   have a2:((List.map (fun _=>Value.type "tuple") (y::l)).toArray.all fun x=>x==Value.type "tuple")=true:=by
    simp only[List.all_toArray,List.all_map,ZM];intro _ _;rfl
   rw[show (List.map (fun _=>Value.type "tuple") (y::l)).toArray[0]? = some (Value.type "tuple") by simp]
   simp only[a2,Yw];exact Zb (Zb (h _ rfl))
theorem sort_pairs{ls:Addr}{vs:List Value}{zs:List (List Str)}{n:Nat}{G:PySem.Fin->Shared->Prop}(hu:A.units<cLine)(ho:s.heap.get? ls=some (seqObj "list" vs.toArray n))(N:Nps prog w s.heap vs zs)(up:Rise zs vs.length)(h64:vs.length<64)
  (h:∀ (h':Heap) (c:Nat),h'.get? ls=some (seqObj "list" vs.toArray c)->(∀ b o,b≠ls->s.heap.get? b=some o->h'.get? b=some o)->G (.done (.ret .none)) { s with heap:=h' }):wpAny (model prog w) A (Builtin.«list.sort» ⟨[.ref ls],[]⟩) G E s:=by
 have b1:=Yv s.heap ls (Obj.mapSeq fun _=>(#[]:Array Value));have q1:=get?_update_seq ho fun _=>(#[]:Array Value);have z:vs.toArray.size<=sizeLine:=by rw[Z2,ZL];omega
 rw[list_sort_plain];refine Za (listItems_at ho rfl (Za (listUpdate_at ho rfl (Za (seqEpoch_at q1 rfl (Za (wpAny_newTuple (Za (wpAny_newList (ZW ?_) (ZB _))) (by simpa using z))))) z (ZB _))))
 have kp:∀ b o,b≠ls->s.heap.get? b=some o->(((s.heap.update ls (Obj.mapSeq fun _=>(#[]:Array Value))).push (seqObj "tuple" vs.toArray 0)).push (seqObj "list" #[] 0)).get? b=some o:=fun b o hb e=>Zf _ (Zf _ ((b1.2 b hb).trans e));have q2:(((s.heap.update ls (Obj.mapSeq fun _=>(#[]:Array Value))).push (seqObj "tuple" vs.toArray 0)).push (seqObj "list" #[] 0)).get? ls=_:=Zf _ (Zf _ q1);show wpAny (model prog w) A _ G E { s with heap:=((s.heap.update ls (Obj.mapSeq fun _=>(#[]:Array Value))).push (seqObj "tuple" vs.toArray 0)).push (seqObj "list" #[] 0) };generalize ((s.heap.update ls (Obj.mapSeq fun _=>(#[]:Array Value))).push (seqObj "tuple" vs.toArray 0)).push (seqObj "list" #[] 0)=h1 at kp q2;have nm1:Nps prog w h1 vs zs:=⟨N.len,fun i hi=>(N.at' i hi).keep fun b o hc e=>kp b o (fun eb=>by
  rw[eb,ho]at e;cases e;exact absurd (show Value.type "list" = Value.type "tuple" from hc) (by simp)) e⟩
 have szz:(vs.toArray.zip vs.toArray).size=vs.length:=by simp
 have uz:vs.toArray.size<=sizeLine:=z;have er:(List.range vs.length).map (fun i=>vs.getD i Value.none)=vs:=by
  refine List.ext_getElem (by rw[Zd,ZD]) fun i h1 h2=>?_
  rw[List.getElem_map,List.getElem_range];simp[h2]
 have oth:∀ (f:Array Value->Array Value) b o,b≠ls->s.heap.get? b=some o->(h1.update ls (Obj.mapSeq f)).get? b=some o:=fun f b o hb e=>((Yv h1 ls (Obj.mapSeq f)).2 b hb).trans (kp b o hb e);by_cases c:vs.length<2
 ·have c':vs.toArray.size<2:=by rw[Z2];exact c
  rw[Ze c',Ze c'];refine Za (Zb ?_);dsimp only;rw[StateT.run_pure];refine Za (Zb ?_);dsimp only;refine Za (seqEpoch_at q2 rfl ?_);have hout:=kat_snds (ks:=vs) (vs:=vs) rfl (st:=SortSt.mk' general' (vs.toArray.zip vs.toArray) #[] 7 none) (p:=(List.range vs.length).toArray) (by
   have e:=kas_range (vs.toArray.zip vs.toArray);rw[szz]at e;exact e.symm)
  rw[hout,List.toList_toArray,er];refine Za (listUpdate_at q2 rfl ?_ (ZB _) (ZF uz));simp only[bne_self_eq_false,ZK,Yd];exact Zb (h _ _ (get?_update_seq q2 _) (oth _))
 ·have c':¬ vs.toArray.size<2:=by rw[Z2];exact c
  rw[Zc c',Zc c'];have hv:∀ v∈vs,∃ k,Np prog w h1 v k:=fun v hm=>by
   obtain⟨i,hi,e⟩:=List.mem_iff_getElem.mp hm;have:=nm1.at' i hi;rw[show vs.getD i Value.none=v by simp[hi,e]]at this
   exact⟨_,this⟩
  refine Za (Q5T (s:={ s with heap:=h1 }) (by omega) hv fun κ hκ=>?_)
  refine Za (Yt (kat_run (s:={ s with heap:=h1 }) (Q:=fun st' s'=>s'={ s with heap:=h1 }/\arrOf st'=((List.range vs.length).toArray).map (kas_item (vs.toArray.zip vs.toArray))/\failedOf st'=none) (G:=fun p s'=>s'={ s with heap:=h1 }/\p=(List.range vs.length).toArray) (ks:=vs) (vs:=vs) rfl (by omega) h64 (fun p' st' s' a1 a2 a3 a4=>⟨a4.1,by rw[<- a4.2];exact a2,a3⟩)
   (Qay (s:={ s with heap:=h1 }) (fun i C h0 hi hC=>Q6L hκ hu (nm1.at' i hi) (nm1.at' (i-1) (by omega)) (up i h0 hi).1 (by rw[(up i h0 hi).2];exact hC)) (by omega) ⟨rfl,rfl⟩)) ?_ fun _ _ e=>e)
  rintro⟨⟨⟩,st'⟩ s' ⟨rfl,har,hf⟩;dsimp only;have hout:=kat_snds (ks:=vs) (vs:=vs) rfl har;refine Za (seqEpoch_at q2 rfl ?_);rw[hout,List.toList_toArray,er];refine Za (listUpdate_at q2 rfl ?_ (ZB _) (ZF uz));rw[hf];simp only[bne_self_eq_false,ZK,Yd];exact Zb (h _ _ (get?_update_seq q2 _) (oth _))
end
end STb
namespace DL
open PySem PySem.Spec L2
open PyProof.Rows hiding St
noncomputable def S(x:List Nat):Str:=⟨x.toArray⟩
inductive D where
 | non | bl (b:Bool) | int (i:Int) | str (x:List Nat) | tup (xs:List D) | lst (xs:List D) | ref (a:Addr)
noncomputable def FzL(K:Frag)(H:Hp)(a:Addr)(xs:List V):Prop :=
 (∃ o,H a=some (.frz o (.lst xs))) \/
  ∃ (o:Obj) (its:Array Value) (n:Nat),K.lookup a=some o/\o.cls=.type "list" /\ o.dict=none/\o.data=.seq its n/\its.size<=sizeLine/\Vals xs its.toList
theorem FzL.sq{K:Frag}{H:Hp}{a:Addr}{xs:List V}(h:FzL K H a xs):SqL K H a xs:=by
 rcases h with ⟨o,h⟩ | h
 ·exact .inl (.inr ⟨o,h⟩)
 ·exact .inr h
mutual
inductive Den(K:Frag)(H:Hp):D->V->Prop
 | non:Den K H .non .non
 | bl (b:Bool):Den K H (.bl b) (.bl b)
 | int (i:Int):Den K H (.int i) (.int i)
 | str (x:List Nat) (h:(x.all fun c=>decide (c<1114112))=true):Den K H (.str x) (.str (S x))
 | ref (a:Addr):Den K H (.ref a) (.ref a)
 | tup {a:Addr} {ds:List D} {vs:List V}:H a=some (.tup vs)->Dens K H ds vs->Den K H (.tup ds) (.ref a)
 | lst {a:Addr} {ds:List D} {vs:List V}:FzL K H a vs->Dens K H ds vs->Den K H (.lst ds) (.ref a)
inductive Dens(K:Frag)(H:Hp):List D->List V->Prop
 | nil:Dens K H [] []
 | cons {d:D} {v:V} {ds:List D} {vs:List V}:Den K H d v->Dens K H ds vs->Dens K H (d::ds) (v::vs)
end
structure Ext(H H':Hp):Prop where
 tup:∀ b xs,H b=some (.tup xs)->H' b=some (.tup xs)
 frz:∀ b o u,H b=some (.frz o u)->H' b=some (.frz o u)
theorem Ext.refl(H:Hp):Ext H H:=⟨fun _ _ e=>e,fun _ _ _ e=>e⟩
theorem Ext.trans(a:Ext H H1)(b:Ext H1 H2):Ext H H2:=⟨fun c xs e=>b.tup c xs (a.tup c xs e),fun c o u e=>b.frz c o u (a.frz c o u e)⟩
theorem Ext.new(h:H p=none):Ext H (upd H p o) :=
 ⟨fun b xs e=>by rw[Q0d (Q0j e h)];exact e,fun b o u e=>by rw[Q0d (Q0j e h)];exact e⟩
theorem Ext.mut(h:H p=some u)(h1:∀ xs,u≠.tup xs)(h2:∀ ob v,u≠.frz ob v):Ext H (upd H p o) :=
 ⟨fun b ys e=>by rw[Q0d fun w=>by rw[w,h]at e;cases e;exact h1 _ rfl];exact e,fun b ob y e=>by rw[Q0d fun w=>by rw[w,h]at e;cases e;exact h2 _ _ rfl];exact e⟩
theorem Ext.lst(h:H p=some (.lst xs)):Ext H (upd H p o) :=
 ⟨fun b ys e=>by rw[Q0d fun w=>by rw[w,h]at e;cases e];exact e,fun b u y e=>by rw[Q0d fun w=>by rw[w,h]at e;cases e];exact e⟩
section
variable{K:Frag}{H H':Hp}
theorem SqT.ext(x:Ext H H')(h:SqT K H a xs):SqT K H' a xs:=by
 rcases h with (h | ⟨o,h⟩) | h
 ·exact .inl (.inl (x.tup _ _ h))
 ·exact .inl (.inr ⟨o,x.frz _ _ _ h⟩)
 ·exact .inr h
theorem FzL.ext(x:Ext H H')(h:FzL K H a xs):FzL K H' a xs:=by
 rcases h with ⟨o,h⟩ | h
 ·exact .inl ⟨o,x.frz _ _ _ h⟩
 ·exact .inr h
mutual
theorem Den.ext(x:Ext H H'):∀ {d:D} {v:V},Den K H d v->Den K H' d v
 | _,_,.non=>.non
 | _,_,.bl b=>.bl b
 | _,_,.int i=>.int i
 | _,_,.str s h=>.str s h
 | _,_,.ref a=>.ref a
 | _,_,.tup h t=>.tup (x.tup _ _ h) (Dens.ext x t)
 | _,_,.lst h t=>.lst (FzL.ext x h) (Dens.ext x t)
theorem Dens.ext(x:Ext H H'):∀ {ds:List D} {vs:List V},Dens K H ds vs->Dens K H' ds vs
 | _,_,.nil=>.nil
 | _,_,.cons h t=>.cons (Den.ext x h) (Dens.ext x t)
end
theorem Dens.length:∀ {ds:List D} {vs:List V},Dens K H ds vs->ds.length=vs.length
 | _,_,.nil=>rfl
 | _,_,.cons _ t=>by rw[Zj,Zj,Dens.length t]
theorem Dens.get:∀ {ds:List D} {vs:List V} {i:Nat} {d:D},Dens K H ds vs->ds[i]? = some d->∃ v,vs[i]? = some v/\Den K H d v
 | _,_,_,_,.nil,e=>by simp at e
 | _,_,0,_,.cons r _,e=>by simp at e;subst e;exact⟨_,rfl,r⟩
 | _,_,i+1,d,.cons _ t,e=>by
  obtain⟨u,h1,h2⟩:=Dens.get (i:=i) (d:=d) t (by simpa using e)
  exact⟨u,by simpa using h1,h2⟩
theorem Dens.get':∀ {ds:List D} {vs:List V} {i:Nat} {v:V},Dens K H ds vs->vs[i]? = some v->∃ d,ds[i]? = some d/\Den K H d v
 | _,_,_,_,.nil,e=>by simp at e
 | _,_,0,_,.cons r _,e=>by simp at e;subst e;exact⟨_,rfl,r⟩
 | _,_,i+1,d,.cons _ t,e=>by
  obtain⟨u,h1,h2⟩:=Dens.get' (i:=i) (v:=d) t (by simpa using e)
  exact⟨u,by simpa using h1,h2⟩
theorem Dens.append:∀ {ds es:List D} {vs ws:List V},Dens K H ds vs->Dens K H es ws->Dens K H (ds++es) (vs++ws)
 | _,_,_,_,.nil,s=>s
 | _,_,_,_,.cons r t,s=>.cons r (Dens.append t s)
theorem Dens.take:∀ {ds:List D} {vs:List V} (n:Nat),Dens K H ds vs->Dens K H (ds.take n) (vs.take n)
 | _,_,0,_=>.nil
 | _,_,_+1,.nil=>.nil
 | _,_,n+1,.cons r t=>.cons r (Dens.take n t)
theorem Dens.drop:∀ {ds:List D} {vs:List V} (n:Nat),Dens K H ds vs->Dens K H (ds.drop n) (vs.drop n)
 | _,_,0,r=>r
 | _,_,_+1,.nil=>.nil
 | _,_,n+1,.cons _ t=>Dens.drop n t
end
noncomputable abbrev DSt:=List (Option D)
inductive MO2 where
 | dct (kvs:List (List (List Nat)×D))
 | dkt (kvs:List (List Nat×D))
 | dkf (ob:Obj) (kvs:List (List Nat×D))
 | dcf (ob:Obj) (kvs:List (List (List Nat)×D))
 | dnt (ep:Nat) (kvs:List ((List Nat×List (List Nat)×List (List Nat))×D)) --N
 | ins (c:Str) (fs:List (Str×D))
inductive MO where
 | lst (ds:List D)
 | oth (o:MO2)
noncomputable abbrev DH:=Addr->Option MO
noncomputable def dupd(M:DH)(a:Addr)(o:MO):DH:=fun b=>if b=a then some o else M b
theorem Q0a:dupd M a o a=some o:=Ze rfl
theorem Q0b(h:b≠a):dupd M a o b=M b:=Zc h
theorem dne{M:DH}{a b:Addr}{o:MO}(h:M a=some o)(h':M b=none):a≠b:=by
 intro e;subst e;rw[h]at h';cases h'
theorem Q1v:dupd (dupd M a o) a u=dupd M a u:=by
 funext b
 unfold dupd;by_cases h:b=a
 ·rw[Ze h,Ze h]
 ·rw[Zc h,Zc h,Zc h]
noncomputable def DenO(K:Frag)(H:Hp):Option D->Option V->Prop
 | none,none=>True
 | some d,some v=>Den K H d v
 | _,_=>False
inductive SimS(K:Frag)(H:Hp):DSt->St->Prop
 | nil:SimS K H [] []
 | cons {d:Option D} {v:Option V} {ds:DSt} {vs:St}:DenO K H d v->SimS K H ds vs->SimS K H (d::ds) (v::vs)
noncomputable def nk(n:List (List Nat)):List Key:=n.map fun x=>Sum.inr (S x)
noncomputable abbrev KDs(K:Frag)(H:Hp):List (List (List Nat)×D)->List (List Key×V)->Prop:=Paired fun p q=>q.1=nk p.1/\Den K H p.2 q.2
noncomputable def tkk(x:List Nat):Key:=Sum.inr (S x)
noncomputable abbrev KTs(K:Frag)(H:Hp):List (List Nat×D)->List (Key×V)->Prop:=Paired fun p q=>q.1=tkk p.1/\Den K H p.2 q.2
noncomputable def nk3(k:List Nat×List (List Nat)×List (List Nat)):NK.Key3 Key:=(tkk k.1,nk k.2.1,nk k.2.2) --N
noncomputable def kGood(k:List Nat×List (List Nat)×List (List Nat)):Prop:=∀ w∈k.1::(k.2.1++k.2.2),(w.all fun c=>decide (c<1114112))=true --N
noncomputable abbrev KNs(K:Frag)(H:Hp):List ((List Nat×List (List Nat)×List (List Nat))×D)->List (NK.Key3 Key×V)->Prop:=Paired fun p q=>q.1=nk3 p.1/\Den K H p.2 q.2/\kGood p.1 --N
noncomputable abbrev FDs(K:Frag)(H:Hp):List (Str×D)->List (Str×V)->Prop:=Paired fun p q=>p.1=q.1/\Den K H p.2 q.2
noncomputable def MOk2(K:Frag)(H:Hp)(a:Addr):MO2->Prop
 | .dct kvs=>∃ vs,H a=some (.dT vs)/\KDs K H kvs vs
 | .dkt kvs=>∃ vs,H a=some (.dK vs)/\KTs K H kvs vs
 | .dkf ob kvs=>∃ vs,H a=some (.frz ob (.dK vs))/\KTs K H kvs vs
 | .dcf ob kvs=>∃ vs,H a=some (.frz ob (.dT vs))/\KDs K H kvs vs
 | .dnt ep kvs=>∃ vs,H a=some (.dN ep vs)/\KNs K H kvs vs --N
 | .ins c fs=>∃ C dx vs,nsIn K mainGlobals c=some (some (.ref C))/\H a=some (.ins C dx vs)/\FDs K H fs vs
noncomputable def MOk(K:Frag)(H:Hp)(a:Addr):MO->Prop
 | .lst ds=>∃ vs,H a=some (.lst vs)/\Dens K H ds vs
 | .oth o=>MOk2 K H a o
noncomputable def SimM(K:Frag)(M:DH)(H:Hp):Prop:=∀ a o,M a=some o->MOk K H a o
section
variable{K:Frag}{H H':Hp}{M:DH}
theorem DenO.ext(x:Ext H H'):∀ {d:Option D} {v:Option V},DenO K H d v->DenO K H' d v
 | none,none,_=>trivial
 | some _,some _,h=>Den.ext x h
 | none,some _,h=>h.elim
 | some _,none,h=>h.elim
theorem SimS.ext(x:Ext H H'):∀ {ds:DSt} {vs:St},SimS K H ds vs->SimS K H' ds vs
 | _,_,.nil=>.nil
 | _,_,.cons h t=>.cons (h.ext x) (SimS.ext x t)
theorem SimS.get:∀ {ds:DSt} {vs:St} {i:Nat} {d:D},SimS K H ds vs->ds[i]? = some (some d)->∃ v,vs[i]? = some (some v)/\Den K H d v
 | _,_,_,_,.nil,e=>by simp at e
 | _,some v::_,0,d,.cons (d:=some d') r _,e=>by simp at e;subst e;exact⟨v,rfl,r⟩
 | _,none::_,0,d,.cons (d:=some d') r _,e=>r.elim
 | _,_,0,d,.cons (d:=none) r _,e=>by simp at e
 | _,_,i+1,d,.cons _ t,e=>by
  obtain⟨u,h1,h2⟩:=SimS.get (i:=i) (d:=d) t (by simpa using e)
  exact⟨u,by simpa using h1,h2⟩
theorem SimS.getD:∀ {ds:DSt} {vs:St} (i:Nat),SimS K H ds vs->DenO K H ((ds[i]?).getD none) ((vs[i]?).getD none)
 | _,_,_,.nil=>by simp;exact trivial
 | _,_,0,.cons r _=>by simpa using r
 | _,_,i+1,.cons _ t=>by simpa using SimS.getD i t
theorem SimS.set(r:Den K H d v):∀ {ds:DSt} {vs:St} (i:Nat),SimS K H ds vs->SimS K H (ds.set i (some d)) (vs.set i (some v))
 | _,_,_,.nil=>.nil
 | _,_,0,.cons _ t=>.cons r t
 | _,_,i+1,.cons q t=>.cons q (SimS.set r i t)
theorem SimS.append:∀ {ds es:DSt} {vs ws:St},SimS K H ds vs->SimS K H es ws->SimS K H (ds++es) (vs++ws)
 | _,_,_,_,.nil,s=>s
 | _,_,_,_,.cons r t,s=>.cons r (SimS.append t s)
theorem SimS.nones:∀ k:Nat,SimS K H (List.replicate k none) (List.replicate k none)
 | 0=>.nil
 | k+1=>.cons trivial (SimS.nones k)
theorem SimS.ofDens:∀ {ds:List D} {vs:List V},Dens K H ds vs->SimS K H (ds.map some) (vs.map some)
 | _,_,.nil=>.nil
 | _,_,.cons r t=>.cons r (SimS.ofDens t)
theorem SimS.pick(h:SimS K H ds vs):∀ ix:List Nat,SimS K H (ix.map fun i=>(ds[i]?).getD none) (ix.map fun i=>(vs[i]?).getD none)
 | []=>.nil
 | i::r=>.cons (h.getD i) (SimS.pick h r)
theorem MOk.keep(h:MOk K H a o)(x:Ext H H')(e:H' a=H a):MOk K H' a o:=by
 cases o with
 | lst ds=>obtain⟨vs,e1,e2⟩:=h;exact⟨vs,e.trans e1,e2.ext x⟩
 | oth o =>
  cases o with
  | dct kvs=>obtain⟨vs,e1,e2⟩:=h;exact⟨vs,e.trans e1,Paired.mapP e2 fun p q z=>⟨z.1,Den.ext x z.2⟩⟩
  | dkt kvs=>obtain⟨vs,e1,e2⟩:=h;exact⟨vs,e.trans e1,Paired.mapP e2 fun p q z=>⟨z.1,Den.ext x z.2⟩⟩
  | dkf ob kvs=>obtain⟨vs,e1,e2⟩:=h;exact⟨vs,e.trans e1,Paired.mapP e2 fun p q z=>⟨z.1,Den.ext x z.2⟩⟩
  | dcf ob kvs=>obtain⟨vs,e1,e2⟩:=h;exact⟨vs,e.trans e1,Paired.mapP e2 fun p q z=>⟨z.1,Den.ext x z.2⟩⟩
  | dnt ep kvs=>obtain⟨vs,e1,e2⟩:=h;exact⟨vs,e.trans e1,Paired.mapP e2 fun p q z=>⟨z.1,Den.ext x z.2.1,z.2.2⟩⟩ --N
  | ins c fs=>obtain⟨C,dx,vs,e0,e1,e2⟩:=h;exact⟨C,dx,vs,e0,e.trans e1,Paired.mapP e2 fun p q z=>⟨z.1,Den.ext x z.2⟩⟩
theorem MOk.there(h:MOk K H a o):∃ u,H a=some u:=by
 cases o with
 | lst ds=>obtain⟨vs,e1,e2⟩:=h;exact⟨_,e1⟩
 | oth o =>
  cases o with
  | dct kvs=>obtain⟨vs,e1,e2⟩:=h;exact⟨_,e1⟩
  | dkt kvs=>obtain⟨vs,e1,e2⟩:=h;exact⟨_,e1⟩
  | dkf ob kvs=>obtain⟨vs,e1,e2⟩:=h;exact⟨_,e1⟩
  | dcf ob kvs=>obtain⟨vs,e1,e2⟩:=h;exact⟨_,e1⟩
  | dnt ep kvs=>obtain⟨vs,e1,e2⟩:=h;exact⟨_,e1⟩ --N
  | ins c fs=>obtain⟨C,dx,vs,e0,e1,e2⟩:=h;exact⟨_,e1⟩
theorem SimM.free(h:SimM K M H)(e:H p=none):M p=none:=by
 cases q:M p with
 | none=>rfl
 | some o=>obtain⟨u,e'⟩:=(h p _ q).there;rw[e]at e';cases e'
theorem SimM.get(h:SimM K M H)(e:M a=some (.lst ds)):∃ vs,H a=some (.lst vs)/\Dens K H ds vs:=h a _ e
theorem SimM.new(h:SimM K M H)(e:H p=none):SimM K M (upd H p o):=fun a u q=>by
 obtain⟨u',e1⟩:=(h a _ q).there;exact (h a _ q).keep (Ext.new e) (Q0d (Q0j e1 e))
theorem SimM.newL(h:SimM K M H)(e:H p=none)(r:Dens K H ds vs):SimM K (dupd M p (.lst ds)) (upd H p (.lst vs)):=fun a u q=>by
 by_cases ha:a=p
 ·subst ha;rw[Q0a]at q;cases q;exact⟨vs,Q0e,Dens.ext (Ext.new e) r⟩
 ·rw[Q0b ha]at q;exact (h.new e) a u q
theorem SimM.write(h:SimM K M H)(e:H p=some (.lst ws))(r:Dens K H ds vs):SimM K (dupd M p (.lst ds)) (upd H p (.lst vs)):=fun a u q=>by
 by_cases ha:a=p
 ·subst ha;rw[Q0a]at q;cases q;exact⟨vs,Q0e,Dens.ext (Ext.lst e) r⟩
 ·rw[Q0b ha]at q;exact (h a _ q).keep (Ext.lst e) (Q0d ha)
theorem SimM.put(h:SimM K M H)(x:Ext H (upd H p o))(n:MOk K (upd H p o) p u):SimM K (dupd M p u) (upd H p o):=fun a v q=>by
 by_cases ha:a=p
 ·subst ha;rw[Q0a]at q;cases q;exact n
 ·rw[Q0b ha]at q;exact (h a _ q).keep x (Q0d ha)
noncomputable def ddel(M:DH)(a:Addr):DH:=fun b=>if b=a then none else M b
theorem SimM.frz(h:SimM K M H)(e:H p=some (.lst ws)):SimM K (ddel M p) (upd H p o):=fun a u q=>by
 unfold ddel at q;by_cases ha:a=p
 ·rw[Ze ha]at q;cases q
 ·rw[Zc ha]at q;exact (h a _ q).keep (Ext.lst e) (Q0d ha)
end
noncomputable abbrev DK:=D->DH->Prop
noncomputable abbrev DTE:=DSt->DH->DK->Prop
noncomputable abbrev DTT:=DSt->DH->(Bool->DH->Prop)->Prop
noncomputable abbrev DTA:=DSt->DH->(List D->DH->Prop)->Prop
structure zbw where
 nx:DSt->DH->Prop
 rt:DK
 bk:DSt->DH->Prop
 ct:DSt->DH->Prop
noncomputable abbrev DTS:=zbw->DSt->DH->Prop
noncomputable def Aft(K:Frag)(H:Hp)(R:DK)(Q:VK):Prop:=∀ d M' v H',R d M'->Ext H H'->SimM K M' H'->Den K H' d v->Q v H'
inductive lE(K:Frag)(t:DTE)(σ:St)(H:Hp)(Q:VK):Prop
 | mk (ρ:DSt) (M:DH) (R:DK) (s:SimS K H ρ σ) (m:SimM K M H) (h:t ρ M R) (k:Aft K H R Q)
inductive lT(K:Frag)(t:DTT)(σ:St)(H:Hp)(Q:Bool->Hp->Prop):Prop
 | mk (ρ:DSt) (M:DH) (R:Bool->DH->Prop) (s:SimS K H ρ σ) (m:SimM K M H) (h:t ρ M R) (k:∀ b M' H',R b M'->Ext H H'->SimM K M' H'->Q b H')
inductive lA(K:Frag)(t:DTA)(σ:St)(H:Hp)(Q:List V->Hp->Prop):Prop
 | mk (ρ:DSt) (M:DH) (R:List D->DH->Prop) (s:SimS K H ρ σ) (m:SimM K M H) (h:t ρ M R) (k:∀ ds M' vs H',R ds M'->Ext H H'->SimM K M' H'->Dens K H' ds vs->Q vs H')
structure Fin(K:Frag)(H:Hp)(DD:zbw)(D:Ends):Prop where
 nx:∀ ρ' M' σ' H',DD.nx ρ' M'->Ext H H'->SimS K H' ρ' σ'->SimM K M' H'->D.nx σ' H'
 rt:Aft K H DD.rt D.rt
 bk:∀ ρ' M' σ' H',DD.bk ρ' M'->Ext H H'->SimS K H' ρ' σ'->SimM K M' H'->D.bk σ' H'
 ct:∀ ρ' M' σ' H',DD.ct ρ' M'->Ext H H'->SimS K H' ρ' σ'->SimM K M' H'->D.ct σ' H'
inductive lS(K:Frag)(t:DTS)(D:Ends)(σ:St)(H:Hp):Prop
 | mk (ρ:DSt) (M:DH) (DD:zbw) (s:SimS K H ρ σ) (m:SimM K M H) (h:t DD ρ M) (k:Fin K H DD D)
theorem Aft.ext{K:Frag}{H H':Hp}{R:DK}{Q:VK}(a:Aft K H R Q)(x:Ext H H'):Aft K H' R Q:=fun d M v H'' r y=>a d M v H'' r (x.trans y)
theorem Fin.ext{K:Frag}{H H':Hp}{DD:zbw}{D:Ends}(a:Fin K H DD D)(x:Ext H H'):Fin K H' DD D :=
 ⟨fun r M s H2 q y=>a.nx r M s H2 q (x.trans y),a.rt.ext x,fun r M s H2 q y=>a.bk r M s H2 q (x.trans y),fun r M s H2 q y=>a.ct r M s H2 q (x.trans y)⟩
noncomputable abbrev DE(X:Cx)(e:Expr)(t:DTE):Prop:=PE X e (lE X.K t)
noncomputable abbrev DT(X:Cx)(e:Expr)(t:DTT):Prop:=PT X e (lT X.K t)
noncomputable abbrev DW(X:Cx)(e:Expr)(t:DTT):Prop:=PW X e (lT X.K t)
noncomputable abbrev DA(X:Cx)(es:List Expr)(t:DTA):Prop:=PA X es (lA X.K t)
noncomputable abbrev DS(X:Cx)(st:Stmt)(t:DTS):Prop:=PS X st (lS X.K t)
noncomputable abbrev DSs(X:Cx)(st:List Stmt)(t:DTS):Prop:=PSs X st (lS X.K t)
section
variable{X:Cx}{a b c e:Expr}{es:List Expr}{ta tb te:DTE}{tt tu:DTT}{pos:Pos}{K:Frag}
noncomputable def dVar(i:Nat):DTE:=fun ρ M Q=>match ρ[i]? with
 | some (some d)=>Q d M
 | _=>False
theorem dv(i:Nat)(hN:X.N[i]? = some x:=by rfl)(hv:Vis X.env.scope x:=by first | exact Or.inl rfl | exact Or.inr (Or.inl rfl) | exact Or.inr (Or.inr rfl))(hd:(x==("__debug__" : Str))=false:=by decide)
  (hcd:(x==("__classdict__" : Str))=false:=by decide):DE X (.Name x pos) (dVar i):=(Q9E hN hv hd hcd).imp fun σ H Q ⟨ρ,M,R,s,m,h,k⟩=>by
 unfold dVar at h;cases e:ρ[i]? with
 | none=>rw[e]at h;exact h.elim
 | some o =>
  rw[e]at h;cases o with
  | none=>exact h.elim
  | some d =>
   obtain⟨v,e1,e2⟩:=s.get e;exact⟨v,e1,k d M v H h (Ext.refl H) m e2⟩
noncomputable def dC(d:D):DTE:=fun _ M Q=>Q d M
theorem dc_of(h:PE X e (tC v))(hd:∀ H,Den X.K H d v):DE X e (dC d):=h.imp fun σ H Q ⟨ρ,M,R,s,m,h,k⟩=>k d M v H h (Ext.refl H) m (hd H)
theorem Qcb{i j pos}:DE X (.Constant (.int i) j pos) (dC (.int i)):=dc_of QbF fun _=>.int i
theorem de_bl{i j pos}:DE X (.Constant (.bool i) j pos) (dC (.bl i)):=dc_of pe_bl fun _=>.bl i
theorem Qcc{j pos}:DE X (.Constant .none j pos) (dC .non):=dc_of QbG fun _=>.non
theorem S_of'(x:Str):S x.cps.toList=x:=by unfold S;cases x;simp
theorem Qcd{j pos}(h:(i.cps.toList.all fun c=>decide (c<1114112))=true:=by decide):DE X (.Constant (.str i) j pos) (dC (.str i.cps.toList)):=dc_of QbH fun H=>by
 have q:=Den.str (K:=X.K) (H:=H) i.cps.toList h;rw[S_of']at q;exact q
theorem Qaz(hg:Gl X x)(hm:X.mg x=some u)(r:RelV v u)(hd:∀ H,Den X.K H d v)(hdb:(x==("__debug__" : Str))=false:=by decide):DE X (.Name x pos) (dC d):=dc_of (Qa5 hg hm r hdb) hd
noncomputable abbrev DR2:=D->D->DH->DK->Prop
inductive lR2(K:Frag)(r:DR2)(x y:V)(H:Hp)(Q:VK):Prop
 | mk (dx dy:D) (M:DH) (R:DK) (ex:Den K H dx x) (ey:Den K H dy y) (m:SimM K M H) (h:r dx dy M R) (k:Aft K H R Q)
noncomputable abbrev OpD(X:Cx)(f:Value->Value->Sem Value)(r:DR2):Prop:=OpR X f (lR2 X.K r)
noncomputable def dOp(r:DR2)(ta tb:DTE):DTE:=fun ρ M Q=>ta ρ M fun x M1=>tb ρ M1 fun y M2=>r x y M2 Q
theorem Q4R(hr:∀ x y H Q,lR2 K r x y H Q->rV x y H Q)(h:lE K (dOp r ta tb) σ H Q):tOp rV (lE K ta) (lE K tb) σ H Q:=by
 obtain⟨ρ,M,R,s,m,h,k⟩:=h;refine⟨ρ,M,_,s,m,h,fun d1 M1 v1 H1 h1 x1 m1 e1=>⟨ρ,M1,_,s.ext x1,m1,h1,fun d2 M2 v2 H2 h2 x2 m2 e2=>hr _ _ _ _ ⟨d1,d2,M2,R,e1.ext x2,e2,m2,h2,k.ext (x1.trans x2)⟩⟩⟩
theorem de_op(ho:OpD X (binaryOp op) r)(ha:DE X a ta)(hb:DE X b tb):DE X (.BinOp a op b pos) (dOp r ta tb) :=
 (pe_op ho ha hb).imp fun σ H Q h=>Q4R (fun _ _ _ _ q=>q) h
theorem Qce(ho:OpD X (compareOp op) r)(ha:DE X a ta)(hb:DE X b tb)(hm:behindInMarks op b=false:=by first | exact nobehind _ (by decide) (by decide) | rfl):DE X (.Compare a [op] [b] pos) (dOp r ta tb) :=
 (Qad ho ha hb hm).imp fun σ H Q h=>Q4R (fun _ _ _ _ q=>q) h
noncomputable def dB(t:DTE):DTT:=fun ρ M Q=>t ρ M fun x M1=>match x with
 | .bl c=>Q c M1
 | _=>False
theorem Qcf(h:DE X e te)(he:∀ whole,isTrue e X.env whole=(do let v <- whole;standAt e.pos;holding [v] (truthy v)):=by intro _;rfl):DT X e (dB te) :=
 (QbI h he).imp fun σ H Q ⟨ρ,M,R,s,m,h,k⟩=>⟨ρ,M,_,s,m,h,fun d M1 v H1 h1 x1 m1 e1=>by
  cases d with
  | bl c=>cases e1;exact⟨c,rfl,k c M1 H1 h1 x1 m1⟩
  | _=>exact h1.elim⟩
theorem Qcg(ho:OpD X (compareOp op) r)(ha:DE X a ta)(hb:DE X b tb)(hm:behindInMarks op b=false:=by first | exact nobehind _ (by decide) (by decide) | rfl):DT X (.Compare a [op] [b] pos) (dB (dOp r ta tb)) :=
 (Qae ho ha hb hm).imp fun σ H Q ⟨ρ,M,R,s,m,h,k⟩=>Q4R (r:=r) (fun _ _ _ _ q=>q) ⟨ρ,M,_,s,m,h,fun d M1 v H1 h1 x1 m1 e1=>by
  cases d with
  | bl c=>cases e1;exact⟨c,rfl,k c M1 H1 h1 x1 m1⟩
  | _=>exact h1.elim⟩
noncomputable def dAnd(t u:DTT):DTT:=fun ρ M Q=>t ρ M fun c M1=>if c=true then u ρ M1 Q else Q false M1
noncomputable def dOr(t u:DTT):DTT:=fun ρ M Q=>t ρ M fun c M1=>if c=true then Q true M1 else u ρ M1 Q
noncomputable def dNot(t:DTT):DTT:=fun ρ M Q=>t ρ M fun c M1=>Q (!c) M1
variable{rest:List Expr}
theorem QaA(ha:DT X a tt):DW X (.BoolOp .And [a] pos) tt:=Qa7 ha
theorem Qch(ha:DT X a tt):DW X (.BoolOp .Or [a] pos) tt:=QbJ ha
theorem Qci(ha:DT X a tt)(hb:DW X (.BoolOp .And (b::rest) pos) tu):DW X (.BoolOp .And (a::b::rest) pos) (dAnd tt tu) :=
 (QbK ha hb).imp fun σ H Q ⟨ρ,M,R,s,m,h,k⟩=>⟨ρ,M,_,s,m,h,fun c M1 H1 h1 x1 m1=>by
  cases c with
  | true=>exact iteT ⟨ρ,M1,_,s.ext x1,m1,(Ze rfl).mp h1,fun b M2 H2 h2 x2 m2=>k b M2 H2 h2 (x1.trans x2) m2⟩
  | false=>exact iteF (k false M1 H1 ((Zc Zs).mp h1) x1 m1)⟩
theorem dw_or(ha:DT X a tt)(hb:DW X (.BoolOp .Or (b::rest) pos) tu):DW X (.BoolOp .Or (a::b::rest) pos) (dOr tt tu) :=
 (pw_or ha hb).imp fun σ H Q ⟨ρ,M,R,s,m,h,k⟩=>⟨ρ,M,_,s,m,h,fun c M1 H1 h1 x1 m1=>by
  cases c with
  | true=>exact iteT (k true M1 H1 ((Ze rfl).mp h1) x1 m1)
  | false=>exact iteF ⟨ρ,M1,_,s.ext x1,m1,(Zc Zs).mp h1,fun b M2 H2 h2 x2 m2=>k b M2 H2 h2 (x1.trans x2) m2⟩⟩
theorem Qcj(ha:DT X a tt):DT X (.UnaryOp .Not a pos) (dNot tt) :=
 (QbL ha).imp fun σ H Q ⟨ρ,M,R,s,m,h,k⟩=>⟨ρ,M,_,s,m,h,fun c M1 H1 h1 x1 m1=>k (!c) M1 H1 h1 x1 m1⟩
theorem DW.dt(h:DW X e tt):DT X e tt:=PW.pt h
noncomputable def zbt(ta tb:DTE):DTE:=fun ρ M Q=>ta ρ M fun x M1=>match x with
 | .bl c=>if c=true then tb ρ M1 Q else Q (.bl false) M1
 | _=>False
noncomputable def dOrV(ta tb:DTE):DTE:=fun ρ M Q=>ta ρ M fun x M1=>match x with
 | .bl c=>if c=true then Q (.bl true) M1 else tb ρ M1 Q
 | _=>False
noncomputable def dNotV(ta:DTE):DTE:=fun ρ M Q=>ta ρ M fun x M1=>match x with
 | .bl c=>Q (.bl (!c)) M1
 | _=>False
theorem Q6M{op}(h:DE X a ta):DE X (.BoolOp op [a] pos) ta:=QbM h
theorem Qck(ha:DE X a ta)(hb:DE X (.BoolOp .And (b::rest) pos) tb):DE X (.BoolOp .And (a::b::rest) pos) (zbt ta tb) :=
 (QbN ha hb).imp fun σ H Q ⟨ρ,M,R,s,m,h,k⟩=>⟨ρ,M,_,s,m,h,fun d M1 v H1 h1 x1 m1 e1=>by
  cases d with
  | bl c =>
   cases e1;refine⟨c,rfl,?_⟩;cases c with
   | true=>exact iteT ⟨ρ,M1,_,s.ext x1,m1,(Ze rfl).mp h1,k.ext x1⟩
   | false=>exact iteF (k _ M1 _ H1 ((Zc Zs).mp h1) x1 m1 (.bl _))
  | _=>exact h1.elim⟩
theorem de_or(ha:DE X a ta)(hb:DE X (.BoolOp .Or (b::rest) pos) tb):DE X (.BoolOp .Or (a::b::rest) pos) (dOrV ta tb) :=
 (pe_or ha hb).imp fun σ H Q ⟨ρ,M,R,s,m,h,k⟩=>⟨ρ,M,_,s,m,h,fun d M1 v H1 h1 x1 m1 e1=>by
  cases d with
  | bl c =>
   cases e1;refine⟨c,rfl,?_⟩;cases c with
   | true=>exact iteT (k _ M1 _ H1 ((Ze rfl).mp h1) x1 m1 (.bl _))
   | false=>exact iteF ⟨ρ,M1,_,s.ext x1,m1,(Zc Zs).mp h1,k.ext x1⟩
  | _=>exact h1.elim⟩
theorem Qcl(ha:DE X a ta):DE X (.UnaryOp .Not a pos) (dNotV ta) :=
 (QbO ha).imp fun σ H Q ⟨ρ,M,R,s,m,h,k⟩=>⟨ρ,M,_,s,m,h,fun d M1 v H1 h1 x1 m1 e1=>by
  cases d with
  | bl c=>cases e1;exact⟨c,rfl,k _ M1 _ H1 h1 x1 m1 (.bl _)⟩
  | _=>exact h1.elim⟩
noncomputable def dIf(t:DTT)(ta tb:DTE):DTE:=fun ρ M Q=>t ρ M fun c M1=>if c=true then ta ρ M1 Q else tb ρ M1 Q
theorem Q8A(hc:DT X c tt)(ha:DE X a ta)(hb:DE X b tb):DE X (.IfExp c a b pos) (dIf tt ta tb) :=
 (Q8a hc ha hb).imp fun σ H Q ⟨ρ,M,R,s,m,h,k⟩=>⟨ρ,M,_,s,m,h,fun c M1 H1 h1 x1 m1=>by
  cases c with
  | true=>exact iteT ⟨ρ,M1,_,s.ext x1,m1,(Ze rfl).mp h1,k.ext x1⟩
  | false=>exact iteF ⟨ρ,M1,_,s.ext x1,m1,(Zc Zs).mp h1,k.ext x1⟩⟩
noncomputable def dNil:DTA:=fun _ M Q=>Q [] M
noncomputable def zaX(ta:DTE)(tr:DTA):DTA:=fun ρ M Q=>ta ρ M fun x M1=>tr ρ M1 fun xs M2=>Q (x::xs) M2
variable{tr:DTA}
theorem Q9L:DA X [] dNil:=Q9G.imp fun σ H Q ⟨ρ,M,R,s,m,h,k⟩=>k [] M [] H h (Ext.refl H) m .nil
theorem Q6N(ha:DE X e te)(hr:DA X es tr)(hs:starEach (e::es) X.env=(false,eval e X.env)::starEach es X.env:=by rfl):DA X (e::es) (zaX te tr) :=
 (Q4m ha hr hs).imp fun σ H Q ⟨ρ,M,R,s,m,h,k⟩=>⟨ρ,M,_,s,m,h,fun d1 M1 v1 H1 h1 x1 m1 e1=>⟨ρ,M1,_,s.ext x1,m1,h1,fun ds M2 vs H2 h2 x2 m2 e2=>k _ M2 _ H2 h2 (x1.trans x2) m2 (.cons (e1.ext x2) e2)⟩⟩
noncomputable def dTup(t:DTA):DTE:=fun ρ M Q=>t ρ M fun xs M1=>xs.length<=sizeLine/\Q (.tup xs) M1
theorem Qcm{x1}(h:DA X es tr):DE X (.Tuple es x1 pos) (dTup tr) :=
 (Qc1 h).imp fun σ H Q ⟨ρ,M,R,s,m,h,k⟩=>⟨ρ,M,_,s,m,h,fun ds M1 vs H1 ⟨hl,h1⟩ x1 m1 e1=>⟨by rw[<- e1.length];exact hl,fun p hp=>k _ M1 _ _ h1 (x1.trans (Ext.new hp)) (m1.new hp) (.tup Q0e (e1.ext (Ext.new hp)))⟩⟩
noncomputable def dLst(t:DTA):DTE:=fun ρ M Q=>t ρ M fun xs M1=>xs.length<=sizeLine/\∀ p,M1 p=none->Q (.ref p) (dupd M1 p (.lst xs))
theorem Qcn(h:DA X es tr):DE X (.List es pos) (dLst tr) :=
 (Q9H h).imp fun σ H Q ⟨ρ,M,R,s,m,h,k⟩=>⟨ρ,M,_,s,m,h,fun ds M1 vs H1 ⟨hl,h1⟩ x1 m1 e1=>⟨by rw[<- e1.length];exact hl,fun p hp=>k _ _ _ _ (h1 p (m1.free hp)) (x1.trans (Ext.new hp)) (m1.newL hp e1) (.ref p)⟩⟩
noncomputable def dFrz(t:DTE):DTE:=fun ρ M Q=>t ρ M fun d M1=>match d with
 | .ref a=>match M1 a with
  | some (.lst ds)=>Q (.lst ds) (ddel M1 a)
  | _=>False
 | _=>False
theorem Qco(h:DE X e te):DE X e (dFrz te) :=
 (Q6B h).imp fun σ H Q ⟨ρ,M,R,s,m,h,k⟩=>⟨ρ,M,_,s,m,h,fun d M1 v H1 h1 x1 m1 e1=>by
  cases d with
  | ref a =>
   cases e1;cases q:M1 a with
   | none=>simp only[q]at h1
   | some o =>
    cases o with
    | oth _=>simp only[q]at h1
    | lst ds =>
     simp only[q]at h1;obtain⟨vs,e2,e3⟩:=m1.get q;exact⟨a,vs,rfl,e2,fun o=>k _ _ _ _ h1 (x1.trans (Ext.lst e2)) (m1.frz e2) (.lst (.inl ⟨o,Q0e⟩) (e3.ext (Ext.lst e2)))⟩
  | _=>exact h1.elim⟩
inductive lC(K:Frag)(r:List D->DH->DK->Prop)(vs:List V)(H:Hp)(Q:VK):Prop
 | mk (ds:List D) (M:DH) (R:DK) (dn:Dens K H ds vs) (m:SimM K M H) (h:r ds M R) (k:Aft K H R Q)
noncomputable abbrev zaV(X:Cx)(f:Value)(r:List D->DH->DK->Prop):Prop:=zaY X f (lC X.K r)
noncomputable def dCB(r:List D->DH->DK->Prop)(t:DTA):DTE:=fun ρ M Q=>t ρ M fun ds M1=>r ds M1 Q
theorem Q9M{r:List D->DH->DK->Prop}(h:lE K (dCB r t) σ H Q):tCB (lC K r) (lA K t) σ H Q:=by
 obtain⟨ρ,M,R,s,m,h,k⟩:=h;exact⟨ρ,M,_,s,m,h,fun ds M1 vs H1 h1 x1 m1 e1=>⟨ds,M1,R,e1,m1,h1,k.ext x1⟩⟩
theorem Q1M{x:Str}{id:String}{p:Pos}{r:List D->DH->DK->Prop}{t:DTA}(hc:zaV X (.builtin id) r)(hg:Gl X x)(hm:X.mg x=none)(hv:bootBuiltins x=some (.builtin id))(ha:DA X (e::es) t)(hn:x ≠ "__name__":=by decide)(hdb:(x==("__debug__" : Str))=false:=by decide)
  (he:starEach (e::es) X.env=(false,eval e X.env)::starEach es X.env:=by rfl) (hpl:(backTo pos (starEach es X.env)).any (·.1)=false:=by rfl):DE X (.Call (.Name x p) (e::es) [] pos) (dCB r t) :=
 (Q4M hc hg hm hv ha hn hdb he hpl).imp fun _ _ _ h=>Q9M h
theorem Q1c{r:List D->DH->DK->Prop}(hc:zaV X (.type T) r)(hg:Gl X x)(hm:X.mg x=none)(hv:bootBuiltins x=some (.type T))(ha:DA X (e::es) t)(hn:x ≠ "__name__":=by decide)(hdb:(x==("__debug__" : Str))=false:=by decide)
  (he:starEach (e::es) X.env=(false,eval e X.env)::starEach es X.env:=by rfl) (hpl:(backTo pos (starEach es X.env)).any (·.1)=false:=by rfl):DE X (.Call (.Name x p) (e::es) [] pos) (dCB r t) :=
 (Q6v hc hg hm hv ha hn hdb he hpl).imp fun _ _ _ h=>Q9M h
noncomputable abbrev DSp:=List D->DH->DK->Prop
inductive lSp(K:Frag)(sp:DSp)(vs:List V)(H:Hp)(Q:VK)(_E:XK):Prop
 | mk (ds:List D) (M:DH) (R:DK) (dn:Dens K H ds vs) (m:SimM K M H) (h:sp ds M R) (k:Aft K H R Q)
noncomputable def zc0(sp:DSp)(dds:List D)(t:DTA):DTE:=fun ρ M Q=>t ρ M fun ds M1=>sp (ds++dds) M1 Q
theorem QaB{p:Pos}(F:FnOk X.prog X.w X.K X.mg X.base CX k f fd ps (lSp X.K sp))(hr:Room k X.A)(hg:Gl X x)(hm:X.mg x=some (.ref f))(hk:keepIn X.K (.ref f)=true)(hb:Binds X.K fd ps ds)(hd:Vals dvs ds)(hdd:∀ H,Dens X.K H dds dvs)(hx:zav CX X E)
  (ha:DA X (e::es) t) (hdb:(x==("__debug__" : Str))=false:=by decide) (he:starEach (e::es) X.env=(false,eval e X.env)::starEach es X.env:=by rfl) (hpl:(backTo pos (starEach es X.env)).any (·.1)=false:=by rfl) :
  DE X (.Call (.Name x p) (e::es) [] pos) (zc0 sp dds t) :=
 (Qai F hr hg hm hk hb hd hx ha hdb he hpl).imp fun σ H Q ⟨ρ,M,R,s,m,h,k⟩=>⟨ρ,M,_,s,m,h,fun ds M1 vs H1 h1 x1 m1 e1=>⟨_,M1,R,e1.append (hdd _),m1,h1,k.ext x1⟩⟩
end
section
variable{X:Cx}{a b c e tg iter:Expr}{es:List Expr}{st:Stmt}{sts body:List Stmt}{ta tb te:DTE}{tt tu:DTT}{t u:DTS}{pos:Pos}{K:Frag}
noncomputable def zbW:DTS:=fun D ρ M=>D.nx ρ M
noncomputable def dSeq(t u:DTS):DTS:=fun D ρ M=>t { D with nx:=u D } ρ M
theorem QaC:DSs X [] zbW:=Qa8.imp fun D σ H ⟨ρ,M,DD,s,m,h,k⟩=>k.nx ρ M σ H h (Ext.refl H) s m
theorem Q8B(h1:DS X st t)(h2:DSs X sts u):DSs X (st::sts) (dSeq t u) :=
 (Q8b h1 h2).imp fun D σ H ⟨ρ,M,DD,s,m,h,k⟩=>⟨ρ,M,_,s,m,h,⟨fun ρ1 M1 σ1 H1 q x s1 m1=>⟨ρ1,M1,DD,s1,m1,q,k.ext x⟩,k.rt,k.bk,k.ct⟩⟩
noncomputable def dDrop(te:DTE):DTS:=fun D ρ M=>te ρ M fun _ M1=>D.nx ρ M1
theorem QaD(he:DE X e te)(hs:swapsWith e none pos.line X.env=pure false:=by rfl):DS X (.Expr e pos) (dDrop te) :=
 (Qa9 he hs).imp fun D σ H ⟨ρ,M,DD,s,m,h,k⟩=>⟨ρ,M,_,s,m,h,fun d M1 v H1 h1 x1 m1 e1=>k.nx ρ M1 σ H1 h1 x1 (s.ext x1) m1⟩
noncomputable def dRet(te:DTE):DTS:=fun D ρ M=>te ρ M D.rt
theorem Qcp(he:DE X e te):DS X (.Return (some e) pos) (dRet te) :=
 (QbP he).imp fun D σ H ⟨ρ,M,DD,s,m,h,k⟩=>⟨ρ,M,_,s,m,h,k.rt⟩
noncomputable def dIfS(c:DTT)(t u:DTS):DTS:=fun D ρ M=>c ρ M fun b M1=>if b=true then t D ρ M1 else u D ρ M1
theorem ds_if{a b:List Stmt}(hc:DT X c tt)(ha:DSs X a t)(hb:DSs X b u):DS X (.If c a b pos) (dIfS tt t u) :=
 (ps_if hc ha hb).imp fun D σ H ⟨ρ,M,DD,s,m,h,k⟩=>⟨ρ,M,_,s,m,h,fun c M1 H1 h1 x1 m1=>by
  cases c with
  | true=>exact iteT ⟨ρ,M1,DD,s.ext x1,m1,(Ze rfl).mp h1,k.ext x1⟩
  | false=>exact iteF ⟨ρ,M1,DD,s.ext x1,m1,(Zc Zs).mp h1,k.ext x1⟩⟩
noncomputable abbrev DTG:=D->DSt->DH->(DSt->DH->Prop)->Prop
inductive lG(K:Frag)(g:DTG)(v:V)(σ:St)(H:Hp)(Q:St->Hp->Prop):Prop
 | mk (d:D) (ρ:DSt) (M:DH) (R:DSt->DH->Prop) (dn:Den K H d v) (s:SimS K H ρ σ) (m:SimM K M H) (h:g d ρ M R) (k:∀ ρ' M' σ' H',R ρ' M'->Ext H H'->SimS K H' ρ' σ'->SimM K M' H'->Q σ' H')
noncomputable abbrev DG(X:Cx)(tg:Expr)(g:DTG):Prop:=PG X tg (lG X.K g)
noncomputable def zb3(i:Nat):DTG:=fun d ρ M Q=>Q (ρ.set i (some d)) M
theorem QaE(hN:X.N.Nodup)(hi:X.N[i]? = some x)(hx:Loc X.env.scope x)(hf:X.fn x=true\/X.env.scope.names.lookup x=some .local:=by first | exact .inl rfl | exact .inr rfl | assumption):DG X (.Name x pos) (zb3 i) :=
 (Q6o hN hi hx hf).imp fun v σ H Q ⟨d,ρ,M,R,e,s,m,h,k⟩=>k _ M _ H h (Ext.refl H) (s.set e i) m
noncomputable def dAsg(te:DTE)(g:DTG):DTS:=fun D ρ M=>te ρ M fun x M1=>g x ρ M1 D.nx
theorem QaF{g:DTG}{gV:TG}{teV:TE}{D:Ends}{σ:St}{H:Hp}(h1:∀ σ H Q,lE K te σ H Q->teV σ H Q)(h2:∀ v σ H Q,lG K g v σ H Q->gV v σ H Q)(h:lS K (dAsg te g) D σ H):tAsg teV gV D σ H:=by
 obtain⟨ρ,M,DD,s,m,h,k⟩:=h;exact h1 _ _ _ ⟨ρ,M,_,s,m,h,fun d M1 v H1 q x m1 e1=>h2 _ _ _ _ ⟨d,ρ,M1,_,e1,s.ext x,m1,q,fun ρ2 M2 σ2 H2 q2 x2 s2 m2=>k.nx ρ2 M2 σ2 H2 q2 (x.trans x2) s2 m2⟩⟩
noncomputable def dSet(i:Nat)(te:DTE):DTS:=fun D ρ M=>te ρ M fun x M1=>D.nx (ρ.set i (some x)) M1
theorem Q9N(hN:X.N.Nodup)(hi:X.N[i]? = some x)(hx:Loc X.env.scope x)(he:DE X e te)(hs:swapsWith e (some (.Name x pos')) pos.line X.env=pure false:=by rfl)(hf:X.fn x=true\/X.env.scope.names.lookup x=some .local:=by first | exact .inl rfl | exact .inr rfl | assumption) :
  DS X (.Assign [.Name x pos'] e pos) (dSet i te) :=
 (QbR hN hi hx he hs hf).imp fun D σ H h=>by
  obtain⟨ρ,M,DD,s,m,h,k⟩:=h;exact⟨ρ,M,_,s,m,h,fun d M1 v H1 q x m1 e1=>k.nx _ M1 _ H1 q x ((s.ext x).set e1 i) m1⟩
structure Yields(K:Frag)(J:It)(items:List D)(Cd:DH->Prop)(H:Hp):Prop where
 go:∀ i H' M,Ext H H'->SimM K M H'->Cd M->i<items.length->J.go i H'
 yld:∀ i H' M x H'',Ext H H'->SimM K M H'->Cd M->J.yld i H' x H''->i<items.length->Ext H' H''/\SimM K M H''/\∃ d,items[i]? = some d/\Den K H'' d x
 stop:∀ i H' M,Ext H H'->SimM K M H'->Cd M->items.length<=i->J.stop i H'
noncomputable abbrev DTI:=DSt->DH->(List D->(DH->Prop)->DH->Prop)->Prop
inductive lI(K:Frag)(wi:DTI)(σ:St)(H:Hp)(R:It->Hp->Prop):Prop
 | mk (ρ:DSt) (M:DH) (RD:List D->(DH->Prop)->DH->Prop) (s:SimS K H ρ σ) (m:SimM K M H) (h:wi ρ M RD) (k:∀ items Cd M' H' J,RD items Cd M'->Ext H H'->SimM K M' H'->Yields K J items Cd H'->R J H')
noncomputable abbrev DI(X:Cx)(tg iter:Expr)(wi:DTI):Prop:=PI X tg iter (lI X.K wi)
noncomputable def zbh(g:DTG)(tb:DTS)(DD:zbw)(Cd:DH->Prop):List D->DSt->DH->Prop
 | [],ρ,M=>Cd M/\DD.nx ρ M
 | d::ds,ρ,M=>Cd M/\g d ρ M fun ρ' M'=>tb { DD with nx:=zbh g tb DD Cd ds,ct:=zbh g tb DD Cd ds,bk:=DD.nx } ρ' M'
noncomputable def dFor(wi:DTI)(g:DTG)(tb:DTS):DTS:=fun DD ρ M=>wi ρ M fun items Cd M1=>zbh g tb DD Cd items ρ M1
theorem Qcq{wi:DTI}{g:DTG}{tb:DTS}(hp:PassesOwn (model X.prog X.w) X.A X.env X.xe)(hc:X.calm=true)(hi:DI X tg iter wi)(hg:DG X tg g)(hb:DSs X body tb)
  (hs:∀ x,foldedSetIterable iter X.env x=pure x:=by intro _;rfl):DS X (.For tg iter body [] pos) (dFor wi g tb) :=
 (QbS hp hc hi hg hb hs).imp fun D σ H ⟨ρ,M,DD,s,m,h,k⟩=>⟨ρ,M,_,s,m,h,fun items Cd M1 H1 J h1 x1 m1 Y=>by
  refine⟨fun i mm σ' H'=>mm=items.length-i/\i<=items.length/\∃ ρ' M',Ext H1 H'/\SimS X.K H' ρ' σ'/\SimM X.K M' H'/\zbh g tb DD Cd (items.drop i) ρ' M',⟨_,rfl,ZB _,ρ,M1,Ext.refl _,s.ext x1,m1,h1⟩,?_⟩;rintro i mm σ' H' ⟨rfl,hi,ρ',M',x',s',m',h'⟩;by_cases hlt:i<items.length
  ·right;have hd:items.drop i=items[i]::items.drop (i+1):=Yy hlt;rw[hd]at h';obtain⟨cd,h'⟩:=h';refine⟨Y.go i H' M' x' m' cd hlt,fun σ2 H2=>∃ ρ2 M2,Ext H1 H2/\SimS X.K H2 ρ2 σ2/\SimM X.K M2 H2/\zbh g tb DD Cd (items.drop (i+1)) ρ2 M2,fun σ2 H2 ⟨ρ2,M2,x2,s2,m2,h2⟩=>⟨_,(show items.length-(i+1)<items.length-i by omega),rfl,hlt,ρ2,M2,x2,s2,m2,h2⟩,fun x Hy yl=>?_⟩
   obtain⟨xy,my,d,ed,den⟩:=Y.yld i H' M' x Hy x' m' cd yl hlt;have:items[i]=d:=by
    rw[Zt hlt]at ed;exact Z6 ed
   rw[this]at h';have xx:=x'.trans xy;refine⟨d,ρ',M',_,den,s'.ext xy,my,h',fun ρ3 M3 σ3 H3 q3 x3 s3 m3=>⟨ρ3,M3,_,s3,m3,q3,?_⟩⟩;have xz:=xx.trans x3;exact⟨fun ρ4 M4 σ4 H4 q4 x4 s4 m4=>⟨ρ4,M4,xz.trans x4,s4,m4,q4⟩,(k.ext (x1.trans xz)).rt,fun ρ4 M4 σ4 H4 q4 x4 s4 m4=>(k.ext (x1.trans xz)).nx ρ4 M4 σ4 H4 q4 x4 s4 m4,fun ρ4 M4 σ4 H4 q4 x4 s4 m4=>⟨ρ4,M4,xz.trans x4,s4,m4,q4⟩⟩
  ·left;have hd:items.drop i=[]:=Yr (le_of_not_lt hlt);rw[hd]at h';exact⟨Y.stop i H' M' x' m' h'.1 (le_of_not_lt hlt),(k.ext (x1.trans x')).nx ρ' M' σ' H' h'.2 (Ext.refl _) s' m'⟩⟩
noncomputable def zam(fr:DSt)(unp:D->Option (List D))(tc:DTT)(te:DTE)(Cd:DH->Prop)(Q:List D->DH->Prop):List D->List D->DH->Prop
 | [],ys,M=>Cd M/\Q ys M
 | d::ds,ys,M=>Cd M/\match unp d with
  | some us=>tc (us.map some++fr) M fun b M3 =>
   if b=true then te (us.map some++fr) M3 fun z M4=>ys.length<sizeLine/\zam fr unp tc te Cd Q ds (ys++[z]) M4 else zam fr unp tc te Cd Q ds ys M3
  | none=>False
noncomputable def zbs(wi:DTI)(ix:List Nat)(unp:D->Option (List D))(tc:DTT)(te:DTE):DTE:=fun ρ M Q=>wi ρ M fun items Cd M1 =>
 zam (ix.map fun i=>(ρ[i]?).getD none) unp tc te Cd (fun ys M2=>ys.length<=sizeLine/\∀ a,M2 a=none->Q (.ref a) (dupd M2 a (.lst ys))) items [] M1
structure Unp(K:Frag)(k:Nat)(unp:D->Option (List D))(gV:TG):Prop where
 len:∀ d us,unp d=some us->us.length=k
 to:∀ d v us frV H Q,Den K H d v->unp d=some us->(∀ ws,Dens K H us ws->Q (ws.map some++frV) H)->gV v (List.replicate k none++frV) H Q
theorem unp1:Unp K 1 (fun d=>some [d]) (zaW 0) where
 len:=fun d us e=>by cases e;rfl
 to:=fun d v us frV H Q den e h=>by cases e;exact h [v] (.cons den .nil)
noncomputable def zbx:D->Option (List D)
 | .tup [a,b]=>some [a,b]
 | _=>none
theorem unp2:Unp K 2 zbx (gTup K 2 (zbT (zaW 0) (zbT (zaW 1) gNil))) where
 len:=fun d us e=>by
  unfold zbx at e;split at e
  ·cases e;rfl
  ·cases e
 to:=fun d v us frV H Q den e h=>by
  unfold zbx at e;split at e
  ·cases e;cases den with
   | tup q r =>
    cases r with
    | cons r1 r =>
     cases r with
     | cons r2 r =>
      cases r;exact⟨_,_,rfl,.of q,rfl,_,_,rfl,_,_,rfl,rfl,h _ (.cons r1 (.cons r2 .nil))⟩
  ·cases e
theorem Q4S{unp:D->Option (List D)}(hu:Unp K k unp gV)
  (h:lE K (zbs wi ix unp tc te) σ H Q):tComp (lI K wi) k ix gV (lT K tc) (lE K te) σ H Q:=by
 obtain⟨ρ,M,R,s,m,h,kk⟩:=h;refine⟨ρ,M,_,s,m,h,fun items Cd M1 H1 J h1 x1 m1 Y=>?_⟩;refine⟨fun i mm ys H'=>mm=items.length-i/\i<=items.length/\∃ M' zs,Ext H1 H'/\SimM K M' H'/\Dens K H' zs ys/\zam (ix.map fun i=>(ρ[i]?).getD none) unp tc te Cd (fun ys M2=>ys.length<=sizeLine/\∀ a,M2 a=none->R (.ref a) (dupd M2 a (.lst ys))) (items.drop i) zs M',⟨_,rfl,ZB _,M1,[],Ext.refl _,m1,.nil,h1⟩,?_⟩;rintro i mm ys H' ⟨rfl,hi,M',zs,x',m',dz,h'⟩;by_cases hlt:i<items.length
 ·right;have hd:items.drop i=items[i]::items.drop (i+1):=Yy hlt;rw[hd]at h';obtain⟨cd,h'⟩:=h';refine⟨Y.go i H' M' x' m' cd hlt,fun y Hy yl=>?_⟩;obtain⟨xy,my,d,ed,den⟩:=Y.yld i H' M' y Hy x' m' cd yl hlt;have:items[i]=d:=by
   rw[Zt hlt]at ed;exact Z6 ed
  rw[this]at h';cases eu:unp d with
  | none=>rw[eu]at h';exact h'.elim
  | some us =>
   rw[eu]at h';refine hu.to d y us _ Hy _ den eu fun ws dw=>?_;have hk:ws.length=k:=by rw[<- dw.length];exact hu.len d us eu
   refine⟨?_,?_,?_⟩
   ·rw[drop_left' (by rw[Zd];exact hk)]
   ·rw[Zi,Zd,Zd,hk]
   ·have xx:=x'.trans xy;have sρ:SimS K Hy (us.map some++ix.map fun i=>(ρ[i]?).getD none) (ws.map some++ix.map fun i=>(σ[i]?).getD none):=(SimS.ofDens dw).append ((s.ext (x1.trans xx)).pick ix);refine⟨_,M',_,sρ,my,h',fun b M3 H3 h3 x3 m3=>?_⟩;cases b with
    | true =>
     refine iteT ⟨_,M3,_,sρ.ext x3,m3,(Ze rfl).mp h3,fun z M4 v H4 ⟨hz,h4⟩ x4 m4 e4=>⟨by rw[<- dz.length];exact hz,_,(show items.length-(i+1)<items.length-i by omega),rfl,hlt,M4,_,(xx.trans x3).trans x4,m4,(dz.ext (xy.trans (x3.trans x4))).append (.cons e4 .nil),h4⟩⟩
    | false=>exact iteF ⟨_,(show items.length-(i+1)<items.length-i by omega),rfl,hlt,M3,zs,xx.trans x3,m3,dz.ext (xy.trans x3),(Zc Zs).mp h3⟩
 ·left;have hd:items.drop i=[]:=Yr (le_of_not_lt hlt);rw[hd]at h';obtain⟨cd,hz,q⟩:=h';exact⟨Y.stop i H' M' x' m' cd (le_of_not_lt hlt),by rw[<- dz.length];exact hz,fun a ha=>kk _ _ _ _ (q a (m'.free ha)) ((x1.trans x').trans (Ext.new ha)) (m'.newL ha dz) (.ref a)⟩
section
variable{scope:Scope}{N fn:List Str}{k:Nat}{ix:List Nat}{elt:Expr}{ifs:List Expr}{wi:DTI}{unp:D->Option (List D)}{gV:TG}{tc:DTT}
noncomputable abbrev DIfs(X:Cx)(ifs:List Expr)(t:DTT):Prop:=PIfs X ifs (lT X.K t)
noncomputable def zaS:DTT:=fun _ M Q=>Q true M
theorem Q8C:DIfs X [] zaS:=fun pins s σ H Q I ⟨ρ,M,R,sm,m,h,k⟩=>Q8o pins s σ H Q I (k true M H h (Ext.refl H) m)
theorem Q2R(h:DT X c tc):DIfs X [c] tc:=Q8p h
theorem QaG(tp:Top X){R0:XC->Hp->Prop}(hx0:zaj X fun cls _ H=>R0 cls H)(hu:Unp X.K k unp gV)(hc:X.calm=true)(ok:zaw X.env.scope scope N k fn)(hix:ix.map (fun i=>X.N[i]?)=fn.map some)(hi:DI X tg iter wi)
  (hg:∀ cl C s₀ H₀ ex E,PG (za0 X scope N cl C s₀ H₀ ex E) tg gV) (ht:∀ cl C s₀ H₀ ex E,zaj (za0 X scope N cl C s₀ H₀ ex E) (fun cls _ H=>R0 cls H)->DIfs (za0 X scope N cl C s₀ H₀ ex E) ifs tc) (he:∀ cl C s₀ H₀ ex E,zaj (za0 X scope N cl C s₀ H₀ ex E) (fun cls _ H=>R0 cls H)->DE (za0 X scope N cl C s₀ H₀ ex E) elt te)
  (hs:∀ x,foldedSetIterable iter X.env x=pure x:=by intro _;rfl):DE X (.ListComp elt [⟨tg,iter,ifs,0⟩] scope pos) (zbs wi ix unp tc te) :=
 (Q4N tp hx0 hc ok hix hi hg ht he hs).imp fun _ _ _ h=>Q4S hu h
theorem Q5U(tp:Top X){R0:XC->Hp->Prop}(hx0:zaj X fun cls _ H=>R0 cls H)(hsw:swapsWith (.ListComp elt [⟨tg,iter,ifs,0⟩] scope pos) (some (.Name x pos')) spos.line X.env=pure true)
  (hN:X.N.Nodup) (hiN:X.N[i]? = some x) (hx:X.env.scope.names.lookup x=some .local) (hu:Unp X.K k unp gV) (hc:X.calm=true) (ok:zaw X.env.scope scope N k fn) (hix:ix.map (fun i=>X.N[i]?)=fn.map some) (hi:DI X tg iter wi)
  (hg:∀ cl C s₀ H₀ ex E,PG (za0 X scope N cl C s₀ H₀ ex E) tg gV) (ht:∀ cl C s₀ H₀ ex E,zaj (za0 X scope N cl C s₀ H₀ ex E) (fun cls _ H=>R0 cls H)->DIfs (za0 X scope N cl C s₀ H₀ ex E) ifs tc) (he:∀ cl C s₀ H₀ ex E,zaj (za0 X scope N cl C s₀ H₀ ex E) (fun cls _ H=>R0 cls H)->DE (za0 X scope N cl C s₀ H₀ ex E) elt te)
  (hs:∀ x,foldedSetIterable iter X.env x=pure x:=by intro _;rfl):DS X (.Assign [.Name x pos'] (.ListComp elt [⟨tg,iter,ifs,0⟩] scope pos) spos) (dAsg (zbs wi ix unp tc te) (zb3 i)) :=
 (Q2d tp hx0 hsw hN hiN hx hc ok hix hi hg ht he hs).imp fun D σ H h=>QaF (fun _ _ _ q=>Q4S hu q) (fun v σ H Q ⟨d,ρ,M,R,e,s,m,h,k⟩=>k _ M _ H h (Ext.refl H) (s.set e i) m) h
end
theorem Yields.tup{a:Addr}{ds:List D}{vs:List V}{H:Hp}{Cd:DH->Prop}(q:SqT K H a vs)(r:Dens K H ds vs):Yields K (Itt K a) ds Cd H where
 go:=fun i H' M x m c hi=>by
  have hi':i<vs.length:=by rw[<- r.length];exact hi
  exact⟨vs,vs[i],SqT.ext x q,Zt hi'⟩
 yld:=fun i H' M y H'' x m c ⟨e,h⟩ hi=>by
  subst e;obtain⟨d,e1,e2⟩:=r.get' (h vs (SqT.ext x q));exact⟨Ext.refl _,m,d,e1,e2.ext x⟩
 stop:=fun i H' M x m c hi=>⟨vs,SqT.ext x q,by rw[<- r.length];exact hi⟩
theorem Yields.fz{a:Addr}{ds:List D}{vs:List V}{H:Hp}{Cd:DH->Prop}(q:FzL K H a vs)(r:Dens K H ds vs):Yields K (Itl K a) ds Cd H where
 go:=fun i H' M x m c hi=>by
  have hi':i<vs.length:=by rw[<- r.length];exact hi
  exact⟨vs,vs[i],(FzL.ext x q).sq,Zt hi'⟩
 yld:=fun i H' M y H'' x m c ⟨e,h⟩ hi=>by
  subst e;obtain⟨d,e1,e2⟩:=r.get' (h vs (FzL.ext x q).sq);exact⟨Ext.refl _,m,d,e1,e2.ext x⟩
 stop:=fun i H' M x m c hi=>⟨vs,(FzL.ext x q).sq,by rw[<- r.length];exact hi⟩
theorem Yields.mut{a:Addr}{ds:List D}{H:Hp}:Yields K (Itl K a) ds (fun M=>M a=some (.lst ds)) H where
 go:=fun i H' M x m c hi=>by
  obtain⟨vs,e,r⟩:=m.get c;have hi':i<vs.length:=by rw[<- r.length];exact hi
  exact⟨vs,vs[i],.of e,Zt hi'⟩
 yld:=fun i H' M y H'' x m c ⟨e,h⟩ hi=>by
  subst e;obtain⟨vs,e,r⟩:=m.get c;obtain⟨d,e1,e2⟩:=r.get' (h vs (.of e));exact⟨Ext.refl _,m,d,e1,e2⟩
 stop:=fun i H' M x m c hi=>by
  obtain⟨vs,e,r⟩:=m.get c;exact⟨vs,.of e,by rw[<- r.length];exact hi⟩
noncomputable def rngD(lo:Int)(n:Nat):List D:=(List.range n).map fun(i:Nat)=>D.int (lo+(i:Int))
theorem Yields.rng{lo:Int}{n:Nat}{H:Hp}{Cd:DH->Prop}:Yields K (Itr lo n) (rngD lo n) Cd H where
 go:=fun i H' M x m c hi=>by
  show i<n;simpa[rngD]using hi
 yld:=fun i H' M y H'' x m c ⟨e,h⟩ hi=>by
  subst e h;have hi':i<n:=by simpa[rngD]using hi
  exact⟨Ext.refl _,m,.int (lo+i),by simp[rngD,hi'],.int _⟩
 stop:=fun i H' M x m c hi=>by
  have:(rngD lo n).length=n:=by simp[rngD]
  rw[this]at hi;exact hi
noncomputable def zbf(ta:DTA):DTI:=fun ρ M R=>ta ρ M fun ds M1=>match ds with
 | [.int j]=>-(2 ^ 62)<=j/\j<2 ^ 62/\R (rngD 0 j.toNat) (fun _=>True) M1
 | _=>False
theorem Q6O(hg:Gl X "range")(hm:X.mg "range" = none)(ha:DA X [a] tr)(hs:starEach [a] X.env=[(false,eval a X.env)]:=by rfl):DI X tg (.Call (.Name "range" p) [a] [] pos) (zbf tr) :=
 (Q6q hg hm ha hs).imp fun σ H R ⟨ρ,M,RD,s,m,h,k⟩=>⟨ρ,M,_,s,m,h,fun ds M1 vs H1 h1 x1 m1 e1=>by
  unfold zbf at h;cases e1 with
  | nil=>exact h1.elim
  | cons d1 e2 =>
   cases e2 with
   | cons d2 e3=>cases d1 <;> exact h1.elim
   | nil =>
    cases d1 with
    | int j=>exact⟨j,rfl,h1.1,h1.2.1,k _ _ M1 H1 _ h1.2.2 x1 m1 Yields.rng⟩
    | _=>exact h1.elim⟩
end
noncomputable def za3(N:List Str)(ds:List D):DSt:=ds.map some++List.replicate (N.length-ds.length) none
noncomputable def dLaw(n:Nat):DSp:=fun ds M R=>match ds with
 | [.lst ds]=>∃ ns:List Int,ds=ns.map D.int/\ns.length<=n/\R (.bl true) M
 | _=>False
theorem Q3F{K:Frag}{H:Hp}:∀ ns:List Int,Dens K H (ns.map D.int) (ns.map V.int)
 | []=>.nil
 | n::r=>.cons (.int n) (Q3F r)
theorem Qcr{K:Frag}{H:Hp}{a:Addr}{ns:List Int}{n:Nat}(hl:ns.length<=n)(hO:Only H)(hS:SqL K H a (ns.map V.int)):lSp K (dLaw n) [.ref a] H (fun v _=>v=.bl true) fun _ _ _=>False:=by
 refine⟨[.lst (ns.map D.int)],fun _=>none,fun d _=>d=.bl true,.cons (.lst ?_ (Q3F ns)) .nil,(fun b o e=>nomatch e),⟨ns,rfl,hl,rfl⟩,fun d M v H' q _ _ e=>?_⟩
 ·rcases hS with (h | ⟨o,h⟩) | h
  ·rcases hO a with z | ⟨o,xs,z⟩
   ·rw[h]at z;cases z
   ·rw[h]at z;cases z
  ·exact .inl ⟨o,h⟩
  ·exact .inr h
 ·have q':d=.bl true:=q;subst q';cases e;rfl
section
variable{X:Cx}{a b c e:Expr}{es:List Expr}{ta tb te:DTE}{tt tu:DTT}{pos:Pos}{K:Frag}
noncomputable abbrev cpOk(x:List Nat):Prop:=(x.all fun c=>decide (c<1114112))=true
theorem cpOk.app(h:cpOk x)(h':cpOk y):cpOk (x++y):=by
 show ((x++y).all _)=true;rw[List.all_append,h,h'];rfl
theorem cpOk.sub(h:cpOk x)(hs:∀ c∈y,c∈x):cpOk y:=ZM.mpr fun c hc=>(ZM.mp h) c (hs c hc)
theorem Q8D(x y:List Nat):S x++S y=S (x++y):=by
 show Str.append (S x) (S y)=S (x++y);unfold Str.append S;simp
theorem Q0B(x:List Nat):(S x).length=x.length:=by unfold S Str.length;simp
theorem S_inj(h:S x=S y):x=y:=by
 unfold S at h;have:=congrArg (fun z:Str=>z.cps.toList) h;simpa using this
theorem Q1w(x:List Nat):(S x).cps.toList=x:=by unfold S;simp
theorem S_of(x:Str):S x.cps.toList=x:=by unfold S;cases x;simp
noncomputable def rI2(C:Int->Int->Prop)(g:Int->Int->Int):DR2:=fun x y M Q=>match x,y with
 | .int i,.int j=>C i j/\Q (.int (g i j)) M
 | _,_=>False
theorem opI2{f:Value->Value->Sem Value}{C:Int->Int->Prop}{g:Int->Int->Int}(h:OpR X f (rI C fun i j=>.int (g i j))):OpD X f (rI2 C g):=by
 rintro pins s σ H x y v u Q I rx ry ⟨dx,dy,M,R,ex,ey,m,q,k⟩;cases ex <;> cases ey <;> first | exact False.elim q | skip
 exact h pins s σ H _ _ v u Q I rx ry ⟨_,_,rfl,rfl,q.1,k _ M _ H q.2 (Ext.refl H) m (.int _)⟩
theorem Qcs{f:Value->Value->Sem Value}{g:Int->Int->V}(h:OpR X f (rI0 g)):OpR X f (rI (fun _ _=>True) g):=h.imp fun x y H Q ⟨i,j,e1,e2,_,q⟩=>⟨i,j,e1,e2,q⟩
theorem Qct:OpD X (binaryOp .Sub) (rI2 (fun _ _=>True) fun i j=>i-j):=opI2 (Qcs QbU)
theorem Qcu:OpD X (binaryOp .Mult) (rI2 CMul fun i j=>i * j):=opI2 QbV
theorem QaH:OpD X (binaryOp .FloorDiv) (rI2 CDiv fun i j=>i / j):=opI2 Qab
theorem Qcv:OpD X (binaryOp .Mod) (rI2 (fun _ j=>0<j) fun i j=>i % j):=opI2 QbW
noncomputable def rAddD:DR2:=fun x y M Q=>match x,y with
 | .int i,.int j=>Q (.int (i+j)) M
 | .str a,.str b=>a.length+b.length<=sizeLine/\Q (.str (a++b)) M
 | .tup xs,.tup ys=>xs.length+ys.length<=sizeLine/\Q (.tup (xs++ys)) M
 | _,_=>False
theorem QaI{s:Shared}{A:Around}{prog:Program}{w:World}{E:Value->Shared->Prop}{t b:Addr}{vs ws:List Value}{Q:Value->Shared->Prop}(ht:IsTup s.heap t vs.toArray)(hb:IsTup s.heap b ws.toArray)
  (h0:vs=[]->Q (.ref b) s) (h1:ws=[]->Q (.ref t) s) (h2:Q (.ref s.heap.objs.size) { s with heap:=s.heap.push { cls:=.type "tuple",data:=.seq (vs++ws).toArray } })
  (hsz:vs.length+ws.length<=sizeLine):wpAny (model prog w) A (binaryOp .Add (.ref t) (.ref b)) Q E s:=by
 obtain⟨⟨cls,dd,data,sl⟩,ho,hc,n,hd⟩:=id ht;obtain⟨⟨cls2,dd2,data2,sl2⟩,ho2,hc2,n2,hd2⟩:=id hb;simp only at hc hd hc2 hd2;subst hc hd hc2 hd2;have e:vs.toArray++ws.toArray=(vs++ws).toArray:=by simp
 by_cases hv:vs=[]
 ·exact concat_meets ⟨_,ho,rfl⟩ ⟨_,ho2,rfl⟩ noFill_tuple_add seq_tuple_add slot_tuple_add entry_tuple_add (args_tuple_add_2 _ _)
   (tuple_addW0 t b vs.toArray ws.toArray n n2 dd dd2 sl sl2 (by simp[hv])) ⟨ho,ho2,h0 hv⟩
 ·by_cases hw:ws=[]
  ·exact concat_meets ⟨_,ho,rfl⟩ ⟨_,ho2,rfl⟩ noFill_tuple_add seq_tuple_add slot_tuple_add entry_tuple_add (args_tuple_add_2 _ _)
    (tuple_addW1 t b vs.toArray ws.toArray n n2 dd dd2 sl sl2 (by simpa using hv) (by simp[hw])) ⟨ho,ho2,h1 hw⟩
  ·refine concat_meets ⟨_,ho,rfl⟩ ⟨_,ho2,rfl⟩ noFill_tuple_add seq_tuple_add slot_tuple_add entry_tuple_add (args_tuple_add_2 _ _)
    (tuple_addW2 t b vs.toArray ws.toArray n n2 dd dd2 sl sl2 (by simpa using hv) (by simpa using hw) (by rw[Z2,Z2];exact hsz)) ⟨ho,ho2,?_⟩
   rw[e];exact h2
theorem Qcw:OpD X (binaryOp .Add) rAddD:=by
 rintro pins s σ H x y v u Q I rx ry ⟨dx,dy,M,R,ex,ey,m,q,k⟩;cases ex with
 | int i=>cases ey <;> first | exact False.elim q | skip
          exact QbT pins s σ H _ _ v u Q I rx ry ⟨_,_,rfl,rfl,k _ M _ H q (Ext.refl H) m (.int _)⟩
 | str i hi=>cases ey <;> first | exact False.elim q | skip
             rename_i j hj;exact Q5K pins s σ H _ _ v u Q I rx ry ⟨_,_,rfl,rfl,by rw[Q0B,Q0B];exact q.1,k _ M _ H q.2 (Ext.refl H) m (by rw[Q8D];exact .str _ (cpOk.app hi hj))⟩
 | tup qx dx=>cases ey <;> first | exact False.elim q | skip
              rename_i ds vs b es ws qy dy;cases rx;cases ry;obtain⟨its,r1,p1,z1⟩:=I.tuple (.of qx);obtain⟨jts,r2,p2,z2⟩:=I.tuple (.of qy);have l1:=dx.length;have l2:=dy.length;have l3:=r1.length;have l4:=r2.length;refine QaI p1 p2 (fun e=>?_) (fun e=>?_) ?_ (by rw[<- l3,<- l4,<- l1,<- l2];exact q.1)
              ·subst e;cases r1;cases dx;exact⟨.ref b,H,I,rfl,k _ M _ H q.2 (Ext.refl H) m (.tup qy dy)⟩
              ·subst e;cases r2;cases dy;refine⟨.ref _,H,I,rfl,k _ M _ H q.2 (Ext.refl H) m ?_⟩;rw[Yh];exact .tup qx dx
              ·have hn:=I.fresh;refine⟨.ref s.heap.objs.size,_,I.laid (t':=s.toks) (o:=.tup (vs++ws)) (fun b ob q=>Zf _ q) (Zo _) ⟨?_,_,r1.append r2,IsTup.new _ _⟩,rfl,k _ M _ _ q.2 (Ext.new hn) (m.new hn) (.tup Q0e ((dx.append dy).ext (Ext.new hn)))⟩;rw[Zi,<- l1,<- l2];exact q.1
 | _=>exact False.elim q
mutual
noncomputable def toPy:D->PyData
 | .non=>.none
 | .bl b=>.bool b
 | .int i=>.int i
 | .str x=>.str (S x)
 | .tup xs=>.tuple (zaG xs)
 | .lst xs=>.list (zaG xs)
 | .ref _=>.none
noncomputable def zaG:List D->List PyData
 | []=>[]
 | x::r=>toPy x::zaG r
end
noncomputable def plain:Nat->D->Bool
 | _,.non=>true
 | _,.int _=>true
 | _,.str _=>true
 | n+1,.tup xs=>xs.all (plain n)
 | n+1,.lst xs=>xs.all (plain n)
 | _,_=>false
theorem Q1d:∀ (n:Nat) (d:D) (v:V),plain n d=true->Den K H d v->(toPy d).canLay0=true/\(toPy d).depth<=n:=by
 have all:∀ (n:Nat),(∀ d v,plain n d=true->Den K H d v->(toPy d).canLay0=true/\(toPy d).depth<=n)->∀ (ds:List D) (vs:List V),ds.all (plain n)=true->Dens K H ds vs->PyData.canLayAll0 (zaG ds)=true/\PyData.depthAll (zaG ds)<=n:=by
  intro n ih ds
  induction ds with
  | nil=>intro vs _ _;simp[zaG,PyData.canLayAll0,PyData.depthAll]
  | cons d ds hi =>
   intro vs h r;cases r with
   | cons r1 r2 =>
    rw[Ye,Zh]at h;have h1:=ih d _ h.1 r1;have h2:=hi _ h.2 r2;simp only[zaG,PyData.canLayAll0,PyData.depthAll,h1.1,h2.1,Bool.and_self,true_and];have a1:=h1.2;have a2:=h2.2;omega
 intro n
 induction n with
 | zero =>
  intro d v h r;cases r with
  | str x hx=>simp[toPy,PyData.canLay0,PyData.depth,PyData.strOk,S];simpa using hx
  | _=>simp_all [plain,toPy,PyData.canLay0,PyData.depth]
 | succ n ih =>
  intro d v h r;cases r with
  | str x hx=>simp[toPy,PyData.canLay0,PyData.depth,PyData.strOk,S];simpa using hx
  | tup q r =>
   have q:=all n ih _ _ (by simpa[plain]using h) r
   have q2:=q.2;simp only[toPy,PyData.canLay0,PyData.depth,q.1,true_and];omega
  | lst q r =>
   have q:=all n ih _ _ (by simpa[plain]using h) r
   have q2:=q.2;simp only[toPy,PyData.canLay0,PyData.depth,q.1,true_and];omega
  | _=>simp_all [plain,toPy,PyData.canLay0,PyData.depth]
theorem Q6P:∀ (n:Nat) (d e:D) (k:Nat),plain n d=true->plain k e=true->(PyData.eqv (toPy d) (toPy e)=true <-> d=e):=by
 have all:∀ (n:Nat),(∀ d e k,plain n d=true->plain k e=true->(PyData.eqv (toPy d) (toPy e)=true <-> d=e))->∀ (k:Nat) (ds es:List D),ds.all (plain n)=true->es.all (plain k)=true ->
   (PyData.eqvAll (zaG ds) (zaG es)=true <-> ds=es):=by
  intro n ih k ds
  induction ds with
  | nil=>intro es _ _;cases es <;> simp[zaG,PyData.eqvAll]
  | cons d ds hi =>
   intro es h1 h2;cases es with
   | nil=>simp[zaG,PyData.eqvAll]
   | cons e es =>
    rw[Ye,Zh]at h1 h2;have q1:=ih d e k h1.1 h2.1;have q2:=hi es h1.2 h2.2;simp only[zaG,PyData.eqvAll,Zh,q1,q2,List.cons.injEq]
 have st:∀ x y:List Nat,(S x==S y)=true <-> x=y:=fun x y=>⟨fun h=>S_inj (by simpa using h),fun h=>by simp[h]⟩
 intro n
 induction n with
 | zero =>
  intro d e k h1 h2;cases d <;> cases e <;> cases k <;> simp_all [plain,toPy,PyData.eqv]
 | succ n ih =>
  intro d e k h1 h2;cases d with
  | tup ds =>
   cases e with
   | tup es =>
    cases k with
    | zero=>simp[plain]at h2
    | succ k =>
     simp only[toPy,PyData.eqv,D.tup.injEq];exact all n ih k ds es (by simpa[plain]using h1) (by simpa[plain]using h2)
   | _=>clear ih all;cases k <;> simp_all [plain,toPy,PyData.eqv]
  | lst ds =>
   cases e with
   | lst es =>
    cases k with
    | zero=>simp[plain]at h2
    | succ k =>
     simp only[toPy,PyData.eqv,D.lst.injEq];exact all n ih k ds es (by simpa[plain]using h1) (by simpa[plain]using h2)
   | _=>clear ih all;cases k <;> simp_all [plain,toPy,PyData.eqv]
  | non=>clear ih all;cases e <;> cases k <;> simp_all [plain,toPy,PyData.eqv]
  | bl b=>simp[plain]at h1
  | int i=>clear ih all;cases e <;> cases k <;> simp_all [plain,toPy,PyData.eqv]
  | str x=>clear ih all;cases e <;> cases k <;> simp_all [plain,toPy,PyData.eqv]
  | ref a=>simp[plain]at h1
theorem Q0x(I:Inv X pins σ H s):∀ (n:Nat) (d:D) (v:V) (u:Value),plain n d=true->Den X.K H d v->L2.RelV v u->∃ as,Reads s.heap u (toPy d) as:=by
 have all:∀ (n:Nat),(∀ d v u,plain n d=true->Den X.K H d v->L2.RelV v u->∃ as,Reads s.heap u (toPy d) as)->∀ (ds:List D) (vs:List V) (us:List Value),ds.all (plain n)=true->Dens X.K H ds vs->Vals vs us->∃ as,ReadsAll s.heap us (zaG ds) as:=by
  intro n ih ds
  induction ds with
  | nil=>intro vs us _ r q;cases r;cases q;exact⟨_,.nil⟩
  | cons d ds hi =>
   intro vs us h r q;rw[Ye,Zh]at h;cases r with
   | cons r1 r2 =>
    cases q with
    | cons q1 q2 =>
     obtain⟨as,h1⟩:=ih d _ _ h.1 r1 q1;obtain⟨bs,h2⟩:=hi _ _ h.2 r2 q2;exact⟨_,.cons h1 h2⟩
 have base:∀ n d v u,plain n d=true->Den X.K H d v->L2.RelV v u->(∀ ds,d≠.tup ds)->(∀ ds,d≠.lst ds)->∃ as,Reads s.heap u (toPy d) as:=by
  intro n d v u h r q n1 n2;cases r with
  | non=>cases q;exact⟨_,.none⟩
  | bl b=>cases q;exact⟨_,.bool b⟩
  | int i=>obtain⟨t,rfl⟩:=q;exact⟨_,.int i t⟩
  | str x hx=>obtain⟨t,rfl⟩:=q;exact⟨_,.str _ t⟩
  | tup _ _=>exact absurd rfl (n1 _)
  | lst _ _=>exact absurd rfl (n2 _)
  | ref a=>cases n <;> simp[plain]at h
 intro n
 induction n with
 | zero =>
  intro d v u h r q;exact base 0 d v u h r q (fun ds e=>by subst e;simp[plain]at h) (fun ds e=>by subst e;simp[plain]at h)
 | succ n ih =>
  intro d v u h r q;cases r with
  | tup sq r =>
   obtain⟨its,rv,⟨o,ho,hc,k,hd⟩,z⟩:=I.tuple (.of sq);cases q;obtain⟨as,ra⟩:=all n ih _ _ _ (by simpa[plain]using h) r rv
   exact⟨_,.tuple ho hc hd (by simpa using ra)⟩
  | lst sq r =>
   obtain⟨its,rv,⟨o,k,ho,hc,hdd,hd⟩,z⟩:=I.list sq.sq;cases q;obtain⟨as,ra⟩:=all n ih _ _ _ (by simpa[plain]using h) r rv
   exact⟨_,.list ho hc hd (by simpa using ra)⟩
  | non=>exact base _ _ _ _ h .non q (fun ds e=>nomatch e) (fun ds e=>nomatch e)
  | bl b=>exact base _ _ _ _ h (.bl b) q (fun ds e=>nomatch e) (fun ds e=>nomatch e)
  | int i=>exact base _ _ _ _ h (.int i) q (fun ds e=>nomatch e) (fun ds e=>nomatch e)
  | str x hx=>exact base _ _ _ _ h (.str x hx) q (fun ds e=>nomatch e) (fun ds e=>nomatch e)
  | ref a=>simp[plain]at h
noncomputable def res(M:DH):D->D
 | .ref a=>match M a with
  | some (.lst ds)=>.lst ds
  | _=>.ref a
 | d=>d
open Classical in
noncomputable def eqB(x y:D):Bool:=decide (x=y)
open Classical in
theorem Q1q(x y:D):eqB x y=true <-> x=y:=by unfold eqB;exact decide_eq_true_iff
open Classical in
theorem Q0T(x y:D):eqB x y=false <-> ¬ x=y:=by unfold eqB;exact decide_eq_false_iff_not
theorem Q4p(x y:List Nat):eqB (.str x) (.str y)=decide (x=y):=by
 by_cases h:x=y
 ·rw[Zm h,(Q1q _ _).mpr (by rw[h])]
 ·rw[Zr h,(Q0T _ _).mpr (fun e=>h (D.str.inj e))]
theorem QaJ(x y:Int):eqB (.int x) (.int y)=decide (x=y):=by
 by_cases h:x=y
 ·rw[Zm h,(Q1q _ _).mpr (by rw[h])]
 ·rw[Zr h,(Q0T _ _).mpr (fun e=>h (D.int.inj e))]
theorem Q0J(x:D):eqB x x=true:=(Q1q x x).mpr rfl
noncomputable def rEqN(f:Bool->Bool):DR2:=fun x y M Q=>match x,y with
 | .bl a,.bl b=>Q (.bl (f (a==b))) M
 | x,y=>plain 12 (res M x)=true/\plain 12 (res M y)=true/\Q (.bl (f (eqB (res M x) (res M y)))) M
theorem Q2f(I:Inv X pins σ H s)(m:SimM X.K M H)(h:plain n (res M d)=true)(e:Den X.K H d v)(r:L2.RelV v u) :
  (∃ as,Reads s.heap u (toPy (res M d)) as)/\(toPy (res M d)).canLay0=true/\(toPy (res M d)).depth<=n:=by
 by_cases hr:∃ a,d=.ref a
 ·obtain⟨a,rfl⟩:=hr;cases e;cases q:M a with
  | none=>simp only[res,q]at h;cases n <;> simp[plain]at h
  | some o =>
   cases o with
   | oth _=>simp only[res,q]at h;cases n <;> simp[plain]at h
   | lst ds =>
    simp only[res,q]at h ⊢;cases n with
    | zero=>simp[plain]at h
    | succ n =>
     obtain⟨vs,e1,e2⟩:=m.get q
     -- as if it were finished
     obtain⟨o,I2⟩:=I.frozen e1;have x:=Ext.lst (o:=.frz o (.lst vs)) e1;have den:Den X.K (upd H a (.frz o (.lst vs))) (.lst ds) (.ref a):=.lst (.inl ⟨o,Q0e⟩) (e2.ext x);exact⟨Q0x I2 _ _ _ _ h den r,Q1d _ _ _ h den⟩
 ·have e2:res M d=d:=by cases d <;> first | rfl | exact absurd ⟨_,rfl⟩ hr
  rw[e2]at h ⊢;exact⟨Q0x I _ _ _ _ h e r,Q1d _ _ _ h e⟩
theorem bEq(x y:D)(n k:Nat)(h1:plain n x=true)(h2:plain k y=true):PyData.eqv (toPy x) (toPy y)=eqB x y:=by
 have h:=Q6P n x y k h1 h2;cases q:eqB x y with
 | true=>exact h.mpr ((Q1q x y).mp q)
 | false =>
  cases q2:PyData.eqv (toPy x) (toPy y) with
  | false=>rfl
  | true=>exact absurd (h.mp q2) ((Q0T x y).mp q)
theorem Q9O{f:Bool->Bool}(hu:X.A.units+64<cLine)
  (r1:∀ {a b:Value} {da db:PyData} {as bs:List Addr} {Q:Value->Shared->Prop} {s:Shared} (ra:Reads s.heap a da as) (rb:Reads s.heap b db bs) (ha:SeqAt.shaped da=true) (hb:SeqAt.shaped db=true),Q (.bool (f (PyData.eqv da db))) s->wpAny (model X.prog X.w) X.A (compareOp op a b) Q X.xe s):OpD X (compareOp op) (rEqN f):=by
 rintro pins s σ H x y v u Q I rx ry ⟨dx,dy,M,R,ex,ey,m,q,k⟩;by_cases hb:(∃ a,dx=.bl a)/\∃ b,dy=.bl b
 ·obtain⟨⟨a,rfl⟩,⟨b,rfl⟩⟩:=hb;cases ex;cases ey;cases rx;cases ry;refine r1 (Reads.bool a) (Reads.bool b) rfl rfl ⟨.bl (f (a==b)),H,I,?_,k _ M _ H q (Ext.refl H) m (.bl _)⟩;simp[PyData.eqv,L2.RelV]
 ·have q':plain 12 (res M dx)=true/\plain 12 (res M dy)=true/\R (.bl (f (eqB (res M dx) (res M dy)))) M:=by
   unfold rEqN at q;split at q
   ·exact absurd ⟨⟨_,rfl⟩,⟨_,rfl⟩⟩ hb
   ·exact q
  obtain⟨h1,h2,q⟩:=q';obtain⟨⟨as,ra⟩,c1,d1⟩:=Q2f I m h1 ex rx;obtain⟨⟨bs,rb⟩,c2,d2⟩:=Q2f I m h2 ey ry;have sh:∀ d:PyData,d.canLay0=true->d.depth<=12->SeqAt.shaped d=true:=fun d h1 h2=>by
   unfold SeqAt.shaped;rw[h1,Bool.true_and];exact Zm (by omega)
  refine r1 ra rb (sh _ c1 d1) (sh _ c2 d2) ?_;rw[bEq _ _ _ _ h1 h2];exact⟨.bl _,H,I,rfl,k _ M _ H q (Ext.refl H) m (.bl _)⟩
theorem od_eq(hu:X.A.units+64<cLine):OpD X (compareOp .Eq) (rEqN id):=Q9O hu fun ra rb ha hb h=>SeqAt.compareEq_shaped ra rb ha hb hu h
theorem od_ne(hu:X.A.units+64<cLine):OpD X (compareOp .NotEq) (rEqN not):=Q9O hu fun ra rb ha hb h=>SeqAt.compareNe_shaped ra rb ha hb hu h
end
noncomputable def cut{α:Type}(xs:List α)(lo hi:Option Int):List α:=(xs.drop (HT.sIx xs.length 0 lo)).take (HT.sIx xs.length xs.length hi-HT.sIx xs.length 0 lo)
theorem QaK{α:Type}{xs:List α}{lo hi:Option Int}{c:α}(h:c∈cut xs lo hi):c∈xs:=List.mem_of_mem_drop (mem_of_mem_take h)
theorem cut_len{α:Type}(xs:List α)(lo hi:Option Int):(cut xs lo hi).length<=xs.length:=by
 unfold cut;rw[Z1,length_drop];omega
theorem Q5V{α:Type}(xs:List α)(i:Nat):∀ k:Nat,((List.range k).map fun m=>i+m).filterMap (fun j=>xs[j]?)=(xs.drop i).take k:=by
 intro k
 induction k with
 | zero=>simp
 | succ k ih =>
  rw[range_succ,Z7,List.filterMap_append,ih];simp only[Zy,map_nil,filterMap_cons,List.filterMap_nil];rw[List.take_succ,List.getElem?_drop];cases xs[i+k]? <;> simp
theorem sliceIdx(lo hi:Option Int)(n:Nat):Builtin.Str.strSliceIndices lo hi 1 n=(List.range (HT.sIx n n hi-HT.sIx n 0 lo)).map fun m=>HT.sIx n 0 lo+m:=by
 have h1:(1:Int) > 0:=by decide
 have cl:∀ (v:Int) (d:Nat),max 0 (min (if v<0 then v+(n:Int) else v) (n:Int))=((HT.sIx n d (some v):Nat):Int):=fun v d=>by
  show _=((if v<0 then (v+(n:Int)).toNat else min v.toNat n:Nat):Int)
  split <;> omega
 have key:∀ I J:Nat,sliceRange (I:Int) (J:Int) 1=(List.range (J-I)).map fun m=>I+m:=fun I J=>by
  unfold sliceRange;have hc:(if (1:Int) > 0 then (if (I:Int)<(J:Int) then ((J:Int)-(I:Int)+1-1) / 1 else 0) else (if (I:Int) > (J:Int) then ((I:Int)-(J:Int)-1-1) / (-1) else 0))=((J-I:Nat):Int):=by
   rw[Ze h1];split <;> omega
  simp only[hc,Zx];refine map_congr_left fun k _=>?_;omega
 unfold Builtin.Str.strSliceIndices;simp only[h1,Yw];cases lo with
 | none =>
  cases hi with
  | none=>exact key 0 n
  | some j=>exact (congrArg (fun z=>sliceRange 0 z 1) (cl j n)).trans (key 0 _)
 | some i =>
  cases hi with
  | none=>exact (congrArg (fun z=>sliceRange z n 1) (cl i 0)).trans (key _ n)
  | some j=>exact (congr (congrArg (fun z y=>sliceRange z y 1) (cl i 0)) (cl j n)).trans (key _ _)
theorem QaL(x:List Nat)(lo hi:Option Int):Txt.slice (S x) lo hi=S (cut x lo hi):=by
 unfold Txt.slice;rw[Q0B,sliceIdx];split
 ·rename_i h;have h':HT.sIx x.length x.length hi-HT.sIx x.length 0 lo=x.length:=by simpa using h
  have h2:HT.sIx x.length x.length hi<=x.length:=HT.sIx_le _ _ (Zo _) hi;unfold cut;have h3:HT.sIx x.length 0 lo=0:=by
   by_cases hx:x.length=0
   ·have:=HT.sIx_le x.length 0 (ZB _) lo;omega
   ·omega
  rw[h',h3,drop_zero,Yc]
 ·unfold cut S;rw[<- Q5V];simp
section
variable{X:Cx}{a b c e:Expr}{es:List Expr}{ta tb te:DTE}{tt tu:DTT}{pos p2:Pos}{K:Frag}
noncomputable abbrev DTO:=DSt->DH->(Option Int->DH->Prop)->Prop
noncomputable def lO(K:Frag)(t:DTO):TO:=fun σ H Q=>∃ ρ M R,SimS K H ρ σ/\SimM K M H/\t ρ M R/\∀ o M' H',R o M'->Ext H H'->SimM K M' H'->Q o H'
noncomputable abbrev DO(X:Cx)(e:Option Expr)(t:DTO):Prop:=PO X e (lO X.K t)
theorem PO.imp{e:Option Expr}{T T':TO}(h:PO X e T)(i:∀ σ H Q,T' σ H Q->T σ H Q):PO X e T':=fun pins s σ H Q I q=>h pins s σ H Q I (i σ H Q q)
noncomputable def zbA:DTO:=fun _ M Q=>Q none M
noncomputable def zbU(t:DTE):DTO:=fun ρ M Q=>t ρ M fun x M1=>match x with
 | .int i=>Q (some i) M1
 | _=>False
theorem QaM:DO X none zbA:=PO.imp Qam fun σ H Q ⟨ρ,M,R,s,m,h,k⟩=>k none M H h (Ext.refl H) m
theorem Q4q(h:DE X e te):DO X (some e) (zbU te):=PO.imp (Qan h) fun σ H Q ⟨ρ,M,R,s,m,h,k⟩=>⟨ρ,M,_,s,m,h,fun d M1 v H1 h1 x1 m1 e1=>by
 cases e1 <;> first | exact False.elim h1 | exact⟨_,rfl,k _ M1 H1 h1 x1 m1⟩⟩
noncomputable def rSlD:D->Option Int->Option Int->DH->DK->Prop:=fun x lo hi M Q=>match x with
 | .str z=>z.length<=sizeLine/\Q (.str (cut z lo hi)) M
 | .tup xs=>Q (.tup (cut xs lo hi)) M
 | .lst xs=>∀ p,M p=none->Q (.ref p) (dupd M p (.lst (cut xs lo hi)))
 | .ref a=>match M a with
  | some (.lst xs)=>∀ p,M p=none->Q (.ref p) (dupd M p (.lst (cut xs lo hi)))
  | _=>False
 | _=>False
noncomputable def lSl(K:Frag)(r:D->Option Int->Option Int->DH->DK->Prop):V->Option Int->Option Int->Hp->VK->Prop:=fun x lo hi H Q=>∃ d M R,Den K H d x/\SimM K M H/\r d lo hi M R/\Aft K H R Q
theorem Dens.cut(h:Dens K H ds vs)(lo hi:Option Int):Dens K H (DL.cut ds lo hi) (cutV vs lo hi):=by
 unfold DL.cut cutV;rw[h.length];exact (h.drop _).take _
theorem Q6Q{prog:Program}{w:World}{A:Around}{E:Value->Shared->Prop}{s:Shared}{t sl:Addr}{items:Array Value}{vl vu:Value}{lo hi:Option Int}{Q:Value->Shared->Prop}(ht:IsTup s.heap t items)(hs:s.heap.IsSliceOf sl vl vu .none)(pl:IsPart vl lo)(pu:IsPart vu hi)
  (hw:HT.sIx items.size 0 lo=0/\HT.sIx items.size items.size hi=items.size) (h:Q (.ref t) s):wpAny (model prog w) A (getItem (.ref t) (.ref sl)) Q E s:=by
 obtain⟨os,hos,hcs,hds⟩:=id hs;have hTs:s.TypeIs (.ref sl) "slice":=⟨os,hos,hcs⟩;unfold getItem
 try with_reducible refine ZW ?_
 first | refine Za (Zb ?_) | skip
 refine Za (wpAny_sequenceKey ht.typeIs (by decide) ?_)
 refine Za (wpAny_callSpecial?_slot (name:=Str.ofString "__getitem__") ht.typeIs Yl
  (ZP Yl ht.typeIs entry_tuple_getitem ?_ (args_tuple_getitem _ _)))
 show wpAny _ _ (Builtin.Tuple.tupleItemsOf (.ref t) >>= _) _ _ s;refine Za (tupleItemsOf_ ht ?_);refine Za (wpAny_typeOf hTs ?_);rw[Ze (by decide)]
 refine Za (HT.sliceApplied_gen hs pl pu ?_);have hyes:((((HT.sIx items.size 0 lo:Nat):Int)==0&&(1:Int)==1&&(HT.sIx items.size items.size hi-HT.sIx items.size 0 lo)==items.size)=true):=by
  rw[hw.1,hw.2];simp
 show wpAny _ _ (if (((HT.sIx items.size 0 lo:Nat):Int)==0&&(1:Int)==1&&(HT.sIx items.size items.size hi-HT.sIx items.size 0 lo)==items.size)=true then _ else _) _ _ s
 rw[Ze hyes];unfold Builtin.Tuple.tupleIsExact;refine Za (Za (wpAny_typeOf ht.typeIs (Zb ?_)));rw[Ze (by decide)]
 exact Za (wpAny_rule (Zb ⟨_,rfl,Zb h⟩))
theorem Qcx:SlR X (lSl X.K rSlD):=by
 rintro pins s σ H x v vl vu lo hi sl Q I rx hs pl pu ⟨d,M,R,e,m,q,k⟩;have viaL:∀ {p:Addr} {ds:List D} {vs:List V},x=.ref p->SqL X.K H p vs->Dens X.K H ds vs->(∀ p,M p=none->R (.ref p) (dupd M p (.lst (DL.cut ds lo hi))))->∃ T id,typeLookup (.type T) "__getitem__" = pure (some (.builtin id))/\s.TypeIs v T/\wpAny (model X.prog X.w) X.A (getItem v (.ref sl)) (EP X pins σ Q) X.xe s:=by
  intro p ds vs ex sq dn q;subst ex;exact Qaq pins s σ H _ v vl vu lo hi sl Q I rx hs pl pu ⟨p,vs,rfl,sq,fun p hp=>k _ _ _ _ (q p (m.free hp)) (Ext.new hp) (m.newL hp (Dens.cut dn lo hi)) (.ref p)⟩
 cases e with
 | str z hz =>
  obtain⟨t,rfl⟩:=rx;refine⟨"str",_,F.slot_str_getitem.lookup,typeIs_str s _ t,?_⟩;have go:∀ (l u:Option (Int×Tok)),l.map (·.1)=lo->u.map (·.1)=hi->s.heap.IsSlice sl l u none->wpAny (model X.prog X.w) X.A (getItem (.str (S z) t) (.ref sl)) (EP X pins σ Q) X.xe s:=by
   intro l u e1 e2 hsl;have es:Txt.slice (S z) lo hi=S (DL.cut z lo hi):=QaL z lo hi;have fin:∀ (t':Tok) (tk:Nat),EP X pins σ Q (.str (S (DL.cut z lo hi)) t') { s with toks:=tk }:=fun t' tk=>⟨.str (S (DL.cut z lo hi)),H,I.tok tk,⟨t',rfl⟩,k _ M _ H q.2 (Ext.refl H) m (.str _ (cpOk.sub hz fun c hc=>QaK hc))⟩;refine wpAny_getItem_str_slice (l:=l) (u:=u) (st:=none) hsl rfl ?_;unfold sliceMade;unfold Txt.slice at es;unfold slicePicked;rw[e1,e2];simp only[Option.map_none,Option.getD_none];by_cases hc:((1:Int)==1&&(Builtin.Str.strSliceIndices lo hi 1 (S z).length).length==(S z).length)=true
   ·rw[Ze hc]at es ⊢;have:=fin t s.toks;rw[<- es]at this;exact this
   ·rw[Zc hc]at es ⊢;rw[es];refine⟨?_,fin _ _⟩;show (S (DL.cut z lo hi)).length<=sizeLine;rw[Q0B];exact Z4 (cut_len z lo hi) q.1
  obtain⟨os,hos,hcs,hds⟩:=hs;cases pl with
  | none =>
   cases pu with
   | none=>exact go none none rfl rfl ⟨os,hos,hcs,hds⟩
   | int j u=>exact go none (some (j,u)) rfl rfl ⟨os,hos,hcs,hds⟩
  | int i t =>
   cases pu with
   | none=>exact go (some (i,t)) none rfl rfl ⟨os,hos,hcs,hds⟩
   | int j u=>exact go (some (i,t)) (some (j,u)) rfl rfl ⟨os,hos,hcs,hds⟩
 | tup sq dn =>
  rename_i p ds vs;cases rx;have hl:=dn.length;by_cases hw:HT.sIx vs.length 0 lo=0/\HT.sIx vs.length vs.length hi=vs.length
  ·obtain⟨its,r,ht,hz⟩:=I.tuple (.of sq);have hlen:its.toArray.size=vs.length:=by rw[Z2];exact r.length.symm
   refine⟨"tuple",_,Yl.lookup,ht.typeIs,Q6Q ht hs pl pu (by rw[hlen];exact hw) ⟨.ref p,H,I,rfl,k _ M _ H q (Ext.refl H) m ?_⟩⟩
   have:DL.cut ds lo hi=ds:=by
    unfold DL.cut;rw[hl,hw.1,hw.2,drop_zero,<- hl,sub_zero,Yc]
   rw[this];exact .tup sq dn
  ·exact Qc3 pins s σ H (.ref p) _ vl vu lo hi sl Q I rfl hs pl pu ⟨p,vs,rfl,.of sq,hw,fun p hp=>k _ M _ _ q (Ext.new hp) (m.new hp) (.tup Q0e ((Dens.cut dn lo hi).ext (Ext.new hp)))⟩
 | lst sq dn=>exact viaL rfl sq.sq dn q
 | ref p =>
  cases qa:M p with
  | none=>simp only[rSlD,qa]at q
  | some o =>
   cases o with
   | oth _=>simp only[rSlD,qa]at q
   | lst ds =>
    simp only[rSlD,qa]at q;obtain⟨vs,e2,dn⟩:=m.get qa;exact viaL rfl (.of e2) dn q
 | _=>exact False.elim q
noncomputable def dSl(te:DTE)(tl th:DTO):DTE:=fun ρ M Q=>te ρ M fun x M1=>tl ρ M1 fun l M2=>th ρ M2 fun u M3=>rSlD x l u M3 Q
theorem Q8E{lo hi:Option Expr}{tl th:DTO}(he:DE X e te)(hl:DO X lo tl)(hh:DO X hi th):DE X (.Subscript e (.Slice lo hi none p2) pos) (dSl te tl th) :=
 (Q8l Qcx he hl hh).imp fun σ H Q ⟨ρ,M,R,s,m,h,k⟩=>⟨ρ,M,_,s,m,h,fun d1 M1 v1 H1 h1 x1 m1 e1=>⟨ρ,M1,_,s.ext x1,m1,h1,fun l M2 H2 h2 x2 m2=>⟨ρ,M2,_,s.ext (x1.trans x2),m2,h2,fun u M3 H3 h3 x3 m3 =>
  ⟨d1,M3,R,e1.ext (x2.trans x3),m3,h3,k.ext (x1.trans (x2.trans x3))⟩⟩⟩⟩
noncomputable def rIxD:DR2:=fun x y M Q=>match x,y with
 | .str z,.int i=>match atI z i with
  | some c=>z.length<=sizeLine/\Q (.str [c]) M
  | none=>False
 | .tup xs,.int i=>match atI xs i with
  | some d=>Q d M
  | none=>False
 | .lst xs,.int i=>match atI xs i with
  | some d=>Q d M
  | none=>False
 | .ref a,.int i=>match M a with
  | some (.lst xs)=>match atI xs i with
   | some d=>Q d M
   | none=>False
  | _=>False
 | _,_=>False
theorem Dens.atI(h:Dens K H ds vs)(e:L2.atI ds i=some d):∃ v,L2.atI vs i=some v/\Den K H d v:=by
 unfold L2.atI at e ⊢;rw[h.length]at e;cases q:ixN vs.length i with
 | none=>rw[q]at e;cases e
 | some j =>
  rw[q]at e;obtain⟨v,e1,e2⟩:=h.get (i:=j) (d:=d) e;exact⟨v,e1,e2⟩
theorem Qcy:IxR X (lR2 X.K rIxD):=by
 rintro value slice pins s σ H x y v u Q I rx ry ⟨dx,dy,M,R,ex,ey,m,q,k⟩ hsub;have viaL:∀ {p:Addr} {ds:List D} {vs:List V} {i:Int},x=.ref p->y=.int i->SqL X.K H p vs->Dens X.K H ds vs->(match atI ds i with | some d=>R d M | none=>False)->wpAny (model X.prog X.w) X.A (subscriptTail value slice v u) (EP X pins σ Q) X.xe s:=by
  intro p ds vs i e1 e2 sq dn q;subst e1 e2;cases ei:atI ds i with
  | none=>rw[ei]at q;exact q.elim
  | some d =>
   rw[ei]at q;obtain⟨w,e3,e4⟩:=Dens.atI dn ei;exact Qap value slice pins s σ H _ _ v u Q I rx ry ⟨p,vs,i,w,rfl,rfl,sq,e3,k _ M _ H q (Ext.refl H) m e4⟩ hsub
 cases ex with
 | str z hz =>
  cases ey <;> first | exact False.elim q | skip
  rename_i i;have q:(match atI z i with | some c=>z.length<=sizeLine/\R (.str [c]) M | none=>False):=q
  cases ei:atI z i with
  | none=>rw[ei]at q;exact q.elim
  | some c =>
   rw[ei]at q;obtain⟨j,_,ej,_⟩:=Q2M ei;exact ix_str value slice pins s σ H _ _ v u Q I rx ry ⟨S z,i,c,rfl,rfl,by rw[Q0B];exact q.1,by rw[Q1w];exact ei,k _ M _ H q.2 (Ext.refl H) m (.str [c] (cpOk.sub hz fun c' hc=>by rw[Zz.mp hc];exact ZG ej))⟩ hsub
 | tup sq dn =>
  cases ey <;> first | exact False.elim q | skip
  rename_i p ds vs i;have q:(match atI ds i with | some d=>R d M | none=>False):=q
  cases ei:atI ds i with
  | none=>rw[ei]at q;exact q.elim
  | some d =>
   rw[ei]at q;obtain⟨w,e3,e4⟩:=Dens.atI dn ei;exact ix_tup value slice pins s σ H _ _ v u Q I rx ry ⟨p,vs,i,w,rfl,rfl,.of sq,e3,k _ M _ H q (Ext.refl H) m e4⟩ hsub
 | lst sq dn =>
  cases ey <;> first | exact False.elim q | skip
  exact viaL rfl rfl sq.sq dn q
 | ref p =>
  cases ey <;> first | exact False.elim q | skip
  cases qa:M p with
  | none=>simp only[rIxD,qa]at q
  | some o =>
   cases o with
   | oth _=>simp only[rIxD,qa]at q
   | lst ds =>
    simp only[rIxD,qa]at q;obtain⟨vs,e2,dn⟩:=m.get qa;exact viaL rfl rfl (.of e2) dn q
 | _=>exact False.elim q
theorem de_ix(ha:DE X a ta)(hb:DE X b tb)(hs:zbv b:=by intro _ _;rfl):DE X (.Subscript a b pos) (dOp rIxD ta tb) :=
 (pe_ix Qcy ha hb hs).imp fun σ H Q h=>Q4R (fun _ _ _ _ q=>q) h
noncomputable def rLtD(f:Int->Int->Bool):DR2:=fun x y M Q=>match x,y with
 | .int i,.int j=>Q (.bl (f i j)) M
 | _,_=>False
theorem opB2{f:Int->Int->Bool}(h:OpR X (compareOp op) (rI0 fun i j=>.bl (f i j))):OpD X (compareOp op) (rLtD f):=by
 rintro pins s σ H x y v u Q I rx ry ⟨dx,dy,M,R,ex,ey,m,q,k⟩;cases ex <;> cases ey <;> first | exact False.elim q | skip
 exact h pins s σ H _ _ v u Q I rx ry ⟨_,_,rfl,rfl,k _ M _ H q (Ext.refl H) m (.bl _)⟩
theorem od_lt:OpD X (compareOp .Lt) (rLtD fun i j=>decide (i<j)):=opB2 op_lt
theorem od_le:OpD X (compareOp .LtE) (rLtD fun i j=>decide (i<=j)):=opB2 op_le
noncomputable def isNon:D->Bool
 | .non=>true
 | _=>false
noncomputable def rIsN(f:Bool->Bool):DR2:=fun x y M Q=>match y with
 | .non=>Q (.bl (f (isNon x))) M
 | _=>False
theorem Qcz:OpD X (compareOp .Is) (rIsN id):=by
 rintro pins s σ H x y v u Q I rx ry ⟨dx,dy,M,R,ex,ey,m,q,k⟩;cases ey <;> first | exact False.elim q | skip
 refine QbY pins s σ H _ _ v u Q I rx ry ⟨rfl,?_⟩;have:decide (x=V.non)=isNon dx:=by cases ex <;> rfl
 rw[this];exact k _ M _ H q (Ext.refl H) m (.bl _)
theorem QaN:OpD X (compareOp .IsNot) (rIsN not):=by
 rintro pins s σ H x y v u Q I rx ry ⟨dx,dy,M,R,ex,ey,m,q,k⟩;cases ey <;> first | exact False.elim q | skip
 refine Qac pins s σ H _ _ v u Q I rx ry ⟨rfl,?_⟩;have:decide (x=V.non)=isNon dx:=by cases ex <;> rfl
 rw[this];exact k _ M _ H q (Ext.refl H) m (.bl _)
noncomputable def zaT(r r':DR2)(ta tb tc:DTE):DTE:=fun ρ M Q=>ta ρ M fun x M1=>tb ρ M1 fun y M2=>r x y M2 fun z M3=>match z with
 | .bl k=>if k=true then tc ρ M3 fun z' M4=>r' y z' M4 Q else Q (.bl false) M3
 | _=>False
theorem Q3G(h:lE K (zaT r r' ta tb tc) σ H Q):zbJ (lR2 K r) (lR2 K r') (lE K ta) (lE K tb) (lE K tc) σ H Q:=by
 obtain⟨ρ,M,R,s,m,h,k⟩:=h;refine⟨ρ,M,_,s,m,h,fun d1 M1 v1 H1 h1 x1 m1 e1=>⟨ρ,M1,_,s.ext x1,m1,h1,fun d2 M2 v2 H2 h2 x2 m2 e2=>⟨d1,d2,M2,_,e1.ext x2,e2,m2,h2,fun d3 M3 v3 H3 h3 x3 m3 e3=>?_⟩⟩⟩;have xx:=(x1.trans x2).trans x3;cases d3 with
 | bl c =>
  cases e3;refine⟨c,rfl,?_⟩;cases c with
  | true=>exact⟨ρ,M3,_,s.ext xx,m3,(Ze rfl).mp h3,fun d4 M4 v4 H4 h4 x4 m4 e4=>⟨d2,d4,M4,R,e2.ext (x3.trans x4),e4,m4,h4,k.ext (xx.trans x4)⟩⟩
  | false=>exact k _ M3 _ H3 ((Zc Zs).mp h3) xx m3 (.bl _)
 | _=>exact False.elim h3
theorem Q8F(ho:OpD X (compareOp op) r)(ho':OpD X (compareOp op') r')(ha:DE X a ta)(hb:DE X b tb)(hc:DE X c tc)
  (hm:lastMarks [op,op'] [b,c]=false:=by with_unfolding_all rfl):DE X (.Compare a [op,op'] [b,c] pos) (zaT r r' ta tb tc):=(Q8e ho ho' ha hb hc hm).imp fun σ H Q h=>Q3G h
theorem Q8G(ho:OpD X (compareOp op) r)(ho':OpD X (compareOp op') r')(ha:DE X a ta)(hb:DE X b tb)(hc:DE X c tc)
  (hm:lastMarks [op,op'] [b,c]=false:=by with_unfolding_all rfl):DT X (.Compare a [op,op'] [b,c] pos) (dB (zaT r r' ta tb tc)) :=
 (Q8f ho ho' ha hb hc hm).imp fun σ H Q ⟨ρ,M,R,s,m,h,k⟩=>Q3G ⟨ρ,M,_,s,m,h,fun d M1 v H1 h1 x1 m1 e1=>by
  cases d with
  | bl c=>cases e1;exact⟨c,rfl,k c M1 H1 h1 x1 m1⟩
  | _=>exact False.elim h1⟩
end
section
variable{X:Cx}{a b c e:Expr}{es:List Expr}{ta tb te:DTE}{tt tu:DTT}{pos p2:Pos}{K:Frag}
inductive Ty where
 | non | bool | int | str | tuple | list
 deriving DecidableEq
noncomputable def Ty.nm:Ty->String
 | .non=>"NoneType" | .bool=>"bool" | .int=>"int" | .str=>"str" | .tuple=>"tuple" | .list=>"list"
noncomputable def Ty.sub:Ty->Ty->Bool
 | .bool,.int=>true
 | a,b=>decide (a=b)
noncomputable def tyD:D->Ty
 | .non=>.non | .bl _=>.bool | .int _=>.int | .str _=>.str | .tup _=>.tuple | .lst _=>.list | .ref _=>.list
theorem Q1r(K:Frag)(a b:Ty)(hb:b≠.non):kitOne K (.type a.nm) (.type b.nm)=some (a.sub b):=by
 cases a <;> cases b <;> first | exact absurd rfl hb | with_unfolding_all rfl
noncomputable def dIsI(T:Ty)(te:DTE):DTE:=fun ρ M Q=>te ρ M fun d M1=>match d with
 | .ref a=>match M1 a with
  | some (.lst _)=>Q (.bl (Ty.sub .list T)) M1
  | _=>False
 | d=>Q (.bl ((tyD d).sub T)) M1
theorem QcA(T:Ty)(hT:T≠.non){p:Pos}(hx:bootBuiltins x=some (.type T.nm))(he:DE X e te)(hg:Gl X "isinstance")(hm:X.mg "isinstance" = none)(hg2:Gl X x)(hm2:X.mg x=none)(hn:x ≠ "__name__":=by decide)(hdb:(x==("__debug__" : Str))=false:=by decide)
  (hs:starEach [e,.Name x p3] X.env=(false,eval e X.env)::starEach [.Name x p3] X.env:=by rfl) (hs2:starEach [.Name x p3] X.env=(false,eval (.Name x p3) X.env)::starEach [] X.env:=by rfl) (hpl:(backTo pos (starEach [.Name x p3] X.env)).any (·.1)=false:=by rfl) :
  DE X (.Call (.Name "isinstance" p) [e,.Name x p3] [] pos) (dIsI T te):=by
 have hc:zaY X (.builtin "isinstance") (fun xs H Q=>∃ d M R v,xs=[v,.ty T.nm]/\Den X.K H d v/\SimM X.K M H/\Aft X.K H R Q/\(match d with
  | .ref a=>match M a with
   | some (.lst _)=>R (.bl (Ty.sub .list T)) M
   | _=>False
  | d=>R (.bl ((tyD d).sub T)) M)):=by
  rintro pins s σ H xs us Q I rv ⟨d,M,R,v,e,den,m,k,q⟩;subst e;cases rv with
  | cons r1 rv =>
   cases rv with
   | cons r2 rv =>
    cases rv;cases r2;have fin:∀ b,R (.bl b) M->∀ tk,EP X pins σ Q (.bool b) { s with toks:=tk }:=fun b hb tk=>⟨.bl b,H,I.tok tk,rfl,k _ M _ H hb (Ext.refl H) m (.bl b)⟩;cases den with
    | non=>exact Q0X I r1 .non (Q1r X.K .non T hT) (fin _ q)
    | bl b=>exact Q0X I r1 (.bl b) (Q1r X.K .bool T hT) (fin _ q)
    | int i=>exact Q0X I r1 (.int i) (Q1r X.K .int T hT) (fin _ q)
    | str z hz=>exact Q0X I r1 (.str _) (Q1r X.K .str T hT) (fin _ q)
    | tup sq dn =>
     cases r1;obtain⟨its,r,⟨o,h1,h2,_⟩,hz⟩:=I.tuple (.of sq);exact kia_one kitx_tuple I.kIn ⟨o,h1,h2⟩ (Q1r X.K .tuple T hT) (fun z=>nomatch z) (fin _ q)
    | lst sq dn =>
     cases r1;obtain⟨its,r,⟨o,n,h1,h2,_⟩,hz⟩:=I.list sq.sq;exact kia_one kitx_list I.kIn ⟨o,h1,h2⟩ (Q1r X.K .list T hT) (fun z=>nomatch z) (fin _ q)
    | ref p =>
     cases qa:M p with
     | none=>simp only[qa]at q
     | some o =>
      cases o with
      | oth _=>simp only[qa]at q
      | lst ds =>
       simp only[qa]at q;cases r1;obtain⟨vs,e2,dn⟩:=m.get qa;exact Q0X (x:=.ref p) I rfl (.lst e2) (Q1r X.K .list T hT) (fin _ q)
 refine (Q4M hc hg hm (by rfl) (Q4m he (Q4m (Qa6 hg2 hm2 hx (v:=.ty T.nm) rfl hn hdb) Q9G hs2) hs) (by decide) (by decide) hs hpl).imp fun σ H Q ⟨ρ,M,R,s,m,h,k⟩=>?_
 exact⟨ρ,M,_,s,m,h,fun d M1 v H1 h1 x1 m1 e1=>⟨d,M1,R,v,rfl,e1,m1,k.ext x1,by
  cases d <;> exact h1⟩⟩
noncomputable def zbO:D->DH->DK->Prop:=fun d M Q=>match d with
 | .str z=>z.length<=sizeLine/\Q (.int z.length) M
 | .tup xs=>Q (.int xs.length) M
 | .lst xs=>Q (.int xs.length) M
 | .ref a=>match M a with
  | some (.lst xs)=>Q (.int xs.length) M
  | _=>False
 | _=>False
noncomputable def rLen:List D->DH->DK->Prop:=fun ds M Q=>match ds with
 | [d]=>zbO d M Q
 | _=>False
theorem QcB:zaV X (.builtin "len") rLen:=by
 rintro pins s σ H xs us Q I rv ⟨ds,M,R,dn,m,q,k⟩
 match ds,dn,q with
 | [d],.cons den .nil,q =>
  cases den with
  | str z hz=>exact Q3A pins s σ H _ us Q I rv ⟨_,rfl,by rw[Q0B];exact q.1,k _ M _ H q.2 (Ext.refl H) m (by rw[Q0B];exact .int _)⟩
  | tup sq d=>exact Q0Y pins s σ H _ us Q I rv ⟨_,_,rfl,.inr (.of sq),k _ M _ H q (Ext.refl H) m (by rw[d.length];exact .int _)⟩
  | lst sq d=>exact Q0Y pins s σ H _ us Q I rv ⟨_,_,rfl,.inl sq.sq,k _ M _ H q (Ext.refl H) m (by rw[d.length];exact .int _)⟩
  | ref p =>
   cases qa:M p with
   | none=>simp only[rLen,zbO,qa]at q
   | some o =>
    cases o with
    | oth _=>simp only[rLen,zbO,qa]at q
    | lst ds =>
     simp only[rLen,zbO,qa]at q;obtain⟨vs,e2,d⟩:=m.get qa;exact Q0Y pins s σ H _ us Q I rv ⟨_,_,rfl,.inl (.of e2),k _ M _ H q (Ext.refl H) m (by rw[d.length];exact .int _)⟩
  | _=>exact False.elim q
noncomputable def zaN(M:DH):D->Option (List D)
 | .tup xs=>some xs
 | .lst xs=>some xs
 | .ref a=>match M a with
  | some (.lst xs)=>some xs
  | _=>none
 | _=>none
noncomputable def zby:List D->DH->DK->Prop:=fun ds M Q=>match ds with
 | [d]=>match zaN M d with
  | some xs=>Q (.tup xs) M
  | none=>False
 | _=>False
noncomputable def rList:List D->DH->DK->Prop:=fun ds M Q=>match ds with
 | [d]=>match zaN M d with
  | some xs=>∀ p,M p=none->Q (.ref p) (dupd M p (.lst xs))
  | none=>False
 | _=>False
theorem Q6R(m:SimM K M H)(den:Den K H d v)(e:zaN M d=some xs):∃ p vs,v=.ref p/\(SqL K H p vs\/SqT K H p vs)/\Dens K H xs vs/\(SqL K H p vs\/H p=some (.tup vs)):=by
 cases den with
 | tup sq d=>cases e;exact⟨_,_,rfl,.inr (.of sq),d,.inr sq⟩
 | lst sq d=>cases e;exact⟨_,_,rfl,.inl sq.sq,d,.inl sq.sq⟩
 | ref p =>
  cases qa:M p with
  | none=>simp[zaN,qa]at e
  | some o =>
   cases o with
   | oth _=>simp[zaN,qa]at e
   | lst ds =>
    simp[zaN,qa]at e;subst e;obtain⟨vs,e2,d⟩:=m.get qa;exact⟨_,_,rfl,.inl (.of e2),d,.inl (.of e2)⟩
 | _=>simp[zaN]at e
theorem QaO:zaV X (.type "list") rList:=by
 rintro pins s σ H xs us Q I rv ⟨ds,M,R,dn,m,q,k⟩
 match ds,dn,q with
 | [d],.cons den .nil,q =>
  unfold rList at q;cases e:zaN M d with
  | none=>simp only[e]at q
  | some ys =>
   simp only[e]at q;obtain⟨p,vs,rfl,sq,d,_⟩:=Q6R m den e;exact Q3B pins s σ H _ us Q I rv ⟨p,vs,rfl,sq,fun l hl=>k _ _ _ _ (q l (m.free hl)) (Ext.new hl) (m.newL hl d) (.ref l)⟩
theorem Q8H:zaV X (.type "tuple") zby:=by
 rintro pins s σ H xs us Q I rv ⟨ds,M,R,dn,m,q,k⟩
 match ds,dn,q with
 | [d],.cons den .nil,q =>
  unfold zby at q;cases e:zaN M d with
  | none=>simp only[e]at q
  | some ys =>
   simp only[e]at q;obtain⟨p,vs,rfl,_,d,sq⟩:=Q6R m den e;refine Q2O pins s σ H _ us Q I rv ⟨p,vs,rfl,?_⟩;rcases sq with sq | sq
   ·exact .inl ⟨sq,fun l hl=>k _ M _ _ q (Ext.new hl) (m.new hl) (.tup Q0e (d.ext (Ext.new hl)))⟩
   ·exact .inr ⟨.of sq,k _ M _ H q (Ext.refl H) m (.tup sq d)⟩
inductive lM(K:Frag)(r:D->List D->DH->DK->Prop)(x:V)(vs:List V)(H:Hp)(Q:VK):Prop
 | mk (d:D) (ds:List D) (M:DH) (R:DK) (e:Den K H d x) (dn:Dens K H ds vs) (m:SimM K M H) (h:r d ds M R) (k:Aft K H R Q)
noncomputable abbrev MtD(X:Cx)(id:String)(r:D->List D->DH->DK->Prop):Prop:=MtR X id (lM X.K r)
noncomputable def dML(r:D->List D->DH->DK->Prop)(to:DTE)(t:DTA):DTE:=fun ρ M Q=>to ρ M fun d M1=>match d with
 | .ref a=>match M1 a with
  | some (.lst _)=>t ρ M1 fun ds M2=>r (.ref a) ds M2 Q
  | _=>False
 | .lst xs=>t ρ M1 fun ds M2=>r (.lst xs) ds M2 Q
 | _=>False
theorem de_ml{o:Expr}{to:DTE}{tr:DTA}{name:Str}{apos cpos:Pos}{id:String}{r:D->List D->DH->DK->Prop}(slot:Slot "list" name id)(hty:typeOf (.builtin id)=pure (.type "method_descriptor"))(hm:MtD X id r)(ho:DE X o to)(ha:DA X (e::es) tr)
  (hbase:attributeBase o name X.env (eval o X.env)=eval o X.env:=by rfl)
  (hfew:((backTo cpos (starEach (e::es) X.env)).all (fun x=>!x.1)&&(backToKw cpos (keywordEach [] X.env)).all (fun x=>x.1.isSome)
   && decide ((e::es).length+([]:List Keyword).length+(if ([]:List Keyword).isEmpty then 0 else 1)<30))=true:=by rfl)
  (hline:(apos.endLine==cpos.line)=true:=by rfl) (hs:starEach (e::es) X.env=(false,eval e X.env)::starEach es X.env:=by rfl) (hplain:(backTo cpos (starEach es X.env)).any (·.1)=false:=by rfl) :
  DE X (.Call (.Attribute o name apos) (e::es) [] cpos) (dML r to tr) :=
 (pe_bm PySem.F.plainAttrs_list slot hty hm ho ha hbase hfew hline hs hplain).imp fun σ H Q ⟨ρ,M,R,s,m,h,k⟩=>⟨ρ,M,_,s,m,h,fun d M1 v H1 h1 x1 m1 e1=>by
  cases e1 with
  | ref a =>
   cases qa:M1 a with
   | none=>simp only[qa]at h1
   | some o =>
    cases o with
    | oth _=>simp only[qa]at h1
    | lst xs =>
     simp only[qa]at h1;obtain⟨vs,e2,d⟩:=m1.get qa;exact⟨.inl ⟨rfl,vs,.of e2⟩,ρ,M1,_,s.ext x1,m1,h1,fun ds M2 vs H2 h2 x2 m2 e2=>⟨.ref a,ds,M2,R,.ref a,e2,m2,h2,k.ext (x1.trans x2)⟩⟩
  | lst fz dd=>exact⟨.inl ⟨rfl,_,fz.sq⟩,ρ,M1,_,s.ext x1,m1,h1,fun ds M2 vs H2 h2 x2 m2 e2=>⟨_,ds,M2,R,Den.ext x2 (.lst fz dd),e2,m2,h2,k.ext (x1.trans x2)⟩⟩
  | _=>exact False.elim h1⟩
theorem Q6S{o:Expr}{to:DTE}{name:Str}{apos cpos:Pos}{id:String}{r:D->List D->DH->DK->Prop}(slot:Slot "list" name id)(hty:typeOf (.builtin id)=pure (.type "method_descriptor"))(hm:MtD X id r)(ho:DE X o to)
  (hbase:attributeBase o name X.env (eval o X.env)=eval o X.env:=by rfl) (hline:(apos.endLine==cpos.line)=true:=by rfl):DE X (.Call (.Attribute o name apos) [] [] cpos) (dML r to dNil) :=
 (Qc4 PySem.F.plainAttrs_list slot hty hm ho hbase hline).imp fun σ H Q ⟨ρ,M,R,s,m,h,k⟩=>⟨ρ,M,_,s,m,h,fun d M1 v H1 h1 x1 m1 e1=>by
  cases e1 with
  | ref a =>
   cases qa:M1 a with
   | none=>simp only[qa]at h1
   | some o =>
    cases o with
    | oth _=>simp only[qa]at h1
    | lst xs =>
     simp only[qa]at h1;obtain⟨vs,e2,d⟩:=m1.get qa;exact⟨.inl ⟨rfl,vs,.of e2⟩,.ref a,[],M1,R,.ref a,.nil,m1,h1,k.ext x1⟩
  | lst fz dd=>exact⟨.inl ⟨rfl,_,fz.sq⟩,_,[],M1,R,.lst fz dd,.nil,m1,h1,k.ext x1⟩
  | _=>exact False.elim h1⟩
noncomputable def zaJ:D->List D->DH->DK->Prop:=fun d ds M Q=>match d,ds with
 | .ref a,[y]=>match M a with
  | some (.lst xs)=>xs.length<sizeLine/\Q .non (dupd M a (.lst (xs++[y])))
  | _=>False
 | _,_=>False
theorem Q3H:MtD X "list.append" zaJ:=by
 rintro pins s σ H x xs v us Q I rx rv ⟨d,ds,M,R,e,dn,m,q,k⟩;cases e <;> first | exact False.elim q | skip
 rename_i a
 match ds,dn,q with
 | [y],.cons dy .nil,q =>
  cases qa:M a with
  | none=>simp only[zaJ,qa]at q
  | some o =>
   cases o with
   | oth _=>simp only[zaJ,qa]at q
   | lst ys =>
    simp only[zaJ,qa]at q;obtain⟨vs,e2,d⟩:=m.get qa;exact Q6x pins s σ H _ _ v us Q I rx rv ⟨a,vs,_,rfl,rfl,e2,by rw[<- d.length];exact q.1,k _ _ _ _ q.2 (Ext.lst e2) (m.write e2 (d.append (.cons dy .nil))) .non⟩
end
section
variable{X:Cx}{a b c e:Expr}{es:List Expr}{ta tb te:DTE}{tt tu:DTT}{pos p2:Pos}{K:Frag}
noncomputable def tFzS(T:TS):TS:=fun D σ H=>T { D with nx:=fun σ' H'=>∃ a xs,H' a=some (.lst xs)/\∀ o,D.nx σ' (upd H' a (.frz o (.lst xs))) } σ H
theorem ps_fz{st:Stmt}{T:TS}(h:PS X st T):PS X st (tFzS T):=by
 intro pins s σ H D I q;refine thn (h pins s σ H _ I q) fun f s' q'=>?_;cases f with
 | next =>
  obtain⟨σ',H',I',a,xs,ha,k⟩:=q';obtain⟨o,I2⟩:=I'.frozen ha;exact⟨σ',_,I2,k o⟩
 | brk=>exact q'
 | cont=>exact q'
 | ret v=>exact q'
end
noncomputable def Sub(M M':DH):Prop:=∀ a o,M a=some o->M' a=some o
theorem Sub.refl(M:DH):Sub M M:=fun _ _ e=>e
theorem Sub.trans{M M1 M2:DH}(a:Sub M M1)(b:Sub M1 M2):Sub M M2:=fun c o e=>b c o (a c o e)
theorem Sub.new(h:M p=none):Sub M (dupd M p o):=fun a u e=>by rw[Q0b (dne e h)];exact e
theorem Sub.put(s:Sub M M')(h:M p=none):Sub M (dupd M' p o):=fun a u e=>by rw[Q0b (dne e h)];exact s a u e
theorem Sub.none(s:Sub M M')(h:M' p=Option.none):M p=Option.none:=by
 cases e:M p with
 | none=>rfl
 | some o=>rw[s p o e]at h;cases h
theorem SimM.sub{K:Frag}{H:Hp}{M M':DH}(h:SimM K M' H)(s:Sub M M'):SimM K M H:=fun a o e=>h a o (s a o e)
section
variable{X:Cx}{a b c e tg iter:Expr}{es:List Expr}{st:Stmt}{sts body:List Stmt}{ta tb te:DTE}{tt tu:DTT}{t u:DTS}{pos:Pos}{K:Frag}
noncomputable def zb4(wi:DTI)(ix:List Nat)(unp:D->Option (List D))(tc:DTT)(te:DTE):DTE:=fun ρ M Q=>wi ρ M fun items Cd M1 =>
 zam (ix.map fun i=>(ρ[i]?).getD none) unp tc te Cd (fun ys M2=>ys.length<=sizeLine/\Q (.lst ys) M2) items [] M1
theorem Q3I{unp:D->Option (List D)}{F:List D->DH->Prop}(hu:Unp K k unp gV)(s:SimS K H ρ σ)(m:SimM K M H)
  (h:wi ρ M fun items Cd M1=>zam (ix.map fun i=>(ρ[i]?).getD none) unp tc te Cd (fun ys M2=>ys.length<=sizeLine/\F ys M2) items [] M1)
  (kk:∀ zs M' ys H' a,F zs M'->Ext H H'->SimM K M' H'->Dens K H' zs ys->H' a=none->Q (.ref a) (upd H' a (.lst ys))):tComp (lI K wi) k ix gV (lT K tc) (lE K te) σ H Q:=by
 refine⟨ρ,M,_,s,m,h,fun items Cd M1 H1 J h1 x1 m1 Y=>?_⟩;refine⟨fun i mm ys H'=>mm=items.length-i/\i<=items.length/\∃ M' zs,Ext H1 H'/\SimM K M' H'/\Dens K H' zs ys/\zam (ix.map fun i=>(ρ[i]?).getD none) unp tc te Cd (fun ys M2=>ys.length<=sizeLine/\F ys M2) (items.drop i) zs M',⟨_,rfl,ZB _,M1,[],Ext.refl _,m1,.nil,h1⟩,?_⟩;rintro i mm ys H' ⟨rfl,hi,M',zs,x',m',dz,h'⟩;by_cases hlt:i<items.length
 ·right;have hd:items.drop i=items[i]::items.drop (i+1):=Yy hlt;rw[hd]at h';obtain⟨cd,h'⟩:=h';refine⟨Y.go i H' M' x' m' cd hlt,fun y Hy yl=>?_⟩;obtain⟨xy,my,d,ed,den⟩:=Y.yld i H' M' y Hy x' m' cd yl hlt;have:items[i]=d:=by
   rw[Zt hlt]at ed;exact Z6 ed
  rw[this]at h';cases eu:unp d with
  | none=>rw[eu]at h';exact h'.elim
  | some us =>
   rw[eu]at h';refine hu.to d y us _ Hy _ den eu fun ws dw=>?_;have hk:ws.length=k:=by rw[<- dw.length];exact hu.len d us eu
   refine⟨?_,?_,?_⟩
   ·rw[drop_left' (by rw[Zd];exact hk)]
   ·rw[Zi,Zd,Zd,hk]
   ·have xx:=x'.trans xy;have sρ:SimS K Hy (us.map some++ix.map fun i=>(ρ[i]?).getD none) (ws.map some++ix.map fun i=>(σ[i]?).getD none):=(SimS.ofDens dw).append ((s.ext (x1.trans xx)).pick ix);refine⟨_,M',_,sρ,my,h',fun b M3 H3 h3 x3 m3=>?_⟩;cases b with
    | true =>
     refine iteT ⟨_,M3,_,sρ.ext x3,m3,(Ze rfl).mp h3,fun z M4 v H4 ⟨hz,h4⟩ x4 m4 e4=>⟨by rw[<- dz.length];exact hz,_,(show items.length-(i+1)<items.length-i by omega),rfl,hlt,M4,_,(xx.trans x3).trans x4,m4,(dz.ext (xy.trans (x3.trans x4))).append (.cons e4 .nil),h4⟩⟩
    | false=>exact iteF ⟨_,(show items.length-(i+1)<items.length-i by omega),rfl,hlt,M3,zs,xx.trans x3,m3,dz.ext (xy.trans x3),(Zc Zs).mp h3⟩
 ·left;have hd:items.drop i=[]:=Yr (le_of_not_lt hlt);rw[hd]at h';obtain⟨cd,hz,q⟩:=h';exact⟨Y.stop i H' M' x' m' cd (le_of_not_lt hlt),by rw[<- dz.length];exact hz,fun a ha=>kk _ _ _ _ a q (x1.trans x') m' dz ha⟩
section
variable{scope:Scope}{N fn:List Str}{k:Nat}{ix:List Nat}{elt:Expr}{ifs:List Expr}{wi:DTI}{unp:D->Option (List D)}{gV:TG}{tc:DTT}
theorem Q8I(tp:Top X){R0:XC->Hp->Prop}(hx0:zaj X fun cls _ H=>R0 cls H)(hu:Unp X.K k unp gV)(hc:X.calm=true)(ok:zaw X.env.scope scope N k fn)(hix:ix.map (fun i=>X.N[i]?)=fn.map some)(hi:DI X tg iter wi)
  (hg:∀ cl C s₀ H₀ ex E,PG (za0 X scope N cl C s₀ H₀ ex E) tg gV) (ht:∀ cl C s₀ H₀ ex E,zaj (za0 X scope N cl C s₀ H₀ ex E) (fun cls _ H=>R0 cls H)->DIfs (za0 X scope N cl C s₀ H₀ ex E) ifs tc) (he:∀ cl C s₀ H₀ ex E,zaj (za0 X scope N cl C s₀ H₀ ex E) (fun cls _ H=>R0 cls H)->DE (za0 X scope N cl C s₀ H₀ ex E) elt te)
  (hs:∀ x,foldedSetIterable iter X.env x=pure x:=by intro _;rfl):DE X (.ListComp elt [⟨tg,iter,ifs,0⟩] scope pos) (zb4 wi ix unp tc te) :=
 (Q6B (Q4N tp hx0 hc ok hix hi hg ht he hs)).imp fun σ H Q ⟨ρ,M,R,s,m,h,kk⟩=>Q3I hu s m h fun zs M' ys H' a q x' m' dz ha =>
  ⟨a,ys,rfl,Q0e,fun o=>by
   rw[Q2K];exact kk _ M' _ _ q (x'.trans (Ext.new ha)) (m'.new ha) (.lst (.inl ⟨o,Q0e⟩) (dz.ext (Ext.new ha)))⟩
theorem Q4r(tp:Top X){R0:XC->Hp->Prop}(hx0:zaj X fun cls _ H=>R0 cls H)(hsw:swapsWith (.ListComp elt [⟨tg,iter,ifs,0⟩] scope pos) (some (.Name x pos')) spos.line X.env=pure true)
  (hN:X.N.Nodup) (hiN:X.N[i]? = some x) (hx:X.env.scope.names.lookup x=some .local) (hu:Unp X.K k unp gV) (hc:X.calm=true) (ok:zaw X.env.scope scope N k fn) (hix:ix.map (fun i=>X.N[i]?)=fn.map some) (hi:DI X tg iter wi)
  (hg:∀ cl C s₀ H₀ ex E,PG (za0 X scope N cl C s₀ H₀ ex E) tg gV) (ht:∀ cl C s₀ H₀ ex E,zaj (za0 X scope N cl C s₀ H₀ ex E) (fun cls _ H=>R0 cls H)->DIfs (za0 X scope N cl C s₀ H₀ ex E) ifs tc) (he:∀ cl C s₀ H₀ ex E,zaj (za0 X scope N cl C s₀ H₀ ex E) (fun cls _ H=>R0 cls H)->DE (za0 X scope N cl C s₀ H₀ ex E) elt te)
  (hs:∀ x,foldedSetIterable iter X.env x=pure x:=by intro _;rfl):DS X (.Assign [.Name x pos'] (.ListComp elt [⟨tg,iter,ifs,0⟩] scope pos) spos) (dSet i (zb4 wi ix unp tc te)) :=
 by
 have h0:=Q2d (tc:=lT X.K tc) (te:=lE X.K te) tp hx0 hsw hN hiN hx hc ok hix hi hg ht he hs;refine (ps_fz h0).imp fun D σ H ⟨ρ,M,DD,s,m,h,kk⟩=>?_;unfold tFzS tAsg;refine Q3I hu s m h fun zs M' ys H' a q x' m' dz ha=>?_;refine⟨a,ys,Q0e,fun o=>?_⟩;rw[Q2K];have xa:Ext H (upd H' a (.frz o (.lst ys))):=x'.trans (Ext.new ha);exact kk.nx _ M' _ _ q xa ((s.ext xa).set (d:=.lst zs) (v:=.ref a) (.lst (.inl ⟨o,Q0e⟩) (dz.ext (Ext.new ha))) i) (m'.new ha)
end
noncomputable def dNeg(te:DTE):DTE:=fun ρ M Q=>te ρ M fun x M1=>match x with
 | .int i=>Q (.int (-i)) M1
 | _=>False
theorem QcC(h:DE X e te):DE X (.UnaryOp .USub e pos) (dNeg te) :=
 (pe_un QbX h).imp fun σ H Q ⟨ρ,M,R,s,m,h,k⟩=>⟨ρ,M,_,s,m,h,fun d M1 v H1 h1 x1 m1 e1=>by
  cases e1 <;> first | exact False.elim h1 | exact⟨_,rfl,k _ M1 _ H1 h1 x1 m1 (.int _)⟩⟩
noncomputable def zbY(t:DTA):DTE:=fun ρ M Q=>t ρ M fun xs M1=>xs.length<=sizeLine/\Q (.lst xs) M1
theorem QaP(h:DA X es tr):DE X (.List es pos) (zbY tr) :=
 (Q6B (Q9H h)).imp fun σ H Q ⟨ρ,M,R,s,m,h,k⟩=>⟨ρ,M,_,s,m,h,fun ds M1 vs H1 ⟨hl,h1⟩ x1 m1 e1=>⟨by rw[<- e1.length];exact hl,fun p hp=>⟨p,vs,rfl,Q0e,fun o=>by
  rw[Q2K];exact k _ M1 _ _ h1 (x1.trans (Ext.new hp)) (m1.new hp) (.lst (.inl ⟨o,Q0e⟩) (e1.ext (Ext.new hp)))⟩⟩⟩
noncomputable def za4(R:DK):zbw:={ nx:=fun _ M'=>∃ M0,Sub M0 M'/\R .non M0,rt:=fun d M'=>∃ M0,Sub M0 M'/\R d M0,bk:=fun _ _=>False,ct:=fun _ _=>False }
end
section
variable{X:Cx}{a b c e tg:Expr}{es:List Expr}{ta tb te:DTE}{tt tu:DTT}{pos p2:Pos}{K:Frag}
noncomputable def Its(z:List Nat):It:=⟨fun i _=>i<z.length,fun i H x H'=>H'=H/\∃ c,z[i]? = some c/\x=.str (S [c]),fun i _=>z.length<=i⟩
theorem QcD(z:List Nat):(S z).cps.size=z.length:=by unfold S;simp
theorem S_get(z:List Nat)(i:Nat):(S z).cps[i]? = z[i]?:=by unfold S;simp
theorem Q8J(hty:ty = "str_ascii_iterator" \/ ty = "str_iterator"):Turn P w K tg (Its z) [it] it (fun i h=>h.IsStrIter it ty (S z) t i) where
 mem:=by simp
 obj:=fun i h st b hb=>by
  have e:b=it:=by simpa using hb
  subst e;obtain⟨o,e,c,d⟩:=st;exact⟨o,e,fun v q=>by rw[d]at q;cases q⟩
 keep:=fun i h h' st k=>by
  obtain⟨o,e,r⟩:=st;exact⟨o,k it (by simp) o e,r⟩
 item:=by
  intro X hP hw hK hc i pins s σ H E I hf st hg;subst hP hw;obtain⟨f0,f1,f2,f3,f4,f5⟩:=hf it (by simp)
  have hlt:i<(S z).cps.size:=by rw[QcD];exact hg
  have fin:∀ v h' tk,SignAt (S z) i v->h'.IsStrIter it ty (S z) t (i+1)->(∀ b o,b∉[it]->s.heap.get? b=some o->h'.get? b=some o)->∃ u,some v=some u /\
    wpAny (model X.prog X.w) X.A (letOwnedTupleGo tg (.ref it) u) (fun _ s2=>∃ x H',Inv X pins σ H' s2/\L2.RelV x u/\(Its z).yld i H x H'/\s2.heap.IsStrIter it ty (S z) t (i+1)/\∀ b∈[it],H' b=none) E { s with heap:=h',toks:=tk }:=by
   rintro v h' tk ⟨c,u,hcu,rfl⟩ st' kk;have I1:Inv X pins σ H { s with heap:=h',toks:=tk }:=I.turned (fun b o hb e=>kk b o (by simpa using hb) e) f0 f1 f3 f4 f5
   obtain⟨o,e,cl,d⟩:=id st';refine⟨_,rfl,go_of (s:={ s with heap:=h',toks:=tk }) (n:=ty) e cl d (by rcases hty with rfl | rfl <;> decide) ⟨.str (S [c]),H,I1,⟨u,rfl⟩,⟨rfl,c,by rw[<- S_get];exact hcu,rfl⟩,st',fun b hb=>(hf b hb).1⟩⟩
  rcases hty with rfl | rfl
  ·exact (Walks.strAscii (prog:=X.prog) (w:=X.w) (I.ok.hd hc) it (S z) t).item i s _ _ hlt st fun v h' tk hv st' kk=>fin v h' tk hv st' kk
  ·exact (Walks.strWide (prog:=X.prog) (w:=X.w) (I.ok.hd hc) it (S z) t).item i s _ _ hlt st fun v h' tk hv st' kk=>fin v h' tk hv st' kk
 done:=by
  intro X hP hw hK hc i pins s σ H E I hf st hg;subst hP hw;obtain⟨f0,f1,f2,f3,f4,f5⟩:=hf it (by simp)
  have hx:(S z).cps[i]? = none:=by rw[S_get];exact List.getElem?_eq_none_iff.mpr hg
  rcases hty with rfl | rfl
  ·exact wpAny_pyNext_ascii_end (I.ok.hd hc) st hx fun h' eb=>⟨rfl,I.turned (t':=s.toks) (fun b o hb e=>eb b o hb e) f0 f1 f3 f4 f5⟩
  ·exact wpAny_pyNext_wide_end (I.ok.hd hc) st hx fun h' eb=>⟨rfl,I.turned (t':=s.toks) (fun b o hb e=>eb b o hb e) f0 f1 f3 f4 f5⟩
 self:=fun _ _ _ _ _ st h=>by
  rcases hty with rfl | rfl
  ·exact wpAny_pyIter_striter_ascii st h
  ·exact wpAny_pyIter_striter_wide st h
theorem Yields.str{Cd:DH->Prop}(hz:cpOk z):Yields K (Its z) (z.map fun c=>D.str [c]) Cd H where
 go:=fun i H' M x m c hi=>by simpa[Its]using hi
 yld:=fun i H' M y H'' x m c ⟨e,ch,h1,h2⟩ hi=>by
  subst e h2;refine⟨Ext.refl _,m,.str [ch],by rw[Z5,h1];rfl,.str [ch] (cpOk.sub hz fun c' hc=>?_)⟩
  rw[Zz.mp hc];exact ZG h1
 stop:=fun i H' M x m c hi=>by simpa[Its]using hi
noncomputable def diAny(tl:DTE):DTI:=fun ρ M R=>tl ρ M fun d M1=>match d with
 | .tup ds=>R ds (fun _=>True) M1
 | .lst ds=>R ds (fun _=>True) M1
 | .str z=>R (z.map fun c=>D.str [c]) (fun _=>True) M1
 | .ref a=>match M1 a with
  | some (.lst ds)=>R ds (fun M=>M a=some (.lst ds)) M1
  | _=>False
 | _=>False
theorem Q6T(hl:DE X l tl):DI X tg l (diAny tl):=by
 rintro pins s σ H R I ⟨ρ,M,RD,sm,m,h,k⟩;have q0:tl ρ M (fun d M1=>match d with
  | .tup ds=>RD ds (fun _=>True) M1
  | .lst ds=>RD ds (fun _=>True) M1
  | .str z=>RD (z.map fun c=>D.str [c]) (fun _=>True) M1
  | .ref a=>match M1 a with
   | some (.lst ds)=>RD ds (fun M=>M a=some (.lst ds)) M1
   | _=>False
  | _=>False):=h
 refine thn (hl pins s σ H (fun v H1=>∃ d M1,Ext H H1/\SimM X.K M1 H1/\Den X.K H1 d v/\(match d with
  | .tup ds=>RD ds (fun _=>True) M1
  | .lst ds=>RD ds (fun _=>True) M1
  | .str z=>RD (z.map fun c=>D.str [c]) (fun _=>True) M1
  | .ref a=>match M1 a with
   | some (.lst ds)=>RD ds (fun M=>M a=some (.lst ds)) M1
   | _=>False
  | _=>False)) I ⟨ρ,M,_,sm,m,q0,fun d M1 v H1 h1 x1 m1 e1=>⟨d,M1,x1,m1,e1,h1⟩⟩) fun u s1 ⟨v,H1,I1,r1,d,M1,x1,m1,e1,h1⟩=>?_
 have viaL:∀ {a:Addr} {vs:List V} (_:v=.ref a) (_:SqL X.K H1 a vs) {items:List D} {Cd:DH->Prop},RD items Cd M1->Yields X.K (Itl X.K a) items Cd H1 ->
   wpAny (model X.prog X.w) X.A (pyIter u) (PIE X pins σ tg R) X.xe s1:=fun{a vs} ev hq {items Cd} q Y=>by
  subst ev;cases r1;obtain⟨its,rv,p,hz⟩:=I1.list hq;refine wpAny_pyIter_list p.isList ?_;refine⟨s1.heap.objs.size,[s1.heap.objs.size],_,_,H1,rfl,I1.kept (t':=s1.toks) fun b o e=>Zf _ e,Q6p a _,⟨_,Zu _ rfl,rfl,rfl⟩,fun b hb=>?_,k items Cd M1 H1 _ q x1 m1 Y⟩;have e:b=s1.heap.objs.size:=by simpa using hb
  subst e;exact I1.fpOk (Zo _) (I1.hok.fresh (Zo _))
 cases e1 with
 | tup q0 r =>
  have q:=SqT.of (K:=X.K) q0;cases r1;obtain⟨its,rv,p,hz⟩:=I1.tuple q;refine wpAny_pyIter_tuple (show s1.heap.IsTuple _ its.toArray from p) ?_;refine⟨s1.heap.objs.size,[s1.heap.objs.size],_,_,H1,rfl,I1.kept (t':=s1.toks) fun b o e=>Zf _ e,Q5I _ _,⟨_,Zu _ rfl,rfl,rfl⟩,fun b hb=>?_,k _ _ M1 H1 _ h1 x1 m1 (Yields.tup q r)⟩;have e:b=s1.heap.objs.size:=by simpa using hb
  subst e;exact I1.fpOk (Zo _) (I1.hok.fresh (Zo _))
 | lst q r=>exact viaL rfl q.sq h1 (Yields.fz q r)
 | str z hz =>
  obtain⟨t,rfl⟩:=r1;have go:∀ (ty:String),ty = "str_ascii_iterator" \/ ty = "str_iterator" -> PIE X pins σ tg R (.ref s1.heap.objs.size) { s1 with heap:=s1.heap.push { cls:=.type ty,data:=.fields #[.str (S z) t,.int 0 0] } }:=fun ty hty=>by
   refine⟨s1.heap.objs.size,[s1.heap.objs.size],_,_,H1,rfl,I1.kept (t':=s1.toks) fun b o e=>Zf _ e,Q8J (z:=z) (t:=t) hty,⟨_,Zu _ rfl,rfl,rfl⟩,fun b hb=>?_,k _ _ M1 H1 _ h1 x1 m1 (Yields.str hz)⟩;have e:b=s1.heap.objs.size:=by simpa using hb
   subst e;exact I1.fpOk (Zo _) (I1.hok.fresh (Zo _))
  cases ha:(S z).cps.all (· < 128)
  ·exact wpAny_pyIter_wide ha (go _ (.inr rfl))
  ·exact wpAny_pyIter_ascii ha (go _ (.inl rfl))
 | ref a =>
  cases qa:M1 a with
  | none=>simp only[qa]at h1
  | some o =>
   cases o with
   | oth _=>simp only[qa]at h1
   | lst ds =>
    simp only[qa]at h1;obtain⟨vs,e2,_⟩:=m1.get qa;exact viaL rfl (.of e2) h1 Yields.mut
 | _=>exact h1.elim
end
section
variable{X:Cx}{a b c e tg:Expr}{es:List Expr}{ta tb te:DTE}{tt tu:DTT}{pos p2:Pos}{K:Frag}
noncomputable def digs(m:Nat):List Nat:=(Nat.toDigits 10 m).map Char.toNat
theorem QcE(m:Nat):S (digs m)=Str.ofString (toString ((m:Nat):Int)):=by
 have:=PySem.W.KIN.signs_num m;unfold digs;rw[<- this,S_of]
theorem Q1F{m c:Nat}(h:c∈digs m):48<=c/\c<=57:=by
 unfold digs at h;obtain⟨ch,hch,rfl⟩:=ZI.mp h;have h1:=Nat.isDigit_of_mem_toDigits (by decide) (by decide) hch
 simp only[Char.isDigit,Zh,Zg]at h1;obtain⟨h1,h2⟩:=h1;exact⟨UInt32.le_iff_toNat_le.mp h1,UInt32.le_iff_toNat_le.mp h2⟩
theorem Q6U(m:Nat):cpOk (digs m):=ZM.mpr fun c hc=>by
 have:=Q1F hc;exact Zm (by omega)
theorem Q4T(m:Nat):NumText.digitsVal (digs m)=m:=PySem.W.KIN.val_back m
noncomputable def rStr:List D->DH->DK->Prop:=fun ds M Q=>match ds with
 | [.int i]=>0<=i/\i.natAbs.log2<1920/\Q (.str (digs i.toNat)) M
 | _=>False
theorem QcF:zaV X (.type "str") rStr:=by
 rintro pins s σ H xs us Q I rv ⟨ds,M,R,dn,m,q,k⟩;cases dn with
 | nil=>exact False.elim q
 | cons den t =>
  cases t with
  | cons _ _=>cases den <;> exact False.elim q
  | nil =>
   cases den with
   | int i =>
    obtain⟨h0,h1,q⟩:0<=i/\i.natAbs.log2<1920/\R (.str (digs i.toNat)) M:=q;obtain⟨n,rfl⟩:=Int.eq_ofNat_of_zero_le h0;rw[Zx]at q;refine Q3u pins s σ H _ us Q I rv ⟨_,rfl,h1,?_⟩;have e:(V.str (toString ((n:Nat):Int)))=V.str (S (digs n)):=by rw[QcE]
    rw[e];exact k _ M _ H q (Ext.refl H) m (.str _ (Q6U n))
   | _=>exact False.elim q
noncomputable def rInt:List D->DH->DK->Prop:=fun ds M Q=>match ds with
 | [d]=>match d with
  | .str z=>z≠[]/\(∀ c∈z,48<=c/\c<=57)/\z.length<=640/\Q (.int (NumText.digitsVal z:Nat)) M
  | .int i=>Q (.int i) M
  | .bl b=>Q (.int (if b then 1 else 0)) M
  | _=>False
 | _=>False
theorem QcG:zaV X (.type "int") rInt:=by
 rintro pins s σ H xs us Q I rv ⟨ds,M,R,dn,m,q,k⟩
 match ds,dn,q with
 | [d],.cons den .nil,q =>
  cases den with
  | int i=>exact Q3t pins s σ H _ us Q I rv (.inl ⟨i,rfl,k _ M _ H q (Ext.refl H) m (.int _)⟩)
  | bl b=>exact Q3t pins s σ H _ us Q I rv (.inr ⟨b,rfl,k _ M _ H q (Ext.refl H) m (.int _)⟩)
  | str z hz =>
   obtain⟨h1,h2,h3,q⟩:z≠[]/\(∀ c∈z,48<=c/\c<=57)/\z.length<=640/\R (.int (NumText.digitsVal z:Nat)) M:=q;cases rv with
   | cons r1 r2 =>
    cases r2;obtain⟨t,rfl⟩:=r1;have e:intText? (S z)=some ((NumText.digitsVal z:Nat):Int):=by
     have:=intText_digits (x:=S z) (by rw[Q1w];exact h2) (by rw[Q1w];exact h1) (by rw[Q0B];omega)
     rw[Q1w]at this;exact this
    exact PySem.W.KIN.call_text e (by rw[Q0B];exact h3) ⟨.int _,H,I.tok _,⟨_,rfl⟩,k _ M _ H q (Ext.refl H) m (.int _)⟩
  | _=>exact False.elim q
noncomputable def rIn1(f:Bool->Bool):DR2:=fun x y M Q=>match y with
 | .str z=>match x with
  | .str w=>match w with
   | [c]=>Q (.bl (f (decide (c∈z)))) M
   | _=>False
  | _=>False
 | y=>∃ xs,zaN M y=some xs/\plain 11 (res M x)=true/\xs.all (plain 11)=true/\Q (.bl (f (xs.any fun d=>eqB d (res M x)))) M
open Classical in
theorem Q9P(I:Inv X pins σ H s)(m:SimM X.K M H)(hu:X.A.units+64<cLine)(hx:plain 11 (res M x)=true)(ex:Den X.K H x vx)(rx:L2.RelV vx ux)
  {xs:List D} {vs:List V} {its:List Value} (hp:xs.all (plain 11)=true) (dn:Dens X.K H xs vs) (rv:Vals vs its) :
  ∃ e:Value->Bool,(∀ y∈its,SeqAt.EqAt X.A.in1 s y ux (e y))/\its.map e=xs.map fun d=>eqB d (res M x):=by
 obtain⟨⟨as,ra⟩,c1,d1⟩:=Q2f I m hx ex rx;refine⟨fun y=>decide (∃ da bs,Reads s.heap y da bs/\PyData.eqv da (toPy (res M x))=true),?_,?_⟩
 ·intro y hy;have:∃ d v,d∈xs/\Den X.K H d v/\L2.RelV v y:=by
   clear hp
   induction xs generalizing vs its with
   | nil=>cases dn;cases rv;cases hy
   | cons d0 xs ih =>
    cases dn with
    | cons a t =>
     cases rv with
     | cons r1 r2 =>
      rcases Z3.mp hy with rfl | hy
      ·exact⟨_,_,Zl,a,r1⟩
      ·obtain⟨d,v,h1,h2⟩:=ih t r2 hy;exact⟨d,v,Zq _ h1,h2⟩
  obtain⟨d,v,hd,den,rr⟩:=this;have pd:plain 11 d=true:=(ZM.mp hp) d hd;obtain⟨bs,rb⟩:=Q0x I 11 d v y pd den rr;obtain⟨c2,d2⟩:=Q1d 11 d v pd den;have h:=SeqAt.eqAt_reads (toPy d) (toPy (res M x)) X.A.in1 s y ux bs as rb ra c2 c1 (by
   have:X.A.in1.units<=X.A.units+1:=by simp[Around.in1]
   have h2:min (toPy d).depth (toPy (res M x)).depth<=11:=Z4 (Nat.min_le_left _ _) d2;omega)
  have e:decide (∃ da bs,Reads s.heap y da bs/\PyData.eqv da (toPy (res M x))=true)=PyData.eqv (toPy d) (toPy (res M x)):=by
   cases hq:PyData.eqv (toPy d) (toPy (res M x)) with
   | true=>exact Zm ⟨_,_,rb,hq⟩
   | false =>
    refine Zr ?_;rintro⟨da,cs,r,he⟩;have:=(Reads.unique rb _ _ r).1;rw[<- this,hq]at he;cases he
  show SeqAt.EqAt X.A.in1 s y ux (decide (∃ da bs,Reads s.heap y da bs/\PyData.eqv da (toPy (res M x))=true));rw[e];exact h
 ·induction xs generalizing vs its with
  | nil=>cases dn;cases rv;rfl
  | cons d xs ih =>
   cases dn with
   | cons a t =>
    cases rv with
    | cons r1 r2 =>
     rw[Ye,Zh]at hp;rw[Zy,Zy,ih hp.2 t r2];congr 1;obtain⟨bs,rb⟩:=Q0x I 11 _ _ _ hp.1 a r1;have be:=bEq _ (res M x) 11 11 hp.1 hx;rw[<- be];cases hq:PyData.eqv (toPy d) (toPy (res M x)) with
     | true=>exact Zm ⟨_,_,rb,hq⟩
     | false =>
      refine Zr ?_;rintro⟨da,cs,r,he⟩;have:=(Reads.unique rb _ _ r).1;rw[<- this,hq]at he;cases he
theorem Q2z{α β:Type}{f:α->Bool}{g:β->Bool}{xs:List α}{ys:List β}(h:xs.map f=ys.map g):xs.any f=ys.any g:=by
 have e:=congrArg (List.any · id) h;simpa[any_map]using e
theorem QcH{op:CmpOp}{f:Bool->Bool}(hu:X.A.units+64<cLine)
  (hS:∀ {z:List Nat} {c:Nat} {t u:Tok} {s:Shared} {Q:Value->Shared->Prop},Q (.bool (f (decide (c∈z)))) s->wpAny (model X.prog X.w) X.A (compareOp op (.str (S [c]) t) (.str (S z) u)) Q X.xe s)
  (hL:∀ {l:Addr} {items:Array Value} {x:Value} {s:Shared} {Q:Value->Shared->Prop} (e:Value->Bool),s.heap.IsList l items->(∀ y,y∈items->SeqAt.EqAt X.A.in1 s y x (e y))->Q (.bool (f (items.any e))) s->wpAny (model X.prog X.w) X.A (compareOp op x (.ref l)) Q X.xe s)
  (hT:∀ {l:Addr} {items:Array Value} {x:Value} {s:Shared} {Q:Value->Shared->Prop} (e:Value->Bool),s.heap.IsTuple l items->(∀ y,y∈items->SeqAt.EqAt X.A.in1 s y x (e y))->Q (.bool (f (items.any e))) s->wpAny (model X.prog X.w) X.A (compareOp op x (.ref l)) Q X.xe s):OpD X (compareOp op) (rIn1 f):=by
 rintro pins s σ H x y v u Q I rx ry ⟨dx,dy,M,R,ex,ey,m,q,k⟩;by_cases hz:∃ z,dy=.str z
 ·obtain⟨z,rfl⟩:=hz;cases ey;cases ex <;> first | exact False.elim q | skip
  rename_i hz w hw
  match w,hw,q,rx with
  | [c],hw,q,rx =>
   obtain⟨t,rfl⟩:=rx;obtain⟨t',rfl⟩:=ry;exact hS ⟨.bl _,H,I,rfl,k _ M _ H q (Ext.refl H) m (.bl _)⟩
 ·have q':∃ xs,zaN M dy=some xs/\plain 11 (res M dx)=true/\xs.all (plain 11)=true/\R (.bl (f (xs.any fun d=>eqB d (res M dx)))) M:=by
   unfold rIn1 at q;split at q
   ·exact absurd ⟨_,rfl⟩ hz
   ·exact q
  obtain⟨xs,e1,h1,h2,q⟩:=q';obtain⟨p,vs,rfl,sq,d,_⟩:=Q6R m ey e1;cases ry;rcases sq with sq | sq
  ·obtain⟨its,rv,pl,hzz⟩:=I.list sq;obtain⟨e,h3,h4⟩:=Q9P I m hu h1 ex rx h2 d rv;refine hL e pl.isList (fun y hy=>h3 y (by simpa using hy)) ⟨.bl _,H,I,rfl,k _ M _ H ?_ (Ext.refl H) m (.bl _)⟩
   rw[show its.toArray.any e=its.any e by simp,Q2z h4]
   exact q
  ·obtain⟨its,rv,pl,hzz⟩:=I.tuple sq;obtain⟨e,h3,h4⟩:=Q9P I m hu h1 ex rx h2 d rv;refine hT e pl (fun y hy=>h3 y (by simpa using hy)) ⟨.bl _,H,I,rfl,k _ M _ H ?_ (Ext.refl H) m (.bl _)⟩
   rw[show its.toArray.any e=its.any e by simp,Q2z h4]
   exact q
theorem od_in(hu:X.A.units+64<cLine):OpD X (compareOp .In) (rIn1 id):=by
 refine QcH hu (fun{z c t u s Q} h=>?_) (fun e h1 h2 h3=>SeqAt.in_listAt e h1 h2 h3) (fun e h1 h2 h3=>SeqAt.in_tupleAt e h1 h2 h3);refine in_str ?_;have:=StrLaws.found_one (S z) c;rw[Q1w]at this;have e:S [c]=⟨#[c]⟩:=rfl;rw[e,this];exact h
end
end DL
namespace DL
open PySem PySem.Spec L2
open PyProof.Rows hiding St
open AutoSeq1 (wpAny_loadPart')
section
variable{prog:Program}{w:World}{A:Around}{E:Value->Shared->Prop}{s:Shared}
end
end DL
namespace DL
open PySem PySem.Spec L2
open PyProof.Rows hiding St
section
variable{prog:Program}{w:World}{A:Around}{E:Value->Shared->Prop}{s:Shared}
end
section
variable{prog:Program}{w:World}{A:Around}{E:Value->Shared->Prop}{s:Shared}
end
section
variable{X:Cx}{a b c e o tg:Expr}{es:List Expr}{ta tb te to:DTE}{pos p2 p apos cpos:Pos}{K:Frag}
end
section
variable{X:Cx}{a b c e tg:Expr}{es:List Expr}{ta tb te:DTE}{tt tu:DTT}{pos p2 p:Pos}{K:Frag}
theorem _root_.L2.PK.imp'(h:PK X kws t)(i:∀ σ H Q,t' σ H Q->t σ H Q):PK X kws t':=fun pos pins s σ H Q I q=>h pos pins s σ H Q I (i σ H Q q)
noncomputable abbrev DKw(X:Cx)(kws:List Keyword)(t:DTA):Prop:=PK X kws (lA X.K t)
theorem QaQ:DKw X [] dNil:=Qc2.imp' fun σ H Q ⟨ρ,M,R,s,m,h,k⟩=>k [] M [] H h (Ext.refl H) m .nil
theorem Q8K(ha:DE X e te)(hr:DKw X kws tr):DKw X (⟨nm,e,kpos⟩::kws) (zaX te tr) :=
 (Qal ha hr).imp' fun σ H Q ⟨ρ,M,R,s,m,h,k⟩=>⟨ρ,M,_,s,m,h,fun d M1 v H1 h1 x1 m1 e1=>⟨ρ,M1,_,s.ext x1,m1,h1,fun ds M2 vs H2 h2 x2 m2 e2=>k _ M2 _ H2 h2 (x1.trans x2) m2 (.cons (e1.ext x2) e2)⟩⟩
end
noncomputable abbrev DX:=Nat->DH->Prop
noncomputable abbrev DSpX:=List D->DH->DK->DX->Prop
noncomputable abbrev CN:=Nat->Option Str
noncomputable def rowOf(c:Nat):Option Int:=if c<64 then none else some ((c / 64-1:Nat):Int)
noncomputable def RowIs(c:Nat)(r:Option (Int×Addr))(H:Hp):Prop:=r.map (·.1)=rowOf c/\∀ n d,r=some (n,d)->H d=none
noncomputable def AftX(K:Frag)(mg:Str->Option Value)(cn:CN)(H:Hp)(RX:DX)(R0:XC->Hp->Prop):Prop:=∀ c x u r M' H',RX c M'->cn c=some x->mg x=some u->RowIs c r H'->Ext H H'->SimM K M' H'->R0 (u,r) H'
noncomputable def lX(K:Frag)(mg:Str->Option Value)(cn:CN)(RX:DX):XC->Hp->Prop:=fun u H=>∃ c x M,cn c=some x/\mg x=some u.1/\RowIs c u.2 H/\SimM K M H/\RX c M
noncomputable def lSpX(K:Frag)(mg:Str->Option Value)(cn:CN)(sp:DSpX):Sp:=fun vs H Q E=>∃ ds M R RX,Dens K H ds vs/\SimM K M H/\sp ds M R RX/\Aft K H R Q/\AftX K mg cn H RX fun u H'=>E u.1 u.2 H'
section
variable{X:Cx}{a b c e:Expr}{es:List Expr}{te:DTE}{pos p2 p np cpos:Pos}{K:Frag}{cn:CN}
end
section
variable{X:Cx}{pos:Pos}
noncomputable def zau(c:DTT)(tb:DTS):DTS:=fun DD ρ M=>∃ W:Nat->DSt->DH->Prop,(∃ m,W m ρ M)/\∀ m ρ M,W m ρ M ->
 c ρ M fun b M1=>if b=true then ∃ N:DSt->DH->Prop,(∀ ρ' M',N ρ' M'->∃ m',m'<m/\W m' ρ' M')/\tb { DD with nx:=N,ct:=N,bk:=DD.nx } ρ M1 else DD.nx ρ M1
theorem Q8L(hp:PassesOwn (model X.prog X.w) X.A X.env X.xe)(hc:DT X c tc)(hb:DSs X body tb):DS X (.While c body [] pos) (zau tc tb) :=
 (Q8c hp hc hb).imp fun D σ H ⟨ρ,M,DD,s,m,⟨W,⟨m0,w0⟩,turn⟩,k⟩ =>
  ⟨fun n σ' H'=>∃ ρ' M',Ext H H'/\SimS X.K H' ρ' σ'/\SimM X.K M' H'/\W n ρ' M',⟨m0,ρ,M,Ext.refl H,s,m,w0⟩,by
   rintro n σ' H' ⟨ρ',M',x',s',m',w'⟩;refine⟨ρ',M',_,s',m',turn n ρ' M' w',fun b M1 H1 h1 x1 m1=>?_⟩;cases b with
   | true =>
    obtain⟨N,hN,h2⟩:=(Ze rfl).mp h1;refine iteT ⟨fun σ2 H2=>∃ ρ2 M2,Ext H H2/\SimS X.K H2 ρ2 σ2/\SimM X.K M2 H2/\N ρ2 M2,?_,?_⟩
    ·rintro σ2 H2 ⟨ρ2,M2,x2,s2,m2,n2⟩;obtain⟨m',hm,w2⟩:=hN ρ2 M2 n2;exact⟨m',hm,ρ2,M2,x2,s2,m2,w2⟩
    ·have xx:=x'.trans x1;exact⟨ρ',M1,_,s'.ext x1,m1,h2,⟨fun ρ4 M4 σ4 H4 q4 x4 s4 m4=>⟨ρ4,M4,xx.trans x4,s4,m4,q4⟩,(k.ext xx).rt,fun ρ4 M4 σ4 H4 q4 x4 s4 m4=>(k.ext xx).nx ρ4 M4 σ4 H4 q4 x4 s4 m4,fun ρ4 M4 σ4 H4 q4 x4 s4 m4=>⟨ρ4,M4,xx.trans x4,s4,m4,q4⟩⟩⟩
   | false=>exact iteF (k.nx ρ' M1 σ' H1 ((Zc Zs).mp h1) (x'.trans x1) (s'.ext x1) m1)⟩
end
section
variable{X:Cx}{K:Frag}{H:Hp}
noncomputable def zak(M:DH):D->Option (List D)
 | .lst xs=>some xs
 | .ref a=>match M a with
  | some (.lst xs)=>some xs
  | _=>none
 | _=>none
theorem Q2A(m:SimM K M H)(den:Den K H d v)(e:zak M d=some xs):∃ p vs,v=.ref p/\SqL K H p vs/\Dens K H xs vs:=by
 cases den with
 | lst sq d=>cases e;exact⟨_,_,rfl,sq.sq,d⟩
 | ref p =>
  cases qa:M p with
  | none=>simp[zak,qa]at e
  | some o =>
   cases o with
   | oth _=>simp only[zak,qa]at e;cases e
   | lst ds =>
    simp only[zak,qa]at e;cases e;obtain⟨vs,e2,dn⟩:=m.get qa;exact⟨_,_,rfl,.inl (.inl e2),dn⟩
 | _=>cases e
noncomputable def zbo:List D->DH->DK->Prop:=fun ds M Q=>match ds with
 | [d]=>∃ zs:List (List Nat),zak M d=some (zs.map .str)/\zs.length<64/\∀ zs':List (List Nat),zs'.Perm zs->zs'.Pairwise (fun a b=>a<=b)->∀ p,M p=none->Q (.ref p) (dupd M p (.lst (zs'.map .str)))
 | _=>False
theorem Q4U:∀ {zs:List (List Nat)} {vs:List V} {its:List Value},Dens K H (zs.map .str) vs->Vals vs its->StrsAre its (zs.map S)
 | [],_,_,.nil,.nil=>.nil
 | z::r,_,_,.cons (.str _ _) t,.cons ⟨tk,e⟩ u=>by
  subst e;exact .cons (S z) tk (Q4U t u)
theorem Q3J:∀ {its:List Value} {ss:List Str},StrsAre its ss->Vals (ss.map .str) its
 | _,_,.nil=>.nil
 | _,_,.cons x t r=>.cons ⟨t,rfl⟩ (Q3J r)
theorem Q6V:∀ {zs:List (List Nat)} {vs:List V},Dens K H (zs.map .str) vs->∀ z∈zs,(z.all fun c=>decide (c<1114112))=true
 | [],_,_,_,h=>nomatch h
 | z::r,_,.cons (.str _ h) t,y,hy=>by
  rcases Z3.mp hy with e | e
  ·rw[e];exact h
  ·exact Q6V t y e
theorem Q4V:∀ {zs:List (List Nat)},(∀ z∈zs,(z.all fun c=>decide (c<1114112))=true)->Dens K H (zs.map .str) ((zs.map S).map .str)
 | [],_=>.nil
 | z::r,h=>.cons (.str z (h z (Zl ..))) (Q4V fun y hy=>h y (Zq _ hy))
theorem S_cps(x:Str):S x.cps.toList=x:=by
 cases x;rfl
theorem Q3K:∀ (p:Str) (l:List Str),risingS p l=true->(p::l).Pairwise (fun a b=>a.cps.toList<=b.cps.toList)
 | p,[],_=>List.pairwise_singleton ..
 | p,x::r,h=>by
  have h':(!ltCps x.cps.toList p.cps.toList&&risingS x r)=true:=h;rw[Zh,not_eq_true',ltCps_eq,decide_eq_false_iff_not]at h';have ih:=Q3K x r h'.2;refine List.pairwise_cons.mpr ⟨fun y hy=>?_,ih⟩;have h1:p.cps.toList<=x.cps.toList:=h'.1;rcases Z3.mp hy with e | e
  ·rw[e];exact h1
  ·exact List.le_trans h1 ((List.pairwise_cons.mp ih).1 y e)
theorem Q6W:∀ (l:List Str),sortedS l=true->l.Pairwise (fun a b=>a.cps.toList<=b.cps.toList)
 | [],_=>.nil
 | x::r,h=>Q3K x r h
theorem Q6X:zaV X (.builtin "sorted") zbo:=by
 rintro pins s σ H xs us Q I rv ⟨ds,M,R,dn,m,q,k⟩
 match ds,dn,q with
 | [d],.cons den .nil,⟨zs,e,h64,q⟩ =>
  obtain⟨p,vs,rfl,sq,dd⟩:=Q2A m den e;obtain⟨u,rfl,rx⟩:=vals1 rv;cases rx;obtain⟨its,r',pl,hz⟩:=I.list sq;have hS:=Q4U dd r';have hlen:its.length=zs.length:=by rw[<- r'.length,<- dd.length,Zd]
  refine sorted_strs pl.isList hS (by rw[hlen];exact h64) fun out ss' a1 a2 a3=>?_
  obtain⟨n,hn⟩:=sortedAll_at s.heap its out;have ez:(ss'.map fun x=>x.cps.toList).map S=ss':=by
   rw[map_map]
   conv=>rhs;rw[<- map_id ss']
   exact map_congr_left fun x _=>S_cps x
  have pz:(ss'.map fun x=>x.cps.toList).Perm zs:=by
   have:=a2.map fun x:Str=>x.cps.toList;rw[map_map]at this;have e0:zs.map ((fun x:Str=>x.cps.toList) ∘ S)=zs:=by
    conv=>rhs;rw[<- map_id zs]
    exact map_congr_left fun x _=>by simp[S]
   rwa [e0]at this
  have fr:H (s.heap.objs.size+1)=none:=I.hok.fresh (Yq _);have al:∀ z∈(ss'.map fun x=>x.cps.toList),(z.all fun c=>decide (c<1114112))=true:=fun z hz=>Q6V dd z (pz.mem_iff.mp hz);have dn':Dens X.K H ((ss'.map fun x=>x.cps.toList).map .str) (ss'.map .str):=by
   have:=Q4V (K:=X.K) (H:=H) al
   rwa [ez]at this
  have hl':(ss'.map V.str).length<=sizeLine:=by
   have:=a2.length_eq;rw[Zd]at this ⊢;rw[this,<- hlen,<- r'.length];exact hz
  exact⟨.ref _,_,I.laid (t':=s.toks) (fun b o e=>sortedAll_old e) (Yq _) (show ObjOk X.prog X.w _ _ _ (.lst (ss'.map V.str)) from⟨hl',out.toList,n,Q3J a1,hn⟩),rfl,
   k _ _ _ _ (q _ pz (List.pairwise_map.mpr (Q6W ss' a3)) _ (m.free fr)) (Ext.new fr) (m.newL fr dn') (.ref _)⟩
end
section
variable{X:Cx}
end
section
variable{l:Addr}{dd:Option Addr}{xs:Array Value}{n:Nat}{sl:Array (Option Value)}
end
section
variable{X:Cx}
end
section
variable{X:Cx}{pos p p2 p3 cpos np:Pos}{cn:CN}{e:Expr}{es:List Expr}
noncomputable def dIsE(je:Nat)(a:Addr)(b:Bool):DTE:=fun ρ M Q=>dVar je ρ M fun d M1=>d=.ref a/\Q (.bl b) M1
end
section
variable{X:Cx}
end
section
variable{X:Cx}{e:Expr}{es:List Expr}{pos p np cpos:Pos}{cn:CN}
end
section
variable{α:Type}
noncomputable def valD(kvs:List (List (List Nat)×D))(k:List (List Nat)):Option D:=(kvs.find? fun kv=>decide (kv.1=k)).map (·.2)
noncomputable def putD(kvs:List (List (List Nat)×D))(k:List (List Nat))(v:D):List (List (List Nat)×D) :=
 if (kvs.any fun kv=>decide (kv.1=k))=true then kvs.map (fun kv=>if kv.1=k then (kv.1,v) else kv) else kvs++[(k,v)]
theorem Q0p(e:p.1=k):valD (p::r) k=some p.2:=by simp[valD,Yu,e]
theorem Q0q(e:¬ p.1=k):valD (p::r) k=valD r k:=by simp[valD,Yu,e]
theorem Q1x(k:List (List Nat)):∀ kvs:List (List (List Nat)×D),(kvs.any fun kv=>decide (kv.1=k))=(valD kvs k).isSome
 | []=>rfl
 | p::r=>by
  rw[any_cons];by_cases e:p.1=k
  ·simp only[Q0p e,Zm e,Bool.true_or,Option.isSome_some]
  ·rw[Q0q e,Zr e,Bool.false_or];exact Q1x k r
theorem Q4W(k j:List (List Nat))(y:D):∀ kvs:List (List (List Nat)×D),valD (kvs.map fun kv=>if kv.1=k then (kv.1,y) else kv) j=(valD kvs j).map fun x=>if j=k then y else x
 | []=>rfl
 | p::r=>by
  have ih:=Q4W k j y r;rw[Zy];by_cases h:p.1=k
  ·rw[Ze h];by_cases e:p.1=j
   ·rw[Q0p (p:=(p.1,y)) e,Q0p e,ZX,Ze (e.symm.trans h)]
   ·rw[Q0q (p:=(p.1,y)) e,Q0q e,ih]
  ·rw[Zc h];by_cases e:p.1=j
   ·rw[Q0p (p:=p) e,Q0p e,ZX,Zc (fun z=>h (e.trans z))]
   ·rw[Q0q (p:=p) e,Q0q e,ih]
theorem Q3L(k j:List (List Nat))(y:D):∀ kvs:List (List (List Nat)×D),valD kvs k=none->valD (kvs++[(k,y)]) j=if j=k then some y else valD kvs j
 | [],_=>by
  by_cases e:k=j
  ·rw[Ze e.symm];exact Q0p (p:=(k,y)) e
  ·rw[Zc (fun z=>e z.symm)];exact Q0q (p:=(k,y)) e
 | p::r,hn=>by
  rw[cons_append];have hk:¬ p.1=k:=fun z=>by rw[Q0p z]at hn;cases hn
  rw[Q0q hk]at hn;have ih:=Q3L k j y r hn;by_cases e:p.1=j
  ·rw[Q0p e,Q0p e,Zc (fun z=>hk (e.trans z))]
  ·rw[Q0q e,Q0q e,ih]
theorem Q0t(kvs:List (List (List Nat)×D))(k j:List (List Nat))(y:D):valD (putD kvs k y) j=if j=k then some y else valD kvs j:=by
 unfold putD;by_cases a:(kvs.any fun kv=>decide (kv.1=k))=true
 ·rw[Ze a,Q4W];rw[Q1x]at a;by_cases e:j=k
  ·obtain⟨x,hx⟩:=Yp.mp a;rw[Ze e,e,hx,ZX,Ze rfl]
  ·rw[Zc e];cases valD kvs j with
   | none=>rfl
   | some x=>rw[ZX,Zc e]
 ·rw[Zc a];refine Q3L k j y kvs ?_;rw[Q1x]at a;cases q:valD kvs k with
  | none=>rfl
  | some x=>rw[q]at a;exact (a rfl).elim
theorem Q0U(kvs:List (List (List Nat)×D))(k:List (List Nat))(v:D):(putD kvs k v).length<=kvs.length+1:=by
 unfold putD;split
 ·rw[Zd];omega
 ·rw[Zi,Zj,ZU];omega
end
theorem Q3M:∀ {a b:List (List Nat)},nk a=nk b->a=b
 | [],[],_=>rfl
 | [],_::_,e=>by simp[nk]at e
 | _::_,[],e=>by simp[nk]at e
 | x::xs,y::ys,e=>by
  have e':(Sum.inr (S x):Key)::nk xs=Sum.inr (S y)::nk ys:=e;injection e' with e1 e2;injection e1 with e1;rw[S_inj e1,Q3M e2]
section
variable{K:Frag}{H:Hp}
theorem Q2g:∀ {n:List (List Nat)} {vs:List V},Dens K H (n.map .str) vs->vs=(nk n).map kV
 | [],_,h=>by cases h;rfl
 | x::r,_,h=>by
  cases h with
  | cons h1 h2 =>
   cases h1;rw[Q2g h2];rfl
theorem KDs.val(r:KDs K H kvs vs)(k:List (List Nat)) :
  (valD kvs k=none/\valV vs (nk k)=none)\/∃ d v,valD kvs k=some d/\valV vs (nk k)=some v/\Den K H d v:=by
 induction r with
 | nil=>exact .inl ⟨rfl,rfl⟩
 | @cons p q ps qs h t ih =>
  by_cases e:p.1=k
  ·exact .inr ⟨p.2,q.2,Q0p e,Q0R (by rw[h.1,e]),h.2⟩
  ·rw[Q0q e,Q0S (by rw[h.1];exact fun z=>e (Q3M z))];exact ih
theorem KDs.put(r:KDs K H kvs vs)(k:List (List Nat))(den:Den K H d v):KDs K H (putD kvs k d) (putK vs (nk k) v):=by
 have an:(kvs.any fun kv=>decide (kv.1=k))=vs.any fun kv=>decide (kv.1=nk k):=by
  rw[Q1x,Q1j];rcases r.val k with ⟨a,b⟩ | ⟨x,y,a,b,_⟩ <;> rw[a,b] <;> rfl
 unfold putD putK;rw[an];by_cases e:(vs.any fun kv=>decide (kv.1=nk k))=true
 ·rw[Ze e,Ze e];clear an e
  induction r with
  | nil=>exact .nil
  | @cons p q ps qs h t ih =>
   rw[Zy,Zy];refine .cons ?_ ih;by_cases e:p.1=k
   ·rw[Ze e,Ze (by rw[h.1,e])];exact⟨h.1,den⟩
   ·rw[Zc e,Zc (by rw[h.1];exact fun z=>e (Q3M z))];exact h
 ·rw[Zc e,Zc e];exact Paired.snoc r ⟨rfl,den⟩
theorem KDs.length(r:KDs K H kvs vs):kvs.length=vs.length:=ZQ r
noncomputable def zaz(f:Str)(v:D):List (Str×D)->List (Str×D)
 | []=>[(f,v)]
 | (g,x)::r=>if g=f then (g,v)::r else (g,x)::zaz f v r
theorem FDs.lookup(r:FDs K H fs vs)(e:fs.lookup f=some d):∃ v,vs.lookup f=some v/\Den K H d v:=by
 induction r with
 | nil=>cases e
 | @cons p q ps qs h t ih =>
  obtain⟨p1,p2⟩:=p;obtain⟨q1,q2⟩:=q;obtain⟨h1,h2⟩:=h;cases h1;rw[ZS]at e ⊢;cases c:f==p1 with
  | true=>rw[c]at e;cases e;exact⟨q2,rfl,h2⟩
  | false=>rw[c]at e;exact ih e
theorem FDs.no(r:FDs K H fs vs)(e:fs.lookup f=none):vs.lookup f=none:=by
 induction r with
 | nil=>rfl
 | @cons p q ps qs h t ih =>
  obtain⟨p1,p2⟩:=p;obtain⟨q1,q2⟩:=q;obtain⟨h1,h2⟩:=h;cases h1;rw[ZS]at e ⊢;cases c:f==p1 with
  | true=>rw[c]at e;cases e
  | false=>rw[c]at e;exact ih e
theorem FDs.put(r:FDs K H fs vs)(f:Str)(den:Den K H d v):FDs K H (zaz f d fs) (putF f v vs):=by
 induction r with
 | nil=>exact .cons ⟨rfl,den⟩ .nil
 | @cons p q ps qs h t ih =>
  obtain⟨p1,p2⟩:=p;obtain⟨q1,q2⟩:=q;obtain⟨h1,h2⟩:=h;cases h1;show FDs K H (if p1=f then (p1,d)::ps else (p1,p2)::zaz f d ps) (if p1=f then (p1,v)::qs else (p1,q2)::putF f v qs)
  by_cases e:p1=f
  ·rw[Ze e,Ze e];exact .cons ⟨rfl,den⟩ t
  ·rw[Zc e,Zc e];exact .cons ⟨rfl,h2⟩ ih
theorem FDs.length(r:FDs K H fs vs):fs.length=vs.length:=ZQ r
end
theorem SimM.dct{K:Frag}{H:Hp}{M:DH}(h:SimM K M H){a:Addr}{kvs:List (List (List Nat)×D)}(e:M a=some (.oth (.dct kvs))):∃ vs,H a=some (.dT vs)/\KDs K H kvs vs:=h a _ e
theorem SimM.ins{K:Frag}{H:Hp}{M:DH}(h:SimM K M H){a:Addr}{c:Str}{fs:List (Str×D)}(e:M a=some (.oth (.ins c fs))):∃ C dx vs,nsIn K mainGlobals c=some (some (.ref C))/\H a=some (.ins C dx vs)/\FDs K H fs vs:=h a _ e
theorem Q0G{K:Frag}{H:Hp}{n:List (List Nat)}{v:V}(h:Den K H (.tup (n.map .str)) v):∃ b,v=.ref b/\H b=some (.tup ((nk n).map kV)):=by
 cases h with
 | tup q r=>exact⟨_,rfl,by rw[<- Q2g r];exact q⟩
section
variable{X:Cx}{e o value a b k:Expr}{es:List Expr}{pos pos' apos cpos p:Pos}{te tv tk td:DTE}{t:DTA}
noncomputable def dFld(c f:Str)(te:DTE):DTE:=fun ρ M Q=>te ρ M fun x M1=>∃ a fs d,x=.ref a/\M1 a=some (.oth (.ins c fs))/\fs.lookup f=some d/\Q d M1
theorem QcI(hC:nsIn X.K mainGlobals c=some (some (.ref C)))(hc:Cls X.K C)(hn:NoAttr X.K C f)(he:DE X e te)(hb:attributeBase e f X.env (eval e X.env)=eval e X.env):DE X (.Attribute e f pos) (dFld c f te) :=
 (QbZ he hb).imp fun σ H Q ⟨ρ,M,R,s,m,h,k⟩=>⟨ρ,M,_,s,m,h,fun d M1 v H1 ⟨a,fs,d',e1,e2,e3,h1⟩ x1 m1 den=>by
  subst e1;cases den;obtain⟨C',dx,vs,g1,g2,g3⟩:=m1.ins e2;rw[hC]at g1;cases g1;obtain⟨v,l1,l2⟩:=FDs.lookup g3 e3;exact⟨a,C,dx,vs,v,rfl,g2,hc,hn,l1,k _ M1 _ _ h1 x1 m1 l2⟩⟩
noncomputable def dSetF(c f:Str)(to tv:DTE):DTS:=fun DD ρ M=>tv ρ M fun y M1=>to ρ M1 fun x M2=>∃ a fs,x=.ref a/\M2 a=some (.oth (.ins c fs))/\fs.length<1000/\DD.nx ρ (dupd M2 a (.oth (.ins c (zaz f y fs))))
theorem QaR(hC:nsIn X.K mainGlobals c=some (some (.ref C)))(hc:Cls X.K C)(hn:NoAttr X.K C f)(ho:DE X o to)(hv:DE X value tv)
  (hs:swapsWith value (some (.Attribute o f pos')) pos.line X.env=pure false):DS X (.Assign [.Attribute o f pos'] value pos) (dSetF c f to tv) :=
 (Qc0 ho hv hs).imp fun D σ H ⟨ρ,M,DD,s,m,h,k⟩=>⟨ρ,M,_,s,m,h,fun y M1 yv H1 h1 x1 m1 dy=>⟨ρ,M1,_,s.ext x1,m1,h1,fun x M2 xv H2 ⟨a,fs,e1,e2,e3,h2⟩ x2 m2 dx'=>by
  subst e1;cases dx';obtain⟨C',dx,vs,g1,g2,g3⟩:=m2.ins e2;rw[hC]at g1;cases g1;have xx:Ext H2 (upd H2 a (.ins C dx (putF f yv vs))):=Ext.mut g2 (fun _ z=>nomatch z) (fun _ _ z=>nomatch z)
  exact⟨a,C,dx,vs,rfl,g2,hc,hn,by rw[<- g3.length];exact e3,k.nx ρ _ σ _ h2 ((x1.trans x2).trans xx) ((s.ext (x1.trans x2)).ext xx)
   (m2.put xx ⟨C,dx,_,hC,Q0e,Paired.mapP (g3.put f (dy.ext x2)) fun p q z=>⟨z.1,Den.ext xx z.2⟩⟩)⟩⟩⟩
noncomputable def zbr(c m:Str)(sp:DSp)(to:DTE)(t:DTA):DTE:=fun ρ M Q=>to ρ M fun x M1=>∃ a fs,x=.ref a/\M1 a=some (.oth (.ins c fs))/\fs.lookup m=none/\t ρ M1 fun ds M2=>sp (.ref a::ds) M2 Q
theorem Q8M{c m:Str}{C:Addr}{sp:DSp}{to:DTE}{E:XK}{K:Frag}(hC:nsIn K mainGlobals c=some (some (.ref C))){σ:St}{H:Hp}{Q:VK}(h:lE K (zbr c m sp to t) σ H Q) :
  tMeth C m (lSp K sp) [] E (lE K to) (lA K t) σ H Q:=by
 obtain⟨ρ,M,R,s,mm,h,k⟩:=h;refine⟨ρ,M,_,s,mm,h,fun x M1 xv H1 ⟨a,fs,e1,e2,e3,h1⟩ x1 m1 den=>?_⟩;subst e1;cases den;obtain⟨C',dx,vs,g1,g2,g3⟩:=m1.ins e2;rw[hC]at g1;cases g1;refine⟨a,dx,vs,rfl,g2,g3.no e3,ρ,M1,_,s.ext x1,m1,h1,fun ds M2 ws H2 h2 x2 m2 dn=>?_⟩;refine⟨.ref a::ds,M2,R,?_,m2,h2,k.ext (x1.trans x2)⟩;rw[Yh];exact .cons (.ref a) dn
theorem QaS(hC:nsIn X.K mainGlobals c=some (some (.ref C)))(hc:Cls X.K C)(hm:Meth X.K C m f)
  (F:FnOk X.prog X.w X.K X.mg X.base CX kk f fd ps (lSp X.K sp)) (hr:Room kk X.A) (hb:Binds X.K fd ps []) (hx:zav CX X E) (ho:DE X o to) (ha:DA X (e::es) t)
  (hst:starEach (e::es) X.env=(false,eval e X.env)::starEach es X.env) (hpl:(backTo pos (starEach es X.env)).any (·.1)=false)
  (ht:eval (.Call (.Attribute o m apos) (e::es) [] pos) X.env=(do
   let ov <- eval o X.env
   standAt apos.atName
   let (f,first) <- holding [ov] (getMethod ov m pl)
   callWith pos f first (backTo pos (starEach (e::es) X.env)) (backToKw pos (keywordEach [] X.env)))):DE X (.Call (.Attribute o m apos) (e::es) [] pos) (zbr c m sp to t) :=
 (Qaj ho hc hm F hr hb .nil hx ha hst hpl ht).imp fun σ H Q h=>Q8M hC h
theorem Q8N(hC:nsIn X.K mainGlobals c=some (some (.ref C)))(hc:Cls X.K C)(hm:Meth X.K C m f)
  (F:FnOk X.prog X.w X.K X.mg X.base CX kk f fd ps (lSp X.K sp)) (hr:Room kk X.A) (hb:Binds X.K fd ps []) (hx:zav CX X E) (ho:DE X o to)
  (ht:eval (.Call (.Attribute o m apos) [] [] pos) X.env=(do
   let ov <- eval o X.env
   standAt apos.atName
   let (f,first) <- holding [ov] (getMethod ov m pl)
   callWith pos f first (backTo pos (starEach [] X.env)) (backToKw pos (keywordEach [] X.env)))):DE X (.Call (.Attribute o m apos) [] [] pos) (zbr c m sp to dNil) :=
 (Q8i ho hc hm F hr hb .nil hx ht).imp fun σ H Q h=>by
  obtain⟨ρ,M,R,s,mm,h,k⟩:=h;refine⟨ρ,M,_,s,mm,h,fun x M1 xv H1 ⟨a,fs,e1,e2,e3,h1⟩ x1 m1 den=>?_⟩;subst e1;cases den;obtain⟨C',dx,vs,g1,g2,g3⟩:=m1.ins e2;rw[hC]at g1;cases g1;exact⟨a,dx,vs,rfl,g2,g3.no e3,.ref a::[],M1,R,.cons (.ref a) .nil,m1,h1,k.ext x1⟩
noncomputable def zbX(c:Str)(sp:DSp)(t:DTA):DTE:=fun ρ M Q=>t ρ M fun ds M1=>∀ x,M1 x=none->sp (.ref x::ds) (dupd M1 x (.oth (.ins c []))) fun d M2=>d=.non/\Q (.ref x) M2
theorem QaT(hC:nsIn X.K mainGlobals c=some (some (.ref C)))(MK:Mk X.K C f)
  (F:FnOk X.prog X.w X.K X.mg X.base CX kk f fd ps (lSp X.K sp)) (hr:Room (kk+1) X.A) (hg:Gl X c) (hm:X.mg c=some (.ref C)) (hb:Binds X.K fd ps []) (hx:zav CX X E) (ha:DA X (e::es) t) (hdb:(c==("__debug__" : Str))=false)
  (he:starEach (e::es) X.env=(false,eval e X.env)::starEach es X.env) (hpl:(backTo pos (starEach es X.env)).any (·.1)=false):DE X (.Call (.Name c p) (e::es) [] pos) (zbX c sp t) :=
 (Qak MK F hr hg hm hb .nil hx ha hdb he hpl).imp fun σ H Q ⟨ρ,M,R,s,m,h,k⟩=>⟨ρ,M,_,s,m,h,fun ds M1 vs H1 h1 x1 m1 dn x dx hx hd hne=>by
  have n1:upd H1 dx (.own x) x=none:=by rw[Q0d hne.symm];exact hx
  have y1:Ext H1 (upd H1 dx (.own x)):=Ext.new hd;have y2:Ext (upd H1 dx (.own x)) (upd (upd H1 dx (.own x)) x (.ins C dx [])):=Ext.new n1;refine⟨.ref x::ds,dupd M1 x (.oth (.ins c [])),_,?_,(m1.new hd).put y2 ⟨C,dx,[],hC,Q0e,.nil⟩,h1 x (m1.free hx),fun d M2 v H2 ⟨e2,h2⟩ x2 m2 den=>?_⟩
  ·rw[Yh];exact .cons (.ref x) ((dn.ext y1).ext y2)
  ·subst e2;cases den;exact⟨rfl,k _ M2 _ _ h2 (((x1.trans y1).trans y2).trans x2) m2 (.ref x)⟩⟩
noncomputable def zbZ:DTE:=fun _ M Q=>∀ q,M q=none->Q (.ref q) (dupd M q (.oth (.dct [])))
theorem QaU:DE X (.Dict [] [] pos) zbZ :=
 Q8t.imp fun σ H Q ⟨ρ,M,R,s,m,h,k⟩ q hq=>k _ _ _ _ (h q (m.free hq)) (Ext.new hq) (m.put (u:=.oth (.dct [])) (Ext.new hq) ⟨[],Q0e,.nil⟩) (.ref q)
noncomputable def zbj(tk tv:DTE):DTE:=fun ρ M Q=>∀ q,M q=none->tk ρ (dupd M q (.oth (.dct []))) fun x M1=>tv ρ M1 fun y M2=>∃ n:List (List Nat),x=.tup (n.map .str)/\M2 q=some (.oth (.dct []))/\Q (.ref q) (dupd M2 q (.oth (.dct [(n,y)])))
theorem Q8O(hu:X.A.units+1<cLine)(hk:DE X k tk)(hv:DE X value tv):DE X (.Dict [some k] [value] pos) (zbj tk tv) :=
 (Q8w hu hk hv).imp fun σ H Q ⟨ρ,M,R,s,m,h,k⟩ q hq=>⟨ρ,_,_,s.ext (Ext.new hq),m.put (u:=.oth (.dct [])) (Ext.new hq) ⟨[],Q0e,.nil⟩,h q (m.free hq),fun x M1 xv H1 h1 x1 m1 dx=>⟨ρ,M1,_,(s.ext (Ext.new hq)).ext x1,m1,h1,fun y M2 yv H2 ⟨n,e1,e2,h2⟩ x2 m2 dy=>by
  subst e1;obtain⟨b,rfl,eb⟩:=Q0G (dx.ext x2);obtain⟨vs,g1,g2⟩:=m2.dct e2;cases g2;have xx:Ext H2 (upd H2 q (.dT [(nk n,yv)])):=Ext.mut g1 (fun _ z=>nomatch z) (fun _ _ z=>nomatch z)
  exact⟨nk n,b,rfl,eb,g1,k _ _ _ _ h2 ((((Ext.new hq).trans x1).trans x2).trans xx) (m2.put xx ⟨_,Q0e,.cons ⟨rfl,dy.ext xx⟩ .nil⟩) (.ref q)⟩⟩⟩
noncomputable def rInD(f:Bool->Bool):DR2:=fun x y M Q=>∃ (n:List (List Nat)) (a:Addr) (kvs:List (List (List Nat)×D)),x=.tup (n.map .str)/\y=.ref a/\M a=some (.oth (.dct kvs))/\Q (.bl (f (valD kvs n).isSome)) M
theorem Q2S{K:Frag}{H:Hp}{kvs:List (List (List Nat)×D)}{vs:List (List Key×V)}(r:KDs K H kvs vs)(n:List (List Nat)):(valV vs (nk n)).isSome=(valD kvs n).isSome:=by
 rcases r.val n with ⟨q1,q2⟩ | ⟨d,v,q1,q2,_⟩ <;> rw[q1,q2] <;> rfl
theorem Q9Q(hu:X.A.units+1<cLine):OpD X (compareOp .In) (rInD id):=by
 rintro pins s σ H x y v u Q I rx ry ⟨dx,dy,M,R,ex,ey,m,⟨n,a,kvs,e1,e2,e3,q⟩,k⟩;subst e1 e2;obtain⟨b,rfl,eb⟩:=Q0G ex;cases ey;obtain⟨vs,g1,g2⟩:=m.dct e3;cases ry;refine d_in hu I (DGet.t g1 eb) rx fun s' I'=>⟨.bl (valV vs (nk n)).isSome,H,I',rfl,?_⟩;rw[Q2S g2];exact k _ M _ H q (Ext.refl H) m (.bl _)
theorem QaV(hu:X.A.units+1<cLine):OpD X (compareOp .NotIn) (rInD not):=by
 rintro pins s σ H x y v u Q I rx ry ⟨dx,dy,M,R,ex,ey,m,⟨n,a,kvs,e1,e2,e3,q⟩,k⟩;subst e1 e2;obtain⟨b,rfl,eb⟩:=Q0G ex;cases ey;obtain⟨vs,g1,g2⟩:=m.dct e3;cases ry;refine Q6E hu I (DGet.t g1 eb) rx fun s' I'=>⟨.bl (!(valV vs (nk n)).isSome),H,I',rfl,?_⟩;rw[Q2S g2];exact k _ M _ H q (Ext.refl H) m (.bl _)
noncomputable def rDIx:DR2:=fun x y M Q=>∃ (n:List (List Nat)) (a:Addr) (kvs:List (List (List Nat)×D)) (d:D),y=.tup (n.map .str)/\x=.ref a/\M a=some (.oth (.dct kvs))/\valD kvs n=some d/\Q d M
theorem QcJ(hu:X.A.units+1<cLine)(hd:DE X o td)(hk:DE X k tk)(hs:NoSl k):DE X (.Subscript o k pos) (dOp rDIx td tk) :=
 (Q6G hu hd hk hs).imp fun σ H Q ⟨ρ,M,R,s,m,h,k⟩=>⟨ρ,M,_,s,m,h,fun x M1 xv H1 h1 x1 m1 dx=>⟨ρ,M1,_,s.ext x1,m1,h1,fun y M2 yv H2 ⟨n,a,kvs,d,e1,e2,e3,e4,h2⟩ x2 m2 dy=>by
  subst e1 e2;obtain⟨b,rfl,eb⟩:=Q0G dy;cases dx;obtain⟨vs,g1,g2⟩:=m2.dct e3;rcases g2.val n with ⟨q1,q2⟩ | ⟨d',v,q1,q2,q3⟩
  ·rw[q1]at e4;cases e4
  ·rw[q1]at e4;cases e4;refine⟨a,v,rfl,?_,k _ M2 _ _ h2 (x1.trans x2) m2 q3⟩;rw[<- q2];exact DGet.t g1 eb⟩⟩
noncomputable def zbl(td tk tx:DTE):DTE:=fun ρ M Q=>td ρ M fun x M1=>∃ (a:Addr) (kvs0:List (List (List Nat)×D)),x=.ref a/\M1 a=some (.oth (.dct kvs0))/\tk ρ M1 fun y M2=>tx ρ M2 fun z M3=>∃ (n:List (List Nat)) (kvs:List (List (List Nat)×D)),y=.tup (n.map .str)/\M3 a=some (.oth (.dct kvs))/\Q ((valD kvs n).getD z) M3
theorem Q8P{f:Expr}{tx:DTE}(hu:X.A.units+1<cLine)(hd:DE X o td)(hk:DE X k tk)(hf:DE X f tx)(m2:M2 X o "get" apos k f cpos):DE X (.Call (.Attribute o "get" apos) [k,f] [] cpos) (zbl td tk tx) :=
 (Q4P hu hd hk hf m2).imp fun σ H Q ⟨ρ,M,R,s,m,h,k⟩=>⟨ρ,M,_,s,m,h,fun x M1 xv H1 ⟨a,kvs0,e1,e2,h1⟩ x1 m1 dx=>by
  subst e1;cases dx;obtain⟨vs0,g1,_⟩:=m1.dct e2;refine⟨a,rfl,.inr ⟨vs0,.inl g1⟩,ρ,M1,_,s.ext x1,m1,h1,fun y M2 yv H2 h2 x2 m2 dy=>⟨ρ,M2,_,(s.ext x1).ext x2,m2,h2,fun z M3 zv H3 ⟨n,kvs,e3,e4,h3⟩ x3 m3 dz=>?_⟩⟩;subst e3;obtain⟨b,rfl,eb⟩:=Q0G (dy.ext x3);obtain⟨vs,g3,g4⟩:=m3.dct e4;refine⟨_,DGet.t g3 eb,?_⟩;have xx:=(x1.trans x2).trans x3;rcases g4.val n with ⟨q1,q2⟩ | ⟨d',v,q1,q2,q3⟩
  ·rw[q2];rw[q1]at h3;exact k _ M3 _ _ h3 xx m3 dz
  ·rw[q2];rw[q1]at h3;exact k _ M3 _ _ h3 xx m3 q3⟩
noncomputable def zbk(td tk tx:DTE):DTE:=fun ρ M Q=>td ρ M fun x M1=>∃ (a:Addr) (kvs0:List (List (List Nat)×D)),x=.ref a/\M1 a=some (.oth (.dct kvs0))/\tk ρ M1 fun y M2=>tx ρ M2 fun z M3=>∃ (n:List (List Nat)) (kvs:List (List (List Nat)×D)),y=.tup (n.map .str)/\M3 a=some (.oth (.dct kvs))/\kvs.length<sizeLine /\
 (∀ d,valD kvs n=some d->Q d M3)/\(valD kvs n=none->Q z (dupd M3 a (.oth (.dct (putD kvs n z)))))
theorem Q8Q{f:Expr}{tx:DTE}(hu:X.A.units+1<cLine)(hd:DE X o td)(hk:DE X k tk)(hf:DE X f tx)(m2:M2 X o "setdefault" apos k f cpos):DE X (.Call (.Attribute o "setdefault" apos) [k,f] [] cpos) (zbk td tk tx) :=
 (Q8v hu hd hk hf m2).imp fun σ H Q ⟨ρ,M,R,s,m,h,k⟩=>⟨ρ,M,_,s,m,h,fun x M1 xv H1 ⟨a,kvs0,e1,e2,h1⟩ x1 m1 dx=>by
  subst e1;cases dx;obtain⟨vs0,g1,_⟩:=m1.dct e2;refine⟨a,rfl,.inr ⟨vs0,.inl g1⟩,ρ,M1,_,s.ext x1,m1,h1,fun y M2 yv H2 h2 x2 m2 dy=>⟨ρ,M2,_,(s.ext x1).ext x2,m2,h2,fun z M3 zv H3 ⟨n,kvs,e3,e4,e5,h3,h4⟩ x3 m3 dz=>?_⟩⟩;subst e3;obtain⟨b,rfl,eb⟩:=Q0G (dy.ext x3);obtain⟨vs,g3,g4⟩:=m3.dct e4;have xx:=(x1.trans x2).trans x3;refine⟨vs,nk n,b,g3,rfl,eb,by rw[<- g4.length];exact e5,fun v hv=>?_,fun hv=>?_⟩
  ·rcases g4.val n with ⟨q1,q2⟩ | ⟨d',v',q1,q2,q3⟩
   ·rw[q2]at hv;cases hv
   ·rw[q2]at hv;cases hv;exact k _ M3 _ _ (h3 d' q1) xx m3 q3
  ·rcases g4.val n with ⟨q1,q2⟩ | ⟨d',v',q1,q2,q3⟩
   ·have y:Ext H3 (upd H3 a (.dT (putK vs (nk n) zv))):=Ext.mut g3 (fun _ z=>nomatch z) (fun _ _ z=>nomatch z)
    exact k _ _ _ _ (h4 q1) (xx.trans y) (m3.put y ⟨_,Q0e,Paired.mapP (g4.put n dz) fun p q z=>⟨z.1,Den.ext y z.2⟩⟩) (dz.ext y)
   ·rw[q2]at hv;cases hv⟩
noncomputable def dDPut(td tk tv:DTE):DTS:=fun DD ρ M=>tv ρ M fun v M1=>td ρ M1 fun x M2=>tk ρ M2 fun y M3=>∃ (a:Addr) (n:List (List Nat)) (kvs:List (List (List Nat)×D)),x=.ref a/\y=.tup (n.map .str)/\M3 a=some (.oth (.dct kvs))/\kvs.length<sizeLine/\DD.nx ρ (dupd M3 a (.oth (.dct (putD kvs n v))))
theorem QaW(hu:X.A.units+1<cLine)(hd:DE X o td)(hk:DE X k tk)(hv:DE X value tv)(hs:swapsWith value (some (.Subscript o k pos')) pos.line X.env=pure false):DS X (.Assign [.Subscript o k pos'] value pos) (dDPut td tk tv) :=
 (Q6H hu hd hk hv hs).imp fun D σ H ⟨ρ,M,DD,s,m,h,k⟩=>⟨ρ,M,_,s,m,h,fun v M1 vv H1 h1 x1 m1 dv=>⟨ρ,M1,_,s.ext x1,m1,h1,fun x M2 xv H2 h2 x2 m2 dx=>⟨ρ,M2,_,(s.ext x1).ext x2,m2,h2,fun y M3 yv H3 ⟨a,n,kvs,e1,e2,e3,e4,h3⟩ x3 m3 dy=>by
  subst e1 e2;cases dx;obtain⟨b,rfl,eb⟩:=Q0G dy;obtain⟨vs,g1,g2⟩:=m3.dct e3;have y:Ext H3 (upd H3 a (.dT (putK vs (nk n) vv))):=Ext.mut g1 (fun _ z=>nomatch z) (fun _ _ z=>nomatch z)
  have xx:=(x1.trans x2).trans x3;exact⟨a,_,rfl,DPut.t g1 eb (by rw[<- g2.length];exact e4),k.nx ρ _ σ _ h3 (xx.trans y) ((s.ext xx).ext y) (m3.put y ⟨_,Q0e,Paired.mapP (g2.put n ((dv.ext x2).ext x3)) fun p q z=>⟨z.1,Den.ext y z.2⟩⟩)⟩⟩⟩⟩
end
section
variable{X:Cx}
noncomputable def rAddL:DR2:=fun x y M Q=>∃ xs ys,zak M x=some xs/\zak M y=some ys/\xs.length+ys.length<=sizeLine/\∀ p,M p=none->Q (.ref p) (dupd M p (.lst (xs++ys)))
theorem QaX:OpD X (binaryOp .Add) rAddL:=by
 rintro pins s σ H x y v u Q I rx ry ⟨dx,dy,M,R,ex,ey,m,⟨xs,ys,e1,e2,hz,q⟩,k⟩;obtain⟨a,vs,rfl,sq,d1⟩:=Q2A m ex e1;obtain⟨b,ws,rfl,sq2,d2⟩:=Q2A m ey e2;cases rx;cases ry;obtain⟨its,r1,pl1,_⟩:=I.list sq;obtain⟨its2,r2,pl2,_⟩:=I.list sq2;have l1:=d1.length;have l2:=d2.length;have l3:=r1.length;have l4:=r2.length;obtain⟨⟨cls,dd,data,sl⟩,ho,hc,n,hd⟩:=pl1.isList;obtain⟨⟨cls2,dd2,data2,sl2⟩,ho2,hc2,n2,hd2⟩:=pl2.isList;simp only at hc hd hc2 hd2;subst hc hd hc2 hd2;have e:its.toArray++its2.toArray=(its++its2).toArray:=by simp
 refine concat_meets ⟨_,ho,rfl⟩ ⟨_,ho2,rfl⟩ noFill_list_add seq_list_add PySem.F.slot_list_add PySem.F.entry_list_add (PySem.F.args_list_add_2 _ _) (list_addW a b its.toArray its2.toArray n n2 dd dd2 sl sl2 (by simp only[Z2];rw[<- l3,<- l4,<- l1,<- l2];exact hz)) ⟨ho,ho2,?_⟩
 rw[e];exact⟨.ref _,_,I.lnew (t':=s.toks) (r1.append r2) (by rw[Zi,<- l1,<- l2];exact hz),rfl,k _ _ _ _ (q _ (m.free I.fresh)) (Ext.new I.fresh) (m.newL I.fresh (d1.append d2)) (.ref _)⟩
theorem Q4X{K:Frag}{H:Hp}:∀ {ns:List Int} {vs:List V},Dens K H (ns.map D.int) vs->vs=ns.map V.int
 | [],_,h=>by cases h;rfl
 | n::r,_,h=>by
  cases h with
  | cons h1 h2=>cases h1;rw[Q4X h2];rfl
noncomputable def rMin1:List D->DH->DK->Prop:=fun ds M Q=>match ds with
 | [d]=>∃ ns:List Int,zak M d=some (ns.map .int)/\0<ns.length/\∀ z:Int,z∈ns->(∀ a∈ns,z<=a)->Q (.int z) M
 | _=>False
theorem QaY(hc:X.calm=true):zaV X (.builtin "min") rMin1:=by
 rintro pins s σ H xs us Q I rv ⟨ds,M,R,dn,m,q,k⟩
 match ds,dn,q with
 | [d],.cons den .nil,⟨ns,e,h0,q⟩ =>
  obtain⟨p,vs,rfl,sq,dd⟩:=Q2A m den e;obtain⟨u,rfl,rx⟩:=vals1 rv;cases rx;obtain⟨its,r',pl,hz⟩:=I.list sq;cases Q4X dd;have hi:=Q5R r';obtain⟨ys,ey⟩:=hi.allInts.items;have hns:ns=ys.toList.map (·.1):=by rw[<- hi.numsOf,<- nums_intItems,<- ey]
  have hsz:0<ys.size:=by
   have h3:=h0;rw[hns,Zd,ZE]at h3;exact h3
  have hl:=pl.isList;rw[ey]at hl;refine min_intList (I.ok.hd hc) hl hsz fun v h' tk hv hk=>?_;obtain⟨t,rfl⟩:=intItems_at hv;obtain⟨h1,h2⟩:=argBest_lt (numAt ys) (ys.size-1);refine⟨.int _,H,I.kept hk,⟨t,rfl⟩,k _ M _ H (q _ ?_ fun a ha=>?_) (Ext.refl H) m (.int _)⟩
  ·rw[hns,numAt_eq];exact getD_mem (by rw[Zd,ZE];omega)
  ·rw[hns]at ha;obtain⟨j,hj,rfl⟩:=mem_getD ha;rw[Zd,ZE]at hj;rw[<- numAt_eq];exact h2 j (by omega)
end
section
variable{X:Cx}
noncomputable def subR(a:Addr)(ds:List D):D->D
 | .ref b=>if b=a then .lst ds else .ref b
 | d=>d
noncomputable def subT(a:Addr)(ds:List D):D->D
 | .tup xs=>.tup (xs.map (subR a ds))
 | d=>d
theorem Den.subR{K:Frag}{H H':Hp}{a:Addr}{ds:List D}(x:Ext H H')(den:Den K H' (.lst ds) (.ref a)){d:D}{v:V}(h:Den K H d v):Den K H' (subR a ds d) v:=by
 by_cases hr:∃ b,d=.ref b
 ·obtain⟨b,rfl⟩:=hr;cases h;show Den K H' (if b=a then .lst ds else .ref b) (.ref b)
  by_cases e:b=a
  ·rw[Ze e,e];exact den
  ·rw[Zc e];exact .ref b
 ·have e2:DL.subR a ds d=d:=by cases d <;> first | rfl | exact absurd ⟨_,rfl⟩ hr
  rw[e2];exact h.ext x
theorem Dens.subR{K:Frag}{H H':Hp}{a:Addr}{ds:List D}(x:Ext H H')(den:Den K H' (.lst ds) (.ref a)):∀ {xs:List D} {vs:List V},Dens K H xs vs->Dens K H' (xs.map (DL.subR a ds)) vs
 | [],_,.nil=>.nil
 | _::_,_,.cons h r=>.cons (Den.subR x den h) (Dens.subR x den r)
theorem Den.subT{K:Frag}{H H':Hp}{a:Addr}{ds:List D}(x:Ext H H')(den:Den K H' (.lst ds) (.ref a)){d:D}{v:V}(h:Den K H d v):Den K H' (subT a ds d) v:=by
 cases h with
 | tup e r=>exact .tup (x.tup _ _ e) (Dens.subR x den r)
 | non=>exact .non
 | bl b=>exact .bl b
 | int i=>exact .int i
 | str y hy=>exact .str y hy
 | ref b=>exact .ref b
 | lst f r=>exact (Den.lst f r).ext x
end
end DL
namespace L2
open PySem PySem.Spec PyProof.Rows
end L2
namespace DL
open PySem PySem.Spec L2
open PyProof.Rows hiding St
section
variable{X:Cx}
end
section
variable{X:Cx}
end
end DL
namespace L2
open PySem PySem.Spec PyProof.Rows
section
variable{X:Cx}{pins:List (Addr×Obj)}{σ:St}{H:Hp}{s:Shared}{C f e d:Addr}{x:Str}{m k:Nat}{fd:FuncData}
end
section
variable{X:Cx}{pins:List (Addr×Obj)}{σ:St}{H:Hp}{s:Shared}{C f e d a:Addr}{x:Str}{m k:Nat}{fd:FuncData}
end
section
variable{prog:Program}{w:World}{A:Around}{E:Value->Shared->Prop}{s:Shared}{K:Frag}{x D:Addr}{ox od:Obj}{v:Value}
end
section
variable{X:Cx}{a C d:Addr}{oe od:Obj}{ps:List (Addr×Obj)}{n:Int}{x:Str}{i:Nat}{np pos:Pos}
end
end L2
namespace DL
open PySem PySem.Spec L2
open PyProof.Rows hiding St
section
variable{X:Cx}{e:Expr}{es:List Expr}{pos p np cpos:Pos}{cn:CN}
noncomputable def dXrow(i:Nat)(a:Addr)(n:Int):DTE:=fun ρ M Q=>ρ[i]? = some (some (.ref a))/\Q (.int n) M
end
end DL
namespace L2
open PySem PySem.Spec PyProof.Rows
section
variable{X:Cx}{C f:Addr}{x:Str}
end
end L2
namespace DL
open PySem PySem.Spec L2
open PyProof.Rows hiding St
section
variable{X:Cx}{e:Expr}{es:List Expr}{pos np cpos:Pos}
end
end DL
namespace L2
open PySem PySem.Spec PyProof.Rows
section
variable{P:Program}{w:World}{A:Around}{E:Value->Shared->Prop}{s:Shared}
end
section
variable{X:Cx}{pins:List (Addr×Obj)}{σ:St}{H:Hp}{s:Shared}{h':Heap}
theorem Inv.turnedL{t':Nat}{fp:List Addr}(I:Inv X pins σ H s)(k:∀ b o,b∉fp->s.heap.get? b=some o->h'.get? b=some o)(hf:∀ b∈fp,FpOk X pins H b):Inv X pins σ H { s with heap:=h',toks:=t' }:=by
 have nit:∀ b u,H b=some u->b∉fp:=fun b u e z=>by rw[(hf b z).1]at e;cases e
 have hL:X.env.locals∉fp:=fun z=>(hf _ z).2.1 rfl;refine I.step (g':=s.gens) (d':=s.drawn) (ch:=fp) (fun b hb=>?_) (fun b o _ _ hc e _=>k b o hc e) (fun b o _ _ hc e _=>⟨o.slots,k b o hc e⟩) (fun _ _ _ _ n=>n)
  (fun b o hc e=>⟨o,k b o hc e⟩) (fun _ _ e=>e) (fun _ _ _ e=>e) (fun b ps e=>⟨#[],by rw[e];simp⟩) (fun m hm=>?_) (fun b u e=>?_) I.bare
 ·obtain⟨f0,f1,f2,f3,f4,f5⟩:=hf b hb;exact⟨f3,f1,f4,f5⟩
 ·obtain⟨o,es,ep,ho,r⟩:=hm;exact⟨o,es,ep,k _ o hL ho,r⟩
 ·refine (I.hok b u e).stay (fun c v hc q=>k c v ?_ q) (fun _ q=>q) fun _ _ q=>q;rcases hc with z | z
  ·rw[z];exact nit b u e
  ·exact nit c _ z
end
end L2
namespace DL
open PySem PySem.Spec L2
open PyProof.Rows hiding St
section
variable{X:Cx}{K:Frag}{e:Expr}{te:DTE}
end
section
variable{α:Type}
noncomputable def valT(kvs:List (List Nat×D))(k:List Nat):Option D:=(kvs.find? fun kv=>decide (kv.1=k)).map (·.2)
noncomputable def putT(kvs:List (List Nat×D))(k:List Nat)(v:D):List (List Nat×D) :=
 if (kvs.any fun kv=>decide (kv.1=k))=true then kvs.map (fun kv=>if kv.1=k then (kv.1,v) else kv) else kvs++[(k,v)]
theorem Q8R:valT [] k=none:=rfl
theorem Q0u(e:p.1=k):valT (p::r) k=some p.2:=by simp[valT,Yu,e]
theorem Q0v(e:¬ p.1=k):valT (p::r) k=valT r k:=by simp[valT,Yu,e]
theorem Q1y(k:List Nat):∀ kvs:List (List Nat×D),(kvs.any fun kv=>decide (kv.1=k))=(valT kvs k).isSome
 | []=>rfl
 | p::r=>by
  rw[any_cons];by_cases e:p.1=k
  ·simp only[Q0u e,Zm e,Bool.true_or,Option.isSome_some]
  ·rw[Q0v e,Zr e,Bool.false_or];exact Q1y k r
theorem Q4Y(k j:List Nat)(y:D):∀ kvs:List (List Nat×D),valT (kvs.map fun kv=>if kv.1=k then (kv.1,y) else kv) j=(valT kvs j).map fun x=>if j=k then y else x
 | []=>rfl
 | p::r=>by
  have ih:=Q4Y k j y r;rw[Zy];by_cases h:p.1=k
  ·rw[Ze h];by_cases e:p.1=j
   ·rw[Q0u (p:=(p.1,y)) e,Q0u e,ZX,Ze (e.symm.trans h)]
   ·rw[Q0v (p:=(p.1,y)) e,Q0v e,ih]
  ·rw[Zc h];by_cases e:p.1=j
   ·rw[Q0u (p:=p) e,Q0u e,ZX,Zc (fun z=>h (e.trans z))]
   ·rw[Q0v (p:=p) e,Q0v e,ih]
theorem Q3N(k j:List Nat)(y:D):∀ kvs:List (List Nat×D),valT kvs k=none->valT (kvs++[(k,y)]) j=if j=k then some y else valT kvs j
 | [],_=>by
  by_cases e:k=j
  ·rw[Ze e.symm];exact Q0u (p:=(k,y)) e
  ·rw[Zc (fun z=>e z.symm)];exact Q0v (p:=(k,y)) e
 | p::r,hn=>by
  rw[cons_append];have hk:¬ p.1=k:=fun z=>by rw[Q0u z]at hn;cases hn
  rw[Q0v hk]at hn;have ih:=Q3N k j y r hn;by_cases e:p.1=j
  ·rw[Q0u e,Q0u e,Zc (fun z=>hk (e.trans z))]
  ·rw[Q0v e,Q0v e,ih]
theorem Q2T(kvs:List (List Nat×D))(k j:List Nat)(y:D):valT (putT kvs k y) j=if j=k then some y else valT kvs j:=by
 unfold putT;by_cases a:(kvs.any fun kv=>decide (kv.1=k))=true
 ·rw[Ze a,Q4Y];rw[Q1y]at a;by_cases e:j=k
  ·obtain⟨x,hx⟩:=Yp.mp a;rw[Ze e,e,hx,ZX,Ze rfl]
  ·rw[Zc e];cases valT kvs j with
   | none=>rfl
   | some x=>rw[ZX,Zc e]
 ·rw[Zc a];refine Q3N k j y kvs ?_;rw[Q1y]at a;cases q:valT kvs k with
  | none=>rfl
  | some x=>rw[q]at a;exact (a rfl).elim
theorem Q4s(kvs:List (List Nat×D))(k:List Nat)(v:D):(putT kvs k v).length<=kvs.length+1:=by
 unfold putT;split
 ·rw[Zd];omega
 ·rw[Zi,Zj,ZU];omega
end
theorem Q4t(e:tkk a=tkk b):a=b:=S_inj (Sum.inr.inj e)
section
variable{K:Frag}{H:Hp}
theorem KTs.val(r:KTs K H kvs vs)(k:List Nat) :
  (valT kvs k=none/\valV vs (tkk k)=none)\/∃ d v,valT kvs k=some d/\valV vs (tkk k)=some v/\Den K H d v:=by
 induction r with
 | nil=>exact .inl ⟨rfl,rfl⟩
 | @cons p q ps qs h t ih =>
  by_cases e:p.1=k
  ·exact .inr ⟨p.2,q.2,Q0u e,Q0R (by rw[h.1,e]),h.2⟩
  ·rw[Q0v e,Q0S (by rw[h.1];exact fun z=>e (Q4t z))];exact ih
theorem KTs.put(r:KTs K H kvs vs)(k:List Nat)(den:Den K H d v):KTs K H (putT kvs k d) (putK vs (tkk k) v):=by
 have an:(kvs.any fun kv=>decide (kv.1=k))=vs.any fun kv=>decide (kv.1=tkk k):=by
  rw[Q1y,Q1j];rcases r.val k with ⟨a,b⟩ | ⟨x,y,a,b,_⟩ <;> rw[a,b] <;> rfl
 unfold putT putK;rw[an];by_cases e:(vs.any fun kv=>decide (kv.1=tkk k))=true
 ·rw[Ze e,Ze e];clear an e
  induction r with
  | nil=>exact .nil
  | @cons p q ps qs h t ih =>
   rw[Zy,Zy];refine .cons ?_ ih;by_cases e:p.1=k
   ·rw[Ze e,Ze (by rw[h.1,e])];exact⟨h.1,den⟩
   ·rw[Zc e,Zc (by rw[h.1];exact fun z=>e (Q4t z))];exact h
 ·rw[Zc e,Zc e];exact Paired.snoc r ⟨rfl,den⟩
theorem KTs.length(r:KTs K H kvs vs):kvs.length=vs.length:=ZQ r
end
theorem SimM.dkt{K:Frag}{H:Hp}{M:DH}(h:SimM K M H){a:Addr}{kvs:List (List Nat×D)}(e:M a=some (.oth (.dkt kvs))):∃ vs,H a=some (.dK vs)/\KTs K H kvs vs:=h a _ e
section
variable{X:Cx}{e o value a b k:Expr}{es:List Expr}{pos pos' apos cpos p:Pos}{te tv tk td:DTE}{t:DTA}
noncomputable def zbV:DTE:=fun _ M Q=>∀ q,M q=none->Q (.ref q) (dupd M q (.oth (.dkt [])))
theorem QaZ:DE X (.Dict [] [] pos) zbV :=
 Q8s.imp fun σ H Q ⟨ρ,M,R,s,m,h,k⟩ q hq=>k _ _ _ _ (h q (m.free hq)) (Ext.new hq) (m.put (u:=.oth (.dkt [])) (Ext.new hq) ⟨[],Q0e,.nil⟩) (.ref q)
noncomputable def rInT(f:Bool->Bool):DR2:=fun x y M Q=>∃ (n:List Nat) (a:Addr) (kvs:List (List Nat×D)),x=.str n/\y=.ref a/\M a=some (.oth (.dkt kvs))/\Q (.bl (f (valT kvs n).isSome)) M
theorem Q6Y{K:Frag}{H:Hp}{kvs:List (List Nat×D)}{vs:List (Key×V)}(r:KTs K H kvs vs)(n:List Nat):(valV vs (tkk n)).isSome=(valT kvs n).isSome:=by
 rcases r.val n with ⟨q1,q2⟩ | ⟨d,v,q1,q2,_⟩ <;> rw[q1,q2] <;> rfl
theorem Qb0(hu:X.A.units+1<cLine):OpD X (compareOp .NotIn) (rInT not):=by
 rintro pins s σ H x y v u Q I rx ry ⟨dx,dy,M,R,ex,ey,m,⟨n,a,kvs,e1,e2,e3,q⟩,k⟩;subst e1 e2;cases ex;cases ey;obtain⟨vs,g1,g2⟩:=m.dkt e3;cases ry;refine Q6E hu I (DGet.k (k:=tkk n) g1) rx fun s' I'=>⟨.bl (!(valV vs (tkk n)).isSome),H,I',rfl,?_⟩;rw[Q6Y g2];exact k _ M _ H q (Ext.refl H) m (.bl _)
noncomputable def rTIx:DR2:=fun x y M Q=>∃ (n:List Nat) (a:Addr) (kvs:List (List Nat×D)) (d:D),y=.str n/\x=.ref a/\M a=some (.oth (.dkt kvs))/\valT kvs n=some d/\Q d M
theorem QcK(hu:X.A.units+1<cLine)(hd:DE X o td)(hk:DE X k tk)(hs:NoSl k):DE X (.Subscript o k pos) (dOp rTIx td tk) :=
 (Q6G hu hd hk hs).imp fun σ H Q ⟨ρ,M,R,s,m,h,k⟩=>⟨ρ,M,_,s,m,h,fun x M1 xv H1 h1 x1 m1 dx=>⟨ρ,M1,_,s.ext x1,m1,h1,fun y M2 yv H2 ⟨n,a,kvs,d,e1,e2,e3,e4,h2⟩ x2 m2 dy=>by
  subst e1 e2;cases dy;cases dx;obtain⟨vs,g1,g2⟩:=m2.dkt e3;rcases g2.val n with ⟨q1,q2⟩ | ⟨d',v,q1,q2,q3⟩
  ·rw[q1]at e4;cases e4
  ·rw[q1]at e4;cases e4;refine⟨a,v,rfl,?_,k _ M2 _ _ h2 (x1.trans x2) m2 q3⟩;rw[<- q2];exact DGet.k (k:=tkk n) g1⟩⟩
noncomputable def zbg(td tk tx:DTE):DTE:=fun ρ M Q=>td ρ M fun x M1=>∃ (a:Addr) (kvs0:List (List Nat×D)),x=.ref a/\M1 a=some (.oth (.dkt kvs0))/\tk ρ M1 fun y M2=>tx ρ M2 fun z M3=>∃ (n:List Nat) (kvs:List (List Nat×D)),y=.str n/\M3 a=some (.oth (.dkt kvs))/\Q ((valT kvs n).getD z) M3
theorem Q8S(hu:X.A.units+1<cLine)(hd:DE X o td)(hk:DE X k tk)(hf:DE X f tx)(m2:M2 X o "get" apos k f cpos):DE X (.Call (.Attribute o "get" apos) [k,f] [] cpos) (zbg td tk tx) :=
 (Q4P hu hd hk hf m2).imp fun σ H Q ⟨ρ,M,R,s,m,h,k⟩=>⟨ρ,M,_,s,m,h,fun x M1 xv H1 ⟨a,kvs0,e1,e2,h1⟩ x1 m1 dx=>by
  subst e1;cases dx;obtain⟨vs0,g1,_⟩:=m1.dkt e2;refine⟨a,rfl,.inl ⟨vs0,.inl g1⟩,ρ,M1,_,s.ext x1,m1,h1,fun y M2 yv H2 h2 x2 m2 dy=>⟨ρ,M2,_,(s.ext x1).ext x2,m2,h2,fun z M3 zv H3 ⟨n,kvs,e3,e4,h3⟩ x3 m3 dz=>?_⟩⟩;subst e3;cases dy;obtain⟨vs,g3,g4⟩:=m3.dkt e4;refine⟨_,DGet.k (k:=tkk n) g3,?_⟩;have xx:=(x1.trans x2).trans x3;rcases g4.val n with ⟨q1,q2⟩ | ⟨d',v,q1,q2,q3⟩
  ·rw[q2];rw[q1]at h3;exact k _ M3 _ _ h3 xx m3 dz
  ·rw[q2];rw[q1]at h3;exact k _ M3 _ _ h3 xx m3 q3⟩
noncomputable def dTPut(td tk tv:DTE):DTS:=fun DD ρ M=>tv ρ M fun v M1=>td ρ M1 fun x M2=>tk ρ M2 fun y M3=>∃ (a:Addr) (n:List Nat) (kvs:List (List Nat×D)),x=.ref a/\y=.str n/\M3 a=some (.oth (.dkt kvs))/\kvs.length<sizeLine/\DD.nx ρ (dupd M3 a (.oth (.dkt (putT kvs n v))))
theorem Qb1(hu:X.A.units+1<cLine)(hd:DE X o td)(hk:DE X k tk)(hv:DE X value tv)(hs:swapsWith value (some (.Subscript o k pos')) pos.line X.env=pure false):DS X (.Assign [.Subscript o k pos'] value pos) (dTPut td tk tv) :=
 (Q6H hu hd hk hv hs).imp fun D σ H ⟨ρ,M,DD,s,m,h,k⟩=>⟨ρ,M,_,s,m,h,fun v M1 vv H1 h1 x1 m1 dv=>⟨ρ,M1,_,s.ext x1,m1,h1,fun x M2 xv H2 h2 x2 m2 dx=>⟨ρ,M2,_,(s.ext x1).ext x2,m2,h2,fun y M3 yv H3 ⟨a,n,kvs,e1,e2,e3,e4,h3⟩ x3 m3 dy=>by
  subst e1 e2;cases dx;cases dy;obtain⟨vs,g1,g2⟩:=m3.dkt e3;have y:Ext H3 (upd H3 a (.dK (putK vs (tkk n) vv))):=Ext.mut g1 (fun _ z=>nomatch z) (fun _ _ z=>nomatch z)
  have xx:=(x1.trans x2).trans x3;exact⟨a,_,rfl,DPut.k (k:=tkk n) g1 (by rw[<- g2.length];exact e4),k.nx ρ _ σ _ h3 (xx.trans y) ((s.ext xx).ext y) (m3.put y ⟨_,Q0e,Paired.mapP (g2.put n ((dv.ext x2).ext x3)) fun p q z=>⟨z.1,Den.ext y z.2⟩⟩)⟩⟩⟩⟩
end
end DL
namespace L2
open PySem PySem.Spec PyProof.Rows
theorem Q3O:typeLookup (.type "list") "keys" = pure none:=by rw[typeLookup_type,builtinLookup_eq_fast];kernel_rfl
section
variable{prog:Program}{w:World}{A:Around}{E:Value->Shared->Prop}{s:Shared}{a:Addr}
theorem Qb2{Q:Option Value->Shared->Prop}(hx:s.heap.get? a=some ⟨.type "list",none,.seq xs n,sl⟩)(hA:A.handled=none)
  (hq:∀ h' tk,(∀ b u,s.heap.get? b=some u->h'.get? b=some u)->Q none { s with heap:=h',toks:=tk }):wpAny (model prog w) A (getAttr? (.ref a) "keys") Q E s:=by
 obtain⟨hp,g,d,tk,os⟩:=s;have hT:∀ tk',(⟨hp,g,d,tk',os⟩:Shared).TypeIs (.ref a) "list":=fun _=>⟨_,hx,rfl⟩;have f1:=sub_AttributeError;have f3:=F.slot_list_getattribute.lookup;have f4:=F.slot_list_getattribute.bind (.ref a);have f5:=am_list_getattr_none;unfold getAttr? getAttrBy? getAttrBy
 repeat (any_goals (first | assumption | exact hT _ | ((with_reducible show wpAny _ _ (call (Value.builtin "list.__getattribute__") _ _) _ _ _);refine call_meets F.slot_list_getattribute (hT _) am_entry_list_getattribute (F.args_list_getattribute_2 _ _) (meets_getattribute_miss_list a xs n sl "keys" _ Q3O (by decide) (by size_fits)) ⟨hx,hA,fun h' tk' e hx'=>?_⟩) | wp_step))
 obtain⟨t',u',he⟩:=hx'.there;show wpAny _ _ (getattributeRaised _ _ _ _ _ _ _) _ _ _;unfold getattributeRaised
 repeat (any_goals (first | assumption | wp_step))
 exact hq _ _ hx'.keeps
end
section
variable{X:Cx}{pins:List (Addr×Obj)}{σ:St}{H:Hp}{s:Shared}{A:Around}{E:Value->Shared->Prop}
theorem Q6Z{Q:Unit->Shared->Prop}(hu:A.units<cLine)(I:Inv X pins σ H s)(e:H d=some (.dT kvs))(eb:H b=some (.tup (k.map kV)))(l:kvs.length<sizeLine)(rv:RelV v r)
  (h:∀ s',Inv X pins σ (upd H d (.dT (putK kvs k v))) s'->(∀ c o,c≠d->s.heap.get? c=some o->s'.heap.get? c=some o)->Q () s'):wpAny (model X.prog X.w) A (dictSet d (.ref b) r) Q E s:=by
 obtain⟨z,hd,xs,rel,dd⟩:=dt_of I.hok e;have hz:xs.length<=sizeLine:=by rw[<- ZQ rel];exact z
 have hl:(putK kvs k v).length<=sizeLine:=by have:=Q0w kvs k v;omega
 refine wpAny_dictSet_heap (hsz:=hz) (knd:=tupleKind (za2 X.prog X.w)) hu (Q1b I.hok eb) dd fun h' dd' hs=>h _ ?_ fun c o nc q=>(hs.2 c nc).trans q;obtain⟨q,es,ep,hq,h2,h3,h4,_,h5⟩:=dd';refine Q1o I (by rw[e];exact Yj) hs ⟨q,hq⟩ ⟨hl,hd,_,(rel.put k eb rv).keeps fun c ys ec=>?_,q,es,ep,hq,h2,h3,h4,h5⟩
 rw[Q0d (ne_of ec e (fun z=>nomatch z))]
 exact ec
end
theorem Q1z:entryFor table "dict.update.loop" = some Builtin.«dict.update.loop»:=entryFor_of_tree (by kernel_rfl)
theorem Q0C:plainId "dict.update.loop" = true:=by decide +kernel
theorem Q7a{K:Frag}{H:Hp}{l d:Addr}{xs:List V}{o:HO}(h:SqL K H l xs)(hd:H d=none):SqL K (upd H d o) l xs:=by
 rcases h with (h | ⟨ob,h⟩) | h
 ·exact .inl (.inl (by rw[Q0d (Q0j h hd)];exact h))
 ·exact .inl (.inr ⟨ob,by rw[Q0d (Q0j h hd)];exact h⟩)
 ·exact .inr h
theorem paired_at{α β:Type}{F:α->β->Prop}:∀ {xs:List α} {ys:List β} {i:Nat} {x:α} {y:β},Paired F xs ys->xs[i]? = some x->ys[i]? = some y->F x y
 | _,_,0,_,_,.cons r t,h1,h2=>by cases h1;cases h2;exact r
 | _,_,i+1,_,_,.cons r t,h1,h2=>paired_at t h1 h2
 | _,_,_,_,_,.nil,h1,_=>by cases h1
noncomputable abbrev zbb{κ:Type}(kr:Hp->κ->V->Prop)(H:Hp):List V->List (κ×V)->Prop:=Paired fun x p=>∃ t y,x=.ref t/\H t=some (.tup [y,p.2])/\kr H p.1 y
noncomputable def zaK{κ:Type}[DecidableEq κ](kvs:List (κ×V))(ps:List (κ×V)):List (κ×V):=ps.foldl (fun a p=>putK a p.1 p.2) kvs
noncomputable abbrev zc5{κ:Type}[DecidableEq κ](X:Cx)(pins:List (Addr×Obj))(σ:St)(H:Hp)(mk:List (κ×V)->HO)(kr:Hp->κ->V->Prop)(d:Addr):Prop:=∀ (A:Around) (E:Value->Shared->Prop) (s:Shared) (kvs:List (κ×V)) (k:κ) (y v:V) (u r:Value) (Q:Unit->Shared->Prop),Inv X pins σ (upd H d (mk kvs)) s->kr H k y->RelV y u->RelV v r->kvs.length<sizeLine->A.units<cLine ->
 (∀ s',Inv X pins σ (upd H d (mk (putK kvs k v))) s'->(∀ c o,c≠d->s.heap.get? c=some o->s'.heap.get? c=some o)->Q () s')->wpAny (model X.prog X.w) A (dictSet d u r) Q E s
noncomputable def krT(H:Hp)(k:List Key)(y:V):Prop:=∃ b,y=.ref b/\H b=some (.tup (k.map kV))
theorem setT(hd:H d=none):zc5 X pins σ H HO.dT krT d:=fun A E s kvs k y v u r Q I e ry rv hl hu h=>by
 obtain⟨b,rfl,eb⟩:=e;obtain rfl:u=Value.ref b:=ry;refine Q6Z hu I Q0e (by rw[Q0d (Q0j eb hd)];exact eb) hl rv fun s' I' k'=>h s' ?_ k'
 rw[Q2K]at I';exact I'
section
variable{X:Cx}{pins:List (Addr×Obj)}{σ:St}{H:Hp}{A:Around}{R:Result->Shared->Prop}{d it l:Addr}{xs:List V}{κ:Type}[DecidableEq κ]{mk:List (κ×V)->HO}{kr:Hp->κ->V->Prop}{ps:List (κ×V)}
theorem Q7b(hh:A.in1.handled=none)(hu:A.in1.units<cLine)(hd:H d=none)(hit:FpOk X pins H it)(ne:it≠d)(hl:SqL X.K H l xs)(hp:zbb kr H xs ps)(hS:zc5 X pins σ H mk kr d) :
  ∀ (n i:Nat) (s:Shared) (kvs:List (κ×V)),ps.length-i=n->i<=ps.length->kvs.length+n<=sizeLine->Inv X pins σ (upd H d (mk kvs)) s->s.heap.IsListIter it l i ->
   (∀ s',Inv X pins σ (upd H d (mk (zaK kvs (ps.drop i)))) s'->R (.ok (.ret .none)) s')->codeAny (model X.prog X.w) A (.builtin "dict.update.loop" ⟨[.ref d,.ref it,rawInt (i:Int),.none],[]⟩) R s:=by
 intro n
 induction n with
 | zero =>
  intro i s kvs hn hi hk I st hR;have hi2:i=ps.length:=by omega
  have hl2:SqL X.K (upd H d (mk kvs)) l xs:=Q7a hl hd;obtain⟨its,rv,p,hz⟩:=I.list hl2;have hlen:=rv.length;have hpl:=ZQ hp;refine codeAny_builtin Q1z ?_;rw[Around.under_plainId Q0C _];show wpAny _ A.in1 (pyNext (.ref it) >>= _) _ _ s;refine Za (wpAny_pyNext_list_end hh st p.isList (by simp;omega) fun h' eb=>?_)
  show wpAny _ A.in1 (Builtin.Dict.addKeywords d [] >>= _) _ _ _;refine Za (Zb (Zb ?_));have e0:zaK kvs (ps.drop i)=kvs:=by rw[hi2,List.drop_length];rfl
  rw[e0]at hR;exact hR _ (I.turnedL (t':=s.toks) (fp:=[it]) (fun b o nb q=>eb b o (fun z=>nb (by simp[z])) q) fun b hb=>by
   rw[Zz.mp hb];exact⟨by rw[Q0d ne];exact hit.1,hit.2⟩)
 | succ n ih =>
  intro i s kvs hn hi hk I st hR;have hlt:i<ps.length:=by omega
  have hl2:SqL X.K (upd H d (mk kvs)) l xs:=Q7a hl hd;obtain⟨its,rv,p,hz⟩:=I.list hl2;have hpl:=ZQ hp;have hx:xs[i]? = some xs[i]:=Zt (by omega)
  obtain⟨t,y,e1,e2,e3⟩:=paired_at hp hx (Zt hlt);obtain⟨u,hu2,ru⟩:=rv.get hx;rw[e1]at ru;obtain rfl:u=Value.ref t:=ru;have fp:∀ c∈[it],FpOk X pins (upd H d (mk kvs)) c:=fun c hc=>by
   rw[Zz.mp hc];exact⟨by rw[Q0d ne];exact hit.1,hit.2⟩
  refine codeAny_builtin Q1z ?_;rw[Around.under_plainId Q0C _];show wpAny _ A.in1 (pyNext (.ref it) >>= _) _ _ s;refine Za (wpAny_pyNext_list_item st p.isList (x:=.ref t) (by simpa using hu2) fun h' st' sb=>?_)
  have I1:Inv X pins σ (upd H d (mk kvs)) { s with heap:=h' }:=I.turnedL (t':=s.toks) (fp:=[it]) (fun c o nc q=>(sb.2 c (fun z=>nc (by simp[z]))).trans q) fp
  have et:upd H d (mk kvs) t=some (.tup [y,(ps[i]).2]):=by rw[Q0d (Q0j e2 hd)];exact e2
  obtain⟨it2,rv2,⟨ob,ho,hc,m2,hd2⟩,hz2⟩:=I1.tuple (.of et);cases rv2 with
  | cons r1 rv2 =>
  cases rv2 with
  | cons r2 rv2 =>
  cases rv2;rename_i u1 u2;refine Za (ZW (Za (wpAny_tryCatch ?_)));unfold Builtin.Dict.pairItems;refine Za (wpAny_typeOf (show Shared.TypeIs { s with heap:=h' } (.ref t) "tuple" from⟨ob,ho,hc⟩) ?_);rw[Ze (by decide)]
  refine Za (wpAny_seqItems ho hd2 (Zb ?_));show wpAny _ _ (holding [u1,u2] (dictSet d u1 u2)) _ _ _;refine ZW (hS _ _ _ _ _ _ _ _ _ _ I1 e3 r1 r2 (by omega) hu fun s2 I2 k2=>?_)
  have e9:zaK kvs (ps.drop i)=zaK (putK kvs (ps[i]).1 (ps[i]).2) (ps.drop (i+1)):=by rw[Yy hlt];rfl
  rw[e9]at hR;have hlp:=Q0w kvs (ps[i]).1 (ps[i]).2;exact Zb ⟨plainId_quiet Q0C _,ih (i+1) s2 _ (by omega) hlt (by omega) I2 (st'.at fun o q=>k2 it o ne q) hR⟩
end
section
variable{X:Cx}{pins:List (Addr×Obj)}{σ:St}{H:Hp}{s:Shared}{l:Addr}{xs:List V}{κ:Type}[DecidableEq κ]{mk:List (κ×V)->HO}{kr:Hp->κ->V->Prop}{ps:List (κ×V)}{Q:Value->Shared->Prop}
theorem Q5W(hc:X.calm=true)(hu:X.A.units+64<cLine)(I:Inv X pins σ H s)(hl:SqL X.K H l xs)(hp:zbb kr H xs ps)(hn:ps.length<=sizeLine)(hS:∀ d,H d=none->zc5 X pins σ H mk kr d)(h0:∀ h:Heap,sysModules<h.objs.size->ObjOk X.prog X.w (upd H h.objs.size (mk [])) (h.push { cls:=.type "dict",data:=.dict #[] }) h.objs.size (mk []))
  (h:∀ d s',H d=none->Inv X pins σ (upd H d (mk (zaK [] ps))) s'->Q (.ref d) s'):wpAny (model X.prog X.w) X.A (call (.type "dict") [.ref l]) Q X.xe s:=by
 refine callType_codes (Q₁:=fun obj s₁=>obj=.ref s.heap.objs.size/\s₁={ s with heap:=s.heap.push { cls:=.type "dict",data:=.dict #[] } }) F.kt_called_dict (F.kt_typeCall_dict_1 _) F.entry_dict_init (kt_code_dict_new _ ⟨rfl,rfl⟩) ?_;rintro obj s₁ ⟨rfl,rfl⟩;have hnew:(s.heap.push { cls:=.type "dict",data:=.dict #[] }).DictOf (za2 X.prog X.w) s.heap.objs.size []:=Heap.DictOf.new s.heap;have hd:H s.heap.objs.size=none:=I.hok.fresh (Zo _);have I1:=I.laid (a:=s.heap.objs.size) (o:=mk []) (h':=s.heap.push { cls:=.type "dict",data:=.dict #[] }) (t':=s.toks) (fun _ _ q=>Zf _ q) (Zo _) (h0 s.heap I.big);have hl1:SqL X.K (upd H s.heap.objs.size (mk [])) l xs:=Q7a hl hd;obtain⟨its,rv,p,hz⟩:=I1.list hl1;obtain⟨⟨cls,dd,data,sl⟩,n,ho,hcl,hdn,hdt⟩:=p;refine⟨hnew.typeIs,F.args_dict_init_2 _ _,?_⟩;unfold Builtin.«dict.__init__»;refine Za ?_;unfold Builtin.Dict.selfAndRest;refine Za (wpAny_notOrdered_dict hnew.typeIs ?_);show wpAny _ _ (pure (s.heap.objs.size,[Value.ref l])) _ _ _;refine Zb ?_;show wpAny _ _ (Builtin.Dict.updateFrom "dict.__init__" s.heap.objs.size (.ref l) [] .none) _ _ _;unfold Builtin.Dict.updateFrom;refine Za (wpAny_typeOf (show Shared.TypeIs _ (.ref l) "list" from⟨_,ho,hcl⟩) ?_);rw[Ze (by decide)]
 refine Za (Qb2 (s:={ s with heap:=s.heap.push { cls:=.type "dict",data:=.dict #[] } }) (xs:=its.toArray) (n:=n) (sl:=sl) ?_ ?_ fun h2 tk2 k2=>?_)
 ·have e:(⟨cls,dd,data,sl⟩:Obj)=⟨.type "list",none,.seq its.toArray n,sl⟩:=by
   have hcl:cls=.type "list":=hcl;have hdn:dd=none:=hdn;have hdt:data=.seq its.toArray n:=hdt;rw[hcl,hdn,hdt]
  rw[<- e];exact ho
 ·exact I.ok.hd hc
 have I2:Inv X pins σ (upd H s.heap.objs.size (mk [])) { s with heap:=h2,toks:=tk2 }:=I1.kept k2;simp only[Option.isNone_none,Yw];refine Za (wpAny_rule (Za ?_));obtain⟨its2,rv2,p2,hz2⟩:=I2.list hl1;refine wpAny_pyIter_list p2.isList ?_;refine Zb ⟨plainId_quiet Q0C _,?_⟩;have hdl:s.heap.objs.size<h2.objs.size:=Zp (k2 _ _ (Zu s.heap rfl));have ne:h2.objs.size≠s.heap.objs.size:=ne_of_gt hdl;have hf:upd H s.heap.objs.size (mk []) h2.objs.size=none:=I2.hok.fresh (Zo _);rw[Q0d ne]at hf;have I3:Inv X pins σ (upd H s.heap.objs.size (mk [])) { s with heap:=h2.push { cls:=.type "list_iterator",data:=.fields #[.ref l,.int 0 0] },toks:=tk2 }:=I2.kept (t':=tk2) fun b o q=>Zf _ q;exact Q7b (A:=X.A.in1) (it:=h2.objs.size) (I.ok.hd hc) (ZC (by first | exact units_in2 | (simp only[Around.in1];omega)) hu) hd (I2.fpOk (H':=H) (Zo _) hf) ne hl hp (hS _ hd) ps.length 0 _ [] (by omega) (ZB _) (by simpa using hn) I3 ⟨_,Zu _ rfl,rfl,rfl⟩ fun s' I'=>⟨rfl,h _ s' hd I'⟩
end
theorem Q5X{Q:Value->Shared->Prop}(hc:X.calm=true)(hu:X.A.units+64<cLine)(I:Inv X pins σ H s)(hl:SqL X.K H l xs)(hp:zbb krT H xs ps)(hn:ps.length<=sizeLine)
  (h:∀ d s',H d=none->Inv X pins σ (upd H d (.dT (zaK [] ps))) s'->Q (.ref d) s'):wpAny (model X.prog X.w) X.A (call (.type "dict") [.ref l]) Q X.xe s :=
 Q5W hc hu I hl hp hn (fun _ hd=>setT hd) (fun h hb=>Q2P h hb) h
end L2
namespace DL
open PySem PySem.Spec L2
open PyProof.Rows hiding St
section
variable{X:Cx}{K:Frag}{H:Hp}
noncomputable def pairD(p:List (List Nat)×D):D:=.tup [.tup (p.1.map .str),p.2]
noncomputable def zaA(kvs ps:List (List (List Nat)×D)):List (List (List Nat)×D):=ps.foldl (fun a p=>putD a p.1 p.2) kvs
theorem Q4Z:∀ {ps:List (List (List Nat)×D)} {vs:List V},Dens K H (ps.map pairD) vs->∃ qs,zbb krT H vs qs/\KDs K H ps qs
 | [],_,.nil=>⟨[],.nil,.nil⟩
 | p::r,_,.cons h t=>by
  obtain⟨qs,a,b⟩:=Q4Z t;cases h with
  | tup e d =>
   cases d with
   | cons d1 d2 =>
    cases d2 with
    | cons d3 d4 =>
     cases d4;obtain⟨c,rfl,ec⟩:=Q0G d1;exact⟨(nk p.1,_)::qs,.cons ⟨_,_,rfl,e,c,rfl,ec⟩ a,.cons ⟨rfl,d3⟩ b⟩
theorem Q3P:∀ {ps:List (List (List Nat)×D)} {qs:List (List Key×V)} {kvs:List (List (List Nat)×D)} {vs:List (List Key×V)},KDs K H ps qs->KDs K H kvs vs->KDs K H (zaA kvs ps) (zaK vs qs)
 | [],_,_,_,.nil,h=>h
 | p::r,q::qs,kvs,vs,.cons h t,g=>by
  have g2:=KDs.put g p.1 h.2;rw[<- h.1]at g2;exact Q3P (kvs:=putD kvs p.1 p.2) (vs:=putK vs q.1 q.2) t g2
noncomputable def zbP:List D->DH->DK->Prop:=fun ds M Q=>match ds with
 | [d]=>∃ ps:List (List (List Nat)×D),zak M d=some (ps.map pairD)/\ps.length<=sizeLine/\∀ q,M q=none->Q (.ref q) (dupd M q (.oth (.dct (zaA [] ps))))
 | _=>False
theorem Qb3(hc:X.calm=true)(hu:X.A.units+64<cLine):zaV X (.type "dict") zbP:=by
 rintro pins s σ H xs us Q I rv ⟨ds,M,R,dn,m,q,k⟩
 match ds,dn,q with
 | [d],.cons den .nil,⟨ps,e,hz,q⟩ =>
  obtain⟨p,vs,rfl,sq,dd⟩:=Q2A m den e;obtain⟨u,rfl,rx⟩:=vals1 rv;cases rx;obtain⟨qs,h1,h2⟩:=Q4Z dd;refine Q5X hc hu I sq h1 (by rw[<- ZQ h2];exact hz) fun d s' hd I'=>?_
  have xx:Ext H (upd H d (.dT (zaK [] qs))):=Ext.new hd;exact⟨.ref d,_,I',rfl,k _ _ _ _ (q d (m.free hd)) xx (m.put (u:=.oth (.dct _)) xx ⟨_,Q0e,Paired.mapP (Q3P h2 .nil) fun a b z=>⟨z.1,Den.ext xx z.2⟩⟩) (.ref d)⟩
end
section
variable{X:Cx}
end
section
variable{X:Cx}{e:Expr}{te:DTE}
noncomputable def rEqR:DR2:=fun x y M Q=>∃ (a:Addr) (ds:List D),M a=some (.lst ds)/\plain 12 (subT a ds x)=true/\plain 12 y=true/\Q (.bl (eqB (subT a ds x) y)) M
theorem QcL(hu:X.A.units+64<cLine):OpD X (compareOp .Eq) rEqR:=by
 rintro pins s σ H x y v u Q I rx ry ⟨dx,dy,M,R,ex,ey,m,⟨a,ds,ha,h1,h2,q⟩,k⟩;have sh:∀ d:PyData,d.canLay0=true->d.depth<=12->SeqAt.shaped d=true:=fun d h1 h2=>by
  unfold SeqAt.shaped;rw[h1,Bool.true_and];exact Zm (by omega)
 obtain⟨vs,e1,e2⟩:=m.get ha;obtain⟨o,I2⟩:=I.frozen e1;have x:=Ext.lst (o:=.frz o (.lst vs)) e1;have den:Den X.K (upd H a (.frz o (.lst vs))) (.lst ds) (.ref a):=.lst (.inl ⟨o,Q0e⟩) (e2.ext x);have ex':=Den.subT x den ex;have ey':=ey.ext x;obtain⟨as,ra⟩:=Q0x I2 _ _ _ _ h1 ex' rx;obtain⟨bs,rb⟩:=Q0x I2 _ _ _ _ h2 ey' ry;obtain⟨c1,d1⟩:=Q1d _ _ _ h1 ex';obtain⟨c2,d2⟩:=Q1d _ _ _ h2 ey';refine SeqAt.compareEq_shaped ra rb (sh _ c1 d1) (sh _ c2 d2) hu ?_;rw[bEq _ _ _ _ h1 h2];exact⟨.bl _,H,I,rfl,k _ M _ H q (Ext.refl H) m (.bl _)⟩
end
end DL
namespace L2
open PySem PySem.Spec PyProof.Rows
section
variable{prog:Program}{w:World}{K:Type}[DecidableEq K]{knd:HeapKind prog w K}{A:Around}{E:Value->Shared->Prop}{s:Shared}
theorem Q8T{stored:List Value}{Q:Bool->Shared->Prop}(hst:∀ v∈stored,∃ k' b,v=.ref b/\knd.is s.heap k' b)(h:Q false s):wpAny (model prog w) A (tableMayTell .none stored) Q E s:=by
 unfold tableMayTell;split
 ·exact Zb h
 ·have eq0:eqIsQuiet 8 Value.none=pure true:=by first | rfl | simp[eqIsQuiet]
  rw[eq0];refine Za (Zb ?_);simp only[Bool.not_true,ZK,Yd];refine Za ?_;refine wpAny_forIn_list _ (fun rest r s'=>s'=s/\r=(none,())/\∀ v∈rest,∃ k' b,v=.ref b/\knd.is s.heap k' b) _ ?_ ?_ _ _ ⟨rfl,rfl,hst⟩
  ·rintro x rest r s' ⟨rfl,rfl,hr⟩;obtain⟨k',b,rfl,hb⟩:=hr x Zl;refine Za (knd.quiet hb ?_);simp only[Bool.not_true,ZK,Yd];exact Zb ⟨rfl,rfl,fun v hv=>hr v (Zq _ hv)⟩
  ·rintro r s' ⟨rfl,rfl,_⟩;exact Zb h
theorem Q5a{d:Addr}{o:Obj}{es:Array DictEntry}{ep:Nat}{xs:List (K×Addr×Value)}{hk:Int}{Q:Option Nat->Shared->Prop}(ho:s.heap.get? d=some o)(hd:o.data=.dict es ep)(he:es.toList=xs.map (entryOfKey knd))
  (his:∀ x∈xs,knd.is s.heap x.1 x.2.1) (heq:∀ x∈xs,SeqAt.EqAt A s (.ref x.2.1) .none false) (h:Q none s):wpAny (model prog w) A (dictFind d .none hk) Q E s:=by
 have hmem:∀ (i:Nat) (e:DictEntry),es[i]? = some e->∃ x∈xs,e=entryOfKey knd x:=fun i e hi=>by
  have:e∈xs.map (entryOfKey knd):=he ▸ Array.mem_toList_iff.mpr (Array.mem_of_getElem? hi);obtain⟨x,hx,rfl⟩:=ZI.mp this;exact⟨x,hx,rfl⟩
 have hst:∀ v∈(placesWithHash es.size (fun i=>es[i]?.map (·.hash)) hk).filterMap (fun i=>es[i]?.map (·.key)),∃ k' b,v=.ref b/\knd.is s.heap k' b:=fun v hv=>by
  obtain⟨i,_,hi⟩:=mem_filterMap.mp hv;cases hei:es[i]? with
  | none=>rw[hei]at hi;cases hi
  | some e =>
   rw[hei]at hi;obtain rfl:e.key=v:=by simpa using hi
   obtain⟨x,hx,rfl⟩:=hmem i e hei;exact⟨x.1,x.2.1,rfl,his x hx⟩
 unfold dictFind
 try with_reducible refine ZW ?_
 refine Za (Yx ho hd ?_);dsimp only;by_cases hall:((Value.none::(placesWithHash es.size (fun i=>es[i]?.map (·.hash)) hk).filterMap (fun i=>es[i]?.map (·.key))).all carriedByValue)=true
 ·rw[Ze hall];have hnil:placesWithHash es.size (fun i=>es[i]?.map (·.hash)) hk=[]:=by
   cases hp:placesWithHash es.size (fun i=>es[i]?.map (·.hash)) hk with
   | nil=>rfl
   | cons i r =>
    exfalso
    have hi:i∈placesWithHash es.size (fun i=>es[i]?.map (·.hash)) hk:=by rw[hp];exact Zl
    unfold placesWithHash at hi;have hlt:=ZZ.mp (ZN.mp hi).1;have hei:es[i]? = some es[i]:=Array.getElem?_eq_getElem hlt;have hin:(es[i]).key∈(placesWithHash es.size (fun i=>es[i]?.map (·.hash)) hk).filterMap (fun i=>es[i]?.map (·.key)):=mem_filterMap.mpr ⟨i,by rw[hp];exact Zl,by rw[hei];rfl⟩
    have hc:=ZM.mp hall _ (Zq _ hin);obtain⟨k',b,e,_⟩:=hst _ hin;rw[e]at hc;cases hc
  rw[hnil];unfold dictWalkPlain;simp only[List.forIn_nil];exact Za (Zb (Zb h))
 ·rw[Zc hall];have hone:¬ (((placesWithHash es.size (fun i=>es[i]?.map (·.hash)) hk).filterMap (fun i=>es[i]?.map (·.key)))==[Value.none])=true:=fun z=>by
   have z:=Z0.mp z;obtain⟨k',b,e,_⟩:=hst Value.none (by rw[z];exact Zz.mpr rfl)
   cases e
  rw[Zc hone];refine Za (Q8T hst ?_);rw[Zc (by simp)]
  refine Za ?_;refine wpAny_forIn_list _ (fun rest b s'=>s'=s/\b=(none,none)) _ ?_ ?_ _ _ ⟨rfl,rfl⟩
  ·rintro i rest b s' ⟨rfl,rfl⟩;cases hei:es[i]? with
   | none=>exact Zb ⟨rfl,rfl⟩
   | some e =>
    obtain⟨x,hx,rfl⟩:=hmem i e hei;dsimp only;by_cases hh:((entryOfKey knd x).hash==hk)=true
    ·rw[Ze hh];refine Za (wpAny_dictEpoch ho hd (Za (heq x hx _ _ _ _ (Za (wpAny_dictEpoch ho hd ?_)))));rw[Zc (by simp)]
     simp only[ZK,Yd];refine Za (wpAny_rule ?_)
     first | exact Zb ⟨rfl,rfl⟩ | (rw[Zc (by simp)];exact Zb ⟨rfl,rfl⟩) | (simp only[Bool.false_and,ZK,Yd];first | exact Zb ⟨rfl,rfl⟩ | exact Za (Zb (Zb ⟨rfl,rfl⟩)))
    ·rw[Zc hh];exact Zb ⟨rfl,rfl⟩
  ·rintro b s' ⟨rfl,rfl⟩;exact Zb h
theorem QcM{d:Addr}{xs:List (K×Addr×Value)}{Q:Value->Shared->Prop}(hd:(d==sysModules)=false)(hm:s.heap.DictOfH knd d xs)(heq:∀ tk,∀ x∈xs,SeqAt.EqAt A.in1 { s with toks:=tk } (.ref x.2.1) .none false)
  (h:∀ tk,Q (.bool false) { s with toks:=tk }):wpAny (model prog w) A (compareOp .In .none (.ref d)) Q E s:=by
 show wpAny _ _ (do return .bool (<- contains (.ref d) .none)) Q E s
 refine Za ?_;unfold contains
 try with_reducible refine ZW ?_
 refine Za (wpAny_specialOf hm.typeIs slot_dict_contains.lookup ?_);show wpAny _ _ (if (some (Value.builtin "dict.__contains__")==some Value.none)=true then _ else _) _ E s
 rw[Zc (by rw[beq_builtin_none];exact Zs)]
 refine Za (wpAny_callSpecialUnlessNone?_slot (name:=Str.ofString "__contains__") hm.typeIs slot_dict_contains (ZP slot_dict_contains hm.typeIs entry_dict_contains ?_ (args_dict_contains _ _)));show wpAny _ _ (dictGet d .none >>= _) _ _ s;refine Za ?_;obtain⟨o,es,ep,ho,_,hdd,he,his,hn⟩:=hm;unfold dictGet
 try with_reducible refine ZW ?_
 refine Za ?_;refine (show wpAny _ _ (pyHash Value.none) _ _ s from pyHash_slot (T:="NoneType") rfl F.slot_NoneType_hash F.entry_NoneType_hash (F.args_NoneType_hash_1 _) (beq_builtin_none _) (.inl rfl) (Za (Zb (Za (wpAny_mkInt (Zb ⟨_,_,rfl,?_⟩))))));refine Za (Q5a (s:={ s with toks:=s.toks+1 }) ho hdd he his (heq _) (Zb ?_));show wpAny _ _ (Builtin.Dict.pendingKey? d .none >>= _) _ _ _;exact Za (wpAny_pendingKey_other hd (Zb ⟨_,rfl,Yi (Zb (h _))⟩))
theorem Q2U{d:Addr}(hd:(d==sysModules)=false):MeetsIn prog w (Builtin.«dict.get» ⟨[.ref d,.none],[]⟩) (fun A R s=>∃ xs:List (K×Addr×Value),s.heap.DictOfH knd d xs/\(∀ A':Around,A'.units<=A.units+2->∀ tk,∀ x∈xs,SeqAt.EqAt A' { s with toks:=tk } (.ref x.2.1) .none false)/\∀ tk,R (.ok (.ret .none)) { s with toks:=tk }) :=
 .of_wp fun A R s ⟨xs,hm,heq,h⟩=>by
  show wpAny _ _ (dictGet d .none >>= _) _ _ s;refine Za ?_;obtain⟨o,es,ep,ho,_,hdd,he,his,hn⟩:=hm;unfold dictGet
  try with_reducible refine ZW ?_
  refine Za ?_;refine (show wpAny _ _ (pyHash Value.none) _ _ s from pyHash_slot (T:="NoneType") rfl F.slot_NoneType_hash F.entry_NoneType_hash (F.args_NoneType_hash_1 _) (beq_builtin_none _) (.inl rfl) (Za (Zb (Za (wpAny_mkInt (Zb ⟨_,_,rfl,?_⟩))))));refine Za (Q5a (s:={ s with toks:=s.toks+1 }) ho hdd he his (heq _ (by simp[Around.in1]) _) (Zb ?_))
  show wpAny _ _ (Builtin.Dict.missed d .none >>= _) _ _ _;exact Za (wpAny_missed_other hd (Zb ⟨.none,rfl,h _⟩))
end
end L2
namespace DL
open PySem PySem.Spec L2
open PyProof.Rows hiding St
section
variable{X:Cx}
theorem Q9R(r:KT H vs xs)(hx:x∈xs):∃ p∈vs,H x.2.1=some (.tup (p.1.map kV)):=by
 induction r with
 | nil=>cases hx
 | cons h t ih =>
  rcases Z3.mp hx with rfl | hx
  ·exact⟨_,Zl,h.2.1⟩
  ·obtain⟨p,h1,h2⟩:=ih hx;exact⟨p,Zq _ h1,h2⟩
noncomputable def rInO:DR2:=fun x y M Q=>(∃ (n:List (List Nat)) (a:Addr) (kvs:List (List (List Nat)×D)),x=.tup (n.map .str)/\y=.ref a/\M a=some (.oth (.dct kvs))/\Q (.bl (valD kvs n).isSome) M)\/(∃ (a:Addr) (kvs:List (List (List Nat)×D)),x=.non/\y=.ref a/\M a=some (.oth (.dct kvs))/\Q (.bl false) M)
theorem QcN(hu:X.A.units+66<cLine):OpD X (compareOp .In) rInO:=by
 rintro pins s σ H x y v u Q I rx ry ⟨dx,dy,M,R,ex,ey,m,h,k⟩;rcases h with ⟨n,a,kvs,e1,e2,e3,q⟩ | ⟨a,kvs,e1,e2,e3,q⟩
 ·exact Q9Q (by omega) pins s σ H x y v u Q I rx ry ⟨dx,dy,M,R,ex,ey,m,⟨n,a,kvs,e1,e2,e3,q⟩,k⟩
 ·subst e1 e2;cases ex;cases ey;cases rx;cases ry;obtain⟨vs,g1,g2⟩:=m.dct e3;obtain⟨z,hd,xs,rel,dd⟩:=dt_of I.hok g1;refine QcM (knd:=tupleKind (za2 X.prog X.w)) hd dd (fun tk x hx=>?_) fun tk=>⟨.bl false,H,I.tok tk,rfl,k _ M _ H q (Ext.refl H) m (.bl _)⟩;obtain⟨p,hp,hk⟩:=Q9R rel hx;have I2:=I.tok tk;obtain⟨its,rv,hit,z9⟩:=I2.tuple (.of hk);exact SeqAt.EqAt.tuple_none hit (by
   have:X.A.in1.units<=X.A.units+1:=by simp[Around.in1]
   omega)
noncomputable def zbm(td tk:DTE):DTE:=fun ρ M Q=>td ρ M fun x M1=>∃ (a:Addr) (kvs0:List (List (List Nat)×D)),x=.ref a/\M1 a=some (.oth (.dct kvs0))/\tk ρ M1 fun y M2=>∃ kvs:List (List (List Nat)×D),M2 a=some (.oth (.dct kvs))/\((∃ n:List (List Nat),y=.tup (n.map .str)/\Q ((valD kvs n).getD .non) M2)\/(y=.non/\Q .non M2))
theorem Q8U(hu:X.A.units+100<cLine)(hd:DE X o td)(hk:DE X k tk)(m1:M1 X o "get" apos k cpos):DE X (.Call (.Attribute o "get" apos) [k] [] cpos) (zbm td tk):=by
 rintro pins s σ H Q I ⟨ρ,M,R,sm,m,h,k⟩;refine wpAny_Call_method m1.base m1.few m1.line plainAttrs_dict slot_dict_get type_dict_get (thn (hd pins s σ H _ I ⟨ρ,M,_,sm,m,h,fun x M1 xv H1 h1 x1 m1 dx=>(show ∃ M1' R1 x',(∃ a kvs0,x'=.ref a/\M1' a=some (.oth (.dct kvs0))/\tk ρ M1' R1)/\SimM X.K M1' H1/\Den X.K H1 x' xv/\Ext H H1/\∀ y M2 yv H2,R1 y M2->Ext H1 H2->SimM X.K M2 H2->Den X.K H2 y yv->∃ a kvs,x'=.ref a/\M2 a=some (.oth (.dct kvs))/\((∃ n:List (List Nat),y=.tup (n.map .str)/\R ((valD kvs n).getD .non) M2)\/(y=.non/\R .non M2)) from by
   obtain⟨a,kvs0,e1,e2,h1⟩:=h1;exact⟨M1,_,x,⟨a,kvs0,e1,e2,h1⟩,m1,dx,x1,fun y M2 yv H2 ⟨kvs,q1,q2⟩ _ _ _=>⟨a,kvs,e1,q1,q2⟩⟩)⟩) fun u s1 ⟨x,H1,I1,rx,M1',R1,x',⟨a,kvs0,e1,e2,h1⟩,mm,dx,x1,nxt⟩=>?_)
 subst e1;cases dx;obtain rfl:u=Value.ref a:=rx;obtain⟨vs0,g1,_⟩:=mm.dct e2;obtain⟨t1,t2,_⟩:=Q4O I1 (.inr ⟨vs0,.inl g1⟩);refine⟨t1,t2,?_⟩;rw[m1.trees];refine Calls.callWith_builtin rfl (Calls.evalArgs_plain (Calls.spliced_cons (thn (hk pins s1 σ H1 _ I1 ⟨ρ,M1',R1,sm.ext x1,mm,h1,fun y M2 yv H2 h2 x2 m2 dy=>(show ∃ M2' y',R1 y' M2'/\Ext H1 H2/\SimM X.K M2' H2/\Den X.K H2 y' yv from⟨M2,y,h2,x2,m2,dy⟩)⟩) fun iv s2 ⟨yv,H2,I2,ry,M2',y',hy,x2,m2,dy⟩=>Calls.spliced_nil ?_)));obtain⟨a',kvs,e3,e4,h3⟩:=nxt y' M2' yv H2 hy x2 m2 dy;cases e3;obtain⟨vs,g3,g4⟩:=m2.dct e4;rcases h3 with ⟨n,rfl,h3⟩ | ⟨rfl,h3⟩
 ·obtain⟨b,rfl,eb⟩:=Q0G dy;refine Qc7 (ZC (Yg (by decide) _) hu) I2 (DGet.t g3 eb) ry fun w' s3 I3 rw'=>⟨_,H2,I3,rw',?_⟩
  rcases g4.val n with ⟨q1,q2⟩ | ⟨d',v,q1,q2,q3⟩
  ·rw[q2];rw[q1]at h3;exact k _ M2' _ _ h3 (x1.trans x2) m2 .non
  ·rw[q2];rw[q1]at h3;exact k _ M2' _ _ h3 (x1.trans x2) m2 q3
 ·cases dy;cases ry;obtain⟨z,hd,xs,rel,dd⟩:=dt_of I2.hok g3;refine call_meetsIn slot_dict_get dd.typeIs entry_dict_get (args_dict_get_2 _ _) (Q2U (knd:=tupleKind (za2 X.prog X.w)) hd) ⟨xs,dd,fun A' hA' tk x hx=>?_,fun tk=>⟨.non,H2,I2.tok tk,rfl,k _ M2' _ H2 h3 (x1.trans x2) m2 .non⟩⟩;obtain⟨p,hp,hk⟩:=Q9R rel hx;obtain⟨its,rv,hit,z9⟩:=(I2.tok tk).tuple (.of hk);exact SeqAt.EqAt.tuple_none hit (by
   have:X.A.in1.units<=X.A.units+1:=by simp[Around.in1]
   omega)
end
section
variable{X:Cx}
end
section
variable{X:Cx}{o k:Expr}{td tk:DTE}{pos:Pos}
end
end DL
namespace L2
open PySem PySem.Spec PyProof.Rows
theorem Q5Y(l:Addr)(items:Array Value)(n:Nat)(b:Addr)(items2:Array Value)(n2:Nat)(sl:Array (Option Value))(hc0:¬(!items.isEmpty&&Builtin.List.listTooLong (items.size+items2.size))=true)(hc1:items.size<=sizeLine)(hs2:items.size+items2.size<=sizeLine+1) :
  Meets (Builtin.«list.extend» ⟨[.ref l,.ref b],[]⟩) (fun _ R s=>s.heap.get? l=some { cls:=.type "list",dict:=none,data:=.seq items n,slots:=#[] }/\s.heap.get? b=some { cls:=.type "list",dict:=none,data:=.seq items2 n2,slots:=sl }/\R (.ok (.ret Value.none)) { s with heap:=s.heap.update l (Obj.mapSeq fun x=>x++items2),toks:=s.toks }) :=
 .of_wp fun prog w A R s ⟨hl,hb,h⟩=>by
  obtain⟨hp,g,d,tk,os⟩:=s;have f1:=sub_list_list;have hz:(items++items2).size<=sizeLine+1:=by rw[Array.size_append];exact hs2
  wp_walk using (wpAny_updateSeq hl rfl (hz:=hc1) (_hz':=hz)),wpAny_loadPart' hl,wpAny_loadPart' hb
  exact⟨_,rfl,h⟩
noncomputable def rExtendF(K:Frag):V->List V->Hp->VK->Prop:=fun x vs H Q=>∃ l b xs zs,x=.ref l/\vs=[.ref b]/\H l=some (.lst xs)/\SqL K H b zs/\xs.length+zs.length<=sizeLine/\Q .non (upd H l (.lst (xs++zs)))
theorem Q5Z:MtM X "list.extend" (rExtendF X.K):=by
 rintro pins s σ H x vs v us Q I rx rv ⟨l,b,xs,zs,e1,e2,hH,hB,hz,q⟩;subst e1 e2;cases rx;obtain⟨u,rfl,ru⟩:=rv.one;cases ru;obtain⟨z,its,n,r,hl,e⟩:=I.lstM hH;obtain⟨its2,r2,⟨⟨oc,od,dd,sl⟩,n2,g1,g2,g3,g4⟩,z2⟩:=I.list hB;dsimp only at g2 g3 g4;subst g2 g3 g4;have y2:=r2.length;have sz:its.toArray.size+its2.toArray.size<=sizeLine:=by rw[Z2,Z2];omega
 refine call_meets F.slot_list_extend ⟨_,e,rfl⟩ F.entry_list_extend (F.args_list_extend_2 _ _) (Q5Y l its.toArray n b its2.toArray n2 sl (by rw[notLongL sz,Bool.and_false];exact Zs) (by omega) (by omega)) ⟨e,g1,.non,_,I.lset (its':=its++its2) hH e (by simp) (r.append r2) (by rw[Zi];omega),rfl,q⟩
end L2
namespace DL
open PySem PySem.Spec L2
open PyProof.Rows hiding St
section
variable{X:Cx}
noncomputable def zbp:D->List D->DH->DK->Prop:=fun d ds M Q=>∃ (a:Addr) (xs ys:List D),d=.ref a/\ds=[.lst ys]/\M a=some (.lst xs)/\xs.length+ys.length<=sizeLine/\Q .non (dupd M a (.lst (xs++ys)))
theorem Q3Q:MtD X "list.extend" zbp:=by
 rintro pins s σ H x xs v us Q I rx rv ⟨d,ds,M,R,e,dn,m,⟨a,ws,ys,h1,h2,qa,hz,q⟩,k⟩;subst h1 h2;cases e;cases dn with
 | cons dl t =>
  cases t;cases dl with
  | lst fz dd =>
   obtain⟨vs,e2,d⟩:=m.get qa;exact Q5Z pins s σ H _ _ v us Q I rx rv ⟨a,_,vs,_,rfl,rfl,e2,fz.sq,by rw[<- d.length,<- dd.length];exact hz,k _ _ _ _ q (Ext.lst e2) (m.write e2 (d.append dd)) .non⟩
end
end DL
namespace L2
open PySem PySem.Spec PyProof.Rows
section
variable{X:Cx}{pins:List (Addr×Obj)}{σ:St}{H:Hp}{s:Shared}{a:Addr}{v:V}{r u:Value}{A:Around}{E:Value->Shared->Prop}{kvs:List (Key×V)}{k:Key}
end
section
variable{X:Cx}{pins:List (Addr×Obj)}{σ:St}{H:Hp}{s:Shared}{a b:Addr}{v:V}{r:Value}{A:Around}{E:Value->Shared->Prop}{kvs:List (List Key×V)}{k:List Key}
end
end L2
namespace DL
open PySem PySem.Spec L2
open PyProof.Rows hiding St
section
variable{X:Cx}{o k:Expr}{apos cpos:Pos}{td tk:DTE}
end
section
variable{X:Cx}{o value:Expr}{pos pos':Pos}{tv:DTE}
end
end DL
namespace L2
open PySem PySem.Spec PyProof.Rows
noncomputable def IsDct(u:HO):Prop:=(∃ kvs,u=.dK kvs)\/∃ kvs,u=.dT kvs
noncomputable def zbM:HO->Nat
 | .dK kvs=>kvs.length
 | .dT kvs=>kvs.length
 | _=>0
noncomputable def KeyAt(H:Hp)(i:Nat)(x:V):HO->Prop
 | .dK kvs=>∃ p,kvs[i]? = some p/\x=kV p.1
 | .dT kvs=>∃ p b,kvs[i]? = some p/\x=.ref b/\H b=some (.tup (p.1.map kV))
 | _=>False
noncomputable def ItF(a:Addr)(ob:Obj)(u:HO):It:=⟨fun i H=>H a=some (.frz ob u)/\i<zbM u,fun i H x H'=>H'=H/\KeyAt H i x u,fun i H=>H a=some (.frz ob u)/\zbM u<=i⟩
theorem QcO(h:(za2 P w).is k v=true):RelV (kV k) v:=by
 rcases Q0l h with ⟨i,t,rfl,rfl⟩ | ⟨x,t,rfl,rfl⟩
 ·exact⟨t,rfl⟩
 ·exact⟨t,rfl⟩
theorem Q0P{α β:Type}{F:α->β->Prop}:∀ {xs:List α} {ys:List β} {i:Nat} {y:β},Paired F xs ys->ys[i]? = some y->∃ x,xs[i]? = some x/\F x y
 | _,_,0,_,.cons r t,h2=>by cases h2;exact⟨_,rfl,r⟩
 | _,_,i+1,_,.cons r t,h2=>Q0P (i:=i) t h2
 | _,_,_,_,.nil,h1=>by cases h1
theorem Q5b{prog:Program}{w:World}{K:Type}[DecidableEq K]{knd:KeyKind prog w K}:∀ {es:List DictEntry} {kvs:List (K×Value)},Pairs knd es kvs->∀ {i:Nat} {e:DictEntry},es[i]? = some e->∃ kv,kvs[i]? = some kv/\knd.is kv.1 e.key=true
 | _,_,.nil,_,_,h=>by cases h
 | _,_,.cons h1 h2 t,0,_,h=>by cases h;exact⟨_,rfl,h1⟩
 | _,_,.cons h1 h2 t,i+1,_,h=>Q5b t (i:=i) h
section
variable{P:Program}{w:World}{H:Hp}{h:Heap}{a:Addr}{ob:Obj}{u:HO}
theorem fz_at(hu:IsDct u)(ok:HOk P w H h)(e:H a=some (.frz ob u)):h.get? a=some ob/\(a==sysModules)=false/\ob.ExactDict/\∃ es ep,ob.data=.dict es ep/\es.size=zbM u/\zbM u<=sizeLine /\
  ∀ (i:Nat) (hi:i<es.size),∃ x,KeyAt H i x u/\RelV x es[i].key:=by
 rcases hu with ⟨kvs,rfl⟩ | ⟨kvs,rfl⟩
 ·obtain⟨e1,z,y,vs,r,o,es,ep,g1,g2,g3,g4,g5,g6⟩:=ok a _ e;rw[e1]at g1;cases g1;have sz:es.size=vs.length:=by rw[<- ZE];exact g5.length
  refine⟨e1,y,g2,es,ep,g3,sz.trans r.length.symm,z,fun i hi=>?_⟩;have q:es.toList[i]? = some es[i]:=by simp[hi]
  obtain⟨kv,k1,k2⟩:=Q5b g5 q;obtain⟨p,p1,p2⟩:=Q0P r k1;refine⟨kV p.1,⟨p,p1,rfl⟩,?_⟩;rw[p2.1];exact QcO k2
 ·obtain⟨e1,z,y,xs,r,o,es,ep,g1,g2,g3,g4,g5⟩:=ok a _ e;rw[e1]at g1;cases g1;have sz:es.size=xs.length:=by have:=congrArg List.length g4;rwa [Zd,ZE]at this
  refine⟨e1,y,g2,es,ep,g3,sz.trans (ZQ r).symm,z,fun i hi=>?_⟩;have hx:i<xs.length:=by rw[<- sz];exact hi
  have q:es.toList[i]? = some es[i]:=by simp[hi]
  rw[g4,Z5,Zt hx]at q;have q2:=Z6 q;obtain⟨p,p1,p2,p3,p4⟩:=Q0P r (Zt hx);refine⟨.ref xs[i].2.1,⟨p,xs[i].2.1,p1,rfl,p3⟩,?_⟩;rw[<- q2];rfl
end
theorem Q6a{P:Program}{w:World}{K:Frag}{tg:Expr}(a it:Addr)(ob:Obj){u:HO}(hu:IsDct u){es:Array DictEntry}{ep:Nat}(hob:ob.data=.dict es ep)(sz:es.size=zbM u) :
  Turn P w K tg (ItF a ob u) [it] it (fun i h=>h.IsKeyIter it a i es.size ep) where
 mem:=by simp
 obj:=fun i h st b hb=>by
  have e:b=it:=by simpa using hb
  subst e;obtain⟨o,e,c,d⟩:=st;exact⟨o,e,fun v z=>by rw[d]at z;cases z⟩
 keep:=fun i h h' st k=>st.at fun o e=>k it (by simp) o e
 item:=by
  intro X hP hw hK hc i pins s σ H E I hf st hg;subst hP hw hK;obtain⟨e,lt⟩:=hg;obtain⟨h1,_,_,es',ep',h2,_,_,el⟩:=fz_at hu I.hok e;rw[hob]at h2;cases h2;obtain⟨f0,f1,f2,f3,f4,f5⟩:=hf it (by simp)
  obtain⟨x,q1,q2⟩:=el i (by omega)
  refine Q6J st h1 hob (by omega) fun h' st' sb=>?_
  have I1:Inv X pins σ H { s with heap:=h' }:=I.turned (t':=s.toks) (fun b o hb e=>(sb.2 b hb).trans e) f0 f1 f3 f4 f5;obtain⟨oi,w1,w2,w3⟩:=id st';exact⟨_,rfl,go_of (s:={ s with heap:=h' }) w1 w2 w3 (by decide) ⟨x,H,I1,q2,⟨rfl,q1⟩,st',fun b hb=>(hf b hb).1⟩⟩
 done:=by
  intro X hP hw hK hc i pins s σ H E I hf st hg;subst hP hw hK;obtain⟨e,ge⟩:=hg;obtain⟨h1,_,_,es',ep',h2,_,_,el⟩:=fz_at hu I.hok e;obtain⟨f0,f1,f2,f3,f4,f5⟩:=hf it (by simp)
  exact Q8x (I.ok.hd hc) st h1 hob (by omega) fun h' eb=>⟨rfl,I.turned (t':=s.toks) (fun b o hb e=>eb b o hb e) f0 f1 f3 f4 f5⟩
 self:=fun _ _ _ _ _ st h=>wpAny_pyIter_keyiter st h
theorem Inv.frozenD(hu:IsDct u)(I:Inv X pins σ H s)(h:H a=some u) :
  ∃ o,Inv X pins σ (upd H a (.frz o u)) s:=by
 have hx:=I.hok a _ h;have nt:∀ c ys,H c=some (.tup ys)->c≠a:=fun c ys q w=>by
  rw[w,h]at q;rcases hu with ⟨kvs,rfl⟩ | ⟨kvs,rfl⟩ <;> cases q
 have nf:∀ c ob v,H c=some (.frz ob v)->c≠a:=fun c ob v q w=>by
  rw[w,h]at q;rcases hu with ⟨kvs,rfl⟩ | ⟨kvs,rfl⟩ <;> cases q
 have nb:∀ c ps,H c=some (.tbl ps)->c≠a:=fun c ob q w=>by
  rw[w,h]at q;rcases hu with ⟨kvs,rfl⟩ | ⟨kvs,rfl⟩ <;> cases q
 have no:∀ c y,H c=some (.own y)->c≠a:=fun c ob q w=>by
  rw[w,h]at q;rcases hu with ⟨kvs,rfl⟩ | ⟨kvs,rfl⟩ <;> cases q
 have hg:∃ ob,s.heap.get? a=some ob:=by
  rcases hu with ⟨kvs,rfl⟩ | ⟨kvs,rfl⟩
  ·obtain⟨_,_,_,_,o,_,_,g,_⟩:=hx;exact⟨o,g⟩
  ·obtain⟨_,_,_,_,o,_,_,g,_⟩:=hx;exact⟨o,g⟩
 obtain⟨ob,hg⟩:=hg;refine⟨ob,I.un (h':=s.heap) (t':=s.toks) ⟨fun b u q _ _ _=>q,fun b u q _ _ _=>⟨u.slots,q⟩,fun b u _ q _=>?_,fun b u q _=>⟨u,q⟩,fun b ys q=>?_,fun b u ys q=>?_,fun b ps q=>?_⟩ fun b v q=>?_⟩
 ·rw[Q0d fun w=>by rw[w,h]at q;cases q];exact q
 ·rw[Q0d (nt _ _ q)];exact q
 ·rw[Q0d (nf _ _ _ q)];exact q
 ·exact⟨#[],by rw[Q0d (nb _ _ q),q];simp⟩
 ·by_cases hb:b=a
  ·subst hb;rw[Q0e]at q;cases q;exact⟨hg,hx.stay (fun _ _ _ q=>q) (fun c q=>by rw[Q0d (no _ _ q)];exact q) fun c ys q=>by rw[Q0d (nt _ _ q)];exact q⟩
  ·rw[Q0d hb]at q;exact (I.hok b v q).stay (fun _ _ _ q=>q) (fun c q=>by rw[Q0d (no _ _ q)];exact q) fun c ys q=>by rw[Q0d (nt _ _ q)];exact q
section
variable{X:Cx}{tg:Expr}
noncomputable def iKeysF(tl:TE):TI:=fun σ H R=>tl σ H fun x H1=>∃ a u,x=.ref a/\IsDct u/\H1 a=some u/\∀ ob,R (ItF a ob u) (upd H1 a (.frz ob u))
theorem Q8V{l:Expr}{tl:TE}(hl:PE X l tl):PI X tg l (iKeysF tl):=by
 intro pins s σ H R I h;refine thn (hl pins s σ H _ I h) fun v s1 zz=>?_;obtain⟨x,H1,I1,r1,a,u,e,hu,hq,q⟩:=zz;subst e;cases r1;obtain⟨ob,I2⟩:=I1.frozenD hu hq;obtain⟨h1,hd,hx,es,ep,h2,sz,_,_⟩:=fz_at hu I2.hok Q0e;refine Q6I hd ⟨ob,h1,hx.1⟩ h1 h2 ?_;refine⟨s1.heap.objs.size,[s1.heap.objs.size],_,_,_,rfl,I2.kept (t':=s1.toks) fun b o e=>Zf _ e,Q6a a _ ob hu h2 sz,⟨_,Zu _ rfl,rfl,rfl⟩,fun b hb=>?_,q ob⟩;have e:b=s1.heap.objs.size:=by simpa using hb
 subst e;exact I2.fpOk (Zo _) (I2.hok.fresh (Zo _))
end
section
variable{X:Cx}{pins:List (Addr×Obj)}{σ:St}{H:Hp}{s:Shared}{A:Around}{E:Value->Shared->Prop}
end
end L2
namespace DL
open PySem PySem.Spec L2
open PyProof.Rows hiding St
noncomputable def gdT(x:List Nat):Prop:=(x.all fun c=>decide (c<1114112))=true
section
variable{K:Frag}{H:Hp}{M:DH}{a:Addr}{ob:Obj}
theorem SimM.dcf(h:SimM K M H)(e:M a=some (.oth (.dcf ob kvs))):∃ vs,H a=some (.frz ob (.dT vs))/\KDs K H kvs vs:=h a _ e
theorem Q4u:∀ {n:List (List Nat)},(∀ w∈n,gdT w)->Dens K H (n.map .str) ((nk n).map kV)
 | [],_=>.nil
 | x::r,h=>.cons (.str x (h x Zl)) (Q4u fun w hw=>h w (Zq _ hw))
theorem Yields.dkeys{Cd:DH->Prop}(h0:H a=some (.frz ob (.dT vs)))(r:KDs K H kvs vs)(hg:∀ p∈kvs,∀ w∈p.1,gdT w):Yields K (ItF a ob (.dT vs)) (kvs.map fun p=>.tup (p.1.map .str)) Cd H where
 go:=fun i H' M x m c hi=>⟨x.frz _ _ _ h0,by rw[Zd,ZQ r]at hi;exact hi⟩
 yld:=fun i H' M x H'' xx m c h hi=>by
  obtain⟨rfl,p,b,q1,rfl,q2⟩:=h;obtain⟨p',p1,p2,p3⟩:=Q0P r q1;refine⟨Ext.refl _,m,.tup (p'.1.map .str),by rw[Z5,p1];rfl,?_⟩
  rw[p2]at q2;exact .tup q2 (Q4u (hg p' (ZG p1)))
 stop:=fun i H' M x m c hi=>⟨x.frz _ _ _ h0,by rw[Zd,ZQ r]at hi;exact hi⟩
end
section
variable{X:Cx}{tg e o k:Expr}{te td tk:DTE}{pos:Pos}
noncomputable def zb9(te:DTE):DTI:=fun ρ M R=>te ρ M fun d M1=>∃ (a:Addr) (kvs:List (List (List Nat)×D)),d=.ref a/\M1 a=some (.oth (.dct kvs))/\(∀ p∈kvs,∀ w∈p.1,gdT w)/\∀ ob,R (kvs.map fun p=>.tup (p.1.map .str)) (fun _=>True) (dupd M1 a (.oth (.dcf ob kvs)))
theorem Q8W(he:DE X e te):DI X tg e (zb9 te) :=
 (Q8V he).imp fun σ H R ⟨ρ,M,RD,s,m,h,k⟩=>⟨ρ,M,_,s,m,h,fun d M1 v H1 ⟨a,kvs,e1,e2,hg,h1⟩ x1 m1 den=>by
  subst e1;cases den;obtain⟨vs,g1,g2⟩:=m1.dct e2;refine⟨a,.dT vs,rfl,.inr ⟨_,rfl⟩,g1,fun ob=>?_⟩;have xx:Ext H1 (upd H1 a (.frz ob (.dT vs))):=Ext.mut g1 (fun _ z=>nomatch z) (fun _ _ z=>nomatch z)
  have g3:KDs X.K (upd H1 a (.frz ob (.dT vs))) kvs vs:=Paired.mapP g2 fun p q z=>⟨z.1,Den.ext xx z.2⟩;exact k _ _ _ _ _ (h1 ob) (x1.trans xx) (m1.put (u:=.oth (.dcf ob kvs)) xx ⟨vs,Q0e,g3⟩) (Yields.dkeys Q0e g3 hg)⟩
noncomputable def rInF:DR2:=fun x y M Q=>∃ (n:List (List Nat)) (a:Addr) (ob:Obj) (kvs:List (List (List Nat)×D)),x=.tup (n.map .str)/\y=.ref a/\M a=some (.oth (.dcf ob kvs))/\Q (.bl (valD kvs n).isSome) M
theorem QcP(hu:X.A.units+1<cLine):OpD X (compareOp .In) rInF:=by
 rintro pins s σ H x y v u Q I rx ry ⟨dx,dy,M,R,ex,ey,m,⟨n,a,ob,kvs,e1,e2,e3,q⟩,k⟩;subst e1 e2;obtain⟨b,rfl,eb⟩:=Q0G ex;cases ey;obtain⟨vs,g1,g2⟩:=m.dcf e3;cases ry;refine d_in hu I (.inr ⟨vs,nk n,b,.inr ⟨ob,g1⟩,rfl,eb,rfl⟩) rx fun s' I'=>⟨.bl (valV vs (nk n)).isSome,H,I',rfl,?_⟩;rw[Q2S g2];exact k _ M _ H q (Ext.refl H) m (.bl _)
end
end DL
namespace DL
open PySem PySem.Spec PyProof.Rows L2
noncomputable abbrev tupS(z:List (List Nat)):D:=.tup (z.map .str)
noncomputable def ltZ:List (List Nat)->List (List Nat)->Bool
 | [],[]=>false
 | [],_::_=>true
 | _::_,[]=>false
 | x::r,y::q=>if x=y then ltZ r q else decide (x<y)
theorem ltZ_S:∀ x y:List (List Nat),STb.ltN (x.map S) (y.map S)=ltZ x y
 | [],[]=>rfl
 | [],_::_=>rfl
 | _::_,[]=>rfl
 | x::r,y::q=>by
  rw[Zy,Zy,STb.ltN_cons];unfold ltZ;by_cases e:x=y
  ·rw[Ze e,Ze (by rw[e]),ltZ_S r q]
  ·rw[Zc e,Zc fun z=>e (S_inj z)];exact decide_eq_decide.mpr (by simp[S])
theorem Q5c:∀ {x y:List (List Nat)},x.map S=y.map S->x=y
 | [],[],_=>rfl
 | [],_::_,h=>by cases h
 | _::_,[],h=>by cases h
 | a::x,b::y,h=>by
  rw[Zy,Zy]at h;injection h with h1 h2;rw[S_inj h1,Q5c h2]
section
variable{X:Cx}{pins:List (Addr×Obj)}{σ:L2.St}{H:Hp}{s:Shared}
theorem Q2B{K:Frag}:∀ {z:List (List Nat)} {vs:List V} {its:List Value},Dens K H (z.map .str) vs->Vals vs its->ItemsAre (STb.kd X.prog X.w) (z.map S) its
 | [],_,_,.nil,.nil=>.nil
 | x::r,_,_,.cons (.str _ _) t,.cons ⟨tk,e⟩ u=>by
  subst e;exact .cons (strKind_is _ _ _ _) (Q2B t u)
theorem Qb4(I:Inv X pins σ H s)(d:Den X.K H (tupS z) v)(r:RelV v u):∃ b,u=.ref b/\v=.ref b/\STb.Nm X.prog X.w s.heap u (z.map S):=by
 cases d with
 | @tup a _ vs e dd =>
  cases r;obtain⟨its,rv,⟨o,ho,hc,n,hd⟩,_⟩:=I.tuple (.inl (.inl e));exact⟨a,rfl,rfl,a,rfl,o,its.toArray,n,ho,hc,hd,Q2B dd rv⟩
theorem paired_at{K:Frag}:∀ {zs:List (List (List Nat))} {vs:List V} {its:List Value},Dens K H (zs.map tupS) vs->Vals vs its->∀ (i:Nat) (u:Value),its[i]? = some u->∃ z v,zs[i]? = some z/\Den K H (tupS z) v/\RelV v u
 | [],_,_,.nil,.nil,i,u,h=>by simp at h
 | z::zs,_,_,.cons d t,.cons r q,0,u,h=>by cases h;exact⟨z,_,rfl,d,r⟩
 | z::zs,_,_,.cons d t,.cons r q,i+1,u,h=>paired_at t q i u h
variable{e:Expr}{es:List Expr}{p p' pos pos':Pos}{t:DTA}
end
end DL
namespace L2
open PySem PySem.Spec PyProof.Rows
theorem Inv.thawD(I:Inv X pins σ H s)(h:H a=some (.frz ob (.dT kvs)))(n:∀ o u,X.H₀ a≠some (.frz o u)):Inv X pins σ (upd H a (.dT kvs)) s:=by
 have na:∀ c u,H c=some u->(∀ o v,u≠.frz o v)->c≠a:=fun c u q z w=>by
  rw[w,h]at q;cases q;exact z _ _ rfl
 have nn:∀ c,H c=none->upd H a (.dT kvs) c=none:=fun c q=>by
  rw[Q0d fun w=>by rw[w,h]at q;cases q]
  exact q
 have no:∀ b c,H c=some (.own b)->upd H a (.dT kvs) c=some (.own b):=fun b c q=>by rw[Q0d (na c _ q fun _ _ z=>nomatch z)];exact q
 have nt:∀ c ys,H c=some (.tup ys)->upd H a (.dT kvs) c=some (.tup ys):=fun c ys q=>by rw[Q0d (na c _ q fun _ _ z=>nomatch z)];exact q
 exact { I with
  base:={ I.base with
   free:=fun b o e1 e2 e3=>nn b (I.base.free b o e1 e2 e3)
   tups:=fun b xs e=>nt b xs (I.base.tups b xs e)
   frzs:=fun b o u e=>by rw[Q0d fun w=>n o u (by rw[<- w];exact e)];exact I.base.frzs b o u e
   tbls:=fun b ps e=>by
    obtain⟨more,q⟩:=I.base.tbls b ps e;exact⟨more,by rw[Q0d (na b _ q fun _ _ z=>nomatch z)];exact q⟩ }
  free:=nn _ I.free
  freeC:=fun x c e=>nn _ (I.freeC x c e)
  pin:=fun p hp=>by
   obtain⟨e1,e2,e3⟩:=I.pin p hp;exact⟨e1,nn _ e2,e3⟩
  hok:=fun b u q=>by
   by_cases hb:b=a
   ·subst hb;rw[Q0e]at q;cases q;exact (I.hok b _ h).2.stay (fun _ _ _ q=>q) (no b) nt
   ·rw[Q0d hb]at q;exact (I.hok b u q).stay (fun _ _ _ q=>q) (no b) nt }
end L2
namespace DL
open PySem PySem.Spec L2
section
variable{K:Frag}{H:Hp}{a:Addr}{ob:Obj}{kvs:List (List Key×V)}
mutual
theorem Den.thaw(h:H a=some (.frz ob (.dT kvs))):∀ {d:D} {v:V},Den K H d v->Den K (upd H a (.dT kvs)) d v
 | _,_,.non=>.non
 | _,_,.bl b=>.bl b
 | _,_,.int i=>.int i
 | _,_,.str s z=>.str s z
 | _,_,.ref a=>.ref a
 | _,_,.tup e t=>.tup (by rw[Q0d fun w=>by rw[w,h]at e;cases e];exact e) (Dens.thaw h t)
 | _,_,.lst e t=>.lst (by
   rcases e with ⟨o,e⟩ | e
   ·exact .inl ⟨o,by rw[Q0d fun w=>by rw[w,h]at e;cases e];exact e⟩
   ·exact .inr e) (Dens.thaw h t)
theorem Dens.thaw(h:H a=some (.frz ob (.dT kvs))):∀ {ds:List D} {vs:List V},Dens K H ds vs->Dens K (upd H a (.dT kvs)) ds vs
 | _,_,.nil=>.nil
 | _,_,.cons e t=>.cons (Den.thaw h e) (Dens.thaw h t)
end
theorem MOk.thaw(h:H a=some (.frz ob (.dT kvs)))(n:b≠a)(m:MOk K H b o):MOk K (upd H a (.dT kvs)) b o:=by
 have e:upd H a (.dT kvs) b=H b:=Q0d n;cases o with
 | lst ds=>obtain⟨vs,e1,e2⟩:=m;exact⟨vs,e.trans e1,e2.thaw h⟩
 | oth o =>
  cases o with
  | dct kvs=>obtain⟨vs,e1,e2⟩:=m;exact⟨vs,e.trans e1,Paired.mapP e2 fun p q z=>⟨z.1,z.2.thaw h⟩⟩
  | dkt kvs=>obtain⟨vs,e1,e2⟩:=m;exact⟨vs,e.trans e1,Paired.mapP e2 fun p q z=>⟨z.1,z.2.thaw h⟩⟩
  | dkf ob kvs=>obtain⟨vs,e1,e2⟩:=m;exact⟨vs,e.trans e1,Paired.mapP e2 fun p q z=>⟨z.1,z.2.thaw h⟩⟩
  | dcf ob kvs=>obtain⟨vs,e1,e2⟩:=m;exact⟨vs,e.trans e1,Paired.mapP e2 fun p q z=>⟨z.1,z.2.thaw h⟩⟩
  | dnt ep kvs=>obtain⟨vs,e1,e2⟩:=m;exact⟨vs,e.trans e1,Paired.mapP e2 fun p q z=>⟨z.1,z.2.1.thaw h,z.2.2⟩⟩ --N
  | ins c fs=>obtain⟨C,dx,vs,e0,e1,e2⟩:=m;exact⟨C,dx,vs,e0,e.trans e1,Paired.mapP e2 fun p q z=>⟨z.1,z.2.thaw h⟩⟩
end
section
variable{X:Cx}{e:Expr}{te:DTE}
noncomputable def dThw(te:DTE):DTE:=fun ρ M Q=>∃ (a:Addr) (kvs:List (List (List Nat)×D)),M a=some (.oth (.dct kvs))/\te ρ M fun d M1=>∃ (ob:Obj) (kvs:List (List (List Nat)×D)),M1 a=some (.oth (.dcf ob kvs))/\Q d (dupd M1 a (.oth (.dct kvs)))
theorem QcQ(he:DE X e te):DE X e (dThw te):=by
 rintro pins s σ H Q I ⟨ρ,M,R,ss,m,⟨a,kv0,h0,h⟩,k⟩;obtain⟨vs0,g0,_⟩:=m.dct h0;have n0:∀ o u,X.H₀ a≠some (.frz o u):=fun o u z=>by
  have:=I.base.frzs a o u z;rw[g0]at this;cases this
 refine thn (he pins s σ H (fun v H'=>∃ d M1,(∃ (ob:Obj) (kvs:List (List (List Nat)×D)),M1 a=some (.oth (.dcf ob kvs))/\R d (dupd M1 a (.oth (.dct kvs))))/\Ext H H'/\SimM X.K M1 H'/\Den X.K H' d v) I ⟨ρ,M,_,ss,m,h,fun d M1 v H1 h1 x1 m1 e1=>⟨d,M1,h1,x1,m1,e1⟩⟩) fun u s' z=>?_;obtain⟨v,H',I',r,d,M1,⟨ob,kvs,ha,q⟩,x,m',den⟩:=z;obtain⟨vs,g1,g2⟩:=m'.dcf ha;refine⟨v,_,I'.thawD g1 n0,r,k _ _ _ _ q ⟨fun b xs e=>?_,fun b o u e=>?_⟩ (fun b o e=>?_) (den.thaw g1)⟩
 ·rw[Q0d fun w=>by rw[w,g0]at e;cases e];exact x.tup b xs e
 ·rw[Q0d fun w=>by rw[w,g0]at e;cases e];exact x.frz b o u e
 ·by_cases hb:b=a
  ·subst hb;rw[Q0a]at e;cases e;exact⟨vs,Q0e,Paired.mapP g2 fun p q z=>⟨z.1,z.2.thaw g1⟩⟩
  ·rw[Q0b hb]at e;exact (m' b o e).thaw g1 hb
end
end DL
namespace L2
open PySem PySem.Spec PySem.W PyProof.Rows
theorem Q4v(d:Addr)(hd:(d==sysModules)=false) :
  MeetsIn P w (Builtin.«dict.items» ⟨[.ref d],[]⟩) (fun _ R s=>s.TypeIs (.ref d) "dict" /\ R (.ok (.ret (.ref s.heap.objs.size))) { s with heap:=s.heap.push { cls:=.type "dict_items",data:=.fields #[.ref d] } }):=by
 refine .of_wp fun A R s q=>?_;have nm:¬ ((d==sysModules)=true):=by rw[hd];exact Zs
 refine Za (m:=Builtin.Dict.noArgs "items" ⟨[.ref d],[]⟩) ?_;unfold Builtin.Dict.noArgs;refine Za (wpAny_notOrdered_dict q.1 (Zb (a:=d) ?_));show wpAny _ _ (Builtin.Dict.showsAll d >>= _) _ _ s;unfold Builtin.Dict.showsAll;rw[Zc nm];exact Za (Zb (Za (ZV (Zb ⟨_,rfl,q.2⟩))))
theorem Q2C{α β:Type}{F:α->β->Prop}:∀ {xs:List α} {ys:List β} {i:Nat} {x:α},Paired F xs ys->xs[i]? = some x->∃ y,ys[i]? = some y/\F x y
 | _,_,0,_,.cons r t,h2=>by cases h2;exact⟨_,rfl,r⟩
 | _,_,i+1,_,.cons r t,h2=>Q2C (i:=i) t h2
 | _,_,_,_,.nil,h1=>by cases h1
section
variable{X:Cx}{o:Expr}{p pos apos cpos:Pos}{td:TE}
noncomputable def tItems(td:TE):TE:=fun σ H Q=>td σ H fun x H1=>∃ a kvs,x=.ref a/\H1 a=some (.dT kvs) /\
 ∀ (as:List Addr) (l:Addr) (H2:Hp),as.length=kvs.length->(∀ b u,H1 b=some u->H2 b=some u)->(∀ (j:Nat) (b:Addr) (k:List Key) (v:V),as[j]? = some b->kvs[j]? = some (k,v)->∃ c,H1 c=some (.tup (k.map kV))/\H2 b=some (.tup [.ref c,v]))->H2 l=none->Q (.ref l) (upd H2 l (.lst (as.map .ref)))
theorem Q8X(hc:X.calm=true)(hg:Gl X "list")(hm:X.mg "list" = none)(ho:PE X o td)(hb:attributeBase o "items" X.env (eval o X.env)=eval o X.env)(hl:(apos.endLine==cpos.line)=true):PE X (.Call (.Name "list" p) [.Call (.Attribute o "items" apos) [] [] cpos] [] pos) (tItems td):=by
 intro pins s σ H Q I h;refine wpAny_Call_Name_kw (Q3r I hg hm (by rfl) ?_)
 refine PyProof.Rows.callWith_type1 (Calls.spliced_cons ?_) rfl rfl;refine wpAny_Call_method0_late hb hl (thn (ho pins s σ H _ I h) fun v s1 zz=>?_);obtain⟨x,H1,I1,r1,a,kvs,e,hq,q⟩:=zz;subst e;cases r1;obtain⟨t1,t2,hd⟩:=Q4O I1 (.inr ⟨kvs,.inl hq⟩);obtain⟨zz,_,xs,r,ob,es,ep,g1,g2,g3,g4,g5⟩:=I1.hok a _ hq;have sz:=size_of_entries g4;have ln:=r.length;refine⟨"dict","dict.items",plainAttrs_dict,PySem.F.slot_dict_items,PySem.F.type_dict_items,t1,t2,Calls.callWith_builtin rfl (PySem.evalArgs_none ?_)⟩;refine call_meetsIn PySem.F.slot_dict_items t1 PySem.F.entry_dict_items (PySem.F.args_dict_items_1 _) (Q4v a hd) ⟨t1,Calls.spliced_nil ?_⟩;refine Qax (I1.ok.hd hc) ⟨_,Zu _ rfl,rfl,rfl⟩ (Zf _ g1) g3 (by omega) fun h' tk acc c as kp hS al hG hacc=>?_
 have kp1:∀ b u,s1.heap.get? b=some u->h'.get? b=some u:=fun b u e=>kp b u (Zf _ e);have I2:=I1.kept (t':=tk) (h':=h') kp1;have hz:(s1.heap.push { cls:=.type "dict_items",data:=.fields #[.ref a] }).objs.size=s1.heap.objs.size+1:=Heap.size_push ..;have above:∀ b∈as,s1.heap.objs.size<=b/\b≠s1.heap.objs.size+1:=fun b hb=>by
  have z:s1.heap.objs.size+1<b:=by
   have:=hG.above b hb
   rwa [hz]at this
  exact⟨le_of_lt (lt_trans (Yo _) z),ne_of_gt z⟩
 have ent:∀ (j:Nat) (b:Addr) (q:V×V),as[j]? = some b->(xs.zip (kvs.map (·.2)))[j]?.map (fun z=>(V.ref z.1.2.1,z.2))=some q->∃ k v,RelV q.1 k/\RelV q.2 v/\h'.get? b=some (zaB k v):=fun j b q h1 h2=>by
  obtain⟨hj,hp⟩:=hG.pairs j b h1;have e1:=entry_at g4 j;rw[Array.getElem?_eq_getElem hj]at e1;obtain⟨x,ex,ee⟩:=ZA.mp e1.symm;obtain⟨y,ey,r1,r2,r3⟩:=Q0P r ex;have e3:(xs.zip (kvs.map (·.2)))[j]? = some (x,y.2):=by
   rw[List.getElem?_zip_eq_some];exact⟨ex,by rw[Z5,ey];rfl⟩
  rw[e3]at h2;cases h2;refine⟨_,_,?_,?_,hp⟩
  ·rw[<- ee];rfl
  ·rw[<- ee];exact r3
 have zl:as.length=((xs.zip (kvs.map (·.2))).map fun z=>(V.ref z.1.2.1,z.2)).length:=by
  rw[Zd,List.length_zip,Zd,al];omega
 obtain⟨H2,I3,e1,e2⟩:=Q2e as ((xs.zip (kvs.map (·.2))).map fun z=>(V.ref z.1.2.1,z.2)) I2 zl (hG.rise.imp fun z=>ZJ z) (fun b hb=>⟨I1.fpOk (above b hb).1 (I1.hok.fresh (above b hb).1),Z4 I1.sz (above b hb).1⟩) fun j b q h1 h2=>ent j b q h1 (by rw[<- Z5];exact h2)
 have nas:∀ b u,H1 b=some u->b∉as:=fun b u e z=>by
  rw[I1.hok.fresh (above b z).1]at e;cases e
 have lf:H2 (s1.heap.objs.size+1)=none:=by
  rw[e1 _ fun z=>(above _ z).2 rfl];exact I1.hok.fresh (Yq _)
 rw[hz]at hS ⊢;have fp:FpOk X pins H2 (s1.heap.objs.size+1):=I1.fpOk (Yq _) lf;have I4:=I3.adopt (o:=.lst (as.map V.ref)) fp (Z4 I1.sz (Yq _)) ⟨by rw[Zd];omega,as.map Value.ref,c,Q3E as,by rw[<- hacc,Array.toArray_toList];exact hS⟩
 refine⟨.ref (s1.heap.objs.size+1),_,I4,rfl,q as _ H2 (by omega) (fun b u e=>by rw[e1 b (nas b u e)];exact e) (fun j b k v h1 h2=>?_) lf⟩
 obtain⟨x,ex,r1,r2,r3⟩:=Q2C r h2;refine⟨x.2.1,r2,e2 j b (V.ref x.2.1,v) h1 ?_⟩;rw[Z5,show (xs.zip (kvs.map (·.2)))[j]? = some (x,v) from ?_]
 ·rfl
 ·rw[List.getElem?_zip_eq_some];exact⟨ex,by rw[Z5,h2];rfl⟩
end
end L2
namespace DL
open PySem PySem.Spec PyProof.Rows L2
section
variable{X:Cx}{o:Expr}{p pos apos cpos:Pos}{te:DTE}
noncomputable def itemD(q:List (List Nat)×D):D:=.tup [.tup (q.1.map .str),q.2]
noncomputable def zbB(te:DTE):DTE:=fun ρ M Q=>te ρ M fun d M1=>∃ (a:Addr) (kvs:List (List (List Nat)×D)),d=.ref a/\M1 a=some (.oth (.dct kvs))/\(∀ p∈kvs,∀ w∈p.1,gdT w)/\∀ l,M1 l=none->Q (.ref l) (dupd M1 l (.lst (kvs.map itemD)))
theorem Q8Y(hc:X.calm=true)(hg:Gl X "list")(hm:X.mg "list" = none)(ho:DE X o te)(hb:attributeBase o "items" X.env (eval o X.env)=eval o X.env)(hl:(apos.endLine==cpos.line)=true):DE X (.Call (.Name "list" p) [.Call (.Attribute o "items" apos) [] [] cpos] [] pos) (zbB te):=by
 refine (Q8X hc hg hm ho hb hl).imp fun σ H Q ⟨ρ,M,R,ss,m,h,k⟩=>⟨ρ,M,_,ss,m,h,fun d M1 v H1 ⟨a,kvs,e1,e2,gk,h1⟩ x1 m1 den=>?_⟩;subst e1;cases den;obtain⟨vs,g1,g2⟩:=m1.dct e2;refine⟨a,vs,rfl,g1,fun as l H2 al kp hp lf=>?_⟩;have xx:Ext H1 H2:=⟨fun b xs e=>kp b _ e,fun b o u e=>kp b _ e⟩;have m2:SimM X.K M1 H2:=fun b u e=>by
  obtain⟨w,ew⟩:=(m1 b u e).there;exact (m1 b u e).keep xx (by rw[ew];exact kp b w ew)
 have ds:∀ (ks:List (List (List Nat)×D)) (ws:List (List Key×V)) (bs:List Addr),KDs X.K H1 ks ws->(∀ p∈ks,∀ w∈p.1,gdT w)->bs.length=ws.length->(∀ (j:Nat) (b:Addr) (k:List Key) (v:V),bs[j]? = some b->ws[j]? = some (k,v)->∃ c,H1 c=some (.tup (k.map kV))/\H2 b=some (.tup [.ref c,v]))->Dens X.K H2 (ks.map itemD) (bs.map V.ref):=fun ks=>by
  induction ks with
  | nil =>
   intro ws bs r _ hl _;cases r;rw[List.length_eq_zero_iff.mp hl];exact .nil
  | cons p ks ih =>
   intro ws bs r gk hl hp;cases r with
   | @cons _ q _ ws r t =>
    cases bs with
    | nil=>cases hl
    | cons b bs =>
     obtain⟨c,c1,c2⟩:=hp 0 b q.1 q.2 rfl rfl;rw[r.1]at c1;exact .cons (.tup c2 (.cons (.tup (kp c _ c1) (Q4u (gk p Zl))) (.cons (r.2.ext xx) .nil))) (ih ws bs t (fun p hp=>gk p (Zq _ hp)) (Nat.succ.inj hl) fun j b k v h1 h2=>hp (j+1) b k v h1 h2)
 exact k _ _ _ _ (h1 l (m2.free lf)) (x1.trans (xx.trans (Ext.new lf))) (m2.newL lf (ds kvs vs as g2 gk al hp)) (.ref l)
end
noncomputable abbrev prD(p:List (List Nat)×List Nat):D:=.tup [tupS p.1,.str p.2]
noncomputable def zbN:List D->DH->DK->Prop:=fun ds M Q=>match ds with
 | [d]=>∃ ps:List (List (List Nat)×List Nat),zak M d=some (ps.map prD)/\ps.length<=63/\(∀ i,0<i->i<ps.length->(ps.getD i ([],[])).1≠(ps.getD (i-1) ([],[])).1/\ltZ (ps.getD i ([],[])).1 (ps.getD (i-1) ([],[])).1=false)/\∀ p,M p=none->Q (.ref p) (dupd M p (.lst (ps.map prD)))
 | _=>False
section
variable{X:Cx}{pins:List (Addr×Obj)}{σ:L2.St}{H:Hp}{s:Shared}
theorem Qb5(I:Inv X pins σ H s)(d:Den X.K H (prD z) v)(r:RelV v u):∃ b,u=.ref b/\v=.ref b/\STb.Np X.prog X.w s.heap u (z.1.map S):=by
 cases d with
 | @tup a _ vs e dd =>
  cases dd with
  | cons d1 dd =>
   cases dd with
   | cons d2 dd =>
    cases dd;cases r;obtain⟨its,rv,⟨o,ho,hc,n,hd⟩,_⟩:=I.tuple (.inl (.inl e));cases rv with
    | cons r1 rv =>
     cases rv with
     | cons r2 rv =>
      cases rv;obtain⟨b,e1,e2,nn⟩:=Qb4 I d1 r1;cases d2;obtain⟨t,rfl⟩:=r2;exact⟨a,rfl,rfl,a,o,_,_,n,rfl,ho,hc,hd,nn,_,t,rfl⟩
theorem Q3R{K:Frag}:∀ {zs:List (List (List Nat)×List Nat)} {vs:List V} {its:List Value},Dens K H (zs.map prD) vs->Vals vs its->∀ (i:Nat) (u:Value),its[i]? = some u->∃ z v,zs[i]? = some z/\Den K H (prD z) v/\RelV v u
 | [],_,_,.nil,.nil,i,u,h=>by simp at h
 | z::zs,_,_,.cons d t,.cons r q,0,u,h=>by cases h;exact⟨z,_,rfl,d,r⟩
 | z::zs,_,_,.cons d t,.cons r q,i+1,u,h=>Q3R t q i u h
theorem Q8Z(hu:X.A.units+64<cLine):zaV X (.builtin "sorted") zbN:=by
 rintro pins s σ H xs us Q I rv ⟨ds,M,R,dn,m,q,k⟩
 match ds,dn,q with
 | [d],.cons den .nil,⟨zs,e,hz,up0,q⟩ =>
  obtain⟨l,vs,rfl,sq,dd⟩:=Q2A m den e;obtain⟨u,rfl,rx⟩:=vals1 rv;cases rx;obtain⟨its,r',pl,zl⟩:=I.list sq;have hlen:its.length=zs.length:=by rw[<- r'.length,<- dd.length,Zd]
  have each:∀ (i:Nat) (v:Value),its[i]? = some v->∃ z b,zs[i]? = some z/\v=.ref b/\Den X.K H (prD z) (.ref b)/\STb.Np X.prog X.w s.heap v (z.1.map S):=fun i v hi=>by
   obtain⟨z,x,e1,e2,e3⟩:=Q3R dd r' i v hi;obtain⟨b,rfl,rfl,nn⟩:=Qb5 I e2 e3;exact⟨z,b,e1,rfl,e2,nn⟩
  refine Calls.call_function_entry kind_sorted plain_sorted entry_sorted (args_sorted1 _) ?_;unfold Builtin.«sorted»;refine Za (m:=checkCount "sorted" 1 1 _) (Zb ?_);obtain⟨ol,hol,hcl,nl,hdl⟩:=pl.isList;refine Za (wpAny_collect_seq l (.inl rfl) hol hcl hdl (fun h2 kp2=>?_) (by rw[Z2,hlen,ZL];omega))
  rw[List.toList_toArray];have I2:=I.kept (t':=s.toks) (h':=h2) kp2;refine Za (wpAny_newList ?_ (by rw[hlen,ZL];omega))
  have gL:(h2.push (seqObj "list" its.toArray 0)).get? h2.objs.size=some (seqObj "list" its.toArray 0):=Zu _ rfl;have I3:Inv X pins σ H { s with heap:=h2.push (seqObj "list" its.toArray 0) }:=I2.kept (t':=s.toks) fun _ _ z=>Zf _ z;have fp:=I2.fpOk (Zo _) I2.fresh;have kp3:∀ b o,s.heap.get? b=some o->(h2.push (seqObj "list" its.toArray 0)).get? b=some o:=fun b o e=>Zf _ (kp2 b o e);have zat:∀ i,i<its.length->zs[i]? = some (zs.getD i ([],[])):=fun i hi=>by
   have:i<zs.length:=by rw[<- hlen];exact hi
   simp[this]
  have xat:∀ i,i<its.length->its[i]? = some (its.getD i .none):=fun i hi=>by simp[hi]
  have em:∀ i,(zs.map fun z=>z.1.map S).getD i []=(zs.getD i ([],[])).1.map S:=fun i=>by
   rw[getD_eq_getElem?_getD,getD_eq_getElem?_getD,Z5];cases zs[i]? <;> rfl
  have N:STb.Nps X.prog X.w (h2.push (seqObj "list" its.toArray 0)) its (zs.map fun z=>z.1.map S):=⟨by rw[Zd,hlen],fun i hi=>by
   obtain⟨z,b,e1,_,_,nn⟩:=each i _ (xat i hi);rw[zat i hi]at e1;cases e1;rw[em];exact nn.keep fun b o _ e=>kp3 b o e⟩
  have up:STb.Rise (zs.map fun z=>z.1.map S) its.length:=fun i h0 hi=>by
   rw[em,em,ltZ_S];have:=up0 i h0 (by rw[<- hlen];exact hi)
   exact⟨fun e=>this.1 (Q5c e),this.2⟩
  refine Za (ZW (ZP slot_list_sort ⟨_,gL,rfl⟩ entry_list_sort ?_ (args_list_sort _)));refine STb.sort_pairs (s:={ s with heap:=h2.push (seqObj "list" its.toArray 0) }) (by show X.A.units+1+1<_;omega) gL N up (by omega) fun h3 c g3 kp4=>⟨_,rfl,Zb ⟨_,rfl,?_⟩⟩
  obtain⟨f0,f1,f2,f3,f4,f5⟩:=id fp;have I4:=I3.turned (it:=h2.objs.size) (h':=h3) (t':=s.toks) (fun c u hc e=>kp4 c u hc e) f0 f1 f3 f4 f5;have hsz:X.s₀.heap.objs.size<=h2.objs.size:=I2.sz;have I5:=I4.adopt (o:=.lst vs) fp hsz ⟨by rw[r'.length,hlen,ZL];omega,its,c,r',g3⟩
  exact⟨.ref h2.objs.size,_,I5,rfl,k _ _ _ _ (q _ (m.free f0)) (Ext.new f0) (m.newL f0 dd) (.ref _)⟩
end
end DL
namespace DL
open PySem PySem.Spec L2
open PyProof.Rows hiding St
noncomputable abbrev ND:=List Nat×List (List Nat)×List (List Nat)
noncomputable def kd3(k:ND):D:=.tup (.tup (k.2.1.map .str)::.str k.1::k.2.2.map .str)
section
noncomputable def valN(kvs:List (ND×D))(k:ND):Option D:=(kvs.find? fun kv=>decide (kv.1=k)).map (·.2)
noncomputable def putN(kvs:List (ND×D))(k:ND)(v:D):List (ND×D) :=
 if (kvs.any fun kv=>decide (kv.1=k))=true then kvs.map (fun kv=>if kv.1=k then (kv.1,v) else kv) else kvs++[(k,v)]
theorem Q0y(e:p.1=k):valN (p::r) k=some p.2:=by simp[valN,Yu,e]
theorem Q0z(e:¬ p.1=k):valN (p::r) k=valN r k:=by simp[valN,Yu,e]
theorem Q1N(k:ND):∀ kvs:List (ND×D),(kvs.any fun kv=>decide (kv.1=k))=(valN kvs k).isSome
 | []=>rfl
 | p::r=>by
  rw[any_cons];by_cases e:p.1=k
  ·simp only[Q0y e,Zm e,Bool.true_or,Option.isSome_some]
  ·rw[Q0z e,Zr e,Bool.false_or];exact Q1N k r
theorem Q5d(k j:ND)(y:D):∀ kvs:List (ND×D),valN (kvs.map fun kv=>if kv.1=k then (kv.1,y) else kv) j=(valN kvs j).map fun x=>if j=k then y else x
 | []=>rfl
 | p::r=>by
  have ih:=Q5d k j y r;rw[Zy];by_cases h:p.1=k
  ·rw[Ze h];by_cases e:p.1=j
   ·rw[Q0y (p:=(p.1,y)) e,Q0y e,ZX,Ze (e.symm.trans h)]
   ·rw[Q0z (p:=(p.1,y)) e,Q0z e,ih]
  ·rw[Zc h];by_cases e:p.1=j
   ·rw[Q0y (p:=p) e,Q0y e,ZX,Zc (fun z=>h (e.trans z))]
   ·rw[Q0z (p:=p) e,Q0z e,ih]
theorem Q3S(k j:ND)(y:D):∀ kvs:List (ND×D),valN kvs k=none->valN (kvs++[(k,y)]) j=if j=k then some y else valN kvs j
 | [],_=>by
  by_cases e:k=j
  ·rw[Ze e.symm];exact Q0y (p:=(k,y)) e
  ·rw[Zc (fun z=>e z.symm)];exact Q0z (p:=(k,y)) e
 | p::r,hn=>by
  rw[cons_append];have hk:¬ p.1=k:=fun z=>by rw[Q0y z]at hn;cases hn
  rw[Q0z hk]at hn;have ih:=Q3S k j y r hn;by_cases e:p.1=j
  ·rw[Q0y e,Q0y e,Zc (fun z=>hk (e.trans z))]
  ·rw[Q0z e,Q0z e,ih]
theorem Q9a(kvs:List (ND×D))(k j:ND)(y:D):valN (putN kvs k y) j=if j=k then some y else valN kvs j:=by
 unfold putN;by_cases a:(kvs.any fun kv=>decide (kv.1=k))=true
 ·rw[Ze a,Q5d];rw[Q1N]at a;by_cases e:j=k
  ·obtain⟨x,hx⟩:=Yp.mp a;rw[Ze e,e,hx,ZX,Ze rfl]
  ·rw[Zc e];cases valN kvs j with
   | none=>rfl
   | some x=>rw[ZX,Zc e]
 ·rw[Zc a];refine Q3S k j y kvs ?_;rw[Q1N]at a;cases q:valN kvs k with
  | none=>rfl
  | some x=>rw[q]at a;exact (a rfl).elim
theorem Q4w(kvs:List (ND×D))(k:ND)(v:D):(putN kvs k v).length<=kvs.length+1:=by
 unfold putN;split
 ·rw[Zd];omega
 ·rw[Zi,Zj,ZU];omega
end
theorem Q7c(e:nk3 a=nk3 b):a=b:=by
 obtain⟨a1,a2,a3⟩:=a;obtain⟨b1,b2,b3⟩:=b;simp only[nk3,Prod.mk.injEq]at e;rw[Q4t e.1,Q3M e.2.1,Q3M e.2.2]
section
variable{K:Frag}{H:Hp}
theorem KNs.val(r:KNs K H kvs vs)(k:ND) :
  (valN kvs k=none/\valV vs (nk3 k)=none)\/∃ d v,valN kvs k=some d/\valV vs (nk3 k)=some v/\Den K H d v:=by
 induction r with
 | nil=>exact .inl ⟨rfl,rfl⟩
 | @cons p q ps qs h t ih =>
  by_cases e:p.1=k
  ·exact .inr ⟨p.2,q.2,Q0y e,Q0R (by rw[h.1,e]),h.2.1⟩
  ·rw[Q0z e,Q0S (by rw[h.1];exact fun z=>e (Q7c z))];exact ih
theorem KNs.put(r:KNs K H kvs vs)(k:ND)(den:Den K H d v)(kg:kGood k):KNs K H (putN kvs k d) (putK vs (nk3 k) v):=by
 have an:(kvs.any fun kv=>decide (kv.1=k))=vs.any fun kv=>decide (kv.1=nk3 k):=by
  rw[Q1N,Q1j];rcases r.val k with ⟨a,b⟩ | ⟨x,y,a,b,_⟩ <;> rw[a,b] <;> rfl
 unfold putN putK;rw[an];by_cases e:(vs.any fun kv=>decide (kv.1=nk3 k))=true
 ·rw[Ze e,Ze e];clear an e
  induction r with
  | nil=>exact .nil
  | @cons p q ps qs h t ih =>
   rw[Zy,Zy];refine .cons ?_ ih;by_cases e:p.1=k
   ·rw[Ze e,Ze (by rw[h.1,e])];exact⟨h.1,den,h.2.2⟩
   ·rw[Zc e,Zc (by rw[h.1];exact fun z=>e (Q7c z))];exact h
 ·rw[Zc e,Zc e];exact Paired.snoc r ⟨rfl,den,kg⟩
theorem KNs.length(r:KNs K H kvs vs):kvs.length=vs.length:=ZQ r
noncomputable def TbN(M:DH)(a:Addr)(kvs:List (ND×D)):Prop:=∃ ep,M a=some (.oth (.dnt ep kvs))
theorem TbN.put(h:TbN M a kvs)(n:a≠q):TbN (dupd M q o) a kvs:=h.imp fun _ e=>by rw[Q0b n];exact e
theorem SimM.dnt(h:SimM K M H)(e:TbN M a kvs):∃ vs,(∃ ep,H a=some (.dN ep vs))/\KNs K H kvs vs:=by
 obtain⟨ep,e⟩:=e;obtain⟨vs,q1,q2⟩:=h a _ e;exact⟨vs,⟨ep,q1⟩,q2⟩
theorem Q2h:∀ {n:List (List Nat)} {vs:List V},Dens K H (n.map .str) vs->∀ w∈n,(w.all fun c=>decide (c<1114112))=true
 | [],_,_=>fun _ z=>nomatch z
 | x::r,_,h=>by
  cases h with
  | cons h1 h2 =>
   cases h1 with
   | str _ hx =>
    intro w hw;rcases Z3.mp hw with rfl | hw
    ·exact hx
    ·exact Q2h h2 w hw
theorem Q5e(h:Den K H (kd3 k) v):kGood k:=by
 unfold kd3 at h;cases h with
 | tup q r =>
  cases r with
  | cons r1 r =>
   cases r with
   | cons r2 r3 =>
    cases r2 with
    | str _ hx =>
     cases r1 with
     | tup _ r4 =>
      intro w hw;rcases Z3.mp hw with rfl | hw
      ·exact hx
      ·rcases ZO.mp hw with hw | hw
       ·exact Q2h r4 w hw
       ·exact Q2h r3 w hw
theorem Q2V(h:Den K H (kd3 k) v):∃ b,v=.ref b/\K3At H (nk3 k) b:=by
 unfold kd3 at h;cases h with
 | tup q r =>
  cases r with
  | cons r1 r =>
   cases r with
   | cons r2 r3 =>
    cases r2;obtain⟨n,rfl,e⟩:=Q0G r1;refine⟨_,rfl,n,?_,e⟩;rw[Q2g r3]at q;exact q
end
section
variable{X:Cx}{o k value:Expr}{pos pos':Pos}{td tk tv:DTE}
noncomputable def zbi(tk tv:DTE):DTE:=fun ρ M Q=>∀ q,M q=none->tk ρ (dupd M q (.oth (.dnt 0 []))) fun x M1=>tv ρ M1 fun y M2=>∃ n:ND,x=kd3 n/\TbN M2 q []/\∀ ep,Q (.ref q) (dupd M2 q (.oth (.dnt ep [(n,y)])))
theorem Q9b(hu:X.A.units+2<cLine)(hk:DE X k tk)(hv:DE X value tv):DE X (.Dict [some k] [value] pos) (zbi tk tv) :=
 (Q8z hu hk hv).imp fun σ H Q ⟨ρ,M,R,s,m,h,k⟩ q hq=>⟨ρ,_,_,s.ext (Ext.new hq),m.put (u:=.oth (.dnt 0 [])) (Ext.new hq) ⟨[],Q0e,.nil⟩,h q (m.free hq),fun x M1 xv H1 h1 x1 m1 dx=>⟨ρ,M1,_,(s.ext (Ext.new hq)).ext x1,m1,h1,fun y M2 yv H2 ⟨n,e1,e2,h2⟩ x2 m2 dy=>by
  subst e1;have kg:=Q5e dx;obtain⟨b,rfl,eb⟩:=Q2V (dx.ext x2);obtain⟨vs,⟨ep,g1⟩,g2⟩:=m2.dnt e2;cases g2;have xx:∀ ep',Ext H2 (upd H2 q (.dN ep' [(nk3 n,yv)])):=fun _=>Ext.mut g1 (fun _ z=>nomatch z) (fun _ _ z=>nomatch z)
  exact⟨nk3 n,b,rfl,eb,⟨ep,g1⟩,fun ep'=>k _ _ _ _ (h2 ep') ((((Ext.new hq).trans x1).trans x2).trans (xx ep')) (m2.put (xx ep') ⟨_,Q0e,.cons ⟨rfl,dy.ext (xx ep'),kg⟩ .nil⟩) (.ref q)⟩⟩⟩
noncomputable def rInN(f:Bool->Bool):DR2:=fun x y M Q=>∃ (n:ND) (a:Addr) (kvs:List (ND×D)),x=kd3 n/\y=.ref a/\TbN M a kvs/\Q (.bl (f (valN kvs n).isSome)) M
theorem Q7d{K:Frag}{H:Hp}{kvs:List (ND×D)}{vs:List (NK.Key3 Key×V)}(r:KNs K H kvs vs)(n:ND):(valV vs (nk3 n)).isSome=(valN kvs n).isSome:=by
 rcases r.val n with ⟨q1,q2⟩ | ⟨d,v,q1,q2,_⟩ <;> rw[q1,q2] <;> rfl
theorem QcR(hu:X.A.units+2<cLine):OpD X (compareOp .In) (rInN id):=by
 rintro pins s σ H x y v u Q I rx ry ⟨dx,dy,M,R,ex,ey,m,⟨n,a,kvs,e1,e2,e3,q⟩,k⟩;subst e1 e2;obtain⟨b,rfl,eb⟩:=Q2V ex;cases ey;obtain⟨vs,⟨ep,g1⟩,g2⟩:=m.dnt e3;cases ry;cases rx;refine n_in hu I g1 eb fun s' I'=>⟨.bl (valV vs (nk3 n)).isSome,H,I',rfl,?_⟩;rw[Q7d g2];exact k _ M _ H q (Ext.refl H) m (.bl _)
noncomputable def dNPut(td tk tv:DTE):DTS:=fun DD ρ M=>tv ρ M fun v M1=>td ρ M1 fun x M2=>tk ρ M2 fun y M3=>∃ (a:Addr) (n:ND) (kvs:List (ND×D)),x=.ref a/\y=kd3 n/\TbN M3 a kvs/\kvs.length<sizeLine/\∀ ep',DD.nx ρ (dupd M3 a (.oth (.dnt ep' (putN kvs n v))))
theorem Qb6(hu:X.A.units+2<cLine)(hd:DE X o td)(hk:DE X k tk)(hv:DE X value tv)(hs:swapsWith value (some (.Subscript o k pos')) pos.line X.env=pure false):DS X (.Assign [.Subscript o k pos'] value pos) (dNPut td tk tv) :=
 (Qat hu hd hk hv hs).imp fun D σ H ⟨ρ,M,DD,s,m,h,k⟩=>⟨ρ,M,_,s,m,h,fun v M1 vv H1 h1 x1 m1 dv=>⟨ρ,M1,_,s.ext x1,m1,h1,fun x M2 xv H2 h2 x2 m2 dx=>⟨ρ,M2,_,(s.ext x1).ext x2,m2,h2,fun y M3 yv H3 ⟨a,n,kvs,e1,e2,e3,e4,h3⟩ x3 m3 dy=>by
  subst e1 e2;cases dx;have kg:=Q5e dy;obtain⟨b,rfl,eb⟩:=Q2V dy;obtain⟨vs,⟨ep,g1⟩,g2⟩:=m3.dnt e3;have y:∀ ep',Ext H3 (upd H3 a (.dN ep' (putK vs (nk3 n) vv))):=fun _=>Ext.mut g1 (fun _ z=>nomatch z) (fun _ _ z=>nomatch z)
  have xx:=(x1.trans x2).trans x3;exact⟨a,b,vs,nk3 n,rfl,rfl,⟨ep,g1⟩,eb,by rw[<- g2.length];exact e4,fun ep'=>k.nx ρ _ σ _ (h3 ep') (xx.trans (y ep')) ((s.ext xx).ext (y ep')) (m3.put (y ep') ⟨_,Q0e,Paired.mapP (g2.put n ((dv.ext x2).ext x3) kg) fun p q z=>⟨z.1,Den.ext (y ep') z.2.1,z.2.2⟩⟩)⟩⟩⟩⟩
end
section
variable{K:Frag}{H:Hp}
end
section
variable{X:Cx}{tg e f o k:Expr}{te td tk:DTE}{p pos kpos apos cpos:Pos}
theorem Dens.dropLast{K:Frag}{H:Hp}:∀ {ds:List D} {vs:List V},Dens K H ds vs->Dens K H ds.dropLast vs.dropLast
 | [],_,h=>by cases h;exact .nil
 | [_],_,h=>by cases h with | cons _ t=>cases t;exact .nil
 | _::_::_,_,h=>by cases h with | cons h1 t=>cases t with | cons h2 t2=>exact .cons h1 (Dens.dropLast (.cons h2 t2))
noncomputable def mPop:D->List D->DH->DK->Prop:=fun d ds M Q=>∃ (a:Addr) (xs:List D) (y:D),d=.ref a/\ds=[]/\M a=some (.lst xs)/\xs[xs.length-1]? = some y/\Q y (dupd M a (.lst xs.dropLast))
theorem Q9S:MtD X "list.pop" mPop:=by
 rintro pins s σ H x xs v us Q I rx rv ⟨d,ds,M,R,e,dn,m,⟨a,ys,y,h1,h2,qa,hy,q⟩,k⟩;subst h1 h2;cases e;cases dn;obtain⟨vs,e2,d⟩:=m.get qa;obtain⟨w,hw,den⟩:=d.get hy;exact Qc5 pins s σ H _ _ v us Q I rx rv ⟨a,vs,w,rfl,rfl,e2,by rw[<- d.length];exact hw,k _ _ _ _ q (Ext.lst e2) (m.write e2 d.dropLast) (den.ext (Ext.lst e2))⟩
end
end DL
namespace IR
open PySem PySem.Spec L2 DL
open PyProof.Rows hiding St
inductive Lit where
 | non | bl (b:Bool) | int (i:Int) | str (x:List Nat)
noncomputable def Lit.d:Lit->D
 | .non=>.non | .bl b=>.bl b | .int i=>.int i | .str x=>.str x
noncomputable def Lit.ck:Lit->Const->Bool
 | .non,.none=>true
 | .bl b,.bool c=>b==c
 | .int i,.int j=>i==j
 | .str x,.str y=>x==y.cps.toList&&(x.all fun c=>decide (c<1114112))
 | _,_=>false
inductive Bn where
 | add | sub | mul | fdiv | mod | addL
 deriving DecidableEq
noncomputable def Bn.op:Bn->Operator
 | .add=>.Add
 | .sub=>.Sub
 | .mul=>.Mult
 | .fdiv=>.FloorDiv
 | .mod=>.Mod
 | .addL=>.Add
noncomputable def Bn.r:Bn->DR2
 | .add=>rAddD
 | .sub=>rI2 (fun _ _=>True) (fun i j=>i-j)
 | .mul=>rI2 CMul (fun i j=>i * j)
 | .fdiv=>rI2 CDiv (fun i j=>i / j)
 | .mod=>rI2 (fun _ j=>0<j) (fun i j=>i % j)
 | .addL=>rAddL
theorem Bn.ok:∀ b:Bn,OpD X (binaryOp b.op) b.r
 | .add=>Qcw
 | .sub=>Qct
 | .mul=>Qcu
 | .fdiv=>QaH
 | .mod=>Qcv
 | .addL=>QaX
inductive Cp where
 | eq | ne | lt | le | isN | notN | inn | inD | ninD | ninT | eqR | inO | inN | inF
 deriving DecidableEq
noncomputable def Cp.op:Cp->CmpOp
 | .eq=>.Eq
 | .ne=>.NotEq
 | .lt=>.Lt
 | .le=>.LtE
 | .isN=>.Is
 | .notN=>.IsNot
 | .inn=>.In
 | .inD=>.In
 | .ninD=>.NotIn
 | .ninT=>.NotIn
 | .eqR=>.Eq
 | .inO=>.In
 | .inN=>.In
 | .inF=>.In
noncomputable def Cp.r:Cp->DR2
 | .eq=>rEqN id
 | .ne=>rEqN not
 | .lt=>rLtD (fun i j=>decide (i<j))
 | .le=>rLtD (fun i j=>decide (i<=j))
 | .isN=>rIsN id
 | .notN=>rIsN not
 | .inn=>rIn1 id
 | .inD=>rInD id
 | .ninD=>rInD not
 | .ninT=>rInT not
 | .eqR=>rEqR
 | .inO=>rInO
 | .inN=>rInN id
 | .inF=>rInF
theorem l64(h:n+100<cLine):n+64<cLine:=ZC (Yg (by decide) _) h
theorem Cp.ok(hu':X.A.units+100<cLine):∀ b:Cp,OpD X (compareOp b.op) b.r
 | .eq=>od_eq (l64 hu')
 | .ne=>od_ne (l64 hu')
 | .lt=>od_lt
 | .le=>od_le
 | .isN=>Qcz
 | .notN=>QaN
 | .inn=>od_in (l64 hu')
 | .inD=>Q9Q (ZC (Yg (by decide) _) (l64 hu'))
 | .ninD=>QaV (ZC (Yg (by decide) _) (l64 hu'))
 | .ninT=>Qb0 (ZC (Yg (by decide) _) (l64 hu'))
 | .eqR=>QcL (l64 hu')
 | .inO=>QcN (ZC (Yg (by decide) _) hu')
 | .inN=>QcR (ZC (Yg (by decide) _) hu')
 | .inF=>QcP (ZC (Yg (by decide) _) (l64 hu'))
inductive Bl where
 | len | tuple | list | str | int | sorted | min1 | dict | sortP
 deriving DecidableEq
noncomputable def Bl.nm:Bl->Str
 | .len=>"len"
 | .tuple=>"tuple"
 | .list=>"list"
 | .str=>"str"
 | .int=>"int"
 | .sorted=>"sorted"
 | .min1=>"min"
 | .dict=>"dict"
 | .sortP=>"sorted"
noncomputable def Bl.r:Bl->List D->DH->DK->Prop
 | .len=>rLen
 | .tuple=>zby
 | .list=>rList
 | .str=>rStr
 | .int=>rInt
 | .sorted=>zbo
 | .min1=>rMin1
 | .dict=>zbP
 | .sortP=>zbN
inductive Ml where
 | append | pop | extend
 deriving DecidableEq
noncomputable def Ml.nm:Ml->Str
 | .append=>"append"
 | .pop=>"pop"
 | .extend=>"extend"
noncomputable def Ml.r:Ml->D->List D->DH->DK->Prop
 | .append=>zaJ
 | .pop=>mPop
 | .extend=>zbp
set_option genSizeOf false in
set_option genInjectivity false in
inductive CE where
 | var (i:Nat)
 | con (l:Lit)
 | glob (i:Nat)
 | bin (op:Bn) (a b:CE)
 | cmp (op:Cp) (a b:CE)
 | chain (o p:Cp) (a b c:CE)
 | and (a b:CE) | or (a b:CE) | not (a:CE) | neg (a:CE)
 | ite (c a b:CE)
 | ix (a b:CE)
 | sl (a lo hi:CE)
 | tup (as:CE) | lst (as:CE) | lstz (as:CE) | frz (e:CE)
 | call (f:Nat) (as:CE)
 | blt (b:Bl) (as:CE)
 | isi (T:Ty) (e:CE)
 | ml (m:Ml) (o as:CE)
 | fld (c f:Str) (e:CE)
 | meth (f:Nat) (o as:CE)
 | make (f:Nat) (as:CE)
 | dnew
 | disp1 (k v:CE)
 | dix (d k:CE)
 | dget2 (d k e:CE)
 | dget1 (d k:CE)
 | dsetd (d k e:CE)
 | knew
 | dispN (k v:CE)
 | kix (d k:CE)
 | thw (e:CE)
 | items (a:CE)
 | kget2 (d k e:CE)
 | comp (two:Bool) (ix:List Nat) (it c e:CE)
 | compz (two:Bool) (ix:List Nat) (it c e:CE)
 | rng1 (a:CE) | dkeys (a:CE)
 | nil | cons (a as:CE)
noncomputable def CE.len:CE->Nat
 | .cons _ as=>as.len+1
 | _=>0
structure FI where
 nm:Str
 np:Nat
 dds:List D
 sp:DSp
structure KI where
 nm:Str
 ks:List Str
 g:List D->List D->List D
 sp:DSp
structure FX where
 nm:Str
 np:Nat
 dds:List D
 sp:DSpX
structure MI where
 cl:Str
 nm:Str
 np:Nat
 sp:DSp
structure TabC where
 fn:Nat->Option FI
 kfn:Nat->Option KI
 con:Nat->Option (Str×D)
 bl:List Str
 fx:Nat->Option FX:=fun _=>none
 cl:CN:=fun _=>none
 isx:Nat->Str->Option Bool:=fun _ _=>none
 lk:List Str:=[]
 mt:Nat->Option MI:=fun _=>none
 ini:Nat->Option MI:=fun _=>none
 fd:List (Str×Str):=[]
 rw:Nat->Bool:=fun _=>false
structure Tab extends TabC where
 xd:DX:=fun _ _=>False
structure Evs where
 e:DTE
 t:DTT
 a:DTA
 i:DTI
 o:DTO
noncomputable def botE:DTE:=fun _ _ _=>False
noncomputable def botT:DTT:=fun _ _ _=>False
noncomputable def botA:DTA:=fun _ _ _=>False
noncomputable def botI:DTI:=fun _ _ _=>False
noncomputable def botO:DTO:=fun _ _ _=>False
noncomputable def mkE(t:DTE):Evs:=⟨t,dB t,botA,diAny t,zbU t⟩
noncomputable def zbc:Bool->D->Option (List D)
 | false=>fun d=>some [d]
 | true=>zbx
noncomputable def ev(T:Tab):CE->Evs
 | .var i=>mkE (dVar i)
 | .con l=>mkE (dC l.d)
 | .glob i=>mkE (match T.con i with | some p=>dC p.2 | none=>botE)
 | .bin op a b=>mkE (dOp op.r (ev T a).e (ev T b).e)
 | .cmp op a b=>mkE (dOp op.r (ev T a).e (ev T b).e)
 | .chain o p a b c=>mkE (zaT o.r p.r (ev T a).e (ev T b).e (ev T c).e)
 | .and a b=>{ mkE (zbt (ev T a).e (ev T b).e) with t:=dAnd (ev T a).t (ev T b).t }
 | .or a b=>{ mkE (dOrV (ev T a).e (ev T b).e) with t:=dOr (ev T a).t (ev T b).t }
 | .not a=>{ mkE (dNotV (ev T a).e) with t:=dNot (ev T a).t }
 | .neg a=>mkE (dNeg (ev T a).e)
 | .ite c a b=>{ mkE (dIf (ev T c).t (ev T a).e (ev T b).e) with t:=botT }
 | .ix a b=>mkE (dOp rIxD (ev T a).e (ev T b).e)
 | .sl a lo hi=>mkE (dSl (ev T a).e (ev T lo).o (ev T hi).o)
 | .tup as=>mkE (dTup (ev T as).a)
 | .lst as=>mkE (dLst (ev T as).a)
 | .lstz as=>mkE (zbY (ev T as).a)
 | .frz e=>{ mkE (dFrz (ev T e).e) with t:=botT }
 | .call f as=>mkE (match T.fn f with | some fi=>zc0 fi.sp (fi.dds.drop (fi.dds.length-(fi.np-as.len))) (ev T as).a | none=>botE)
 | .blt b as=>mkE (dCB b.r (ev T as).a)
 | .isi y e=>mkE (dIsI y (ev T e).e)
 | .ml m o as=>mkE (dML m.r (ev T o).e (ev T as).a)
 | .fld c f e=>mkE (dFld c f (ev T e).e)
 | .meth f o as=>mkE (match T.mt f with | some mi=>zbr mi.cl mi.nm mi.sp (ev T o).e (ev T as).a | none=>botE)
 | .make f as=>mkE (match T.ini f with | some mi=>zbX mi.cl mi.sp (ev T as).a | none=>botE)
 | .dnew=>mkE zbZ
 | .disp1 k v=>mkE (zbj (ev T k).e (ev T v).e)
 | .dix d k=>mkE (dOp rDIx (ev T d).e (ev T k).e)
 | .dget2 d k e=>mkE (zbl (ev T d).e (ev T k).e (ev T e).e)
 | .dget1 d k=>mkE (zbm (ev T d).e (ev T k).e)
 | .dsetd d k e=>mkE (zbk (ev T d).e (ev T k).e (ev T e).e)
 | .knew=>mkE zbV
 | .dispN k v=>mkE (zbi (ev T k).e (ev T v).e)
 | .kix d k=>mkE (dOp rTIx (ev T d).e (ev T k).e)
 | .thw e=>{ mkE (dThw (ev T e).e) with t:=botT }
 | .items a=>{ mkE (zbB (ev T a).e) with t:=botT }
 | .kget2 d k e=>mkE (zbg (ev T d).e (ev T k).e (ev T e).e)
 | .comp two ix it c e=>mkE (zbs (ev T it).i ix (zbc two) (ev T c).t (ev T e).e)
 | .compz two ix it c e=>mkE (zb4 (ev T it).i ix (zbc two) (ev T c).t (ev T e).e)
 | .rng1 a=>⟨botE,botT,botA,zbf (zaX (ev T a).e dNil),botO⟩
 | .dkeys a=>⟨botE,botT,botA,zb9 (ev T a).e,botO⟩
 | .nil=>⟨botE,zaS,dNil,botI,zbA⟩
 | .cons a as=>⟨botE,botT,zaX (ev T a).e (ev T as).a,botI,botO⟩
theorem ev_var(T:Tab){i}:ev T (.var i)=(mkE (dVar i)):=rfl
theorem ev_con(T:Tab){l}:ev T (.con l)=(mkE (dC l.d)):=rfl
theorem ev_glob(T:Tab){i}:ev T (.glob i)=(mkE (match T.con i with | some p=>dC p.2 | none=>botE)):=rfl
theorem ev_bin(T:Tab){op}{a}{b}:ev T (.bin op a b)=(mkE (dOp op.r (ev T a).e (ev T b).e)):=rfl
theorem ev_cmp(T:Tab){op}{a}{b}:ev T (.cmp op a b)=(mkE (dOp op.r (ev T a).e (ev T b).e)):=rfl
theorem ev_chain(T:Tab){o}{p}{a}{b}{c}:ev T (.chain o p a b c)=(mkE (zaT o.r p.r (ev T a).e (ev T b).e (ev T c).e)):=rfl
theorem ev_and(T:Tab){a}{b}:ev T (.and a b)=({ mkE (zbt (ev T a).e (ev T b).e) with t:=dAnd (ev T a).t (ev T b).t }):=rfl
theorem ev_or(T:Tab){a}{b}:ev T (.or a b)=({ mkE (dOrV (ev T a).e (ev T b).e) with t:=dOr (ev T a).t (ev T b).t }):=rfl
theorem ev_not(T:Tab){a}:ev T (.not a)=({ mkE (dNotV (ev T a).e) with t:=dNot (ev T a).t }):=rfl
theorem ev_neg(T:Tab){a}:ev T (.neg a)=(mkE (dNeg (ev T a).e)):=rfl
theorem ev_ite(T:Tab){c}{a}{b}:ev T (.ite c a b)=({ mkE (dIf (ev T c).t (ev T a).e (ev T b).e) with t:=botT }):=rfl
theorem ev_ix(T:Tab){a}{b}:ev T (.ix a b)=(mkE (dOp rIxD (ev T a).e (ev T b).e)):=rfl
theorem ev_sl(T:Tab){a}{lo}{hi}:ev T (.sl a lo hi)=(mkE (dSl (ev T a).e (ev T lo).o (ev T hi).o)):=rfl
theorem ev_tup(T:Tab){as}:ev T (.tup as)=(mkE (dTup (ev T as).a)):=rfl
theorem ev_lst(T:Tab){as}:ev T (.lst as)=(mkE (dLst (ev T as).a)):=rfl
theorem ev_lstz(T:Tab){as}:ev T (.lstz as)=(mkE (zbY (ev T as).a)):=rfl
theorem ev_frz(T:Tab){e}:ev T (.frz e)=({ mkE (dFrz (ev T e).e) with t:=botT }):=rfl
theorem ev_call(T:Tab){f}{as}:ev T (.call f as)=(mkE (match T.fn f with | some fi=>zc0 fi.sp (fi.dds.drop (fi.dds.length-(fi.np-as.len))) (ev T as).a | none=>botE)):=rfl
theorem ev_blt(T:Tab){b}{as}:ev T (.blt b as)=(mkE (dCB b.r (ev T as).a)):=rfl
theorem ev_isi(T:Tab){y}{e}:ev T (.isi y e)=(mkE (dIsI y (ev T e).e)):=rfl
theorem ev_ml(T:Tab){m}{o}{as}:ev T (.ml m o as)=(mkE (dML m.r (ev T o).e (ev T as).a)):=rfl
theorem ev_fld(T:Tab){c}{f}{e}:ev T (.fld c f e)=(mkE (dFld c f (ev T e).e)):=rfl
theorem ev_meth(T:Tab){f}{o}{as}:ev T (.meth f o as)=(mkE (match T.mt f with | some mi=>zbr mi.cl mi.nm mi.sp (ev T o).e (ev T as).a | none=>botE)):=rfl
theorem ev_make(T:Tab){f}{as}:ev T (.make f as)=(mkE (match T.ini f with | some mi=>zbX mi.cl mi.sp (ev T as).a | none=>botE)):=rfl
theorem ev_dnew(T:Tab):ev T (.dnew)=(mkE zbZ):=rfl
theorem ev_disp1(T:Tab){k}{v}:ev T (.disp1 k v)=(mkE (zbj (ev T k).e (ev T v).e)):=rfl
theorem ev_dix(T:Tab){d}{k}:ev T (.dix d k)=(mkE (dOp rDIx (ev T d).e (ev T k).e)):=rfl
theorem ev_dget2(T:Tab){d}{k}{e}:ev T (.dget2 d k e)=(mkE (zbl (ev T d).e (ev T k).e (ev T e).e)):=rfl
theorem ev_dget1(T:Tab){d}{k}:ev T (.dget1 d k)=(mkE (zbm (ev T d).e (ev T k).e)):=rfl
theorem ev_dsetd(T:Tab){d}{k}{e}:ev T (.dsetd d k e)=(mkE (zbk (ev T d).e (ev T k).e (ev T e).e)):=rfl
theorem ev_knew(T:Tab):ev T (.knew)=(mkE zbV):=rfl
theorem ev_dispN(T:Tab){k}{v}:ev T (.dispN k v)=(mkE (zbi (ev T k).e (ev T v).e)):=rfl
theorem ev_kix(T:Tab){d}{k}:ev T (.kix d k)=(mkE (dOp rTIx (ev T d).e (ev T k).e)):=rfl
theorem ev_thw(T:Tab){e}:ev T (.thw e)=({ mkE (dThw (ev T e).e) with t:=botT }):=rfl
theorem ev_items(T:Tab){a}:ev T (.items a)=({ mkE (zbB (ev T a).e) with t:=botT }):=rfl
theorem ev_kget2(T:Tab){d}{k}{e}:ev T (.kget2 d k e)=(mkE (zbg (ev T d).e (ev T k).e (ev T e).e)):=rfl
theorem ev_comp(T:Tab){two}{ix}{it}{c}{e}:ev T (.comp two ix it c e)=(mkE (zbs (ev T it).i ix (zbc two) (ev T c).t (ev T e).e)):=rfl
theorem ev_compz(T:Tab){two}{ix}{it}{c}{e}:ev T (.compz two ix it c e)=(mkE (zb4 (ev T it).i ix (zbc two) (ev T c).t (ev T e).e)):=rfl
theorem ev_rng1(T:Tab){a}:ev T (.rng1 a)=(⟨botE,botT,botA,zbf (zaX (ev T a).e dNil),botO⟩):=rfl
theorem ev_dkeys(T:Tab){a}:ev T (.dkeys a)=(⟨botE,botT,botA,zb9 (ev T a).e,botO⟩):=rfl
theorem ev_nil(T:Tab):ev T (.nil)=(⟨botE,zaS,dNil,botI,zbA⟩):=rfl
theorem ev_cons(T:Tab){a}{as}:ev T (.cons a as)=(⟨botE,botT,zaX (ev T a).e (ev T as).a,botI,botO⟩):=rfl
structure GI where
 N:List Str
 names:List (Str×NameKind)
noncomputable def GI.kd(g:GI)(x:Str):Option NameKind:=g.names.lookup x
noncomputable def za6:Expr->Bool
 | .Starred _ _=>false
 | _=>true
noncomputable def zaZ:Expr->Bool
 | .Set _ _ _=>false
 | _=>true
noncomputable def zaC:Expr->Bool
 | .Slice _ _ _ _=>false
 | _=>true
noncomputable def zar:Expr->Bool
 | .Call (.Name _ _) [] [] _=>false
 | _=>true
noncomputable def zb0(g:GI)(x:Str):Bool:=g.kd x==some .globalImplicit && !(x==("__debug__" : Str)) && !(x==("__name__" : Str))
noncomputable def isVis(g:GI)(x:Str):Bool:=(g.kd x==some .local||g.kd x==some .cell||g.kd x==some .free) && !(x==("__debug__" : Str)) && !(x==("__classdict__" : Str))
noncomputable def zbq(T:TabC)(g:GI)(x:Str):Bool:=zb0 g x&&T.bl.contains x
noncomputable def zbG:(x:Expr)->Option { p:Str×Pos×Expr×List Expr×Pos // x=.Call (.Name p.1 p.2.1) (p.2.2.1::p.2.2.2.1) [] p.2.2.2.2 }
 | .Call (.Name f fp) (z::zs) [] p=>some ⟨(f,fp,z,zs,p),rfl⟩
 | _=>none
noncomputable def vNm:(x:Expr)->Option { p:Str×Pos // x=.Name p.1 p.2 }
 | .Name y p=>some ⟨(y,p),rfl⟩
 | _=>none
noncomputable def vCst:(x:Expr)->Option { p:Const×Nat×Pos // x=.Constant p.1 p.2.1 p.2.2 }
 | .Constant k n p=>some ⟨(k,n,p),rfl⟩
 | _=>none
noncomputable def vTup:(x:Expr)->Option { p:List Expr×Nat×Pos // x=.Tuple p.1 p.2.1 p.2.2 }
 | .Tuple es n p=>some ⟨(es,n,p),rfl⟩
 | _=>none
noncomputable def zbC:(x:Expr)->Option { p:Expr×Str×Pos×List Expr×Pos // x=.Call (.Attribute p.1 p.2.1 p.2.2.1) p.2.2.2.1 [] p.2.2.2.2 }
 | .Call (.Attribute z n ap) es [] cp=>some ⟨(z,n,ap,es,cp),rfl⟩
 | _=>none
noncomputable def vBin:(x:Expr)->Option { p:Expr×Operator×Expr×Pos // x=.BinOp p.1 p.2.1 p.2.2.1 p.2.2.2 }
 | .BinOp l o r p=>some ⟨(l,o,r,p),rfl⟩
 | _=>none
noncomputable def vCmp:(x:Expr)->Option { p:Expr×CmpOp×Expr×Pos // x=.Compare p.1 [p.2.1] [p.2.2.1] p.2.2.2 }
 | .Compare l [o] [r] p=>some ⟨(l,o,r,p),rfl⟩
 | _=>none
noncomputable def vIfE:(x:Expr)->Option { p:Expr×Expr×Expr×Pos // x=.IfExp p.1 p.2.1 p.2.2.1 p.2.2.2 }
 | .IfExp l o r p=>some ⟨(l,o,r,p),rfl⟩
 | _=>none
noncomputable def vSub:(x:Expr)->Option { p:Expr×Expr×Pos // x=.Subscript p.1 p.2.1 p.2.2 }
 | .Subscript y z p=>some ⟨(y,z,p),rfl⟩
 | _=>none
noncomputable def vSl:(x:Expr)->Option { p:Option Expr×Option Expr×Pos // x=.Slice p.1 p.2.1 none p.2.2 }
 | .Slice l u none p=>some ⟨(l,u,p),rfl⟩
 | _=>none
noncomputable def vNot:(x:Expr)->Option { p:UnaryOp×Expr×Pos // x=.UnaryOp p.1 p.2.1 p.2.2 }
 | .UnaryOp o y p=>some ⟨(o,y,p),rfl⟩
 | _=>none
noncomputable def vLst:(x:Expr)->Option { p:List Expr×Pos // x=.List p.1 p.2 }
 | .List es p=>some ⟨(es,p),rfl⟩
 | _=>none
noncomputable def vAtt:(x:Expr)->Option { p:Expr×Str×Pos // x=.Attribute p.1 p.2.1 p.2.2 }
 | .Attribute z n p=>some ⟨(z,n,p),rfl⟩
 | _=>none
noncomputable def vLc:(x:Expr)->Option { p:Expr×Expr×Expr×List Expr×Scope×Pos // x=.ListComp p.1 [⟨p.2.1,p.2.2.1,p.2.2.2.1,0⟩] p.2.2.2.2.1 p.2.2.2.2.2 }
 | .ListComp elt [⟨tg,iter,ifs,0⟩] scope p=>some ⟨(elt,tg,iter,ifs,scope,p),rfl⟩
 | _=>none
noncomputable def vBo:(x:Expr)->Option { p:PySem.BoolOp×List Expr×Pos // x=.BoolOp p.1 p.2.1 p.2.2 }
 | .BoolOp o vs p=>some ⟨(o,vs,p),rfl⟩
 | _=>none
noncomputable def vD0:(x:Expr)->Option { p:Pos // x=.Dict [] [] p }
 | .Dict [] [] p=>some ⟨p,rfl⟩
 | _=>none
noncomputable def vD1:(x:Expr)->Option { p:Expr×Expr×Pos // x=.Dict [some p.1] [p.2.1] p.2.2 }
 | .Dict [some y] [z] p=>some ⟨(y,z,p),rfl⟩
 | _=>none
noncomputable def v1{α:Type}:(xs:List α)->Option { p:α // xs=[p] }
 | [z]=>some ⟨z,rfl⟩
 | _=>none
noncomputable def v2{α:Type}:(xs:List α)->Option { p:α×α // xs=[p.1,p.2] }
 | [z,z']=>some ⟨(z,z'),rfl⟩
 | _=>none
noncomputable def onV{α:Type}{P:α->Prop}(o:Option { p:α // P p })(f:α->Bool):Bool:=match o with
 | some p=>f p.1
 | none=>false
theorem Q0h{α:Type}{P:α->Prop}{o:Option { p:α // P p }}{f:α->Bool}(h:onV o f=true):∃ p,P p/\f p=true:=by
 cases o with
 | none=>cases h
 | some p=>exact⟨p.1,p.2,h⟩
structure Chk where
 e:GI->Expr->Bool
 b:PySem.BoolOp->GI->List Expr->Bool
 a:GI->List Expr->Bool
 i:GI->Expr->Bool
 o:GI->Option Expr->Bool
 c:GI->List Expr->Bool
noncomputable def mkC(f:GI->Expr->Bool):Chk :=
 ⟨f,fun _ g vs=>match vs with | [x]=>f g x | _=>false,fun _ _=>false,f,fun g o=>match o with | some x=>f g x | none=>false,fun g vs=>match vs with | [x]=>f g x | _=>false⟩
noncomputable def zb5(op:PySem.BoolOp)(ca cb:Chk):GI->List Expr->Bool:=fun g vs=>match vs with
 | x::y::r=>ca.e g x&&cb.b op g (y::r)
 | _=>false
noncomputable def zc1(op:PySem.BoolOp)(ca cb:Chk):GI->Expr->Bool:=fun g x=>onV (vBo x) fun c=>c.1==op&&zb5 op ca cb g c.2.1
noncomputable def zbF(op:PySem.BoolOp)(ca cb:Chk):PySem.BoolOp->GI->List Expr->Bool:=fun o g vs=>if o=op then zb5 op ca cb g vs else match vs with
 | [x]=>zc1 op ca cb g x
 | _=>false
noncomputable def zbH:Bool->Expr->Option (List Str)
 | false,e=>(vNm e).bind fun p=>some [p.1.1]
 | true,e=>(vTup e).bind fun t=>(v2 t.1.1).bind fun p=>(vNm p.1.1).bind fun a=>(vNm p.1.2).bind fun b=>some [a.1.1,b.1.1]
noncomputable def zba(g:GI)(scope:Scope)(N:List Str)(k:Nat)(fn:List Str):Bool :=
 scope.kind==.function&&scope.names.all (fun y=>!(y.2==.cell))&&scope.names.all (fun y=>!(y.2==.local)||scope.names.lookup y.1==some .local)
  && scope.names.all (fun y=>!(y.2==.free)||(g.kd y.1==some .cell||g.kd y.1==some .free))&&decide N.Nodup&&decide (N.drop k=fn)&&decide (N.length=k+fn.length)
  && fn.all (fun y=>(g.kd y==some .cell||g.kd y==some .free)&&scope.names.lookup y==some .free)
noncomputable def zc2(two:Bool)(ix:List Nat)(ci cc ce:Chk):GI->Expr->Bool:=fun g x=>onV (vLc x) fun c=>match zbH two c.2.1 with
 | some ts=>let fn:=ix.filterMap fun i=>g.N[i]?
  zba g c.2.2.2.2.1 (ts++fn) ts.length fn&&decide (ix.map (fun i=>g.N[i]?)=fn.map some)&&ts.all (fun y=>c.2.2.2.2.1.names.lookup y==some .local)&&zaZ c.2.2.1&&ci.i g c.2.2.1&&cc.c ⟨ts++fn,c.2.2.2.2.1.names⟩ c.2.2.2.1&&ce.e ⟨ts++fn,c.2.2.2.2.1.names⟩ c.1
 | none=>false
noncomputable def ckR1(T:TabC)(nm:Str)(f:GI->Expr->Bool)(g:GI)(x:Expr):Bool:=onV (zbG x) fun c=>c.2.2.2.1.isEmpty&&zbq T g c.1&&c.1==nm&&za6 c.2.2.1&&f g c.2.2.1
noncomputable def chkC(T:TabC):CE->Chk
 | .var i=>mkC fun g x=>onV (vNm x) fun c=>g.N[i]? == some c.1&&isVis g c.1
 | .con l=>mkC fun _ x=>onV (vCst x) fun c=>l.ck c.1
 | .glob i=>mkC fun g x=>onV (vNm x) fun c=>zb0 g c.1&&(match T.con i with | some p=>p.1==c.1 | none=>false)
 | .bin op a b=>mkC fun g x=>onV (vBin x) fun c=>c.2.1==op.op&&(chkC T a).e g c.1&&(chkC T b).e g c.2.2.1
 | .cmp op a b=>mkC fun g x=>onV (vCmp x) fun c=>c.2.1==op.op&&zaZ c.2.2.1&&(chkC T a).e g c.1&&(chkC T b).e g c.2.2.1
 | .chain o p a b c=>mkC fun g x=>match x with
  | .Compare l [q,q'] [r,r'] _=>q==o.op&&q'==p.op&&zaZ r'&&(chkC T a).e g l&&(chkC T b).e g r&&(chkC T c).e g r'
  | _=>false
 | .and a b=>{ mkC (zc1 .And (chkC T a) (chkC T b)) with b:=zbF .And (chkC T a) (chkC T b) }
 | .or a b=>{ mkC (zc1 .Or (chkC T a) (chkC T b)) with b:=zbF .Or (chkC T a) (chkC T b) }
 | .not a=>mkC fun g x=>onV (vNot x) fun c=>c.1==.Not&&(chkC T a).e g c.2.1
 | .neg a=>mkC fun g x=>onV (vNot x) fun c=>c.1==.USub&&(chkC T a).e g c.2.1
 | .ite c a b=>mkC fun g x=>onV (vIfE x) fun t=>(chkC T c).e g t.1&&(chkC T a).e g t.2.1&&(chkC T b).e g t.2.2.1
 | .ix a b=>mkC fun g x=>onV (vSub x) fun c=>zaC c.2.1&&(chkC T a).e g c.1&&(chkC T b).e g c.2.1
 | .sl a lo hi=>mkC fun g x=>onV (vSub x) fun c=>onV (vSl c.2.1) fun s=>(chkC T a).e g c.1&&(chkC T lo).o g s.1&&(chkC T hi).o g s.2.1
 | .tup as=>mkC fun g x=>onV (vTup x) fun c=>(chkC T as).a g c.1
 | .lst as=>mkC fun g x=>onV (vLst x) fun c=>(chkC T as).a g c.1
 | .lstz as=>mkC fun g x=>onV (vLst x) fun c=>(chkC T as).a g c.1
 | .frz e=>mkC fun g x=>(chkC T e).e g x
 | .call f as=>mkC fun g x=>onV (zbG x) fun c=>match T.fn f with
  | some fi=>zb0 g c.1&&c.1==fi.nm&&decide (as.len<=fi.np)&&decide (fi.np-as.len<=fi.dds.length)&&(chkC T as).a g (c.2.2.1::c.2.2.2.1)
  | none=>false
 | .blt b as=>mkC fun g x=>onV (zbG x) fun c=>zbq T g c.1&&c.1==b.nm&&(chkC T as).a g (c.2.2.1::c.2.2.2.1)
 | .isi ty e=>mkC fun g x=>onV (zbG x) fun c=>onV (v1 c.2.2.2.1) fun d=>onV (vNm d) fun m=>zbq T g c.1&&c.1==("isinstance" : Str)&&zbq T g m.1&&(m.1==(Str.ofString ty.nm)) && !(ty==.non)&&za6 c.2.2.1&&(chkC T e).e g c.2.2.1
 | .ml m o as=>mkC fun g x=>onV (zbC x) fun c=>c.2.1==m.nm&&(c.2.2.1.endLine==c.2.2.2.2.line)&&zar c.1&&(chkC T o).e g c.1&&(chkC T as).a g c.2.2.2.1&&decide (c.2.2.2.1.length<30)
 | .fld c f e=>mkC fun g x=>onV (vAtt x) fun a=>a.2.1==f&&T.fd.contains (c,f)&&zar a.1&&(chkC T e).e g a.1
 | .meth f o as=>mkC fun g x=>onV (zbC x) fun c=>match T.mt f with
  | some mi=>c.2.1==mi.nm&&(c.2.2.1.endLine==c.2.2.2.2.line)&&zar c.1&&(chkC T o).e g c.1&&(chkC T as).a g c.2.2.2.1&&decide (c.2.2.2.1.length<30)
  | none=>false
 | .make f as=>mkC fun g x=>onV (zbG x) fun c=>match T.ini f with
  | some mi=>zb0 g c.1&&c.1==mi.cl&&(chkC T as).a g (c.2.2.1::c.2.2.2.1)
  | none=>false
 | .dnew=>mkC fun _ x=>onV (vD0 x) fun _=>true
 | .disp1 k v=>mkC fun g x=>onV (vD1 x) fun c=>(chkC T k).e g c.1&&(chkC T v).e g c.2.1
 | .dix a b=>mkC fun g x=>onV (vSub x) fun c=>zaC c.2.1&&(chkC T a).e g c.1&&(chkC T b).e g c.2.1
 | .dget2 d k e=>mkC fun g x=>onV (zbC x) fun c=>onV (v2 c.2.2.2.1) fun a=>c.2.1==("get" : Str)&&(c.2.2.1.endLine==c.2.2.2.2.line)&&zar c.1&&za6 a.1&&za6 a.2&&(chkC T d).e g c.1&&(chkC T k).e g a.1&&(chkC T e).e g a.2
 | .dsetd d k e=>mkC fun g x=>onV (zbC x) fun c=>onV (v2 c.2.2.2.1) fun a=>c.2.1==("setdefault" : Str)&&(c.2.2.1.endLine==c.2.2.2.2.line)&&zar c.1&&za6 a.1&&za6 a.2&&(chkC T d).e g c.1&&(chkC T k).e g a.1&&(chkC T e).e g a.2
 | .dget1 d k=>mkC fun g x=>onV (zbC x) fun c=>onV (v1 c.2.2.2.1) fun a=>c.2.1==("get" : Str)&&(c.2.2.1.endLine==c.2.2.2.2.line)&&zar c.1&&za6 a&&(chkC T d).e g c.1&&(chkC T k).e g a
 | .knew=>mkC fun _ x=>onV (vD0 x) fun _=>true
 | .dispN k v=>mkC fun g x=>onV (vD1 x) fun c=>(chkC T k).e g c.1&&(chkC T v).e g c.2.1
 | .kix a b=>mkC fun g x=>onV (vSub x) fun c=>zaC c.2.1&&(chkC T a).e g c.1&&(chkC T b).e g c.2.1
 | .thw e=>mkC fun g x=>(chkC T e).e g x
 | .items a=>mkC fun g x=>match x with
  | .Call (.Name y _) [.Call (.Attribute o n ap) [] [] cp] [] _=>zbq T g y&&y==("list" : Str)&&n==("items" : Str)&&(ap.endLine==cp.line)&&zar o&&(chkC T a).e g o
  | _=>false
 | .kget2 d k e=>mkC fun g x=>onV (zbC x) fun c=>onV (v2 c.2.2.2.1) fun a=>c.2.1==("get" : Str)&&(c.2.2.1.endLine==c.2.2.2.2.line)&&zar c.1&&za6 a.1&&za6 a.2&&(chkC T d).e g c.1&&(chkC T k).e g a.1&&(chkC T e).e g a.2
 | .comp two ix it c e=>mkC (zc2 two ix (chkC T it) (chkC T c) (chkC T e))
 | .compz two ix it c e=>mkC (zc2 two ix (chkC T it) (chkC T c) (chkC T e))
 | .rng1 a=>{ (mkC fun _ _=>false) with
   i:=ckR1 T "range" (chkC T a).e }
 | .dkeys a=>{ (mkC fun _ _=>false) with
   i:=fun g x=>(chkC T a).e g x }
 | .nil=>⟨fun _ _=>false,fun _ _ _=>false,fun _ es=>es.isEmpty,fun _ _=>false,fun _ o=>o.isNone,fun _ es=>es.isEmpty⟩
 | .cons a as=>⟨fun _ _=>false,fun _ _ _=>false,fun g es=>match es with | x::r=>za6 x&&(chkC T a).e g x&&(chkC T as).a g r | []=>false,fun _ _=>false,fun _ _=>false,fun _ _=>false⟩
noncomputable abbrev chk(T:Tab)(c:CE):Chk:=chkC T.toTabC c
structure FRel(X:Cx)(fi:FI):Prop where
 ex:∃ (k:Nat) (f:Addr) (fd:FuncData) (ps:List Str),FnOk X.prog X.w X.K X.mg X.base CX0 k f fd ps (lSp X.K fi.sp)/\Room k X.A/\X.mg fi.nm=some (.ref f)/\keepIn X.K (.ref f)=true/\ps.length=fi.np /\
  ∀ j,j<=fi.dds.length->∃ (ds:List Value) (dvs:List V),Binds X.K fd ps ds/\Vals dvs ds/\∀ H,Dens X.K H (fi.dds.drop j) dvs
structure KRel(X:Cx)(ki:KI):Prop where
 ex:∃ (k:Nat) (f:Addr) (fd:FuncData) (ps:List Str) (gv:List Value->List Value->List Value) (gV:List V->List V->List V),FnOk X.prog X.w X.K X.mg X.base CX0 k f fd ps (lSp X.K ki.sp)/\Room k X.A/\X.mg ki.nm=some (.ref f)/\keepIn X.K (.ref f)=true /\
  zc6 X.K fd ps ki.ks gv gV/\∀ H ds vs zs ws,Dens X.K H ds vs->Dens X.K H zs ws->Dens X.K H (ki.g ds zs) (gV vs ws)
structure XFRel(X:Cx)(cn:CN)(fi:FX):Prop where
 ex:∃ (k:Nat) (f:Addr) (fd:FuncData) (ps:List Str),FnOk X.prog X.w X.K X.mg X.base (CX1 X.prog X.w) k f fd ps (lSpX X.K X.mg cn fi.sp)/\Room k X.A/\X.mg fi.nm=some (.ref f)/\keepIn X.K (.ref f)=true/\ps.length=fi.np /\
  ∀ j,j<=fi.dds.length->∃ (ds:List Value) (dvs:List V),Binds X.K fd ps ds/\Vals dvs ds/\∀ H,Dens X.K H (fi.dds.drop j) dvs
noncomputable def IsxOk(K:Frag)(mg:Str->Option Value)(cl:CN)(c:Nat)(nm:Str)(b:Bool):Prop:=True
structure MRel(X:Cx)(mi:MI):Prop where
 ex:∃ (k:Nat) (C f:Addr) (fd:FuncData) (ps:List Str),nsIn X.K mainGlobals mi.cl=some (some (.ref C))/\Cls X.K C/\Meth X.K C mi.nm f/\FnOk X.prog X.w X.K X.mg X.base CX0 k f fd ps (lSp X.K mi.sp)/\Room (k+1) X.A/\Binds X.K fd ps []
structure MkRel(X:Cx)(mi:MI):Prop where
 ex:∃ (k:Nat) (C f:Addr) (fd:FuncData) (ps:List Str),nsIn X.K mainGlobals mi.cl=some (some (.ref C))/\X.mg mi.cl=some (.ref C)/\Mk X.K C f/\FnOk X.prog X.w X.K X.mg X.base CX0 k f fd ps (lSp X.K mi.sp)/\Room (k+1) X.A/\Binds X.K fd ps []
noncomputable def FdOk(K:Frag)(c f:Str):Prop:=∃ C,nsIn K mainGlobals c=some (some (.ref C))/\Cls K C/\NoAttr K C f
noncomputable def ClsOk(K:Frag)(mg:Str->Option Value)(T:TabC)(c:Nat)(x:Str)(C:Addr):Prop:=True
structure Rel(X:Cx)(T:Tab)(g:GI):Prop where
 N:X.N=g.N
 nd:g.N.Nodup
 calm:X.calm=true
 gl:∀ x,g.kd x=some .globalImplicit->X.env.scope.names.lookup x=some .globalImplicit
 lc:∀ x,g.kd x=some .local->X.env.scope.names.lookup x=some .local
 cf:∀ x,(g.kd x=some .cell\/g.kd x=some .free)->(X.env.scope.names.lookup x=some .cell\/X.env.scope.names.lookup x=some .free)
 fns:∀ f fi,T.fn f=some fi->FRel X fi
 kfs:∀ f ki,T.kfn f=some ki->KRel X ki
 fxs:∀ f fi,T.fx f=some fi->XFRel X T.cl fi
 cls:∀ c x,T.cl c=some x->∃ C,X.mg x=some (.ref C)/\ClsOk X.K X.mg T.toTabC c x C
 tk:zaj X fun cls _ H=>lX X.K X.mg T.cl T.xd cls H
 tp:Top X
 con:∀ i p,T.con i=some p->∃ u v,X.mg p.1=some u/\L2.RelV v u/\∀ H,Den X.K H p.2 v
 nob:∀ x∈T.bl,X.mg x=none
 isx:∀ c nm b,T.isx c nm=some b->IsxOk X.K X.mg T.cl c nm b
 lks:∀ x∈T.lk,∃ C,X.mg x=some (.ref C)/\XLook X.K C
 mts:∀ f mi,T.mt f=some mi->MRel X mi
 mks:∀ f mi,T.ini f=some mi->MkRel X mi
 fds:∀ p∈T.fd,FdOk X.K p.1 p.2
 un:X.A.units+100<cLine
 dpt:X.A.depth+5<recursionLimit
section
variable{X:Cx}{T:Tab}{g:GI}{e:Expr}{es:List Expr}{env:Env}
theorem Q0g(h:za6 e=true):starEach (e::es) env=(false,eval e env)::starEach es env:=by
 cases e <;> first | rfl | cases h
theorem Q0k:∀ {es:List Expr},es.all za6=true->(backTo pos (starEach es env)).any (·.1)=false
 | [],_=>rfl
 | e::r,h=>by
  rw[Ye,Zh]at h;rw[Q0g h.1];have ih:=Q0k (pos:=pos) h.2;unfold backTo at ih ⊢;simp only[Zy,any_cons,ih,Bool.false_or]
theorem Q5f:∀ {es:List Expr},es.all za6=true->(backTo pos (starEach es env)).all (fun x=>!x.1)=true
 | [],_=>rfl
 | e::r,h=>by
  rw[Ye,Zh]at h;rw[Q0g h.1];have ih:=Q5f (pos:=pos) h.2;unfold backTo at ih ⊢;simp only[Zy,Ye,ih,Bool.not_false,Bool.true_and]
theorem Q0r(h:zar e=true):attributeBase e n env (eval e env)=eval e env:=by
 unfold attributeBase;split
 ·rename_i q;cases q;cases h
 ·rfl
theorem Q1A(h:zaZ e=true):behindInMarks op e=false:=by
 cases e <;> first | rfl | cases h
theorem Q2W(h:zaZ e=true)(x:Value):foldedSetIterable e env x=pure x:=by
 cases e <;> first | rfl | cases h
theorem Q4x(h:zaC e=true):zbv e:=by
 intro o i;cases e <;> first | rfl | cases h
theorem Rel.glob(R:Rel X T g)(h:zb0 g x=true):Gl X x/\(x==("__debug__" : Str))=false/\x ≠ "__name__":=by
 unfold zb0 at h;simp only[Zh,Z0,not_eq_true']at h;refine⟨R.gl x h.1.1,h.1.2,fun e=>?_⟩;have q:=h.2;rw[e]at q;simp at q
theorem Rel.blt(R:Rel X T g)(h:zbq T.toTabC g x=true):Gl X x/\(x==("__debug__" : Str))=false/\x ≠ "__name__" /\ X.mg x=none:=by
 unfold zbq at h;rw[Zh]at h;obtain⟨a,b,c⟩:=R.glob h.1;exact⟨a,b,c,R.nob x (by simpa using h.2)⟩
theorem Rel.vis(R:Rel X T g)(h:isVis g x=true):Vis X.env.scope x/\(x==("__debug__" : Str))=false/\(x==("__classdict__" : Str))=false:=by
 unfold isVis at h;simp only[Zh,or_eq_true,Z0,not_eq_true']at h;refine⟨?_,h.1.2,h.2⟩;rcases h.1.1 with (h | h) | h
 ·exact .inl (R.lc x h)
 ·rcases R.cf x (.inl h) with q | q
  ·exact .inr (.inl q)
  ·exact .inr (.inr q)
 ·rcases R.cf x (.inr h) with q | q
  ·exact .inr (.inl q)
  ·exact .inr (.inr q)
theorem Q0A{env:Env}{k:NameKind}(hk:k≠.free):∀ {names:List (Str×NameKind)} {x:Str},names.lookup x=some k ->
  (names.map fun(n,k)=>if (k==NameKind.free&&env.scope.kind==.function&&env.kindOf n==some .cell) then (n,NameKind.cell) else (n,k)).lookup x=some k
 | [],_,h=>by simp at h
 | (n,j)::r,x,h=>by
  have ih:=@Q0A env k hk r x;rw[Zy];dsimp only;rw[ZS]at h;by_cases hx:x=n
  ·subst hx;simp only[beq_self_eq_true]at h;cases h;have hc:¬ (k==NameKind.free&&env.scope.kind==.function&&env.kindOf x==some .cell)=true:=by
    intro q;simp only[Zh,Z0]at q;exact hk q.1.1
   rw[Zc hc];simp[ZS]
  ·have hne:(x==n)=false:=by simpa using hx
   rw[hne]at h;have ih':=ih h;by_cases hc:(j==NameKind.free&&env.scope.kind==.function&&env.kindOf n==some .cell)=true
   ·rw[Ze hc];simp only[ZS,hne];exact ih'
   ·rw[Zc hc];simp only[ZS,hne];exact ih'
theorem Q3T(R:Rel X T g)(h:zba g scope N k fn=true):zaw X.env.scope scope N k fn:=by
 unfold zba at h;simp only[Zh,Z0,ZM,not_eq_true',or_eq_true,Zg,Yk,ne_eq]at h;obtain⟨⟨⟨⟨⟨⟨⟨h1,h2⟩,h3⟩,h4⟩,h5⟩,h6⟩,h7⟩,h8⟩:=h;refine⟨h1,fun y hy=>h2 y hy,fun y hy e=>?_,fun y hy e=>?_,h5,h6,h7,fun y hy=>?_⟩
 ·rcases h3 y hy with q | q
  ·exact absurd e q
  ·exact q
 ·rcases h4 y hy with q | q
  ·exact absurd e q
  ·exact R.cf y.1 q
 ·exact⟨R.cf y (h8 y hy).1,(h8 y hy).2⟩
theorem Rel.comp(R:Rel X T g){scope:Scope}{N fn:List Str}{k:Nat}(h:zba g scope N k fn=true)(cl:List (Str×Addr))(C:Addr)(s₀:Shared)(H₀:Hp)(ex:List Addr)(E:Value->Shared->Prop)(hE:zaj (za0 X scope N cl C s₀ H₀ ex E) fun cls _ H=>lX X.K X.mg T.cl T.xd cls H):Rel (za0 X scope N cl C s₀ H₀ ex E) T ⟨N,scope.names⟩ where
 N:=rfl
 nd:=(Q3T R h).nd
 calm:=R.calm
 gl:=fun x e=>Q0A (k:=.globalImplicit) (by decide) e
 lc:=fun x e=>Q0A (k:=.local) (by decide) e
 cf:=fun x e=>by
  rcases e with e | e
  ·exact .inl (Q0A (k:=.cell) (by decide) e)
  ·exact Q1a e
 fns:=fun f fi e=>⟨(R.fns f fi e).ex⟩
 kfs:=fun f ki e=>⟨(R.kfs f ki e).ex⟩
 fxs:=fun f fi e=>⟨(R.fxs f fi e).ex⟩
 cls:=R.cls
 tk:=hE
 tp:=⟨R.tp.ex⟩
 con:=R.con
 nob:=R.nob
 isx:=R.isx
 lks:=R.lks
 mts:=fun f mi e=>⟨(R.mts f mi e).ex⟩
 mks:=fun f mi e=>⟨(R.mks f mi e).ex⟩
 fds:=R.fds
 un:=R.un
 dpt:=R.dpt
end
structure Snd(T:Tab)(c:CE):Prop where
 e:∀ {X:Cx} {g:GI},Rel X T g->∀ {x:Expr},(chk T c).e g x=true->DE X x (ev T c).e
 t:∀ {X:Cx} {g:GI},Rel X T g->∀ {x:Expr},(chk T c).e g x=true->DT X x (ev T c).t
 be:∀ {X:Cx} {g:GI},Rel X T g->∀ {op:PySem.BoolOp} {vs:List Expr} {pos:Pos},(chk T c).b op g vs=true->DE X (.BoolOp op vs pos) (ev T c).e
 bt:∀ {X:Cx} {g:GI},Rel X T g->∀ {op:PySem.BoolOp} {vs:List Expr} {pos:Pos},(chk T c).b op g vs=true->DW X (.BoolOp op vs pos) (ev T c).t
 a:∀ {X:Cx} {g:GI},Rel X T g->∀ {es:List Expr},(chk T c).a g es=true->DA X es (ev T c).a/\es.all za6=true/\es.length=c.len
 i:∀ {X:Cx} {g:GI},Rel X T g->∀ {x tg:Expr},(chk T c).i g x=true->DI X tg x (ev T c).i
 o:∀ {X:Cx} {g:GI},Rel X T g->∀ {x:Option Expr},(chk T c).o g x=true->DO X x (ev T c).o
 k:∀ {X:Cx} {g:GI},Rel X T g->∀ {kws:List Keyword},(chk T c).a g (kws.map (·.value))=true->DKw X kws (ev T c).a
 c:∀ {X:Cx} {g:GI},Rel X T g->∀ {xs:List Expr},(chk T c).c g xs=true->DIfs X xs (ev T c).t
section
variable{T:Tab}{c:CE}{f:GI->Expr->Bool}{t:DTE}{u:DTT}
theorem Q5g:DT X x botT:=fun _ _ _ _ _ _ ⟨_,_,_,_,_,h,_⟩=>h.elim
theorem Q7e(h:DT X x u):DW X (.BoolOp op [x] pos) u:=by
 cases op
 ·exact QaA h
 ·exact Qch h
theorem Snd.of(hc:chk T c=mkC f)(hv:ev T c={ mkE t with t:=u })(h:∀ {X:Cx} {g:GI},Rel X T g->∀ {x:Expr},f g x=true->DE X x t/\DT X x u):Snd T c where
 e:=fun R x q=>by rw[hc]at q;rw[hv];exact (h R q).1
 t:=fun R x q=>by rw[hc]at q;rw[hv];exact (h R q).2
 be:=fun{X g} R {op vs pos} q=>by
  rw[hc]at q;rw[hv]
  match vs,q with
  | [x],q=>exact Q6M (h R (show f g x=true from q)).1
 bt:=fun{X g} R {op vs pos} q=>by
  rw[hc]at q;rw[hv]
  match vs,q with
  | [x],q=>exact Q7e (h R (show f g x=true from q)).2
 a:=fun R es q=>by rw[hc]at q;cases q
 k:=fun R kws q=>by rw[hc]at q;cases q
 i:=fun{X g} R {x tg} q=>by
  rw[hc]at q;rw[hv];exact Q6T (h R (show f g x=true from q)).1
 o:=fun{X g} R {x} q=>by
  rw[hc]at q;rw[hv]
  match x,q with
  | some x,q=>exact Q4q (h R (show f g x=true from q)).1
 c:=fun{X g} R {xs} q=>by
  rw[hc]at q;rw[hv]
  match xs,q with
  | [x],q=>exact Q2R (h R (show f g x=true from q)).2
end
section
variable{T:Tab}{X:Cx}{g:GI}{x:Expr}
theorem dtv(h:DE X x t)(he:∀ whole,isTrue x X.env whole=(do let v <- whole;standAt x.pos;holding [v] (truthy v))):DE X x t/\DT X x (dB t):=⟨h,Qcf h he⟩
theorem Qb7:Snd T (.var i):=by
 refine Snd.of (u:=dB (dVar i)) rfl rfl fun{X g} R {x} q=>?_;have qv:=Q0h q;clear q;obtain⟨⟨y,p⟩,rfl,q⟩:=qv;dsimp only at q ⊢;rw[Zh,Z0]at q;obtain⟨v1,v2,v3⟩:=R.vis q.2;exact dtv (dv i (by rw[R.N];exact q.1) v1 v2 v3) fun _=>rfl
theorem Qb8:Snd T (.con l):=by
 refine Snd.of (u:=dB (dC l.d)) rfl rfl fun{X g} R {x} q=>?_;have qv:=Q0h q;clear q;obtain⟨⟨c,k,p⟩,rfl,q⟩:=qv;dsimp only at q ⊢;refine dtv ?_ fun _=>rfl;cases l with
 | non=>cases c <;> first | exact Qcc | cases q
 | bl b=>cases c <;> first | cases q | skip
         rename_i c';have q':b=c':=by simpa[Lit.ck]using q
         subst q';exact de_bl
 | int b=>cases c <;> first | cases q | skip
          rename_i c';have q':b=c':=by simpa[Lit.ck]using q
          subst q';exact Qcb
 | str b=>cases c <;> first | cases q | skip
          rename_i y;unfold Lit.ck at q;rw[Zh,Z0]at q;obtain⟨q1,q2⟩:=q;subst q1;exact Qcd q2
theorem Q9c:Snd T (.glob i):=by
 refine Snd.of (u:=dB (match T.con i with | some p=>dC p.2 | none=>botE)) rfl rfl fun{X g} R {x} q=>?_
 have qv:=Q0h q;clear q;obtain⟨⟨y,p⟩,rfl,q⟩:=qv;dsimp only at q ⊢;rw[Zh]at q;obtain⟨q1,q2⟩:=q;refine dtv ?_ fun _=>rfl;cases e:T.con i with
 | none=>rw[e]at q2;cases q2
 | some p =>
  rw[e]at q2;have q3:p.1=y:=by simpa using q2
  subst q3;obtain⟨u,v,h1,h2,h3⟩:=R.con i p e;obtain⟨g1,g2,g3⟩:=R.glob q1;exact Qaz g1 h1 h2 h3 g2
theorem Qb9(ha:Snd T a)(hb:Snd T b):Snd T (.bin op a b):=by
 refine Snd.of (u:=dB (dOp op.r (ev T a).e (ev T b).e)) rfl rfl fun{X g} R {x} q=>?_;have qv:=Q0h q;clear q;obtain⟨⟨l,o,r,p⟩,rfl,q⟩:=qv;dsimp only at q ⊢;simp only[Zh,Z0]at q;obtain⟨⟨rfl,q1⟩,q2⟩:=q;exact dtv (de_op (Bn.ok op) (ha.e R q1) (hb.e R q2)) fun _=>rfl
theorem Qba(ha:Snd T a)(hb:Snd T b):Snd T (.cmp op a b):=by
 refine Snd.of (u:=dB (dOp op.r (ev T a).e (ev T b).e)) rfl rfl fun{X g} R {x} q=>?_;have qv:=Q0h q;clear q;obtain⟨⟨l,o,r,p⟩,rfl,q⟩:=qv;dsimp only at q ⊢;simp only[Zh,Z0]at q;obtain⟨⟨⟨rfl,q0⟩,q1⟩,q2⟩:=q;exact⟨Qce (Cp.ok R.un op) (ha.e R q1) (hb.e R q2) (Q1A q0),Qcg (Cp.ok R.un op) (ha.e R q1) (hb.e R q2) (Q1A q0)⟩
theorem Q7f(ha:Snd T a)(hb:Snd T b)(hc:Snd T c):Snd T (.chain o p a b c):=by
 refine Snd.of (u:=dB (zaT o.r p.r (ev T a).e (ev T b).e (ev T c).e)) rfl rfl fun{X g} R {x} q=>?_;split at q
 ·rename_i l q1 q1' r r' pp;simp only[Zh,Z0]at q;obtain⟨⟨⟨⟨⟨rfl,rfl⟩,q0⟩,q1⟩,q2⟩,q3⟩:=q;exact⟨Q8F (Cp.ok R.un o) (Cp.ok R.un p) (ha.e R q1) (hb.e R q2) (hc.e R q3) (show behindInMarks _ _=false from Q1A q0),
   Q8G (Cp.ok R.un o) (Cp.ok R.un p) (ha.e R q1) (hb.e R q2) (hc.e R q3) (show behindInMarks _ _=false from Q1A q0)⟩
 ·cases q
theorem Q5h(ha:Snd T a)(hb:Snd T b)(R:Rel X T g)(q:zb5 .And (chk T a) (chk T b) g vs=true) :
  DE X (.BoolOp .And vs pos) (zbt (ev T a).e (ev T b).e)/\DW X (.BoolOp .And vs pos) (dAnd (ev T a).t (ev T b).t):=by
 unfold zb5 at q;split at q
 ·rw[Zh]at q;exact⟨Qck (ha.e R q.1) (hb.be R q.2),Qci (ha.t R q.1) (hb.bt R q.2)⟩
 ·cases q
theorem Q7g(ha:Snd T a)(hb:Snd T b)(R:Rel X T g)(q:zb5 .Or (chk T a) (chk T b) g vs=true) :
  DE X (.BoolOp .Or vs pos) (dOrV (ev T a).e (ev T b).e)/\DW X (.BoolOp .Or vs pos) (dOr (ev T a).t (ev T b).t):=by
 unfold zb5 at q;split at q
 ·rw[Zh]at q;exact⟨de_or (ha.e R q.1) (hb.be R q.2),dw_or (ha.t R q.1) (hb.bt R q.2)⟩
 ·cases q
theorem Qbb(ha:Snd T a)(hb:Snd T b):Snd T (.and a b):=by
 have base:∀ {X:Cx} {g:GI},Rel X T g->∀ {x:Expr},zc1 .And (chk T a) (chk T b) g x=true->DE X x (zbt (ev T a).e (ev T b).e)/\DT X x (dAnd (ev T a).t (ev T b).t):=fun{X g} R {x} q=>by
  have qv:=Q0h q;clear q;obtain⟨⟨o,vs,p⟩,rfl,q⟩:=qv;dsimp only at q ⊢;rw[Zh,Z0]at q;obtain⟨rfl,q⟩:=q;obtain⟨h1,h2⟩:=Q5h ha hb R (pos:=_) q;exact⟨h1,h2.dt⟩
 have bs:∀ {X:Cx} {g:GI},Rel X T g->∀ {op:PySem.BoolOp} {vs:List Expr} {pos:Pos},zbF .And (chk T a) (chk T b) op g vs=true->DE X (.BoolOp op vs pos) (zbt (ev T a).e (ev T b).e)/\DW X (.BoolOp op vs pos) (dAnd (ev T a).t (ev T b).t):=fun{X g} R {op vs pos} q=>by
  unfold zbF at q;split at q
  ·rename_i e;subst e;exact Q5h ha hb R q
  ·split at q
   ·obtain⟨h1,h2⟩:=base R q;exact⟨Q6M h1,Q7e h2⟩
   ·cases q
 exact {
  e:=fun R _ q=>(base R q).1
  t:=fun R _ q=>(base R q).2
  be:=fun R _ _ _ q=>(bs R q).1
  bt:=fun R _ _ _ q=>(bs R q).2
  a:=fun R _ q=>nomatch q
  k:=fun R _ q=>nomatch q
  i:=fun R _ _ q=>Q6T (base R q).1
  o:=fun{X g} R {x} q=>by match x,q with | some x,q=>exact Q4q (base R q).1
  c:=fun{X g} R {xs} q=>by match xs,q with | [x],q=>exact Q2R (base R q).2 }
theorem QcS(ha:Snd T a)(hb:Snd T b):Snd T (.or a b):=by
 have base:∀ {X:Cx} {g:GI},Rel X T g->∀ {x:Expr},zc1 .Or (chk T a) (chk T b) g x=true->DE X x (dOrV (ev T a).e (ev T b).e)/\DT X x (dOr (ev T a).t (ev T b).t):=fun{X g} R {x} q=>by
  have qv:=Q0h q;clear q;obtain⟨⟨o,vs,p⟩,rfl,q⟩:=qv;dsimp only at q ⊢;rw[Zh,Z0]at q;obtain⟨rfl,q⟩:=q;obtain⟨h1,h2⟩:=Q7g ha hb R (pos:=_) q;exact⟨h1,h2.dt⟩
 have bs:∀ {X:Cx} {g:GI},Rel X T g->∀ {op:PySem.BoolOp} {vs:List Expr} {pos:Pos},zbF .Or (chk T a) (chk T b) op g vs=true->DE X (.BoolOp op vs pos) (dOrV (ev T a).e (ev T b).e)/\DW X (.BoolOp op vs pos) (dOr (ev T a).t (ev T b).t):=fun{X g} R {op vs pos} q=>by
  unfold zbF at q;split at q
  ·rename_i e;subst e;exact Q7g ha hb R q
  ·split at q
   ·obtain⟨h1,h2⟩:=base R q;exact⟨Q6M h1,Q7e h2⟩
   ·cases q
 exact {
  e:=fun R _ q=>(base R q).1
  t:=fun R _ q=>(base R q).2
  be:=fun R _ _ _ q=>(bs R q).1
  bt:=fun R _ _ _ q=>(bs R q).2
  a:=fun R _ q=>nomatch q
  k:=fun R _ q=>nomatch q
  i:=fun R _ _ q=>Q6T (base R q).1
  o:=fun{X g} R {x} q=>by match x,q with | some x,q=>exact Q4q (base R q).1
  c:=fun{X g} R {xs} q=>by match xs,q with | [x],q=>exact Q2R (base R q).2 }
theorem Qbc(ha:Snd T a):Snd T (.not a):=by
 refine Snd.of (u:=dNot (ev T a).t) rfl rfl fun{X g} R {x} q=>?_;have qv:=Q0h q;clear q;obtain⟨⟨uo,y,p⟩,rfl,q⟩:=qv;dsimp only at q ⊢;rw[Zh]at q;obtain⟨q0,q⟩:=q;cases Z0.mp q0;exact⟨Qcl (ha.e R q),Qcj (ha.t R q)⟩
theorem Qbd(ha:Snd T a):Snd T (.neg a):=by
 refine Snd.of (u:=dB (dNeg (ev T a).e)) rfl rfl fun{X g} R {x} q=>?_;have qv:=Q0h q;clear q;obtain⟨⟨uo,y,p⟩,rfl,q⟩:=qv;dsimp only at q ⊢;rw[Zh]at q;obtain⟨q0,q⟩:=q;cases Z0.mp q0;exact dtv (QcC (ha.e R q)) fun _=>rfl
theorem Qbe(hc:Snd T c)(ha:Snd T a)(hb:Snd T b):Snd T (.ite c a b):=by
 refine Snd.of (u:=botT) rfl rfl fun{X g} R {x} q=>?_;have qv:=Q0h q;clear q;obtain⟨⟨y,z,z2,p⟩,rfl,q⟩:=qv;dsimp only at q ⊢;simp only[Zh]at q;exact⟨Q8A (hc.t R q.1.1) (ha.e R q.1.2) (hb.e R q.2),Q5g⟩
theorem QcT(ha:Snd T a)(hb:Snd T b):Snd T (.ix a b):=by
 refine Snd.of (u:=dB (dOp rIxD (ev T a).e (ev T b).e)) rfl rfl fun{X g} R {x} q=>?_;have qv:=Q0h q;clear q;obtain⟨⟨y,z,p⟩,rfl,q⟩:=qv;dsimp only at q ⊢;simp only[Zh]at q;exact dtv (de_ix (ha.e R q.1.2) (hb.e R q.2) (Q4x q.1.1)) fun _=>rfl
theorem QcU{a lo hi:CE}(ha:Snd T a)(hl:Snd T lo)(hh:Snd T hi):Snd T (.sl a lo hi):=by
 refine Snd.of (u:=dB (dSl (ev T a).e (ev T lo).o (ev T hi).o)) rfl rfl fun{X g} R {x} q=>?_;have qv:=Q0h q;clear q;obtain⟨⟨y,z,p⟩,rfl,q⟩:=qv;have qv:=Q0h q;clear q;obtain⟨⟨sl,su,sp⟩,e,q⟩:=qv;dsimp only at e q ⊢;subst e;simp only[Zh]at q;exact dtv (Q8E (ha.e R q.1.1) (hl.o R q.1.2) (hh.o R q.2)) fun _=>rfl
theorem Qbf(ha:Snd T as):Snd T (.tup as):=by
 refine Snd.of (u:=dB (dTup (ev T as).a)) rfl rfl fun{X g} R {x} q=>?_;have qv:=Q0h q;clear q;obtain⟨⟨es,k,p⟩,rfl,q⟩:=qv;dsimp only at q ⊢;exact dtv (Qcm (ha.a R q).1) fun _=>rfl
theorem Qbg(ha:Snd T as):Snd T (.lst as):=by
 refine Snd.of (u:=dB (dLst (ev T as).a)) rfl rfl fun{X g} R {x} q=>?_;have qv:=Q0h q;clear q;obtain⟨⟨es,p⟩,rfl,q⟩:=qv;dsimp only at q ⊢;exact dtv (Qcn (ha.a R q).1) fun _=>rfl
theorem Q9d(ha:Snd T as):Snd T (.lstz as):=by
 refine Snd.of (u:=dB (zbY (ev T as).a)) rfl rfl fun{X g} R {x} q=>?_;have qv:=Q0h q;clear q;obtain⟨⟨es,p⟩,rfl,q⟩:=qv;dsimp only at q ⊢;exact dtv (QaP (ha.a R q).1) fun _=>rfl
theorem Qbh(ha:Snd T a):Snd T (.frz a) :=
 Snd.of (u:=botT) rfl rfl fun{X g} R {x} q=>⟨Qco (ha.e R q),Q5g⟩
theorem Qbi(ha:Snd T a):Snd T (.thw a) :=
 Snd.of (u:=botT) rfl rfl fun{X g} R {x} q=>⟨QcQ (ha.e R q),Q5g⟩
theorem Q7h(ha:Snd T a):Snd T (.items a):=by
 refine Snd.of (u:=botT) rfl rfl fun{X g} R {x} q=>?_;split at q
 ·rename_i y p o n ap cp pos;simp only[Zh,Z0]at q;obtain⟨⟨⟨⟨⟨q1,rfl⟩,rfl⟩,q3⟩,q4⟩,q5⟩:=q;obtain⟨g1,g2,g3,g4⟩:=R.blt q1;exact⟨Q8Y R.calm g1 g4 (ha.e R q5) (Q0r q4) (Z0.mpr q3),Q5g⟩
 ·cases q
theorem Q9e(ha:Snd T as):Snd T (.call f as):=by
 refine Snd.of (u:=dB (match T.fn f with | some fi=>zc0 fi.sp (fi.dds.drop (fi.dds.length-(fi.np-as.len))) (ev T as).a | none=>botE)) rfl rfl fun{X g} R {x} q=>?_
 have qv:=Q0h q;clear q;obtain⟨⟨y,p,z,zs,pp⟩,rfl,q⟩:=qv;dsimp only at q ⊢;cases e:T.fn f with
 | none=>rw[e]at q;cases q
 | some fi =>
  rw[e]at q;simp only[Zh,Z0,Zg]at q;obtain⟨⟨⟨⟨q1,rfl⟩,q2⟩,q3⟩,q4⟩:=q;obtain⟨g1,g2,g3⟩:=R.glob q1;obtain⟨k,fa,fd,ps,F,hr,hm,hk,hl,hd⟩:=(R.fns f fi e).ex;obtain⟨ds,dvs,b1,b2,b3⟩:=hd (fi.dds.length-(fi.np-as.len)) (Nat.sub_le _ _);obtain⟨a1,a2,a3⟩:=ha.a R q4;rw[Ye,Zh]at a2;exact dtv (QaB F hr g1 hm hk b1 b2 b3 (E:=E0) pass0 a1 g2 (Q0g a2.1) (Q0k a2.2)) fun _=>rfl
theorem Qbj(ha:Snd T as):Snd T (.blt b as):=by
 refine Snd.of (u:=dB (dCB b.r (ev T as).a)) rfl rfl fun{X g} R {x} q=>?_;have qv:=Q0h q;clear q;obtain⟨⟨y,p,z,zs,pp⟩,rfl,q⟩:=qv;dsimp only at q ⊢;simp only[Zh,Z0]at q;obtain⟨⟨q1,rfl⟩,q2⟩:=q;obtain⟨g1,g2,g3,g4⟩:=R.blt q1;obtain⟨a1,a2,a3⟩:=ha.a R q2;rw[Ye,Zh]at a2;refine dtv ?_ fun _=>rfl;cases b with
 | dict=>exact Q1c (Qb3 R.calm (ZC (Yg (by decide) _) R.un)) g1 g4 (by rfl) a1 g3 g2 (Q0g a2.1) (Q0k a2.2)
 | len=>exact Q1M QcB g1 g4 (by rfl) a1 g3 g2 (Q0g a2.1) (Q0k a2.2)
 | tuple=>exact Q1c Q8H g1 g4 (by rfl) a1 g3 g2 (Q0g a2.1) (Q0k a2.2)
 | list=>exact Q1c QaO g1 g4 (by rfl) a1 g3 g2 (Q0g a2.1) (Q0k a2.2)
 | str=>exact Q1c QcF g1 g4 (by rfl) a1 g3 g2 (Q0g a2.1) (Q0k a2.2)
 | int=>exact Q1c QcG g1 g4 (by rfl) a1 g3 g2 (Q0g a2.1) (Q0k a2.2)
 | sorted=>exact Q1M Q6X g1 g4 (by rfl) a1 g3 g2 (Q0g a2.1) (Q0k a2.2)
 | sortP=>exact Q1M (Q8Z (ZC (Yg (by decide) _) R.un)) g1 g4 (by rfl) a1 g3 g2 (Q0g a2.1) (Q0k a2.2)
 | min1=>exact Q1M (QaY R.calm) g1 g4 (by rfl) a1 g3 g2 (Q0g a2.1) (Q0k a2.2)
theorem Qbk(y:Ty)(h:y≠.non):bootBuiltins (Str.ofString y.nm)=some (.type y.nm):=by
 cases y <;> first | exact absurd rfl h | rfl
theorem Qbl(ha:Snd T a):Snd T (.isi y a):=by
 refine Snd.of (u:=dB (dIsI y (ev T a).e)) rfl rfl fun{X g} R {x} q=>?_;have qv:=Q0h q;clear q;obtain⟨⟨n,p,z,zs,pos⟩,rfl,q⟩:=qv;have qv:=Q0h q;clear q;obtain⟨d,e,q⟩:=qv;dsimp only at e;subst e;have qv:=Q0h q;clear q;obtain⟨⟨n',p3⟩,rfl,q⟩:=qv;dsimp only at q ⊢;simp only[Zh,Z0,not_eq_true',Yk,ne_eq]at q;obtain⟨⟨⟨⟨⟨⟨q1,rfl⟩,q2⟩,rfl⟩,q3⟩,q4⟩,q5⟩:=q;obtain⟨g1,g2,g3,g4⟩:=R.blt q1;obtain⟨k1,k2,k3,k4⟩:=R.blt q2;exact dtv (QcA y q3 (Qbk y q3) (ha.e R q5) g1 g4 k1 k4 k3 k2 (Q0g q4) (Q0g rfl) (Q0k rfl)) fun _=>rfl
theorem Q2i(h:es.all za6=true)(hl:es.length<30):((backTo cp (starEach es env)).all (fun x=>!x.1)&&(backToKw cp (keywordEach [] env)).all (fun x=>x.1.isSome)
      && decide (es.length+([]:List Keyword).length+(if ([]:List Keyword).isEmpty then 0 else 1)<30))=true:=by
 rw[Q5f h];simp[keywordEach,backToKw,hl]
theorem Q9T(h:(chk T as).a g []=true):as=.nil:=by
 cases as <;> first | rfl | exact Bool.noConfusion (show false=true from h)
theorem QcV(ho:Snd T o)(ha:Snd T as):Snd T (.ml m o as):=by
 refine Snd.of (u:=dB (dML m.r (ev T o).e (ev T as).a)) rfl rfl fun{X g} R {x} q=>?_;have qv:=Q0h q;clear q;obtain⟨⟨z,n,ap,es,cp⟩,rfl,q⟩:=qv;dsimp only at q ⊢;simp only[Zh,Zg]at q;obtain⟨⟨⟨⟨⟨q0,q1⟩,q2⟩,q3⟩,q4⟩,q5⟩:=q;obtain rfl:n=m.nm:=by simpa using q0
 obtain⟨a1,a2,a3⟩:=ha.a R q4;refine dtv ?_ fun _=>rfl;cases es with
 | nil =>
  obtain rfl:=Q9T q4;cases m with
  | append=>exact Q6S PySem.F.slot_list_append PySem.F.type_list_append Q3H (ho.e R q3) (Q0r q2) q1
  | extend=>exact Q6S PySem.F.slot_list_extend PySem.F.type_list_extend Q3Q (ho.e R q3) (Q0r q2) q1
  | pop=>exact Q6S slot_list_pop type_list_pop Q9S (ho.e R q3) (Q0r q2) q1
 | cons e es =>
  have a2':=a2;rw[Ye,Zh]at a2';cases m with
  | append=>exact de_ml PySem.F.slot_list_append PySem.F.type_list_append Q3H (ho.e R q3) a1 (Q0r q2) (Q2i a2 q5) q1 (Q0g a2'.1) (Q0k a2'.2)
  | extend=>exact de_ml PySem.F.slot_list_extend PySem.F.type_list_extend Q3Q (ho.e R q3) a1 (Q0r q2) (Q2i a2 q5) q1 (Q0g a2'.1) (Q0k a2'.2)
  | pop=>exact de_ml slot_list_pop type_list_pop Q9S (ho.e R q3) a1 (Q0r q2) (Q2i a2 q5) q1 (Q0g a2'.1) (Q0k a2'.2)
theorem hu1(R:Rel X T g):X.A.units+1<cLine:=ZC (Yg (by decide) _) R.un
theorem Qbm(ha:Snd T a):Snd T (.fld c f a):=by
 refine Snd.of (u:=dB (dFld c f (ev T a).e)) rfl rfl fun{X g} R {x} q=>?_;have qv:=Q0h q;clear q;obtain⟨⟨z,n,p⟩,rfl,q⟩:=qv;dsimp only at q ⊢;simp only[Zh,Z0,List.contains_eq_mem,Zg]at q;obtain⟨⟨⟨rfl,q1⟩,q2⟩,q3⟩:=q;obtain⟨C,h1,h2,h3⟩:=R.fds _ q1;exact dtv (QcI h1 h2 h3 (ha.e R q3) (Q0r q2)) fun _=>rfl
theorem Q3U(hb:attributeBase o m env (eval o env)=eval o env)
  (hf:((backTo pos (starEach args env)).all (fun x=>!x.1)&&(backToKw pos (keywordEach [] env)).all (fun x=>x.1.isSome)&&decide (args.length+([]:List Keyword).length+(if ([]:List Keyword).isEmpty then 0 else 1)<30))=true)
  (hl:(apos.endLine==pos.line)=true):eval (.Call (.Attribute o m apos) args [] pos) env=(do
   let ov <- eval o env
   standAt apos.atName
   let (f,first) <- holding [ov] (getMethod ov m (do return (<- importBound o env).getD true))
   callWith pos f first (backTo pos (starEach args env)) (backToKw pos (keywordEach [] env))):=by
 have hform:methodCallForm (args.length+([]:List Keyword).length) (backTo pos (starEach args env)) (backToKw pos (keywordEach [] env))=true:=hf;have hpos:methodCallPos true o env apos pos=pure pos:=by unfold methodCallPos;simp[hl]
 rw[arm_eval_Call,hb];unfold methodCall;rw[hform];simp only[hpos];rfl
theorem Q9f(ho:Snd T o)(ha:Snd T as):Snd T (.meth f o as):=by
 refine Snd.of (u:=dB (match T.mt f with | some mi=>zbr mi.cl mi.nm mi.sp (ev T o).e (ev T as).a | none=>botE)) rfl rfl fun{X g} R {x} q=>?_
 have qv:=Q0h q;clear q;obtain⟨⟨z,n,ap,es,cp⟩,rfl,q⟩:=qv;dsimp only at q ⊢;cases e:T.mt f with
 | none=>rw[e]at q;cases q
 | some mi =>
  rw[e]at q;simp only[Zh,Z0,Zg]at q;obtain⟨⟨⟨⟨⟨rfl,q1⟩,q2⟩,q3⟩,q4⟩,q5⟩:=q;obtain⟨k,C,fa,fd,ps,h1,h2,h3,F,hr,hb⟩:=(R.mts f mi e).ex;obtain⟨a1,a2,a3⟩:=ha.a R q4;have q1:(ap.endLine==cp.line)=true:=by rw[q1];exact beq_self_eq_true _
  refine dtv ?_ fun _=>rfl;cases es with
  | nil =>
   obtain rfl:=Q9T q4;exact Q8N h1 h2 h3 F (hr.mono (Yq _)) hb (E:=E0) pass0 (ho.e R q3) (Q3U (Q0r q2) (Q2i a2 q5) q1)
  | cons y ys =>
   have a2':=a2;rw[Ye,Zh]at a2';exact QaS h1 h2 h3 F (hr.mono (Yq _)) hb (E:=E0) pass0 (ho.e R q3) a1 (Q0g a2'.1) (Q0k a2'.2) (Q3U (Q0r q2) (Q2i a2 q5) q1)
theorem Q9g(ha:Snd T as):Snd T (.make f as):=by
 refine Snd.of (u:=dB (match T.ini f with | some mi=>zbX mi.cl mi.sp (ev T as).a | none=>botE)) rfl rfl fun{X g} R {x} q=>?_
 have qv:=Q0h q;clear q;obtain⟨⟨y,p,z,zs,pp⟩,rfl,q⟩:=qv;dsimp only at q ⊢;cases e:T.ini f with
 | none=>rw[e]at q;cases q
 | some mi =>
  rw[e]at q;simp only[Zh,Z0]at q;obtain⟨⟨q1,rfl⟩,q4⟩:=q;obtain⟨g1,g2,g3⟩:=R.glob q1;obtain⟨k,C,fa,fd,ps,h1,h2,h3,F,hr,hb⟩:=(R.mks f mi e).ex;obtain⟨a1,a2,a3⟩:=ha.a R q4;rw[Ye,Zh]at a2;exact dtv (QaT h1 h3 F hr g1 h2 hb (E:=E0) pass0 a1 g2 (Q0g a2.1) (Q0k a2.2)) fun _=>rfl
theorem Q9h:Snd T .dnew:=by
 refine Snd.of (u:=dB zbZ) rfl rfl fun{X g} R {x} q=>?_;have qv:=Q0h q;clear q;obtain⟨p,rfl,q⟩:=qv
 (try dsimp only at q ⊢)
 exact dtv QaU fun _=>rfl
theorem Q9i:Snd T .knew:=by
 refine Snd.of (u:=dB zbV) rfl rfl fun{X g} R {x} q=>?_;have qv:=Q0h q;clear q;obtain⟨p,rfl,q⟩:=qv
 (try dsimp only at q ⊢)
 exact dtv QaZ fun _=>rfl
theorem Q7i(hk:Snd T k)(hv:Snd T v):Snd T (.disp1 k v):=by
 refine Snd.of (u:=dB (zbj (ev T k).e (ev T v).e)) rfl rfl fun{X g} R {x} q=>?_;have qv:=Q0h q;clear q;obtain⟨⟨y,z,p⟩,rfl,q⟩:=qv;dsimp only at q ⊢;rw[Zh]at q;exact dtv (Q8O (hu1 R) (hk.e R q.1) (hv.e R q.2)) fun _=>rfl
theorem Q5i(h:zaC z=true):NoSl z:=by
 intro o i;cases z <;> first | rfl | cases h
theorem Qbn(ha:Snd T a)(hb:Snd T b):Snd T (.dix a b):=by
 refine Snd.of (u:=dB (dOp rDIx (ev T a).e (ev T b).e)) rfl rfl fun{X g} R {x} q=>?_;have qv:=Q0h q;clear q;obtain⟨⟨y,z,p⟩,rfl,q⟩:=qv;dsimp only at q ⊢;simp only[Zh]at q;exact dtv (QcJ (hu1 R) (ha.e R q.1.2) (hb.e R q.2) (Q5i q.1.1)) fun _=>rfl
theorem hu2(R:Rel X T g):X.A.units+2<cLine:=ZC (Yg (by decide) _) R.un
theorem Q7j(hk:Snd T k)(hv:Snd T v):Snd T (.dispN k v):=by
 refine Snd.of (u:=dB (zbi (ev T k).e (ev T v).e)) rfl rfl fun{X g} R {x} q=>?_;have qv:=Q0h q;clear q;obtain⟨⟨y,z,p⟩,rfl,q⟩:=qv;dsimp only at q ⊢;rw[Zh]at q;exact dtv (Q9b (hu2 R) (hk.e R q.1) (hv.e R q.2)) fun _=>rfl
theorem m1_of(h1:zar z=true)(h2:(ap.endLine==cp.line)=true)(h3:za6 y=true):M1 X z m ap y cp :=
 ⟨Q0r h1,Q2i (by rw[Ye,h3];rfl) (by show 1<30;decide),h2,by
  have e:starEach [y] X.env=[(false,eval y X.env)]:=by rw[Q0g h3];rfl
  rw[e];rfl⟩
theorem Q7k(hd:Snd T d)(hk:Snd T k):Snd T (.dget1 d k):=by
 refine Snd.of (u:=dB (zbm (ev T d).e (ev T k).e)) rfl rfl fun{X g} R {x} q=>?_;have qv:=Q0h q;clear q;obtain⟨⟨z,n,ap,es,cp⟩,rfl,q⟩:=qv;have qv:=Q0h q;clear q;obtain⟨y,e,q⟩:=qv;dsimp only at e q ⊢;subst e;simp only[Zh]at q;obtain⟨⟨⟨⟨⟨q0,q1⟩,q2⟩,q3⟩,q4⟩,q5⟩:=q;cases Z0.mp q0;exact dtv (Q8U R.un (hd.e R q4) (hk.e R q5) (m1_of q2 q1 q3)) fun _=>rfl
theorem Qbo(ha:Snd T a)(hb:Snd T b):Snd T (.kix a b):=by
 refine Snd.of (u:=dB (dOp rTIx (ev T a).e (ev T b).e)) rfl rfl fun{X g} R {x} q=>?_;have qv:=Q0h q;clear q;obtain⟨⟨y,z,p⟩,rfl,q⟩:=qv;dsimp only at q ⊢;simp only[Zh]at q;exact dtv (QcK (hu1 R) (ha.e R q.1.2) (hb.e R q.2) (Q5i q.1.1)) fun _=>rfl
theorem m2_of(h1:zar z=true)(h2:(ap.endLine==cp.line)=true)(h3:za6 y=true)(h4:za6 y'=true):M2 X z m ap y y' cp :=
 ⟨Q0r h1,Q2i (by rw[Ye,Ye,h3,h4];rfl) (by show 2<30;decide),h2,by
  have e:starEach [y,y'] X.env=[(false,eval y X.env),(false,eval y' X.env)]:=by rw[Q0g h3,Q0g h4];rfl
  rw[e];rfl⟩
theorem Q7l(hd:Snd T d)(hk:Snd T k)(he:Snd T e):Snd T (.dget2 d k e):=by
 refine Snd.of (u:=dB (zbl (ev T d).e (ev T k).e (ev T e).e)) rfl rfl fun{X g} R {x} q=>?_;have qv:=Q0h q;clear q;obtain⟨⟨z,n,ap,es,cp⟩,rfl,q⟩:=qv;have qv:=Q0h q;clear q;obtain⟨⟨y,y'⟩,e,q⟩:=qv;dsimp only at e q ⊢;subst e;simp only[Zh]at q;obtain⟨⟨⟨⟨⟨⟨⟨q0,q1⟩,q2⟩,q3⟩,q4⟩,q5⟩,q6⟩,q7⟩:=q;cases Z0.mp q0;exact dtv (Q8P (hu1 R) (hd.e R q5) (hk.e R q6) (he.e R q7) (m2_of q2 q1 q3 q4)) fun _=>rfl
theorem Q7m(hd:Snd T d)(hk:Snd T k)(he:Snd T e):Snd T (.kget2 d k e):=by
 refine Snd.of (u:=dB (zbg (ev T d).e (ev T k).e (ev T e).e)) rfl rfl fun{X g} R {x} q=>?_;have qv:=Q0h q;clear q;obtain⟨⟨z,n,ap,es,cp⟩,rfl,q⟩:=qv;have qv:=Q0h q;clear q;obtain⟨⟨y,y'⟩,e,q⟩:=qv;dsimp only at e q ⊢;subst e;simp only[Zh]at q;obtain⟨⟨⟨⟨⟨⟨⟨q0,q1⟩,q2⟩,q3⟩,q4⟩,q5⟩,q6⟩,q7⟩:=q;cases Z0.mp q0;exact dtv (Q8S (hu1 R) (hd.e R q5) (hk.e R q6) (he.e R q7) (m2_of q2 q1 q3 q4)) fun _=>rfl
theorem Q7n(hd:Snd T d)(hk:Snd T k)(he:Snd T e):Snd T (.dsetd d k e):=by
 refine Snd.of (u:=dB (zbk (ev T d).e (ev T k).e (ev T e).e)) rfl rfl fun{X g} R {x} q=>?_;have qv:=Q0h q;clear q;obtain⟨⟨z,n,ap,es,cp⟩,rfl,q⟩:=qv;have qv:=Q0h q;clear q;obtain⟨⟨y,y'⟩,e,q⟩:=qv;dsimp only at e q ⊢;subst e;simp only[Zh]at q;obtain⟨⟨⟨⟨⟨⟨⟨q0,q1⟩,q2⟩,q3⟩,q4⟩,q5⟩,q6⟩,q7⟩:=q;cases Z0.mp q0;exact dtv (Q8Q (hu1 R) (hd.e R q5) (hk.e R q6) (he.e R q7) (m2_of q2 q1 q3 q4)) fun _=>rfl
theorem Q1k{two:Bool}{ix:List Nat}{it c e:CE}(hi:Snd T it)(hc:Snd T c)(he:Snd T e)(R:Rel X T g)(q:zc2 two ix (chk T it) (chk T c) (chk T e) g x=true) :
  ∃ elt tg iter ifs scope pos ts fn gV,x=.ListComp elt [⟨tg,iter,ifs,0⟩] scope pos/\Unp X.K ts.length (zbc two) gV/\zaw X.env.scope scope (ts++fn) ts.length fn/\ix.map (fun i=>X.N[i]?)=fn.map some/\DI X tg iter (ev T it).i /\
   (∀ cl C s₀ H₀ ex E,PG (za0 X scope (ts++fn) cl C s₀ H₀ ex E) tg gV)/\(∀ cl C s₀ H₀ ex E,zaj (za0 X scope (ts++fn) cl C s₀ H₀ ex E) (fun cls _ H=>lX X.K X.mg T.cl T.xd cls H)->DIfs (za0 X scope (ts++fn) cl C s₀ H₀ ex E) ifs (ev T c).t)/\(∀ cl C s₀ H₀ ex E,zaj (za0 X scope (ts++fn) cl C s₀ H₀ ex E) (fun cls _ H=>lX X.K X.mg T.cl T.xd cls H)->DE (za0 X scope (ts++fn) cl C s₀ H₀ ex E) elt (ev T e).e) /\
   (∀ y,foldedSetIterable iter X.env y=pure y):=by
 have qv:=Q0h q;clear q;obtain⟨⟨elt,tg,iter,ifs,scope,pos⟩,rfl,q⟩:=qv;dsimp only at q ⊢
 ·cases et:zbH two tg with
  | none=>rw[et]at q;cases q
  | some ts =>
   rw[et]at q;dsimp only at q ⊢;simp only[Zh,Zg]at q;obtain⟨⟨⟨⟨⟨⟨q1,q2⟩,q3⟩,q4⟩,q5⟩,q6⟩,q7⟩:=q;have ok:=Q3T R q1;have Rc:=fun cl C s₀ H₀ ex E hE=>R.comp q1 cl C s₀ H₀ ex E hE;have loc:∀ cl C s₀ H₀ ex E,∀ (i:Nat) (y:Str) (p:Pos),ts[i]? = some y->PG (za0 X scope (ts++ix.filterMap fun i=>g.N[i]?) cl C s₀ H₀ ex E) (.Name y p) (zaW i):=fun cl C s₀ H₀ ex E i y p hy=>by
    have hm:y∈ts:=ZG hy;have hl:scope.names.lookup y=some .local:=by simpa using (ZM.mp q3) y hm
    have hl2:(compEnvC scope cl C X.env).scope.names.lookup y=some .local:=Q0A (k:=.local) (by decide) hl
    exact Q6o ok.nd (by
     show (ts++_)[i]? = some y;rw[getElem?_append_left (Zk.mp hy).1];exact hy) (.inl hl2) (.inr hl2)
   cases two with
   | false =>
    obtain⟨⟨⟨y,p⟩,e0⟩,_,et⟩:=Z9.mp et;cases e0;cases et;exact⟨_,_,_,_,_,_,[y],_,zaW 0,rfl,unp1,ok,by rw[R.N];exact q2,hi.i R q5,fun cl C s₀ H₀ ex E=>loc cl C s₀ H₀ ex E 0 y p rfl,fun cl C s₀ H₀ ex E hE=>hc.c (Rc cl C s₀ H₀ ex E hE) q6,fun cl C s₀ H₀ ex E hE=>he.e (Rc cl C s₀ H₀ ex E hE) q7,Q2W q4⟩
   | true =>
    obtain⟨⟨⟨es,k',pp⟩,e0⟩,_,et⟩:=Z9.mp et;obtain⟨⟨⟨a,b⟩,e1⟩,_,et⟩:=Z9.mp et;obtain⟨⟨⟨y,p⟩,e2⟩,_,et⟩:=Z9.mp et;obtain⟨⟨⟨y',p'⟩,e3⟩,_,et⟩:=Z9.mp et;dsimp only at e0 e1 e2 e3;subst e2 e3;subst e1;cases e0;cases et;exact⟨_,_,_,_,_,_,[y,y'],_,gTup X.K 2 (zbT (zaW 0) (zbT (zaW 1) gNil)),rfl,unp2,ok,by rw[R.N];exact q2,hi.i R q5,
     fun cl C s₀ H₀ ex E=>QbQ R.calm (Q4K (loc cl C s₀ H₀ ex E 0 y p rfl) (Q4K (loc cl C s₀ H₀ ex E 1 y' p' rfl) Qaa)),fun cl C s₀ H₀ ex E hE=>hc.c (Rc cl C s₀ H₀ ex E hE) q6,fun cl C s₀ H₀ ex E hE=>he.e (Rc cl C s₀ H₀ ex E hE) q7,Q2W q4⟩
theorem Q9j{two:Bool}{ix:List Nat}{it c e:CE}(hi:Snd T it)(hc:Snd T c)(he:Snd T e):Snd T (.comp two ix it c e):=by
 refine Snd.of (u:=dB (zbs (ev T it).i ix (zbc two) (ev T c).t (ev T e).e)) rfl rfl fun{X g} R {x} q=>?_;obtain⟨elt,tg,iter,ifs,scope,pos,ts,fn,gV,rfl,h1,h2,h3,h4,h5,h6,h7,h8⟩:=Q1k hi hc he R q;exact dtv (QaG R.tp R.tk h1 R.calm h2 h3 h4 h5 h6 h7 h8) fun _=>rfl
theorem Q7o{two:Bool}{ix:List Nat}{it c e:CE}(hi:Snd T it)(hc:Snd T c)(he:Snd T e):Snd T (.compz two ix it c e):=by
 refine Snd.of (u:=dB (zb4 (ev T it).i ix (zbc two) (ev T c).t (ev T e).e)) rfl rfl fun{X g} R {x} q=>?_;obtain⟨elt,tg,iter,ifs,scope,pos,ts,fn,gV,rfl,h1,h2,h3,h4,h5,h6,h7,h8⟩:=Q1k hi hc he R q;exact dtv (Q8I R.tp R.tk h1 R.calm h2 h3 h4 h5 h6 h7 h8) fun _=>rfl
theorem Q9k(ha:Snd T a):Snd T (.rng1 a) where
 e:=fun _ _ q=>nomatch q
 t:=fun _ _ q=>nomatch q
 be:=fun{X g} R {op vs pos} q=>by match vs,q with | [x],q=>cases q
 bt:=fun{X g} R {op vs pos} q=>by match vs,q with | [x],q=>cases q
 a:=fun _ _ q=>nomatch q
 k:=fun _ _ q=>nomatch q
 o:=fun{X g} R {x} q=>by match x,q with | some x,q=>cases q
 c:=fun{X g} R {xs} q=>by match xs,q with | [x],q=>cases q
 i:=fun{X g} R {x tg} q=>by
  have qv:=Q0h (show (ckR1 T.toTabC "range" (chk T a).e g x)=true from q);clear q;obtain⟨⟨y,p,z,zs,pp⟩,rfl,q⟩:=qv;simp only[Zh,Z0,isEmpty_iff]at q;obtain⟨⟨⟨⟨rfl,q1⟩,rfl⟩,q2⟩,q3⟩:=q;obtain⟨g1,g2,g3,g4⟩:=R.blt q1;exact Q6O g1 g4 (Q6N (ha.e R q3) Q9L (Q0g q2)) (Q0g q2)
theorem Q7p(ha:Snd T a):Snd T (.dkeys a) where
 e:=fun _ _ q=>nomatch q
 t:=fun _ _ q=>nomatch q
 be:=fun{X g} R {op vs pos} q=>by match vs,q with | [x],q=>cases q
 bt:=fun{X g} R {op vs pos} q=>by match vs,q with | [x],q=>cases q
 a:=fun _ _ q=>nomatch q
 k:=fun _ _ q=>nomatch q
 o:=fun{X g} R {x} q=>by match x,q with | some x,q=>cases q
 c:=fun{X g} R {xs} q=>by match xs,q with | [x],q=>cases q
 i:=fun{X g} R {x tg} q=>Q8W (ha.e R q)
theorem Qbp:Snd T .nil where
 e:=fun _ _ q=>nomatch q
 t:=fun _ _ q=>nomatch q
 be:=fun _ _ _ _ q=>nomatch q
 bt:=fun _ _ _ _ q=>nomatch q
 a:=fun{X g} R {es} q=>by
  have:es=[]:=isEmpty_iff.mp q;subst this;exact⟨Q9L,rfl,rfl⟩
 k:=fun{X g} R {kws} q=>by
  match kws,q with
  | [],_=>exact QaQ
  | _::_,q=>cases q
 i:=fun _ _ _ q=>nomatch q
 o:=fun{X g} R {x} q=>by
  have:x=none:=Option.isNone_iff_eq_none.mp q;subst this;exact QaM
 c:=fun{X g} R {es} q=>by
  have:es=[]:=isEmpty_iff.mp q;subst this;exact Q8C
theorem Q9l(ha:Snd T a)(hs:Snd T as):Snd T (.cons a as) where
 e:=fun _ _ q=>nomatch q
 t:=fun _ _ q=>nomatch q
 be:=fun _ _ _ _ q=>nomatch q
 bt:=fun _ _ _ _ q=>nomatch q
 a:=fun{X g} R {es} q=>by
  match es,q with
  | x::r,q =>
   have q':(za6 x&&(chk T a).e g x&&(chk T as).a g r)=true:=q;simp only[Zh]at q';obtain⟨⟨q1,q2⟩,q3⟩:=q';obtain⟨a1,a2,a3⟩:=hs.a R q3;exact⟨Q6N (ha.e R q2) a1 (Q0g q1),by rw[Ye,q1,a2];rfl,by rw[Zj,a3];rfl⟩
 k:=fun{X g} R {kws} q=>by
  match kws,q with
  | [],q=>cases q
  | ⟨nm,x,kp⟩::r,q =>
   have q':(za6 x&&(chk T a).e g x&&(chk T as).a g (r.map (·.value)))=true:=q;simp only[Zh]at q';obtain⟨⟨q1,q2⟩,q3⟩:=q';exact Q8K (ha.e R q2) (hs.k R q3)
 i:=fun _ _ _ q=>nomatch q
 o:=fun _ _ q=>nomatch q
 c:=fun _ _ q=>nomatch q
theorem snd:∀ c:CE,Snd T c
 | .var _=>Qb7
 | .con _=>Qb8
 | .glob _=>Q9c
 | .bin _ a b=>Qb9 (snd a) (snd b)
 | .cmp _ a b=>Qba (snd a) (snd b)
 | .chain _ _ a b c=>Q7f (snd a) (snd b) (snd c)
 | .and a b=>Qbb (snd a) (snd b)
 | .or a b=>QcS (snd a) (snd b)
 | .not a=>Qbc (snd a)
 | .neg a=>Qbd (snd a)
 | .ite c a b=>Qbe (snd c) (snd a) (snd b)
 | .ix a b=>QcT (snd a) (snd b)
 | .sl a lo hi=>QcU (snd a) (snd lo) (snd hi)
 | .tup as=>Qbf (snd as)
 | .lst as=>Qbg (snd as)
 | .lstz as=>Q9d (snd as)
 | .frz e=>Qbh (snd e)
 | .call _ as=>Q9e (snd as)
 | .blt _ as=>Qbj (snd as)
 | .isi _ e=>Qbl (snd e)
 | .ml _ o as=>QcV (snd o) (snd as)
 | .fld _ _ e=>Qbm (snd e)
 | .meth _ o as=>Q9f (snd o) (snd as)
 | .make _ as=>Q9g (snd as)
 | .dnew=>Q9h
 | .disp1 k v=>Q7i (snd k) (snd v)
 | .dix d k=>Qbn (snd d) (snd k)
 | .dget2 d k e=>Q7l (snd d) (snd k) (snd e)
 | .dsetd d k e=>Q7n (snd d) (snd k) (snd e)
 | .knew=>Q9i
 | .dispN k v=>Q7j (snd k) (snd v)
 | .dget1 d k=>Q7k (snd d) (snd k)
 | .kix d k=>Qbo (snd d) (snd k)
 | .thw e=>Qbi (snd e)
 | .items a=>Q7h (snd a)
 | .kget2 d k e=>Q7m (snd d) (snd k) (snd e)
 | .comp _ _ it c e=>Q9j (snd it) (snd c) (snd e)
 | .compz _ _ it c e=>Q7o (snd it) (snd c) (snd e)
 | .rng1 a=>Q9k (snd a)
 | .dkeys a=>Q7p (snd a)
 | .nil=>Qbp
 | .cons a as=>Q9l (snd a) (snd as)
end
inductive HP where
 | isx (nm:Str) | lit (l:Lit) | row
set_option genSizeOf false in
set_option genInjectivity false in
inductive CS where
 | nil | seq (s r:CS)
 | set (i:Nat) (e:CE)
 | ret (e:CE)
 | ite (c:CE) (a b:CS)
 | for1 (i:Nat) (it:CE) (b:CS)
 | ex (e:CE)
 | whil (c:CE) (b:CS)
 | setf (c f:Str) (o v:CE)
 | dput (d k v:CE)
 | kput (d k v:CE)
 | nput (d k v:CE)
noncomputable def hP(T:Tab)(c je:Nat)(a:Addr):HP->DTE
 | .isx nm=>match T.isx c nm with
  | some b=>dIsE je a b
  | none=>botE
 | .lit l=>dC l.d
 | .row=>match rowOf c,T.rw c with
  | some n,true=>dXrow je a n
  | _,_=>botE
noncomputable def hA(T:Tab)(c je:Nat)(a:Addr):List HP->DTA
 | []=>dNil
 | p::r=>zaX (hP T c je a p) (hA T c je a r)
noncomputable def hS(T:Tab)(c je:Nat)(a:Addr)(y:Nat):List (List HP)->DTS
 | []=>zbW
 | p::r=>dSeq (dSet y (dOp rAddD (dVar y) (dTup (hA T c je a p)))) (hS T c je a y r)
noncomputable def evS(T:Tab):CS->DTS
 | .nil=>zbW
 | .seq s r=>dSeq (evS T s) (evS T r)
 | .set i e=>dSet i (ev T e).e
 | .ret e=>dRet (ev T e).e
 | .ite c a b=>dIfS (ev T c).t (evS T a) (evS T b)
 | .for1 i it b=>dFor (ev T it).i (zb3 i) (evS T b)
 | .ex e=>dDrop (ev T e).e
 | .whil c b=>zau (ev T c).t (evS T b)
 | .setf c f o v=>dSetF c f (ev T o).e (ev T v).e
 | .dput d k v=>dDPut (ev T d).e (ev T k).e (ev T v).e
 | .kput d k v=>dTPut (ev T d).e (ev T k).e (ev T v).e
 | .nput d k v=>dNPut (ev T d).e (ev T k).e (ev T v).e
theorem evS_nil(T:Tab):evS T (.nil)=(zbW):=rfl
theorem evS_seq(T:Tab){s}{r}:evS T (.seq s r)=(dSeq (evS T s) (evS T r)):=rfl
theorem evS_set(T:Tab){i}{e}:evS T (.set i e)=(dSet i (ev T e).e):=rfl
theorem evS_ret(T:Tab){e}:evS T (.ret e)=(dRet (ev T e).e):=rfl
theorem evS_ite(T:Tab){c}{a}{b}:evS T (.ite c a b)=(dIfS (ev T c).t (evS T a) (evS T b)):=rfl
theorem evS_for1(T:Tab){i}{it}{b}:evS T (.for1 i it b)=(dFor (ev T it).i (zb3 i) (evS T b)):=rfl
theorem evS_ex(T:Tab){e}:evS T (.ex e)=(dDrop (ev T e).e):=rfl
theorem evS_whil(T:Tab){c}{b}:evS T (.whil c b)=(zau (ev T c).t (evS T b)):=rfl
theorem evS_setf(T:Tab){c}{f}{o}{v}:evS T (.setf c f o v)=(dSetF c f (ev T o).e (ev T v).e):=rfl
theorem evS_dput(T:Tab){d}{k}{v}:evS T (.dput d k v)=(dDPut (ev T d).e (ev T k).e (ev T v).e):=rfl
theorem evS_kput(T:Tab){d}{k}{v}:evS T (.kput d k v)=(dTPut (ev T d).e (ev T k).e (ev T v).e):=rfl
theorem evS_nput(T:Tab){d}{k}{v}:evS T (.nput d k v)=(dNPut (ev T d).e (ev T k).e (ev T v).e):=rfl
noncomputable def zaQ:Expr->Bool
 | .ListComp .. | .SetComp .. | .DictComp ..=>false
 | _=>true
noncomputable def swapB(g:GI)(y:Str)(p:Pos):Expr->Bool
 | .ListComp _ _ s q=>g.kd y==some .local&&p.line==q.line && !(s.names.any fun(n,k)=>n==y&&(k==.local||k==.cell))
 | _=>false
noncomputable def zbS(g:GI)(i:Nat)(y:Str):Bool:=g.N[i]? == some y&&(g.kd y==some .local||g.kd y==some .cell)
structure ChkS where
 s:GI->Stmt->Bool
 b:GI->List Stmt->Bool
noncomputable def mkS(f:GI->Stmt->Bool):ChkS:=⟨f,fun _ _=>false⟩
noncomputable def isComp:CE->Bool
 | .comp .. | .compz ..=>true
 | _=>false
noncomputable def zbu(T:TabC):CS->ChkS
 | .nil=>⟨fun _ _=>false,fun _ sts=>sts.isEmpty⟩
 | .seq s r=>⟨fun _ _=>false,fun g sts=>match sts with | x::xs=>(zbu T s).s g x&&(zbu T r).b g xs | []=>false⟩
 | .set i e=>mkS fun g x=>match x with
  | .Assign [.Name y p] v _=>zbS g i y&&(chkC T e).e g v&&(zaQ v||g.kd y==some .cell||(swapB g y p v&&isComp e))
  | _=>false
 | .ret e=>mkS fun g x=>match x with
  | .Return (some v) _=>(chkC T e).e g v
  | _=>false
 | .ite c a b=>mkS fun g x=>match x with
  | .If t y z _=>(chkC T c).e g t&&(zbu T a).b g y&&(zbu T b).b g z
  | _=>false
 | .for1 i it b=>mkS fun g x=>match x with
  | .For (.Name y _) iter body [] _=>zbS g i y&&zaZ iter&&(chkC T it).i g iter&&(zbu T b).b g body
  | _=>false
 | .ex e=>mkS fun g x=>match x with
  | .Expr v _=>(chkC T e).e g v&&zaQ v
  | _=>false
 | .whil c b=>mkS fun g x=>match x with
  | .While t body [] _=>(chkC T c).e g t&&(zbu T b).b g body
  | _=>false
 | .setf c f o v=>mkS fun g x=>match x with
  | .Assign [.Attribute z n _] w _=>n==f&&T.fd.contains (c,f)&&(chkC T o).e g z&&(chkC T v).e g w&&zaQ w
  | _=>false
 | .dput d k v=>mkS fun g x=>match x with
  | .Assign [.Subscript y z _] w _=>(chkC T d).e g y&&(chkC T k).e g z&&(chkC T v).e g w&&zaQ w
  | _=>false
 | .nput d k v=>mkS fun g x=>match x with
  | .Assign [.Subscript y z _] w _=>(chkC T d).e g y&&(chkC T k).e g z&&(chkC T v).e g w
  | _=>false
 | .kput d k v=>mkS fun g x=>match x with
  | .Assign [.Subscript y z _] w _=>(chkC T d).e g y&&(chkC T k).e g z&&(chkC T v).e g w
  | _=>false
noncomputable abbrev chkS(T:Tab)(c:CS):ChkS:=zbu T.toTabC c
structure RelS(X:Cx)(T:Tab)(g:GI):Prop extends Rel X T g where
 kind:X.env.scope.kind=.function
 pass:PassesOwn (model X.prog X.w) X.A X.env X.xe
 own:∀ x,g.kd x=some .cell->X.env.scope.names.lookup x=some .cell
 fn:∀ x,X.fn x=true
section
variable{X:Cx}{T:Tab}{g:GI}
theorem Q1B(h:zaQ v=true):swapsWith v t l env=pure false:=by
 cases v <;> first | rfl | cases h
theorem Q7q(h:env.scope.names.lookup y=some .cell):swapsWith v (some (.Name y p)) l env=pure false:=by
 have hk:(env.kindOf y==some .local)=false:=by rw[show env.kindOf y=some .cell from h];rfl
 cases v with
 | ListComp el gens sc pp =>
  show (pure (env.blockKind==.function&&env.kindOf y==some .local&&p.line==pp.line && !(sc.names.any fun(n,k)=>n==y&&(k==.local||k==.cell))):Sem Bool)=pure false;rw[hk,Bool.and_false,Bool.false_and,Bool.false_and]
 | SetComp el gens sc pp =>
  show (pure (env.blockKind==.function&&env.kindOf y==some .local&&p.line==pp.line && !(sc.names.any fun(n,k)=>n==y&&(k==.local||k==.cell))):Sem Bool)=pure false;rw[hk,Bool.and_false,Bool.false_and,Bool.false_and]
 | DictComp k el gens sc pp =>
  show (pure (env.blockKind==.function&&env.kindOf y==some .local&&p.line==pp.line && !(sc.names.any fun(n,k)=>n==y&&(k==.local||k==.cell))):Sem Bool)=pure false;rw[hk,Bool.and_false,Bool.false_and,Bool.false_and]
 | _=>rfl
theorem RelS.loc(R:RelS X T g)(h:zbS g i y=true):X.N.Nodup/\X.N[i]? = some y/\Loc X.env.scope y/\(X.fn y=true\/X.env.scope.names.lookup y=some .local):=by
 unfold zbS at h;simp only[Zh,or_eq_true,Z0]at h;refine⟨by rw[R.N];exact R.nd,by rw[R.N];exact h.1,?_,.inl (R.fn y)⟩
 rcases h.2 with q | q
 ·exact .inl (R.lc y q)
 ·exact .inr (R.own y q)
theorem RelS.tg(R:RelS X T g)(h:zbS g i y=true):DL.DG X (.Name y p) (zb3 i):=by
 obtain⟨a,b,c,d⟩:=R.loc h;exact QaE a b c d
structure SndS(T:Tab)(c:CS):Prop where
 s:∀ {X:Cx} {g:GI},RelS X T g->∀ {x:Stmt},(chkS T c).s g x=true->DL.DS X x (evS T c)
 b:∀ {X:Cx} {g:GI},RelS X T g->∀ {xs:List Stmt},(chkS T c).b g xs=true->DSs X xs (evS T c)
theorem SndS.of{f:GI->Stmt->Bool}(hc:chkS T c=mkS f)(h:∀ {X:Cx} {g:GI},RelS X T g->∀ {x:Stmt},f g x=true->DL.DS X x (evS T c)):SndS T c where
 s:=fun R x q=>by rw[hc]at q;exact h R q
 b:=fun R x q=>by rw[hc]at q;cases q
theorem Q9m:SndS T (.set i e):=by
 refine SndS.of rfl fun{X g} R {x} q=>?_;split at q
 ·rename_i y p v sp;simp only[Zh,or_eq_true]at q;obtain⟨⟨q1,q2⟩,q3⟩:=q;obtain⟨l1,l2,l3,l4⟩:=R.loc q1;rcases q3 with (q3 | q3) | ⟨q3,q4⟩
  ·exact Q9N l1 l2 l3 ((snd e).e R.toRel q2) (Q1B q3) l4
  ·exact Q9N l1 l2 l3 ((snd e).e R.toRel q2) (Q7q (R.own y (Z0.mp q3))) l4
  ·unfold swapB at q3;split at q3
   ·rename_i el gens sc pp;simp only[Zh,Z0,not_eq_true']at q3;obtain⟨⟨r1,r2⟩,r3⟩:=q3;have hl:=R.lc y r1;have hb:X.env.blockKind=.function:=by unfold Env.blockKind;rw[R.kind];rfl
    have hsw:swapsWith (.ListComp el gens sc pp) (some (.Name y p)) sp.line X.env=pure true:=by
     show (pure (X.env.blockKind==.function&&X.env.kindOf y==some .local&&p.line==pp.line && !(sc.names.any fun(n,k)=>n==y&&(k==.local||k==.cell))):Sem Bool)=pure true;have hk:X.env.kindOf y=some .local:=hl;rw[hb,hk,r2,r3];simp
    unfold isComp at q4;split at q4
    ·rename_i two ix it c el';obtain⟨elt,tg,iter,ifs,scope,pos,ts,fn,gV,e0,h1,h2,h3,h4,h5,h6,h7,h8⟩:=Q1k (snd it) (snd c) (snd el') R.toRel q2;cases e0;exact Q5U R.tp R.tk hsw l1 l2 hl h1 R.calm h2 h3 h4 h5 h6 h7 h8
    ·rename_i two ix it c el';obtain⟨elt,tg,iter,ifs,scope,pos,ts,fn,gV,e0,h1,h2,h3,h4,h5,h6,h7,h8⟩:=Q1k (snd it) (snd c) (snd el') R.toRel q2;cases e0;exact Q4r R.tp R.tk hsw l1 l2 hl h1 R.calm h2 h3 h4 h5 h6 h7 h8
    ·cases q4
   ·cases q3
 ·cases q
theorem Q9n:SndS T (.ret e):=by
 refine SndS.of rfl fun{X g} R {x} q=>?_;split at q
 ·exact Qcp ((snd e).e R.toRel q)
 ·cases q
theorem Q9o(ha:SndS T a)(hb:SndS T b):SndS T (.ite c a b):=by
 refine SndS.of rfl fun{X g} R {x} q=>?_;split at q
 ·simp only[Zh]at q;exact ds_if ((snd c).t R.toRel q.1.1) (ha.b R q.1.2) (hb.b R q.2)
 ·cases q
theorem Q7r(hb:SndS T b):SndS T (.for1 i it b):=by
 refine SndS.of rfl fun{X g} R {x} q=>?_;split at q
 ·simp only[Zh]at q;obtain⟨⟨⟨q1,q2⟩,q3⟩,q4⟩:=q;exact Qcq R.pass R.calm ((snd it).i R.toRel q3) (R.tg q1) (hb.b R q4) (Q2W q2)
 ·cases q
theorem Qbq:SndS T (.ex e):=by
 refine SndS.of rfl fun{X g} R {x} q=>?_;split at q
 ·simp only[Zh]at q;exact QaD ((snd e).e R.toRel q.1) (Q1B q.2)
 ·cases q
theorem Q7s(hb:SndS T b):SndS T (.whil c b):=by
 refine SndS.of rfl fun{X g} R {x} q=>?_;split at q
 ·simp only[Zh]at q;exact Q8L R.pass ((snd c).t R.toRel q.1) (hb.b R q.2)
 ·cases q
theorem Q7t:SndS T (.setf c f o v):=by
 refine SndS.of rfl fun{X g} R {x} q=>?_;split at q
 ·simp only[Zh,Z0,List.contains_eq_mem,Zg]at q;obtain⟨⟨⟨⟨rfl,q1⟩,q2⟩,q3⟩,q4⟩:=q;obtain⟨C,h1,h2,h3⟩:=R.fds _ q1;exact QaR h1 h2 h3 ((snd o).e R.toRel q2) ((snd v).e R.toRel q3) (Q1B q4)
 ·cases q
theorem Q7u:SndS T (.dput d k v):=by
 refine SndS.of rfl fun{X g} R {x} q=>?_;split at q
 ·simp only[Zh]at q;obtain⟨⟨⟨q1,q2⟩,q3⟩,q4⟩:=q;exact QaW (hu1 R.toRel) ((snd d).e R.toRel q1) ((snd k).e R.toRel q2) ((snd v).e R.toRel q3) (Q1B q4)
 ·cases q
theorem Q5j:swapsWith v (some (.Subscript y z p)) l env=pure false:=by
 cases v <;> rfl
theorem Q7v:SndS T (.kput d k v):=by
 refine SndS.of rfl fun{X g} R {x} q=>?_;split at q
 ·simp only[Zh]at q;obtain⟨⟨q1,q2⟩,q3⟩:=q;exact Qb1 (hu1 R.toRel) ((snd d).e R.toRel q1) ((snd k).e R.toRel q2) ((snd v).e R.toRel q3) Q5j
 ·cases q
theorem Q7w:SndS T (.nput d k v):=by
 refine SndS.of rfl fun{X g} R {x} q=>?_;split at q
 ·simp only[Zh]at q;obtain⟨⟨q1,q2⟩,q3⟩:=q;exact Qb6 (hu2 R.toRel) ((snd d).e R.toRel q1) ((snd k).e R.toRel q2) ((snd v).e R.toRel q3) Q5j
 ·cases q
theorem sndS:∀ c:CS,SndS T c
 | .nil=>⟨fun _ _ q=>(nomatch q),fun{X g} R {xs} q=>by
   have:xs=[]:=isEmpty_iff.mp q;subst this;exact QaC⟩
 | .seq s r=>⟨fun _ _ q=>(nomatch q),fun{X g} R {xs} q=>by
   match xs,q with
   | x::xs,q =>
    have q':((chkS T s).s g x&&(chkS T r).b g xs)=true:=q;rw[Zh]at q';exact Q8B ((sndS s).s R q'.1) ((sndS r).b R q'.2)⟩
 | .set _ _=>Q9m
 | .ret _=>Q9n
 | .ite _ a b=>Q9o (sndS a) (sndS b)
 | .for1 _ _ b=>Q7r (sndS b)
 | .ex _=>Qbq
 | .whil _ b=>Q7s (sndS b)
 | .setf _ _ _ _=>Q7t
 | .dput _ _ _=>Q7u
 | .kput _ _ _=>Q7v
 | .nput _ _ _=>Q7w
end
structure FunV(K:Frag)(x qual:Str)(st:Stmt)(f:Addr)(fd:FuncData)(dV:Value):Prop where
 ex:∃ (oc:Value) (od:Option Addr) (kV doc pm:Value) (an:Option Addr) (cdv ct:Value) (osl:Array (Option Value)),
  fd=fnOf x qual (zah st) (zac st) (za5 st) dV kV doc pm an cdv ct/\K.lookup f=some ⟨oc,od,.func fd,osl⟩/\codeIn K cdv qual=true
 kp:keepIn K (.ref f)=true
theorem FunV.ok{P:Program}{w:World}{K:Frag}{mg:Str->Option Value}{base:Heap}{x qual:Str}{st:Stmt}{f:Addr}{fd:FuncData}{dV:Value}{N ps:List Str}{k:Nat}{sp:DSp}(F:FunV K x qual st f fd dV)(S:zaU N ps (za5 st))(len:∀ ds M R,sp ds M R->ds.length=ps.length)
  (hb:∀ (cdv:Value) (A:Around) (outer:List Env) (s:Shared) (H:Hp) (E:XK),Room k (A.deeper (envOfC qual (za5 st) s.heap.objs.size f cdv)) ->
   ∃ td:DTS,DSs (cxOf CX0 P w K mg base N qual (za5 st) f cdv A outer s H E).nox (zac st) td/\∀ ds M R,sp ds M R->td (za4 R) (za3 N ds) M):FnOk P w K mg base CX0 (k+1) f fd ps (lSp K sp):=by
 obtain⟨oc,od,kV,doc,pm,an,cdv,ct,osl,rfl,lk,hcd⟩:=F.ex;refine fn_of lk hcd S (fun vs H Q E ⟨ds,M,R,e,m,h,k⟩=>by rw[<- e.length];exact len ds M R h) fun A outer s H vs Q E hr ⟨ds,M,R,e,m,h,k⟩=>?_
 obtain⟨td,ht,hq⟩:=hb cdv A outer s H E hr;refine⟨_,ht.nox,za3 N ds,M,za4 R,?_,m,hq ds M R h,⟨fun ρ' M' σ' H' ⟨M0,q0,q⟩ x' s' m'=>k .non M0 .non H' q x' (m'.sub q0) .non,fun d M' v H' ⟨M0,q0,q⟩ x' m' e'=>k d M0 v H' q x' (m'.sub q0) e',fun _ _ _ _ q=>q.elim,fun _ _ _ _ q=>q.elim⟩⟩;unfold za3 L2.start;rw[<- e.length];exact (SimS.ofDens e).append (SimS.nones _)
structure TabOk(P:Program)(w:World)(K:Frag)(mg:Str->Option Value)(base:Heap)(T:Tab)(k:Nat):Prop where
 fns:∀ f fi,T.fn f=some fi->∃ (j:Nat) (fa:Addr) (fd:FuncData) (ps:List Str),j<=k/\FnOk P w K mg base CX0 j fa fd ps (lSp K fi.sp)/\mg fi.nm=some (.ref fa)/\keepIn K (.ref fa)=true/\ps.length=fi.np /\
  ∀ j,j<=fi.dds.length->∃ (ds:List Value) (dvs:List V),Binds K fd ps ds/\Vals dvs ds/\∀ H,Dens K H (fi.dds.drop j) dvs
 fxs:∀ f fi,T.fx f=some fi->∃ (j:Nat) (fa:Addr) (fd:FuncData) (ps:List Str),j<=k/\FnOk P w K mg base (CX1 P w) j fa fd ps (lSpX K mg T.cl fi.sp)/\mg fi.nm=some (.ref fa)/\keepIn K (.ref fa)=true/\ps.length=fi.np /\
  ∀ j,j<=fi.dds.length->∃ (ds:List Value) (dvs:List V),Binds K fd ps ds/\Vals dvs ds/\∀ H,Dens K H (fi.dds.drop j) dvs
 cls:∀ c x,T.cl c=some x->∃ C,mg x=some (.ref C)/\ClsOk K mg T.toTabC c x C
 kfs:∀ f ki,T.kfn f=some ki->∃ (j:Nat) (fa:Addr) (fd:FuncData) (ps:List Str) (gv:List Value->List Value->List Value) (gV:List V->List V->List V),j<=k/\FnOk P w K mg base CX0 j fa fd ps (lSp K ki.sp)/\mg ki.nm=some (.ref fa)/\keepIn K (.ref fa)=true /\
  zc6 K fd ps ki.ks gv gV/\∀ H ds vs zs ws,Dens K H ds vs->Dens K H zs ws->Dens K H (ki.g ds zs) (gV vs ws)
 con:∀ i p,T.con i=some p->∃ u v,mg p.1=some u/\L2.RelV v u/\∀ H,Den K H p.2 v
 nob:∀ x∈T.bl,mg x=none
 isx:∀ c nm b,T.isx c nm=some b->IsxOk K mg T.cl c nm b
 lks:∀ x∈T.lk,∃ C,mg x=some (.ref C)/\XLook K C
 mts:∀ f mi,T.mt f=some mi->∃ (j:Nat) (C fa:Addr) (fd:FuncData) (ps:List Str),j+1<=k/\nsIn K mainGlobals mi.cl=some (some (.ref C))/\Cls K C/\Meth K C mi.nm fa/\FnOk P w K mg base CX0 j fa fd ps (lSp K mi.sp)/\Binds K fd ps []
 mks:∀ f mi,T.ini f=some mi->∃ (j:Nat) (C fa:Addr) (fd:FuncData) (ps:List Str),j+1<=k/\nsIn K mainGlobals mi.cl=some (some (.ref C))/\mg mi.cl=some (.ref C)/\Mk K C fa/\FnOk P w K mg base CX0 j fa fd ps (lSp K mi.sp)/\Binds K fd ps []
 fds:∀ p∈T.fd,FdOk K p.1 p.2
theorem room100(r:Room k A):A.units+100<cLine:=by have:=r.un;omega
theorem Q5k{P:Program}{w:World}{K:Frag}{mg:Str->Option Value}{base:Heap}{T:Tab}{k:Nat}{x qual:Str}{st:Stmt}{f:Addr}{fd:FuncData}{N ps:List Str}{sp:DSp}(body:CS)
  (O:TabOk P w K mg base T k) {dV:Value} (F:FunV K x qual st f fd dV) (S:zaU N ps (za5 st)) (hc:(chkS T body).b ⟨N,(za5 st).names⟩ (zac st)=true)
  (len:∀ ds M R,sp ds M R->ds.length=ps.length) (hb:∀ ds M R,sp ds M R->evS T body (za4 R) (za3 N ds) M) (hno:∀ c M,¬ T.xd c M:=by intro _ _ h;exact h):FnOk P w K mg base CX0 (k+1) f fd ps (lSp K sp):=by
 refine F.ok S len fun cdv A outer s H E hr=>⟨evS T body,(sndS body).b (g:=⟨N,(za5 st).names⟩) ?_ hc,hb⟩;refine { N:=rfl,nd:=S.nd,calm:=rfl,gl:=fun x e=>e,lc:=fun x e=>e,cf:=fun x e=>e,fns:=fun f fi e=>?_,kfs:=fun f ki e=>?_,fxs:=fun f fi e=>?_,cls:=O.cls,tk:=fun _ _ _ _ _ _ _ ⟨c,_,M,_,_,_,_,h⟩=>(hno c M h).elim,tp:=⟨_,_,_,rfl,rfl,rfl⟩,con:=O.con,nob:=O.nob,isx:=O.isx,lks:=O.lks,mts:=fun f mi e=>?_,mks:=fun f mi e=>?_,fds:=O.fds,un:=room100 hr,kind:=S.kind,pass:=PassesOwn.never,own:=fun x e=>e,fn:=fun _=>rfl,dpt:=ZC (Nat.add_le_add_right (Nat.le_add_right _ _) 5) hr.dp }
 ·obtain⟨j,fa,fd,ps,hj,F,h1,h2,h3,h4⟩:=O.fns f fi e;exact⟨⟨j,fa,fd,ps,F,hr.mono hj,h1,h2,h3,h4⟩⟩
 ·obtain⟨j,fa,fd,ps,gv,gV,hj,F,h1,h2,h3,h4⟩:=O.kfs f ki e;exact⟨⟨j,fa,fd,ps,gv,gV,F,hr.mono hj,h1,h2,h3,h4⟩⟩
 ·obtain⟨j,fa,fd,ps,hj,F,h1,h2,h3,h4⟩:=O.fxs f fi e;exact⟨⟨j,fa,fd,ps,F,hr.mono hj,h1,h2,h3,h4⟩⟩
 ·obtain⟨j,C,fa,fd,ps,hj,h1,h2,h3,F,h4⟩:=O.mts f mi e;exact⟨⟨j,C,fa,fd,ps,h1,h2,h3,F,hr.mono hj,h4⟩⟩
 ·obtain⟨j,C,fa,fd,ps,hj,h1,h2,h3,F,h4⟩:=O.mks f mi e;exact⟨⟨j,C,fa,fd,ps,h1,h2,h3,F,hr.mono hj,h4⟩⟩
theorem Q0H{K:Frag}{mg:Str->Option Value}{nm x:Str}{t:Tok}{codes:List Nat}(hm:mg nm=some (.str x t))(h:S codes=x)(hc:cpOk codes):∃ u v,mg nm=some u/\L2.RelV v u/\∀ H,Den K H (.str codes) v :=
 ⟨_,.str (S codes),hm,⟨t,by rw[h]⟩,fun H=>.str _ hc⟩
noncomputable def Tab.only(T:Tab)(l:List Nat):Tab:={ T with fn:=fun i=>if i∈l then T.fn i else none,kfn:=fun i=>if i∈l then T.kfn i else none,fx:=fun i=>if i∈l then T.fx i else none,mt:=fun i=>if i∈l then T.mt i else none,ini:=fun i=>if i∈l then T.ini i else none }
noncomputable def KOk(P:Program)(w:World)(K:Frag)(mg:Str->Option Value)(base:Heap)(ki:KI)(k:Nat):Prop :=
 ∃ (j:Nat) (fa:Addr) (fd:FuncData) (ps:List Str) (gv:List Value->List Value->List Value) (gV:List V->List V->List V),j<=k/\FnOk P w K mg base CX0 j fa fd ps (lSp K ki.sp)/\mg ki.nm=some (.ref fa)/\keepIn K (.ref fa)=true /\
  zc6 K fd ps ki.ks gv gV/\∀ H ds vs zs ws,Dens K H ds vs->Dens K H zs ws->Dens K H (ki.g ds zs) (gV vs ws)
noncomputable def FOk(P:Program)(w:World)(K:Frag)(mg:Str->Option Value)(base:Heap)(fi:FI)(k:Nat):Prop :=
 ∃ (j:Nat) (fa:Addr) (fd:FuncData) (ps:List Str),j<=k/\FnOk P w K mg base CX0 j fa fd ps (lSp K fi.sp)/\mg fi.nm=some (.ref fa)/\keepIn K (.ref fa)=true/\ps.length=fi.np /\
  ∀ j,j<=fi.dds.length->∃ (ds:List Value) (dvs:List V),Binds K fd ps ds/\Vals dvs ds/\∀ H,Dens K H (fi.dds.drop j) dvs
section
variable{P:Program}{w:World}{K:Frag}{mg:Str->Option Value}{base:Heap}{T:Tab}{k:Nat}{fi:FI}
theorem FOk.mono(h:FOk P w K mg base fi j)(hk:j<=k):FOk P w K mg base fi k:=by
 obtain⟨i,fa,fd,ps,h1,h2⟩:=h;exact⟨i,fa,fd,ps,Z4 h1 hk,h2⟩
theorem TabOk.nil(hc:∀ i p,T.con i=some p->∃ u v,mg p.1=some u/\L2.RelV v u/\∀ H,Den K H p.2 v)(hb:∀ x∈T.bl,mg x=none)(hcl:∀ c x,T.cl c=some x->∃ C,mg x=some (.ref C)/\ClsOk K mg T.toTabC c x C)
  (hix:∀ c nm b,T.isx c nm=some b->IsxOk K mg T.cl c nm b:=by intro _ _ _ h;cases h) (hlk:∀ x∈T.lk,∃ C,mg x=some (.ref C)/\XLook K C:=by intro _ h;cases h) (hfd:∀ p∈T.fd,FdOk K p.1 p.2:=by intro _ h;cases h):TabOk P w K mg base (T.only []) k :=
 ⟨fun f fi e=>by simp[Tab.only]at e,fun f fi e=>by simp[Tab.only]at e,hcl,fun f fi e=>by simp[Tab.only]at e,hc,hb,hix,hlk,fun f fi e=>by simp[Tab.only]at e,fun f fi e=>by simp[Tab.only]at e,hfd⟩
theorem Q2j{α:Type}{F:Nat->Option α}{f f':Nat}{l:List Nat}{y:α}(h:(if f'∈f::l then F f' else none)=some y):(f'=f/\F f=some y)\/(if f'∈l then F f' else none)=some y:=by
 by_cases hf:f'=f
 ·subst hf;rw[Ze Zl]at h;exact .inl ⟨rfl,h⟩
 ·right;by_cases hm:f'∈l
  ·rw[Ze (Zq _ hm)]at h;rw[Ze hm];exact h
  ·rw[Zc (by simp[hf,hm])]at h
   cases h
noncomputable def XOk(P:Program)(w:World)(K:Frag)(mg:Str->Option Value)(base:Heap)(cn:CN)(fi:FX)(k:Nat):Prop :=
 ∃ (j:Nat) (fa:Addr) (fd:FuncData) (ps:List Str),j<=k/\FnOk P w K mg base (CX1 P w) j fa fd ps (lSpX K mg cn fi.sp)/\mg fi.nm=some (.ref fa)/\keepIn K (.ref fa)=true/\ps.length=fi.np /\
  ∀ j,j<=fi.dds.length->∃ (ds:List Value) (dvs:List V),Binds K fd ps ds/\Vals dvs ds/\∀ H,Dens K H (fi.dds.drop j) dvs
noncomputable def MtOk(P:Program)(w:World)(K:Frag)(mg:Str->Option Value)(base:Heap)(mi:MI)(k:Nat):Prop :=
 ∃ (j:Nat) (C fa:Addr) (fd:FuncData) (ps:List Str),j+1<=k/\nsIn K mainGlobals mi.cl=some (some (.ref C))/\Cls K C/\Meth K C mi.nm fa/\FnOk P w K mg base CX0 j fa fd ps (lSp K mi.sp)/\Binds K fd ps []
noncomputable def MkOk(P:Program)(w:World)(K:Frag)(mg:Str->Option Value)(base:Heap)(mi:MI)(k:Nat):Prop :=
 ∃ (j:Nat) (C fa:Addr) (fd:FuncData) (ps:List Str),j+1<=k/\nsIn K mainGlobals mi.cl=some (some (.ref C))/\mg mi.cl=some (.ref C)/\Mk K C fa/\FnOk P w K mg base CX0 j fa fd ps (lSp K mi.sp)/\Binds K fd ps []
theorem MtOk.mono(h:MtOk P w K mg base mi j)(hk:j<=k):MtOk P w K mg base mi k:=by
 obtain⟨i,C,fa,fd,ps,h1,h2⟩:=h;exact⟨i,C,fa,fd,ps,Z4 h1 hk,h2⟩
theorem MkOk.mono(h:MkOk P w K mg base mi j)(hk:j<=k):MkOk P w K mg base mi k:=by
 obtain⟨i,C,fa,fd,ps,h1,h2⟩:=h;exact⟨i,C,fa,fd,ps,Z4 h1 hk,h2⟩
theorem TabOk.add{f:Nat}{l:List Nat}(r:TabOk P w K mg base (T.only l) k)(h1:∀ fi,T.fn f=some fi->FOk P w K mg base fi k)(h2:∀ ki,T.kfn f=some ki->KOk P w K mg base ki k)(h3:∀ fi,T.fx f=some fi->XOk P w K mg base T.cl fi k)
  (h4:∀ mi,T.mt f=some mi->MtOk P w K mg base mi k) (h5:∀ mi,T.ini f=some mi->MkOk P w K mg base mi k):TabOk P w K mg base (T.only (f::l)) k :=
 {cls:=r.cls
  fxs:=fun f' fi' e'=>by
   rcases Q2j e' with ⟨rfl,e'⟩ | e'
   ·exact h3 _ e'
   ·exact r.fxs f' fi' e'
  fns:=fun f' fi' e'=>by
   rcases Q2j e' with ⟨rfl,e'⟩ | e'
   ·exact h1 _ e'
   ·exact r.fns f' fi' e'
  kfs:=fun f' ki e'=>by
   rcases Q2j e' with ⟨rfl,e'⟩ | e'
   ·exact h2 _ e'
   ·exact r.kfs f' ki e'
  mts:=fun f' mi e'=>by
   rcases Q2j e' with ⟨rfl,e'⟩ | e'
   ·exact h4 _ e'
   ·exact r.mts f' mi e'
  mks:=fun f' mi e'=>by
   rcases Q2j e' with ⟨rfl,e'⟩ | e'
   ·exact h5 _ e'
   ·exact r.mks f' mi e'
  con:=r.con
  nob:=r.nob
  isx:=r.isx
  lks:=r.lks
  fds:=r.fds }
theorem no_of{α:Type}{o:Option α}{p:α->Prop}(h:o=none):∀ x,o=some x->p x:=fun x e=>by rw[h]at e;cases e
theorem one_of{α:Type}{o:Option α}{p:α->Prop}{y:α}(h:o=some y)(hp:p y):∀ x,o=some x->p x:=fun x e=>by rw[h]at e;cases e;exact hp
theorem TabOk.cons{f:Nat}{l:List Nat}(e:T.fn f=some fi)(h:FOk P w K mg base fi k)(r:TabOk P w K mg base (T.only l) k)(en:T.kfn f=none)(ex:T.fx f=none)(em:T.mt f=none:=by rfl)(ei:T.ini f=none:=by rfl):TabOk P w K mg base (T.only (f::l)) k :=
 r.add (one_of e h) (no_of en) (no_of ex) (no_of em) (no_of ei)
theorem TabOk.consM{f:Nat}{l:List Nat}{mi:MI}(e:T.mt f=some mi)(h:MtOk P w K mg base mi k)(r:TabOk P w K mg base (T.only l) k)(en:T.fn f=none)(ek:T.kfn f=none)(ex:T.fx f=none:=by rfl)(ei:T.ini f=none:=by rfl):TabOk P w K mg base (T.only (f::l)) k :=
 r.add (no_of en) (no_of ek) (no_of ex) (one_of e h) (no_of ei)
theorem TabOk.consI{f:Nat}{l:List Nat}{mi:MI}(e:T.ini f=some mi)(h:MkOk P w K mg base mi k)(r:TabOk P w K mg base (T.only l) k)(en:T.fn f=none)(ek:T.kfn f=none)(ex:T.fx f=none:=by rfl)(em:T.mt f=none:=by rfl):TabOk P w K mg base (T.only (f::l)) k :=
 r.add (no_of en) (no_of ek) (no_of ex) (no_of em) (one_of e h)
theorem Q2X{x qual:Str}{st:Stmt}{f:Addr}{oc:Value}{od an:Option Addr}{osl:Array (Option Value)}{dV kV doc pm cdv ct:Value}(l:K.lookup f=some ⟨oc,od,.func (fnOf x qual (zah st) (zac st) (za5 st) dV kV doc pm an cdv ct),osl⟩)
  (c:codeIn K cdv qual=true) (kp:keepIn K (.ref f)=true):FunV K x qual st f (fnOf x qual (zah st) (zac st) (za5 st) dV kV doc pm an cdv ct) dV:=⟨⟨oc,od,kV,doc,pm,an,cdv,ct,osl,rfl,l,c⟩,kp⟩
theorem fok(F:FnOk P w K mg base CX0 k fa fd ps (lSp K sp))(hm:mg nm=some (.ref fa))(hk:keepIn K (.ref fa)=true)(hl:ps.length=np)(hb:Binds K fd ps []) :
  FOk P w K mg base ⟨nm,np,[],sp⟩ k :=
 ⟨k,fa,fd,ps,Zo _,F,hm,hk,hl,fun j _=>⟨[],[],hb,.nil,fun H=>by simp;exact .nil⟩⟩
end
end IR
namespace My
open PySem PySem.Spec L2 DL IR
open PyProof.Rows hiding St
noncomputable abbrev W:=List Nat
noncomputable def dn(ws:List W):D:=.tup (ws.map D.str)
theorem sIx_none(n d:Nat):HT.sIx n d none=d:=rfl
theorem sIx_nat(n d k:Nat):HT.sIx n d (some (k:Int))=min k n:=by
 show (if ((k:Int)<0) then ((k:Int)+(n:Int)).toNat else min (k:Int).toNat n)=min k n
 rw[Zc (by omega)]
 simp
theorem Q3V{α:Type}(xs:List α)(k:Nat):cut xs none (some (k:Int))=xs.take k:=by
 unfold cut;rw[sIx_none,sIx_nat,drop_zero,sub_zero];rcases le_total k xs.length with h | h
 ·rw[min_eq_left h]
 ·rw[min_eq_right h,Ys (Zo _),Ys h]
theorem Q5l{α:Type}(xs:List α)(k:Nat):cut xs (some (k:Int)) none=xs.drop k:=by
 unfold cut;rw[sIx_none,sIx_nat];rcases le_total k xs.length with h | h
 ·rw[min_eq_left h,Ys (by rw[length_drop];exact Zo _)]
 ·rw[min_eq_right h,Yr (Zo _),Yr h];simp
theorem Qbr{α:Type}(xs:List α)(i j:Nat):cut xs (some (i:Int)) (some (j:Int))=(xs.drop i).take (j-i):=by
 unfold cut;rw[sIx_nat,sIx_nat];rcases le_total i xs.length with h | h
 ·rw[min_eq_left h];rcases le_total j xs.length with h' | h'
  ·rw[min_eq_left h']
  ·rw[min_eq_right h',Ys (by rw[length_drop];exact Zo _),Ys (by rw[length_drop];omega)]
 ·rw[min_eq_right h,Yr (Zo _),Yr h];simp
theorem atI_nat'{α:Type}(xs:List α)(k:Nat):atI xs (k:Int)=xs[k]?:=by
 unfold atI ixN;by_cases h:k<xs.length
 ·simp[h]
 ·simp[h]
theorem Q0c(h:∀ k:DSt->DH->Prop,k=evS T r DD->evS T s { DD with nx:=k } ρ M):evS T (.seq s r) DD ρ M:=h _ rfl
theorem Q2k(h:∀ k:DSt->DH->Prop,k=u DD->t { DD with nx:=k } ρ M):dSeq t u DD ρ M:=h _ rfl
theorem Q1O{Cd:DH->Prop}(I:Nat->DSt->DH->Prop)(h0:I 0 ρ M)(hC:∀ i ρ M,I i ρ M->Cd M)
  (hs:∀ (i:Nat) (d:D) (ρ:DSt) (M:DH) (k:DSt->DH->Prop),items[i]? = some d->I i ρ M->(∀ ρ' M',I (i+1) ρ' M'->k ρ' M')->g d ρ M fun ρ' M'=>tb { DD with nx:=k,ct:=k,bk:=DD.nx } ρ' M')
  (hd:∀ ρ M,I items.length ρ M->DD.nx ρ M):zbh g tb DD Cd items ρ M:=by
 have go:∀ (n i:Nat) (ρ:DSt) (M:DH),i+n=items.length->I i ρ M->zbh g tb DD Cd (items.drop i) ρ M:=by
  intro n
  induction n with
  | zero =>
   intro i ρ M e h;have e':i=items.length:=by omega
   subst e';rw[Yr (Zo _)];exact⟨hC _ _ _ h,hd ρ M h⟩
  | succ n ih =>
   intro i ρ M e h;have hlt:i<items.length:=by omega
   rw[Yy hlt];exact⟨hC _ _ _ h,hs i items[i] ρ M _ (Zt hlt) h fun ρ' M' h'=>ih (i+1) ρ' M' (by omega) h'⟩
 have:=go items.length 0 ρ M (by omega) h0
 simpa using this
theorem Q1P(lo:Int)(n:Nat):(rngD lo n).length=n:=by simp[rngD]
theorem Q5m{lo:Int}{n i:Nat}{d:D}(h:(rngD lo n)[i]? = some d):i<n/\d=.int (lo+(i:Int)):=by
 unfold rngD at h;rw[Z5]at h;cases e:(List.range n)[i]? with
 | none=>rw[e]at h;cases h
 | some j =>
  rw[e]at h;obtain⟨h1,h2⟩:=Zk.mp e;rw[ZD]at h1;rw[List.getElem_range]at h2;subst h2;cases h;exact⟨h1,rfl⟩
theorem Q1Q{g:DTG}{tb:DTS}{DD:zbw}{Cd:DH->Prop}{lo:Int}{n:Nat}{ρ:DSt}{M:DH}(I:Nat->DSt->DH->Prop)(h0:I 0 ρ M)(hC:∀ i ρ M,I i ρ M->Cd M)
  (hs:∀ (i:Nat) (ρ:DSt) (M:DH) (k:DSt->DH->Prop),i<n->I i ρ M->(∀ ρ' M',I (i+1) ρ' M'->k ρ' M')->g (.int (lo+(i:Int))) ρ M fun ρ' M'=>tb { DD with nx:=k,ct:=k,bk:=DD.nx } ρ' M')
  (hd:∀ ρ M,I n ρ M->DD.nx ρ M):zbh g tb DD Cd (rngD lo n) ρ M :=
 Q1O I h0 hC (fun i d ρ M k e h hk=>by obtain⟨h1,rfl⟩:=Q5m e;exact hs i ρ M k h1 h hk) (by rw[Q1P];exact hd)
theorem Q0n{unp:D->Option (List D)}{Cd:DH->Prop}{Q:List D->DH->Prop}(I:Nat->List D->DH->Prop)(h0:I 0 ys M)(hC:∀ i ys M,I i ys M->Cd M)
  (hs:∀ (i:Nat) (d:D) (ys:List D) (M:DH) (k:List D->DH->Prop),items[i]? = some d->I i ys M->(∀ ys' M',I (i+1) ys' M'->k ys' M')->match unp d with
   | some us=>tc (us.map some++fr) M fun b M3=>if b=true then te (us.map some++fr) M3 fun z M4=>ys.length<sizeLine/\k (ys++[z]) M4 else k ys M3
   | none=>False)
  (hd:∀ ys M,I items.length ys M->Q ys M):zam fr unp tc te Cd Q items ys M:=by
 have go:∀ (n i:Nat) (ys:List D) (M:DH),i+n=items.length->I i ys M->zam fr unp tc te Cd Q (items.drop i) ys M:=by
  intro n
  induction n with
  | zero =>
   intro i ys M e h;have e':i=items.length:=by omega
   subst e';rw[Yr (Zo _)];exact⟨hC _ _ _ h,hd ys M h⟩
  | succ n ih =>
   intro i ys M e h;have hlt:i<items.length:=by omega
   rw[Yy hlt];exact⟨hC _ _ _ h,hs i items[i] ys M _ (Zt hlt) h fun ys' M' h'=>ih (i+1) ys' M' (by omega) h'⟩
 have:=go items.length 0 ys M (by omega) h0
 simpa using this
theorem Q1C{Cd:DH->Prop}{Q:List D->DH->Prop}(f:D->D)(hC:Cd M)(hl:items.length<=1000)
  (hs:∀ (d:D) (k:D->DH->Prop),d∈items->k (f d) M->te (some d::fr) M k) (hd:Q (items.map f) M):zam fr (fun d=>some [d]) zaS te Cd Q items [] M:=by
 refine Q0n (fun i ys M'=>M'=M/\ys=(items.take i).map f) ⟨rfl,by simp⟩ (fun i ys M' h=>by rw[h.1];exact hC) ?_ ?_
 ·rintro i d ys M' k e ⟨rfl,rfl⟩ hk;have hi:=(Zk.mp e).1;simp only[zaS,Yw,Zy,map_nil,cons_append,nil_append];refine hs d _ (ZG e) ⟨small1000 (by rw[Zd,Z1];omega),hk _ _ ⟨rfl,?_⟩⟩
  rw[take_add_one,e,Z7];rfl
 ·rintro ys M' ⟨rfl,rfl⟩;rw[Yc];exact hd
theorem Q6b{Cd:DH->Prop}{Q:List D->DH->Prop}(P:D->D->Prop)(hC:Cd M)(hl:items.length<=1000)
  (hs:∀ (d:D) (k:D->DH->Prop),d∈items->(∀ z,P d z->k z M)->te (some d::fr) M k) (hd:∀ zs:List D,zs.length=items.length->(∀ z∈zs,∃ d∈items,P d z)->Q zs M):zam fr (fun d=>some [d]) zaS te Cd Q items [] M:=by
 refine Q0n (fun i ys M'=>M'=M/\ys.length=i/\∀ z∈ys,∃ d∈items,P d z) ⟨rfl,rfl,fun z h=>nomatch h⟩ (fun i ys M' h=>by rw[h.1];exact hC) ?_ ?_
 ·rintro i d ys M' k e ⟨rfl,hy,hp⟩ hk;have hi:=(Zk.mp e).1;simp only[zaS,Yw,Zy,map_nil,cons_append,nil_append];refine hs d _ (ZG e) fun z hz=>⟨small1000 (by omega),hk _ _ ⟨rfl,by rw[Zi,hy];rfl,fun y h=>?_⟩⟩
  rcases ZO.mp h with h | h
  ·exact hp y h
  ·rw[Zz.mp h];exact⟨d,ZG e,hz⟩
 ·rintro ys M' ⟨rfl,hy,hp⟩;exact hd ys hy hp
theorem Q7x{P:W->Prop}:∀ zs:List D,(∀ z∈zs,∃ w,P w/\z=.str w)->∃ a:List W,zs=a.map D.str/\∀ w∈a,P w
 | [],_=>⟨[],rfl,fun w h=>nomatch h⟩
 | z::r,h=>by
  obtain⟨w,hw,rfl⟩:=h z Zl;obtain⟨a,rfl,ha⟩:=Q7x r fun z hz=>h z (Zq _ hz);exact⟨w::a,rfl,fun x hx=>by
   rcases Z3.mp hx with rfl | hx
   ·exact hw
   ·exact ha x hx⟩
theorem ix_str(h0:0<=i)(h1:i<z.length)(hz:z.length<=1000)(h:∀ c,z[i.toNat]? = some c->Q (.str [c]) M):rIxD (.str z) (.int i) M Q:=by
 obtain⟨k,rfl⟩:=Int.eq_ofNat_of_zero_le h0;show (match atI z (k:Int) with | some c=>z.length<=sizeLine/\Q (.str [c]) M | none=>False)
 rw[atI_nat',Zt (by omega)]
 exact⟨le_of_lt (small1000 hz),h _ (Zt (by simpa using h1))⟩
theorem ix_tup(h0:0<=i)(h1:i<xs.length)(h:∀ d,xs[i.toNat]? = some d->Q d M):rIxD (.tup xs) (.int i) M Q:=by
 obtain⟨k,rfl⟩:=Int.eq_ofNat_of_zero_le h0;show (match atI xs (k:Int) with | some c=>Q c M | none=>False)
 rw[atI_nat',Zt (by omega)]
 exact h _ (Zt (by simpa using h1))
theorem Q1l(h0:0<=i)(h1:i<xs.length)(h:∀ d,xs[i.toNat]? = some d->Q d M):rIxD (.lst xs) (.int i) M Q:=by
 obtain⟨k,rfl⟩:=Int.eq_ofNat_of_zero_le h0;show (match atI xs (k:Int) with | some c=>Q c M | none=>False)
 rw[atI_nat',Zt (by omega)]
 exact h _ (Zt (by simpa using h1))
theorem Q0E(ws:List W):plain 12 (.tup (ws.map D.str))=true:=by
 show (ws.map D.str).all (plain 11)=true;rw[ZM];intro d hd;obtain⟨w,_,rfl⟩:=ZI.mp hd;rfl
theorem Q2l:∀ {a b:List W},a.map D.str=b.map D.str->a=b
 | [],[],_=>rfl
 | [],_::_,h=>by cases h
 | _::_,[],h=>by cases h
 | x::a,y::b,h=>by
  rw[Zy,Zy,List.cons.injEq]at h;rw[D.str.inj h.1,Q2l h.2]
theorem Q7y(a b:List W):eqB (.tup (a.map D.str)) (.tup (b.map D.str))=decide (a=b):=by
 by_cases h:a=b
 ·rw[Zm h,(Q1q _ _).mpr (by rw[h])]
 ·rw[Zr h,(Q0T _ _).mpr (fun e=>h (Q2l (D.tup.inj e)))]
theorem Q0f{R:DK}{d:D}{M:DH}(h:R d M):∃ M0,Sub M0 M/\R d M0:=⟨M,Sub.refl M,h⟩
@[elab_as_elim] theorem len1{α:Type}{P:List α->Prop}(us:List α)(h:us.length=1)(k:∀ a,P [a]):P us:=by
 cases us with
 | nil=>cases h
 | cons a t=>cases t with
  | nil=>exact k a
  | cons b t=>cases h
@[elab_as_elim] theorem len2{α:Type}{P:List α->Prop}(us:List α)(h:us.length=2)(k:∀ a b,P [a,b]):P us:=by
 cases us with
 | nil=>cases h
 | cons a t=>exact len1 t (Nat.succ.inj h) (k a)
@[elab_as_elim] theorem len3{α:Type}{P:List α->Prop}(us:List α)(h:us.length=3)(k:∀ a b c,P [a,b,c]):P us:=by
 cases us with
 | nil=>cases h
 | cons a t=>exact len2 t (Nat.succ.inj h) (k a)
@[elab_as_elim] theorem len4{α:Type}{P:List α->Prop}(us:List α)(h:us.length=4)(k:∀ a b c d,P [a,b,c,d]):P us:=by
 cases us with
 | nil=>cases h
 | cons a t=>exact len3 t (Nat.succ.inj h) (k a)
@[elab_as_elim] theorem len5{α:Type}{P:List α->Prop}(us:List α)(h:us.length=5)(k:∀ a b c d e,P [a,b,c,d,e]):P us:=by
 cases us with
 | nil=>cases h
 | cons a t=>exact len4 t (Nat.succ.inj h) (k a)
open Lean in
local macro_rules | `(tactic| walk_at "ev") => do
 let xs : Array (TSyntax `term):=("IR.evS_nil IR.evS_seq IR.evS_set IR.evS_ret IR.evS_ite IR.evS_for1 IR.evS_ex IR.evS_whil IR.evS_setf IR.evS_dput IR.evS_kput IR.evS_nput IR.ev_var IR.ev_con IR.ev_glob IR.ev_bin IR.ev_cmp IR.ev_chain IR.ev_and IR.ev_or IR.ev_not IR.ev_neg IR.ev_ite IR.ev_ix IR.ev_sl IR.ev_tup IR.ev_lst IR.ev_lstz IR.ev_frz IR.ev_call IR.ev_blt IR.ev_isi IR.ev_ml IR.ev_fld IR.ev_meth IR.ev_make IR.ev_dnew IR.ev_disp1 IR.ev_dix IR.ev_dget2 IR.ev_dget1 IR.ev_dsetd IR.ev_knew IR.ev_dispN IR.ev_kix IR.ev_thw IR.ev_items IR.ev_kget2 IR.ev_comp IR.ev_compz IR.ev_rng1 IR.ev_dkeys IR.ev_nil IR.ev_cons mkE dSeq zbW dRet dSet dIfS dAsg dFor dDrop dOp dSl dVar dC za3 dCB zc0 zaX dNil dTup dLst zbY zbs zb4 zbA zbU dB dAnd dOr dNot zbt dOrV dNotV dNeg dIf dIsI dML zaT diAny zbf dXrow hP hA hS dIsE zbo zak dFld zbr zbX zbZ zbj rInD rInO rInN zbi botE zb9 dThw zbB zbN rInF dNPut rDIx zbl zbm zbg zbV dTPut rTIx rInT zbk dSetF dDPut zb3 zaS zbc Lit.d Bn.r Cp.r Bl.r Ml.r rLen zbO rSlD zby rList zaN rAddD rI2 rLtD rEqN rIsN res rMin1 rAddL rStr rInt rIn1 zaJ mPop zbp isNon za4 QaJ Q4p CE.len sub_self List.drop_nil drop_zero append_nil map_cons map_nil cons_append nil_append List.getElem?_cons_zero List.getElem?_cons_succ List.getElem?_nil List.set_cons_zero List.set_cons_succ length_cons length_nil Nat.reduceAdd Nat.reduceSub List.replicate Option.getD if_true if_false false_eq_true Bool.not_true Bool.not_false id true_and and_true".splitOn " ").toArray.map fun s=>⟨(mkIdent s.toName).raw⟩
 `(tactic| simp only [$[$xs:term],*])
noncomputable def b_ax:CS :=
  (.seq (.ret (.cmp .eq (.sl (.var 0) .nil (.blt .len (.cons (.var 1) .nil))) (.var 1)))
  .nil)
noncomputable def b_a1:CS :=
  (.seq (.ret (.comp false [0] (.rng1 (.bin .add (.blt .len (.cons (.var 0) .nil)) (.con (.int 1)))) .nil (.sl (.var 1) .nil (.var 0))))
  .nil)
noncomputable def sp_ax:DSp:=fun ds M R=>∃ a b:List W,ds=[dn a,dn b]/\R (.bl (decide (a.take b.length=b))) M
noncomputable def za7(a:List W):List D:=(List.range (a.length+1)).map fun k=>dn (a.take k)
noncomputable def sp_a1:DSp:=fun ds M R=>∃ a:List W,ds=[dn a]/\a.length<=900/\∀ p,M p=none->R (.ref p) (dupd M p (.lst (za7 a)))
section
variable{T:Tab}
theorem ok_ax:∀ ds M R,sp_ax ds M R->evS T b_ax (za4 R) (za3 ["name","top"] ds) M:=by
 rintro ds M R ⟨a,b,rfl,h⟩;simp only[b_ax,dn];walk_at "ev";rw[Q3V,Zd,<- map_take,Q7y];exact⟨Q0E _,Q0E _,Q0f h⟩
theorem ok_a1:∀ ds M R,sp_a1 ds M R->evS T b_a1 (za4 R) (za3 ["name"] ds) M:=by
 rintro ds M R ⟨a,rfl,hl,h⟩;simp only[b_a1,dn];walk_at "ev";rw[Zd];refine⟨by omega,by omega,?_⟩
 have e:((a.length:Int)+1).toNat=a.length+1:=by omega
 rw[e];refine Q1C (fun d=>match d with | .int i=>dn (a.take i.toNat) | d=>d) trivial (by rw[Q1P];omega) ?_ ?_
 ·intro d k hd hk;obtain⟨i,hi⟩:=mem_iff_getElem?.mp hd;obtain⟨h1,rfl⟩:=Q5m hi;have e2:(0:Int)+(i:Int)=(i:Int):=by omega
  rw[e2]at hk ⊢;walk_at "ev";rw[Q3V,<- map_take];have e4:(match D.int (i:Int) with | .int i=>dn (a.take i.toNat) | d=>d)=dn (a.take i):=by simp
  rw[e4]at hk;exact hk
 ·have e3:(rngD 0 (a.length+1)).map (fun d=>match d with | .int i=>dn (a.take i.toNat) | d=>d)=za7 a:=by
   unfold rngD za7;rw[map_map];refine map_congr_left fun i _=>?_;simp
  rw[e3];refine⟨le_of_lt (small1000 (by unfold za7;rw[Zd,ZD];omega)),fun p hp=>Q0f (h p hp)⟩
theorem mulOk{i j:Int}(h1:-1000000000000<=i)(h2:i<=1000000000000):CMul i j:=.inl ⟨by omega,by omega⟩
end
theorem atI_last{α:Type}{xs:List α}(h:xs≠[]):atI xs (-1)=xs[xs.length-1]?:=by
 have hl:0<xs.length:=List.length_pos_iff.mpr h;unfold atI ixN;rw[Zc (by omega),Ze (by omega)]
 show xs[((-1:Int)+(xs.length:Int)).toNat]? = _;congr 1;omega
theorem Q4y{xs:List D}{M:DH}{Q:DK}{d:D}(e:xs[xs.length-1]? = some d)(h:Q d M):rIxD (.lst xs) (.int (-1)) M Q:=by
 show (match atI xs (-1) with | some c=>Q c M | none=>False)
 rw[atI_last (by intro z;subst z;cases e),e]
 exact h
noncomputable def b_at:CS :=
  (.seq (.ret (.cmp .inD (.var 1) (.fld "Page" "standing" (.var 0))))
  .nil)
noncomputable def b_av:CS :=
  (.seq (.for1 2 (.sl (.call 2 (.cons (.var 1) .nil)) (.bin .add (.blt .len (.cons (.fld "Page" "top" (.var 0)) .nil)) (.con (.int 1))) .nil)
  (.seq (.ite (.cmp .inD (.var 2) (.fld "Page" "downs" (.var 0)))
  (.seq (.ret (.var 2))
  .nil)
  .nil)
  .nil))
  (.seq (.ret (.con .non))
  .nil))
noncomputable def b_aA:CS :=
  (.seq (.ex (.ml .append (.dsetd (.fld "Page" "rows" (.var 0)) (.ix (.var 1) (.con (.int 0))) (.lst .nil)) (.cons (.var 1) .nil)))
  (.seq (.ite (.cmp .eq (.ix (.var 1) (.con (.int 2))) (.glob 13))
  (.seq (.dput (.fld "Page" "downs" (.var 0)) (.ix (.var 1) (.con (.int 0))) (.var 1))
  .nil)
  .nil)
  (.seq (.set 2 (.ix (.var 1) (.con (.int 0))))
  (.seq (.whil (.cmp .ninD (.var 2) (.fld "Page" "standing" (.var 0)))
  (.seq (.dput (.fld "Page" "standing" (.var 0)) (.var 2) (.con (.bl true)))
  (.seq (.set 2 (.sl (.var 2) .nil (.neg (.con (.int 1)))))
  .nil)))
  .nil))))
noncomputable def b_ag:CS :=
  (.seq (.setf "Page" "top" (.var 0) (.ix (.var 1) (.con (.int 0))))
  (.seq (.setf "Page" "life" (.var 0) (.ix (.var 1) (.con (.int 1))))
  (.seq (.setf "Page" "rows" (.var 0) .dnew)
  (.seq (.setf "Page" "downs" (.var 0) .dnew)
  (.seq (.setf "Page" "standing" (.var 0) (.disp1 (.ix (.var 1) (.con (.int 0))) (.con (.bl true))))
  (.seq (.for1 2 (.ix (.var 1) (.con (.int 2)))
  (.seq (.ex (.meth 301 (.var 0) (.cons (.var 2) .nil)))
  .nil))
  .nil))))))
structure Rw where
 n:List W
 l:Int
 k:W
 v:D
noncomputable def Rw.d(r:Rw):D:=.tup [dn r.n,.int r.l,.str r.k,r.v]
noncomputable def zD(top:List W)(life:Int)(rows:List Rw):D:=.tup [dn top,.int life,.lst (rows.map Rw.d)]
noncomputable def zae:W:=[100,111,119,110]
noncomputable def zaP(top:List W)(life:Int)(r d s:Addr):List (Str×D):=[("top",dn top),("life",.int life),("rows",.ref r),("downs",.ref d),("standing",.ref s)]
theorem Q1e{f:Str}{v:D}{fs:List (Str×D)}:List.lookup f ((f,v)::fs)=some v:=by rw[ZS,beq_self_eq_true]
theorem Q0i{f g:Str}{v:D}{fs:List (Str×D)}(h:(f==g)=false):List.lookup f ((g,v)::fs)=fs.lookup f:=by rw[ZS,h]
section
variable{top:List W}{life:Int}{r d s:Addr}
theorem Q3W:List.lookup ("top" : Str) (zaP top life r d s)=some (dn top):=Q1e
theorem Q2D:List.lookup ("life" : Str) (zaP top life r d s)=some (D.int life):=(Q0i (by decide +kernel)).trans Q1e
theorem Q1G:List.lookup ("rows" : Str) (zaP top life r d s)=some (D.ref r):=(Q0i (by decide +kernel)).trans ((Q0i (by decide +kernel)).trans Q1e)
theorem Q0I:List.lookup ("downs" : Str) (zaP top life r d s)=some (D.ref d):=(Q0i (by decide +kernel)).trans ((Q0i (by decide +kernel)).trans ((Q0i (by decide +kernel)).trans Q1e))
theorem Q0N:List.lookup ("standing" : Str) (zaP top life r d s)=some (D.ref s):=(Q0i (by decide +kernel)).trans ((Q0i (by decide +kernel)).trans ((Q0i (by decide +kernel)).trans ((Q0i (by decide +kernel)).trans Q1e)))
theorem Q0K{m:Str}(h1:(m == "top")=false:=by decide +kernel)(h2:(m == "life")=false:=by decide +kernel)(h3:(m == "rows")=false:=by decide +kernel)(h4:(m == "downs")=false:=by decide +kernel)(h5:(m == "standing")=false:=by decide +kernel):List.lookup m (zaP top life r d s)=none :=
 (Q0i h1).trans ((Q0i h2).trans ((Q0i h3).trans ((Q0i h4).trans ((Q0i h5).trans rfl))))
end
theorem Q0m:∀ {fs:List (Str×D)},f∉fs.map (·.1)->zaz f v fs=fs++[(f,v)]
 | [],_=>rfl
 | (g,x)::r,h=>by
  rw[Zy,Z3,not_or]at h;show (if g=f then (g,v)::r else (g,x)::zaz f v r)=_
  rw[Zc (fun e=>h.1 e.symm),Q0m h.2];rfl
noncomputable def atN(rows:List Rw)(n:List W):List Rw:=rows.filter fun x=>decide (x.n=n)
structure RowsAt(M0 M:DH)(r:Addr)(kr:List (List W×D))(rows:List Rw):Prop where
 m:M r=some (.oth (.dct kr))
 f:M0 r=none
 l:kr.length<=rows.length
 v:∀ n v,valD kr n=some v->∃ l,v=.ref l/\M l=some (.lst ((atN rows n).map Rw.d))/\M0 l=none
 i:∀ n n' l,valD kr n=some (.ref l)->valD kr n'=some (.ref l)->n=n'
 no:∀ n,valD kr n=none->atN rows n=[]
 yes:∀ n,atN rows n=[]->valD kr n=none
noncomputable def zao(rows:List Rw)(n:List W):Option D:=((rows.filter fun x=>decide (x.k=zae/\x.n=n)).getLast?).map Rw.d
theorem Q7z(h:(kvs.map (·.1)).Nodup):((putD kvs k v).map (·.1)).Nodup:=by
 unfold putD;split
 ·rw[map_map,show ((·.1) ∘ fun kv:List W×D=>if kv.1=k then (kv.1,v) else kv)=(·.1) from funext fun kv=>by show (if kv.1=k then (kv.1,v) else kv).1=kv.1;split <;> rfl]
  exact h
 ·next e =>
  rw[Z7,nodup_append];refine⟨h,List.pairwise_singleton _ _,fun a ha b hb z=>e ?_⟩;obtain⟨q,hq,rfl⟩:=ZI.mp ha;rw[any_eq_true];exact⟨q,hq,Zm (z.trans (Zz.mp hb))⟩
structure DownsAt(M0 M:DH)(d:Addr)(kd:List (List W×D))(rows:List Rw):Prop where
 m:M d=some (.oth (.dct kd))
 f:M0 d=none
 l:kd.length<=rows.length
 v:∀ n,valD kd n=zao rows n
 u:(kd.map (·.1)).Nodup
structure StandAt(M0 M:DH)(s:Addr)(ks:List (List W×D))(S:List W->Prop)(k:Nat):Prop where
 m:M s=some (.oth (.dct ks))
 f:M0 s=none
 l:ks.length<=k
 v:∀ n,(valD ks n).isSome=true <-> S n
noncomputable def Std(top:List W)(rows:List Rw)(n:List W):Prop:=n=top\/(top.length<n.length/\∃ x∈rows,x.n.take n.length=n)
section
variable{M0 M:DH}{r d s q:Addr}{kr kd ks:List (List W×D)}{rows:List Rw}{o:MO}{S:List W->Prop}{k:Nat}
theorem RowsAt.upd(h:RowsAt M0 M r kr rows)(hq:q≠r)(hl:∀ n l,valD kr n=some (.ref l)->l≠q):RowsAt M0 (dupd M q o) r kr rows :=
 {h with
  m:=by rw[Q0b hq.symm];exact h.m
  v:=fun n v e=>by
   obtain⟨l,rfl,h1,h2⟩:=h.v n v e;exact⟨l,rfl,by rw[Q0b (hl n l e)];exact h1,h2⟩ }
theorem RowsAt.new(h:RowsAt M0 M r kr rows)(hq:M q=none):RowsAt M0 (dupd M q o) r kr rows :=
 h.upd (dne h.m hq).symm fun n l e=>by
  obtain⟨l',e',h1,_⟩:=h.v n _ e;cases e';exact dne h1 hq
theorem RowsAt.oth(h:RowsAt M0 M r kr rows)(hr:q≠r)(hq:M q=some (.oth u)):RowsAt M0 (dupd M q o) r kr rows :=
 h.upd hr fun n l e z=>by
  obtain⟨l',e',h1,_⟩:=h.v n _ e;cases e';rw[z,hq]at h1;cases h1
theorem DownsAt.upd(h:DownsAt M0 M d kd rows)(hq:q≠d):DownsAt M0 (dupd M q o) d kd rows:={ h with m:=by rw[Q0b hq.symm];exact h.m }
theorem StandAt.upd(h:StandAt M0 M s ks S k)(hq:q≠s):StandAt M0 (dupd M q o) s ks S k:={ h with m:=by rw[Q0b hq.symm];exact h.m }
end
structure PG(M0 M:DH)(p r d s:Addr)(top:List W)(life:Int)(kr kd ks:List (List W×D))(rr rd:List Rw)(S:List W->Prop)(k:Nat):Prop where
 ob:M p=some (.oth (.ins "Page" (zaP top life r d s)))
 fp:M0 p=none
 sub:Sub M0 M
 ne1:r≠d
 ne2:r≠s
 ne3:d≠s
 hR:RowsAt M0 M r kr rr
 hD:DownsAt M0 M d kd rd
 hS:StandAt M0 M s ks S k
noncomputable def Page(M0 M:DH)(p:Addr)(top:List W)(life:Int)(rows:List Rw):Prop:=∃ r d s kr kd ks,PG M0 M p r d s top life kr kd ks rows rows (Std top rows) (1+21 * rows.length)
section
variable{M0 M:DH}{p r d s q:Addr}{top:List W}{life:Int}{kr kd ks:List (List W×D)}{rr rd:List Rw}{o:MO}{S:List W->Prop}{k:Nat}
theorem PG.new(h:PG M0 M p r d s top life kr kd ks rr rd S k)(hq:M q=none):PG M0 (dupd M q o) p r d s top life kr kd ks rr rd S k :=
 {h with
  ob:=by rw[Q0b (dne h.ob hq)];exact h.ob
  sub:=h.sub.put (h.sub.none hq)
  hR:=h.hR.new hq
  hD:=h.hD.upd (dne h.hD.m hq).symm
  hS:=h.hS.upd (dne h.hS.m hq).symm }
theorem mne(h:M a=some u)(h':M b=some v)(e:u≠v):a≠b:=fun z=>by
 subst z;rw[h]at h';exact e (Z6 h')
end
theorem Q0L:atN (rows++[x]) n=if x.n=n then atN rows n++[x] else atN rows n:=by
 unfold atN;rw[ZY];by_cases e:x.n=n
 ·rw[Ze e,ZT,Ze (by simp[e])];rfl
 ·rw[Zc e,ZT,Zc (by simp[e])];simp
theorem Q2E:zao (rows++[x]) n=if x.k=zae/\x.n=n then some x.d else zao rows n:=by
 unfold zao;rw[ZY];by_cases e:x.k=zae/\x.n=n
 ·rw[Ze e,ZT,Ze (by simp[e]),filter_nil,List.getLast?_append];rfl
 ·rw[Zc e,ZT,Zc (by simp only[Zg];exact e)];simp
theorem Q9p{α:Type}(xs:List α):cut xs none (some (-1))=xs.take (xs.length-1):=by
 unfold cut;have e:HT.sIx xs.length xs.length (some (-1))=xs.length-1:=by
  show (if ((-1:Int)<0) then ((-1:Int)+(xs.length:Int)).toNat else min (-1:Int).toNat xs.length)=_
  rw[Ze (by decide)]
  omega
 rw[sIx_none,e,drop_zero,sub_zero]
structure zc4(top:List W)(x:Rw):Prop where
 le:x.n.length<=20
 at_:x.n.take top.length=top
noncomputable def sp_aA:DSp:=fun ds M R=>∃ (p:Addr) (x:Rw) (M0:DH) (top:List W) (life:Int) (rows:List Rw),ds=[.ref p,x.d]/\Page M0 M p top life rows/\zc4 top x/\rows.length<=1000/\∀ M',Page M0 M' p top life (rows++[x])->R .non M'
noncomputable def sp_ag:DSp:=fun ds M R=>∃ (p:Addr) (M0:DH) (top:List W) (life:Int) (rows:List Rw),ds=[.ref p,zD top life rows]/\M p=some (.oth (.ins "Page" []))/\M0 p=none/\Sub M0 M/\rows.length<=1000/\(∀ x∈rows,zc4 top x)/\∀ M',Page M0 M' p top life rows->R .non M'
noncomputable def cutN(top:List W)(rows:List Rw)(n:List W):Option (List W):=(((List.range (n.length+1)).drop (top.length+1)).map fun k=>n.take k).find? fun m=>(zao rows m).isSome
noncomputable def cutD(top:List W)(rows:List Rw)(n:List W):D:=match cutN top rows n with
 | some m=>dn m
 | none=>.non
noncomputable def sp_av:DSp:=fun ds M R=>∃ (p:Addr) (n:List W) (M0:DH) (top:List W) (life:Int) (rows:List Rw),ds=[.ref p,dn n]/\Page M0 M p top life rows/\n.length<=900/\R (cutD top rows n) M
noncomputable def sp_at:DSp:=fun ds M R=>∃ (p:Addr) (n:List W) (M0:DH) (top:List W) (life:Int) (rows:List Rw),ds=[.ref p,dn n]/\Page M0 M p top life rows/\∀ b,(b=true <-> Std top rows n)->R (.bl b) M
section
variable{M0 M:DH}{p r d s:Addr}{top:List W}{life:Int}{kr kd ks:List (List W×D)}{rr rd:List Rw}{S:List W->Prop}{k:Nat}
theorem PG.grow(h:PG M0 M p r d s top life kr kd ks rr rd S k)(e:valD kr x.n=some (.ref l)):PG M0 (dupd M l (.lst ((atN rr x.n).map Rw.d++[x.d]))) p r d s top life kr kd ks (rr++[x]) rd S k:=by
 obtain⟨l',e',h1,h2⟩:=h.hR.v _ _ e;cases e';have np:p≠l:=mne h.ob h1 (fun z=>nomatch z)
 have nr:r≠l:=mne h.hR.m h1 (fun z=>nomatch z)
 have nd:d≠l:=mne h.hD.m h1 (fun z=>nomatch z)
 have ns:s≠l:=mne h.hS.m h1 (fun z=>nomatch z)
 exact { h with
  ob:=by rw[Q0b np];exact h.ob
  sub:=h.sub.put h2
  hD:=h.hD.upd nd.symm
  hS:=h.hS.upd ns.symm
  hR:={ m:=by rw[Q0b nr];exact h.hR.m
        f:=h.hR.f
        l:=by rw[Zi];exact Z4 h.hR.l (Nat.le_add_right _ _)
        i:=h.hR.i
        v:=fun n v ev=>by
         obtain⟨l',rfl,g1,g2⟩:=h.hR.v n v ev;by_cases hn:x.n=n
         ·subst hn;rw[e]at ev;cases ev;exact⟨l,rfl,by rw[Q0a,Q0L,Ze rfl,Z7];rfl,h2⟩
         ·have hl:l'≠l:=fun z=>hn (by subst z;exact h.hR.i _ _ _ e ev)
          exact⟨l',rfl,by rw[Q0b hl,Q0L,Zc hn];exact g1,g2⟩
        no:=fun n en=>by
         rw[Q0L];by_cases hn:x.n=n
         ·subst hn;rw[e]at en;cases en
         ·rw[Zc hn];exact h.hR.no n en
        yes:=fun n en=>by
         rw[Q0L]at en;by_cases hn:x.n=n
         ·rw[Ze hn]at en;simp at en
         ·rw[Zc hn]at en;exact h.hR.yes n en } }
theorem PG.fresh(h:PG M0 M p r d s top life kr kd ks rr rd S k)(hq:M q=none)(e:valD kr x.n=none) :
  PG M0 (dupd (dupd (dupd M q (.lst [])) r (.oth (.dct (putD kr x.n (.ref q))))) q (.lst [x.d])) p r d s top life (putD kr x.n (.ref q)) kd ks (rr++[x]) rd S k:=by
 have np:p≠q:=dne h.ob hq;have nr:r≠q:=dne h.hR.m hq;have nd:d≠q:=dne h.hD.m hq;have ns:s≠q:=dne h.hS.m hq;have pr:p≠r:=mne h.ob h.hR.m (fun z=>nomatch z)
 have fq:M0 q=none:=h.sub.none hq;exact { h with
  ob:=by rw[Q0b np,Q0b pr,Q0b np];exact h.ob
  sub:=((h.sub.put fq).put h.hR.f).put fq
  hD:=((h.hD.upd nd.symm).upd h.ne1).upd nd.symm
  hS:=((h.hS.upd ns.symm).upd h.ne2).upd ns.symm
  hR:={ m:=by rw[Q0b nr,Q0a]
        f:=h.hR.f
        l:=by
         have h1:=Q0U kr x.n (.ref q);have h2:=h.hR.l;rw[Zi];show _<=rr.length+1;omega
        i:=fun n n' l e1 e2=>by
         rw[Q0t]at e1 e2;have old:∀ n,valD kr n=some (.ref q)->False:=fun n z=>by
          obtain⟨l',e',h1,_⟩:=h.hR.v n _ z;cases e';rw[hq]at h1;cases h1
         by_cases a:n=x.n <;> by_cases b:n'=x.n
         ·rw[a,b]
         ·rw[Ze a]at e1;rw[Zc b]at e2;cases e1;exact (old _ e2).elim
         ·rw[Zc a]at e1;rw[Ze b]at e2;cases e2;exact (old _ e1).elim
         ·rw[Zc a]at e1;rw[Zc b]at e2;exact h.hR.i _ _ _ e1 e2
        v:=fun n v ev=>by
         rw[Q0t]at ev;by_cases a:n=x.n
         ·rw[Ze a]at ev;cases ev;exact⟨q,rfl,by rw[Q0a,a,Q0L,Ze rfl,h.hR.no _ e];rfl,fq⟩
         ·rw[Zc a]at ev;obtain⟨l,rfl,g1,g2⟩:=h.hR.v n v ev;have lq:l≠q:=dne g1 hq;have lr:l≠r:=mne g1 h.hR.m (fun z=>nomatch z)
          exact⟨l,rfl,by rw[Q0b lq,Q0b lr,Q0b lq,Q0L,Zc (fun z=>a z.symm)];exact g1,g2⟩
        no:=fun n en=>by
         rw[Q0t]at en;by_cases a:n=x.n
         ·rw[Ze a]at en;cases en
         ·rw[Zc a]at en;rw[Q0L,Zc (fun z=>a z.symm)];exact h.hR.no n en
        yes:=fun n en=>by
         rw[Q0L]at en;by_cases a:n=x.n
         ·rw[Ze a.symm]at en;simp at en
         ·rw[Zc (fun z=>a z.symm)]at en;rw[Q0t,Zc a];exact h.hR.yes n en } }
theorem PG.down(h:PG M0 M p r d s top life kr kd ks rr rd S k)(hx:x.k=zae):PG M0 (dupd M d (.oth (.dct (putD kd x.n x.d)))) p r d s top life kr (putD kd x.n x.d) ks rr (rd++[x]) S k:=by
 have pd:p≠d:=mne h.ob h.hD.m (fun z=>nomatch z)
 exact { h with
  ob:=by rw[Q0b pd];exact h.ob
  sub:=h.sub.put h.hD.f
  hR:=h.hR.oth h.ne1.symm h.hD.m
  hS:=h.hS.upd h.ne3
  hD:={ m:=Q0a
        u:=Q7z h.hD.u
        f:=h.hD.f
        l:=by
         have h1:=Q0U kd x.n x.d;have h2:=h.hD.l;rw[Zi];show _<=rd.length+1;omega
        v:=fun n=>by
         rw[Q0t,Q2E,h.hD.v];by_cases a:n=x.n
         ·rw[Ze a,Ze ⟨hx,a.symm⟩]
         ·rw[Zc a,Zc (fun z=>a z.2.symm)] } }
theorem PG.nodown(h:PG M0 M p r d s top life kr kd ks rr rd S k)(hx:¬ x.k=zae):PG M0 M p r d s top life kr kd ks rr (rd++[x]) S k :=
 {h with
  hD:={ h.hD with
        l:=by rw[Zi];exact Z4 h.hD.l (Nat.le_add_right _ _)
        v:=fun n=>by rw[Q2E,Zc (fun z=>hx z.1)];exact h.hD.v n } }
theorem PG.stand(h:PG M0 M p r d s top life kr kd ks rr rd S k)(m:List W):PG M0 (dupd M s (.oth (.dct (putD ks m (.bl true))))) p r d s top life kr kd (putD ks m (.bl true)) rr rd (fun n=>n=m\/S n) (k+1):=by
 have ps:p≠s:=mne h.ob h.hS.m (fun z=>nomatch z)
 exact { h with
  ob:=by rw[Q0b ps];exact h.ob
  sub:=h.sub.put h.hS.f
  hR:=h.hR.oth h.ne2.symm h.hS.m
  hD:=h.hD.upd h.ne3.symm
  hS:={ m:=Q0a
        f:=h.hS.f
        l:=by
         have h1:=Q0U ks m (.bl true);have h2:=h.hS.l;omega
        v:=fun n=>by
         rw[Q0t];by_cases a:n=m
         ·rw[Ze a];simp[a]
         ·rw[Zc a,h.hS.v];simp[a] } }
theorem PG.same(h:PG M0 M p r d s top life kr kd ks rr rd S k){S':List W->Prop}(e:∀ n,S n <-> S' n)(hk:k<=k'):PG M0 M p r d s top life kr kd ks rr rd S' k' :=
 {h with hS:={ h.hS with l:=Z4 h.hS.l hk,v:=fun n=>(h.hS.v n).trans (e n) } }
end
theorem Q3X(w:W):plain 12 (.str w)=true:=rfl
theorem Q9q(hx:zc4 top x)(hj:top.length<=j)(hjx:j<=x.n.length)(hs:Std top rows (x.n.take j))(n:List W) :
  (Std top rows n\/∃ i,j<i/\i<=x.n.length/\n=x.n.take i) <-> Std top (rows++[x]) n:=by
 constructor
 ·rintro (h | ⟨i,h1,h2,rfl⟩)
  ·rcases h with h | ⟨h1,y,hy,h2⟩
   ·exact .inl h
   ·exact .inr ⟨h1,y,mem_append_left _ hy,h2⟩
  ·have e:(x.n.take i).length=i:=by rw[Z1];omega
   exact .inr ⟨by rw[e];omega,x,Zw _ (Zz.mpr rfl),by rw[e]⟩
 ·rintro (h | ⟨h1,y,hy,h2⟩)
  ·exact .inl (.inl h)
  ·rcases ZO.mp hy with hy | hy
   ·exact .inl (.inr ⟨h1,y,hy,h2⟩)
   ·rw[Zz.mp hy]at h2;have hl:n.length<=x.n.length:=by rw[<- h2,Z1];omega
    by_cases hi:j<n.length
    ·exact .inr ⟨n.length,hi,hl,h2.symm⟩
    ·left;have e:(x.n.take j).take n.length=n:=by rw[take_take,show min n.length j=n.length by omega];exact h2
     have ej:(x.n.take j).length=j:=by rw[Z1];omega
     rcases hs with hs | ⟨g1,z,hz,g2⟩
     ·rw[hs]at ej;omega
     ·refine .inr ⟨h1,z,hz,?_⟩;rw[ej]at g2;rw[<- g2,take_take,show min n.length j=n.length by omega]at e
      exact e
theorem ok_aA(T:Tab)(h13:T.con 13=some (("DOWN" : Str),D.str [100,111,119,110])):∀ ds M R,sp_aA ds M R->evS T b_aA (za4 R) (za3 ["self","row","name"] ds) M:=by
 rintro ds M R ⟨p,x,M0,top,life,rows,rfl,⟨r,d,s,kr,kd,ks,G⟩,hx,hn,h⟩;simp only[b_aA,Rw.d];refine Q0c fun k1 e1=>?_;walk_at "ev";refine⟨p,_,_,rfl,G.ob,Q1G,r,kr,rfl,G.hR.m,?_⟩;refine ix_tup (by omega) (by simp) fun d0 hd0=>?_
 cases hd0;refine⟨by simp[ZL],fun q hq=>?_⟩
 have nr:r≠q:=dne G.hR.m hq;have kl:kr.length<sizeLine:=by have:=G.hR.l;rw[ZL];omega
 -- behind it
 have step2:∀ M1 kr1,PG M0 M1 p r d s top life kr1 kd ks (rows++[x]) rows (Std top rows) (1+21 * rows.length)->k1 [some (.ref p),some x.d,none] M1:=by
  intro M1 kr1 G1;rw[e1];clear e1;refine Q0c fun k2 e2=>?_
  -- what follows the if
  have step3:∀ M2 kd2,PG M0 M2 p r d s top life kr1 kd2 ks (rows++[x]) (rows++[x]) (Std top rows) (1+21 * rows.length)->k2 [some (.ref p),some x.d,none] M2:=by
   intro M2 kd2 G2;rw[e2];clear e2;refine Q0c fun k3 e3=>?_;walk_at "ev";refine ix_tup (by omega) (by simp) fun d0 hd0=>?_
   cases hd0;rw[e3];clear e3;refine Q0c fun k4 e4=>?_;show zau _ _ _ _ _;refine⟨fun j ρ M'=>∃ ks',top.length<=j/\j<=x.n.length/\ρ=[some (.ref p),some x.d,some (dn (x.n.take j))] /\
    PG M0 M' p r d s top life kr1 kd2 ks' (rows++[x]) (rows++[x]) (fun n=>Std top rows n\/∃ i,j<i/\i<=x.n.length/\n=x.n.take i) (1+21 * rows.length+(x.n.length-j)),⟨x.n.length,ks,?_⟩,?_⟩
   ·have hl:top.length<=x.n.length:=by rw[<- hx.at_,Z1];omega
    refine⟨hl,Zo _,by rw[Yc],G2.same (fun n=>⟨fun a=>.inl a,?_⟩) (by omega)⟩
    rintro (a | ⟨i,h1,h2,_⟩)
    ·exact a
    ·omega
   ·rintro j ρ M' ⟨ks',hj1,hj2,rfl,G3⟩;have ej:(x.n.take j).length=j:=by rw[Z1];omega
    walk_at "ev";refine⟨p,_,_,rfl,G3.ob,Q0N,x.n.take j,s,ks',rfl,rfl,G3.hS.m,?_⟩;cases c:(valD ks' (x.n.take j)).isSome with
    | true =>
     refine iteF ?_;rw[e4];walk_at "ev";have st:Std top rows (x.n.take j):=by
      rcases (G3.hS.v _).mp c with a | ⟨i,h1,h2,h3⟩
      ·exact a
      ·have:=congrArg List.length h3;rw[ej,Z1]at this;omega
     refine Q0f (h M' ⟨r,d,s,kr1,kd2,ks',G3.same (Q9q hx hj1 hj2 st) ?_⟩);have:=hx.le;rw[Zi];show _<=1+21 * (rows.length+1);omega
    | false =>
     refine iteT ⟨_,fun ρ' M'' q=>q,?_⟩;have hjt:top.length<j:=by
      rcases lt_or_ge top.length j with a | a
      ·exact a
      ·have ej':j=top.length:=by omega
       have:(valD ks' (x.n.take j)).isSome=true:=(G3.hS.v _).mpr (.inl (.inl (by rw[ej'];exact hx.at_)))
       rw[c]at this;cases this
     refine⟨p,_,_,rfl,G3.ob,Q0N,s,x.n.take j,ks',rfl,rfl,G3.hS.m,?_,?_⟩
     ·have:=G3.hS.l;have:=hx.le;rw[ZL];omega
     ·simp only[dn];rw[Q9p,Zd,ej,<- map_take,take_take,show min (j-1) j=j-1 by omega]
      refine⟨j-1,by omega,putD ks' (x.n.take j) (.bl true),by omega,by omega,rfl,(G3.stand (x.n.take j)).same (fun n=>?_) (by omega)⟩
      constructor
      ·rintro (a | a | ⟨i,g1,g2,g3⟩)
       ·exact .inr ⟨j,by omega,hj2,a⟩
       ·exact .inl a
       ·exact .inr ⟨i,by omega,g2,g3⟩
      ·rintro (a | ⟨i,g1,g2,g3⟩)
       ·exact .inr (.inl a)
       ·by_cases hi:i=j
        ·exact .inl (by rw[g3,hi])
        ·exact .inr (.inr ⟨i,by omega,g2,g3⟩)
  walk_at "ev";refine ix_tup (by omega) (by simp) fun d0 hd0=>?_
  cases hd0;simp only[h13];walk_at "ev";refine⟨Q3X _,Q3X _,ite2 (fun c=>?_) fun c=>?_⟩
  ·rw[Zg]at c;refine⟨p,_,_,rfl,G1.ob,Q0I,?_⟩;refine ix_tup (by omega) (by simp) fun d0 hd0=>?_
   cases hd0;refine⟨d,x.n,kd,rfl,rfl,G1.hD.m,by have:=G1.hD.l;rw[ZL];omega,?_⟩
   exact step3 _ _ (G1.down c)
  ·rw[Zg]at c;exact step3 _ _ (G1.nodown c)
 refine⟨x.n,kr,rfl,by rw[Q0b nr];exact G.hR.m,kl,fun v hv=>?_,fun hv=>?_⟩
 ·obtain⟨l,rfl,g1,g2⟩:=G.hR.v _ _ hv;have lq:l≠q:=dne g1 hq;have hM:dupd M q (.lst []) l=some (.lst ((atN rows x.n).map Rw.d)):=by rw[Q0b lq];exact g1
  simp only[hM]
  try walk_at "ev"
  try simp only[hM]
  refine⟨?_,step2 _ _ ((G.new hq).grow hv)⟩;rw[Zd];have:(atN rows x.n).length<=rows.length:=Yn _ _;rw[ZL];omega
 ·have hM:dupd (dupd M q (.lst [])) r (.oth (.dct (putD kr x.n (.ref q)))) q=some (.lst []):=by rw[Q0b nr.symm,Q0a]
  simp only[hM]
  try walk_at "ev"
  try simp only[hM]
  exact⟨by simp[ZL],step2 _ _ (G.fresh hq hv)⟩
theorem ok_ag(T:Tab)(h301:T.mt 301=some ⟨"Page","lay",1,sp_aA⟩):∀ ds M R,sp_ag ds M R->evS T b_ag (za4 R) (za3 ["self","zone","row"] ds) M:=by
 rintro ds M R ⟨p,M0,top,life,rows,rfl,hp,fp,sub,hn,hr,h⟩;simp only[b_ag,zD];refine Q0c fun k1 e1=>?_;walk_at "ev";refine ix_tup (by omega) (by simp) fun d0 hd0=>?_
 cases hd0;refine⟨p,[],rfl,hp,by simp,?_⟩
 rw[e1];clear e1;refine Q0c fun k1 e1=>?_;walk_at "ev";refine ix_tup (by omega) (by simp) fun d0 hd0=>?_
 cases hd0;refine⟨p,_,rfl,Q0a,by simp[zaz],?_⟩
 rw[Q1v,Q0m (fs:=[]) (by simp),Q0m (by show ("life" : Str)∉[("top" : Str)];decide +kernel)]
 rw[e1];clear e1;refine Q0c fun k1 e1=>?_;walk_at "ev";intro r nr;have pr:p≠r:=dne Q0a nr;refine⟨p,_,rfl,by rw[Q0b pr,Q0a],by simp,?_⟩
 rw[Q0m (by show ("rows" : Str)∉[("top" : Str),"life"];decide +kernel)]
 rw[e1];clear e1;refine Q0c fun k1 e1=>?_;walk_at "ev";intro d nd;have pd:p≠d:=dne Q0a nd;rw[Q0b pd.symm]at nd;have rd:r≠d:=dne Q0a nd;refine⟨p,_,rfl,by rw[Q0b pd,Q0a],by simp,?_⟩
 rw[Q0m (by show ("downs" : Str)∉[("top" : Str),"life","rows"];decide +kernel)]
 rw[e1];clear e1;refine Q0c fun k1 e1=>?_;walk_at "ev";intro s ns;have ps:p≠s:=dne Q0a ns;rw[Q0b ps.symm]at ns;have ds:d≠s:=dne Q0a ns;rw[Q0b ds.symm,Q0b ps.symm]at ns;have rs:r≠s:=dne Q0a ns;rw[Q0b rs.symm,Q0b ps.symm]at ns;refine ix_tup (by omega) (by simp) fun d0 hd0=>?_
 cases hd0;refine⟨top,rfl,Q0a,p,_,rfl,by rw[Q0b ps,Q0b ps,Q0a],by simp,?_⟩
 rw[Q0m (by show ("standing" : Str)∉[("top" : Str),"life","rows","downs"];decide +kernel)]
 rw[e1];clear e1;rw[Q0b rd.symm,Q0b pd.symm]at nd;rw[Q0b pr.symm]at nr;have f1:M0 r=none:=sub.none nr;have f2:M0 d=none:=sub.none nd;have f3:M0 s=none:=sub.none ns
 -- what is made
 generalize hM1:dupd _ p _=M1;have G:PG M0 M1 p r d s top life [] [] [(top,.bl true)] [] [] (Std top []) (1+21 * ([]:List Rw).length):=by
  subst hM1;refine⟨Q0a,fp,?_,rd,rs,ds,⟨?_,f1,by simp,fun n v e=>(nomatch e),fun n n' l e=>(nomatch e),fun n _=>rfl,fun n _=>rfl⟩,⟨?_,f2,by simp,fun n=>rfl,.nil⟩,⟨?_,f3,by simp,fun n=>?_⟩⟩
  ·exact ((((((((sub.put fp).put f1).put fp).put f2).put fp).put f3).put f3).put fp)
  ·rw[Q0b pr.symm,Q0b rs,Q0b rs,Q0b pr.symm,Q0b rd,Q0b pr.symm,Q0a]
  ·rw[Q0b pd.symm,Q0b ds,Q0b ds,Q0b pd.symm,Q0a]
  ·rw[Q0b ps.symm,Q0a]
  ·unfold Std;by_cases e:top=n
   ·rw[Q0p e];simp[e]
   ·rw[Q0q e];constructor
    ·intro z;cases z
    ·rintro (z | ⟨_,x,hx,_⟩)
     ·exact absurd z.symm e
     ·cases hx
 clear hM1;refine Q0c fun k1 e1=>?_;walk_at "ev";refine ix_tup (by omega) (by simp) fun d0 hd0=>?_
 cases hd0;refine Q1O (fun i ρ M'=>Page M0 M' p top life (rows.take i)/\∃ v,ρ=[some (.ref p),some (zD top life rows),v]) ⟨⟨r,d,s,[],[],_,G⟩,none,rfl⟩ (fun _ _ _ _=>trivial) ?_ ?_
 ·rintro i d0 ρ M' k hi ⟨Pg,v,rfl⟩ hk;rw[Z5]at hi;cases ei:rows[i]? with
  | none=>rw[ei]at hi;cases hi
  | some x =>
   rw[ei]at hi;cases hi;have hil:=(Zk.mp ei).1;walk_at "ev";simp only[h301];walk_at "ev";obtain⟨r',d',s',kr',kd',ks',G'⟩:=id Pg;refine⟨p,_,rfl,G'.ob,Q0K,?_⟩;refine⟨p,x,M0,top,life,rows.take i,rfl,Pg,hr x (ZG ei),by rw[Z1];omega,fun M'' Pg'=>hk _ _ ⟨?_,_,rfl⟩⟩
   rw[take_add_one,ei];exact Pg'
 ·rintro ρ M' ⟨Pg,v,rfl⟩;rw[Zd,Yc]at Pg;rw[e1];walk_at "ev";exact Q0f (h M' Pg)
theorem ok_at:∀ ds M R,sp_at ds M R->evS T b_at (za4 R) (za3 ["self","name"] ds) M:=by
 rintro ds M R ⟨p,n,M0,top,life,rows,rfl,⟨r,d,s,kr,kd,ks,G⟩,h⟩;simp only[b_at];walk_at "ev";exact⟨p,_,_,rfl,G.ob,Q0N,n,s,ks,rfl,rfl,G.hS.m,Q0f (h _ (G.hS.v n))⟩
theorem ok_av(T:Tab)(h2:T.fn 2=some ⟨"above",1,[],sp_a1⟩):∀ ds M R,sp_av ds M R->evS T b_av (za4 R) (za3 ["self","name","wider"] ds) M:=by
 rintro ds M R ⟨p,n,M0,top,life,rows,rfl,⟨r,d,s,kr,kd,ks,G⟩,hl,h⟩;simp only[b_av];refine Q0c fun k1 e1=>?_;walk_at "ev";simp only[h2];walk_at "ev";refine⟨n,rfl,hl,fun a ha=>?_⟩;have G1:=G.new (o:=.lst (za7 n)) ha;refine⟨p,_,_,rfl,G1.ob,Q3W,?_⟩;walk_at "ev";simp only[Q0a];intro q hq;have qa:q≠a:=(dne Q0a hq).symm;have el:(((top.map D.str).length:Int)+1)=((top.length+1:Nat):Int):=by rw[Zd];omega
 unfold dn;rw[el,Q5l];have G2:=G1.new (o:=.lst ((za7 n).drop (top.length+1))) hq
 try simp only[Q0a]
 have ea:(za7 n).drop (top.length+1)=(((List.range (n.length+1)).drop (top.length+1)).map fun k=>n.take k).map dn:=by
  unfold za7;rw[<- map_drop,map_map];rfl
 rw[ea];rw[ea]at G2;generalize hL:((List.range (n.length+1)).drop (top.length+1)).map (fun k=>n.take k)=L at *;generalize hM2:dupd (dupd M a _) q _=M2 at *;have hcd:M2 q=some (.lst (L.map dn)):=by rw[<- hM2,Q0a]
 have hsub:Sub M M2:=by rw[<- hM2];exact (Sub.new ha).put (by rw[Q0b qa]at hq;exact hq)
 have hcut:∀ (i:Nat) (m:List W),L[i]? = some m->(∀ (j:Nat) (y:List W),j<i->L[j]? = some y->(zao rows y).isSome=false)->(zao rows m).isSome=true->cutN top rows n=some m:=by
  intro i m hi hb hm;unfold cutN;rw[hL];obtain⟨h1,h2⟩:=Zk.mp hi;exact List.find?_eq_some_iff_getElem.mpr ⟨hm,i,h1,h2,fun j hj=>by rw[hb j _ hj (Zt _)];rfl⟩
 refine Q1O (fun i ρ M'=>M'=M2/\(∃ v,ρ=[some (.ref p),some (dn n),v])/\∀ (j:Nat) (y:List W),j<i->L[j]? = some y->(zao rows y).isSome=false) ⟨rfl,⟨none,rfl⟩,fun j y hj=>absurd hj (not_lt_zero j)⟩ (fun i ρ M' h=>by rw[h.1];exact hcd) ?_ ?_
 ·rintro i d0 ρ M' k hi ⟨rfl,⟨v,rfl⟩,hb⟩ hk;rw[Z5]at hi;cases ei:L[i]? with
  | none=>rw[ei]at hi;cases hi
  | some m =>
   rw[ei]at hi;cases hi;walk_at "ev";refine⟨p,_,_,rfl,G2.ob,Q0I,m,d,kd,rfl,rfl,G2.hD.m,?_⟩;rw[G2.hD.v];cases c:(zao rows m).isSome with
   | true =>
    refine iteT ⟨M,hsub,?_⟩;have:cutD top rows n=dn m:=by unfold cutD;rw[hcut i m ei hb c]
    rw[<- this];exact h
   | false =>
    refine iteF (hk _ _ ⟨rfl,⟨_,rfl⟩,fun j y hj hy=>?_⟩);by_cases hji:j=i
    ·subst hji;rw[ei]at hy;cases hy;exact c
    ·exact hb j y (by omega) hy
 ·rintro ρ M' ⟨rfl,⟨v,rfl⟩,hb⟩;rw[e1];walk_at "ev";refine⟨M,hsub,?_⟩;have:cutD top rows n=.non:=by
   have e:cutN top rows n=none:=by
    unfold cutN;rw[hL];refine find?_eq_none.mpr fun y hy=>?_;obtain⟨j,hj⟩:=mem_iff_getElem?.mp hy;rw[hb j y (by rw[Zd];exact (Zk.mp hj).1) hj]
    simp
   unfold cutD;rw[e]
  rw[<- this];exact h
theorem szL(h:n<=1000):n<=sizeLine:=le_of_lt (small1000 h)
noncomputable def IsN(k:W):Prop:=k=[100,111,119,110]\/k=[101,108,115,101]
structure RowOk(top:List W)(x:Rw):Prop where
 in_:zc4 top x
 pv:(IsN x.k/\∃ b:List W,x.v=dn b)\/(¬ IsN x.k/\∃ w:W,x.v=.str w)
theorem Q0D(k:Nat)(ws:List W):plain (k+2) (dn ws)=true:=by
 show (ws.map D.str).all (plain (k+1))=true;rw[ZM];intro d hd;obtain⟨w,_,rfl⟩:=ZI.mp hd;rfl
theorem RowOk.v(h:RowOk top x)(k:Nat):plain (k+2) x.v=true:=by
 rcases h.pv with ⟨_,b,e⟩ | ⟨_,w,e⟩
 ·rw[e];exact Q0D k b
 ·rw[e];rfl
theorem RowOk.d(h:RowOk top x)(k:Nat):plain (k+3) x.d=true:=by
 show [dn x.n,.int x.l,.str x.k,x.v].all (plain (k+2))=true;simp only[Ye,all_nil,Q0D,h.v,Bool.and_true,Bool.true_and];rfl
theorem Q6c{top:List W}{rows:List Rw}(h:∀ x∈rows,RowOk top x)(k:Nat):plain (k+4) (.lst (rows.map Rw.d))=true:=by
 show (rows.map Rw.d).all (plain (k+3))=true;rw[ZM];intro d hd;obtain⟨x,hx,rfl⟩:=ZI.mp hd;exact (h x hx).d k
theorem Q1K(hx:x<10 ^ 31):((x:Nat):Int).natAbs.log2<1920:=by
 rw[Int.natAbs_natCast];by_cases h0:x=0
 ·subst h0;decide
 ·exact (Nat.log2_lt h0).mpr (Z8 hx (Z4 (by decide:10 ^ 31<=2 ^ 128) (Nat.pow_le_pow_right (by decide) (by decide))))
theorem Q9r{α:Type}(xs:List α):cut xs (some (-1)) none=xs.drop (xs.length-1):=by
 unfold cut;have e:HT.sIx xs.length 0 (some (-1))=xs.length-1:=by
  show (if ((-1:Int)<0) then ((-1:Int)+(xs.length:Int)).toNat else min (-1:Int).toNat xs.length)=_
  rw[Ze (by decide)]
  omega
 rw[sIx_none,e,Ys (by rw[length_drop];exact Zo _)]
noncomputable def b_aw:CS :=
  (.seq (.ret (.cmp .eq (.sl (.var 0) (.neg (.con (.int 1))) .nil) (.tup (.cons (.glob 11) .nil))))
  .nil)
noncomputable def b_a9:CS :=
  (.seq (.ret (.blt .min1 (.cons (.compz false [] (.var 0) .nil (.ix (.var 0) (.con (.int 1)))) .nil)))
  .nil)
noncomputable def b_aa:CS :=
  (.seq (.ret (.frz (.blt .sorted (.cons (.compz false [] (.var 0) .nil (.ix (.var 0) (.con (.int 3)))) .nil))))
  .nil)
noncomputable def b_ab:CS :=
  (.seq (.ret (.compz false [2] (.dget2 (.fld "Page" "rows" (.var 0)) (.var 1) (.lstz .nil)) (.cmp .eq (.ix (.var 0) (.con (.int 2))) (.var 1)) (.var 0)))
  .nil)
noncomputable def b_as:CS :=
  (.seq (.ite (.and (.call 5 (.cons (.var 1) .nil)) (.cmp .ninD (.var 1) (.fld "Page" "rows" (.var 0))))
  (.seq (.ret (.tup (.cons (.glob 17) (.cons (.fld "Page" "life" (.var 0)) .nil))))
  .nil)
  .nil)
  (.seq (.set 3 (.meth 309 (.var 0) (.cons (.var 1) (.cons (.glob 12) .nil))))
  (.seq (.ite (.cmp .ne (.var 3) (.lstz .nil))
  (.seq (.ret (.tup (.cons (.glob 12) (.cons (.ix (.ix (.var 3) (.con (.int 0))) (.con (.int 3))) (.cons (.ix (.ix (.var 3) (.con (.int 0))) (.con (.int 1))) .nil)))))
  .nil)
  .nil)
  (.seq (.set 4 (.meth 309 (.var 0) (.cons (.var 1) (.cons (.var 2) .nil))))
  (.seq (.ite (.cmp .ne (.var 4) (.lstz .nil))
  (.seq (.ret (.tup (.cons (.glob 15) (.cons (.call 23 (.cons (.var 4) .nil)) (.cons (.call 24 (.cons (.var 4) .nil)) .nil)))))
  .nil)
  .nil)
  (.seq (.ret (.tup (.cons (.glob 16) (.cons (.fld "Page" "life" (.var 0)) .nil))))
  .nil))))))
noncomputable def b_aq:CS :=
  (.seq (.set 2 (.ix (.compz false [0] (.call 2 (.cons (.var 1) .nil)) (.meth 302 (.var 1) (.cons (.var 0) .nil)) (.var 0)) (.neg (.con (.int 1)))))
  (.seq (.ret (.ite (.cmp .eq (.var 2) (.var 1)) (.var 1) (.bin .add (.var 2) (.tup (.cons (.glob 11) .nil)))))
  .nil))
noncomputable def b_au:CS :=
  (.seq (.set 2 (.dix (.fld "Page" "downs" (.var 0)) (.var 1)))
  (.seq (.set 3 (.ix (.var 2) (.con (.int 3))))
  (.seq (.set 4 (.ite (.call 1 (.cons (.var 3) (.cons (.var 1) .nil))) (.meth 309 (.var 0) (.cons (.var 3) (.cons (.glob 14) .nil))) (.lstz .nil)))
  (.seq (.ret (.tup (.cons (.glob 13) (.cons (.var 1) (.cons (.var 3) (.cons (.call 23 (.cons (.var 4) .nil)) (.cons (.call 24 (.cons (.frz (.bin .addL (.lstz (.cons (.var 2) .nil)) (.var 4))) .nil)) .nil)))))))
  .nil))))
noncomputable def b_aC:CS :=
  (.seq (.set 3 (.meth 303 (.var 0) (.cons (.var 1) .nil)))
  (.seq (.ite (.cmp .notN (.var 3) (.con .non))
  (.seq (.ret (.meth 306 (.var 0) (.cons (.var 3) .nil)))
  .nil)
  .nil)
  (.seq (.ret (.meth 308 (.var 0) (.cons (.meth 307 (.var 0) (.cons (.var 1) .nil)) (.cons (.var 2) .nil))))
  .nil)))
theorem Q7A{a b:List W}(h:a.Perm b)(ha:a.Pairwise (fun x y=>x<=y))(hb:b.Pairwise (fun x y=>x<=y)):a=b :=
 List.Perm.eq_of_pairwise (le:=fun x y:W=>x<=y) (fun x y _ _ h1 h2=>Std.le_antisymm h1 h2) ha hb h
noncomputable def zbL(zs:List W):List W:=Classical.epsilon fun zs'=>zs'.Perm zs/\zs'.Pairwise (fun x y=>x<=y)
theorem Q2Y(h:zs'.Perm zs)(hs:zs'.Pairwise (fun x y=>x<=y)):zs'=zbL zs:=by
 have:=Classical.epsilon_spec (p:=fun zs':List W=>zs'.Perm zs/\zs'.Pairwise (fun x y=>x<=y)) ⟨zs',h,hs⟩;exact Q7A (h.trans this.1.symm) hs this.2
noncomputable def minI(ns:List Int):Int:=Classical.epsilon fun z=>z∈ns/\∀ a∈ns,z<=a
theorem Q2m(h:z∈ns)(hs:∀ a∈ns,z<=a):z=minI ns:=by
 have:=Classical.epsilon_spec (p:=fun z:Int=>z∈ns/\∀ a∈ns,z<=a) ⟨z,h,hs⟩;have h1:=hs _ this.1;have h2:=this.2 _ h;show z=minI ns;unfold minI;omega
noncomputable def za9:W:=[101,108,115,101]
noncomputable def za1:W:=[100,111,111,114]
noncomputable def zaR:W:=[114,111,119,115]
noncomputable def zbR:W:=[101,109,112,116,121]
noncomputable def kNone:W:=[110,111,110,101]
noncomputable def za8(rows:List Rw)(k:W):List Rw:=rows.filter fun x=>decide (x.k=k)
noncomputable def zbd:D->W
 | .str w=>w
 | _=>[]
noncomputable def nmOf:D->List W
 | .tup xs=>xs.map zbd
 | _=>[]
theorem Q1s(a:List W):nmOf (dn a)=a:=by
 unfold nmOf dn;simp only[map_map]
 induction a with
 | nil=>rfl
 | cons x r ih=>rw[Zy,ih];rfl
noncomputable def valsD(xs:List Rw):D:=.lst ((zbL (xs.map fun x=>zbd x.v)).map D.str)
noncomputable def lifeD(xs:List Rw):D:=.int (minI (xs.map fun x=>x.l))
noncomputable def zc3(rows:List Rw)(pl:List W)(k:W)(life:Int):D:=match za8 (atN rows pl) za9 with
 | x::_=>.tup [.str za9,x.v,.int x.l]
 | []=>match za8 (atN rows pl) k with
  | x::r=>.tup [.str zaR,valsD (x::r),lifeD (x::r)]
  | []=>.tup [.str zbR,.int life]
noncomputable def zaI(rows:List Rw)(pl:List W)(k:W)(life:Int):D :=
 if pl.drop (pl.length-1)=[[42]]/\atN rows pl=[] then .tup [.str kNone,.int life] else zc3 rows pl k life
open Classical in
noncomputable def zan(top:List W)(rows:List Rw)(n:List W):Nat:=(((List.range (n.length+1)).filter fun j=>decide (Std top rows (n.take j))).getLast?).getD 0
noncomputable def zad(top:List W)(rows:List Rw)(n:List W):List W:=if zan top rows n=n.length then n else n.take (zan top rows n)++[[42]]
noncomputable def zag(rows:List Rw)(c:List W):Option Rw:=(rows.filter fun x=>decide (x.k=zae/\x.n=c)).getLast?
theorem Q1f(rows:List Rw)(c:List W):zao rows c=(zag rows c).map Rw.d:=rfl
noncomputable def zaE(rows:List Rw)(c h:List W):List Rw:=if h.take c.length=c then za8 (atN rows h) za1 else []
noncomputable def zbn(rows:List Rw)(x:Rw):D:=.tup [.str zae,dn x.n,x.v,valsD (zaE rows x.n (nmOf x.v)),lifeD (x::zaE rows x.n (nmOf x.v))]
noncomputable def zax(top:List W)(life:Int)(rows:List Rw)(n:List W)(k:W):D:=match cutN top rows n with
 | some c=>match zag rows c with
  | some x=>zbn rows x
  | none=>.non
 | none=>zaI rows (zad top rows n) k life
noncomputable def Good(top:List W)(rows:List Rw):Prop:=rows.length<60/\∀ x∈rows,RowOk top x
noncomputable def sp_aw:DSp:=fun ds M R=>∃ n:List W,ds=[dn n]/\R (.bl (decide (n.drop (n.length-1)=[[42]]))) M
noncomputable def sp_a9:DSp:=fun ds M R=>∃ xs:List Rw,ds=[.lst (xs.map Rw.d)]/\0<xs.length/\xs.length<=900/\R (lifeD xs) M
noncomputable def sp_aa:DSp:=fun ds M R=>∃ xs:List Rw,ds=[.lst (xs.map Rw.d)]/\xs.length<64/\(∀ x∈xs,∃ w,x.v=.str w)/\R (valsD xs) M
noncomputable def sp_ab:DSp:=fun ds M R=>∃ (p:Addr) (n:List W) (k:W) (M0:DH) (top:List W) (life:Int) (rows:List Rw),ds=[.ref p,dn n,.str k]/\Page M0 M p top life rows/\rows.length<=900/\R (.lst ((za8 (atN rows n) k).map Rw.d)) M
noncomputable def sp_aq:DSp:=fun ds M R=>∃ (p:Addr) (n:List W) (M0:DH) (top:List W) (life:Int) (rows:List Rw),ds=[.ref p,dn n]/\Page M0 M p top life rows/\n.length<=900/\n.take top.length=top/\R (dn (zad top rows n)) M
noncomputable def sp_as:DSp:=fun ds M R=>∃ (p:Addr) (n:List W) (k:W) (M0:DH) (top:List W) (life:Int) (rows:List Rw),ds=[.ref p,dn n,.str k]/\Page M0 M p top life rows/\Good top rows/\¬ IsN k/\R (zaI rows n k life) M
noncomputable def sp_au:DSp:=fun ds M R=>∃ (p:Addr) (c:List W) (x:Rw) (M0:DH) (top:List W) (life:Int) (rows:List Rw),ds=[.ref p,dn c]/\Page M0 M p top life rows/\Good top rows/\zag rows c=some x/\R (zbn rows x) M
noncomputable def sp_aC:DSp:=fun ds M R=>∃ (p:Addr) (n:List W) (k:W) (M0:DH) (top:List W) (life:Int) (rows:List Rw),ds=[.ref p,dn n,.str k]/\Page M0 M p top life rows/\Good top rows/\¬ IsN k/\n.length<=900/\n.take top.length=top/\R (zax top life rows n k) M
theorem Good.in(h:Good top rows):∀ x∈rows,zc4 top x:=fun x hx=>(h.2 x hx).in_
theorem Q1D(h:x∈za8 rows k):x∈rows/\x.k=k:=by
 obtain⟨h1,h2⟩:=ZN.mp h;exact⟨h1,Zv h2⟩
theorem Q2Z(h:x∈atN rows n):x∈rows/\x.n=n:=by
 obtain⟨h1,h2⟩:=ZN.mp h;exact⟨h1,Zv h2⟩
theorem Q2n(rows:List Rw)(n:List W)(k:W):(za8 (atN rows n) k).length<=rows.length:=Z4 (Yn _ _) (Yn _ _)
theorem Good.strs(h:Good top rows)(hk:¬ IsN k):∀ x∈za8 (atN rows n) k,∃ w,x.v=.str w:=by
 intro x hx;obtain⟨h1,h2⟩:=Q1D hx;obtain⟨h3,h4⟩:=Q2Z h1;rcases (h.2 x h3).pv with ⟨a,_⟩ | ⟨_,b⟩
 ·rw[h2]at a;exact absurd a hk
 ·exact b
theorem Good.plain(h:Good top rows)(n:List W)(k:W):DL.plain 12 (.lst ((za8 (atN rows n) k).map Rw.d))=true :=
 Q6c (top:=top) (fun x hx=>h.2 x (Q2Z (Q1D hx).1).1) 8
section
variable{T:Tab}
theorem ok_aw(T:Tab)(h11:T.con 11=some (("STAR" : Str),D.str [42])):∀ ds M R,sp_aw ds M R->evS T b_aw (za4 R) (za3 ["name"] ds) M:=by
 rintro ds M R ⟨n,rfl,h⟩;simp only[b_aw,dn];walk_at "ev";simp only[h11];walk_at "ev";have e:([D.str [42]]:List D)=([[42]]:List W).map D.str:=rfl;rw[e];simp only[Q9r,Zd,<- map_drop,Q7y];exact⟨szL (by decide),Q0E _,Q0E _,Q0f h⟩
theorem ok_a9:∀ ds M R,sp_a9 ds M R->evS T b_a9 (za4 R) (za3 ["rows"] ds) M:=by
 rintro ds M R ⟨xs,rfl,h0,hl,h⟩;simp only[b_a9];walk_at "ev";refine Q1C (fun d=>match d with | .tup [_,l,_,_]=>l | d=>d) trivial (by rw[Zd];omega) ?_ ?_
 ·intro d k hd hk;obtain⟨x,_,rfl⟩:=ZI.mp hd;simp only[Rw.d]at hk ⊢;walk_at "ev";refine ix_tup (by omega) (by simp) fun d0 hd0=>?_
  cases hd0;exact hk
 ·have e:(xs.map Rw.d).map (fun d=>match d with | .tup [_,l,_,_]=>l | d=>d)=(xs.map fun x=>x.l).map D.int:=by
   rw[map_map,map_map];rfl
  rw[e];refine⟨szL (by rw[Zd,Zd];omega),xs.map fun x=>x.l,rfl,by rw[Zd];exact h0,fun z hz hs=>Q0f ?_⟩
  rw[Q2m hz hs];exact h
theorem ok_aa:∀ ds M R,sp_aa ds M R->evS T b_aa (za4 R) (za3 ["rows"] ds) M:=by
 rintro ds M R ⟨xs,rfl,h64,hv,h⟩;simp only[b_aa];walk_at "ev";simp only[dFrz];walk_at "ev";refine Q1C (fun d=>match d with | .tup [_,_,_,v]=>.str (zbd v) | d=>d) trivial (by rw[Zd];omega) ?_ ?_
 ·intro d k hd hk;obtain⟨x,hx,rfl⟩:=ZI.mp hd;obtain⟨w,hw⟩:=hv x hx;simp only[Rw.d,hw,zbd]at hk ⊢;walk_at "ev";refine ix_tup (by omega) (by simp) fun d0 hd0=>?_
  cases hd0;exact hk
 ·have e:(xs.map Rw.d).map (fun d=>match d with | .tup [_,_,_,v]=>.str (zbd v) | d=>d)=(xs.map fun x=>zbd x.v).map D.str:=by
   rw[map_map,map_map];rfl
  rw[e];refine⟨szL (by rw[Zd,Zd];omega),xs.map fun x=>zbd x.v,rfl,by rw[Zd];exact h64,fun zs hp hs q hq=>?_⟩
  simp only[Q0a];rw[Q2Y hp hs];refine⟨M,fun c o e=>?_,h⟩;unfold ddel dupd;have:c≠q:=dne e hq;rw[Zc this,Zc this];exact e
theorem ok_ab:∀ ds M R,sp_ab ds M R->evS T b_ab (za4 R) (za3 ["self","place","kind"] ds) M:=by
 rintro ds M R ⟨p,n,k,M0,top,life,rows,rfl,⟨r,d,s,kr,kd,ks,G⟩,hn,h⟩;simp only[b_ab];walk_at "ev";refine⟨p,_,_,rfl,G.ob,Q1G,r,kr,rfl,G.hR.m,szL (by decide),n,kr,rfl,G.hR.m,?_⟩
 have loop:∀ (xs:List Rw) (Cd:DH->Prop),xs.length<=900->Cd M->zam [some (.str k)] (fun d=>some [d]) (dB (dOp (rEqN id) (dOp rIxD (dVar 0) (dC (.int 2))) (dVar 1))) (dVar 0) Cd (fun ys M2=>ys.length<=sizeLine/\∃ M0,Sub M0 M2/\(ys=(za8 xs k).map Rw.d->R (.lst ys) M0)) (xs.map Rw.d) [] M->True:=fun _ _ _ _ _=>trivial;clear loop;have turn:∀ (xs:List Rw),(xs.map Rw.d).length<=900->∀ (i:Nat) (d:D) (ys:List D) (M':DH) (kk:List D->DH->Prop),(xs.map Rw.d)[i]? = some d->M'=M/\ys=(za8 (xs.take i) k).map Rw.d->(∀ ys' M'',(M''=M/\ys'=(za8 (xs.take (i+1)) k).map Rw.d)->kk ys' M'') ->
   dB (dOp (rEqN id) (dOp rIxD (dVar 0) (dC (.int 2))) (dVar 1)) [some d,some (.str k)] M' fun b M3=>if b=true then dVar 0 [some d,some (.str k)] M3 fun z M4=>ys.length<sizeLine/\kk (ys++[z]) M4 else kk ys M3:=by
  rintro xs hxl i d ys M' kk hd ⟨rfl,rfl⟩ hk;rw[Z5]at hd;cases ei:xs[i]? with
  | none=>rw[ei]at hd;cases hd
  | some x =>
   rw[ei]at hd;cases hd;simp only[Rw.d];walk_at "ev";refine ix_tup (by omega) (by simp) fun d0 hd0=>?_
   cases hd0;walk_at "ev";have hs:za8 (xs.take (i+1)) k=za8 (xs.take i) k++za8 [x] k:=by
    rw[take_add_one,ei];unfold za8;rw[ZY];rfl
   refine⟨rfl,rfl,ite2 (fun q=>?_) fun q=>hk _ _ ⟨rfl,?_⟩⟩
   ·rw[Zg]at q;refine⟨small1000 ?_,hk _ _ ⟨rfl,?_⟩⟩
    ·rw[Zd];refine Z4 (Yn _ _) ?_;rw[Z1];rw[Zd]at hxl;omega
    ·rw[hs,Z7];unfold za8;rw[ZT,Ze (Zm q)];rfl
   ·rw[Zg]at q;rw[hs];unfold za8;rw[ZT,Zc (by rw[Zg];exact q),filter_nil,Yh]
 cases e:valD kr n with
 | none =>
  have en:=G.hR.no n e;rw[en]at h;exact⟨trivial,szL (by decide),Q0f h⟩
 | some v =>
  obtain⟨l,rfl,g1,g2⟩:=G.hR.v n v e;simp only[g1];have hxl:((atN rows n).map Rw.d).length<=900:=by
   rw[Zd];exact Z4 (Yn _ _) hn
  refine Q0n (fun i ys M'=>M'=M/\ys=(za8 ((atN rows n).take i) k).map Rw.d) ⟨rfl,rfl⟩ (fun i ys M' h=>by rw[h.1];exact g1) (fun i d ys M' kk hd hi hk=>turn _ hxl i d ys M' kk hd hi hk) ?_
  rintro ys M' ⟨rfl,rfl⟩;have tl:(atN rows n).take ((atN rows n).map Rw.d).length=atN rows n:=by rw[Zd,Yc]
  rw[tl];refine⟨szL ?_,Q0f h⟩;rw[Zd];exact Z4 (Q2n rows n k) (by omega)
end
open Classical in
theorem Q7B(top:List W)(rows:List Rw)(n:List W)(ht:n.take top.length=top):zan top rows n<=n.length/\top.length<=zan top rows n/\Std top rows (n.take (zan top rows n))/\∀ j,zan top rows n<j->j<=n.length->¬ Std top rows (n.take j):=by
 unfold zan;have hl:top.length<=n.length:=by rw[<- ht,Z1];omega
 generalize hF:(List.range (n.length+1)).filter (fun j=>decide (Std top rows (n.take j)))=F;have mem:∀ j,j∈F <-> j<=n.length/\Std top rows (n.take j):=fun j=>by
  rw[<- hF,ZN,ZZ,Zg];exact⟨fun z=>⟨by omega,z.2⟩,fun z=>⟨by omega,z.2⟩⟩
 have tm:top.length∈F:=(mem _).mpr ⟨hl,.inl ht⟩;have pw:F.Pairwise (· < ·):=by rw[<- hF];exact List.Pairwise.filter _ List.pairwise_lt_range
 have hne:F≠[]:=fun z=>by rw[z]at tm;cases tm
 rw[List.getLast?_eq_some_getLast hne,Option.getD_some];have lastm:=(mem _).mp (List.getLast_mem hne);have big:∀ j∈F,j<=F.getLast hne:=by
  intro j hj;obtain⟨i,hi,rfl⟩:=List.mem_iff_getElem.mp hj;rw[List.getLast_eq_getElem];rcases lt_or_ge i (F.length-1) with z | z
  ·exact le_of_lt (List.pairwise_iff_getElem.mp pw i (F.length-1) hi (by omega) z)
  ·have:i=F.length-1:=by omega
   subst this;exact Zo _
 exact⟨lastm.1,big _ tm,lastm.2,fun j hj hjn hs=>absurd (big j ((mem j).mpr ⟨hjn,hs⟩)) (by omega)⟩
theorem ok_aq(T:Tab)(h302:T.mt 302=some ⟨"Page","has",1,sp_at⟩)(h2:T.fn 2=some ⟨"above",1,[],sp_a1⟩)(h11:T.con 11=some (("STAR" : Str),D.str [42])):∀ ds M R,sp_aq ds M R->evS T b_aq (za4 R) (za3 ["self","name","nearest"] ds) M:=by
 rintro ds M R ⟨p,n,M0,top,life,rows,rfl,Pg,hl,ht,h⟩;obtain⟨r,d,s,kr,kd,ks,G⟩:=id Pg;obtain⟨n1,n2,n3,n4⟩:=Q7B top rows n ht;simp only[b_aq];refine Q0c fun k1 e1=>?_;walk_at "ev";simp only[h2,h302];walk_at "ev";refine⟨n,rfl,hl,fun a ha=>?_⟩;have G1:=G.new (o:=.lst (za7 n)) ha;have Pg1:Page M0 (dupd M a (.lst (za7 n))) p top life rows:=⟨_,_,_,_,_,_,G1⟩;have sM:Sub M (dupd M a (.lst (za7 n))):=Sub.new ha;simp only[Q0a];have len:(za7 n).length=n.length+1:=by unfold za7;rw[Zd,ZD]
 refine Q0n (fun i ys M'=>M'=dupd M a (.lst (za7 n))/\ys.length<=i/\(zan top rows n<i->ys[ys.length-1]? = some (dn (n.take (zan top rows n))))) ⟨rfl,Zo _,fun z=>absurd z (not_lt_zero _)⟩ (fun i ys M' h=>by rw[h.1,Q0a]) ?_ ?_
 ·rintro i d0 ys M' k hd ⟨rfl,hyl,hy⟩ hk;have hi:i<n.length+1:=by rw[<- len];exact (Zk.mp hd).1
  unfold za7 at hd;rw[Z5,getElem?_range hi]at hd;cases hd;walk_at "ev";refine⟨p,_,rfl,G1.ob,Q0K,p,n.take i,M0,top,life,rows,rfl,Pg1,fun b hb=>?_⟩;cases b with
  | true =>
   refine iteT ⟨small1000 (by omega),hk _ _ ⟨rfl,by rw[Zi];show ys.length+1<=i+1;omega,fun z=>?_⟩⟩
   have hs:=hb.mp rfl;have:i=zan top rows n:=by
    rcases lt_or_ge (zan top rows n) i with q | q
    ·exact absurd hs (n4 i q (by omega))
    ·omega
   rw[Zi];show (ys++[dn (n.take i)])[ys.length+1-1]? = _;rw[Nat.add_sub_cancel,Ym (Zo _),sub_self,this];rfl
  | false =>
   refine iteF (hk _ _ ⟨rfl,by omega,fun z=>?_⟩)
   rcases lt_or_ge (zan top rows n) i with q | q
   ·exact hy q
   ·have:i=zan top rows n:=by omega
    rw[this]at hb;exact absurd (hb.mpr n3) (by decide)
 ·rintro ys M' ⟨rfl,hyl,hy⟩;rw[len]at hyl hy;refine⟨szL (by omega),?_⟩
  try walk_at "ev"
  refine Q4y (hy (by omega)) ?_
  rw[e1];clear e1;walk_at "ev";simp only[h11];simp only[dn];walk_at "ev";simp only[Q7y];unfold zad at h;have lt:(n.take (zan top rows n)).length=zan top rows n:=by rw[Z1];omega
  refine⟨Q0E _,Q0E _,ite2 (fun q=>?_) fun q=>?_⟩
  ·rw[Zg]at q;rw[Ze (by rw[<- lt,q])]at h
   exact⟨M,sM,h⟩
  ·rw[Zg]at q;rw[Zc (fun z=>q (by rw[z,Yc]))]at h
   refine⟨szL (by decide),szL (by rw[Zd,lt];(try simp only[Zj,ZU]);omega),M,sM,?_⟩
   unfold dn at h;rw[Z7]at h;exact h
theorem ok_as(T:Tab)(h24:T.fn 24=some ⟨"least_life",1,[],sp_a9⟩)(h23:T.fn 23=some ⟨"values_of",1,[],sp_aa⟩)(h309:T.mt 309=some ⟨"Page","rows_at",2,sp_ab⟩)(h5:T.fn 5=some ⟨"is_star_name",1,[],sp_aw⟩)
  (h16:T.con 16=some (("EMPTY" : Str),D.str [101,109,112,116,121])) (h15:T.con 15=some (("ROWS" : Str),D.str [114,111,119,115])) (h12:T.con 12=some (("ELSE" : Str),D.str [101,108,115,101])) (h17:T.con 17=some (("NONE" : Str),D.str [110,111,110,101])) :
  ∀ ds M R,sp_as ds M R->evS T b_as (za4 R) (za3 ["self","place","kind","others","rows"] ds) M:=by
 rintro ds M R ⟨p,n,k,M0,top,life,rows,rfl,Pg,hg,hk,h⟩;obtain⟨r,d,s,kr,kd,ks,G⟩:=id Pg;simp only[b_as];refine Q0c fun k1 e1=>?_;have nom:∀ {m:Str},(m == "top")=false->(m == "life")=false->(m == "rows")=false->(m == "downs")=false->(m == "standing")=false->List.lookup m (zaP top life r d s)=none:=fun a b c d e=>Q0K a b c d e;have rest:(¬ (n.drop (n.length-1)=[[42]]/\atN rows n=[]))->k1 [some (.ref p),some (dn n),some (.str k),none,none] M:=by
  intro hne;unfold zaI at h;rw[Zc hne]at h;rw[e1];clear e1;refine Q0c fun k1 e1=>?_;walk_at "ev";simp only[h309,h12];walk_at "ev";refine⟨p,_,rfl,G.ob,nom (by decide +kernel) (by decide +kernel) (by decide +kernel) (by decide +kernel) (by decide +kernel),p,n,[101,108,115,101],M0,top,life,rows,rfl,Pg,by have:=hg.1;omega,?_⟩
  rw[e1];clear e1;refine Q0c fun k1 e1=>?_;unfold zc3 at h;cases ee:za8 (atN rows n) za9 with
  | cons x xs =>
   rw[ee]at h;have pl:=hg.plain n za9;rw[ee]at pl;have:za8 (atN rows n) [101,108,115,101]=x::xs:=ee;rw[this];walk_at "ev";refine⟨szL (by decide),pl,rfl,?_⟩
   have ne:eqB (.lst ((x::xs).map Rw.d)) (.lst [])=false:=(Q0T _ _).mpr (fun z=>by cases z)
   simp only[Zy]at ne;simp only[Zy,ne,Bool.not_false,Yw];simp only[h12];walk_at "ev";refine Q1l (by omega) (by simp) fun d0 hd0=>?_
   cases hd0;simp only[Rw.d];refine ix_tup (by omega) (by simp) fun d0 hd0=>?_
   cases hd0;refine Q1l (by omega) (by simp) fun d0 hd0=>?_
   cases hd0;refine ix_tup (by omega) (by simp) fun d0 hd0=>?_
   cases hd0;exact⟨szL (by decide),Q0f h⟩
  | nil =>
   rw[ee]at h;have:za8 (atN rows n) [101,108,115,101]=[]:=ee;rw[this];walk_at "ev";refine⟨szL (by decide),rfl,rfl,?_⟩
   simp only[Q0J,Bool.not_true,ZK,Yd];rw[e1];clear e1;refine Q0c fun k1 e1=>?_;walk_at "ev";simp only[h309];walk_at "ev";refine⟨p,_,rfl,G.ob,nom (by decide +kernel) (by decide +kernel) (by decide +kernel) (by decide +kernel) (by decide +kernel),p,n,k,M0,top,life,rows,rfl,Pg,by have:=hg.1;omega,?_⟩
   rw[e1];clear e1;refine Q0c fun k1 e1=>?_;have pl:=hg.plain n k;have str:=hg.strs (n:=n) hk;have kl:=Q2n rows n k;have rl:=hg.1;cases ek:za8 (atN rows n) k with
   | cons x xs =>
    rw[ek]at h pl str kl;walk_at "ev";refine⟨szL (by decide),pl,rfl,?_⟩
    have ne:eqB (.lst ((x::xs).map Rw.d)) (.lst [])=false:=(Q0T _ _).mpr (fun z=>by cases z)
    simp only[Zy]at ne;simp only[Zy,ne,Bool.not_false,Yw];simp only[h15,h23,h24];walk_at "ev";exact⟨x::xs,rfl,by omega,str,x::xs,rfl,succ_pos _,by omega,szL (by decide),Q0f h⟩
   | nil =>
    rw[ek]at h;walk_at "ev";refine⟨szL (by decide),rfl,rfl,?_⟩
    simp only[Q0J,Bool.not_true,ZK,Yd];rw[e1];clear e1;walk_at "ev";simp only[h16];walk_at "ev";exact⟨p,_,_,rfl,G.ob,Q2D,szL (by decide),Q0f h⟩
 walk_at "ev";simp only[h5];walk_at "ev";refine⟨n,rfl,ite2 (fun q=>?_) fun q=>?_⟩
 ·rw[Zg]at q;refine⟨p,_,_,rfl,G.ob,Q1G,n,r,kr,rfl,rfl,G.hR.m,?_⟩;cases c:valD kr n with
  | none =>
   refine iteT ?_;simp only[h17];walk_at "ev";refine⟨p,_,_,rfl,G.ob,Q2D,szL (by decide),Q0f ?_⟩
   unfold zaI at h;rw[Ze ⟨q,G.hR.no n c⟩]at h;exact h
  | some v=>exact iteF (rest fun z=>by rw[G.hR.yes n z.2]at c;cases c)
 ·rw[Zg]at q;exact rest fun z=>q z.1
theorem Q4z(h:zag rows c=some x):x∈rows/\x.k=zae/\x.n=c:=by
 obtain⟨h1,h2⟩:=ZN.mp (mem_of_getLast? h);exact⟨h1,Zv h2⟩
theorem ok_au(T:Tab)(h24:T.fn 24=some ⟨"least_life",1,[],sp_a9⟩)(h23:T.fn 23=some ⟨"values_of",1,[],sp_aa⟩)(h1:T.fn 1=some ⟨"at_or_beneath",2,[],sp_ax⟩)(h309:T.mt 309=some ⟨"Page","rows_at",2,sp_ab⟩)
  (h13:T.con 13=some (("DOWN" : Str),D.str [100,111,119,110])) (h14:T.con 14=some (("DOOR" : Str),D.str [100,111,111,114])) :
  ∀ ds M R,sp_au ds M R->evS T b_au (za4 R) (za3 ["self","cut","down","house","doors"] ds) M:=by
 rintro ds M R ⟨p,c,x,M0,top,life,rows,rfl,Pg,hg,hx,h⟩;obtain⟨r,d,s,kr,kd,ks,G⟩:=id Pg;obtain⟨x1,x2,x3⟩:=Q4z hx;have xv:∃ b:List W,x.v=dn b:=by
  rcases (hg.2 x x1).pv with ⟨_,a⟩ | ⟨a,_⟩
  ·exact a
  ·exact absurd (.inl x2) a
 obtain⟨hs,hv⟩:=xv;simp only[b_au];refine Q0c fun k1 e1=>?_;walk_at "ev";refine⟨p,_,_,rfl,G.ob,Q0I,c,d,kd,x.d,rfl,rfl,G.hD.m,by rw[G.hD.v,Q1f,hx];rfl,?_⟩
 rw[e1];clear e1;refine Q0c fun k1 e1=>?_;simp only[Rw.d];walk_at "ev";refine ix_tup (by omega) (by simp) fun d0 hd0=>?_
 cases hd0;rw[e1];clear e1;refine Q0c fun k1 e1=>?_;have rl:=hg.1;unfold zbn at h;rw[hv,Q1s]at h;have fin:∀ xs:List Rw,xs=zaE rows x.n hs->xs.length<60->(∀ y∈xs,∃ w,y.v=.str w)->k1 [some (.ref p),some (dn c),some x.d,some (dn hs),some (.lst (xs.map Rw.d))] M:=by
  intro xs hxs hxl hxv;rw[e1];clear e1;walk_at "ev";simp only[h13,h23,h24];walk_at "ev";refine⟨xs,rfl,by omega,hxv,szL (by show 1<=1000;decide),?_⟩
  simp only[dFrz];walk_at "ev";refine⟨[x.d],xs.map Rw.d,rfl,rfl,szL (by rw[Zd];(try simp only[Zj,ZU]);omega),fun q hq=>?_⟩
  simp only[Q0a];refine⟨x::xs,rfl,succ_pos _,by rw[Zj];omega,szL (by decide),?_⟩
  have sM:Sub M (ddel (dupd M q (.lst ([x.d]++xs.map Rw.d))) q):=fun c o e=>by
   unfold ddel dupd;have:c≠q:=dne e hq;rw[Zc this,Zc this];exact e
  rw[<- hxs,x3]at h;exact⟨M,sM,h⟩
 walk_at "ev";simp only[h1];walk_at "ev";rw[hv];refine⟨hs,c,rfl,?_⟩;walk_at "ev";have fin':=fin;simp only[Rw.d,hv]at fin';refine ite2 (fun q=>?_) fun q=>?_
 ·rw[Zg]at q;simp only[h309,h14];walk_at "ev";refine⟨p,_,rfl,G.ob,Q0K,p,hs,[100,111,111,114],M0,top,life,rows,rfl,Pg,by omega,?_⟩
  exact fin' (za8 (atN rows hs) za1) (by unfold zaE;rw[x3,Ze q]) (by have:=Q2n rows hs za1;omega) (hg.strs (by unfold IsN za1;decide))
 ·rw[Zg]at q;refine⟨szL (by decide),?_⟩
  exact fin' [] (by unfold zaE;rw[x3,Zc q]) (by decide) (fun y hy=>nomatch hy)
theorem ok_aC(T:Tab)(h308:T.mt 308=some ⟨"Page","reply_at",2,sp_as⟩)(h307:T.mt 307=some ⟨"Page","place_of",1,sp_aq⟩)(h306:T.mt 306=some ⟨"Page","reply_down",1,sp_au⟩)(h303:T.mt 303=some ⟨"Page","cut",1,sp_av⟩) :
  ∀ ds M R,sp_aC ds M R->evS T b_aC (za4 R) (za3 ["self","name","kind","cut"] ds) M:=by
 rintro ds M R ⟨p,n,k,M0,top,life,rows,rfl,Pg,hg,hk,hn,ht,h⟩;obtain⟨r,d,s,kr,kd,ks,G⟩:=id Pg;have nom:∀ {m:Str},(m == "top")=false->(m == "life")=false->(m == "rows")=false->(m == "downs")=false->(m == "standing")=false->List.lookup m (zaP top life r d s)=none:=fun a b c d e=>Q0K a b c d e;simp only[b_aC];refine Q0c fun k1 e1=>?_;walk_at "ev";simp only[h303];walk_at "ev";refine⟨p,_,rfl,G.ob,nom (by decide +kernel) (by decide +kernel) (by decide +kernel) (by decide +kernel) (by decide +kernel),p,n,M0,top,life,rows,rfl,Pg,hn,?_⟩
 rw[e1];clear e1;refine Q0c fun k1 e1=>?_;unfold zax at h;unfold cutD;cases ec:cutN top rows n with
 | some c =>
  rw[ec]at h;have hc:(zao rows c).isSome=true:=by
   unfold cutN at ec;exact find?_some (p:=fun m=>(zao rows m).isSome) ec
  rw[Q1f,Yb]at hc;obtain⟨x,hx⟩:=Yp.mp hc;simp only[hx]at h;simp only[dn];walk_at "ev";simp only[h306];walk_at "ev";exact⟨p,_,rfl,G.ob,nom (by decide +kernel) (by decide +kernel) (by decide +kernel) (by decide +kernel) (by decide +kernel),p,c,x,M0,top,life,rows,rfl,Pg,hg,hx,Q0f h⟩
 | none =>
  rw[ec]at h;walk_at "ev";rw[e1];clear e1;walk_at "ev";simp only[h308,h307];walk_at "ev";exact⟨p,_,rfl,G.ob,nom (by decide +kernel) (by decide +kernel) (by decide +kernel) (by decide +kernel) (by decide +kernel),p,_,rfl,G.ob,nom (by decide +kernel) (by decide +kernel) (by decide +kernel) (by decide +kernel) (by decide +kernel),
   p,n,M0,top,life,rows,rfl,Pg,hn,ht,p,_,k,M0,top,life,rows,rfl,Pg,hg,hk,Q0f h⟩
noncomputable def b_ad:CS :=
  (.seq (.ite (.and (.cmp .inO (.var 1) (.fld "House" "zones" (.var 0))) (.cmp .ninD (.var 1) (.fld "House" "pages" (.var 0))))
  (.seq (.dput (.fld "House" "pages" (.var 0)) (.var 1) (.make 300 (.cons (.dix (.fld "House" "zones" (.var 0)) (.var 1)) .nil)))
  .nil)
  .nil)
  (.seq (.ret (.dget1 (.fld "House" "pages" (.var 0)) (.var 1)))
  .nil))
noncomputable def b_a2:CS :=
  (.seq (.set 4 (.meth 323 (.var 0) (.cons (.var 1) .nil)))
  (.seq (.ret (.ite (.cmp .isN (.var 4) (.con .non)) (.tup (.cons (.glob 18) .nil)) (.meth 305 (.var 4) (.cons (.var 2) (.cons (.var 3) .nil)))))
  .nil))
noncomputable def b_aj:CS :=
  (.seq (.setf "House" "zones" (.var 0) (.blt .dict (.cons (.compz false [] (.var 1) .nil (.tup (.cons (.ix (.var 0) (.con (.int 0))) (.cons (.var 0) .nil)))) .nil)))
  (.seq (.setf "House" "pages" (.var 0) .dnew)
  (.seq (.setf "House" "turned" (.var 0) .dnew)
  .nil)))
noncomputable def b_aD:CS :=
  (.seq (.ret (.tup (.cons (.ix (.var 0) (.con (.int 0))) (.cons (.ix (.var 0) (.con (.int 1))) (.cons (.blt .list (.cons (.ix (.var 0) (.con (.int 2))) .nil)) .nil)))))
  .nil)
structure Zn where
 o:W
 t:List W
 l:Int
 r:List Rw
noncomputable def Zn.v(z:Zn):D:=zD z.t z.l z.r
noncomputable def Zn.kv(z:Zn):List W×D:=(z.t,z.v)
noncomputable def atT(zs:List Zn)(n:List W):Option Zn:=zs.find? fun z=>decide (z.t=n)
theorem Q2F:∀ (zs:List Zn) (kvs:List (List W×D)) (n:List W),(zs.map (·.t)).Nodup->valD (zaA kvs (zs.map Zn.kv)) n=match atT zs n with | some z=>some z.v | none=>valD kvs n
 | [],kvs,n,_=>rfl
 | z::r,kvs,n,h=>by
  rw[Zy,nodup_cons]at h;have ih:=Q2F r (putD kvs z.t z.v) n h.2;show valD (zaA (putD kvs z.t z.v) (r.map Zn.kv)) n=_;rw[ih];unfold atT;rw[Yu];by_cases e:z.t=n
  ·rw[Zm e];have hn:r.find? (fun z=>decide (z.t=n))=none:=by
    rw[find?_eq_none];intro y hy;simp only[Zg];exact fun e2=>h.1 (ZI.mpr ⟨y,hy,e2.trans e.symm⟩)
   rw[hn];show valD (putD kvs z.t z.v) n=some z.v;rw[Q0t,Ze e.symm]
  ·rw[Zr e];cases r.find? (fun z=>decide (z.t=n)) with
   | some y=>rfl
   | none=>show valD (putD kvs z.t z.v) n=valD kvs n;rw[Q0t,Zc (fun e2=>e e2.symm)]
noncomputable def sp_aD:DSp:=fun ds M R=>∃ z:Zn,ds=[z.v]/\∀ q,M q=none->R (.tup [dn z.t,.int z.l,.ref q]) (dupd M q (.lst (z.r.map Rw.d)))
theorem ok_aD:∀ ds M R,sp_aD ds M R->evS T b_aD (za4 R) (za3 ["zone"] ds) M:=by
 rintro ds M R ⟨z,rfl,h⟩;simp only[b_aD,Zn.v,zD];walk_at "ev";walk_at "q0";walk_at "q0";walk_at "q0"
 try walk_at "ev"
 exact fun q hq=>⟨szL (by first | decide | omega),Q0f (h q hq)⟩
noncomputable def onm:Option (List W)->D
 | some a=>dn a
 | none=>.non
theorem atT_t(h:atT zs n=some z):z.t=n:=by
 have:=find?_some h;simpa using this
noncomputable def up(zs:List Zn)(a:List W):Nat->Option Zn
 | 0=>none
 | k+1=>match atT zs (a.take k) with
  | some z=>some z
  | none=>up zs a k
theorem Q2o(e:zak M d=some xs):d=.lst xs\/∃ a,d=.ref a/\M a=some (.lst xs):=by
 cases d with
 | lst ys=>cases e;exact .inl rfl
 | ref a =>
  simp only[zak]at e;cases ea:M a with
  | none=>rw[ea]at e;cases e
  | some o =>
   rw[ea]at e;cases o with
   | lst ys=>cases e;exact .inr ⟨a,rfl,ea⟩
   | oth _=>cases e
 | _=>simp only[zak]at e;cases e
theorem Q3Y{Cd:DH->Prop}{Q:List D->DH->Prop}{zs:List Zn}{M:DH}(hC:Cd M)(hl:zs.length<=900)(hd:Q ((zs.map Zn.kv).map DL.pairD) M) :
  zam [] (fun d=>some [d]) zaS (dTup (zaX (dOp rIxD (dVar 0) (dC (D.int 0))) (zaX (dVar 0) dNil))) Cd Q (zs.map Zn.v) [] M:=by
 refine Q0n (fun i ys M'=>M'=M/\ys=((zs.take i).map Zn.kv).map DL.pairD) ⟨rfl,by simp⟩ (fun i ys M' h=>by rw[h.1];exact hC) ?_ ?_
 ·rintro i d ys M' k e ⟨rfl,rfl⟩ hk;have hi:=(Zk.mp e).1;rw[Zd]at hi;rw[Z5]at e;cases ez:zs[i]? with
  | none=>rw[ez]at e;cases e
  | some z =>
   rw[ez]at e;cases e;walk_at "ev";simp only[Zn.v,zD];walk_at "q0";refine⟨szL (by decide),?_⟩
   refine⟨small1000 (by rw[Zd,Zd,Z1];omega),hk _ _ ⟨rfl,?_⟩⟩
   rw[take_add_one,ez,Z7,Z7];rfl
 ·rintro ys M' ⟨rfl,rfl⟩;rw[Zd,Yc];exact hd
theorem houseF1:zaz ("pages" : Str) b (zaz ("zones" : Str) a [])=[(("zones" : Str),a),(("pages" : Str),b)]:=by
 rw[Q0m (fs:=[]) (by simp),Q0m (by show ("pages" : Str)∉[("zones" : Str)];decide +kernel)]
 rfl
theorem houseF2:zaz ("turned" : Str) c [(("zones" : Str),a),(("pages" : Str),b)]=[(("zones" : Str),a),(("pages" : Str),b),(("turned" : Str),c)]:=by
 rw[Q0m (by show ("turned" : Str)∉[("zones" : Str),"pages"];decide +kernel)]
 rfl
noncomputable def ofD(zs:List Zn)(w:W):List Zn:=zs.filter fun z=>decide (z.o=w)
noncomputable def HsOk(M:DH)(a:Addr)(zs:List Zn):Prop:=∃ kvs,M a=some (.oth (.dkt kvs))/\∀ w,(valT kvs w=none/\ofD zs w=[])\/∃ d,valT kvs w=some d/\zak M d=some ((ofD zs w).map Zn.v)
noncomputable def vlen:D->Nat
 | .tup xs=>xs.length
 | _=>0
structure ZnOk(z:Zn):Prop where
 r:∀ x∈z.r,RowOk z.t x
 t:z.t.length<=9
 l:z.r.length<60
 v:∀ x∈z.r,vlen x.v<=20
 s:∀ w∈z.t,w≠[42]
structure ZsOk(zs:List Zn):Prop where
 ok:∀ z∈zs,ZnOk z
 l:∀ w,(ofD zs w).length<=8
 nd:∀ w,((ofD zs w).map (·.t)).Nodup
theorem ZsOk.len(h:ZsOk zs)(w:W):(ofD zs w).length<=8:=h.l w
theorem ZnOk.good(h:ZnOk z):Good z.t z.r:=⟨h.l,h.r⟩
theorem Q2p(h:z∈ofD zs w):z∈zs:=(ZN.mp h).1
noncomputable def hsF(zd pd td:Addr):List (Str×D):=[(("zones" : Str),.ref zd),(("pages" : Str),.ref pd),(("turned" : Str),.ref td)]
section
variable{zd pd td:Addr}
theorem hsF_z:List.lookup ("zones" : Str) (hsF zd pd td)=some (D.ref zd):=Q1e
theorem hsF_p:List.lookup ("pages" : Str) (hsF zd pd td)=some (D.ref pd):=(Q0i (by decide +kernel)).trans Q1e
theorem Q7C{m:Str}(h1:(m == "zones")=false:=by decide +kernel)(h2:(m == "pages")=false:=by decide +kernel)(h3:(m == "turned")=false:=by decide +kernel):List.lookup m (hsF zd pd td)=none:=(Q0i h1).trans ((Q0i h2).trans ((Q0i h3).trans rfl))
end
section
variable{M0 M:DH}{p r d s q:Addr}{top:List W}{life:Int}{kr kd ks:List (List W×D)}{rr rd:List Rw}{o:MO}{S:List W->Prop}{k:Nat}
theorem PG.mono(h:PG M0 M p r d s top life kr kd ks rr rd S k)(sb:Sub M M'):PG M0 M' p r d s top life kr kd ks rr rd S k :=
 {h with
  ob:=sb _ _ h.ob
  sub:=h.sub.trans sb
  hR:={ h.hR with
   m:=sb _ _ h.hR.m
   v:=fun n v e=>by
    obtain⟨l,e1,h1,h2⟩:=h.hR.v n v e;exact⟨l,e1,sb _ _ h1,h2⟩ }
  hD:={ h.hD with m:=sb _ _ h.hD.m }
  hS:={ h.hS with m:=sb _ _ h.hS.m } }
theorem PG.base(h:PG M0 M p r d s top life kr kd ks rr rd S k)(sb:Sub Mb M0):PG Mb M p r d s top life kr kd ks rr rd S k :=
 {h with
  fp:=sb.none h.fp
  sub:=sb.trans h.sub
  hR:={ h.hR with
   f:=sb.none h.hR.f
   v:=fun n v e=>by
    obtain⟨l,e1,h1,h2⟩:=h.hR.v n v e;exact⟨l,e1,h1,sb.none h2⟩ }
  hD:={ h.hD with f:=sb.none h.hD.f }
  hS:={ h.hS with f:=sb.none h.hS.f } }
theorem PG.apart(h:PG M0 M p r d s top life kr kd ks rr rd S k)(hM:∀ b,b≠q->M' b=M b)(n1:q≠p)(n2:q≠r)(n3:q≠d)(n4:q≠s)(n5:∀ n,valD kr n≠some (.ref q))(sb:Sub M0 M'):PG M0 M' p r d s top life kr kd ks rr rd S k :=
 {h with
  ob:=(hM _ n1.symm).trans h.ob
  sub:=sb
  hR:={ h.hR with
   m:=(hM _ n2.symm).trans h.hR.m
   v:=fun n v e=>by
    obtain⟨l,rfl,h1,h2⟩:=h.hR.v n v e;exact⟨l,rfl,(hM _ fun z=>n5 n (by rw[<- z];exact e)).trans h1,h2⟩ }
  hD:={ h.hD with m:=(hM _ n3.symm).trans h.hD.m }
  hS:={ h.hS with m:=(hM _ n4.symm).trans h.hS.m } }
end
noncomputable def PageX(M0 M:DH)(fo:List Addr)(pg:Addr)(z:Zn):Prop:=∃ r d s kr kd ks,PG M0 M pg r d s z.t z.l kr kd ks z.r z.r (Std z.t z.r) (1+21 * z.r.length)/\∀ b∈fo,b≠pg/\b≠r/\b≠d/\b≠s/\∀ n,valD kr n≠some (.ref b)
theorem PageX.mono(h:PageX M0 M fo pg z)(sb:Sub M M'):PageX M0 M' fo pg z:=by
 obtain⟨r,d,s,kr,kd,ks,G,k⟩:=h;exact⟨r,d,s,kr,kd,ks,G.mono sb,k⟩
theorem PageX.less(h:PageX M0 M fo pg z)(sb:∀ b∈fo',b∈fo):PageX M0 M fo' pg z:=by
 obtain⟨r,d,s,kr,kd,ks,G,k⟩:=h;exact⟨r,d,s,kr,kd,ks,G,fun b hb=>k b (sb b hb)⟩
theorem PageX.alter(h:PageX M0 M fo pg z)(hb:b∈fo)(hM:∀ c,c≠b->M' c=M c)(sb:Sub M0 M'):PageX M0 M' fo pg z:=by
 obtain⟨r,d,s,kr,kd,ks,G,k⟩:=h;obtain⟨n1,n2,n3,n4,n5⟩:=k b hb;exact⟨r,d,s,kr,kd,ks,G.apart hM n1 n2 n3 n4 n5 sb,k⟩
theorem PageX.apart(h:PageX M0 M fo pg z)(hb:b∈fo)(f:M0 b=none):PageX M0 (dupd M b o) fo pg z :=
 h.alter hb (fun c hc=>Q0b hc) (by obtain⟨r,d,s,kr,kd,ks,G,k⟩:=h;exact G.sub.put f)
theorem PageX.add(h:PageX M0 M fo pg z)(hb:M b=none):PageX M0 M (b::fo) pg z:=by
 obtain⟨r,d,s,kr,kd,ks,G,k⟩:=h;refine⟨r,d,s,kr,kd,ks,G,fun c hc=>?_⟩;rcases Z3.mp hc with rfl | hc
 ·refine⟨(dne G.ob hb).symm,(dne G.hR.m hb).symm,(dne G.hD.m hb).symm,(dne G.hS.m hb).symm,fun n e=>?_⟩;obtain⟨l,e1,h1,_⟩:=G.hR.v n _ e;cases e1;rw[hb]at h1;cases h1
 ·exact k c hc
theorem PageX.made{M0 M1 M:DH}{fo:List Addr}{pg:Addr}{z:Zn}(h:Page M1 M pg z.t z.l z.r)(sb:Sub M0 M1)(hf:∀ b∈fo,∃ o,M1 b=some o):PageX M0 M fo pg z:=by
 obtain⟨r,d,s,kr,kd,ks,G⟩:=h;refine⟨r,d,s,kr,kd,ks,G.base sb,fun b hb=>?_⟩;obtain⟨o,ho⟩:=hf b hb;refine⟨dne ho G.fp,dne ho G.hR.f,dne ho G.hD.f,dne ho G.hS.f,fun n e=>?_⟩;obtain⟨l,e1,_,h2⟩:=G.hR.v n _ e;cases e1;rw[ho]at h2;cases h2
theorem PageX.page(h:PageX M0 M fo pg z):Page M0 M pg z.t z.l z.r:=by
 obtain⟨r,d,s,kr,kd,ks,G,_⟩:=h;exact⟨r,d,s,kr,kd,ks,G⟩
noncomputable def zbe:W:=[97,119,97,121]
noncomputable def ElT(v:D):Prop:=∃ (a:D) (m:List W) (l:Int),v=.tup [a,.tup [.str za9,dn m,.int l]]
structure HX(M0 M:DH)(p zd pd td:Addr)(fo:List Addr)(zs:List Zn)(c:Nat):Prop where
 ob:M p=some (.oth (.ins "House" (hsF zd pd td)))
 n1:zd≠pd
 n2:zd≠td
 n3:pd≠td
 f1:M0 pd=none
 f2:M0 td=none
 f0:M0 zd=none
 sub:Sub M0 M
 fp:pd∈fo
 ft:td∈fo
 fi:∀ b∈fo,∃ o,M b=some o
 hz:∃ kz,M zd=some (.oth (.dct kz))/\∀ n,valD kz n=(atT zs n).map Zn.v
 hp:∃ kp,M pd=some (.oth (.dct kp))/\kp.length<=c/\∀ n v,valD kp n=some v->∃ z pg,atT zs n=some z/\v=.ref pg/\PageX M0 M fo pg z
 ht:∃ kt,M td=some (.oth (.dct kt))/\kt.length<=c/\∀ n v,valD kt n=some v->∃ z,up zs n (n.length+1)=some z/\(∀ k,¬ IsN k->v=.tup [dn z.t,zax z.t z.l z.r n k])/\ElT v
 nd:(zs.map (·.t)).Nodup
section
variable{M0 M M':DH}{p zd pd td:Addr}{fo:List Addr}{zs:List Zn}{c:Nat}
theorem HX.mono(h:HX M0 M p zd pd td fo zs c)(sb:Sub M M'):HX M0 M' p zd pd td fo zs c :=
 {h with
  ob:=sb _ _ h.ob
  sub:=h.sub.trans sb
  fi:=fun b hb=>by obtain⟨o,e⟩:=h.fi b hb;exact⟨o,sb _ _ e⟩
  hz:=by obtain⟨kz,e1,e2⟩:=h.hz;exact⟨kz,sb _ _ e1,e2⟩
  hp:=by
   obtain⟨kp,e1,e2,e3⟩:=h.hp;refine⟨kp,sb _ _ e1,e2,fun n v e=>?_⟩;obtain⟨z,pg,q1,q2,q3⟩:=e3 n v e;exact⟨z,pg,q1,q2,q3.mono sb⟩
  ht:=by obtain⟨kt,e1,e2,e3⟩:=h.ht;exact⟨kt,sb _ _ e1,e2,e3⟩ }
theorem HX.le(h:HX M0 M p zd pd td fo zs c)(hc:c<=c'):HX M0 M p zd pd td fo zs c' :=
 {h with
  hp:=by obtain⟨kp,e1,e2,e3⟩:=h.hp;exact⟨kp,e1,Z4 e2 hc,e3⟩
  ht:=by obtain⟨kt,e1,e2,e3⟩:=h.ht;exact⟨kt,e1,Z4 e2 hc,e3⟩ }
theorem HX.less(h:HX M0 M p zd pd td fo zs c)(sb:∀ b∈fo',b∈fo)(h1:pd∈fo')(h2:td∈fo'):HX M0 M p zd pd td fo' zs c :=
 {h with
  fp:=h1
  ft:=h2
  fi:=fun b hb=>h.fi b (sb b hb)
  hp:=by
   obtain⟨kp,e1,e2,e3⟩:=h.hp;refine⟨kp,e1,e2,fun n v e=>?_⟩;obtain⟨z,pg,q1,q2,q3⟩:=e3 n v e;exact⟨z,pg,q1,q2,q3.less sb⟩ }
theorem HX.alter(h:HX M0 M p zd pd td fo zs c)(hb:b∈fo)(hM:∀ c,c≠b->M' c=M c)(sb:Sub M0 M')(n1:b≠p)(n2:b≠zd)(n3:b≠pd)(n4:b≠td)(hf:∀ c∈fo',c∈fo/\∃ o,M' c=some o)(h1:pd∈fo')(h2:td∈fo'):HX M0 M' p zd pd td fo' zs c :=
 {h with
  ob:=(hM _ n1.symm).trans h.ob
  sub:=sb
  fp:=h1
  ft:=h2
  fi:=fun c hc=>(hf c hc).2
  hz:=by obtain⟨kz,e1,e2⟩:=h.hz;exact⟨kz,(hM _ n2.symm).trans e1,e2⟩
  hp:=by
   obtain⟨kp,e1,e2,e3⟩:=h.hp;refine⟨kp,(hM _ n3.symm).trans e1,e2,fun n v e=>?_⟩;obtain⟨z,pg,q1,q2,q3⟩:=e3 n v e;exact⟨z,pg,q1,q2,(q3.alter hb hM sb).less fun c hc=>(hf c hc).1⟩
  ht:=by obtain⟨kt,e1,e2,e3⟩:=h.ht;exact⟨kt,(hM _ n4.symm).trans e1,e2,e3⟩ }
theorem HX.write(h:HX M0 M p zd pd td fo zs c)(hb:b∈fo)(f:M0 b=none)(n1:b≠p)(n2:b≠zd)(n3:b≠pd)(n4:b≠td):HX M0 (dupd M b o) p zd pd td fo zs c :=
 h.alter hb (fun c hc=>Q0b hc) (h.sub.put f) n1 n2 n3 n4 (fun c hc=>⟨hc,by
  by_cases e:c=b
  ·rw[e];exact⟨o,Q0a⟩
  ·obtain⟨u,hu⟩:=h.fi c hc;exact⟨u,by rw[Q0b e];exact hu⟩⟩) h.fp h.ft
theorem HX.nep(h:HX M0 M p zd pd td fo zs c):pd≠p/\td≠p:=by
 obtain⟨kp,e1,_⟩:=h.hp;obtain⟨kt,e2,_⟩:=h.ht;exact⟨mne e1 h.ob (fun z=>nomatch z),mne e2 h.ob (fun z=>nomatch z)⟩
theorem HX.putP(h:HX M0 M p zd pd td fo zs c)(e:M pd=some (.oth (.dct kp)))(hn:atT zs n=some z)(hx:PageX M0 M fo pg z):HX M0 (dupd M pd (.oth (.dct (putD kp n (.ref pg))))) p zd pd td fo zs (c+1) :=
 {h with
  ob:=by rw[Q0b h.nep.1.symm];exact h.ob
  sub:=h.sub.put h.f1
  fi:=fun c hc=>by
   by_cases e:c=pd
   ·rw[e];exact⟨_,Q0a⟩
   ·obtain⟨u,hu⟩:=h.fi c hc;exact⟨u,by rw[Q0b e];exact hu⟩
  hz:=by obtain⟨kz,e1,e2⟩:=h.hz;exact⟨kz,by rw[Q0b h.n1];exact e1,e2⟩
  hp:=by
   obtain⟨kp',e1,e2,e3⟩:=h.hp;rw[e]at e1;cases e1;refine⟨_,Q0a,Z4 (Q0U ..) (Nat.succ_le_succ e2),fun m v ev=>?_⟩;rw[Q0t]at ev;by_cases em:m=n
   ·rw[Ze em]at ev;cases ev;exact⟨z,pg,by rw[em];exact hn,rfl,hx.apart h.fp h.f1⟩
   ·rw[Zc em]at ev;obtain⟨z,pg,q1,q2,q3⟩:=e3 m v ev;exact⟨z,pg,q1,q2,q3.apart h.fp h.f1⟩
  ht:=by obtain⟨kt,e1,e2,e3⟩:=h.ht;exact⟨kt,by rw[Q0b h.n3.symm];exact e1,ZF e2,e3⟩ }
end
noncomputable def HSub(pd td:Addr)(M M':DH):Prop:=∀ b o,b≠pd->b≠td->M b=some o->M' b=some o
theorem HSub.refl(pd td:Addr)(M:DH):HSub pd td M M:=fun _ _ _ _ e=>e
theorem HSub.of(s:Sub M M'):HSub pd td M M':=fun b o _ _ e=>s b o e
theorem HSub.putP(a:HSub pd td M M'):HSub pd td M (dupd M' pd o):=fun c u h1 h2 e=>by rw[Q0b h1];exact a c u h1 h2 e
theorem smallM(h:n<=16000000):n<sizeLine:=ZC h (by decide)
noncomputable def sp_aj:DSp:=fun ds M R=>∃ (x:Addr) (d:D) (zs:List Zn),ds=[.ref x,d]/\M x=some (.oth (.ins "House" []))/\zak M d=some (zs.map Zn.v)/\zs.length<=900/\(zs.map (·.t)).Nodup /\
 ∀ M' zd pd td,(∀ M0,Sub M0 M->M0 x=none->HX M0 M' x zd pd td [pd,td] zs 0)->R .non M'
theorem ok_aj{T:Tab}:∀ ds M R,sp_aj ds M R->evS T b_aj (za4 R) (za3 ["self","zones"] ds) M:=by
 rintro ds M R ⟨x,d,zs,rfl,hx,hd,hl,hn,h⟩;simp only[b_aj];refine Q0c fun k1 e1=>?_;have rest:∀ q,M q=none->∃ a fs,D.ref x=D.ref a/\dupd M q (.oth (.dct (zaA [] (zs.map Zn.kv)))) a=some (.oth (.ins "House" fs))/\fs.length<1000/\k1 [some (.ref x),some d] (dupd (dupd M q (.oth (.dct (zaA [] (zs.map Zn.kv))))) a (.oth (.ins "House" (zaz "zones" (.ref q) fs)))):=by
  intro q hq;refine⟨x,[],rfl,Sub.new hq _ _ hx,by decide,?_⟩
  rw[e1];clear e1;walk_at "ev";intro q2 hq2;have n2:q2≠x:=fun z=>by subst z;rw[Q0a]at hq2;cases hq2
  refine⟨x,_,rfl,by rw[Q0b n2.symm];exact Q0a,by simp[zaz],fun q3 hq3=>?_⟩
  have n3:q3≠x:=fun z=>by subst z;rw[Q0a]at hq3;cases hq3
  have n1:q≠x:=fun z=>by subst z;rw[hx]at hq;cases hq
  rw[houseF1]at hq3 ⊢;refine⟨x,_,rfl,by rw[Q0b n3.symm];exact Q0a,(by simp only[Zj,ZU];omega),?_⟩
  rw[houseF2];have n32:q3≠q2:=fun z=>by
   subst z;rw[Q0b n2,Q0a]at hq3;cases hq3
  have n12:q2≠q:=fun z=>by
   subst z;rw[Q0b n1,Q0a]at hq2;cases hq2
  have n13:q3≠q:=fun z=>by
   subst z;rw[Q0b n3,Q0b n12.symm,Q0b n3,Q0a]at hq3;cases hq3
  have hq2':M q2=none:=by rw[Q0b n2,Q0b n12]at hq2;exact hq2
  have hq3':M q3=none:=by rw[Q0b n3,Q0b n32,Q0b n3,Q0b n13]at hq3;exact hq3
  refine Q0f (h _ q q2 q3 fun M0 sb hx0=>⟨Q0a,n12.symm,n13.symm,n32.symm,sb.none hq2',sb.none hq3',sb.none hq,?_,by simp,by simp,?_,⟨zaA [] (zs.map Zn.kv),?_,fun n=>?_⟩,⟨[],?_,ZB _,fun n v e=>(nomatch e)⟩,⟨[],?_,ZB _,fun n v e=>(nomatch e)⟩,hn⟩)
  ·intro b o hb;have hbM:=sb b o hb;have nb:b≠x:=dne hb hx0;rw[Q0b nb,Q0b (dne hbM hq3'),Q0b nb,Q0b (dne hbM hq2'),Q0b nb,Q0b (dne hbM hq)];exact hbM
  ·intro b hb;simp only[Z3,ZR,or_false]at hb;rcases hb with rfl | rfl
   ·exact⟨_,by rw[Q0b n2,Q0b n32.symm,Q0b n2,Q0a]⟩
   ·exact⟨_,by rw[Q0b n3,Q0a]⟩
  ·rw[Q0b n1,Q0b n13.symm,Q0b n1,Q0b n12.symm,Q0b n1,Q0a]
  ·rw[Q2F zs [] n hn];cases atT zs n <;> rfl
  ·rw[Q0b n2,Q0b n32.symm,Q0b n2,Q0a]
  ·rw[Q0b n3,Q0a]
 rcases Q2o hd with rfl | ⟨a,rfl,ha⟩
 ·walk_at "ev";refine Q3Y trivial hl ?_;refine⟨szL (by rw[Zd,Zd];omega),zs.map Zn.kv,rfl,szL (by rw[Zd];omega),rest⟩
 ·walk_at "ev";simp only[ha];refine Q3Y ha hl ?_;refine⟨szL (by rw[Zd,Zd];omega),zs.map Zn.kv,rfl,szL (by rw[Zd];omega),rest⟩
noncomputable def sp_ad:DSp:=fun ds M R=>∃ (M0:DH) (p zd pd td:Addr) (fo:List Addr) (zs:List Zn) (c:Nat) (t:Option (List W)),ds=[.ref p,onm t]/\HX M0 M p zd pd td fo zs c/\(∀ z∈zs,ZnOk z)/\c<=15000000 /\
 (t.bind (atT zs)=none->R .non M)/\∀ z,t.bind (atT zs)=some z->∀ pg M',HX M0 M' p zd pd td fo zs (c+1)->HSub pd td M M'->PageX M0 M' fo pg z->R (.ref pg) M'
theorem Q1L(h:atT zs n=some z):z∈zs:=List.mem_of_find?_eq_some h
theorem ok_ad(T:Tab)(h300:T.ini 300=some ⟨"Page","__init__",1,sp_ag⟩):∀ ds M R,sp_ad ds M R->evS T b_ad (za4 R) (za3 ["self","top"] ds) M:=by
 rintro ds M R ⟨M0,p,zd,pd,td,fo,zs,c,t,rfl,H,hok,hc,hno,hyes⟩;obtain⟨kz,z1,z2⟩:=H.hz;obtain⟨kp,p1,p2,p3⟩:=H.hp;simp only[b_ad];refine Q0c fun k1 e1=>?_;walk_at "ev";refine⟨p,_,_,rfl,H.ob,hsF_z,?_⟩;have fin:∀ M',HX M0 M' p zd pd td fo zs (c+1)->HSub pd td M M'->∀ n z pg kp',t=some n->atT zs n=some z->M' pd=some (.oth (.dct kp'))->valD kp' n=some (.ref pg)->PageX M0 M' fo pg z->k1 [some (.ref p),some (onm t)] M':=by
  intro M' H' S' n z pg kp' ht hn hk hv hx;subst ht;rw[e1];walk_at "ev";refine⟨p,_,_,rfl,H'.ob,hsF_p,pd,kp',rfl,hk,kp',hk,.inl ⟨n,rfl,?_⟩⟩;rw[hv];exact Q0f (hyes z hn pg M' H' S' hx)
 cases t with
 | none =>
  refine .inr ⟨zd,kz,rfl,rfl,z1,?_⟩;rw[e1];walk_at "ev";exact⟨p,_,_,rfl,H.ob,hsF_p,pd,kp,rfl,p1,kp,p1,.inr ⟨rfl,Q0f (hno rfl)⟩⟩
 | some n =>
  refine .inl ⟨n,zd,kz,rfl,rfl,z1,?_⟩;rw[z2];cases en:atT zs n with
  | none =>
   refine iteF ?_;rw[e1];walk_at "ev";refine⟨p,_,_,rfl,H.ob,hsF_p,pd,kp,rfl,p1,kp,p1,.inl ⟨n,rfl,?_⟩⟩;cases ev:valD kp n with
   | none=>exact Q0f (hno en)
   | some v =>
    obtain⟨z,pg,q1,_⟩:=p3 n v ev;rw[en]at q1;cases q1
  | some z =>
   refine iteT ⟨p,_,_,rfl,H.ob,hsF_p,n,pd,kp,rfl,rfl,p1,?_⟩;cases ev:valD kp n with
   | some v =>
    obtain⟨z',pg,q1,q2,q3⟩:=p3 n v ev;rw[en]at q1;cases q1;subst q2;refine iteF ?_;exact fin M (H.le (Yq c)) (HSub.refl pd td M) n z pg kp rfl en p1 ev q3
   | none =>
    refine iteT ?_;simp only[h300];walk_at "ev";refine⟨p,_,_,rfl,H.ob,hsF_z,n,zd,kz,z.v,rfl,rfl,z1,by rw[z2,en];rfl,fun x hx=>?_⟩
    have zk:=hok z (Q1L en);refine⟨x,M,z.t,z.l,z.r,rfl,Q0a,hx,Sub.new hx,by have:=zk.l;omega,zk.good.in,fun M' hP=>⟨rfl,?_⟩⟩
    have sb:Sub M M':=by
     obtain⟨r,d,s,kr,kd,ks,G⟩:=hP;exact G.sub
    have H1:=H.mono sb;refine⟨p,_,_,rfl,H1.ob,hsF_p,pd,n,kp,rfl,rfl,sb _ _ p1,smallM (by omega),?_⟩
    have hx':=PageX.made hP H.sub H.fi;refine fin _ (H1.putP (sb _ _ p1) en hx') (HSub.of sb).putP n z x _ rfl en Q0a (by rw[Q0t,Ze rfl]) (hx'.apart H.fp H.f1)
theorem Q3Z:IsN za9:=.inr rfl
theorem Q4A{z:Zn}{n c:List W}{k:W}{x:Rw}(ec:cutN z.t z.r n=some c)(ed:zag z.r c=some x):zax z.t z.l z.r n k=zbn z.r x:=by
 unfold zax;rw[ec];show (match zag z.r c with | some x=>zbn z.r x | none=>.non)=_
 rw[ed]
theorem Q7D{z:Zn}{n:List W}{k:W}(ec:cutN z.t z.r n=none):zax z.t z.l z.r n k=zaI z.r (zad z.t z.r n) k z.l:=by
 unfold zax;rw[ec]
noncomputable def repO(zs:List Zn)(t:Option (List W))(n:List W)(k:W):D:=match t.bind (atT zs) with
 | some z=>zax z.t z.l z.r n k
 | none=>.tup [.str zbe]
theorem Q4a(e:t.bind (atT zs)=some z):repO zs t n k=zax z.t z.l z.r n k:=by unfold repO;rw[e]
theorem Q4b(e:t.bind (atT zs)=none):repO zs t n k=.tup [.str zbe]:=by unfold repO;rw[e]
theorem QcW(h:dn a=dn b):a=b:=by
 have:=congrArg nmOf h;rw[Q1s,Q1s]at this;exact this
noncomputable def sp_a2:DSp:=fun ds M R=>∃ (M0:DH) (p zd pd td:Addr) (fo:List Addr) (zs:List Zn) (c:Nat) (t:Option (List W)) (n:List W) (k:W),ds=[.ref p,onm t,dn n,.str k]/\HX M0 M p zd pd td fo zs c/\(∀ z∈zs,ZnOk z)/\c<=15000000 /\
 ¬ IsN k/\n.length<=900/\(∀ a,t=some a->n.take a.length=a)/\∀ M',HX M0 M' p zd pd td fo zs (c+1)->HSub pd td M M'->R (repO zs t n k) M'
theorem ok_a2(T:Tab)(h305:T.mt 305=some ⟨"Page","reply",2,sp_aC⟩)(h323:T.mt 323=some ⟨"House","page",1,sp_ad⟩)(h18:T.con 18=some (("AWAY" : Str),D.str [97,119,97,121])):∀ ds M R,sp_a2 ds M R->evS T b_a2 (za4 R) (za3 ["self","top","name","kind","page"] ds) M:=by
 rintro ds M R ⟨M0,p,zd,pd,td,fo,zs,c,t,n,k,rfl,H,hok,hc,hk,hn,ht,h⟩;simp only[b_a2];refine Q0c fun k1 e1=>?_;walk_at "ev";simp only[h323];walk_at "ev";refine⟨p,_,rfl,H.ob,Q7C,M0,p,zd,pd,td,fo,zs,c,t,rfl,H,hok,hc,fun en=>?_,fun z ez pg M' H' S' hx=>?_⟩
 ·rw[e1];clear e1;walk_at "ev";simp only[h18];walk_at "ev";refine⟨szL (by decide),Q0f ?_⟩
  have:=h M (H.le (Yq c)) (HSub.refl pd td M);rw[Q4b en]at this;exact this
 ·rw[e1];clear e1;walk_at "ev";simp only[h305];walk_at "ev";obtain⟨r,d,s,kr,kd,ks,G,_⟩:=id hx;cases t with
  | none=>cases ez
  | some a =>
   have ea:=atT_t (show atT zs a=some z from ez);refine⟨pg,_,rfl,G.ob,Q0K,pg,n,k,M0,z.t,z.l,z.r,rfl,hx.page,(hok z (Q1L ez)).good,hk,hn,by rw[ea];exact ht a rfl,?_⟩
   have:=h M' H' S';rw[Q4a ez]at this;exact Q0f this
noncomputable def left(E sp:List (List W)):Nat:=(E.filter fun m=>decide (m∉sp)).length
theorem Q0Q(I:Nat->DSt->DH->Prop)(h0:∃ m,I m ρ M)(turn:∀ m ρ M,I m ρ M->∀ TB:DTS,TB=tb->c ρ M fun b M1=>if b=true then ∃ N:DSt->DH->Prop,(∀ ρ' M',N ρ' M'->∃ m',m'<m/\I m' ρ' M')/\TB { DD with nx:=N,ct:=N,bk:=DD.nx } ρ M1 else DD.nx ρ M1):zau c tb DD ρ M :=
 ⟨I,h0,fun m ρ M h=>turn m ρ M h tb rfl⟩
theorem ZsOk.of(h:ZsOk zs)(w:W):∀ z∈ofD zs w,ZnOk z:=fun z hz=>h.ok z (Q2p hz)
structure Hr where
 p:Addr
 zd:Addr
 pd:Addr
 td:Addr
noncomputable def Hr.ad(h:Hr):List Addr:=[h.p,h.zd,h.pd,h.td]
noncomputable def stK(ks:List W)(rc:W->Hr):List (W×D):=ks.map fun w=>(w,.ref (rc w).p)
theorem Q3a(rc:W->Hr)(o:W):∀ ks:List W,valT (stK ks rc) o=if o∈ks then some (.ref (rc o).p) else none
 | []=>rfl
 | w::ks=>by
  unfold stK;rw[Zy];by_cases e:w=o
  ·subst e;rw[Q0u rfl,Ze Zl]
  ·rw[Q0v e];have ih:=Q3a rc o ks;unfold stK at ih;rw[ih];by_cases h:o∈ks
   ·rw[Ze h,Ze (Zq _ h)]
   ·rw[Zc h,Zc fun z=>(Z3.mp z).elim (fun y=>e y.symm) h]
theorem ad_p(h:Hr):h.p∈h.ad:=by simp[Hr.ad]
theorem ad_z(h:Hr):h.zd∈h.ad:=by simp[Hr.ad]
theorem ad_g(h:Hr):h.pd∈h.ad:=by simp[Hr.ad]
theorem ad_t(h:Hr):h.td∈h.ad:=by simp[Hr.ad]
section
variable{M0 M:DH}{p r d s x y:Addr}{top:List W}{life:Int}{kr kd ks:List (List W×D)}{rr rd:List Rw}{S:List W->Prop}{k:Nat}
theorem PG.side(h:PG M0 M p r d s top life kr kd ks rr rd S k)(hM:HSub x y M M')(n1:x≠p/\x≠r/\x≠d/\x≠s/\∀ n,valD kr n≠some (.ref x))(n2:y≠p/\y≠r/\y≠d/\y≠s/\∀ n,valD kr n≠some (.ref y))(sb:Sub M0 M'):PG M0 M' p r d s top life kr kd ks rr rd S k :=
 {h with
  ob:=hM _ _ n1.1.symm n2.1.symm h.ob
  sub:=sb
  hR:={ h.hR with
   m:=hM _ _ n1.2.1.symm n2.2.1.symm h.hR.m
   v:=fun n v e=>by
    obtain⟨l,rfl,h1,h2⟩:=h.hR.v n v e;exact⟨l,rfl,hM _ _ (fun z=>n1.2.2.2.2 n (by rw[<- z];exact e)) (fun z=>n2.2.2.2.2 n (by rw[<- z];exact e)) h1,h2⟩ }
  hD:={ h.hD with m:=hM _ _ n1.2.2.1.symm n2.2.2.1.symm h.hD.m }
  hS:={ h.hS with m:=hM _ _ n1.2.2.2.1.symm n2.2.2.2.1.symm h.hS.m } }
end
theorem PageX.side(h:PageX M0 M fo pg z)(hx:x∈fo)(hy:y∈fo)(hM:HSub x y M M')(sb:Sub M0 M'):PageX M0 M' fo pg z:=by
 obtain⟨r,d,s,kr,kd,ks,G,k⟩:=h;exact⟨r,d,s,kr,kd,ks,G.side hM (k x hx) (k y hy) sb,k⟩
theorem PageX.adds(h:PageX M0 M fo pg z):∀ {ex:List Addr},(∀ b∈ex,M b=none)->PageX M0 M (ex++fo) pg z
 | [],_=>h
 | b::ex,he=>(PageX.adds h (ex:=ex) fun c hc=>he c (Zq _ hc)).add (he b Zl)
section
variable{M0 M M':DH}{p zd pd td x y:Addr}{fo ex:List Addr}{zs:List Zn}{c:Nat}
theorem HX.grows(h:HX M0 M p zd pd td fo zs c)(s:Sub M M')(he:∀ b∈ex,M b=none/\∃ o,M' b=some o):HX M0 M' p zd pd td (ex++fo) zs c:=by
 have h2:=h.mono s;exact { h2 with
  fp:=Zw _ h.fp
  ft:=Zw _ h.ft
  fi:=fun c hc=>(ZO.mp hc).elim (fun hc=>(he c hc).2) (h2.fi c)
  hp:=by
   obtain⟨kp,e1,e2,e3⟩:=h.hp;refine⟨kp,s _ _ e1,e2,fun n v e=>?_⟩;obtain⟨z,pg,q1,q2,q3⟩:=e3 n v e;exact⟨z,pg,q1,q2,(q3.adds fun b hb=>(he b hb).1).mono s⟩ }
theorem HX.side(h:HX M0 M p zd pd td fo zs c)(S:HSub x y M M')(sb:Sub M0 M')(hx:x∈fo)(hy:y∈fo)(n:∀ b∈[p,zd,pd,td],b≠x/\b≠y)(he:∀ b∈ex,M b=none/\∃ o,M' b=some o)(ox:∃ o,M' x=some o)(oy:∃ o,M' y=some o):HX M0 M' p zd pd td (ex++fo) zs c :=
 {h with
  ob:=S _ _ (n p (by simp)).1 (n p (by simp)).2 h.ob
  sub:=sb
  fp:=Zw _ h.fp
  ft:=Zw _ h.ft
  fi:=fun c hc=>by
   rcases ZO.mp hc with hc | hc
   ·exact (he c hc).2
   ·by_cases e1:c=x
    ·rw[e1];exact ox
    by_cases e2:c=y
    ·rw[e2];exact oy
    obtain⟨o,ho⟩:=h.fi c hc;exact⟨o,S _ _ e1 e2 ho⟩
  hz:=by obtain⟨kz,e1,e2⟩:=h.hz;exact⟨kz,S _ _ (n zd (by simp)).1 (n zd (by simp)).2 e1,e2⟩
  hp:=by
   obtain⟨kp,e1,e2,e3⟩:=h.hp;refine⟨kp,S _ _ (n pd (by simp)).1 (n pd (by simp)).2 e1,e2,fun n v e=>?_⟩
   obtain⟨z,pg,q1,q2,q3⟩:=e3 n v e;exact⟨z,pg,q1,q2,(q3.adds fun b hb=>(he b hb).1).side (Zw _ hx) (Zw _ hy) S sb⟩
  ht:=by obtain⟨kt,e1,e2,e3⟩:=h.ht;exact⟨kt,S _ _ (n td (by simp)).1 (n td (by simp)).2 e1,e2,e3⟩ }
end
noncomputable def foW(ex:List Addr)(wp:Addr)(ks:List W)(rc:W->Hr):List Addr:=ex++wp::ks.flatMap fun w=>[(rc w).pd,(rc w).td]
theorem HX.kinds{M0 M:DH}{h:Hr}{fo:List Addr}{zs:List Zn}{c:Nat}(hn:HX M0 M h.p h.zd h.pd h.td fo zs c){b:Addr}(hb:b∈h.ad):M b=some (.oth (.ins "House" (hsF h.zd h.pd h.td)))\/∃ kz,M b=some (.oth (.dct kz)):=by
 obtain⟨kz,a1,_⟩:=hn.hz;obtain⟨kp,b1,_⟩:=hn.hp;obtain⟨kt,c1,_⟩:=hn.ht;simp only[Hr.ad,Z3,ZR,or_false]at hb;rcases hb with rfl | rfl | rfl | rfl
 ·exact .inl hn.ob
 ·exact .inr ⟨kz,a1⟩
 ·exact .inr ⟨_,b1⟩
 ·exact .inr ⟨_,c1⟩
theorem foW_p{rc:W->Hr}(h:w∈ks):(rc w).pd∈foW ex wp ks rc:=Zw _ (Zq _ (mem_flatMap.mpr ⟨w,h,by simp⟩))
theorem foW_t{rc:W->Hr}(h:w∈ks):(rc w).td∈foW ex wp ks rc:=Zw _ (Zq _ (mem_flatMap.mpr ⟨w,h,by simp⟩))
namespace Tz
section
variable{α:Type}
noncomputable def val(kvs:List (List W×α))(k:List W):Option α:=(kvs.find? fun kv=>decide (kv.1=k)).map (·.2)
noncomputable def put(kvs:List (List W×α))(k:List W)(v:α):List (List W×α) :=
 if (kvs.any fun kv=>decide (kv.1=k))=true then kvs.map (fun kv=>if kv.1=k then (kv.1,v) else kv) else kvs++[(k,v)]
noncomputable abbrev mp(f:α->D)(kvs:List (List W×α)):List (List W×D):=kvs.map fun p=>(p.1,f p.2)
theorem Q0W(f:α->D)(k:List W):∀ kvs:List (List W×α),valD (mp f kvs) k=(val kvs k).map f
 | []=>rfl
 | p::r=>by
  have ih:=Q0W f k r;unfold val at ih ⊢;by_cases e:p.1=k
  ·rw[find?_cons_of_pos (by simpa using e)]
   exact Q0p (p:=(p.1,f p.2)) e
  ·rw[find?_cons_of_neg (by simpa using e),<- ih]
   exact Q0q (p:=(p.1,f p.2)) e
theorem Q7E(f:α->D)(kvs:List (List W×α))(k:List W)(v:α):putD (mp f kvs) k (f v)=mp f (put kvs k v):=by
 have ea:((mp f kvs).any fun kv=>decide (kv.1=k))=(kvs.any fun kv=>decide (kv.1=k)):=by
  rw[any_map];rfl
 unfold putD put;rw[ea];split
 ·show _=(kvs.map _).map _;rw[map_map,map_map];refine map_congr_left fun p _=>?_;show (if p.1=k then (p.1,f v) else (p.1,f p.2))=((if p.1=k then (p.1,v) else p).1,f (if p.1=k then (p.1,v) else p).2)
  split <;> rfl
 ·show _=(kvs++[(k,v)]).map _;rw[Z7];rfl
theorem Q2G(kvs:List (List W×α))(k:List W)(v:α):(put kvs k v).length<=kvs.length+1:=by
 unfold put;split
 ·rw[Zd];omega
 ·rw[Zi];exact Zo _
theorem Q7F(k:List W):∀ kvs:List (List W×α),(kvs.any fun kv=>decide (kv.1=k))=(val kvs k).isSome
 | []=>rfl
 | p::r=>by
  have ih:=Q7F k r;unfold val at ih ⊢;rw[any_cons,ih];by_cases e:p.1=k
  ·rw[find?_cons_of_pos (by simpa using e),Zm e];rfl
  ·rw[find?_cons_of_neg (by simpa using e),Zr e];rfl
theorem Qbs(h:val kvs k=none):put kvs k v=kvs++[(k,v)]:=by
 unfold put;rw[Q7F,h];rfl
end
theorem Q7G{α:Type}{f:α->D}(hf:∀ a b,f a=f b->a=b)(kvs:List (List W×α))(k j:List W)(v:α):val (put kvs k v) j=if j=k then some v else val kvs j:=by
 have h:(val (put kvs k v) j).map f=(if j=k then some v else val kvs j).map f:=by
  rw[<- Q0W,<- Q7E,Q0t];split
  ·rfl
  ·exact Q0W f j kvs
 cases e1:val (put kvs k v) j <;> cases e2:(if j=k then some v else val kvs j) <;> rw[e1,e2]at h
 ·cases h
 ·cases h
 ·injection h with h;rw[hf _ _ h]
noncomputable def odD:Option W->D
 | none=>.non
 | some w=>.str w
theorem Qbt:∀ a b:W,D.str a=D.str b->a=b:=fun a b h=>by injection h
theorem QcX:∀ a b:Option W,odD a=odD b->a=b
 | none,none,_=>rfl
 | none,some _,h=>by cases h
 | some _,none,h=>by cases h
 | some a,some b,h=>by injection h with h;rw[h]
noncomputable abbrev mD(kd:List (List W×W)):List (List W×D):=mp D.str kd
noncomputable abbrev mL(kl:List (List W×Option W)):List (List W×D):=mp odD kl
theorem Q5n(kd:List (List W×W))(k j:List W)(v:W):val (put kd k v) j=if j=k then some v else val kd j:=Q7G Qbt kd k j v
theorem Q1R(kl:List (List W×Option W))(k j:List W)(v:Option W):val (put kl k v) j=if j=k then some v else val kl j:=Q7G QcX kl k j v
inductive Rp
 | away
 | els (m:List W) (l:Int)
 | down (c h:List W) (ds:List W) (l:Int)
 | rows (ds:List W) (l:Int)
 | non (l:Int)
 | emp (l:Int)
noncomputable def Rp.d:Rp->D
 | .away=>.tup [.str zbe]
 | .els m l=>.tup [.str za9,dn m,.int l]
 | .down c h ds l=>.tup [.str zae,dn c,dn h,.lst (ds.map .str),.int l]
 | .rows ds l=>.tup [.str zaR,.lst (ds.map .str),.int l]
 | .non l=>.tup [.str kNone,.int l]
 | .emp l=>.tup [.str zbR,.int l]
noncomputable def zb7(xs:List Rw):List W:=zbL (xs.map fun x=>zbd x.v)
noncomputable def repZ(z:Zn)(n:List W)(k:W):Rp:=match cutN z.t z.r n with
 | some c=>match zag z.r c with
  | some x=>.down x.n (nmOf x.v) (zb7 (zaE z.r x.n (nmOf x.v))) (minI ((x::zaE z.r x.n (nmOf x.v)).map fun x=>x.l))
  | none=>.away
 | none =>
  if (zad z.t z.r n).drop ((zad z.t z.r n).length-1)=[[42]]/\atN z.r (zad z.t z.r n)=[] then .non z.l
  else match za8 (atN z.r (zad z.t z.r n)) za9 with
   | x::_=>.els (nmOf x.v) x.l
   | []=>match za8 (atN z.r (zad z.t z.r n)) k with
    | []=>.emp z.l
    | x::r=>.rows (zb7 (x::r)) (minI ((x::r).map fun x=>x.l))
theorem Q1S{z:Zn}{n c:List W}(e:cutN z.t z.r n=some c):∃ x,zag z.r c=some x:=by
 have hs:=find?_some (show _=some c from e);rw[Q1f]at hs;cases ed:zag z.r c with
 | none=>rw[ed]at hs;cases hs
 | some x=>exact⟨x,rfl⟩
theorem Q3b{z:Zn}{c:List W}{x:Rw}(e:zag z.r c=some x):x∈z.r/\x.k=zae/\x.n=c:=by
 have:=mem_of_getLast? e;obtain⟨h1,h2⟩:=ZN.mp this;have h3:=Zv h2;exact⟨h1,h3.1,h3.2⟩
theorem nm_of(h:ZnOk z)(hx:x∈z.r)(hk:IsN x.k):x.v=dn (nmOf x.v):=by
 rcases (h.r x hx).pv with ⟨_,m,em⟩ | ⟨nk,_⟩
 ·rw[em,Q1s]
 ·exact absurd hk nk
theorem QcY(h:ZnOk z)(n:List W)(k:W):(repZ z n k).d=zax z.t z.l z.r n k:=by
 unfold repZ;cases ec:cutN z.t z.r n with
 | some c =>
  obtain⟨x,ed⟩:=Q1S ec;obtain⟨hx,hk,_⟩:=Q3b ed;rw[Q4A ec ed];simp only[ed];show D.tup [.str zae,dn x.n,dn (nmOf x.v),_,_]=.tup [.str zae,dn x.n,x.v,_,_];rw[<- nm_of h hx (by rw[hk];exact .inl rfl)]
  rfl
 | none =>
  rw[Q7D ec];unfold zaI;simp only;split
  ·rfl
  ·unfold zc3;cases ee:za8 (atN z.r (zad z.t z.r n)) za9 with
   | cons x r =>
    have hx:x∈za8 (atN z.r (zad z.t z.r n)) za9:=by rw[ee];exact Zl
    obtain⟨h1,h2⟩:=Q1D hx;obtain⟨h3,_⟩:=Q2Z h1;show D.tup [.str za9,dn (nmOf x.v),.int x.l]=.tup [.str za9,x.v,.int x.l];rw[<- nm_of h h3 (by rw[h2];exact Q3Z)]
   | nil =>
    simp only;cases za8 (atN z.r (zad z.t z.r n)) k with
    | nil=>rfl
    | cons x r=>rfl
noncomputable def repT(zs:List Zn)(o:W)(t n:List W)(k:W):Rp:=match atT (ofD zs o) t with
 | some z=>repZ z n k
 | none=>.away
theorem QcZ(h:∀ z∈zs,ZnOk z)(o:W)(t n:List W)(k:W):(repT zs o t n k).d=repO (ofD zs o) (some t) n k:=by
 unfold repT;cases e:atT (ofD zs o) t with
 | none=>rw[Q4b (show (some t).bind _=none from e)];rfl
 | some z=>rw[Q4a (show (some t).bind _=some z from e)];exact QcY (h z (Q2p (Q1L e))) n k
theorem cut_len(e:cutN top rows n=some c):top.length<c.length/\n.take c.length=c:=by
 have:=List.mem_of_find?_eq_some (show _=some c from e);obtain⟨j,hj,rfl⟩:=ZI.mp this;rw[List.range_eq_range',drop_range',List.mem_range'_1]at hj;rw[Z1];have e1:min j n.length=j:=by omega
 rw[e1];exact⟨by omega,rfl⟩
theorem Q5o{zs:List Zn}{o:W}{t n:List W}{k:W}{c h:List W}{ds:List W}{l:Int}(e:repT zs o t n k=.down c h ds l):t.length<c.length/\n.take c.length=c:=by
 unfold repT at e;cases ez:atT (ofD zs o) t with
 | none=>rw[ez]at e;cases e
 | some z =>
  rw[ez]at e;have et:=atT_t ez;unfold repZ at e;simp only at e;cases ec:cutN z.t z.r n with
  | some c' =>
   obtain⟨x,ed⟩:=Q1S ec;rw[ec]at e;simp only[ed]at e;injection e with e1;obtain⟨_,_,hn⟩:=Q3b ed;rw[<- e1,hn,<- et];exact cut_len ec
  | none =>
   rw[ec]at e;simp only at e;split at e
   ·cases e
   ·split at e
    ·cases e
    ·split at e <;> cases e
noncomputable def topL(kd:List (List W×W))(n:List W):Nat:=(((List.range (n.length+1)).filter fun j=>(val kd (n.take j)).isSome).getLast?).getD 0
noncomputable def topN(kd:List (List W×W))(n:List W):List W:=n.take (topL kd n)
noncomputable def zb2(kd:List (List W×W))(t:List W):W:=(val kd t).getD []
noncomputable def rsA(zs:List Zn)(n:List W)(k:W):Nat->List (List W×W)->List W->W->List (List W×W)×Rp
 | 0,kd,t,o=>(kd,repT zs o t n k)
 | f+1,kd,t,o=>match repT zs o t n k with
  | .down c _ (d::_) _=>rsA zs n k f (put kd c d) c d
  | r=>(kd,r)
noncomputable def rsf(zs:List Zn)(kd:List (List W×W))(n:List W)(k:W):List (List W×W)×Rp:=rsA zs n k n.length kd (topN kd n) (zb2 kd (topN kd n))
noncomputable def Goes(r:Rp)(c:List W)(d:W):Prop:=∃ h ds l,r=.down c h (d::ds) l
theorem Rp.three(r:Rp):(∃ w q,r.d=.tup (.str w::q)/\w≠zae/\(∀ c h ds l,r≠.down c h ds l))\/(∃ c h l,r=.down c h [] l)\/∃ c h d ds l,r=.down c h (d::ds) l:=by
 cases r with
 | down c h ds l =>
  cases ds with
  | nil=>exact .inr (.inl ⟨c,h,l,rfl⟩)
  | cons d ds=>exact .inr (.inr ⟨c,h,d,ds,l,rfl⟩)
 | away=>exact .inl ⟨_,_,rfl,by decide,fun _ _ _ _ z=>nomatch z⟩
 | els m l=>exact .inl ⟨_,_,rfl,by decide,fun _ _ _ _ z=>nomatch z⟩
 | rows ds l=>exact .inl ⟨_,_,rfl,by decide,fun _ _ _ _ z=>nomatch z⟩
 | non l=>exact .inl ⟨_,_,rfl,by decide,fun _ _ _ _ z=>nomatch z⟩
 | emp l=>exact .inl ⟨_,_,rfl,by decide,fun _ _ _ _ z=>nomatch z⟩
theorem Q1T(h:Goes (repT zs o t n k) c d):rsA zs n k (f+1) kd t o=rsA zs n k f (put kd c d) c d:=by
 obtain⟨hh,ds,l,e⟩:=h;show (match repT zs o t n k with | .down c _ (d::_) _=>rsA zs n k f (put kd c d) c d | r=>(kd,r))=_
 rw[e]
theorem Q0M(h:∀ c d,¬ Goes (repT zs o t n k) c d):rsA zs n k f kd t o=(kd,repT zs o t n k):=by
 cases f with
 | zero=>rfl
 | succ f =>
  show (match repT zs o t n k with | .down c _ (d::_) _=>rsA zs n k f (put kd c d) c d | r=>(kd,r))=_
  cases e:repT zs o t n k with
  | down c hh ds l =>
   cases ds with
   | nil=>rfl
   | cons d ds=>exact absurd ⟨hh,ds,l,e⟩ (h c d)
  | _=>rfl
theorem Q9s(h:(val kd []).isSome=true):topL kd n<=n.length/\∃ o,val kd (topN kd n)=some o:=by
 unfold topN topL;have h0:0∈(List.range (n.length+1)).filter fun j=>(val kd (n.take j)).isSome:=ZN.mpr ⟨ZZ.mpr (succ_pos _),by rw[take_zero];exact h⟩
 cases e:((List.range (n.length+1)).filter fun j=>(val kd (n.take j)).isSome).getLast? with
 | none=>rw[List.getLast?_eq_none_iff.mp e]at h0;cases h0
 | some j =>
  obtain⟨h1,h2⟩:=ZN.mp (mem_of_getLast? e);have:=ZZ.mp h1;exact⟨by show j<=_;omega,Yp.mp h2⟩
theorem Q4c(kd:List (List W×W))(n:List W):n.take (topN kd n).length=topN kd n:=by
 unfold topN;rw[Z1,Nat.min_def];split
 ·rfl
 ·rw[Yc,Ys (by omega)]
theorem Q5p{kd:List (List W×W)}{m c:List W}{d:W}(h:(val kd m).isSome=true):(val (put kd c d) m).isSome=true:=by
 rw[Q5n];split
 ·rfl
 ·exact h
end Tz
noncomputable def b_a0:CS :=
  (.seq (.ite (.cmp .ninT (.var 1) (.fld "Tree" "laid" (.var 0)))
  (.seq (.kput (.fld "Tree" "laid" (.var 0)) (.var 1) (.make 320 (.cons (.kget2 (.fld "Tree" "street" (.var 0)) (.var 1) (.lstz .nil)) .nil)))
  .nil)
  .nil)
  (.seq (.ret (.kix (.fld "Tree" "laid" (.var 0)) (.var 1)))
  .nil))
noncomputable def b_a5:CS :=
  (.seq (.set 3 (.ix (.compz false [0] (.call 2 (.cons (.var 1) .nil)) (.cmp .inD (.var 0) (.fld "Tree" "doors" (.var 1))) (.var 0)) (.neg (.con (.int 1)))))
  (.seq (.set 4 (.meth 325 (.meth 341 (.var 0) (.cons (.dix (.fld "Tree" "doors" (.var 0)) (.var 3)) .nil)) (.cons (.var 3) (.cons (.var 1) (.cons (.var 2) .nil)))))
  (.seq (.whil (.and (.cmp .eq (.ix (.var 4) (.con (.int 0))) (.glob 13)) (.cmp .ne (.ix (.var 4) (.con (.int 3))) (.lstz .nil)))
  (.seq (.set 3 (.ix (.var 4) (.con (.int 1))))
  (.seq (.dput (.fld "Tree" "doors" (.var 0)) (.var 3) (.ix (.ix (.var 4) (.con (.int 3))) (.con (.int 0))))
  (.seq (.set 4 (.meth 325 (.meth 341 (.var 0) (.cons (.dix (.fld "Tree" "doors" (.var 0)) (.var 3)) .nil)) (.cons (.var 3) (.cons (.var 1) (.cons (.var 2) .nil)))))
  .nil))))
  (.seq (.ret (.var 4))
  .nil))))
noncomputable def b_a8:CS :=
  (.seq (.setf "Tree" "street" (.var 0) (.var 1))
  (.seq (.setf "Tree" "laid" (.var 0) .knew)
  (.seq (.setf "Tree" "doors" (.var 0) (.disp1 (.tup .nil) (.var 2)))
  (.seq (.setf "Tree" "leads" (.var 0) .dnew)
  .nil))))
noncomputable def trF(a ld dd lv:Addr):List (Str×D):=[(("street" : Str),.ref a),(("laid" : Str),.ref ld),(("doors" : Str),.ref dd),(("leads" : Str),.ref lv)]
theorem Q9t(v:D)(h:(valT kvs k).isSome=false):putT kvs k v=kvs++[(k,v)]:=by
 unfold putT;rw[Q1y,h,Zc Zs]
section
variable{a ld dd lv:Addr}
theorem trF_s:List.lookup ("street" : Str) (trF a ld dd lv)=some (D.ref a):=Q1e
theorem trF_l:List.lookup ("laid" : Str) (trF a ld dd lv)=some (D.ref ld):=(Q0i (by decide +kernel)).trans Q1e
theorem trF_d:List.lookup ("doors" : Str) (trF a ld dd lv)=some (D.ref dd):=(Q0i (by decide +kernel)).trans ((Q0i (by decide +kernel)).trans Q1e)
theorem trF_v:List.lookup ("leads" : Str) (trF a ld dd lv)=some (D.ref lv):=(Q0i (by decide +kernel)).trans ((Q0i (by decide +kernel)).trans ((Q0i (by decide +kernel)).trans Q1e))
theorem Q4d{m:Str}(h1:(m == "street")=false)(h2:(m == "laid")=false)(h3:(m == "doors")=false)(h4:(m == "leads")=false):List.lookup m (trF a ld dd lv)=none:=(Q0i h1).trans ((Q0i h2).trans ((Q0i h3).trans ((Q0i h4).trans rfl)))
end
theorem HsOk.mono(h:HsOk M a zs)(s:Sub M M'):HsOk M' a zs:=by
 obtain⟨kvs,e1,e2⟩:=h;refine⟨kvs,s _ _ e1,fun w=>?_⟩;rcases e2 w with q | ⟨d,q1,q2⟩
 ·exact .inl q
 ·refine .inr ⟨d,q1,?_⟩;rcases Q2o q2 with e | ⟨b,e,eb⟩
  ·rw[e];rfl
  ·rw[e];simp only[zak,s _ _ eb]
theorem Q3c(e:xs.getLast? = some d)(h:Q d M):rIxD (.lst xs) (.int (-1)) M Q:=by
 show (match atI xs (-1) with | some c=>Q c M | none=>False)
 rw[My.atI_last (by intro z;subst z;cases e),<- List.getLast?_eq_getElem?,e]
 exact h
open Tz in
structure TG(M0 M:DH)(p:Addr)(zs:List Zn)(kd:List (List W×W))(kl:List (List W×Option W))(fo:List Addr)(c:Nat)(a ld dd lv:Addr)(ks:List W)(rc:W->Hr):Prop where
 ob:M p=some (.oth (.ins "Tree" (trF a ld dd lv)))
 hs:HsOk M0 a zs
 sub:Sub M0 M
 hd:M dd=some (.oth (.dct (mD kd)))
 hv:M lv=some (.oth (.dct (mL kl)))
 hl:M ld=some (.oth (.dkt (stK ks rc)))
 dl:kd.length<=c+1
 vl:kl.length<=c
 kn:ks.length<=c
 fp:M0 p=none
 fl:M0 ld=none
 fd:M0 dd=none
 fv:M0 lv=none
 nv:dd≠lv
 ff:∀ b∈fo,b≠p/\b≠ld/\b≠dd/\b≠lv/\M0 b=none/\∃ o,M b=some o
 hx:∀ w∈ks,HX M0 M (rc w).p (rc w).zd (rc w).pd (rc w).td (foW (ld::dd::lv::fo) p ks rc) (ofD zs w) c
 ap:∀ w∈ks,∀ w'∈ks,∀ b,b∈(rc w).ad->b∈(rc w').ad->w=w'
 ne:∀ w∈ks,∀ b∈(rc w).ad,b∉p::ld::dd::lv::fo
noncomputable def TX(M0 M:DH)(p:Addr)(zs:List Zn)(kd:List (List W×W))(kl:List (List W×Option W))(fo:List Addr)(c:Nat):Prop:=∃ a ld dd lv ks rc,TG M0 M p zs kd kl fo c a ld dd lv ks rc
section
open Tz
variable{M0 M M':DH}{p a ld dd lv:Addr}{zs:List Zn}{kd:List (List W×W)}{kl:List (List W×Option W)}{fo fo':List Addr}{c c':Nat}{ks:List W}{rc:W->Hr}
theorem TG.nes(t:TG M0 M p zs kd kl fo c a ld dd lv ks rc):ld≠p/\ld≠dd/\ld≠lv/\dd≠p/\lv≠p :=
 ⟨mne t.hl t.ob (fun z=>nomatch z),mne t.hl t.hd (fun z=>nomatch z),mne t.hl t.hv (fun z=>nomatch z),mne t.hd t.ob (fun z=>nomatch z),mne t.hv t.ob (fun z=>nomatch z)⟩
theorem TG.all(t:TG M0 M p zs kd kl fo c a ld dd lv ks rc)(hb:b∈p::ld::dd::lv::fo):M0 b=none/\∃ o,M b=some o:=by
 simp only[Z3]at hb;rcases hb with rfl | rfl | rfl | rfl | hb
 ·exact⟨t.fp,_,t.ob⟩
 ·exact⟨t.fl,_,t.hl⟩
 ·exact⟨t.fd,_,t.hd⟩
 ·exact⟨t.fv,_,t.hv⟩
 ·obtain⟨_,_,_,_,m5,m6⟩:=t.ff b hb;exact⟨m5,m6⟩
theorem fo_in(hb:b∈p::ld::dd::lv::fo):b∈foW (ld::dd::lv::fo) p ks rc:=by
 unfold foW;simp only[Z3,cons_append,ZO]at hb ⊢;rcases hb with e | e | e | e | e
 ·simp[e]
 ·simp[e]
 ·simp[e]
 ·simp[e]
 ·simp[e]
theorem TG.mono(t:TG M0 M p zs kd kl fo c a ld dd lv ks rc)(s:Sub M M'):TG M0 M' p zs kd kl fo c a ld dd lv ks rc :=
 {t with
  ob:=s _ _ t.ob
  sub:=t.sub.trans s
  hd:=s _ _ t.hd
  hv:=s _ _ t.hv
  hl:=s _ _ t.hl
  ff:=fun b hb=>by obtain⟨m1,m2,m3,m4,m5,u,m6⟩:=t.ff b hb;exact⟨m1,m2,m3,m4,m5,u,s _ _ m6⟩
  hx:=fun w hw=>(t.hx w hw).mono s }
theorem TX.mono(t:TX M0 M p zs kd kl fo c)(s:Sub M M'):TX M0 M' p zs kd kl fo c:=by
 obtain⟨a,ld,dd,lv,ks,rc,t⟩:=t;exact⟨a,ld,dd,lv,ks,rc,t.mono s⟩
theorem TX.keep(t:TX M0 M p zs kd kl fo c)(s:Sub M M'):∀ b∈fo,M' b=M b:=fun b hb=>by
 obtain⟨a,ld,dd,lv,ks,rc,t⟩:=t;obtain⟨_,_,_,_,_,u,m6⟩:=t.ff b hb;rw[m6];exact s _ _ m6
theorem TX.sub(t:TX M0 M p zs kd kl fo c):Sub M0 M:=by obtain⟨_,_,_,_,_,_,t⟩:=t;exact t.sub
theorem TX.le(t:TX M0 M p zs kd kl fo c)(h:c<=c'):TX M0 M p zs kd kl fo c':=by
 obtain⟨a,ld,dd,lv,ks,rc,t⟩:=t;exact⟨a,ld,dd,lv,ks,rc,{ t with dl:=Z4 t.dl (by omega),vl:=Z4 t.vl h,kn:=Z4 t.kn h,hx:=fun w hw=>(t.hx w hw).le h }⟩
theorem TX.less(t:TX M0 M p zs kd kl fo c)(s:∀ b∈fo',b∈fo):TX M0 M p zs kd kl fo' c:=by
 obtain⟨a,ld,dd,lv,ks,rc,t⟩:=t;refine⟨a,ld,dd,lv,ks,rc,{ t with ff:=fun b hb=>t.ff b (s b hb),hx:=fun w hw=>(t.hx w hw).less (fun b hb=>?_) (foW_p hw) (foW_t hw),ne:=fun w hw b hb z=>t.ne w hw b hb ?_ }⟩
 ·unfold foW at hb ⊢;simp only[Z3,cons_append,ZO]at hb ⊢;rcases hb with e | e | e | e | e | e
  ·simp[e]
  ·simp[e]
  ·simp[e]
  ·simp[s b e]
  ·simp[e]
  ·exact .inr (.inr (.inr (.inr (.inr e))))
 ·simp only[Z3]at z ⊢;rcases z with e | e | e | e | e
  ·simp[e]
  ·simp[e]
  ·simp[e]
  ·simp[e]
  ·simp[s b e]
theorem TX.add(t:TX M0 M p zs kd kl fo c)(hb:M b=none):TX M0 (dupd M b u) p zs kd kl (b::fo) c:=by
 obtain⟨a,ld,dd,lv,ks,rc,t⟩:=t;have s:=Sub.new (o:=u) hb;have t2:=t.mono s;refine⟨a,ld,dd,lv,ks,rc,{ t2 with ff:=fun x hx=>?_,hx:=fun w hw=>?_,ne:=fun w hw x hx z=>?_ }⟩
 ·rcases Z3.mp hx with rfl | hx
  ·exact⟨(dne t.ob hb).symm,(dne t.hl hb).symm,(dne t.hd hb).symm,(dne t.hv hb).symm,t.sub.none hb,_,Q0a⟩
  ·exact t2.ff x hx
 ·refine ((t.hx w hw).grows (ex:=[b]) s fun x hx=>?_).less (fun x hx=>?_) (foW_p hw) (foW_t hw)
  ·rw[Zz.mp hx];exact⟨hb,_,Q0a⟩
  ·unfold foW at hx ⊢;simp only[Z3,cons_append,ZO,nil_append]at hx ⊢;rcases hx with e | e | e | e | e | e | e
   ·simp[e]
   ·simp[e]
   ·simp[e]
   ·simp[e]
   ·simp[e]
   ·simp[e]
   ·exact .inr (.inr (.inr (.inr (.inr (.inr e)))))
 ·obtain⟨o,ho⟩:∃ o,M x=some o:=by
   rcases (t.hx w hw).kinds hx with e | ⟨_,e⟩
   ·exact⟨_,e⟩
   ·exact⟨_,e⟩
  simp only[Z3]at z;rcases z with e | e | e | e | e | e
  ·exact t.ne w hw x hx (by simp[e])
  ·exact t.ne w hw x hx (by simp[e])
  ·exact t.ne w hw x hx (by simp[e])
  ·exact t.ne w hw x hx (by simp[e])
  ·exact dne ho hb e
  ·exact t.ne w hw x hx (by simp[e])
theorem TG.wr(t:TG M0 M p zs kd kl fo c a ld dd lv ks rc)(hb:b∈p::ld::dd::lv::fo):∀ w∈ks,HX M0 (dupd M b u) (rc w).p (rc w).zd (rc w).pd (rc w).td (foW (ld::dd::lv::fo) p ks rc) (ofD zs w) c:=fun w hw =>
 have ne:∀ x∈(rc w).ad,b≠x:=fun x hx e=>t.ne w hw x hx (by rw[<- e];exact hb)
 (t.hx w hw).write (fo_in hb) (t.all hb).1 (ne _ (ad_p _)) (ne _ (ad_z _)) (ne _ (ad_g _)) (ne _ (ad_t _))
theorem TX.write(t:TX M0 M p zs kd kl fo c)(hb:b∈fo):TX M0 (dupd M b u) p zs kd kl fo c:=by
 obtain⟨a,ld,dd,lv,ks,rc,t⟩:=t;obtain⟨n1,n2,n3,n4,n5,_⟩:=t.ff b hb;exact⟨a,ld,dd,lv,ks,rc,{ t with
  ob:=by rw[Q0b n1.symm];exact t.ob
  sub:=t.sub.put n5
  hd:=by rw[Q0b n3.symm];exact t.hd
  hv:=by rw[Q0b n4.symm];exact t.hv
  hl:=by rw[Q0b n2.symm];exact t.hl
  ff:=fun x hx=>by
   obtain⟨m1,m2,m3,m4,m5,u',m6⟩:=t.ff x hx;refine⟨m1,m2,m3,m4,m5,?_⟩;by_cases e:x=b
   ·rw[e];exact⟨_,Q0a⟩
   ·exact⟨u',by rw[Q0b e];exact m6⟩
  hx:=t.wr (by simp[hb]) }⟩
theorem TG.fo2(t:TG M0 M p zs kd kl fo c a ld dd lv ks rc)(hb:∀ x∈fo,x≠b):∀ x∈fo,x≠p/\x≠ld/\x≠dd/\x≠lv/\M0 x=none/\∃ o,dupd M b u x=some o:=fun x hx=>by
 obtain⟨m1,m2,m3,m4,m5,u',m6⟩:=t.ff x hx;exact⟨m1,m2,m3,m4,m5,u',by rw[Q0b (hb x hx)];exact m6⟩
theorem TG.door(t:TG M0 M p zs kd kl fo c a ld dd lv ks rc):TX M0 (dupd M dd (.oth (.dct (putD (mD kd) n (.str o))))) p zs (put kd n o) kl fo (c+1)/\∀ b∈fo,dupd M dd (.oth (.dct (putD (mD kd) n (.str o)))) b=M b:=by
 have ne:=t.nes;refine⟨⟨a,ld,dd,lv,ks,rc,{ t with
  ob:=by rw[Q0b ne.2.2.2.1.symm];exact t.ob
  sub:=t.sub.put t.fd
  hd:=by rw[Q0a,Q7E D.str]
  hv:=by rw[Q0b t.nv.symm];exact t.hv
  hl:=by rw[Q0b ne.2.1];exact t.hl
  dl:=by have:=Q2G kd n o;have:=t.dl;omega
  vl:=ZF t.vl
  kn:=ZF t.kn
  ff:=t.fo2 fun x hx=>(t.ff x hx).2.2.1
  hx:=fun w hw=>(t.wr (by simp) w hw).le (Yq c) }⟩,fun b hb=>Q0b (t.ff b hb).2.2.1⟩
theorem TG.lead(t:TG M0 M p zs kd kl fo c a ld dd lv ks rc):TX M0 (dupd M lv (.oth (.dct (putD (mL kl) n (odD v))))) p zs kd (put kl n v) fo (c+1)/\∀ b∈fo,dupd M lv (.oth (.dct (putD (mL kl) n (odD v)))) b=M b:=by
 have ne:=t.nes;refine⟨⟨a,ld,dd,lv,ks,rc,{ t with
  ob:=by rw[Q0b ne.2.2.2.2.symm];exact t.ob
  sub:=t.sub.put t.fv
  hd:=by rw[Q0b t.nv];exact t.hd
  hv:=by rw[Q0a,Q7E odD]
  hl:=by rw[Q0b ne.2.2.1];exact t.hl
  dl:=ZF t.dl
  vl:=by have:=Q2G kl n v;have:=t.vl;omega
  kn:=ZF t.kn
  ff:=t.fo2 fun x hx=>(t.ff x hx).2.2.2.1
  hx:=fun w hw=>(t.wr (by simp) w hw).le (Yq c) }⟩,fun b hb=>Q0b (t.ff b hb).2.2.2.1⟩
theorem TG.said(t:TG M0 M p zs kd kl fo c a ld dd lv ks rc)(ho:o∈ks)(H:HX M0 M' (rc o).p (rc o).zd (rc o).pd (rc o).td (foW (ld::dd::lv::fo) p ks rc) (ofD zs o) (c+1))(s:HSub (rc o).pd (rc o).td M M'):TG M0 M' p zs kd kl fo (c+1) a ld dd lv ks rc/\∀ b∈fo,M' b=M b:=by
 have kp:∀ b∈p::ld::dd::lv::fo,∀ u,M b=some u->M' b=some u:=fun b hb u e=>s b u (fun z=>t.ne o ho _ (ad_g _) (by rw[<- z];exact hb)) (fun z=>t.ne o ho _ (ad_t _) (by rw[<- z];exact hb)) e
 obtain⟨kp2,p2,_⟩:=H.hp;obtain⟨kt2,t2,_⟩:=H.ht;refine⟨{ t with
  ob:=kp p (by simp) _ t.ob
  sub:=H.sub
  hd:=kp dd (by simp) _ t.hd
  hv:=kp lv (by simp) _ t.hv
  hl:=kp ld (by simp) _ t.hl
  dl:=ZF t.dl
  vl:=ZF t.vl
  kn:=ZF t.kn
  ff:=fun x hx=>by
   obtain⟨m1,m2,m3,m4,m5,u',m6⟩:=t.ff x hx;exact⟨m1,m2,m3,m4,m5,u',kp x (by simp[hx]) _ m6⟩
  hx:=fun w hw=>?_ },fun b hb=>?_⟩
 ·by_cases e:w=o
  ·rw[e];exact H
  ·exact (HX.side (ex:=[]) (t.hx w hw) s H.sub (foW_p ho) (foW_t ho) (fun b hb=>⟨fun z=>e (t.ap w hw o ho b hb (by rw[z];exact ad_g _)),fun z=>e (t.ap w hw o ho b hb (by rw[z];exact ad_t _))⟩) (fun b hb=>nomatch hb) ⟨_,p2⟩ ⟨_,t2⟩).le (Yq c)
 ·obtain⟨_,_,_,_,_,u',m6⟩:=t.ff b hb;rw[kp b (by simp[hb]) _ m6,m6]
end
section
open Tz
theorem HX.wide(X:HX M0 M x zd pd td fo zs 0)(h1:pd∈fo')(h2:td∈fo')(hf:∀ b∈fo',∃ o,M b=some o):HX M0 M x zd pd td fo' zs 0 :=
 {X with
  fp:=h1
  ft:=h2
  fi:=hf
  hp:=by
   obtain⟨kp,e1,e2,e3⟩:=X.hp;have e4:kp=[]:=List.length_eq_zero_iff.mp (Nat.le_zero.mp e2);subst e4;exact⟨[],e1,e2,fun n v e=>nomatch e⟩ }
theorem TG.lay{M0 M M':DH}{p a ld dd lv:Addr}{zs:List Zn}{kd:List (List W×W)}{kl:List (List W×Option W)}{fo:List Addr}{c:Nat}{ks:List W}{rc:W->Hr}{o:W}{x zd pd td:Addr}(t:TG M0 M p zs kd kl fo c a ld dd lv ks rc)(ho:o∉ks)(hx:M x=none)(X:∀ M0,Sub M0 (dupd M x (.oth (.ins "House" [])))->M0 x=none->HX M0 M' x zd pd td [pd,td] (ofD zs o) 0) :
  ∃ rc',(rc' o).p=x/\TG M0 (dupd M' ld (.oth (.dkt (stK (ks++[o]) rc')))) p zs kd kl fo (c+1) a ld dd lv (ks++[o]) rc'/\(∀ w∈ks,rc' w=rc w)/\(∀ b∈fo,dupd M' ld (.oth (.dkt (stK (ks++[o]) rc'))) b=M b)/\Sub M M':=by
 have X1:=X M (Sub.new hx) hx;have X0:=X M0 (t.sub.trans (Sub.new hx)) (t.sub.none hx);have sb:=X1.sub;have t1:=t.mono sb;have ne:=t.nes;have fx:∀ b∈(Hr.mk x zd pd td).ad,M b=none:=fun b hb=>by
  simp only[Hr.ad,Z3,ZR,or_false]at hb;rcases hb with rfl | rfl | rfl | rfl
  ·exact hx
  ·exact X1.f0
  ·exact X1.f1
  ·exact X1.f2
 have lx:∀ b∈(Hr.mk x zd pd td).ad,∃ u,M' b=some u:=fun b hb=>by
  rcases X1.kinds (h:=⟨x,zd,pd,td⟩) hb with e | ⟨_,e⟩
  ·exact⟨_,e⟩
  ·exact⟨_,e⟩
 have rk:∀ w∈ks,(fun w=>if w=o then Hr.mk x zd pd td else rc w) w=rc w:=fun w hw=>Zc fun z=>ho (by rw[<- z];exact hw)
 have ro:(fun w=>if w=o then Hr.mk x zd pd td else rc w) o=Hr.mk x zd pd td:=Ze rfl
 generalize (fun w=>if w=o then Hr.mk x zd pd td else rc w)=rc' at rk ro
 have fm:∀ b,b∈foW (ld::dd::lv::fo) p (ks++[o]) rc' <-> b∈[pd,td]++foW (ld::dd::lv::fo) p ks rc:=fun b=>by
  unfold foW;have e1:(ks++[o]).flatMap (fun w=>[(rc' w).pd,(rc' w).td])=ks.flatMap (fun w=>[(rc w).pd,(rc w).td])++[pd,td]:=by
   rw[List.flatMap_append,List.flatMap_singleton,ro];congr 1;have:∀ l:List W,(∀ w∈l,rc' w=rc w)->l.flatMap (fun w=>[(rc' w).pd,(rc' w).td])=l.flatMap (fun w=>[(rc w).pd,(rc w).td]):=fun l=>by
    induction l with
    | nil=>exact fun _=>rfl
    | cons w l ih =>
     intro h;rw[List.flatMap_cons,List.flatMap_cons,h w Zl,ih fun w hw=>h w (Zq _ hw)]
   exact this ks rk
  rw[e1];simp only[ZO,Z3,ZR,or_false];constructor
  ·rintro (h | h | h | h)
   ·exact .inr (.inl h)
   ·exact .inr (.inr (.inl h))
   ·exact .inr (.inr (.inr h))
   ·exact .inl h
  ·rintro (h | h | h | h)
   ·exact .inr (.inr (.inr h))
   ·exact .inl h
   ·exact .inr (.inl h)
   ·exact .inr (.inr (.inl h))
 have ms:∀ {w},w∈ks++[o]->w∈ks\/w=o:=fun h=>(ZO.mp h).imp id Zz.mp;have old:∀ w∈ks,∀ b∈(rc w).ad,∃ u,M b=some u:=fun w hw b hb=>by
  rcases (t.hx w hw).kinds hb with e | ⟨_,e⟩
  ·exact⟨_,e⟩
  ·exact⟨_,e⟩
 have nw:∀ b∈(Hr.mk x zd pd td).ad,b∉p::ld::dd::lv::fo:=fun b hb z=>by
  obtain⟨_,u,e⟩:=t.all z;exact dne e (fx b hb) rfl
 have hxs:∀ w∈ks++[o],HX M0 M' (rc' w).p (rc' w).zd (rc' w).pd (rc' w).td (foW (ld::dd::lv::fo) p (ks++[o]) rc') (ofD zs w) c:=fun w hw=>by
  rcases ms hw with h | h
  ·rw[rk w h];have g:=(t.hx w h).grows (ex:=[pd,td]) sb fun b hb=>?_
   ·exact g.less (fun b hb=>(fm b).mp hb) ((fm _).mpr (Zw _ (foW_p h))) ((fm _).mpr (Zw _ (foW_t h)))
   ·have hb':b∈(Hr.mk x zd pd td).ad:=by
     simp only[Z3,ZR,or_false]at hb;rcases hb with rfl | rfl
     ·exact ad_g _
     ·exact ad_t _
    exact⟨fx b hb',lx b hb'⟩
  ·rw[h,ro];refine (X0.wide ((fm _).mpr (by simp)) ((fm _).mpr (by simp)) fun b hb=>?_).le (ZB c)
   rcases ZO.mp ((fm b).mp hb) with q | q
   ·simp only[Z3,ZR,or_false]at q;rcases q with rfl | rfl
    ·exact lx _ (ad_g _)
    ·exact lx _ (ad_t _)
   ·unfold foW at q;rcases ZO.mp q with q | q
    ·obtain⟨_,u,e⟩:=t.all (b:=b) (Zq _ q);exact⟨u,sb _ _ e⟩
    ·rcases Z3.mp q with rfl | q
     ·exact⟨_,sb _ _ t.ob⟩
     ·obtain⟨w',hw',e⟩:=mem_flatMap.mp q;simp only[Z3,ZR,or_false]at e;rcases e with rfl | rfl
      ·obtain⟨u,e⟩:=old w' hw' _ (ad_g _);exact⟨u,sb _ _ e⟩
      ·obtain⟨u,e⟩:=old w' hw' _ (ad_t _);exact⟨u,sb _ _ e⟩
 have nes:∀ w∈ks++[o],∀ b∈(rc' w).ad,b∉p::ld::dd::lv::fo:=fun w hw=>by
  rcases ms hw with h | h
  ·rw[rk w h];exact t.ne w h
  ·rw[h,ro];exact nw
 have ap:∀ w∈ks++[o],∀ w'∈ks++[o],∀ b,b∈(rc' w).ad->b∈(rc' w').ad->w=w':=fun w hw w' hw' b h1 h2=>by
  rcases ms hw with h | h <;> rcases ms hw' with h' | h'
  ·rw[rk w h]at h1;rw[rk w' h']at h2;exact t.ap w h w' h' b h1 h2
  ·rw[rk w h]at h1;rw[h',ro]at h2;obtain⟨u,e⟩:=old w h b h1;rw[fx b h2]at e;cases e
  ·rw[h,ro]at h1;rw[rk w' h']at h2;obtain⟨u,e⟩:=old w' h' b h2;rw[fx b h1]at e;cases e
  ·rw[h,h']
 refine⟨rc',by rw[ro],{ t with
  ob:=by rw[Q0b ne.1.symm];exact t1.ob
  sub:=t1.sub.put t.fl
  hd:=by rw[Q0b ne.2.1.symm];exact t1.hd
  hv:=by rw[Q0b ne.2.2.1.symm];exact t1.hv
  hl:=Q0a
  dl:=ZF t.dl
  vl:=ZF t.vl
  kn:=by rw[Zi];exact Nat.succ_le_succ t.kn
  ff:=t1.fo2 fun x hx=>(t.ff x hx).2.1
  hx:=fun w hw=>?_
  ap:=ap
  ne:=nes },rk,fun b hb=>?_,sb⟩
 ·have nn:∀ x∈(rc' w).ad,ld≠x:=fun x hx e=>nes w hw x hx (by simp[<- e])
  exact ((hxs w hw).write (fo_in (by simp)) t.fl (nn _ (ad_p _)) (nn _ (ad_z _)) (nn _ (ad_g _)) (nn _ (ad_t _))).le (Yq c)
 ·obtain⟨_,m2,_,_,_,u,m6⟩:=t.ff b hb;rw[Q0b m2,m6];exact sb _ _ m6
end
open Tz in
noncomputable def sp_a8:DSp:=fun ds M R=>∃ (p a:Addr) (zs:List Zn) (o:W),ds=[.ref p,.ref a,.str o]/\M p=some (.oth (.ins "Tree" []))/\HsOk M a zs /\
 ∀ M',(∀ M0,Sub M0 M->M0 p=none->HsOk M0 a zs->TX M0 M' p zs [([],o)] [] [] 0)->R .non M'
theorem none_of{M M':DH}{p b:Addr}(k:∀ b u,b≠p->M b=some u->M' b=some u)(n:b≠p)(h:M' b=none):M b=none:=by
 cases e:M b with
 | none=>rfl
 | some u=>rw[k b u n e]at h;cases h
theorem ok_a8{T:Tab}:∀ ds M R,sp_a8 ds M R->evS T b_a8 (za4 R) (za3 ["self","houses","root"] ds) M:=by
 rintro ds M R ⟨p,a,zs,o,rfl,hp,hs,h⟩;simp only[b_a8];refine Q0c fun k1 e1=>?_;walk_at "ev";refine⟨p,[],rfl,hp,by decide,?_⟩
 have g1:dupd M p (.oth (.ins "Tree" (zaz "street" (.ref a) []))) p=some (.oth (.ins "Tree" [(("street" : Str),.ref a)])):=Q0a;have k1_:∀ b u,b≠p->M b=some u->dupd M p (.oth (.ins "Tree" (zaz "street" (.ref a) []))) b=some u:=fun b u n e=>by rw[Q0b n];exact e
 generalize dupd M p (.oth (.ins "Tree" (zaz "street" (.ref a) [])))=M1 at g1 k1_;rw[e1];clear e1;refine Q0c fun k1 e1=>?_;walk_at "ev";intro ld hld;have n1:p≠ld:=dne g1 hld;have f1:M ld=none:=none_of k1_ n1.symm hld;refine⟨p,_,rfl,by rw[Q0b n1];exact g1,by simp,?_⟩
 rw[Q0m (by show ("laid" : Str)∉[("street" : Str)];decide +kernel)]
 obtain⟨M2,eM2⟩:∃ M2:DH,M2=dupd (dupd M1 ld (.oth (.dkt []))) p (.oth (.ins "Tree" ([(("street" : Str),.ref a)]++[(("laid" : Str),.ref ld)]))):=⟨_,rfl⟩;have g2:M2 p=some (.oth (.ins "Tree" [(("street" : Str),.ref a),(("laid" : Str),.ref ld)])):=by rw[eM2];exact Q0a
 have l2:M2 ld=some (.oth (.dkt [])):=by rw[eM2,Q0b n1.symm,Q0a]
 have k2_:∀ b u,b≠p->M b=some u->M2 b=some u:=fun b u n e=>by rw[eM2,Q0b n,Q0b (dne e f1)];exact k1_ b u n e
 rw[<- eM2];clear eM2 g1 k1_ hld;rw[e1];clear e1;refine Q0c fun k1 e1=>?_;walk_at "ev";intro dd hdd;have n2:p≠dd:=dne g2 hdd;have f2:M dd=none:=none_of k2_ n2.symm hdd;have n3:ld≠dd:=dne l2 hdd;refine⟨ZB _,[],rfl,Q0a,p,_,rfl,by rw[Q0b n2,Q0b n2];exact g2,by simp,?_⟩
 rw[Q1v,Q0m (by show ("doors" : Str)∉[("street" : Str),"laid"];decide +kernel)]
 obtain⟨M3,eM3⟩:∃ M3:DH,M3=dupd (dupd M2 dd (.oth (.dct [([],.str o)]))) p (.oth (.ins "Tree" ([(("street" : Str),.ref a),(("laid" : Str),.ref ld)]++[(("doors" : Str),.ref dd)]))):=⟨_,rfl⟩;have g3:M3 p=some (.oth (.ins "Tree" [(("street" : Str),.ref a),(("laid" : Str),.ref ld),(("doors" : Str),.ref dd)])):=by rw[eM3];exact Q0a
 have l3:M3 ld=some (.oth (.dkt [])):=by rw[eM3,Q0b n1.symm,Q0b n3];exact l2
 have d3:M3 dd=some (.oth (.dct [([],.str o)])):=by rw[eM3,Q0b n2.symm,Q0a]
 have k3_:∀ b u,b≠p->M b=some u->M3 b=some u:=fun b u n e=>by rw[eM3,Q0b n,Q0b (dne e f2)];exact k2_ b u n e
 rw[<- eM3];clear eM3 g2 k2_ hdd l2;rw[e1];clear e1;walk_at "ev";intro lv hlv;have n4:p≠lv:=dne g3 hlv;have f3:M lv=none:=none_of k3_ n4.symm hlv;refine⟨p,_,rfl,by rw[Q0b n4];exact g3,by simp,?_⟩
 rw[Q0m (by show ("leads" : Str)∉[("street" : Str),"laid","doors"];decide +kernel)]
 refine Q0f (h _ fun M0 s0 fp hs0=>⟨a,ld,dd,lv,[],fun _=>⟨p,p,p,p⟩,⟨Q0a,hs0,fun b u hb=>?_,?_,?_,?_,Zo 1,Zo 0,Zo 0,fp,s0.none f1,s0.none f2,s0.none f3,dne d3 hlv,(fun b hb=>nomatch hb),(fun w hw=>nomatch hw),(fun w hw=>nomatch hw),(fun w hw=>nomatch hw)⟩⟩)
 ·have e:=s0 b u hb;have np:b≠p:=dne hb fp;rw[Q0b np,Q0b (dne e f3)];exact k3_ b u np e
 ·rw[Q0b n2.symm,Q0b (dne d3 hlv)];exact d3
 ·rw[Q0b n4.symm,Q0a];rfl
 ·rw[Q0b n1.symm,Q0b (dne l3 hlv)];exact l3
open Tz in
noncomputable def sp_a0:DSp:=fun ds M R=>∃ (M0:DH) (p:Addr) (zs:List Zn) (kd:List (List W×W)) (kl:List (List W×Option W)) (fo:List Addr) (c:Nat) (o:W),ds=[.ref p,.str o]/\TX M0 M p zs kd kl fo c/\ZsOk zs/\c<=14900000 /\
 ∀ M' a ld dd lv ks rc,TG M0 M' p zs kd kl fo (c+1) a ld dd lv ks rc->o∈ks->(∀ b∈fo,M' b=M b)->R (.ref (rc o).p) M'
theorem ok_a0(T:Tab)(h320:T.ini 320=some ⟨"House","__init__",1,sp_aj⟩):∀ ds M R,sp_a0 ds M R->evS T b_a0 (za4 R) (za3 ["self","door"] ds) M:=by
 rintro ds M R ⟨M0,p,zs,kd,kl,fo,c,o,rfl,⟨a,ld,dd,lv,ks,rc,t⟩,hz,hc,k⟩;simp only[b_a0];refine Q0c fun k1 e1=>?_;have fin:∀ M' ks rc,TG M0 M' p zs kd kl fo (c+1) a ld dd lv ks rc->o∈ks->(∀ b∈fo,M' b=M b)->k1 [some (.ref p),some (.str o)] M':=by
  intro M' ks rc t' ho fr;rw[e1];walk_at "ev";exact⟨p,_,_,rfl,t'.ob,trF_l,o,ld,_,.ref (rc o).p,rfl,rfl,t'.hl,by rw[Q3a,Ze ho],Q0f (k M' a ld dd lv ks rc t' ho fr)⟩
 walk_at "ev";refine⟨p,_,_,rfl,t.ob,trF_l,o,ld,_,rfl,rfl,t.hl,?_⟩;rw[Q3a];by_cases ho:o∈ks
 ·rw[Ze ho];refine iteF (fin M ks rc ?_ ho fun _ _=>rfl);exact { t with dl:=ZF t.dl,vl:=ZF t.vl,kn:=ZF t.kn,hx:=fun w hw=>(t.hx w hw).le (Yq c) }
 ·rw[Zc ho];refine iteT ?_;simp only[h320];walk_at "ev";obtain⟨kvs,s1,s2⟩:=t.hs;have s1':=t.sub _ _ s1;refine⟨p,_,_,rfl,t.ob,trF_s,a,kvs,rfl,s1',ZB _,o,kvs,rfl,s1',fun x hx=>?_⟩;have hdl:zak (dupd M x (.oth (.ins "House" []))) ((valT kvs o).getD (.lst []))=some ((ofD zs o).map Zn.v):=by
   rcases s2 o with ⟨q1,q2⟩ | ⟨d,q1,q2⟩
   ·rw[q1,q2];rfl
   ·rw[q1];show zak _ d=_;rcases Q2o q2 with e | ⟨b,e,eb⟩
    ·rw[e];rfl
    ·rw[e];simp only[zak,Sub.new hx _ _ (t.sub _ _ eb)]
  refine⟨x,_,ofD zs o,rfl,Q0a,hdl,Z4 (hz.len o) (by decide),hz.nd o,fun M' zd pd td hX=>⟨rfl,?_⟩⟩
  obtain⟨rc',hp,t2,hk,fr,sb⟩:=t.lay ho hx hX;have en:putT (stK ks rc) o (.ref x)=stK (ks++[o]) rc':=by
   rw[Q9t _ (by rw[Q3a,Zc ho];rfl)]
   unfold stK;rw[Z7];congr 1
   ·exact map_congr_left fun w hw=>by rw[hk w hw]
   ·show [(o,D.ref x)]=[(o,.ref (rc' o).p)];rw[hp]
  refine⟨p,_,_,rfl,sb _ _ t.ob,trF_l,ld,o,_,rfl,rfl,sb _ _ t.hl,smallM (by unfold stK;rw[Zd];have:=t.kn;omega),?_⟩
  rw[en];exact fin _ _ _ t2 (Zw _ (Zz.mpr rfl)) fr
open Tz in
noncomputable def sp_a5:DSp:=fun ds M R=>∃ (M0:DH) (p:Addr) (zs:List Zn) (kd:List (List W×W)) (kl:List (List W×Option W)) (fo:List Addr) (c:Nat) (n:List W) (k:W),ds=[.ref p,dn n,.str k]/\TX M0 M p zs kd kl fo c/\ZsOk zs/\c<=14000000/\¬ IsN k/\n.length<=30/\(val kd []).isSome=true /\
 ∀ M',TX M0 M' p zs (rsf zs kd n k).1 kl fo (c+100)->(∀ b∈fo,M' b=M b)->R (rsf zs kd n k).2.d M'
section
open Tz
theorem Q9u(h:(val kd []).isSome=true):(((List.range (n.length+1)).filter fun j=>(val kd (n.take j)).isSome).map fun j=>dn (n.take j)).getLast? = some (dn (topN kd n)):=by
 unfold topN topL;rw[List.getLast?_map];have h0:0∈(List.range (n.length+1)).filter fun j=>(val kd (n.take j)).isSome:=ZN.mpr ⟨ZZ.mpr (succ_pos _),by rw[take_zero];exact h⟩
 cases e:((List.range (n.length+1)).filter fun j=>(val kd (n.take j)).isSome).getLast? with
 | none=>rw[List.getLast?_eq_none_iff.mp e]at h0;cases h0
 | some j=>rfl
theorem Q5q{T:Tab}(h325:T.mt 325=some ⟨"House","reply",3,sp_a2⟩)(h341:T.mt 341=some ⟨"Tree","house",1,sp_a0⟩){M0 M:DH}{p:Addr}{zs:List Zn}{kd:List (List W×W)}{kl:List (List W×Option W)}{fo:List Addr}{c:Nat}{n t:List W}{k o:W}{Q:DK}(tx:TX M0 M p zs kd kl fo c)(hz:ZsOk zs)(hc:c<=14800000)(hk:¬ IsN k)(hn:n.length<=30)(ht:n.take t.length=t)
  (h:∀ M',TX M0 M' p zs kd kl fo (c+2)->(∀ b∈fo,M' b=M b)->Q (repT zs o t n k).d M'):sp_a0 [.ref p,.str o] M fun d M1=>∃ a fs,d=.ref a/\M1 a=some (.oth (.ins "House" fs))/\List.lookup ("reply" : Str) fs=none/\sp_a2 [.ref a,dn t,dn n,.str k] M1 Q:=by
 refine⟨M0,p,zs,kd,kl,fo,c,o,rfl,tx,hz,by omega,fun M2 a2 ld2 dd2 lv2 ks rc tg ho fr2=>?_⟩
 have H:=tg.hx o ho;refine⟨(rc o).p,_,rfl,H.ob,Q7C,M0,(rc o).p,_,_,_,_,ofD zs o,c+1,some t,n,k,rfl,H,hz.of o,by omega,hk,by omega,fun a ha=>by cases ha;exact ht,fun M3 hx3 s3=>?_⟩
 obtain⟨t3,fr3⟩:=tg.said ho hx3 s3;rw[<- QcZ hz.ok];exact h M3 ⟨_,_,_,_,_,_,t3⟩ fun b hb=>(fr3 b hb).trans (fr2 b hb)
end
open Tz in
theorem ok_a5(T:Tab)(h325:T.mt 325=some ⟨"House","reply",3,sp_a2⟩)(h341:T.mt 341=some ⟨"Tree","house",1,sp_a0⟩)(h2:T.fn 2=some ⟨"above",1,[],sp_a1⟩)(h13:T.con 13=some (("DOWN" : Str),D.str [100,111,119,110])) :
  ∀ ds M R,sp_a5 ds M R->evS T b_a5 (za4 R) (za3 ["self","name","kind","top","reply"] ds) M:=by
 rintro ds M R ⟨M0,p,zs,kd,kl,fo,c,n,k,rfl,t,hz,hc,hk,hn,d0,h⟩;simp only[b_a5];refine Q0c fun k1 e1=>?_;walk_at "ev";simp only[h2];walk_at "ev";refine⟨n,rfl,by omega,fun q hq=>?_⟩
 simp only[Q0a];have sb:=Sub.new (o:=.lst (za7 n)) hq;have t1:=t.mono sb;have kp:=t.keep sb;obtain⟨a,ld,dd,lv,ks,rc,tp⟩:=id t1;refine Q0n (fun i ys M'=>M'=dupd M q (.lst (za7 n))/\ys=((List.range i).filter fun j=>(val kd (n.take j)).isSome).map fun j=>dn (n.take j)) ⟨rfl,rfl⟩ (fun i ys M' h=>by rw[h.1];exact Q0a) ?_ ?_
 ·rintro i y ys M' k2 hi ⟨rfl,hy⟩ hk2;have hi1:i<n.length+1:=by
   have:=(Zk.mp hi).1;unfold za7 at this;rw[Zd,ZD]at this;exact this
  have hy':y=dn (n.take i):=by
   unfold za7 at hi;rw[Z5,getElem?_range hi1]at hi;cases hi;rfl
  subst hy';walk_at "ev";refine⟨p,_,_,rfl,tp.ob,trF_d,n.take i,dd,_,rfl,rfl,tp.hd,?_⟩;rw[Q0W];have yl:ys.length<=i:=by
   rw[hy,Zd];exact Z4 (Yn ..) (by rw[ZD];exact Zo i)
  have stp:∀ b,(val kd (n.take i)).isSome=b->((List.range (i+1)).filter fun j=>(val kd (n.take j)).isSome).map (fun j=>dn (n.take j))=ys++if b=true then [dn (n.take i)] else []:=fun b hb=>by
   rw[range_succ,ZY,Z7,<- hy,ZT,hb];cases b <;> rfl
  cases ev:val kd (n.take i) with
  | none =>
   refine hk2 _ _ ⟨rfl,?_⟩;rw[stp false (by rw[ev];rfl)]
   exact (Yh _).symm
  | some o =>
   show _/\_;refine⟨small1000 (by omega),hk2 _ _ ⟨rfl,?_⟩⟩
   rw[stp true (by rw[ev];rfl)]
   rfl
 rintro ys M' ⟨rfl,hy⟩;have hal:(za7 n).length=n.length+1:=by unfold za7;rw[Zd,ZD]
 rw[hal]at hy;have yl:ys.length<=31:=by
  rw[hy,Zd];exact Z4 (Yn ..) (by rw[ZD];omega)
 refine⟨szL (by omega),Q3c (d:=dn (topN kd n)) (by rw[hy];exact Q9u d0) ?_⟩
 generalize dupd M q (.lst (za7 n))=M1 at *;obtain⟨_,o,ho⟩:=Q9s (n:=n) d0;have ed:zb2 kd (topN kd n)=o:=by unfold zb2;rw[ho];rfl
 rw[e1];clear e1;refine Q0c fun k1 e1=>?_;walk_at "ev";simp only[h341,h325];walk_at "ev";refine⟨p,_,rfl,tp.ob,Q4d (by decide +kernel) (by decide +kernel) (by decide +kernel) (by decide +kernel),p,_,_,rfl,tp.ob,trF_d,topN kd n,dd,_,.str o,rfl,rfl,tp.hd,by rw[Q0W,ho];rfl,?_⟩
 refine Q5q h325 h341 (k:=k) t1 hz (by omega) hk hn (Q4c kd n) fun M3 t3 fr3=>?_
 clear tp hy yl hal;rw[e1];clear e1;refine Q0c fun k1 e1=>?_;show zau _ _ _ _ _;refine Q0Q (fun f ρ M'=>∃ (kd':List (List W×W)) (tt:List W) (oo:W) (c':Nat),ρ=[some (.ref p),some (dn n),some (.str k),some (dn tt),some (repT zs oo tt n k).d]/\(∀ b∈fo,M' b=M b)/\TX M0 M' p zs kd' kl fo c'/\c'+3 * f<=c+92/\n.take tt.length=tt/\n.length<=tt.length+f/\rsA zs n k f kd' tt oo=rsf zs kd n k)
  ⟨n.length,kd,topN kd n,o,c+2,rfl,fun b hb=>(fr3 b hb).trans (kp b hb),t3,by omega,Q4c kd n,by omega,by unfold rsf;rw[ed]⟩ ?_
 rintro f ρ M' ⟨kd',tt,oo,c',rfl,fr,t4,cc,tk,fl,er⟩ TB eTB
 -- the loop's end
 have fin:(∀ c d,¬ Goes (repT zs oo tt n k) c d)->k1 [some (.ref p),some (dn n),some (.str k),some (dn tt),some (repT zs oo tt n k).d] M':=fun hs=>by
  rw[Q0M hs]at er;rw[<- er]at h;rw[e1];walk_at "ev";exact Q0f (h M' (t4.le (by omega)) fr)
 walk_at "ev";simp only[h13];walk_at "ev";rcases Rp.three (repT zs oo tt n k) with ⟨w,q,e,hw,nd⟩ | ⟨cc1,hh,l,e⟩ | ⟨cc1,hh,d,ds,l,e⟩
 ·have f:=fin fun c d ⟨h,ds,l,z⟩=>nd c h (d::ds) l z;rw[e]at f ⊢;refine ix_tup (by decide) (by simp only[Zj];omega) fun d0 hd0=>?_
  cases hd0
  try walk_at "ev"
  exact⟨rfl,rfl,ite2 (fun z=>absurd (Zv z) hw) fun _=>f⟩
 ·have f:=fin fun c d ⟨h,ds,l,z⟩=>by rw[e]at z;cases z
  rw[e]at f ⊢;simp only[Rp.d]at f ⊢;walk_at "q0"
  try walk_at "ev"
  refine⟨rfl,rfl,ite2 (fun _=>?_) fun _=>f⟩;walk_at "q0"
  try walk_at "ev"
  refine⟨ZB _,rfl,rfl,ite2 (fun z=>?_) fun _=>f⟩;have z':(!eqB (D.lst []) (.lst []))=true:=z;rw[Q0J]at z';cases z'
 ·clear fin;obtain⟨cl,ct⟩:=Q5o e;rw[e];simp only[Rp.d];walk_at "q0"
  try walk_at "ev"
  refine⟨rfl,rfl,ite2 (fun _=>?_) fun z=>absurd rfl z⟩;walk_at "q0"
  try walk_at "ev"
  have pv:plain 12 (.lst (.str d::ds.map D.str))=true:=by
   show ((D.str d::ds.map D.str).all (plain 11))=true;rw[Ye,ZM.mpr fun x hx=>by obtain⟨w,_,rfl⟩:=ZI.mp hx;rfl]
   rfl
  have ene:eqB (D.lst (.str d::ds.map D.str)) (.lst [])=false:=(Q0T _ _).mpr fun z=>by injection z with z;cases z
  refine⟨ZB _,pv,rfl,ite2 (fun _=>?_) fun z=>?_⟩;rotate_left
  ·have z':¬ (!eqB (D.lst (.str d::ds.map D.str)) (.lst []))=true:=z;rw[ene]at z';exact absurd rfl z'
  cases f with
  | zero =>
   exfalso
   have:=congrArg List.length ct;rw[Z1]at this;omega
  | succ f =>
  rw[Q1T ⟨hh,ds,l,e⟩]at er;refine⟨fun ρ' M''=>ρ'=[some (.ref p),some (dn n),some (.str k),some (dn cc1),some (repT zs d cc1 n k).d]/\(∀ b∈fo,M'' b=M b)/\TX M0 M'' p zs (put kd' cc1 d) kl fo (c'+3),fun ρ' M'' z=>⟨f,Yo f,put kd' cc1 d,cc1,d,c'+3,z.1,z.2.1,z.2.2,by omega,ct,by omega,er⟩,?_⟩
  rw[eTB];clear eTB e1;show evS T (.seq _ _) _ _ _;refine Q0c fun k2 e2=>?_;walk_at "ev";walk_at "q0";rw[e2];clear e2;refine Q0c fun k2 e2=>?_;obtain⟨a,ld,dd,lv,ks,rc,tp⟩:=id t4;walk_at "ev";walk_at "q0";refine Q1l (by decide) (by simp only[Zj];omega) fun d0 hd0=>?_
  cases hd0;refine⟨p,_,_,rfl,tp.ob,trF_d,dd,cc1,_,rfl,rfl,tp.hd,smallM (by rw[Zd];have:=tp.dl;omega),?_⟩
  obtain⟨t5,f5⟩:=tp.door (n:=cc1) (o:=d);generalize dupd M' dd (.oth (.dct (putD (mD kd') cc1 (.str d))))=M5 at t5 f5;clear tp t4;rw[e2];clear e2;obtain⟨a,ld,dd,lv,ks,rc,tp⟩:=id t5;walk_at "ev";simp only[h341,h325];walk_at "ev";refine⟨p,_,rfl,tp.ob,Q4d (by decide +kernel) (by decide +kernel) (by decide +kernel) (by decide +kernel),p,_,_,rfl,tp.ob,trF_d,cc1,dd,_,.str d,rfl,rfl,tp.hd,by rw[Q0W,Q5n,Ze rfl];rfl,?_⟩
  exact Q5q h325 h341 t5 hz (by omega) hk hn ct fun M7 t7 f7=>⟨rfl,fun b hb=>(f7 b hb).trans ((f5 b hb).trans (fr b hb)),t7⟩
noncomputable def b_a6:CS :=
  (.seq (.set 3 (.con .non))
  (.seq (.whil (.cmp .isN (.var 3) (.con .non))
  (.seq (.set 4 (.ml .pop (.var 1) .nil))
  (.seq (.dput (.fld "Tree" "leads" (.var 0)) (.ix (.var 4) (.con (.int 1))) (.var 2))
  (.seq (.set 3 (.ix (.var 4) (.con (.int 0))))
  .nil))))
  (.seq (.dput (.fld "Tree" "doors" (.var 0)) (.var 3) (.var 2))
  .nil)))
noncomputable def b_a3:CS :=
  (.seq (.ex (.ml .append (.var 1) (.cons (.tup (.cons (.var 2) (.cons (.var 3) .nil))) .nil)))
  (.seq (.ite (.cmp .ninD (.var 3) (.fld "Tree" "leads" (.var 0)))
  (.seq (.dput (.fld "Tree" "leads" (.var 0)) (.var 3) (.con .non))
  (.seq (.ret (.con (.bl true)))
  .nil))
  .nil)
  (.seq (.ite (.cmp .isN (.dix (.fld "Tree" "leads" (.var 0)) (.var 3)) (.con .non))
  (.seq (.ret (.con (.bl false)))
  .nil)
  .nil)
  (.seq (.ex (.meth 347 (.var 0) (.cons (.var 1) (.cons (.dix (.fld "Tree" "leads" (.var 0)) (.var 3)) .nil))))
  (.seq (.ret (.con (.bl true)))
  .nil)))))
noncomputable def b_ay:CS :=
  (.seq (.set 2 (.meth 343 (.var 0) (.cons (.ix (.ix (.var 1) (.neg (.con (.int 1)))) (.con (.int 1))) (.cons (.glob 14) .nil))))
  (.seq (.ite (.cmp .eq (.ix (.var 2) (.con (.int 0))) (.glob 15))
  (.seq (.ex (.meth 347 (.var 0) (.cons (.var 1) (.cons (.ix (.ix (.var 2) (.con (.int 1))) (.con (.int 0))) .nil))))
  (.seq (.ret (.con (.bl true)))
  .nil))
  .nil)
  (.seq (.ite (.cmp .eq (.ix (.var 2) (.con (.int 0))) (.glob 12))
  (.seq (.ret (.meth 346 (.var 0) (.cons (.var 1) (.cons (.con .non) (.cons (.ix (.var 2) (.con (.int 1))) .nil)))))
  .nil)
  .nil)
  (.seq (.ite (.cmp .eq (.ix (.var 2) (.con (.int 0))) (.glob 13))
  (.seq (.ret (.meth 346 (.var 0) (.cons (.var 1) (.cons (.ix (.var 2) (.con (.int 1))) (.cons (.ix (.var 2) (.con (.int 2))) .nil)))))
  .nil)
  .nil)
  (.seq (.ret (.con (.bl false)))
  .nil)))))
noncomputable def b_az:CS :=
  (.seq (.set 3 (.lst .nil))
  (.seq (.set 4 (.meth 346 (.var 0) (.cons (.var 3) (.cons (.var 1) (.cons (.var 2) .nil)))))
  (.seq (.whil (.and (.var 4) (.cmp .ne (.var 3) (.lstz .nil)))
  (.seq (.set 4 (.meth 345 (.var 0) (.cons (.var 3) .nil)))
  .nil))
  (.seq (.ret (.cmp .inD (.var 1) (.fld "Tree" "doors" (.var 0))))
  .nil))))
noncomputable def b_a4:CS :=
  (.seq (.set 3 (.meth 343 (.var 0) (.cons (.var 1) (.cons (.var 2) .nil))))
  (.seq (.whil (.and (.cmp .eq (.ix (.var 3) (.con (.int 0))) (.glob 13)) (.meth 344 (.var 0) (.cons (.ix (.var 3) (.con (.int 1))) (.cons (.ix (.var 3) (.con (.int 2))) .nil))))
  (.seq (.set 3 (.meth 343 (.var 0) (.cons (.var 1) (.cons (.var 2) .nil))))
  .nil))
  (.seq (.ret (.var 3))
  .nil)))
namespace Tz
noncomputable abbrev Ch:=List (Option (List W)×List W)
noncomputable def stD(s:Option (List W)×List W):D:=.tup [onm s.1,dn s.2]
noncomputable def chD(s:Ch):List D:=s.reverse.map stD
theorem Q3d(x:Option (List W)×List W)(s:Ch):chD (x::s)=chD s++[stD x]:=by unfold chD;rw[List.reverse_cons,Z7];rfl
theorem Q7H(s:Ch):(chD s).length=s.length:=by unfold chD;rw[Zd,List.length_reverse]
theorem Q7I(n:Option (List W)):plain 10 (onm n)=true:=by
 cases n with
 | none=>rfl
 | some k=>exact Q0D 8 _
theorem Q7J(s:Ch):plain 12 (.lst (chD s))=true:=by
 show (chD s).all (plain 11)=true;rw[ZM];intro d hd;obtain⟨x,_,rfl⟩:=ZI.mp hd;show [onm x.1,dn x.2].all (plain 10)=true;simp only[Ye,all_nil,Q7I,Q0D 8,Bool.and_true]
noncomputable abbrev Kd:=List (List W×W)
noncomputable abbrev Kl:=List (List W×Option W)
noncomputable def zaH:Ch->W->Kd->Kl->Option (Kd×Kl×Ch)
 | [],_,_,_=>none
 | (some c,n)::s,o,kd,kl=>some (put kd c o,put kl n (some o),s)
 | (none,n)::s,o,kd,kl=>zaH s o kd (put kl n (some o))
noncomputable def zab(kd:Kd)(kl:Kl)(s:Ch)(c:Option (List W))(n:List W):Option (Bool×Kd×Kl×Ch):=match val kl n with
 | none=>some (true,kd,put kl n none,(c,n)::s)
 | some none=>some (false,kd,kl,(c,n)::s)
 | some (some o)=>(zaH ((c,n)::s) o kd kl).map fun x=>(true,x)
noncomputable def zaa(zs:List Zn)(kd:Kd)(kl:Kl):Ch->Option (Bool×Kd×Kl×Ch)
 | []=>none
 | (c,n)::s=>match (rsf zs kd n za1).2 with
  | .rows (d::_) _=>(zaH ((c,n)::s) d (rsf zs kd n za1).1 kl).map fun x=>(true,x)
  | .rows [] _=>none
  | .els m _=>zab (rsf zs kd n za1).1 kl ((c,n)::s) none m
  | .down c' h _ _=>zab (rsf zs kd n za1).1 kl ((c,n)::s) (some c') h
  | _=>some (false,(rsf zs kd n za1).1,kl,(c,n)::s)
noncomputable def zb1(zs:List Zn):Nat->Bool->Kd->Kl->Ch->Option (Kd×Kl)
 | 0,_,_,_,_=>none
 | _+1,false,kd,kl,_=>some (kd,kl)
 | _+1,true,kd,kl,[]=>some (kd,kl)
 | f+1,true,kd,kl,x::s=>(zaa zs kd kl (x::s)).bind fun y=>zb1 zs f y.1 y.2.1 y.2.2.1 y.2.2.2
noncomputable def zas(zs:List Zn)(f:Nat)(kd:Kd)(kl:Kl)(c h:List W):Option (Kd×Kl):=(zab kd kl [] (some c) h).bind fun y=>zb1 zs f y.1 y.2.1 y.2.2.1 y.2.2.2
noncomputable def zaf(zs:List Zn)(n:List W)(k:W):Nat->Kd->Kl->Option (Kd×Kl×Rp)
 | 0,_,_=>none
 | f+1,kd,kl=>match (rsf zs kd n k).2 with
  | .down c h _ _=>(zas zs f (rsf zs kd n k).1 kl c h).bind fun x=>if (val x.1 c).isSome=true then zaf zs n k f x.1 x.2 else some (x.1,x.2,(rsf zs kd n k).2)
  | r=>some ((rsf zs kd n k).1,kl,r)
theorem Q5r:∀ (f:Nat) {kd:Kd} {t:List W} {o:W},(val kd m).isSome=true->(val (rsA zs n k f kd t o).1 m).isSome=true
 | 0,_,_,_,h=>h
 | f+1,kd,t,o,h=>by
  by_cases g:∃ c d,Goes (repT zs o t n k) c d
  ·obtain⟨c,d,g⟩:=g;rw[Q1T g];exact Q5r f (Q5p h)
  ·rw[Q0M fun c d z=>g ⟨c,d,z⟩];exact h
theorem Q3e(h:(val kd m).isSome=true):(val (rsf zs kd n k).1 m).isSome=true:=Q5r _ h
theorem Q7K:∀ (f:Nat) (kd:Kd) (t:List W) (o:W),∃ o' t',(rsA zs n k f kd t o).2=repT zs o' t' n k
 | 0,_,t,o=>⟨o,t,rfl⟩
 | f+1,kd,t,o=>by
  by_cases g:∃ c d,Goes (repT zs o t n k) c d
  ·obtain⟨c,d,g⟩:=g;rw[Q1T g];exact Q7K f _ _ _
  ·rw[Q0M fun c d z=>g ⟨c,d,z⟩];exact⟨o,t,rfl⟩
theorem Q7L(zs:List Zn)(kd:Kd)(n:List W)(k:W):∃ o t,(rsf zs kd n k).2=repT zs o t n k:=Q7K _ _ _ _
theorem Q5s(h:ZnOk z):(∀ m l,repZ z n k=.els m l->m.length<=20)/\∀ c hh ds l,repZ z n k=.down c hh ds l->hh.length<=20:=by
 have nl:∀ x∈z.r,(nmOf x.v).length<=20:=fun x hx=>by
  have hv:=h.v x hx;rcases (h.r x hx).pv with ⟨_,m,em⟩ | ⟨_,w,em⟩
  ·rw[em]at hv ⊢;rw[Q1s];simpa[vlen,dn]using hv
  ·rw[em];exact ZB _
 unfold repZ;cases ec:cutN z.t z.r n with
 | some c =>
  obtain⟨x,ed⟩:=Q1S ec;simp only[ed];exact⟨(fun _ _ z=>nomatch z),fun c hh ds l z=>by injection z with _ z;rw[<- z];exact nl x (Q3b ed).1⟩
 | none =>
  simp only;split
  ·exact⟨(fun _ _ z=>nomatch z),(fun _ _ _ _ z=>nomatch z)⟩
  ·split
   ·next x r ee =>
    have hx:x∈za8 (atN z.r (zad z.t z.r n)) za9:=by rw[ee];exact Zl
    exact⟨fun m l z=>by injection z with z;rw[<- z];exact nl x (Q2Z (Q1D hx).1).1,(fun _ _ _ _ z=>nomatch z)⟩
   ·split <;> exact⟨(fun _ _ z=>nomatch z),(fun _ _ _ _ z=>nomatch z)⟩
theorem Q4B(h:∀ z∈zs,ZnOk z):(∀ m l,(rsf zs kd n k).2=.els m l->m.length<=20)/\∀ c hh ds l,(rsf zs kd n k).2=.down c hh ds l->hh.length<=20:=by
 obtain⟨o,t,e⟩:=Q7L zs kd n k;rw[e];unfold repT;cases ez:atT (ofD zs o) t with
 | none=>exact⟨(fun _ _ z=>nomatch z),(fun _ _ _ _ z=>nomatch z)⟩
 | some z=>exact Q5s (h z (Q2p (Q1L ez)))
end Tz
open Tz in
noncomputable def sp_a6:DSp:=fun ds M R=>∃ (M0:DH) (p cl:Addr) (zs:List Zn) (kd:Kd) (kl:Kl) (fo:List Addr) (c:Nat) (s:Ch) (o:W) (y:Kd×Kl×Ch),ds=[.ref p,.ref cl,.str o]/\TX M0 M p zs kd kl fo c/\cl∈fo/\M cl=some (.lst (chD s))/\zaH s o kd kl=some y/\s.length<=900/\c+s.length<=14000000 /\
 ∀ M',TX M0 M' p zs y.1 y.2.1 fo (c+s.length+1)->M' cl=some (.lst (chD y.2.2))->(∀ b∈fo,b≠cl->M' b=M b)->R .non M'
open Tz in
theorem ok_a6:∀ ds M R,sp_a6 ds M R->evS T b_a6 (za4 R) (za3 ["self","chain","door","cut","step"] ds) M:=by
 rintro ds M R ⟨M0,p,cl,zs,kd,kl,fo,c,s,o,y,rfl,t,hcl,hc,hp,sl,cl9,h⟩;simp only[b_a6];refine Q0c fun k1 e1=>?_;walk_at "ev";rw[e1];clear e1;refine Q0c fun k1 e1=>?_;show zau _ _ _ _ _;refine Q0Q (fun j ρ M'=>∃ (s':Ch) (kl':Kl) (c':Nat) (v4:Option D) (b:Option (List W)),ρ=[some (.ref p),some (.ref cl),some (.str o),some (onm b),v4]/\TX M0 M' p zs kd kl' fo c'/\M' cl=some (.lst (chD s'))/\(∀ x∈fo,x≠cl->M' x=M x)/\c'+(if b=none then s'.length else 0)<=c+s.length/\s'.length<=s.length /\
  (b=none->j=s'.length+1/\zaH s' o kd kl'=some y)/\(∀ k,b=some k->y=(put kd k o,kl',s')))
  ⟨s.length+1,s,kl,c,none,none,rfl,t,hc,fun _ _ _=>rfl,Zo _,Zo _,fun _=>⟨rfl,hp⟩,fun _ z=>nomatch z⟩ ?_
 rintro j ρ M' ⟨s',kl',c',v4,b,rfl,t',hc',fr,hcc,hsl,hb0,hb1⟩ TB eTB;cases b with
 | some k =>
  have ey:=hb1 k rfl;rw[ey]at h;walk_at "ev";rw[Zc (fun z=>nomatch z)]at hcc
  refine ite2 (fun z=>?_) fun _=>?_
  ·exact absurd z (by show ¬ (false=true);decide)
  obtain⟨a,ld,dd,lv,ks,rc,tp⟩:=id t';rw[e1];clear e1;walk_at "ev";have dl:=tp.dl;obtain⟨t5,f5⟩:=tp.door (n:=k) (o:=o);exact⟨p,_,_,rfl,tp.ob,trF_d,dd,k,_,rfl,rfl,tp.hd,smallM (by rw[Zd];omega),Q0f (h _ (t5.le (by omega)) (by rw[f5 cl hcl];exact hc') fun x hx ne=>by rw[f5 x hx];exact fr x hx ne)⟩
 | none =>
  obtain⟨rfl,hp'⟩:=hb0 rfl;walk_at "ev";rw[Ze rfl]at hcc;cases s' with
  | nil=>cases hp'
  | cons x s'' =>
   simp only[Zj]at hcc hsl;obtain⟨a,ld,dd,lv,ks,rc,tp⟩:=id t';refine⟨fun ρ' M''=>ρ'=[some (.ref p),some (.ref cl),some (.str o),some (onm x.1),some (stD x)]/\TX M0 M'' p zs kd (put kl' x.2 (some o)) fo (c'+1)/\M'' cl=some (.lst (chD s''))/\∀ y∈fo,y≠cl->M'' y=M y,fun ρ' M'' z=>?_,?_⟩
   ·obtain⟨rfl,z1,z2,z3⟩:=z;obtain⟨xo,xa⟩:=x;cases xo with
    | some k'=>exact⟨0,by omega,s'',_,_,_,some k',rfl,z1,z2,z3,by rw[Zc (fun z=>nomatch z)];omega,by omega,(fun z=>nomatch z),fun k z=>by injection z with z;rw[<- z];injection hp' with hp';exact hp'.symm⟩
    | none=>exact⟨s''.length+1,by simp only[Zj];omega,s'',_,_,_,none,rfl,z1,z2,z3,by rw[Ze rfl];omega,by omega,fun _=>⟨rfl,hp'⟩,fun k z=>nomatch z⟩
   rw[eTB];clear eTB e1;show evS T (.seq _ _) _ _ _;refine Q0c fun k2 e2=>?_;walk_at "ev";simp only[hc'];have ecd:=Q3d x s'';refine⟨cl,_,stD x,rfl,hc',by rw[ecd,Zi,ZH,Nat.add_sub_cancel,Ym (Zo _),sub_self];rfl,?_⟩
   rw[ecd,List.dropLast_concat];have t2:=t'.write (b:=cl) (u:=.lst (chD s'')) hcl;have c2:dupd M' cl (.lst (chD s'')) cl=some (.lst (chD s'')):=Q0a;have f2:∀ y∈fo,y≠cl->dupd M' cl (.lst (chD s'')) y=M y:=fun y hy ne=>by rw[Q0b ne];exact fr y hy ne
   generalize dupd M' cl (.lst (chD s''))=M2 at t2 c2 f2;clear tp t' hc' fr;obtain⟨a,ld,dd,lv,ks,rc,tp⟩:=id t2;rw[e2];clear e2;refine Q0c fun k2 e2=>?_;walk_at "ev";refine⟨p,_,_,rfl,tp.ob,trF_v,?_⟩;walk_at "q0";have vl:=tp.vl;refine⟨lv,x.2,_,rfl,rfl,tp.hv,smallM (by rw[Zd];omega),?_⟩
   obtain⟨t3,f3⟩:=tp.lead (n:=x.2) (v:=some o);rw[e2];clear e2;walk_at "ev";walk_at "q0";exact⟨rfl,t3,(f3 cl hcl).trans c2,fun y hy ne=>(f3 y hy).trans (f2 y hy ne)⟩
open Tz in
noncomputable def sp_a3:DSp:=fun ds M R=>∃ (M0:DH) (p cl:Addr) (zs:List Zn) (kd:Kd) (kl:Kl) (fo:List Addr) (c:Nat) (s:Ch) (c0:Option (List W)) (n:List W) (y:Bool×Kd×Kl×Ch),ds=[.ref p,.ref cl,onm c0,dn n]/\TX M0 M p zs kd kl fo c/\cl∈fo/\M cl=some (.lst (chD s))/\zab kd kl s c0 n=some y/\s.length<=800/\c+s.length<=13999000 /\
 ∀ M',TX M0 M' p zs y.2.1 y.2.2.1 fo (c+s.length+3)->M' cl=some (.lst (chD y.2.2.2))->(∀ b∈fo,b≠cl->M' b=M b)->R (.bl y.1) M'
open Tz in
theorem ok_a3(T:Tab)(h347:T.mt 347=some ⟨"Tree","settle",2,sp_a6⟩):∀ ds M R,sp_a3 ds M R->evS T b_a3 (za4 R) (za3 ["self","chain","cut","name"] ds) M:=by
 rintro ds M R ⟨M0,p,cl,zs,kd,kl,fo,c,s,c0,n,y,rfl,t,hcl,hc,he,sl,cl9,h⟩;simp only[b_a3];refine Q0c fun k1 e1=>?_;walk_at "ev";simp only[hc];refine⟨szL (by decide),small1000 (by rw[Q7H];omega),?_⟩
 show k1 _ (dupd M cl (.lst (chD s++[stD (c0,n)])));rw[<- Q3d];have t2:=t.write (b:=cl) (u:=.lst (chD ((c0,n)::s))) hcl;have c2:dupd M cl (.lst (chD ((c0,n)::s))) cl=some (.lst (chD ((c0,n)::s))):=Q0a;have f2:∀ y∈fo,y≠cl->dupd M cl (.lst (chD ((c0,n)::s))) y=M y:=fun y _ ne=>Q0b ne;generalize dupd M cl (.lst (chD ((c0,n)::s)))=M2 at t2 c2 f2;clear t hc;obtain⟨a,ld,dd,lv,ks,rc,tp⟩:=id t2;have vl:=tp.vl;rw[e1];clear e1;refine Q0c fun k1 e1=>?_;walk_at "ev";refine⟨p,_,_,rfl,tp.ob,trF_v,n,lv,_,rfl,rfl,tp.hv,?_⟩;rw[Q0W];unfold zab at he;cases eL:val kl n with
 | none =>
  rw[eL]at he;injection he with he;rw[<- he]at h;refine iteT ⟨p,_,_,rfl,tp.ob,trF_v,lv,n,_,rfl,rfl,tp.hv,smallM (by rw[Zd];omega),Q0f ?_⟩
  obtain⟨t3,f3⟩:=tp.lead (n:=n) (v:=none);exact h _ (t3.le (by omega)) ((f3 cl hcl).trans c2) fun y hy ne=>(f3 y hy).trans (f2 y hy ne)
 | some b =>
  rw[eL]at he;refine iteF ?_;rw[e1];clear e1;refine Q0c fun k1 e1=>?_;walk_at "ev";refine⟨p,_,_,rfl,tp.ob,trF_v,n,lv,_,_,rfl,rfl,tp.hv,by rw[Q0W,eL];rfl,?_⟩
  cases b with
  | none =>
   injection he with he;rw[<- he]at h;show (if (true:Bool)=true then _ else _)
   exact iteT (Q0f (h M2 (t2.le (by omega)) c2 f2))
  | some o =>
   obtain⟨x,ex,rfl⟩:=ZA.mp he;show (if (false:Bool)=true then _ else _)
   refine iteF ?_;rw[e1];clear e1;refine Q0c fun k1 e1=>?_;walk_at "ev";simp only[h347];walk_at "ev";refine⟨p,_,rfl,tp.ob,Q4d (by decide +kernel) (by decide +kernel) (by decide +kernel) (by decide +kernel),p,_,_,rfl,tp.ob,trF_v,n,lv,_,_,rfl,rfl,tp.hv,by rw[Q0W,eL];rfl,?_⟩
   refine⟨M0,p,cl,zs,kd,kl,fo,c,_,o,x,rfl,t2,hcl,c2,ex,by rw[Zj];omega,by rw[Zj];omega,fun M3 t3 c3 f3=>?_⟩
   rw[e1];clear e1;walk_at "ev";exact Q0f (h M3 (t3.le (by rw[Zj];omega)) c3 fun b hb ne=>(f3 b hb ne).trans (f2 b hb ne))
section
open Tz
theorem Q9v(hm:M a=some (.lst xs))(e:xs.getLast? = some d)(h:Q d M):rIxD (.ref a) (.int (-1)) M Q:=by
 show (match M a with | some (.lst xs)=>(match atI xs (-1) with | some c=>Q c M | none=>False) | _=>False)
 rw[hm];show (match atI xs (-1) with | some c=>Q c M | none=>False)
 rw[My.atI_last (by intro z;subst z;cases e),<- List.getLast?_eq_getElem?,e]
 exact h
theorem Q3f:¬ IsN za1:=by unfold IsN;decide
theorem TX.tob(t:TX M0 M p zs kd kl fo c):∃ fs,M p=some (.oth (.ins "Tree" fs))/\∀ m:Str,(m == "street")=false->(m == "laid")=false->(m == "doors")=false->(m == "leads")=false->List.lookup m fs=none:=by
 obtain⟨a,ld,dd,lv,ks,rc,tp⟩:=t;exact⟨_,tp.ob,fun m h1 h2 h3 h4=>Q4d h1 h2 h3 h4⟩
end
open Tz in
noncomputable def sp_ay:DSp:=fun ds M R=>∃ (M0:DH) (p cl:Addr) (zs:List Zn) (kd:Kd) (kl:Kl) (fo:List Addr) (c:Nat) (s:Ch) (y:Bool×Kd×Kl×Ch),ds=[.ref p,.ref cl]/\TX M0 M p zs kd kl fo c/\ZsOk zs/\(val kd []).isSome=true/\cl∈fo/\M cl=some (.lst (chD s))/\(∀ x∈s,x.2.length<=30)/\zaa zs kd kl s=some y/\s.length<=700/\c+s.length<=13990000 /\
 ∀ M',TX M0 M' p zs y.2.1 y.2.2.1 fo (c+s.length+103)->M' cl=some (.lst (chD y.2.2.2))->(∀ b∈fo,b≠cl->M' b=M b)->R (.bl y.1) M'
open Tz in
set_option maxHeartbeats 2000000 in
theorem ok_ay(T:Tab)(h346:T.mt 346=some ⟨"Tree","enters",3,sp_a3⟩)(h347:T.mt 347=some ⟨"Tree","settle",2,sp_a6⟩)(h343:T.mt 343=some ⟨"Tree","reply_so_far",2,sp_a5⟩)(h13:T.con 13=some (("DOWN" : Str),D.str [100,111,119,110]))(h12:T.con 12=some (("ELSE" : Str),D.str [101,108,115,101]))(h15:T.con 15=some (("ROWS" : Str),D.str [114,111,119,115]))(h14:T.con 14=some (("DOOR" : Str),D.str [100,111,111,114])) :
  ∀ ds M R,sp_ay ds M R->evS T b_ay (za4 R) (za3 ["self","chain","reply"] ds) M:=by
 rintro ds M R ⟨M0,p,cl,zs,kd,kl,fo,c,s,y,rfl,t,hz,d0,hcl,hc,hs,hf,sl,cl9,h⟩;cases s with
 | nil=>cases hf
 | cons x s =>
 obtain⟨c0,n⟩:=x;have hn:=hs _ Zl;simp only[Zj]at sl cl9 h;obtain⟨fs,ob,no⟩:=t.tob;simp only[b_ay];refine Q0c fun k1 e1=>?_;walk_at "ev";simp only[h343,h14];walk_at "ev";refine⟨p,fs,rfl,ob,no _ (by decide +kernel) (by decide +kernel) (by decide +kernel) (by decide +kernel),?_⟩
 refine Q9v hc (by rw[Q3d];exact List.getLast?_concat) ?_
 walk_at "q0";refine⟨M0,p,zs,kd,kl,fo,c,n,za1,rfl,t,hz,by omega,Q3f,hn,d0,fun M2 t2 f2=>?_⟩
 have c2:=(f2 cl hcl).trans hc;obtain⟨fs,ob,no⟩:=t2.tob;clear t hc;unfold zaa at hf;refine (show k1 [some (.ref p),some (.ref cl),some (rsf zs kd n za1).2.d] M2 from ?_);obtain⟨kd1,r,er⟩:∃ kd1 r,rsf zs kd n za1=(kd1,r):=⟨_,_,rfl⟩;simp only[er]at hf t2 ⊢;rw[e1];clear e1;refine Q0c fun k1 e1=>?_;walk_at "ev";simp only[h15];walk_at "ev";have ent:∀ (c1:Option (List W)) (m:List W),zab kd1 kl ((c0,n)::s) c1 m=some y->sp_a3 [.ref p,.ref cl,onm c1,dn m] M2 (fun d M'=>∃ M0,Sub M0 M'/\R d M0):=fun c1 m e =>
  ⟨M0,p,cl,zs,kd1,kl,fo,c+100,_,c1,m,y,rfl,t2,hcl,c2,e,by rw[Zj];omega,by rw[Zj];omega,fun M3 t3 c3 f3=>Q0f (h M3 (t3.le (by rw[Zj];omega)) c3 fun b hb ne=>(f3 b hb ne).trans (f2 b hb))⟩
 cases r with
 | rows ds l =>
  cases ds with
  | nil=>cases hf
  | cons d ds =>
  obtain⟨x,ex,rfl⟩:=ZA.mp hf;simp only[Rp.d];walk_at "q0"
  try walk_at "ev"
  refine⟨rfl,rfl,ite2 (fun _=>?_) fun z=>absurd (Zm rfl) z⟩;simp only[h347];walk_at "ev";refine⟨p,fs,rfl,ob,no _ (by decide +kernel) (by decide +kernel) (by decide +kernel) (by decide +kernel),?_⟩
  walk_at "q0";refine Q1l (by decide) (by simp only[Zj];omega) fun d0 hd0=>?_
  cases hd0;exact⟨M0,p,cl,zs,kd1,kl,fo,c+100,_,d,x,rfl,t2,hcl,c2,ex,by rw[Zj];omega,by rw[Zj];omega,fun M3 t3 c3 f3=>Q0f (h M3 (t3.le (by rw[Zj];omega)) c3 fun b hb ne=>(f3 b hb ne).trans (f2 b hb))⟩
 | els m l =>
  simp only[Rp.d];walk_at "q0"
  try walk_at "ev"
  refine⟨rfl,rfl,ite2 (fun z=>absurd (Zv z) (by decide)) fun _=>?_⟩
  rw[e1];clear e1;refine Q0c fun k1 e1=>?_;walk_at "ev";simp only[h12];walk_at "ev";walk_at "q0"
  try walk_at "ev"
  refine⟨rfl,rfl,ite2 (fun _=>?_) fun z=>absurd (Zm rfl) z⟩;simp only[h346];walk_at "ev";refine⟨p,fs,rfl,ob,no _ (by decide +kernel) (by decide +kernel) (by decide +kernel) (by decide +kernel),?_⟩
  walk_at "q0";exact ent none m hf
 | down c1 hh ds l =>
  simp only[Rp.d];walk_at "q0"
  try walk_at "ev"
  refine⟨rfl,rfl,ite2 (fun z=>absurd (Zv z) (by decide)) fun _=>?_⟩
  rw[e1];clear e1;refine Q0c fun k1 e1=>?_;walk_at "ev";simp only[h12];walk_at "ev";walk_at "q0"
  try walk_at "ev"
  refine⟨rfl,rfl,ite2 (fun z=>absurd (Zv z) (by decide)) fun _=>?_⟩
  rw[e1];clear e1;refine Q0c fun k1 e1=>?_;walk_at "ev";simp only[h13];walk_at "ev";walk_at "q0"
  try walk_at "ev"
  refine⟨rfl,rfl,ite2 (fun _=>?_) fun z=>absurd (Zm rfl) z⟩;simp only[h346];walk_at "ev";refine⟨p,fs,rfl,ob,no _ (by decide +kernel) (by decide +kernel) (by decide +kernel) (by decide +kernel),?_⟩
  walk_at "q0";walk_at "q0";exact ent (some c1) hh hf
 | away =>
  simp only[Rp.d];walk_at "q0"
  try walk_at "ev"
  refine⟨rfl,rfl,ite2 (fun z=>absurd (Zv z) (by decide)) fun _=>?_⟩
  rw[e1];clear e1;refine Q0c fun k1 e1=>?_;walk_at "ev";simp only[h12];walk_at "ev";walk_at "q0"
  try walk_at "ev"
  refine⟨rfl,rfl,ite2 (fun z=>absurd (Zv z) (by decide)) fun _=>?_⟩
  rw[e1];clear e1;refine Q0c fun k1 e1=>?_;walk_at "ev";simp only[h13];walk_at "ev";walk_at "q0"
  try walk_at "ev"
  refine⟨rfl,rfl,ite2 (fun z=>absurd (Zv z) (by decide)) fun _=>?_⟩
  rw[e1];walk_at "ev";injection hf with hf;rw[<- hf]at h;exact Q0f (h M2 (t2.le (by omega)) c2 fun b hb ne=>f2 b hb)
 | non l =>
  simp only[Rp.d];walk_at "q0"
  try walk_at "ev"
  refine⟨rfl,rfl,ite2 (fun z=>absurd (Zv z) (by decide)) fun _=>?_⟩
  rw[e1];clear e1;refine Q0c fun k1 e1=>?_;walk_at "ev";simp only[h12];walk_at "ev";walk_at "q0"
  try walk_at "ev"
  refine⟨rfl,rfl,ite2 (fun z=>absurd (Zv z) (by decide)) fun _=>?_⟩
  rw[e1];clear e1;refine Q0c fun k1 e1=>?_;walk_at "ev";simp only[h13];walk_at "ev";walk_at "q0"
  try walk_at "ev"
  refine⟨rfl,rfl,ite2 (fun z=>absurd (Zv z) (by decide)) fun _=>?_⟩
  rw[e1];walk_at "ev";injection hf with hf;rw[<- hf]at h;exact Q0f (h M2 (t2.le (by omega)) c2 fun b hb ne=>f2 b hb)
 | emp l =>
  simp only[Rp.d];walk_at "q0"
  try walk_at "ev"
  refine⟨rfl,rfl,ite2 (fun z=>absurd (Zv z) (by decide)) fun _=>?_⟩
  rw[e1];clear e1;refine Q0c fun k1 e1=>?_;walk_at "ev";simp only[h12];walk_at "ev";walk_at "q0"
  try walk_at "ev"
  refine⟨rfl,rfl,ite2 (fun z=>absurd (Zv z) (by decide)) fun _=>?_⟩
  rw[e1];clear e1;refine Q0c fun k1 e1=>?_;walk_at "ev";simp only[h13];walk_at "ev";walk_at "q0"
  try walk_at "ev"
  refine⟨rfl,rfl,ite2 (fun z=>absurd (Zv z) (by decide)) fun _=>?_⟩
  rw[e1];walk_at "ev";injection hf with hf;rw[<- hf]at h;exact Q0f (h M2 (t2.le (by omega)) c2 fun b hb ne=>f2 b hb)
open Tz in
noncomputable def sp_az:DSp:=fun ds M R=>∃ (M0:DH) (p:Addr) (zs:List Zn) (kd:Kd) (kl:Kl) (fo:List Addr) (c:Nat) (cut house:List W) (f:Nat) (y:Kd×Kl),ds=[.ref p,dn cut,dn house]/\TX M0 M p zs kd kl fo c/\ZsOk zs/\(val kd []).isSome=true/\house.length<=30/\zas zs f kd kl cut house=some y/\f<=600/\c+1000 * f<=13900000 /\
 ∀ M',TX M0 M' p zs y.1 y.2 fo (c+1000 * f+10)->(∀ b∈fo,M' b=M b)->R (.bl (val y.1 cut).isSome) M'
section
open Tz
theorem Q1H:∀ {s:Ch} {kd:Kd} {kl:Kl} {y:Kd×Kl×Ch},zaH s o kd kl=some y->(∀ x∈y.2.2,x∈s)/\y.2.2.length<=s.length/\((val kd []).isSome=true->(val y.1 []).isSome=true)
 | [],_,_,_,h=>nomatch h
 | (some c,n)::s,kd,kl,y,h=>by
  injection h with h;rw[<- h];exact⟨fun x hx=>Zq _ hx,Yq _,Q5p⟩
 | (none,n)::s,kd,kl,y,h=>by
  obtain⟨h1,h2,h3⟩:=Q1H (s:=s) h;exact⟨fun x hx=>Zq _ (h1 x hx),ZF h2,h3⟩
theorem Q1I(h:zab kd kl s c n=some y):(∀ x∈y.2.2.2,x∈(c,n)::s)/\y.2.2.2.length<=s.length+1/\((val kd []).isSome=true->(val y.2.1 []).isSome=true):=by
 unfold zab at h;split at h
 ·injection h with h;rw[<- h];exact⟨fun x hx=>hx,Zo _,id⟩
 ·injection h with h;rw[<- h];exact⟨fun x hx=>hx,Zo _,id⟩
 ·obtain⟨x,ex,rfl⟩:=ZA.mp h;exact Q1H ex
theorem Q2q(hz:∀ z∈zs,ZnOk z)(h:zaa zs kd kl s=some y)(hs:∀ x∈s,x.2.length<=30):(∀ x∈y.2.2.2,x.2.length<=30)/\y.2.2.2.length<=s.length+1/\((val kd []).isSome=true->(val y.2.1 []).isSome=true):=by
 cases s with
 | nil=>cases h
 | cons x s =>
  obtain⟨c,n⟩:=x;obtain⟨l1,l2⟩:=Q4B hz (kd:=kd) (n:=n) (k:=za1);have rs:(val kd []).isSome=true->(val (rsf zs kd n za1).1 []).isSome=true:=Q3e;unfold zaa at h;obtain⟨kd1,r,er⟩:∃ kd1 r,rsf zs kd n za1=(kd1,r):=⟨_,_,rfl⟩;simp only[er]at h l1 l2 rs;have ent:∀ c1 m,m.length<=30->zab kd1 kl ((c,n)::s) c1 m=some y->(∀ x∈y.2.2.2,x.2.length<=30)/\y.2.2.2.length<=((c,n)::s).length+1/\((val kd []).isSome=true->(val y.2.1 []).isSome=true):=fun c1 m hm e=>by
   obtain⟨e1,e2,e3⟩:=Q1I e;refine⟨fun x hx=>?_,e2,fun z=>e3 (rs z)⟩;rcases Z3.mp (e1 x hx) with z | z
   ·rw[z];exact hm
   ·exact hs x z
  cases r with
  | rows ds l =>
   cases ds with
   | nil=>cases h
   | cons d ds =>
    obtain⟨x,ex,rfl⟩:=ZA.mp h;obtain⟨e1,e2,e3⟩:=Q1H ex;exact⟨fun x hx=>hs x (e1 x hx),ZF e2,fun z=>e3 (rs z)⟩
  | els m l=>exact ent none m (Z4 (l1 m l rfl) (by decide)) h
  | down c1 hh ds l=>exact ent (some c1) hh (Z4 (l2 c1 hh ds l rfl) (by decide)) h
  | away=>injection h with h;rw[<- h];exact⟨hs,Yq _,rs⟩
  | non l=>injection h with h;rw[<- h];exact⟨hs,Yq _,rs⟩
  | emp l=>injection h with h;rw[<- h];exact⟨hs,Yq _,rs⟩
theorem Q2r(hz:∀ z∈zs,ZnOk z):∀ (f:Nat) {b:Bool} {s:Ch} {kd:Kd} {kl:Kl} {y:Kd×Kl},zb1 zs f b kd kl s=some y->(∀ x∈s,x.2.length<=30)->(val kd []).isSome=true->(val y.1 []).isSome=true
 | 0,_,_,_,_,_,h,_,_=>nomatch h
 | f+1,false,s,kd,kl,y,h,_,h0=>by injection h with h;rw[<- h];exact h0
 | f+1,true,[],kd,kl,y,h,_,h0=>by injection h with h;rw[<- h];exact h0
 | f+1,true,x::s,kd,kl,y,h,hs,h0=>by
  obtain⟨y1,e1,e2⟩:=Z9.mp h;obtain⟨g1,_,g3⟩:=Q2q hz e1 hs;exact Q2r hz f e2 g1 (g3 h0)
theorem Q2s(hz:∀ z∈zs,ZnOk z)(hh:h.length<=30)(e:zas zs f kd kl c h=some y)(h0:(val kd []).isSome=true):(val y.1 []).isSome=true:=by
 obtain⟨y1,e1,e2⟩:=Z9.mp e;obtain⟨g1,_,g3⟩:=Q1I e1;exact Q2r hz f e2 (fun x hx=>by rw[Zz.mp (g1 x hx)];exact hh) (g3 h0)
end
open Tz in
theorem ok_az(T:Tab)(h345:T.mt 345=some ⟨"Tree","follows",1,sp_ay⟩)(h346:T.mt 346=some ⟨"Tree","enters",3,sp_a3⟩):∀ ds M R,sp_az ds M R->evS T b_az (za4 R) (za3 ["self","cut","house","chain","leads_on"] ds) M:=by
 rintro ds M R ⟨M0,p,zs,kd,kl,fo,c,cut,house,f,y,rfl,t,hz,d0,hl,hf,f6,c9,h⟩;obtain⟨y0,hy0,hf⟩:=Z9.mp hf;simp only[b_az];refine Q0c fun k1 e1=>?_;walk_at "ev";refine⟨szL (by decide),fun cl hq=>?_⟩
 have t1:=t.add (u:=.lst []) hq;have kp:∀ b∈fo,dupd M cl (.lst []) b=M b:=t.keep (Sub.new hq);have ncl:cl∉fo:=fun z=>by
  obtain⟨a,ld,dd,lv,ks,rc,tp⟩:=t;obtain⟨_,_,_,_,_,u,e⟩:=tp.ff cl z;rw[hq]at e;cases e
 have hc:dupd M cl (.lst []) cl=some (.lst (chD [])):=Q0a;generalize dupd M cl (.lst [])=M1 at t1 kp hc;rw[e1];clear e1 t;refine Q0c fun k1 e1=>?_;obtain⟨fs,ob,no⟩:=t1.tob;walk_at "ev";simp only[h346];walk_at "ev";refine⟨p,fs,rfl,ob,no _ (by decide +kernel) (by decide +kernel) (by decide +kernel) (by decide +kernel),M0,p,cl,zs,kd,kl,cl::fo,c,[],some cut,house,y0,rfl,t1,Zl,hc,hy0,ZB _,by show c+0<=_;omega,fun M2 t2 c2 f2=>?_⟩
 obtain⟨g1,g2,g3⟩:=Q1I hy0;rw[e1];clear e1;refine Q0c fun k1 e1=>?_;show zau _ _ _ _ _;refine Q0Q (fun j ρ M'=>∃ (b:Bool) (kd':Kd) (kl':Kl) (s':Ch) (c':Nat),ρ=[some (.ref p),some (dn cut),some (dn house),some (.ref cl),some (.bl b)]/\TX M0 M' p zs kd' kl' (cl::fo) c'/\M' cl=some (.lst (chD s'))/\(∀ x∈fo,M' x=M x)/\c'+1000 * j<=c+1000 * f+3/\s'.length+j<=1+f/\(∀ x∈s',x.2.length<=30)/\(val kd' []).isSome=true/\zb1 zs j b kd' kl' s'=some y)
  ⟨f,y0.1,y0.2.1,y0.2.2.1,y0.2.2.2,c+0+3,rfl,t2,c2,fun x hx=>(f2 x (Zq _ hx) fun z=>ncl (by rw[<- z];exact hx)).trans (kp x hx),by omega,by rw[ZU]at g2;omega,fun x hx=>by rw[Zz.mp (g1 x hx)];exact hl,g3 d0,hf⟩ ?_
 rintro j ρ M' ⟨b,kd',kl',s',c',rfl,t',hc',fr,hcc,hsl,hs,h0,hf'⟩ TB eTB;clear t1 t2 c2 f2 hc kp;have fin:y=(kd',kl')->k1 [some (.ref p),some (dn cut),some (dn house),some (.ref cl),some (.bl b)] M':=fun ey=>by
  rw[ey]at h;obtain⟨a,ld,dd,lv,ks,rc,tp⟩:=id t';rw[e1];walk_at "ev";refine⟨p,_,_,rfl,tp.ob,trF_d,cut,dd,_,rfl,rfl,tp.hd,?_⟩;rw[Q0W,Yb];exact Q0f (h M' ((t'.less fun x hx=>Zq _ hx).le (by omega)) fr)
 cases j with
 | zero=>cases hf'
 | succ j =>
 walk_at "ev";cases b with
 | false =>
  injection hf' with hf';exact ite2 (fun z=>nomatch z) fun _=>fin hf'.symm
 | true =>
  refine ite2 (fun _=>?_) fun z=>absurd rfl z;simp only[hc'];cases s' with
  | nil =>
   injection hf' with hf';have f:=fin hf'.symm;refine⟨ZB _,rfl,rfl,ite2 (fun z=>?_) fun _=>f⟩;have z':(!eqB (D.lst []) (.lst []))=true:=z;rw[Q0J]at z';cases z'
  | cons x s' =>
   have ene:eqB (.lst (chD (x::s'))) (.lst [])=false:=(Q0T _ _).mpr fun z=>by
    injection z with z;have:=congrArg List.length z;rw[Q7H]at this;cases this
   refine⟨ZB _,Q7J _,rfl,ite2 (fun _=>?_) fun z=>?_⟩;rotate_left
   ·have z':¬ (!eqB (.lst (chD (x::s'))) (.lst []))=true:=z;rw[ene]at z';exact absurd rfl z'
   obtain⟨y1,q1,q2⟩:=Z9.mp hf';obtain⟨g1,g2,g3⟩:=Q2q hz.ok q1 hs;simp only[Zj]at hsl g2;refine⟨fun ρ' M''=>ρ'=[some (.ref p),some (dn cut),some (dn house),some (.ref cl),some (.bl y1.1)]/\TX M0 M'' p zs y1.2.1 y1.2.2.1 (cl::fo) (c'+(s'.length+1)+103)/\M'' cl=some (.lst (chD y1.2.2.2))/\∀ x∈fo,M'' x=M x,fun ρ' M'' z=>⟨j,Yo j,y1.1,y1.2.1,y1.2.2.1,y1.2.2.2,_,z.1,z.2.1,z.2.2.1,z.2.2.2,by omega,by omega,g1,g3 h0,q2⟩,?_⟩
   obtain⟨fs,ob,no⟩:=t'.tob;rw[eTB];show evS T (.seq _ _) _ _ _;walk_at "ev";simp only[h345];walk_at "ev";exact⟨p,fs,rfl,ob,no _ (by decide +kernel) (by decide +kernel) (by decide +kernel) (by decide +kernel),M0,p,cl,zs,kd',kl',cl::fo,c',x::s',y1,rfl,t',hz,h0,Zl,hc',hs,q1,by simp only[Zj];omega,by simp only[Zj];omega,fun M3 t3 c3 f3=>⟨rfl,t3,c3,fun x hx=>(f3 x (Zq _ hx) fun z=>ncl (by rw[<- z];exact hx)).trans (fr x hx)⟩⟩
open Tz in
noncomputable def sp_a4:DSp:=fun ds M R=>∃ (M0:DH) (p:Addr) (zs:List Zn) (kd:Kd) (kl:Kl) (fo:List Addr) (c:Nat) (n:List W) (k:W) (f:Nat) (y:Kd×Kl×Rp),ds=[.ref p,dn n,.str k]/\TX M0 M p zs kd kl fo c/\ZsOk zs/\¬ IsN k/\n.length<=30/\(val kd []).isSome=true/\zaf zs n k f kd kl=some y/\f<=100/\c+1000 * f * f+200 * f<=13800000 /\
 ∀ M',TX M0 M' p zs y.1 y.2.1 fo (c+1000 * f * f+200 * f)->(∀ b∈fo,M' b=M b)->R y.2.2.d M'
open Tz in
theorem ok_a4(T:Tab)(h344:T.mt 344=some ⟨"Tree","finds_door",2,sp_az⟩)(h343:T.mt 343=some ⟨"Tree","reply_so_far",2,sp_a5⟩)(h13:T.con 13=some (("DOWN" : Str),D.str [100,111,119,110])):∀ ds M R,sp_a4 ds M R->evS T b_a4 (za4 R) (za3 ["self","name","kind","reply"] ds) M:=by
 rintro ds M R ⟨M0,p,zs,kd,kl,fo,c,n,k,f,y,rfl,t,hz,hk,hn,d0,hf,f1,c9,h⟩;simp only[b_a4];refine Q0c fun k1 e1=>?_;obtain⟨fs,ob,no⟩:=t.tob;walk_at "ev";simp only[h343];walk_at "ev";have ff:1000 * f<=1000 * f * f\/f=0:=by
  rcases Nat.eq_zero_or_pos f with z | z
  ·exact .inr z
  ·exact .inl (Nat.le_mul_of_pos_right _ z)
 refine⟨p,fs,rfl,ob,no _ (by decide +kernel) (by decide +kernel) (by decide +kernel) (by decide +kernel),M0,p,zs,kd,kl,fo,c,n,k,rfl,t,hz,by omega,hk,hn,d0,fun M2 t2 f2=>?_⟩
 rw[e1];clear e1;refine Q0c fun k1 e1=>?_;show zau _ _ _ _ _;refine Q0Q (fun j ρ M'=>∃ (kd':Kd) (kl':Kl) (c':Nat),ρ=[some (.ref p),some (dn n),some (.str k),some (rsf zs kd' n k).2.d]/\TX M0 M' p zs (rsf zs kd' n k).1 kl' fo c'/\(∀ x∈fo,M' x=M x)/\c'+(1000 * f+200) * j<=c+(1000 * f+200) * f+100/\j<=f/\(val kd' []).isSome=true/\zaf zs n k j kd' kl'=some y)
  ⟨f,kd,kl,c+100,rfl,t2,f2,by omega,Zo f,d0,hf⟩ ?_
 rintro j ρ M' ⟨kd',kl',c',rfl,t',fr,hcc,jf,h0,hf'⟩ TB eTB;have eff:(1000 * f+200) * f=1000 * f * f+200 * f:=Nat.add_mul _ _ _;cases j with
 | zero=>cases hf'
 | succ j =>
 rw[Nat.mul_succ]at hcc;have l2:=(Q4B hz.ok (kd:=kd') (n:=n) (k:=k)).2;unfold zaf at hf';have s0:(val (rsf zs kd' n k).1 []).isSome=true:=Q3e h0;obtain⟨kd1,r,er⟩:∃ kd1 r,rsf zs kd' n k=(kd1,r):=⟨_,_,rfl⟩;simp only[er]at hf' l2 t' s0 ⊢;walk_at "ev";simp only[h13];walk_at "ev";have fin:∀ kd2 kl2 M5,y=(kd2,kl2,r)->TX M0 M5 p zs kd2 kl2 fo (c+1000 * f * f+200 * f)->(∀ x∈fo,M5 x=M x)->k1 [some (.ref p),some (dn n),some (.str k),some r.d] M5:=fun kd2 kl2 M5 ey t5 f5=>by
  rw[ey]at h;rw[e1];walk_at "ev";exact Q0f (h M5 t5 f5)
 rcases Rp.three r with ⟨w,q,e,hw,nd⟩ | hd
 ·have ey:y=(kd1,kl',r):=by
   cases r with
   | down c1 hh ds l=>exact absurd rfl (nd c1 hh ds l)
   | _=>injection hf' with hf';exact hf'.symm
  have f:=fin kd1 kl' M' ey (t'.le (by omega)) fr
  rw[e]at f ⊢;refine ix_tup (by decide) (by simp only[Zj];omega) fun d0 hd0=>?_
  cases hd0
  try walk_at "ev"
  exact⟨rfl,rfl,ite2 (fun z=>absurd (Zv z) hw) fun _=>f⟩
 ·obtain⟨c1,hh,ds,l,rfl⟩:∃ c1 hh ds l,r=.down c1 hh ds l:=by
   rcases hd with ⟨c1,hh,l,e⟩ | ⟨c1,hh,d,ds,l,e⟩
   ·exact⟨_,_,_,_,e⟩
   ·exact⟨_,_,_,_,e⟩
  obtain⟨x,q1,q2⟩:=Z9.mp hf';have hl:=l2 c1 hh ds l rfl;have s1:=Q2s hz.ok (by omega) q1 s0
  simp only[Rp.d]at fin ⊢;walk_at "q0"
  try walk_at "ev"
  refine⟨rfl,rfl,ite2 (fun _=>?_) fun z=>absurd (Zm rfl) z⟩;obtain⟨fs,ob,no⟩:=t'.tob;simp only[h344];walk_at "ev";refine⟨p,fs,rfl,ob,no _ (by decide +kernel) (by decide +kernel) (by decide +kernel) (by decide +kernel),?_⟩
  walk_at "q0";walk_at "q0";have jl:1000 * j<=1000 * f:=Nat.mul_le_mul_left _ (by omega)
  refine⟨M0,p,zs,kd1,kl',fo,c',c1,hh,j,x,rfl,t',hz,s0,by omega,q1,by omega,by omega,fun M3 t3 f3=>?_⟩
  have fr3:∀ y∈fo,M3 y=M y:=fun y hy=>(f3 y hy).trans (fr y hy);cases ev:(val x.1 c1).isSome with
  | false =>
   rw[ev,Zc Zs]at q2;injection q2 with q2;exact iteF (fin x.1 x.2 M3 q2.symm (t3.le (by omega)) fr3)
  | true =>
   rw[ev,Ze rfl]at q2;refine iteT ⟨fun ρ' M''=>ρ'=[some (.ref p),some (dn n),some (.str k),some (rsf zs x.1 n k).2.d]/\TX M0 M'' p zs (rsf zs x.1 n k).1 x.2 fo (c'+1000 * j+10+100)/\∀ x∈fo,M'' x=M x,fun ρ' M'' z=>⟨j,Yo j,x.1,x.2,_,z.1,z.2.1,z.2.2,by omega,by omega,s1,q2⟩,?_⟩
   obtain⟨fs,ob,no⟩:=t3.tob;rw[eTB];show evS T (.seq _ _) _ _ _;walk_at "ev";simp only[h343];walk_at "ev";exact⟨p,fs,rfl,ob,no _ (by decide +kernel) (by decide +kernel) (by decide +kernel) (by decide +kernel),M0,p,zs,x.1,x.2,fo,_,n,k,rfl,t3,hz,by omega,hk,hn,s1,fun M5 t5 f5=>⟨rfl,t5,fun y hy=>(f5 y hy).trans (fr3 y hy)⟩⟩
noncomputable def b_ae:CS :=
  (.seq (.ex (.meth 342 (.var 0) (.cons (.var 1) (.cons (.glob 14) .nil))))
  (.seq (.ret (.cmp .inD (.var 1) (.fld "Tree" "doors" (.var 0))))
  .nil))
noncomputable def b_ah:CS :=
  (.seq (.for1 2 (.sl (.call 2 (.cons (.var 1) .nil)) (.bin .add (.blt .len (.cons (.fld "Page" "top" (.var 0)) .nil)) (.con (.int 1))) .nil)
  (.seq (.ite (.cmp .inF (.var 2) (.fld "Page" "downs" (.var 0)))
  (.seq (.ret (.var 2))
  .nil)
  .nil)
  .nil))
  (.seq (.ret (.con .non))
  .nil))
noncomputable def b_ar:CS :=
  (.seq (.ret (.thw (.compz false [0] (.dkeys (.fld "Page" "downs" (.var 0))) (.cmp .eq (.meth 311 (.var 1) (.cons (.var 0) .nil)) (.var 0)) (.var 0))))
  .nil)
noncomputable def b_ai:CS :=
  (.seq (.set 2 (.meth 323 (.meth 341 (.var 0) (.cons (.dix (.fld "Tree" "doors" (.var 0)) (.var 1)) .nil)) (.cons (.var 1) .nil)))
  (.seq (.ret (.ite (.cmp .isN (.var 2) (.con .non)) (.lstz .nil) (.meth 304 (.var 2) .nil)))
  .nil))
noncomputable def b_ao:CS :=
  (.seq (.set 2 (.make 340 (.cons (.var 0) (.cons (.var 1) .nil))))
  (.seq (.set 3 (.lst (.cons (.tup .nil) .nil)))
  (.seq (.whil (.cmp .ne (.var 3) (.lstz .nil))
  (.seq (.set 4 (.meth 348 (.var 2) (.cons (.ml .pop (.var 3) .nil) .nil)))
  (.seq (.ex (.ml .extend (.var 3) (.cons (.compz false [2] (.var 4) (.meth 349 (.var 1) (.cons (.var 0) .nil)) (.var 0)) .nil)))
  .nil)))
  (.seq (.ret (.items (.fld "Tree" "doors" (.var 2))))
  .nil))))
noncomputable def sp_ah:DSp:=fun ds M R=>∃ (p:Addr) (n:List W) (top:List W) (life:Int) (rows:List Rw) (r d s:Addr) (ob:Obj) (kd:List (List W×D)),ds=[.ref p,dn n]/\M p=some (.oth (.ins "Page" (zaP top life r d s)))/\M d=some (.oth (.dcf ob kd))/\(∀ n,valD kd n=zao rows n)/\n.length<=900/\R (cutD top rows n) M
theorem ok_ah(T:Tab)(h2:T.fn 2=some ⟨"above",1,[],sp_a1⟩):∀ ds M R,sp_ah ds M R->evS T b_ah (za4 R) (za3 ["self","name","wider"] ds) M:=by
 rintro ds M R ⟨p,n,top,life,rows,r,d,s,ob,kd,rfl,ho,hd,hv,hl,h⟩;simp only[b_ah];refine Q0c fun k1 e1=>?_;walk_at "ev";simp only[h2];walk_at "ev";refine⟨n,rfl,hl,fun a ha=>?_⟩;have s1:=Sub.new (o:=.lst (za7 n)) ha;refine⟨p,_,_,rfl,s1 _ _ ho,Q3W,?_⟩;walk_at "ev";simp only[Q0a];intro q hq;have qa:q≠a:=(dne Q0a hq).symm;have el:(((top.map D.str).length:Int)+1)=((top.length+1:Nat):Int):=by rw[Zd];omega
 unfold dn;rw[el,Q5l]
 try simp only[Q0a]
 have ea:(za7 n).drop (top.length+1)=(((List.range (n.length+1)).drop (top.length+1)).map fun k=>n.take k).map dn:=by
  unfold za7;rw[<- map_drop,map_map];rfl
 rw[ea];generalize hL:((List.range (n.length+1)).drop (top.length+1)).map (fun k=>n.take k)=L at *;generalize hM2:dupd (dupd M a _) q _=M2 at *;have hcd:M2 q=some (.lst (L.map dn)):=by rw[<- hM2,Q0a]
 have hsub:Sub M M2:=by rw[<- hM2];exact (Sub.new ha).put (by rw[Q0b qa]at hq;exact hq)
 have hcut:∀ (i:Nat) (m:List W),L[i]? = some m->(∀ (j:Nat) (y:List W),j<i->L[j]? = some y->(zao rows y).isSome=false)->(zao rows m).isSome=true->cutN top rows n=some m:=by
  intro i m hi hb hm;unfold cutN;rw[hL];obtain⟨h1,h2⟩:=Zk.mp hi;exact List.find?_eq_some_iff_getElem.mpr ⟨hm,i,h1,h2,fun j hj=>by rw[hb j _ hj (Zt _)];rfl⟩
 refine Q1O (fun i ρ M'=>M'=M2/\(∃ v,ρ=[some (.ref p),some (dn n),v])/\∀ (j:Nat) (y:List W),j<i->L[j]? = some y->(zao rows y).isSome=false) ⟨rfl,⟨none,rfl⟩,fun j y hj=>absurd hj (not_lt_zero j)⟩ (fun i ρ M' h=>by rw[h.1];exact hcd) ?_ ?_
 ·rintro i d0 ρ M' k hi ⟨rfl,⟨v,rfl⟩,hb⟩ hk;rw[Z5]at hi;cases ei:L[i]? with
  | none=>rw[ei]at hi;cases hi
  | some m =>
   rw[ei]at hi;cases hi;walk_at "ev";refine⟨p,_,_,rfl,hsub _ _ ho,Q0I,m,d,ob,kd,rfl,rfl,hsub _ _ hd,?_⟩;rw[hv];cases c:(zao rows m).isSome with
   | true =>
    refine iteT ⟨M,hsub,?_⟩;have:cutD top rows n=dn m:=by unfold cutD;rw[hcut i m ei hb c]
    rw[<- this];exact h
   | false =>
    refine iteF (hk _ _ ⟨rfl,⟨_,rfl⟩,fun j y hj hy=>?_⟩);by_cases hji:j=i
    ·subst hji;rw[ei]at hy;cases hy;exact c
    ·exact hb j y (by omega) hy
 ·rintro ρ M' ⟨rfl,⟨v,rfl⟩,hb⟩;rw[e1];walk_at "ev";refine⟨M,hsub,?_⟩;have:cutD top rows n=.non:=by
   have e:cutN top rows n=none:=by
    unfold cutN;rw[hL];refine find?_eq_none.mpr fun y hy=>?_;obtain⟨j,hj⟩:=mem_iff_getElem?.mp hy;rw[hb j y (by rw[Zd];exact (Zk.mp hj).1) hj]
    simp
   unfold cutD;rw[e]
  rw[<- this];exact h
noncomputable def GdR(rows:List Rw):Prop:=∀ x∈rows,x.k=zae->(∀ w∈x.n,gdT w)/\x.n.length<=20
noncomputable def sp_ar:DSp:=fun ds M R=>∃ (p:Addr) (M0:DH) (z:Zn),ds=[.ref p]/\Page M0 M p z.t z.l z.r/\z.r.length<=900/\GdR z.r/\∀ L:List (List W),L.Nodup->(∀ n,n∈L <-> cutN z.t z.r n=some n)->R (.lst (L.map dn)) M
theorem Qbu(e:M a=some o):dupd M a o=M:=funext fun b=>by
 by_cases h:b=a
 ·rw[h,Q0a,e]
 ·exact Q0b h
theorem ok_ar(T:Tab)(h311:T.mt 311=some ⟨"Page","cut",1,sp_ah⟩):∀ ds M R,sp_ar ds M R->evS T b_ar (za4 R) (za3 ["self"] ds) M:=by
 rintro ds M R ⟨p,M0,z,rfl,⟨r,d,s,kr,kd,ks,G⟩,hl,hg,h⟩;have key:∀ n,n∈kd.map (·.1) <-> (zao z.r n).isSome=true:=fun n=>by
  rw[<- G.hD.v n,<- Q1x,any_eq_true,ZI];constructor
  ·rintro⟨q,hq,rfl⟩;exact⟨q,hq,Zm rfl⟩
  ·rintro⟨q,hq,e⟩;exact⟨q,hq,Zv e⟩
 have gd:∀ n,n∈kd.map (·.1)->(∀ w∈n,gdT w)/\n.length<=20:=fun n hn=>by
  have h1:=(key n).mp hn;unfold zao at h1;rw[Yb]at h1;obtain⟨x,ex⟩:=Yp.mp h1;obtain⟨h2,h3⟩:=ZN.mp (mem_of_getLast? ex);have h4:=Zv h3;rw[<- h4.2];exact hg x h2 h4.1
 simp only[b_ar];walk_at "ev";refine⟨d,kd,G.hD.m,p,_,_,rfl,G.ob,Q0I,d,kd,rfl,G.hD.m,fun q hq=>(gd q.1 (ZI.mpr ⟨q,hq,rfl⟩)).1,fun ob=>?_⟩;have pd:p≠d:=mne G.ob G.hD.m (fun z=>nomatch z)
 have hp2:dupd M d (.oth (.dcf ob kd)) p=some (.oth (.ins "Page" (zaP z.t z.l r d s))):=by rw[Q0b pd];exact G.ob
 have hL:∀ n,n∈(kd.map (·.1)).filter (fun n=>decide (cutN z.t z.r n=some n)) <-> cutN z.t z.r n=some n:=fun n=>by
  rw[ZN,Zg];refine⟨fun e=>e.2,fun e=>⟨(key n).mpr ?_,e⟩⟩;have hs:=find?_some (show _=some n from e);exact hs
 have fin:R (.lst (((kd.map (·.1)).filter fun n=>decide (cutN z.t z.r n=some n)).map dn)) M:=h _ (G.hD.u.filter _) hL;refine Q0n (fun i ys M'=>M'=dupd M d (.oth (.dcf ob kd))/\ys=(((kd.map (·.1)).take i).filter fun n=>decide (cutN z.t z.r n=some n)).map dn) ⟨rfl,rfl⟩ (fun _ _ _ _=>trivial) ?_ ?_
 ·rintro i y ys M' k2 hi ⟨rfl,hy⟩ hk2;rw[Z5]at hi;obtain⟨q,hq,rfl⟩:=ZA.mp hi;have hm:(kd.map (·.1))[i]? = some q.1:=by rw[Z5,hq];rfl
  have hin:q.1∈kd.map (·.1):=ZG hm;have ql:=(gd q.1 hin).2;have yl:ys.length<sizeLine:=by
   rw[hy,Zd];refine ZC (Z4 (Yn ..) (List.length_take_le' ..)) ?_;rw[Zd,ZL];have:=G.hD.l;omega
  have stp:(((kd.map (·.1)).take (i+1)).filter fun n=>decide (cutN z.t z.r n=some n)).map dn=ys++if cutN z.t z.r q.1=some q.1 then [dn q.1] else []:=by
   rw[List.take_succ,hm,ZY,Z7,<- hy];congr 1;show ([q.1].filter _).map dn=_;rw[ZT];by_cases e:cutN z.t z.r q.1=some q.1
   ·rw[Ze (Zm e),Ze e];rfl
   ·rw[Zc (fun z=>e (Zv z)),Zc e];rfl
  simp only[h311];walk_at "ev";refine⟨p,_,rfl,hp2,Q0K,p,q.1,z.t,z.l,z.r,r,d,s,ob,kd,rfl,hp2,Q0a,G.hD.v,by omega,?_⟩
  have pq:plain 12 (dn q.1)=true:=Q0D 10 _;unfold cutD;cases ec:cutN z.t z.r q.1 with
  | none =>
   refine⟨rfl,pq,ite2 (fun e=>?_) fun _=>hk2 _ _ ⟨rfl,?_⟩⟩
   ·have e':eqB D.non (dn q.1)=true:=e;have:=(Q1q _ _).mp e';cases this
   ·rw[stp,Zc (fun e=>by rw[ec]at e;cases e),Yh]
  | some c =>
   refine⟨Q0D 10 _,pq,ite2 (fun e=>⟨yl,hk2 _ _ ⟨rfl,?_⟩⟩) fun e=>hk2 _ _ ⟨rfl,?_⟩⟩
   ·have e':eqB (dn c) (dn q.1)=true:=e;have e2:=QcW ((Q1q _ _).mp e');rw[stp,Ze (by rw[ec,e2])]
    rfl
   ·have e':¬ eqB (dn c) (dn q.1)=true:=e;rw[stp,Zc (fun z=>e' (by rw[ec]at z;injection z with z;rw[z];exact Q0J _)),Yh]
 ·rintro ys M' ⟨rfl,hy⟩;rw[Zd,Ys (by rw[Zd];exact Zo _)]at hy
  rw[hy];refine⟨?_,ob,kd,Q0a,M,?_,fin⟩
  ·rw[Zd];refine Z4 (Yn ..) ?_;rw[Zd,ZL];have:=G.hD.l;omega
  ·rw[Q1v,Qbu G.hD.m];exact fun b o e=>e
open Tz in
noncomputable def sp_ai:DSp:=fun ds M R=>∃ (M0:DH) (p:Addr) (zs:List Zn) (kd:Kd) (kl:Kl) (fo:List Addr) (c:Nat) (n:List W) (o:W),ds=[.ref p,dn n]/\TX M0 M p zs kd kl fo c/\ZsOk zs/\c<=14000000/\(∀ z∈zs,GdR z.r)/\val kd n=some o /\
 ∀ M' (L:List (List W)),TX M0 M' p zs kd kl fo (c+2)->(∀ b∈fo,M' b=M b)->L.Nodup->(∀ m,m∈L <-> ∃ z,atT (ofD zs o) n=some z/\cutN z.t z.r m=some m)->R (.lst (L.map dn)) M'
open Tz in
theorem ok_ai(T:Tab)(h304:T.mt 304=some ⟨"Page","own_cuts",0,sp_ar⟩)(h323:T.mt 323=some ⟨"House","page",1,sp_ad⟩)(h341:T.mt 341=some ⟨"Tree","house",1,sp_a0⟩):∀ ds M R,sp_ai ds M R->evS T b_ai (za4 R) (za3 ["self","name","page"] ds) M:=by
 rintro ds M R ⟨M0,p,zs,kd,kl,fo,c,n,o,rfl,t,hz,hc,hg,ho,h⟩;obtain⟨a,ld,dd,lv,ks,rc,tp⟩:=id t;simp only[b_ai];refine Q0c fun k1 e1=>?_;walk_at "ev";simp only[h341,h323];walk_at "ev";refine⟨p,_,rfl,tp.ob,Q4d (by decide +kernel) (by decide +kernel) (by decide +kernel) (by decide +kernel),p,_,_,rfl,tp.ob,trF_d,n,dd,_,.str o,rfl,rfl,tp.hd,by rw[Q0W,ho];rfl,?_⟩
 refine⟨M0,p,zs,kd,kl,fo,c,o,rfl,t,hz,by omega,fun M2 a2 ld2 dd2 lv2 ks2 rc2 tg hok fr2=>?_⟩
 have H:=tg.hx o hok;refine⟨(rc2 o).p,_,rfl,H.ob,Q7C,M0,(rc2 o).p,_,_,_,_,ofD zs o,c+1,some n,rfl,H,hz.of o,by omega,fun en=>?_,fun z ez pg M' H' S' hx=>?_⟩
 ·rw[e1];clear e1;walk_at "ev";refine⟨ZB _,Q0f (h M2 [] (TX.le ⟨_,_,_,_,_,_,tg⟩ (by omega)) fr2 .nil fun m=>⟨fun e=>(nomatch e),fun⟨z,e1,_⟩=>?_⟩)⟩
  rw[show atT (ofD zs o) n=none from en]at e1;cases e1
 ·rw[e1];clear e1;obtain⟨t3,fr3⟩:=tg.said hok H' S';obtain⟨r,d,s,kr,kd',ks',G,_⟩:=id hx;have zo:=hz.ok z (Q2p (Q1L ez));walk_at "ev";simp only[h304];walk_at "ev";refine⟨pg,_,rfl,G.ob,Q0K,pg,M0,z,rfl,hx.page,by have:=zo.l;omega,hg z (Q2p (Q1L ez)),fun L nd hL=>Q0f (h M' L (TX.le ⟨_,_,_,_,_,_,t3⟩ (by omega)) (fun b hb=>(fr3 b hb).trans (fr2 b hb)) nd fun m=>?_)⟩
  rw[hL];exact⟨fun e=>⟨z,ez,e⟩,fun⟨z',e1,e2⟩=>by rw[show atT (ofD zs o) n=some z from ez]at e1;cases e1;exact e2⟩
open Tz in
noncomputable def sp_ae:DSp:=fun ds M R=>∃ (M0:DH) (p:Addr) (zs:List Zn) (kd:Kd) (kl:Kl) (fo:List Addr) (c:Nat) (n:List W) (f:Nat) (y:Kd×Kl×Rp),ds=[.ref p,dn n]/\TX M0 M p zs kd kl fo c/\ZsOk zs/\n.length<=30/\(val kd []).isSome=true/\zaf zs n za1 f kd kl=some y/\f<=100/\c+1000 * f * f+200 * f<=13800000 /\
 ∀ M',TX M0 M' p zs y.1 y.2.1 fo (c+1000 * f * f+200 * f)->(∀ b∈fo,M' b=M b)->R (.bl (val y.1 n).isSome) M'
open Tz in
theorem ok_ae(T:Tab)(h342:T.mt 342=some ⟨"Tree","reply",2,sp_a4⟩)(h14:T.con 14=some (("DOOR" : Str),D.str [100,111,111,114])):∀ ds M R,sp_ae ds M R->evS T b_ae (za4 R) (za3 ["self","cut"] ds) M:=by
 rintro ds M R ⟨M0,p,zs,kd,kl,fo,c,n,f,y,rfl,t,hz,hn,d0,hf,f1,c9,h⟩;obtain⟨fs,ob,no⟩:=t.tob;simp only[b_ae];refine Q0c fun k1 e1=>?_;walk_at "ev";simp only[h342,h14];walk_at "ev";refine⟨p,fs,rfl,ob,no _ (by decide +kernel) (by decide +kernel) (by decide +kernel) (by decide +kernel),M0,p,zs,kd,kl,fo,c,n,za1,f,y,rfl,t,hz,Q3f,hn,d0,hf,f1,c9,fun M2 t2 f2=>?_⟩
 obtain⟨a,ld,dd,lv,ks,rc,tp⟩:=id t2;rw[e1];clear e1;walk_at "ev";refine⟨p,_,_,rfl,tp.ob,trF_d,n,dd,_,rfl,rfl,tp.hd,?_⟩;rw[Q0W,Yb];exact Q0f (h M2 t2 f2)
namespace Tz
noncomputable def hasL(zs:List Zn)(g:Nat):List (List W)->Kd->Kl->Option (Kd×Kl×List (List W))
 | [],kd,kl=>some (kd,kl,[])
 | c::cs,kd,kl=>(zaf zs c za1 g kd kl).bind fun y=>(hasL zs g cs y.1 y.2.1).map fun z=>(z.1,z.2.1,if (val y.1 c).isSome=true then c::z.2.2 else z.2.2)
noncomputable def ChG(zs:List Zn)(g b:Nat)(Q:Kd->Prop):Nat->Kd->Kl->List (List W)->Prop
 | 0,_,_,_=>False
 | _+1,kd,_,[]=>Q kd
 | f+1,kd,kl,n::s=>∃ o,val kd n=some o/\∀ L:List (List W),L.Nodup->(∀ m,m∈L <-> ∃ z,atT (ofD zs o) n=some z/\cutN z.t z.r m=some m)->L.length<=b/\∃ y,hasL zs g L kd kl=some y/\(val y.1 []).isSome=true/\ChG zs g b Q f y.1 y.2.1 (y.2.2.reverse++s)
theorem Q0V(hz:∀ z∈zs,ZnOk z):∀ (f:Nat) {kd:Kd} {kl:Kl} {y:Kd×Kl×Rp},zaf zs n k f kd kl=some y->(val kd []).isSome=true->(val y.1 []).isSome=true
 | 0,_,_,_,h,_=>nomatch h
 | f+1,kd,kl,y,h,h0=>by
  have s0:(val (rsf zs kd n k).1 []).isSome=true:=Q3e h0;have l2:=(Q4B hz (kd:=kd) (n:=n) (k:=k)).2;unfold zaf at h;obtain⟨kd1,r,er⟩:∃ kd1 r,rsf zs kd n k=(kd1,r):=⟨_,_,rfl⟩;simp only[er]at h l2 s0;cases r with
  | down c hh ds l =>
   obtain⟨x,q1,q2⟩:=Z9.mp h;have s1:=Q2s hz (Z4 (l2 c hh ds l rfl) (by decide)) q1 s0
   split at q2
   ·exact Q0V hz f q2 s1
   ·injection q2 with q2;rw[<- q2];exact s1
  | _=>injection h with h;rw[<- h];exact s0
end Tz
open Tz in
noncomputable def sp_ao:DSp:=fun ds M R=>∃ (a:Addr) (zs:List Zn) (o:W) (f g b:Nat) (Q:Kd->Prop),ds=[.ref a,.str o]/\HsOk M a zs/\ZsOk zs/\(∀ z∈zs,GdR z.r)/\ChG zs g b Q f [([],o)] [] [[]]/\(∀ kd,Q kd->∀ p∈kd,∀ w∈p.1,gdT w)/\g<=100/\f * (b * (1000 * g * g+200 * g)+2)<=13000000/\f<=100/\b<=60 /\
 ∀ M' l kd,Q kd->Sub M M'->M l=none->M' l=some (.lst (kd.map prD))->R (.ref l) M'
section
open Tz
theorem Q7M(hg:∀ z∈zs,GdR z.r)(h:∃ z,atT (ofD zs o) n=some z/\cutN z.t z.r m=some m):m.length<=20:=by
 obtain⟨z,e1,e2⟩:=h;obtain⟨x,ed⟩:=Q1S e2;obtain⟨h1,h2,h3⟩:=Q3b ed;rw[<- h3];exact (hg z (Q2p (Q1L e1)) x h1 h2).2
theorem Q9w(s:List (List W)):plain 12 (.lst (s.map dn))=true:=by
 show (s.map dn).all (plain 11)=true;rw[ZM];intro d hd;obtain⟨x,_,rfl⟩:=ZI.mp hd;exact Q0D 9 x
end
open Tz in
theorem ok_ao(T:Tab)(h349:T.mt 349=some ⟨"Tree","has_door",1,sp_ae⟩)(h348:T.mt 348=some ⟨"Tree","cuts_at",1,sp_ai⟩)(h340:T.ini 340=some ⟨"Tree","__init__",2,sp_a8⟩):∀ ds M R,sp_ao ds M R->evS T b_ao (za4 R) (za3 ["houses","root","tree","names","cuts"] ds) M:=by
 rintro ds M R ⟨a,zs,o,f,g,b,Q,rfl,hs,hz,hg,hC,hQ,g1,c9,f1,b6,h⟩;simp only[b_ao];refine Q0c fun k1 e1=>?_;walk_at "ev";simp only[h340];walk_at "ev";intro p hp;refine⟨p,a,zs,o,rfl,Q0a,hs.mono (Sub.new hp),fun M1 ht=>⟨rfl,?_⟩⟩;have t1:=ht M (Sub.new hp) hp hs;clear ht;rw[e1];clear e1;refine Q0c fun k1 e1=>?_;walk_at "ev";refine⟨szL (by decide),szL (by decide),fun nl hnl=>?_⟩
 have t2:=t1.add (u:=.lst [dn []]) hnl;have n2:dupd M1 nl (.lst [dn []]) nl=some (.lst ((([[]]:List (List W)).reverse).map dn)):=Q0a;show k1 _ (dupd M1 nl (.lst [dn []]));generalize dupd M1 nl (.lst [dn []])=M2 at t2 n2;clear t1 hnl;rw[e1];clear e1;refine Q0c fun k1 e1=>?_;show zau _ _ _ _ _;refine Q0Q (fun j ρ M'=>∃ (kd:Kd) (kl:Kl) (s:List (List W)) (c:Nat) (v4:Option D),ρ=[some (.ref a),some (.str o),some (.ref p),some (.ref nl),v4]/\TX M M' p zs kd kl [nl] c/\M' nl=some (.lst (s.reverse.map dn))/\c+j * (b * (1000 * g * g+200 * g)+2)<=f * (b * (1000 * g * g+200 * g)+2)/\s.length+b * j<=1+b * f/\(val kd []).isSome=true/\ChG zs g b Q j kd kl s)
  ⟨f,_,_,[[]],0,none,rfl,t2,n2,by omega,by show 1+_<=_;omega,rfl,hC⟩ ?_
 rintro j ρ M' ⟨kd,kl,s,c,v4,rfl,t,hn,hcc,hsl,h0,hch⟩ TB eTB;clear t2 n2;have bf:b * f<=60 * 100:=Nat.mul_le_mul b6 f1;cases j with
 | zero=>exact hch.elim
 | succ j =>
 rw[succ_mul]at hcc;rw[Nat.mul_succ]at hsl;walk_at "ev";simp only[hn];cases s with
 | nil =>
  refine⟨ZB _,rfl,rfl,ite2 (fun z=>?_) fun _=>?_⟩
  ·have z':(!eqB (D.lst []) (.lst []))=true:=z;rw[Q0J]at z';cases z'
  obtain⟨a',ld,dd,lv,ks,rc,tp⟩:=id t;rw[e1];clear e1;walk_at "ev";refine⟨p,_,_,rfl,tp.ob,trF_d,dd,_,rfl,tp.hd,fun q hq w hw=>?_,fun l hl=>?_⟩
  ·obtain⟨x,hx,rfl⟩:=ZI.mp hq;exact hQ kd hch x hx w hw
  ·refine Q0f (h _ l kd hch (t.sub.trans (Sub.new hl)) (t.sub.none hl) ?_);rw[Q0a,map_map];rfl
 | cons n s =>
  obtain⟨on,hon,hL⟩:=hch;have ecd:(n::s).reverse.map dn=s.reverse.map dn++[dn n]:=by rw[List.reverse_cons,Z7];rfl
  have ene:eqB (.lst ((n::s).reverse.map dn)) (.lst [])=false:=(Q0T _ _).mpr fun z=>by
   injection z with z;rw[ecd]at z;have:=congrArg List.length z;rw[Zi]at this;cases this
  refine⟨ZB _,Q9w _,rfl,ite2 (fun _=>?_) fun z=>?_⟩;rotate_left
  ·have z':¬ (!eqB (.lst ((n::s).reverse.map dn)) (.lst []))=true:=z;rw[ene]at z';exact absurd rfl z'
  simp only[Zj]at hsl;refine⟨fun ρ' M''=>∃ (kd:Kd) (kl:Kl) (s:List (List W)) (c:Nat) (v4:Option D),ρ'=[some (.ref a),some (.str o),some (.ref p),some (.ref nl),v4]/\TX M M'' p zs kd kl [nl] c/\M'' nl=some (.lst (s.reverse.map dn))/\c+j * (b * (1000 * g * g+200 * g)+2)<=f * (b * (1000 * g * g+200 * g)+2)/\s.length+b * j<=1+b * f/\(val kd []).isSome=true/\ChG zs g b Q j kd kl s,fun ρ' M'' z=>⟨j,Yo j,z⟩,?_⟩;rw[eTB];clear eTB e1;show evS T (.seq _ _) _ _ _;refine Q0c fun k2 e2=>?_;obtain⟨fs,ob,no⟩:=t.tob;walk_at "ev";simp only[h348];walk_at "ev";refine⟨p,fs,rfl,ob,no _ (by decide +kernel) (by decide +kernel) (by decide +kernel) (by decide +kernel),?_⟩
  simp only[hn];refine⟨nl,_,dn n,rfl,hn,by rw[ecd,Zi,ZH,Nat.add_sub_cancel,Ym (Zo _),sub_self];rfl,?_⟩
  rw[ecd,List.dropLast_concat];have t2:=t.write (b:=nl) (u:=.lst (s.reverse.map dn)) Zl;have n2:dupd M' nl (.lst (s.reverse.map dn)) nl=some (.lst (s.reverse.map dn)):=Q0a;generalize dupd M' nl (.lst (s.reverse.map dn))=M2 at t2 n2;clear t hn;refine⟨M,p,zs,kd,kl,[nl],c,n,on,rfl,t2,hz,by omega,hg,hon,fun M3 L t3 f3 nd hm=>?_⟩
  have n3:=(f3 nl Zl).trans n2;obtain⟨Lb,y,hy,y0,hch⟩:=hL L nd hm;have Ls:∀ m∈L,m.length<=20:=fun m hm'=>Q7M hg ((hm m).mp hm');clear t2 n2 f3;rw[e2];clear e2;walk_at "ev";simp only[n3];obtain⟨ck,eck⟩:∃ ck,ck=1000 * g * g+200 * g:=⟨_,rfl⟩;rw[<- eck]at hcc c9 ⊢;have Lk:L.length * ck<=b * ck:=Nat.mul_le_mul_right _ Lb;have jx:c+b * ck+2<=13000000:=by omega
  refine Q0n (fun i ys M'=>∃ (kdi:Kd) (kli:Kl) (kept rest:List (List W)) (ci r:Nat),TX M M' p zs kdi kli [nl] ci/\M' nl=some (.lst (s.reverse.map dn))/\ys=kept.map dn/\hasL zs g (L.drop i) kdi kli=some (y.1,y.2.1,rest)/\kept++rest=y.2.2/\(val kdi []).isSome=true/\r+i=L.length/\ci+r * ck<=c+2+L.length * ck/\kept.length<=i)
   ⟨kd,kl,[],y.2.2,c+2,L.length,t3,n3,rfl,hy,rfl,h0,rfl,Zo _,Zo _⟩ (fun _ _ _ _=>trivial) ?_ ?_
  ·rintro i d ys M4 k3 hi ⟨kdi,kli,kept,rest,ci,r,t4,n4,rfl,hr,hk,hd,ri,hci,kl4⟩ hk3;rw[Z5]at hi;obtain⟨m,em,rfl⟩:=ZA.mp hi;have il:=(Zk.mp em).1;have ed:L.drop i=m::L.drop (i+1):=by
    rw[Yy il];congr 1;exact (Zk.mp em).2
   rw[ed]at hr;obtain⟨y1,q1,hr⟩:=Z9.mp hr;obtain⟨z,q2,q3⟩:=ZA.mp hr;obtain⟨r',rfl⟩:∃ r',r=r'+1:=⟨r-1,by omega⟩
   rw[succ_mul]at hci;obtain⟨fs,ob,no⟩:=t4.tob;simp only[h349];walk_at "ev";refine⟨p,fs,rfl,ob,no _ (by decide +kernel) (by decide +kernel) (by decide +kernel) (by decide +kernel),M,p,zs,kdi,kli,[nl],ci,m,g,y1,rfl,t4,hz,Z4 (Ls m (ZG em)) (by decide),hd,q1,g1,by omega,fun M5 t5 f5=>?_⟩
   have n5:=(f5 nl Zl).trans n4;have s1:=Q0V hz.ok g q1 hd;injection q3 with q3 q4;injection q4 with q4 q5;have hz2:hasL zs g (L.drop (i+1)) y1.1 y1.2.1=some (y.1,y.2.1,z.2.2):=by rw[q2,<- q3,<- q4]
   cases ev:(val y1.1 m).isSome with
   | true =>
    rw[ev,Ze rfl]at q5;refine iteT ⟨small1000 (by rw[Zd];omega),hk3 _ _ ⟨y1.1,y1.2.1,kept++[m],z.2.2,_,r',t5,n5,by rw[Z7];rfl,hz2,by rw[<- hk,<- q5,append_assoc];rfl,s1,by omega,by omega,by rw[Zi];exact Nat.succ_le_succ kl4⟩⟩
   | false =>
    rw[ev,Zc Zs]at q5;exact iteF (hk3 _ _ ⟨y1.1,y1.2.1,kept,z.2.2,_,r',t5,n5,rfl,hz2,by rw[<- hk,<- q5],s1,by omega,by omega,by omega⟩)
  ·rintro ys M4 ⟨kdi,kli,kept,rest,ci,r,t4,n4,rfl,hr,hk,hd,ri,hci,kl4⟩;rw[Zd]at hr ri kl4;rw[List.drop_length]at hr;injection hr with hr;injection hr with r1 hr;injection hr with r2 r3;subst r3;rw[Yh]at hk;have r0:r=0:=by omega
   subst r0;have sz:(s.reverse.map dn).length+(kept.map dn).length<=sizeLine:=by
    rw[Zd,Zd,List.length_reverse,ZL];omega
   refine⟨by rw[Zd,ZL];omega,nl,_,_,rfl,rfl,n4,sz,kdi,kli,kept.reverse++s,ci,_,rfl,t4.write Zl,?_,by omega,?_,hd,?_⟩
   ·rw[Q0a,List.reverse_append,List.reverse_reverse,Z7]
   ·rw[Zi,List.length_reverse];omega
   ·rw[r1,r2,hk];exact hch
noncomputable def b_al:CS :=
  (.seq (.ite (.or (.cmp .eq (.ix (.var 1) (.con (.int 0))) (.glob 18)) (.cmp .inn (.glob 14) (.compz false [] (.var 0) .nil (.ix (.var 0) (.con (.int 0))))))
  (.seq (.ret (.glob 19))
  .nil)
  .nil)
  (.seq (.ret (.ix (.var 1) (.con (.int 0))))
  .nil))
noncomputable def b_ac:CS :=
  (.seq (.ite (.cmp .eq (.ix (.var 0) (.con (.int 0))) (.glob 12))
  (.seq (.ret (.tup (.cons (.glob 12) (.cons (.ix (.var 0) (.con (.int 1))) (.cons (.var 1) .nil)))))
  .nil)
  .nil)
  (.seq (.ite (.cmp .eq (.ix (.var 0) (.con (.int 0))) (.glob 13))
  (.seq (.ret (.tup (.cons (.glob 14) (.cons (.ix (.var 0) (.con (.int 2))) (.cons (.glob 14) .nil)))))
  .nil)
  .nil)
  (.seq (.ret (.con .non))
  .nil)))
noncomputable def b_aB:CS :=
  (.seq (.set 4 (.make 340 (.cons (.var 0) (.cons (.var 1) .nil))))
  (.seq (.set 5 (.lst (.cons (.tup (.cons (.glob 21) (.cons (.var 2) (.cons (.var 3) .nil)))) .nil)))
  (.seq (.set 6 (.dispN (.tup (.cons (.var 2) (.cons (.var 3) .nil))) (.con (.bl true))))
  (.seq (.set 7 (.meth 342 (.var 4) (.cons (.var 2) (.cons (.var 3) .nil))))
  (.seq (.set 8 (.call 71 (.cons (.var 7) (.cons (.var 3) .nil))))
  (.seq (.whil (.cmp .notN (.var 8) (.con .non))
  (.seq (.set 9 (.sl (.var 8) (.con (.int 1)) .nil))
  (.seq (.ex (.ml .append (.var 5) (.cons (.var 8) .nil)))
  (.seq (.ite (.cmp .inN (.var 9) (.var 6))
  (.seq (.ret (.tup (.cons (.glob 20) (.cons (.lstz .nil) (.cons (.var 5) .nil)))))
  .nil)
  .nil)
  (.seq (.nput (.var 6) (.var 9) (.con (.bl true)))
  (.seq (.set 7 (.meth 342 (.var 4) (.cons (.ix (.var 9) (.con (.int 0))) (.cons (.ix (.var 9) (.con (.int 1))) .nil))))
  (.seq (.set 8 (.call 71 (.cons (.var 7) (.cons (.ix (.var 9) (.con (.int 1))) .nil))))
  .nil)))))))
  (.seq (.set 10 (.call 72 (.cons (.var 5) (.cons (.var 7) .nil))))
  (.seq (.ret (.tup (.cons (.var 10) (.cons (.ite (.cmp .eq (.var 10) (.glob 15)) (.ix (.var 7) (.con (.int 1))) (.lstz .nil)) (.cons (.var 5) .nil)))))
  .nil))))))))
noncomputable def zaD:W:=[97,115,107,101,100]
noncomputable def kRing:W:=[114,105,110,103]
noncomputable def kLost:W:=[108,111,115,116]
noncomputable def sp_ac:DSp:=fun ds M R=>∃ (w:W) (r:List D) (k:W),ds=[.tup (.str w::r),.str k]/\(w=za9->∃ m l,r=[dn m,l]/\R (.tup [.str za9,dn m,.str k]) M)/\(w=zae->∃ x h y z,r=[x,dn h,y,z]/\R (.tup [.str za1,dn h,.str za1]) M)/\(w≠za9->w≠zae->R .non M)
theorem ok_ac(T:Tab)(h13:T.con 13=some (("DOWN" : Str),D.str [100,111,119,110]))(h14:T.con 14=some (("DOOR" : Str),D.str [100,111,111,114]))(h12:T.con 12=some (("ELSE" : Str),D.str [101,108,115,101])):∀ ds M R,sp_ac ds M R->evS T b_ac (za4 R) (za3 ["reply","kind"] ds) M:=by
 rintro ds M R ⟨w,r,k,rfl,he,hd,hn⟩;simp only[b_ac];refine Q0c fun k1 e1=>?_;walk_at "ev";simp only[h12];walk_at "ev";refine ix_tup (by decide) (by simp only[Zj];omega) fun d0 hd0=>?_
 cases hd0
 try walk_at "ev"
 refine⟨rfl,rfl,ite2 (fun z=>?_) fun z=>?_⟩
 ·obtain⟨m,l,rfl,h⟩:=he (Zv z);walk_at "q0";exact⟨szL (by decide),Q0f h⟩
 have ne:w≠za9:=fun y=>z (Zm y);rw[e1];clear e1;refine Q0c fun k1 e1=>?_;walk_at "ev";simp only[h13,h14];walk_at "ev";refine ix_tup (by decide) (by simp only[Zj];omega) fun d0 hd0=>?_
 cases hd0
 try walk_at "ev"
 refine⟨rfl,rfl,ite2 (fun z=>?_) fun z=>?_⟩
 ·obtain⟨x,h',y,q,rfl,h⟩:=hd (Zv z);walk_at "q0";exact⟨szL (by decide),Q0f h⟩
 ·rw[e1];walk_at "ev";exact Q0f (hn ne fun y=>z (Zm y))
noncomputable def sp_al:DSp:=fun ds M R=>∃ (wl:Addr) (ws:List D) (w:W) (r:List D) (vs:List W),ds=[.ref wl,.tup (.str w::r)]/\M wl=some (.lst ws)/\ws.length<=900/\(∃ rs:List (List D),rs.length=vs.length/\ws=(vs.zip rs).map fun p=>.tup (.str p.1::p.2))/\R (.str (if w=zbe\/za1∈vs then kLost else w)) M
theorem ok_al(T:Tab)(h18:T.con 18=some (("AWAY" : Str),D.str [97,119,97,121]))(h14:T.con 14=some (("DOOR" : Str),D.str [100,111,111,114]))(h19:T.con 19=some (("LOST" : Str),D.str [108,111,115,116])):∀ ds M R,sp_al ds M R->evS T b_al (za4 R) (za3 ["waits","reply"] ds) M:=by
 rintro ds M R ⟨wl,ws,w,r,vs,rfl,hw,hl,⟨rs,rl,ews⟩,h⟩;simp only[b_al];refine Q0c fun k1 e1=>?_;walk_at "ev";simp only[h18,h14];walk_at "ev";refine ix_tup (by decide) (by simp only[Zj];omega) fun d0 hd0=>?_
 cases hd0
 try walk_at "ev"
 refine⟨rfl,rfl,ite2 (fun z=>?_) fun z=>?_⟩
 ·simp only[h19];walk_at "ev";rw[Ze (.inl (Zv z))]at h;exact Q0f h
 have na:w≠zbe:=fun y=>z (Zm y);simp only[hw];refine Q1C (fun d=>match d with | .tup (v::_)=>v | d=>d) hw (by omega) (fun e kk he hkk=>?_) ?_
 ·rw[ews]at he;obtain⟨⟨v,r'⟩,_,rfl⟩:=ZI.mp he;walk_at "ev";refine ix_tup (by decide) (by simp only[Zj];omega) fun d0 hd0=>?_
  cases hd0;exact hkk
 have em:ws.map (fun d=>match d with | .tup (v::_)=>v | d=>d)=vs.map D.str:=by
  rw[ews,map_map];show (vs.zip rs).map (fun p=>D.str p.1)=_;rw[show (fun p:W×List D=>D.str p.1)=D.str ∘ Prod.fst from rfl,<- map_map,List.map_fst_zip (by omega)]
 rw[em];refine⟨szL (by rw[<- em,Zd];omega),_,rfl,rfl,?_,ite2 (fun z=>?_) fun z=>?_⟩
 ·rw[ZM];intro d hd;obtain⟨v,_,rfl⟩:=ZI.mp hd;rfl
 ·simp only[h19];walk_at "ev";rw[any_eq_true]at z;obtain⟨y,hy,e⟩:=z;obtain⟨v,hv,rfl⟩:=ZI.mp hy;rw[Q4p]at e;have ev:v=za1:=Zv e;rw[Ze (.inr (by rw[<- ev];exact hv))]at h
  exact Q0f h
 ·have nd:¬ za1∈vs:=fun y=>z (by
   rw[any_eq_true];exact⟨.str za1,ZI.mpr ⟨za1,y,rfl⟩,by rw[Q4p];exact Zm rfl⟩)
  rw[Zc (fun y=>y.elim na nd)]at h;rw[e1];walk_at "ev";refine ix_tup (by decide) (by simp only[Zj];omega) fun d0 hd0=>?_
  cases hd0;exact Q0f h
namespace Tz
noncomputable abbrev Wt:=W×List W×W
noncomputable def wtD(x:Wt):D:=.tup [.str x.1,dn x.2.1,.str x.2.2]
noncomputable def zaM(r:Rp)(k:W):Option Wt:=match r with
 | .els m _=>some (za9,m,k)
 | .down _ h _ _=>some (za1,h,za1)
 | _=>none
noncomputable def zbK:Option Wt->D
 | none=>.non
 | some s=>wtD s
noncomputable def zb6:Rp->W
 | .away=>zbe
 | .els _ _=>za9
 | .down _ _ _ _=>zae
 | .rows _ _=>zaR
 | .non _=>kNone
 | .emp _=>zbR
noncomputable def zbI:Rp->List D
 | .away=>[]
 | .els m l=>[dn m,.int l]
 | .down c h ds l=>[dn c,dn h,.lst (ds.map .str),.int l]
 | .rows ds l=>[.lst (ds.map .str),.int l]
 | .non l=>[.int l]
 | .emp l=>[.int l]
noncomputable def valsR:Rp->List W
 | .rows ds _=>ds
 | _=>[]
theorem Rp.d_eq(r:Rp):r.d=.tup (.str (zb6 r)::zbI r):=by cases r <;> rfl
noncomputable def endW(r:Rp)(ws:List Wt):W:=if zb6 r=zbe\/za1∈ws.map (·.1) then kLost else zb6 r
noncomputable def endP(r:Rp)(ws:List Wt):W×List W×List Wt:=(endW r ws,if endW r ws=zaR then valsR r else [],ws)
noncomputable def zal(zs:List Zn)(g:Nat):Nat->Kd->Kl->List W->W->List Wt->Option (W×List W×List Wt)
 | 0,_,_,_,_,_=>none
 | f+1,kd,kl,n,k,ws=>(zaf zs n k g kd kl).bind fun y=>match zaM y.2.2 k with
  | none=>some (endP y.2.2 ws)
  | some s=>if s.2∈ws.map (·.2) then some (kRing,[],ws++[s]) else zal zs g f y.1 y.2.1 s.2.1 s.2.2 (ws++[s])
noncomputable def AftP(zs:List Zn)(g j:Nat)(kd:Kd)(kl:Kl)(r:Rp)(k:W)(ws:List Wt)(y:W×List W×List Wt):Prop:=match zaM r k with
 | none=>y=endP r ws
 | some s=>if s.2∈ws.map (·.2) then y=(kRing,[],ws++[s]) else zal zs g j kd kl s.2.1 s.2.2 (ws++[s])=some y
theorem Q2H(h:zal zs g (f+1) kd kl n k ws=some y):∃ x,zaf zs n k g kd kl=some x/\AftP zs g f x.1 x.2.1 x.2.2 k ws y:=by
 obtain⟨x,h1,h2⟩:=Z9.mp h;refine⟨x,h1,?_⟩;unfold AftP;cases e:zaM x.2.2 k with
 | none=>rw[e]at h2;injection h2 with h2;exact h2.symm
 | some s =>
  rw[e]at h2;simp only at h2 ⊢;split
  ·next q=>rw[Ze q]at h2;injection h2 with h2;exact h2.symm
  ·next q=>rw[Zc q]at h2;exact h2
theorem Qd0(ws:List Wt):∃ rs:List (List D),rs.length=(ws.map (·.1)).length/\ws.map wtD=((ws.map (·.1)).zip rs).map fun p=>.tup (.str p.1::p.2):=by
 refine⟨ws.map fun x=>[dn x.2.1,.str x.2.2],by simp,?_⟩
 induction ws with
 | nil=>rfl
 | cons x ws ih=>rw[Zy,Zy,Zy,List.zip_cons_cons,Zy,<- ih];rfl
theorem Q2I:∀ (f:Nat) {kd:Kd} {kl:Kl} {y:Kd×Kl×Rp},zaf zs n k f kd kl=some y->∃ o t,y.2.2=repT zs o t n k
 | 0,_,_,_,h=>nomatch h
 | f+1,kd,kl,y,h=>by
  obtain⟨o,t,e⟩:=Q7L zs kd n k;unfold zaf at h;obtain⟨kd1,r,er⟩:∃ kd1 r,rsf zs kd n k=(kd1,r):=⟨_,_,rfl⟩;simp only[er]at h e;cases r with
  | down c hh ds l =>
   obtain⟨x,q1,q2⟩:=Z9.mp h;split at q2
   ·exact Q2I f q2
   ·injection q2 with q2;rw[<- q2];exact⟨o,t,e⟩
  | _=>injection h with h;rw[<- h];exact⟨o,t,e⟩
theorem Q5t(hz:∀ z∈zs,ZnOk z)(h:zaf zs n k f kd kl=some y)(e:zaM y.2.2 kk=some s)(hk:¬ IsN kk):s.2.1.length<=30/\¬ IsN s.2.2:=by
 obtain⟨o,t,er⟩:=Q2I f h;have rl:(∀ m l,y.2.2=.els m l->m.length<=20)/\∀ c hh ds l,y.2.2=.down c hh ds l->hh.length<=20:=by
  rw[er];unfold repT;cases ez:atT (ofD zs o) t with
  | none=>exact⟨(fun _ _ z=>nomatch z),(fun _ _ _ _ z=>nomatch z)⟩
  | some z=>exact Q5s (hz z (Q2p (Q1L ez)))
 generalize y.2.2=r at e rl;cases r with
 | els m l=>cases e;exact⟨Z4 (rl.1 m l rfl) (by decide),hk⟩
 | down c hh ds l=>cases e;exact⟨Z4 (rl.2 c hh ds l rfl) (by decide),Q3f⟩
 | _=>cases e
end Tz
open Tz in
noncomputable def sp_aB:DSp:=fun ds M R=>∃ (a:Addr) (zs:List Zn) (o:W) (n:List W) (k:W) (f g:Nat) (y:W×List W×List Wt),ds=[.ref a,.str o,dn n,.str k]/\HsOk M a zs/\ZsOk zs/\n.length<=30/\¬ IsN k/\zal zs g f [([],o)] [] n k [(zaD,n,k)]=some y/\f<=100/\g<=100/\f * (1000 * g * g+200 * g)<=13000000 /\
 ∀ M' wl,Sub M M'->M wl=none->M' wl=some (.lst (y.2.2.map wtD))->R (.tup [.str y.1,.lst (y.2.1.map .str),.ref wl]) M'
open Tz in
set_option maxHeartbeats 1000000 in
theorem ok_aB(T:Tab)(h72:T.fn 72=some ⟨"word_of",2,[],sp_al⟩)(h71:T.fn 71=some ⟨"step_behind",2,[],sp_ac⟩)(h342:T.mt 342=some ⟨"Tree","reply",2,sp_a4⟩)(h340:T.ini 340=some ⟨"Tree","__init__",2,sp_a8⟩)(h15:T.con 15=some (("ROWS" : Str),D.str [114,111,119,115]))(h20:T.con 20=some (("RING" : Str),D.str [114,105,110,103]))(h21:T.con 21=some (("ASKED" : Str),D.str [97,115,107,101,100])) :
  ∀ ds M R,sp_aB ds M R->evS T b_aB (za4 R) (za3 ["houses","root","N","K","tree","waits","met","reply","step","question","word"] ds) M:=by
 rintro ds M R ⟨a,zs,o,n,k,f,g,y,rfl,hs,hz,hn,hk,hy,f1,g1,c9,h⟩;obtain⟨ck,eck⟩:∃ ck,ck=1000 * g * g+200 * g:=⟨_,rfl⟩;rw[<- eck]at c9;cases f with
 | zero=>cases hy
 | succ f =>
 rw[succ_mul]at c9;obtain⟨x0,hx0,ha0⟩:=Q2H hy
 -- a step behind what is told
 have stp:∀ (r:Rp) (kk:W) (M:DH) (Q:DK),Q (zbK (zaM r kk)) M->sp_ac [r.d,.str kk] M Q:=fun r kk M Q q=>by
  refine⟨zb6 r,zbI r,kk,by rw[Rp.d_eq],fun e=>?_,fun e=>?_,fun e1 e2=>?_⟩
  ·cases r with
   | els m l=>exact⟨m,_,rfl,q⟩
   | _=>exact absurd (show (_:W)=za9 from e) (by simp only[zb6];decide)
  ·cases r with
   | down c hh ds l=>exact⟨_,hh,_,_,rfl,q⟩
   | _=>exact absurd (show (_:W)=zae from e) (by simp only[zb6];decide)
  ·cases r with
   | els m l=>exact absurd rfl e1
   | down c hh ds l=>exact absurd rfl e2
   | _=>exact q
 simp only[b_aB];refine Q0c fun k1 e1=>?_;walk_at "ev";simp only[h340];walk_at "ev";intro p hp;refine⟨p,a,zs,o,rfl,Q0a,hs.mono (Sub.new hp),fun M1 ht=>⟨rfl,?_⟩⟩;have t1:=ht M (Sub.new hp) hp hs;clear ht;rw[e1];clear e1;refine Q0c fun k1 e1=>?_;walk_at "ev";simp only[h21];walk_at "ev";refine⟨szL (by decide),szL (by decide),fun wl hwl=>?_⟩
 have fwl:M wl=none:=t1.sub.none hwl;have t2:=t1.add (u:=.lst ([(zaD,n,k)].map wtD)) hwl;have w2:dupd M1 wl (.lst ([(zaD,n,k)].map wtD)) wl=some (.lst ([(zaD,n,k)].map wtD)):=Q0a;show k1 _ (dupd M1 wl (.lst ([(zaD,n,k)].map wtD)));generalize dupd M1 wl (.lst ([(zaD,n,k)].map wtD))=M2 at t2 w2;rw[e1];clear e1;refine Q0c fun k1 e1=>?_;walk_at "ev";intro mt hmt;refine⟨szL (by decide),(k,n,[]),rfl,⟨0,Q0a⟩,fun ep=>?_⟩
 rw[Q1v];have nwm:wl≠mt:=dne w2 hmt;have t3:=t2.add (u:=.oth (.dnt ep [((k,n,[]),.bl true)])) hmt;have m3:TbN (dupd M2 mt (.oth (.dnt ep [((k,n,[]),.bl true)]))) mt [((k,n,[]),.bl true)]:=⟨ep,Q0a⟩;have w3:dupd M2 mt (.oth (.dnt ep [((k,n,[]),.bl true)])) wl=some (.lst ([(zaD,n,k)].map wtD)):=by rw[Q0b nwm];exact w2
 generalize dupd M2 mt (.oth (.dnt ep [((k,n,[]),.bl true)]))=M3 at t3 m3 w3;clear t2 w2 hmt t1 hwl;obtain⟨fs3,ob3,no3⟩:=t3.tob;rw[e1];clear e1;refine Q0c fun k1 e1=>?_;walk_at "ev";simp only[h342];walk_at "ev";refine⟨p,fs3,rfl,ob3,no3 _ (by decide +kernel) (by decide +kernel) (by decide +kernel) (by decide +kernel),M,p,zs,_,_,[mt,wl],0,n,k,g,x0,rfl,t3,hz,hk,hn,rfl,hx0,g1,by omega,fun M4 t4 f4=>?_⟩
 have w4:=(f4 wl (by simp)).trans w3
 have m4:TbN M4 mt [((k,n,[]),.bl true)]:=by obtain⟨ep,e⟩:=m3;exact⟨ep,(f4 mt (by simp)).trans e⟩
 have z4:=Q0V hz.ok g hx0 rfl;have l4:∀ s,zaM x0.2.2 k=some s->s.2.1.length<=30/\¬ IsN s.2.2:=fun s e=>Q5t hz.ok hx0 e hk;rw[Nat.zero_add,<- eck]at t4;rw[e1];clear e1 t3 w3 m3;refine Q0c fun k1 e1=>?_;walk_at "ev";simp only[h71];walk_at "ev";refine stp x0.2.2 k M4 _ ?_;rw[e1];clear e1;refine Q0c fun k1 e1=>?_;show zau _ _ _ _ _;refine Q0Q (fun j ρ M'=>∃ (kd:Kd) (kl:Kl) (c:Nat) (ws:List Wt) (kvs:List (ND×D)) (r:Rp) (kk:W) (v9:Option D),ρ=[some (.ref a),some (.str o),some (dn n),some (.str k),some (.ref p),some (.ref wl),some (.ref mt),some r.d,some (zbK (zaM r kk)),v9,none]/\TX M M' p zs kd kl [mt,wl] c/\M' wl=some (.lst (ws.map wtD))/\TbN M' mt kvs/\(∀ q:List W×W,(valN kvs (q.2,q.1,[])).isSome=true <-> q∈ws.map (·.2))/\kvs.length<=ws.length/\ws.length+j<=f+1/\c+j * ck<=f * ck+ck/\(val kd []).isSome=true/\(∀ s,zaM r kk=some s->s.2.1.length<=30/\¬ IsN s.2.2)/\AftP zs g j kd kl r kk ws y)
  ⟨f,x0.1,x0.2.1,ck,_,_,x0.2.2,k,none,rfl,t4,w4,m4,fun q=>?_,Zo _,by simp only[Zj,ZU];omega,by omega,z4,l4,ha0⟩ ?_
 ·constructor
  ·intro e;by_cases z:q=(n,k)
   ·rw[z];exact Zl
   ·rw[show valN [((k,n,[]),D.bl true)] (q.2,q.1,[])=none from ?_]at e
    ·cases e
    ·unfold valN;rw[find?_cons_of_neg (by simp only[Zg];intro w;injection w with w1 w2;injection w2 with w2 _;exact z (Prod.ext w2.symm w1.symm))]
     rfl
  ·intro e;have e':q=(n,k):=Zz.mp e;rw[e'];unfold valN;rw[find?_cons_of_pos (by simp)]
   rfl
 clear t4 w4 m4 f4;rintro j ρ M' ⟨kd,kl,c,ws,kvs,r,kk,v9,rfl,t,hw,hm,hks,hkl,hwl,hcc,h0,hl,ha⟩ TB eTB;unfold AftP at ha;cases es:zaM r kk with
 | none =>
  rw[es]at ha;rw[ha]at h;obtain⟨rs,rl,ews⟩:=Qd0 ws;simp only[zbK];walk_at "ev";rw[e1];clear e1;refine Q0c fun k1 e1=>?_;walk_at "ev";simp only[h72];walk_at "ev";rw[Rp.d_eq];refine⟨wl,_,zb6 r,zbI r,_,rfl,hw,by rw[Zd];omega,⟨rs,rl,ews⟩,?_⟩
  refine (show k1 [some (.ref a),some (.str o),some (dn n),some (.str k),some (.ref p),some (.ref wl),some (.ref mt),some (.tup (.str (zb6 r)::zbI r)),some .non,v9,some (.str (endW r ws))] M' from ?_);have hR:=h M' wl t.sub fwl hw;simp only[endP]at hR;have hv:endW r ws=zaR->∃ ds l,r=.rows ds l:=fun e=>by
   unfold endW at e;split at e
   ·exact absurd e (by decide)
   ·cases r with
    | rows ds l=>exact⟨ds,l,rfl⟩
    | _=>exact absurd (show (_:W)=zaR from e) (by simp only[zb6];decide)
  generalize endW r ws=wd at hR hv;rw[e1];clear e1;walk_at "ev";simp only[h15];walk_at "ev";refine⟨rfl,rfl,ite2 (fun z=>?_) fun z=>?_⟩
  ·have z':wd=zaR:=Zv z;obtain⟨ds,l,rfl⟩:=hv z';rw[Ze z']at hR;refine ix_tup (by decide) (by simp only[zbI,Zj,ZU];omega) fun d0 hd0=>?_
   cases hd0;exact⟨szL (by decide),Q0f hR⟩
  ·rw[Zc (show ¬ wd=zaR from fun y=>z (Zm y))]at hR;exact⟨ZB _,szL (by decide),Q0f hR⟩
 | some s =>
  rw[es]at ha;obtain⟨sl,sk⟩:=hl s es;obtain⟨s1,sn,sk1⟩:=s;simp only at ha sl sk;rw[show zbK (some (s1,sn,sk1))=.tup [.str s1,dn sn,.str sk1] from rfl];walk_at "ev";refine⟨fun ρ' M''=>∃ m',m'<j/\∃ (kd:Kd) (kl:Kl) (c:Nat) (ws:List Wt) (kvs:List (ND×D)) (r:Rp) (kk:W) (v9:Option D),ρ'=[some (.ref a),some (.str o),some (dn n),some (.str k),some (.ref p),some (.ref wl),some (.ref mt),some r.d,some (zbK (zaM r kk)),v9,none]/\TX M M'' p zs kd kl [mt,wl] c/\M'' wl=some (.lst (ws.map wtD))/\TbN M'' mt kvs/\(∀ q:List W×W,(valN kvs (q.2,q.1,[])).isSome=true <-> q∈ws.map (·.2))/\kvs.length<=ws.length/\ws.length+m'<=f+1/\c+m' * ck<=f * ck+ck/\(val kd []).isSome=true/\(∀ s,zaM r kk=some s->s.2.1.length<=30/\¬ IsN s.2.2)/\AftP zs g m' kd kl r kk ws y,fun ρ' M'' z=>z,?_⟩;rw[eTB];clear eTB e1;show evS T (.seq _ _) _ _ _;refine Q0c fun k2 e2=>?_;walk_at "ev";rw[show cut [D.str s1,dn sn,.str sk1] (some 1) none=[dn sn,.str sk1] from rfl,e2];clear e2;refine Q0c fun k2 e2=>?_;walk_at "ev";simp only[hw];refine⟨small1000 (by rw[Zd];omega),?_⟩
  refine (show k2 _ (dupd M' wl (.lst (ws.map wtD++[wtD (s1,sn,sk1)]))) from ?_);rw[show ws.map wtD++[wtD (s1,sn,sk1)]=(ws++[(s1,sn,sk1)]).map wtD by rw[Z7];rfl]
  have w2:dupd M' wl (.lst ((ws++[(s1,sn,sk1)]).map wtD)) wl=some (.lst ((ws++[(s1,sn,sk1)]).map wtD)):=Q0a;have t2:=t.write (b:=wl) (u:=.lst ((ws++[(s1,sn,sk1)]).map wtD)) (by simp)
  have m2:=hm.put (q:=wl) (o:=.lst ((ws++[(s1,sn,sk1)]).map wtD)) nwm.symm;generalize dupd M' wl (.lst ((ws++[(s1,sn,sk1)]).map wtD))=M2 at t2 m2 w2;clear t hw hm;rw[e2];clear e2;refine Q0c fun k2 e2=>?_;walk_at "ev";simp only[h20];walk_at "ev";refine⟨(sk1,sn,[]),mt,kvs,rfl,rfl,m2,?_⟩;have hkq:=hks (sn,sk1);cases hin:(valN kvs (sk1,sn,[])).isSome with
  | true =>
   rw[Ze (hkq.mp hin)]at ha;rw[ha]at h;exact iteT ⟨ZB _,szL (by decide),Q0f (h M2 wl t2.sub fwl w2)⟩
  | false =>
   have hx:(sn,sk1)∉ws.map (·.2):=fun z=>by rw[hkq.mpr z]at hin;cases hin
   rw[Zc hx]at ha;cases j with
   | zero=>cases ha
   | succ j =>
   rw[succ_mul]at hcc;obtain⟨x,hx1,hx2⟩:=Q2H ha;refine iteF ?_;rw[e2];clear e2;refine Q0c fun k2 e2=>?_;walk_at "ev";refine⟨mt,(sk1,sn,[]),kvs,rfl,rfl,m2,smallM (by omega),fun ep=>?_⟩
   have t3:=t2.write (b:=mt) (u:=.oth (.dnt ep (putN kvs (sk1,sn,[]) (.bl true)))) (by simp)
   have w3:dupd M2 mt (.oth (.dnt ep (putN kvs (sk1,sn,[]) (.bl true)))) wl=some (.lst ((ws++[(s1,sn,sk1)]).map wtD)):=by rw[Q0b nwm];exact w2
   have m3:TbN (dupd M2 mt (.oth (.dnt ep (putN kvs (sk1,sn,[]) (.bl true))))) mt (putN kvs (sk1,sn,[]) (.bl true)):=⟨ep,Q0a⟩;generalize dupd M2 mt (.oth (.dnt ep (putN kvs (sk1,sn,[]) (.bl true))))=M3 at t3 w3 m3;clear t2 w2 m2;rw[e2];clear e2;refine Q0c fun k2 e2=>?_;walk_at "ev";simp only[h342];walk_at "ev";obtain⟨fs3,ob3,no3⟩:=t3.tob;refine⟨p,fs3,rfl,ob3,no3 _ (by decide +kernel) (by decide +kernel) (by decide +kernel) (by decide +kernel),?_⟩
   walk_at "q0";walk_at "q0";refine⟨M,p,zs,kd,kl,[mt,wl],c,sn,sk1,g,x,rfl,t3,hz,sk,sl,h0,hx1,g1,by omega,fun M4 t4 f4=>?_⟩
   have w4:=(f4 wl (by simp)).trans w3
   have m4:TbN M4 mt (putN kvs (sk1,sn,[]) (.bl true)):=by obtain⟨ep,e⟩:=m3;exact⟨ep,(f4 mt (by simp)).trans e⟩
   have eks:=Q4w kvs (sk1,sn,[]) (.bl true);have l4:∀ s,zaM x.2.2 sk1=some s->s.2.1.length<=30/\¬ IsN s.2.2:=fun s e=>Q5t hz.ok hx1 e sk;have z4:=Q0V hz.ok g hx1 h0;refine (show k2 [some (.ref a),some (.str o),some (dn n),some (.str k),some (.ref p),some (.ref wl),some (.ref mt),some x.2.2.d,some (.tup [.str s1,dn sn,.str sk1]),some (.tup [dn sn,.str sk1]),none] M4 from ?_);rw[e2];clear e2;walk_at "ev";simp only[h71];walk_at "ev";walk_at "q0";refine stp x.2.2 sk1 M4 _ ?_;refine⟨j,Yo j,x.1,x.2.1,_,ws++[(s1,sn,sk1)],_,x.2.2,sk1,_,rfl,t4,w4,m4,fun q=>?_,by rw[Zi,ZH];omega,by rw[Zi,ZH];omega,by omega,z4,l4,hx2⟩
   rw[Q9a,Z7,ZO];by_cases e:q=(sn,sk1)
   ·rw[e,Ze rfl];exact⟨fun _=>.inr (Zz.mpr rfl),fun _=>rfl⟩
   ·rw[Zc (fun z=>e (by injection z with z1 z2;injection z2 with z2 _;exact Prod.ext z2 z1)),hks q]
    exact⟨.inl,fun z=>z.resolve_right fun y=>e (Zz.mp y)⟩
noncomputable def zai:W:=[109,97,114,107]
noncomputable def zbE:W:=[104,101,114,101]
namespace Dz
open Tz
structure Q where
 nm:List W
 far:Nat->Bool
 many:Nat
 life:Int
 bad:Nat
structure Ok(q:Q):Prop where
 l:q.nm.length<=8
 w:∀ w∈q.nm,w≠[]/\∀ c∈w,c=45\/(97<=c/\c<=122)
 m:q.many<=20
noncomputable def dr(k:Nat):W:=za1++digs k
section
variable(q:Q)
noncomputable def hs(k:Nat):List W:=if q.far k=true then [digs k] else q.nm.take (k+1)++[[48,48]]
noncomputable def dnR(k:Nat):Rw:=⟨q.nm.take (k+1),q.life,zae,dn (hs q k)⟩
noncomputable def doR(k:Nat):Rw:=⟨hs q k,q.life,za1,.str (dr (k+1))⟩
noncomputable def home(k:Nat):Nat:=if q.far k=true then 0 else k
noncomputable def rowsTo(j k:Nat):List Rw:=(if k<j then [dnR q k] else [])++((List.range j).filter fun i=>decide (home q i=k/\q.bad≠i+20)).map (doR q)
noncomputable def elR(i:Nat):Rw:=⟨q.nm++[digs i],q.life,za9,dn (q.nm++[digs (i+1)])⟩
noncomputable def mkR:Rw:=⟨q.nm++[digs q.many],q.life,zai,.str zbE⟩
noncomputable def tl:List Rw:=(List.range q.many).map (elR q)++[mkR q]
noncomputable def rowsF(k:Nat):List Rw:=rowsTo q q.nm.length k++(if k=q.nm.length then tl q else [])
noncomputable def zn(k:Nat):Zn:=⟨dr k,q.nm.take k,q.life,rowsF q k⟩
noncomputable def zones:List Zn:=((List.range (q.nm.length+1)).filter fun k=>decide (q.bad≠k)).map (zn q)
end
theorem Q3g(e:digs m=digs n):m=n:=by
 have:=congrArg NumText.digitsVal e
 rwa [Q4T,Q4T]at this
theorem Qd1(e:dr m=dr n):m=n:=Q3g (List.append_cancel_left e)
theorem Q3h(n:Nat):digs n≠[42]:=fun z=>by
 have:=Q1F (m:=n) (c:=42) (by rw[z];simp)
 omega
section
variable{q:Q}(h:Ok q)
include h
theorem Ok.dig{w:W}(hw:w∈q.nm)(n:Nat):w≠digs n:=fun z=>by
 obtain⟨h1,h2⟩:=h.w w hw;cases e:w with
 | nil=>exact h1 e
 | cons c r =>
  have m1:c∈digs n:=by rw[<- z,e];exact Zl
  have:=Q1F m1;have:=h2 c (by rw[e];exact Zl)
  omega
theorem Ok.star{w:W}(hw:w∈q.nm):w≠[42]:=fun z=>by
 have:=(h.w w hw).2 42 (by rw[z];simp)
 omega
theorem Ok.tk(k n:Nat):q.nm.take (k+1)≠[digs n]:=fun z=>by
 have:digs n∈q.nm:=mem_of_mem_take (i:=k+1) (by rw[z];simp)
 exact h.dig this n rfl
end
theorem Q0o{q:Q}{k:Nat}(hk:k<=q.nm.length):(q.nm.take k).length=k:=by rw[Z1];omega
theorem Q1m(e:q.far k=true):hs q k=[digs k]:=Ze e
theorem Q1g(e:¬ q.far k=true):hs q k=q.nm.take (k+1)++[[48,48]]:=Zc e
theorem Q5u{q:Q}{i j:Nat}(hi:i<q.nm.length)(hj:j<q.nm.length)(e:hs q i=hs q j):i=j:=by
 have li:(q.nm.take (i+1)).length=i+1:=Q0o hi;have lj:(q.nm.take (j+1)).length=j+1:=Q0o hj;by_cases fi:q.far i=true
 ·rw[Q1m fi]at e;by_cases fj:q.far j=true
  ·rw[Q1m fj]at e;injection e with e;exact Q3g e
  ·rw[Q1g fj]at e;have:=congrArg List.length e;simp only[Zi,ZH,lj]at this;omega
 ·rw[Q1g fi]at e;by_cases fj:q.far j=true
  ·rw[Q1m fj]at e;have:=congrArg List.length e;simp only[Zi,ZH,li]at this;omega
  ·rw[Q1g fj]at e;have:=congrArg List.length e;simp only[Zi,ZH,li,lj]at this;omega
theorem Q4C{l:List Nat}(nd:l.Nodup)(k:Nat):l.filter (fun i=>decide (i=k))=if k∈l then [k] else []:=by
 induction l with
 | nil=>rfl
 | cons a l ih =>
  rw[nodup_cons]at nd;rw[ZT,ih nd.2];by_cases e:a=k
  ·subst e;rw[Ze (Zm rfl),Zc nd.1,Ze Zl]
  ·rw[Zc (by simpa using e)]
   by_cases m:k∈l
   ·rw[Ze m,Ze (Zq _ m)]
   ·rw[Zc m,Zc fun z=>(Z3.mp z).elim (fun y=>e y.symm) m]
theorem Q9U(p:Nat->Bool)(n:Nat):((List.range n).filter p).Nodup:=List.Nodup.sublist List.filter_sublist List.nodup_range
theorem of_dr(q:Q)(k:Nat):ofD (zones q) (dr k)=if k<=q.nm.length/\q.bad≠k then [zn q k] else []:=by
 have e:(fun z:Zn=>decide (z.o=dr k)) ∘ zn q=fun i=>decide (i=k):=funext fun i=>by
  show decide (dr i=dr k)=_;by_cases e:i=k
  ·rw[e];simp
  ·rw[Zr e,Zr fun z=>e (Qd1 z)]
 unfold ofD zones;rw[filter_map,e,Q4C (Q9U _ _)];simp only[ZN,ZZ,Zg];by_cases c:k<=q.nm.length/\q.bad≠k
 ·rw[Ze c,Ze ⟨by omega,c.2⟩];rfl
 ·rw[Zc c,Zc fun z=>c ⟨by omega,z.2⟩];rfl
theorem of_no(n:∀ k,k<=q.nm.length->w≠dr k):ofD (zones q) w=[]:=by
 unfold ofD zones;rw[filter_eq_nil_iff];intro z hz;obtain⟨k,hk,rfl⟩:=ZI.mp hz;have:=ZZ.mp (ZN.mp hk).1;simp only[Zg];exact fun z=>n k (by omega) z.symm
theorem Q5v(hk:k<=q.nm.length)(hb:q.bad≠k)(n:List W)(kk:W):repT (zones q) (dr k) (q.nm.take k) n kk=repZ (zn q k) n kk:=by
 unfold repT;rw[of_dr,Ze ⟨hk,hb⟩];have e:atT [zn q k] (q.nm.take k)=some (zn q k):=by
  unfold atT;rw[find?_cons_of_pos (by exact Zm rfl)]
 rw[e]
theorem Q9x(hb:q.bad=k)(t n:List W)(kk:W):repT (zones q) (dr k) t n kk=.away:=by
 unfold repT;rw[of_dr,Zc fun z=>z.2 hb];rfl
theorem Q1h{α:Type}{f:α->Rw}{l:List α}{p:Rw->Bool}(n:∀ a∈l,p (f a)=false):(l.map f).filter p=[]:=by
 rw[filter_eq_nil_iff];intro x hx;obtain⟨a,ha,rfl⟩:=ZI.mp hx;rw[n a ha];decide
theorem Q3i(q:Q)(k:Nat)(c:List W):zag (rowsF q k) c=if k<q.nm.length/\q.nm.take (k+1)=c then some (dnR q k) else none:=by
 unfold zag rowsF rowsTo;rw[ZY,ZY,Q1h (fun a _=>by exact Zr fun z=>absurd (show za1=zae from z.1) (by decide)),Yh]
 have e2:(if k=q.nm.length then tl q else []).filter (fun x=>decide (x.k=zae/\x.n=c))=[]:=by
  split
  ·unfold tl;rw[ZY,Q1h (fun a _=>by exact Zr fun z=>absurd (show za9=zae from z.1) (by decide)),nil_append]
   rw[ZT,Zc (by simp only[Zg];exact fun z=>absurd (show zai=zae from z.1) (by decide))]
   rfl
  ·rfl
 rw[e2,Yh];by_cases hk:k<q.nm.length
 ·rw[Ze hk,ZT];by_cases hc:q.nm.take (k+1)=c
  ·rw[Ze (by exact Zm ⟨rfl,hc⟩),Ze ⟨hk,hc⟩];rfl
  ·rw[Zc (by simp only[Zg];exact fun z=>hc z.2),Zc fun z=>hc z.2];rfl
 ·rw[Zc hk,Zc fun z=>hk z.1];rfl
theorem Q0s{α:Type}{a b:List α}{k j:Nat}(e:a.take k=b.take k)(h:j<=k):a.take j=b.take j:=by
 have:=congrArg (List.take j) e
 rwa [take_take,take_take,min_eq_left h]at this
theorem Q5w{q:Q}{k:Nat}(hk:k<q.nm.length){n:List W}(e:n.take (k+1)=q.nm.take (k+1)):cutN (q.nm.take k) (rowsF q k) n=some (q.nm.take (k+1)):=by
 have ln:k+1<=n.length:=by
  have:=congrArg List.length e;rw[Z1,Z1]at this;omega
 unfold cutN;rw[Q0o (by omega),List.range_eq_range',drop_range',show n.length+1-(k+1)=(n.length-k-1)+1 from by omega,List.range'_succ,Zy,find?_cons_of_pos]
 ·rw[show 0+(k+1) * 1=k+1 from by omega,e]
 ·rw[show 0+(k+1) * 1=k+1 from by omega,e,Q1f,Yb,Q3i,Ze ⟨hk,rfl⟩];rfl
theorem Q1U{q:Q}{k:Nat}(hk:k<=q.nm.length){n:List W}(e:¬ (k<q.nm.length/\n.take (k+1)=q.nm.take (k+1))):cutN (q.nm.take k) (rowsF q k) n=none:=by
 unfold cutN;rw[find?_eq_none];intro m hm;obtain⟨j,hj,rfl⟩:=ZI.mp hm;rw[List.range_eq_range',drop_range',List.mem_range'_1]at hj;rw[Q1f,Yb,Q3i];split
 ·next c =>
  have l1:=congrArg List.length c.2;rw[Q0o c.1,Z1]at l1;have:j=k+1:=by omega
  subst this;exact absurd ⟨c.1,c.2.symm⟩ e
 ·decide
theorem Q5x{q:Q}{k j:Nat}(hj:j<q.nm.length):za8 (atN (rowsF q k) (hs q j)) za1=if home q j=k/\q.bad≠j+20 then [doR q j] else []:=by
 unfold za8 atN rowsF rowsTo;rw[List.filter_filter,ZY,ZY];have e1:(if k<q.nm.length then [dnR q k] else []).filter (fun x=>decide (x.k=za1)&&decide (x.n=hs q j))=[]:=by
  split
  ·rw[ZT,Zc (by simp only[Zh,Zg];exact fun z=>absurd (show zae=za1 from z.1) (by decide))];rfl
  ·rfl
 have e2:(if k=q.nm.length then tl q else []).filter (fun x=>decide (x.k=za1)&&decide (x.n=hs q j))=[]:=by
  split
  ·unfold tl;rw[ZY,Q1h (fun a _=>by
    rw[Bool.and_eq_false_iff];exact .inl (Zr fun z=>absurd (show za9=za1 from z) (by decide))),nil_append]
   rw[ZT,Zc (by simp only[Zh,Zg];exact fun z=>absurd (show zai=za1 from z.1) (by decide))]
   rfl
  ·rfl
 rw[e1,e2,Yh,nil_append,filter_map];have e3:((List.range q.nm.length).filter fun i=>decide (home q i=k/\q.bad≠i+20)).filter ((fun x=>decide (x.k=za1)&&decide (x.n=hs q j)) ∘ doR q)=((List.range q.nm.length).filter fun i=>decide (home q i=k/\q.bad≠i+20)).filter fun i=>decide (i=j):=by
  refine List.filter_congr fun i hi=>?_;have li:=ZZ.mp (ZN.mp hi).1;show (decide (za1=za1)&&decide (hs q i=hs q j))=_;rw[Zm rfl,Bool.true_and];by_cases e:i=j
  ·rw[e];simp
  ·rw[Zr e,Zr fun z=>e (Q5u li hj z)]
 rw[e3,Q4C (Q9U _ _)];simp only[ZN,ZZ,Zg];by_cases c:home q j=k/\q.bad≠j+20
 ·rw[Ze c,Ze ⟨hj,c⟩];rfl
 ·rw[Zc c,Zc fun z=>c z.2];rfl
theorem Q3j(a:W):zbL [a]=[a]:=(Q2Y (List.Perm.refl _) (by simp)).symm
theorem Q9y:zbL []=[]:=(Q2Y (List.Perm.refl _) (by simp)).symm
theorem Q1V{q:Q}(h:Ok q){k:Nat}(hk:k<q.nm.length)(hb:q.bad≠k){n:List W}(e:n.take (k+1)=q.nm.take (k+1))(kk:W) :
  repT (zones q) (dr k) (q.nm.take k) n kk=.down (q.nm.take (k+1)) (hs q k) (if ¬ q.far k=true/\q.bad≠k+20 then [dr (k+1)] else []) q.life:=by
 rw[Q5v (by omega) hb]
 unfold repZ;have ec:cutN (zn q k).t (zn q k).r n=some (q.nm.take (k+1)):=Q5w hk e;have ed:zag (zn q k).r (q.nm.take (k+1))=some (dnR q k):=by rw[show (zn q k).r=rowsF q k from rfl,Q3i,Ze ⟨hk,rfl⟩]
 rw[ec];simp only[ed];have en:nmOf (dnR q k).v=hs q k:=Q1s _;have edo:zaE (zn q k).r (dnR q k).n (hs q k)=if ¬ q.far k=true/\q.bad≠k+20 then [doR q k] else []:=by
  unfold zaE;rw[show (dnR q k).n=q.nm.take (k+1) from rfl,Q0o hk];by_cases f:q.far k=true
  ·rw[Zc (by rw[Q1m f,Ys (by simp)];exact fun z=>h.tk k k z.symm),Zc fun z=>z.1 f]
  ·rw[Ze (by rw[Q1g f,take_left' (Q0o hk)])]
   rw[show (zn q k).r=rowsF q k from rfl,Q5x hk];by_cases b:q.bad≠k+20
   ·rw[Ze ⟨Zc f,b⟩,Ze ⟨f,b⟩]
   ·rw[Zc fun z=>b z.2,Zc fun z=>b z.2]
 rw[en,edo];by_cases c:¬ q.far k=true/\q.bad≠k+20
 ·simp only[Ze c];have e1:zb7 [doR q k]=[dr (k+1)]:=Q3j _;have e2:minI ([dnR q k,doR q k].map fun x=>x.l)=q.life:=(Q2m (Zl) (fun a ha=>by
   simp only[Zy,map_nil,Z3,ZR,or_false]at ha;rcases ha with rfl | rfl <;> exact Int.le_refl _)).symm
  rw[e1,e2];rfl
 ·simp only[Zc c];have e1:zb7 []=[]:=Q9y;have e2:minI ([dnR q k].map fun x=>x.l)=q.life:=(Q2m (Zl) (fun a ha=>by
   simp only[Zy,map_nil,Z3,ZR,or_false]at ha;rw[ha];exact Int.le_refl _)).symm
  rw[e1,e2];rfl
theorem Q3k(hx:x∈rowsF q k):(x=dnR q k/\k<q.nm.length)\/(∃ i,i<q.nm.length/\home q i=k/\q.bad≠i+20/\x=doR q i)\/(k=q.nm.length/\((∃ i,i<q.many/\x=elR q i)\/x=mkR q)):=by
 unfold rowsF rowsTo at hx;rcases ZO.mp hx with hx | hx
 ·rcases ZO.mp hx with hx | hx
  ·split at hx
   ·next c=>exact .inl ⟨Zz.mp hx,c⟩
   ·cases hx
  ·obtain⟨i,hi,rfl⟩:=ZI.mp hx;obtain⟨h1,h2⟩:=ZN.mp hi;have h3:=Zv h2;exact .inr (.inl ⟨i,ZZ.mp h1,h3.1,h3.2,rfl⟩)
 ·split at hx
  ·next c =>
   unfold tl at hx;rcases ZO.mp hx with hx | hx
   ·obtain⟨i,hi,rfl⟩:=ZI.mp hx;exact .inr (.inr ⟨c,.inl ⟨i,ZZ.mp hi,rfl⟩⟩)
   ·exact .inr (.inr ⟨c,.inr (Zz.mp hx)⟩)
  ·cases hx
open Classical in
theorem Q4e(h:Std top rows n):zad top rows n=n:=by
 have:zan top rows n=n.length:=by
  unfold zan;rw[range_succ,ZY,ZT,Ze (by rw[Yc];exact Zm h),filter_nil,List.getLast?_concat]
  rfl
 unfold zad;rw[this,Ze rfl]
open Classical in
theorem Q7N(h:¬ Std [] rows [l]):zad [] rows [l]=[[42]]:=by
 have:zan [] rows [l]=0:=by
  unfold zan;rw[show [l].length+1=2 from rfl,show List.range 2=[0,1] from rfl,ZT,Ze (Zm (.inl rfl)),ZT,Zc (by rw[Zg];exact h)]
  rfl
 unfold zad;rw[this,Zc (fun z=>nomatch z)]
 rfl
theorem Q4f(h:l≠[42]):¬ ((a++[l]).drop ((a++[l]).length-1)=[[42]]):=fun z=>by
 rw[Zi,show a.length+[l].length-1=a.length from rfl,drop_left' rfl]at z;exact h (by simpa using z)
theorem Q4g(e:cutN z.t z.r n=none)(ep:zad z.t z.r n=p)(hp:¬ (p.drop (p.length-1)=[[42]])) :
  repZ z n k=match za8 (atN z.r p) za9 with
   | x::_=>.els (nmOf x.v) x.l
   | []=>match za8 (atN z.r p) k with
    | []=>.emp z.l
    | x::r=>.rows (zb7 (x::r)) (minI ((x::r).map fun x=>x.l)):=by
 unfold repZ;rw[e];simp only;rw[ep,Zc fun y=>hp y.1]
 try rfl
theorem Qbv(h:Ok q){k:Nat}(hj:j<q.nm.length)(hb:q.bad≠0)(f:q.far j=true)(hq:q.bad≠j+20):repT (zones q) (dr 0) [] [digs j] za1=.rows [dr (j+1)] q.life:=by
 rw[show repT (zones q) (dr 0) [] [digs j] za1=repZ (zn q 0) [digs j] za1 from Q5v (k:=0) (by omega) hb _ _]
 have c0:cutN (zn q 0).t (zn q 0).r [digs j]=none:=Q1U (by omega) fun z=>h.tk 0 j (by rw[<- z.2];rfl)
 have hm:doR q j∈rowsF q 0:=by
  unfold rowsF rowsTo;exact mem_append_left _ (Zw _ (ZI.mpr ⟨j,ZN.mpr ⟨ZZ.mpr hj,Zm ⟨Ze f,hq⟩⟩,rfl⟩))
 have st:Std (zn q 0).t (zn q 0).r [digs j]:=.inr ⟨Nat.zero_lt_one,doR q j,hm,by show (hs q j).take 1=_;rw[Q1m f];rfl⟩
 rw[Q4g c0 (Q4e st) (Q4f (a:=[]) (Q3h j))];have e1:za8 (atN (zn q 0).r [digs j]) za9=[]:=by
  unfold za8;rw[filter_eq_nil_iff];intro x hx;have hx2:=(ZN.mp hx).1;rw[Zg];rcases Q3k hx2 with ⟨rfl,_⟩ | ⟨i,_,_,_,rfl⟩ | ⟨c,_⟩
  ·exact fun z=>absurd (show zae=za9 from z) (by decide)
  ·exact fun z=>absurd (show za1=za9 from z) (by decide)
  ·omega
 have e2:za8 (atN (zn q 0).r [digs j]) za1=[doR q j]:=by
  have:=Q5x (k:=0) hj;rw[Q1m f,Ze ⟨Ze f,hq⟩]at this;exact this
 rw[e1,e2];show Rp.rows (zb7 [doR q j]) (minI ([doR q j].map fun x=>x.l))=_;have e3:zb7 [doR q j]=[dr (j+1)]:=Q3j _;have e4:minI ([doR q j].map fun x=>x.l)=q.life:=(Q2m (Zl) (fun a ha=>by
  simp only[Zy,map_nil,Z3,ZR,or_false]at ha;rw[ha];exact Int.le_refl _)).symm
 rw[e3,e4]
theorem Q5y{q:Q}(h:Ok q){j:Nat}(hj:j<q.nm.length)(f:q.far j=true)(hq:q.bad=j+20):repT (zones q) (dr 0) [] [digs j] za1=.non q.life:=by
 rw[show repT (zones q) (dr 0) [] [digs j] za1=repZ (zn q 0) [digs j] za1 from Q5v (k:=0) (by omega) (by omega) _ _]
 have c0:cutN (zn q 0).t (zn q 0).r [digs j]=none:=Q1U (by omega) fun z=>h.tk 0 j (by rw[<- z.2];rfl)
 have first:∀ x∈rowsF q 0,(∃ w∈q.nm,x.n.take 1=[w])\/∃ i,i≠j/\x.n=[digs i]:=fun x hx=>by
  have hd:∃ w∈q.nm,q.nm.take 1=[w]:=by
   cases e:q.nm with
   | nil=>rw[e]at hj;exact absurd hj (not_lt_zero _)
   | cons w r=>exact⟨w,Zl,rfl⟩
  obtain⟨w,hw,ew⟩:=hd;rcases Q3k hx with ⟨rfl,_⟩ | ⟨i,_,hh,nb,rfl⟩ | ⟨c,_⟩
  ·exact .inl ⟨w,hw,by show (q.nm.take 1).take 1=_;rw[ew];rfl⟩
  ·by_cases fi:q.far i=true
   ·exact .inr ⟨i,fun z=>nb (by rw[z];exact hq),Q1m fi⟩
   ·have:i=0:=by rw[home,Zc fi]at hh;exact hh
    subst this;refine .inl ⟨w,hw,?_⟩;show (hs q 0).take 1=_;rw[Q1g fi,ew];rfl
  ·omega
 have st:¬ Std (zn q 0).t (zn q 0).r [digs j]:=by
  rintro (z | ⟨_,x,hx,z⟩)
  ·exact absurd z (by show ¬ ([digs j]=([]:List W));exact fun z=>nomatch z)
  ·rcases first x hx with ⟨w,hw,e⟩ | ⟨i,ni,e⟩
   ·have z2:x.n.take 1=[digs j]:=z;rw[e]at z2;injection z2 with z2;exact h.dig hw j z2
   ·have z2:x.n.take 1=[digs j]:=z;rw[e]at z2;injection z2 with z2;exact ni (Q3g z2)
 have ep:zad (zn q 0).t (zn q 0).r [digs j]=[[42]]:=Q7N st;have ea:atN (zn q 0).r [[42]]=[]:=by
  unfold atN;rw[filter_eq_nil_iff];intro x hx;rw[Zg];intro z;rcases first x hx with ⟨w,hw,e⟩ | ⟨i,ni,e⟩
  ·rw[z]at e;injection e with e;exact h.star hw e.symm
  ·rw[e]at z;injection z with z;exact Q3h i z
 unfold repZ;rw[c0];simp only;rw[ep,ea,Ze ⟨rfl,rfl⟩];rfl
theorem Q7O(q:Q):rowsF q q.nm.length=tl q:=by
 unfold rowsF rowsTo;rw[Zc (lt_irrefl _),Ze rfl];have:(List.range q.nm.length).filter (fun i=>decide (home q i=q.nm.length/\q.bad≠i+20))=[]:=by
  rw[filter_eq_nil_iff];intro i hi;have:=ZZ.mp hi;rw[Zg];rintro⟨z,_⟩;unfold home at z;split at z <;> omega
 rw[this];rfl
noncomputable def nxN(q:Q)(i:Nat):List W:=q.nm++[digs i]
theorem Q5z(e:nxN q i=nxN q j):i=j:=by
 have:=List.append_cancel_left e;injection this with this;exact Q3g this
theorem Q9z{q:Q}{i:Nat}(hb:q.bad≠q.nm.length)(hi:i<=q.many):repT (zones q) (dr q.nm.length) (q.nm.take q.nm.length) (nxN q i) zai=if i<q.many then .els (nxN q (i+1)) q.life else .rows [zbE] q.life:=by
 rw[Q5v (Zo _) hb];have er:(zn q q.nm.length).r=tl q:=Q7O q;have c0:cutN (zn q q.nm.length).t (zn q q.nm.length).r (nxN q i)=none:=Q1U (Zo _) fun z=>absurd z.1 (lt_irrefl _);have st:Std (zn q q.nm.length).t (zn q q.nm.length).r (nxN q i):=by
  refine .inr ⟨by show (q.nm.take _).length<(q.nm++_).length;rw[Yc,Zi];exact Yo _,?_⟩
  rw[er];unfold tl;by_cases c:i<q.many
  ·exact⟨elR q i,mem_append_left _ (ZI.mpr ⟨i,ZZ.mpr c,rfl⟩),Yc⟩
  ·have:i=q.many:=by omega
   subst this;exact⟨mkR q,Zw _ (by simp),Yc⟩
 rw[Q4g c0 (Q4e st) (Q4f (Q3h i))];have at1:atN (zn q q.nm.length).r (nxN q i)=if i<q.many then [elR q i] else [mkR q]:=by
  rw[er];unfold atN tl;rw[ZY,filter_map];have e:(fun x:Rw=>decide (x.n=nxN q i)) ∘ elR q=fun j=>decide (j=i):=funext fun j=>by
   show decide (nxN q j=nxN q i)=_;by_cases e:j=i
   ·rw[e];simp
   ·rw[Zr e,Zr fun z=>e (Q5z z)]
  rw[e,Q4C List.nodup_range,ZT];by_cases c:i<q.many
  ·rw[Ze (ZZ.mpr c),Ze c,Zc (by rw[Zg];intro z;have:=Q5z (q:=q) (i:=q.many) (j:=i) z;omega)]
   rfl
  ·have:i=q.many:=by omega
   rw[Zc (fun z=>c (ZZ.mp z)),Zc c,Ze (by rw[this];exact Zm rfl)]
   rfl
 rw[at1];by_cases c:i<q.many
 ·rw[Ze c,Ze c];show Rp.els (nmOf (dn (q.nm++[digs (i+1)]))) q.life=_;rw[Q1s];rfl
 ·rw[Zc c,Zc c];show Rp.rows (zb7 [mkR q]) (minI ([mkR q].map fun x=>x.l))=_;have e3:zb7 [mkR q]=[zbE]:=Q3j _;have e4:minI ([mkR q].map fun x=>x.l)=q.life:=(Q2m (Zl) (fun a ha=>by
   simp only[Zy,map_nil,Z3,ZR,or_false]at ha;rw[ha];exact Int.le_refl _)).symm
  rw[e3,e4]
noncomputable def kdT(q:Q)(k:Nat):Kd:=(List.range (k+1)).map fun j=>(q.nm.take j,dr j)
theorem Q7P(q:Q)(k:Nat):kdT q (k+1)=kdT q k++[(q.nm.take (k+1),dr (k+1))]:=by
 unfold kdT;rw[range_succ (n:=k+1),Z7];rfl
theorem Qbw(a b:Kd)(n:List W):val (a++b) n=(val a n).or (val b n):=by
 unfold val;rw[List.find?_append];cases a.find? fun kv=>decide (kv.1=n) <;> rfl
theorem Q7Q(a n:List W)(w:W):val [(a,w)] n=if a=n then some w else none:=by
 unfold val;by_cases e:a=n
 ·rw[find?_cons_of_pos (by exact Zm e),Ze e];rfl
 ·rw[find?_cons_of_neg (by rw[Zg];exact e),Zc e];rfl
theorem Q1n{q:Q}:∀ {k:Nat} (_:k<=q.nm.length) (n:List W),val (kdT q k) n=if n.length<=k/\n=q.nm.take n.length then some (dr n.length) else none
 | 0,_,n=>by
  show val [([],dr 0)] n=_;rw[Q7Q];by_cases e:n=[]
  ·subst e;rfl
  ·rw[Zc fun z=>e z.symm,Zc fun z=>e (List.length_eq_zero_iff.mp (Nat.le_zero.mp z.1))]
 | k+1,hk,n=>by
  rw[Q7P,Qbw,Q1n (Nat.le_of_succ_le hk) n,Q7Q];have lt:=Q0o (q:=q) hk;by_cases e:n.length<=k/\n=q.nm.take n.length
  ·rw[Ze e];show some (dr n.length)=_;rw[Ze ⟨ZF e.1,e.2⟩]
  ·rw[Zc e];by_cases e2:q.nm.take (k+1)=n
   ·rw[Ze e2];show some (dr (k+1))=_;have l2:n.length=k+1:=by rw[<- e2];exact lt
    rw[Ze ⟨by omega,by rw[l2];exact e2.symm⟩,l2]
   ·rw[Zc e2,Zc]
    ·rfl
    rintro⟨z1,z2⟩;by_cases l2:n.length=k+1
    ·exact e2 (by rw[z2,l2])
    ·exact e ⟨by omega,z2⟩
theorem kd_at{q:Q}{k j:Nat}(hk:k<=q.nm.length)(hj:j<=k):val (kdT q k) (q.nm.take j)=some (dr j):=by
 rw[Q1n hk,Q0o (Z4 hj hk),Ze ⟨hj,rfl⟩]
theorem Q4D{q:Q}{k:Nat}(hk:k<q.nm.length):val (kdT q k) (q.nm.take (k+1))=none:=by
 rw[Q1n (le_of_lt hk),Q0o hk,Zc fun z=>absurd z.1 (by omega)]
theorem Q9V(hk:k<q.nm.length):put (kdT q k) (q.nm.take (k+1)) (dr (k+1))=kdT q (k+1):=by
 rw[Qbs (Q4D hk),Q7P]
theorem Q2t(p:Nat->Bool)(hp:p k=true):∀ (N:Nat),k<N->(∀ j,k<j->j<N->p j=false)->((List.range N).filter p).getLast? = some k
 | 0,h,_=>absurd h (not_lt_zero _)
 | N+1,h,hn=>by
  rw[range_succ,ZY,ZT];by_cases e:k=N
  ·subst e;rw[Ze hp,filter_nil,List.getLast?_concat]
  ·rw[Zc (by rw[hn N (by omega) (Yo _)];decide),filter_nil,Yh]
   exact Q2t p hp N (by omega) fun j h1 h2=>hn j h1 (by omega)
theorem Qd2{q:Q}{k:Nat}(hk:k<=q.nm.length){n:List W}(e:n.take k=q.nm.take k):topN (kdT q k) n=q.nm.take k:=by
 have ln:k<=n.length:=by
  have:=congrArg List.length e;rw[Q0o hk,Z1]at this;omega
 unfold topN topL;rw[Q2t (k:=k) _ (by rw[e,kd_at hk (Zo _)];rfl) _ (by omega) fun j h1 h2=>by rw[Q1n hk,Z1,Zc fun z=>absurd z.1 (by omega)];rfl]
 exact e
theorem Qbx(hk:k<=q.nm.length)(e:∀ j,q.nm.take (j+1)≠[w]):topN (kdT q k) [w]=[]:=by
 unfold topN topL;rw[Q2t (k:=0) _ (by rw[take_zero,Q1n hk,Ze ⟨ZB _,rfl⟩];rfl) _ (by simp) fun j h1 h2=>by
  have h3:j<2:=h2;have:j=1:=by omega
  subst this;rw[Q1n hk,Zc fun z=>e 0 z.2.symm];rfl]
 rfl
theorem Q4E(h:Ok q)(hk:k<=q.nm.length)(j:Nat)(er:repT (zones q) (dr 0) [] [digs j] za1=r)(hr:∀ c h ds l,r≠.down c h ds l):rsf (zones q) (kdT q k) [digs j] za1=(kdT q k,r):=by
 unfold rsf;rw[Qbx hk (fun i=>h.tk i j)];have e2:zb2 (kdT q k) []=dr 0:=by
  unfold zb2;rw[Q1n hk,Ze ⟨ZB _,rfl⟩];rfl
 rw[e2,Q0M (by rw[er];rintro c d ⟨h,ds,l,z⟩;exact hr _ _ _ _ z),er]
theorem Q7R(hk:k<=q.nm.length)(e:n.take k=q.nm.take k)(kk:W):rsf (zones q) (kdT q k) n kk=rsA (zones q) n kk n.length (kdT q k) (q.nm.take k) (dr k):=by
 unfold rsf zb2;rw[Qd2 hk e,kd_at hk (Zo _)];rfl
noncomputable def bodyL(zs:List Zn)(n:List W)(kk:W)(f:Nat)(kl:Kl)(x:Kd×Rp):Option (Kd×Kl×Rp):=match x.2 with
 | .down c h _ _=>(zas zs f x.1 kl c h).bind fun y=>if (val y.1 c).isSome=true then zaf zs n kk f y.1 y.2 else some (y.1,y.2,x.2)
 | r=>some (x.1,kl,r)
theorem Q1t(zs:List Zn)(n:List W)(kk:W)(f:Nat)(kd:Kd)(kl:Kl):zaf zs n kk (f+1) kd kl=bodyL zs n kk f kl (rsf zs kd n kk):=rfl
theorem Q4h(hr:∀ c h ds l,r≠.down c h ds l):bodyL zs n kk f kl (kd,r)=some (kd,kl,r):=by
 unfold bodyL;cases r with
 | down c h ds l=>exact absurd rfl (hr c h ds l)
 | _=>rfl
noncomputable def dep(q:Q):Nat:=if q.bad<q.nm.length then q.bad else if 20<=q.bad/\q.bad<20+q.nm.length then q.bad-20 else q.nm.length
theorem dep_le(h:Ok q):dep q<=q.nm.length:=by
 unfold dep;split
 ·omega
 ·split <;> omega
theorem Q5A(h:Ok q)(hk:k<dep q):k<q.nm.length/\q.bad≠k/\q.bad≠k+20:=by
 have:=h.l;unfold dep at hk;split at hk
 ·omega
 ·split at hk <;> omega
theorem Q9W(h:Ok q):q.bad=dep q\/(q.bad=dep q+20/\dep q<q.nm.length)\/(dep q=q.nm.length/\q.bad≠q.nm.length/\¬ (20<=q.bad/\q.bad<20+q.nm.length)/\¬ q.bad<=q.nm.length):=by
 have:=h.l;unfold dep;split
 ·omega
 ·split <;> omega
noncomputable def FR(q:Q)(k:Nat)(kl:Kl):Prop:=∀ j,k<=j->j<q.nm.length->val kl (hs q j)=none\/(q.bad=j+20/\val kl (hs q j)=some none)
theorem FR.le(f:FR q k kl)(h:k<=m):FR q m kl:=fun j h1 h2=>f j (Z4 h h1) h2
theorem Q9A{q:Q}(h:Ok q){k f:Nat}(hk:k<q.nm.length)(hb:q.bad=k+20){kl:Kl}(fr:FR q k kl):∃ kl',FR q k kl'/\zas (zones q) (f+3) (kdT q k) kl (q.nm.take (k+1)) (hs q k)=some (kdT q k,kl'):=by
 have ne:=h.l;have fin:∀ {g:Nat} {kl2:Kl} {s:Ch},zb1 (zones q) (g+1) false (kdT q k) kl2 s=some (kdT q k,kl2):=rfl;rcases fr k (Zo _) hk with e | ⟨_,e⟩
 ·refine⟨put kl (hs q k) none,fun j h1 h2=>?_,?_⟩
  ·rw[Q1R];by_cases z:hs q j=hs q k
   ·have:=Q5u h2 hk z;rw[Ze z,this];exact .inr ⟨hb,rfl⟩
   ·rw[Zc z];exact fr j h1 h2
  ·have e1:zab (kdT q k) kl [] (some (q.nm.take (k+1))) (hs q k)=some (true,kdT q k,put kl (hs q k) none,[(some (q.nm.take (k+1)),hs q k)]):=by
    unfold zab;rw[e]
   have e2:zaa (zones q) (kdT q k) (put kl (hs q k) none) [(some (q.nm.take (k+1)),hs q k)]=some (false,kdT q k,put kl (hs q k) none,[(some (q.nm.take (k+1)),hs q k)])\/∃ s,zaa (zones q) (kdT q k) (put kl (hs q k) none) [(some (q.nm.take (k+1)),hs q k)]=some (false,kdT q k,put kl (hs q k) none,s):=by
    by_cases fa:q.far k=true
    ·left;have rf:=Q4E h (le_of_lt hk) k (Q5y h hk fa hb) (fun _ _ _ _ z=>nomatch z)
     rw[Q1m fa];unfold zaa;simp only[rf]
    ·right;have et:(hs q k).take (k+1)=q.nm.take (k+1):=by rw[Q1g fa,take_left' (Q0o hk)]
     have rd:=Q1V h hk (by omega) et za1
     rw[Zc fun z=>z.2 hb]at rd;have rf:rsf (zones q) (kdT q k) (hs q k) za1=(kdT q k,.down (q.nm.take (k+1)) (hs q k) [] q.life):=by
      rw[Q7R (le_of_lt hk) (Q0s et (by omega)),Q0M (by rw[rd];rintro c d ⟨h,ds,l,z⟩;injection z with _ _ z;cases z),rd]
     refine⟨[(some (q.nm.take (k+1)),hs q k),(some (q.nm.take (k+1)),hs q k)],?_⟩;unfold zaa;simp only[rf];unfold zab;rw[Q1R,Ze rfl]
   unfold zas;rw[e1];show zb1 (zones q) (f+2+1) true (kdT q k) (put kl (hs q k) none) [(some (q.nm.take (k+1)),hs q k)]=_;show (zaa (zones q) (kdT q k) (put kl (hs q k) none) [(some (q.nm.take (k+1)),hs q k)]).bind _=_;rcases e2 with e2 | ⟨s,e2⟩ <;> (rw[e2];rfl)
 ·refine⟨kl,fr,?_⟩;have e1:zab (kdT q k) kl [] (some (q.nm.take (k+1))) (hs q k)=some (false,kdT q k,kl,[(some (q.nm.take (k+1)),hs q k)]):=by
   unfold zab;rw[e]
  unfold zas;rw[e1];rfl
theorem Q7S(h:Ok q)(hk:k<dep q)(fa:q.far k=true)(fr:FR q k kl):∃ kl',FR q (k+1) kl'/\zas (zones q) (f+2) (kdT q k) kl (q.nm.take (k+1)) (hs q k)=some (kdT q (k+1),kl'):=by
 obtain⟨kl1,kb,kb2⟩:=Q5A h hk;have b0:q.bad≠0:=fun z=>by
  have h0:=(Q5A h (ZC (ZB k) hk)).2.1;exact h0 z
 refine⟨put (put kl (hs q k) none) (hs q k) (some (dr (k+1))),fun j h1 h2=>?_,?_⟩
 ·rw[Q1R,Zc (fun z=>absurd (Q5u h2 kl1 z) (by omega)),Q1R,Zc (fun z=>absurd (Q5u h2 kl1 z) (by omega))]
  exact fr j (by omega) h2
 ·have e:val kl (hs q k)=none:=(fr k (Zo _) kl1).elim id fun z=>absurd z.1 kb2;have e1:zab (kdT q k) kl [] (some (q.nm.take (k+1))) (hs q k)=some (true,kdT q k,put kl (hs q k) none,[(some (q.nm.take (k+1)),hs q k)]):=by
   unfold zab;rw[e]
  have e2:zaa (zones q) (kdT q k) (put kl (hs q k) none) [(some (q.nm.take (k+1)),hs q k)]=some (true,kdT q (k+1),put (put kl (hs q k) none) (hs q k) (some (dr (k+1))),[]):=by
   have rf:=Q4E h (le_of_lt kl1) k (Qbv h (k:=k) kl1 b0 fa kb2) (fun _ _ _ _ z=>nomatch z)
   have rf2:rsf (zones q) (kdT q k) (hs q k) za1=(kdT q k,.rows [dr (k+1)] q.life):=by rw[Q1m fa];exact rf
   unfold zaa;simp only[rf2];show some (true,put (kdT q k) (q.nm.take (k+1)) (dr (k+1)),_)=_;rw[Q9V kl1]
  unfold zas;rw[e1];show (zaa (zones q) (kdT q k) (put kl (hs q k) none) [(some (q.nm.take (k+1)),hs q k)]).bind _=_;rw[e2];rfl
noncomputable def Fin(q:Q)(m:Nat)(n:List W)(kk:W):Prop:=(∀ c h ds l,repT (zones q) (dr (min m (dep q))) (q.nm.take (min m (dep q))) n kk≠.down c h ds l)\/(q.bad=dep q+20/\dep q<m)
theorem walk{q:Q}(h:Ok q){m:Nat}(hm:m<=q.nm.length){n:List W}(hn:n.take m=q.nm.take m){kk:W}(fin:Fin q m n kk):∀ (i k:Nat),k+i=min m (dep q)->∀ (f g:Nat) (kl:Kl),FR q k kl->n.length<=g+k->3+i<=f->∃ kl',FR q (min m (dep q)) kl' /\
  bodyL (zones q) n kk f kl (rsA (zones q) n kk g (kdT q k) (q.nm.take k) (dr k))=some (kdT q (min m (dep q)),kl',repT (zones q) (dr (min m (dep q))) (q.nm.take (min m (dep q))) n kk)
 | 0,k,ek,f,g,kl,fr,hg,hf=>by
  have e0:min m (dep q)=k:=by omega
  have dl:=dep_le h;unfold Fin at fin;rw[e0]at fin ⊢;rcases fin with nd | ⟨hb,hd⟩
  ·rw[Q0M (by rintro c d ⟨h,ds,l,z⟩;exact nd _ _ _ _ z),Q4h nd]
   exact⟨kl,fr,rfl⟩
  ·have ed:dep q=k:=by omega
   rw[ed]at hb hd;have rd:=Q1V h (k:=k) (by omega) (by omega) (Q0s hn (show k+1<=m by omega)) kk
   rw[Zc fun z=>z.2 hb]at rd;rw[Q0M (by rw[rd];rintro c d ⟨h,ds,l,z⟩;injection z with _ _ z;cases z),rd]
   obtain⟨f',rfl⟩:∃ f',f=f'+3:=⟨f-3,by omega⟩
   obtain⟨kl',fr',e⟩:=Q9A h (f:=f') (show k<q.nm.length by omega) hb fr
   refine⟨kl',fr',?_⟩;show (zas (zones q) (f'+3) (kdT q k) kl (q.nm.take (k+1)) (hs q k)).bind _=_;rw[e];show (if (val (kdT q k) (q.nm.take (k+1))).isSome=true then _ else _)=_
   rw[Q4D (by omega),Zc (by decide)]
 | i+1,k,ek,f,g,kl,fr,hg,hf=>by
  have dl:=dep_le h;have kd1:k<dep q:=by omega
  obtain⟨k1,kb,kb2⟩:=Q5A h kd1;have ln:m<=n.length:=by
   have:=congrArg List.length hn;rw[Q0o hm,Z1]at this;omega
  have rd:=Q1V h k1 kb (Q0s hn (show k+1<=m by omega)) kk
  by_cases fa:q.far k=true
  ·rw[Zc fun z=>z.1 fa]at rd;rw[Q0M (by rw[rd];rintro c d ⟨h,ds,l,z⟩;injection z with _ _ z;cases z),rd]
   obtain⟨f',rfl⟩:∃ f',f=f'+2:=⟨f-2,by omega⟩
   obtain⟨kl',fr',e⟩:=Q7S h (f:=f') kd1 fa fr;obtain⟨kl2,fr2,e2⟩:=walk h hm hn fin i (k+1) (by omega) (f'+1) n.length kl' fr' (by omega) (by omega)
   refine⟨kl2,fr2,?_⟩;show (zas (zones q) (f'+2) (kdT q k) kl (q.nm.take (k+1)) (hs q k)).bind _=_;rw[e];show (if (val (kdT q (k+1)) (q.nm.take (k+1))).isSome=true then zaf (zones q) n kk (f'+2) (kdT q (k+1)) kl' else _)=_
   rw[kd_at k1 (Zo _),Ze (by rfl),Q1t,Q7R k1 (Q0s hn (by omega))]
   exact e2
  ·rw[Ze ⟨fa,kb2⟩]at rd;obtain⟨g',rfl⟩:∃ g',g=g'+1:=⟨g-1,by omega⟩
   rw[Q1T ⟨_,_,_,rd⟩,Q9V k1];exact walk h hm hn fin i (k+1) (by omega) f g' kl (fr.le (Yq _)) (by omega) (by omega)
theorem Q0F{q:Q}(h:Ok q){m:Nat}(hm:m<=q.nm.length){n:List W}(hn:n.take m=q.nm.take m){kk:W}(fin:Fin q m n kk){k:Nat}(hk:k<=min m (dep q)){kl:Kl}(fr:FR q k kl):∃ kl',FR q (min m (dep q)) kl'/\zaf (zones q) n kk 14 (kdT q k) kl=some (kdT q (min m (dep q)),kl',repT (zones q) (dr (min m (dep q))) (q.nm.take (min m (dep q))) n kk):=by
 have dl:=dep_le h;have l8:=h.l;obtain⟨kl',fr',e⟩:=walk h hm hn fin (min m (dep q)-k) k (by omega) 13 n.length kl fr (by omega) (by omega)
 refine⟨kl',fr',?_⟩;rw[Q1t,Q7R (by omega) (Q0s hn (by omega))]
 exact e
theorem one_of{α:Type}{L:List α}{a:α}(nd:L.Nodup)(h:∀ m,m∈L <-> m=a):L=[a]:=by
 cases L with
 | nil=>exact absurd ((h a).mpr rfl) (by simp)
 | cons x r =>
  have ex:=(h x).mp Zl;subst ex;cases r with
  | nil=>rfl
  | cons y r =>
   have ey:=(h y).mp (by simp)
   subst ey;exact absurd Zl (nodup_cons.mp nd).1
theorem Q7T{α:Type}{L:List α}(h:∀ m,¬ m∈L):L=[]:=List.eq_nil_iff_forall_not_mem.mpr h
theorem at_zn(hk:k<=q.nm.length):atT (ofD (zones q) (dr k)) (q.nm.take k)=if q.bad=k then none else some (zn q k):=by
 rw[of_dr];by_cases hb:q.bad=k
 ·rw[Zc fun z=>z.2 hb,Ze hb];rfl
 ·rw[Ze ⟨hk,hb⟩,Zc hb];unfold atT;rw[find?_cons_of_pos (by exact Zm rfl)]
theorem Qd3(hk:k<=q.nm.length)(m:List W):cutN (zn q k).t (zn q k).r m=some m <-> k<q.nm.length/\m=q.nm.take (k+1):=by
 show cutN (q.nm.take k) (rowsF q k) m=some m <-> _;by_cases c:k<q.nm.length/\m.take (k+1)=q.nm.take (k+1)
 ·rw[Q5w c.1 c.2];exact⟨fun z=>by injection z with z;exact⟨c.1,z.symm⟩,fun z=>by rw[z.2]⟩
 ·rw[Q1U hk c];refine⟨fun z=>(nomatch z),fun z=>absurd ⟨z.1,?_⟩ c⟩
  rw[z.2,take_take,min_self]
theorem Q9B(hk:k<q.nm.length)(hd:k<dep q):Fin q (k+1) (q.nm.take (k+1)) za1:=by
 refine .inl fun c hh ds l z=>?_;have e:min (k+1) (dep q)=k+1:=by omega
 rw[e]at z;obtain⟨h1,h2⟩:=Q5o z;have:=congrArg List.length h2;rw[Z1]at this;omega
theorem chg{q:Q}(h:Ok q):∀ (i k:Nat),k+i=dep q->∀ kl,FR q k kl->ChG (zones q) 14 1 (fun kd=>kd=kdT q (dep q)) (i+2) (kdT q k) kl [q.nm.take k]
 | i,k,ek,kl,fr=>by
  have dl:=dep_le h;have hk:k<=q.nm.length:=by omega
  refine⟨dr k,kd_at hk (Zo _),fun L nd hL=>?_⟩;rw[at_zn hk]at hL;have hd0:(val (kdT q (dep q)) []).isSome=true:=by rw[Q1n dl,Ze ⟨ZB _,rfl⟩];rfl
  have last:k=dep q->i=0->L=[]->L.length<=1/\∃ y,hasL (zones q) 14 L (kdT q k) kl=some y/\(val y.1 []).isSome=true/\ChG (zones q) 14 1 (fun kd=>kd=kdT q (dep q)) (i+1) y.1 y.2.1 (y.2.2.reverse++[]):=fun e1 e2 e3=>by
   subst e2;rw[e3,e1];exact⟨ZB _,_,rfl,hd0,rfl⟩
  by_cases hb:q.bad=k
  ·have e0:k=dep q:=by
    by_cases c:k<dep q
    ·exact absurd hb (Q5A h c).2.1
    ·omega
   refine last e0 (by omega) (Q7T fun m z=>?_)
   rw[Ze hb]at hL;obtain⟨z,h1,_⟩:=(hL m).mp z;cases h1
  ·rw[Zc hb]at hL;have hL2:∀ m,m∈L <-> k<q.nm.length/\m=q.nm.take (k+1):=fun m=>by
    rw[hL m,<- Qd3 hk];exact⟨fun⟨z,h1,h2⟩=>by injection h1 with h1;rw[h1];exact h2,fun z=>⟨_,rfl,z⟩⟩
   by_cases kn:k<q.nm.length
   ·have eL:L=[q.nm.take (k+1)]:=one_of nd fun m=>by rw[hL2 m];exact⟨fun z=>z.2,fun z=>⟨kn,z⟩⟩
    rw[eL];refine⟨Zo _,?_⟩;by_cases kd1:k<dep q
    ·obtain⟨kl',fr',e⟩:=Q0F h (m:=k+1) kn (n:=q.nm.take (k+1)) (by rw[take_take,min_self]) (Q9B kn kd1) (k:=k) (by omega) fr
     have em:min (k+1) (dep q)=k+1:=by omega
     rw[em]at e fr';obtain⟨i,rfl⟩:∃ j,i=j+1:=⟨i-1,by omega⟩
     refine⟨(kdT q (k+1),kl',[q.nm.take (k+1)]),?_,by rw[Q1n kn,Ze ⟨ZB _,rfl⟩];rfl,?_⟩
     ·unfold hasL;rw[e];show some (kdT q (k+1),kl',if (val (kdT q (k+1)) (q.nm.take (k+1))).isSome=true then [q.nm.take (k+1)] else [])=_
      rw[kd_at kn (Zo _),Ze (by rfl)]
     ·exact chg h i (k+1) (by omega) kl' fr'
    ·have e0:k=dep q:=by omega
     have hb2:q.bad=dep q+20:=by
      rcases Q9W h with z | ⟨z,_⟩ | ⟨z,_⟩
      ·exact absurd (z.trans e0.symm) hb
      ·exact z
      ·omega
     obtain⟨kl',fr',e⟩:=Q0F h (m:=k+1) kn (n:=q.nm.take (k+1)) (kk:=za1) (by rw[take_take,min_self]) (.inr ⟨hb2,by omega⟩) (k:=k) (by omega) fr
     have em:min (k+1) (dep q)=k:=by omega
     rw[em]at e fr';refine⟨(kdT q k,kl',[]),?_,by rw[Q1n hk,Ze ⟨ZB _,rfl⟩];rfl,?_⟩
     ·unfold hasL;rw[e];show some (kdT q k,kl',if (val (kdT q k) (q.nm.take (k+1))).isSome=true then [q.nm.take (k+1)] else [])=_
      rw[Q4D kn,Zc (by decide)]
     ·show kdT q k=kdT q (dep q);rw[e0]
   ·refine last (by omega) (by omega) (Q7T fun m z=>kn ((hL2 m).mp z).1)
noncomputable def w0(q:Q):Wt:=(zaD,nxN q 0,zai)
noncomputable def wsT(q:Q)(i:Nat):List Wt:=w0 q::(List.range i).map fun j=>(za9,nxN q (j+1),zai)
noncomputable def dueT(q:Q):W×List W×List Wt :=
 if q.bad<=q.nm.length then (kLost,[],[w0 q])
 else if 20<=q.bad/\q.bad<20+q.nm.length then
  if q.far (q.bad-20)=true then (kLost,[],[w0 q,(za1,hs q (q.bad-20),za1)])
  else (kRing,[],[w0 q,(za1,hs q (q.bad-20),za1),(za1,hs q (q.bad-20),za1)])
 else (zaR,[zbE],wsT q q.many)
theorem Q9C(q:Q)(i:Nat):za1∉(wsT q i).map (·.1):=fun z=>by
 obtain⟨x,hx,e⟩:=ZI.mp z;rcases Z3.mp hx with rfl | hx
 ·exact absurd e (by show ¬ zaD=za1;decide)
 ·obtain⟨j,_,rfl⟩:=ZI.mp hx;exact absurd e (by show ¬ za9=za1;decide)
theorem Qd4(q:Q)(i:Nat):((nxN q (i+1),zai):List W×W)∉(wsT q i).map (·.2):=fun z=>by
 obtain⟨x,hx,e⟩:=ZI.mp z;rcases Z3.mp hx with rfl | hx
 ·have:=Q5z (q:=q) (show nxN q 0=nxN q (i+1) from congrArg Prod.fst e);omega
 ·obtain⟨j,hj,rfl⟩:=ZI.mp hx;have:=Q5z (q:=q) (show nxN q (j+1)=nxN q (i+1) from congrArg Prod.fst e);have:=ZZ.mp hj;omega
theorem Qby(q:Q)(i:Nat):wsT q i++[(za9,nxN q (i+1),zai)]=wsT q (i+1):=by
 unfold wsT;rw[range_succ,Z7];rfl
theorem Q3l(q:Q)(i:Nat):(nxN q i).take q.nm.length=q.nm.take q.nm.length:=by
 unfold nxN;rw[take_left' rfl,Yc]
theorem Q2J(h:Ok q)(hd:dep q=q.nm.length)(hb:q.bad≠q.nm.length):∀ (r i:Nat),i+r=q.many->∀ (x k:Nat) (kl:Kl),k<=q.nm.length->FR q k kl->zal (zones q) 14 (x+r+1) (kdT q k) kl (nxN q i) zai (wsT q i)=some (zaR,[zbE],wsT q q.many)
 | r,i,ei,x,k,kl,hk,fr=>by
  have rt:=Q9z (q:=q) (i:=i) hb (by omega)
  have em:min q.nm.length (dep q)=q.nm.length:=by omega
  obtain⟨kl',fr',e⟩:=Q0F h (m:=q.nm.length) (Zo _) (n:=nxN q i) (kk:=zai) (Q3l q i) (by
   refine .inl fun c hh ds l z=>?_;rw[em,rt]at z;split at z <;> cases z) (k:=k) (by omega) fr
  rw[em]at e fr';rw[rt]at e;unfold zal;rw[e];by_cases c:i<q.many
  ·obtain⟨r,rfl⟩:∃ j,r=j+1:=⟨r-1,by omega⟩
   rw[Ze c];show (if ((nxN q (i+1),zai):List W×W)∈(wsT q i).map (·.2) then _ else zal (zones q) 14 (x+r+1) (kdT q q.nm.length) kl' (nxN q (i+1)) zai (wsT q i++[(za9,nxN q (i+1),zai)]))=_
   rw[Zc (Qd4 q i),Qby];exact Q2J h hd hb r (i+1) (by omega) x _ kl' (Zo _) fr'
  ·have:i=q.many:=by omega
   subst this;rw[Zc c];show some (endP (.rows [zbE] q.life) (wsT q q.many))=_;unfold endP endW;rw[Zc (by rintro (z | z);exact absurd z (by show ¬ zaR=zbe;decide);exact Q9C _ _ z)]
   rfl
theorem truth_is{q:Q}(h:Ok q):zal (zones q) 14 23 [([],dr 0)] [] (nxN q 0) zai [w0 q]=some (dueT q):=by
 have dl:=dep_le h;have l8:=h.l;have m20:=h.m;have fr0:FR q 0 []:=fun j _ _=>.inl rfl;show zal (zones q) 14 23 (kdT q 0) [] (nxN q 0) zai [w0 q]=some (dueT q);unfold dueT;rcases Q9W h with hb | ⟨hb,hd⟩ | ⟨hd,hb,hc,hc2⟩
 ·rw[Ze (by omega)]
  have em:min q.nm.length (dep q)=dep q:=by omega
  have ra:∀ t n kk,repT (zones q) (dr (dep q)) t n kk=.away:=Q9x hb;obtain⟨kl',fr',e⟩:=Q0F h (m:=q.nm.length) (Zo _) (n:=nxN q 0) (kk:=zai) (Q3l q 0) (by
   refine .inl fun c hh ds l z=>?_;rw[em,ra]at z;cases z) (k:=0) (by omega) fr0
  rw[em,ra]at e;unfold zal;rw[e];rfl
 ·rw[Zc (by omega),Ze (by omega)]
  have ek:q.bad-20=dep q:=by omega
  rw[ek];have em:min q.nm.length (dep q)=dep q:=by omega
  obtain⟨kl',fr',e⟩:=Q0F h (m:=q.nm.length) (Zo _) (n:=nxN q 0) (kk:=zai) (Q3l q 0) (.inr ⟨hb,hd⟩) (k:=0) (by omega) fr0
  have rd:=fun(n:List W) (en:n.take (dep q+1)=q.nm.take (dep q+1)) kk=>Q1V h hd (by omega) en kk
  rw[em]at e fr';rw[rd _ (Q0s (Q3l q 0) (by omega)),Zc fun z=>z.2 hb]at e
  unfold zal;rw[e];show (if ((hs q (dep q),za1):List W×W)∈[w0 q].map (·.2) then _ else zal (zones q) 14 22 (kdT q (dep q)) kl' (hs q (dep q)) za1 ([w0 q]++[(za1,hs q (dep q),za1)]))=_
  rw[Zc (by
   intro z;have:=congrArg Prod.snd (Zz.mp z);exact absurd this (by show ¬ za1=zai;decide))]
  by_cases fa:q.far (dep q)=true
  ·rw[Ze fa];have rf:=Q4E h dl (dep q) (Q5y h hd fa hb) (fun _ _ _ _ z=>nomatch z)
   have e2:zaf (zones q) (hs q (dep q)) za1 14 (kdT q (dep q)) kl'=some (kdT q (dep q),kl',.non q.life):=by
    rw[Q1m fa,Q1t,rf];exact Q4h fun _ _ _ _ z=>nomatch z
   unfold zal;rw[e2];show some (endP (.non q.life) ([w0 q]++[(za1,hs q (dep q),za1)]))=_;unfold endP endW;rw[Ze (.inr (by simp)),Zc (by decide)]
   rfl
  ·rw[Zc fa];have et:(hs q (dep q)).take (dep q+1)=q.nm.take (dep q+1):=by rw[Q1g fa,take_left' (Q0o hd)]
   have em2:min (dep q+1) (dep q)=dep q:=by omega
   obtain⟨kl2,fr2,e2⟩:=Q0F h (m:=dep q+1) hd (n:=hs q (dep q)) (kk:=za1) et (.inr ⟨hb,by omega⟩) (k:=dep q) (by omega) fr'
   rw[em2,rd _ et,Zc fun z=>z.2 hb]at e2;unfold zal;rw[e2];show (if ((hs q (dep q),za1):List W×W)∈([w0 q]++[(za1,hs q (dep q),za1)]).map (·.2) then _ else _)=_
   rw[Ze (by simp)]
   rfl
 ·rw[Zc hc2,Zc hc];have:=Q2J h hd hb q.many 0 (by omega) (22-q.many) 0 [] (ZB _) fr0
  rw[show 22-q.many+q.many+1=23 from by omega]at this
  exact this
end Dz
noncomputable def b_ap:CS :=
  (.seq (.set 1 (.con (.str [97,98,99,100,101,102,103,104,105,106,107,108,109,110,111,112,113,114,115,116,117,118,119,120,121,122,45])))
  (.seq (.set 2 (.con (.str [])))
  (.seq (.for1 3 (.rng1 (.bin .add (.con (.int 1)) (.bin .mod (.var 0) (.con (.int 12)))))
  (.seq (.set 4 (.bin .mod (.bin .mul (.bin .mul (.bin .add (.bin .mod (.bin .fdiv (.var 0) (.con (.int 12))) (.con (.int 99991))) (.con (.int 7))) (.bin .add (.var 3) (.con (.int 3)))) (.con (.int 48271))) (.con (.int 65537))))
  (.seq (.set 2 (.bin .add (.var 2) (.ix (.var 1) (.bin .mod (.var 4) (.con (.int 27))))))
  .nil)))
  (.seq (.ret (.var 2))
  .nil))))
noncomputable def b_a7:CS :=
  (.seq (.ite (.ix (.var 1) (.var 2))
  (.seq (.ret (.tup (.cons (.blt .str (.cons (.var 2) .nil)) .nil)))
  .nil)
  .nil)
  (.seq (.ret (.bin .add (.sl (.var 0) .nil (.bin .add (.var 2) (.con (.int 1)))) (.tup (.cons (.con (.str [48,48])) .nil))))
  .nil))
noncomputable def b_ak:CS :=
  (.seq (.set 5 (.compz false [] (.rng1 (.bin .add (.blt .len (.cons (.var 0) .nil)) (.con (.int 1)))) .nil (.lst .nil)))
  (.seq (.for1 6 (.rng1 (.blt .len (.cons (.var 0) .nil)))
  (.seq (.set 7 (.call 102 (.cons (.var 0) (.cons (.var 1) (.cons (.var 6) .nil)))))
  (.seq (.ex (.ml .append (.ix (.var 5) (.var 6)) (.cons (.tup (.cons (.sl (.var 0) .nil (.bin .add (.var 6) (.con (.int 1)))) (.cons (.var 3) (.cons (.con (.str [100,111,119,110])) (.cons (.var 7) .nil))))) .nil)))
  (.seq (.ite (.cmp .ne (.var 4) (.bin .add (.var 6) (.con (.int 20))))
  (.seq (.ex (.ml .append (.ix (.var 5) (.ix (.lstz (.cons (.var 6) (.cons (.con (.int 0)) .nil))) (.blt .int (.cons (.ix (.var 1) (.var 6)) .nil)))) (.cons (.tup (.cons (.var 7) (.cons (.var 3) (.cons (.con (.str [100,111,111,114])) (.cons (.bin .add (.con (.str [100,111,111,114])) (.blt .str (.cons (.bin .add (.var 6) (.con (.int 1))) .nil))) .nil))))) .nil)))
  .nil)
  .nil)
  .nil))))
  (.seq (.for1 6 (.rng1 (.var 2))
  (.seq (.ex (.ml .append (.ix (.var 5) (.neg (.con (.int 1)))) (.cons (.tup (.cons (.bin .add (.var 0) (.tup (.cons (.blt .str (.cons (.var 6) .nil)) .nil))) (.cons (.var 3) (.cons (.con (.str [101,108,115,101])) (.cons (.bin .add (.var 0) (.tup (.cons (.blt .str (.cons (.bin .add (.var 6) (.con (.int 1))) .nil)) .nil))) .nil))))) .nil)))
  .nil))
  (.seq (.ex (.ml .append (.ix (.var 5) (.neg (.con (.int 1)))) (.cons (.tup (.cons (.bin .add (.var 0) (.tup (.cons (.blt .str (.cons (.var 2) .nil)) .nil))) (.cons (.var 3) (.cons (.con (.str [109,97,114,107])) (.cons (.con (.str [104,101,114,101])) .nil))))) .nil)))
  (.seq (.set 8 .knew)
  (.seq (.for1 6 (.rng1 (.bin .add (.blt .len (.cons (.var 0) .nil)) (.con (.int 1))))
  (.seq (.ite (.cmp .ne (.var 4) (.var 6))
  (.seq (.kput (.var 8) (.bin .add (.con (.str [100,111,111,114])) (.blt .str (.cons (.var 6) .nil))) (.lst (.cons (.tup (.cons (.sl (.var 0) .nil (.var 6)) (.cons (.var 3) (.cons (.frz (.ix (.var 5) (.var 6))) .nil)))) .nil)))
  .nil)
  .nil)
  .nil))
  (.seq (.ret (.var 8))
  .nil)))))))
noncomputable def b_am:CS :=
  (.seq (.set 4 (.tup (.cons (.con (.str [97,115,107,101,100])) (.cons (.bin .add (.var 0) (.tup (.cons (.con (.str [48])) .nil))) (.cons (.con (.str [109,97,114,107])) .nil)))))
  (.seq (.ite (.cmp .le (.var 3) (.blt .len (.cons (.var 0) .nil)))
  (.seq (.ret (.tup (.cons (.con (.str [108,111,115,116])) (.cons (.lstz .nil) (.cons (.lstz (.cons (.var 4) .nil)) .nil)))))
  .nil)
  .nil)
  (.seq (.ite (.chain .le .lt (.con (.int 20)) (.var 3) (.bin .add (.con (.int 20)) (.blt .len (.cons (.var 0) .nil))))
  (.seq (.set 5 (.call 102 (.cons (.var 0) (.cons (.var 1) (.cons (.bin .sub (.var 3) (.con (.int 20))) .nil)))))
  (.seq (.ite (.ix (.var 1) (.bin .sub (.var 3) (.con (.int 20))))
  (.seq (.ret (.tup (.cons (.con (.str [108,111,115,116])) (.cons (.lstz .nil) (.cons (.lstz (.cons (.var 4) (.cons (.tup (.cons (.con (.str [100,111,111,114])) (.cons (.var 5) (.cons (.con (.str [100,111,111,114])) .nil)))) .nil))) .nil)))))
  .nil)
  .nil)
  (.seq (.ret (.tup (.cons (.con (.str [114,105,110,103])) (.cons (.lstz .nil) (.cons (.lstz (.cons (.var 4) (.cons (.tup (.cons (.con (.str [100,111,111,114])) (.cons (.var 5) (.cons (.con (.str [100,111,111,114])) .nil)))) (.cons (.tup (.cons (.con (.str [100,111,111,114])) (.cons (.var 5) (.cons (.con (.str [100,111,111,114])) .nil)))) .nil)))) .nil)))))
  .nil)))
  .nil)
  (.seq (.ret (.tup (.cons (.con (.str [114,111,119,115])) (.cons (.lstz (.cons (.con (.str [104,101,114,101])) .nil)) (.cons (.frz (.bin .addL (.lstz (.cons (.var 4) .nil)) (.compz false [0] (.rng1 (.var 2)) .nil (.tup (.cons (.con (.str [101,108,115,101])) (.cons (.bin .add (.var 1) (.tup (.cons (.blt .str (.cons (.bin .add (.var 0) (.con (.int 1))) .nil)) .nil))) (.cons (.con (.str [109,97,114,107])) .nil))))))) .nil)))))
  .nil))))
noncomputable def b_af:CS :=
  (.seq (.ite (.cmp .lt (.var 1) (.blt .len (.cons (.var 0) .nil)))
  (.seq (.ret (.var 1))
  .nil)
  .nil)
  (.seq (.ite (.chain .le .lt (.con (.int 20)) (.var 1) (.bin .add (.con (.int 20)) (.blt .len (.cons (.var 0) .nil))))
  (.seq (.ret (.bin .sub (.var 1) (.con (.int 20))))
  .nil)
  .nil)
  (.seq (.ret (.blt .len (.cons (.var 0) .nil)))
  .nil)))
theorem Q5B(h:M q=none):ddel (dupd M q o) q=M:=by
 funext b
 unfold ddel dupd;by_cases e:b=q
 ·rw[Ze e,e,h]
 ·rw[Zc e,Zc e]
theorem Q3m{κ:Type}{Cd:DH->Prop}{Q:List D->DH->Prop}(ks:List κ)(g f:κ->D)(hC:Cd M)(hl:ks.length<=1000)
  (hs:∀ (k:κ) (c:D->DH->Prop),k∈ks->c (f k) M->te (some (g k)::fr) M c) (hd:Q (ks.map f) M):zam fr (fun d=>some [d]) zaS te Cd Q (ks.map g) [] M:=by
 refine Q0n (fun i ys M'=>M'=M/\ys=(ks.take i).map f) ⟨rfl,by simp⟩ (fun i ys M' h=>by rw[h.1];exact hC) ?_ ?_
 ·rintro i d ys M' k e ⟨rfl,rfl⟩ hk;rw[Z5,ZA]at e;obtain⟨x,e,rfl⟩:=e;have hi:=(Zk.mp e).1;simp only[zaS,Yw,Zy,map_nil,cons_append,nil_append];refine hs x _ (ZG e) ⟨small1000 (by rw[Zd,Z1];omega),hk _ _ ⟨rfl,?_⟩⟩
  rw[take_add_one,e,Z7];rfl
 ·rintro ys M' ⟨rfl,rfl⟩;rw[Zd,Yc];exact hd
theorem Q7U{f:Nat->D}(h:i<n)(hq:Q (f i) M):rIxD (.lst ((List.range n).map f)) (.int (i:Int)) M Q :=
 Q1l (by omega) (by rw[Zd,ZD];omega) fun d hd=>by
  rw[Zx,Z5,getElem?_range h]at hd;cases hd;exact hq
noncomputable def lets:W:=[97,98,99,100,101,102,103,104,105,106,107,108,109,110,111,112,113,114,115,116,117,118,119,120,121,122,45]
noncomputable def Wl(w:W):Prop:=w≠[]/\(∀ c∈w,c=45\/(97<=c/\c<=122))
theorem Qbz:∀ c∈lets,c=45\/(97<=c/\c<=122):=by decide
noncomputable def sp_ap:DSp:=fun ds M R=>∃ (a:Int),ds=[.int a]/\∀ w,Wl w->R (.str w) M
theorem ok_ap:∀ ds M R,sp_ap ds M R->evS T b_ap (za4 R) (za3 ["a","b","c","d","e"] ds) M:=by
 rintro ds M R ⟨a,rfl,h⟩;simp only[b_ap];refine Q0c fun k1 e1=>?_;walk_at "ev";rw[e1];clear e1;refine Q0c fun k1 e1=>?_;walk_at "ev";rw[e1];clear e1;refine Q0c fun k1 e1=>?_;walk_at "ev";refine⟨by decide,by omega,by omega,?_⟩
 refine Q1Q (fun i ρ M'=>∃ (w:W) (v3 v4:Option D),M'=M/\w.length=i/\(∀ c∈w,c=45\/(97<=c/\c<=122))/\ρ=[some (.int a),some (.str lets),some (.str w),v3,v4]) ⟨[],_,_,rfl,rfl,(fun _ z=>nomatch z),rfl⟩ (fun _ _ _ _=>trivial) ?_ ?_
 ·clear e1;rintro i ρ M' k hi ⟨w,v3,v4,rfl,hw,hc,rfl⟩ hk;refine Q2k fun k2 e2=>?_;walk_at "ev";have i12:i<12:=by omega
  have m1:((a / 12 % 99991+7) * (0+(i:Int)+3))<=1000000000000 /\ -1000000000000<=((a / 12 % 99991+7) * (0+(i:Int)+3)):=by
   have u1:0<=a / 12 % 99991:=by omega
   have u2:a / 12 % 99991<99991:=by omega
   generalize a / 12 % 99991=y at u1 u2;have e1:(y+7) * (0+(i:Int)+3)<=(y+7) * 20:=Int.mul_le_mul_of_nonneg_left (by omega) (by omega)
   have e2:0<=(y+7) * (0+(i:Int)+3):=Int.mul_nonneg (by omega) (by omega)
   omega
  refine⟨⟨by decide,by decide⟩,by decide,mulOk (by omega) (by omega),mulOk m1.2 m1.1,by decide,?_⟩
  generalize (a / 12 % 99991+7) * (0+(i:Int)+3) * 48271 % 65537=z;rw[e2];clear e2;walk_at "ev";refine⟨by decide,ix_str (by omega) (by show _<(27:Int);omega) (by decide) fun x hx=>?_⟩
  walk_at "ev";refine⟨szL (by omega),hk _ _ ⟨w++[x],_,_,rfl,by rw[Zi,hw];rfl,fun c hc2=>?_,rfl⟩⟩
  rcases ZO.mp hc2 with hc2 | hc2
  ·exact hc c hc2
  ·rw[Zz.mp hc2];exact Qbz x (ZG hx)
 ·rintro ρ M' ⟨w,v3,v4,rfl,hw,hc,rfl⟩;rw[e1];clear e1;walk_at "ev";exact Q0f (h w ⟨fun z=>by rw[z]at hw;have:(0:Nat)=_:=hw;omega,hc⟩)
noncomputable abbrev farD(q:Dz.Q):D:=.lst ((List.range q.nm.length).map fun i=>.bl (q.far i))
theorem Q5C(xs:List D)(k:Nat):cut xs none (some ((k:Int)+1))=xs.take (k+1):=by
 have:=Q3V xs (k+1);exact this
noncomputable def sp_a7:DSp:=fun ds M R=>∃ (q:Dz.Q) (k:Nat),ds=[dn q.nm,farD q,.int k]/\q.nm.length<=8/\k<q.nm.length/\R (dn (Dz.hs q k)) M
theorem ok_a7:∀ ds M R,sp_a7 ds M R->evS T b_a7 (za4 R) (za3 ["a","b","c"] ds) M:=by
 rintro ds M R ⟨q,k,rfl,h8,hk,h⟩;simp only[b_a7,dn];unfold Dz.hs dn at h;walk_at "ev";refine Q7U hk ?_;cases f:q.far k with
 | true =>
  rw[Ze f]at h;exact iteT ⟨by omega,Q1K (x:=k) (by omega),szL (by decide),by rw[Zx];exact Q0f h⟩
 | false =>
  rw[Zc (by rw[f];decide),Z7,map_take]at h
  refine iteF ?_;rw[Q5C];exact⟨szL (by decide),szL (by rw[Z1,Zd];omega),Q0f h⟩
noncomputable def sp_af:DSp:=fun ds M R=>∃ (q:Dz.Q),ds=[dn q.nm,.int q.bad]/\R (.int (Dz.dep q:Nat)) M
theorem ok_af:∀ ds M R,sp_af ds M R->evS T b_af (za4 R) (za3 ["a","b"] ds) M:=by
 rintro ds M R ⟨q,rfl,h⟩;simp only[b_af,dn];unfold Dz.dep at h;walk_at "ev";rw[Zd];refine ite2 (fun z=>?_) fun z=>?_
 ·rw[Zg]at z;rw[Ze (by omega)]at h
  exact Q0f h
 ·rw[Zg]at z;rw[Zc (by omega)]at h
  refine ite2 (fun z1=>?_) fun z1=>?_
  ·rw[Zg]at z1;refine ite2 (fun z2=>?_) fun z2=>?_
   ·rw[Zg]at z2;rw[Ze ⟨by omega,by omega⟩,show ((q.bad-20:Nat):Int)=(q.bad:Int)-20 from by omega]at h
    exact Q0f h
   ·rw[Zg]at z2;rw[Zc (by omega)]at h
    exact Q0f h
  ·rw[Zg]at z1;rw[Zc (by omega)]at h
   exact Q0f h
open Tz in
noncomputable def sp_am:DSp:=fun ds M R=>∃ (q:Dz.Q),ds=[dn q.nm,farD q,.int q.many,.int q.bad]/\Dz.Ok q/\R (.tup [.str (Dz.dueT q).1,.lst ((Dz.dueT q).2.1.map .str),.lst ((Dz.dueT q).2.2.map wtD)]) M
open Tz in
theorem ok_am(T:Tab)(h102:T.fn 102=some ⟨"_law_house",3,[],sp_a7⟩):∀ ds M R,sp_am ds M R->evS T b_am (za4 R) (za3 ["a","b","c","d","e","f"] ds) M:=by
 rintro ds M R ⟨q,rfl,ok,h⟩;have l8:=ok.l;have m20:=ok.m;simp only[b_am];refine Q0c fun k1 e1=>?_;unfold dn;walk_at "ev";refine⟨szL (by decide),szL (by rw[Zd];omega),szL (by decide),?_⟩
 have ew:D.tup [.str [97,115,107,101,100],.tup (q.nm.map D.str++[.str [48]]),.str [109,97,114,107]]=wtD (Dz.w0 q):=by
  unfold Dz.w0 wtD Dz.nxN dn;rw[Z7];rfl
 rw[ew];rw[e1];clear e1;unfold Dz.dueT at h;refine Q0c fun k1 e1=>?_;walk_at "ev";rw[Zd];refine ite2 (fun z=>?_) fun z=>?_
 ·rw[Zg]at z;rw[Ze (by omega)]at h
  exact⟨szL (by decide),szL (by decide),szL (by decide),Q0f h⟩
 ·rw[Zg]at z;rw[Zc (by omega)]at h
  rw[e1];clear e1;refine Q0c fun k1 e1=>?_;walk_at "ev";rw[Zd];have last:¬ (20<=q.bad/\q.bad<20+q.nm.length)->k1 [some (.tup (q.nm.map D.str)),some (farD q),some (.int q.many),some (.int q.bad),some (wtD (Dz.w0 q)),none] M:=fun z=>by
   rw[Zc z]at h;rw[e1];clear e1;walk_at "ev";refine⟨szL (by decide),?_⟩
   simp only[dFrz];walk_at "ev";refine⟨szL (by decide),by omega,by omega,?_⟩
   rw[Zx];refine Q3m (List.range q.many) (fun i=>D.int (0+(i:Int))) (fun i=>wtD (za9,Dz.nxN q (i+1),zai)) trivial (by rw[ZD];omega) (fun i c hi hc=>?_) ?_
   ·walk_at "ev";have hi:=ZZ.mp hi;rw[show (0:Int)+(i:Int)+1=((i+1:Nat):Int) from by omega]
    refine⟨by omega,Q1K (by omega),szL (by decide),szL (by rw[Zd];omega),szL (by decide),?_⟩
    rw[Zx];have e:D.tup [.str [101,108,115,101],.tup (q.nm.map D.str++[.str (digs (i+1))]),.str [109,97,114,107]]=wtD (za9,Dz.nxN q (i+1),zai):=by
     unfold wtD Dz.nxN dn;rw[Z7];rfl
    rw[e];exact hc
   refine⟨szL (by rw[Zd,ZD];omega),_,_,rfl,rfl,szL (by rw[Zd,ZD,ZH];omega),fun p hp=>?_⟩
   simp only[Q0a,Q5B hp];refine⟨szL (by decide),Q0f ?_⟩
   have e9:(Dz.wsT q q.many).map wtD=[wtD (Dz.w0 q)]++(List.range q.many).map (fun i=>wtD (za9,Dz.nxN q (i+1),zai)):=by
    unfold Dz.wsT;rw[Zy,map_map];rfl
   rw[<- e9];exact h
  refine ite2 (fun z1=>?_) fun z1=>?_
  ·rw[Zg]at z1;refine ite2 (fun z2=>?_) fun z2=>?_
   ·rw[Zg]at z2;rw[Ze ⟨by omega,by omega⟩]at h
    simp only[h102];walk_at "ev";have eb:(q.bad:Int)-20=((q.bad-20:Nat):Int):=by omega
    rw[eb];refine⟨q,q.bad-20,rfl,l8,by omega,Q7U (by omega) ?_⟩
    cases f:q.far (q.bad-20) with
    | true =>
     rw[Ze f]at h;exact iteT ⟨szL (by decide),szL (by decide),szL (by decide),szL (by decide),Q0f h⟩
    | false =>
     rw[Zc (by rw[f];decide)]at h
     exact iteF ⟨szL (by decide),szL (by decide),szL (by decide),szL (by decide),szL (by decide),Q0f h⟩
   ·rw[Zg]at z2;exact last (by omega)
  ·rw[Zg]at z1;exact last (by omega)
theorem Q3n:∀ m,m<40->(digs m).length<=3:=by decide +kernel
structure RLs(M0 M:DH)(ps:List Addr)(f:Nat->List Rw):Prop where
 sub:Sub M0 M
 nd:ps.Nodup
 r:∀ i p,ps[i]? = some p->M0 p=none/\M p=some (.lst ((f i).map Rw.d))
theorem nd_ix{ps:List Addr}(nd:ps.Nodup){i j:Nat}{p:Addr}(hi:ps[i]? = some p)(hj:ps[j]? = some p):i=j:=by
 obtain⟨li,ei⟩:=Zk.mp hi;obtain⟨lj,ej⟩:=Zk.mp hj;have pw:=List.pairwise_iff_getElem.mp nd;rcases Nat.lt_trichotomy i j with c | c | c
 ·exact absurd (ei.trans ej.symm) (pw i j li lj c)
 ·exact c
 ·exact absurd (ej.trans ei.symm) (pw j i lj li c)
theorem RLs.app{M0 M:DH}{ps:List Addr}{f g:Nat->List Rw}{j:Nat}{p:Addr}{x:Rw}(h:RLs M0 M ps f)(hj:ps[j]? = some p)(hg:∀ i,i<ps.length->g i=if i=j then f i++[x] else f i):RLs M0 (dupd M p (.lst ((f j).map Rw.d++[x.d]))) ps g:=by
 refine⟨h.sub.put (h.r j p hj).1,h.nd,fun i p2 hi=>⟨(h.r i p2 hi).1,?_⟩⟩;have li:=(Zk.mp hi).1;rw[hg i li];by_cases e:i=j
 ·subst e;rw[hi]at hj;injection hj with hj;rw[hj,Q0a,Ze rfl,Z7];rfl
 ·rw[Zc e,Q0b (fun z=>e (nd_ix h.nd hi (by rw[z];exact hj)))]
  exact (h.r i p2 hi).2
theorem Q4F{ps:List Addr}{i:Nat}{p:Addr}{M:DH}{Q:DK}(e:ps[i]? = some p)(h:Q (.ref p) M):rIxD (.lst (ps.map .ref)) (.int (i:Int)) M Q :=
 Q1l (by omega) (by rw[Zd];have:=(Zk.mp e).1;omega) fun d hd=>by
  rw[Zx,Z5,e]at hd;cases hd;exact h
namespace Dz
theorem Q4G:rowsTo q k k=[]:=by
 unfold rowsTo;rw[Zc (lt_irrefl _)];have:(List.range k).filter (fun i=>decide (home q i=k/\q.bad≠i+20))=[]:=by
  rw[filter_eq_nil_iff];intro i hi;have:=ZZ.mp hi;rw[Zg];rintro⟨z,_⟩;unfold home at z;split at z <;> omega
 rw[this];rfl
theorem Q2u:rowsTo q (k+1) i=(if i=k then rowsTo q k i++[dnR q k] else rowsTo q k i)++(if home q k=i/\q.bad≠k+20 then [doR q k] else []):=by
 have e1:((List.range (k+1)).filter fun j=>decide (home q j=i/\q.bad≠j+20)).map (doR q)=((List.range k).filter fun j=>decide (home q j=i/\q.bad≠j+20)).map (doR q)++(if home q k=i/\q.bad≠k+20 then [doR q k] else []):=by
  rw[range_succ,ZY,Z7,ZT];by_cases c:home q k=i/\q.bad≠k+20
  ·rw[Ze (Zm c),Ze c];rfl
  ·rw[Zc (by rw[Zg];exact c),Zc c];rfl
 by_cases e:i=k
 ·subst e;have e0:=Q4G (q:=q) (k:=i);rw[Ze rfl,e0];unfold rowsTo at e0 ⊢;rw[e1,Ze (Yo _)];rw[Zc (lt_irrefl _),nil_append]at e0;rw[e0];rfl
 ·rw[Zc e];unfold rowsTo;rw[e1,<- append_assoc];by_cases c:i<k
  ·rw[Ze c,Ze (by omega)]
  ·rw[Zc c,Zc (by omega)]
theorem rowsTo_good(nb:q.bad≠k+20):rowsTo q (k+1) i=if i=home q k then (if i=k then rowsTo q k i++[dnR q k] else rowsTo q k i)++[doR q k] else (if i=k then rowsTo q k i++[dnR q k] else rowsTo q k i):=by
 rw[Q2u];generalize (if i=k then rowsTo q k i++[dnR q k] else rowsTo q k i)=x
 by_cases c:i=home q k
 ·rw[Ze c,Ze ⟨c.symm,nb⟩]
 ·rw[Zc c,Zc fun z=>c z.1.symm,Yh]
theorem rowsTo_bad(nb:q.bad=k+20):rowsTo q (k+1) i=if i=k then rowsTo q k i++[dnR q k] else rowsTo q k i:=by
 rw[Q2u];generalize (if i=k then rowsTo q k i++[dnR q k] else rowsTo q k i)=x
 rw[Zc fun z=>z.2 nb,Yh]
theorem rowsTo_len(k i:Nat):(rowsTo q k i).length<=1+k:=by
 unfold rowsTo;rw[Zi,Zd];have:=Yn (fun j=>decide (home q j=i/\q.bad≠j+20)) (List.range k);rw[ZD]at this;split <;> simp only[Zj,ZU] <;> omega
theorem Q7V(h:Ok q)(i:Nat):(rowsF q i).length<=30:=by
 have:=rowsTo_len (q:=q) q.nm.length i;have:=h.l;have:=h.m;unfold rowsF;rw[Zi];split
 ·unfold tl;rw[Zi,Zd,ZD];simp only[Zj,ZU];omega
 ·simp only[ZU];omega
end Dz
structure HV(M0 M:DH)(q:Dz.Q)(ps:List Addr)(a:Addr)(k:Nat)(kvs:List (W×D)):Prop where
 sub:Sub M0 M
 nd:ps.Nodup
 r:∀ i p,k<=i->ps[i]? = some p->M0 p=none/\M p=some (.lst ((Dz.rowsF q i).map Rw.d))
 fa:M0 a=none
 ma:M a=some (.oth (.dkt kvs))
 kl:kvs.length<=k
 v:∀ w,(valT kvs w=none/\∀ j,j<k->q.bad≠j->w≠Dz.dr j)\/∃ j p,j<k/\q.bad≠j/\w=Dz.dr j/\valT kvs w=some (.ref p)/\M p=some (.lst [(Dz.zn q j).v])/\∀ i,k<=i->ps[i]? ≠ some p
theorem HV.pass(h:HV M0 M q ps a k kvs)(hb:q.bad=k):HV M0 M q ps a (k+1) kvs :=
 {h with
  r:=fun i p hi e=>h.r i p (by omega) e
  kl:=ZF h.kl
  v:=fun w=>by
   rcases h.v w with ⟨h1,h2⟩ | ⟨j,p,h1,h2,h3,h4,h5,h6⟩
   ·exact .inl ⟨h1,fun j hj nb=>h2 j (by omega) nb⟩
   ·exact .inr ⟨j,p,by omega,h2,h3,h4,h5,fun i hi=>h6 i (by omega)⟩ }
theorem HV.put{M0 M:DH}{q:Dz.Q}{ps:List Addr}{a p0 p2:Addr}{k:Nat}{kvs:List (W×D)}(h:HV M0 M q ps a k kvs)(hb:q.bad≠k)(h0:ps[k]? = some p0)(hp:ddel M p0 p2=none):HV M0 (dupd (dupd (ddel M p0) p2 (.lst [(Dz.zn q k).v])) a (.oth (.dkt (putT kvs (Dz.dr k) (.ref p2))))) q ps a (k+1) (putT kvs (Dz.dr k) (.ref p2)):=by
 obtain⟨f0,m0⟩:=h.r k p0 (Zo _) h0;have na:a≠p0:=fun z=>by have:=h.ma;rw[z,m0]at this;cases this
 have d1:∀ b,b≠p0->ddel M p0 b=M b:=fun b n=>Zc n;have n2a:p2≠a:=fun z=>by rw[z,d1 a na,h.ma]at hp;cases hp
 have f2:M0 p2=none:=by
  by_cases e:p2=p0
  ·rw[e];exact f0
  ·rw[d1 p2 e]at hp;exact h.sub.none hp
 have keep:∀ b o,b≠a->b≠p0->b≠p2->M b=some o->dupd (dupd (ddel M p0) p2 (.lst [(Dz.zn q k).v])) a (.oth (.dkt (putT kvs (Dz.dr k) (.ref p2)))) b=some o:=fun b o n1 n2 n3 e=>by
  rw[Q0b n1,Q0b n3,d1 b n2];exact e
 refine { h with sub:=fun b o e=>?_,r:=fun i p hi e=>?_,ma:=Q0a,kl:=?_,v:=fun w=>?_ }
 ·refine keep b o (fun z=>?_) (fun z=>?_) (fun z=>?_) (h.sub b o e)
  ·rw[z,h.fa]at e;cases e
  ·rw[z,f0]at e;cases e
  ·rw[z,f2]at e;cases e
 ·obtain⟨g1,g2⟩:=h.r i p (by omega) e
  refine⟨g1,keep p _ (fun z=>?_) (fun z=>?_) (fun z=>?_) g2⟩
  ·rw[z,h.ma]at g2;cases g2
  ·have:=nd_ix h.nd e (by rw[z];exact h0);omega
  ·by_cases e2:p=p0
   ·have:=nd_ix h.nd e (by rw[e2];exact h0);omega
   ·rw[<- z,d1 p e2,g2]at hp;cases hp
 ·have:=Q4s kvs (Dz.dr k) (.ref p2);have:=h.kl;omega
 ·by_cases ew:w=Dz.dr k
  ·refine .inr ⟨k,p2,Yo _,hb,ew,by rw[Q2T,Ze ew],by rw[Q0b n2a,Q0a],fun i hi e=>?_⟩
   obtain⟨g1,g2⟩:=h.r i p2 (by omega) e
   by_cases e2:p2=p0
   ·have:=nd_ix h.nd e (by rw[e2];exact h0);omega
   ·rw[d1 p2 e2,g2]at hp;cases hp
  ·rcases h.v w with ⟨h1,h2⟩ | ⟨j,p,h1,h2,h3,h4,h5,h6⟩
   ·refine .inl ⟨by rw[Q2T,Zc ew];exact h1,fun j hj nb=>?_⟩
    by_cases e:j=k
    ·rw[e];exact ew
    ·exact h2 j (by omega) nb
   ·refine .inr ⟨j,p,by omega,h2,h3,by rw[Q2T,Zc ew];exact h4,keep p _ (fun z=>?_) (fun z=>?_) (fun z=>?_) h5,fun i hi=>h6 i (by omega)⟩
    ·rw[z,h.ma]at h5;cases h5
    ·exact h6 k (Zo _) (by rw[z];exact h0)
    ·by_cases e2:p=p0
     ·exact h6 k (Zo _) (by rw[e2];exact h0)
     ·rw[<- z,d1 p e2,h5]at hp;cases hp
theorem HV.hs(h:HV M0 M q ps a (q.nm.length+1) kvs):HsOk M a (Dz.zones q):=by
 refine⟨kvs,h.ma,fun w=>?_⟩;rcases h.v w with ⟨h1,h2⟩ | ⟨j,p,h1,h2,h3,h4,h5,h6⟩
 ·refine .inl ⟨h1,?_⟩;by_cases e:∃ j,j<=q.nm.length/\w=Dz.dr j
  ·obtain⟨j,hj,rfl⟩:=e;by_cases b:q.bad=j
   ·rw[Dz.of_dr,Zc fun z=>z.2 b]
   ·exact absurd rfl (h2 j (by omega) b)
  ·exact Dz.of_no fun k hk z=>e ⟨k,hk,z⟩
 ·refine .inr ⟨_,h4,?_⟩;rw[h3,Dz.of_dr,Ze ⟨by omega,h2⟩]
  show zak M (.ref p)=_;simp only[zak,h5];rfl
noncomputable def sp_ak:DSp:=fun ds M R=>∃ (q:Dz.Q),ds=[dn q.nm,farD q,.int q.many,.int q.life,.int q.bad]/\Dz.Ok q/\∀ M' a,Sub M M'->HsOk M' a (Dz.zones q)->R (.ref a) M'
theorem ok_ak(T:Tab)(h102:T.fn 102=some ⟨"_law_house",3,[],sp_a7⟩):∀ ds M R,sp_ak ds M R->evS T b_ak (za4 R) (za3 ["a","b","c","d","e","f","g","h","i"] ds) M:=by
 rintro ds M R ⟨q,rfl,ok,h⟩;have l8:=ok.l;have m20:=ok.m;simp only[b_ak];refine Q0c fun k1 e1=>?_;walk_at "ev";unfold dn;walk_at "ev";rw[Zd];refine⟨by omega,by omega,?_⟩
 rw[show ((q.nm.length:Int)+1).toNat=q.nm.length+1 from by omega]
 refine Q0n (fun i ys M'=>∃ ps:List Addr,ys=ps.map .ref/\ps.length=i/\RLs M M' ps fun _=>[]) ⟨[],rfl,rfl,Sub.refl _,nodup_nil,fun i p z=>nomatch z⟩ (fun _ _ _ _=>trivial) ?_ ?_
 ·rintro i d ys M' k hi ⟨ps,rfl,hl,rl⟩ hk;have li:=(Zk.mp hi).1;rw[Q1P]at li;walk_at "ev";refine⟨szL (by decide),fun p hp=>⟨small1000 (by rw[Zd];omega),hk _ _ ⟨ps++[p],by rw[Z7];rfl,by rw[Zi,hl];rfl,rl.sub.trans (Sub.new hp),?_,fun j p2 hj=>?_⟩⟩⟩
  ·rw[nodup_append];refine⟨rl.nd,List.pairwise_singleton _ _,fun b hb c hc z=>?_⟩;obtain⟨j,hj⟩:=mem_iff_getElem?.mp hb;have:=(rl.r j b hj).2;rw[z,Zz.mp hc,hp]at this;cases this
  ·by_cases c:j<ps.length
   ·rw[getElem?_append_left c]at hj;obtain⟨g1,g2⟩:=rl.r j p2 hj;exact⟨g1,by rw[Q0b (dne g2 hp)];exact g2⟩
   ·rw[Ym (by omega)]at hj
    have:j-ps.length=0:=by
     have:=(Zk.mp hj).1;simp only[Zj,ZU]at this;omega
    rw[this]at hj;injection hj with hj;rw[<- hj];exact⟨rl.sub.none hp,Q0a⟩
 rintro ys M1 ⟨ps,rfl,hl,rl⟩;rw[Q1P]at hl;refine⟨szL (by rw[Zd];omega),?_⟩
 rw[e1];clear e1;refine Q0c fun k1 e1=>?_;walk_at "ev";rw[Zd];refine⟨by omega,by omega,?_⟩
 rw[Zx];refine Q1Q (fun i ρ M'=>∃ (v6 v7:Option D),RLs M M' ps (Dz.rowsTo q i)/\ρ=[some (.tup (q.nm.map D.str)),some (farD q),some (.int q.many),some (.int q.life),some (.int q.bad),some (.lst (ps.map .ref)),v6,v7,none]) ⟨_,_,⟨rl.sub,rl.nd,fun i p hi=>⟨(rl.r i p hi).1,by rw[(rl.r i p hi).2];rfl⟩⟩,rfl⟩ (fun _ _ _ _=>trivial) ?_ ?_
 ·clear e1 rl M1;rintro i ρ M1 k hi ⟨v6,v7,rl,rfl⟩ hk;rw[Int.zero_add];refine Q2k fun k2 e2=>?_;walk_at "ev";simp only[h102];walk_at "ev";refine⟨q,i,rfl,l8,hi,?_⟩;rw[e2];clear e2;refine Q2k fun k2 e2=>?_;obtain⟨p,hp⟩:∃ p,ps[i]? = some p:=⟨_,Zt (by omega)⟩
  have hm:=(rl.r i p hp).2;walk_at "ev";refine Q4F hp ?_;simp only[hm];rw[Q5C];have rll:=Dz.rowsTo_len (q:=q) i i;refine⟨szL (by decide),small1000 (by rw[Zd];omega),?_⟩
  have ed:D.tup [.tup ((q.nm.map D.str).take (i+1)),.int q.life,.str [100,111,119,110],dn (Dz.hs q i)]=(Dz.dnR q i).d:=by
   unfold Dz.dnR Rw.d;show _=D.tup [dn (q.nm.take (i+1)),_,_,_];unfold dn;rw[map_take];rfl
  rw[ed];have rl2:=rl.app (g:=fun j=>if j=i then Dz.rowsTo q i j++[Dz.dnR q i] else Dz.rowsTo q i j) hp fun j _=>rfl
  generalize dupd M1 p _=M2 at rl2;rw[e2];clear e2 rl hm hp p ed;walk_at "ev";refine⟨rfl,rfl,ite2 (fun z=>?_) fun z=>?_⟩
  ·have nb:q.bad≠i+20:=fun e=>by
    rw[e]at z;simp at z
   refine⟨szL (by decide),Q7U hi ?_⟩
   have eh:∀ Q:DK,Q (.int (Dz.home q i:Nat)) M2->rIxD (.lst [.int (i:Int),.int 0]) (.int (if q.far i=true then 1 else 0)) M2 Q:=fun Q hQ=>by
    unfold Dz.home at hQ;by_cases f:q.far i=true
    ·rw[Ze f]at hQ ⊢;exact Q1l (by decide) (by simp only[Zj,ZU];omega) fun d hd=>by cases hd;exact hQ
    ·rw[Zc f]at hQ ⊢;exact Q1l (by decide) (by simp only[Zj,ZU];omega) fun d hd=>by cases hd;exact hQ
   refine eh _ ?_;have hh:Dz.home q i<ps.length:=by unfold Dz.home;split <;> omega
   obtain⟨p,hp⟩:∃ p,ps[Dz.home q i]? = some p:=⟨_,Zt hh⟩;have hm:=(rl2.r _ p hp).2;refine Q4F hp ?_;simp only[hm];rw[show (i:Int)+1=((i+1:Nat):Int) from by omega]
   have rll:=Dz.rowsTo_len (q:=q) i (Dz.home q i);refine⟨by omega,Q1K (by omega),szL (by rw[Zx];have:=Q3n (i+1) (by omega);omega),szL (by decide),small1000 (by
    rw[Zd];split
    ·rw[Zi,ZH];omega
    ·omega),?_⟩
   rw[Zx];have ed:D.tup [dn (Dz.hs q i),.int q.life,.str [100,111,111,114],.str (100::111::111::114::digs (i+1))]=(Dz.doR q i).d:=rfl;rw[ed];have rl3:=rl2.app (g:=Dz.rowsTo q (i+1)) (x:=Dz.doR q i) hp fun j _=>by
    rw[Dz.rowsTo_good nb]
   exact hk _ _ ⟨_,_,rl3,rfl⟩
  ·have nb:q.bad=i+20:=by
    simp at z;omega
   refine hk _ _ ⟨_,_,⟨rl2.sub,rl2.nd,fun j p hj=>⟨(rl2.r j p hj).1,?_⟩⟩,rfl⟩;rw[(rl2.r j p hj).2,Dz.rowsTo_bad nb]
 ·clear rl M1;rintro ρ M1 ⟨v6,v7,rl,rfl⟩;obtain⟨p,hp⟩:∃ p,ps[q.nm.length]? = some p:=⟨_,Zt (by omega)⟩
  have hlast:(ps.map D.ref).getLast? = some (.ref p):=by
   rw[List.getLast?_map,List.getLast?_eq_getElem?,hl,show q.nm.length+1-1=q.nm.length from by omega,hp]
   rfl
  rw[e1];clear e1;refine Q0c fun k1 e1=>?_;walk_at "ev";refine⟨by omega,by omega,?_⟩
  rw[Zx];refine Q1Q (fun i ρ M'=>∃ (v6 v7:Option D),RLs M M' ps (fun j=>Dz.rowsTo q q.nm.length j++if j=q.nm.length then (List.range i).map (Dz.elR q) else [])/\ρ=[some (.tup (q.nm.map D.str)),some (farD q),some (.int q.many),some (.int q.life),some (.int q.bad),some (.lst (ps.map .ref)),v6,v7,none]) ⟨_,_,⟨rl.sub,rl.nd,fun i p hi=>⟨(rl.r i p hi).1,by rw[(rl.r i p hi).2];show _=some (MO.lst (List.map Rw.d (_++if i=q.nm.length then [] else [])));rw[ite_self,Yh]⟩⟩,rfl⟩ (fun _ _ _ _=>trivial) ?_ ?_
  ·clear e1 rl M1;rintro i ρ M1 k hi ⟨v6,v7,rl,rfl⟩ hk;have hm:=(rl.r _ p hp).2;rw[Ze rfl]at hm;walk_at "ev";refine Q3c hlast ?_;simp only[hm];rw[Int.zero_add,show (i:Int)+1=((i+1:Nat):Int) from by omega]
   have nl:(q.nm.map D.str).length+1<=1000:=by rw[Zd];omega
   have rll:=Dz.rowsTo_len (q:=q) q.nm.length q.nm.length;refine⟨by omega,Q1K (by omega),szL (by decide),szL nl,by omega,Q1K (by omega),szL (by decide),szL nl,szL (by decide),small1000 (by rw[Zd,Zi,Zd,ZD];omega),?_⟩
   rw[Zx,Zx];have ed:D.tup [.tup (q.nm.map D.str++[.str (digs i)]),.int q.life,.str [101,108,115,101],.tup (q.nm.map D.str++[.str (digs (i+1))])]=(Dz.elR q i).d:=by
    unfold Dz.elR Rw.d;show _=D.tup [dn _,_,_,dn _];unfold dn;rw[Z7,Z7];rfl
   rw[ed];have rl3:=rl.app (g:=fun j=>Dz.rowsTo q q.nm.length j++if j=q.nm.length then (List.range (i+1)).map (Dz.elR q) else []) (x:=Dz.elR q i) hp fun j _=>by
    by_cases c:j=q.nm.length
    ·rw[Ze c,Ze c,Ze c,range_succ,Z7,<- append_assoc];rfl
    ·rw[Zc c,Zc c,Zc c]
   simp only[Yw]at rl3;exact hk _ _ ⟨_,_,rl3,rfl⟩
  ·clear rl M1;rintro ρ M1 ⟨v6,v7,rl,rfl⟩;have hm:=(rl.r _ p hp).2;rw[Ze rfl]at hm;rw[e1];clear e1;refine Q0c fun k1 e1=>?_;walk_at "ev";refine Q3c hlast ?_;simp only[hm];have nl:(q.nm.map D.str).length+1<=1000:=by rw[Zd];omega
   have rll:=Dz.rowsTo_len (q:=q) q.nm.length q.nm.length;refine⟨by omega,Q1K (by omega),szL (by decide),szL nl,szL (by decide),small1000 (by rw[Zd,Zi,Zd,ZD];omega),?_⟩
   rw[Zx];have ed:D.tup [.tup (q.nm.map D.str++[.str (digs q.many)]),.int q.life,.str [109,97,114,107],.str [104,101,114,101]]=(Dz.mkR q).d:=by
    unfold Dz.mkR Rw.d;show _=D.tup [dn _,_,_,_];unfold dn;rw[Z7];rfl
   rw[ed];have rl3:=rl.app (g:=Dz.rowsF q) (x:=Dz.mkR q) hp fun j _=>by
    unfold Dz.rowsF Dz.tl;by_cases c:j=q.nm.length
    ·rw[Ze c,Ze c,Ze c,<- append_assoc]
    ·rw[Zc c,Zc c,Zc c]
   simp only[Yw]at rl3;generalize dupd M1 p _=M2 at rl3;clear rl hm M1;rw[e1];clear e1;refine Q0c fun k1 e1=>?_;walk_at "ev";intro a ha;have hv:HV M (dupd M2 a (.oth (.dkt []))) q ps a 0 []:=⟨rl3.sub.trans (Sub.new ha),rl3.nd,fun i p _ e=>⟨(rl3.r i p e).1,by rw[Q0b (dne (rl3.r i p e).2 ha)];exact (rl3.r i p e).2⟩,rl3.sub.none ha,Q0a,Zo _,fun w=>.inl ⟨Q8R,fun j z=>absurd z (not_lt_zero _)⟩⟩
   generalize dupd M2 a _=M3 at hv;clear rl3 ha;rw[e1];clear e1;refine Q0c fun k1 e1=>?_;walk_at "ev";rw[Zd];refine⟨by omega,by omega,?_⟩
   rw[show ((q.nm.length:Int)+1).toNat=q.nm.length+1 from by omega]
   refine Q1Q (fun i ρ M'=>∃ (v6:Option D) (kvs:List (W×D)),HV M M' q ps a i kvs/\ρ=[some (.tup (q.nm.map D.str)),some (farD q),some (.int q.many),some (.int q.life),some (.int q.bad),some (.lst (ps.map .ref)),v6,v7,some (.ref a)]) ⟨_,_,hv,rfl⟩ (fun _ _ _ _=>trivial) ?_ ?_
   ·clear e1 hv M3;rintro i ρ M3 k hi ⟨v6,kvs,hv,rfl⟩ hk;rw[Int.zero_add];walk_at "ev";refine⟨rfl,rfl,ite2 (fun z=>?_) fun z=>?_⟩
    ·have nb:q.bad≠i:=fun e=>by
      rw[e]at z;simp at z
     obtain⟨p0,hp0⟩:∃ p,ps[i]? = some p:=⟨_,Zt (by omega)⟩
     have hm:=(hv.r i p0 (Zo _) hp0).2;simp only[dFrz];walk_at "ev";refine Q4F hp0 ?_;simp only[hm];refine⟨szL (by decide),szL (by decide),fun p2 hp2=>⟨by omega,Q1K (by omega),szL (by rw[Zx];have:=Q3n i (by omega);omega),?_⟩⟩
     rw[Zx,Q3V];have ez:D.tup [.tup ((q.nm.map D.str).take i),.int q.life,.lst ((Dz.rowsF q i).map Rw.d)]=(Dz.zn q i).v:=by
      rw[<- map_take];rfl
     rw[ez];have na:a≠p0:=fun z=>by have:=hv.ma;rw[z,hm]at this;cases this
     have da:ddel M3 p0 a=some (.oth (.dkt kvs)):=by
      show (if a=p0 then none else M3 a)=_
      rw[Zc na];exact hv.ma
     have kl:=hv.kl;exact⟨a,Dz.dr i,kvs,rfl,rfl,by rw[Q0b (dne da hp2)];exact da,small1000 (by omega),hk _ _ ⟨_,_,hv.put nb hp0 hp2,rfl⟩⟩
    ·have nb:q.bad=i:=by
      simp at z;omega
     exact hk _ _ ⟨_,_,hv.pass nb,rfl⟩
   ·rintro ρ M4 ⟨v6,kvs,hv,rfl⟩;rw[e1];clear e1;walk_at "ev";exact Q0f (h _ _ hv.sub hv.hs)
noncomputable def b_an:CS :=
  (.seq (.ite (.cmp .lt (.var 1) (.blt .len (.cons (.var 0) .nil)))
  (.seq (.ret (.ix (.var 0) (.var 1)))
  .nil)
  .nil)
  (.seq (.ret (.con (.int 0)))
  .nil))
noncomputable def b_law:CS :=
  (.seq (.set 1 (.blt .tuple (.cons (.compz false [] (.sl (.var 0) (.con (.int 3)) (.con (.int 11))) .nil (.call 101 (.cons (.var 0) .nil))) .nil)))
  (.seq (.set 2 (.compz false [] (.sl (.var 0) (.con (.int 3)) (.con (.int 11))) .nil (.cmp .eq (.bin .mod (.bin .fdiv (.var 0) (.con (.int 7))) (.con (.int 2))) (.con (.int 1)))))
  (.seq (.set 3 (.bin .mod (.call 100 (.cons (.var 0) (.cons (.con (.int 0)) .nil))) (.con (.int 21))))
  (.seq (.set 4 (.ix (.lstz (.cons (.con (.int 40)) (.cons (.bin .mod (.call 100 (.cons (.var 0) (.cons (.con (.int 2)) .nil))) (.con (.int 9))) (.cons (.bin .add (.con (.int 20)) (.bin .mod (.call 100 (.cons (.var 0) (.cons (.con (.int 2)) .nil))) (.con (.int 8)))) .nil)))) (.bin .mod (.call 100 (.cons (.var 0) (.cons (.con (.int 1)) .nil))) (.con (.int 3)))))
  (.seq (.set 5 (.call 103 (.cons (.var 1) (.cons (.var 2) (.cons (.var 3) (.cons (.bin .mod (.call 100 (.cons (.var 0) (.cons (.con (.int 0)) .nil))) (.con (.int 1000000000))) (.cons (.var 4) .nil)))))))
  (.seq (.set 6 (.call 73 (.cons (.var 5) (.cons (.con (.str [100,111,111,114,48])) .nil))))
  (.seq (.set 7 (.compz false [1] (.rng1 (.bin .add (.call 105 (.cons (.var 1) (.cons (.var 4) .nil))) (.con (.int 1)))) .nil (.tup (.cons (.sl (.var 1) .nil (.var 0)) (.cons (.bin .add (.con (.str [100,111,111,114])) (.blt .str (.cons (.var 0) .nil))) .nil)))))
  (.seq (.ite (.cmp .ne (.frz (.blt .sortP (.cons (.var 6) .nil))) (.var 7))
  (.seq (.ret (.con (.bl false)))
  .nil)
  .nil)
  (.seq (.set 8 (.call 70 (.cons (.var 5) (.cons (.con (.str [100,111,111,114,48])) (.cons (.bin .add (.var 1) (.tup (.cons (.con (.str [48])) .nil))) (.cons (.con (.str [109,97,114,107])) .nil))))))
  (.seq (.ret (.and (.isi .tuple (.var 8)) (.cmp .eqR (.var 8) (.call 104 (.cons (.var 1) (.cons (.var 2) (.cons (.var 3) (.cons (.var 4) .nil))))))))
  .nil))))))))))
noncomputable def sp_an:DSp:=fun ds M R=>∃ (ns:List Int) (k:Nat),ds=[.lst (ns.map D.int),.int k]/\R (.int (ns.getD k 0)) M
theorem ok_an:∀ ds M R,sp_an ds M R->evS T b_an (za4 R) (za3 ["a","b"] ds) M:=by
 rintro ds M R ⟨ns,k,rfl,h⟩;simp only[b_an,dn];walk_at "ev";refine ite2 (fun q=>?_) fun q=>Q0f ?_
 ·rw[Zg,Zd]at q;refine Q1l (by omega) (by rw[Zd];exact q) fun d hd=>?_
  rw[Z5,Zx]at hd;rw[getD_eq_getElem?_getD]at h;cases e:ns[k]? with
  | none=>rw[e]at hd;cases hd
  | some n=>rw[e]at hd h;cases hd;exact Q0f h
 ·rw[Zg,Zd]at q;rw[getD_eq_getElem?_getD,List.getElem?_eq_none (by omega)]at h
  exact h
namespace Dz
theorem Q9X(h:Ok q)(hk:k<=q.nm.length)(hx:x∈rowsF q k):RowOk (q.nm.take k) x/\vlen x.v<=20:=by
 have l8:=h.l;have hsl:∀ i,(hs q i).length<=20:=fun i=>by
  unfold hs;split
  ·simp
  ·rw[Zi,Z1];simp only[Zj,ZU];omega
 have ln:(q.nm.take k).length=k:=Q0o hk;rcases Q3k hx with ⟨rfl,hl⟩ | ⟨i,hi,hh,_,rfl⟩ | ⟨e,⟨i,hi,rfl⟩ | rfl⟩
 ·refine⟨⟨⟨?_,?_⟩,.inl ⟨.inl rfl,_,rfl⟩⟩,?_⟩
  ·show (q.nm.take (k+1)).length<=20;rw[Z1];omega
  ·show (q.nm.take (k+1)).take _=_;rw[ln,take_take,min_eq_left (Yq k)]
  ·show (List.map D.str (hs q k)).length<=20;rw[Zd];exact hsl k
 ·refine⟨⟨⟨hsl i,?_⟩,.inr ⟨Q3f,_,rfl⟩⟩,ZB _⟩;show (hs q i).take _=_;rw[ln];unfold home at hh;by_cases f:q.far i=true
  ·rw[Ze f]at hh;rw[<- hh];rfl
  ·rw[Zc f]at hh;rw[Q1g f,hh,List.take_append_of_le_length (by rw[Q0o (by omega)];omega),take_take,min_eq_left (Yq k)]
 ·refine⟨⟨⟨?_,?_⟩,.inl ⟨Q3Z,_,rfl⟩⟩,?_⟩
  ·show (q.nm++[digs i]).length<=20;rw[Zi,ZH];omega
  ·show (q.nm++[digs i]).take _=_;rw[ln,e,take_left' rfl,Yc]
  ·show (List.map D.str (q.nm++[digs (i+1)])).length<=20;rw[Zd,Zi,ZH];omega
 ·refine⟨⟨⟨?_,?_⟩,.inr ⟨by unfold IsN;show ¬ (zai=_\/zai=_);decide,_,rfl⟩⟩,ZB _⟩
  ·show (q.nm++[digs q.many]).length<=20;rw[Zi,ZH];omega
  ·show (q.nm++[digs q.many]).take _=_;rw[ln,e,take_left' rfl,Yc]
theorem zn_in(hz:z∈zones q):∃ k,k<=q.nm.length/\z=zn q k:=by
 obtain⟨k,hk,rfl⟩:=ZI.mp hz;have:=ZZ.mp (ZN.mp hk).1;exact⟨k,by omega,rfl⟩
theorem Q9Y(q:Q)(w:W):(ofD (zones q) w).length<=1:=by
 by_cases e:∃ j,j<=q.nm.length/\w=dr j
 ·obtain⟨j,_,rfl⟩:=e;rw[of_dr];split <;> simp
 ·rw[of_no fun k hk z=>e ⟨k,hk,z⟩];exact ZB _
theorem zs_ok(h:Ok q):ZsOk (zones q):=by
 have l8:=h.l;refine⟨fun z hz=>?_,fun w=>Z4 (Q9Y q w) (by decide),fun w=>?_⟩
 ·obtain⟨k,hk,rfl⟩:=zn_in hz;refine⟨fun x hx=>(Q9X h hk hx).1,?_,?_,fun x hx=>(Q9X h hk hx).2,fun w hw=>h.star (mem_of_mem_take hw)⟩
  ·show (q.nm.take k).length<=9;rw[Z1];omega
  ·have:=Q7V h k;show (rowsF q k).length<60;omega
 ·have:=Q9Y q w
  match e:ofD (zones q) w,this with
  | [],_=>exact nodup_nil
  | [z],_=>exact nodup_cons.mpr ⟨ZR,nodup_nil⟩
  | _::_::_,h=>exact absurd h (by simp only[Zj];omega)
theorem Ok.gd{q:Q}(h:Ok q){w:W}(hw:w∈q.nm):gdT w:=by
 unfold gdT;rw[ZM];intro c hc;have:=(h.w w hw).2 c hc;rw[Zg];omega
theorem gd_rows{q:Q}(h:Ok q):∀ z∈zones q,GdR z.r:=fun z hz x hx hk=>by
 have l8:=h.l;obtain⟨k,hkl,rfl⟩:=zn_in hz;rcases Q3k hx with ⟨rfl,hl⟩ | ⟨i,hi,hh,_,rfl⟩ | ⟨e,⟨i,hi,rfl⟩ | rfl⟩
 ·refine⟨fun w hw=>h.gd (mem_of_mem_take hw),?_⟩;show (q.nm.take (k+1)).length<=20;rw[Z1];omega
 ·exact absurd hk (by show ¬ za1=zae;decide)
 ·exact absurd hk (by show ¬ za9=zae;decide)
 ·exact absurd hk (by show ¬ zai=zae;decide)
theorem kd_gd{q:Q}(h:Ok q){k:Nat}:∀ p∈kdT q k,∀ w∈p.1,gdT w:=fun p hp w hw=>by
 obtain⟨j,_,rfl⟩:=ZI.mp hp;exact h.gd (mem_of_mem_take hw)
theorem Q9Z:∀ (x y:List W),(∀ i,i<min x.length y.length->x[i]? = y[i]?)->ltZ x y=decide (x.length<y.length)
 | [],[],_=>rfl
 | [],_::_,_=>(Zm (succ_pos _)).symm
 | _::_,[],_=>(Zr (not_lt_zero _)).symm
 | a::x,b::y,h=>by
  have e:a=b:=Z6 (h 0 (by simp only[Zj];omega))
  unfold ltZ;rw[Ze e,Q9Z x y fun i hi=>h (i+1) (by simp only[Zj];omega)]
  exact decide_eq_decide.mpr (by simp only[Zj];omega)
theorem lt_tk{q:Q}{i j:Nat}(hi:i<=q.nm.length)(hj:j<=q.nm.length):ltZ (q.nm.take i) (q.nm.take j)=decide (i<j):=by
 rw[Q9Z,Q0o hi,Q0o hj];intro k hk;rw[Q0o hi,Q0o hj]at hk;rw[List.getElem?_take,List.getElem?_take,Ze (by omega),Ze (by omega)]
theorem kd_up{q:Q}{k:Nat}(hk:k<=q.nm.length)(i:Nat)(h0:0<i)(hi:i<(kdT q k).length):((kdT q k).getD i ([],[])).1≠((kdT q k).getD (i-1) ([],[])).1/\ltZ ((kdT q k).getD i ([],[])).1 ((kdT q k).getD (i-1) ([],[])).1=false:=by
 have e:∀ j,j<k+1->(kdT q k).getD j ([],[])=(q.nm.take j,dr j):=fun j hj=>by
  unfold kdT;rw[getD_eq_getElem?_getD,Z5,getElem?_range hj];rfl
 unfold kdT at hi;rw[Zd,ZD]at hi;rw[e i hi,e (i-1) (by omega)]
 refine⟨fun z=>?_,?_⟩
 ·have:=congrArg List.length z;rw[Q0o (by omega),Q0o (by omega)]at this
  omega
 ·show ltZ (q.nm.take i) (q.nm.take (i-1))=false;rw[lt_tk (by omega) (by omega)]
  exact Zr (by omega)
end Dz
theorem Q9D(cs:List Int)(f:Int->D):cs.map f=(List.range cs.length).map fun i=>f (cs.getD i 0):=by
 refine List.ext_getElem? fun i=>?_;rw[Z5,Z5];by_cases hi:i<cs.length
 ·rw[getElem?_range hi,Zt hi];show some _=some (f (cs.getD i 0));rw[getD_eq_getElem?_getD,Zt hi];rfl
 ·rw[List.getElem?_eq_none (by omega),List.getElem?_eq_none (by rw[ZD];omega)]
  rfl
theorem subE(wl:Addr)(w:W)(vs ws:List D):subT wl ws (.tup [.str w,.lst vs,.ref wl])=.tup [.str w,.lst vs,.lst ws]:=by
 show D.tup [.str w,.lst vs,if wl=wl then .lst _ else .ref wl]=_
 rw[Ze rfl]
theorem Q7W(hv:plain 11 (.lst vs)=true)(hw:plain 11 (.lst ws)=true):plain 12 (.tup [.str w,.lst vs,.lst ws])=true:=by
 show [D.str w,.lst vs,.lst ws].all (plain 11)=true;rw[Ye,Ye,Ye,hv,hw];rfl
theorem Q7X(ws:List Tz.Wt):plain 11 (.lst (ws.map Tz.wtD))=true:=by
 show (ws.map Tz.wtD).all (plain 10)=true;rw[ZM];intro d hd;obtain⟨m,_,rfl⟩:=ZI.mp hd;show [D.str m.1,dn m.2.1,.str m.2.2].all (plain 9)=true;simp only[Ye,all_nil,Q0D 7,Bool.and_true,Bool.true_and];rfl
theorem Q6d(ws:List W):plain 11 (.lst (ws.map D.str))=true:=by
 show (ws.map D.str).all (plain 10)=true;rw[ZM];intro d hd;obtain⟨m,_,rfl⟩:=ZI.mp hd;rfl
noncomputable def sp_law:DSp:=dLaw 63
set_option maxHeartbeats 4000000 in
theorem ok_law(T:Tab)(h104:T.fn 104=some ⟨"_law_due",4,[],sp_am⟩)(h70:T.fn 70=some ⟨"truth",4,[],sp_aB⟩)(h105:T.fn 105=some ⟨"_law_depth",2,[],sp_af⟩)(h73:T.fn 73=some ⟨"charges",2,[],sp_ao⟩)(h103:T.fn 103=some ⟨"_law_houses",5,[],sp_ak⟩)(h100:T.fn 100=some ⟨"_law_cell_at",2,[],sp_an⟩)(h101:T.fn 101=some ⟨"_law_word",1,[],sp_ap⟩) :
  ∀ ds M R,sp_law ds M R->evS T b_law (za4 R) (za3 ["a","b","c","d","e","f","g","h","i"] ds) M:=by
 intro ds M R h;unfold sp_law dLaw at h;split at h
 ·rename_i ds0;obtain⟨ns,rfl,hl,h⟩:=h;have fin:∀ M',Sub M M'->∃ M0,Sub M0 M'/\R (.bl true) M0:=fun M' s=>⟨M,s,h⟩;have ec:cut (ns.map D.int) (some 3) (some 11)=((ns.drop 3).take 8).map D.int:=by
   rw[map_take,map_drop];exact Qbr _ 3 11
  have c8:((ns.drop 3).take 8).length<=8:=by rw[Z1];omega
  generalize (ns.drop 3).take 8=cs at ec c8;simp only[b_law];refine Q0c fun k1 e1=>?_;walk_at "ev";rw[ec];intro p1 hp1;simp only[Q0a];refine Q6b (fun _ z=>∃ w,Wl w/\z=.str w) Q0a (by rw[Zd];omega) (fun d kk hd hkk=>?_) fun zs hzl hzp=>?_
  ·obtain⟨c,_,rfl⟩:=ZI.mp hd;simp only[h101];walk_at "ev";exact⟨c,rfl,fun w hw=>hkk _ ⟨w,hw,rfl⟩⟩
  obtain⟨nm,rfl,hnm⟩:=Q7x (P:=Wl) zs fun z hz=>by obtain⟨_,_,h⟩:=hzp z hz;exact h
  rw[Zd,Zd]at hzl;refine⟨szL (by rw[Zd];omega),?_⟩
  have s1:Sub M (dupd M p1 (.lst (cs.map D.int))):=Sub.new hp1;generalize dupd M p1 (.lst (cs.map D.int))=M1 at s1;rw[e1];clear e1;refine Q0c fun k1 e1=>?_;walk_at "ev";rw[ec];intro p2 hp2;simp only[Q0a];refine Q3m cs D.int (fun c=>D.bl (decide (c / 7 % 2=1))) Q0a (by omega) (fun c kk hc hkk=>?_) ⟨szL (by rw[Zd];omega),?_⟩
  ·walk_at "ev";exact⟨⟨by decide,by decide⟩,by decide,rfl,rfl,hkk⟩
  have s2:Sub M (dupd M1 p2 (.lst (cs.map D.int))):=s1.trans (Sub.new hp2);generalize dupd M1 p2 (.lst (cs.map D.int))=M2 at s2;rw[e1];clear e1;refine Q0c fun k1 e1=>?_;walk_at "ev";simp only[h100];walk_at "ev";refine⟨ns,0,rfl,by decide,?_⟩
  rw[e1];clear e1;refine Q0c fun k1 e1=>?_;walk_at "ev";simp only[h100];walk_at "ev";refine⟨ns,2,rfl,by decide,ns,2,rfl,by decide,szL (by decide),ns,1,rfl,by decide,?_⟩
  refine Q1l (by omega) (by simp only[Zj,ZU];omega) fun d hd=>?_
  obtain⟨bad,rfl⟩:∃ bad:Nat,d=.int (bad:Int):=by
   have r3:(ns.getD 1 0 % 3).toNat=0\/(ns.getD 1 0 % 3).toNat=1\/(ns.getD 1 0 % 3).toNat=2:=by omega
   rcases r3 with r | r | r <;> rw[r]at hd <;> cases hd
   ·exact⟨40,rfl⟩
   ·exact⟨(ns.getD 2 0 % 9).toNat,by rw[Int.toNat_of_nonneg (by omega)]⟩
   ·exact⟨(20+ns.getD 2 0 % 8).toNat,by rw[Int.toNat_of_nonneg (by omega)]⟩
  clear hd;rw[Q9D cs,<- hzl];have em:ns.getD 0 0 % 21=((ns.getD 0 0 % 21).toNat:Int):=by omega
  rw[em];obtain⟨q,eq⟩:∃ q:Dz.Q,q=⟨nm,fun i=>decide (cs.getD i 0 / 7 % 2=1),(ns.getD 0 0 % 21).toNat,ns.getD 0 0 % 1000000000,bad⟩:=⟨_,rfl⟩;have ok:Dz.Ok q:=by
   rw[eq];exact⟨by show nm.length<=8;omega,hnm,by show (ns.getD 0 0 % 21).toNat<=20;omega⟩
  have el:ns.getD 0 0 % 1000000000=q.life:=by rw[eq]
  rw[show nm=q.nm by rw[eq],show (ns.getD 0 0 % 21).toNat=q.many by rw[eq],show bad=q.bad by rw[eq],show (fun i=>D.bl (decide (cs.getD i 0 / 7 % 2=1)))=fun i=>D.bl (q.far i) by rw[eq]]
  clear eq em;have l8:=ok.l;have dl:=Dz.dep_le ok;rw[e1];clear e1;refine Q0c fun k1 e1=>?_;walk_at "ev";simp only[h100];walk_at "ev";simp only[h103];walk_at "ev";refine⟨ns,0,rfl,by decide,?_⟩
  rw[el];refine⟨q,rfl,ok,fun M3 a s3 hs3=>?_⟩;have t3:=s2.trans s3;rw[e1];clear e1;refine Q0c fun k1 e1=>?_;walk_at "ev";simp only[h73];walk_at "ev";refine⟨a,Dz.zones q,Dz.dr 0,Dz.dep q+2,14,1,fun kd=>kd=Dz.kdT q (Dz.dep q),rfl,hs3,Dz.zs_ok ok,Dz.gd_rows ok,Dz.chg ok (Dz.dep q) 0 (by omega) [] (fun j _ _=>.inl rfl),fun kd e=>by rw[e];exact Dz.kd_gd ok,by decide,?_,by omega,by decide,fun M4 l kd ekd s4 fl hl4=>?_⟩
  ·show (Dz.dep q+2) * 198802<=13000000;omega
  subst ekd;have hs4:=hs3.mono s4;have t4:=t3.trans s4;rw[e1];clear e1;refine Q0c fun k1 e1=>?_;walk_at "ev";simp only[h105];walk_at "ev";refine⟨q,rfl,by omega,by omega,?_⟩
  rw[show ((Dz.dep q:Int)+1).toNat=Dz.dep q+1 from by omega]
  refine Q3m (List.range (Dz.dep q+1)) (fun i=>D.int (0+(i:Int))) (fun i=>prD (q.nm.take i,Dz.dr i)) trivial (by rw[ZD];omega) (fun i c hi hc=>?_) ⟨szL (by rw[Zd,ZD];omega),?_⟩
  ·have hi:=ZZ.mp hi;rw[Int.zero_add];walk_at "ev";rw[Q3V];refine⟨by omega,Q1K (by omega),szL (by rw[Zx];have:=Q3n i (by omega);omega),szL (by decide),?_⟩
   rw[Zx,<- map_take];exact hc
  have ekd:(List.range (Dz.dep q+1)).map (fun i=>prD (q.nm.take i,Dz.dr i))=(Dz.kdT q (Dz.dep q)).map prD:=by
   unfold Dz.kdT;rw[map_map];rfl
  rw[ekd];rw[e1];clear e1;refine Q0c fun k1 e1=>?_;walk_at "ev";simp only[dFrz];walk_at "ev";refine⟨Dz.kdT q (Dz.dep q),by simp only[hl4],by unfold Dz.kdT;rw[Zd,ZD];omega,Dz.kd_up dl,fun p hp=>?_⟩
  simp only[Q0a,Q5B hp];have pk:plain 12 (.lst ((Dz.kdT q (Dz.dep q)).map prD))=true:=by
   show ((Dz.kdT q (Dz.dep q)).map prD).all (plain 11)=true;rw[ZM];intro d hd;obtain⟨m,_,rfl⟩:=ZI.mp hd;show [dn m.1,D.str m.2].all (plain 10)=true;simp only[Ye,all_nil,Q0D 8,Bool.and_true,Bool.true_and];rfl
  refine⟨pk,pk,?_⟩;rw[Q0J];refine iteF ?_;rw[e1];clear e1;refine Q0c fun k1 e1=>?_;walk_at "ev";simp only[h70];walk_at "ev";refine⟨szL (by decide),szL (by rw[Zd];omega),a,Dz.zones q,Dz.dr 0,Dz.nxN q 0,zai,23,14,Dz.dueT q,?_,hs4,Dz.zs_ok ok,?_,by unfold IsN;decide,Dz.truth_is ok,by decide,by decide,by decide,fun M5 wl s5 f5 w5=>?_⟩
  ·unfold Dz.nxN dn;rw[Z7];rfl
  ·unfold Dz.nxN;rw[Zi,ZH];omega
  rw[e1];clear e1;walk_at "ev";simp only[h104];walk_at "ev";have pl:=Q7W (w:=(Dz.dueT q).1) (Q6d (Dz.dueT q).2.1) (Q7X (Dz.dueT q).2.2);refine iteT ⟨q,rfl,ok,wl,_,w5,by rw[subE];exact pl,pl,?_⟩
  rw[subE,Q0J];exact fin _ (t4.trans s5)
 ·exact h.elim
noncomputable def top(i:Nat):Stmt:=PySem.Challenge.pw_namewell_k47_deep_trees.main.body.getD i (.Pass ⟨0,0,0,0⟩)
noncomputable def bls:List Str:=["len","range","sorted","min","list","dict","str","int","isinstance","tuple"]
noncomputable def cons:Nat->Option (Str×D)
 | 11=>some ("STAR",D.str [42])
 | 12=>some ("ELSE",D.str [101,108,115,101])
 | 13=>some ("DOWN",D.str [100,111,119,110])
 | 14=>some ("DOOR",D.str [100,111,111,114])
 | 15=>some ("ROWS",D.str [114,111,119,115])
 | 16=>some ("EMPTY",D.str [101,109,112,116,121])
 | 17=>some ("NONE",D.str [110,111,110,101])
 | 18=>some ("AWAY",D.str [97,119,97,121])
 | 19=>some ("LOST",D.str [108,111,115,116])
 | 20=>some ("RING",D.str [114,105,110,103])
 | 21=>some ("ASKED",D.str [97,115,107,101,100])
 | _=>none
noncomputable def fns:Nat->Option FI
 | 1=>some ⟨"at_or_beneath",2,[],sp_ax⟩
 | 2=>some ⟨"above",1,[],sp_a1⟩
 | 5=>some ⟨"is_star_name",1,[],sp_aw⟩
 | 23=>some ⟨"values_of",1,[],sp_aa⟩
 | 24=>some ⟨"least_life",1,[],sp_a9⟩
 | 63=>some ⟨"copied_zone",1,[],sp_aD⟩
 | 73=>some ⟨"charges",2,[],sp_ao⟩
 | 72=>some ⟨"word_of",2,[],sp_al⟩
 | 71=>some ⟨"step_behind",2,[],sp_ac⟩
 | 70=>some ⟨"truth",4,[],sp_aB⟩
 | 100=>some ⟨"_law_cell_at",2,[],sp_an⟩
 | 101=>some ⟨"_law_word",1,[],sp_ap⟩
 | 102=>some ⟨"_law_house",3,[],sp_a7⟩
 | 103=>some ⟨"_law_houses",5,[],sp_ak⟩
 | 104=>some ⟨"_law_due",4,[],sp_am⟩
 | 105=>some ⟨"_law_depth",2,[],sp_af⟩
 | _=>none
noncomputable def mts:Nat->Option MI
 | 347=>some ⟨"Tree","settle",2,sp_a6⟩
 | 346=>some ⟨"Tree","enters",3,sp_a3⟩
 | 309=>some ⟨"Page","rows_at",2,sp_ab⟩
 | 308=>some ⟨"Page","reply_at",2,sp_as⟩
 | 302=>some ⟨"Page","has",1,sp_at⟩
 | 307=>some ⟨"Page","place_of",1,sp_aq⟩
 | 306=>some ⟨"Page","reply_down",1,sp_au⟩
 | 303=>some ⟨"Page","cut",1,sp_av⟩
 | 305=>some ⟨"Page","reply",2,sp_aC⟩
 | 301=>some ⟨"Page","lay",1,sp_aA⟩
 | 323=>some ⟨"House","page",1,sp_ad⟩
 | 325=>some ⟨"House","reply",3,sp_a2⟩
 | 341=>some ⟨"Tree","house",1,sp_a0⟩
 | 343=>some ⟨"Tree","reply_so_far",2,sp_a5⟩
 | 345=>some ⟨"Tree","follows",1,sp_ay⟩
 | 344=>some ⟨"Tree","finds_door",2,sp_az⟩
 | 342=>some ⟨"Tree","reply",2,sp_a4⟩
 | 349=>some ⟨"Tree","has_door",1,sp_ae⟩
 | 311=>some ⟨"Page","cut",1,sp_ah⟩
 | 304=>some ⟨"Page","own_cuts",0,sp_ar⟩
 | 348=>some ⟨"Tree","cuts_at",1,sp_ai⟩
 | _=>none
noncomputable def mks:Nat->Option MI
 | 300=>some ⟨"Page","__init__",1,sp_ag⟩
 | 320=>some ⟨"House","__init__",1,sp_aj⟩
 | 340=>some ⟨"Tree","__init__",2,sp_a8⟩
 | _=>none
noncomputable def fds:List (Str×Str):=[("Page","standing"),("Page","downs"),("Page","rows"),("Page","life"),("Page","top"),("House","turned"),("House","pages"),("House","zones"),("Tree","leads"),("Tree","doors"),("Tree","laid"),("Tree","street")]
noncomputable def tab:Tab:={ fn:=fns,kfn:=fun _=>none,con:=cons,bl:=bls,fx:=fun _=>none,cl:=fun _=>none,mt:=mts,ini:=mks,fd:=fds }
noncomputable abbrev sT(i:Nat):Stmt:=top i
noncomputable abbrev sM(i j:Nat):Stmt:=inClass (top i) j
noncomputable abbrev FnI(K:Frag)(nm:Str)(st:Stmt):Prop:=∃ f oc od sl kV dc pm an cd ct,nsIn K mainGlobals nm=some (some (.ref f))/\K.lookup f=some ⟨oc,od,.func (fnOf nm nm (zah st) (zac st) (za5 st) .none kV dc pm an cd ct),sl⟩/\codeIn K cd nm=true/\keepIn K (.ref f)=true
noncomputable abbrev MtI(K:Frag)(C:Addr)(nm qn:Str)(st:Stmt):Prop:=∃ f oc od sl kV dc pm an cd ct,findIn K (.ref C) nm=some (some (.ref f))/\isFn K (.ref f)=true/\K.lookup f=some ⟨oc,od,.func (fnOf nm qn (zah st) (zac st) (za5 st) .none kV dc pm an cd ct),sl⟩/\codeIn K cd qn=true/\keepIn K (.ref f)=true
theorem fnI{K:Frag}{nm:Str}{st:Stmt}{f:Addr}{oc:Value}{od:Option Addr}{sl:Array (Option Value)}{kV dc pm:Value}{an:Option Addr}{cd ct:Value}(q1:nsIn K mainGlobals nm=some (some (.ref f)))(q2:K.lookup f=some ⟨oc,od,.func (fnOf nm nm (zah st) (zac st) (za5 st) .none kV dc pm an cd ct),sl⟩)(q3:codeIn K cd nm=true)(q4:keepIn K (.ref f)=true):FnI K nm st:=⟨f,oc,od,sl,kV,dc,pm,an,cd,ct,q1,q2,q3,q4⟩
theorem mtI{K:Frag}{C:Addr}{nm qn:Str}{st:Stmt}{f:Addr}{oc:Value}{od:Option Addr}{sl:Array (Option Value)}{kV dc pm:Value}{an:Option Addr}{cd ct:Value}(q1:findIn K (.ref C) nm=some (some (.ref f)))(q0:isFn K (.ref f)=true)(q2:K.lookup f=some ⟨oc,od,.func (fnOf nm qn (zah st) (zac st) (za5 st) .none kV dc pm an cd ct),sl⟩)(q3:codeIn K cd qn=true)(q4:keepIn K (.ref f)=true):MtI K C nm qn st:=⟨f,oc,od,sl,kV,dc,pm,an,cd,ct,q1,q0,q2,q3,q4⟩
noncomputable abbrev ObI(K:Frag)(C:Addr):Prop:=plainGet K C Str.empty=true/\hasDictIn K C=true/\plainOver K C=true/\findIn K (.ref C) "__setattr__" = some (some (.builtin "object.__setattr__"))/\makesIn K C=true/\keepIn K (.ref C)=true
theorem ObI.cls{K:Frag}{C:Addr}(h:ObI K C):Cls K C:=⟨h.1,h.2.1,h.2.2.1,h.2.2.2.1⟩
structure BoI(T:Tab)(b:CS)(N ps:List Str)(nm qn:Str)(st:Stmt)(sp:DSp):Prop where
 sc:zaU N ps (za5 st)
 ck:(chkS T b).b ⟨N,(za5 st).names⟩ (zac st)=true
 ln:∀ ds M R,sp ds M R->ds.length=ps.length
 ok:∀ ds M R,sp ds M R->evS T b (za4 R) (za3 N ds) M
 bd:∀ (kV doc pm:Value) (an:Option Addr) (cdv ct:Value) (us:List Value),us.length=ps.length->bindArgs (fnOf nm qn (zah st) (zac st) (za5 st) .none kV doc pm an cdv ct) ⟨us,[]⟩=pure (ps.zip us)
 no:∀ c M,¬ T.xd c M
section
variable{P:Program}{w:World}{K:Frag}{h:Heap}{mg:Str->Option Value}{base:Heap}{T:Tab}{k:Nat}{b:CS}{N ps:List Str}{nm qn cl:Str}{st:Stmt}{sp:DSp}{C:Addr}{np:Nat}
theorem mkF(X:K.In h)(G:h.Ns mainGlobals mg)(H:FnI K nm st)(O:TabOk P w K mg base T k)(B:BoI T b N ps nm nm st sp)(e:ps.length=np):FOk P w K mg base ⟨nm,np,[],sp⟩ (k+1):=by
 obtain⟨f,oc,od,sl,kV,dc,pm,an,cd,ct,q1,q2,q3,q4⟩:=H;exact fok (Q5k b O (Q2X (st:=st) q2 q3 q4) B.sc B.ck B.ln B.ok B.no) (mg_of X G q1) q4 e ((Q6A (st:=st) q2 q3 q4).binds B.bd)
theorem mkM(oa:nsIn K mainGlobals cl=some (some (.ref C)))(ob:ObI K C)(H:MtI K C nm qn st)(O:TabOk P w K mg base T k)(B:BoI T b N ps nm qn st sp):MtOk P w K mg base ⟨cl,nm,np,sp⟩ (k+2):=by
 obtain⟨f,oc,od,sl,kV,dc,pm,an,cd,ct,q1,q0,q2,q3,q4⟩:=H;exact⟨k+1,C,f,_,_,Zo _,oa,ob.cls,⟨q1,q0,q4⟩,Q5k b O (Q2X (st:=st) q2 q3 q4) B.sc B.ck B.ln B.ok B.no,(Q6A (st:=st) q2 q3 q4).binds B.bd⟩
theorem mkI(X:K.In h)(G:h.Ns mainGlobals mg)(oa:nsIn K mainGlobals cl=some (some (.ref C)))(ob:ObI K C)(H:MtI K C "__init__" qn st)(O:TabOk P w K mg base T k)(B:BoI T b N ps "__init__" qn st sp):MkOk P w K mg base ⟨cl,"__init__",np,sp⟩ (k+2):=by
 obtain⟨f,oc,od,sl,kV,dc,pm,an,cd,ct,q1,q0,q2,q3,q4⟩:=H;exact⟨k+1,C,f,_,_,Zo _,oa,mg_of X G oa,⟨ob.2.2.2.2.1,q1,q0,ob.2.2.2.2.2⟩,Q5k b O (Q2X (st:=st) q2 q3 q4) B.sc B.ck B.ln B.ok B.no,(Q6A (st:=st) q2 q3 q4).binds B.bd⟩
end
theorem QbA:∀ ds M R,sp_law ds M R->ds.length=1:=by
 intro ds M R h;unfold sp_law dLaw at h;split at h
 ·rfl
 ·exact h.elim
open Lean in def mkN (p x:String):Ident:=mkIdent (Name.mkSimple (p++x))
open Lean in def mkS (xs : List String) : Array (TSyntax `term):=(xs.map fun s=>⟨(Syntax.mkStrLit s).raw⟩).toArray
set_option hygiene false
local macro_rules | `(tactic| walk_at "ln")=>`(tactic| (intro _ _ _ h; repeat (first | exact congrArg List.length h.1 | (refine Exists.elim h ?_; clear h; intro _ h))))
open Lean in
local macro_rules | `(tactic| walk_at $s:str) => do
 let a:=(s.getString.splitOn " ").toArray
 let wd:=a[0]!
 if !["dF","dM","dI","dL"].contains wd then Macro.throwUnsupported
 let q:=a[1]!
 let g:=fun(p:String)=>mkN p q
 let h:=fun(p:String)=>mkN p a[2]!
 do
  let x:=(a[3]!.drop 3).toString
  let pl:=a[4]!.splitOn "."
  let st : TSyntax `term <- match pl with
   | [i, j] => `(sM $(Syntax.mkNumLit i) $(Syntax.mkNumLit j))
   | _ => `(sT $(Syntax.mkNumLit a[4]!))
  let np:=a[5]!.toNat!
  let lv:=Syntax.mkNumLit a[6]!
  let calls:=(a[7]!.splitOn ",").filter (fun e=>e != "" && e != "-")
  let ns:=mkS (a[8]!.splitOn ",")
  let ps:=ns.extract 0 np
  let nr:=a[9]!.toNat!
  let mut acc : TSyntax `term <- `(TN)
  for e in calls.reverse do
   let c:=(e.toList.filter (fun c=>!c.isDigit)).head!
   let ab:=e.splitOn c.toString
   let n:=Syntax.mkNumLit ab[0]!
   let r:=mkN "R" ab[1]!
   acc <- match c with
    | 'M' => `(TabOk.consM (T := tab) (f := $n) rfl (MtOk.mono $r (by decide)) $acc rfl rfl)
    | 'I' => `(TabOk.consI (T := tab) (f := $n) rfl (MkOk.mono $r (by decide)) $acc rfl rfl)
    | _ => `(TabOk.cons (T := tab) (f := $n) rfl (FOk.mono $r (by decide)) $acc rfl rfl)
  let cs : Array (TSyntax `term):=(calls.map fun e=>⟨(Syntax.mkNumLit (String.ofList (e.toList.takeWhile Char.isDigit))).raw⟩).toArray
  let mut ok : TSyntax `term:=mkN "ok_" x
  if nr != 0 then
   ok <- `($ok _)
   for _ in [0:nr] do ok <- `($ok rfl)
  let ln : TSyntax `term <- if x == "law" then `(QbA) else `(by walk_at "ln")
  let mut t : TSyntax `term <- `(rfl)
  for _ in [0:np] do t <- `(fun _ => $t)
  let le:=(#[mkIdent `len1,mkIdent `len2,mkIdent `len3,mkIdent `len4,mkIdent `len5])[np - 1]!
  let sc <- `(⟨rfl,rfl,rfl,by decide +kernel,rfl,by decide +kernel,by decide +kernel⟩)
  let w':=fun(p:String)=>mkN p (a[10]?.getD "")
  let nm:=Syntax.mkStrLit (a[11]?.getD "")
  let cl:=Syntax.mkStrLit (a[12]?.getD "")
  let nq:=Syntax.mkNumLit (toString (if wd == "dF" then np else np-1))
  let ac2 <- `((show TabOk l.prog w K mg base (tab.only [$cs,*]) ($lv - 1) from $acc))
  let bo <- `((BoI.mk (T := tab.only [$cs,*]) (b := $(mkN "b_" x)) (N := [$ns,*]) (ps := [$ps,*]) (st := $st) (sp := $(mkN "sp_" x)) $sc (by decide +kernel) $ln $ok (fun _ _ _ _ _ _ us hl => $le us hl $t) (fun _ _ h => h)))
  match wd with
  | "dL" => `(tactic| have $(g "Q") := Q5k (sp := $(mkN "sp_" x)) (N := [$ns,*]) (ps := [$ps,*]) $(mkN "b_" x) $ac2 (Q2X (st := $st) $(h "l") $(h "c") $(h "k")) $sc (by decide +kernel) $ln $ok)
  | "dF" => `(tactic| have $(g "R") : FOk l.prog w K mg base ⟨$nm, $nq, [], $(mkN "sp_" x)⟩ $lv := mkF X G $(h "h") $ac2 $bo rfl)
  | "dM" => `(tactic| have $(g "R") : MtOk l.prog w K mg base ⟨$cl, $nm, $nq, $(mkN "sp_" x)⟩ ($lv + 1) := mkM $(w' "oa") $(w' "ob") $(h "h") $ac2 $bo)
  | _ => `(tactic| have $(g "R") : MkOk l.prog w K mg base ⟨$cl, $nm, $nq, $(mkN "sp_" x)⟩ ($lv + 1) := mkI X G $(w' "oa") $(w' "ob") $(h "h") $ac2 $bo)
set_option hygiene true
set_option maxHeartbeats 4000000 in
theorem all_mk{l:OpenLaw}{w:World}{K:Frag}{h:Heap}{mg:Str->Option Value}{fa:Addr}(X:K.In h)(G:h.Ns mainGlobals mg)(hfa:mg "law" = some (.ref fa))
  {Ob0:Addr} (oa0:nsIn K mainGlobals "Tree" = some (some (.ref Ob0))) (ob0:ObI K Ob0)
  (nf8:findIn K (.ref Ob0) "leads" = some none)
  (nf9:findIn K (.ref Ob0) "doors" = some none)
  (nf10:findIn K (.ref Ob0) "laid" = some none)
  (nf11:findIn K (.ref Ob0) "street" = some none)
  {Ob1:Addr} (oa1:nsIn K mainGlobals "Page" = some (some (.ref Ob1))) (ob1:ObI K Ob1)
  (nf0:findIn K (.ref Ob1) "standing" = some none)
  (nf1:findIn K (.ref Ob1) "downs" = some none)
  (nf2:findIn K (.ref Ob1) "rows" = some none)
  (nf3:findIn K (.ref Ob1) "life" = some none)
  (nf4:findIn K (.ref Ob1) "top" = some none)
  {Ob2:Addr} (oa2:nsIn K mainGlobals "House" = some (some (.ref Ob2))) (ob2:ObI K Ob2)
  (nf5:findIn K (.ref Ob2) "turned" = some none)
  (nf6:findIn K (.ref Ob2) "pages" = some none)
  (nf7:findIn K (.ref Ob2) "zones" = some none)
  (h0:FnI K "at_or_beneath" (sT 3))
  (h1:FnI K "above" (sT 4))
  (h2:FnI K "is_star_name" (sT 5))
  (h3:FnI K "values_of" (sT 14))
  (h4:FnI K "least_life" (sT 15))
  (h5:FnI K "copied_zone" (sT 18))
  (h6:MtI K Ob0 "settle" "Tree.settle" (sM 28 9))
  (h7:MtI K Ob0 "enters" "Tree.enters" (sM 28 8))
  (h8:MtI K Ob1 "rows_at" "Page.rows_at" (sM 13 9))
  (h9:MtI K Ob1 "reply_at" "Page.reply_at" (sM 13 8))
  (h10:MtI K Ob1 "has" "Page.has" (sM 13 2))
  (h11:MtI K Ob1 "place_of" "Page.place_of" (sM 13 7))
  (h12:MtI K Ob1 "reply_down" "Page.reply_down" (sM 13 6))
  (h13:MtI K Ob1 "cut" "Page.cut" (sM 13 3))
  (h14:MtI K Ob1 "reply" "Page.reply" (sM 13 5))
  (h15:MtI K Ob1 "lay" "Page.lay" (sM 13 1))
  (h16:MtI K Ob1 "__init__" "Page.__init__" (sM 13 0))
  (h17:MtI K Ob2 "page" "House.page" (sM 19 6))
  (h18:MtI K Ob2 "reply" "House.reply" (sM 19 8))
  (h19:MtI K Ob2 "__init__" "House.__init__" (sM 19 0))
  (h20:MtI K Ob0 "house" "Tree.house" (sM 28 1))
  (h21:MtI K Ob0 "reply_so_far" "Tree.reply_so_far" (sM 28 5))
  (h22:MtI K Ob0 "follows" "Tree.follows" (sM 28 7))
  (h23:MtI K Ob0 "finds_door" "Tree.finds_door" (sM 28 6))
  (h24:MtI K Ob0 "reply" "Tree.reply" (sM 28 4))
  (h25:MtI K Ob0 "has_door" "Tree.has_door" (sM 28 3))
  (h27:MtI K Ob1 "own_cuts" "Page.own_cuts" (sM 13 4))
  (h28:MtI K Ob0 "cuts_at" "Tree.cuts_at" (sM 28 2))
  (h29:MtI K Ob0 "__init__" "Tree.__init__" (sM 28 0))
  (h30:FnI K "charges" (sT 24))
  (h31:FnI K "word_of" (sT 27))
  (h32:FnI K "step_behind" (sT 26))
  (h33:FnI K "truth" (sT 25))
  (h34:FnI K "_law_cell_at" (sT 30))
  (h35:FnI K "_law_word" (sT 31))
  (h36:FnI K "_law_house" (sT 32))
  (h37:FnI K "_law_houses" (sT 33))
  (h38:FnI K "_law_due" (sT 34))
  (h39:FnI K "_law_depth" (sT 35))
  (h40:FnI K "law" (sT 36))
  (z0:nsIn K mainGlobals "len" = some none)
  (z1:nsIn K mainGlobals "range" = some none)
  (z2:nsIn K mainGlobals "sorted" = some none)
  (z3:nsIn K mainGlobals "min" = some none)
  (z4:nsIn K mainGlobals "list" = some none)
  (z5:nsIn K mainGlobals "dict" = some none)
  (z6:nsIn K mainGlobals "str" = some none)
  (z7:nsIn K mainGlobals "int" = some none)
  (z8:nsIn K mainGlobals "isinstance" = some none)
  (z9:nsIn K mainGlobals "tuple" = some none)
  {y0:Tok} (g0:nsIn K mainGlobals "STAR" = some (some (.str "*" y0)))
  {y1:Tok} (g1:nsIn K mainGlobals "ELSE" = some (some (.str "else" y1)))
  {y2:Tok} (g2:nsIn K mainGlobals "DOWN" = some (some (.str "down" y2)))
  {y3:Tok} (g3:nsIn K mainGlobals "DOOR" = some (some (.str "door" y3)))
  {y4:Tok} (g4:nsIn K mainGlobals "ROWS" = some (some (.str "rows" y4)))
  {y5:Tok} (g5:nsIn K mainGlobals "EMPTY" = some (some (.str "empty" y5)))
  {y6:Tok} (g6:nsIn K mainGlobals "NONE" = some (some (.str "none" y6)))
  {y7:Tok} (g7:nsIn K mainGlobals "AWAY" = some (some (.str "away" y7)))
  {y8:Tok} (g8:nsIn K mainGlobals "LOST" = some (some (.str "lost" y8)))
  {y9:Tok} (g9:nsIn K mainGlobals "RING" = some (some (.str "ring" y9)))
  {y10:Tok} (g10:nsIn K mainGlobals "ASKED" = some (some (.str "asked" y10)))
  : ∃ fd:FuncData,(∀ (s:Shared) (v:Value),BindsTo s fd ⟨[v],[]⟩ [("_law_script",v)])/\∀ base:Heap,K.In base->base.Ns mainGlobals mg->FnOk l.prog w K mg base CX0 20 fa fd ["_law_script"] (lSp K sp_law):=by
 obtain⟨f40,oc40,od40,sl40,kV40,dc40,pm40,an40,cd40,ct40,a40,l40,c40,k40⟩:=h40;have e:=hfa.symm.trans (mg_of X G a40);cases e;have nb:∀ x∈bls,mg x=none:=by
  intro x hx;simp only[bls,Z3,ZR,or_false]at hx;rcases hx with rfl | rfl | rfl | rfl | rfl | rfl | rfl | rfl | rfl | rfl
  ·exact mg_none_of X G z0
  ·exact mg_none_of X G z1
  ·exact mg_none_of X G z2
  ·exact mg_none_of X G z3
  ·exact mg_none_of X G z4
  ·exact mg_none_of X G z5
  ·exact mg_none_of X G z6
  ·exact mg_none_of X G z7
  ·exact mg_none_of X G z8
  ·exact mg_none_of X G z9
 have hcon:∀ i p,cons i=some p->∃ u v,mg p.1=some u/\L2.RelV v u/\∀ H,Den K H p.2 v:=by
  intro i p hp;unfold cons at hp;split at hp
  ·cases hp;exact Q0H (mg_of X G g0) (by decide +kernel) (by decide +kernel)
  ·cases hp;exact Q0H (mg_of X G g1) (by decide +kernel) (by decide +kernel)
  ·cases hp;exact Q0H (mg_of X G g2) (by decide +kernel) (by decide +kernel)
  ·cases hp;exact Q0H (mg_of X G g3) (by decide +kernel) (by decide +kernel)
  ·cases hp;exact Q0H (mg_of X G g4) (by decide +kernel) (by decide +kernel)
  ·cases hp;exact Q0H (mg_of X G g5) (by decide +kernel) (by decide +kernel)
  ·cases hp;exact Q0H (mg_of X G g6) (by decide +kernel) (by decide +kernel)
  ·cases hp;exact Q0H (mg_of X G g7) (by decide +kernel) (by decide +kernel)
  ·cases hp;exact Q0H (mg_of X G g8) (by decide +kernel) (by decide +kernel)
  ·cases hp;exact Q0H (mg_of X G g9) (by decide +kernel) (by decide +kernel)
  ·cases hp;exact Q0H (mg_of X G g10) (by decide +kernel) (by decide +kernel)
  ·cases hp
 have hcl:∀ c x,tab.cl c=some x->∃ C,mg x=some (.ref C)/\ClsOk K mg tab.toTabC c x C:=fun c x h=>nomatch h
 have hfd:∀ p∈tab.fd,FdOk K p.1 p.2:=by
  intro p hp;simp only[tab,fds,Z3,ZR,or_false]at hp;rcases hp with rfl | rfl | rfl | rfl | rfl | rfl | rfl | rfl | rfl | rfl | rfl | rfl
  ·exact⟨Ob1,oa1,ob1.cls,nf0⟩
  ·exact⟨Ob1,oa1,ob1.cls,nf1⟩
  ·exact⟨Ob1,oa1,ob1.cls,nf2⟩
  ·exact⟨Ob1,oa1,ob1.cls,nf3⟩
  ·exact⟨Ob1,oa1,ob1.cls,nf4⟩
  ·exact⟨Ob2,oa2,ob2.cls,nf5⟩
  ·exact⟨Ob2,oa2,ob2.cls,nf6⟩
  ·exact⟨Ob2,oa2,ob2.cls,nf7⟩
  ·exact⟨Ob0,oa0,ob0.cls,nf8⟩
  ·exact⟨Ob0,oa0,ob0.cls,nf9⟩
  ·exact⟨Ob0,oa0,ob0.cls,nf10⟩
  ·exact⟨Ob0,oa0,ob0.cls,nf11⟩
 refine⟨fnOf "law" "law" (zah (sT 36)) (zac (sT 36)) (za5 (sT 36)) .none kV40 dc40 pm40 an40 cd40 ct40,fun s v=>.of_eq rfl,fun base kb nbase=>?_⟩;have TN:∀ {k:Nat},TabOk l.prog w K mg base (tab.only []) k:=TabOk.nil hcon nb hcl (hfd:=hfd);walk_at "dF 0 0 ok_ax 3 2 1 - name,top 0 - at_or_beneath";walk_at "dF 1 1 ok_a1 4 1 1 - name 0 - above";walk_at "dF 2 2 ok_aw 5 1 1 - name 1 - is_star_name";walk_at "dF 3 3 ok_aa 14 1 1 - rows 0 - values_of";walk_at "dF 4 4 ok_a9 15 1 1 - rows 0 - least_life";walk_at "dF 5 5 ok_aD 18 1 1 - zone 0 - copied_zone";walk_at "dM 6 6 ok_a6 28.9 3 1 - self,chain,door,cut,step 0 0 settle Tree";walk_at "dM 7 7 ok_a3 28.8 4 3 347M6 self,chain,cut,name 1 0 enters Tree";walk_at "dM 8 8 ok_ab 13.9 3 1 - self,place,kind 0 1 rows_at Page";walk_at "dM 9 9 ok_as 13.8 3 3 24F4,23F3,309M8,5F2 self,place,kind,others,rows 8 1 reply_at Page";walk_at "dM 10 10 ok_at 13.2 2 1 - self,name 0 1 has Page";walk_at "dM 11 11 ok_aq 13.7 2 3 302M10,2F1 self,name,nearest 3 1 place_of Page";walk_at "dM 12 12 ok_au 13.6 2 3 24F4,23F3,1F0,309M8 self,cut,down,house,doors 6 1 reply_down Page";walk_at "dM 13 13 ok_av 13.3 2 2 2F1 self,name,wider 1 1 cut Page";walk_at "dM 14 14 ok_aC 13.5 3 5 308M9,307M11,306M12,303M13 self,name,kind,cut 4 1 reply Page";walk_at "dM 15 15 ok_aA 13.1 2 1 - self,row,name 1 1 lay Page";walk_at "dI 16 16 ok_ag 13.0 2 3 301M15 self,zone,row 1 1 __init__ Page";walk_at "dM 17 17 ok_ad 19.6 2 5 300I16 self,top 1 2 page House";walk_at "dM 18 18 ok_a2 19.8 4 7 305M14,323M17 self,top,name,kind,page 3 2 reply House";walk_at "dI 19 19 ok_aj 19.0 2 1 - self,zones 0 2 __init__ House";walk_at "dM 20 20 ok_a0 28.1 2 3 320I19 self,door 1 0 house Tree";walk_at "dM 21 21 ok_a5 28.5 3 9 325M18,341M20,2F1 self,name,kind,top,reply 4 0 reply_so_far Tree";walk_at "dM 22 22 ok_ay 28.7 2 11 346M7,347M6,343M21 self,chain,reply 7 0 follows Tree";walk_at "dM 23 23 ok_az 28.6 3 13 345M22,346M7 self,cut,house,chain,leads_on 2 0 finds_door Tree";walk_at "dM 24 24 ok_a4 28.4 3 15 344M23,343M21 self,name,kind,reply 3 0 reply Tree";walk_at "dM 25 25 ok_ae 28.3 2 17 342M24 self,cut 2 0 has_door Tree";walk_at "dM 26 13 ok_ah 13.3 2 2 2F1 self,name,wider 1 1 cut Page";walk_at "dM 27 27 ok_ar 13.4 1 4 311M26 self 1 1 own_cuts Page";walk_at "dM 28 28 ok_ai 28.2 2 7 304M27,323M17,341M20 self,name,page 3 0 cuts_at Tree";walk_at "dI 29 29 ok_a8 28.0 3 1 - self,houses,root 0 0 __init__ Tree";walk_at "dF 30 30 ok_ao 24 2 19 349M25,348M28,340I29 houses,root,tree,names,cuts 3 - charges";walk_at "dF 31 31 ok_al 27 2 1 - waits,reply 3 - word_of";walk_at "dF 32 32 ok_ac 26 2 1 - reply,kind 3 - step_behind";walk_at "dF 33 33 ok_aB 25 4 17 72F31,71F32,342M24,340I29 houses,root,N,K,tree,waits,met,reply,step,question,word 7 - truth";walk_at "dF 34 34 ok_an 30 2 1 - _law_script,_law_k 0 - _law_cell_at";walk_at "dF 35 35 ok_ap 31 1 1 - _law_cell,_law_letters,_law_word_here,_law_k,_law_number 0 - _law_word";walk_at "dF 36 36 ok_a7 32 3 1 - _law_name,_law_far,_law_k 0 - _law_house";walk_at "dF 37 37 ok_ak 33 5 2 102F36 _law_name,_law_far,_law_many,_law_life,_law_bad,_law_rows,_law_k,_law_house_here,_law_houses_here 1 - _law_houses";walk_at "dF 38 38 ok_am 34 4 2 102F36 _law_name,_law_far,_law_many,_law_bad,_law_first,_law_house_here 1 - _law_due";walk_at "dF 39 39 ok_af 35 2 1 - _law_name,_law_bad 0 - _law_depth";walk_at "dL 40 40 ok_law 36 1 20 104F38,70F33,105F39,73F30,103F37,100F34,101F35 _law_script,_law_name,_law_far,_law_many,_law_bad,_law_houses_here,_law_found,_law_due_here,_law_answer 7";exact Q40
theorem walk{l:OpenLaw}{q:Program}{loose:List Str}{XP:(Str->Option Value)->Heap->Prop}{YP:World->Heap->Prop}{d:DefRec}{K:Params->Frag}(hn:l.most=some 63)(hdf:d.params.defaults=[])
  (hY:∀ (w:World) (h:Heap),YP w h->(K w.params).In h)
  (F:∀ (w:World) (mg:Str->Option Value) (fa:Addr) (h:Heap),(K w.params).In h->h.Ns mainGlobals mg->mg d.name=some (.ref fa) ->
   ∃ fd:FuncData,(∀ (s:Shared) (u:Value),BindsTo s fd ⟨[u],[]⟩ [("_law_script",u)])/\∀ base:Heap,(K w.params).In base->base.Ns mainGlobals mg->FnOk l.prog w (K w.params) mg base CX0 20 fa fd ["_law_script"] (lSp (K w.params) sp_law)) :
  PySem.W.WalkO q loose XP YP l.row.toRowW d [] (fun f vs=>PySem.call f vs) :=
 L2.walk_of (n:=63) (k:=20) (x:="_law_script") (CX:=fun _=>CX0) (sp:=fun w=>lSp (K w.params) sp_law) hn (by decide) hdf ⟨rfl,by decide,by decide⟩ hY F (fun _ _ a ns hl hO hS=>Qcr hl hO hS) fun _ _ _ _ _ z=>z
end My
open PySem PySem.W PyProof.Rows
set_option hygiene false
open Lean in
local macro_rules | `(tactic| walk_at $s:str) => do
 let a:=s.getString.splitOn " "
 if a.head! != "dK" then Macro.throwUnsupported
 let mut ts : Array (TSyntax `tactic):=#[]
 for e in a.tail! do
  let x:=My.mkN "" e
  let t <- match e.toList.head! with
   | 'f' => `(tactic| case $x:ident => (refine' My.fnI ?q1 ?q2 ?q3 ?q4; (case q1 => k_is); (case q2 => k_is); (case q3 => k_is); (case q4 => k_is)))
   | 'm' => `(tactic| case $x:ident => (refine' My.mtI ?q1 ?q2 ?q3 ?q4 ?q5; (case q1 => k_is); (case q2 => k_is); (case q3 => k_is); (case q4 => k_is); (case q5 => k_is)))
   | 'o' => `(tactic| case $x:ident => (refine ⟨?_, ?_, ?_, ?_, ?_, ?_⟩ <;> k_is))
   | _ => `(tactic| case $x:ident => k_is)
  ts:=ts.push t
 `(tactic| ($[$ts]*))
set_option hygiene true
set_option maxRecDepth 100000 in
set_option maxHeartbeats 0 in
theorem PySem.Challenge.cw_namewell_k47_deep_trees_holds : PySem.Challenge.rw_namewell_k47_deep_trees.Holds := by
 refine TH.pack.2 ?_
 delta TH.pack;dsimp only
 k_fill
 refine My.walk (l:=PySem.Challenge.rw_namewell_k47_deep_trees) rfl rfl (fun w h Y=>PySem.W.kIn_of Y) ?F
 case F =>
  intro w mg fa h KX G hmg;refine' My.all_mk KX G hmg ?zo0 ?ob0 ?nf8 ?nf9 ?nf10 ?nf11 ?zo1 ?ob1 ?nf0 ?nf1 ?nf2 ?nf3 ?nf4 ?zo2 ?ob2 ?nf5 ?nf6 ?nf7 ?f0 ?f1 ?f2 ?f3 ?f4 ?f5 ?m6 ?m7 ?m8 ?m9 ?m10 ?m11 ?m12 ?m13 ?m14 ?m15 ?m16 ?m17 ?m18 ?m19 ?m20 ?m21 ?m22 ?m23 ?m24 ?m25 ?m27 ?m28 ?m29 ?f30 ?f31 ?f32 ?f33 ?f34 ?f35 ?f36 ?f37 ?f38 ?f39 ?f40 ?z0 ?z1 ?z2 ?z3 ?z4 ?z5 ?z6 ?z7 ?z8 ?z9 ?g0 ?g1 ?g2 ?g3 ?g4 ?g5 ?g6 ?g7 ?g8 ?g9 ?g10;walk_at "dK zo0 ob0 nf8 nf9 nf10 nf11 zo1 ob1 nf0 nf1 nf2 nf3 nf4 zo2 ob2 nf5 nf6 nf7 f0 f1 f2 f3 f4 f5 m6 m7 m8 m9 m10 m11 m12 m13 m14 m15 m16 m17 m18 m19 m20 m21 m22 m23 m24 m25 m27 m28 m29 f30 f31 f32 f33 f34 f35 f36 f37 f38 f39 f40 z0 z1 z2 z3 z4 z5 z6 z7 z8 z9 g0 g1 g2 g3 g4 g5 g6 g7 g8 g9 g10"
