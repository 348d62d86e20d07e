import PyProof.Rows.All
import Wide.All
import OpenK.AllK
import Wide.FinOn
import Lean
import PyProof.EqAt
import PyProof.EqKinds
import PyProof.TupleCall
import PyProof.EnumMake
import PyProof.AttrMissHeap
import KE.KDictOf
import KE.KEqDict
import KE.KDictSum
import PySem.Challenge.RW_namewell_k16_whole_any_lines
import PyProof.ExcClass3
import PyProof.InstStoreFacts
import PyProof.ExcBaseAll.ValueError
open List(all_cons all_eq_true any_cons any_eq_true append_assoc append_inj' append_nil cons_append cons_ne_nil contains_cons drop_eq_getElem_cons drop_eq_nil_of_le drop_length drop_zero filterMap_cons filter_cons find?_cons flatten_cons foldl_cons forIn_cons getD_eq_getElem?_getD getElem?_append_left getElem?_eq_getElem getElem?_map getElem_mem isEmpty_iff length_append length_cons length_drop length_map length_nil length_pos_iff length_replicate length_reverse length_take lookup_cons map_append map_congr_left map_cons map_drop map_id map_map map_nil map_reverse map_take mem_append mem_append_left mem_append_right mem_cons mem_cons_of_mem mem_cons_self mem_filter mem_map mem_of_getElem? mem_of_mem_take mem_range mem_reverse mem_singleton nil_append nodup_cons not_mem_nil of_mem_zip replicate_succ reverse_append reverse_cons set_comm size_toArray takeWhile_cons take_add_one take_length take_of_length_le)
open Nat(add_mul le_of_eq le_of_lt le_of_not_lt le_refl le_succ le_total le_trans lt_irrefl lt_of_le_of_lt lt_of_lt_of_le lt_trans min_eq_left min_eq_right mul_le_mul_right ne_of_gt ne_of_lt not_lt sub_le zero_le)
open Bool(and_eq_true eq_false_iff false_eq_true not_eq_true' or_eq_true)
open PySem.W(Frag OpenLaw binds_K callWith_K cellsFrom_some codeIn codeRec_of findIn fnOf handed_on hasDictIn instObj isFn keepIn kia_one kitOne kitx_dict kitx_list kitx_tuple looks_clsIn looks_findIn looks_mroIn looks_takesIn looks_typeIn makesIn methodObj mg_none_of mg_of nsIn plainGet plainOver)
open PySem.F(args_tuple_add_2 entry_tuple_add excBase_ValueError plainAttrs_str slot_str_join slot_tuple_add type_str_join)
section
open PySem PySem.Spec PyProof.Rows
theorem Za:type_of%(@wpAny_bind):=@wpAny_bind
theorem Zb:type_of%(@Heap.get?_push_of_some):=@Heap.get?_push_of_some
theorem Zc:type_of%(@and_eq_true):=@and_eq_true
theorem Zd:type_of%(@length_append):=@length_append
theorem Ze:type_of%(@decide_eq_true):=@decide_eq_true
theorem Zf:type_of%(@decide_eq_true_eq):=@decide_eq_true_eq
theorem Zg:type_of%(@decide_eq_false):=@decide_eq_false
theorem Zh:type_of%(@wpAny_pure):=@wpAny_pure
theorem Zi:type_of%(@length_map):=@length_map
theorem Zj:type_of%(@if_neg):=@if_neg
theorem Zk:type_of%(@length_cons):=@length_cons
theorem Zl:type_of%(@mem_cons_self):=@mem_cons_self
theorem Zm:type_of%(@if_pos):=@if_pos
theorem Zn:type_of%(@Heap.lt_size):=@Heap.lt_size
theorem Zo:type_of%(@mem_cons_of_mem):=@mem_cons_of_mem
theorem Zp:type_of%(@mem_singleton):=@mem_singleton
theorem Zq:type_of%(@getElem?_eq_getElem):=@getElem?_eq_getElem
theorem Zr:type_of%(@lt_of_lt_of_le):=@lt_of_lt_of_le
theorem Zs:type_of%(@Heap.get?_push_size):=@Heap.get?_push_size
theorem Zt:type_of%(@beq_iff_eq):=@beq_iff_eq
theorem Zu:type_of%(@length_nil):=@length_nil
theorem Zv:type_of%(@List.getElem?_eq_some_iff):=@List.getElem?_eq_some_iff
theorem Zw:type_of%(@of_decide_eq_true):=@of_decide_eq_true
theorem Zx:type_of%(@mem_cons):=@mem_cons
theorem Zy:type_of%(@mem_append_right):=@mem_append_right
theorem Zz:type_of%(@le_refl):=@le_refl
theorem Z0:type_of%(@mem_of_getElem?):=@mem_of_getElem?
theorem Z1:type_of%(@Option.some.inj):=@Option.some.inj
theorem Z2:type_of%(@Int.eq_ofNat_of_zero_le):=@Int.eq_ofNat_of_zero_le
theorem Z3:type_of%(@mem_append):=@mem_append
theorem Z4:type_of%(@wpAny_mono):=@wpAny_mono
theorem Z5:type_of%(@all_eq_true):=@all_eq_true
theorem Z6:type_of%(@decide_eq_false_iff_not):=@decide_eq_false_iff_not
theorem Z7:type_of%(@le_trans):=@le_trans
theorem Z8:type_of%(@map_cons):=@map_cons
theorem Z9:type_of%(@append_assoc):=@append_assoc
theorem ZA:type_of%(@Bool.false_ne_true):=@Bool.false_ne_true
theorem ZB:type_of%(@length_reverse):=@length_reverse
theorem ZC:type_of%(@getElem?_map):=@getElem?_map
theorem ZD:type_of%(@ne_of_lt):=@ne_of_lt
theorem ZE:type_of%(@wpAny_field):=@wpAny_field
theorem ZF:type_of%(@mg_of):=@mg_of
theorem ZG:type_of%(@not_eq_true'):=@not_eq_true'
theorem ZH:type_of%(@size_toArray):=@size_toArray
theorem ZI:type_of%(@PyProof.Rows.slot_tuple_getitem):=@PyProof.Rows.slot_tuple_getitem
theorem ZJ:type_of%(@Heap.get?_update_self):=@Heap.get?_update_self
theorem ZK:type_of%(@mem_append_left):=@mem_append_left
theorem ZL:type_of%(@Option.bind_eq_some_iff):=@Option.bind_eq_some_iff
theorem ZM:type_of%(@plainAttrs_str):=@plainAttrs_str
theorem ZN:type_of%(@not_mem_nil):=@not_mem_nil
theorem ZO:type_of%(@Int.toNat_natCast):=@Int.toNat_natCast
theorem ZP:type_of%(@wpAny_newObj_type):=@wpAny_newObj_type
theorem ZQ:type_of%(@lookup_cons):=@lookup_cons
theorem ZR:type_of%(@wpAny_loadPart_at):=@wpAny_loadPart_at
theorem ZS:type_of%(@take_of_length_le):=@take_of_length_le
theorem ZT:type_of%(@false_eq_true):=@false_eq_true
theorem ZU:type_of%(@length_take):=@length_take
theorem ZV:type_of%(@Ne.symm):=@Ne.symm
theorem ZW:type_of%(@all_cons):=@all_cons
theorem ZX:type_of%(@wpAny_Call_Name_kw):=@wpAny_Call_Name_kw
theorem ZY:type_of%(@map_append):=@map_append
theorem ZZ:type_of%(@drop_eq_getElem_cons):=@drop_eq_getElem_cons
theorem Yb:type_of%(@wpAny_truthy_bool):=@wpAny_truthy_bool
theorem Yc:type_of%(@drop_eq_nil_of_le):=@drop_eq_nil_of_le
theorem Yd:type_of%(@Heap.get?_update_other):=@Heap.get?_update_other
theorem Ye:type_of%(@wpAny_holding):=@wpAny_holding
theorem Yg:type_of%(@mem_reverse):=@mem_reverse
theorem Yh:type_of%(@Array.getElem?_eq_some_iff):=@Array.getElem?_eq_some_iff
theorem Yi:type_of%(@Int.emod_lt_of_pos):=@Int.emod_lt_of_pos
theorem Yj:type_of%(@if_false):=@if_false
theorem Yk:type_of%(@Option.isSome_iff_exists):=@Option.isSome_iff_exists
end
set_option hygiene false in
local macro_rules | `(tactic| walk_at "q0") => `(tactic| (
 refine ix_tup (by decide) (by simp only[Zk,Zu];omega) fun d0 hd0=>?_
 cases hd0))
set_option hygiene false in
local macro_rules | `(tactic| walk_at "q1") => `(tactic| (
 refine Q0a fun k1 e1=>?_;walk_at "ev"))
set_option Elab.async false
set_option linter.all false
set_option compiler.extract_closed false
set_option maxRecDepth 100000
namespace TH
open PySem PySem.W
noncomputable def topT(p:Program)(w:World)(m:Nat)(ann:Option Value):Nat->SharedT->Thread->Option SharedT
 | 0,_,_=>none
 | n+1,s,t =>
  match through t with
  | true=>some s
  | false =>
   match stepOk m ann t with
   | false=>none
   | true =>
    match stepT (denote treeTable) p w s t with
    | none=>none
    | some (s',t')=>topT p w m ann n s' t'
theorem Q6f{p:Program}{w:World}{m:Nat}{ann:Option Value}:∀ {n:Nat} {s r:SharedT} {t:Thread},
  topT p w m ann n s t=some r->topRun treeTable p w m ann n s.abs t=some r.abs
 | 0,_,_,_,h=>by cases h
 | n+1,s,r,t,h=>by
  unfold topT at h;unfold topRun;cases ht:through t with
  | true=>rw[ht]at h;cases h;rfl
  | false =>
   rw[ht]at h;cases hk:stepOk m ann t with
   | false=>rw[hk]at h;cases h
   | true =>
    rw[hk]at h;cases hs:stepT (denote treeTable) p w s t with
    | none=>rw[hs]at h;cases h
    | some x =>
     obtain⟨s₂,t₂⟩:=x;rw[hs]at h;rw[stepT_spec hs];exact Q6f h
noncomputable def treeL(l:List Obj):Nat->Nat->Nat->BT
 | 0,_,_=>.nil
 | f+1,a,b =>
  match l[b]? with
  | some o=>.node o (treeL l f (2 * a) (a+b)) (treeL l f (2 * a) (2 * a+b))
  | none=>.nil
noncomputable def bootT(P:Params):BT:=treeL (boot_heap P).objs.toList 5 1 0
theorem Q6g(P:Params):absHeap (bootT P) 11 (boot_heap P).life=boot_heap P:=by kernel_rfl
theorem Q6h(P:Params):((boot_heap P).isNs mainGlobals,(boot_heap P).objs.size,(boot_heap P).nsMap mainGlobals "__annotations__")=(true,11,some (.ref 6)):=by kernel_rfl
noncomputable def beginT(w:World)(os:OsState):SharedT:=⟨bootT w.params,11,(boot_heap w.params).life,Array.mk [],boot_drawn,boot_toks,os⟩
noncomputable def runT(p:Program)(N:Nat)(w:World)(os:OsState):Option SharedT:=topT p w 11 (some (.ref 6)) N (beginT w os) (topStub p)
theorem Q9T{p q:Program}{loose:List Str}{Xt:Shared->Bool}{α:Type}{Yf:Shared->α}{Ya:World->α}{N:Nat}{g0:Bool}
  (e:opening p=plainProg p.main.scope.names) (hN:Nat.ble 600 N=true) (f:∀ s,fenceModules? p s=some s)
  (c1:∀ (w:World) (os:OsState),(runT p N w os).map (fun s=>staticsOk (importedModules p.main.body) (boot_heap w.params) s.abs.heap&&namesBound p s.abs.heap&&gensDone s.abs&&laidKept (boot_heap w.params) s.abs.heap)=some true)
  (c2:∀ (w:World) (os:OsState),(runT p N w os).map (fun s=>openSeen q loose (importedModules p.main.body) Xt g0 s.abs)=some (openGood q loose))
  (c3:∀ (w:World) (os:OsState),(runT p N w os).map (fun s=>Yf s.abs)=some (Ya w)):LeftO p q loose Xt Yf Ya N g0:=fun w=>by
 obtain⟨⟨h,gs,d,k,os⟩,e1,e2⟩:=Option.map_eq_some_iff.mp (boot_open e hN f w);obtain⟨rfl,rfl,rfl,rfl⟩:h=boot_heap w.params/\gs=Array.mk []/\d=boot_drawn/\k=boot_toks:=by simpa using e2
 obtain⟨r,r1,l1⟩:=Option.map_eq_some_iff.mp (c1 w os);have l2:=c2 w os;have l3:=c3 w os;rw[r1]at l2 l3
 replace l2:=Z1 l2
 replace l3:=Z1 l3
 obtain⟨z1,z2,z3⟩:_/\_/\_:=by simpa only [Prod.mk.injEq]using Q6h w.params
 have t0:=Q6f r1;have ab:(beginT w os).abs=⟨boot_heap w.params,Array.mk [],boot_drawn,boot_toks,os⟩:=by
  show Shared.mk (absHeap (bootT w.params) 11 (boot_heap w.params).life) _ _ _ _=_;rw[Q6g];rfl
 rw[ab]at t0;have t:topFrom treeTable p w N ⟨boot_heap w.params,Array.mk [],boot_drawn,boot_toks,os⟩=some r.abs:=by
  unfold topFrom;dsimp only;rw[z1,z2,z3,t0];show (match staticsOk (importedModules p.main.body) (boot_heap w.params) r.abs.heap&&namesBound p r.abs.heap&&gensDone r.abs&&laidKept (boot_heap w.params) r.abs.heap with | true=>_ | false=>_)=_
  rw[l1]
 unfold openEnds;rw[e1];show Option.map _ (topFrom treeTable p w N _)=_;rw[t];refine congrArg some ?_;exact Prod.ext l2 l3
end TH
namespace TH
open PySem PySem.W PyProof.Rows
noncomputable abbrev pp:Program:=PySem.Challenge.pw_namewell_k16_whole_any_lines
noncomputable def qq:Program:=view pp ((List.range 75).filter fun i=>!([0,9,13,21,26,40,55].contains i))
noncomputable abbrev ll:List Str:=[PySem.Str.ofString "read_name"]
noncomputable def xt(s:Shared):Bool:=xlAt qq [] s&&recOk (RowW.records (OpenRow.toRowW (OpenLaw.row PySem.Challenge.rw_namewell_k16_whole_any_lines))) s
theorem p9{A1 A2 A3 A4 A5 A6 A7 A8 A9:Type}{a a':A1}{b b':A2}{c c':A3}{d d':A4}{e e':A5}{f f':A6}{g g':A7}{h h':A8}{i i':A9}(q1:a=a')(q2:(b,c)=(b',c'))(q3:(d,e,f)=(d',e',f'))(q4:(g,h,i)=(g',h',i')):(a,b,c,d,e,f,g,h,i)=(a',b',c',d',e',f',g',h',i'):=by cases q1;cases q2;cases q3;cases q4;rfl
theorem l2a(w:World)(os:OsState):(runT pp 6968 w os).map (fun s=>seen ((recsOf qq).map (·.name)) (ownsOf qq) [] { s.abs with gens:=#[] })=some (expectedOf qq):=by kernel_rfl
theorem l2b(w:World)(os:OsState):(runT pp 6968 w os).map (fun s=>(s.abs.heap.bltView,(s.abs.heap.keysOk (looseW qq ll) ((recsOf qq).map (·.name)) ((litsOf qq).map (·.1)) ((clssOf qq (looseW qq ll)).map (·.name))&&s.abs.heap.accountedOkI (importedModules pp.main.body)&&s.abs.heap.isNs mainGlobals&&s.abs.heap.isNs builtinsNs&&tablesOk qq s.abs.heap&&xt s.abs&&(if true then s.abs.gens.size==0 else !leftWithCleanup s.abs.gens))))=some (bltViewBooted,true):=by kernel_rfl
theorem l2c(w:World)(os:OsState):(runT pp 6968 w os).map (fun s=>(tabsOk qq s.abs,pinSeenD qq (drecsOf qq) s.abs,plainSeenE qq (looseW qq ll) s.abs))=some (true,pinGoodD (drecsOf qq),plainGoodE qq (looseW qq ll)):=by kernel_rfl
theorem l2d(w:World)(os:OsState):(runT pp 6968 w os).map (fun s=>(plainSeenD qq ll s.abs,wideSeen qq s.abs,clsSeenW qq ll s.abs))=some (plainGoodD qq ll,wideGood qq,clsGoodW qq ll):=by kernel_rfl
theorem left2(w:World)(os:OsState):(runT pp 6968 w os).map (fun s=>openSeen qq ll (importedModules pp.main.body) xt true s.abs)=some (openGood qq ll):=by
 have a:=l2a w os;have b:=l2b w os;have c:=l2c w os;have d:=l2d w os
 revert a b c d
 generalize runT pp 6968 w os=r;intro a b c d;cases r with
 | none=>cases a
 | some r=>exact congrArg some (p9 (Z1 a) (Z1 b) (Z1 c) (Z1 d))
theorem left1(w:World)(os:OsState):(runT pp 6968 w os).map (fun s=>staticsOk (importedModules pp.main.body) (boot_heap w.params) s.abs.heap&&namesBound pp s.abs.heap&&gensDone s.abs&&laidKept (boot_heap w.params) s.abs.heap)=some true:=by kernel_rfl
local macro_rules | `(tactic| o_head $H) => `(tactic| (
 refine holds_open (r:=OpenLaw.row PySem.Challenge.rw_namewell_k16_whole_any_lines) (q:=qq) (loose:=ll) (N:=6968) (Xt:=xt) (XP:=XL qq [])
  (Ya := Hook.val $H) (Yf := Hook.obs $H) (YP := Hook.says $H) ?hl (Hook.of $H) (Hook.keeps $H)
  (fun s e=>xl_of s (Bool.and_eq_true_iff.mp e).1) XL.keeps (by rfl) (by rfl) (by rfl) (fun s e=>recFacts_of (Bool.and_eq_true_iff.mp e).2)
  (by rfl) (by assumption) (by decide +kernel) ⟨rfl,rfl,rfl,rfl,rfl,by decide +kernel⟩ ?hw ?hc
 (case hl=>exact Q9T (by kernel_rfl) (by rfl) (fun s=>by kernel_rfl) left1 left2 (fun w os=>by kernel_rfl))))
set_option maxHeartbeats 0 in
theorem said0:OpenLaw.wellSaid PySem.Challenge.rw_namewell_k16_whole_any_lines=true:=by kernel_rfl
set_option maxHeartbeats 0 in
noncomputable def pack:{ A:Prop // A->PySem.Challenge.rw_namewell_k16_whole_any_lines.Holds }:=by
 refine⟨?_,?_⟩;rotate_left
 ·intro hA;w_on;refine holds_law said0 fun said=>?_;k_head;(case hw=>w_witness2);exact hA
end TH
namespace L2
open PySem PySem.Spec PyProof.Rows
noncomputable abbrev Key:=Sum Int Str
noncomputable def keyIs:Key->Value->Bool
 | .inl k,v=>Value.isInt k v
 | .inr x,v=>Value.isStrOf x v
noncomputable def keyH(w:World):Key->Int
 | .inl k=>hashInt k
 | .inr x=>hashStr w x
theorem Q0p:∀ {k:Key} {v:Value},keyIs k v=true->(∃ i t,k=Sum.inl i/\v=Value.int i t)\/(∃ x t,k=Sum.inr x/\v=Value.str x t)
 | .inl i,v,h=>by
  obtain⟨t,e⟩:=Value.isInt_shape (k:=i) (v:=v) h;exact .inl ⟨i,t,rfl,e⟩
 | .inr x,v,h=>by
  obtain⟨t,e⟩:=Value.isStrOf_shape (x:=x) (v:=v) h;exact .inr ⟨x,t,rfl,e⟩
theorem Qbe(a b:Int):decide ((Sum.inl a:Key)=Sum.inl b)=(a==b):=by
 by_cases e:a=b
 ·subst e;simp
 ·have h:¬ (Sum.inl a:Key)=Sum.inl b:=fun q=>e (Sum.inl.inj q);rw[Zg h];exact (beq_eq_false_iff_ne.mpr e).symm
theorem Qbf(a b:Str):decide ((Sum.inr a:Key)=Sum.inr b)=decide (a=b):=by
 by_cases e:a=b
 ·subst e;simp
 ·have h:¬ (Sum.inr a:Key)=Sum.inr b:=fun q=>e (Sum.inr.inj q);rw[Zg h,Zg e]
theorem Qbg(a:Int)(b:Str):decide ((Sum.inl a:Key)=Sum.inr b)=false:=Zg (fun q=>nomatch q)
theorem Qbh(a:Str)(b:Int):decide ((Sum.inr a:Key)=Sum.inl b)=false:=Zg (fun q=>nomatch q)
noncomputable def zbZ(prog:Program)(w:World):PySem.KeyKind prog w Key where
 is:=keyIs
 hash:=keyH w
 inj:=fun v a b ha hb=>by
  rcases Q0p ha with ⟨i,t,rfl,rfl⟩ | ⟨x,t,rfl,rfl⟩
  ·rcases Q0p hb with ⟨j,u,rfl,e⟩ | ⟨y,u,rfl,e⟩
   ·injection e with e1 _;rw[e1]
   ·exact nomatch e
  ·rcases Q0p hb with ⟨j,u,rfl,e⟩ | ⟨y,u,rfl,e⟩
   ·exact nomatch e
   ·injection e with e1 _;rw[e1]
 byValue:=fun k v h=>by
  rcases Q0p h with ⟨i,t,rfl,rfl⟩ | ⟨x,t,rfl,rfl⟩ <;> rfl
 pyHash:=fun hv h=>by
  rcases Q0p hv with ⟨i,t,rfl,rfl⟩ | ⟨x,t,rfl,rfl⟩
  ·exact wpAny_pyHash_int h
  ·exact wpAny_pyHash_str h
 eqBool:=fun hu hv h=>by
  rcases Q0p hu with ⟨i,t,rfl,rfl⟩ | ⟨x,t,rfl,rfl⟩
  ·rcases Q0p hv with ⟨j,u,rfl,rfl⟩ | ⟨y,u,rfl,rfl⟩
   ·rw[Qbe]at h;exact wpAny_eqBool_int h
   ·rw[Qbg]at h;exact SeqAt.EqAt.int_str i t y u _ _ _ _ h
  ·rcases Q0p hv with ⟨j,u,rfl,rfl⟩ | ⟨y,u,rfl,rfl⟩
   ·rw[Qbh]at h;exact SeqAt.EqAt.str_int x t j u _ _ _ _ h
   ·rw[Qbf]at h;exact wpAny_eqBool_str h
 «strs»:=fun k x t v h=>by
  rcases Q0p h with ⟨i,u,rfl,e⟩ | ⟨y,u,rfl,e⟩
  ·exact nomatch e
  ·injection e with e1 _;subst e1;cases v <;> rfl
inductive V where
 | non | bl (b:Bool) | int (i:Int) | str (x:Str) | byt (b:Array UInt8) | flt (b:UInt64) | ref (a:Addr) | ty (n:String)
 deriving DecidableEq
noncomputable def RelV:V->Value->Prop
 | .non,u=>u=Value.none
 | .bl b,u=>u=Value.bool b
 | .int i,u=>∃ t,u=Value.int i t
 | .str x,u=>∃ t,u=Value.str x t
 | .byt b,u=>∃ t,u=Value.bytes b t
 | .flt b,u=>∃ t,u=Value.float b t
 | .ref a,u=>u=Value.ref a
 | .ty n,u=>u=Value.type n
noncomputable abbrev Vals:List V->List Value->Prop:=Paired RelV
theorem Vals.length(r:Vals xs us):xs.length=us.length:=Paired.length r
theorem Vals.get:∀ {xs:List V} {us:List Value} {i:Nat} {x:V},Vals xs us->xs[i]? = some x->∃ u,us[i]? = some u/\RelV x u
 | _,_,_,_,.nil,e=>by simp at e
 | _,_,0,_,.cons r _,e=>by simp at e;subst e;exact⟨_,rfl,r⟩
 | _,_,i+1,x,.cons _ t,e=>by
  obtain⟨u,h1,h2⟩:=Vals.get (i:=i) (x:=x) t (by simpa using e)
  exact⟨u,by simpa using h1,h2⟩
theorem Vals.set(r:RelV x u):∀ {xs:List V} {us:List Value} (i:Nat),Vals xs us->Vals (xs.set i x) (us.set i u)
 | _,_,_,.nil=>.nil
 | _,_,0,.cons _ t=>.cons r t
 | _,_,i+1,.cons q t=>.cons q (Vals.set r i t)
theorem Vals.append:∀ {xs ys:List V} {us ws:List Value},Vals xs us->Vals ys ws->Vals (xs++ys) (us++ws)
 | _,_,_,_,.nil,s=>s
 | _,_,_,_,.cons r t,s=>.cons r (Vals.append t s)
theorem Vals.take:∀ {xs:List V} {us:List Value} (n:Nat),Vals xs us->Vals (xs.take n) (us.take n)
 | _,_,0,_=>.nil
 | _,_,_+1,.nil=>.nil
 | _,_,n+1,.cons r t=>.cons r (Vals.take n t)
theorem Vals.drop:∀ {xs:List V} {us:List Value} (n:Nat),Vals xs us->Vals (xs.drop n) (us.drop n)
 | _,_,0,r=>r
 | _,_,_+1,.nil=>.nil
 | _,_,n+1,.cons _ t=>Vals.drop n t
noncomputable def RelO:Option V->Option Value->Prop
 | some v,some u=>RelV v u
 | none,none=>True
 | _,_=>False
noncomputable def KV{κ:Type}:List (κ×V)->List (κ×Value)->Prop:=Paired fun(p:κ×V) (q:κ×Value)=>p.1=q.1/\RelV p.2 q.2
noncomputable def kV:Key->V
 | .inl i=>.int i
 | .inr x=>.str x
inductive HO where
 | lst (xs:List V)
 | tup (xs:List V)
 | dK (kvs:List (Key×V)) | dT (kvs:List (List Key×V))
 | set (S:Int->Bool) (n:Nat)
 | ins (C dx:Addr) (fs:List (Str×V))
 | own (x:Addr)
 | xd (fs:List (Str×V))
 | met (f x:Addr)
 | rng (lo hi:Int)
 | frz (o:Obj) (u:HO)
 | tbl (ps:Array Value)
 | ext (φ:Heap->Prop)
noncomputable abbrev Hp:=Addr->Option HO
noncomputable def upd(H:Hp)(a:Addr)(o:HO):Hp:=fun b=>if b=a then some o else H b
theorem Q0i:upd H a o a=some o:=by unfold upd;rw[Zm rfl]
theorem Q0f(h:b≠a):upd H a o b=H b:=by unfold upd;rw[Zj h]
theorem Q4r:upd (upd H a o) a u=upd H a u:=by
 funext b;unfold upd;split <;> rfl
theorem Q0q{H:Hp}{a b:Addr}{o:HO}(h:H a=some o)(h':H b=none):a≠b:=by
 intro e;subst e;rw[h]at h';cases h'
section
variable(P:Program)(w:World)
noncomputable def ObjOk(H:Hp)(h:Heap)(a:Addr):HO->Prop
 | .lst xs=>xs.length<=sizeLine/\∃ (its:List Value) (n:Nat),Vals xs its/\h.get? a=some { cls:=.type "list",data:=.seq its.toArray n }
 | .tup xs=>xs.length<=sizeLine/\∃ its:List Value,Vals xs its/\IsTup h a its.toArray
 | .dK kvs=>kvs.length<=sizeLine/\(a==sysModules)=false/\∃ vs,KV kvs vs/\h.DictOf (zbZ P w) a vs
 | .dT kvs=>kvs.length<=sizeLine/\(a==sysModules)=false/\∃ xs:List (List Key×Addr×Value),
   Paired (fun(p:List Key×V) (q:List Key×Addr×Value)=>p.1=q.1/\H q.2.1=some (.tup (p.1.map kV))/\RelV p.2 q.2.2) kvs xs /\
   ∃ o es ep,h.get? a=some o/\o.ExactDict/\o.data=.dict es ep/\es.toList=xs.map (entryOfKey (tupleKind (zbZ P w)))/\(xs.map (·.1)).Nodup
 | .set S n=>h.SetOf (intKind P w) a S n
 | .ins C dx fs=>H dx=some (.own a)/\fs.length<=1000/\dx≠a/\h.get? a=some (instObj C dx) /\
   ∃ mA,h.Ns1 dx mA/\(∀ f,RelO (fs.lookup f) (mA f))/\PySem.Within mA (fs.map (·.1))
 | .own _=>∃ o,h.get? a=some o
 | .xd fs=>∃ mA,h.Ns1 a mA/\∀ f,RelO (fs.lookup f) (mA f)
 | .rng lo hi=>∃ t u v,h.get? a=some { cls:=.type "range",data:=.fields #[.int lo t,.int hi u,.int 1 v] }
 | .frz o u=>h.get? a=some o/\ObjOk H h a u
 | .tbl ps=>h.get? a=some { cls:=.none,data:=.fields ps }
 | .met f x=>h.get? a=some (methodObj (.ref f) (.ref x))
 | .ext φ=>φ h/\(∃ o,h.get? a=some o)/\∀ h1 h2:Heap,φ h1->(∀ o,h1.get? a=some o->h2.get? a=some o)->φ h2
noncomputable def HOk(H:Hp)(h:Heap):Prop:=∀ a o,H a=some o->ObjOk P w H h a o
end
section
variable{P:Program}{w:World}{H H':Hp}{h h':Heap}{a:Addr}{o:HO}
theorem ObjOk.lt(x:ObjOk P w H h a o):a<h.objs.size:=by
 cases o with
 | lst xs=>obtain⟨_,_,_,_,e⟩:=x;exact Zn e
 | tup xs=>obtain⟨_,_,_,p⟩:=x;exact p.lt
 | dK kvs=>obtain⟨_,_,_,_,o,_,_,e,_⟩:=x;exact Zn e
 | dT kvs=>obtain⟨_,_,_,_,o,_,_,e,_⟩:=x;exact Zn e
 | set S n=>obtain⟨o,_,_,_,e,_⟩:=x;exact Zn e
 | ins C dx fs=>obtain⟨_,_,_,e,_⟩:=x;exact Zn e
 | own y=>obtain⟨_,e⟩:=x;exact Zn e
 | xd fs=>obtain⟨_,⟨_,_,_,e,_⟩,_⟩:=x;exact Zn e
 | rng lo hi=>obtain⟨_,_,_,e⟩:=x;exact Zn e
 | frz ob u=>obtain⟨e,_⟩:=x;exact Zn e
 | tbl ps=>exact Zn (show h.get? a=some _ from x)
 | met f y=>exact Zn (show h.get? a=some _ from x)
 | ext φ=>obtain⟨_,⟨_,e⟩,_⟩:=x;exact Zn e
theorem Paired.mapP{α β:Type}{F G:α->β->Prop}:∀ {l₁:List α} {l₂:List β},Paired F l₁ l₂->(∀ a b,F a b->G a b)->Paired G l₁ l₂
 | _,_,.nil,_=>.nil
 | _,_,.cons r t,f=>.cons (f _ _ r) (Paired.mapP t f)
theorem ObjOk.stay(x:ObjOk P w H h a o)(k:∀ b u,(b=a\/H b=some (.own a))->h.get? b=some u->h'.get? b=some u)
  (ho:∀ b,H b=some (.own a)->H' b=some (.own a)) (ht:∀ b xs,H b=some (.tup xs)->H' b=some (.tup xs)):ObjOk P w H' h' a o:=by
 induction o with
 | lst xs=>obtain⟨z,its,n,r,e⟩:=x;exact⟨z,its,n,r,k _ _ (.inl rfl) e⟩
 | tup xs=>obtain⟨z,its,r,ob,e,c⟩:=x;exact⟨z,its,r,ob,k _ _ (.inl rfl) e,c⟩
 | dK kvs=>obtain⟨z,y,vs,r,ob,es,ep,e,c⟩:=x;exact⟨z,y,vs,r,ob,es,ep,k _ _ (.inl rfl) e,c⟩
 | dT kvs =>
  obtain⟨z,y,xs,r,ob,es,ep,e,c⟩:=x;exact⟨z,y,xs,Paired.mapP r fun p q z=>⟨z.1,ht _ _ z.2.1,z.2.2⟩,ob,es,ep,k _ _ (.inl rfl) e,c⟩
 | set S n=>obtain⟨ob,es,ep,t,e,c⟩:=x;exact⟨ob,es,ep,t,k _ _ (.inl rfl) e,c⟩
 | ins C dx fs =>
  obtain⟨d,z,ne,e,mA,⟨od,es,ep,e2,c⟩,r⟩:=x;exact⟨ho _ d,z,ne,k _ _ (.inl rfl) e,mA,⟨od,es,ep,k _ _ (.inr d) e2,c⟩,r⟩
 | own y=>obtain⟨ob,e⟩:=x;exact⟨ob,k _ _ (.inl rfl) e⟩
 | xd fs=>obtain⟨mA,⟨od,es,ep,e,c⟩,r⟩:=x;exact⟨mA,⟨od,es,ep,k _ _ (.inl rfl) e,c⟩,r⟩
 | rng lo hi=>obtain⟨t,u,v,e⟩:=x;exact⟨t,u,v,k _ _ (.inl rfl) e⟩
 | frz ob u ih=>obtain⟨e,q⟩:=x;exact⟨k _ _ (.inl rfl) e,ih q⟩
 | tbl ps =>
  have e:h.get? a=some { cls:=.none,data:=.fields ps }:=x;show h'.get? a=some { cls:=.none,data:=.fields ps };exact k a _ (.inl rfl) e
 | met f y =>
  have e:h.get? a=some (methodObj (.ref f) (.ref y)):=x;show h'.get? a=some (methodObj (.ref f) (.ref y));exact k a _ (.inl rfl) e
 | ext φ=>obtain⟨p,⟨o,e⟩,st⟩:=x;exact⟨st _ _ p fun o q=>k _ _ (.inl rfl) q,⟨o,k _ _ (.inl rfl) e⟩,st⟩
theorem HOk.lt(x:HOk P w H h)(e:H a=some o):a<h.objs.size:=(x a o e).lt
theorem HOk.fresh(x:HOk P w H h)(e:h.objs.size<=a):H a=none:=by
 cases q:H a with
 | none=>rfl
 | some u=>exact absurd (Zr (x.lt q) e) (lt_irrefl _)
theorem HOk.kept(x:HOk P w H h)(k:∀ b u,h.get? b=some u->h'.get? b=some u):HOk P w H h':=fun a o e =>
 (x a o e).stay (fun b u _ q=>k b u q) (fun _ q=>q) fun _ _ q=>q
theorem HOk.laid(x:HOk P w H h)(k:∀ b u,h.get? b=some u->h'.get? b=some u)(hp:h.objs.size<=a)(new:ObjOk P w (upd H a o) h' a o):HOk P w (upd H a o) h':=fun b u e=>by
 have hn:=x.fresh hp;by_cases hb:b=a
 ·subst hb;rw[Q0i]at e;cases e;exact new
 ·rw[Q0f hb]at e;exact (x b u e).stay (fun c v _ q=>k c v q) (fun c q=>by rw[Q0f (Q0q q hn)];exact q) fun c xs q=>by rw[Q0f (Q0q q hn)];exact q
end
noncomputable def Rd(H:Hp)(a:Addr)(u:HO):Prop:=H a=some u\/∃ o,H a=some (.frz o u)
theorem Rd.of(h:H a=some u):Rd H a u:=.inl h
theorem Rd.ok(r:Rd H a u)(x:HOk P w H h):ObjOk P w H h a u:=by
 rcases r with r | ⟨o,r⟩
 ·exact x a u r
 ·obtain⟨_,q⟩:=x a _ r;exact q
noncomputable def Mut:Option HO->Prop
 | some (.lst _)=>True
 | some (.dK _)=>True
 | some (.dT _)=>True
 | some (.set _ _)=>True
 | some (.ins _ _ _)=>True
 | some (.ext _)=>True
 | _=>False
section
variable{P:Program}{w:World}{H:Hp}{h h':Heap}{x e:Addr}{o':HO}
theorem HOk.write(ok:HOk P w H h)(mu:Mut (H x))(he:e=x\/H e=some (.own x))(k:∀ b u,b≠e->h.get? b=some u->h'.get? b=some u)(heo:∃ u,h'.get? e=some u)
  (new:ObjOk P w (upd H x o') h' x o'):HOk P w (upd H x o') h':=fun b u q=>by
 have nown:∀ c y,H c=some (.own y)->c≠x:=fun c y r z=>by subst z;rw[r]at mu;exact mu
 have ntup:∀ c xs,H c=some (.tup xs)->c≠x:=fun c xs r z=>by subst z;rw[r]at mu;exact mu
 by_cases hb:b=x
 ·subst hb;rw[Q0i]at q;cases q;exact new
 ·rw[Q0f hb]at q;by_cases hbe:b=e
  ·have q':H b=some (.own x):=by
    rcases he with z | z
    ·exact absurd (hbe.trans z) hb
    ·rw[hbe];exact z
   rw[q]at q';cases q';obtain⟨v,hv⟩:=heo;exact⟨v,by rw[hbe];exact hv⟩
  ·refine (ok b u q).stay (fun c v hc r=>k c v ?_ r) (fun c r=>by rw[Q0f (nown c b r)];exact r) fun c xs r=>by rw[Q0f (ntup c xs r)];exact r
   rcases hc with rfl | hc
   ·exact hbe
   ·rintro rfl;rcases he with z | z
    ·exact nown c b hc z
    ·rw[hc]at z;cases z;exact hb rfl
end
structure Un(fs ex:List Addr)(H H':Hp)(h h':Heap):Prop where
 keep:∀ b o,h.get? b=some o->H b=none->b∉fs->b∉ex->h'.get? b=some o
 slot:∀ b o,h.get? b=some o->H b=none->b∈fs->b∉ex->∃ sl,h'.get? b=some { o with slots:=sl }
 free:∀ b o,h.get? b=some o->H b=none->b∉ex->H' b=none
 there:∀ b o,h.get? b=some o->b∉ex->∃ o',h'.get? b=some o'
 tups:∀ b xs,H b=some (.tup xs)->H' b=some (.tup xs)
 frzs:∀ b o u,H b=some (.frz o u)->H' b=some (.frz o u)
 tbls:∀ b ps,H b=some (.tbl ps)->∃ more,H' b=some (.tbl (ps++more))
section
variable{fs fs' ex ex':List Addr}{H H1 H2:Hp}{h h1 h2 h':Heap}{a x e:Addr}{o:HO}
theorem Un.any(u:Un fs ex H H1 h h1)(q:h.get? b=some ob)(n:H b=none)(hx:b∉ex):∃ sl,h1.get? b=some { ob with slots:=sl }:=by
 by_cases hb:b∈fs
 ·exact u.slot b ob q n hb hx
 ·exact⟨ob.slots,u.keep b ob q n hb hx⟩
theorem Un.trans(a:Un fs ex H H1 h h1)(b:Un fs ex H1 H2 h1 h2):Un fs ex H H2 h h2 where
 keep:=fun c ob q n hc hx=>b.keep c ob (a.keep c ob q n hc hx) (a.free c ob q n hx) hc hx
 slot:=fun c ob q n hc hx=>by
  obtain⟨sl,e1⟩:=a.slot c ob q n hc hx;obtain⟨sl',e2⟩:=b.slot c _ e1 (a.free c ob q n hx) hc hx;exact⟨sl',e2⟩
 free:=fun c ob q n hx=>by
  obtain⟨o',e1⟩:=a.there c ob q hx;exact b.free c o' e1 (a.free c ob q n hx) hx
 there:=fun c ob q hx=>by
  obtain⟨o',e1⟩:=a.there c ob q hx;exact b.there c o' e1 hx
 tups:=fun c xs q=>b.tups c xs (a.tups c xs q)
 frzs:=fun c ob xs q=>b.frzs c ob xs (a.frzs c ob xs q)
 tbls:=fun c ps q=>by
  obtain⟨m1,e1⟩:=a.tbls c ps q;obtain⟨m2,e2⟩:=b.tbls c _ e1;exact⟨m1++m2,by rw[e2,Array.append_assoc]⟩
theorem Un.kept(k:∀ b u,h.get? b=some u->h'.get? b=some u):Un fs ex H H h h' :=
 ⟨fun b ob q _ _ _=>k b ob q,fun b ob q _ _ _=>⟨ob.slots,k b ob q⟩,fun _ _ _ n _=>n,fun b ob q _=>⟨ob,k b ob q⟩,fun _ _ q=>q,fun _ _ _ q=>q,fun _ ps q=>⟨#[],by rw[q];simp⟩⟩
theorem Un.refl:Un fs ex H H h h:=Un.kept fun _ _ q=>q
theorem Un.laid(k:∀ b u,h.get? b=some u->h'.get? b=some u)(hp:h.objs.size<=a)(hn:H a=none):Un fs ex H (upd H a o) h h' where
 keep:=fun b u q _ _ _=>k b u q
 slot:=fun b u q _ _ _=>⟨u.slots,k b u q⟩
 free:=fun b u q n _=>by rw[Q0f (ZD (Zr (Zn q) hp))];exact n
 there:=fun b u q _=>⟨u,k b u q⟩
 tups:=fun b xs q=>by rw[Q0f (Q0q q hn)];exact q
 frzs:=fun b u xs q=>by rw[Q0f (Q0q q hn)];exact q
 tbls:=fun b ps q=>⟨#[],by rw[Q0f (Q0q q hn),q];simp⟩
theorem Un.write(mu:Mut (H x))(he:e=x\/H e=some (.own x))(k:∀ b u,b≠e->h.get? b=some u->h'.get? b=some u)(heo:∃ u,h'.get? e=some u):Un fs ex H (upd H x o) h h':=by
 have hx:∀ b,H b=none->b≠x:=fun b n z=>by subst z;rw[n]at mu;exact mu
 have hb:∀ b,H b=none->b≠e:=fun b n z=>by
  subst z;rcases he with r | r
  ·exact hx b n r
  ·rw[n]at r;cases r
 have hm:∀ b u,H b=some u->¬ Mut (some u)->b≠x:=fun b u q nm z=>by subst z;rw[q]at mu;exact nm mu
 refine⟨fun b u q n _ _=>k b u (hb b n) q,fun b u q n _ _=>⟨u.slots,k b u (hb b n) q⟩,fun b u q n _=>by rw[Q0f (hx b n)];exact n,fun b u q _=>?_,
  fun b xs q=>by rw[Q0f (hm b _ q fun z=>z)];exact q,fun b u xs q=>by rw[Q0f (hm b _ q fun z=>z)];exact q,fun b ps q=>⟨#[],by rw[Q0f (hm b _ q fun z=>z),q];simp⟩⟩
 by_cases hbe:b=e
 ·subst hbe;exact heo
 ·exact⟨u,k b u hbe q⟩
theorem Un.mono(u:Un fs ex H H1 h h1)(hs:∀ b∈fs,b∈fs')(hx:∀ b∈ex,b∈ex'):Un fs' ex' H H1 h h1 :=
 ⟨fun b ob q n hb he=>u.keep b ob q n (fun z=>hb (hs b z)) fun z=>he (hx b z),fun _ _ q n _ he=>u.any q n fun z=>he (hx _ z),fun b ob q n he=>u.free b ob q n fun z=>he (hx b z),fun b ob q he=>u.there b ob q fun z=>he (hx b z),u.tups,u.frzs,u.tbls⟩
end
noncomputable def trk(h:Heap)(H:Hp):List Addr:=(List.range h.objs.size).filter fun a=>(H a).isSome
noncomputable def hidT(h:Heap)(H:Hp):Heap:=PySem.W.hideAll h (trk h H)
theorem Q6i(h:Heap)(H:Hp):(hidT h H).objs.size=h.objs.size:=PySem.W.hideAll_size _ _
theorem Q8g(e:h.get? b=some o)(n:H b=none):(hidT h H).get? b=some o :=
 PySem.W.hideAll_get _ e fun hm=>by
  have q:(H b).isSome=true:=(mem_filter.mp hm).2;rw[n]at q;simp at q
theorem Q9U(e:(hidT h H).get? b=some o):h.get? b=some o/\H b=none:=by
 have e':h.get? b=some o:=PySem.W.of_hideAll (trk h H) e;refine⟨e',?_⟩;cases q:H b with
 | none=>rfl
 | some x =>
  have hm:b∈trk h H:=mem_filter.mpr ⟨mem_range.mpr (Zn e'),by simp[q]⟩
  have z:(hidT h H).get? b=none:=PySem.W.hideAll_none (trk h H) hm;rw[z]at e;cases e
noncomputable def allNews(g h:Heap)(L:Addr):List (Addr×Obj):=(List.range h.objs.size).filterMap fun a=>if a=L\/(g.get? a).isSome=true then none else (h.get? a).map fun o=>(a,o)
noncomputable def rest(g h:Heap)(L d:Addr):List (Addr×Obj):=(allNews g h L).filter fun p=>decide (p.1≠d)
structure Mod(K:Frag)(mg:Str->Option Value)(base:Heap):Prop where
 kin:K.In base
 glob:base.Ns mainGlobals mg
 blt:∃ mb,base.Ns builtinsNs mb/\∀ x:Str,x ≠ "__name__" -> mb x=bootBuiltins x
 nolimit:base.NoLimit
structure Cx where
 prog:Program
 w:World
 K:Frag
 mg:Str->Option Value
 base:Heap
 A:Around
 N:List Str
 s₀:Shared
 H₀:Hp
 env:Env
 outer:List Env
 stack:List Env
 ex:List Addr
 fn:Str->Bool
 calm:Bool
 pn:List (Addr×Obj)
 xe:Value->Shared->Prop
noncomputable def frs(l:List Env):List Addr:=l.filterMap (·.frame)
noncomputable abbrev Cx.fs(X:Cx):List Addr:=frs X.outer
noncomputable def Vis(sc:Scope)(x:Str):Prop:=sc.names.lookup x=some .local\/sc.names.lookup x=some .cell\/sc.names.lookup x=some .free
noncomputable def Loc(sc:Scope)(x:Str):Prop:=sc.names.lookup x=some .local\/sc.names.lookup x=some .cell
noncomputable def Look(env:Env)(h:Heap)(m:Str->Option Value)(x:Str)(u:Value):Prop :=
 (env.kindOf x=some .local/\m x=some u)\/((env.kindOf x=some .cell\/env.kindOf x=some .free)/\∃ c,env.cells.lookup x=some c/\h.IsCell c (some u))
structure Cx.Ok(X:Cx):Prop where
 mod:Mod X.K X.mg X.base
 kind:X.env.scope.kind=.function
 glob:X.env.globals=mainGlobals
 blt:X.env.builtins=builtinsNs
 above:X.s₀.heap.objs.size<=X.env.locals
 inj:∀ x y c,X.env.cells.lookup x=some c->X.env.cells.lookup y=some c->x=y
 has:∀ x,(X.env.kindOf x=some .cell\/X.env.kindOf x=some .free)->∃ c,X.env.cells.lookup x=some c
 cab:∀ x c,X.fn x=true->X.env.cells.lookup x=some c->X.s₀.heap.objs.size<=c
 hd:X.calm=true->X.A.handled=none
 frames:X.A.frames=some X.stack
 stk:X.stack=X.outer\/(X.stack=X.env::X.outer/\X.env.frame=some X.env.locals)
 exf:∀ b∈X.ex,b≠X.env.locals/\∀ x c,X.env.cells.lookup x=some c->c≠b
 bs:∀ b o,X.base.get? b=some o->X.s₀.heap.get? b=some o/\X.H₀ b=none
 bsz:X.base.objs.size<=X.s₀.heap.objs.size
 noex:∀ b o,X.base.get? b=some o->b∉X.ex
 exfs:∀ b∈X.ex,b∉X.fs
 funs:X.s₀.heap.FunFrames X.base X.outer
 frf:∀ b∈X.fs,X.H₀ b=none
structure Inv(X:Cx)(pins:List (Addr×Obj))(σ:List (Option V))(H:Hp)(s:Shared):Prop where
 ok:X.Ok
 os:s.os=X.s₀.os
 bare:AllBare s.gens
 base:Un X.fs X.ex X.H₀ H X.s₀.heap s.heap
 loc:∃ m,s.heap.Ns X.env.locals m/\∀ (i:Nat) (x:Str) (v:V),X.N[i]? = some x->σ[i]? = some (some v)->Vis X.env.scope x->∃ u,RelV v u/\Look X.env s.heap m x u
 cell:∀ x c,X.env.cells.lookup x=some c->∃ v,s.heap.IsCell c v
 free:H X.env.locals=none
 freeC:∀ x c,X.env.cells.lookup x=some c->H c=none
 pin:∀ p∈X.pn++pins,s.heap.get? p.1=some p.2/\H p.1=none/\p.1≠X.env.locals/\p.1∉X.fs/\∀ v,p.2.data≠.cell v
 hok:HOk X.prog X.w H s.heap
 len:σ.length=X.N.length
section
variable{X:Cx}{pins:List (Addr×Obj)}{σ:List (Option V)}{H H':Hp}{s:Shared}{h':Heap}
theorem Cx.Ok.nofr(ok:X.Ok)(e:X.base.get? b=some o):b∉X.fs:=fun hb=>by
 have:=(ok.funs.mem hb).1;rw[e]at this;cases this
theorem Inv.bs(I:Inv X pins σ H s):∀ b o,X.base.get? b=some o->s.heap.get? b=some o/\H b=none:=fun b o e =>
 ⟨I.base.keep b o (I.ok.bs b o e).1 (I.ok.bs b o e).2 (I.ok.nofr e) (I.ok.noex b o e),I.base.free b o (I.ok.bs b o e).1 (I.ok.bs b o e).2 (I.ok.noex b o e)⟩
theorem Inv.bk(I:Inv X pins σ H s):∀ b o,X.base.get? b=some o->s.heap.get? b=some o:=fun b o e=>(I.bs b o e).1
theorem Inv.mod(I:Inv X pins σ H s):Mod X.K X.mg X.base:=I.ok.mod
theorem Inv.kIn(I:Inv X pins σ H s):X.K.In s.heap:=I.ok.mod.kin.keeps I.bk
theorem Inv.nolimit(I:Inv X pins σ H s):s.heap.NoLimit:=I.ok.mod.nolimit.keeps I.bk
theorem Inv.fr(I:Inv X pins σ H s):∃ m,Fr X.base X.env.locals s.heap m :=
 let ⟨m,hn,_⟩:=I.loc
 ⟨m,hn,I.bk,Z7 I.ok.bsz I.ok.above⟩
theorem Inv.lt(I:Inv X pins σ H s):X.env.locals<s.heap.objs.size:=let ⟨_,hn,_⟩:=I.loc;hn.lt
theorem Inv.sz(I:Inv X pins σ H s):X.s₀.heap.objs.size<=s.heap.objs.size:=Z7 I.ok.above (le_of_lt I.lt)
theorem Inv.nofs(I:Inv X pins σ H s)(h:s.heap.objs.size<=a):a∉X.fs:=fun hb=>by
 obtain⟨_,o,ho,_⟩:=I.ok.funs.mem hb;exact absurd (Zr (Zn ho) (Z7 I.sz h)) (lt_irrefl _)
theorem Inv.cne(I:Inv X pins σ H s):∀ x c,X.env.cells.lookup x=some c->c≠X.env.locals:=fun x c e z=>by
 obtain⟨v,o,ho,hd⟩:=I.cell x c e;obtain⟨m,⟨o',es,ep,ho',hd',_⟩,_⟩:=I.loc;rw[z,ho']at ho;cases ho;rw[hd']at hd;cases hd
theorem Inv.funs(I:Inv X pins σ H s):s.heap.FunFrames X.base X.outer:=by
 have all:∀ (l:List Env),(∀ b∈frs l,b∈X.fs)->X.s₀.heap.FunFrames X.base l->s.heap.FunFrames X.base l:=by
  intro l
  induction l with
  | nil=>intro _ _;trivial
  | cons env r ih =>
   intro hs hl;obtain⟨hk,⟨L,o,hf,hn,ho,hd⟩,hr⟩:=hl;have hL:L∈X.fs:=hs L (by unfold frs;rw[filterMap_cons,hf];exact Zl)
   obtain⟨sl,e⟩:=I.base.slot L o ho (I.ok.frf L hL) hL fun z=>I.ok.exfs L z hL;exact⟨hk,⟨L,_,hf,hn,e,hd⟩,ih (fun b hb=>hs b (by unfold frs;rw[filterMap_cons,hf];exact Zo _ hb)) hr⟩
 exact all X.outer (fun _ hb=>hb) I.ok.funs
theorem Inv.stack(I:Inv X pins σ H s):s.heap.FunFrames X.base X.stack:=by
 rcases I.ok.stk with e | ⟨e,hf⟩
 ·rw[e];exact I.funs
 ·rw[e];obtain⟨m,hn,_⟩:=I.loc;refine .cons (by rw[I.ok.kind];decide) hf hn ?_ I.funs
  exact Heap.get?_none_of_le (Z7 I.ok.bsz I.ok.above)
theorem Inv.stkSub(I:Inv X pins σ H s):∀ b∈frs X.stack,b∈X.env.locals::X.fs:=fun b hb=>by
 rcases I.ok.stk with e | ⟨e,hf⟩
 ·rw[e]at hb;exact Zo _ hb
 ·rw[e]at hb;unfold frs at hb;rw[filterMap_cons,hf]at hb;exact hb
theorem Inv.stkFree(I:Inv X pins σ H s):∀ b∈frs X.stack,H b=none:=fun b hb=>by
 rcases Zx.mp (I.stkSub b hb) with e | hb
 ·rw[e];exact I.free
 ·obtain⟨_,o,ho,_⟩:=I.ok.funs.mem hb;exact I.base.free b o ho (I.ok.frf b hb) fun z=>I.ok.exfs b z hb
theorem Inv.step{g':Array GenState}{t':Nat}{d':Drawn}{ch:List Addr}(I:Inv X pins σ H s)
  (hch:∀ b∈ch,(b∈X.ex\/X.s₀.heap.objs.size<=b)/\b≠X.env.locals/\(∀ x c,X.env.cells.lookup x=some c->c≠b)/\∀ p∈X.pn++pins,p.1≠b)
  (keep:∀ b o,b≠X.env.locals->b∉X.fs->b∉ch->s.heap.get? b=some o->H b=none->h'.get? b=some o)
  (slot:∀ b o,b≠X.env.locals->b∈X.fs->b∉ch->s.heap.get? b=some o->H b=none->∃ sl,h'.get? b=some { o with slots:=sl }) (free:∀ b o,b∉ch->s.heap.get? b=some o->H b=none->H' b=none)
  (there:∀ b o,b∉ch->s.heap.get? b=some o->∃ o',h'.get? b=some o')
  (tups:∀ b xs,H b=some (.tup xs)->H' b=some (.tup xs)) (frzs:∀ b o u,H b=some (.frz o u)->H' b=some (.frz o u)) (tbls:∀ b ps,H b=some (.tbl ps)->∃ more,H' b=some (.tbl (ps++more)))
  (ns:∀ m,s.heap.Ns X.env.locals m->h'.Ns X.env.locals m) (hok:HOk X.prog X.w H' h') (hg:AllBare g') :
  Inv X pins σ H' { s with heap:=h',gens:=g',drawn:=d',toks:=t' }:=by
 have neL:∀ b o,X.s₀.heap.get? b=some o->b≠X.env.locals:=fun b o e=>ZD (Zr (Zn e) I.ok.above);have neC:∀ b o,X.s₀.heap.get? b=some o->b∉X.ex->b∉ch:=fun b o e hx hb=>by
  rcases (hch b hb).1 with z | z
  ·exact hx z
  ·exact absurd (Zr (Zn e) z) (lt_irrefl _)
 have cellK:∀ x c,X.env.cells.lookup x=some c->∀ v,s.heap.IsCell c v->h'.IsCell c v:=fun x c e v ⟨o,ho,hd⟩=>by
  have nch:c∉ch:=fun z=>(hch c z).2.2.1 x c e rfl;by_cases hc:c∈X.fs
  ·obtain⟨sl,q⟩:=slot c o (I.cne x c e) hc nch ho (I.freeC x c e);exact⟨_,q,hd⟩
  ·exact⟨o,keep c o (I.cne x c e) hc nch ho (I.freeC x c e),hd⟩
 refine⟨I.ok,I.os,hg,⟨fun b o e n hb hx=>?_,fun b o e n hb hx=>?_,fun b o e n hx=>?_,fun b o e hx=>?_,fun b xs e=>tups b xs (I.base.tups b xs e),fun b o xs e=>frzs b o xs (I.base.frzs b o xs e),fun b ps e=>?_⟩,?_,fun x c e=>?_,?_,fun x c e=>?_,fun p hp=>?_,hok,I.len⟩
 ·exact keep b o (neL b o e) hb (neC b o e hx) (I.base.keep b o e n hb hx) (I.base.free b o e n hx)
 ·obtain⟨sl,e1⟩:=I.base.slot b o e n hb hx;obtain⟨sl',e2⟩:=slot b _ (neL b o e) hb (neC b o e hx) e1 (I.base.free b o e n hx);exact⟨sl',e2⟩
 ·obtain⟨o',e1⟩:=I.base.there b o e hx;exact free b o' (neC b o e hx) e1 (I.base.free b o e n hx)
 ·obtain⟨o',e1⟩:=I.base.there b o e hx;exact there b o' (neC b o e hx) e1
 ·obtain⟨m1,e1⟩:=I.base.tbls b ps e;obtain⟨m2,e2⟩:=tbls b _ e1;exact⟨m1++m2,by rw[e2,Array.append_assoc]⟩
 ·obtain⟨m,hn,hl⟩:=I.loc;refine⟨m,ns m hn,fun i x v e1 e2 e3=>?_⟩;obtain⟨u,r,l⟩:=hl i x v e1 e2 e3;refine⟨u,r,?_⟩;rcases l with l | ⟨k,c,e,z⟩
  ·exact .inl l
  ·exact .inr ⟨k,c,e,cellK x c e _ z⟩
 ·obtain⟨v,z⟩:=I.cell x c e;exact⟨v,cellK x c e v z⟩
 ·obtain⟨m,⟨o,_,_,ho,_⟩,_⟩:=I.loc;exact free _ o (fun z=>(hch _ z).2.1 rfl) ho I.free
 ·obtain⟨v,o,ho,hd⟩:=I.cell x c e;exact free c o (fun z=>(hch c z).2.2.1 x c e rfl) ho (I.freeC x c e)
 ·obtain⟨e,n,ne,nf,d⟩:=I.pin p hp;have nch:p.1∉ch:=fun z=>(hch p.1 z).2.2.2 p hp rfl;exact⟨keep p.1 p.2 ne nf nch e n,free p.1 p.2 nch e n,ne,nf,d⟩
theorem Inv.un{t':Nat}(I:Inv X pins σ H s)(u:Un X.fs [] H H' s.heap h')(hok:HOk X.prog X.w H' h'):Inv X pins σ H' { s with heap:=h',toks:=t' }:=by
 obtain⟨m,⟨o,es,ep,ho,r⟩,_⟩:=id I.loc;obtain⟨sl,hL⟩:=u.any ho I.free (by simp)
 exact I.step (g':=s.gens) (d':=s.drawn) (ch:=[]) (fun _ z=>nomatch z) (fun b o _ hb _ e n=>u.keep b o e n hb (by simp)) (fun b o _ hb _ e n=>u.slot b o e n hb (by simp)) (fun b o _ e n=>u.free b o e n (by simp)) (fun b o _ e=>u.there b o e (by simp)) u.tups u.frzs u.tbls (fun m' hm=>by
  obtain⟨o',es',ep',ho',r'⟩:=hm;rw[ho]at ho';cases ho';exact⟨_,es',ep',hL,r'⟩) hok I.bare
theorem Inv.call{g':Array GenState}{t':Nat}{d':Drawn}{ch:List Addr}(I:Inv X pins σ H s)(u:Un (frs X.stack) ch H H' s.heap h')(hok:HOk X.prog X.w H' h')(hg:AllBare g')
  (hch:∀ b∈ch,(b∈X.ex\/X.s₀.heap.objs.size<=b)/\b≠X.env.locals/\(∀ x c,X.env.cells.lookup x=some c->c≠b)/\∀ p∈X.pn++pins,p.1≠b) :
  Inv X pins σ H' { s with heap:=h',gens:=g',drawn:=d',toks:=t' }:=by
 obtain⟨m,⟨o,es,ep,ho,r⟩,_⟩:=id I.loc;obtain⟨sl,hL⟩:=u.any ho I.free fun z=>(hch _ z).2.1 rfl;exact I.step (ch:=ch) hch (fun b o hL hb hc e n=>u.keep b o e n (fun z=>(Zx.mp (I.stkSub b z)).elim hL hb) hc) (fun b o _ _ hc e n=>u.any e n hc) (fun b o hc e n=>u.free b o e n hc) (fun b o hc e=>u.there b o e hc) u.tups u.frzs u.tbls (fun m' hm=>by
  obtain⟨o',es',ep',ho',r'⟩:=hm;rw[ho]at ho';cases ho';exact⟨_,es',ep',hL,r'⟩) hok hg
theorem Inv.turned{t':Nat}{it:Addr}(I:Inv X pins σ H s)(k:∀ b o,b≠it->s.heap.get? b=some o->h'.get? b=some o)(hn:H it=none)(hL:it≠X.env.locals)
  (h1:it∈X.ex\/X.s₀.heap.objs.size<=it) (h2:∀ x c,X.env.cells.lookup x=some c->c≠it) (h3:∀ p∈X.pn++pins,p.1≠it):Inv X pins σ H { s with heap:=h',toks:=t' }:=by
 have nit:∀ b u,H b=some u->b≠it:=fun b u e z=>by rw[z,hn]at e;cases e
 refine I.step (g':=s.gens) (d':=s.drawn) (ch:=[it]) (fun b hb=>?_) (fun b o _ _ hc e _=>k b o (fun z=>hc (by simp[z])) e) (fun b o _ _ hc e _=>⟨o.slots,k b o (fun z=>hc (by simp[z])) e⟩) (fun _ _ _ _ n=>n)
  (fun b o hc e=>⟨o,k b o (fun z=>hc (by simp[z])) e⟩) (fun _ _ e=>e) (fun _ _ _ e=>e) (fun b ps e=>⟨#[],by rw[e];simp⟩) (fun m hm=>?_) (fun b u e=>?_) I.bare
 ·have e:b=it:=by simpa using hb
  subst e;exact⟨h1,hL,h2,h3⟩
 ·obtain⟨o,es,ep,ho,r⟩:=hm;exact⟨o,es,ep,k _ o (ZV hL) ho,r⟩
 ·refine (I.hok b u e).stay (fun c v hc q=>k c v ?_ q) (fun _ q=>q) fun _ _ q=>q;rcases hc with z | z
  ·rw[z];exact nit b u e
  ·exact nit c _ z
theorem Inv.tok(I:Inv X pins σ H s)(t:Nat):Inv X pins σ H { s with toks:=t }:=I.un (h':=s.heap) (t':=t) Un.refl I.hok
theorem Inv.kept(I:Inv X pins σ H s)(k:∀ b u,s.heap.get? b=some u->h'.get? b=some u):Inv X pins σ H { s with heap:=h',toks:=t' }:=I.un (Un.kept k) (I.hok.kept k)
theorem Inv.laid(I:Inv X pins σ H s)(k:∀ b u,s.heap.get? b=some u->h'.get? b=some u)(hp:s.heap.objs.size<=a)(new:ObjOk X.prog X.w (upd H a o) h' a o) :
  Inv X pins σ (upd H a o) { s with heap:=h',toks:=t' }:=I.un (Un.laid k hp (I.hok.fresh hp)) (I.hok.laid k hp new)
theorem Inv.write(I:Inv X pins σ H s)(mu:Mut (H x))(he:e=x\/H e=some (.own x))(k:∀ b u,b≠e->s.heap.get? b=some u->h'.get? b=some u)(heo:∃ u,h'.get? e=some u)
  (new:ObjOk X.prog X.w (upd H x o) h' x o):Inv X pins σ (upd H x o) { s with heap:=h',toks:=t' }:=I.un (Un.write mu he k heo) (I.hok.write mu he k heo new)
theorem Inv.weak(I:Inv X pins σ H s)(hl:σ'.length=σ.length)(w:∀ (i:Nat) v,σ'[i]? = some (some v)->σ[i]? = some (some v)):Inv X pins σ' H s :=
 ⟨I.ok,I.os,I.bare,I.base,let ⟨m,hn,hl'⟩:=I.loc;⟨m,hn,fun i x v e1 e2 e3=>hl' i x v e1 (w i v e2) e3⟩,I.cell,I.free,I.freeC,I.pin,I.hok,hl.trans I.len⟩
theorem Inv.pins_of(I:Inv X pins σ H s)(h:∀ p∈pins',s.heap.get? p.1=some p.2/\H p.1=none/\p.1≠X.env.locals/\p.1∉X.fs/\∀ v,p.2.data≠.cell v):Inv X pins' σ H s :=
 ⟨I.ok,I.os,I.bare,I.base,I.loc,I.cell,I.free,I.freeC,fun p hp=>(Z3.mp hp).elim (fun z=>I.pin p (ZK _ z)) (h p),I.hok,I.len⟩
theorem Q1W{N:List Str}(hN:N.Nodup){i j:Nat}{x:Str}(a:N[i]? = some x)(b:N[j]? = some x):i=j:=by
 obtain⟨h1,e1⟩:=Zv.mp a;obtain⟨h2,e2⟩:=Zv.mp b;exact (List.getElem_inj hN).mp (e1.trans e2.symm)
theorem Q3z{M:Model}{A:Around}{E:Value->Shared->Prop}{i:Nat}{x:Str}{v:V}{u:Value}{Q:Unit->Shared->Prop}(I:Inv X pins σ H s)(hN:X.N.Nodup)(hi:X.N[i]? = some x)(hx:Loc X.env.scope x)(r:RelV v u)
  (h:∀ s',Inv X pins (σ.set i (some v)) H s'->(∃ a,Heap.SameBut a s.heap s'.heap/\(a=X.env.locals\/X.env.cells.lookup x=some a))->Q () s') (hf:X.fn x=true\/X.env.scope.names.lookup x=some .local:=by first | exact .inl rfl | exact .inr rfl | assumption):wpAny M A (storeName X.env x u) Q E s:=by
 obtain⟨m,hn,hl⟩:=id I.loc;have hcls:(X.env.scope.kind==.class||(X.env.scope.kind==.module&&X.env.locals != X.env.globals))=false:=by rw[I.ok.kind];rfl
 have hiσ:i<σ.length:=by rw[I.len];exact (Zv.mp hi).1
 have cne:=I.cne;have tracked:∀ {a:Addr} {h':Heap},(∃ o,s.heap.get? a=some o/\H a=none)->Heap.SameBut a s.heap h'->HOk X.prog X.w H h':=fun{a h'} ha hs b ob e=>by
  obtain⟨_,_,hfree⟩:=ha;refine (I.hok b ob e).stay (fun c w' hc q=>(hs.2 c ?_).trans q) (fun _ q=>q) fun _ _ q=>q;rintro rfl;rcases hc with rfl | hc
  ·rw[hfree]at e;cases e
  ·rw[hfree]at hc;cases hc
 rcases hx with hk | hk
 ·refine wpAny_storeName_local hk hn (fun h' hn' hs=>?_) hcls;obtain⟨oL,_,_,hoL,_⟩:=id hn;refine h _ ⟨I.ok,I.os,I.bare,⟨fun b o e n hb hx=>?_,fun b o e n hb hx=>?_,I.base.free,fun b o e hx=>?_,I.base.tups,I.base.frzs,I.base.tbls⟩,⟨_,hn',fun j y v' e1 e2 e3=>?_⟩,fun y c e=>?_,I.free,I.freeC,fun p hp=>?_,tracked ⟨oL,hoL,I.free⟩ hs,by simpa using I.len⟩ ⟨_,hs,.inl rfl⟩
  ·exact (hs.2 b (ZD (Zr (Zn e) I.ok.above))).trans (I.base.keep b o e n hb hx)
  ·obtain⟨sl,e1⟩:=I.base.slot b o e n hb hx;exact⟨sl,(hs.2 b (ZD (Zr (Zn e) I.ok.above))).trans e1⟩
  ·obtain⟨o',e1⟩:=I.base.there b o e hx;exact⟨o',(hs.2 b (ZD (Zr (Zn e) I.ok.above))).trans e1⟩
  ·by_cases hj:j=i
   ·subst hj;rw[hi]at e1;cases e1;rw[List.getElem?_set_self hiσ]at e2;cases e2;exact⟨u,r,.inl ⟨hk,by simp⟩⟩
   ·rw[List.getElem?_set_ne (ZV hj)]at e2;obtain⟨u',r',q⟩:=hl j y v' e1 e2 e3;refine⟨u',r',?_⟩;rcases q with ⟨k,e⟩ | ⟨k,c,e,z⟩
    ·refine .inl ⟨k,?_⟩;have:y≠x:=fun e=>hj (Q1W hN e1 (e ▸ hi));simp[this,e]
    ·exact .inr ⟨k,c,e,z.sameBut hs (cne y c e)⟩
  ·obtain⟨w',z⟩:=I.cell y c e;exact⟨w',z.sameBut hs (cne y c e)⟩
  ·obtain⟨e,n,ne,nf,d⟩:=I.pin p hp;exact⟨(hs.2 p.1 ne).trans e,n,ne,nf,d⟩
 ·have hfn:X.fn x=true:=by
   rcases hf with z | z
   ·exact z
   ·rw[z]at hk;cases hk
  obtain⟨c,hc⟩:=I.ok.has x (.inl hk);obtain⟨w',z⟩:=I.cell x c hc;refine wpAny_storeName_cell I.ok.kind hk hc z (fun h' hc' hs=>?_);obtain⟨oc,hoc,hocd⟩:=id z;refine h { s with heap:=h' } ⟨I.ok,I.os,I.bare,⟨fun b o e n hb hx=>?_,fun b o e n hb hx=>?_,I.base.free,fun b o e hx=>?_,I.base.tups,I.base.frzs,I.base.tbls⟩,⟨m,hn.sameBut hs (ZV (cne x c hc)),fun j y v' e1 e2 e3=>?_⟩,fun y c' e=>?_,I.free,I.freeC,fun p hp=>?_,tracked ⟨oc,hoc,I.freeC x c hc⟩ hs,by simpa using I.len⟩ ⟨c,hs,.inr hc⟩
  ·exact (hs.2 b (ZD (Zr (Zn e) (I.ok.cab x c hfn hc)))).trans (I.base.keep b o e n hb hx)
  ·obtain⟨sl,e1⟩:=I.base.slot b o e n hb hx;exact⟨sl,(hs.2 b (ZD (Zr (Zn e) (I.ok.cab x c hfn hc)))).trans e1⟩
  ·obtain⟨o',e1⟩:=I.base.there b o e hx;exact⟨o',(hs.2 b (ZD (Zr (Zn e) (I.ok.cab x c hfn hc)))).trans e1⟩
  ·by_cases hj:j=i
   ·subst hj;rw[hi]at e1;cases e1;rw[List.getElem?_set_self hiσ]at e2;cases e2;exact⟨u,r,.inr ⟨.inl hk,c,hc,hc'⟩⟩
   ·rw[List.getElem?_set_ne (ZV hj)]at e2;obtain⟨u',r',q⟩:=hl j y v' e1 e2 e3;refine⟨u',r',?_⟩;rcases q with q | ⟨k,c',e,z'⟩
    ·exact .inl q
    ·refine .inr ⟨k,c',e,z'.sameBut hs ?_⟩;rintro rfl;exact hj (Q1W hN e1 (I.ok.inj _ _ _ e hc ▸ hi))
  ·by_cases hcc:c'=c
   ·subst hcc;exact⟨_,hc'⟩
   ·obtain⟨w2,z2⟩:=I.cell y c' e;exact⟨w2,z2.sameBut hs hcc⟩
  ·obtain⟨e,n,ne,nf,d⟩:=I.pin p hp;refine⟨(hs.2 p.1 ?_).trans e,n,ne,nf,d⟩;intro q;rw[q,hoc]at e;have q':oc=p.2:=Z1 e;exact d w' (by rw[<- q'];exact hocd)
theorem Q1e{E:Value->Shared->Prop}{Q:Unit->Shared->Prop}(I:Inv X pins σ H s)(hN:X.N.Nodup)(hi:X.N[i]? = some x)(hx:Loc X.env.scope x)(r:RelV v u)
  (h:∀ s',Inv X pins (σ.set i (some v)) H s'->Q () s') (hf:X.fn x=true\/X.env.scope.names.lookup x=some .local:=by first | exact .inl rfl | exact .inr rfl | assumption):wpAny M A (storeName X.env x u) Q E s :=
 Q3z I hN hi hx r (fun s' I' _=>h s' I') hf
theorem Inv.call'(I:Inv X pins σ H s)(ho:s'.os=s.os)(u:Un (frs X.stack) ch H H' s.heap s'.heap)(hok:HOk X.prog X.w H' s'.heap)(hg:AllBare s'.gens)
  (hch:∀ b∈ch,(b∈X.ex\/X.s₀.heap.objs.size<=b)/\b≠X.env.locals/\(∀ x c,X.env.cells.lookup x=some c->c≠b)/\∀ p∈X.pn++pins,p.1≠b):Inv X pins σ H' s':=by
 obtain⟨h',g',d',t',o'⟩:=s';have e:o'=s.os:=ho;subst e;exact I.call (g':=g') (t':=t') (d':=d') u hok hg hch
end
noncomputable abbrev XK:=Value->Option (Int×Addr)->Hp->Prop
noncomputable abbrev St:=List (Option V)
noncomputable abbrev VK:=V->Hp->Prop
noncomputable abbrev TE:=St->Hp->VK->Prop
noncomputable abbrev TT:=St->Hp->(Bool->Hp->Prop)->Prop
noncomputable abbrev TA:=St->Hp->(List V->Hp->Prop)->Prop
structure Ends where
 nx:St->Hp->Prop
 rt:VK
 bk:St->Hp->Prop:=fun _ _=>False
 ct:St->Hp->Prop:=fun _ _=>False
noncomputable abbrev TS:=Ends->St->Hp->Prop
noncomputable def EP(X:Cx)(pins:List (Addr×Obj))(σ:St)(Q:VK)(u:Value)(s':Shared):Prop:=∃ v H',Inv X pins σ H' s'/\RelV v u/\Q v H'
noncomputable def TP(X:Cx)(pins:List (Addr×Obj))(σ:St)(Q:Bool->Hp->Prop)(b:Bool)(s':Shared):Prop:=∃ H',Inv X pins σ H' s'/\Q b H'
noncomputable def AP(X:Cx)(pins:List (Addr×Obj))(σ:St)(Q:List V->Hp->Prop)(us:List Value)(s':Shared):Prop:=∃ vs H',Inv X pins σ H' s'/\Vals vs us/\Q vs H'
noncomputable def SP(X:Cx)(pins:List (Addr×Obj))(D:Ends)(f:Flow)(s':Shared):Prop :=
 match f with
 | .next=>∃ σ' H',Inv X pins σ' H' s'/\D.nx σ' H'
 | .brk=>∃ σ' H',Inv X pins σ' H' s'/\D.bk σ' H'
 | .cont=>∃ σ' H',Inv X pins σ' H' s'/\D.ct σ' H'
 | .ret u=>∃ v σ' H',Inv X pins σ' H' s'/\RelV v u/\D.rt v H'
noncomputable def PE(X:Cx)(e:Expr)(t:TE):Prop :=
 ∀ (pins:List (Addr×Obj)) (s:Shared) (σ:St) (H:Hp) (Q:VK),Inv X pins σ H s->t σ H Q->wpAny (model X.prog X.w) X.A (eval e X.env) (EP X pins σ Q) X.xe s
noncomputable def PT(X:Cx)(e:Expr)(t:TT):Prop :=
 ∀ (pins:List (Addr×Obj)) (s:Shared) (σ:St) (H:Hp) (Q:Bool->Hp->Prop),Inv X pins σ H s->t σ H Q->wpAny (model X.prog X.w) X.A (isTrue e X.env (eval e X.env)) (TP X pins σ Q) X.xe s
noncomputable def PW(X:Cx)(e:Expr)(t:TT):Prop :=
 ∀ (whole:Sem Value) (pins:List (Addr×Obj)) (s:Shared) (σ:St) (H:Hp) (Q:Bool->Hp->Prop),Inv X pins σ H s->t σ H Q->wpAny (model X.prog X.w) X.A (isTrue e X.env whole) (TP X pins σ Q) X.xe s
theorem PW.pt(h:PW X e t):PT X e t:=h _
noncomputable def PA(X:Cx)(es:List Expr)(t:TA):Prop :=
 ∀ (pos:Pos) (pins:List (Addr×Obj)) (s:Shared) (σ:St) (H:Hp) (Q:List V->Hp->Prop),Inv X pins σ H s->t σ H Q->wpAny (model X.prog X.w) X.A (spliced (backTo pos (starEach es X.env))) (AP X pins σ Q) X.xe s
noncomputable def PS(X:Cx)(st:Stmt)(t:TS):Prop :=
 ∀ (pins:List (Addr×Obj)) (s:Shared) (σ:St) (H:Hp) (D:Ends),Inv X pins σ H s->t D σ H->wpAny (model X.prog X.w) X.A (exec st X.env) (SP X pins D) X.xe s
noncomputable def PSs(X:Cx)(st:List Stmt)(t:TS):Prop :=
 ∀ (pins:List (Addr×Obj)) (s:Shared) (σ:St) (H:Hp) (D:Ends),Inv X pins σ H s->t D σ H->wpAny (model X.prog X.w) X.A (execs st X.env) (SP X pins D) X.xe s
theorem thn{α:Type}{t:Sem α}{Q Q':α->Shared->Prop}{M:Model}{A:Around}{E:Value->Shared->Prop}{s:Shared}(h:wpAny M A t Q E s)(hQ:∀ a s,Q a s->Q' a s):wpAny M A t Q' E s:=Z4 h hQ fun _ _ x=>x
section
variable{X:Cx}
theorem bin{a b:Expr}{ta tb:TE}(ha:PE X a ta)(hb:PE X b tb){pins:List (Addr×Obj)}{s:Shared}{σ:St}{H:Hp}{R:V->V->Hp->Prop}(I:Inv X pins σ H s)(h:ta σ H fun x H1=>tb σ H1 fun y H2=>R x y H2)
  {α:Type} {Q:α->Shared->Prop} {f:Value->Value->Sem α}
  (hf:∀ v u s2 x y H2,Inv X pins σ H2 s2->RelV x v->RelV y u->R x y H2->wpAny (model X.prog X.w) X.A (f v u) Q X.xe s2) :
  wpAny (model X.prog X.w) X.A (eval a X.env) (fun v s₁=>wpAny (model X.prog X.w) X.A (eval b X.env) (fun u s₂=>wpAny (model X.prog X.w) X.A (f v u) Q X.xe s₂) X.xe s₁) X.xe s:=by
 refine thn (ha pins s σ H _ I h) fun v s1 ⟨x,H1,I1,r1,q1⟩=>?_;refine thn (hb pins s1 σ H1 _ I1 q1) fun u s2 ⟨y,H2,I2,r2,q2⟩=>?_;exact hf v u s2 x y H2 I2 r1 r2 q2
noncomputable def tVar(i:Nat):TE:=fun σ H Q=>∃ v,σ[i]? = some (some v)/\Q v H
noncomputable def tC(v:V):TE:=fun _ H Q=>Q v H
theorem Q1N(hN:X.N[i]? = some x)(hv:Vis X.env.scope x)(hd:(x==("__debug__" : Str))=false:=by decide)(hcd:(x==("__classdict__" : Str))=false:=by decide):PE X (.Name x pos) (tVar i):=by
 intro pins s σ H Q I h;obtain⟨v,e,h⟩:=h;obtain⟨m,hn,hl⟩:=I.loc;obtain⟨u,r,l⟩:=hl i x v hN e hv;have fin:EP X pins σ Q u s:=⟨v,H,I,r,h⟩;rcases l with ⟨hk,hm⟩ | ⟨hk,c,hc,hcell⟩
 ·exact wpAny_Name (wpAny_loadName_local I.ok.kind hk hn hm fin) hd
 ·rcases hk with hk | hk
  ·exact wpAny_Name (wpAny_loadName_cell I.ok.kind hk hc hcell fin) hd
  ·exact wpAny_Name (wpAny_loadName_free I.ok.kind hk hc hcell fin hcd) hd
theorem Qbi{i j pos}:PE X (.Constant (.int i) j pos) (tC (.int i)):=fun _ _ _ H _ I h=>wpAny_Constant_int ⟨.int i,H,I.tok _,⟨_,rfl⟩,h⟩
theorem pe_bl{b j pos}:PE X (.Constant (.bool b) j pos) (tC (.bl b)):=fun _ _ _ H _ I h=>Constant_bool ⟨.bl b,H,I,rfl,h⟩
theorem Qbj{j pos}:PE X (.Constant .none j pos) (tC .non):=fun _ _ _ H _ I h=>Constant_none ⟨.non,H,I,rfl,h⟩
theorem Qbk{x j pos}:PE X (.Constant (.str x) j pos) (tC (.str x)):=fun _ _ _ H _ I h=>Calls.Constant_str ⟨.str x,H,I.tok _,⟨_,rfl⟩,h⟩
noncomputable def Gl(X:Cx)(x:Str):Prop:=X.env.kindOf x=some .globalImplicit
theorem Q0I{E:Value->Shared->Prop}{Q:Value->Shared->Prop}(I:Inv X pins σ H s)(hg:Gl X x)(hm:X.mg x=some u)(h:Q u s)
  (hd:(x==("__debug__" : Str))=false:=by decide):wpAny (model X.prog X.w) X.A (eval (.Name x pos) X.env) Q E s :=
 Calls.Name_function_global I.ok.kind hg (Calls.loadGlobal_global (by rw[I.ok.glob];exact I.mod.glob.keeps I.bk) hm h) hd
theorem Q2g{E:Value->Shared->Prop}{Q:Value->Shared->Prop}(I:Inv X pins σ H s)(hg:Gl X x)(hm:X.mg x=none)(hv:bootBuiltins x=some u)(h:Q u s)
  (hn:x ≠ "__name__":=by decide) (hd:(x==("__debug__" : Str))=false:=by decide):wpAny (model X.prog X.w) X.A (eval (.Name x pos) X.env) Q E s:=by
 obtain⟨mb,h1,h2⟩:=I.mod.blt;exact Calls.Name_function_global I.ok.kind hg (Calls.loadGlobal_builtin (by rw[I.ok.glob];exact I.mod.glob.keeps I.bk) hm (by rw[I.ok.blt];exact h1.keeps I.bk) ((h2 x hn).trans hv) h) hd
theorem Q6j(hg:Gl X x)(hm:X.mg x=some u)(r:RelV v u)(hd:(x==("__debug__" : Str))=false:=by decide):PE X (.Name x pos) (tC v) :=
 fun _ _ _ H _ I h=>Q0I I hg hm ⟨v,H,I,r,h⟩ hd
theorem Q6k(hg:Gl X x)(hm:X.mg x=none)(hv:bootBuiltins x=some u)(r:RelV v u)(hn:x ≠ "__name__":=by decide)(hd:(x==("__debug__" : Str))=false:=by decide):PE X (.Name x pos) (tC v) :=
 fun _ _ _ H _ I h=>Q2g I hg hm hv ⟨v,H,I,r,h⟩ hn hd
variable{a b:Expr}{ta tb:TE}{pos:Pos}
noncomputable def tB(t:TE):TT:=fun σ H Q=>t σ H fun x H1=>∃ c,x=.bl c/\Q c H1
theorem Qbl{e:Expr}{t:TE}(h:PE X e t)(he:∀ whole,isTrue e X.env whole=(do let v <- whole;standAt e.pos;holding [v] (truthy v)):=by intro _;rfl):PT X e (tB t):=by
 intro pins s σ H Q I hw;refine isTrue_plain (thn (h pins s σ H _ I hw) fun v s1 ⟨x,H1,I1,r1,q1⟩=>?_) (he _);obtain⟨d,rfl,q⟩:=q1;cases r1;exact Yb ⟨H1,I1,q⟩
variable{tA tB':TT}{rest:List Expr}
noncomputable def tAnd(t u:TT):TT:=fun σ H Q=>t σ H fun c H1=>if c=true then u σ H1 Q else Q false H1
noncomputable def tOr(t u:TT):TT:=fun σ H Q=>t σ H fun c H1=>if c=true then Q true H1 else u σ H1 Q
noncomputable def tNot(t:TT):TT:=fun σ H Q=>t σ H fun c H1=>Q (!c) H1
theorem Q9V(ha:PT X a tA):PW X (.BoolOp .And [a] pos) tA:=by
 intro wh pins s σ H Q I h;refine isTrue_and (thn (ha pins s σ H Q I h) fun c s1 e=>?_);cases c with
 | true=>exact isTrue_and_nil e
 | false=>exact e
theorem Qbm(ha:PT X a tA):PW X (.BoolOp .Or [a] pos) tA:=by
 intro wh pins s σ H Q I h;refine isTrue_or (thn (ha pins s σ H Q I h) fun c s1 e=>?_);cases c with
 | false=>exact isTrue_or_nil e
 | true=>exact e
theorem Qbn(ha:PT X a tA)(hb:PW X (.BoolOp .And (b::rest) pos) tB'):PW X (.BoolOp .And (a::b::rest) pos) (tAnd tA tB'):=by
 intro wh pins s σ H Q I h;refine isTrue_and (thn (ha pins s σ H _ I h) fun c s1 ⟨H1,I1,q1⟩=>?_);cases c with
 | true=>exact hb wh pins s1 σ H1 Q I1 q1
 | false=>exact⟨H1,I1,q1⟩
theorem pw_or(ha:PT X a tA)(hb:PW X (.BoolOp .Or (b::rest) pos) tB'):PW X (.BoolOp .Or (a::b::rest) pos) (tOr tA tB'):=by
 intro wh pins s σ H Q I h;refine isTrue_or (thn (ha pins s σ H _ I h) fun c s1 ⟨H1,I1,q1⟩=>?_);cases c with
 | true=>exact⟨H1,I1,q1⟩
 | false=>exact hb wh pins s1 σ H1 Q I1 q1
theorem Qbo(ha:PT X a tA):PT X (.UnaryOp .Not a pos) (tNot tA):=by
 intro pins s σ H Q I h;exact isTrue_not (ha pins s σ H (fun c H1=>Q (!c) H1) I h)
noncomputable def tAndV(ta tb:TE):TE:=fun σ H Q=>ta σ H fun x H1=>∃ c,x=.bl c/\if c=true then tb σ H1 Q else Q (.bl false) H1
noncomputable def tOrV(ta tb:TE):TE:=fun σ H Q=>ta σ H fun x H1=>∃ c,x=.bl c/\if c=true then Q (.bl true) H1 else tb σ H1 Q
noncomputable def tNotV(ta:TE):TE:=fun σ H Q=>ta σ H fun x H1=>∃ c,x=.bl c/\Q (.bl (!c)) H1
theorem Qbp{op}(h:PE X a t):PE X (.BoolOp op [a] pos) t:=fun pins s σ H Q I hw=>BoolOp_one (h pins s σ H Q I hw)
theorem Qbq(ha:PE X a ta)(hb:PE X (.BoolOp .And (b::rest) pos) tb):PE X (.BoolOp .And (a::b::rest) pos) (tAndV ta tb):=by
 intro pins s σ H Q I h;refine BoolOp_and (thn (ha pins s σ H _ I h) fun v s1 ⟨x,H1,I1,r1,q1⟩=>?_);obtain⟨c,rfl,q1⟩:=q1;cases r1;refine Yb ?_;cases c with
 | true=>exact hb pins s1 σ H1 Q I1 q1
 | false=>exact⟨.bl false,H1,I1,rfl,q1⟩
theorem pe_or(ha:PE X a ta)(hb:PE X (.BoolOp .Or (b::rest) pos) tb):PE X (.BoolOp .Or (a::b::rest) pos) (tOrV ta tb):=by
 intro pins s σ H Q I h;refine BoolOp_or (thn (ha pins s σ H _ I h) fun v s1 ⟨x,H1,I1,r1,q1⟩=>?_);obtain⟨c,rfl,q1⟩:=q1;cases r1;refine Yb ?_;cases c with
 | false=>exact hb pins s1 σ H1 Q I1 q1
 | true=>exact⟨.bl true,H1,I1,rfl,q1⟩
theorem Qbr(ha:PE X a ta):PE X (.UnaryOp .Not a pos) (tNotV ta):=by
 intro pins s σ H Q I h;refine UnaryOp_ (thn (ha pins s σ H _ I h) fun v s1 ⟨x,H1,I1,r1,q1⟩=>?_);obtain⟨c,rfl,q1⟩:=q1;cases r1;exact not_of (Yb ⟨.bl (!c),H1,I1,rfl,q1⟩)
noncomputable def tIf(t:TT)(ta tb:TE):TE:=fun σ H Q=>t σ H fun c H1=>if c=true then ta σ H1 Q else tb σ H1 Q
theorem Q8h{c:Expr}(hc:PT X c tA)(ha:PE X a ta)(hb:PE X b tb):PE X (.IfExp c a b pos) (tIf tA ta tb):=by
 intro pins s σ H Q I h;refine wpAny_IfExp (thn (hc pins s σ H _ I h) fun d s1 ⟨H1,I1,q1⟩=>?_);cases d with
 | true=>exact ha pins s1 σ H1 Q I1 q1
 | false=>exact hb pins s1 σ H1 Q I1 q1
end
noncomputable def SqL(K:Frag)(H:Hp)(a:Addr)(xs:List V):Prop :=
 Rd H a (.lst xs) \/
  ∃ (o:Obj) (its:Array Value) (n:Nat),K.lookup a=some o/\o.cls=.type "list" /\ o.dict=none/\o.data=.seq its n/\its.size<=sizeLine/\Vals xs its.toList
noncomputable def SqT(K:Frag)(H:Hp)(a:Addr)(xs:List V):Prop :=
 Rd H a (.tup xs) \/
  ∃ (o:Obj) (its:Array Value) (n:Nat),K.lookup a=some o/\o.cls=.type "tuple" /\ o.data=.seq its n/\its.size<=sizeLine/\Vals xs its.toList
noncomputable def absV:Value->Option V
 | .none=>some .non
 | .bool b=>some (.bl b)
 | .int i _=>some (.int i)
 | .str x _=>some (.str x)
 | .bytes b _=>some (.byt b)
 | .float b _=>some (.flt b)
 | .ref a=>some (.ref a)
 | .type n=>some (.ty n)
 | _=>none
theorem RelV.abs(r:RelV x u):absV u=some x:=by
 cases x with
 | non=>cases r;rfl
 | bl _=>cases r;rfl
 | int _=>obtain⟨t,rfl⟩:=r;rfl
 | str _=>obtain⟨t,rfl⟩:=r;rfl
 | byt _=>obtain⟨t,rfl⟩:=r;rfl
 | flt _=>obtain⟨t,rfl⟩:=r;rfl
 | ref _=>cases r;rfl
 | ty _=>cases r;rfl
theorem RelV.inj(r:RelV x u)(q:RelV y u):x=y:=Z1 (r.abs.symm.trans q.abs)
theorem Vals.inj:∀ {xs ys:List V} {us:List Value},Vals xs us->Vals ys us->xs=ys
 | _,_,_,.nil,.nil=>rfl
 | _,_,_,.cons r t,.cons r' t'=>by rw[r.inj r',Vals.inj t t']
section
variable{X:Cx}{pins:List (Addr×Obj)}{σ:St}{H:Hp}{s:Shared}{a:Addr}{xs ys:List V}
theorem SqL.of{K:Frag}(h:H a=some (.lst xs)):SqL K H a xs:=.inl (.inl h)
theorem SqT.of{K:Frag}(h:H a=some (.tup xs)):SqT K H a xs:=.inl (.inl h)
theorem Inv.list(I:Inv X pins σ H s)(h:SqL X.K H a xs):∃ its:List Value,Vals xs its/\PlainL s.heap a its.toArray/\xs.length<=sizeLine:=by
 rcases h with h | ⟨o,its,n,hk,hc,hd,hs,hz,r⟩
 ·obtain⟨z,its,n,r,e⟩:=h.ok I.hok;exact⟨its,r,⟨_,n,e,rfl,rfl,rfl⟩,z⟩
 ·refine⟨its.toList,r,⟨o,n,I.kIn a o hk,hc,hd,by simpa using hs⟩,?_⟩
  have e:=r.length;simp only[Array.length_toList]at e;omega
theorem Inv.tuple(I:Inv X pins σ H s)(h:SqT X.K H a xs):∃ its:List Value,Vals xs its/\IsTup s.heap a its.toArray/\xs.length<=sizeLine:=by
 rcases h with h | ⟨o,its,n,hk,hc,hs,hz,r⟩
 ·obtain⟨z,its,r,p⟩:=h.ok I.hok;exact⟨its,r,p,z⟩
 ·refine⟨its.toList,r,⟨o,I.kIn a o hk,hc,n,by simpa using hs⟩,?_⟩
  have e:=r.length;simp only[Array.length_toList]at e;omega
theorem Inv.list_inj(I:Inv X pins σ H s)(h:SqL X.K H a xs)(h':SqL X.K H a ys):xs=ys:=by
 obtain⟨its,r,⟨o,n,e,_,_,d⟩,_⟩:=I.list h;obtain⟨its',r',⟨o',n',e',_,_,d'⟩,_⟩:=I.list h';rw[e]at e';cases e';rw[d]at d';injection d' with d1 _;have:its=its':=by simpa using congrArg Array.toList d1
 subst this;exact r.inj r'
theorem Inv.tuple_inj(I:Inv X pins σ H s)(h:SqT X.K H a xs)(h':SqT X.K H a ys):xs=ys:=by
 obtain⟨its,r,⟨o,e,_,n,d⟩,_⟩:=I.tuple h;obtain⟨its',r',⟨o',e',_,n',d'⟩,_⟩:=I.tuple h';rw[e]at e';cases e';rw[d]at d';injection d' with d1 _;have:its=its':=by simpa using congrArg Array.toList d1
 subst this;exact r.inj r'
end
noncomputable abbrev Cx.wish(X:Cx)(E:Value->Shared->Prop):Cx:={ X with xe:=E }
noncomputable abbrev Cx.nox(X:Cx):Cx:=X.wish fun _ _=>False
theorem Cx.Ok.wish{X:Cx}(ok:X.Ok)(E:Value->Shared->Prop):(X.wish E).Ok :=
 ⟨ok.mod,ok.kind,ok.glob,ok.blt,ok.above,ok.inj,ok.has,ok.cab,ok.hd,ok.frames,ok.stk,ok.exf,ok.bs,ok.bsz,ok.noex,ok.exfs,ok.funs,ok.frf⟩
theorem Cx.Ok.unwish{X:Cx}{E:Value->Shared->Prop}(ok:(X.wish E).Ok):X.Ok :=
 ⟨ok.mod,ok.kind,ok.glob,ok.blt,ok.above,ok.inj,ok.has,ok.cab,ok.hd,ok.frames,ok.stk,ok.exf,ok.bs,ok.bsz,ok.noex,ok.exfs,ok.funs,ok.frf⟩
section
variable{X:Cx}{pins:List (Addr×Obj)}{σ:St}{H:Hp}{s:Shared}{E:Value->Shared->Prop}
theorem Inv.wish(I:Inv X pins σ H s)(E:Value->Shared->Prop):Inv (X.wish E) pins σ H s:=⟨I.ok.wish E,I.os,I.bare,I.base,I.loc,I.cell,I.free,I.freeC,I.pin,I.hok,I.len⟩
theorem Inv.unwish(I:Inv (X.wish E) pins σ H s):Inv X pins σ H s:=⟨I.ok.unwish,I.os,I.bare,I.base,I.loc,I.cell,I.free,I.freeC,I.pin,I.hok,I.len⟩
theorem SP.unwish(h:SP (X.wish E) pins D f s'):SP X pins D f s':=by
 cases f with
 | next=>obtain⟨σ',H',I,q⟩:=h;exact⟨σ',H',I.unwish,q⟩
 | brk=>obtain⟨σ',H',I,q⟩:=h;exact⟨σ',H',I.unwish,q⟩
 | cont=>obtain⟨σ',H',I,q⟩:=h;exact⟨σ',H',I.unwish,q⟩
 | ret u=>obtain⟨v,σ',H',I,r,q⟩:=h;exact⟨v,σ',H',I.unwish,r,q⟩
theorem PE.nox(h:PE X.nox e t):PE X e t:=fun pins s σ H Q I hw =>
 Z4 (h pins s σ H Q (I.wish _) hw) (fun _ _ ⟨v,H',I',r,q⟩=>⟨v,H',I'.unwish,r,q⟩) fun _ _ z=>False.elim z
theorem PT.nox(h:PT X.nox e t):PT X e t:=fun pins s σ H Q I hw =>
 Z4 (h pins s σ H Q (I.wish _) hw) (fun _ _ ⟨H',I',q⟩=>⟨H',I'.unwish,q⟩) fun _ _ z=>False.elim z
theorem PSs.nox{st:List Stmt}{t:TS}(h:PSs X.nox st t):PSs X st t:=fun pins s σ H D I hw =>
 Z4 (h pins s σ H D (I.wish _) hw) (fun _ _ q=>q.unwish) fun _ _ z=>False.elim z
end
section
variable{X:Cx}{st:Stmt}{rest:List Stmt}{t u:TS}{e:Expr}{te:TE}{pos:Pos}
noncomputable def tNext:TS:=fun D σ H=>D.nx σ H
noncomputable def tSeq(t u:TS):TS:=fun D σ H=>t { D with nx:=u D } σ H
theorem Q6l:PSs X [] tNext:=fun _ _ σ H _ I h=>wpAny_execs_nil ⟨σ,H,I,h⟩
theorem Q3d(h1:PS X st t)(h2:PSs X rest u):PSs X (st::rest) (tSeq t u):=by
 intro pins s σ H D I h;refine wpAny_execs_cons (thn (h1 pins s σ H { D with nx:=u D } I h) fun f s1 q=>?_);cases f with
 | next =>
  obtain⟨σ',H',I',q⟩:=q;exact h2 pins s1 σ' H' D I' q
 | ret v=>exact q
 | brk=>exact q
 | cont=>exact q
theorem Q6m(h1:PS X st t):PSs X [st] t:=by
 intro pins s σ H D I h;refine wpAny_execs_cons (thn (h1 pins s σ H D I h) fun f s1 q=>?_);cases f with
 | next=>exact wpAny_execs_nil q
 | ret v=>exact q
 | brk=>exact q
 | cont=>exact q
noncomputable def tBreak:TS:=fun D σ H=>D.bk σ H
noncomputable def tCont:TS:=fun D σ H=>D.ct σ H
theorem Inv.quiet(I:Inv X pins σ H s):interactive X.env=false:=by simp[interactive,I.ok.kind]
noncomputable def tDrop(te:TE):TS:=fun D σ H=>te σ H fun _ H1=>D.nx σ H1
theorem Q6n(he:PE X e te)(hs:swapsWith e none pos.line X.env=pure false:=by rfl):PS X (.Expr e pos) (tDrop te):=by
 intro pins s σ H D I h;exact wpAny_Expr_any (thn (he pins s σ H _ I h) fun v s1 ⟨x,H1,I1,r1,q1⟩=>⟨σ,H1,I1,q1⟩) I.quiet hs
noncomputable def tRet(te:TE):TS:=fun D σ H=>te σ H D.rt
theorem Q9t(he:PE X e te):PS X (.Return (some e) pos) (tRet te):=by
 intro pins s σ H D I h;exact wpAny_Return_some (thn (he pins s σ H _ I h) fun v s1 ⟨x,H1,I1,r1,q1⟩=>⟨x,σ,H1,I1,r1,q1⟩)
noncomputable def tRetN:TS:=fun D _ H=>D.rt .non H
noncomputable def tIfS(c:TT)(t u:TS):TS:=fun D σ H=>c σ H fun b H1=>if b=true then t D σ H1 else u D σ H1
theorem ps_if{c:Expr}{a b:List Stmt}{tc:TT}(hc:PT X c tc)(ha:PSs X a t)(hb:PSs X b u):PS X (.If c a b pos) (tIfS tc t u):=by
 intro pins s σ H D I h;refine wpAny_If (thn (hc pins s σ H _ I h) fun d s1 ⟨H1,I1,q1⟩=>?_);cases d with
 | true=>exact ha pins s1 σ H1 D I1 q1
 | false=>exact hb pins s1 σ H1 D I1 q1
end
noncomputable abbrev TG:=V->St->Hp->(St->Hp->Prop)->Prop
noncomputable abbrev TGs:=List V->St->Hp->(St->Hp->Prop)->Prop
noncomputable def PG(X:Cx)(target:Expr)(t:TG):Prop :=
 ∀ (pins:List (Addr×Obj)) (s:Shared) (σ:St) (H:Hp) (v:V) (u:Value) (Q:St->Hp->Prop),Inv X pins σ H s->RelV v u->t v σ H Q ->
  wpAny (model X.prog X.w) X.A (assign target X.env u) (fun _ s'=>∃ σ' H',Inv X pins σ' H' s'/\Q σ' H') X.xe s
noncomputable def PGs(X:Cx)(ts:List Expr)(t:TGs):Prop :=
 ∀ (pins:List (Addr×Obj)) (s:Shared) (σ:St) (H:Hp) (vs:List V) (us:List Value) (Q:St->Hp->Prop),Inv X pins σ H s->Vals vs us->t vs σ H Q ->
  wpAny (model X.prog X.w) X.A (assignInOrder ((assignEach ts X.env).map (·.2)) us) (fun _ s'=>∃ σ' H',Inv X pins σ' H' s'/\Q σ' H') X.xe s
noncomputable abbrev TSet:=V->V->V->Hp->(Hp->Prop)->Prop
noncomputable def PSet(X:Cx)(t:TSet):Prop :=
 ∀ (pins:List (Addr×Obj)) (s:Shared) (σ:St) (H:Hp) (o i v:V) (ov iv u:Value) (Q:Hp->Prop),Inv X pins σ H s->RelV o ov->RelV i iv->RelV v u->t o i v H Q ->
  wpAny (model X.prog X.w) X.A (setItem ov iv u) (fun _ s'=>∃ H',Inv X pins σ H' s'/\Q H') X.xe s
section
variable{X:Cx}{pos:Pos}
noncomputable def zaS(i:Nat):TG:=fun v σ H Q=>Q (σ.set i (some v)) H
theorem Q4s(hN:X.N.Nodup)(hi:X.N[i]? = some x)(hx:Loc X.env.scope x)(hf:X.fn x=true\/X.env.scope.names.lookup x=some .local:=by first | exact .inl rfl | exact .inr rfl | assumption):PG X (.Name x pos) (zaS i):=by
 intro pins s σ H v u Q I r h;exact wpAny_assign_Name (Q1e I hN hi hx r (fun s' I'=>⟨_,H,I',h⟩) hf)
noncomputable def gNil:TGs:=fun vs σ H Q=>vs=[]/\Q σ H
noncomputable def zbw(t:TG)(u:TGs):TGs:=fun vs σ H Q=>∃ v r,vs=v::r/\t v σ H fun σ' H'=>u r σ' H' Q
theorem Q4t:PGs X [] gNil:=by
 intro pins s σ H vs us Q I r h;obtain⟨e,h⟩:=h;subst e;cases r;exact assignInOrder_nil ⟨σ,H,I,h⟩
theorem Q1q{e:Expr}{es:List Expr}{t:TG}{u:TGs}(h1:PG X e t)(h2:PGs X es u)
  (hs:(assignEach (e::es) X.env).map (·.2)=assign e X.env::(assignEach es X.env).map (·.2):=by rfl):PGs X (e::es) (zbw t u):=by
 intro pins s σ H vs us Q I r h;obtain⟨v,vr,e1,h⟩:=h;subst e1;cases r with
 | cons r rr =>
  rw[hs];refine assignInOrder_cons (thn (h1 pins s σ H _ _ _ I r h) fun _ s1 ⟨σ1,H1,I1,q1⟩=>?_);exact h2 pins s1 σ1 H1 _ _ Q I1 rr q1
noncomputable def gTup(K:Frag)(n:Nat)(t:TGs):TG:=fun v σ H Q=>∃ a xs,v=.ref a/\SqT K H a xs/\xs.length=n/\t xs σ H Q
theorem Q6o(hc:X.calm=true)(h:PGs X es t)
  (hn:(assignEach es X.env).length=n:=by rfl) (hst:(assignEach es X.env).findIdx? (·.1)=none:=by rfl):PG X (.Tuple es k pos) (gTup X.K n t):=by
 intro pins s σ H v u Q I r hw;obtain⟨a,xs,e1,hq,hl,hw⟩:=hw;subst e1;cases r;obtain⟨its,rv,ht,hz⟩:=I.tuple hq;refine assign_Tuple_tuple (I.ok.hd hc) ht (by simp[hn,<- hl,rv.length]) hst fun h' hx=>?_
 have I1:Inv X pins σ H { s with heap:=h' }:=I.kept (t':=s.toks) fun b o e=>hx b o (ZD (Zn e)) e;exact h pins _ σ H xs _ Q I1 (by simpa using rv) hw
noncomputable def tAsg(te:TE)(g:TG):TS:=fun D σ H=>te σ H fun x H1=>g x σ H1 D.nx
theorem Qbs{tg e:Expr}{te:TE}{g:TG}(he:PE X e te)(hg:PG X tg g)(hs:swapsWithSole [tg] e pos.line X.env=pure false:=by rfl)(hw:swappedStores [tg] e X.env=pure none:=by rfl)
  (h1:(assignEach [tg] X.env).map (·.2)=[assign tg X.env]:=by rfl):PS X (.Assign [tg] e pos) (tAsg te g):=by
 intro pins s σ H D I h;refine wpAny_Assign_stores (thn (he pins s σ H _ I h) fun v s1 ⟨x,H1,I1,r1,q1⟩=>?_) hs hw;rw[h1];exact thn (hg pins s1 σ H1 x v _ I1 r1 q1) fun _ s2 q=>q
theorem Qbt{i:Nat}{x:Str}{e:Expr}{te:TE}{pos':Pos}(hN:X.N.Nodup)(hi:X.N[i]? = some x)(hx:Loc X.env.scope x)(he:PE X e te)(hs:swapsWith e (some (.Name x pos')) pos.line X.env=pure false:=by rfl)(hf:X.fn x=true\/X.env.scope.names.lookup x=some .local:=by first | exact .inl rfl | exact .inr rfl | assumption) :
  PS X (.Assign [.Name x pos'] e pos) (tAsg te (zaS i)):=by
 intro pins s σ H D I h;refine wpAny_Assign_Name (thn (he pins s σ H _ I h) fun v s1 ⟨y,H1,I1,r1,q1⟩=>?_) hs;exact Q1e I1 hN hi hx r1 (fun s2 I2=>⟨_,H1,I2,q1⟩) hf
end
section
variable{X:Cx}{pos:Pos}
noncomputable def tWhile(c:TT)(tb:TS):TS:=fun D σ H=>∃ W:Nat->St->Hp->Prop,(∃ m,W m σ H)/\∀ m σ H,W m σ H ->
 c σ H fun b H1=>if b=true then ∃ N:St->Hp->Prop,(∀ σ' H',N σ' H'->∃ m',m'<m/\W m' σ' H')/\tb { D with nx:=N,ct:=N,bk:=D.nx } σ H1 else D.nx σ H1
end
structure It where
 go:Nat->Hp->Prop
 yld:Nat->Hp->V->Hp->Prop
 stop:Nat->Hp->Prop
noncomputable def FpOk(X:Cx)(pins:List (Addr×Obj))(H:Hp)(b:Addr):Prop :=
 H b=none/\b≠X.env.locals/\b∉X.fs/\(b∈X.ex\/X.s₀.heap.objs.size<=b)/\(∀ x c,X.env.cells.lookup x=some c->c≠b)/\∀ p∈X.pn++pins,p.1≠b
theorem Inv.fpOk(I:Inv X pins σ H s)(hb:s.heap.objs.size<=b)(hn:H' b=none):FpOk X pins H' b:=by
 refine⟨hn,ne_of_gt (Zr I.lt hb),I.nofs hb,.inr (Z7 I.sz hb),fun x c e z=>?_,fun p hp z=>?_⟩
 ·obtain⟨v,q⟩:=I.cell x c e;exact absurd (Zr q.lt (by rw[z];exact hb)) (lt_irrefl _)
 ·exact absurd (Zr (Zn (I.pin p hp).1) (by rw[z];exact hb)) (lt_irrefl _)
structure Turn(P:Program)(w:World)(K:Frag)(tg:Expr)(J:It)(fp:List Addr)(it:Addr)(tn:Nat->Heap->Prop):Prop where
 mem:it∈fp
 obj:∀ i h,tn i h->∀ b∈fp,∃ o,h.get? b=some o/\∀ v,o.data≠.cell v
 keep:∀ i h h',tn i h->(∀ b∈fp,∀ o,h.get? b=some o->h'.get? b=some o)->tn i h'
 item:∀ (X:Cx),X.prog=P->X.w=w->X.K=K->X.calm=true->∀ (i:Nat) (pins:List (Addr×Obj)) (s:Shared) (σ:St) (H:Hp) (E:Value->Shared->Prop),Inv X pins σ H s->(∀ b∈fp,FpOk X pins H b)->tn i s.heap->J.go i H ->
  wpAny (model P w) X.A (pyNext (.ref it)) (fun r s1=>∃ u,r=some u /\
   wpAny (model P w) X.A (letOwnedTupleGo tg (.ref it) u) (fun _ s2=>∃ x H',Inv X pins σ H' s2/\RelV x u/\J.yld i H x H'/\tn (i+1) s2.heap/\∀ b∈fp,H' b=none) E s1) E s
 done:∀ (X:Cx),X.prog=P->X.w=w->X.K=K->X.calm=true->∀ (i:Nat) (pins:List (Addr×Obj)) (s:Shared) (σ:St) (H:Hp) (E:Value->Shared->Prop),Inv X pins σ H s->(∀ b∈fp,FpOk X pins H b)->tn i s.heap->J.stop i H ->
  wpAny (model P w) X.A (pyNext (.ref it)) (fun r s1=>r=none/\Inv X pins σ H s1) E s
 self:∀ (A:Around) (i:Nat) (s:Shared) (Q:Value->Shared->Prop) (E:Value->Shared->Prop),tn i s.heap->Q (.ref it) s->wpAny (model P w) A (pyIter (.ref it)) Q E s
noncomputable abbrev TI:=St->Hp->(It->Hp->Prop)->Prop
noncomputable def PIE(X:Cx)(pins:List (Addr×Obj))(σ:St)(tg:Expr)(R:It->Hp->Prop)(itv:Value)(s2:Shared):Prop :=
 ∃ (it:Addr) (fp:List Addr) (tn:Nat->Heap->Prop) (J:It) (H':Hp),itv=.ref it/\Inv X pins σ H' s2/\Turn X.prog X.w X.K tg J fp it tn/\tn 0 s2.heap/\(∀ b∈fp,FpOk X pins H' b)/\R J H'
noncomputable def PI(X:Cx)(tg iter:Expr)(wi:TI):Prop :=
 ∀ (pins:List (Addr×Obj)) (s:Shared) (σ:St) (H:Hp) (R:It->Hp->Prop),Inv X pins σ H s->wi σ H R ->
  wpAny (model X.prog X.w) X.A (eval iter X.env) (fun v s1=>wpAny (model X.prog X.w) X.A (pyIter v) (PIE X pins σ tg R) X.xe s1) X.xe s
theorem go_of{E:Value->Shared->Prop}{Q:Unit->Shared->Prop}(ho:s.heap.get? it=some o)(hc:o.cls=.type n)(hd:o.data=.fields vs)
  (hn:["enumerate","zip","dict_itemiterator","dict_reverseitemiterator","odict_iterator","itertools.zip_longest","itertools.pairwise"].contains n=false) (hQ:Q () s):wpAny M A (letOwnedTupleGo tg (.ref it) u) Q E s:=by
 unfold letOwnedTupleGo;cases tg <;> first
  | exact Zh hQ
  | (cases u <;> first
    | exact Zh hQ
    | (refine Za (wpAny_load ho ?_)
       rw[hc,hd];show wpAny M A (if (["enumerate","zip","dict_itemiterator","dict_reverseitemiterator","odict_iterator","itertools.zip_longest","itertools.pairwise"].contains n&&vs[0]? == some (rawInt _))=true then _ else _) Q E s
       rw[Zj (by intro h;rw[hn,Bool.false_and]at h;cases h)]
       exact Zh hQ))
noncomputable def Itl(K:Frag)(a:Addr):It :=
 ⟨fun i H=>∃ xs x,SqL K H a xs/\xs[i]? = some x,fun i H x H'=>H'=H/\∀ xs,SqL K H a xs->xs[i]? = some x,fun i H=>∃ xs,SqL K H a xs/\xs.length<=i⟩
noncomputable def Itt(K:Frag)(a:Addr):It :=
 ⟨fun i H=>∃ xs x,SqT K H a xs/\xs[i]? = some x,fun i H x H'=>H'=H/\∀ xs,SqT K H a xs->xs[i]? = some x,fun i H=>∃ xs,SqT K H a xs/\xs.length<=i⟩
noncomputable def Itr(lo:Int)(n:Nat):It:=⟨fun i _=>i<n,fun i H x H'=>H'=H/\x=.int (lo+i),fun i _=>n<=i⟩
theorem Q6p{P:Program}{w:World}{K:Frag}{tg:Expr}(a it:Addr):Turn P w K tg (Itl K a) [it] it (fun i h=>h.IsListIter it a i) where
 mem:=by simp
 obj:=fun i h st b hb=>by
  have e:b=it:=by simpa using hb
  subst e;obtain⟨o,e,c,d⟩:=st;exact⟨o,e,fun v z=>by rw[d]at z;cases z⟩
 keep:=fun i h h' st k=>st.at fun o e=>k it (by simp) o e
 item:=by
  intro X hP hw hK hc i pins s σ H E I hf st hg;subst hP hw hK;obtain⟨xs,x,hq,hx⟩:=hg;obtain⟨its,rv,p,hz⟩:=I.list hq;obtain⟨u,hu,ru⟩:=rv.get hx;obtain⟨f0,f1,f2,f3,f4,f5⟩:=hf it (by simp)
  refine wpAny_pyNext_list_item st p.isList (x:=u) (by simpa using hu) fun h' st' sb=>?_
  have I1:Inv X pins σ H { s with heap:=h' }:=I.turned (t':=s.toks) (fun b o hb e=>(sb.2 b hb).trans e) f0 f1 f3 f4 f5;obtain⟨o,e,c,d⟩:=id st';exact⟨u,rfl,go_of (s:={ s with heap:=h' }) e c d (by decide) ⟨x,H,I1,ru,⟨rfl,fun ys hy=>by rw[I.list_inj hy hq];exact hx⟩,st',fun b hb=>(hf b hb).1⟩⟩
 done:=by
  intro X hP hw hK hc i pins s σ H E I hf st hg;subst hP hw hK;obtain⟨xs,hq,hx⟩:=hg;obtain⟨its,rv,p,hz⟩:=I.list hq;obtain⟨f0,f1,f2,f3,f4,f5⟩:=hf it (by simp)
  have hl:=rv.length;exact wpAny_pyNext_list_end (I.ok.hd hc) st p.isList (by simp;omega) fun h' eb=>⟨rfl,I.turned (t':=s.toks) (fun b o hb e=>eb b o hb e) f0 f1 f3 f4 f5⟩
 self:=fun _ _ _ _ _ st h=>wpAny_pyIter_listiter st h
theorem Q5G{P:Program}{w:World}{K:Frag}{tg:Expr}(a it:Addr):Turn P w K tg (Itt K a) [it] it (fun i h=>h.IsTupleIter it a i) where
 mem:=by simp
 obj:=fun i h st b hb=>by
  have e:b=it:=by simpa using hb
  subst e;obtain⟨o,e,c,d⟩:=st;exact⟨o,e,fun v z=>by rw[d]at z;cases z⟩
 keep:=fun i h h' st k=>st.at fun o e=>k it (by simp) o e
 item:=by
  intro X hP hw hK hc i pins s σ H E I hf st hg;subst hP hw hK;obtain⟨xs,x,hq,hx⟩:=hg;obtain⟨its,rv,p,hz⟩:=I.tuple hq;obtain⟨u,hu,ru⟩:=rv.get hx;obtain⟨f0,f1,f2,f3,f4,f5⟩:=hf it (by simp)
  refine wpAny_pyNext_tuple_item st (show s.heap.IsTuple a its.toArray from p) (x:=u) (by simpa using hu) fun h' st' sb=>?_
  have I1:Inv X pins σ H { s with heap:=h' }:=I.turned (t':=s.toks) (fun b o hb e=>(sb.2 b hb).trans e) f0 f1 f3 f4 f5;obtain⟨o,e,c,d⟩:=id st';exact⟨u,rfl,go_of (s:={ s with heap:=h' }) e c d (by decide) ⟨x,H,I1,ru,⟨rfl,fun ys hy=>by rw[I.tuple_inj hy hq];exact hx⟩,st',fun b hb=>(hf b hb).1⟩⟩
 done:=by
  intro X hP hw hK hc i pins s σ H E I hf st hg;subst hP hw hK;obtain⟨xs,hq,hx⟩:=hg;obtain⟨its,rv,p,hz⟩:=I.tuple hq;obtain⟨f0,f1,f2,f3,f4,f5⟩:=hf it (by simp)
  have hl:=rv.length;exact wpAny_pyNext_tuple_end (I.ok.hd hc) st (show s.heap.IsTuple a its.toArray from p) (by simp;omega) fun h' eb=>⟨rfl,I.turned (t':=s.toks) (fun b o hb e=>eb b o hb e) f0 f1 f3 f4 f5⟩
 self:=fun _ _ _ _ _ st h=>wpAny_pyIter_tupleiter st h
theorem Q5H{P:Program}{w:World}{K:Frag}{tg:Expr}(it:Addr)(lo:Int)(n:Nat):Turn P w K tg (Itr lo n) [it] it (fun i h=>IsRangeIter h it (lo+(i:Nat) * 1) ((n:Int)-(i:Nat)) 1) where
 mem:=by simp
 obj:=fun i h st b hb=>by
  have e:b=it:=by simpa using hb
  subst e;exact⟨_,st,fun v z=>by
   have z':Data.fields _=Data.cell v:=z;cases z'⟩
 keep:=fun i h h' st k=>k it (by simp) _ st
 item:=by
  intro X hP hw hK hc i pins s σ H E I hf st hg;subst hP hw hK;obtain⟨f0,f1,f2,f3,f4,f5⟩:=hf it (by simp)
  have W:=Walks.range (prog:=X.prog) (w:=X.w) (I.ok.hd hc) it lo 1 n;refine W.item i s _ _ hg st fun v h' tk hv st' kk=>?_;obtain⟨t,rfl⟩:=hv;have I1:Inv X pins σ H { s with heap:=h',toks:=tk }:=I.turned (fun b o hb e=>kk b o (by simpa using hb) e) f0 f1 f3 f4 f5
  refine⟨_,rfl,go_of (s:={ s with heap:=h',toks:=tk }) (n:="range_iterator") st' rfl rfl (by decide) ⟨.int (lo+i),H,I1,⟨t,?_⟩,⟨rfl,rfl⟩,st',fun b hb=>(hf b hb).1⟩⟩
  rw[Int.mul_one]
 done:=by
  intro X hP hw hK hc i pins s σ H E I hf st hg;subst hP hw hK;obtain⟨f0,f1,f2,f3,f4,f5⟩:=hf it (by simp)
  exact wpAny_pyNext_range_end (I.ok.hd hc) st (by have:n<=i:=hg;omega) fun h' eb=>⟨rfl,I.turned (t':=s.toks) (fun b o hb e=>eb b o hb e) f0 f1 f3 f4 f5⟩
 self:=fun _ _ _ _ _ st h=>wpAny_pyIter_rangeiter st h
section
variable{X:Cx}{tg:Expr}
theorem Q8i{pins:List (Addr×Obj)}{σ:St}{H:Hp}{s:Shared}{R:It->Hp->Prop}{E:Value->Shared->Prop}{lo hi:Int}{t u v:Tok}{tk:Nat}(I:Inv X pins σ H s)(h1:-(2 ^ 62)<=lo)(h2:lo<2 ^ 62)(h3:-(2 ^ 62)<=hi)(h4:hi<2 ^ 62)
  (q:R (Itr lo (hi-lo).toNat) H):wpAny (model X.prog X.w) X.A (pyIter (.ref s.heap.objs.size)) (PIE X pins σ tg R) E { s with heap:=s.heap.push { cls:=.type "range",data:=.fields #[.int lo t,.int hi u,.int 1 v] },toks:=tk }:=by
 refine wpAny_pyIter_range (IsRange.new ..) (small_one h1 h2 h3 h4) ?_;have I1:Inv X pins σ H { s with heap:=s.heap.push { cls:=.type "range",data:=.fields #[.int lo t,.int hi u,.int 1 v] },toks:=tk }:=I.kept fun b o e=>Zb _ e;refine⟨(s.heap.push { cls:=.type "range",data:=.fields #[.int lo t,.int hi u,.int 1 v] }).objs.size,[(s.heap.push { cls:=.type "range",data:=.fields #[.int lo t,.int hi u,.int 1 v] }).objs.size],_,_,H,rfl,
  I1.kept (t':=tk) fun b o e=>Zb _ e,Q5H _ lo (hi-lo).toNat,?_,fun b hb=>?_,q⟩
 ·have e1:lo+((0:Nat):Int) * 1=lo:=by simp
  have e2:(((hi-lo).toNat:Nat):Int)-((0:Nat):Int)=Builtin.Range.rangeSize lo hi 1:=by rw[rangeSize_one];split <;> omega
  show IsRangeIter _ _ (lo+((0:Nat):Int) * 1) ((((hi-lo).toNat:Nat):Int)-((0:Nat):Int)) 1;rw[e1,e2];exact Zs _ rfl
 ·have e:b=(s.heap.push { cls:=.type "range",data:=.fields #[.int lo t,.int hi u,.int 1 v] }).objs.size:=by simpa using hb
  subst e;exact I1.fpOk (Zz _) (I1.hok.fresh (Zz _))
noncomputable def iRng1(ta:TA):TI:=fun σ H R=>ta σ H fun vs H1=>∃ j:Int,vs=[.int j] /\ -(2 ^ 62)<=j/\j<2 ^ 62/\R (Itr 0 j.toNat) H1
noncomputable def iRng2(ta:TA):TI:=fun σ H R=>ta σ H fun vs H1=>∃ i j:Int,vs=[.int i,.int j]/\(-(2 ^ 62)<=i/\i<2 ^ 62 /\ -(2 ^ 62)<=j/\j<2 ^ 62)/\R (Itr i (j-i).toNat) H1
theorem Q6q{a:Expr}{ta:TA}{p pos:Pos}(hg:Gl X "range")(hm:X.mg "range" = none)(ha:PA X [a] ta)(hs:starEach [a] X.env=[(false,eval a X.env)]:=by rfl):PI X tg (.Call (.Name "range" p) [a] [] pos) (iRng1 ta):=by
 intro pins s σ H R I h;refine Call_ (Q2g I hg hm boot_range (PyProof.Rows.callWith_type1 (thn (ha pos pins s σ H _ I h) fun us s1 ⟨vs,H1,I1,r1,q1⟩=>?_) hs rfl));obtain⟨j,e,q1,q2,q⟩:=q1;subst e;cases r1 with
 | cons r rr =>
  cases rr;obtain⟨t,rfl⟩:=r;exact call_range_1 (Q8i I1 (by omega) (by omega) q1 q2 (by simpa using q))
noncomputable def tFor(wi:TI)(g:TG)(tb:TS):TS:=fun D σ H=>wi σ H fun J H1=>∃ W:Nat->Nat->St->Hp->Prop,(∃ m,W 0 m σ H1)/\∀ i m σ H,W i m σ H ->
 (J.stop i H/\D.nx σ H)\/(J.go i H/\∃ N:St->Hp->Prop,(∀ σ' H',N σ' H'->∃ m',m'<m/\W (i+1) m' σ' H')/\∀ x H',J.yld i H x H'->g x σ H' fun σ2 H2=>tb { D with nx:=N,ct:=N,bk:=D.nx } σ2 H2)
noncomputable def zaB(fp:List Addr)(h:Heap):List (Addr×Obj):=fp.filterMap fun b=>(h.get? b).map fun o=>(b,o)
theorem Q0L(hb:b∈fp)(e:h.get? b=some o):(b,o)∈zaB fp h:=List.mem_filterMap.mpr ⟨b,hb,by rw[e];rfl⟩
theorem Q3A(hp:p∈zaB fp h):p.1∈fp/\h.get? p.1=some p.2:=by
 obtain⟨b,hb,e⟩:=List.mem_filterMap.mp hp;cases q:h.get? b with
 | none=>rw[q]at e;cases e
 | some o =>
  rw[q]at e;have e':(b,o)=p:=Z1 e;subst e';exact⟨hb,q⟩
theorem Inv.pinned(I:Inv X pins σ H s)(hf:∀ b∈fp,FpOk X pins H b)(ho:∀ b∈fp,∃ o,s.heap.get? b=some o/\∀ v,o.data≠.cell v):Inv X (pins++zaB fp s.heap) σ H s :=
 I.pins_of fun p hp=>(Z3.mp hp).elim (fun z=>I.pin p (Zy _ z)) fun z=>by
  obtain⟨hb,e⟩:=Q3A z;obtain⟨f0,f1,f2,_⟩:=hf p.1 hb;obtain⟨o,e',d⟩:=ho p.1 hb;rw[e]at e';cases e';exact⟨e,f0,f1,f2,d⟩
theorem Inv.unpinned(I:Inv X (pins++pl) σ H s):Inv X pins σ H s:=I.pins_of fun p hp=>I.pin p (Zy _ (ZK _ hp))
theorem Qbu(hp:PassesOwn (model X.prog X.w) X.A X.env X.xe)(hc:X.calm=true)(hi:PI X tg iter wi)(hg:PG X tg g)(hb:PSs X body tb)
  (hs:∀ x,foldedSetIterable iter X.env x=pure x:=by intro _;rfl):PS X (.For tg iter body [] pos) (tFor wi g tb):=by
 intro pins s σ H D I h;refine wpAny_For (thn (hi pins s σ H _ I h) fun v s1 h1=>thn h1 fun itv s2 h2=>?_) hs;obtain⟨it,fp,tn,J,H2,e,I2,T,st2,f2,W,⟨m0,w0⟩,turn⟩:=h2;subst e
 -- what stays true of the iterator's objects through the loop
 have stat:∀ {H':Hp},(∀ b∈fp,H' b=none)->∀ b∈fp,FpOk X pins H' b:=fun hn b hb=>⟨hn b hb,(f2 b hb).2⟩;refine codeAny_forLoop_any (fun n s'=>∃ i σ' H',Inv X pins σ' H' s'/\tn i s'.heap/\(∀ b∈fp,H' b=none)/\W i n σ' H') ?_ m0 ⟨0,σ,H2,I2,st2,fun b hb=>(f2 b hb).1,w0⟩;rintro n s3 ⟨i,σ3,H3,I3,st3,fr3,w3⟩;rcases turn i n σ3 H3 w3 with ⟨stop,qn⟩ | ⟨go,N,hN,step⟩
 ·refine wpAny_passesOwn hp (thn (T.done X rfl rfl rfl hc i pins s3 σ3 H3 X.xe I3 (stat fr3) st3 stop) fun r s4 ⟨hr,I4⟩=>?_);subst hr;exact wpAny_execs_nil ⟨σ3,H3,I4,qn⟩
 ·refine wpAny_passesOwn hp (thn (T.item X rfl rfl rfl hc i pins s3 σ3 H3 X.xe I3 (stat fr3) st3 go) fun r s4 ⟨u,hr,h4⟩=>?_);subst hr;refine wpAny_passesOwn hp (thn h4 fun _ s5 ⟨x,H5,I5,r5,y5,st5,fr5⟩=>?_);have I5':=I5.pinned (stat fr5) (T.obj _ _ st5);refine wpAny_passesOwn hp (thn (hg _ s5 σ3 H5 x u _ I5' r5 (step x H5 y5)) fun _ s6 ⟨σ6,H6,I6,q6⟩=>?_);refine wpAny_passesOwn hp (thn (hb _ s6 σ6 H6 _ I6 q6) fun f s7 q7=>?_);have again:∀ {σ7:St} {H7:Hp},Inv X (pins++zaB fp s5.heap) σ7 H7 s7->N σ7 H7->∃ m,m<n/\∃ i σ' H',Inv X pins σ' H' s7/\tn i s7.heap/\(∀ b∈fp,H' b=none)/\W i m σ' H':=fun{σ7 H7} I7 n7=>by
   obtain⟨m',hm,w7⟩:=hN σ7 H7 n7;refine⟨m',hm,i+1,σ7,H7,I7.unpinned,T.keep _ _ _ st5 fun b hb o e=>(I7.pin (b,o) (Zy _ (Zy _ (Q0L hb e)))).1,fun b hb=>?_,w7⟩;obtain⟨o,e,d⟩:=T.obj _ _ st5 b hb;exact (I7.pin (b,o) (Zy _ (Zy _ (Q0L hb e)))).2.1
  cases f with
  | next=>obtain⟨σ7,H7,I7,n7⟩:=q7;exact again I7 n7
  | cont=>obtain⟨σ7,H7,I7,n7⟩:=q7;exact again I7 n7
  | brk=>obtain⟨σ7,H7,I7,q7⟩:=q7;exact⟨σ7,H7,I7.unpinned,q7⟩
  | ret v=>obtain⟨x7,σ7,H7,I7,r7,q7⟩:=q7;exact⟨x7,σ7,H7,I7.unpinned,r7,q7⟩
end
noncomputable abbrev R2:=V->V->Hp->VK->Prop
noncomputable def OpR(X:Cx)(f:Value->Value->Sem Value)(r:R2):Prop :=
 ∀ (pins:List (Addr×Obj)) (s:Shared) (σ:St) (H:Hp) (x y:V) (v u:Value) (Q:VK),Inv X pins σ H s->RelV x v->RelV y u->r x y H Q ->
  wpAny (model X.prog X.w) X.A (f v u) (EP X pins σ Q) X.xe s
noncomputable def UnR(X:Cx)(f:Value->Sem Value)(r:V->Hp->VK->Prop):Prop :=
 ∀ (pins:List (Addr×Obj)) (s:Shared) (σ:St) (H:Hp) (x:V) (v:Value) (Q:VK),Inv X pins σ H s->RelV x v->r x H Q ->
  wpAny (model X.prog X.w) X.A (f v) (EP X pins σ Q) X.xe s
noncomputable def CallR(X:Cx)(f:Value)(r:List V->Hp->VK->Prop):Prop :=
 ∀ (pins:List (Addr×Obj)) (s:Shared) (σ:St) (H:Hp) (xs:List V) (us:List Value) (Q:VK),Inv X pins σ H s->Vals xs us->r xs H Q ->
  wpAny (model X.prog X.w) X.A (call f us) (EP X pins σ Q) X.xe s
noncomputable def tOp(r:R2)(ta tb:TE):TE:=fun σ H Q=>ta σ H fun x H1=>tb σ H1 fun y H2=>r x y H2 Q
noncomputable def tUn(r:V->Hp->VK->Prop)(ta:TE):TE:=fun σ H Q=>ta σ H fun x H1=>r x H1 Q
noncomputable def rI(C:Int->Int->Prop)(g:Int->Int->V):R2:=fun x y H Q=>∃ i j,x=.int i/\y=.int j/\C i j/\Q (g i j) H
noncomputable def rI0(g:Int->Int->V):R2:=fun x y H Q=>∃ i j,x=.int i/\y=.int j/\Q (g i j) H
noncomputable def rU(g:Int->V):V->Hp->VK->Prop:=fun x H Q=>∃ i,x=.int i/\Q (g i) H
section
variable{X:Cx}{a b c:Expr}{ta tb tc:TE}{pos:Pos}
theorem binT(ha:PE X a ta)(hb:PE X b tb){R:V->V->Hp->Prop}(I:Inv X pins σ H s)
  (h:ta σ H fun x H1=>tb σ H1 fun y H2=>R x y H2) {Q:Value->Shared->Prop} {f:Value->Value->Sem Value}
  (hf:∀ v u s2 x y H2,Inv X pins σ H2 s2->RelV x v->RelV y u->R x y H2->wpAny (model X.prog X.w) X.A (f v u) Q X.xe s2) :
  wpAny (model X.prog X.w) X.A (eval a X.env) (fun v s₁=>wpAny (model X.prog X.w) X.A (eval b X.env) (fun u s₂=>wpAny (model X.prog X.w) X.A (f v u) Q X.xe s₂) X.xe s₁) X.xe s:=by
 refine thn (ha pins s σ H _ I h) fun v s1 ⟨x,H1,I1,r1,q1⟩=>?_;refine thn (hb pins s1 σ H1 _ I1 q1) fun u s2 ⟨y,H2,I2,r2,q2⟩=>?_;exact hf v u s2 x y H2 I2 r1 r2 q2
theorem pe_op(ho:OpR X (binaryOp op) r)(ha:PE X a ta)(hb:PE X b tb):PE X (.BinOp a op b pos) (tOp r ta tb):=by
 intro pins s σ H Q I h;exact wpAny_BinOp (binT ha hb I h fun v u s2 x y H2 I2 rx ry q=>ho pins s2 σ H2 x y v u Q I2 rx ry q)
theorem pe_un{r:V->Hp->VK->Prop}(ho:UnR X (unaryOp op) r)(ha:PE X a ta):PE X (.UnaryOp op a pos) (tUn r ta):=by
 intro pins s σ H Q I h;exact UnaryOp_ (thn (ha pins s σ H _ I h) fun v s1 ⟨x,H1,I1,r1,q1⟩=>ho pins s1 σ H1 x v Q I1 r1 q1)
theorem opI{f:Value->Value->Sem Value}{C:Int->Int->Prop}{g:Int->Int->Int}
  (rule:∀ (i j:Int) (t u:Tok) (s:Shared) (Q:Value->Shared->Prop) (E:Value->Shared->Prop),C i j->Q (.int (g i j) s.toks) { s with toks:=s.toks+1 }->wpAny (model X.prog X.w) X.A (f (.int i t) (.int j u)) Q E s) :
  OpR X f (rI C fun i j=>.int (g i j)):=by
 intro pins s σ H x y v u Q I rx ry h;obtain⟨i,j,rfl,rfl,hc,q⟩:=h;obtain⟨t,rfl⟩:=rx;obtain⟨t',rfl⟩:=ry;exact rule i j t t' s _ _ hc ⟨.int (g i j),H,I.tok _,⟨_,rfl⟩,q⟩
theorem opI0{f:Value->Value->Sem Value}{g:Int->Int->Int}
  (rule:∀ (i j:Int) (t u:Tok) (s:Shared) (Q:Value->Shared->Prop) (E:Value->Shared->Prop),Q (.int (g i j) s.toks) { s with toks:=s.toks+1 }->wpAny (model X.prog X.w) X.A (f (.int i t) (.int j u)) Q E s) :
  OpR X f (rI0 fun i j=>.int (g i j)):=by
 intro pins s σ H x y v u Q I rx ry h;obtain⟨i,j,rfl,rfl,q⟩:=h;obtain⟨t,rfl⟩:=rx;obtain⟨t',rfl⟩:=ry;exact rule i j t t' s _ _ ⟨.int (g i j),H,I.tok _,⟨_,rfl⟩,q⟩
theorem opB0{f:Value->Value->Sem Value}{g:Int->Int->Bool}
  (rule:∀ (i j:Int) (t u:Tok) (s:Shared) (Q:Value->Shared->Prop) (E:Value->Shared->Prop),Q (.bool (g i j)) s->wpAny (model X.prog X.w) X.A (f (.int i t) (.int j u)) Q E s) :
  OpR X f (rI0 fun i j=>.bl (g i j)):=by
 intro pins s σ H x y v u Q I rx ry h;obtain⟨i,j,rfl,rfl,q⟩:=h;obtain⟨t,rfl⟩:=rx;obtain⟨t',rfl⟩:=ry;exact rule i j t t' s _ _ ⟨.bl (g i j),H,I,rfl,q⟩
noncomputable def CDiv(i j:Int):Prop:=0<j/\j<1073741824
noncomputable def CPow(i j:Int):Prop:=0<=j/\j<=1000000/\i.natAbs<2 ^ 64
noncomputable def CMul(i j:Int):Prop:=(-(2 ^ 64)<i/\i<2 ^ 64)\/(-(2 ^ 64)<j/\j<2 ^ 64)
theorem CMul.ok(h:CMul i j):IntMulOk i j:=by
 rcases h with ⟨h1,h2⟩ | ⟨h1,h2⟩
 ·exact .of_left (intBits_le_64 h1 h2)
 ·exact .of_right (intBits_le_64 h1 h2)
theorem Qbv:OpR X (binaryOp .Add) (rI0 fun i j=>.int (i+j)):=opI0 fun _ _ _ _ _ _ _ q=>add_int q
theorem Qbw:OpR X (binaryOp .Sub) (rI0 fun i j=>.int (i-j)):=opI0 fun _ _ _ _ _ _ _ q=>sub_int q
theorem Qbx:OpR X (binaryOp .Mult) (rI CMul fun i j=>.int (i * j)):=opI fun _ _ _ _ _ _ _ hc q=>mul_int q hc.ok
theorem Q9W:OpR X (binaryOp .FloorDiv) (rI CDiv fun i j=>.int (i / j)):=opI fun i j _ _ _ _ _ hc q=>by
 have h1:(0:Int)<j:=hc.1;have h2:j<1073741824:=hc.2;exact floordiv_int (by omega) (by rw[Int.fdiv_eq_ediv_of_nonneg i (by omega)];exact q) (.inl (PyProof.noPylong_small (by omega)))
theorem Qby:OpR X (binaryOp .Mod) (rI (fun _ j=>0<j) fun i j=>.int (i % j)):=opI fun i j _ _ _ _ _ hc q=>by
 have h1:(0:Int)<j:=hc;exact mod_int' (by omega) (by rw[Int.fmod_eq_emod_of_nonneg i (by omega)];exact q)
theorem Qbz:OpR X (binaryOp .Pow) (rI CPow fun i j=>.int (i ^ j.toNat)):=opI fun _ _ _ _ _ _ _ hc q=>pow_int_small hc.1 hc.2.1 hc.2.2 q
theorem unI{f:Value->Sem Value}{g:Int->Int}
  (rule:∀ (i:Int) (t:Tok) (s:Shared) (Q:Value->Shared->Prop) (E:Value->Shared->Prop),Q (.int (g i) s.toks) { s with toks:=s.toks+1 }->wpAny (model X.prog X.w) X.A (f (.int i t)) Q E s) :
  UnR X f (rU fun i=>.int (g i)):=by
 intro pins s σ H x v Q I rx h;obtain⟨i,rfl,q⟩:=h;obtain⟨t,rfl⟩:=rx;exact rule i t s _ _ ⟨.int (g i),H,I.tok _,⟨_,rfl⟩,q⟩
theorem QbA:UnR X (unaryOp .USub) (rU fun i=>.int (-i)):=unI fun _ _ _ _ _ q=>neg_int q
end
section
variable{X:Cx}{a b c:Expr}{ta tb tc:TE}{pos:Pos}
theorem QbB(I:Inv X pins σ H s)(q:Q (.bl k) H)(e:k=k'):EP X pins σ Q (.bool k') s:=by
 subst e;exact⟨.bl k,H,I,rfl,q⟩
theorem op_lt:OpR X (compareOp .Lt) (rI0 fun i j=>.bl (decide (i<j))):=opB0 fun _ _ _ _ _ _ _ q=>lt_int q
theorem op_le:OpR X (compareOp .LtE) (rI0 fun i j=>.bl (decide (i<=j))):=opB0 fun _ _ _ _ _ _ _ q=>le_int q
theorem op_gt:OpR X (compareOp .Gt) (rI0 fun i j=>.bl (decide (j<i))):=opB0 fun _ _ _ _ _ _ _ q=>gt_int q
theorem QbC:OpR X (compareOp .Is) (fun x y H Q=>y=.non/\Q (.bl (decide (x=.non))) H):=by
 intro pins s σ H x y v u Q I rx ry h;obtain⟨rfl,q⟩:=h;cases ry;refine is_none_gen (QbB I q ?_);cases x <;> first
  | (cases rx;rfl)
  | (obtain⟨t,rfl⟩:=rx;rfl)
theorem OpR.or{f:Value->Value->Sem Value}(h:OpR X f r)(h':OpR X f r'):OpR X f (fun x y H Q=>r x y H Q\/r' x y H Q):=by
 intro pins s σ H x y v u Q I rx ry q;rcases q with q | q
 ·exact h pins s σ H x y v u Q I rx ry q
 ·exact h' pins s σ H x y v u Q I rx ry q
theorem Q9X(ho:OpR X (compareOp op) r)(ha:PE X a ta)(hb:PE X b tb)(hm:behindInMarks op b=false):PE X (.Compare a [op] [b] pos) (tOp r ta tb):=by
 intro pins s σ H Q I h;exact wpAny_Compare1 (binT ha hb I h fun v u s2 x y H2 I2 rx ry q=>ho pins s2 σ H2 x y v u Q I2 rx ry q) hm
noncomputable def tTest(t:TE):TT:=fun σ H Q=>t σ H fun x H'=>∃ k,x=.bl k/\Q k H'
theorem Q9Y(ho:OpR X (compareOp op) r)(ha:PE X a ta)(hb:PE X b tb)(hm:behindInMarks op b=false):PT X (.Compare a [op] [b] pos) (tTest (tOp r ta tb)):=by
 intro pins s σ H Q I h;refine wpAny_isTrue_Compare1 (thn (ha pins s σ H _ I h) fun v s1 ⟨x,H1,I1,r1,q1⟩=>thn (hb pins s1 σ H1 _ I1 q1) fun u s2 ⟨y,H2,I2,r2,q2⟩ =>
  thn (ho pins s2 σ H2 x y v u _ I2 r1 r2 q2) fun c s3 ⟨z,H3,I3,r3,k,e,q3⟩=>?_) hm
 subst e;cases r3;exact Yb ⟨H3,I3,q3⟩
noncomputable def zbU(r r':R2)(ta tb tc:TE):TE:=fun σ H Q=>ta σ H fun x H1=>tb σ H1 fun y H2=>r x y H2 fun z H3=>∃ k,z=.bl k /\
 (if k=true then tc σ H3 fun w' H4=>r' y w' H4 Q else Q (.bl false) H3)
theorem Q8j(ho:OpR X (compareOp op) r)(ho':OpR X (compareOp op') r')(ha:PE X a ta)(hb:PE X b tb)(hc:PE X c tc)
  (hm:lastMarks [op,op'] [b,c]=false:=by with_unfolding_all rfl):PE X (.Compare a [op,op'] [b,c] pos) (zbU r r' ta tb tc):=by
 intro pins s σ H Q I h;refine Compare_chain (thn (ha pins s σ H _ I h) fun v s1 ⟨x,H1,I1,r1,q1⟩=>chain_link (thn (hb pins s1 σ H1 _ I1 q1) fun u s2 ⟨y,H2,I2,r2,q2⟩ =>
  thn (ho pins s2 σ H2 x y v u _ I2 r1 r2 q2) fun d s3 ⟨z,H3,I3,r3,k,e,q3⟩=>?_)) hm
 subst e;cases r3;refine Yb ?_;cases k with
 | false=>exact ite_ff ⟨.bl false,H3,I3,rfl,q3⟩
 | true=>exact ite_tt (chain_last (thn (hc pins s3 σ H3 _ I3 q3) fun w' s4 ⟨z',H4,I4,r4,q4⟩=>ho' pins s4 σ H4 y z' u w' Q I4 r2 r4 q4))
theorem Q8k(ho:OpR X (compareOp op) r)(ho':OpR X (compareOp op') r')(ha:PE X a ta)(hb:PE X b tb)(hc:PE X c tc)
  (hm:lastMarks [op,op'] [b,c]=false:=by with_unfolding_all rfl):PT X (.Compare a [op,op'] [b,c] pos) (tTest (zbU r r' ta tb tc)):=by
 intro pins s σ H Q I h;refine isTrue_chain (thn (ha pins s σ H _ I h) fun v s1 ⟨x,H1,I1,r1,q1⟩=>test_link (thn (hb pins s1 σ H1 _ I1 q1) fun u s2 ⟨y,H2,I2,r2,q2⟩ =>
  thn (ho pins s2 σ H2 x y v u _ I2 r1 r2 q2) fun d s3 ⟨z,H3,I3,r3,k,e,q3⟩=>?_)) hm
 subst e;cases r3;refine Yb ?_;cases k with
 | false =>
  obtain⟨k',e',q'⟩:=q3;cases e';exact ite_ff ⟨H3,I3,q'⟩
 | true =>
  refine ite_tt (test_last (thn (hc pins s3 σ H3 _ I3 q3) fun w' s4 ⟨z',H4,I4,r4,q4⟩=>thn (ho' pins s4 σ H4 y z' u w' _ I4 r2 r4 q4) fun d' s5 ⟨z2,H5,I5,r5,k2,e2,q5⟩=>?_));subst e2;cases r5;exact Yb ⟨H5,I5,q5⟩
theorem line63:(sizeLine:Nat)<2 ^ 63:=by rw[sizeLine_eq];decide
theorem Q5I:OpR X (binaryOp .Add) (fun x y H Q=>∃ i j,x=.str i/\y=.str j/\i.length+j.length<=sizeLine/\Q (.str (i++j)) H):=by
 intro pins s σ H x y v u Q I rx ry h;obtain⟨i,j,rfl,rfl,hz,q⟩:=h;obtain⟨t,rfl⟩:=rx;obtain⟨t',rfl⟩:=ry;exact add_str (fun t' tk=>⟨.str (i++j),H,I.tok _,⟨_,rfl⟩,q⟩) hz
theorem vals1(r:Vals [x] us):∃ u,us=[u]/\RelV x u:=by
 cases r with
 | cons r1 r2=>cases r2;exact⟨_,rfl,r1⟩
theorem Q3B:CallR X (.type "int") (fun xs H Q=>(∃ i,xs=[.int i]/\Q (.int i) H)\/∃ k,xs=[.bl k]/\Q (.int (if k then 1 else 0)) H):=by
 intro pins s σ H xs us Q I r h;rcases h with ⟨i,rfl,q⟩ | ⟨k,rfl,q⟩
 ·obtain⟨u,rfl,t,rfl⟩:=vals1 r;exact call_int_int ⟨.int i,H,I,⟨_,rfl⟩,q⟩
 ·obtain⟨u,rfl,r1⟩:=vals1 r;cases r1;exact call_int_bool ⟨.int (if k then 1 else 0),H,I.tok _,⟨_,rfl⟩,q⟩
theorem Q3C:CallR X (.type "str") (fun xs H Q=>∃ i,xs=[.int i]/\i.natAbs.log2<1920/\Q (.str (toString i)) H):=by
 intro pins s σ H xs us Q I r h;obtain⟨i,rfl,hz,q⟩:=h;obtain⟨u,rfl,t,rfl⟩:=vals1 r;exact PySem.P.str_of_int hz ⟨.str _,H,I.tok _,⟨_,rfl⟩,q⟩
theorem Q8l:CallR X (.builtin "ord") (fun xs H Q=>∃ x,xs=[.str x]/\x.length=1/\Q (.int (x.cps.getD 0 0:Nat)) H):=by
 intro pins s σ H xs us Q I r h;obtain⟨x,rfl,hz,q⟩:=h;obtain⟨u,rfl,t,rfl⟩:=vals1 r;exact ord_of_one hz ⟨.int _,H,I.tok _,⟨_,rfl⟩,q⟩
end
structure ObjM(h:Heap)(x dx C:Addr)(mA:Str->Option Value):Prop where
 obj:h.get? x=some (instObj C dx)
 ns:h.Ns1 dx mA
 ne:dx≠x
theorem Q3D{h:Heap}{dx:Addr}{mA:Str->Option Value}(n:h.Ns1 dx mA):∃ od,h.get? dx=some od/\∀ name,PySem.W.lookIn name od=some (mA name):=by
 obtain⟨o,es,ep,ho,hd,hk,_,hm⟩:=n;refine⟨o,ho,fun name=>?_⟩;have e:=hm name;unfold nsFind findBy at e;rw[<- Array.find?_toList]at e;unfold PySem.W.lookIn;rw[hd];dsimp only;split
 ·rename_i y q;rw[q]at e;exact congrArg some e
 ·rename_i q;rw[q]at e;have a:es.toList.any (·.refKey)=false:=by
   rw[List.any_eq_false];intro y hy;obtain⟨z,t,hkey⟩:=hk y (Array.mem_toList_iff.mp hy);simp[DictEntry.refKey,hkey]
  have a':¬ es.toList.any (·.refKey)=true:=by rw[a];exact ZA
  rw[Zj a'];exact congrArg some e
theorem ObjM.look{mA:Str->Option Value}(I:ObjM h x dx C mA):∃ od,PySem.W.InstAt h x (instObj C dx) C (some od)/\∀ name,PySem.W.lookIn name od=some (mA name) :=
 let ⟨od,ho,hl⟩:=Q3D I.ns
 ⟨od,⟨I.obj,rfl,rfl,ho⟩,hl⟩
section
variable{prog:Program}{w:World}{A:Around}{E:Value->Shared->Prop}{s:Shared}{K:Frag}{x dx C f:Addr}{mA:Str->Option Value}{name:Str}{v:Value}
end
noncomputable def putF(f:Str)(v:V):List (Str×V)->List (Str×V)
 | []=>[(f,v)]
 | (g,x)::r=>if g=f then (g,v)::r else (g,x)::putF f v r
section
variable{P:Program}{w:World}{H H':Hp}{h h':Heap}{a C dx:Addr}{fs fs':List (Str×V)}
theorem Q9Z(hok:HOk P w H h)(e:H a=some (.ins C dx fs)):∃ mA,ObjM h a dx C mA/\(∀ f,RelO (fs.lookup f) (mA f))/\PySem.Within mA (fs.map (·.1))/\fs.length<=1000/\H dx=some (.own a):=by
 obtain⟨d,z,ne,ob,mA,n,r,q⟩:=(show ObjOk P w H h a (.ins C dx fs) from hok a _ e);exact⟨mA,⟨ob,n,ne⟩,r,q,z,d⟩
end
structure Cls(K:Frag)(C:Addr):Prop where
 pg:plainGet K C Str.empty=true
 hd:hasDictIn K C=true
 po:plainOver K C=true
 sa:findIn K (.ref C) "__setattr__" = some (some (.builtin "object.__setattr__"))
theorem Cls.get{K:Frag}{C:Addr}(c:Cls K C)(f:Str):plainGet K C f=true:=c.pg
noncomputable def zbK(K:Frag)(C:Addr)(f:Str):Prop:=findIn K (.ref C) f=some none
structure Meth(K:Frag)(C:Addr)(m:Str)(f:Addr):Prop where
 at_:findIn K (.ref C) m=some (some (.ref f))
 fn:isFn K (.ref f)=true
 kp:keepIn K (.ref f)=true
section
variable{X:Cx}{pins:List (Addr×Obj)}{σ:St}{H:Hp}{s:Shared}{a C dx:Addr}{fs:List (Str×V)}{f:Str}{v:V}{A:Around}{E:Value->Shared->Prop}
theorem Inv.made(I:Inv X pins σ H s):Inv X pins σ (upd (upd H s.heap.objs.size (.own (s.heap.objs.size+1))) (s.heap.objs.size+1) (.ins C s.heap.objs.size []))
  {s with heap:=(s.heap.push PySem.W.emptyDict).push (instObj C s.heap.objs.size) }:=by
 have e1:(s.heap.push PySem.W.emptyDict).get? s.heap.objs.size=some PySem.W.emptyDict:=Zs s.heap rfl;have e2:((s.heap.push PySem.W.emptyDict).push (instObj C s.heap.objs.size)).get? (s.heap.objs.size+1)=some (instObj C s.heap.objs.size):=by
  have:=Zs (s.heap.push PySem.W.emptyDict) (o:=instObj C s.heap.objs.size) rfl
  rwa [Heap.size_push]at this
 have e3:(s.heap.push PySem.W.emptyDict).Ns s.heap.objs.size (fun _=>none):=⟨PySem.W.emptyDict,#[],_,e1,rfl,(fun e he=>absurd he (by simp)),fun _=>rfl⟩
 have I1:=I.laid (a:=s.heap.objs.size) (o:=.own (s.heap.objs.size+1)) (h':=s.heap.push PySem.W.emptyDict) (t':=s.toks) (fun b u q=>Zb _ q) (Zz _) ⟨_,e1⟩;refine I1.laid (a:=s.heap.objs.size+1) (o:=.ins C s.heap.objs.size []) (t':=s.toks) (fun b u q=>Zb _ q) (le_of_eq (Heap.size_push _ _)) ?_;have ne:s.heap.objs.size≠s.heap.objs.size+1:=ZD (Nat.lt_succ_self _);refine⟨by rw[Q0f ne,Q0i],zero_le _,ne,e2,fun _=>none,(Heap.Ns1.of_empty e3).at fun o q=>Zb _ q,fun _=>True.intro,fun y hy=>absurd rfl hy⟩
theorem Qa0{Q:Value->Shared->Prop}(hb:attributeBase e f env (eval e env)=eval e env)
  (h:wpAny (model prog w) A (eval e env) (fun o s₁=>wpAny (model prog w) A (getAttr o f true) Q E s₁) E s):wpAny (model prog w) A (eval (.Attribute e f pos) env) Q E s :=
 Attribute_any_ h (by rw[arm_eval_Attribute,hb])
end
noncomputable def tFld(K:Frag)(ta:TE)(f:Str):TE:=fun σ H Q=>ta σ H fun x H1=>∃ a C dx fs v,x=.ref a/\H1 a=some (.ins C dx fs)/\Cls K C/\zbK K C f/\fs.lookup f=some v/\Q v H1
noncomputable def sFld(K:Frag)(ta tv:TE)(f:Str):TS:=fun D σ H=>tv σ H fun y H1=>ta σ H1 fun x H2=>∃ a C dx fs,x=.ref a/\H2 a=some (.ins C dx fs)/\Cls K C/\zbK K C f/\fs.length<1000 /\
 D.nx σ (upd H2 a (.ins C dx (putF f y fs)))
noncomputable def InOp(X:Cx)(op:Operator)(rd:V->V->Hp->VK->Prop):Prop :=
 ∀ (pins:List (Addr×Obj)) (s:Shared) (σ:St) (H:Hp) (x y:V) (u v:Value) (Q:VK),Inv X pins σ H s->RelV x u->RelV y v->rd x y H Q->wpAny (model X.prog X.w) X.A (inplaceOp op u v) (EP X pins σ Q) X.xe s
noncomputable def sFldAug(K:Frag)(ta tv:TE)(rd:V->V->Hp->VK->Prop)(f:Str):TS:=fun D σ H=>ta σ H fun x H1=>∃ a C dx fs v,x=.ref a/\H1 a=some (.ins C dx fs)/\Cls K C/\zbK K C f/\fs.lookup f=some v /\
 tv σ H1 fun y H2=>rd v y H2 fun z H3=>∃ dx' fs',H3 a=some (.ins C dx' fs')/\fs'.length<1000/\D.nx σ (upd H3 a (.ins C dx' (putF f z fs')))
section
variable{X:Cx}{o e value:Expr}{f:Str}{pos pos' tpos:Pos}{ta tv:TE}
noncomputable def rAdd:V->V->Hp->VK->Prop:=fun x y H Q=>∃ i j,x=.int i/\y=.int j/\Q (.int (i+j)) H
end
section
variable{X:Cx}{pins:List (Addr×Obj)}{σ:St}{H:Hp}{s:Shared}{A:Around}{E:Value->Shared->Prop}{Q:Value->Shared->Prop}{c:Value}{b:Bool}
inductive TyOf(K:Frag)(H:Hp):V->Value->Prop where
 | non:TyOf K H .non (.type "NoneType")
 | bl (x:Bool):TyOf K H (.bl x) (.type "bool")
 | int (i:Int):TyOf K H (.int i) (.type "int")
 | str (x:Str):TyOf K H (.str x) (.type "str")
 | flt (x:UInt64):TyOf K H (.flt x) (.type "float")
 | lst {a:Addr} {xs:List V} (e:H a=some (.lst xs)):TyOf K H (.ref a) (.type "list")
 | frz {a:Addr} {o:Obj} {xs:List V} (e:H a=some (.frz o (.lst xs))):TyOf K H (.ref a) (.type "list")
 | tup {a:Addr} {xs:List V} (e:H a=some (.tup xs)):TyOf K H (.ref a) (.type "tuple")
 | dK {a:Addr} {kvs:List (Key×V)} (e:H a=some (.dK kvs)):TyOf K H (.ref a) (.type "dict")
 | dT {a:Addr} {kvs:List (List Key×V)} (e:H a=some (.dT kvs)):TyOf K H (.ref a) (.type "dict")
 | ins {a C dx:Addr} {fs:List (Str×V)} (e:H a=some (.ins C dx fs)) (cl:Cls K C) (ha:findIn K (.ref C) "__class__" = some (some (.builtin "object.__class__")))
   (hn:PySem.W.specialIn K (.builtin "object.__class__") "__get__" = some (some (.builtin "getset_descriptor.__get__"))) (htk:PySem.W.takesIn K (.builtin "object.__class__")=some true)
   (hm:PySem.W.mroIn K C (.type "object")=some true):TyOf K H (.ref a) (.ref C)
theorem Q0R(I:Inv X pins σ H s)(rx:RelV x u)(ty:TyOf X.K H x t)(e:kitOne X.K t c=some b)(h:∀ tk,Q (.bool b) { s with toks:=tk }) :
  wpAny (model X.prog X.w) A (call (.builtin "isinstance") [u,c]) Q E s:=by
 cases ty with
 | non=>cases (show u=Value.none from rx);exact kia_one PySem.W.kitx_none I.kIn True.intro e (fun z=>nomatch z) h
 | bl y=>cases (show u=Value.bool y from rx);exact kia_one PySem.W.kitx_bool I.kIn True.intro e (fun z=>nomatch z) h
 | int i=>obtain⟨t,q⟩:=(show ∃ t,u=Value.int i t from rx);cases q;exact kia_one PySem.W.kitx_int I.kIn True.intro e (fun z=>nomatch z) h
 | str y=>obtain⟨t,q⟩:=(show ∃ t,u=Value.str y t from rx);cases q;exact kia_one PySem.W.kitx_str I.kIn True.intro e (fun z=>nomatch z) h
 | flt y=>obtain⟨t,q⟩:=(show ∃ t,u=Value.float y t from rx);cases q;exact kia_one PySem.W.kitx_float I.kIn True.intro e (fun z=>nomatch z) h
 | @lst a xs ea =>
  cases (show u=Value.ref a from rx);obtain⟨_,_,n,_,h1⟩:=(show ObjOk X.prog X.w H s.heap a (.lst xs) from I.hok a _ ea);exact kia_one kitx_list I.kIn ⟨_,h1,rfl⟩ e (fun z=>nomatch z) h
 | @frz a ob xs ea =>
  cases (show u=Value.ref a from rx);obtain⟨_,_,_,n,_,h1⟩:=(show ObjOk X.prog X.w H s.heap a (.frz ob (.lst xs)) from I.hok a _ ea);exact kia_one kitx_list I.kIn ⟨_,h1,rfl⟩ e (fun z=>nomatch z) h
 | @tup a xs ea =>
  cases (show u=Value.ref a from rx);obtain⟨_,_,_,p⟩:=(show ObjOk X.prog X.w H s.heap a (.tup xs) from I.hok a _ ea);obtain⟨o,h1,h2,_⟩:=p;exact kia_one kitx_tuple I.kIn ⟨o,h1,h2⟩ e (fun z=>nomatch z) h
 | @dK a kvs ea =>
  cases (show u=Value.ref a from rx);obtain⟨_,_,vs,_,p⟩:=(show ObjOk X.prog X.w H s.heap a (.dK kvs) from I.hok a _ ea);obtain⟨o,es,ep,h1,h2,_⟩:=p;exact kia_one kitx_dict I.kIn ⟨o,h1,h2.1⟩ e (fun z=>nomatch z) h
 | @dT a kvs ea =>
  cases (show u=Value.ref a from rx);obtain⟨_,_,xs,_,o,es,ep,h1,h2,_⟩:=(show ObjOk X.prog X.w H s.heap a (.dT kvs) from I.hok a _ ea);exact kia_one kitx_dict I.kIn ⟨o,h1,h2.1⟩ e (fun z=>nomatch z) h
 | @ins a C dx fs ea cl ha hn htk hm =>
  cases (show u=Value.ref a from rx);obtain⟨mA,O,_⟩:=Q9Z I.hok ea;obtain⟨od,J,_⟩:=O.look;exact kia_one (PySem.W.kitx_own (cl.get _) cl.hd ha hn htk hm) I.kIn J e (fun z=>nomatch z) h
end
structure Room(k:Nat)(A:Around):Prop where
 hd:A.handled=none
 dp:A.depth+3 * k+5<recursionLimit
 un:A.units+16 * k+200<cLine
theorem Room.mono(r:Room k A)(h:j<=k):Room j A:=⟨r.hd,by have:=r.dp;omega,by have:=r.un;omega⟩
theorem Room.deeper(r:Room (k+1) A)(env:Env):Room k (A.deeper env) :=
 ⟨r.hd,by have:=r.dp;show A.depth+1+3 * k+5<_;omega,by have:=r.un;show A.units+3+16 * k+200<_;omega⟩
theorem Room.in1(r:Room (k+1) A):Room k A.in1 :=
 ⟨r.hd,by have:=r.dp;show A.depth+3 * k+5<_;omega,by have:=r.un;show A.units+1+16 * k+200<_;omega⟩
theorem Q1E{A:Around}{C:Addr}{us:List Value}{kw:List (Str×Value)}:(A.under (.builtin "type.__call__" ⟨.ref C::us,kw⟩)).depth=A.depth+1:=by
 first | rfl | simp[Around.under,Code.weight,Code.isCreation,Code.isGuard,Code.isCaller,Code.frames,Code.isFrame,guardIds]
theorem Q5J{A:Around}{C:Addr}{us:List Value}{kw:List (Str×Value)}:(A.under (.builtin "type.__call__" ⟨.ref C::us,kw⟩)).units=A.units+1:=by
 first | rfl | simp[Around.under,Code.cUnits,Code.frames,Code.isFrame]
theorem Room.make(r:Room (k+1) A)(C:Addr)(us:List Value)(kw:List (Str×Value)):Room k (A.under (.builtin "type.__call__" ⟨.ref C::us,kw⟩)) :=
 ⟨r.hd,by have:=r.dp;rw[Q1E];omega,by have:=r.un;rw[Q5J];omega⟩
theorem Room.depth(r:Room k A):A.depth<recursionLimit:=by have:=r.dp;omega
theorem Room.units(r:Room k A):A.units+64<cLine:=by have:=r.un;omega
noncomputable def tNil:TA:=fun _ H Q=>Q [] H
noncomputable def zbM(ta:TE)(tr:TA):TA:=fun σ H Q=>ta σ H fun x H1=>tr σ H1 fun xs H2=>Q (x::xs) H2
section
variable{X:Cx}{e:Expr}{es:List Expr}{te:TE}{t:TA}{pos:Pos}
theorem Q3E:PA X [] tNil:=fun _ _ _ _ H Q I h=>Calls.spliced_nil ⟨[],H,I,.nil,h⟩
theorem Q0S(ha:PE X e te)(hr:PA X es t)(hs:starEach (e::es) X.env=(false,eval e X.env)::starEach es X.env:=by rfl):PA X (e::es) (zbM te t):=by
 intro pos pins s σ H Q I h;rw[hs];show wpAny _ _ (spliced ((false,eval e X.env)::backTo pos (starEach es X.env))) _ _ s;refine Calls.spliced_cons (thn (ha pins s σ H _ I h) fun u s1 ⟨x,H1,I1,r1,q1⟩=>?_);exact thn (hr pos pins s1 σ H1 _ I1 q1) fun us s2 ⟨xs,H2,I2,r2,q2⟩=>⟨x::xs,H2,I2,.cons r1 r2,q2⟩
noncomputable def tTup(t:TA):TE:=fun σ H Q=>t σ H fun xs H1=>xs.length<=sizeLine/\∀ p,H1 p=none->Q (.ref p) (upd H1 p (.tup xs))
noncomputable def tLst(t:TA):TE:=fun σ H Q=>t σ H fun xs H1=>xs.length<=sizeLine/\∀ p,H1 p=none->Q (.ref p) (upd H1 p (.lst xs))
theorem QbD{x1}(h:PA X es t):PE X (.Tuple es x1 pos) (tTup t):=by
 intro pins s σ H Q I hq;refine wpAny_Tuple_spliced (thn (h pos pins s σ H _ I hq) fun us s1 ⟨xs,H1,I1,r,z,q⟩=>⟨by rw[<- r.length];exact z,?_⟩)
 have hf:H1 s1.heap.objs.size=none:=I1.hok.fresh (Zz _);refine⟨.ref s1.heap.objs.size,upd H1 s1.heap.objs.size (.tup xs),I1.laid (t':=s1.toks) (fun b u e=>Zb _ e) (Zz _) ?_,rfl,q _ hf⟩;exact⟨z,us,r,⟨_,Zs _ rfl,rfl,_,rfl⟩⟩
theorem Q9u(h:PA X es t):PE X (.List es pos) (tLst t):=by
 intro pins s σ H Q I hq;refine wpAny_List_spliced (thn (h pos pins s σ H _ I hq) fun us s1 ⟨xs,H1,I1,r,z,q⟩=>⟨by rw[<- r.length];exact z,?_⟩)
 have hf:H1 s1.heap.objs.size=none:=I1.hok.fresh (Zz _);refine⟨.ref s1.heap.objs.size,upd H1 s1.heap.objs.size (.lst xs),I1.laid (t':=s1.toks) (fun b u e=>Zb _ e) (Zz _) ?_,rfl,q _ hf⟩;exact⟨z,us,0,r,Zs _ rfl⟩
end
noncomputable abbrev Sp:=List V->Hp->VK->XK->Prop
noncomputable abbrev CXT:=List Env->Hp->Shared->XK->Value->Shared->Prop
structure Env0(P:Program)(w:World)(K:Frag)(mg:Str->Option Value)(base:Heap)(A:Around)(outer:List Env)(s:Shared)(H:Hp):Prop where
 frames:A.frames=some outer
 mod:Mod K mg base
 bs:∀ b o,base.get? b=some o->s.heap.get? b=some o/\H b=none
 bsz:base.objs.size<=s.heap.objs.size
 funs:s.heap.FunFrames base outer
 frf:∀ b∈frs outer,H b=none
 hok:HOk P w H s.heap
 bare:AllBare s.gens
noncomputable def CE(outer:List Env)(P:Program)(w:World)(H:Hp)(s:Shared)(Q:VK)(u:Value)(s':Shared):Prop :=
 ∃ v H',s'.os=s.os/\AllBare s'.gens/\Un (frs outer) [] H H' s.heap s'.heap/\HOk P w H' s'.heap/\RelV v u/\Q v H'
noncomputable def CR(CX:CXT)(outer:List Env)(P:Program)(w:World)(H:Hp)(s:Shared)(Q:VK)(E:XK)(r:Result)(s':Shared):Prop :=
 match r with
 | .ok (.ret u)=>CE outer P w H s Q u s'
 | .ok _=>False
 | .error e=>CX outer H s E e s'
structure FnOk(P:Program)(w:World)(K:Frag)(mg:Str->Option Value)(base:Heap)(CX:CXT)(k:Nat)(f:Addr)(fd:FuncData)(ps:List Str)(sp:Sp):Prop where
 len:∀ vs H Q E,sp vs H Q E->vs.length=ps.length
 run:∀ (A:Around) (outer:List Env) (s:Shared) (H:Hp) (args:Args) (us:List Value) (vs:List V) (Q:VK) (E:XK),Room k A->Env0 P w K mg base A outer s H->BindsTo s fd args (ps.zip us)->Vals vs us->sp vs H Q E ->
  codeAny (model P w) A (.call (.ref f) args) (CR CX outer P w H s Q E) s
theorem FnOk.mono{P:Program}{w:World}{K:Frag}{mg:Str->Option Value}{base:Heap}{CX:CXT}{j k:Nat}{f:Addr}{fd:FuncData}{ps:List Str}{sp:Sp}(F:FnOk P w K mg base CX j f fd ps sp)(h:j<=k) :
  FnOk P w K mg base CX k f fd ps sp:=⟨F.len,fun A outer s H args us vs Q E hr=>F.run A outer s H args us vs Q E (hr.mono h)⟩
theorem Env0.make{P:Program}{w:World}{K:Frag}{mg:Str->Option Value}{base:Heap}{A:Around}{outer:List Env}{s:Shared}{H:Hp}(e:Env0 P w K mg base A outer s H)(C:Addr)(us:List Value)(kw:List (Str×Value)) :
  Env0 P w K mg base (A.under (.builtin "type.__call__" ⟨.ref C::us,kw⟩)) outer s H:=⟨by first | exact e.frames | (simpa[Around.under,Code.envs,Code.isFrame,pushEnvs]using e.frames),e.mod,e.bs,e.bsz,e.funs,e.frf,e.hok,e.bare⟩
theorem Env0.in1{P:Program}{w:World}{K:Frag}{mg:Str->Option Value}{base:Heap}{A:Around}{outer:List Env}{s:Shared}{H:Hp}(e:Env0 P w K mg base A outer s H) :
  Env0 P w K mg base A.in1 outer s H:=⟨e.frames,e.mod,e.bs,e.bsz,e.funs,e.frf,e.hok,e.bare⟩
section
variable{X:Cx}{pins:List (Addr×Obj)}{σ:St}{H:Hp}{s s':Shared}
theorem Inv.env0(I:Inv X pins σ H s):Env0 X.prog X.w X.K X.mg X.base X.A X.stack s H :=
 ⟨I.ok.frames,I.ok.mod,I.bs,Z7 I.ok.bsz I.sz,I.stack,I.stkFree,I.hok,I.bare⟩
theorem Inv.after(I:Inv X pins σ H s)(h:CE X.stack X.prog X.w H s Q u s'):EP X pins σ Q u s':=by
 obtain⟨v,H',os,bare,un,hok,r,q⟩:=h;obtain⟨hh,g,d,t,os'⟩:=s';obtain rfl:os'=s.os:=os;exact⟨v,H',I.call (h':=hh) (g':=g) (d':=d) (t':=t) (ch:=[]) un hok bare (fun b z=>absurd z (by simp)),r,q⟩
end
noncomputable def tCall(sp:Sp)(dvs:List V)(E:XK)(t:TA):TE:=fun σ H Q=>t σ H fun vs H1=>sp (vs++dvs) H1 Q E
noncomputable def tMeth(C:Addr)(m:Str)(sp:Sp)(dvs:List V)(E:XK)(ta:TE)(t:TA):TE:=fun σ H Q=>ta σ H fun x H1=>∃ a dx fs,x=.ref a/\H1 a=some (.ins C dx fs)/\fs.lookup m=none /\
 t σ H1 fun vs H2=>sp (x::(vs++dvs)) H2 Q E
noncomputable def tMake(C:Addr)(sp:Sp)(dvs:List V)(E:XK)(t:TA):TE:=fun σ H Q=>t σ H fun vs H1=>∀ x dx,H1 x=none->H1 dx=none->dx≠x ->
 sp (.ref x::(vs++dvs)) (upd (upd H1 dx (.own x)) x (.ins C dx [])) (fun v H2=>v=.non/\Q (.ref x) H2) E
noncomputable def Binds(K:Frag)(fd:FuncData)(ps:List Str)(ds:List Value):Prop :=
 ∀ (s:Shared) (us:List Value),K.In s.heap->(us++ds).length=ps.length->BindsTo s fd ⟨us,[]⟩ (ps.zip (us++ds))
theorem Binds.all{K:Frag}{fd:FuncData}{ps:List Str}(h:∀ us:List Value,us.length=ps.length->bindArgs fd ⟨us,[]⟩=pure (ps.zip us)):Binds K fd ps []:=fun s us _ hl=>by
 rw[append_nil]at hl ⊢;exact .of_eq (h us hl)
noncomputable def zbJ(CX:CXT)(X:Cx)(E:XK):Prop:=∀ (pins:List (Addr×Obj)) (σ:St) (H:Hp) (s:Shared) (e:Value) (s':Shared),Inv X pins σ H s->CX X.stack H s E e s'->X.xe e s'
section
variable{X:Cx}{CX:CXT}{k:Nat}{f C:Addr}{fd:FuncData}{ps:List Str}{sp:Sp}{dvs:List V}{ds:List Value}{E:XK}{x m:Str}{p pos apos:Pos}{e o:Expr}{es:List Expr}{ta:TE}{t:TA}
theorem QbE(F:FnOk X.prog X.w X.K X.mg X.base CX k f fd ps sp)(hr:Room k X.A)(hb:Binds X.K fd ps ds)(hd:Vals dvs ds)(hx:zbJ CX X E)
  (I:Inv X pins σ H s) (r:Vals vs us) (h:sp (vs++dvs) H Q E):wpAny (model X.prog X.w) X.A (call (.ref f) us) (EP X pins σ Q) X.xe s:=by
 have r2:Vals (vs++dvs) (us++ds):=r.append hd;have hl:(us++ds).length=ps.length:=by rw[<- r2.length];exact F.len _ _ _ _ h
 refine wpAny_call (codeAny_mono (F.run X.A X.stack s H ⟨us,[]⟩ (us++ds) (vs++dvs) Q E hr I.env0 (hb s us I.kIn hl) r2 h) fun r s' hq=>?_);cases r with
 | error e=>exact hx pins σ H s e s' I hq
 | ok fl =>
  cases fl with
  | ret u=>exact I.after hq
  | next=>exact False.elim hq
  | brk=>exact False.elim hq
  | cont=>exact False.elim hq
theorem Qa1(F:FnOk X.prog X.w X.K X.mg X.base CX k f fd ps sp)(hr:Room k X.A)(hg:Gl X x)(hm:X.mg x=some (.ref f))(hk:keepIn X.K (.ref f)=true)(hb:Binds X.K fd ps ds)(hd:Vals dvs ds)(hx:zbJ CX X E)
  (ha:PA X (e::es) t) (hdb:(x==("__debug__" : Str))=false:=by decide) (he:starEach (e::es) X.env=(false,eval e X.env)::starEach es X.env:=by rfl) (hpl:(backTo pos (starEach es X.env)).any (·.1)=false:=by rfl) :
  PE X (.Call (.Name x p) (e::es) [] pos) (tCall sp dvs E t):=by
 intro pins s σ H Q I h;refine ZX (Q0I I hg hm ?_ hdb);refine callWith_K (h₀:=X.base) I.ok.mod.kin hk (thn (ha pos pins s σ H _ I h) fun us s1 ⟨vs,H1,I1,r,q⟩=>⟨I1.kIn,?_⟩) he hpl;exact QbE F hr hb hd hx I1 r q
structure Mk(K:Frag)(C f:Addr):Prop where
 makes:makesIn K C=true
 init:findIn K (.ref C) "__init__" = some (some (.ref f))
 fn:isFn K (.ref f)=true
 kp:keepIn K (.ref C)=true
end
noncomputable def PK(X:Cx)(kws:List Keyword)(t:TA):Prop :=
 ∀ (pos:Pos) (pins:List (Addr×Obj)) (s:Shared) (σ:St) (H:Hp) (Q:List V->Hp->Prop),Inv X pins σ H s->t σ H Q->wpAny (model X.prog X.w) X.A (evalAll ((backToKw pos (keywordEach kws X.env)).map (·.2))) (AP X pins σ Q) X.xe s
section
variable{X:Cx}{CX:CXT}{k:Nat}{f C:Addr}{fd:FuncData}{ps ks:List Str}{sp:Sp}{E:XK}{x m:Str}{p pos apos kpos:Pos}{e o:Expr}{es:List Expr}{kws:List Keyword}{te ta:TE}{t tk:TA}{nm:Option Str}
theorem QbF:PK X [] tNil:=fun _ _ _ _ H Q I h=>wpAny_evalAll_nil ⟨[],H,I,.nil,h⟩
theorem Qa2(ha:PE X e te)(hr:PK X kws t):PK X (⟨nm,e,kpos⟩::kws) (zbM te t):=by
 intro pos pins s σ H Q I h;show wpAny _ _ (evalAll ((do let v <- eval e X.env;standAt pos;pure v)::(backToKw pos (keywordEach kws X.env)).map (·.2))) _ _ s
 refine wpAny_evalAll_cons (Za (thn (ha pins s σ H _ I h) fun u s1 ⟨x,H1,I1,r1,q1⟩=>Za (wpAny_standAt (Zh ?_))));exact thn (hr pos pins s1 σ H1 _ I1 q1) fun us s2 ⟨xs,H2,I2,r2,q2⟩=>⟨x::xs,H2,I2,.cons r1 r2,q2⟩
structure zc9(K:Frag)(fd:FuncData)(ps ks:List Str)(g:List Value->List Value->List Value)(gV:List V->List V->List V):Prop where
 to:∀ (s:Shared) (us ws:List Value),K.In s.heap->(g us ws).length=ps.length->BindsTo s fd ⟨us,ks.zip ws⟩ (ps.zip (g us ws))
 rel:∀ {vs:List V} {us:List Value} {zs:List V} {ws:List Value},Vals vs us->Vals zs ws->Vals (gV vs zs) (g us ws)
noncomputable def tCallK(sp:Sp)(gV:List V->List V->List V)(E:XK)(t tk:TA):TE:=fun σ H Q=>t σ H fun vs H1=>tk σ H1 fun zs H2=>sp (gV vs zs) H2 Q E
variable{g:List Value->List Value->List Value}{gV:List V->List V->List V}
end
structure zat(N P:List Str)(sc:Scope):Prop where
 kind:sc.kind=.function
 co:sc.isCoroutine=false
 gen:sc.isGenerator=false
 nd:N.Nodup
 pre:N.take P.length=P
 par:∀ x∈P,sc.names.lookup x=some .local\/sc.names.lookup x=some .cell
 nofree:∀ y∈sc.names,y.2≠.free
theorem Q3F{kindOf:Str->Option NameKind}:∀ {binds:List (Str×Value)} {m:Str->Option Value},(∀ v,(x,v)∉binds)->bindL kindOf binds m x=m x
 | [],_,_=>rfl
 | (n,v)::r,m,h=>by
  unfold bindL;rw[Q3F fun w hw=>h w (Zo _ hw)];split
  ·have:x≠n:=by rintro rfl;exact h v Zl
   simp[this]
  ·rfl
theorem Q3G{kindOf:Str->Option NameKind}:∀ {binds:List (Str×Value)} {m:Str->Option Value},(∀ v,(x,v)∉binds)->bindC kindOf binds m x=m x
 | [],_,_=>rfl
 | (n,v)::r,m,h=>by
  unfold bindC;rw[Q3G fun w hw=>h w (Zo _ hw)];split
  ·rfl
  ·have:x≠n:=by rintro rfl;exact h v Zl
   simp[this]
theorem Q3H{kindOf:Str->Option NameKind}:∀ {P:List Str} {vs:List Value} {i:Nat} {m:Str->Option Value},P.Nodup->P[i]? = some x->vs[i]? = some v->kindOf x=some .local ->
  bindL kindOf (P.zip vs) m x=some v
 | [],_,_,_,_,h,_,_=>by simp at h
 | _::_,[],_,_,_,_,h,_=>by simp at h
 | p::P,w::vs,0,m,nd,h1,h2,hk=>by
  simp at h1 h2;subst h1;subst h2;show bindL kindOf ((p,w)::P.zip vs) m p=_;unfold bindL;rw[Q3F fun v hv=>(nodup_cons.mp nd).1 (of_mem_zip hv).1,Zm hk];simp
 | p::P,w::vs,i+1,m,nd,h1,h2,hk=>by
  show bindL kindOf ((p,w)::P.zip vs) m x=_;unfold bindL;exact Q3H (i:=i) (nodup_cons.mp nd).2 (by simpa using h1) (by simpa using h2) hk
theorem Q3I{kindOf:Str->Option NameKind}:∀ {P:List Str} {vs:List Value} {i:Nat} {m:Str->Option Value},P.Nodup->P[i]? = some x->vs[i]? = some v->kindOf x≠some .local ->
  bindC kindOf (P.zip vs) m x=some v
 | [],_,_,_,_,h,_,_=>by simp at h
 | _::_,[],_,_,_,_,h,_=>by simp at h
 | p::P,w::vs,0,m,nd,h1,h2,hk=>by
  simp at h1 h2;subst h1;subst h2;show bindC kindOf ((p,w)::P.zip vs) m p=_;unfold bindC;rw[Q3G fun v hv=>(nodup_cons.mp nd).1 (of_mem_zip hv).1,Zj hk];simp
 | p::P,w::vs,i+1,m,nd,h1,h2,hk=>by
  show bindC kindOf ((p,w)::P.zip vs) m x=_;unfold bindC;exact Q3I (i:=i) (nodup_cons.mp nd).2 (by simpa using h1) (by simpa using h2) hk
noncomputable def start(N:List Str)(vs:List V):St:=vs.map some++List.replicate (N.length-vs.length) none
noncomputable def cxOf(CX:CXT)(P:Program)(w:World)(K:Frag)(mg:Str->Option Value)(base:Heap)(N:List Str)(qual:Str)(scope:Scope)(f:Addr)(cd:Value)(A:Around)(outer:List Env)(s:Shared)(H:Hp)(E:XK):Cx where
 prog:=P
 w:=w
 K:=K
 mg:=mg
 base:=base
 A:=A.deeper (envOfC qual scope s.heap.objs.size f cd)
 N:=N
 s₀:=s
 H₀:=H
 env:=envOfC qual scope s.heap.objs.size f cd
 outer:=outer
 stack:=envOfC qual scope s.heap.objs.size f cd::outer
 ex:=[]
 calm:=true
 fn:=fun _=>true
 pn:=[]
 xe:=fun e s'=>wpAny (model P w) (A.deeper (envOfC qual scope s.heap.objs.size f cd)) (leaving (envOfC qual scope s.heap.objs.size f cd) e) (fun _ s''=>CX outer H s E e s'') (fun e' s''=>CX outer H s E e' s'') s'
theorem Q4O{sc:Scope}{n:Nat}{x:Str}(h:sc.names.lookup x=some .cell):∃ c,(cellsFrom n sc.names []).lookup x=some c:=by
 have q:=cellsFrom_some sc.names n [] (.inl h);exact Yk.mp q
theorem Q3J{CX:CXT}{P:Program}{w:World}{K:Frag}{mg:Str->Option Value}{base:Heap}{N ps:List Str}{qual:Str}{scope:Scope}{f:Addr}{cd:Value}{A:Around}{outer:List Env}{s s1:Shared}{H:Hp}{E:XK}{us:List Value}{vs:List V}
  (S:zat N ps scope) (hd:A.handled=none) (e0:Env0 P w K mg base A outer s H) (hl:vs.length=ps.length) (r:Vals vs us)
  (x:InCallC s s.heap.objs.size (bindL (envOfC qual scope s.heap.objs.size f cd).kindOf (ps.zip us) fun _=>none) (cellsFrom (s.heap.objs.size+1) scope.names []) (bindC (envOfC qual scope s.heap.objs.size f cd).kindOf (ps.zip us) fun _=>none) s1) :
  Inv (cxOf CX P w K mg base N qual scope f cd A outer s H E) [] (start N vs) H s1:=by
 have hpl:ps.length<=N.length:=by have:=congrArg List.length S.pre;rw[ZU]at this;omega
 obtain⟨h1,tk,rfl,hk⟩:=x.done;have noA:∀ b:Addr,b∉(cxOf CX P w K mg base N qual scope f cd A outer s H E).ex:=fun b z=>absurd (show b∈([]:List Addr) from z) (by simp)
 refine⟨⟨e0.mod,S.kind,rfl,rfl,Zz _,fun y z c h1 h2=>?_,fun y hy=>?_,fun y c _ h=>?_,fun _=>hd,Around.frames_deeper e0.frames,.inr ⟨rfl,rfl⟩,fun b z=>absurd z (noA b),e0.bs,e0.bsz,fun b _ _=>noA b,fun b z=>absurd z (noA b),e0.funs,e0.frf⟩,
  rfl,e0.bare,Un.kept hk,⟨_,x.toInCall.ns,fun i y v h1 h2 h3=>?_⟩,fun y c h=>⟨_,x.cell y c h⟩,e0.hok.fresh (Zz _),fun y c h=>?_,fun p hp=>absurd (show p∈([]:List (Addr×Obj)) from hp) (by simp),e0.hok.kept hk,?_⟩
 ·exact name_of_addr x.apart (PySem.mem_of_lookup h1) (PySem.mem_of_lookup h2)
 ·have hy:scope.names.lookup y=some .cell\/scope.names.lookup y=some .free:=hy;rcases hy with hy | hy
  ·exact Q4O hy
  ·exact absurd rfl (S.nofree _ (PySem.mem_of_lookup hy))
 ·exact le_of_lt (x.above y c (PySem.mem_of_lookup h))
 ·have hi:i<vs.length:=by
   unfold start at h2;by_cases hi:i<vs.length
   ·exact hi
   ·rw[List.getElem?_append_right (by simpa using hi)]at h2
    rw[List.getElem?_replicate]at h2;split at h2 <;> cases h2
  have ha:vs[i]? = some v:=by
   unfold start at h2;rw[getElem?_append_left (by simpa using hi),ZC]at h2
   cases e:vs[i]? with
   | none=>rw[e]at h2;cases h2
   | some a=>rw[e]at h2;cases h2;rfl
  obtain⟨u,hu,rv⟩:=r.get ha;have hp:ps[i]? = some y:=by
   rw[<- S.pre,List.getElem?_take_of_lt (by omega)];exact h1
  have ndP:ps.Nodup:=by rw[<- S.pre];exact S.nd.sublist (List.take_sublist _ _)
  refine⟨u,rv,?_⟩;rcases S.par y (Z0 hp) with k | k
  ·exact .inl ⟨k,Q3H ndP hp hu k⟩
  ·obtain⟨c,e⟩:=Q4O (n:=s.heap.objs.size+1) k;refine .inr ⟨.inl k,c,e,?_⟩;have q:=x.cell y c e;rw[Q3I ndP hp hu (by show scope.names.lookup y≠_;rw[k];decide)]at q
   exact q
 ·exact e0.hok.fresh (le_of_lt (x.above y c (PySem.mem_of_lookup h)))
 ·unfold start;show _=N.length;rw[Zd,Zi,length_replicate];omega
theorem fn_of{CX:CXT}{P:Program}{w:World}{K:Frag}{mg:Str->Option Value}{base:Heap}{k:Nat}{f:Addr}{name qual:Str}{params:Arguments}{body:List Stmt}{scope:Scope}{dV kV doc pm cdv ct oc:Value}{an od:Option Addr}
  {osl:Array (Option Value)} {N ps:List Str} {sp:Sp} (lk:K.lookup f=some ⟨oc,od,.func (fnOf name qual params body scope dV kV doc pm an cdv ct),osl⟩) (hcd:codeIn K cdv qual=true) (S:zat N ps scope)
  (len:∀ vs H Q E,sp vs H Q E->vs.length=ps.length)
  (hbody:∀ (A:Around) (outer:List Env) (s:Shared) (H:Hp) (vs:List V) (Q:VK) (E:XK),Room k (A.deeper (envOfC qual scope s.heap.objs.size f cdv))->sp vs H Q E ->
   ∃ t,PSs (cxOf CX P w K mg base N qual scope f cdv A outer s H E) body t/\t { nx:=fun _ H'=>Q .non H',rt:=Q } (start N vs) H) :
  FnOk P w K mg base CX (k+1) f (fnOf name qual params body scope dV kV doc pm an cdv ct) ps sp:=by
 refine⟨len,fun A outer s H args us vs Q E hr e0 hb r hsp=>?_⟩;have hl:=len _ _ _ _ hsp;have KX:K.In s.heap:=e0.mod.kin.keeps fun b o e=>(e0.bs b o e).1;have lim:s.heap.NoLimit:=e0.mod.nolimit.keeps fun b o e=>(e0.bs b o e).1;have hkind:∀ y∈ps.zip us,scope.names.lookup y.1=some .local\/(scope.names.lookup y.1=some .cell/\((cellsFrom (s.heap.objs.size+1) scope.names []).lookup y.1).isSome=true):=fun⟨n,v⟩ hy=>by
  rcases S.par n (of_mem_zip hy).1 with q | q
  ·exact .inl q
  ·exact .inr ⟨q,cellsFrom_some _ _ _ (.inl q)⟩
 refine codeAny_call_function hr.depth (KX _ _ lk) rfl S.co S.gen rfl (codeRec_of KX hcd) (hb _ _ _ _ ?_);refine wpAny_newFunctionEnv_cells S.kind hkind fun env he s1 x=>?_;subst he;refine⟨lim.keeps x.toInCall.keep,codeAny_func ?_⟩;obtain⟨t,ht,hq⟩:=hbody A outer s H vs Q E (hr.deeper _) hsp;have I:Inv (cxOf CX P w K mg base N qual scope f cdv A outer s H E) [] (start N vs) H s1:=Q3J S hr.hd e0 hl r x;refine Z4 (ht [] s1 (start N vs) H _ I hq) (fun fl s' hs=>?_) fun e s' hs=>hs;have fin:∀ {σ':St} {H':Hp} {v:V} {u:Value},Inv (cxOf CX P w K mg base N qual scope f cdv A outer s H E) [] σ' H' s'->RelV v u->Q v H'->CE outer P w H s Q u s' :=
  fun{σ' H' v u} J rv q=>⟨v,H',J.os,J.bare,J.base,J.hok,rv,q⟩
 cases fl with
 | ret u =>
  obtain⟨v,σ',H',J,rv,q⟩:=hs;exact fin J rv q
 | next =>
  obtain⟨σ',H',J,q⟩:=hs;exact fin (v:=V.non) (u:=Value.none) J rfl q
 | brk =>
  obtain⟨_,_,_,q⟩:=hs;exact False.elim q
 | cont =>
  obtain⟨_,_,_,q⟩:=hs;exact False.elim q
section
variable{X:Cx}{x:Str}{p pos:Pos}{e:Expr}{es:List Expr}{t:TA}{id T:String}{r:List V->Hp->VK->Prop}
noncomputable def tCB(r:List V->Hp->VK->Prop)(t:TA):TE:=fun σ H Q=>t σ H fun vs H1=>r vs H1 Q
theorem Q3e(hc:CallR X (.builtin id) r)(hg:Gl X x)(hm:X.mg x=none)(hv:bootBuiltins x=some (.builtin id))(ha:PA X (e::es) t)(hn:x ≠ "__name__":=by decide)(hdb:(x==("__debug__" : Str))=false:=by decide)
  (he:starEach (e::es) X.env=(false,eval e X.env)::starEach es X.env:=by rfl) (hpl:(backTo pos (starEach es X.env)).any (·.1)=false:=by rfl):PE X (.Call (.Name x p) (e::es) [] pos) (tCB r t):=by
 intro pins s σ H Q I h;refine ZX (Q2g I hg hm hv ?_ hn hdb);exact PyProof.Rows.callWith_builtin1 (thn (ha pos pins s σ H _ I h) fun us s1 ⟨vs,H1,I1,r1,q1⟩=>hc pins s1 σ H1 vs us Q I1 r1 q1) he hpl
theorem Q6r(hc:CallR X (.type T) r)(hg:Gl X x)(hm:X.mg x=none)(hv:bootBuiltins x=some (.type T))(ha:PA X (e::es) t)(hn:x ≠ "__name__":=by decide)(hdb:(x==("__debug__" : Str))=false:=by decide)
  (he:starEach (e::es) X.env=(false,eval e X.env)::starEach es X.env:=by rfl) (hpl:(backTo pos (starEach es X.env)).any (·.1)=false:=by rfl):PE X (.Call (.Name x p) (e::es) [] pos) (tCB r t):=by
 intro pins s σ H Q I h;refine ZX (Q2g I hg hm hv ?_ hn hdb);exact PyProof.Rows.callWith_type1 (thn (ha pos pins s σ H _ I h) fun us s1 ⟨vs,H1,I1,r1,q1⟩=>hc pins s1 σ H1 vs us Q I1 r1 q1) he hpl
end
end L2
namespace HT
open PySem PyProof.Rows
section
open PySem.SeqAt
open PySem.AutoSeq1 (wpAny_loadPart')
open PySem.MeetsSeq PySem.MeetsSeq2 PySem.MeetsSeq3
end
section
variable{prog:Program}{w:World}{A:Around}{E:Value->Shared->Prop}{s:Shared}
noncomputable def sIx(n d:Nat):Option Int->Nat
 | none=>d
 | some v=>if v<0 then (v+(n:Int)).toNat else min v.toNat n
theorem sIx_none(n d:Nat):sIx n d none=d:=rfl
theorem sIx_nat(n d k:Nat):sIx n d (some (k:Int))=min k n:=by
 show (if (k:Int)<0 then ((k:Int)+(n:Int)).toNat else min (k:Int).toNat n)=min k n
 rw[Zj (by omega),ZO]
theorem sIx_le(n d:Nat)(hd:d<=n)(o:Option Int):sIx n d o<=n:=by
 cases o with
 | none=>exact hd
 | some v =>
  show (if v<0 then (v+(n:Int)).toNat else min v.toNat n)<=n
  by_cases hv:v<0
  ·rw[Zm hv];omega
  ·rw[Zj hv];exact Nat.min_le_right _ _
theorem Q6s(v:Int)(n d:Nat):(if v<0 then max (v+(n:Int)) 0 else min v (n:Int))=((sIx n d (some v):Nat):Int):=by
 show (if v<0 then max (v+(n:Int)) 0 else min v (n:Int))=(((if v<0 then (v+(n:Int)).toNat else min v.toNat n):Nat):Int)
 by_cases hv:v<0
 ·simp only[Zm hv];omega
 ·simp only[Zj hv];omega
theorem Q5K(lo hi:Option Int)(n:Nat):Builtin.Slice.sliceAdjust lo hi 1 (n:Int)=(((sIx n 0 lo:Nat):Int),((sIx n n hi:Nat):Int)):=by
 have h1:¬ ((1:Int)<0):=by omega
 unfold Builtin.Slice.sliceAdjust;simp only[h1,Yj];refine Prod.ext ?_ ?_
 ·cases lo with
  | none=>rfl
  | some v=>exact Q6s v n 0
 ·cases hi with
  | none=>rfl
  | some v=>exact Q6s v n n
theorem Q5L(i j:Nat):Builtin.Slice.slicePlaces (i:Int) (j:Int) 1=j-i:=by
 unfold Builtin.Slice.slicePlaces;have h1:(1:Int) > 0:=by omega
 simp only[h1,if_true,Int.ediv_one];split <;> omega
theorem Q2T{Q:Option Int->Shared->Prop}(p:IsPart v o)(h:Q o s):wpAny (model prog w) A (Builtin.Slice.slicePartIndex v) Q E s:=by
 cases p with
 | none=>exact slicePart_none h
 | int i t=>exact slicePart_int h
theorem sliceApplied_gen{sl:Addr}{vl vu:Value}{lo hi:Option Int}{n:Nat}{Q:Int×Int×Nat->Shared->Prop}(hs:s.heap.IsSliceOf sl vl vu .none)(pl:IsPart vl lo)(pu:IsPart vu hi)
  (h:Q (((sIx n 0 lo:Nat):Int),1,sIx n n hi-sIx n 0 lo) s):wpAny (model prog w) A (Builtin.Slice.sliceApplied (.ref sl) (pure (n:Int))) Q E s:=by
 obtain⟨os,hos,hcs,hds⟩:=id hs;unfold Builtin.Slice.sliceApplied Builtin.Slice.sliceFields;refine Za (Za (ZE hos hds (x:=vl) rfl (Za (ZE hos hds (x:=vu) rfl (Za (ZE hos hds (x:=.none) rfl (Zh ?_)))))));refine Za (slicePart_none ?_);show wpAny _ _ (if ((1:Int)==0)=true then _ else _) _ _ s
 rw[Zj (by decide)]
 refine Za (Q2T pl (Za (Q2T pu (Za (Zh ?_)))));show wpAny _ _ (match Builtin.Slice.sliceAdjust lo hi 1 (n:Int) with | (lo,hi)=>pure (lo,(1:Int),Builtin.Slice.slicePlaces lo hi 1)) _ _ s
 rw[Q5K lo hi n];show wpAny _ _ (pure (((sIx n 0 lo:Nat):Int),(1:Int),Builtin.Slice.slicePlaces ((sIx n 0 lo:Nat):Int) ((sIx n n hi:Nat):Int) 1)) _ _ s;rw[Q5L];exact Zh h
theorem Q8m(xs:Array Value)(i k:Nat):((List.range k).filterMap fun(m:Nat)=>xs[((i:Int)+(m:Int) * 1).toNat]?).toArray=((xs.toList.drop i).take k).toArray:=by
 have e:(fun(m:Nat)=>xs[((i:Int)+(m:Int) * 1).toNat]?)=fun m=>xs[i+m]?:=by
  funext m
  have:((i:Int)+(m:Int) * 1).toNat=i+m:=by omega
  rw[this]
 rw[e];have:=pick_run xs i k;rw[List.filterMap_map]at this;have e2:((fun x=>xs[x]?) ∘ fun x=>i+x)=fun m=>xs[i+m]?:=rfl;rw[e2]at this;rw[this]
theorem getItem_tuple_cut{t sl:Addr}{items:Array Value}{vl vu:Value}{lo hi:Option Int}{Q:Value->Shared->Prop}(ht:IsTup s.heap t items)(hs:s.heap.IsSliceOf sl vl vu .none)(pl:IsPart vl lo)(pu:IsPart vu hi)
  (hw:¬ (sIx items.size 0 lo=0/\sIx items.size items.size hi=items.size))
  (h:Q (.ref s.heap.objs.size) { s with heap:=s.heap.push { cls:=.type "tuple",data:=.seq ((items.toList.drop (sIx items.size 0 lo)).take (sIx items.size items.size hi-sIx items.size 0 lo)).toArray } })
  (hsz:items.size<=sizeLine):wpAny (model prog w) A (getItem (.ref t) (.ref sl)) Q E s:=by
 have htake:sizeOk (.seq ((items.toList.drop (sIx items.size 0 lo)).take (sIx items.size items.size hi-sIx items.size 0 lo)).toArray):=by
  show ((items.toList.drop (sIx items.size 0 lo)).take (sIx items.size items.size hi-sIx items.size 0 lo)).toArray.size<=sizeLine;rw[ZH,ZU,length_drop,Array.length_toList];omega
 have hj:sIx items.size items.size hi<=items.size:=sIx_le _ _ (Zz _) hi;obtain⟨os,hos,hcs,hds⟩:=id hs;have hTs:s.TypeIs (.ref sl) "slice":=⟨os,hos,hcs⟩;unfold getItem
 try with_reducible refine Ye ?_
 first | refine Za (Zh ?_) | skip
 refine Za (wpAny_sequenceKey ht.typeIs (by decide) ?_)
 refine Za (wpAny_callSpecial?_slot (name:=Str.ofString "__getitem__") ht.typeIs ZI
  (wpAny_call_entry ZI ht.typeIs entry_tuple_getitem ?_ (args_tuple_getitem _ _)))
 show wpAny _ _ (Builtin.Tuple.tupleItemsOf (.ref t) >>= _) _ _ s;refine Za (tupleItemsOf_ ht ?_);refine Za (wpAny_typeOf hTs ?_);rw[Zm (by decide)]
 refine Za (sliceApplied_gen hs pl pu ?_);have hno:¬ ((((sIx items.size 0 lo:Nat):Int)==0&&(1:Int)==1&&(sIx items.size items.size hi-sIx items.size 0 lo)==items.size)=true):=by
  intro q;rw[Zc,Zc]at q;have q1:((sIx items.size 0 lo:Nat):Int)=0:=eq_of_beq q.1.1;have q2:sIx items.size items.size hi-sIx items.size 0 lo=items.size:=eq_of_beq q.2;exact hw ⟨by omega,by omega⟩
 show wpAny _ _ (if (((sIx items.size 0 lo:Nat):Int)==0&&(1:Int)==1&&(sIx items.size items.size hi-sIx items.size 0 lo)==items.size)=true then _ else _) _ _ s
 rw[Zj hno,Q8m]
 first
  | exact Za (m:=Builtin.Tuple.tupleExact _) (ZP (Zh ⟨_,rfl,Zh h⟩) htake)
  | exact Za (m:=Builtin.Tuple.tupleExact _) (ZP (Za (Zh (Zh ⟨_,rfl,Zh h⟩))) htake)
  | exact Za (Za (m:=Builtin.Tuple.tupleExact _) (ZP (Zh (Zh ⟨_,rfl,Zh h⟩)) htake))
  | exact Za (Za (m:=Builtin.Tuple.tupleExact _) (ZP (Zh ⟨_,rfl,Zh h⟩) htake))
end
end HT
namespace L2
open PySem PySem.Spec PyProof.Rows
noncomputable abbrev TO:=St->Hp->(Option Int->Hp->Prop)->Prop
noncomputable def PO(X:Cx)(e:Option Expr)(t:TO):Prop :=
 ∀ (pins:List (Addr×Obj)) (s:Shared) (σ:St) (H:Hp) (Q:Option Int->Hp->Prop),Inv X pins σ H s->t σ H Q ->
  wpAny (model X.prog X.w) X.A (evalPart e X.env) (fun u s'=>∃ o H',Inv X pins σ H' s'/\IsPart u o/\Q o H') X.xe s
noncomputable def tNoPart:TO:=fun _ H Q=>Q none H
noncomputable def tPart(t:TE):TO:=fun σ H Q=>t σ H fun x H1=>∃ i,x=.int i/\Q (some i) H1
section
variable{X:Cx}{e:Expr}{te:TE}{lo hi:Option Expr}{tl th:TO}{pos p2:Pos}
theorem Qa3:PO X none tNoPart:=by
 intro pins s σ H Q I h;rw[evalPart_none];exact Zh ⟨none,H,I,.none,h⟩
theorem Qa4(h:PE X e te):PO X (some e) (tPart te):=by
 intro pins s σ H Q I hw;rw[evalPart_some];refine thn (h pins s σ H _ I hw) fun u s1 ⟨x,H1,I1,r1,q1⟩=>?_;obtain⟨i,rfl,q⟩:=q1;obtain⟨t,rfl⟩:=r1;exact⟨some i,H1,I1,.int i t,q⟩
noncomputable def SlR(X:Cx)(r:V->Option Int->Option Int->Hp->VK->Prop):Prop :=
 ∀ (pins:List (Addr×Obj)) (s:Shared) (σ:St) (H:Hp) (x:V) (v vl vu:Value) (lo hi:Option Int) (sl:Addr) (Q:VK),Inv X pins σ H s->RelV x v->s.heap.IsSliceOf sl vl vu .none->IsPart vl lo->IsPart vu hi->r x lo hi H Q ->
  ∃ T id,typeLookup (.type T) "__getitem__" = pure (some (.builtin id))/\s.TypeIs v T/\wpAny (model X.prog X.w) X.A (getItem v (.ref sl)) (EP X pins σ Q) X.xe s
theorem SlR.or{r r':V->Option Int->Option Int->Hp->VK->Prop}(h:SlR X r)(h':SlR X r'):SlR X (fun x lo hi H Q=>r x lo hi H Q\/r' x lo hi H Q):=by
 intro pins s σ H x v vl vu lo hi sl Q I rx hs pl pu q;rcases q with q | q
 ·exact h pins s σ H x v vl vu lo hi sl Q I rx hs pl pu q
 ·exact h' pins s σ H x v vl vu lo hi sl Q I rx hs pl pu q
noncomputable def tSl(r:V->Option Int->Option Int->Hp->VK->Prop)(te:TE)(tl th:TO):TE:=fun σ H Q=>te σ H fun x H1=>tl σ H1 fun l H2=>th σ H2 fun u H3=>r x l u H3 Q
theorem Q8n{r:V->Option Int->Option Int->Hp->VK->Prop}(hr:SlR X r)(he:PE X e te)(hl:PO X lo tl)(hu:PO X hi th):PE X (.Subscript e (.Slice lo hi none p2) pos) (tSl r te tl th):=by
 intro pins s σ H Q I h;refine Subscript_ (thn (he pins s σ H _ I h) fun v s1 ⟨x,H1,I1,r1,q1⟩=>?_);refine wpAny_Slice (thn (hl pins s1 σ H1 _ I1 q1) fun vl s2 ⟨l,H2,I2,pl,q2⟩=>thn (hu pins s2 σ H2 _ I2 q2) fun vu s3 ⟨u,H3,I3,pu,q3⟩=>?_);rw[evalPart_none];refine Zh ?_;have I4:Inv X pins σ H3 { s3 with heap:=s3.heap.push { cls:=.type "slice",data:=.fields #[vl,vu,.none] } }:=I3.kept (t':=s3.toks) fun b ob q=>Zb _ q;obtain⟨T,id,hT,ht,hg⟩:=hr pins { s3 with heap:=s3.heap.push { cls:=.type "slice",data:=.fields #[vl,vu,.none] } } σ H3 x v vl vu l u s3.heap.objs.size Q I4 r1 (Heap.IsSliceOf.new ..) pl pu q3;show wpAny (model X.prog X.w) X.A (subscriptTail e (.Slice lo hi none p2) v (.ref s3.heap.objs.size)) (EP X pins σ Q) X.xe { s3 with heap:=s3.heap.push { cls:=.type "slice",data:=.fields #[vl,vu,.none] } };exact tail_any (ops:=[.ref s3.heap.objs.size,v]) ht hT hg (by with_unfolding_all rfl)
noncomputable def cutV(xs:List V)(lo hi:Option Int):List V:=(xs.drop (HT.sIx xs.length 0 lo)).take (HT.sIx xs.length xs.length hi-HT.sIx xs.length 0 lo)
theorem Q2h(xs:List V)(lo hi:Option Int):(cutV xs lo hi).length<=xs.length:=by
 unfold cutV;rw[ZU,length_drop];omega
noncomputable def rSlT(K:Frag):V->Option Int->Option Int->Hp->VK->Prop:=fun x lo hi H Q=>∃ a xs,x=.ref a/\SqT K H a xs /\
 ¬ (HT.sIx xs.length 0 lo=0/\HT.sIx xs.length xs.length hi=xs.length)/\∀ p,H p=none->Q (.ref p) (upd H p (.tup (cutV xs lo hi)))
theorem QbG:SlR X (rSlT X.K):=by
 intro pins s σ H x v vl vu lo hi sl Q I rx hs pl pu h;obtain⟨a,xs,rfl,hx,hw,q⟩:=h;cases rx;obtain⟨its,r,ht,hz⟩:=I.tuple hx;have hlen:its.toArray.size=xs.length:=by rw[ZH];exact r.length.symm
 refine⟨"tuple",_,ZI.lookup,ht.typeIs,?_⟩;refine HT.getItem_tuple_cut ht hs pl pu (by rw[hlen];exact hw) ?_ (by rw[hlen];exact hz)
 rw[hlen];refine⟨.ref s.heap.objs.size,_,I.laid (t':=s.toks) (o:=.tup (cutV xs lo hi)) (fun b ob q=>Zb _ q) (Zz _) ?_,rfl,q _ (I.hok.fresh (Zz _))⟩;exact⟨Z7 (Q2h xs lo hi) hz,_,(r.drop (HT.sIx xs.length 0 lo)).take (HT.sIx xs.length xs.length hi-HT.sIx xs.length 0 lo),IsTup.new _ _⟩
end
noncomputable def ixN(n:Nat)(i:Int):Option Nat:=if 0<=i then (if i<n then some i.toNat else none) else if -(n:Int)<=i then some (i+n).toNat else none
noncomputable def atI{α:Type}(xs:List α)(i:Int):Option α:=(ixN xs.length i).bind fun j=>xs[j]?
theorem Qa5(h:ixN n i=some j):seqIndex? i n=some j/\j<n /\ -(n:Int)<=i/\i<n:=by
 unfold ixN at h;by_cases h0:0<=i
 ·rw[Zm h0]at h;by_cases h1:i<n
  ·rw[Zm h1]at h;have e:i.toNat=j:=Z1 h;exact⟨by rw[seqIndex_of h0 h1,e],by omega,by omega,h1⟩
  ·rw[Zj h1]at h;cases h
 ·rw[Zj h0]at h;by_cases h1:-(n:Int)<=i
  ·rw[Zm h1]at h;have e:(i+n).toNat=j:=Z1 h;exact⟨by rw[seqIndex_neg (by omega) h1,e],by omega,h1,by omega⟩
  ·rw[Zj h1]at h;cases h
theorem Q3f{α:Type}{xs:List α}{i:Int}{v:α}(h:atI xs i=some v):∃ j,seqIndex? i xs.length=some j/\xs[j]? = some v/\j<xs.length /\ -(xs.length:Int)<=i/\i<xs.length:=by
 unfold atI at h;cases e:ixN xs.length i with
 | none=>rw[e]at h;cases h
 | some j =>
  rw[e]at h;obtain⟨h1,h2,h3,h4⟩:=Qa5 e;exact⟨j,h1,h,h2,h3,h4⟩
theorem atI_last{α:Type}(xs:List α)(v:α):atI (xs++[v]) (-1)=some v:=by
 have hl:(xs++[v]).length=xs.length+1:=by simp
 have e:ixN (xs++[v]).length (-1)=some xs.length:=by
  unfold ixN;rw[hl,Zj (by decide),Zm (by omega)]
  congr 1;omega
 unfold atI;rw[e];show (xs++[v])[xs.length]? = some v;simp
noncomputable def zbB(b:Expr):Prop:=∀ o i,subscripted b false o i=operate [o,i] (getItem o i)
noncomputable def IxR(X:Cx)(r:R2):Prop :=
 ∀ (value slice:Expr) (pins:List (Addr×Obj)) (s:Shared) (σ:St) (H:Hp) (x y:V) (v u:Value) (Q:VK),Inv X pins σ H s->RelV x v->RelV y u->r x y H Q ->
  subscripted slice false v u=operate [v,u] (getItem v u)->wpAny (model X.prog X.w) X.A (subscriptTail value slice v u) (EP X pins σ Q) X.xe s
noncomputable def MtR(X:Cx)(id:String)(r:V->List V->Hp->VK->Prop):Prop :=
 ∀ (pins:List (Addr×Obj)) (s:Shared) (σ:St) (H:Hp) (x:V) (xs:List V) (v:Value) (us:List Value) (Q:VK),Inv X pins σ H s->RelV x v->Vals xs us->r x xs H Q ->
  wpAny (model X.prog X.w) X.A (call (.builtin id) (v::us)) (EP X pins σ Q) X.xe s
section
variable{X:Cx}{a b:Expr}{ta tb:TE}{pos:Pos}
theorem IxR.or(h:IxR X r)(h':IxR X r'):IxR X (fun x y H Q=>r x y H Q\/r' x y H Q):=by
 intro value slice pins s σ H x y v u Q I rx ry q hs;rcases q with q | q
 ·exact h value slice pins s σ H x y v u Q I rx ry q hs
 ·exact h' value slice pins s σ H x y v u Q I rx ry q hs
theorem MtR.or{id:String}{r r':V->List V->Hp->VK->Prop}(h:MtR X id r)(h':MtR X id r'):MtR X id (fun x xs H Q=>r x xs H Q\/r' x xs H Q):=by
 intro pins s σ H x xs v us Q I rx rs q;rcases q with q | q
 ·exact h pins s σ H x xs v us Q I rx rs q
 ·exact h' pins s σ H x xs v us Q I rx rs q
theorem pe_ix(hr:IxR X r)(ha:PE X a ta)(hb:PE X b tb)(hs:zbB b):PE X (.Subscript a b pos) (tOp r ta tb):=by
 intro pins s σ H Q I h;exact Subscript_ (binT ha hb I h fun v u s2 x y H2 I2 rx ry q=>hr a b pins s2 σ H2 x y v u Q I2 rx ry q (hs _ _))
noncomputable def rIxL(K:Frag):R2:=fun x y H Q=>∃ p xs i v,x=.ref p/\y=.int i/\SqL K H p xs/\atI xs i=some v/\Q v H
noncomputable def rIxT(K:Frag):R2:=fun x y H Q=>∃ p xs i v,x=.ref p/\y=.int i/\SqT K H p xs/\atI xs i=some v/\Q v H
noncomputable def rIxS:R2:=fun x y H Q=>∃ z i c,x=.str z/\y=.int i/\z.length<=sizeLine/\atI z.cps.toList i=some c/\Q (.str ⟨#[c]⟩) H
theorem Qa6:IxR X (rIxL X.K):=by
 intro value slice pins s σ H x y v u Q I rx ry h hs;obtain⟨p,xs,i,z,rfl,rfl,hq,he,q⟩:=h;cases rx;obtain⟨t,rfl⟩:=ry;obtain⟨its,r,pl,hz⟩:=I.list hq;obtain⟨j,h1,h2,h3,h4,h5⟩:=Q3f he;obtain⟨w,ew,rw'⟩:=r.get h2;have hl:=r.length;have hn:=line63;have fin:EP X pins σ Q w s:=⟨z,H,I,rw',q⟩;by_cases h0:0<=i
 ·have hj:i.toNat=j:=by
   rw[seqIndex_of h0 h5]at h1;exact Z1 h1
  exact item_listR pl.isList h0 (by omega) (by rw[hj];simpa using ew) fin hs
 ·have hj:(i+(its.toArray.size:Int)).toNat=j:=by
   rw[seqIndex_neg (by omega) h4]at h1
   rw[ZH,<- hl];exact Z1 h1
  exact subscriptTail_builtinR (x:=w) pl.isList.typeIs slot_list_getitem.lookup
   (wpAny_getItem_list_neg (Q:=fun r s'=>r=w/\EP X pins σ Q r s') pl.isList (by omega) (by rw[ZH] <;> omega) (by omega) (by rw[hj];simpa using ew) ⟨rfl,fin⟩) hs
theorem ix_tup:IxR X (rIxT X.K):=by
 intro value slice pins s σ H x y v u Q I rx ry h hs;obtain⟨p,xs,i,z,rfl,rfl,hq,he,q⟩:=h;cases rx;obtain⟨t,rfl⟩:=ry;obtain⟨its,r,pl,hz⟩:=I.tuple hq;obtain⟨j,h1,h2,h3,h4,h5⟩:=Q3f he;obtain⟨w,ew,rw'⟩:=r.get h2;have hl:=r.length;have hn:=line63;have fin:EP X pins σ Q w s:=⟨z,H,I,rw',q⟩;exact subscriptTail_builtinR (x:=w) pl.typeIs slot_tuple_getitem.lookup
  (getItem_tuple (j:=j) (Q:=fun r s'=>r=w/\EP X pins σ Q r s') pl (by omega) (by omega) (by rw[ZH,<- hl];exact h1) (by simpa using ew) ⟨rfl,fin⟩) hs
theorem ix_str:IxR X rIxS:=by
 intro value slice pins s σ H x y v u Q I rx ry h hs;obtain⟨z,i,c,rfl,rfl,hz,he,q⟩:=h;obtain⟨t,rfl⟩:=rx;obtain⟨t',rfl⟩:=ry;obtain⟨j,h1,h2,h3,h4,h5⟩:=Q3f he;have hl:z.cps.toList.length=z.length:=by simp[Str.length]
 rw[hl]at h1 h4 h5;have hn:=line63;exact tail_any (typeIs_str s z t) slot_str_getitem.lookup (getItem_str (c:=c) (by
  have e1:decide (i < -(2 ^ 63:Int))=false:=Zg (by omega)
  have e2:decide (i >= 2 ^ 63)=false:=Zg (by omega)
  rw[e1,e2,Bool.or_false]) (by rw[h1];simpa using h2) ⟨.str ⟨#[c]⟩,H,I.tok _,⟨_,rfl⟩,q⟩) hs
theorem Inv.lst(I:Inv X pins σ H s)(h:H p=some (.lst xs)) :
  ∃ (its:List Value) (n:Nat),Vals xs its/\s.heap.get? p=some { cls:=.type "list",data:=.seq its.toArray n }/\xs.length<=sizeLine:=by
 obtain⟨z,its,n,r,e⟩:=I.hok p _ h;exact⟨its,n,r,e,z⟩
noncomputable def rSetL:V->V->V->Hp->(Hp->Prop)->Prop:=fun o i v H Q=>∃ p xs k j,o=.ref p/\i=.int k/\H p=some (.lst xs)/\ixN xs.length k=some j/\Q (upd H p (.lst (xs.set j v)))
theorem Q3K(lo hi:Option Int)(n:Nat):(sliceBounds lo hi none n).1=((HT.sIx n 0 lo:Nat):Int)/\(sliceBounds lo hi none n).2.1=((HT.sIx n n hi:Nat):Int)/\(sliceBounds lo hi none n).2.2=1:=by
 refine⟨?_,?_,rfl⟩
 ·cases lo with
  | none=>simp[sliceBounds,HT.sIx]
  | some i =>
   simp only[sliceBounds,HT.sIx,Option.getD_none,show (1:Int) > 0 by decide,if_true]
   by_cases h:i<0
   ·simp only[h,if_true] <;> omega
   ·simp only[h,Yj] <;> omega
 ·cases hi with
  | none=>simp[sliceBounds,HT.sIx]
  | some i =>
   simp only[sliceBounds,HT.sIx,Option.getD_none,show (1:Int) > 0 by decide,if_true]
   by_cases h:i<0
   ·simp only[h,if_true] <;> omega
   ·simp only[h,Yj] <;> omega
theorem Q3g(its:List Value)(lo hi:Option Int):slicePick its.toArray lo hi none=((its.drop (HT.sIx its.length 0 lo)).take (HT.sIx its.length its.length hi-HT.sIx its.length 0 lo)).toArray:=by
 obtain⟨h1,h2,h3⟩:=Q3K lo hi its.toArray.size;unfold slicePick;rw[h1,h2,h3];simp only[sliceRange_one,pick_run,ZH] <;> rfl
noncomputable def rSlL(K:Frag):V->Option Int->Option Int->Hp->VK->Prop:=fun x lo hi H Q=>∃ a xs,x=.ref a/\SqL K H a xs/\∀ p,H p=none->Q (.ref p) (upd H p (.lst (cutV xs lo hi)))
theorem Qa7:SlR X (rSlL X.K):=by
 intro pins s σ H x v vl vu lo hi sl Q I rx hs pl pu h;obtain⟨a,xs,rfl,hx,q⟩:=h;cases rx;obtain⟨its,r,ht,hz⟩:=I.list hx;have hlen:=r.length;refine⟨"list",_,slot_list_getitem.lookup,ht.isList.typeIs,?_⟩;refine wpAny_getItem_list_slice ht.isList hs pl pu .none (by simp) ?_ (by rw[ZH] <;> omega)
 rw[Q3g,<- hlen];refine⟨.ref s.heap.objs.size,_,I.laid (t':=s.toks) (o:=.lst (cutV xs lo hi)) (fun b ob q=>Zb _ q) (Zz _) ?_,rfl,q _ (I.hok.fresh (Zz _))⟩;exact⟨Z7 (Q2h xs lo hi) hz,_,0,(r.drop (HT.sIx xs.length 0 lo)).take (HT.sIx xs.length xs.length hi-HT.sIx xs.length 0 lo),Zs _ rfl⟩
theorem Q0T:CallR X (.builtin "len") (fun xs H Q=>∃ p ys,xs=[.ref p]/\(SqL X.K H p ys\/SqT X.K H p ys)/\Q (.int ys.length) H):=by
 intro pins s σ H xs us Q I r h;obtain⟨p,ys,rfl,hq,q⟩:=h;obtain⟨u,rfl,rx⟩:=vals1 r;cases rx;have hn:=line63;rcases hq with hq | hq
 ·obtain⟨its,r',pl,hz⟩:=I.list hq;have hlen:=r'.length;exact Calls.call_len_list pl.isList (by simp only[ZH] <;> omega) ⟨.int ys.length,H,I.tok _,⟨s.toks+1,by rw[ZH,hlen]⟩,q⟩
 ·obtain⟨its,r',pl,hz⟩:=I.tuple hq;have hlen:=r'.length;exact len_tuple pl (by simp only[ZH] <;> omega) ⟨.int ys.length,H,I.tok _,⟨s.toks+1,by rw[ZH,hlen]⟩,q⟩
theorem Q3L:CallR X (.builtin "len") (fun xs H Q=>∃ z,xs=[.str z]/\z.length<=sizeLine/\Q (.int z.length) H):=by
 intro pins s σ H xs us Q I r h;obtain⟨z,rfl,hz,q⟩:=h;obtain⟨u,rfl,t,rfl⟩:=vals1 r;have hn:=line63;exact len_str (by omega) ⟨.int z.length,H,I.tok _,⟨_,rfl⟩,q⟩
theorem CallR.or{r r':List V->Hp->VK->Prop}(h:CallR X f r)(h':CallR X f r'):CallR X f (fun xs H Q=>r xs H Q\/r' xs H Q):=by
 intro pins s σ H xs us Q I rs q;rcases q with q | q
 ·exact h pins s σ H xs us Q I rs q
 ·exact h' pins s σ H xs us Q I rs q
theorem Q3h:CallR X (.type "tuple") (fun xs H Q=>∃ p ys,xs=[.ref p]/\((SqL X.K H p ys/\∀ l,H l=none->Q (.ref l) (upd H l (.tup ys)))\/(SqT X.K H p ys/\Q (.ref p) H))):=by
 intro pins s σ H xs us Q I r h;obtain⟨p,ys,rfl,h⟩:=h;obtain⟨u,rfl,rx⟩:=vals1 r;cases rx;rcases h with ⟨hq,q⟩ | ⟨hq,q⟩
 ·obtain⟨its,r',pl,hz⟩:=I.list hq;have hlen:=r'.length;refine call_tuple_list pl.isList (fun h' kp=>?_) (by simp only[ZH] <;> omega)
  have I1:Inv X pins σ H { s with heap:=h' }:=I.kept (t':=s.toks) kp;have I2:Inv X pins σ (upd H h'.objs.size (.tup ys)) { s with heap:=h'.push { cls:=.type "tuple",data:=.seq its.toArray } } :=
   I1.laid (t':=s.toks) (fun b o e=>Zb _ e) (Zz _) (show ObjOk X.prog X.w _ _ _ (.tup ys) from⟨hz,its,r',IsTup.new _ _⟩)
  exact⟨.ref h'.objs.size,_,I2,rfl,q _ (I1.hok.fresh (Zz _))⟩
 ·obtain⟨its,r',pl,hz⟩:=I.tuple hq;exact call_tuple_same pl ⟨.ref p,H,I,rfl,q⟩
noncomputable def tyV(K:Frag)(T:String)(x:V)(H:Hp):Prop:=match x with
 | .str _=>T = "str"
 | .int _=>T = "int"
 | .ref p=>(T = "list" /\ ∃ xs,SqL K H p xs)\/(T = "tuple" /\ ∃ o,K.lookup p=some o/\o.cls=.type "tuple" /\ o.dict=none) \/
   (T = "dict" /\ ((∃ kvs,H p=some (.dK kvs))\/∃ kvs,H p=some (.dT kvs)))\/(T = "set" /\ ∃ S n,H p=some (.set S n))
 | _=>False
theorem Q9v(I:Inv X pins σ H s)(r:RelV x v)(ty:tyV X.K T x H) :
  s.TypeIs v T/\∀ a,v=.ref a->∃ ob,s.heap.get? a=some ob/\ob.dict=none:=by
 cases x with
 | str z =>
  obtain⟨t,rfl⟩:=r;cases (show T = "str" from ty);exact⟨typeIs_str s z t,fun _ e=>nomatch e⟩
 | int i =>
  obtain⟨t,rfl⟩:=r;cases (show T = "int" from ty);exact⟨typeIs_int s i t,fun _ e=>nomatch e⟩
 | ref p =>
  cases r;rcases ty with ⟨rfl,xs,hq⟩ | ⟨rfl,o,hk,hc,hd⟩ | ⟨rfl,hk⟩ | ⟨rfl,S,n,hk⟩
  ·obtain⟨its,_,pl,_⟩:=I.list hq;refine⟨pl.isList.typeIs,fun a e=>?_⟩;cases e;obtain⟨o,n,e,c,hd,_⟩:=pl;exact⟨o,e,hd⟩
  ·refine⟨⟨o,I.kIn p o hk,hc⟩,fun a e=>?_⟩;cases e;exact⟨o,I.kIn _ o hk,hd⟩
  ·have z:∃ o,s.heap.get? p=some o/\o.ExactDict:=by
    rcases hk with ⟨kvs,hk⟩ | ⟨kvs,hk⟩
    ·obtain⟨_,_,_,_,o,_,_,e,ex,_⟩:=I.hok p _ hk;exact⟨o,e,ex⟩
    ·obtain⟨_,_,_,_,o,_,_,e,ex,_⟩:=I.hok p _ hk;exact⟨o,e,ex⟩
   obtain⟨o,e,ex⟩:=z;refine⟨⟨o,e,ex.1⟩,fun a e2=>?_⟩;cases e2;exact⟨o,e,ex.2.1⟩
  ·obtain⟨o,_,_,_,e,ex,_⟩:=I.hok p _ hk;refine⟨⟨o,e,ex.1⟩,fun a e2=>?_⟩;cases e2;exact⟨o,e,ex.2.1⟩
 | _=>exact False.elim ty
noncomputable def tBM0(K:Frag)(T:String)(r:V->List V->Hp->VK->Prop)(to:TE):TE:=fun σ H Q=>to σ H fun x H1=>tyV K T x H1/\r x [] H1 Q
noncomputable def tBM(K:Frag)(T:String)(r:V->List V->Hp->VK->Prop)(to:TE)(t:TA):TE:=fun σ H Q=>to σ H fun x H1=>tyV K T x H1/\t σ H1 fun xs H2=>r x xs H2 Q
variable{o e:Expr}{es:List Expr}{to:TE}{t:TA}{name:Str}{apos cpos:Pos}{T id:String}{r:V->List V->Hp->VK->Prop}
theorem Q9w(pa:PlainAttrs T)(slot:Slot T name id)(hty:typeOf (.builtin id)=pure (.type "method_descriptor"))(hm:MtR X id r)(ho:PE X o to)
  (hbase:attributeBase o name X.env (eval o X.env)=eval o X.env:=by rfl) (hline:(apos.endLine==cpos.line)=true:=by rfl):PE X (.Call (.Attribute o name apos) [] [] cpos) (tBM0 X.K T r to):=by
 intro pins s σ H Q I h;refine wpAny_Call_method0_late hbase hline (thn (ho pins s σ H _ I h) fun v s1 ⟨x,H1,I1,r1,ty,q1⟩=>?_);obtain⟨h1,h2⟩:=Q9v I1 r1 ty;exact⟨T,id,pa,slot,hty,h1,h2,Calls.callWith_builtin rfl (PySem.evalArgs_none (hm pins s1 σ H1 x [] v [] Q I1 r1 .nil q1))⟩
theorem pe_bm(pa:PlainAttrs T)(slot:Slot T name id)(hty:typeOf (.builtin id)=pure (.type "method_descriptor"))(hm:MtR X id r)(ho:PE X o to)(ha:PA X (e::es) t)
  (hbase:attributeBase o name X.env (eval o X.env)=eval o X.env:=by rfl)
  (hfew:((backTo cpos (starEach (e::es) X.env)).all (fun x=>!x.1)&&(backToKw cpos (keywordEach [] X.env)).all (fun x=>x.1.isSome)
   && decide ((e::es).length+([]:List Keyword).length+(if ([]:List Keyword).isEmpty then 0 else 1)<30))=true:=by rfl)
  (hline:(apos.endLine==cpos.line)=true:=by rfl) (hs:starEach (e::es) X.env=(false,eval e X.env)::starEach es X.env:=by rfl) (hplain:(backTo cpos (starEach es X.env)).any (·.1)=false:=by rfl) :
  PE X (.Call (.Attribute o name apos) (e::es) [] cpos) (tBM X.K T r to t):=by
 intro pins s σ H Q I h;refine wpAny_Call_method_late hbase hfew hline rfl (thn (ho pins s σ H _ I h) fun v s1 ⟨x,H1,I1,r1,ty,q1⟩=>?_);obtain⟨h1,h2⟩:=Q9v I1 r1 ty;refine⟨T,id,pa,slot,hty,h1,h2,?_⟩;have hA:=ha cpos pins s1 σ H1 _ I1 q1;rw[hs]at hA ⊢;refine Calls.callWith_builtin (by show (false||(backTo cpos (starEach es X.env)).any (·.1))=false;rw[hplain] <;> rfl) (Calls.evalArgs_plain ?_)
 exact thn hA fun us s2 ⟨vs,H2,I2,r2,q2⟩=>hm pins s2 σ H2 x vs v us Q I2 r1 r2 q2
end
noncomputable def MtM(X:Cx)(id:String)(r:V->List V->Hp->VK->Prop):Prop :=
 ∀ (pins:List (Addr×Obj)) (s:Shared) (σ:St) (H:Hp) (x:V) (xs:List V) (v:Value) (us:List Value) (Q:VK),Inv X pins σ H s->RelV x v->Vals xs us->r x xs H Q ->
  wpAny (model X.prog X.w) X.A (call (.builtin id) (v::us)) (EP X pins σ Q) X.xe s
theorem Vals.one(h:Vals [x] us):∃ u,us=[u]/\RelV x u:=by
 cases h with | cons r t=>cases t;exact⟨_,rfl,r⟩
theorem Vals.two(h:Vals [x,y] us):∃ u v,us=[u,v]/\RelV x u/\RelV y v:=by
 cases h with | cons r t=>cases t with | cons q t=>cases t;exact⟨_,_,rfl,r,q⟩
theorem Vals.zero:∀ {us:List Value},Vals [] us->us=[]
 | _,.nil=>rfl
theorem Vals.dropLast(h:Vals xs us):Vals xs.dropLast us.dropLast:=by
 induction h with
 | nil=>exact .nil
 | cons r t ih =>
  cases t with
  | nil=>exact .nil
  | cons q t'=>exact .cons r ih
theorem Vals.reverse(h:Vals xs us):Vals xs.reverse us.reverse:=by
 induction h with
 | nil=>exact .nil
 | cons r t ih=>rw[reverse_cons,reverse_cons];exact Vals.append ih (.cons r .nil)
section
variable{X:Cx}{pins:List (Addr×Obj)}{σ:St}{H:Hp}{s:Shared}{l b:Addr}{xs ys zs:List V}
theorem Inv.lset{its its':List Value}{n:Nat}{f:Array Value->Array Value}{t':Nat}(I:Inv X pins σ H s)(hH:H l=some (.lst xs))
  (e:s.heap.get? l=some { cls:=.type "list",data:=.seq its.toArray n }) (hf:f its.toArray=its'.toArray) (hv:Vals ys its') (hz:ys.length<=sizeLine) :
  Inv X pins σ (upd H l (.lst ys)) { s with heap:=s.heap.update l (Obj.mapSeq f),toks:=t' }:=by
 have q:=PySem.IsL.update e f;rw[hf]at q;refine I.write (x:=l) (e:=l) (by rw[hH];exact trivial) (.inl rfl) (fun b' u hb hu=>(Yd s.heap (Obj.mapSeq f) (ZV hb)).trans hu) ⟨_,q⟩ ?_
 exact⟨hz,its',_,hv,q⟩
theorem Inv.lnew(I:Inv X pins σ H s)(hv:Vals ys its)(hz:ys.length<=sizeLine) :
  Inv X pins σ (upd H s.heap.objs.size (.lst ys)) { s with heap:=s.heap.push { cls:=.type "list",data:=.seq its.toArray },toks:=t' } :=
 I.laid (fun _ _ q=>Zb _ q) (Zz _) ⟨hz,its,0,hv,Zs _ rfl⟩
theorem Inv.fresh(I:Inv X pins σ H s):H s.heap.objs.size=none:=I.hok.fresh (Zz _)
theorem Inv.lstM(I:Inv X pins σ H s)(hH:H l=some (.lst xs)):xs.length<=sizeLine/\∃ (its:List Value) (n:Nat),Vals xs its/\xs.length=its.length/\s.heap.get? l=some { cls:=.type "list",data:=.seq its.toArray n }:=by
 obtain⟨z,its,n,r,e⟩:=I.hok l _ hH;exact⟨z,its,n,r,r.length,e⟩
theorem notLongL(h:n<=sizeLine):Builtin.List.listTooLong n=false:=by
 unfold Builtin.List.listTooLong;exact Zg (by omega)
end
section
variable{X:Cx}
noncomputable def rAppend:V->List V->Hp->VK->Prop:=fun x vs H Q=>∃ l xs y,x=.ref l/\vs=[y]/\H l=some (.lst xs)/\xs.length<sizeLine/\Q .non (upd H l (.lst (xs++[y])))
theorem Q6t:MtM X "list.append" rAppend:=by
 intro pins s σ H x vs v us Q I rx rv h;obtain⟨l,xs,y,rfl,rfl,hH,hz,q⟩:=h;cases rx;obtain⟨u,rfl,ru⟩:=rv.one;obtain⟨z,its,n,r,hl,e⟩:=I.lstM hH;refine call_meets F.slot_list_append ⟨_,e,rfl⟩ F.entry_list_append (F.args_list_append_2 _ _) (PySem.list_append l its.toArray n u (by rw[ZH];omega)) ⟨e,?_⟩
 refine⟨.non,_,I.lset (its':=its++[u]) hH e (by simp) (r.append (.cons ru .nil)) ?_,rfl,q⟩
 rw[Zd,List.length_singleton];omega
noncomputable def rPop:V->List V->Hp->VK->Prop:=fun x vs H Q=>∃ l xs y,x=.ref l/\vs=[]/\H l=some (.lst xs)/\xs[xs.length-1]? = some y/\Q y (upd H l (.lst xs.dropLast))
noncomputable def rReverse:V->List V->Hp->VK->Prop:=fun x vs H Q=>∃ l xs,x=.ref l/\vs=[]/\H l=some (.lst xs)/\Q .non (upd H l (.lst xs.reverse))
noncomputable def rClear:V->List V->Hp->VK->Prop:=fun x vs H Q=>∃ l xs,x=.ref l/\vs=[]/\H l=some (.lst xs)/\Q .non (upd H l (.lst []))
end
section
variable{prog:Program}{w:World}{A:Around}{E:Value->Shared->Prop}{s:Shared}
end
section
variable{X:Cx}
end
end L2
namespace Att
open PySem PySem.W PySem.Calls PyProof.Rows
theorem Q2i:∀ (ns:List Int) (vs:List Value),WellAll P h vs (ns.map WData.int)->IntsAre vs ns:=by
 intro ns
 induction ns with
 | nil =>
  intro vs w;rw[map_nil]at w;cases w;exact .nil
 | cons n ns ih =>
  intro vs w;rw[Z8]at w;cases w with
  | cons a b =>
   cases a;exact .cons _ _ (ih _ b)
theorem Q6u{l:OpenLaw}{n:Nat}(hn:l.most=some n){P:Params}{h:Heap}{args:List WData}{vals:List Value}
  (hpre:l.row.toRowW.claim.pre args=true) (hwl:WellAll P h vals args) :
  ∃ a vs ns,vals=[Value.ref a]/\args=[WData.list (ns.map WData.int)]/\h.get? a=some { cls:=.type "list",data:=.seq vs.toArray }/\IntsAre vs ns/\ns.length<=n:=by
 have hsh:WShape.hasAll [] args [.list .int]=true:=(pre_splitW hpre).1;have hc:l.pre.holds [] { args:=args }=true:=(pre_splitW hpre).2;obtain⟨d,r,rfl,h1,h2⟩:=hasAllW_cons hsh;obtain rfl:=hasAllW_nil h2;obtain⟨xs,rfl,h3⟩:=hasW_list h1;obtain⟨ns,rfl⟩:=items_int h3;have hlen:ns.length<=n:=by
  unfold OpenLaw.pre at hc;have h4:(WTm.not (.lt (.lit (.int (n:Int))) (.len (.arg 0)))).holds [] { args:=[.list (ns.map .int)] }=true:=by
   have h4:=(holds_andW hc).1;rw[hn]at h4;exact h4
  have h5:=condW_of h4 (w_not (w_lt w_lit (w_len_list (w_arg rfl))));rw[Zi]at h5;refine le_of_not_lt fun q=>?_;have q':(n:Int)<((ns.length:Nat):Int):=by omega
  first
   | (rw[Ze q']at h5;exact absurd h5 (by decide))
   | (simp at h5;omega)
 cases hwl with
 | cons w1 w2 =>
  cases w2;cases w1 with
  | list ho hall=>exact⟨_,_,ns,rfl,rfl,ho,Q2i ns _ hall,hlen⟩
theorem Q6v(l:OpenLaw)(args:List WData):l.row.toRowW.claim.post args (.bool true) args=true :=
 postW_of (r:=l.row.toRowW) (X:=(true==true))
  (show WShape.has [] (.bool true) .bool=true by first | rfl | decide | simp[WShape.has,WShape.arms,WShape.armsAll])
  (show (WTm.eq .res (.lit (.bool true))).value [] { args:=args,res:=some (.bool true),after:=args }=some (.bool (true==true)) from w_eq_bool (w_res rfl) w_lit) rfl
theorem attach_call{l:OpenLaw}{n:Nat}{q:Program}{loose:List Str}{XP:(Str->Option Value)->Heap->Prop}{YP:World->Heap->Prop}{d:DefRec}
  (hn:l.most=some n) (hdf:d.params.defaults=[])
  (call:∀ (w:World) (s₀ s₁:Shared) (mg mb:Str->Option Value) (fa:Addr) (o:Obj) (pm cd doc:Value) (a:Addr) (vs:List Value) (ns:List Int),
   Ground q loose [] XP w s₀ mg mb s₁.heap->YP w s₁.heap ->
   s₁.heap.get? fa=some o->o.data=.func (docDef d.name d.params d.body d.scope pm cd doc)->s₁.heap.CodeRec cd d.name->mg d.name=some (.ref fa) ->
   s₁.heap.get? a=some { cls:=.type "list",data:=.seq vs.toArray }->IntsAre vs ns->ns.length<=n->s₁.gens = #[] ->
   codeAny (model l.prog w) callerA (.call (.ref fa) ⟨[.ref a],[]⟩) (fun r s'=>r=.ok (.ret (.bool true))/\OldK s₁.heap s'.heap/\s'.os=s₁.os/\AllBare s'.gens) s₁) :
  WalkO q loose XP YP l.row.toRowW d [] (fun f vs=>PySem.call f vs):=by
 intro w s₀ s₁ mg mb G Y fa o pm cd doc dV kV ho hd hcd hD hmg hg args vals as hpre hlay hrd hwl hlo;obtain rfl:dV=.none:=Dflts.none hD hdf;obtain rfl:kV=.none:=Dflts.noKw hD;obtain⟨a,vs,ns,rfl,rfl,hobj,hints,hlen⟩:=Q6u hn hpre hwl;refine enter_call (codeAny_mono (call w s₀ s₁ mg mb fa o pm cd doc a vs ns G Y ho (fd_plain hd) hcd hmg hobj hints hlen hg) fun r s' hq=>?_);obtain⟨rfl,h2,h3,h4⟩:=hq;exact⟨.inl ⟨.bool true,.bool true,[],rfl,fun _=>rfl,.bool true,Q6v l _,fun _=>⟨List.Pairwise.nil,fun _ hm=>(nomatch hm)⟩⟩,h2,h3,h4⟩
section
variable{prog:Program}{w:World}{A:Around}{E:Value->Shared->Prop}{s:Shared}{K:Frag}
end
end Att
namespace L2
open PySem PySem.Spec PyProof.Rows
theorem Q3M:∀ {vs:List Value} {ns:List Int},IntsAre vs ns->Vals (ns.map V.int) vs
 | _,_,.nil=>.nil
 | _,_,.cons n t h=>.cons ⟨t,rfl⟩ (Q3M h)
noncomputable def Only(H:Hp):Prop:=∀ b,H b=none\/∃ o xs,H b=some (.frz o (.lst xs))
theorem Q8o{P:Program}{w:World}{K:Frag}{mg mb:Str->Option Value}{CX:CXT}{k:Nat}{fa a:Addr}{fd:FuncData}{x:Str}{sp:Sp}{s₁:Shared}{vs:List Value}{ns:List Int}
  (KX:K.In s₁.heap) (hns:s₁.heap.Ns mainGlobals mg) (hb:s₁.heap.Ns builtinsNs mb) (hbb:∀ x:Str,x ≠ "__name__" -> mb x=bootBuiltins x) (hlim:s₁.heap.NoLimit) (hg:s₁.gens = #[])
  (ha:s₁.heap.get? a=some { cls:=.type "list",data:=.seq vs.toArray }) (hi:IntsAre vs ns) (hl:ns.length<=sizeLine) (hr:Room k callerA)
  (F:∀ base:Heap,K.In base->base.Ns mainGlobals mg->FnOk P w K mg base CX k fa fd [x] sp) (hbind:∀ (s:Shared) (u:Value),BindsTo s fd ⟨[u],[]⟩ [(x,u)])
  (hsp:∀ H:Hp,Only H->SqL K H a (ns.map V.int)->sp [.ref a] H (fun v _=>v=.bl true) fun _ _ _=>False)
  (hCX:∀ H e s',CX [] H s₁ (fun _ _ _=>False) e s'->False) :
  codeAny (model P w) callerA (.call (.ref fa) ⟨[.ref a],[]⟩) (fun r s'=>r=.ok (.ret (.bool true))/\OldK s₁.heap s'.heap/\s'.os=s₁.os/\AllBare s'.gens) s₁:=by
 have rv:=Q3M hi;have lenV:=hi.length
 -- from an abstract heap in which nothing but the script may be tracked
 have core:∀ H:Hp,Only H->SqL K H a (ns.map V.int)->HOk P w H s₁.heap->(∀ b,H b≠none->b=a)->(H a≠none->K.lookup a=none) ->
   codeAny (model P w) callerA (.call (.ref fa) ⟨[.ref a],[]⟩) (fun r s'=>r=.ok (.ret (.bool true))/\OldK s₁.heap s'.heap/\s'.os=s₁.os/\AllBare s'.gens) s₁:=by
  intro H hO hS hok hA hK;have base_of:∀ {b:Addr} {o:Obj},s₁.heap.get? b=some o->H b=none->(hidT s₁.heap H).get? b=some o:=fun e n=>Q8g e n;have noA:∀ {b:Addr} {o:Obj} {es:Array DictEntry} {ep:Nat},s₁.heap.get? b=some o->o.data=.dict es ep->H b=none:=fun{b o es ep} e d=>by
   cases q:H b with
   | none=>rfl
   | some u =>
    have e':b=a:=hA b (by rw[q];simp)
    subst e';rw[ha]at e;cases e;have d':Data.seq vs.toArray _=Data.dict es ep:=d;cases d'
  have nsK:∀ {b:Addr} {m:Str->Option Value},s₁.heap.Ns b m->(hidT s₁.heap H).Ns b m:=fun{b m} ⟨o,es,ep,e,d,r⟩=>⟨o,es,ep,base_of e (noA e d),d,r⟩;have hKb:K.In (hidT s₁.heap H):=fun b o e=>base_of (KX b o e) (by
   cases q:H b with
   | none=>rfl
   | some u =>
    have e':b=a:=hA b (by rw[q];simp)
    subst e';rw[hK (by rw[q];simp)]at e;cases e)
  have hM:Mod K mg (hidT s₁.heap H):=⟨hKb,nsK hns,⟨mb,nsK hb,hbb⟩,let ⟨mc,h1,h2⟩:=hlim;⟨mc,nsK h1,h2⟩⟩;have e0:Env0 P w K mg (hidT s₁.heap H) callerA [] s₁ H:=⟨rfl,hM,fun b o e=>Q9U e,le_of_eq (Q6i _ _),trivial,fun b hb=>absurd (show b∈([]:List Addr) from hb) (by simp),hok,.of_eq hg⟩
  refine codeAny_mono ((F _ hKb (nsK hns)).run callerA [] s₁ H ⟨[.ref a],[]⟩ [.ref a] [.ref a] _ _ hr e0 (hbind s₁ (.ref a)) (.cons rfl .nil) (hsp H hO hS)) fun r s' h=>?_;cases r with
  | error e=>exact (hCX H e s' h).elim
  | ok fl =>
   cases fl with
   | next=>exact False.elim h
   | brk=>exact False.elim h
   | cont=>exact False.elim h
   | ret u =>
    obtain⟨v,H',os,bare,un,hok',r',q⟩:=h;have q':v=.bl true:=q;subst q';obtain rfl:u=Value.bool true:=r';refine⟨rfl,OldK.of_keep fun b o e=>?_,os,bare⟩;cases q:H b with
    | none=>exact un.keep b o e q (by intro z;exact absurd (show b∈([]:List Addr) from z) (by simp)) (by simp)
    | some u =>
     rcases hO b with z | ⟨ob,xs,z⟩
     ·rw[q]at z;cases z
     ·have z2:=un.frzs b ob _ z;obtain⟨e1,_⟩:=hok b _ z;obtain⟨e2,_⟩:=hok' b _ z2;rw[e]at e1;cases e1;exact e2
 cases hk:K.lookup a with
 | some o =>
  -- the script is one of the module's own objects
  have e:=KX a o hk;rw[ha]at e;cases e;refine core (fun _=>none) (fun _=>.inl rfl) (.inr ⟨_,vs.toArray,_,hk,rfl,rfl,rfl,by rw[ZH,lenV];exact hl,by simpa using rv⟩) (fun b u z=>by have z':(none:Option HO)=some u:=z;cases z') (fun b z=>absurd rfl z) fun z=>absurd rfl z
 | none =>
  refine core (fun b=>if b=a then some (.frz { cls:=.type "list",data:=.seq vs.toArray } (.lst (ns.map V.int))) else none) (fun b=>?_) (.inl (.inr ⟨{ cls:=.type "list",data:=.seq vs.toArray },Zm rfl⟩)) (fun b u z=>?_) (fun b z=>?_) fun _=>hk
  ·by_cases hb:b=a
   ·exact .inr ⟨_,_,Zm hb⟩
   ·exact .inl (Zj hb)
  ·by_cases hb:b=a
   ·have z':=(Zm hb).symm.trans z;cases z';subst hb;exact⟨ha,by rw[Zi];exact hl,vs,_,rv,ha⟩
   ·have z':=(Zj hb).symm.trans z;cases z'
  ·by_cases hb:b=a
   ·exact hb
   ·exact absurd (Zj hb) z
noncomputable abbrev KOf{K:Frag}{h:Heap}(_:K.In h):Frag:=K
theorem walk_of{l:OpenLaw}{n k:Nat}{q:Program}{loose:List Str}{XP:(Str->Option Value)->Heap->Prop}{YP:World->Heap->Prop}{d:DefRec}{K:Params->Frag}{CX:World->CXT}{sp:World->Sp}{x:Str}
  (hn:l.most=some n) (hn2:n<=sizeLine) (hdf:d.params.defaults=[]) (hr:Room k callerA)
  (hY:∀ (w:World) (h:Heap),YP w h->(K w.params).In h)
  (F:∀ (w:World) (mg:Str->Option Value) (fa:Addr) (h:Heap),(K w.params).In h->h.Ns mainGlobals mg->mg d.name=some (.ref fa) ->
   ∃ fd:FuncData,(∀ (s:Shared) (u:Value),BindsTo s fd ⟨[u],[]⟩ [(x,u)]) /\
    ∀ base:Heap,(K w.params).In base->base.Ns mainGlobals mg->FnOk l.prog w (K w.params) mg base (CX w) k fa fd [x] (sp w))
  (hsp:∀ (w:World) (H:Hp) (a:Addr) (ns:List Int),ns.length<=n->Only H->SqL (K w.params) H a (ns.map V.int)->sp w [.ref a] H (fun v _=>v=.bl true) fun _ _ _=>False)
  (hCX:∀ (w:World) (H:Hp) (s:Shared) (e:Value) (s':Shared),CX w [] H s (fun _ _ _=>False) e s'->False) :
  PySem.W.WalkO q loose XP YP l.row.toRowW d [] (fun f vs=>PySem.call f vs):=by
 refine Att.attach_call hn hdf fun w s₀ s₁ mg mb fa o pm cd doc a vs ns G Y ho hd hcd hmg hobj hints hlen hg=>?_;have KX:=hY w _ Y;obtain⟨fd,hb,hF⟩:=F w mg fa _ KX G.T.g hmg;exact Q8o KX G.T.g G.T.b G.T.builtins G.T.nolimit hg hobj hints (Z7 hlen hn2) hr hF hb (fun H hO hS=>hsp w H a ns hlen hO hS) fun H e s'=>hCX w H s₁ e s'
noncomputable def zc0(s:Stmt)(j:Nat):Stmt:=match s with
 | .ClassDef _ _ _ body _ _ _ _ _ _ _=>body.getD j (.Pass ⟨0,0,0,0⟩)
 | _=>.Pass ⟨0,0,0,0⟩
noncomputable def zac(s:Stmt):Arguments:=match s with
 | .FunctionDef _ a _ _ _ _ _ _ _ _=>a
 | _=>{ posonlyargs:=[],args:=[],vararg:=none,kwonlyargs:=[],kw_defaults:=[],kwarg:=none,defaults:=[] }
noncomputable def za8(s:Stmt):List Stmt:=match s with
 | .FunctionDef _ _ b _ _ _ _ _ _ _=>b
 | _=>[]
noncomputable def za2(s:Stmt):Scope:=match s with
 | .FunctionDef _ _ _ _ _ _ sc _ _ _=>sc
 | _=>{ kind:=.function,names:=[],isGenerator:=false,isCoroutine:=false }
noncomputable abbrev CX0:CXT:=fun _ _ _ _ _ _=>False
noncomputable abbrev E0:XK:=fun _ _ _=>False
theorem pass0:zbJ CX0 X E0:=fun _ _ _ _ _ _ _ h=>h.elim
structure Fun(K:Frag)(x qual:Str)(st:Stmt)(f:Addr)(fd:FuncData):Prop where
 ex:∃ (oc:Value) (od:Option Addr) (kV doc pm:Value) (an:Option Addr) (cdv ct:Value) (osl:Array (Option Value)),
  fd=fnOf x qual (zac st) (za8 st) (za2 st) .none kV doc pm an cdv ct/\K.lookup f=some ⟨oc,od,.func fd,osl⟩/\codeIn K cdv qual=true
 kp:keepIn K (.ref f)=true
section
variable{P:Program}{w:World}{K:Frag}{mg:Str->Option Value}{base:Heap}
theorem Fun.ok{x qual:Str}{st:Stmt}{f:Addr}{fd:FuncData}{N ps:List Str}{k:Nat}{sp:Sp}(F:Fun K x qual st f fd)(S:zat N ps (za2 st))(len:∀ vs H Q E,sp vs H Q E->vs.length=ps.length)
  (hbody:∀ (cdv:Value) (A:Around) (outer:List Env) (s:Shared) (H:Hp) (vs:List V) (Q:VK) (E:XK),Room k (A.deeper (envOfC qual (za2 st) s.heap.objs.size f cdv))->sp vs H Q E ->
   ∃ t,PSs (cxOf CX0 P w K mg base N qual (za2 st) f cdv A outer s H E).nox (za8 st) t/\t { nx:=fun _ H'=>Q .non H',rt:=Q } (start N vs) H):FnOk P w K mg base CX0 (k+1) f fd ps sp:=by
 obtain⟨oc,od,kV,doc,pm,an,cdv,ct,osl,rfl,lk,hcd⟩:=F.ex;refine fn_of lk hcd S len fun A outer s H vs Q E hr hsp=>?_;obtain⟨t,h,q⟩:=hbody cdv A outer s H vs Q E hr hsp;exact⟨t,h.nox,q⟩
theorem Fun.binds{x qual:Str}{st:Stmt}{f:Addr}{fd:FuncData}{ps:List Str}(F:Fun K x qual st f fd)
  (h:∀ (kV doc pm:Value) (an:Option Addr) (cdv ct:Value) (us:List Value),us.length=ps.length->bindArgs (fnOf x qual (zac st) (za8 st) (za2 st) .none kV doc pm an cdv ct) ⟨us,[]⟩=pure (ps.zip us)):Binds K fd ps []:=by
 obtain⟨oc,od,kV,doc,pm,an,cdv,ct,osl,rfl,lk,hcd⟩:=F.ex;exact .all (h kV doc pm an cdv ct)
theorem Q2U{x qual:Str}{st:Stmt}{f:Addr}{oc:Value}{od an:Option Addr}{osl:Array (Option Value)}{kV doc pm cdv ct:Value}(l:K.lookup f=some ⟨oc,od,.func (fnOf x qual (zac st) (za8 st) (za2 st) .none kV doc pm an cdv ct),osl⟩)
  (c:codeIn K cdv qual=true) (k:keepIn K (.ref f)=true):Fun K x qual st f (fnOf x qual (zac st) (za8 st) (za2 st) .none kV doc pm an cdv ct):=⟨⟨oc,od,kV,doc,pm,an,cdv,ct,osl,rfl,l,c⟩,k⟩
end
theorem small1000(h:n<=1000):n<sizeLine:=lt_of_le_of_lt h (by decide)
section
variable{X:Cx}
theorem pv(i:Nat)(hN:X.N[i]? = some x:=by rfl)(hv:Vis X.env.scope x:=by first | exact Or.inl rfl | exact Or.inr (Or.inl rfl) | exact Or.inr (Or.inr rfl))(hd:(x==("__debug__" : Str))=false:=by decide)
  (hcd:(x==("__classdict__" : Str))=false:=by decide):PE X (.Name x pos) (tVar i):=Q1N hN hv hd hcd
end
theorem iteF{A B:Prop}(h:B):if false=true then A else B:=by
 rw[Zj ZA];exact h
theorem iteT{A B:Prop}(h:A):if true=true then A else B:=by
 rw[Zm rfl];exact h
theorem ite2{c A B:Prop}[Decidable c](h1:c->A)(h2:¬ c->B):if c then A else B:=by
 by_cases h:c
 ·rw[Zm h];exact h1 h
 ·rw[Zj h];exact h2 h
noncomputable def Same(H H':Hp):Prop:=∀ b o,H b=some o->H' b=some o
theorem Same.trans(a:Same H H1)(b:Same H1 H2):Same H H2:=fun c o h=>b c o (a c o h)
theorem Same.free(e:Same H H')(h:H' l=Option.none):H l=Option.none:=by
 cases q:H l with
 | none=>rfl
 | some o =>
  rw[e l o q]at h;cases h
theorem Same.seq{K:Frag}{H H':Hp}{a:Addr}{xs:List V}(e:Same H H')(h:SqL K H a xs):SqL K H' a xs:=by
 rcases h with (h | ⟨o,h⟩) | h
 ·exact .inl (.inl (e _ _ h))
 ·exact .inl (.inr ⟨o,e _ _ h⟩)
 ·exact .inr h
section
variable{X:Cx}{pos:Pos}
noncomputable def tPar3(i j k:Nat)(ta:TA):TS:=fun D σ H=>ta σ H fun vs H1=>∃ v w u,vs=[v,w,u]/\D.nx (((σ.set i (some v)).set j (some w)).set k (some u)) H1
theorem Qa8{kt k2 pt2}(hc:X.calm=true)(hN:X.N.Nodup)(hi:X.N[i]? = some x)(hj:X.N[j]? = some y)(hk:X.N[k]? = some z)(hij:i≠j)(hik:i≠k)(hjk:j≠k)
  (hx:X.env.scope.names.lookup x=some .local) (hy:X.env.scope.names.lookup y=some .local) (hz:X.env.scope.names.lookup z=some .local) (ha:PA X [a,b,c] ta)
  (hw:swappedStores [.Tuple [.Name x px,.Name y py,.Name z pz] kt pt] (.Tuple [a,b,c] k2 pt2) X.env=pure (some [x,y,z]))
  (hs:swapsWithSole [.Tuple [.Name x px,.Name y py,.Name z pz] kt pt] (.Tuple [a,b,c] k2 pt2) pos.line X.env=pure false:=by rfl) :
  PS X (.Assign [.Tuple [.Name x px,.Name y py,.Name z pz] kt pt] (.Tuple [a,b,c] k2 pt2) pos) (tPar3 i j k ta):=by
 intro pins s σ H D I h;rw[exec_Assign_arm];refine Za (wpAny_standAt ?_);rw[hs];refine Za (Zh ?_);rw[Zj (by decide)]
 refine Za (Tuple_ (thn (ha _ pins s σ H _ I h) fun us s1 ⟨vs,H1,I1,r1,q1⟩=>?_));obtain⟨v,w,t,e1,q1⟩:=q1;subst e1;obtain⟨u1,u2,u3,rfl,rv,rw',rt⟩:∃ u1 u2 u3,us=[u1,u2,u3]/\RelV v u1/\RelV w u2/\RelV t u3:=by
  cases r1 with
  | cons p q =>
   cases q with
   | cons p' q' =>
    cases q' with
    | cons p2 q2 =>
     cases q2;exact⟨_,_,_,rfl,p,p',p2⟩
 refine ZP ?_ (by show 3<=sizeLine;decide)
 have I2:Inv X pins σ H1 { s1 with heap:=s1.heap.push { cls:=.type "tuple",data:=.seq [u1,u2,u3].toArray } }:=I1.kept (t':=s1.toks) fun b o e=>Zb _ e;rw[hw];refine Za (Zh ?_);show wpAny (model X.prog X.w) X.A (do rule "assign.swapped-stores";let items <- unpackItems (.ref s1.heap.objs.size) 3 none;assignInOrder [fun v=>bindName X.env z v,fun v=>bindName X.env y v,fun v=>bindName X.env x v] items.reverse;pure Flow.next) _ _ _
 refine Za (wpAny_rule (Za (unpackItems_tuple (items:=#[u1,u2,u3]) (I.ok.hd hc) (IsTup.new s1.heap _) fun h' hx'=>?_)));have I3:=I2.kept (h':=h') (t':=s1.toks) fun b o e=>hx' b o (ZD (Zn e)) e;show wpAny _ _ (assignInOrder [fun v=>bindName X.env z v,fun v=>bindName X.env y v,fun v=>bindName X.env x v] [u3,u2,u1] >>= fun _=>pure Flow.next) _ _ _;refine Za (assignInOrder_cons (wpAny_bindName (Q1e I3 hN hk (.inl hz) rt (fun s2 I4=>?_) (.inr hz))));refine assignInOrder_cons (wpAny_bindName (Q1e I4 hN hj (.inl hy) rw' (fun s3 I5=>?_) (.inr hy)));refine assignInOrder_cons (wpAny_bindName (Q1e I5 hN hi (.inl hx) rv (fun s4 I6=>assignInOrder_nil (Zh ?_)) (.inr hx)));rw[set_comm _ _ (ZV hjk),set_comm _ _ (ZV hik),set_comm _ _ (ZV hij)]at I6;exact⟨_,H1,I6,q1⟩
end
theorem PE.imp(h:PE X e T)(i:∀ σ H Q,T' σ H Q->T σ H Q):PE X e T':=fun pins s σ H Q I q=>h pins s σ H Q I (i σ H Q q)
theorem PT.imp(h:PT X e T)(i:∀ σ H Q,T' σ H Q->T σ H Q):PT X e T':=fun pins s σ H Q I q=>h pins s σ H Q I (i σ H Q q)
theorem PW.imp(h:PW X e T)(i:∀ σ H Q,T' σ H Q->T σ H Q):PW X e T':=fun wh pins s σ H Q I q=>h wh pins s σ H Q I (i σ H Q q)
theorem PA.imp(h:PA X e T)(i:∀ σ H Q,T' σ H Q->T σ H Q):PA X e T':=fun pos pins s σ H Q I q=>h pos pins s σ H Q I (i σ H Q q)
theorem PS.imp{X:Cx}{st:Stmt}{T T':TS}(h:PS X st T)(i:∀ D σ H,T' D σ H->T D σ H):PS X st T':=fun pins s σ H D I q=>h pins s σ H D I (i D σ H q)
theorem PSs.imp{X:Cx}{st:List Stmt}{T T':TS}(h:PSs X st T)(i:∀ D σ H,T' D σ H->T D σ H):PSs X st T':=fun pins s σ H D I q=>h pins s σ H D I (i D σ H q)
theorem PI.imp(h:PI X tg it T)(i:∀ σ H R,T' σ H R->T σ H R):PI X tg it T':=fun pins s σ H R I q=>h pins s σ H R I (i σ H R q)
theorem PG.imp(h:PG X tg T)(i:∀ v σ H R,T' v σ H R->T v σ H R):PG X tg T':=fun pins s σ H v u R I r q=>h pins s σ H v u R I r (i v σ H R q)
theorem OpR.imp{f:Value->Value->Sem Value}(h:OpR X f T)(i:∀ x y H Q,T' x y H Q->T x y H Q):OpR X f T':=fun pins s σ H x y v u Q I a b q=>h pins s σ H x y v u Q I a b (i x y H Q q)
theorem Inv.frozen(I:Inv X pins σ H s)(h:H a=some (.lst xs)) :
  ∃ o,Inv X pins σ (upd H a (.frz o (.lst xs))) s:=by
 obtain⟨z,its,n,r,e⟩:=I.hok a _ h;refine⟨{ cls:=.type "list",data:=.seq its.toArray n },I.un (h':=s.heap) (t':=s.toks) ⟨fun b u q _ _ _=>q,fun b u q _ _ _=>⟨u.slots,q⟩,fun b u _ q _=>?_,fun b u q _=>⟨u,q⟩,fun b ys q=>?_,fun b u ys q=>?_,fun b ps q=>?_⟩ fun b u q=>?_⟩
 ·rw[Q0f fun w=>by rw[w,h]at q;cases q];exact q
 ·rw[Q0f fun w=>by rw[w,h]at q;cases q];exact q
 ·rw[Q0f fun w=>by rw[w,h]at q;cases q];exact q
 ·exact⟨#[],by rw[Q0f (fun w=>by rw[w,h]at q;cases q),q];simp⟩
 ·by_cases hb:b=a
  ·subst hb;rw[Q0i]at q;cases q;exact⟨e,z,its,n,r,e⟩
  ·rw[Q0f hb]at q;exact (I.hok b u q).stay (fun _ _ _ q=>q) (fun c q=>by rw[Q0f fun w=>by rw[w,h]at q;cases q];exact q) fun c ys q=>by rw[Q0f fun w=>by rw[w,h]at q;cases q];exact q
noncomputable def tFrz(T:TE):TE:=fun σ H Q=>T σ H fun v H'=>∃ a xs,v=.ref a/\H' a=some (.lst xs)/\∀ o,Q v (upd H' a (.frz o (.lst xs)))
theorem Q6w(h:PE X e T):PE X e (tFrz T):=by
 intro pins s σ H Q I q;refine thn (h pins s σ H _ I q) fun u s' zz=>?_;obtain⟨v,H',I',r,a,xs,ev,ha,k⟩:=zz;obtain⟨o,I2⟩:=I'.frozen ha;exact⟨v,_,I2,r,k o⟩
theorem Q4u(env:Env):∀ (names:List (Str×NameKind)) (cs:List (Str×Addr)),(∀ y∈names,y.2=.free->∃ c,env.cells.lookup y.1=some c)->(∀ y c,cs.lookup y=some c->env.cells.lookup y=some c) ->
  ∃ cl:List (Str×Addr),(forIn names cs (fun x r=>match x with | (name,kind)=>if (kind==.free)=true then (cellOf env name >>= fun c=>pure (ForInStep.yield ((name,c)::r)):Sem _) else pure (ForInStep.yield r)))=(pure cl:Sem _) /\
   (∀ y c,cl.lookup y=some c->env.cells.lookup y=some c)/\(∀ y∈names,y.2=.free->∃ c,cl.lookup y.1=some c)/\(∀ y c,cs.lookup y=some c->∃ c',cl.lookup y=some c')
 | [],cs,_,h2=>⟨cs,rfl,h2,(fun _ h=>absurd h ZN),fun y c h=>⟨c,h⟩⟩
 | (n,k)::r,cs,h1,h2=>by
  have h1':∀ y∈r,y.2=.free->∃ c,env.cells.lookup y.1=some c:=fun y hy=>h1 y (Zo _ hy);by_cases hk:k=.free
  ·subst hk;obtain⟨c,hc⟩:=h1 (n,.free) Zl rfl;have h2':∀ y d,((n,c)::cs).lookup y=some d->env.cells.lookup y=some d:=fun y d e=>by
    rw[ZQ]at e;cases hy:y==n with
    | true =>
     rw[hy]at e;have:y=n:=by simpa using hy
     subst this;cases e;exact hc
    | false=>rw[hy]at e;exact h2 y d e
   obtain⟨cl,e,p1,p2,p3⟩:=Q4u env r ((n,c)::cs) h1' h2';refine⟨cl,?_,p1,fun y hy hf=>?_,fun y d hd=>?_⟩
   ·rw[forIn_cons];have ec:cellOf env n=pure c:=by unfold cellOf;rw[hc]
    simp only[beq_self_eq_true,if_true,ec,pure_bind];exact e
   ·rcases Zx.mp hy with q | q
    ·subst q;exact p3 n c (by simp[ZQ])
    ·exact p2 y q hf
   ·by_cases hy:y=n
    ·subst hy;exact p3 y c (by simp[ZQ])
    ·exact p3 y d (by rw[ZQ,show (y==n)=false by simpa using hy];exact hd)
  ·obtain⟨cl,e,p1,p2,p3⟩:=Q4u env r cs h1' h2;refine⟨cl,?_,p1,fun y hy hf=>?_,p3⟩
   ·rw[forIn_cons];have ek:(k==NameKind.free)=false:=by simpa using hk
    simp only[ek,ZT,Yj,pure_bind];exact e
   ·rcases Zx.mp hy with q | q
    ·subst q;exact absurd hf hk
    ·exact p2 y q hf
theorem Qa9(h:∀ y∈scope.names,y.2=.free->∃ c,env.cells.lookup y.1=some c) :
  ∃ cl,closureFor scope env=pure cl/\(∀ y c,cl.lookup y=some c->env.cells.lookup y=some c)/\(∀ y∈scope.names,y.2=.free->∃ c,cl.lookup y.1=some c):=by
 obtain⟨cl,e,p1,p2,_⟩:=Q4u env scope.names [] h (fun y c q=>by simp at q)
 refine⟨cl,?_,p1,p2⟩;unfold closureFor;simp only[bind_pure_comp,map_pure]at e ⊢
 first
  | exact e
  | (rw[e];rfl)
  | (simp only[e];rfl)
theorem Q8p{R:Result->Shared->Prop}(I:Nat->Shared->Prop){EE:Value->Shared->Prop}
  (hE:∀ e s',EE e s'->notedBy (model prog w) A env (fun e s'=>R (.error e) s') e s')
  (turn:∀ n s,I n s->wpAny (model prog w) A (pyNext it) (fun r s₁=>match r with
   | none=>R (.ok .next) s₁
   | some v=>wpAny (model prog w) A (letOwnedTupleGo target it v) (fun _ s₂=>wpAny (model prog w) A (assign target env v) (fun _ s₂ =>
     wpAny (model prog w) A (forIn ifs true fun c r=>if r=true then do let ok <- isTrue c env (eval c env);pure (ForInStep.yield ok) else pure (ForInStep.yield r)) (fun ok s₃ =>
      if ok=true then wpAny (model prog w) A (eval elt env) (fun x s₄ =>
       wpAny (model prog w) A (call (.builtin "list.append") [acc,x]) (fun _ s₅=>∃ m,m<n/\I m s₅) EE s₄) EE s₃
      else ∃ m,m<n/\I m s₃) EE s₂) EE s₂) EE s₁) EE s)
  (n:Nat) (h:I n s) :
  codeAny (model prog w) A (.compLoop (.ListComp elt [⟨target,iter,ifs,0⟩] scope pos) 0 it acc env) R s:=by
 refine codeAny_loop rfl I (fun n s hI=>?_) n h;show wpAny _ A ((compTurn (.ListComp elt [⟨target,iter,ifs,0⟩] scope pos) 0 it acc env).onRaise (fun x=>do noteFrame x env;theTreesLotGoes x)) _ _ s
 refine wpAny_noted (Z4 (E:=EE) ?_ (fun _ _ q=>q) fun e s' q=>hE e s' q);rw[compTurn_list];refine Za (wpAny_standAt (Za (Z4 (turn n s hI) (fun r s₁ h₁=>?_) fun _ _ h'=>h')));cases r with
 | none=>exact Zh h₁
 | some v =>
  refine Za (Z4 h₁ (fun _ s₂ h₂=>Za (Z4 h₂ (fun _ s₃ h₃=>Za (Z4 h₃ (fun ok s₄ h₄=>?_) fun _ _ h'=>h')) fun _ _ h'=>h')) fun _ _ h'=>h');cases ok with
  | false=>exact Zh ⟨rfl,h₄⟩
  | true =>
   exact Za (Za (Z4 h₄ (fun x s₅ h₅=>Za (Z4 h₅ (fun _ s₆ h₆=>Zh (Zh ⟨rfl,h₆⟩)) fun _ _ h'=>h')) fun _ _ h'=>h'))
noncomputable def za3(X:Cx)(scope:Scope)(N:List Str)(cl:List (Str×Addr))(C:Addr)(s₀:Shared)(H₀:Hp)(ex:List Addr)(E:Value->Shared->Prop):Cx :=
 {X with N:=N,s₀:=s₀,H₀:=H₀,env:=compEnvC scope cl C X.env,outer:=X.stack,ex:=ex,fn:=fun _=>false,pn:=[],xe:=E }
noncomputable def PIfs(X:Cx)(ifs:List Expr)(t:TT):Prop :=
 ∀ (pins:List (Addr×Obj)) (s:Shared) (σ:St) (H:Hp) (Q:Bool->Hp->Prop),Inv X pins σ H s->t σ H Q ->
  wpAny (model X.prog X.w) X.A (forIn ifs true fun c r=>if r=true then do let ok <- isTrue c X.env (eval c X.env);pure (ForInStep.yield ok) else pure (ForInStep.yield r)) (TP X pins σ Q) X.xe s
theorem Q8q:PIfs X [] (fun _ H Q=>Q true H):=fun _ _ _ H _ I q=>wpAny_tests_nil ⟨H,I,q⟩
theorem Q8r(h:PT X c t):PIfs X [c] t:=fun pins s σ H Q I q=>wpAny_tests_one (h pins s σ H Q I q)
structure zax(sc:Scope)(scope:Scope)(N:List Str)(k:Nat)(fn:List Str):Prop where
 kind:scope.kind=.function
 cell:∀ y∈scope.names,y.2≠.cell
 names:∀ y∈scope.names,y.2=.local->scope.names.lookup y.1=some .local
 free:∀ y∈scope.names,y.2=.free->sc.names.lookup y.1=some .cell\/sc.names.lookup y.1=some .free
 nd:N.Nodup
 tail:N.drop k=fn
 len:N.length=k+fn.length
 fnk:∀ y∈fn,(sc.names.lookup y=some .cell\/sc.names.lookup y=some .free)/\scope.names.lookup y=some .free
theorem Q0U{env:Env}:∀ {names:List (Str×NameKind)} {x:Str} {k:NameKind},
  (names.map fun(n,k)=>if (k==NameKind.free&&env.scope.kind==.function&&env.kindOf n==some .cell) then (n,NameKind.cell) else (n,k)).lookup x=some k->k=.cell\/k=.free->(∀ y∈names,y.2≠.cell)->(x,NameKind.free)∈names
 | [],_,_,h,_,_=>by simp at h
 | (n,k)::r,x,k',h,hk,hc=>by
  have ih:=@Q0U env r x k';rw[Z8,ZQ]at h;by_cases hx:x=n
  ·subst hx;by_cases hcnd:(k==NameKind.free&&env.scope.kind==.function&&env.kindOf x==some .cell)=true
   ·have:k=.free:=by
     simp only[Zc,Zt]at hcnd;exact hcnd.1.1
    subst this;exact Zl
   ·have e:(if (k==NameKind.free&&env.scope.kind==.function&&env.kindOf x==some .cell)=true then (x,NameKind.cell) else (x,k))=(x,k):=Zj hcnd
    rw[e]at h;simp at h;subst h;rcases hk with rfl | rfl
    ·exact absurd rfl (hc _ Zl)
    ·exact Zl
  ·have hne:(x==n)=false:=by simpa using hx
   refine Zo _ (ih ?_ hk fun y hy=>hc y (Zo _ hy));split at h
   ·rename_i w;split at w <;> simp_all
   ·exact h
theorem Q0V{env:Env}:∀ {names:List (Str×NameKind)} {x:Str},names.lookup x=some .free ->
  (names.map fun(n,k)=>if (k==NameKind.free&&env.scope.kind==.function&&env.kindOf n==some .cell) then (n,NameKind.cell) else (n,k)).lookup x=some .cell \/
  (names.map fun(n,k)=>if (k==NameKind.free&&env.scope.kind==.function&&env.kindOf n==some .cell) then (n,NameKind.cell) else (n,k)).lookup x=some .free
 | [],_,h=>by simp at h
 | (n,k)::r,x,h=>by
  have ih:=@Q0V env r x;rw[Z8];dsimp only;rw[ZQ]at h;by_cases hx:x=n
  ·subst hx;simp only[beq_self_eq_true]at h;cases h;by_cases hc:(NameKind.free==NameKind.free&&env.scope.kind==.function&&env.kindOf x==some .cell)=true
   ·rw[Zm hc];left;simp[ZQ]
   ·rw[Zj hc];right;simp[ZQ]
  ·have hne:(x==n)=false:=by simpa using hx
   rw[hne]at h;have ih':=ih h;by_cases hc:(k==NameKind.free&&env.scope.kind==.function&&env.kindOf n==some .cell)=true
   ·rw[Zm hc];simp only[ZQ,hne];exact ih'
   ·rw[Zj hc];simp only[ZQ,hne];exact ih'
theorem Q2V:∀ {names:List (Str×NameKind)},names.lookup x=some k->(x,k)∈names
 | [],h=>by simp at h
 | (n,j)::r,h=>by
  rw[ZQ]at h;by_cases hx:x=n
  ·subst hx;simp only[beq_self_eq_true]at h;cases h;exact Zl
  ·have hne:(x==n)=false:=by simpa using hx
   rw[hne]at h;exact Zo _ (Q2V h)
section
variable{X:Cx}{pins:List (Addr×Obj)}{σ:St}{H H':Hp}{s s':Shared}{scope:Scope}{N fn:List Str}{k:Nat}{cl:List (Str×Addr)}{C acc:Addr}{fp:List Addr}{E:Value->Shared->Prop}{h₁:Heap}{tk:Nat}
noncomputable def zbf(X:Cx)(σ:St)(ix:List Nat):St:=ix.map fun i=>(σ[i]?).getD none
theorem Inv.comp(I:Inv X pins σ H s)(ok:zax X.env.scope scope N k fn){ix:List Nat}(hix:ix.map (fun i=>X.N[i]?)=fn.map some)
  (p1:∀ y c,cl.lookup y=some c->X.env.cells.lookup y=some c) (p2:∀ y∈scope.names,y.2=.free->∃ c,cl.lookup y.1=some c)
  (hC:s.heap.objs.size<=C) (hns:h₁.Ns C fun _=>none) (old:∀ b o,s.heap.get? b=some o->h₁.get? b=some o)
  (hfp:∀ b∈fp,FpOk X pins H b) (hlt:∀ b∈fp,b<s.heap.objs.size) :
  Inv (za3 X scope N cl C s H fp E) [] (List.replicate k none++zbf X σ ix) H { s with heap:=h₁,toks:=tk }:=by
 have hlen:ix.length=fn.length:=by
  have:=congrArg List.length hix;simpa using this
 refine⟨⟨I.ok.mod,ok.kind,I.ok.glob,I.ok.blt,hC,fun x y c h1 h2=>I.ok.inj x y c (p1 x c h1) (p1 y c h2),fun x hx=>?_,fun x c h=>(nomatch h),I.ok.hd,I.ok.frames,.inl rfl,fun b hb=>⟨ZD (Zr (hlt b hb) hC),fun x c h=>(hfp b hb).2.2.2.2.1 x c (p1 x c h)⟩,I.bs,Z7 I.ok.bsz I.sz,fun b o e hb=>?_,fun b hb hs=>?_,I.stack,I.stkFree⟩,
  rfl,I.bare,Un.kept old,⟨_,hns,fun i x v h1 h2 h3=>?_⟩,fun x c h=>?_,I.hok.fresh hC,fun x c h=>I.freeC x c (p1 x c h),fun p hp=>absurd hp ZN,I.hok.kept old,?_⟩
 ·have hm:(x,NameKind.free)∈scope.names:=by
   rcases hx with h | h
   ·exact Q0U h (.inl rfl) ok.cell
   ·exact Q0U h (.inr rfl) ok.cell
  exact p2 _ hm rfl
 ·rcases (hfp b hb).2.2.2.1 with z | z
  ·exact I.ok.noex b o e z
  ·have h1:b<X.base.objs.size:=Zn e;have h2:=I.ok.bsz;exact absurd (Zr h1 (Z7 h2 z)) (lt_irrefl _)
 ·rcases Zx.mp (I.stkSub b hs) with z | z
  ·exact (hfp b hb).2.1 z
  ·exact (hfp b hb).2.2.1 z
 ·-- the names from around
  have hi:k<=i:=by
   refine le_of_not_lt fun q=>?_;rw[getElem?_append_left (by simpa using q),List.getElem?_replicate_of_lt q]at h2
   cases h2
  rw[List.getElem?_append_right (by simpa using hi),length_replicate]at h2
  unfold zbf at h2;rw[ZC]at h2;cases hj:ix[i-k]? with
  | none=>rw[hj]at h2;cases h2
  | some j =>
   rw[hj]at h2;have h2':(σ[j]?).getD none=some v:=by simpa using h2
   have hσ:σ[j]? = some (some v):=by
    cases q:σ[j]? with
    | none=>rw[q]at h2';cases h2'
    | some o=>rw[q]at h2';simpa using h2'
   have hNi:fn[i-k]? = some x:=by
    have e:(N.drop k)[i-k]? = N[i]?:=by rw[List.getElem?_drop];congr 1;omega
    rw[ok.tail]at e;exact e.trans h1
   have hNj:X.N[j]? = some x:=by
    have e:=congrArg (fun l=>l[i-k]?) hix;simp only[ZC,hj,hNi,Option.map_some]at e;simpa using e
   obtain⟨hk1,hk2⟩:=ok.fnk x (Z0 hNi);obtain⟨m,hm,hl⟩:=I.loc;obtain⟨u,r,l⟩:=hl j x v hNj hσ (by rcases hk1 with z | z;exact .inr (.inl z);exact .inr (.inr z))
   refine⟨u,r,.inr ⟨Q0V hk2,?_⟩⟩;rcases l with ⟨z,_⟩ | ⟨_,c,hc,hcell⟩
   ·have z':X.env.scope.names.lookup x=some .local:=z;rcases hk1 with q | q <;> (rw[q]at z';cases z')
   ·obtain⟨c',hc'⟩:=p2 (x,.free) (Q2V hk2) rfl;have e:=p1 x c' hc';rw[hc]at e;cases e;obtain⟨o,ho,hd⟩:=hcell;exact⟨c,hc',o,old c o ho,hd⟩
 ·obtain⟨v,o,ho,hd⟩:=I.cell x c (p1 x c h);exact⟨v,o,old c o ho,hd⟩
 ·rw[Zd,length_replicate];show k+(zbf X σ ix).length=N.length;unfold zbf;rw[Zi,ok.len,hlen]
theorem Inv.uncomp(I:Inv X pins σ H s)(I':Inv (za3 X scope N cl C s H fp E) pins' σ' H' s')(hfp:∀ b∈fp,FpOk X pins H b)
  (ha:s.heap.objs.size<=acc) (hn:H' acc=none) (hl:s'.heap.PlainList acc its.toArray) (hv:Vals ys its) (hz:ys.length<=sizeLine):Inv X pins σ (upd H' acc (.lst ys)) s':=by
 have b0:Un (frs X.stack) fp H H' s.heap s'.heap:=I'.base;have ne:∀ {b:Addr} {o:Obj},s.heap.get? b=some o->b≠acc:=fun e=>ZD (Zr (Zn e) ha);have neH:∀ {b:Addr} {o:HO},H b=some o->b≠acc:=fun e=>ZD (Zr (I.hok.lt e) ha);obtain⟨n,hget⟩:=hl;refine I.call' I'.os ⟨b0.keep,b0.slot,fun b o e n hb=>?_,b0.there,fun b xs e=>?_,fun b o xs e=>?_,fun b ps e=>?_⟩ (fun b u e=>?_) I'.bare fun b hb=>⟨(hfp b hb).2.2.2.1,(hfp b hb).2.1,(hfp b hb).2.2.2.2.1,(hfp b hb).2.2.2.2.2⟩
 ·rw[Q0f (ne e)];exact b0.free b o e n hb
 ·rw[Q0f (neH e)];exact b0.tups b xs e
 ·rw[Q0f (neH e)];exact b0.frzs b o xs e
 ·rw[Q0f (neH e)];exact b0.tbls b ps e
 ·by_cases hb:b=acc
  ·subst hb;rw[Q0i]at e;cases e;exact⟨hz,its,n,hv,hget⟩
  ·rw[Q0f hb]at e;exact (I'.hok b u e).stay (fun _ _ _ q=>q) (fun c q=>by rw[Q0f (Q0q q hn)];exact q) fun c xs q=>by rw[Q0f (Q0q q hn)];exact q
end
noncomputable abbrev XF:Value->Shared->Prop:=fun _ _=>False
noncomputable def tComp(wi:TI)(k:Nat)(ix:List Nat)(g:TG)(tc:TT)(te:TE):TE:=fun σ H Q=>wi σ H fun J H1=>∃ W:Nat->Nat->List V->Hp->Prop,(∃ m,W 0 m [] H1)/\∀ i m ys H,W i m ys H ->
 (J.stop i H/\ys.length<=sizeLine/\∀ a,H a=none->Q (.ref a) (upd H a (.lst ys))) \/
 (J.go i H/\∀ y H',J.yld i H y H'->g y (List.replicate k none++ix.map (fun i=>(σ[i]?).getD none)) H' fun σ2 H2=>σ2.drop k=ix.map (fun i=>(σ[i]?).getD none)/\σ2.length=k+ix.length/\tc σ2 H2 fun b H3 =>
  if b=true then te σ2 H3 fun z H4=>ys.length<sizeLine/\∃ m',m'<m/\W (i+1) m' (ys++[z]) H4 else ∃ m',m'<m/\W (i+1) m' ys H3)
section
variable{X:Cx}{pins:List (Addr×Obj)}{σ:St}{H:Hp}{s:Shared}{scope:Scope}{N fn:List Str}{k:Nat}{ix:List Nat}{elt tg iter:Expr}{ifs:List Expr}{pos:Pos}{g:TG}{tc:TT}{te:TE}
theorem Q6x(I:Inv X pins σ H s)(ok:zax X.env.scope scope N k fn) :
  ∃ cl,closureFor scope X.env=pure cl/\(∀ y c,cl.lookup y=some c->X.env.cells.lookup y=some c)/\(∀ y∈scope.names,y.2=.free->∃ c,cl.lookup y.1=some c) :=
 Qa9 fun y hy hf=>I.ok.has y.1 (ok.free y hy hf)
end
noncomputable def zal(h:Heap)(l:List Addr):Heap:=⟨h.objs.mapIdx fun i o=>if i∈l then { o with data:=.freed } else o,h.life⟩
theorem Q0x(h:Heap)(l:List Addr)(b:Addr):(zal h l).get? b=if b∈l then none else h.get? b:=by
 unfold zal Heap.get?;simp only[Array.getElem?_mapIdx];cases e:h.objs[b]? with
 | none=>simp[e]
 | some o =>
  by_cases hb:b∈l
  ·simp[hb]
  ·simp[hb,e]
theorem Q2j(hb:b∈l):(zal h l).get? b=none:=by rw[Q0x,Zm hb]
theorem Q0m(hb:b∉l):(zal h l).get? b=h.get? b:=by rw[Q0x,Zj hb]
theorem Q0J{h b b':Heap}:∀ {l:List Env},h.FunFrames b l->(∀ x∈frs l,b'.get? x=none)->h.FunFrames b' l
 | [],_,_=>trivial
 | env::r,⟨hk,⟨L,o,hf,hn,ho,hd⟩,hr⟩,hb=>by
  have hL:L∈frs (env::r):=by unfold frs;rw[filterMap_cons,hf];exact Zl
  refine⟨hk,⟨L,o,hf,hb L hL,ho,hd⟩,Q0J hr fun x hx=>hb x ?_⟩;unfold frs at hx ⊢;rw[filterMap_cons,hf];exact Zo _ hx
noncomputable abbrev XC:=Value×Option (Int×Addr)
noncomputable def Rowd(od:Obj)(n:Int):Prop:=(∃ es ep,od.data=.dict es ep)/\∀ (h:Heap) (d:Addr),h.get? d=some od->∃ mA tk,h.Ns1 d mA/\mA "row" = some (.int n tk)
noncomputable def XtrO(B:Heap)(dict:Option Addr)(vs:Array Value)(cls:XC):Prop:=(cls.2=none->vs[2]? = some .none)/\∀ n d,cls.2=some (n,d)->dict=some d/\∃ od,B.get? d=some od/\Rowd od n
noncomputable def Xtr(B h:Heap)(a:Addr)(cls:XC):Prop:=∃ oe vs,h.get? a=some oe/\oe.data=.fields vs/\XtrO B oe.dict vs cls
theorem Xtr.at'(x:Xtr B h a cls)(k:∀ o,h.get? a=some o->h'.get? a=some o):Xtr B h' a cls:=let ⟨oe,vs,e,r⟩:=x;⟨oe,vs,k _ e,r⟩
theorem XtrO.base(x:XtrO B dict vs cls)(k:∀ d od,B.get? d=some od->(∃ es ep,od.data=.dict es ep)->B'.get? d=some od):XtrO B' dict vs cls:=⟨x.1,fun n d e=>let ⟨h1,od,h2,h3⟩:=x.2 n d e;⟨h1,od,k d od h2 h3.1,h3⟩⟩
theorem Xtr.base(x:Xtr B h a cls)(k:∀ d od,B.get? d=some od->(∃ es ep,od.data=.dict es ep)->B'.get? d=some od):Xtr B' h a cls:=let ⟨oe,vs,e,hd,r⟩:=x;⟨oe,vs,e,hd,r.base k⟩
noncomputable def FlyT(B:Heap)(l:List Env)(a:Addr)(cls:XC)(h:Heap):Prop:=B.StaysIn h/\B.get? a=none/\h.FunFrames B l/\Xtr B h a cls/\∃ a0 fl,h.TracedAtW B a cls.1 a0 fl
noncomputable def Fly(B:Heap)(l:List Env)(a:Addr)(cls:XC)(h:Heap):Prop :=
 FlyT B l a cls h\/(B.StaysIn h/\B.get? a=none/\h.FunFrames B l/\Xtr B h a cls/\∃ oe vs a0,h.get? a=some oe/\oe.cls=cls.1/\oe.data=.fields vs/\vs[1]? = some .none/\vs[0]? = some a0)
theorem Fly.stays(f:Fly B l a cls h):B.StaysIn h:=by
 rcases f with f | f
 ·exact f.1
 ·exact f.1
section
variable{M:Model}{A:Around}{E:Value->Shared->Prop}{s:Shared}
theorem Q6y(h:env.frame=env'.frame):noteFrame e env=noteFrame e env':=by
 unfold noteFrame PySem.frameOf;rw[h]
theorem Q2Q(f:Array Value->Array Value)(o:Obj):(Obj.mapFields f o).dict=o.dict:=by
 obtain⟨c,d,dt,sl⟩:=o;cases dt <;> rfl
theorem Q2W{Q:Unit->Shared->Prop}(hfr:A.frames=some (env::outer))(hf:env.frame=some L)(f1:B.StaysIn s.heap)(f2:B.get? a=none)(f3:s.heap.FunFrames B (env::outer))
  (he:s.heap.get? a=some oe) (hc:oe.cls=cls.1) (hd:oe.data=.fields vs) (hz:1<vs.size) (h0:vs[0]? = some a0) (ht:XtrO B oe.dict vs cls)
  (h:∀ h',FlyT B (env::outer) a cls h'->s.heap.UpToSlots h'->Q () { s with heap:=h' }) :
  wpAny M A (do let z <- frameOf env;let pl <- entryPlaceOf L nx;let b <- EntryCells.newEntry head z .none (rawInt L) .none pl;setField (.ref a) 1 b) Q E s:=by
 have out:a∉(env::outer).filterMap (·.frame):=fun hm=>by
  obtain⟨_,o,ho,nf⟩:=f3.mem hm;rw[he]at ho;cases ho;exact nf vs hd
 have rec':∀ b o,s.heap.get? b=some o->(∀ vs,o.data≠.fields vs)->b≠a:=fun b o hb nf q=>by
  rw[q,he]at hb;cases hb;exact nf vs hd
 refine Za (wpAny_frameOf_fun hfr f3 hf fun h1 k1=>Za (wpAny_entryPlaceOf fun pl hpl=>?_));unfold EntryCells.newEntry newFields;refine Za (ZP ?_ (hpl.sizeOk5 _ _ _ _ _));have g1:h1.get? a=some oe:=(k1.2.1 a out).trans he;have st1:B.StaysIn h1:=fun b o e=>(k1.2.1 b fun hm=>by rw[(f3.mem hm).1]at e;cases e).trans (f1 b o e)
 have neT:h1.objs.size≠a:=ne_of_gt (Zn g1);generalize hN:({ cls:=.type "traceback",dict:=none,data:=.fields ([head,.ref L,.none,rawInt L,.none]++(if pl.isEmpty then List.replicate 6 Value.none else pl)).toArray }:Obj)=oN
 have dN:oN.data=.fields ([head,.ref L,.none,rawInt L,.none]++(if pl.isEmpty then List.replicate 6 Value.none else pl)).toArray:=by rw[<- hN]
 have fN:oN.isFreed=false:=by rw[<- hN];rfl
 have g2:(h1.push oN).get? a=some oe:=Zb _ g1;have d3:=Obj.data_mapFields hd (·.setIfInBounds 1 (Value.ref h1.objs.size));have g3:=ZJ (Obj.mapFields (·.setIfInBounds 1 (Value.ref h1.objs.size))) g2 (Obj.isFreed_of_fields d3);have gT:=(Yd (h1.push oN) (Obj.mapFields (·.setIfInBounds 1 (Value.ref h1.objs.size))) (ZV neT)).trans (Zs h1 fN);have keep:∀ b o,b≠a->h1.get? b=some o->((h1.push oN).update a (Obj.mapFields (·.setIfInBounds 1 (Value.ref h1.objs.size)))).get? b=some o:=fun b o hb e=>(Yd _ _ (ZV hb)).trans (Zb _ e);have up:s.heap.UpToSlots ((h1.push oN).update a (Obj.mapFields (·.setIfInBounds 1 (Value.ref h1.objs.size)))):=fun b o hb nf=>by
  obtain⟨sl,e⟩:=k1.2.2 b o hb;exact⟨sl,keep b _ (rec' b o hb nf) e⟩
 refine wpAny_setField g2 hd hz (h _ ⟨fun b o e=>keep b o (fun q=>by rw[q,f2]at e;cases e) (st1 b o e),f2,f3.of_keeps fun b o hb nf=>?_,⟨_,_,g3,d3,fun z=>?_,fun n d z=>?_⟩,a0,rawInt L,?_⟩ up)
 ·obtain⟨sl,e⟩:=k1.2.2 b o hb;exact⟨_,keep b _ (rec' b o hb nf) e,rfl⟩
 ·rw[Array.getElem?_setIfInBounds_ne (by decide)]
  exact ht.1 z
 ·rw[Q2Q];exact ht.2 n d z
 ·exact⟨_,_,h1.objs.size,_,_,g3,⟨(Obj.cls_mapFields _ _).trans hc,by rw[Array.getElem?_setIfInBounds_ne (by decide)];exact h0⟩,d3,by simp[hz],st1.fresh,neT,gT,dN,by first | (simp;done) | (rcases hpl with rfl | ⟨_,_,_,_,_,_,_,rfl⟩ <;> simp)⟩
theorem Q8s{Q:Unit->Shared->Prop}(hfr:A.frames=some (e0::outer))(hf:e0.frame=some L)(hf':env.frame=some L)(x:Fly B (e0::outer) a cls s.heap)
  (hQ:∀ h',FlyT B (e0::outer) a cls h'->s.heap.UpToSlots h'->Q () { s with heap:=h' }):wpAny M A (noteFrame (.ref a) env) Q E s:=by
 rw[Q6y (hf'.trans hf.symm)];rcases x with ⟨f1,f2,f3,⟨oe',vs',he',hd',ht⟩,a0,fl,oe,vs,T,oT,ts,he,⟨hcls,h0⟩,hd,h1,hnT,hTe,hT,hdT,h3⟩ | ⟨f1,f2,f3,⟨oe',vs',he',hd',ht⟩,oe,vs,a0,he,hcls,hd,h1,h0⟩
 ·obtain rfl:oe'=oe:=Z1 (he'.symm.trans he);obtain rfl:vs'=vs:=Data.fields.inj (hd'.symm.trans hd);by_cases hfl:fl=rawInt L
  ·subst hfl;exact wpAny_noteFrame_againW hf ⟨oe',vs',T,oT,ts,he,⟨hcls,h0⟩,hd,h1,hnT,hTe,hT,hdT,h3⟩ (hQ s.heap ⟨f1,f2,f3,⟨oe',vs',he,hd,ht⟩,a0,_,oe',vs',T,oT,ts,he,⟨hcls,h0⟩,hd,h1,hnT,hTe,hT,hdT,h3⟩ (.refl _))
  ·unfold noteFrame;simp only[hf];refine Za (ZE he hd h1 ?_);rw[Zm (show (Value.ref T != Value.none)=true from by simp)]
   refine Za (ZE hT hdT h3 ?_);rw[Zj (show ¬ ((fl==rawInt L)=true) from by simpa using hfl)]
   refine Za (wpAny_setField hT hdT (Yh.mp h3).1 ?_);have other:∀ b,b≠T->(s.heap.update T (Obj.mapFields (·.setIfInBounds 3 Value.none))).get? b=s.heap.get? b:=fun b hb=>Yd _ _ (ZV hb);have rec':∀ b o,s.heap.get? b=some o->(∀ vs,o.data≠.fields vs)->b≠T:=fun b o hb hnf q=>by
    rw[q,hT]at hb;cases hb;exact hnf ts hdT
   refine Q2W (s:={ s with heap:=s.heap.update T (Obj.mapFields (·.setIfInBounds 3 Value.none)) }) hfr hf (fun b o hbo=>(other b fun q=>by rw[q,hnT]at hbo;cases hbo).trans (f1 b o hbo)) f2 (f3.of_keeps fun b o hb hnf=>⟨o,(other b (rec' b o hb hnf)).trans hb,rfl⟩) ((other a (ZV hTe)).trans he) hcls hd (Yh.mp h1).1 h0 ht fun h' fl' up=>?_
   exact hQ h' fl' fun b o hb hnf=>up b o ((other b (rec' b o hb hnf)).trans hb) hnf
 ·obtain rfl:oe'=oe:=Z1 (he'.symm.trans he);obtain rfl:vs'=vs:=Data.fields.inj (hd'.symm.trans hd);unfold noteFrame;simp only[hf];refine Za (ZE he hd h1 ?_);rw[Zj (by decide)]
  exact Q2W hfr hf f1 f2 f3 he hcls hd (Yh.mp h1).1 h0 ht hQ
theorem Q4v{Q:Unit->Shared->Prop}(x:FlyT B l a cls s.heap)(hQ:∀ h',FlyT B l a cls h'->s.heap.UpToSlots h'->Q () { s with heap:=h' }):wpAny M A (setFlight (.ref a) fr) Q E s:=by
 obtain⟨f1,f2,f3,xt,a0,fl,oe,vs,T,oT,ts,he,hcls,hd,h1,hnT,hTe,hT,hdT,h3⟩:=x;have hsz3:3<ts.size:=(Yh.mp h3).1;have other:∀ b,b≠T->(s.heap.update T (Obj.mapFields (·.setIfInBounds 3 (fr.elim Value.none fun f=>rawInt f)))).get? b=s.heap.get? b:=fun b hb=>Yd _ _ (ZV hb);have rec':∀ b o,s.heap.get? b=some o->(∀ vs,o.data≠.fields vs)->b≠T:=fun b o hb hnf q=>by
  rw[q,hT]at hb;cases hb;exact hnf ts hdT
 unfold setFlight;refine Za (ZE he hd h1 ?_);rw[Zm (show (Value.ref T != Value.none)=true from by simp)]
 refine wpAny_setField hT hdT hsz3 (hQ _ ⟨fun b o hbo=>(other b fun q=>by rw[q,hnT]at hbo;cases hbo).trans (f1 b o hbo),f2,f3.of_keeps fun b o hb hnf=>⟨o,(other b (rec' b o hb hnf)).trans hb,rfl⟩,xt.at' fun o e=>(other a (ZV hTe)).trans e,a0,(fr.elim Value.none fun f=>rawInt f),?_⟩ fun b o hb hnf=>⟨o.slots,(other b (rec' b o hb hnf)).trans hb⟩)
 exact⟨oe,vs,T,_,_,(other a (ZV hTe)).trans he,hcls,hd,h1,hnT,hTe,ZJ _ hT (Obj.isFreed_of_fields (Obj.data_mapFields hdT _)),Obj.data_mapFields hdT _,by simp[hsz3]⟩
theorem Q2k{Q:Value->Shared->Prop}(x:FlyT B l a cls s.heap)(hQ:∀ T,Q (.ref T) s):wpAny M A (field (.ref a) 1) Q E s:=by
 obtain⟨f1,f2,f3,_,a0,fl,oe,vs,T,oT,ts,he,hcls,hd,h1,r⟩:=x;exact ZE he hd h1 (hQ T)
end
noncomputable def XN(X:Cx)(cls:XC):Prop:=∀ n d,cls.2=some (n,d)->X.s₀.heap.objs.size<=d/\d≠X.env.locals
noncomputable def zc8(fs:List Addr)(H:Hp)(h B:Heap):Prop:=∀ b o,h.get? b=some o->b∉fs->∃ o',B.get? b=some o'/\(H b=none->o'=o)
noncomputable def CX1(P:Program)(w:World):CXT:=fun outer H s E e s'=>∃ (a:Addr) (cls:XC) (H':Hp) (B:Heap),e=.ref a/\s'.os=s.os/\AllBare s'.gens/\Un (frs outer) [] H H' s.heap s'.heap/\HOk P w H' B /\
 FlyT B outer a cls s'.heap/\zc8 (frs outer) H s.heap B/\(∀ n d,cls.2=some (n,d)->s.heap.objs.size<=d)/\E cls.1 cls.2 H'
structure XS(X:Cx)(pins:List (Addr×Obj))(σ:St)(H:Hp)(s:Shared)(a:Addr)(cls:XC):Prop where
 inv:Inv X pins σ H s
 ex:∃ B,Fly B X.stack a cls s.heap/\HOk X.prog X.w H B/\zc8 (X.fs++X.ex) X.H₀ X.s₀.heap B/\(∀ p∈X.pn++pins,B.get? p.1=some p.2)/\XN X cls
section
variable{X:Cx}{pins:List (Addr×Obj)}{σ:St}{H H':Hp}{s s':Shared}{a:Addr}{cls:XC}{E:XK}
theorem Inv.notStk(I:Inv X pins σ H s)(e:X.s₀.heap.get? b=some o)(hb:b∉X.fs):b∉frs X.stack:=fun z=>by
 rcases Zx.mp (I.stkSub b z) with q | q
 ·have h1:=Zn e;rw[q]at h1;exact absurd (Zr h1 I.ok.above) (lt_irrefl _)
 ·exact hb q
theorem Inv.stays(I:Inv X pins σ H s)(hB:B.StaysIn h')(up:s.heap.UpToSlots h')(hok:HOk X.prog X.w H B)(old:zc8 (X.fs++X.ex) X.H₀ X.s₀.heap B)(hp:∀ p∈X.pn++pins,B.get? p.1=some p.2):Inv X pins σ H { s with heap:=h' }:=by
 have keep:∀ b o,X.s₀.heap.get? b=some o->X.H₀ b=none->b∉X.fs->b∉X.ex->h'.get? b=some o:=fun b o e n h1 h2=>by
  obtain⟨o',e',q⟩:=old b o e fun z=>(Z3.mp z).elim h1 h2;rw[q n]at e';exact hB b o e'
 have slot:∀ b o,X.s₀.heap.get? b=some o->X.H₀ b=none->b∈X.fs->b∉X.ex->∃ sl,h'.get? b=some { o with slots:=sl }:=fun b o e n h1 h2=>by
  obtain⟨sl,e1⟩:=I.base.slot b o e n h1 h2;obtain⟨_,o2,e2,nf⟩:=I.ok.funs.mem h1;rw[e]at e2;cases e2;obtain⟨sl',e3⟩:=up b _ e1 nf;exact⟨sl',e3⟩
 refine⟨I.ok,I.os,I.bare,⟨keep,slot,I.base.free,fun b o e hx=>?_,I.base.tups,I.base.frzs,I.base.tbls⟩,?_,fun x c e=>?_,I.free,I.freeC,fun p q=>?_,hok.kept hB,I.len⟩
 ·by_cases hf:b∈X.fs
  ·by_cases n:X.H₀ b=none
   ·obtain⟨sl,e1⟩:=slot b o e n hf hx;exact⟨_,e1⟩
   ·exact absurd (I.ok.frf b hf) n
  ·obtain⟨o',e',_⟩:=old b o e fun z=>(Z3.mp z).elim hf hx;exact⟨o',hB b o' e'⟩
 ·obtain⟨m,hn,hl⟩:=I.loc;refine⟨m,up.ns hn,fun i x v h1 h2 h3=>?_⟩;obtain⟨u,r,hk⟩:=hl i x v h1 h2 h3;refine⟨u,r,?_⟩;rcases hk with hk | ⟨k1,c,k2,o,k3,k4⟩
  ·exact .inl hk
  ·obtain⟨sl,e3⟩:=up c o k3 fun vs q=>by rw[k4]at q;cases q
   exact .inr ⟨k1,c,k2,_,e3,k4⟩
 ·obtain⟨v,o,k3,k4⟩:=I.cell x c e;obtain⟨sl,e3⟩:=up c o k3 fun vs q=>by rw[k4]at q;cases q
  exact⟨v,_,e3,k4⟩
 ·obtain⟨p1,p2⟩:=I.pin p q;exact⟨hB _ _ (hp p q),p2⟩
theorem XS.pass(hP:X.prog=P)(hw:X.w=w)(I:Inv X pins σ H s)(h:CX1 P w X.stack H s E e s'):∃ a cls H',e=.ref a/\XS X pins σ H' s' a cls/\E cls.1 cls.2 H':=by
 subst hP hw;obtain⟨a,cls,H',B,rfl,os,bare,un,hok,fly,old,xn,hE⟩:=h;have I2:Inv X pins σ H' s':=I.call' os un (hok.kept fly.1) bare fun b z=>absurd z (by simp)
 refine⟨a,cls,H',rfl,⟨I2,B,.inl fly,hok,fun b o e hb=>?_,fun p hp=>?_,fun n d z=>⟨Z7 I.sz (xn n d z),?_⟩⟩,hE⟩
 ·rw[Z3]at hb;obtain⟨o1,e1⟩:=I.base.there b o e fun z=>hb (.inr z);obtain⟨o2,e2,h2⟩:=old b o1 e1 (I.notStk e fun z=>hb (.inl z));refine⟨o2,e2,fun hn=>?_⟩;have k1:=I.base.keep b o e hn (fun z=>hb (.inl z)) fun z=>hb (.inr z);rw[e1]at k1;cases k1;exact h2 (I.base.free b o e hn fun z=>hb (.inr z))
 ·obtain⟨p1,p2,p3,p4,p5⟩:=I.pin p hp;obtain⟨o2,e2,h2⟩:=old p.1 p.2 p1 fun z=>by
   rcases Zx.mp (I.stkSub _ z) with q | q
   ·exact p3 q
   ·exact p4 q
  rw[e2,h2 p2]
 ·obtain⟨m,hn,_⟩:=I.loc;exact ne_of_gt (Zr hn.lt (xn n d z))
theorem XS.made{h':Heap}{vs:List Value}{cl:Value}(I:Inv X pins σ H s)(mk:Heap.MadeExcOf s.heap h' a cl vs):XS X pins σ H { s with heap:=h' } a (cl,none):=by
 obtain⟨t,he,ht,_⟩:=mk.there;have st:(zal s.heap (frs X.stack)).StaysIn h':=fun b o e=>by
  rw[Q0x]at e;split at e
  ·cases e
  ·exact mk.keeps b o e
 refine⟨I.kept (t':=s.toks) mk.keeps,zal s.heap (frs X.stack),.inr ⟨st,?_,?_,⟨_,_,he,rfl,fun _=>rfl,fun n d z=>(nomatch z)⟩,_,_,.ref t,he,rfl,rfl,rfl,rfl⟩,fun b u q=>?_,fun b o e hb=>?_,fun p hp=>?_,fun n d z=>(nomatch z)⟩
 ·rw[Q0x,mk.new];simp
 ·exact Q0J (I.kept (t':=s.toks) mk.keeps).stack fun x hx=>Q2j hx
 ·have out:∀ {c:Addr} {v:HO},H c=some v->c∉frs X.stack:=fun{c v} e z=>by rw[I.stkFree c z]at e;cases e
  refine (I.hok b u q).stay (fun c v hc e=>?_) (fun _ z=>z) fun _ _ z=>z;rcases hc with rfl | hc
  ·rw[Q0m (out q)];exact e
  ·rw[Q0m (out hc)];exact e
 ·rw[Z3]at hb;obtain⟨o1,e1⟩:=I.base.there b o e fun z=>hb (.inr z);refine⟨o1,by rw[Q0m (I.notStk e fun z=>hb (.inl z))];exact e1,fun hn=>?_⟩
  have k1:=I.base.keep b o e hn (fun z=>hb (.inl z)) fun z=>hb (.inr z);rw[e1]at k1;cases k1;rfl
 ·obtain⟨p1,p2,p3,p4,p5⟩:=I.pin p hp;rw[Q0m fun z=>by
   rcases Zx.mp (I.stkSub _ z) with q | q
   ·exact p3 q
   ·exact p4 q]
  exact p1
structure XT(X:Cx)(pins:List (Addr×Obj))(σ:St)(H:Hp)(s:Shared)(a:Addr)(cls:XC):Prop where
 inv:Inv X pins σ H s
 ex:∃ B,FlyT B X.stack a cls s.heap/\HOk X.prog X.w H B/\zc8 (X.fs++X.ex) X.H₀ X.s₀.heap B/\(∀ p∈X.pn++pins,B.get? p.1=some p.2)/\XN X cls
theorem XT.xs(x:XT X pins σ H s a cls):XS X pins σ H s a cls:=by
 obtain⟨I,B,f,r⟩:=x;exact⟨I,B,.inl f,r⟩
structure Top(X:Cx):Prop where
 ex:∃ e0 r L,X.stack=e0::r/\e0.frame=some L/\X.env.frame=some L
theorem XS.note{E':Value->Shared->Prop}{Q:Unit->Shared->Prop}(t:Top X)(x:XS X pins σ H s a cls)(hQ:∀ s',XT X pins σ H s' a cls->Q () s'):wpAny (model X.prog X.w) X.A (noteFrame (.ref a) X.env) Q E' s:=by
 obtain⟨e0,r,L,h1,h2,h3⟩:=t.ex;obtain⟨I,B,f,hok,old,hp,xn⟩:=x;rw[h1]at f;refine Q8s (by rw[<- h1];exact I.ok.frames) h2 h3 f fun h' f' up=>hQ _ ⟨I.stays f'.1 up hok old hp,B,by rw[h1];exact f',hok,old,hp,xn⟩
theorem XT.set{E':Value->Shared->Prop}{Q:Unit->Shared->Prop}(x:XT X pins σ H s a cls)(hQ:∀ s',XT X pins σ H s' a cls->Q () s'):wpAny (model X.prog X.w) A (setFlight (.ref a) fr) Q E' s:=by
 obtain⟨I,B,f,hok,old,hp,xn⟩:=x;exact Q4v f fun h' f' up=>hQ _ ⟨I.stays f'.1 up hok old hp,B,f',hok,old,hp,xn⟩
theorem XS.leave(hP:X.prog=P)(hw:X.w=w)(hs:X.stack=X.env::X.outer)(hf:X.env.frame=some X.env.locals)(ho:X.outer=outer)(hx:X.ex=[])(x:XS X pins σ H s a cls)(hE:E cls.1 cls.2 H)(E':Value->Shared->Prop) :
  wpAny (model P w) X.A (leaving X.env (.ref a)) (fun _ s''=>CX1 P w outer X.H₀ X.s₀ E (.ref a) s'') E' s:=by
 subst hP hw ho;unfold leaving;refine Za (x.note ⟨_,_,_,hs,hf,hf⟩ fun s1 x1=>x1.set fun s2 x2=>?_);obtain⟨I,B,⟨f1,f2,f3,f4⟩,hok,old,hp,xn⟩:=x2;have b2:=I.base;rw[hx]at b2;rw[hx,append_nil]at old;rw[hs]at f3;exact⟨a,cls,H,B,rfl,I.os,I.bare,b2,hok,⟨f1,f2,f3.2.2,f4⟩,old,fun n d z=>(xn n d z).1,hE⟩
theorem XS.own{xe:Value->Shared->Prop}(t:Top X)(x:XS X pins σ H s a cls)(hx:∀ s',XS X pins σ H s' a cls->xe (.ref a) s'):notedBy (model X.prog X.w) X.A X.env (cameBackBy (model X.prog X.w) X.A X.env xe) (.ref a) s:=by
 unfold notedBy;refine x.note t fun s1 x1=>?_;unfold cameBackBy;obtain⟨I,B,f,r⟩:=id x1;refine Za (Q2k f fun T=>?_);rw[Zj (by simp)]
 first
  | exact x1.set fun s2 x2=>hx s2 x2.xs
  | exact Za (Zh (x1.set fun s2 x2=>hx s2 x2.xs))
end
structure XCls(K:Frag)(C:Addr):Prop where
 ex:∃ (B newId initId:String) (bm:List Value),ExcBaseFacts B newId initId bm/\PySem.W.excIn K C bm newId=true
theorem Q9x{K:Frag}{h:Heap}{mg:Str->Option Value}{x:Str}{C:Addr}{bm:List Value}{newId:String}(X:K.In h)(hm:mg x=some (.ref C))(q:PySem.W.excIn K C bm newId=true):OwnCls x C bm newId mg h:=by
 refine⟨hm,?_⟩;unfold PySem.W.excIn at q;split at q
 ·rename_i dd cd sl ho;split at q
  ·rename_i C' tl k0 k1 k2 k3 n k5 hm' hs;simp only[Zc,Zt,ZG]at q;obtain⟨⟨⟨⟨⟨rfl,rfl⟩,hdel⟩,ht⟩,hok⟩,hni⟩:=q;obtain⟨nm,bs,mro,ns,qn,hd,sn,sub,ab,col,del⟩:=cd;dsimp only at hm' hdel hok hni;subst hm' hdel;have hsl:sl = #[k0,k1,k2,k3,some (.builtin n),k5]:=by
    obtain⟨l⟩:=sl;simp only at hs;rw[hs]
   subst hsl;exact⟨tl,ns,nm,qn,bs,hd,sn,sub,ab,col,dd,k0,k1,k2,k3,k5,_,X _ _ ho,.of_isNs (PySem.W.isNs_of_in X hok),PySem.W.nsMap_none_of_in X hok hni,PySem.W.tail_of_in X ht⟩
  ·cases q
 ·cases q
section
variable{X:Cx}{pins:List (Addr×Obj)}{σ:St}{H:Hp}{s:Shared}{a C f:Addr}{cls:XC}{x:Str}{e:Expr}{es:List Expr}{t:TA}{np cpos pos p:Pos}{k:Nat}{fd:FuncData}{ps:List Str}{sp:Sp}{dvs:List V}{ds:List Value}
noncomputable abbrev XR:=XC->St->Hp->Prop
noncomputable def zaf(X:Cx)(R:XR):Prop:=∀ pins σ H s a cls,XS X pins σ H s a cls->R cls σ H->X.xe (.ref a) s
noncomputable def tRaise(t:TA)(R:St->Hp->Prop):TS:=fun _ σ H=>t σ H fun vs H1=>vs.length<=sizeLine/\R σ H1
theorem Q8t{R:XR}(hc:X.calm=true)(hg:Gl X x)(hm:X.mg x=some (.ref C))(cl:XCls X.K C)(ha:PA X (e::es) t)(hx:zaf X R)(hdb:(x==("__debug__" : Str))=false)
  (he:starEach (e::es) X.env=(false,eval e X.env)::starEach es X.env) (hpl:(backTo cpos (starEach es X.env)).any (·.1)=false) :
  PS X (.Raise (some (.Call (.Name x np) (e::es) [] cpos)) none pos) (tRaise t (R (.ref C,none))):=by
 intro pins s σ H D I h;obtain⟨B,newId,initId,bm,FB,hin⟩:=cl.ex;have O:=Q9x (mg:=X.mg) (x:=x) I.ok.mod.kin hm hin;obtain⟨tl,N,nm,q,bs,hdct,sn,sub,ab,col,dd,k0,k1,k2,k3,k5,mN,hC,hN,hni,T⟩:=O.obj;refine wpAny_Raise_call_subT (C:=C) (nm:=nm) (q:=q) (N:=N) (bs:=bs) (bm:=tl) (hdct:=hdct) (sn:=sn) (sub:=sub) (ab:=ab) (col:=col) (dd:=dd) (k0:=k0) (k1:=k1) (k2:=k2) (k3:=k3) (k5:=k5)
  FB (mN:=mN) (T.hasType FB.hasBase) (I.ok.hd hc) (by rw[he];show (false||(backTo cpos (starEach es X.env)).any (·.1))=false;rw[hpl];rfl) hni (Q0I I hg hm ⟨rfl,?_⟩ hdb)
 have h2:=ha cpos pins s σ H _ I h;rw[he]at h2 ⊢;exact Calls.evalArgs_plain (thn h2 fun vs s₂ ⟨xs,H1,I1,r1,hz,q1⟩=>⟨rfl,by rw[<- r1.length];exact hz,I1.bk _ _ hC,hN.keeps I1.bk,T.keeps I1.bk,fun h' e mk=>hx _ _ _ _ _ _ (XS.made I1 mk) q1⟩)
noncomputable def zbV(sp:Sp)(dvs:List V)(R:XR)(t:TA):TE:=fun σ H Q=>t σ H fun vs H1=>sp (vs++dvs) H1 Q fun c d H'=>R (c,d) σ H'
theorem Q3i(F:FnOk X.prog X.w X.K X.mg X.base (CX1 X.prog X.w) k f fd ps sp)(hr:Room k X.A)(hg:Gl X x)(hm:X.mg x=some (.ref f))(hk:keepIn X.K (.ref f)=true)(hb:Binds X.K fd ps ds)(hd:Vals dvs ds)(hx:zaf X R)
  (ha:PA X (e::es) t) (hdb:(x==("__debug__" : Str))=false) (he:starEach (e::es) X.env=(false,eval e X.env)::starEach es X.env) (hpl:(backTo pos (starEach es X.env)).any (·.1)=false) :
  PE X (.Call (.Name x p) (e::es) [] pos) (zbV sp dvs R t):=by
 intro pins s σ H Q I h;refine ZX (Q0I I hg hm ?_ hdb);refine callWith_K (h₀:=X.base) I.ok.mod.kin hk (thn (ha pos pins s σ H _ I h) fun us s1 ⟨vs,H1,I1,r,q⟩=>⟨I1.kIn,?_⟩) he hpl;have r2:Vals (vs++dvs) (us++ds):=r.append hd;have hl:(us++ds).length=ps.length:=by rw[<- r2.length];exact F.len _ _ _ _ q
 refine wpAny_call (codeAny_mono (F.run X.A X.stack s1 H1 ⟨us,[]⟩ (us++ds) (vs++dvs) Q _ hr I1.env0 (hb s1 us I1.kIn hl) r2 q) fun r s' hq=>?_);cases r with
 | error e =>
  have hq':CX1 X.prog X.w X.stack H1 s1 (fun c d H'=>R (c,d) σ H') e s':=hq;obtain⟨a,cls,H',rfl,x,hE⟩:=XS.pass rfl rfl I1 hq';exact hx _ _ _ _ _ _ x hE
 | ok fl =>
  cases fl with
  | ret u=>exact I1.after hq
  | next=>exact False.elim hq
  | brk=>exact False.elim hq
  | cont=>exact False.elim hq
noncomputable def xeOf(X:Cx)(R:XR):Value->Shared->Prop:=fun e s=>∃ pins σ H a cls,e=.ref a/\XS X pins σ H s a cls/\R cls σ H
theorem XS.wish{E:Value->Shared->Prop}(x:XS X pins σ H s a cls):XS (X.wish E) pins σ H s a cls:=⟨x.inv.wish E,x.ex⟩
theorem XS.unwish{E:Value->Shared->Prop}(x:XS (X.wish E) pins σ H s a cls):XS X pins σ H s a cls:=⟨x.inv.unwish,x.ex⟩
theorem Q8u(R:XR):zaf (X.wish (xeOf X R)) R:=fun pins σ H s a cls x r=>⟨pins,σ,H,a,cls,rfl,x.unwish,r⟩
theorem QbH(t:Top X)(R:XR):PassesOwn (model X.prog X.w) X.A X.env (xeOf X R):=by
 rintro e s' ⟨pins,σ,H,a,cls,rfl,x,r⟩;exact x.own t fun s' x'=>⟨pins,σ,H,a,cls,rfl,x',r⟩
noncomputable def handling(X:Cx)(v:Value):Cx:={ X with A:=X.A.mark (some v),calm:=false,xe:=fun _ _=>False }
theorem Inv.handling(I:Inv X pins σ H s):Inv (L2.handling X v) pins σ H s :=
 ⟨⟨I.ok.mod,I.ok.kind,I.ok.glob,I.ok.blt,I.ok.above,I.ok.inj,I.ok.has,I.ok.cab,(fun z=>nomatch z),I.ok.frames,I.ok.stk,I.ok.exf,I.ok.bs,I.ok.bsz,I.ok.noex,I.ok.exfs,I.ok.funs,I.ok.frf⟩,I.os,I.bare,I.base,I.loc,I.cell,I.free,I.freeC,I.pin,I.hok,I.len⟩
theorem Inv.unhandling(ok:X.Ok)(I:Inv (L2.handling X v) pins' σ' H' s'):Inv X pins' σ' H' s' :=
 ⟨ok,I.os,I.bare,I.base,I.loc,I.cell,I.free,I.freeC,I.pin,I.hok,I.len⟩
noncomputable abbrev Cx.holds(X:Cx)(pins:List (Addr×Obj))(E:Value->Shared->Prop):Cx:={ X with pn:=X.pn++pins,xe:=E }
theorem Cx.Ok.holds(ok:X.Ok)(pins:List (Addr×Obj))(E:Value->Shared->Prop):(X.holds pins E).Ok :=
 ⟨ok.mod,ok.kind,ok.glob,ok.blt,ok.above,ok.inj,ok.has,ok.cab,ok.hd,ok.frames,ok.stk,ok.exf,ok.bs,ok.bsz,ok.noex,ok.exfs,ok.funs,ok.frf⟩
theorem Inv.holds(I:Inv X pins σ H s)(E:Value->Shared->Prop):Inv (X.holds pins E) [] σ H s :=
 ⟨I.ok.holds pins E,I.os,I.bare,I.base,I.loc,I.cell,I.free,I.freeC,fun p hp=>I.pin p (by simpa using hp),I.hok,I.len⟩
theorem Inv.unholds{E:Value->Shared->Prop}(ok:X.Ok)(I:Inv (X.holds pins E) pins' σ H s):Inv X pins σ H s :=
 ⟨ok,I.os,I.bare,I.base,I.loc,I.cell,I.free,I.freeC,fun p hp=>I.pin p (ZK _ hp),I.hok,I.len⟩
theorem SP.unholds{E:Value->Shared->Prop}{pins':List (Addr×Obj)}{D:Ends}{f:Flow}(ok:X.Ok)(h:SP (X.holds pins E) pins' D f s):SP X pins D f s:=by
 cases f with
 | next=>obtain⟨σ',H',I,q⟩:=h;exact⟨σ',H',I.unholds ok,q⟩
 | brk=>obtain⟨σ',H',I,q⟩:=h;exact⟨σ',H',I.unholds ok,q⟩
 | cont=>obtain⟨σ',H',I,q⟩:=h;exact⟨σ',H',I.unholds ok,q⟩
 | ret u=>obtain⟨v,σ',H',I,r,q⟩:=h;exact⟨v,σ',H',I.unholds ok,r,q⟩
theorem SP.unhandling{v:Value}{D:Ends}{f:Flow}(ok:X.Ok)(h:SP (L2.handling X v) pins D f s):SP X pins D f s:=by
 cases f with
 | next=>obtain⟨σ',H',I,q⟩:=h;exact⟨σ',H',I.unhandling ok,q⟩
 | brk=>obtain⟨σ',H',I,q⟩:=h;exact⟨σ',H',I.unhandling ok,q⟩
 | cont=>obtain⟨σ',H',I,q⟩:=h;exact⟨σ',H',I.unhandling ok,q⟩
 | ret u=>obtain⟨v,σ',H',I,r,q⟩:=h;exact⟨v,σ',H',I.unhandling ok,r,q⟩
noncomputable def tTry(C:Addr)(tb:XR->TS)(th:TS):TS:=fun D σ H=>tb (fun cls σ' H'=>cls=(.ref C,none)/\th D σ' H') D σ H
end
section
variable{X:Cx}{pins:List (Addr×Obj)}{σ:St}{H:Hp}{s:Shared}{scope:Scope}{N fn:List Str}{k:Nat}{ix:List Nat}{elt tg iter:Expr}{ifs:List Expr}{pos:Pos}{g:TG}{tc:TT}{te:TE}
theorem Q2l{EX:List (Str×Addr)->Addr->Shared->Hp->List Addr->Value->Shared->Prop}{tn:Nat->Heap->Prop}{RR:Value->Addr->Result->Shared->Prop}{E:Value->Shared->Prop}{R:List V->Hp->Prop}
  (hc:X.calm=true) (ok:zax X.env.scope scope N k fn) (hix:ix.map (fun i=>X.N[i]?)=fn.map some)
  (hg:∀ cl C s₀ H₀ ex,PG (za3 X scope N cl C s₀ H₀ ex (EX cl C s₀ H₀ ex)) tg g) (ht:∀ cl C s₀ H₀ ex,PIfs (za3 X scope N cl C s₀ H₀ ex (EX cl C s₀ H₀ ex)) ifs tc) (he:∀ cl C s₀ H₀ ex,PE (za3 X scope N cl C s₀ H₀ ex (EX cl C s₀ H₀ ex)) elt te)
  (p1:∀ y c,cl.lookup y=some c->X.env.cells.lookup y=some c) (p2:∀ y∈scope.names,y.2=.free->∃ c,cl.lookup y.1=some c)
  (I2:Inv X pins σ H s) (T:Turn X.prog X.w X.K tg J fp it tn) (st2:tn 0 s.heap) (f2:∀ b∈fp,FpOk X pins H b)
  (W:Nat->Nat->List V->Hp->Prop) (w0:∃ m,W 0 m [] H)
  (turn:∀ i m ys H,W i m ys H ->
   (J.stop i H/\ys.length<=sizeLine/\R ys H) \/
   (J.go i H/\∀ y H',J.yld i H y H'->g y (List.replicate k none++ix.map (fun i=>(σ[i]?).getD none)) H' fun σ2 H2=>σ2.drop k=ix.map (fun i=>(σ[i]?).getD none)/\σ2.length=k+ix.length/\tc σ2 H2 fun b H3 =>
    if b=true then te σ2 H3 fun z H4=>ys.length<sizeLine/\∃ m',m'<m/\W (i+1) m' (ys++[z]) H4 else ∃ m',m'<m/\W (i+1) m' ys H3))
  (hE:∀ acc C e s',EX cl C s H fp e s'->notedBy (model X.prog X.w) X.A (compEnvC scope cl C X.env) (fun e s'=>RR (.ref acc) C (.error e) s') e s')
  (fin:∀ ys a C H' s' m,H' a=none->R ys H'->Inv X pins σ (upd H' a (.lst ys)) s'->FpOk X pins (upd H' a (.lst ys)) C->s'.heap.Ns C m->RR (.ref a) C (.ok .next) s') :
  wpAny (model X.prog X.w) X.A (newList []) (fun acc s₃=>wpAny (model X.prog X.w) X.A (newFunctionEnv scope X.env.globals cl [] X.env.qual none .none (some X.env)) (fun cenv s₄ =>
   codeAny (model X.prog X.w) X.A (.compStart (.ListComp elt [⟨tg,iter,ifs,0⟩] scope pos) 0 (.ref it) acc { cenv with scope:=relabel scope X.env }) (RR acc cenv.locals) s₄) E s₃) E s:=by
 refine ZP (wpAny_newFunctionEnv ok.cell (by intro y hy;simp at hy) (fun h₁ hns₁ hsb₁=>?_) ok.kind)
 dsimp only at hns₁ hsb₁ ⊢;generalize hH2:s.heap.push { cls:=.type "list",dict:=none,data:=.seq ([]:List Value).toArray }=Hp2 at hns₁ hsb₁ ⊢;have hC:Hp2.objs.size=s.heap.objs.size+1:=by rw[<- hH2,Heap.size_push]
 have hDC:s.heap.objs.size≠Hp2.objs.size:=by rw[hC];exact ZD (Nat.lt_succ_self _)
 have hCle:s.heap.objs.size<=Hp2.objs.size:=by rw[hC];exact le_succ _
 have old:∀ b o,s.heap.get? b=some o->h₁.get? b=some o:=fun b o e=>hsb₁.extBut b o (by have:=Zn e;rw[hC];exact ZD (Nat.lt_succ_of_lt this)) (Zb _ (hH2 ▸ Zb _ e))
 have hacc:h₁.PlainList s.heap.objs.size #[]:=⟨_,hsb₁.extBut _ _ hDC (Zb _ (hH2 ▸ Zs _ rfl))⟩;have hlt:∀ b∈fp,b<s.heap.objs.size:=fun b hb=>by
  obtain⟨o,e,_⟩:=T.obj _ _ st2 b hb;exact Zn e
 have hns0:h₁.Ns Hp2.objs.size fun _=>none:=by simpa using hns₁
 have I4:Inv (za3 X scope N cl Hp2.objs.size s H fp (EX cl Hp2.objs.size s H fp)) [] (List.replicate k none++zbf X σ ix) H { s with heap:=h₁,toks:=s.toks+([]:List (Str×Value)).length } :=
  I2.comp ok hix p1 p2 hCle hns0 old f2 hlt
 generalize hCC:Hp2.objs.size=C at *;generalize hAA:s.heap.objs.size=acc at *;have hix2:ix.length=fn.length:=by have:=congrArg List.length hix;simpa using this
 -- what stays true of the iterator's objects and of the list
 have fpX:∀ {pins':List (Addr×Obj)} {H':Hp} {b:Addr},b∈fp->H' b=none->FpOk (za3 X scope N cl C s H fp (EX cl C s H fp)) [] H' b:=fun{pins' H' b} hb hn =>
  ⟨hn,(I4.ok.exf b hb).1,I4.ok.exfs b hb,.inl hb,(I4.ok.exf b hb).2,fun p hp=>absurd hp ZN⟩
 have accX:∀ {H':Hp},H' acc=none->FpOk (za3 X scope N cl C s H fp (EX cl C s H fp)) [] H' acc:=fun{H'} hn =>
  ⟨hn,hDC,fun z=>by
   have h1:=I2.stkSub acc z;rcases Zx.mp h1 with q | q
   ·exact absurd I2.lt (by rw[hAA,q];exact lt_irrefl _)
   ·exact I2.nofs (le_of_eq hAA) q,.inr (le_of_eq hAA),fun x c e=>by
   obtain⟨v,o,ho,_⟩:=I2.cell x c (p1 x c e);have:=Zn ho;rw[hAA]at this;exact ZD this,fun p hp=>absurd hp ZN⟩
 have loop:∀ s₃:Shared,s₃={ s with heap:=h₁,toks:=s.toks+([]:List (Str×Value)).length } ->
   codeAny (model X.prog X.w) X.A (.compLoop (.ListComp elt [⟨tg,iter,ifs,0⟩] scope pos) 0 (.ref it) (.ref acc) (compEnvC scope cl C X.env)) (RR (.ref acc) C) s₃:=by
  rintro s₃ rfl;obtain⟨m0,w0⟩:=w0;refine Q8p (EE:=EX cl C s H fp) (fun n s'=>∃ i ys its H',Inv (za3 X scope N cl C s H fp (EX cl C s H fp)) [] (List.replicate k none++zbf X σ ix) H' s'/\tn i s'.heap/\(∀ b∈fp,H' b=none)/\H' acc=none/\s'.heap.PlainList acc its.toArray/\Vals ys its/\W i n ys H')
   (fun e s' q=>hE acc C e s' q) ?_ m0 ⟨0,[],[],H,I4,T.keep _ _ _ st2 fun b _ o e=>old b o e,fun b hb=>(f2 b hb).1,I2.hok.fresh (le_of_eq hAA),hacc,.nil,w0⟩
  rintro n s3 ⟨i,ys,its,H3,I3,st3,fr3,an3,pl3,rv3,w3⟩;obtain⟨nl,pe3⟩:=id pl3;have neA:∀ b∈fp,acc≠b:=fun b hb=>by have:=hlt b hb;exact ZV (ZD this)
  have mA:(acc,({ cls:=.type "list",data:=.seq its.toArray nl }:Obj))∈zaB [acc] s3.heap:=Q0L Zl pe3;have ofA:∀ p∈zaB [acc] s3.heap,p.1=acc:=fun p hp=>Zp.mp (Q3A hp).1;have I3p:Inv (za3 X scope N cl C s H fp (EX cl C s H fp)) (zaB [acc] s3.heap) (List.replicate k none++zbf X σ ix) H3 s3 :=
   I3.pinned (fp:=[acc]) (fun b hb=>by rw[Zp.mp hb];exact accX an3) (fun b hb=>by
    rw[Zp.mp hb];exact⟨_,pe3,fun v z=>nomatch z⟩)
  have fpP:∀ {H':Hp} {b:Addr},b∈fp->H' b=none->FpOk (za3 X scope N cl C s H fp (EX cl C s H fp)) (zaB [acc] s3.heap) H' b:=fun{H' b} hb hn =>
   ⟨hn,(I4.ok.exf b hb).1,I4.ok.exfs b hb,.inl hb,(I4.ok.exf b hb).2,fun p hp=>by
    have hp':p∈([]:List (Addr×Obj))++zaB [acc] s3.heap:=hp;rw[ofA p (by simpa using hp')];exact neA b hb⟩
  rcases turn i n ys H3 w3 with ⟨stop,hz,q⟩ | ⟨go,step⟩
  ·refine thn (T.done (za3 X scope N cl C s H fp (EX cl C s H fp)) rfl rfl rfl hc i _ s3 _ H3 (EX cl C s H fp) I3p (fun b hb=>fpP hb (fr3 b hb)) st3 stop) fun r s4 ⟨hr,I4'⟩=>?_;subst hr;have pl4:s4.heap.PlainList acc its.toArray:=⟨nl,(I4'.pin _ (Zy _ mA)).1⟩;have Ix:=I2.uncomp (acc:=acc) I4' f2 (le_of_eq hAA) an3 pl4 rv3 hz;obtain⟨m,hm,_⟩:=I4'.loc;refine fin ys acc C H3 s4 m an3 q Ix ⟨?_,?_,?_,?_,?_,?_⟩ hm
   ·rw[Q0f (ZV hDC)];exact I4'.free
   ·exact ZV (ZD (Zr I2.lt (by rw[hAA];exact hCle)))
   ·exact I2.nofs (by rw[hAA];exact hCle)
   ·exact .inr (Z7 I2.sz (by rw[hAA];exact hCle))
   ·intro x c e;obtain⟨v,o,ho,_⟩:=I2.cell x c e;have:=Zn ho;rw[hAA]at this;exact ZD (Zr this hCle)
   ·intro p hp;have:=Zn (I2.pin p hp).1;rw[hAA]at this;exact ZD (Zr this hCle)
  ·refine thn (T.item (za3 X scope N cl C s H fp (EX cl C s H fp)) rfl rfl rfl hc i _ s3 _ H3 (EX cl C s H fp) I3p (fun b hb=>fpP hb (fr3 b hb)) st3 go) fun r s4 ⟨u,hr,h4⟩=>?_;subst hr;refine thn h4 fun _ s5 ⟨x,H5,I5,r5,y5,st5,fr5⟩=>?_;have I5':=I5.pinned (fun b hb=>fpP hb (fr5 b hb)) (T.obj _ _ st5);refine thn (hg _ _ _ _ _ _ s5 _ H5 x u _ I5' r5 (step x H5 y5)) fun _ s6 ⟨σ6,H6,I6,hσ6,hl6,q6⟩=>?_;have back:∀ {s7:Shared} {H7:Hp},Inv (za3 X scope N cl C s H fp (EX cl C s H fp)) (zaB [acc] s3.heap++zaB fp s5.heap) σ6 H7 s7 ->
     Inv (za3 X scope N cl C s H fp (EX cl C s H fp)) [] (List.replicate k none++zbf X σ ix) H7 s7/\tn (i+1) s7.heap/\(∀ b∈fp,H7 b=none)/\H7 acc=none/\s7.heap.PlainList acc its.toArray:=fun{s7 H7} I7=>by
    refine⟨(I7.pins_of (pins':=[]) (fun p hp=>absurd hp ZN)).weak ?_ ?_,T.keep _ _ _ st5 fun b hb o e=>(I7.pin (b,o) (Zy _ (Zy _ (Q0L hb e)))).1,fun b hb=>?_,?_,?_⟩
    ·unfold zbf;rw[Zd,length_replicate,Zi,hl6]
    ·intro j v hj;by_cases hjk:j<k
     ·rw[getElem?_append_left (by simpa using hjk),List.getElem?_replicate_of_lt hjk]at hj
      cases hj
     ·have hjk':k<=j:=le_of_not_lt hjk;rw[List.getElem?_append_right (by simpa using hjk'),length_replicate]at hj
      have e:(σ6.drop k)[j-k]? = σ6[j]?:=by rw[List.getElem?_drop];congr 1;omega
      rw[<- e,hσ6];exact hj
    ·obtain⟨o,e,d⟩:=T.obj _ _ st5 b hb;exact (I7.pin (b,o) (Zy _ (Zy _ (Q0L hb e)))).2.1
    ·exact (I7.pin _ (Zy _ (ZK _ mA))).2.1
    ·exact⟨nl,(I7.pin _ (Zy _ (ZK _ mA))).1⟩
   refine thn (ht _ _ _ _ _ _ s6 σ6 H6 _ I6 q6) fun ok s7 ⟨H7,I7,q7⟩=>?_;cases ok with
   | false =>
    have q7':∃ m',m'<n/\W (i+1) m' ys H7:=by simpa using q7
    obtain⟨m',hm',w7⟩:=q7';obtain⟨J7,t7,f7,a7,p7⟩:=back I7;exact (Zj ZA).mpr ⟨m',hm',i+1,ys,its,H7,J7,t7,f7,a7,p7,rv3,w7⟩
   | true =>
    refine (Zm rfl).mpr ?_;have q7':te σ6 H7 fun z H4=>ys.length<sizeLine/\∃ m',m'<n/\W (i+1) m' (ys++[z]) H4:=by simpa using q7
    refine thn (he _ _ _ _ _ _ s7 σ6 H7 _ I7 q7') fun uz s8 zz=>?_;obtain⟨z,H8,I8,r8,hz8,m',hm',w8⟩:=zz;obtain⟨J8,t8,f8,a8,p8⟩:=back I8;have hlen:=rv3.length;refine wpAny_list_append_plain (hsz:=by rw[ZH,<- hlen];exact le_of_lt hz8) p8 fun h9 pl9 sb9=>?_
    obtain⟨x0,x1,x2,x3,x4,x5⟩:=accX a8;refine⟨m',hm',i+1,ys++[z],its++[uz],H8,J8.turned (t':=s8.toks) (fun b o hb e=>(sb9.2 b hb).trans e) x0 x1 x3 x4 x5,T.keep _ _ _ t8 fun b hb o e=>(sb9.2 b (ZV (neA b hb))).trans e,f8,a8,?_,rv3.append (.cons r8 .nil),w8⟩;simpa using pl9
 exact codeAny_compStart_list (loop _ rfl) (T.self _ _ _ _ _ (T.keep _ _ _ st2 fun b _ o e=>old b o e) (loop _ rfl))
theorem Q1O{h h' b b':Heap}:∀ {l:List Env},h.FunFrames b l->(∀ x∈frs l,b'.get? x=none)->(∀ x∈frs l,∀ o,h.get? x=some o->h'.get? x=some o)->h'.FunFrames b' l
 | [],_,_,_=>trivial
 | env::r,⟨hk,⟨L,o,hf,hn,ho,hd⟩,hr⟩,hb,hc=>by
  have hL:L∈frs (env::r):=by unfold frs;rw[filterMap_cons,hf];exact Zl
  have tl:∀ x∈frs r,x∈frs (env::r):=fun x hx=>by
   unfold frs at hx ⊢;rw[filterMap_cons,hf];exact Zo _ hx
  exact⟨hk,⟨L,o,hf,hb L hL,hc L hL o ho,hd⟩,Q1O hr (fun x hx=>hb x (tl x hx)) fun x hx=>hc x (tl x hx)⟩
theorem XS.uncomp{Rp:XR}{cl:List (Str×Addr)}{C:Addr}{fp:List Addr}{use:Option (Value->Sem Unit)}{Q:Value->Shared->Prop}{acc e:Value}{s':Shared}(hx:zaf X Rp)(tp:Top X)(I2:Inv X pins σ H s)(f2:∀ b∈fp,FpOk X pins H b)
  (q:xeOf (za3 X scope N cl C s H fp XF) (fun cls _ H'=>Rp cls σ H') e s') :
  notedBy (model X.prog X.w) X.A (compEnvC scope cl C X.env) (fun e s'=>compPost (model X.prog X.w) X.A X.xe use Q acc C (.error e) s') e s':=by
 obtain⟨pins',σ',H',a,cls,rfl,x,r⟩:=q;have tp':Top (za3 X scope N cl C s H fp XF):=by
  obtain⟨e0,rr,L,h1,h2,h3⟩:=tp.ex;exact⟨e0,rr,L,h1,h2,h3⟩
 unfold notedBy;refine XS.note (X:=za3 X scope N cl C s H fp XF) tp' x fun s1 x1=>?_;obtain⟨I',B,⟨f1,f2',f3,xt,a0,fl,oe,vs,T,oT,ts,he,hcls,hd,hv1,hnT,hTe,hT,hdT,h3⟩,hok,old,hp,xn⟩:=x1;obtain⟨m,hm,_⟩:=I'.loc;have hm':s1.heap.Ns C m:=hm;refine⟨m,hm',fun h' sb cenv hcenv=>?_⟩;obtain⟨oC,es,ep,hC,hdC,_⟩:=id hm';have aC:a≠C:=fun z=>by rw[z,hC]at he;cases he;rw[hdC]at hd;cases hd
 have TC:T≠C:=fun z=>by rw[z,hC]at hT;cases hT;rw[hdC]at hdT;cases hdT
 have Cge:s.heap.objs.size<=C:=I'.ok.above;have ltC:∀ {b:Addr} {o:Obj},s.heap.get? b=some o->b≠C:=fun e=>ZD (Zr (Zn e) Cge);have frC:∀ b∈frs X.stack,b≠C:=fun b hb=>by
  obtain⟨_,o,ho,_⟩:=I2.stack.mem hb;exact ltC ho
 have up:∀ b o,b≠C->s1.heap.get? b=some o->h'.get? b=some o:=fun b o hb e=>(sb.2 b hb).trans e;have stays:(zal B [C]).StaysIn h':=fun b o e=>by
  rw[Q0x]at e;split at e
  ·cases e
  ·rename_i hb;exact up b o (fun z=>hb (by simp[z])) (f1 b o e)
 have sub:∀ {b:Addr},B.get? b=none->(zal B [C]).get? b=none:=fun e=>by rw[Q0x];split <;> first | rfl | exact e
 have xt':Xtr (zal B [C]) h' a cls:=by
  obtain⟨oe',vs',z1,z2,z3,z4⟩:=xt;exact⟨oe',vs',up _ _ aC z1,z2,z3,fun n d z=>let ⟨y1,od,y2,y3⟩:=z4 n d z;⟨y1,od,(Q0m (l:=[C]) fun q=>(xn n d z).2 (Zp.mp q)).trans y2,y3⟩⟩
 have fly':FlyT (zal B [C]) X.stack a cls h':=⟨stays,sub f2',Q1O (l:=X.stack) f3 (fun x hx=>by
   obtain⟨hn,_⟩:=f3.mem hx;exact sub hn) (fun x hx o e=>up x o (frC x hx) e),xt',a0,fl,oe,vs,T,oT,ts,up _ _ aC he,hcls,hd,hv1,sub hnT,hTe,up _ _ TC hT,hdT,h3⟩
 have old':zc8 (X.fs++X.ex) X.H₀ X.s₀.heap (zal B [C]):=fun b o e hb=>by
  rw[Z3]at hb;obtain⟨o1,e1⟩:=I2.base.there b o e fun z=>hb (.inr z);have hfp:b∉fp:=fun z=>by
   obtain⟨_,_,_,z1,_⟩:=f2 b z;rcases z1 with z1 | z1
   ·exact hb (.inr z1)
   ·exact absurd (Zn e) (not_lt.mpr z1)
  obtain⟨o2,e2,h2⟩:=old b o1 e1 fun z=>by
   rcases Z3.mp z with z | z
   ·exact I2.notStk e (fun z=>hb (.inl z)) z
   ·exact hfp z
  refine⟨o2,by rw[Q0m (by simpa using ltC e1)];exact e2,fun hn=>?_⟩
  have k1:=I2.base.keep b o e hn (fun z=>hb (.inl z)) fun z=>hb (.inr z);rw[e1]at k1;cases k1;exact h2 (I2.base.free b o e hn fun z=>hb (.inr z))
 have pin':∀ p∈X.pn++pins,(zal B [C]).get? p.1=some p.2:=fun p hpm=>by
  obtain⟨p1,p2,p3,p4,p5⟩:=I2.pin p hpm;obtain⟨o2,e2,h2⟩:=old p.1 p.2 p1 fun z=>by
   rcases Z3.mp z with z | z
   ·rcases Zx.mp (I2.stkSub _ z) with q | q
    ·exact p3 q
    ·exact p4 q
   ·exact (f2 p.1 z).2.2.2.2.2 p hpm rfl
  rw[Q0m (by simpa using ltC p1),e2,h2 p2]
 have hok':HOk X.prog X.w H' (zal B [C]):=fun b u e=>by
  have nC:∀ {c:Addr} {v:HO},H' c=some v->c∉[C]:=fun{c v} e z=>by
   have hz:c=C:=by simpa using z
   have:H' C=none:=I'.free;rw[hz,this]at e;cases e
  refine (hok b u e).stay (fun c v hc e'=>?_) (fun _ z=>z) fun _ _ z=>z;rcases hc with rfl | hc
  ·rw[Q0m (nC e)];exact e'
  ·rw[Q0m (nC hc)];exact e'
 have xn':XN X cls:=fun n d z=>⟨Z7 I2.sz (xn n d z).1,by
  obtain⟨m2,hn2,_⟩:=I2.loc;exact ne_of_gt (Zr hn2.lt (xn n d z).1)⟩
 have fin:∀ h2,FlyT (zal B [C]) X.stack a cls h2->h'.UpToSlots h2->X.xe (.ref a) { s1 with heap:=h2 }:=fun h2 fl2 up2=>by
  have b0:Un (frs X.stack) fp H H' s.heap s1.heap:=I'.base;have keep:∀ b o,s.heap.get? b=some o->b∉frs X.stack->b∉fp->∃ o',h2.get? b=some o'/\(H b=none->o'=o):=fun b o e n1 n2=>by
   obtain⟨o2,e2,q2⟩:=old b o e fun z=>(Z3.mp z).elim n1 n2;exact⟨o2,fl2.1 b o2 (by rw[Q0m (by simpa using ltC e)];exact e2),q2⟩
  have slot:∀ b o,s.heap.get? b=some o->H b=none->b∈frs X.stack->b∉fp->∃ sl,h2.get? b=some { o with slots:=sl }:=fun b o e n h1 n2=>by
   obtain⟨sl,e1⟩:=b0.slot b o e n h1 n2;obtain⟨_,o2,e2,nf⟩:=I2.stack.mem h1;rw[e]at e2;cases e2;obtain⟨sl',e3⟩:=up2 b _ (up b _ (frC b h1) e1) nf;exact⟨sl',e3⟩
  have un:Un (frs X.stack) fp H H' s.heap h2:=⟨fun b o e n n1 n2=>by
    obtain⟨o',e',q'⟩:=keep b o e n1 n2;rw[q' n]at e';exact e',slot,b0.free,fun b o e n2=>by
    by_cases n1:b∈frs X.stack
    ·obtain⟨sl,e'⟩:=slot b o e (I2.stkFree b n1) n1 n2;exact⟨_,e'⟩
    ·obtain⟨o',e',_⟩:=keep b o e n1 n2;exact⟨o',e'⟩,b0.tups,b0.frzs,b0.tbls⟩
  have I3:Inv X pins σ H' { s1 with heap:=h2 }:=I2.call' (s':={ s1 with heap:=h2 }) I'.os un (hok'.kept fl2.1) I'.bare fun b hb=>⟨(f2 b hb).2.2.2.1,(f2 b hb).2.1,(f2 b hb).2.2.2.2.1,(f2 b hb).2.2.2.2.2⟩;exact hx pins σ H' _ a cls ⟨I3,zal B [C],.inl fl2,hok',old',pin',xn'⟩ r
 unfold PySem.passOn;refine Za (Q2k (s:={ s1 with heap:=h' }) fly' fun T'=>?_);rw[Zj (by simp)]
 first
  | exact Za (Q4v (s:={ s1 with heap:=h' }) fly' fun h2 fl2 up2=>wpAny_throw (fin h2 fl2 up2))
  | exact Za (Zh (Za (Q4v (s:={ s1 with heap:=h' }) fly' fun h2 fl2 up2=>wpAny_throw (fin h2 fl2 up2))))
theorem Q1f(R:XR):zaf (za3 X scope N cl C s₀ H₀ ex (xeOf (za3 X scope N cl C s₀ H₀ ex XF) R)) R :=
 Q8u (X:=za3 X scope N cl C s₀ H₀ ex XF) R
section
variable{R0:XC->Hp->Prop}{wi:TI}
theorem Q4P(tp:Top X)(hx:zaf X fun cls _ H=>R0 cls H)(hc:X.calm=true)(ok:zax X.env.scope scope N k fn)(hix:ix.map (fun i=>X.N[i]?)=fn.map some)(hi:PI X tg iter wi)
  (hg:∀ cl C s₀ H₀ ex E,PG (za3 X scope N cl C s₀ H₀ ex E) tg g) (ht:∀ cl C s₀ H₀ ex E,zaf (za3 X scope N cl C s₀ H₀ ex E) (fun cls _ H=>R0 cls H)->PIfs (za3 X scope N cl C s₀ H₀ ex E) ifs tc) (he:∀ cl C s₀ H₀ ex E,zaf (za3 X scope N cl C s₀ H₀ ex E) (fun cls _ H=>R0 cls H)->PE (za3 X scope N cl C s₀ H₀ ex E) elt te)
  (hs:∀ x,foldedSetIterable iter X.env x=pure x:=by intro _;rfl):PE X (.ListComp elt [⟨tg,iter,ifs,0⟩] scope pos) (tComp wi k ix g tc te):=by
 intro pins s σ H Q I h;obtain⟨cl,hcl,p1,p2⟩:=Q6x I ok;rw[eval_ListComp];refine wpAny_comprehension_free (use:=none) rfl hs hcl ok.kind ok.names (thn (hi pins s σ H _ I h) fun v s1 h1=>thn h1 fun itv s2 h2=>?_);obtain⟨it,fp,tn,J,H2,e,I2,T,st2,f2,W,w0,turn⟩:=h2;subst e;refine Q2l (EX:=fun cl C s₀ H₀ ex=>xeOf (za3 X scope N cl C s₀ H₀ ex XF) fun cls _ H'=>R0 cls H') (RR:=fun acc C=>compPost (model X.prog X.w) X.A X.xe none (EP X pins σ Q) acc C) (R:=fun ys H=>∀ a,H a=none->Q (.ref a) (upd H a (.lst ys))) hc ok hix
  (fun cl C s₀ H₀ ex=>hg cl C s₀ H₀ ex _) (fun cl C s₀ H₀ ex=>ht cl C s₀ H₀ ex _ (Q1f _)) (fun cl C s₀ H₀ ex=>he cl C s₀ H₀ ex _ (Q1f _)) p1 p2 I2 T st2 f2 W w0 turn (fun acc C e s' q=>XS.uncomp (Rp:=fun cls _ H=>R0 cls H) hx tp I2 f2 q) ?_
 intro ys a C H' s' m ha q I' fC hm;refine⟨m,hm,fun h' sb=>⟨.ref a,_,?_,rfl,q a ha⟩⟩;obtain⟨x0,x1,x2,x3,x4,x5⟩:=fC;exact I'.turned (t':=s'.toks) (fun b o hb e=>(sb.2 b hb).trans e) x0 x1 x3 x4 x5
theorem Q2m(tp:Top X)(hx0:zaf X fun cls _ H=>R0 cls H)(hsw:swapsWith (.ListComp elt [⟨tg,iter,ifs,0⟩] scope pos) (some (.Name x pos')) spos.line X.env=pure true)
  (hN:X.N.Nodup) (hiN:X.N[i]? = some x) (hx:X.env.scope.names.lookup x=some .local) (hc:X.calm=true) (ok:zax X.env.scope scope N k fn) (hix:ix.map (fun i=>X.N[i]?)=fn.map some) (hi:PI X tg iter wi)
  (hg:∀ cl C s₀ H₀ ex E,PG (za3 X scope N cl C s₀ H₀ ex E) tg g) (ht:∀ cl C s₀ H₀ ex E,zaf (za3 X scope N cl C s₀ H₀ ex E) (fun cls _ H=>R0 cls H)->PIfs (za3 X scope N cl C s₀ H₀ ex E) ifs tc) (he:∀ cl C s₀ H₀ ex E,zaf (za3 X scope N cl C s₀ H₀ ex E) (fun cls _ H=>R0 cls H)->PE (za3 X scope N cl C s₀ H₀ ex E) elt te)
  (hs:∀ x,foldedSetIterable iter X.env x=pure x:=by intro _;rfl):PS X (.Assign [.Name x pos'] (.ListComp elt [⟨tg,iter,ifs,0⟩] scope pos) spos) (tAsg (tComp wi k ix g tc te) (zaS i)):=by
 intro pins s σ H D I h;obtain⟨cl,hcl,p1,p2⟩:=Q6x I ok;rw[exec_Assign_Name_used _ _ _ _ hsw];refine Za (wpAny_standAt (Za ?_));show wpAny _ X.A (do let _ <- comprehension (.ListComp elt [⟨tg,iter,ifs,0⟩] scope pos) scope X.env _ (newList []) false (eval iter X.env) (some (assign (.Name x pos') X.env))) _ _ s
 refine Za (Z4 (wpAny_comprehension_free (use:=some (assign (.Name x pos') X.env)) (Q:=fun _ s'=>SP X pins D .next s') rfl hs hcl ok.kind ok.names
  (thn (hi pins s σ H _ I h) fun v s1 h1=>thn h1 fun itv s2 h2=>?_)) (fun _ s' hq=>Zh (Zh hq)) fun _ _ e=>e)
 obtain⟨it,fp,tn,J,H2,e,I2,T,st2,f2,W,w0,turn⟩:=h2;subst e;refine Q2l (EX:=fun cl C s₀ H₀ ex=>xeOf (za3 X scope N cl C s₀ H₀ ex XF) fun cls _ H'=>R0 cls H') (RR:=fun acc C=>compPost (model X.prog X.w) X.A X.xe (some (assign (.Name x pos') X.env)) (fun _ s'=>SP X pins D .next s') acc C) (R:=fun ys H=>∀ a,H a=none->D.nx (σ.set i (some (.ref a))) (upd H a (.lst ys))) hc ok hix
  (fun cl C s₀ H₀ ex=>hg cl C s₀ H₀ ex _) (fun cl C s₀ H₀ ex=>ht cl C s₀ H₀ ex _ (Q1f _)) (fun cl C s₀ H₀ ex=>he cl C s₀ H₀ ex _ (Q1f _)) p1 p2 I2 T st2 f2 W w0 turn (fun acc C e s' q=>XS.uncomp (Rp:=fun cls _ H=>R0 cls H) hx0 tp I2 f2 q) ?_
 intro ys a C H' s' m ha q I' fC hm;obtain⟨x0,x1,x2,x3,x4,x5⟩:=fC;show wpAny _ X.A (assign (.Name x pos') X.env (.ref a)) _ _ s';refine wpAny_assign_Name (Q3z I' hN hiN (.inl hx) (v:=.ref a) rfl (fun s'' I'' ⟨b,sb,hb⟩=>?_) (.inr hx));have hCb:C≠b:=by
  rcases hb with z | z
  ·rw[z];exact x1
  ·exact fun w=>x4 _ _ z w.symm
 refine⟨m,hm.sameBut sb hCb,fun h' sb2=>⟨_,_,I''.turned (t':=s''.toks) (fun b o hb e=>(sb2.2 b hb).trans e) x0 x1 x3 x4 x5,q a ha⟩⟩
end
theorem QbI{P:Program}{w:World}{K:Frag}{mg:Str->Option Value}{base:Heap}{k:Nat}{f:Addr}{name qual:Str}{params:Arguments}{body:List Stmt}{scope:Scope}{dV kV doc pm cdv ct oc:Value}{an od:Option Addr}
  {osl:Array (Option Value)} {N ps:List Str} {sp:Sp} (lk:K.lookup f=some ⟨oc,od,.func (fnOf name qual params body scope dV kV doc pm an cdv ct),osl⟩) (hcd:codeIn K cdv qual=true) (S:zat N ps scope)
  (len:∀ vs H Q E,sp vs H Q E->vs.length=ps.length)
  (hbody:∀ (A:Around) (outer:List Env) (s:Shared) (H:Hp) (vs:List V) (Q:VK) (E:XK),Room k (A.deeper (envOfC qual scope s.heap.objs.size f cdv))->sp vs H Q E ->
   ∃ t,PSs ((cxOf (CX1 P w) P w K mg base N qual scope f cdv A outer s H E).wish (xeOf (cxOf (CX1 P w) P w K mg base N qual scope f cdv A outer s H E) fun cls _ H'=>E cls.1 cls.2 H')) body t/\t { nx:=fun _ H'=>Q .non H',rt:=Q } (start N vs) H) :
  FnOk P w K mg base (CX1 P w) (k+1) f (fnOf name qual params body scope dV kV doc pm an cdv ct) ps sp:=by
 refine fn_of lk hcd S len fun A outer s H vs Q E hr hsp=>?_;obtain⟨t,ht,hq⟩:=hbody A outer s H vs Q E hr hsp;refine⟨t,fun pins s1 σ H1 D I q=>Z4 (ht pins s1 σ H1 D (I.wish _) q) (fun _ _ q=>q.unwish) ?_,hq⟩;rintro e s2 ⟨pins',σ',H',a,cls,rfl,x,r⟩;exact XS.leave (X:=cxOf (CX1 P w) P w K mg base N qual scope f cdv A outer s H E) rfl rfl rfl rfl rfl rfl x r _
end
structure XLook(K:Frag)(D:Addr):Prop where
 cls0:PySem.W.isClsIn K D=true
 ga:findIn K (.ref D) "__getattribute__" = some (some (.builtin "BaseException.__getattribute__"))
 gh:findIn K (.ref D) "__getattr__" = some none
 ca:findIn K (.ref D) "__class__" = some (some (.builtin "object.__class__"))
 gg:PySem.W.specialIn K (.builtin "object.__class__") "__get__" = some (some (.builtin "getset_descriptor.__get__"))
 tk:PySem.W.takesIn K (.builtin "object.__class__")=some true
 ob:PySem.W.mroIn K D (.type "object")=some true
 be:PySem.W.mroIn K D (.type "BaseException")=some true
 ty:PySem.W.typeIn K (.ref D)=some (.type "type")
 self:PySem.W.mroIn K D (.ref D)=some true
theorem XLook.cls{K:Frag}{D:Addr}(L:XLook K D):(PySem.W.clsIn K D).isSome=true:=L.cls0
noncomputable def XAt(D x:Addr)(h:Heap):Prop:=∃ o,h.get? x=some o/\o.cls=.ref D
theorem XAt.look(I:XAt D x h):PySem.W.Looks M h (typeOf (.ref x)) (.ref D):=by
 obtain⟨o,e,c⟩:=I;exact c ▸ PySem.W.Looks.andThen (PySem.W.Looks.ld e) PySem.W.Looks.now
theorem Q2n{K:Frag}{D:Addr}{h:Heap}{M:Model}(L:XLook K D)(X:K.In h):PySem.W.Looks M h (isType (.ref D)) true:=by
 obtain⟨cd,e⟩:=Yk.mp L.cls;unfold PySem.W.clsIn at e;split at e <;> first | cases e | skip
 rename_i ho;intro A Q E s k q;unfold isType loadHead;refine Za ?_;exact wpAny_loadPart (k _ _ (X _ _ ho)) (Zh q)
section
variable{prog:Program}{w:World}{A:Around}{E:Value->Shared->Prop}{s:Shared}{K:Frag}{x D:Addr}
theorem QbJ{R:Result->Shared->Prop}(L:XLook K D)(X:K.In s.heap)(I:XAt D x s.heap)(h:R (.ok (.ret (.ref D))) s) :
  codeAny (model prog w) A (.call (.builtin "getset_descriptor.__get__") ⟨[.builtin "object.__class__",.ref x,tp],[]⟩) R s:=by
 obtain⟨hp,gn,dr,tn,os⟩:=s;have T0:=I.look (M:=model prog w);have T1:=looks_mroIn (M:=model prog w) X L.ob;refine codeAny_call_builtin (hq:=PySem.W.KF.slot_gs.plain) (hb:=PySem.W.KF.entry_gs) ?_;refine PySem.W.KF.slot_gs.check _ _ _ _ _ _ _ _ PySem.W.KF.type_class (PySem.W.KF.args_gs _ _ _) ?_;unfold Builtin.«getset_descriptor.__get__»;unfold Builtin.Getset_descriptor.descrGet;rw[PySem.W.dga_obj];refine Za (Zh ?_);unfold Builtin.Getset_descriptor.descrGetter Builtin.Getset_descriptor.descrCheckInstance Builtin.Getset_descriptor.descrNameAndClass isInstance;simp only[PySem.W.KF.owner_class]
 repeat lk
 refine⟨Code.quiet_builtin _ (by decide +kernel),codeAny_builtin PySem.W.KF.entry_class ?_⟩
 unfold Builtin.«object.__class__» shownTypeOf
 repeat lk
 exact h
theorem Qaa{R:Result->Shared->Prop}(L:XLook K D)(X:K.In s.heap)(I:XAt D x s.heap)(hq:R (.ok (.ret (.ref D))) s) :
  codeAny (model prog w) A (.call (.builtin "BaseException.__getattribute__") ⟨[.ref x,.str "__class__" tk],[]⟩) R s:=by
 obtain⟨hp,gn,dr,tn,os⟩:=s;have T0:=I.look (M:=model prog w);have T3:=looks_mroIn (M:=model prog w) X L.be;have T4:=looks_findIn (M:=model prog w) X L.ca;have T5:=PySem.W.looks_specialIn (M:=model prog w) X L.gg;have T6:=looks_takesIn (M:=model prog w) X L.tk;have kd:builtinKind "BaseException.__getattribute__" = some .slot:=by decide +kernel
 have sp:splitId "BaseException.__getattribute__" = some ("BaseException","__getattribute__"):=by decide +kernel
 have ha:=F.args_bexc_ga (.ref x) (.str "__class__" tk);refine codeAny_call_builtin F.excAttr_ValueError.ga.plain F.entry_bexc_ga ?_;simp only[checkBuiltinCall,kd,sp];unfold isInstance
 repeat (first | with_reducible refine wpAny_call (QbJ (s:=⟨hp,gn,dr,tn,os⟩) L X I ?_) | lk)
 exact hq
theorem QbK{Q:Option Value->Shared->Prop}(L:XLook K D)(X:K.In s.heap)(I:XAt D x s.heap)(h:Q (some (.ref D)) { s with toks:=s.toks+1 }):wpAny (model prog w) A (getAttr? (.ref x) "__class__") Q E s:=by
 obtain⟨hp,gn,dr,tn,os⟩:=s;have T0:=I.look (M:=model prog w);have T1:=looks_findIn (M:=model prog w) X L.ga;have T2:=looks_findIn (M:=model prog w) X L.gh;have ne:(Value.builtin "BaseException.__getattribute__" == Value.builtin "object.__getattribute__")=false:=by decide +kernel
 unfold getAttr? getAttrBy?;refine Za (wpAny_mkText (Za (wpAny_attempt ?_)));unfold getAttrBy;refine Ye (Za (T0.at (Za (T1.at ?_))));simp only[ne,Bool.and_false,ZT,Yj];unfold getAttrByItsOwn hookBefore;refine Za ?_;rw[Zm (by rfl)]
 refine T2.at ?_;refine Za (wpAny_attempt (Ye ?_));unfold callGetattribute;simp only[Bool.false_and,ZT,Yj];unfold boundAndCalled;rw[F.excAttr_ValueError.ga.bind (.ref x)];refine Za (Zh ?_);refine wpAny_call (Qaa (s:=⟨hp,gn,dr,tn+1,os⟩) L X I ?_);exact handed_on rfl (Zh h)
theorem Q8v(L:XLook K D):PySem.W.KitX K (.ref x) (.ref D) (XAt D x) where
 ty:=fun _ _ _ I=>I.look
 it:=fun _ _ X _=>Q2n L X
 ne:=fun h tp dd its n sl X htp=>by
  obtain⟨cd,e⟩:=Yk.mp L.cls;refine eq_false_iff.mpr fun q=>?_;cases Zt.mp q;unfold PySem.W.clsIn at e;split at e <;> first | cases e | skip
  rename_i ho;cases (X _ _ ho).symm.trans htp
 ca:=fun X I k=>QbK L X I k
theorem Q4w{M:Model}{W:Addr}{oe:Obj}{a:Addr}{Q:Bool->Shared->Prop}(X:K.In s.heap)(LW:XLook K W)(he:s.heap.get? a=some oe)(hc:oe.cls=.ref D)(up:PySem.W.mroIn K D (.ref W)=some true)(hq:Q true s) :
  wpAny M A (excMatches (.ref a) (.ref W)) Q E s:=by
 obtain⟨hh,g,d,t,os⟩:=s;have L0:PySem.W.Looks M hh (typeOf (.ref a)) (.ref D):=hc ▸ (PySem.W.Looks.ld he).andThen .now;have L1:=looks_typeIn (M:=M) X LW.ty;have L2:=looks_mroIn (M:=M) X LW.be;have L3:=looks_mroIn (M:=M) X up;have hD:=Q2n (M:=M) LW X;have L4:PySem.W.Looks M hh (isInstance (.ref W) (.type "tuple")) false:=L1.andThen (PySem.W.Looks.of_pure tc_notTuple);have L5:PySem.W.Looks M hh (isExcClass (.ref W)) true:=by
  unfold isExcClass;refine hD.andThen ?_;rw[Zm rfl];exact L2
 unfold excMatches;refine Za (m:=isInstance _ _) (L4.at ?_);simp only[ZT,Yj];refine Za (Zh ?_);simp only[forIn_cons,List.forIn_nil,bind_assoc];refine Za (m:=isExcClass _) (L5.at ?_);simp only[Bool.not_true,ZT,Yj];refine Za (Zh (Za (Zh (Za (L0.at (Za (L3.at ?_)))))));simp only[if_true];exact Za (Zh (Za (Zh (Zh hq))))
end
section
variable{X:Cx}{pins:List (Addr×Obj)}{σ:St}{H:Hp}{s:Shared}{a C f:Addr}{cls:XC}{x:Str}{np cpos pos p:Pos}
theorem objThere(x:ObjOk P w H h b o):∃ u,h.get? b=some u:=by
 cases o with
 | lst xs=>obtain⟨_,_,_,_,e⟩:=x;exact⟨_,e⟩
 | tup xs=>obtain⟨_,_,_,⟨_,e,_⟩⟩:=x;exact⟨_,e⟩
 | dK kvs=>obtain⟨_,_,_,_,o,_,_,e,_⟩:=x;exact⟨_,e⟩
 | dT kvs=>obtain⟨_,_,_,_,o,_,_,e,_⟩:=x;exact⟨_,e⟩
 | set S n=>obtain⟨o,_,_,_,e,_⟩:=x;exact⟨_,e⟩
 | ins C dx fs=>obtain⟨_,_,_,e,_⟩:=x;exact⟨_,e⟩
 | own y=>exact x
 | xd fs=>obtain⟨_,⟨_,_,_,e,_⟩,_⟩:=x;exact⟨_,e⟩
 | rng lo hi=>obtain⟨_,_,_,e⟩:=x;exact⟨_,e⟩
 | frz ob u=>obtain⟨e,_⟩:=x;exact⟨_,e⟩
 | tbl ps=>exact⟨_,x⟩
 | met f y=>exact⟨_,x⟩
 | ext φ=>obtain⟨_,e,_⟩:=x;exact e
noncomputable abbrev handlingAs(X:Cx)(a:Addr)(oe:Obj)(ps:List (Addr×Obj)):Cx:={ L2.handling X (.ref a) with pn:=X.pn++(a,oe)::ps }
theorem Inv.handlingAs(I:Inv X pins σ H s)(h:∀ p∈(a,oe)::ps,s.heap.get? p.1=some p.2/\H p.1=none/\p.1≠X.env.locals/\p.1∉X.fs/\∀ v,p.2.data≠.cell v):Inv (L2.handlingAs X a oe ps) pins σ H s :=
 ⟨⟨I.ok.mod,I.ok.kind,I.ok.glob,I.ok.blt,I.ok.above,I.ok.inj,I.ok.has,I.ok.cab,(fun z=>nomatch z),I.ok.frames,I.ok.stk,I.ok.exf,I.ok.bs,I.ok.bsz,I.ok.noex,I.ok.exfs,I.ok.funs,I.ok.frf⟩,I.os,I.bare,I.base,I.loc,I.cell,I.free,I.freeC,
  fun p hp=>by
   have hp':p∈(X.pn++(a,oe)::ps)++pins:=hp;rcases Z3.mp hp' with hp | hp
   ·rcases Z3.mp hp with hp | hp
    ·exact I.pin p (ZK _ hp)
    ·exact h p hp
   ·exact I.pin p (Zy _ hp),I.hok,I.len⟩
theorem Inv.unhandlingAs(ok:X.Ok)(I:Inv (L2.handlingAs X a oe ps) pins' σ' H' s'):Inv X pins' σ' H' s' :=
 ⟨ok,I.os,I.bare,I.base,I.loc,I.cell,I.free,I.freeC,fun p hp=>I.pin p (by
  show p∈(X.pn++(a,oe)::ps)++pins';rcases Z3.mp hp with hp | hp
  ·exact ZK _ (ZK _ hp)
  ·exact Zy _ hp),I.hok,I.len⟩
theorem Q3j{E:Value->Shared->Prop}{Q:Unit->Shared->Prop}(I:Inv X pins σ H s)(hN:X.N.Nodup)(hi:X.N[i]? = some x)(hk:X.env.scope.names.lookup x=some .local)
  (h:∀ s',Inv X pins (σ.set i none) H s'->Q () s'):wpAny M A (do bindName X.env x .none;unbindBehindTheSuite X.env x pos) Q E s:=by
 obtain⟨m,hn,hl⟩:=id I.loc;have hcls:(X.env.scope.kind==.class||(X.env.scope.kind==.module&&X.env.locals != X.env.globals))=false:=by rw[I.ok.kind];rfl
 have hiσ:i<σ.length:=by rw[I.len];exact (Zv.mp hi).1
 have cne:=I.cne;refine wpAny_nameGoes_keeps hk hn hcls fun h' v hn' hs=>?_;obtain⟨oL,_,_,hoL,_⟩:=id hn;refine h _ ⟨I.ok,I.os,I.bare,⟨fun b o e n hb hx=>?_,fun b o e n hb hx=>?_,I.base.free,fun b o e hx=>?_,I.base.tups,I.base.frzs,I.base.tbls⟩,⟨_,hn',fun j y v' e1 e2 e3=>?_⟩,fun y c e=>?_,I.free,I.freeC,fun p hp=>?_,fun b ob e=>?_,by simpa using I.len⟩
 ·exact (hs.2 b (ZD (Zr (Zn e) I.ok.above))).trans (I.base.keep b o e n hb hx)
 ·obtain⟨sl,e1⟩:=I.base.slot b o e n hb hx;exact⟨sl,(hs.2 b (ZD (Zr (Zn e) I.ok.above))).trans e1⟩
 ·obtain⟨o',e1⟩:=I.base.there b o e hx;exact⟨o',(hs.2 b (ZD (Zr (Zn e) I.ok.above))).trans e1⟩
 ·by_cases hj:j=i
  ·subst hj;rw[List.getElem?_set_self hiσ]at e2;cases e2
  ·rw[List.getElem?_set_ne (ZV hj)]at e2;obtain⟨u',r',q⟩:=hl j y v' e1 e2 e3;refine⟨u',r',?_⟩;rcases q with ⟨k,e⟩ | ⟨k,c,e,z⟩
   ·refine .inl ⟨k,?_⟩;have:y≠x:=fun e=>hj (Q1W hN e1 (e ▸ hi));simp[this,e]
   ·exact .inr ⟨k,c,e,z.sameBut hs (cne y c e)⟩
 ·obtain⟨w',z⟩:=I.cell y c e;exact⟨w',z.sameBut hs (cne y c e)⟩
 ·obtain⟨e,n,ne,nf,d⟩:=I.pin p hp;exact⟨(hs.2 p.1 ne).trans e,n,ne,nf,d⟩
 ·refine (I.hok b ob e).stay (fun c w' hc q=>(hs.2 c ?_).trans q) (fun _ q=>q) fun _ _ q=>q;rintro rfl;rcases hc with rfl | hc
  ·rw[I.free]at e;cases e
  ·rw[I.free]at hc;cases hc
noncomputable def Ends.gone(D:Ends)(i:Nat):Ends:=⟨fun σ H=>D.nx (σ.set i none) H,D.rt,fun σ H=>D.bk (σ.set i none) H,fun σ H=>D.ct (σ.set i none) H⟩
theorem Q6z{prog:Program}{w:World}{A:Around}{E:Value->Shared->Prop}{env:Env}{K:Frag}{ty:Expr}{n:Str}{b0:Stmt}{suite:List Stmt}{hpos:Pos}{rest:List ExceptHandler}{a C W:Addr}{Q:Flow->Shared->Prop}{s:Shared}
  (LW:XLook K W) (up:PySem.W.mroIn K C (.ref W)=some true)
  (h:wpAny (model prog w) (A.mark (some (.ref a))) (eval ty env) (fun c s₁=>c=.ref W/\K.In s₁.heap/\(∃ oe,s₁.heap.get? a=some oe/\oe.cls=.ref C) /\
   wpAny (model prog w) (A.mark (some (.ref a))) (setFlight (.ref a) none) (fun _ s₂=>wpAny (model prog w) (A.mark (some (.ref a))) (storeName env n (.ref a)) (fun _ s₃=>wpAny (model prog w) (A.mark (some (.ref a))) (execs (b0::suite) env)
    (fun f s₄=>wpAny (model prog w) A (do bindName env n .none;unbindBehindTheSuite env n hpos) (fun _ s₅=>Q f s₅) E s₄) (fun _ _=>False) s₃) (fun _ _=>False) s₂) (fun _ _=>False) s₁) (fun _ _=>False) s) :
  wpAny (model prog w) A (handleBy (.ref a) env (.ExceptHandler (some ty) (some n) (b0::suite) hpos::rest)) Q E s:=by
 refine wpAny_handleBy_cons (codeAny_handlers_test (Z4 h (fun c s₁ h₁=>?_) fun _ _ y=>y.elim)) (by intro q;cases q)
 obtain⟨rfl,X,⟨oe,he,hcls⟩,hk⟩:=h₁;exact Q4w X LW he hcls up (codeAny_handlers_suite_as (Z4 hk (fun _ s₂ h₂=>Z4 h₂ (fun _ s₃ h₃=>Z4 h₃ (fun _ _ z=>z) fun _ _ z=>z.elim) fun _ _ z=>z.elim) fun _ _ z=>z.elim))
noncomputable def tTryAs(je:Nat)(ok:Addr->Prop)(tb:XR->TS)(th:Addr->Option (Int×Addr)->Addr->TS):TS:=fun D σ H=>tb (fun cls σ' H'=>∃ C dx,cls=(.ref C,dx)/\ok C/\(∀ n d,dx=some (n,d)->H' d=none)/\∀ a,th C dx a (D.gone je) (σ'.set je (some (.ref a))) H') D σ H
end
section
variable{A:Around}{E:Value->Shared->Prop}{s:Shared}{K:Frag}{D:Addr}
theorem Q4x{Q:Bool->Shared->Prop}(X:K.In s.heap)(LW:XLook K W)(he:s.heap.get? a=some oe)(hc:oe.cls=.ref D)(up:PySem.W.mroIn K D (.ref W)=some false)(hq:Q false s) :
  wpAny M A (excMatches (.ref a) (.ref W)) Q E s:=by
 obtain⟨hh,g,d,t,os⟩:=s;have L0:PySem.W.Looks M hh (typeOf (.ref a)) (.ref D):=hc ▸ (PySem.W.Looks.ld he).andThen .now;have L1:=looks_typeIn (M:=M) X LW.ty;have L2:=looks_mroIn (M:=M) X LW.be;have L3:=looks_mroIn (M:=M) X up;have hD:=Q2n (M:=M) LW X;have L4:PySem.W.Looks M hh (isInstance (.ref W) (.type "tuple")) false:=L1.andThen (PySem.W.Looks.of_pure tc_notTuple);have L5:PySem.W.Looks M hh (isExcClass (.ref W)) true:=by
  unfold isExcClass;refine hD.andThen ?_;rw[Zm rfl];exact L2
 unfold excMatches;refine Za (m:=isInstance _ _) (L4.at ?_);simp only[ZT,Yj];refine Za (Zh ?_);simp only[forIn_cons,List.forIn_nil,bind_assoc];refine Za (m:=isExcClass _) (L5.at ?_);simp only[Bool.not_true,ZT,Yj];refine Za (Zh (Za (Zh (Za (L0.at (Za (L3.at ?_)))))));simp only[ZT,Yj];exact Za (Zh (Za (Zh (Zh hq))))
end
section
variable{X:Cx}{pins:List (Addr×Obj)}{σ:St}{H:Hp}{s:Shared}{a C:Addr}{pos:Pos}
inductive Pick(X:Cx)(n:Str)(C:Addr):List ExceptHandler->List Stmt->Pos->Prop
 | here {x:Str} {np hpos:Pos} {W:Addr} {b0:Stmt} {suite:List Stmt} {rest:List ExceptHandler} (hg:Gl X x) (hdb:(x==("__debug__" : Str))=false) (hm:X.mg x=some (.ref W)) (LW:XLook X.K W) (up:PySem.W.mroIn X.K C (.ref W)=some true) :
   Pick X n C (.ExceptHandler (some (.Name x np)) (some n) (b0::suite) hpos::rest) (b0::suite) hpos
 | skip {x:Str} {np hpos p:Pos} {m:Option Str} {W:Addr} {bs st:List Stmt} {rest:List ExceptHandler} (hg:Gl X x) (hdb:(x==("__debug__" : Str))=false) (hm:X.mg x=some (.ref W)) (LW:XLook X.K W) (up:PySem.W.mroIn X.K C (.ref W)=some false) (r:Pick X n C rest st p) :
   Pick X n C (.ExceptHandler (some (.Name x np)) m bs hpos::rest) st p
theorem Q4y{n:Str}{hs:List ExceptHandler}{st:List Stmt}{hpos:Pos}{E:Value->Shared->Prop}{Q:Flow->Shared->Prop}(P:Pick X n C hs st hpos)(I:Inv (L2.handling X (.ref a)) pins σ H s)(hc:∃ oe,s.heap.get? a=some oe/\oe.cls=.ref C)
  (h:wpAny (model X.prog X.w) (X.A.mark (some (.ref a))) (setFlight (.ref a) none) (fun _ s₂=>wpAny (model X.prog X.w) (X.A.mark (some (.ref a))) (storeName X.env n (.ref a)) (fun _ s₃=>wpAny (model X.prog X.w) (X.A.mark (some (.ref a))) (execs st X.env)
    (fun f s₄=>wpAny (model X.prog X.w) X.A (do bindName X.env n .none;unbindBehindTheSuite X.env n hpos) (fun _ s₅=>Q f s₅) E s₄) (fun _ _=>False) s₃) (fun _ _=>False) s₂) (fun _ _=>False) s) :
  wpAny (model X.prog X.w) X.A (handleBy (.ref a) X.env hs) Q E s:=by
 induction P with
 | here hg hdb hm LW up=>exact Q6z (C:=C) (K:=X.K) LW up (Q0I I hg hm ⟨rfl,I.kIn,hc,h⟩ hdb)
 | skip hg hdb hm LW up r ih =>
  refine wpAny_handleBy_cons (codeAny_handlers_test (Q0I I hg hm ?_ hdb)) (by intro q;cases q)
  obtain⟨oe,he,ho⟩:=hc;exact Q4x I.kIn LW he ho up (ih h)
theorem Qab{tb:XR->TS}{th:Addr->Option (Int×Addr)->Addr->TS}{ok:Addr->Prop}(tp:Top X)
  (hN:X.N.Nodup) (hi:X.N[je]? = some n) (hk:X.env.scope.names.lookup n=some .local) (hok:∀ C,ok C->∃ st p,Pick X n C (h0::hs) st p)
  (hb:∀ pins E R,zaf (X.holds pins E) R->PassesOwn (model X.prog X.w) X.A X.env E->PSs (X.holds pins E) body (tb R)) (hh:∀ C dx a oe ps st p,ok C->Pick X n C (h0::hs) st p->oe.cls=.ref C->(∃ vs,oe.data=.fields vs)->(∀ n d,dx=some (n,d)->oe.dict=some d/\∃ od,(d,od)∈ps/\Rowd od n)->PSs (L2.handlingAs X a oe ps) st (th C dx a)) :
  PS X (.Try body (h0::hs) [] [] pos) (tTryAs je ok tb th):=by
 intro pins s σ H D I h;have tp':Top (X.holds pins fun _ _=>False):=⟨tp.ex⟩;refine wpAny_Try_except (Z4 (hb pins (xeOf (X.holds pins fun _ _=>False) (fun cls σ' H'=>∃ C dx,cls=(.ref C,dx)/\ok C/\(∀ n d,dx=some (n,d)->H' d=none)/\∀ a,th C dx a (D.gone je) (σ'.set je (some (.ref a))) H')) _ (fun pins' σ' H' s' a cls x r=>⟨pins',σ',H',a,cls,rfl,⟨⟨I.ok.holds pins _,x.inv.os,x.inv.bare,x.inv.base,x.inv.loc,x.inv.cell,x.inv.free,x.inv.freeC,x.inv.pin,x.inv.hok,x.inv.len⟩,x.ex⟩,r⟩)
  (by
   rintro e s' ⟨pins',σ',H',a,cls,rfl,x,r⟩;exact XS.own (X:=X.holds pins fun _ _=>False) tp' x fun s' x'=>⟨pins',σ',H',a,cls,rfl,x',r⟩) [] s σ H D (I.holds _) h) (fun fl s1 q=>?_) fun e s1 q=>?_)
 ·have q':SP X pins D fl s1:=q.unholds I.ok;cases fl with
  | next=>exact wpAny_execs_nil q'
  | brk=>exact q'
  | cont=>exact q'
  | ret u=>exact q'
 ·obtain⟨pins',σ',H',a,cls,rfl,x1,C,dx,rfl,hC,hfr,ht⟩:=q;refine XS.note (X:=X.holds pins fun _ _=>False) tp' x1 fun s2 x2=>XT.set (X:=X.holds pins fun _ _=>False) x2 fun s3 x3=>?_;obtain⟨st,hpos,hpk⟩:=hok C hC;have I3:Inv X pins σ' H' s3:=x3.inv.unholds I.ok;have I3h:Inv (L2.handling X (.ref a)) pins σ' H' s3:=I3.handling;obtain⟨B3,f3,_⟩:=x3.ex;obtain⟨_,_,_,_,a0,fl,tr⟩:=f3;refine Q4y hpk I3h tr.there ?_;refine XT.set (X:=X.holds pins fun _ _=>False) x3 fun s4 x4=>?_;have I4:Inv X pins σ' H' s4:=x4.inv.unholds I.ok;obtain⟨B4,⟨g1,g2,g3,⟨oe',vs',he',_,hdx⟩,a4,fl4,oe,vs,T,oT,ts,he,⟨hcls,h0⟩,hd,_⟩,hB,_,_,xn4⟩:=x4.ex;obtain rfl:oe'=oe:=Z1 (he'.symm.trans he);have hfree:H' a=none:=by
   cases e:H' a with
   | none=>rfl
   | some o =>
    obtain⟨u,hu⟩:=objThere (hB a o e);rw[g2]at hu;cases hu
  have hloc:a≠X.env.locals:=fun z=>by
   obtain⟨m,⟨o',es,ep,ho',hd',_⟩,_⟩:=I4.loc;rw[z,ho']at he;cases he;rw[hd']at hd;cases hd
  have hfs:a∉X.fs:=fun z=>by
   have hbb:∀ b∈X.fs,∃ o,s4.heap.get? b=some o/\∀ vs,o.data≠.fields vs:=fun b hb=>by
    obtain⟨_,o2,e2,nf⟩:=I4.funs.mem hb;exact⟨o2,e2,nf⟩
   obtain⟨o,ho,nf⟩:=hbb a z;rw[ho]at he;cases he;exact nf _ hd
  have hps:∃ ps:List (Addr×Obj),(∀ p∈ps,s4.heap.get? p.1=some p.2/\H' p.1=none/\p.1≠X.env.locals/\p.1∉X.fs/\∀ v,p.2.data≠.cell v)/\∀ n d,dx=some (n,d)->oe'.dict=some d/\∃ od,(d,od)∈ps/\Rowd od n:=by
   cases hx:dx with
   | none=>exact⟨[],fun p z=>(nomatch z),fun n d z=>(nomatch z)⟩
   | some nd =>
    obtain⟨n,d⟩:=nd;obtain⟨q1,od,q2,q3⟩:=hdx.2 n d hx;have hfd:=hfr n d hx;obtain⟨es,ep,hde⟩:=q3.1;have hd4:=g1 d od q2;refine⟨[(d,od)],fun p hp=>?_,fun n' d' z=>?_⟩
    ·rw[Zp.mp hp];refine⟨hd4,hfd,(xn4 n d hx).2,fun z=>?_,fun v q=>by rw[hde]at q;cases q⟩
     obtain⟨_,o2,e2,_⟩:=I.ok.funs.mem z;exact absurd (Zn e2) (not_lt.mpr (xn4 n d hx).1)
    ·cases z;exact⟨q1,od,Zp.mpr rfl,q3⟩
  obtain⟨ps,hp1,hp2⟩:=hps;have I5:Inv (L2.handlingAs X a oe' ps) pins σ' H' s4:=I4.handlingAs fun p hp=>by
   rcases Zx.mp hp with rfl | hp
   ·exact⟨he,hfree,hloc,hfs,fun v q=>by rw[hd]at q;cases q⟩
   ·exact hp1 p hp
  refine Q1e (X:=L2.handlingAs X a oe' ps) I5 hN hi (.inl hk) (v:=.ref a) rfl (fun s5 I6=>?_) (.inr hk);refine Z4 (hh C dx a oe' ps st hpos hC hpk hcls ⟨vs,hd⟩ hp2 pins s5 _ H' (D.gone je) I6 (ht a)) (fun fl s6 q=>?_) fun _ _ z=>z;cases fl with
  | next =>
   obtain⟨σ7,H7,I7,q7⟩:=q;exact Q3j (pos:=hpos) (I7.unhandlingAs I.ok) hN hi hk fun s8 I8=>⟨_,H7,I8,q7⟩
  | brk =>
   obtain⟨σ7,H7,I7,q7⟩:=q;exact Q3j (pos:=hpos) (I7.unhandlingAs I.ok) hN hi hk fun s8 I8=>⟨_,H7,I8,q7⟩
  | cont =>
   obtain⟨σ7,H7,I7,q7⟩:=q;exact Q3j (pos:=hpos) (I7.unhandlingAs I.ok) hN hi hk fun s8 I8=>⟨_,H7,I8,q7⟩
  | ret u =>
   obtain⟨v,σ7,H7,I7,r7,q7⟩:=q;exact Q3j (pos:=hpos) (I7.unhandlingAs I.ok) hN hi hk fun s8 I8=>⟨v,_,H7,I8,r7,q7⟩
end
section
variable{prog:Program}{w:World}{A:Around}{h:Heap}{g:Array GenState}{d:Drawn}{t:Nat}{os:OsState}
variable{nm q:Str}{C N:Addr}{bs bm bmB:List Value}{hdct:Bool}{sn:List Str}{sub:List Value}{ab:Bool}{col:Option Bool}{dd:Option Addr}{k0 k1 k2 k3 k5:Option Value}{B newId initId:String}
noncomputable abbrev zaM(C tup:Addr):Obj:={ cls:=.ref C,data:=.fields #[.ref tup,.none,.none,.none,.bool false,.none] }
noncomputable abbrev zaW(rest:List Value):Obj:={ cls:=.type "tuple",data:=.seq rest.toArray }
structure zca(C:Addr)(bm:List Value)(B:String):Prop where
 b:(Value.ref C::bm).contains (.type B)=true
 ba:(Value.ref C::bm).contains (.type "BaseException")=true
 at_:(Value.ref C::bm).contains (.type "AttributeError")=false
 nm:(Value.ref C::bm).contains (.type "NameError")=false
theorem Q6A(F:ExcBaseFacts B newId initId bmB)(c:zca C bm B){rest:List Value}{E:Value->Shared->Prop}{Q:Unit->Shared->Prop}{M:Model}(hC:h.get? C=some (excClassObj nm q C N bs bm hdct sn sub ab col dd k0 k1 k2 k3 k5 newId))
  (hq:Q () ⟨h,g,d,t,os⟩):wpAny M A (checkBuiltinCall newId ⟨.ref C::rest,[]⟩) Q E ⟨h,g,d,t,os⟩:=by
 have z:=F.noStar;have c1:=c.b;simp only[checkBuiltinCall,F.newKind,F.newSplit,F.newRow]
 repeat (first | refine ZR hC ?_ | (refine wpAny_isSubtype_exc hC ?_;rw[c1]) | refine wpAny_staticBase_exc hC ?_ | refine wpAny_madeBy_exc hC ?_ | simp only[bne_self_eq_false,ZT,Yj] | wp_step)
 exact hq
theorem Qac(F:ExcBaseFacts B newId initId bmB)(c:zca C bm B){rest:List Value}{R:Result->Shared->Prop}(hC:h.get? C=some (excClassObj nm q C N bs bm hdct sn sub ab col dd k0 k1 k2 k3 k5 newId))(hz:rest.length<=sizeLine)
  (hq:R (.ok (.ret (.ref (h.objs.size+1)))) ⟨(h.push (zaW rest)).push (zaM C h.objs.size),g,d,t,os⟩):codeAny (model prog w) A (.builtin newId ⟨.ref C::rest,[]⟩) R ⟨h,g,d,t,os⟩:=by
 have z:=F.ends;have c1:=c.b;have c2:=c.at_;have c3:=c.nm;refine codeAny_builtinAt F.entry ?_;unfold Builtin.«BaseException.__new__»;refine PySem.wpAt_bind (show PySem.wpAt _ _ _ (stack >>= _) _ _ _ from PySem.wpAt_bind (PySem.wpAt_stack fun p below=>PySem.wpAt_of_wpAny ?_))
 wp_walk
 refine PySem.wpAt_of_wpAny ?_;rw[F.owner]
 repeat (first | with_reducible refine wpAny_madeHere_exc F.canon hC ?_ | with_reducible refine ZR hC ?_ | (with_reducible refine wpAny_isSubtype_exc hC ?_;first | rw[c1] | rw[c2] | rw[c3]) | wp_step)
 show R _ _;rw[Heap.size_push];exact hq
theorem Q8w{K:Frag}{f:Addr}{rest:List Value}{Q:Value->Shared->Prop}{E:Value->Shared->Prop}(F:ExcBaseFacts B newId initId bmB)(c:zca C bm B)(X:K.In h)(hC:h.get? C=some (excClassObj nm q C N bs bm hdct sn sub ab col dd k0 k1 k2 k3 k5 newId))(hz:rest.length<=sizeLine)
  (hi:findIn K (.ref C) "__init__" = some (some (.ref f))) (hf:PySem.W.typeIn K (.ref f)=some (.type "function"))
  (hq:wpAny (model prog w) (A.under (.builtin "type.__call__" ⟨.ref C::rest,[]⟩)) (call (.ref f) (.ref (h.objs.size+1)::rest)) (fun v s'=>v=.none/\Q (.ref (h.objs.size+1)) s') (fun _ _=>False) ⟨(h.push (zaW rest)).push (zaM C h.objs.size),g,d,t,os⟩) :
  wpAny (model prog w) A (call (.ref C) rest) Q E ⟨h,g,d,t,os⟩:=by
 have f1:=tc_lookup;have f2:=tc_bind (.ref C);have hT:(⟨h,g,d,t,os⟩:Shared).TypeIs (.ref C) "type":=⟨_,hC,rfl⟩;refine wpAny_call (codeAny_of_tree (show wpAny _ _ (callAny (.ref C) _) _ _ _ from ?_))
 repeat (any_goals (first | assumption | with_reducible refine ZR hC ?_ | wp_step))
 refine⟨rfl,codeAny_call_builtin_at (Code.quiet_builtin _ (by decide +kernel)) entry_typeCall (wpAny_check_type_call_sub hC ?_)⟩
 repeat (first | with_reducible refine ZR hC ?_ | with_reducible refine wpAny_madeBy_exc hC ?_ | wp_step)
 refine codeAny_call_builtin_code (Code.quiet_builtin _ F.quiet) (Q6A F c hC (Qac F c hC hz ?_));have k:∀ b o,h.get? b=some o->((h.push (zaW rest)).push (zaM C h.objs.size)).get? b=some o:=fun b o e=>Zb _ (Zb _ e);have hx:((h.push (zaW rest)).push (zaM C h.objs.size)).get? (h.objs.size+1)=some (zaM C h.objs.size):=by heap_get
 have hC1:=k _ _ hC;have cC:(Value.ref C::bm).contains (.ref C)=true:=by simp
 have i1:=(looks_findIn (M:=model prog w) X hi).keeps k;have b1:=PySem.W.bind_fn (M:=model prog w) (X.keeps k) (.ref (h.objs.size+1)) hf;have t1:PySem.W.Looks (model prog w) ((h.push (zaW rest)).push (zaM C h.objs.size)) (typeOf (.ref (h.objs.size+1))) (.ref C):=(PySem.W.Looks.ld hx).andThen .now;refine (show wpAny (model prog w) _ (isInstance (.ref (h.objs.size+1)) (.ref C) >>= _) _ _ _ from Za ?_);unfold isInstance;refine Za (t1.at (wpAny_isSubtype_exc hC1 ?_));rw[cC];refine (show wpAny (model prog w) _ (holding [.ref (h.objs.size+1)] (callSpecial? (.ref (h.objs.size+1)) "__init__" rest []) >>= _) _ _ _ from Za (Ye ?_));unfold callSpecial? specialOf;refine Za (Za (t1.at (i1.at (Ye (Za (b1.at (Za ?_)))))));refine Z4 hq (fun v s' z=>?_) fun _ _ z=>z.elim;obtain⟨rfl,z⟩:=z;exact Zh (Zh z)
theorem Q6B{e:Addr}{oe:Obj}{vs:Array Value}{rest:List Value}{Q:Value->Shared->Prop}{E:Value->Shared->Prop}(F:ExcBaseFacts B newId initId bmB)(c:zca C bm B)(hC:h.get? C=some (excClassObj nm q C N bs bm hdct sn sub ab col dd k0 k1 k2 k3 k5 newId))(hz:rest.length<=sizeLine)
  (he:h.get? e=some oe) (hcls:oe.cls=.ref C) (hd:oe.data=.fields vs) {t0:Addr} (h0:vs[0]? = some (.ref t0)) (hq:Q .none ⟨(h.push (zaW rest)).update e (Obj.mapFields (·.setIfInBounds 0 (.ref h.objs.size))),g,d,t,os⟩) :
  wpAny (model prog w) A (call (.builtin initId) (.ref e::rest)) Q E ⟨h,g,d,t,os⟩:=by
 have c1:=c.b;have z:=F.noStar;refine wpAny_call (codeAny_call_builtin F.init.plain F.initEntry ?_);simp only[checkBuiltinCall,F.initKind,F.initSplit,F.initRow]
 repeat (first | (with_reducible refine ZR he ?_;rw[hcls]) | with_reducible refine ZR hC ?_ | (with_reducible refine wpAny_isSubtype_exc hC ?_;rw[c1]) | wp_step)
 refine wpAny_onRaise ?_;rw[show ∀ (a b:String) (n:Nat),Bind.check ⟨.positional,"*",B,.self,[⟨"args",.varPos,false⟩]⟩ a b n (List.map (fun x=>x.fst) ({ pos:=Value.ref e::rest }:Args).kw)=pure () from fun a b n=>check_star_args _ _ _ _ _ _];refine Zh ?_;unfold Builtin.«BaseException.__init__»;refine (show wpAny _ _ (newTuple rest >>= _) _ _ _ from Za (wpAny_newTuple ?_ hz));refine Za ?_;unfold Builtin.BaseException.bexcPut;refine Za (ZE (Zb _ he) hd h0 (Za (wpAny_setField (Zb _ he) hd (Yh.mp h0).1 (wpAny_letGo (Zh ?_)))));exact hq
end
end L2
namespace L2
open PySem PySem.Spec PyProof.Rows Builtin Builtin.ObjectAttr
noncomputable abbrev veTail:List Value:=[.type "ValueError",.type "Exception",.type "BaseException",.type "object"]
noncomputable def isRf:Value->Bool
 | .ref _=>true
 | _=>false
theorem Qad(h:isRf v=true):∃ c,v=.ref c:=by
 cases v <;> first | exact⟨_,rfl⟩ | cases h
noncomputable def zaE(l:List Value):Bool:=l.dropWhile isRf==veTail
theorem Q0O{P:List Value->Prop}(h0:P veTail)(h1:∀ c r,P r->P (.ref c::r)):∀ {l:List Value},zaE l=true->P l
 | [],h=>by cases h
 | v::r,h=>by
  cases q:isRf v with
  | true =>
   obtain⟨c,rfl⟩:=Qad q;exact h1 c r (Q0O h0 h1 (l:=r) h)
  | false =>
   have h':((v::r).dropWhile isRf==veTail)=true:=h;rw[List.dropWhile_cons,Zj (by rw[q];decide)]at h'
   rw[Zt.mp h'];exact h0
theorem Q5M(self:Value)(h:zaE l=true):refuseLoop self "__setattr__" l=pure () :=
 Q0O (P:=fun l=>refuseLoop self "__setattr__" l=pure ()) (PySem.F.store_ValueError.passes self) (fun c r h=>by rw[refuseLoop_ref];exact h) h
theorem Q3k(h:zaE l=true)(ht:veTail.contains (.type T)=true):l.contains (.type T)=true :=
 Q0O (P:=fun l=>l.contains (.type T)=true) ht (fun c r h=>by rw[contains_cons,h,Bool.or_true]) h
theorem Q4Q(h:zaE l=true)(ht:veTail.contains (.type T)=false):l.contains (.type T)=false :=
 Q0O (P:=fun l=>l.contains (.type T)=false) ht (fun c r h=>by rw[contains_cons,h];rfl) h
noncomputable def rowIn(K:Frag)(C:Addr):Bool:=match K.lookup C with
 | some ⟨.type "type",_,.cls cd,sl⟩=>(match cd.mro,sl.toList with
  | .ref C'::bm,[_,_,_,_,some (.builtin n),_]=>C'==C&&n == "ValueError.__new__" && !cd.hasDel&&cd.hasDict&&zaE bm
  | _,_=>false)
 | _=>false
structure RowC(K:Frag)(C f:Addr):Prop where
 is:rowIn K C=true
 init:findIn K (.ref C) "__init__" = some (some (.ref f))
 fn:PySem.W.typeIn K (.ref f)=some (.type "function")
 kp:keepIn K (.ref C)=true
 sa:findIn K (.ref C) "__setattr__" = some (some (.builtin "object.__setattr__"))
 tk:PySem.W.takerIn K C "row" = some none
theorem Q2o{K:Frag}{C f:Addr}(R:RowC K C f):∃ nm q N bs bm sn sub ab col dd k0 k1 k2 k3 k5,K.lookup C=some (excClassObj nm q C N bs bm true sn sub ab col dd k0 k1 k2 k3 k5 "ValueError.__new__")/\zaE bm=true:=by
 have q:=R.is;unfold rowIn at q;split at q
 ·rename_i dd cd sl ho;split at q
  ·rename_i C' tl k0 k1 k2 k3 n k5 hm' hs;simp only[Zc,Zt,ZG]at q;obtain⟨⟨⟨⟨rfl,rfl⟩,hdel⟩,hd⟩,hok⟩:=q;obtain⟨nm,bs,mro,ns,qn,hdc,sn,sub,ab,col,del⟩:=cd;dsimp only at hm' hdel hok hd;subst hm' hdel hd;have hsl:sl = #[k0,k1,k2,k3,some (.builtin "ValueError.__new__"),k5]:=by
    obtain⟨l⟩:=sl;simp only at hs;rw[hs]
   subst hsl;exact⟨nm,qn,ns,bs,tl,sn,sub,ab,col,dd,k0,k1,k2,k3,k5,ho,hok⟩
  ·cases q
 ·cases q
theorem Q1X(h:zaE bm=true):zca C bm "ValueError" where
 b:=by rw[contains_cons,Q3k h (by decide),Bool.or_true]
 ba:=by rw[contains_cons,Q3k h (by decide),Bool.or_true]
 at_:=by rw[contains_cons,Q4Q h (by decide)];rfl
 nm:=by rw[contains_cons,Q4Q h (by decide)];rfl
section
variable{prog:Program}{w:World}{A:Around}{E:Value->Shared->Prop}{s:Shared}{K:Frag}{C f x:Addr}{ox:Obj}{v:Value}{vs:Array Value}
theorem Qae{Q:Unit->Shared->Prop}(X:K.In s.heap)(R:RowC K C f)(hx:s.heap.get? x=some ox)(hc:ox.cls=.ref C)(hd:ox.dict=none)(hf:ox.data=.fields vs)
  (h:∀ h',h'.get? x=some { ox with dict:=some s.heap.objs.size }->h'.Ns1 s.heap.objs.size (fun y=>if y = "row" then some v else none)->(∀ b o,b≠x->s.heap.get? b=some o->h'.get? b=some o)->Q () { s with heap:=h',toks:=s.toks+2 }) :
  wpAny (model prog w) A (setAttr (.ref x) "row" v) Q E s:=by
 obtain⟨nm,q,N,bs,bm,sn,sub,ab,col,dd,k0,k1,k2,k3,k5,hK,ho⟩:=Q2o R;have hC:=X _ _ hK;have SF:=PySem.F.store_object;have J:PySem.W.InstAt s.heap x ox C none:=⟨hx,hc,by unfold PySem.W.notCls;rw[hf],by rw[hd];trivial⟩
 have hcl:PySem.W.clsIn K C=some { name:=nm,bases:=bs,mro:=.ref C::bm,ns:=N,qualname:=q,hasDict:=true,slotNames:=sn,subclasses:=sub,abstract:=ab,collection:=col,hasDel:=false }:=by
  unfold PySem.W.clsIn;rw[hK]
 have ho':zaE (.ref C::bm)=true:=ho;have hm:PySem.W.Looks (model prog w) s.heap (mroOf (.ref C)) (.ref C::bm):=(looks_clsIn X hcl).andThen .now;have sb:PySem.W.Looks (model prog w) s.heap (isInstance (.ref x) (.type "object")) true:=J.type.andThen (looks_mroIn X (by
  unfold PySem.W.mroIn;rw[hcl,Option.bind_some,Zj (by rw[show (Value.ref C::bm).isEmpty=false from rfl];decide),Q3k ho' (by decide)]))
 refine PySem.W.set_plain X J R.sa ?_;refine codeAny_call_builtin SF.slot.plain SF.entry (@PySem.W.check_slot (model prog w) _ _ { s with toks:=s.toks+1 } "object.__setattr__" "object" "__setattr__" (.ref x) [.str "row" s.toks,v] [] _ SF.kind SF.split sb (SF.args (.ref x) (.str "row" s.toks) v) ?_);obtain⟨attr,ha,hr⟩:=ZL.mp R.tk;have L3:PySem.W.Looks (model prog w) s.heap (Builtin.ObjectAttr.storeTaker? attr) none:=by
  cases attr with
  | none=>exact .now
  | some a =>
   obtain⟨b,hb,e⟩:=Option.map_eq_some_iff.mp hr;refine (looks_takesIn X hb).andThen ?_;cases b
   ·exact .now
   ·cases e
 rw[PySem.W.osa_eq,refuse_eq];refine Za (Za (PySem.W.Looks.here (s:={ s with toks:=s.toks+1 }) J.type (Za (PySem.W.Looks.here (s:={ s with toks:=s.toks+1 }) hm ?_))));rw[Q5M _ ho'];refine Zh (Za (PySem.W.Looks.here (s:={ s with toks:=s.toks+1 }) J.type (Za (PySem.W.Looks.here (s:={ s with toks:=s.toks+1 }) (looks_findIn X ha) (Za (PySem.W.Looks.here (s:={ s with toks:=s.toks+1 }) L3 ?_))))));obtain⟨oc,od,oda,osl⟩:=ox;dsimp only at hc hd hf;subst hc hd hf;refine Za (Zh (Za (Za (wpAny_loadPart hx (Za (PySem.W.Looks.here (s:={ s with toks:=s.toks+1 }) (looks_clsIn X hcl) ?_))))));have hx₁:(s.heap.push { cls:=.type "dict",data:=.dict #[] }).get? x=some ⟨.ref C,none,.fields vs,osl⟩:=Zb _ hx;have hxs:x≠s.heap.objs.size:=ZD (Zn hx);refine Za (wpAny_alloc' ?_);refine Za (wpAny_update' hx₁ ?_);refine Zh ?_;have hgd:((s.heap.push { cls:=.type "dict",data:=.dict #[] }).update x fun o=>{ cls:=o.cls,dict:=some s.heap.objs.size,data:=o.data,slots:=o.slots }).get? s.heap.objs.size=some { cls:=.type "dict",data:=.dict #[] }:=(Heap.get?_update_ne _ _ _ _ hxs.symm).trans (Heap.get?_push_at rfl rfl);have hnd:((s.heap.push { cls:=.type "dict",data:=.dict #[] }).update x fun o=>{ cls:=o.cls,dict:=some s.heap.objs.size,data:=o.data,slots:=o.slots }).Ns s.heap.objs.size (fun _=>none):=⟨_,#[],_,hgd,rfl,fun e he=>absurd he (by simp),fun _=>rfl⟩
 show wpAny _ _ (storeInDict s.heap.objs.size (.str "row" s.toks) "row" v) _ _ _;unfold storeInDict newKeyGuard;refine Za (Zh (Za (wpAny_nsSet1 (Heap.Ns1.of_empty hnd) fun h' hn' hs=>?_)));obtain⟨oD,esD,epD,hoD,hdD,hcD⟩:=hn'.count (Within.cons "row" v Within.nil);refine Za (wpAny_lookBehind hoD (by rw[hdD];exact pastItsLine_dict (Z7 hcD (by rw[Zk,Zu,sizeLine_eq];omega))) ?_)
 refine Zh (h h' ?_ hn' fun b o hb e=>?_)
 ·exact (hs.2 x hxs).trans (ZJ _ hx₁ rfl)
 ·exact (hs.2 b (ZD (Zn e))).trans ((Heap.get?_update_ne _ _ _ _ hb).trans (Zb _ e))
end
noncomputable abbrev excO(C t:Addr)(d:Option Addr):Obj:={ cls:=.ref C,dict:=d,data:=.fields #[.ref t,.none,.none,.none,.bool false,.none] }
noncomputable def excH(C e:Addr)(d:Option Addr):HO:=.ext fun h=>∃ t,h.get? e=some (excO C t d)
noncomputable def objH(d:Addr)(o:Obj):HO:=.ext fun h=>h.get? d=some o
section
variable{P:Program}{w:World}{H H':Hp}{h h':Heap}{fs:List Addr}{e d C t:Addr}{φ:Heap->Prop}{o:Obj}
theorem Q4z(e0:h.get? e=some (excO C t dd)):ObjOk P w H h e (excH C e dd):=⟨⟨t,e0⟩,⟨_,e0⟩,fun h1 h2 ⟨t',q⟩ k=>⟨t',k _ q⟩⟩
theorem Qaf(e0:h.get? d=some o):ObjOk P w H h d (objH d o):=⟨e0,⟨_,e0⟩,fun h1 h2 q k=>k _ q⟩
theorem Q9y(ok:HOk P w H h)(he:H e=some (.ext φ))(k:∀ b u,b≠e->h.get? b=some u->h'.get? b=some u)(hee:∃ u,h'.get? e=some u)(h2:∀ b,b≠e->b<h.objs.size->H' b=H b):Un fs [] H H' h h' where
 keep:=fun b o q n _ _=>k b o (fun z=>by rw[z,he]at n;cases n) q
 slot:=fun b o q n _ _=>⟨o.slots,k b o (fun z=>by rw[z,he]at n;cases n) q⟩
 free:=fun b o q n _=>by rw[h2 b (fun z=>by rw[z,he]at n;cases n) (Zn q)];exact n
 there:=fun b o q _=>by
  by_cases z:b=e
  ·rw[z];exact hee
  ·exact⟨o,k b o z q⟩
 tups:=fun b xs q=>by rw[h2 b (fun z=>by rw[z,he]at q;cases q) (ok.lt q)];exact q
 frzs:=fun b o u q=>by rw[h2 b (fun z=>by rw[z,he]at q;cases q) (ok.lt q)];exact q
 tbls:=fun b ps q=>⟨#[],by rw[h2 b (fun z=>by rw[z,he]at q;cases q) (ok.lt q),Array.append_empty];exact q⟩
theorem Q6C(ok:HOk P w H h)(he:H e=some (.ext φ))(k:∀ b u,b≠e->h.get? b=some u->h'.get? b=some u)(h2:∀ b,b≠e->b<h.objs.size->H' b=H b)(h1:∀ o,H' e=some o->ObjOk P w H' h' e o)
  (h3:∀ b o,b≠e->h.objs.size<=b->H' b=some o->ObjOk P w H' h' b o):HOk P w H' h':=fun b o q=>by
 by_cases z:b=e
 ·rw[z]at q ⊢;exact h1 o q
 ·by_cases hb:b<h.objs.size
  ·rw[h2 b z hb]at q;refine (ok b o q).stay (fun c u hc e'=>k c u ?_ e') (fun c hc=>?_) fun c xs hc=>?_
   ·rcases hc with rfl | hc
    ·exact z
    ·exact fun y=>by rw[y,he]at hc;cases hc
   ·rw[h2 c (fun y=>by rw[y,he]at hc;cases hc) (ok.lt hc)];exact hc
   ·rw[h2 c (fun y=>by rw[y,he]at hc;cases hc) (ok.lt hc)];exact hc
  ·exact h3 b o z (le_of_not_lt hb) q
theorem Q8x{l:List Addr}(ok:HOk P w H h)(hl:∀ b∈l,∀ o,H b=some o->∃ φ,o=.ext φ)(hH:∀ b,H' b=if b∈l then none else H b):HOk P w H' h:=fun b o q=>by
 rw[hH]at q;split at q
 ·cases q
 ·refine (ok b o q).stay (fun _ _ _ z=>z) (fun c hc=>?_) fun c xs hc=>?_
  ·rw[hH,Zj fun y=>?_]
   ·exact hc
   ·obtain⟨_,z⟩:=hl c y _ hc;cases z
  ·rw[hH,Zj fun y=>?_]
   ·exact hc
   ·obtain⟨_,z⟩:=hl c y _ hc;cases z
end
section
variable{X:Cx}{pins:List (Addr×Obj)}{σ:St}{H:Hp}{s:Shared}{C f W e:Addr}{x n:Str}{np ap cpos pos p:Pos}{a1:Expr}{es:List Expr}{t:TA}
structure WInit(K:Frag)(W:Addr):Prop where
 ga:PySem.W.specialIn K (.ref W) "__getattribute__" = some (some (.builtin "type.__getattribute__"))
 rd:PySem.W.readsIn K W (.type "type")=true
 at_:PySem.W.findCls K (.ref W) (.type "type") "__init__" = some (.val (.builtin "ValueError.__init__"))
noncomputable def tWinit(C:Addr)(t:TA):TS:=fun D σ H=>t σ H fun vs H1=>∃ e r,vs=.ref e::r/\H1 e=some (excH C e none)/\r.length<=sizeLine/\D.nx σ H1
theorem Q8y(R:RowC X.K C f)(wi:WInit X.K W)(hg:Gl X x)(hm:X.mg x=some (.ref W))(ha:PA X (a1::es) t)(hdb:(x==("__debug__" : Str))=false:=by decide)
  (hst:starEach (a1::es) X.env=(false,eval a1 X.env)::starEach es X.env:=by rfl) (hpl:(backTo cpos (starEach es X.env)).any (·.1)=false:=by rfl)
  {pl:Sem Bool} (ht:eval (.Call (.Attribute (.Name x np) "__init__" ap) (a1::es) [] cpos) X.env=(do
   let ov <- eval (.Name x np) X.env
   standAt ap.atName
   let (f,first) <- holding [ov] (getMethod ov "__init__" pl)
   callWith cpos f first (backTo cpos (starEach (a1::es) X.env)) (backToKw cpos (keywordEach [] X.env))):=by rfl)
  (hs:swapsWith (.Call (.Attribute (.Name x np) "__init__" ap) (a1::es) [] cpos) none pos.line X.env=pure false:=by rfl) :
  PS X (.Expr (.Call (.Attribute (.Name x np) "__init__" ap) (a1::es) [] cpos) pos) (tWinit C t):=by
 intro pins s σ H D I h;refine wpAny_Expr_any ?_ I.quiet hs;refine PySem.W.methodCall_KW (pl:=pl) (Q0I I hg hm ?_ hdb) ht;refine PySem.W.method_cls I.kIn wi.ga (PySem.W.cls_value I.kIn wi.rd wi.at_ rfl ?_);have hA:=ha cpos pins { s with toks:=s.toks+1 } σ H _ (I.tok _) h;rw[hst]at hA ⊢;refine Calls.callWith_builtin (by show (false||(backTo cpos (starEach es X.env)).any (·.1))=false;rw[hpl] <;> rfl) (Calls.evalArgs_plain ?_)
 refine thn hA fun us s2 zz=>?_;obtain⟨vs,H2,I2,r2,e,r,hv,he,hz,q2⟩:=zz;subst hv;obtain⟨u,us,rfl,r0,r3⟩:∃ u us',us=u::us'/\RelV (.ref e) u/\Vals r us':=by cases r2 with | cons a b=>exact⟨_,_,rfl,a,b⟩
 obtain rfl:u=Value.ref e:=r0;obtain⟨⟨t0,e0⟩,_,_⟩:=I2.hok e _ he;obtain⟨nm,q,N,bs,bm,sn,sub,ab,col,dd,k0,k1,k2,k3,k5,hK,ho⟩:=Q2o R;obtain⟨hh,g,dr,tk,os⟩:=s2;refine Q6B excBase_ValueError (Q1X ho) (I2.kIn _ _ hK) (by rw[<- r3.length];exact hz) e0 rfl rfl (t0:=t0) rfl ?_
 have kk:∀ b u,b≠e->hh.get? b=some u->((hh.push (zaW us)).update e (Obj.mapFields (·.setIfInBounds 0 (.ref hh.objs.size)))).get? b=some u:=fun b u hb q=>(Heap.get?_update_ne _ _ _ _ hb).trans (Zb _ q);have ee:((hh.push (zaW us)).update e (Obj.mapFields (·.setIfInBounds 0 (.ref hh.objs.size)))).get? e=some (excO C hh.objs.size none):=ZJ _ (Zb _ e0) rfl;refine⟨σ,H2,I2.un (h':=(hh.push (zaW us)).update e (Obj.mapFields (·.setIfInBounds 0 (.ref hh.objs.size)))) (Q9y I2.hok he kk ⟨_,ee⟩ fun _ _ _=>rfl) (Q6C I2.hok he kk (fun _ _ _=>rfl) (fun o q=>?_) fun b o _ hb q=>?_),q2⟩
 ·rw[he]at q;cases q;exact Q4z ee
 ·rw[I2.hok.fresh hb]at q;cases q
noncomputable def zbS(C:Addr)(i j:Nat):TS:=fun D σ H=>∃ e m,σ[i]? = some (some (.ref e))/\σ[j]? = some (some (.int m))/\H e=some (excH C e none)/\∀ d od,H d=none->e<d->Rowd od m->D.nx σ (upd (upd H e (excH C e (some d))) d (objH d od))
theorem Q6D(R:RowC X.K C f)(hi:X.N[i]? = some q)(hiv:Vis X.env.scope q)(hid:(q==("__debug__" : Str))=false)(hic:(q==("__classdict__" : Str))=false)
  (hj:X.N[j]? = some r) (hjv:Vis X.env.scope r) (hjd:(r==("__debug__" : Str))=false) (hjc:(r==("__classdict__" : Str))=false) (hs:swapsWith (.Name r np) (some (.Attribute (.Name q qp) "row" ap)) pos.line X.env=pure false) :
  PS X (.Assign [.Attribute (.Name q qp) "row" ap] (.Name r np) pos) (zbS C i j):=by
 rintro pins s σ H D I ⟨e,m,h1,h2,he,hq⟩;refine plainObj_wpAny_Assign_Attribute (thn (Q1N hj hjv hjd hjc pins s σ H (fun v H'=>v=.int m/\H'=H) I ⟨_,h2,rfl,rfl⟩) fun u s1 ⟨y,H1,I1,ry,e1,e2⟩=>?_) hs;subst e1 e2;refine thn (Q1N hi hiv hid hic pins s1 σ H1 (fun v H'=>v=.ref e/\H'=H1) I1 ⟨_,h1,rfl,rfl⟩) fun ov s2 ⟨y2,H2,I2,rx,e1,e2⟩=>?_;subst e1 e2;obtain rfl:ov=Value.ref e:=rx;obtain⟨tk,rfl⟩:=ry;obtain⟨⟨t0,e0⟩,_,_⟩:=I2.hok e _ he;refine Qae I2.kIn R e0 rfl rfl rfl fun h' q1 q2 q3=>?_;have hde:s2.heap.objs.size≠e:=fun z=>absurd (Zn e0) (by rw[z];exact lt_irrefl _)
 obtain⟨od,es,ep,g1,g2,g3⟩:=id q2;have rw0:Rowd od m:=⟨⟨es,ep,g2⟩,fun hh d hd=>⟨fun y=>if y = "row" then some (.int m tk) else none,tk,⟨od,es,ep,hd,g2,g3⟩,Zm rfl⟩⟩
 have hn:H2 s2.heap.objs.size=none:=I2.fresh;refine⟨σ,_,I2.un (h':=h') (Q9y I2.hok he q3 ⟨_,q1⟩ fun b hb hl=>?_) (Q6C I2.hok he q3 (fun b hb hl=>?_) (fun o q=>?_) fun b o hb hl q=>?_),hq s2.heap.objs.size od hn (Zn e0) rw0⟩
 ·rw[Q0f (ZD hl),Q0f hb]
 ·rw[Q0f (ZD hl),Q0f hb]
 ·rw[Q0f hde.symm,Q0i]at q;cases q;exact Q4z q1
 ·by_cases z:b=s2.heap.objs.size
  ·subst z;rw[Q0i]at q;cases q;exact Qaf g1
  ·rw[Q0f z,Q0f hb,I2.hok.fresh hl]at q;cases q
end
end L2
namespace L2
open PySem PySem.Spec PyProof.Rows
section
variable{κ:Type}[DecidableEq κ]
noncomputable def valV(kvs:List (κ×V))(k:κ):Option V:=(kvs.find? fun kv=>decide (kv.1=k)).map (·.2)
noncomputable def putK(kvs:List (κ×V))(k:κ)(v:V):List (κ×V) :=
 if (kvs.any fun kv=>decide (kv.1=k))=true then kvs.map (fun kv=>if kv.1=k then (kv.1,v) else kv) else kvs++[(k,v)]
noncomputable def dropK(kvs:List (κ×V))(k:κ):List (κ×V):=kvs.filter fun kv=>decide (kv.1≠k)
theorem Q1r{p:κ×V}{r:List (κ×V)}{k:κ}(e:p.1=k):valV (p::r) k=some p.2:=by simp[valV,find?_cons,e]
theorem Q1s{p:κ×V}{r:List (κ×V)}{k:κ}(e:¬ p.1=k):valV (p::r) k=valV r k:=by simp[valV,find?_cons,e]
theorem Q1Y(k:κ):∀ kvs:List (κ×V),(kvs.any fun kv=>decide (kv.1=k))=(valV kvs k).isSome
 | []=>rfl
 | p::r=>by
  rw[any_cons];by_cases e:p.1=k
  ·simp only[Q1r e,Ze e,Bool.true_or,Option.isSome_some]
  ·rw[Q1s e,Zg e,Bool.false_or];exact Q1Y k r
theorem RelO.isSome_eq(r:RelO o u):o.isSome=u.isSome:=by
 cases o with
 | none=>cases u with
  | none=>rfl
  | some _=>exact (show False from r).elim
 | some _=>cases u with
  | none=>exact (show False from r).elim
  | some _=>rfl
theorem RelO.getD(r:RelO o u)(rd:RelV d d'):RelV (o.getD d) (u.getD d'):=by
 cases o with
 | none=>cases u with
  | none=>exact rd
  | some _=>exact (show False from r).elim
 | some _=>cases u with
  | none=>exact (show False from r).elim
  | some _=>exact r
theorem KV.val{kvs:List (κ×V)}{vs:List (κ×Value)}(r:KV kvs vs)(k:κ):RelO (valV kvs k) (valueAt vs k):=by
 unfold KV at r
 induction r with
 | nil=>exact True.intro
 | @cons p q ps qs h t ih =>
  obtain⟨h1,h2⟩:=h;by_cases e:p.1=k
  ·have e':q.1=k:=h1.symm.trans e;have b:valueAt (q::qs) k=some q.2:=by simp[valueAt,find?_cons,e']
   rw[Q1r e,b];exact h2
  ·have e':¬ q.1=k:=fun z=>e (h1.trans z);have b:valueAt (q::qs) k=valueAt qs k:=by simp[valueAt,find?_cons,e']
   rw[Q1s e,b];exact ih
theorem KV.any(r:KV kvs vs)(k:κ):(kvs.any fun kv=>decide (kv.1=k))=vs.any fun kv=>decide (kv.1=k):=by
 unfold KV at r
 induction r with
 | nil=>rfl
 | cons h t ih=>rw[any_cons,any_cons,ih,h.1]
theorem KV.repl(r:KV kvs vs)(k:κ)(ry:RelV y u) :
  KV (kvs.map fun kv=>if kv.1=k then (kv.1,y) else kv) (vs.map fun kv=>if kv.1=k then (kv.1,u) else kv):=by
 unfold KV at r ⊢
 induction r with
 | nil=>exact .nil
 | @cons p q ps qs h t ih =>
  rw[Z8,Z8];refine .cons ?_ ih;obtain⟨h1,h2⟩:=h;by_cases e:p.1=k
  ·rw[Zm e,Zm (h1.symm.trans e)];exact⟨h1,ry⟩
  ·rw[Zj e,Zj (fun z=>e (h1.trans z))];exact⟨h1,h2⟩
theorem KV.put(r:KV kvs vs)(k:κ)(ry:RelV y u):KV (putK kvs k y) (stored vs k u):=by
 unfold putK stored;rw[r.any k];by_cases e:(vs.any fun kv=>decide (kv.1=k))=true
 ·rw[Zm e,Zm e];exact r.repl k ry
 ·rw[Zj e,Zj e];exact Paired.snoc r ⟨rfl,ry⟩
theorem KV.drop(r:KV kvs vs)(k:κ):KV (dropK kvs k) (without vs k):=by
 unfold KV at r ⊢;unfold dropK without
 induction r with
 | nil=>exact .nil
 | @cons p q ps qs h t ih =>
  obtain⟨h1,h2⟩:=h;rw[filter_cons,filter_cons];by_cases e:p.1=k
  ·have a:¬ decide (p.1≠k)=true:=by simp[e]
   have b:¬ decide (q.1≠k)=true:=by simp[h1.symm.trans e]
   rw[Zj a,Zj b];exact ih
  ·have e':¬ q.1=k:=fun z=>e (h1.trans z);have a:decide (p.1≠k)=true:=by simp[e]
   have b:decide (q.1≠k)=true:=by simp[e']
   rw[Zm a,Zm b];exact .cons ⟨h1,h2⟩ ih
theorem KV.keys{kvs:List (κ×V)}{vs:List (κ×Value)}(r:KV kvs vs):kvs.map (·.1)=vs.map (·.1):=by
 unfold KV at r
 induction r with
 | nil=>rfl
 | cons h t ih=>rw[Z8,Z8,ih,h.1]
theorem KV.length(r:KV kvs vs):kvs.length=vs.length:=Paired.length r
end
noncomputable abbrev KT(H:Hp):List (List Key×V)->List (List Key×Addr×Value)->Prop:=Paired fun p q=>p.1=q.1/\H q.2.1=some (.tup (p.1.map kV))/\RelV p.2 q.2.2
theorem KT.val{H:Hp}{kvs:List (List Key×V)}{xs:List (List Key×Addr×Value)}(r:KT H kvs xs)(k:List Key):RelO (valV kvs k) ((atKey xs k).map (·.2)):=by
 induction r with
 | nil=>exact True.intro
 | @cons p q ps qs h t ih =>
  obtain⟨h1,_,h2⟩:=h;by_cases e:p.1=k
  ·have e':q.1=k:=h1.symm.trans e;have b:atKey (q::qs) k=some q.2:=by simp[atKey,find?_cons,e']
   rw[Q1r e,b];exact h2
  ·have e':¬ q.1=k:=fun z=>e (h1.trans z);have b:atKey (q::qs) k=atKey qs k:=by simp[atKey,find?_cons,e']
   rw[Q1s e,b];exact ih
theorem KT.repl(r:KT H kvs xs)(k:List Key)(ry:RelV y u) :
  KT H (kvs.map fun kv=>if kv.1=k then (kv.1,y) else kv) (xs.map (putAt k u)):=by
 induction r with
 | nil=>exact .nil
 | @cons p q ps qs h t ih =>
  rw[Z8,Z8];refine .cons ?_ ih;obtain⟨h1,h2,h3⟩:=h;unfold putAt;by_cases e:p.1=k
  ·rw[Zm e,Zm (h1.symm.trans e)];exact⟨h1,h2,ry⟩
  ·rw[Zj e,Zj (fun z=>e (h1.trans z))];exact⟨h1,h2,h3⟩
theorem KT.put(r:KT H kvs xs)(k:List Key)(hb:H b=some (.tup (k.map kV)))(ry:RelV y u) :
  KT H (putK kvs k y) (storedH xs k b u):=by
 have e:(kvs.any fun kv=>decide (kv.1=k))=(atKey xs k).isSome:=by
  rw[Q1Y,(r.val k).isSome_eq,Option.isSome_map]
 unfold putK storedH;rw[e];by_cases q:(atKey xs k).isSome=true
 ·rw[Zm q,Zm q];exact r.repl k ry
 ·rw[Zj q,Zj q];exact Paired.snoc r ⟨rfl,hb,ry⟩
theorem KT.keeps(r:KT H kvs xs)(ht:∀ b ys,H b=some (.tup ys)->H' b=some (.tup ys)):KT H' kvs xs :=
 Paired.mapP r fun _ _ z=>⟨z.1,ht _ _ z.2.1,z.2.2⟩
section
variable{P:Program}{w:World}{H:Hp}{h:Heap}{a:Addr}
end
noncomputable def DGet(H:Hp)(a:Addr)(y:V)(r:Option V):Prop :=
 (∃ kvs k,Rd H a (.dK kvs)/\y=kV k/\r=valV kvs k)\/∃ kvs k b,Rd H a (.dT kvs)/\y=.ref b/\H b=some (.tup (k.map kV))/\r=valV kvs k
noncomputable def DPut(H:Hp)(a:Addr)(y v:V)(H':Hp):Prop :=
 (∃ kvs k,H a=some (.dK kvs)/\y=kV k/\kvs.length<sizeLine/\H'=upd H a (.dK (putK kvs k v))) \/
 ∃ kvs k b,H a=some (.dT kvs)/\y=.ref b/\H b=some (.tup (k.map kV))/\kvs.length<sizeLine/\H'=upd H a (.dT (putK kvs k v))
theorem DGet.k{H:Hp}{a:Addr}{kvs:List (Key×V)}{k:Key}(e:H a=some (.dK kvs)):DGet H a (kV k) (valV kvs k):=.inl ⟨kvs,k,.inl e,rfl,rfl⟩
theorem DGet.t{H:Hp}{a b:Addr}{kvs:List (List Key×V)}{k:List Key}(e:H a=some (.dT kvs))(eb:H b=some (.tup (k.map kV))):DGet H a (.ref b) (valV kvs k):=.inr ⟨kvs,k,b,.inl e,rfl,eb,rfl⟩
theorem DPut.k{H:Hp}{a:Addr}{kvs:List (Key×V)}{k:Key}{v:V}(e:H a=some (.dK kvs))(hl:kvs.length<sizeLine):DPut H a (kV k) v (upd H a (.dK (putK kvs k v))):=.inl ⟨kvs,k,e,rfl,hl,rfl⟩
theorem DPut.t{H:Hp}{a b:Addr}{kvs:List (List Key×V)}{k:List Key}{v:V}(e:H a=some (.dT kvs))(eb:H b=some (.tup (k.map kV)))(hl:kvs.length<sizeLine) :
  DPut H a (.ref b) v (upd H a (.dT (putK kvs k v))):=.inr ⟨kvs,k,b,e,rfl,eb,hl,rfl⟩
section
variable{X:Cx}{pins:List (Addr×Obj)}{σ:St}{H:Hp}{s:Shared}{a:Addr}{y v:V}{u r:Value}{o:Option V}{A:Around}{E:Value->Shared->Prop}
end
section
variable{X:Cx}{pins:List (Addr×Obj)}{σ:St}{H:Hp}{s:Shared}{a:Addr}{kvs:List (Key×V)}{k:Key}{u:Value}{A:Around}{E:Value->Shared->Prop}
end
noncomputable def NoSl(i:Expr):Prop:=∀ ov iv,subscripted i false ov iv=operate [ov,iv] (getItem ov iv)
noncomputable def tDGet(td ty:TE):TE:=fun σ H Q=>td σ H fun x H1=>ty σ H1 fun y H2=>∃ a v,x=.ref a/\DGet H2 a y (some v)/\Q v H2
noncomputable def sDPut(td ty tv:TE):TS:=fun D σ H=>tv σ H fun v H1=>td σ H1 fun x H2=>ty σ H2 fun y H3=>∃ a H4,x=.ref a/\DPut H3 a y v H4/\D.nx σ H4
section
variable{X:Cx}{o i e value:Expr}{pos pos' tpos:Pos}{td ty tv:TE}
end
noncomputable def tDNewK:TE:=fun _ H Q=>∀ p,H p=none->Q (.ref p) (upd H p (.dK []))
noncomputable def tDNewT:TE:=fun _ H Q=>∀ p,H p=none->Q (.ref p) (upd H p (.dT []))
section
variable{X:Cx}{pos:Pos}
end
structure M1(X:Cx)(o:Expr)(m:Str)(apos:Pos)(e:Expr)(cpos:Pos):Prop where
 base:attributeBase o m X.env (eval o X.env)=eval o X.env
 few:((backTo cpos (starEach [e] X.env)).all (fun x=>!x.1)&&(backToKw cpos (keywordEach [] X.env)).all (fun x=>x.1.isSome)
  && decide (([e]:List Expr).length+([]:List Keyword).length+(if ([]:List Keyword).isEmpty then 0 else 1)<30))=true
 line:(apos.endLine==cpos.line)=true
 trees:backTo cpos (starEach [e] X.env)=[(false,eval e X.env)]
structure M2(X:Cx)(o:Expr)(m:Str)(apos:Pos)(e f:Expr)(cpos:Pos):Prop where
 base:attributeBase o m X.env (eval o X.env)=eval o X.env
 few:((backTo cpos (starEach [e,f] X.env)).all (fun x=>!x.1)&&(backToKw cpos (keywordEach [] X.env)).all (fun x=>x.1.isSome)
  && decide (([e,f]:List Expr).length+([]:List Keyword).length+(if ([]:List Keyword).isEmpty then 0 else 1)<30))=true
 line:(apos.endLine==cpos.line)=true
 trees:backTo cpos (starEach [e,f] X.env)=[(false,eval e X.env),(false,eval f X.env)]
noncomputable def IsD(H:Hp)(a:Addr):Prop:=(∃ kvs,Rd H a (.dK kvs))\/∃ kvs,Rd H a (.dT kvs)
section
variable{X:Cx}{pins:List (Addr×Obj)}{σ:St}{H:Hp}{s:Shared}{a:Addr}{y d:V}{u r:Value}{o:Option V}{A:Around}{E:Value->Shared->Prop}
end
noncomputable def tDGet2(td ty tx:TE):TE:=fun σ H Q=>td σ H fun x H1=>∃ a,x=.ref a/\IsD H1 a/\ty σ H1 fun y H2=>tx σ H2 fun z H3=>∃ o,DGet H3 a y o/\Q (o.getD z) H3
section
variable{X:Cx}{o e f:Expr}{apos cpos:Pos}{td ty tx:TE}
end
section
variable{X:Cx}{pins:List (Addr×Obj)}{σ:St}{H:Hp}{s:Shared}{a:Addr}{kvs:List (Key×V)}{A:Around}{E:Value->Shared->Prop}
end
section
variable{X:Cx}{pins:List (Addr×Obj)}{σ:St}{H:Hp}{s:Shared}{a:Addr}{y:V}{u:Value}{A:Around}{E:Value->Shared->Prop}
end
section
variable{prog:Program}{w:World}{K:Type}[DecidableEq K]{knd:HeapKind prog w K}{A:Around}{E:Value->Shared->Prop}{s:Shared}
end
section
variable{X:Cx}{pins:List (Addr×Obj)}{σ:St}{H:Hp}{s:Shared}{a b:Addr}{v:V}{r:Value}{A:Around}{E:Value->Shared->Prop}{kvs:List (List Key×V)}{k:List Key}
end
noncomputable def tDSetd(td ty tx:TE):TE:=fun σ H Q=>td σ H fun x H1=>∃ a,x=.ref a/\IsD H1 a/\ty σ H1 fun y H2=>tx σ H2 fun z H3=>∃ kvs k b,H3 a=some (.dT kvs)/\y=.ref b/\H3 b=some (.tup (k.map kV))/\kvs.length<sizeLine /\
 (∀ v,valV kvs k=some v->Q v H3)/\(valV kvs k=none->Q z (upd H3 a (.dT (putK kvs k z))))
noncomputable def tDisp1(tk tv:TE):TE:=fun σ H Q=>∀ p,H p=none->tk σ (upd H p (.dT [])) fun x H1=>tv σ H1 fun y H2=>∃ k b,x=.ref b/\H2 b=some (.tup (k.map kV))/\H2 p=some (.dT [])/\Q (.ref p) (upd H2 p (.dT [(k,y)]))
noncomputable def tDispK(tk tv:TE):TE:=fun σ H Q=>∀ p,H p=none->tk σ (upd H p (.dK [])) fun x H1=>tv σ H1 fun y H2=>∃ k,x=kV k/\H2 p=some (.dK [])/\Q (.ref p) (upd H2 p (.dK [(k,y)]))
section
variable{X:Cx}{o i value:Expr}{td ty tv:TE}{pos pos':Pos}
noncomputable def sLPut(td ty tv:TE):TS:=fun D σ H=>tv σ H fun v H1=>td σ H1 fun x H2=>ty σ H2 fun y H3=>rSetL x y v H3 fun H4=>D.nx σ H4
end
section
variable{P:Program}{w:World}{A:Around}{E:Value->Shared->Prop}{s:Shared}{d it:Addr}{o:Obj}{es:Array DictEntry}{ep i:Nat}
end
end L2
namespace DL
open PySem PySem.Spec L2
open PyProof.Rows hiding St
noncomputable def S(x:List Nat):Str:=⟨x.toArray⟩
inductive D where
 | non | bl (b:Bool) | int (i:Int) | str (x:List Nat) | tup (xs:List D) | lst (xs:List D) | ref (a:Addr)
noncomputable def FzL(K:Frag)(H:Hp)(a:Addr)(xs:List V):Prop :=
 (∃ o,H a=some (.frz o (.lst xs))) \/
  ∃ (o:Obj) (its:Array Value) (n:Nat),K.lookup a=some o/\o.cls=.type "list" /\ o.dict=none/\o.data=.seq its n/\its.size<=sizeLine/\Vals xs its.toList
theorem FzL.sq{K:Frag}{H:Hp}{a:Addr}{xs:List V}(h:FzL K H a xs):SqL K H a xs:=by
 rcases h with ⟨o,h⟩ | h
 ·exact .inl (.inr ⟨o,h⟩)
 ·exact .inr h
mutual
inductive Den(K:Frag)(H:Hp):D->V->Prop
 | non:Den K H .non .non
 | bl (b:Bool):Den K H (.bl b) (.bl b)
 | int (i:Int):Den K H (.int i) (.int i)
 | str (x:List Nat) (h:(x.all fun c=>decide (c<1114112))=true):Den K H (.str x) (.str (S x))
 | ref (a:Addr):Den K H (.ref a) (.ref a)
 | tup {a:Addr} {ds:List D} {vs:List V}:H a=some (.tup vs)->Dens K H ds vs->Den K H (.tup ds) (.ref a)
 | lst {a:Addr} {ds:List D} {vs:List V}:FzL K H a vs->Dens K H ds vs->Den K H (.lst ds) (.ref a)
inductive Dens(K:Frag)(H:Hp):List D->List V->Prop
 | nil:Dens K H [] []
 | cons {d:D} {v:V} {ds:List D} {vs:List V}:Den K H d v->Dens K H ds vs->Dens K H (d::ds) (v::vs)
end
structure Ext(H H':Hp):Prop where
 tup:∀ b xs,H b=some (.tup xs)->H' b=some (.tup xs)
 frz:∀ b o u,H b=some (.frz o u)->H' b=some (.frz o u)
theorem Ext.refl(H:Hp):Ext H H:=⟨fun _ _ e=>e,fun _ _ _ e=>e⟩
theorem Ext.trans(a:Ext H H1)(b:Ext H1 H2):Ext H H2:=⟨fun c xs e=>b.tup c xs (a.tup c xs e),fun c o u e=>b.frz c o u (a.frz c o u e)⟩
theorem Ext.new(h:H p=none):Ext H (upd H p o) :=
 ⟨fun b xs e=>by rw[Q0f (Q0q e h)];exact e,fun b o u e=>by rw[Q0f (Q0q e h)];exact e⟩
theorem Ext.mut(h:H p=some u)(h1:∀ xs,u≠.tup xs)(h2:∀ ob v,u≠.frz ob v):Ext H (upd H p o) :=
 ⟨fun b ys e=>by rw[Q0f fun w=>by rw[w,h]at e;cases e;exact h1 _ rfl];exact e,fun b ob y e=>by rw[Q0f fun w=>by rw[w,h]at e;cases e;exact h2 _ _ rfl];exact e⟩
theorem Ext.lst(h:H p=some (.lst xs)):Ext H (upd H p o) :=
 ⟨fun b ys e=>by rw[Q0f fun w=>by rw[w,h]at e;cases e];exact e,fun b u y e=>by rw[Q0f fun w=>by rw[w,h]at e;cases e];exact e⟩
section
variable{K:Frag}{H H':Hp}
theorem SqT.ext(x:Ext H H')(h:SqT K H a xs):SqT K H' a xs:=by
 rcases h with (h | ⟨o,h⟩) | h
 ·exact .inl (.inl (x.tup _ _ h))
 ·exact .inl (.inr ⟨o,x.frz _ _ _ h⟩)
 ·exact .inr h
theorem FzL.ext(x:Ext H H')(h:FzL K H a xs):FzL K H' a xs:=by
 rcases h with ⟨o,h⟩ | h
 ·exact .inl ⟨o,x.frz _ _ _ h⟩
 ·exact .inr h
mutual
theorem Den.ext(x:Ext H H'):∀ {d:D} {v:V},Den K H d v->Den K H' d v
 | _,_,.non=>.non
 | _,_,.bl b=>.bl b
 | _,_,.int i=>.int i
 | _,_,.str s h=>.str s h
 | _,_,.ref a=>.ref a
 | _,_,.tup h t=>.tup (x.tup _ _ h) (Dens.ext x t)
 | _,_,.lst h t=>.lst (FzL.ext x h) (Dens.ext x t)
theorem Dens.ext(x:Ext H H'):∀ {ds:List D} {vs:List V},Dens K H ds vs->Dens K H' ds vs
 | _,_,.nil=>.nil
 | _,_,.cons h t=>.cons (Den.ext x h) (Dens.ext x t)
end
theorem Dens.length:∀ {ds:List D} {vs:List V},Dens K H ds vs->ds.length=vs.length
 | _,_,.nil=>rfl
 | _,_,.cons _ t=>by rw[Zk,Zk,Dens.length t]
theorem Dens.get:∀ {ds:List D} {vs:List V} {i:Nat} {d:D},Dens K H ds vs->ds[i]? = some d->∃ v,vs[i]? = some v/\Den K H d v
 | _,_,_,_,.nil,e=>by simp at e
 | _,_,0,_,.cons r _,e=>by simp at e;subst e;exact⟨_,rfl,r⟩
 | _,_,i+1,d,.cons _ t,e=>by
  obtain⟨u,h1,h2⟩:=Dens.get (i:=i) (d:=d) t (by simpa using e)
  exact⟨u,by simpa using h1,h2⟩
theorem Dens.get':∀ {ds:List D} {vs:List V} {i:Nat} {v:V},Dens K H ds vs->vs[i]? = some v->∃ d,ds[i]? = some d/\Den K H d v
 | _,_,_,_,.nil,e=>by simp at e
 | _,_,0,_,.cons r _,e=>by simp at e;subst e;exact⟨_,rfl,r⟩
 | _,_,i+1,d,.cons _ t,e=>by
  obtain⟨u,h1,h2⟩:=Dens.get' (i:=i) (v:=d) t (by simpa using e)
  exact⟨u,by simpa using h1,h2⟩
theorem Dens.append:∀ {ds es:List D} {vs ws:List V},Dens K H ds vs->Dens K H es ws->Dens K H (ds++es) (vs++ws)
 | _,_,_,_,.nil,s=>s
 | _,_,_,_,.cons r t,s=>.cons r (Dens.append t s)
theorem Dens.take:∀ {ds:List D} {vs:List V} (n:Nat),Dens K H ds vs->Dens K H (ds.take n) (vs.take n)
 | _,_,0,_=>.nil
 | _,_,_+1,.nil=>.nil
 | _,_,n+1,.cons r t=>.cons r (Dens.take n t)
theorem Dens.drop:∀ {ds:List D} {vs:List V} (n:Nat),Dens K H ds vs->Dens K H (ds.drop n) (vs.drop n)
 | _,_,0,r=>r
 | _,_,_+1,.nil=>.nil
 | _,_,n+1,.cons _ t=>Dens.drop n t
theorem Dens.reverse(h:Dens K H ds vs):Dens K H ds.reverse vs.reverse:=by
 induction ds generalizing vs with
 | nil=>cases h;exact .nil
 | cons d r ih =>
  cases h with
  | cons a t=>rw[reverse_cons,reverse_cons];exact Dens.append (ih t) (.cons a .nil)
end
noncomputable abbrev DSt:=List (Option D)
inductive MO2 where
 | dct (kvs:List (List (List Nat)×D))
 | dkt (kvs:List (List Nat×D))
 | dkf (ob:Obj) (kvs:List (List Nat×D))
 | dcf (ob:Obj) (kvs:List (List (List Nat)×D))
 | ins (c:Str) (fs:List (Str×D))
inductive MO where
 | lst (ds:List D)
 | oth (o:MO2)
noncomputable abbrev DH:=Addr->Option MO
noncomputable def dupd(M:DH)(a:Addr)(o:MO):DH:=fun b=>if b=a then some o else M b
theorem Q0e:dupd M a o a=some o:=Zm rfl
theorem Q0j(h:b≠a):dupd M a o b=M b:=Zj h
theorem dne{M:DH}{a b:Addr}{o:MO}(h:M a=some o)(h':M b=none):a≠b:=by
 intro e;subst e;rw[h]at h';cases h'
theorem Q6E:dupd (dupd M a o) a u=dupd M a u:=by
 funext b
 unfold dupd;by_cases h:b=a
 ·rw[Zm h,Zm h]
 ·rw[Zj h,Zj h,Zj h]
noncomputable def DenO(K:Frag)(H:Hp):Option D->Option V->Prop
 | none,none=>True
 | some d,some v=>Den K H d v
 | _,_=>False
inductive SimS(K:Frag)(H:Hp):DSt->St->Prop
 | nil:SimS K H [] []
 | cons {d:Option D} {v:Option V} {ds:DSt} {vs:St}:DenO K H d v->SimS K H ds vs->SimS K H (d::ds) (v::vs)
noncomputable def nk(n:List (List Nat)):List Key:=n.map fun x=>Sum.inr (S x)
noncomputable abbrev KDs(K:Frag)(H:Hp):List (List (List Nat)×D)->List (List Key×V)->Prop:=Paired fun p q=>q.1=nk p.1/\Den K H p.2 q.2
noncomputable def tkk(x:List Nat):Key:=Sum.inr (S x)
noncomputable abbrev KTs(K:Frag)(H:Hp):List (List Nat×D)->List (Key×V)->Prop:=Paired fun p q=>q.1=tkk p.1/\Den K H p.2 q.2
noncomputable abbrev FDs(K:Frag)(H:Hp):List (Str×D)->List (Str×V)->Prop:=Paired fun p q=>p.1=q.1/\Den K H p.2 q.2
noncomputable def MOk2(K:Frag)(H:Hp)(a:Addr):MO2->Prop
 | .dct kvs=>∃ vs,H a=some (.dT vs)/\KDs K H kvs vs
 | .dkt kvs=>∃ vs,H a=some (.dK vs)/\KTs K H kvs vs
 | .dkf ob kvs=>∃ vs,H a=some (.frz ob (.dK vs))/\KTs K H kvs vs
 | .dcf ob kvs=>∃ vs,H a=some (.frz ob (.dT vs))/\KDs K H kvs vs
 | .ins c fs=>∃ C dx vs,nsIn K mainGlobals c=some (some (.ref C))/\H a=some (.ins C dx vs)/\FDs K H fs vs
noncomputable def MOk(K:Frag)(H:Hp)(a:Addr):MO->Prop
 | .lst ds=>∃ vs,H a=some (.lst vs)/\Dens K H ds vs
 | .oth o=>MOk2 K H a o
noncomputable def SimM(K:Frag)(M:DH)(H:Hp):Prop:=∀ a o,M a=some o->MOk K H a o
section
variable{K:Frag}{H H':Hp}{M:DH}
theorem DenO.ext(x:Ext H H'):∀ {d:Option D} {v:Option V},DenO K H d v->DenO K H' d v
 | none,none,_=>trivial
 | some _,some _,h=>Den.ext x h
 | none,some _,h=>h.elim
 | some _,none,h=>h.elim
theorem SimS.ext(x:Ext H H'):∀ {ds:DSt} {vs:St},SimS K H ds vs->SimS K H' ds vs
 | _,_,.nil=>.nil
 | _,_,.cons h t=>.cons (h.ext x) (SimS.ext x t)
theorem SimS.length:∀ {ds:DSt} {vs:St},SimS K H ds vs->ds.length=vs.length
 | _,_,.nil=>rfl
 | _,_,.cons _ t=>by rw[Zk,Zk,SimS.length t]
theorem SimS.get:∀ {ds:DSt} {vs:St} {i:Nat} {d:D},SimS K H ds vs->ds[i]? = some (some d)->∃ v,vs[i]? = some (some v)/\Den K H d v
 | _,_,_,_,.nil,e=>by simp at e
 | _,some v::_,0,d,.cons (d:=some d') r _,e=>by simp at e;subst e;exact⟨v,rfl,r⟩
 | _,none::_,0,d,.cons (d:=some d') r _,e=>r.elim
 | _,_,0,d,.cons (d:=none) r _,e=>by simp at e
 | _,_,i+1,d,.cons _ t,e=>by
  obtain⟨u,h1,h2⟩:=SimS.get (i:=i) (d:=d) t (by simpa using e)
  exact⟨u,by simpa using h1,h2⟩
theorem SimS.getD:∀ {ds:DSt} {vs:St} (i:Nat),SimS K H ds vs->DenO K H ((ds[i]?).getD none) ((vs[i]?).getD none)
 | _,_,_,.nil=>by simp;exact trivial
 | _,_,0,.cons r _=>by simpa using r
 | _,_,i+1,.cons _ t=>by simpa using SimS.getD i t
theorem SimS.set(r:Den K H d v):∀ {ds:DSt} {vs:St} (i:Nat),SimS K H ds vs->SimS K H (ds.set i (some d)) (vs.set i (some v))
 | _,_,_,.nil=>.nil
 | _,_,0,.cons _ t=>.cons r t
 | _,_,i+1,.cons q t=>.cons q (SimS.set r i t)
theorem SimS.append:∀ {ds es:DSt} {vs ws:St},SimS K H ds vs->SimS K H es ws->SimS K H (ds++es) (vs++ws)
 | _,_,_,_,.nil,s=>s
 | _,_,_,_,.cons r t,s=>.cons r (SimS.append t s)
theorem SimS.nones:∀ k:Nat,SimS K H (List.replicate k none) (List.replicate k none)
 | 0=>.nil
 | k+1=>.cons trivial (SimS.nones k)
theorem SimS.ofDens:∀ {ds:List D} {vs:List V},Dens K H ds vs->SimS K H (ds.map some) (vs.map some)
 | _,_,.nil=>.nil
 | _,_,.cons r t=>.cons r (SimS.ofDens t)
theorem SimS.pick(h:SimS K H ds vs):∀ ix:List Nat,SimS K H (ix.map fun i=>(ds[i]?).getD none) (ix.map fun i=>(vs[i]?).getD none)
 | []=>.nil
 | i::r=>.cons (h.getD i) (SimS.pick h r)
theorem MOk.keep(h:MOk K H a o)(x:Ext H H')(e:H' a=H a):MOk K H' a o:=by
 cases o with
 | lst ds=>obtain⟨vs,e1,e2⟩:=h;exact⟨vs,e.trans e1,e2.ext x⟩
 | oth o =>
  cases o with
  | dct kvs=>obtain⟨vs,e1,e2⟩:=h;exact⟨vs,e.trans e1,Paired.mapP e2 fun p q z=>⟨z.1,Den.ext x z.2⟩⟩
  | dkt kvs=>obtain⟨vs,e1,e2⟩:=h;exact⟨vs,e.trans e1,Paired.mapP e2 fun p q z=>⟨z.1,Den.ext x z.2⟩⟩
  | dkf ob kvs=>obtain⟨vs,e1,e2⟩:=h;exact⟨vs,e.trans e1,Paired.mapP e2 fun p q z=>⟨z.1,Den.ext x z.2⟩⟩
  | dcf ob kvs=>obtain⟨vs,e1,e2⟩:=h;exact⟨vs,e.trans e1,Paired.mapP e2 fun p q z=>⟨z.1,Den.ext x z.2⟩⟩
  | ins c fs=>obtain⟨C,dx,vs,e0,e1,e2⟩:=h;exact⟨C,dx,vs,e0,e.trans e1,Paired.mapP e2 fun p q z=>⟨z.1,Den.ext x z.2⟩⟩
theorem MOk.there(h:MOk K H a o):∃ u,H a=some u:=by
 cases o with
 | lst ds=>obtain⟨vs,e1,e2⟩:=h;exact⟨_,e1⟩
 | oth o =>
  cases o with
  | dct kvs=>obtain⟨vs,e1,e2⟩:=h;exact⟨_,e1⟩
  | dkt kvs=>obtain⟨vs,e1,e2⟩:=h;exact⟨_,e1⟩
  | dkf ob kvs=>obtain⟨vs,e1,e2⟩:=h;exact⟨_,e1⟩
  | dcf ob kvs=>obtain⟨vs,e1,e2⟩:=h;exact⟨_,e1⟩
  | ins c fs=>obtain⟨C,dx,vs,e0,e1,e2⟩:=h;exact⟨_,e1⟩
theorem SimM.free(h:SimM K M H)(e:H p=none):M p=none:=by
 cases q:M p with
 | none=>rfl
 | some o=>obtain⟨u,e'⟩:=(h p _ q).there;rw[e]at e';cases e'
theorem SimM.get(h:SimM K M H)(e:M a=some (.lst ds)):∃ vs,H a=some (.lst vs)/\Dens K H ds vs:=h a _ e
theorem SimM.new(h:SimM K M H)(e:H p=none):SimM K M (upd H p o):=fun a u q=>by
 obtain⟨u',e1⟩:=(h a _ q).there;exact (h a _ q).keep (Ext.new e) (Q0f (Q0q e1 e))
theorem SimM.newL(h:SimM K M H)(e:H p=none)(r:Dens K H ds vs):SimM K (dupd M p (.lst ds)) (upd H p (.lst vs)):=fun a u q=>by
 by_cases ha:a=p
 ·subst ha;rw[Q0e]at q;cases q;exact⟨vs,Q0i,Dens.ext (Ext.new e) r⟩
 ·rw[Q0j ha]at q;exact (h.new e) a u q
theorem SimM.write(h:SimM K M H)(e:H p=some (.lst ws))(r:Dens K H ds vs):SimM K (dupd M p (.lst ds)) (upd H p (.lst vs)):=fun a u q=>by
 by_cases ha:a=p
 ·subst ha;rw[Q0e]at q;cases q;exact⟨vs,Q0i,Dens.ext (Ext.lst e) r⟩
 ·rw[Q0j ha]at q;exact (h a _ q).keep (Ext.lst e) (Q0f ha)
theorem SimM.put(h:SimM K M H)(x:Ext H (upd H p o))(n:MOk K (upd H p o) p u):SimM K (dupd M p u) (upd H p o):=fun a v q=>by
 by_cases ha:a=p
 ·subst ha;rw[Q0e]at q;cases q;exact n
 ·rw[Q0j ha]at q;exact (h a _ q).keep x (Q0f ha)
noncomputable def ddel(M:DH)(a:Addr):DH:=fun b=>if b=a then none else M b
theorem SimM.del(h:SimM K M H)(a:Addr):SimM K (ddel M a) H:=fun b u q=>by
 unfold ddel at q;by_cases hb:b=a
 ·rw[Zm hb]at q;cases q
 ·rw[Zj hb]at q;exact h b u q
theorem SimM.frz(h:SimM K M H)(e:H p=some (.lst ws)):SimM K (ddel M p) (upd H p o):=fun a u q=>by
 unfold ddel at q;by_cases ha:a=p
 ·rw[Zm ha]at q;cases q
 ·rw[Zj ha]at q;exact (h a _ q).keep (Ext.lst e) (Q0f ha)
end
noncomputable abbrev DK:=D->DH->Prop
noncomputable abbrev DTE:=DSt->DH->DK->Prop
noncomputable abbrev DTT:=DSt->DH->(Bool->DH->Prop)->Prop
noncomputable abbrev DTA:=DSt->DH->(List D->DH->Prop)->Prop
structure zbj where
 nx:DSt->DH->Prop
 rt:DK
 bk:DSt->DH->Prop
 ct:DSt->DH->Prop
noncomputable abbrev DTS:=zbj->DSt->DH->Prop
noncomputable def Aft(K:Frag)(H:Hp)(R:DK)(Q:VK):Prop:=∀ d M' v H',R d M'->Ext H H'->SimM K M' H'->Den K H' d v->Q v H'
noncomputable def lE(K:Frag)(t:DTE):TE:=fun σ H Q=>∃ ρ M R,SimS K H ρ σ/\SimM K M H/\t ρ M R/\Aft K H R Q
noncomputable def lT(K:Frag)(t:DTT):TT:=fun σ H Q=>∃ ρ M R,SimS K H ρ σ/\SimM K M H/\t ρ M R/\∀ b M' H',R b M'->Ext H H'->SimM K M' H'->Q b H'
noncomputable def lA(K:Frag)(t:DTA):TA:=fun σ H Q=>∃ ρ M R,SimS K H ρ σ/\SimM K M H/\t ρ M R/\∀ ds M' vs H',R ds M'->Ext H H'->SimM K M' H'->Dens K H' ds vs->Q vs H'
structure Fin(K:Frag)(H:Hp)(DD:zbj)(D:Ends):Prop where
 nx:∀ ρ' M' σ' H',DD.nx ρ' M'->Ext H H'->SimS K H' ρ' σ'->SimM K M' H'->D.nx σ' H'
 rt:Aft K H DD.rt D.rt
 bk:∀ ρ' M' σ' H',DD.bk ρ' M'->Ext H H'->SimS K H' ρ' σ'->SimM K M' H'->D.bk σ' H'
 ct:∀ ρ' M' σ' H',DD.ct ρ' M'->Ext H H'->SimS K H' ρ' σ'->SimM K M' H'->D.ct σ' H'
noncomputable def lS(K:Frag)(t:DTS):TS:=fun D σ H=>∃ ρ M DD,SimS K H ρ σ/\SimM K M H/\t DD ρ M/\Fin K H DD D
theorem Aft.ext{K:Frag}{H H':Hp}{R:DK}{Q:VK}(a:Aft K H R Q)(x:Ext H H'):Aft K H' R Q:=fun d M v H'' r y=>a d M v H'' r (x.trans y)
theorem Fin.ext{K:Frag}{H H':Hp}{DD:zbj}{D:Ends}(a:Fin K H DD D)(x:Ext H H'):Fin K H' DD D :=
 ⟨fun r M s H2 q y=>a.nx r M s H2 q (x.trans y),a.rt.ext x,fun r M s H2 q y=>a.bk r M s H2 q (x.trans y),fun r M s H2 q y=>a.ct r M s H2 q (x.trans y)⟩
noncomputable abbrev DE(X:Cx)(e:Expr)(t:DTE):Prop:=PE X e (lE X.K t)
noncomputable abbrev DT(X:Cx)(e:Expr)(t:DTT):Prop:=PT X e (lT X.K t)
noncomputable abbrev DW(X:Cx)(e:Expr)(t:DTT):Prop:=PW X e (lT X.K t)
noncomputable abbrev DA(X:Cx)(es:List Expr)(t:DTA):Prop:=PA X es (lA X.K t)
noncomputable abbrev DS(X:Cx)(st:Stmt)(t:DTS):Prop:=PS X st (lS X.K t)
noncomputable abbrev DSs(X:Cx)(st:List Stmt)(t:DTS):Prop:=PSs X st (lS X.K t)
section
variable{X:Cx}{a b c e:Expr}{es:List Expr}{ta tb te:DTE}{tt tu:DTT}{pos:Pos}{K:Frag}
noncomputable def dVar(i:Nat):DTE:=fun ρ M Q=>match ρ[i]? with
 | some (some d)=>Q d M
 | _=>False
theorem dv(i:Nat)(hN:X.N[i]? = some x:=by rfl)(hv:Vis X.env.scope x:=by first | exact Or.inl rfl | exact Or.inr (Or.inl rfl) | exact Or.inr (Or.inr rfl))(hd:(x==("__debug__" : Str))=false:=by decide)
  (hcd:(x==("__classdict__" : Str))=false:=by decide):DE X (.Name x pos) (dVar i):=(Q1N hN hv hd hcd).imp fun σ H Q ⟨ρ,M,R,s,m,h,k⟩=>by
 unfold dVar at h;cases e:ρ[i]? with
 | none=>rw[e]at h;exact h.elim
 | some o =>
  rw[e]at h;cases o with
  | none=>exact h.elim
  | some d =>
   obtain⟨v,e1,e2⟩:=s.get e;exact⟨v,e1,k d M v H h (Ext.refl H) m e2⟩
noncomputable def dC(d:D):DTE:=fun _ M Q=>Q d M
theorem dc_of(h:PE X e (tC v))(hd:∀ H,Den X.K H d v):DE X e (dC d):=h.imp fun σ H Q ⟨ρ,M,R,s,m,h,k⟩=>k d M v H h (Ext.refl H) m (hd H)
theorem Q6F{i j pos}:DE X (.Constant (.int i) j pos) (dC (.int i)):=dc_of Qbi fun _=>.int i
theorem de_bl{i j pos}:DE X (.Constant (.bool i) j pos) (dC (.bl i)):=dc_of pe_bl fun _=>.bl i
theorem Q9z{j pos}:DE X (.Constant .none j pos) (dC .non):=dc_of Qbj fun _=>.non
theorem S_of'(x:Str):S x.cps.toList=x:=by unfold S;cases x;simp
theorem Q6G{j pos}(h:(i.cps.toList.all fun c=>decide (c<1114112))=true:=by decide):DE X (.Constant (.str i) j pos) (dC (.str i.cps.toList)):=dc_of Qbk fun H=>by
 have q:=Den.str (K:=X.K) (H:=H) i.cps.toList h;rw[S_of']at q;exact q
theorem Qag(hg:Gl X x)(hm:X.mg x=some u)(r:RelV v u)(hd:∀ H,Den X.K H d v)(hdb:(x==("__debug__" : Str))=false:=by decide):DE X (.Name x pos) (dC d):=dc_of (Q6j hg hm r hdb) hd
noncomputable abbrev DR2:=D->D->DH->DK->Prop
noncomputable def lR2(K:Frag)(r:DR2):R2:=fun x y H Q=>∃ dx dy M R,Den K H dx x/\Den K H dy y/\SimM K M H/\r dx dy M R/\Aft K H R Q
noncomputable abbrev OpD(X:Cx)(f:Value->Value->Sem Value)(r:DR2):Prop:=OpR X f (lR2 X.K r)
noncomputable def dOp(r:DR2)(ta tb:DTE):DTE:=fun ρ M Q=>ta ρ M fun x M1=>tb ρ M1 fun y M2=>r x y M2 Q
theorem Q4R(hr:∀ x y H Q,lR2 K r x y H Q->rV x y H Q)(h:lE K (dOp r ta tb) σ H Q):tOp rV (lE K ta) (lE K tb) σ H Q:=by
 obtain⟨ρ,M,R,s,m,h,k⟩:=h;refine⟨ρ,M,_,s,m,h,fun d1 M1 v1 H1 h1 x1 m1 e1=>⟨ρ,M1,_,s.ext x1,m1,h1,fun d2 M2 v2 H2 h2 x2 m2 e2=>hr _ _ _ _ ⟨d1,d2,M2,R,e1.ext x2,e2,m2,h2,k.ext (x1.trans x2)⟩⟩⟩
theorem de_op(ho:OpD X (binaryOp op) r)(ha:DE X a ta)(hb:DE X b tb):DE X (.BinOp a op b pos) (dOp r ta tb) :=
 (pe_op ho ha hb).imp fun σ H Q h=>Q4R (fun _ _ _ _ q=>q) h
theorem QbL(ho:OpD X (compareOp op) r)(ha:DE X a ta)(hb:DE X b tb)(hm:behindInMarks op b=false:=by first | exact nobehind _ (by decide) (by decide) | rfl):DE X (.Compare a [op] [b] pos) (dOp r ta tb) :=
 (Q9X ho ha hb hm).imp fun σ H Q h=>Q4R (fun _ _ _ _ q=>q) h
noncomputable def dB(t:DTE):DTT:=fun ρ M Q=>t ρ M fun x M1=>match x with
 | .bl c=>Q c M1
 | _=>False
theorem QbM(h:DE X e te)(he:∀ whole,isTrue e X.env whole=(do let v <- whole;standAt e.pos;holding [v] (truthy v)):=by intro _;rfl):DT X e (dB te) :=
 (Qbl h he).imp fun σ H Q ⟨ρ,M,R,s,m,h,k⟩=>⟨ρ,M,_,s,m,h,fun d M1 v H1 h1 x1 m1 e1=>by
  cases d with
  | bl c=>cases e1;exact⟨c,rfl,k c M1 H1 h1 x1 m1⟩
  | _=>exact h1.elim⟩
theorem QbN(ho:OpD X (compareOp op) r)(ha:DE X a ta)(hb:DE X b tb)(hm:behindInMarks op b=false:=by first | exact nobehind _ (by decide) (by decide) | rfl):DT X (.Compare a [op] [b] pos) (dB (dOp r ta tb)) :=
 (Q9Y ho ha hb hm).imp fun σ H Q ⟨ρ,M,R,s,m,h,k⟩=>Q4R (r:=r) (fun _ _ _ _ q=>q) ⟨ρ,M,_,s,m,h,fun d M1 v H1 h1 x1 m1 e1=>by
  cases d with
  | bl c=>cases e1;exact⟨c,rfl,k c M1 H1 h1 x1 m1⟩
  | _=>exact h1.elim⟩
noncomputable def dAnd(t u:DTT):DTT:=fun ρ M Q=>t ρ M fun c M1=>if c=true then u ρ M1 Q else Q false M1
noncomputable def dOr(t u:DTT):DTT:=fun ρ M Q=>t ρ M fun c M1=>if c=true then Q true M1 else u ρ M1 Q
noncomputable def dNot(t:DTT):DTT:=fun ρ M Q=>t ρ M fun c M1=>Q (!c) M1
variable{rest:List Expr}
theorem Qah(ha:DT X a tt):DW X (.BoolOp .And [a] pos) tt:=Q9V ha
theorem QbO(ha:DT X a tt):DW X (.BoolOp .Or [a] pos) tt:=Qbm ha
theorem QbP(ha:DT X a tt)(hb:DW X (.BoolOp .And (b::rest) pos) tu):DW X (.BoolOp .And (a::b::rest) pos) (dAnd tt tu) :=
 (Qbn ha hb).imp fun σ H Q ⟨ρ,M,R,s,m,h,k⟩=>⟨ρ,M,_,s,m,h,fun c M1 H1 h1 x1 m1=>by
  cases c with
  | true=>exact iteT ⟨ρ,M1,_,s.ext x1,m1,(Zm rfl).mp h1,fun b M2 H2 h2 x2 m2=>k b M2 H2 h2 (x1.trans x2) m2⟩
  | false=>exact iteF (k false M1 H1 ((Zj ZA).mp h1) x1 m1)⟩
theorem dw_or(ha:DT X a tt)(hb:DW X (.BoolOp .Or (b::rest) pos) tu):DW X (.BoolOp .Or (a::b::rest) pos) (dOr tt tu) :=
 (pw_or ha hb).imp fun σ H Q ⟨ρ,M,R,s,m,h,k⟩=>⟨ρ,M,_,s,m,h,fun c M1 H1 h1 x1 m1=>by
  cases c with
  | true=>exact iteT (k true M1 H1 ((Zm rfl).mp h1) x1 m1)
  | false=>exact iteF ⟨ρ,M1,_,s.ext x1,m1,(Zj ZA).mp h1,fun b M2 H2 h2 x2 m2=>k b M2 H2 h2 (x1.trans x2) m2⟩⟩
theorem QbQ(ha:DT X a tt):DT X (.UnaryOp .Not a pos) (dNot tt) :=
 (Qbo ha).imp fun σ H Q ⟨ρ,M,R,s,m,h,k⟩=>⟨ρ,M,_,s,m,h,fun c M1 H1 h1 x1 m1=>k (!c) M1 H1 h1 x1 m1⟩
theorem DW.dt(h:DW X e tt):DT X e tt:=PW.pt h
noncomputable def zbA(ta tb:DTE):DTE:=fun ρ M Q=>ta ρ M fun x M1=>match x with
 | .bl c=>if c=true then tb ρ M1 Q else Q (.bl false) M1
 | _=>False
noncomputable def dOrV(ta tb:DTE):DTE:=fun ρ M Q=>ta ρ M fun x M1=>match x with
 | .bl c=>if c=true then Q (.bl true) M1 else tb ρ M1 Q
 | _=>False
noncomputable def dNotV(ta:DTE):DTE:=fun ρ M Q=>ta ρ M fun x M1=>match x with
 | .bl c=>Q (.bl (!c)) M1
 | _=>False
theorem Q6H{op}(h:DE X a ta):DE X (.BoolOp op [a] pos) ta:=Qbp h
theorem QbR(ha:DE X a ta)(hb:DE X (.BoolOp .And (b::rest) pos) tb):DE X (.BoolOp .And (a::b::rest) pos) (zbA ta tb) :=
 (Qbq ha hb).imp fun σ H Q ⟨ρ,M,R,s,m,h,k⟩=>⟨ρ,M,_,s,m,h,fun d M1 v H1 h1 x1 m1 e1=>by
  cases d with
  | bl c =>
   cases e1;refine⟨c,rfl,?_⟩;cases c with
   | true=>exact iteT ⟨ρ,M1,_,s.ext x1,m1,(Zm rfl).mp h1,k.ext x1⟩
   | false=>exact iteF (k _ M1 _ H1 ((Zj ZA).mp h1) x1 m1 (.bl _))
  | _=>exact h1.elim⟩
theorem de_or(ha:DE X a ta)(hb:DE X (.BoolOp .Or (b::rest) pos) tb):DE X (.BoolOp .Or (a::b::rest) pos) (dOrV ta tb) :=
 (pe_or ha hb).imp fun σ H Q ⟨ρ,M,R,s,m,h,k⟩=>⟨ρ,M,_,s,m,h,fun d M1 v H1 h1 x1 m1 e1=>by
  cases d with
  | bl c =>
   cases e1;refine⟨c,rfl,?_⟩;cases c with
   | true=>exact iteT (k _ M1 _ H1 ((Zm rfl).mp h1) x1 m1 (.bl _))
   | false=>exact iteF ⟨ρ,M1,_,s.ext x1,m1,(Zj ZA).mp h1,k.ext x1⟩
  | _=>exact h1.elim⟩
theorem QbS(ha:DE X a ta):DE X (.UnaryOp .Not a pos) (dNotV ta) :=
 (Qbr ha).imp fun σ H Q ⟨ρ,M,R,s,m,h,k⟩=>⟨ρ,M,_,s,m,h,fun d M1 v H1 h1 x1 m1 e1=>by
  cases d with
  | bl c=>cases e1;exact⟨c,rfl,k _ M1 _ H1 h1 x1 m1 (.bl _)⟩
  | _=>exact h1.elim⟩
noncomputable def dIf(t:DTT)(ta tb:DTE):DTE:=fun ρ M Q=>t ρ M fun c M1=>if c=true then ta ρ M1 Q else tb ρ M1 Q
theorem Q8z(hc:DT X c tt)(ha:DE X a ta)(hb:DE X b tb):DE X (.IfExp c a b pos) (dIf tt ta tb) :=
 (Q8h hc ha hb).imp fun σ H Q ⟨ρ,M,R,s,m,h,k⟩=>⟨ρ,M,_,s,m,h,fun c M1 H1 h1 x1 m1=>by
  cases c with
  | true=>exact iteT ⟨ρ,M1,_,s.ext x1,m1,(Zm rfl).mp h1,k.ext x1⟩
  | false=>exact iteF ⟨ρ,M1,_,s.ext x1,m1,(Zj ZA).mp h1,k.ext x1⟩⟩
noncomputable def dNil:DTA:=fun _ M Q=>Q [] M
noncomputable def zbp(ta:DTE)(tr:DTA):DTA:=fun ρ M Q=>ta ρ M fun x M1=>tr ρ M1 fun xs M2=>Q (x::xs) M2
variable{tr:DTA}
theorem Q6I:DA X [] dNil:=Q3E.imp fun σ H Q ⟨ρ,M,R,s,m,h,k⟩=>k [] M [] H h (Ext.refl H) m .nil
theorem Q4A(ha:DE X e te)(hr:DA X es tr)(hs:starEach (e::es) X.env=(false,eval e X.env)::starEach es X.env:=by rfl):DA X (e::es) (zbp te tr) :=
 (Q0S ha hr hs).imp fun σ H Q ⟨ρ,M,R,s,m,h,k⟩=>⟨ρ,M,_,s,m,h,fun d1 M1 v1 H1 h1 x1 m1 e1=>⟨ρ,M1,_,s.ext x1,m1,h1,fun ds M2 vs H2 h2 x2 m2 e2=>k _ M2 _ H2 h2 (x1.trans x2) m2 (.cons (e1.ext x2) e2)⟩⟩
noncomputable def dTup(t:DTA):DTE:=fun ρ M Q=>t ρ M fun xs M1=>xs.length<=sizeLine/\Q (.tup xs) M1
theorem Q9A{x1}(h:DA X es tr):DE X (.Tuple es x1 pos) (dTup tr) :=
 (QbD h).imp fun σ H Q ⟨ρ,M,R,s,m,h,k⟩=>⟨ρ,M,_,s,m,h,fun ds M1 vs H1 ⟨hl,h1⟩ x1 m1 e1=>⟨by rw[<- e1.length];exact hl,fun p hp=>k _ M1 _ _ h1 (x1.trans (Ext.new hp)) (m1.new hp) (.tup Q0i (e1.ext (Ext.new hp)))⟩⟩
noncomputable def dLst(t:DTA):DTE:=fun ρ M Q=>t ρ M fun xs M1=>xs.length<=sizeLine/\∀ p,M1 p=none->Q (.ref p) (dupd M1 p (.lst xs))
theorem QbT(h:DA X es tr):DE X (.List es pos) (dLst tr) :=
 (Q9u h).imp fun σ H Q ⟨ρ,M,R,s,m,h,k⟩=>⟨ρ,M,_,s,m,h,fun ds M1 vs H1 ⟨hl,h1⟩ x1 m1 e1=>⟨by rw[<- e1.length];exact hl,fun p hp=>k _ _ _ _ (h1 p (m1.free hp)) (x1.trans (Ext.new hp)) (m1.newL hp e1) (.ref p)⟩⟩
noncomputable def dFrz(t:DTE):DTE:=fun ρ M Q=>t ρ M fun d M1=>match d with
 | .ref a=>match M1 a with
  | some (.lst ds)=>Q (.lst ds) (ddel M1 a)
  | _=>False
 | _=>False
theorem QbU(h:DE X e te):DE X e (dFrz te) :=
 (Q6w h).imp fun σ H Q ⟨ρ,M,R,s,m,h,k⟩=>⟨ρ,M,_,s,m,h,fun d M1 v H1 h1 x1 m1 e1=>by
  cases d with
  | ref a =>
   cases e1;cases q:M1 a with
   | none=>simp only[q]at h1
   | some o =>
    cases o with
    | oth _=>simp only[q]at h1
    | lst ds =>
     simp only[q]at h1;obtain⟨vs,e2,e3⟩:=m1.get q;exact⟨a,vs,rfl,e2,fun o=>k _ _ _ _ h1 (x1.trans (Ext.lst e2)) (m1.frz e2) (.lst (.inl ⟨o,Q0i⟩) (e3.ext (Ext.lst e2)))⟩
  | _=>exact h1.elim⟩
noncomputable def lC(K:Frag)(r:List D->DH->DK->Prop):List V->Hp->VK->Prop:=fun vs H Q=>∃ ds M R,Dens K H ds vs/\SimM K M H/\r ds M R/\Aft K H R Q
noncomputable abbrev zbt(X:Cx)(f:Value)(r:List D->DH->DK->Prop):Prop:=CallR X f (lC X.K r)
noncomputable def dCB(r:List D->DH->DK->Prop)(t:DTA):DTE:=fun ρ M Q=>t ρ M fun ds M1=>r ds M1 Q
theorem Q9B{r:List D->DH->DK->Prop}(h:lE K (dCB r t) σ H Q):tCB (lC K r) (lA K t) σ H Q:=by
 obtain⟨ρ,M,R,s,m,h,k⟩:=h;exact⟨ρ,M,_,s,m,h,fun ds M1 vs H1 h1 x1 m1 e1=>⟨ds,M1,R,e1,m1,h1,k.ext x1⟩⟩
theorem Q3l{x:Str}{id:String}{p:Pos}{r:List D->DH->DK->Prop}{t:DTA}(hc:zbt X (.builtin id) r)(hg:Gl X x)(hm:X.mg x=none)(hv:bootBuiltins x=some (.builtin id))(ha:DA X (e::es) t)(hn:x ≠ "__name__":=by decide)(hdb:(x==("__debug__" : Str))=false:=by decide)
  (he:starEach (e::es) X.env=(false,eval e X.env)::starEach es X.env:=by rfl) (hpl:(backTo pos (starEach es X.env)).any (·.1)=false:=by rfl):DE X (.Call (.Name x p) (e::es) [] pos) (dCB r t) :=
 (Q3e hc hg hm hv ha hn hdb he hpl).imp fun _ _ _ h=>Q9B h
theorem Q2p{r:List D->DH->DK->Prop}(hc:zbt X (.type T) r)(hg:Gl X x)(hm:X.mg x=none)(hv:bootBuiltins x=some (.type T))(ha:DA X (e::es) t)(hn:x ≠ "__name__":=by decide)(hdb:(x==("__debug__" : Str))=false:=by decide)
  (he:starEach (e::es) X.env=(false,eval e X.env)::starEach es X.env:=by rfl) (hpl:(backTo pos (starEach es X.env)).any (·.1)=false:=by rfl):DE X (.Call (.Name x p) (e::es) [] pos) (dCB r t) :=
 (Q6r hc hg hm hv ha hn hdb he hpl).imp fun _ _ _ h=>Q9B h
noncomputable abbrev DSp:=List D->DH->DK->Prop
noncomputable def lSp(K:Frag)(sp:DSp):Sp:=fun vs H Q _=>∃ ds M R,Dens K H ds vs/\SimM K M H/\sp ds M R/\Aft K H R Q
noncomputable def zc3(sp:DSp)(dds:List D)(t:DTA):DTE:=fun ρ M Q=>t ρ M fun ds M1=>sp (ds++dds) M1 Q
theorem Qai{p:Pos}(F:FnOk X.prog X.w X.K X.mg X.base CX k f fd ps (lSp X.K sp))(hr:Room k X.A)(hg:Gl X x)(hm:X.mg x=some (.ref f))(hk:keepIn X.K (.ref f)=true)(hb:Binds X.K fd ps ds)(hd:Vals dvs ds)(hdd:∀ H,Dens X.K H dds dvs)(hx:zbJ CX X E)
  (ha:DA X (e::es) t) (hdb:(x==("__debug__" : Str))=false:=by decide) (he:starEach (e::es) X.env=(false,eval e X.env)::starEach es X.env:=by rfl) (hpl:(backTo pos (starEach es X.env)).any (·.1)=false:=by rfl) :
  DE X (.Call (.Name x p) (e::es) [] pos) (zc3 sp dds t) :=
 (Qa1 F hr hg hm hk hb hd hx ha hdb he hpl).imp fun σ H Q ⟨ρ,M,R,s,m,h,k⟩=>⟨ρ,M,_,s,m,h,fun ds M1 vs H1 h1 x1 m1 e1=>⟨_,M1,R,e1.append (hdd _),m1,h1,k.ext x1⟩⟩
end
section
variable{X:Cx}{a b c e tg iter:Expr}{es:List Expr}{st:Stmt}{sts body:List Stmt}{ta tb te:DTE}{tt tu:DTT}{t u:DTS}{pos:Pos}{K:Frag}
noncomputable def zby:DTS:=fun D ρ M=>D.nx ρ M
noncomputable def dSeq(t u:DTS):DTS:=fun D ρ M=>t { D with nx:=u D } ρ M
theorem Q6J:DSs X [] zby:=Q6l.imp fun D σ H ⟨ρ,M,DD,s,m,h,k⟩=>k.nx ρ M σ H h (Ext.refl H) s m
theorem Q4S(h1:DS X st t)(h2:DSs X sts u):DSs X (st::sts) (dSeq t u) :=
 (Q3d h1 h2).imp fun D σ H ⟨ρ,M,DD,s,m,h,k⟩=>⟨ρ,M,_,s,m,h,⟨fun ρ1 M1 σ1 H1 q x s1 m1=>⟨ρ1,M1,DD,s1,m1,q,k.ext x⟩,k.rt,k.bk,k.ct⟩⟩
noncomputable def dBreak:DTS:=fun D ρ M=>D.bk ρ M
noncomputable def dCont:DTS:=fun D ρ M=>D.ct ρ M
noncomputable def dDrop(te:DTE):DTS:=fun D ρ M=>te ρ M fun _ M1=>D.nx ρ M1
theorem Qaj(he:DE X e te)(hs:swapsWith e none pos.line X.env=pure false:=by rfl):DS X (.Expr e pos) (dDrop te) :=
 (Q6n he hs).imp fun D σ H ⟨ρ,M,DD,s,m,h,k⟩=>⟨ρ,M,_,s,m,h,fun d M1 v H1 h1 x1 m1 e1=>k.nx ρ M1 σ H1 h1 x1 (s.ext x1) m1⟩
noncomputable def dRet(te:DTE):DTS:=fun D ρ M=>te ρ M D.rt
theorem QbV(he:DE X e te):DS X (.Return (some e) pos) (dRet te) :=
 (Q9t he).imp fun D σ H ⟨ρ,M,DD,s,m,h,k⟩=>⟨ρ,M,_,s,m,h,k.rt⟩
noncomputable def dRetN:DTS:=fun D _ M=>D.rt .non M
noncomputable def dIfS(c:DTT)(t u:DTS):DTS:=fun D ρ M=>c ρ M fun b M1=>if b=true then t D ρ M1 else u D ρ M1
theorem ds_if{a b:List Stmt}(hc:DT X c tt)(ha:DSs X a t)(hb:DSs X b u):DS X (.If c a b pos) (dIfS tt t u) :=
 (ps_if hc ha hb).imp fun D σ H ⟨ρ,M,DD,s,m,h,k⟩=>⟨ρ,M,_,s,m,h,fun c M1 H1 h1 x1 m1=>by
  cases c with
  | true=>exact iteT ⟨ρ,M1,DD,s.ext x1,m1,(Zm rfl).mp h1,k.ext x1⟩
  | false=>exact iteF ⟨ρ,M1,DD,s.ext x1,m1,(Zj ZA).mp h1,k.ext x1⟩⟩
noncomputable abbrev DTG:=D->DSt->DH->(DSt->DH->Prop)->Prop
noncomputable def lG(K:Frag)(g:DTG):TG:=fun v σ H Q=>∃ d ρ M R,Den K H d v/\SimS K H ρ σ/\SimM K M H/\g d ρ M R/\∀ ρ' M' σ' H',R ρ' M'->Ext H H'->SimS K H' ρ' σ'->SimM K M' H'->Q σ' H'
noncomputable abbrev DG(X:Cx)(tg:Expr)(g:DTG):Prop:=PG X tg (lG X.K g)
noncomputable def zan(i:Nat):DTG:=fun d ρ M Q=>Q (ρ.set i (some d)) M
theorem Qak(hN:X.N.Nodup)(hi:X.N[i]? = some x)(hx:Loc X.env.scope x)(hf:X.fn x=true\/X.env.scope.names.lookup x=some .local:=by first | exact .inl rfl | exact .inr rfl | assumption):DG X (.Name x pos) (zan i) :=
 (Q4s hN hi hx hf).imp fun v σ H Q ⟨d,ρ,M,R,e,s,m,h,k⟩=>k _ M _ H h (Ext.refl H) (s.set e i) m
noncomputable abbrev DTGs:=List D->DSt->DH->(DSt->DH->Prop)->Prop
noncomputable def lGs(K:Frag)(g:DTGs):TGs:=fun vs σ H Q=>∃ ds ρ M R,Dens K H ds vs/\SimS K H ρ σ/\SimM K M H/\g ds ρ M R/\∀ ρ' M' σ' H',R ρ' M'->Ext H H'->SimS K H' ρ' σ'->SimM K M' H'->Q σ' H'
noncomputable abbrev DGs(X:Cx)(ts:List Expr)(g:DTGs):Prop:=PGs X ts (lGs X.K g)
theorem PGs.imp(h:PGs X ts T)(i:∀ v σ H R,T' v σ H R->T v σ H R):PGs X ts T':=fun pins s σ H v u R I r q=>h pins s σ H v u R I r (i v σ H R q)
noncomputable def zbN:DTGs:=fun ds ρ M Q=>match ds with
 | []=>Q ρ M
 | _=>False
noncomputable def zaH(t:DTG)(u:DTGs):DTGs:=fun ds ρ M Q=>match ds with
 | d::r=>t d ρ M fun ρ' M'=>u r ρ' M' Q
 | []=>False
theorem Q6K:DGs X [] zbN:=PGs.imp Q4t fun vs σ H Q ⟨ds,ρ,M,R,e,s,m,h,k⟩=>by
 cases e with
 | nil=>exact⟨rfl,k ρ M σ H h (Ext.refl H) s m⟩
 | cons _ _=>exact h.elim
theorem Q1Z(h1:DG X e g)(h2:DGs X es gs)
  (hs:(assignEach (e::es) X.env).map (·.2)=assign e X.env::(assignEach es X.env).map (·.2):=by rfl):DGs X (e::es) (zaH g gs):=PGs.imp (Q1q h1 h2 hs) fun vs σ H Q ⟨ds,ρ,M,R,e,s,m,h,k⟩=>by
 cases e with
 | nil=>exact h.elim
 | cons a t=>exact⟨_,_,rfl,_,ρ,M,_,a,s,m,h,fun ρ1 M1 σ1 H1 q x s1 m1=>⟨_,ρ1,M1,R,t.ext x,s1,m1,q,fun ρ2 M2 σ2 H2 q2 x2 s2 m2=>k ρ2 M2 σ2 H2 q2 (x.trans x2) s2 m2⟩⟩
noncomputable def zbx(n:Nat)(t:DTGs):DTG:=fun d ρ M Q=>match d with
 | .tup ds=>ds.length=n/\t ds ρ M Q
 | _=>False
theorem Q9C(hc:X.calm=true)(h:DGs X es gs)
  (hn:(assignEach es X.env).length=n:=by rfl) (hst:(assignEach es X.env).findIdx? (·.1)=none:=by rfl):DG X (.Tuple es k pos) (zbx n gs) :=
 (Q6o hc h hn hst).imp fun v σ H Q ⟨d,ρ,M,R,e,s,m,h,k⟩=>by
  cases e with
  | tup q r=>exact⟨_,_,rfl,.of q,r.length.symm.trans h.1,_,ρ,M,R,r,s,m,h.2,k⟩
  | _=>exact h.elim
noncomputable def dAsg(te:DTE)(g:DTG):DTS:=fun D ρ M=>te ρ M fun x M1=>g x ρ M1 D.nx
theorem Q6L{g:DTG}{gV:TG}{teV:TE}{D:Ends}{σ:St}{H:Hp}(h1:∀ σ H Q,lE K te σ H Q->teV σ H Q)(h2:∀ v σ H Q,lG K g v σ H Q->gV v σ H Q)(h:lS K (dAsg te g) D σ H):tAsg teV gV D σ H:=by
 obtain⟨ρ,M,DD,s,m,h,k⟩:=h;exact h1 _ _ _ ⟨ρ,M,_,s,m,h,fun d M1 v H1 q x m1 e1=>h2 _ _ _ _ ⟨d,ρ,M1,_,e1,s.ext x,m1,q,fun ρ2 M2 σ2 H2 q2 x2 s2 m2=>k.nx ρ2 M2 σ2 H2 q2 (x.trans x2) s2 m2⟩⟩
theorem QbW(he:DE X e te)(hg:DG X tg g)(hs:swapsWithSole [tg] e pos.line X.env=pure false:=by rfl)(hw:swappedStores [tg] e X.env=pure none:=by rfl)(h1:(assignEach [tg] X.env).map (·.2)=[assign tg X.env]:=by rfl):DS X (.Assign [tg] e pos) (dAsg te g) :=
 (Qbs he hg hs hw h1).imp fun D σ H h=>Q6L (fun _ _ _ q=>q) (fun _ _ _ _ q=>q) h
noncomputable def dSet(i:Nat)(te:DTE):DTS:=fun D ρ M=>te ρ M fun x M1=>D.nx (ρ.set i (some x)) M1
theorem Q6M(hN:X.N.Nodup)(hi:X.N[i]? = some x)(hx:Loc X.env.scope x)(he:DE X e te)(hs:swapsWith e (some (.Name x pos')) pos.line X.env=pure false:=by rfl)(hf:X.fn x=true\/X.env.scope.names.lookup x=some .local:=by first | exact .inl rfl | exact .inr rfl | assumption) :
  DS X (.Assign [.Name x pos'] e pos) (dSet i te) :=
 (Qbt hN hi hx he hs hf).imp fun D σ H h=>by
  obtain⟨ρ,M,DD,s,m,h,k⟩:=h;exact⟨ρ,M,_,s,m,h,fun d M1 v H1 q x m1 e1=>k.nx _ M1 _ H1 q x ((s.ext x).set e1 i) m1⟩
structure Yields(K:Frag)(J:It)(items:List D)(Cd:DH->Prop)(H:Hp):Prop where
 go:∀ i H' M,Ext H H'->SimM K M H'->Cd M->i<items.length->J.go i H'
 yld:∀ i H' M x H'',Ext H H'->SimM K M H'->Cd M->J.yld i H' x H''->i<items.length->Ext H' H''/\SimM K M H''/\∃ d,items[i]? = some d/\Den K H'' d x
 stop:∀ i H' M,Ext H H'->SimM K M H'->Cd M->items.length<=i->J.stop i H'
noncomputable abbrev DTI:=DSt->DH->(List D->(DH->Prop)->DH->Prop)->Prop
noncomputable def lI(K:Frag)(wi:DTI):TI:=fun σ H R=>∃ ρ M RD,SimS K H ρ σ/\SimM K M H/\wi ρ M RD/\∀ items Cd M' H' J,RD items Cd M'->Ext H H'->SimM K M' H'->Yields K J items Cd H'->R J H'
noncomputable abbrev DI(X:Cx)(tg iter:Expr)(wi:DTI):Prop:=PI X tg iter (lI X.K wi)
noncomputable def zbn(g:DTG)(tb:DTS)(DD:zbj)(Cd:DH->Prop):List D->DSt->DH->Prop
 | [],ρ,M=>Cd M/\DD.nx ρ M
 | d::ds,ρ,M=>Cd M/\g d ρ M fun ρ' M'=>tb { DD with nx:=zbn g tb DD Cd ds,ct:=zbn g tb DD Cd ds,bk:=DD.nx } ρ' M'
noncomputable def dFor(wi:DTI)(g:DTG)(tb:DTS):DTS:=fun DD ρ M=>wi ρ M fun items Cd M1=>zbn g tb DD Cd items ρ M1
theorem Q9D{wi:DTI}{g:DTG}{tb:DTS}(hp:PassesOwn (model X.prog X.w) X.A X.env X.xe)(hc:X.calm=true)(hi:DI X tg iter wi)(hg:DG X tg g)(hb:DSs X body tb)
  (hs:∀ x,foldedSetIterable iter X.env x=pure x:=by intro _;rfl):DS X (.For tg iter body [] pos) (dFor wi g tb) :=
 (Qbu hp hc hi hg hb hs).imp fun D σ H ⟨ρ,M,DD,s,m,h,k⟩=>⟨ρ,M,_,s,m,h,fun items Cd M1 H1 J h1 x1 m1 Y=>by
  refine⟨fun i mm σ' H'=>mm=items.length-i/\i<=items.length/\∃ ρ' M',Ext H1 H'/\SimS X.K H' ρ' σ'/\SimM X.K M' H'/\zbn g tb DD Cd (items.drop i) ρ' M',⟨_,rfl,zero_le _,ρ,M1,Ext.refl _,s.ext x1,m1,h1⟩,?_⟩;rintro i mm σ' H' ⟨rfl,hi,ρ',M',x',s',m',h'⟩;by_cases hlt:i<items.length
  ·right;have hd:items.drop i=items[i]::items.drop (i+1):=ZZ hlt;rw[hd]at h';obtain⟨cd,h'⟩:=h';refine⟨Y.go i H' M' x' m' cd hlt,fun σ2 H2=>∃ ρ2 M2,Ext H1 H2/\SimS X.K H2 ρ2 σ2/\SimM X.K M2 H2/\zbn g tb DD Cd (items.drop (i+1)) ρ2 M2,fun σ2 H2 ⟨ρ2,M2,x2,s2,m2,h2⟩=>⟨_,(show items.length-(i+1)<items.length-i by omega),rfl,hlt,ρ2,M2,x2,s2,m2,h2⟩,fun x Hy yl=>?_⟩
   obtain⟨xy,my,d,ed,den⟩:=Y.yld i H' M' x Hy x' m' cd yl hlt;have:items[i]=d:=by
    rw[Zq hlt]at ed;exact Z1 ed
   rw[this]at h';have xx:=x'.trans xy;refine⟨d,ρ',M',_,den,s'.ext xy,my,h',fun ρ3 M3 σ3 H3 q3 x3 s3 m3=>⟨ρ3,M3,_,s3,m3,q3,?_⟩⟩;have xz:=xx.trans x3;exact⟨fun ρ4 M4 σ4 H4 q4 x4 s4 m4=>⟨ρ4,M4,xz.trans x4,s4,m4,q4⟩,(k.ext (x1.trans xz)).rt,fun ρ4 M4 σ4 H4 q4 x4 s4 m4=>(k.ext (x1.trans xz)).nx ρ4 M4 σ4 H4 q4 x4 s4 m4,fun ρ4 M4 σ4 H4 q4 x4 s4 m4=>⟨ρ4,M4,xz.trans x4,s4,m4,q4⟩⟩
  ·left;have hd:items.drop i=[]:=Yc (le_of_not_lt hlt);rw[hd]at h';exact⟨Y.stop i H' M' x' m' h'.1 (le_of_not_lt hlt),(k.ext (x1.trans x')).nx ρ' M' σ' H' h'.2 (Ext.refl _) s' m'⟩⟩
noncomputable def zaw(fr:DSt)(unp:D->Option (List D))(tc:DTT)(te:DTE)(Cd:DH->Prop)(Q:List D->DH->Prop):List D->List D->DH->Prop
 | [],ys,M=>Cd M/\Q ys M
 | d::ds,ys,M=>Cd M/\match unp d with
  | some us=>tc (us.map some++fr) M fun b M3 =>
   if b=true then te (us.map some++fr) M3 fun z M4=>ys.length<sizeLine/\zaw fr unp tc te Cd Q ds (ys++[z]) M4 else zaw fr unp tc te Cd Q ds ys M3
  | none=>False
noncomputable def zbz(wi:DTI)(ix:List Nat)(unp:D->Option (List D))(tc:DTT)(te:DTE):DTE:=fun ρ M Q=>wi ρ M fun items Cd M1 =>
 zaw (ix.map fun i=>(ρ[i]?).getD none) unp tc te Cd (fun ys M2=>ys.length<=sizeLine/\∀ a,M2 a=none->Q (.ref a) (dupd M2 a (.lst ys))) items [] M1
structure Unp(K:Frag)(k:Nat)(unp:D->Option (List D))(gV:TG):Prop where
 len:∀ d us,unp d=some us->us.length=k
 to:∀ d v us frV H Q,Den K H d v->unp d=some us->(∀ ws,Dens K H us ws->Q (ws.map some++frV) H)->gV v (List.replicate k none++frV) H Q
theorem unp1:Unp K 1 (fun d=>some [d]) (zaS 0) where
 len:=fun d us e=>by cases e;rfl
 to:=fun d v us frV H Q den e h=>by cases e;exact h [v] (.cons den .nil)
noncomputable def zaI:D->Option (List D)
 | .tup [a,b]=>some [a,b]
 | _=>none
theorem unp2:Unp K 2 zaI (gTup K 2 (zbw (zaS 0) (zbw (zaS 1) gNil))) where
 len:=fun d us e=>by
  unfold zaI at e;split at e
  ·cases e;rfl
  ·cases e
 to:=fun d v us frV H Q den e h=>by
  unfold zaI at e;split at e
  ·cases e;cases den with
   | tup q r =>
    cases r with
    | cons r1 r =>
     cases r with
     | cons r2 r =>
      cases r;exact⟨_,_,rfl,.of q,rfl,_,_,rfl,_,_,rfl,rfl,h _ (.cons r1 (.cons r2 .nil))⟩
  ·cases e
theorem Q4T{unp:D->Option (List D)}(hu:Unp K k unp gV)
  (h:lE K (zbz wi ix unp tc te) σ H Q):tComp (lI K wi) k ix gV (lT K tc) (lE K te) σ H Q:=by
 obtain⟨ρ,M,R,s,m,h,kk⟩:=h;refine⟨ρ,M,_,s,m,h,fun items Cd M1 H1 J h1 x1 m1 Y=>?_⟩;refine⟨fun i mm ys H'=>mm=items.length-i/\i<=items.length/\∃ M' zs,Ext H1 H'/\SimM K M' H'/\Dens K H' zs ys/\zaw (ix.map fun i=>(ρ[i]?).getD none) unp tc te Cd (fun ys M2=>ys.length<=sizeLine/\∀ a,M2 a=none->R (.ref a) (dupd M2 a (.lst ys))) (items.drop i) zs M',⟨_,rfl,zero_le _,M1,[],Ext.refl _,m1,.nil,h1⟩,?_⟩;rintro i mm ys H' ⟨rfl,hi,M',zs,x',m',dz,h'⟩;by_cases hlt:i<items.length
 ·right;have hd:items.drop i=items[i]::items.drop (i+1):=ZZ hlt;rw[hd]at h';obtain⟨cd,h'⟩:=h';refine⟨Y.go i H' M' x' m' cd hlt,fun y Hy yl=>?_⟩;obtain⟨xy,my,d,ed,den⟩:=Y.yld i H' M' y Hy x' m' cd yl hlt;have:items[i]=d:=by
   rw[Zq hlt]at ed;exact Z1 ed
  rw[this]at h';cases eu:unp d with
  | none=>rw[eu]at h';exact h'.elim
  | some us =>
   rw[eu]at h';refine hu.to d y us _ Hy _ den eu fun ws dw=>?_;have hk:ws.length=k:=by rw[<- dw.length];exact hu.len d us eu
   refine⟨?_,?_,?_⟩
   ·rw[List.drop_left' (by rw[Zi];exact hk)]
   ·rw[Zd,Zi,Zi,hk]
   ·have xx:=x'.trans xy;have sρ:SimS K Hy (us.map some++ix.map fun i=>(ρ[i]?).getD none) (ws.map some++ix.map fun i=>(σ[i]?).getD none):=(SimS.ofDens dw).append ((s.ext (x1.trans xx)).pick ix);refine⟨_,M',_,sρ,my,h',fun b M3 H3 h3 x3 m3=>?_⟩;cases b with
    | true =>
     refine iteT ⟨_,M3,_,sρ.ext x3,m3,(Zm rfl).mp h3,fun z M4 v H4 ⟨hz,h4⟩ x4 m4 e4=>⟨by rw[<- dz.length];exact hz,_,(show items.length-(i+1)<items.length-i by omega),rfl,hlt,M4,_,(xx.trans x3).trans x4,m4,(dz.ext (xy.trans (x3.trans x4))).append (.cons e4 .nil),h4⟩⟩
    | false=>exact iteF ⟨_,(show items.length-(i+1)<items.length-i by omega),rfl,hlt,M3,zs,xx.trans x3,m3,dz.ext (xy.trans x3),(Zj ZA).mp h3⟩
 ·left;have hd:items.drop i=[]:=Yc (le_of_not_lt hlt);rw[hd]at h';obtain⟨cd,hz,q⟩:=h';exact⟨Y.stop i H' M' x' m' cd (le_of_not_lt hlt),by rw[<- dz.length];exact hz,fun a ha=>kk _ _ _ _ (q a (m'.free ha)) ((x1.trans x').trans (Ext.new ha)) (m'.newL ha dz) (.ref a)⟩
section
variable{scope:Scope}{N fn:List Str}{k:Nat}{ix:List Nat}{elt:Expr}{ifs:List Expr}{wi:DTI}{unp:D->Option (List D)}{gV:TG}{tc:DTT}
noncomputable abbrev DIfs(X:Cx)(ifs:List Expr)(t:DTT):Prop:=PIfs X ifs (lT X.K t)
noncomputable def zbh:DTT:=fun _ M Q=>Q true M
theorem Q8A:DIfs X [] zbh:=fun pins s σ H Q I ⟨ρ,M,R,sm,m,h,k⟩=>Q8q pins s σ H Q I (k true M H h (Ext.refl H) m)
theorem Q3m(h:DT X c tc):DIfs X [c] tc:=Q8r h
theorem Qal(tp:Top X){R0:XC->Hp->Prop}(hx0:zaf X fun cls _ H=>R0 cls H)(hu:Unp X.K k unp gV)(hc:X.calm=true)(ok:zax X.env.scope scope N k fn)(hix:ix.map (fun i=>X.N[i]?)=fn.map some)(hi:DI X tg iter wi)
  (hg:∀ cl C s₀ H₀ ex E,PG (za3 X scope N cl C s₀ H₀ ex E) tg gV) (ht:∀ cl C s₀ H₀ ex E,zaf (za3 X scope N cl C s₀ H₀ ex E) (fun cls _ H=>R0 cls H)->DIfs (za3 X scope N cl C s₀ H₀ ex E) ifs tc) (he:∀ cl C s₀ H₀ ex E,zaf (za3 X scope N cl C s₀ H₀ ex E) (fun cls _ H=>R0 cls H)->DE (za3 X scope N cl C s₀ H₀ ex E) elt te)
  (hs:∀ x,foldedSetIterable iter X.env x=pure x:=by intro _;rfl):DE X (.ListComp elt [⟨tg,iter,ifs,0⟩] scope pos) (zbz wi ix unp tc te) :=
 (Q4P tp hx0 hc ok hix hi hg ht he hs).imp fun _ _ _ h=>Q4T hu h
theorem Q5N(tp:Top X){R0:XC->Hp->Prop}(hx0:zaf X fun cls _ H=>R0 cls H)(hsw:swapsWith (.ListComp elt [⟨tg,iter,ifs,0⟩] scope pos) (some (.Name x pos')) spos.line X.env=pure true)
  (hN:X.N.Nodup) (hiN:X.N[i]? = some x) (hx:X.env.scope.names.lookup x=some .local) (hu:Unp X.K k unp gV) (hc:X.calm=true) (ok:zax X.env.scope scope N k fn) (hix:ix.map (fun i=>X.N[i]?)=fn.map some) (hi:DI X tg iter wi)
  (hg:∀ cl C s₀ H₀ ex E,PG (za3 X scope N cl C s₀ H₀ ex E) tg gV) (ht:∀ cl C s₀ H₀ ex E,zaf (za3 X scope N cl C s₀ H₀ ex E) (fun cls _ H=>R0 cls H)->DIfs (za3 X scope N cl C s₀ H₀ ex E) ifs tc) (he:∀ cl C s₀ H₀ ex E,zaf (za3 X scope N cl C s₀ H₀ ex E) (fun cls _ H=>R0 cls H)->DE (za3 X scope N cl C s₀ H₀ ex E) elt te)
  (hs:∀ x,foldedSetIterable iter X.env x=pure x:=by intro _;rfl):DS X (.Assign [.Name x pos'] (.ListComp elt [⟨tg,iter,ifs,0⟩] scope pos) spos) (dAsg (zbz wi ix unp tc te) (zan i)) :=
 (Q2m tp hx0 hsw hN hiN hx hc ok hix hi hg ht he hs).imp fun D σ H h=>Q6L (fun _ _ _ q=>Q4T hu q) (fun v σ H Q ⟨d,ρ,M,R,e,s,m,h,k⟩=>k _ M _ H h (Ext.refl H) (s.set e i) m) h
end
theorem Yields.tup{a:Addr}{ds:List D}{vs:List V}{H:Hp}{Cd:DH->Prop}(q:SqT K H a vs)(r:Dens K H ds vs):Yields K (Itt K a) ds Cd H where
 go:=fun i H' M x m c hi=>by
  have hi':i<vs.length:=by rw[<- r.length];exact hi
  exact⟨vs,vs[i],SqT.ext x q,Zq hi'⟩
 yld:=fun i H' M y H'' x m c ⟨e,h⟩ hi=>by
  subst e;obtain⟨d,e1,e2⟩:=r.get' (h vs (SqT.ext x q));exact⟨Ext.refl _,m,d,e1,e2.ext x⟩
 stop:=fun i H' M x m c hi=>⟨vs,SqT.ext x q,by rw[<- r.length];exact hi⟩
theorem Yields.fz{a:Addr}{ds:List D}{vs:List V}{H:Hp}{Cd:DH->Prop}(q:FzL K H a vs)(r:Dens K H ds vs):Yields K (Itl K a) ds Cd H where
 go:=fun i H' M x m c hi=>by
  have hi':i<vs.length:=by rw[<- r.length];exact hi
  exact⟨vs,vs[i],(FzL.ext x q).sq,Zq hi'⟩
 yld:=fun i H' M y H'' x m c ⟨e,h⟩ hi=>by
  subst e;obtain⟨d,e1,e2⟩:=r.get' (h vs (FzL.ext x q).sq);exact⟨Ext.refl _,m,d,e1,e2.ext x⟩
 stop:=fun i H' M x m c hi=>⟨vs,(FzL.ext x q).sq,by rw[<- r.length];exact hi⟩
theorem Yields.mut{a:Addr}{ds:List D}{H:Hp}:Yields K (Itl K a) ds (fun M=>M a=some (.lst ds)) H where
 go:=fun i H' M x m c hi=>by
  obtain⟨vs,e,r⟩:=m.get c;have hi':i<vs.length:=by rw[<- r.length];exact hi
  exact⟨vs,vs[i],.of e,Zq hi'⟩
 yld:=fun i H' M y H'' x m c ⟨e,h⟩ hi=>by
  subst e;obtain⟨vs,e,r⟩:=m.get c;obtain⟨d,e1,e2⟩:=r.get' (h vs (.of e));exact⟨Ext.refl _,m,d,e1,e2⟩
 stop:=fun i H' M x m c hi=>by
  obtain⟨vs,e,r⟩:=m.get c;exact⟨vs,.of e,by rw[<- r.length];exact hi⟩
noncomputable def rngD(lo:Int)(n:Nat):List D:=(List.range n).map fun(i:Nat)=>D.int (lo+(i:Int))
theorem Yields.rng{lo:Int}{n:Nat}{H:Hp}{Cd:DH->Prop}:Yields K (Itr lo n) (rngD lo n) Cd H where
 go:=fun i H' M x m c hi=>by
  show i<n;simpa[rngD]using hi
 yld:=fun i H' M y H'' x m c ⟨e,h⟩ hi=>by
  subst e h;have hi':i<n:=by simpa[rngD]using hi
  exact⟨Ext.refl _,m,.int (lo+i),by simp[rngD,hi'],.int _⟩
 stop:=fun i H' M x m c hi=>by
  have:(rngD lo n).length=n:=by simp[rngD]
  rw[this]at hi;exact hi
noncomputable def zbm(ta:DTA):DTI:=fun ρ M R=>ta ρ M fun ds M1=>match ds with
 | [.int j]=>-(2 ^ 62)<=j/\j<2 ^ 62/\R (rngD 0 j.toNat) (fun _=>True) M1
 | _=>False
noncomputable def diRng2(ta:DTA):DTI:=fun ρ M R=>ta ρ M fun ds M1=>match ds with
 | [.int i,.int j]=>(-(2 ^ 62)<=i/\i<2 ^ 62 /\ -(2 ^ 62)<=j/\j<2 ^ 62)/\R (rngD i (j-i).toNat) (fun _=>True) M1
 | _=>False
theorem Q6N(hg:Gl X "range")(hm:X.mg "range" = none)(ha:DA X [a] tr)(hs:starEach [a] X.env=[(false,eval a X.env)]:=by rfl):DI X tg (.Call (.Name "range" p) [a] [] pos) (zbm tr) :=
 (Q6q hg hm ha hs).imp fun σ H R ⟨ρ,M,RD,s,m,h,k⟩=>⟨ρ,M,_,s,m,h,fun ds M1 vs H1 h1 x1 m1 e1=>by
  unfold zbm at h;cases e1 with
  | nil=>exact h1.elim
  | cons d1 e2 =>
   cases e2 with
   | cons d2 e3=>cases d1 <;> exact h1.elim
   | nil =>
    cases d1 with
    | int j=>exact⟨j,rfl,h1.1,h1.2.1,k _ _ M1 H1 _ h1.2.2 x1 m1 Yields.rng⟩
    | _=>exact h1.elim⟩
end
noncomputable def za5(N:List Str)(ds:List D):DSt:=ds.map some++List.replicate (N.length-ds.length) none
noncomputable def dLaw(n:Nat):DSp:=fun ds M R=>match ds with
 | [.lst ds]=>∃ ns:List Int,ds=ns.map D.int/\ns.length<=n/\R (.bl true) M
 | _=>False
theorem Q3N{K:Frag}{H:Hp}:∀ ns:List Int,Dens K H (ns.map D.int) (ns.map V.int)
 | []=>.nil
 | n::r=>.cons (.int n) (Q3N r)
theorem QbX{K:Frag}{H:Hp}{a:Addr}{ns:List Int}{n:Nat}(hl:ns.length<=n)(hO:Only H)(hS:SqL K H a (ns.map V.int)):lSp K (dLaw n) [.ref a] H (fun v _=>v=.bl true) fun _ _ _=>False:=by
 refine⟨[.lst (ns.map D.int)],fun _=>none,fun d _=>d=.bl true,.cons (.lst ?_ (Q3N ns)) .nil,(fun b o e=>nomatch e),⟨ns,rfl,hl,rfl⟩,fun d M v H' q _ _ e=>?_⟩
 ·rcases hS with (h | ⟨o,h⟩) | h
  ·rcases hO a with z | ⟨o,xs,z⟩
   ·rw[h]at z;cases z
   ·rw[h]at z;cases z
  ·exact .inl ⟨o,h⟩
  ·exact .inr h
 ·have q':d=.bl true:=q;subst q';cases e;rfl
section
variable{X:Cx}{a b c e:Expr}{es:List Expr}{ta tb te:DTE}{tt tu:DTT}{pos:Pos}{K:Frag}
noncomputable abbrev cpOk(x:List Nat):Prop:=(x.all fun c=>decide (c<1114112))=true
theorem cpOk.app(h:cpOk x)(h':cpOk y):cpOk (x++y):=by
 show ((x++y).all _)=true;rw[List.all_append,h,h'];rfl
theorem cpOk.sub(h:cpOk x)(hs:∀ c∈y,c∈x):cpOk y:=Z5.mpr fun c hc=>(Z5.mp h) c (hs c hc)
theorem Q0P(x y:List Nat):S x++S y=S (x++y):=by
 show Str.append (S x) (S y)=S (x++y);unfold Str.append S;simp
theorem Q0k(x:List Nat):(S x).length=x.length:=by unfold S Str.length;simp
theorem S_inj(h:S x=S y):x=y:=by
 unfold S at h;have:=congrArg (fun z:Str=>z.cps.toList) h;simpa using this
theorem Q0o(x:List Nat):(S x).cps.toList=x:=by unfold S;simp
theorem S_of(x:Str):S x.cps.toList=x:=by unfold S;cases x;simp
noncomputable def rI2(C:Int->Int->Prop)(g:Int->Int->Int):DR2:=fun x y M Q=>match x,y with
 | .int i,.int j=>C i j/\Q (.int (g i j)) M
 | _,_=>False
theorem opI2{f:Value->Value->Sem Value}{C:Int->Int->Prop}{g:Int->Int->Int}(h:OpR X f (rI C fun i j=>.int (g i j))):OpD X f (rI2 C g):=by
 rintro pins s σ H x y v u Q I rx ry ⟨dx,dy,M,R,ex,ey,m,q,k⟩;cases ex <;> cases ey <;> first | exact False.elim q | skip
 exact h pins s σ H _ _ v u Q I rx ry ⟨_,_,rfl,rfl,q.1,k _ M _ H q.2 (Ext.refl H) m (.int _)⟩
theorem QbY{f:Value->Value->Sem Value}{g:Int->Int->V}(h:OpR X f (rI0 g)):OpR X f (rI (fun _ _=>True) g):=h.imp fun x y H Q ⟨i,j,e1,e2,_,q⟩=>⟨i,j,e1,e2,q⟩
theorem QbZ:OpD X (binaryOp .Sub) (rI2 (fun _ _=>True) fun i j=>i-j):=opI2 (QbY Qbw)
theorem Qc0:OpD X (binaryOp .Mult) (rI2 CMul fun i j=>i * j):=opI2 Qbx
theorem Qam:OpD X (binaryOp .FloorDiv) (rI2 CDiv fun i j=>i / j):=opI2 Q9W
theorem Qc1:OpD X (binaryOp .Mod) (rI2 (fun _ j=>0<j) fun i j=>i % j):=opI2 Qby
theorem Qc2:OpD X (binaryOp .Pow) (rI2 CPow fun i j=>i ^ j.toNat):=opI2 Qbz
noncomputable def rAddD:DR2:=fun x y M Q=>match x,y with
 | .int i,.int j=>Q (.int (i+j)) M
 | .str a,.str b=>a.length+b.length<=sizeLine/\Q (.str (a++b)) M
 | .tup xs,.tup ys=>xs.length+ys.length<=sizeLine/\Q (.tup (xs++ys)) M
 | _,_=>False
theorem Qan{s:Shared}{A:Around}{prog:Program}{w:World}{E:Value->Shared->Prop}{t b:Addr}{vs ws:List Value}{Q:Value->Shared->Prop}(ht:IsTup s.heap t vs.toArray)(hb:IsTup s.heap b ws.toArray)
  (h0:vs=[]->Q (.ref b) s) (h1:ws=[]->Q (.ref t) s) (h2:Q (.ref s.heap.objs.size) { s with heap:=s.heap.push { cls:=.type "tuple",data:=.seq (vs++ws).toArray } })
  (hsz:vs.length+ws.length<=sizeLine):wpAny (model prog w) A (binaryOp .Add (.ref t) (.ref b)) Q E s:=by
 obtain⟨⟨cls,dd,data,sl⟩,ho,hc,n,hd⟩:=id ht;obtain⟨⟨cls2,dd2,data2,sl2⟩,ho2,hc2,n2,hd2⟩:=id hb;simp only at hc hd hc2 hd2;subst hc hd hc2 hd2;have e:vs.toArray++ws.toArray=(vs++ws).toArray:=by simp
 by_cases hv:vs=[]
 ·exact concat_meets ⟨_,ho,rfl⟩ ⟨_,ho2,rfl⟩ noFill_tuple_add seq_tuple_add slot_tuple_add entry_tuple_add (args_tuple_add_2 _ _)
   (tuple_addW0 t b vs.toArray ws.toArray n n2 dd dd2 sl sl2 (by simp[hv])) ⟨ho,ho2,h0 hv⟩
 ·by_cases hw:ws=[]
  ·exact concat_meets ⟨_,ho,rfl⟩ ⟨_,ho2,rfl⟩ noFill_tuple_add seq_tuple_add slot_tuple_add entry_tuple_add (args_tuple_add_2 _ _)
    (tuple_addW1 t b vs.toArray ws.toArray n n2 dd dd2 sl sl2 (by simpa using hv) (by simp[hw])) ⟨ho,ho2,h1 hw⟩
  ·refine concat_meets ⟨_,ho,rfl⟩ ⟨_,ho2,rfl⟩ noFill_tuple_add seq_tuple_add slot_tuple_add entry_tuple_add (args_tuple_add_2 _ _)
    (tuple_addW2 t b vs.toArray ws.toArray n n2 dd dd2 sl sl2 (by simpa using hv) (by simpa using hw) (by rw[ZH,ZH];exact hsz)) ⟨ho,ho2,?_⟩
   rw[e];exact h2
theorem Qc3:OpD X (binaryOp .Add) rAddD:=by
 rintro pins s σ H x y v u Q I rx ry ⟨dx,dy,M,R,ex,ey,m,q,k⟩;cases ex with
 | int i=>cases ey <;> first | exact False.elim q | skip
          exact Qbv pins s σ H _ _ v u Q I rx ry ⟨_,_,rfl,rfl,k _ M _ H q (Ext.refl H) m (.int _)⟩
 | str i hi=>cases ey <;> first | exact False.elim q | skip
             rename_i j hj;exact Q5I pins s σ H _ _ v u Q I rx ry ⟨_,_,rfl,rfl,by rw[Q0k,Q0k];exact q.1,k _ M _ H q.2 (Ext.refl H) m (by rw[Q0P];exact .str _ (cpOk.app hi hj))⟩
 | tup qx dx=>cases ey <;> first | exact False.elim q | skip
              rename_i ds vs b es ws qy dy;cases rx;cases ry;obtain⟨its,r1,p1,z1⟩:=I.tuple (.of qx);obtain⟨jts,r2,p2,z2⟩:=I.tuple (.of qy);have l1:=dx.length;have l2:=dy.length;have l3:=r1.length;have l4:=r2.length;refine Qan p1 p2 (fun e=>?_) (fun e=>?_) ?_ (by rw[<- l3,<- l4,<- l1,<- l2];exact q.1)
              ·subst e;cases r1;cases dx;exact⟨.ref b,H,I,rfl,k _ M _ H q.2 (Ext.refl H) m (.tup qy dy)⟩
              ·subst e;cases r2;cases dy;refine⟨.ref _,H,I,rfl,k _ M _ H q.2 (Ext.refl H) m ?_⟩;rw[append_nil];exact .tup qx dx
              ·have hn:=I.fresh;refine⟨.ref s.heap.objs.size,_,I.laid (t':=s.toks) (o:=.tup (vs++ws)) (fun b ob q=>Zb _ q) (Zz _) ⟨?_,_,r1.append r2,IsTup.new _ _⟩,rfl,k _ M _ _ q.2 (Ext.new hn) (m.new hn) (.tup Q0i ((dx.append dy).ext (Ext.new hn)))⟩;rw[Zd,<- l1,<- l2];exact q.1
 | _=>exact False.elim q
mutual
noncomputable def toPy:D->PyData
 | .non=>.none
 | .bl b=>.bool b
 | .int i=>.int i
 | .str x=>.str (S x)
 | .tup xs=>.tuple (zaQ xs)
 | .lst xs=>.list (zaQ xs)
 | .ref _=>.none
noncomputable def zaQ:List D->List PyData
 | []=>[]
 | x::r=>toPy x::zaQ r
end
noncomputable def plain:Nat->D->Bool
 | _,.non=>true
 | _,.int _=>true
 | _,.str _=>true
 | n+1,.tup xs=>xs.all (plain n)
 | n+1,.lst xs=>xs.all (plain n)
 | _,_=>false
theorem Q0W:∀ (n:Nat) (d:D) (v:V),plain n d=true->Den K H d v->(toPy d).canLay0=true/\(toPy d).depth<=n:=by
 have all:∀ (n:Nat),(∀ d v,plain n d=true->Den K H d v->(toPy d).canLay0=true/\(toPy d).depth<=n)->∀ (ds:List D) (vs:List V),ds.all (plain n)=true->Dens K H ds vs->PyData.canLayAll0 (zaQ ds)=true/\PyData.depthAll (zaQ ds)<=n:=by
  intro n ih ds
  induction ds with
  | nil=>intro vs _ _;simp[zaQ,PyData.canLayAll0,PyData.depthAll]
  | cons d ds hi =>
   intro vs h r;cases r with
   | cons r1 r2 =>
    rw[ZW,Zc]at h;have h1:=ih d _ h.1 r1;have h2:=hi _ h.2 r2;simp only[zaQ,PyData.canLayAll0,PyData.depthAll,h1.1,h2.1,Bool.and_self,true_and];have a1:=h1.2;have a2:=h2.2;omega
 intro n
 induction n with
 | zero =>
  intro d v h r;cases r with
  | str x hx=>simp[toPy,PyData.canLay0,PyData.depth,PyData.strOk,S];simpa using hx
  | _=>simp_all [plain,toPy,PyData.canLay0,PyData.depth]
 | succ n ih =>
  intro d v h r;cases r with
  | str x hx=>simp[toPy,PyData.canLay0,PyData.depth,PyData.strOk,S];simpa using hx
  | tup q r =>
   have q:=all n ih _ _ (by simpa[plain]using h) r
   have q2:=q.2;simp only[toPy,PyData.canLay0,PyData.depth,q.1,true_and];omega
  | lst q r =>
   have q:=all n ih _ _ (by simpa[plain]using h) r
   have q2:=q.2;simp only[toPy,PyData.canLay0,PyData.depth,q.1,true_and];omega
  | _=>simp_all [plain,toPy,PyData.canLay0,PyData.depth]
theorem Q6O:∀ (n:Nat) (d e:D) (k:Nat),plain n d=true->plain k e=true->(PyData.eqv (toPy d) (toPy e)=true <-> d=e):=by
 have all:∀ (n:Nat),(∀ d e k,plain n d=true->plain k e=true->(PyData.eqv (toPy d) (toPy e)=true <-> d=e))->∀ (k:Nat) (ds es:List D),ds.all (plain n)=true->es.all (plain k)=true ->
   (PyData.eqvAll (zaQ ds) (zaQ es)=true <-> ds=es):=by
  intro n ih k ds
  induction ds with
  | nil=>intro es _ _;cases es <;> simp[zaQ,PyData.eqvAll]
  | cons d ds hi =>
   intro es h1 h2;cases es with
   | nil=>simp[zaQ,PyData.eqvAll]
   | cons e es =>
    rw[ZW,Zc]at h1 h2;have q1:=ih d e k h1.1 h2.1;have q2:=hi es h1.2 h2.2;simp only[zaQ,PyData.eqvAll,Zc,q1,q2,List.cons.injEq]
 have st:∀ x y:List Nat,(S x==S y)=true <-> x=y:=fun x y=>⟨fun h=>S_inj (by simpa using h),fun h=>by simp[h]⟩
 intro n
 induction n with
 | zero =>
  intro d e k h1 h2;cases d <;> cases e <;> cases k <;> simp_all [plain,toPy,PyData.eqv]
 | succ n ih =>
  intro d e k h1 h2;cases d with
  | tup ds =>
   cases e with
   | tup es =>
    cases k with
    | zero=>simp[plain]at h2
    | succ k =>
     simp only[toPy,PyData.eqv,D.tup.injEq];exact all n ih k ds es (by simpa[plain]using h1) (by simpa[plain]using h2)
   | _=>clear ih all;cases k <;> simp_all [plain,toPy,PyData.eqv]
  | lst ds =>
   cases e with
   | lst es =>
    cases k with
    | zero=>simp[plain]at h2
    | succ k =>
     simp only[toPy,PyData.eqv,D.lst.injEq];exact all n ih k ds es (by simpa[plain]using h1) (by simpa[plain]using h2)
   | _=>clear ih all;cases k <;> simp_all [plain,toPy,PyData.eqv]
  | non=>clear ih all;cases e <;> cases k <;> simp_all [plain,toPy,PyData.eqv]
  | bl b=>simp[plain]at h1
  | int i=>clear ih all;cases e <;> cases k <;> simp_all [plain,toPy,PyData.eqv]
  | str x=>clear ih all;cases e <;> cases k <;> simp_all [plain,toPy,PyData.eqv]
  | ref a=>simp[plain]at h1
theorem Q0y(I:Inv X pins σ H s):∀ (n:Nat) (d:D) (v:V) (u:Value),plain n d=true->Den X.K H d v->L2.RelV v u->∃ as,Reads s.heap u (toPy d) as:=by
 have all:∀ (n:Nat),(∀ d v u,plain n d=true->Den X.K H d v->L2.RelV v u->∃ as,Reads s.heap u (toPy d) as)->∀ (ds:List D) (vs:List V) (us:List Value),ds.all (plain n)=true->Dens X.K H ds vs->Vals vs us->∃ as,ReadsAll s.heap us (zaQ ds) as:=by
  intro n ih ds
  induction ds with
  | nil=>intro vs us _ r q;cases r;cases q;exact⟨_,.nil⟩
  | cons d ds hi =>
   intro vs us h r q;rw[ZW,Zc]at h;cases r with
   | cons r1 r2 =>
    cases q with
    | cons q1 q2 =>
     obtain⟨as,h1⟩:=ih d _ _ h.1 r1 q1;obtain⟨bs,h2⟩:=hi _ _ h.2 r2 q2;exact⟨_,.cons h1 h2⟩
 have base:∀ n d v u,plain n d=true->Den X.K H d v->L2.RelV v u->(∀ ds,d≠.tup ds)->(∀ ds,d≠.lst ds)->∃ as,Reads s.heap u (toPy d) as:=by
  intro n d v u h r q n1 n2;cases r with
  | non=>cases q;exact⟨_,.none⟩
  | bl b=>cases q;exact⟨_,.bool b⟩
  | int i=>obtain⟨t,rfl⟩:=q;exact⟨_,.int i t⟩
  | str x hx=>obtain⟨t,rfl⟩:=q;exact⟨_,.str _ t⟩
  | tup _ _=>exact absurd rfl (n1 _)
  | lst _ _=>exact absurd rfl (n2 _)
  | ref a=>cases n <;> simp[plain]at h
 intro n
 induction n with
 | zero =>
  intro d v u h r q;exact base 0 d v u h r q (fun ds e=>by subst e;simp[plain]at h) (fun ds e=>by subst e;simp[plain]at h)
 | succ n ih =>
  intro d v u h r q;cases r with
  | tup sq r =>
   obtain⟨its,rv,⟨o,ho,hc,k,hd⟩,z⟩:=I.tuple (.of sq);cases q;obtain⟨as,ra⟩:=all n ih _ _ _ (by simpa[plain]using h) r rv
   exact⟨_,.tuple ho hc hd (by simpa using ra)⟩
  | lst sq r =>
   obtain⟨its,rv,⟨o,k,ho,hc,hdd,hd⟩,z⟩:=I.list sq.sq;cases q;obtain⟨as,ra⟩:=all n ih _ _ _ (by simpa[plain]using h) r rv
   exact⟨_,.list ho hc hd (by simpa using ra)⟩
  | non=>exact base _ _ _ _ h .non q (fun ds e=>nomatch e) (fun ds e=>nomatch e)
  | bl b=>exact base _ _ _ _ h (.bl b) q (fun ds e=>nomatch e) (fun ds e=>nomatch e)
  | int i=>exact base _ _ _ _ h (.int i) q (fun ds e=>nomatch e) (fun ds e=>nomatch e)
  | str x hx=>exact base _ _ _ _ h (.str x hx) q (fun ds e=>nomatch e) (fun ds e=>nomatch e)
  | ref a=>simp[plain]at h
noncomputable def res(M:DH):D->D
 | .ref a=>match M a with
  | some (.lst ds)=>.lst ds
  | _=>.ref a
 | d=>d
open Classical in
noncomputable def eqB(x y:D):Bool:=decide (x=y)
open Classical in
theorem Q0s(x y:D):eqB x y=true <-> x=y:=by unfold eqB;exact decide_eq_true_iff
open Classical in
theorem Q1F(x y:D):eqB x y=false <-> ¬ x=y:=by unfold eqB;exact Z6
theorem Q4B(x y:List Nat):eqB (.str x) (.str y)=decide (x=y):=by
 by_cases h:x=y
 ·rw[Ze h,(Q0s _ _).mpr (by rw[h])]
 ·rw[Zg h,(Q1F _ _).mpr (fun e=>h (D.str.inj e))]
theorem Q2q(x y:Int):eqB (.int x) (.int y)=decide (x=y):=by
 by_cases h:x=y
 ·rw[Ze h,(Q0s _ _).mpr (by rw[h])]
 ·rw[Zg h,(Q1F _ _).mpr (fun e=>h (D.int.inj e))]
noncomputable def rEqN(f:Bool->Bool):DR2:=fun x y M Q=>match x,y with
 | .bl a,.bl b=>Q (.bl (f (a==b))) M
 | x,y=>plain 12 (res M x)=true/\plain 12 (res M y)=true/\Q (.bl (f (eqB (res M x) (res M y)))) M
theorem Q2r(I:Inv X pins σ H s)(m:SimM X.K M H)(h:plain n (res M d)=true)(e:Den X.K H d v)(r:L2.RelV v u) :
  (∃ as,Reads s.heap u (toPy (res M d)) as)/\(toPy (res M d)).canLay0=true/\(toPy (res M d)).depth<=n:=by
 by_cases hr:∃ a,d=.ref a
 ·obtain⟨a,rfl⟩:=hr;cases e;cases q:M a with
  | none=>simp only[res,q]at h;cases n <;> simp[plain]at h
  | some o =>
   cases o with
   | oth _=>simp only[res,q]at h;cases n <;> simp[plain]at h
   | lst ds =>
    simp only[res,q]at h ⊢;cases n with
    | zero=>simp[plain]at h
    | succ n =>
     obtain⟨vs,e1,e2⟩:=m.get q
     -- as if it were finished
     obtain⟨o,I2⟩:=I.frozen e1;have x:=Ext.lst (o:=.frz o (.lst vs)) e1;have den:Den X.K (upd H a (.frz o (.lst vs))) (.lst ds) (.ref a):=.lst (.inl ⟨o,Q0i⟩) (e2.ext x);exact⟨Q0y I2 _ _ _ _ h den r,Q0W _ _ _ h den⟩
 ·have e2:res M d=d:=by cases d <;> first | rfl | exact absurd ⟨_,rfl⟩ hr
  rw[e2]at h ⊢;exact⟨Q0y I _ _ _ _ h e r,Q0W _ _ _ h e⟩
theorem bEq(x y:D)(n k:Nat)(h1:plain n x=true)(h2:plain k y=true):PyData.eqv (toPy x) (toPy y)=eqB x y:=by
 have h:=Q6O n x y k h1 h2;cases q:eqB x y with
 | true=>exact h.mpr ((Q0s x y).mp q)
 | false =>
  cases q2:PyData.eqv (toPy x) (toPy y) with
  | false=>rfl
  | true=>exact absurd (h.mp q2) ((Q1F x y).mp q)
theorem Q9E{f:Bool->Bool}(hu:X.A.units+64<cLine)
  (r1:∀ {a b:Value} {da db:PyData} {as bs:List Addr} {Q:Value->Shared->Prop} {s:Shared} (ra:Reads s.heap a da as) (rb:Reads s.heap b db bs) (ha:SeqAt.shaped da=true) (hb:SeqAt.shaped db=true),Q (.bool (f (PyData.eqv da db))) s->wpAny (model X.prog X.w) X.A (compareOp op a b) Q X.xe s):OpD X (compareOp op) (rEqN f):=by
 rintro pins s σ H x y v u Q I rx ry ⟨dx,dy,M,R,ex,ey,m,q,k⟩;by_cases hb:(∃ a,dx=.bl a)/\∃ b,dy=.bl b
 ·obtain⟨⟨a,rfl⟩,⟨b,rfl⟩⟩:=hb;cases ex;cases ey;cases rx;cases ry;refine r1 (Reads.bool a) (Reads.bool b) rfl rfl ⟨.bl (f (a==b)),H,I,?_,k _ M _ H q (Ext.refl H) m (.bl _)⟩;simp[PyData.eqv,L2.RelV]
 ·have q':plain 12 (res M dx)=true/\plain 12 (res M dy)=true/\R (.bl (f (eqB (res M dx) (res M dy)))) M:=by
   unfold rEqN at q;split at q
   ·exact absurd ⟨⟨_,rfl⟩,⟨_,rfl⟩⟩ hb
   ·exact q
  obtain⟨h1,h2,q⟩:=q';obtain⟨⟨as,ra⟩,c1,d1⟩:=Q2r I m h1 ex rx;obtain⟨⟨bs,rb⟩,c2,d2⟩:=Q2r I m h2 ey ry;have sh:∀ d:PyData,d.canLay0=true->d.depth<=12->SeqAt.shaped d=true:=fun d h1 h2=>by
   unfold SeqAt.shaped;rw[h1,Bool.true_and];exact Ze (by omega)
  refine r1 ra rb (sh _ c1 d1) (sh _ c2 d2) ?_;rw[bEq _ _ _ _ h1 h2];exact⟨.bl _,H,I,rfl,k _ M _ H q (Ext.refl H) m (.bl _)⟩
theorem od_eq(hu:X.A.units+64<cLine):OpD X (compareOp .Eq) (rEqN id):=Q9E hu fun ra rb ha hb h=>SeqAt.compareEq_shaped ra rb ha hb hu h
theorem od_ne(hu:X.A.units+64<cLine):OpD X (compareOp .NotEq) (rEqN not):=Q9E hu fun ra rb ha hb h=>SeqAt.compareNe_shaped ra rb ha hb hu h
end
noncomputable def cut{α:Type}(xs:List α)(lo hi:Option Int):List α:=(xs.drop (HT.sIx xs.length 0 lo)).take (HT.sIx xs.length xs.length hi-HT.sIx xs.length 0 lo)
theorem Qao{α:Type}{xs:List α}{lo hi:Option Int}{c:α}(h:c∈cut xs lo hi):c∈xs:=List.mem_of_mem_drop (mem_of_mem_take h)
theorem Qap{α:Type}(xs:List α)(lo hi:Option Int):(cut xs lo hi).length<=xs.length:=by
 unfold cut;rw[ZU,length_drop];omega
theorem Q5O{α:Type}(xs:List α)(i:Nat):∀ k:Nat,((List.range k).map fun m=>i+m).filterMap (fun j=>xs[j]?)=(xs.drop i).take k:=by
 intro k
 induction k with
 | zero=>simp
 | succ k ih =>
  rw[List.range_succ,ZY,List.filterMap_append,ih];simp only[Z8,map_nil,filterMap_cons,List.filterMap_nil];rw[List.take_succ,List.getElem?_drop];cases xs[i+k]? <;> simp
theorem sliceIdx(lo hi:Option Int)(n:Nat):Builtin.Str.strSliceIndices lo hi 1 n=(List.range (HT.sIx n n hi-HT.sIx n 0 lo)).map fun m=>HT.sIx n 0 lo+m:=by
 have h1:(1:Int) > 0:=by decide
 have cl:∀ (v:Int) (d:Nat),max 0 (min (if v<0 then v+(n:Int) else v) (n:Int))=((HT.sIx n d (some v):Nat):Int):=fun v d=>by
  show _=((if v<0 then (v+(n:Int)).toNat else min v.toNat n:Nat):Int)
  split <;> omega
 have key:∀ I J:Nat,sliceRange (I:Int) (J:Int) 1=(List.range (J-I)).map fun m=>I+m:=fun I J=>by
  unfold sliceRange;have hc:(if (1:Int) > 0 then (if (I:Int)<(J:Int) then ((J:Int)-(I:Int)+1-1) / 1 else 0) else (if (I:Int) > (J:Int) then ((I:Int)-(J:Int)-1-1) / (-1) else 0))=((J-I:Nat):Int):=by
   rw[Zm h1];split <;> omega
  simp only[hc,ZO];refine map_congr_left fun k _=>?_;omega
 unfold Builtin.Str.strSliceIndices;simp only[h1,if_true];cases lo with
 | none =>
  cases hi with
  | none=>exact key 0 n
  | some j=>exact (congrArg (fun z=>sliceRange 0 z 1) (cl j n)).trans (key 0 _)
 | some i =>
  cases hi with
  | none=>exact (congrArg (fun z=>sliceRange z n 1) (cl i 0)).trans (key _ n)
  | some j=>exact (congr (congrArg (fun z y=>sliceRange z y 1) (cl i 0)) (cl j n)).trans (key _ _)
theorem Qaq(x:List Nat)(lo hi:Option Int):Txt.slice (S x) lo hi=S (cut x lo hi):=by
 unfold Txt.slice;rw[Q0k,sliceIdx];split
 ·rename_i h;have h':HT.sIx x.length x.length hi-HT.sIx x.length 0 lo=x.length:=by simpa using h
  have h2:HT.sIx x.length x.length hi<=x.length:=HT.sIx_le _ _ (Zz _) hi;unfold cut;have h3:HT.sIx x.length 0 lo=0:=by
   by_cases hx:x.length=0
   ·have:=HT.sIx_le x.length 0 (zero_le _) lo;omega
   ·omega
  rw[h',h3,drop_zero,take_length]
 ·unfold cut S;rw[<- Q5O];simp
section
variable{X:Cx}{a b c e:Expr}{es:List Expr}{ta tb te:DTE}{tt tu:DTT}{pos p2:Pos}{K:Frag}
noncomputable abbrev DTO:=DSt->DH->(Option Int->DH->Prop)->Prop
noncomputable def lO(K:Frag)(t:DTO):TO:=fun σ H Q=>∃ ρ M R,SimS K H ρ σ/\SimM K M H/\t ρ M R/\∀ o M' H',R o M'->Ext H H'->SimM K M' H'->Q o H'
noncomputable abbrev DO(X:Cx)(e:Option Expr)(t:DTO):Prop:=PO X e (lO X.K t)
theorem PO.imp{e:Option Expr}{T T':TO}(h:PO X e T)(i:∀ σ H Q,T' σ H Q->T σ H Q):PO X e T':=fun pins s σ H Q I q=>h pins s σ H Q I (i σ H Q q)
noncomputable def zbH:DTO:=fun _ M Q=>Q none M
noncomputable def zc1(t:DTE):DTO:=fun ρ M Q=>t ρ M fun x M1=>match x with
 | .int i=>Q (some i) M1
 | _=>False
theorem Qar:DO X none zbH:=PO.imp Qa3 fun σ H Q ⟨ρ,M,R,s,m,h,k⟩=>k none M H h (Ext.refl H) m
theorem Q4C(h:DE X e te):DO X (some e) (zc1 te):=PO.imp (Qa4 h) fun σ H Q ⟨ρ,M,R,s,m,h,k⟩=>⟨ρ,M,_,s,m,h,fun d M1 v H1 h1 x1 m1 e1=>by
 cases e1 <;> first | exact False.elim h1 | exact⟨_,rfl,k _ M1 H1 h1 x1 m1⟩⟩
noncomputable def rSlD:D->Option Int->Option Int->DH->DK->Prop:=fun x lo hi M Q=>match x with
 | .str z=>z.length<=sizeLine/\Q (.str (cut z lo hi)) M
 | .tup xs=>Q (.tup (cut xs lo hi)) M
 | .lst xs=>∀ p,M p=none->Q (.ref p) (dupd M p (.lst (cut xs lo hi)))
 | .ref a=>match M a with
  | some (.lst xs)=>∀ p,M p=none->Q (.ref p) (dupd M p (.lst (cut xs lo hi)))
  | _=>False
 | _=>False
noncomputable def lSl(K:Frag)(r:D->Option Int->Option Int->DH->DK->Prop):V->Option Int->Option Int->Hp->VK->Prop:=fun x lo hi H Q=>∃ d M R,Den K H d x/\SimM K M H/\r d lo hi M R/\Aft K H R Q
theorem Dens.cut(h:Dens K H ds vs)(lo hi:Option Int):Dens K H (DL.cut ds lo hi) (cutV vs lo hi):=by
 unfold DL.cut cutV;rw[h.length];exact (h.drop _).take _
theorem Q6P{prog:Program}{w:World}{A:Around}{E:Value->Shared->Prop}{s:Shared}{t sl:Addr}{items:Array Value}{vl vu:Value}{lo hi:Option Int}{Q:Value->Shared->Prop}(ht:IsTup s.heap t items)(hs:s.heap.IsSliceOf sl vl vu .none)(pl:IsPart vl lo)(pu:IsPart vu hi)
  (hw:HT.sIx items.size 0 lo=0/\HT.sIx items.size items.size hi=items.size) (h:Q (.ref t) s):wpAny (model prog w) A (getItem (.ref t) (.ref sl)) Q E s:=by
 obtain⟨os,hos,hcs,hds⟩:=id hs;have hTs:s.TypeIs (.ref sl) "slice":=⟨os,hos,hcs⟩;unfold getItem
 try with_reducible refine Ye ?_
 first | refine Za (Zh ?_) | skip
 refine Za (wpAny_sequenceKey ht.typeIs (by decide) ?_)
 refine Za (wpAny_callSpecial?_slot (name:=Str.ofString "__getitem__") ht.typeIs ZI
  (wpAny_call_entry ZI ht.typeIs entry_tuple_getitem ?_ (args_tuple_getitem _ _)))
 show wpAny _ _ (Builtin.Tuple.tupleItemsOf (.ref t) >>= _) _ _ s;refine Za (tupleItemsOf_ ht ?_);refine Za (wpAny_typeOf hTs ?_);rw[Zm (by decide)]
 refine Za (HT.sliceApplied_gen hs pl pu ?_);have hyes:((((HT.sIx items.size 0 lo:Nat):Int)==0&&(1:Int)==1&&(HT.sIx items.size items.size hi-HT.sIx items.size 0 lo)==items.size)=true):=by
  rw[hw.1,hw.2];simp
 show wpAny _ _ (if (((HT.sIx items.size 0 lo:Nat):Int)==0&&(1:Int)==1&&(HT.sIx items.size items.size hi-HT.sIx items.size 0 lo)==items.size)=true then _ else _) _ _ s
 rw[Zm hyes];unfold Builtin.Tuple.tupleIsExact;refine Za (Za (wpAny_typeOf ht.typeIs (Zh ?_)));rw[Zm (by decide)]
 exact Za (wpAny_rule (Zh ⟨_,rfl,Zh h⟩))
theorem Qc4:SlR X (lSl X.K rSlD):=by
 rintro pins s σ H x v vl vu lo hi sl Q I rx hs pl pu ⟨d,M,R,e,m,q,k⟩;have viaL:∀ {p:Addr} {ds:List D} {vs:List V},x=.ref p->SqL X.K H p vs->Dens X.K H ds vs->(∀ p,M p=none->R (.ref p) (dupd M p (.lst (DL.cut ds lo hi))))->∃ T id,typeLookup (.type T) "__getitem__" = pure (some (.builtin id))/\s.TypeIs v T/\wpAny (model X.prog X.w) X.A (getItem v (.ref sl)) (EP X pins σ Q) X.xe s:=by
  intro p ds vs ex sq dn q;subst ex;exact Qa7 pins s σ H _ v vl vu lo hi sl Q I rx hs pl pu ⟨p,vs,rfl,sq,fun p hp=>k _ _ _ _ (q p (m.free hp)) (Ext.new hp) (m.newL hp (Dens.cut dn lo hi)) (.ref p)⟩
 cases e with
 | str z hz =>
  obtain⟨t,rfl⟩:=rx;refine⟨"str",_,F.slot_str_getitem.lookup,typeIs_str s _ t,?_⟩;have go:∀ (l u:Option (Int×Tok)),l.map (·.1)=lo->u.map (·.1)=hi->s.heap.IsSlice sl l u none->wpAny (model X.prog X.w) X.A (getItem (.str (S z) t) (.ref sl)) (EP X pins σ Q) X.xe s:=by
   intro l u e1 e2 hsl;have es:Txt.slice (S z) lo hi=S (DL.cut z lo hi):=Qaq z lo hi;have fin:∀ (t':Tok) (tk:Nat),EP X pins σ Q (.str (S (DL.cut z lo hi)) t') { s with toks:=tk }:=fun t' tk=>⟨.str (S (DL.cut z lo hi)),H,I.tok tk,⟨t',rfl⟩,k _ M _ H q.2 (Ext.refl H) m (.str _ (cpOk.sub hz fun c hc=>Qao hc))⟩;refine wpAny_getItem_str_slice (l:=l) (u:=u) (st:=none) hsl rfl ?_;unfold sliceMade;unfold Txt.slice at es;unfold slicePicked;rw[e1,e2];simp only[Option.map_none,Option.getD_none];by_cases hc:((1:Int)==1&&(Builtin.Str.strSliceIndices lo hi 1 (S z).length).length==(S z).length)=true
   ·rw[Zm hc]at es ⊢;have:=fin t s.toks;rw[<- es]at this;exact this
   ·rw[Zj hc]at es ⊢;rw[es];refine⟨?_,fin _ _⟩;show (S (DL.cut z lo hi)).length<=sizeLine;rw[Q0k];exact Z7 (Qap z lo hi) q.1
  obtain⟨os,hos,hcs,hds⟩:=hs;cases pl with
  | none =>
   cases pu with
   | none=>exact go none none rfl rfl ⟨os,hos,hcs,hds⟩
   | int j u=>exact go none (some (j,u)) rfl rfl ⟨os,hos,hcs,hds⟩
  | int i t =>
   cases pu with
   | none=>exact go (some (i,t)) none rfl rfl ⟨os,hos,hcs,hds⟩
   | int j u=>exact go (some (i,t)) (some (j,u)) rfl rfl ⟨os,hos,hcs,hds⟩
 | tup sq dn =>
  rename_i p ds vs;cases rx;have hl:=dn.length;by_cases hw:HT.sIx vs.length 0 lo=0/\HT.sIx vs.length vs.length hi=vs.length
  ·obtain⟨its,r,ht,hz⟩:=I.tuple (.of sq);have hlen:its.toArray.size=vs.length:=by rw[ZH];exact r.length.symm
   refine⟨"tuple",_,ZI.lookup,ht.typeIs,Q6P ht hs pl pu (by rw[hlen];exact hw) ⟨.ref p,H,I,rfl,k _ M _ H q (Ext.refl H) m ?_⟩⟩
   have:DL.cut ds lo hi=ds:=by
    unfold DL.cut;rw[hl,hw.1,hw.2,drop_zero,<- hl,Nat.sub_zero,take_length]
   rw[this];exact .tup sq dn
  ·exact QbG pins s σ H (.ref p) _ vl vu lo hi sl Q I rfl hs pl pu ⟨p,vs,rfl,.of sq,hw,fun p hp=>k _ M _ _ q (Ext.new hp) (m.new hp) (.tup Q0i ((Dens.cut dn lo hi).ext (Ext.new hp)))⟩
 | lst sq dn=>exact viaL rfl sq.sq dn q
 | ref p =>
  cases qa:M p with
  | none=>simp only[rSlD,qa]at q
  | some o =>
   cases o with
   | oth _=>simp only[rSlD,qa]at q
   | lst ds =>
    simp only[rSlD,qa]at q;obtain⟨vs,e2,dn⟩:=m.get qa;exact viaL rfl (.of e2) dn q
 | _=>exact False.elim q
noncomputable def dSl(te:DTE)(tl th:DTO):DTE:=fun ρ M Q=>te ρ M fun x M1=>tl ρ M1 fun l M2=>th ρ M2 fun u M3=>rSlD x l u M3 Q
theorem Q8B{lo hi:Option Expr}{tl th:DTO}(he:DE X e te)(hl:DO X lo tl)(hh:DO X hi th):DE X (.Subscript e (.Slice lo hi none p2) pos) (dSl te tl th) :=
 (Q8n Qc4 he hl hh).imp fun σ H Q ⟨ρ,M,R,s,m,h,k⟩=>⟨ρ,M,_,s,m,h,fun d1 M1 v1 H1 h1 x1 m1 e1=>⟨ρ,M1,_,s.ext x1,m1,h1,fun l M2 H2 h2 x2 m2=>⟨ρ,M2,_,s.ext (x1.trans x2),m2,h2,fun u M3 H3 h3 x3 m3 =>
  ⟨d1,M3,R,e1.ext (x2.trans x3),m3,h3,k.ext (x1.trans (x2.trans x3))⟩⟩⟩⟩
noncomputable def rIxD:DR2:=fun x y M Q=>match x,y with
 | .str z,.int i=>match atI z i with
  | some c=>z.length<=sizeLine/\Q (.str [c]) M
  | none=>False
 | .tup xs,.int i=>match atI xs i with
  | some d=>Q d M
  | none=>False
 | .lst xs,.int i=>match atI xs i with
  | some d=>Q d M
  | none=>False
 | .ref a,.int i=>match M a with
  | some (.lst xs)=>match atI xs i with
   | some d=>Q d M
   | none=>False
  | _=>False
 | _,_=>False
theorem Dens.atI(h:Dens K H ds vs)(e:L2.atI ds i=some d):∃ v,L2.atI vs i=some v/\Den K H d v:=by
 unfold L2.atI at e ⊢;rw[h.length]at e;cases q:ixN vs.length i with
 | none=>rw[q]at e;cases e
 | some j =>
  rw[q]at e;obtain⟨v,e1,e2⟩:=h.get (i:=j) (d:=d) e;exact⟨v,e1,e2⟩
theorem Qc5:IxR X (lR2 X.K rIxD):=by
 rintro value slice pins s σ H x y v u Q I rx ry ⟨dx,dy,M,R,ex,ey,m,q,k⟩ hsub;have viaL:∀ {p:Addr} {ds:List D} {vs:List V} {i:Int},x=.ref p->y=.int i->SqL X.K H p vs->Dens X.K H ds vs->(match atI ds i with | some d=>R d M | none=>False)->wpAny (model X.prog X.w) X.A (subscriptTail value slice v u) (EP X pins σ Q) X.xe s:=by
  intro p ds vs i e1 e2 sq dn q;subst e1 e2;cases ei:atI ds i with
  | none=>rw[ei]at q;exact q.elim
  | some d =>
   rw[ei]at q;obtain⟨w,e3,e4⟩:=Dens.atI dn ei;exact Qa6 value slice pins s σ H _ _ v u Q I rx ry ⟨p,vs,i,w,rfl,rfl,sq,e3,k _ M _ H q (Ext.refl H) m e4⟩ hsub
 cases ex with
 | str z hz =>
  cases ey <;> first | exact False.elim q | skip
  rename_i i;have q:(match atI z i with | some c=>z.length<=sizeLine/\R (.str [c]) M | none=>False):=q
  cases ei:atI z i with
  | none=>rw[ei]at q;exact q.elim
  | some c =>
   rw[ei]at q;obtain⟨j,_,ej,_⟩:=Q3f ei;exact ix_str value slice pins s σ H _ _ v u Q I rx ry ⟨S z,i,c,rfl,rfl,by rw[Q0k];exact q.1,by rw[Q0o];exact ei,k _ M _ H q.2 (Ext.refl H) m (.str [c] (cpOk.sub hz fun c' hc=>by rw[Zp.mp hc];exact Z0 ej))⟩ hsub
 | tup sq dn =>
  cases ey <;> first | exact False.elim q | skip
  rename_i p ds vs i;have q:(match atI ds i with | some d=>R d M | none=>False):=q
  cases ei:atI ds i with
  | none=>rw[ei]at q;exact q.elim
  | some d =>
   rw[ei]at q;obtain⟨w,e3,e4⟩:=Dens.atI dn ei;exact ix_tup value slice pins s σ H _ _ v u Q I rx ry ⟨p,vs,i,w,rfl,rfl,.of sq,e3,k _ M _ H q (Ext.refl H) m e4⟩ hsub
 | lst sq dn =>
  cases ey <;> first | exact False.elim q | skip
  exact viaL rfl rfl sq.sq dn q
 | ref p =>
  cases ey <;> first | exact False.elim q | skip
  cases qa:M p with
  | none=>simp only[rIxD,qa]at q
  | some o =>
   cases o with
   | oth _=>simp only[rIxD,qa]at q
   | lst ds =>
    simp only[rIxD,qa]at q;obtain⟨vs,e2,dn⟩:=m.get qa;exact viaL rfl rfl (.of e2) dn q
 | _=>exact False.elim q
theorem de_ix(ha:DE X a ta)(hb:DE X b tb)(hs:zbB b:=by intro _ _;rfl):DE X (.Subscript a b pos) (dOp rIxD ta tb) :=
 (pe_ix Qc5 ha hb hs).imp fun σ H Q h=>Q4R (fun _ _ _ _ q=>q) h
noncomputable def rLtD(f:Int->Int->Bool):DR2:=fun x y M Q=>match x,y with
 | .int i,.int j=>Q (.bl (f i j)) M
 | _,_=>False
theorem opB2{f:Int->Int->Bool}(h:OpR X (compareOp op) (rI0 fun i j=>.bl (f i j))):OpD X (compareOp op) (rLtD f):=by
 rintro pins s σ H x y v u Q I rx ry ⟨dx,dy,M,R,ex,ey,m,q,k⟩;cases ex <;> cases ey <;> first | exact False.elim q | skip
 exact h pins s σ H _ _ v u Q I rx ry ⟨_,_,rfl,rfl,k _ M _ H q (Ext.refl H) m (.bl _)⟩
theorem od_lt:OpD X (compareOp .Lt) (rLtD fun i j=>decide (i<j)):=opB2 op_lt
theorem od_le:OpD X (compareOp .LtE) (rLtD fun i j=>decide (i<=j)):=opB2 op_le
theorem od_gt:OpD X (compareOp .Gt) (rLtD fun i j=>decide (j<i)):=opB2 op_gt
noncomputable def rLtS:DR2:=fun x y M Q=>match x,y with
 | .str i,.str j=>Q (.bl (decide (i<j))) M
 | _,_=>False
noncomputable def isNon:D->Bool
 | .non=>true
 | _=>false
noncomputable def rIsN(f:Bool->Bool):DR2:=fun x y M Q=>match y with
 | .non=>Q (.bl (f (isNon x))) M
 | _=>False
theorem Qc6:OpD X (compareOp .Is) (rIsN id):=by
 rintro pins s σ H x y v u Q I rx ry ⟨dx,dy,M,R,ex,ey,m,q,k⟩;cases ey <;> first | exact False.elim q | skip
 refine QbC pins s σ H _ _ v u Q I rx ry ⟨rfl,?_⟩;have:decide (x=V.non)=isNon dx:=by cases ex <;> rfl
 rw[this];exact k _ M _ H q (Ext.refl H) m (.bl _)
noncomputable def zb4(r r':DR2)(ta tb tc:DTE):DTE:=fun ρ M Q=>ta ρ M fun x M1=>tb ρ M1 fun y M2=>r x y M2 fun z M3=>match z with
 | .bl k=>if k=true then tc ρ M3 fun z' M4=>r' y z' M4 Q else Q (.bl false) M3
 | _=>False
theorem Q3O(h:lE K (zb4 r r' ta tb tc) σ H Q):zbU (lR2 K r) (lR2 K r') (lE K ta) (lE K tb) (lE K tc) σ H Q:=by
 obtain⟨ρ,M,R,s,m,h,k⟩:=h;refine⟨ρ,M,_,s,m,h,fun d1 M1 v1 H1 h1 x1 m1 e1=>⟨ρ,M1,_,s.ext x1,m1,h1,fun d2 M2 v2 H2 h2 x2 m2 e2=>⟨d1,d2,M2,_,e1.ext x2,e2,m2,h2,fun d3 M3 v3 H3 h3 x3 m3 e3=>?_⟩⟩⟩;have xx:=(x1.trans x2).trans x3;cases d3 with
 | bl c =>
  cases e3;refine⟨c,rfl,?_⟩;cases c with
  | true=>exact⟨ρ,M3,_,s.ext xx,m3,(Zm rfl).mp h3,fun d4 M4 v4 H4 h4 x4 m4 e4=>⟨d2,d4,M4,R,e2.ext (x3.trans x4),e4,m4,h4,k.ext (xx.trans x4)⟩⟩
  | false=>exact k _ M3 _ H3 ((Zj ZA).mp h3) xx m3 (.bl _)
 | _=>exact False.elim h3
theorem Q8C(ho:OpD X (compareOp op) r)(ho':OpD X (compareOp op') r')(ha:DE X a ta)(hb:DE X b tb)(hc:DE X c tc)
  (hm:lastMarks [op,op'] [b,c]=false:=by with_unfolding_all rfl):DE X (.Compare a [op,op'] [b,c] pos) (zb4 r r' ta tb tc):=(Q8j ho ho' ha hb hc hm).imp fun σ H Q h=>Q3O h
theorem Q8D(ho:OpD X (compareOp op) r)(ho':OpD X (compareOp op') r')(ha:DE X a ta)(hb:DE X b tb)(hc:DE X c tc)
  (hm:lastMarks [op,op'] [b,c]=false:=by with_unfolding_all rfl):DT X (.Compare a [op,op'] [b,c] pos) (dB (zb4 r r' ta tb tc)) :=
 (Q8k ho ho' ha hb hc hm).imp fun σ H Q ⟨ρ,M,R,s,m,h,k⟩=>Q3O ⟨ρ,M,_,s,m,h,fun d M1 v H1 h1 x1 m1 e1=>by
  cases d with
  | bl c=>cases e1;exact⟨c,rfl,k c M1 H1 h1 x1 m1⟩
  | _=>exact False.elim h1⟩
end
section
variable{X:Cx}{a b c e:Expr}{es:List Expr}{ta tb te:DTE}{tt tu:DTT}{pos p2:Pos}{K:Frag}
inductive Ty where
 | non | bool | int | str | tuple | list
 deriving DecidableEq
noncomputable def Ty.nm:Ty->String
 | .non=>"NoneType" | .bool=>"bool" | .int=>"int" | .str=>"str" | .tuple=>"tuple" | .list=>"list"
noncomputable def Ty.sub:Ty->Ty->Bool
 | .bool,.int=>true
 | a,b=>decide (a=b)
noncomputable def tyD:D->Ty
 | .non=>.non | .bl _=>.bool | .int _=>.int | .str _=>.str | .tup _=>.tuple | .lst _=>.list | .ref _=>.list
theorem Q1k(K:Frag)(a b:Ty)(hb:b≠.non):kitOne K (.type a.nm) (.type b.nm)=some (a.sub b):=by
 cases a <;> cases b <;> first | exact absurd rfl hb | with_unfolding_all rfl
noncomputable def dIsI(T:Ty)(te:DTE):DTE:=fun ρ M Q=>te ρ M fun d M1=>match d with
 | .ref a=>match M1 a with
  | some (.lst _)=>Q (.bl (Ty.sub .list T)) M1
  | _=>False
 | d=>Q (.bl ((tyD d).sub T)) M1
theorem Qc7(T:Ty)(hT:T≠.non){p:Pos}(hx:bootBuiltins x=some (.type T.nm))(he:DE X e te)(hg:Gl X "isinstance")(hm:X.mg "isinstance" = none)(hg2:Gl X x)(hm2:X.mg x=none)(hn:x ≠ "__name__":=by decide)(hdb:(x==("__debug__" : Str))=false:=by decide)
  (hs:starEach [e,.Name x p3] X.env=(false,eval e X.env)::starEach [.Name x p3] X.env:=by rfl) (hs2:starEach [.Name x p3] X.env=(false,eval (.Name x p3) X.env)::starEach [] X.env:=by rfl) (hpl:(backTo pos (starEach [.Name x p3] X.env)).any (·.1)=false:=by rfl) :
  DE X (.Call (.Name "isinstance" p) [e,.Name x p3] [] pos) (dIsI T te):=by
 have hc:CallR X (.builtin "isinstance") (fun xs H Q=>∃ d M R v,xs=[v,.ty T.nm]/\Den X.K H d v/\SimM X.K M H/\Aft X.K H R Q/\(match d with
  | .ref a=>match M a with
   | some (.lst _)=>R (.bl (Ty.sub .list T)) M
   | _=>False
  | d=>R (.bl ((tyD d).sub T)) M)):=by
  rintro pins s σ H xs us Q I rv ⟨d,M,R,v,e,den,m,k,q⟩;subst e;cases rv with
  | cons r1 rv =>
   cases rv with
   | cons r2 rv =>
    cases rv;cases r2;have fin:∀ b,R (.bl b) M->∀ tk,EP X pins σ Q (.bool b) { s with toks:=tk }:=fun b hb tk=>⟨.bl b,H,I.tok tk,rfl,k _ M _ H hb (Ext.refl H) m (.bl b)⟩;cases den with
    | non=>exact Q0R I r1 .non (Q1k X.K .non T hT) (fin _ q)
    | bl b=>exact Q0R I r1 (.bl b) (Q1k X.K .bool T hT) (fin _ q)
    | int i=>exact Q0R I r1 (.int i) (Q1k X.K .int T hT) (fin _ q)
    | str z hz=>exact Q0R I r1 (.str _) (Q1k X.K .str T hT) (fin _ q)
    | tup sq dn =>
     cases r1;obtain⟨its,r,⟨o,h1,h2,_⟩,hz⟩:=I.tuple (.of sq);exact kia_one kitx_tuple I.kIn ⟨o,h1,h2⟩ (Q1k X.K .tuple T hT) (fun z=>nomatch z) (fin _ q)
    | lst sq dn =>
     cases r1;obtain⟨its,r,⟨o,n,h1,h2,_⟩,hz⟩:=I.list sq.sq;exact kia_one kitx_list I.kIn ⟨o,h1,h2⟩ (Q1k X.K .list T hT) (fun z=>nomatch z) (fin _ q)
    | ref p =>
     cases qa:M p with
     | none=>simp only[qa]at q
     | some o =>
      cases o with
      | oth _=>simp only[qa]at q
      | lst ds =>
       simp only[qa]at q;cases r1;obtain⟨vs,e2,dn⟩:=m.get qa;exact Q0R (x:=.ref p) I rfl (.lst e2) (Q1k X.K .list T hT) (fin _ q)
 refine (Q3e hc hg hm (by rfl) (Q0S he (Q0S (Q6k hg2 hm2 hx (v:=.ty T.nm) rfl hn hdb) Q3E hs2) hs) (by decide) (by decide) hs hpl).imp fun σ H Q ⟨ρ,M,R,s,m,h,k⟩=>?_
 exact⟨ρ,M,_,s,m,h,fun d M1 v H1 h1 x1 m1 e1=>⟨d,M1,R,v,rfl,e1,m1,k.ext x1,by
  cases d <;> exact h1⟩⟩
noncomputable def zbX:D->DH->DK->Prop:=fun d M Q=>match d with
 | .str z=>z.length<=sizeLine/\Q (.int z.length) M
 | .tup xs=>Q (.int xs.length) M
 | .lst xs=>Q (.int xs.length) M
 | .ref a=>match M a with
  | some (.lst xs)=>Q (.int xs.length) M
  | _=>False
 | _=>False
noncomputable def rLen:List D->DH->DK->Prop:=fun ds M Q=>match ds with
 | [d]=>zbX d M Q
 | _=>False
theorem Qc8:zbt X (.builtin "len") rLen:=by
 rintro pins s σ H xs us Q I rv ⟨ds,M,R,dn,m,q,k⟩
 match ds,dn,q with
 | [d],.cons den .nil,q =>
  cases den with
  | str z hz=>exact Q3L pins s σ H _ us Q I rv ⟨_,rfl,by rw[Q0k];exact q.1,k _ M _ H q.2 (Ext.refl H) m (by rw[Q0k];exact .int _)⟩
  | tup sq d=>exact Q0T pins s σ H _ us Q I rv ⟨_,_,rfl,.inr (.of sq),k _ M _ H q (Ext.refl H) m (by rw[d.length];exact .int _)⟩
  | lst sq d=>exact Q0T pins s σ H _ us Q I rv ⟨_,_,rfl,.inl sq.sq,k _ M _ H q (Ext.refl H) m (by rw[d.length];exact .int _)⟩
  | ref p =>
   cases qa:M p with
   | none=>simp only[rLen,zbX,qa]at q
   | some o =>
    cases o with
    | oth _=>simp only[rLen,zbX,qa]at q
    | lst ds =>
     simp only[rLen,zbX,qa]at q;obtain⟨vs,e2,d⟩:=m.get qa;exact Q0T pins s σ H _ us Q I rv ⟨_,_,rfl,.inl (.of e2),k _ M _ H q (Ext.refl H) m (by rw[d.length];exact .int _)⟩
  | _=>exact False.elim q
noncomputable def zao(M:DH):D->Option (List D)
 | .tup xs=>some xs
 | .lst xs=>some xs
 | .ref a=>match M a with
  | some (.lst xs)=>some xs
  | _=>none
 | _=>none
noncomputable def zbD:List D->DH->DK->Prop:=fun ds M Q=>match ds with
 | [d]=>match zao M d with
  | some xs=>Q (.tup xs) M
  | none=>False
 | _=>False
noncomputable def rList:List D->DH->DK->Prop:=fun ds M Q=>match ds with
 | [d]=>match zao M d with
  | some xs=>∀ p,M p=none->Q (.ref p) (dupd M p (.lst xs))
  | none=>False
 | _=>False
theorem Q9F(m:SimM K M H)(den:Den K H d v)(e:zao M d=some xs):∃ p vs,v=.ref p/\(SqL K H p vs\/SqT K H p vs)/\Dens K H xs vs/\(SqL K H p vs\/H p=some (.tup vs)):=by
 cases den with
 | tup sq d=>cases e;exact⟨_,_,rfl,.inr (.of sq),d,.inr sq⟩
 | lst sq d=>cases e;exact⟨_,_,rfl,.inl sq.sq,d,.inl sq.sq⟩
 | ref p =>
  cases qa:M p with
  | none=>simp[zao,qa]at e
  | some o =>
   cases o with
   | oth _=>simp[zao,qa]at e
   | lst ds =>
    simp[zao,qa]at e;subst e;obtain⟨vs,e2,d⟩:=m.get qa;exact⟨_,_,rfl,.inl (.of e2),d,.inl (.of e2)⟩
 | _=>simp[zao]at e
theorem Q8E:zbt X (.type "tuple") zbD:=by
 rintro pins s σ H xs us Q I rv ⟨ds,M,R,dn,m,q,k⟩
 match ds,dn,q with
 | [d],.cons den .nil,q =>
  unfold zbD at q;cases e:zao M d with
  | none=>simp only[e]at q
  | some ys =>
   simp only[e]at q;obtain⟨p,vs,rfl,_,d,sq⟩:=Q9F m den e;refine Q3h pins s σ H _ us Q I rv ⟨p,vs,rfl,?_⟩;rcases sq with sq | sq
   ·exact .inl ⟨sq,fun l hl=>k _ M _ _ q (Ext.new hl) (m.new hl) (.tup Q0i (d.ext (Ext.new hl)))⟩
   ·exact .inr ⟨.of sq,k _ M _ H q (Ext.refl H) m (.tup sq d)⟩
noncomputable def rMin:List D->DH->DK->Prop:=fun ds M Q=>match ds with
 | [.int i,.int j]=>Q (.int (if j<i then j else i)) M
 | _=>False
noncomputable def rMax:List D->DH->DK->Prop:=fun ds M Q=>match ds with
 | [.int i,.int j]=>Q (.int (if j > i then j else i)) M
 | _=>False
noncomputable def rOrd1:D->DH->DK->Prop:=fun d M Q=>match d with
 | .str z=>match z with
  | [c]=>Q (.int (c:Nat)) M
  | _=>False
 | _=>False
noncomputable def rOrd:List D->DH->DK->Prop:=fun ds M Q=>match ds with
 | [d]=>rOrd1 d M Q
 | _=>False
theorem Qc9:zbt X (.builtin "ord") rOrd:=by
 rintro pins s σ H xs us Q I rv ⟨ds,M,R,dn,m,q,k⟩
 match ds,dn,q with
 | [d],.cons den .nil,q =>
  cases den with
  | str z hz =>
   match z,hz,q with
   | [c],hz,q=>exact Q8l pins s σ H _ us Q I rv ⟨S [c],rfl,rfl,k _ M _ H q (Ext.refl H) m (by simpa[S]using Den.int (c:Int))⟩
  | _=>exact False.elim q
noncomputable def lM(K:Frag)(r:D->List D->DH->DK->Prop):V->List V->Hp->VK->Prop:=fun x vs H Q=>∃ d ds M R,Den K H d x/\Dens K H ds vs/\SimM K M H/\r d ds M R/\Aft K H R Q
noncomputable abbrev MtD(X:Cx)(id:String)(r:D->List D->DH->DK->Prop):Prop:=MtR X id (lM X.K r)
noncomputable def dMS(r:D->List D->DH->DK->Prop)(to:DTE)(t:DTA):DTE:=fun ρ M Q=>to ρ M fun d M1=>match d with
 | .str z=>t ρ M1 fun ds M2=>r (.str z) ds M2 Q
 | _=>False
theorem de_ms{o:Expr}{to:DTE}{tr:DTA}{name:Str}{apos cpos:Pos}{id:String}{r:D->List D->DH->DK->Prop}(pa:PlainAttrs "str")(slot:Slot "str" name id)(hty:typeOf (.builtin id)=pure (.type "method_descriptor"))(hm:MtD X id r)(ho:DE X o to)(ha:DA X (e::es) tr)
  (hbase:attributeBase o name X.env (eval o X.env)=eval o X.env:=by rfl)
  (hfew:((backTo cpos (starEach (e::es) X.env)).all (fun x=>!x.1)&&(backToKw cpos (keywordEach [] X.env)).all (fun x=>x.1.isSome)
   && decide ((e::es).length+([]:List Keyword).length+(if ([]:List Keyword).isEmpty then 0 else 1)<30))=true:=by rfl)
  (hline:(apos.endLine==cpos.line)=true:=by rfl) (hs:starEach (e::es) X.env=(false,eval e X.env)::starEach es X.env:=by rfl) (hplain:(backTo cpos (starEach es X.env)).any (·.1)=false:=by rfl) :
  DE X (.Call (.Attribute o name apos) (e::es) [] cpos) (dMS r to tr) :=
 (pe_bm pa slot hty hm ho ha hbase hfew hline hs hplain).imp fun σ H Q ⟨ρ,M,R,s,m,h,k⟩=>⟨ρ,M,_,s,m,h,fun d M1 v H1 h1 x1 m1 e1=>by
  cases e1 with
  | str z hz=>exact⟨rfl,ρ,M1,_,s.ext x1,m1,h1,fun ds M2 vs H2 h2 x2 m2 e2=>⟨.str z,ds,M2,R,.str z hz,e2,m2,h2,k.ext (x1.trans x2)⟩⟩
  | _=>exact False.elim h1⟩
theorem Q1P{o:Expr}{to:DTE}{name:Str}{apos cpos:Pos}{id:String}{r:D->List D->DH->DK->Prop}(pa:PlainAttrs "str")(slot:Slot "str" name id)(hty:typeOf (.builtin id)=pure (.type "method_descriptor"))(hm:MtD X id r)(ho:DE X o to)
  (hbase:attributeBase o name X.env (eval o X.env)=eval o X.env:=by rfl) (hline:(apos.endLine==cpos.line)=true:=by rfl):DE X (.Call (.Attribute o name apos) [] [] cpos) (dMS r to dNil) :=
 (Q9w pa slot hty hm ho hbase hline).imp fun σ H Q ⟨ρ,M,R,s,m,h,k⟩=>⟨ρ,M,_,s,m,h,fun d M1 v H1 h1 x1 m1 e1=>by
  cases e1 with
  | str z hz=>exact⟨rfl,.str z,[],M1,R,.str z hz,.nil,m1,h1,k.ext x1⟩
  | _=>exact False.elim h1⟩
noncomputable def dML(r:D->List D->DH->DK->Prop)(to:DTE)(t:DTA):DTE:=fun ρ M Q=>to ρ M fun d M1=>match d with
 | .ref a=>match M1 a with
  | some (.lst _)=>t ρ M1 fun ds M2=>r (.ref a) ds M2 Q
  | _=>False
 | .lst xs=>t ρ M1 fun ds M2=>r (.lst xs) ds M2 Q
 | _=>False
theorem de_ml{o:Expr}{to:DTE}{tr:DTA}{name:Str}{apos cpos:Pos}{id:String}{r:D->List D->DH->DK->Prop}(slot:Slot "list" name id)(hty:typeOf (.builtin id)=pure (.type "method_descriptor"))(hm:MtD X id r)(ho:DE X o to)(ha:DA X (e::es) tr)
  (hbase:attributeBase o name X.env (eval o X.env)=eval o X.env:=by rfl)
  (hfew:((backTo cpos (starEach (e::es) X.env)).all (fun x=>!x.1)&&(backToKw cpos (keywordEach [] X.env)).all (fun x=>x.1.isSome)
   && decide ((e::es).length+([]:List Keyword).length+(if ([]:List Keyword).isEmpty then 0 else 1)<30))=true:=by rfl)
  (hline:(apos.endLine==cpos.line)=true:=by rfl) (hs:starEach (e::es) X.env=(false,eval e X.env)::starEach es X.env:=by rfl) (hplain:(backTo cpos (starEach es X.env)).any (·.1)=false:=by rfl) :
  DE X (.Call (.Attribute o name apos) (e::es) [] cpos) (dML r to tr) :=
 (pe_bm PySem.F.plainAttrs_list slot hty hm ho ha hbase hfew hline hs hplain).imp fun σ H Q ⟨ρ,M,R,s,m,h,k⟩=>⟨ρ,M,_,s,m,h,fun d M1 v H1 h1 x1 m1 e1=>by
  cases e1 with
  | ref a =>
   cases qa:M1 a with
   | none=>simp only[qa]at h1
   | some o =>
    cases o with
    | oth _=>simp only[qa]at h1
    | lst xs =>
     simp only[qa]at h1;obtain⟨vs,e2,d⟩:=m1.get qa;exact⟨.inl ⟨rfl,vs,.of e2⟩,ρ,M1,_,s.ext x1,m1,h1,fun ds M2 vs H2 h2 x2 m2 e2=>⟨.ref a,ds,M2,R,.ref a,e2,m2,h2,k.ext (x1.trans x2)⟩⟩
  | lst fz dd=>exact⟨.inl ⟨rfl,_,fz.sq⟩,ρ,M1,_,s.ext x1,m1,h1,fun ds M2 vs H2 h2 x2 m2 e2=>⟨_,ds,M2,R,Den.ext x2 (.lst fz dd),e2,m2,h2,k.ext (x1.trans x2)⟩⟩
  | _=>exact False.elim h1⟩
theorem Qca{o:Expr}{to:DTE}{name:Str}{apos cpos:Pos}{id:String}{r:D->List D->DH->DK->Prop}(slot:Slot "list" name id)(hty:typeOf (.builtin id)=pure (.type "method_descriptor"))(hm:MtD X id r)(ho:DE X o to)
  (hbase:attributeBase o name X.env (eval o X.env)=eval o X.env:=by rfl) (hline:(apos.endLine==cpos.line)=true:=by rfl):DE X (.Call (.Attribute o name apos) [] [] cpos) (dML r to dNil) :=
 (Q9w PySem.F.plainAttrs_list slot hty hm ho hbase hline).imp fun σ H Q ⟨ρ,M,R,s,m,h,k⟩=>⟨ρ,M,_,s,m,h,fun d M1 v H1 h1 x1 m1 e1=>by
  cases e1 with
  | ref a =>
   cases qa:M1 a with
   | none=>simp only[qa]at h1
   | some o =>
    cases o with
    | oth _=>simp only[qa]at h1
    | lst xs =>
     simp only[qa]at h1;obtain⟨vs,e2,d⟩:=m1.get qa;exact⟨.inl ⟨rfl,vs,.of e2⟩,.ref a,[],M1,R,.ref a,.nil,m1,h1,k.ext x1⟩
  | lst fz dd=>exact⟨.inl ⟨rfl,_,fz.sq⟩,_,[],M1,R,.lst fz dd,.nil,m1,h1,k.ext x1⟩
  | _=>exact False.elim h1⟩
noncomputable def zaR:D->List D->DH->DK->Prop:=fun d ds M Q=>match d,ds with
 | .ref a,[y]=>match M a with
  | some (.lst xs)=>xs.length<sizeLine/\Q .non (dupd M a (.lst (xs++[y])))
  | _=>False
 | _,_=>False
theorem Q3P:MtD X "list.append" zaR:=by
 rintro pins s σ H x xs v us Q I rx rv ⟨d,ds,M,R,e,dn,m,q,k⟩;cases e <;> first | exact False.elim q | skip
 rename_i a
 match ds,dn,q with
 | [y],.cons dy .nil,q =>
  cases qa:M a with
  | none=>simp only[zaR,qa]at q
  | some o =>
   cases o with
   | oth _=>simp only[zaR,qa]at q
   | lst ys =>
    simp only[zaR,qa]at q;obtain⟨vs,e2,d⟩:=m.get qa;exact Q6t pins s σ H _ _ v us Q I rx rv ⟨a,vs,_,rfl,rfl,e2,by rw[<- d.length];exact q.1,k _ _ _ _ q.2 (Ext.lst e2) (m.write e2 (d.append (.cons dy .nil))) .non⟩
noncomputable def mReverse:D->List D->DH->DK->Prop:=fun d ds M Q=>match d,ds with
 | .ref a,[]=>match M a with
  | some (.lst xs)=>Q .non (dupd M a (.lst xs.reverse))
  | _=>False
 | _,_=>False
end
section
variable{X:Cx}{a b c e:Expr}{es:List Expr}{ta tb te:DTE}{tt tu:DTT}{pos p2:Pos}{K:Frag}
noncomputable def mIndex:D->List D->DH->DK->Prop:=fun d ds M Q=>match d,ds with
 | .str z,[.str y]=>match y with
  | [c]=>c∈z/\∀ i:Nat,z[i]? = some c->(∀ j,j<i->¬ z[j]? = some c)->Q (.int i) M
  | _=>False
 | _,_=>False
noncomputable def tFzS(T:TS):TS:=fun D σ H=>T { D with nx:=fun σ' H'=>∃ a xs,H' a=some (.lst xs)/\∀ o,D.nx σ' (upd H' a (.frz o (.lst xs))) } σ H
theorem ps_fz{st:Stmt}{T:TS}(h:PS X st T):PS X st (tFzS T):=by
 intro pins s σ H D I q;refine thn (h pins s σ H _ I q) fun f s' q'=>?_;cases f with
 | next =>
  obtain⟨σ',H',I',a,xs,ha,k⟩:=q';obtain⟨o,I2⟩:=I'.frozen ha;exact⟨σ',_,I2,k o⟩
 | brk=>exact q'
 | cont=>exact q'
 | ret v=>exact q'
noncomputable def dFzS(i:Nat)(t:DTS):DTS:=fun DD ρ M=>t { DD with nx:=fun ρ' M'=>match ρ'[i]? with
 | some (some (.ref a))=>match M' a with
  | some (.lst ds)=>DD.nx (ρ'.set i (some (.lst ds))) (ddel M' a)
  | _=>False
 | _=>False } ρ M
theorem ds_fz(i:Nat){st:Stmt}{t:DTS}(h:DS X st t):DS X st (dFzS i t) :=
 (ps_fz h).imp fun D σ H ⟨ρ,M,DD,s,m,h,k⟩=>⟨ρ,M,_,s,m,h,⟨fun ρ' M' σ' H' q x s' m'=>by
  cases e:ρ'[i]? with
  | none=>simp only[e]at q
  | some o =>
   cases o with
   | none=>simp only[e]at q
   | some d =>
    cases d with
    | ref a =>
     simp only[e]at q;cases qa:M' a with
     | none=>simp only[qa]at q
     | some o =>
      cases o with
      | oth _=>simp only[qa]at q
      | lst ds =>
       simp only[qa]at q;obtain⟨vs,e2,dn⟩:=m'.get qa;refine⟨a,vs,e2,fun o=>?_⟩;have xl:=Ext.lst (o:=.frz o (.lst vs)) e2;obtain⟨v,ev,den⟩:=s'.get e;cases den;have s2:=(s'.ext xl).set (d:=.lst ds) (v:=.ref a) (.lst (.inl ⟨o,Q0i⟩) (dn.ext xl)) i;have es:σ'.set i (some (.ref a))=σ':=by
        obtain⟨h1,h2⟩:=Zv.mp ev;rw[<- h2];exact List.set_getElem_self h1
       rw[es]at s2;exact k.nx _ _ _ _ q (x.trans xl) s2 (m'.frz e2)
    | _=>simp only[e]at q,k.rt,k.bk,k.ct⟩⟩
end
noncomputable def Sub(M M':DH):Prop:=∀ a o,M a=some o->M' a=some o
theorem Sub.refl(M:DH):Sub M M:=fun _ _ e=>e
theorem Sub.trans{M M1 M2:DH}(a:Sub M M1)(b:Sub M1 M2):Sub M M2:=fun c o e=>b c o (a c o e)
theorem Sub.new(h:M p=none):Sub M (dupd M p o):=fun a u e=>by rw[Q0j (dne e h)];exact e
theorem Sub.put(s:Sub M M')(h:M p=none):Sub M (dupd M' p o):=fun a u e=>by rw[Q0j (dne e h)];exact s a u e
theorem Sub.none(s:Sub M M')(h:M' p=Option.none):M p=Option.none:=by
 cases e:M p with
 | none=>rfl
 | some o=>rw[s p o e]at h;cases h
theorem SimM.sub{K:Frag}{H:Hp}{M M':DH}(h:SimM K M' H)(s:Sub M M'):SimM K M H:=fun a o e=>h a o (s a o e)
section
variable{X:Cx}{a b c e tg iter:Expr}{es:List Expr}{st:Stmt}{sts body:List Stmt}{ta tb te:DTE}{tt tu:DTT}{t u:DTS}{pos:Pos}{K:Frag}
noncomputable def zaO(wi:DTI)(ix:List Nat)(unp:D->Option (List D))(tc:DTT)(te:DTE):DTE:=fun ρ M Q=>wi ρ M fun items Cd M1 =>
 zaw (ix.map fun i=>(ρ[i]?).getD none) unp tc te Cd (fun ys M2=>ys.length<=sizeLine/\Q (.lst ys) M2) items [] M1
theorem Q3Q{unp:D->Option (List D)}{F:List D->DH->Prop}(hu:Unp K k unp gV)(s:SimS K H ρ σ)(m:SimM K M H)
  (h:wi ρ M fun items Cd M1=>zaw (ix.map fun i=>(ρ[i]?).getD none) unp tc te Cd (fun ys M2=>ys.length<=sizeLine/\F ys M2) items [] M1)
  (kk:∀ zs M' ys H' a,F zs M'->Ext H H'->SimM K M' H'->Dens K H' zs ys->H' a=none->Q (.ref a) (upd H' a (.lst ys))):tComp (lI K wi) k ix gV (lT K tc) (lE K te) σ H Q:=by
 refine⟨ρ,M,_,s,m,h,fun items Cd M1 H1 J h1 x1 m1 Y=>?_⟩;refine⟨fun i mm ys H'=>mm=items.length-i/\i<=items.length/\∃ M' zs,Ext H1 H'/\SimM K M' H'/\Dens K H' zs ys/\zaw (ix.map fun i=>(ρ[i]?).getD none) unp tc te Cd (fun ys M2=>ys.length<=sizeLine/\F ys M2) (items.drop i) zs M',⟨_,rfl,zero_le _,M1,[],Ext.refl _,m1,.nil,h1⟩,?_⟩;rintro i mm ys H' ⟨rfl,hi,M',zs,x',m',dz,h'⟩;by_cases hlt:i<items.length
 ·right;have hd:items.drop i=items[i]::items.drop (i+1):=ZZ hlt;rw[hd]at h';obtain⟨cd,h'⟩:=h';refine⟨Y.go i H' M' x' m' cd hlt,fun y Hy yl=>?_⟩;obtain⟨xy,my,d,ed,den⟩:=Y.yld i H' M' y Hy x' m' cd yl hlt;have:items[i]=d:=by
   rw[Zq hlt]at ed;exact Z1 ed
  rw[this]at h';cases eu:unp d with
  | none=>rw[eu]at h';exact h'.elim
  | some us =>
   rw[eu]at h';refine hu.to d y us _ Hy _ den eu fun ws dw=>?_;have hk:ws.length=k:=by rw[<- dw.length];exact hu.len d us eu
   refine⟨?_,?_,?_⟩
   ·rw[List.drop_left' (by rw[Zi];exact hk)]
   ·rw[Zd,Zi,Zi,hk]
   ·have xx:=x'.trans xy;have sρ:SimS K Hy (us.map some++ix.map fun i=>(ρ[i]?).getD none) (ws.map some++ix.map fun i=>(σ[i]?).getD none):=(SimS.ofDens dw).append ((s.ext (x1.trans xx)).pick ix);refine⟨_,M',_,sρ,my,h',fun b M3 H3 h3 x3 m3=>?_⟩;cases b with
    | true =>
     refine iteT ⟨_,M3,_,sρ.ext x3,m3,(Zm rfl).mp h3,fun z M4 v H4 ⟨hz,h4⟩ x4 m4 e4=>⟨by rw[<- dz.length];exact hz,_,(show items.length-(i+1)<items.length-i by omega),rfl,hlt,M4,_,(xx.trans x3).trans x4,m4,(dz.ext (xy.trans (x3.trans x4))).append (.cons e4 .nil),h4⟩⟩
    | false=>exact iteF ⟨_,(show items.length-(i+1)<items.length-i by omega),rfl,hlt,M3,zs,xx.trans x3,m3,dz.ext (xy.trans x3),(Zj ZA).mp h3⟩
 ·left;have hd:items.drop i=[]:=Yc (le_of_not_lt hlt);rw[hd]at h';obtain⟨cd,hz,q⟩:=h';exact⟨Y.stop i H' M' x' m' cd (le_of_not_lt hlt),by rw[<- dz.length];exact hz,fun a ha=>kk _ _ _ _ a q (x1.trans x') m' dz ha⟩
section
variable{scope:Scope}{N fn:List Str}{k:Nat}{ix:List Nat}{elt:Expr}{ifs:List Expr}{wi:DTI}{unp:D->Option (List D)}{gV:TG}{tc:DTT}
theorem Q4U(tp:Top X){R0:XC->Hp->Prop}(hx0:zaf X fun cls _ H=>R0 cls H)(hu:Unp X.K k unp gV)(hc:X.calm=true)(ok:zax X.env.scope scope N k fn)(hix:ix.map (fun i=>X.N[i]?)=fn.map some)(hi:DI X tg iter wi)
  (hg:∀ cl C s₀ H₀ ex E,PG (za3 X scope N cl C s₀ H₀ ex E) tg gV) (ht:∀ cl C s₀ H₀ ex E,zaf (za3 X scope N cl C s₀ H₀ ex E) (fun cls _ H=>R0 cls H)->DIfs (za3 X scope N cl C s₀ H₀ ex E) ifs tc) (he:∀ cl C s₀ H₀ ex E,zaf (za3 X scope N cl C s₀ H₀ ex E) (fun cls _ H=>R0 cls H)->DE (za3 X scope N cl C s₀ H₀ ex E) elt te)
  (hs:∀ x,foldedSetIterable iter X.env x=pure x:=by intro _;rfl):DE X (.ListComp elt [⟨tg,iter,ifs,0⟩] scope pos) (zaO wi ix unp tc te) :=
 (Q6w (Q4P tp hx0 hc ok hix hi hg ht he hs)).imp fun σ H Q ⟨ρ,M,R,s,m,h,kk⟩=>Q3Q hu s m h fun zs M' ys H' a q x' m' dz ha =>
  ⟨a,ys,rfl,Q0i,fun o=>by
   rw[Q4r];exact kk _ M' _ _ q (x'.trans (Ext.new ha)) (m'.new ha) (.lst (.inl ⟨o,Q0i⟩) (dz.ext (Ext.new ha)))⟩
theorem Q2s(tp:Top X){R0:XC->Hp->Prop}(hx0:zaf X fun cls _ H=>R0 cls H)(hsw:swapsWith (.ListComp elt [⟨tg,iter,ifs,0⟩] scope pos) (some (.Name x pos')) spos.line X.env=pure true)
  (hN:X.N.Nodup) (hiN:X.N[i]? = some x) (hx:X.env.scope.names.lookup x=some .local) (hu:Unp X.K k unp gV) (hc:X.calm=true) (ok:zax X.env.scope scope N k fn) (hix:ix.map (fun i=>X.N[i]?)=fn.map some) (hi:DI X tg iter wi)
  (hg:∀ cl C s₀ H₀ ex E,PG (za3 X scope N cl C s₀ H₀ ex E) tg gV) (ht:∀ cl C s₀ H₀ ex E,zaf (za3 X scope N cl C s₀ H₀ ex E) (fun cls _ H=>R0 cls H)->DIfs (za3 X scope N cl C s₀ H₀ ex E) ifs tc) (he:∀ cl C s₀ H₀ ex E,zaf (za3 X scope N cl C s₀ H₀ ex E) (fun cls _ H=>R0 cls H)->DE (za3 X scope N cl C s₀ H₀ ex E) elt te)
  (hs:∀ x,foldedSetIterable iter X.env x=pure x:=by intro _;rfl):DS X (.Assign [.Name x pos'] (.ListComp elt [⟨tg,iter,ifs,0⟩] scope pos) spos) (dSet i (zaO wi ix unp tc te)) :=
 by
 have h0:=Q2m (tc:=lT X.K tc) (te:=lE X.K te) tp hx0 hsw hN hiN hx hc ok hix hi hg ht he hs;refine (ps_fz h0).imp fun D σ H ⟨ρ,M,DD,s,m,h,kk⟩=>?_;unfold tFzS tAsg;refine Q3Q hu s m h fun zs M' ys H' a q x' m' dz ha=>?_;refine⟨a,ys,Q0i,fun o=>?_⟩;rw[Q4r];have xa:Ext H (upd H' a (.frz o (.lst ys))):=x'.trans (Ext.new ha);exact kk.nx _ M' _ _ q xa ((s.ext xa).set (d:=.lst zs) (v:=.ref a) (.lst (.inl ⟨o,Q0i⟩) (dz.ext (Ext.new ha))) i) (m'.new ha)
end
noncomputable def dNeg(te:DTE):DTE:=fun ρ M Q=>te ρ M fun x M1=>match x with
 | .int i=>Q (.int (-i)) M1
 | _=>False
theorem Qcb(h:DE X e te):DE X (.UnaryOp .USub e pos) (dNeg te) :=
 (pe_un QbA h).imp fun σ H Q ⟨ρ,M,R,s,m,h,k⟩=>⟨ρ,M,_,s,m,h,fun d M1 v H1 h1 x1 m1 e1=>by
  cases e1 <;> first | exact False.elim h1 | exact⟨_,rfl,k _ M1 _ H1 h1 x1 m1 (.int _)⟩⟩
noncomputable def zc2(t:DTA):DTE:=fun ρ M Q=>t ρ M fun xs M1=>xs.length<=sizeLine/\Q (.lst xs) M1
theorem Qas(h:DA X es tr):DE X (.List es pos) (zc2 tr) :=
 (Q6w (Q9u h)).imp fun σ H Q ⟨ρ,M,R,s,m,h,k⟩=>⟨ρ,M,_,s,m,h,fun ds M1 vs H1 ⟨hl,h1⟩ x1 m1 e1=>⟨by rw[<- e1.length];exact hl,fun p hp=>⟨p,vs,rfl,Q0i,fun o=>by
  rw[Q4r];exact k _ M1 _ _ h1 (x1.trans (Ext.new hp)) (m1.new hp) (.lst (.inl ⟨o,Q0i⟩) (e1.ext (Ext.new hp)))⟩⟩⟩
noncomputable def za6(R:DK):zbj:={ nx:=fun _ M'=>∃ M0,Sub M0 M'/\R .non M0,rt:=fun d M'=>∃ M0,Sub M0 M'/\R d M0,bk:=fun _ _=>False,ct:=fun _ _=>False }
end
section
variable{X:Cx}{a b c e tg:Expr}{es:List Expr}{ta tb te:DTE}{tt tu:DTT}{pos p2:Pos}{K:Frag}
noncomputable def Its(z:List Nat):It:=⟨fun i _=>i<z.length,fun i H x H'=>H'=H/\∃ c,z[i]? = some c/\x=.str (S [c]),fun i _=>z.length<=i⟩
theorem Qcc(z:List Nat):(S z).cps.size=z.length:=by unfold S;simp
theorem S_get(z:List Nat)(i:Nat):(S z).cps[i]? = z[i]?:=by unfold S;simp
theorem Q8F(hty:ty = "str_ascii_iterator" \/ ty = "str_iterator"):Turn P w K tg (Its z) [it] it (fun i h=>h.IsStrIter it ty (S z) t i) where
 mem:=by simp
 obj:=fun i h st b hb=>by
  have e:b=it:=by simpa using hb
  subst e;obtain⟨o,e,c,d⟩:=st;exact⟨o,e,fun v q=>by rw[d]at q;cases q⟩
 keep:=fun i h h' st k=>by
  obtain⟨o,e,r⟩:=st;exact⟨o,k it (by simp) o e,r⟩
 item:=by
  intro X hP hw hK hc i pins s σ H E I hf st hg;subst hP hw;obtain⟨f0,f1,f2,f3,f4,f5⟩:=hf it (by simp)
  have hlt:i<(S z).cps.size:=by rw[Qcc];exact hg
  have fin:∀ v h' tk,SignAt (S z) i v->h'.IsStrIter it ty (S z) t (i+1)->(∀ b o,b∉[it]->s.heap.get? b=some o->h'.get? b=some o)->∃ u,some v=some u /\
    wpAny (model X.prog X.w) X.A (letOwnedTupleGo tg (.ref it) u) (fun _ s2=>∃ x H',Inv X pins σ H' s2/\L2.RelV x u/\(Its z).yld i H x H'/\s2.heap.IsStrIter it ty (S z) t (i+1)/\∀ b∈[it],H' b=none) E { s with heap:=h',toks:=tk }:=by
   rintro v h' tk ⟨c,u,hcu,rfl⟩ st' kk;have I1:Inv X pins σ H { s with heap:=h',toks:=tk }:=I.turned (fun b o hb e=>kk b o (by simpa using hb) e) f0 f1 f3 f4 f5
   obtain⟨o,e,cl,d⟩:=id st';refine⟨_,rfl,go_of (s:={ s with heap:=h',toks:=tk }) (n:=ty) e cl d (by rcases hty with rfl | rfl <;> decide) ⟨.str (S [c]),H,I1,⟨u,rfl⟩,⟨rfl,c,by rw[<- S_get];exact hcu,rfl⟩,st',fun b hb=>(hf b hb).1⟩⟩
  rcases hty with rfl | rfl
  ·exact (Walks.strAscii (prog:=X.prog) (w:=X.w) (I.ok.hd hc) it (S z) t).item i s _ _ hlt st fun v h' tk hv st' kk=>fin v h' tk hv st' kk
  ·exact (Walks.strWide (prog:=X.prog) (w:=X.w) (I.ok.hd hc) it (S z) t).item i s _ _ hlt st fun v h' tk hv st' kk=>fin v h' tk hv st' kk
 done:=by
  intro X hP hw hK hc i pins s σ H E I hf st hg;subst hP hw;obtain⟨f0,f1,f2,f3,f4,f5⟩:=hf it (by simp)
  have hx:(S z).cps[i]? = none:=by rw[S_get];exact List.getElem?_eq_none_iff.mpr hg
  rcases hty with rfl | rfl
  ·exact wpAny_pyNext_ascii_end (I.ok.hd hc) st hx fun h' eb=>⟨rfl,I.turned (t':=s.toks) (fun b o hb e=>eb b o hb e) f0 f1 f3 f4 f5⟩
  ·exact wpAny_pyNext_wide_end (I.ok.hd hc) st hx fun h' eb=>⟨rfl,I.turned (t':=s.toks) (fun b o hb e=>eb b o hb e) f0 f1 f3 f4 f5⟩
 self:=fun _ _ _ _ _ st h=>by
  rcases hty with rfl | rfl
  ·exact wpAny_pyIter_striter_ascii st h
  ·exact wpAny_pyIter_striter_wide st h
theorem Yields.str{Cd:DH->Prop}(hz:cpOk z):Yields K (Its z) (z.map fun c=>D.str [c]) Cd H where
 go:=fun i H' M x m c hi=>by simpa[Its]using hi
 yld:=fun i H' M y H'' x m c ⟨e,ch,h1,h2⟩ hi=>by
  subst e h2;refine⟨Ext.refl _,m,.str [ch],by rw[ZC,h1];rfl,.str [ch] (cpOk.sub hz fun c' hc=>?_)⟩
  rw[Zp.mp hc];exact Z0 h1
 stop:=fun i H' M x m c hi=>by simpa[Its]using hi
noncomputable def diAny(tl:DTE):DTI:=fun ρ M R=>tl ρ M fun d M1=>match d with
 | .tup ds=>R ds (fun _=>True) M1
 | .lst ds=>R ds (fun _=>True) M1
 | .str z=>R (z.map fun c=>D.str [c]) (fun _=>True) M1
 | .ref a=>match M1 a with
  | some (.lst ds)=>R ds (fun M=>M a=some (.lst ds)) M1
  | _=>False
 | _=>False
theorem Q6Q(hl:DE X l tl):DI X tg l (diAny tl):=by
 rintro pins s σ H R I ⟨ρ,M,RD,sm,m,h,k⟩;have q0:tl ρ M (fun d M1=>match d with
  | .tup ds=>RD ds (fun _=>True) M1
  | .lst ds=>RD ds (fun _=>True) M1
  | .str z=>RD (z.map fun c=>D.str [c]) (fun _=>True) M1
  | .ref a=>match M1 a with
   | some (.lst ds)=>RD ds (fun M=>M a=some (.lst ds)) M1
   | _=>False
  | _=>False):=h
 refine thn (hl pins s σ H (fun v H1=>∃ d M1,Ext H H1/\SimM X.K M1 H1/\Den X.K H1 d v/\(match d with
  | .tup ds=>RD ds (fun _=>True) M1
  | .lst ds=>RD ds (fun _=>True) M1
  | .str z=>RD (z.map fun c=>D.str [c]) (fun _=>True) M1
  | .ref a=>match M1 a with
   | some (.lst ds)=>RD ds (fun M=>M a=some (.lst ds)) M1
   | _=>False
  | _=>False)) I ⟨ρ,M,_,sm,m,q0,fun d M1 v H1 h1 x1 m1 e1=>⟨d,M1,x1,m1,e1,h1⟩⟩) fun u s1 ⟨v,H1,I1,r1,d,M1,x1,m1,e1,h1⟩=>?_
 have viaL:∀ {a:Addr} {vs:List V} (_:v=.ref a) (_:SqL X.K H1 a vs) {items:List D} {Cd:DH->Prop},RD items Cd M1->Yields X.K (Itl X.K a) items Cd H1 ->
   wpAny (model X.prog X.w) X.A (pyIter u) (PIE X pins σ tg R) X.xe s1:=fun{a vs} ev hq {items Cd} q Y=>by
  subst ev;cases r1;obtain⟨its,rv,p,hz⟩:=I1.list hq;refine wpAny_pyIter_list p.isList ?_;refine⟨s1.heap.objs.size,[s1.heap.objs.size],_,_,H1,rfl,I1.kept (t':=s1.toks) fun b o e=>Zb _ e,Q6p a _,⟨_,Zs _ rfl,rfl,rfl⟩,fun b hb=>?_,k items Cd M1 H1 _ q x1 m1 Y⟩;have e:b=s1.heap.objs.size:=by simpa using hb
  subst e;exact I1.fpOk (Zz _) (I1.hok.fresh (Zz _))
 cases e1 with
 | tup q0 r =>
  have q:=SqT.of (K:=X.K) q0;cases r1;obtain⟨its,rv,p,hz⟩:=I1.tuple q;refine wpAny_pyIter_tuple (show s1.heap.IsTuple _ its.toArray from p) ?_;refine⟨s1.heap.objs.size,[s1.heap.objs.size],_,_,H1,rfl,I1.kept (t':=s1.toks) fun b o e=>Zb _ e,Q5G _ _,⟨_,Zs _ rfl,rfl,rfl⟩,fun b hb=>?_,k _ _ M1 H1 _ h1 x1 m1 (Yields.tup q r)⟩;have e:b=s1.heap.objs.size:=by simpa using hb
  subst e;exact I1.fpOk (Zz _) (I1.hok.fresh (Zz _))
 | lst q r=>exact viaL rfl q.sq h1 (Yields.fz q r)
 | str z hz =>
  obtain⟨t,rfl⟩:=r1;have go:∀ (ty:String),ty = "str_ascii_iterator" \/ ty = "str_iterator" -> PIE X pins σ tg R (.ref s1.heap.objs.size) { s1 with heap:=s1.heap.push { cls:=.type ty,data:=.fields #[.str (S z) t,.int 0 0] } }:=fun ty hty=>by
   refine⟨s1.heap.objs.size,[s1.heap.objs.size],_,_,H1,rfl,I1.kept (t':=s1.toks) fun b o e=>Zb _ e,Q8F (z:=z) (t:=t) hty,⟨_,Zs _ rfl,rfl,rfl⟩,fun b hb=>?_,k _ _ M1 H1 _ h1 x1 m1 (Yields.str hz)⟩;have e:b=s1.heap.objs.size:=by simpa using hb
   subst e;exact I1.fpOk (Zz _) (I1.hok.fresh (Zz _))
  cases ha:(S z).cps.all (· < 128)
  ·exact wpAny_pyIter_wide ha (go _ (.inr rfl))
  ·exact wpAny_pyIter_ascii ha (go _ (.inl rfl))
 | ref a =>
  cases qa:M1 a with
  | none=>simp only[qa]at h1
  | some o =>
   cases o with
   | oth _=>simp only[qa]at h1
   | lst ds =>
    simp only[qa]at h1;obtain⟨vs,e2,_⟩:=m1.get qa;exact viaL rfl (.of e2) h1 Yields.mut
 | _=>exact h1.elim
noncomputable def zai(l r:Bool)(y x:List Nat):List Nat :=
 let lo:=if l then (x.takeWhile fun c=>y.contains c).length else 0
 let hi:=if r then x.length-((x.drop lo).reverse.takeWhile fun c=>y.contains c).length else x.length
 (x.drop lo).take (hi-lo)
theorem Q6R(l r:Bool)(x y:List Nat):Txt.stripBy (S y).cps.contains l r (S x)=S (zai l r y x):=by
 have hc:(S y).cps.contains=fun c=>y.contains c:=by funext c;unfold S;simp
 rw[stripBy_eq,hc];have e:∀ a b:Str,a.cps.toList=b.cps.toList->a=b:=fun a b h=>by
  cases a;cases b;congr 1;exact Array.ext' h
 refine e _ _ ?_;rw[StrLaws.strSub_toList,Q0o,Q0o];unfold zai stripLo stripHi;rw[Q0o,Q0k]
theorem Q3R{l r:Bool}{y x:List Nat}{c:Nat}(h:c∈zai l r y x):c∈x:=List.mem_of_mem_drop (mem_of_mem_take h)
noncomputable def m1S(C:List Nat->List Nat->Prop)(f:List Nat->List Nat->D):D->List D->DH->DK->Prop:=fun d ds M Q=>match d,ds with
 | .str z,[.str y]=>C z y/\Q (f z y) M
 | _,_=>False
theorem md1S{id:String}{C:List Nat->List Nat->Prop}{f:List Nat->List Nat->D}
  (h:∀ (z y:List Nat) (t u:Tok) (s:Shared) (Q:Value->Shared->Prop) (E:Value->Shared->Prop),cpOk z->cpOk y->C z y->(∀ v u' tk,L2.RelV v u'->(∀ H,Den X.K H (f z y) v)->Q u' { s with toks:=tk })->wpAny (model X.prog X.w) X.A (call (.builtin id) [.str (S z) t,.str (S y) u]) Q E s):MtD X id (m1S C f):=by
 rintro pins s σ H x xs v us Q I rx rv ⟨d,ds,M,R,e,dn,m,q,k⟩;cases e <;> first | exact False.elim q | skip
 rename_i z hz;cases dn with
 | nil=>exact False.elim q
 | cons dy t =>
  cases t with
  | cons _ _=>cases dy <;> exact False.elim q
  | nil =>
   cases dy <;> first | exact False.elim q | skip
   rename_i y hy;have q':C z y/\R (f z y) M:=q;obtain⟨t,rfl⟩:=rx;cases rv with
   | cons r1 r2 =>
    cases r2;obtain⟨u,rfl⟩:=r1;exact h z y t u s _ _ hz hy q'.1 fun v u' tk r den=>⟨v,H,I.tok tk,r,k _ M _ H q'.2 (Ext.refl H) m (den H)⟩
theorem Q4V:MtD X "str.strip" (m1S (fun z _=>z.length<=sizeLine) fun z y=>.str (zai true true y z)):=md1S fun z y t u s Q E hz hy hc h =>
 SC.stripChars (fun t' k=>by
  have e:Txt.stripChars (S z) (S y)=S (zai true true y z):=Q6R true true z y;rw[e];exact h (.str (S (zai true true y z))) _ k ⟨t',rfl⟩ fun H=>.str _ (cpOk.sub hz fun c hc=>Q3R hc)) (by rw[Q0k];exact hc)
theorem Q3S:MtD X "str.rstrip" (m1S (fun z _=>z.length<=sizeLine) fun z y=>.str (zai false true y z)):=md1S fun z y t u s Q E hz hy hc h =>
 SC.rstripChars (fun t' k=>by
  have e:Txt.rstripChars (S z) (S y)=S (zai false true y z):=Q6R false true z y;rw[e];exact h (.str (S (zai false true y z))) _ k ⟨t',rfl⟩ fun H=>.str _ (cpOk.sub hz fun c hc=>Q3R hc)) (by rw[Q0k];exact hc)
theorem Q8G(z y:List Nat):Txt.startswith (S z) (S y)=decide (z.take y.length=y):=by
 unfold Txt.startswith
 rw[StrLaws.subAt_eq,Q0o,Q0o,Q0k,Q0k,drop_zero,Bool.beq_eq_decide_eq];by_cases h:z.take y.length=y
 ·have hl:y.length<=z.length:=by
   have:=congrArg List.length h;rw[ZU]at this;omega
  rw[Ze h];simpa using hl
 ·rw[Zg h,Bool.and_false]
theorem Qcd(z y:List Nat):Txt.endswith (S z) (S y)=decide (y.length<=z.length/\z.drop (z.length-y.length)=y):=by
 unfold Txt.endswith
 rw[StrLaws.subAt_eq,Q0o,Q0o,Q0k,Q0k,Bool.beq_eq_decide_eq];by_cases hl:y.length<=z.length
 ·have e:(z.drop (z.length-y.length)).take y.length=z.drop (z.length-y.length):=ZS (by rw[length_drop];omega)
  rw[e];simp[hl]
 ·simp[hl]
theorem Q3T:MtD X "str.startswith" (m1S (fun _ _=>True) fun z y=>.bl (decide (z.take y.length=y))):=md1S fun z y t u s Q E hz hy hc h =>
 SC.startswith (by rw[Q8G];exact h (.bl _) _ s.toks rfl fun H=>.bl _)
theorem Q6S:MtD X "str.endswith" (m1S (fun _ _=>True) fun z y=>.bl (decide (y.length<=z.length/\z.drop (z.length-y.length)=y))):=md1S fun z y t u s Q E hz hy hc h =>
 SC.endswith (by rw[Qcd];exact h (.bl _) _ s.toks rfl fun H=>.bl _)
noncomputable def mFind:D->List D->DH->DK->Prop:=fun d ds M Q=>match d,ds with
 | .str z,[.str y]=>match y with
  | [c]=>(∀ i:Nat,z[i]? = some c->(∀ j,j<i->¬ z[j]? = some c)->Q (.int i) M)/\(c∉z->Q (.int (-1)) M)
  | _=>False
 | _,_=>False
noncomputable def za4(s:List Nat):List (List Nat)->List Nat
 | []=>[]
 | [w]=>w
 | w::v::r=>w++s++za4 s (v::r)
theorem Q4W(s:List Nat):∀ ws:List (List Nat),Str.join (S s) (ws.map S)=S (za4 s ws)
 | []=>rfl
 | [w]=>rfl
 | w::v::r=>by
  have ih:=Q4W s (v::r);show S w++S s++Str.join (S s) ((v::r).map S)=S (w++s++za4 s (v::r));rw[ih,Q0P,Q0P]
theorem Q0D{s:List Nat}{c:Nat}:∀ {ws:List (List Nat)},c∈za4 s ws->c∈s\/∃ w∈ws,c∈w
 | [],h=>nomatch h
 | [w],h=>.inr ⟨w,Zl,h⟩
 | w::v::r,h=>by
  have h':c∈w++s++za4 s (v::r):=h;rcases Z3.mp h' with h' | h'
  ·rcases Z3.mp h' with h' | h'
   ·exact .inr ⟨w,Zl,h'⟩
   ·exact .inl h'
  ·rcases Q0D h' with q | ⟨x,hx,q⟩
   ·exact .inl q
   ·exact .inr ⟨x,Zo _ hx,q⟩
noncomputable def weight(s:List Nat)(ws:List (List Nat)):Nat:=ws.foldl (fun n w=>n+w.length+s.length) 0
noncomputable def mJoin:D->List D->DH->DK->Prop:=fun d ds M Q=>match d,ds with
 | .str s,[l]=>∃ ws:List (List Nat),zao M l=some (ws.map D.str)/\(∀ xs,l≠.tup xs)/\weight s ws<=16000000/\Q (.str (za4 s ws)) M
 | _,_=>False
theorem Q2t:∀ {ws:List (List Nat)} {vs:List V},Dens K H (ws.map D.str) vs->vs=ws.map (fun w=>V.str (S w))/\∀ w∈ws,cpOk w
 | [],_,.nil=>⟨rfl,fun w h=>nomatch h⟩
 | w::ws,_,.cons (.str _ hw) t=>by
  obtain⟨e,h⟩:=Q2t t;rw[e];exact⟨rfl,fun x hx=>by
   rcases Zx.mp hx with rfl | hx
   ·exact hw
   ·exact h x hx⟩
theorem Q2u:∀ {ws:List (List Nat)} {us:List Value},Vals (ws.map fun w=>V.str (S w)) us->∃ l:List (Str×Tok),strValues l=us/\l.map (·.1)=ws.map S
 | [],_,.nil=>⟨[],rfl,rfl⟩
 | w::ws,_,.cons ⟨t,e⟩ r=>by
  obtain⟨l,e1,e2⟩:=Q2u r;exact⟨(S w,t)::l,by rw[e,<- e1];rfl,by rw[Z8,Z8,e2]⟩
theorem Q3U(h:weight s ws<=16000000):JoinOk (S s) (ws.map S)=true:=by
 unfold JoinOk;have e:∀ (ws:List (List Nat)) (n:Nat),(ws.map S).foldl (fun x1 x2=>x1+x2.length+(S s).length) n=ws.foldl (fun n w=>n+w.length+s.length) n:=by
  intro ws
  induction ws with
  | nil=>intro n;rfl
  | cons w r ih=>intro n;rw[Z8,foldl_cons,foldl_cons,ih,Q0k,Q0k]
 have e2:(ws.map S).toArray.foldl (fun x1 x2=>x1+x2.length+(S s).length) 0=weight s ws:=by
  rw[List.foldl_toArray']
  ·exact e ws 0
  ·simp
 rw[e2];simp[Builtin.Str.tooLong,sizeLine];omega
theorem Q6T:MtD X "str.join" mJoin:=by
 rintro pins s σ H x xs v us Q I rx rv ⟨d,ds,M,R,e,dn,m,q,k⟩;cases e <;> first | exact False.elim q | skip
 rename_i z hz;cases dn with
 | nil=>exact False.elim q
 | cons dl t =>
  cases t with
  | cons _ _=>exact False.elim q
  | nil =>
   rename_i l vl;obtain⟨ws,e1,e2,e3,q⟩:∃ ws:List (List Nat),zao M l=some (ws.map D.str)/\(∀ xs,l≠.tup xs)/\weight z ws<=16000000/\R (.str (za4 z ws)) M:=q;obtain⟨t,rfl⟩:=rx;cases rv with
   | cons r1 r2 =>
    cases r2;have viaL:∀ {p:Addr} {vs:List V},SqL X.K H p vs->Dens X.K H (ws.map D.str) vs->wpAny (model X.prog X.w) X.A (call (.builtin "str.join") [.str (S z) t,.ref p]) (EP X pins σ Q) X.xe s:=by
     intro p vs sq dn;obtain⟨ev,hcp⟩:=Q2t dn;subst ev;obtain⟨its,rv,pl,hzz⟩:=I.list sq;obtain⟨li,el1,el2⟩:=Q2u rv;subst el1;refine SC.join pl.isList el2 (Q3U e3) fun t' tk=>?_;have ej:Txt.join (S z) (ws.map S)=S (za4 z ws):=(StrLaws.glued_eq_join (S z) (ws.map S)).trans (Q4W z ws);rw[ej];exact⟨.str (S (za4 z ws)),H,I.tok tk,⟨t',rfl⟩,k _ M _ H q (Ext.refl H) m (.str _ (Z5.mpr fun c hc=>by
      rcases Q0D hc with hc | ⟨w,hw,hc⟩
      ·exact (Z5.mp hz) c hc
      ·exact (Z5.mp (hcp w hw)) c hc))⟩
    cases dl with
    | tup _ _=>exact absurd rfl (e2 _)
    | lst sq dn=>cases r1;cases e1;exact viaL sq.sq dn
    | ref p =>
     cases qa:M p with
     | none=>simp[zao,qa]at e1
     | some o =>
      cases o with
      | oth _=>simp[zao,qa]at e1
      | lst ds =>
       simp[zao,qa]at e1;subst e1;obtain⟨vs,e5,dn⟩:=m.get qa;cases r1;exact viaL (.of e5) dn
    | _=>simp[zao]at e1
end
section
variable{X:Cx}{a b c e tg:Expr}{es:List Expr}{ta tb te:DTE}{tt tu:DTT}{pos p2:Pos}{K:Frag}
noncomputable def digs(m:Nat):List Nat:=(Nat.toDigits 10 m).map Char.toNat
theorem Q6U(m:Nat):S (digs m)=Str.ofString (toString ((m:Nat):Int)):=by
 have:=PySem.W.KIN.signs_num m;unfold digs;rw[<- this,S_of]
theorem Q1G{m c:Nat}(h:c∈digs m):48<=c/\c<=57:=by
 unfold digs at h;obtain⟨ch,hch,rfl⟩:=mem_map.mp h;have h1:=Nat.isDigit_of_mem_toDigits (by decide) (by decide) hch
 simp only[Char.isDigit,Zc,Zf]at h1;obtain⟨h1,h2⟩:=h1;exact⟨UInt32.le_iff_toNat_le.mp h1,UInt32.le_iff_toNat_le.mp h2⟩
theorem Q3V(m:Nat):cpOk (digs m):=Z5.mpr fun c hc=>by
 have:=Q1G hc;exact Ze (by omega)
theorem Q8H(m:Nat):NumText.digitsVal (digs m)=m:=PySem.W.KIN.val_back m
noncomputable def rStr:List D->DH->DK->Prop:=fun ds M Q=>match ds with
 | [.int i]=>0<=i/\i.natAbs.log2<1920/\Q (.str (digs i.toNat)) M
 | _=>False
theorem Qce:zbt X (.type "str") rStr:=by
 rintro pins s σ H xs us Q I rv ⟨ds,M,R,dn,m,q,k⟩;cases dn with
 | nil=>exact False.elim q
 | cons den t =>
  cases t with
  | cons _ _=>cases den <;> exact False.elim q
  | nil =>
   cases den with
   | int i =>
    obtain⟨h0,h1,q⟩:0<=i/\i.natAbs.log2<1920/\R (.str (digs i.toNat)) M:=q;obtain⟨n,rfl⟩:=Z2 h0;rw[ZO]at q;refine Q3C pins s σ H _ us Q I rv ⟨_,rfl,h1,?_⟩;have e:(V.str (toString ((n:Nat):Int)))=V.str (S (digs n)):=by rw[Q6U]
    rw[e];exact k _ M _ H q (Ext.refl H) m (.str _ (Q3V n))
   | _=>exact False.elim q
noncomputable def rInt:List D->DH->DK->Prop:=fun ds M Q=>match ds with
 | [d]=>match d with
  | .str z=>z≠[]/\(∀ c∈z,48<=c/\c<=57)/\z.length<=640/\Q (.int (NumText.digitsVal z:Nat)) M
  | .int i=>Q (.int i) M
  | .bl b=>Q (.int (if b then 1 else 0)) M
  | _=>False
 | _=>False
theorem Qcf:zbt X (.type "int") rInt:=by
 rintro pins s σ H xs us Q I rv ⟨ds,M,R,dn,m,q,k⟩
 match ds,dn,q with
 | [d],.cons den .nil,q =>
  cases den with
  | int i=>exact Q3B pins s σ H _ us Q I rv (.inl ⟨i,rfl,k _ M _ H q (Ext.refl H) m (.int _)⟩)
  | bl b=>exact Q3B pins s σ H _ us Q I rv (.inr ⟨b,rfl,k _ M _ H q (Ext.refl H) m (.int _)⟩)
  | str z hz =>
   obtain⟨h1,h2,h3,q⟩:z≠[]/\(∀ c∈z,48<=c/\c<=57)/\z.length<=640/\R (.int (NumText.digitsVal z:Nat)) M:=q;cases rv with
   | cons r1 r2 =>
    cases r2;obtain⟨t,rfl⟩:=r1;have e:intText? (S z)=some ((NumText.digitsVal z:Nat):Int):=by
     have:=intText_digits (x:=S z) (by rw[Q0o];exact h2) (by rw[Q0o];exact h1) (by rw[Q0k];omega)
     rw[Q0o]at this;exact this
    exact PySem.W.KIN.call_text e (by rw[Q0k];exact h3) ⟨.int _,H,I.tok _,⟨_,rfl⟩,k _ M _ H q (Ext.refl H) m (.int _)⟩
  | _=>exact False.elim q
noncomputable def rAll(any:Bool):List D->DH->DK->Prop:=fun ds M Q=>match ds with
 | [d]=>∃ bs:List Bool,zao M d=some (bs.map D.bl)/\(∀ xs,d≠.tup xs)/\Q (.bl (if any then bs.any id else bs.all id)) M
 | _=>False
theorem Q5P{H:Hp}{bs:List Bool}:∀ {vs:List V},Dens K H (bs.map D.bl) vs->vs=bs.map V.bl:=by
 induction bs with
 | nil=>intro vs h;cases h;rfl
 | cons b bs ih=>intro vs h;cases h with | cons a t=>cases a;rw[ih t];rfl
theorem Q2X:∀ {bs:List Bool} {us:List Value},Vals (bs.map V.bl) us->us=bs.map Value.bool
 | [],_,.nil=>rfl
 | b::bs,_,.cons e t=>by
  have e':_=Value.bool b:=e;rw[e',Q2X t];rfl
theorem Q6V(bs:List Bool):(List.range bs.length).all (fun i=>bs.getD i false)=bs.all id:=by
 rw[Bool.eq_iff_iff,Z5,Z5];constructor
 ·intro h b hb;obtain⟨i,hi,e⟩:=List.mem_iff_getElem.mp hb;have:=h i (mem_range.mpr hi);rw[getD_eq_getElem?_getD,Zq hi]at this;rw[<- e];exact this
 ·intro h i hi;rw[getD_eq_getElem?_getD,Zq (mem_range.mp hi)];exact h _ (getElem_mem _)
theorem Q6W(bs:List Bool):(List.range bs.length).any (fun i=>bs.getD i false)=bs.any id:=by
 rw[Bool.eq_iff_iff,any_eq_true,any_eq_true];constructor
 ·rintro⟨i,hi,h⟩;have hi':=mem_range.mp hi;rw[getD_eq_getElem?_getD,Zq hi']at h;exact⟨_,getElem_mem hi',h⟩
 ·rintro⟨b,hb,h⟩;obtain⟨i,hi,e⟩:=List.mem_iff_getElem.mp hb;refine⟨i,mem_range.mpr hi,?_⟩;rw[getD_eq_getElem?_getD,Zq hi];show id bs[i]=true;rw[e];exact h
theorem Q2v(bs:List Bool):TruthOf prog w A (fun i v=>((bs.map Value.bool).toArray)[i]? = some v) (fun i=>bs.getD i false):=by
 intro i v s Q E h hq;have h':bs[i]?.map Value.bool=some v:=by simpa using h
 cases e:bs[i]? with
 | none=>rw[e]at h';cases h'
 | some b =>
  rw[e]at h';cases h';have hq':Q (bs.getD i false) s:=hq;rw[getD_eq_getElem?_getD,e]at hq';exact Yb hq'
theorem Qcg(hc:X.calm=true)(any:Bool):zbt X (.builtin (if any then "any" else "all")) (rAll any):=by
 rintro pins s σ H xs us Q I rv ⟨ds,M,R,dn,m,q,k⟩
 match ds,dn,q with
 | [d],.cons den .nil,q =>
  obtain⟨bs,e1,e2,q⟩:∃ bs:List Bool,zao M d=some (bs.map D.bl)/\(∀ xs,d≠.tup xs)/\R (.bl (if any then bs.any id else bs.all id)) M:=q
  cases rv with
  | cons r1 r2 =>
   cases r2;have viaL:∀ {p:Addr} {vs:List V},SqL X.K H p vs->Dens X.K H (bs.map D.bl) vs->wpAny (model X.prog X.w) X.A (call (.builtin (if any then "any" else "all")) [.ref p]) (EP X pins σ Q) X.xe s:=by
    intro p vs sq dn;obtain⟨its,rv,pl,hz⟩:=I.list sq;rw[Q5P dn]at rv;have ei:=Q2X rv;subst ei;have hne:p≠s.heap.objs.size:=by
     obtain⟨o,n,ho,_⟩:=id pl;exact ZD (Zn ho)
    have hh:X.A.in1.handled=none:=I.ok.hd hc;have W:=Walks.list (prog:=X.prog) (w:=X.w) hh s.heap.objs.size p hne (bs.map Value.bool).toArray;have hsz:(bs.map Value.bool).toArray.size=bs.length:=by simp
    have I1:Inv X pins σ H { s with heap:=s.heap.push { cls:=.type "list_iterator",data:=.fields #[.ref p,.int 0 0] } }:=I.kept (t':=s.toks) fun b o e=>Zb _ e;have fin:∀ {it:Obj} (h':Heap) (tk:Nat),(∀ b o,b∉[s.heap.objs.size]->(s.heap.push it).get? b=some o->h'.get? b=some o)->EP X pins σ Q (.bool (if any then bs.any id else bs.all id)) { s with heap:=h',toks:=tk }:=fun{it} h' tk hk=>by
     have I2:Inv X pins σ H { s with heap:=s.heap.push it }:=I.kept (t':=s.toks) fun b o e=>Zb _ e;obtain⟨f0,f1,f2,f3,f4,f5⟩:=I.fpOk (H':=H) (Zz _) (I.hok.fresh (Zz _));exact⟨.bl _,H,I2.turned (t':=tk) (fun b o hb e=>hk b o (by simpa using hb) e) f0 f1 f3 f4 f5,rfl,k _ M _ H q (Ext.refl H) m (.bl _)⟩
    cases any with
    | false =>
     refine call_all_walk (wpAny_pyIter_list pl.isList ?_);refine⟨_,_,_,_,_,_,_,rfl,W,⟨⟨_,Zs _ rfl,rfl,rfl⟩,pl.isList.at fun o e=>Zb _ e⟩,Q2v bs,fun h' tk hk=>?_⟩;rw[hsz,Q6V];exact fin h' tk hk
    | true =>
     refine call_any_walk (wpAny_pyIter_list pl.isList ?_);refine⟨_,_,_,_,_,_,_,rfl,W,⟨⟨_,Zs _ rfl,rfl,rfl⟩,pl.isList.at fun o e=>Zb _ e⟩,Q2v bs,fun h' tk hk=>?_⟩;rw[hsz,Q6W];exact fin h' tk hk
   cases den with
   | tup _ _=>exact absurd rfl (e2 _)
   | lst sq dn=>cases r1;cases e1;exact viaL sq.sq dn
   | ref p =>
    cases qa:M p with
    | none=>simp[zao,qa]at e1
    | some o =>
     cases o with
     | oth _=>simp[zao,qa]at e1
     | lst ds =>
      simp[zao,qa]at e1;subst e1;obtain⟨vs,e5,dn⟩:=m.get qa;cases r1;exact viaL (.of e5) dn
   | _=>simp[zao]at e1
noncomputable def rIn1(f:Bool->Bool):DR2:=fun x y M Q=>match y with
 | .str z=>match x with
  | .str w=>match w with
   | [c]=>Q (.bl (f (decide (c∈z)))) M
   | _=>False
  | _=>False
 | y=>∃ xs,zao M y=some xs/\plain 11 (res M x)=true/\xs.all (plain 11)=true/\Q (.bl (f (xs.any fun d=>eqB d (res M x)))) M
open Classical in
theorem Q9G(I:Inv X pins σ H s)(m:SimM X.K M H)(hu:X.A.units+64<cLine)(hx:plain 11 (res M x)=true)(ex:Den X.K H x vx)(rx:L2.RelV vx ux)
  {xs:List D} {vs:List V} {its:List Value} (hp:xs.all (plain 11)=true) (dn:Dens X.K H xs vs) (rv:Vals vs its) :
  ∃ e:Value->Bool,(∀ y∈its,SeqAt.EqAt X.A.in1 s y ux (e y))/\its.map e=xs.map fun d=>eqB d (res M x):=by
 obtain⟨⟨as,ra⟩,c1,d1⟩:=Q2r I m hx ex rx;refine⟨fun y=>decide (∃ da bs,Reads s.heap y da bs/\PyData.eqv da (toPy (res M x))=true),?_,?_⟩
 ·intro y hy;have:∃ d v,d∈xs/\Den X.K H d v/\L2.RelV v y:=by
   clear hp
   induction xs generalizing vs its with
   | nil=>cases dn;cases rv;cases hy
   | cons d0 xs ih =>
    cases dn with
    | cons a t =>
     cases rv with
     | cons r1 r2 =>
      rcases Zx.mp hy with rfl | hy
      ·exact⟨_,_,Zl,a,r1⟩
      ·obtain⟨d,v,h1,h2⟩:=ih t r2 hy;exact⟨d,v,Zo _ h1,h2⟩
  obtain⟨d,v,hd,den,rr⟩:=this;have pd:plain 11 d=true:=(Z5.mp hp) d hd;obtain⟨bs,rb⟩:=Q0y I 11 d v y pd den rr;obtain⟨c2,d2⟩:=Q0W 11 d v pd den;have h:=SeqAt.eqAt_reads (toPy d) (toPy (res M x)) X.A.in1 s y ux bs as rb ra c2 c1 (by
   have:X.A.in1.units<=X.A.units+1:=by simp[Around.in1]
   have h2:min (toPy d).depth (toPy (res M x)).depth<=11:=Z7 (Nat.min_le_left _ _) d2;omega)
  have e:decide (∃ da bs,Reads s.heap y da bs/\PyData.eqv da (toPy (res M x))=true)=PyData.eqv (toPy d) (toPy (res M x)):=by
   cases hq:PyData.eqv (toPy d) (toPy (res M x)) with
   | true=>exact Ze ⟨_,_,rb,hq⟩
   | false =>
    refine Zg ?_;rintro⟨da,cs,r,he⟩;have:=(Reads.unique rb _ _ r).1;rw[<- this,hq]at he;cases he
  show SeqAt.EqAt X.A.in1 s y ux (decide (∃ da bs,Reads s.heap y da bs/\PyData.eqv da (toPy (res M x))=true));rw[e];exact h
 ·induction xs generalizing vs its with
  | nil=>cases dn;cases rv;rfl
  | cons d xs ih =>
   cases dn with
   | cons a t =>
    cases rv with
    | cons r1 r2 =>
     rw[ZW,Zc]at hp;rw[Z8,Z8,ih hp.2 t r2];congr 1;obtain⟨bs,rb⟩:=Q0y I 11 _ _ _ hp.1 a r1;have be:=bEq _ (res M x) 11 11 hp.1 hx;rw[<- be];cases hq:PyData.eqv (toPy d) (toPy (res M x)) with
     | true=>exact Ze ⟨_,_,rb,hq⟩
     | false =>
      refine Zg ?_;rintro⟨da,cs,r,he⟩;have:=(Reads.unique rb _ _ r).1;rw[<- this,hq]at he;cases he
theorem Q2Y{α β:Type}{f:α->Bool}{g:β->Bool}{xs:List α}{ys:List β}(h:xs.map f=ys.map g):xs.any f=ys.any g:=by
 have e:=congrArg (List.any · id) h;simpa[List.any_map]using e
theorem Q9H{op:CmpOp}{f:Bool->Bool}(hu:X.A.units+64<cLine)
  (hS:∀ {z:List Nat} {c:Nat} {t u:Tok} {s:Shared} {Q:Value->Shared->Prop},Q (.bool (f (decide (c∈z)))) s->wpAny (model X.prog X.w) X.A (compareOp op (.str (S [c]) t) (.str (S z) u)) Q X.xe s)
  (hL:∀ {l:Addr} {items:Array Value} {x:Value} {s:Shared} {Q:Value->Shared->Prop} (e:Value->Bool),s.heap.IsList l items->(∀ y,y∈items->SeqAt.EqAt X.A.in1 s y x (e y))->Q (.bool (f (items.any e))) s->wpAny (model X.prog X.w) X.A (compareOp op x (.ref l)) Q X.xe s)
  (hT:∀ {l:Addr} {items:Array Value} {x:Value} {s:Shared} {Q:Value->Shared->Prop} (e:Value->Bool),s.heap.IsTuple l items->(∀ y,y∈items->SeqAt.EqAt X.A.in1 s y x (e y))->Q (.bool (f (items.any e))) s->wpAny (model X.prog X.w) X.A (compareOp op x (.ref l)) Q X.xe s):OpD X (compareOp op) (rIn1 f):=by
 rintro pins s σ H x y v u Q I rx ry ⟨dx,dy,M,R,ex,ey,m,q,k⟩;by_cases hz:∃ z,dy=.str z
 ·obtain⟨z,rfl⟩:=hz;cases ey;cases ex <;> first | exact False.elim q | skip
  rename_i hz w hw
  match w,hw,q,rx with
  | [c],hw,q,rx =>
   obtain⟨t,rfl⟩:=rx;obtain⟨t',rfl⟩:=ry;exact hS ⟨.bl _,H,I,rfl,k _ M _ H q (Ext.refl H) m (.bl _)⟩
 ·have q':∃ xs,zao M dy=some xs/\plain 11 (res M dx)=true/\xs.all (plain 11)=true/\R (.bl (f (xs.any fun d=>eqB d (res M dx)))) M:=by
   unfold rIn1 at q;split at q
   ·exact absurd ⟨_,rfl⟩ hz
   ·exact q
  obtain⟨xs,e1,h1,h2,q⟩:=q';obtain⟨p,vs,rfl,sq,d,_⟩:=Q9F m ey e1;cases ry;rcases sq with sq | sq
  ·obtain⟨its,rv,pl,hzz⟩:=I.list sq;obtain⟨e,h3,h4⟩:=Q9G I m hu h1 ex rx h2 d rv;refine hL e pl.isList (fun y hy=>h3 y (by simpa using hy)) ⟨.bl _,H,I,rfl,k _ M _ H ?_ (Ext.refl H) m (.bl _)⟩
   rw[show its.toArray.any e=its.any e by simp,Q2Y h4]
   exact q
  ·obtain⟨its,rv,pl,hzz⟩:=I.tuple sq;obtain⟨e,h3,h4⟩:=Q9G I m hu h1 ex rx h2 d rv;refine hT e pl (fun y hy=>h3 y (by simpa using hy)) ⟨.bl _,H,I,rfl,k _ M _ H ?_ (Ext.refl H) m (.bl _)⟩
   rw[show its.toArray.any e=its.any e by simp,Q2Y h4]
   exact q
theorem od_in(hu:X.A.units+64<cLine):OpD X (compareOp .In) (rIn1 id):=by
 refine Q9H hu (fun{z c t u s Q} h=>?_) (fun e h1 h2 h3=>SeqAt.in_listAt e h1 h2 h3) (fun e h1 h2 h3=>SeqAt.in_tupleAt e h1 h2 h3);refine in_str ?_;have:=StrLaws.found_one (S z) c;rw[Q0o]at this;have e:S [c]=⟨#[c]⟩:=rfl;rw[e,this];exact h
theorem Q8I(hu:X.A.units+64<cLine):OpD X (compareOp .NotIn) (rIn1 not):=by
 refine Q9H hu (fun{z c t u s Q} h=>?_) (fun e h1 h2 h3=>SeqAt.notIn_listAt e h1 h2 h3) (fun e h1 h2 h3=>SeqAt.notIn_tupleAt e h1 h2 h3);refine notIn_str ?_;have:=StrLaws.found_one (S z) c;rw[Q0o]at this;have e:S [c]=⟨#[c]⟩:=rfl;rw[e,this];exact h
end
end DL
namespace DL
open PySem PySem.Spec L2
open PyProof.Rows hiding St
open AutoSeq1 (wpAny_loadPart')
theorem Q1t:Slot "reversed" "__init__" "object.__init__" :=
 .of (owner:="object") (n:="__init__") (by rw[typeLookup_type,builtinLookup_eq_fast];kernel_rfl) (by decide +kernel) (by decide +kernel) (by decide +kernel)
  (by first | exact .inl (by decide +kernel) | exact .inr (by decide +kernel)) (by rw[isSubtype_type];kernel_rfl)
theorem Q2w:TypeCalled "reversed" "reversed.__new__" "object.__init__" :=
 ⟨by decide +kernel,by decide +kernel,⟨_,_,F.mro_reversed⟩,F.made_reversed,by decide +kernel,F.sub_reversed_self,Q1t⟩
theorem Q1V:typeLookup (.type "tuple") "__reversed__" = pure none:=by rw[typeLookup_type,builtinLookup_eq_fast];kernel_rfl
noncomputable def rvObj(t:Addr)(i:Int):Obj:={ cls:=.type "reversed",data:=.fields #[.ref t,rawInt i] }
theorem Q1l(t:Addr)(items:Array Value)(n:Nat)(dct:Option Addr)(sl:Array (Option Value))(hz:(items.size:Int)<2 ^ 63) :
  Meets (Builtin.«reversed.__new__» ⟨[.type "reversed",.ref t],[]⟩) (fun _ R s=>s.heap.get? t=some { cls:=.type "tuple",dict:=dct,data:=.seq items n,slots:=sl } /\
   ∀ tk,R (.ok (.ret (.ref s.heap.objs.size))) { s with heap:=s.heap.push (rvObj t ((items.size:Int)-1)),toks:=tk }) :=
 .of_wp fun prog w A R s h=>by
  obtain⟨hl,h⟩:=h;have hT:IsTup s.heap t items:=⟨_,hl,rfl,n,rfl⟩;unfold Builtin.«reversed.__new__»;refine Za (wpAny_of_eq (newClass_reversed _) ?_)
  try dsimp only
  refine Za (wpAny_of_eq (a:=()) (by first | rfl | kernel_rfl) ?_)
  refine Za (wpAny_of_eq (a:=()) (by first | rfl | kernel_rfl) ?_)
  try dsimp only
  refine Za (wpAny_specialOf hT.typeIs Q1V ?_)
  try dsimp only
  have hsub:isSubtype (.type "tuple") (.type "dict")=pure false:=by rw[isSubtype_type];kernel_rfl
  refine Za (Z4 (Q:=fun b s'=>b=true/\s'=s) ?_ (fun b s' hb=>?_) fun _ _ e=>e)
  ·show wpAny _ _ (isInstance (.ref t) (.type "dict") >>= _) _ _ s;refine Za (wpAny_isInstance hT.typeIs hsub ?_);refine Za (wpAny_specialOf hT.typeIs ZI.lookup ?_);exact Zh ⟨rfl,rfl⟩
  ·obtain⟨rfl,rfl⟩:=hb;rw[Zj (by decide)]
   refine Za (len_tuple hT hz ?_);refine Za (wpAny_of_eq (a:=some (items.size:Int)) rfl ?_);show wpAny _ _ (Builtin.SmallTypes.newRecord (Value.type "reversed") [Value.ref t,rawInt ((items.size:Int)-1)] >>= _) _ _ _;refine Za ?_;unfold Builtin.SmallTypes.newRecord;refine ZP ?_;exact Zh ⟨_,rfl,h _⟩
section
variable{prog:Program}{w:World}{A:Around}{E:Value->Shared->Prop}{s:Shared}
theorem Q1m{Q:Value->Shared->Prop}(ht:IsTup s.heap t items)(hz:(items.size:Int)<2 ^ 63)
  (h:∀ tk,Q (.ref s.heap.objs.size) { s with heap:=s.heap.push (rvObj t ((items.size:Int)-1)),toks:=tk }):wpAny (model prog w) A (call (.type "reversed") [.ref t]) Q E s:=by
 obtain⟨⟨c,dct,dt,sl⟩,hl,hc,n,hd⟩:=id ht
 replace hc:c=.type "tuple":=hc
 replace hd:dt=.seq items n:=hd
 subst hc hd;exact callType_new Q2w (by decide) (F.typeCall_reversed_1 _) (F.newCall_reversed_1 _) (fun obj=>F.args_object_init_2 obj _) F.entry_reversed_new
  (Q1l t items n dct sl hz) ⟨hl,fun tk=>⟨⟨_,Zs _ rfl,rfl⟩,h tk⟩⟩
noncomputable def IsRv(h:Heap)(a t:Addr)(i:Int):Prop:=∃ o,h.get? a=some o/\o.cls=.type "reversed" /\ o.data=.fields #[.ref t,rawInt i]
theorem IsRv.typeIs(x:IsRv s.heap a t i):s.TypeIs (.ref a) "reversed":=let ⟨o,ho,hc,_⟩:=x;⟨o,ho,hc⟩
theorem Q3n:Manifest.owners.lookup (String.ofList ['d','e','s','r','e','v','e','r'].reverse)=some Manifest.sig_reversed:=by kernel_rfl
theorem Q0E:Slot "reversed" "__next__" "reversed.__next__" :=
 .of (owner:="reversed") (n:="__next__") (by rw[typeLookup_type,builtinLookup_eq_fast];kernel_rfl) (by decide +kernel) (by decide +kernel) (by decide +kernel)
  (by first | exact .inl (by decide +kernel) | exact .inr (by decide +kernel)) (by rw[isSubtype_type];kernel_rfl)
theorem Q1u:entryFor table "reversed.__next__" = some Builtin.«reversed.__next__»:=entryFor_of_tree (by kernel_rfl)
theorem Q1j(a:Value):argsOk "reversed.__next__" ⟨[a],[]⟩:=by
 unfold argsOk;rw[signature?_of (id:="reversed.__next__") (n:=['_','_','t','x','e','n','_','_']) (o:=['d','e','s','r','e','v','e','r']) (by kernel_rfl) Q3n];kernel_rfl
theorem Q1Q:Slot "reversed" "__iter__" "reversed.__iter__" :=
 .of (owner:="reversed") (n:="__iter__") (by rw[typeLookup_type,builtinLookup_eq_fast];kernel_rfl) (by decide +kernel) (by decide +kernel) (by decide +kernel)
  (by first | exact .inl (by decide +kernel) | exact .inr (by decide +kernel)) (by rw[isSubtype_type];kernel_rfl)
theorem Q2R(a:Value):argsOk "reversed.__iter__" ⟨[a],[]⟩:=by
 unfold argsOk;rw[signature?_of (id:="reversed.__iter__") (n:=['_','_','r','e','t','i','_','_']) (o:=['d','e','s','r','e','v','e','r']) (by kernel_rfl) Q3n];kernel_rfl
theorem Q3o:entryFor table "reversed.__iter__" = some Builtin.«dict_keyiterator.__iter__» :=
 entryFor_alias (id':="dict_keyiterator.__iter__") (by kernel_rfl) (by first | rfl | decide +kernel | (unfold String.splitOn;simp +decide [String.splitOnAux])) (by decide +kernel) (by kernel_rfl)
theorem Q3W{it t:Addr}{i:Nat}{items:Array Value}{x:Value}{Q:Option Value->Shared->Prop}(hit:IsRv s.heap it t (i:Int))(ht:IsTup s.heap t items)(hx:items[i]? = some x)(hz:(items.size:Int)<2 ^ 63)
  (hQ:∀ h' tk,IsRv h' it t ((i:Int)-1)->Heap.SameBut it s.heap h'->Q (some x) { s with heap:=h',toks:=tk }):wpAny (model prog w) A (pyNext (.ref it)) Q E s:=by
 obtain⟨o,ho,hc,hd⟩:=id hit;have hlt:i<items.size:=(Yh.mp hx).1;unfold pyNext;refine Za (wpAny_attempt (wpAny_callSpecial?_slot (name:=Str.ofString "__next__") hit.typeIs Q0E
  (wpAny_call_entry Q0E hit.typeIs Q1u ?_ (Q1j _))))
 unfold Builtin.«reversed.__next__»;refine Za (wpAny_of_eq (a:=(Value.ref it,[])) rfl ?_)
 try dsimp only
 refine Za (ZE ho hd (x:=.ref t) rfl ?_);refine Za (ZE ho hd (x:=rawInt (i:Int)) rfl ?_);show wpAny _ _ (if (i:Int)<0 then _ else _) _ _ s
 rw[Zj (by omega)]
 refine Za (wpAny_specialOf ht.typeIs ZI.lookup ?_);show wpAny _ _ (if false=true then _ else _) _ _ s
 rw[Zj (by decide)]
 refine Za (wpAny_mkInt ?_);refine Za (wpAny_attempt (getItem_tuple (s:={ s with toks:=s.toks+1 }) (j:=i) (x:=x) ht (by omega) (by omega) ?_ hx ?_))
 ·unfold seqIndex?;simp;omega
 show wpAny _ _ (field (.ref it) 1 >>= _) _ _ _;refine Za (ZE (s:={ s with toks:=s.toks+1 }) ho hd (x:=rawInt (i:Int)) rfl ?_);refine Za (wpAny_setField (s:={ s with toks:=s.toks+1 }) ho hd (by simp) ?_)
 refine Zh ⟨x,rfl,Zh (hQ _ _ ?_ (Heap.SameBut.update ..))⟩;exact⟨_,ZJ _ ho (Obj.isFreed_of_fields (Obj.data_mapFields hd _)),(Obj.cls_mapFields ..).trans hc,by
  rw[Obj.data_mapFields hd];simp⟩
theorem Q4D{Q:Option Value->Shared->Prop}(hh:A.handled=none)(hit:IsRv s.heap it t (-1))
  (hQ:∀ h',Heap.ExtBut it s.heap h'->Q none { s with heap:=h' }):wpAny (model prog w) A (pyNext (.ref it)) Q E s:=by
 obtain⟨o,ho,hc,hd⟩:=id hit;unfold pyNext;refine Za (wpAny_attempt (wpAny_callSpecial?_slot (name:=Str.ofString "__next__") hit.typeIs Q0E
  (wpAny_call_entry Q0E hit.typeIs Q1u ?_ (Q1j _))))
 unfold Builtin.«reversed.__next__»;refine Za (wpAny_of_eq (a:=(Value.ref it,[])) rfl ?_)
 try dsimp only
 refine Za (ZE ho hd (x:=.ref t) rfl ?_);refine Za (ZE ho hd (x:=rawInt (-1)) rfl ?_);show wpAny _ _ (if (-1:Int)<0 then _ else _) _ _ s
 rw[Zm (by decide)]
 refine Za (wpAny_rule ?_);refine Za (Z4 (Q:=fun _ s'=>∃ h',s'={ s with heap:=h' }/\Heap.ExtBut it s.heap h') ?_ (fun _ s' hs=>?_) fun _ _ e=>e)
 ·show wpAny _ _ (setField (.ref it) 1 (rawInt (-1)) >>= fun _=>setField (.ref it) 0 .none) _ _ s;refine Za (wpAny_setField ho hd (by simp) ?_)
  have ho':=ZJ (h:=s.heap) _ ho (Obj.isFreed_of_fields (Obj.data_mapFields hd (fun a=>a.set! 1 (rawInt (-1)))));refine wpAny_setField ho' (Obj.data_mapFields hd _) (by simp) ?_
  exact⟨_,rfl,fun b ob hb e=>((Heap.SameBut.update ..).2 b hb).trans (((Heap.SameBut.update ..).2 b hb).trans e)⟩
 ·obtain⟨h',rfl,he⟩:=hs
  first
  | show wpAny _ _ (newExc (.type "StopIteration") [] >>= _) _ _ _
  | (refine Za ?_;show wpAny _ _ (newExc (.type "StopIteration") [] >>= _) _ _ _)
  refine Za ?_;simp only[newExc,newTuple];refine Za (ZP ?_ (by size_fits))
  refine Za (m:=firstArgMember _ _) (wpAny_of_eq (a:=Value.none) (by first | rfl | (simp only[firstArgMember];rfl)) ?_)
  refine ZP ?_ (by size_fits)
  simp only[raiseNew];refine Za (wpAny_handled ?_)
  first | rw[show A.in1.handled=none from hh] | rw[hh]
  refine Za (Zh (wpAny_throw ?_));refine Za (wpAny_isInstance (T:="StopIteration") (b:=true) ⟨_,Zs _ rfl,rfl⟩ isSubtype_stop ?_);exact Zh (hQ _ ((he.push _).push _))
theorem Q6X{Q:Value->Shared->Prop}(hit:IsRv s.heap it t i)(h:Q (.ref it) s):wpAny (model prog w) A (pyIter (.ref it)) Q E s:=by
 refine wpAny_pyIter_slot hit.typeIs Q1Q (wpAny_call_entry Q1Q hit.typeIs Q3o ?_ (Q2R _));show wpAny _ _ (ret (.ref it)) _ _ s;exact Zh ⟨_,rfl,"reversed",_,hit.typeIs,Q0E.lookup,h⟩
end
theorem IsRv.at(x:IsRv h a t i)(e:∀ o,h.get? a=some o->h'.get? a=some o):IsRv h' a t i:=let ⟨o,ho,r⟩:=x;⟨o,e _ ho,r⟩
theorem Q3p(x:IsTup h a items)(e:∀ o,h.get? a=some o->h'.get? a=some o):IsTup h' a items:=let ⟨o,ho,r⟩:=x;⟨o,e _ ho,r⟩
theorem Q8J{prog:Program}{w:World}{A:Around}(hh:A.handled=none)(I t:Addr)(hne:t≠I)(items:Array Value)(hz:(items.size:Int)<2 ^ 63) :
  Walks prog w A I [I,t] [I] items.size (fun i v=>items[items.size-1-i]? = some v) (fun i h=>i<=items.size/\IsRv h I t ((items.size:Int)-1-(i:Int))/\IsTup h t items) where
 sub:=fun b hb=>by simp at hb;simp[hb]
 frame:=fun _ _ _ x hk=>⟨x.1,x.2.1.at fun o e=>hk I (by simp) o e,Q3p x.2.2 fun o e=>hk t (by simp) o e⟩
 item:=fun i s Q E hi x hQ=>by
  have e:(items.size:Int)-1-(i:Int)=((items.size-1-i:Nat):Int):=by omega
  have hit:=x.2.1;rw[e]at hit;have hx:items[items.size-1-i]? = some (items[items.size-1-i]'(by omega)):=Array.getElem?_eq_getElem (by omega)
  refine Q3W hit x.2.2 hx hz fun h' tk hit' hs'=>?_;have e2:((items.size-1-i:Nat):Int)-1=(items.size:Int)-1-((i+1:Nat):Int):=by omega
  rw[e2]at hit';exact hQ _ h' tk hx ⟨hi,hit',Q3p x.2.2 fun o eo=>(hs'.2 t hne).trans eo⟩ fun b o hb eo=>hs'.extBut b o (fun h=>hb (by simp[h])) eo
 done:=fun s Q E x hQ=>by
  have e:(items.size:Int)-1-(items.size:Int) = -1:=by omega
  have hit:=x.2.1;rw[e]at hit;exact Q4D hh hit fun h' he'=>hQ h' s.toks fun b o hb eo=>he' b o (fun h=>hb (by simp[h])) eo
 self:=fun _ _ _ _ x hQ=>Q6X x.2.1 hQ
end DL
namespace DL
open PySem PySem.Spec L2
open PyProof.Rows hiding St
theorem Q8K:typeLookup (.type "reversed") "__len__" = pure none:=by rw[typeLookup_type,builtinLookup_eq_fast];kernel_rfl
theorem Q0X:Slot "reversed" "__length_hint__" "reversed.__length_hint__" :=
 .of (owner:="reversed") (n:="__length_hint__") (by rw[typeLookup_type,builtinLookup_eq_fast];kernel_rfl) (by decide +kernel) (by decide +kernel) (by decide +kernel)
  (by first | exact .inl (by decide +kernel) | exact .inr (by decide +kernel)) (by rw[isSubtype_type];kernel_rfl)
theorem Q3q:entryFor table "reversed.__length_hint__" = some Builtin.«reversed.__length_hint__»:=entryFor_of_tree (by kernel_rfl)
theorem Q2S(a:Value):argsOk "reversed.__length_hint__" ⟨[a],[]⟩:=by
 unfold argsOk;rw[signature?_of (id:="reversed.__length_hint__") (n:=['_','_','t','n','i','h','_','h','t','g','n','e','l','_','_']) (o:=['d','e','s','r','e','v','e','r']) (by kernel_rfl) Q3n];kernel_rfl
section
variable{prog:Program}{w:World}{A:Around}{E:Value->Shared->Prop}{s:Shared}
theorem Qat{Q:Value->Shared->Prop}(hit:IsRv s.heap I t ((items.size:Int)-1))(ht:IsTup s.heap t items)(hz:(items.size:Int)<2 ^ 63)
  (h:∀ u tk,s.toks<=tk->Q (.int (items.size:Int) u) { s with toks:=tk }):wpAny (model prog w) A (call (.builtin "reversed.__length_hint__") [.ref I]) Q E s:=by
 obtain⟨o,ho,hc,hd⟩:=id hit;refine wpAny_call_entry Q0X hit.typeIs Q3q ?_ (Q2S _);unfold Builtin.«reversed.__length_hint__»;refine Za (wpAny_of_eq (a:=Value.ref I) rfl ?_);refine Za (ZE ho hd (x:=.ref t) rfl ?_);show wpAny _ _ (if (Value.ref t==Value.none)=true then _ else _) _ _ s
 rw[Zj (by intro q;cases q)]
 refine Za (len_tuple ht hz ?_);refine Za (wpAny_of_eq (a:=some (items.size:Int)) rfl ?_);show wpAny _ _ (field (.ref I) 1 >>= _) _ _ _;refine Za (ZE (s:={ s with toks:=s.toks+1+1 }) ho hd (x:=rawInt ((items.size:Int)-1)) rfl ?_);show wpAny _ _ (if ((items.size:Nat):Int)<(items.size:Int)-1+1 then _ else _) _ _ _
 rw[Zj (by omega)]
 have e:(items.size:Int)-1+1=items.size:=by omega
 rw[e];exact Za (wpAny_mkInt (Zh ⟨_,rfl,h _ _ (by show s.toks<=s.toks+1+1+1;omega)⟩))
theorem Q5Q{Q:List Value->Shared->Prop}(hh:A.handled=none)(hit:IsRv s.heap I t ((items.size:Int)-1))(ht:IsTup s.heap t items)(hne:t≠I)
  (hQ:∀ s' acc,(∀ b o,b≠I->s.heap.get? b=some o->s'.heap.get? b=some o)->s'.gens=s.gens->s'.drawn=s.drawn->s'.os=s.os->ItemsOf (fun i v=>items[items.size-1-i]? = some v) acc items.size->Q acc.toList s') (hn:items.size<=sizeLine) :
  wpAny (model prog w) A (collect (.ref I)) Q E s:=by
 have hz:(items.size:Int)<2 ^ 63:=by have:=line63;omega
 have W:=(Q8J (prog:=prog) (w:=w) (A:=A.in1) hh I t hne items hz).toS;have hst:0<=items.size/\IsRv s.heap I t ((items.size:Int)-1-((0:Nat):Int))/\IsTup s.heap t items:=⟨zero_le _,by simpa using hit,ht⟩
 have hI:I<s.heap.objs.size:=by obtain⟨o,ho,_⟩:=hit;exact Zn ho
 have htl:t<s.heap.objs.size:=by obtain⟨o,ho,_⟩:=ht;exact Zn ho
 have hSf:s.heap.objs.size∉[I,t]:=by
  intro hm;rcases Zx.mp hm with e | e
  ·exact ne_of_gt hI e
  ·exact ne_of_gt htl (Zp.mp e)
 have hSI:s.heap.objs.size≠I:=ne_of_gt hI;have fin:∀ s' acc,Moved [I] (fun a b=>b=a) s s'->ItemsOf (fun i v=>items[items.size-1-i]? = some v) acc items.size->Q acc.toList s' :=
  fun s' acc hm ha=>hQ s' acc (fun b o hb e=>hm.heap b o (fun h=>hb (Zp.mp h)) e) hm.gens hm.drawn hm.os ha
 unfold collect;refine Za (wpAny_runValue (codeAny_builtin F.entry_proto_collect ?_));rw[Around.under_plainId F.plain_proto_collect _];show wpAny _ A.in1 (newList [] >>= fun l=>again (.builtin "list.__iadd__" ⟨[l,.ref I],[]⟩)) _ _ s;refine Za (ZP ?_);refine Zh ⟨plainId_quiet F.plain_list_iadd _,codeAny_builtin F.entry_list_iadd ?_⟩;rw[Around.under_plainId F.plain_list_iadd _];have hst₁:=W.frame 0 s (s.heap.push { cls:=.type "list",data:=.seq ([]:List Value).toArray }) s.toks hst (Zz _) fun b _ o e=>Zb _ e;have hS₁:(s.heap.push { cls:=.type "list",data:=.seq ([]:List Value).toArray }).get? s.heap.objs.size=some { cls:=.type "list",data:=.seq ([]:List Value).toArray }:=Zs _ rfl;have h1:Builtin.List.listSameRef (.ref s.heap.objs.size) (.ref I)=false:=by simp[Builtin.List.listSameRef,hSI]
 have hT:∀ s₁:Shared,IsRv s₁.heap I t ((items.size:Int)-1-((0:Nat):Int))->s₁.TypeIs (.ref I) "reversed":=fun s₁ x=>IsRv.typeIs x;show wpAny _ A.in1 (Builtin.List.listExtendWith (.ref s.heap.objs.size) (.ref I) (.ref s.heap.objs.size)) _ _ _;unfold Builtin.List.listExtendWith;refine Za (wpAny_typeOf (hT _ hst₁.2.1) ?_);rw[Zj (by rw[h1];decide)]
 refine Za (W.self 0 _ _ _ hst₁ ?_);refine Za (Ye ?_);unfold Builtin.List.listLengthHint;refine Za (wpAny_specialOf (hT _ hst₁.2.1) Q8K ?_);show wpAny _ A.in1 (specialOf (Value.ref I) (Str.ofString "__length_hint__") >>= _) _ _ _;refine Za (wpAny_specialOf (hT _ hst₁.2.1) Q0X.lookup ?_)
 (generalize hid:("reversed.__length_hint__" : String)=id0;(fail_if_success (clear hid id0));wp_delta;rw[show splitId id0=some ("reversed","__length_hint__") from by subst hid;decide +kernel];subst hid)
 refine Za (wpAny_isInstance (b:=true) (hT _ hst₁.2.1) (by rw[isSubtype_type];kernel_rfl) ?_)
 rw[Zj (by decide)]
 refine Z4 (Q:=fun b s'=>∃ tk,s.toks<=tk/\s'={ s with heap:=s.heap.push { cls:=.type "list",data:=.seq ([]:List Value).toArray },toks:=tk }) ?_ (fun b s' hb=>?_) fun _ _ e=>e
 ·rw[Zj (by decide +kernel)]
  show wpAny _ _ (rule "list.length-hint.hint" >>= _) _ _ _;refine Za (wpAny_rule ?_);refine Za (wpAny_of_eq (Q0X.bind _) ?_);have hit₁:IsRv (s.heap.push { cls:=.type "list",data:=.seq ([]:List Value).toArray }) I t ((items.size:Int)-1):=by simpa using hst₁.2.1
  refine Za (wpAny_attempt (Qat (items:=items) hit₁ hst₁.2.2 hz fun u tk htk=>?_));dsimp only;have ea:asInt? (Value.int (items.size:Int) u)=pure (some (items.size:Int)):=rfl;rw[ea,pure_bind];have q1:(!Builtin.List.listFitsIndex (items.size:Int))=false:=by
   unfold Builtin.List.listFitsIndex;rw[Bool.not_eq_false',Zc,Zf,Zf];exact⟨by omega,hz⟩
  have q2:¬ (items.size:Int)<0:=by omega
  have q3:Builtin.List.listTooLong (items.size:Int).toNat=false:=by rw[ZO];exact notLongL hn
  dsimp only;rw[Zj (by rw[q1];exact ZA),Zj q2,Zj (by rw[q3];exact ZA)]
  exact Zh ⟨tk,htk,rfl⟩
 ·obtain⟨tk,htk,rfl⟩:=hb;have hst₂:=W.frame 0 _ _ tk hst₁ htk fun b _ o e=>e;cases b with
  | false =>
   rw[Zj (by decide)]
   refine Zh ⟨plainId_quiet F.plain_extend_loop _,codeAny_extend_loopS W hn _ hSf _ items.size 0 _ _ _ rfl (zero_le _) hst₂ hS₁ (ItemsOf.nil _) fun s' acc' c' hm hS' hacc=>?_⟩;show wpAny _ A (load s.heap.objs.size >>= _) _ _ s';refine Za (wpAny_load hS' ?_);exact Zh (fin s' acc' (Moved.drop_new (o:={ cls:=.type "list",data:=.seq ([]:List Value).toArray }) (tk:=tk) hm htk) hacc)
  | true =>
   show wpAny _ A.in1 (rule "list.extend.makes-room" >>= fun _=>Builtin.List.listTouch (.ref s.heap.objs.size) >>= fun _ =>
    again (.builtin "list.extend.loop" ⟨[.ref s.heap.objs.size,.ref I,.ref s.heap.objs.size],[]⟩)) _ _ _
   refine Za (wpAny_rule ?_);refine Za ?_;show wpAny _ A.in1 (updateSeq s.heap.objs.size (·.push .none) >>= fun _=>updateSeq s.heap.objs.size (·.pop)) _ _ _;refine Za (wpAny_updateSeq hS₁ rfl ?_);have hS₂:=ZJ (Obj.mapSeq (·.push Value.none)) hS₁ rfl;refine wpAny_updateSeq hS₂ rfl ?_;have hS₃:=ZJ (Obj.mapSeq (·.pop)) hS₂ rfl;have oth:∀ b o,b≠s.heap.objs.size->(s.heap.push { cls:=.type "list",data:=.seq ([]:List Value).toArray }).get? b=some o ->
     (((s.heap.push { cls:=.type "list",data:=.seq ([]:List Value).toArray }).update s.heap.objs.size (Obj.mapSeq (·.push Value.none))).update s.heap.objs.size (Obj.mapSeq (·.pop))).get? b=some o :=
    fun b o hb e=>(Yd _ _ (ZV hb)).trans ((Yd _ _ (ZV hb)).trans e)
   refine Zh ⟨plainId_quiet F.plain_extend_loop _,codeAny_extend_loopS W hn _ hSf _ items.size 0 _ _ _ rfl (zero_le _)
    (W.frame 0 ({ s with heap:=s.heap.push { cls:=.type "list",data:=.seq ([]:List Value).toArray },toks:=tk }:Shared) _ tk hst₂ (Zz _) fun b hb o e=>oth b o (fun h=>hSf (h ▸ hb)) e) hS₃ (ItemsOf.nil _) fun s' acc' c' hm hS' hacc=>?_⟩
   show wpAny _ A (load s.heap.objs.size >>= _) _ _ s';refine Za (wpAny_load hS' ?_);refine Zh (fin s' acc' (Moved.drop_new (o:={ cls:=.type "list",data:=.seq ([]:List Value).toArray }) (tk:=tk) (Moved.trans (G:=fun a b=>b=a) (fun _ _ _ h1 h2=>h2.trans h1) ((Moved.refl (G:=fun a b=>b=a) fun _=>rfl).then_heap (by first | exact Zz _ | exact le_succ _ | omega) fun b o hb e=>?_) hm) htk) hacc)
   exact oth b o (fun h=>hb (h ▸ Zl)) e
end
section
variable{prog:Program}{w:World}{A:Around}{E:Value->Shared->Prop}{s:Shared}
theorem Q1H(l:List (Str×Tok)):(strValues l).reverse=strValues l.reverse:=by
 unfold strValues;rw[map_reverse]
theorem Q6Y{items:List Value}{acc:Array Value}(h:ItemsOf (fun i v=>items.toArray[items.toArray.size-1-i]? = some v) acc items.toArray.size):acc.toList=items.reverse:=by
 obtain⟨h1,h2⟩:=h;have h1:acc.size=items.length:=by rw[h1,ZH]
 apply List.ext_getElem?;intro j;by_cases hj:j<items.length
 ·have hj':j<acc.size:=by omega
  have:=h2 j acc[j] (Array.getElem?_eq_getElem hj');rw[Array.getElem?_toList,Array.getElem?_eq_getElem hj',<- this,List.getElem?_reverse (by omega)]
  simp
 ·rw[Array.getElem?_toList,Array.getElem?_eq_none (by omega),List.getElem?_eq_none (by rw[ZB];omega)]
theorem Q5R(x:Str)(l:List (Str×Tok))(hok:Builtin.Str.tooLong ((l.map (·.1)).toArray.foldl (· + ·.length+x.length) 0)=false):Gives (joinTail x (strValues l)) (joinMade x l):=by
 have g0:=gives_joinTail x l hok;cases l with
 | nil=>exact g0
 | cons p r=>cases r with
  | nil=>exact g0
  | cons q r'=>exact g0
theorem Qau{I t:Addr}{x:Str}{tk:Tok}{l:List (Str×Tok)}{Q:Value->Shared->Prop}(hh:A.handled=none)(hit:IsRv s.heap I t (((strValues l).toArray.size:Int)-1))(ht:IsTup s.heap t (strValues l).toArray)(hne:t≠I)(hn:l.length<=sizeLine)
  (hok:JoinOk x (l.reverse.map (·.1))=true)
  (hq:∀ (s':Shared) (t':Tok) (k:Nat),(∀ b o,b≠I->s.heap.get? b=some o->s'.heap.get? b=some o)->s'.gens=s.gens->s'.drawn=s.drawn->s'.os=s.os->Q (.str (Txt.join x (l.reverse.map (·.1))) t') { s' with toks:=k }) :
  wpAny (model prog w) A (call (.builtin "str.join") [.str x tk,.ref I]) Q E s:=by
 have hs:(strValues l).toArray.size=l.length:=by simp[strValues]
 refine wpAny_call (codeAny_call_builtin F.slot_str_join.plain F.entry_str_join (F.slot_str_join.check _ _ _ _ _ _ _ _ (typeIs_str _ _ _) (F.args_str_join_2 _ _) ?_));rw[join_tree_other];refine Za (wpAny_typeOf hit.typeIs ?_);show wpAny _ A.in1 ((pyIter (.ref I)).tryCatch _ >>= fun it=>collect it >>= fun items=>joinTail x items) _ _ s;refine Za (wpAny_tryCatch (Q6X hit ?_));refine Za (Q5Q (A:=A.in1) hh hit ht hne (fun s' acc hk h1 h2 h3 hacc=>?_) (by rw[hs];exact hn))
 rw[Q6Y hacc,Q1H];have hok':=hok;unfold JoinOk at hok';rw[ZG]at hok';exact (Q5R x l.reverse hok') prog w A (wants Q E) s' (post_join l.reverse ⟨joinFit_length hok',fun t' k=>hq s' t' k hk h1 h2 h3⟩)
end
section
variable{X:Cx}{a b c e o tg:Expr}{es:List Expr}{ta tb te to:DTE}{pos p2 p apos cpos:Pos}{K:Frag}
noncomputable def zbo(to te:DTE):DTE:=fun ρ M Q=>to ρ M fun d M1=>match d with
 | .str z=>te ρ M1 fun d2 M2=>match d2 with
  | .tup ds=>∃ ws:List (List Nat),ds=ws.map D.str/\weight z ws.reverse<=16000000/\Q (.str (za4 z ws.reverse)) M2
  | _=>False
 | _=>False
theorem Q8L(hc:X.calm=true)(ho:DE X o to)(he:DE X e te)(hg:Gl X "reversed")(hm:X.mg "reversed" = none)
  (hbase:attributeBase o "join" X.env (eval o X.env)=eval o X.env) (hline:(apos.endLine==cpos.line)=true) (hs:starEach [e] X.env=[(false,eval e X.env)]) :
  DE X (.Call (.Attribute o "join" apos) [.Call (.Name "reversed" p) [e] [] pos] [] cpos) (zbo to te):=by
 rintro pins s σ H Q I ⟨ρ,M,R,sm,m,h,k⟩;refine wpAny_Call_method_late hbase (by rfl) hline rfl (thn (ho pins s σ H (fun v H1=>∃ z M1,v=.str (S z)/\cpOk z/\Ext H H1/\SimM X.K M1 H1/\te ρ M1 fun d2 M2=>match d2 with
  | .tup ds=>∃ ws:List (List Nat),ds=ws.map D.str/\weight z ws.reverse<=16000000/\R (.str (za4 z ws.reverse)) M2
  | _=>False) I ⟨ρ,M,_,sm,m,h,fun d M1 v H1 h1 x1 m1 e1=>by
   cases e1 <;> first | exact False.elim h1 | skip
   rename_i z hz;exact⟨z,M1,rfl,hz,x1,m1,h1⟩⟩) fun v s1 ⟨x,H1,I1,r1,z,M1,ex,hz,x1,m1,q1⟩=>?_)
 subst ex;obtain⟨tk,rfl⟩:=r1;refine⟨"str","str.join",F.plainAttrs_str,F.slot_str_join,F.type_str_join,typeIs_str s1 _ tk,fun a e=>(nomatch e),?_⟩
 refine Calls.callWith_builtin rfl (Calls.evalArgs_plain ?_);show wpAny _ _ (spliced ((false,eval (.Call (.Name "reversed" p) [e] [] pos) X.env)::[])) _ _ s1;refine Calls.spliced_cons ?_;refine ZX (Q2g I1 hg hm (by rfl) ?_ (by decide) (by decide))
 refine PyProof.Rows.callWith_type1 ?_ hs rfl;rw[hs];show wpAny _ _ (spliced ((false,eval e X.env)::[])) _ _ s1;refine Calls.spliced_cons (thn (he pins s1 σ H1 (fun v H2=>∃ d M2,Ext H1 H2/\SimM X.K M2 H2/\Den X.K H2 d v/\(match d with
  | .tup ds=>∃ ws:List (List Nat),ds=ws.map D.str/\weight z ws.reverse<=16000000/\R (.str (za4 z ws.reverse)) M2
  | _=>False)) I1 ⟨ρ,M1,_,sm.ext x1,m1,q1,fun d M2 v H2 h2 x2 m2 e2=>⟨d,M2,x2,m2,e2,h2⟩⟩) fun u s2 ⟨x,H2,I2,r2,d,M2,x2,m2,e2,q2⟩=>?_)
 refine Calls.spliced_nil ?_;cases e2 <;> first | exact False.elim q2 | skip
 rename_i t ds vs sq dn;obtain⟨ws,rfl,hw,q2⟩:∃ ws:List (List Nat),ds=ws.map D.str/\weight z ws.reverse<=16000000/\R (.str (za4 z ws.reverse)) M2:=q2;cases r2;obtain⟨ev,hcp⟩:=Q2t dn;subst ev;obtain⟨its,rv,ht,hzz⟩:=I2.tuple (.of sq);obtain⟨l,el1,el2⟩:=Q2u rv;subst el1;have hlen:l.length=ws.length:=by have:=congrArg List.length el2;simpa using this
 rw[Zi]at hzz;have hsz:(strValues l).toArray.size=l.length:=by simp[strValues]
 have hzi:(((strValues l).toArray.size:Nat):Int)<2 ^ 63:=by have:=line63;rw[hsz];omega
 refine Q1m ht hzi fun tk2=>?_;refine Calls.spliced_nil ?_;have htl:t<s2.heap.objs.size:=by obtain⟨ob,hob,_⟩:=ht;exact Zn hob
 have hne:t≠s2.heap.objs.size:=ZD htl;have erev:l.reverse.map (·.1)=ws.reverse.map S:=by rw[map_reverse,el2,map_reverse]
 refine Qau (s:={ s2 with heap:=s2.heap.push (rvObj t (((strValues l).toArray.size:Int)-1)),toks:=tk2 }) (I2.ok.hd hc) ⟨_,Zs _ rfl,rfl,rfl⟩ (Q3p ht fun o e=>Zb _ e) hne (by rw[hlen];exact hzz) (by rw[erev];exact Q3U hw) fun s' t' tk3 hk h1 h2 h3=>?_
 have ej:Txt.join (S z) (l.reverse.map (·.1))=S (za4 z ws.reverse):=by
  rw[erev];exact (StrLaws.glued_eq_join (S z) _).trans (Q4W z _)
 rw[ej];have I3:Inv X pins σ H2 { s2 with heap:=s2.heap.push (rvObj t (((strValues l).toArray.size:Int)-1)),toks:=tk2 }:=I2.kept fun b o e=>Zb _ e;obtain⟨f0,f1,f2,f3,f4,f5⟩:=I2.fpOk (H':=H2) (Zz _) (I2.hok.fresh (Zz _));have I4:=I3.turned (h':=s'.heap) (t':=tk3) (fun b o hb e=>hk b o hb e) f0 f1 f3 f4 f5;have es:({ s' with toks:=tk3 }:Shared)={ s2 with heap:=s'.heap,toks:=tk3 }:=by
  obtain⟨a1,a2,a3,a4,a5⟩:=s';simp only at h1 h2 h3;subst h1 h2 h3;rfl
 rw[es];exact⟨.str (S (za4 z ws.reverse)),H2,I4,⟨t',rfl⟩,k _ M2 _ H2 q2 (x1.trans x2) m2 (.str _ (Z5.mpr fun c hc=>by
  rcases Q0D hc with hc | ⟨w,hw,hc⟩
  ·exact (Z5.mp hz) c hc
  ·exact (Z5.mp (hcp w (Yg.mp hw))) c hc))⟩
end
noncomputable def za1(c:Nat):List Nat->List (List Nat)
 | []=>[[]]
 | x::r=>if x=c then []::za1 c r else match za1 c r with
  | w::ws=>(x::w)::ws
  | []=>[[x]]
theorem Q1n:∀ {w:List Nat},c∉w->za1 c w=[w]
 | [],_=>rfl
 | x::r,h=>by
  have h1:x≠c:=fun e=>h (by rw[e];exact Zl)
  have h2:c∉r:=fun e=>h (Zo _ e);show (if x=c then _ else _)=_
  rw[Zj h1,Q1n h2]
theorem Q1I:∀ {w:List Nat},c∉w->za1 c (w++c::r)=w::za1 c r
 | [],_=>by
  show (if c=c then _ else _)=_
  rw[Zm rfl]
 | x::w,h=>by
  have h1:x≠c:=fun e=>h (by rw[e];exact Zl)
  have h2:c∉w:=fun e=>h (Zo _ e);show (if x=c then []::za1 c (w++c::r) else match za1 c (w++c::r) with
   | w::ws=>(x::w)::ws
   | []=>[[x]])=_
  rw[Zj h1,Q1I h2]
theorem Q0z:∀ {ws:List (List Nat)},ws≠[]->(∀ w∈ws,c∉w)->za1 c (za4 [c] ws)=ws
 | [],h,_=>absurd rfl h
 | [w],_,h=>Q1n (h w Zl)
 | w::v::r,_,h=>by
  show za1 c (w++[c]++za4 [c] (v::r))=_;rw[Z9,List.singleton_append,Q1I (h w Zl),Q0z (cons_ne_nil _ _) fun x hx=>h x (Zo _ hx)]
theorem Q0G(c:Nat):∀ z:List Nat,za4 [c] (za1 c z)=z/\za1 c z≠[]/\∀ w∈za1 c z,c∉w
 | []=>⟨rfl,by simp[za1],fun w hw=>by
   have:w=[]:=by simpa[za1]using hw
   rw[this];simp⟩
 | x::r=>by
  obtain⟨h1,h2,h3⟩:=Q0G c r;show za4 [c] (if x=c then _ else _)=_/\(if x=c then _ else _)≠_/\∀ w∈(if x=c then _ else _),_
  by_cases hx:x=c
  ·rw[Zm hx];refine⟨?_,cons_ne_nil _ _,fun w hw=>?_⟩
   ·cases e:za1 c r with
    | nil=>exact absurd e h2
    | cons w ws =>
     rw[e]at h1;show []++[c]++za4 [c] (w::ws)=_;rw[h1,hx];rfl
   ·rcases Zx.mp hw with rfl | hw
    ·simp
    ·exact h3 w hw
  ·rw[Zj hx];cases e:za1 c r with
   | nil=>exact absurd e h2
   | cons w ws =>
    rw[e]at h1 h3;refine⟨?_,cons_ne_nil _ _,fun v hv=>?_⟩
    ·cases ws with
     | nil=>show x::w=_;rw[<- h1];rfl
     | cons v vs=>show x::w++[c]++za4 [c] (v::vs)=_;rw[<- h1];rfl
    ·rcases Zx.mp hv with rfl | hv
     ·intro hm;rcases Zx.mp hm with q | q
      ·exact hx q.symm
      ·exact h3 w Zl q
     ·exact h3 v (Zo _ hv)
theorem Qav(z:List Nat)(c:Nat):Txt.split (S z) (S [c])=(za1 c z).map S:=by
 have e:∀ l:List Str,l=(l.map (·.cps.toList)).map S:=fun l=>by
  induction l with
  | nil=>rfl
  | cons a r ih=>rw[Z8,Z8,<- ih];congr 1
 have hj:=StrLaws.join_split (S z) (S [c]);have hf:=StrLaws.split_free (S z) c;have hf':∀ p∈Txt.split (S z) (S [c]),c∉p.cps.toList:=hf;rw[e (Txt.split (S z) (S [c]))]at hj;rw[Q4W]at hj;have hz:za4 [c] ((Txt.split (S z) (S [c])).map (·.cps.toList))=z:=by
  have:=congrArg (fun x:Str=>x.cps.toList) hj;simpa[Q0o]using this
 have hne:(Txt.split (S z) (S [c])).map (·.cps.toList)≠[]:=by
  intro q;have:=split_pos (S z) (S [c]);have q2:=congrArg List.length q;simp at q2;rw[q2]at this;simp at this
 have:=Q0z hne (c:=c) (fun w hw=>by
  obtain⟨p,hp,rfl⟩:=mem_map.mp hw;exact hf' p hp)
 rw[hz]at this;rw[this];exact e _
section
variable{X:Cx}{a b c e tg:Expr}{es:List Expr}{ta tb te:DTE}{tt tu:DTT}{pos p2 p:Pos}{K:Frag}
theorem Q5S{c x:Nat}{z:List Nat}{w:List Nat}(hw:w∈za1 c z)(hx:x∈w):x∈z:=by
 have h:=(Q0G c z).1;rw[<- h];clear h;generalize za1 c z=ws at hw
 induction ws with
 | nil=>cases hw
 | cons v r ih =>
  cases r with
  | nil =>
   have:w=v:=by simpa using hw
   rw[<- this];exact hx
  | cons u r =>
   show x∈v++[c]++za4 [c] (u::r);rcases Zx.mp hw with rfl | hw
   ·exact ZK _ (ZK _ hx)
   ·exact Zy _ (ih hw)
noncomputable def zbl:D->List D->DH->DK->Prop:=fun d ds M Q=>match d,ds with
 | .str z,[.str y]=>match y with
  | [c]=>z.length+2<=sizeLine/\Q (.lst ((za1 c z).map D.str)) M
  | _=>False
 | _,_=>False
theorem Q5T{E:Value->Shared->Prop}{Q:Value->Shared->Prop}(hy:(y.length==0)=false)
  (h:∀ l tk,l.map (·.1)=Txt.split x y->Q (.ref s.heap.objs.size) { s with heap:=s.heap.push { cls:=.type "list",data:=.seq (strValues l).toArray },toks:=tk }) (hsz:x.length+2<=sizeLine) :
  wpAny (model prog w) A (call (.builtin "str.split") [.str x t,.str y u]) Q E s:=by
 have hn:(Builtin.Str.partsBetween x (Builtin.Str.occurrences x y 0 x.length (x.length+1)) y.length).length<=sizeLine:=by
  have e1:=StrLaws.occ_length_le x y 0 x.length (x.length+1);rw[length_partsBetween];omega
 cases h1:(decide (x.length<y.length)||decide (Builtin.Str.strKind x<Builtin.Str.strKind y))
 ·cases hf:(Builtin.Str.occurrences x y 0 x.length (x.length+1)).isEmpty
  ·refine call_meets F.slot_str_split (typeIs_str _ _ _) F.entry_str_split (F.args_str_split_2 _ _) (meets_str_split_sep x y t u h1 hy hf (by omega) hn) ?_
   show wants Q E _ { s with toks:=_,heap:=s.heap.push { cls:=.type "list",data:=.seq (strsFrom s.toks (Builtin.Str.partsBetween x (Builtin.Str.occurrences x y 0 x.length (x.length+1)) y.length)).toArray } };rw[strsFrom_eq];exact h (numbered s.toks _) _ ((numbered_texts _ _).trans ((Zj (ne_true_of_eq_false h1)).trans (Zj (ne_true_of_eq_false hf))).symm)
  ·exact call_meets F.slot_str_split (typeIs_str _ _ _) F.entry_str_split (F.args_str_split_2 _ _) (meets_str_split_not_found x y t u h1 hy hf)
    (h [(x,t)] s.toks ((Zj (ne_true_of_eq_false h1)).trans (Zm hf)).symm)
 ·exact call_meets F.slot_str_split (typeIs_str _ _ _) F.entry_str_split (F.args_str_split_2 _ _) (meets_str_split_cannot_occur x y t u h1) (h [(x,t)] s.toks (Zm h1).symm)
theorem Q1R:∀ {l:List (Str×Tok)} {ws:List (List Nat)},l.map (·.1)=ws.map S->Vals (ws.map fun w=>V.str (S w)) (strValues l)
 | [],[],_=>.nil
 | (x,t)::l,w::ws,e=>by
  have e1:x=S w:=(List.cons.inj e).1;have e2:l.map (·.1)=ws.map S:=(List.cons.inj e).2;exact .cons ⟨t,by rw[e1]⟩ (Q1R e2)
 | [],_::_,e=>nomatch e
 | _::_,[],e=>nomatch e
theorem Q1S:∀ {ws:List (List Nat)},(∀ w∈ws,cpOk w)->Dens K H (ws.map D.str) (ws.map fun w=>V.str (S w))
 | [],_=>.nil
 | w::ws,h=>.cons (.str _ (h w Zl)) (Q1S fun x hx=>h x (Zo _ hx))
theorem Q0M(c:Nat)(z:List Nat):(za1 c z).length<=z.length+1:=by
 induction z with
 | nil=>simp[za1]
 | cons x r ih =>
  show (if x=c then _ else _:List (List Nat)).length<=_
  split
  ·simp;omega
  ·split
   ·rename_i e;rw[e]at ih;simp at ih ⊢;omega
   ·simp
theorem Q4X:MtD X "str.split" zbl:=by
 rintro pins s σ H x xs v us Q I rx rv ⟨d,ds,M,R,e,dn,m,q,k⟩;cases e <;> first | exact False.elim q | skip
 rename_i z hz;cases dn with
 | nil=>exact False.elim q
 | cons dy t =>
  cases t with
  | cons _ _=>cases dy <;> exact False.elim q
  | nil =>
   cases dy <;> first | exact False.elim q | skip
   rename_i y hy
   match y,hy,q,rv with
   | [c],hy,q,rv =>
    have q:z.length+2<=sizeLine/\R (.lst ((za1 c z).map D.str)) M:=q;obtain⟨t,rfl⟩:=rx;cases rv with
    | cons r1 r2 =>
     cases r2;obtain⟨u,rfl⟩:=r1;refine Q5T (by rfl) (fun l tk hl=>?_) (by rw[Q0k];exact q.1)
     rw[Qav]at hl;have hf:H s.heap.objs.size=none:=I.hok.fresh (Zz _);have hz2:(za1 c z).length<=sizeLine:=by have:=Q0M c z;omega
     refine⟨.ref s.heap.objs.size,upd H s.heap.objs.size (.frz { cls:=.type "list",data:=.seq (strValues l).toArray } (.lst ((za1 c z).map fun w=>V.str (S w)))),I.laid (t':=tk) (fun b u e=>Zb _ e) (Zz _) ?_,rfl,?_⟩
     ·exact⟨Zs _ rfl,by rw[Zi];exact hz2,_,0,Q1R hl,Zs _ rfl⟩
     ·exact k _ M _ _ q.2 (Ext.new hf) (m.new hf) (.lst (.inl ⟨_,Q0i⟩) (Q1S fun w hw=>Z5.mpr fun c' hc=>(Z5.mp hz) c' (Q5S hw hc)))
noncomputable def m0S(f:Nat->Nat):D->List D->DH->DK->Prop:=fun d ds M Q=>match d,ds with
 | .str z,[]=>(∀ c∈z,c<128)/\z.length<=5592405/\Q (.str (z.map f)) M
 | _,_=>False
theorem md0S{id:String}{f:Nat->Nat}(hf:∀ c,c<128->f c<1114112)
  (h:∀ (z:List Nat) (t:Tok) (s:Shared) (Q:Value->Shared->Prop) (E:Value->Shared->Prop),(∀ c∈z,c<128)->z.length<=5592405->(∀ t' tk,Q (.str (S (z.map f)) t') { s with toks:=tk })->wpAny (model X.prog X.w) X.A (call (.builtin id) [.str (S z) t]) Q E s):MtD X id (m0S f):=by
 rintro pins s σ H x xs v us Q I rx rv ⟨d,ds,M,R,e,dn,m,q,k⟩;cases e <;> first | exact False.elim q | skip
 rename_i z hz;cases dn with
 | cons _ _=>exact False.elim q
 | nil =>
  cases rv;obtain⟨t,rfl⟩:=rx;have q:(∀ c∈z,c<128)/\z.length<=5592405/\R (.str (z.map f)) M:=q;exact h z t s _ _ q.1 q.2.1 fun t' tk=>⟨.str (S (z.map f)),H,I.tok tk,⟨t',rfl⟩,k _ M _ H q.2.2 (Ext.refl H) m (.str _ (Z5.mpr fun c hc=>by
   obtain⟨b,hb,rfl⟩:=mem_map.mp hc;exact Ze (hf b (q.1 b hb))))⟩
theorem S_map(z:List Nat)(f:Nat->Nat):(⟨(S z).cps.map f⟩:Str)=S (z.map f):=by unfold S;simp
theorem Q4Y:MtD X "str.lower" (m0S lo1):=md0S (fun c hc=>by unfold lo1;split <;> omega) fun z t s Q E h1 h2 h=>SCL.lower (by rw[Q0k];exact h2) fun _=>by
 rw[lower_ascii (by rw[Q0o];exact h1),S_map]
 exact h _ _
theorem Q4Z:MtD X "str.upper" (m0S up1):=md0S (fun c hc=>by unfold up1;split <;> omega) fun z t s Q E h1 h2 h=>SCL.upper (by rw[Q0k];exact h2) fun _=>by
 rw[upper_ascii (by rw[Q0o];exact h1),S_map]
 exact h _ _
noncomputable def Itv(K:Frag)(a:Addr)(n:Nat):It :=
 ⟨fun i H=>∃ xs x,SqL K H a xs/\xs.length=n/\i<n/\xs[n-1-i]? = some x,fun i H x H'=>H'=H/\∀ xs,SqL K H a xs->xs[n-1-i]? = some x,fun i _=>n<=i⟩
theorem Q8M(a it:Addr)(n:Nat):Turn P w K tg (Itv K a n) [it] it (fun i h=>i<=n/\h.IsRevIter it a ((n:Int)-1-(i:Int))) where
 mem:=by simp
 obj:=fun i h st b hb=>by
  have e:b=it:=by simpa using hb
  subst e;obtain⟨_,o,e,c,d⟩:=st;exact⟨o,e,fun v z=>by rw[d]at z;cases z⟩
 keep:=fun i h h' st k=>⟨st.1,st.2.at fun o e=>k it (by simp) o e⟩
 item:=by
  intro X hP hw hK hc i pins s σ H E I hf st hg;subst hP hw hK;obtain⟨xs,x,hq,hn,hi,hx⟩:=hg;obtain⟨its,rv,p,hz⟩:=I.list hq;obtain⟨u,hu,ru⟩:=rv.get hx;obtain⟨f0,f1,f2,f3,f4,f5⟩:=hf it (by simp)
  have e:(n:Int)-1-(i:Int)=((n-1-i:Nat):Int):=by omega
  have hit:=st.2;rw[e]at hit;refine wpAny_pyNext_rev_item hit p.isList (x:=u) (by simpa using hu) fun h' st' sb=>?_
  have e2:((n-1-i:Nat):Int)-1=(n:Int)-1-((i+1:Nat):Int):=by omega
  rw[e2]at st';have I1:Inv X pins σ H { s with heap:=h' }:=I.turned (t':=s.toks) (fun b o hb e=>(sb.2 b hb).trans e) f0 f1 f3 f4 f5;obtain⟨o,e,c,d⟩:=id st';exact⟨u,rfl,go_of (s:={ s with heap:=h' }) e c d (by decide) ⟨x,H,I1,ru,⟨rfl,fun ys hy=>by rw[I.list_inj hy hq];exact hx⟩,⟨hi,st'⟩,fun b hb=>(hf b hb).1⟩⟩
 done:=by
  intro X hP hw hK hc i pins s σ H E I hf st hg;subst hP hw hK;obtain⟨f0,f1,f2,f3,f4,f5⟩:=hf it (by simp)
  have hn:n<=i:=hg;have e:(n:Int)-1-(i:Int) = -1:=by have:=st.1;omega
  have hit:=st.2;rw[e]at hit;exact wpAny_pyNext_rev_end (I.ok.hd hc) hit fun h' eb=>⟨rfl,I.turned (t':=s.toks) (fun b o hb e=>eb b o hb e) f0 f1 f3 f4 f5⟩
 self:=fun _ _ _ _ _ st h=>wpAny_pyIter_revIter st.2 h
theorem Yields.rev{a:Addr}{ds:List D}{vs:List V}{H:Hp}{Cd:DH->Prop}(q:FzL K H a vs)(r:Dens K H ds vs):Yields K (Itv K a vs.length) ds.reverse Cd H where
 go:=fun i H' M x m c hi=>by
  have hi':i<vs.length:=by rw[<- r.length,<- ZB];exact hi
  exact⟨vs,vs[vs.length-1-i],(FzL.ext x q).sq,rfl,hi',Zq (by omega)⟩
 yld:=fun i H' M y H'' x m c ⟨e,h⟩ hi=>by
  subst e;have hi':i<ds.length:=by rw[<- ZB];exact hi
  obtain⟨d,e1,e2⟩:=r.get' (h vs (FzL.ext x q).sq);refine⟨Ext.refl _,m,d,?_,e2.ext x⟩;rw[List.getElem?_reverse hi',r.length];exact e1
 stop:=fun i H' M x m c hi=>by
  rw[<- r.length,<- ZB];exact hi
noncomputable def diRev(te:DTE):DTI:=fun ρ M R=>te ρ M fun d M1=>match d with
 | .lst ds=>R ds.reverse (fun _=>True) M1
 | _=>False
theorem Qch(he:DE X e te)(hg:Gl X "reversed")(hm:X.mg "reversed" = none)(hs:starEach [e] X.env=[(false,eval e X.env)]):DI X tg (.Call (.Name "reversed" p) [e] [] pos) (diRev te):=by
 rintro pins s σ H R I ⟨ρ,M,RD,sm,m,h,k⟩;refine ZX (Q2g I hg hm (by rfl) ?_ (by decide) (by decide))
 refine PyProof.Rows.callWith_type1 ?_ hs rfl;rw[hs];show wpAny _ _ (spliced ((false,eval e X.env)::[])) _ _ s;refine Calls.spliced_cons (thn (he pins s σ H (fun v H2=>∃ d M2,Ext H H2/\SimM X.K M2 H2/\Den X.K H2 d v/\(match d with
  | .lst ds=>RD ds.reverse (fun _=>True) M2
  | _=>False)) I ⟨ρ,M,_,sm,m,h,fun d M2 v H2 h2 x2 m2 e2=>⟨d,M2,x2,m2,e2,h2⟩⟩) fun u s2 ⟨x,H2,I2,r2,d,M2,x2,m2,e2,q2⟩=>?_)
 refine Calls.spliced_nil ?_;cases e2 <;> first | exact False.elim q2 | skip
 rename_i t ds vs sq dn;cases r2;obtain⟨its,rv,p,hzz⟩:=I2.list sq.sq;refine call_reversed_list p.isList ?_;refine wpAny_pyIter_revIter ⟨_,Zs _ rfl,rfl,rfl⟩ ?_;have hlen:its.length=vs.length:=rv.length.symm;have e0:((its.toArray.size:Nat):Int)-1=(vs.length:Int)-1-((0:Nat):Int):=by simp[hlen]
 refine⟨s2.heap.objs.size,[s2.heap.objs.size],_,_,H2,rfl,I2.kept (t':=s2.toks) fun b o e=>Zb _ e,Q8M t _ vs.length,⟨zero_le _,⟨_,Zs _ rfl,rfl,by rw[<- e0];rfl⟩⟩,fun b hb=>?_,k _ _ M2 H2 _ q2 x2 m2 (Yields.rev sq dn)⟩
 have e:b=s2.heap.objs.size:=by simpa using hb
 subst e;exact I2.fpOk (Zz _) (I2.hok.fresh (Zz _))
theorem _root_.L2.PK.imp'(h:PK X kws t)(i:∀ σ H Q,t' σ H Q->t σ H Q):PK X kws t':=fun pos pins s σ H Q I q=>h pos pins s σ H Q I (i σ H Q q)
noncomputable def dCallK(sp:DSp)(g:List D->List D->List D)(t tk:DTA):DTE:=fun ρ M Q=>t ρ M fun ds M1=>tk ρ M1 fun zs M2=>sp (g ds zs) M2 Q
noncomputable abbrev DKw(X:Cx)(kws:List Keyword)(t:DTA):Prop:=PK X kws (lA X.K t)
theorem Qaw:DKw X [] dNil:=QbF.imp' fun σ H Q ⟨ρ,M,R,s,m,h,k⟩=>k [] M [] H h (Ext.refl H) m .nil
theorem Q8N(ha:DE X e te)(hr:DKw X kws tr):DKw X (⟨nm,e,kpos⟩::kws) (zbp te tr) :=
 (Qa2 ha hr).imp' fun σ H Q ⟨ρ,M,R,s,m,h,k⟩=>⟨ρ,M,_,s,m,h,fun d M1 v H1 h1 x1 m1 e1=>⟨ρ,M1,_,s.ext x1,m1,h1,fun ds M2 vs H2 h2 x2 m2 e2=>k _ M2 _ H2 h2 (x1.trans x2) m2 (.cons (e1.ext x2) e2)⟩⟩
noncomputable def dBot:DTS:=fun _ _ _=>False
end
noncomputable abbrev DX:=Nat->DH->Prop
noncomputable abbrev DSpX:=List D->DH->DK->DX->Prop
noncomputable abbrev CN:=Nat->Option Str
noncomputable def zaZ(c:Nat):Option Int:=if c<64 then none else some ((c / 64-1:Nat):Int)
noncomputable def RowIs(c:Nat)(r:Option (Int×Addr))(H:Hp):Prop:=r.map (·.1)=zaZ c/\∀ n d,r=some (n,d)->H d=none
theorem Q8O(h:c<64):RowIs c none H:=⟨(Zm h).symm,fun n d z=>(nomatch z)⟩
theorem Q8P(h:c<64)(q:RowIs c r H):r=none:=by
 have:=q.1;rw[show zaZ c=none from Zm h]at this;cases r with
 | none=>rfl
 | some _=>cases this
noncomputable def AftX(K:Frag)(mg:Str->Option Value)(cn:CN)(H:Hp)(RX:DX)(R0:XC->Hp->Prop):Prop:=∀ c x u r M' H',RX c M'->cn c=some x->mg x=some u->RowIs c r H'->Ext H H'->SimM K M' H'->R0 (u,r) H'
noncomputable def lX(K:Frag)(mg:Str->Option Value)(cn:CN)(RX:DX):XC->Hp->Prop:=fun u H=>∃ c x M,cn c=some x/\mg x=some u.1/\RowIs c u.2 H/\SimM K M H/\RX c M
noncomputable def lSpX(K:Frag)(mg:Str->Option Value)(cn:CN)(sp:DSpX):Sp:=fun vs H Q E=>∃ ds M R RX,Dens K H ds vs/\SimM K M H/\sp ds M R RX/\Aft K H R Q/\AftX K mg cn H RX fun u H'=>E u.1 u.2 H'
section
variable{X:Cx}{a b c e:Expr}{es:List Expr}{te:DTE}{pos p2 p np cpos:Pos}{K:Frag}{cn:CN}
noncomputable def zbq(sp:DSpX)(dds:List D)(xd:DX)(t:DTA):DTE:=fun ρ M Q=>t ρ M fun ds M1=>sp (ds++dds) M1 Q xd
theorem Q8Q(F:FnOk X.prog X.w X.K X.mg X.base (CX1 X.prog X.w) k f fd ps (lSpX X.K X.mg cn sp))(hr:Room k X.A)(hg:Gl X x)(hm:X.mg x=some (.ref f))(hk:keepIn X.K (.ref f)=true)(hb:Binds X.K fd ps ds)(hd:Vals dvs ds)(hdd:∀ H,Dens X.K H dds dvs)
  (hx:zaf X fun cls _ H=>lX X.K X.mg cn xd cls H) (ha:DA X (e::es) t) (hdb:(x==("__debug__" : Str))=false) (he:starEach (e::es) X.env=(false,eval e X.env)::starEach es X.env) (hpl:(backTo pos (starEach es X.env)).any (·.1)=false) :
  DE X (.Call (.Name x p) (e::es) [] pos) (zbq sp dds xd t) :=
 (Q3i F hr hg hm hk hb hd hx ha hdb he hpl).imp fun σ H Q ⟨ρ,M,R,s,m,h,k⟩=>⟨ρ,M,_,s,m,h,fun ds M1 vs H1 h1 x1 m1 e1=>⟨_,M1,R,xd,e1.append (hdd _),m1,h1,k.ext x1,fun c x u r M' H' q1 q2 q3 qr _ q5=>⟨c,x,M',q2,q3,qr,q5,q1⟩⟩⟩
noncomputable def zbI(t:DTA)(R:DH->Prop):DTS:=fun _ ρ M=>t ρ M fun ds M1=>ds.length<=sizeLine/\R M1
theorem Q6Z{C:Addr}{x:Str}{c:Nat}{t:DTA}{xd:DX}(h64:c<64)(hc:X.calm=true)(hg:Gl X x)(hcn:cn c=some x)(hm:X.mg x=some (.ref C))(cl:XCls X.K C)(ha:DA X (e::es) t)(hx:zaf X fun cls _ H=>lX X.K X.mg cn xd cls H)(hdb:(x==("__debug__" : Str))=false)
  (he:starEach (e::es) X.env=(false,eval e X.env)::starEach es X.env) (hpl:(backTo cpos (starEach es X.env)).any (·.1)=false) :
  DS X (.Raise (some (.Call (.Name x np) (e::es) [] cpos)) none pos) (zbI t (xd c)) :=
 (Q8t hc hg hm cl ha hx hdb he hpl).imp fun D σ H ⟨ρ,M,DD,s,m,h,k⟩=>⟨ρ,M,_,s,m,h,fun ds M1 vs H1 ⟨h0,h1⟩ x1 m1 e1=>⟨by rw[<- e1.length];exact h0,c,x,M1,hcn,hm,Q8O h64,m1,h1⟩⟩
noncomputable def setOpt:Option Nat->D->DSt->DSt
 | none,_,ρ=>ρ
 | some i,d,ρ=>ρ.set i (some d)
noncomputable def dTryC(sp:DSpX)(dds:List D)(c:Nat)(tgt:Option Nat)(j:Nat)(l:D)(t:DTA):DTS:=fun DD ρ M=>t ρ M fun ds M1=>sp (ds++dds) M1 (fun d M2=>DD.nx (setOpt tgt d ρ) M2) fun c' M2=>c'=c/\DD.nx (ρ.set j (some l)) M2
end
section
variable{X:Cx}{pos:Pos}
noncomputable def dWhile(c:DTT)(tb:DTS):DTS:=fun DD ρ M=>∃ W:Nat->DSt->DH->Prop,(∃ m,W m ρ M)/\∀ m ρ M,W m ρ M ->
 c ρ M fun b M1=>if b=true then ∃ N:DSt->DH->Prop,(∀ ρ' M',N ρ' M'->∃ m',m'<m/\W m' ρ' M')/\tb { DD with nx:=N,ct:=N,bk:=DD.nx } ρ M1 else DD.nx ρ M1
end
section
variable{X:Cx}{K:Frag}{H:Hp}
noncomputable def zar(M:DH):D->Option (List D)
 | .lst xs=>some xs
 | .ref a=>match M a with
  | some (.lst xs)=>some xs
  | _=>none
 | _=>none
theorem Q9I(m:SimM K M H)(den:Den K H d v)(e:zar M d=some xs):∃ p vs,v=.ref p/\SqL K H p vs/\Dens K H xs vs:=by
 cases den with
 | lst sq d=>cases e;exact⟨_,_,rfl,sq.sq,d⟩
 | ref p =>
  cases qa:M p with
  | none=>simp[zar,qa]at e
  | some o =>
   cases o with
   | oth _=>simp only[zar,qa]at e;cases e
   | lst ds =>
    simp only[zar,qa]at e;cases e;obtain⟨vs,e2,dn⟩:=m.get qa;exact⟨_,_,rfl,.inl (.inl e2),dn⟩
 | _=>cases e
noncomputable def rSorted:List D->DH->DK->Prop:=fun ds M Q=>match ds with
 | [d]=>∃ zs:List (List Nat),zar M d=some (zs.map .str)/\zs.length<64/\∀ zs':List (List Nat),zs'.Perm zs->zs'.Pairwise (fun a b=>a<=b)->∀ p,M p=none->Q (.ref p) (dupd M p (.lst (zs'.map .str)))
 | _=>False
end
section
variable{X:Cx}
noncomputable def zbW:DR2:=fun x y M Q=>match x,y with
 | .str z,.int n=>0<=n/\n<=100/\z.length<=1000/\Q (.str (List.replicate n.toNat z).flatten) M
 | _,_=>False
theorem Q5a(z:List Nat):∀ (n:Nat) (l:List Nat),(List.replicate n z.toArray).foldl (· ++ ·) l.toArray=(l++(List.replicate n z).flatten).toArray
 | 0,l=>by simp
 | n+1,l=>by
  rw[replicate_succ,foldl_cons,List.append_toArray,Q5a z n,replicate_succ,flatten_cons,Z9]
theorem Qax(z:List Nat)(n:Int)(h:0<=n):Txt.mul (S z) n=S (List.replicate n.toNat z).flatten:=by
 unfold Txt.mul;by_cases h1:n<1
 ·rw[Zm h1];have:n.toNat=0:=by omega
  rw[this];rfl
 ·rw[Zj h1];split
  ·rename_i q;rw[or_eq_true,Zt,Zt]at q;rcases q with q | q
   ·subst q;simp
   ·have:z=[]:=List.length_eq_zero_iff.mp q;subst this;have:(List.replicate n.toNat ([]:List Nat)).flatten=[]:=by simp
    rw[this]
  ·have:=Q5a z n.toNat [];rw[nil_append]at this;show Str.mk _=Str.mk _;exact congrArg Str.mk this
theorem Qay:OpD X (binaryOp .Mult) zbW:=by
 rintro pins s σ H x y v u Q I rx ry ⟨dx,dy,M,R,ex,ey,m,q,k⟩;cases ex with
 | str z hz =>
  cases ey <;> first | exact False.elim q | skip
  rename_i n;obtain⟨h0,h1,h2,q⟩:=q;obtain⟨t,rfl⟩:=rx;obtain⟨t',rfl⟩:=ry;have hlen:(S z).length=z.length:=rfl;have hmul:z.length * n.toNat<=1000 * 100:=Nat.mul_le_mul h2 (by omega)
  refine SB.mul (x:=S z) (n:=n) ⟨?_,fun a b=>?_,fun a b=>?_⟩ fun t' k'=>?_
  ·rw[Bool.or_eq_false_iff,Z6,Z6];omega
  ·rw[hlen];have:(1000:Int)<=(2 ^ 63-1) / n:=by
    refine (Int.le_ediv_iff_mul_le (by omega)).mpr ?_
    omega
   omega
  ·rw[hlen];show decide (z.length * n.toNat > sizeLine)=false;rw[Z6,sizeLine_eq];omega
  ·rw[Qax z n h0];refine⟨.str _,H,I.tok _,⟨_,rfl⟩,k _ M _ H q (Ext.refl H) m (.str _ ?_)⟩;rw[Z5]at hz ⊢;intro c hc;obtain⟨w,hw,hcw⟩:=List.mem_flatten.mp hc;exact hz c (by rw[List.eq_of_mem_replicate hw]at hcw;exact hcw)
 | _=>exact False.elim (by cases dy <;> exact q)
end
noncomputable abbrev tupO(dd:Option Addr)(xs:Array Value)(n:Nat)(sl:Array (Option Value)):Obj:={ cls:=.type "tuple",dict:=dd,data:=.seq xs n,slots:=sl }
section
variable{l:Addr}{dd:Option Addr}{xs:Array Value}{n:Nat}{sl:Array (Option Value)}
end
section
variable{X:Cx}
noncomputable def rMulT:DR2:=fun x y M Q=>match x,y with
 | .tup xs,.int n=>(n=1/\Q (.tup xs) M)\/(n=0/\Q (.tup []) M)
 | _,_=>False
end
section
variable{X:Cx}{pos p p2 p3 cpos np:Pos}{cn:CN}{e:Expr}{es:List Expr}
theorem SimS.gone{K:Frag}{H:Hp}:∀ {ds:DSt} {vs:St} (i:Nat),SimS K H ds vs->SimS K H (ds.set i none) (vs.set i none)
 | _,_,_,.nil=>.nil
 | _,_,0,.cons _ t=>.cons trivial t
 | _,_,i+1,.cons q t=>.cons q (SimS.gone i t)
noncomputable def gone(D:zbj)(i:Nat):zbj:=⟨fun ρ M=>D.nx (ρ.set i none) M,D.rt,fun ρ M=>D.bk (ρ.set i none) M,fun ρ M=>D.ct (ρ.set i none) M⟩
theorem Fin.gone{K:Frag}{H:Hp}{DD:zbj}{D:Ends}(a:Fin K H DD D)(i:Nat):Fin K H (gone DD i) (D.gone i) :=
 ⟨fun r M s H2 q x y m=>a.nx _ M _ H2 q x (y.gone i) m,a.rt,fun r M s H2 q x y m=>a.bk _ M _ H2 q x (y.gone i) m,fun r M s H2 q x y m=>a.ct _ M _ H2 q x (y.gone i) m⟩
noncomputable def dIsE(je:Nat)(a:Addr)(b:Bool):DTE:=fun ρ M Q=>dVar je ρ M fun d M1=>d=.ref a/\Q (.bl b) M1
theorem Qci(hp:(a,oe)∈X.pn)(hc:oe.cls=.ref C)(LK:XLook X.K C)(he:DE X (.Name n p2) (dVar je))(hcl:PE X (.Name nm p3) (tC v))(hv:∀ u',RelV v u'->u'=u)
  (hk:kitOne X.K (.ref C) u=some b) (hg:Gl X "isinstance") (hm:X.mg "isinstance" = none):DE X (.Call (.Name "isinstance" p) [.Name n p2,.Name nm p3] [] pos) (dIsE je a b):=by
 have hcall:CallR X (.builtin "isinstance") (fun xs H Q=>xs=[.ref a,v]/\Q (.bl b) H):=by
  rintro pins s σ H xs us Q I rv ⟨e,q⟩;subst e;cases rv with
  | cons r1 rv =>
   cases rv with
   | cons r2 rv =>
    cases rv;cases r1;cases hv _ r2;exact kia_one (Q8v LK) I.kIn ⟨oe,(I.pin (a,oe) (ZK _ hp)).1,hc⟩ hk (fun z=>nomatch z) fun tk=>⟨.bl b,H,I.tok tk,rfl,q⟩
 refine (Q3e hcall hg hm (by rfl) (Q0S he (Q0S hcl Q3E rfl) rfl) (by decide) (by decide) rfl rfl).imp fun σ H Q ⟨ρ,M,R,s,m,h,k⟩=>?_
 refine⟨ρ,M,_,s,m,h,fun d M1 v' H1 h1 x1 m1 e1=>?_⟩;obtain⟨rfl,h1⟩:=h1;cases e1;exact⟨rfl,k _ M1 _ H1 h1 x1 m1 (.bl b)⟩
noncomputable def dTryA(sp:DSpX)(dds:List D)(je:Nat)(okc:Nat->Prop)(th:Nat->Addr->DTS)(t:DTA):DTS:=fun DD ρ M=>t ρ M fun ds M1=>sp (ds++dds) M1 (fun d M2=>DD.nx ρ M2) fun c M2=>okc c/\∀ a,th c a (gone DD je) (ρ.set je (some (.ref a))) M2
end
section
variable{X:Cx}
noncomputable def flat:D->Bool
 | .non=>true
 | .bl _=>true
 | .int _=>true
 | .str _=>true
 | _=>false
noncomputable def alike:D->D->Bool
 | .bl _,.int _=>false
 | .int _,.bl _=>false
 | _,_=>true
noncomputable def zc5:List D->List D->Bool
 | x::xs,y::ys=>alike x y&&zc5 xs ys
 | _,_=>true
noncomputable def rEqT:DR2:=fun x y M Q=>match x,y with
 | .tup xs,.tup ys=>xs.all flat=true/\ys.all flat=true/\zc5 xs ys=true/\Q (.bl (eqB (.tup xs) (.tup ys))) M
 | _,_=>False
end
section
variable{X:Cx}{e:Expr}{es:List Expr}{pos p np cpos:Pos}{cn:CN}
theorem Qaz{okc:Nat->Prop}{th:Nat->Addr->DTS}(tp:Top X)
  (F:FnOk X.prog X.w X.K X.mg X.base (CX1 X.prog X.w) k f fd ps (lSpX X.K X.mg cn sp)) (hr:Room k X.A) (hgf:Gl X fx) (hmf:X.mg fx=some (.ref f)) (hk:keepIn X.K (.ref f)=true) (hb:Binds X.K fd ps ds) (hd:Vals dvs ds) (hdd:∀ H,Dens X.K H dds dvs)
  (ha:∀ pins E,DA (X.holds pins E) (e::es) t) (hdf:(fx==("__debug__" : Str))=false)
  (he:starEach (e::es) X.env=(false,eval e X.env)::starEach es X.env) (hpl:(backTo cpos (starEach es X.env)).any (·.1)=false) (hN:X.N.Nodup) (hi:X.N[je]? = some n) (hl:X.env.scope.names.lookup n=some .local)
  (hcl:∀ c x,cn c=some x->∃ C,X.mg x=some (.ref C)) (hok:∀ c x C,okc c->cn c=some x->X.mg x=some (.ref C)->∃ st q,Pick X n C (h0::hs) st q)
  (hh:∀ c x C a oe qs st q,okc c->cn c=some x->X.mg x=some (.ref C)->Pick X n C (h0::hs) st q->oe.cls=.ref C->(∃ vs,oe.data=.fields vs)->(∀ n,zaZ c=some n->∃ d od,oe.dict=some d/\(d,od)∈qs/\Rowd od n)->DSs (L2.handlingAs X a oe qs) st (th c a)) :
  DS X (.Try [.Expr (.Call (.Name fx p) (e::es) [] cpos) spos] (h0::hs) [] [] pos) (dTryA sp dds je okc th t):=by
 have P:=Qab (X:=X) (pos:=pos) (h0:=h0) (hs:=hs) (body:=[.Expr (.Call (.Name fx p) (e::es) [] cpos) spos]) (tb:=fun R=>tDrop (zbV (lSpX X.K X.mg cn sp) dvs R (lA X.K t)))
  (ok:=fun C=>∃ c x,cn c=some x/\X.mg x=some (.ref C)/\okc c) (th:=fun C dx a D σ H=>∃ c x,cn c=some x/\X.mg x=some (.ref C)/\okc c/\dx.map (·.1)=zaZ c/\lS X.K (th c a) D σ H) tp hN hi hl
  (fun C ⟨c,x,h1,h2,h3⟩=>hok c x C h3 h1 h2)
  (fun pins E R tk _=>Q6m (Q6n (X:=X.holds pins E) (Q3i (X:=X.holds pins E) F hr hgf hmf hk hb hd tk (ha pins E) hdf he hpl) rfl))
  (fun C dx a oe qs st q _ pk ho hv hdx pins s σ H D I ⟨c,x,h1,h2,h3,h4,h5⟩=>hh c x C a oe qs st q h3 h1 h2 pk ho hv (fun n e=>by
   rw[<- h4]at e;obtain⟨⟨m,d⟩,e1,e2⟩:=Option.map_eq_some_iff.mp e;cases e2;obtain⟨q1,od,q2,q3⟩:=hdx _ _ e1;exact⟨d,od,q1,q2,q3⟩) pins s σ H D I h5)
 exact P.imp fun D σ H ⟨ρ,M,DD,s,m,h,k⟩=>⟨ρ,M,_,s,m,h,fun ds M1 vs H1 h1 x1 m1 e1=>⟨_,M1,_,_,e1.append (hdd _),m1,h1,(fun d M2 v H2 q x2 m2 e2=>k.nx _ M2 _ H2 q (x1.trans x2) (s.ext (x1.trans x2)) m2),fun c' x' u r M2 H2 q hc' hu hr x2 m2=>by
  obtain⟨C,hC⟩:=hcl c' x' hc';rw[hC]at hu;cases hu;exact⟨C,r,rfl,⟨c',x',hc',hC,q.1⟩,hr.2,fun a=>⟨c',x',hc',hC,q.1,hr.1,ρ.set je (some (.ref a)),M2,gone DD je,(s.ext (x1.trans x2)).set (.ref a) je,m2,q.2 a,(k.ext (x1.trans x2)).gone je⟩⟩⟩⟩
noncomputable def dPar3(i j k:Nat)(t:DTA):DTS:=fun DD ρ M=>t ρ M fun ds M1=>∃ a b c,ds=[a,b,c]/\DD.nx (((ρ.set i (some a)).set j (some b)).set k (some c)) M1
theorem QaA{kt k2 pt2}(hc:X.calm=true)(hN:X.N.Nodup)(hi:X.N[i]? = some x)(hj:X.N[j]? = some y)(hk:X.N[k]? = some z)(hij:i≠j)(hik:i≠k)(hjk:j≠k)
  (hx:X.env.scope.names.lookup x=some .local) (hy:X.env.scope.names.lookup y=some .local) (hz:X.env.scope.names.lookup z=some .local) (ha:DA X [a,b,c] t)
  (hw:swappedStores [.Tuple [.Name x px,.Name y py,.Name z pz] kt pt] (.Tuple [a,b,c] k2 pt2) X.env=pure (some [x,y,z]))
  (hs:swapsWithSole [.Tuple [.Name x px,.Name y py,.Name z pz] kt pt] (.Tuple [a,b,c] k2 pt2) pos.line X.env=pure false) :
  DS X (.Assign [.Tuple [.Name x px,.Name y py,.Name z pz] kt pt] (.Tuple [a,b,c] k2 pt2) pos) (dPar3 i j k t) :=
 (Qa8 hc hN hi hj hk hij hik hjk hx hy hz ha hw hs).imp fun D σ H ⟨ρ,M,DD,s,m,h,kk⟩=>⟨ρ,M,_,s,m,h,fun ds M1 vs H1 h1 x1 m1 e1=>by
  obtain⟨da,db,dc,rfl,h1⟩:=h1;cases e1 with
  | cons q r =>
   cases r with
   | cons q2 r2 =>
    cases r2 with
    | cons q3 r3 =>
     cases r3;exact⟨_,_,_,rfl,kk.nx _ M1 _ H1 h1 x1 ((((s.ext x1).set q i).set q2 j).set q3 k) m1⟩⟩
end
section
variable{α:Type}
noncomputable def valD(kvs:List (List (List Nat)×D))(k:List (List Nat)):Option D:=(kvs.find? fun kv=>decide (kv.1=k)).map (·.2)
noncomputable def putD(kvs:List (List (List Nat)×D))(k:List (List Nat))(v:D):List (List (List Nat)×D) :=
 if (kvs.any fun kv=>decide (kv.1=k))=true then kvs.map (fun kv=>if kv.1=k then (kv.1,v) else kv) else kvs++[(k,v)]
theorem Q0B(e:p.1=k):valD (p::r) k=some p.2:=by simp[valD,find?_cons,e]
theorem Q0C(e:¬ p.1=k):valD (p::r) k=valD r k:=by simp[valD,find?_cons,e]
theorem Q2a(k:List (List Nat)):∀ kvs:List (List (List Nat)×D),(kvs.any fun kv=>decide (kv.1=k))=(valD kvs k).isSome
 | []=>rfl
 | p::r=>by
  rw[any_cons];by_cases e:p.1=k
  ·simp only[Q0B e,Ze e,Bool.true_or,Option.isSome_some]
  ·rw[Q0C e,Zg e,Bool.false_or];exact Q2a k r
theorem Q5b(k j:List (List Nat))(y:D):∀ kvs:List (List (List Nat)×D),valD (kvs.map fun kv=>if kv.1=k then (kv.1,y) else kv) j=(valD kvs j).map fun x=>if j=k then y else x
 | []=>rfl
 | p::r=>by
  have ih:=Q5b k j y r;rw[Z8];by_cases h:p.1=k
  ·rw[Zm h];by_cases e:p.1=j
   ·rw[Q0B (p:=(p.1,y)) e,Q0B e,Option.map_some,Zm (e.symm.trans h)]
   ·rw[Q0C (p:=(p.1,y)) e,Q0C e,ih]
  ·rw[Zj h];by_cases e:p.1=j
   ·rw[Q0B (p:=p) e,Q0B e,Option.map_some,Zj (fun z=>h (e.trans z))]
   ·rw[Q0C (p:=p) e,Q0C e,ih]
theorem Q3X(k j:List (List Nat))(y:D):∀ kvs:List (List (List Nat)×D),valD kvs k=none->valD (kvs++[(k,y)]) j=if j=k then some y else valD kvs j
 | [],_=>by
  by_cases e:k=j
  ·rw[Zm e.symm];exact Q0B (p:=(k,y)) e
  ·rw[Zj (fun z=>e z.symm)];exact Q0C (p:=(k,y)) e
 | p::r,hn=>by
  rw[cons_append];have hk:¬ p.1=k:=fun z=>by rw[Q0B z]at hn;cases hn
  rw[Q0C hk]at hn;have ih:=Q3X k j y r hn;by_cases e:p.1=j
  ·rw[Q0B e,Q0B e,Zj (fun z=>hk (e.trans z))]
  ·rw[Q0C e,Q0C e,ih]
theorem Q1v(kvs:List (List (List Nat)×D))(k j:List (List Nat))(y:D):valD (putD kvs k y) j=if j=k then some y else valD kvs j:=by
 unfold putD;by_cases a:(kvs.any fun kv=>decide (kv.1=k))=true
 ·rw[Zm a,Q5b];rw[Q2a]at a;by_cases e:j=k
  ·obtain⟨x,hx⟩:=Yk.mp a;rw[Zm e,e,hx,Option.map_some,Zm rfl]
  ·rw[Zj e];cases valD kvs j with
   | none=>rfl
   | some x=>rw[Option.map_some,Zj e]
 ·rw[Zj a];refine Q3X k j y kvs ?_;rw[Q2a]at a;cases q:valD kvs k with
  | none=>rfl
  | some x=>rw[q]at a;exact (a rfl).elim
theorem Q2x(kvs:List (List (List Nat)×D))(k:List (List Nat))(v:D):(putD kvs k v).length<=kvs.length+1:=by
 unfold putD;split
 ·rw[Zi];omega
 ·rw[Zd,Zk,Zu];omega
end
theorem Q7a:∀ {a b:List (List Nat)},nk a=nk b->a=b
 | [],[],_=>rfl
 | [],_::_,e=>by simp[nk]at e
 | _::_,[],e=>by simp[nk]at e
 | x::xs,y::ys,e=>by
  have e':(Sum.inr (S x):Key)::nk xs=Sum.inr (S y)::nk ys:=e;injection e' with e1 e2;injection e1 with e1;rw[S_inj e1,Q7a e2]
section
variable{K:Frag}{H:Hp}
theorem KDs.val(r:KDs K H kvs vs)(k:List (List Nat)) :
  (valD kvs k=none/\valV vs (nk k)=none)\/∃ d v,valD kvs k=some d/\valV vs (nk k)=some v/\Den K H d v:=by
 induction r with
 | nil=>exact .inl ⟨rfl,rfl⟩
 | @cons p q ps qs h t ih =>
  by_cases e:p.1=k
  ·exact .inr ⟨p.2,q.2,Q0B e,Q1r (by rw[h.1,e]),h.2⟩
  ·rw[Q0C e,Q1s (by rw[h.1];exact fun z=>e (Q7a z))];exact ih
theorem KDs.put(r:KDs K H kvs vs)(k:List (List Nat))(den:Den K H d v):KDs K H (putD kvs k d) (putK vs (nk k) v):=by
 have an:(kvs.any fun kv=>decide (kv.1=k))=vs.any fun kv=>decide (kv.1=nk k):=by
  rw[Q2a,Q1Y];rcases r.val k with ⟨a,b⟩ | ⟨x,y,a,b,_⟩ <;> rw[a,b] <;> rfl
 unfold putD putK;rw[an];by_cases e:(vs.any fun kv=>decide (kv.1=nk k))=true
 ·rw[Zm e,Zm e];clear an e
  induction r with
  | nil=>exact .nil
  | @cons p q ps qs h t ih =>
   rw[Z8,Z8];refine .cons ?_ ih;by_cases e:p.1=k
   ·rw[Zm e,Zm (by rw[h.1,e])];exact⟨h.1,den⟩
   ·rw[Zj e,Zj (by rw[h.1];exact fun z=>e (Q7a z))];exact h
 ·rw[Zj e,Zj e];exact Paired.snoc r ⟨rfl,den⟩
theorem KDs.length(r:KDs K H kvs vs):kvs.length=vs.length:=Paired.length r
noncomputable def zbY(f:Str)(v:D):List (Str×D)->List (Str×D)
 | []=>[(f,v)]
 | (g,x)::r=>if g=f then (g,v)::r else (g,x)::zbY f v r
theorem FDs.lookup(r:FDs K H fs vs)(e:fs.lookup f=some d):∃ v,vs.lookup f=some v/\Den K H d v:=by
 induction r with
 | nil=>cases e
 | @cons p q ps qs h t ih =>
  obtain⟨p1,p2⟩:=p;obtain⟨q1,q2⟩:=q;obtain⟨h1,h2⟩:=h;cases h1;rw[ZQ]at e ⊢;cases c:f==p1 with
  | true=>rw[c]at e;cases e;exact⟨q2,rfl,h2⟩
  | false=>rw[c]at e;exact ih e
theorem FDs.no(r:FDs K H fs vs)(e:fs.lookup f=none):vs.lookup f=none:=by
 induction r with
 | nil=>rfl
 | @cons p q ps qs h t ih =>
  obtain⟨p1,p2⟩:=p;obtain⟨q1,q2⟩:=q;obtain⟨h1,h2⟩:=h;cases h1;rw[ZQ]at e ⊢;cases c:f==p1 with
  | true=>rw[c]at e;cases e
  | false=>rw[c]at e;exact ih e
theorem FDs.put(r:FDs K H fs vs)(f:Str)(den:Den K H d v):FDs K H (zbY f d fs) (putF f v vs):=by
 induction r with
 | nil=>exact .cons ⟨rfl,den⟩ .nil
 | @cons p q ps qs h t ih =>
  obtain⟨p1,p2⟩:=p;obtain⟨q1,q2⟩:=q;obtain⟨h1,h2⟩:=h;cases h1;show FDs K H (if p1=f then (p1,d)::ps else (p1,p2)::zbY f d ps) (if p1=f then (p1,v)::qs else (p1,q2)::putF f v qs)
  by_cases e:p1=f
  ·rw[Zm e,Zm e];exact .cons ⟨rfl,den⟩ t
  ·rw[Zj e,Zj e];exact .cons ⟨rfl,h2⟩ ih
theorem FDs.length(r:FDs K H fs vs):fs.length=vs.length:=Paired.length r
end
theorem SimM.dct{K:Frag}{H:Hp}{M:DH}(h:SimM K M H){a:Addr}{kvs:List (List (List Nat)×D)}(e:M a=some (.oth (.dct kvs))):∃ vs,H a=some (.dT vs)/\KDs K H kvs vs:=h a _ e
theorem SimM.ins{K:Frag}{H:Hp}{M:DH}(h:SimM K M H){a:Addr}{c:Str}{fs:List (Str×D)}(e:M a=some (.oth (.ins c fs))):∃ C dx vs,nsIn K mainGlobals c=some (some (.ref C))/\H a=some (.ins C dx vs)/\FDs K H fs vs:=h a _ e
section
variable{X:Cx}{e o value a b k:Expr}{es:List Expr}{pos pos' apos cpos p:Pos}{te tv tk td:DTE}{t:DTA}
noncomputable def dFld(c f:Str)(te:DTE):DTE:=fun ρ M Q=>te ρ M fun x M1=>∃ a fs d,x=.ref a/\M1 a=some (.oth (.ins c fs))/\fs.lookup f=some d/\Q d M1
noncomputable def dSetF(c f:Str)(to tv:DTE):DTS:=fun DD ρ M=>tv ρ M fun y M1=>to ρ M1 fun x M2=>∃ a fs,x=.ref a/\M2 a=some (.oth (.ins c fs))/\fs.length<1000/\DD.nx ρ (dupd M2 a (.oth (.ins c (zbY f y fs))))
noncomputable def dMeth(c m:Str)(sp:DSp)(to:DTE)(t:DTA):DTE:=fun ρ M Q=>to ρ M fun x M1=>∃ a fs,x=.ref a/\M1 a=some (.oth (.ins c fs))/\fs.lookup m=none/\t ρ M1 fun ds M2=>sp (.ref a::ds) M2 Q
noncomputable def dMake(c:Str)(sp:DSp)(t:DTA):DTE:=fun ρ M Q=>t ρ M fun ds M1=>∀ x,M1 x=none->sp (.ref x::ds) (dupd M1 x (.oth (.ins c []))) fun d M2=>d=.non/\Q (.ref x) M2
noncomputable def dDNew:DTE:=fun _ M Q=>∀ q,M q=none->Q (.ref q) (dupd M q (.oth (.dct [])))
noncomputable def dDisp1(tk tv:DTE):DTE:=fun ρ M Q=>∀ q,M q=none->tk ρ (dupd M q (.oth (.dct []))) fun x M1=>tv ρ M1 fun y M2=>∃ n:List (List Nat),x=.tup (n.map .str)/\M2 q=some (.oth (.dct []))/\Q (.ref q) (dupd M2 q (.oth (.dct [(n,y)])))
noncomputable def rInD(f:Bool->Bool):DR2:=fun x y M Q=>∃ (n:List (List Nat)) (a:Addr) (kvs:List (List (List Nat)×D)),x=.tup (n.map .str)/\y=.ref a/\M a=some (.oth (.dct kvs))/\Q (.bl (f (valD kvs n).isSome)) M
noncomputable def rDIx:DR2:=fun x y M Q=>∃ (n:List (List Nat)) (a:Addr) (kvs:List (List (List Nat)×D)) (d:D),y=.tup (n.map .str)/\x=.ref a/\M a=some (.oth (.dct kvs))/\valD kvs n=some d/\Q d M
noncomputable def dDGet2(td tk tx:DTE):DTE:=fun ρ M Q=>td ρ M fun x M1=>∃ (a:Addr) (kvs0:List (List (List Nat)×D)),x=.ref a/\M1 a=some (.oth (.dct kvs0))/\tk ρ M1 fun y M2=>tx ρ M2 fun z M3=>∃ (n:List (List Nat)) (kvs:List (List (List Nat)×D)),y=.tup (n.map .str)/\M3 a=some (.oth (.dct kvs))/\Q ((valD kvs n).getD z) M3
noncomputable def dDSetd(td tk tx:DTE):DTE:=fun ρ M Q=>td ρ M fun x M1=>∃ (a:Addr) (kvs0:List (List (List Nat)×D)),x=.ref a/\M1 a=some (.oth (.dct kvs0))/\tk ρ M1 fun y M2=>tx ρ M2 fun z M3=>∃ (n:List (List Nat)) (kvs:List (List (List Nat)×D)),y=.tup (n.map .str)/\M3 a=some (.oth (.dct kvs))/\kvs.length<sizeLine /\
 (∀ d,valD kvs n=some d->Q d M3)/\(valD kvs n=none->Q z (dupd M3 a (.oth (.dct (putD kvs n z)))))
noncomputable def dDPut(td tk tv:DTE):DTS:=fun DD ρ M=>tv ρ M fun v M1=>td ρ M1 fun x M2=>tk ρ M2 fun y M3=>∃ (a:Addr) (n:List (List Nat)) (kvs:List (List (List Nat)×D)),x=.ref a/\y=.tup (n.map .str)/\M3 a=some (.oth (.dct kvs))/\kvs.length<sizeLine/\DD.nx ρ (dupd M3 a (.oth (.dct (putD kvs n v))))
end
section
variable{X:Cx}
noncomputable def rAddL:DR2:=fun x y M Q=>∃ xs ys,zar M x=some xs/\zar M y=some ys/\xs.length+ys.length<=sizeLine/\∀ p,M p=none->Q (.ref p) (dupd M p (.lst (xs++ys)))
theorem QaB:OpD X (binaryOp .Add) rAddL:=by
 rintro pins s σ H x y v u Q I rx ry ⟨dx,dy,M,R,ex,ey,m,⟨xs,ys,e1,e2,hz,q⟩,k⟩;obtain⟨a,vs,rfl,sq,d1⟩:=Q9I m ex e1;obtain⟨b,ws,rfl,sq2,d2⟩:=Q9I m ey e2;cases rx;cases ry;obtain⟨its,r1,pl1,_⟩:=I.list sq;obtain⟨its2,r2,pl2,_⟩:=I.list sq2;have l1:=d1.length;have l2:=d2.length;have l3:=r1.length;have l4:=r2.length;obtain⟨⟨cls,dd,data,sl⟩,ho,hc,n,hd⟩:=pl1.isList;obtain⟨⟨cls2,dd2,data2,sl2⟩,ho2,hc2,n2,hd2⟩:=pl2.isList;simp only at hc hd hc2 hd2;subst hc hd hc2 hd2;have e:its.toArray++its2.toArray=(its++its2).toArray:=by simp
 refine concat_meets ⟨_,ho,rfl⟩ ⟨_,ho2,rfl⟩ noFill_list_add seq_list_add PySem.F.slot_list_add PySem.F.entry_list_add (PySem.F.args_list_add_2 _ _) (list_addW a b its.toArray its2.toArray n n2 dd dd2 sl sl2 (by simp only[ZH];rw[<- l3,<- l4,<- l1,<- l2];exact hz)) ⟨ho,ho2,?_⟩
 rw[e];exact⟨.ref _,_,I.lnew (t':=s.toks) (r1.append r2) (by rw[Zd,<- l1,<- l2];exact hz),rfl,k _ _ _ _ (q _ (m.free I.fresh)) (Ext.new I.fresh) (m.newL I.fresh (d1.append d2)) (.ref _)⟩
noncomputable def rMin1:List D->DH->DK->Prop:=fun ds M Q=>match ds with
 | [d]=>∃ ns:List Int,zar M d=some (ns.map .int)/\0<ns.length/\∀ z:Int,z∈ns->(∀ a∈ns,z<=a)->Q (.int z) M
 | _=>False
end
section
variable{X:Cx}
noncomputable def rInB:DR2:=fun x y M Q=>∃ (b:Bool) (bs:List Bool),x=.bl b/\zar M y=some (bs.map .bl)/\Q (.bl (bs.any fun c=>c==b)) M
noncomputable def subR(a:Addr)(ds:List D):D->D
 | .ref b=>if b=a then .lst ds else .ref b
 | d=>d
noncomputable def subT(a:Addr)(ds:List D):D->D
 | .tup xs=>.tup (xs.map (subR a ds))
 | d=>d
noncomputable def rNeR:DR2:=fun x y M Q=>(∃ (a:Addr) (ds:List D),M a=some (.lst ds)/\plain 12 (subT a ds x)=true/\plain 12 y=true/\Q (.bl (!eqB (subT a ds x) y)) M)\/(plain 12 x=true/\plain 12 y=true/\Q (.bl (!eqB x y)) M)
theorem Den.subR{K:Frag}{H H':Hp}{a:Addr}{ds:List D}(x:Ext H H')(den:Den K H' (.lst ds) (.ref a)){d:D}{v:V}(h:Den K H d v):Den K H' (subR a ds d) v:=by
 by_cases hr:∃ b,d=.ref b
 ·obtain⟨b,rfl⟩:=hr;cases h;show Den K H' (if b=a then .lst ds else .ref b) (.ref b)
  by_cases e:b=a
  ·rw[Zm e,e];exact den
  ·rw[Zj e];exact .ref b
 ·have e2:DL.subR a ds d=d:=by cases d <;> first | rfl | exact absurd ⟨_,rfl⟩ hr
  rw[e2];exact h.ext x
theorem Dens.subR{K:Frag}{H H':Hp}{a:Addr}{ds:List D}(x:Ext H H')(den:Den K H' (.lst ds) (.ref a)):∀ {xs:List D} {vs:List V},Dens K H xs vs->Dens K H' (xs.map (DL.subR a ds)) vs
 | [],_,.nil=>.nil
 | _::_,_,.cons h r=>.cons (Den.subR x den h) (Dens.subR x den r)
theorem Den.subT{K:Frag}{H H':Hp}{a:Addr}{ds:List D}(x:Ext H H')(den:Den K H' (.lst ds) (.ref a)){d:D}{v:V}(h:Den K H d v):Den K H' (subT a ds d) v:=by
 cases h with
 | tup e r=>exact .tup (x.tup _ _ e) (Dens.subR x den r)
 | non=>exact .non
 | bl b=>exact .bl b
 | int i=>exact .int i
 | str y hy=>exact .str y hy
 | ref b=>exact .ref b
 | lst f r=>exact (Den.lst f r).ext x
noncomputable def mClear:D->List D->DH->DK->Prop:=fun d ds M Q=>∃ (a:Addr) (xs:List D),d=.ref a/\ds=[]/\M a=some (.lst xs)/\Q .non (dupd M a (.lst []))
end
end DL
namespace L2
open PySem PySem.Spec PyProof.Rows
end L2
namespace DL
open PySem PySem.Spec L2
open PyProof.Rows hiding St
section
variable{X:Cx}
noncomputable def dFmt(te:DTE):DTE:=fun ρ M Q=>te ρ M fun d M1=>match d with
 | .str z=>z.length<=sizeLine/\Q (.str z) M1
 | .int i=>0<=i/\i.natAbs.log2<1920/\Q (.str (digs i.toNat)) M1
 | _=>False
theorem Qcj(he:DE X e te):DE X (.FormattedValue e (-1) none pos) (dFmt te):=by
 rintro pins s σ H Q I ⟨ρ,M,R,ss,m,h,k⟩;refine FormattedValue_plain (thn (he pins s σ H (fun v H'=>∃ d M1,(match d with
   | .str z=>z.length<=sizeLine/\R (.str z) M1
   | .int i=>0<=i/\i.natAbs.log2<1920/\R (.str (digs i.toNat)) M1
   | _=>False)/\Ext H H'/\SimM X.K M1 H'/\Den X.K H' d v) I ⟨ρ,M,_,ss,m,h,fun d M1 v H1 h1 x1 m1 e1=>⟨d,M1,h1,x1,m1,e1⟩⟩) fun u s' ⟨v,H',I',r,d,M1,q,x,m',den⟩=>?_)
 cases den with
 | str z hz =>
  obtain⟨t,rfl⟩:=r;exact formatField_str (fun t' tk=>⟨.str (S z),H',I'.tok tk,⟨t',rfl⟩,k _ _ _ _ q.2 x m' (.str z hz)⟩) (by rw[Q0k];exact q.1)
 | int i =>
  obtain⟨t,rfl⟩:=r;obtain⟨h0,h1,q⟩:=q;obtain⟨n,rfl⟩:=Z2 h0;rw[ZO]at q;have e:toString ((n:Nat):Int)=S (digs n):=by rw[Q6U]
  exact formatField_int_small h1 ⟨.str (toString ((n:Nat):Int)),H',I'.tok _,⟨_,rfl⟩,by rw[e];exact k _ _ _ _ q x m' (.str _ (Q3V n))⟩
 | _=>exact q.elim
noncomputable def zb7:List DTE->List Nat->DTE
 | [],out=>fun _ M Q=>Q (.str out) M
 | t::r,out=>fun ρ M Q=>t ρ M fun d M1=>∃ y,d=.str y/\(out++y).length<=sizeLine/\zb7 r (out++y) ρ M1 Q
inductive DJs(X:Cx):List Expr->List DTE->Prop
 | nil:DJs X [] []
 | cons {e:Expr} {t:DTE} {es:List Expr} {ts:List DTE}:DE X e t->DJs X es ts->DJs X (e::es) (t::ts)
theorem QaC(hs:DJs X es ts):∀ (out:List Nat) (pins:List (Addr×Obj)) (s:Shared) (σ:St) (H:Hp) (Q:VK) (ρ:DSt) (M:DH) (R:DK),out.length<=sizeLine->(out.all fun c=>decide (c<1114112))=true->Inv X pins σ H s ->
  SimS X.K H ρ σ->SimM X.K M H->zb7 ts out ρ M R->Aft X.K H R Q->wpAny (model X.prog X.w) X.A (joinParts (S out) (evalEach es X.env)) (EP X pins σ Q) X.xe s:=by
 induction hs with
 | nil =>
  intro out pins s σ H Q ρ M R hl ha I ss m h k;exact joinParts_nil ⟨.str (S out),H,I.tok _,⟨_,rfl⟩,k _ _ _ _ h (Ext.refl H) m (.str out ha)⟩ (by rw[Q0k];exact hl)
 | cons he hr ih =>
  rename_i e t es ts;intro out pins s σ H Q ρ M R hl ha I ss m h k;show wpAny _ _ (joinParts (S out) (eval e X.env::evalEach es X.env)) _ _ _;refine joinParts_cons (thn (he pins s σ H (fun v H'=>∃ d M1,(∃ y,d=.str y/\(out++y).length<=sizeLine/\zb7 ts (out++y) ρ M1 R)/\Ext H H'/\SimM X.K M1 H'/\Den X.K H' d v) I ⟨ρ,M,_,ss,m,h,fun d M1 v H1 h1 x1 m1 e1=>⟨d,M1,h1,x1,m1,e1⟩⟩) fun u s' zz=>?_);obtain⟨v,H',I',r,d,M1,⟨y,e0,hy,q⟩,x,m',den⟩:=zz;subst e0;cases den with
  | str _ hz =>
   obtain⟨tk,rfl⟩:=r;refine⟨by rw[Q0P,Q0k];exact hy,?_⟩
   rw[Q0P];exact ih (out++y) pins s' σ H' Q ρ M1 R hy (by rw[List.all_append,ha,hz];rfl) I' (ss.ext x) m' q (k.ext x)
theorem QaD(hs:DJs X (e1::e2::es) ts):DE X (.JoinedStr (e1::e2::es) pos) (zb7 ts []):=by
 rintro pins s σ H Q I ⟨ρ,M,R,ss,m,h,k⟩;exact JoinedStr_many (QaC hs [] pins s σ H Q ρ M R (zero_le _) rfl I ss m h k)
end
section
variable{X:Cx}
noncomputable def tFrow(i:Nat):TE:=fun σ H Q=>∃ m:Nat,σ[i]? = some (some (.int m))/\(m:Int).natAbs.log2<1920/\(digs m).length<=600/\∀ z,Q (.str z) H
theorem QaE(hN:X.N[i]? = some r)(hv:Vis X.env.scope r)(hd:(r==("__debug__" : Str))=false)(hcd:(r==("__classdict__" : Str))=false)(hc:z=S zc)(hz:zc.length<=100) :
  PE X (.JoinedStr [.Constant (.str z) k0 cp,.FormattedValue (.Name r np) (-1) none fp] jp) (tFrow i):=by
 rintro pins s σ H Q I ⟨m,hm,hb,hl,hq⟩;subst hc;have ez:(Str.empty++S zc)=S zc:=Q0P [] zc;refine JoinedStr_many (joinParts_cons (Calls.Constant_str ⟨by rw[ez,Q0k,sizeLine_eq];omega,?_⟩))
 rw[ez];refine joinParts_cons (FormattedValue_plain (thn (Q1N hN hv hd hcd pins _ σ H (fun v H'=>v=.int m/\H'=H) (I.tok _) ⟨_,hm,rfl,rfl⟩) fun u s' ⟨v,H',I',rv,e1,e2⟩=>?_));subst e1 e2;obtain⟨t,rfl⟩:=rv;have e:toString ((m:Nat):Int)=S (digs m):=by rw[Q6U]
 have hl2:(S zc++S (digs m)).length<=sizeLine:=by rw[Q0P,Q0k,Zd,sizeLine_eq];omega
 refine formatField_int_small hb (show _/\_ from⟨by rw[e];exact hl2,joinParts_nil ⟨.str _,H',I'.tok _,⟨_,rfl⟩,hq _⟩ (by rw[e];exact hl2)⟩)
end
noncomputable def zbG(wn:Str)(k0:Nat)(a1 a2 a3 a4 a5 a6 a7 a8 a9 b1 b2 b3 b4:Pos):List Stmt :=
 [.Expr (.Call (.Attribute (.Name wn a1) "__init__" a2) [.Name "self" a3,.JoinedStr [.Constant (.str "row ") k0 a4,.FormattedValue (.Name "row" a5) (-1) none a6] a7] [] a8) a9,
  .Assign [.Attribute (.Name "self" b1) "row" b2] (.Name "row" b3) b4]
noncomputable def spInit(K:Frag)(f:Addr):Sp:=fun vs H Q _=>∃ (C e:Addr) (m:Nat),RowC K C f/\vs=[.ref e,.int m]/\(m:Int).natAbs.log2<1920/\(digs m).length<=600/\H e=some (excH C e none) /\
 ∀ d od,H d=none->e<d->Rowd od m->Q .non (upd (upd H e (excH C e (some d))) d (objH d od))
noncomputable def tInit(C:Addr):TS:=tSeq (tWinit C (zbM (tVar 0) (zbM (tFrow 1) tNil))) (tSeq (zbS C 0 1) tNext)
theorem Q3Y(R:RowC X.K C f)(hN:X.N=(["self","row"]:List Str))(l1:Vis X.env.scope "self")(l2:Vis X.env.scope "row")(l3:Gl X wn)
  (hln:(a2.endLine==a8.line)=true) (hdb:(wn==("__debug__" : Str))=false) (hm:X.mg wn=some (.ref W)) (wi:WInit X.K W):PSs X (zbG wn k0 a1 a2 a3 a4 a5 a6 a7 a8 a9 b1 b2 b3 b4) (tInit C):=by
 have n0:X.N[0]? = some ("self" : Str):=by rw[hN];rfl
 have n1:X.N[1]? = some ("row" : Str):=by rw[hN];rfl
 have ha:PA X [.Name "self" a3,.JoinedStr [.Constant (.str "row ") k0 a4,.FormattedValue (.Name "row" a5) (-1) none a6] a7] (zbM (tVar 0) (zbM (tFrow 1) tNil)) :=
  Q0S (Q1N n0 l1 (by decide) (by decide)) (Q0S (QaE (zc:=[114,111,119,32]) n1 l2 (by decide) (by decide) (by rfl) (by decide)) Q3E)
 have ht:∀ env:Env,eval (.Call (.Attribute (.Name wn a1) "__init__" a2) [.Name "self" a3,.JoinedStr [.Constant (.str "row ") k0 a4,.FormattedValue (.Name "row" a5) (-1) none a6] a7] [] a8) env=(do
   let ov <- eval (.Name wn a1) env
   standAt a2.atName
   let (f,first) <- holding [ov] (getMethod ov "__init__" (do return (<- importBound (.Name wn a1) env).getD true))
   callWith a8 f first (backTo a8 (starEach [.Name "self" a3,.JoinedStr [.Constant (.str "row ") k0 a4,.FormattedValue (.Name "row" a5) (-1) none a6] a7] env)) (backToKw a8 (keywordEach [] env))):=fun env=>by
  have hpos:methodCallPos true (.Name wn a1) env a2 a8=pure a8:=by unfold methodCallPos;simp[hln]
  rw[arm_eval_Call,show attributeBase (.Name wn a1) "__init__" env (eval (.Name wn a1) env)=eval (.Name wn a1) env from rfl];unfold methodCall;rw[show methodCallForm _ _ _=true from rfl];simp only[hpos];rfl
 exact Q3d (Q8y R wi l3 hm ha hdb rfl rfl (ht _) rfl) (Q3d (Q6D R (i:=0) (j:=1) n0 l1 (by decide) (by decide) n1 l2 (by decide) (by decide) rfl) Q6l)
theorem Q2Z{C e:Addr}{m:Nat}{H:Hp}{Q:VK}(g1:(m:Int).natAbs.log2<1920)(g2:(digs m).length<=600)(he:H e=some (excH C e none))(hq:∀ d od,H d=none->e<d->Rowd od m->Q .non (upd (upd H e (excH C e (some d))) d (objH d od))) :
  tInit C { nx:=fun _ H'=>Q .non H',rt:=Q } (start ["self","row"] [.ref e,.int m]) H :=
 ⟨.ref e,rfl,m,rfl,g1,g2,fun z=>⟨e,[.str z],rfl,he,(show 1<=sizeLine from by decide),e,m,rfl,rfl,he,fun d od h1 h2 h3=>hq d od h1 h2 h3⟩⟩
structure InitDef(K:Frag)(mg:Str->Option Value)(f:Addr)(fd:FuncData):Prop where
 ex:∃ (qual wn:Str) (st:Stmt) (W:Addr) (k0:Nat) (a1 a2 a3 a4 a5 a6 a7 a8 a9 b1 b2 b3 b4:Pos),Fun K "__init__" qual st f fd/\zat ["self","row"] ["self","row"] (za2 st)/\za8 st=zbG wn k0 a1 a2 a3 a4 a5 a6 a7 a8 a9 b1 b2 b3 b4 /\
  (za2 st).names.lookup ("self" : Str)=some .local/\(za2 st).names.lookup ("row" : Str)=some .local/\(za2 st).names.lookup wn=some .globalImplicit/\(a2.endLine==a8.line)=true/\(wn==("__debug__" : Str))=false/\mg wn=some (.ref W)/\WInit K W
 bi:Binds K fd ["self","row"] []
theorem init_run{P:Program}{w:World}{K:Frag}{mg:Str->Option Value}{base:Heap}{f:Addr}{fd:FuncData}(D:InitDef K mg f fd){A A':Around}{outer:List Env}{s:Shared}{H:Hp}{args:Args}{us:List Value}{vs:List V}{Q:VK}{E:XK}(hA:A'=A\/∃ v,A'=A.mark (some v))(hd:A.handled=none)(dp:A.depth<recursionLimit)(e0:Env0 P w K mg base A outer s H)(hb:BindsTo s fd args ((["self","row"]:List Str).zip us))(r:Vals vs us)(hsp:spInit K f vs H Q E) :
  codeAny (model P w) A' (.call (.ref f) args) (CR CX0 outer P w H s Q E) s:=by
 obtain⟨qual,wn,st,W,k0,a1,a2,a3,a4,a5,a6,a7,a8,a9,b1,b2,b3,b4,F,S,hbd,l1,l2,l3,hln,hdb,hm,wi⟩:=D.ex;obtain⟨oc,od,kV,doc,pm,an,cdv,ct,osl,rfl,lk,hcd⟩:=F.ex;obtain⟨C,e,m,R,hv,g1,g2,he,hq⟩:=hsp;subst hv;have KX:K.In s.heap:=e0.mod.kin.keeps fun b o e=>(e0.bs b o e).1;have lim:s.heap.NoLimit:=e0.mod.nolimit.keeps fun b o e=>(e0.bs b o e).1;have hkind:∀ y∈(["self","row"]:List Str).zip us,(za2 st).names.lookup y.1=some .local\/((za2 st).names.lookup y.1=some .cell/\((cellsFrom (s.heap.objs.size+1) (za2 st).names []).lookup y.1).isSome=true):=fun⟨n,v⟩ hy=>by
  rcases S.par n (of_mem_zip hy).1 with q | q
  ·exact .inl q
  ·exact .inr ⟨q,cellsFrom_some _ _ _ (.inl q)⟩
 have dp':A'.depth<recursionLimit:=by rcases hA with rfl | ⟨v,rfl⟩ <;> exact dp
 refine codeAny_call_function (A:=A') dp' (KX _ _ lk) rfl S.co S.gen rfl (codeRec_of KX hcd) (hb _ _ _ _ ?_);refine wpAny_newFunctionEnv_cells S.kind hkind fun env he' s1 x=>?_;subst he';refine⟨lim.keeps x.toInCall.keep,codeAny_func ?_⟩;have I:Inv (cxOf CX0 P w K mg base ["self","row"] qual (za2 st) f cdv A outer s H E) [] (start ["self","row"] [.ref e,.int m]) H s1:=Q3J S hd e0 rfl r x;have fin:∀ {fl:Flow} {s':Shared},SP (cxOf CX0 P w K mg base ["self","row"] qual (za2 st) f cdv A outer s H E) [] { nx:=fun _ H'=>Q .non H',rt:=Q } fl s'->CR CX0 outer P w H s Q E (.ok (match fl with | .next=>.ret .none | y=>y)) s':=fun{fl s'} hs=>by
  cases fl with
  | ret u =>
   obtain⟨y,σ',H',J,rv,q⟩:=hs;exact⟨y,H',J.os,J.bare,J.base,J.hok,rv,q⟩
  | next =>
   obtain⟨σ',H',J,q⟩:=hs;exact⟨.non,H',J.os,J.bare,J.base,J.hok,rfl,q⟩
  | brk =>
   obtain⟨_,_,_,q⟩:=hs;exact False.elim q
  | cont =>
   obtain⟨_,_,_,q⟩:=hs;exact False.elim q
 rcases hA with rfl | ⟨v,rfl⟩
 ·have hB:=(Q3Y (X:=(cxOf CX0 P w K mg base ["self","row"] qual (za2 st) f cdv A' outer s H E).nox) (k0:=k0) (a1:=a1) (a2:=a2) (a3:=a3) (a4:=a4) (a5:=a5) (a6:=a6) (a7:=a7) (a8:=a8) (a9:=a9) (b1:=b1) (b2:=b2) (b3:=b3) (b4:=b4) R rfl (.inl l1) (.inl l2) l3 hln hdb hm wi).nox;rw[<- hbd]at hB;refine Z4 (hB [] s1 _ H _ I (Q2Z g1 g2 he hq)) (fun fl s' hs=>?_) fun e s' hs=>hs;have z:=fin hs;cases fl <;> first | exact z | exact (show False from z).elim
 ·have hB:=Q3Y (X:=L2.handling (cxOf CX0 P w K mg base ["self","row"] qual (za2 st) f cdv A outer s H E) v) (k0:=k0) (a1:=a1) (a2:=a2) (a3:=a3) (a4:=a4) (a5:=a5) (a6:=a6) (a7:=a7) (a8:=a8) (a9:=a9) (b1:=b1) (b2:=b2) (b3:=b3) (b4:=b4) R rfl (.inl l1) (.inl l2) l3 hln hdb hm wi;rw[<- hbd]at hB;refine Z4 (hB [] s1 _ H _ I.handling (Q2Z g1 g2 he hq)) (fun fl s' hs=>?_) fun e s' hs=>hs.elim;have z:=fin (SP.unhandling I.ok hs);cases fl <;> first | exact z | exact (show False from z).elim
end DL
namespace L2
open PySem PySem.Spec PyProof.Rows
section
variable{X:Cx}{pins:List (Addr×Obj)}{σ:St}{H:Hp}{s:Shared}{C f e d:Addr}{x:Str}{m k:Nat}{fd:FuncData}
theorem Inv.drop{H':Hp}{l:List Addr}(I:Inv X pins σ H' s)(hl:∀ b∈l,∃ φ,H' b=some (.ext φ))(hH:∀ b,H b=if b∈l then none else H' b):Inv X pins σ H s:=by
 have nn:∀ {b:Addr},H' b=none->H b=none:=fun{b} q=>by rw[hH];split <;> first | rfl | exact q
 have ss:∀ {b:Addr} {o:HO},H' b=some o->(∀ φ,o≠.ext φ)->H b=some o:=fun{b o} q z=>by
  rw[hH,Zj fun y=>?_]
  ·exact q
  ·obtain⟨φ,hφ⟩:=hl b y;rw[hφ]at q;cases q;exact z φ rfl
 have B:=I.base;exact⟨I.ok,I.os,I.bare,⟨B.keep,B.slot,fun b o q n hx=>nn (B.free b o q n hx),B.there,fun b xs q=>ss (B.tups b xs q) fun _ z=>(nomatch z),fun b o u q=>ss (B.frzs b o u q) fun _ z=>(nomatch z),fun b ps q=>let ⟨m,z⟩:=B.tbls b ps q;⟨m,ss z fun _ z=>(nomatch z)⟩⟩,I.loc,I.cell,nn I.free,fun x c q=>nn (I.freeC x c q),fun p hp=>let ⟨h1,h2,h3⟩:=I.pin p hp;⟨h1,nn h2,h3⟩,
  Q8x I.hok (fun b hb o q=>by obtain⟨φ,hφ⟩:=hl b hb;rw[hφ]at q;cases q;exact⟨φ,rfl⟩) hH,I.len⟩
noncomputable def zaY(X:Cx)(f:Addr):Prop:=∀ (C e:Addr) (m:Nat) (u:Value) (pins:List (Addr×Obj)) (σ:St) (H:Hp) (s:Shared) (Q:VK),Inv X pins σ H s->RelV (.int m) u->DL.spInit X.K f [.ref e,.int m] H Q E0 ->
 codeAny (model X.prog X.w) (X.A.under (.builtin "type.__call__" ⟨.ref C::[u],[]⟩)) (.call (.ref f) ⟨[.ref e,u],[]⟩) (CR CX0 X.stack X.prog X.w H s Q E0) s
theorem Q7b(D:DL.InitDef X.K X.mg f fd)(hd:X.A.handled=none)(dp:X.A.depth+5<recursionLimit):zaY X f:=fun C e m u pins σ H s Q I ru h =>
 DL.init_run (us:=[.ref e,u]) (vs:=[.ref e,.int m]) D (.inl rfl) hd (by rw[Q1E];omega) (I.env0.make C [u] []) (D.bi s [.ref e,u] I.kIn rfl) (.cons rfl (.cons ru .nil)) h
theorem Q7c{u:Value}{Q:Value->Shared->Prop}{E:Value->Shared->Prop}(R:RowC X.K C f)(F:zaY X f)
  (I:Inv X pins σ H s) (ru:RelV (.int m) u) (g1:(m:Int).natAbs.log2<1920) (g2:(DL.digs m).length<=600)
  (h:∀ e d od t s',Inv X pins σ H s'->s'.heap.get? e=some (excO C t (some d))->s'.heap.get? d=some od->Rowd od m->s.heap.objs.size<=e->e<d->Q (.ref e) s') :
  wpAny (model X.prog X.w) X.A (call (.ref C) [u]) Q E s:=by
 obtain⟨nm,q,N,bs,bm,sn,sub,ab,col,dd,k0,k1,k2,k3,k5,hK,ho⟩:=Q2o R;obtain⟨hh,g,dr,tk,os⟩:=s;have kk:∀ b o,hh.get? b=some o->((hh.push (zaW [u])).push (zaM C hh.objs.size)).get? b=some o:=fun b o z=>Zb _ (Zb _ z);have hx:((hh.push (zaW [u])).push (zaM C hh.objs.size)).get? (hh.objs.size+1)=some (excO C hh.objs.size none):=by heap_get
 refine Q8w excBase_ValueError (Q1X ho) I.kIn (I.kIn _ _ hK) (show 1<=sizeLine from by decide) R.init R.fn ?_
 have I2:Inv X pins σ (upd H (hh.objs.size+1) (excH C (hh.objs.size+1) none)) ⟨(hh.push (zaW [u])).push (zaM C hh.objs.size),g,dr,tk,os⟩:=I.laid (t':=tk) kk (le_succ _) (Q4z hx);have he:H (hh.objs.size+1)=none:=I.hok.fresh (le_succ _);refine wpAny_call (codeAny_mono (F C (hh.objs.size+1) m u pins σ _ _
  (fun v H'=>v=.non/\∃ d od,H d=none/\hh.objs.size+1<d/\Rowd od m/\H'=upd (upd (upd H (hh.objs.size+1) (excH C (hh.objs.size+1) none)) (hh.objs.size+1) (excH C (hh.objs.size+1) (some d))) d (objH d od)) I2 ru
  ⟨C,hh.objs.size+1,m,R,rfl,g1,g2,Q0i,fun d od h1 h2 h3=>⟨rfl,d,od,by rw[<- h1,Q0f (ne_of_gt h2)],h2,h3,rfl⟩⟩) fun r s' hq=>?_)
 cases r with
 | error e=>exact hq.elim
 | ok fl =>
  cases fl with
  | ret v =>
   obtain⟨v',H',I3,rv,ev,d,od,hd,hlt,hrow,eH⟩:=I2.after hq;subst ev eH;obtain rfl:v=.none:=rv;have e1:(upd (upd (upd H (hh.objs.size+1) (excH C (hh.objs.size+1) none)) (hh.objs.size+1) (excH C (hh.objs.size+1) (some d))) d (objH d od)) (hh.objs.size+1)=some (excH C (hh.objs.size+1) (some d)):=by rw[Q0f (ZD hlt),Q0i]
   have e2:(upd (upd (upd H (hh.objs.size+1) (excH C (hh.objs.size+1) none)) (hh.objs.size+1) (excH C (hh.objs.size+1) (some d))) d (objH d od)) d=some (objH d od):=Q0i;obtain⟨⟨t,o1⟩,_⟩:=I3.hok _ _ e1;obtain⟨o2,_⟩:=I3.hok _ _ e2;refine⟨rfl,h _ d od t s' (I3.drop (l:=[hh.objs.size+1,d]) (fun b hb=>?_) fun b=>?_) o1 o2 hrow (le_succ _) hlt⟩
   ·rcases Zx.mp hb with rfl | hb
    ·exact⟨_,e1⟩
    ·rw[Zp.mp hb];exact⟨_,e2⟩
   ·by_cases z:b=hh.objs.size+1
    ·rw[z,he,Zm Zl]
    ·by_cases y:b=d
     ·rw[y,hd,Zm (Zo _ (Zp.mpr rfl))]
     ·rw[Zj (by simp[z,y]),Q0f y,Q0f z,Q0f z]
  | next=>exact False.elim hq
  | brk=>exact False.elim hq
  | cont=>exact False.elim hq
theorem XS.row(I0:Inv X pins σ H s1)(I:Inv X pins σ H s)(he:s.heap.get? e=some ⟨.ref C,some d,.fields vs,sl⟩)(h1:vs[1]? = some .none)(h0:vs[0]? = some a0)(hd:s.heap.get? d=some od)(hr:Rowd od m)(hn:s1.heap.objs.size<=e)(hlt:e<d) :
  XS X pins σ H s e (.ref C,some ((m:Int),d)):=by
 have enx:∀ {b:Addr} {o:Obj},X.s₀.heap.get? b=some o->b≠e:=fun{b o} q z=>absurd (Zn q) (by rw[z];exact not_lt.mpr (Z7 I0.sz hn))
 have st:(zal s.heap (e::frs X.stack)).StaysIn s.heap:=fun b o q=>by
  rw[Q0x]at q;split at q
  ·cases q
  ·exact q
 have hde:d∉e::frs X.stack:=fun z=>by
  rcases Zx.mp z with z | z
  ·exact absurd hlt (by rw[z];exact lt_irrefl _)
  ·rcases Zx.mp (I.stkSub _ z) with q | q
   ·rw[q]at hlt;exact lt_irrefl _ (Zr (lt_trans hlt I0.lt) hn)
   ·obtain⟨_,o2,e2,_⟩:=I.ok.funs.mem q;exact lt_irrefl _ (lt_trans hlt (Zr (Zn e2) (Z7 I0.sz hn)))
 refine⟨I,zal s.heap (e::frs X.stack),.inr ⟨st,Q2j Zl,?_,⟨_,_,he,rfl,fun z=>(nomatch z),fun n' d' z=>?_⟩,_,_,a0,he,rfl,rfl,h1,h0⟩,fun b u q=>?_,fun b o q hb=>?_,fun p hp=>?_,fun n' d' z=>?_⟩
 ·exact Q0J I.stack fun x hx=>Q2j (Zo _ hx)
 ·cases z;exact⟨rfl,od,by rw[Q0m hde];exact hd,hr⟩
 ·have out:∀ {c:Addr} {v:HO},H c=some v->c∉e::frs X.stack:=fun{c v} q z=>by
   rcases Zx.mp z with z | z
   ·rw[z,I0.hok.fresh hn]at q;cases q
   ·rw[I.stkFree c z]at q;cases q
  refine (I.hok b u q).stay (fun c v hc q'=>?_) (fun _ z=>z) fun _ _ z=>z;rcases hc with rfl | hc
  ·rw[Q0m (out q)];exact q'
  ·rw[Q0m (out hc)];exact q'
 ·rw[Z3]at hb;obtain⟨o1,e1⟩:=I.base.there b o q fun z=>hb (.inr z);refine⟨o1,by rw[Q0m fun z=>(Zx.mp z).elim (enx q) (I.notStk q fun z=>hb (.inl z))];exact e1,fun hn=>?_⟩
  have k1:=I.base.keep b o q hn (fun z=>hb (.inl z)) fun z=>hb (.inr z);rw[e1]at k1;cases k1;rfl
 ·obtain⟨p1,p2,p3,p4,p5⟩:=I.pin p hp;have p0:=(I0.pin p hp).1;rw[Q0m fun z=>by
   rcases Zx.mp z with q | z
   ·exact absurd (Zn p0) (by rw[q];exact not_lt.mpr hn)
   ·rcases Zx.mp (I.stkSub _ z) with q | q
    ·exact p3 q
    ·exact p4 q]
  exact p1
 ·cases z;have hs:=Z7 hn (le_of_lt hlt);exact⟨Z7 I0.sz hs,ne_of_gt (Zr I0.lt hs)⟩
theorem XS.ownH{xe:Value->Shared->Prop}(t:Top X)(x:XS X pins σ H s a cls)(hx:∀ s',XS X pins σ H s' a cls->xe (.ref a) s'):notedBy (model X.prog X.w) (X.A.mark (some v)) X.env (cameBackBy (model X.prog X.w) X.A X.env xe) (.ref a) s:=by
 unfold notedBy;have xh:XS (L2.handling X v) pins σ H s a cls:=⟨x.inv.handling,x.ex⟩;refine XS.note (X:=L2.handling X v) ⟨t.ex⟩ xh fun s1 x1=>?_;have x1:XT X pins σ H s1 a cls:=⟨x1.inv.unhandling x.inv.ok,x1.ex⟩;unfold cameBackBy;obtain⟨I,B,f,r⟩:=id x1;refine Za (Q2k f fun T=>?_);rw[Zj (by simp)]
 first
  | exact x1.set fun s2 x2=>hx s2 x2.xs
  | exact Za (Zh (x1.set fun s2 x2=>hx s2 x2.xs))
theorem Q7d{M:Model}{A:Around}{E:Value->Shared->Prop}{K:Frag}{env:Env}{z:Sem Value}{Q:Flow->Shared->Prop}(R:RowC K C f)(hh:A.handled=none)
  (h:wpAny M A z (fun v s₁=>∃ e t d,v=.ref e/\K.In s₁.heap/\s₁.heap.get? e=some (excO C t (some d))/\E (.ref e) s₁) E s):wpAny M A (raiseStmt env (some z) none) Q E s:=by
 obtain⟨nm,q,N,bs,bm,sn,sub,ab,col,dd,k0,k1,k2,k3,k5,hK,ho⟩:=Q2o R;have hcB:(Value.ref C::bm).contains (.type "BaseException")=true:=(Q1X (C:=C) ho).ba;unfold raiseStmt;refine Za (Z4 h (fun v s₁ h₁=>?_) fun _ _ x=>x);obtain⟨e,t,d,rfl,X,he,hE⟩:=h₁;have hC:=X _ _ hK;obtain⟨hp,g,dr,tk,os⟩:=s₁
 repeat (first | with_reducible refine ZR he ?_ | with_reducible refine ZR hC ?_ | (with_reducible refine wpAny_isSubtype_exc hC ?_;rw[hcB]) | wp_step)
 exact wpAny_raiseNew_none hh hE
noncomputable def zbT(C:Addr)(t:TA)(R:XR):TS:=fun _ σ H=>t σ H fun vs H1=>∃ m:Nat,vs=[.int m]/\(m:Int).natAbs.log2<1920/\(DL.digs m).length<=600/\∀ d,H1 d=none->R (.ref C,some ((m:Int),d)) σ H1
theorem Q4E{R:XR}{e1:Expr}{es:List Expr}{t:TA}{np cpos pos:Pos}(hc:X.calm=true)(hg:Gl X x)(hm:X.mg x=some (.ref C))(Rc:RowC X.K C f)(F:zaY X f)(ha:PA X (e1::es) t)(hx:zaf X R)(hdb:(x==("__debug__" : Str))=false)
  (he:starEach (e1::es) X.env=(false,eval e1 X.env)::starEach es X.env) (hpl:(backTo cpos (starEach es X.env)).any (·.1)=false) :
  PS X (.Raise (some (.Call (.Name x np) (e1::es) [] cpos)) none pos) (zbT C t R):=by
 intro pins s σ H D I h;show wpAny (model X.prog X.w) X.A (do standAt pos;raiseStmt X.env (some (do let v <- eval (.Call (.Name x np) (e1::es) [] cpos) X.env;standAt pos;pure v)) none) _ _ s
 refine Za (wpAny_standAt (Q7d Rc (I.ok.hd hc) (Za (ZX (Q0I I hg hm ?_ hdb)))));refine callWith_K (h₀:=X.base) I.ok.mod.kin Rc.kp (thn (ha cpos pins s σ H _ I h) fun us s1 ⟨vs,H1,I1,r,m,hv,g1,g2,q⟩=>⟨I1.kIn,?_⟩) he hpl;subst hv;obtain⟨u,rfl,ru⟩:=r.one;refine Q7c Rc F I1 ru g1 g2 fun e d od t s' I2 o1 o2 ro hn hlt=>?_;refine Za (wpAny_standAt (Zh ⟨e,t,d,rfl,I2.kIn,o1,?_⟩));exact hx _ _ _ _ _ _ (XS.row I1 I2 o1 rfl rfl o2 ro hn hlt) (q d (I1.hok.fresh (Z7 hn (le_of_lt hlt))))
end
section
variable{X:Cx}{pins:List (Addr×Obj)}{σ:St}{H:Hp}{s:Shared}{C f e d a:Addr}{x:Str}{m k:Nat}{fd:FuncData}
theorem Q5U{prog:Program}{w:World}{A:Around}{E:Value->Shared->Prop}{K:Frag}{env:Env}{z c:Sem Value}{Q:Flow->Shared->Prop}(R:RowC K C f)(hh:A.handled=some (.ref a))(hcz:∀ (s:Shared) (Q:Value->Shared->Prop),Q .none s->wpAny (model prog w) A c Q E s)
  (h:wpAny (model prog w) A z (fun v s₁=>∃ e t d oa va,v=.ref e/\K.In s₁.heap/\s₁.heap.get? e=some (excO C t (some d))/\s₁.heap.get? a=some oa/\oa.data=.fields va/\va[2]? = some .none/\a≠e /\
   ∀ h',h'.get? e=some ⟨.ref C,some d,.fields #[.ref t,.none,.ref a,.none,.bool true,.none],#[]⟩->(∀ b o,b≠e->s₁.heap.get? b=some o->h'.get? b=some o)->E (.ref e) { s₁ with heap:=h' }) E s):wpAny (model prog w) A (raiseStmt env (some z) (some c)) Q E s:=by
 obtain⟨nm,q,N,bs,bm,sn,sub,ab,col,dd,k0,k1,k2,k3,k5,hK,ho⟩:=Q2o R;have hcB:(Value.ref C::bm).contains (.type "BaseException")=true:=(Q1X (C:=C) ho).ba;unfold raiseStmt;refine Za (Z4 h (fun v s₁ h₁=>?_) fun _ _ x=>x);obtain⟨e,t,d,oa,va,rfl,X,he,ha,hd,hv,hne,hE⟩:=h₁;have hC:=X _ _ hK;obtain⟨hp,g,dr,tk,os⟩:=s₁;refine Za (Ye (hcz _ _ ?_))
 repeat (first | with_reducible refine ZR he ?_ | with_reducible refine ZR hC ?_ | (with_reducible refine wpAny_isSubtype_exc hC ?_;rw[hcB]) | wp_step)
 have hCe:C≠e:=fun z=>by
  have q:=hC;rw[z]at q;have q2:=Z1 (q.symm.trans he);cases q2
 generalize hg2:(hp.update e (Obj.mapFields fun x=>x.setIfInBounds 3 Value.none)).update e (Obj.mapFields fun x=>x.setIfInBounds 4 (Value.bool true))=h2;have kk:∀ b o,b≠e->hp.get? b=some o->h2.get? b=some o:=fun b o hb q=>by rw[<- hg2];exact (Heap.get?_update_ne _ _ _ _ hb).trans ((Heap.get?_update_ne _ _ _ _ hb).trans q)
 have he2:h2.get? e=some ⟨.ref C,some d,.fields #[.ref t,.none,.none,.none,.bool true,.none],#[]⟩:=by rw[<- hg2];exact ZJ _ (ZJ _ he rfl) rfl
 have hC2:=kk _ _ hCe hC;have ha2:=kk _ _ hne ha;refine ZR hC2 (Zh ?_);refine Zh (Za ?_);unfold setFlight;refine Za (ZE he2 rfl (i:=1) rfl (Zh ?_));unfold raiseNew;refine Za (wpAny_handled ?_);rw[hh];dsimp only;rw[Zm (by simpa using hne)]
 refine Za (Ye (wpAny_runValue ?_));refine codeAny_builtin (b:=Builtin.«proto.unchain») (entryFor_of_tree (by kernel_rfl)) ?_
 unfold Builtin.«proto.unchain»;refine Za (ZE ha2 hd hv ?_);refine Zh ?_;refine (show wpAny (model prog w) A (setField (.ref e) 2 (.ref a) >>= fun _=>throw (.ref e)) Q E _ from Za (wpAny_setField (vs:=#[.ref t,.none,.none,.none,.bool true,.none]) he2 rfl (show 2<6 from by decide) (wpAny_throw ?_)))
 exact hE _ (ZJ _ he2 rfl) fun b o hb q=>(Heap.get?_update_ne _ _ _ _ hb).trans (kk b o hb q)
theorem Q4F{prog:Program}{w:World}{A:Around}{E:Value->Shared->Prop}{env:Env}{mg:Str->Option Value}{bm:List Value}{newId:String}{ty:Expr}{b0:Stmt}{suite:List Stmt}{hpos:Pos}{rest:List ExceptHandler}{Q:Flow->Shared->Prop}
  (hbase:bm.contains (.type "BaseException")=true)
  (h:wpAny (model prog w) (A.mark (some (.ref a))) (eval ty env) (fun c s₁=>c=.ref C/\OwnCls x C bm newId mg s₁.heap/\(∃ oe,s₁.heap.get? a=some oe/\oe.cls=.ref C) /\
   wpAny (model prog w) (A.mark (some (.ref a))) (setFlight (.ref a) none) (fun _ s₂=>wpAny (model prog w) (A.mark (some (.ref a))) (execs (b0::suite) env) Q (notedBy (model prog w) (A.mark (some (.ref a))) env (cameBackBy (model prog w) A env E)) s₂) (fun _ _=>False) s₁) (fun _ _=>False) s) :
  wpAny (model prog w) A (handleBy (.ref a) env (.ExceptHandler (some ty) none (b0::suite) hpos::rest)) Q E s:=by
 refine wpAny_handleBy_cons (codeAny_handlers_test (Z4 h (fun c s₁ h₁=>?_) fun _ _ y=>y.elim)) (by intro q;cases q)
 obtain⟨rfl,O,⟨oe,he,hcls⟩,hk⟩:=h₁;obtain⟨tl,N,nm,q,bs,hdct,sn,sub,ab,col,dd,k0,k1,k2,k3,k5,mN,hC,hN,hq,T⟩:=O.obj;obtain⟨hh,g,d,tk,os⟩:=s₁;exact wpAny_excMatches_sub_self hC he hcls (T.hasType hbase) (codeAny_handlers_suite (Z4 hk (fun _ s₂ h₂=>Z4 h₂ (fun _ _ z=>z) fun _ _ z=>z) fun _ _ z=>z.elim))
noncomputable def tTryRow(N C:Addr)(j:Nat)(tb:XR->TS)(R:XR):TS:=fun D σ H=>tb (fun cls σ' H'=>cls=(.ref N,none)/\∃ m:Nat,σ'[j]? = some (some (.int m))/\(m:Int).natAbs.log2<1920/\(DL.digs m).length<=600/\∀ d,H' d=none->R (.ref C,some ((m:Int),d)) σ' H') D σ H
theorem Q7e{tb:XR->TS}(tp:Top X)(hg:Gl X x)(hm:X.mg x=some (.ref N))(cl:XCls X.K N)(hdb:(x==("__debug__" : Str))=false)
  (hg2:Gl X y) (hm2:X.mg y=some (.ref C)) (Rc:RowC X.K C f) (D0:DL.InitDef X.K X.mg f fd) (hr:X.A.handled=none) (dp:X.A.depth+5<recursionLimit) (hdb2:(y==("__debug__" : Str))=false) (hx:zaf X R)
  (hj:X.N[j]? = some r) (hjv:Vis X.env.scope r) (hjd:(r==("__debug__" : Str))=false) (hjc:(r==("__classdict__" : Str))=false)
  (hb:∀ pins E R,zaf (X.holds pins E) R->PassesOwn (model X.prog X.w) X.A X.env E->PSs (X.holds pins E) body (tb R)) :
  PS X (.Try body [.ExceptHandler (some (.Name x np)) none [.Raise (some (.Call (.Name y yp) [.Name r rp] [] cpos)) (some (.Constant .none kd kp)) rpos] hpos] [] [] pos) (tTryRow N C j tb R):=by
 intro pins s σ H D I h;obtain⟨B,newId,initId,bm,FB,hin⟩:=cl.ex;have tp':Top (X.holds pins fun _ _=>False):=⟨tp.ex⟩;refine wpAny_Try_except (Z4 (hb pins (xeOf (X.holds pins fun _ _=>False) _) _ (fun pins' σ' H' s' a cls x r=>⟨pins',σ',H',a,cls,rfl,⟨⟨I.ok.holds _ _,x.inv.os,x.inv.bare,x.inv.base,x.inv.loc,x.inv.cell,x.inv.free,x.inv.freeC,x.inv.pin,x.inv.hok,x.inv.len⟩,x.ex⟩,r⟩)
  (by
   rintro e s' ⟨pins',σ',H',a,cls,rfl,x,r⟩;exact XS.own (X:=X.holds pins fun _ _=>False) tp' x fun s' x'=>⟨pins',σ',H',a,cls,rfl,x',r⟩) [] s σ H D (I.holds _) h) (fun fl s1 q=>?_) fun e s1 q=>?_)
 ·have q':SP X pins D fl s1:=q.unholds I.ok;cases fl with
  | next=>exact wpAny_execs_nil q'
  | brk=>exact q'
  | cont=>exact q'
  | ret u=>exact q'
 ·obtain⟨pins',σ',H',a,cls,rfl,x1,rfl,m,hmj,g1,g2,hR⟩:=q;refine XS.note (X:=X.holds pins fun _ _=>False) tp' x1 fun s2 x2=>XT.set (X:=X.holds pins fun _ _=>False) x2 fun s3 x3=>?_;refine Q4F (C:=N) (newId:=newId) (mg:=X.mg) (x:=x) FB.hasBase ?_;have I3:Inv X pins σ' H' s3:=x3.inv.unholds I.ok;have I3h:Inv (L2.handling X (.ref a)) pins σ' H' s3:=I3.handling;obtain⟨B3,f3,_⟩:=x3.ex;obtain⟨_,_,_,_,a0,fl,tr⟩:=f3;refine Q0I I3h hg hm ⟨rfl,Q9x I3.kIn hm hin,tr.there,?_⟩ hdb;refine XT.set (X:=X.holds pins fun _ _=>False) x3 fun s4 x4=>?_;have I4:Inv X pins σ' H' s4:=x4.inv.unholds I.ok;obtain⟨B4,⟨v1,v2,v3,⟨oe',vs',he',hd',hdx⟩,a4,fl4,oe,vs,T,oT,ts,he,⟨hcls,h0⟩,hd,_⟩,hB,_,_,xn4⟩:=x4.ex;obtain rfl:oe'=oe:=Z1 (he'.symm.trans he);have hfree:H' a=none:=by
   cases e:H' a with
   | none=>rfl
   | some o =>
    obtain⟨u,hu⟩:=objThere (hB a o e);rw[v2]at hu;cases hu
  have hloc:a≠X.env.locals:=fun z=>by
   obtain⟨m,⟨o',es,ep,ho',hd',_⟩,_⟩:=I4.loc;rw[z,ho']at he;cases he;rw[hd']at hd;cases hd
  have hfs:a∉X.fs:=fun z=>by
   obtain⟨_,o2,e2,nf⟩:=I4.funs.mem z;rw[e2]at he;cases he;exact nf _ hd
  have I5:Inv (L2.handlingAs X a oe' []) pins σ' H' s4:=I4.handlingAs fun p hp=>by
   rw[Zp.mp hp];exact⟨he,hfree,hloc,hfs,fun v q=>by rw[hd]at q;cases q⟩
  have F:zaY (L2.handlingAs X a oe' []) f:=fun C e m u pins σ H s Q J ru h =>
   DL.init_run (us:=[.ref e,u]) (vs:=[.ref e,.int m]) (A:=X.A.under (.builtin "type.__call__" ⟨.ref C::[u],[]⟩)) D0 (.inr ⟨.ref a,rfl⟩) hr (by rw[Q1E];omega) ((J.unhandlingAs I.ok).env0.make C [u] []) (D0.bi s [.ref e,u] J.kIn rfl) (.cons rfl (.cons ru .nil)) h
  refine wpAny_execs_cons (show wpAny (model X.prog X.w) (X.A.mark (some (.ref a))) (do standAt rpos;raiseStmt X.env (some (do let v <- eval (.Call (.Name y yp) [.Name r rp] [] cpos) X.env;standAt rpos;pure v)) (some (do let v <- eval (.Constant .none kd kp) X.env;standAt rpos;pure v))) _ _ s4 from ?_)
  refine Za (wpAny_standAt (Q5U Rc rfl (fun s Q q=>Za (show wpAny _ _ (pure Value.none) _ _ _ from Zh (Za (wpAny_standAt (Zh q))))) (Za (ZX (Q0I I5 hg2 hm2 ?_ hdb2)))));refine callWith_K (h₀:=X.base) I.ok.mod.kin Rc.kp (Z4 ((Q0S (X:=L2.handlingAs X a oe' []) (Q1N hj hjv hjd hjc) Q3E rfl) cpos pins s4 σ' H' (fun vs H1=>vs=[.int m]/\H1=H') I5 ⟨_,hmj,rfl,rfl⟩) (fun us s5 ⟨vs,H1,I6,rv,hv,hH⟩=>⟨I6.kIn,?_⟩) fun _ _ z=>z.elim) rfl rfl;subst hv hH;obtain⟨u,rfl,ru⟩:=rv.one;have I6':Inv X pins σ' H1 s5:=I6.unhandlingAs I.ok;have ha5:=(I6.pin (a,oe') (ZK _ (Zy _ Zl))).1;refine Q7c (X:=L2.handlingAs X a oe' []) Rc F I6 ru g1 g2 fun e d od t s' I7 o1 o2 ro hn hlt=>?_;have I7':Inv X pins σ' H1 s':=I7.unhandlingAs I.ok;have ha7:=(I7.pin (a,oe') (ZK _ (Zy _ Zl))).1;have old:∀ {b:Addr} {o:Obj},s5.heap.get? b=some o->b≠e:=fun{b o} q=>ZD (Zr (Zn q) hn);refine Za (wpAny_standAt (Zh ⟨e,t,d,oe',vs',rfl,I7.kIn,o1,ha7,hd',hdx.1 rfl,old ha5,fun h' q1 q2=>?_⟩));have I8:Inv X pins σ' H1 { s' with heap:=h' }:=I7'.turned (t':=s'.toks) q2 (I6.hok.fresh hn) (ne_of_gt (Zr I6'.lt hn)) (.inr (Z7 I6'.sz hn)) (fun x c q=>by
   obtain⟨v,o,ho,_⟩:=I6'.cell x c q;exact old ho) fun p hp=>old (I6'.pin p hp).1
  exact XS.ownH tp (XS.row I6' I8 q1 rfl rfl (q2 d od (ne_of_gt hlt) o2) ro hn hlt) fun s9 x9=>hx _ _ _ _ _ _ x9 (hR d (I6.hok.fresh (Z7 hn (le_of_lt hlt))))
end
section
variable{prog:Program}{w:World}{A:Around}{E:Value->Shared->Prop}{s:Shared}{K:Frag}{x D:Addr}{ox od:Obj}{v:Value}
structure XRow(K:Frag)(D:Addr):Prop extends XLook K D where
 hd:hasDictIn K D=true
 nr:findIn K (.ref D) "row" = some none
theorem Q8R{R:Result->Shared->Prop}(L:XRow K D)(X:K.In s.heap)(J:PySem.W.InstAt s.heap x ox D (some od))(hl:PySem.W.lookIn "row" od=some (some v))(hq:R (.ok (.ret v)) s) :
  codeAny (model prog w) A (.call (.builtin "BaseException.__getattribute__") ⟨[.ref x,.str "row" tk],[]⟩) R s:=by
 obtain⟨hp,gn,dr,tn,os⟩:=s;have T0:=J.type (M:=model prog w);have T3:=looks_mroIn (M:=model prog w) X L.be;have T4:=PySem.W.looks_find (M:=model prog w) X J (PySem.W.findObj_own L.hd L.nr rfl hl);have kd:builtinKind "BaseException.__getattribute__" = some .slot:=by decide +kernel
 have sp:splitId "BaseException.__getattribute__" = some ("BaseException","__getattribute__"):=by decide +kernel
 have ha:=F.args_bexc_ga (.ref x) (.str "row" tk);refine codeAny_call_builtin F.excAttr_ValueError.ga.plain F.entry_bexc_ga ?_;simp only[checkBuiltinCall,kd,sp];unfold isInstance
 repeat lk
 exact hq
theorem QaF{Q:Value->Shared->Prop}(L:XRow K D)(X:K.In s.heap)(J:PySem.W.InstAt s.heap x ox D (some od))(hl:PySem.W.lookIn "row" od=some (some v))(hv:PySem.W.handedIn v=true)(h:Q v { s with toks:=s.toks+1 }):wpAny (model prog w) A (getAttr (.ref x) "row" expr) Q E s:=by
 obtain⟨hp,gn,dr,tn,os⟩:=s;have T0:=J.type (M:=model prog w);have T1:=looks_findIn (M:=model prog w) X L.ga;have T2:=looks_findIn (M:=model prog w) X L.gh;have ne:(Value.builtin "BaseException.__getattribute__" == Value.builtin "object.__getattribute__")=false:=by decide +kernel
 unfold getAttr;refine Za (wpAny_mkText ?_);unfold getAttrBy;refine Ye (Za (T0.at (Za (T1.at ?_))));simp only[ne,Bool.and_false,ZT,Yj];unfold getAttrByItsOwn hookBefore;refine Za ?_;rw[Zm (by rfl)]
 refine T2.at ?_;refine Za (wpAny_attempt (Ye ?_));unfold callGetattribute;rw[Zj (by cases expr <;> simp[onTheHeap])]
 unfold boundAndCalled;rw[F.excAttr_ValueError.ga.bind (.ref x)];refine Za (Zh ?_);refine wpAny_call (Q8R (s:=⟨hp,gn,dr,tn+1,os⟩) L X J hl ?_);exact handed_on hv h
end
section
variable{X:Cx}{a C d:Addr}{oe od:Obj}{ps:List (Addr×Obj)}{n:Int}{x:Str}{i:Nat}{np pos:Pos}
noncomputable def tXrow(i:Nat)(a:Addr)(n:Int):TE:=fun σ H Q=>σ[i]? = some (some (.ref a))/\Q (.int n) H
theorem QaG(L:XRow X.K C)(hc:oe.cls=.ref C)(hf:∃ vs,oe.data=.fields vs)(hd:oe.dict=some d)(hm:(d,od)∈ps)(hr:Rowd od n)(hN:X.N[i]? = some x)(hv:Vis X.env.scope x)(hdb:(x==("__debug__" : Str))=false)(hcd:(x==("__classdict__" : Str))=false) :
  PE (L2.handlingAs X a oe ps) (.Attribute (.Name x np) "row" pos) (tXrow i a n):=by
 rintro pins s σ H Q I ⟨h1,h2⟩;refine Qa0 rfl (thn (Q1N (X:=L2.handlingAs X a oe ps) hN hv hdb hcd pins s σ H (fun v H'=>v=.ref a/\H'=H) I ⟨_,h1,rfl,rfl⟩) fun u s1 ⟨y,H1,I1,ry,e1,e2⟩=>?_);subst e1 e2;obtain rfl:u=Value.ref a:=ry;have p1:=(I1.pin (a,oe) (ZK _ (Zy _ Zl))).1;have p2:=(I1.pin (d,od) (ZK _ (Zy _ (Zo _ hm)))).1;obtain⟨mA,tk,ns,hrow⟩:=hr.2 _ _ p2;obtain⟨od',ho',hl⟩:=Q3D ns;obtain rfl:od'=od:=Z1 (ho'.symm.trans p2);obtain⟨vs,hf⟩:=hf;have J:PySem.W.InstAt s1.heap a oe C (some od'):=⟨p1,hc,by unfold PySem.W.notCls;rw[hf],by rw[hd];exact p2⟩
 exact QaF L I1.kIn J (by rw[hl,hrow]) rfl ⟨.int n,H1,I1.tok _,⟨tk,rfl⟩,h2⟩
end
end L2
namespace DL
open PySem PySem.Spec L2
open PyProof.Rows hiding St
noncomputable def rowB(m:Nat):Prop:=m<10 ^ 12
theorem Q5c(h:rowB m):((m:Nat):Int).natAbs.log2<1920:=by
 unfold rowB at h;rw[Int.natAbs_natCast];by_cases z:m=0
 ·rw[z];decide
 ·exact (Nat.log2_lt z).mpr (Zr h (by decide +kernel))
theorem Q3Z(h:rowB m):(digs m).length<=600:=by
 unfold digs;rw[Zi];exact Z7 ((Nat.length_toDigits_le_iff (by decide) (by decide:0<12)).mpr h) (by decide)
theorem Q2y(h:c<64):zaZ (c+64 * (m+1))=some (m:Int):=by
 unfold zaZ;rw[Zj (by omega),show (c+64 * (m+1)) / 64-1=m by omega]
section
variable{X:Cx}{e:Expr}{es:List Expr}{pos p np cpos:Pos}{cn:CN}
noncomputable def zaN(t:DTA)(c:Nat)(xd:DX):DTS:=fun _ ρ M=>t ρ M fun ds M1=>∃ m:Nat,ds=[.int m]/\rowB m/\xd (c+64 * (m+1)) M1
theorem Q7f(h64:c<64)(hc:X.calm=true)(hg:Gl X x)(hcn:∀ k,cn (c+64 * k)=some x)(hm:X.mg x=some (.ref C))(Rc:RowC X.K C f)(D0:InitDef X.K X.mg f fd)(dp:X.A.depth+5<recursionLimit)(ha:DA X (e::es) t)(hx:zaf X fun cls _ H=>lX X.K X.mg cn xd cls H)(hdb:(x==("__debug__" : Str))=false)
  (he:starEach (e::es) X.env=(false,eval e X.env)::starEach es X.env) (hpl:(backTo cpos (starEach es X.env)).any (·.1)=false) :
  DS X (.Raise (some (.Call (.Name x np) (e::es) [] cpos)) none pos) (zaN t c xd):=by
 intro pins s σ H D I h;refine (Q4E hc hg hm Rc (Q7b D0 (I.ok.hd hc) dp) ha hx hdb he hpl) pins s σ H D I ?_;obtain⟨ρ,M,DD,s,m,h,k⟩:=h;refine⟨ρ,M,_,s,m,h,fun ds M1 vs H1 h1 x1 m1 e1=>?_⟩;obtain⟨n,rfl,hn,h1⟩:=h1;cases e1 with
 | cons q r =>
  cases r;cases q;exact⟨n,rfl,Q5c hn,Q3Z hn,fun d hd=>⟨c+64 * (n+1),x,M1,hcn _,hm,⟨(Q2y h64).symm,fun n' d' z=>by cases z;exact hd⟩,m1,h1⟩⟩
noncomputable def zbg(sp:DSpX)(dds:List D)(cc c j:Nat)(xd:DX)(t:DTA):DTS:=fun DD ρ M=>t ρ M fun ds M1=>sp (ds++dds) M1 DD.rt fun c' M2=>c'=cc/\∃ m:Nat,ρ[j]? = some (some (.int m))/\rowB m/\xd (c+64 * (m+1)) M2
theorem Q7g(h64:cc<64)(h64':c<64)(hcm:X.calm=true)(tp:Top X)(F:FnOk X.prog X.w X.K X.mg X.base (CX1 X.prog X.w) k f fd ps (lSpX X.K X.mg cn sp))(hr:Room k X.A)(hgf:Gl X fx)(hmf:X.mg fx=some (.ref f))(hk:keepIn X.K (.ref f)=true)(hb:Binds X.K fd ps ds)(hd:Vals dvs ds)(hdd:∀ H,Dens X.K H dds dvs)
  (hcn:cn cc=some x) (hg:Gl X x) (hm:X.mg x=some (.ref N)) (cl:XCls X.K N) (ha:∀ pins E,DA (X.holds pins E) (e::es) t) (hdf:(fx==("__debug__" : Str))=false) (hdb:(x==("__debug__" : Str))=false)
  (he:starEach (e::es) X.env=(false,eval e X.env)::starEach es X.env) (hpl:(backTo cpos (starEach es X.env)).any (·.1)=false)
  (hg2:Gl X y) (hcn2:∀ k,cn (c+64 * k)=some y) (hm2:X.mg y=some (.ref C)) (Rc:RowC X.K C fi) (D0:InitDef X.K X.mg fi fdi) (hdb2:(y==("__debug__" : Str))=false) (hx:zaf X fun cls _ H=>lX X.K X.mg cn xd cls H)
  (hj:X.N[j]? = some r) (hjv:Vis X.env.scope r) (hjd:(r==("__debug__" : Str))=false) (hjc:(r==("__classdict__" : Str))=false) :
  DS X (.Try [.Return (some (.Call (.Name fx p) (e::es) [] cpos)) spos] [.ExceptHandler (some (.Name x np)) none [.Raise (some (.Call (.Name y yp) [.Name r rp] [] ypos)) (some (.Constant .none kd kp)) rpos] hpos] [] [] pos) (zbg sp dds cc c j xd t):=by
 intro pins s0 σ H D I h;refine (Q7e (X:=X) (np:=np) (pos:=pos) (hpos:=hpos) (yp:=yp) (rp:=rp) (cpos:=ypos) (kp:=kp) (rpos:=rpos) (kd:=kd) (body:=[.Return (some (.Call (.Name fx p) (e::es) [] cpos)) spos]) (tb:=fun R=>tRet (zbV (lSpX X.K X.mg cn sp) dvs R (lA X.K t))) tp hg hm cl hdb hg2 hm2 Rc D0 hr.hd (lt_of_le_of_lt (Nat.add_le_add_right (Nat.le_add_right _ _) 5) hr.dp) hdb2 hx hj hjv hjd hjc
  (fun pins E R tk _=>Q6m (Q9t (X:=X.holds pins E) (Q3i (X:=X.holds pins E) F hr hgf hmf hk hb hd tk (ha pins E) hdf he hpl)))) pins s0 σ H D I ?_
 obtain⟨ρ,M,DD,s,m,h,k⟩:=h;refine⟨ρ,M,_,s,m,h,fun ds M1 vs H1 h1 x1 m1 e1=>⟨_,M1,_,_,e1.append (hdd _),m1,h1,(k.ext x1).rt,fun c' x' u r0 M2 H2 q hc' hu hr0 x2 m2=>?_⟩⟩;obtain⟨rfl,n,hn,hb,q⟩:=q;obtain rfl:=Q8P h64 hr0;rw[hcn]at hc';cases hc';rw[hm]at hu;cases hu;obtain⟨v,hv,dv⟩:=s.get hn;cases dv;exact⟨rfl,n,hv,Q5c hb,Q3Z hb,fun d hd=>⟨c+64 * (n+1),y,M2,hcn2 _,hm2,⟨(Q2y h64').symm,fun n' d' z=>by cases z;exact hd⟩,m2,q⟩⟩
noncomputable def dXrow(i:Nat)(a:Addr)(n:Int):DTE:=fun ρ M Q=>ρ[i]? = some (some (.ref a))/\Q (.int n) M
theorem QaH(L:XRow X.K C)(hc:oe.cls=.ref C)(hf:∃ vs,oe.data=.fields vs)(hd:oe.dict=some d)(hm:(d,od)∈qs)(hr:Rowd od n)(hN:X.N[i]? = some x)(hv:Vis X.env.scope x)(hdb:(x==("__debug__" : Str))=false)(hcd:(x==("__classdict__" : Str))=false) :
  DE (L2.handlingAs X a oe qs) (.Attribute (.Name x np) "row" pos) (dXrow i a n):=by
 intro pins s σ H Q I h;refine QaG L hc hf hd hm hr hN hv hdb hcd pins s σ H Q I ?_;obtain⟨ρ,M,R,ss,m,⟨h1,h2⟩,k⟩:=h;obtain⟨v,hv,dv⟩:=ss.get h1;cases dv;exact⟨hv,k _ M _ H h2 (Ext.refl H) m (.int n)⟩
noncomputable def rNeT:DR2:=fun x y M Q=>match x,y with
 | .tup xs,.tup ys=>xs.all flat=true/\ys.all flat=true/\zc5 xs ys=true/\Q (.bl (!eqB (.tup xs) (.tup ys))) M
 | _,_=>False
end
end DL
namespace L2
open PySem PySem.Spec PyProof.Rows
section
variable{X:Cx}{C f:Addr}{x:Str}
noncomputable def tNrow(t:TA):TE:=fun σ H Q=>t σ H fun vs H1=>∃ m:Nat,vs=[.int m]/\(m:Int).natAbs.log2<1920/\(DL.digs m).length<=600/\Q (.int m) H1
end
end L2
namespace DL
open PySem PySem.Spec L2
open PyProof.Rows hiding St
section
variable{X:Cx}{e:Expr}{es:List Expr}{pos np cpos:Pos}
noncomputable def dNrow(t:DTA):DTE:=fun ρ M Q=>t ρ M fun ds M1=>∃ m:Nat,ds=[.int m]/\rowB m/\Q (.int m) M1
end
end DL
namespace L2
open PySem PySem.Spec PyProof.Rows
theorem Q5V(a b c:Value):argsOk "object.__init__" ⟨[a,b,c],[]⟩:=by
 unfold argsOk;kernel_rfl
theorem QaI(a b:Value):checkTypeCall "enumerate" ⟨[a,b],[]⟩=pure ():=by kernel_rfl
theorem QaJ(a b:Value):checkBuiltinCall "enumerate.__new__" ⟨[.type "enumerate",a,b],[]⟩=pure ():=by kernel_rfl
noncomputable abbrev liOf(l:Addr):Obj:={ cls:=.type "list_iterator",data:=.fields #[.ref l,.int 0 0] }
noncomputable abbrev enOf(a b:Value)(it:Addr)(c:Int)(x:Value):Obj:={ cls:=.type "enumerate",dict:=none,data:=.fields #[a,b,.ref it,rawInt c,.none,x],slots:=#[] }
theorem Q7h(l:Addr)(xs:Array Value)(n:Nat)(dd:Option Addr)(ss:Array (Option Value))(t:Tok) :
  Meets (Builtin.«enumerate.__new__» ⟨[.type "enumerate",.ref l,.int 1 t],[]⟩) (fun _ R s=>s.heap.get? l=some { cls:=.type "list",dict:=dd,data:=.seq xs n,slots:=ss } /\
   R (.ok (.ret (.ref (s.heap.push (liOf l)).objs.size))) { s with heap:=(s.heap.push (liOf l)).push (enOf .none (.bool false) s.heap.objs.size 1 .none) }) :=
 .of_wp fun prog w A R s z=>by
  obtain⟨hh,g,d,tk,os⟩:=s;obtain⟨hl,z⟩:=z;have q0:=sub_enumerate;have q1:Heap.IsList (Shared.heap ⟨hh,g,d,tk,os⟩) l xs:=⟨_,hl,rfl,n,rfl⟩
  wp_walk using AutoSeq1.wpAny_loadPart' hl
  refine wpAny_stack_any fun st=>Zh ?_;split
  ·rename_i c _ _ _ _ _;cases (c==Value.type "enumerate") <;> (wp_walk using AutoSeq1.wpAny_loadPart' hl,wpAny_pyIter_list q1;exact⟨_,rfl,z⟩)
  ·wp_walk using AutoSeq1.wpAny_loadPart' hl,wpAny_pyIter_list q1
   exact⟨_,rfl,z⟩
section
variable{P:Program}{w:World}{A:Around}{E:Value->Shared->Prop}{s:Shared}
theorem Q5W{Q:Value->Shared->Prop}(q:s.heap.IsList l xs)
  (k:∀ h',h'.get? (s.heap.objs.size+1)=some (enOf .none (.bool false) s.heap.objs.size 1 .none)->h'.IsListIter s.heap.objs.size l 0->h'.objs.size=s.heap.objs.size+2 ->
   (∀ b o,s.heap.get? b=some o->h'.get? b=some o)->Q (.ref (s.heap.objs.size+1)) { s with heap:=h' }):wpAny (model P w) A (call (.type "enumerate") [.ref l,.int 1 t]) Q E s:=by
 obtain⟨⟨c,dd,data,ss⟩,ho,hc,n,hd⟩:=q;have hc:c=.type "list":=hc;have hd:data=.seq xs n:=hd;subst hc hd;refine callType_new F.called_enumerate (by decide) (QaI _ _) (QaJ _ _) (fun obj=>Q5V obj _ _) F.entry_enumerate_new (Q7h l xs n dd ss t) ⟨ho,?_⟩
 have z1:(s.heap.push (liOf l)).objs.size=s.heap.objs.size+1:=Heap.size_push ..;have z2:((s.heap.push (liOf l)).push (enOf .none (.bool false) s.heap.objs.size 1 .none)).get? (s.heap.objs.size+1)=some (enOf .none (.bool false) s.heap.objs.size 1 .none):=by
  rw[<- z1];exact Zs _ rfl
 show _/\_;rw[z1];exact⟨⟨_,z2,rfl⟩,k _ z2 ⟨_,Zb _ (Zs _ rfl),rfl,rfl⟩ (by rw[Heap.size_push,z1]) fun b o x=>Zb _ (Zb _ x)⟩
theorem Q7i{Q:Value->Shared->Prop}
  (h1:s.heap.get? e=some (enOf .none (.bool false) it c old)) (h2:s.heap.IsListIter it l i) (h3:s.heap.IsList l xs) (hx:xs[i]? = some x) (ne:e≠it)
  (k:∀ h',h'.get? e=some (enOf (rawInt s.heap.objs.size) (.bool false) it (c+1) x)->h'.IsListIter it l (i+1) ->
   h'.get? s.heap.objs.size=some { cls:=.type "tuple",data:=.seq #[.int c s.toks,x] }->h'.objs.size=s.heap.objs.size+1 ->
   (∀ b o,b≠e->b≠it->s.heap.get? b=some o->h'.get? b=some o)->Q (.ref s.heap.objs.size) { s with heap:=h',toks:=s.toks+1 }) :
  wpAny (model P w) A (Builtin.«enumerate.__next__» ⟨[.ref e],[]⟩) (fun fin s'=>∃ v,fin=.done (.ret v)/\Q v s') E s:=by
 obtain⟨hp,g,d,tk,os⟩:=s;show wpAny _ _ (field (.ref e) 2 >>= _) _ _ _;refine Za (ZE h1 rfl (x:=.ref it) rfl (Za (wpAny_nextOf_list_item h2 h3 hx fun ha ia sa=>?_)));have sa:Heap.SameBut it hp ha:=sa;have ea:ha.get? e=some (enOf .none (.bool false) it c old):=(sa.2 e ne).trans h1;show wpAny _ _ (field (.ref e) 3 >>= _) _ _ ⟨ha,g,d,tk,os⟩;refine Za (ZE ea rfl (x:=rawInt c) rfl ?_);show wpAny _ _ (field (.ref e) 4 >>= _) _ _ ⟨ha,g,d,tk,os⟩;refine Za (ZE ea rfl (x:=.none) rfl ?_);show wpAny _ _ (mkInt c >>= _) _ _ ⟨ha,g,d,tk,os⟩;refine Za (wpAny_mkInt ?_);show wpAny _ _ (setField (.ref e) 3 (rawInt (c+1)) >>= _) _ _ ⟨ha,g,d,tk+1,os⟩;refine Za (wpAny_setField_rec ea (by simp) fun hb eb sb=>?_)
 have sb:Heap.SameBut e ha hb:=sb;have eb:hb.get? e=some (enOf .none (.bool false) it (c+1) old):=eb;show wpAny _ _ (setField (.ref e) 4 .none >>= _) _ _ ⟨hb,g,d,tk+1,os⟩;refine Za (wpAny_setField_rec eb (by simp) fun hc ec sc=>?_)
 have sc:Heap.SameBut e hb hc:=sc;have ec:hc.get? e=some (enOf .none (.bool false) it (c+1) old):=ec;show wpAny _ _ (newTuple [.int c tk,x] >>= _) _ _ ⟨hc,g,d,tk+1,os⟩;refine Za (wpAny_newTuple ?_);have ed:(hc.push { cls:=.type "tuple",data:=.seq #[.int c tk,x] }).get? e=some (enOf .none (.bool false) it (c+1) old):=Zb _ ec;generalize eh:hc.push { cls:=.type "tuple",data:=.seq #[.int c tk,x] }=hd at ed;have zc:hc.objs.size=hp.objs.size:=by rw[sc.1,sb.1,sa.1]
 have lt:e<hp.objs.size:=Zn h1;have td:hd.get? hp.objs.size=some { cls:=.type "tuple",data:=.seq #[.int c tk,x] }:=by rw[<- eh,<- zc];exact Zs _ rfl
 have zd:hd.objs.size=hp.objs.size+1:=by rw[<- eh,Heap.size_push,zc]
 have kd:∀ b o,b≠e->b≠it->hp.get? b=some o->hd.get? b=some o:=fun b o n1 n2 y=>by
  rw[<- eh];exact Zb _ (sc.extBut b o n1 (sb.extBut b o n1 (sa.extBut b o n2 y)))
 have id':hd.IsListIter it l (i+1):=by
  obtain⟨o,ho,r⟩:=(ia.extBut sb.extBut ne.symm).extBut sc.extBut ne.symm;rw[<- eh];exact⟨o,Zb _ ho,r⟩
 show wpAny _ _ (Builtin.SmallTypes.ownedTupleIsFree (.ref e) >>= _) _ _ ⟨hd,g,d,tk+1,os⟩;rw[zc];clear eh ec sc eb sb ea sa ia zc;refine Za ?_;unfold Builtin.SmallTypes.ownedTupleIsFree;refine Za (ZE ed rfl (x:=.none) rfl (Zh ?_));simp only[if_true];refine Za (wpAny_rule (Za (ZE ed rfl (x:=old) rfl (Za (wpAny_setField_rec ed (by simp) fun he ee se=>?_)))))
 have se:Heap.SameBut e hd he:=se;have ee:he.get? e=some (enOf .none (.bool false) it (c+1) x):=ee;show wpAny _ _ (Builtin.SmallTypes.ownedTupleHandOut (.ref e) (.ref hp.objs.size) >>= _) _ _ ⟨he,g,d,tk+1,os⟩;refine Za ?_;unfold Builtin.SmallTypes.ownedTupleHandOut;refine Za (wpAny_setField_rec ee (by simp) fun hf ef sf=>?_)
 have sf:Heap.SameBut e he hf:=sf;have ef:hf.get? e=some (enOf (rawInt hp.objs.size) (.bool false) it (c+1) x):=ef;refine wpAny_setField_rec ef (by simp) fun hg eg sg=>?_
 have sg:Heap.SameBut e hf hg:=sg;have eg:hg.get? e=some (enOf (rawInt hp.objs.size) (.bool false) it (c+1) x):=eg;have up:∀ b o,b≠e->hd.get? b=some o->hg.get? b=some o:=fun b o n y=>sg.extBut b o n (sf.extBut b o n (se.extBut b o n y));refine Za (wpAny_letGo (Zh ⟨_,rfl,k hg eg ?_ (up _ _ (ne_of_gt lt) td) (by rw[sg.1,sf.1,se.1,zd]) fun b o n1 n2 y=>up b o n1 (kd b o n1 n2 y)⟩))
 exact id'.at fun o y=>up it o ne.symm y
theorem Q7j{Q:Option Value->Shared->Prop}
  (h1:s.heap.get? e=some (enOf .none (.bool false) it c old)) (h2:s.heap.IsListIter it l i) (h3:s.heap.IsList l xs) (hx:xs[i]? = some x) (ne:e≠it)
  (k:∀ h',h'.get? e=some (enOf (rawInt s.heap.objs.size) (.bool false) it (c+1) x)->h'.IsListIter it l (i+1) ->
   h'.get? s.heap.objs.size=some { cls:=.type "tuple",data:=.seq #[.int c s.toks,x] }->h'.objs.size=s.heap.objs.size+1 ->
   (∀ b o,b≠e->b≠it->s.heap.get? b=some o->h'.get? b=some o)->Q (some (.ref s.heap.objs.size)) { s with heap:=h',toks:=s.toks+1 }) :
  wpAny (model P w) A (pyNext (.ref e)) Q E s:=by
 have ty:s.TypeIs (.ref e) "enumerate":=⟨_,h1,rfl⟩;unfold pyNext;exact Za (wpAny_attempt (wpAny_callSpecial?_slot (name:=Str.ofString "__next__") ty F.slot_enumerate_next (wpAny_call_entry F.slot_enumerate_next ty F.entry_enumerate_next
  (Q7i h1 h2 h3 hx ne fun h' a b c d k'=>Zh (k h' a b c d k')) (F.args_enumerate_next_1 _))))
theorem Q8S{Q:Option Value->Shared->Prop}(hh:A.handled=none)
  (h1:s.heap.get? e=some (enOf .none (.bool false) it c old)) (h2:s.heap.IsListIter it l i) (h3:s.heap.IsList l xs) (hx:xs[i]? = none)
  (k:∀ h',Heap.ExtBut it s.heap h'->Q none { s with heap:=h' }):wpAny (model P w) A (pyNext (.ref e)) Q E s:=by
 have ty:s.TypeIs (.ref e) "enumerate":=⟨_,h1,rfl⟩;unfold pyNext;refine Za (wpAny_attempt (wpAny_callSpecial?_slot (name:=Str.ofString "__next__") ty F.slot_enumerate_next (wpAny_call_entry F.slot_enumerate_next ty F.entry_enumerate_next ?_ (F.args_enumerate_next_1 _))));show wpAny _ _ (field (.ref e) 2 >>= _) _ _ _;refine Za (ZE h1 rfl (x:=.ref it) rfl (Za (wpAny_nextOf_list_end hh h2 h3 hx fun h' y eb ⟨o,ho,hc⟩=>?_)));exact Za (wpAny_isInstance (T:="StopIteration") (b:=true) ⟨o,ho,hc⟩ isSubtype_stop (Zh (k _ eb)))
theorem QaK{elts:List Expr}{n:Nat}{pos:Pos}{e it a:Addr}{c:Int}{x:Value}{Q:Unit->Shared->Prop}(h1:s.heap.get? e=some (enOf (rawInt a) (.bool false) it c x))
  (k:∀ h',h'.get? e=some (enOf .none (.bool false) it c x)->Heap.SameBut e s.heap h'->Q () { s with heap:=h' }):wpAny (model P w) A (letOwnedTupleGo (.Tuple elts n pos) (.ref e) (.ref a)) Q E s :=
 wpAny_letOwnedTupleGo_enum h1 k
theorem Q4a{Q:Value->Shared->Prop}(h1:s.heap.get? e=some (enOf .none (.bool false) it c old))(k:Q (.ref e) s):wpAny (model P w) A (pyIter (.ref e)) Q E s:=wpAny_pyIter_enum h1 k
end
section
variable{X:Cx}{pins:List (Addr×Obj)}{σ:St}{H:Hp}{s:Shared}{h':Heap}
theorem Inv.turnedL{t':Nat}{fp:List Addr}(I:Inv X pins σ H s)(k:∀ b o,b∉fp->s.heap.get? b=some o->h'.get? b=some o)(hf:∀ b∈fp,FpOk X pins H b):Inv X pins σ H { s with heap:=h',toks:=t' }:=by
 have nit:∀ b u,H b=some u->b∉fp:=fun b u e z=>by rw[(hf b z).1]at e;cases e
 have hL:X.env.locals∉fp:=fun z=>(hf _ z).2.1 rfl;refine I.step (g':=s.gens) (d':=s.drawn) (ch:=fp) (fun b hb=>?_) (fun b o _ _ hc e _=>k b o hc e) (fun b o _ _ hc e _=>⟨o.slots,k b o hc e⟩) (fun _ _ _ _ n=>n)
  (fun b o hc e=>⟨o,k b o hc e⟩) (fun _ _ e=>e) (fun _ _ _ e=>e) (fun b ps e=>⟨#[],by rw[e];simp⟩) (fun m hm=>?_) (fun b u e=>?_) I.bare
 ·obtain⟨f0,f1,f2,f3,f4,f5⟩:=hf b hb;exact⟨f3,f1,f4,f5⟩
 ·obtain⟨o,es,ep,ho,r⟩:=hm;exact⟨o,es,ep,k _ o hL ho,r⟩
 ·refine (I.hok b u e).stay (fun c v hc q=>k c v ?_ q) (fun _ q=>q) fun _ _ q=>q;rcases hc with z | z
  ·rw[z];exact nit b u e
  ·exact nit c _ z
end
noncomputable def Ite(K:Frag)(a:Addr):It :=
 ⟨fun i H=>∃ xs x,SqL K H a xs/\xs[i]? = some x,fun i H v H'=>∃ T x,v=.ref T/\H T=none/\H'=upd H T (.tup [.int (1+(i:Int)),x])/\∀ xs,SqL K H a xs->xs[i]? = some x,fun i H=>∃ xs,SqL K H a xs/\xs.length<=i⟩
theorem Q7k{P:Program}{w:World}{K:Frag}{elts:List Expr}{n:Nat}{pos:Pos}(a e it:Addr)(ne:e≠it):Turn P w K (.Tuple elts n pos) (Ite K a) [e,it] e
  (fun i h=>(∃ old,h.get? e=some (enOf .none (.bool false) it (1+(i:Int)) old))/\h.IsListIter it a i) where
 mem:=by simp
 obj:=fun i h st b hb=>by
  obtain⟨⟨old,h1⟩,o,h2,c,d⟩:=st;rcases Zx.mp hb with rfl | hb
  ·exact⟨_,h1,fun v z=>by cases z⟩
  ·rw[Zp.mp hb];exact⟨o,h2,fun v z=>by rw[d]at z;cases z⟩
 keep:=fun i h h' st k=>⟨⟨st.1.choose,k e (by simp) _ st.1.choose_spec⟩,st.2.at fun o q=>k it (by simp) o q⟩
 item:=by
  intro X hP hw hK hc i pins s σ H E I hf st hg;subst hP hw hK;obtain⟨xs,x,hq,hx⟩:=hg;obtain⟨its,rv,p,hz⟩:=I.list hq;obtain⟨u,hu,ru⟩:=rv.get hx;obtain⟨⟨old,h1⟩,h2⟩:=st;have le:e<s.heap.objs.size:=Zn h1;have li:it<s.heap.objs.size:=by obtain⟨o,q,_⟩:=h2;exact Zn q
  refine Q7j h1 h2 p.isList (x:=u) (by simpa using hu) ne fun ha ea ia ta za ka=>⟨_,rfl,QaK ea fun hb eb sb=>?_⟩
  have sb:Heap.SameBut e ha hb:=sb;have ec:(1:Int)+(i:Int)+1=1+((i+1:Nat):Int):=by omega
  have hn:H s.heap.objs.size=none:=I.hok.fresh (Zz _);have I1:=I.laid (a:=s.heap.objs.size) (o:=.tup [.int (1+(i:Int)),x]) (h':=s.heap.push { cls:=.type "tuple",data:=.seq #[.int (1+(i:Int)) s.toks,u] }) (t':=s.toks+1) (fun b o q=>Zb _ q) (Zz _)
   ⟨by simp only[Zk,Zu];rw[sizeLine_eq];decide,[.int (1+(i:Int)) s.toks,u],.cons ⟨_,rfl⟩ (.cons ru .nil),⟨_,Zs _ rfl,rfl,_,rfl⟩⟩
  have fp:∀ b∈[e,it],FpOk X pins (upd H s.heap.objs.size (.tup [.int (1+(i:Int)),x])) b:=fun b hb=>by
   obtain⟨f0,f⟩:=hf b hb;refine⟨?_,f⟩;rw[Q0f,f0];rcases Zx.mp hb with rfl | hb
   ·exact ZD le
   ·rw[Zp.mp hb];exact ZD li
  have I2:=I1.turnedL (h':=hb) (t':=s.toks+1) (fp:=[e,it]) (fun b o nb q=>by
   have n1:b≠e:=fun z=>nb (by simp[z])
   have n2:b≠it:=fun z=>nb (by simp[z])
   refine sb.extBut b o n1 ?_;rcases Heap.get?_push_cases q with ⟨z1,z2⟩ | q
   ·rw[z1,z2];exact ta
   ·exact ka b o n1 n2 q) fp
  refine⟨.ref s.heap.objs.size,_,I2,rfl,⟨s.heap.objs.size,x,rfl,hn,rfl,fun ys hy=>by rw[I.list_inj hy hq];exact hx⟩,⟨⟨u,by rw[<- ec];exact eb⟩,ia.at fun o q=>sb.extBut _ _ ne.symm q⟩,fun b hb=>(fp b hb).1⟩
 done:=by
  intro X hP hw hK hc i pins s σ H E I hf st hg;subst hP hw hK;obtain⟨xs,hq,hx⟩:=hg;obtain⟨its,rv,p,hz⟩:=I.list hq;obtain⟨⟨old,h1⟩,h2⟩:=st;have hl:=rv.length;exact Q8S (I.ok.hd hc) h1 h2 p.isList (by simp;omega) fun h' eb=>⟨rfl,I.turnedL (t':=s.toks) (fp:=[e,it]) (fun b o nb q=>eb b o (fun z=>nb (by simp[z])) q) hf⟩
 self:=fun _ _ _ _ _ st h=>Q4a st.1.choose_spec h
end L2
namespace DL
open PySem PySem.Spec L2
open PyProof.Rows hiding St
section
variable{X:Cx}{K:Frag}{e:Expr}{te:DTE}
noncomputable def zb3(ds:List D):List D:=(ds.zipIdx 1).map fun p=>D.tup [.int p.2,p.1]
theorem Q1w(ds:List D):(zb3 ds).length=ds.length:=by unfold zb3;simp
theorem Q4b{ds:List D}{i:Nat}{d:D}(h:ds[i]? = some d):(zb3 ds)[i]? = some (.tup [.int (1+(i:Int)),d]):=by
 unfold zb3;rw[ZC,List.getElem?_zipIdx,h];simp
theorem Yields.enum{a:Addr}{ds:List D}{H:Hp}{Cd:DH->Prop}(q:∀ H' M,Ext H H'->SimM K M H'->Cd M->∃ vs,SqL K H' a vs/\Dens K H' ds vs):Yields K (Ite K a) (zb3 ds) Cd H where
 go:=fun i H' M x m c hi=>by
  obtain⟨vs,s,r⟩:=q H' M x m c;have hi':i<vs.length:=by rw[<- r.length,<- Q1w];exact hi
  exact⟨vs,vs[i],s,Zq hi'⟩
 yld:=fun i H' M y H'' x m c ⟨T,v,e1,e2,e3,h⟩ hi=>by
  subst e1 e3;obtain⟨vs,s,r⟩:=q H' M x m c;obtain⟨d,g1,g2⟩:=r.get' (h vs s);exact⟨Ext.new e2,m.new e2,_,Q4b g1,.tup Q0i (.cons (.int _) (.cons (g2.ext (Ext.new e2)) .nil))⟩
 stop:=fun i H' M x m c hi=>by
  obtain⟨vs,s,r⟩:=q H' M x m c;exact⟨vs,s,by rw[<- r.length,<- Q1w];exact hi⟩
noncomputable def zb8(te:DTE):DTI:=fun ρ M R=>te ρ M fun d M1=>match d with
 | .lst ds=>R (zb3 ds) (fun _=>True) M1
 | .ref a=>match M1 a with
  | some (.lst ds)=>R (zb3 ds) (fun M=>M a=some (.lst ds)) M1
  | _=>False
 | _=>False
theorem QaL{elts:List Expr}{n:Nat}{tpos p pos p1:Pos}{k1:Nat}(he:DE X e te)(hg:Gl X "enumerate")(hm:X.mg "enumerate" = none)(hs:starEach [e,.Constant (.int 1) k1 p1] X.env=[(false,eval e X.env),(false,eval (.Constant (.int 1) k1 p1) X.env)]) :
  DI X (.Tuple elts n tpos) (.Call (.Name "enumerate" p) [e,.Constant (.int 1) k1 p1] [] pos) (zb8 te):=by
 rintro pins s σ H R I ⟨ρ,M,RD,sm,m,h,k⟩;refine ZX (Q2g I hg hm (by rfl) ?_ (by decide) (by decide))
 refine PyProof.Rows.callWith_type1 ?_ (by rw[hs];rfl) rfl
 rw[hs];show wpAny _ _ (spliced ((false,eval e X.env)::(false,eval (.Constant (.int 1) k1 p1) X.env)::[])) _ _ s;refine Calls.spliced_cons (thn (he pins s σ H (fun v H2=>∃ d M2,Ext H H2/\SimM X.K M2 H2/\Den X.K H2 d v/\(match d with
  | .lst ds=>RD (zb3 ds) (fun _=>True) M2
  | .ref a=>match M2 a with
   | some (.lst ds)=>RD (zb3 ds) (fun M=>M a=some (.lst ds)) M2
   | _=>False
  | _=>False)) I ⟨ρ,M,_,sm,m,h,fun d M2 v H2 h2 x2 m2 e2=>⟨d,M2,x2,m2,e2,h2⟩⟩) fun u s2 ⟨x,H2,I2,r2,d,M2,x2,m2,e2,q2⟩=>?_)
 refine Calls.spliced_cons (thn ((Q6F:DE X (.Constant (.int 1) k1 p1) (dC (.int 1))) pins s2 σ H2 (fun v H3=>v=.int 1/\Ext H2 H3/\SimM X.K M2 H3) I2 ⟨ρ,M2,fun d M3=>d=.int 1/\M3=M2,sm.ext x2,m2,⟨rfl,rfl⟩,fun d M3 v H3 ⟨e3,e4⟩ x3 m3 dn=>by
  subst e3 e4;cases dn;exact⟨rfl,x3,m3⟩⟩) fun u3 s3 ⟨x3,H3,I3,r3,q3,y3,m3⟩=>?_)
 subst q3;obtain⟨t3,rfl⟩:=r3;refine Calls.spliced_nil ?_;have fin:∀ {a:Addr} {vs:List V} {ds:List D} {Cd:DH->Prop},u=.ref a->SqL X.K H3 a vs->RD (zb3 ds) Cd M2->(∀ H' M,Ext H3 H'->SimM X.K M H'->Cd M->∃ vs,SqL X.K H' a vs/\Dens X.K H' ds vs) ->
   wpAny (model X.prog X.w) X.A (call (.type "enumerate") [u,.int 1 t3]) (fun v s1=>wpAny (model X.prog X.w) X.A (pyIter v) (PIE X pins σ (.Tuple elts n tpos) R) X.xe s1) X.xe s3:=by
  intro a vs ds Cd eu sq q5 q6;subst eu;obtain⟨its,rv,p,hzz⟩:=I3.list sq;refine Q5W p.isList fun h' g1 g2 g3 g4=>Q4a g1 ?_;refine⟨s3.heap.objs.size+1,[s3.heap.objs.size+1,s3.heap.objs.size],_,_,H3,rfl,I3.kept (t':=s3.toks) g4,Q7k a _ _ (Nat.succ_ne_self _),⟨⟨_,g1⟩,g2⟩,fun b hb=>?_,k _ _ M2 H3 _ q5 (x2.trans y3) m3 (Yields.enum q6)⟩;rcases Zx.mp hb with rfl | hb
  ·exact I3.fpOk (le_succ _) (I3.hok.fresh (le_succ _))
  ·rw[Zp.mp hb];exact I3.fpOk (Zz _) (I3.hok.fresh (Zz _))
 cases e2 with
 | lst sq dn =>
  cases r2;exact fin rfl (FzL.ext y3 sq).sq q2 fun H' M x' m' _=>⟨_,(FzL.ext (y3.trans x') sq).sq,dn.ext (y3.trans x')⟩
 | ref a =>
  cases qa:M2 a with
  | none=>simp only[qa]at q2
  | some o =>
   cases o with
   | oth _=>simp only[qa]at q2
   | lst ds =>
    simp only[qa]at q2;cases r2;obtain⟨vs,e5,dn⟩:=m3.get qa;exact fin rfl (.of e5) q2 fun H' M x' m' c=>by
     obtain⟨vs,e6,dn⟩:=m'.get c;exact⟨vs,.of e6,dn⟩
 | _=>exact False.elim q2
end
section
variable{α:Type}
noncomputable def valT(kvs:List (List Nat×D))(k:List Nat):Option D:=(kvs.find? fun kv=>decide (kv.1=k)).map (·.2)
noncomputable def putT(kvs:List (List Nat×D))(k:List Nat)(v:D):List (List Nat×D) :=
 if (kvs.any fun kv=>decide (kv.1=k))=true then kvs.map (fun kv=>if kv.1=k then (kv.1,v) else kv) else kvs++[(k,v)]
theorem Q5d(e:p.1=k):valT (p::r) k=some p.2:=by simp[valT,find?_cons,e]
theorem Q5e(e:¬ p.1=k):valT (p::r) k=valT r k:=by simp[valT,find?_cons,e]
theorem Q5f(k:List Nat):∀ kvs:List (List Nat×D),(kvs.any fun kv=>decide (kv.1=k))=(valT kvs k).isSome
 | []=>rfl
 | p::r=>by
  rw[any_cons];by_cases e:p.1=k
  ·simp only[Q5d e,Ze e,Bool.true_or,Option.isSome_some]
  ·rw[Q5e e,Zg e,Bool.false_or];exact Q5f k r
end
theorem Q7l(e:tkk a=tkk b):a=b:=S_inj (Sum.inr.inj e)
section
variable{K:Frag}{H:Hp}
theorem KTs.val(r:KTs K H kvs vs)(k:List Nat) :
  (valT kvs k=none/\valV vs (tkk k)=none)\/∃ d v,valT kvs k=some d/\valV vs (tkk k)=some v/\Den K H d v:=by
 induction r with
 | nil=>exact .inl ⟨rfl,rfl⟩
 | @cons p q ps qs h t ih =>
  by_cases e:p.1=k
  ·exact .inr ⟨p.2,q.2,Q5d e,Q1r (by rw[h.1,e]),h.2⟩
  ·rw[Q5e e,Q1s (by rw[h.1];exact fun z=>e (Q7l z))];exact ih
theorem KTs.put(r:KTs K H kvs vs)(k:List Nat)(den:Den K H d v):KTs K H (putT kvs k d) (putK vs (tkk k) v):=by
 have an:(kvs.any fun kv=>decide (kv.1=k))=vs.any fun kv=>decide (kv.1=tkk k):=by
  rw[Q5f,Q1Y];rcases r.val k with ⟨a,b⟩ | ⟨x,y,a,b,_⟩ <;> rw[a,b] <;> rfl
 unfold putT putK;rw[an];by_cases e:(vs.any fun kv=>decide (kv.1=tkk k))=true
 ·rw[Zm e,Zm e];clear an e
  induction r with
  | nil=>exact .nil
  | @cons p q ps qs h t ih =>
   rw[Z8,Z8];refine .cons ?_ ih;by_cases e:p.1=k
   ·rw[Zm e,Zm (by rw[h.1,e])];exact⟨h.1,den⟩
   ·rw[Zj e,Zj (by rw[h.1];exact fun z=>e (Q7l z))];exact h
 ·rw[Zj e,Zj e];exact Paired.snoc r ⟨rfl,den⟩
theorem KTs.length(r:KTs K H kvs vs):kvs.length=vs.length:=Paired.length r
end
theorem SimM.dkt{K:Frag}{H:Hp}{M:DH}(h:SimM K M H){a:Addr}{kvs:List (List Nat×D)}(e:M a=some (.oth (.dkt kvs))):∃ vs,H a=some (.dK vs)/\KTs K H kvs vs:=h a _ e
section
variable{X:Cx}{e o value a b k:Expr}{es:List Expr}{pos pos' apos cpos p:Pos}{te tv tk td:DTE}{t:DTA}
noncomputable def dTNew:DTE:=fun _ M Q=>∀ q,M q=none->Q (.ref q) (dupd M q (.oth (.dkt [])))
noncomputable def rInT(f:Bool->Bool):DR2:=fun x y M Q=>∃ (n:List Nat) (a:Addr) (kvs:List (List Nat×D)),x=.str n/\y=.ref a/\M a=some (.oth (.dkt kvs))/\Q (.bl (f (valT kvs n).isSome)) M
noncomputable def rTIx:DR2:=fun x y M Q=>∃ (n:List Nat) (a:Addr) (kvs:List (List Nat×D)) (d:D),y=.str n/\x=.ref a/\M a=some (.oth (.dkt kvs))/\valT kvs n=some d/\Q d M
noncomputable def dTGet2(td tk tx:DTE):DTE:=fun ρ M Q=>td ρ M fun x M1=>∃ (a:Addr) (kvs0:List (List Nat×D)),x=.ref a/\M1 a=some (.oth (.dkt kvs0))/\tk ρ M1 fun y M2=>tx ρ M2 fun z M3=>∃ (n:List Nat) (kvs:List (List Nat×D)),y=.str n/\M3 a=some (.oth (.dkt kvs))/\Q ((valT kvs n).getD z) M3
noncomputable def dTPut(td tk tv:DTE):DTS:=fun DD ρ M=>tv ρ M fun v M1=>td ρ M1 fun x M2=>tk ρ M2 fun y M3=>∃ (a:Addr) (n:List Nat) (kvs:List (List Nat×D)),x=.ref a/\y=.str n/\M3 a=some (.oth (.dkt kvs))/\kvs.length<sizeLine/\DD.nx ρ (dupd M3 a (.oth (.dkt (putT kvs n v))))
noncomputable def dDispT(tk tv:DTE):DTE:=fun ρ M Q=>∀ q,M q=none->tk ρ (dupd M q (.oth (.dkt []))) fun x M1=>tv ρ M1 fun y M2=>∃ n:List Nat,x=.str n/\M2 q=some (.oth (.dkt []))/\Q (.ref q) (dupd M2 q (.oth (.dkt [(n,y)])))
end
end DL
namespace L2
open PySem PySem.Spec PyProof.Rows
section
variable{prog:Program}{w:World}{A:Around}{E:Value->Shared->Prop}{s:Shared}{a:Addr}
end
section
variable{X:Cx}{pins:List (Addr×Obj)}{σ:St}{H:Hp}{s:Shared}{A:Around}{E:Value->Shared->Prop}
end
noncomputable abbrev PairsOk{κ:Type}(kr:Hp->κ->V->Prop)(H:Hp):List V->List (κ×V)->Prop:=Paired fun x p=>∃ t y,x=.ref t/\H t=some (.tup [y,p.2])/\kr H p.1 y
noncomputable def putAll{κ:Type}[DecidableEq κ](kvs:List (κ×V))(ps:List (κ×V)):List (κ×V):=ps.foldl (fun a p=>putK a p.1 p.2) kvs
noncomputable abbrev KeySet{κ:Type}[DecidableEq κ](X:Cx)(pins:List (Addr×Obj))(σ:St)(H:Hp)(mk:List (κ×V)->HO)(kr:Hp->κ->V->Prop)(d:Addr):Prop:=∀ (A:Around) (E:Value->Shared->Prop) (s:Shared) (kvs:List (κ×V)) (k:κ) (y v:V) (u r:Value) (Q:Unit->Shared->Prop),Inv X pins σ (upd H d (mk kvs)) s->kr H k y->RelV y u->RelV v r->kvs.length<sizeLine->A.units<cLine ->
 (∀ s',Inv X pins σ (upd H d (mk (putK kvs k v))) s'->(∀ c o,c≠d->s.heap.get? c=some o->s'.heap.get? c=some o)->Q () s')->wpAny (model X.prog X.w) A (dictSet d u r) Q E s
noncomputable def krT(H:Hp)(k:List Key)(y:V):Prop:=∃ b,y=.ref b/\H b=some (.tup (k.map kV))
section
variable{X:Cx}{pins:List (Addr×Obj)}{σ:St}{H:Hp}{A:Around}{R:Result->Shared->Prop}{d it l:Addr}{xs:List V}{κ:Type}[DecidableEq κ]{mk:List (κ×V)->HO}{kr:Hp->κ->V->Prop}{ps:List (κ×V)}
end
section
variable{X:Cx}{pins:List (Addr×Obj)}{σ:St}{H:Hp}{s:Shared}{l:Addr}{xs:List V}{κ:Type}[DecidableEq κ]{mk:List (κ×V)->HO}{kr:Hp->κ->V->Prop}{ps:List (κ×V)}{Q:Value->Shared->Prop}
end
end L2
namespace DL
open PySem PySem.Spec L2
open PyProof.Rows hiding St
section
variable{X:Cx}{K:Frag}{H:Hp}
noncomputable def pairD(p:List (List Nat)×D):D:=.tup [.tup (p.1.map .str),p.2]
noncomputable def putAllD(kvs ps:List (List (List Nat)×D)):List (List (List Nat)×D):=ps.foldl (fun a p=>putD a p.1 p.2) kvs
noncomputable def rDictOf:List D->DH->DK->Prop:=fun ds M Q=>match ds with
 | [d]=>∃ ps:List (List (List Nat)×D),zar M d=some (ps.map pairD)/\ps.length<=sizeLine/\∀ q,M q=none->Q (.ref q) (dupd M q (.oth (.dct (putAllD [] ps))))
 | _=>False
end
section
variable{X:Cx}
noncomputable def rNeK:DR2:=fun x y M Q=>∃ (a b:Addr) (ka kb:List (List Nat×D)),x=.ref a/\y=.ref b/\M a=some (.oth (.dkt ka))/\M b=some (.oth (.dkt kb))/\ka.length=kb.length /\
 (∀ p∈ka,∃ d,valT kb p.1=some d/\plain 11 (res M p.2)=true/\res M d=res M p.2)/\Q (.bl false) M
noncomputable def rEqK:DR2:=fun x y M Q=>∃ (a b:Addr) (ka kb:List (List Nat×D)),x=.ref a/\y=.ref b/\M a=some (.oth (.dkt ka))/\M b=some (.oth (.dkt kb))/\ka.length=kb.length /\
 (∀ p∈ka,∃ d,valT kb p.1=some d/\plain 11 (res M p.2)=true/\res M d=res M p.2)/\Q (.bl true) M
end
section
variable{X:Cx}{e:Expr}{te:DTE}
noncomputable def rEqR:DR2:=fun x y M Q=>∃ (a:Addr) (ds:List D),M a=some (.lst ds)/\plain 12 (subT a ds x)=true/\plain 12 y=true/\Q (.bl (eqB (subT a ds x) y)) M
theorem Qck(hu:X.A.units+64<cLine):OpD X (compareOp .Eq) rEqR:=by
 rintro pins s σ H x y v u Q I rx ry ⟨dx,dy,M,R,ex,ey,m,⟨a,ds,ha,h1,h2,q⟩,k⟩;have sh:∀ d:PyData,d.canLay0=true->d.depth<=12->SeqAt.shaped d=true:=fun d h1 h2=>by
  unfold SeqAt.shaped;rw[h1,Bool.true_and];exact Ze (by omega)
 obtain⟨vs,e1,e2⟩:=m.get ha;obtain⟨o,I2⟩:=I.frozen e1;have x:=Ext.lst (o:=.frz o (.lst vs)) e1;have den:Den X.K (upd H a (.frz o (.lst vs))) (.lst ds) (.ref a):=.lst (.inl ⟨o,Q0i⟩) (e2.ext x);have ex':=Den.subT x den ex;have ey':=ey.ext x;obtain⟨as,ra⟩:=Q0y I2 _ _ _ _ h1 ex' rx;obtain⟨bs,rb⟩:=Q0y I2 _ _ _ _ h2 ey' ry;obtain⟨c1,d1⟩:=Q0W _ _ _ h1 ex';obtain⟨c2,d2⟩:=Q0W _ _ _ h2 ey';refine SeqAt.compareEq_shaped ra rb (sh _ c1 d1) (sh _ c2 d2) hu ?_;rw[bEq _ _ _ _ h1 h2];exact⟨.bl _,H,I,rfl,k _ M _ H q (Ext.refl H) m (.bl _)⟩
noncomputable def subL(a:Addr)(ds:List D):D->D
 | .lst xs=>.lst (xs.map (subT a ds))
 | d=>d
theorem Dens.subT{K:Frag}{H H':Hp}{a:Addr}{ds:List D}(x:Ext H H')(den:Den K H' (.lst ds) (.ref a)):∀ {xs:List D} {vs:List V},Dens K H xs vs->Dens K H' (xs.map (DL.subT a ds)) vs
 | [],_,.nil=>.nil
 | _::_,_,.cons h r=>.cons (Den.subT x den h) (Dens.subT x den r)
theorem Den.subL{K:Frag}{H H':Hp}{a:Addr}{ds:List D}(x:Ext H H')(den:Den K H' (.lst ds) (.ref a)){d:D}{v:V}(h:Den K H d v):Den K H' (subL a ds d) v:=by
 cases h with
 | lst f r=>exact .lst (FzL.ext x f) (Dens.subT x den r)
 | tup e r=>exact (Den.tup e r).ext x
 | non=>exact .non
 | bl b=>exact .bl b
 | int i=>exact .int i
 | str y hy=>exact .str y hy
 | ref b=>exact .ref b
noncomputable def dfzL:List Addr->D->DH->DK->Prop
 | [],d,M,Q=>Q d M
 | a::as,d,M,Q=>∃ ds,M a=some (.lst ds)/\dfzL as (subL a ds d) (ddel M a) Q
noncomputable def dDfz(te:DTE):DTE:=fun ρ M Q=>dFrz te ρ M fun d M1=>∃ as:List Addr,dfzL as d M1 Q
end
end DL
namespace L2
open PySem PySem.Spec PyProof.Rows
section
variable{prog:Program}{w:World}{K:Type}[DecidableEq K]{knd:HeapKind prog w K}{A:Around}{E:Value->Shared->Prop}{s:Shared}
end
end L2
namespace DL
open PySem PySem.Spec L2
open PyProof.Rows hiding St
section
variable{X:Cx}
noncomputable def rEqE:DR2:=fun x y M Q=>∃ xs,zar M x=some xs/\y=.lst []/\Q (.bl xs.isEmpty) M
noncomputable def rInO:DR2:=fun x y M Q=>(∃ (n:List (List Nat)) (a:Addr) (kvs:List (List (List Nat)×D)),x=.tup (n.map .str)/\y=.ref a/\M a=some (.oth (.dct kvs))/\Q (.bl (valD kvs n).isSome) M)\/(∃ (a:Addr) (kvs:List (List (List Nat)×D)),x=.non/\y=.ref a/\M a=some (.oth (.dct kvs))/\Q (.bl false) M)
noncomputable def dDGet1(td tk:DTE):DTE:=fun ρ M Q=>td ρ M fun x M1=>∃ (a:Addr) (kvs0:List (List (List Nat)×D)),x=.ref a/\M1 a=some (.oth (.dct kvs0))/\tk ρ M1 fun y M2=>∃ kvs:List (List (List Nat)×D),M2 a=some (.oth (.dct kvs))/\((∃ n:List (List Nat),y=.tup (n.map .str)/\Q ((valD kvs n).getD .non) M2)\/(y=.non/\Q .non M2))
end
section
variable{X:Cx}
noncomputable def subU(a:Addr)(ds:List D):D->D
 | .tup xs=>.tup (xs.map (subT a ds))
 | d=>d
theorem Dens.subU{K:Frag}{H H':Hp}{a:Addr}{ds:List D}(x:Ext H H')(den:Den K H' (.lst ds) (.ref a)):∀ {xs:List D} {vs:List V},Dens K H xs vs->Dens K H' (xs.map (DL.subU a ds)) vs:=by
 have inner:∀ {xs:List D} {vs:List V},Dens K H xs vs->Dens K H' (xs.map (DL.subT a ds)) vs:=by
  intro xs
  induction xs with
  | nil=>intro vs h;cases h;exact .nil
  | cons d r ih=>intro vs h;cases h with | cons h1 h2=>exact .cons (Den.subT x den h1) (ih h2)
 have one:∀ {d:D} {v:V},Den K H d v->Den K H' (DL.subU a ds d) v:=by
  intro d v h;cases h with
  | tup e r=>exact .tup (x.tup _ _ e) (inner r)
  | lst e r=>exact Den.ext x (.lst e r)
  | ref b=>exact .ref b
  | str z hz=>exact .str z hz
  | int i=>exact .int i
  | bl b=>exact .bl b
  | non=>exact .non
 intro xs
 induction xs with
 | nil=>intro vs h;cases h;exact .nil
 | cons d r ih=>intro vs h;cases h with | cons h1 h2=>exact .cons (one h1) (ih h2)
noncomputable def rEqL:DR2:=fun x y M Q=>(∃ (q a:Addr) (ds xs:List D),x=.ref q/\q≠a/\M q=some (.lst ds)/\M a=some (.lst xs)/\plain 12 (.lst (ds.map (subU a xs)))=true/\plain 12 y=true/\Q (.bl (eqB (.lst (ds.map (subU a xs))) y)) M)\/rEqN id x y M Q
end
section
variable{X:Cx}{o k:Expr}{td tk:DTE}{pos:Pos}
theorem Dens.put{K:Frag}{H:Hp}{d:D}{v:V}(r:Den K H d v):∀ {ds:List D} {vs:List V} (j:Nat),Dens K H ds vs->Dens K H (ds.set j d) (vs.set j v)
 | _,_,_,.nil=>.nil
 | _,_,0,.cons _ t=>.cons r t
 | _,_,j+1,.cons h t=>.cons h (Dens.put r j t)
noncomputable def dLPut(td tk tv:DTE):DTS:=fun DD ρ M=>tv ρ M fun v M1=>td ρ M1 fun x M2=>tk ρ M2 fun y M3=>∃ (a:Addr) (xs:List D) (j:Nat),x=.ref a/\y=.int j/\M3 a=some (.lst xs)/\j<xs.length/\DD.nx ρ (dupd M3 a (.lst (xs.set j v)))
end
end DL
namespace L2
open PySem PySem.Spec PyProof.Rows
noncomputable def rExtendF(K:Frag):V->List V->Hp->VK->Prop:=fun x vs H Q=>∃ l b xs zs,x=.ref l/\vs=[.ref b]/\H l=some (.lst xs)/\SqL K H b zs/\xs.length+zs.length<=sizeLine/\Q .non (upd H l (.lst (xs++zs)))
end L2
namespace DL
open PySem PySem.Spec L2
open PyProof.Rows hiding St
section
variable{X:Cx}
noncomputable def mExtend:D->List D->DH->DK->Prop:=fun d ds M Q=>∃ (a:Addr) (xs ys:List D),d=.ref a/\ds=[.lst ys]/\M a=some (.lst xs)/\xs.length+ys.length<=sizeLine/\Q .non (dupd M a (.lst (xs++ys)))
noncomputable def rNinB:DR2:=fun x y M Q=>∃ (b:Bool) (bs:List Bool),x=.bl b/\zar M y=some (bs.map .bl)/\Q (.bl (!(bs.any fun c=>c==b))) M
noncomputable def mIdx:D->List D->DH->DK->Prop:=fun d ds M Q=>∃ (x:D) (xs:List D) (j:Nat),ds=[x]/\zar M d=some xs/\plain 11 (res M x)=true/\xs.all (plain 11)=true /\
 (xs.map fun d=>eqB d (res M x))[j]? = some true/\(∀ i,i<j->(xs.map fun d=>eqB d (res M x))[i]? = some false)/\Q (.int j) M
end
end DL
namespace L2
open PySem PySem.Spec PyProof.Rows
section
variable{X:Cx}{pins:List (Addr×Obj)}{σ:St}{H:Hp}{s:Shared}{a:Addr}{v:V}{r u:Value}{A:Around}{E:Value->Shared->Prop}{kvs:List (Key×V)}{k:Key}
end
noncomputable def tKSetd(td ty tx:TE):TE:=fun σ H Q=>td σ H fun x H1=>∃ a,x=.ref a/\IsD H1 a/\ty σ H1 fun y H2=>tx σ H2 fun z H3=>∃ kvs k,H3 a=some (.dK kvs)/\y=kV k/\kvs.length<sizeLine /\
 (∀ v,valV kvs k=some v->Q v H3)/\(valV kvs k=none->Q z (upd H3 a (.dK (putK kvs k z))))
section
variable{X:Cx}{pins:List (Addr×Obj)}{σ:St}{H:Hp}{s:Shared}{a b:Addr}{v:V}{r:Value}{A:Around}{E:Value->Shared->Prop}{kvs:List (List Key×V)}{k:List Key}
end
noncomputable def tTPop(td ty tx:TE):TE:=fun σ H Q=>td σ H fun x H1=>∃ a,x=.ref a/\IsD H1 a/\ty σ H1 fun y H2=>tx σ H2 fun z H3=>∃ kvs k b,H3 a=some (.dT kvs)/\y=.ref b/\H3 b=some (.tup (k.map kV))/\valV kvs k=none/\Q z H3
end L2
namespace DL
open PySem PySem.Spec L2
open PyProof.Rows hiding St
section
variable{X:Cx}{o k:Expr}{apos cpos:Pos}{td tk:DTE}
noncomputable def dTSetd(td tk tx:DTE):DTE:=fun ρ M Q=>td ρ M fun x M1=>∃ (a:Addr) (kvs0:List (List Nat×D)),x=.ref a/\M1 a=some (.oth (.dkt kvs0))/\tk ρ M1 fun y M2=>tx ρ M2 fun z M3=>∃ (n:List Nat) (kvs:List (List Nat×D)),y=.str n/\M3 a=some (.oth (.dkt kvs))/\kvs.length<sizeLine /\
 (∀ d,valT kvs n=some d->Q d M3)/\(valT kvs n=none->Q z (dupd M3 a (.oth (.dkt (putT kvs n z)))))
noncomputable def dDPop0(td tk tx:DTE):DTE:=fun ρ M Q=>td ρ M fun x M1=>∃ (a:Addr) (kvs0:List (List (List Nat)×D)),x=.ref a/\M1 a=some (.oth (.dct kvs0))/\tk ρ M1 fun y M2=>tx ρ M2 fun z M3=>∃ (n:List (List Nat)) (kvs:List (List (List Nat)×D)),y=.tup (n.map .str)/\M3 a=some (.oth (.dct kvs))/\valD kvs n=none/\Q z M3
end
section
variable{X:Cx}{o value:Expr}{pos pos':Pos}{tv:DTE}
noncomputable def dFAug(c f:Str)(to tv:DTE):DTS:=fun DD ρ M=>to ρ M fun x M1=>∃ a fs i,x=.ref a/\M1 a=some (.oth (.ins c fs))/\fs.lookup f=some (.int i) /\
 tv ρ M1 fun y M2=>∃ j fs',y=.int j/\M2 a=some (.oth (.ins c fs'))/\fs'.length<1000/\DD.nx ρ (dupd M2 a (.oth (.ins c (zbY f (.int (i+j)) fs'))))
end
end DL
namespace L2
open PySem PySem.Spec PyProof.Rows
noncomputable def IsDct(u:HO):Prop:=(∃ kvs,u=.dK kvs)\/∃ kvs,u=.dT kvs
noncomputable def sizeD:HO->Nat
 | .dK kvs=>kvs.length
 | .dT kvs=>kvs.length
 | _=>0
noncomputable def KeyAt(H:Hp)(i:Nat)(x:V):HO->Prop
 | .dK kvs=>∃ p,kvs[i]? = some p/\x=kV p.1
 | .dT kvs=>∃ p b,kvs[i]? = some p/\x=.ref b/\H b=some (.tup (p.1.map kV))
 | _=>False
noncomputable def ItF(a:Addr)(ob:Obj)(u:HO):It:=⟨fun i H=>H a=some (.frz ob u)/\i<sizeD u,fun i H x H'=>H'=H/\KeyAt H i x u,fun i H=>H a=some (.frz ob u)/\sizeD u<=i⟩
section
variable{P:Program}{w:World}{H:Hp}{h:Heap}{a:Addr}{ob:Obj}{u:HO}
end
section
variable{X:Cx}{tg:Expr}
noncomputable def iKeysF(tl:TE):TI:=fun σ H R=>tl σ H fun x H1=>∃ a u,x=.ref a/\IsDct u/\H1 a=some u/\∀ ob,R (ItF a ob u) (upd H1 a (.frz ob u))
end
section
variable{X:Cx}{pins:List (Addr×Obj)}{σ:St}{H:Hp}{s:Shared}{A:Around}{E:Value->Shared->Prop}
end
noncomputable def krK(_:Hp)(k:Key)(y:V):Prop:=y=kV k
end L2
namespace DL
open PySem PySem.Spec L2
open PyProof.Rows hiding St
noncomputable def gdT(x:List Nat):Prop:=(x.all fun c=>decide (c<1114112))=true
section
variable{K:Frag}{H:Hp}{M:DH}{a:Addr}{ob:Obj}
theorem SimM.dkf(h:SimM K M H)(e:M a=some (.oth (.dkf ob kvs))):∃ vs,H a=some (.frz ob (.dK vs))/\KTs K H kvs vs:=h a _ e
theorem SimM.dcf(h:SimM K M H)(e:M a=some (.oth (.dcf ob kvs))):∃ vs,H a=some (.frz ob (.dT vs))/\KDs K H kvs vs:=h a _ e
end
section
variable{X:Cx}{tg e o k:Expr}{te td tk:DTE}{pos:Pos}
noncomputable def diKeysT(te:DTE):DTI:=fun ρ M R=>te ρ M fun d M1=>∃ (a:Addr) (kvs:List (List Nat×D)),d=.ref a/\M1 a=some (.oth (.dkt kvs))/\(∀ p∈kvs,gdT p.1)/\∀ ob,R (kvs.map fun p=>.str p.1) (fun _=>True) (dupd M1 a (.oth (.dkf ob kvs)))
noncomputable def diKeysD(te:DTE):DTI:=fun ρ M R=>te ρ M fun d M1=>∃ (a:Addr) (kvs:List (List (List Nat)×D)),d=.ref a/\M1 a=some (.oth (.dct kvs))/\(∀ p∈kvs,∀ w∈p.1,gdT w)/\∀ ob,R (kvs.map fun p=>.tup (p.1.map .str)) (fun _=>True) (dupd M1 a (.oth (.dcf ob kvs)))
noncomputable def rTIxF:DR2:=fun x y M Q=>∃ (n:List Nat) (a:Addr) (ob:Obj) (kvs:List (List Nat×D)) (d:D),y=.str n/\x=.ref a/\M a=some (.oth (.dkf ob kvs))/\valT kvs n=some d/\Q d M
noncomputable def rDIxF:DR2:=fun x y M Q=>∃ (n:List (List Nat)) (a:Addr) (ob:Obj) (kvs:List (List (List Nat)×D)) (d:D),y=.tup (n.map .str)/\x=.ref a/\M a=some (.oth (.dcf ob kvs))/\valD kvs n=some d/\Q d M
noncomputable def rInF:DR2:=fun x y M Q=>∃ (n:List (List Nat)) (a:Addr) (ob:Obj) (kvs:List (List (List Nat)×D)),x=.tup (n.map .str)/\y=.ref a/\M a=some (.oth (.dcf ob kvs))/\Q (.bl (valD kvs n).isSome) M
noncomputable def dFzT(te:DTE):DTE:=fun ρ M Q=>te ρ M fun d M1=>(∃ (a:Addr) (ds:List D),M1 a=some (.lst ds)/\Q (subT a ds d) (ddel M1 a))\/Q d M1
theorem Qcl(he:DE X e te):DE X e (dFzT te):=by
 rintro pins s σ H Q I ⟨ρ,M,R,ss,m,h,k⟩;refine thn (he pins s σ H (fun v H'=>∃ d M1,((∃ (a:Addr) (ds:List D),M1 a=some (.lst ds)/\R (subT a ds d) (ddel M1 a))\/R d M1)/\Ext H H'/\SimM X.K M1 H'/\Den X.K H' d v) I ⟨ρ,M,_,ss,m,h,fun d M1 v H1 h1 x1 m1 e1=>⟨d,M1,h1,x1,m1,e1⟩⟩) fun u s' z=>?_;obtain⟨v,H',I',r,d,M1,q,x,m',den⟩:=z;rcases q with ⟨a,ds,ha,q⟩ | q
 ·obtain⟨vs,e1,e2⟩:=m'.get ha;obtain⟨o,I2⟩:=I'.frozen e1;have y:=Ext.lst (o:=.frz o (.lst vs)) e1;have den2:Den X.K (upd H' a (.frz o (.lst vs))) (.lst ds) (.ref a):=.lst (.inl ⟨o,Q0i⟩) (e2.ext y);exact⟨v,_,I2,r,k _ _ _ _ q (x.trans y) (m'.frz e1) (Den.subT y den2 den)⟩
 ·exact⟨v,H',I',r,k _ _ _ _ q x m' den⟩
noncomputable def pairT(p:List Nat×D):D:=.tup [.str p.1,p.2]
noncomputable def putAllT(kvs ps:List (List Nat×D)):List (List Nat×D):=ps.foldl (fun a p=>putT a p.1 p.2) kvs
noncomputable def rDictT:List D->DH->DK->Prop:=fun ds M Q=>match ds with
 | [d]=>∃ ps:List (List Nat×D),zar M d=some (ps.map pairT)/\ps.length<=sizeLine/\∀ q,M q=none->Q (.ref q) (dupd M q (.oth (.dkt (putAllT [] ps))))
 | _=>False
noncomputable def rSortT:List D->DH->DK->Prop:=fun ds M Q=>match ds with
 | [d]=>∃ (a:Addr) (kvs:List (List Nat×D)),d=.ref a/\M a=some (.oth (.dkt kvs))/\kvs.length<64/\(∀ p∈kvs,gdT p.1)/\∀ zs':List (List Nat),zs'.Perm (kvs.map (·.1))->zs'.Pairwise (fun a b=>a<=b)->∀ p,M p=none->Q (.ref p) (dupd M p (.lst (zs'.map .str)))
 | _=>False
end
end DL
namespace IR
open PySem PySem.Spec L2 DL
open PyProof.Rows hiding St
inductive Lit where
 | non | bl (b:Bool) | int (i:Int) | str (x:List Nat)
noncomputable def Lit.d:Lit->D
 | .non=>.non | .bl b=>.bl b | .int i=>.int i | .str x=>.str x
noncomputable def Lit.ck:Lit->Const->Bool
 | .non,.none=>true
 | .bl b,.bool c=>b==c
 | .int i,.int j=>i==j
 | .str x,.str y=>x==y.cps.toList&&(x.all fun c=>decide (c<1114112))
 | _,_=>false
inductive Bn where
 | add | sub | mul | fdiv | mod | pow | mulS | addL
 deriving DecidableEq
noncomputable def Bn.op:Bn->Operator
 | .add=>.Add
 | .sub=>.Sub
 | .mul=>.Mult
 | .fdiv=>.FloorDiv
 | .mod=>.Mod
 | .pow=>.Pow
 | .mulS=>.Mult
 | .addL=>.Add
noncomputable def Bn.r:Bn->DR2
 | .add=>rAddD
 | .sub=>rI2 (fun _ _=>True) (fun i j=>i-j)
 | .mul=>rI2 CMul (fun i j=>i * j)
 | .fdiv=>rI2 CDiv (fun i j=>i / j)
 | .mod=>rI2 (fun _ j=>0<j) (fun i j=>i % j)
 | .pow=>rI2 CPow (fun i j=>i ^ j.toNat)
 | .mulS=>zbW
 | .addL=>rAddL
theorem Bn.ok:∀ b:Bn,OpD X (binaryOp b.op) b.r
 | .add=>Qc3
 | .sub=>QbZ
 | .mul=>Qc0
 | .fdiv=>Qam
 | .mod=>Qc1
 | .pow=>Qc2
 | .mulS=>Qay
 | .addL=>QaB
inductive Cp where
 | eq | ne | lt | le | gt | isN | inn | nin | eqR
 deriving DecidableEq
noncomputable def Cp.op:Cp->CmpOp
 | .eq=>.Eq
 | .ne=>.NotEq
 | .lt=>.Lt
 | .le=>.LtE
 | .gt=>.Gt
 | .isN=>.Is
 | .inn=>.In
 | .nin=>.NotIn
 | .eqR=>.Eq
noncomputable def Cp.r:Cp->DR2
 | .eq=>rEqN id
 | .ne=>rEqN not
 | .lt=>rLtD (fun i j=>decide (i<j))
 | .le=>rLtD (fun i j=>decide (i<=j))
 | .gt=>rLtD (fun i j=>decide (j<i))
 | .isN=>rIsN id
 | .inn=>rIn1 id
 | .nin=>rIn1 not
 | .eqR=>rEqR
theorem l64(h:n+100<cLine):n+64<cLine:=lt_of_le_of_lt (Nat.add_le_add_left (by decide) _) h
theorem Cp.ok(hu':X.A.units+100<cLine):∀ b:Cp,OpD X (compareOp b.op) b.r
 | .eq=>od_eq (l64 hu')
 | .ne=>od_ne (l64 hu')
 | .lt=>od_lt
 | .le=>od_le
 | .gt=>od_gt
 | .isN=>Qc6
 | .inn=>od_in (l64 hu')
 | .nin=>Q8I (l64 hu')
 | .eqR=>Qck (l64 hu')
inductive Bl where
 | len | tuple | ord | str | int | all
 deriving DecidableEq
noncomputable def Bl.nm:Bl->Str
 | .len=>"len"
 | .tuple=>"tuple"
 | .ord=>"ord"
 | .str=>"str"
 | .int=>"int"
 | .all=>"all"
noncomputable def Bl.r:Bl->List D->DH->DK->Prop
 | .len=>rLen
 | .tuple=>zbD
 | .ord=>rOrd
 | .str=>rStr
 | .int=>rInt
 | .all=>rAll false
inductive Ms where
 | strip | rstrip | startswith | endswith | join | split | lower | upper
 deriving DecidableEq
noncomputable def Ms.nm:Ms->Str
 | .strip=>"strip"
 | .rstrip=>"rstrip"
 | .startswith=>"startswith"
 | .endswith=>"endswith"
 | .join=>"join"
 | .split=>"split"
 | .lower=>"lower"
 | .upper=>"upper"
noncomputable def Ms.r:Ms->D->List D->DH->DK->Prop
 | .strip=>m1S (fun z _=>z.length<=sizeLine) fun z y=>.str (zai true true y z)
 | .rstrip=>m1S (fun z _=>z.length<=sizeLine) fun z y=>.str (zai false true y z)
 | .startswith=>m1S (fun _ _=>True) fun z y=>.bl (decide (z.take y.length=y))
 | .endswith=>m1S (fun _ _=>True) fun z y=>.bl (decide (y.length<=z.length/\z.drop (z.length-y.length)=y))
 | .join=>mJoin
 | .split=>zbl
 | .lower=>m0S lo1
 | .upper=>m0S up1
inductive Ml where
 | append
 deriving DecidableEq
noncomputable def Ml.nm:Ml->Str
 | .append=>"append"
noncomputable def Ml.r:Ml->D->List D->DH->DK->Prop
 | .append=>zaR
inductive FP where
 | lit (w:List Nat)
 | var (i:Nat)
noncomputable def FP.d:FP->DTE
 | .lit w=>dC (.str w)
 | .var i=>dFmt (dVar i)
set_option genSizeOf false in
set_option genInjectivity false in
inductive CE where
 | var (i:Nat)
 | con (l:Lit)
 | glob (i:Nat)
 | bin (op:Bn) (a b:CE)
 | cmp (op:Cp) (a b:CE)
 | chain (o p:Cp) (a b c:CE)
 | and (a b:CE) | or (a b:CE) | not (a:CE) | neg (a:CE)
 | ite (c a b:CE)
 | ix (a b:CE)
 | sl (a lo hi:CE)
 | tup (as:CE) | lst (as:CE) | lstz (as:CE) | frz (e:CE)
 | call (f:Nat) (as:CE)
 | callx (f:Nat) (as:CE)
 | blt (b:Bl) (as:CE)
 | isi (T:Ty) (e:CE)
 | ms (m:Ms) (o as:CE)
 | ml (m:Ml) (o as:CE)
 | joinr (o e:CE)
 | fstr (ps:List FP)
 | fzt (e:CE)
 | comp (two:Bool) (ix:List Nat) (it c e:CE)
 | compz (two:Bool) (ix:List Nat) (it c e:CE)
 | compe (ix:List Nat) (it c e:CE)
 | rng1 (a:CE) | rev (a:CE)
 | nil | cons (a as:CE)
noncomputable def CE.len:CE->Nat
 | .cons _ as=>as.len+1
 | _=>0
structure FI where
 nm:Str
 np:Nat
 dds:List D
 sp:DSp
structure KI where
 nm:Str
 ks:List Str
 g:List D->List D->List D
 sp:DSp
structure FX where
 nm:Str
 np:Nat
 dds:List D
 sp:DSpX
structure MI where
 cl:Str
 nm:Str
 np:Nat
 sp:DSp
structure TabC where
 fn:Nat->Option FI
 kfn:Nat->Option KI
 con:Nat->Option (Str×D)
 bl:List Str
 fx:Nat->Option FX:=fun _=>none
 cl:CN:=fun _=>none
 isx:Nat->Str->Option Bool:=fun _ _=>none
 lk:List Str:=[]
 mt:Nat->Option MI:=fun _=>none
 ini:Nat->Option MI:=fun _=>none
 fd:List (Str×Str):=[]
 rw:Nat->Bool:=fun _=>false
structure Tab extends TabC where
 xd:DX:=fun _ _=>False
structure Evs where
 e:DTE
 t:DTT
 a:DTA
 i:DTI
 o:DTO
noncomputable def botE:DTE:=fun _ _ _=>False
noncomputable def botT:DTT:=fun _ _ _=>False
noncomputable def botA:DTA:=fun _ _ _=>False
noncomputable def botI:DTI:=fun _ _ _=>False
noncomputable def botO:DTO:=fun _ _ _=>False
noncomputable def mkE(t:DTE):Evs:=⟨t,dB t,botA,diAny t,zc1 t⟩
noncomputable def zbk:Bool->D->Option (List D)
 | false=>fun d=>some [d]
 | true=>zaI
noncomputable def ev(T:Tab):CE->Evs
 | .var i=>mkE (dVar i)
 | .con l=>mkE (dC l.d)
 | .glob i=>mkE (match T.con i with | some p=>dC p.2 | none=>botE)
 | .bin op a b=>mkE (dOp op.r (ev T a).e (ev T b).e)
 | .cmp op a b=>mkE (dOp op.r (ev T a).e (ev T b).e)
 | .chain o p a b c=>mkE (zb4 o.r p.r (ev T a).e (ev T b).e (ev T c).e)
 | .and a b=>{ mkE (zbA (ev T a).e (ev T b).e) with t:=dAnd (ev T a).t (ev T b).t }
 | .or a b=>{ mkE (dOrV (ev T a).e (ev T b).e) with t:=dOr (ev T a).t (ev T b).t }
 | .not a=>{ mkE (dNotV (ev T a).e) with t:=dNot (ev T a).t }
 | .neg a=>mkE (dNeg (ev T a).e)
 | .ite c a b=>{ mkE (dIf (ev T c).t (ev T a).e (ev T b).e) with t:=botT }
 | .ix a b=>mkE (dOp rIxD (ev T a).e (ev T b).e)
 | .sl a lo hi=>mkE (dSl (ev T a).e (ev T lo).o (ev T hi).o)
 | .tup as=>mkE (dTup (ev T as).a)
 | .lst as=>mkE (dLst (ev T as).a)
 | .lstz as=>mkE (zc2 (ev T as).a)
 | .frz e=>{ mkE (dFrz (ev T e).e) with t:=botT }
 | .call f as=>mkE (match T.fn f with | some fi=>zc3 fi.sp (fi.dds.drop (fi.dds.length-(fi.np-as.len))) (ev T as).a | none=>botE)
 | .callx f as=>mkE (match T.fx f with | some fi=>zbq fi.sp (fi.dds.drop (fi.dds.length-(fi.np-as.len))) T.xd (ev T as).a | none=>botE)
 | .blt b as=>mkE (dCB b.r (ev T as).a)
 | .isi y e=>mkE (dIsI y (ev T e).e)
 | .ms m o as=>mkE (dMS m.r (ev T o).e (ev T as).a)
 | .ml m o as=>mkE (dML m.r (ev T o).e (ev T as).a)
 | .joinr o e=>mkE (zbo (ev T o).e (ev T e).e)
 | .fstr ps=>mkE (zb7 (ps.map FP.d) [])
 | .fzt e=>{ mkE (dFzT (ev T e).e) with t:=botT }
 | .comp two ix it c e=>mkE (zbz (ev T it).i ix (zbk two) (ev T c).t (ev T e).e)
 | .compz two ix it c e=>mkE (zaO (ev T it).i ix (zbk two) (ev T c).t (ev T e).e)
 | .compe ix it c e=>mkE (zaO (zb8 (ev T it).e) ix zaI (ev T c).t (ev T e).e)
 | .rng1 a=>⟨botE,botT,botA,zbm (zbp (ev T a).e dNil),botO⟩
 | .rev a=>⟨botE,botT,botA,diRev (ev T a).e,botO⟩
 | .nil=>⟨botE,zbh,dNil,botI,zbH⟩
 | .cons a as=>⟨botE,botT,zbp (ev T a).e (ev T as).a,botI,botO⟩
theorem ev_var(T:Tab){i}:ev T (.var i)=(mkE (dVar i)):=rfl
theorem ev_con(T:Tab){l}:ev T (.con l)=(mkE (dC l.d)):=rfl
theorem ev_glob(T:Tab){i}:ev T (.glob i)=(mkE (match T.con i with | some p=>dC p.2 | none=>botE)):=rfl
theorem ev_bin(T:Tab){op}{a}{b}:ev T (.bin op a b)=(mkE (dOp op.r (ev T a).e (ev T b).e)):=rfl
theorem ev_cmp(T:Tab){op}{a}{b}:ev T (.cmp op a b)=(mkE (dOp op.r (ev T a).e (ev T b).e)):=rfl
theorem ev_chain(T:Tab){o}{p}{a}{b}{c}:ev T (.chain o p a b c)=(mkE (zb4 o.r p.r (ev T a).e (ev T b).e (ev T c).e)):=rfl
theorem ev_and(T:Tab){a}{b}:ev T (.and a b)=({ mkE (zbA (ev T a).e (ev T b).e) with t:=dAnd (ev T a).t (ev T b).t }):=rfl
theorem ev_or(T:Tab){a}{b}:ev T (.or a b)=({ mkE (dOrV (ev T a).e (ev T b).e) with t:=dOr (ev T a).t (ev T b).t }):=rfl
theorem ev_not(T:Tab){a}:ev T (.not a)=({ mkE (dNotV (ev T a).e) with t:=dNot (ev T a).t }):=rfl
theorem ev_neg(T:Tab){a}:ev T (.neg a)=(mkE (dNeg (ev T a).e)):=rfl
theorem ev_ite(T:Tab){c}{a}{b}:ev T (.ite c a b)=({ mkE (dIf (ev T c).t (ev T a).e (ev T b).e) with t:=botT }):=rfl
theorem ev_ix(T:Tab){a}{b}:ev T (.ix a b)=(mkE (dOp rIxD (ev T a).e (ev T b).e)):=rfl
theorem ev_sl(T:Tab){a}{lo}{hi}:ev T (.sl a lo hi)=(mkE (dSl (ev T a).e (ev T lo).o (ev T hi).o)):=rfl
theorem ev_tup(T:Tab){as}:ev T (.tup as)=(mkE (dTup (ev T as).a)):=rfl
theorem ev_lst(T:Tab){as}:ev T (.lst as)=(mkE (dLst (ev T as).a)):=rfl
theorem ev_lstz(T:Tab){as}:ev T (.lstz as)=(mkE (zc2 (ev T as).a)):=rfl
theorem ev_frz(T:Tab){e}:ev T (.frz e)=({ mkE (dFrz (ev T e).e) with t:=botT }):=rfl
theorem ev_call(T:Tab){f}{as}:ev T (.call f as)=(mkE (match T.fn f with | some fi=>zc3 fi.sp (fi.dds.drop (fi.dds.length-(fi.np-as.len))) (ev T as).a | none=>botE)):=rfl
theorem ev_callx(T:Tab){f}{as}:ev T (.callx f as)=(mkE (match T.fx f with | some fi=>zbq fi.sp (fi.dds.drop (fi.dds.length-(fi.np-as.len))) T.xd (ev T as).a | none=>botE)):=rfl
theorem ev_blt(T:Tab){b}{as}:ev T (.blt b as)=(mkE (dCB b.r (ev T as).a)):=rfl
theorem ev_isi(T:Tab){y}{e}:ev T (.isi y e)=(mkE (dIsI y (ev T e).e)):=rfl
theorem ev_ms(T:Tab){m}{o}{as}:ev T (.ms m o as)=(mkE (dMS m.r (ev T o).e (ev T as).a)):=rfl
theorem ev_ml(T:Tab){m}{o}{as}:ev T (.ml m o as)=(mkE (dML m.r (ev T o).e (ev T as).a)):=rfl
theorem ev_joinr(T:Tab){o}{e}:ev T (.joinr o e)=(mkE (zbo (ev T o).e (ev T e).e)):=rfl
theorem ev_fstr(T:Tab){ps}:ev T (.fstr ps)=(mkE (zb7 (ps.map FP.d) [])):=rfl
theorem ev_fzt(T:Tab){e}:ev T (.fzt e)=({ mkE (dFzT (ev T e).e) with t:=botT }):=rfl
theorem ev_comp(T:Tab){two}{ix}{it}{c}{e}:ev T (.comp two ix it c e)=(mkE (zbz (ev T it).i ix (zbk two) (ev T c).t (ev T e).e)):=rfl
theorem ev_compz(T:Tab){two}{ix}{it}{c}{e}:ev T (.compz two ix it c e)=(mkE (zaO (ev T it).i ix (zbk two) (ev T c).t (ev T e).e)):=rfl
theorem ev_compe(T:Tab){ix}{it}{c}{e}:ev T (.compe ix it c e)=(mkE (zaO (zb8 (ev T it).e) ix zaI (ev T c).t (ev T e).e)):=rfl
theorem ev_rng1(T:Tab){a}:ev T (.rng1 a)=(⟨botE,botT,botA,zbm (zbp (ev T a).e dNil),botO⟩):=rfl
theorem ev_rev(T:Tab){a}:ev T (.rev a)=(⟨botE,botT,botA,diRev (ev T a).e,botO⟩):=rfl
theorem ev_nil(T:Tab):ev T (.nil)=(⟨botE,zbh,dNil,botI,zbH⟩):=rfl
theorem ev_cons(T:Tab){a}{as}:ev T (.cons a as)=(⟨botE,botT,zbp (ev T a).e (ev T as).a,botI,botO⟩):=rfl
structure GI where
 N:List Str
 names:List (Str×NameKind)
noncomputable def GI.kd(g:GI)(x:Str):Option NameKind:=g.names.lookup x
noncomputable def zae:Expr->Bool
 | .Starred _ _=>false
 | _=>true
noncomputable def zb0:Expr->Bool
 | .Set _ _ _=>false
 | _=>true
noncomputable def zbF:Expr->Bool
 | .Slice _ _ _ _=>false
 | _=>true
noncomputable def zbE:Expr->Bool
 | .Call (.Name _ _) [] [] _=>false
 | _=>true
noncomputable def zaq(g:GI)(x:Str):Bool:=g.kd x==some .globalImplicit && !(x==("__debug__" : Str)) && !(x==("__name__" : Str))
noncomputable def zbe(g:GI)(x:Str):Bool:=(g.kd x==some .local||g.kd x==some .cell||g.kd x==some .free) && !(x==("__debug__" : Str)) && !(x==("__classdict__" : Str))
noncomputable def zb6(T:TabC)(g:GI)(x:Str):Bool:=zaq g x&&T.bl.contains x
noncomputable def zba:(x:Expr)->Option { p:Str×Pos×Expr×List Expr×Pos // x=.Call (.Name p.1 p.2.1) (p.2.2.1::p.2.2.2.1) [] p.2.2.2.2 }
 | .Call (.Name f fp) (z::zs) [] p=>some ⟨(f,fp,z,zs,p),rfl⟩
 | _=>none
noncomputable def vNm:(x:Expr)->Option { p:Str×Pos // x=.Name p.1 p.2 }
 | .Name y p=>some ⟨(y,p),rfl⟩
 | _=>none
noncomputable def vCst:(x:Expr)->Option { p:Const×Nat×Pos // x=.Constant p.1 p.2.1 p.2.2 }
 | .Constant k n p=>some ⟨(k,n,p),rfl⟩
 | _=>none
noncomputable def vTup:(x:Expr)->Option { p:List Expr×Nat×Pos // x=.Tuple p.1 p.2.1 p.2.2 }
 | .Tuple es n p=>some ⟨(es,n,p),rfl⟩
 | _=>none
noncomputable def vAdd:(x:Expr)->Option { p:Expr×Expr×Pos // x=.BinOp p.1 .Add p.2.1 p.2.2 }
 | .BinOp a .Add b p=>some ⟨(a,b,p),rfl⟩
 | _=>none
noncomputable def vMeth:(x:Expr)->Option { p:Expr×Str×Pos×List Expr×Pos // x=.Call (.Attribute p.1 p.2.1 p.2.2.1) p.2.2.2.1 [] p.2.2.2.2 }
 | .Call (.Attribute z n ap) es [] cp=>some ⟨(z,n,ap,es,cp),rfl⟩
 | _=>none
noncomputable def vCall0:(x:Expr)->Option { p:Str×Pos×Pos // x=.Call (.Name p.1 p.2.1) [] [] p.2.2 }
 | .Call (.Name f fp) [] [] p=>some ⟨(f,fp,p),rfl⟩
 | _=>none
noncomputable def vBin:(x:Expr)->Option { p:Expr×Operator×Expr×Pos // x=.BinOp p.1 p.2.1 p.2.2.1 p.2.2.2 }
 | .BinOp l o r p=>some ⟨(l,o,r,p),rfl⟩
 | _=>none
noncomputable def vCmp:(x:Expr)->Option { p:Expr×CmpOp×Expr×Pos // x=.Compare p.1 [p.2.1] [p.2.2.1] p.2.2.2 }
 | .Compare l [o] [r] p=>some ⟨(l,o,r,p),rfl⟩
 | _=>none
noncomputable def vIfE:(x:Expr)->Option { p:Expr×Expr×Expr×Pos // x=.IfExp p.1 p.2.1 p.2.2.1 p.2.2.2 }
 | .IfExp l o r p=>some ⟨(l,o,r,p),rfl⟩
 | _=>none
noncomputable def vSub:(x:Expr)->Option { p:Expr×Expr×Pos // x=.Subscript p.1 p.2.1 p.2.2 }
 | .Subscript y z p=>some ⟨(y,z,p),rfl⟩
 | _=>none
noncomputable def vSl:(x:Expr)->Option { p:Option Expr×Option Expr×Pos // x=.Slice p.1 p.2.1 none p.2.2 }
 | .Slice l u none p=>some ⟨(l,u,p),rfl⟩
 | _=>none
noncomputable def vNot:(x:Expr)->Option { p:UnaryOp×Expr×Pos // x=.UnaryOp p.1 p.2.1 p.2.2 }
 | .UnaryOp o y p=>some ⟨(o,y,p),rfl⟩
 | _=>none
noncomputable def vLst:(x:Expr)->Option { p:List Expr×Pos // x=.List p.1 p.2 }
 | .List es p=>some ⟨(es,p),rfl⟩
 | _=>none
noncomputable def vAtt:(x:Expr)->Option { p:Expr×Str×Pos // x=.Attribute p.1 p.2.1 p.2.2 }
 | .Attribute z n p=>some ⟨(z,n,p),rfl⟩
 | _=>none
noncomputable def vLc:(x:Expr)->Option { p:Expr×Expr×Expr×List Expr×Scope×Pos // x=.ListComp p.1 [⟨p.2.1,p.2.2.1,p.2.2.2.1,0⟩] p.2.2.2.2.1 p.2.2.2.2.2 }
 | .ListComp elt [⟨tg,iter,ifs,0⟩] scope p=>some ⟨(elt,tg,iter,ifs,scope,p),rfl⟩
 | _=>none
noncomputable def vBo:(x:Expr)->Option { p:PySem.BoolOp×List Expr×Pos // x=.BoolOp p.1 p.2.1 p.2.2 }
 | .BoolOp o vs p=>some ⟨(o,vs,p),rfl⟩
 | _=>none
noncomputable def vD0:(x:Expr)->Option { p:Pos // x=.Dict [] [] p }
 | .Dict [] [] p=>some ⟨p,rfl⟩
 | _=>none
noncomputable def vD1:(x:Expr)->Option { p:Expr×Expr×Pos // x=.Dict [some p.1] [p.2.1] p.2.2 }
 | .Dict [some y] [z] p=>some ⟨(y,z,p),rfl⟩
 | _=>none
noncomputable def vJn:(x:Expr)->Option { p:List Expr×Pos // x=.JoinedStr p.1 p.2 }
 | .JoinedStr es p=>some ⟨(es,p),rfl⟩
 | _=>none
noncomputable def vFm:(x:Expr)->Option { p:Expr×Pos // x=.FormattedValue p.1 (-1) none p.2 }
 | .FormattedValue e c none p=>if h:c = -1 then some ⟨(e,p),by rw[h]⟩ else none
 | _=>none
noncomputable def v1{α:Type}:(xs:List α)->Option { p:α // xs=[p] }
 | [z]=>some ⟨z,rfl⟩
 | _=>none
noncomputable def v2{α:Type}:(xs:List α)->Option { p:α×α // xs=[p.1,p.2] }
 | [z,z']=>some ⟨(z,z'),rfl⟩
 | _=>none
noncomputable def onV{α:Type}{P:α->Prop}(o:Option { p:α // P p })(f:α->Bool):Bool:=match o with
 | some p=>f p.1
 | none=>false
theorem Q0h{α:Type}{P:α->Prop}{o:Option { p:α // P p }}{f:α->Bool}(h:onV o f=true):∃ p,P p/\f p=true:=by
 cases o with
 | none=>cases h
 | some p=>exact⟨p.1,p.2,h⟩
structure Chk where
 e:GI->Expr->Bool
 b:PySem.BoolOp->GI->List Expr->Bool
 a:GI->List Expr->Bool
 i:GI->Expr->Bool
 o:GI->Option Expr->Bool
 c:GI->List Expr->Bool
noncomputable def mkC(f:GI->Expr->Bool):Chk :=
 ⟨f,fun _ g vs=>match vs with | [x]=>f g x | _=>false,fun _ _=>false,f,fun g o=>match o with | some x=>f g x | none=>false,fun g vs=>match vs with | [x]=>f g x | _=>false⟩
noncomputable def zb9(op:PySem.BoolOp)(ca cb:Chk):GI->List Expr->Bool:=fun g vs=>match vs with
 | x::y::r=>ca.e g x&&cb.b op g (y::r)
 | _=>false
noncomputable def zc4(op:PySem.BoolOp)(ca cb:Chk):GI->Expr->Bool:=fun g x=>onV (vBo x) fun c=>c.1==op&&zb9 op ca cb g c.2.1
noncomputable def zbP(op:PySem.BoolOp)(ca cb:Chk):PySem.BoolOp->GI->List Expr->Bool:=fun o g vs=>if o=op then zb9 op ca cb g vs else match vs with
 | [x]=>zc4 op ca cb g x
 | _=>false
noncomputable def zbu:Bool->Expr->Option (List Str)
 | false,e=>(vNm e).bind fun p=>some [p.1.1]
 | true,e=>(vTup e).bind fun t=>(v2 t.1.1).bind fun p=>(vNm p.1.1).bind fun a=>(vNm p.1.2).bind fun b=>some [a.1.1,b.1.1]
noncomputable def zbi(g:GI)(scope:Scope)(N:List Str)(k:Nat)(fn:List Str):Bool :=
 scope.kind==.function&&scope.names.all (fun y=>!(y.2==.cell))&&scope.names.all (fun y=>!(y.2==.local)||scope.names.lookup y.1==some .local)
  && scope.names.all (fun y=>!(y.2==.free)||(g.kd y.1==some .cell||g.kd y.1==some .free))&&decide N.Nodup&&decide (N.drop k=fn)&&decide (N.length=k+fn.length)
  && fn.all (fun y=>(g.kd y==some .cell||g.kd y==some .free)&&scope.names.lookup y==some .free)
noncomputable def zbr(two:Bool)(ix:List Nat)(ci cc ce:Chk):GI->Expr->Bool:=fun g x=>onV (vLc x) fun c=>match zbu two c.2.1 with
 | some ts=>let fn:=ix.filterMap fun i=>g.N[i]?
  zbi g c.2.2.2.2.1 (ts++fn) ts.length fn&&decide (ix.map (fun i=>g.N[i]?)=fn.map some)&&ts.all (fun y=>c.2.2.2.2.1.names.lookup y==some .local)&&zb0 c.2.2.1&&ci.i g c.2.2.1&&cc.c ⟨ts++fn,c.2.2.2.2.1.names⟩ c.2.2.2.1&&ce.e ⟨ts++fn,c.2.2.2.2.1.names⟩ c.1
 | none=>false
noncomputable def ckR1(T:TabC)(nm:Str)(f:GI->Expr->Bool)(g:GI)(x:Expr):Bool:=onV (zba x) fun c=>c.2.2.2.1.isEmpty&&zb6 T g c.1&&c.1==nm&&zae c.2.2.1&&f g c.2.2.1
noncomputable def ckR2(T:TabC)(f f':GI->Expr->Bool)(g:GI)(x:Expr):Bool:=onV (zba x) fun c=>onV (v1 c.2.2.2.1) fun d=>zb6 T g c.1&&c.1==("range" : Str)&&zae c.2.2.1&&zae d&&f g c.2.2.1&&f' g d
noncomputable def ckEn(T:TabC)(f:GI->Expr->Bool)(g:GI)(x:Expr):Bool:=onV (zba x) fun c=>onV (v1 c.2.2.2.1) fun d=>onV (vCst d) fun n=>zb6 T g c.1&&c.1==("enumerate" : Str)&&zae c.2.2.1&&(Lit.int 1).ck n.1&&f g c.2.2.1
noncomputable def ckF1(g:GI)(e:Expr):FP->Bool
 | .lit w=>onV (vCst e) fun c=>(Lit.str w).ck c.1
 | .var i=>onV (vFm e) fun c=>onV (vNm c.1) fun n=>g.N[i]? == some n.1&&zbe g n.1
noncomputable def ckF(g:GI):List FP->List Expr->Bool
 | [],es=>es.isEmpty
 | p::ps,es=>match es with
  | e::es=>ckF1 g e p&&ckF g ps es
  | []=>false
noncomputable def chkC(T:TabC):CE->Chk
 | .var i=>mkC fun g x=>onV (vNm x) fun c=>g.N[i]? == some c.1&&zbe g c.1
 | .con l=>mkC fun _ x=>onV (vCst x) fun c=>l.ck c.1
 | .glob i=>mkC fun g x=>onV (vNm x) fun c=>zaq g c.1&&(match T.con i with | some p=>p.1==c.1 | none=>false)
 | .bin op a b=>mkC fun g x=>onV (vBin x) fun c=>c.2.1==op.op&&(chkC T a).e g c.1&&(chkC T b).e g c.2.2.1
 | .cmp op a b=>mkC fun g x=>onV (vCmp x) fun c=>c.2.1==op.op&&zb0 c.2.2.1&&(chkC T a).e g c.1&&(chkC T b).e g c.2.2.1
 | .chain o p a b c=>mkC fun g x=>match x with
  | .Compare l [q,q'] [r,r'] _=>q==o.op&&q'==p.op&&zb0 r'&&(chkC T a).e g l&&(chkC T b).e g r&&(chkC T c).e g r'
  | _=>false
 | .and a b=>{ mkC (zc4 .And (chkC T a) (chkC T b)) with b:=zbP .And (chkC T a) (chkC T b) }
 | .or a b=>{ mkC (zc4 .Or (chkC T a) (chkC T b)) with b:=zbP .Or (chkC T a) (chkC T b) }
 | .not a=>mkC fun g x=>onV (vNot x) fun c=>c.1==.Not&&(chkC T a).e g c.2.1
 | .neg a=>mkC fun g x=>onV (vNot x) fun c=>c.1==.USub&&(chkC T a).e g c.2.1
 | .ite c a b=>mkC fun g x=>onV (vIfE x) fun t=>(chkC T c).e g t.1&&(chkC T a).e g t.2.1&&(chkC T b).e g t.2.2.1
 | .ix a b=>mkC fun g x=>onV (vSub x) fun c=>zbF c.2.1&&(chkC T a).e g c.1&&(chkC T b).e g c.2.1
 | .sl a lo hi=>mkC fun g x=>onV (vSub x) fun c=>onV (vSl c.2.1) fun s=>(chkC T a).e g c.1&&(chkC T lo).o g s.1&&(chkC T hi).o g s.2.1
 | .tup as=>mkC fun g x=>onV (vTup x) fun c=>(chkC T as).a g c.1
 | .lst as=>mkC fun g x=>onV (vLst x) fun c=>(chkC T as).a g c.1
 | .lstz as=>mkC fun g x=>onV (vLst x) fun c=>(chkC T as).a g c.1
 | .frz e=>mkC fun g x=>(chkC T e).e g x
 | .call f as=>mkC fun g x=>onV (zba x) fun c=>match T.fn f with
  | some fi=>zaq g c.1&&c.1==fi.nm&&decide (as.len<=fi.np)&&decide (fi.np-as.len<=fi.dds.length)&&(chkC T as).a g (c.2.2.1::c.2.2.2.1)
  | none=>false
 | .callx f as=>mkC fun g x=>onV (zba x) fun c=>match T.fx f with
  | some fi=>zaq g c.1&&c.1==fi.nm&&decide (as.len<=fi.np)&&decide (fi.np-as.len<=fi.dds.length)&&(chkC T as).a g (c.2.2.1::c.2.2.2.1)
  | none=>false
 | .blt b as=>mkC fun g x=>onV (zba x) fun c=>zb6 T g c.1&&c.1==b.nm&&(chkC T as).a g (c.2.2.1::c.2.2.2.1)
 | .isi ty e=>mkC fun g x=>onV (zba x) fun c=>onV (v1 c.2.2.2.1) fun d=>onV (vNm d) fun m=>zb6 T g c.1&&c.1==("isinstance" : Str)&&zb6 T g m.1&&(m.1==(Str.ofString ty.nm)) && !(ty==.non)&&zae c.2.2.1&&(chkC T e).e g c.2.2.1
 | .ms m o as=>mkC fun g x=>onV (vMeth x) fun c=>c.2.1==m.nm&&(c.2.2.1.endLine==c.2.2.2.2.line)&&zbE c.1&&(chkC T o).e g c.1&&(chkC T as).a g c.2.2.2.1&&decide (c.2.2.2.1.length<30)
 | .ml m o as=>mkC fun g x=>onV (vMeth x) fun c=>c.2.1==m.nm&&(c.2.2.1.endLine==c.2.2.2.2.line)&&zbE c.1&&(chkC T o).e g c.1&&(chkC T as).a g c.2.2.2.1&&decide (c.2.2.2.1.length<30)
 | .joinr o e=>mkC fun g x=>match x with
  | .Call (.Attribute z n ap) [.Call (.Name y _) [u] [] _] [] cp=>n==("join" : Str)&&(ap.endLine==cp.line)&&zbE z&&zb6 T g y&&y==("reversed" : Str)&&zae u&&(chkC T o).e g z&&(chkC T e).e g u
  | _=>false
 | .fstr ps=>mkC fun g x=>onV (vJn x) fun c=>decide (2<=ps.length)&&ckF g ps c.1
 | .fzt e=>mkC fun g x=>(chkC T e).e g x
 | .comp two ix it c e=>mkC (zbr two ix (chkC T it) (chkC T c) (chkC T e))
 | .compz two ix it c e=>mkC (zbr two ix (chkC T it) (chkC T c) (chkC T e))
 | .compe ix it c e=>mkC (zbr true ix { (mkC fun _ _=>false) with i:=ckEn T (chkC T it).e } (chkC T c) (chkC T e))
 | .rng1 a=>{ (mkC fun _ _=>false) with
   i:=ckR1 T "range" (chkC T a).e }
 | .rev a=>{ (mkC fun _ _=>false) with
   i:=ckR1 T "reversed" (chkC T a).e }
 | .nil=>⟨fun _ _=>false,fun _ _ _=>false,fun _ es=>es.isEmpty,fun _ _=>false,fun _ o=>o.isNone,fun _ es=>es.isEmpty⟩
 | .cons a as=>⟨fun _ _=>false,fun _ _ _=>false,fun g es=>match es with | x::r=>zae x&&(chkC T a).e g x&&(chkC T as).a g r | []=>false,fun _ _=>false,fun _ _=>false,fun _ _=>false⟩
noncomputable abbrev chk(T:Tab)(c:CE):Chk:=chkC T.toTabC c
structure FRel(X:Cx)(fi:FI):Prop where
 ex:∃ (k:Nat) (f:Addr) (fd:FuncData) (ps:List Str),FnOk X.prog X.w X.K X.mg X.base CX0 k f fd ps (lSp X.K fi.sp)/\Room k X.A/\X.mg fi.nm=some (.ref f)/\keepIn X.K (.ref f)=true/\ps.length=fi.np /\
  ∀ j,j<=fi.dds.length->∃ (ds:List Value) (dvs:List V),Binds X.K fd ps ds/\Vals dvs ds/\∀ H,Dens X.K H (fi.dds.drop j) dvs
structure KRel(X:Cx)(ki:KI):Prop where
 ex:∃ (k:Nat) (f:Addr) (fd:FuncData) (ps:List Str) (gv:List Value->List Value->List Value) (gV:List V->List V->List V),FnOk X.prog X.w X.K X.mg X.base CX0 k f fd ps (lSp X.K ki.sp)/\Room k X.A/\X.mg ki.nm=some (.ref f)/\keepIn X.K (.ref f)=true /\
  zc9 X.K fd ps ki.ks gv gV/\∀ H ds vs zs ws,Dens X.K H ds vs->Dens X.K H zs ws->Dens X.K H (ki.g ds zs) (gV vs ws)
structure XFRel(X:Cx)(cn:CN)(fi:FX):Prop where
 ex:∃ (k:Nat) (f:Addr) (fd:FuncData) (ps:List Str),FnOk X.prog X.w X.K X.mg X.base (CX1 X.prog X.w) k f fd ps (lSpX X.K X.mg cn fi.sp)/\Room k X.A/\X.mg fi.nm=some (.ref f)/\keepIn X.K (.ref f)=true/\ps.length=fi.np /\
  ∀ j,j<=fi.dds.length->∃ (ds:List Value) (dvs:List V),Binds X.K fd ps ds/\Vals dvs ds/\∀ H,Dens X.K H (fi.dds.drop j) dvs
noncomputable def zbC(K:Frag)(mg:Str->Option Value)(cl:CN)(c:Nat)(nm:Str)(b:Bool):Prop :=
 ∃ (x:Str) (C:Addr) (u:Value) (v:V),cl c=some x/\mg x=some (.ref C)/\XLook K C/\(mg nm=some u\/(mg nm=none/\bootBuiltins nm=some u))/\L2.RelV v u/\(∀ u',L2.RelV v u'->u'=u)/\kitOne K (.ref C) u=some b
structure MRel(X:Cx)(mi:MI):Prop where
 ex:∃ (k:Nat) (C f:Addr) (fd:FuncData) (ps:List Str),nsIn X.K mainGlobals mi.cl=some (some (.ref C))/\Cls X.K C/\Meth X.K C mi.nm f/\FnOk X.prog X.w X.K X.mg X.base CX0 k f fd ps (lSp X.K mi.sp)/\Room (k+1) X.A/\Binds X.K fd ps []
structure MkRel(X:Cx)(mi:MI):Prop where
 ex:∃ (k:Nat) (C f:Addr) (fd:FuncData) (ps:List Str),nsIn X.K mainGlobals mi.cl=some (some (.ref C))/\X.mg mi.cl=some (.ref C)/\Mk X.K C f/\FnOk X.prog X.w X.K X.mg X.base CX0 k f fd ps (lSp X.K mi.sp)/\Room (k+1) X.A/\Binds X.K fd ps []
noncomputable def FdOk(K:Frag)(c f:Str):Prop:=∃ C,nsIn K mainGlobals c=some (some (.ref C))/\Cls K C/\zbK K C f
noncomputable def zcb(K:Frag)(mg:Str->Option Value)(T:TabC)(c:Nat)(x:Str)(C:Addr):Prop:=(T.rw c=false->XCls K C)/\(T.rw c=true->(∀ k,T.cl (c % 64+64 * k)=some x)/\XRow K C/\∃ f fd,RowC K C f/\InitDef K mg f fd)
structure Rel(X:Cx)(T:Tab)(g:GI):Prop where
 N:X.N=g.N
 nd:g.N.Nodup
 calm:X.calm=true
 gl:∀ x,g.kd x=some .globalImplicit->X.env.scope.names.lookup x=some .globalImplicit
 lc:∀ x,g.kd x=some .local->X.env.scope.names.lookup x=some .local
 cf:∀ x,(g.kd x=some .cell\/g.kd x=some .free)->(X.env.scope.names.lookup x=some .cell\/X.env.scope.names.lookup x=some .free)
 fns:∀ f fi,T.fn f=some fi->FRel X fi
 kfs:∀ f ki,T.kfn f=some ki->KRel X ki
 fxs:∀ f fi,T.fx f=some fi->XFRel X T.cl fi
 cls:∀ c x,T.cl c=some x->∃ C,X.mg x=some (.ref C)/\zcb X.K X.mg T.toTabC c x C
 tk:zaf X fun cls _ H=>lX X.K X.mg T.cl T.xd cls H
 tp:Top X
 con:∀ i p,T.con i=some p->∃ u v,X.mg p.1=some u/\L2.RelV v u/\∀ H,Den X.K H p.2 v
 nob:∀ x∈T.bl,X.mg x=none
 isx:∀ c nm b,T.isx c nm=some b->zbC X.K X.mg T.cl c nm b
 lks:∀ x∈T.lk,∃ C,X.mg x=some (.ref C)/\XLook X.K C
 mts:∀ f mi,T.mt f=some mi->MRel X mi
 mks:∀ f mi,T.ini f=some mi->MkRel X mi
 fds:∀ p∈T.fd,FdOk X.K p.1 p.2
 un:X.A.units+100<cLine
 dpt:X.A.depth+5<recursionLimit
section
variable{X:Cx}{T:Tab}{g:GI}{e:Expr}{es:List Expr}{env:Env}
theorem Q0c(h:zae e=true):starEach (e::es) env=(false,eval e env)::starEach es env:=by
 cases e <;> first | rfl | cases h
theorem Q0l:∀ {es:List Expr},es.all zae=true->(backTo pos (starEach es env)).any (·.1)=false
 | [],_=>rfl
 | e::r,h=>by
  rw[ZW,Zc]at h;rw[Q0c h.1];have ih:=Q0l (pos:=pos) h.2;unfold backTo at ih ⊢;simp only[Z8,any_cons,ih,Bool.false_or]
theorem Q5g:∀ {es:List Expr},es.all zae=true->(backTo pos (starEach es env)).all (fun x=>!x.1)=true
 | [],_=>rfl
 | e::r,h=>by
  rw[ZW,Zc]at h;rw[Q0c h.1];have ih:=Q5g (pos:=pos) h.2;unfold backTo at ih ⊢;simp only[Z8,ZW,ih,Bool.not_false,Bool.true_and]
theorem Q0n(h:zbE e=true):attributeBase e n env (eval e env)=eval e env:=by
 unfold attributeBase;split
 ·rename_i q;cases q;cases h
 ·rfl
theorem Q1x(h:zb0 e=true):behindInMarks op e=false:=by
 cases e <;> first | rfl | cases h
theorem Q1y(h:zb0 e=true)(x:Value):foldedSetIterable e env x=pure x:=by
 cases e <;> first | rfl | cases h
theorem Q4G(h:zbF e=true):zbB e:=by
 intro o i;cases e <;> first | rfl | cases h
theorem Rel.glob(R:Rel X T g)(h:zaq g x=true):Gl X x/\(x==("__debug__" : Str))=false/\x ≠ "__name__":=by
 unfold zaq at h;simp only[Zc,Zt,ZG]at h;refine⟨R.gl x h.1.1,h.1.2,fun e=>?_⟩;have q:=h.2;rw[e]at q;simp at q
theorem Rel.blt(R:Rel X T g)(h:zb6 T.toTabC g x=true):Gl X x/\(x==("__debug__" : Str))=false/\x ≠ "__name__" /\ X.mg x=none:=by
 unfold zb6 at h;rw[Zc]at h;obtain⟨a,b,c⟩:=R.glob h.1;exact⟨a,b,c,R.nob x (by simpa using h.2)⟩
theorem Rel.vis(R:Rel X T g)(h:zbe g x=true):Vis X.env.scope x/\(x==("__debug__" : Str))=false/\(x==("__classdict__" : Str))=false:=by
 unfold zbe at h;simp only[Zc,or_eq_true,Zt,ZG]at h;refine⟨?_,h.1.2,h.2⟩;rcases h.1.1 with (h | h) | h
 ·exact .inl (R.lc x h)
 ·rcases R.cf x (.inl h) with q | q
  ·exact .inr (.inl q)
  ·exact .inr (.inr q)
 ·rcases R.cf x (.inr h) with q | q
  ·exact .inr (.inl q)
  ·exact .inr (.inr q)
theorem Q0w{env:Env}{k:NameKind}(hk:k≠.free):∀ {names:List (Str×NameKind)} {x:Str},names.lookup x=some k ->
  (names.map fun(n,k)=>if (k==NameKind.free&&env.scope.kind==.function&&env.kindOf n==some .cell) then (n,NameKind.cell) else (n,k)).lookup x=some k
 | [],_,h=>by simp at h
 | (n,j)::r,x,h=>by
  have ih:=@Q0w env k hk r x;rw[Z8];dsimp only;rw[ZQ]at h;by_cases hx:x=n
  ·subst hx;simp only[beq_self_eq_true]at h;cases h;have hc:¬ (k==NameKind.free&&env.scope.kind==.function&&env.kindOf x==some .cell)=true:=by
    intro q;simp only[Zc,Zt]at q;exact hk q.1.1
   rw[Zj hc];simp[ZQ]
  ·have hne:(x==n)=false:=by simpa using hx
   rw[hne]at h;have ih':=ih h;by_cases hc:(j==NameKind.free&&env.scope.kind==.function&&env.kindOf n==some .cell)=true
   ·rw[Zm hc];simp only[ZQ,hne];exact ih'
   ·rw[Zj hc];simp only[ZQ,hne];exact ih'
theorem Q2z(R:Rel X T g)(h:zbi g scope N k fn=true):zax X.env.scope scope N k fn:=by
 unfold zbi at h;simp only[Zc,Zt,Z5,ZG,or_eq_true,Zf,beq_eq_false_iff_ne,ne_eq]at h;obtain⟨⟨⟨⟨⟨⟨⟨h1,h2⟩,h3⟩,h4⟩,h5⟩,h6⟩,h7⟩,h8⟩:=h;refine⟨h1,fun y hy=>h2 y hy,fun y hy e=>?_,fun y hy e=>?_,h5,h6,h7,fun y hy=>?_⟩
 ·rcases h3 y hy with q | q
  ·exact absurd e q
  ·exact q
 ·rcases h4 y hy with q | q
  ·exact absurd e q
  ·exact R.cf y.1 q
 ·exact⟨R.cf y (h8 y hy).1,(h8 y hy).2⟩
theorem Rel.comp(R:Rel X T g){scope:Scope}{N fn:List Str}{k:Nat}(h:zbi g scope N k fn=true)(cl:List (Str×Addr))(C:Addr)(s₀:Shared)(H₀:Hp)(ex:List Addr)(E:Value->Shared->Prop)(hE:zaf (za3 X scope N cl C s₀ H₀ ex E) fun cls _ H=>lX X.K X.mg T.cl T.xd cls H):Rel (za3 X scope N cl C s₀ H₀ ex E) T ⟨N,scope.names⟩ where
 N:=rfl
 nd:=(Q2z R h).nd
 calm:=R.calm
 gl:=fun x e=>Q0w (k:=.globalImplicit) (by decide) e
 lc:=fun x e=>Q0w (k:=.local) (by decide) e
 cf:=fun x e=>by
  rcases e with e | e
  ·exact .inl (Q0w (k:=.cell) (by decide) e)
  ·exact Q0V e
 fns:=fun f fi e=>⟨(R.fns f fi e).ex⟩
 kfs:=fun f ki e=>⟨(R.kfs f ki e).ex⟩
 fxs:=fun f fi e=>⟨(R.fxs f fi e).ex⟩
 cls:=R.cls
 tk:=hE
 tp:=⟨R.tp.ex⟩
 con:=R.con
 nob:=R.nob
 isx:=R.isx
 lks:=R.lks
 mts:=fun f mi e=>⟨(R.mts f mi e).ex⟩
 mks:=fun f mi e=>⟨(R.mks f mi e).ex⟩
 fds:=R.fds
 un:=R.un
 dpt:=R.dpt
end
structure Snd(T:Tab)(c:CE):Prop where
 e:∀ {X:Cx} {g:GI},Rel X T g->∀ {x:Expr},(chk T c).e g x=true->DE X x (ev T c).e
 t:∀ {X:Cx} {g:GI},Rel X T g->∀ {x:Expr},(chk T c).e g x=true->DT X x (ev T c).t
 be:∀ {X:Cx} {g:GI},Rel X T g->∀ {op:PySem.BoolOp} {vs:List Expr} {pos:Pos},(chk T c).b op g vs=true->DE X (.BoolOp op vs pos) (ev T c).e
 bt:∀ {X:Cx} {g:GI},Rel X T g->∀ {op:PySem.BoolOp} {vs:List Expr} {pos:Pos},(chk T c).b op g vs=true->DW X (.BoolOp op vs pos) (ev T c).t
 a:∀ {X:Cx} {g:GI},Rel X T g->∀ {es:List Expr},(chk T c).a g es=true->DA X es (ev T c).a/\es.all zae=true/\es.length=c.len
 i:∀ {X:Cx} {g:GI},Rel X T g->∀ {x tg:Expr},(chk T c).i g x=true->DI X tg x (ev T c).i
 o:∀ {X:Cx} {g:GI},Rel X T g->∀ {x:Option Expr},(chk T c).o g x=true->DO X x (ev T c).o
 k:∀ {X:Cx} {g:GI},Rel X T g->∀ {kws:List Keyword},(chk T c).a g (kws.map (·.value))=true->DKw X kws (ev T c).a
 c:∀ {X:Cx} {g:GI},Rel X T g->∀ {xs:List Expr},(chk T c).c g xs=true->DIfs X xs (ev T c).t
section
variable{T:Tab}{c:CE}{f:GI->Expr->Bool}{t:DTE}{u:DTT}
theorem Q7m:DT X x botT:=fun _ _ _ _ _ _ ⟨_,_,_,_,_,h,_⟩=>h.elim
theorem Q7n(h:DT X x u):DW X (.BoolOp op [x] pos) u:=by
 cases op
 ·exact Qah h
 ·exact QbO h
theorem Snd.of(hc:chk T c=mkC f)(hv:ev T c={ mkE t with t:=u })(h:∀ {X:Cx} {g:GI},Rel X T g->∀ {x:Expr},f g x=true->DE X x t/\DT X x u):Snd T c where
 e:=fun R x q=>by rw[hc]at q;rw[hv];exact (h R q).1
 t:=fun R x q=>by rw[hc]at q;rw[hv];exact (h R q).2
 be:=fun{X g} R {op vs pos} q=>by
  rw[hc]at q;rw[hv]
  match vs,q with
  | [x],q=>exact Q6H (h R (show f g x=true from q)).1
 bt:=fun{X g} R {op vs pos} q=>by
  rw[hc]at q;rw[hv]
  match vs,q with
  | [x],q=>exact Q7n (h R (show f g x=true from q)).2
 a:=fun R es q=>by rw[hc]at q;cases q
 k:=fun R kws q=>by rw[hc]at q;cases q
 i:=fun{X g} R {x tg} q=>by
  rw[hc]at q;rw[hv];exact Q6Q (h R (show f g x=true from q)).1
 o:=fun{X g} R {x} q=>by
  rw[hc]at q;rw[hv]
  match x,q with
  | some x,q=>exact Q4C (h R (show f g x=true from q)).1
 c:=fun{X g} R {xs} q=>by
  rw[hc]at q;rw[hv]
  match xs,q with
  | [x],q=>exact Q3m (h R (show f g x=true from q)).2
end
section
variable{T:Tab}{X:Cx}{g:GI}{x:Expr}
theorem dtv(h:DE X x t)(he:∀ whole,isTrue x X.env whole=(do let v <- whole;standAt x.pos;holding [v] (truthy v))):DE X x t/\DT X x (dB t):=⟨h,QbM h he⟩
theorem QaM:Snd T (.var i):=by
 refine Snd.of (u:=dB (dVar i)) rfl rfl fun{X g} R {x} q=>?_;have qv:=Q0h q;clear q;obtain⟨⟨y,p⟩,rfl,q⟩:=qv;dsimp only at q ⊢;rw[Zc,Zt]at q;obtain⟨v1,v2,v3⟩:=R.vis q.2;exact dtv (dv i (by rw[R.N];exact q.1) v1 v2 v3) fun _=>rfl
theorem QaN:Snd T (.con l):=by
 refine Snd.of (u:=dB (dC l.d)) rfl rfl fun{X g} R {x} q=>?_;have qv:=Q0h q;clear q;obtain⟨⟨c,k,p⟩,rfl,q⟩:=qv;dsimp only at q ⊢;refine dtv ?_ fun _=>rfl;cases l with
 | non=>cases c <;> first | exact Q9z | cases q
 | bl b=>cases c <;> first | cases q | skip
         rename_i c';have q':b=c':=by simpa[Lit.ck]using q
         subst q';exact de_bl
 | int b=>cases c <;> first | cases q | skip
          rename_i c';have q':b=c':=by simpa[Lit.ck]using q
          subst q';exact Q6F
 | str b=>cases c <;> first | cases q | skip
          rename_i y;unfold Lit.ck at q;rw[Zc,Zt]at q;obtain⟨q1,q2⟩:=q;subst q1;exact Q6G q2
theorem Q8T:Snd T (.glob i):=by
 refine Snd.of (u:=dB (match T.con i with | some p=>dC p.2 | none=>botE)) rfl rfl fun{X g} R {x} q=>?_
 have qv:=Q0h q;clear q;obtain⟨⟨y,p⟩,rfl,q⟩:=qv;dsimp only at q ⊢;rw[Zc]at q;obtain⟨q1,q2⟩:=q;refine dtv ?_ fun _=>rfl;cases e:T.con i with
 | none=>rw[e]at q2;cases q2
 | some p =>
  rw[e]at q2;have q3:p.1=y:=by simpa using q2
  subst q3;obtain⟨u,v,h1,h2,h3⟩:=R.con i p e;obtain⟨g1,g2,g3⟩:=R.glob q1;exact Qag g1 h1 h2 h3 g2
theorem QaO(ha:Snd T a)(hb:Snd T b):Snd T (.bin op a b):=by
 refine Snd.of (u:=dB (dOp op.r (ev T a).e (ev T b).e)) rfl rfl fun{X g} R {x} q=>?_;have qv:=Q0h q;clear q;obtain⟨⟨l,o,r,p⟩,rfl,q⟩:=qv;dsimp only at q ⊢;simp only[Zc,Zt]at q;obtain⟨⟨rfl,q1⟩,q2⟩:=q;exact dtv (de_op (Bn.ok op) (ha.e R q1) (hb.e R q2)) fun _=>rfl
theorem QaP(ha:Snd T a)(hb:Snd T b):Snd T (.cmp op a b):=by
 refine Snd.of (u:=dB (dOp op.r (ev T a).e (ev T b).e)) rfl rfl fun{X g} R {x} q=>?_;have qv:=Q0h q;clear q;obtain⟨⟨l,o,r,p⟩,rfl,q⟩:=qv;dsimp only at q ⊢;simp only[Zc,Zt]at q;obtain⟨⟨⟨rfl,q0⟩,q1⟩,q2⟩:=q;exact⟨QbL (Cp.ok R.un op) (ha.e R q1) (hb.e R q2) (Q1x q0),QbN (Cp.ok R.un op) (ha.e R q1) (hb.e R q2) (Q1x q0)⟩
theorem Q7o(ha:Snd T a)(hb:Snd T b)(hc:Snd T c):Snd T (.chain o p a b c):=by
 refine Snd.of (u:=dB (zb4 o.r p.r (ev T a).e (ev T b).e (ev T c).e)) rfl rfl fun{X g} R {x} q=>?_;split at q
 ·rename_i l q1 q1' r r' pp;simp only[Zc,Zt]at q;obtain⟨⟨⟨⟨⟨rfl,rfl⟩,q0⟩,q1⟩,q2⟩,q3⟩:=q;exact⟨Q8C (Cp.ok R.un o) (Cp.ok R.un p) (ha.e R q1) (hb.e R q2) (hc.e R q3) (show behindInMarks _ _=false from Q1x q0),
   Q8D (Cp.ok R.un o) (Cp.ok R.un p) (ha.e R q1) (hb.e R q2) (hc.e R q3) (show behindInMarks _ _=false from Q1x q0)⟩
 ·cases q
theorem Q5h(ha:Snd T a)(hb:Snd T b)(R:Rel X T g)(q:zb9 .And (chk T a) (chk T b) g vs=true) :
  DE X (.BoolOp .And vs pos) (zbA (ev T a).e (ev T b).e)/\DW X (.BoolOp .And vs pos) (dAnd (ev T a).t (ev T b).t):=by
 unfold zb9 at q;split at q
 ·rw[Zc]at q;exact⟨QbR (ha.e R q.1) (hb.be R q.2),QbP (ha.t R q.1) (hb.bt R q.2)⟩
 ·cases q
theorem Q7p(ha:Snd T a)(hb:Snd T b)(R:Rel X T g)(q:zb9 .Or (chk T a) (chk T b) g vs=true) :
  DE X (.BoolOp .Or vs pos) (dOrV (ev T a).e (ev T b).e)/\DW X (.BoolOp .Or vs pos) (dOr (ev T a).t (ev T b).t):=by
 unfold zb9 at q;split at q
 ·rw[Zc]at q;exact⟨de_or (ha.e R q.1) (hb.be R q.2),dw_or (ha.t R q.1) (hb.bt R q.2)⟩
 ·cases q
theorem QaQ(ha:Snd T a)(hb:Snd T b):Snd T (.and a b):=by
 have base:∀ {X:Cx} {g:GI},Rel X T g->∀ {x:Expr},zc4 .And (chk T a) (chk T b) g x=true->DE X x (zbA (ev T a).e (ev T b).e)/\DT X x (dAnd (ev T a).t (ev T b).t):=fun{X g} R {x} q=>by
  have qv:=Q0h q;clear q;obtain⟨⟨o,vs,p⟩,rfl,q⟩:=qv;dsimp only at q ⊢;rw[Zc,Zt]at q;obtain⟨rfl,q⟩:=q;obtain⟨h1,h2⟩:=Q5h ha hb R (pos:=_) q;exact⟨h1,h2.dt⟩
 have bs:∀ {X:Cx} {g:GI},Rel X T g->∀ {op:PySem.BoolOp} {vs:List Expr} {pos:Pos},zbP .And (chk T a) (chk T b) op g vs=true->DE X (.BoolOp op vs pos) (zbA (ev T a).e (ev T b).e)/\DW X (.BoolOp op vs pos) (dAnd (ev T a).t (ev T b).t):=fun{X g} R {op vs pos} q=>by
  unfold zbP at q;split at q
  ·rename_i e;subst e;exact Q5h ha hb R q
  ·split at q
   ·obtain⟨h1,h2⟩:=base R q;exact⟨Q6H h1,Q7n h2⟩
   ·cases q
 exact {
  e:=fun R _ q=>(base R q).1
  t:=fun R _ q=>(base R q).2
  be:=fun R _ _ _ q=>(bs R q).1
  bt:=fun R _ _ _ q=>(bs R q).2
  a:=fun R _ q=>nomatch q
  k:=fun R _ q=>nomatch q
  i:=fun R _ _ q=>Q6Q (base R q).1
  o:=fun{X g} R {x} q=>by match x,q with | some x,q=>exact Q4C (base R q).1
  c:=fun{X g} R {xs} q=>by match xs,q with | [x],q=>exact Q3m (base R q).2 }
theorem Qcm(ha:Snd T a)(hb:Snd T b):Snd T (.or a b):=by
 have base:∀ {X:Cx} {g:GI},Rel X T g->∀ {x:Expr},zc4 .Or (chk T a) (chk T b) g x=true->DE X x (dOrV (ev T a).e (ev T b).e)/\DT X x (dOr (ev T a).t (ev T b).t):=fun{X g} R {x} q=>by
  have qv:=Q0h q;clear q;obtain⟨⟨o,vs,p⟩,rfl,q⟩:=qv;dsimp only at q ⊢;rw[Zc,Zt]at q;obtain⟨rfl,q⟩:=q;obtain⟨h1,h2⟩:=Q7p ha hb R (pos:=_) q;exact⟨h1,h2.dt⟩
 have bs:∀ {X:Cx} {g:GI},Rel X T g->∀ {op:PySem.BoolOp} {vs:List Expr} {pos:Pos},zbP .Or (chk T a) (chk T b) op g vs=true->DE X (.BoolOp op vs pos) (dOrV (ev T a).e (ev T b).e)/\DW X (.BoolOp op vs pos) (dOr (ev T a).t (ev T b).t):=fun{X g} R {op vs pos} q=>by
  unfold zbP at q;split at q
  ·rename_i e;subst e;exact Q7p ha hb R q
  ·split at q
   ·obtain⟨h1,h2⟩:=base R q;exact⟨Q6H h1,Q7n h2⟩
   ·cases q
 exact {
  e:=fun R _ q=>(base R q).1
  t:=fun R _ q=>(base R q).2
  be:=fun R _ _ _ q=>(bs R q).1
  bt:=fun R _ _ _ q=>(bs R q).2
  a:=fun R _ q=>nomatch q
  k:=fun R _ q=>nomatch q
  i:=fun R _ _ q=>Q6Q (base R q).1
  o:=fun{X g} R {x} q=>by match x,q with | some x,q=>exact Q4C (base R q).1
  c:=fun{X g} R {xs} q=>by match xs,q with | [x],q=>exact Q3m (base R q).2 }
theorem QaR(ha:Snd T a):Snd T (.not a):=by
 refine Snd.of (u:=dNot (ev T a).t) rfl rfl fun{X g} R {x} q=>?_;have qv:=Q0h q;clear q;obtain⟨⟨uo,y,p⟩,rfl,q⟩:=qv;dsimp only at q ⊢;rw[Zc]at q;obtain⟨q0,q⟩:=q;cases Zt.mp q0;exact⟨QbS (ha.e R q),QbQ (ha.t R q)⟩
theorem QaS(ha:Snd T a):Snd T (.neg a):=by
 refine Snd.of (u:=dB (dNeg (ev T a).e)) rfl rfl fun{X g} R {x} q=>?_;have qv:=Q0h q;clear q;obtain⟨⟨uo,y,p⟩,rfl,q⟩:=qv;dsimp only at q ⊢;rw[Zc]at q;obtain⟨q0,q⟩:=q;cases Zt.mp q0;exact dtv (Qcb (ha.e R q)) fun _=>rfl
theorem QaT(hc:Snd T c)(ha:Snd T a)(hb:Snd T b):Snd T (.ite c a b):=by
 refine Snd.of (u:=botT) rfl rfl fun{X g} R {x} q=>?_;have qv:=Q0h q;clear q;obtain⟨⟨y,z,z2,p⟩,rfl,q⟩:=qv;dsimp only at q ⊢;simp only[Zc]at q;exact⟨Q8z (hc.t R q.1.1) (ha.e R q.1.2) (hb.e R q.2),Q7m⟩
theorem Qcn(ha:Snd T a)(hb:Snd T b):Snd T (.ix a b):=by
 refine Snd.of (u:=dB (dOp rIxD (ev T a).e (ev T b).e)) rfl rfl fun{X g} R {x} q=>?_;have qv:=Q0h q;clear q;obtain⟨⟨y,z,p⟩,rfl,q⟩:=qv;dsimp only at q ⊢;simp only[Zc]at q;exact dtv (de_ix (ha.e R q.1.2) (hb.e R q.2) (Q4G q.1.1)) fun _=>rfl
theorem Qco{a lo hi:CE}(ha:Snd T a)(hl:Snd T lo)(hh:Snd T hi):Snd T (.sl a lo hi):=by
 refine Snd.of (u:=dB (dSl (ev T a).e (ev T lo).o (ev T hi).o)) rfl rfl fun{X g} R {x} q=>?_;have qv:=Q0h q;clear q;obtain⟨⟨y,z,p⟩,rfl,q⟩:=qv;have qv:=Q0h q;clear q;obtain⟨⟨sl,su,sp⟩,e,q⟩:=qv;dsimp only at e q ⊢;subst e;simp only[Zc]at q;exact dtv (Q8B (ha.e R q.1.1) (hl.o R q.1.2) (hh.o R q.2)) fun _=>rfl
theorem QaU(ha:Snd T as):Snd T (.tup as):=by
 refine Snd.of (u:=dB (dTup (ev T as).a)) rfl rfl fun{X g} R {x} q=>?_;have qv:=Q0h q;clear q;obtain⟨⟨es,k,p⟩,rfl,q⟩:=qv;dsimp only at q ⊢;exact dtv (Q9A (ha.a R q).1) fun _=>rfl
theorem QaV(ha:Snd T as):Snd T (.lst as):=by
 refine Snd.of (u:=dB (dLst (ev T as).a)) rfl rfl fun{X g} R {x} q=>?_;have qv:=Q0h q;clear q;obtain⟨⟨es,p⟩,rfl,q⟩:=qv;dsimp only at q ⊢;exact dtv (QbT (ha.a R q).1) fun _=>rfl
theorem Q8U(ha:Snd T as):Snd T (.lstz as):=by
 refine Snd.of (u:=dB (zc2 (ev T as).a)) rfl rfl fun{X g} R {x} q=>?_;have qv:=Q0h q;clear q;obtain⟨⟨es,p⟩,rfl,q⟩:=qv;dsimp only at q ⊢;exact dtv (Qas (ha.a R q).1) fun _=>rfl
theorem QaW(ha:Snd T a):Snd T (.frz a) :=
 Snd.of (u:=botT) rfl rfl fun{X g} R {x} q=>⟨QbU (ha.e R q),Q7m⟩
theorem QaX(ha:Snd T a):Snd T (.fzt a) :=
 Snd.of (u:=botT) rfl rfl fun{X g} R {x} q=>⟨Qcl (ha.e R q),Q7m⟩
theorem Q8V(ha:Snd T as):Snd T (.call f as):=by
 refine Snd.of (u:=dB (match T.fn f with | some fi=>zc3 fi.sp (fi.dds.drop (fi.dds.length-(fi.np-as.len))) (ev T as).a | none=>botE)) rfl rfl fun{X g} R {x} q=>?_
 have qv:=Q0h q;clear q;obtain⟨⟨y,p,z,zs,pp⟩,rfl,q⟩:=qv;dsimp only at q ⊢;cases e:T.fn f with
 | none=>rw[e]at q;cases q
 | some fi =>
  rw[e]at q;simp only[Zc,Zt,Zf]at q;obtain⟨⟨⟨⟨q1,rfl⟩,q2⟩,q3⟩,q4⟩:=q;obtain⟨g1,g2,g3⟩:=R.glob q1;obtain⟨k,fa,fd,ps,F,hr,hm,hk,hl,hd⟩:=(R.fns f fi e).ex;obtain⟨ds,dvs,b1,b2,b3⟩:=hd (fi.dds.length-(fi.np-as.len)) (sub_le _ _);obtain⟨a1,a2,a3⟩:=ha.a R q4;rw[ZW,Zc]at a2;exact dtv (Qai F hr g1 hm hk b1 b2 b3 (E:=E0) pass0 a1 g2 (Q0c a2.1) (Q0l a2.2)) fun _=>rfl
theorem Q7q(ha:Snd T as):Snd T (.callx f as):=by
 refine Snd.of (u:=dB (match T.fx f with | some fi=>zbq fi.sp (fi.dds.drop (fi.dds.length-(fi.np-as.len))) T.xd (ev T as).a | none=>botE)) rfl rfl fun{X g} R {x} q=>?_
 have qv:=Q0h q;clear q;obtain⟨⟨y,p,z,zs,pp⟩,rfl,q⟩:=qv;dsimp only at q ⊢;cases e:T.fx f with
 | none=>rw[e]at q;cases q
 | some fi =>
  rw[e]at q;simp only[Zc,Zt,Zf]at q;obtain⟨⟨⟨⟨q1,rfl⟩,q2⟩,q3⟩,q4⟩:=q;obtain⟨g1,g2,g3⟩:=R.glob q1;obtain⟨k,fa,fd,ps,F,hr,hm,hk,hl,hd⟩:=(R.fxs f fi e).ex;obtain⟨ds,dvs,b1,b2,b3⟩:=hd (fi.dds.length-(fi.np-as.len)) (sub_le _ _);obtain⟨a1,a2,a3⟩:=ha.a R q4;rw[ZW,Zc]at a2;exact dtv (Q8Q F hr g1 hm hk b1 b2 b3 R.tk a1 g2 (Q0c a2.1) (Q0l a2.2)) fun _=>rfl
theorem QaY(ha:Snd T as):Snd T (.blt b as):=by
 refine Snd.of (u:=dB (dCB b.r (ev T as).a)) rfl rfl fun{X g} R {x} q=>?_;have qv:=Q0h q;clear q;obtain⟨⟨y,p,z,zs,pp⟩,rfl,q⟩:=qv;dsimp only at q ⊢;simp only[Zc,Zt]at q;obtain⟨⟨q1,rfl⟩,q2⟩:=q;obtain⟨g1,g2,g3,g4⟩:=R.blt q1;obtain⟨a1,a2,a3⟩:=ha.a R q2;rw[ZW,Zc]at a2;refine dtv ?_ fun _=>rfl;cases b with
 | len=>exact Q3l Qc8 g1 g4 (by rfl) a1 g3 g2 (Q0c a2.1) (Q0l a2.2)
 | tuple=>exact Q2p Q8E g1 g4 (by rfl) a1 g3 g2 (Q0c a2.1) (Q0l a2.2)
 | ord=>exact Q3l Qc9 g1 g4 (by rfl) a1 g3 g2 (Q0c a2.1) (Q0l a2.2)
 | str=>exact Q2p Qce g1 g4 (by rfl) a1 g3 g2 (Q0c a2.1) (Q0l a2.2)
 | int=>exact Q2p Qcf g1 g4 (by rfl) a1 g3 g2 (Q0c a2.1) (Q0l a2.2)
 | all=>exact Q3l (Qcg R.calm false) g1 g4 (by rfl) a1 g3 g2 (Q0c a2.1) (Q0l a2.2)
theorem QaZ(y:Ty)(h:y≠.non):bootBuiltins (Str.ofString y.nm)=some (.type y.nm):=by
 cases y <;> first | exact absurd rfl h | rfl
theorem Qb0(ha:Snd T a):Snd T (.isi y a):=by
 refine Snd.of (u:=dB (dIsI y (ev T a).e)) rfl rfl fun{X g} R {x} q=>?_;have qv:=Q0h q;clear q;obtain⟨⟨n,p,z,zs,pos⟩,rfl,q⟩:=qv;have qv:=Q0h q;clear q;obtain⟨d,e,q⟩:=qv;dsimp only at e;subst e;have qv:=Q0h q;clear q;obtain⟨⟨n',p3⟩,rfl,q⟩:=qv;dsimp only at q ⊢;simp only[Zc,Zt,ZG,beq_eq_false_iff_ne,ne_eq]at q;obtain⟨⟨⟨⟨⟨⟨q1,rfl⟩,q2⟩,rfl⟩,q3⟩,q4⟩,q5⟩:=q;obtain⟨g1,g2,g3,g4⟩:=R.blt q1;obtain⟨k1,k2,k3,k4⟩:=R.blt q2;exact dtv (Qc7 y q3 (QaZ y q3) (ha.e R q5) g1 g4 k1 k4 k3 k2 (Q0c q4) (Q0c rfl) (Q0l rfl)) fun _=>rfl
theorem Q1z(h:es.all zae=true)(hl:es.length<30):((backTo cp (starEach es env)).all (fun x=>!x.1)&&(backToKw cp (keywordEach [] env)).all (fun x=>x.1.isSome)
      && decide (es.length+([]:List Keyword).length+(if ([]:List Keyword).isEmpty then 0 else 1)<30))=true:=by
 rw[Q5g h];simp[keywordEach,backToKw,hl]
theorem Q9J(h:(chk T as).a g []=true):as=.nil:=by
 cases as <;> first | rfl | exact Bool.noConfusion (show false=true from h)
theorem Qcp(ho:Snd T o)(ha:Snd T as):Snd T (.ms m o as):=by
 refine Snd.of (u:=dB (dMS m.r (ev T o).e (ev T as).a)) rfl rfl fun{X g} R {x} q=>?_;have qv:=Q0h q;clear q;obtain⟨⟨z,n,ap,es,cp⟩,rfl,q⟩:=qv;dsimp only at q ⊢;simp only[Zc,Zf]at q;obtain⟨⟨⟨⟨⟨q0,q1⟩,q2⟩,q3⟩,q4⟩,q5⟩:=q;obtain rfl:n=m.nm:=by simpa using q0
 obtain⟨a1,a2,a3⟩:=ha.a R q4;refine dtv ?_ fun _=>rfl;cases es with
 | nil =>
  obtain rfl:=Q9J q4;cases m with
  | strip=>exact Q1P ZM PySem.F.slot_str_strip PySem.F.type_str_strip Q4V (ho.e R q3) (Q0n q2) q1
  | rstrip=>exact Q1P ZM PySem.F.slot_str_rstrip PySem.F.type_str_rstrip Q3S (ho.e R q3) (Q0n q2) q1
  | startswith=>exact Q1P ZM PySem.F.slot_str_startswith PySem.F.type_str_startswith Q3T (ho.e R q3) (Q0n q2) q1
  | endswith=>exact Q1P ZM PySem.F.slot_str_endswith PySem.F.type_str_endswith Q6S (ho.e R q3) (Q0n q2) q1
  | join=>exact Q1P ZM slot_str_join type_str_join Q6T (ho.e R q3) (Q0n q2) q1
  | split=>exact Q1P ZM PySem.F.slot_str_split PySem.F.type_str_split Q4X (ho.e R q3) (Q0n q2) q1
  | lower=>exact Q1P ZM PySem.F.slot_str_lower PySem.F.type_str_lower Q4Y (ho.e R q3) (Q0n q2) q1
  | upper=>exact Q1P ZM PySem.F.slot_str_upper PySem.F.type_str_upper Q4Z (ho.e R q3) (Q0n q2) q1
 | cons e es =>
  have a2':=a2;rw[ZW,Zc]at a2';cases m with
  | strip=>exact de_ms ZM PySem.F.slot_str_strip PySem.F.type_str_strip Q4V (ho.e R q3) a1 (Q0n q2) (Q1z a2 q5) q1 (Q0c a2'.1) (Q0l a2'.2)
  | rstrip=>exact de_ms ZM PySem.F.slot_str_rstrip PySem.F.type_str_rstrip Q3S (ho.e R q3) a1 (Q0n q2) (Q1z a2 q5) q1 (Q0c a2'.1) (Q0l a2'.2)
  | startswith=>exact de_ms ZM PySem.F.slot_str_startswith PySem.F.type_str_startswith Q3T (ho.e R q3) a1 (Q0n q2) (Q1z a2 q5) q1 (Q0c a2'.1) (Q0l a2'.2)
  | endswith=>exact de_ms ZM PySem.F.slot_str_endswith PySem.F.type_str_endswith Q6S (ho.e R q3) a1 (Q0n q2) (Q1z a2 q5) q1 (Q0c a2'.1) (Q0l a2'.2)
  | join=>exact de_ms ZM slot_str_join type_str_join Q6T (ho.e R q3) a1 (Q0n q2) (Q1z a2 q5) q1 (Q0c a2'.1) (Q0l a2'.2)
  | split=>exact de_ms ZM PySem.F.slot_str_split PySem.F.type_str_split Q4X (ho.e R q3) a1 (Q0n q2) (Q1z a2 q5) q1 (Q0c a2'.1) (Q0l a2'.2)
  | lower=>exact de_ms ZM PySem.F.slot_str_lower PySem.F.type_str_lower Q4Y (ho.e R q3) a1 (Q0n q2) (Q1z a2 q5) q1 (Q0c a2'.1) (Q0l a2'.2)
  | upper=>exact de_ms ZM PySem.F.slot_str_upper PySem.F.type_str_upper Q4Z (ho.e R q3) a1 (Q0n q2) (Q1z a2 q5) q1 (Q0c a2'.1) (Q0l a2'.2)
theorem Qcq(ho:Snd T o)(ha:Snd T as):Snd T (.ml m o as):=by
 refine Snd.of (u:=dB (dML m.r (ev T o).e (ev T as).a)) rfl rfl fun{X g} R {x} q=>?_;have qv:=Q0h q;clear q;obtain⟨⟨z,n,ap,es,cp⟩,rfl,q⟩:=qv;dsimp only at q ⊢;simp only[Zc,Zf]at q;obtain⟨⟨⟨⟨⟨q0,q1⟩,q2⟩,q3⟩,q4⟩,q5⟩:=q;obtain rfl:n=m.nm:=by simpa using q0
 obtain⟨a1,a2,a3⟩:=ha.a R q4;refine dtv ?_ fun _=>rfl;cases es with
 | nil =>
  obtain rfl:=Q9J q4;cases m with
  | append=>exact Qca PySem.F.slot_list_append PySem.F.type_list_append Q3P (ho.e R q3) (Q0n q2) q1
 | cons e es =>
  have a2':=a2;rw[ZW,Zc]at a2';cases m with
  | append=>exact de_ml PySem.F.slot_list_append PySem.F.type_list_append Q3P (ho.e R q3) a1 (Q0n q2) (Q1z a2 q5) q1 (Q0c a2'.1) (Q0l a2'.2)
theorem Q7r(ho:Snd T o)(he:Snd T e):Snd T (.joinr o e):=by
 refine Snd.of (u:=dB (zbo (ev T o).e (ev T e).e)) rfl rfl fun{X g} R {x} q=>?_;split at q
 ·rename_i z n ap y p u pos cp;simp only[Zc]at q;obtain⟨⟨⟨⟨⟨⟨⟨q0,q1⟩,q2⟩,q3⟩,q4⟩,q5⟩,q6⟩,q7⟩:=q;obtain rfl:n = "join":=by simpa using q0
  obtain rfl:y = "reversed":=by simpa using q4
  obtain⟨g1,g2,g3,g4⟩:=R.blt q3;exact dtv (Q8L R.calm (ho.e R q6) (he.e R q7) g1 g4 (Q0n q2) q1 (Q0c q5)) fun _=>rfl
 ·cases q
theorem Qcr(q:(Lit.str w).ck c=true):DE X (.Constant c k p) (dC (.str w)):=by
 cases c <;> first | cases q | skip
 rename_i y;unfold Lit.ck at q;rw[Zc,Zt]at q;obtain⟨q1,q2⟩:=q;subst q1;exact Q6G q2
theorem Q9K(R:Rel X T g):∀ {ps:List FP} {es:List Expr},ckF g ps es=true->DJs X es (ps.map FP.d)/\es.length=ps.length
 | [],es,q=>by
  have:=isEmpty_iff.mp q;subst this;exact⟨.nil,rfl⟩
 | p::ps,[],q=>by cases q
 | p::ps,e::es,q=>by
  have q':(ckF1 g e p&&ckF g ps es)=true:=q;rw[Zc]at q';obtain⟨q1,q2⟩:=q';obtain⟨h1,h2⟩:=Q9K R q2;refine⟨.cons ?_ h1,by rw[Zk,Zk,h2]⟩
  cases p with
  | lit w =>
   have q1':onV (vCst e) (fun c=>(Lit.str w).ck c.1)=true:=q1;clear q1 q;obtain⟨⟨c,k,p⟩,rfl,q3⟩:=Q0h q1';exact Qcr q3
  | var i =>
   have q1':onV (vFm e) (fun c=>onV (vNm c.1) fun n=>g.N[i]? == some n.1&&zbe g n.1)=true:=q1;clear q1 q;obtain⟨⟨v,p⟩,rfl,q3⟩:=Q0h q1';obtain⟨⟨y,p2⟩,e4,q4⟩:=Q0h q3;dsimp only at e4 q4;subst e4;rw[Zc,Zt]at q4;obtain⟨v1,v2,v3⟩:=R.vis q4.2;exact Qcj (dv i (by rw[R.N];exact q4.1) v1 v2 v3)
theorem Q8W:Snd T (.fstr ps):=by
 refine Snd.of (u:=dB (zb7 (ps.map FP.d) [])) rfl rfl fun{X g} R {x} q=>?_;have qv:=Q0h q;clear q;obtain⟨⟨es,p⟩,rfl,q⟩:=qv;dsimp only at q ⊢;rw[Zc,Zf]at q;obtain⟨h1,h2⟩:=Q9K R q.2;cases es with
 | nil=>rw[<- h2]at q;exact absurd q.1 (by decide)
 | cons e1 es =>
  cases es with
  | nil=>rw[<- h2]at q;exact absurd q.1 (by show ¬ 2<=1;decide)
  | cons e2 es=>exact dtv (QaD h1) fun _=>rfl
theorem Q9L(hi:Snd T it)(R:Rel X T g)(q:ckEn T.toTabC (chk T it).e g iter=true):DI X (.Tuple es n p) iter (zb8 (ev T it).e):=by
 have qv:=Q0h q;clear q;obtain⟨⟨y,p0,z,zs,pp⟩,rfl,q⟩:=qv;have qv:=Q0h q;clear q;obtain⟨z',e,q⟩:=qv;dsimp only at e q ⊢;subst e;have qv:=Q0h q;clear q;obtain⟨⟨c,n',p'⟩,e,q⟩:=qv;dsimp only at e q ⊢;subst e;simp only[Zc,Zt]at q;obtain⟨⟨⟨⟨q1,rfl⟩,q2⟩,q3⟩,q4⟩:=q;obtain⟨g1,g2,g3,g4⟩:=R.blt q1;cases c with
 | int j =>
  have ej:(1:Int)=j:=Zt.mp q3;subst ej;exact QaL (hi.e R q4) g1 g4 (by rw[Q0c q2];rfl)
 | _=>cases q3
theorem Q1g{two:Bool}{ix:List Nat}{it c e:CE}(hi:Snd T it)(hc:Snd T c)(he:Snd T e)(R:Rel X T g)(q:zbr two ix (chk T it) (chk T c) (chk T e) g x=true) :
  ∃ elt tg iter ifs scope pos ts fn gV,x=.ListComp elt [⟨tg,iter,ifs,0⟩] scope pos/\Unp X.K ts.length (zbk two) gV/\zax X.env.scope scope (ts++fn) ts.length fn/\ix.map (fun i=>X.N[i]?)=fn.map some/\DI X tg iter (ev T it).i /\
   (∀ cl C s₀ H₀ ex E,PG (za3 X scope (ts++fn) cl C s₀ H₀ ex E) tg gV)/\(∀ cl C s₀ H₀ ex E,zaf (za3 X scope (ts++fn) cl C s₀ H₀ ex E) (fun cls _ H=>lX X.K X.mg T.cl T.xd cls H)->DIfs (za3 X scope (ts++fn) cl C s₀ H₀ ex E) ifs (ev T c).t)/\(∀ cl C s₀ H₀ ex E,zaf (za3 X scope (ts++fn) cl C s₀ H₀ ex E) (fun cls _ H=>lX X.K X.mg T.cl T.xd cls H)->DE (za3 X scope (ts++fn) cl C s₀ H₀ ex E) elt (ev T e).e) /\
   (∀ y,foldedSetIterable iter X.env y=pure y):=by
 have qv:=Q0h q;clear q;obtain⟨⟨elt,tg,iter,ifs,scope,pos⟩,rfl,q⟩:=qv;dsimp only at q ⊢
 ·cases et:zbu two tg with
  | none=>rw[et]at q;cases q
  | some ts =>
   rw[et]at q;dsimp only at q ⊢;simp only[Zc,Zf]at q;obtain⟨⟨⟨⟨⟨⟨q1,q2⟩,q3⟩,q4⟩,q5⟩,q6⟩,q7⟩:=q;have ok:=Q2z R q1;have Rc:=fun cl C s₀ H₀ ex E hE=>R.comp q1 cl C s₀ H₀ ex E hE;have loc:∀ cl C s₀ H₀ ex E,∀ (i:Nat) (y:Str) (p:Pos),ts[i]? = some y->PG (za3 X scope (ts++ix.filterMap fun i=>g.N[i]?) cl C s₀ H₀ ex E) (.Name y p) (zaS i):=fun cl C s₀ H₀ ex E i y p hy=>by
    have hm:y∈ts:=Z0 hy;have hl:scope.names.lookup y=some .local:=by simpa using (Z5.mp q3) y hm
    have hl2:(compEnvC scope cl C X.env).scope.names.lookup y=some .local:=Q0w (k:=.local) (by decide) hl
    exact Q4s ok.nd (by
     show (ts++_)[i]? = some y;rw[getElem?_append_left (Zv.mp hy).1];exact hy) (.inl hl2) (.inr hl2)
   cases two with
   | false =>
    obtain⟨⟨⟨y,p⟩,e0⟩,_,et⟩:=ZL.mp et;cases e0;cases et;exact⟨_,_,_,_,_,_,[y],_,zaS 0,rfl,unp1,ok,by rw[R.N];exact q2,hi.i R q5,fun cl C s₀ H₀ ex E=>loc cl C s₀ H₀ ex E 0 y p rfl,fun cl C s₀ H₀ ex E hE=>hc.c (Rc cl C s₀ H₀ ex E hE) q6,fun cl C s₀ H₀ ex E hE=>he.e (Rc cl C s₀ H₀ ex E hE) q7,Q1y q4⟩
   | true =>
    obtain⟨⟨⟨es,k',pp⟩,e0⟩,_,et⟩:=ZL.mp et;obtain⟨⟨⟨a,b⟩,e1⟩,_,et⟩:=ZL.mp et;obtain⟨⟨⟨y,p⟩,e2⟩,_,et⟩:=ZL.mp et;obtain⟨⟨⟨y',p'⟩,e3⟩,_,et⟩:=ZL.mp et;dsimp only at e0 e1 e2 e3;subst e2 e3;subst e1;cases e0;cases et;exact⟨_,_,_,_,_,_,[y,y'],_,gTup X.K 2 (zbw (zaS 0) (zbw (zaS 1) gNil)),rfl,unp2,ok,by rw[R.N];exact q2,hi.i R q5,
     fun cl C s₀ H₀ ex E=>Q6o R.calm (Q1q (loc cl C s₀ H₀ ex E 0 y p rfl) (Q1q (loc cl C s₀ H₀ ex E 1 y' p' rfl) Q4t)),fun cl C s₀ H₀ ex E hE=>hc.c (Rc cl C s₀ H₀ ex E hE) q6,fun cl C s₀ H₀ ex E hE=>he.e (Rc cl C s₀ H₀ ex E hE) q7,Q1y q4⟩
theorem Q2A(hi:∀ {es:List Expr} {n:Nat} {p:Pos} {iter:Expr},ci.i g iter=true->DI X (.Tuple es n p) iter wi)(hc:Snd T c)(he:Snd T e)(R:Rel X T g)(q:zbr true ix ci (chk T c) (chk T e) g x=true) :
  ∃ elt tg iter ifs scope pos ts fn gV,x=.ListComp elt [⟨tg,iter,ifs,0⟩] scope pos/\Unp X.K ts.length zaI gV/\zax X.env.scope scope (ts++fn) ts.length fn/\ix.map (fun i=>X.N[i]?)=fn.map some/\DI X tg iter wi /\
   (∀ cl C s₀ H₀ ex E,PG (za3 X scope (ts++fn) cl C s₀ H₀ ex E) tg gV)/\(∀ cl C s₀ H₀ ex E,zaf (za3 X scope (ts++fn) cl C s₀ H₀ ex E) (fun cls _ H=>lX X.K X.mg T.cl T.xd cls H)->DIfs (za3 X scope (ts++fn) cl C s₀ H₀ ex E) ifs (ev T c).t)/\(∀ cl C s₀ H₀ ex E,zaf (za3 X scope (ts++fn) cl C s₀ H₀ ex E) (fun cls _ H=>lX X.K X.mg T.cl T.xd cls H)->DE (za3 X scope (ts++fn) cl C s₀ H₀ ex E) elt (ev T e).e) /\
   (∀ y,foldedSetIterable iter X.env y=pure y):=by
 have qv:=Q0h q;clear q;obtain⟨⟨elt,tg,iter,ifs,scope,pos⟩,rfl,q⟩:=qv;dsimp only at q ⊢
 ·cases et:zbu true tg with
  | none=>rw[et]at q;cases q
  | some ts =>
   rw[et]at q;dsimp only at q ⊢;simp only[Zc,Zf]at q;obtain⟨⟨⟨⟨⟨⟨q1,q2⟩,q3⟩,q4⟩,q5⟩,q6⟩,q7⟩:=q;have ok:=Q2z R q1;have Rc:=fun cl C s₀ H₀ ex E hE=>R.comp q1 cl C s₀ H₀ ex E hE;have loc:∀ cl C s₀ H₀ ex E,∀ (i:Nat) (y:Str) (p:Pos),ts[i]? = some y->PG (za3 X scope (ts++ix.filterMap fun i=>g.N[i]?) cl C s₀ H₀ ex E) (.Name y p) (zaS i):=fun cl C s₀ H₀ ex E i y p hy=>by
    have hm:y∈ts:=Z0 hy;have hl:scope.names.lookup y=some .local:=by simpa using (Z5.mp q3) y hm
    have hl2:(compEnvC scope cl C X.env).scope.names.lookup y=some .local:=Q0w (k:=.local) (by decide) hl
    exact Q4s ok.nd (by
     show (ts++_)[i]? = some y;rw[getElem?_append_left (Zv.mp hy).1];exact hy) (.inl hl2) (.inr hl2)
   obtain⟨⟨⟨es,k',pp⟩,e0⟩,_,et⟩:=ZL.mp et;obtain⟨⟨⟨a,b⟩,e1⟩,_,et⟩:=ZL.mp et;obtain⟨⟨⟨y,p⟩,e2⟩,_,et⟩:=ZL.mp et;obtain⟨⟨⟨y',p'⟩,e3⟩,_,et⟩:=ZL.mp et;dsimp only at e0 e1 e2 e3;subst e2 e3;subst e1;cases e0;cases et;exact⟨_,_,_,_,_,_,[y,y'],_,gTup X.K 2 (zbw (zaS 0) (zbw (zaS 1) gNil)),rfl,unp2,ok,by rw[R.N];exact q2,hi q5,
    fun cl C s₀ H₀ ex E=>Q6o R.calm (Q1q (loc cl C s₀ H₀ ex E 0 y p rfl) (Q1q (loc cl C s₀ H₀ ex E 1 y' p' rfl) Q4t)),fun cl C s₀ H₀ ex E hE=>hc.c (Rc cl C s₀ H₀ ex E hE) q6,fun cl C s₀ H₀ ex E hE=>he.e (Rc cl C s₀ H₀ ex E hE) q7,Q1y q4⟩
theorem Q7s(hi:Snd T it)(hc:Snd T c)(he:Snd T e):Snd T (.compe ix it c e):=by
 refine Snd.of (u:=dB (zaO (zb8 (ev T it).e) ix zaI (ev T c).t (ev T e).e)) rfl rfl fun{X g} R {x} q=>?_;obtain⟨elt,tg,iter,ifs,scope,pos,ts,fn,gV,rfl,h1,h2,h3,h4,h5,h6,h7,h8⟩:=Q2A (fun q=>Q9L hi R q) hc he R q;exact dtv (Q4U R.tp R.tk h1 R.calm h2 h3 h4 h5 h6 h7 h8) fun _=>rfl
theorem Q8X{two:Bool}{ix:List Nat}{it c e:CE}(hi:Snd T it)(hc:Snd T c)(he:Snd T e):Snd T (.comp two ix it c e):=by
 refine Snd.of (u:=dB (zbz (ev T it).i ix (zbk two) (ev T c).t (ev T e).e)) rfl rfl fun{X g} R {x} q=>?_;obtain⟨elt,tg,iter,ifs,scope,pos,ts,fn,gV,rfl,h1,h2,h3,h4,h5,h6,h7,h8⟩:=Q1g hi hc he R q;exact dtv (Qal R.tp R.tk h1 R.calm h2 h3 h4 h5 h6 h7 h8) fun _=>rfl
theorem Q7t{two:Bool}{ix:List Nat}{it c e:CE}(hi:Snd T it)(hc:Snd T c)(he:Snd T e):Snd T (.compz two ix it c e):=by
 refine Snd.of (u:=dB (zaO (ev T it).i ix (zbk two) (ev T c).t (ev T e).e)) rfl rfl fun{X g} R {x} q=>?_;obtain⟨elt,tg,iter,ifs,scope,pos,ts,fn,gV,rfl,h1,h2,h3,h4,h5,h6,h7,h8⟩:=Q1g hi hc he R q;exact dtv (Q4U R.tp R.tk h1 R.calm h2 h3 h4 h5 h6 h7 h8) fun _=>rfl
theorem Q8Y(ha:Snd T a):Snd T (.rng1 a) where
 e:=fun _ _ q=>nomatch q
 t:=fun _ _ q=>nomatch q
 be:=fun{X g} R {op vs pos} q=>by match vs,q with | [x],q=>cases q
 bt:=fun{X g} R {op vs pos} q=>by match vs,q with | [x],q=>cases q
 a:=fun _ _ q=>nomatch q
 k:=fun _ _ q=>nomatch q
 o:=fun{X g} R {x} q=>by match x,q with | some x,q=>cases q
 c:=fun{X g} R {xs} q=>by match xs,q with | [x],q=>cases q
 i:=fun{X g} R {x tg} q=>by
  have qv:=Q0h (show (ckR1 T.toTabC "range" (chk T a).e g x)=true from q);clear q;obtain⟨⟨y,p,z,zs,pp⟩,rfl,q⟩:=qv;simp only[Zc,Zt,isEmpty_iff]at q;obtain⟨⟨⟨⟨rfl,q1⟩,rfl⟩,q2⟩,q3⟩:=q;obtain⟨g1,g2,g3,g4⟩:=R.blt q1;exact Q6N g1 g4 (Q4A (ha.e R q3) Q6I (Q0c q2)) (Q0c q2)
theorem Qb1(ha:Snd T a):Snd T (.rev a) where
 e:=fun _ _ q=>nomatch q
 t:=fun _ _ q=>nomatch q
 be:=fun{X g} R {op vs pos} q=>by match vs,q with | [x],q=>cases q
 bt:=fun{X g} R {op vs pos} q=>by match vs,q with | [x],q=>cases q
 a:=fun _ _ q=>nomatch q
 k:=fun _ _ q=>nomatch q
 o:=fun{X g} R {x} q=>by match x,q with | some x,q=>cases q
 c:=fun{X g} R {xs} q=>by match xs,q with | [x],q=>cases q
 i:=fun{X g} R {x tg} q=>by
  have qv:=Q0h (show (ckR1 T.toTabC "reversed" (chk T a).e g x)=true from q);clear q;obtain⟨⟨y,p,z,zs,pp⟩,rfl,q⟩:=qv;simp only[Zc,Zt,isEmpty_iff]at q;obtain⟨⟨⟨⟨rfl,q1⟩,rfl⟩,q2⟩,q3⟩:=q;obtain⟨g1,g2,g3,g4⟩:=R.blt q1;exact Qch (ha.e R q3) g1 g4 (Q0c q2)
theorem Qb2:Snd T .nil where
 e:=fun _ _ q=>nomatch q
 t:=fun _ _ q=>nomatch q
 be:=fun _ _ _ _ q=>nomatch q
 bt:=fun _ _ _ _ q=>nomatch q
 a:=fun{X g} R {es} q=>by
  have:es=[]:=isEmpty_iff.mp q;subst this;exact⟨Q6I,rfl,rfl⟩
 k:=fun{X g} R {kws} q=>by
  match kws,q with
  | [],_=>exact Qaw
  | _::_,q=>cases q
 i:=fun _ _ _ q=>nomatch q
 o:=fun{X g} R {x} q=>by
  have:x=none:=Option.isNone_iff_eq_none.mp q;subst this;exact Qar
 c:=fun{X g} R {es} q=>by
  have:es=[]:=isEmpty_iff.mp q;subst this;exact Q8A
theorem Q8Z(ha:Snd T a)(hs:Snd T as):Snd T (.cons a as) where
 e:=fun _ _ q=>nomatch q
 t:=fun _ _ q=>nomatch q
 be:=fun _ _ _ _ q=>nomatch q
 bt:=fun _ _ _ _ q=>nomatch q
 a:=fun{X g} R {es} q=>by
  match es,q with
  | x::r,q =>
   have q':(zae x&&(chk T a).e g x&&(chk T as).a g r)=true:=q;simp only[Zc]at q';obtain⟨⟨q1,q2⟩,q3⟩:=q';obtain⟨a1,a2,a3⟩:=hs.a R q3;exact⟨Q4A (ha.e R q2) a1 (Q0c q1),by rw[ZW,q1,a2];rfl,by rw[Zk,a3];rfl⟩
 k:=fun{X g} R {kws} q=>by
  match kws,q with
  | [],q=>cases q
  | ⟨nm,x,kp⟩::r,q =>
   have q':(zae x&&(chk T a).e g x&&(chk T as).a g (r.map (·.value)))=true:=q;simp only[Zc]at q';obtain⟨⟨q1,q2⟩,q3⟩:=q';exact Q8N (ha.e R q2) (hs.k R q3)
 i:=fun _ _ _ q=>nomatch q
 o:=fun _ _ q=>nomatch q
 c:=fun _ _ q=>nomatch q
theorem snd:∀ c:CE,Snd T c
 | .var _=>QaM
 | .con _=>QaN
 | .glob _=>Q8T
 | .bin _ a b=>QaO (snd a) (snd b)
 | .cmp _ a b=>QaP (snd a) (snd b)
 | .chain _ _ a b c=>Q7o (snd a) (snd b) (snd c)
 | .and a b=>QaQ (snd a) (snd b)
 | .or a b=>Qcm (snd a) (snd b)
 | .not a=>QaR (snd a)
 | .neg a=>QaS (snd a)
 | .ite c a b=>QaT (snd c) (snd a) (snd b)
 | .ix a b=>Qcn (snd a) (snd b)
 | .sl a lo hi=>Qco (snd a) (snd lo) (snd hi)
 | .tup as=>QaU (snd as)
 | .lst as=>QaV (snd as)
 | .lstz as=>Q8U (snd as)
 | .frz e=>QaW (snd e)
 | .call _ as=>Q8V (snd as)
 | .blt _ as=>QaY (snd as)
 | .isi _ e=>Qb0 (snd e)
 | .ms _ o as=>Qcp (snd o) (snd as)
 | .ml _ o as=>Qcq (snd o) (snd as)
 | .joinr o e=>Q7r (snd o) (snd e)
 | .fstr _=>Q8W
 | .fzt e=>QaX (snd e)
 | .comp _ _ it c e=>Q8X (snd it) (snd c) (snd e)
 | .compz _ _ it c e=>Q7t (snd it) (snd c) (snd e)
 | .compe _ it c e=>Q7s (snd it) (snd c) (snd e)
 | .rng1 a=>Q8Y (snd a)
 | .rev a=>Qb1 (snd a)
 | .callx _ as=>Q7q (snd as)
 | .nil=>Qb2
 | .cons a as=>Q8Z (snd a) (snd as)
end
inductive HP where
 | isx (nm:Str) | lit (l:Lit) | row
set_option genSizeOf false in
set_option genInjectivity false in
inductive CS where
 | nil | seq (s r:CS)
 | set (i:Nat) (e:CE)
 | set2 (i j:Nat) (e:CE)
 | set3 (i j k:Nat) (as:CE)
 | ret (e:CE)
 | ite (c:CE) (a b:CS)
 | for1 (i:Nat) (it:CE) (b:CS)
 | for2 (i j:Nat) (it:CE) (b:CS)
 | ex (e:CE)
 | raisx (c:Nat) (as:CE)
 | fz (i:Nat) (s:CS)
 | raisr (c:Nat) (as:CE)
 | tryx (f:Nat) (as:CE) (cc c j:Nat)
 | trym (f:Nat) (as:CE) (je y:Nat) (hs:List (Str×List HP))
noncomputable def hP(T:Tab)(c je:Nat)(a:Addr):HP->DTE
 | .isx nm=>match T.isx c nm with
  | some b=>dIsE je a b
  | none=>botE
 | .lit l=>dC l.d
 | .row=>match zaZ c,T.rw c with
  | some n,true=>dXrow je a n
  | _,_=>botE
noncomputable def hA(T:Tab)(c je:Nat)(a:Addr):List HP->DTA
 | []=>dNil
 | p::r=>zbp (hP T c je a p) (hA T c je a r)
noncomputable def hS(T:Tab)(c je:Nat)(a:Addr)(y:Nat):List (List HP)->DTS
 | []=>zby
 | p::r=>dSeq (dSet y (dOp rAddD (dVar y) (dTup (hA T c je a p)))) (hS T c je a y r)
noncomputable def zbb(T:Tab)(c:Nat):List (Str×List HP)->Option (List HP)
 | []=>none
 | (w,p)::r=>match T.isx c w with
  | some true=>some p
  | some false=>zbb T c r
  | none=>none
noncomputable def evS(T:Tab):CS->DTS
 | .nil=>zby
 | .seq s r=>dSeq (evS T s) (evS T r)
 | .set i e=>dSet i (ev T e).e
 | .set2 i j e=>dAsg (ev T e).e (zbx 2 (zaH (zan i) (zaH (zan j) zbN)))
 | .set3 i j k as=>dPar3 i j k (ev T as).a
 | .ret e=>dRet (ev T e).e
 | .ite c a b=>dIfS (ev T c).t (evS T a) (evS T b)
 | .for1 i it b=>dFor (ev T it).i (zan i) (evS T b)
 | .for2 i j it b=>dFor (ev T it).i (zbx 2 (zaH (zan i) (zaH (zan j) zbN))) (evS T b)
 | .ex e=>dDrop (ev T e).e
 | .raisx c as=>zbI (ev T as).a (T.xd c)
 | .fz i s=>dFzS i (evS T s)
 | .raisr c as=>zaN (ev T as).a c T.xd
 | .tryx f as cc c j=>match T.fx f with
  | some fi=>zbg fi.sp (fi.dds.drop (fi.dds.length-(fi.np-as.len))) cc c j T.xd (ev { T with xd:=fun _ _=>False } as).a
  | none=>dBot
 | .trym f as je y hs=>match T.fx f with
  | some fi=>fun DD ρ M=>(∀ c M,¬ T.xd c M)/\dTryA fi.sp (fi.dds.drop (fi.dds.length-(fi.np-as.len))) je (fun c=>(zbb T c hs).isSome=true) (fun c a=>match zbb T c hs with | some p=>dSeq (dSet y (dTup (hA T c je a p))) zby | none=>dBot) (ev T as).a DD ρ M
  | none=>dBot
theorem evS_nil(T:Tab):evS T (.nil)=(zby):=rfl
theorem evS_seq(T:Tab){s}{r}:evS T (.seq s r)=(dSeq (evS T s) (evS T r)):=rfl
theorem evS_set(T:Tab){i}{e}:evS T (.set i e)=(dSet i (ev T e).e):=rfl
theorem evS_set2(T:Tab){i}{j}{e}:evS T (.set2 i j e)=(dAsg (ev T e).e (zbx 2 (zaH (zan i) (zaH (zan j) zbN)))):=rfl
theorem evS_set3(T:Tab){i}{j}{k}{as}:evS T (.set3 i j k as)=(dPar3 i j k (ev T as).a):=rfl
theorem evS_ret(T:Tab){e}:evS T (.ret e)=(dRet (ev T e).e):=rfl
theorem evS_ite(T:Tab){c}{a}{b}:evS T (.ite c a b)=(dIfS (ev T c).t (evS T a) (evS T b)):=rfl
theorem evS_for1(T:Tab){i}{it}{b}:evS T (.for1 i it b)=(dFor (ev T it).i (zan i) (evS T b)):=rfl
theorem evS_for2(T:Tab){i}{j}{it}{b}:evS T (.for2 i j it b)=(dFor (ev T it).i (zbx 2 (zaH (zan i) (zaH (zan j) zbN))) (evS T b)):=rfl
theorem evS_ex(T:Tab){e}:evS T (.ex e)=(dDrop (ev T e).e):=rfl
theorem evS_raisx(T:Tab){c}{as}:evS T (.raisx c as)=(zbI (ev T as).a (T.xd c)):=rfl
theorem evS_fz(T:Tab){i}{s}:evS T (.fz i s)=(dFzS i (evS T s)):=rfl
theorem evS_raisr(T:Tab){c}{as}:evS T (.raisr c as)=(zaN (ev T as).a c T.xd):=rfl
theorem evS_tryx(T:Tab){f}{as}{cc}{c}{j}:evS T (.tryx f as cc c j)=(match T.fx f with
  | some fi=>zbg fi.sp (fi.dds.drop (fi.dds.length-(fi.np-as.len))) cc c j T.xd (ev { T with xd:=fun _ _=>False } as).a
  | none=>dBot):=rfl
theorem evS_trym(T:Tab){f}{as}{je}{y}{hs}:evS T (.trym f as je y hs)=(match T.fx f with
  | some fi=>fun DD ρ M=>(∀ c M,¬ T.xd c M)/\dTryA fi.sp (fi.dds.drop (fi.dds.length-(fi.np-as.len))) je (fun c=>(zbb T c hs).isSome=true) (fun c a=>match zbb T c hs with | some p=>dSeq (dSet y (dTup (hA T c je a p))) zby | none=>dBot) (ev T as).a DD ρ M
  | none=>dBot):=rfl
noncomputable def zb1:Expr->Bool
 | .ListComp .. | .SetComp .. | .DictComp ..=>false
 | _=>true
noncomputable def notTup:Expr->Bool
 | .Tuple ..=>false
 | _=>true
noncomputable def swapB(g:GI)(y:Str)(p:Pos):Expr->Bool
 | .ListComp _ _ s q=>g.kd y==some .local&&p.line==q.line && !(s.names.any fun(n,k)=>n==y&&(k==.local||k==.cell))
 | _=>false
noncomputable def zaC(g:GI)(i:Nat)(y:Str):Bool:=g.N[i]? == some y&&(g.kd y==some .local||g.kd y==some .cell)
noncomputable def vTry:(x:Stmt)->Option { p:Stmt×ExceptHandler×Pos // x=.Try [p.1] [p.2.1] [] [] p.2.2 }
 | .Try [b] [h] [] [] p=>some ⟨(b,h,p),rfl⟩
 | _=>none
noncomputable def vTryM:(x:Stmt)->Option { p:Stmt×ExceptHandler×List ExceptHandler×Pos // x=.Try [p.1] (p.2.1::p.2.2.1) [] [] p.2.2.2 }
 | .Try [b] (h::hs) [] [] p=>some ⟨(b,h,hs,p),rfl⟩
 | _=>none
noncomputable def vRet:(x:Stmt)->Option { p:Expr×Pos // x=.Return (some p.1) p.2 }
 | .Return (some v) p=>some ⟨(v,p),rfl⟩
 | _=>none
noncomputable def vHan:(x:ExceptHandler)->Option { p:Str×Pos×Option Str×Stmt×List Stmt×Pos // x=.ExceptHandler (some (.Name p.1 p.2.1)) p.2.2.1 (p.2.2.2.1::p.2.2.2.2.1) p.2.2.2.2.2 }
 | .ExceptHandler (some (.Name x np)) n (b::r) p=>some ⟨(x,np,n,b,r,p),rfl⟩
 | _=>none
noncomputable def vEx:(x:Stmt)->Option { p:Expr×Pos // x=.Expr p.1 p.2 }
 | .Expr e p=>some ⟨(e,p),rfl⟩
 | _=>none
noncomputable def vSet:(x:Stmt)->Option { p:Str×Pos×Expr×Pos // x=.Assign [.Name p.1 p.2.1] p.2.2.1 p.2.2.2 }
 | .Assign [.Name y yp] v p=>some ⟨(y,yp,v,p),rfl⟩
 | _=>none
noncomputable def vRf:(x:Stmt)->Option { p:Str×Pos×Str×Pos×Pos×Nat×Pos×Pos // x=.Raise (some (.Call (.Name p.1 p.2.1) [.Name p.2.2.1 p.2.2.2.1] [] p.2.2.2.2.1)) (some (.Constant .none p.2.2.2.2.2.1 p.2.2.2.2.2.2.1)) p.2.2.2.2.2.2.2 }
 | .Raise (some (.Call (.Name y yp) [.Name r rp] [] cp)) (some (.Constant .none kd kp)) p=>some ⟨(y,yp,r,rp,cp,kd,kp,p),rfl⟩
 | _=>none
noncomputable def vAt:(x:Expr)->Option { p:Str×Pos×Str×Pos // x=.Attribute (.Name p.1 p.2.1) p.2.2.1 p.2.2.2 }
 | .Attribute (.Name y yp) f p=>some ⟨(y,yp,f,p),rfl⟩
 | _=>none
structure ChkS where
 s:GI->Stmt->Bool
 b:GI->List Stmt->Bool
noncomputable def mkS(f:GI->Stmt->Bool):ChkS:=⟨f,fun _ _=>false⟩
noncomputable def isComp:CE->Bool
 | .comp .. | .compz .. | .compe ..=>true
 | _=>false
noncomputable def ckP(T:TabC)(g:GI)(n:Str):HP->Expr->Bool
 | .isx nm=>fun e=>zb6 T g "isinstance" && onV (zba e) fun c=>c.1==("isinstance" : Str)&&onV (vNm c.2.2.1) (fun m=>m.1==n)&&(match c.2.2.2.1 with
  | [k]=>onV (vNm k) (fun k=>k.1==nm)&&zaq g nm
  | _=>false)
 | .lit l=>fun e=>onV (vCst e) fun k=>l.ck k.1
 | .row=>fun e=>onV (vAt e) fun c=>c.1==n&&c.2.2.1==("row" : Str)
noncomputable def ckA(T:TabC)(g:GI)(n:Str):List HP->List Expr->Bool
 | []=>fun es=>es.isEmpty
 | p::r=>fun es=>match es with
  | e::es=>ckP T g n p e&&ckA T g n r es
  | []=>false
noncomputable def ckT(T:TabC)(g:GI)(n:Str)(ps:List HP)(e:Expr):Bool:=onV (vTup e) fun t=>ckA T g n ps t.1
noncomputable def ckHs(T:TabC)(g:GI)(n:Str)(y:Nat):List (List HP)->List Stmt->Bool
 | []=>fun sts=>sts.isEmpty
 | p::r=>fun sts=>match sts with
  | st::sts=>onV (vSet st) (fun a=>zaC g y a.1&&zbe g a.1&&onV (vAdd a.2.2.1) fun b=>onV (vNm b.1) (fun m=>m.1==a.1)&&ckT T g n p b.2.1)&&ckHs T g n y r sts
  | []=>false
noncomputable def ckX(T:TabC)(f:Nat)(as:CE)(g:GI)(e:Expr):Bool:=match T.fx f with
 | some fi=>onV (zba e) fun c=>zaq g c.1&&c.1==fi.nm&&decide (as.len<=fi.np)&&decide (fi.np-as.len<=fi.dds.length)&&(chkC T as).a g (c.2.2.1::c.2.2.2.1)
 | none=>false
noncomputable def ckMs(T:TabC)(g:GI)(je y:Nat):List (Str×List HP)->List ExceptHandler->Bool
 | []=>fun hs=>hs.isEmpty
 | (w,p)::r=>fun hs=>match hs with
  | h::hs=>onV (vHan h) (fun h=>zaq g h.1&&h.1==w&&T.lk.contains h.1&&h.2.2.2.2.1.isEmpty&&(match h.2.2.1 with
    | some n=>g.N[je]? == some n&&onV (vSet h.2.2.2.1) (fun a=>zaC g y a.1&&ckT T g n p a.2.2.1)
    | none=>false))&&ckMs T g je y r hs
  | []=>false
noncomputable def zbs(T:TabC):CS->ChkS
 | .nil=>⟨fun _ _=>false,fun _ sts=>sts.isEmpty⟩
 | .seq s r=>⟨fun _ _=>false,fun g sts=>match sts with | x::xs=>(zbs T s).s g x&&(zbs T r).b g xs | []=>false⟩
 | .set i e=>mkS fun g x=>match x with
  | .Assign [.Name y p] v _=>zaC g i y&&(chkC T e).e g v&&(zb1 v||g.kd y==some .cell||(swapB g y p v&&isComp e))
  | _=>false
 | .set2 i j e=>mkS fun g x=>match x with
  | .Assign [.Tuple [.Name y _,.Name z _] _ _] v _=>zaC g i y&&zaC g j z&&(chkC T e).e g v&&zb1 v&&notTup v
  | _=>false
 | .set3 i j k as=>mkS fun g x=>match x with
  | .Assign [.Tuple [.Name x px,.Name y py,.Name z pz] _ _] (.Tuple [a,b,c] _ _) _=>zaC g i x&&zaC g j y&&zaC g k z&&g.kd x==some .local&&g.kd y==some .local&&g.kd z==some .local && !(i==j) && !(i==k) && !(j==k)&&py.line==px.line&&pz.line==px.line && !([a,b,c].all (foldedForSure 8)) && !([a,b,c].all (constantsAlone 8))&&[a,b,c].all zae&&(chkC T as).a g [a,b,c]
  | _=>false
 | .ret e=>mkS fun g x=>match x with
  | .Return (some v) _=>(chkC T e).e g v
  | _=>false
 | .ite c a b=>mkS fun g x=>match x with
  | .If t y z _=>(chkC T c).e g t&&(zbs T a).b g y&&(zbs T b).b g z
  | _=>false
 | .for1 i it b=>mkS fun g x=>match x with
  | .For (.Name y _) iter body [] _=>zaC g i y&&zb0 iter&&(chkC T it).i g iter&&(zbs T b).b g body
  | _=>false
 | .for2 i j it b=>mkS fun g x=>match x with
  | .For (.Tuple [.Name y _,.Name z _] _ _) iter body [] _=>zaC g i y&&zaC g j z&&zb0 iter&&(chkC T it).i g iter&&(zbs T b).b g body
  | _=>false
 | .ex e=>mkS fun g x=>match x with
  | .Expr v _=>(chkC T e).e g v&&zb1 v
  | _=>false
 | .raisx c as=>mkS fun g x=>match x with
  | .Raise (some (.Call (.Name y _) (z::zs) [] _)) none _=>decide (c<64) && !T.rw c&&zaq g y&&T.cl c==some y&&(chkC T as).a g (z::zs)
  | _=>false
 | .raisr c as=>mkS fun g x=>match x with
  | .Raise (some (.Call (.Name y _) (z::zs) [] _)) none _=>decide (c<64)&&T.rw c&&zaq g y&&T.cl c==some y&&(chkC T as).a g (z::zs)
  | _=>false
 | .tryx f as cc c j=>mkS fun g x=>onV (vTry x) fun t=>onV (vRet t.1) (fun r=>ckX T f as g r.1)&&onV (vHan t.2.1) fun h=>h.2.2.1.isNone&&h.2.2.2.2.1.isEmpty&&zaq g h.1&&T.cl cc==some h.1&&decide (cc<64) && !T.rw cc
   && onV (vRf h.2.2.2.1) fun r=>zaq g r.1&&T.cl c==some r.1&&decide (c<64)&&T.rw c&&g.N[j]? == some r.2.2.1&&zbe g r.2.2.1
 | .fz _ s=>mkS fun g x=>(zbs T s).s g x
 | .trym f as je y hs=>mkS fun g x=>onV (vTryM x) fun t=>(match g.N[je]? with
       | some n=>zaC g je n&&g.kd n==some .local&&zbe g n
       | none=>false)&&ckMs T g je y hs (t.2.1::t.2.2.1)&&onV (vEx t.1) fun x=>ckX T f as g x.1
noncomputable abbrev chkS(T:Tab)(c:CS):ChkS:=zbs T.toTabC c
structure RelS(X:Cx)(T:Tab)(g:GI):Prop extends Rel X T g where
 kind:X.env.scope.kind=.function
 pass:PassesOwn (model X.prog X.w) X.A X.env X.xe
 own:∀ x,g.kd x=some .cell->X.env.scope.names.lookup x=some .cell
 fn:∀ x,X.fn x=true
section
variable{X:Cx}{T:Tab}{g:GI}
theorem Q0Y(h:zb1 v=true):swapsWith v t l env=pure false:=by
 cases v <;> first | rfl | cases h
theorem Q7u(h:env.scope.names.lookup y=some .cell):swapsWith v (some (.Name y p)) l env=pure false:=by
 have hk:(env.kindOf y==some .local)=false:=by rw[show env.kindOf y=some .cell from h];rfl
 cases v with
 | ListComp el gens sc pp =>
  show (pure (env.blockKind==.function&&env.kindOf y==some .local&&p.line==pp.line && !(sc.names.any fun(n,k)=>n==y&&(k==.local||k==.cell))):Sem Bool)=pure false;rw[hk,Bool.and_false,Bool.false_and,Bool.false_and]
 | SetComp el gens sc pp =>
  show (pure (env.blockKind==.function&&env.kindOf y==some .local&&p.line==pp.line && !(sc.names.any fun(n,k)=>n==y&&(k==.local||k==.cell))):Sem Bool)=pure false;rw[hk,Bool.and_false,Bool.false_and,Bool.false_and]
 | DictComp k el gens sc pp =>
  show (pure (env.blockKind==.function&&env.kindOf y==some .local&&p.line==pp.line && !(sc.names.any fun(n,k)=>n==y&&(k==.local||k==.cell))):Sem Bool)=pure false;rw[hk,Bool.and_false,Bool.false_and,Bool.false_and]
 | _=>rfl
theorem RelS.loc(R:RelS X T g)(h:zaC g i y=true):X.N.Nodup/\X.N[i]? = some y/\Loc X.env.scope y/\(X.fn y=true\/X.env.scope.names.lookup y=some .local):=by
 unfold zaC at h;simp only[Zc,or_eq_true,Zt]at h;refine⟨by rw[R.N];exact R.nd,by rw[R.N];exact h.1,?_,.inl (R.fn y)⟩
 rcases h.2 with q | q
 ·exact .inl (R.lc y q)
 ·exact .inr (R.own y q)
theorem RelS.tg(R:RelS X T g)(h:zaC g i y=true):DL.DG X (.Name y p) (zan i):=by
 obtain⟨a,b,c,d⟩:=R.loc h;exact Qak a b c d
structure SndS(T:Tab)(c:CS):Prop where
 s:∀ {X:Cx} {g:GI},RelS X T g->∀ {x:Stmt},(chkS T c).s g x=true->DL.DS X x (evS T c)
 b:∀ {X:Cx} {g:GI},RelS X T g->∀ {xs:List Stmt},(chkS T c).b g xs=true->DSs X xs (evS T c)
theorem SndS.of{f:GI->Stmt->Bool}(hc:chkS T c=mkS f)(h:∀ {X:Cx} {g:GI},RelS X T g->∀ {x:Stmt},f g x=true->DL.DS X x (evS T c)):SndS T c where
 s:=fun R x q=>by rw[hc]at q;exact h R q
 b:=fun R x q=>by rw[hc]at q;cases q
theorem Q9a:SndS T (.set i e):=by
 refine SndS.of rfl fun{X g} R {x} q=>?_;split at q
 ·rename_i y p v sp;simp only[Zc,or_eq_true]at q;obtain⟨⟨q1,q2⟩,q3⟩:=q;obtain⟨l1,l2,l3,l4⟩:=R.loc q1;rcases q3 with (q3 | q3) | ⟨q3,q4⟩
  ·exact Q6M l1 l2 l3 ((snd e).e R.toRel q2) (Q0Y q3) l4
  ·exact Q6M l1 l2 l3 ((snd e).e R.toRel q2) (Q7u (R.own y (Zt.mp q3))) l4
  ·unfold swapB at q3;split at q3
   ·rename_i el gens sc pp;simp only[Zc,Zt,ZG]at q3;obtain⟨⟨r1,r2⟩,r3⟩:=q3;have hl:=R.lc y r1;have hb:X.env.blockKind=.function:=by unfold Env.blockKind;rw[R.kind];rfl
    have hsw:swapsWith (.ListComp el gens sc pp) (some (.Name y p)) sp.line X.env=pure true:=by
     show (pure (X.env.blockKind==.function&&X.env.kindOf y==some .local&&p.line==pp.line && !(sc.names.any fun(n,k)=>n==y&&(k==.local||k==.cell))):Sem Bool)=pure true;have hk:X.env.kindOf y=some .local:=hl;rw[hb,hk,r2,r3];simp
    unfold isComp at q4;split at q4
    ·rename_i two ix it c el';obtain⟨elt,tg,iter,ifs,scope,pos,ts,fn,gV,e0,h1,h2,h3,h4,h5,h6,h7,h8⟩:=Q1g (snd it) (snd c) (snd el') R.toRel q2;cases e0;exact Q5N R.tp R.tk hsw l1 l2 hl h1 R.calm h2 h3 h4 h5 h6 h7 h8
    ·rename_i two ix it c el';obtain⟨elt,tg,iter,ifs,scope,pos,ts,fn,gV,e0,h1,h2,h3,h4,h5,h6,h7,h8⟩:=Q1g (snd it) (snd c) (snd el') R.toRel q2;cases e0;exact Q2s R.tp R.tk hsw l1 l2 hl h1 R.calm h2 h3 h4 h5 h6 h7 h8
    ·rename_i ix it c el';obtain⟨elt,tg,iter,ifs,scope,pos,ts,fn,gV,e0,h1,h2,h3,h4,h5,h6,h7,h8⟩:=Q2A (fun q=>Q9L (snd it) R.toRel q) (snd c) (snd el') R.toRel q2;cases e0;exact Q2s R.tp R.tk hsw l1 l2 hl h1 R.calm h2 h3 h4 h5 h6 h7 h8
    ·cases q4
   ·cases q3
 ·cases q
theorem Q7v:SndS T (.set2 i j e):=by
 refine SndS.of rfl fun{X g} R {x} q=>?_;split at q
 ·rename_i y p z p' k pp v sp;simp only[Zc]at q;obtain⟨⟨⟨⟨q1,q2⟩,q3⟩,q4⟩,q5⟩:=q;exact QbW ((snd e).e R.toRel q3) (Q9C R.calm (Q1Z (R.tg q1) (Q1Z (R.tg q2) Q6K))) (by unfold swapsWithSole;exact Q0Y q4) (by cases v <;> first | rfl | cases q5)
 ·cases q
theorem swapped3{kt k2}(hk:env.scope.kind=.function)(hx:env.scope.names.lookup x=some .local)(hy:env.scope.names.lookup y=some .local)(hz:env.scope.names.lookup z=some .local)(l1:py.line=px.line)(l2:pz.line=px.line)(n1:x≠y)(n2:x≠z)(n3:y≠z)
  (hf:[a,b,c].all (foldedForSure 8)=false) (hc:[a,b,c].all (constantsAlone 8)=false) (hs:[a,b,c].all zae=true):swappedStores [.Tuple [.Name x px,.Name y py,.Name z pz] kt pt] (.Tuple [a,b,c] k2 pt2) env=pure (some [x,y,z]):=by
 have bk:env.blockKind=.function:=by unfold Env.blockKind;rw[hk];rfl
 have hx':env.kindOf x=some .local:=hx;have hy':env.kindOf y=some .local:=hy;have hz':env.kindOf z=some .local:=hz;have ns:∀ e:Expr,zae e=true->(match e with | .Starred ..=>true | _=>false)=false:=fun e h=>by cases e <;> first | rfl | cases h
 rw[ZW,ZW,ZW,Zc,Zc,Zc]at hs;have st:([a,b,c].any fun x=>match x with | .Starred ..=>true | _=>false)=false:=by
  rw[any_cons,any_cons,any_cons,ns a hs.1,ns b hs.2.1,ns c hs.2.2.1];rfl
 have en:List.filterMap (fun x=>match x with
   | Expr.Name id pos=>if (env.kindOf id==some NameKind.local&&pos.line==px.line)=true then some id else none
   | _=>none) [Expr.Name x px,Expr.Name y py,Expr.Name z pz]=[x,y,z]:=by
  simp[List.filterMap,hx',hy',hz',l1,l2]
 have ed:([x,y,z]:List Str).eraseDups=[x,y,z]:=by
  simp[List.eraseDups_cons,n1,n2,n3,ZV n1,ZV n2,ZV n3]
 unfold swappedStores;refine (Zj (by simp[bk])).trans ((Zj (fun h=>ZA (st.symm.trans h))).trans ?_)
 show (if ((List.filterMap _ _).length != _||(List.filterMap _ _).eraseDups.length != (List.filterMap _ _).length)=true then _ else _)=_
 erw [en]
 rw[ed];refine (Zj (by simp)).trans ((Zj (by rw[hf];decide)).trans ?_)
 exact Zj (by rw[hc];decide)
theorem Q7w:SndS T (.set3 i j k as):=by
 refine SndS.of rfl fun{X g} R {x} q=>?_;split at q
 ·simp only[Zc,Zt,ZG,beq_eq_false_iff_ne,ne_eq]at q;obtain⟨⟨⟨⟨⟨⟨⟨⟨⟨⟨⟨⟨⟨⟨q1,q2⟩,q3⟩,q4⟩,q5⟩,q6⟩,q7⟩,q8⟩,q9⟩,q10⟩,q11⟩,q12⟩,q13⟩,q14⟩,q15⟩:=q;obtain⟨l1,l2,_,_⟩:=R.loc q1;obtain⟨_,m2,_,_⟩:=R.loc q2;obtain⟨_,n2,_,_⟩:=R.loc q3;have dis:∀ {i j:Nat} {x y:Str},X.N[i]? = some x->X.N[j]? = some y->i≠j->x≠y:=fun h1 h2 h3 e=>h3 (Q1W l1 h1 (by rw[e];exact h2))
  exact QaA R.calm l1 l2 m2 n2 q7 q8 q9 (R.lc _ q4) (R.lc _ q5) (R.lc _ q6) ((snd as).a R.toRel q15).1 (swapped3 R.kind (R.lc _ q4) (R.lc _ q5) (R.lc _ q6) q10 q11 (dis l2 m2 q7) (dis l2 n2 q8) (dis m2 n2 q9) q12 q13 q14) (by unfold swapsWithSole;exact Q0Y rfl)
 ·cases q
theorem Q9b:SndS T (.ret e):=by
 refine SndS.of rfl fun{X g} R {x} q=>?_;split at q
 ·exact QbV ((snd e).e R.toRel q)
 ·cases q
theorem Q9c(ha:SndS T a)(hb:SndS T b):SndS T (.ite c a b):=by
 refine SndS.of rfl fun{X g} R {x} q=>?_;split at q
 ·simp only[Zc]at q;exact ds_if ((snd c).t R.toRel q.1.1) (ha.b R q.1.2) (hb.b R q.2)
 ·cases q
theorem Q7x(hb:SndS T b):SndS T (.for1 i it b):=by
 refine SndS.of rfl fun{X g} R {x} q=>?_;split at q
 ·simp only[Zc]at q;obtain⟨⟨⟨q1,q2⟩,q3⟩,q4⟩:=q;exact Q9D R.pass R.calm ((snd it).i R.toRel q3) (R.tg q1) (hb.b R q4) (Q1y q2)
 ·cases q
theorem Q7y(hb:SndS T b):SndS T (.for2 i j it b):=by
 refine SndS.of rfl fun{X g} R {x} q=>?_;split at q
 ·simp only[Zc]at q;obtain⟨⟨⟨⟨q1,q1'⟩,q2⟩,q3⟩,q4⟩:=q;exact Q9D R.pass R.calm ((snd it).i R.toRel q3) (Q9C R.calm (Q1Z (R.tg q1) (Q1Z (R.tg q1') Q6K))) (hb.b R q4) (Q1y q2)
 ·cases q
theorem Qb3:SndS T (.ex e):=by
 refine SndS.of rfl fun{X g} R {x} q=>?_;split at q
 ·simp only[Zc]at q;exact Qaj ((snd e).e R.toRel q.1) (Q0Y q.2)
 ·cases q
theorem Q5X:SndS T (.raisx c as):=by
 refine SndS.of rfl fun{X g} R {x} q=>?_;split at q
 ·simp only[Zc,Zt,Zf,ZG]at q;obtain⟨⟨⟨⟨q0,qw⟩,q1⟩,q2⟩,q3⟩:=q;obtain⟨g1,g2,g3⟩:=R.toRel.glob q1;obtain⟨C,hm,cl⟩:=R.cls c _ q2
  replace cl:=cl.1 qw
  obtain⟨a1,a2,a3⟩:=(snd as).a R.toRel q3;rw[ZW,Zc]at a2;exact Q6Z q0 R.calm g1 q2 hm cl a1 R.tk g2 (Q0c a2.1) (Q0l a2.2)
 ·cases q
theorem Q5Y:SndS T (.raisr c as):=by
 refine SndS.of rfl fun{X g} R {x} q=>?_;split at q
 ·simp only[Zc,Zt,Zf]at q;obtain⟨⟨⟨⟨q0,qw⟩,q1⟩,q2⟩,q3⟩:=q;obtain⟨g1,g2,g3⟩:=R.toRel.glob q1;obtain⟨C,hm,cl⟩:=R.cls c _ q2;obtain⟨k1,_,f,fd,k2,k3⟩:=cl.2 qw;rw[Nat.mod_eq_of_lt q0]at k1;obtain⟨a1,a2,a3⟩:=(snd as).a R.toRel q3;rw[ZW,Zc]at a2;exact Q7f q0 R.calm g1 k1 hm k2 k3 R.dpt a1 R.tk g2 (Q0c a2.1) (Q0l a2.2)
 ·cases q
theorem Rel.holds(R:Rel X T g)(hno:∀ c M,¬ T.xd c M)(pins:List (Addr×Obj))(E:Value->Shared->Prop):Rel (X.holds pins E) T g where
 N:=R.N
 nd:=R.nd
 calm:=R.calm
 gl:=R.gl
 lc:=R.lc
 cf:=R.cf
 fns:=fun f fi e=>⟨(R.fns f fi e).ex⟩
 kfs:=fun f ki e=>⟨(R.kfs f ki e).ex⟩
 fxs:=fun f fi e=>⟨(R.fxs f fi e).ex⟩
 cls:=R.cls
 tk:=fun _ _ _ _ _ _ _ ⟨c,_,M,_,_,_,_,h⟩=>(hno c M h).elim
 tp:=⟨R.tp.ex⟩
 con:=R.con
 nob:=R.nob
 isx:=R.isx
 lks:=R.lks
 mts:=fun f mi e=>⟨(R.mts f mi e).ex⟩
 mks:=fun f mi e=>⟨(R.mks f mi e).ex⟩
 fds:=R.fds
 un:=R.un
 dpt:=R.dpt
theorem Rel.quiet(R:Rel X T g):Rel X { T with xd:=fun _ _=>False } g where
 N:=R.N
 nd:=R.nd
 calm:=R.calm
 gl:=R.gl
 lc:=R.lc
 cf:=R.cf
 fns:=R.fns
 kfs:=R.kfs
 fxs:=R.fxs
 cls:=R.cls
 tk:=fun _ _ _ _ _ _ _ ⟨c,_,M,_,_,_,_,h⟩=>h.elim
 tp:=R.tp
 con:=R.con
 nob:=R.nob
 isx:=R.isx
 lks:=R.lks
 mts:=R.mts
 mks:=R.mks
 fds:=R.fds
 un:=R.un
 dpt:=R.dpt
theorem Qcs{l:Lit}{k:Const}{kd:Nat}{p:Pos}(q:l.ck k=true){X:Cx}:DE X (.Constant k kd p) (dC l.d):=by
 cases l with
 | non=>cases k <;> first | exact Q9z | cases q
 | bl b =>
  cases k <;> first | cases q | skip
  rename_i c';have q':b=c':=by simpa[Lit.ck]using q
  subst q';exact de_bl
 | int b =>
  cases k <;> first | cases q | skip
  rename_i c';have q':b=c':=by simpa[Lit.ck]using q
  subst q';exact Q6F
 | str b =>
  cases k <;> first | cases q | skip
  rename_i y;unfold Lit.ck at q;rw[Zc,Zt]at q;obtain⟨q1,q2⟩:=q;subst q1;exact Q6G q2
theorem Q5i(R:RelS X T g)(q:ckX T.toTabC f as g e=true):∃ (fi:FX) (fy:Str) (fp:Pos) (z:Expr) (zs:List Expr) (cp:Pos),T.fx f=some fi/\e=.Call (.Name fy fp) (z::zs) [] cp /\
  fy=fi.nm/\Gl X fy/\(fy==("__debug__" : Str))=false/\(chk T as).a g (z::zs)=true:=by
 unfold ckX at q;cases e1:T.fx f with
 | none=>rw[e1]at q;cases q
 | some fi =>
  rw[e1]at q;obtain⟨⟨fy,fp,z,zs,cp⟩,he,q⟩:=Q0h q;dsimp only at he q;simp only[Zc,Zt,Zf]at q;obtain⟨⟨⟨⟨q6,q7⟩,_⟩,_⟩,q9⟩:=q;obtain⟨f1,f2,f3⟩:=R.toRel.glob q6;exact⟨fi,fy,fp,z,zs,cp,rfl,he,q7,f1,f2,q9⟩
theorem Q7z:SndS T (.tryx f as cc c j):=by
 refine SndS.of rfl fun{X g} R {x} q=>?_;obtain⟨⟨st,hd,pp⟩,rfl,qn⟩:=Q0h q
 replace q:=qn
 clear qn;dsimp only at q ⊢;rw[Zc]at q;obtain⟨q5,q⟩:=q;obtain⟨⟨cn,cp,nm,b0,suite,hp⟩,rfl,qn⟩:=Q0h q
 replace q:=qn
 clear qn;dsimp only at q ⊢;simp only[Zc,Zt,Zf,ZG]at q;obtain⟨⟨⟨⟨⟨⟨u1,u2⟩,q1⟩,q2⟩,q0⟩,qw⟩,q3⟩:=q;cases Option.isNone_iff_eq_none.mp u1;cases isEmpty_iff.mp u2;obtain⟨⟨y,yp,r,rp,ypos,kd,kp,rpos⟩,rfl,q3n⟩:=Q0h q3
 replace q3:=q3n
 clear q3n;dsimp only at q3;simp only[Zc,Zt,Zf]at q3;obtain⟨⟨⟨⟨⟨w1,w2⟩,w3⟩,w4⟩,w5⟩,w6⟩:=q3;obtain⟨g1,g2,g3⟩:=R.toRel.glob q1;obtain⟨N,hm,cl⟩:=R.cls cc _ q2
 replace cl:=cl.1 qw
 obtain⟨h1,h2,h3⟩:=R.toRel.glob w1;obtain⟨C,hm2,cl2⟩:=R.cls c _ w2;obtain⟨k1,_,fi',fdi,k2,k3⟩:=cl2.2 w4;rw[Nat.mod_eq_of_lt w3]at k1;obtain⟨v1,v2,v3⟩:=R.toRel.vis w6;have hj:X.N[j]? = some r:=by rw[R.N];exact w5
 obtain⟨⟨e,sp⟩,rfl,q5n⟩:=Q0h q5
 replace q5:=q5n
 clear q5n;obtain⟨fi,fy,fp,z,zs,cpp,e1,rfl,rfl,f1,f2,q9⟩:=Q5i R q5;unfold evS;rw[e1];dsimp only;obtain⟨kk,fa,fd,ps,F,hr,hmf,hk,hl,hd⟩:=(R.fxs f fi e1).ex;obtain⟨ds,dvs,b1,b2,b3⟩:=hd (fi.dds.length-(fi.np-as.len)) (sub_le _ _);obtain⟨_,a2,_⟩:=(snd as).a R.toRel q9;rw[ZW,Zc]at a2;exact Q7g q0 w3 R.calm R.tp F hr f1 hmf hk b1 b2 b3 q2 g1 hm cl (fun pins E=>((snd (T:={ T with xd:=fun _ _=>False }) as).a (R.toRel.quiet.holds (fun _ _ z=>z) pins E) q9).1) f2 g2 (Q0c a2.1) (Q0l a2.2) h1 k1 hm2 k2 k3 h2 R.tk hj v1 v2 v3
theorem Qb4(hs:SndS T s):SndS T (.fz i s) :=
 SndS.of rfl fun{X g} R {x} q=>ds_fz i (hs.s R q)
structure HRel(X:Cx)(T:Tab)(g:GI)(Y:Cx)(n:Str)(je c:Nat)(a C:Addr)(oe:Obj)(qs:List (Addr×Obj)):Prop where
 R:RelS X T g
 y:Y=L2.handlingAs X a oe qs
 vis:zbe g n=true
 own:X.N[je]? = some n
 cl:∃ x,T.cl c=some x/\X.mg x=some (.ref C)
 oc:oe.cls=.ref C
 fv:∃ vs,oe.data=.fields vs
 rws:∀ n,zaZ c=some n->∃ d od,oe.dict=some d/\(d,od)∈qs/\Rowd od n
theorem hP_ok(h:HRel X T g Y n je c a C oe qs)(q:ckP T.toTabC g n p e=true):DE Y e (hP T c je a p)/\zae e=true:=by
 obtain⟨R,rfl,h1,h2,⟨x,h4,h5⟩,h6,h7,h8⟩:=h;cases p with
 | isx nm =>
  unfold ckP at q;dsimp only at q;rw[Zc]at q;obtain⟨h3,q⟩:=q;obtain⟨⟨f,fp,z,zs,cp⟩,rfl,qn⟩:=Q0h q
  replace q:=qn
  clear qn;dsimp only at q;simp only[Zc,Zt]at q;obtain⟨⟨rfl,q2⟩,q3⟩:=q;obtain⟨⟨m,mp⟩,rfl,q2n⟩:=Q0h q2
  replace q2:=q2n
  clear q2n;cases Zt.mp q2
  match zs,q3 with
  | [k],q3 =>
   dsimp only at q3;rw[Zc]at q3;obtain⟨q3,q4⟩:=q3;obtain⟨⟨k,kp⟩,rfl,q3n⟩:=Q0h q3
   replace q3:=q3n
   clear q3n;cases Zt.mp q3;refine⟨?_,rfl⟩;show DE _ _ (match T.isx c k with | some b=>dIsE je a b | none=>botE)
   cases e:T.isx c k with
   | none=>exact fun pins s σ H Q I ⟨ρ,M,R',_,_,z,_⟩=>False.elim z
   | some b =>
    obtain⟨x',C',u,v,k1,k2,k3,k4,k5,k6,k7⟩:=R.isx c k b e;rw[h4]at k1;cases k1;rw[h5]at k2;cases k2;obtain⟨v1,v2,v3⟩:=R.toRel.vis h1;obtain⟨b1,b2,b3,b4⟩:=R.toRel.blt h3;obtain⟨g1,g2,g3⟩:=R.toRel.glob q4;have hcl:PE (L2.handlingAs X a oe qs) (.Name k kp) (tC v):=by
     rcases k4 with k4 | ⟨k4,k4'⟩
     ·exact Q6j (X:=L2.handlingAs X a oe qs) g1 k4 k5 g2
     ·exact Q6k (X:=L2.handlingAs X a oe qs) g1 k4 k4' k5 g3 g2
    exact Qci (X:=L2.handlingAs X a oe qs) (oe:=oe) (Zy _ Zl) h6 k3 (dv (X:=L2.handlingAs X a oe qs) je h2 v1 v2 v3) hcl k6 k7 b1 b4
 | lit l =>
  unfold ckP at q;dsimp only at q;obtain⟨⟨k,kd,kp⟩,rfl,qn⟩:=Q0h q
  replace q:=qn
  clear qn;exact⟨Qcs q,rfl⟩
 | row =>
  unfold ckP at q;dsimp only at q;obtain⟨⟨m,mp,f,fp⟩,rfl,qn⟩:=Q0h q
  replace q:=qn
  clear qn;dsimp only at q;simp only[Zc,Zt]at q;obtain⟨rfl,rfl⟩:=q;refine⟨?_,rfl⟩;show DE _ _ (match zaZ c,T.rw c with | some n,true=>dXrow je a n | _,_=>botE)
  cases e1:zaZ c with
  | none=>exact fun pins s σ H Q I ⟨ρ,M,R',_,_,z,_⟩=>False.elim z
  | some n =>
   cases e2:T.rw c with
   | false=>exact fun pins s σ H Q I ⟨ρ,M,R',_,_,z,_⟩=>False.elim z
   | true =>
    obtain⟨d,od,r1,r2,r3⟩:=h8 n e1;obtain⟨C',hm,cl⟩:=R.cls c x h4;rw[h5]at hm;cases hm;obtain⟨v1,v2,v3⟩:=R.toRel.vis h1;exact QaH (cl.2 e2).2.1 h6 h7 r1 r2 r3 h2 v1 v2 v3
theorem hA_ok(h:HRel X T g Y n je c a C oe qs):∀ {ps:List HP} {es:List Expr},ckA T.toTabC g n ps es=true->DA Y es (hA T c je a ps)
 | [],es,q=>by
  cases isEmpty_iff.mp q;exact Q6I
 | p::r,e::es,q=>by
  have q':(ckP T.toTabC g n p e&&ckA T.toTabC g n r es)=true:=q;rw[Zc]at q';obtain⟨h1,h2⟩:=hP_ok h q'.1;exact Q4A h1 (hA_ok h q'.2) (Q0c h2)
theorem hT_ok(h:HRel X T g Y n je c a C oe qs)(q:ckT T.toTabC g n ps e=true):DE Y e (dTup (hA T c je a ps))/\zb1 e=true:=by
 obtain⟨⟨es,k,p⟩,rfl,qn⟩:=Q0h (o:=vTup e) q
 replace q:=qn
 clear qn;exact⟨Q9A (hA_ok h q),rfl⟩
theorem isx_mro{K:Frag}{C W:Addr}(L:XLook K C)(h:kitOne K (.ref C) (.ref W)=some true):PySem.W.mroIn K C (.ref W)=some true:=by
 unfold kitOne at h;split at h
 ·rename_i q;cases Zt.mp q;exact L.self
 ·unfold PySem.W.kitCls at h;dsimp only at h;split at h
  ·exact h
  ·cases h
theorem isx_mro'{K:Frag}{C W:Addr}(h:kitOne K (.ref C) (.ref W)=some false):PySem.W.mroIn K C (.ref W)=some false:=by
 unfold kitOne at h;split at h
 ·cases h
 ·unfold PySem.W.kitCls at h;dsimp only at h;split at h
  ·exact h
  ·cases h
theorem Q4H(R:RelS X T g)(hc:T.cl c=some x)(hC:X.mg x=some (.ref C))(hn:g.N[je]? = some n):∀ {hs:List (Str×List HP)} {es:List ExceptHandler} {p:List HP},ckMs T.toTabC g je y hs es=true->zbb T c hs=some p ->
  ∃ st q,Pick X n C es st q/\∀ st' q',Pick X n C es st' q'->∃ yy yp v ap,st'=[.Assign [.Name yy yp] v ap]/\zaC g y yy=true/\ckT T.toTabC g n p v=true
 | [],_,_,_,h=>nomatch h
 | (w,p0)::r,[],_,q,_=>nomatch q
 | (w,p0)::r,h::es,p,q,e=>by
  have q':(onV (vHan h) (fun h=>zaq g h.1&&h.1==w&&T.lk.contains h.1&&h.2.2.2.2.1.isEmpty&&(match h.2.2.1 with
    | some n=>g.N[je]? == some n&&onV (vSet h.2.2.2.1) (fun a=>zaC g y a.1&&ckT T.toTabC g n p0 a.2.2.1)
    | none=>false))&&ckMs T.toTabC g je y r es)=true:=q
  rw[Zc]at q';obtain⟨q1,q2⟩:=q';obtain⟨⟨cn,cp,nm,b0,sts,hp⟩,rfl,q1n⟩:=Q0h q1
  replace q1:=q1n
  clear q1n;dsimp only at q1;simp only[Zc,Zt,List.contains_eq_mem,Zf,isEmpty_iff]at q1;obtain⟨⟨⟨⟨g1,rfl⟩,g3⟩,rfl⟩,g5⟩:=q1;obtain⟨k1,k2,k3⟩:=R.toRel.glob g1;obtain⟨W,hm,LW⟩:=R.lks _ g3;have e':(match T.isx c cn with | some true=>some p0 | some false=>zbb T c r | none=>none)=some p:=e
  cases ex:T.isx c cn with
  | none=>rw[ex]at e';cases e'
  | some b =>
   obtain⟨x',C',u,v',i1,i2,i3,i4,i5,i6,i7⟩:=R.isx c _ _ ex;rw[hc]at i1;cases i1;rw[hC]at i2;cases i2;obtain rfl:u=.ref W:=by
    rcases i4 with i4 | ⟨i4,_⟩
    ·rw[hm]at i4;cases i4;rfl
    ·rw[hm]at i4;cases i4
   rw[ex]at e';cases b with
   | true =>
    cases e';cases nm with
    | none=>cases g5
    | some n' =>
     dsimp only at g5;rw[Zc,Zt,hn]at g5;obtain⟨g5,g6⟩:=g5;cases g5;obtain⟨⟨yy,yp,v,ap⟩,rfl,g6n⟩:=Q0h g6;dsimp only at g6n;rw[Zc]at g6n;refine⟨_,_,.here k1 k2 hm LW (isx_mro i3 i7),fun st' q' P=>?_⟩;cases P with
     | here _ _ _ _ _=>exact⟨_,_,_,_,rfl,g6n.1,g6n.2⟩
     | skip _ _ hm' _ up _ =>
      rw[hm]at hm';cases hm';rw[isx_mro i3 i7]at up;cases up
   | false =>
    obtain⟨st,q3,P,al⟩:=Q4H R hc hC hn q2 e';refine⟨st,q3,.skip k1 k2 hm LW (isx_mro' i7) P,fun st' q' P'=>?_⟩;cases P' with
    | here _ _ hm' _ up =>
     rw[hm]at hm';cases hm';rw[isx_mro' i7]at up;cases up
    | skip _ _ _ _ _ P'=>exact al st' q' P'
theorem Q7A:SndS T (.trym f as je y hs):=by
 refine SndS.of rfl fun{X g} R {x} q=>?_;have no:∀ {st:Stmt} {t:DTS},((∀ c M,¬ T.xd c M)->DL.DS X st t)->DL.DS X st (fun DD ρ M=>(∀ c M,¬ T.xd c M)/\t DD ρ M):=fun h pins s σ H D I ⟨ρ,M,DD,sm,m,⟨h0,h1⟩,k⟩=>h h0 pins s σ H D I ⟨ρ,M,DD,sm,m,h1,k⟩;obtain⟨⟨st,hd,hds,pp⟩,rfl,qn⟩:=Q0h q
 replace q:=qn
 clear qn;dsimp only at q ⊢;simp only[Zc]at q;obtain⟨⟨q7,q8⟩,q10⟩:=q;cases hn:g.N[je]? with
 | none=>rw[hn]at q7;cases q7
 | some n =>
  rw[hn]at q7;dsimp only at q7;simp only[Zc,Zt]at q7;obtain⟨⟨q3,q4⟩,q5⟩:=q7;obtain⟨⟨e,sp⟩,rfl,q10n⟩:=Q0h q10
  replace q10:=q10n
  clear q10n;obtain⟨fi,fy,fp,z,zs,cpp,e1,rfl,rfl,f1,f2,r4⟩:=Q5i R q10;obtain⟨l1,l2,l3,l4⟩:=R.loc q3;unfold evS;rw[e1];dsimp only;obtain⟨kk,fa,fd,ps',F,hr,hmf,hk,hl,hd⟩:=(R.fxs f fi e1).ex;obtain⟨ds,dvs,b1,b2,b3⟩:=hd (fi.dds.length-(fi.np-as.len)) (sub_le _ _);refine no fun hno=>?_;obtain⟨_,a2,_⟩:=(snd as).a R.toRel r4;rw[ZW,Zc]at a2;refine Qaz R.tp F hr f1 hmf hk b1 b2 b3 (fun pins E=>((snd as).a (R.toRel.holds hno pins E) r4).1) f2 (Q0c a2.1) (Q0l a2.2) l1 l2 (R.lc n q4) (fun c x hc=>?_) (fun c x C hx hc hC=>?_) fun c x C a oe qs st' p' hx hc hC pk ho hfv hrw=>?_
  ·obtain⟨C,hC,_⟩:=R.cls c x hc;exact⟨C,hC⟩
  ·obtain⟨p,hp⟩:=Yk.mp hx;obtain⟨st,q,P,_⟩:=Q4H R hc hC hn q8 hp;exact⟨st,q,P⟩
  ·obtain⟨p,hp⟩:=Yk.mp hx;obtain⟨st,q,P,al⟩:=Q4H R hc hC hn q8 hp;obtain⟨yy,yp,v,ap,rfl,o1,o2⟩:=al _ _ pk;have h:HRel X T g (L2.handlingAs X a oe qs) n je c a C oe qs:=⟨R,rfl,q5,l2,⟨x,hc,hC⟩,ho,hfv,hrw⟩;obtain⟨h1,h2⟩:=hT_ok h o2;obtain⟨m1,m2,m3,m4⟩:=R.loc o1;rw[hp];exact Q4S (Q6M (X:=L2.handlingAs X a oe qs) m1 m2 m3 h1 (Q0Y h2) m4) Q6J
theorem sndS:∀ c:CS,SndS T c
 | .nil=>⟨fun _ _ q=>(nomatch q),fun{X g} R {xs} q=>by
   have:xs=[]:=isEmpty_iff.mp q;subst this;exact Q6J⟩
 | .seq s r=>⟨fun _ _ q=>(nomatch q),fun{X g} R {xs} q=>by
   match xs,q with
   | x::xs,q =>
    have q':((chkS T s).s g x&&(chkS T r).b g xs)=true:=q;rw[Zc]at q';exact Q4S ((sndS s).s R q'.1) ((sndS r).b R q'.2)⟩
 | .set _ _=>Q9a
 | .set2 _ _ _=>Q7v
 | .set3 _ _ _ _=>Q7w
 | .ret _=>Q9b
 | .ite _ a b=>Q9c (sndS a) (sndS b)
 | .for1 _ _ b=>Q7x (sndS b)
 | .for2 _ _ _ b=>Q7y (sndS b)
 | .ex _=>Qb3
 | .raisx _ _=>Q5X
 | .fz i s=>Qb4 (sndS s)
 | .raisr _ _=>Q5Y
 | .tryx _ _ _ _ _=>Q7z
 | .trym _ _ _ _ _=>Q7A
end
structure FunV(K:Frag)(x qual:Str)(st:Stmt)(f:Addr)(fd:FuncData)(dV:Value):Prop where
 ex:∃ (oc:Value) (od:Option Addr) (kV doc pm:Value) (an:Option Addr) (cdv ct:Value) (osl:Array (Option Value)),
  fd=fnOf x qual (zac st) (za8 st) (za2 st) dV kV doc pm an cdv ct/\K.lookup f=some ⟨oc,od,.func fd,osl⟩/\codeIn K cdv qual=true
 kp:keepIn K (.ref f)=true
theorem _root_.L2.Fun.v{K:Frag}{x qual:Str}{st:Stmt}{f:Addr}{fd:FuncData}(F:Fun K x qual st f fd):FunV K x qual st f fd .none:=⟨F.ex,F.kp⟩
theorem FunV.ok{P:Program}{w:World}{K:Frag}{mg:Str->Option Value}{base:Heap}{x qual:Str}{st:Stmt}{f:Addr}{fd:FuncData}{dV:Value}{N ps:List Str}{k:Nat}{sp:DSp}(F:FunV K x qual st f fd dV)(S:zat N ps (za2 st))(len:∀ ds M R,sp ds M R->ds.length=ps.length)
  (hb:∀ (cdv:Value) (A:Around) (outer:List Env) (s:Shared) (H:Hp) (E:XK),Room k (A.deeper (envOfC qual (za2 st) s.heap.objs.size f cdv)) ->
   ∃ td:DTS,DSs (cxOf CX0 P w K mg base N qual (za2 st) f cdv A outer s H E).nox (za8 st) td/\∀ ds M R,sp ds M R->td (za6 R) (za5 N ds) M):FnOk P w K mg base CX0 (k+1) f fd ps (lSp K sp):=by
 obtain⟨oc,od,kV,doc,pm,an,cdv,ct,osl,rfl,lk,hcd⟩:=F.ex;refine fn_of lk hcd S (fun vs H Q E ⟨ds,M,R,e,m,h,k⟩=>by rw[<- e.length];exact len ds M R h) fun A outer s H vs Q E hr ⟨ds,M,R,e,m,h,k⟩=>?_
 obtain⟨td,ht,hq⟩:=hb cdv A outer s H E hr;refine⟨_,ht.nox,za5 N ds,M,za6 R,?_,m,hq ds M R h,⟨fun ρ' M' σ' H' ⟨M0,q0,q⟩ x' s' m'=>k .non M0 .non H' q x' (m'.sub q0) .non,fun d M' v H' ⟨M0,q0,q⟩ x' m' e'=>k d M0 v H' q x' (m'.sub q0) e',fun _ _ _ _ q=>q.elim,fun _ _ _ _ q=>q.elim⟩⟩;unfold za5 L2.start;rw[<- e.length];exact (SimS.ofDens e).append (SimS.nones _)
structure TabOk(P:Program)(w:World)(K:Frag)(mg:Str->Option Value)(base:Heap)(T:Tab)(k:Nat):Prop where
 fns:∀ f fi,T.fn f=some fi->∃ (j:Nat) (fa:Addr) (fd:FuncData) (ps:List Str),j<=k/\FnOk P w K mg base CX0 j fa fd ps (lSp K fi.sp)/\mg fi.nm=some (.ref fa)/\keepIn K (.ref fa)=true/\ps.length=fi.np /\
  ∀ j,j<=fi.dds.length->∃ (ds:List Value) (dvs:List V),Binds K fd ps ds/\Vals dvs ds/\∀ H,Dens K H (fi.dds.drop j) dvs
 fxs:∀ f fi,T.fx f=some fi->∃ (j:Nat) (fa:Addr) (fd:FuncData) (ps:List Str),j<=k/\FnOk P w K mg base (CX1 P w) j fa fd ps (lSpX K mg T.cl fi.sp)/\mg fi.nm=some (.ref fa)/\keepIn K (.ref fa)=true/\ps.length=fi.np /\
  ∀ j,j<=fi.dds.length->∃ (ds:List Value) (dvs:List V),Binds K fd ps ds/\Vals dvs ds/\∀ H,Dens K H (fi.dds.drop j) dvs
 cls:∀ c x,T.cl c=some x->∃ C,mg x=some (.ref C)/\zcb K mg T.toTabC c x C
 kfs:∀ f ki,T.kfn f=some ki->∃ (j:Nat) (fa:Addr) (fd:FuncData) (ps:List Str) (gv:List Value->List Value->List Value) (gV:List V->List V->List V),j<=k/\FnOk P w K mg base CX0 j fa fd ps (lSp K ki.sp)/\mg ki.nm=some (.ref fa)/\keepIn K (.ref fa)=true /\
  zc9 K fd ps ki.ks gv gV/\∀ H ds vs zs ws,Dens K H ds vs->Dens K H zs ws->Dens K H (ki.g ds zs) (gV vs ws)
 con:∀ i p,T.con i=some p->∃ u v,mg p.1=some u/\L2.RelV v u/\∀ H,Den K H p.2 v
 nob:∀ x∈T.bl,mg x=none
 isx:∀ c nm b,T.isx c nm=some b->zbC K mg T.cl c nm b
 lks:∀ x∈T.lk,∃ C,mg x=some (.ref C)/\XLook K C
 mts:∀ f mi,T.mt f=some mi->∃ (j:Nat) (C fa:Addr) (fd:FuncData) (ps:List Str),j+1<=k/\nsIn K mainGlobals mi.cl=some (some (.ref C))/\Cls K C/\Meth K C mi.nm fa/\FnOk P w K mg base CX0 j fa fd ps (lSp K mi.sp)/\Binds K fd ps []
 mks:∀ f mi,T.ini f=some mi->∃ (j:Nat) (C fa:Addr) (fd:FuncData) (ps:List Str),j+1<=k/\nsIn K mainGlobals mi.cl=some (some (.ref C))/\mg mi.cl=some (.ref C)/\Mk K C fa/\FnOk P w K mg base CX0 j fa fd ps (lSp K mi.sp)/\Binds K fd ps []
 fds:∀ p∈T.fd,FdOk K p.1 p.2
theorem room100(r:Room k A):A.units+100<cLine:=by have:=r.un;omega
theorem Q5j{P:Program}{w:World}{K:Frag}{mg:Str->Option Value}{base:Heap}{T:Tab}{k:Nat}{x qual:Str}{st:Stmt}{f:Addr}{fd:FuncData}{N ps:List Str}{sp:DSp}(body:CS)
  (O:TabOk P w K mg base T k) {dV:Value} (F:FunV K x qual st f fd dV) (S:zat N ps (za2 st)) (hc:(chkS T body).b ⟨N,(za2 st).names⟩ (za8 st)=true)
  (len:∀ ds M R,sp ds M R->ds.length=ps.length) (hb:∀ ds M R,sp ds M R->evS T body (za6 R) (za5 N ds) M) (hno:∀ c M,¬ T.xd c M:=by intro _ _ h;exact h):FnOk P w K mg base CX0 (k+1) f fd ps (lSp K sp):=by
 refine F.ok S len fun cdv A outer s H E hr=>⟨evS T body,(sndS body).b (g:=⟨N,(za2 st).names⟩) ?_ hc,hb⟩;refine { N:=rfl,nd:=S.nd,calm:=rfl,gl:=fun x e=>e,lc:=fun x e=>e,cf:=fun x e=>e,fns:=fun f fi e=>?_,kfs:=fun f ki e=>?_,fxs:=fun f fi e=>?_,cls:=O.cls,tk:=fun _ _ _ _ _ _ _ ⟨c,_,M,_,_,_,_,h⟩=>(hno c M h).elim,tp:=⟨_,_,_,rfl,rfl,rfl⟩,con:=O.con,nob:=O.nob,isx:=O.isx,lks:=O.lks,mts:=fun f mi e=>?_,mks:=fun f mi e=>?_,fds:=O.fds,un:=room100 hr,kind:=S.kind,pass:=PassesOwn.never,own:=fun x e=>e,fn:=fun _=>rfl,dpt:=lt_of_le_of_lt (Nat.add_le_add_right (Nat.le_add_right _ _) 5) hr.dp }
 ·obtain⟨j,fa,fd,ps,hj,F,h1,h2,h3,h4⟩:=O.fns f fi e;exact⟨⟨j,fa,fd,ps,F,hr.mono hj,h1,h2,h3,h4⟩⟩
 ·obtain⟨j,fa,fd,ps,gv,gV,hj,F,h1,h2,h3,h4⟩:=O.kfs f ki e;exact⟨⟨j,fa,fd,ps,gv,gV,F,hr.mono hj,h1,h2,h3,h4⟩⟩
 ·obtain⟨j,fa,fd,ps,hj,F,h1,h2,h3,h4⟩:=O.fxs f fi e;exact⟨⟨j,fa,fd,ps,F,hr.mono hj,h1,h2,h3,h4⟩⟩
 ·obtain⟨j,C,fa,fd,ps,hj,h1,h2,h3,F,h4⟩:=O.mts f mi e;exact⟨⟨j,C,fa,fd,ps,h1,h2,h3,F,hr.mono hj,h4⟩⟩
 ·obtain⟨j,C,fa,fd,ps,hj,h1,h2,h3,F,h4⟩:=O.mks f mi e;exact⟨⟨j,C,fa,fd,ps,h1,h2,h3,F,hr.mono hj,h4⟩⟩
theorem Qb5(T:Tab)(xd:DX)(c:CS):chkS { T with xd:=xd } c=chkS T c:=rfl
noncomputable def endX(RX:DX):DX:=fun c M'=>∃ M0,Sub M0 M'/\RX c M0
theorem Q7B{P:Program}{w:World}{K:Frag}{mg:Str->Option Value}{base:Heap}{T:Tab}{k:Nat}{x qual:Str}{st:Stmt}{f:Addr}{fd:FuncData}{N ps:List Str}{sp:DSpX}(body:CS)
  (O:TabOk P w K mg base T k) {dV:Value} (F:FunV K x qual st f fd dV) (S:zat N ps (za2 st)) (hc:(chkS T body).b ⟨N,(za2 st).names⟩ (za8 st)=true)
  (len:∀ ds M R RX,sp ds M R RX->ds.length=ps.length) (hb:∀ ds M R RX,sp ds M R RX->evS { T with xd:=endX RX } body (za6 R) (za5 N ds) M):FnOk P w K mg base (CX1 P w) (k+1) f fd ps (lSpX K mg T.cl sp):=by
 obtain⟨oc,od,kV,doc,pm,an,cdv,ct,osl,rfl,lk,hcd⟩:=F.ex;refine QbI lk hcd S (fun vs H Q E ⟨ds,M,R,RX,e,m,h,_⟩=>by rw[<- e.length];exact len ds M R RX h) fun A outer s H vs Q E hr zz=>?_
 obtain⟨ds,M,R,RX,e,m,h,kq,kx⟩:=zz;have tp:Top (cxOf (CX1 P w) P w K mg base N qual (za2 st) f cdv A outer s H E):=⟨_,_,_,rfl,rfl,rfl⟩;have R':RelS ((cxOf (CX1 P w) P w K mg base N qual (za2 st) f cdv A outer s H E).wish (xeOf (cxOf (CX1 P w) P w K mg base N qual (za2 st) f cdv A outer s H E) fun cls _ H'=>E cls.1 cls.2 H')) { T with xd:=endX RX } ⟨N,(za2 st).names⟩:=by
  refine { N:=rfl,nd:=S.nd,calm:=rfl,gl:=fun x e=>e,lc:=fun x e=>e,cf:=fun x e=>e,fns:=fun f fi e=>?_,kfs:=fun f ki e=>?_,fxs:=fun f fi e=>?_,cls:=O.cls,tk:=fun pins σ H1 s1 a cls xs r=>?_,tp:=⟨tp.ex⟩,con:=O.con,nob:=O.nob,isx:=O.isx,lks:=O.lks,mts:=fun f mi e=>?_,mks:=fun f mi e=>?_,fds:=O.fds,un:=room100 hr,kind:=S.kind,pass:=QbH tp _,own:=fun x e=>e,fn:=fun _=>rfl,dpt:=lt_of_le_of_lt (Nat.add_le_add_right (Nat.le_add_right _ _) 5) hr.dp }
  ·obtain⟨j,fa,fd,ps,hj,F,h1,h2,h3,h4⟩:=O.fns f fi e;exact⟨⟨j,fa,fd,ps,F,hr.mono hj,h1,h2,h3,h4⟩⟩
  ·obtain⟨j,fa,fd,ps,gv,gV,hj,F,h1,h2,h3,h4⟩:=O.kfs f ki e;exact⟨⟨j,fa,fd,ps,gv,gV,F,hr.mono hj,h1,h2,h3,h4⟩⟩
  ·obtain⟨j,fa,fd,ps,hj,F,h1,h2,h3,h4⟩:=O.fxs f fi e;exact⟨⟨j,fa,fd,ps,F,hr.mono hj,h1,h2,h3,h4⟩⟩
  ·obtain⟨c,x,M1,q1,q2,qr,q3,M0,q4,q5⟩:=r;exact⟨pins,σ,H1,a,cls,rfl,xs.unwish,kx c x cls.1 cls.2 M0 H1 q5 q1 q2 qr ⟨fun b ys e=>xs.inv.base.tups b ys e,fun b o u e=>xs.inv.base.frzs b o u e⟩ (q3.sub q4)⟩
  ·obtain⟨j,C,fa,fd,ps,hj,h1,h2,h3,F,h4⟩:=O.mts f mi e;exact⟨⟨j,C,fa,fd,ps,h1,h2,h3,F,hr.mono hj,h4⟩⟩
  ·obtain⟨j,C,fa,fd,ps,hj,h1,h2,h3,F,h4⟩:=O.mks f mi e;exact⟨⟨j,C,fa,fd,ps,h1,h2,h3,F,hr.mono hj,h4⟩⟩
 refine⟨_,(sndS body).b (g:=⟨N,(za2 st).names⟩) R' (by rw[Qb5];exact hc),za5 N ds,M,za6 R,?_,m,hb ds M R RX h,⟨fun ρ' M' σ' H' ⟨M0,q0,q⟩ x' s' m'=>kq .non M0 .non H' q x' (m'.sub q0) .non,fun d M' v H' ⟨M0,q0,q⟩ x' m' e'=>kq d M0 v H' q x' (m'.sub q0) e',fun _ _ _ _ q=>q.elim,fun _ _ _ _ q=>q.elim⟩⟩
 unfold za5 L2.start;rw[<- e.length];exact (SimS.ofDens e).append (SimS.nones _)
theorem Q1J{K:Frag}{mg:Str->Option Value}{nm x:Str}{t:Tok}{codes:List Nat}(hm:mg nm=some (.str x t))(h:S codes=x)(hc:cpOk codes):∃ u v,mg nm=some u/\L2.RelV v u/\∀ H,Den K H (.str codes) v :=
 ⟨_,.str (S codes),hm,⟨t,by rw[h]⟩,fun H=>.str _ hc⟩
theorem Q0Z{K:Frag}{mg:Str->Option Value}{nm:Str}{i:Int}{t:Tok}(hm:mg nm=some (.int i t)):∃ u v,mg nm=some u/\L2.RelV v u/\∀ H,Den K H (.int i) v :=
 ⟨_,.int i,hm,⟨t,rfl⟩,fun H=>.int i⟩
noncomputable def Tab.only(T:Tab)(l:List Nat):Tab:={ T with fn:=fun i=>if i∈l then T.fn i else none,kfn:=fun i=>if i∈l then T.kfn i else none,fx:=fun i=>if i∈l then T.fx i else none,mt:=fun i=>if i∈l then T.mt i else none,ini:=fun i=>if i∈l then T.ini i else none }
noncomputable def KOk(P:Program)(w:World)(K:Frag)(mg:Str->Option Value)(base:Heap)(ki:KI)(k:Nat):Prop :=
 ∃ (j:Nat) (fa:Addr) (fd:FuncData) (ps:List Str) (gv:List Value->List Value->List Value) (gV:List V->List V->List V),j<=k/\FnOk P w K mg base CX0 j fa fd ps (lSp K ki.sp)/\mg ki.nm=some (.ref fa)/\keepIn K (.ref fa)=true /\
  zc9 K fd ps ki.ks gv gV/\∀ H ds vs zs ws,Dens K H ds vs->Dens K H zs ws->Dens K H (ki.g ds zs) (gV vs ws)
noncomputable def FOk(P:Program)(w:World)(K:Frag)(mg:Str->Option Value)(base:Heap)(fi:FI)(k:Nat):Prop :=
 ∃ (j:Nat) (fa:Addr) (fd:FuncData) (ps:List Str),j<=k/\FnOk P w K mg base CX0 j fa fd ps (lSp K fi.sp)/\mg fi.nm=some (.ref fa)/\keepIn K (.ref fa)=true/\ps.length=fi.np /\
  ∀ j,j<=fi.dds.length->∃ (ds:List Value) (dvs:List V),Binds K fd ps ds/\Vals dvs ds/\∀ H,Dens K H (fi.dds.drop j) dvs
section
variable{P:Program}{w:World}{K:Frag}{mg:Str->Option Value}{base:Heap}{T:Tab}{k:Nat}{fi:FI}
theorem FOk.mono(h:FOk P w K mg base fi j)(hk:j<=k):FOk P w K mg base fi k:=by
 obtain⟨i,fa,fd,ps,h1,h2⟩:=h;exact⟨i,fa,fd,ps,Z7 h1 hk,h2⟩
theorem TabOk.nil(hc:∀ i p,T.con i=some p->∃ u v,mg p.1=some u/\L2.RelV v u/\∀ H,Den K H p.2 v)(hb:∀ x∈T.bl,mg x=none)(hcl:∀ c x,T.cl c=some x->∃ C,mg x=some (.ref C)/\zcb K mg T.toTabC c x C)
  (hix:∀ c nm b,T.isx c nm=some b->zbC K mg T.cl c nm b:=by intro _ _ _ h;cases h) (hlk:∀ x∈T.lk,∃ C,mg x=some (.ref C)/\XLook K C:=by intro _ h;cases h) (hfd:∀ p∈T.fd,FdOk K p.1 p.2:=by intro _ h;cases h):TabOk P w K mg base (T.only []) k :=
 ⟨fun f fi e=>by simp[Tab.only]at e,fun f fi e=>by simp[Tab.only]at e,hcl,fun f fi e=>by simp[Tab.only]at e,hc,hb,hix,hlk,fun f fi e=>by simp[Tab.only]at e,fun f fi e=>by simp[Tab.only]at e,hfd⟩
theorem Q2B{α:Type}{F:Nat->Option α}{f f':Nat}{l:List Nat}{y:α}(h:(if f'∈f::l then F f' else none)=some y):(f'=f/\F f=some y)\/(if f'∈l then F f' else none)=some y:=by
 by_cases hf:f'=f
 ·subst hf;rw[Zm Zl]at h;exact .inl ⟨rfl,h⟩
 ·right;by_cases hm:f'∈l
  ·rw[Zm (Zo _ hm)]at h;rw[Zm hm];exact h
  ·rw[Zj (by simp[hf,hm])]at h
   cases h
noncomputable def XOk(P:Program)(w:World)(K:Frag)(mg:Str->Option Value)(base:Heap)(cn:CN)(fi:FX)(k:Nat):Prop :=
 ∃ (j:Nat) (fa:Addr) (fd:FuncData) (ps:List Str),j<=k/\FnOk P w K mg base (CX1 P w) j fa fd ps (lSpX K mg cn fi.sp)/\mg fi.nm=some (.ref fa)/\keepIn K (.ref fa)=true/\ps.length=fi.np /\
  ∀ j,j<=fi.dds.length->∃ (ds:List Value) (dvs:List V),Binds K fd ps ds/\Vals dvs ds/\∀ H,Dens K H (fi.dds.drop j) dvs
theorem XOk.mono{cn:CN}{fi:FX}{j:Nat}(h:XOk P w K mg base cn fi j)(hk:j<=k):XOk P w K mg base cn fi k:=by
 obtain⟨i,fa,fd,ps,h1,h2⟩:=h;exact⟨i,fa,fd,ps,Z7 h1 hk,h2⟩
noncomputable def MtOk(P:Program)(w:World)(K:Frag)(mg:Str->Option Value)(base:Heap)(mi:MI)(k:Nat):Prop :=
 ∃ (j:Nat) (C fa:Addr) (fd:FuncData) (ps:List Str),j+1<=k/\nsIn K mainGlobals mi.cl=some (some (.ref C))/\Cls K C/\Meth K C mi.nm fa/\FnOk P w K mg base CX0 j fa fd ps (lSp K mi.sp)/\Binds K fd ps []
noncomputable def MkOk(P:Program)(w:World)(K:Frag)(mg:Str->Option Value)(base:Heap)(mi:MI)(k:Nat):Prop :=
 ∃ (j:Nat) (C fa:Addr) (fd:FuncData) (ps:List Str),j+1<=k/\nsIn K mainGlobals mi.cl=some (some (.ref C))/\mg mi.cl=some (.ref C)/\Mk K C fa/\FnOk P w K mg base CX0 j fa fd ps (lSp K mi.sp)/\Binds K fd ps []
theorem MtOk.mono(h:MtOk P w K mg base mi j)(hk:j<=k):MtOk P w K mg base mi k:=by
 obtain⟨i,C,fa,fd,ps,h1,h2⟩:=h;exact⟨i,C,fa,fd,ps,Z7 h1 hk,h2⟩
theorem MkOk.mono(h:MkOk P w K mg base mi j)(hk:j<=k):MkOk P w K mg base mi k:=by
 obtain⟨i,C,fa,fd,ps,h1,h2⟩:=h;exact⟨i,C,fa,fd,ps,Z7 h1 hk,h2⟩
theorem TabOk.add{f:Nat}{l:List Nat}(r:TabOk P w K mg base (T.only l) k)(h1:∀ fi,T.fn f=some fi->FOk P w K mg base fi k)(h2:∀ ki,T.kfn f=some ki->KOk P w K mg base ki k)(h3:∀ fi,T.fx f=some fi->XOk P w K mg base T.cl fi k)
  (h4:∀ mi,T.mt f=some mi->MtOk P w K mg base mi k) (h5:∀ mi,T.ini f=some mi->MkOk P w K mg base mi k):TabOk P w K mg base (T.only (f::l)) k :=
 {cls:=r.cls
  fxs:=fun f' fi' e'=>by
   rcases Q2B e' with ⟨rfl,e'⟩ | e'
   ·exact h3 _ e'
   ·exact r.fxs f' fi' e'
  fns:=fun f' fi' e'=>by
   rcases Q2B e' with ⟨rfl,e'⟩ | e'
   ·exact h1 _ e'
   ·exact r.fns f' fi' e'
  kfs:=fun f' ki e'=>by
   rcases Q2B e' with ⟨rfl,e'⟩ | e'
   ·exact h2 _ e'
   ·exact r.kfs f' ki e'
  mts:=fun f' mi e'=>by
   rcases Q2B e' with ⟨rfl,e'⟩ | e'
   ·exact h4 _ e'
   ·exact r.mts f' mi e'
  mks:=fun f' mi e'=>by
   rcases Q2B e' with ⟨rfl,e'⟩ | e'
   ·exact h5 _ e'
   ·exact r.mks f' mi e'
  con:=r.con
  nob:=r.nob
  isx:=r.isx
  lks:=r.lks
  fds:=r.fds }
theorem no_of{α:Type}{o:Option α}{p:α->Prop}(h:o=none):∀ x,o=some x->p x:=fun x e=>by rw[h]at e;cases e
theorem Q5k{α:Type}{o:Option α}{p:α->Prop}{y:α}(h:o=some y)(hp:p y):∀ x,o=some x->p x:=fun x e=>by rw[h]at e;cases e;exact hp
theorem TabOk.cons{f:Nat}{l:List Nat}(e:T.fn f=some fi)(h:FOk P w K mg base fi k)(r:TabOk P w K mg base (T.only l) k)(en:T.kfn f=none)(ex:T.fx f=none)(em:T.mt f=none:=by rfl)(ei:T.ini f=none:=by rfl):TabOk P w K mg base (T.only (f::l)) k :=
 r.add (Q5k e h) (no_of en) (no_of ex) (no_of em) (no_of ei)
theorem TabOk.consX{f:Nat}{l:List Nat}{fi:FX}(e:T.fx f=some fi)(h:XOk P w K mg base T.cl fi k)(r:TabOk P w K mg base (T.only l) k)(en:T.fn f=none)(ek:T.kfn f=none)(em:T.mt f=none:=by rfl)(ei:T.ini f=none:=by rfl):TabOk P w K mg base (T.only (f::l)) k :=
 r.add (no_of en) (no_of ek) (Q5k e h) (no_of em) (no_of ei)
theorem TabOk.consM{f:Nat}{l:List Nat}{mi:MI}(e:T.mt f=some mi)(h:MtOk P w K mg base mi k)(r:TabOk P w K mg base (T.only l) k)(en:T.fn f=none)(ek:T.kfn f=none)(ex:T.fx f=none:=by rfl)(ei:T.ini f=none:=by rfl):TabOk P w K mg base (T.only (f::l)) k :=
 r.add (no_of en) (no_of ek) (no_of ex) (Q5k e h) (no_of ei)
theorem TabOk.consI{f:Nat}{l:List Nat}{mi:MI}(e:T.ini f=some mi)(h:MkOk P w K mg base mi k)(r:TabOk P w K mg base (T.only l) k)(en:T.fn f=none)(ek:T.kfn f=none)(ex:T.fx f=none:=by rfl)(em:T.mt f=none:=by rfl):TabOk P w K mg base (T.only (f::l)) k :=
 r.add (no_of en) (no_of ek) (no_of ex) (no_of em) (Q5k e h)
theorem xok(F:FnOk P w K mg base (CX1 P w) k fa fd ps (lSpX K mg cn sp))(hm:mg nm=some (.ref fa))(hk:keepIn K (.ref fa)=true)(hl:ps.length=np)(hb:Binds K fd ps []) :
  XOk P w K mg base cn ⟨nm,np,[],sp⟩ k :=
 ⟨k,fa,fd,ps,Zz _,F,hm,hk,hl,fun j _=>⟨[],[],hb,.nil,fun H=>by simp;exact .nil⟩⟩
theorem KOk.mono(h:KOk P w K mg base ki j)(hk:j<=k):KOk P w K mg base ki k:=by
 obtain⟨i,fa,fd,ps,gv,gV,h1,h2⟩:=h;exact⟨i,fa,fd,ps,gv,gV,Z7 h1 hk,h2⟩
theorem Q1K{x qual:Str}{st:Stmt}{f:Addr}{oc:Value}{od an:Option Addr}{osl:Array (Option Value)}{dV kV doc pm cdv ct:Value}(l:K.lookup f=some ⟨oc,od,.func (fnOf x qual (zac st) (za8 st) (za2 st) dV kV doc pm an cdv ct),osl⟩)
  (c:codeIn K cdv qual=true) (kp:keepIn K (.ref f)=true):FunV K x qual st f (fnOf x qual (zac st) (za8 st) (za2 st) dV kV doc pm an cdv ct) dV:=⟨⟨oc,od,kV,doc,pm,an,cdv,ct,osl,rfl,l,c⟩,kp⟩
theorem fok(F:FnOk P w K mg base CX0 k fa fd ps (lSp K sp))(hm:mg nm=some (.ref fa))(hk:keepIn K (.ref fa)=true)(hl:ps.length=np)(hb:Binds K fd ps []) :
  FOk P w K mg base ⟨nm,np,[],sp⟩ k :=
 ⟨k,fa,fd,ps,Zz _,F,hm,hk,hl,fun j _=>⟨[],[],hb,.nil,fun H=>by simp;exact .nil⟩⟩
end
end IR
namespace My
open PySem PySem.Spec L2 DL IR
open PyProof.Rows hiding St
noncomputable abbrev W:=List Nat
noncomputable def dn(ws:List W):D:=.tup (ws.map D.str)
theorem sIx_none(n d:Nat):HT.sIx n d none=d:=rfl
theorem sIx_nat(n d k:Nat):HT.sIx n d (some (k:Int))=min k n:=by
 show (if ((k:Int)<0) then ((k:Int)+(n:Int)).toNat else min (k:Int).toNat n)=min k n
 rw[Zj (by omega)]
 simp
theorem Q2C{α:Type}(xs:List α)(k:Nat):cut xs none (some (k:Int))=xs.take k:=by
 unfold cut;rw[sIx_none,sIx_nat,drop_zero,Nat.sub_zero];rcases le_total k xs.length with h | h
 ·rw[min_eq_left h]
 ·rw[min_eq_right h,ZS (Zz _),ZS h]
theorem Q2b{α:Type}(xs:List α)(k:Nat):cut xs (some (k:Int)) none=xs.drop k:=by
 unfold cut;rw[sIx_none,sIx_nat];rcases le_total k xs.length with h | h
 ·rw[min_eq_left h,ZS (by rw[length_drop];exact Zz _)]
 ·rw[min_eq_right h,Yc (Zz _),Yc h];simp
theorem Qb6{α:Type}(xs:List α)(i j:Nat):cut xs (some (i:Int)) (some (j:Int))=(xs.drop i).take (j-i):=by
 unfold cut;rw[sIx_nat,sIx_nat];rcases le_total i xs.length with h | h
 ·rw[min_eq_left h];rcases le_total j xs.length with h' | h'
  ·rw[min_eq_left h']
  ·rw[min_eq_right h',ZS (by rw[length_drop];exact Zz _),ZS (by rw[length_drop];omega)]
 ·rw[min_eq_right h,Yc (Zz _),Yc h];simp
theorem atI_nat'{α:Type}(xs:List α)(k:Nat):atI xs (k:Int)=xs[k]?:=by
 unfold atI ixN;by_cases h:k<xs.length
 ·simp[h]
 ·simp[h]
theorem Q0a(h:∀ k:DSt->DH->Prop,k=evS T r DD->evS T s { DD with nx:=k } ρ M):evS T (.seq s r) DD ρ M:=h _ rfl
theorem Q0v(h:∀ k:DSt->DH->Prop,k=u DD->t { DD with nx:=k } ρ M):dSeq t u DD ρ M:=h _ rfl
theorem Q1h{Cd:DH->Prop}(I:Nat->DSt->DH->Prop)(h0:I 0 ρ M)(hC:∀ i ρ M,I i ρ M->Cd M)
  (hs:∀ (i:Nat) (d:D) (ρ:DSt) (M:DH) (k:DSt->DH->Prop),items[i]? = some d->I i ρ M->(∀ ρ' M',I (i+1) ρ' M'->k ρ' M')->g d ρ M fun ρ' M'=>tb { DD with nx:=k,ct:=k,bk:=DD.nx } ρ' M')
  (hd:∀ ρ M,I items.length ρ M->DD.nx ρ M):zbn g tb DD Cd items ρ M:=by
 have go:∀ (n i:Nat) (ρ:DSt) (M:DH),i+n=items.length->I i ρ M->zbn g tb DD Cd (items.drop i) ρ M:=by
  intro n
  induction n with
  | zero =>
   intro i ρ M e h;have e':i=items.length:=by omega
   subst e';rw[Yc (Zz _)];exact⟨hC _ _ _ h,hd ρ M h⟩
  | succ n ih =>
   intro i ρ M e h;have hlt:i<items.length:=by omega
   rw[ZZ hlt];exact⟨hC _ _ _ h,hs i items[i] ρ M _ (Zq hlt) h fun ρ' M' h'=>ih (i+1) ρ' M' (by omega) h'⟩
 have:=go items.length 0 ρ M (by omega) h0
 simpa using this
theorem Q3r(lo:Int)(n:Nat):(rngD lo n).length=n:=by simp[rngD]
theorem Q5l{lo:Int}{n i:Nat}{d:D}(h:(rngD lo n)[i]? = some d):i<n/\d=.int (lo+(i:Int)):=by
 unfold rngD at h;rw[ZC]at h;cases e:(List.range n)[i]? with
 | none=>rw[e]at h;cases h
 | some j =>
  rw[e]at h;obtain⟨h1,h2⟩:=Zv.mp e;rw[List.length_range]at h1;rw[List.getElem_range]at h2;subst h2;cases h;exact⟨h1,rfl⟩
theorem Q2c{g:DTG}{tb:DTS}{DD:zbj}{Cd:DH->Prop}{lo:Int}{n:Nat}{ρ:DSt}{M:DH}(I:Nat->DSt->DH->Prop)(h0:I 0 ρ M)(hC:∀ i ρ M,I i ρ M->Cd M)
  (hs:∀ (i:Nat) (ρ:DSt) (M:DH) (k:DSt->DH->Prop),i<n->I i ρ M->(∀ ρ' M',I (i+1) ρ' M'->k ρ' M')->g (.int (lo+(i:Int))) ρ M fun ρ' M'=>tb { DD with nx:=k,ct:=k,bk:=DD.nx } ρ' M')
  (hd:∀ ρ M,I n ρ M->DD.nx ρ M):zbn g tb DD Cd (rngD lo n) ρ M :=
 Q1h I h0 hC (fun i d ρ M k e h hk=>by obtain⟨h1,rfl⟩:=Q5l e;exact hs i ρ M k h1 h hk) (by rw[Q3r];exact hd)
theorem Q1a{unp:D->Option (List D)}{Cd:DH->Prop}{Q:List D->DH->Prop}(I:Nat->List D->DH->Prop)(h0:I 0 ys M)(hC:∀ i ys M,I i ys M->Cd M)
  (hs:∀ (i:Nat) (d:D) (ys:List D) (M:DH) (k:List D->DH->Prop),items[i]? = some d->I i ys M->(∀ ys' M',I (i+1) ys' M'->k ys' M')->match unp d with
   | some us=>tc (us.map some++fr) M fun b M3=>if b=true then te (us.map some++fr) M3 fun z M4=>ys.length<sizeLine/\k (ys++[z]) M4 else k ys M3
   | none=>False)
  (hd:∀ ys M,I items.length ys M->Q ys M):zaw fr unp tc te Cd Q items ys M:=by
 have go:∀ (n i:Nat) (ys:List D) (M:DH),i+n=items.length->I i ys M->zaw fr unp tc te Cd Q (items.drop i) ys M:=by
  intro n
  induction n with
  | zero =>
   intro i ys M e h;have e':i=items.length:=by omega
   subst e';rw[Yc (Zz _)];exact⟨hC _ _ _ h,hd ys M h⟩
  | succ n ih =>
   intro i ys M e h;have hlt:i<items.length:=by omega
   rw[ZZ hlt];exact⟨hC _ _ _ h,hs i items[i] ys M _ (Zq hlt) h fun ys' M' h'=>ih (i+1) ys' M' (by omega) h'⟩
 have:=go items.length 0 ys M (by omega) h0
 simpa using this
theorem Q4c{Cd:DH->Prop}{Q:List D->DH->Prop}(f:D->D)(hC:Cd M)(hl:items.length<=1000)
  (hs:∀ (d:D) (k:D->DH->Prop),d∈items->k (f d) M->te (some d::fr) M k) (hd:Q (items.map f) M):zaw fr (fun d=>some [d]) zbh te Cd Q items [] M:=by
 refine Q1a (fun i ys M'=>M'=M/\ys=(items.take i).map f) ⟨rfl,by simp⟩ (fun i ys M' h=>by rw[h.1];exact hC) ?_ ?_
 ·rintro i d ys M' k e ⟨rfl,rfl⟩ hk;have hi:=(Zv.mp e).1;simp only[zbh,if_true,Z8,map_nil,cons_append,nil_append];refine hs d _ (Z0 e) ⟨small1000 (by rw[Zi,ZU];omega),hk _ _ ⟨rfl,?_⟩⟩
  rw[take_add_one,e,ZY];rfl
 ·rintro ys M' ⟨rfl,rfl⟩;rw[take_length];exact hd
theorem Q5Z{Cd:DH->Prop}{Q:List D->DH->Prop}(P:D->D->Prop)(hC:Cd M)(hl:items.length<=1000)
  (hs:∀ (d:D) (k:D->DH->Prop),d∈items->(∀ z,P d z->k z M)->te (some d::fr) M k) (hd:∀ zs:List D,zs.length=items.length->(∀ z∈zs,∃ d∈items,P d z)->Q zs M):zaw fr (fun d=>some [d]) zbh te Cd Q items [] M:=by
 refine Q1a (fun i ys M'=>M'=M/\ys.length=i/\∀ z∈ys,∃ d∈items,P d z) ⟨rfl,rfl,fun z h=>nomatch h⟩ (fun i ys M' h=>by rw[h.1];exact hC) ?_ ?_
 ·rintro i d ys M' k e ⟨rfl,hy,hp⟩ hk;have hi:=(Zv.mp e).1;simp only[zbh,if_true,Z8,map_nil,cons_append,nil_append];refine hs d _ (Z0 e) fun z hz=>⟨small1000 (by omega),hk _ _ ⟨rfl,by rw[Zd,hy];rfl,fun y h=>?_⟩⟩
  rcases Z3.mp h with h | h
  ·exact hp y h
  ·rw[Zp.mp h];exact⟨d,Z0 e,hz⟩
 ·rintro ys M' ⟨rfl,hy,hp⟩;exact hd ys hy hp
theorem Q7C{P:W->Prop}:∀ zs:List D,(∀ z∈zs,∃ w,P w/\z=.str w)->∃ a:List W,zs=a.map D.str/\∀ w∈a,P w
 | [],_=>⟨[],rfl,fun w h=>nomatch h⟩
 | z::r,h=>by
  obtain⟨w,hw,rfl⟩:=h z Zl;obtain⟨a,rfl,ha⟩:=Q7C r fun z hz=>h z (Zo _ hz);exact⟨w::a,rfl,fun x hx=>by
   rcases Zx.mp hx with rfl | hx
   ·exact hw
   ·exact ha x hx⟩
theorem ix_str(h0:0<=i)(h1:i<z.length)(hz:z.length<=1000)(h:∀ c,z[i.toNat]? = some c->Q (.str [c]) M):rIxD (.str z) (.int i) M Q:=by
 obtain⟨k,rfl⟩:=Z2 h0;show (match atI z (k:Int) with | some c=>z.length<=sizeLine/\Q (.str [c]) M | none=>False)
 rw[atI_nat',Zq (by omega)]
 exact⟨le_of_lt (small1000 hz),h _ (Zq (by simpa using h1))⟩
theorem ix_tup(h0:0<=i)(h1:i<xs.length)(h:∀ d,xs[i.toNat]? = some d->Q d M):rIxD (.tup xs) (.int i) M Q:=by
 obtain⟨k,rfl⟩:=Z2 h0;show (match atI xs (k:Int) with | some c=>Q c M | none=>False)
 rw[atI_nat',Zq (by omega)]
 exact h _ (Zq (by simpa using h1))
theorem Q1b(h0:0<=i)(h1:i<xs.length)(h:∀ d,xs[i.toNat]? = some d->Q d M):rIxD (.lst xs) (.int i) M Q:=by
 obtain⟨k,rfl⟩:=Z2 h0;show (match atI xs (k:Int) with | some c=>Q c M | none=>False)
 rw[atI_nat',Zq (by omega)]
 exact h _ (Zq (by simpa using h1))
theorem Q9M(ha:M a=some (.lst xs))(h0:0<=i)(h1:i<xs.length)(h:∀ d,xs[i.toNat]? = some d->Q d M):rIxD (.ref a) (.int i) M Q:=by
 obtain⟨k,rfl⟩:=Z2 h0;show (match M a with | some (.lst xs)=>(match atI xs (k:Int) with | some c=>Q c M | none=>False) | _=>False)
 rw[ha];show (match atI xs (k:Int) with | some c=>Q c M | none=>False)
 rw[atI_nat',Zq (by omega)]
 exact h _ (Zq (by simpa using h1))
theorem Q0d(ws:List W):plain 12 (.tup (ws.map D.str))=true:=by
 show (ws.map D.str).all (plain 11)=true;rw[Z5];intro d hd;obtain⟨w,_,rfl⟩:=mem_map.mp hd;rfl
theorem Q2D:∀ {a b:List W},a.map D.str=b.map D.str->a=b
 | [],[],_=>rfl
 | [],_::_,h=>by cases h
 | _::_,[],h=>by cases h
 | x::a,y::b,h=>by
  rw[Z8,Z8,List.cons.injEq]at h;rw[D.str.inj h.1,Q2D h.2]
theorem Q1c(a b:List W):eqB (.tup (a.map D.str)) (.tup (b.map D.str))=decide (a=b):=by
 by_cases h:a=b
 ·rw[Ze h,(Q0s _ _).mpr (by rw[h])]
 ·rw[Zg h,(Q1F _ _).mpr (fun e=>h (Q2D (D.tup.inj e)))]
theorem Q0b{R:DK}{d:D}{M:DH}(h:R d M):∃ M0,Sub M0 M/\R d M0:=⟨M,Sub.refl M,h⟩
@[elab_as_elim] theorem len1{α:Type}{P:List α->Prop}(us:List α)(h:us.length=1)(k:∀ a,P [a]):P us:=by
 cases us with
 | nil=>cases h
 | cons a t=>cases t with
  | nil=>exact k a
  | cons b t=>cases h
@[elab_as_elim] theorem len2{α:Type}{P:List α->Prop}(us:List α)(h:us.length=2)(k:∀ a b,P [a,b]):P us:=by
 cases us with
 | nil=>cases h
 | cons a t=>exact len1 t (Nat.succ.inj h) (k a)
@[elab_as_elim] theorem len3{α:Type}{P:List α->Prop}(us:List α)(h:us.length=3)(k:∀ a b c,P [a,b,c]):P us:=by
 cases us with
 | nil=>cases h
 | cons a t=>exact len2 t (Nat.succ.inj h) (k a)
@[elab_as_elim] theorem len4{α:Type}{P:List α->Prop}(us:List α)(h:us.length=4)(k:∀ a b c d,P [a,b,c,d]):P us:=by
 cases us with
 | nil=>cases h
 | cons a t=>exact len3 t (Nat.succ.inj h) (k a)
@[elab_as_elim] theorem len5{α:Type}{P:List α->Prop}(us:List α)(h:us.length=5)(k:∀ a b c d e,P [a,b,c,d,e]):P us:=by
 cases us with
 | nil=>cases h
 | cons a t=>exact len4 t (Nat.succ.inj h) (k a)
open Lean in
local macro_rules | `(tactic| walk_at "ev") => do
 let xs : Array (TSyntax `term):=("IR.evS_nil IR.evS_seq IR.evS_set IR.evS_set2 IR.evS_set3 IR.evS_ret IR.evS_ite IR.evS_for1 IR.evS_for2 IR.evS_ex IR.evS_raisx IR.evS_fz IR.evS_raisr IR.evS_tryx IR.evS_trym IR.ev_var IR.ev_con IR.ev_glob IR.ev_bin IR.ev_cmp IR.ev_chain IR.ev_and IR.ev_or IR.ev_not IR.ev_neg IR.ev_ite IR.ev_ix IR.ev_sl IR.ev_tup IR.ev_lst IR.ev_lstz IR.ev_frz IR.ev_call IR.ev_callx IR.ev_blt IR.ev_isi IR.ev_ms IR.ev_ml IR.ev_joinr IR.ev_fstr IR.ev_fzt IR.ev_comp IR.ev_compz IR.ev_compe IR.ev_rng1 IR.ev_rev IR.ev_nil IR.ev_cons mkE dSeq zby dRet dRetN dSet dIfS dAsg dFor dDrop dBreak dCont dOp dSl dVar dC za5 dCB zc3 zbp dNil dTup dLst zc2 zbz zaO zbH zc1 dB dAnd dOr dNot zbA dOrV dNotV dNeg dIf dIsI dMS dML zbo zb4 diAny zb8 zbm diRng2 diRev dCallK dBot zbI zbq dTryC dTryA zaN zbg dPar3 dXrow dNrow gone hP hA hS dIsE zbW rMulT rSorted zar rEqT rNeT setOpt dFld dMeth dMake dDNew zb7 FP.d dFmt dDisp1 dDispT rEqL rInD rInO rEqE botE diKeysT diKeysD dFzT rTIxF rDIxF rInF rDictT rSortT dLPut rInB rNinB rNeR rDIx dDGet2 dDGet1 dTGet2 dTSetd dDPop0 dTNew dTPut rTIx rInT dDSetd dSetF dDPut dFzS zbl m0S zan zbx zaH zbN zbh zbk Lit.d Bn.r Cp.r Bl.r Ms.r Ml.r rLen zbX rSlD zbD rList zao rAddD rI2 rLtD rEqN rIsN res rMin rMin1 rAddL rMax rStr rInt rIn1 m1S zaR mReverse mClear mExtend isNon za6 Q2q Q4B CE.len Nat.sub_self List.drop_nil drop_zero append_nil map_cons map_nil cons_append nil_append List.getElem?_cons_zero List.getElem?_cons_succ List.getElem?_nil List.set_cons_zero List.set_cons_succ length_cons length_nil Nat.reduceAdd Nat.reduceSub List.replicate Option.getD if_true if_false false_eq_true Bool.not_true Bool.not_false id true_and and_true".splitOn " ").toArray.map fun s=>⟨(mkIdent s.toName).raw⟩
 `(tactic| simp only [$[$xs:term],*])
noncomputable def b_au:CS :=
  (.seq (.ret (.cmp .eq (.sl (.var 0) .nil (.blt .len (.cons (.var 1) .nil))) (.var 1)))
  .nil)
noncomputable def b_al:CS :=
  (.seq (.ite (.cmp .lt (.var 1) (.blt .len (.cons (.var 0) .nil)))
  (.seq (.ret (.ix (.var 0) (.var 1)))
  .nil)
  .nil)
  (.seq (.ret (.con (.int 0)))
  .nil))
noncomputable def signs:W:=[97,98,99,100,101,102,103,104,105,106,107,108,109,110,111,112,113,114,115,116,117,118,119,120,121,122,48,49,50,51,52,53,54,55,56,57,45]
structure Wd(w:W):Prop where
 lo:1<=w.length
 hi:w.length<=12
 al:∀ c∈w,c∈signs
noncomputable def sp_au:DSp:=fun ds M R=>∃ a b:List W,ds=[dn a,dn b]/\R (.bl (decide (a.take b.length=b))) M
noncomputable def sp_al:DSp:=fun ds M R=>∃ (ns:List Int) (k:Nat),ds=[.lst (ns.map D.int),.int k]/\∀ n,R (.int n) M
section
variable{T:Tab}
theorem ok_au:∀ ds M R,sp_au ds M R->evS T b_au (za6 R) (za5 ["name","top"] ds) M:=by
 rintro ds M R ⟨a,b,rfl,h⟩;simp only[b_au,dn];walk_at "ev";rw[Q2C,Zi,<- map_take,Q1c];exact⟨Q0d _,Q0d _,Q0b h⟩
theorem ok_al:∀ ds M R,sp_al ds M R->evS T b_al (za6 R) (za5 ["a","b"] ds) M:=by
 rintro ds M R ⟨ns,k,rfl,h⟩;simp only[b_al,dn];walk_at "ev";refine ite2 (fun q=>?_) fun _=>Q0b (h 0);rw[Zf,Zi]at q;refine Q1b (by omega) (by rw[Zi];exact q) fun d hd=>?_
 rw[ZC]at hd;cases e:ns[(k:Int).toNat]? with
 | none=>rw[e]at hd;cases hd
 | some n=>rw[e]at hd;cases hd;exact Q0b (h n)
theorem mulOk{i j:Int}(h1:-1000000000000<=i)(h2:i<=1000000000000):CMul i j:=.inl ⟨by omega,by omega⟩
end
theorem atI_last{α:Type}{xs:List α}(h:xs≠[]):atI xs (-1)=xs[xs.length-1]?:=by
 have hl:0<xs.length:=length_pos_iff.mpr h;unfold atI ixN;rw[Zj (by omega),Zm (by omega)]
 show xs[((-1:Int)+(xs.length:Int)).toNat]? = _;congr 1;omega
noncomputable def b_a1:CS :=
  (.seq (.ret (.cmp .eq (.ms .strip (.var 0) (.cons (.var 1) .nil)) (.con (.str []))))
  .nil)
noncomputable def b_ag:CS :=
  (.seq (.ret (.and (.chain .le .le (.con (.int 1)) (.blt .len (.cons (.var 0) .nil)) (.glob 2)) (.call 10 (.cons (.var 0) (.cons (.glob 0) .nil)))))
  .nil)
noncomputable def b_aI:CS :=
  (.seq (.set 1 (.blt .ord (.cons (.var 0) .nil)))
  (.seq (.ret (.and (.chain .le .le (.glob 5) (.var 1) (.glob 6)) (.cmp .ne (.var 1) (.glob 7))))
  .nil))
noncomputable def b_aG:CS :=
  (.seq (.ret (.and (.chain .le .le (.con (.int 1)) (.blt .len (.cons (.var 0) .nil)) (.glob 3)) (.blt .all (.cons (.compz false [] (.var 0) .nil (.call 13 (.cons (.var 0) .nil))) .nil))))
  .nil)
noncomputable def b_aw:CS :=
  (.seq (.ite (.or (.not (.chain .le .le (.con (.int 1)) (.blt .len (.cons (.var 0) .nil)) (.glob 4))) (.not (.call 10 (.cons (.var 0) (.cons (.glob 1) .nil)))))
  (.seq (.ret (.con .non))
  .nil)
  .nil)
  (.seq (.ite (.and (.cmp .gt (.blt .len (.cons (.var 0) .nil)) (.con (.int 1))) (.ms .startswith (.var 0) (.cons (.con (.str [48])) .nil)))
  (.seq (.ret (.con .non))
  .nil)
  .nil)
  (.seq (.ret (.blt .int (.cons (.var 0) .nil)))
  .nil)))
noncomputable def zbc:W:=[97,98,99,100,101,102,103,104,105,106,107,108,109,110,111,112,113,114,115,116,117,118,119,120,121,122]
noncomputable def zaD:W:=[48,49,50,51,52,53,54,55,56,57]
theorem sz(h:n<=1000):n<=sizeLine:=le_of_lt (small1000 h)
theorem Q1T{p:Nat->Bool}:∀ (l:List Nat) (x:Nat),p x=false->((l++[x]).takeWhile p).length<=l.length
 | [],x,h=>by simp[takeWhile_cons,h]
 | y::l,x,h=>by
  rw[cons_append,takeWhile_cons];split
  ·have:=Q1T l x h;simp only[Zk];omega
  ·simp
theorem Q4d(y:List Nat)(z:List Nat):zai true true y z=[] <-> ∀ c∈z,c∈y:=by
 have tw:∀ z:List Nat,(∀ c∈z,c∈y)->z.takeWhile (fun c=>y.contains c)=z:=by
  intro z
  induction z with
  | nil=>intro _;rfl
  | cons c r ih =>
   intro h;rw[takeWhile_cons,Zm (by simpa using h c Zl),ih fun x hx=>h x (Zo _ hx)]
 constructor
 ·intro h;apply Classical.byContradiction;intro hn
  -- the first sign that does not go
  have split:∀ z:List Nat,¬ (∀ c∈z,c∈y)->∃ x r,z.drop (z.takeWhile fun c=>y.contains c).length=x::r/\x∉y:=by
   intro z
   induction z with
   | nil=>intro h;exact absurd (fun c hc=>nomatch hc) h
   | cons c r ih =>
    intro h;by_cases hc:c∈y
    ·rw[takeWhile_cons,Zm (by simpa using hc)]
     exact ih fun q=>h fun x hx=>by
      rcases Zx.mp hx with rfl | hx
      ·exact hc
      ·exact q x hx
    ·rw[takeWhile_cons,Zj (by simpa using hc)]
     exact⟨c,r,rfl,hc⟩
  obtain⟨x,r,e,hx⟩:=split z hn;have hp:(fun c=>y.contains c) x=false:=by simpa using hx
  have h1:=Q1T (p:=fun c=>y.contains c) r.reverse x hp;rw[ZB]at h1;have hlen:=congrArg List.length e;rw[length_drop,Zk]at hlen;have h':zai true true y z=(x::r).take (z.length-((x::r).reverse.takeWhile fun c=>y.contains c).length-(z.takeWhile fun c=>y.contains c).length):=by
   unfold zai;simp only[if_true,e]
  rw[h',reverse_cons]at h;have h2:=congrArg List.length h;rw[ZU,Zk,Zu]at h2;have h3:((r.reverse++[x]).takeWhile fun c=>y.contains c).length<=r.length:=h1;omega
 ·intro h;unfold zai;simp only[if_true,tw z h,drop_length,List.take_nil]
noncomputable def sp_a1:DSp:=fun ds M R=>∃ z y:W,ds=[.str z,.str y]/\z.length<=1000/\R (.bl (decide (∀ c∈z,c∈y))) M
theorem ok_a1:∀ ds M R,sp_a1 ds M R->evS T b_a1 (za6 R) (za5 ["text","signs"] ds) M:=by
 rintro ds M R ⟨z,y,rfl,hl,h⟩;simp only[b_a1];walk_at "ev";refine⟨sz hl,rfl,rfl,Q0b ?_⟩
 try rw[Q4B]
 have e:decide (zai true true y z=[])=decide (∀ c∈z,c∈y):=by
  by_cases q:∀ c∈z,c∈y
  ·rw[Ze q,Ze ((Q4d y z).mpr q)]
  ·rw[Zg q,Zg fun e=>q ((Q4d y z).mp e)]
 rw[e];exact h
noncomputable def zaX(z:W):Bool:=decide (1<=z.length/\z.length<=8/\∀ c∈z,c∈zbc)
noncomputable def sp_ag:DSp:=fun ds M R=>∃ z:W,ds=[.str z]/\z.length<=1000/\R (.bl (zaX z)) M
theorem ok_ag(T:Tab)(h1:T.fn 10=some ⟨"made_of",2,[],sp_a1⟩)(c1:T.con 2=some (("LONGEST_KIND" : Str),D.int 8))(c2:T.con 0=some (("SMALL_LETTERS" : Str),D.str zbc)) :
  ∀ ds M R,sp_ag ds M R->evS T b_ag (za6 R) (za5 ["text"] ds) M:=by
 rintro ds M R ⟨z,rfl,hl,h⟩;simp only[b_ag];walk_at "ev";simp only[h1,c1,c2];walk_at "ev";refine⟨sz hl,?_⟩;have key:∀ b:Bool,b=zaX z->∃ M0,Sub M0 M/\R (.bl b) M0:=fun b e=>Q0b (by rw[e];exact h)
 refine ite2 (fun q1=>?_) fun q1=>key _ ?_
 ·rw[Zf]at q1;refine ite2 (fun q2=>?_) fun q2=>key _ ?_
  ·rw[Zf]at q2;refine⟨z,zbc,rfl,hl,key _ ?_⟩;unfold zaX;congr 1;exact propext ⟨fun q=>⟨by omega,by omega,q⟩,fun q=>q.2.2⟩
  ·rw[Zf]at q2;exact (Zg fun q=>q2 (by omega)).symm
 ·rw[Zf]at q1;exact (Zg fun q=>q1 (by omega)).symm
noncomputable def zau(c:Nat):Prop:=33<=c/\c<=126/\c≠37
noncomputable instance (c:Nat):Decidable (zau c):=by unfold zau;infer_instance
noncomputable def sp_aI:DSp:=fun ds M R=>∃ c:Nat,ds=[.str [c]]/\R (.bl (decide (zau c))) M
theorem ok_aI(T:Tab)(c1:T.con 5=some (("FIRST_SIGN" : Str),D.int 33))(c2:T.con 6=some (("LAST_SIGN" : Str),D.int 126))(c3:T.con 7=some (("PERCENT_SIGN" : Str),D.int 37)) :
  ∀ ds M R,sp_aI ds M R->evS T b_aI (za6 R) (za5 ["sign","number"] ds) M:=by
 rintro ds M R ⟨c,rfl,h⟩;simp only[b_aI];walk_at "ev";simp only[c1,c2,c3,rOrd,rOrd1];walk_at "ev";have key:∀ b:Bool,b=decide (zau c)->∃ M0,Sub M0 M/\R (.bl b) M0:=fun b e=>Q0b (by rw[e];exact h)
 refine ite2 (fun q1=>?_) fun q1=>key _ ?_
 ·rw[Zf]at q1;refine ite2 (fun q2=>?_) fun q2=>key _ ?_
  ·rw[Zf]at q2;refine⟨rfl,rfl,key _ ?_⟩
   try rw[Q2q]
   by_cases q3:(c:Int)=37
   ·rw[Ze q3];exact (Zg fun q=>q.2.2 (by omega)).symm
   ·rw[Zg q3];exact (Ze ⟨by omega,by omega,by omega⟩).symm
  ·rw[Zf]at q2;exact (Zg fun q=>q2 (by have:=q.2.1;omega)).symm
 ·rw[Zf]at q1;exact (Zg fun q=>q1 (by have:=q.1;omega)).symm
noncomputable def valB(z:W):Bool:=decide (1<=z.length/\z.length<=40/\∀ c∈z,zau c)
noncomputable def sp_aG:DSp:=fun ds M R=>∃ z:W,ds=[.str z]/\z.length<=1000/\R (.bl (valB z)) M
theorem ok_aG(T:Tab)(h1:T.fn 13=some ⟨"is_value_sign",1,[],sp_aI⟩)(c1:T.con 3=some (("LONGEST_VALUE" : Str),D.int 40)) :
  ∀ ds M R,sp_aG ds M R->evS T b_aG (za6 R) (za5 ["text"] ds) M:=by
 rintro ds M R ⟨z,rfl,hl,h⟩;simp only[b_aG];walk_at "ev";simp only[h1,c1];walk_at "ev";refine⟨sz hl,?_⟩;have key:∀ b:Bool,b=valB z->∃ M0,Sub M0 M/\R (.bl b) M0:=fun b e=>Q0b (by rw[e];exact h)
 refine ite2 (fun q1=>?_) fun q1=>key _ ?_
 ·rw[Zf]at q1;refine ite2 (fun q2=>?_) fun q2=>key _ ?_
  ·rw[Zf]at q2;refine Q4c (fun d=>match d with | .str [c]=>.bl (decide (zau c)) | d=>d) trivial (by rw[Zi];exact hl) ?_ ?_
   ·intro d k hd hk;obtain⟨c,hc,rfl⟩:=mem_map.mp hd;walk_at "ev";exact⟨c,rfl,hk⟩
   ·rw[map_map];refine⟨sz (by rw[Zi];exact hl),z.map (fun c=>decide (zau c)),?_,fun xs e=>(nomatch e),key _ ?_⟩
    ·show some _=some _;rw[map_map];rfl
    ·unfold valB;rw[Bool.eq_iff_iff];simp only[ZT,Yj,List.all_map,Z5,Zf];exact⟨fun q=>⟨by omega,by omega,fun c hc=>by simpa using q c hc⟩,fun q c hc=>by simpa using q.2.2 c hc⟩
  ·rw[Zf]at q2;exact (Zg fun q=>q2 (by omega)).symm
 ·rw[Zf]at q1;exact (Zg fun q=>q1 (by omega)).symm
noncomputable def zaJ(z:W):Prop:=1<=z.length/\z.length<=9/\(∀ c∈z,c∈zaD)/\¬ (1<z.length/\z.take 1=[48])
noncomputable instance (z:W):Decidable (zaJ z):=by unfold zaJ;infer_instance
noncomputable def zbv(z:W):D:=if zaJ z then .int (NumText.digitsVal z:Nat) else .non
theorem Q7D(h:c∈zaD):48<=c/\c<=57:=by
 simp only[zaD,Zx,ZN,or_false]at h;omega
theorem Q7E(h:48<=c/\c<=57):c∈zaD:=by
 simp only[zaD,Zx,ZN,or_false];omega
noncomputable def sp_aw:DSp:=fun ds M R=>∃ z:W,ds=[.str z]/\z.length<=1000/\R (zbv z) M
theorem ok_aw(T:Tab)(h1:T.fn 10=some ⟨"made_of",2,[],sp_a1⟩)(c1:T.con 4=some (("LONGEST_LIFE" : Str),D.int 9))(c2:T.con 1=some (("FIGURES" : Str),D.str zaD)) :
  ∀ ds M R,sp_aw ds M R->evS T b_aw (za6 R) (za5 ["text"] ds) M:=by
 rintro ds M R ⟨z,rfl,hl,h⟩;have key:∀ d:D,d=zbv z->∃ M0,Sub M0 M/\R d M0:=fun b e=>Q0b (by rw[e];exact h)
 have no:¬ zaJ z->D.non=zbv z:=fun q=>by unfold zbv;rw[Zj q]
 simp only[b_aw];walk_at "q1";simp only[h1,c1,c2];walk_at "ev";refine⟨sz hl,?_⟩;refine ite2 (fun q1=>?_) fun q1=>?_
 ·rw[Zf]at q1;cases q2:decide ((z.length:Int)<=9) with
  | false =>
   refine iteT (key _ (no fun q=>?_));rw[Z6]at q2;exact q2 (by have:=q.2.1;omega)
  | true =>
   rw[Zf]at q2;refine iteF ⟨z,zaD,rfl,hl,?_⟩;cases q3:decide (∀ c∈z,c∈zaD) with
   | false =>
    rw[Z6]at q3;exact iteT (key _ (no fun q=>q3 q.2.2.1))
   | true =>
    rw[Zf]at q3;refine iteF ?_;rw[e1];walk_at "ev";refine⟨sz hl,?_⟩;have yes:¬ (1<z.length/\z.take 1=[48])->∃ M0,Sub M0 M/\R (.int (NumText.digitsVal z:Nat)) M0:=fun q=>key _ (by
     unfold zbv;rw[Zm ⟨by omega,by omega,q3,q⟩])
    have num:¬ (1<z.length/\z.take 1=[48])->rInt [.str z] M fun d M'=>∃ M0,Sub M0 M'/\R d M0:=fun q =>
     ⟨by intro e;subst e;simp at q1,fun c hc=>Q7D (q3 c hc),by omega,yes q⟩
    refine ite2 (fun q4=>?_) fun q4=>?_
    ·rw[Zf]at q4;refine ite2 (fun q5=>key _ (no fun q=>q.2.2.2 ⟨by omega,by simpa using q5⟩)) fun q5=>num fun q=>q5 (by simpa using q.2)
    ·rw[Zf]at q4;exact num fun q=>q4 (by omega)
 ·rw[Zf]at q1;exact key _ (no fun q=>q1 (by have:=q.1;omega))
noncomputable def b_ab:CS :=
  (.seq (.ret (.bin .add (.joinr (.con (.str [46])) (.var 0)) (.con (.str [46]))))
  .nil)
theorem szM(h:n<=1000000):n<=sizeLine:=by rw[sizeLine_eq];omega
noncomputable def zad(a:List W):W:=za4 [46] a.reverse++[46]
noncomputable def dots(ws:List W):W:=(ws.map fun w=>w++[46]).flatten
theorem Q2E(w:W)(r:List W):dots (w::r)=w++[46]++dots r:=by
 unfold dots;rw[Z8,flatten_cons]
theorem Q2F:∀ (w:W) (r:List W),za4 [46] (w::r)++[46]=dots (w::r)
 | w,[]=>by simp[za4,dots]
 | w,v::r=>by
  have ih:=Q2F v r;rw[Q2E,<- ih];show w++[46]++za4 [46] (v::r)++[46]=_;rw[Z9]
theorem Q1L(h:a≠[]):zad a=dots a.reverse:=by
 unfold zad;cases e:a.reverse with
 | nil=>exact absurd (List.reverse_eq_nil_iff.mp e) h
 | cons w r=>exact Q2F w r
theorem Q3s{K:Nat}:∀ ws:List W,(∀ w∈ws,w.length<=K)->(dots ws).length<=ws.length * (K+1)
 | [],_=>by simp[dots]
 | w::r,h=>by
  have:=Q3s r fun x hx=>h x (Zo _ hx);have h1:=h w Zl;rw[Q2E,Zd,Zd];simp only[Zk,Zu,add_mul];omega
theorem Q4e{a:List W}{K:Nat}(h:∀ w∈a,w.length<=K):(zad a).length<=a.length * (K+1)+1:=by
 by_cases e:a=[]
 ·subst e;simp[zad,za4]
 ·rw[Q1L e];have:=Q3s (K:=K) a.reverse fun w hw=>h w (Yg.mp hw);rw[ZB]at this;omega
theorem Q1A{s:W}{K:Nat}:∀ (ws:List W) (n:Nat),(∀ w∈ws,w.length<=K)->ws.foldl (fun n w=>n+w.length+s.length) n<=n+ws.length * (K+s.length)
 | [],n,_=>by simp
 | w::r,n,h=>by
  have h1:=h w Zl;have:=Q1A (s:=s) r (n+w.length+s.length) fun x hx=>h x (Zo _ hx);rw[foldl_cons,Zk,add_mul];omega
structure zc6(a:List W):Prop where
 many:a.length<=100
 long:∀ w∈a,w.length<=1000
noncomputable def sp_ab:DSp:=fun ds M R=>∃ a:List W,ds=[dn a]/\zc6 a/\R (.str (zad a)) M
theorem ok_ab{T:Tab}:∀ ds M R,sp_ab ds M R->evS T b_ab (za6 R) (za5 ["name"] ds) M:=by
 rintro ds M R ⟨a,rfl,ha,h⟩;simp only[b_ab,dn];walk_at "ev";have hm:=ha.many;refine⟨a,rfl,?_,?_,Q0b h⟩
 ·have:=Q1A (s:=[46]) (K:=1000) a.reverse 0 fun w hw=>ha.long w (Yg.mp hw);rw[ZB]at this;refine Z7 (show weight [46] a.reverse<=_ from this) ?_;simp only[Zk,Zu];omega
 ·have:=Q4e ha.long;unfold zad at this;rw[Zd]at this;exact szM (by simp only[Zk,Zu]at this;omega)
noncomputable def zaT:W:=[97,98,99,100,101,102,103,104,105,106,107,108,109,110,111,112,113,114,115,116,117,118,119,120,121,122,65,66,67,68,69,70,71,72,73,74,75,76,77,78,79,80,81,82,83,84,85,86,87,88,89,90,48,49,50,51,52,53,54,55,56,57,45]
structure zb5(w:W):Prop where
 lo:1<=w.length
 hi:w.length<=12
 al:∀ c∈w,c∈zaT
noncomputable def low(w:W):W:=w.map lo1
theorem Q4f:∀ c∈zaT,c<128/\c≠46/\c≠64/\c≠42:=by decide
noncomputable def zaP(st:Bool)(w:W):Prop:=zb5 w\/(st=true/\w=[42])
structure Words(st:Bool)(ws:List W):Prop where
 ex:∃ w0 r,ws=w0::r/\zaP st w0/\∀ w∈r,zb5 w
 many:ws.length<=40
noncomputable def zay(ws:List W):List W:=(ws.map low).reverse
theorem Q4g{st:Bool}{w:W}(h:zaP st w):w≠[]/\w.length<=12/\∀ c∈w,c<128/\c≠46/\c≠64:=by
 rcases h with h | ⟨_,rfl⟩
 ·exact⟨fun e=>by have:=h.lo;rw[e]at this;exact absurd this (by decide),h.hi,fun c hc=>by have:=Q4f c (h.al c hc);exact⟨this.1,this.2.1,this.2.2.1⟩⟩
 ·exact⟨by decide,by decide,by decide⟩
theorem Words.all{st:Bool}{ws:List W}(h:Words st ws):∀ w∈ws,w≠[]/\w.length<=12/\∀ c∈w,c<128/\c≠46/\c≠64:=by
 obtain⟨w0,r,rfl,h0,hr⟩:=h.ex;intro w hw;rcases Zx.mp hw with rfl | hw
 ·exact Q4g h0
 ·exact Q4g (st:=st) (.inl (hr w hw))
theorem Words.ne{st:Bool}{ws:List W}(h:Words st ws):ws≠[]:=by
 obtain⟨w0,r,rfl,_⟩:=h.ex;exact cons_ne_nil _ _
theorem Q4h{K:Nat}:∀ ws:List W,(∀ w∈ws,w.length<=K)->(za4 [46] ws).length<=ws.length * (K+1)
 | [],_=>by simp[za4]
 | [w],h=>by have:=h w Zl;simp[za4];omega
 | w::v::r,h=>by
  have h1:=h w Zl;have ih:=Q4h (v::r) fun x hx=>h x (Zo _ hx);show (w++[46]++za4 [46] (v::r)).length<=_;rw[Zd,Zd];simp only[Zk,Zu,add_mul]at ih ⊢;omega
theorem Words.len{st:Bool}{ws:List W}(h:Words st ws):(za4 [46] ws).length<=520:=by
 have h1:=Q4h (K:=12) ws fun w hw=>(h.all w hw).2.1;have h2:=h.many;omega
theorem Q3a:∀ {ws:List W},ws≠[]->(∀ w∈ws,w≠[]/\∀ c∈w,c≠46)->∃ z c,za4 [46] ws=z++[c]/\c≠46
 | [],h,_=>absurd rfl h
 | [w],_,h=>by
  obtain⟨h1,h2⟩:=h w Zl;exact⟨w.dropLast,w.getLast h1,(List.dropLast_concat_getLast h1).symm,h2 _ (List.getLast_mem h1)⟩
 | w::v::r,_,h=>by
  obtain⟨z,c,e,hc⟩:=Q3a (ws:=v::r) (cons_ne_nil _ _) fun x hx=>h x (Zo _ hx);refine⟨w++[46]++z,c,?_,hc⟩;show w++[46]++za4 [46] (v::r)=_;rw[e,Z9,Z9,Z9]
theorem Words.last{st:Bool}{ws:List W}(h:Words st ws):∃ z c,za4 [46] ws=z++[c]/\c≠46:=Q3a h.ne fun w hw=>⟨(h.all w hw).1,fun c hc=>((h.all w hw).2.2 c hc).2.1⟩
theorem Words.at{st:Bool}{ws:List W}(h:Words st ws):(64:Nat)∉za4 [46] ws:=by
 intro hm;rcases Q0D hm with q | ⟨w,hw,q⟩
 ·simp at q
 ·exact ((h.all w hw).2.2 64 q).2.2 rfl
theorem Q5m{α:Type}(xs:List α)(c:α):cut (xs++[c]) none (some (-1))=xs:=by
 unfold cut;rw[sIx_none];have e:HT.sIx (xs++[c]).length (xs++[c]).length (some (-1))=xs.length:=by
  rw[Zd];simp only[Zk,Zu];show (if ((-1:Int)<0) then ((-1:Int)+((xs.length+(0+1):Nat):Int)).toNat else min (-1:Int).toNat (xs.length+(0+1)))=_
  rw[Zm (by decide)]
  omega
 rw[e];simp
noncomputable def Reads(st:Bool)(top:List W)(z:W)(a:List W):Prop :=
 (z=[64]/\a=top)\/(z=[46]/\a=[])\/(∃ ws,Words st ws/\z=za4 [46] ws++[46]/\a=zay ws)\/(∃ ws,Words st ws/\z=za4 [46] ws/\a=top++zay ws)
noncomputable def b_a3:CS :=
  (.seq (.ite (.or (.not (.chain .le .le (.con (.int 1)) (.blt .len (.cons (.var 0) .nil)) (.glob 9))) (.not (.call 10 (.cons (.var 0) (.cons (.glob 8) .nil)))))
  (.seq (.raisx 0 (.cons (.con (.str [97,32,119,111,114,100,32,104,97,115,32,111,110,101,32,116,111,32,116,119,101,108,118,101,32,108,101,116,116,101,114,115,44,32,102,105,103,117,114,101,115,32,97,110,100,32,45])) .nil))
  .nil)
  .nil)
  (.seq (.ret (.ms .lower (.var 0) .nil))
  .nil))
noncomputable def b_as:CS :=
  (.seq (.ite (.and (.var 1) (.cmp .eq (.var 0) (.glob 11)))
  (.seq (.ret (.glob 11))
  .nil)
  .nil)
  (.seq (.ret (.callx 16 (.cons (.var 0) .nil)))
  .nil))
noncomputable def b_av:CS :=
  (.seq (.set 2 (.ms .split (.var 0) (.cons (.con (.str [46])) .nil)))
  (.seq (.set 3 (.compz false [] (.rev (.frz (.sl (.var 2) (.con (.int 1)) .nil))) .nil (.callx 16 (.cons (.var 0) .nil))))
  (.seq (.ret (.bin .add (.blt .tuple (.cons (.var 3) .nil)) (.tup (.cons (.callx 15 (.cons (.ix (.var 2) (.con (.int 0))) (.cons (.var 1) .nil))) .nil))))
  .nil)))
noncomputable def b_aJ:CS :=
  (.seq (.ite (.cmp .eq (.var 0) (.con (.str [64])))
  (.seq (.ret (.var 1))
  .nil)
  .nil)
  (.seq (.ite (.cmp .eq (.var 0) (.con (.str [46])))
  (.seq (.ret (.tup .nil))
  .nil)
  .nil)
  (.seq (.ite (.ms .endswith (.var 0) (.cons (.con (.str [46])) .nil))
  (.seq (.ret (.callx 9 (.cons (.sl (.var 0) .nil (.neg (.con (.int 1)))) (.cons (.var 2) .nil))))
  .nil)
  .nil)
  (.seq (.ret (.bin .add (.var 1) (.callx 9 (.cons (.var 0) (.cons (.var 2) .nil)))))
  .nil))))
noncomputable def b_a5:CS :=
  (.seq (.ite (.not (.isi .str (.var 0)))
  (.seq (.raisx 0 (.cons (.con (.str [97,32,110,97,109,101,32,105,115,32,114,101,97,100,32,102,114,111,109,32,97,32,116,101,120,116,32,97,108,111,110,101])) .nil))
  .nil)
  .nil)
  (.seq (.set 3 (.callx 8 (.cons (.var 0) (.cons (.ite (.cmp .isN (.var 1) (.con .non)) (.tup .nil) (.var 1)) (.cons (.var 2) .nil)))))
  (.seq (.ite (.cmp .gt (.blt .len (.cons (.var 3) .nil)) (.glob 10))
  (.seq (.raisx 0 (.cons (.con (.str [97,32,110,97,109,101,32,104,97,115,32,97,116,32,109,111,115,116,32,116,101,110,32,119,111,114,100,115])) .nil))
  .nil)
  .nil)
  (.seq (.ret (.var 3))
  .nil))))
theorem Q0g(h:RX c M)(s:Sub M M'):endX RX c M':=⟨M,s,h⟩
noncomputable def sp_a3:DSpX:=fun ds M R RX=>∃ w:W,ds=[.str w]/\w.length<=1000/\(zb5 w->R (.str (low w)) M)/\(¬ zb5 w->RX 0 M)
theorem ok_a3(T:Tab)(h1:T.fn 10=some ⟨"made_of",2,[],sp_a1⟩)(c1:T.con 9=some (("LONGEST_WORD" : Str),D.int 12))(c2:T.con 8=some (("WORD_SIGNS" : Str),D.str zaT)) :
  ∀ ds M R RX,sp_a3 ds M R RX->evS { T with xd:=endX RX } b_a3 (za6 R) (za5 ["text"] ds) M:=by
 rintro ds M R RX ⟨w,rfl,hl,h,hx⟩;simp only[b_a3];walk_at "ev";simp only[h1,c1,c2];walk_at "ev";have no:¬ zb5 w->1<=sizeLine/\endX RX 0 M:=fun q=>⟨sz (by decide),Q0g (hx q) (Sub.refl M)⟩
 refine⟨sz hl,ite2 (fun q1=>?_) fun q1=>no fun q=>q1 (Ze (by have:=q.lo;omega))⟩
 rw[Zf]at q1;refine ite2 (fun q2=>no fun q=>?_) fun q2=>?_
 ·rw[ZG,Z6]at q2;exact q2 (by have:=q.hi;omega)
 rw[ZG,Z6,Decidable.not_not]at q2;refine⟨w,zaT,rfl,hl,?_⟩;refine ite2 (fun q3=>no fun q=>?_) fun q3=>?_
 ·rw[ZG,Z6]at q3;exact q3 q.al
 rw[ZG,Z6,Decidable.not_not]at q3;have gw:zb5 w:=⟨by omega,by omega,q3⟩
 exact⟨fun c hc=>(Q4f c (q3 c hc)).1,by omega,Q0b (h gw)⟩
noncomputable def sp_as:DSpX:=fun ds M R RX=>∃ (w:W) (st:Bool),ds=[.str w,.bl st]/\w.length<=1000/\(zaP st w->R (.str (low w)) M)/\(¬ zaP st w->RX 0 M)
theorem ok_as(T:Tab)(h1:T.fx 16=some ⟨"read_word",1,[],sp_a3⟩)(c1:T.con 11=some (("STAR" : Str),D.str [42])) :
  ∀ ds M R RX,sp_as ds M R RX->evS { T with xd:=endX RX } b_as (za6 R) (za5 ["text","star"] ds) M:=by
 rintro ds M R RX ⟨w,st,rfl,hl,h,hx⟩;simp only[b_as];walk_at "ev";simp only[h1,c1];walk_at "ev";have other:¬ (st=true/\w=[42])->sp_a3 [D.str w] M (fun d M'=>∃ M0,Sub M0 M'/\R d M0) (endX RX):=fun q =>
  ⟨w,rfl,hl,fun gw=>Q0b (h (.inl gw)),fun gw=>Q0g (hx fun z=>z.elim gw q) (Sub.refl M)⟩
 refine ite2 (fun q1=>?_) fun q1=>other fun q=>q1 q.1;refine⟨rfl,rfl,ite2 (fun q2=>?_) fun q2=>other fun q=>q2 (by rw[q.2];exact Ze rfl)⟩
 rw[Zf]at q2;subst q2;exact Q0b (h (.inr ⟨q1,rfl⟩))
structure WOk(st:Bool)(ws:List W):Prop where
 ex:∃ w0 r,ws=w0::r/\zaP st w0/\∀ w∈r,zb5 w
noncomputable def sp_av:DSpX:=fun ds M R RX=>∃ (z:W) (st:Bool),ds=[.str z,.bl st]/\z.length<=900/\(WOk st (za1 46 z)->R (dn (zay (za1 46 z))) M)/\(¬ WOk st (za1 46 z)->RX 0 M)
theorem Q9d(h:w∈za1 46 z):w.length<=z.length:=by
 have e:=(Q0G 46 z).1;have:∀ ws:List W,w∈ws->w.length<=(za4 [46] ws).length:=fun ws=>by
  induction ws with
  | nil=>exact fun h=>nomatch h
  | cons v r ih =>
   intro h;cases r with
   | nil=>rw[Zp.mp h];exact Zz _
   | cons u r =>
    show _<=(v++[46]++za4 [46] (u::r)).length;rw[Zd,Zd];rcases Zx.mp h with rfl | h
    ·omega
    ·have:=ih h;omega
 have h2:=this _ h;rw[e]at h2;exact h2
theorem ok_av(T:Tab)(h1:T.fx 15=some ⟨"read_narrowest",2,[],sp_as⟩)(h2:T.fx 16=some ⟨"read_word",1,[],sp_a3⟩) :
  ∀ ds M R RX,sp_av ds M R RX->evS { T with xd:=endX RX } b_av (za6 R) (za5 ["text","star","parts","wider"] ds) M:=by
 rintro ds M R RX ⟨z,st,rfl,hl,h,hx⟩;simp only[b_av];walk_at "q1";refine⟨szM (by omega),?_⟩
 have hpl:∀ w∈za1 46 z,w.length<=1000:=fun w hw=>by have:=Q9d hw;omega
 have hlen:=Q0M 46 z;obtain⟨w0,r,e0⟩:∃ w0 r,za1 46 z=w0::r:=by
  cases e:za1 46 z with
  | nil=>exact absurd e (Q0G 46 z).2.1
  | cons w0 r=>exact⟨w0,r,rfl⟩
 rw[e0]at hpl hlen h hx ⊢;rw[e1];refine Q0a fun k2 e2=>?_;walk_at "ev";simp only[h2];walk_at "ev";intro p hp;simp only[dFrz,Q0e];have ec:cut ((w0::r).map D.str) (some 1) none=r.map D.str:=Q2b _ 1;rw[Z8]at ec;rw[ec];have sM:Sub M (ddel (dupd M p (.lst (r.map D.str))) p):=fun a o e=>by
  unfold ddel;rw[Zj (dne e hp),Q0j (dne e hp)];exact e
 generalize ddel (dupd M p (.lst (r.map D.str))) p=M1 at sM;have hrl:r.length<=900:=by simp only[Zk]at hlen;omega
 refine Q1a (fun i ys M'=>M'=M1/\ys=((r.map low).reverse.take i).map D.str/\∀ w∈r.reverse.take i,zb5 w) ⟨rfl,rfl,fun w hw=>by simp at hw⟩ (fun _ _ _ _=>trivial) ?_ ?_
 ·rintro i d ys M' k e ⟨rfl,rfl,hg⟩ hk;rw[<- map_reverse,ZC]at e;cases e3:r.reverse[i]? with
  | none=>rw[e3]at e;cases e
  | some w =>
   rw[e3]at e;cases e;have hw:w∈r:=Yg.mp (Z0 e3);walk_at "ev";refine⟨w,rfl,hpl w (Zo _ hw),fun gw=>⟨small1000 (by rw[Zi,ZU,ZB,Zi];omega),hk _ _ ⟨rfl,?_,?_⟩⟩,fun gw=>Q0g (hx fun⟨q⟩=>?_) sM⟩
   ·rw[<- map_reverse,take_add_one,ZC,e3,ZY];rfl
   ·intro v hv;rw[take_add_one,e3]at hv;rcases Z3.mp hv with hv | hv
    ·exact hg v hv
    ·have:v=w:=by simpa using hv
     rw[this];exact gw
   ·obtain⟨w0',r',q1,q2,q3⟩:=q;cases q1;exact gw (q3 w hw)
 ·rintro ys M' ⟨rfl,rfl,hg⟩;have ea:(r.map D.str).reverse.length=r.length:=by rw[ZB,Zi]
  rw[ea]at hg ⊢;have e5:(r.map low).reverse.take r.length=(r.map low).reverse:=ZS (by rw[ZB,Zi];exact Zz _)
  have e6:r.reverse.take r.length=r.reverse:=ZS (by rw[ZB];exact Zz _)
  rw[e5];rw[e6]at hg;refine⟨sz (by rw[Zi,ZB,Zi];omega),?_⟩
  rw[e2];walk_at "ev";simp only[h1];walk_at "ev";refine Q1b (by omega) (by simp only[Zk];omega) fun d hd=>?_
  cases hd;refine⟨w0,st,rfl,hpl w0 Zl,fun nw=>⟨sz (by decide),sz (by rw[Zi,ZB,Zi];omega),M,sM,?_⟩,fun nw=>Q0g (hx fun⟨q⟩=>?_) sM⟩
  ·have e9:((r.map low).reverse).map D.str++[D.str (low w0)]=(zay (w0::r)).map D.str:=by
    unfold zay;rw[Z8,reverse_cons,ZY];rfl
   rw[e9];exact h ⟨w0,r,rfl,nw,fun w hw=>hg w (Yg.mpr hw)⟩
  ·obtain⟨w0',r',q1,q2,q3⟩:=q;cases q1;exact nw q2
noncomputable def Told(st:Bool)(top:List W)(z:W)(a:List W):Prop :=
 (z=[64]/\a=top)\/(z=[46]/\a=[])\/(∃ z',z=z'++[46]/\z≠[46]/\WOk st (za1 46 z')/\a=zay (za1 46 z'))\/(z≠[64]/\(¬ ∃ z',z=z'++[46])/\WOk st (za1 46 z)/\a=top++zay (za1 46 z))
theorem Q7F{st:Bool}{top a:List W}:Told st top [64] a <-> a=top:=by
 constructor
 ·rintro (⟨_,h⟩ | ⟨h,_⟩ | ⟨z',h,_⟩ | ⟨h,_⟩)
  ·exact h
  ·cases h
  ·have:=congrArg List.getLast? h;simp at this
  ·exact absurd rfl h
 ·exact fun h=>.inl ⟨rfl,h⟩
theorem Q5n{st:Bool}{top a:List W}:Told st top [46] a <-> a=[]:=by
 constructor
 ·rintro (⟨h,_⟩ | ⟨_,h⟩ | ⟨z',_,h,_⟩ | ⟨_,h,_⟩)
  ·cases h
  ·exact h
  ·exact absurd rfl h
  ·exact absurd ⟨[],rfl⟩ h
 ·exact fun h=>.inr (.inl ⟨rfl,h⟩)
theorem Q1B{st:Bool}{top a:List W}{z:W}(hz:z≠[]):Told st top (z++[46]) a <-> WOk st (za1 46 z)/\a=zay (za1 46 z):=by
 have n46:z++[46]≠[46]:=fun e=>hz (by have:=congrArg List.length e;simp at this;exact this)
 constructor
 ·rintro (⟨h,_⟩ | ⟨h,_⟩ | ⟨z',h,_,h2⟩ | ⟨_,h,_⟩)
  ·have:=congrArg List.getLast? h;simp at this
  ·exact absurd h n46
  ·have e:z=z':=by simpa using h
   rw[e];exact h2
  ·exact absurd ⟨z,rfl⟩ h
 ·exact fun h=>.inr (.inr (.inl ⟨z,rfl,n46,h⟩))
theorem Q2G{st:Bool}{top a:List W}{z:W}(h1:z≠[64])(h2:¬ ∃ z',z=z'++[46]):Told st top z a <-> WOk st (za1 46 z)/\a=top++zay (za1 46 z):=by
 constructor
 ·rintro (⟨h,_⟩ | ⟨h,_⟩ | ⟨z',h,_⟩ | ⟨_,_,h⟩)
  ·exact absurd h h1
  ·exact absurd ⟨[],h⟩ h2
  ·exact absurd ⟨z',h⟩ h2
  ·exact h
 ·exact fun h=>.inr (.inr (.inr ⟨h1,h2,h⟩))
theorem Q6a(z:W):z=[64]\/z=[46]\/(∃ z',z'≠[]/\z=z'++[46])\/(z≠[64]/\¬ ∃ z',z=z'++[46]):=by
 by_cases h1:z=[64]
 ·exact .inl h1
 ·by_cases h2:∃ z',z=z'++[46]
  ·obtain⟨z',rfl⟩:=h2;by_cases h3:z'=[]
   ·subst h3;exact .inr (.inl rfl)
   ·exact .inr (.inr (.inl ⟨z',h3,rfl⟩))
  ·exact .inr (.inr (.inr ⟨h1,h2⟩))
theorem Q3t{st:Bool}{top a b:List W}{z:W}(h:Told st top z a)(h':Told st top z b):a=b:=by
 rcases Q6a z with rfl | rfl | ⟨z',h0,rfl⟩ | ⟨h1,h2⟩
 ·rw[Q7F]at h h';rw[h,h']
 ·rw[Q5n]at h h';rw[h,h']
 ·rw[Q1B h0]at h h';rw[h.2,h'.2]
 ·rw[Q2G h1 h2]at h h';rw[h.2,h'.2]
theorem Q5o(z:W):(1<=z.length/\z.drop (z.length-1)=[46]) <-> ∃ z',z=z'++[46]:=by
 constructor
 ·rintro⟨h1,h2⟩;exact⟨z.take (z.length-1),by rw[<- h2,List.take_append_drop]⟩
 ·rintro⟨z',rfl⟩;rw[Zd];simp
noncomputable def sp_aJ:DSpX:=fun ds M R RX=>∃ (z:W) (top:List W) (st:Bool),ds=[.str z,dn top,.bl st]/\z.length<=800/\top.length<=100/\(∀ a,Told st top z a->R (dn a) M)/\((∀ a,¬ Told st top z a)->RX 0 M)
theorem Q7G(ws:List W):(zay ws).length=ws.length:=by unfold zay;rw[ZB,Zi]
theorem ok_aJ(T:Tab)(h1:T.fx 9=some ⟨"read_words",2,[],sp_av⟩) :
  ∀ ds M R RX,sp_aJ ds M R RX->evS { T with xd:=endX RX } b_aJ (za6 R) (za5 ["text","top","star"] ds) M:=by
 rintro ds M R RX ⟨z,top,st,rfl,hl,ht,h,hx⟩;simp only[b_aJ,dn];walk_at "q1";refine⟨rfl,rfl,?_⟩;by_cases q1:z=[64]
 ·rw[Ze q1];subst q1;exact iteT (Q0b (h top (Q7F.mpr rfl)))
 rw[Zg q1];refine iteF ?_;rw[e1];refine Q0a fun k2 e2=>?_;walk_at "ev";refine⟨rfl,rfl,?_⟩;by_cases q2:z=[46]
 ·rw[Ze q2];subst q2;exact iteT ⟨szM (by decide),Q0b (h [] (Q5n.mpr rfl))⟩
 rw[Zg q2];refine iteF ?_;rw[e2];refine Q0a fun k3 e3=>?_;walk_at "ev";simp only[h1];walk_at "ev";by_cases q3:∃ z',z=z'++[46]
 ·rw[Ze ((Q5o z).mpr q3)];obtain⟨z',rfl⟩:=q3;have hz:z'≠[]:=fun e=>q2 (by rw[e];rfl)
  rw[Q5m];rw[Zd]at hl;refine iteT ⟨szM (by rw[Zd];simp only[Zk,Zu]at hl ⊢;omega),z',st,rfl,by omega,fun w=>Q0b (h _ ((Q1B hz).mpr ⟨w,rfl⟩)),fun w=>Q0g (hx fun a q=>w ((Q1B hz).mp q).1) (Sub.refl M)⟩
 ·rw[Zg fun q=>q3 ((Q5o z).mp q)];refine iteF ?_;rw[e3];walk_at "ev";simp only[h1];walk_at "ev";have hs:=Q0M 46 z;refine⟨z,st,rfl,by omega,fun w=>?_,fun w=>Q0g (hx fun a q=>w ((Q2G q1 q3).mp q).1) (Sub.refl M)⟩
  simp only[dn];refine⟨sz (by rw[Zi,Zi,Q7G];omega),Q0b ?_⟩
  rw[<- ZY];exact h _ ((Q2G q1 q3).mpr ⟨w,rfl⟩)
noncomputable def sp_a5:DSpX:=fun ds M R RX=>∃ (z:W) (t:D) (top:List W) (st:Bool),ds=[.str z,t,.bl st]/\(t=dn top\/(t=.non/\top=[]))/\z.length<=800/\top.length<=100/\(∀ a,Told st top z a->a.length<=10->R (dn a) M)/\((∀ a,Told st top z a->¬ a.length<=10)->RX 0 M)
theorem ok_a5(T:Tab)(h1:T.fx 8=some ⟨"read_below",3,[],sp_aJ⟩)(c1:T.con 10=some (("MOST_WORDS" : Str),D.int 10)) :
  ∀ ds M R RX,sp_a5 ds M R RX->evS { T with xd:=endX RX } b_a5 (za6 R) (za5 ["text","top","star","name"] ds) M:=by
 rintro ds M R RX ⟨z,t,top,st,rfl,ht,hl,htl,h,hx⟩;simp only[b_a5];walk_at "q1";simp only[tyD,Ty.sub];refine iteF ?_;rw[e1];refine Q0a fun k2 e2=>?_;walk_at "ev";simp only[h1];walk_at "ev";have key:∀ a,Told st top z a->k2 [some (.str z),some t,some (.bl st),some (dn a)] M:=fun a ha=>by
  rw[e2];walk_at "ev";simp only[c1,dn];walk_at "ev";rw[Zi];refine ite2 (fun q=>?_) fun q=>?_
  ·rw[Zf]at q;exact⟨szM (by decide),Q0g (hx fun b hb hb2=>by rw[Q3t hb ha]at hb2;omega) (Sub.refl M)⟩
  ·rw[Zf]at q;exact Q0b (h a ha (by omega))
 have no:(∀ a,¬ Told st top z a)->endX RX 0 M:=fun q=>Q0g (hx fun a ha=>absurd ha (q a)) (Sub.refl M);rcases ht with rfl | ⟨rfl,rfl⟩
 ·exact iteF ⟨z,top,st,rfl,hl,htl,key,no⟩
 ·exact iteT ⟨szM (by decide),z,[],st,rfl,hl,htl,key,no⟩
structure Rw where
 n:List W
 l:Int
 k:W
 v:D
noncomputable def Rw.d(r:Rw):D:=.tup [dn r.n,.int r.l,.str r.k,r.v]
noncomputable def zD(top:List W)(life:Int)(rows:List Rw):D:=.tup [dn top,.int life,.lst (rows.map Rw.d)]
noncomputable def zaL:W:=[100,111,119,110]
noncomputable def pageF(top:List W)(life:Int)(r d s:Addr):List (Str×D):=[("top",dn top),("life",.int life),("rows",.ref r),("downs",.ref d),("standing",.ref s)]
section
variable{top:List W}{life:Int}{r d s:Addr}
end
noncomputable def atN(rows:List Rw)(n:List W):List Rw:=rows.filter fun x=>decide (x.n=n)
structure RowsAt(M0 M:DH)(r:Addr)(kr:List (List W×D))(rows:List Rw):Prop where
 m:M r=some (.oth (.dct kr))
 f:M0 r=none
 l:kr.length<=rows.length
 v:∀ n v,valD kr n=some v->∃ l,v=.ref l/\M l=some (.lst ((atN rows n).map Rw.d))/\M0 l=none
 i:∀ n n' l,valD kr n=some (.ref l)->valD kr n'=some (.ref l)->n=n'
 no:∀ n,valD kr n=none->atN rows n=[]
 yes:∀ n,atN rows n=[]->valD kr n=none
noncomputable def downN(rows:List Rw)(n:List W):Option D:=((rows.filter fun x=>decide (x.k=zaL/\x.n=n)).getLast?).map Rw.d
structure DownsAt(M0 M:DH)(d:Addr)(kd:List (List W×D))(rows:List Rw):Prop where
 m:M d=some (.oth (.dct kd))
 f:M0 d=none
 l:kd.length<=rows.length
 v:∀ n,valD kd n=downN rows n
structure StandAt(M0 M:DH)(s:Addr)(ks:List (List W×D))(S:List W->Prop)(k:Nat):Prop where
 m:M s=some (.oth (.dct ks))
 f:M0 s=none
 l:ks.length<=k
 v:∀ n,(valD ks n).isSome=true <-> S n
noncomputable def Std(top:List W)(rows:List Rw)(n:List W):Prop:=n=top\/(top.length<n.length/\∃ x∈rows,x.n.take n.length=n)
section
variable{M0 M:DH}{r d s q:Addr}{kr kd ks:List (List W×D)}{rows:List Rw}{o:MO}{S:List W->Prop}{k:Nat}
theorem RowsAt.upd(h:RowsAt M0 M r kr rows)(hq:q≠r)(hl:∀ n l,valD kr n=some (.ref l)->l≠q):RowsAt M0 (dupd M q o) r kr rows :=
 {h with
  m:=by rw[Q0j hq.symm];exact h.m
  v:=fun n v e=>by
   obtain⟨l,rfl,h1,h2⟩:=h.v n v e;exact⟨l,rfl,by rw[Q0j (hl n l e)];exact h1,h2⟩ }
theorem RowsAt.new(h:RowsAt M0 M r kr rows)(hq:M q=none):RowsAt M0 (dupd M q o) r kr rows :=
 h.upd (dne h.m hq).symm fun n l e=>by
  obtain⟨l',e',h1,_⟩:=h.v n _ e;cases e';exact dne h1 hq
theorem RowsAt.oth(h:RowsAt M0 M r kr rows)(hr:q≠r)(hq:M q=some (.oth u)):RowsAt M0 (dupd M q o) r kr rows :=
 h.upd hr fun n l e z=>by
  obtain⟨l',e',h1,_⟩:=h.v n _ e;cases e';rw[z,hq]at h1;cases h1
theorem DownsAt.upd(h:DownsAt M0 M d kd rows)(hq:q≠d):DownsAt M0 (dupd M q o) d kd rows:={ h with m:=by rw[Q0j hq.symm];exact h.m }
theorem StandAt.upd(h:StandAt M0 M s ks S k)(hq:q≠s):StandAt M0 (dupd M q o) s ks S k:={ h with m:=by rw[Q0j hq.symm];exact h.m }
end
structure PG(M0 M:DH)(p r d s:Addr)(top:List W)(life:Int)(kr kd ks:List (List W×D))(rr rd:List Rw)(S:List W->Prop)(k:Nat):Prop where
 ob:M p=some (.oth (.ins "Page" (pageF top life r d s)))
 fp:M0 p=none
 sub:Sub M0 M
 ne1:r≠d
 ne2:r≠s
 ne3:d≠s
 hR:RowsAt M0 M r kr rr
 hD:DownsAt M0 M d kd rd
 hS:StandAt M0 M s ks S k
noncomputable def Page(M0 M:DH)(p:Addr)(top:List W)(life:Int)(rows:List Rw):Prop:=∃ r d s kr kd ks,PG M0 M p r d s top life kr kd ks rows rows (Std top rows) (1+21 * rows.length)
section
variable{M0 M:DH}{p r d s q:Addr}{top:List W}{life:Int}{kr kd ks:List (List W×D)}{rr rd:List Rw}{o:MO}{S:List W->Prop}{k:Nat}
theorem PG.new(h:PG M0 M p r d s top life kr kd ks rr rd S k)(hq:M q=none):PG M0 (dupd M q o) p r d s top life kr kd ks rr rd S k :=
 {h with
  ob:=by rw[Q0j (dne h.ob hq)];exact h.ob
  sub:=h.sub.put (h.sub.none hq)
  hR:=h.hR.new hq
  hD:=h.hD.upd (dne h.hD.m hq).symm
  hS:=h.hS.upd (dne h.hS.m hq).symm }
theorem mne(h:M a=some u)(h':M b=some v)(e:u≠v):a≠b:=fun z=>by
 subst z;rw[h]at h';exact e (Z1 h')
end
theorem Q2d:atN (rows++[x]) n=if x.n=n then atN rows n++[x] else atN rows n:=by
 unfold atN;rw[List.filter_append];by_cases e:x.n=n
 ·rw[Zm e,filter_cons,Zm (by simp[e])];rfl
 ·rw[Zj e,filter_cons,Zj (by simp[e])];simp
structure RowIn(top:List W)(x:Rw):Prop where
 le:x.n.length<=20
 at_:x.n.take top.length=top
section
variable{M0 M:DH}{p r d s:Addr}{top:List W}{life:Int}{kr kd ks:List (List W×D)}{rr rd:List Rw}{S:List W->Prop}{k:Nat}
theorem PG.fresh(h:PG M0 M p r d s top life kr kd ks rr rd S k)(hq:M q=none)(e:valD kr x.n=none) :
  PG M0 (dupd (dupd (dupd M q (.lst [])) r (.oth (.dct (putD kr x.n (.ref q))))) q (.lst [x.d])) p r d s top life (putD kr x.n (.ref q)) kd ks (rr++[x]) rd S k:=by
 have np:p≠q:=dne h.ob hq;have nr:r≠q:=dne h.hR.m hq;have nd:d≠q:=dne h.hD.m hq;have ns:s≠q:=dne h.hS.m hq;have pr:p≠r:=mne h.ob h.hR.m (fun z=>nomatch z)
 have fq:M0 q=none:=h.sub.none hq;exact { h with
  ob:=by rw[Q0j np,Q0j pr,Q0j np];exact h.ob
  sub:=((h.sub.put fq).put h.hR.f).put fq
  hD:=((h.hD.upd nd.symm).upd h.ne1).upd nd.symm
  hS:=((h.hS.upd ns.symm).upd h.ne2).upd ns.symm
  hR:={ m:=by rw[Q0j nr,Q0e]
        f:=h.hR.f
        l:=by
         have h1:=Q2x kr x.n (.ref q);have h2:=h.hR.l;rw[Zd];show _<=rr.length+1;omega
        i:=fun n n' l e1 e2=>by
         rw[Q1v]at e1 e2;have old:∀ n,valD kr n=some (.ref q)->False:=fun n z=>by
          obtain⟨l',e',h1,_⟩:=h.hR.v n _ z;cases e';rw[hq]at h1;cases h1
         by_cases a:n=x.n <;> by_cases b:n'=x.n
         ·rw[a,b]
         ·rw[Zm a]at e1;rw[Zj b]at e2;cases e1;exact (old _ e2).elim
         ·rw[Zj a]at e1;rw[Zm b]at e2;cases e2;exact (old _ e1).elim
         ·rw[Zj a]at e1;rw[Zj b]at e2;exact h.hR.i _ _ _ e1 e2
        v:=fun n v ev=>by
         rw[Q1v]at ev;by_cases a:n=x.n
         ·rw[Zm a]at ev;cases ev;exact⟨q,rfl,by rw[Q0e,a,Q2d,Zm rfl,h.hR.no _ e];rfl,fq⟩
         ·rw[Zj a]at ev;obtain⟨l,rfl,g1,g2⟩:=h.hR.v n v ev;have lq:l≠q:=dne g1 hq;have lr:l≠r:=mne g1 h.hR.m (fun z=>nomatch z)
          exact⟨l,rfl,by rw[Q0j lq,Q0j lr,Q0j lq,Q2d,Zj (fun z=>a z.symm)];exact g1,g2⟩
        no:=fun n en=>by
         rw[Q1v]at en;by_cases a:n=x.n
         ·rw[Zm a]at en;cases en
         ·rw[Zj a]at en;rw[Q2d,Zj (fun z=>a z.symm)];exact h.hR.no n en
        yes:=fun n en=>by
         rw[Q2d]at en;by_cases a:n=x.n
         ·rw[Zm a.symm]at en;simp at en
         ·rw[Zj (fun z=>a z.symm)]at en;rw[Q1v,Zj a];exact h.hR.yes n en } }
theorem PG.stand(h:PG M0 M p r d s top life kr kd ks rr rd S k)(m:List W):PG M0 (dupd M s (.oth (.dct (putD ks m (.bl true))))) p r d s top life kr kd (putD ks m (.bl true)) rr rd (fun n=>n=m\/S n) (k+1):=by
 have ps:p≠s:=mne h.ob h.hS.m (fun z=>nomatch z)
 exact { h with
  ob:=by rw[Q0j ps];exact h.ob
  sub:=h.sub.put h.hS.f
  hR:=h.hR.oth h.ne2.symm h.hS.m
  hD:=h.hD.upd h.ne3.symm
  hS:={ m:=Q0e
        f:=h.hS.f
        l:=by
         have h1:=Q2x ks m (.bl true);have h2:=h.hS.l;omega
        v:=fun n=>by
         rw[Q1v];by_cases a:n=m
         ·rw[Zm a];simp[a]
         ·rw[Zj a,h.hS.v];simp[a] } }
end
noncomputable def b_a0:CS :=
  (.seq (.ret (.bin .mod (.bin .mod (.bin .mul (.bin .mod (.bin .mul (.bin .add (.bin .mod (.var 0) (.con (.int 99991))) (.con (.int 17))) (.bin .add (.con (.int 48271)) (.bin .mul (.con (.int 7919)) (.var 1)))) (.con (.int 65537))) (.bin .add (.var 1) (.con (.int 3)))) (.con (.int 8191))) (.var 2)))
  .nil)
noncomputable def b_aE:CS :=
  (.seq (.set 2 (.con (.str [97,98,99,100,101,102,103,104,105,106,107,108,109,110,111,112,113,114,115,116,117,118,119,120,121,122,48,49,50,51,52,53,54,55,56,57,45])))
  (.seq (.set 3 (.bin .add (.con (.int 1)) (.call 101 (.cons (.var 0) (.cons (.con (.int 0)) (.cons (.con (.int 12)) .nil))))))
  (.seq (.set 4 (.call 101 (.cons (.var 1) (.cons (.con (.int 1)) (.cons (.var 3) .nil)))))
  (.seq (.set 5 (.lst .nil))
  (.seq (.for1 6 (.rng1 (.con (.int 4)))
  (.seq (.set 7 (.con (.str [])))
  (.seq (.for1 8 (.rng1 (.var 3))
  (.seq (.set 9 (.call 101 (.cons (.var 0) (.cons (.bin .add (.var 8) (.con (.int 2))) (.cons (.con (.int 37)) .nil)))))
  (.seq (.ite (.cmp .eq (.var 8) (.var 4))
  (.seq (.set 9 (.bin .add (.var 9) (.var 6)))
  .nil)
  .nil)
  (.seq (.set 7 (.bin .add (.var 7) (.ix (.var 2) (.bin .mod (.var 9) (.con (.int 37))))))
  .nil))))
  (.seq (.ex (.ml .append (.var 5) (.cons (.var 7) .nil)))
  .nil))))
  (.seq (.ite (.and (.cmp .gt (.var 3) (.con (.int 3))) (.cmp .eq (.bin .mod (.var 1) (.con (.int 2))) (.con (.int 1))))
  (.seq (.ret (.compz false [5,3] (.rng1 (.con (.int 4))) .nil (.sl (.ix (.var 1) (.con (.int 0))) .nil (.bin .sub (.var 2) (.var 0)))))
  .nil)
  .nil)
  (.seq (.ret (.frz (.var 5)))
  .nil)))))))
noncomputable def b_aa:CS :=
  (.seq (.set 4 (.tup .nil))
  (.seq (.for1 5 (.rng1 (.var 3))
  (.seq (.set 4 (.bin .add (.var 4) (.tup (.cons (.ix (.var 0) (.call 101 (.cons (.var 1) (.cons (.bin .add (.var 2) (.var 5)) (.cons (.con (.int 4)) .nil))))) .nil))))
  .nil))
  (.seq (.ret (.var 4))
  .nil)))
noncomputable def sp_a0:DSp:=fun ds M R=>∃ (c k m:Int),ds=[.int c,.int k,.int m]/\0<=k/\k<=1000000/\0<m/\∀ v:Nat,(v:Int)<m->R (.int v) M
noncomputable def sp_aE:DSp:=fun ds M R=>∃ (a b:Int),ds=[.int a,.int b]/\∀ ws:List W,ws.length=4->(∀ w∈ws,Wd w)->R (.lst (ws.map D.str)) M
noncomputable def sp_aa:DSp:=fun ds M R=>∃ (ws:List W) (c k:Int) (m:Nat),ds=[.lst (ws.map D.str),.int c,.int k,.int m]/\ws.length=4/\(∀ w∈ws,Wd w)/\0<=k/\k<=1000/\m<=100/\∀ a:List W,a.length=m->(∀ w∈a,Wd w)->R (dn a) M
theorem szL(h:n<=1000):n<=sizeLine:=le_of_lt (small1000 h)
theorem Q5p(hk:0<k)(h:n<10 ^ k):(digs n).length<=k:=by
 unfold digs;rw[Zi];exact (Nat.length_toDigits_le_iff (by decide) hk).mpr h
theorem ok_a0:∀ ds M R,sp_a0 ds M R->evS T b_a0 (za6 R) (za5 ["a","b","c"] ds) M:=by
 rintro ds M R ⟨c,k,m,rfl,h0,h1,hm,h⟩;simp only[b_a0];walk_at "ev";refine⟨by decide,mulOk (by omega) (by omega),mulOk (by omega) (by omega),by decide,mulOk (by omega) (by omega),by decide,hm,Q0b ?_⟩
 generalize ((c % 99991+17) * (48271+7919 * k) % 65537 * (k+3)) % 8191=z;have e:=Int.emod_nonneg z (show m≠0 by omega)
 have e2:=Yi z hm;obtain⟨v,hv⟩:=Z2 e;rw[hv]at e2 ⊢;exact h v e2
theorem ok_aE(T:Tab)(h1:T.fn 101=some ⟨"_law_part",3,[],sp_a0⟩):∀ ds M R,sp_aE ds M R->evS T b_aE (za6 R) (za5 ["a","b","c","d","e","f","g","h","i","j"] ds) M:=by
 rintro ds M R ⟨a,b,rfl,h⟩;simp only[b_aE];walk_at "q1";rw[e1];clear e1;walk_at "q1";simp only[h1];walk_at "ev";refine⟨a,0,12,rfl,by decide,by decide,by decide,fun v hv=>?_⟩
 walk_at "ev";have es:(1:Int)+(v:Int)=((v+1:Nat):Int):=by omega
 rw[es,e1];clear e1;walk_at "q1";simp only[h1];walk_at "ev";refine⟨b,1,_,rfl,by decide,by decide,by omega,fun u hu=>?_⟩
 rw[e1];clear e1;walk_at "q1";refine⟨szL (by decide),fun p hp=>?_⟩
 rw[e1];clear e1;walk_at "q1";refine⟨by decide,by decide,?_⟩
 refine Q2c (fun i ρ M'=>∃ (ws:List W) (v6 v7 v8 v9:Option D),M'=dupd M p (.lst (ws.map D.str))/\ρ=[some (.int a),some (.int b),some (.str signs),some (.int ((v+1:Nat):Int)),some (.int u),some (.ref p),v6,v7,v8,v9]/\ws.length=i/\∀ w∈ws,Wd w/\w.length=v+1)
  ⟨[],none,none,none,none,rfl,rfl,rfl,fun w h=>nomatch h⟩ (fun _ _ _ _=>trivial) ?_ ?_
 ·rintro i ρ M' k hi ⟨ws,v6,v7,v8,v9,rfl,rfl,hw,ha⟩ hk;show dSeq _ _ _ _ _;refine Q0v fun k2 e2=>?_;walk_at "ev";rw[e2];clear e2;refine Q0v fun k2 e2=>?_;walk_at "ev";refine⟨by omega,by omega,?_⟩
  rw[ZO];refine Q2c (fun j ρ M'=>∃ (w:W) (v8 v9:Option D),M'=dupd M p (.lst (ws.map D.str))/\ρ=[some (.int a),some (.int b),some (.str signs),some (.int ((v+1:Nat):Int)),some (.int u),some (.ref p),some (.int (0+(i:Int))),some (.str w),v8,v9]/\w.length=j/\∀ x∈w,x∈signs)
   ⟨[],v8,v9,rfl,rfl,rfl,fun x h=>nomatch h⟩ (fun _ _ _ _=>trivial) ?_ ?_
  ·rintro j ρ M' k3 hj ⟨w,v8,v9,rfl,rfl,hwl,hwa⟩ hk3;show dSeq _ _ _ _ _;refine Q0v fun k4 e4=>?_;walk_at "ev";simp only[h1];walk_at "ev";refine⟨a,_,37,rfl,by omega,by omega,by decide,fun n hn=>?_⟩
   rw[e4];clear e4;refine Q0v fun k4 e4=>?_;have last:∀ z:Nat,k4 [some (.int a),some (.int b),some (.str signs),some (.int ((v+1:Nat):Int)),some (.int u),some (.ref p),some (.int (0+(i:Int))),some (.str w),some (.int (0+(j:Int))),some (.int z)] (dupd M p (.lst (ws.map D.str))):=by
    intro z;rw[e4];clear e4;walk_at "ev";refine⟨by decide,ix_str (by omega) (by show _<(37:Int);omega) (by decide) fun x hx=>?_⟩
    walk_at "ev";refine⟨szL (by rw[hwl];omega),hk3 _ _ ⟨w++[x],_,_,rfl,rfl,by rw[Zd,hwl];rfl,fun y hy=>?_⟩⟩
    rcases Z3.mp hy with hy | hy
    ·exact hwa y hy
    ·rw[Zp.mp hy];exact Z0 hx
   walk_at "ev";refine⟨rfl,rfl,ite2 (fun _=>?_) fun _=>last n⟩;have en:(n:Int)+(0+(i:Int))=((n+i:Nat):Int):=by omega
   rw[en];exact last _
  ·rintro ρ M' ⟨w,v8,v9,rfl,rfl,hwl,hwa⟩;rw[e2];clear e2;walk_at "ev";simp only[Q0e]
   try walk_at "ev"
   try simp only[Q0e]
   refine⟨small1000 (by rw[Zi];omega),?_⟩
   rw[Q6E];refine hk _ _ ⟨ws++[w],_,_,_,_,by rw[ZY];rfl,rfl,by rw[Zd,hw];rfl,fun y hy=>?_⟩
   rcases Z3.mp hy with hy | hy
   ·exact ha y hy
   ·rw[Zp.mp hy];exact⟨⟨by omega,by omega,hwa⟩,hwl⟩
 ·rintro ρ M' ⟨ws,v6,v7,v8,v9,rfl,rfl,hw,ha⟩;rw[e1];clear e1;have fin:evS T (.ret (.frz (.var 5))) (za6 R) [some (.int a),some (.int b),some (.str signs),some (.int ((v+1:Nat):Int)),some (.int u),some (.ref p),v6,v7,v8,v9] (dupd M p (.lst (ws.map D.str))):=by
   walk_at "ev";simp only[dFrz];walk_at "ev";simp only[Q0e];refine⟨M,fun c o e=>?_,h ws hw fun w hw=>(ha w hw).1⟩;unfold ddel dupd;have:c≠p:=dne e hp;rw[Zj this,Zj this];exact e
  walk_at "q1";have low:k1 [some (.int a),some (.int b),some (.str signs),some (.int ((v+1:Nat):Int)),some (.int u),some (.ref p),v6,v7,v8,v9] (dupd M p (.lst (ws.map D.str))):=by
   rw[e1];walk_at "ev";simpa only [evS,ev,mkE,dRet,za6]using fin
  refine ite2 (fun q=>⟨by decide,rfl,rfl,ite2 (fun _=>⟨by decide,by decide,?_⟩) fun _=>low⟩) fun _=>low
  rw[Zf]at q;refine Q5Z (fun _ z=>∃ w,Wd w/\z=.str w) trivial (by rw[Q3r];decide) ?_ ?_
  ·intro d k hd hk;obtain⟨i,hi⟩:=List.mem_iff_getElem?.mp hd;obtain⟨h3,rfl⟩:=Q5l hi;have h3:i<4:=h3;walk_at "ev";refine Q9M Q0e (by decide) (by rw[Zi,hw];decide) fun d hd=>?_
   rw[ZC]at hd;cases e:ws[(0:Int).toNat]? with
   | none=>rw[e]at hd;cases hd
   | some w =>
    rw[e]at hd;cases hd;have hww:=ha w (Z0 e);have e4:((v+1:Nat):Int)-(0+(i:Int))=((v+1-i:Nat):Int):=by omega
    try walk_at "ev"
    rw[e4,Q2C];refine⟨szL (by have:=hww.1.hi;omega),hk _ ⟨_,⟨?_,?_,?_⟩,rfl⟩⟩
    ·rw[ZU,hww.2];omega
    ·rw[ZU];have:=hww.1.hi;omega
    ·exact fun c hc=>hww.1.al c (mem_of_mem_take hc)
  ·intro zs hz hp';rw[Q3r]at hz;obtain⟨a,rfl,ha⟩:=Q7C (P:=Wd) zs fun z hz=>by
    obtain⟨_,_,q⟩:=hp' z hz;exact q
   rw[Zi]at hz;exact⟨szL (by rw[Zi,hz];decide),M,Sub.new hp,h a hz ha⟩
theorem ok_aa(T:Tab)(h1:T.fn 101=some ⟨"_law_part",3,[],sp_a0⟩):∀ ds M R,sp_aa ds M R->evS T b_aa (za6 R) (za5 ["a","b","c","d","e","f"] ds) M:=by
 rintro ds M R ⟨ws,c,k,m,rfl,hl,hw,h0,h2,hm,h⟩;simp only[b_aa];walk_at "q1";refine⟨szL (by decide),?_⟩
 rw[e1];clear e1;walk_at "q1";refine⟨by omega,by omega,?_⟩
 rw[ZO];refine Q2c (fun i ρ M'=>∃ (a:List W) (v:Option D),M'=M/\ρ=[some (.lst (ws.map D.str)),some (.int c),some (.int k),some (.int m),some (dn a),v]/\a.length=i/\∀ w∈a,Wd w)
  ⟨[],none,rfl,rfl,rfl,fun w h=>nomatch h⟩ (fun _ _ _ _=>trivial) ?_ ?_
 ·rintro i ρ M' k3 hi ⟨a,v,rfl,rfl,ha,hwa⟩ hk;unfold dn;walk_at "ev";simp only[h1];walk_at "ev";refine⟨c,_,4,rfl,by omega,by omega,by decide,fun n hn=>?_⟩
  refine Q1b (by omega) (by rw[Zi,hl];exact hn) fun d hd=>?_
  rw[ZC]at hd;cases e:ws[(n:Int).toNat]? with
  | none=>rw[e]at hd;cases hd
  | some w =>
   rw[e]at hd;cases hd
   try walk_at "ev"
   refine⟨szL (by decide),szL (by rw[Zi,ha];omega),?_⟩
   refine hk _ _ ⟨a++[w],_,rfl,by unfold dn;rw[ZY];rfl,by rw[Zd,ha];rfl,fun y hy=>?_⟩
   rcases Z3.mp hy with hy | hy
   ·exact hwa y hy
   ·rw[Zp.mp hy];exact hw w (Z0 e)
 ·rintro ρ M' ⟨a,v,rfl,rfl,ha,hwa⟩;rw[e1];clear e1;walk_at "ev";exact Q0b (h a ha hwa)
noncomputable def zaz:W:=[33,34,35,36,38,39,40,41,42,43,44,45,46,47,48,49,50,51,52,53,54,55,56,57,58,59,60,61,62,63,64,65,66,67,68,69,70,71,72,73,74,75,76,77,78,79,80,81,82,83,84,85,86,87,88,89,90,91,92,93,94,95,96,97,98,99,100,101,102,103,104,105,106,107,108,109,110,111,112,113,114,115,116,117,118,119,120,121,122,123,124,125,126]
structure Vd(w:W):Prop where
 lo:1<=w.length
 hi:w.length<=40
 al:∀ c∈w,c∈zaz
noncomputable def IsN(k:W):Prop:=k=[100,111,119,110]\/k=[101,108,115,101]
theorem Q1d(h:([D.str [100,111,119,110],D.str [101,108,115,101]].any fun d=>eqB d (.str k))=b):b=true <-> IsN k:=by
 subst h;simp only[any_cons,List.any_nil,Q4B,Bool.or_false,or_eq_true,Zf,IsN];exact⟨fun z=>z.imp Eq.symm Eq.symm,fun z=>z.imp Eq.symm Eq.symm⟩
structure RowOk(top:List W)(x:Rw):Prop where
 in_:RowIn top x
 pv:(IsN x.k/\∃ b:List W,x.v=dn b)\/(¬ IsN x.k/\∃ w:W,x.v=.str w)
theorem Q0H(k:Nat)(ws:List W):plain (k+2) (dn ws)=true:=by
 show (ws.map D.str).all (plain (k+1))=true;rw[Z5];intro d hd;obtain⟨w,_,rfl⟩:=mem_map.mp hd;rfl
theorem RowOk.v(h:RowOk top x)(k:Nat):plain (k+2) x.v=true:=by
 rcases h.pv with ⟨_,b,e⟩ | ⟨_,w,e⟩
 ·rw[e];exact Q0H k b
 ·rw[e];rfl
theorem RowOk.res(h:RowOk top x)(M:DH):res M x.v=x.v:=by
 rcases h.pv with ⟨_,b,e⟩ | ⟨_,w,e⟩ <;> rw[e] <;> rfl
theorem RowOk.d(h:RowOk top x)(k:Nat):plain (k+3) x.d=true:=by
 show [dn x.n,.int x.l,.str x.k,x.v].all (plain (k+2))=true;simp only[ZW,List.all_nil,Q0H,h.v,Bool.and_true,Bool.true_and];rfl
theorem Q0N{top:List W}{rows:List Rw}(h:∀ x∈rows,RowOk top x)(k:Nat):plain (k+4) (.lst (rows.map Rw.d))=true:=by
 show (rows.map Rw.d).all (plain (k+3))=true;rw[Z5];intro d hd;obtain⟨x,hx,rfl⟩:=mem_map.mp hd;exact (h x hx).d k
theorem Q2H(e:xs[xs.length-1]? = some d)(h:Q d M):rIxD (.tup xs) (.int (-1)) M Q:=by
 show (match atI xs (-1) with | some c=>Q c M | none=>False)
 rw[My.atI_last (by intro z;subst z;cases e),e]
 exact h
theorem Qct(hx:x<10 ^ 31):((x:Nat):Int).natAbs.log2<1920:=by
 rw[Int.natAbs_natCast];by_cases h0:x=0
 ·subst h0;decide
 ·exact (Nat.log2_lt h0).mpr (Zr hx (Z7 (by decide:10 ^ 31<=2 ^ 128) (Nat.pow_le_pow_right (by decide) (by decide))))
theorem Q5q{α:Type}(xs:List α):cut xs (some (-1)) none=xs.drop (xs.length-1):=by
 unfold cut;have e:HT.sIx xs.length 0 (some (-1))=xs.length-1:=by
  show (if ((-1:Int)<0) then ((-1:Int)+(xs.length:Int)).toNat else min (-1:Int).toNat xs.length)=_
  rw[Zm (by decide)]
  omega
 rw[sIx_none,e,ZS (by rw[length_drop];exact Zz _)]
noncomputable def b_ar:CS :=
  (.seq (.ret (.cmp .eq (.sl (.var 0) (.neg (.con (.int 1))) .nil) (.tup (.cons (.glob 11) .nil))))
  .nil)
noncomputable def b_a8:CS :=
  (.seq (.ret (.or (.cmp .eq (.var 0) (.glob 12)) (.cmp .eq (.var 0) (.glob 13))))
  .nil)
noncomputable def b_aH:CS :=
  (.seq (.set 1 (.call 6 (.cons (.ix (.var 0) (.con (.int 0))) .nil)))
  (.seq (.set 2 (.ix (.var 0) (.con (.int 1))))
  (.seq (.set 3 (.ix (.var 0) (.con (.int 2))))
  (.seq (.set 4 (.ite (.call 17 (.cons (.var 3) .nil)) (.call 6 (.cons (.ix (.var 0) (.con (.int 3))) .nil)) (.ix (.var 0) (.con (.int 3)))))
  (.seq (.ret (.fstr [.var 1,.lit [32],.var 2,.lit [32],.var 3,.lit [32],.var 4]))
  .nil)))))
noncomputable def b_aj:CS :=
  (.seq (.set 1 (.call 6 (.cons (.ix (.var 0) (.con (.int 0))) .nil)))
  (.seq (.set 2 (.ix (.var 0) (.con (.int 1))))
  (.seq (.set 3 (.frz (.bin .addL (.lstz (.cons (.fstr [.lit [122,111,110,101,32],.var 1,.lit [32],.var 2]) .nil)) (.compz false [] (.ix (.var 0) (.con (.int 2))) .nil (.call 41 (.cons (.var 0) .nil))))))
  (.seq (.ret (.ms .join (.con (.str [10])) (.cons (.var 3) .nil)))
  .nil))))
noncomputable def b_a7:CS :=
  (.seq (.ite (.or (.cmp .eq (.ix (.var 0) (.con (.int 2))) (.glob 12)) (.cmp .eq (.ix (.var 1) (.con (.int 2))) (.glob 12)))
  (.seq (.ret (.con (.bl true)))
  .nil)
  .nil)
  (.seq (.ret (.and (.cmp .eq (.ix (.var 0) (.con (.int 2))) (.ix (.var 1) (.con (.int 2)))) (.or (.cmp .eq (.ix (.var 0) (.con (.int 2))) (.glob 13)) (.cmp .eq (.ix (.var 0) (.con (.int 3))) (.ix (.var 1) (.con (.int 3)))))))
  .nil))
noncomputable def b_ac:CS :=
  (.seq (.ret (.compz false [] (.ms .split (.var 0) (.cons (.con (.str [32])) .nil)) (.cmp .ne (.var 0) (.con (.str []))) (.var 0)))
  .nil)
noncomputable def b_aC:CS :=
  (.seq (.ite (.not (.isi .str (.var 0)))
  (.seq (.ret (.lstz .nil))
  .nil)
  .nil)
  (.seq (.set 1 (.compe [] (.ms .split (.var 0) (.cons (.con (.str [10])) .nil)) .nil (.tup (.cons (.var 0) (.cons (.ms .rstrip (.var 1) (.cons (.con (.str [32])) .nil)) .nil)))))
  (.seq (.ret (.compz false [] (.var 1) (.and (.cmp .ne (.ix (.var 0) (.con (.int 1))) (.con (.str []))) (.not (.ms .startswith (.ix (.var 0) (.con (.int 1))) (.cons (.con (.str [59])) .nil)))) (.var 0)))
  .nil)))
noncomputable def zbd:W:=[101,108,115,101]
noncomputable def rst(z:W):W:=zai false true [32] z
noncomputable def zab(z:W):Bool:=!(decide (z=[])) && !(decide (z.take 1=[59]))
noncomputable def za0(n:Nat):List W->List (Nat×W)
 | []=>[]
 | l::r=>if zab (rst l)=true then (n,rst l)::za0 (n+1) r else za0 (n+1) r
noncomputable def nl(p:Nat×W):D:=.tup [.int p.1,.str p.2]
noncomputable def numD(n:Nat):List W->List D
 | []=>[]
 | l::r=>.tup [.int n,.str (rst l)]::numD (n+1) r
noncomputable def cntD:D->Bool
 | .tup [_,.str z]=>zab z
 | _=>false
theorem Q1C:∀ (n:Nat) (ls:List W),(numD n ls).length=ls.length
 | _,[]=>rfl
 | n,_::r=>by show (numD (n+1) r).length+1=r.length+1;rw[Q1C]
theorem Q5r:∀ {ls:List W} {n i:Nat} {l:W},ls[i]? = some l->(numD n ls)[i]? = some (.tup [.int ((n+i:Nat):Int),.str (rst l)])
 | [],_,_,_,h=>by cases h
 | x::r,n,0,l,h=>by cases h;rfl
 | x::r,n,i+1,l,h=>by
  have:=Q5r (ls:=r) (n:=n+1) (i:=i) (l:=l) h;show (numD (n+1) r)[i]? = _;rw[this];congr 3;simp;omega
theorem Q9e(h:d∈numD n ls):∃ m l,l∈ls/\d=.tup [.int ((m:Nat):Int),.str (rst l)]:=by
 induction ls generalizing n with
 | nil=>cases h
 | cons x r ih =>
  rcases Zx.mp h with rfl | h
  ·exact⟨n,x,Zl,rfl⟩
  ·obtain⟨m,l,h1,h2⟩:=ih h;exact⟨m,l,Zo _ h1,h2⟩
theorem Q1o:∀ (ls:List W) (n:Nat),(numD n ls).filter cntD=(za0 n ls).map nl
 | [],_=>rfl
 | l::r,n=>by
  show ((.tup [.int n,.str (rst l)]::numD (n+1) r).filter cntD)=(if zab (rst l)=true then (n,rst l)::za0 (n+1) r else za0 (n+1) r).map nl
  rw[filter_cons,Q1o r (n+1)];show (if zab (rst l)=true then _ else _)=_
  by_cases h:zab (rst l)=true
  ·rw[Zm h,Zm h];rfl
  ·rw[Zj h,Zj h]
theorem Q1U{Cd:DH->Prop}{Q:List D->DH->Prop}(P:D->Bool)(hC:Cd M)(hl:items.length<=1000)
  (hc:∀ (d:D) (k:Bool->DH->Prop),d∈items->k (P d) M->tc (some d::fr) M k) (he:∀ (d:D) (k:D->DH->Prop),d∈items->k d M->te (some d::fr) M k) (hd:Q (items.filter P) M):zaw fr (fun d=>some [d]) tc te Cd Q items [] M:=by
 refine Q1a (fun i ys M'=>M'=M/\ys=(items.take i).filter P) ⟨rfl,by simp⟩ (fun i ys M' h=>by rw[h.1];exact hC) ?_ ?_
 ·rintro i d ys M' k e ⟨rfl,rfl⟩ hk;have hm:=Z0 e;have hi:=(Zv.mp e).1;simp only[Z8,map_nil,cons_append,nil_append];have e2:(items.take (i+1)).filter P=(items.take i).filter P++(if P d=true then [d] else []):=by
   rw[take_add_one,e,List.filter_append];congr 1;show [d].filter P=_;rw[filter_cons];rfl
  refine hc d _ hm ?_;by_cases h:P d=true
  ·rw[Zm h]at e2;rw[Zm h];refine he d _ hm ⟨small1000 (Z7 (List.length_filter_le _ _) (by rw[ZU];omega)),hk _ _ ⟨rfl,e2.symm⟩⟩
  ·rw[Zj h,append_nil]at e2;rw[Zj h];exact hk _ _ ⟨rfl,e2.symm⟩
 ·rintro ys M' ⟨rfl,rfl⟩;rw[take_length];exact hd
theorem Qcu(z:W):(rst z).length<=z.length:=by
 unfold rst zai;rw[ZU,length_drop];omega
theorem Q5s(h:w∈za1 c z):w.length<=z.length:=by
 obtain⟨e,_,_⟩:=Q0G c z;rw[<- e];clear e;generalize za1 c z=ws at h
 induction ws with
 | nil=>cases h
 | cons a r ih =>
  cases r with
  | nil=>rw[Zp.mp h];exact Zz _
  | cons b r =>
   show w.length<=(a++[c]++za4 [c] (b::r)).length;rw[Zd,Zd];rcases Zx.mp h with rfl | h
   ·omega
   ·have:=ih h;omega
noncomputable def za7(z:W):List W:=(za1 32 z).filter fun w=>!(decide (w=[]))
noncomputable def sp_ac:DSp:=fun ds M R=>∃ z:W,ds=[.str z]/\z.length<=900/\(za1 32 z).length<=1000/\R (.lst ((za7 z).map D.str)) M
theorem ok_ac:∀ ds M R,sp_ac ds M R->evS T b_ac (za6 R) (za5 ["a"] ds) M:=by
 rintro ds M R ⟨z,rfl,hz,hs,h⟩;simp only[b_ac];walk_at "ev"
 try simp only[zbl]
 refine⟨szL (by omega),?_⟩
 refine Q1U (fun d=>match d with | .str w=>!(decide (w=[])) | _=>false) trivial (by rw[Zi];exact hs) ?_ ?_ ?_
 ·intro d k hd hk;obtain⟨w,_,rfl⟩:=mem_map.mp hd;walk_at "ev";exact⟨rfl,rfl,hk⟩
 ·intro d k hd hk;walk_at "ev";exact hk
 ·have e:((za1 32 z).map D.str).filter (fun d=>match d with | .str w=>!(decide (w=[])) | _=>false)=(za7 z).map D.str:=by
   rw[List.filter_map];rfl
  rw[e];refine⟨szL (by rw[Zi];exact Z7 (List.length_filter_le _ _) hs),Q0b h⟩
noncomputable def sp_aC:DSp:=fun ds M R=>∃ z:W,ds=[.str z]/\z.length<=1000000/\(za1 10 z).length<=1000/\R (.lst ((za0 1 (za1 10 z)).map nl)) M
theorem ok_aC:∀ ds M R,sp_aC ds M R->evS T b_aC (za6 R) (za5 ["a","b"] ds) M:=by
 rintro ds M R ⟨z,rfl,hz,hs,h⟩;simp only[b_aC];walk_at "q1";simp only[tyD,Ty.sub];refine iteF ?_;rw[e1];clear e1;walk_at "q1"
 try simp only[zbl]
 refine⟨by rw[sizeLine_eq];omega,?_⟩
 have sw:∀ l∈za1 10 z,l.length<=sizeLine:=fun l hl=>by have:=Q5s hl;rw[sizeLine_eq];omega
 refine Q1a (fun i ys M'=>M'=M/\ys=(numD 1 (za1 10 z)).take i) ⟨rfl,by simp⟩ (fun _ _ _ _=>trivial) ?_ ?_
 ·rintro i d ys M' k hd ⟨rfl,rfl⟩ hk;have hi:=(Zv.mp hd).1;rw[Q1w,Zi]at hi;have el:(za1 10 z)[i]? = some (za1 10 z)[i]:=Zq hi;have e2:=Q4b (ds:=(za1 10 z).map D.str) (i:=i) (d:=.str (za1 10 z)[i]) (by rw[ZC,el];rfl)
  rw[hd]at e2;cases e2;have e3:=Q5r (n:=1) el;simp only[zaI,zbh]
  try walk_at "ev"
  refine⟨sw _ (Z0 el),szL (by decide),small1000 (by rw[ZU];omega),hk _ _ ⟨rfl,?_⟩⟩
  rw[take_add_one,e3];show _=_++[_];congr 3
 ·rintro ys M' ⟨rfl,rfl⟩;have e0:(numD 1 (za1 10 z)).take (zb3 ((za1 10 z).map D.str)).length=numD 1 (za1 10 z):=ZS (by rw[Q1C,Q1w,Zi];exact Zz _)
  rw[e0];refine⟨szL (by rw[Q1C];exact hs),?_⟩
  rw[e1];clear e1;walk_at "ev";refine Q1U cntD trivial (by rw[Q1C];exact hs) ?_ ?_ ?_
  ·intro d k hd hk;obtain⟨m,l,_,rfl⟩:=Q9e hd;walk_at "ev";refine ix_tup (by decide) (by simp only[Zk,Zu];omega) fun d hd=>?_
   cases hd
   try walk_at "ev"
   refine⟨rfl,rfl,?_⟩;have hk:k (!(decide (rst l=[])) && !(decide ((rst l).take 1=[59]))) M':=hk;by_cases q:rst l=[]
   ·simp only[Ze q]at hk ⊢;exact hk
   ·simp only[Zg q]at hk ⊢;refine iteT (ix_tup (by decide) (by simp only[Zk,Zu];omega) fun d hd=>?_)
    cases hd
    try walk_at "ev"
    exact hk
  ·intro d k hd hk;walk_at "ev";exact hk
  ·rw[Q1o];exact⟨szL (by
    have:=List.length_filter_le cntD (numD 1 (za1 10 z));rw[Q1o,Q1C]at this;omega),Q0b h⟩
noncomputable instance (k:W):Decidable (IsN k):=by unfold IsN;infer_instance
noncomputable def sp_a8:DSp:=fun ds M R=>∃ k:W,ds=[.str k]/\R (.bl (decide (IsN k))) M
theorem ok_a8(T:Tab)(c12:T.con 12=some (("ELSE" : Str),D.str zbd))(c13:T.con 13=some (("DOWN" : Str),D.str zaL)):∀ ds M R,sp_a8 ds M R->evS T b_a8 (za6 R) (za5 ["a"] ds) M:=by
 rintro ds M R ⟨k,rfl,h⟩;simp only[b_a8];walk_at "ev";simp only[c12,c13];walk_at "ev";refine⟨rfl,rfl,?_⟩;by_cases q:k=zbd
 ·have e:decide (IsN k)=true:=Ze (.inr q);rw[e]at h;simp only[Ze q];exact Q0b h
 ·simp only[Zg q];refine⟨rfl,rfl,Q0b ?_⟩;have e:decide (IsN k)=decide (k=zaL):=by
   by_cases q2:k=zaL
   ·rw[Ze q2,Ze (show IsN k from .inl q2)]
   ·rw[Zg q2,Zg (show ¬ IsN k from fun z=>z.elim q2 q)]
  rw[e]at h;exact h
noncomputable def ValT(top:List W)(k v:W)(x:D):Prop:=(IsN k/\∃ b,Reads false top v b/\b.length<=10/\x=dn b)\/(¬ IsN k/\valB v=true/\x=.str v)
theorem ix_lo{xs:List D}{d0:D}{i:Nat}{M:DH}{Q:DK}{d:D}(e:zar M d0=some xs)(h:xs[i]? = some d)(k:Q d M):rIxD d0 (.int i) M Q:=by
 have hi:=(Zv.mp h).1;have go:∀ d',xs[((i:Nat):Int).toNat]? = some d'->Q d' M:=fun d' e'=>by
  rw[ZO,h]at e';cases e';exact k
 cases d0 with
 | lst ys=>cases e;exact Q1b (by omega) (by omega) go
 | ref a =>
  cases ea:M a with
  | none=>simp[zar,ea]at e
  | some o =>
   cases o with
   | oth _=>simp[zar,ea]at e
   | lst ys =>
    simp[zar,ea]at e;subst e;exact Q9M ea (by omega) (by omega) go
 | _=>cases e
theorem Q2I(ha:M a=some (.lst xs))(e:xs[xs.length-1]? = some d)(h:Q d M):rIxD (.ref a) (.int (-1)) M Q:=by
 show (match M a with | some (.lst xs)=>(match atI xs (-1) with | some c=>Q c M | none=>False) | _=>False)
 rw[ha];show (match atI xs (-1) with | some c=>Q c M | none=>False)
 rw[atI_last (by intro z;subst z;cases e),e]
 exact h
noncomputable def RestT(top:List W)(l k v:W)(x:Rw):Prop:=zaJ l/\x.l=(NumText.digitsVal l:Nat)/\zaX k=true/\x.k=k/\ValT top k v x.v
noncomputable def RowT(top:List W)(rows:List Rw)(z:W)(x:Rw):Prop :=
 (z.take 1≠[32]/\∃ nm l k v,za7 z=[nm,l,k,v]/\Reads true top nm x.n/\RestT top l k v x) \/
 (z.take 1=[32]/\∃ l k v y,za7 z=[l,k,v]/\rows[rows.length-1]? = some y/\x.n=y.n/\RestT top l k v x)
structure zbL(z:W):Prop where
 a:z.length<=900
 b:(za1 32 z).length<=1000
theorem Q5t(h:w∈za7 z):w.length<=z.length:=Q5s (mem_filter.mp h).1
theorem Rw.eta{x:Rw}{n:List W}{l:Int}{k:W}{v:D}(h1:x.n=n)(h2:x.l=l)(h3:x.k=k)(h4:x.v=v):(⟨n,l,k,v⟩:Rw)=x:=by subst h1 h2 h3 h4;rfl
noncomputable def HeadT(z:W)(top:List W)(life:Int):Prop:=z.take 1≠[32]/\∃ t l,za7 z=[[122,111,110,101],t,l]/\(∃ u,t=u++[46])/\Reads false [] t top/\zaJ l/\life=(NumText.digitsVal l:Nat)
noncomputable def sp_ar:DSp:=fun ds M R=>∃ n:List W,ds=[dn n]/\R (.bl (decide (n.drop (n.length-1)=[[42]]))) M
theorem ok_ar(T:Tab)(h11:T.con 11=some (("STAR" : Str),D.str [42])):∀ ds M R,sp_ar ds M R->evS T b_ar (za6 R) (za5 ["name"] ds) M:=by
 rintro ds M R ⟨n,rfl,h⟩;simp only[b_ar,dn];walk_at "ev";simp only[h11];walk_at "ev";have e:([D.str [42]]:List D)=([[42]]:List W).map D.str:=rfl;rw[e];simp only[Q5q,Zi,<- map_drop,Q1c];exact⟨szL (by decide),Q0d _,Q0d _,Q0b h⟩
noncomputable def zam(top:List W)(x:Rw):Prop:=x.k=zaL/\(x.n=top\/x.n.drop (x.n.length-1)=[[42]])
noncomputable def zah(x y:Rw):Bool:=decide (x.k=zbd)||decide (y.k=zbd)||(decide (x.k=y.k)&&(decide (x.k=zaL)||eqB x.v y.v))
structure PvR(x:Rw):Prop where
 pv:(IsN x.k/\∃ b:List W,x.v=dn b)\/(¬ IsN x.k/\∃ w:W,x.v=.str w)
theorem PvR.plain(h:PvR x)(M:DH):DL.plain 12 (res M x.v)=true/\res M x.v=x.v:=by
 rcases h.pv with ⟨_,b,e⟩ | ⟨_,w,e⟩ <;> rw[e]
 ·exact⟨Q0H 10 b,rfl⟩
 ·exact⟨rfl,rfl⟩
theorem PvR.nb(h:PvR x)(b:Bool):x.v≠.bl b:=by
 rcases h.pv with ⟨_,c,e⟩ | ⟨_,w,e⟩ <;> rw[e] <;> exact fun z=>nomatch z
theorem Qcv(hx:PvR x)(hy:PvR y)(h:Q (.bl (eqB x.v y.v)) M):rEqN id x.v y.v M Q:=by
 have px:=hx.plain M;have py:=hy.plain M;unfold rEqN;split
 ·rename_i a b e1 e2;exact absurd e1 (hx.nb a)
 ·rw[px.2,py.2]at *;exact⟨px.1,py.1,h⟩
noncomputable def sp_a7:DSp:=fun ds M R=>∃ x y:Rw,ds=[x.d,y.d]/\PvR x/\PvR y/\R (.bl (zah x y)) M
theorem ok_a7(T:Tab)(c13:T.con 13=some (("DOWN" : Str),D.str zaL))(c12:T.con 12=some (("ELSE" : Str),D.str zbd)):∀ ds M R,sp_a7 ds M R->evS T b_a7 (za6 R) (za5 ["a","b"] ds) M:=by
 rintro ds M R ⟨x,y,rfl,hx,hy,h⟩;have key:∀ b,b=zah x y->∃ M0,Sub M0 M/\R (.bl b) M0:=fun b e=>Q0b (by rw[e];exact h)
 simp only[b_a7,Rw.d];walk_at "q1";simp only[c12];walk_at "ev";walk_at "q0"
 try walk_at "ev"
 refine⟨rfl,rfl,ite2 (fun q=>key _ (by unfold zah;rw[q];rfl)) fun q1=>?_⟩
 walk_at "q0"
 try walk_at "ev"
 refine⟨rfl,rfl,ite2 (fun q=>key _ (by unfold zah;rw[q,Bool.or_true];rfl)) fun q2=>?_⟩
 have e0:zah x y=(decide (x.k=y.k)&&(decide (x.k=zaL)||eqB x.v y.v)):=by
  unfold zah;rw[eq_false_of_ne_true q1,eq_false_of_ne_true q2];rfl
 rw[e0]at key;rw[e1];clear e1;walk_at "ev";simp only[c13];walk_at "ev";walk_at "q0";walk_at "q0"
 try walk_at "ev"
 refine⟨rfl,rfl,ite2 (fun q3=>?_) fun q3=>key _ (by rw[eq_false_of_ne_true q3];rfl)⟩
 rw[q3]at key;walk_at "q0"
 try walk_at "ev"
 refine⟨rfl,rfl,ite2 (fun q4=>key _ (by rw[q4];rfl)) fun q4=>?_⟩
 rw[eq_false_of_ne_true q4]at key;walk_at "q0";walk_at "q0";exact Qcv (Q:=fun d M'=>∃ M0,Sub M0 M'/\R d M0) hx hy (key _ (by rw[Bool.true_and,Bool.false_or]))
inductive zbQ(top:List W):List Rw->List (Nat×W)->List Rw->Prop
 | nil {rows:List Rw}:zbQ top rows [] rows
 | cons {rows out:List Rw} {n:Nat} {z:W} {r:List (Nat×W)} {x:Rw}:zbL z->RowT top rows z x->RowOk top x->x.n.length<=10->¬ zam top x->(∀ y∈rows,y.n=x.n->zah x y=false)->zbQ top (rows++[x]) r out->zbQ top rows ((n,z)::r) out
theorem Q7H:∀ (ls:List W) (n:Nat),(za0 n ls).length<=ls.length
 | [],_=>Zz _
 | l::r,n=>by
  have:=Q7H r (n+1);show (if zab (rst l)=true then (n,rst l)::za0 (n+1) r else za0 (n+1) r).length<=r.length+1
  split
  ·rw[Zk];omega
  ·omega
theorem Q7I(ls:List (Nat×W)):plain 12 (.lst (ls.map nl))=true:=by
 show (ls.map nl).all (plain 11)=true;rw[Z5];intro d hd;obtain⟨x,_,rfl⟩:=mem_map.mp hd;rfl
theorem Q5u(h:M p=none):ddel (dupd M p u) p=M:=by
 funext c
 unfold ddel dupd;by_cases e:c=p
 ·rw[Zm e,e,h]
 ·rw[Zj e,Zj e]
noncomputable def unW:D->W
 | .str w=>w
 | _=>[]
theorem Q7J(a:List W):(a.map D.str).map unW=a:=by rw[map_map];exact map_id _
noncomputable def valW:D->W
 | .tup ds=>zad (ds.map unW)
 | .str w=>w
 | _=>[]
theorem Q4I(b:List W):valW (dn b)=zad b:=by show zad ((b.map D.str).map unW)=_;rw[Q7J]
noncomputable def rowW(x:Rw):W:=zad x.n++[32]++digs x.l.toNat++[32]++x.k++[32]++valW x.v
noncomputable def zas(top:List W)(life:Int):W:=[122,111,110,101,32]++zad top++[32]++digs life.toNat
noncomputable def zoneW(top:List W)(life:Int)(rows:List Rw):W:=za4 [10] (zas top life::rows.map rowW)
structure RowS(x:Rw):Prop where
 n:zc6 x.n/\(zad x.n).length<=200
 l:0<=x.l/\x.l<1000000000
 k:x.k.length<=100
 v:(IsN x.k/\∃ b:List W,x.v=dn b/\zc6 b/\(zad b).length<=200)\/(¬ IsN x.k/\∃ w:W,x.v=.str w/\w.length<=100)
theorem digs9{l:Int}(h:0<=l/\l<1000000000):(digs l.toNat).length<=9:=Q5p (by decide) (by have:(10:Nat) ^ 9=1000000000:=(by decide);omega)
theorem logS{l:Int}(h:0<=l/\l<1000000000):l.natAbs.log2<1920:=by
 obtain⟨n,rfl⟩:=Z2 h.1;exact Qct (Zr (show n<1000000000 by omega) (by decide))
theorem RowS.valLe(h:RowS x):(valW x.v).length<=200:=by
 rcases h.v with ⟨_,b,e,_,hb⟩ | ⟨_,w,e,hw⟩ <;> rw[e]
 ·rw[Q4I];exact hb
 ·show w.length<=200;omega
theorem RowS.le{x:Rw}(h:RowS x):(rowW x).length<=600:=by
 have:=h.valLe;have:=h.n.2;have:=digs9 h.l;have:=h.k;unfold rowW;simp only[Zd,Zk,Zu];omega
noncomputable def sp_aH:DSp:=fun ds M R=>∃ x:Rw,ds=[x.d]/\RowS x/\R (.str (rowW x)) M
theorem ok_aH(T:Tab)(h17:T.fn 17=some ⟨"names_a_name",1,[],sp_a8⟩)(h6:T.fn 6=some ⟨"show_name",1,[],sp_ab⟩):∀ ds M R,sp_aH ds M R->evS T b_aH (za6 R) (za5 ["a","b","c","d","e"] ds) M:=by
 rintro ds M R ⟨x,rfl,hx,h⟩;have t1:=hx.n.2;have t2:=digs9 hx.l;have t3:=hx.k;have t4:=hx.valLe;simp only[b_aH,Rw.d];walk_at "q1";simp only[h6];walk_at "ev";walk_at "q0";refine⟨x.n,rfl,hx.n.1,?_⟩;rw[e1];clear e1;walk_at "q1";walk_at "q0";rw[e1];clear e1;walk_at "q1";walk_at "q0";rw[e1];clear e1;refine Q0a fun k1 e1=>?_;have last:k1 [some x.d,some (.str (zad x.n)),some (.int x.l),some (.str x.k),some (.str (valW x.v))] M:=by
  rw[e1];walk_at "ev"
  try simp only[Z8,map_nil,FP.d,zb7,dFmt]
  try walk_at "ev"
  have sl:∀ n,n<=1000->n<=sizeLine:=fun n h=>szL h;refine⟨sl _ (by omega),_,rfl,sl _ (by omega),_,rfl,sl _ ?_,hx.l.1,logS hx.l,_,rfl,sl _ ?_,_,rfl,sl _ ?_,sl _ (by omega),_,rfl,sl _ ?_,_,rfl,sl _ ?_,sl _ (by omega),_,rfl,sl _ ?_,Q0b h⟩ <;> simp only[Zd,Zk,Zu] <;> omega
 clear e1;unfold Rw.d at last;walk_at "ev";simp only[h17,h6];walk_at "ev";refine⟨x.k,rfl,?_⟩;rcases hx.v with ⟨q,b,e,hb,_⟩ | ⟨q,w,e,_⟩
 ·simp only[Ze q,if_true];walk_at "q0";rw[e]at last ⊢;refine⟨b,rfl,hb,?_⟩;rw[Q4I]at last;exact last
 ·simp only[Zg q,ZT,Yj];walk_at "q0";rw[e]at last ⊢;exact last
theorem Q3u{top:List W}{life:Int}(ht:(zad top).length<=200)(hl:0<=life/\life<1000000000):(zas top life).length<=600:=by
 have:=digs9 hl;unfold zas;simp only[Zd,Zk,Zu];omega
noncomputable def sp_aj:DSp:=fun ds M R=>∃ (top:List W) (life:Int) (rows:List Rw),ds=[zD top life rows]/\zc6 top/\(zad top).length<=200/\(0<=life/\life<1000000000)/\rows.length<=300/\(∀ x∈rows,RowS x)/\R (.str (zoneW top life rows)) M
noncomputable def rowD:D->D
 | .tup [.tup n,.int l,.str k,v]=>.str (rowW ⟨n.map unW,l,k,v⟩)
 | _=>.non
theorem Q9N(x:Rw):rowD x.d=.str (rowW x):=by
 show D.str (rowW ⟨(x.n.map D.str).map unW,x.l,x.k,x.v⟩)=_;rw[Q7J]
theorem ok_aj(T:Tab)(h41:T.fn 41=some ⟨"show_row",1,[],sp_aH⟩)(h6:T.fn 6=some ⟨"show_name",1,[],sp_ab⟩):∀ ds M R,sp_aj ds M R->evS T b_aj (za6 R) (za5 ["a","b","c","d"] ds) M:=by
 rintro ds M R ⟨top,life,rows,rfl,ht,htl,hl,hrl,hr,h⟩;have t2:=digs9 hl;have sl:∀ n,n<=1000->n<=sizeLine:=fun n h=>szL h;simp only[b_aj,zD];walk_at "q1";simp only[h6];walk_at "ev";walk_at "q0";refine⟨top,rfl,ht,?_⟩;rw[e1];clear e1;walk_at "q1";walk_at "q0";rw[e1];clear e1;walk_at "q1";simp only[h41,dFrz]
 try walk_at "ev"
 try simp only[Z8,map_nil,FP.d,zb7,dFmt]
 try walk_at "ev"
 refine⟨_,rfl,sl _ ?_,sl _ (by omega),_,rfl,sl _ ?_,_,rfl,sl _ ?_,hl.1,logS hl,_,rfl,sl _ ?_,szL (by decide),?_⟩
 ·simp only[Zd,Zk,Zu];omega
 ·simp only[Zd,Zk,Zu];omega
 ·simp only[Zd,Zk,Zu];omega
 ·simp only[Zd,Zk,Zu];omega
 walk_at "q0"
 try walk_at "ev"
 refine Q4c rowD trivial (by rw[Zi];omega) ?_ ?_
 ·intro d k hd hk;obtain⟨x,hx,rfl⟩:=mem_map.mp hd;walk_at "ev";rw[Q9N]at hk;exact⟨x,rfl,hr x hx,hk⟩
 have e3:(rows.map Rw.d).map rowD=(rows.map rowW).map D.str:=by
  rw[map_map,map_map];exact map_congr_left fun x _=>Q9N x
 rw[e3];refine⟨szL (by simp only[Zi];omega),_,_,rfl,rfl,szL (by simp only[Zi,Zk,Zu];omega),fun p hp=>?_⟩
 simp only[Q0e,Q5u hp];rw[e1];clear e1;walk_at "ev";refine⟨zas top life::rows.map rowW,rfl,(fun _ z=>D.noConfusion z),?_,Q0b h⟩;have:=Q1A (s:=[10]) (K:=600) (zas top life::rows.map rowW) 0 fun w hw=>by
  rcases Zx.mp hw with rfl | hw
  ·exact Q3u htl hl
  ·obtain⟨x,hx,rfl⟩:=mem_map.mp hw;exact (hr x hx).le
 refine Z7 (show weight [10] _<=_ from this) ?_;simp only[Zk,Zu,Zi];omega
noncomputable def b_ah:CS :=
  (.seq (.for1 3 (.var 2)
  (.seq (.ite (.and (.cmp .eq (.ix (.var 3) (.con (.int 0))) (.ix (.var 1) (.con (.int 0)))) (.call 53 (.cons (.var 1) (.cons (.var 3) .nil))))
  (.seq (.raisr 5 (.cons (.var 0) .nil))
  .nil)
  .nil)
  .nil))
  .nil)
noncomputable def b_at:CS :=
  (.seq (.ite (.and (.cmp .eq (.ix (.var 1) (.con (.int 2))) (.glob 13)) (.or (.cmp .eq (.ix (.var 1) (.con (.int 0))) (.var 2)) (.call 5 (.cons (.ix (.var 1) (.con (.int 0))) .nil))))
  (.seq (.raisr 4 (.cons (.var 0) .nil))
  .nil)
  .nil)
  .nil)
noncomputable def b_a2:CS :=
  (.seq (.tryx 7 (.cons (.var 1) (.cons (.var 2) (.cons (.var 3) .nil))) 0 2 0)
  .nil)
noncomputable def b_aA:CS :=
  (.seq (.ite (.call 17 (.cons (.var 1) .nil))
  (.seq (.ret (.callx 48 (.cons (.var 0) (.cons (.var 2) (.cons (.var 3) (.cons (.con (.bl false)) .nil))))))
  .nil)
  .nil)
  (.seq (.ite (.not (.call 12 (.cons (.var 2) .nil)))
  (.seq (.raisr 1 (.cons (.var 0) .nil))
  .nil)
  .nil)
  (.seq (.ret (.var 2))
  .nil)))
noncomputable def b_a6:CS :=
  (.seq (.set 2 (.call 14 (.cons (.var 1) .nil)))
  (.seq (.ite (.cmp .isN (.var 2) (.con .non))
  (.seq (.raisr 1 (.cons (.var 0) .nil))
  .nil)
  .nil)
  (.seq (.ret (.var 2))
  .nil)))
noncomputable def b_aB:CS :=
  (.seq (.set 4 (.callx 49 (.cons (.var 0) (.cons (.ix (.var 2) (.con (.int 0))) .nil))))
  (.seq (.set 5 (.ix (.var 2) (.con (.int 1))))
  (.seq (.ite (.not (.call 11 (.cons (.var 5) .nil)))
  (.seq (.raisr 1 (.cons (.var 0) .nil))
  .nil)
  .nil)
  (.seq (.ret (.tup (.cons (.var 1) (.cons (.var 4) (.cons (.var 5) (.cons (.callx 50 (.cons (.var 0) (.cons (.var 5) (.cons (.ix (.var 2) (.con (.int 2))) (.cons (.var 3) .nil))))) .nil))))))
  .nil))))
noncomputable def b_ai:CS :=
  (.seq (.set 4 (.call 44 (.cons (.var 1) .nil)))
  (.seq (.ite (.ms .startswith (.var 1) (.cons (.con (.str [32])) .nil))
  (.seq (.ite (.or (.cmp .ne (.blt .len (.cons (.var 4) .nil)) (.con (.int 3))) (.cmp .eq (.var 3) (.lstz .nil)))
  (.seq (.raisr 1 (.cons (.var 0) .nil))
  .nil)
  .nil)
  (.seq (.ret (.callx 47 (.cons (.var 0) (.cons (.ix (.ix (.var 3) (.neg (.con (.int 1)))) (.con (.int 0))) (.cons (.var 4) (.cons (.var 2) .nil))))))
  .nil))
  .nil)
  (.seq (.ite (.cmp .ne (.blt .len (.cons (.var 4) .nil)) (.con (.int 4)))
  (.seq (.raisr 1 (.cons (.var 0) .nil))
  .nil)
  .nil)
  (.seq (.set 5 (.callx 48 (.cons (.var 0) (.cons (.ix (.var 4) (.con (.int 0))) (.cons (.var 2) (.cons (.con (.bl true)) .nil))))))
  (.seq (.ite (.not (.call 1 (.cons (.var 5) (.cons (.var 2) .nil))))
  (.seq (.raisr 3 (.cons (.var 0) .nil))
  .nil)
  .nil)
  (.seq (.ret (.callx 47 (.cons (.var 0) (.cons (.var 5) (.cons (.sl (.var 4) (.con (.int 1)) .nil) (.cons (.var 2) .nil))))))
  .nil))))))
noncomputable def b_ao:CS :=
  (.seq (.set 2 (.call 44 (.cons (.var 1) .nil)))
  (.seq (.ite (.or (.ms .startswith (.var 1) (.cons (.con (.str [32])) .nil)) (.or (.cmp .ne (.blt .len (.cons (.var 2) .nil)) (.con (.int 3))) (.cmp .ne (.ix (.var 2) (.con (.int 0))) (.con (.str [122,111,110,101])))))
  (.seq (.raisr 1 (.cons (.var 0) .nil))
  .nil)
  .nil)
  (.seq (.ite (.not (.ms .endswith (.ix (.var 2) (.con (.int 1))) (.cons (.con (.str [46])) .nil)))
  (.seq (.raisr 2 (.cons (.var 0) .nil))
  .nil)
  .nil)
  (.seq (.set 3 (.callx 48 (.cons (.var 0) (.cons (.ix (.var 2) (.con (.int 1))) (.cons (.tup .nil) (.cons (.con (.bl false)) .nil))))))
  (.seq (.ret (.tup (.cons (.var 3) (.cons (.callx 49 (.cons (.var 0) (.cons (.ix (.var 2) (.con (.int 2))) .nil))) .nil))))
  .nil)))))
noncomputable def b_a4:CS :=
  (.seq (.set 1 (.call 43 (.cons (.var 0) .nil)))
  (.seq (.ite (.cmp .eq (.var 1) (.lstz .nil))
  (.seq (.raisr 1 (.cons (.con (.int 0)) .nil))
  .nil)
  .nil)
  (.seq (.set 2 (.callx 45 (.cons (.ix (.ix (.var 1) (.con (.int 0))) (.con (.int 0))) (.cons (.ix (.ix (.var 1) (.con (.int 0))) (.con (.int 1))) .nil))))
  (.seq (.set 3 (.ix (.var 2) (.con (.int 0))))
  (.seq (.set 4 (.lst .nil))
  (.seq (.for2 5 6 (.sl (.var 1) (.con (.int 1)) .nil)
  (.seq (.set 7 (.callx 46 (.cons (.var 5) (.cons (.var 6) (.cons (.var 3) (.cons (.var 4) .nil))))))
  (.seq (.ex (.callx 51 (.cons (.var 5) (.cons (.var 7) (.cons (.var 3) .nil)))))
  (.seq (.ex (.callx 52 (.cons (.var 5) (.cons (.var 7) (.cons (.var 4) .nil)))))
  (.seq (.ex (.ml .append (.var 4) (.cons (.var 7) .nil)))
  .nil)))))
  (.seq (.ret (.tup (.cons (.var 3) (.cons (.ix (.var 2) (.con (.int 1))) (.cons (.var 4) .nil)))))
  .nil)))))))
open Classical in
noncomputable def zak(st:Bool)(top:List W)(z:W):Option (List W):=if h:∃ a,Told st top z a/\a.length<=10 then some h.choose else none
theorem Q0F{st:Bool}{top a:List W}{z:W}(h:Told st top z a)(hl:a.length<=10):zak st top z=some a:=by
 have q:∃ a,Told st top z a/\a.length<=10:=⟨a,h,hl⟩;unfold zak;rw[dif_pos q,Q3t q.choose_spec.1 h]
theorem Q1i{st:Bool}{top:List W}{z:W}(h:∀ a,Told st top z a->¬ a.length<=10):zak st top z=none:=by
 unfold zak;rw[dif_neg fun⟨a,q1,q2⟩=>h a q1 q2]
theorem Q3b{st:Bool}{top a:List W}{z:W}(h:zak st top z=some a):Told st top z a/\a.length<=10:=by
 unfold zak at h;split at h
 ·rename_i q;cases h;exact q.choose_spec
 ·cases h
noncomputable def rc(c n:Nat):Nat:=c+64 * (n+1)
noncomputable def zaK(z:W):Option Nat:=if zaJ z then some (NumText.digitsVal z) else none
theorem Qb7(z:W):zbv z=match zaK z with | some l=>.int (l:Nat) | none=>.non:=by
 unfold zbv zaK;split <;> rfl
noncomputable def sp_a2:DSpX:=fun ds M R RX=>∃ (n:Nat) (z:W) (top:List W) (st:Bool),ds=[.int n,.str z,dn top,.bl st]/\rowB n/\z.length<=800/\top.length<=100/\match zak st top z with
 | some a=>R (dn a) M
 | none=>RX (rc 2 n) M
theorem ok_a2(T:Tab)(h7:T.fx 7=some ⟨"read_name",3,[.non,.bl false],sp_a5⟩):∀ ds M R RX,sp_a2 ds M R RX->evS { T with xd:=endX RX } b_a2 (za6 R) (za5 ["a","b","c","d"] ds) M:=by
 rintro ds M R RX ⟨n,z,top,st,rfl,hn,hz,ht,h⟩;simp only[b_a2];walk_at "ev";simp only[h7];walk_at "ev";refine⟨z,dn top,top,st,rfl,.inl rfl,hz,ht,fun a q1 q2=>?_,fun q=>?_⟩
 ·rw[Q0F q1 q2]at h;exact Q0b h
 ·rw[Q1i q]at h;exact⟨rfl,n,rfl,hn,Q0g h (Sub.refl M)⟩
noncomputable def sp_a6:DSpX:=fun ds M R RX=>∃ (n:Nat) (z:W),ds=[.int n,.str z]/\rowB n/\z.length<=1000/\match zaK z with
 | some l=>R (.int (l:Nat)) M
 | none=>RX (rc 1 n) M
theorem ok_a6(T:Tab)(h14:T.fn 14=some ⟨"read_life",1,[],sp_aw⟩):∀ ds M R RX,sp_a6 ds M R RX->evS { T with xd:=endX RX } b_a6 (za6 R) (za5 ["a","b","c"] ds) M:=by
 rintro ds M R RX ⟨n,z,rfl,hn,hz,h⟩;simp only[b_a6];walk_at "q1";simp only[h14];walk_at "ev";refine⟨z,rfl,hz,?_⟩;rw[Qb7,e1];clear e1;cases q:zaK z with
 | some l =>
  rw[q]at h;walk_at "ev";exact Q0b h
 | none =>
  rw[q]at h;walk_at "ev";exact⟨n,rfl,hn,Q0g h (Sub.refl M)⟩
noncomputable def zaA(top:List W)(k v:W):Except Nat D:=if IsN k then (match zak false top v with | some a=>.ok (dn a) | none=>.error 2) else if valB v=true then .ok (.str v) else .error 1
noncomputable def sp_aA:DSpX:=fun ds M R RX=>∃ (n:Nat) (k v:W) (top:List W),ds=[.int n,.str k,.str v,dn top]/\rowB n/\v.length<=800/\top.length<=100/\match zaA top k v with
 | .ok x=>R x M
 | .error c=>RX (rc c n) M
theorem ok_aA(T:Tab)(h12:T.fn 12=some ⟨"is_value",1,[],sp_aG⟩)(h17:T.fn 17=some ⟨"names_a_name",1,[],sp_a8⟩)(h48:T.fx 48=some ⟨"read_name_at",4,[],sp_a2⟩) :
  ∀ ds M R RX,sp_aA ds M R RX->evS { T with xd:=endX RX } b_aA (za6 R) (za5 ["a","b","c","d"] ds) M:=by
 rintro ds M R RX ⟨n,k,v,top,rfl,hn,hv,ht,h⟩;unfold zaA at h;simp only[b_aA];walk_at "q1";simp only[h17,h48];walk_at "ev";refine⟨k,rfl,?_⟩;by_cases q:IsN k
 ·rw[Zm q]at h;simp only[Ze q];refine⟨n,v,top,false,rfl,hn,hv,ht,?_⟩;cases e:zak false top v with
  | some a=>rw[e]at h;exact Q0b h
  | none=>rw[e]at h;exact Q0g h (Sub.refl M)
 ·rw[Zj q]at h;simp only[Zg q];rw[e1];clear e1;walk_at "q1";simp only[h12];walk_at "ev";refine⟨v,rfl,by omega,?_⟩
  cases e:valB v with
  | true =>
   rw[e,Zm rfl]at h;rw[e1];clear e1;walk_at "ev";exact Q0b h
  | false =>
   rw[e,Zj (by decide)]at h
   walk_at "ev";exact⟨n,rfl,hn,Q0g h (Sub.refl M)⟩
noncomputable def zaa(a top:List W)(l k v:W):Except Nat Rw:=match zaK l with
 | none=>.error 1
 | some m=>if zaX k=true then (match zaA top k v with | .ok x=>.ok ⟨a,(m:Nat),k,x⟩ | .error c=>.error c) else .error 1
noncomputable def sp_aB:DSpX:=fun ds M R RX=>∃ (n:Nat) (a:List W) (d0:D) (top:List W) (l k v:W),ds=[.int n,dn a,d0,dn top]/\zar M d0=some [.str l,.str k,.str v]/\rowB n/\l.length<=800/\k.length<=800/\v.length<=800/\top.length<=100/\match zaa a top l k v with
 | .ok x=>R x.d M
 | .error c=>RX (rc c n) M
theorem ok_aB(T:Tab)(h50:T.fx 50=some ⟨"read_value_at",4,[],sp_aA⟩)(h11:T.fn 11=some ⟨"is_kind",1,[],sp_ag⟩)(h49:T.fx 49=some ⟨"read_life_at",2,[],sp_a6⟩) :
  ∀ ds M R RX,sp_aB ds M R RX->evS { T with xd:=endX RX } b_aB (za6 R) (za5 ["a","b","c","d","e","f"] ds) M:=by
 rintro ds M R RX ⟨n,a,d0,top,l,k,v,rfl,hd,hn,hl,hk,hv,ht,h⟩;unfold zaa at h;simp only[b_aB];walk_at "q1";simp only[h49];walk_at "ev";refine ix_lo (i:=0) hd rfl ⟨n,l,rfl,hn,by omega,?_⟩
 cases q:zaK l with
 | none=>rw[q]at h;exact Q0g h (Sub.refl M)
 | some m =>
  rw[q]at h;dsimp only at h ⊢;rw[e1];clear e1;walk_at "q1";refine ix_lo (i:=1) hd rfl ?_;rw[e1];clear e1;walk_at "q1";simp only[h11];walk_at "ev";refine⟨k,rfl,by omega,?_⟩
  cases e:zaX k with
  | false =>
   rw[e,Zj (by decide)]at h
   walk_at "ev";exact⟨n,rfl,hn,Q0g h (Sub.refl M)⟩
  | true =>
   rw[e,Zm rfl]at h;rw[e1];clear e1;walk_at "ev";simp only[h50];walk_at "ev";refine ix_lo (i:=2) hd rfl ⟨n,k,v,top,rfl,hn,hv,ht,?_⟩;cases e2:zaA top k v with
   | ok x=>rw[e2]at h;exact⟨szL (by first | decide | omega),Q0b h⟩
   | error c=>rw[e2]at h;exact Q0g h (Sub.refl M)
noncomputable def zaF(top:List W)(rows:List Rw)(z:W):Except Nat Rw:=match decide (z.take 1=[32]),za7 z with
 | true,[l,k,v]=>(match rows.getLast? with | none=>.error 1 | some y=>zaa y.n top l k v)
 | false,[nm,l,k,v]=>(match zak true top nm with | none=>.error 2 | some a=>if a.take top.length=top then zaa a top l k v else .error 3)
 | _,_=>.error 1
theorem Q9f(h:zaA top k v=.ok x):(IsN k/\∃ b:List W,x=dn b)\/(¬ IsN k/\∃ w:W,x=.str w):=by
 unfold zaA at h;split at h
 ·rename_i q;split at h
  ·cases h;exact .inl ⟨q,_,rfl⟩
  ·cases h
 ·rename_i q;split at h
  ·cases h;exact .inr ⟨q,_,rfl⟩
  ·cases h
theorem Q4i(h:zaa a top l k v=.ok x):x.n=a/\((IsN x.k/\∃ b:List W,x.v=dn b)\/(¬ IsN x.k/\∃ w:W,x.v=.str w)):=by
 unfold zaa at h;split at h
 ·cases h
 ·split at h
  ·split at h
   ·rename_i e;cases h;exact⟨rfl,Q9f e⟩
   ·cases h
  ·cases h
theorem Q9g{top:List W}{rows:List Rw}{z:W}{x:Rw}(hr:∀ y∈rows,RowOk top y)(h:zaF top rows z=.ok x):RowOk top x:=by
 unfold zaF at h;split at h
 ·split at h
  ·cases h
  ·rename_i y hy;obtain⟨h1,h2⟩:=Q4i h;have hy:=hr y (List.mem_of_getLast? hy);exact⟨⟨by rw[h1];exact hy.in_.le,by rw[h1];exact hy.in_.at_⟩,h2⟩
 ·split at h
  ·cases h
  ·rename_i a ha;split at h
   ·rename_i q;obtain⟨h1,h2⟩:=Q4i h;exact⟨⟨by rw[h1];have:=(Q3b ha).2;omega,by rw[h1];exact q⟩,h2⟩
   ·cases h
 ·cases h
theorem Q4J(hs:z.take 1=[32])(hw:za7 z=[l,k,v]):zaF top rows z=(match rows.getLast? with | none=>.error 1 | some y=>zaa y.n top l k v):=by
 unfold zaF;rw[Ze hs,hw]
theorem Q5v(hs:z.take 1=[32])(h3:(za7 z).length≠3):zaF top rows z=.error 1:=by
 unfold zaF;rw[Ze hs];split
 ·rename_i e;rw[e]at h3;exact absurd rfl h3
 ·rename_i e _;cases e
 ·rfl
theorem Q4K(hs:¬ z.take 1=[32])(hw:za7 z=[nm,l,k,v]):zaF top rows z=(match zak true top nm with | none=>.error 2 | some a=>if a.take top.length=top then zaa a top l k v else .error 3):=by
 unfold zaF;rw[Zg hs,hw]
theorem Q5w(hs:¬ z.take 1=[32])(h3:(za7 z).length≠4):zaF top rows z=.error 1:=by
 unfold zaF;rw[Zg hs];split
 ·rename_i e _;cases e
 ·rename_i e;rw[e]at h3;exact absurd rfl h3
 ·rfl
structure LineB(z:W):Prop where
 a:z.length<=800
 b:(za1 32 z).length<=1000
noncomputable def sp_ai:DSpX:=fun ds M R RX=>∃ (n:Nat) (z:W) (top:List W) (p:Addr) (rows:List Rw),ds=[.int n,.str z,dn top,.ref p]/\M p=some (.lst (rows.map Rw.d))/\rowB n/\LineB z/\top.length<=10/\(∀ y∈rows,RowOk top y)/\match zaF top rows z with
 | .ok x=>R x.d M
 | .error c=>RX (rc c n) M
theorem ok_ai(T:Tab)(h47:T.fx 47=some ⟨"read_rest",4,[],sp_aB⟩)(h1:T.fn 1=some ⟨"at_or_beneath",2,[],sp_au⟩)(h48:T.fx 48=some ⟨"read_name_at",4,[],sp_a2⟩)(h44:T.fn 44=some ⟨"words_of",1,[],sp_ac⟩) :
  ∀ ds M R RX,sp_ai ds M R RX->evS { T with xd:=endX RX } b_ai (za6 R) (za5 ["a","b","c","d","e","f"] ds) M:=by
 rintro ds M R RX ⟨n,z,top,p,rows,rfl,hp,hn,hz,ht,hr,h⟩;have wl:∀ w∈za7 z,w.length<=800:=fun w hw=>Z7 (Q5t hw) hz.a;simp only[b_ai];walk_at "q1";simp only[h44];walk_at "ev";refine⟨z,rfl,by have:=hz.a;omega,hz.b,?_⟩
 rw[e1];clear e1;walk_at "q1";have bad:∀ {M':DH},Sub M M'->RX (rc 1 n) M->∃ m:Nat,([D.int (n:Int)]:List D)=[.int (m:Nat)]/\rowB m/\endX RX (1+64 * (m+1)) M':=fun s q=>⟨n,rfl,hn,Q0g q s⟩;by_cases hs:z.take 1=[32]
 ·refine ite2 (fun _=>?_) fun q=>absurd (Ze hs) q;by_cases h3:∃ l k v,za7 z=[l,k,v]
  ·obtain⟨l,k,v,hw⟩:=h3;rw[Q4J hs hw]at h;rw[hw]at wl ⊢
   try walk_at "ev"
   simp only[hp];refine⟨rfl,rfl,ite2 (fun q=>absurd q (by decide)) fun _=>⟨szL (by decide),Q0N hr 8,rfl,?_⟩⟩
   try dsimp only at h
   cases ey:rows.getLast? with
   | none =>
    rw[ey]at h;have:=List.getLast?_eq_none_iff.mp ey;subst this;refine ite2 (fun _=>bad (Sub.refl M) h) fun q=>absurd ((Q0s _ _).mpr rfl) q
   | some y =>
    rw[ey]at h;have hne:rows.map Rw.d≠[]:=fun z0=>by
     rw[List.map_eq_nil_iff.mp z0]at ey;cases ey
    rw[(Q1F _ _).mpr (fun z0=>hne (D.lst.inj z0))];refine iteF ?_;simp only[h47];walk_at "ev";rw[List.getLast?_eq_getElem?]at ey;refine Q2I hp (by rw[Zi,ZC,ey];rfl) ?_
    unfold Rw.d;walk_at "q0";refine⟨n,y.n,_,top,l,k,v,rfl,rfl,hn,wl _ (by simp),wl _ (by simp),wl _ (by simp),by omega,?_⟩
    try dsimp only at h
    cases e:zaa y.n top l k v with
    | ok x=>rw[e]at h;exact Q0b h
    | error c=>rw[e]at h;exact Q0g h (Sub.refl M)
  ·have hl:(za7 z).length≠3:=fun q=>h3 (by
    match za7 z,q with
    | [l,k,v],_=>exact⟨l,k,v,rfl⟩)
   have h':RX (rc 1 n) M:=by rw[Q5v hs hl]at h;exact h
   try walk_at "ev"
   refine⟨rfl,rfl,ite2 (fun _=>bad (Sub.refl M) h') fun q=>?_⟩;exact absurd (by rw[Zi];simp only[bne_iff_ne,ne_eq,Zf,ZG,Z6,Q2q];omega) q
 ·refine ite2 (fun q=>absurd (Zw q) hs) fun _=>?_;rw[e1];clear e1;walk_at "q1";by_cases h4:∃ nm l k v,za7 z=[nm,l,k,v]
  ·obtain⟨nm,l,k,v,hw⟩:=h4;rw[Q4K hs hw]at h;rw[hw]at wl ⊢
   try walk_at "ev"
   refine⟨rfl,rfl,ite2 (fun q=>absurd q (by decide)) fun _=>?_⟩
   rw[e1];clear e1;walk_at "q1";simp only[h48];walk_at "ev";refine ix_lo (i:=0) rfl rfl ⟨n,nm,top,true,rfl,hn,wl _ (by simp),by omega,?_⟩
   try dsimp only at h
   cases ea:zak true top nm with
   | none=>rw[ea]at h;exact Q0g h (Sub.refl M)
   | some a =>
    rw[ea]at h
    try dsimp only at h ⊢
    rw[e1];clear e1;walk_at "q1";simp only[h1];walk_at "ev";refine⟨a,top,rfl,?_⟩;by_cases hx:a.take top.length=top
    ·rw[Zm hx]at h;simp only[Ze hx];rw[e1];clear e1;walk_at "ev";simp only[h47];walk_at "ev";intro q hq;refine⟨n,a,.ref q,top,l,k,v,rfl,?_,hn,wl _ (by simp),wl _ (by simp),wl _ (by simp),by omega,?_⟩
     ·simp only[zar,Q0e];exact congrArg some (Q2b _ 1)
     ·cases e:zaa a top l k v with
      | ok x=>rw[e]at h;exact⟨M,Sub.new hq,h⟩
      | error c=>rw[e]at h;exact Q0g h (Sub.new hq)
    ·rw[Zj hx]at h;simp only[Zg hx];exact⟨n,rfl,hn,Q0g h (Sub.refl M)⟩
  ·have hl:(za7 z).length≠4:=fun q=>h4 (by
    match za7 z,q with
    | [nm,l,k,v],_=>exact⟨nm,l,k,v,rfl⟩)
   have h':RX (rc 1 n) M:=by rw[Q5w hs hl]at h;exact h
   refine⟨rfl,rfl,ite2 (fun _=>bad (Sub.refl M) h') fun q=>?_⟩;exact absurd (by rw[Zi];simp only[bne_iff_ne,ne_eq,Zf,ZG,Z6,Q2q];omega) q
noncomputable abbrev kZone:W:=[122,111,110,101]
noncomputable def zav(z:W):Except Nat (List W×Nat):=if z.take 1=[32] then .error 1 else match za7 z with
 | [w,t,l]=>if w=kZone then (if t.drop (t.length-1)=[46] then (match zak false [] t with | none=>.error 2 | some top=>match zaK l with | none=>.error 1 | some m=>.ok (top,m)) else .error 2) else .error 1
 | _=>.error 1
theorem Q5x(hs:¬ z.take 1=[32])(hw:za7 z=[w,t,l]):zav z=if w=kZone then (if t.drop (t.length-1)=[46] then (match zak false [] t with | none=>.error 2 | some top=>match zaK l with | none=>.error 1 | some m=>.ok (top,m)) else .error 2) else .error 1:=by
 unfold zav;rw[Zj hs,hw]
theorem Q9h(hs:¬ z.take 1=[32])(h3:(za7 z).length≠3):zav z=.error 1:=by
 unfold zav;rw[Zj hs];split
 ·rename_i e;rw[e]at h3;exact absurd rfl h3
 ·rfl
theorem Q9i(hs:z.take 1=[32]):zav z=.error 1:=Zm hs
noncomputable def sp_ao:DSpX:=fun ds M R RX=>∃ (n:Nat) (z:W),ds=[.int n,.str z]/\rowB n/\LineB z/\match zav z with
 | .ok (top,m)=>R (.tup [dn top,.int (m:Nat)]) M
 | .error c=>RX (rc c n) M
theorem ok_ao(T:Tab)(h49:T.fx 49=some ⟨"read_life_at",2,[],sp_a6⟩)(h48:T.fx 48=some ⟨"read_name_at",4,[],sp_a2⟩)(h44:T.fn 44=some ⟨"words_of",1,[],sp_ac⟩) :
  ∀ ds M R RX,sp_ao ds M R RX->evS { T with xd:=endX RX } b_ao (za6 R) (za5 ["a","b","c","d"] ds) M:=by
 rintro ds M R RX ⟨n,z,rfl,hn,hz,h⟩;have wl:∀ w∈za7 z,w.length<=800:=fun w hw=>Z7 (Q5t hw) hz.a;have bad:∀ c,RX (rc c n) M->∃ m:Nat,([D.int (n:Int)]:List D)=[.int (m:Nat)]/\rowB m/\endX RX (c+64 * (m+1)) M:=fun c q=>⟨n,rfl,hn,Q0g q (Sub.refl M)⟩;simp only[b_ao];walk_at "q1";simp only[h44];walk_at "ev";refine⟨z,rfl,by have:=hz.a;omega,hz.b,?_⟩
 rw[e1];clear e1;walk_at "q1";by_cases hs:z.take 1=[32]
 ·rw[Q9i hs]at h;exact ite2 (fun _=>bad 1 h) fun q=>absurd (Ze hs) q
 refine ite2 (fun q=>absurd (Zw q) hs) fun _=>?_;by_cases h3:∃ w t l,za7 z=[w,t,l]
 ·obtain⟨w,t,l,hw⟩:=h3;rw[Q5x hs hw]at h;rw[hw]at wl ⊢
  try walk_at "ev"
  refine⟨rfl,rfl,ite2 (fun q=>absurd q (by decide)) fun _=>?_⟩
  refine ix_lo (i:=0) rfl rfl ?_
  try walk_at "ev"
  by_cases q1:w=kZone
  ·rw[Zm q1]at h;refine⟨rfl,rfl,ite2 (fun q=>absurd q (by rw[Ze q1];decide)) fun _=>?_⟩
   rw[e1];clear e1;walk_at "q1";refine ix_lo (i:=1) rfl rfl ?_
   try walk_at "ev"
   by_cases q2:t.drop (t.length-1)=[46]
   ·rw[Zm q2]at h;refine ite2 (fun q=>absurd q (by
     simp[q2];rintro rfl;cases q2)) fun _=>?_
    rw[e1];clear e1;walk_at "q1";simp only[h48];walk_at "ev";refine ix_lo (i:=1) rfl rfl ?_
    try walk_at "ev"
    refine⟨szL (by decide),n,t,[],false,rfl,hn,wl _ (by simp),by simp,?_⟩
    cases ea:zak false [] t with
    | none=>rw[ea]at h;exact Q0g h (Sub.refl M)
    | some top =>
     rw[ea]at h
     try dsimp only at h ⊢
     rw[e1];clear e1;walk_at "ev";simp only[h49];walk_at "ev";refine ix_lo (i:=2) rfl rfl ⟨n,l,rfl,hn,by have:=wl l (by simp);omega,?_⟩
     cases el:zaK l with
     | none=>rw[el]at h;exact Q0g h (Sub.refl M)
     | some m=>rw[el]at h;exact⟨szL (by first | decide | omega),Q0b h⟩
   ·rw[Zj q2]at h;exact ite2 (fun _=>bad 2 h) fun q=>absurd (by simp[q2]) q
  ·rw[Zj q1]at h;exact⟨rfl,rfl,ite2 (fun _=>bad 1 h) fun q=>absurd (by rw[Zg q1];rfl) q⟩
 ·have hl:(za7 z).length≠3:=fun q=>h3 (by
   match za7 z,q with
   | [l,k,v],_=>exact⟨l,k,v,rfl⟩)
  rw[Q9h hs hl]at h;refine⟨rfl,rfl,ite2 (fun _=>bad 1 h) fun q=>?_⟩;exact absurd (by rw[Zi];simp only[bne_iff_ne,ne_eq,Zf,ZG,Z6,Q2q];omega) q
noncomputable def sp_at:DSpX:=fun ds M R RX=>∃ (n:Nat) (x:Rw) (top:List W),ds=[.int n,x.d,dn top]/\rowB n/\(¬ zam top x->R .non M)/\(zam top x->RX (rc 4 n) M)
theorem ok_at(T:Tab)(h5:T.fn 5=some ⟨"is_star_name",1,[],sp_ar⟩)(c13:T.con 13=some (("DOWN" : Str),D.str zaL)):∀ ds M R RX,sp_at ds M R RX->evS { T with xd:=endX RX } b_at (za6 R) (za5 ["a","b","c"] ds) M:=by
 rintro ds M R RX ⟨n,x,top,rfl,hn,h,hx⟩;have bad:zam top x->∃ m:Nat,([D.int (n:Int)]:List D)=[.int (m:Nat)]/\rowB m/\endX RX (4+64 * (m+1)) M:=fun q=>⟨n,rfl,hn,Q0g (hx q) (Sub.refl M)⟩;simp only[b_at,Rw.d];refine Q0a fun k1 e1=>?_;have fin:¬ zam top x->k1 [some (.int n),some x.d,some (dn top)] M:=fun q=>by
  rw[e1];walk_at "ev";exact Q0b (h q)
 clear e1;unfold Rw.d at fin;walk_at "ev";simp only[h5,c13];walk_at "ev";walk_at "q0"
 try walk_at "ev"
 refine⟨rfl,rfl,ite2 (fun q=>?_) fun q=>fin fun z=>q (Ze z.1)⟩;have q:=Zw q;walk_at "q0";simp only[dn]at fin ⊢
 try walk_at "ev"
 simp only[Q1c];refine⟨Q0d _,Q0d _,ite2 (fun q2=>bad ⟨q,.inl (Zw q2)⟩) fun q2=>?_⟩;walk_at "q0";refine⟨x.n,rfl,ite2 (fun q3=>bad ⟨q,.inr (Zw q3)⟩) fun q3=>fin fun z=>?_⟩;rcases z.2 with z | z
 ·exact q2 (Ze z)
 ·exact q3 (Ze z)
noncomputable def zap(rows:List Rw)(x:Rw):Prop:=∃ y∈rows,y.n=x.n/\zah x y=true
noncomputable def sp_ah:DSpX:=fun ds M R RX=>∃ (n:Nat) (x:Rw) (p:Addr) (rows:List Rw),ds=[.int n,x.d,.ref p]/\M p=some (.lst (rows.map Rw.d))/\rowB n/\PvR x/\(∀ y∈rows,PvR y)/\(¬ zap rows x->R .non M)/\(zap rows x->RX (rc 5 n) M)
theorem ok_ah(T:Tab)(h53:T.fn 53=some ⟨"clashes",2,[],sp_a7⟩):∀ ds M R RX,sp_ah ds M R RX->evS { T with xd:=endX RX } b_ah (za6 R) (za5 ["a","b","c","d"] ds) M:=by
 rintro ds M R RX ⟨n,x,p,rows,rfl,hp,hn,hx,hr,h,hbad⟩;simp only[b_ah];walk_at "q1";simp only[hp];refine Q1h (fun i ρ M'=>M'=M/\(∀ y∈rows.take i,y.n=x.n->zah x y=false)/\∃ v,ρ=[some (.int n),some x.d,some (.ref p),v]) ⟨rfl,(fun y hy=>by simp at hy),none,rfl⟩ (fun i ρ M' h=>by rw[h.1];exact hp) ?_ ?_
 ·rintro i d0 ρ M' k hi ⟨rfl,hpre,v,rfl⟩ hk;rw[ZC]at hi;cases ei:rows[i]? with
  | none=>rw[ei]at hi;cases hi
  | some y =>
   rw[ei]at hi;cases hi;have hm:=Z0 ei;have hy:=hr y hm;have next:(y.n=x.n->zah x y=false)->k [some (.int n),some x.d,some (.ref p),some y.d] M':=fun q=>hk _ _ ⟨rfl,fun y' hy'=>by
    rw[take_add_one,ei]at hy';rcases Z3.mp hy' with hy' | hy'
    ·exact hpre y' hy'
    ·rw[Zp.mp hy'];exact q,_,rfl⟩
   have hsp:∀ Q:DK,Q (.bl (zah x y)) M'->sp_a7 [x.d,y.d] M' Q:=fun Q q=>⟨x,y,rfl,hx,hy,q⟩;simp only[Rw.d]at next hsp ⊢;simp only[zan];walk_at "ev";simp only[h53];walk_at "ev";walk_at "q0";walk_at "q0";simp only[dn]at next hsp ⊢
   try walk_at "ev"
   simp only[Q1c];refine⟨Q0d _,Q0d _,ite2 (fun q=>?_) fun q=>next fun z=>absurd (Ze z) q⟩;refine hsp _ ?_;cases ec:zah x y with
   | true=>exact iteT ⟨n,rfl,hn,Q0g (hbad ⟨y,hm,Zw q,ec⟩) (Sub.refl M')⟩
   | false=>exact iteF (next fun _=>ec)
 ·rintro ρ M' ⟨rfl,hpre,v,rfl⟩;rw[e1];clear e1;walk_at "ev";refine Q0b (h fun⟨y,hy,q1,q2⟩=>?_);rw[Zi,take_length]at hpre;rw[hpre y hy q1]at q2;cases q2
open Classical in
noncomputable def za9(top:List W)(rows:List Rw)(z:W):Except Nat Rw:=match zaF top rows z with
 | .error c=>.error c
 | .ok x=>if zam top x then .error 4 else if zap rows x then .error 5 else .ok x
noncomputable def zag(top:List W):List Rw->List (Nat×W)->Except (Nat×Nat) (List Rw)
 | rows,[]=>.ok rows
 | rows,(n,z)::r=>match za9 top rows z with
  | .error c=>.error (c,n)
  | .ok x=>zag top (rows++[x]) r
noncomputable def zaG(z:W):Except (Nat×Nat) (List W×Nat×List Rw):=match za0 1 (za1 10 z) with
 | []=>.error (1,0)
 | (n,l)::r=>match zav l with
  | .error c=>.error (c,n)
  | .ok (top,life)=>match zag top [] r with
   | .error e=>.error e
   | .ok rows=>.ok (top,life,rows)
structure ZoneB(z:W):Prop where
 le:z.length<=1000000
 ln:(za1 10 z).length<=900
 l:∀ p∈za0 1 (za1 10 z),LineB p.2
noncomputable def sp_a4:DSpX:=fun ds M R RX=>∃ z:W,ds=[.str z]/\ZoneB z/\match zaG z with
 | .ok (top,life,rows)=>∀ q M',M q=none->M' q=some (.lst (rows.map Rw.d))->Sub M M'->R (.tup [dn top,.int (life:Nat),.ref q]) M'
 | .error (c,n)=>RX (rc c n) M
theorem Q7K(h:zav z=.ok (top,m)):top.length<=10:=by
 unfold zav at h;split at h
 ·cases h
 ·split at h
  ·split at h
   ·split at h
    ·split at h
     ·cases h
     ·rename_i ea;split at h
      ·cases h
      ·cases h;exact (Q3b ea).2
    ·cases h
   ·cases h
  ·cases h
theorem Q5y:∀ (ls:List W) (n:Nat) (p:Nat×W),p∈za0 n ls->n<=p.1/\p.1<n+ls.length
 | [],n,p,h=>by cases h
 | l::r,n,p,h=>by
  have h':p∈(if zab (rst l)=true then (n,rst l)::za0 (n+1) r else za0 (n+1) r):=h
  have go:p∈za0 (n+1) r->n<=p.1/\p.1<n+(l::r).length:=fun q=>by
   have:=Q5y r (n+1) p q;rw[Zk];omega
  split at h'
  ·rcases Zx.mp h' with rfl | q
   ·exact⟨Zz _,by rw[Zk];omega⟩
   ·exact go q
  ·exact go h'
theorem Q0A:zag top rows ((n,z)::r)=(match za9 top rows z with | .error c=>.error (c,n) | .ok x=>zag top (rows++[x]) r):=rfl
theorem Q3c:zag top rows []=.ok rows:=rfl
theorem Q6b(h:za0 1 (za1 10 z)=[]):zaG z=.error (1,0):=by
 unfold zaG;rw[h]
theorem Q1p(h:za0 1 (za1 10 z)=(n,l)::r):zaG z=(match zav l with
  | .error c=>.error (c,n)
  | .ok (top,life)=>match zag top [] r with
   | .error e=>.error e
   | .ok rows=>.ok (top,life,rows)):=by
 unfold zaG;rw[h]
set_option maxHeartbeats 1000000 in
theorem ok_a4(T:Tab)(h52:T.fx 52=some ⟨"refuse_clash",3,[],sp_ah⟩)(h51:T.fx 51=some ⟨"refuse_cut",3,[],sp_at⟩)(h46:T.fx 46=some ⟨"read_row",4,[],sp_ai⟩)(h45:T.fx 45=some ⟨"read_head",2,[],sp_ao⟩)(h43:T.fn 43=some ⟨"told_lines",1,[],sp_aC⟩) :
  ∀ ds M R RX,sp_a4 ds M R RX->evS { T with xd:=endX RX } b_a4 (za6 R) (za5 ["a","b","c","d","e","f","g","h"] ds) M:=by
 rintro ds M R RX ⟨z,rfl,hz,h⟩;have nb:∀ p∈za0 1 (za1 10 z),rowB p.1:=fun p hp=>by
  have:=(Q5y _ _ _ hp).2;have:=hz.ln;exact lt_trans (show p.1<1000 by omega) (by decide)
 have hlb:=hz.l;have lr:=Q7H (za1 10 z) 1;have ln:=hz.ln;simp only[b_a4];walk_at "q1";simp only[h43];walk_at "ev";refine⟨z,rfl,hz.le,by omega,?_⟩
 cases et:za0 1 (za1 10 z) with
 | nil =>
  rw[Q6b et]at h;rw[e1];clear e1;walk_at "q1";refine⟨szL (by decide),rfl,rfl,?_⟩
  refine ite2 (fun _=>⟨0,rfl,(show (0:Nat)<10 ^ 12 by decide),Q0g h (Sub.refl M)⟩) fun q=>absurd ((Q0s _ _).mpr rfl) q
 | cons pr rest =>
 obtain⟨n0,l0⟩:=pr;rw[Q1p et]at h;rw[et]at nb hlb lr;rw[Zk]at lr;rw[e1];clear e1;walk_at "q1";refine⟨szL (by decide),Q7I _,rfl,?_⟩
 refine ite2 (fun q=>absurd (D.lst.inj ((Q0s _ _).mp q)) (cons_ne_nil _ _)) fun _=>?_;rw[e1];clear e1;walk_at "q1";simp only[h45];walk_at "ev";refine ix_lo (i:=0) rfl rfl ?_;walk_at "q0";refine ix_lo (i:=0) rfl rfl ?_;walk_at "q0";refine⟨n0,l0,rfl,nb _ Zl,hlb _ Zl,?_⟩;cases eh:zav l0 with
 | error c=>rw[eh]at h;exact Q0g h (Sub.refl M)
 | ok tl =>
 obtain⟨top,life⟩:=tl;rw[eh]at h
 try dsimp only at h ⊢
 have tl:=Q7K eh;rw[e1];clear e1;walk_at "q1";walk_at "q0";rw[e1];clear e1;walk_at "q1";refine⟨szL (by decide),fun p hp=>?_⟩
 rw[e1];clear e1;walk_at "q1";intro q hq;have ec:cut (List.map nl ((n0,l0)::rest)) (some 1) none=rest.map nl:=Q2b _ 1
 try simp only[Z8]at ec
 have pq:p≠q:=by
  rintro rfl;rw[Q0e]at hq;cases hq
 simp only[Q0e];rw[ec];have inv0:∃ M',dupd (dupd M p (.lst [])) q (.lst (rest.map nl))=M'/\M' p=some (.lst (([]:List Rw).map Rw.d))/\M' q=some (.lst (rest.map nl))/\Sub M M':=⟨_,rfl,by rw[Q0j pq,Q0e];rfl,Q0e,(Sub.new hp).trans (Sub.new hq)⟩
 obtain⟨M1,eM,i1,i2,i3⟩:=inv0;rw[eM];clear eM hq;refine Q1h (fun i ρ M'=>∃ (rs:List Rw) (v5 v6 v7:Option D),M' p=some (.lst (rs.map Rw.d))/\M' q=some (.lst (rest.map nl))/\Sub M M'/\rs.length=i/\(∀ y∈rs,RowOk top y)/\zag top [] rest=zag top rs (rest.drop i)/\ρ=[some (.str z),some (.lst (nl (n0,l0)::rest.map nl)),some (.tup [dn top,.int life]),some (dn top),some (.ref p),v5,v6,v7])
  ⟨[],none,none,none,i1,i2,i3,rfl,(fun y hy=>nomatch hy),by rw[drop_zero],rfl⟩ (fun i ρ M' ⟨_,_,_,_,_,e,_⟩=>e) ?_ ?_
 ·rintro i d0 ρ M' k hi ⟨rs,v5,v6,v7,j1,j2,j3,hn,hr,hrt,rfl⟩ hk;have hil:=(Zv.mp hi).1;rw[Zi]at hil;rw[ZC,Zq hil]at hi;cases hi;have hm:rest[i]∈rest:=getElem_mem hil;have b1:=nb _ (Zo _ hm);have b2:=hlb _ (Zo _ hm);rw[ZZ hil]at hrt;generalize rest[i]=li at hrt b1 b2;obtain⟨ni,zi⟩:=li;rw[Q0A]at hrt;simp only[nl];show zbx 2 _ _ _ _ _
  try walk_at "ev"
  simp only[h46,h51,h52];walk_at "ev";refine⟨ni,zi,top,p,rs,rfl,j1,b1,b2,tl,hr,?_⟩;cases er:zaF top rs zi with
  | error c =>
   have es:za9 top rs zi=.error c:=by unfold za9;rw[er]
   rw[es]at hrt;rw[hrt]at h;exact Q0g h j3
  | ok x =>
   have hx:=Q9g hr er
   try dsimp only
   refine⟨ni,x,top,rfl,b1,fun qc=>?_,fun qc=>?_⟩
   ·refine⟨ni,x,p,rs,rfl,j1,b1,⟨hx.pv⟩,fun y hy=>⟨(hr y hy).pv⟩,fun ql=>?_,fun ql=>?_⟩
    ·have es:za9 top rs zi=.ok x:=by unfold za9;rw[er];simp only[Zj qc,Zj ql]
     rw[es]at hrt;simp only[j1];refine⟨small1000 (by rw[Zi];omega),hk _ _ ⟨rs++[x],_,_,_,?_,?_,?_,?_,?_,hrt,rfl⟩⟩
     ·rw[Q0e,ZY];rfl
     ·rw[Q0j pq.symm];exact j2
     ·exact fun c o e=>by rw[Q0j (dne e hp)];exact j3 c o e
     ·rw[Zd,hn];rfl
     ·intro y hy;rcases Z3.mp hy with hy | hy
      ·exact hr y hy
      ·rw[Zp.mp hy];exact hx
    ·have es:za9 top rs zi=.error 5:=by unfold za9;rw[er];simp only[Zj qc,Zm ql]
     rw[es]at hrt;rw[hrt]at h;exact Q0g h j3
   ·have es:za9 top rs zi=.error 4:=by unfold za9;rw[er];simp only[Zm qc]
    rw[es]at hrt;rw[hrt]at h;exact Q0g h j3
 ·rintro ρ M' ⟨rs,v5,v6,v7,j1,j2,j3,hn,hr,hrt,rfl⟩;rw[Zi,drop_length]at hrt;rw[hrt,Q3c]at h;rw[e1];clear e1;walk_at "ev";walk_at "q0"
  try walk_at "ev"
  exact⟨szL (by first | decide | omega),Q0b (h p M' hp j1 j3)⟩
theorem Q2e(n:Nat):0<(digs n).length:=by
 unfold digs;rw[Zi];exact Nat.length_toDigits_pos
theorem Q7L(n:Nat)(hn:0<n):∃ c r,digs n=c::r/\49<=c:=by
 induction n using Nat.strongRecOn with
 | _ n ih =>
  by_cases h:n<10
  ·have:digs n=[(Nat.digitChar n).toNat]:=by unfold digs;rw[Nat.toDigits_of_lt_base h];rfl
   refine⟨_,[],this,?_⟩;have:∀ d:Nat,d<10->0<d->49<=(Nat.digitChar d).toNat:=by decide
   exact this n h hn
  ·have hm:n % 10<10:=Nat.mod_lt n (by decide)
   have t:Nat.toDigits 10 (n / 10)++Nat.toDigits 10 (n % 10)=Nat.toDigits 10 (10 * (n / 10)+n % 10):=Nat.toDigits_append_toDigits (by decide) (by omega) hm
   rw[Nat.div_add_mod]at t;obtain⟨c,r,e,hc⟩:=ih (n / 10) (by omega) (by omega)
   refine⟨c,r++(Nat.toDigits 10 (n % 10)).map Char.toNat,?_,hc⟩;unfold digs at e ⊢;rw[<- t,ZY,e];rfl
theorem Q2J{l:Int}(h:0<=l/\l<1000000000):zaJ (digs l.toNat)/\l=(NumText.digitsVal (digs l.toNat):Nat):=by
 obtain⟨n,rfl⟩:=Z2 h.1;rw[ZO,Q8H];refine⟨⟨Q2e n,Q5p (by decide) (by have:(10:Nat) ^ 9=1000000000:=(by decide);omega),fun c hc=>Q7E (Q1G hc),fun q=>?_⟩,rfl⟩
 by_cases h0:n=0
 ·subst h0;exact absurd q.1 (by decide)
 ·obtain⟨c,r,e,hc⟩:=Q7L n (by omega)
  rw[e]at q;have:=q.2;simp at this;omega
noncomputable def NmW(st:Bool)(a:List W):Prop:=(∀ w∈a,Wd w)\/(st=true/\∃ b,a=b++[[42]]/\∀ w∈b,Wd w)
theorem Q3v:∀ c∈signs,c∈zaT/\lo1 c=c/\c≠10/\c≠32/\c≠59/\c<128:=by decide
theorem Q3w(h:Wd w):zb5 w:=⟨h.lo,h.hi,fun c hc=>(Q3v c (h.al c hc)).1⟩
theorem Q9O(h:Wd w):low w=w:=by
 unfold low;exact (map_congr_left fun c hc=>(Q3v c (h.al c hc)).2.1).trans (map_id _)
theorem NmW.each{st:Bool}{a:List W}(h:NmW st a):∀ w∈a,Wd w\/w=[42]:=fun w hw=>by
 rcases h with h | ⟨_,b,rfl,h⟩
 ·exact .inl (h w hw)
 ·rcases Z3.mp hw with hw | hw
  ·exact .inl (h w hw)
  ·exact .inr (Zp.mp hw)
theorem NmW.len{st:Bool}{a:List W}(h:NmW st a):∀ w∈a,w.length<=12:=fun w hw=>by
 rcases h.each w hw with q | q
 ·exact q.hi
 ·rw[q];decide
theorem NmW.small{st:Bool}{a:List W}(h:NmW st a)(hl:a.length<=10):zc6 a/\(zad a).length<=200:=by
 refine⟨⟨by omega,fun w hw=>by have:=h.len w hw;omega⟩,?_⟩
 have:=Q4e h.len;have:a.length * (12+1)<=10 * 13:=mul_le_mul_right _ hl;omega
theorem NmW.reads{st:Bool}{a:List W}(h:NmW st a)(hl:a.length<=10)(top:List W):Reads st top (zad a) a:=by
 by_cases e:a=[]
 ·subst e;exact .inr (.inl ⟨rfl,rfl⟩)
 ·refine .inr (.inr (.inl ⟨a.reverse,⟨?_,by rw[ZB];omega⟩,rfl,?_⟩))
  ·rcases h with h | ⟨hs,b,rfl,h⟩
   ·cases er:a.reverse with
    | nil=>exact absurd (List.reverse_eq_nil_iff.mp er) e
    | cons w r =>
     have hm:∀ x∈w::r,Wd x:=fun x hx=>h x (Yg.mp (by rw[er];exact hx))
     exact⟨w,r,rfl,.inl (Q3w (hm w Zl)),fun x hx=>Q3w (hm x (Zo _ hx))⟩
   ·refine⟨[42],b.reverse,by rw[reverse_append];rfl,.inr ⟨hs,rfl⟩,fun x hx=>Q3w (h x (Yg.mp hx))⟩
  ·unfold zay;rw[map_reverse,List.reverse_reverse];refine ((map_congr_left fun w hw=>?_).trans (map_id _)).symm;rcases h.each w hw with q | q
   ·exact Q9O q
   ·rw[q];rfl
noncomputable def Pl(w:W):Prop:=∀ c∈w,c≠10/\c≠32
theorem NmW.word{st:Bool}{a:List W}(h:NmW st a):∀ w∈a,∀ c∈w,c≠10/\c≠32/\c≠59:=fun w hw c hc=>by
 rcases h.each w hw with q | q
 ·have:=Q3v c (q.al c hc);exact⟨this.2.2.1,this.2.2.2.1,this.2.2.2.2.1⟩
 ·rw[q]at hc;rw[Zp.mp hc];decide
theorem NmW.text{st:Bool}{a:List W}(h:NmW st a):∀ c∈zad a,c≠10/\c≠32/\c≠59:=fun c hc=>by
 unfold zad at hc;rcases Z3.mp hc with hc | hc
 ·rcases Q0D hc with hc | ⟨w,hw,hc⟩
  ·rw[Zp.mp hc];decide
  ·exact h.word w (Yg.mp hw) c hc
 ·rw[Zp.mp hc];decide
theorem NmW.pl{st:Bool}{a:List W}(h:NmW st a):Pl (zad a):=fun c hc=>⟨(h.text c hc).1,(h.text c hc).2.1⟩
theorem Q2f(a:List W):zad a≠[]:=by unfold zad;simp
theorem Q4L(n:Nat):Pl (digs n):=fun c hc=>by have:=Q1G hc;omega
theorem Q7M(h:zaX k=true):Pl k/\k≠[]/\k.length<=8:=by
 obtain⟨h1,h2,h3⟩:=Zw h;refine⟨fun c hc=>?_,fun z=>by rw[z]at h1;exact absurd h1 (by decide),h2⟩
 have:∀ c∈zbc,c≠10/\c≠32:=by decide
 exact this c (h3 c hc)
theorem vd_pl(h:Vd w):Pl w/\w≠[]/\valB w=true:=by
 have hs:∀ c∈zaz,(c≠10/\c≠32)/\zau c:=by decide
 exact⟨fun c hc=>(hs c (h.al c hc)).1,fun z=>by have:=h.lo;rw[z]at this;exact absurd this (by decide),Ze ⟨h.lo,h.hi,fun c hc=>(hs c (h.al c hc)).2⟩⟩
theorem Q6c(hn:ws≠[])(h:∀ w∈ws,Pl w/\w≠[]):za1 32 (za4 [32] ws)=ws/\za7 (za4 [32] ws)=ws:=by
 have e:za1 32 (za4 [32] ws)=ws:=Q0z hn fun w hw q=>((h w hw).1 32 q).2 rfl;refine⟨e,?_⟩;unfold za7;rw[e,List.filter_eq_self];intro w hw;simp[(h w hw).2]
theorem Qcw(e:z=u++[c])(h:c≠32):rst z=z:=by
 unfold rst zai;subst e;simp[takeWhile_cons,h];rw[ZS (by simp)]
theorem Q4M(h:z≠[]):∃ u c,z=u++[c]:=⟨z.dropLast,z.getLast h,(List.dropLast_concat_getLast h).symm⟩
structure Row12(top:List W)(x:Rw):Prop extends RowOk top x where
 nm:NmW true x.n
 nl:x.n.length<=8
 ll:0<=x.l/\x.l<1000000000
 kk:zaX x.k=true
 vv:(IsN x.k/\∃ b,x.v=dn b/\b.length<=8/\∀ w∈b,Wd w)\/(¬ IsN x.k/\∃ w,x.v=.str w/\Vd w)
theorem Row12.s{top:List W}{x:Rw}(h:Row12 top x):RowS x where
 n:=h.nm.small (by have:=h.nl;omega)
 l:=h.ll
 k:=by have:=(Q7M h.kk).2.2;omega
 v:=by
  rcases h.vv with ⟨q,b,e,hb,hw⟩ | ⟨q,w,e,hw⟩
  ·have:=NmW.small (st:=false) (.inl hw) (show b.length<=10 by omega)
   exact .inl ⟨q,b,e,this.1,this.2⟩
  ·exact .inr ⟨q,w,e,by have:=hw.hi;omega⟩
theorem Row12.val{top:List W}{x:Rw}(h:Row12 top x)(t:List W):Pl (valW x.v)/\valW x.v≠[]/\ValT t x.k (valW x.v) x.v:=by
 rcases h.vv with ⟨q,b,e,hb,hw⟩ | ⟨q,w,e,hw⟩
 ·rw[e,Q4I];have hn:NmW false b:=.inl hw;exact⟨hn.pl,Q2f b,.inl ⟨q,b,hn.reads (by omega) t,by omega,rfl⟩⟩
 ·rw[e];have:=vd_pl hw;exact⟨this.1,this.2.1,.inr ⟨q,this.2.2,rfl⟩⟩
theorem joinL4(s a b c d:W):za4 s [a,b,c,d]=a++s++b++s++c++s++d:=by simp[za4]
theorem joinL3(s a b c:W):za4 s [a,b,c]=a++s++b++s++c:=by simp[za4]
theorem Q9j{P:Nat->Prop}(hw:w≠[])(h:∀ c∈w,P c)(e:z=w++r):∃ c,z.take 1=[c]/\P c:=by
 cases w with
 | nil=>exact absurd rfl hw
 | cons c t=>subst e;exact⟨c,rfl,h c Zl⟩
theorem Q7N(e:z=za4 [32] ws)(hn:ws≠[])(h:∀ w∈ws,Pl w/\w≠[])(hl:z.length<=900)(h4:ws.length<=100):zbL z/\za7 z=ws/\(10∉z)/\z≠[]/\rst z=z:=by
 have w2:=Q6c hn h;have ne:z≠[]:=by
  rintro rfl;have:=w2.1;rw[<- e]at this;have e2:za1 32 ([]:W)=[[]]:=rfl;rw[e2]at this;rw[<- this]at h;exact (h [] (Zp.mpr rfl)).2 rfl
 refine⟨⟨hl,by rw[e,w2.1];omega⟩,by rw[e];exact w2.2,fun q=>?_,ne,?_⟩
 ·rw[e]at q;rcases Q0D q with q | ⟨w,hw,q⟩
  ·exact absurd (Zp.mp q) (by decide)
  ·exact ((h w hw).1 10 q).1 rfl
 ·obtain⟨w,hw,u,hu⟩:∃ w∈ws,∃ u,za4 [32] ws=u++w:=by
   clear w2 ne e hl h4 h
   induction ws with
   | nil=>exact absurd rfl hn
   | cons a r ih =>
    cases r with
    | nil=>exact⟨a,Zp.mpr rfl,[],rfl⟩
    | cons b r =>
     obtain⟨w,hw,u,hu⟩:=ih (cons_ne_nil _ _);refine⟨w,Zo _ hw,a++[32]++u,?_⟩;show a++[32]++za4 [32] (b::r)=_;rw[hu,<- Z9]
  obtain⟨v,c,ew⟩:=Q4M (h w hw).2;refine Qcw (u:=u++v) (c:=c) (by rw[e,hu,ew,Z9]) ((h w hw).1 c ?_).2
  rw[ew];simp
theorem Row12.line{top:List W}{x:Rw}(h:Row12 top x):zbL (rowW x)/\(10∉rowW x)/\rst (rowW x)=rowW x/\zab (rowW x)=true/\∀ rows,RowT top rows (rowW x) x:=by
 have hv:=h.val top;have hk:=Q7M h.kk;have e:rowW x=za4 [32] [zad x.n,digs x.l.toNat,x.k,valW x.v]:=by rw[joinL4];rfl
 have hll:=Q2J h.ll;obtain⟨l1,l2,l3,l4,l5⟩:=Q7N e (cons_ne_nil _ _) (fun w hw=>by
  simp only[Zx,ZN,or_false]at hw;rcases hw with rfl | rfl | rfl | rfl
  ·exact⟨h.nm.pl,Q2f _⟩
  ·exact⟨Q4L _,fun z=>by have:=Q2e x.l.toNat;rw[z]at this;exact absurd this (by decide)⟩
  ·exact⟨hk.1,hk.2.1⟩
  ·exact⟨hv.1,hv.2.1⟩) (by have:=h.s.le;omega) (by simp only[Zk,Zu];omega)
 obtain⟨c,hc,hp⟩:=Q9j (z:=rowW x) (w:=zad x.n) (r:=[32]++digs x.l.toNat++[32]++x.k++[32]++valW x.v) (Q2f _) h.nm.text (by unfold rowW;simp only[Z9])
 refine⟨l1,l3,l5,?_,fun rows=>.inl ⟨?_,_,_,_,_,l2,h.nm.reads (by have:=h.nl;omega) top,hll.1,hll.2,h.kk,rfl,hv.2.2⟩⟩
 ·unfold zab;rw[hc,Zg l4,Zg (fun z=>hp.2.2 (List.cons.inj z).1)];rfl
 ·rw[hc];exact fun z=>hp.2.1 (List.cons.inj z).1
theorem Q7O{top:List W}{life:Int}(ht:top.length<=10)(hw:∀ w∈top,Wd w)(hl:0<=life/\life<1000000000):zbL (zas top life)/\(10∉zas top life)/\rst (zas top life)=zas top life/\zab (zas top life)=true/\HeadT (zas top life) top life:=by
 have hn:NmW false top:=.inl hw;have hll:=Q2J hl;have e:zas top life=za4 [32] [[122,111,110,101],zad top,digs life.toNat]:=by rw[joinL3];rfl
 obtain⟨l1,l2,l3,l4,l5⟩:=Q7N e (cons_ne_nil _ _) (fun w hw=>by
  simp only[Zx,ZN,or_false]at hw;rcases hw with rfl | rfl | rfl
  ·exact⟨by unfold Pl;decide,by decide⟩
  ·exact⟨hn.pl,Q2f _⟩
  ·exact⟨Q4L _,fun z=>by have:=Q2e life.toNat;rw[z]at this;exact absurd this (by decide)⟩) (by have:=Q3u (hn.small ht).2 hl;omega) (by simp only[Zk,Zu];omega)
 have t1:(zas top life).take 1=[122]:=rfl;refine⟨l1,l3,l5,?_,?_,zad top,_,l2,⟨_,rfl⟩,hn.reads ht [],hll.1,hll.2⟩
 ·unfold zab;rw[t1,Zg l4];rfl
 ·rw[t1];decide
theorem Q2K{c K:Nat}:∀ ws:List W,(∀ w∈ws,w.length<=K)->(za4 [c] ws).length<=ws.length * (K+1)
 | [],_=>by simp[za4]
 | [w],h=>by have:=h w Zl;simp[za4];omega
 | w::v::r,h=>by
  have h1:=h w Zl;have ih:=Q2K (c:=c) (v::r) fun x hx=>h x (Zo _ hx);show (w++[c]++za4 [c] (v::r)).length<=_;rw[Zd,Zd];simp only[Zk,Zu,add_mul]at ih ⊢;omega
noncomputable def Fit(y x:Rw):Prop:=y.n=x.n->zah x y=false
theorem Q4j:∀ (rest pre:List Rw) (n:Nat),(∀ x∈rest,Row12 top x/\¬ zam top x)->(pre++rest).Pairwise Fit->zbQ top pre (za0 n (rest.map rowW)) (pre++rest)
 | [],pre,n,_,_=>by rw[append_nil];exact .nil
 | x::r,pre,n,h,hp=>by
  obtain⟨hx,hc⟩:=h x Zl;obtain⟨l1,l2,l3,l4,l5⟩:=hx.line;have e:za0 n ((x::r).map rowW)=(n,rowW x)::za0 (n+1) (r.map rowW):=by
   show (if zab (rst (rowW x))=true then (n,rst (rowW x))::za0 (n+1) (r.map rowW) else _)=_
   rw[l3,Zm l4]
  rw[e];have ea:pre++x::r=(pre++[x])++r:=by rw[Z9];rfl
  refine .cons l1 (l5 pre) hx.toRowOk (by have:=hx.nl;omega) hc ?_ ?_
  ·intro y hy;exact (List.pairwise_append.mp hp).2.2 y hy x Zl
  ·rw[ea]at hp ⊢;exact Q4j r (pre++[x]) (n+1) (fun z hz=>h z (Zo _ hz)) hp
theorem Q4k{st:Bool}{ws:List W}(h:Words st ws):za1 46 (za4 [46] ws)=ws/\WOk st ws:=by
 refine⟨Q0z h.ne fun w hx hc=>((h.all w hx).2.2 46 hc).2.1 rfl,?_⟩;exact⟨h.ex⟩
theorem Q2L{st:Bool}{top a:List W}{z:W}(h:Reads st top z a):Told st top z a:=by
 rcases h with h | h | ⟨ws,hw,rfl,rfl⟩ | ⟨ws,hw,rfl,rfl⟩
 ·exact .inl h
 ·exact .inr (.inl h)
 ·obtain⟨e,k⟩:=Q4k hw;refine .inr (.inr (.inl ⟨_,rfl,?_,?_,?_⟩))
  ·intro q;have:za4 [46] ws=[]:=by
    have:=congrArg List.length q;simp at this;exact this
   rw[this]at e;rw[<- e]at k;obtain⟨w0,r,e2,h1,_⟩:=hw.ex;obtain⟨z,c,q2,_⟩:=hw.last;rw[this]at q2;simp at q2
  ·rw[e];exact k
  ·rw[e]
 ·obtain⟨e,k⟩:=Q4k hw;obtain⟨z,c,q2,hc⟩:=hw.last;refine .inr (.inr (.inr ⟨fun q=>?_,fun⟨z',q⟩=>?_,?_,?_⟩))
  ·exact hw.at (by rw[q];simp)
  ·rw[q2]at q;have:=(append_inj' q rfl).2;cases this;exact hc rfl
  ·rw[e];exact k
  ·rw[e]
theorem Q3x(h:zaJ z):zaK z=some (NumText.digitsVal z):=Zm h
theorem Q9k(h:ValT top k v x):zaA top k v=.ok x:=by
 unfold zaA;rcases h with ⟨q,b,hb,hl,rfl⟩ | ⟨q,hb,rfl⟩
 ·rw[Zm q,Q0F (Q2L hb) hl]
 ·rw[Zj q,Zm hb]
theorem Q4l(h:RestT top l k v x)(ha:x.n=a):zaa a top l k v=.ok x:=by
 obtain⟨h1,h2,h3,h4,h5⟩:=h;unfold zaa;rw[Q3x h1];dsimp only;rw[Zm h3,Q9k h5];dsimp only;rw[Rw.eta ha h2 h4 rfl]
theorem Q9l(h:RowT top rows z x)(hl:x.n.length<=10)(ht:x.n.take top.length=top):zaF top rows z=.ok x:=by
 rcases h with ⟨hs,nm,l,k,v,hw,hn,hr⟩ | ⟨hs,l,k,v,y,hw,hy,hn,hr⟩
 ·rw[Q4K hs hw,Q0F (Q2L hn) hl];dsimp only;rw[Zm ht,Q4l hr rfl]
 ·rw[Q4J hs hw,List.getLast?_eq_getElem?,hy];exact Q4l hr hn
theorem Q7P(h:RowT top rows z x)(hl:x.n.length<=10)(ht:x.n.take top.length=top)(hc:¬ zam top x)(hk:∀ y∈rows,y.n=x.n->zah x y=false):za9 top rows z=.ok x:=by
 unfold za9;rw[Q9l h hl ht];dsimp only;rw[Zj hc,Zj fun⟨y,hy,q1,q2⟩=>by rw[hk y hy q1]at q2;cases q2]
theorem Q2M:∀ {rs out:List Rw} {ls:List (Nat×W)} (more:List (Nat×W)),zbQ top rs ls out->zag top rs (ls++more)=zag top out more
 | _,_,_,more,.nil=>rfl
 | _,_,_,more,.cons h1 h2 h3 h4 h5 h6 h7=>by
  rw[cons_append,Q0A,Q7P h2 h4 h3.in_.at_ h5 h6];exact Q2M more h7
theorem Q4m{z:W}{top:List W}{life:Nat}(h:HeadT z top (life:Int))(ht:top.length<=10):zav z=.ok (top,life):=by
 obtain⟨hs,t,l,hw,⟨u,rfl⟩,hn,hl,e⟩:=h;rw[Q5x hs hw,Zm rfl,Zm (by simp),Q0F (Q2L hn) ht]
 dsimp only;rw[Q3x hl];dsimp only;rw[show life=NumText.digitsVal l from Int.ofNat.inj e]
structure LnOk(z:W):Prop where
 le:z.length<=600
 nl:10∉z
 rs:rst z=z
 ct:zab z=true
theorem Q5z:∀ (ls:List W) (n:Nat),(∀ l∈ls,LnOk l)->za0 n ls=(List.range' n ls.length).zip ls
 | [],n,_=>rfl
 | l::r,n,h=>by
  have hl:=h l Zl;show (if zab (rst l)=true then (n,rst l)::za0 (n+1) r else za0 (n+1) r)=_
  rw[hl.rs,Zm hl.ct,Q5z r (n+1) fun x hx=>h x (Zo _ hx)];rfl
theorem Q9m:za0 n (a++b)=za0 n a++za0 (n+a.length) b:=by
 induction a generalizing n with
 | nil=>rfl
 | cons l r ih =>
  show (if zab (rst l)=true then (n,rst l)::za0 (n+1) (r++b) else za0 (n+1) (r++b))=(if zab (rst l)=true then (n,rst l)::za0 (n+1) r else za0 (n+1) r)++za0 (n+(r.length+1)) b
  rw[ih,show n+1+r.length=n+(r.length+1) by omega]
  split <;> rfl
theorem Q4n(h:LnOk l):za0 n (l::r)=(n,l)::za0 (n+1) r:=by
 show (if zab (rst l)=true then (n,rst l)::za0 (n+1) r else za0 (n+1) r)=_
 rw[h.rs,Zm h.ct]
theorem Q9n{ls:List W}(hn:ls≠[])(hl:ls.length<=100)(h:∀ l∈ls,LnOk l):za1 10 (za4 [10] ls)=ls/\ZoneB (za4 [10] ls):=by
 have es:za1 10 (za4 [10] ls)=ls:=Q0z hn fun w hw=>(h w hw).nl;refine⟨es,⟨?_,by rw[es];omega,fun p hp=>?_⟩⟩
 ·have:=Q2K (c:=10) (K:=600) ls fun w hw=>(h w hw).le;have:ls.length * (600+1)<=100 * 601:=mul_le_mul_right _ hl;omega
 ·rw[es,Q5z ls 1 h]at hp;have hm:=h _ (of_mem_zip hp).2;exact⟨by have:=hm.le;omega,by have:=Q0M 32 p.2;have:=hm.le;omega⟩
theorem Q7Q{top:List W}{life:Nat}{h0:W}{rows:List Rw}{ls:List W}(hh:LnOk h0)(hd:HeadT h0 top (life:Int))(ht:top.length<=10)(hr:zbQ top [] (za0 2 ls) rows)(hs:za1 10 (za4 [10] (h0::ls))=h0::ls) :
  zaG (za4 [10] (h0::ls))=.ok (top,life,rows):=by
 have e:za0 1 (za1 10 (za4 [10] (h0::ls)))=(1,h0)::(za0 2 ls++[]):=by
  rw[hs,Q4n hh,append_nil]
 rw[Q1p e,Q4m hd ht];dsimp only;rw[Q2M _ hr,Q3c]
noncomputable def goodB(w:W):Bool:=decide (1<=w.length)&&decide (w.length<=12)&&w.all fun c=>decide (c∈zaT)
theorem Q5A:zb5 w <-> goodB w=true:=by
 unfold goodB;simp only[Zc,Zf,Z5];exact⟨fun h=>⟨⟨h.lo,h.hi⟩,h.al⟩,fun h=>⟨h.1.1,h.1.2,h.2⟩⟩
noncomputable def wokB(st:Bool):List W->Bool
 | []=>false
 | w::r=>(goodB w||(st&&decide (w=[42])))&&r.all goodB
theorem Q7R{st:Bool}{ws:List W}(h:WOk st ws):wokB st ws=true:=by
 obtain⟨w0,r,rfl,h1,h2⟩:=h.ex;unfold wokB;rw[Zc,Z5];refine⟨?_,fun w hw=>Q5A.mp (h2 w hw)⟩;rcases h1 with q | ⟨q1,q2⟩
 ·rw[Q5A.mp q];rfl
 ·rw[q1,q2];decide
noncomputable def zbO(z:W):W:=if z.getLast? = some 46 then z.dropLast else z
theorem Q7S{st:Bool}{top a:List W}{z:W}(h1:z≠[64])(h2:z≠[46])(h3:wokB st (za1 46 (zbO z))=false):¬ Told st top z a:=by
 rintro (⟨q,_⟩ | ⟨q,_⟩ | ⟨z',rfl,_,q,_⟩ | ⟨_,q0,q,_⟩)
 ·exact h1 q
 ·exact h2 q
 ·have e:zbO (z'++[46])=z':=by unfold zbO;rw[Zm (by simp)];simp
  rw[e,Q7R q]at h3;cases h3
 ·have e:zbO z=z:=by
   unfold zbO;rw[Zj fun y=>?_];obtain⟨u,hu⟩:=List.getLast?_eq_some_iff.mp y;exact q0 ⟨u,hu⟩
  rw[e,Q7R q]at h3;cases h3
theorem Q4o{st:Bool}{top:List W}{z:W}(h1:z≠[64])(h2:z≠[46])(h3:wokB st (za1 46 (zbO z))=false):zak st top z=none:=Q1i fun a q=>absurd q (Q7S h1 h2 h3)
theorem Q6d{st:Bool}{top:List W}{z:W}(h:∃ z',z=z'++[46]/\z'≠[]/\z≠[64]/\10<(za1 46 z').length):zak st top z=none:=Q1i fun a q=>by
 obtain⟨z',rfl,hz,h1,hl⟩:=h;obtain⟨_,rfl⟩:=(Q1B hz).mp q;unfold zay;rw[ZB,Zi];omega
noncomputable def badL:List W:=[[97,46,46,98,46],[46,97],[97,95,98,46],[42,46,42,46],[97,46,42],[97,98,99,100,101,102,103,104,105,106,107,108,109,46],[64,46],[97,58,98],[97,46,97,46,97,46,97,46,97,46,97,46,97,46,97,46,97,46,97,46,97,46],[97,46,46]]
theorem Q9o(hb:b∈badL)(st:Bool)(top:List W):zak st top b=none:=by
 simp only[badL,Zx,ZN,or_false]at hb;rcases hb with rfl | rfl | rfl | rfl | rfl | rfl | rfl | rfl | rfl | rfl
 case inr.inr.inr.inr.inr.inr.inr.inr.inl=>exact Q6d ⟨[97,46,97,46,97,46,97,46,97,46,97,46,97,46,97,46,97,46,97,46,97],rfl,by decide,by decide,by decide⟩
 all_goals exact Q4o (by decide) (by decide) (by cases st <;> decide)
structure LW(lead:Bool)(ws:List W)(z:W):Prop where
 wd:za7 z=ws
 tk:z.take 1=[32] <-> lead=true
 ok:LnOk z
section
variable{top:List W}{rows:List Rw}{z nm l k v:W}{ws:List W}{c:Nat}{a:List W}
theorem Q5B(h:zaF top rows z=.error c):za9 top rows z=.error c:=by
 unfold za9;rw[h]
theorem Q7T(h:zaX k=false):zaa a top l k v=.error 1:=by
 unfold zaa;split
 ·rfl
 ·rw[h];rfl
end
noncomputable def b_ak:CS :=
  (.seq (.set 1 (.con (.str [])))
  (.seq (.for1 2 (.var 0)
  (.seq (.set 1 (.bin .add (.bin .add (.var 2) (.con (.str [46]))) (.var 1)))
  .nil))
  (.seq (.ret (.var 1))
  .nil)))
noncomputable def b_a9:CS :=
  (.seq (.set 3 (.call 104 (.cons (.var 0) .nil)))
  (.seq (.ite (.cmp .eq (.var 0) (.tup .nil))
  (.seq (.set 3 (.con (.str [46])))
  .nil)
  .nil)
  (.seq (.ite (.and (.cmp .gt (.bin .mod (.var 2) (.con (.int 3))) (.con (.int 0))) (.cmp .eq (.sl (.var 0) .nil (.blt .len (.cons (.var 1) .nil))) (.var 1)))
  (.seq (.set 3 (.con (.str [64])))
  (.seq (.ite (.cmp .ne (.var 0) (.var 1))
  (.seq (.set 3 (.sl (.call 104 (.cons (.sl (.var 0) (.blt .len (.cons (.var 1) .nil)) .nil) .nil)) .nil (.neg (.con (.int 1)))))
  .nil)
  .nil)
  .nil))
  .nil)
  (.seq (.ite (.cmp .eq (.bin .mod (.bin .fdiv (.var 2) (.con (.int 3))) (.con (.int 2))) (.con (.int 1)))
  (.seq (.ret (.ms .upper (.var 3) .nil))
  .nil)
  .nil)
  (.seq (.ret (.var 3))
  .nil)))))
noncomputable def b_ae:CS :=
  (.seq (.set 4 (.call 103 (.cons (.var 0) (.cons (.var 2) (.cons (.var 3) (.cons (.call 101 (.cons (.var 2) (.cons (.bin .add (.var 3) (.con (.int 3))) (.cons (.con (.int 4)) .nil)))) .nil))))))
  (.seq (.ite (.cmp .gt (.call 101 (.cons (.var 2) (.cons (.bin .add (.var 3) (.con (.int 4))) (.cons (.con (.int 9)) .nil)))) (.con (.int 0)))
  (.seq (.set 4 (.bin .add (.var 1) (.var 4)))
  .nil)
  .nil)
  (.seq (.ite (.cmp .eq (.call 101 (.cons (.var 2) (.cons (.bin .add (.var 3) (.con (.int 5))) (.cons (.con (.int 6)) .nil)))) (.con (.int 1)))
  (.seq (.set 4 (.bin .add (.var 4) (.tup (.cons (.con (.str [42])) .nil))))
  .nil)
  .nil)
  (.seq (.ret (.tup (.cons (.var 4) (.cons (.call 105 (.cons (.var 4) (.cons (.var 1) (.cons (.call 101 (.cons (.var 2) (.cons (.bin .add (.var 3) (.con (.int 6))) (.cons (.con (.int 6)) .nil)))) .nil)))) .nil))))
  .nil))))
noncomputable def b_ax:CS :=
  (.seq (.set 1 (.lstz (.cons (.con (.str [97,46,46,98,46])) (.cons (.con (.str [46,97])) (.cons (.con (.str [97,95,98,46])) (.cons (.con (.str [42,46,42,46])) (.cons (.con (.str [97,46,42])) (.cons (.con (.str [97,98,99,100,101,102,103,104,105,106,107,108,109,46])) (.cons (.con (.str [64,46])) (.cons (.con (.str [97,58,98])) (.cons (.con (.str [97,46,97,46,97,46,97,46,97,46,97,46,97,46,97,46,97,46,97,46,97,46])) (.cons (.con (.str [97,46,46])) .nil))))))))))))
  (.seq (.ret (.tup (.cons (.con .non) (.cons (.ix (.var 1) (.bin .mod (.var 0) (.con (.int 10)))) .nil))))
  .nil))
noncomputable def b_ap:CS :=
  (.seq (.ite (.cmp .eq (.var 1) (.con (.int 2)))
  (.seq (.ret (.ix (.lstz (.cons (.con (.str [77,97,114,107])) (.cons (.con (.str [109,45,107])) (.cons (.con (.str [109,97,114,107,109,97,114,107,109])) (.cons (.con (.str [68,79,87,78])) (.cons (.con (.str [101,108,115,101,46])) (.cons (.con (.str [55])) .nil))))))) (.bin .mod (.var 0) (.con (.int 6)))))
  .nil)
  .nil)
  (.seq (.ret (.ix (.lstz (.cons (.con (.str [109,97,114,107])) (.cons (.con (.str [100,111,111,114])) (.cons (.con (.str [100,111,119,110])) (.cons (.con (.str [101,108,115,101])) (.cons (.con (.str [109])) (.cons (.con (.str [109,97,114,107,109,97,114,107])) .nil))))))) (.call 101 (.cons (.var 0) (.cons (.con (.int 2)) (.cons (.con (.int 6)) .nil))))))
  .nil))
noncomputable def b_af:CS :=
  (.seq (.set 2 (.ix (.lstz (.cons (.bin .mod (.bin .mul (.var 0) (.con (.int 48271))) (.con (.int 999999937))) (.cons (.bin .sub (.con (.int 999999999)) (.bin .mod (.var 0) (.con (.int 100)))) .nil))) (.bin .fdiv (.call 101 (.cons (.var 0) (.cons (.con (.int 17)) (.cons (.con (.int 6)) .nil)))) (.con (.int 5)))))
  (.seq (.ite (.cmp .eq (.var 1) (.con (.int 1)))
  (.seq (.ret (.tup (.cons (.con .non) (.cons (.ix (.lstz (.cons (.con (.str [48,53])) (.cons (.con (.str [49,48,48,48,48,48,48,48,48,48])) (.cons (.con (.str [120])) (.cons (.con (.str [45,49])) (.cons (.con (.str [48,48])) (.cons (.con (.str [53,46])) .nil))))))) (.bin .mod (.var 0) (.con (.int 6)))) .nil))))
  .nil)
  .nil)
  (.seq (.ret (.tup (.cons (.var 2) (.cons (.blt .str (.cons (.var 2) .nil)) .nil))))
  .nil)))
noncomputable def b_aD:CS :=
  (.seq (.set 4 (.call 106 (.cons (.var 0) (.cons (.var 1) (.cons (.var 2) (.cons (.con (.int 3)) .nil))))))
  (.seq (.set 5 (.call 106 (.cons (.var 0) (.cons (.var 1) (.cons (.var 2) (.cons (.con (.int 10)) .nil))))))
  (.seq (.ite (.cmp .eq (.var 3) (.con (.int 0)))
  (.seq (.set 4 (.call 107 (.cons (.var 2) .nil)))
  .nil)
  .nil)
  (.seq (.ite (.cmp .eq (.var 3) (.con (.int 3)))
  (.seq (.set 5 (.call 107 (.cons (.var 2) .nil)))
  .nil)
  .nil)
  (.seq (.ite (.cmp .eq (.var 3) (.con (.int 4)))
  (.seq (.set 5 (.tup (.cons (.con .non) (.cons (.bin .mulS (.con (.str [120])) (.con (.int 41))) .nil))))
  .nil)
  .nil)
  (.seq (.set 6 (.call 109 (.cons (.var 2) (.cons (.var 3) .nil))))
  (.seq (.ret (.tup (.cons (.var 4) (.cons (.var 6) (.cons (.call 108 (.cons (.var 2) (.cons (.var 3) .nil))) (.cons (.var 5) .nil))))))
  .nil)))))))
noncomputable def b_ad:CS :=
  (.seq (.for1 2 (.var 0)
  (.seq (.ite (.cmp .eq (.ix (.var 2) (.con (.int 0))) (.ix (.var 1) (.con (.int 0))))
  (.seq (.ite (.or (.cmp .eq (.ix (.var 2) (.con (.int 2))) (.con (.str [101,108,115,101]))) (.cmp .eq (.ix (.var 1) (.con (.int 2))) (.con (.str [101,108,115,101]))))
  (.seq (.ret (.con (.bl true)))
  .nil)
  .nil)
  (.seq (.ite (.and (.cmp .eq (.ix (.var 2) (.con (.int 2))) (.ix (.var 1) (.con (.int 2)))) (.or (.cmp .eq (.ix (.var 1) (.con (.int 2))) (.con (.str [100,111,119,110]))) (.cmp .eq (.ix (.var 2) (.con (.int 3))) (.ix (.var 1) (.con (.int 3))))))
  (.seq (.ret (.con (.bl true)))
  .nil)
  .nil)
  .nil))
  .nil)
  .nil))
  (.seq (.ret (.con (.bl false)))
  .nil))
noncomputable def b_az:CS :=
  (.seq (.set3 4 5 6 (.cons (.ix (.ix (.var 3) (.con (.int 1))) (.con (.int 0))) (.cons (.ix (.var 3) (.con (.int 2))) (.cons (.ix (.var 3) (.con (.int 3))) .nil))))
  (.seq (.ite (.cmp .isN (.var 2) (.con .non))
  (.seq (.ret (.con (.str [110,97,109,101])))
  .nil)
  .nil)
  (.seq (.ite (.cmp .ne (.sl (.var 2) .nil (.blt .len (.cons (.var 0) .nil))) (.var 0))
  (.seq (.ret (.con (.str [111,117,116,115,105,100,101])))
  .nil)
  .nil)
  (.seq (.ite (.or (.cmp .isN (.var 4) (.con .non)) (.cmp .nin (.var 5) (.lstz (.cons (.con (.str [109,97,114,107])) (.cons (.con (.str [100,111,111,114])) (.cons (.con (.str [100,111,119,110])) (.cons (.con (.str [101,108,115,101])) (.cons (.con (.str [109])) (.cons (.con (.str [109,97,114,107,109,97,114,107])) .nil)))))))))
  (.seq (.ret (.con (.str [114,111,119])))
  .nil)
  .nil)
  (.seq (.ite (.and (.cmp .inn (.var 5) (.lstz (.cons (.con (.str [100,111,119,110])) (.cons (.con (.str [101,108,115,101])) .nil)))) (.or (.cmp .isN (.ix (.var 6) (.con (.int 0))) (.con .non)) (.cmp .eq (.sl (.ix (.var 6) (.con (.int 0))) (.neg (.con (.int 1))) .nil) (.tup (.cons (.con (.str [42])) .nil)))))
  (.seq (.ret (.con (.str [110,97,109,101])))
  .nil)
  .nil)
  (.seq (.ite (.and (.cmp .nin (.var 5) (.lstz (.cons (.con (.str [100,111,119,110])) (.cons (.con (.str [101,108,115,101])) .nil)))) (.cmp .gt (.blt .len (.cons (.ix (.var 6) (.con (.int 1))) .nil)) (.con (.int 40))))
  (.seq (.ret (.con (.str [114,111,119])))
  .nil)
  .nil)
  (.seq (.ite (.and (.cmp .eq (.var 5) (.con (.str [100,111,119,110]))) (.or (.cmp .eq (.var 2) (.var 0)) (.cmp .eq (.ix (.var 2) (.neg (.con (.int 1)))) (.con (.str [42])))))
  (.seq (.ret (.con (.str [99,117,116])))
  .nil)
  .nil)
  (.seq (.set 7 (.tup (.cons (.var 2) (.cons (.var 4) (.cons (.var 5) (.cons (.ix (.var 6) (.con (.int 1))) .nil))))))
  (.seq (.ite (.cmp .inn (.var 5) (.lstz (.cons (.con (.str [100,111,119,110])) (.cons (.con (.str [101,108,115,101])) .nil))))
  (.seq (.set 7 (.tup (.cons (.var 2) (.cons (.var 4) (.cons (.var 5) (.cons (.ix (.var 6) (.con (.int 0))) .nil))))))
  .nil)
  .nil)
  (.seq (.ite (.call 111 (.cons (.var 1) (.cons (.var 7) .nil)))
  (.seq (.ret (.con (.str [99,108,97,115,104])))
  .nil)
  .nil)
  (.seq (.ex (.ml .append (.var 1) (.cons (.var 7) .nil)))
  (.seq (.ret (.con (.str [103,111,111,100])))
  .nil))))))))))))
noncomputable def b_aF:CS :=
  (.seq (.set 5 (.bin .mulS (.con (.str [32])) (.bin .add (.con (.int 1)) (.bin .mod (.bin .fdiv (.var 3) (.con (.int 7))) (.con (.int 2))))))
  (.seq (.set 6 (.bin .mulS (.con (.str [32])) (.bin .mod (.bin .fdiv (.var 3) (.con (.int 14))) (.con (.int 2)))))
  (.seq (.set 7 (.bin .add (.bin .add (.bin .add (.bin .add (.bin .add (.ix (.ix (.var 2) (.con (.int 1))) (.con (.int 1))) (.var 5)) (.ix (.var 2) (.con (.int 2)))) (.con (.str [32]))) (.ix (.ix (.var 2) (.con (.int 3))) (.con (.int 1)))) (.var 6)))
  (.seq (.set 8 (.ix (.ix (.var 2) (.con (.int 0))) (.con (.int 0))))
  (.seq (.ite (.and (.cmp .eq (.bin .mod (.var 3) (.con (.int 4))) (.con (.int 1))) (.cmp .ne (.var 1) (.lstz .nil)))
  (.seq (.set 8 (.ix (.ix (.var 1) (.neg (.con (.int 1)))) (.con (.int 0))))
  (.seq (.set 7 (.bin .add (.var 5) (.var 7)))
  .nil))
  (.seq (.set 7 (.bin .add (.bin .add (.ix (.ix (.var 2) (.con (.int 0))) (.con (.int 1))) (.var 5)) (.var 7)))
  .nil))
  (.seq (.ite (.cmp .inn (.var 4) (.lstz (.cons (.con (.int 5)) (.cons (.con (.int 21)) (.cons (.con (.int 23)) .nil)))))
  (.seq (.ret (.tup (.cons (.bin .add (.var 7) (.con (.str [32,120]))) (.cons (.con (.str [114,111,119])) .nil))))
  .nil)
  .nil)
  (.seq (.ite (.cmp .eq (.var 4) (.con (.int 22)))
  (.seq (.ret (.tup (.cons (.bin .add (.bin .add (.var 5) (.con (.str [59]))) (.var 7)) (.cons (.con (.str [114,111,119])) .nil))))
  .nil)
  .nil)
  (.seq (.ite (.cmp .eq (.var 4) (.con (.int 6)))
  (.seq (.ret (.tup (.cons (.bin .add (.bin .add (.bin .add (.var 5) (.ix (.ix (.var 2) (.con (.int 1))) (.con (.int 1)))) (.var 5)) (.ix (.var 2) (.con (.int 2)))) (.cons (.con (.str [114,111,119])) .nil))))
  .nil)
  .nil)
  (.seq (.ret (.tup (.cons (.var 7) (.cons (.call 112 (.cons (.var 0) (.cons (.var 1) (.cons (.var 8) (.cons (.var 2) .nil))))) .nil))))
  .nil)))))))))
noncomputable def b_am:CS :=
  (.seq (.set 5 (.lst .nil))
  (.seq (.set 6 (.tup (.cons (.con (.str [103,111,111,100])) (.cons (.con (.int 0)) .nil))))
  (.seq (.for1 7 (.var 3)
  (.seq (.set 8 (.con (.int 99)))
  (.seq (.ite (.var 4)
  (.seq (.set 8 (.call 101 (.cons (.var 7) (.cons (.con (.int 20)) (.cons (.con (.int 140)) .nil)))))
  .nil)
  .nil)
  (.seq (.set 9 (.call 110 (.cons (.var 0) (.cons (.var 1) (.cons (.var 7) (.cons (.var 8) .nil))))))
  (.seq (.set2 10 11 (.call 113 (.cons (.var 1) (.cons (.var 2) (.cons (.var 9) (.cons (.var 7) (.cons (.var 8) .nil)))))))
  (.seq (.ite (.cmp .eq (.bin .mod (.var 7) (.con (.int 11))) (.con (.int 3)))
  (.seq (.ex (.ml .append (.var 5) (.cons (.ix (.lstz (.cons (.bin .add (.con (.str [59])) (.sl (.var 10) .nil (.con (.int 9)))) (.cons (.con (.str [])) (.cons (.con (.str [32,32])) .nil)))) (.bin .mod (.bin .fdiv (.var 7) (.con (.int 11))) (.con (.int 3)))) .nil)))
  .nil)
  .nil)
  (.seq (.ite (.and (.cmp .ne (.var 11) (.con (.str [103,111,111,100]))) (.and (.cmp .gt (.var 8) (.con (.int 23))) (.not (.and (.var 4) (.and (.cmp .eq (.ix (.var 9) (.con (.int 2))) (.con (.str [100,111,119,110]))) (.cmp .eq (.bin .mod (.var 7) (.con (.int 2))) (.con (.int 1))))))))
  (.seq (.set 10 (.bin .add (.con (.str [59])) (.var 10)))
  (.seq (.set 11 (.con (.str [103,111,111,100])))
  .nil))
  .nil)
  (.seq (.ex (.ml .append (.var 5) (.cons (.var 10) .nil)))
  (.seq (.ite (.cmp .ne (.var 11) (.con (.str [103,111,111,100])))
  (.seq (.ret (.tup (.cons (.var 5) (.cons (.tup (.cons (.var 11) (.cons (.bin .add (.blt .len (.cons (.var 5) .nil)) (.con (.int 1))) .nil))) .nil))))
  .nil)
  .nil)
  .nil)))))))))
  (.seq (.ret (.tup (.cons (.var 5) (.cons (.var 6) .nil))))
  .nil))))
noncomputable def b_an:CS :=
  (.seq (.set 1 (.tup (.cons (.con (.str [103,111,111,100])) (.cons (.con (.int 0)) .nil))))
  (.seq (.trym 42 (.cons (.var 0) .nil) 2 1 [("BadRow",[(.lit (.str [114,111,119])),.row]),("BadName",[(.lit (.str [110,97,109,101])),.row]),("Outside",[(.lit (.str [111,117,116,115,105,100,101])),.row]),("BadCut",[(.lit (.str [99,117,116])),.row]),("Clash",[(.lit (.str [99,108,97,115,104])),.row]),("ZoneError",[(.lit (.str [111,116,104,101,114])),.row])])
  (.seq (.ret (.var 1))
  .nil)))
noncomputable def b_ay:CS :=
  (.seq (.ite (.or (.not (.isi .tuple (.var 1))) (.or (.cmp .ne (.blt .len (.cons (.var 1) .nil)) (.con (.int 4))) (.not (.isi .tuple (.ix (.var 1) (.con (.int 0)))))))
  (.seq (.ret (.con (.bl false)))
  .nil)
  .nil)
  (.seq (.ite (.or (.not (.isi .int (.ix (.var 1) (.con (.int 1))))) (.or (.isi .bool (.ix (.var 1) (.con (.int 1)))) (.cmp .ne (.sl (.ix (.var 1) (.con (.int 0))) .nil (.blt .len (.cons (.var 0) .nil))) (.var 0))))
  (.seq (.ret (.con (.bl false)))
  .nil)
  .nil)
  (.seq (.ite (.and (.cmp .eq (.ix (.var 1) (.con (.int 2))) (.con (.str [100,111,119,110]))) (.or (.cmp .eq (.ix (.var 1) (.con (.int 0))) (.var 0)) (.cmp .eq (.ix (.ix (.var 1) (.con (.int 0))) (.neg (.con (.int 1)))) (.con (.str [42])))))
  (.seq (.ret (.con (.bl false)))
  .nil)
  .nil)
  (.seq (.ret (.cmp .eq (.isi .tuple (.ix (.var 1) (.con (.int 3)))) (.cmp .inn (.ix (.var 1) (.con (.int 2))) (.lstz (.cons (.con (.str [100,111,119,110])) (.cons (.con (.str [101,108,115,101])) .nil))))))
  .nil))))
noncomputable def b_aq:CS :=
  (.seq (.ite (.or (.not (.isi .tuple (.var 0))) (.or (.cmp .ne (.blt .len (.cons (.var 0) .nil)) (.con (.int 3))) (.not (.isi .list (.ix (.var 0) (.con (.int 2)))))))
  (.seq (.ret (.con (.bl false)))
  .nil)
  .nil)
  (.seq (.ite (.or (.not (.isi .tuple (.ix (.var 0) (.con (.int 0))))) (.or (.cmp .ne (.ix (.var 0) (.con (.int 0))) (.var 1)) (.or (.isi .bool (.ix (.var 0) (.con (.int 1)))) (.cmp .ne (.ix (.var 0) (.con (.int 1))) (.var 2)))))
  (.seq (.ret (.con (.bl false)))
  .nil)
  .nil)
  (.seq (.for1 3 (.rng1 (.blt .len (.cons (.ix (.var 0) (.con (.int 2))) .nil)))
  (.seq (.ite (.or (.not (.call 116 (.cons (.var 1) (.cons (.ix (.ix (.var 0) (.con (.int 2))) (.var 3)) .nil)))) (.call 111 (.cons (.sl (.ix (.var 0) (.con (.int 2))) .nil (.var 3)) (.cons (.ix (.ix (.var 0) (.con (.int 2))) (.var 3)) .nil))))
  (.seq (.ret (.con (.bl false)))
  .nil)
  .nil)
  .nil))
  (.seq (.ret (.con (.bl true)))
  .nil))))
noncomputable def b_law:CS :=
  (.seq (.set 1 (.call 102 (.cons (.call 100 (.cons (.var 0) (.cons (.con (.int 0)) .nil))) (.cons (.call 100 (.cons (.var 0) (.cons (.con (.int 1)) .nil))) .nil))))
  (.seq (.set 2 (.call 103 (.cons (.var 1) (.cons (.call 100 (.cons (.var 0) (.cons (.con (.int 2)) .nil))) (.cons (.con (.int 1)) (.cons (.call 101 (.cons (.call 100 (.cons (.var 0) (.cons (.con (.int 2)) .nil))) (.cons (.con (.int 0)) (.cons (.con (.int 4)) .nil)))) .nil))))))
  (.seq (.set 3 (.bin .mod (.call 100 (.cons (.var 0) (.cons (.con (.int 3)) .nil))) (.bin .pow (.con (.int 10)) (.con (.int 9)))))
  (.seq (.set 4 (.lst .nil))
  (.seq (.fz 5 (.fz 4 (.set2 5 6 (.call 114 (.cons (.var 1) (.cons (.var 2) (.cons (.var 4) (.cons (.sl (.var 0) (.con (.int 4)) (.con (.int 44))) (.cons (.cmp .gt (.bin .mod (.call 100 (.cons (.var 0) (.cons (.con (.int 3)) .nil))) (.con (.int 3))) (.con (.int 0))) .nil)))))))))
  (.seq (.set 7 (.ms .join (.con (.str [10])) (.cons (.frz (.bin .addL (.lstz (.cons (.bin .add (.bin .add (.bin .add (.con (.str [122,111,110,101,32])) (.call 105 (.cons (.var 2) (.cons (.var 2) (.cons (.con (.int 0)) .nil))))) (.con (.str [32]))) (.blt .str (.cons (.var 3) .nil))) .nil)) (.var 5))) .nil)))
  (.seq (.ite (.cmp .ne (.call 115 (.cons (.var 7) .nil)) (.var 6))
  (.seq (.ret (.con (.bl false)))
  .nil)
  .nil)
  (.seq (.ite (.cmp .ne (.ix (.var 6) (.con (.int 0))) (.con (.str [103,111,111,100])))
  (.seq (.ret (.con (.bl true)))
  .nil)
  .nil)
  (.seq (.set 8 (.fzt (.callx 42 (.cons (.var 7) .nil))))
  (.seq (.ite (.or (.not (.call 117 (.cons (.var 8) (.cons (.var 2) (.cons (.var 3) .nil))))) (.cmp .ne (.ix (.var 8) (.con (.int 2))) (.var 4)))
  (.seq (.ret (.con (.bl false)))
  .nil)
  .nil)
  (.seq (.ret (.cmp .eqR (.callx 42 (.cons (.call 40 (.cons (.var 8) .nil)) .nil)) (.tup (.cons (.var 2) (.cons (.var 3) (.cons (.var 4) .nil))))))
  .nil)))))))))))
noncomputable def up(w:W):W:=w.map up1
noncomputable def fT(b:Bool)(w:W):W:=if b=true then up w else w
theorem Q5C:∀ c∈signs,up1 c∈zaT/\lo1 (up1 c)=c/\up1 c≠10/\up1 c≠32/\up1 c≠59:=by decide
theorem Q9P(b:Bool)(w:W):(fT b w).length=w.length:=by unfold fT up;split <;> simp
theorem Q3y{b:Bool}{w:W}(h:Wd w):zb5 (fT b w)/\low (fT b w)=w:=by
 cases b with
 | false=>exact⟨Q3w h,Q9O h⟩
 | true =>
  refine⟨⟨?_,?_,fun c hc=>?_⟩,?_⟩
  ·show 1<=(w.map up1).length;rw[Zi];exact h.lo
  ·show (w.map up1).length<=12;rw[Zi];exact h.hi
  ·obtain⟨d,hd,rfl⟩:=mem_map.mp (show c∈w.map up1 from hc);exact (Q5C d (h.al d hd)).1
  ·show (w.map up1).map lo1=w;rw[map_map];exact (map_congr_left fun c hc=>(Q5C c (h.al c hc)).2.1).trans (map_id _)
theorem Q4N(b:Bool):fT b [42]=[42]:=by cases b <;> rfl
theorem Q7U(c:Nat)(hc:up1 c=c):∀ ws:List W,(za4 [c] ws).map up1=za4 [c] (ws.map up)
 | []=>rfl
 | [w]=>rfl
 | w::v::r=>by
  have ih:=Q7U c hc (v::r);show (w++[c]++za4 [c] (v::r)).map up1=w.map up1++[c]++za4 [c] ((v::r).map up);rw[ZY,ZY,ih,Z8,map_nil,hc]
theorem Q7V(b:Bool)(ws:List W):fT b (za4 [46] ws)=za4 [46] (ws.map (fT b)):=by
 cases b with
 | false=>show za4 [46] ws=za4 [46] (ws.map id);rw[map_id]
 | true=>exact Q7U 46 rfl ws
theorem Qcx(b:Bool)(x y:W):fT b (x++y)=fT b x++fT b y:=by unfold fT up;split <;> simp
theorem NmW.words{st:Bool}{d:List W}(h:NmW st d)(hne:d≠[])(hl:d.length<=10)(b:Bool):Words st (d.reverse.map (fT b))/\zay (d.reverse.map (fT b))=d:=by
 constructor
 ·refine⟨?_,by rw[Zi,ZB];omega⟩
  rcases h with h | ⟨hs,c,rfl,h⟩
  ·cases er:d.reverse with
   | nil=>exact absurd (List.reverse_eq_nil_iff.mp er) hne
   | cons w r =>
    have hm:∀ x∈w::r,Wd x:=fun x hx=>h x (Yg.mp (by rw[er];exact hx))
    refine⟨fT b w,r.map (fT b),rfl,.inl (Q3y (hm w Zl)).1,fun x hx=>?_⟩;obtain⟨y,hy,rfl⟩:=mem_map.mp hx;exact (Q3y (hm y (Zo _ hy))).1
  ·refine⟨[42],c.reverse.map (fT b),by rw[reverse_append];show fT b [42]::_=_;rw[Q4N];rfl,.inr ⟨hs,rfl⟩,fun x hx=>?_⟩
   obtain⟨y,hy,rfl⟩:=mem_map.mp hx;exact (Q3y (h y (Yg.mp hy))).1
 ·unfold zay;rw[map_map,map_reverse,List.reverse_reverse];refine (map_congr_left fun w hw=>?_).trans (map_id _);show low (fT b w)=w;rcases h.each w hw with q | q
  ·exact (Q3y q).2
  ·rw[q,Q4N];rfl
theorem Q5D:∀ c∈signs,(c∈zaz/\c≠59)/\(up1 c∈zaz/\up1 c≠59):=by decide
structure NTx(n top:List W)(way:Int)(z:W):Prop where
 rd:∀ st,NmW st n->Reads st top z n
 ne:z≠[]
 ch:∀ c∈z,c∈zaz/\c≠59
 le:z.length<=200
theorem fT_ch{b:Bool}{d:List W}{st:Bool}(h:NmW st d):∀ w∈d,∀ c∈fT b w,c∈zaz/\c≠59:=fun w hw c hc=>by
 rcases h.each w hw with q | q
 ·cases b with
  | false=>exact (Q5D c (q.al c hc)).1
  | true =>
   obtain⟨e,he,rfl⟩:=mem_map.mp (show c∈w.map up1 from hc);exact (Q5D e (q.al e he)).2
 ·rw[q,Q4N]at hc;rw[Zp.mp hc];decide
theorem Q7W{b:Bool}{d:List W}{st:Bool}(h:NmW st d):∀ c∈za4 [46] (d.reverse.map (fT b)),c∈zaz/\c≠59:=fun c hc=>by
 rcases Q0D hc with hc | ⟨w,hw,hc⟩
 ·rw[Zp.mp hc];decide
 ·obtain⟨y,hy,rfl⟩:=mem_map.mp hw;exact fT_ch h y (Yg.mp hy) c hc
theorem Qb8{n top:List W}{way:Int}(h:NmW true n)(hl:n.length<=10)(b:Bool):NTx n top way (fT b (zad n)):=by
 have e:fT b (zad n)=za4 [46] (n.reverse.map (fT b))++[46]:=by
  unfold zad;rw[Qcx,Q7V];cases b <;> rfl
 refine⟨fun st hst=>?_,by rw[e];simp,?_,by rw[Q9P];exact (h.small hl).2⟩
 ·by_cases e0:n=[]
  ·subst e0;refine .inr (.inl ⟨?_,rfl⟩);cases b <;> rfl
  ·have:=hst.words e0 hl b;exact .inr (.inr (.inl ⟨_,this.1,e,this.2.symm⟩))
 ·intro c hc;rw[e]at hc;rcases Z3.mp hc with hc | hc
  ·exact Q7W h c hc
  ·rw[Zp.mp hc];decide
theorem tx_at{top:List W}{way:Int}(hw:¬ way % 3=0)(b:Bool):NTx top top way (fT b [64]):=by
 have e:fT b [64]=[64]:=by cases b <;> rfl
 rw[e];exact⟨fun _ _=>.inl ⟨rfl,rfl⟩,by decide,by decide,by decide⟩
theorem NmW.rest{st:Bool}{top d:List W}(h:NmW st (top++d))(hd:d≠[]):NmW st d:=by
 rcases h with h | ⟨hs,c,e,h⟩
 ·exact .inl fun w hw=>h w (Zy _ hw)
 ·have e1:(top++d.dropLast)++[d.getLast hd]=c++[[42]]:=by rw[Z9,List.dropLast_concat_getLast hd];exact e
  obtain⟨e2,e3⟩:=append_inj' e1 rfl;refine .inr ⟨hs,d.dropLast,?_,fun w hw=>h w (by rw[<- e2];exact Zy _ hw)⟩
  rw[<- e3];exact (List.dropLast_concat_getLast hd).symm
theorem Q9p{top d:List W}{way:Int}(h:NmW true (top++d))(hd:d≠[])(hl:(top++d).length<=10)(hw:¬ way % 3=0)(b:Bool):NTx (top++d) top way (fT b (za4 [46] d.reverse)):=by
 have hdl:d.length<=10:=by rw[Zd]at hl;omega
 have hn:=h.rest hd;have e:fT b (za4 [46] d.reverse)=za4 [46] (d.reverse.map (fT b)):=Q7V b _;have hws:=hn.words hd hdl b;refine⟨fun st hst=>?_,?_,by rw[e];exact Q7W hn,?_⟩
 ·have:=(hst.rest hd).words hd hdl b;exact .inr (.inr (.inr ⟨_,this.1,e,by rw[this.2]⟩))
 ·rw[e];obtain⟨z,c,e2,_⟩:=hws.1.last;rw[e2];simp
 ·rw[Q9P];have:=(hn.small hdl).2;unfold zad at this;rw[Zd]at this;omega
noncomputable def bl(n:Nat):W:=List.replicate n 32
theorem bl_of(n:Nat):(List.replicate n ([32]:W)).flatten=bl n:=by
 unfold bl
 induction n with
 | zero=>rfl
 | succ n ih=>rw[replicate_succ,flatten_cons,ih,replicate_succ];rfl
theorem Q0Q(r:W):∀ n,za7 (bl n++r)=za7 r
 | 0=>rfl
 | n+1=>by
  have e:za1 32 (bl (n+1)++r)=[]::za1 32 (bl n++r):=by
   show za1 32 (32::(bl n++r))=_;show (if (32:Nat)=32 then []::za1 32 (bl n++r) else _)=_
   rw[Zm rfl]
  have ih:=Q0Q r n;unfold za7 at ih ⊢;rw[e,filter_cons];simpa using ih
theorem Q2N{w:W}(h:Pl w)(hn:w≠[]):za7 w=[w]:=by
 unfold za7;rw[Q1n fun q=>(h 32 q).2 rfl];simp[hn]
theorem Q0r{w r:W}{n:Nat}(h:Pl w)(hn:w≠[]):za7 (w++(bl (n+1)++r))=w::za7 r:=by
 have e:za1 32 (w++(bl (n+1)++r))=w::za1 32 (bl n++r):=Q1I (c:=32) (r:=bl n++r) (w:=w) fun q=>(h 32 q).2 rfl;rw[<- Q0Q r n];unfold za7;rw[e,filter_cons];simp[hn]
theorem Qcy{z u:W}{c:Nat}(e:z=u++[c])(h:c≠32):∀ n,rst (z++bl n)=z:=fun n=>by
 unfold rst zai;subst e;have e1:((u++[c]++bl n).reverse.takeWhile fun x=>([32]:W).contains x)=bl n:=by
  rw[reverse_append,reverse_append];have e2:(bl n).reverse=bl n:=List.reverse_replicate ..;rw[e2,List.takeWhile_append_of_pos]
  ·simp[takeWhile_cons,h]
  ·intro x hx;rw[List.eq_of_mem_replicate hx];rfl
 simp only[ZT,Yj,if_true,drop_zero,e1];have e3:(u++[c]++bl n).length-(bl n).length-0=(u++[c]).length:=by rw[Zd];omega
 rw[e3,List.take_left]
noncomputable def sp_ak:DSp:=fun ds M R=>∃ a:List W,ds=[dn a]/\a.length<=10/\(∀ w∈a,w.length<=12)/\R (.str (dots a.reverse)) M
theorem ok_ak{T:Tab}:∀ ds M R,sp_ak ds M R->evS T b_ak (za6 R) (za5 ["a","b","c"] ds) M:=by
 rintro ds M R ⟨a,rfl,hl,hw,h⟩;simp only[b_ak,dn];walk_at "q1";rw[e1];clear e1;walk_at "q1";have dl:∀ j,(dots (a.take j).reverse).length<=130:=fun j=>by
  have:=Q3s (K:=12) (a.take j).reverse fun w hw'=>hw w (mem_of_mem_take (Yg.mp hw'));have h2:(a.take j).reverse.length * (12+1)<=10 * 13:=mul_le_mul_right _ (by rw[ZB,ZU];omega)
  omega
 refine Q1h (fun j ρ M''=>M''=M/\∃ v,ρ=[some (.tup (a.map D.str)),some (.str (dots (a.take j).reverse)),v]) ⟨rfl,none,rfl⟩ (fun _ _ _ _=>trivial) ?_ ?_
 ·rintro j d ρ M'' k2 hj ⟨rfl,v,rfl⟩ hk2;rw[ZC]at hj;cases ej:a[j]? with
  | none=>rw[ej]at hj;cases hj
  | some w =>
  rw[ej]at hj;cases hj;have hww:=hw w (Z0 ej);have dj:=dl j;simp only[zan];walk_at "ev";refine⟨szL (by omega),szL (by rw[Zd];simp only[Zk,Zu];omega),hk2 _ _ ⟨rfl,some (.str w),?_⟩⟩
  rw[take_add_one,ej,reverse_append];have e7:dots ((Option.some w).toList.reverse++(a.take j).reverse)=w++[46]++dots (a.take j).reverse:=Q2E _ _;rw[e7]
 ·rintro ρ M'' ⟨rfl,v,rfl⟩;rw[Zi,take_length];rw[e1];clear e1;walk_at "ev";exact Q0b h
theorem Q7X{d:List W}(h:d≠[]):cut (dots d.reverse) none (some (-1))=za4 [46] d.reverse:=by
 have e:dots d.reverse=za4 [46] d.reverse++[46]:=by
  cases er:d.reverse with
  | nil=>exact absurd (List.reverse_eq_nil_iff.mp er) h
  | cons w r=>exact (Q2F w r).symm
 rw[e,Q5m]
noncomputable def sp_a9:DSp:=fun ds M R=>∃ (n top:List W) (way:Int),ds=[dn n,dn top,.int way]/\NmW true n/\n.length<=10/\top.length<=10/\∀ z,NTx n top way z->(way=0->z=zad n)->R (.str z) M
theorem Q7Y:∀ c∈signs,c<128:=by decide
theorem NmW.c128{st:Bool}{a:List W}(h:NmW st a):∀ c∈za4 [46] a.reverse,c<128:=fun c hc=>by
 rcases Q0D hc with hc | ⟨w,hw,hc⟩
 ·rw[Zp.mp hc];decide
 ·rcases h.each w (Yg.mp hw) with q | q
  ·exact Q7Y c (q.al c hc)
  ·rw[q]at hc;rw[Zp.mp hc];decide
theorem ok_a9(T:Tab)(h104:T.fn 104=some ⟨"_law_pointed",1,[],sp_ak⟩):∀ ds M R,sp_a9 ds M R->evS T b_a9 (za6 R) (za5 ["a","b","c","d"] ds) M:=by
 rintro ds M R ⟨n,top,way,rfl,hn,hl,ht,h⟩;simp only[b_a9,dn];walk_at "q1";simp only[h104];walk_at "ev";refine⟨n,rfl,hl,hn.len,?_⟩;rw[e1];clear e1;refine Q0a fun k1 e1=>?_;have mid:k1 [some (.tup (n.map D.str)),some (.tup (top.map D.str)),some (.int way),some (.str (zad n))] M:=by
  rw[e1];clear e1;refine Q0a fun k1 e1=>?_;have fin:∀ z0:W,(∀ b,NTx n top way (fT b z0))->(∀ c∈z0,c<128)->z0.length<=200->(way=0->z0=zad n)->k1 [some (.tup (n.map D.str)),some (.tup (top.map D.str)),some (.int way),some (.str z0)] M:=by
   intro z0 hz h1 h2 h3;rw[e1];clear e1;walk_at "q1";refine⟨⟨by decide,by decide⟩,by decide,rfl,rfl,ite2 (fun q=>?_) fun _=>?_⟩
   ·try simp only[m0S]
    exact⟨h1,by omega,Q0b (h _ (hz true) fun w0=>absurd (Zw q) (by rw[w0];decide))⟩
   ·rw[e1];clear e1;walk_at "ev";exact Q0b (h _ (hz false) h3)
  clear e1;have full:=fin (zad n) (Qb8 hn hl) (fun c hc=>by
   unfold zad at hc;rcases Z3.mp hc with hc | hc
   ·exact hn.c128 c hc
   ·rw[Zp.mp hc];decide) (hn.small hl).2 (fun _=>rfl)
  walk_at "ev";refine⟨by decide,ite2 (fun q1=>?_) fun _=>full⟩
  have hw:¬ way % 3=0:=by
   have:=Zw q1;omega
  rw[Q2C,Zi,<- map_take];simp only[Q1c];refine⟨Q0d _,Q0d _,ite2 (fun q2=>?_) fun _=>full⟩;have q2:=Zw q2
  try walk_at "ev"
  try simp only[Q1c]
  refine⟨Q0d _,Q0d _,ite2 (fun q3=>?_) fun q3=>?_⟩
  ·have hne:n≠top:=fun z=>by rw[z]at q3;simp at q3
   obtain⟨d,rfl⟩:∃ d,n=top++d:=⟨n.drop top.length,by
    have:=List.take_append_drop top.length n;rw[q2]at this;exact this.symm⟩
   have hd:d≠[]:=fun z=>hne (by rw[z,append_nil])
   have hdl:d.length<=10:=by rw[Zd]at hl;omega
   simp only[h104]
   try walk_at "ev"
   rw[Q2b];have e5:((top++d).map D.str).drop top.length=d.map D.str:=by rw[<- map_drop,List.drop_left]
   try rw[Zi]
   rw[e5];refine⟨d,rfl,hdl,fun w hw=>hn.len w (Zy _ hw),?_⟩
   try walk_at "ev"
   have hs:=(hn.rest hd).small hdl;have e6:(dots d.reverse).length<=200:=by rw[<- Q1L hd];exact hs.2
   rw[Q7X hd];refine⟨szL (by omega),fin _ (Q9p hn hd hl hw) (hn.rest hd).c128 ?_ (fun w0=>absurd (by rw[w0];rfl) hw)⟩
   have:=hs.2;unfold zad at this;rw[Zd]at this;omega
  ·have e7:n=top:=Classical.byContradiction fun z=>q3 (by simp[z])
   subst e7;exact fin [64] (tx_at hw) (by decide) (by decide) (fun w0=>absurd (by rw[w0];rfl) hw)
 clear e1;walk_at "ev";refine⟨szL (by decide),Q0d _,rfl,ite2 (fun q=>?_) fun q=>?_⟩
 ·have e0:n=[]:=List.map_eq_nil_iff.mp (D.tup.inj ((Q0s _ _).mp q));subst e0;exact mid
 ·have hne:n≠[]:=fun z=>q ((Q0s _ _).mpr (by rw[z];rfl))
  rw[<- Q1L hne];exact mid
theorem Q5E{ws:List W}(h:WOk false ws):WOk true ws:=by
 obtain⟨w0,r,e,h1,h2⟩:=h.ex;exact⟨⟨w0,r,e,h1.elim .inl fun z=>(nomatch z.1),h2⟩⟩
theorem Q7Z{top a:List W}{z:W}(h:Told false top z a):Told true top z a:=by
 rcases h with h | h | ⟨z',h1,h2,h3,h4⟩ | ⟨h1,h2,h3,h4⟩
 ·exact .inl h
 ·exact .inr (.inl h)
 ·exact .inr (.inr (.inl ⟨z',h1,h2,Q5E h3,h4⟩))
 ·exact .inr (.inr (.inr ⟨h1,h2,Q5E h3,h4⟩))
theorem Qb9:∀ c∈zaT,lo1 c≠42:=by decide
theorem Q8a{top a:List W}{z:W}(h:Told false top z a)(ht:∀ w∈top,Wd w):∀ b:List W,a≠b++[[42]]:=by
 have no:∀ {ws:List W} {b c:List W},WOk false ws->c++zay ws≠b++[[42]]:=fun{ws b c} hw e=>by
  obtain⟨w0,r,rfl,h1,_⟩:=hw.ex;rcases h1 with h1 | ⟨h1,_⟩
  ·have e2:zay (w0::r)=(r.map low).reverse++[low w0]:=by unfold zay;rw[Z8,reverse_cons]
   rw[e2,<- Z9]at e;have e3:=(append_inj' e rfl).2;have e4:low w0=[42]:=(List.cons.inj e3).1;have hl:w0.length=1:=by have:=congrArg List.length e4;unfold low at this;rw[Zi]at this;exact this
   match w0,hl with
   | [c],_ =>
    have:lo1 c=42:=(List.cons.inj e4).1;exact Qb9 c (h1.al c Zl) this
  ·cases h1
 intro b e;rcases h with ⟨_,rfl⟩ | ⟨_,rfl⟩ | ⟨z',_,_,h3,rfl⟩ | ⟨_,_,h3,rfl⟩
 ·have:=ht [42] (by rw[e];simp)
  exact absurd (this.al 42 Zl) (by decide)
 ·simp at e
 ·exact no (c:=[]) h3 e
 ·exact no h3 e
structure TxOk(t:W):Prop where
 ch:∀ c∈t,c∈zaz/\c≠59
 ne:t≠[]
 ln:t.length<=200
theorem n93:∀ c∈zaz,c≠10/\c≠32:=by decide
theorem TxOk.pl{t:W}(h:TxOk t):Pl t:=fun c hc=>n93 c (h.ch c hc).1
theorem TxOk.sc{t:W}(h:TxOk t):t.take 1≠[59]:=fun q=>(h.ch 59 (mem_of_mem_take (i:=1) (by rw[q];exact Zl))).2 rfl
theorem TxOk.val{t:W}(h:TxOk t):valB t=decide (t.length<=40):=by
 have hs:∀ c∈zaz,zau c:=by decide
 have lp:=length_pos_iff.mpr h.ne;by_cases q:t.length<=40
 ·rw[Ze q];exact Ze ⟨lp,q,fun c hc=>hs c (h.ch c hc).1⟩
 ·rw[Zg q];exact Zg fun z=>q z.2.1
structure NmT(top a:List W)(t:W):Prop extends TxOk t where
 nm:NmW true a
 le:a.length<=8
 rd:zak true top t=some a
 rf:NmW false a->zak false top t=some a
 ns:¬ NmW false a->zak false top t=none
structure BadT(top:List W)(t:W):Prop extends TxOk t where
 nn:∀ st,zak st top t=none
theorem Qcz{top a:List W}{way:Int}{t:W}(hn:NmW true a)(hl:a.length<=8)(ht:∀ w∈top,Wd w)(h:NTx a top way t):NmT top a t:=by
 have r1:=Q2L (h.rd true hn);refine⟨⟨h.ch,h.ne,h.le⟩,hn,hl,Q0F r1 (by omega),fun q=>Q0F (Q2L (h.rd false q)) (by omega),fun q=>Q1i fun b k _=>?_⟩
 have e:=Q3t (Q7Z k) r1;rcases hn with hn | ⟨_,c,rfl,_⟩
 ·exact q (.inl hn)
 ·exact Q8a k ht c e
noncomputable def NamD(top:List W)(nd:D)(t:W):Prop:=(∃ a,nd=dn a/\NmT top a t)\/(nd=.non/\BadT top t)
theorem NamD.tx{top:List W}{nd:D}{t:W}(h:NamD top nd t):TxOk t:=by
 rcases h with ⟨_,_,h⟩ | ⟨_,h⟩
 ·exact h.toTxOk
 ·exact h.toTxOk
noncomputable def sp_ae:DSp:=fun ds M R=>∃ (ws top:List W) (c k:Int),ds=[.lst (ws.map D.str),dn top,.int c,.int k]/\ws.length=4/\(∀ w∈ws,Wd w)/\top.length<=3/\(∀ w∈top,Wd w)/\0<=k/\k<=100/\∀ a t,NmT top a t->R (.tup [dn a,.str t]) M
theorem ok_ae(T:Tab)(h105:T.fn 105=some ⟨"_law_name_text",3,[],sp_a9⟩)(h101:T.fn 101=some ⟨"_law_part",3,[],sp_a0⟩)(h103:T.fn 103=some ⟨"_law_below",4,[],sp_aa⟩):∀ ds M R,sp_ae ds M R->evS T b_ae (za6 R) (za5 ["a","b","c","d","e"] ds) M:=by
 rintro ds M R ⟨ws,top,c,k,rfl,hw,hwd,ht,htw,k0,k1,h⟩;simp only[b_ae];refine Q0a fun k1' e1=>?_;walk_at "ev";simp only[h103,h101];walk_at "ev";refine⟨c,k+3,4,rfl,by omega,by omega,by decide,fun v hv=>⟨ws,c,k,v,rfl,hw,hwd,by omega,by omega,by omega,fun a ha hwa=>?_⟩⟩
 rw[e1];clear e1;refine Q0a fun k1' e1=>?_;have s2:∀ b:List W,b.length<=7->(∀ w∈b,Wd w)->k1' [some (.lst (ws.map D.str)),some (dn top),some (.int c),some (.int k),some (dn b)] M:=fun b hb hbw=>by
  rw[e1];clear e1;refine Q0a fun k1' e1=>?_;have s3:∀ b:List W,b.length<=8->NmW true b->k1' [some (.lst (ws.map D.str)),some (dn top),some (.int c),some (.int k),some (dn b)] M:=fun b hb hbw=>by
   rw[e1];clear e1;walk_at "ev";simp only[h105,h101];walk_at "ev";refine⟨c,k+6,6,rfl,by omega,by omega,by decide,fun u hu=>⟨b,top,u,rfl,hbw,by omega,by omega,fun z hz _=>⟨szL (by decide),Q0b (h b z (Qcz hbw hb htw hz))⟩⟩⟩
  clear e1;simp only[dn]at s3 ⊢;walk_at "ev";simp only[h101];walk_at "ev";refine⟨c,k+5,6,rfl,by omega,by omega,by decide,fun u hu=>⟨rfl,rfl,ite2 (fun _=>?_) fun _=>s3 b (by omega) (.inl hbw)⟩⟩
  refine⟨szL (by decide),szL (by rw[Zi];omega),?_⟩
  have:=s3 (b++[[42]]) (by rw[Zd];simp only[Zk,Zu];omega) (.inr ⟨rfl,b,rfl,hbw⟩)
  rw[ZY]at this;exact this
 clear e1;simp only[dn]at s2 ⊢;walk_at "ev";simp only[h101];walk_at "ev";refine⟨c,k+4,9,rfl,by omega,by omega,by decide,fun u hu=>ite2 (fun _=>?_) fun _=>s2 a (by omega) hwa⟩
 refine⟨szL (by rw[Zi,Zi];omega),?_⟩
 have:=s2 (top++a) (by rw[Zd];omega) fun w hw=>(Z3.mp hw).elim (htw w) (hwa w)
 rw[ZY]at this;exact this
theorem bad_t{b:W}(hb:b∈badL\/b=List.replicate 41 120)(top:List W):BadT top b:=by
 have hp:∀ b∈badL++[List.replicate 41 120],(∀ c∈b,c∈zaz/\c≠59)/\b≠[]/\b.length<=200:=by decide
 obtain⟨p1,p2,p3⟩:=hp b (Z3.mpr (hb.imp id Zp.mpr));refine⟨⟨p1,p2,p3⟩,fun st=>?_⟩;rcases hb with hb | rfl
 ·exact Q9o hb st top
 ·exact Q4o (by decide) (by decide) (by cases st <;> decide)
noncomputable def sp_ax:DSp:=fun ds M R=>∃ c:Int,ds=[.int c]/\∀ t,t∈badL->R (.tup [.non,.str t]) M
theorem ok_ax{T:Tab}:∀ ds M R,sp_ax ds M R->evS T b_ax (za6 R) (za5 ["a","b"] ds) M:=by
 rintro ds M R ⟨c,rfl,h⟩;simp only[b_ax];walk_at "q1";refine⟨szL (by decide),?_⟩
 rw[e1];clear e1;walk_at "ev";refine⟨by decide,Q1b (Int.emod_nonneg _ (by decide)) (by simp only[Zk,Zu];exact Yi _ (by decide)) fun d hd=>?_⟩
 have hm:=Z0 hd;simp only[Zx,ZN,or_false]at hm;rcases hm with rfl | rfl | rfl | rfl | rfl | rfl | rfl | rfl | rfl | rfl <;> exact⟨szL (by decide),Q0b (h _ (by decide))⟩
noncomputable def zaV:List W:=[[109,97,114,107],[100,111,111,114],[100,111,119,110],[101,108,115,101],[109],[109,97,114,107,109,97,114,107]]
noncomputable def noK:List W:=[[77,97,114,107],[109,45,107],[109,97,114,107,109,97,114,107,109],[68,79,87,78],[101,108,115,101,46],[55]]
theorem Q8b{k:W}(h:k∈zaV++noK):zaX k=decide (k∈zaV)/\Pl k/\k≠[]/\k.length<=9:=by
 have:∀ k∈zaV++noK,zaX k=decide (k∈zaV)/\(k.all fun c=>decide (c≠10/\c≠32))=true/\k≠[]/\k.length<=9:=by decide
 obtain⟨h1,h2,h3,h4⟩:=this k h;exact⟨h1,fun c hc=>Zw (Z5.mp h2 c hc),h3,h4⟩
noncomputable def sp_ap:DSp:=fun ds M R=>∃ c f:Int,ds=[.int c,.int f]/\∀ k∈zaV++noK,R (.str k) M
theorem ok_ap(T:Tab)(h101:T.fn 101=some ⟨"_law_part",3,[],sp_a0⟩):∀ ds M R,sp_ap ds M R->evS T b_ap (za6 R) (za5 ["a","b"] ds) M:=by
 rintro ds M R ⟨c,f,rfl,h⟩;simp only[b_ap];refine Q0a fun k1 e1=>?_;have fin:k1 [some (.int c),some (.int f)] M:=by
  rw[e1];clear e1;walk_at "ev";simp only[h101];walk_at "ev";refine⟨szL (by decide),c,2,6,rfl,by decide,by decide,by decide,fun u hu=>Q1b (by omega) (by simp only[Zk,Zu];omega) fun d hd=>?_⟩
  have hm:=Z0 hd;simp only[Zx,ZN,or_false]at hm;rcases hm with rfl | rfl | rfl | rfl | rfl | rfl <;> exact Q0b (h _ (by decide))
 clear e1;walk_at "ev";refine⟨rfl,rfl,ite2 (fun _=>?_) fun _=>fin⟩;refine⟨szL (by decide),by decide,Q1b (Int.emod_nonneg _ (by decide)) (by simp only[Zk,Zu];exact Yi _ (by decide)) fun d hd=>?_⟩
 have hm:=Z0 hd;simp only[Zx,ZN,or_false]at hm;rcases hm with rfl | rfl | rfl | rfl | rfl | rfl <;> exact Q0b (h _ (by decide))
noncomputable def noL:List W:=[[48,53],[49,48,48,48,48,48,48,48,48,48],[120],[45,49],[48,48],[53,46]]
structure LifT(ld:D)(t:W):Prop where
 pl:Pl t
 ne:t≠[]
 ln:t.length<=10
 lf:(∃ l:Nat,ld=.int l/\zaK t=some l/\l<1000000000)\/(ld=.non/\zaK t=none)
noncomputable def sp_af:DSp:=fun ds M R=>∃ c f:Int,ds=[.int c,.int f]/\∀ ld t,LifT ld t->R (.tup [ld,.str t]) M
theorem ok_af(T:Tab)(h101:T.fn 101=some ⟨"_law_part",3,[],sp_a0⟩):∀ ds M R,sp_af ds M R->evS T b_af (za6 R) (za5 ["a","b","c"] ds) M:=by
 rintro ds M R ⟨c,f,rfl,h⟩;simp only[b_af];walk_at "q1";simp only[h101];walk_at "ev";refine⟨.inr ⟨by decide,by decide⟩,by decide,by decide,szL (by decide),c,17,6,rfl,by decide,by decide,by decide,fun u hu=>⟨⟨by decide,by decide⟩,Q1b (by omega) (by simp only[Zk,Zu];omega) fun d hd=>?_⟩⟩
 obtain⟨l,rfl,hl⟩:∃ l:Nat,d=.int l/\l<1000000000:=by
  have hm:=Z0 hd;simp only[Zx,ZN,or_false]at hm;rcases hm with rfl | rfl
  ·obtain⟨n,e⟩:=Z2 (Int.emod_nonneg (c * 48271) (show (999999937:Int)≠0 by decide))
   exact⟨n,by rw[e],by have:=Yi (c * 48271) (show (0:Int)<999999937 by decide);omega⟩
  ·obtain⟨n,e⟩:=Z2 (show (0:Int)<=999999999-c % 100 by omega)
   exact⟨n,by rw[e],by omega⟩
 rw[e1];clear e1 hd;refine Q0a fun k1 e1=>?_;have hll:(0:Int)<=(l:Int)/\(l:Int)<1000000000:=⟨by omega,by omega⟩
 have fin:k1 [some (.int c),some (.int f),some (.int l)] M:=by
  rw[e1];clear e1;walk_at "ev";have d9:=digs9 hll;have ld:=Q2J hll;refine⟨hll.1,logS hll,szL (by decide),Q0b (h _ _ ⟨Q4L _,fun z=>?_,by omega,.inl ⟨l,rfl,?_,hl⟩⟩)⟩
  ·have:=Q2e ((l:Int).toNat);rw[z]at this;exact absurd this (by decide)
  ·rw[Q3x ld.1];exact congrArg some (Int.ofNat.inj ld.2).symm
 clear e1;walk_at "ev";refine⟨rfl,rfl,ite2 (fun _=>?_) fun _=>fin⟩;refine⟨szL (by decide),by decide,Q1b (Int.emod_nonneg _ (by decide)) (by simp only[Zk,Zu];exact Yi _ (by decide)) fun d hd=>?_⟩
 have hp:∀ t∈noL,(t.all fun c=>decide (c≠10/\c≠32))=true/\t≠[]/\t.length<=10/\zaK t=none:=by decide
 have go:∀ t∈noL,LifT .non t:=fun t ht=>by
  obtain⟨p1,p2,p3,p4⟩:=hp t ht;exact⟨fun c hc=>Zw (Z5.mp p1 c hc),p2,p3,.inr ⟨rfl,p4⟩⟩
 have hm:=Z0 hd;simp only[Zx,ZN,or_false]at hm;rcases hm with rfl | rfl | rfl | rfl | rfl | rfl <;> exact⟨szL (by decide),Q0b (h _ _ (go _ (by decide)))⟩
structure zc7(top:List W)(nd:D)(nt:W)(ld:D)(lt k:W)(vd:D)(vt:W):Prop where
 n:NamD top nd nt
 l:LifT ld lt
 k:k∈zaV++noK
 v:NamD top vd vt
noncomputable def zaU(nd:D)(nt:W)(ld:D)(lt k:W)(vd:D)(vt:W):D:=.tup [.tup [nd,.str nt],.tup [ld,.str lt],.str k,.tup [vd,.str vt]]
noncomputable def sp_aD:DSp:=fun ds M R=>∃ (ws top:List W) (c f:Int),ds=[.lst (ws.map D.str),dn top,.int c,.int f]/\ws.length=4/\(∀ w∈ws,Wd w)/\top.length<=3/\(∀ w∈top,Wd w)/\∀ nd nt ld lt k vd vt,zc7 top nd nt ld lt k vd vt->R (zaU nd nt ld lt k vd vt) M
theorem ok_aD(T:Tab)(h108:T.fn 108=some ⟨"_law_kind",2,[],sp_ap⟩)(h109:T.fn 109=some ⟨"_law_life",2,[],sp_af⟩)(h107:T.fn 107=some ⟨"_law_bad_name",1,[],sp_ax⟩)(h106:T.fn 106=some ⟨"_law_named",4,[],sp_ae⟩):∀ ds M R,sp_aD ds M R->evS T b_aD (za6 R) (za5 ["a","b","c","d","e","f","g"] ds) M:=by
 rintro ds M R ⟨ws,top,c,f,rfl,hw,hwd,ht,htw,h⟩;simp only[b_aD];walk_at "q1";simp only[h106];walk_at "ev";refine⟨ws,top,c,3,rfl,hw,hwd,ht,htw,by decide,by decide,fun a t hat=>?_⟩
 rw[e1];clear e1;walk_at "q1";simp only[h106];walk_at "ev";refine⟨ws,top,c,10,rfl,hw,hwd,ht,htw,by decide,by decide,fun b u hbu=>?_⟩
 rw[e1];clear e1;refine Q0a fun k1 e1=>?_;have s1:∀ nd nt,NamD top nd nt->k1 [some (.lst (ws.map D.str)),some (dn top),some (.int c),some (.int f),some (.tup [nd,.str nt]),some (.tup [dn b,.str u]),none] M:=fun nd nt hn=>by
  rw[e1];clear e1;refine Q0a fun k1 e1=>?_;have s2:∀ vd vt,NamD top vd vt->k1 [some (.lst (ws.map D.str)),some (dn top),some (.int c),some (.int f),some (.tup [nd,.str nt]),some (.tup [vd,.str vt]),none] M:=fun vd vt hv=>by
   rw[e1];clear e1;refine Q0a fun k1 e1=>?_;have s3:∀ vd vt,NamD top vd vt->k1 [some (.lst (ws.map D.str)),some (dn top),some (.int c),some (.int f),some (.tup [nd,.str nt]),some (.tup [vd,.str vt]),none] M:=fun vd vt hv=>by
    rw[e1];clear e1;walk_at "q1";simp only[h109];walk_at "ev";refine⟨c,f,rfl,fun ld lt hl=>?_⟩;rw[e1];clear e1;walk_at "ev";simp only[h108];walk_at "ev";exact⟨c,f,rfl,fun k hk=>⟨szL (by decide),Q0b (h _ _ _ _ _ _ _ ⟨hn,hl,hk,hv⟩)⟩⟩
   clear e1;have e41:(List.replicate (41:Int).toNat ([120]:W)).flatten=List.replicate 41 120:=by decide
   walk_at "ev";simp only[e41];exact⟨rfl,rfl,ite2 (fun _=>⟨by decide,by decide,by decide,szL (by decide),s3 _ _ (.inr ⟨rfl,bad_t (.inr rfl) top⟩)⟩) fun _=>s3 vd vt hv⟩
  clear e1;walk_at "ev";simp only[h107];walk_at "ev";exact⟨rfl,rfl,ite2 (fun _=>⟨c,rfl,fun t ht=>s2 _ _ (.inr ⟨rfl,bad_t (.inl ht) top⟩)⟩) fun _=>s2 _ _ (.inl ⟨b,rfl,hbu⟩)⟩
 clear e1;walk_at "ev";simp only[h107];walk_at "ev";exact⟨rfl,rfl,ite2 (fun _=>⟨c,rfl,fun t ht=>s1 _ _ (.inr ⟨rfl,bad_t (.inl ht) top⟩)⟩) fun _=>s1 _ _ (.inl ⟨a,rfl,hat⟩)⟩
noncomputable def sp_ad:DSp:=fun ds M R=>∃ (a:Addr) (rows:List Rw) (x:Rw),ds=[.ref a,x.d]/\M a=some (.lst (rows.map Rw.d))/\PvR x/\(∀ y∈rows,PvR y)/\∀ b:Bool,(b=true <-> zap rows x)->R (.bl b) M
theorem ok_ad{T:Tab}:∀ ds M R,sp_ad ds M R->evS T b_ad (za6 R) (za5 ["a","b","c"] ds) M:=by
 rintro ds M R ⟨a,rows,x,rfl,ha,hx,hr,h⟩;have cs:∀ {y:Rw},¬ y.k=zbd->¬ x.k=zbd->zah x y=(decide (x.k=y.k)&&(decide (x.k=zaL)||eqB x.v y.v)):=fun{y} a b=>by
  unfold zah;rw[Zg b,Zg a];rfl
 simp only[b_ad,Rw.d];walk_at "q1";simp only[ha];refine Q1h (fun i ρ M'=>M'=M/\(∃ v,ρ=[some (.ref a),some x.d,v])/\∀ (j:Nat) (y:Rw),j<i->rows[j]? = some y->y.n=x.n->zah x y=false) ⟨rfl,⟨none,rfl⟩,fun j y hj=>absurd hj (Nat.not_lt_zero j)⟩ (fun i ρ M' h=>by rw[h.1];exact ha) ?_ ?_
 ·rintro i d0 ρ M' k hi ⟨rfl,⟨v,rfl⟩,hb⟩ hk;rw[ZC]at hi;cases ei:rows[i]? with
  | none=>rw[ei]at hi;cases hi
  | some y =>
   rw[ei]at hi;cases hi;have hm:=Z0 ei;have hy:=hr y hm;have next:(y.n=x.n->zah x y=false)->k [some (.ref a),some x.d,some y.d] M':=fun q=>hk _ _ ⟨rfl,⟨_,rfl⟩,fun j z hj hz=>by
    by_cases hji:j=i
    ·subst hji;rw[ei]at hz;cases hz;exact q
    ·exact hb j z (by omega) hz⟩
   have yes:y.n=x.n->zah x y=true->∃ M0,Sub M0 M'/\R (.bl true) M0:=fun q1 q2=>Q0b (h true ⟨fun _=>⟨y,hm,q1,q2⟩,fun _=>rfl⟩);simp only[Rw.d]at next ⊢;walk_at "ev";refine ix_tup (by omega) (by simp) fun d0 hd0=>?_
   cases hd0;refine ix_tup (by omega) (by simp) fun d0 hd0=>?_
   cases hd0;simp only[dn]at next ⊢
   try walk_at "ev"
   simp only[Q1c];refine⟨Q0d _,Q0d _,ite2 (fun q1=>?_) fun q1=>next fun z=>absurd (Ze z) q1⟩;have q1:=Zw q1;refine ix_tup (by omega) (by simp) fun d0 hd0=>?_
   cases hd0
   try walk_at "ev"
   refine⟨rfl,rfl,ite2 (fun q2=>yes q1 (by unfold zah;rw[Ze (show y.k=zbd from Zw q2)];simp)) fun q2=>?_⟩
   refine ix_tup (by omega) (by simp) fun d0 hd0=>?_
   cases hd0
   try walk_at "ev"
   refine⟨rfl,rfl,ite2 (fun q3=>yes q1 (by unfold zah;rw[Ze (show x.k=zbd from Zw q3)];simp)) fun q3=>?_⟩
   rw[Zf]at q2 q3;refine ix_tup (by omega) (by simp) fun d0 hd0=>?_
   cases hd0;refine ix_tup (by omega) (by simp) fun d0 hd0=>?_
   cases hd0
   try walk_at "ev"
   refine⟨rfl,rfl,ite2 (fun q4=>?_) fun q4=>next fun _=>by
    rw[cs q2 q3,Zg (fun z=>q4 (Ze z.symm))];rfl⟩
   have q4:x.k=y.k:=(Zw q4).symm;refine ix_tup (by omega) (by simp) fun d0 hd0=>?_
   cases hd0
   try walk_at "ev"
   refine⟨rfl,rfl,ite2 (fun q5=>yes q1 (by rw[cs q2 q3,Ze q4,Ze (show x.k=zaL from Zw q5)];rfl)) fun q5=>?_⟩
   have nx5:eqB x.v y.v=false->_:=fun qv=>next fun _=>by
    rw[cs q2 q3,qv,Zg (show ¬ x.k=zaL from fun z=>q5 (Ze z))];simp
   have ys5:x.v=y.v->_:=fun qv=>yes q1 (by rw[cs q2 q3,Ze q4,qv,show eqB y.v y.v=true from (Q0s _ _).mpr rfl];simp)
   refine ix_tup (by omega) (by simp) fun d0 hd0=>?_
   cases hd0;refine ix_tup (by omega) (by simp) fun d0 hd0=>?_
   cases hd0;rcases hy.pv with ⟨_,b1,ey⟩ | ⟨_,b1,ey⟩ <;> rcases hx.pv with ⟨_,b2,ex⟩ | ⟨_,b2,ex⟩ <;> rw[ey,ex]at nx5 ys5 ⊢ <;> simp only[dn]at nx5 ys5 ⊢ <;> exact⟨by first | rfl | exact Q0H 10 _,by first | rfl | exact Q0H 10 _,ite2 (fun q=>ys5 ((Q0s _ _).mp q).symm) fun qv=>nx5 ((Q1F _ _).mpr fun z=>qv ((Q0s _ _).mpr z.symm))⟩
 ·rintro ρ M' ⟨rfl,⟨v,rfl⟩,hb⟩;rw[e1];clear e1;walk_at "ev";refine Q0b (h false ⟨fun z=>(nomatch z),fun⟨y,hy,q1,q2⟩=>?_⟩)
  obtain⟨j,hj⟩:=List.mem_iff_getElem?.mp hy;rw[hb j y (by rw[Zi];exact (Zv.mp hj).1) hj q1]at q2
  cases q2
noncomputable def wayW:Nat->W
 | 1=>[114,111,119]
 | 2=>[110,97,109,101]
 | 3=>[111,117,116,115,105,100,101]
 | 4=>[99,117,116]
 | _=>[99,108,97,115,104]
noncomputable def zaj:W:=[103,111,111,100]
open Classical in
noncomputable def jd(top:List W)(rows:List Rw)(an:Option (List W))(l k v:W):Except Nat Rw:=match an with
 | none=>.error 2
 | some a=>if a.take top.length=top then (match zaa a top l k v with
  | .error c=>.error c
  | .ok x=>if zam top x then .error 4 else if zap rows x then .error 5 else .ok x) else .error 3
section
variable{top a:List W}{rows:List Rw}{l k v:W}{c:Nat}{x:Rw}
theorem QcA(h:¬ a.take top.length=top):jd top rows (some a) l k v=.error 3:=Zj h
theorem Q4p(h:a.take top.length=top)(e:zaa a top l k v=.error c):jd top rows (some a) l k v=.error c:=by
 unfold jd;dsimp only;rw[Zm h,e]
theorem Q9Q(h:a.take top.length=top)(e:zaa a top l k v=.ok x)(q:zam top x):jd top rows (some a) l k v=.error 4:=by
 unfold jd;dsimp only;rw[Zm h,e];dsimp only;rw[Zm q]
theorem Q9q(h:a.take top.length=top)(e:zaa a top l k v=.ok x)(q:¬ zam top x)(q2:zap rows x):jd top rows (some a) l k v=.error 5:=by
 unfold jd;dsimp only;rw[Zm h,e];dsimp only;rw[Zj q,Zm q2]
theorem jd_ok(h:a.take top.length=top)(e:zaa a top l k v=.ok x)(q:¬ zam top x)(q2:¬ zap rows x):jd top rows (some a) l k v=.ok x:=by
 unfold jd;dsimp only;rw[Zm h,e];dsimp only;rw[Zj q,Zj q2]
end
theorem Q4q{b:List W}(hb:NmW true b):b.drop (b.length-1)=[[42]] <-> ¬ NmW false b:=by
 constructor
 ·intro e hf;rcases hf with hf | ⟨z,_⟩
  ·have:[42]∈b:=List.mem_of_mem_drop (i:=b.length-1) (by rw[e];exact Zl)
   exact absurd ((hf _ this).al 42 Zl) (by decide)
  ·cases z
 ·intro hf;rcases hb with hb | ⟨_,c,rfl,_⟩
  ·exact absurd (.inl hb) hf
  ·simp
theorem Q9R{ks:List W}{k:W}:((ks.map D.str).any fun d=>eqB d (.str k))=true <-> k∈ks:=by
 rw[any_eq_true];constructor
 ·rintro⟨d,hd,e⟩;obtain⟨w,hw,rfl⟩:=mem_map.mp hd;rw[<- D.str.inj ((Q0s _ _).mp e)];exact hw
 ·exact fun h=>⟨.str k,mem_map.mpr ⟨k,h,rfl⟩,(Q0s _ _).mpr rfl⟩
noncomputable def sp_az:DSp:=fun ds M R=>∃ (top:List W) (rows:List Rw) (p:Addr) (nd nd':D) (an:Option (List W)) (nt:W) (ld:D) (lt k:W) (vd:D) (vt:W),ds=[dn top,.ref p,nd,zaU nd' nt ld lt k vd vt]/\M p=some (.lst (rows.map Rw.d))/\zc7 top nd' nt ld lt k vd vt /\
 ((nd=.non/\an=none)\/∃ a,nd=dn a/\an=some a/\NmW true a/\a.length<=8)/\(∀ w∈top,Wd w)/\top.length<=3/\rows.length<=100/\(∀ x∈rows,Row12 top x) /\
 match jd top rows an lt k vt with
 | .error c=>R (.str (wayW c)) M
 | .ok x=>Row12 top x->R (.str zaj) (dupd M p (.lst ((rows++[x]).map Rw.d)))
theorem ok_az(T:Tab)(h111:T.fn 111=some ⟨"_law_clashes",2,[],sp_ad⟩):∀ ds M R,sp_az ds M R->evS T b_az (za6 R) (za5 ["a","b","c","d","e","f","g","h"] ds) M:=by
 rintro ds M R ⟨top,rows,p,nd,nd',an,nt,ld,lt,k,vd,vt,rfl,hp,hpc,hnd,htw,ht,hrl,hr,h⟩;obtain⟨hn,hl,hk,hv⟩:=hpc;simp only[b_az,zaU];walk_at "q1";walk_at "q0";walk_at "q0";walk_at "q0";walk_at "q0";refine⟨_,_,_,rfl,?_⟩
 try walk_at "ev"
 generalize (D.tup [D.tup [nd',D.str nt],D.tup [ld,D.str lt],D.str k,D.tup [vd,D.str vt]])=PD;rw[e1];clear e1;refine Q0a fun k1 e1=>?_;rcases hnd with ⟨rfl,rfl⟩ | ⟨a,rfl,rfl,ha,hal⟩
 ·clear e1;walk_at "ev";exact Q0b h
 obtain⟨S,eS⟩:∃ S:D->Option D->DSt,∀ ld m,S ld m=[some (dn top),some (.ref p),some (dn a),some PD,some ld,some (.str k),some (.tup [vd,.str vt]),m]:=⟨_,fun _ _=>rfl⟩;have n2:k1 (S ld none) M:=by
  rw[e1];clear e1;refine Q0a fun k1 e1=>?_;have n3:a.take top.length=top->k1 (S ld none) M:=fun hat=>by
   rw[e1];clear e1;obtain⟨kb,kpl,kne,kln⟩:=Q8b hk;have tx:=hv.tx;refine Q0a fun k1 e1=>?_;have n4:∀ l:Nat,ld=.int l->zaK lt=some l->l<1000000000->k∈zaV->k1 (S (.int l) none) M:=fun l hld hlo hl9 hk6=>by
    rw[e1];clear e1;have kt:zaX k=true:=by rw[kb];exact Ze hk6
    have er:zaa a top lt k vt=(match zaA top k vt with | .ok x=>.ok ⟨a,(l:Nat),k,x⟩ | .error c=>.error c):=by
     unfold zaa;rw[hlo];dsimp only;rw[Zm kt]
     try rfl
    refine Q0a fun k1 e1=>?_;have n5:(IsN k->∃ b,vd=dn b/\NmT top b vt/\NmW false b)->k1 (S (.int l) none) M:=fun hv5=>by
     rw[e1];clear e1;refine Q0a fun k1 e1=>?_;have n6:∀ v:D,(IsN k->v=vd)->(¬ IsN k->v=.str vt)->zaa a top lt k vt=.ok ⟨a,(l:Nat),k,v⟩->Row12 top ⟨a,(l:Nat),k,v⟩->k1 (S (.int l) none) M:=fun v v1 v2 er hx=>by
      rw[e1];clear e1;refine Q0a fun k1 e1=>?_;have n7:¬ zam top ⟨a,(l:Nat),k,v⟩->k1 (S (.int l) none) M:=fun hcb=>by
       rw[e1,eS];clear e1;walk_at "q1";walk_at "q0";refine⟨szL (by decide),?_⟩
       rw[e1];clear e1;refine Q0a fun k1 e1=>?_;have n9:k1 (S (.int l) (some (Rw.d ⟨a,(l:Nat),k,v⟩))) M:=by
        rw[e1];clear e1;refine Q0a fun k1 e1=>?_;have n10:¬ zap rows ⟨a,(l:Nat),k,v⟩->k1 (S (.int l) (some (Rw.d ⟨a,(l:Nat),k,v⟩))) M:=fun hcl=>by
         rw[jd_ok hat er hcb hcl]at h;rw[e1,eS];clear e1;walk_at "q1";simp only[hp];refine⟨small1000 (by rw[Zi];omega),?_⟩
         rw[e1];clear e1;walk_at "ev";have h:=h hx;rw[ZY]at h;exact Q0b h
        clear e1;rw[eS]at n10 ⊢;walk_at "ev";simp only[h111];walk_at "ev";refine⟨p,rows,_,rfl,hp,⟨hx.pv⟩,fun y hy=>⟨(hr y hy).pv⟩,fun b hb=>ite2 (fun q=>?_) fun q=>n10 fun z=>q (hb.mpr z)⟩;rw[Q9q hat er hcb (hb.mp q)]at h;exact Q0b h
       clear e1;rw[eS]at n9;unfold Rw.d at n9;walk_at "ev";refine⟨szL (by decide),_,rfl,rfl,rfl,ite2 (fun q=>?_) fun q=>?_⟩
       ·have hN:=(Q1d rfl).mp q;walk_at "q0";rw[v1 hN]at n9;exact⟨szL (by decide),n9⟩
       ·have hN:¬ IsN k:=fun z=>q ((Q1d rfl).mpr z);rw[v2 hN]at n9;exact n9
      clear e1;rw[eS]at n7 ⊢;simp only[dn]at n7 ⊢;walk_at "ev";refine⟨rfl,rfl,ite2 (fun q=>?_) fun q=>n7 fun z=>q (Ze z.1)⟩;have q:k=zaL:=Zw q;simp only[Q1c];refine⟨Q0d _,Q0d _,ite2 (fun q2=>?_) fun q2=>?_⟩
      ·rw[Q9Q hat er ⟨q,.inl (Zw q2)⟩]at h;exact Q0b h
      ·have hne:a≠[]:=fun z=>q2 (Ze (by rw[z]at hat ⊢;simpa using hat))
       have hpos:=length_pos_iff.mpr hne;refine Q2H (d:=.str a[a.length-1]) (by rw[Zi,ZC,Zq (by omega)];rfl) ?_
       try walk_at "ev"
       have dr:a.drop (a.length-1)=[a[a.length-1]]:=by rw[ZZ (by omega),show a.length-1+1=a.length by omega,drop_length]
       refine⟨rfl,rfl,ite2 (fun q3=>?_) fun q3=>n7 fun z=>?_⟩
       ·rw[Q9Q hat er ⟨q,.inr (by show a.drop (a.length-1)=_;rw[dr,Zw q3])⟩]at h
        exact Q0b h
       ·rcases z.2 with z | z
        ·exact q2 (Ze z)
        ·have z:a.drop (a.length-1)=[[42]]:=z;rw[dr]at z;exact q3 (Ze (List.cons.inj z).1)
     clear e1;simp only[eS]at n6 ⊢;by_cases hN:IsN k
     ·obtain⟨b,rfl,hb,hbf⟩:=hv5 hN;have ev:zaA top k vt=.ok (dn b):=by unfold zaA;rw[Zm hN,hb.rf hbf]
      rw[ev]at er;have:=n6 (dn b) (fun _=>rfl) (fun z=>absurd hN z) er ⟨⟨⟨by show a.length<=20;omega,hat⟩,.inl ⟨hN,b,rfl⟩⟩,ha,hal,⟨by show (0:Int)<=(l:Int);omega,by show (l:Int)<1000000000;omega⟩,kt,.inl ⟨hN,b,rfl,hb.le,hbf.elim id fun z=>(nomatch z.1)⟩⟩
      walk_at "ev";refine⟨szL (by decide),_,rfl,rfl,rfl,ite2 (fun q=>?_) fun _=>this⟩
      rw[(Q1d rfl).mpr hN]at q;exact absurd q (by decide)
     ·have ev:zaA top k vt=if valB vt=true then .ok (.str vt) else .error 1:=by unfold zaA;rw[Zj hN]
      rw[ev,tx.val]at er;have tl:=tx.ln;walk_at "ev";refine⟨szL (by decide),_,rfl,rfl,rfl,ite2 (fun _=>?_) fun q=>?_⟩
      ·walk_at "q0"
       try walk_at "ev"
       refine⟨szL (by omega),ite2 (fun q=>?_) fun q=>?_⟩
       ·have q:=Zw q;rw[Zg (show ¬ vt.length<=40 by omega),Zj (by decide)]at er
        rw[Q4p hat er]at h;exact Q0b h
       ·have q:vt.length<=40:=by rw[Zf]at q;omega
        rw[Ze q,Zm rfl]at er;exact n6 (.str vt) (fun z=>absurd z hN) (fun _=>rfl) er ⟨⟨⟨by show a.length<=20;omega,hat⟩,.inr ⟨hN,vt,rfl⟩⟩,ha,hal,⟨by show (0:Int)<=(l:Int);omega,by show (l:Int)<1000000000;omega⟩,kt,.inr ⟨hN,vt,rfl,⟨length_pos_iff.mpr tx.ne,q,fun c hc=>(tx.ch c hc).1⟩⟩⟩
      ·exact absurd (by rw[ZG] ;exact eq_false_iff.mpr fun z=>hN ((Q1d rfl).mp z)) q
    clear e1;rw[eS]at n5 ⊢;walk_at "ev";refine⟨szL (by decide),_,rfl,rfl,rfl,ite2 (fun q=>?_) fun q=>n5 fun hN=>absurd ((Q1d rfl).mpr hN) q⟩
    have hN:=(Q1d rfl).mp q;have ev:zaA top k vt=(match zak false top vt with | some a=>.ok (dn a) | none=>.error 2):=by unfold zaA;rw[Zm hN];try rfl
    rw[ev]at er;walk_at "q0";rcases hv with ⟨b,rfl,hb⟩ | ⟨rfl,hb⟩
    ·try walk_at "ev"
     refine ite2 (fun q=>absurd (show false=true from q) (by decide)) fun _=>?_
     walk_at "q0";simp only[dn];have ec:cut (b.map D.str) (some (-1)) none=(b.drop (b.length-1)).map D.str:=by rw[Q5q,Zi,map_drop]
     rw[ec];have eb:eqB (D.tup ((b.drop (b.length-1)).map D.str)) (D.tup [D.str [42]])=decide (b.drop (b.length-1)=[[42]]):=Q1c _ [[42]];refine⟨szL (by decide),Q0d _,rfl,ite2 (fun q=>?_) fun q=>?_⟩
     ·have q:=(Q4q hb.nm).mp (Zw (eb.symm.trans q));rw[hb.ns q]at er;rw[Q4p hat er]at h;exact Q0b h
     ·exact n5 fun _=>⟨b,rfl,hb,Classical.byContradiction fun z=>q (eb.trans (Ze ((Q4q hb.nm).mpr z)))⟩
    ·try walk_at "ev"
     rw[hb.nn false]at er;rw[Q4p hat er]at h;exact Q0b h
   clear e1;simp only[eS]at n4 ⊢;rcases hl.lf with ⟨l,rfl,hlo,hl9⟩ | ⟨rfl,hlo⟩
   ·walk_at "ev";refine⟨szL (by decide),_,rfl,rfl,rfl,ite2 (fun q=>?_) fun q=>n4 l rfl hlo hl9 (Classical.byContradiction fun z=>q (by rw[ZG,eq_false_iff];exact fun y=>z (Q9R.mp y)))⟩
    have hk6:k∉zaV:=fun z=>by
     rw[ZG,eq_false_iff]at q;exact q (Q9R.mpr z)
    rw[Q4p hat (Q7T (by rw[kb];exact Zg hk6))]at h
    exact Q0b h
   ·have er:zaa a top lt k vt=.error 1:=by unfold zaa;rw[hlo]
    rw[Q4p hat er]at h;walk_at "ev";exact Q0b h
  clear e1;rw[eS]at n3 ⊢;simp only[dn]at n3 ⊢;walk_at "ev";rw[Q2C,Zi,<- map_take];have eb:eqB (D.tup ((a.take top.length).map D.str)) (D.tup (top.map D.str))=decide (a.take top.length=top):=Q1c _ _;refine⟨Q0d _,Q0d _,ite2 (fun q=>?_) fun q=>n3 (Classical.byContradiction fun z=>q (by rw[eb,Zg z];rfl))⟩
  have hat:¬ a.take top.length=top:=fun z=>by
   rw[eb,Ze z]at q;cases q
  rw[QcA hat]at h;exact Q0b h
 clear e1;rw[eS]at n2;simp only[dn]at n2 ⊢;walk_at "ev";exact n2
structure LnX(z:W)(b:Bool)(ws:List W):Prop where
 le:z.length<=600
 nl:10∉z
 wd:za7 (rst z)=ws
 tk:(rst z).take 1=[32] <-> b=true
 ct:zab (rst z)=true
theorem nf_bl(n:Nat):10∉bl n:=fun q=>by have:=List.eq_of_mem_replicate q;omega
theorem Q0t(n:Nat):(bl n).length=n:=length_replicate ..
theorem Pl.nf{w:W}(h:Pl w):10∉w:=fun q=>(h 10 q).1 rfl
theorem Q0u{a b:W}(h:10∉a)(k:10∉b):10∉a++b:=fun q=>(Z3.mp q).elim h k
theorem Q2O{y u:W}{c n:Nat}{b:Bool}{ws:List W}(hy:y=u++[c])(hc:c≠32)(hwd:za7 y=ws)(htk:y.take 1=[32] <-> b=true)(h59:y.take 1≠[59])(hle:y.length+n<=600)(hnl:10∉y):LnX (y++bl n) b ws:=by
 have e:=Qcy hy hc n;refine⟨by rw[Zd,Q0t];exact hle,Q0u hnl (nf_bl n),by rw[e];exact hwd,by rw[e];exact htk,?_⟩
 rw[e];unfold zab;rw[Zg (show y≠[] by rw[hy];simp),Zg h59]
 rfl
section
variable{top:List W}{rows:List Rw}{z nm l k v:W}{ws:List W}{y:Rw}
theorem Qba(L:LnX z false [nm,l,k,v]):za9 top rows (rst z)=jd top rows (zak true top nm) l k v:=by
 unfold za9 jd;rw[Q4K (fun q=>by cases L.tk.mp q) L.wd]
 cases zak true top nm with
 | none=>rfl
 | some a =>
  dsimp only;by_cases q:a.take top.length=top
  ·rw[Zm q,Zm q];try (cases zaa a top l k v <;> rfl)
  ·rw[Zj q,Zj q]
theorem Q9r(L:LnX z true [l,k,v])(hy:rows.getLast? = some y)(ht:y.n.take top.length=top):za9 top rows (rst z)=jd top rows (some y.n) l k v:=by
 unfold za9 jd;rw[Q4J (L.tk.mpr rfl) L.wd,hy];dsimp only;rw[Zm ht]
 try (cases zaa y.n top l k v <;> rfl)
theorem Q9s(L:LnX z false ws)(h:ws.length≠4):za9 top rows (rst z)=.error 1:=Q5B (Q5w (fun q=>by cases L.tk.mp q) (by rw[L.wd];exact h))
theorem Q1D(L:LnX z true ws)(h:ws.length≠3):za9 top rows (rst z)=.error 1:=Q5B (Q5v (L.tk.mpr rfl) (by rw[L.wd];exact h))
end
theorem Q8c{t r:W}(h:Pl t)(hn:t≠[]):¬ (t++r).take 1=[32]:=fun q=>by
 cases t with
 | nil=>exact hn rfl
 | cons c t=>exact (h c Zl).2 (List.cons.inj q).1
theorem Q8d{t r:W}(hn:t≠[])(h:t.take 1≠[59]):(t++r).take 1≠[59]:=by
 cases t with
 | nil=>exact absurd rfl hn
 | cons c t=>exact h
theorem Q0K{g:Nat}{r:W}:(bl (g+1)++r).take 1=[32]:=rfl
structure zbR(top:List W)(rows:List Rw)(z:W)(e:Except Nat Rw):Prop where
 le:z.length<=600
 nl:10∉z
 ct:zab (rst z)=true
 st:za9 top rows (rst z)=e
theorem LnX.r{top:List W}{rows:List Rw}{z:W}{b:Bool}{ws:List W}{e:Except Nat Rw}(L:LnX z b ws)(h:za9 top rows (rst z)=e):zbR top rows z e:=⟨L.le,L.nl,L.ct,h⟩
noncomputable def sp_aF:DSp:=fun ds M R=>∃ (top:List W) (rows:List Rw) (p:Addr) (nd:D) (nt:W) (ld:D) (lt k:W) (vd:D) (vt:W) (c f:Int),ds=[dn top,.ref p,zaU nd nt ld lt k vd vt,.int c,.int f]/\M p=some (.lst (rows.map Rw.d))/\zc7 top nd nt ld lt k vd vt/\(∀ w∈top,Wd w)/\top.length<=3/\rows.length<=100/\(∀ x∈rows,Row12 top x) /\
 (∀ z n,zbR top rows z (.error n)->R (.tup [.str z,.str (wayW n)]) M)/\∀ z x,zbR top rows z (.ok x)->Row12 top x->R (.tup [.str z,.str zaj]) (dupd M p (.lst ((rows++[x]).map Rw.d)))
set_option maxHeartbeats 1000000 in
theorem ok_aF(T:Tab)(h112:T.fn 112=some ⟨"_law_judged",4,[],sp_az⟩):∀ ds M R,sp_aF ds M R->evS T b_aF (za6 R) (za5 ["a","b","c","d","e","f","g","h","i"] ds) M:=by
 rintro ds M R ⟨top,rows,p,nd,nt,ld,lt,k,vd,vt,c,f,rfl,hp,hpc,htw,ht,hrl,hr,hE,hO⟩;have tn:=hpc.n.tx;have tv:=hpc.v.tx;have hl:=hpc.l;obtain⟨kb,kpl,kne,kln⟩:=Q8b hpc.k;have nln:=tn.ln;have vln:=tv.ln;have lln:=hl.ln;simp only[b_aF];refine Q0a fun k1 e1=>?_;obtain⟨g,eg,hg⟩:∃ g:Nat,c / 7 % 2=(g:Int)/\g<=1:=by
  obtain⟨n,hn⟩:=Z2 (Int.emod_nonneg (c / 7) (by decide:(2:Int)≠0))
  exact⟨n,hn,by have:=Yi (c / 7) (by decide:(0:Int)<2);omega⟩
 obtain⟨e,ee,he⟩:∃ g:Nat,c / 14 % 2=(g:Int)/\g<=1:=by
  obtain⟨n,hn⟩:=Z2 (Int.emod_nonneg (c / 14) (by decide:(2:Int)≠0))
  exact⟨n,hn,by have:=Yi (c / 14) (by decide:(0:Int)<2);omega⟩
 walk_at "ev"
 try simp only[zbW]
 rw[eg];have eg2:((1:Int)+(g:Int)).toNat=g+1:=by omega
 refine⟨⟨by decide,by decide⟩,by decide,by omega,by omega,by decide,?_⟩
 rw[eg2,bl_of,e1];clear e1;walk_at "q1"
 try simp only[zbW]
 rw[ee];refine⟨⟨by decide,by decide⟩,by decide,by omega,by omega,by decide,?_⟩
 rw[ZO,bl_of,e1];clear e1;refine Q0a fun k1 e1=>?_;simp only[zaU];walk_at "ev";walk_at "q0";walk_at "q0"
 try walk_at "ev"
 refine⟨szL (by rw[Q0t];omega),?_⟩
 walk_at "q0"
 try walk_at "ev"
 refine⟨szL (by simp only[Zd,Q0t];omega),szL (by simp only[Zd,Q0t];omega),?_⟩
 walk_at "q0";walk_at "q0"
 try walk_at "ev"
 refine⟨szL (by simp only[Zd,Zk,Zu,Q0t];omega),szL (by simp only[Zd,Zk,Zu,Q0t];omega),?_⟩
 have er:lt++bl (g+1)++k++[32]++vt++bl e=(lt++(bl (g+1)++(k++(bl (0+1)++vt))))++bl e:=by simp[bl]
 rw[er,e1];clear e1 er;walk_at "q1";walk_at "q0";walk_at "q0";rw[e1];clear e1
 /- the rest of the line -/
 have rw3:za7 (lt++(bl (g+1)++(k++(bl (0+1)++vt))))=[lt,k,vt]:=by rw[Q0r hl.pl hl.ne,Q0r kpl kne,Q2N tv.pl tv.ne]
 have rnl:10∉lt++(bl (g+1)++(k++(bl (0+1)++vt))):=Q0u hl.pl.nf (Q0u (nf_bl _) (Q0u kpl.nf (Q0u (nf_bl _) tv.pl.nf)));have rle:(lt++(bl (g+1)++(k++(bl (0+1)++vt)))).length<=230:=by simp only[Zd,Q0t];omega
 obtain⟨vu,vc,hvu⟩:=Q4M tv.ne;have hvc:vc≠32:=(tv.pl vc (by rw[hvu];simp)).2
 obtain⟨ru,hru⟩:∃ u,lt++(bl (g+1)++(k++(bl (0+1)++vt)))=u++[vc]:=⟨lt++(bl (g+1)++(k++(bl (0+1)++vu))),by rw[hvu];simp only[Z9]⟩
 have rwx:za7 (lt++(bl (g+1)++(k++(bl (0+1)++vt)))++(bl (e+1)++[120]))=[lt,k,vt,[120]]:=by
  have ea:lt++(bl (g+1)++(k++(bl (0+1)++vt)))++(bl (e+1)++[120])=lt++(bl (g+1)++(k++(bl (0+1)++(vt++(bl (e+1)++[120]))))):=by simp only[Z9]
  rw[ea,Q0r hl.pl hl.ne,Q0r kpl kne,Q0r tv.pl tv.ne,Q2N (fun c hc=>by rw[Zp.mp hc];decide) (by simp)]
 generalize lt++(bl (g+1)++(k++(bl (0+1)++vt)))=RW at rw3 rnl rle hru rwx;obtain⟨S,eS⟩:∃ S:W->D->DSt,∀ z nd8,S z nd8=[some (dn top),some (.ref p),some (.tup [.tup [nd,.str nt],.tup [ld,.str lt],.str k,.tup [vd,.str vt]]),some (.int c),some (.int f),some (.str (bl (g+1))),some (.str (bl e)),some (.str z),some nd8]:=⟨_,fun _ _=>rfl⟩;refine Q0a fun k1 e1=>?_;have mid:∀ (z:W) (nd8:D) (an:Option (List W)),z.length<=450->((nd8=.non/\an=none)\/∃ a,nd8=dn a/\an=some a/\NmW true a/\a.length<=8)->zbR top rows (z++[32,120]) (.error 1)->zbR top rows (bl (g+1)++[59]++z) (.error 1)->zbR top rows z (jd top rows an lt k vt) ->
   k1 (S z nd8) M:=fun z nd8 an hz hnd lx l22 lz=>by
  rw[e1];clear e1;refine Q0a fun k1 e1=>?_;have m2:k1 (S z nd8) M:=by
   rw[e1];clear e1;refine Q0a fun k1 e1=>?_;have m3:k1 (S z nd8) M:=by
    rw[e1];clear e1;refine Q0a fun k1 e1=>?_;have m4:k1 (S z nd8) M:=by
     rw[e1,eS];clear e1;walk_at "ev";simp only[h112];walk_at "ev";refine⟨top,rows,p,nd8,nd,an,nt,ld,lt,k,vd,vt,rfl,hp,hpc,hnd,htw,ht,hrl,hr,?_⟩;cases q:jd top rows an lt k vt with
     | error n =>
      rw[q]at lz;exact⟨szL (by decide),Q0b (hE z n lz)⟩
     | ok x =>
      rw[q]at lz;exact fun hx=>⟨szL (by decide),Q0b (hO z x lz hx)⟩
    clear e1;rw[eS]at m4 ⊢;walk_at "ev";refine⟨rfl,rfl,ite2 (fun _=>?_) fun _=>m4⟩;walk_at "q0";walk_at "q0"
    try walk_at "ev"
    refine⟨szL (by simp only[Q0t];omega),szL (by simp only[Zd,Q0t];omega),?_⟩
    walk_at "q0"
    try walk_at "ev"
    refine⟨szL (by simp only[Zd,Q0t];omega),szL (by decide),Q0b (hE _ 1 ?_)⟩
    obtain⟨ku,kc,hku⟩:=Q4M kne;have hkc:kc≠32:=(kpl kc (by rw[hku];simp)).2
    have L:=Q2O (y:=bl (g+1)++(lt++(bl (g+1)++k))) (u:=bl (g+1)++(lt++(bl (g+1)++ku))) (c:=kc) (n:=0) (b:=true) (ws:=[lt,k]) (by rw[hku];simp only[Z9]) hkc (by rw[Q0Q,Q0r hl.pl hl.ne,Q2N kpl kne]) ⟨fun _=>rfl,fun _=>Q0K⟩ (by rw[Q0K];decide) (by simp only[Zd,Q0t];omega) (Q0u (nf_bl _) (Q0u hl.pl.nf (Q0u (nf_bl _) kpl.nf)))
    have ez:bl (g+1)++(lt++(bl (g+1)++k))++bl 0=bl (g+1)++lt++bl (g+1)++k:=by simp[bl]
    rw[ez]at L;exact L.r (Q1D L (by simp))
   clear e1;rw[eS]at m3 ⊢;walk_at "ev";exact⟨rfl,rfl,ite2 (fun _=>⟨szL (by simp only[Q0t];omega),szL (by simp only[Zd,Q0t,Zk,Zu];omega),szL (by decide),Q0b (hE _ 1 l22)⟩) fun _=>m3⟩
  clear e1;rw[eS]at m2 ⊢;walk_at "ev";exact⟨szL (by decide),_,rfl,rfl,rfl,ite2 (fun _=>⟨szL (by omega),szL (by decide),Q0b (hE _ 1 lx)⟩) fun _=>m2⟩
 clear e1;have f59:∀ {t:W},Pl t->Pl (59::t):=fun h c hc=>(Zx.mp hc).elim (fun e=>by rw[e];decide) (h c)
 have other:k1 (S (nt++bl (g+1)++(RW++bl e)) nd) M:=by
  have L:=Q2O (y:=nt++(bl (g+1)++RW)) (u:=nt++(bl (g+1)++ru)) (c:=vc) (n:=e) (b:=false) (ws:=[nt,lt,k,vt]) (by rw[hru];simp only[Z9]) hvc (by rw[Q0r tn.pl tn.ne,rw3]) ⟨fun q=>absurd q (Q8c tn.pl tn.ne),fun q=>(nomatch q)⟩ (Q8d tn.ne tn.sc) (by simp only[Zd,Q0t];omega) (Q0u tn.pl.nf (Q0u (nf_bl _) rnl))
  have Lx:=Q2O (y:=nt++(bl (g+1)++(RW++(bl (e+1)++[120])))) (u:=nt++(bl (g+1)++(RW++bl (e+1)))) (c:=120) (n:=0) (b:=false) (ws:=[nt,lt,k,vt,[120]]) (by simp only[Z9]) (by decide) (by rw[Q0r tn.pl tn.ne,rwx]) ⟨fun q=>absurd q (Q8c tn.pl tn.ne),fun q=>(nomatch q)⟩ (Q8d tn.ne tn.sc) (by simp only[Zd,Q0t,Zk,Zu];omega) (Q0u tn.pl.nf (Q0u (nf_bl _) (Q0u rnl (Q0u (nf_bl _) (by decide)))))
  have L2:=Q2O (y:=bl (g+1)++((59::nt)++(bl (g+1)++RW))) (u:=bl (g+1)++((59::nt)++(bl (g+1)++ru))) (c:=vc) (n:=e) (b:=true) (ws:=[59::nt,lt,k,vt]) (by rw[hru];simp only[Z9]) hvc (by rw[Q0Q,Q0r (f59 tn.pl) (by simp),rw3]) ⟨fun _=>rfl,fun _=>Q0K⟩ (by rw[Q0K];decide) (by simp only[Zd,Q0t,Zk];omega) (Q0u (nf_bl _) (Q0u (f59 tn.pl).nf (Q0u (nf_bl _) rnl)))
  have z1:nt++(bl (g+1)++RW)++bl e=nt++bl (g+1)++(RW++bl e):=by simp only[Z9]
  have z2:nt++(bl (g+1)++(RW++(bl (e+1)++[120])))++bl 0=nt++bl (g+1)++(RW++bl e)++[32,120]:=by simp[bl,List.replicate_succ']
  have z3:bl (g+1)++((59::nt)++(bl (g+1)++RW))++bl e=bl (g+1)++[59]++(nt++bl (g+1)++(RW++bl e)):=by simp
  rw[z1]at L;rw[z2]at Lx;rw[z3]at L2;refine mid _ nd (zak true top nt) (by simp only[Zd,Q0t];omega) ?_ (Lx.r (Q9s Lx (by simp))) (L2.r (Q1D L2 (by simp))) (L.r (Qba L))
  rcases hpc.n with ⟨a,rfl,ha⟩ | ⟨rfl,hb⟩
  ·exact .inr ⟨a,rfl,ha.rd,ha.nm,ha.le⟩
  ·exact .inl ⟨rfl,hb.nn true⟩
 rw[eS]at other;walk_at "ev";simp only[hp];refine⟨by decide,rfl,rfl,ite2 (fun _=>⟨szL (by decide),Q0N (fun x hx=>(hr x hx).toRowOk) 8,rfl,ite2 (fun q2=>?a) fun _=>?b⟩) fun _=>?c⟩
 case b | c =>
  walk_at "q0";walk_at "q0";exact⟨szL (by rw[Q0t];omega),szL (by simp only[Zd,Q0t];omega),other⟩
 obtain⟨y,ey⟩:∃ y,rows.getLast? = some y:=by
  cases q:rows.getLast? with
  | none =>
   rw[List.getLast?_eq_none_iff.mp q]at q2;rw[show eqB (D.lst (List.map Rw.d [])) (D.lst [])=true from (Q0s _ _).mpr rfl]at q2;cases q2
  | some y=>exact⟨y,rfl⟩
 have hy:=hr y (List.mem_of_getLast? ey);have ey2:=ey;rw[List.getLast?_eq_getElem?]at ey2;refine Q2I hp (by rw[Zi,ZC,ey2];rfl) ?_
 unfold Rw.d;walk_at "q0";refine⟨szL (by simp only[Zd,Q0t];omega),?_⟩
 have L:=Q2O (y:=bl (g+1)++RW) (u:=bl (g+1)++ru) (c:=vc) (n:=e) (b:=true) (ws:=[lt,k,vt]) (by rw[hru];simp only[Z9]) hvc (by rw[Q0Q,rw3]) ⟨fun _=>rfl,fun _=>Q0K⟩ (by rw[Q0K];decide) (by simp only[Zd,Q0t];omega) (Q0u (nf_bl _) rnl)
 have Lx:=Q2O (y:=bl (g+1)++(RW++(bl (e+1)++[120]))) (u:=bl (g+1)++(RW++bl (e+1))) (c:=120) (n:=0) (b:=true) (ws:=[lt,k,vt,[120]]) (by simp only[Z9]) (by decide) (by rw[Q0Q,rwx]) ⟨fun _=>rfl,fun _=>Q0K⟩ (by rw[Q0K];decide) (by simp only[Zd,Q0t,Zk,Zu];omega) (Q0u (nf_bl _) (Q0u rnl (Q0u (nf_bl _) (by decide))))
 have L2:=Q2O (y:=bl (g+1)++([59]++(bl (g+1)++RW))) (u:=bl (g+1)++([59]++(bl (g+1)++ru))) (c:=vc) (n:=e) (b:=true) (ws:=[[59],lt,k,vt]) (by rw[hru];simp only[Z9]) hvc (by rw[Q0Q,Q0r (fun c hc=>by rw[Zp.mp hc];decide) (by simp),rw3]) ⟨fun _=>rfl,fun _=>Q0K⟩ (by rw[Q0K];decide) (by simp only[Zd,Q0t,Zk,Zu];omega) (Q0u (nf_bl _) (Q0u (by decide) (Q0u (nf_bl _) rnl)))
 have z1:bl (g+1)++RW++bl e=bl (g+1)++(RW++bl e):=by simp only[Z9]
 have z2:bl (g+1)++(RW++(bl (e+1)++[120]))++bl 0=bl (g+1)++(RW++bl e)++[32,120]:=by simp[bl,List.replicate_succ']
 have z3:bl (g+1)++([59]++(bl (g+1)++RW))++bl e=bl (g+1)++[59]++(bl (g+1)++(RW++bl e)):=by simp
 rw[z1]at L;rw[z2]at Lx;rw[z3]at L2;have o2:=mid _ (dn y.n) (some y.n) (by simp only[Zd,Q0t];omega) (.inr ⟨y.n,rfl,rfl,hy.nm,hy.nl⟩) (Lx.r (Q1D Lx (by simp))) (L2.r (Q1D L2 (by simp))) (L.r (Q9r L ey hy.in_.at_))
 rw[eS]at o2;exact o2
theorem Q8e{p:Nat->Bool}{x:Nat}(h:p x=false):∀ l:W,((l++[x]).takeWhile p).length<=l.length
 | []=>by simp[takeWhile_cons,h]
 | a::l=>by
  have ih:=Q8e h l;rw[cons_append,takeWhile_cons];split
  ·rw[Zk,Zk];omega
  ·simp
theorem Q9S(w:W):zab (rst (59::w))=false:=by
 have h:=Q8e (p:=fun c=>([32]:W).contains c) (x:=59) rfl w.reverse;rw[ZB]at h;obtain⟨m,hm⟩:∃ m,rst (59::w)=(59::w).take (m+1):=by
  refine⟨w.length-((w.reverse++[59]).takeWhile fun c=>([32]:W).contains c).length,?_⟩;unfold rst zai;simp only[ZT,Yj,if_true,drop_zero,reverse_cons,Zk];congr 1;omega
 rw[hm];unfold zab;rw[Ze (show ((59::w).take (m+1)).take 1=[59] by simp)]
 simp
theorem Q1M{top:List W}:∀ {a b:List (Nat×W)} {rs:List Rw},zag top rs (a++b)=match zag top rs a with | .error e=>.error e | .ok rs'=>zag top rs' b
 | [],_,_=>rfl
 | (n,z)::a,b,rs=>by
  rw[cons_append,Q0A,Q0A];cases za9 top rs z with
  | error c=>rfl
  | ok x=>exact Q1M
theorem Q2P{ls:List W}{z:W}{n:Nat}:za0 n (ls++[z])=za0 n ls++(if zab (rst z)=true then [(n+ls.length,rst z)] else []):=by
 rw[Q9m];rfl
theorem Q6e{top:List W}{rows:List Rw}{z:W}{c:Nat}(h:za9 top rows z=.error c):1<=c/\c<=5:=by
 have vl:∀ {k v:W} {c:Nat},zaA top k v=.error c->1<=c/\c<=5:=fun{k v c} h=>by
  unfold zaA at h;split at h
  ·split at h
   ·cases h
   ·cases h;decide
  ·split at h
   ·cases h
   ·cases h;decide
 have rs:∀ {a:List W} {l k v:W} {c:Nat},zaa a top l k v=.error c->1<=c/\c<=5:=fun{a l k v c} h=>by
  unfold zaa at h;split at h
  ·cases h;decide
  ·split at h
   ·split at h
    ·cases h
    ·rename_i e;cases h;exact vl e
   ·cases h;decide
 unfold za9 at h;split at h
 ·rename_i c' e;cases h;unfold zaF at e;split at e
  ·split at e
   ·cases e;decide
   ·exact rs e
  ·split at e
   ·cases e;decide
   ·split at e
    ·exact rs e
    ·cases e;decide
  ·cases e;decide
 ·split at h
  ·cases h;decide
  ·split at h
   ·cases h;decide
   ·cases h
theorem Q8f{top:List W}{rows:List Rw}{z:W}{x:Rw}(h:za9 top rows z=.ok x):¬ zam top x/\¬ zap rows x:=by
 unfold za9 at h;split at h
 ·cases h
 ·split at h
  ·cases h
  ·split at h
   ·cases h
   ·rename_i q1 q2;cases h;exact⟨q1,q2⟩
structure LnP(l:W):Prop where
 le:l.length<=700
 nl:10∉l
structure RowsG(top:List W)(rows:List Rw):Prop where
 r:∀ x∈rows,Row12 top x/\¬ zam top x
 p:rows.Pairwise fun y x=>y.n=x.n->zah x y=false
theorem RowsG.add{top:List W}{rows:List Rw}{x:Rw}(h:RowsG top rows)(hx:Row12 top x)(q:¬ zam top x/\¬ zap rows x):RowsG top (rows++[x]):=by
 refine⟨fun y hy=>?_,List.pairwise_append.mpr ⟨h.p,List.pairwise_singleton _ _,fun y hy z hz e=>?_⟩⟩
 ·rcases Z3.mp hy with hy | hy
  ·exact h.r y hy
  ·rw[Zp.mp hy];exact⟨hx,q.1⟩
 ·rw[Zp.mp hz]at e ⊢;exact eq_false_iff.mpr fun c=>q.2 ⟨y,hy,e,c⟩
noncomputable def sp_am:DSp:=fun ds M R=>∃ (ws top:List W) (p c:Addr) (cells:List Int) (b:Bool),ds=[.lst (ws.map D.str),dn top,.ref p,.ref c,.bl b]/\M p=some (.lst [])/\M c=some (.lst (cells.map D.int))/\p≠c/\cells.length<=45/\ws.length=4/\(∀ w∈ws,Wd w)/\top.length<=3/\(∀ w∈top,Wd w) /\
 ∀ (rows:List Rw) (ls:List W) (q:Addr) (M':DH),M q=none->M' q=some (.lst (ls.map D.str))->M' p=some (.lst (rows.map Rw.d))->(∀ a o,a≠p->M a=some o->M' a=some o)->ls.length<=90->rows.length<=45->(∀ l∈ls,LnP l)->RowsG top rows ->
  (zag top [] (za0 2 ls)=.ok rows->R (.tup [.ref q,.tup [.str zaj,.int 0]]) M')/\∀ n:Nat,1<=n/\n<=5->zag top [] (za0 2 ls)=.error (n,ls.length+1)->R (.tup [.ref q,.tup [.str (wayW n),.int ((ls.length+1:Nat):Int)]]) M'
theorem Q5F:∀ n:Nat,1<=n/\n<=5->wayW n≠zaj:=fun n h=>by
 have:n=1\/n=2\/n=3\/n=4\/n=5:=by omega
 rcases this with rfl | rfl | rfl | rfl | rfl <;> decide
set_option maxHeartbeats 1000000 in
theorem ok_am(T:Tab)(h113:T.fn 113=some ⟨"_law_line",5,[],sp_aF⟩)(h110:T.fn 110=some ⟨"_law_piece",4,[],sp_aD⟩)(h101:T.fn 101=some ⟨"_law_part",3,[],sp_a0⟩):∀ ds M R,sp_am ds M R->evS T b_am (za6 R) (za5 ["a","b","c","d","e","f","g","h","i","j","k","l"] ds) M:=by
 rintro ds M R ⟨ws,top,p,c,cells,b,rfl,hp,hc,hpc,hcl,hw,hwd,ht,htw,h⟩;simp only[b_am];walk_at "q1";refine⟨szL (by decide),fun q hq=>?_⟩
 rw[e1];clear e1;walk_at "q1";refine⟨szL (by decide),?_⟩
 rw[e1];clear e1;have qp:q≠p:=fun z=>by rw[z,hp]at hq;cases hq
 have qc:q≠c:=fun z=>by rw[z,hc]at hq;cases hq
 walk_at "q1";simp only[Q0j qc.symm,hc];refine Q1h (fun i ρ M'=>∃ (rows:List Rw) (ls:List W) (v7 v8 v9 v10 v11:Option D),M' q=some (.lst (ls.map D.str))/\M' p=some (.lst (rows.map Rw.d))/\(∀ a o,a≠p->M a=some o->M' a=some o)/\ls.length<=2 * i/\rows.length<=i/\(∀ l∈ls,LnP l)/\RowsG top rows/\zag top [] (za0 2 ls)=.ok rows /\
   ρ=[some (.lst (ws.map D.str)),some (dn top),some (.ref p),some (.ref c),some (.bl b),some (.ref q),some (.tup [.str zaj,.int 0]),v7,v8,v9,v10,v11])
  ⟨[],[],none,none,none,none,none,by rw[Q0e];rfl,by rw[Q0j qp.symm];exact hp,(fun a o _ e=>by rw[Q0j (dne e hq)];exact e),Zz _,Zz _,(fun l z=>nomatch z),⟨fun x z=>(nomatch z),List.Pairwise.nil⟩,rfl,rfl⟩ (fun i ρ M' ⟨_,_,_,_,_,_,_,_,_,e,_⟩=>e c _ hpc.symm hc) ?_ ?_
 rotate_left
 ·rintro ρ M' ⟨rows,ls,v7,v8,v9,v10,v11,mq,mp,ms,hll,hrl,hln,hrg,hrd,rfl⟩;rw[Zi]at hll hrl;rw[e1];clear e1;walk_at "ev";exact⟨szL (by decide),Q0b ((h rows ls q M' hq mq mp ms (by omega) (by omega) hln hrg).1 hrd)⟩
 rintro i d0 ρ M' k hi ⟨rows,ls,v7,v8,v9,v10,v11,mq,mp,ms,hll,hrl,hln,hrg,hrd,rfl⟩ hk;have hil:=(Zv.mp hi).1;rw[Zi]at hil;rw[ZC]at hi;obtain⟨n,en,rfl⟩:=Option.map_eq_some_iff.mp hi;clear e1 hi;show dSeq _ _ _ _ _;refine Q0v fun k2 e2=>?_;walk_at "ev";rw[e2];clear e2;refine Q0v fun k2 e2=>?_;have s2:∀ f:Int,k2 [some (.lst (ws.map D.str)),some (dn top),some (.ref p),some (.ref c),some (.bl b),some (.ref q),some (.tup [.str zaj,.int 0]),some (.int n),some (.int f),v9,v10,v11] M':=fun f=>by
  rw[e2];clear e2;refine Q0v fun k2 e2=>?_;walk_at "ev";simp only[h110];walk_at "ev";refine⟨ws,top,n,f,rfl,hw,hwd,ht,htw,fun nd nt ld lt kk vd vt hpt=>?_⟩;rw[e2];clear e2;refine Q0v fun k2 e2=>?_;have s4:∀ (z:W) (way:W) (rows':List Rw) (M2:DH),z.length<=600->10∉z->M2 q=some (.lst (ls.map D.str))->M2 p=some (.lst (rows'.map Rw.d))->(∀ a o,a≠p->M a=some o->M2 a=some o)->rows'.length<=i+1->RowsG top rows'->zab (rst z)=true ->
    ((way=zaj/\∃ x,za9 top rows (rst z)=.ok x/\rows'=rows++[x])\/∃ m,(1<=m/\m<=5)/\way=wayW m/\rows'=rows/\za9 top rows (rst z)=.error m) ->
    k2 [some (.lst (ws.map D.str)),some (dn top),some (.ref p),some (.ref c),some (.bl b),some (.ref q),some (.tup [.str zaj,.int 0]),some (.int n),some (.int f),some (zaU nd nt ld lt kk vd vt),some (.str z),some (.str way)] M2:=by
   intro z way rows' M2 hz hnl mq mp ms hrl' hrg' hct hw4;obtain⟨S,eS⟩:∃ S:W->W->DSt,∀ z way,S z way=[some (.lst (ws.map D.str)),some (dn top),some (.ref p),some (.ref c),some (.bl b),some (.ref q),some (.tup [.str zaj,.int 0]),some (.int n),some (.int f),some (zaU nd nt ld lt kk vd vt),some (.str z),some (.str way)]:=⟨_,fun _ _=>rfl⟩;rw[e2];clear e2;refine Q0v fun k2 e2=>?_;have s5:∀ (ls:List W) (M2:DH),M2 q=some (.lst (ls.map D.str))->M2 p=some (.lst (rows'.map Rw.d))->(∀ a o,a≠p->M a=some o->M2 a=some o)->ls.length<=2 * i+1->(∀ l∈ls,LnP l)->zag top [] (za0 2 ls)=.ok rows->k2 (S z way) M2:=fun ls M2 mq mp ms hll hln hrd=>by
    rw[e2];clear e2;refine Q0v fun k2 e2=>?_;have s6:∀ (z way:W),z.length<=601->10∉z->((way=zaj/\zag top [] (za0 2 (ls++[z]))=.ok rows')\/∃ m,(1<=m/\m<=5)/\way=wayW m/\zag top [] (za0 2 (ls++[z]))=.error (m,(ls++[z]).length+1))->k2 (S z way) M2:=fun z way hz hnl hw6=>by
     rw[e2];clear e2;refine Q0v fun k2 e2=>?_;rw[eS];walk_at "ev";simp only[mq];refine⟨small1000 (by rw[Zi];omega),?_⟩
     have ea:ls.map D.str++[D.str z]=(ls++[z]).map D.str:=by rw[ZY];rfl
     rw[ea,e2];clear e2;have mq2:dupd M2 q (.lst ((ls++[z]).map D.str)) q=some (.lst ((ls++[z]).map D.str)):=Q0e;have mp2:dupd M2 q (.lst ((ls++[z]).map D.str)) p=some (.lst (rows'.map Rw.d)):=by rw[Q0j qp.symm];exact mp
     have ms2:∀ a o,a≠p->M a=some o->dupd M2 q (.lst ((ls++[z]).map D.str)) a=some o:=fun a o ha e=>by rw[Q0j (dne e hq)];exact ms a o ha e
     have ln2:∀ l∈ls++[z],LnP l:=fun l hl=>by
      rcases Z3.mp hl with hl | hl
      ·exact hln l hl
      ·rw[Zp.mp hl];exact⟨by omega,hnl⟩
     have ll2:(ls++[z]).length<=2 * i+2:=by rw[Zd];simp only[Zk,Zu];omega
     generalize dupd M2 q (.lst ((ls++[z]).map D.str))=M3 at mq2 mp2 ms2;generalize ls++[z]=ls2 at mq2 ln2 ll2 hw6;rcases hw6 with ⟨rfl,hr6⟩ | ⟨m,hm,rfl,hr6⟩
     ·walk_at "ev";refine⟨rfl,rfl,ite2 (fun q=>absurd q (by decide)) fun _=>?_⟩
      exact hk _ _ ⟨rows',ls2,_,_,_,_,_,mq2,mp2,ms2,by omega,by omega,ln2,hrg',hr6,rfl⟩
     ·walk_at "ev";refine⟨rfl,rfl,ite2 (fun _=>?_) fun q=>absurd (by show (!decide (wayW m=zaj))=true;rw[Zg (Q5F m hm)];rfl) q⟩
      simp only[mq2,Zi];refine⟨szL (by decide),szL (by decide),Q0b ((h rows' ls2 q M3 hq mq2 mp2 ms2 (by omega) (by omega) ln2 hrg').2 m hm hr6)⟩
    clear e2;have tA:zab (rst z)=true->za0 2 (ls++[z])=za0 2 ls++[(2+ls.length,rst z)]:=fun q=>by rw[Q2P,Zm q]
    have tB:zag top [] (za0 2 (ls++[59::z]))=.ok rows:=by rw[Q2P,Q9S,Zj (by decide),append_nil];exact hrd
    have keep:k2 (S z way) M2:=s6 z way (by omega) hnl (by
     rcases hw4 with ⟨rfl,x,hx,rfl⟩ | ⟨m,hm,rfl,rfl,hx⟩
     ·exact .inl ⟨rfl,by rw[tA hct,Q1M,hrd];dsimp only;rw[Q0A,hx];rfl⟩
     ·exact .inr ⟨m,hm,rfl,by rw[tA hct,Q1M,hrd];dsimp only;rw[Q0A,hx,Zd];dsimp only;rw[show 2+ls.length=ls.length+[z].length+1 by simp only[Zk,Zu];omega]⟩)
    have pass:way≠zaj->k2 (S (59::z) zaj) M2:=fun q1=>s6 (59::z) zaj (by rw[Zk];omega) (fun q=>(Zx.mp q).elim (fun e=>by cases e) hnl) (.inl ⟨rfl,by
     rcases hw4 with ⟨rfl,x,hx,rfl⟩ | ⟨m,hm,rfl,rfl,hx⟩
     ·exact absurd rfl q1
     ·exact tB⟩)
    simp only[eS,zaU]at keep pass ⊢;walk_at "ev";refine⟨rfl,rfl,ite2 (fun q1=>?_) fun _=>keep⟩;refine ite2 (fun _=>?_) fun _=>keep;have pass:=pass fun z=>by rw[z]at q1;exact absurd q1 (by decide)
    refine ite2 (fun _=>?_) fun _=>⟨szL (by omega),pass⟩
    walk_at "q0";exact⟨rfl,rfl,ite2 (fun _=>⟨by decide,rfl,rfl,ite2 (fun _=>⟨szL (by omega),pass⟩) fun _=>keep⟩) fun _=>⟨szL (by omega),pass⟩⟩
   clear e2;simp only[eS]at s5;walk_at "ev";simp only[mq];refine⟨by decide,rfl,rfl,ite2 (fun _=>?_) fun _=>s5 ls M2 mq mp ms (by omega) hln hrd⟩
   have ec:cut z none (some 9)=z.take 9:=Q2C z 9;rw[ec];have tl:(z.take 9).length<=9:=by rw[ZU];omega
   refine⟨szL (by omega),szL (by omega),szL (by decide),⟨by decide,by decide⟩,by decide,Q1b (Int.emod_nonneg _ (by decide)) (by simp only[Zk,Zu];exact Yi _ (by decide)) fun d hd=>?_⟩
   obtain⟨y,rfl,hy1,hy2,hy3⟩:∃ y:W,d=.str y/\y.length<=20/\10∉y/\zab (rst y)=false:=by
    have hm:=Z0 hd;simp only[Zx,ZN,or_false]at hm;rcases hm with rfl | rfl | rfl
    ·exact⟨_,rfl,by rw[Zk];omega,fun q=>(Zx.mp q).elim (fun e=>by cases e) fun e=>hnl (mem_of_mem_take e),Q9S _⟩
    ·exact⟨_,rfl,by decide,by decide,by decide⟩
    ·exact⟨_,rfl,by decide,by decide,by decide⟩
   simp only[mq];refine⟨small1000 (by rw[Zi];omega),?_⟩
   have ea:ls.map D.str++[D.str y]=(ls++[y]).map D.str:=by rw[ZY];rfl
   rw[ea];refine s5 (ls++[y]) _ Q0e (by rw[Q0j qp.symm];exact mp) (fun a o ha e=>by rw[Q0j (dne e hq)];exact ms a o ha e) (by rw[Zd];simp only[Zk,Zu];omega) (fun l hl=>?_) (by rw[Q2P,hy3,Zj (by decide),append_nil];exact hrd)
   rcases Z3.mp hl with hl | hl
   ·exact hln l hl
   ·rw[Zp.mp hl];exact⟨by omega,hy2⟩
  walk_at "ev";simp only[h113];walk_at "ev";refine⟨top,rows,p,nd,nt,ld,lt,kk,vd,vt,n,f,rfl,mp,hpt,htw,ht,by omega,fun x hx=>(hrg.r x hx).1,fun z m L=>?_,fun z x L hx=>?_⟩
  ·refine⟨rfl,?_⟩;exact s4 z (wayW m) rows M' L.le L.nl mq mp ms (by omega) hrg L.ct (.inr ⟨m,Q6e L.st,rfl,rfl,L.st⟩)
  ·refine⟨rfl,?_⟩;exact s4 z zaj (rows++[x]) _ L.le L.nl (by rw[Q0j qp];exact mq) (by rw[Q0e]) (fun a o ha e=>by rw[Q0j ha];exact ms a o ha e) (by rw[Zd];simp only[Zk,Zu];omega) (hrg.add hx (Q8f L.st)) L.ct (.inl ⟨rfl,x,L.st,rfl⟩)
 clear e2;walk_at "ev";simp only[h101]
 try walk_at "ev"
 refine ite2 (fun _=>?_) fun _=>s2 99;exact⟨n,20,140,rfl,by decide,by decide,by decide,fun u hu=>s2 u⟩
noncomputable def isxT(n:Nat):List (Str×Bool):=if 1<=n/\n<=5 then [("BadRow",n==1),("BadName",n==2),("Outside",n==3),("BadCut",n==4),("Clash",n==5),("ZoneError",true)] else []
noncomputable def isxs:Nat->Str->Option Bool:=fun c nm=>(isxT (c % 64)).lookup nm
noncomputable def rws:Nat->Bool:=fun c=>decide (1<=c % 64)&&decide (c % 64<=5)
noncomputable def sp_an:DSp:=fun ds M R=>∃ z:W,ds=[.str z]/\ZoneB z/\match zaG z with
 | .ok _=>R (.tup [.str zaj,.int 0]) M
 | .error (c,n)=>(1<=c/\c<=5)/\R (.tup [.str (wayW c),.int n]) M
theorem ok_an(T:Tab)(h42:T.fx 42=some ⟨"read_zone",1,[],sp_a4⟩)(hno:∀ c M,¬ T.xd c M)(hx:T.isx=isxs)(hw:T.rw=rws) :
  ∀ ds M R,sp_an ds M R->evS T b_an (za6 R) (za5 ["a","b","c"] ds) M:=by
 rintro ds M R ⟨z,rfl,hz,h⟩;simp only[b_an];walk_at "q1";refine⟨szL (by decide),?_⟩
 rw[e1];clear e1;walk_at "q1";simp only[h42];walk_at "ev";refine⟨hno,z,rfl,hz,?_⟩;cases q:zaG z with
 | ok r =>
  obtain⟨top,life,rows⟩:=r;rw[q]at h;intro a M' f m s;rw[e1];clear e1;walk_at "ev";exact⟨M,s,h⟩
 | error r =>
  obtain⟨c,n⟩:=r;rw[q]at h;obtain⟨hc,h⟩:=h;have er:zaZ (rc c n)=some (n:Int):=Q2y (by omega)
  have em:rc c n % 64=c:=by unfold rc;omega
  have ew:rws (rc c n)=true:=by unfold rws;rw[em];simp;omega
  have i:∀ nm,T.isx (rc c n) nm=(isxT c).lookup nm:=fun nm=>by rw[hx];unfold isxs;rw[em]
  have pk:zbb T (rc c n) [("BadRow",[.lit (.str [114,111,119]),.row]),("BadName",[.lit (.str [110,97,109,101]),.row]),("Outside",[.lit (.str [111,117,116,115,105,100,101]),.row]),("BadCut",[.lit (.str [99,117,116]),.row]),("Clash",[.lit (.str [99,108,97,115,104]),.row]),("ZoneError",[.lit (.str [111,116,104,101,114]),.row])]=some [.lit (.str (wayW c)),.row]:=by
   have:c=1\/c=2\/c=3\/c=4\/c=5:=by omega
   rcases this with rfl | rfl | rfl | rfl | rfl <;> (simp only[zbb,i];rfl)
  dsimp only;rw[pk];refine⟨rfl,fun a=>?_⟩
  try walk_at "ev"
  simp only[er,hw,ew]
  try walk_at "ev"
  refine⟨szL (by decide),?_⟩
  rw[e1];clear e1;walk_at "ev";exact Q0b h
noncomputable def sp_ay:DSp:=fun ds M R=>∃ (top:List W) (x:Rw),ds=[dn top,x.d]/\Row12 top x/\¬ zam top x/\R (.bl true) M
theorem ok_ay{T:Tab}:∀ ds M R,sp_ay ds M R->evS T b_ay (za6 R) (za5 ["a","b"] ds) M:=by
 rintro ds M R ⟨top,x,rfl,hx,hcb,h⟩;have ix:∀ {i:Int} {M:DH} {Q:DK} {d:D},0<=i->i<4->([dn x.n,D.int x.l,D.str x.k,x.v]:List D)[i.toNat]? = some d->Q d M->rIxD (.tup [dn x.n,D.int x.l,D.str x.k,x.v]) (.int i) M Q:=fun h0 h1 e q=>ix_tup h0 h1 fun d' e'=>by rw[e]at e';cases e';exact q
 simp only[b_ay,Rw.d];walk_at "q1";refine ite2 (fun q=>absurd q (show ¬ (!Ty.sub .tuple .tuple)=true by decide)) fun _=>⟨rfl,rfl,ite2 (fun q=>absurd q (by decide)) fun _=>ix (by decide) (by decide) rfl ?_⟩
 refine ite2 (fun q=>absurd q (show ¬ (!Ty.sub .tuple .tuple)=true by decide)) fun _=>?_
 rw[e1];clear e1;walk_at "q1";refine ix (by decide) (by decide) rfl ?_
 refine ite2 (fun q=>absurd q (show ¬ (!Ty.sub .int .int)=true by decide)) fun _=>ix (by decide) (by decide) rfl ?_
 refine ite2 (fun q=>absurd q (show ¬ Ty.sub .int .bool=true by decide)) fun _=>ix (by decide) (by decide) rfl ?_
 simp only[dn]
 try walk_at "ev"
 rw[Q2C,Zi,<- map_take,hx.in_.at_];refine⟨Q0d _,Q0d _,ite2 (fun q=>absurd q (by rw[show eqB (D.tup (top.map D.str)) (D.tup (top.map D.str))=true from (Q0s _ _).mpr rfl];decide)) fun _=>?_⟩
 rw[e1];clear e1;refine Q0a fun k1 e1=>?_;have fin:k1 [some (.tup (top.map D.str)),some (.tup [.tup (x.n.map D.str),.int x.l,.str x.k,x.v])] M:=by
  rw[e1];clear e1;walk_at "ev";rcases hx.vv with ⟨hN,b,e,_⟩ | ⟨hN,w,e,_⟩
  ·rw[e];walk_at "q0";walk_at "q0";refine⟨szL (by decide),_,rfl,rfl,rfl,Q0b ?_⟩
   rw[show ∀ B:Bool,B=true->((tyD (dn b)).sub Ty.tuple==B)=true from fun B h=>by rw[h];rfl]
   ·exact h
   ·exact (Q1d rfl).mpr hN
  ·rw[e];walk_at "q0";walk_at "q0";refine⟨szL (by decide),_,rfl,rfl,rfl,Q0b ?_⟩
   rw[show ∀ B:Bool,B=false->((tyD (.str w)).sub Ty.tuple==B)=true from fun B h=>by rw[h];rfl]
   ·exact h
   ·exact eq_false_iff.mpr fun z=>hN ((Q1d rfl).mp z)
 clear e1;simp only[dn]at ix;walk_at "ev";refine ix (by decide) (by decide) rfl ?_
 try walk_at "ev"
 refine⟨rfl,rfl,ite2 (fun q=>?_) fun _=>fin⟩;have q:x.k=zaL:=Zw q;refine ix (by decide) (by decide) rfl ?_
 try walk_at "ev"
 simp only[Q1c];refine⟨Q0d _,Q0d _,ite2 (fun q2=>absurd ⟨q,.inl (Zw q2)⟩ hcb) fun q2=>?_⟩;have hne:x.n≠[]:=fun z=>q2 (Ze (by have:=hx.in_.at_;rw[z]at this ⊢;simpa using this))
 have hpos:=length_pos_iff.mpr hne;refine ix (by decide) (by decide) rfl ?_
 refine Q2H (d:=.str x.n[x.n.length-1]) (by rw[Zi,ZC,Zq (by omega)];rfl) ?_
 try walk_at "ev"
 refine⟨rfl,rfl,ite2 (fun q3=>absurd ⟨q,.inr ?_⟩ hcb) fun _=>fin⟩;rw[ZZ (by omega),show x.n.length-1+1=x.n.length by omega,drop_length,Zw q3]
noncomputable def sp_aq:DSp:=fun ds M R=>∃ (top:List W) (life:Nat) (rows:List Rw),ds=[.tup [dn top,.int life,.lst (rows.map Rw.d)],dn top,.int life]/\RowsG top rows/\rows.length<=45/\R (.bl true) M
theorem ok_aq(T:Tab)(h116:T.fn 116=some ⟨"_law_is_row",2,[],sp_ay⟩)(h111:T.fn 111=some ⟨"_law_clashes",2,[],sp_ad⟩):∀ ds M R,sp_aq ds M R->evS T b_aq (za6 R) (za5 ["a","b","c","d"] ds) M:=by
 rintro ds M R ⟨top,life,rows,rfl,hg,hl,h⟩;have ix:∀ {i:Int} {M:DH} {Q:DK} {d:D},0<=i->i<3->([dn top,D.int (life:Nat),D.lst (rows.map Rw.d)]:List D)[i.toNat]? = some d->Q d M->rIxD (.tup [dn top,D.int (life:Nat),D.lst (rows.map Rw.d)]) (.int i) M Q:=fun h0 h1 e q=>ix_tup h0 h1 fun d' e'=>by rw[e]at e';cases e';exact q
 simp only[b_aq];walk_at "q1";refine ite2 (fun q=>absurd q (show ¬ (!Ty.sub .tuple .tuple)=true by decide)) fun _=>⟨rfl,rfl,ite2 (fun q=>absurd q (by decide)) fun _=>ix (by decide) (by decide) rfl ?_⟩
 refine ite2 (fun q=>absurd q (show ¬ (!Ty.sub .list .list)=true by decide)) fun _=>?_
 rw[e1];clear e1;walk_at "q1";refine ix (by decide) (by decide) rfl ?_
 refine ite2 (fun q=>absurd q (show ¬ (!Ty.sub .tuple .tuple)=true by decide)) fun _=>ix (by decide) (by decide) rfl ?_
 have et:eqB (dn top) (dn top)=true:=(Q0s _ _).mpr rfl;refine⟨Q0H 10 _,Q0H 10 _,ite2 (fun q=>absurd q (by
  have:(!eqB (dn top) (dn top))=false:=by rw[et];rfl
  exact fun z=>by
   have z:(!eqB (dn top) (dn top))=true:=z;rw[this]at z;cases z)) fun _=>ix (by decide) (by decide) rfl ?_⟩
 refine ite2 (fun q=>absurd q (show ¬ Ty.sub .int .bool=true by decide)) fun _=>ix (by decide) (by decide) rfl ?_
 try walk_at "ev"
 refine⟨rfl,rfl,ite2 (fun q=>absurd q (by simp)) fun _=>?_⟩
 rw[e1];clear e1;walk_at "q1";refine ix (by decide) (by decide) rfl ?_
 dsimp only;rw[Zi,ZO];refine⟨by omega,by omega,?_⟩
 refine Q2c (fun i ρ M'=>Sub M M'/\∃ v,ρ=[some (.tup [dn top,.int (life:Nat),.lst (rows.map Rw.d)]),some (dn top),some (.int (life:Nat)),v]) ⟨Sub.refl M,none,rfl⟩ (fun _ _ _ _=>trivial) ?_ ?_
 ·rintro i ρ M' k hi ⟨sM,v,rfl⟩ hk;have hi:i<rows.length:=by simpa using hi
  have hm:rows[i]∈rows:=getElem_mem hi;obtain⟨x1,x2⟩:=hg.r _ hm;have il:∀ {M:DH} {Q:DK},Q (rows[i].d) M->rIxD (.lst (rows.map Rw.d)) (.int (0+(i:Int))) M Q:=fun{M Q} q=>Q1b (by omega) (by rw[Zi];omega) fun d hd=>by
   rw[show (0+(i:Int)).toNat=i by omega,ZC,Zq hi]at hd
   cases hd;exact q
  have nc:¬ zap (rows.take i) rows[i]:=fun⟨y,hy,e,c⟩=>by
   obtain⟨j,hj⟩:=List.mem_iff_getElem?.mp hy;rw[List.getElem?_take]at hj;split at hj
   ·rename_i hji;obtain⟨hj2,rfl⟩:=Zv.mp hj;have:=List.pairwise_iff_getElem.mp hg.p j i hj2 hi hji e;rw[this]at c;cases c
   ·cases hj
  show dSeq _ _ _ _ _;walk_at "ev";simp only[h116,h111]
  try walk_at "ev"
  refine ix (by decide) (by decide) rfl (il ⟨top,_,rfl,x1,x2,?_⟩)
  refine ite2 (fun q=>absurd q (by decide)) fun _=>?_
  refine ix (by decide) (by decide) rfl ?_
  try walk_at "ev"
  intro p hp;have ec:cut (rows.map Rw.d) none (some (0+(i:Int)))=(rows.take i).map Rw.d:=by
   rw[show (0+(i:Int))=(i:Int) by omega,map_take]
   exact Q2C _ i
  rw[ec];refine ix (by decide) (by decide) rfl (il ⟨p,rows.take i,_,rfl,Q0e,⟨x1.pv⟩,fun y hy=>⟨(hg.r y (mem_of_mem_take hy)).1.pv⟩,fun b hb=>?_⟩)
  exact ite2 (fun q=>absurd (hb.mp q) nc) fun _=>hk _ _ ⟨sM.trans (Sub.new hp),_,rfl⟩
 ·rintro ρ M' ⟨sM,v,rfl⟩;rw[e1];clear e1;walk_at "ev";exact⟨M,sM,h⟩
theorem Qbb{ls:List W}(hn:ls≠[])(hl:ls.length<=100)(h:∀ l∈ls,LnP l):za1 10 (za4 [10] ls)=ls/\ZoneB (za4 [10] ls):=by
 have es:za1 10 (za4 [10] ls)=ls:=Q0z hn fun w hw=>(h w hw).nl;have tin:∀ {ls:List W} {n:Nat} {p:Nat×W},p∈za0 n ls->∃ l∈ls,p.2=rst l:=fun{ls}=>by
  induction ls with
  | nil=>intro n p h;cases h
  | cons l r ih =>
   intro n p h;have h':p∈(if zab (rst l)=true then (n,rst l)::za0 (n+1) r else za0 (n+1) r):=h
   split at h'
   ·rcases Zx.mp h' with rfl | h'
    ·exact⟨l,Zl,rfl⟩
    ·obtain⟨x,hx,e⟩:=ih h';exact⟨x,Zo _ hx,e⟩
   ·obtain⟨x,hx,e⟩:=ih h';exact⟨x,Zo _ hx,e⟩
 refine⟨es,⟨?_,by rw[es];omega,fun p hp=>?_⟩⟩
 ·have:=Q2K (c:=10) (K:=700) ls fun w hw=>(h w hw).le;have:ls.length * (700+1)<=100 * 701:=mul_le_mul_right _ hl;omega
 ·rw[es]at hp;obtain⟨l,hm,e⟩:=tin hp;have g:=(h l hm).le;have:=Qcu l;rw[e];exact⟨by omega,by have:=Q0M 32 (rst l);omega⟩
theorem Qbc{top:List W}{life:Nat}{h0:W}{ls:List W}(hh:LnOk h0)(hd:HeadT h0 top (life:Int))(ht:top.length<=10)(hs:za1 10 (za4 [10] (h0::ls))=h0::ls):zaG (za4 [10] (h0::ls))=match zag top [] (za0 2 ls) with | .error e=>.error e | .ok rows=>.ok (top,life,rows):=by
 rw[Q1p (n:=1) (l:=h0) (r:=za0 2 ls) (by rw[hs,Q4n hh]),Q4m hd ht]
 try rfl
noncomputable def sp_law:DSp:=dLaw 63
set_option maxHeartbeats 2000000 in
theorem ok_law(T:Tab)(h42:T.fx 42=some ⟨"read_zone",1,[],sp_a4⟩)(h40:T.fn 40=some ⟨"show_zone",1,[],sp_aj⟩)(h117:T.fn 117=some ⟨"_law_holds",3,[],sp_aq⟩)(h115:T.fn 115=some ⟨"_law_refusal",1,[],sp_an⟩)(h105:T.fn 105=some ⟨"_law_name_text",3,[],sp_a9⟩)(h114:T.fn 114=some ⟨"_law_lines",5,[],sp_am⟩)(h100:T.fn 100=some ⟨"_law_cell_at",2,[],sp_al⟩)
  (h103:T.fn 103=some ⟨"_law_below",4,[],sp_aa⟩) (h101:T.fn 101=some ⟨"_law_part",3,[],sp_a0⟩) (h102:T.fn 102=some ⟨"_law_words",2,[],sp_aE⟩) :
  ∀ ds M R,sp_law ds M R->evS T b_law (za6 R) (za5 ["a","b","c","d","e","f","g","h","i"] ds) M:=by
 intro ds M R h;unfold sp_law dLaw at h;split at h;rotate_left
 ·exact h.elim
 rename_i ds0;obtain⟨ns,rfl,hl,h⟩:=h;simp only[b_law];walk_at "q1";simp only[h102,h100];walk_at "ev";refine⟨ns,0,rfl,fun n0=>⟨ns,1,rfl,fun n1=>⟨n0,n1,rfl,fun ws hw hwd=>?_⟩⟩⟩;rw[e1];clear e1;walk_at "q1";simp only[h103,h100,h101];walk_at "ev";refine⟨ns,2,rfl,fun n2=>⟨ns,2,rfl,fun n2'=>⟨n2',0,4,rfl,by decide,by decide,by decide,fun v hv=>⟨ws,n2,1,v,rfl,hw,hwd,by decide,by decide,by omega,fun top ht htw=>?_⟩⟩⟩⟩
 have ht3:top.length<=3:=by omega
 rw[e1];clear e1;walk_at "q1";simp only[h100];walk_at "ev";refine⟨ns,3,rfl,fun n3=>?_⟩
 try walk_at "ev"
 refine⟨⟨by decide,by decide⟩,by decide,?_⟩
 have hlf:0<=n3 % (10:Int) ^ (9:Int).toNat/\n3 % (10:Int) ^ (9:Int).toNat<1000000000:=by
  have e:(10:Int) ^ (9:Int).toNat=1000000000:=by decide
  rw[e];omega
 generalize n3 % (10:Int) ^ (9:Int).toNat=life0 at hlf;obtain⟨life,rfl⟩:=Z2 hlf.1;rw[e1];clear e1;walk_at "q1";refine⟨szL (by decide),fun p hp=>?_⟩
 rw[e1];clear e1;walk_at "q1";simp only[h114,h100];walk_at "ev";intro c hc;have ec:cut (ns.map D.int) (some 4) (some 44)=((ns.drop 4).take 40).map D.int:=by
  rw[map_take,map_drop];exact Qb6 _ 4 44
 rw[ec];have cp:p≠c:=fun z=>by rw[<- z,Q0e]at hc;cases hc
 have s1:Sub M (dupd (dupd M p (.lst [])) c (.lst (((ns.drop 4).take 40).map D.int))):=(Sub.new hp).trans (Sub.new hc);have fin:∀ (rows:List Rw) (ls:List W) (en:D) (M4:DH),Sub M M4->ls.length<=90->rows.length<=45->(∀ l∈ls,LnP l)->RowsG top rows->((en=.tup [.str zaj,.int 0]/\zag top [] (za0 2 ls)=.ok rows)\/∃ n:Nat,(1<=n/\n<=5)/\en=.tup [.str (wayW n),.int ((ls.length+1:Nat):Int)]/\zag top [] (za0 2 ls)=.error (n,ls.length+1)) ->
   k1 [some (D.lst (List.map D.int ns)),some (D.lst (List.map D.str ws)),some (dn top),some (D.int (life:Nat)),some (D.lst (rows.map Rw.d)),some (D.lst (ls.map D.str)),some en,none,none] M4:=fun rows ls en M4 sM hll hrl hln hrg hen=>by
  rw[e1];clear e1;have n3':NmW true top:=.inl htw;have s3:=(n3'.small (by omega)).2
  have t2:=digs9 hlf;obtain⟨g1,g2,g3,g4,g5⟩:=Q7O (top:=top) (life:=(life:Int)) (by omega) htw hlf
  have hh:LnOk (zas top life):=⟨by have:=Q3u s3 hlf;omega,g2,g3,g4⟩
  walk_at "q1";simp only[h105];walk_at "ev";simp only[dFrz];walk_at "ev";refine⟨top,top,0,rfl,n3',by omega,by omega,fun zt _ hzt=>?_⟩
  obtain rfl:=hzt rfl
  try walk_at "ev"
  refine⟨szL (by omega),szL (by omega),hlf.1,logS hlf,szL (by rw[Zd];simp only[Zk,Zu];omega),szL (by decide),_,_,rfl,rfl,szL (by simp only[Zi,Zk,Zu];omega),fun p hp=>?_⟩
  simp only[Q0e,Q5u hp];clear hp;have eg:[D.str (122::111::110::101::32::(zad top++[32]++digs ((life:Nat):Int).toNat))]++ls.map D.str=(zas top life::ls).map D.str:=rfl;rw[eg];have aok:∀ l∈zas top life::ls,LnP l:=fun l hl=>by
   rcases Zx.mp hl with rfl | hl
   ·exact⟨by have:=hh.le;omega,hh.nl⟩
   ·exact hln l hl
  have al:(zas top life::ls).length<=91:=by rw[Zk];omega
  have jw:∀ ls:List W,(∀ l∈ls,LnP l)->ls.length<=100->weight [10] ls<=16000000:=fun ls h1 h2=>by
   have:=Q1A (s:=[10]) (K:=700) ls 0 fun w hw=>(h1 w hw).le;refine Z7 (show weight [10] _<=_ from this) ?_;simp only[Zk,Zu];have:ls.length * (700+1)<=100 * 701:=mul_le_mul_right _ h2;omega
  have jn:∀ (ls:List W) (M8:DH) (Q:DK),weight [10] ls<=16000000->Q (.str (za4 [10] ls)) M8->mJoin (.str [10]) [.lst (ls.map D.str)] M8 Q:=fun ls M8 Q h1 h2=>⟨ls,rfl,(fun _ z=>D.noConfusion z),h1,h2⟩;refine jn _ _ _ (jw _ aok (by omega)) ?_
  rw[e1];clear e1;have zb:=Qbb (ls:=zas top life::ls) (by simp) (by omega) aok
  have rz:=Qbc hh g5 (by omega) zb.1
  generalize za4 [10] (zas top life::ls)=tx at zb rz;have zb2:=zb.2;clear zb aok al eg;walk_at "q1";simp only[h115];walk_at "ev";refine⟨tx,rfl,zb2,?_⟩;have ee:∀ x:D,eqB x x=true:=fun x=>(Q0s x x).mpr rfl;rcases hen with ⟨rfl,hrd⟩ | ⟨n,hn,rfl,hrd⟩;rotate_left
  ·rw[hrd]at rz;rw[rz];dsimp only;refine⟨hn,?_⟩
   try walk_at "ev"
   refine⟨rfl,rfl,ite2 (fun q=>absurd q (by rw[ee];decide)) fun _=>?_⟩
   rw[e1];clear e1;walk_at "q1";walk_at "q0"
   try walk_at "ev"
   exact⟨rfl,rfl,ite2 (fun _=>⟨M,sM,h⟩) fun q=>absurd (by show (!decide (wayW n=zaj))=true;rw[Zg (Q5F n hn)];rfl) q⟩
  rw[hrd]at rz;rw[rz];dsimp only
  try walk_at "ev"
  refine⟨rfl,rfl,ite2 (fun q=>absurd q (by rw[ee];decide)) fun _=>?_⟩
  rw[e1];clear e1;walk_at "q1";walk_at "q0"
  try walk_at "ev"
  refine⟨rfl,rfl,ite2 (fun q=>absurd q (by decide)) fun _=>?_⟩
  rw[e1];clear e1;walk_at "q1";simp only[h42];walk_at "ev";refine⟨tx,rfl,zb2,?_⟩;rw[rz];dsimp only;intro q M7 f7 m7 s7;refine .inl ⟨q,_,m7,?_⟩;rw[show subT q (rows.map Rw.d) (D.tup [dn top,D.int (life:Nat),D.ref q])=D.tup [dn top,D.int (life:Nat),D.lst (rows.map Rw.d)] from by simp[subT,subR,dn]]
  have sM8:Sub M (ddel M7 q):=fun a o e=>by
   have h1:=sM a o e;have aq:a≠q:=fun z=>by rw[z,f7]at h1;cases h1
   unfold ddel;rw[Zj aq];exact s7 a o h1
  generalize ddel M7 q=M8 at sM8;clear m7 s7 f7;rw[e1];clear e1;walk_at "q1";simp only[h117];walk_at "ev";refine⟨top,life,rows,rfl,hrg,hrl,?_⟩;refine ite2 (fun q=>absurd q (by decide)) fun _=>?_
  walk_at "q0"
  try walk_at "ev"
  have rok:∀ x∈rows,RowOk top x:=fun x hx=>(hrg.r x hx).1.toRowOk;refine⟨Q0N rok 8,Q0N rok 8,ite2 (fun q=>absurd q (by rw[ee];decide)) fun _=>?_⟩
  rw[e1];clear e1;walk_at "ev";simp only[h40,h42]
  try walk_at "ev"
  refine⟨top,life,rows,rfl,(n3'.small (by omega)).1,s3,hlf,by omega,fun x hx=>(hrg.r x hx).1.s,?_⟩
  have gok:∀ l∈zas top life::rows.map rowW,LnOk l:=fun l hl=>by
   rcases Zx.mp hl with rfl | hl
   ·exact hh
   ·obtain⟨x,hx,rfl⟩:=mem_map.mp hl;obtain⟨l1,l2,l3,l4,l5⟩:=(hrg.r x hx).1.line;exact⟨(hrg.r x hx).1.s.le,l2,l3,l4⟩
  have zg:=Q9n (ls:=zas top life::rows.map rowW) (by simp) (by rw[Zk,Zi];omega) gok
  have rg:zaG (zoneW top life rows)=.ok (top,life,rows):=by
   have r1:=Q4j (top:=top) rows [] 2 hrg.r (by rw[nil_append];exact hrg.p)
   rw[nil_append]at r1;exact Q7Q hh g5 (by omega) r1 zg.1
  refine⟨zoneW top life rows,rfl,zg.2,?_⟩;rw[rg];dsimp only;intro q M9 f9 m9 s9
  try walk_at "ev"
  have pl:plain 12 (.tup [dn top,.int (life:Nat),.lst (rows.map Rw.d)])=true:=by
   show (plain 11 (dn top)&&(plain 11 (.int (life:Nat))&&(plain 11 (.lst (rows.map Rw.d))&&true)))=true;rw[Q0H,Q0N rok 7];rfl
  refine⟨szL (by decide),q,rows.map Rw.d,m9,?_,pl,M,sM8.trans s9,?_⟩
  all_goals rw[show subT q (rows.map Rw.d) (D.tup [dn top,D.int (life:Nat),D.ref q])=D.tup [dn top,D.int (life:Nat),D.lst (rows.map Rw.d)] from by simp[subT,subR,dn]]
  ·exact pl
  ·rw[ee];exact h
 clear e1;refine⟨ns,3,rfl,fun n3'=>⟨by decide,ws,top,p,c,_,_,rfl,by rw[Q0j cp,Q0e],Q0e,cp,by rw[ZU];omega,hw,hwd,ht3,htw,fun rows ls q M' fq mq mp ms hll hrl hln hrg=>?_⟩⟩
 have qp:q≠p:=fun z=>by rw[z,Q0j cp,Q0e]at fq;cases fq
 have e3:ddel M' p q=some (.lst (ls.map D.str)):=by unfold ddel;rw[Zj qp];exact mq
 have s4:Sub M (ddel (ddel M' p) q):=fun a o e=>by
  have h1:=s1 a o e;have ap:a≠p:=dne e hp;have aq:a≠q:=fun z=>by rw[z,fq]at h1;cases h1
  unfold ddel;rw[Zj aq,Zj ap];exact ms a o ap h1
 refine⟨fun hrd=>⟨rfl,?_⟩,fun n hn hrd=>⟨rfl,?_⟩⟩
 ·simp only[mp,e3];exact fin rows ls _ _ s4 hll hrl hln hrg (.inl ⟨rfl,hrd⟩)
 ·simp only[mp,e3];exact fin rows ls _ _ s4 hll hrl hln hrg (.inr ⟨n,hn,rfl,hrd⟩)
noncomputable def top(i:Nat):Stmt:=PySem.Challenge.pw_namewell_k16_whole_any_lines.main.body.getD i (.Pass ⟨0,0,0,0⟩)
noncomputable def bls:List Str:=["len","reversed","tuple","isinstance","str","ord","all","int","enumerate","range","bool","list"]
noncomputable def cons:Nat->Option (Str×D)
 | 0=>some ("SMALL_LETTERS",D.str [97,98,99,100,101,102,103,104,105,106,107,108,109,110,111,112,113,114,115,116,117,118,119,120,121,122])
 | 1=>some ("FIGURES",D.str [48,49,50,51,52,53,54,55,56,57])
 | 8=>some ("WORD_SIGNS",D.str [97,98,99,100,101,102,103,104,105,106,107,108,109,110,111,112,113,114,115,116,117,118,119,120,121,122,65,66,67,68,69,70,71,72,73,74,75,76,77,78,79,80,81,82,83,84,85,86,87,88,89,90,48,49,50,51,52,53,54,55,56,57,45])
 | 9=>some ("LONGEST_WORD",D.int 12)
 | 10=>some ("MOST_WORDS",D.int 10)
 | 11=>some ("STAR",D.str [42])
 | 12=>some ("ELSE",D.str [101,108,115,101])
 | 13=>some ("DOWN",D.str [100,111,119,110])
 | 2=>some ("LONGEST_KIND",D.int 8)
 | 3=>some ("LONGEST_VALUE",D.int 40)
 | 4=>some ("LONGEST_LIFE",D.int 9)
 | 5=>some ("FIRST_SIGN",D.int 33)
 | 6=>some ("LAST_SIGN",D.int 126)
 | 7=>some ("PERCENT_SIGN",D.int 37)
 | _=>none
noncomputable def fns:Nat->Option FI
 | 10=>some ⟨"made_of",2,[],sp_a1⟩
 | 1=>some ⟨"at_or_beneath",2,[],sp_au⟩
 | 5=>some ⟨"is_star_name",1,[],sp_ar⟩
 | 6=>some ⟨"show_name",1,[],sp_ab⟩
 | 11=>some ⟨"is_kind",1,[],sp_ag⟩
 | 17=>some ⟨"names_a_name",1,[],sp_a8⟩
 | 13=>some ⟨"is_value_sign",1,[],sp_aI⟩
 | 12=>some ⟨"is_value",1,[],sp_aG⟩
 | 14=>some ⟨"read_life",1,[],sp_aw⟩
 | 41=>some ⟨"show_row",1,[],sp_aH⟩
 | 40=>some ⟨"show_zone",1,[],sp_aj⟩
 | 53=>some ⟨"clashes",2,[],sp_a7⟩
 | 44=>some ⟨"words_of",1,[],sp_ac⟩
 | 43=>some ⟨"told_lines",1,[],sp_aC⟩
 | 100=>some ⟨"_law_cell_at",2,[],sp_al⟩
 | 101=>some ⟨"_law_part",3,[],sp_a0⟩
 | 102=>some ⟨"_law_words",2,[],sp_aE⟩
 | 103=>some ⟨"_law_below",4,[],sp_aa⟩
 | 104=>some ⟨"_law_pointed",1,[],sp_ak⟩
 | 105=>some ⟨"_law_name_text",3,[],sp_a9⟩
 | 106=>some ⟨"_law_named",4,[],sp_ae⟩
 | 107=>some ⟨"_law_bad_name",1,[],sp_ax⟩
 | 108=>some ⟨"_law_kind",2,[],sp_ap⟩
 | 109=>some ⟨"_law_life",2,[],sp_af⟩
 | 110=>some ⟨"_law_piece",4,[],sp_aD⟩
 | 111=>some ⟨"_law_clashes",2,[],sp_ad⟩
 | 112=>some ⟨"_law_judged",4,[],sp_az⟩
 | 113=>some ⟨"_law_line",5,[],sp_aF⟩
 | 114=>some ⟨"_law_lines",5,[],sp_am⟩
 | 115=>some ⟨"_law_refusal",1,[],sp_an⟩
 | 116=>some ⟨"_law_is_row",2,[],sp_ay⟩
 | 117=>some ⟨"_law_holds",3,[],sp_aq⟩
 | _=>none
noncomputable def fxs:Nat->Option FX
 | 16=>some ⟨"read_word",1,[],sp_a3⟩
 | 15=>some ⟨"read_narrowest",2,[],sp_as⟩
 | 9=>some ⟨"read_words",2,[],sp_av⟩
 | 8=>some ⟨"read_below",3,[],sp_aJ⟩
 | 7=>some ⟨"read_name",3,[D.non,D.bl false],sp_a5⟩
 | 52=>some ⟨"refuse_clash",3,[],sp_ah⟩
 | 51=>some ⟨"refuse_cut",3,[],sp_at⟩
 | 48=>some ⟨"read_name_at",4,[],sp_a2⟩
 | 50=>some ⟨"read_value_at",4,[],sp_aA⟩
 | 49=>some ⟨"read_life_at",2,[],sp_a6⟩
 | 47=>some ⟨"read_rest",4,[],sp_aB⟩
 | 46=>some ⟨"read_row",4,[],sp_ai⟩
 | 45=>some ⟨"read_head",2,[],sp_ao⟩
 | 42=>some ⟨"read_zone",1,[],sp_a4⟩
 | _=>none
noncomputable def clsT:Nat->Option Str
 | 0=>some "NoName"
 | 1=>some "BadRow"
 | 2=>some "BadName"
 | 3=>some "Outside"
 | 4=>some "BadCut"
 | 5=>some "Clash"
 | _=>none
noncomputable def cls:CN:=fun c=>clsT (c % 64)
noncomputable abbrev s_zi:Stmt:=zc0 (top 3) 0
noncomputable def tab:Tab:={ fn:=fns,kfn:=fun _=>none,con:=cons,bl:=bls,fx:=fxs,cl:=cls,isx:=isxs,lk:=["BadRow","BadName","Outside","BadCut","Clash","ZoneError"],mt:=fun _=>none,ini:=fun _=>none,fd:=[],rw:=rws }
noncomputable abbrev sT(i:Nat):Stmt:=top i
noncomputable abbrev sM(i j:Nat):Stmt:=zc0 (top i) j
noncomputable abbrev FnI(K:Frag)(nm:Str)(st:Stmt):Prop:=∃ f oc od sl kV dc pm an cd ct,nsIn K mainGlobals nm=some (some (.ref f))/\K.lookup f=some ⟨oc,od,.func (fnOf nm nm (zac st) (za8 st) (za2 st) .none kV dc pm an cd ct),sl⟩/\codeIn K cd nm=true/\keepIn K (.ref f)=true
noncomputable abbrev MtI(K:Frag)(C:Addr)(nm qn:Str)(st:Stmt):Prop:=∃ f oc od sl kV dc pm an cd ct,findIn K (.ref C) nm=some (some (.ref f))/\isFn K (.ref f)=true/\K.lookup f=some ⟨oc,od,.func (fnOf nm qn (zac st) (za8 st) (za2 st) .none kV dc pm an cd ct),sl⟩/\codeIn K cd qn=true/\keepIn K (.ref f)=true
theorem fnI{K:Frag}{nm:Str}{st:Stmt}{f:Addr}{oc:Value}{od:Option Addr}{sl:Array (Option Value)}{kV dc pm:Value}{an:Option Addr}{cd ct:Value}(q1:nsIn K mainGlobals nm=some (some (.ref f)))(q2:K.lookup f=some ⟨oc,od,.func (fnOf nm nm (zac st) (za8 st) (za2 st) .none kV dc pm an cd ct),sl⟩)(q3:codeIn K cd nm=true)(q4:keepIn K (.ref f)=true):FnI K nm st:=⟨f,oc,od,sl,kV,dc,pm,an,cd,ct,q1,q2,q3,q4⟩
theorem mtI{K:Frag}{C:Addr}{nm qn:Str}{st:Stmt}{f:Addr}{oc:Value}{od:Option Addr}{sl:Array (Option Value)}{kV dc pm:Value}{an:Option Addr}{cd ct:Value}(q1:findIn K (.ref C) nm=some (some (.ref f)))(q0:isFn K (.ref f)=true)(q2:K.lookup f=some ⟨oc,od,.func (fnOf nm qn (zac st) (za8 st) (za2 st) .none kV dc pm an cd ct),sl⟩)(q3:codeIn K cd qn=true)(q4:keepIn K (.ref f)=true):MtI K C nm qn st:=⟨f,oc,od,sl,kV,dc,pm,an,cd,ct,q1,q0,q2,q3,q4⟩
noncomputable abbrev ObI(K:Frag)(C:Addr):Prop:=plainGet K C Str.empty=true/\hasDictIn K C=true/\plainOver K C=true/\findIn K (.ref C) "__setattr__" = some (some (.builtin "object.__setattr__"))/\makesIn K C=true/\keepIn K (.ref C)=true
theorem ObI.cls{K:Frag}{C:Addr}(h:ObI K C):Cls K C:=⟨h.1,h.2.1,h.2.2.1,h.2.2.2.1⟩
structure BoI(T:Tab)(b:CS)(N ps:List Str)(nm qn:Str)(st:Stmt)(sp:DSp):Prop where
 sc:zat N ps (za2 st)
 ck:(chkS T b).b ⟨N,(za2 st).names⟩ (za8 st)=true
 ln:∀ ds M R,sp ds M R->ds.length=ps.length
 ok:∀ ds M R,sp ds M R->evS T b (za6 R) (za5 N ds) M
 bd:∀ (kV doc pm:Value) (an:Option Addr) (cdv ct:Value) (us:List Value),us.length=ps.length->bindArgs (fnOf nm qn (zac st) (za8 st) (za2 st) .none kV doc pm an cdv ct) ⟨us,[]⟩=pure (ps.zip us)
 no:∀ c M,¬ T.xd c M
section
variable{P:Program}{w:World}{K:Frag}{h:Heap}{mg:Str->Option Value}{base:Heap}{T:Tab}{k:Nat}{b:CS}{N ps:List Str}{nm qn cl:Str}{st:Stmt}{sp:DSp}{C:Addr}{np:Nat}
theorem mkF(X:K.In h)(G:h.Ns mainGlobals mg)(H:FnI K nm st)(O:TabOk P w K mg base T k)(B:BoI T b N ps nm nm st sp)(e:ps.length=np):FOk P w K mg base ⟨nm,np,[],sp⟩ (k+1):=by
 obtain⟨f,oc,od,sl,kV,dc,pm,an,cd,ct,q1,q2,q3,q4⟩:=H;exact fok (Q5j b O (Q1K (st:=st) q2 q3 q4) B.sc B.ck B.ln B.ok B.no) (ZF X G q1) q4 e ((Q2U (st:=st) q2 q3 q4).binds B.bd)
theorem mkM(oa:nsIn K mainGlobals cl=some (some (.ref C)))(ob:ObI K C)(H:MtI K C nm qn st)(O:TabOk P w K mg base T k)(B:BoI T b N ps nm qn st sp):MtOk P w K mg base ⟨cl,nm,np,sp⟩ (k+2):=by
 obtain⟨f,oc,od,sl,kV,dc,pm,an,cd,ct,q1,q0,q2,q3,q4⟩:=H;exact⟨k+1,C,f,_,_,Zz _,oa,ob.cls,⟨q1,q0,q4⟩,Q5j b O (Q1K (st:=st) q2 q3 q4) B.sc B.ck B.ln B.ok B.no,(Q2U (st:=st) q2 q3 q4).binds B.bd⟩
theorem mkI(X:K.In h)(G:h.Ns mainGlobals mg)(oa:nsIn K mainGlobals cl=some (some (.ref C)))(ob:ObI K C)(H:MtI K C "__init__" qn st)(O:TabOk P w K mg base T k)(B:BoI T b N ps "__init__" qn st sp):MkOk P w K mg base ⟨cl,"__init__",np,sp⟩ (k+2):=by
 obtain⟨f,oc,od,sl,kV,dc,pm,an,cd,ct,q1,q0,q2,q3,q4⟩:=H;exact⟨k+1,C,f,_,_,Zz _,oa,ZF X G oa,⟨ob.2.2.2.2.1,q1,q0,ob.2.2.2.2.2⟩,Q5j b O (Q1K (st:=st) q2 q3 q4) B.sc B.ck B.ln B.ok B.no,(Q2U (st:=st) q2 q3 q4).binds B.bd⟩
end
structure BoX(T:Tab)(b:CS)(N ps:List Str)(nm qn:Str)(st:Stmt)(sp:DSpX):Prop where
 sc:zat N ps (za2 st)
 ck:(chkS T b).b ⟨N,(za2 st).names⟩ (za8 st)=true
 ln:∀ ds M R RX,sp ds M R RX->ds.length=ps.length
 ok:∀ ds M R RX,sp ds M R RX->evS { T with xd:=endX RX } b (za6 R) (za5 N ds) M
 bd:∀ (kV doc pm:Value) (an:Option Addr) (cdv ct:Value) (us:List Value),us.length=ps.length->bindArgs (fnOf nm qn (zac st) (za8 st) (za2 st) .none kV doc pm an cdv ct) ⟨us,[]⟩=pure (ps.zip us)
theorem mkX{P:Program}{w:World}{K:Frag}{h:Heap}{mg:Str->Option Value}{base:Heap}{T:Tab}{k:Nat}{b:CS}{N ps:List Str}{nm:Str}{st:Stmt}{sp:DSpX}{np:Nat}(X:K.In h)(G:h.Ns mainGlobals mg)(H:FnI K nm st)(O:TabOk P w K mg base T k)(B:BoX T b N ps nm nm st sp)(e:ps.length=np):XOk P w K mg base T.cl ⟨nm,np,[],sp⟩ (k+1):=by
 obtain⟨f,oc,od,sl,kV,dc,pm,an,cd,ct,q1,q2,q3,q4⟩:=H;exact xok (Q7B b O (Q1K (st:=st) q2 q3 q4) B.sc B.ck B.ln B.ok) (ZF X G q1) q4 e ((Q2U (st:=st) q2 q3 q4).binds B.bd)
structure ClI(K:Frag)(C f:Addr):Prop where
 wl:XLook K C
 yr:RowC K C f
 yd:hasDictIn K C=true
 yn:findIn K (.ref C) "row" = some none
theorem clR{K:Frag}{mg:Str->Option Value}{C f:Addr}{fd:FuncData}{c n:Nat}{x:Str}(q:c % 64=n)(hr:∀ c,c % 64=n->rws c=true)(hc:clsT n=some x)(r:ClI K C f)(D:DL.InitDef K mg f fd):zcb K mg tab.toTabC c x C :=
 ⟨fun h=>absurd (show rws c=false from h) (by rw[hr c q];decide),fun _=>⟨fun k=>(congrArg clsT (show (c % 64+64 * k) % 64=n by omega)).trans hc,⟨r.wl,r.yd,r.yn⟩,f,fd,r.yr,D⟩⟩
theorem Qbd:∀ ds M R,sp_law ds M R->ds.length=1:=by
 intro ds M R h;unfold sp_law dLaw at h;split at h
 ·rfl
 ·exact h.elim
open Lean in def mkN (p x:String):Ident:=mkIdent (Name.mkSimple (p++x))
open Lean in def mkS (xs : List String) : Array (TSyntax `term):=(xs.map fun s=>⟨(Syntax.mkStrLit s).raw⟩).toArray
set_option hygiene false
local macro_rules | `(tactic| walk_at "lm")=>`(tactic| repeat' (first | exact congrArg List.length h.1 | (refine Exists.elim h ?_; clear h; intro _ h) | (refine Or.elim h ?_ ?_ <;> clear h <;> intro h)))
local macro_rules | `(tactic| walk_at "ln")=>`(tactic| (intro _ _ _ h; walk_at "lm"))
local macro_rules | `(tactic| walk_at "lx")=>`(tactic| (intro _ _ _ _ h; walk_at "lm"))
open Lean in
local macro_rules | `(tactic| walk_at $s:str) => do
 let a:=(s.getString.splitOn " ").toArray
 let wd:=a[0]!
 if !["dF","dM","dI","dL","dX","dY"].contains wd then Macro.throwUnsupported
 let q:=a[1]!
 let g:=fun(p:String)=>mkN p q
 let h:=fun(p:String)=>mkN p a[2]!
 do
  let x:=(a[3]!.drop 3).toString
  let pl:=a[4]!.splitOn "."
  let st : TSyntax `term <- match pl with
   | [i, j] => `(sM $(Syntax.mkNumLit i) $(Syntax.mkNumLit j))
   | _ => `(sT $(Syntax.mkNumLit a[4]!))
  let np:=a[5]!.toNat!
  let lv:=Syntax.mkNumLit a[6]!
  let calls:=(a[7]!.splitOn ",").filter (fun e=>e != "" && e != "-")
  let ns:=mkS (a[8]!.splitOn ",")
  let ps:=ns.extract 0 np
  let nr:=(a[9]!.drop 1).toString.toList
  let mut acc : TSyntax `term <- `(TN)
  for e in calls.reverse do
   let c:=(e.toList.filter (fun c=>!c.isDigit)).head!
   let ab:=e.splitOn c.toString
   let n:=Syntax.mkNumLit ab[0]!
   let r:=mkN "R" ab[1]!
   acc <- match c with
    | 'M' => `(TabOk.consM (T := tab) (f := $n) rfl (MtOk.mono $r (by decide)) $acc rfl rfl)
    | 'X' => `(TabOk.consX (T := tab) (f := $n) rfl (XOk.mono $r (by decide)) $acc rfl rfl)
    | 'I' => `(TabOk.consI (T := tab) (f := $n) rfl (MkOk.mono $r (by decide)) $acc rfl rfl)
    | _ => `(TabOk.cons (T := tab) (f := $n) rfl (FOk.mono $r (by decide)) $acc rfl rfl)
  let cs : Array (TSyntax `term):=(calls.map fun e=>⟨(Syntax.mkNumLit (String.ofList (e.toList.takeWhile Char.isDigit))).raw⟩).toArray
  let mut ok : TSyntax `term:=mkN "ok_" x
  if nr != [] then
   ok <- `($ok _)
   for c in nr do ok <- if c == 'n' then `($ok (fun _ _ h => h)) else `($ok rfl)
  let ln : TSyntax `term <- if x == "law" then `(Qbd) else `(by walk_at "ln")
  let mut t : TSyntax `term <- `(rfl)
  for _ in [0:np] do t <- `(fun _ => $t)
  let le:=(#[mkIdent `len1,mkIdent `len2,mkIdent `len3,mkIdent `len4,mkIdent `len5])[np - 1]!
  let sc <- `(⟨rfl,rfl,rfl,by decide +kernel,rfl,by decide +kernel,by decide +kernel⟩)
  let w':=fun(p:String)=>mkN p (a[10]?.getD "")
  let nm:=Syntax.mkStrLit (a[11]?.getD "")
  let cl:=Syntax.mkStrLit (a[12]?.getD "")
  let nq:=Syntax.mkNumLit (toString (if wd == "dF" || wd == "dX" then np else np-1))
  let ac2 <- `((show TabOk l.prog w K mg base (tab.only [$cs,*]) ($lv - 1) from $acc))
  let bo <- `((BoI.mk (T := tab.only [$cs,*]) (b := $(mkN "b_" x)) (N := [$ns,*]) (ps := [$ps,*]) (st := $st) (sp := $(mkN "sp_" x)) $sc (by decide +kernel) $ln $ok (fun _ _ _ _ _ _ us hl => $le us hl $t) (fun _ _ h => h)))
  if wd == "dX" then
   let bx <- `((BoX.mk (T := tab.only [$cs,*]) (b := $(mkN "b_" x)) (N := [$ns,*]) (ps := [$ps,*]) (st := $st) (sp := $(mkN "sp_" x)) $sc (by decide +kernel) (by walk_at "lx") $ok (fun _ _ _ _ _ _ us hl => $le us hl $t)))
   `(tactic| have $(g "R") : XOk l.prog w K mg base cls ⟨$nm, $nq, [], $(mkN "sp_" x)⟩ $lv := mkX X G $(h "h") $ac2 $bx rfl)
  else if wd == "dY" then `(tactic| have $(g "Q") := Q7B (sp := $(mkN "sp_" x)) (N := [$ns,*]) (ps := [$ps,*]) $(mkN "b_" x) $ac2 (Q1K (st := $st) $(h "l") $(h "c") $(h "k")) $sc (by decide +kernel) (by walk_at "lx") $ok)
  else match wd with
  | "dL" => `(tactic| have $(g "Q") := Q5j (sp := $(mkN "sp_" x)) (N := [$ns,*]) (ps := [$ps,*]) $(mkN "b_" x) $ac2 (Q1K (st := $st) $(h "l") $(h "c") $(h "k")) $sc (by decide +kernel) $ln $ok)
  | "dF" => `(tactic| have $(g "R") : FOk l.prog w K mg base ⟨$nm, $nq, [], $(mkN "sp_" x)⟩ $lv := mkF X G $(h "h") $ac2 $bo rfl)
  | "dM" => `(tactic| have $(g "R") : MtOk l.prog w K mg base ⟨$cl, $nm, $nq, $(mkN "sp_" x)⟩ ($lv + 1) := mkM $(w' "oa") $(w' "ob") $(h "h") $ac2 $bo)
  | _ => `(tactic| have $(g "R") : MkOk l.prog w K mg base ⟨$cl, $nm, $nq, $(mkN "sp_" x)⟩ ($lv + 1) := mkI X G $(w' "oa") $(w' "ob") $(h "h") $ac2 $bo)
set_option hygiene true
noncomputable abbrev KtI(K:Frag)(C U0 U1 U2 U3 U4 U5:Addr)(b0 b1 b2 b3 b4 b5:Bool):Prop:=kitOne K (.ref C) (.ref U0)=some b0/\kitOne K (.ref C) (.ref U1)=some b1/\kitOne K (.ref C) (.ref U2)=some b2/\kitOne K (.ref C) (.ref U3)=some b3/\kitOne K (.ref C) (.ref U4)=some b4/\kitOne K (.ref C) (.ref U5)=some b5
theorem ix_g{K:Frag}{mg:Str->Option Value}{C U0 U1 U2 U3 U4 U5:Addr}{b0 b1 b2 b3 b4 b5:Bool}{n:Nat}{x:Str}(g0:mg "BadRow" = some (.ref U0))(g1:mg "BadName" = some (.ref U1))(g2:mg "Outside" = some (.ref U2))(g3:mg "BadCut" = some (.ref U3))(g4:mg "Clash" = some (.ref U4))(g5:mg "ZoneError" = some (.ref U5))
  (kt:KtI K C U0 U1 U2 U3 U4 U5 b0 b1 b2 b3 b4 b5) (hC:mg x=some (.ref C)) (wl:XLook K C) (hc:clsT n=some x) (ht:isxT n=[(("BadRow" : Str),b0),(("BadName" : Str),b1),(("Outside" : Str),b2),(("BadCut" : Str),b3),(("Clash" : Str),b4),(("ZoneError" : Str),b5)]):∀ c nm b,c % 64=n->isxs c nm=some b->zbC K mg cls c nm b:=by
 intro c nm b q h;unfold isxs at h;rw[q,ht]at h;obtain⟨k0,k1,k2,k3,k4,k5⟩:=kt;have e0:cls c=some x:=(congrArg clsT q).trans hc;have al:∀ {u:Addr} {y:Str} {b:Bool},mg y=some (.ref u)->kitOne K (.ref C) (.ref u)=some b->zbC K mg cls c y b:=fun{u _ _} g k=>⟨x,C,.ref u,.ref u,e0,hC,wl,.inl g,rfl,fun _ q=>q,k⟩;have all:∀ p∈[(("BadRow" : Str),b0),(("BadName" : Str),b1),(("Outside" : Str),b2),(("BadCut" : Str),b3),(("Clash" : Str),b4),(("ZoneError" : Str),b5)],zbC K mg cls c p.1 p.2:=by
  simp only[List.forall_mem_cons];exact⟨al g0 k0,al g1 k1,al g2 k2,al g3 k3,al g4 k4,al g5 k5,fun _ z=>nomatch z⟩
 exact all _ (PySem.mem_of_lookup h)
theorem ix_no:∀ c nm b,¬ c % 64=1->¬ c % 64=2->¬ c % 64=3->¬ c % 64=4->¬ c % 64=5->isxs c nm=some b->False:=by
 intro c nm b q1 q2 q3 q4 q5 h;unfold isxs at h;generalize c % 64=i at q1 q2 q3 q4 q5 h;unfold isxT at h;split at h <;> first | omega | contradiction | cases h
set_option maxHeartbeats 4000000 in
theorem all_mk{l:OpenLaw}{w:World}{K:Frag}{h:Heap}{mg:Str->Option Value}{fa:Addr}(X:K.In h)(G:h.Ns mainGlobals mg)(hfa:mg "law" = some (.ref fa))
  (h0:FnI K "made_of" (sT 12))
  (h1:FnI K "at_or_beneath" (sT 18))
  (h2:FnI K "is_star_name" (sT 19))
  (h3:FnI K "show_name" (sT 20))
  (h4:FnI K "read_word" (sT 25))
  (h5:FnI K "read_narrowest" (sT 24))
  (h6:FnI K "read_words" (sT 23))
  (h7:FnI K "read_below" (sT 22))
  {T8:Addr} {td8:Option Addr} {ts8:Array (Option Value)} {tc8:Value} {tn8:Nat} {f8:Addr} {od8 an8:Option Addr} {sl8:Array (Option Value)} {oc8 kV8 dc8 pm8 cd8 ct8:Value}
  (a8:nsIn K mainGlobals "read_name" = some (some (.ref f8))) (l8:K.lookup f8=some ⟨oc8,od8,.func (fnOf "read_name" "read_name" (zac (sT 21)) (za8 (sT 21)) (za2 (sT 21)) (.ref T8) kV8 dc8 pm8 an8 cd8 ct8),sl8⟩) (c8:codeIn K cd8 "read_name" = true) (k8:keepIn K (.ref f8)=true) (t8:K.lookup T8=some ⟨tc8,td8,.seq #[Value.none,Value.bool false] tn8,ts8⟩)
  (h9:FnI K "is_kind" (sT 35))
  (h10:FnI K "names_a_name" (sT 36))
  (h11:FnI K "is_value_sign" (sT 38))
  (h12:FnI K "is_value" (sT 37))
  (h13:FnI K "read_life" (sT 39))
  (h14:FnI K "show_row" (sT 42))
  (h15:FnI K "show_zone" (sT 41))
  (h16:FnI K "clashes" (sT 54))
  (h17:FnI K "refuse_clash" (sT 53))
  (h18:FnI K "refuse_cut" (sT 52))
  (h19:FnI K "read_name_at" (sT 49))
  (h20:FnI K "read_value_at" (sT 51))
  (h21:FnI K "read_life_at" (sT 50))
  (h22:FnI K "read_rest" (sT 48))
  (h23:FnI K "words_of" (sT 45))
  (h24:FnI K "read_row" (sT 47))
  (h25:FnI K "read_head" (sT 46))
  (h26:FnI K "told_lines" (sT 44))
  (h27:FnI K "read_zone" (sT 43))
  (h28:FnI K "_law_cell_at" (sT 56))
  (h29:FnI K "_law_part" (sT 57))
  (h30:FnI K "_law_words" (sT 58))
  (h31:FnI K "_law_below" (sT 59))
  (h32:FnI K "_law_pointed" (sT 60))
  (h33:FnI K "_law_name_text" (sT 61))
  (h34:FnI K "_law_named" (sT 62))
  (h35:FnI K "_law_bad_name" (sT 63))
  (h36:FnI K "_law_kind" (sT 64))
  (h37:FnI K "_law_life" (sT 65))
  (h38:FnI K "_law_piece" (sT 66))
  (h39:FnI K "_law_clashes" (sT 67))
  (h40:FnI K "_law_judged" (sT 68))
  (h41:FnI K "_law_line" (sT 69))
  (h42:FnI K "_law_lines" (sT 70))
  (h43:FnI K "_law_refusal" (sT 71))
  (h44:FnI K "_law_is_row" (sT 72))
  (h45:FnI K "_law_holds" (sT 73))
  (h46:FnI K "law" (sT 74))
  {C0:Addr} (e0:nsIn K mainGlobals "NoName" = some (some (.ref C0))) (x0:PySem.W.excIn K C0 [.type "ValueError",.type "Exception",.type "BaseException",.type "object"] "ValueError.__new__" = true)
  {C1:Addr} (e1:nsIn K mainGlobals "BadRow" = some (some (.ref C1)))
  {C2:Addr} (e2:nsIn K mainGlobals "BadName" = some (some (.ref C2)))
  {C3:Addr} (e3:nsIn K mainGlobals "Outside" = some (some (.ref C3)))
  {C4:Addr} (e4:nsIn K mainGlobals "BadCut" = some (some (.ref C4)))
  {C5:Addr} (e5:nsIn K mainGlobals "Clash" = some (some (.ref C5)))
  {X0:Addr} (n0:nsIn K mainGlobals "ZoneError" = some (some (.ref X0)))
  {X1:Addr} (n1:nsIn K mainGlobals "WellError" = some (some (.ref X1)))
  (w0:XLook K C1)
  (w1:XLook K C2)
  (w2:XLook K C3)
  (w3:XLook K C4)
  (w4:XLook K C5)
  (w5:XLook K X0)
  {fz:Addr} {odz anz:Option Addr} {slz:Array (Option Value)} {ocz kVz dcz pmz cdz ctz:Value} (az:findIn K (.ref C1) "__init__" = some (some (.ref fz))) (lz:K.lookup fz=some ⟨ocz,odz,.func (fnOf "__init__" "ZoneError.__init__" (zac s_zi) (za8 s_zi) (za2 s_zi) .none kVz dcz pmz anz cdz ctz),slz⟩) (cz:codeIn K cdz "ZoneError.__init__" = true) (kz:keepIn K (.ref fz)=true) (yz:WInit K X1)
  (r1:ClI K C1 fz)
  (r2:ClI K C2 fz)
  (r3:ClI K C3 fz)
  (r4:ClI K C4 fz)
  (r5:ClI K C5 fz)
  (u1:KtI K C1 C1 C2 C3 C4 C5 X0 true false false false false true)
  (u2:KtI K C2 C1 C2 C3 C4 C5 X0 false true false false false true)
  (u3:KtI K C3 C1 C2 C3 C4 C5 X0 false false true false false true)
  (u4:KtI K C4 C1 C2 C3 C4 C5 X0 false false false true false true)
  (u5:KtI K C5 C1 C2 C3 C4 C5 X0 false false false false true true)
  (z0:nsIn K mainGlobals "len" = some none)
  (z1:nsIn K mainGlobals "reversed" = some none)
  (z2:nsIn K mainGlobals "tuple" = some none)
  (z3:nsIn K mainGlobals "isinstance" = some none)
  (z4:nsIn K mainGlobals "str" = some none)
  (z5:nsIn K mainGlobals "ord" = some none)
  (z6:nsIn K mainGlobals "all" = some none)
  (z7:nsIn K mainGlobals "int" = some none)
  (z8:nsIn K mainGlobals "enumerate" = some none)
  (z9:nsIn K mainGlobals "range" = some none)
  (z10:nsIn K mainGlobals "bool" = some none)
  (z11:nsIn K mainGlobals "list" = some none)
  {y0:Tok} (g0:nsIn K mainGlobals "SMALL_LETTERS" = some (some (.str "abcdefghijklmnopqrstuvwxyz" y0)))
  {y1:Tok} (g1:nsIn K mainGlobals "FIGURES" = some (some (.str "0123456789" y1)))
  {y2:Tok} (g2:nsIn K mainGlobals "WORD_SIGNS" = some (some (.str "abcdefghijklmnopqrstuvwxyzABCDEFGHIJKLMNOPQRSTUVWXYZ0123456789-" y2)))
  {y3:Tok} (g3:nsIn K mainGlobals "LONGEST_WORD" = some (some (.int 12 y3)))
  {y4:Tok} (g4:nsIn K mainGlobals "MOST_WORDS" = some (some (.int 10 y4)))
  {y5:Tok} (g5:nsIn K mainGlobals "STAR" = some (some (.str "*" y5)))
  {y6:Tok} (g6:nsIn K mainGlobals "ELSE" = some (some (.str "else" y6)))
  {y7:Tok} (g7:nsIn K mainGlobals "DOWN" = some (some (.str "down" y7)))
  {y8:Tok} (g8:nsIn K mainGlobals "LONGEST_KIND" = some (some (.int 8 y8)))
  {y9:Tok} (g9:nsIn K mainGlobals "LONGEST_VALUE" = some (some (.int 40 y9)))
  {y10:Tok} (g10:nsIn K mainGlobals "LONGEST_LIFE" = some (some (.int 9 y10)))
  {y11:Tok} (g11:nsIn K mainGlobals "FIRST_SIGN" = some (some (.int 33 y11)))
  {y12:Tok} (g12:nsIn K mainGlobals "LAST_SIGN" = some (some (.int 126 y12)))
  {y13:Tok} (g13:nsIn K mainGlobals "PERCENT_SIGN" = some (some (.int 37 y13)))
  : ∃ fd:FuncData,(∀ (s:Shared) (v:Value),BindsTo s fd ⟨[v],[]⟩ [("_law_script",v)])/\∀ base:Heap,K.In base->base.Ns mainGlobals mg->FnOk l.prog w K mg base CX0 13 fa fd ["_law_script"] (lSp K sp_law):=by
 obtain⟨f46,oc46,od46,sl46,kV46,dc46,pm46,an46,cd46,ct46,a46,l46,c46,k46⟩:=h46;have e:=hfa.symm.trans (ZF X G a46);cases e;have b8_0:Binds K (fnOf "read_name" "read_name" (zac (sT 21)) (za8 (sT 21)) (za2 (sT 21)) (.ref T8) kV8 dc8 pm8 an8 cd8 ct8) ["text","top","star"] [Value.none,Value.bool false]:=fun s us X hl=>by
  have hl':us.length=1:=by simpa using hl
  match us,hl' with
  | [_],_=>first | exact binds_K X rfl t8 rfl rfl rfl | exact .of_eq rfl
 have b8_1:Binds K (fnOf "read_name" "read_name" (zac (sT 21)) (za8 (sT 21)) (za2 (sT 21)) (.ref T8) kV8 dc8 pm8 an8 cd8 ct8) ["text","top","star"] [Value.bool false]:=fun s us X hl=>by
  have hl':us.length=2:=by simpa using hl
  match us,hl' with
  | [_,_],_=>first | exact binds_K X rfl t8 rfl rfl rfl | exact .of_eq rfl
 have b8_2:Binds K (fnOf "read_name" "read_name" (zac (sT 21)) (za8 (sT 21)) (za2 (sT 21)) (.ref T8) kV8 dc8 pm8 an8 cd8 ct8) ["text","top","star"] []:=fun s us X hl=>by
  have hl':us.length=3:=by simpa using hl
  match us,hl' with
  | [_,_,_],_=>first | exact binds_K X rfl t8 rfl rfl rfl | exact .of_eq rfl
 have nb:∀ x∈bls,mg x=none:=by
  intro x hx;simp only[bls,Zx,ZN,or_false]at hx;rcases hx with rfl | rfl | rfl | rfl | rfl | rfl | rfl | rfl | rfl | rfl | rfl | rfl
  ·exact mg_none_of X G z0
  ·exact mg_none_of X G z1
  ·exact mg_none_of X G z2
  ·exact mg_none_of X G z3
  ·exact mg_none_of X G z4
  ·exact mg_none_of X G z5
  ·exact mg_none_of X G z6
  ·exact mg_none_of X G z7
  ·exact mg_none_of X G z8
  ·exact mg_none_of X G z9
  ·exact mg_none_of X G z10
  ·exact mg_none_of X G z11
 have hcon:∀ i p,cons i=some p->∃ u v,mg p.1=some u/\L2.RelV v u/\∀ H,Den K H p.2 v:=by
  intro i p hp;unfold cons at hp;split at hp
  ·cases hp;exact Q1J (ZF X G g0) (by decide +kernel) (by decide +kernel)
  ·cases hp;exact Q1J (ZF X G g1) (by decide +kernel) (by decide +kernel)
  ·cases hp;exact Q1J (ZF X G g2) (by decide +kernel) (by decide +kernel)
  ·cases hp;exact Q0Z (ZF X G g3)
  ·cases hp;exact Q0Z (ZF X G g4)
  ·cases hp;exact Q1J (ZF X G g5) (by decide +kernel) (by decide +kernel)
  ·cases hp;exact Q1J (ZF X G g6) (by decide +kernel) (by decide +kernel)
  ·cases hp;exact Q1J (ZF X G g7) (by decide +kernel) (by decide +kernel)
  ·cases hp;exact Q0Z (ZF X G g8)
  ·cases hp;exact Q0Z (ZF X G g9)
  ·cases hp;exact Q0Z (ZF X G g10)
  ·cases hp;exact Q0Z (ZF X G g11)
  ·cases hp;exact Q0Z (ZF X G g12)
  ·cases hp;exact Q0Z (ZF X G g13)
  ·cases hp
 have Dz:DL.InitDef K mg fz _:=⟨⟨"ZoneError.__init__","WellError",s_zi,X1,_,_,_,_,_,_,_,_,_,_,_,_,_,_,Q2U (st:=s_zi) lz cz kz,⟨rfl,rfl,rfl,by decide +kernel,rfl,by decide +kernel,by decide +kernel⟩,rfl,rfl,rfl,rfl,rfl,by decide,ZF X G n1,yz⟩,(Q2U (st:=s_zi) lz cz kz).binds (ps:=["self","row"]) fun _ _ _ _ _ _ us hl=>len2 us hl fun _ _=>rfl⟩
 have hcl:∀ c x,cls c=some x->∃ C,mg x=some (.ref C)/\zcb K mg tab.toTabC c x C:=by
  intro c x hc;have hc:clsT (c % 64)=some x:=hc;unfold clsT at hc;split at hc
  ·rename_i q;cases hc;exact⟨C0,ZF X G e0,fun _=>⟨_,_,_,_,excBase_ValueError,x0⟩,fun h=>absurd (show rws c=true from h) (by unfold rws;rw[q];decide)⟩
  ·rename_i q;cases hc;exact⟨C1,ZF X G e1,clR q (fun c q=>by unfold rws;rw[q];rfl) rfl r1 Dz⟩
  ·rename_i q;cases hc;exact⟨C2,ZF X G e2,clR q (fun c q=>by unfold rws;rw[q];rfl) rfl r2 Dz⟩
  ·rename_i q;cases hc;exact⟨C3,ZF X G e3,clR q (fun c q=>by unfold rws;rw[q];rfl) rfl r3 Dz⟩
  ·rename_i q;cases hc;exact⟨C4,ZF X G e4,clR q (fun c q=>by unfold rws;rw[q];rfl) rfl r4 Dz⟩
  ·rename_i q;cases hc;exact⟨C5,ZF X G e5,clR q (fun c q=>by unfold rws;rw[q];rfl) rfl r5 Dz⟩
  ·cases hc
 have hix:∀ c nm b,isxs c nm=some b->zbC K mg cls c nm b:=by
  intro c nm b h;by_cases q1':c % 64=1
  ·exact ix_g (ZF X G e1) (ZF X G e2) (ZF X G e3) (ZF X G e4) (ZF X G e5) (ZF X G n0) u1 (ZF X G e1) r1.wl rfl rfl c nm b q1' h
  by_cases q2':c % 64=2
  ·exact ix_g (ZF X G e1) (ZF X G e2) (ZF X G e3) (ZF X G e4) (ZF X G e5) (ZF X G n0) u2 (ZF X G e2) r2.wl rfl rfl c nm b q2' h
  by_cases q3':c % 64=3
  ·exact ix_g (ZF X G e1) (ZF X G e2) (ZF X G e3) (ZF X G e4) (ZF X G e5) (ZF X G n0) u3 (ZF X G e3) r3.wl rfl rfl c nm b q3' h
  by_cases q4':c % 64=4
  ·exact ix_g (ZF X G e1) (ZF X G e2) (ZF X G e3) (ZF X G e4) (ZF X G e5) (ZF X G n0) u4 (ZF X G e4) r4.wl rfl rfl c nm b q4' h
  by_cases q5':c % 64=5
  ·exact ix_g (ZF X G e1) (ZF X G e2) (ZF X G e3) (ZF X G e4) (ZF X G e5) (ZF X G n0) u5 (ZF X G e5) r5.wl rfl rfl c nm b q5' h
  exact (ix_no c nm b q1' q2' q3' q4' q5' h).elim
 have hlk:∀ x∈tab.lk,∃ C,mg x=some (.ref C)/\XLook K C:=by
  intro x hx;simp only[tab,Zx,ZN,or_false]at hx;rcases hx with rfl | rfl | rfl | rfl | rfl | rfl
  ·exact⟨C1,ZF X G e1,w0⟩
  ·exact⟨C2,ZF X G e2,w1⟩
  ·exact⟨C3,ZF X G e3,w2⟩
  ·exact⟨C4,ZF X G e4,w3⟩
  ·exact⟨C5,ZF X G e5,w4⟩
  ·exact⟨X0,ZF X G n0,w5⟩
 refine⟨fnOf "law" "law" (zac (sT 74)) (za8 (sT 74)) (za2 (sT 74)) .none kV46 dc46 pm46 an46 cd46 ct46,fun s v=>.of_eq rfl,fun base kb nbase=>?_⟩;have TN:∀ {k:Nat},TabOk l.prog w K mg base (tab.only []) k:=TabOk.nil hcon nb hcl hix hlk;walk_at "dF 0 0 ok_a1 12 2 1 - text,signs a - made_of";walk_at "dF 1 1 ok_au 18 2 1 - name,top a - at_or_beneath";walk_at "dF 2 2 ok_ar 19 1 1 - name ar - is_star_name";walk_at "dF 3 3 ok_ab 20 1 1 - name a - show_name";walk_at "dX 4 4 ok_a3 25 1 2 10F0 text arrr - read_word";walk_at "dX 5 5 ok_as 24 2 3 16X4 text,star arr - read_narrowest";walk_at "dX 6 6 ok_av 23 2 4 15X5,16X4 text,star,parts,wider arr - read_words";walk_at "dX 7 7 ok_aJ 22 3 5 9X6 text,top,star ar - read_below";walk_at "dY 8 8 ok_a5 21 3 6 8X7 text,top,star,name arr";have R8:XOk l.prog w K mg base cls ⟨"read_name",3,[D.non,D.bl false],sp_a5⟩ 6:=⟨6,_,_,_,Zz _,Q8,ZF X G a8,k8,rfl,fun j hj=>match j,hj with
  | 0,_=>⟨[Value.none,Value.bool false],[V.non,V.bl false],b8_0,(.cons rfl (.cons rfl .nil)),fun H=>(.cons .non (.cons (.bl _) .nil))⟩
  | 1,_=>⟨[Value.bool false],[V.bl false],b8_1,(.cons rfl .nil),fun H=>(.cons (.bl _) .nil)⟩
  | 2,_=>⟨[],[],b8_2,.nil,fun H=>.nil⟩⟩
 walk_at "dF 9 9 ok_ag 35 1 2 10F0 text arrr - is_kind";walk_at "dF 10 10 ok_a8 36 1 1 - kind arr - names_a_name";walk_at "dF 11 11 ok_aI 38 1 1 - sign,number arrr - is_value_sign";walk_at "dF 12 12 ok_aG 37 1 2 13F11 text arr - is_value";walk_at "dF 13 13 ok_aw 39 1 2 10F0 text arrr - read_life";walk_at "dF 14 14 ok_aH 42 1 2 17F10,6F3 row,name,life,kind,value arr - show_row";walk_at "dF 15 15 ok_aj 41 1 3 41F14,6F3 zone,top,life,lines arr - show_zone";walk_at "dF 16 16 ok_a7 54 2 1 - row,other arr - clashes";walk_at "dX 17 17 ok_ah 53 3 2 53F16 number,row,rows,other ar - refuse_clash";walk_at "dX 18 18 ok_at 52 3 2 5F2 number,row,top arr - refuse_cut";walk_at "dX 19 19 ok_a2 49 4 7 7X8 number,text,top,star ar - read_name_at";walk_at "dX 20 20 ok_aA 51 4 8 12F12,17F10,48X19 number,kind,text,top arrr - read_value_at";walk_at "dX 21 21 ok_a6 50 2 3 14F13 number,text,life ar - read_life_at";walk_at "dX 22 22 ok_aB 48 4 9 50X20,11F9,49X21 number,name,words,top,life,kind arrr - read_rest";walk_at "dF 23 23 ok_ac 45 1 1 - line a - words_of";walk_at "dX 24 24 ok_ai 47 4 10 47X22,1F1,48X19,44F23 number,line,top,rows,words,name arrrr - read_row";walk_at "dX 25 25 ok_ao 46 2 8 49X21,48X19,44F23 number,line,words,top arrr - read_head";walk_at "dF 26 26 ok_aC 44 1 1 - text,lines a - told_lines";walk_at "dX 27 27 ok_a4 43 1 11 52X17,51X18,46X24,45X25,43F26 text,lines,head,top,rows,number,line,row arrrrr - read_zone";walk_at "dF 28 28 ok_al 56 2 1 - _law_script,_law_k a - _law_cell_at";walk_at "dF 29 29 ok_a0 57 3 1 - _law_cell,_law_k,_law_many a - _law_part";walk_at "dF 30 30 ok_aE 58 2 2 101F29 _law_one,_law_other,_law_signs,_law_size,_law_at,_law_words_here,_law_k,_law_word,_law_j,_law_number ar - _law_words";walk_at "dF 31 31 ok_aa 59 4 2 101F29 _law_words_here,_law_cell,_law_k,_law_many,_law_name,_law_j ar - _law_below";walk_at "dF 32 32 ok_ak 60 1 1 - _law_name,_law_text,_law_word a - _law_pointed";walk_at "dF 33 33 ok_a9 61 3 2 104F32 _law_name,_law_top,_law_way,_law_text ar - _law_name_text";walk_at "dF 34 34 ok_ae 62 4 3 105F33,101F29,103F31 _law_words_here,_law_top,_law_cell,_law_k,_law_name arrr - _law_named";walk_at "dF 35 35 ok_ax 63 1 1 - _law_cell,_law_some a - _law_bad_name";walk_at "dF 36 36 ok_ap 64 2 2 101F29 _law_cell,_law_fault ar - _law_kind";walk_at "dF 37 37 ok_af 65 2 2 101F29 _law_cell,_law_fault,_law_life_here ar - _law_life";walk_at "dF 38 38 ok_aD 66 4 4 108F36,109F37,107F35,106F34 _law_words_here,_law_top,_law_cell,_law_fault,_law_name,_law_value,_law_life_here arrrr - _law_piece";walk_at "dF 39 39 ok_ad 67 2 1 - _law_rows,_law_row,_law_one a - _law_clashes";walk_at "dF 40 40 ok_az 68 4 2 111F39 _law_top,_law_rows,_law_name,_law_piece_here,_law_life_here,_law_kind_here,_law_value,_law_made ar - _law_judged";walk_at "dF 41 41 ok_aF 69 5 3 112F40 _law_top,_law_rows,_law_piece_here,_law_cell,_law_fault,_law_gap,_law_end,_law_line_here,_law_name ar - _law_line";walk_at "dF 42 42 ok_am 70 5 5 113F41,110F38,101F29 _law_words_here,_law_top,_law_rows,_law_cells,_law_spoiled,_law_lines_here,_law_end,_law_cell,_law_fault,_law_piece_here,_law_line_here,_law_way arrr - _law_lines";walk_at "dF 43 43 ok_an 71 1 12 42X27 _law_text,_law_found,e arnrr - _law_refusal";walk_at "dF 44 44 ok_ay 72 2 1 - _law_top,_law_row a - _law_is_row";walk_at "dF 45 45 ok_aq 73 3 2 116F44,111F39 _law_found,_law_top,_law_life_here,_law_k arr - _law_holds";walk_at "dL 46 46 ok_law 74 1 13 42X27,40F15,117F45,115F43,105F33,114F42,100F28,103F31,101F29,102F30 _law_script,_law_words_here,_law_top,_law_life_here,_law_rows,_law_lines_here,_law_end,_law_text,_law_found arrrrrrrrrr";exact Q46
theorem walk{l:OpenLaw}{q:Program}{loose:List Str}{XP:(Str->Option Value)->Heap->Prop}{YP:World->Heap->Prop}{d:DefRec}{K:Params->Frag}(hn:l.most=some 63)(hdf:d.params.defaults=[])
  (hY:∀ (w:World) (h:Heap),YP w h->(K w.params).In h)
  (F:∀ (w:World) (mg:Str->Option Value) (fa:Addr) (h:Heap),(K w.params).In h->h.Ns mainGlobals mg->mg d.name=some (.ref fa) ->
   ∃ fd:FuncData,(∀ (s:Shared) (u:Value),BindsTo s fd ⟨[u],[]⟩ [("_law_script",u)])/\∀ base:Heap,(K w.params).In base->base.Ns mainGlobals mg->FnOk l.prog w (K w.params) mg base CX0 13 fa fd ["_law_script"] (lSp (K w.params) sp_law)) :
  PySem.W.WalkO q loose XP YP l.row.toRowW d [] (fun f vs=>PySem.call f vs) :=
 L2.walk_of (n:=63) (k:=13) (x:="_law_script") (CX:=fun _=>CX0) (sp:=fun w=>lSp (K w.params) sp_law) hn (by decide) hdf ⟨rfl,by decide,by decide⟩ hY F (fun _ _ a ns hl hO hS=>QbX hl hO hS) fun _ _ _ _ _ z=>z
end My
open PySem PySem.W PyProof.Rows
set_option hygiene false
open Lean in
local macro_rules | `(tactic| walk_at $s:str) => do
 let a:=s.getString.splitOn " "
 if a.head! != "dK" then Macro.throwUnsupported
 let mut ts : Array (TSyntax `tactic):=#[]
 for e in a.tail! do
  let x:=My.mkN "" e
  let t <- match e.toList.head! with
   | 'f' => `(tactic| case $x:ident => (refine' My.fnI ?q1 ?q2 ?q3 ?q4; (case q1 => k_is); (case q2 => k_is); (case q3 => k_is); (case q4 => k_is)))
   | 'm' => `(tactic| case $x:ident => (refine' My.mtI ?q1 ?q2 ?q3 ?q4 ?q5; (case q1 => k_is); (case q2 => k_is); (case q3 => k_is); (case q4 => k_is); (case q5 => k_is)))
   | 'o' => `(tactic| case $x:ident => (refine ⟨?_, ?_, ?_, ?_, ?_, ?_⟩ <;> k_is))
   | 'x' => `(tactic| case $x:ident => k_exc)
   | 'r' => `(tactic| case $x:ident => exact ⟨⟨by k_is, by k_is, by k_is, by k_is, by k_is, by k_is, by k_is, by k_is, by k_is, by k_is⟩, ⟨by kernel_rfl, by k_is, by k_is, by k_is, by k_is, by k_is⟩, by k_is, by k_is⟩)
   | 'w' => `(tactic| case $x:ident => exact ⟨by k_is, by k_is, by k_is, by k_is, by k_is, by k_is, by k_is, by k_is, by k_is, by k_is⟩)
   | 'y' => `(tactic| case $x:ident => exact ⟨by k_is, by k_is, by k_is⟩)
   | 'u' => `(tactic| case $x:ident => (refine ⟨?_, ?_, ?_, ?_, ?_, ?_⟩ <;> kit_is))
   | _ => `(tactic| case $x:ident => k_is)
  ts:=ts.push t
 `(tactic| ($[$ts]*))
set_option hygiene true
set_option maxRecDepth 100000 in
set_option maxHeartbeats 0 in
theorem PySem.Challenge.cw_namewell_k16_whole_any_lines_holds : PySem.Challenge.rw_namewell_k16_whole_any_lines.Holds := by
 refine TH.pack.2 ?_
 delta TH.pack;dsimp only
 k_fill
 refine My.walk (l:=PySem.Challenge.rw_namewell_k16_whole_any_lines) rfl rfl (fun w h Y=>PySem.W.kIn_of Y) ?F
 case F =>
  intro w mg fa h KX G hmg;refine' My.all_mk KX G hmg ?f0 ?f1 ?f2 ?f3 ?f4 ?f5 ?f6 ?f7 ?a8 ?l8 ?c8 ?k8 ?t8 ?f9 ?f10 ?f11 ?f12 ?f13 ?f14 ?f15 ?f16 ?f17 ?f18 ?f19 ?f20 ?f21 ?f22 ?f23 ?f24 ?f25 ?f26 ?f27 ?f28 ?f29 ?f30 ?f31 ?f32 ?f33 ?f34 ?f35 ?f36 ?f37 ?f38 ?f39 ?f40 ?f41 ?f42 ?f43 ?f44 ?f45 ?f46 ?e0 ?x0 ?e1 ?e2 ?e3 ?e4 ?e5 ?n0 ?n1 ?w0 ?w1 ?w2 ?w3 ?w4 ?w5 ?az ?lz ?cz ?kz ?yz ?r1 ?r2 ?r3 ?r4 ?r5 ?u1 ?u2 ?u3 ?u4 ?u5 ?z0 ?z1 ?z2 ?z3 ?z4 ?z5 ?z6 ?z7 ?z8 ?z9 ?z10 ?z11 ?g0 ?g1 ?g2 ?g3 ?g4 ?g5 ?g6 ?g7 ?g8 ?g9 ?g10 ?g11 ?g12 ?g13;walk_at "dK f0 f1 f2 f3 f4 f5 f6 f7 a8 l8 c8 k8 t8 f9 f10 f11 f12 f13 f14 f15 f16 f17 f18 f19 f20 f21 f22 f23 f24 f25 f26 f27 f28 f29 f30 f31 f32 f33 f34 f35 f36 f37 f38 f39 f40 f41 f42 f43 f44 f45 f46 e0 x0 e1 e2 e3 e4 e5 n0 n1 w0 w1 w2 w3 w4 w5 az lz cz kz yz r1 r2 r3 r4 r5 u1 u2 u3 u4 u5 z0 z1 z2 z3 z4 z5 z6 z7 z8 z9 z10 z11 g0 g1 g2 g3 g4 g5 g6 g7 g8 g9 g10 g11 g12 g13"
